import PyProof.Rows.All
import Wide.All
import OpenK.AllK
import Wide.FinOn
import KE.KNestM
import Lean
import PyProof.EqAt
import PyProof.EqKinds
import PyProof.TupleCall
import PyProof.StationsW
import PyProof.ExcBaseAll.ValueError
import PyProof.InstStoreFacts
import PyProof.RulesAs
import PyProof.RulesDel
import KE.KLam
import PyProof.ExcArgsOwn
import PyProof.AutoListH
import PyProof.StrWalks
import PyProof.StrBlockH
import PyProof.WalkInts
import PyProof.SeqI3
import PyProof.Rows.SetFrom
import PyProof.ZipIter
import KE.KTabLook
import PyProof.StrLaws
import KE.KIntText
import KE.KStrOpen
import PyProof.StrLawsTight
import PyProof.Rows.StrFit
import PyProof.Draws
import PyProof.EnumMake
import PyProof.StrCalls2
import PyProof.Rows.StrSplitJoin
import PyProof.CollectIter
import PyProof.StrBlock2
import PyProof.Rows.SortWalk
import PyProof.Rows.CallKwBuiltin
import KE.KMinBuiltin
import KE.KRevSl
import PyProof.DictItemsLoops
import PyProof.CollectWalk
import PyProof.ListRange
import KE.KSortAsk
import PyProof.SetRoads
import KE.KRevIter
import PyProof.FactsAll.range_2
import PyProof.IsRules
import PyProof.DictItems
import KE.KSortTup
import PyProof.DictWalks
import PySem.Challenge.RW_lanescribe_k44_whole_a_halt_stops_at_onc
abbrev Zl:=PySem.Addr
abbrev Zp:=PySem.Shared
abbrev Zs:=PySem.W.Frag
abbrev ZB:=PySem.FuncData
abbrev ZE:=PySem.Program
abbrev ZH:=PySem.World
abbrev ZI:=PySem.Value
abbrev ZN:=PySem.Heap
abbrev ZO:=PySem.Around
abbrev ZT:=PySem.Expr
abbrev ZU:=PySem.Scope
abbrev ZY:=PySem.Value→PySem.Shared→Prop
abbrev Y1:=PySem.Str→Option PySem.Value
abbrev Y2:=List PySem.Str
abbrev Y3:=List PySem.Value
abbrev YA:=Array PySem.Value
abbrev YE:=Option PySem.Addr
abbrev YI:=List PySem.Addr
abbrev YN:=List (PySem.Addr×PySem.Obj)
abbrev YO:=PySem.Result→PySem.Shared→Prop
abbrev YR:=List (PySem.Str×PySem.Addr)
abbrev YU:=List PySem.Expr
abbrev YV:=Array (Option PySem.Value)
abbrev aaa:=@PySem.wpAny_bind
abbrev aab:=@if_neg
abbrev aac:=@if_pos
abbrev aad:=@PySem.wpAny_pure
abbrev aae:=@Nat.le_refl
abbrev aaf:=@List.length_map
abbrev aag:=@List.mem_cons
abbrev aah:=@Nat.le_trans
abbrev aai:=@List.mem_cons_of_mem
abbrev aaj:=@PySem.Heap.get?_push_of_some
abbrev aak:=@PySem.Heap.lt_size
abbrev aal:=@List.mem_singleton
abbrev aam:=@List.mem_append
abbrev aan:=@List.mem_cons_self
abbrev aao:=@List.mem_map
abbrev aap:=@List.mem_of_getElem?
abbrev aaq:=@List.getElem?_map
abbrev aar:=@Nat.ne_of_lt
abbrev aas:=@List.size_toArray
abbrev aat:=@Nat.lt_of_lt_of_le
abbrev aau:=@List.mem_iff_getElem?
abbrev aav:=@PySem.Heap.get?_push_size
abbrev aaw:=@List.length_append
abbrev aax:=@List.mem_append_right
abbrev aay:=@List.map_cons
abbrev aaz:=@List.length_cons
abbrev aaA:=@List.map_append
abbrev aaB:=@congrArg
abbrev aaC:=@Ne.symm
abbrev aaD:=@List.getElem?_eq_some_iff
abbrev aaE:=@PySem.wpAny_field
abbrev aaF:=@PySem.wpAny_mono
abbrev aaG:=@Bool.false_ne_true
abbrev aaH:=@List.getElem?_eq_getElem
abbrev aaI:=@List.flatMap_cons
abbrev aaJ:=@True.intro
abbrev aaK:=@List.nodup_cons
abbrev aaL:=@List.mem_append_left
abbrev aaM:=@Bool.and_eq_true
abbrev aaN:=@List.mem_flatMap
abbrev aaO:=@Option.some.inj
abbrev aaP:=@Nat.lt_irrefl
abbrev aaQ:=@List.take_length
abbrev aaR:=@decide_eq_false
abbrev aaS:=@PySem.Paired.length
abbrev aaT:=@Nat.le_of_lt
abbrev aaU:=@Nat.zero_le
abbrev aaV:=@List.length_take
abbrev aaW:=@List.take_add_one
abbrev aaX:=@beq_iff_eq
abbrev aaY:=@PySem.Heap.size_push
abbrev aaZ:=@PySem.wpAny_truthy_bool
abbrev aa0:=@List.append_nil
abbrev aa1:=@List.flatMap_append
abbrev aa2:=@PySem.wpAny_newObj_type
abbrev aa3:=@PySem.wpAny_Call_Name_kw
abbrev aa4:=@PySem.wpAny_standAt
abbrev aa5:=@PySem.mem_of_lookup
abbrev aa6:=@decide_eq_true
abbrev aa7:=@List.lookup_cons
abbrev aa8:=@decide_eq_true_eq
abbrev aa9:=@PySem.wpAny_setField_rec
abbrev aba:=@List.not_mem_nil
abbrev abb:=@Bool.eq_iff_iff
abbrev abc:=@PySem.wpAny_call
abbrev abd:=@Nat.le_succ
abbrev abe:=@PySem.wpAny_holding
abbrev abf:=@PySem.wpAny_call_entry
abbrev abg:=@Array.getElem?_eq_some_iff
abbrev abh:=@PySem.PassesOwn.never
abbrev abi:=@List.take_of_length_le
abbrev abj:=@List.nodup_append
abbrev abk:=@Option.map_eq_some_iff
abbrev abl:=@PySem.wpAny_Name
abbrev abm:=@List.nodup_nil
abbrev abn:=@PySem.Heap.get?_update_other
abbrev abo:=@List.length_nil
abbrev abp:=@Bool.false_eq_true
abbrev abq:=@PySem.F.plainAttrs_list
abbrev abr:=@List.any_cons
abbrev abt:=@Nat.lt_of_le_of_lt
abbrev abu:=@PySem.wpAny_rule
abbrev abv:=@PySem.F.slot_list_append
abbrev abw:=@PySem.wpAny_setField
abbrev abx:=@List.sum_cons
abbrev aby:=@List.map_map
abbrev abz:=@beq_eq_false_iff_ne
abbrev abA:=@Nat.ne_of_gt
abbrev abB:=@Nat.le_of_eq
abbrev abC:=@List.of_mem_zip
abbrev abD:=@PyProof.Rows.slot_tuple_getitem
abbrev abE:=@List.find?_cons
abbrev abF:=@List.forIn_cons
abbrev abG:=@PySem.W.kia_one
abbrev abH:=@PySem.W.kia_tup
abbrev abI:=@PySem.wpAny_seqItems
abbrev abJ:=@PySem.Heap.get?_update_self
abbrev abK:=@PySem.AutoSeq1.wpAny_loadPart'
abbrev abL:=@Int.emod_nonneg
abbrev abM:=@Int.emod_lt_of_pos
abbrev abN:=@PySem.Str.length_append
abbrev abO:=@PySem.F.type_list_append
abbrev abP:=@Bool.true_and
abbrev abQ:=@List.mem_or_eq_of_mem_set
abbrev abR:=@List.zipWith_cons_cons
abbrev abS:=@List.all_eq_true
abbrev abT:=@List.filterMap_cons
abbrev abU:=@List.getElem?_set_self
abbrev abV:=@List.getElem?_set_ne
abbrev abW:=@PySem.wpAny_execs_nil
abbrev abX:=@Bool.false_and
abbrev abY:=@PySem.wpAny_pyIter_tuple
abbrev abZ:=@PyProof.Rows.callWith_type1
abbrev ab0:=@PySem.wpAny_passesOwn
abbrev ab1:=@PySem.wpAny_loadPart
abbrev ab2:=@List.all_cons
abbrev ab3:=@List.map_nil
abbrev ab4:=@List.any_eq_true
abbrev ab5:=@Bool.not_eq_true
abbrev ab6:=@And.intro
abbrev ab7:=@PySem.Obj.data_mapFields
abbrev ab8:=@PySem.wpAny_loadPart_at
abbrev ab9:=@PySem.Heap.get?_update_ne
abbrev aca:=@List.getElem?_set
abbrev acb:=@Array.toList_append
abbrev acd:=@Nat.le_add_right
abbrev ace:=@Int.zero_add
abbrev acf:=@PySem.F.plainAttrs_str
abbrev acg:=@PySem.BindsTo.of_defaults
abbrev ach:=@List.map_set
abbrev aci:=@List.Sublist.refl
abbrev acj:=@List.eraseIdx_sublist
abbrev ack:=@List.filter_append
abbrev acl:=@Sum.inr.inj
abbrev acm:=@List.mem_range
abbrev acn:=@Nat.lt_succ_self
abbrev aco:=@PySem.W.methodCall_KW
abbrev acp:=@List.getElem?_append_right
abbrev acq:=@List.getElem?_take_of_lt
abbrev acr:=@List.length_replicate
abbrev acs:=@PySem.Calls.callWith_builtin
abbrev acu:=@List.eraseIdx_cons_succ
abbrev acv:=@Array.getElem?_toList
abbrev acw:=@of_decide_eq_true
abbrev acx:=@beq_self_eq_true
abbrev acy:=@List.getD_eq_getElem?_getD
abbrev acz:=@List.range_succ_eq_map
abbrev acA:=@Nat.not_lt_zero
abbrev acB:=@PySem.F.slot_tuple_iterator_next
abbrev acC:=@PySem.wpAny_pyIter_enum
abbrev acD:=@PySem.F.slot_enumerate_next
abbrev acE:=@Int.le_trans
abbrev acF:=@List.getElem?_inj
abbrev acG:=@List.set_cons_succ
abbrev acH:=@List.dropLast_concat
abbrev acI:=@PySem.Heap.get?_none_of_le
abbrev acJ:=@PySem.wpAny_loadName_local
abbrev acK:=@PySem.wpAny_loadName_cell
abbrev acL:=@PySem.wpAny_loadName_free
abbrev acM:=@Array.length_toList
abbrev acN:=@PySem.wpAny_pyIter_list
abbrev acO:=@List.any_eq_false
abbrev acP:=@PySem.W.plainGet_of
abbrev acQ:=@PySem.Within.cons
abbrev acR:=@PySem.Heap.Ns1.of_empty
abbrev acS:=@PySem.Calls.spliced_nil
abbrev acT:=@PySem.Calls.spliced_cons
abbrev acU:=@PySem.W.callWith_K
abbrev acV:=@PySem.W.cellsFrom_some
abbrev acW:=@Int.toNat_natCast
abbrev acX:=@PySem.wpAny_sequenceKey
abbrev acY:=@Option.isSome_map
abbrev acZ:=@PySem.wpAny_comprehension_free
abbrev ac0:=@PySem.Obj.isFreed_of_fields
abbrev ac1:=@bne_self_eq_false
abbrev ac2:=@List.mem_of_mem_take
abbrev ac3:=@PySem.F.slot_dict_items
abbrev ac4:=@List.cons_ne_nil
abbrev ac5:=@List.length_pos_iff
abbrev ac6:=@List.set_cons_zero
abbrev ac7:=@List.pairwise_cons
abbrev ac8:=@List.zipWith_append
abbrev ac9:=@PySem.PassesOwn.leaving
abbrev ada:=@Int.fdiv_eq_ediv_of_nonneg
abbrev adb:=@List.getElem?_append_left
abbrev adc:=@List.eraseIdxIfInBounds_toArray
abbrev add:=@PySem.F.excBase_ValueError
set_option Elab.async false
set_option linter.all false
set_option maxRecDepth 1000000
set_option maxHeartbeats 0
set_option tactic.hygienic false
set_option compiler.extract_closed false
set_option hygiene false
namespace Kd
open PySem PySem.W
noncomputable section
noncomputable def Dg{p q:Program}{a:List Str}{Xt:Shared->Bool}{c:Type}{g:Shared->c}{i:World->c}{N:Nat}(e:opening p=plainProg p.main.scope.names)(o:Nat.ble 600 N=true)(f:∀s,fenceModules? p s=some s)
 (h:∀(w:World)(b:OsState),(topFrom treeTable p w N ⟨boot_heap w.params,Array.mk [],boot_drawn,boot_toks,b⟩).map (λs=>(openSeen q a (importedModules p.main.body) Xt true s,g s))=some (openGood q a,i w)):LeftO p q a Xt g i N:=λw=>by
 obtain⟨⟨j,l,d,k,b⟩,m,n⟩:=abk.mp (boot_open e o f w);obtain⟨rfl,rfl,rfl,rfl⟩:j=boot_heap w.params/\l=Array.mk []/\d=boot_drawn/\k=boot_toks:=by simpa using n
 unfold openEnds;rw[m];exact h w b
noncomputable abbrev u(x:String):Str:=Str.ofString x
noncomputable abbrev vs(x:String)(t:Nat):Value:=.str (Str.ofString x) t
noncomputable abbrev vi(x:Int)(t:Nat):Value:=.int x t
noncomputable abbrev vr(x:Nat):Value:=.ref x
noncomputable abbrev vt(x:String):Value:=.type x
noncomputable abbrev vn:Value:=.none
noncomputable abbrev vb:Value:=.bool true
noncomputable abbrev vf(t:Nat):Value:=.str (Str.ofString "/claim/cut.py") t
noncomputable abbrev ot(x:Array Value):Obj:={cls:=.type "tuple",data:=Data.seq x}
noncomputable abbrev oc(x:Array Value):Obj:={cls:=.type "code",data:=Data.fields x}
noncomputable abbrev of(n q:String)(a:Arguments)(b:List Stmt)(s:Scope)(d m c:Value):Obj:={cls:=.type "function",data:=Data.func {name:=Str.ofString n,qualname:=Str.ofString q,params:=a,body:=FuncBody.stmts b,scope:=s,globals:=3,closure:=[],defaults:=d,kwdefaults:=.none,pyModule:=m,code:=c}}
noncomputable abbrev de(P:Params)(x:String)(t:Nat)(v:Value):DictEntry:={hash:=PyData.keyHash P (Str.ofString x),key:=.str (Str.ofString x) t,val:=v}
noncomputable def tp(i:Nat):Stmt:=PySem.Challenge.pw_lanescribe_k44_whole_a_halt_stops_at_onc.main.body.getD i (.Pass ⟨0,0,0,0⟩)
noncomputable def meth(i j:Nat):Stmt:=match tp i with
 |.ClassDef _ _ _ body _ _ _ _ _ _ _=>body.getD j (.Pass ⟨0,0,0,0⟩)
 |_=>.Pass ⟨0,0,0,0⟩
noncomputable def dA(s:Stmt):Arguments:=match s with
 |.FunctionDef _ a _ _ _ _ _ _ _ _=>a
 |_=>{posonlyargs:=[],args:=[],vararg:=none,kwonlyargs:=[],kw_defaults:=[],kwarg:=none,defaults:=[]}
noncomputable def dB(s:Stmt):List Stmt:=match s with
 |.FunctionDef _ _ b _ _ _ _ _ _ _=>b
 |_=>[]
noncomputable def dS(s:Stmt):Scope:=match s with
 |.FunctionDef _ _ _ _ _ _ sc _ _ _=>sc
 |_=>{kind:=.function,names:=[],isGenerator:=false,isCoroutine:=false}
abbrev TA(i:Nat):Arguments:=dA (tp i)
abbrev TB(i:Nat):List Stmt:=dB (tp i)
abbrev TS(i:Nat):Scope:=dS (tp i)
abbrev MA(i j:Nat):Arguments:=dA (meth i j)
abbrev MB(i j:Nat):List Stmt:=dB (meth i j)
abbrev MS(i j:Nat):Scope:=dS (meth i j)
noncomputable abbrev og(n q:String)(a:Arguments)(b:List Stmt)(s:Scope):Obj:={cls:=.none,data:=Data.func {name:=Str.ofString n,qualname:=Str.ofString q,params:=a,body:=FuncBody.stmts b,scope:=s,globals:=0,closure:=[],defaults:=.none,kwdefaults:=.none}}
abbrev gt(n:String)(i:Nat):Obj:=og n n (TA i) (TB i) (TS i)
abbrev gm(n q:String)(i j:Nat):Obj:=og n q (MA i j) (MB i j) (MS i j)
abbrev ft(n:String)(i:Nat):Value->Value->Value->Obj:=of n n (TA i) (TB i) (TS i)
abbrev fm(n q:String)(i j:Nat):Value->Value->Value->Obj:=of n q (MA i j) (MB i j) (MS i j)
noncomputable abbrev oq(n:String)(a:Nat)(q:String)(b c:Nat)(l k:Int)(r s:Nat)(x y z:Value)(t:Int)(d:Nat):Obj:=oc #[vs n a,vs q b,vf c,vi l 0,vi k 0,vi 0 0,vi 0 0,vi 3 0,vr r,vb,vi 181 0,vr s,vn,x,y,z,vi t 0,vi l 0,vf d]
abbrev ok(n:String)(a b c:Nat)(l k:Int)(r s:Nat)(x y z:Value)(t:Int)(d:Nat):Obj:=oq n a n b c l k r s x y z t d
abbrev z1:Value:=vs "lanescribe.errors" 194
abbrev z2:Value:=vs "lanescribe.lanes" 936
abbrev z3:Value:=vs "lanescribe.recorder" 1879
abbrev z4:Value:=vs "lanescribe.stand" 1527
abbrev z5:Value:=vs "law_lanescribe_k44_whole_a_halt_stops_at_onc" 2216
abbrev z6:Value:=vs "lanescribe.kinds" 708
abbrev z7:Value:=vs "lanescribe.tallies" 1439
abbrev z8:Value:=vs "lanescribe.clocks" 846
abbrev z9:Value:=vs "lanescribe.sieve" 1353
abbrev WF:Value:=vs "lanescribe.merge" 1317
abbrev X6:Value:=vs "ScribeError" 204
abbrev Z7:Value:=vs "ScribeError" 196
noncomputable def nm(t:Nat)(l:List String):List Value:=List.rec (λ_=>[]) (λx _ a t=>.str (Str.ofString x) t::a (t+1)) l t
abbrev on(t:Nat)(l:List String):Obj:=ot ⟨nm t l⟩
noncomputable def lm(c:Nat)(l:List (Nat×Nat)):List Value:=List.rec [] (λx _ a=>.int x.1 0::.int c 0::.ref x.2::a) l
abbrev ol(c:Nat)(l:List (Nat×Nat)):Obj:={cls:=.none,data:=Data.fields ⟨lm c l⟩}
abbrev od(n:Nat)(l:List DictEntry):Obj:={cls:=.type "dict",data:=Data.dict ⟨l⟩ n}
abbrev dr(P:Params)(x:String)(t a:Nat):DictEntry:=de P x t (.ref a)
abbrev dn(P:Params)(x:String)(t:Nat):DictEntry:=de P x t .none
noncomputable def dl(P:Params)(l:List (String×Nat×Nat))(z:List DictEntry):List DictEntry:=List.rec z (λx _ a=>dr P x.1 x.2.1 x.2.2::a) l
noncomputable def r38(P:Params)(a b c:Nat):Obj:=od 1 [de P "most" a (vi b c)]
noncomputable def r39(P:Params)(a:Nat)(b:Value)(c d e:Nat)(f:String)(g:Nat)(h:String)(i:Nat)(j:String)(k:Nat)(l m:String)(n o:Nat):Obj:=od 4 [de P "__module__" a b,de P "__firstlineno__" (a+4) (vi c (a+3)),dr P "__init__" d e,dr P f (a+21) g,dr P h i (g+7),dr P j k (g+14),dr P l (a+43) (e+26),dr P m n o,dr P "__static_attributes__" (i+28) (o+1),dr P "__dict__" (i+30) (o+4),dr P "__weakref__" (i+32) (o+5),dn P "__doc__" (i+33)]
noncomputable def r1(a b:String)(c d e f g h i:Nat)(t:List Obj):List Obj:=gm a b c d::oq a e b (e+1) (e+2) f g h (h+1) (vr (h+2)) (vr (h+3)) (vr (h+4)) i (i+1)::t
noncomputable def r2  (t:List Obj):List Obj:=ot #[]::{cls:=vn,data:=Data.fields #[]}::t
noncomputable def r3(P:Params)(a b c d e:Nat)(f:String)(g:Nat)(h:String)(i:Nat)(j:String)(t:List Obj):List Obj:=od 2 [de P "__module__" (a+7) z1,de P "__firstlineno__" (a+11) (vi b (a+10)),dr P "__init__" c d,dr P "__static_attributes__" e (d+1),dn P "__doc__" (e+1)]::{cls:=vt "type",data:=Data.cls {name:=u f,bases:=[vr g],mro:=[vr (d+3),vr g,vt h,vt "Exception",vt "BaseException",vt "object"],ns:=(d+2),qualname:=u f},slots:=#[some (vr i),none,some (vs f a),some (vs f (a+8)),some (Value.builtin j),some (vb)]}::t
noncomputable def r4(a:String)(b c d:Nat)(e:Value)(t:List Obj):List Obj:=oc #[vs a b,vs a (b+1),vf (b+2),vi c 0,vi 0 0,vi 0 0,vi 0 0,vi 0 0,vr (d+1),Value.bool false,vi 181 0,vr (d+2),vn,vn,vn,vn,vi (b+3) 0,vi c 0,vf (b+4)]::{cls:=vt "frame",slots:=#[some (vr (d+3)),some (vr 3),some (vr d),none,some e,none,some (vr 0)]}::t
noncomputable def r5(P:Params)(a:Nat)(b:String)(c d e f:Nat)(t:List Obj):List Obj:={cls:=vt "builtin_function_or_method",data:=Data.fields #[Value.builtin "type.__prepare__",vt "type"]}::od 5 [de P "__module__" a z1,de P "__qualname__" (a+2) (vs b (a+1)),de P "__firstlineno__" (a+4) (vi c (a+3)),dr P "__init__" d e,dr P "__static_attributes__" f (e+1)]::t
noncomputable def r6(a:Nat)(t:List Obj):List Obj:={cls:=vt "super",data:=Data.fields #[vr a,vr a,vr a]}::{cls:=vt "builtin_function_or_method",data:=Data.fields #[Value.builtin "object.__init_subclass__",vr a]}::t
noncomputable def r9(a:String)(b c d:Nat)(t:List Obj):List Obj:={cls:=vt "type",data:=Data.cls {name:=u a,bases:=[vt "object"],mro:=[vr (b+1),vt "object"],ns:=b,qualname:=u a},slots:=#[none,none,some (vs a c),some (vs a (c+8)),some (Value.builtin "object.__new__"),some (vb)]}::{cls:=vt "getset_descriptor",data:=Data.fields #[vs "__dict__" d,vr (b+1),Value.builtin "function.__dict__",Value.builtin "function.__dict__#set"]}::t
noncomputable def r11(a b:String)(c d e f g h i:Nat)(j:Value)(t:List Obj):List Obj:=r1 a b c d e f g (h+1) i<|fm a b c d (vr h) j (vr (h+6))::t
noncomputable def r12(a b:Nat)(t:List Obj):List Obj:={cls:=vt "getset_descriptor",data:=Data.fields #[vs "__weakref__" a,vr b,Value.builtin "ExceptionGroup.__weakref__",vn]}::(r6 b<|t)
noncomputable def r15(a:String)(b c d e f g:Nat)(h:Value)(t:List Obj):List Obj:=gt a b::ok a c (c+1) (c+2) d e f (f+1) (vr (f+2)) (vr (f+3)) (vr (f+4)) g (g+1)::ft a b vn h (vr (f+5))::t
noncomputable def r16  (t:List Obj):List Obj:=ot #[]::{cls:=vt "builtin_function_or_method",data:=Data.fields #[Value.builtin "type.__prepare__",vt "type"]}::t
noncomputable def r18(a:Nat)(b:List String)(t:List Obj):List Obj:=r2<|on a b::ot #[]::t
noncomputable def r19(a:Nat)(b:List String)(c d:String)(e f g h i j:Nat)(k:Value)(t:List Obj):List Obj:=r18 (a+3) b<|r1 c d e f a g h i j<|fm c d e f vn k (vr (i+5))::t
noncomputable def r20(a:Nat)(b:List String)(c d:String)(e f g h i j:Nat)(k:Value)(l:List String)(m n:String)(o p q:Nat)(t:List Obj):List Obj:=r19 a b c d e f g h i j k<|r19 (j+3) l m n e (f+1) o p (i+7) q k<|t
noncomputable def r22(a:Nat)(b:List String)(c:String)(d e f g h:Nat)(i:Value)(t:List Obj):List Obj:=r18 (a+3) b<|r15 c d a e f g h i<|t
noncomputable def r23(a b:String)(c d e f g h:Nat)(i:Value)(t:List Obj):List Obj:=gm a b c d::oq a e b (e+1) (e+2) f g h (h+1) vn vn (vr (h+2)) (e+3) (e+4)::fm a b c d vn i (vr (h+3))::t
noncomputable def r26(a:String)(b c d e f:Nat)(g:Value)(t:List Obj):List Obj:=oc #[vs a b,vs a (b+1),vf (b+2),vi c 0,vi 2 0,vi 0 0,vi 1 0,vi 3 0,vr (d+1),vb,vi 181 0,vr (d+2),vn,vr (d+3),vr (d+4),vr (d+5),vi e 0,vi c 0,vf (e+1)]::{cls:=vt "function",data:=Data.func {name:=u a,qualname:=u a,params:=TA f,body:=FuncBody.stmts (TB f),scope:=TS f,globals:=3,closure:=[],defaults:=vn,kwdefaults:=vr d,pyModule:=g,code:=vr (d+6)}}::t
noncomputable def r27(a:List (Nat×Nat))(t:List Obj):List Obj:=ot #[]::ol 4 a::t
noncomputable def r28(a:String)(b c d e f:Nat)(g:Value)(t:List Obj):List Obj:=gt a b::ok a c (c+1) (c+2) d e f (f+1) vn vn (vr (f+2)) (c+3) (c+4)::ft a b vn g (vr (f+3))::t
noncomputable def r29(a b:String)(c d e f g h i j:Nat)(k:Value)(t:List Obj):List Obj:=gm a b c d::oc #[vs a e,vs b (e+1),vf (e+2),vi f 0,vi g 0,vi 0 0,vi h 0,vi 3 0,vr (i+1),vb,vi 181 0,vr (i+2),vn,vr (i+3),vr (i+4),vr (i+5),vi j 0,vi f 0,vf (j+1)]::{cls:=vt "function",data:=Data.func {name:=u a,qualname:=u b,params:=MA c d,body:=FuncBody.stmts (MB c d),scope:=MS c d,globals:=3,closure:=[],defaults:=vn,kwdefaults:=vr i,pyModule:=k,code:=vr (i+6)}}::t
noncomputable def r30(P:Params)(a b c:Nat)(t:List Obj):List Obj:=on (a+16) ["word"]::od 3 [de P "__module__" a z1,de P "__firstlineno__" (a+4) (vi b (a+3)),dr P "__init__" (a+15) c,dr P "__static_attributes__" (a+17) (c+1),dr P "__weakref__" (a+19) (c+4),dn P "__doc__" (a+20)]::t
noncomputable def r31(P:Params)(a b:Nat)(c:String)(d e f g:Nat)(t:List Obj):List Obj:=ot #[vr a]::(r5 P b c d e f g<|t)
noncomputable def r33(P:Params)(a:String)(b c d:Nat)(e:String)(f g:Nat)(h i:String)(t:List Obj):List Obj:=r4 a (b+2) c (d+2) z1<|on (b+12) [""]::(r18 (b+16) ["self","words"]<|r11 "__init__" e f 0 (b+13) (c+2) 2 (d+7) (b+18) z1<|ot #[]::(r3 P b c (b+20) (d+14) (b+21) a g h d i<|t))
noncomputable def r34(P:Params)(a:Nat)(b:Value)(c d e:Nat)(f:String)(g:Nat)(h:String)(t:List Obj):List Obj:=od 4 [de P "__module__" (a+7) b,de P "__firstlineno__" (a+11) (vi c (a+10)),dr P "__init__" d e,dr P f (d+8) (e+7),dr P "twin" (d+16) (e+14),dr P "__static_attributes__" g (e+15),dr P "__dict__" (g+2) (e+18),dr P "__weakref__" (g+4) (e+19),dn P "__doc__" (g+5)]::(r9 h (e+16) a (g+1)<|t)
noncomputable def r35(P:Params)(a:Nat)(b:Value)(c:String)(d e f:Nat)(g:String)(h:Nat)(t:List Obj):List Obj:=r16<|od 7 [de P "__module__" a b,de P "__qualname__" (a+2) (vs c (a+1)),de P "__firstlineno__" (a+4) (vi d (a+3)),dr P "__init__" e f,dr P g (e+8) (f+7),dr P "twin" (e+16) (f+14),dr P "__static_attributes__" h (f+15)]::t
noncomputable def r36(P:Params)(a b c:Nat)(d:String)(e f g:Nat)(t:List Obj):List Obj:=r6 a<|r31 P b c d e (c+13) f g<|t
noncomputable def r37(P:Params)(a:String)(b c d:Nat)(e:String)(f g:Nat)(h i j:String)(t:List Obj):List Obj:=r33 P a b c d e f g h i<|r36 P (d+17) g (b+32) j (c+4) (d+34) (b+46)<|t
noncomputable def xR(P:Params)(t:List DictEntry):List DictEntry:=dn P "__doc__" 166::dn P "__package__" 167::de P "__loader__" 168 (Value.builtin "__main__.__loader__#opaque")::dn P "__spec__" 169::(dl P [("__annotations__",170,6),("__builtins__",171,4)]<|de P "__file__" 173 (vf 172)::dn P "__cached__" 174::(dl P [("_wall",193,21),("ScribeError",225,39),("BadName",250,60),("BadBounds",275,80),("BadTest",300,100),("BadSize",325,120),("BadTime",350,140),("BadKeys",375,160)]<|t))
noncomputable def qH(P:Params)(t:List DictEntry):List DictEntry:=dl P [("BadTie",400,180),("BadCause",425,200),("Taken",450,220),("Full",475,240),("NotTop",500,260),("Stopped",525,280),("Busy",550,300)]<|t
noncomputable def u_(P:Params)(t:List DictEntry):List DictEntry:=dl P [("BadValue",575,319),("Broken",602,338),("Missing",632,358),("NoLane",657,379),("NoKind",682,399),("NoTicket",707,419)]<|de P "LIMIT" 711 (vi 999999 710)::de P "MOST_LETTERS" 713 (vi 8 712)::de P "MOST_FIELDS" 715 (vi 4 714)::dr P "is_name" 722 428::t
noncomputable def yC(P:Params)(t:List DictEntry):List DictEntry:=dl P [("need_name",729,435),("need_fields",740,442),("bounds_text",746,447),("Kind",845,520)]<|de P "MOST_AMOUNT" 849 (vi 99999 848)::de P "MOST_LANES" 851 (vi 6 850)::de P "HIGHEST_MOST" 855 (vi 1000000000000 854)::de P "GROUND" 858 (vi (-1) 857)::(dl P [("need_lanes",865,531),("need_ties",876,538),("need_most",883,545),("need_all",892,552),("bounds",898,557),("raised",904,562),("amounts",911,568),("ring",924,576),("ring_behind",935,583)]<|de P "PAGES" 939 (vi 4 938)::de P "ROOM" 941 (vi 8 940)::de P "FEWEST_PAGES" 943 (vi 2 942)::de P "MOST_PAGES" 945 (vi 16 944)::de P "LEAST_ROOM" 947 (vi 5 946)::de P "MOST_ROOM" 949 (vi 12 948)::(dl P [("need_pages",956,590),("need_room",963,597),("told_from",973,604),("place_behind",982,611),("Claim",1033,642),("Page",1081,678)]<|t))
noncomputable def Bg(P:Params)(t:List DictEntry):List DictEntry:=dl P [("Lane",1316,853),("need_cause",1328,864),("ties_of",1334,869),("merged",1340,874),("ordered",1352,882)]<|de P "MOST_PARTS" 1356 (vi 15 1355)::de P "MOST_DEEP" 1358 (vi 5 1357)::(dl P [("WITHIN",1368,883),("SIGN_OF",1375,884),("is_word",1382,891),("is_number",1389,898),("is_leaf",1397,905),("count_parts",1403,910),("is_test",1410,917),("need_test",1417,924),("passes",1427,931),("passes_leaf",1438,938)]<|de P "MOST_KEYS" 1442 (vi 16 1441)::t)
noncomputable def Jh(P:Params)(t:List DictEntry):List DictEntry:=de P "KEYS_LIMIT" 1444 (vi 64 1443)::de P "MOST_NAMED" 1446 (vi 4 1445)::(dl P [("need_keys",1455,945),("Tally",1526,996)]<|de P "MOST_KINDS" 1530 (vi 8 1529)::de P "MOST_TRACKS" 1532 (vi 6 1531)::de P "MOST_TALLIES" 1534 (vi 4 1533)::(dl P [("need_new",1542,1007),("need_fewer",1550,1014),("Track",1597,1045),("Stand",1669,1097),("do_kind",1679,1108),("do_lane",1689,1115),("do_tick",1700,1122),("do_claim",1712,1129),("do_fill",1723,1136),("do_give",1738,1143),("do_throw",1747,1150),("do_write",1758,1157),("do_take",1766,1164),("do_resize",1776,1171)]<|t))
noncomputable def Gn(P:Params)(t:List DictEntry):List DictEntry:=dl P [("do_sieve",1787,1178),("do_tally",1799,1185),("do_halt",1808,1192),("do_stop",1816,1199),("do_go",1824,1206),("do_whole",1836,1213),("DEEDS",1869,1214),("perform",1878,1221),("Recorder",2215,1500)]<|t
noncomputable def J6(t:List (Nat×Nat)):List (Nat×Nat):=(1,20)::(5,27)::(10,48)::(14,68)::(18,88)::(22,108)::(26,128)::(30,148)::(34,168)::(38,188)::(42,208)::(46,228)::(50,248)::(54,268)::(58,288)::(62,308)::(67,327)::(73,346)::(78,367)::(82,387)::(86,407)::(94,427)::(96,434)::(99,441)::(108,446)::(110,453)::(155,530)::(158,537)::(164,544)::(167,551)::(171,556)::(174,561)::(188,567)::(192,575)::(196,582)::(210,589)::(213,596)::(216,603)::(225,610)::(229,617)::(246,652)::t
noncomputable def Ca(t:List (Nat×Nat)):List (Nat×Nat):=(265,688)::(424,863)::(429,868)::(433,873)::(438,881)::(450,890)::(452,897)::(454,904)::(461,909)::(470,916)::(472,923)::(475,930)::(484,937)::t
noncomputable def Gh(t:List (Nat×Nat)):List (Nat×Nat):=(498,944)::(504,951)::(547,1006)::(551,1013)::(554,1020)::(572,1055)::(609,1107)::(614,1114)::(619,1121)::(625,1128)::(632,1135)::(636,1142)::(650,1149)::(653,1156)::(659,1163)::(661,1170)::t
noncomputable def Np(t:List (Nat×Nat)):List (Nat×Nat):=(664,1177)::(669,1184)::(675,1191)::(680,1198)::(682,1205)::(684,1212)::(693,1220)::(697,1227)::t
noncomputable def o1:Obj:={cls:=vn,data:=Data.fields #[]}
noncomputable def o4(P:Params):Obj:=od 17 (de P "__name__" 165 z1::(xR P<|[]))
noncomputable def o5:Obj:=ol 0 [(1,20),(5,27),(10,48),(14,68),(18,88),(22,108),(26,128),(30,148)]
noncomputable def o23:Obj:={cls:=vt "type",data:=Data.cls {name:=u "ScribeError",bases:=[vt "ValueError"],mro:=[vr 39,vt "ValueError",vt "Exception",vt "BaseException",vt "object"],ns:=38,qualname:=u "ScribeError",subclasses:=[vr 60,vr 80,vr 100,vr 120,vr 140,vr 160]},slots:=#[some (vr 22),none,some Z7,some X6,some (Value.builtin "ValueError.__new__"),some (vb)]}
noncomputable def XM(P:Params):Obj:=od 24 (de P "__name__" 165 z1::(xR P<|qH P<|[]))
noncomputable def YT:Obj:=ol 0 [(1,20),(5,27),(10,48),(14,68),(18,88),(22,108),(26,128),(30,148),(34,168),(38,188),(42,208),(46,228),(50,248),(54,268),(58,288)]
noncomputable def XQ:Obj:={cls:=vt "type",data:=Data.cls {name:=u "ScribeError",bases:=[vt "ValueError"],mro:=[vr 39,vt "ValueError",vt "Exception",vt "BaseException",vt "object"],ns:=38,qualname:=u "ScribeError",subclasses:=[vr 60,vr 80,vr 100,vr 120,vr 140,vr 160,vr 180,vr 200,vr 220,vr 240,vr 260,vr 280,vr 300]},slots:=#[some (vr 22),none,some Z7,some X6,some (Value.builtin "ValueError.__new__"),some (vb)]}
noncomputable def o200(P:Params):Obj:=od 34 (de P "__name__" 165 z6::(xR P<|qH P<|u_ P<|[]))
noncomputable def YC:Obj:=ol 0 [(1,20),(5,27),(10,48),(14,68),(18,88),(22,108),(26,128),(30,148),(34,168),(38,188),(42,208),(46,228),(50,248),(54,268),(58,288),(62,308),(67,327),(73,346),(78,367),(82,387),(86,407),(94,427)]
noncomputable def xU:Obj:={cls:=vt "type",data:=Data.cls {name:=u "ScribeError",bases:=[vt "ValueError"],mro:=[vr 39,vt "ValueError",vt "Exception",vt "BaseException",vt "object"],ns:=38,qualname:=u "ScribeError",subclasses:=[vr 60,vr 80,vr 100,vr 120,vr 140,vr 160,vr 180,vr 200,vr 220,vr 240,vr 260,vr 280,vr 300,vr 319,vr 338]},slots:=#[some (vr 22),none,some Z7,some X6,some (Value.builtin "ValueError.__new__"),some (vb)]}
noncomputable def Zk(P:Params):Obj:=od 63 (de P "__name__" 165 z2::(xR P<|qH P<|u_ P<|yC P<|[]))
noncomputable def XZ:Obj:=ol 0 (J6<|[])
noncomputable def Ys(P:Params):Obj:=od 81 (de P "__name__" 165 z7::(xR P<|qH P<|u_ P<|yC P<|Bg P<|[]))
noncomputable def Yl:Obj:=ol 0 (J6<|Ca<|[])
noncomputable def Yc(P:Params):Obj:=od 102 (de P "__name__" 165 z4::(xR P<|qH P<|u_ P<|yC P<|Bg P<|Jh P<|[]))
noncomputable def Yn:Obj:=ol 0 (J6<|Ca<|Gh<|[])
noncomputable def YM(P:Params):Obj:=od 111 (de P "__name__" 165 z3::(xR P<|qH P<|u_ P<|yC P<|Bg P<|Jh P<|Gn P<|[]))
noncomputable def Xo:Obj:=ol 0 (J6<|Ca<|Gh<|Np<|[])
noncomputable def Pj(P:Params):Obj:=od 130 (de P "__name__" 165 z5::(xR P<|qH P<|u_ P<|yC P<|Bg P<|Jh P<|Gn P<|dr P "_law_begin" 2226 1511::dr P "_law_pick" 2237 1518::dr P "_law_of" 2245 1525::dr P "_law_same" 2251 1530::dr P "_law_word" 2257 1535::dr P "_law_words" 2269 1542::dr P "_law_value" 2280 1549::dr P "_law_values" 2286 1554::dr P "_law_ask" 2296 1561::dr P "_law_number" 2303 1568::dr P "_law_leaf" 2313 1575::dr P "_law_tree" 2325 1582::dr P "_law_parts" 2331 1587::dr P "_law_test" 2341 1594::dr P "_law_passes" 2347 1599::dr P "_law_small_fields" 2358 1606::dr P "_law_cast" 2364 1611::dr P "_law_cast_test" 2370 1616::dr P "law" 2390 1623::[]))
noncomputable def QH:Obj:=ol 0 (J6<|Ca<|Gh<|Np<|(825,1510)::(830,1517)::(845,1524)::(847,1529)::(857,1534)::(863,1541)::(872,1548)::(875,1553)::(877,1560)::(889,1567)::(891,1574)::(898,1581)::(906,1586)::(910,1593)::(913,1598)::(927,1605)::(934,1610)::(942,1615)::(944,1622)::[])
noncomputable def k2:Obj:={cls:=vn,data:=Data.dict #[]}
noncomputable def qe(P:Params)(b c a:Obj)(t:List Obj):List Obj:=boot_o_0 P::boot_o_1 P::b::c::boot_o_4 P::boot_o_5 P::boot_o_6 P::boot_o_7 P::boot_o_8 P::boot_o_9 P::boot_o_10 P::ot #[]::a::oc #[vs "<module>" 182,vs "<module>" 183,vf 184,vi 1 0,vi 0 0,vi 0 0,vi 0 0,vi 0 0,vr 11,Value.bool false,vi 181 0,vr 12,vn,vn,vn,vn,vi 185 0,vi 1 0,vf 186]::{cls:=vt "frame",slots:=#[some (vr 13),some (vr 3),some (vr 3),none,some (vs "__main__" 164),none,some (vr 0)]}::t
noncomputable def tZ(P:Params)(a:Obj)(t:List Obj):List Obj:=r18 190 ["k"]<|gt "_wall" 0::ok "_wall" 187 188 189 1 1 15 16 (vr 17) (vr 18) (vr 19) 191 192::ft "_wall" 0 vn (vs "__main__" 164) (vr 20)::ot #[vt "ValueError"]::{cls:=vt "builtin_function_or_method",data:=Data.fields #[Value.builtin "type.__prepare__",vt "type"]}::od 5 [de P "__module__" 203 z1,de P "__qualname__" 205 X6,de P "__firstlineno__" 207 (vi 5 206),dr P "__init__" 218 36,dr P "__static_attributes__" 220 37]::(r27 [(7,35)]<|r4 "ScribeError" 198 5 24 z1<|on 208 ["","scribeerror"]::(r18 213 ["self","words","word"]<|r11 "__init__" "ScribeError.__init__" 2 0 210 7 3 29 216 z1<|r30 P 203 5 36<|a::(r12 221 39<|r31 P 39 233 "BadName" 10 246 57 247<|r27 [(12,56)]<|t)))
noncomputable def tR(P:Params)(t:List Obj):List Obj:=r37 P "BadName" 226 10 43 "BadName.__init__" 3 39 "ValueError" "ValueError.__new__" "BadBounds"<|r27 [(16,76)]<|r37 P "BadBounds" 251 14 63 "BadBounds.__init__" 4 39 "ValueError" "ValueError.__new__" "BadTest"<|r27 [(20,96)]<|t
noncomputable def t_(P:Params)(t:List Obj):List Obj:=r37 P "BadTest" 276 18 83 "BadTest.__init__" 5 39 "ValueError" "ValueError.__new__" "BadSize"<|r27 [(24,116)]<|r37 P "BadSize" 301 22 103 "BadSize.__init__" 6 39 "ValueError" "ValueError.__new__" "BadTime"<|r27 [(28,136)]<|t
noncomputable def tQ(P:Params)(t:List Obj):List Obj:=r37 P "BadTime" 326 26 123 "BadTime.__init__" 7 39 "ValueError" "ValueError.__new__" "BadKeys"<|r27 [(32,156)]<|r33 P "BadKeys" 351 30 143 "BadKeys.__init__" 8 39 "ValueError" "ValueError.__new__"<|r6 160<|t
noncomputable def wg(P:Params)(t:List Obj):List Obj:=r31 P 39 383 "BadTie" 34 396 177 397<|r27 [(36,176)]<|r37 P "BadTie" 376 34 163 "BadTie.__init__" 9 39 "ValueError" "ValueError.__new__" "BadCause"<|r27 [(40,196)]<|t
noncomputable def vy(P:Params)(t:List Obj):List Obj:=r37 P "BadCause" 401 38 183 "BadCause.__init__" 10 39 "ValueError" "ValueError.__new__" "Taken"<|r27 [(44,216)]<|r37 P "Taken" 426 42 203 "Taken.__init__" 11 39 "ValueError" "ValueError.__new__" "Full"<|r27 [(48,236)]<|t
noncomputable def vH(P:Params)(t:List Obj):List Obj:=r37 P "Full" 451 46 223 "Full.__init__" 12 39 "ValueError" "ValueError.__new__" "NotTop"<|r27 [(52,256)]<|r37 P "NotTop" 476 50 243 "NotTop.__init__" 13 39 "ValueError" "ValueError.__new__" "Stopped"<|r27 [(56,276)]<|t
noncomputable def wI(P:Params)(t:List Obj):List Obj:=r37 P "Stopped" 501 54 263 "Stopped.__init__" 14 39 "ValueError" "ValueError.__new__" "Busy"<|r27 [(60,296)]<|r33 P "Busy" 526 58 283 "Busy.__init__" 15 39 "ValueError" "ValueError.__new__"<|r6 300<|t
noncomputable def yJ(P:Params)(t:List Obj):List Obj:=r31 P 39 558 "BadValue" 62 570 316 572<|r27 [(64,315)]<|r4 "BadValue" 553 62 305 z1<|r19 563 ["self","at"] "__init__" "BadValue.__init__" 16 0 64 2 310 568 z1<|on 571 ["at"]::(r3 P 551 62 570 316 572 "BadValue" 39 "ValueError" 303 "ValueError.__new__"<|r36 P 319 39 583 "Broken" 67 335 599<|r27 [(69,334)]<|r4 "Broken" 578 67 324 z1<|r19 588 ["self","step","why"] "__init__" "Broken.__init__" 17 0 69 3 329 594 z1<|on 597 ["step","why"]::(r3 P 576 67 596 335 599 "Broken" 39 "ValueError" 322 "ValueError.__new__"<|r6 338<|ot #[vt "LookupError"]::t))
noncomputable def xP(P:Params)(t:List Obj):List Obj:=r5 P 610 "Missing" 73 625 355 627<|r27 [(75,354)]<|r4 "Missing" 605 73 343 z1<|on 615 ["","missing"]::(r18 620 ["self","words","word"]<|r11 "__init__" "Missing.__init__" 18 0 617 75 3 348 623 z1<|r30 P 610 73 355<|{cls:=vt "type",data:=Data.cls {name:=u "Missing",bases:=[vt "LookupError"],mro:=[vr 358,vt "LookupError",vt "Exception",vt "BaseException",vt "object"],ns:=357,qualname:=u "Missing",subclasses:=[vr 379,vr 399,vr 419]},slots:=#[some (vr 341),none,some (vs "Missing" 603),some (vs "Missing" 611),some (Value.builtin "LookupError.__new__"),some (vb)]}::(r12 628 358<|r31 P 358 640 "NoLane" 78 653 376 654<|r27 [(80,375)]<|t))
noncomputable def xJ(P:Params)(t:List Obj):List Obj:=r37 P "NoLane" 633 78 362 "NoLane.__init__" 19 358 "LookupError" "LookupError.__new__" "NoKind"<|r27 [(84,395)]<|r37 P "NoKind" 658 82 382 "NoKind.__init__" 20 358 "LookupError" "LookupError.__new__" "NoTicket"<|r27 [(88,415)]<|t
noncomputable def xG(P:Params)(t:List Obj):List Obj:=r33 P "NoTicket" 683 86 402 "NoTicket.__init__" 21 358 "LookupError" "LookupError.__new__"<|r6 419<|r22 716 ["text"] "is_name" 26 94 1 422 720 z6<|t
noncomputable def zM(P:Params)(t:List Obj):List Obj:=r22 723 ["text"] "need_name" 27 96 1 429 727 z6<|r22 730 ["fields","seen","name","low","high"] "need_fields" 28 99 1 436 738 z6<|r2<|r28 "bounds_text" 29 741 108 1 443 z6<|r16<|od 13 [de P "__module__" 754 z6,de P "__qualname__" 756 (vs "Kind" 755),de P "__firstlineno__" 758 (vi 110 757),dr P "__init__" 767 463,dr P "lowest" 773 468,dr P "cells" 780 475,dr P "place_of" 792 482,dr P "need" 805 489,dr P "__eq__" 813 496,dr P "__len__" 820 503,dr P "__str__" 827 510,dr P "__repr__" 834 517,dr P "__static_attributes__" 837 518]::(r27 [(112,462),(120,467),(123,474),(126,481),(132,488),(139,495),(142,502),(145,509),(148,516)]<|r4 "Kind" 749 110 450 z6<|ot #[]::ot #[vr 455]::(r18 762 ["self","name","fields"]<|r11 "__init__" "Kind.__init__" 30 0 759 112 3 456 765 z6<|r2<|r23 "lowest" "Kind.lowest" 30 1 768 120 1 464 z6<|t))
noncomputable def y_(P:Params)(t:List Obj):List Obj:=r20 774 ["self"] "cells" "Kind.cells" 30 2 123 1 469 778 z6 ["self","field","at","name","low","high"] "place_of" "Kind.place_of" 126 2 790<|r20 793 ["self","values","at","name","low","high","value"] "need" "Kind.need" 30 4 132 2 483 803 z6 ["self","other"] "__eq__" "Kind.__eq__" 139 2 811<|t
noncomputable def zx(P:Params)(t:List Obj):List Obj:=r20 814 ["self"] "__len__" "Kind.__len__" 30 6 142 1 497 818 z6 ["self"] "__str__" "Kind.__str__" 145 1 825<|r19 828 ["self"] "__repr__" "Kind.__repr__" 30 8 148 1 511 832 z6<|on 835 ["fields","name"]::od 5 [de P "__module__" 754 z6,de P "__firstlineno__" 758 (vi 110 757),dr P "__init__" 767 463,dr P "lowest" 773 468,dr P "cells" 780 475,dr P "place_of" 792 482,dr P "need" 805 489,dr P "__eq__" 813 496,dr P "__len__" 820 503,dr P "__str__" 827 510,dr P "__repr__" 834 517,dr P "__static_attributes__" 837 518,dr P "__dict__" 839 521,dr P "__weakref__" 841 522,dn P "__doc__" 842,dn P "__hash__" 843]::(r9 "Kind" 519 747 838<|r12 840 520<|r22 859 ["lanes"] "need_lanes" 36 155 1 525 863 z8<|t)
noncomputable def Al(P:Params)(t:List Obj):List Obj:=r22 866 ["lanes","ties","one","other","least"] "need_ties" 37 158 2 532 874 z8<|r22 877 ["most"] "need_most" 38 164 1 539 881 z8<|r22 884 ["lanes","ties","most"] "need_all" 39 167 3 546 890 z8<|r2<|r28 "bounds" 40 893 171 2 553 z8<|r2<|r28 "raised" 41 899 174 2 558 z8<|r38 P 905 99999 848::(r2<|gt "amounts" 42::oc #[vs "amounts" 906,vs "amounts" 907,vf 908,vi 188 0,vi 2 0,vi 0 0,vi 1 0,vi 3 0,vr 564,vb,vi 181 0,vr 565,vn,vn,vn,vr 566,vi 909 0,vi 188 0,vf 910]::{cls:=vt "function",data:=Data.func {name:=u "amounts",qualname:=u "amounts",params:=TA 42,body:=FuncBody.stmts (TB 42),scope:=TS 42,globals:=3,closure:=[],defaults:=vn,kwdefaults:=vr 563,pyModule:=z8,code:=vr 567}}::r38 P 912 99999 848::t)
noncomputable def yV(P:Params)(t:List Obj):List Obj:=r18 916 ["lanes","ties","most","heights","raised_by","still"]<|gt "ring" 43::(r26 "ring" 913 192 569 922 43 z8<|r22 925 ["at","raised_by","many","turn","found"] "ring_behind" 44 196 3 577 933 z8<|r22 950 ["pages"] "need_pages" 52 210 1 584 954 z2<|r22 957 ["room"] "need_room" 53 213 1 591 961 z2<|r22 964 ["events","place","told","event"] "told_from" 54 216 2 598 971 z2<|t)
noncomputable def z_(P:Params)(t:List Obj):List Obj:=r22 974 ["place","told","thing"] "place_behind" 55 225 2 605 980 z2<|r35 P 990 z2 "Claim" 229 1004 625 "told_at" 1026<|r27 [(231,624),(238,631),(241,638)]<|r4 "Claim" 985 229 614 z2<|r20 995 ["self","ticket","time","kind"] "__init__" "Claim.__init__" 56 0 231 4 619 1002 z2 ["self","place"] "told_at" "Claim.told_at" 238 2 1010<|r19 1013 ["self","other"] "twin" "Claim.twin" 56 2 241 1 633 1018 z2<|on 1021 ["filled","form","given","ticket","time"]::(r34 P 983 z2 229 1004 625 "told_at" 1026 "Claim"<|t)
noncomputable def zf(P:Params)(t:List Obj):List Obj:=r12 1029 642<|r16<|od 8 [de P "__module__" 1041 z2,de P "__qualname__" 1043 (vs "Page" 1042),de P "__firstlineno__" 1045 (vi 246 1044),dr P "__init__" 1052 660,dr P "unclosed" 1058 665,dr P "without" 1064 670,dr P "twin" 1070 675,dr P "__static_attributes__" 1074 676]::(r27 [(248,659),(253,664),(256,669),(259,674)]<|r4 "Page" 1036 246 649 z2<|r19 1046 ["self"] "__init__" "Page.__init__" 57 0 248 1 654 1050 z2<|r2<|r23 "unclosed" "Page.unclosed" 57 1 1053 253 1 661 z2<|r2<|r23 "without" "Page.without" 57 2 1059 256 2 666 z2<|r2<|r23 "twin" "Page.twin" 57 3 1065 259 1 671 z2<|on 1071 ["claims","gone","used"]::od 4 [de P "__module__" 1041 z2,de P "__firstlineno__" 1045 (vi 246 1044),dr P "__init__" 1052 660,dr P "unclosed" 1058 665,dr P "without" 1064 670,dr P "twin" 1070 675,dr P "__static_attributes__" 1074 676,dr P "__dict__" 1076 679,dr P "__weakref__" 1078 680,dn P "__doc__" 1079]::(r9 "Page" 677 1034 1075<|r12 1077 678<|t))
noncomputable def El(P:Params)(t:List Obj):List Obj:=r16<|od 28 [de P "__module__" 1089 z2,de P "__qualname__" 1091 (vs "Lane" 1090),de P "__firstlineno__" 1093 (vi 265 1092),dr P "__init__" 1106 697,dr P "claim" 1116 704,dr P "make_room" 1124 711,dr P "eldest" 1131 718,dr P "lose_eldest" 1138 725,dr P "leave" 1148 732,dr P "waiting" 1154 737,dr P "waiting_with" 1163 744,dr P "last_waiting" 1172 751,dr P "fill" 1182 758,dr P "give" 1191 765,dr P "throw" 1202 772,dr P "standing" 1213 779,dr P "look" 1220 786,dr P "take" 1228 793,dr P "hold" 1236 800,dr P "pending" 1242 805,dr P "event" 1251 812,dr P "resize" 1263 819,dr P "counts" 1270 826,dr P "pages_now" 1277 833,dr P "twin" 1283 838,dr P "__len__" 1289 843,dr P "__repr__" 1296 850,dr P "__static_attributes__" 1309 851]::(r27 [(267,696),(283,703),(296,710),(306,717),(309,724),(313,731),(318,736),(321,743),(327,750),(333,757),(338,764),(343,771),(352,778),(364,785),(367,792),(376,799),(381,804),(384,811),(388,818),(399,825),(402,832),(405,837),(418,842),(421,849)]<|r4 "Lane" 1084 265 685 z2<|od 3 [de P "pages" 1094 (vi 4 938),de P "room" 1095 (vi 8 940),de P "over" 1096 (vb)]::(r18 1100 ["self","pages","room","over"]<|r29 "__init__" "Lane.__init__" 58 0 1097 267 1 3 690 1104 z2<|r20 1107 ["self","kind","time","head"] "claim" "Lane.claim" 58 1 283 3 698 1114 z2 ["self","cells"] "make_room" "Lane.make_room" 296 2 1122<|t))
noncomputable def De(P:Params)(t:List Obj):List Obj:=r20 1125 ["self"] "eldest" "Lane.eldest" 58 3 306 1 712 1129 z2 ["self"] "lose_eldest" "Lane.lose_eldest" 309 1 1136<|r19 1139 ["self","number","page","later"] "leave" "Lane.leave" 58 5 313 2 726 1146 z2<|r2<|r23 "waiting" "Lane.waiting" 58 6 1149 318 1 733 z2<|r20 1155 ["self","ticket","claim"] "waiting_with" "Lane.waiting_with" 58 7 321 2 738 1161 z2 ["self","ticket","claim"] "last_waiting" "Lane.last_waiting" 327 2 1170<|t
noncomputable def Dt(P:Params)(t:List Obj):List Obj:=r20 1173 ["self","ticket","values","claim"] "fill" "Lane.fill" 58 9 333 3 752 1180 z2 ["self","ticket","claim"] "give" "Lane.give" 338 2 1189<|r20 1192 ["self","ticket","claim","head","page"] "throw" "Lane.throw" 58 11 343 2 766 1200 z2 ["self","events","place","page","claim"] "standing" "Lane.standing" 352 1 1211<|t
noncomputable def Dc(P:Params)(t:List Obj):List Obj:=r20 1214 ["self"] "look" "Lane.look" 58 13 364 1 780 1218 z2 ["self","told"] "take" "Lane.take" 367 1 1226<|r19 1229 ["self","place"] "hold" "Lane.hold" 58 15 376 2 794 1234 z2<|r2<|r23 "pending" "Lane.pending" 58 16 1237 381 1 801 z2<|r20 1243 ["self","ticket","claim"] "event" "Lane.event" 58 17 384 2 806 1249 z2 ["self","pages","first","extra","number","turn"] "resize" "Lane.resize" 388 2 1261<|t
noncomputable def Dn(P:Params)(t:List Obj):List Obj:=r20 1264 ["self"] "counts" "Lane.counts" 58 19 399 1 820 1268 z2 ["self"] "pages_now" "Lane.pages_now" 402 1 1275<|r2<|r23 "twin" "Lane.twin" 58 21 1278 405 1 834 z2<|r2<|r23 "__len__" "Lane.__len__" 58 22 1284 418 1 839 z2<|r19 1290 ["self"] "__repr__" "Lane.__repr__" 58 23 421 1 844 1294 z2<|on 1297 ["given_in","held","last_time","lost","missed","most","over","pages","room","thrown_back","tickets","told"]::od 4 [de P "__module__" 1089 z2,de P "__firstlineno__" 1093 (vi 265 1092),dr P "__init__" 1106 697,dr P "claim" 1116 704,dr P "make_room" 1124 711,dr P "eldest" 1131 718,dr P "lose_eldest" 1138 725,dr P "leave" 1148 732,dr P "waiting" 1154 737,dr P "waiting_with" 1163 744,dr P "last_waiting" 1172 751,dr P "fill" 1182 758,dr P "give" 1191 765,dr P "throw" 1202 772,dr P "standing" 1213 779,dr P "look" 1220 786,dr P "take" 1228 793,dr P "hold" 1236 800,dr P "pending" 1242 805,dr P "event" 1251 812,dr P "resize" 1263 819,dr P "counts" 1270 826,dr P "pages_now" 1277 833,dr P "twin" 1283 838,dr P "__len__" 1289 843,dr P "__repr__" 1296 850,dr P "__static_attributes__" 1309 851,dr P "__dict__" 1311 854,dr P "__weakref__" 1313 855,dn P "__doc__" 1314]::(r9 "Lane" 852 1082 1310<|r12 1312 853<|t)
noncomputable def Eg(P:Params)(t:List Obj):List Obj:=r22 1319 ["lane","time","other","second"] "need_cause" 60 424 4 858 1326 WF<|r2<|r28 "ties_of" 61 1329 429 1 865 WF<|r2<|r28 "merged" 62 1335 433 2 870 WF<|r38 P 1341 99999 848::(r18 1345 ["rows","causes","most","ties","least"]<|gt "ordered" 63::(r26 "ordered" 1342 438 875 1350 63 WF<|od 3 [de P "not" 1359 (vi 1 1360),de P "and" 1361 (vi 2 1362),de P "or" 1363 (vi 2 1364)]::od 2 [de P "less" 1369 (vs "<" 1370),de P "same" 1371 (vs "=" 1372)]::(r22 1376 ["thing"] "is_word" 69 450 1 885 1380 z9<|t)))
noncomputable def Dy(P:Params)(t:List Obj):List Obj:=r22 1383 ["thing"] "is_number" 70 452 1 892 1387 z9<|r22 1390 ["test","form"] "is_leaf" 71 454 1 899 1395 z9<|r2<|r28 "count_parts" 72 1398 461 2 906 z9<|r22 1404 ["test"] "is_test" 73 470 1 911 1408 z9<|r22 1411 ["test"] "need_test" 74 472 1 918 1415 z9<|r22 1418 ["test","kind","values","form"] "passes" 75 475 3 925 1425 z9<|t
noncomputable def Dv(P:Params)(t:List Obj):List Obj:=r22 1428 ["leaf","kind","values","form","place"] "passes_leaf" 76 484 3 932 1436 z9<|t
noncomputable def Jj(P:Params)(t:List Obj):List Obj:=r22 1447 ["keys","at","name"] "need_keys" 81 498 1 939 1453 z7<|r16<|od 10 [de P "__module__" 1463 z7,de P "__qualname__" 1465 (vs "Tally" 1464),de P "__firstlineno__" 1467 (vi 504 1466),dr P "__init__" 1478 960,dr P "note" 1484 965,dr P "table" 1491 972,dr P "dropped" 1498 979,dr P "twin" 1506 986,dr P "__len__" 1513 993,dr P "__static_attributes__" 1519 994]::(r27 [(506,959),(517,964),(529,971),(532,978),(535,985),(541,992)]<|r4 "Tally" 1458 504 948 z7<|r38 P 1468 16 1441::(r18 1472 ["self","test","keys","most"]<|r29 "__init__" "Tally.__init__" 82 0 1469 506 3 1 953 1476 z7<|r2<|r23 "note" "Tally.note" 82 1 1479 517 3 961 z7<|t))
noncomputable def Jo(P:Params)(t:List Obj):List Obj:=r20 1485 ["self"] "table" "Tally.table" 82 2 529 1 966 1489 z7 ["self"] "dropped" "Tally.dropped" 532 1 1496<|r20 1499 ["self","other"] "twin" "Tally.twin" 82 4 535 1 980 1504 z7 ["self"] "__len__" "Tally.__len__" 541 1 1511<|on 1514 ["beyond","counted","most","named","test"]::r39 P 1463 z7 504 1478 960 "note" 965 "table" 1491 "dropped" 1498 "twin" "__len__" 1513 993::(r9 "Tally" 995 1456 1520<|r12 1522 996<|t)
noncomputable def Ew(P:Params)(t:List Obj):List Obj:=r22 1535 ["name","borne"] "need_new" 87 547 2 1001 1540 z4<|r22 1543 ["things","most"] "need_fewer" 88 551 2 1008 1548 z4<|r35 P 1558 z4 "Track" 554 1570 1028 "top" 1590<|r27 [(556,1027),(561,1034),(567,1041)]<|r4 "Track" 1553 554 1017 z4<|r20 1563 ["self","written"] "__init__" "Track.__init__" 89 0 556 2 1022 1568 z4 ["self","tickets"] "top" "Track.top" 561 1 1576<|t
noncomputable def G5(P:Params)(t:List Obj):List Obj:=r19 1579 ["self","other"] "twin" "Track.twin" 89 2 567 1 1036 1584 z4<|on 1587 ["clock","test","written"]::(r34 P 1551 z4 554 1570 1028 "top" 1590 "Track"<|r12 1593 1045<|r16<|od 10 [de P "__module__" 1605 z4,de P "__qualname__" 1607 (vs "Stand" 1606),de P "__firstlineno__" 1609 (vi 572 1608),dr P "__init__" 1618 1063,dr P "track_of" 1626 1070,dr P "kind_of" 1634 1077,dr P "tally_of" 1642 1084,dr P "looks" 1648 1089,dr P "twin" 1654 1094,dr P "__static_attributes__" 1662 1095]::(r27 [(574,1062),(585,1069),(590,1076),(595,1083),(598,1088),(601,1093)]<|r4 "Stand" 1600 572 1052 z4<|r20 1610 ["self","pages","room"] "__init__" "Stand.__init__" 90 0 574 3 1057 1616 z4 ["self","name"] "track_of" "Stand.track_of" 585 2 1624<|t))
noncomputable def Ij(P:Params)(t:List Obj):List Obj:=r20 1627 ["self","name"] "kind_of" "Stand.kind_of" 90 2 590 2 1071 1632 z4 ["self","name"] "tally_of" "Stand.tally_of" 595 2 1640<|r2<|r23 "looks" "Stand.looks" 90 4 1643 598 1 1085 z4<|r2<|r23 "twin" "Stand.twin" 90 5 1649 601 1 1090 z4<|on 1655 ["counters","halting","known","pages","room","still","tracks"]::r39 P 1605 z4 572 1618 1063 "track_of" 1070 "kind_of" 1634 "tally_of" 1642 "looks" "twin" 1654 1094::(r9 "Stand" 1096 1598 1663<|r12 1665 1097<|r22 1670 ["stand","handed","name","fields"] "do_kind" 91 609 2 1102 1677 z4<|t)
noncomputable def Ih(P:Params)(t:List Obj):List Obj:=r22 1680 ["stand","handed","name","over"] "do_lane" 92 614 2 1109 1687 z4<|r22 1690 ["stand","handed","name","steps","track"] "do_tick" 93 619 2 1116 1698 z4<|r22 1701 ["stand","handed","name","kind","track","form"] "do_claim" 94 625 2 1123 1710 z4<|r22 1713 ["stand","handed","name","values","track"] "do_fill" 95 632 2 1130 1721 z4<|r22 1724 ["stand","handed","track","ticket","time","kind","values","form","tally"] "do_give" 96 636 2 1137 1736 z4<|t
noncomputable def Hu(P:Params)(t:List Obj):List Obj:=r22 1739 ["stand","handed","track"] "do_throw" 97 650 2 1144 1745 z4<|r22 1748 ["stand","handed","name","kind","values"] "do_write" 98 653 2 1151 1756 z4<|r22 1759 ["stand","handed"] "do_take" 99 659 2 1158 1764 z4<|r22 1767 ["stand","handed","name","pages"] "do_resize" 100 661 2 1165 1774 z4<|t
noncomputable def Lh(P:Params)(t:List Obj):List Obj:=r22 1777 ["stand","handed","name","test","track"] "do_sieve" 101 664 2 1172 1785 z4<|r22 1788 ["stand","handed","name","test","keys","tally"] "do_tally" 102 669 2 1179 1797 z4<|r22 1800 ["stand","handed","test"] "do_halt" 103 675 2 1186 1806 z4<|r22 1809 ["stand","handed"] "do_stop" 104 680 2 1193 1814 z4<|r22 1817 ["stand","handed"] "do_go" 105 682 2 1200 1822 z4<|t
noncomputable def JM(P:Params)(t:List Obj):List Obj:=r22 1825 ["stand","handed","told","step","deed","error"] "do_whole" 106 684 2 1207 1834 z4<|od 16 [dr P "kind" 1837 1108,dr P "lane" 1839 1115,dr P "tick" 1841 1122,dr P "claim" 1843 1129,dr P "fill" 1845 1136,dr P "give" 1847 1143,dr P "throw" 1849 1150,dr P "write" 1851 1157,dr P "take" 1853 1164,dr P "resize" 1855 1171,dr P "sieve" 1857 1178,dr P "tally" 1859 1185,dr P "halt" 1861 1192,dr P "stop" 1863 1199,dr P "go" 1865 1206,dr P "whole" 1867 1213]::(r22 1870 ["stand","deed","act"] "perform" 108 693 2 1215 1876 z4<|r16<|od 42 [de P "__module__" 1888 z3,de P "__qualname__" 1890 (vs "Recorder" 1889),de P "__firstlineno__" 1892 (vi 697 1891),dr P "__init__" 1903 1236,dr P "kind" 1912 1245,dr P "lane" 1922 1253,dr P "tick" 1932 1261,dr P "claim" 1941 1268,dr P "fill" 1950 1275,dr P "give" 1958 1282,dr P "throw" 1966 1289,dr P "write" 1976 1296,dr P "take" 1984 1303,dr P "resize" 1993 1310,dr P "sieve" 2002 1317,dr P "tally" 2013 1326,dr P "halt" 2021 1334,dr P "stop" 2028 1341,dr P "go" 2035 1348,dr P "whole" 2043 1355,dr P "do" 2053 1362,dr P "undo" 2060 1369,dr P "redo" 2067 1376,dr P "go_along" 2076 1383,dr P "done" 2082 1388,dr P "twin" 2090 1395,dr P "kinds" 2096 1400,dr P "lanes" 2103 1407,dr P "now" 2111 1414,dr P "test_of" 2119 1421,dr P "look" 2127 1428,dr P "pending" 2135 1435,dr P "counts" 2143 1442,dr P "table" 2151 1449,dr P "dropped" 2159 1456,dr P "tallies" 2166 1463,dr P "stopped" 2173 1470,dr P "halted_by" 2180 1477,dr P "looker" 2188 1484,dr P "order" 2198 1492,dr P "__len__" 2204 1497,dr P "__static_attributes__" 2208 1498]::(r27 [(699,1235),(704,1244),(707,1252),(710,1260),(713,1267),(716,1274),(719,1281),(722,1288),(725,1295),(728,1302),(731,1309),(734,1316),(737,1325),(740,1333),(743,1340),(746,1347),(749,1354),(752,1361),(760,1368),(763,1375),(766,1382),(769,1387),(772,1394),(779,1399),(783,1406),(786,1413),(789,1420),(792,1427),(795,1434),(798,1441),(801,1448),(804,1455),(807,1462),(810,1469),(813,1476),(816,1483),(819,1491),(822,1496)]<|r4 "Recorder" 1883 697 1224 z3<|od 2 [de P "pages" 1893 (vi 4 938),de P "room" 1894 (vi 8 940)]::(r18 1898 ["self","pages","room"]<|r29 "__init__" "Recorder.__init__" 110 0 1895 699 1 2 1229 1901 z3<|ot #[]::ot #[vr 1237]::(r18 1907 ["self","name","fields"]<|r11 "kind" "Recorder.kind" 110 1 1904 704 3 1238 1910 z3<|od 1 [de P "over" 1913 (vb)]::t))))
noncomputable def Kc(P:Params)(t:List Obj):List Obj:=r18 1917 ["self","name","over"]<|r29 "lane" "Recorder.lane" 110 2 1914 707 2 1 1246 1920 z3<|ot #[vi 1 1923]::(r18 1927 ["self","lane","steps"]<|r11 "tick" "Recorder.tick" 110 3 1924 710 3 1254 1930 z3<|r20 1933 ["self","lane","kind"] "claim" "Recorder.claim" 110 4 713 3 1262 1939 z3 ["self","lane","values"] "fill" "Recorder.fill" 716 3 1948<|t)
noncomputable def Lp(P:Params)(t:List Obj):List Obj:=r20 1951 ["self","lane"] "give" "Recorder.give" 110 6 719 2 1276 1956 z3 ["self","lane"] "throw" "Recorder.throw" 722 2 1964<|r20 1967 ["self","lane","kind","values"] "write" "Recorder.write" 110 8 725 4 1290 1974 z3 ["self","lane"] "take" "Recorder.take" 728 2 1982<|t
noncomputable def La(P:Params)(t:List Obj):List Obj:=r20 1985 ["self","lane","pages"] "resize" "Recorder.resize" 110 10 731 3 1304 1991 z3 ["self","lane","test"] "sieve" "Recorder.sieve" 734 3 2000<|ot #[]::od 1 [dr P "keys" 2003 1318]::(r18 2007 ["self","name","test","keys"]<|r29 "tally" "Recorder.tally" 110 12 2004 737 3 1 1319 2011 z3<|ot #[vn]::(r18 2017 ["self","test"]<|r11 "halt" "Recorder.halt" 110 13 2014 740 2 1327 2019 z3<|t))
noncomputable def JK(P:Params)(t:List Obj):List Obj:=r20 2022 ["self"] "stop" "Recorder.stop" 110 14 743 1 1335 2026 z3 ["self"] "go" "Recorder.go" 746 1 2033<|r20 2036 ["self","deeds"] "whole" "Recorder.whole" 110 16 749 2 1349 2041 z3 ["self","deed","later","told"] "do" "Recorder.do" 752 2 2051<|t
noncomputable def Ml(P:Params)(t:List Obj):List Obj:=r20 2054 ["self"] "undo" "Recorder.undo" 110 18 760 1 1363 2058 z3 ["self"] "redo" "Recorder.redo" 763 1 2065<|r19 2068 ["self","source","goal"] "go_along" "Recorder.go_along" 110 20 766 3 1377 2074 z3<|r2<|r23 "done" "Recorder.done" 110 21 2077 769 1 1384 z3<|r19 2083 ["self","other"] "twin" "Recorder.twin" 110 22 772 1 1389 2088 z3<|r2<|r23 "kinds" "Recorder.kinds" 110 23 2091 779 1 1396 z3<|t
noncomputable def M7(P:Params)(t:List Obj):List Obj:=r20 2097 ["self"] "lanes" "Recorder.lanes" 110 24 783 1 1401 2101 z3 ["self","lane"] "now" "Recorder.now" 786 2 2109<|r20 2112 ["self","lane"] "test_of" "Recorder.test_of" 110 26 789 2 1415 2117 z3 ["self","lane"] "look" "Recorder.look" 792 2 2125<|t
noncomputable def N5(P:Params)(t:List Obj):List Obj:=r20 2128 ["self","lane"] "pending" "Recorder.pending" 110 28 795 2 1429 2133 z3 ["self","lane"] "counts" "Recorder.counts" 798 2 2141<|r20 2144 ["self","name"] "table" "Recorder.table" 110 30 801 2 1443 2149 z3 ["self","name"] "dropped" "Recorder.dropped" 804 2 2157<|t
noncomputable def Ma(P:Params)(t:List Obj):List Obj:=r20 2160 ["self"] "tallies" "Recorder.tallies" 110 32 807 1 1457 2164 z3 ["self"] "stopped" "Recorder.stopped" 810 1 2171<|r20 2174 ["self"] "halted_by" "Recorder.halted_by" 110 34 813 1 1471 2178 z3 ["self","lane"] "looker" "Recorder.looker" 816 2 2186<|r38 P 2189 99999 848::(r18 2193 ["self","causes","most"]<|r29 "order" "Recorder.order" 110 36 2190 819 2 1 1485 2196 z3<|r2<|t)
noncomputable def BP(P:Params)(t:List Obj):List Obj:=r23 "__len__" "Recorder.__len__" 110 37 2199 822 1 1493 z3<|on 2205 ["past","stand","undone"]::od 4 [de P "__module__" 1888 z3,de P "__firstlineno__" 1892 (vi 697 1891),dr P "__init__" 1903 1236,dr P "kind" 1912 1245,dr P "lane" 1922 1253,dr P "tick" 1932 1261,dr P "claim" 1941 1268,dr P "fill" 1950 1275,dr P "give" 1958 1282,dr P "throw" 1966 1289,dr P "write" 1976 1296,dr P "take" 1984 1303,dr P "resize" 1993 1310,dr P "sieve" 2002 1317,dr P "tally" 2013 1326,dr P "halt" 2021 1334,dr P "stop" 2028 1341,dr P "go" 2035 1348,dr P "whole" 2043 1355,dr P "do" 2053 1362,dr P "undo" 2060 1369,dr P "redo" 2067 1376,dr P "go_along" 2076 1383,dr P "done" 2082 1388,dr P "twin" 2090 1395,dr P "kinds" 2096 1400,dr P "lanes" 2103 1407,dr P "now" 2111 1414,dr P "test_of" 2119 1421,dr P "look" 2127 1428,dr P "pending" 2135 1435,dr P "counts" 2143 1442,dr P "table" 2151 1449,dr P "dropped" 2159 1456,dr P "tallies" 2166 1463,dr P "stopped" 2173 1470,dr P "halted_by" 2180 1477,dr P "looker" 2188 1484,dr P "order" 2198 1492,dr P "__len__" 2204 1497,dr P "__static_attributes__" 2208 1498,dr P "__dict__" 2210 1501,dr P "__weakref__" 2212 1502,dn P "__doc__" 2213]::(r9 "Recorder" 1499 1881 2209<|r12 2211 1500<|t)
noncomputable def Rz(P:Params)(t:List Obj):List Obj:=r22 2218 ["_law_script","_law_seed","_law_cell"] "_law_begin" 112 825 1 1505 2224 z5<|r22 2227 ["_law_d","_law_many","_law_cell","_law_digit","_law_one"] "_law_pick" 113 830 2 1512 2235 z5<|r22 2238 ["_law_d","_law_things"] "_law_of" 114 845 2 1519 2243 z5<|r2<|r28 "_law_same" 115 2246 847 2 1526 z5<|r2<|r28 "_law_word" 116 2252 857 1 1531 z5<|r22 2258 ["_law_d","_law_many","_law_found","_law_k","_law_word_here","_law_step"] "_law_words" 117 863 2 1536 2267 z5<|t
noncomputable def Qt(P:Params)(t:List Obj):List Obj:=r22 2270 ["_law_d","_law_field","_law_title","_law_low","_law_high"] "_law_value" 118 872 2 1543 2278 z5<|r2<|r28 "_law_values" 119 2281 875 2 1550 z5<|r22 2287 ["_law_ask_here","_law_told","_law_word_here","e"] "_law_ask" 120 877 1 1555 2294 z5<|r22 2297 ["_law_d"] "_law_number" 121 889 1 1562 2301 z5<|r22 2304 ["_law_d","_law_names","_law_kinds","_law_way"] "_law_leaf" 122 891 3 1569 2311 z5<|r22 2314 ["_law_d","_law_deep","_law_names","_law_kinds","_law_way","_law_word_here"] "_law_tree" 123 898 4 1576 2323 z5<|t
noncomputable def Rq(P:Params)(t:List Obj):List Obj:=r2<|r28 "_law_parts" 124 2326 906 1 1583 z5<|r22 2332 ["_law_d","_law_names","_law_kinds","_law_test_here"] "_law_test" 125 910 3 1588 2339 z5<|r2<|r28 "_law_passes" 126 2342 913 4 1595 z5<|r22 2348 ["_law_d","_law_names","_law_found","_law_title","_law_low"] "_law_small_fields" 127 927 1 1600 2356 z5<|r2<|r28 "_law_cast" 128 2359 934 1 1607 z5<|r2<|r28 "_law_cast_test" 129 2365 942 2 1612 z5<|r2<|on 2374 ["_law_script","_law_d","_law_c","_law_fields","_law_halt","_law_off","_law_turn","_law_way","_law_many","_law_found"]::on 2384 ["_law_lane","_law_rec","_law_title","_law_values_here"]::t
noncomputable def Qw(P:Params)(t:List Obj):List Obj:=r15 "law" 130 2371 944 1 1617 2388 z5<|t
noncomputable def YG(P:Params)(t:List Obj):List Obj:=qe P k2 (Pj P) QH t
noncomputable def Z9(P:Params)(t:List Obj):List Obj:=tZ P xU t
noncomputable def nt(k:Nat):List Obj->Obj:=Nat.rec (λl=>List.rec (ot #[]) (λo _ _=>o) l) (λ_ a l=>List.rec (ot #[]) (λ_ t _=>a t) l) k
local macro_rules|`(#v[$xs,*])=>do
 let mut t<-`([])
 for x in xs.getElems.reverse do
  let`($f:ident $as*):=x|Lean.Macro.throwUnsupported
  let n:=as.map λa=>a.raw.isNatLit?.getD 0
  let mut l:=#[]
  let mut p:=0
  for i in[1:n.size] do
   if i%2==0 then for j in[0:n[i]!] do l:=l.push (p+j)
   p:=p+n[i]!
  for k in l.reverse do t<-`((nat_lit $(Lean.Syntax.mkNumLit (toString (n[0]!+k))),nt $(Lean.Syntax.mkNumLit (toString k)) ($f P []))::$t)
 `(λP=>$t)
noncomputable def KK:Params->Frag:=#v[YG 0 2 2,Z9 15 0 1 1 2 1 3 6 2 1 2 1 6 2 1,tR 48 2 2 1 2 1 5 2 1 6 2 1 2 1 5 2 1,t_ 88 2 2 1 2 1 5 2 1 6 2 1 2 1 5 2 1,tQ 128 2 2 1 2 1 5 2 1 6 2 1 2 1 5,wg 163 0 1 6 2 1 2 1 5 2 1,vy 188 2 2 1 2 1 5 2 1 6 2 1 2 1 5 2 1,vH 228 2 2 1 2 1 5 2 1 6 2 1 2 1 5 2 1,wI 268 2 2 1 2 1 5 2 1 6 2 1 2 1 5,yJ 303 0 1 6 1 1 2 1 5 2 1 6 1 1 2 1 5 2 1,xP 342 6 2 1 2 1 6 2 1,xJ 367 2 2 1 2 1 5 2 1 6 2 1 2 1 5 2 1,xG 407 2 2 1 2 1 5 2 1 1 2 1 2,zM 429 0 1 1 2 1 3 1 2 1 3 2 2 7 3 1 2 1 3 2 2,y_ 469 0 1 1 2 1 3 1 2 1 3 1 2 1 3 1 2 1 2,zx 497 0 1 1 2 1 3 1 2 1 3 1 2 1 7 2 1 1 2 1 2,Al 532 0 1 1 2 1 3 1 2 1 3 1 2 1 3 2 3 2 4 2 3,yV 570 0 1 1 2 1 3 1 2 1 3 1 2 1 3 1 2 1 3 1 2 1 2,z_ 605 0 1 1 2 1 2 7 1 1 2 1 3 1 2 1 3 1 2 1 6,zf 644 0 1 9 1 1 2 1 3 2 3 2 3 2 7,El 683 7 2 1 2 1 3 1 2 1 3 1 2 1 2,De 712 0 1 1 2 1 3 1 2 1 3 1 2 1 3 2 3 1 2 1 3 1 2 1 2,Dt 752 0 1 1 2 1 3 1 2 1 3 1 2 1 3 1 2 1 2,Dc 780 0 1 1 2 1 3 1 2 1 3 1 2 1 3 2 3 1 2 1 3 1 2 1 2,Dn 820 0 1 1 2 1 3 1 2 1 3 2 3 2 3 1 2 1 7,Eg 858 0 1 1 2 1 3 2 3 2 4 1 2 1 5 1 2 1 2,Dy 892 0 1 1 2 1 3 1 2 1 3 2 3 1 2 1 3 1 2 1 3 1 2 1 2,Dv 932 0 1 1 2 1 2,Jj 939 0 1 1 2 1 2 7 2 1 2 1 3 2 2,Jo 966 0 1 1 2 1 3 1 2 1 3 1 2 1 3 1 2 1 7,Ew 1001 0 1 1 2 1 3 1 2 1 2 7 1 1 2 1 3 1 2 1 2,G5 1036 0 1 1 2 1 7 9 1 1 2 1 3 1 2 1 2,Ij 1071 0 1 1 2 1 3 1 2 1 3 2 3 2 7 2 1 1 2 1 2,Ih 1109 0 1 1 2 1 3 1 2 1 3 1 2 1 3 1 2 1 3 1 2 1 2,Hu 1144 0 1 1 2 1 3 1 2 1 3 1 2 1 3 1 2 1 2,Lh 1172 0 1 1 2 1 3 1 2 1 3 1 2 1 3 1 2 1 3 1 2 1 2,JM 1207 0 1 1 2 1 4 1 2 1 2 7 2 1 2 1 5 1 2 1 3,Kc 1247 0 1 1 2 1 4 1 2 1 3 1 2 1 3 1 2 1 2,Lp 1276 0 1 1 2 1 3 1 2 1 3 1 2 1 3 1 2 1 2,La 1304 0 1 1 2 1 3 1 2 1 5 1 2 1 4 1 2 1 2,JK 1335 0 1 1 2 1 3 1 2 1 3 1 2 1 3 1 2 1 2,Ml 1363 0 1 1 2 1 3 1 2 1 3 1 2 1 3 2 3 1 2 1 3 2 2,M7 1401 0 1 1 2 1 3 1 2 1 3 1 2 1 3 1 2 1 2,N5 1429 0 1 1 2 1 3 1 2 1 3 1 2 1 3 1 2 1 2,Ma 1457 0 1 1 2 1 3 1 2 1 3 1 2 1 3 1 2 1 4 1 2 1 3,BP 1495 1 7,Rz 1505 0 1 1 2 1 3 1 2 1 3 1 2 1 3 2 3 2 3 1 2 1 2,Qt 1543 0 1 1 2 1 3 2 3 1 2 1 3 1 2 1 3 1 2 1 3 1 2 1 2,Rq 1583 0 1 2 3 1 2 1 3 2 3 1 2 1 3 2 3 2 3 1 2,Qw 1621 1 2]
noncomputable def WL:List Addr:=(KK {strHash:=λ_=>0,shareClass:=λ_=>0,mergeTok:=λx=>x,idOf:=λ_=>0,idOfShared:=λ_ _=>0,followText:=λ_=>true,idOfImm:=λ_=>0}).map (·.1)
def eK:∀P,WL=(KK P).map (·.1):=λP=>by kernel_rfl
noncomputable def vw:Program:={PySem.Challenge.pw_lanescribe_k44_whole_a_halt_stops_at_onc with main:={PySem.Challenge.pw_lanescribe_k44_whole_a_halt_stops_at_onc.main with body:=[tp 0,tp 2,tp 3,tp 4,tp 5,tp 6,tp 7,tp 8,tp 9,tp 10,tp 11,tp 12,tp 13,tp 14,tp 15,tp 16,tp 17,tp 18,tp 19,tp 20,tp 21,tp 23,tp 24,tp 25,tp 26,tp 27,tp 28,tp 29,tp 30,tp 32,tp 33,tp 34,tp 35,tp 36,tp 37,tp 38,tp 39,tp 40,tp 41,tp 44,tp 46,tp 47,tp 48,tp 49,tp 50,tp 51,tp 52,tp 53,tp 54,tp 55,tp 56,tp 57,tp 58,tp 60,tp 61,tp 62,tp 65,tp 66,tp 67,tp 68,tp 69,tp 70,tp 71,tp 72,tp 73,tp 74,tp 75,tp 76,tp 78,tp 79,tp 80,tp 81,tp 82,tp 84,tp 85,tp 86,tp 87,tp 88,tp 89,tp 90,tp 91,tp 92,tp 93,tp 94,tp 95,tp 96,tp 97,tp 98,tp 99,tp 100,tp 101,tp 102,tp 103,tp 104,tp 105,tp 106,tp 107,tp 108,tp 110,tp 112,tp 113,tp 114,tp 115,tp 116,tp 117,tp 118,tp 119,tp 120,tp 121,tp 122,tp 123,tp 124,tp 125,tp 126,tp 127,tp 128,tp 129,tp 130]}}
noncomputable def ls:List Str:=[u "ScribeError",u "BadName",u "BadBounds",u "BadTest",u "BadSize",u "BadTime",u "BadKeys",u "BadTie",u "BadCause",u "Taken",u "Full",u "NotTop",u "Stopped",u "Busy",u "Missing",u "NoLane",u "NoKind",u "NoTicket",u "Kind",u "HIGHEST_MOST",u "amounts",u "ring",u "Lane",u "ordered",u "WITHIN",u "SIGN_OF",u "Tally",u "DEEDS",u "Recorder"]
noncomputable def lv:List (Str×WData):=[(u "HIGHEST_MOST",WData.int 1000000000000)]
abbrev Xt:Shared->Bool:=λs=>xlAt vw lv s&&recOk (RowW.records (OpenRow.toRowW PySem.Challenge.rw_lanescribe_k44_whole_a_halt_stops_at_onc.row)) s
abbrev hk:Hook:=kmHook KK WL eK [871,1618]
def ba{a b:Bool}(h:a=true)(c:b=true):(a&&b)=true:=by rw[h,c];rfl
abbrev lw:=PySem.Challenge.rw_lanescribe_k44_whole_a_halt_stops_at_onc
def Z4:namesResolve lw.row.prog=true:=by kernel_rfl
def Xl:(lw.row.prog.boundNames.all λn=>!worldNames.contains n)=true:=by kernel_rfl
noncomputable def YS:noRoadLSs {strict:=!(importedModules lw.row.prog.main.body).all cThrough.contains,foot:=none,bare:=List.filter (readsOut lw.row.prog lw.row.prog.main.body) [Str.ofString "vars",Str.ofString "dir",Str.ofString "locals"]} lw.row.prog.main.body=true:=by kernel_rfl
def Zc:(namesMeet lw.row.prog lw.row.prog.main.body λ_ n=>attrL n)=true:=by kernel_rfl
def Y_:looksOpen lw.row.prog=true:=ba (ba (ba (ba (by kernel_rfl) Z4) Xl) YS) Zc
noncomputable def Ym:lw.row.wellSaid=true:=ba (ba (ba (ba (ba (ba (ba (ba (ba (ba (ba (ba (ba (ba (ba Y_ (by kernel_rfl)) (by kernel_rfl)) (by kernel_rfl)) (by kernel_rfl)) (by kernel_rfl)) (by kernel_rfl)) (by kernel_rfl)) (by kernel_rfl)) (by kernel_rfl)) (by kernel_rfl)) (by kernel_rfl)) (by kernel_rfl)) (by kernel_rfl)) (by kernel_rfl)) (by kernel_rfl)
def Ze:(lw.bound'.all λn=>!builtinNamed n||lw.about==[n]||!lw.reads n)=true:=by kernel_rfl
def Y0:(namesMeet lw.prog lw.above λ_ n=>!lw.own.contains n)=true:=by kernel_rfl
noncomputable def said:PySem.Challenge.rw_lanescribe_k44_whole_a_halt_stops_at_onc.wellSaid=true:=ba (ba (ba (ba (ba (ba (ba (ba (ba (ba (ba (ba (ba (ba (ba (ba (ba (ba Ym (by kernel_rfl)) (by kernel_rfl)) (by kernel_rfl)) (by kernel_rfl)) (by kernel_rfl)) (by kernel_rfl)) (by kernel_rfl)) (by kernel_rfl)) (by kernel_rfl)) Ze) (by kernel_rfl)) (by kernel_rfl)) (by kernel_rfl)) (by kernel_rfl)) (by kernel_rfl)) (by kernel_rfl)) Y0) (by kernel_rfl)
noncomputable def openP:opening (OpenRow.toRowW PySem.Challenge.rw_lanescribe_k44_whole_a_halt_stops_at_onc.row).prog=plainProg (OpenRow.toRowW PySem.Challenge.rw_lanescribe_k44_whole_a_halt_stops_at_onc.row).prog.main.scope.names:=by kernel_rfl
theorem HH{p:Program}{w:World}{N L:Nat}{s0 d:Shared}{f:Thread}{c:Nat}{b:Option Value}{g:Type}{F:Shared->g}{X:g}(h:(s0.heap.isNs mainGlobals&&s0.gens.size==0)=true)(i:s0.heap.objs.size=c)(j:s0.heap.nsMap mainGlobals "__annotations__"=b)
 (chain:∀r,topRun treeTable p w c b L d f=some r->topRun treeTable p w c b N s0 (topStub p)=some r)
 (last:((topRun treeTable p w c b L d f).bind λa=>match staticsOk (importedModules p.main.body) s0.heap a.heap&&namesBound p a.heap&&gensDone a&&laidKept s0.heap a.heap with
  |true=>some a
  |false=>none).map F=some X):(topFrom treeTable p w N s0).map F=some X:=by
 cases hA:topRun treeTable p w c b L d f with
 |none=>rw[hA]at last;cases last
 | some r=>have e:=chain r hA;unfold topFrom;rw[h,i,j,e];rw[hA]at last;exact last
abbrev pp:Program:=(OpenRow.toRowW PySem.Challenge.rw_lanescribe_k44_whole_a_halt_stops_at_onc.row).prog
def env:Env:={scope:=pp.main.scope,locals:=mainNs,globals:=mainNs,cells:=[],code:=vr 13,frame:=some 14}
abbrev cd:Code:=.body (behindTheImports pp) env
noncomputable abbrev fp:Pos:={line:=0,col:=0,endLine:=0,endCol:=0}
abbrev an:Option Value:=some (vr 6)
abbrev Ju(w:World)(a:OsState):Shared:=⟨boot_heap w.params,Array.mk [],boot_drawn,boot_toks,a⟩
def h_a(P:Params):Heap:=⟨⟨qe P (boot_o_2 P) (boot_o_3 P) o1<|[]⟩,{}⟩
abbrev ZP(w:World)(a:OsState):Shared:=⟨h_a w.params,Array.mk [],{},187,a⟩
noncomputable abbrev ZR:Pos:={line:=0,col:=0,endLine:=0,endCol:=0}
def h_b(P:Params):Heap:=⟨⟨qe P (boot_o_2 P) (boot_o_3 P) o1<|[]⟩,{}⟩
abbrev Xe(w:World)(a:OsState):Shared:=⟨h_b w.params,Array.mk [],{},187,a⟩
noncomputable abbrev Xx:Pos:={line:=0,col:=0,endLine:=0,endCol:=0}
def bt(l:List Obj):BT:=(l.foldl (λ(a:BT×Nat)o=>(a.1.ins a.2 o,a.2+1)) (.nil,0)).1
def Jx(s:Shared):SharedT:=⟨bt s.heap.objs.toList,s.heap.objs.size,s.heap.life,s.gens,s.drawn,s.toks,s.os⟩
theorem yg{tb p w n₀ ann b n s s' t f c q}(d:(Jx s).abs=s)(h:(segRunT tb p w n₀ ann b n (Jx s) t).map (λr=>(r.1,r.2.1.abs,r.2.2))=some (f,s',c,q)):segRun tb p w n₀ ann b n s t=some (f,s',c,q):=by
 cases e:segRunT tb p w n₀ ann b n (Jx s) t with
 |none=>rw[e]at h;cases h
 | some r=>obtain⟨g,a,i,j⟩:=r;have k:=segRun_of e;rw[d]at k;rw[e]at h;cases h;exact k
def r_a(w:World)(a:OsState):topGo treeTable pp w 11 an 12 (Ju w a) (topStub pp)=some (ZP w a,⟨denote treeTable cd,cd,ZR,[topFrame fp]⟩):=by kernel_rfl
def r_b(w:World)(a:OsState):segRun treeTable pp w 11 an 1 1 (ZP w a) (blockOf (behindTheImports pp) env cd ZR [topFrame fp])=some (.next,Xe w a,cd,Xx):=by kernel_rfl
def Xb(P:Params):Heap:=⟨⟨qe P (boot_o_2 P) (o4 P) o5<|tZ P o23<|tR P<|t_ P<|tQ P<|[]⟩,{}⟩
abbrev Sx(w:World)(a:OsState):Shared:=⟨Xb w.params,Array.mk [],{},376,a⟩
noncomputable abbrev Vx:Pos:={line:=30,col:=0,endLine:=33,endCol:=52}
abbrev Z6:List Stmt:=((behindTheImports pp).drop 0).take 9
noncomputable def r_9(w:World)(a:OsState):segRun treeTable pp w 11 an 1 1737 (Xe w a) (piecesOf Z6 env cd Xx [topFrame fp])=some (.next,Sx w a,cd,Vx):=yg (by kernel_rfl) (by kernel_rfl)
def Uy(P:Params):Heap:=⟨⟨qe P (boot_o_2 P) (XM P) YT<|tZ P XQ<|tR P<|t_ P<|tQ P<|wg P<|vy P<|vH P<|wI P<|[]⟩,{}⟩
abbrev Nk(w:World)(a:OsState):Shared:=⟨Uy w.params,Array.mk [],{},551,a⟩
noncomputable abbrev O9:Pos:={line:=58,col:=0,endLine:=61,endCol:=49}
abbrev Q6:List Stmt:=((behindTheImports pp).drop 9).take 7
def Yt(w:World)(a:OsState):segRun treeTable pp w 11 an 1 1723 (Sx w a) (piecesOf Q6 env cd Vx [topFrame fp])=some (.next,Nk w a,cd,O9):=yg (by kernel_rfl) (by kernel_rfl)
def UL(P:Params):Heap:=⟨⟨qe P (boot_o_2 P) (o200 P) YC<|tZ P xU<|tR P<|t_ P<|tQ P<|wg P<|vy P<|vH P<|wI P<|yJ P<|xP P<|xJ P<|xG P<|[]⟩,{}⟩
abbrev O6(w:World)(a:OsState):Shared:=⟨UL w.params,Array.mk [],{},723,a⟩
noncomputable abbrev NT:Pos:={line:=94,col:=0,endLine:=95,endCol:=93}
abbrev Qc:List Stmt:=((behindTheImports pp).drop 16).take 11
def XD(w:World)(a:OsState):segRun treeTable pp w 11 an 1 1518 (Nk w a) (piecesOf Qc env cd O9 [topFrame fp])=some (.next,O6 w a,cd,NT):=yg (by kernel_rfl) (by kernel_rfl)
noncomputable def Wj(P:Params):Heap:=⟨⟨qe P (boot_o_2 P) (Zk P) XZ<|tZ P xU<|tR P<|t_ P<|tQ P<|wg P<|vy P<|vH P<|wI P<|yJ P<|xP P<|xJ P<|xG P<|zM P<|y_ P<|zx P<|Al P<|yV P<|z_ P<|zf P<|[]⟩,{}⟩
abbrev Nj(w:World)(a:OsState):Shared:=⟨Wj w.params,Array.mk [],{},1082,a⟩
noncomputable abbrev NP:Pos:={line:=246,col:=0,endLine:=264,endCol:=20}
abbrev Ru:List Stmt:=((behindTheImports pp).drop 27).take 31
def X_(w:World)(a:OsState):segRun treeTable pp w 11 an 1 1699 (O6 w a) (piecesOf Ru env cd NT [topFrame fp])=some (.next,Nj w a,cd,NP):=yg (by kernel_rfl) (by kernel_rfl)
noncomputable def Wm(P:Params):Heap:=⟨⟨qe P (boot_o_2 P) (Ys P) Yl<|tZ P xU<|tR P<|t_ P<|tQ P<|wg P<|vy P<|vH P<|wI P<|yJ P<|xP P<|xJ P<|xG P<|zM P<|y_ P<|zx P<|Al P<|yV P<|z_ P<|zf P<|El P<|De P<|Dt P<|Dc P<|Dn P<|Eg P<|Dy P<|Dv P<|[]⟩,{}⟩
abbrev Nu(w:World)(a:OsState):Shared:=⟨Wm w.params,Array.mk [],{},1443,a⟩
noncomputable abbrev N8:Pos:={line:=495,col:=0,endLine:=495,endCol:=9}
abbrev Pz:List Stmt:=((behindTheImports pp).drop 58).take 21
noncomputable def Yq(w:World)(a:OsState):segRun treeTable pp w 11 an 1 1501 (Nj w a) (piecesOf Pz env cd NP [topFrame fp])=some (.next,Nu w a,cd,N8):=by(revert w a;refine(byRow2 "special-get-raises" ?_ ?_:∀w,_)<;>(intro w a;exact yg (by kernel_rfl) (by kernel_rfl)))
noncomputable def R0(P:Params):Heap:=⟨⟨qe P (boot_o_2 P) (Yc P) Yn<|tZ P xU<|tR P<|t_ P<|tQ P<|wg P<|vy P<|vH P<|wI P<|yJ P<|xP P<|xJ P<|xG P<|zM P<|y_ P<|zx P<|Al P<|yV P<|z_ P<|zf P<|El P<|De P<|Dt P<|Dc P<|Dn P<|Eg P<|Dy P<|Dv P<|Jj P<|Jo P<|Ew P<|G5 P<|Ij P<|Ih P<|Hu P<|[]⟩,{}⟩
abbrev Iu(w:World)(a:OsState):Shared:=⟨R0 w.params,Array.mk [],{},1777,a⟩
noncomputable abbrev J8:Pos:={line:=661,col:=0,endLine:=663,endCol:=46}
abbrev Gp:List Stmt:=((behindTheImports pp).drop 79).take 22
def VB(w:World)(a:OsState):segRun treeTable pp w 11 an 1 1532 (Nu w a) (piecesOf Gp env cd N8 [topFrame fp])=some (.next,Iu w a,cd,J8):=yg (by kernel_rfl) (by kernel_rfl)
noncomputable def Oz(P:Params):Heap:=⟨⟨qe P (boot_o_2 P) (YM P) Xo<|tZ P xU<|tR P<|t_ P<|tQ P<|wg P<|vy P<|vH P<|wI P<|yJ P<|xP P<|xJ P<|xG P<|zM P<|y_ P<|zx P<|Al P<|yV P<|z_ P<|zf P<|El P<|De P<|Dt P<|Dc P<|Dn P<|Eg P<|Dy P<|Dv P<|Jj P<|Jo P<|Ew P<|G5 P<|Ij P<|Ih P<|Hu P<|Lh P<|JM P<|Kc P<|Lp P<|La P<|JK P<|Ml P<|M7 P<|N5 P<|Ma P<|BP P<|[]⟩,{}⟩
abbrev Hj(w:World)(a:OsState):Shared:=⟨Oz w.params,Array.mk [],{},2216,a⟩
noncomputable abbrev GX:Pos:={line:=697,col:=0,endLine:=823,endCol:=99}
abbrev Hk:List Stmt:=((behindTheImports pp).drop 101).take 10
noncomputable def Vq(w:World)(a:OsState):segRun treeTable pp w 11 an 1 1948 (Iu w a) (piecesOf Hk env cd J8 [topFrame fp])=some (.next,Hj w a,cd,GX):=by(revert w a;refine(byRow2 "special-get-raises" ?_ ?_:∀w,_)<;>(intro w a;exact yg (by kernel_rfl) (by kernel_rfl)))
noncomputable def PN(P:Params):Heap:=⟨⟨qe P (boot_o_2 P) (Pj P) QH<|tZ P xU<|tR P<|t_ P<|tQ P<|wg P<|vy P<|vH P<|wI P<|yJ P<|xP P<|xJ P<|xG P<|zM P<|y_ P<|zx P<|Al P<|yV P<|z_ P<|zf P<|El P<|De P<|Dt P<|Dc P<|Dn P<|Eg P<|Dy P<|Dv P<|Jj P<|Jo P<|Ew P<|G5 P<|Ij P<|Ih P<|Hu P<|Lh P<|JM P<|Kc P<|Lp P<|La P<|JK P<|Ml P<|M7 P<|N5 P<|Ma P<|BP P<|Rz P<|Qt P<|Rq P<|Qw P<|[]⟩,{}⟩
abbrev ww(w:World)(a:OsState):Shared:=⟨PN w.params,Array.mk [],{},2391,a⟩
noncomputable abbrev vI:Pos:={line:=944,col:=0,endLine:=983,endCol:=15}
abbrev Iw:List Stmt:=((behindTheImports pp).drop 111).take 20
noncomputable def VJ(w:World)(a:OsState):segRun treeTable pp w 11 an 1 587 (Hj w a) (piecesOf Iw env cd GX [topFrame fp])=some (.next,ww w a,cd,vI):=by(revert w a;refine(byRow2 "special-get-raises" ?_ ?_:∀w,_)<;>(intro w a;exact yg (by kernel_rfl) (by kernel_rfl)))
abbrev T5:List Stmt:=(behindTheImports pp).drop 131
def U7:behindTheImports pp=(Z6++(Q6++(Qc++(Ru++(Pz++(Gp++(Hk++(Iw++T5)))))))):=by kernel_rfl
noncomputable def h_z(P:Params):Heap:=⟨⟨qe P (boot_o_2 P) (Pj P) QH<|tZ P xU<|tR P<|t_ P<|tQ P<|wg P<|vy P<|vH P<|wI P<|yJ P<|xP P<|xJ P<|xG P<|zM P<|y_ P<|zx P<|Al P<|yV P<|z_ P<|zf P<|El P<|De P<|Dt P<|Dc P<|Dn P<|Eg P<|Dy P<|Dv P<|Jj P<|Jo P<|Ew P<|G5 P<|Ij P<|Ih P<|Hu P<|Lh P<|JM P<|Kc P<|Lp P<|La P<|JK P<|Ml P<|M7 P<|N5 P<|Ma P<|BP P<|Rz P<|Qt P<|Rq P<|Qw P<|[]⟩,{}⟩
abbrev Jt(w:World)(a:OsState):Shared:=⟨h_z w.params,Array.mk [],{},2391,a⟩
def r_z(w:World)(a:OsState):topRun treeTable pp w 11 an 501 (ww w a) (restOf T5 env cd vI [topFrame fp])=some (Jt w a):=by kernel_rfl
def q_1(w:World)(a:OsState):staticsOk (importedModules pp.main.body) (Ju w a).heap (Jt w a).heap=true:=by kernel_rfl
def q_2(w:World)(a:OsState):namesBound pp (Jt w a).heap=true:=by kernel_rfl
def q_3(w:World)(a:OsState):gensDone (Jt w a)=true:=by kernel_rfl
def q_4(w:World)(a:OsState):laidKept (Ju w a).heap (Jt w a).heap=true:=by kernel_rfl
abbrev HA(q:Program)(l:List Str)(s:Shared):Prop:=PyProof.Rows.seen ((PyProof.Rows.recsOf q).map (·.name)) (PyProof.Rows.ownsOf q) [] {s with gens:=#[]}=PyProof.Rows.expectedOf q/\s.heap.bltView=bltViewBooted/\s.heap.keysOk (looseW q l) ((PyProof.Rows.recsOf q).map (·.name)) ((PyProof.Rows.litsOf q).map (·.1)) ((PyProof.Rows.clssOf q (looseW q l)).map (·.name))=true
abbrev HB(q:Program)(s:Shared):Prop:=PyProof.Rows.tabsOk q s=true/\wideSeen q s=wideGood q
noncomputable def op9{q:Program}{l m:List Str}{Xt:Shared->Bool}{s:Shared}(a:HA q l s)(b:HB q s)(k2:s.heap.accountedOkI m=true)(c:s.heap.isNs mainGlobals=true)(d:s.heap.isNs builtinsNs=true)(e:PyProof.Rows.tablesOk q s.heap=true)(f:Xt s=true)(g:(s.gens.size==0)=true)(h:pinSeenD q (PyProof.Rows.drecsOf q) s=pinGoodD (PyProof.Rows.drecsOf q))(i:PyProof.Rows.plainSeenE q (looseW q l) s=PyProof.Rows.plainGoodE q (looseW q l))(j:PyProof.Rows.plainSeenD q l s=PyProof.Rows.plainGoodD q l)(n:clsSeenW q l s=clsGoodW q l):openSeen q l m Xt true s=openGood q l:=by unfold openSeen openGood;rw[a.1,a.2.1,a.2.2,k2,c,d,e,f,b.1,h,i,j,b.2,n];simp[g]
def q_A(w:World)(a:OsState):HA vw ls (Jt w a):=⟨by kernel_rfl,by kernel_rfl,by kernel_rfl⟩
def q_B(w:World)(a:OsState):HB vw (Jt w a):=⟨by kernel_rfl,by kernel_rfl⟩
noncomputable def q_5(w:World)(a:OsState):openSeen vw ls (importedModules pp.main.body) Xt true (Jt w a)=openGood vw ls:=op9 (q_A w a) (q_B w a) (by kernel_rfl) (by kernel_rfl) (by kernel_rfl) (by kernel_rfl) (by kernel_rfl) (by kernel_rfl) (by kernel_rfl) (by kernel_rfl) (by kernel_rfl) (by kernel_rfl)
noncomputable def gT{s:Shared}{b:List Addr}{X:List (Option Obj)}(c:(Jx s).abs=s)(d:(b.all λa=>Nat.blt a (Jx s).n&&((Jx s).tree.get a).isSome)=true)(f:b.map (λa=>((Jx s).tree.get a).bind alive)=X):b.map s.heap.get?=X:=by rw[<-f];refine List.map_congr_left λa m=>?_;have e:s.heap=absHeap (Jx s).tree (Jx s).n (Jx s).life:=(aaB Shared.heap c).symm;have z:=abS.mp d a m;rw[aaM]at z;obtain⟨o,ho⟩:=Option.isSome_iff_exists.mp z.2;rw[ho,e];exact abs_get (Nat.le_of_ble_eq_true z.1) ho
def Xm(w:World)(a:OsState):WL.map (Jt w a).heap.get?=(KK w.params).map (λp=>some p.2):=gT (by kernel_rfl) (by kernel_rfl) (by kernel_rfl)
def q_6(w:World)(a:OsState):hk.obs (Jt w a)=hk.val w:=Prod.ext (Xm w a) (by kernel_rfl)
theorem oK{r:Option Shared}{s:Shared}{a b c d:Shared->Bool}{i j:Type}{f:Shared->i}{g:Shared->j}{y:i}{z:j}(h:r=some s)(l:a s=true)(m:b s=true)(n:c s=true)(o:d s=true)(p:f s=y)(q:g s=z):((r.bind λe=>match a e&&b e&&c e&&d e with
 |true=>some e
 |false=>none).map λs=>(f s,g s))=some (y,z):=by
 subst h p q;show(Option.map _ (match a s&&b s&&c s&&d s with|true=>some s|false=>none))=_;rw[l,m,n,o];rfl
theorem last(w:World)(f:OsState):((topRun treeTable pp w 11 an 501 (ww w f) (restOf T5 env cd vI [topFrame fp])).bind λe=>match staticsOk (importedModules pp.main.body) (Ju w f).heap e.heap&&namesBound pp e.heap&&gensDone e&&laidKept (Ju w f).heap e.heap with
 |true=>some e
 |false=>none).map (λs=>(openSeen vw ls (importedModules pp.main.body) Xt true s,hk.obs s))=some (openGood vw ls,hk.val w):=oK (a:=λs=>staticsOk (importedModules pp.main.body) (Ju w f).heap s.heap) (b:=λs=>namesBound pp s.heap) (c:=λs=>gensDone s) (d:=λs=>laidKept (Ju w f).heap s.heap) (r_z w f) (q_1 w f) (q_2 w f) (q_3 w f) (q_4 w f) (q_5 w f) (q_6 w f)
noncomputable def chain(w:World)(a:OsState)(r:Shared)(h:topRun treeTable pp w 11 an 501 (ww w a) (restOf T5 env cd vI [topFrame fp])=some r):topRun treeTable pp w 11 an 12759 (Ju w a) (topStub pp)=some r:=by have k:topRun treeTable pp w 11 an 12746 (Xe w a) (restOf (Z6++(Q6++(Qc++(Ru++(Pz++(Gp++(Hk++(Iw++T5)))))))) env cd Xx [topFrame fp])=some r:=piece_app (r_9 w a) (piece_app (Yt w a) (piece_app (XD w a) (piece_app (X_ w a) (piece_app (Yq w a) (piece_app (VB w a) (piece_app (Vq w a) (piece_app (VJ w a) (h))))))));rw[<-U7]at k;exact go_top (n:=12) (N:=12747) (r_a w a) (piece_block (n:=1) (N:=12746) (r_b w a) k)
noncomputable def run(w:World)(a:OsState):(topFrom treeTable pp w 12759 (Ju w a)).map (λs=>(openSeen vw ls (importedModules pp.main.body) Xt true s,hk.obs s))=some (openGood vw ls,hk.val w):=HH (s0:=Ju w a) (by kernel_rfl) (by kernel_rfl) (by kernel_rfl) (chain w a) (last w a)
noncomputable def left:LeftO (OpenRow.toRowW PySem.Challenge.rw_lanescribe_k44_whole_a_halt_stops_at_onc.row).prog vw ls Xt hk.obs hk.val 12759:=Dg openP (by decide) (λs=>by kernel_rfl) run
noncomputable def head(h:(OpenRow.toRowW PySem.Challenge.rw_lanescribe_k44_whole_a_halt_stops_at_onc.row).promised){d:DefRec}{b:List (Str×Expr)}(c:defOf vw PySem.Challenge.rw_lanescribe_k44_whole_a_halt_stops_at_onc.row.name=some (d,b))(i:PySem.Challenge.rw_lanescribe_k44_whole_a_halt_stops_at_onc.row.prog.theDef PySem.Challenge.rw_lanescribe_k44_whole_a_halt_stops_at_onc.row.name=some (d.params,d.body,d.scope))(g:kwWritten? d.params.kwonlyargs d.params.kw_defaults=some b)
 (j:WalkO vw ls (XL vw lv) (kmHook KK WL eK [871,1618]).says (OpenRow.toRowW PySem.Challenge.rw_lanescribe_k44_whole_a_halt_stops_at_onc.row) d b λf vs=>PySem.call f vs):PySem.Challenge.rw_lanescribe_k44_whole_a_halt_stops_at_onc.Holds:=
 holds_law said λa=>holds_open (q:=vw) (loose:=ls) (Xt:=Xt) (XP:=XL vw lv) (Yf:=hk.obs) (Ya:=hk.val) (YP:=hk.says) (N:=12759) left hk.of hk.keeps (λs e=>xl_of s (Bool.and_eq_true_iff.mp e).1) XL.keeps c i g (λs e=>recFacts_of (Bool.and_eq_true_iff.mp e).2) (by rfl) a (by decide+kernel) ⟨rfl,rfl,rfl,rfl,rfl,by decide+kernel⟩ h j
end
end Kd
local macro_rules|`(tactic|ext)=>`(tactic|first|exact⟨rfl,rfl,rfl,by decide+kernel,rfl,by decide+kernel,by decide+kernel⟩|exact⟨rfl,by decide+kernel,by decide+kernel,by decide+kernel,rfl,by decide+kernel⟩|exact Nat.le_of_ble_eq_true rfl|(intro v _ _ _ h;first|(cases h;exact aaB List.length (show v=_ by assumption))|(repeat first|exact aaB List.length h.1|obtain⟨_,h⟩:=h))|decide+kernel)
set_option bootstrap.genMatcherCode false
noncomputable section
local macro_rules|`(tactic|omega)=>`(tactic|first|assumption|exact Nat.le_trans (by assumption) (by decide)|exact Nat.le_of_lt (by assumption)|lia)
local macro_rules|`(⟨$xs,*⟩)=>do
 let mut r:=#[]
 let mut c:=false
 for x in xs.getElems do
  let k:=x.raw.isNatLit?.getD 0
  if 6<k&&k<10 then
   c:=true
   for _ in [0:if k==9 then 1 else if k==7 then 2 else 0] do r:=r.push (← `(_))
   r:=r.push (← `(rfl))
  else r:=r.push x
 if c then `(⟨$r,*⟩)else Lean.Macro.throwUnsupported
set_option hygiene false
local macro_rules(kind:=num)|s=>do match s[0].getAtomVal with
 |"00"=>`((model X.prog X.w))
 |"01"=>`(by ext)
 |"02"=>`(by decide)
 |"03"=>`((cU (pv 0) rfl))
 |"04"=>`(by simp)
 |"05"=>`(by omega)
 |"06"=>`((pv 0))
 |"000"=>`((fs.map (·.1)))
 |"001"=>`((1+(fs.length:Int)))
 |"002"=>`((s.heap.objs.size+1))
 |"003"=>`((pv 1))
 |"004"=>`(by rfl)
 |"005"=>`(by intro z;cases z)
 |"010"=>`((pv 2))
 |"011"=>`(by k_is)
 |"012"=>`((.inl rfl))
 |"013"=>`((.inr rfl))
 |"014"=>`((aae _))
 |"015"=>`((show 12<1000 by decide))
 |"016"=>`((dz (pv 1) (cU (pv 0) rfl) rfl))
 |"017"=>`((d_ eO (pv 0) cj))
 |"018"=>`((show false=true from f))
 |_=>Lean.Macro.throwUnsupported

namespace L2
open PySem PySem.Spec PyProof.Rows
abbrev Key:=Sum Int Str
noncomputable def qU:Key->Value->Bool
 |.inl k,v=>Value.isInt k v
 |.inr x,v=>Value.isStrOf x v
noncomputable def Zu(w:ZH):Key->Int
 |.inl k=>hashInt k
 |.inr x=>hashStr w x
theorem gH:∀{k:Key}{v:ZI},qU k v=true->(∃i t,k=Sum.inl i/\v=Value.int i t)\/(∃x t,k=Sum.inr x/\v=Value.str x t)
 | .inl i,v,h=>by obtain⟨t,e⟩:=Value.isInt_shape (k:=i) (v:=v) h;exact .inl ⟨i,t,8,e⟩
 | .inr x,v,h=>by obtain⟨t,e⟩:=Value.isStrOf_shape (x:=x) (v:=v) h;exact .inr ⟨x,t,8,e⟩
def Dp(i:Int)(t:Tok):qU (.inl i) (.int i t)=true:=by simp[qU,Value.isInt]
def CZ(x:Str)(t:Tok):qU (.inr x) (.str x t)=true:=by simp[qU,Value.isStrOf]
def Qu(a b:Int):decide ((Sum.inl a:Key)=Sum.inl b)=(a==b):=by
 by_cases e:a=b
 ·subst e;simp
 ·have h:¬(Sum.inl a:Key)=Sum.inl b:=λq=>e (Sum.inl.inj q);rw [aaR h];exact (abz.mpr e).symm
def PL(a b:Str):decide ((Sum.inr a:Key)=Sum.inr b)=decide (a=b):=by
 by_cases e:a=b
 ·subst e;simp
 ·have h:¬(Sum.inr a:Key)=Sum.inr b:=λq=>e (acl q);rw [aaR h,aaR e]
def Ry(a:Int)(b:Str):decide ((Sum.inl a:Key)=Sum.inr b)=false:=aaR (λq=>nomatch q)
def QC(a:Str)(b:Int):decide ((Sum.inr a:Key)=Sum.inl b)=false:=aaR (λq=>nomatch q)
def gW(c:ZE)(w:ZH):PySem.KeyKind c w Key where
 is:=qU
 hash:=Zu w
 inj:=λv a b g f=>by
  rcases gH g with⟨i,t,rfl,rfl⟩|⟨x,t,rfl,rfl⟩
  ·rcases gH f with⟨j,u,rfl,e⟩|⟨y,u,rfl,e⟩
   ·injection e with e1 _;rw[e1]
   ·exact nomatch e
  ·rcases gH f with⟨j,u,rfl,e⟩|⟨y,u,rfl,e⟩
   ·exact nomatch e
   ·injection e with e1 _;rw[e1]
 byValue:=λk v h=>by rcases gH h with⟨i,t,rfl,rfl⟩|⟨x,t,rfl,rfl⟩<;>rfl
 pyHash:=λd h=>by
  rcases gH d with⟨i,t,rfl,rfl⟩|⟨x,t,rfl,rfl⟩
  ·exact wpAny_pyHash_int h
  ·exact wpAny_pyHash_str h
 eqBool:=λl d h=>by
  rcases gH l with⟨i,t,rfl,rfl⟩|⟨x,t,rfl,rfl⟩
  ·rcases gH d with⟨j,u,rfl,rfl⟩|⟨y,u,rfl,rfl⟩
   ·rw[Qu]at h;exact wpAny_eqBool_int h
   ·rw[Ry]at h;exact SeqAt.EqAt.int_str i t y u _ _ _ _ h
  ·rcases gH d with⟨j,u,rfl,rfl⟩|⟨y,u,rfl,rfl⟩
   ·rw[QC]at h;exact SeqAt.EqAt.str_int x t j u _ _ _ _ h
   ·rw[PL]at h;exact wpAny_eqBool_str h
 «strs»:=λk x t v h=>by
  rcases gH h with⟨i,u,rfl,e⟩|⟨y,u,rfl,e⟩
  ·exact nomatch e
  ·injection e with e1 _
   subst e1;cases v<;>rfl
def yL(a:ZE)(w:ZH)(i:Int)(t:Tok):(gW a w).is (.inl i) (.int i t)=true:=Dp i t
def xx(a:ZE)(w:ZH)(x:Str)(t:Tok):(gW a w).is (.inr x) (.str x t)=true:=CZ x t
inductive V where
 |non|bl(b:Bool)|int(i:Int)|str(x:Str)|byt(b:Array UInt8)|flt(b:UInt64)|ref(a:Zl)|ty(n:String)
 deriving DecidableEq
def RelV:V->Value->Prop
 |.non,u=>u=Value.none
 |.bl b,u=>u=Value.bool b
 |.int i,u=>∃t,u=Value.int i t
 |.str x,u=>∃t,u=Value.str x t
 |.byt b,u=>∃t,u=Value.bytes b t
 |.flt b,u=>∃t,u=Value.float b t
 |.ref a,u=>u=Value.ref a
 |.ty n,u=>u=Value.type n
abbrev Vals:List V->List Value->Prop:=Paired RelV
def Vals.length(r:Vals xs a):xs.length=a.length:=aaS r
theorem Vals.get:∀{a:List V}{b:Y3}{i:Nat}{x:V},Vals a b->a[i]?=some x->∃u,b[i]?=some u/\RelV x u
 |_,_,_,_,.nil,e=>by simp at e
 |_,_,0,_,.cons r _,e=>by simp at e;subst e;exact⟨9,r⟩
 | _,_,i+1,x,.cons _ t,e=>by obtain⟨u,c,d⟩:=Vals.get (i:=i) (x:=x) t (by simpa using e);exact⟨u,by simpa using c,d⟩
theorem Vals.set(r:RelV x u):∀{a:List V}{b:Y3}(i:Nat),Vals a b->Vals (a.set i x) (b.set i u)
 |_,_,_,.nil=>.nil
 |_,_,0,.cons _ t=>.cons r t
 |_,_,i+1,.cons q t=>.cons q (Vals.set r i t)
theorem Vals.append:∀{a b:List V}{c d:Y3},Vals a c->Vals b d->Vals (a++b) (c++d)
 |_,_,_,_,.nil,s=>s
 |_,_,_,_,.cons r t,s=>.cons r (Vals.append t s)
theorem Vals.take:∀{a:List V}{b:Y3}(n:Nat),Vals a b->Vals (a.take n) (b.take n)
 |_,_,0,_=>.nil
 |_,_,_+1,.nil=>.nil
 |_,_,n+1,.cons r t=>.cons r (Vals.take n t)
theorem Vals.drop:∀{a:List V}{b:Y3}(n:Nat),Vals a b->Vals (a.drop n) (b.drop n)
 |_,_,0,r=>r
 |_,_,_+1,.nil=>.nil
 |_,_,n+1,.cons _ t=>Vals.drop n t
def lR:Option V->Option Value->Prop
 |some v,some u=>RelV v u
 |none,none=>True
 |_,_=>False
def KV{a:Type}:List (a×V)->List (a×Value)->Prop:=Paired λ(p:a×V)(q:a×Value)=>p.1=q.1/\RelV p.2 q.2
noncomputable def kV:Key->V
 |.inl i=>.int i
 |.inr x=>.str x
inductive HO where
 |lst(xs:List V)
 |tup(xs:List V)
 |dK(kvs:List (Key×V))|dT(kvs:List (List Key×V))
 |set(S:Int->Bool)(n:Nat)
 |ins(C dx:Zl)(fs:List (Str×V))
 |own(x:Zl)
 |xd(fs:List (Str×V))
 |met(f x:Zl)
 |rng(lo hi:Int)
 |frz(o:Obj)(u:HO)
 |tbl(ps:YA)
 |ext(φ:Heap->Prop)
abbrev Hp:=Addr->Option HO
def upd(H:Hp)(a:Zl)(o:HO):Hp:=λb=>if b=a then some o else H b
def a_:upd H a o a=some o:=by unfold upd;rw[aac rfl]
def b8(h:b≠a):upd H a o b=H b:=by unfold upd;rw[aab h]
def iG:upd (upd H a o) a u=upd H a u:=by funext b;unfold upd;split<;>rfl
def iV{H:Hp}(h:H a=some o)(c:H b=some u)(d:o≠u):a≠b:=by intro e;subst e;rw[h]at c;exact d (aaO c)
def cg{H:Hp}(h:H a=some o)(c:H b=none):a≠b:=by intro e;subst e;rw[h]at c;cases c
section
variable(P:ZE)(w:ZH)
def gq(H:Hp)(h:ZN)(a:Zl):HO->Prop
 |.lst d=>d.length<=sizeLine/\∃(b:Y3) (n:Nat),Vals d b/\h.get? a=some {cls:=.type "list",data:=.seq b.toArray n}
 |.tup d=>d.length<=sizeLine/\∃b:List Value,Vals d b/\IsTup h a b.toArray
 |.dK c=>c.length<=sizeLine/\(a==sysModules)=false/\∃vs,KV c vs/\h.DictOf (gW P w) a vs
 |.dT c=>c.length<=sizeLine/\(a==sysModules)=false/\∃d:List (List Key×Addr×Value),
  Paired (λ(p:List Key×V)(q:List Key×Addr×Value)=>p.1=q.1/\H q.2.1=some (.tup (p.1.map kV))/\RelV p.2 q.2.2) c d/\
  ∃o i m,h.get? a=some o/\o.ExactDict/\o.data=.dict i m/\i.toList=d.map (entryOfKey (tupleKind (gW P w)))/\(d.map (·.1)).Nodup
 |.set S n=>h.SetOf (intKind P w) a S n
 |.ins C g fs=>H g=some (.own a)/\fs.length<=1000/\g≠a/\h.get? a=some (PySem.W.instObj C g)/\
  ∃e,h.Ns1 g e/\(∀f,lR (fs.lookup f) (e f))/\PySem.Within e 000
 |.own _=>∃o,h.get? a=some o
 |.xd fs=>∃e,h.Ns1 a e/\∀f,lR (fs.lookup f) (e f)
 |.rng r s=>∃t u v,h.get? a=some {cls:=.type "range",data:=.fields #[.int r t,.int s u,.int 1 v]}
 |.frz o u=>h.get? a=some o/\gq H h a u
 |.tbl y=>h.get? a=some {cls:=.none,data:=.fields y}
 |.met f x=>h.get? a=some (PySem.W.methodObj (.ref f) (.ref x))
 |.ext φ=>φ h/\(∃o,h.get? a=some o)/\∀j l:Heap,φ j->(∀o,j.get? a=some o->l.get? a=some o)->φ l
def my(H:Hp)(h:ZN):Prop:=∀a o,H a=some o->gq P w H h a o
end
theorem gq.lt(x:gq P w H h a o):a<h.objs.size:=by
 cases o with
 |lst xs=>obtain⟨_,_,_,_,e⟩:=x;exact aak e
 |tup xs=>obtain⟨_,_,_,p⟩:=x;exact p.lt
 |dK kvs=>obtain⟨_,_,_,_,o,_,_,e,_⟩:=x;exact aak e
 |dT kvs=>obtain⟨_,_,_,_,o,_,_,e,_⟩:=x;exact aak e
 |set S n=>obtain⟨o,_,_,_,e,_⟩:=x;exact aak e
 |ins C dx fs=>obtain⟨_,_,_,e,_⟩:=x;exact aak e
 |own y=>obtain⟨_,e⟩:=x;exact aak e
 |xd fs=>obtain⟨_,⟨_,_,_,e,_⟩,_⟩:=x;exact aak e
 |rng lo hi=>obtain⟨_,_,_,e⟩:=x;exact aak e
 |frz ob u=>obtain⟨e,_⟩:=x;exact aak e
 |tbl ps=>exact aak (show h.get? a=some _ from x)
 |met f y=>exact aak (show h.get? a=some _ from x)
 |ext φ=>obtain⟨_,⟨_,e⟩,_⟩:=x;exact aak e
theorem Paired.mapP{e g:Type}{F G:e->g->Prop}:∀{c:List e}{d:List g},Paired F c d->(∀a b,F a b->G a b)->Paired G c d
 |_,_,.nil,_=>.nil
 |_,_,.cons r t,f=>.cons (f _ _ r) (Paired.mapP t f)
theorem gq.stay{H H':Hp}{h h':ZN}(x:gq P w H h a o)(k:∀b u,(b=a\/H b=some (.own a))->h.get? b=some u->h'.get? b=some u)
 (ho:∀b,H b=some (.own a)->H' b=some (.own a))(ht:∀b xs,H b=some (.tup xs)->H' b=some (.tup xs)):gq P w H' h' a o:=by
 induction o with
 |lst xs=>obtain⟨z,its,n,r,e⟩:=x;exact⟨z,its,n,r,k _ _ 012 e⟩
 |tup xs=>obtain⟨z,its,r,ob,e,c⟩:=x;exact⟨z,its,r,ob,k _ _ 012 e,c⟩
 |dK kvs=>obtain⟨z,y,vs,r,ob,es,ep,e,c⟩:=x;exact⟨z,y,vs,r,ob,es,ep,k _ _ 012 e,c⟩
 | dT kvs=>obtain⟨z,y,xs,r,ob,es,ep,e,c⟩:=x;exact⟨z,y,xs,Paired.mapP r λp q z=>⟨z.1,ht _ _ z.2.1,z.2.2⟩,ob,es,ep,k _ _ 012 e,c⟩
 |set S n=>obtain⟨ob,es,ep,t,e,c⟩:=x;exact⟨ob,es,ep,t,k _ _ 012 e,c⟩
 | ins C dx fs=>obtain⟨d,z,ne,e,mA,⟨od,es,ep,e2,c⟩,r⟩:=x;exact⟨ho _ d,z,ne,k _ _ 012 e,mA,⟨od,es,ep,k _ _ (.inr d) e2,c⟩,r⟩
 |own y=>obtain⟨ob,e⟩:=x;exact⟨ob,k _ _ 012 e⟩
 |xd fs=>obtain⟨mA,⟨od,es,ep,e,c⟩,r⟩:=x;exact⟨mA,⟨od,es,ep,k _ _ 012 e,c⟩,r⟩
 |rng lo hi=>obtain⟨t,u,v,e⟩:=x;exact⟨t,u,v,k _ _ 012 e⟩
 |frz ob u ih=>obtain⟨e,q⟩:=x;exact⟨k _ _ 012 e,ih q⟩
 | tbl ps=>have e:h.get? a=some {cls:=.none,data:=.fields ps}:=x;show h'.get? a=some {cls:=.none,data:=.fields ps};exact k a _ 012 e
 | met f y=>have e:h.get? a=some (PySem.W.methodObj (.ref f) (.ref y)):=x;show h'.get? a=some (PySem.W.methodObj (.ref f) (.ref y));exact k a _ 012 e
 |ext φ=>obtain⟨p,⟨o,e⟩,st⟩:=x;exact⟨st _ _ p λo q=>k _ _ 012 q,⟨o,k _ _ 012 e⟩,st⟩
def my.lt(x:my P w H h)(e:H a=some o):a<h.objs.size:=(x a o e).lt
theorem my.fresh(x:my P w H h)(e:h.objs.size<=a):H a=none:=by
 cases q:H a with
 |none=>rfl
 |some u=>exact absurd (aat (x.lt q) e) (aaP _)
def my.kept(x:my P w H h)(k:∀b u,h.get? b=some u->h'.get? b=some u):my P w H h':=λa o e=>(x a o e).stay (λb u _ q=>k b u q) (λ_ q=>q) λ_ _ q=>q
def my.laid{h h':ZN}(x:my P w H h)(k:∀b u,h.get? b=some u->h'.get? b=some u)(g:h.objs.size<=a)(new:gq P w (upd H a o) h' a o):my P w (upd H a o) h':=λb u e=>by
 have d:=x.fresh g;by_cases f:b=a
 ·subst f;rw[a_]at e;cases e;exact new
 ·rw[b8 f]at e;exact(x b u e).stay (λc v _ q=>k c v q) (λc q=>by rw[b8 (cg q d)];exact q) λc i q=>by rw[b8 (cg q d)];exact q
def Rd(H:Hp)(a:Zl)(u:HO):Prop:=H a=some u\/∃o,H a=some (.frz o u)
def Rd.ok(r:Rd H a u)(x:my P w H h):gq P w H h a u:=by
 rcases r with r|⟨o,r⟩
 ·exact x a u r
 ·obtain⟨_,q⟩:=x a _ r;exact q
def U9:Option HO->Prop
 |some (.lst _)=>True
 |some (.dK _)=>True
 |some (.dT _)=>True
 |some (.set _ _)=>True
 |some (.ins _ _ _)=>True
 |some (.ext _)=>True
 |_=>False
def my.write(ok:my P w H h)(l:U9 (H x))(o:e=x\/H e=some (.own x))(k:∀b u,b≠e->h.get? b=some u->h'.get? b=some u)(m:∃u,h'.get? e=some u)
 (new:gq P w (upd H x s) h' x s):my P w (upd H x s) h':=λb u q=>by
 have d:∀c y,H c=some (.own y)->c≠x:=λc y r z=>by subst z;rw[r]at l;exact l
 have f:∀c g,H c=some (.tup g)->c≠x:=λc g r z=>by subst z;rw[r]at l;exact l
 by_cases j:b=x
 ·subst j;rw[a_]at q;cases q;exact new
 ·rw[b8 j]at q;by_cases a:b=e
  ·have n:H b=some (.own x):=by
    rcases o with z|z
    ·exact absurd (a.trans z) j
    ·rw[a];exact z
   rw[q]at n;cases n;obtain⟨v,p⟩:=m;exact⟨v,by rw[a];exact p⟩
  ·refine(ok b u q).stay (λc v i r=>k c v ?_ r) (λc r=>by rw[b8 (d c b r)];exact r) λc g r=>by rw[b8 (f c g r)];exact r
   rcases i with rfl|i
   ·exact a
   ·rintro rfl;rcases o with z|z
    ·exact d c b i z
    ·rw[i]at z;cases z;exact j rfl
structure Un(fs ex:YI)(H H':Hp)(h h':ZN):Prop where
 keep:∀b o,h.get? b=some o->H b=none->b∉fs->b∉ex->h'.get? b=some o
 slot:∀b o,h.get? b=some o->H b=none->b∈fs->b∉ex->∃sl,h'.get? b=some {o with slots:=sl}
 free:∀b o,h.get? b=some o->H b=none->b∉ex->H' b=none
 there:∀b o,h.get? b=some o->b∉ex->∃o',h'.get? b=some o'
 tups:∀b xs,H b=some (.tup xs)->H' b=some (.tup xs)
 frzs:∀b o u,H b=some (.frz o u)->H' b=some (.frz o u)
 tbls:∀b ps,H b=some (.tbl ps)->∃more,H' b=some (.tbl (ps++more))
def Un.any(u:Un fs e H i h a)(q:h.get? b=some c)(n:H b=none)(f:b∉e):∃g,a.get? b=some {c with slots:=g}:=by
 by_cases d:b∈fs
 ·exact u.slot b c q n d f
 ·exact⟨c.slots,u.keep b c q n d f⟩
def Un.kept(k:∀b u,h.get? b=some u->h'.get? b=some u):Un fs a H H h h':=
 ⟨λb c q _ _ _=>k b c q,λb c q _ _ _=>⟨c.slots,k b c q⟩,λ_ _ _ n _=>n,λb c q _=>⟨c,k b c q⟩,λ_ _ q=>q,λ_ _ _ q=>q,λ_ d q=>⟨#[],by rw[q];simp⟩⟩
def Un.refl:Un fs a H H h h:=Un.kept λ_ _ q=>q
def Un.laid{H:Hp}{h h':ZN}(k:∀b u,h.get? b=some u->h'.get? b=some u)(f:h.objs.size<=a)(c:H a=none):Un fs e H (upd H a o) h h' where
 keep:=λb u q _ _ _=>k b u q
 slot:=λb u q _ _ _=>⟨u.slots,k b u q⟩
 free:=λb u q n _=>by rw[b8 (aar (aat (aak q) f))];exact n
 there:=λb u q _=>⟨u,k b u q⟩
 tups:=λb d q=>by rw[b8 (cg q c)];exact q
 frzs:=λb u d q=>by rw[b8 (cg q c)];exact q
 tbls:=λb g q=>⟨#[],by rw[b8 (cg q c),q];simp⟩
def Un.write(d:U9 (H x))(m:e=x\/H e=some (.own x))(k:∀b u,b≠e->h.get? b=some u->h'.get? b=some u)(g:∃u,h'.get? e=some u):Un fs a H (upd H x o) h h':=by
 have i:∀b,H b=none->b≠x:=λb n z=>by subst z;rw[n]at d;exact d
 have j:∀b,H b=none->b≠e:=λb n z=>by
  subst z;rcases m with r|r
  ·exact i b n r
  ·rw[n]at r;cases r
 have f:∀b u,H b=some u->¬U9 (some u)->b≠x:=λb u q nm z=>by subst z;rw[q]at d;exact nm d
 refine⟨λb u q n _ _=>k b u (j b n) q,λb u q n _ _=>⟨u.slots,k b u (j b n) q⟩,λb u q n _=>by rw[b8 (i b n)];exact n,λb u q _=>?_,
  λb l q=>by rw[b8 (f b _ q λz=>z)];exact q,λb u l q=>by rw[b8 (f b _ q λz=>z)];exact q,λb p q=>⟨#[],by rw[b8 (f b _ q λz=>z),q];simp⟩⟩;by_cases c:b=e
 ·subst c;exact g
 ·exact⟨u,k b u c q⟩
noncomputable def X8(h:ZN)(H:Hp):List Addr:=(List.range h.objs.size).filter λa=>(H a).isSome
def yq(h:ZN)(H:Hp):Heap:=PySem.W.hideAll h (X8 h H)
def Ek(h:ZN)(H:Hp):(yq h H).objs.size=h.objs.size:=PySem.W.hideAll_size _ _
def sX(e:h.get? b=some o)(n:H b=none):(yq h H).get? b=some o:=
 PySem.W.hideAll_get _ e λa=>by have q:(H b).isSome=true:=(List.mem_filter.mp a).2;rw[n]at q;simp at q
theorem LK(e:(yq h H).get? b=some o):h.get? b=some o/\H b=none:=by
 have a:h.get? b=some o:=PySem.W.of_hideAll (X8 h H) e;refine⟨a,?_⟩;cases q:H b with
 |none=>rfl
 | some x=>have c:b∈X8 h H:=List.mem_filter.mpr ⟨acm.mpr (aak a),by simp[q]⟩;have z:(yq h H).get? b=none:=PySem.W.hideAll_none (X8 h H) c;rw[z]at e;cases e
structure Mod(K:Zs)(mg:Y1)(base:ZN):Prop where
 kin:K.In base
 glob:base.Ns mainGlobals mg
 blt:∃mb,base.Ns builtinsNs mb/\∀x:Str,x≠"__name__"->mb x=bootBuiltins x
 nolimit:base.NoLimit
structure Cx where
 prog:Program
 w:World
 K:PySem.W.Frag
 mg:Str->Option Value
 base:Heap
 A:Around
 N:List Str
 s₀:Shared
 H₀:Hp
 env:Env
 outer:List Env
 stack:List Env
 ex:List Addr
 fn:Str->Bool
 calm:Bool
 pn:List (Addr×Obj)
 xe:Value->Shared->Prop
noncomputable def frs(l:List Env):List Addr:=l.filterMap (·.frame)
abbrev Cx.fs(X:Cx):List Addr:=frs X.outer
def Sh(a:ZU)(x:Str):Prop:=a.names.lookup x=some .local\/a.names.lookup x=some .cell\/a.names.lookup x=some .free
def Loc(a:ZU)(x:Str):Prop:=a.names.lookup x=some .local\/a.names.lookup x=some .cell
def Look(env:Env)(h:ZN)(m:Y1)(x:Str)(u:ZI):Prop:=
 (env.kindOf x=some .local/\m x=some u)\/((env.kindOf x=some .cell\/env.kindOf x=some .free)/\∃c,env.cells.lookup x=some c/\h.IsCell c (some u))
structure Cx.Ok(X:Cx):Prop where
 mod:Mod X.K X.mg X.base
 kind:X.env.scope.kind=.function
 glob:X.env.globals=mainGlobals
 blt:X.env.builtins=builtinsNs
 above:X.s₀.heap.objs.size<=X.env.locals
 inj:∀x y c,X.env.cells.lookup x=some c->X.env.cells.lookup y=some c->x=y
 has:∀x,(X.env.kindOf x=some .cell\/X.env.kindOf x=some .free)->∃c,X.env.cells.lookup x=some c
 cab:∀x c,X.fn x=true->X.env.cells.lookup x=some c->X.s₀.heap.objs.size<=c
 hd:X.calm=true->X.A.handled=none
 frames:X.A.frames=some X.stack
 stk:X.stack=X.outer\/(X.stack=X.env::X.outer/\X.env.frame=some X.env.locals)
 exf:∀b∈X.ex,b≠X.env.locals/\∀x c,X.env.cells.lookup x=some c->c≠b
 bs:∀b o,X.base.get? b=some o->X.s₀.heap.get? b=some o/\X.H₀ b=none
 bsz:X.base.objs.size<=X.s₀.heap.objs.size
 noex:∀b o,X.base.get? b=some o->b∉X.ex
 exfs:∀b∈X.ex,b∉X.fs
 funs:X.s₀.heap.FunFrames X.base X.outer
 frf:∀b∈X.fs,X.H₀ b=none
structure Inv(X:Cx)(dD:YN)(σ:List (Option V))(H:Hp)(s:Zp):Prop where
 ok:X.Ok
 os:s.os=X.s₀.os
 bare:AllBare s.gens
 base:Un X.fs X.ex X.H₀ H X.s₀.heap s.heap
 loc:∃m,s.heap.Ns X.env.locals m/\∀(i:Nat)(x:Str)(v:V),X.N[i]?=some x->σ[i]?=some (some v)->Sh X.env.scope x->∃u,RelV v u/\Look X.env s.heap m x u
 cell:∀x c,X.env.cells.lookup x=some c->∃v,s.heap.IsCell c v
 free:H X.env.locals=none
 freeC:∀x c,X.env.cells.lookup x=some c->H c=none
 pin:∀p∈X.pn++dD,s.heap.get? p.1=some p.2/\H p.1=none/\p.1≠X.env.locals/\p.1∉X.fs/\∀v,p.2.data≠.cell v
 hok:my X.prog X.w H s.heap
 len:σ.length=X.N.length
section
variable{X:Cx}{dD:YN}{σ:List (Option V)}{H H':Hp}{s:Zp}{h':ZN}
def Cx.Ok.nofr(ok:X.Ok)(e:X.base.get? b=some o):b∉X.fs:=λa=>by have:=(ok.funs.mem a).1;rw[e]at this;cases this
noncomputable def Inv.bs(I:Inv X dD σ H s):∀b o,X.base.get? b=some o->s.heap.get? b=some o/\H b=none:=λb o e=>⟨I.base.keep b o (I.ok.bs b o e).1 (I.ok.bs b o e).2 (I.ok.nofr e) (I.ok.noex b o e),I.base.free b o (I.ok.bs b o e).1 (I.ok.bs b o e).2 (I.ok.noex b o e)⟩
def Inv.bk(I:Inv X dD σ H s):∀b o,X.base.get? b=some o->s.heap.get? b=some o:=λb o e=>(I.bs b o e).1
def Inv.mod(I:Inv X dD σ H s):Mod X.K X.mg X.base:=I.ok.mod
def Inv.kIn(I:Inv X dD σ H s):X.K.In s.heap:=I.ok.mod.kin.keeps I.bk
def Inv.fr(I:Inv X dD σ H s):∃m,Fr X.base X.env.locals s.heap m:=
 let⟨m,a,_⟩:=I.loc
 ⟨m,a,I.bk,aah I.ok.bsz I.ok.above⟩
def Inv.lt(I:Inv X dD σ H s):X.env.locals<s.heap.objs.size:=let⟨_,a,_⟩:=I.loc;a.lt
def Inv.sz(I:Inv X dD σ H s):X.s₀.heap.objs.size<=s.heap.objs.size:=aah I.ok.above (aaT I.lt)
def Inv.nofs(I:Inv X dD σ H s)(h:s.heap.objs.size<=a):a∉X.fs:=λb=>by obtain⟨_,o,ho,_⟩:=I.ok.funs.mem b;exact absurd (aat (aak ho) (aah I.sz h)) (aaP _)
noncomputable def Inv.cne(I:Inv X dD σ H s):∀x c,X.env.cells.lookup x=some c->c≠X.env.locals:=λx c e z=>by obtain⟨v,o,ho,hd⟩:=I.cell x c e;obtain⟨m,⟨d,f,g,a,b,_⟩,_⟩:=I.loc;rw[z,a]at ho;cases ho;rw[b]at hd;cases hd
def Inv.funs(I:Inv X dD σ H s):s.heap.FunFrames X.base X.outer:=by
 have all:∀(l:List Env),(∀b∈frs l,b∈X.fs)->X.s₀.heap.FunFrames X.base l->s.heap.FunFrames X.base l:=by
  intro l;induction l with
  |nil=>intro _ _;trivial
  | cons env r j=>intro f i;obtain⟨hk,⟨L,o,d,g,ho,hd⟩,h⟩:=i;have c:L∈X.fs:=f L (by unfold frs;rw[abT,d];exact aan);obtain⟨m,e⟩:=I.base.slot L o ho (I.ok.frf L c) c λz=>I.ok.exfs L z c;exact⟨hk,⟨L,_,d,g,e,hd⟩,j (λb a=>f b (by unfold frs;rw[abT,d];exact aai _ a)) h⟩
 exact all X.outer (λ_ a=>a) I.ok.funs
def Inv.stack(I:Inv X dD σ H s):s.heap.FunFrames X.base X.stack:=by
 rcases I.ok.stk with e|⟨e,b⟩
 ·rw[e];exact I.funs
 ·rw[e];obtain⟨m,a,_⟩:=I.loc;refine .cons (by rw[I.ok.kind];decide) b a ?_ I.funs;exact acI (aah I.ok.bsz I.ok.above)
def Inv.stkSub(I:Inv X dD σ H s):∀b∈frs X.stack,b∈X.env.locals::X.fs:=λb a=>by
 rcases I.ok.stk with e|⟨e,c⟩
 ·rw[e]at a;exact aai _ a
 ·rw[e]at a;unfold frs at a;rw[abT,c]at a;exact a
def Inv.stkFree(I:Inv X dD σ H s):∀b∈frs X.stack,H b=none:=λb a=>by
 rcases aag.mp (I.stkSub b a)with e|a
 ·rw[e];exact I.free
 ·obtain⟨_,o,ho,_⟩:=I.ok.funs.mem a;exact I.base.free b o ho (I.ok.frf b a) λz=>I.ok.exfs b z a
def Inv.step{g':Array GenState}{t':Nat}{d':Drawn}{ch:YI}(I:Inv X dD σ H s)
 (h:∀b∈ch,(b∈X.ex\/X.s₀.heap.objs.size<=b)/\b≠X.env.locals/\(∀x c,X.env.cells.lookup x=some c->c≠b)/\∀p∈X.pn++dD,p.1≠b)
 (keep:∀b o,b≠X.env.locals->b∉X.fs->b∉ch->s.heap.get? b=some o->H b=none->h'.get? b=some o)
 (A:∀b o,b≠X.env.locals->b∈X.fs->b∉ch->s.heap.get? b=some o->H b=none->∃O,h'.get? b=some {o with slots:=O})(free:∀b o,b∉ch->s.heap.get? b=some o->H b=none->H' b=none)
 (C:∀b o,b∉ch->s.heap.get? b=some o->∃E,h'.get? b=some E)
 (J:∀b y,H b=some (.tup y)->H' b=some (.tup y))(L:∀b o u,H b=some (.frz o u)->H' b=some (.frz o u))(M:∀b N,H b=some (.tbl N)->∃F,H' b=some (.tbl (N++F)))
 (ns:∀m,s.heap.Ns X.env.locals m->h'.Ns X.env.locals m)(Q:my X.prog X.w H' h')(hg:AllBare g'):
 Inv X dD σ H' {s with heap:=h',gens:=g',drawn:=d',toks:=t'}:=by
 have G:∀b o,X.s₀.heap.get? b=some o->b≠X.env.locals:=λb o e=>aar (aat (aak e) I.ok.above);have w:∀b o,X.s₀.heap.get? b=some o->b∉X.ex->b∉ch:=λb o e a B=>by
  rcases(h b B).1 with z|z
  ·exact a z
  ·exact absurd (aat (aak e) z) (aaP _)
 have f:∀x c,X.env.cells.lookup x=some c->∀v,s.heap.IsCell c v->h'.IsCell c v:=λx c e v⟨o,ho,hd⟩=>by
  have g:c∉ch:=λz=>(h c z).2.2.1 x c e rfl;by_cases S:c∈X.fs
  ·obtain⟨O,q⟩:=A c o (I.cne x c e) S g ho (I.freeC x c e);exact⟨_,q,hd⟩
  ·exact⟨o,keep c o (I.cne x c e) S g ho (I.freeC x c e),hd⟩
 refine⟨I.ok,I.os,hg,⟨λb o e n B a=>?_,λb o e n B a=>?_,λb o e n a=>?_,λb o e a=>?_,λb y e=>J b y (I.base.tups b y e),λb o y e=>L b o y (I.base.frzs b o y e),λb N e=>?_⟩,?_,λx c e=>?_,?_,λx c e=>?_,λp R=>?_,Q,I.len⟩
 ·exact keep b o (G b o e) B (w b o e a) (I.base.keep b o e n B a) (I.base.free b o e n a)
 ·obtain⟨O,j⟩:=I.base.slot b o e n B a;obtain⟨P,D⟩:=A b _ (G b o e) B (w b o e a) j (I.base.free b o e n a);exact⟨P,D⟩
 ·obtain⟨E,j⟩:=I.base.there b o e a;exact free b E (w b o e a) j (I.base.free b o e n a)
 ·obtain⟨E,j⟩:=I.base.there b o e a;exact C b E (w b o e a) j
 ·obtain⟨U,j⟩:=I.base.tbls b N e;obtain⟨W,D⟩:=M b _ j;exact⟨U++W,by rw[D,Array.append_assoc]⟩
 ·obtain⟨m,Y,Z⟩:=I.loc;refine⟨m,ns m Y,λi x v j D T=>?_⟩;obtain⟨u,r,l⟩:=Z i x v j D T;refine⟨u,r,?_⟩;rcases l with l|⟨k,c,e,z⟩
  ·exact .inl l
  ·exact .inr ⟨k,c,e,f x c e _ z⟩
 ·obtain⟨v,z⟩:=I.cell x c e;exact⟨v,f x c e v z⟩
 ·obtain⟨m,⟨o,_,_,ho,_⟩,_⟩:=I.loc;exact free _ o (λz=>(h _ z).2.1 rfl) ho I.free
 ·obtain⟨v,o,ho,hd⟩:=I.cell x c e;exact free c o (λz=>(h c z).2.2.1 x c e rfl) ho (I.freeC x c e)
 ·obtain⟨e,n,ne,nf,d⟩:=I.pin p R;have g:p.1∉ch:=λz=>(h p.1 z).2.2.2 p R rfl;exact⟨keep p.1 p.2 ne nf g e n,free p.1 p.2 g e n,ne,nf,d⟩
noncomputable def Inv.un{t':Nat}(I:Inv X dD σ H s)(u:Un X.fs [] H H' s.heap h')(g:my X.prog X.w H' h'):Inv X dD σ H' {s with heap:=h',toks:=t'}:=by obtain⟨m,⟨o,p,q,ho,r⟩,_⟩:=id I.loc;obtain⟨v,i⟩:=u.any ho I.free 04;exact I.step (g':=s.gens) (d':=s.drawn) (ch:=[]) (λ_ z=>nomatch z) (λb o _ c _ e n=>u.keep b o e n c 04) (λb o _ c _ e n=>u.slot b o e n c 04) (λb o _ e n=>u.free b o e n 04) (λb o _ e=>u.there b o e 04) u.tups u.frzs u.tbls (λl h=>by obtain⟨w,d,f,a,j⟩:=h;rw[ho]at a;cases a;exact⟨_,d,f,i,j⟩) g I.bare
def Inv.call{g':Array GenState}{t':Nat}{d':Drawn}{ch:YI}(I:Inv X dD σ H s)(u:Un (frs X.stack) ch H H' s.heap h')(j:my X.prog X.w H' h')(w:AllBare g')
 (f:∀b∈ch,(b∈X.ex\/X.s₀.heap.objs.size<=b)/\b≠X.env.locals/\(∀x c,X.env.cells.lookup x=some c->c≠b)/\∀p∈X.pn++dD,p.1≠b):
 Inv X dD σ H' {s with heap:=h',gens:=g',drawn:=d',toks:=t'}:=by
 obtain⟨m,⟨o,A,B,ho,r⟩,_⟩:=id I.loc;obtain⟨C,g⟩:=u.any ho I.free λz=>(f _ z).2.1 rfl;exact I.step (ch:=ch) f (λb o g l a e n=>u.keep b o e n (λz=>(aag.mp (I.stkSub b z)).elim g l) a) (λb o _ _ a e n=>u.any e n a) (λb o a e n=>u.free b o e n a) (λb o a e=>u.there b o e a) u.tups u.frzs u.tbls (λy q=>by obtain⟨D,h,i,d,v⟩:=q;rw[ho]at d;cases d;exact⟨_,h,i,g,v⟩) j w
def Inv.turned{t':Nat}{it:Zl}(I:Inv X dD σ H s)(k:∀b o,b≠it->s.heap.get? b=some o->h'.get? b=some o)(l:H it=none)(f:it≠X.env.locals)
 (w:it∈X.ex\/X.s₀.heap.objs.size<=it)(y:∀x c,X.env.cells.lookup x=some c->c≠it)(A:∀p∈X.pn++dD,p.1≠it):Inv X dD σ H {s with heap:=h',toks:=t'}:=by
 have d:∀b u,H b=some u->b≠it:=λb u e z=>by rw[z,l]at e;cases e
 refine I.step (g':=s.gens) (d':=s.drawn) (ch:=[it]) (λb g=>?_) (λb o _ _ a e _=>k b o (λz=>a (by simp[z])) e) (λb o _ _ a e _=>⟨o.slots,k b o (λz=>a (by simp[z])) e⟩) (λ_ _ _ _ n=>n)
  (λb o a e=>⟨o,k b o (λz=>a (by simp[z])) e⟩) (λ_ _ e=>e) (λ_ _ _ e=>e) (λb B e=>⟨#[],by rw[e];simp⟩) (λm h=>?_) (λb u e=>?_) I.bare
 ·have e:b=it:=by simpa using g
  subst e;exact⟨w,f,y,A⟩
 ·obtain⟨o,i,j,ho,r⟩:=h;exact⟨o,i,j,k _ o (aaC f) ho,r⟩
 ·refine(I.hok b u e).stay (λc v a q=>k c v ?_ q) (λ_ q=>q) λ_ _ q=>q;rcases a with z|z
  ·rw[z];exact d b u e
  ·exact d c _ z
def Inv.tok(I:Inv X dD σ H s)(t:Nat):Inv X dD σ H {s with toks:=t}:=I.un (h':=s.heap) (t':=t) Un.refl I.hok
def Inv.kept(I:Inv X dD σ H s)(k:∀b u,s.heap.get? b=some u->h'.get? b=some u):Inv X dD σ H {s with heap:=h',toks:=t'}:=I.un (Un.kept k) (I.hok.kept k)
def Inv.laid(I:Inv X dD σ H s)(k:∀b u,s.heap.get? b=some u->h'.get? b=some u)(c:s.heap.objs.size<=a)(new:gq X.prog X.w (upd H a o) h' a o):
 Inv X dD σ (upd H a o) {s with heap:=h',toks:=t'}:=I.un (Un.laid k c (I.hok.fresh c)) (I.hok.laid k c new)
def Inv.write(I:Inv X dD σ H s)(c:U9 (H x))(d:e=x\/H e=some (.own x))(k:∀b u,b≠e->s.heap.get? b=some u->h'.get? b=some u)(a:∃u,h'.get? e=some u)
 (new:gq X.prog X.w (upd H x o) h' x o):Inv X dD σ (upd H x o) {s with heap:=h',toks:=t'}:=I.un (Un.write c d k a) (I.hok.write c d k a new)
def Inv.pins_of(I:Inv X dD σ H s)(h:∀p∈pins',s.heap.get? p.1=some p.2/\H p.1=none/\p.1≠X.env.locals/\p.1∉X.fs/\∀v,p.2.data≠.cell v):Inv X pins' σ H s:=
 ⟨I.ok,I.os,I.bare,I.base,I.loc,I.cell,I.free,I.freeC,λp a=>(aam.mp a).elim (λz=>I.pin p (aaL _ z)) (h p),I.hok,I.len⟩
def oU{N:Y2}(e:N.Nodup){i j:Nat}{x:Str}(a:N[i]?=some x)(b:N[j]?=some x):i=j:=by obtain⟨f,c⟩:=aaD.mp a;obtain⟨g,d⟩:=aaD.mp b;exact(List.getElem_inj e).mp (c.trans d.symm)
def uZ{M:Model}{A:ZO}{E:ZY}{i:Nat}{x:Str}{v:V}{u:ZI}{Q:Unit->Shared->Prop}(I:Inv X dD σ H s)(hN:X.N.Nodup)(U:X.N[i]?=some x)(B:Loc X.env.scope x)(r:RelV v u)
 (h:∀s',Inv X dD (σ.set i (some v)) H s'->(∃a,Heap.SameBut a s.heap s'.heap/\(a=X.env.locals\/X.env.cells.lookup x=some a))->Q () s')(hf:X.fn x=true\/X.env.scope.names.lookup x=some .local:=by first|exact .inl rfl|exact .inr rfl|assumption):wpAny M A (storeName X.env x u) Q E s:=by
 obtain⟨m,hn,hl⟩:=id I.loc;have P:(X.env.scope.kind==.class||(X.env.scope.kind==.module&&X.env.locals !=X.env.globals))=false:=by rw[I.ok.kind];rfl
 have F:i<σ.length:=by rw[I.len];exact(aaD.mp U).1
 have cne:=I.cne;have l:∀{a:Zl}{N:ZN},(∃o,s.heap.get? a=some o/\H a=none)->Heap.SameBut a s.heap N->my X.prog X.w H N:=λ{a N}ha f b ob e=>by
  obtain⟨_,_,C⟩:=ha;refine(I.hok b ob e).stay (λc W w q=>(f.2 c ?_).trans q) (λ_ q=>q) λ_ _ q=>q;rintro rfl;rcases w with rfl|w
  ·rw[C]at e;cases e
  ·rw[C]at w;cases w
 rcases B with hk|hk
 ·refine wpAny_storeName_local hk hn (λN Z f=>?_) P;obtain⟨oL,_,_,aa,_⟩:=id hn;refine h _ ⟨I.ok,I.os,I.bare,⟨λb o e n G B=>?_,λb o e n G B=>?_,I.base.free,λb o e B=>?_,I.base.tups,I.base.frzs,I.base.tbls⟩,⟨_,Z,λj y v' g D e3=>?_⟩,λy c e=>?_,I.free,I.freeC,λp hp=>?_,l ⟨oL,aa,I.free⟩ f,by simpa using I.len⟩ ⟨_,f,.inl rfl⟩
  ·exact(f.2 b (aar (aat (aak e) I.ok.above))).trans (I.base.keep b o e n G B)
  ·obtain⟨sl,g⟩:=I.base.slot b o e n G B;exact⟨sl,(f.2 b (aar (aat (aak e) I.ok.above))).trans g⟩
  ·obtain⟨o',g⟩:=I.base.there b o e B;exact⟨o',(f.2 b (aar (aat (aak e) I.ok.above))).trans g⟩
  ·by_cases L:j=i
   ·subst L;rw[U]at g;cases g;rw[abU F]at D;cases D;exact⟨u,r,.inl ⟨hk,04⟩⟩
   ·rw[abV (aaC L)]at D;obtain⟨u',r',q⟩:=hl j y v' g D e3;refine⟨u',r',?_⟩;rcases q with⟨k,e⟩|⟨k,c,e,z⟩
    ·refine .inl ⟨k,?_⟩;have:y≠x:=λe=>L (oU hN g (e▸U));simp[this,e]
    ·exact .inr ⟨k,c,e,z.sameBut f (cne y c e)⟩
  ·obtain⟨W,z⟩:=I.cell y c e;exact⟨W,z.sameBut f (cne y c e)⟩
  ·obtain⟨e,n,ne,nf,d⟩:=I.pin p hp;exact⟨(f.2 p.1 ne).trans e,n,ne,nf,d⟩
 ·have J:X.fn x=true:=by
   rcases hf with z|z
   ·exact z
   ·rw[z]at hk;cases hk
  obtain⟨c,w⟩:=I.ok.has x (.inl hk);obtain⟨W,z⟩:=I.cell x c w;refine wpAny_storeName_cell I.ok.kind hk w z (λN O f=>?_);obtain⟨oc,R,S⟩:=id z;refine h {s with heap:=N} ⟨I.ok,I.os,I.bare,⟨λb o e n G B=>?_,λb o e n G B=>?_,I.base.free,λb o e B=>?_,I.base.tups,I.base.frzs,I.base.tbls⟩,⟨m,hn.sameBut f (aaC (cne x c w)),λj y v' g D e3=>?_⟩,λy Y e=>?_,I.free,I.freeC,λp hp=>?_,l ⟨oc,R,I.freeC x c w⟩ f,by simpa using I.len⟩ ⟨c,f,.inr w⟩
  ·exact(f.2 b (aar (aat (aak e) (I.ok.cab x c J w)))).trans (I.base.keep b o e n G B)
  ·obtain⟨sl,g⟩:=I.base.slot b o e n G B;exact⟨sl,(f.2 b (aar (aat (aak e) (I.ok.cab x c J w)))).trans g⟩
  ·obtain⟨o',g⟩:=I.base.there b o e B;exact⟨o',(f.2 b (aar (aat (aak e) (I.ok.cab x c J w)))).trans g⟩
  ·by_cases L:j=i
   ·subst L;rw[U]at g;cases g;rw[abU F]at D;cases D;exact⟨u,r,.inr ⟨.inl hk,c,w,O⟩⟩
   ·rw[abV (aaC L)]at D;obtain⟨u',r',q⟩:=hl j y v' g D e3;refine⟨u',r',?_⟩;rcases q with q|⟨k,Y,e,z'⟩
    ·exact .inl q
    ·refine .inr ⟨k,Y,e,z'.sameBut f ?_⟩;rintro rfl;exact L (oU hN g (I.ok.inj _ _ _ e w▸U))
  ·by_cases T:Y=c
   ·subst T;exact⟨_,O⟩
   ·obtain⟨w2,z2⟩:=I.cell y Y e;exact⟨w2,z2.sameBut f T⟩
  ·obtain⟨e,n,ne,nf,d⟩:=I.pin p hp;refine⟨(f.2 p.1 ?_).trans e,n,ne,nf,d⟩;intro q;rw[q,R]at e;have q':oc=p.2:=aaO e;exact d W (by rw[<-q'];exact S)
def mO(I:Inv X dD σ H s)(c:X.N.Nodup)(d:X.N[i]?=some x)(e:Loc X.env.scope x)(r:RelV v u)
 (h:∀a,Inv X dD (σ.set i (some v)) H a->Q () a)(f:X.fn x=true\/X.env.scope.names.lookup x=some .local:=by first|exact .inl rfl|exact .inr rfl|assumption):wpAny M A (storeName X.env x u) Q E s:=
 uZ I c d e r (λa b _=>h a b) f
def Inv.call'(I:Inv X dD σ H s)(ho:a.os=s.os)(u:Un (frs X.stack) ch H H' s.heap a.heap)(d:my X.prog X.w H' a.heap)(l:AllBare a.gens)
 (f:∀b∈ch,(b∈X.ex\/X.s₀.heap.objs.size<=b)/\b≠X.env.locals/\(∀x c,X.env.cells.lookup x=some c->c≠b)/\∀p∈X.pn++dD,p.1≠b):Inv X dD σ H' a:=by
 obtain⟨m,g,h,i,j⟩:=a;have e:j=s.os:=ho;subst e;exact I.call (g':=g) (t':=i) (d':=h) u d l f
end
abbrev XK:=Value->Option Addr->Hp->Prop
abbrev St:=List (Option V)
abbrev VK:=V->Hp->Prop
abbrev TE:=St->Hp->VK->Prop
abbrev TT:=St->Hp->(Bool->Hp->Prop)->Prop
abbrev TA:=St->Hp->(List V->Hp->Prop)->Prop
structure Ends where
 nx:St->Hp->Prop
 rt:VK
 bk:St->Hp->Prop:=λ_ _=>False
 ct:St->Hp->Prop:=λ_ _=>False
abbrev TS:=Ends->St->Hp->Prop
def EP(X:Cx)(a:YN)(c:St)(Q:VK)(u:ZI)(d:Zp):Prop:=∃v b,Inv X a c b d/\RelV v u/\Q v b
def TP(X:Cx)(a:YN)(d:St)(Q:Bool->Hp->Prop)(b:Bool)(e:Zp):Prop:=∃c,Inv X a d c e/\Q b c
def AP(X:Cx)(a:YN)(c:St)(Q:List V->Hp->Prop)(d:Y3)(e:Zp):Prop:=∃vs b,Inv X a c b e/\Vals vs d/\Q vs b
def SP(X:Cx)(b:YN)(D:Ends)(f:Flow)(d:Zp):Prop:=
 match f with
 |.next=>∃a c,Inv X b a c d/\D.nx a c
 |.brk=>∃a c,Inv X b a c d/\D.bk a c
 |.cont=>∃a c,Inv X b a c d/\D.ct a c
 |.ret u=>∃v a c,Inv X b a c d/\RelV v u/\D.rt v c
def PE(X:Cx)(e:ZT)(t:TE):Prop:=
 ∀(a:YN)(s:Zp)(b:St)(H:Hp)(Q:VK),Inv X a b H s->t b H Q->wpAny 00 X.A (eval e X.env) (EP X a b Q) X.xe s
def PT(X:Cx)(e:ZT)(t:TT):Prop:=
 ∀(a:YN)(s:Zp)(b:St)(H:Hp)(Q:Bool->Hp->Prop),Inv X a b H s->t b H Q->wpAny 00 X.A (isTrue e X.env (eval e X.env)) (TP X a b Q) X.xe s
def PW(X:Cx)(e:ZT)(t:TT):Prop:=
 ∀(b:Sem Value)(a:YN)(s:Zp)(c:St)(H:Hp)(Q:Bool->Hp->Prop),Inv X a c H s->t c H Q->wpAny 00 X.A (isTrue e X.env b) (TP X a c Q) X.xe s
def PW.pt(h:PW X e t):PT X e t:=h _
def PA(X:Cx)(d:YU)(t:TA):Prop:=
 ∀(b:Pos)(a:YN)(s:Zp)(c:St)(H:Hp)(Q:List V->Hp->Prop),Inv X a c H s->t c H Q->wpAny 00 X.A (spliced (backTo b (starEach d X.env))) (AP X a c Q) X.xe s
def PS(X:Cx)(c:Stmt)(t:TS):Prop:=
 ∀(a:YN)(s:Zp)(b:St)(H:Hp)(D:Ends),Inv X a b H s->t D b H->wpAny 00 X.A (exec c X.env) (SP X a D) X.xe s
def wR(X:Cx)(c:List Stmt)(t:TS):Prop:=
 ∀(a:YN)(s:Zp)(b:St)(H:Hp)(D:Ends),Inv X a b H s->t D b H->wpAny 00 X.A (execs c X.env) (SP X a D) X.xe s
def fQ{b:Type}{t:Sem b}{Q c:b->Shared->Prop}{M:Model}{A:ZO}{E:ZY}{s:Zp}(h:wpAny M A t Q E s)(d:∀a s,Q a s->c a s):wpAny M A t c E s:=aaF h d λ_ _ x=>x
section
variable{X:Cx}
def bin{a b:ZT}{m n:TE}(w:PE X a m)(z:PE X b n){c:YN}{s:Zp}{e:St}{H:Hp}{R:V->V->Hp->Prop}(I:Inv X c e H s)(h:m e H λx l=>n e l λy d=>R x y d)
 {o:Type}{Q:o->Shared->Prop}{f:Value->Value->Sem o}
 (A:∀v u j x y d,Inv X c e d j->RelV x v->RelV y u->R x y d->wpAny 00 X.A (f v u) Q X.xe j):
 wpAny 00 X.A (eval a X.env) (λv g=>wpAny 00 X.A (eval b X.env) (λu i=>wpAny 00 X.A (f v u) Q X.xe i) X.xe g) X.xe s:=by
 refine fQ (w c s e H _ I h) λv p⟨x,l,q,r1,q1⟩=>?_;refine fQ (z c p e l _ q q1) λu j⟨y,d,r,r2,q2⟩=>?_;exact A v u j x y d r r1 r2 q2
def nM(i:Nat):TE:=λa H Q=>∃v,a[i]?=some (some v)/\Q v H
def tC(v:V):TE:=λ_ H Q=>Q v H
def Ou(w:X.N[i]?=some x)(y:Sh X.env.scope x)(hd:(x==("__debug__":Str))=false:=by decide)(g:(x==("__classdict__":Str))=false:=by decide):PE X (.Name x f) (nM i):=by
 intro d s p H Q I h;obtain⟨v,e,h⟩:=h;obtain⟨m,n,o⟩:=I.loc;obtain⟨u,r,l⟩:=o i x v w e y;have b:EP X d p Q u s:=⟨v,H,I,r,h⟩;rcases l with⟨hk,q⟩|⟨hk,c,j,a⟩
 ·exact abl (acJ I.ok.kind hk n q b) hd
 ·rcases hk with hk|hk
  ·exact abl (acK I.ok.kind hk j a b) hd
  ·exact abl (acL I.ok.kind hk j a b g) hd
def cj{i j pos}:PE X (.Constant (.int i) j pos) (tC (.int i)):=λ_ _ _ H _ I h=>wpAny_Constant_int ⟨.int i,H,I.tok _,⟨9⟩,h⟩
def j5{b j pos}:PE X (.Constant (.bool b) j pos) (tC (.bl b)):=λ_ _ _ H _ I h=>Constant_bool ⟨.bl b,H,I,8,h⟩
def iZ{j pos}:PE X (.Constant .none j pos) (tC .non):=λ_ _ _ H _ I h=>Constant_none ⟨.non,H,I,8,h⟩
def cZ{x j pos}:PE X (.Constant (.str x) j pos) (tC (.str x)):=λ_ _ _ H _ I h=>Calls.Constant_str ⟨.str x,H,I.tok _,⟨9⟩,h⟩
def Gl(X:Cx)(x:Str):Prop:=X.env.kindOf x=some .globalImplicit
def kO(I:Inv X a c H s)(d:Gl X x)(e:X.mg x=some u)(h:Q u s)
 (hd:(x==("__debug__":Str))=false:=by decide):wpAny 00 X.A (eval (.Name x b) X.env) Q E s:=
 Calls.Name_function_global I.ok.kind d (Calls.loadGlobal_global (by rw[I.ok.glob];exact I.mod.glob.keeps I.bk) e h) hd
def mL(I:Inv X a e H s)(f:Gl X x)(g:X.mg x=none)(i:bootBuiltins x=some u)(h:Q u s)
 (j:x≠"__name__":=by decide)(hd:(x==("__debug__":Str))=false:=by decide):wpAny 00 X.A (eval (.Name x b) X.env) Q E s:=by
 obtain⟨l,c,d⟩:=I.mod.blt;exact Calls.Name_function_global I.ok.kind f (Calls.loadGlobal_builtin (by rw[I.ok.glob];exact I.mod.glob.keeps I.bk) g (by rw[I.ok.blt];exact c.keeps I.bk) ((d x j).trans i) h) hd
def gG(b:Gl X x)(c:X.mg x=some u)(r:RelV v u)(hd:(x==("__debug__":Str))=false:=by decide):PE X (.Name x a) (tC v):=
 λ_ _ _ H _ I h=>kO I b c ⟨v,H,I,r,h⟩ hd
def Lz(b:Gl X x)(c:X.mg x=none)(d:bootBuiltins x=some u)(r:RelV v u)(e:x≠"__name__":=by decide)(hd:(x==("__debug__":Str))=false:=by decide):PE X (.Name x a) (tC v):=
 λ_ _ _ H _ I h=>mL I b c d ⟨v,H,I,r,h⟩ e hd
def PC(X:Cx)(op:CmpOp)(a b:ZT)(t:TE):Prop:=
 ∀(c:YN)(s:Zp)(f:St)(H:Hp)(Q:VK),Inv X c f H s->t f H Q->
   wpAny 00 X.A (eval a X.env) (λv d=>wpAny 00 X.A (eval b X.env) (λu e=>wpAny 00 X.A (compareOp op v u) (EP X c f Q) X.xe e) X.xe d) X.xe s
def tB(t:TE):TT:=λd H Q=>t d H λx e=>∃c,x=.bl c/\Q c e
noncomputable def zV{op:CmpOp}{t:TE}(h:PC X op a b t)(f:behindInMarks op b=false:=by first|exact nobehind _ 02 02|rfl):PT X (.Compare a [op] [b] r) (tB t):=by intro e s l H Q I m;refine wpAny_isTrue_Compare1 (fQ (h e s l H _ I m) λv n f=>fQ f λu o g=>fQ g λc p⟨x,i,j,r1,q1⟩=>?_) f;obtain⟨d,rfl,q⟩:=q1;cases r1;exact aaZ ⟨i,j,q⟩
noncomputable def gZ{e:ZT}{t:TE}(h:PE X e t)(m:∀c,isTrue e X.env c=(do let v<-c;standAt e.pos;holding [v] (truthy v)):=by intro _;rfl):PT X e (tB t):=by intro f s j H Q I l;refine isTrue_plain (fQ (h f s j H _ I l) λv n⟨x,g,i,r1,q1⟩=>?_) (m _);obtain⟨d,rfl,q⟩:=q1;cases r1;exact aaZ ⟨g,i,q⟩
def Vo(t u:TT):TT:=λd H Q=>t d H λc e=>if c=true then u d e Q else Q false e
def tOr(t u:TT):TT:=λd H Q=>t d H λc e=>if c=true then Q true e else u d e Q
def U8(t:TT):TT:=λd H Q=>t d H λc e=>Q (!c) e
theorem n8(g:PT X a l):PW X (.BoolOp .And [a] b) l:=by
 intro j d s f H Q I h;refine isTrue_and (fQ (g d s f H Q I h) λc i e=>?_);cases c with
 |true=>exact isTrue_and_nil e
 |false=>exact e
theorem tE(g:PT X a l):PW X (.BoolOp .Or [a] b) l:=by
 intro j d s f H Q I h;refine isTrue_or (fQ (g d s f H Q I h) λc i e=>?_);cases c with
 |false=>exact isTrue_or_nil e
 |true=>exact e
theorem o7{a b:ZT}{n:Pos}{p o:TT}{rest:YU}(l:PT X a p)(m:PW X (.BoolOp .And (b::rest) n) o):PW X (.BoolOp .And (a::b::rest) n) (Vo p o):=by
 intro j d s g H Q I h;refine isTrue_and (fQ (l d s g H _ I h) λc i⟨e,f,q1⟩=>?_);cases c with
 |true=>exact m j d i g e Q f q1
 |false=>exact⟨e,f,q1⟩
theorem uF{a b:ZT}{n:Pos}{p o:TT}{rest:YU}(l:PT X a p)(m:PW X (.BoolOp .Or (b::rest) n) o):PW X (.BoolOp .Or (a::b::rest) n) (tOr p o):=by
 intro j d s g H Q I h;refine isTrue_or (fQ (l d s g H _ I h) λc i⟨e,f,q1⟩=>?_);cases c with
 |true=>exact⟨e,f,q1⟩
 |false=>exact m j d i g e Q f q1
def ju(g:PT X a i):PT X (.UnaryOp .Not a b) (U8 i):=by intro d s f H Q I h;exact isTrue_not (g d s f H (λc e=>Q (!c) e) I h)
def Ur(f g:TE):TE:=λd H Q=>f d H λx e=>∃c,x=.bl c/\if c=true then g d e Q else Q (.bl false) e
def YD(f g:TE):TE:=λd H Q=>f d H λx e=>∃c,x=.bl c/\if c=true then Q (.bl true) e else g d e Q
def U0(f:TE):TE:=λd H Q=>f d H λx e=>∃c,x=.bl c/\Q (.bl (!c)) e
def lA{op}(h:PE X a t):PE X (.BoolOp op [a] b) t:=λc s d H Q I e=>BoolOp_one (h c s d H Q I e)
theorem j7{a b:ZT}{n o:TE}{m:Pos}{rest:YU}(j:PE X a n)(l:PE X (.BoolOp .And (b::rest) m) o):PE X (.BoolOp .And (a::b::rest) m) (Ur n o):=by
 intro d s g H Q I h;refine BoolOp_and (fQ (j d s g H _ I h) λv i⟨x,e,f,r1,q1⟩=>?_);obtain⟨c,rfl,q1⟩:=q1;cases r1;refine aaZ ?_;cases c with
 |true=>exact l d i g e Q f q1
 |false=>exact⟨.bl false,e,f,8,q1⟩
theorem Wg{a b:ZT}{n o:TE}{m:Pos}{rest:YU}(j:PE X a n)(l:PE X (.BoolOp .Or (b::rest) m) o):PE X (.BoolOp .Or (a::b::rest) m) (YD n o):=by
 intro d s g H Q I h;refine BoolOp_or (fQ (j d s g H _ I h) λv i⟨x,e,f,r1,q1⟩=>?_);obtain⟨c,rfl,q1⟩:=q1;cases r1;refine aaZ ?_;cases c with
 |false=>exact l d i g e Q f q1
 |true=>exact⟨.bl true,e,f,8,q1⟩
noncomputable def As(i:PE X a l):PE X (.UnaryOp .Not a b) (U0 l):=by intro d s g H Q I h;refine UnaryOp_ (fQ (i d s g H _ I h) λv j⟨x,e,f,r1,q1⟩=>?_);obtain⟨c,rfl,q1⟩:=q1;cases r1;exact not_of (aaZ ⟨.bl (!c),e,f,8,q1⟩)
def tIf(t:TT)(f g:TE):TE:=λd H Q=>t d H λc e=>if c=true then f d e Q else g d e Q
theorem jX{c:ZT}(l:PT X c q)(m:PE X a r)(n:PE X b o):PE X (.IfExp c a b p) (tIf q r o):=by
 intro e s f H Q I h;refine wpAny_IfExp (fQ (l e s f H _ I h) λd g⟨i,j,q1⟩=>?_);cases d with
 |true=>exact m e g f i Q j q1
 |false=>exact n e g f i Q j q1
end
def eY(K:Zs)(H:Hp)(a:Zl)(c:List V):Prop:=
 Rd H a (.lst c)\/
  ∃(o:Obj)(b:YA)(n:Nat),K.lookup a=some o/\o.cls=.type "list"/\o.dict=none/\o.data=.seq b n/\b.size<=sizeLine/\Vals c b.toList
def e_(K:Zs)(H:Hp)(a:Zl)(c:List V):Prop:=
 Rd H a (.tup c)\/
  ∃(o:Obj)(b:YA)(n:Nat),K.lookup a=some o/\o.cls=.type "tuple"/\o.data=.seq b n/\b.size<=sizeLine/\Vals c b.toList
noncomputable def Xh:Value->Option V
 |.none=>some .non
 |.bool b=>some (.bl b)
 |.int i _=>some (.int i)
 |.str x _=>some (.str x)
 |.bytes b _=>some (.byt b)
 |.float b _=>some (.flt b)
 |.ref a=>some (.ref a)
 |.type n=>some (.ty n)
 |_=>none
theorem RelV.abs(r:RelV x u):Xh u=some x:=by
 cases x with
 |non=>cases r;rfl
 |bl _=>cases r;rfl
 |int _=>obtain⟨t,rfl⟩:=r;rfl
 |str _=>obtain⟨t,rfl⟩:=r;rfl
 |byt _=>obtain⟨t,rfl⟩:=r;rfl
 |flt _=>obtain⟨t,rfl⟩:=r;rfl
 |ref _=>cases r;rfl
 |ty _=>cases r;rfl
def RelV.inj(r:RelV x u)(q:RelV y u):x=y:=aaO (r.abs.symm.trans q.abs)
theorem Vals.inj:∀{xs a:List V}{b:Y3},Vals xs b->Vals a b->xs=a
 |_,_,_,.nil,.nil=>rfl
 |_,_,_,.cons r t,.cons r' t'=>by rw[r.inj r',Vals.inj t t']
def eY.of{H:Hp}{K:Zs}(h:H a=some (.lst b)):eY K H a b:=.inl (.inl h)
def e_.of{H:Hp}{K:Zs}(h:H a=some (.tup b)):e_ K H a b:=.inl (.inl h)
def Inv.list(I:Inv X i j H s)(h:eY X.K H a g):∃b:List Value,Vals g b/\PlainL s.heap a b.toArray/\g.length<=sizeLine:=by
 rcases h with h|⟨o,b,n,hk,c,hd,d,f,r⟩
 ·obtain⟨z,b,n,r,e⟩:=h.ok I.hok;exact⟨b,r,⟨_,n,e,8,8,8⟩,z⟩
 ·refine⟨b.toList,r,⟨o,n,I.kIn a o hk,c,hd,by simpa using d⟩,?_⟩;have e:=r.length;simp only[acM]at e;omega
def Inv.tuple(I:Inv X i j H s)(h:e_ X.K H a g):∃b:List Value,Vals g b/\IsTup s.heap a b.toArray/\g.length<=sizeLine:=by
 rcases h with h|⟨o,b,n,hk,c,d,f,r⟩
 ·obtain⟨z,b,r,p⟩:=h.ok I.hok;exact⟨b,r,p,z⟩
 ·refine⟨b.toList,r,⟨o,I.kIn a o hk,c,n,by simpa using d⟩,?_⟩;have e:=r.length;simp only[acM]at e;omega
def Inv.list_inj(I:Inv X p w H s)(h:eY X.K H a q)(j:eY X.K H a v):q=v:=by
 obtain⟨c,r,⟨o,n,e,_,_,d⟩,_⟩:=I.list h;obtain⟨b,i,⟨l,m,f,_,_,g⟩,_⟩:=I.list j;rw[e]at f;cases f;rw[d]at g;injection g with d1 _
 have:c=b:=by simpa using aaB Array.toList d1
 subst this;exact r.inj i
def Inv.tuple_inj(I:Inv X p w H s)(h:e_ X.K H a q)(j:e_ X.K H a v):q=v:=by
 obtain⟨c,r,⟨o,e,_,n,d⟩,_⟩:=I.tuple h;obtain⟨b,i,⟨l,f,_,m,g⟩,_⟩:=I.tuple j;rw[e]at f;cases f;rw[d]at g;injection g with d1 _
 have:c=b:=by simpa using aaB Array.toList d1
 subst this;exact r.inj i
abbrev Cx.wish(X:Cx)(E:ZY):Cx:={X with xe:=E}
abbrev Cx.nox(X:Cx):Cx:=X.wish λ_ _=>False
def Cx.Ok.wish{X:Cx}(ok:X.Ok)(E:ZY):(X.wish E).Ok:=
 ⟨ok.mod,ok.kind,ok.glob,ok.blt,ok.above,ok.inj,ok.has,ok.cab,ok.hd,ok.frames,ok.stk,ok.exf,ok.bs,ok.bsz,ok.noex,ok.exfs,ok.funs,ok.frf⟩
def Cx.Ok.unwish{X:Cx}(ok:(X.wish E).Ok):X.Ok:=
 ⟨ok.mod,ok.kind,ok.glob,ok.blt,ok.above,ok.inj,ok.has,ok.cab,ok.hd,ok.frames,ok.stk,ok.exf,ok.bs,ok.bsz,ok.noex,ok.exfs,ok.funs,ok.frf⟩
def Inv.wish{X:Cx}(I:Inv X a b H s)(E:ZY):Inv (X.wish E) a b H s:=⟨I.ok.wish E,I.os,I.bare,I.base,I.loc,I.cell,I.free,I.freeC,I.pin,I.hok,I.len⟩
def Inv.unwish{X:Cx}(I:Inv (X.wish E) a b H s):Inv X a b H s:=⟨I.ok.unwish,I.os,I.bare,I.base,I.loc,I.cell,I.free,I.freeC,I.pin,I.hok,I.len⟩
theorem SP.unwish(h:SP (X.wish E) d D f c):SP X d D f c:=by
 cases f with
 |next=>obtain⟨a,b,I,q⟩:=h;exact⟨a,b,I.unwish,q⟩
 |brk=>obtain⟨a,b,I,q⟩:=h;exact⟨a,b,I.unwish,q⟩
 |cont=>obtain⟨a,b,I,q⟩:=h;exact⟨a,b,I.unwish,q⟩
 |ret u=>obtain⟨v,a,b,I,r,q⟩:=h;exact⟨v,a,b,I.unwish,r,q⟩
def wR.nox{X:Cx}{b:List Stmt}{t:TS}(h:wR X.nox b t):wR X b t:=λa s c H D I d=>aaF (h a s c H D (I.wish _) d) (λ_ _ q=>q.unwish) λ_ _ z=>False.elim z
def BW:TS:=λD a H=>D.nx a H
def Kq(t u:TS):TS:=λD a H=>t {D with nx:=u D} a H
def d9:wR X [] BW:=λ_ _ a H _ I h=>abW ⟨a,H,I,h⟩
theorem b7{X:Cx}{e:Stmt}{rest:List Stmt}{t u:TS}(j:PS X e t)(l:wR X rest u):wR X (e::rest) (Kq t u):=by
 intro a s i H D I h;refine wpAny_execs_cons (fQ (j a s i H {D with nx:=u D} I h) λf c q=>?_);cases f with
 | next=>obtain⟨b,d,g,q⟩:=q;exact l a c b d D g q
 |ret v=>exact q
 |brk=>exact q
 |cont=>exact q
theorem c7{X:Cx}{e:Stmt}{t:TS}(c:PS X e t):wR X [e] t:=by
 intro a s b H D I h;refine wpAny_execs_cons (fQ (c a s b H D I h) λf d q=>?_);cases f with
 |next=>exact abW q
 |ret v=>exact q
 |brk=>exact q
 |cont=>exact q
def Inv.quiet(I:Inv X a b H s):interactive X.env=false:=by simp[interactive,I.ok.kind]
def Uk(c:TE):TS:=λD a H=>c a H λ_ b=>D.nx a b
noncomputable def eE{X:Cx}{j:Pos}(f:PE X e l)(g:swapsWith e none j.line X.env=pure false:=by rfl):PS X (.Expr e j) (Uk l):=by intro a s b H D I h;exact wpAny_Expr_any (fQ (f a s b H _ I h) λv i⟨x,c,d,r1,q1⟩=>⟨b,c,d,q1⟩) I.quiet g
def Zb(b:TE):TS:=λD a H=>b a H D.rt
def cW(f:PE X e j):PS X (.Return (some e) i) (Zb j):=by intro a s b H D I h;exact wpAny_Return_some (fQ (f a s b H _ I h) λv g⟨x,c,d,r1,q1⟩=>⟨x,b,c,d,r1,q1⟩)
def Kh(c:TT)(t u:TS):TS:=λD a H=>c a H λb d=>if b=true then t D a d else u D a d
theorem dU{c:ZT}{a b:List Stmt}{m:TT}(n:PT X c m)(o:wR X a t)(p:wR X b u):PS X (.If c a b e) (Kh m t u):=by
 intro f s g H D I h;refine wpAny_If (fQ (n f s g H _ I h) λd i⟨j,l,q1⟩=>?_);cases d with
 |true=>exact o f i g j D l q1
 |false=>exact p f i g j D l q1
def QW:TS:=λ_ _ _=>False
def eU{X:Cx}{a:Stmt}:PS X a QW:=λ_ _ _ _ _ _ h=>h.elim
abbrev TG:=V->St->Hp->(St->Hp->Prop)->Prop
abbrev Sg:=List V->St->Hp->(St->Hp->Prop)->Prop
def PG(X:Cx)(a:ZT)(t:TG):Prop:=
 ∀(b:YN)(s:Zp)(d:St)(H:Hp)(v:V)(u:ZI)(Q:St->Hp->Prop),Inv X b d H s->RelV v u->t v d H Q->
   wpAny 00 X.A (assign a X.env u) (λ_ f=>∃c e,Inv X b c e f/\Q c e) X.xe s
def X7(X:Cx)(g:YU)(t:Sg):Prop:=
 ∀(a:YN)(s:Zp)(c:St)(H:Hp)(vs:List V)(d:Y3)(Q:St->Hp->Prop),Inv X a c H s->Vals vs d->t vs c H Q->
   wpAny 00 X.A (assignInOrder ((assignEach g X.env).map (·.2)) d) (λ_ f=>∃b e,Inv X a b e f/\Q b e) X.xe s
def eQ(i:Nat):TG:=λv a H Q=>Q (a.set i (some v)) H
noncomputable def eX(c:X.N.Nodup)(d:X.N[i]?=some x)(e:Loc X.env.scope x)(f:X.fn x=true\/X.env.scope.names.lookup x=some .local:=by first|exact .inl rfl|exact .inr rfl|assumption):PG X (.Name x l) (eQ i):=by intro a s j H v u Q I r h;exact wpAny_assign_Name (mO I c d e r (λg b=>⟨_,H,b,h⟩) f)
def Hz:Sg:=λvs a H Q=>vs=[]/\Q a H
def nW(t:TG)(u:Sg):Sg:=λvs b H Q=>∃v r,vs=v::r/\t v b H λa c=>u r a c Q
def gj:X7 X [] Hz:=by intro a s b H vs c Q I r h;obtain⟨e,h⟩:=h;subst e;cases r;exact assignInOrder_nil ⟨b,H,I,h⟩
theorem d8{X:Cx}{e:ZT}{b:YU}{t:TG}{u:Sg}(m:PG X e t)(n:X7 X b u)
 (o:(assignEach (e::b) X.env).map (·.2)=assign e X.env::(assignEach b X.env).map (·.2):=by rfl):X7 X (e::b) (nW t u):=by
 intro a s j H vs p Q I r h;obtain⟨v,vr,i,h⟩:=h;subst i;cases r with
 | cons r l=>rw[o];refine assignInOrder_cons (fQ (m a s j H _ _ _ I r h) λ_ d⟨c,f,g,q1⟩=>?_);exact n a d c f _ _ Q g l q1
def Fy(K:Zs)(n:Nat)(t:Sg):TG:=λv c H Q=>∃a b,v=.ref a/\e_ K H a b/\b.length=n/\t b c H Q
def ii(B:X.calm=true)(h:X7 X d t)
 (C:(assignEach d X.env).length=n:=by rfl)(g:(assignEach d X.env).findIdx? (·.1)=none:=by rfl):PG X (.Tuple d k E) (Fy X.K n t):=by
 intro c s j H v u Q I r f;obtain⟨a,q,w,x,y,f⟩:=f;subst w;cases r;obtain⟨z,i,A,D⟩:=I.tuple x;refine assign_Tuple_tuple (I.ok.hd B) A (by simp[C,<-y,i.length]) g λl m=>?_;have p:Inv X c j H {s with heap:=l}:=I.kept (t':=s.toks) λb o e=>m b o (aar (aak e)) e;exact h c _ j H q _ Q p (by simpa using i) f
def Hc(c:TE)(g:TG):TS:=λD a H=>c a H λx b=>g x a b D.nx
def m9{X:Cx}{w:Pos}{b e:ZT}{d:TE}{g:TG}(l:PE X e d)(m:PG X b g)(n:swapsWithSole [b] e w.line X.env=pure false:=by rfl)(o:swappedStores [b] e X.env=pure none:=by rfl)
 (p:(assignEach [b] X.env).map (·.2)=[assign b X.env]:=by rfl):PS X (.Assign [b] e w) (Hc d g):=by
 intro a s c H D I h;refine wpAny_Assign_stores (fQ (l a s c H _ I h) λv f⟨x,i,j,r1,q1⟩=>?_) n o;rw[p];exact fQ (m a f c i x v _ j r1 q1) λ_ r q=>q
noncomputable def Ot{X:Cx}{z:Pos}{i:Nat}{x:Str}{e:ZT}{c:TE}{a:Pos}(l:X.N.Nodup)(m:X.N[i]?=some x)(n:Loc X.env.scope x)(o:PE X e c)(p:swapsWith e (some (.Name x a)) z.line X.env=pure false:=by rfl)(q:X.fn x=true\/X.env.scope.names.lookup x=some .local:=by first|exact .inl rfl|exact .inr rfl|assumption):
 PS X (.Assign [.Name x a] e z) (Hc c (eQ i)):=by
 intro b s j H D I h;refine wpAny_Assign_Name (fQ (o b s j H _ I h) λv r⟨y,d,f,r1,q1⟩=>?_) p;exact mO f l m n r1 (λw g=>⟨_,d,g,q1⟩) q
structure It where
 go:Nat->Hp->Prop
 yld:Nat->Hp->V->Hp->Prop
 stop:Nat->Hp->Prop
def jO(X:Cx)(a:YN)(H:Hp)(b:Zl):Prop:=
 H b=none/\b≠X.env.locals/\b∉X.fs/\(b∈X.ex\/X.s₀.heap.objs.size<=b)/\(∀x c,X.env.cells.lookup x=some c->c≠b)/\∀p∈X.pn++a,p.1≠b
def Inv.fpOk(I:Inv X a g H s)(d:s.heap.objs.size<=b)(h:H' b=none):jO X a H' b:=by
 refine⟨h,abA (aat I.lt d),I.nofs d,.inr (aah I.sz d),λx c e z=>?_,λp f z=>?_⟩
 ·obtain⟨v,q⟩:=I.cell x c e;exact absurd (aat q.lt (by rw[z];exact d)) (aaP _)
 ·exact absurd (aat (aak (I.pin p f).1) (by rw[z];exact d)) (aaP _)
structure Turn(P:ZE)(w:ZH)(K:Zs)(tg:ZT)(J:It)(fp:YI)(it:Zl)(tn:Nat->Heap->Prop):Prop where
 mem:it∈fp
 obj:∀i h,tn i h->∀b∈fp,∃o,h.get? b=some o/\∀v,o.data≠.cell v
 keep:∀i h h',tn i h->(∀b∈fp,∀o,h.get? b=some o->h'.get? b=some o)->tn i h'
 item:∀(X:Cx),X.prog=P->X.w=w->X.K=K->X.calm=true->∀(i:Nat)(dD:YN)(s:Zp)(σ:St)(H:Hp)(E:ZY),Inv X dD σ H s->(∀b∈fp,jO X dD H b)->tn i s.heap->J.go i H->
  wpAny (model P w) X.A (pyNext (.ref it)) (λr s1=>∃u,r=some u/\wpAny (model P w) X.A (letOwnedTupleGo tg (.ref it) u) (λ_ s2=>∃x H',Inv X dD σ H' s2/\RelV x u/\J.yld i H x H'/\tn (i+1) s2.heap/\∀b∈fp,H' b=none) E s1) E s
 done:∀(X:Cx),X.prog=P->X.w=w->X.K=K->X.calm=true->∀(i:Nat)(dD:YN)(s:Zp)(σ:St)(H:Hp)(E:ZY),Inv X dD σ H s->(∀b∈fp,jO X dD H b)->tn i s.heap->J.stop i H->
  wpAny (model P w) X.A (pyNext (.ref it)) (λr s1=>r=none/\Inv X dD σ H s1) E s
 self:∀(A:ZO)(i:Nat)(s:Zp)(Q:ZY)(E:ZY),tn i s.heap->Q (.ref it) s->wpAny (model P w) A (pyIter (.ref it)) Q E s
abbrev TI:=St->Hp->(It->Hp->Prop)->Prop
def PIE(X:Cx)(a:YN)(h:St)(i:ZT)(R:It->Hp->Prop)(d:ZI)(g:Zp):Prop:=
 ∃(e:Zl)(fp:YI)(f:Nat->Heap->Prop)(J:It)(c:Hp),d=.ref e/\Inv X a h c g/\Turn X.prog X.w X.K i J fp e f/\f 0 g.heap/\(∀b∈fp,jO X a c b)/\R J c
def PI(X:Cx)(e b:ZT)(f:TI):Prop:=
 ∀(a:YN)(s:Zp)(c:St)(H:Hp)(R:It->Hp->Prop),Inv X a c H s->f c H R->
   wpAny 00 X.A (eval b X.env) (λv d=>wpAny 00 X.A (pyIter v) (PIE X a c e R) X.xe d) X.xe s
def N7(ho:s.heap.get? c=some o)(d:o.cls=.type n)(hd:o.data=.fields vs)
 (e:["enumerate","zip","dict_itemiterator","dict_reverseitemiterator","odict_iterator","itertools.zip_longest","itertools.pairwise"].contains n=false)(a:Q () s):wpAny M A (letOwnedTupleGo b (.ref c) u) Q E s:=by
 unfold letOwnedTupleGo;cases b<;>first
  |exact aad a
  |(cases u<;>first
   |exact aad a
   | (refine aaa (wpAny_load ho ?_)
      rw[d,hd];show wpAny M A (if(["enumerate","zip","dict_itemiterator","dict_reverseitemiterator","odict_iterator","itertools.zip_longest","itertools.pairwise"].contains n&&vs[0]?==some (rawInt _))=true then _ else _) Q E s;rw[aab (by intro h;rw[e,abX]at h;cases h)];exact aad a))
def Vk(S:Hp->List V->Prop):It:=
 ⟨λi H=>∃a x,S H a/\a[i]?=some x,λi H x b=>b=H/\∀a,S H a->a[i]?=some x,λi H=>∃a,S H a/\a.length<=i⟩
abbrev YH(K:Zs)(a:Zl):It:=Vk λH=>eY K H a
abbrev Xd(K:Zs)(a:Zl):It:=Vk λH=>e_ K H a
def S9(b:Int)(n:Nat):It:=⟨λi _=>i<n,λi H x a=>a=H/\x=.int (b+i),λi _=>n<=i⟩
def rW{P:ZE}{w:ZH}{K:Zs}{tg:ZT}{J:It}{g:Zl}(n:String){j:Nat->Heap->Prop}(Z:∀i h,j i h->∃o vs,h.get? g=some o/\o.cls=.type n/\o.data=.fields vs)
 (hn:["enumerate","zip","dict_itemiterator","dict_reverseitemiterator","odict_iterator","itertools.zip_longest","itertools.pairwise"].contains n=false)(keep:∀i h f,j i h->(∀o,h.get? g=some o->f.get? g=some o)->j i f)
 (U:∀{X:Cx}{i:Nat}{a:YN}{m:St}{s:Zp}{H:Hp}{R:Option Value->Shared->Prop}{E:ZY},X.prog=P->X.w=w->X.K=K->X.A.handled=none->Inv X a m H s->j i s.heap->J.go i H->(∀u x f tk,RelV x u->J.yld i H x H->j (i+1) f->(∀b o,b≠g->s.heap.get? b=some o->f.get? b=some o)->R (some u) {s with heap:=f,toks:=tk})->wpAny (model P w) X.A (pyNext (.ref g)) R E s)
 (W:∀{X:Cx}{i:Nat}{a:YN}{m:St}{s:Zp}{H:Hp}{R:Option Value->Shared->Prop}{E:ZY},X.prog=P->X.w=w->X.K=K->X.A.handled=none->Inv X a m H s->j i s.heap->J.stop i H->(∀f tk,(∀b o,b≠g->s.heap.get? b=some o->f.get? b=some o)->R none {s with heap:=f,toks:=tk})->wpAny (model P w) X.A (pyNext (.ref g)) R E s)
 (Y:∀(A:ZO)(i:Nat)(s:Zp)(Q E:ZY),j i s.heap->Q (.ref g) s->wpAny (model P w) A (pyIter (.ref g)) Q E s):Turn P w K tg J [g] g j where
 mem:=aal.mpr rfl
 obj:=λi h l b B=>by obtain⟨o,vs,e,_,d⟩:=Z i h l;cases aal.mp B;exact⟨o,e,λv z=>by rw[d]at z;cases z⟩
 keep:=λi h f l k=>keep i h f l (k g (aal.mpr rfl))
 item:=λX C D F G i a s m H E I q l L=>by obtain⟨M,N,f2,O,S,T⟩:=q g (aal.mpr rfl);refine U C D F (I.ok.hd G) I l L λu x f tk r y p k=>?_;obtain⟨o,vs,e,c,d⟩:=Z _ _ p;exact⟨u,8,N7 (s:={s with heap:=f,toks:=tk}) e c d hn ⟨x,H,I.turned k M N O S T,r,y,p,λb B=>(q b B).1⟩⟩
 done:=λX C D F G i a s m H E I q l L=>
  let⟨M,N,f2,O,S,T⟩:=q g (aal.mpr rfl)
  W C D F (I.ok.hd G) I l L λf tk k=>⟨8,I.turned k M N O S T⟩
 self:=Y
def Dl{P:ZE}{w:ZH}{K:Zs}{J:ZT}(a z:Zl):Turn P w K J (YH K a) [z] z (λi h=>h.IsListIter z a i):=
 rW "list_iterator" (λi h⟨o,e,c,d⟩=>⟨o,_,e,c,d⟩) 02 (λi h g f k=>f.at k)
  (λl m n hd I f⟨A,x,j,r⟩q=>by subst l m n;obtain⟨v,y,p,F⟩:=I.list j;obtain⟨u,G,H⟩:=y.get r;exact wpAny_pyNext_list_item f (p.isList) (x:=u) (by simpa using G) λg s B=>q u x g _ H ⟨8,λL C=>I.list_inj C j▸r⟩ s λb o D e=>(B.2 b D).trans e)
  (λl m n hd I f⟨A,j,r⟩q=>by subst l m n;obtain⟨v,y,p,F⟩:=I.list j;have M:=y.length;exact wpAny_pyNext_list_end hd f (p.isList) (by simp;omega) λg E=>q g _ E)
  λ_ _ _ _ _ f h=>wpAny_pyIter_listiter f h
def Az{P:ZE}{w:ZH}{K:Zs}{J:ZT}(a z:Zl):Turn P w K J (Xd K a) [z] z (λi h=>h.IsTupleIter z a i):=
 rW "tuple_iterator" (λi h⟨o,e,c,d⟩=>⟨o,_,e,c,d⟩) 02 (λi h j f k=>f.at k)
  (λm n r hd I f⟨A,x,l,s⟩q=>by subst m n r;obtain⟨g,y,p,F⟩:=I.tuple l;obtain⟨u,G,H⟩:=y.get s;exact wpAny_pyNext_tuple_item f (show Heap.IsTuple _ a g.toArray from p) (x:=u) (by simpa using G) λj v B=>q u x j _ H ⟨8,λL C=>I.tuple_inj C l▸s⟩ v λb o D e=>(B.2 b D).trans e)
  (λm n r hd I f⟨A,l,s⟩q=>by subst m n r;obtain⟨g,y,p,F⟩:=I.tuple l;have M:=y.length;exact wpAny_pyNext_tuple_end hd f (show Heap.IsTuple _ a g.toArray from p) (by simp;omega) λj E=>q j _ E)
  λ_ _ _ _ _ f h=>wpAny_pyIter_tupleiter f h
def zU{P:ZE}{w:ZH}{K:Zs}{y:ZT}(d:Zl)(p:Int)(n:Nat):Turn P w K y (S9 p n) [d] d (λi h=>IsRangeIter h d (p+(i:Nat)*1) ((n:Int)-(i:Nat)) 1):=
 rW "range_iterator" (λi h a=>⟨_,_,a,8,8⟩) 02 (λi h c a k=>k _ a)
  (λf g j hd I a l q=>by subst f g j;refine(Walks.range hd d p 1 n).item _ _ _ _ l a λv c tk r m kk=>?_;obtain⟨t,rfl⟩:=r;exact q _ (.int _) c tk ⟨t,8⟩ ⟨8,by rw[Int.mul_one]⟩ m λb o s e=>kk b o (by simpa using s) e)
  (λ{_ i _ _ _ _ _ _}f g j hd I a l q=>by subst f g j;exact wpAny_pyNext_range_end hd a (by have:n<=i:=l;omega) λc x=>q c _ x)
  λ_ _ _ _ _ a h=>wpAny_pyIter_rangeiter a h
def Ig(K:Zs)(e:TE):TI:=λc H R=>e c H λx b=>∃a,x=.ref a/\(∃d,eY K b a d)/\R (YH K a) b
def Xj(K:Zs)(e:TE):TI:=λc H R=>e c H λx b=>∃a,x=.ref a/\(∃d,e_ K b a d)/\R (Xd K a) b
def vg(I:Inv X a c H s)(T:Turn X.prog X.w X.K h J [s.heap.objs.size] s.heap.objs.size d)(g:d 0 (s.heap.push o))(q:R J H):
 PIE X a c h R (.ref s.heap.objs.size) {s with heap:=s.heap.push o,toks:=tk}:=
 ⟨_,_,_,_,H,8,I.kept λb o e=>aaj _ e,T,g,λb f=>by cases aal.mp f;exact I.fpOk 014 (I.hok.fresh 014),q⟩
noncomputable def iW{X:Cx}{l:ZT}{d:TE}(i:PE X l d):PI X w l (Ig X.K d):=by intro b s f H R I h;refine fQ (i b s f H _ I h) ?_;rintro v n⟨x,o,c,r1,a,rfl,⟨r,g⟩,q⟩;cases r1;obtain⟨e,j,p,m⟩:=c.list g;exact acN p.isList (vg c (Dl a _) ⟨_,aav _ rfl,8,8⟩ q)
noncomputable def mJ{X:Cx}{l:ZT}{e:TE}(j:PE X l e):PI X w l (Xj X.K e):=by intro b s f H R I h;refine fQ (j b s f H _ I h) ?_;rintro v g⟨x,o,d,r1,a,rfl,⟨r,i⟩,q⟩;cases r1;obtain⟨c,m,p,n⟩:=d.tuple i;exact abY (show g.heap.IsTuple a c.toArray from p) (vg d (Az a _) ⟨_,aav _ rfl,8,8⟩ q)
def J1{X:Cx}{c:YN}{f:St}{H:Hp}{s:Zp}{R:It->Hp->Prop}{E:ZY}{a d:Int}{t u v:Tok}{tk:Nat}(I:Inv X c f H s)(i:-(2 ^ 62)<=a)(j:a<2 ^ 62)(l:-(2 ^ 62)<=d)(m:d<2 ^ 62)
 (q:R (S9 a (d-a).toNat) H):wpAny 00 X.A (pyIter (.ref s.heap.objs.size)) (PIE X c f n R) E {s with heap:=s.heap.push {cls:=.type "range",data:=.fields #[.int a t,.int d u,.int 1 v]},toks:=tk}:=by
 refine wpAny_pyIter_range (IsRange.new ..) (small_one i j l m) (vg (I.kept (t':=tk) λb o e=>aaj _ e) (zU _ a (d-a).toNat) ?_ q);have g:a+((0:Nat):Int)*1=a:=by simp
 have h:(((d-a).toNat:Nat):Int)-((0:Nat):Int)=Builtin.Range.rangeSize a d 1:=by rw[rangeSize_one];split<;>omega
 show IsRangeIter _ _ (a+((0:Nat):Int)*1) ((((d-a).toNat:Nat):Int)-((0:Nat):Int)) 1;rw[g,h];exact aav _ rfl
def Td(c:TA):TI:=λa H R=>c a H λvs b=>∃j:Int,vs=[.int j]/\-(2 ^ 62)<=j/\j<2 ^ 62/\R (S9 0 j.toNat) b
theorem jR{X:Cx}{a:ZT}{d:TA}{p c:Pos}(l:Gl X "range")(m:X.mg "range"=none)(n:PA X [a] d)(o:starEach [a] X.env=[(false,eval a X.env)]:=by rfl):PI X y (.Call (.Name "range" p) [a] [] c) (Td d):=by
 intro b s g H R I h;refine Call_ (mL I l m boot_range (abZ (fQ (n c b s g H _ I h) λv w⟨vs,x,f,r1,q1⟩=>?_) o rfl));obtain⟨j,e,q1,q2,q⟩:=q1;subst e;cases r1 with
 | cons r i=>cases i;obtain⟨t,rfl⟩:=r;exact call_range_1 (J1 f 05 05 q1 q2 (by simpa using q))
abbrev FW(J:It)(g:TG)(h:TS)(D:Ends)(a:St)(H:Hp):Prop:=∃W:Nat->Nat->St->Hp->Prop,(∃m,W 0 m a H)/\∀i m a H,W i m a H->
 (J.stop i H/\D.nx a H)\/(J.go i H/\∃N:St->Hp->Prop,(∀b c,N b c->∃e,e<m/\W (i+1) e b c)/\∀x c,J.yld i H x c->g x a c λd f=>h {D with nx:=N,ct:=N,bk:=D.nx} d f)
def Yo(c:TI)(g:TG)(d:TS):TS:=λD a H=>c a H λJ b=>FW J g d D a b
noncomputable def kI(fp:YI)(h:ZN):List (Addr×Obj):=fp.filterMap λb=>(h.get? b).map λo=>(b,o)
def lU(a:b∈fp)(e:h.get? b=some o):(b,o)∈kI fp h:=List.mem_filterMap.mpr ⟨b,a,by rw[e];rfl⟩
theorem pN(d:p∈kI fp h):p.1∈fp/\h.get? p.1=some p.2:=by
 obtain⟨b,c,e⟩:=List.mem_filterMap.mp d;cases q:h.get? b with
 |none=>rw[q]at e;cases e
 | some o=>rw[q]at e;have a:(b,o)=p:=aaO e;subst a;exact⟨c,q⟩
def Inv.pinned(I:Inv X a g H s)(m:∀b∈fp,jO X a H b)(ho:∀b∈fp,∃o,s.heap.get? b=some o/\∀v,o.data≠.cell v):Inv X (a++kI fp s.heap) g H s:=
 I.pins_of λp h=>(aam.mp h).elim (λz=>I.pin p (aax _ z)) λz=>by obtain⟨c,e⟩:=pN z;obtain⟨i,j,l,_⟩:=m p.1 c;obtain⟨o,f,d⟩:=ho p.1 c;rw[e]at f;cases f;exact⟨e,i,j,l,d⟩
def Inv.unpinned(I:Inv X (a++d) b H s):Inv X a b H s:=I.pins_of λp c=>I.pin p (aax _ (aaL _ c))
def jy{X:Cx}{A:ZT}{E:List Stmt}{wi:TI}{g:TG}{tb:TS}{pos:Pos}(Q:PassesOwn 00 X.A X.env X.xe)(hc:X.calm=true)(hi:PI X tg A wi)(hg:PG X tg g)(j:wR X E tb)
 (hs:∀x,foldedSetIterable A X.env x=pure x:=by intro _;rfl):PS X (.For tg A E [] pos) (Yo wi g tb):=by
 intro c s σ H D I h;refine wpAny_For (fQ (hi c s σ H _ I h) λv s1 h1=>fQ h1 λac s2 h2=>?_) hs;obtain⟨it,fp,tn,J,H2,e,I2,T,ab,f2,W,⟨m0,w0⟩,L⟩:=h2;subst e;have w:∀{B:Hp},(∀b∈fp,B b=none)->∀b∈fp,jO X c B b:=λhn b j=>⟨hn b j,(f2 b j).2⟩;refine codeAny_forLoop_any (λn s'=>∃i q B,Inv X c q B s'/\tn i s'.heap/\(∀b∈fp,B b=none)/\W i n q B) ?_ m0 ⟨0,σ,H2,I2,ab,λb j=>(f2 b j).1,w0⟩;rintro n s3⟨i,z,R,I3,M,O,w3⟩;rcases L i n z R w3 with⟨P,qn⟩|⟨go,N,hN,step⟩
 ·refine ab0 Q (fQ (T.done X rfl rfl rfl hc i c s3 z R X.xe I3 (w O) M P) λr s4⟨S,I4⟩=>?_);subst S;exact abW ⟨z,R,I4,qn⟩
 ·refine ab0 Q (fQ (T.item X rfl rfl rfl hc i c s3 z R X.xe I3 (w O) M go) λr s4⟨u,S,h4⟩=>?_);subst S;refine ab0 Q (fQ h4 λ_ s5⟨x,H5,I5,r5,y5,F,U⟩=>?_);have aa:=I5.pinned (w U) (T.obj _ _ F);refine ab0 Q (fQ (hg _ s5 z H5 x u _ aa r5 (step x H5 y5)) λ_ s6⟨Y,H6,I6,q6⟩=>?_);refine ab0 Q (fQ (j _ s6 Y H6 _ I6 q6) λf Z C=>?_);have y:∀{a:St}{l:Hp},Inv X (c++kI fp s5.heap) a l Z->N a l->∃m,m<n/\∃i q B,Inv X c q B Z/\tn i Z.heap/\(∀b∈fp,B b=none)/\W i m q B:=λ{a l}p G=>by obtain⟨m',hm,w7⟩:=hN a l G;refine⟨m',hm,i+1,a,l,p.unpinned,T.keep _ _ _ F λb j o e=>(p.pin (b,o) (aax _ (aax _ (lU j e)))).1,λb j=>?_,w7⟩;obtain⟨o,e,d⟩:=T.obj _ _ F b j;exact(p.pin (b,o) (aax _ (aax _ (lU j e)))).2.1
  cases f with
  |next=>obtain⟨a,l,p,G⟩:=C;exact y p G
  |cont=>obtain⟨a,l,p,G⟩:=C;exact y p G
  |brk=>obtain⟨a,l,p,C⟩:=C;exact⟨a,l,p.unpinned,C⟩
  |ret v=>obtain⟨x7,a,l,p,r7,C⟩:=C;exact⟨x7,a,l,p.unpinned,r7,C⟩
def oV(b:Nat->St->Hp->Prop)(o:b 0 a H)(hd:∀a H,b n a H->J.stop n H/\D.nx a H)
 (f:∀i a H,i<n->b i a H->J.go i H/\∀x d,J.yld i H x d->g x a d λc j=>e {D with nx:=b (i+1),ct:=b (i+1),bk:=D.nx} c j):FW J g e D a H:=by
 refine⟨λi m a H=>m=n-i/\i<=n/\b i a H,⟨9,aaU _,o⟩,?_⟩;rintro i m a H⟨rfl,l,p⟩;rcases Nat.lt_or_eq_of_le l with h|rfl
 ·exact .inr ⟨(f i a H h p).1,b (i+1),λ_ _ z=>⟨_,05,rfl,h,z⟩,(f i a H h p).2⟩
 ·exact .inl (hd a H p)
def jV{S:Hp->List V->Prop}{xs:List V}{g:TG}{f:TS}{D:Ends}{a:St}{H:Hp}(b:Nat->St->Hp->Prop)(l:b 0 a H)(d:∀i a H,i<=xs.length->b i a H->S H xs)
 (m:∀i x a H,xs[i]?=some x->b i a H->g x a H λc j=>f {D with nx:=b (i+1),ct:=b (i+1),bk:=D.nx} c j)(hd:∀a H,b xs.length a H->D.nx a H):FW (Vk S) g f D a H:=
 oV b l (λa H p=>⟨⟨xs,d _ a H 014 p,aae _⟩,hd a H p⟩) λi a H h p=>⟨⟨xs,xs[i],d i a H (aaT h) p,by simp[h]⟩,λx _⟨e,y⟩=>by subst e;exact m i x a _ (y xs (d i a _ (aaT h) p)) p⟩
def pJ{lo:Int}{n:Nat}{g:TG}{d:TS}{D:Ends}{a:St}{H:Hp}(b:Nat->St->Hp->Prop)(j:b 0 a H)
 (l:∀i a H,i<n->b i a H->g (.int (lo+i)) a H λc f=>d {D with nx:=b (i+1),ct:=b (i+1),bk:=D.nx} c f)(hd:∀a H,b n a H->D.nx a H):FW (S9 lo n) g d D a H:=
 oV b j (λa H p=>⟨aae _,hd a H p⟩) λi a H h p=>⟨h,λx _⟨e,y⟩=>by subst e y;exact l i a _ h p⟩
abbrev R2:=V->V->Hp->VK->Prop
def ni(X:Cx)(f:Value->Value->Sem Value)(r:R2):Prop:=
 ∀(a:YN)(s:Zp)(b:St)(H:Hp)(x y:V)(v u:ZI)(Q:VK),Inv X a b H s->RelV x v->RelV y u->r x y H Q->
   wpAny 00 X.A (f v u) (EP X a b Q) X.xe s
def Zg(X:Cx)(f:Value->Sem Value)(r:V->Hp->VK->Prop):Prop:=
 ∀(a:YN)(s:Zp)(b:St)(H:Hp)(x:V)(v:ZI)(Q:VK),Inv X a b H s->RelV x v->r x H Q->
   wpAny 00 X.A (f v) (EP X a b Q) X.xe s
def jJ(X:Cx)(f:ZI)(r:List V->Hp->VK->Prop):Prop:=
 ∀(a:YN)(s:Zp)(b:St)(H:Hp)(c:List V)(d:Y3)(Q:VK),Inv X a b H s->Vals c d->r c H Q->
   wpAny 00 X.A (call f d) (EP X a b Q) X.xe s
def Y7(X:Cx)(r:V->Hp->(Bool->Hp->Prop)->Prop):Prop:=
 ∀(a:YN)(s:Zp)(b:St)(H:Hp)(x:V)(v:ZI)(Q:Bool->Hp->Prop),Inv X a b H s->RelV x v->r x H Q->
   wpAny 00 X.A (truthy v) (TP X a b Q) X.xe s
def S6(r:R2)(d e:TE):TE:=λa H Q=>d a H λx b=>e a b λy c=>r x y c Q
def ZF(r:V->Hp->VK->Prop)(c:TE):TE:=λa H Q=>c a H λx b=>r x b Q
def rI(C:Int->Int->Prop)(g:Int->Int->V):R2:=λx y H Q=>∃i j,x=.int i/\y=.int j/\C i j/\Q (g i j) H
def Jv(g:Int->Int->V):R2:=λx y H Q=>∃i j,x=.int i/\y=.int j/\Q (g i j) H
def rU(g:Int->V):V->Hp->VK->Prop:=λx H Q=>∃i,x=.int i/\Q (g i) H
section
variable{X:Cx}{a b c:ZT}{ta tb tc:TE}{pos:Pos}
def RL(q:PE X a ta)(r:PE X b tb){d:YN}{s:Zp}{g:St}{H:Hp}{R:V->V->Hp->Prop}(I:Inv X d g H s)
 (h:ta g H λx m=>tb g m λy e=>R x y e){Q:ZY}{f:Value->Value->Sem Value}
 (w:∀v u l x y e,Inv X d g e l->RelV x v->RelV y u->R x y e->wpAny 00 X.A (f v u) Q X.xe l):
 wpAny 00 X.A (eval a X.env) (λv i=>wpAny 00 X.A (eval b X.env) (λu j=>wpAny 00 X.A (f v u) Q X.xe j) X.xe i) X.xe s:=by
 refine fQ (q d s g H _ I h) λv n⟨x,m,o,r1,q1⟩=>?_;refine fQ (r d n g m _ o q1) λu l⟨y,e,p,r2,q2⟩=>?_;exact w v u l x y e p r1 r2 q2
noncomputable def eN(ho:ni X (binaryOp op) r)(m:PE X a ta)(n:PE X b tb):PE X (.BinOp a op b pos) (S6 r ta tb):=by intro d s l H Q I h;exact wpAny_BinOp (RL m n I h λv u e x y f g i j q=>ho d e l f x y v u Q g i j q)
noncomputable def pU{op:UnaryOp}{r:V->Hp->VK->Prop}(ho:Zg X (unaryOp op) r)(j:PE X a ta):PE X (.UnaryOp op a pos) (ZF r ta):=by intro d s e H Q I h;exact UnaryOp_ (fQ (j d s e H _ I h) λv f⟨x,g,i,r1,q1⟩=>ho d f e g x v Q i r1 q1)
def Wl{f:Value->Value->Sem Value}{C:Int->Int->Prop}{g:Int->Int->Int}
 (d:∀(i j:Int)(t u:Tok)(s:Zp)(Q:ZY)(E:ZY),C i j->Q (.int (g i j) s.toks) {s with toks:=s.toks+1}->wpAny 00 X.A (f (.int i t) (.int j u)) Q E s):
 ni X f (rI C λi j=>.int (g i j)):=by
 intro e s p H x y v u Q I n o h;obtain⟨i,j,rfl,rfl,l,q⟩:=h;obtain⟨t,rfl⟩:=n;obtain⟨m,rfl⟩:=o;exact d i j t m s _ _ l ⟨.int (g i j),H,I.tok _,⟨9⟩,q⟩
def VF{f:Value->Value->Sem Value}{g:Int->Int->Int}
 (d:∀(i j:Int)(t u:Tok)(s:Zp)(Q:ZY)(E:ZY),Q (.int (g i j) s.toks) {s with toks:=s.toks+1}->wpAny 00 X.A (f (.int i t) (.int j u)) Q E s):
 ni X f (Jv λi j=>.int (g i j)):=by
 intro e s o H x y v u Q I m n h;obtain⟨i,j,rfl,rfl,q⟩:=h;obtain⟨t,rfl⟩:=m;obtain⟨l,rfl⟩:=n;exact d i j t l s _ _ ⟨.int (g i j),H,I.tok _,⟨9⟩,q⟩
def Mg{f:Value->Value->Sem Value}{g:Int->Int->Bool}
 (d:∀(i j:Int)(t u:Tok)(s:Zp)(Q:ZY)(E:ZY),Q (.bool (g i j)) s->wpAny 00 X.A (f (.int i t) (.int j u)) Q E s):
 ni X f (Jv λi j=>.bl (g i j)):=by
 intro e s o H x y v u Q I m n h;obtain⟨i,j,rfl,rfl,q⟩:=h;obtain⟨t,rfl⟩:=m;obtain⟨l,rfl⟩:=n;exact d i j t l s _ _ ⟨.bl (g i j),H,I,8,q⟩
def Y5(i j:Int):Prop:=0<j/\j<1073741824
def Yd(i j:Int):Prop:=0<=j/\j<=1000000/\i.natAbs<2 ^ 64
def K5(i j:Int):Prop:=(-(2 ^ 64)<i/\i<2 ^ 64)\/(-(2 ^ 64)<j/\j<2 ^ 64)
def K5.ok(h:K5 i j):IntMulOk i j:=by
 rcases h with⟨d,e⟩|⟨d,e⟩
 ·exact .of_left (intBits_le_64 d e)
 ·exact .of_right (intBits_le_64 d e)
def iK:ni X (binaryOp .Add) (Jv λi j=>.int (i+j)):=VF λ_ _ _ _ _ _ _ q=>add_int q
def lE:ni X (binaryOp .Sub) (Jv λi j=>.int (i-j)):=VF λ_ _ _ _ _ _ _ q=>sub_int q
def n_:ni X (binaryOp .Mult) (rI K5 λi j=>.int (i*j)):=Wl λ_ _ _ _ _ _ _ d q=>mul_int q d.ok
noncomputable def Bb:ni X (binaryOp .FloorDiv) (rI Y5 λi j=>.int (i/j)):=Wl λi j _ _ _ _ _ d q=>by have e:(0:Int)<j:=d.1;have f:j<1073741824:=d.2;exact floordiv_int 05 (by rw[ada i 05];exact q) (.inl (PyProof.noPylong_small 05))
noncomputable def lC:ni X (binaryOp .Mod) (rI (λ_ j=>0<j) λi j=>.int (i % j)):=Wl λi j _ _ _ _ _ d q=>by have e:(0:Int)<j:=d;exact mod_int' 05 (by rw[Int.fmod_eq_emod_of_nonneg i 05];exact q)
def Rh:ni X (binaryOp .Pow) (rI Yd λi j=>.int (i ^ j.toNat)):=Wl λ_ _ _ _ _ _ _ d q=>pow_int_small d.1 d.2.1 d.2.2 q
def unI{f:Value->Sem Value}{g:Int->Int}
 (d:∀(i:Int)(t:Tok)(s:Zp)(Q:ZY)(E:ZY),Q (.int (g i) s.toks) {s with toks:=s.toks+1}->wpAny 00 X.A (f (.int i t)) Q E s):
 Zg X f (rU λi=>.int (g i)):=by
 intro e s l H x v Q I j h;obtain⟨i,rfl,q⟩:=h;obtain⟨t,rfl⟩:=j;exact d i t s _ _ ⟨.int (g i),H,I.tok _,⟨9⟩,q⟩
def mH:Zg X (unaryOp .USub) (rU λi=>.int (-i)):=unI λ_ _ _ _ _ q=>neg_int q
end
noncomputable def Vf:V->V->Bool
 |.non,.non=>true|.non,.int _=>true|.int _,.non=>true|.non,.bl _=>true|.bl _,.non=>true|.non,.str _=>true|.str _,.non=>true
 |.int _,.int _=>true|.bl _,.bl _=>true|.str _,.str _=>true|.byt _,.byt _=>true
 |.int _,.str _=>true|.str _,.int _=>true|.bl _,.str _=>true|.str _,.bl _=>true
 |_,_=>false
def ZW:R2:=λx y H Q=>Vf x y=true/\Q (.bl (decide (x=y))) H
def rNe:R2:=λx y H Q=>Vf x y=true/\Q (.bl (!decide (x=y))) H
def Bv:decide (V.int i=V.int j)=(i==j):=by rw [abb];simp
def FT:decide (V.bl i=V.bl j)=(i==j):=by rw [abb];simp
def lg:decide (V.str i=V.str j)=(i==j):=by rw [abb];simp
def Bk:decide (V.byt i=V.byt j)=(i.toList==j.toList):=by rw [abb];cases i;cases j;simp
def fH(I:Inv X d f H s)(q:Q (.bl k) H)(e:k=g):EP X d f Q (.bool g) s:=by subst e;exact⟨.bl k,H,I,8,q⟩
theorem g8:ni X (compareOp .Eq) ZW:=by
 intro l s m H x y v u Q I g d h;obtain⟨f,q⟩:=h;cases x with
 | non=>
   cases g;cases y with
   |non=>cases d;exact PySem.EqNone.eq_none_none (fH I q 04)
   |bl j=>cases d;exact PySem.EqNone.eq_none_bool (fH I q 04)
   |int j=>obtain⟨e,rfl⟩:=d;exact PySem.EqNone.eq_none_int (fH I q 04)
   |str j=>obtain⟨e,rfl⟩:=d;exact PySem.EqNone.eq_none_str (fH I q 04)
   |_=>exact absurd 018 aaG
 | bl i=>
   cases g;cases y with
   |non=>cases d;exact PySem.EqNone.eq_bool_none (fH I q 04)
   |bl j=>cases d;exact eq_bool (fH I q FT)
   |str j=>obtain⟨e,rfl⟩:=d;exact PySem.EqMixed.eq_bool_str (fH I q 04)
   |_=>exact absurd 018 aaG
 | int i=>
   obtain⟨t,rfl⟩:=g;cases y with
   |non=>cases d;exact PySem.EqNone.eq_int_none (fH I q 04)
   |int j=>obtain⟨e,rfl⟩:=d;exact eq_int (fH I q Bv)
   |str j=>obtain⟨e,rfl⟩:=d;exact PySem.EqMixed.eq_int_str (fH I q 04)
   |_=>exact absurd 018 aaG
 | str i=>
   obtain⟨t,rfl⟩:=g;cases y with
   |non=>cases d;exact PySem.EqNone.eq_str_none (fH I q 04)
   |bl j=>cases d;exact PySem.EqMixed.eq_str_bool (fH I q 04)
   |int j=>obtain⟨e,rfl⟩:=d;exact PySem.EqMixed.eq_str_int (fH I q 04)
   |str j=>obtain⟨e,rfl⟩:=d;exact eq_str (fH I q lg)
   |_=>exact absurd 018 aaG
 | byt i=>
   obtain⟨t,rfl⟩:=g;cases y with
   |byt j=>obtain⟨e,rfl⟩:=d;exact PySem.W.eq_bytes (fH I q Bk)
   |_=>exact absurd 018 aaG
 |_=>cases y<;>exact absurd 018 aaG
theorem xZ:ni X (compareOp .NotEq) rNe:=by
 intro l s m H x y v u Q I g d h;obtain⟨f,q⟩:=h;cases x with
 | non=>
   cases g;cases y with
   |non=>cases d;exact PySem.EqNone.ne_none_none (fH I q 04)
   |bl j=>cases d;exact PySem.EqNone.ne_none_bool (fH I q 04)
   |int j=>obtain⟨e,rfl⟩:=d;exact PySem.EqNone.ne_none_int (fH I q 04)
   |str j=>obtain⟨e,rfl⟩:=d;exact PySem.EqNone.ne_none_str (fH I q 04)
   |_=>exact absurd 018 aaG
 | bl i=>
   cases g;cases y with
   |non=>cases d;exact PySem.EqNone.ne_bool_none (fH I q 04)
   |bl j=>cases d;exact ne_bool (fH I q (aaB not FT))
   |str j=>obtain⟨e,rfl⟩:=d;exact PySem.EqMixed.ne_bool_str (fH I q 04)
   |_=>exact absurd 018 aaG
 | int i=>
   obtain⟨t,rfl⟩:=g;cases y with
   |non=>cases d;exact PySem.EqNone.ne_int_none (fH I q 04)
   |int j=>obtain⟨e,rfl⟩:=d;exact ne_int (fH I q (aaB not Bv))
   |str j=>obtain⟨e,rfl⟩:=d;exact PySem.EqMixed.ne_int_str (fH I q 04)
   |_=>exact absurd 018 aaG
 | str i=>
   obtain⟨t,rfl⟩:=g;cases y with
   |non=>cases d;exact PySem.EqNone.ne_str_none (fH I q 04)
   |bl j=>cases d;exact PySem.EqMixed.ne_str_bool (fH I q 04)
   |int j=>obtain⟨e,rfl⟩:=d;exact PySem.EqMixed.ne_str_int (fH I q 04)
   |str j=>obtain⟨e,rfl⟩:=d;exact ne_str (fH I q (aaB not lg))
   |_=>exact absurd 018 aaG
 | byt i=>
   obtain⟨t,rfl⟩:=g;cases y with
   |byt j=>obtain⟨e,rfl⟩:=d;exact PySem.W.ne_bytes (fH I q (aaB not Bk))
   |_=>exact absurd 018 aaG
 |_=>cases y<;>exact absurd 018 aaG
def uL:ni X (compareOp .Lt) (Jv λi j=>.bl (decide (i<j))):=Mg λ_ _ _ _ _ _ _ q=>lt_int q
def kj:ni X (compareOp .LtE) (Jv λi j=>.bl (decide (i<=j))):=Mg λ_ _ _ _ _ _ _ q=>le_int q
def O3:ni X (compareOp .Gt) (Jv λi j=>.bl (decide (j<i))):=Mg λ_ _ _ _ _ _ _ q=>gt_int q
def Gq:ni X (compareOp .GtE) (Jv λi j=>.bl (decide (j<=i))):=Mg λ_ _ _ _ _ _ _ q=>ge_int q
def sJ:ni X (compareOp .Is) (λx y H Q=>y=.non/\Q (.bl (decide (x=.non))) H):=by
 intro d s g H x y v u Q I e f h;obtain ⟨rfl,q⟩:=h;cases f;refine is_none_gen (fH I q ?_);cases x<;>first
  |(cases e;rfl)
  |(obtain ⟨t,rfl⟩:=e;rfl)
def qm:ni X (compareOp .IsNot) (λx y H Q=>y=.non/\Q (.bl (!decide (x=.non))) H):=by
 intro d s g H x y v u Q I e f h;obtain ⟨rfl,q⟩:=h;cases f;refine isnot_none_gen (fH I q ?_);cases x<;>first
  |(cases e;rfl)
  |(obtain ⟨t,rfl⟩:=e;rfl)
def di(b:ZT)(h:op≠.In:=by decide)(f:op≠.NotIn:=by decide):behindInMarks op b=false:=by
 have d:(op==CmpOp.In)=false:=by cases op<;>first|rfl|exact absurd rfl h
 have e:(op==CmpOp.NotIn)=false:=by cases op<;>first|rfl|exact absurd rfl f
 cases b<;>simp[behindInMarks,d,e]
noncomputable def iw(ho:ni X (compareOp op) r)(m:PE X a w)(n:PE X b c)(o:behindInMarks op b=false):PE X (.Compare a [op] [b] p) (S6 r w c):=by intro d s l H Q I h;exact wpAny_Compare1 (RL m n I h λv u e x y f g i j q=>ho d e l f x y v u Q g i j q) o
def uV(t:TE):TT:=λd H Q=>t d H λx e=>∃k,x=.bl k/\Q k e
noncomputable def dg{op:CmpOp}{r:R2}(ho:ni X (compareOp op) r)(w:PE X a F)(A:PE X b D)(B:behindInMarks op b=false):PT X (.Compare a [op] [b] E) (uV (S6 r F D)):=by intro d s f H Q I h;refine wpAny_isTrue_Compare1 (fQ (w d s f H _ I h) λv g⟨x,i,j,r1,q1⟩=>fQ (A d g f i _ j q1) λu l⟨y,m,n,r2,q2⟩=>fQ (ho d l f m x y v u _ n r1 r2 q2) λc C⟨z,o,p,r3,k,e,q⟩=>?_) B;subst e;cases r3;exact aaZ ⟨o,p,q⟩
def Aa(r j:R2)(l m n:TE):TE:=λd H Q=>l d H λx f=>m d f λy g=>r x y g λz e=>∃k,z=.bl k/\
 (if k=true then n d e λh i=>j y h i Q else Q (.bl false) e)
theorem xO{op g:CmpOp}{r o:R2}(ho:ni X (compareOp op) r)(j:ni X (compareOp g) o)(N:PE X a W)(O:PE X b S)(P:PE X c U)
 (R:lastMarks [op,g] [b,c]=false:=by with_unfolding_all rfl):PE X (.Compare a [op,g] [b,c] T) (Aa r o W S U):=by
 intro f s i H Q I h;refine Compare_chain (fQ (N f s i H _ I h) λv p⟨x,q,w,r1,q1⟩=>chain_link (fQ (O f p i q _ w q1) λu A⟨y,B,C,r2,q2⟩=>fQ (ho f A i B x y v u _ C r1 r2 q2) λd D⟨z,l,m,r3,k,e,n⟩=>?_)) R;subst e;cases r3;refine aaZ ?_;cases k with
 |false=>exact ite_ff ⟨.bl false,l,m,8,n⟩
 |true=>exact ite_tt (chain_last (fQ (P f D i l _ m n) λE F⟨G,J,L,r4,M⟩=>j f F i J y G u E Q L r2 r4 M))
theorem q_{op g:CmpOp}{r o:R2}(ho:ni X (compareOp op) r)(j:ni X (compareOp g) o)(U:PE X a ta)(W:PE X b tb)(Y:PE X c tc)
 (Z:lastMarks [op,g] [b,c]=false:=by with_unfolding_all rfl):PT X (.Compare a [op,g] [b,c] pos) (uV (Aa r o ta tb tc)):=by
 intro f s i H Q I h;refine isTrue_chain (fQ (U f s i H _ I h) λv p⟨x,q,w,r1,q1⟩=>test_link (fQ (W f p i q _ w q1) λu A⟨y,B,C,r2,q2⟩=>fQ (ho f A i B x y v u _ C r1 r2 q2) λd D⟨z,l,m,r3,k,e,n⟩=>?_)) Z;subst e;cases r3;refine aaZ ?_;cases k with
 | false=>obtain⟨k',S,T⟩:=n;cases S;exact ite_ff ⟨l,m,T⟩
 | true=>refine ite_tt (test_last (fQ (Y f D i l _ m n) λE F⟨G,J,L,r4,M⟩=>fQ (j f F i J y G u E _ L r2 r4 M) λd' s5⟨z2,N,O,r5,k2,P,R⟩=>?_));subst P;cases r5;exact aaZ ⟨N,O,R⟩
def Su(K:Zs)(x:V)(H:Hp)(k:Bool):Prop:=
 match x with
 |.non=>k=false
 |.bl b=>k=b
 |.int i=>k=(i !=0)
 |.str y=>y.length<=sizeLine/\k=((y.length:Int)!=0)
 |.byt y=>y.size<=sizeLine/\k=((y.size:Int)!=0)
 |.ref p=>(∃xs,eY K H p xs/\k=!xs.isEmpty)\/(∃xs,e_ K H p xs/\k=!xs.isEmpty)\/∃kvs,H p=some (.dK kvs)/\k=!kvs.isEmpty
 |_=>False
def Aq{κ:Type}{kvs:List (κ×V)}{vs:List (κ×Value)}(r:KV kvs vs):(!vs.isEmpty)=!kvs.isEmpty:=by cases r<;>rfl
def qO(r:Vals xs its):(!its.toArray.isEmpty)=!xs.isEmpty:=by cases r<;>simp
def pL:(sizeLine:Nat)<2 ^ 63:=by rw[sizeLine_eq];decide
theorem Qm{X:Cx}:Y7 X (λx H Q=>∃k,Su X.K x H k/\Q k H):=by
 intro dD s σ H x v Q I rx h;obtain⟨k,e,q⟩:=h;have hl:=pL;have hs:sizeLine=16777216:=sizeLine_eq;cases x with
 | non=>cases rx;have e':k=false:=e;subst e';exact truthy_none ⟨H,I,q⟩
 | bl b=>cases rx;have e':k=b:=e;subst e';exact aaZ ⟨H,I,q⟩
 | int i=>obtain⟨t,rfl⟩:=rx;have e':k=(i !=0):=e;subst e';exact PySem.P.truthy_int ⟨H,I,q⟩
 | str y=>obtain⟨t,rfl⟩:=rx;obtain⟨hy,e'⟩:y.length<=sizeLine/\k=((y.length:Int)!=0):=e;subst e';exact PySem.P.truthy_str 05 ⟨H,I.tok _,q⟩
 | byt y=>obtain⟨t,rfl⟩:=rx;obtain⟨hy,e'⟩:y.size<=sizeLine/\k=((y.size:Int)!=0):=e;subst e';exact PySem.W.truthy_bytes 05 ⟨H,I.tok _,q⟩
 | ref p=>
   cases rx;have e':(∃xs,eY X.K H p xs/\k=!xs.isEmpty)\/(∃xs,e_ X.K H p xs/\k=!xs.isEmpty)\/∃kvs,H p=some (.dK kvs)/\k=!kvs.isEmpty:=e;rcases e' with⟨xs,hx,e'⟩|⟨xs,hx,e'⟩|⟨kvs,hx,e'⟩
   ·subst e';obtain⟨its,r,pl,hz⟩:=I.list hx;have hlen:=r.length;exact wpAny_truthy_list pl.isList (by simp only[aas];omega) ⟨H,I.tok _,by rw[qO r];exact q⟩
   ·subst e';obtain⟨its,r,pl,hz⟩:=I.tuple hx;have hlen:=r.length;exact truthy_tuple pl (by simp only[aas];omega) ⟨H,I.tok _,by rw[qO r];exact q⟩
   ·subst e';obtain⟨hz,hS,vs,r,m⟩:kvs.length<=sizeLine/\(p==sysModules)=false/\∃vs,KV kvs vs/\s.heap.DictOf (gW X.prog X.w) p vs:=I.hok p _ hx;have hlen:kvs.length=vs.length:=aaS r;exact wpAny_truthy_dict hS m 05 ⟨H,I.tok _,by rw[Aq r];exact q⟩
 |_=>exact(show False from e).elim
def HR{X:Cx}{a:ZT}{b:TE}(m:PE X a b)(n:∀d,isTrue a X.env d=(do let v<-d;standAt a.pos;holding [v] (truthy v))):
 PT X a (λf H Q=>b f H λx g=>∃k,Su X.K x g k/\Q k g):=by
 intro e s f H Q I h;exact isTrue_plain (fQ (m e s f H _ I h) λv i⟨x,j,l,r1,q1⟩=>Qm e i f j x v Q l r1 q1) (n _)
noncomputable def l_:ni X (binaryOp .Add) (λx y H Q=>∃i j,x=.str i/\y=.str j/\i.length+j.length<=sizeLine/\Q (.str (i++j)) H):=by intro d s m H x y v u Q I g l h;obtain⟨i,j,rfl,rfl,f,q⟩:=h;obtain⟨t,rfl⟩:=g;obtain⟨e,rfl⟩:=l;exact add_str (λe tk=>⟨.str (i++j),H,I.tok _,⟨9⟩,q⟩) f
theorem vals1(r:Vals [x] d):∃u,d=[u]/\RelV x u:=by
 cases r with
 |cons r1 r2=>cases r2;exact⟨9,r1⟩
theorem vals2(r:Vals [x,y] e):∃u d,e=[u,d]/\RelV x u/\RelV y d:=by
 cases r with
 | cons r1 r2=>
   cases r2 with
   |cons r3 r4=>cases r4;exact⟨7,r1,r3⟩
noncomputable def vY:jJ X (.type "str") (λd H Q=>∃i,d=[.int i]/\i.natAbs.log2<1920/\Q (.str (toString i)) H):=by intro e s g H d j Q I r h;obtain⟨i,rfl,f,q⟩:=h;obtain⟨u,rfl,t,rfl⟩:=vals1 r;exact PySem.P.str_of_int f ⟨.str _,H,I.tok _,⟨9⟩,q⟩
structure zK(h:ZN)(x dx C:Zl)(mA:Y1):Prop where
 obj:h.get? x=some (PySem.W.instObj C dx)
 ns:h.Ns1 dx mA
 ne:dx≠x
set_option tactic.hygienic true in
def pG{h:ZN}{g:Y1}(n:h.Ns1 f g):∃od,h.get? f=some od/\∀b,PySem.W.lookIn b od=some (g b):=by
 obtain⟨o,d,m,ho,hd,hk,_,j⟩:=n;refine⟨o,ho,λb=>?_⟩;have e:=j b;unfold nsFind findBy at e;rw[<-Array.find?_toList]at e;unfold PySem.W.lookIn;rw[hd];dsimp only;split
 ·rename_i y q;rw[q]at e;exact aaB some e
 ·rename_i q;rw[q]at e;have a:d.toList.any (·.refKey)=false:=by rw[acO];intro y l;obtain⟨z,t,c⟩:=hk y (Array.mem_toList_iff.mp l);simp[DictEntry.refKey,c]
  have i:¬d.toList.any (·.refKey)=true:=by rw[a];exact aaG
  rw[aab i];exact aaB some e
def zK.look(I:zK h x b C c):∃od,PySem.W.InstAt h x (PySem.W.instObj C b) C (some od)/\∀a,PySem.W.lookIn a od=some (c a):=
 let⟨od,ho,d⟩:=pG I.ns
 ⟨od,⟨I.obj,8,8,ho⟩,d⟩
section
variable{prog:ZE}{w:ZH}{A:ZO}{E:ZY}{s:Zp}{K:Zs}{x dx C f:Zl}{mA:Y1}{name:Str}{v:ZI}
def JG{a:Bool}{Q:ZY}(X:K.In s.heap)(I:zK s.heap x dx C mA)(d:PySem.W.plainGet K C name=true)(e:PySem.W.hasDictIn K C=true)
 (g:PySem.W.findIn K (.ref C) name=some none)(i:mA name=some v)(b:PySem.W.handedIn v=true)(h:Q v {s with toks:=s.toks+1}):
 wpAny (model prog w) A (getAttr (.ref x) name a) Q E s:=by
 obtain⟨od,J,c⟩:=I.look;exact PySem.W.get_value X J (acP d).1 (PySem.W.findObj_own e g rfl (by rw[c,i])) b h
def E_(X:K.In s.heap)(I:zK s.heap x dx C mA)(a:PySem.W.plainGet K C name=true)
 (d:PySem.W.findIn K (.ref C) name=some (some (.ref f)))(e:PySem.W.isFn K (.ref f)=true)(g:mA name=none)(h:Q (.ref f,[.ref x]) s):
 wpAny (model prog w) A (getMethod (.ref x) name c) Q E s:=by
 obtain⟨od,J,b⟩:=I.look;exact PySem.W.method_fn X J (acP a).1 (acP a).2 d (aaX.mp e) (by show(PySem.W.lookIn name od).map (·.isSome)=some false;rw[b,g];rfl) h
def KN(X:K.In s.heap)(I:zK s.heap x dx C mA)
 (z:PySem.W.findIn K (.ref C) "__setattr__"=some (some (.builtin "object.__setattr__")))(B:PySem.W.plainOver K C=true)(D:PySem.W.takerIn K C name=some none)(F:PySem.W.hasDictIn K C=true)
 (G:PySem.Within mA m)(H:m.length<=sizeLine)
 (h:∀e,zK e x dx C (λy=>if y=name then some v else mA y)->Heap.SameBut dx s.heap e->Q () {s with heap:=e,toks:=s.toks+2}):
 wpAny (model prog w) A (setAttr (.ref x) name v) Q E s:=by
 obtain⟨od,J,L⟩:=I.look;refine PySem.W.set_plain X J z (PySem.W.osa_open (s:={s with toks:=s.toks+1}) (r:=none) X J B D λb=>?_);obtain⟨cd,o,g⟩:=PySem.W.any_some F;have n:s.heap.get? x=some ⟨.ref C,some dx,.plain,#[]⟩:=I.obj;refine aaa (aad (aaa (aaa (ab1 n (aaa (PySem.W.Looks.here (s:={s with toks:=s.toks+1}) (PySem.W.looks_clsIn X o) ?_))))));rw[g];refine aad (a:=some dx) (aaa (aad (aaa ?_)));refine wpAny_nsSet1 (s:={s with toks:=s.toks+1}) I.ns λe c d=>?_;obtain⟨M,p,q,i,j,l⟩:=c.count (acQ name v G);refine aaa (wpAny_lookBehind i (by rw[j];exact pastItsLine_dict (aah l (by rw[aaz];omega))) ?_);exact aad (h _ ⟨(d.2 _ (aaC I.ne)).trans I.obj,c,I.ne⟩ d)
def wX(X:K.In s.heap)(c:PySem.W.makesIn K C=true)
 (e:PySem.W.findIn K (.ref C) "__init__"=some (some (.ref f)))(i:PySem.W.typeIn K (.ref f)=some (.type "function"))
 (h:codeAny (model prog w) (A.under (.builtin "type.__call__" ⟨.ref C::vs,b⟩)) (.call (.ref f) ⟨.ref 002::vs,b⟩) (PySem.W.InitBack 002 R) {s with heap:=(s.heap.push PySem.W.emptyDict).push (PySem.W.instObj C s.heap.objs.size)}):
 codeAny (model prog w) A (.call (.ref C) ⟨vs,b⟩) R s:=by
 obtain⟨j,g,d,t,l⟩:=s;exact PySem.W.make_core (PySem.W.makes_of X c) (PySem.W.looks_findIn X e) (λa=>PySem.W.bind_fn X a i) 012 h
end
noncomputable def fX(f:Str)(v:V):List (Str×V)->List (Str×V)
 |[]=>[(f,v)]
 |(g,x)::r=>if g=f then(g,v)::r else(g,x)::fX f v r
theorem ik(f g:Str)(v:V):∀fs:List (Str×V),(fX f v fs).lookup g=if g=f then some v else fs.lookup g
 | []=>by
   show List.lookup g [(f,v)]=_;by_cases h:g=f
   ·have a:(g==f)=true:=aaX.mpr h;simp only[List.lookup,a,aac h]
   ·have a:(g==f)=false:=abz.mpr h;simp only[List.lookup,a,aab h]
 | (k,x)::r=>by
   have b:=ik f g v r;rw[show fX f v ((k,x)::r)=(if k=f then(k,v)::r else(k,x)::fX f v r)from rfl];by_cases hk:k=f
   ·rw[aac hk];by_cases h:g=k
    ·have a:(g==k)=true:=aaX.mpr h;simp only[List.lookup,a,aac (h.trans hk)]
    ·have a:(g==k)=false:=abz.mpr h;simp only[List.lookup,a,aab (λe:g=f=>h (e.trans hk.symm))]
   ·rw[aab hk];by_cases h:g=k
    ·have a:(g==k)=true:=aaX.mpr h;simp only[List.lookup,a,aab (λe:g=f=>hk (h.symm.trans e))]
    ·have a:(g==k)=false:=abz.mpr h;simp only[List.lookup,a];exact b
theorem lG(f:Str)(v:V):∀fs:List (Str×V),f∈(fX f v fs).map (·.1)/\∀g,g∈fs.map (·.1)->g∈(fX f v fs).map (·.1)
 |[]=>⟨by simp[fX],λg h=>by simp at h⟩
 | (k,x)::r=>by
   obtain⟨a,b⟩:=lG f v r;rw[show fX f v ((k,x)::r)=(if k=f then(k,v)::r else(k,x)::fX f v r)from rfl];by_cases hk:k=f
   ·rw[aac hk];subst hk;exact⟨04,λg h=>by simpa using h⟩
   ·rw[aab hk];refine⟨?_,λg h=>?_⟩
    ·rw[aay];exact aai _ a
    ·rw[aay]at h|-;rcases aag.mp h with e|e
     ·exact aag.mpr (.inl e)
     ·exact aai _ (b g e)
theorem p_(f:Str)(v:V):∀fs:List (Str×V),(fX f v fs).length<=fs.length+1
 |[]=>by simp[fX]
 | (k,x)::r=>by
   have a:=p_ f v r;rw[show fX f v ((k,x)::r)=(if k=f then(k,v)::r else(k,x)::fX f v r)from rfl];by_cases hk:k=f
   ·rw[aac hk,aaz,aaz];omega
   ·rw[aab hk,aaz,aaz];omega
theorem lR.some_of(r:lR (some v) o):∃u,o=some u/\RelV v u:=by
 cases o with
 |none=>exact(show False from r).elim
 |some u=>exact⟨u,8,r⟩
theorem lR.none_of(r:lR none o):o=none:=by
 cases o with
 |none=>rfl
 |some u=>exact(show False from r).elim
theorem uq(r:RelV v u):PySem.W.handedIn u=true:=by
 cases v with
 |non=>cases(show u=Value.none from r);rfl
 |bl b=>cases(show u=Value.bool b from r);rfl
 |int i=>obtain⟨t,e⟩:=(show∃t,u=Value.int i t from r);cases e;rfl
 |str x=>obtain⟨t,e⟩:=(show∃t,u=Value.str x t from r);cases e;rfl
 |byt b=>obtain⟨t,e⟩:=(show∃t,u=Value.bytes b t from r);cases e;rfl
 |flt b=>obtain⟨t,e⟩:=(show∃t,u=Value.float b t from r);cases e;rfl
 |ref a=>cases(show u=Value.ref a from r);rfl
 |ty n=>cases(show u=Value.type n from r);rfl
noncomputable def vQ(c:my P w H h)(e:H a=some (.ins C i fs)):∃b,zK h a i C b/\(∀f,lR (fs.lookup f) (b f))/\PySem.Within b 000/\fs.length<=1000/\H i=some (.own a):=by obtain⟨d,z,ne,g,b,n,r,q⟩:=(show gq P w H h a (.ins C i fs)from c a _ e);exact⟨b,⟨g,n,ne⟩,r,q,z,d⟩
structure uC(K:Zs)(C:Zl):Prop where
 pg:PySem.W.plainGet K C Str.empty=true
 hd:PySem.W.hasDictIn K C=true
 po:PySem.W.plainOver K C=true
 sa:PySem.W.findIn K (.ref C) "__setattr__"=some (some (.builtin "object.__setattr__"))
def uC.get{K:Zs}{C:Zl}(c:uC K C)(f:Str):PySem.W.plainGet K C f=true:=c.pg
def eH(K:Zs)(C:Zl)(f:Str):Prop:=PySem.W.findIn K (.ref C) f=some none
def eH.taker{K:Zs}{C:Zl}{f:Str}(n:eH K C f):PySem.W.takerIn K C f=some none:=by unfold PySem.W.takerIn;rw[show PySem.W.findIn K (.ref C) f=some none from n];rfl
structure Meth(K:Zs)(C:Zl)(m:Str)(f:Zl):Prop where
 at_:PySem.W.findIn K (.ref C) m=some (some (.ref f))
 fn:PySem.W.isFn K (.ref f)=true
 kp:PySem.W.keepIn K (.ref f)=true
section
variable{X:Cx}{dD:YN}{σ:St}{H:Hp}{s:Zp}{a C dx:Zl}{fs:List (Str×V)}{f:Str}{v:V}{A:ZO}{E:ZY}
def rY(I:Inv X dD σ H s)(e:H a=some (.ins C dx fs))(c:uC X.K C)(n:eH X.K C f)(l:fs.lookup f=some v)
 (h:∀u d,Inv X dD σ H d->RelV v u->Q u d):wpAny 00 A (getAttr (.ref a) f b) Q E s:=by
 obtain⟨i,O,r,_,_,_⟩:=vQ I.hok e;obtain⟨u,j,g⟩:=lR.some_of (v:=v) (o:=i f) (by rw[<-l];exact r f);exact JG I.kIn O (c.get f) c.hd n j (uq g) (h u _ (I.tok _) g)
def lX(I:Inv X dD σ H s)(e:H a=some (.ins C dx fs))(c:uC X.K C)(k:Meth X.K C m g)(l:fs.lookup m=none)
 (h:Q (.ref g,[.ref a]) s):wpAny 00 A (getMethod (.ref a) m i) Q E s:=by
 obtain⟨d,O,r,_,_,_⟩:=vQ I.hok e;have b:d m=none:=lR.none_of (by rw[<-l];exact r m);exact E_ I.kIn O (c.get m) k.at_ k.fn b h
def qy(I:Inv X dD σ H s)(e:H a=some (.ins C dx fs))(c:uC X.K C)(n:eH X.K C f)(J:fs.length<1000)(G:RelV y u)
 (h:∀i,Inv X dD σ (upd H a (.ins C dx (fX f y fs))) i->Q () i):wpAny 00 A (setAttr (.ref a) f u) Q E s:=by
 obtain⟨j,O,r,l,_,ho⟩:=vQ I.hok e;have D:(fs.map (·.1)).length<=sizeLine:=by rw[aaf,sizeLine_eq];omega
 refine KN I.kIn O c.sa c.po n.taker c.hd l D λm d p=>h _ ?_;have hd:∃o,m.get? dx=some o:=let⟨o,_,_,F,_⟩:=d.ns;⟨o,F⟩
 refine I.write (x:=a) (e:=dx) (by rw[e];exact aaJ) (.inr ho) (λb q w z=>(p.2 b w).trans z) hd ?_;refine⟨by rw[b8 O.ne];exact ho,?_,O.ne,d.obj,_,d.ns,λg=>?_,λg B=>?_⟩
 ·have:=p_ f y fs;omega
 ·show lR ((fX f y fs).lookup g) (if g=f then some u else j g);rw[ik];by_cases q:g=f
  ·rw[aac q,aac q];exact G
  ·rw[aab q,aab q];exact r g
 ·by_cases q:g=f
  ·rw[q];exact(lG f y fs).1
  ·refine(lG f y fs).2 g (l g λz=>B ?_);show(if g=f then some u else j g)=none;rw[aab q];exact z
def Inv.made(I:Inv X dD σ H s):Inv X dD σ (upd (upd H s.heap.objs.size (.own 002)) 002 (.ins C s.heap.objs.size []))
 {s with heap:=(s.heap.push PySem.W.emptyDict).push (PySem.W.instObj C s.heap.objs.size)}:=by
 have c:(s.heap.push PySem.W.emptyDict).get? s.heap.objs.size=some PySem.W.emptyDict:=aav s.heap rfl;have h:((s.heap.push PySem.W.emptyDict).push (PySem.W.instObj C s.heap.objs.size)).get? 002=some (PySem.W.instObj C s.heap.objs.size):=by
  have:=aav (s.heap.push PySem.W.emptyDict) (o:=PySem.W.instObj C s.heap.objs.size) rfl
  rwa [aaY]at this
 have i:(s.heap.push PySem.W.emptyDict).Ns s.heap.objs.size (λ_=>none):=⟨PySem.W.emptyDict,#[],_,c,8,(λe d=>absurd d 04),λ_=>rfl⟩;have j:=I.laid (a:=s.heap.objs.size) (o:=.own 002) (h':=s.heap.push PySem.W.emptyDict) (t':=s.toks) (λb u q=>aaj _ q) 014 ⟨_,c⟩;refine j.laid (a:=s.heap.objs.size+1) (o:=.ins C s.heap.objs.size []) (t':=s.toks) (λb u q=>aaj _ q) (abB (aaY _ _)) ?_;have ne:s.heap.objs.size≠s.heap.objs.size+1:=aar (acn _);refine ⟨by rw [b8 ne,a_],aaU _,ne,h,λ_=>none,(acR i).at λo q=>aaj _ q,λ_=>aaJ,λy g=>absurd rfl g⟩
def BV(g:attributeBase e f env (eval e env)=eval e env)
 (h:wpAny (model b w) A (eval e env) (λo c=>wpAny (model b w) A (getAttr o f true) Q E c) E s):wpAny (model b w) A (eval (.Attribute e f d) env) Q E s:=
 Attribute_any_ h (by rw[arm_eval_Attribute,g])
end
def K3(K:Zs)(e:TE)(f:Str):TE:=λc H Q=>e c H λx b=>∃a C d fs v,x=.ref a/\b a=some (.ins C d fs)/\uC K C/\eH K C f/\fs.lookup f=some v/\Q v b
def Zi(K:Zs)(g h:TE)(f:Str):TS:=λD b H=>h b H λy e=>g b e λx c=>∃a C d fs,x=.ref a/\c a=some (.ins C d fs)/\uC K C/\eH K C f/\fs.length<1000/\
 D.nx b (upd c a (.ins C d (fX f y fs)))
def Wq(X:Cx)(op:Operator)(c:V->V->Hp->VK->Prop):Prop:=
 ∀(a:YN)(s:Zp)(b:St)(H:Hp)(x y:V)(u v:ZI)(Q:VK),Inv X a b H s->RelV x u->RelV y v->c x y H Q->wpAny 00 X.A (inplaceOp op u v) (EP X a b Q) X.xe s
def Lq(K:Zs)(j l:TE)(m:V->V->Hp->VK->Prop)(f:Str):TS:=λD d H=>j d H λx e=>∃a C i fs v,x=.ref a/\e a=some (.ins C i fs)/\uC K C/\eH K C f/\fs.lookup f=some v/\
 l d e λy h=>m v y h λz g=>∃c b,g a=some (.ins C c b)/\b.length<1000/\D.nx d (upd g a (.ins C c (fX f z b)))
noncomputable def cU{X:Cx}(y:PE X e F)(z:attributeBase e f X.env (eval e X.env)=eval e X.env):PE X (.Attribute e f o) (K3 X.K F f):=by intro b s w H Q I h;refine BV z (fQ (y b s w H _ I h) λu A⟨x,d,g,i,a,C,B,fs,v,j,m,c,n,l,q⟩=>?_);subst j;obtain rfl:u=Value.ref a:=i;exact rY g m c n l λD E p r=>⟨v,d,p,r,q⟩
noncomputable def dz{X:Cx}{N:Pos}(B:PE X o Q)(E:PE X e P)(F:swapsWith e (some (.Attribute o f O)) N.line X.env=pure false):PS X (.Assign [.Attribute o f O] e N) (Zi X.K Q P f):=by intro b s d H D I h;refine plainObj_wpAny_Assign_Attribute (fQ (E b s d H _ I h) λu g⟨y,i,j,m,q⟩=>fQ (B b g d i _ j q) λp G⟨x,J,r,v,a,C,L,fs,w,z,c,n,l,q2⟩=>?_) F;subst w;obtain rfl:p=Value.ref a:=v;exact qy r z c n l m λM A=>⟨d,_,A,q2⟩
noncomputable def jT{X:Cx}{op:Operator}{j:V->V->Hp->VK->Prop}(Z:PE X o ta)(hv:PE X e tv)(i:Wq X op j):PS X (.AugAssign (.Attribute o f tpos) op e pos) (Lq X.K ta tv j f):=by intro b s d H D I h;refine wpAny_AugAssign_AttributeAny (fQ (Z b s d H _ I h) λm s1⟨x,p,r,w,a,C,dx,fs,v,A,B,c,n,l,q⟩=>?_);subst A;obtain rfl:m=Value.ref a:=w;refine rY r B c n l λu E F G=>fQ (hv b E d p _ F q) λJ L⟨y,M,N,O,P⟩=>fQ (i b L d M v y u J _ N G O P) λw4 s4⟨z,H3,Q,R,S,T,g,U,W⟩=>?_;exact qy Q g c n U R λs5 Y=>⟨d,_,Y,W⟩
def Y6:V->V->Hp->VK->Prop:=λx y H Q=>∃i j,x=.int i/\y=.int j/\Q (.int (i+j)) H
noncomputable def pF:Wq X .Add Y6:=by rintro b s g H x y u v Q I c d⟨i,j,rfl,rfl,q⟩;obtain⟨t,rfl⟩:=(show∃t,u=Value.int i t from c);obtain⟨a,rfl⟩:=(show∃a,v=Value.int j a from d);exact PyProof.Rows.iadd_int ⟨.int (i+j),H,I.tok _,⟨9⟩,q⟩
def O1{X:Cx}{v:Sem Bool}{m:Str}{d:Pos}{b:YU}{i:YN}{s:Zp}{p:St}{H:Hp}{Q:ZY}{A:TE}(F:PE X e A)(I:Inv X i p H s)
 (h:A p H λx r=>∃a C y fs g,x=.ref a/\r a=some (.ins C y fs)/\uC X.K C/\Meth X.K C m g/\fs.lookup m=none/\∀n,Inv X i p r n->wpAny 00 X.A (callWith o (.ref g) [.ref a] (backTo o (starEach b X.env)) (backToKw o (keywordEach [] X.env))) Q X.xe n)
 (G:eval (.Call (.Attribute e m d) b [] o) X.env=(do
  let z<-eval e X.env
  standAt d.atName
  let(f,j)<-holding [z] (getMethod z m v)
  callWith o f j (backTo o (starEach b X.env)) (backToKw o (keywordEach [] X.env)))):
 wpAny 00 X.A (eval (.Call (.Attribute e m d) b [] o) X.env) Q X.xe s:=by
 refine aco (pl:=v) (fQ (F i s p H _ I h) λu n⟨x,r,w,B,a,C,y,fs,g,D,E,c,k,l,q⟩=>?_) G;subst D;obtain rfl:u=Value.ref a:=B;exact lX w E c k l (q n w)
structure dX(k:Nat)(A:ZO):Prop where
 hd:A.handled=none
 dp:A.depth+3*k+5<recursionLimit
 un:A.units+16*k+200<cLine
 gd:A.guards=some []
def dX.mono(r:dX k A)(h:j<=k):dX j A:=⟨r.hd,by have:=r.dp;omega,by have:=r.un;omega,r.gd⟩
def dX.deeper(r:dX (k+1) A)(env:Env):dX k (A.deeper env):=
 ⟨r.hd,by have:=r.dp;show A.depth+1+3*k+5<_;omega,by have:=r.un;show A.units+3+16*k+200<_;omega,r.gd⟩
noncomputable def Ay{A:ZO}:(A.under (.builtin "type.__call__" ⟨.ref C::a,b⟩)).depth=A.depth+1:=by first|rfl|simp[Around.under,Code.weight,Code.isCreation,Code.isGuard,Code.isCaller,Code.frames,Code.isFrame,guardIds]
def yU{A:ZO}:(A.under (.builtin "type.__call__" ⟨.ref C::a,b⟩)).units=A.units+1:=by first|rfl|simp[Around.under,Code.cUnits,Code.frames,Code.isFrame]
def dX.make(r:dX (k+1) A)(C:Zl)(a:Y3)(b:List (Str×Value)):dX k (A.under (.builtin "type.__call__" ⟨.ref C::a,b⟩)):=
 ⟨r.hd,by have:=r.dp;rw[Ay];omega,by have:=r.un;rw[yU];omega,by have:=r.gd;first|exact this|(simpa[Around.under]using this)⟩
def dX.depth(r:dX k A):A.depth<recursionLimit:=by have:=r.dp;omega
def dX.units(r:dX k A):A.units+64<cLine:=by have:=r.un;omega
def wj:TA:=λ_ H Q=>Q [] H
def pq(e:TE)(tr:TA):TA:=λa H Q=>e a H λx b=>tr a b λc d=>Q (x::c) d
def b_:PA X [] wj:=λ_ _ _ _ H Q I h=>acS ⟨[],H,I,.nil,h⟩
noncomputable def aK{X:Cx}(m:PE X e v)(n:PA X r t)(o:starEach (e::r) X.env=(false,eval e X.env)::starEach r X.env:=by rfl):PA X (e::r) (pq v t):=by intro b a s c H Q I h;rw[o];show wpAny _ _ (spliced ((false,eval e X.env)::backTo b (starEach r X.env))) _ _ s;refine acT (fQ (m a s c H _ I h) λu d⟨x,f,g,r1,q1⟩=>?_);exact fQ (n b a d c f _ g q1) λp q⟨i,j,l,r2,q2⟩=>⟨x::i,j,l,.cons r1 r2,q2⟩
def Yk(t:TA):TE:=λc H Q=>t c H λa b=>a.length<=sizeLine/\∀p,b p=none->Q (.ref p) (upd b p (.tup a))
def YZ(t:TA):TE:=λc H Q=>t c H λa b=>a.length<=sizeLine/\∀p,b p=none->Q (.ref p) (upd b p (.lst a))
noncomputable def gF{x1}(h:PA X o t):PE X (.Tuple o x1 n) (Yk t):=by intro a s l H Q I m;refine wpAny_Tuple_spliced (fQ (h n a s l H _ I m) λg c⟨i,d,f,r,z,q⟩=>⟨by rw[<-r.length];exact z,?_⟩);have j:d c.heap.objs.size=none:=f.hok.fresh 014;refine⟨.ref c.heap.objs.size,upd d c.heap.objs.size (.tup i),f.laid (t':=c.toks) (λb u e=>aaj _ e) 014 ?_,8,q _ j⟩;exact⟨z,g,r,⟨_,aav _ rfl,8,9⟩⟩
noncomputable def gQ(h:PA X o t):PE X (.List o n) (YZ t):=by intro a s l H Q I m;refine wpAny_List_spliced (fQ (h n a s l H _ I m) λg c⟨i,d,f,r,z,q⟩=>⟨by rw[<-r.length];exact z,?_⟩);have j:d c.heap.objs.size=none:=f.hok.fresh 014;refine⟨.ref c.heap.objs.size,upd d c.heap.objs.size (.lst i),f.laid (t':=c.toks) (λb u e=>aaj _ e) 014 ?_,8,q _ j⟩;exact⟨z,g,0,r,aav _ rfl⟩
abbrev Sp:=List V->Hp->VK->XK->Prop
abbrev wQ:=List Env->Hp->Shared->XK->Value->Shared->Prop
structure vh(P:ZE)(w:ZH)(K:Zs)(mg:Y1)(base:ZN)(A:ZO)(outer:List Env)(s:Zp)(H:Hp):Prop where
 frames:A.frames=some outer
 mod:Mod K mg base
 bs:∀b o,base.get? b=some o->s.heap.get? b=some o/\H b=none
 bsz:base.objs.size<=s.heap.objs.size
 funs:s.heap.FunFrames base outer
 frf:∀b∈frs outer,H b=none
 hok:my P w H s.heap
 bare:AllBare s.gens
def CE(a:List Env)(P:ZE)(w:ZH)(H:Hp)(s:Zp)(Q:VK)(u:ZI)(b:Zp):Prop:=
 ∃v c,b.os=s.os/\AllBare b.gens/\Un (frs a) [] H c s.heap b.heap/\my P w c b.heap/\RelV v u/\Q v c
def CR(c:wQ)(a:List Env)(P:ZE)(w:ZH)(H:Hp)(s:Zp)(Q:VK)(E:XK)(r:Result)(b:Zp):Prop:=
 match r with
 |.ok (.ret u)=>CE a P w H s Q u b
 |.ok _=>False
 |.error e=>c a H s E e b
structure cz(P:ZE)(w:ZH)(K:Zs)(mg:Y1)(base:ZN)(CX:wQ)(k:Nat)(f:Zl)(fd:ZB)(ps:Y2)(sp:Sp):Prop where
 len:∀vs H Q E,sp vs H Q E->vs.length=ps.length
 run:∀(A:ZO)(outer:List Env)(s:Zp)(H:Hp)(args:Args)(us:Y3)(vs:List V)(Q:VK)(E:XK),dX k A->vh P w K mg base A outer s H->BindsTo s fd args (ps.zip us)->Vals vs us->sp vs H Q E->
  codeAny (model P w) A (.call (.ref f) args) (CR CX outer P w H s Q E) s
def vh.make{P:ZE}{w:ZH}{K:Zs}{c:Y1}{b:ZN}{A:ZO}{a:List Env}{s:Zp}{H:Hp}(e:vh P w K c b A a s H)(C:Zl)(d:Y3)(f:List (Str×Value)):
 vh P w K c b (A.under (.builtin "type.__call__" ⟨.ref C::d,f⟩)) a s H:=⟨by first|exact e.frames|(simpa[Around.under,Code.envs,Code.isFrame,pushEnvs]using e.frames),e.mod,e.bs,e.bsz,e.funs,e.frf,e.hok,e.bare⟩
def Inv.env0(I:Inv X a b H s):vh X.prog X.w X.K X.mg X.base X.A X.stack s H:=
 ⟨I.ok.frames,I.ok.mod,I.bs,aah I.ok.bsz I.sz,I.stack,I.stkFree,I.hok,I.bare⟩
noncomputable def Inv.after(I:Inv X l n H s)(h:CE X.stack X.prog X.w H s Q u m):EP X l n Q u m:=by obtain⟨v,f,i,a,un,c,r,q⟩:=h;obtain⟨j,g,d,t,e⟩:=m;obtain rfl:e=s.os:=i;exact⟨v,f,I.call (h':=j) (g':=g) (d':=d) (t':=t) (ch:=[]) un c a (λb z=>absurd z 04),r,q⟩
def Bf(d:Sp)(a:List V)(E:XK)(t:TA):TE:=λb H Q=>t b H λvs c=>d (vs++a) c Q E
def Bs(C:Zl)(m:Str)(g:Sp)(b:List V)(E:XK)(h:TE)(t:TA):TE:=λc H Q=>h c H λx d=>∃a f fs,x=.ref a/\d a=some (.ins C f fs)/\fs.lookup m=none/\
 t c d λvs e=>g (x::(vs++b)) e Q E
def Ob(C:Zl)(f:Sp)(c:List V)(E:XK)(t:TA):TE:=λd H Q=>t d H λvs b=>∀x a,b x=none->b a=none->a≠x->
 f (.ref x::(vs++c)) (upd (upd b a (.own x)) x (.ins C a [])) (λv e=>v=.non/\Q (.ref x) e) E
def Binds(K:Zs)(d:ZB)(b:Y2)(c:Y3):Prop:=
 ∀(s:Zp)(a:Y3),K.In s.heap->(a++c).length=b.length->BindsTo s d ⟨a,[]⟩ (b.zip (a++c))
def Binds.all{K:Zs}{d:ZB}{b:Y2}(h:∀a:List Value,a.length=b.length->bindArgs d ⟨a,[]⟩=pure (b.zip a)):Binds K d b []:=λs a _ c=>by rw[aa0]at c|-;exact .of_eq (h a c)
def iz(d:wQ)(X:Cx)(E:XK):Prop:=∀(a:YN)(c:St)(H:Hp)(s:Zp)(e:ZI)(b:Zp),Inv X a c H s->d X.stack H s E e b->X.xe e b
section
variable{X:Cx}{CX:wQ}{k:Nat}{f C:Zl}{fd:ZB}{ps:Y2}{sp:Sp}{dvs:List V}{ds:Y3}{E:XK}{x m:Str}{p pos apos:Pos}{e o:ZT}{es:YU}{ta:TE}{t:TA}
theorem rA(F:cz X.prog X.w X.K X.mg X.base CX k f fd ps sp)(j:dX k X.A)(l:Binds X.K fd ps ds)(hd:Vals dvs ds)(n:iz CX X E)
 (I:Inv X a c H s)(r:Vals vs us)(h:sp (vs++dvs) H Q E):wpAny 00 X.A (call (.ref f) us) (EP X a c Q) X.xe s:=by
 have r2:Vals (vs++dvs) (us++ds):=r.append hd;have g:(us++ds).length=ps.length:=by rw[<-r2.length];exact F.len _ _ _ _ h
 refine abc (codeAny_mono (F.run X.A X.stack s H ⟨us,[]⟩ (us++ds) (vs++dvs) Q E j I.env0 (l s us I.kIn g) r2 h) λr d b=>?_);cases r with
 |error e=>exact n a c H s e d I b
 | ok i=>
   cases i with
   |ret u=>exact I.after b
   |next=>exact False.elim b
   |brk=>exact False.elim b
   |cont=>exact False.elim b
noncomputable def gf(F:cz X.prog X.w X.K X.mg X.base CX k f fd ps sp)(i:dX k X.A)(j:Gl X x)(l:X.mg x=some (.ref f))(hk:PySem.W.keepIn X.K (.ref f)=true)(n:Binds X.K fd ps ds)(hd:Vals dvs ds)(v:iz CX X E)
 (w:PA X (e::es) t)(b:(x==("__debug__":Str))=false:=by decide)(y:starEach (e::es) X.env=(false,eval e X.env)::starEach es X.env:=by rfl)(c:(backTo pos (starEach es X.env)).any (·.1)=false:=by rfl):
 PE X (.Call (.Name x p) (e::es) [] pos) (Bf sp dvs E t):=by
 intro a s g H Q I h;refine aa3 (kO I j l ?_ b);refine acU (h₀:=X.base) I.ok.mod.kin hk (fQ (w pos a s g H _ I h) λz A⟨vs,B,d,r,q⟩=>⟨d.kIn,?_⟩) y c;exact rA F i n hd v d r q
noncomputable def eV{g:Sem Bool}(M:PE X o ta)(c:uC X.K C)(A:Meth X.K C m f)(F:cz X.prog X.w X.K X.mg X.base CX k f fd ps sp)(N:dX k X.A)(O:Binds X.K fd ps ds)(hd:Vals dvs ds)(P:iz CX X E)(R:PA X (e::es) t)
 (i:starEach (e::es) X.env=(false,eval e X.env)::starEach es X.env:=by rfl)(j:(backTo pos (starEach es X.env)).any (·.1)=false:=by rfl)
 (S:eval (.Call (.Attribute o m apos) (e::es) [] pos) X.env=(do
  let y<-eval o X.env
  standAt apos.atName
  let(f,b)<-holding [y] (getMethod y m g)
  callWith pos f b (backTo pos (starEach (e::es) X.env)) (backToKw pos (keywordEach [] X.env))):=by rfl):
 PE X (.Call (.Attribute o m apos) (e::es) [] pos) (Bs C m sp dvs E ta t):=by
 intro d s z H Q I h;refine aco (pl:=g) (fQ (M d s z H _ I h) λu B⟨x,D,n,G,a,T,fs,J,L,l,q⟩=>?_) S;subst J;obtain rfl:u=Value.ref a:=G;refine lX n L c A l ?_;refine acU (first:=[.ref a]) (h₀:=X.base) I.ok.mod.kin A.kp (fQ (R pos d B z D _ n q) λv U⟨vs,W,w,r,q2⟩=>⟨w.kIn,?_⟩) i j;exact rA (us:=.ref a::v) (vs:=.ref a::vs) F N O hd P w (.cons rfl r) q2
noncomputable def eG{i:Sem Bool}(z:PE X o ta)(c:uC X.K C)(n:Meth X.K C m f)(F:cz X.prog X.w X.K X.mg X.base CX k f fd ps sp)(A:dX k X.A)(B:Binds X.K fd ps ds)(hd:Vals dvs ds)(D:iz CX X E)
 (G:eval (.Call (.Attribute o m apos) [] [] pos) X.env=(do
  let j<-eval o X.env
  standAt apos.atName
  let(f,b)<-holding [j] (getMethod j m i)
  callWith pos f b (backTo pos (starEach [] X.env)) (backToKw pos (keywordEach [] X.env))):=by rfl):
 PE X (.Call (.Attribute o m apos) [] [] pos) (Bs C m sp dvs E ta wj):=by
 intro d s y H Q I h;refine aco (pl:=i) (fQ (z d s y H _ I h) λu J⟨x,L,g,r,a,M,fs,v,w,l,q⟩=>?_) G;subst v;obtain rfl:u=Value.ref a:=r;refine lX g w c n l ?_;exact PySem.W.callWith_K0 (first:=[.ref a]) g.kIn n.kp (rA (us:=[.ref a]) (vs:=[.ref a]) F A B hd D g (.cons rfl .nil) q)
structure Mk(K:Zs)(C f:Zl):Prop where
 makes:PySem.W.makesIn K C=true
 init:PySem.W.findIn K (.ref C) "__init__"=some (some (.ref f))
 fn:PySem.W.isFn K (.ref f)=true
 kp:PySem.W.keepIn K (.ref C)=true
theorem yE(M:Mk X.K C f)(F:cz X.prog X.w X.K X.mg X.base CX k f fd ps sp)(D:dX (k+1) X.A)(G:Binds X.K fd ps ds)(hd:Vals dvs ds)
 (J:iz CX X E)(I:Inv X b g H s)(r:Vals vs us)
 (h:∀x c,H x=none->H c=none->c≠x->sp (.ref x::(vs++dvs)) (upd (upd H c (.own x)) x (.ins C c [])) (λv j=>v=.non/\Q (.ref x) j) E):
 wpAny 00 X.A (call (.ref C) us) (EP X b g Q) X.xe s:=by
 have i:=h 002 s.heap.objs.size (I.hok.fresh (abd _)) (I.hok.fresh 014) (aar (acn _));have d:=Inv.made (C:=C) I;have r2:Vals (V.ref 002::(vs++dvs)) (Value.ref 002::(us++ds)):=.cons rfl (r.append hd);have n:(Value.ref 002::us++ds).length=ps.length:=by have e:=r2.length;rw[F.len _ _ _ _ i]at e;exact e.symm
 refine abc (wX (f:=f) I.kIn M.makes M.init (aaX.mp M.fn) (codeAny_mono (F.run _ X.stack _ _ ⟨Value.ref 002::us,[]⟩ (Value.ref 002::(us++ds)) _ _ E (D.make C us []) (d.env0.make C us []) (G _ (Value.ref 002::us) d.kIn n) r2 i) λr l a=>?_));cases r with
 |error e=>exact J b g _ _ e l d a
 | ok B=>
   cases B with
   | ret u=>obtain⟨v,q,w,y,z,A⟩:=d.after a;subst z;exact⟨y,⟨V.ref 002,q,w,8,A⟩⟩
   |next=>exact False.elim a
   |brk=>exact False.elim a
   |cont=>exact False.elim a
def kW(M:Mk X.K C f)(F:cz X.prog X.w X.K X.mg X.base CX k f fd ps sp)(i:dX (k+1) X.A)(j:Gl X x)(l:X.mg x=some (.ref C))(n:Binds X.K fd ps ds)(hd:Vals dvs ds)(v:iz CX X E)
 (w:PA X (e::es) t)(b:(x==("__debug__":Str))=false:=by decide)(y:starEach (e::es) X.env=(false,eval e X.env)::starEach es X.env:=by rfl)(c:(backTo pos (starEach es X.env)).any (·.1)=false:=by rfl):
 PE X (.Call (.Name x p) (e::es) [] pos) (Ob C sp dvs E t):=by
 intro a s g H Q I h;refine aa3 (kO I j l ?_ b);refine acU (h₀:=X.base) I.ok.mod.kin M.kp (fQ (w pos a s g H _ I h) λz A⟨vs,B,d,r,q⟩=>⟨d.kIn,?_⟩) y c;exact yE M F i n hd v d r q
def rR(M:Mk X.K C f)(F:cz X.prog X.w X.K X.mg X.base CX k f fd ps sp)(c:dX (k+1) X.A)(d:Gl X x)(g:X.mg x=some (.ref C))(i:Binds X.K fd ps ds)(hd:Vals dvs ds)(j:iz CX X E)
 (a:(x==("__debug__":Str))=false:=by decide):PE X (.Call (.Name x p) [] [] pos) (Ob C sp dvs E wj):=by
 intro b s l H Q I h;refine aa3 (kO I d g ?_ a);exact PySem.W.callWith_K0 I.kIn M.kp (yE (us:=[]) M F c i hd j I .nil h)
end
def PK(X:Cx)(d:List Keyword)(t:TA):Prop:=
 ∀(b:Pos)(a:YN)(s:Zp)(c:St)(H:Hp)(Q:List V->Hp->Prop),Inv X a c H s->t c H Q->wpAny 00 X.A (evalAll ((backToKw b (keywordEach d X.env)).map (·.2))) (AP X a c Q) X.xe s
section
variable{X:Cx}{CX:wQ}{k:Nat}{f C:Zl}{fd:ZB}{ps ks:Y2}{sp:Sp}{E:XK}{x m:Str}{p pos apos kpos:Pos}{e o:ZT}{es:YU}{kws:List Keyword}{te ta:TE}{t tk:TA}{nm:Option Str}
def wz:PK X [] wj:=λ_ _ _ _ H Q I h=>wpAny_evalAll_nil ⟨[],H,I,.nil,h⟩
noncomputable def jN(q:PE X e te)(r:PK X kws t):PK X (⟨nm,e,kpos⟩::kws) (pq te t):=by intro b a s c H Q I h;show wpAny _ _ (evalAll ((do let v<-eval e X.env;standAt b;pure v)::(backToKw b (keywordEach kws X.env)).map (·.2))) _ _ s;refine wpAny_evalAll_cons (aaa (fQ (q a s c H _ I h) λu d⟨x,g,i,r1,q1⟩=>aaa (aa4 (aad ?_))));exact fQ (r b a d c g _ i q1) λw y⟨j,l,n,r2,q2⟩=>⟨x::j,l,n,.cons r1 r2,q2⟩
structure kh(K:Zs)(fd:ZB)(ps ks:Y2)(g:List Value->List Value->List Value)(gV:List V->List V->List V):Prop where
 to:∀(s:Zp)(us ws:Y3),K.In s.heap->(g us ws).length=ps.length->BindsTo s fd ⟨us,ks.zip ws⟩ (ps.zip (g us ws))
 rel:∀{vs:List V}{us:Y3}{zs:List V}{ws:Y3},Vals vs us->Vals zs ws->Vals (gV vs zs) (g us ws)
theorem Mu(F:cz X.prog X.w X.K X.mg X.base CX k f fd ps sp)(v:dX k X.A)(j:kh X.K fd ps ks g z)(w:iz CX X E)
 (I:Inv X a d H s)(r:Vals vs us)(y:Vals i b)(h:sp (z vs i) H Q E):wpAny 00 X.A (call (.ref f) us (ks.zip b)) (EP X a d Q) X.xe s:=by
 have r2:=j.rel r y;have n:(g us b).length=ps.length:=by rw[<-r2.length];exact F.len _ _ _ _ h
 refine abc (codeAny_mono (F.run X.A X.stack s H ⟨us,ks.zip b⟩ (g us b) (z vs i) Q E v I.env0 (j.to s us b I.kIn n) r2 h) λr l c=>?_);cases r with
 |error e=>exact w a d H s e l I c
 | ok q=>
   cases q with
   |ret u=>exact I.after c
   |next=>exact False.elim c
   |brk=>exact False.elim c
   |cont=>exact False.elim c
end
structure cI(N P:Y2)(sc:ZU):Prop where
 kind:sc.kind=.function
 co:sc.isCoroutine=false
 gen:sc.isGenerator=false
 nd:N.Nodup
 pre:N.take P.length=P
 par:∀x∈P,sc.names.lookup x=some .local\/sc.names.lookup x=some .cell
 nofree:∀y∈sc.names,y.2≠.free
theorem uU{a:Str->Option NameKind}{x:Str}:∀{binds:List (Str×Value)}{m:Y1},(∀v,(x,v)∉binds)->bindL a binds m x=m x
 |[],_,_=>rfl
 | (n,v)::r,m,h=>by
   unfold bindL;rw[uU λw b=>h w (aai _ b)];split
   ·have:x≠n:=by rintro rfl;exact h v aan
    simp[this]
   ·rfl
theorem uv{a:Str->Option NameKind}{x:Str}:∀{binds:List (Str×Value)}{m:Y1},(∀v,(x,v)∉binds)->bindC a binds m x=m x
 |[],_,_=>rfl
 | (n,v)::r,m,h=>by
   unfold bindC;rw[uv λw b=>h w (aai _ b)];split
   ·rfl
   ·have:x≠n:=by rintro rfl;exact h v aan
    simp[this]
theorem uz{a:Str->Option NameKind}:∀{P:Y2}{vs:Y3}{i:Nat}{m:Y1},P.Nodup->P[i]?=some x->vs[i]?=some v->a x=some .local->
 bindL a (P.zip vs) m x=some v
 |[],_,_,_,_,h,_,_=>by simp at h
 |_::_,[],_,_,_,_,h,_=>by simp at h
 | p::P,w::vs,0,m,nd,h1,h2,hk=>by simp at h1 h2;subst h1;subst h2;show bindL a ((p,w)::P.zip vs) m p=_;unfold bindL;rw[uU λv b=>(aaK.mp nd).1 (abC b).1,aac hk];simp
 | p::P,w::vs,i+1,m,nd,h1,h2,hk=>by show bindL a ((p,w)::P.zip vs) m x=_;unfold bindL;exact uz (i:=i) (aaK.mp nd).2 (by simpa using h1) (by simpa using h2) hk
theorem uB{a:Str->Option NameKind}:∀{P:Y2}{vs:Y3}{i:Nat}{m:Y1},P.Nodup->P[i]?=some x->vs[i]?=some v->a x≠some .local->
 bindC a (P.zip vs) m x=some v
 |[],_,_,_,_,h,_,_=>by simp at h
 |_::_,[],_,_,_,_,h,_=>by simp at h
 | p::P,w::vs,0,m,nd,h1,h2,hk=>by simp at h1 h2;subst h1;subst h2;show bindC a ((p,w)::P.zip vs) m p=_;unfold bindC;rw[uv λv b=>(aaK.mp nd).1 (abC b).1,aab hk];simp
 | p::P,w::vs,i+1,m,nd,h1,h2,hk=>by show bindC a ((p,w)::P.zip vs) m x=_;unfold bindC;exact uB (i:=i) (aaK.mp nd).2 (by simpa using h1) (by simpa using h2) hk
def start(N:Y2)(vs:List V):St:=vs.map some++List.replicate (N.length-vs.length) none
def iD(CX:wQ)(P:ZE)(w:ZH)(K:Zs)(mg:Y1)(base:ZN)(N:Y2)(qual:Str)(scope:ZU)(f:Zl)(cd:ZI)(A:ZO)(outer:List Env)(s:Zp)(H:Hp)(E:XK):Cx where
 prog:=P
 w:=w
 K:=K
 mg:=mg
 base:=base
 A:=A.deeper (envOfC qual scope s.heap.objs.size f cd)
 N:=N
 s₀:=s
 H₀:=H
 env:=envOfC qual scope s.heap.objs.size f cd
 outer:=outer
 stack:=envOfC qual scope s.heap.objs.size f cd::outer
 ex:=[]
 calm:=true
 fn:=λ_=>true
 pn:=[]
 xe:=λe s'=>wpAny (model P w) (A.deeper (envOfC qual scope s.heap.objs.size f cd)) (leaving (envOfC qual scope s.heap.objs.size f cd) e) (λ_ s''=>CX outer H s E e s'') (λe' s''=>CX outer H s E e' s'') s'
def xY{a:ZU}(h:a.names.lookup x=some .cell):∃c,(cellsFrom n a.names []).lookup x=some c:=by have q:=acV a.names n [] (.inl h);exact Option.isSome_iff_exists.mp q
def ux{CX:wQ}{P:ZE}{w:ZH}{K:Zs}{mg:Y1}{base:ZN}{N ps:Y2}{qual:Str}{scope:ZU}{f:Zl}{cd:ZI}{A:ZO}{outer:List Env}{s s1:Zp}{H:Hp}{E:XK}{us:Y3}{vs:List V}
 (S:cI N ps scope)(hd:A.handled=none)(e0:vh P w K mg base A outer s H)(hl:vs.length=ps.length)(r:Vals vs us)
 (x:InCallC s s.heap.objs.size (bindL (envOfC qual scope s.heap.objs.size f cd).kindOf (ps.zip us) λ_=>none) (cellsFrom 002 scope.names []) (bindC (envOfC qual scope s.heap.objs.size f cd).kindOf (ps.zip us) λ_=>none) s1):
 Inv (iD CX P w K mg base N qual scope f cd A outer s H E) [] (start N vs) H s1:=by
 have hpl:ps.length<=N.length:=by have:=aaB List.length S.pre;rw[aaV]at this;omega
 obtain⟨h1,tk,rfl,hk⟩:=x.done;have noA:∀b:Addr,b∉(iD CX P w K mg base N qual scope f cd A outer s H E).ex:=λb z=>absurd (show b∈([]:YI)from z) 04;refine⟨⟨e0.mod,S.kind,8,8,aae _,λy z c h1 h2=>?_,λy hy=>?_,λy c _ h=>?_,λ_=>hd,Around.frames_deeper e0.frames,.inr ⟨8,8⟩,λb z=>absurd z (noA b),e0.bs,e0.bsz,λb _ _=>noA b,λb z=>absurd z (noA b),e0.funs,e0.frf⟩,8,e0.bare,Un.kept hk,⟨_,x.toInCall.ns,λi y v h1 h2 h3=>?_⟩,λy c h=>⟨_,x.cell y c h⟩,e0.hok.fresh 014,λy c h=>?_,λp hp=>absurd (show p∈([]:YN)from hp) 04,e0.hok.kept hk,?_⟩
 ·exact name_of_addr x.apart (aa5 h1) (aa5 h2)
 ·have hy:scope.names.lookup y=some .cell\/scope.names.lookup y=some .free:=hy;rcases hy with hy|hy
  ·exact xY hy
  ·exact absurd rfl (S.nofree _ (aa5 hy))
 ·exact aaT (x.above y c (aa5 h))
 ·have hi:i<vs.length:=by
   unfold start at h2;by_cases hi:i<vs.length
   ·exact hi
   ·rw[acp (by simpa using hi)]at h2;rw[List.getElem?_replicate]at h2;split at h2<;>cases h2
  have ha:vs[i]?=some v:=by
   unfold start at h2;rw[adb (by simpa using hi),aaq]at h2;cases e:vs[i]? with
   |none=>rw[e]at h2;cases h2
   |some a=>rw[e]at h2;cases h2;rfl
  obtain⟨u,hu,rv⟩:=r.get ha;have hp:ps[i]?=some y:=by rw[<-S.pre,acq 05];exact h1
  have ndP:ps.Nodup:=by rw[<-S.pre];exact S.nd.sublist (List.take_sublist _ _)
  refine⟨u,rv,?_⟩;rcases S.par y (aap hp)with k|k
  ·exact .inl ⟨k,uz ndP hp hu k⟩
  ·obtain⟨c,e⟩:=xY (n:=s.heap.objs.size+1) k;refine .inr ⟨.inl k,c,e,?_⟩;have q:=x.cell y c e;rw[uB ndP hp hu (by show scope.names.lookup y≠_;rw[k];decide)]at q;exact q
 ·exact e0.hok.fresh (aaT (x.above y c (aa5 h)))
 ·unfold start;show _=N.length;rw[aaw,aaf,acr];omega
theorem xf{CX:wQ}{P:ZE}{w:ZH}{K:Zs}{mg:Y1}{base:ZN}{k:Nat}{f:Zl}{name aa:Str}{ab:Arguments}{ac:List Stmt}{scope:ZU}{dV kV af pm ad ct oc:ZI}{an od:YE}
 {ah:YV}{N ps:Y2}{sp:Sp}(lk:K.lookup f=some ⟨oc,od,.func (PySem.W.fnOf name aa ab ac scope dV kV af pm an ad ct),ah⟩)(ai:PySem.W.codeIn K ad aa=true)(S:cI N ps scope)
 (ag:∀vs H Q E,sp vs H Q E->vs.length=ps.length)
 (ae:∀(A:ZO)(outer:List Env)(s:Zp)(H:Hp)(vs:List V)(Q:VK)(E:XK),dX k (A.deeper (envOfC aa scope s.heap.objs.size f ad))->sp vs H Q E->∃t,wR (iD CX P w K mg base N aa scope f ad A outer s H E) ac t/\t {nx:=λ_ H'=>Q .non H',rt:=Q} (start N vs) H):
 cz P w K mg base CX (k+1) f (PySem.W.fnOf name aa ab ac scope dV kV af pm an ad ct) ps sp:=by
 refine⟨ag,λA outer s H args us vs Q E hr e0 hb r hsp=>?_⟩;have hl:=ag _ _ _ _ hsp;have KX:K.In s.heap:=e0.mod.kin.keeps λb o e=>(e0.bs b o e).1;have lim:s.heap.NoLimit:=e0.mod.nolimit.keeps λb o e=>(e0.bs b o e).1;have hkind:∀y∈ps.zip us,scope.names.lookup y.1=some .local\/(scope.names.lookup y.1=some .cell/\((cellsFrom 002 scope.names []).lookup y.1).isSome=true):=λ⟨n,v⟩hy=>by
  rcases S.par n (abC hy).1 with q|q
  ·exact .inl q
  ·exact .inr ⟨q,acV _ _ _ (.inl q)⟩
 refine codeAny_call_function hr.depth (KX _ _ lk) rfl S.co S.gen rfl (PySem.W.codeRec_of KX ai) (hb _ _ _ _ ?_);refine wpAny_newFunctionEnv_cells S.kind hkind λenv he s1 x=>?_;subst he;refine⟨lim.keeps x.toInCall.keep,codeAny_func ?_⟩;obtain⟨t,ht,hq⟩:=ae A outer s H vs Q E (hr.deeper _) hsp;have I:Inv (iD CX P w K mg base N aa scope f ad A outer s H E) [] (start N vs) H s1:=ux S hr.hd e0 hl r x;refine aaF (ht [] s1 (start N vs) H _ I hq) (λfl s' hs=>?_) λe s' hs=>hs;have fin:∀{σ':St}{H':Hp}{v:V}{u:ZI},Inv (iD CX P w K mg base N aa scope f ad A outer s H E) [] σ' H' s'->RelV v u->Q v H'->CE outer P w H s Q u s':=
  λ{σ' H' v u}J rv q=>⟨v,H',J.os,J.bare,J.base,J.hok,rv,q⟩;cases fl with
 | ret u=>obtain⟨v,σ',H',J,rv,q⟩:=hs;exact fin J rv q
 | next=>obtain⟨σ',H',J,q⟩:=hs;exact fin (v:=V.non) (u:=Value.none) J rfl q
 | brk=>obtain⟨_,_,_,q⟩:=hs;exact False.elim q
 | cont=>obtain⟨_,_,_,q⟩:=hs;exact False.elim q
section
variable{X:Cx}{x:Str}{p pos:Pos}{e:ZT}{es:YU}{t:TA}{id T:String}{r:List V->Hp->VK->Prop}
def Zv(r:List V->Hp->VK->Prop)(t:TA):TE:=λa H Q=>t a H λvs b=>r vs b Q
noncomputable def du(l:jJ X (.builtin id) r)(m:Gl X x)(n:X.mg x=none)(o:bootBuiltins x=some (.builtin id))(q:PA X (e::es) t)(v:x≠"__name__":=by decide)(b:(x==("__debug__":Str))=false:=by decide)
 (w:starEach (e::es) X.env=(false,eval e X.env)::starEach es X.env:=by rfl)(c:(backTo pos (starEach es X.env)).any (·.1)=false:=by rfl):PE X (.Call (.Name x p) (e::es) [] pos) (Zv r t):=by
 intro a s d H Q I h;refine aa3 (mL I m n o ?_ v b);exact PyProof.Rows.callWith_builtin1 (fQ (q pos a s d H _ I h) λf g⟨vs,i,j,r1,q1⟩=>l a g d i vs f Q j r1 q1) w c
noncomputable def jh(l:jJ X (.type T) r)(m:Gl X x)(n:X.mg x=none)(o:bootBuiltins x=some (.type T))(q:PA X (e::es) t)(v:x≠"__name__":=by decide)(b:(x==("__debug__":Str))=false:=by decide)
 (w:starEach (e::es) X.env=(false,eval e X.env)::starEach es X.env:=by rfl)(c:(backTo pos (starEach es X.env)).any (·.1)=false:=by rfl):PE X (.Call (.Name x p) (e::es) [] pos) (Zv r t):=by
 intro a s d H Q I h;refine aa3 (mL I m n o ?_ v b);exact abZ (fQ (q pos a s d H _ I h) λf g⟨vs,i,j,r1,q1⟩=>l a g d i vs f Q j r1 q1) w c
end
end L2
namespace HT
open PySem PyProof.Rows
section
open PySem.SeqAt
open PySem.AutoSeq1 (wpAny_loadPart')
open PySem.MeetsSeq PySem.MeetsSeq2 PySem.MeetsSeq3
end
section
variable{prog:ZE}{w:ZH}{A:ZO}{E:ZY}{s:Zp}
noncomputable def jm(n d:Nat):Option Int->Nat
 |none=>d
 |some v=>if v<0 then(v+(n:Int)).toNat else min v.toNat n
def Gd(n d:Nat):jm n d none=d:=rfl
def Kr(n d k:Nat):jm n d (some (k:Int))=min k n:=by show(if(k:Int)<0 then((k:Int)+(n:Int)).toNat else min (k:Int).toNat n)=min k n;rw[aab 05,acW]
theorem Pq(n d:Nat)(hd:d<=n)(o:Option Int):jm n d o<=n:=by
 cases o with
 |none=>exact hd
 | some v=>
   show(if v<0 then(v+(n:Int)).toNat else min v.toNat n)<=n;by_cases a:v<0
   ·rw[aac a];omega
   ·rw[aab a];exact Nat.min_le_right _ _
def Ci(v:Int)(n d:Nat):(if v<0 then max (v+(n:Int)) 0 else min v (n:Int))=((jm n d (some v):Nat):Int):=by
 show(if v<0 then max (v+(n:Int)) 0 else min v (n:Int))=(((if v<0 then(v+(n:Int)).toNat else min v.toNat n):Nat):Int);by_cases a:v<0
 ·simp only[aac a];omega
 ·simp only[aab a];omega
def zY(a b:Option Int)(n:Nat):Builtin.Slice.sliceAdjust a b 1 (n:Int)=(((jm n 0 a:Nat):Int),((jm n n b:Nat):Int)):=by
 have c:¬((1:Int)<0):=by omega
 unfold Builtin.Slice.sliceAdjust;simp only[c,if_false];refine Prod.ext ?_ ?_
 ·cases a with
  |none=>rfl
  |some v=>exact Ci v n 0
 ·cases b with
  |none=>rfl
  |some v=>exact Ci v n n
def zG(i j:Nat):Builtin.Slice.slicePlaces (i:Int) (j:Int) 1=j-i:=by
 unfold Builtin.Slice.slicePlaces;have a:(1:Int) >0:=by omega
 simp only[a,if_true,Int.ediv_one];split<;>omega
theorem qz(p:IsPart v o)(h:Q o s):wpAny (model prog w) A (Builtin.Slice.slicePartIndex v) Q E s:=by
 cases p with
 |none=>exact slicePart_none h
 |int i t=>exact slicePart_int h
def lH{f:Zl}{vl e:ZI}{a d:Option Int}{n:Nat}{Q:Int×Int×Nat->Shared->Prop}(i:s.heap.IsSliceOf f vl e .none)(j:IsPart vl a)(l:IsPart e d)
 (h:Q (((jm n 0 a:Nat):Int),1,jm n n d-jm n 0 a) s):wpAny (model prog w) A (Builtin.Slice.sliceApplied (.ref f) (pure (n:Int))) Q E s:=by
 obtain⟨m,b,g,c⟩:=id i;unfold Builtin.Slice.sliceApplied Builtin.Slice.sliceFields;refine aaa (aaa (aaE b c (x:=vl) rfl (aaa (aaE b c (x:=e) rfl (aaa (aaE b c (x:=.none) rfl (aad ?_)))))));refine aaa (slicePart_none ?_);show wpAny _ _ (if((1:Int)==0)=true then _ else _) _ _ s;rw[aab 02];refine aaa (qz j (aaa (qz l (aaa (aad ?_)))));show wpAny _ _ (match Builtin.Slice.sliceAdjust a d 1 (n:Int)with|(a,d)=>pure (a,(1:Int),Builtin.Slice.slicePlaces a d 1)) _ _ s;rw[zY a d n];show wpAny _ _ (pure (((jm n 0 a:Nat):Int),(1:Int),Builtin.Slice.slicePlaces ((jm n 0 a:Nat):Int) ((jm n n d:Nat):Int) 1)) _ _ s;rw[zG];exact aad h
def J9(a:YA)(i k:Nat):((List.range k).filterMap λ(m:Nat)=>a[((i:Int)+(m:Int)*1).toNat]?).toArray=((a.toList.drop i).take k).toArray:=by
 have e:(λ(m:Nat)=>a[((i:Int)+(m:Int)*1).toNat]?)=λm=>a[i+m]?:=by
  funext m;have:((i:Int)+(m:Int)*1).toNat=i+m:=by omega
  rw[this]
 rw[e];have:=pick_run a i k;rw[List.filterMap_map]at this;have b:((λx=>a[x]?)∘λx=>i+x)=λm=>a[i+m]?:=rfl;rw[b]at this;rw[this]
def oR{t l:Zl}{a:YA}{vl n:ZI}{c d:Option Int}{Q:ZY}(e:IsTup s.heap t a)(o:s.heap.IsSliceOf l vl n .none)(v:IsPart vl c)(x:IsPart n d)
 (y:¬(jm a.size 0 c=0/\jm a.size a.size d=a.size))
 (h:Q (.ref s.heap.objs.size) {s with heap:=s.heap.push {cls:=.type "tuple",data:=.seq ((a.toList.drop (jm a.size 0 c)).take (jm a.size a.size d-jm a.size 0 c)).toArray}})
 (z:a.size<=sizeLine):wpAny (model prog w) A (getItem (.ref t) (.ref l)) Q E s:=by
 have b:sizeOk (.seq ((a.toList.drop (jm a.size 0 c)).take (jm a.size a.size d-jm a.size 0 c)).toArray):=by show((a.toList.drop (jm a.size 0 c)).take (jm a.size a.size d-jm a.size 0 c)).toArray.size<=sizeLine;rw[aas,aaV,List.length_drop,acM];omega
 have B:jm a.size a.size d<=a.size:=Pq _ _ 014 d;obtain⟨p,i,j,r⟩:=id o;have f:s.TypeIs (.ref l) "slice":=⟨p,i,j⟩;unfold getItem
 try with_reducible refine abe ?_
 first|refine aaa (aad ?_)|skip
 refine aaa (acX e.typeIs 02 ?_);refine aaa (wpAny_callSpecial?_slot (name:=Str.ofString "__getitem__") e.typeIs abD (abf abD e.typeIs entry_tuple_getitem ?_ (args_tuple_getitem _ _)));show wpAny _ _ (Builtin.Tuple.tupleItemsOf (.ref t)>>=_) _ _ s;refine aaa (tupleItemsOf_ e ?_);refine aaa (wpAny_typeOf f ?_);rw[aac 02];refine aaa (lH o v x ?_);have g:¬((((jm a.size 0 c:Nat):Int)==0&&(1:Int)==1&&(jm a.size a.size d-jm a.size 0 c)==a.size)=true):=by intro q;rw[aaM,aaM]at q;have q1:((jm a.size 0 c:Nat):Int)=0:=eq_of_beq q.1.1;have q2:jm a.size a.size d-jm a.size 0 c=a.size:=eq_of_beq q.2;exact y ⟨05,05⟩
 show wpAny _ _ (if(((jm a.size 0 c:Nat):Int)==0&&(1:Int)==1&&(jm a.size a.size d-jm a.size 0 c)==a.size)=true then _ else _) _ _ s;rw[aab g,J9]
 first
  |exact aaa (m:=Builtin.Tuple.tupleExact _) (aa2 (aad ⟨_,rfl,aad h⟩) b)
  |exact aaa (m:=Builtin.Tuple.tupleExact _) (aa2 (aaa (aad (aad ⟨_,rfl,aad h⟩))) b)
  |exact aaa (aaa (m:=Builtin.Tuple.tupleExact _) (aa2 (aad (aad ⟨_,rfl,aad h⟩)) b))
  |exact aaa (aaa (m:=Builtin.Tuple.tupleExact _) (aa2 (aad ⟨_,rfl,aad h⟩) b))
end
end HT
namespace L2
open PySem PySem.Spec PyProof.Rows
abbrev TO:=St->Hp->(Option Int->Hp->Prop)->Prop
def PO(X:Cx)(e:Option Expr)(t:TO):Prop:=
 ∀(a:YN)(s:Zp)(b:St)(H:Hp)(Q:Option Int->Hp->Prop),Inv X a b H s->t b H Q->
   wpAny 00 X.A (evalPart e X.env) (λu d=>∃o c,Inv X a b c d/\IsPart u o/\Q o c) X.xe s
def JL:TO:=λ_ H Q=>Q none H
def Vv(t:TE):TO:=λa H Q=>t a H λx b=>∃i,x=.int i/\Q (some i) b
section
variable{X:Cx}{e:ZT}{te:TE}{lo hi:Option Expr}{tl th:TO}{pos p2:Pos}
def n7:PO X none JL:=by intro a s b H Q I h;rw[evalPart_none];exact aad ⟨none,H,I,.none,h⟩
noncomputable def nH(h:PE X e te):PO X (some e) (Vv te):=by intro a s d H Q I f;rw[evalPart_some];refine fQ (h a s d H _ I f) λu g⟨x,b,c,r1,q1⟩=>?_;obtain⟨i,rfl,q⟩:=q1;obtain⟨t,rfl⟩:=r1;exact⟨some i,b,c,.int i t,q⟩
def X4(X:Cx)(r:V->Option Int->Option Int->Hp->VK->Prop):Prop:=
 ∀(a:YN)(s:Zp)(b:St)(H:Hp)(x:V)(v vl c:ZI)(d f:Option Int)(g:Zl)(Q:VK),Inv X a b H s->RelV x v->s.heap.IsSliceOf g vl c .none->IsPart vl d->IsPart c f->r x d f H Q->
   ∃T h,typeLookup (.type T) "__getitem__"=pure (some (.builtin h))/\s.TypeIs v T/\wpAny 00 X.A (getItem v (.ref g)) (EP X a b Q) X.xe s
def tSl(r:V->Option Int->Option Int->Hp->VK->Prop)(f:TE)(g h:TO):TE:=λa H Q=>f a H λx b=>g a b λl c=>h a c λu d=>r x l u d Q
noncomputable def lQ{r:V->Option Int->Option Int->Hp->VK->Prop}(F:X4 X r)(G:PE X e te)(J:PO X lo tl)(L:PO X hi th):PE X (.Subscript e (.Slice lo hi none p2) pos) (tSl r te tl th):=by intro a s d H Q I h;refine Subscript_ (fQ (G a s d H _ I h) λv i⟨x,j,m,r1,q1⟩=>?_);refine wpAny_Slice (fQ (J a i d j _ m q1) λvl n⟨l,o,p,w,q2⟩=>fQ (L a n d o _ p q2) λf c⟨u,g,y,z,A⟩=>?_);rw[evalPart_none];refine aad ?_;have B:Inv X a d g {c with heap:=c.heap.push {cls:=.type "slice",data:=.fields #[vl,f,.none]}}:=y.kept (t':=c.toks) λb M q=>aaj _ q;obtain⟨T,N,C,D,E⟩:=F a {c with heap:=c.heap.push {cls:=.type "slice",data:=.fields #[vl,f,.none]}} d g x v vl f l u c.heap.objs.size Q B r1 (Heap.IsSliceOf.new ..) w z A;show wpAny 00 X.A (subscriptTail e (.Slice lo hi none p2) v (.ref c.heap.objs.size)) (EP X a d Q) X.xe {c with heap:=c.heap.push {cls:=.type "slice",data:=.fields #[vl,f,.none]}};exact tail_any (ops:=[.ref c.heap.objs.size,v]) D C E (by with_unfolding_all rfl)
noncomputable def oh(a:List V)(b c:Option Int):List V:=(a.drop (HT.jm a.length 0 b)).take (HT.jm a.length a.length c-HT.jm a.length 0 b)
def pO(a:List V)(b c:Option Int):(oh a b c).length<=a.length:=by unfold oh;rw[aaV,List.length_drop];omega
def Yw(K:Zs):V->Option Int->Option Int->Hp->VK->Prop:=λx c d H Q=>∃a b,x=.ref a/\e_ K H a b/\
 ¬(HT.jm b.length 0 c=0/\HT.jm b.length b.length d=b.length)/\∀p,H p=none->Q (.ref p) (upd H p (.tup (oh b c d)))
def PJ:X4 X (Yw X.K):=by
 intro m s C H x v vl D f i E Q I w y z A h;obtain⟨a,d,rfl,n,p,q⟩:=h;cases w;obtain⟨g,r,j,l⟩:=I.tuple n;have c:g.toArray.size=d.length:=by rw[aas];exact r.length.symm
 refine⟨"tuple",_,abD.lookup,j.typeIs,?_⟩;refine HT.oR j y z A (by rw[c];exact p) ?_ (by rw[c];exact l);rw[c];refine⟨.ref s.heap.objs.size,_,I.laid (t':=s.toks) (o:=.tup (oh d f i)) (λb B q=>aaj _ q) 014 ?_,8,q _ (I.hok.fresh 014)⟩;exact⟨aah (pO d f i) l,_,(r.drop (HT.jm d.length 0 f)).take (HT.jm d.length d.length i-HT.jm d.length 0 f),IsTup.new _ _⟩
end
noncomputable def N_(n:Nat)(i:Int):Option Nat:=if 0<=i then(if i<n then some i.toNat else none)else if-(n:Int)<=i then some (i+n).toNat else none
noncomputable def rN{a:Type}(b:List a)(i:Int):Option a:=(N_ b.length i).bind λj=>b[j]?
def Ky(h:N_ n i=some j):seqIndex? i n=some j/\j<n/\-(n:Int)<=i/\i<n:=by
 unfold N_ at h;by_cases b:0<=i
 ·rw[aac b]at h;by_cases a:i<n
  ·rw[aac a]at h;have e:i.toNat=j:=aaO h;exact⟨by rw[seqIndex_of b a,e],05,05,a⟩
  ·rw[aab a]at h;cases h
 ·rw[aab b]at h;by_cases a:-(n:Int)<=i
  ·rw[aac a]at h;have e:(i+n).toNat=j:=aaO h;exact⟨by rw[seqIndex_neg 05 a,e],05,a,05⟩
  ·rw[aab a]at h;cases h
theorem wN{b:Type}{a:List b}{i:Int}{v:b}(h:rN a i=some v):∃j,seqIndex? i a.length=some j/\a[j]?=some v/\j<a.length/\-(a.length:Int)<=i/\i<a.length:=by
 unfold rN at h;cases e:N_ a.length i with
 |none=>rw[e]at h;cases h
 | some j=>rw[e]at h;obtain⟨c,d,f,g⟩:=Ky e;exact⟨j,c,h,d,f,g⟩
def dw{b:Type}{a:List b}{j:Nat}{v:b}(h:a[j]?=some v):rN a (j:Int)=some v:=by
 have c:j<a.length:=(aaD.mp h).1;have e:N_ a.length (j:Int)=some j:=by unfold N_;rw[aac 05,aac 05];simp
 unfold rN;rw[e];exact h
def Kv(b:ZT):Prop:=∀o i,subscripted b false o i=operate [o,i] (getItem o i)
def Jy(X:Cx)(r:R2):Prop:=
 ∀(c a:ZT)(b:YN)(s:Zp)(d:St)(H:Hp)(x y:V)(v u:ZI)(Q:VK),Inv X b d H s->RelV x v->RelV y u->r x y H Q->
   subscripted a false v u=operate [v,u] (getItem v u)->wpAny 00 X.A (subscriptTail c a v u) (EP X b d Q) X.xe s
def Jz(X:Cx)(e:String)(r:V->List V->Hp->VK->Prop):Prop:=
 ∀(a:YN)(s:Zp)(b:St)(H:Hp)(x:V)(c:List V)(v:ZI)(d:Y3)(Q:VK),Inv X a b H s->RelV x v->Vals c d->r x c H Q->
   wpAny 00 X.A (call (.builtin e) (v::d)) (EP X a b Q) X.xe s
def Jy.or(h:Jy X r)(m:Jy X l):Jy X (λx y H Q=>r x y H Q\/l x y H Q):=by
 intro c d e s f H x y v u Q I g i q j;rcases q with q|q
 ·exact h c d e s f H x y v u Q I g i q j
 ·exact m c d e s f H x y v u Q I g i q j
noncomputable def d_(l:Jy X r)(m:PE X a w)(n:PE X b p)(o:Kv b:=by intro _ _;rfl):PE X (.Subscript a b z) (S6 r w p):=by intro c s j H Q I h;exact Subscript_ (RL m n I h λv u d x y e f g i q=>l a b c d j e x y v u Q f g i q (o _ _))
def Vm(K:Zs):R2:=λx y H Q=>∃p c i v,x=.ref p/\y=.int i/\eY K H p c/\rN c i=some v/\Q v H
def Ei(K:Zs):R2:=λx y H Q=>∃p c i v,x=.ref p/\y=.int i/\e_ K H p c/\rN c i=some v/\Q v H
def R7:R2:=λx y H Q=>∃z i c,x=.str z/\y=.int i/\z.length<=sizeLine/\rN z.cps.toList i=some c/\Q (.str ⟨#[c]⟩) H
def iH{X:Cx}:Jy X (Vm X.K):=by
 intro n o c s B H x y v u Q I O P h C;obtain⟨p,S,i,z,rfl,rfl,G,J,q⟩:=h;cases O;obtain⟨t,rfl⟩:=P;obtain⟨g,r,l,T⟩:=I.list G;obtain⟨j,e,L,U,M,N⟩:=wN J;obtain⟨w,A,m⟩:=r.get L;have F:=r.length;have R:=pL;have d:EP X c B Q w s:=⟨z,H,I,m,q⟩;by_cases D:0<=i
 ·have f:i.toNat=j:=by rw[seqIndex_of D N]at e;exact aaO e
  exact item_listR l.isList D 05 (by rw[f];simpa using A) d C
 ·have f:(i+(g.toArray.size:Int)).toNat=j:=by rw[seqIndex_neg 05 M]at e;rw[aas,<-F];exact aaO e
  exact subscriptTail_builtinR (x:=w) l.isList.typeIs slot_list_getitem.lookup
   (wpAny_getItem_list_neg (Q:=λr E=>r=w/\EP X c B Q r E) l.isList 05 (by rw[aas]<;>omega) 05 (by rw[f];simpa using A) ⟨8,d⟩) C
def eO{X:Cx}:Jy X (Ei X.K):=by
 intro f g c s m H x y v u Q I G J h L;obtain⟨p,N,i,z,rfl,rfl,A,B,q⟩:=h;cases G;obtain⟨t,rfl⟩:=J;obtain⟨C,r,l,O⟩:=I.tuple A;obtain⟨j,D,E,P,R,S⟩:=wN B;obtain⟨w,F,e⟩:=r.get E;have o:=r.length;have M:=pL;have d:EP X c m Q w s:=⟨z,H,I,e,q⟩;exact subscriptTail_builtinR (x:=w) l.typeIs slot_tuple_getitem.lookup
  (getItem_tuple (j:=j) (Q:=λr n=>r=w/\EP X c m Q r n) l 05 05 (by rw[aas,<-o];exact D) (by simpa using F) ⟨8,d⟩) L
def vR:Jy X R7:=by
 intro d e g s J H x y v u Q I A B h C;obtain ⟨z,i,c,rfl,rfl,E,o,q⟩:=h;obtain ⟨t,rfl⟩:=A;obtain ⟨F,rfl⟩:=B;obtain ⟨j,f,p,G,r,w⟩:=wN o;have l:z.cps.toList.length=z.length:=by simp [Str.length]
 rw [l] at f r w;have D:=pL;exact tail_any (typeIs_str s z t) slot_str_getitem.lookup (getItem_str (c:=c) (by have m:decide (i < -(2 ^ 63:Int))=false:=aaR 05;have n:decide (i >= 2 ^ 63)=false:=aaR 05;rw [m,n,Bool.or_false]) (by rw [f];simpa using p) ⟨.str ⟨#[c]⟩,H,I.tok _,⟨9⟩,q⟩) C
def Yx(K:Zs):R2:=λx y H Q=>Vm K x y H Q\/Ei K x y H Q\/R7 x y H Q
def Fl:Jy X (Yx X.K):=iH.or (eO.or vR)
def wK(c d:Option Int)(n:Nat):(sliceBounds c d none n).1=((HT.jm n 0 c:Nat):Int)/\(sliceBounds c d none n).2.1=((HT.jm n n d:Nat):Int)/\(sliceBounds c d none n).2.2=1:=by
 refine⟨?_,?_,8⟩
 ·cases c with
  |none=>simp[sliceBounds,HT.jm]
  | some i=>
    simp only[sliceBounds,HT.jm,Option.getD_none,show(1:Int) >0 by decide,if_true];by_cases h:i<0
    ·simp only[h,if_true]<;>omega
    ·simp only[h,if_false]<;>omega
 ·cases d with
  |none=>simp[sliceBounds,HT.jm]
  | some i=>
    simp only[sliceBounds,HT.jm,Option.getD_none,show(1:Int) >0 by decide,if_true];by_cases h:i<0
    ·simp only[h,if_true]<;>omega
    ·simp only[h,if_false]<;>omega
noncomputable def tY(c:Y3)(d e:Option Int):slicePick c.toArray d e none=((c.drop (HT.jm c.length 0 d)).take (HT.jm c.length c.length e-HT.jm c.length 0 d)).toArray:=by obtain⟨f,g,h⟩:=wK d e c.toArray.size;unfold slicePick;rw[f,g,h];simp only[sliceRange_one,pick_run,aas]<;>rfl
def Yb(K:Zs):V->Option Int->Option Int->Hp->VK->Prop:=λx d e H Q=>∃a c,x=.ref a/\eY K H a c/\∀p,H p=none->Q (.ref p) (upd H p (.lst (oh c d e)))
noncomputable def Bj:X4 X (Yb X.K):=by intro i s A H x v vl B e f C Q I n p w y h;obtain⟨a,c,rfl,j,q⟩:=h;cases n;obtain⟨l,r,g,m⟩:=I.list j;have d:=r.length;refine⟨"list",_,slot_list_getitem.lookup,g.isList.typeIs,?_⟩;refine wpAny_getItem_list_slice g.isList p w y .none 04 ?_ (by rw[aas]<;>omega);rw[tY,<-d];refine⟨.ref s.heap.objs.size,_,I.laid (t':=s.toks) (o:=.lst (oh c e f)) (λb z q=>aaj _ q) 014 ?_,8,q _ (I.hok.fresh 014)⟩;exact⟨aah (pO c e f) m,_,0,(r.drop (HT.jm c.length 0 e)).take (HT.jm c.length c.length f-HT.jm c.length 0 e),aav _ rfl⟩
noncomputable def p7:V->Bool
 |.non=>true
 |.bl _=>true
 |.int _=>true
 |.str _=>true
 |_=>false
noncomputable def zm:V->V->Bool
 |.non,.non=>true
 |.bl a,.bl b=>a==b
 |.bl a,.int b=>(if a then 1 else 0)==b
 |.int a,.bl b=>a==(if b then 1 else 0)
 |.int a,.int b=>a==b
 |.str a,.str b=>a==b
 |_,_=>false
theorem Oj(e:RelV y u)(c:RelV x v)(g:p7 y=true)(f:p7 x=true):SeqAt.EqAt A s u v (zm y x):=by
 cases y with
 | non=>
   cases e;cases x with
   |non=>cases c;exact SeqAt.EqAt.same _
   |bl b=>cases c;exact SeqAt.EqAt.none_bool b
   |int b=>obtain⟨t,rfl⟩:=c;exact SeqAt.EqAt.none_int b t
   |str b=>obtain⟨t,rfl⟩:=c;exact SeqAt.EqAt.none_str b t
   |_=>exact absurd 018 aaG
 | bl a=>
   cases e;cases x with
   |non=>cases c;exact SeqAt.EqAt.bool_none a
   |bl b=>cases c;exact SeqAt.EqAt.bool_bool a b
   |int b=>obtain⟨t,rfl⟩:=c;exact SeqAt.EqAt.bool_int a b t
   |str b=>obtain⟨t,rfl⟩:=c;exact SeqAt.EqAt.bool_str a b t
   |_=>exact absurd 018 aaG
 | int a=>
   obtain⟨d,rfl⟩:=e;cases x with
   |non=>cases c;exact SeqAt.EqAt.int_none a d
   |bl b=>cases c;exact SeqAt.EqAt.int_bool a d b
   |int b=>obtain⟨t,rfl⟩:=c;exact SeqAt.EqAt.int_int a d b t
   |str b=>obtain⟨t,rfl⟩:=c;exact SeqAt.EqAt.int_str a d b t
   |_=>exact absurd 018 aaG
 | str a=>
   obtain⟨d,rfl⟩:=e;cases x with
   |non=>cases c;exact SeqAt.EqAt.str_none a d
   |bl b=>cases c;exact SeqAt.EqAt.str_bool a d b
   |int b=>obtain⟨t,rfl⟩:=c;exact SeqAt.EqAt.str_int a d b t
   |str b=>obtain⟨t,rfl⟩:=c;exact SeqAt.EqAt.str_str a d b t
   |_=>exact absurd 018 aaG
 |_=>exact absurd (show false=true from g) aaG
noncomputable def Ao(x:V)(u:ZI):Bool:=match u with
 |.none=>zm .non x
 |.bool b=>zm (.bl b) x
 |.int i _=>zm (.int i) x
 |.str z _=>zm (.str z) x
 |_=>false
theorem J0(r:RelV y u)(f:p7 y=true):Ao x u=zm y x:=by
 cases y with
 |non=>cases r;rfl
 |bl b=>cases r;rfl
 |int i=>obtain⟨t,rfl⟩:=r;rfl
 |str z=>obtain⟨t,rfl⟩:=r;rfl
 |_=>exact absurd 018 aaG
theorem p8:∀{c:List V}{d:Y3},Vals c d->c.all p7=true->d.any (Ao x)=c.any λy=>zm y x
 |_,_,.nil,_=>rfl
 | y::c,u::d,.cons r t,f=>by rw[ab2,aaM]at f;rw[abr,abr,J0 r f.1,p8 t f.2]
theorem mQ(g:RelV x v)(h:p7 x=true):∀{d:List V}{e:Y3},Vals d e->d.all p7=true->∀u∈e,SeqAt.EqAt A s u v (Ao x u)
 |_,_,.nil,_=>λu c=>by cases c
 | y::d,u::e,.cons r t,f=>λi c=>by
   rw[ab2,aaM]at f;rcases aag.mp c with rfl|c
   ·rw[J0 r f.1];exact Oj r g f.1 h
   ·exact mQ g h t f.2 i c
noncomputable def inV(x:V)(c:List V):Bool:=c.any λy=>zm y x
def ZJ(K:Zs)(neg:Bool):R2:=λx y H Q=>∃p c,y=.ref p/\(eY K H p c\/e_ K H p c)/\p7 x=true/\c.all p7=true/\Q (.bl (if neg then !inV x c else inV x c)) H
def nA:ni X (compareOp .In) (ZJ X.K false):=by
 intro i s o H x y v u Q I j m h;obtain⟨p,n,rfl,d,g,fs,q⟩:=h;cases m;rcases d with d|d
 ·obtain⟨c,r,f,l⟩:=I.list d;refine SeqAt.in_listAt (Ao x) f.isList (λw e=>mQ j g r fs w (by simpa using e)) ⟨.bl _,H,I,8,?_⟩;rw[show c.toArray.any (Ao x)=c.any (Ao x) by simp,p8 r fs];exact q
 ·obtain⟨c,r,f,l⟩:=I.tuple d;refine SeqAt.in_tupleAt (Ao x) f (λw e=>mQ j g r fs w (by simpa using e)) ⟨.bl _,H,I,8,?_⟩;rw[show c.toArray.any (Ao x)=c.any (Ao x) by simp,p8 r fs];exact q
def vA:ni X (compareOp .NotIn) (ZJ X.K true):=by
 intro i s o H x y v u Q I j m h;obtain⟨p,n,rfl,d,g,fs,q⟩:=h;cases m;rcases d with d|d
 ·obtain⟨c,r,f,l⟩:=I.list d;refine SeqAt.notIn_listAt (Ao x) f.isList (λw e=>mQ j g r fs w (by simpa using e)) ⟨.bl _,H,I,8,?_⟩;rw[show c.toArray.any (Ao x)=c.any (Ao x) by simp,p8 r fs];exact q
 ·obtain⟨c,r,f,l⟩:=I.tuple d;refine SeqAt.notIn_tupleAt (Ao x) f (λw e=>mQ j g r fs w (by simpa using e)) ⟨.bl _,H,I,8,?_⟩;rw[show c.toArray.any (Ao x)=c.any (Ao x) by simp,p8 r fs];exact q
def dO:jJ X (.builtin "len") (λj H Q=>∃p d,j=[.ref p]/\(eY X.K H p d\/e_ X.K H p d)/\Q (.int d.length) H):=by
 intro l s v H j w Q I r h;obtain⟨p,d,rfl,e,q⟩:=h;obtain⟨u,rfl,m⟩:=vals1 r;cases m;have o:=pL;rcases e with e|e
 ·obtain⟨f,g,i,n⟩:=I.list e;have c:=g.length;exact Calls.call_len_list i.isList (by simp only[aas]<;>omega) ⟨.int d.length,H,I.tok _,⟨s.toks+1,by rw[aas,c]⟩,q⟩
 ·obtain⟨f,g,i,n⟩:=I.tuple e;have c:=g.length;exact len_tuple i (by simp only[aas]<;>omega) ⟨.int d.length,H,I.tok _,⟨s.toks+1,by rw[aas,c]⟩,q⟩
noncomputable def o_:jJ X (.builtin "len") (λc H Q=>∃z,c=[.str z]/\z.length<=sizeLine/\Q (.int z.length) H):=by intro d s g H c i Q I r h;obtain⟨z,rfl,f,q⟩:=h;obtain⟨u,rfl,t,rfl⟩:=vals1 r;have e:=pL;exact len_str 05 ⟨.int z.length,H,I.tok _,⟨9⟩,q⟩
def wJ:jJ X (.type "list") (λA H Q=>∃p i,A=[.ref p]/\(eY X.K H p i\/e_ X.K H p i)/\∀l,H l=none->Q (.ref l) (upd H l (.lst i))):=by
 intro x s D H A E Q I r h;obtain⟨p,i,rfl,w,q⟩:=h;obtain⟨u,rfl,C⟩:=vals1 r;cases C;have m:∀(c:Y3),Vals i c->i.length<=sizeLine->∀(d:ZN)(g:Nat),(∀b B,s.heap.get? b=some B->d.get? b=some B)->
  d.get? s.heap.objs.size=some {cls:=.type "list",dict:=none,data:=.seq c.toArray g,slots:=#[]}->EP X x D Q (.ref s.heap.objs.size) {s with heap:=d}:=λc f j d g kp e=>
  ⟨.ref s.heap.objs.size,_,I.laid (t':=s.toks) kp 014 (show gq X.prog X.w _ d _ (.lst i)from⟨j,c,g,f,e⟩),8,q _ (I.hok.fresh 014)⟩;rcases w with w|w
 ·obtain⟨c,f,y,j⟩:=I.list w;have v:=f.length;obtain⟨o,ho,z,n,hd⟩:=y.isList;exact call_list_seq p 012 ho z hd (λd g kp e=>m c f j d g kp e) (by simp only[aas]<;>omega)
 ·obtain⟨c,f,y,j⟩:=I.tuple w;have v:=f.length;obtain⟨o,ho,z,n,hd⟩:=y;exact call_list_seq p 013 ho z hd (λd g kp e=>m c f j d g kp e) (by simp only[aas]<;>omega)
def jb:jJ X (.type "tuple") (λn H Q=>∃p f,n=[.ref p]/\((eY X.K H p f/\∀l,H l=none->Q (.ref l) (upd H l (.tup f)))\/(e_ X.K H p f/\Q (.ref p) H))):=by
 intro c s y H n B Q I r h;obtain⟨p,f,rfl,h⟩:=h;obtain⟨u,rfl,A⟩:=vals1 r;cases A;rcases h with⟨m,q⟩|⟨m,q⟩
 ·obtain⟨d,i,j,x⟩:=I.list m;have v:=i.length;refine call_tuple_list j.isList (λg kp=>?_) (by simp only[aas]<;>omega);have w:Inv X c y H {s with heap:=g}:=I.kept (t':=s.toks) kp;have z:Inv X c y (upd H g.objs.size (.tup f)) {s with heap:=g.push {cls:=.type "tuple",data:=.seq d.toArray}}:=
   w.laid (t':=s.toks) (λb o e=>aaj _ e) 014 (show gq X.prog X.w _ _ _ (.tup f)from⟨x,d,i,IsTup.new _ _⟩);exact⟨.ref g.objs.size,_,z,8,q _ (w.hok.fresh 014)⟩
 ·obtain⟨d,i,j,x⟩:=I.tuple m;exact call_tuple_same j ⟨.ref p,H,I,8,q⟩
def Xy(K:Zs)(T:String)(x:V)(H:Hp):Prop:=match x with
 |.str _=>T="str"
 |.int _=>T="int"
 |.ref p=>(T="list"/\∃d,eY K H p d)\/(T="tuple"/\∃o,K.lookup p=some o/\o.cls=.type "tuple"/\o.dict=none)\/
  (T="dict"/\((∃c,H p=some (.dK c))\/∃c,H p=some (.dT c)))\/(T="set"/\∃S n,H p=some (.set S n))
 |_=>False
theorem Fz(I:Inv X f y H s)(r:RelV x v)(ty:Xy X.K T x H):
 s.TypeIs v T/\∀a,v=.ref a->∃j,s.heap.get? a=some j/\j.dict=none:=by
 cases x with
 | str z=>obtain⟨t,rfl⟩:=r;cases(show T="str"from ty);exact⟨typeIs_str s z t,λ_ e=>nomatch e⟩
 | int i=>obtain⟨t,rfl⟩:=r;cases(show T="int"from ty);exact⟨typeIs_int s i t,λ_ e=>nomatch e⟩
 | ref p=>
   cases r;rcases ty with⟨rfl,A,q⟩|⟨rfl,o,hk,w,hd⟩|⟨rfl,hk⟩|⟨rfl,S,n,hk⟩
   ·obtain⟨m,_,l,_⟩:=I.list q;refine⟨l.isList.typeIs,λa e=>?_⟩;cases e;obtain⟨o,n,e,c,hd,_⟩:=l;exact⟨o,e,hd⟩
   ·refine⟨⟨o,I.kIn p o hk,w⟩,λa e=>?_⟩;cases e;exact⟨o,I.kIn _ o hk,hd⟩
   ·have z:∃o,s.heap.get? p=some o/\o.ExactDict:=by
     rcases hk with⟨h,hk⟩|⟨h,hk⟩
     ·obtain⟨_,_,_,_,o,_,_,e,d,_⟩:=I.hok p _ hk;exact⟨o,e,d⟩
     ·obtain⟨_,_,_,_,o,_,_,e,d,_⟩:=I.hok p _ hk;exact⟨o,e,d⟩
    obtain⟨o,e,d⟩:=z;refine⟨⟨o,e,d.1⟩,λa g=>?_⟩;cases g;exact⟨o,e,d.2.1⟩
   ·obtain⟨o,_,_,_,e,d,_⟩:=I.hok p _ hk;refine⟨⟨o,e,d.1⟩,λa g=>?_⟩;cases g;exact⟨o,e,d.2.1⟩
 |_=>exact False.elim ty
def XF(K:Zs)(T:String)(r:V->List V->Hp->VK->Prop)(e:TE):TE:=λd H Q=>e d H λx c=>Xy K T x c/\r x [] c Q
def tBM(K:Zs)(T:String)(r:V->List V->Hp->VK->Prop)(g:TE)(t:TA):TE:=λc H Q=>g c H λx d=>Xy K T x d/\t c d λe f=>r x e f Q
noncomputable def wu{X:Cx}{o:ZT}{A:TE}{a:Str}{b e:Pos}{T z:String}{r:V->List V->Hp->VK->Prop}(w:PlainAttrs T)(g:Slot T a z)(i:typeOf (.builtin z)=pure (.type "method_descriptor"))(y:Jz X z r)(ho:PE X o A)
 (d:attributeBase o a X.env (eval o X.env)=eval o X.env:=by rfl)(f:(b.endLine==e.line)=true:=by rfl):PE X (.Call (.Attribute o a b) [] [] e) (XF X.K T r A):=by
 intro c s l H Q I h;refine wpAny_Call_method0_late d f (fQ (ho c s l H _ I h) λv m⟨x,n,j,r1,ty,q1⟩=>?_);obtain⟨p,q⟩:=Fz j r1 ty;exact⟨T,z,w,g,i,p,q,acs rfl (PySem.evalArgs_none (y c m l n x [] v [] Q j r1 .nil q1))⟩
noncomputable def oY{X:Cx}{o e:ZT}{L:YU}{O:TE}{t:TA}{b:Str}{M a:Pos}{T N:String}{r:V->List V->Hp->VK->Prop}(E:PlainAttrs T)(i:Slot T b N)(m:typeOf (.builtin N)=pure (.type "method_descriptor"))(F:Jz X N r)(ho:PE X o O)(G:PA X (e::L) t)
 (f:attributeBase o b X.env (eval o X.env)=eval o X.env:=by rfl)
 (j:((backTo a (starEach (e::L) X.env)).all (λx=>!x.1)&&(backToKw a (keywordEach [] X.env)).all (λx=>x.1.isSome)&&decide ((e::L).length+([]:List Keyword).length+(if ([]:List Keyword).isEmpty then 0 else 1)<30))=true:=by rfl)
 (g:(M.endLine==a.line)=true:=by rfl)(J:starEach (e::L) X.env=(false,eval e X.env)::starEach L X.env:=by rfl)(d:(backTo a (starEach L X.env)).any (·.1)=false:=by rfl):
 PE X (.Call (.Attribute o b M) (e::L) [] a) (tBM X.K T r O t):=by
 intro c s l H Q I h;refine wpAny_Call_method_late f j g rfl (fQ (ho c s l H _ I h) λv q⟨x,w,n,r1,ty,q1⟩=>?_);obtain ⟨C,D⟩:=Fz n r1 ty;refine ⟨T,N,E,i,m,C,D,?_⟩;have p:=G a c q l w _ n q1;rw [J]at p|-;refine acs (by show (false||(backTo a (starEach L X.env)).any (·.1))=false;rw [d]<;>rfl) (Calls.evalArgs_plain ?_);exact fQ p λy z⟨vs,A,B,r2,q2⟩=>F c z l A x vs v y Q B r1 r2 q2
def Tj(X:Cx)(e:String)(r:V->List V->Hp->VK->Prop):Prop:=
 ∀(a:YN)(s:Zp)(b:St)(H:Hp)(x:V)(c:List V)(v:ZI)(d:Y3)(Q:VK),Inv X a b H s->RelV x v->Vals c d->r x c H Q->
   wpAny 00 X.A (call (.builtin e) (v::d)) (EP X a b Q) X.xe s
theorem Vals.one:∀{x:V}{a:Y3},Vals [x] a->∃u,a=[u]/\RelV x u
 |_,_,.cons r .nil=>⟨9,r⟩
theorem Vals.zero:∀{a:Y3},Vals [] a->a=[]
 |_,.nil=>rfl
theorem Vals.dropLast(h:Vals a b):Vals a.dropLast b.dropLast:=by
 induction h with
 |nil=>exact .nil
 | cons r t c=>
   cases t with
   |nil=>exact .nil
   |cons q d=>exact .cons r c
theorem Vals.eraseIdx:∀{a:List V}{b:Y3}(i:Nat),Vals a b->Vals (a.eraseIdx i) (b.eraseIdx i)
 |_,_,_,.nil=>.nil
 |_,_,0,.cons _ t=>t
 |_,_,i+1,.cons r t=>.cons r (Vals.eraseIdx i t)
theorem Am{d:Type}(l:List d):l.eraseIdx (l.length-1)=l.dropLast:=by
 induction l with
 |nil=>rfl
 | cons a r c=>
   cases r with
   |nil=>rfl
   | cons b r=>
     have e:(a::b::r).length-1=((b::r).length-1)+1:=by have f:(a::b::r).length=r.length+2:=rfl;have g:(b::r).length=r.length+1:=rfl;omega
     rw[e,acu,c]
     all_goals rfl
theorem ug{a:Type}:∀(l:List a)(i:Nat),(l.eraseIdx i).length<=l.length
 |[],_=>aae _
 |_::_,0=>abd _
 |_::r,i+1=>Nat.succ_le_succ (ug r i)
section
variable{X:Cx}{dD:YN}{σ:St}{H:Hp}{s:Zp}{l b:Zl}{xs ys zs:List V}
def Inv.lset{a its':Y3}{f:Array Value->Array Value}(I:Inv X dD σ H s)(g:H l=some (.lst xs))
 (e:s.heap.get? l=some {cls:=.type "list",data:=.seq a.toArray n})(h:f a.toArray=its'.toArray)(i:Vals ys its')(j:ys.length<=sizeLine):
 Inv X dD σ (upd H l (.lst ys)) {s with heap:=s.heap.update l (Obj.mapSeq f),toks:=t'}:=by
 have q:=PySem.IsL.update e f;rw[h]at q;refine I.write (x:=l) (e:=l) (by rw[g];exact trivial) 012 (λm u c d=>(abn s.heap (Obj.mapSeq f) (aaC c)).trans d) ⟨_,q⟩ ?_;exact⟨j,its',_,i,q⟩
def Inv.lnew(I:Inv X dD σ H s)(c:Vals ys a)(d:ys.length<=sizeLine):
 Inv X dD σ (upd H s.heap.objs.size (.lst ys)) {s with heap:=s.heap.push {cls:=.type "list",data:=.seq a.toArray},toks:=t'}:=
 I.laid (λ_ _ q=>aaj _ q) 014 ⟨d,a,0,c,aav _ rfl⟩
def Inv.fresh(I:Inv X dD σ H s):H s.heap.objs.size=none:=I.hok.fresh 014
noncomputable def Inv.lstM(I:Inv X dD σ H s)(c:H l=some (.lst xs)):xs.length<=sizeLine/\∃(a:Y3)(n:Nat),Vals xs a/\xs.length=a.length/\s.heap.get? l=some {cls:=.type "list",data:=.seq a.toArray n}:=by obtain⟨z,a,n,r,e⟩:=I.hok l _ c;exact⟨z,a,n,r,r.length,e⟩
def Ib(h:n<=sizeLine):Builtin.List.listTooLong n=false:=by unfold Builtin.List.listTooLong;exact aaR 05
end
section
variable{X:Cx}
def Ld:V->List V->Hp->VK->Prop:=λx vs H Q=>∃l a y,x=.ref l/\vs=[y]/\H l=some (.lst a)/\a.length<sizeLine/\Q .non (upd H l (.lst (a++[y])))
noncomputable def jU:Tj X "list.append" Ld:=by intro c s o H x vs v p Q I f g h;obtain⟨l,i,y,rfl,rfl,b,j,q⟩:=h;cases f;obtain⟨u,rfl,d⟩:=g.one;obtain⟨z,a,n,r,m,e⟩:=I.lstM b;refine call_meets F.slot_list_append ⟨_,e,8⟩ F.entry_list_append (F.args_list_append_2 _ _) (PySem.list_append l a.toArray n u (by rw[aas];omega)) ⟨e,?_⟩;refine⟨.non,_,I.lset (its':=a++[u]) b e 04 (r.append (.cons d .nil)) ?_,8,q⟩;rw[aaw,List.length_singleton];omega
noncomputable def Lk:V->List V->Hp->VK->Prop:=λx vs H Q=>∃l b a c,x=.ref l/\vs=[.ref b]/\H l=some (.lst a)/\H b=some (.lst c)/\a.length+c.length<=sizeLine/\Q .non (upd H l (.lst (a++c)))
def RT:Tj X "list.extend" Lk:=by
 intro dD s σ H x vs v us Q I rx rv h;obtain⟨l,b,xs,zs,rfl,rfl,hH,hB,hz,q⟩:=h;cases rx;obtain⟨u,rfl,ru⟩:=rv.one;cases ru;obtain⟨z,its,n,r,hl,e⟩:=I.lstM hH;obtain⟨z2,its2,n2,r2,hl2,e2⟩:=I.lstM hB;have hsz:its.toArray.size+its2.toArray.size<=sizeLine:=by rw[aas,aas];omega
 have hlong:¬(!its.toArray.isEmpty&&Builtin.List.listTooLong (its.toArray.size+its2.toArray.size))=true:=by rw[Ib hsz,Bool.and_false];exact aaG
 refine call_meets F.slot_list_extend ⟨_,e,8⟩ F.entry_list_extend (F.args_list_extend_2 _ _)
  (AutoSeq1.list_extend_list_list_0 l its.toArray n b its2.toArray n2 hlong (by rw[aas];omega) 05) ⟨e,e2,?_⟩;refine⟨.non,_,I.lset (its':=its++its2) hH e 04 (r.append r2) ?_,8,q⟩;rw[aaw];omega
def Zq:V->List V->Hp->VK->Prop:=λx vs H Q=>∃l a y,x=.ref l/\vs=[]/\H l=some (.lst a)/\a[a.length-1]?=some y/\Q y (upd H l (.lst a.dropLast))
def YX:Tj X "list.pop" Zq:=by
 intro f s A H x vs v B Q I o p h;obtain⟨l,w,y,rfl,rfl,d,g,q⟩:=h;cases o;have b:=p.zero;subst b;obtain⟨z,a,n,r,i,e⟩:=I.lstM d;obtain⟨u,j,m⟩:=r.get g;have c:a.toArray[a.toArray.size-1]?=some u:=by show a.toArray[a.length-1]?=some u;rw[<-acv,<-i];exact j
 refine call_meets F.slot_list_pop ⟨_,e,8⟩ F.entry_list_pop (F.args_list_pop_1 _) (MeetsSeq.list_pop_last l a.toArray n u c (by rw[aas];omega)) ⟨e,?_⟩;refine⟨y,_,I.lset (its':=a.dropLast) d e ?_ r.dropLast ?_,m,q⟩
 ·show a.toArray.eraseIdxIfInBounds (a.toArray.size-1)=a.dropLast.toArray;rw[aas,adc,Am]
 ·rw[List.length_dropLast];omega
noncomputable def Pb:V->List V->Hp->VK->Prop:=λx vs H Q=>∃l a i k y,x=.ref l/\vs=[.int i]/\H l=some (.lst a)/\-(2 ^ 63)<=i/\i<2 ^ 63/\seqIndex? i a.length=some k/\a[k]?=some y/\Q y (upd H l (.lst (a.eraseIdx k)))
def Jf:Tj X "list.pop" Pb:=by
 intro d s D H x vs v E Q I B C h;obtain⟨l,f,i,k,y,rfl,rfl,c,g,j,hk,m,q⟩:=h;cases B;obtain⟨u,rfl,o⟩:=C.one;obtain⟨t,rfl⟩:=o;obtain⟨z,a,n,r,p,e⟩:=I.lstM c;obtain⟨w,A,b⟩:=r.get m;refine call_meets F.slot_list_pop ⟨_,e,8⟩ F.entry_list_pop (F.args_list_pop_2 _ _)
  (MeetsSeq.list_pop_at l a.toArray n i t k w (fitsIndex_both g j) (by rw[aas,<-p];exact hk) (by rw[<-acv];exact A) (by rw[aas];omega)) ⟨e,?_⟩;refine⟨y,_,I.lset (its':=a.eraseIdx k) c e ?_ (r.eraseIdx k) ?_,b,q⟩
 ·show a.toArray.eraseIdxIfInBounds k=(a.eraseIdx k).toArray;rw[adc]
 ·have:=ug f k;omega
def QJ:V->List V->Hp->VK->Prop:=λx vs H Q=>∃l a,x=.ref l/\vs=[]/\H l=some (.lst a)/\Q .non (upd H l (.lst []))
noncomputable def Fo:Tj X "list.clear" QJ:=by intro d s m H x vs v o Q I f g h;obtain⟨l,i,rfl,rfl,c,q⟩:=h;cases f;have a:=g.zero;subst a;obtain⟨z,b,n,r,j,e⟩:=I.lstM c;refine call_meets F.slot_list_clear ⟨_,e,8⟩ F.entry_list_clear (F.args_list_clear_1 _) (AutoSeq1.list_clear_list_0 l b.toArray n (by rw[aas];omega)) ⟨e,?_⟩;exact⟨.non,_,I.lset (its':=[]) (ys:=[]) c e rfl .nil (aaU _),8,q⟩
def Xp:R2:=λx y H Q=>∃l b a c,x=.ref l/\y=.ref b/\H l=some (.lst a)/\H b=some (.lst c)/\a.length+c.length<=sizeLine/\∀p,H p=none->Q (.ref p) (upd H p (.lst (a++c)))
def R9:ni X (binaryOp .Add) Xp:=by
 intro d s E H x y v u Q I o p h;obtain⟨l,b,w,A,rfl,rfl,g,i,B,q⟩:=h;cases o;cases p;obtain⟨z,c,n,r,C,e⟩:=I.lstM g;obtain⟨z2,a,D,r2,j,m⟩:=I.lstM i;refine PySem.P.add_list e m ?_ (by rw[aas,aas];omega);have f:c.toArray++a.toArray=(c++a).toArray:=by simp
 rw[f];exact⟨.ref _,_,I.lnew (t':=s.toks) (r.append r2) (by rw[aaw];omega),8,q _ I.fresh⟩
end
section
variable{κ:Type}[DecidableEq κ]
noncomputable def jj(a:List (κ×V))(k:κ):Option V:=(a.find? λb=>decide (b.1=k)).map (·.2)
noncomputable def putK(a:List (κ×V))(k:κ)(v:V):List (κ×V):=
 if (a.any λb=>decide (b.1=k))=true then a.map (λb=>if b.1=k then (b.1,v)else b)else a++[(k,v)]
def pC{p:κ×V}{r:List (κ×V)}{k:κ}(e:p.1=k):jj (p::r) k=some p.2:=by simp[jj,abE,e]
def mD{p:κ×V}{r:List (κ×V)}{k:κ}(e:¬p.1=k):jj (p::r) k=jj r k:=by simp[jj,abE,e]
theorem oX (k:κ):∀ a:List (κ×V),(a.any λ b=>decide (b.1=k))=(jj a k).isSome
 |[]=>rfl
 | p::r=>by
   rw [abr];by_cases e:p.1=k
   ·simp only [pC e,aa6 e,Bool.true_or,Option.isSome_some]
   ·rw [mD e,aaR e,Bool.false_or];exact oX k r
def lu(a:List (κ×V))(k:κ)(v:V):(putK a k v).length<=a.length+1:=by
 unfold putK;split
 ·rw[aaf];omega
 ·rw[aaw,aaz,abo];omega
def Fx{a:List (κ×V)}{k:κ}(v:V)(h:jj a k=none):putK a k v=a++[(k,v)]:=by unfold putK;rw[oX,h];exact aab 02
theorem lR.isSome_eq(r:lR o u):o.isSome=u.isSome:=by
 cases o with
 | none=>cases u with
   |none=>rfl
   |some _=>exact(show False from r).elim
 | some _=>cases u with
   |none=>exact(show False from r).elim
   |some _=>rfl
theorem KV.val{a:List (κ×V)}{vs:List (κ×Value)}(r:KV a vs)(k:κ):lR (jj a k) (valueAt vs k):=by
 unfold KV at r;induction r with
 |nil=>exact aaJ
 | @cons p q j d h t i=>
   obtain⟨f,g⟩:=h;by_cases e:p.1=k
   ·have c:q.1=k:=f.symm.trans e;have b:valueAt (q::d) k=some q.2:=by simp[valueAt,abE,c]
    rw[pC e,b];exact g
   ·have c:¬q.1=k:=λz=>e (f.trans z);have b:valueAt (q::d) k=valueAt d k:=by simp[valueAt,abE,c]
    rw[mD e,b];exact i
theorem KV.any{a:List (κ×V)}{vs:List (κ×Value)}(r:KV a vs)(k:κ):(a.any λb=>decide (b.1=k))=vs.any λb=>decide (b.1=k):=by
 unfold KV at r;induction r with
 |nil=>rfl
 |cons h t c=>rw [abr,abr,c,h.1]
theorem KV.repl(r:KV b vs)(k:κ)(g:RelV y u):
 KV (b.map λa=>if a.1=k then(a.1,y)else a) (vs.map λa=>if a.1=k then(a.1,u)else a):=by
 unfold KV at r|-;induction r with
 |nil=>exact .nil
 | @cons p q i j h t f=>
   rw[aay,aay];refine .cons ?_ f;obtain⟨c,d⟩:=h;by_cases e:p.1=k
   ·rw[aac e,aac (c.symm.trans e)];exact⟨c,g⟩
   ·rw[aab e,aab (λz=>e (c.trans z))];exact⟨c,d⟩
def KV.put(r:KV a vs)(k:κ)(b:RelV y u):KV (putK a k y) (stored vs k u):=by
 unfold putK stored;rw [r.any k];by_cases e:(vs.any λc=>decide (c.1=k))=true
 ·rw [aac e,aac e];exact r.repl k b
 ·rw [aab e,aab e];exact Paired.snoc r ⟨8,b⟩
def KV.length{a:List (κ×V)}{vs:List (κ×Value)}(r:KV a vs):a.length=vs.length:=aaS r
end
theorem qJ(r:RelV (kV k) u):(gW P w).is k u=true:=by
 cases k with
 |inl i=>obtain⟨t,e⟩:=(show∃t,u=Value.int i t from r);subst e;exact yL P w i t
 |inr x=>obtain⟨t,e⟩:=(show∃t,u=Value.str x t from r);subst e;exact xx P w x t
theorem uA:∀{a:List Key}{b:Y3},Vals (a.map kV) b->ItemsAre (gW P w) a b
 |[],_,r=>by rw[ab3]at r;cases r;exact .nil
 | k::a,_,r=>by
   rw[aay]at r;cases r with
   |cons h t=>exact .cons (qJ h) (uA t)
abbrev KT(H:Hp):List (List Key×V)->List (List Key×Addr×Value)->Prop:=Paired λp q=>p.1=q.1/\H q.2.1=some (.tup (p.1.map kV))/\RelV p.2 q.2.2
theorem KT.val{H:Hp}{a:List (List Key×V)}{g:List (List Key×Addr×Value)}(r:KT H a g)(k:List Key):lR (jj a k) ((atKey g k).map (·.2)):=by
 induction r with
 |nil=>exact aaJ
 | @cons p q l d h t j=>
   obtain⟨f,_,i⟩:=h;by_cases e:p.1=k
   ·have c:q.1=k:=f.symm.trans e;have b:atKey (q::d) k=some q.2:=by simp[atKey,abE,c]
    rw[pC e,b];exact i
   ·have c:¬q.1=k:=λz=>e (f.trans z);have b:atKey (q::d) k=atKey d k:=by simp[atKey,abE,c]
    rw[mD e,b];exact j
theorem KT.repl{H:Hp}{a:List (List Key×V)}{f:List (List Key×Addr×Value)}(r:KT H a f)(k:List Key){y:V}{u:ZI}(j:RelV y u):
 KT H (a.map λc=>if c.1=k then(c.1,y)else c) (f.map (putAt k u)):=by
 induction r with
 |nil=>exact .nil
 | @cons p q l m h t i=>
   rw[aay,aay];refine .cons ?_ i;obtain⟨b,d,g⟩:=h;unfold putAt;by_cases e:p.1=k
   ·rw[aac e,aac (b.symm.trans e)];exact⟨b,d,j⟩
   ·rw[aab e,aab (λz=>e (b.trans z))];exact⟨b,d,g⟩
def KT.put{H:Hp}{a:List (List Key×V)}{c:List (List Key×Addr×Value)}(r:KT H a c)(k:List Key){b:Zl}{y:V}{u:ZI}(g:H b=some (.tup (k.map kV)))(d:RelV y u):
 KT H (putK a k y) (storedH c k b u):=by
 have e:(a.any λf=>decide (f.1=k))=(atKey c k).isSome:=by rw [oX,(r.val k).isSome_eq,acY]
 unfold putK storedH;rw [e];by_cases q:(atKey c k).isSome=true
 ·rw [aac q,aac q];exact r.repl k d
 ·rw [aab q,aab q];exact Paired.snoc r ⟨8,g,d⟩
def KT.keeps{H d:Hp}(r:KT H a e)(f:∀b c,H b=some (.tup c)->d b=some (.tup c)):KT d a e:=
 Paired.mapP r λ_ _ z=>⟨z.1,f _ _ z.2.1,z.2.2⟩
def Nf(ok:my P w H h)(e:Rd H a u):gq P w H h a u:=e.ok ok
def rE(ok:my P w H h)(e:Rd H a (.dK b)):b.length<=sizeLine/\(a==sysModules)=false/\∃vs,KV b vs/\h.DictOf (gW P w) a vs:=
 show gq P w H h a (.dK b)from Nf ok e
def yl(ok:my P w H h)(e:H a=some (.dK b)):b.length<=sizeLine/\(a==sysModules)=false/\∃vs,KV b vs/\h.DictOf (gW P w) a vs:=rE ok (.inl e)
noncomputable def qN(ok:my P w H h)(e:H a=some (.tup (c.map kV))):(tupleKind (gW P w)).is h c a:=by obtain⟨_,b,r,o,d,f,n,g⟩:=(show gq P w H h a (.tup (c.map kV))from ok a _ e);exact⟨o,b.toArray,n,d,f,g,by simpa using uA r⟩
def xF(ok:my P w H h)(e:Rd H a (.dT b)):b.length<=sizeLine/\(a==sysModules)=false/\
 ∃d,KT H b d/\h.DictOfH (tupleKind (gW P w)) a d:=by
 obtain⟨z,y,d,r,o,g,i,j,n,s,v,A⟩:=(show gq P w H h a (.dT b)from Nf ok e);refine⟨z,y,d,r,o,g,i,j,n,s,v,λx c=>?_,A⟩;have all:∀{l:List (List Key×V)}{m:List (List Key×Addr×Value)},KT H l m->∀x∈m,(tupleKind (gW P w)).is h x.1 x.2.1:=by
  intro l m q;induction q with
  |nil=>intro x c;exact nomatch c
  | @cons p q C D f t B=>
    intro x c;rcases aag.mp c with e|c
    ·subst e;exact qN ok (by rw[<-f.1];exact f.2.1)
    ·exact B x c
 exact all r x c
def VG(ok:my P w H h)(e:H a=some (.dT b)):b.length<=sizeLine/\(a==sysModules)=false/\
 ∃c,KT H b c/\h.DictOfH (tupleKind (gW P w)) a c:=xF ok (.inl e)
def j6(H:Hp)(a:Zl)(y:V)(r:Option V):Prop:=
 (∃c k,Rd H a (.dK c)/\y=kV k/\r=jj c k)\/∃c k b,Rd H a (.dT c)/\y=.ref b/\H b=some (.tup (k.map kV))/\r=jj c k
def nY(H:Hp)(a:Zl)(y v:V)(d:Hp):Prop:=
 (∃c k,H a=some (.dK c)/\y=kV k/\c.length<sizeLine/\d=upd H a (.dK (putK c k v)))\/
 ∃c k b,H a=some (.dT c)/\y=.ref b/\H b=some (.tup (k.map kV))/\c.length<sizeLine/\d=upd H a (.dT (putK c k v))
def j6.k{H:Hp}{a:Zl}{b:List (Key×V)}{k:Key}(e:H a=some (.dK b)):j6 H a (kV k) (jj b k):=.inl ⟨b,k,.inl e,8,8⟩
def nY.k{H:Hp}{a:Zl}{b:List (Key×V)}{k:Key}{v:V}(e:H a=some (.dK b))(c:b.length<sizeLine):nY H a (kV k) v (upd H a (.dK (putK b k v))):=.inl ⟨b,k,e,8,c,8⟩
section
variable{X:Cx}{dD:YN}{σ:St}{H:Hp}{s:Zp}{a:Zl}{y v:V}{u r:ZI}{o:Option V}{A:ZO}{E:ZY}
def Inv.big(I:Inv X dD σ H s):sysModules<s.heap.objs.size:=by have h:mainGlobals<s.heap.objs.size:=(I.mod.glob.keeps I.bk).lt;exact Nat.lt_trans 02 h
def Cp(D:A.units+1<cLine)(I:Inv X dD σ H s)(g:j6 H a y (some v))(w:RelV y u)(h:∀f q,Inv X dD σ H q->RelV v f->Q f q):
 wpAny 00 A (getItem (.ref a) u) Q E s:=by
 rcases g with⟨m,k,e,n,l⟩|⟨m,k,b,e,n,C,l⟩
 ·subst n;obtain⟨z,hd,vs,c,dd⟩:=rE I.hok e;obtain⟨f,i,d⟩:=lR.some_of (v:=v) (o:=valueAt vs k) (by rw[l];exact c.val k);exact wpAny_getItem_of (qJ w) dd.mapOf i (h f _ (I.tok _) d)
 ·subst n;cases(show u=Value.ref b from w);obtain⟨z,hd,x,c,dd⟩:=xF I.hok e;obtain⟨f,i,d⟩:=lR.some_of (v:=v) (o:=(atKey x k).map (·.2)) (by rw[l];exact c.val k);obtain⟨p,B,j⟩:=abk.mp i;refine wpAny_getItem_heap (tupleKind_room_in1 D) (qN I.hok C) dd B ?_;rw[j];exact h f _ (I.tok _) d
def YF(n:A.units+1<cLine)(I:Inv X dD σ H s)(g:j6 H a y o)(j:RelV y u)(h:∀i,Inv X dD σ H i->Q (.bool o.isSome) i):
 wpAny 00 A (compareOp .In u (.ref a)) Q E s:=by
 rcases g with⟨d,k,e,f,l⟩|⟨d,k,b,e,f,m,l⟩
 ·subst f;obtain⟨z,hd,vs,c,dd⟩:=rE I.hok e;refine wpAny_in_of (qJ j) hd dd.mapOf ?_;rw[<-(c.val k).isSome_eq,<-l];exact h _ (I.tok _)
 ·subst f;cases(show u=Value.ref b from j);obtain⟨z,hd,p,c,dd⟩:=xF I.hok e;refine wpAny_in_heap (tupleKind_room_in1 n) (qN I.hok m) hd dd ?_;have q:=(c.val k).isSome_eq;rw[acY]at q;rw[<-q,<-l];exact h _ (I.tok _)
def L_(n:A.units+1<cLine)(I:Inv X dD σ H s)(g:j6 H a y o)(j:RelV y u)(h:∀i,Inv X dD σ H i->Q (.bool (!o.isSome)) i):
 wpAny 00 A (compareOp .NotIn u (.ref a)) Q E s:=by
 rcases g with⟨d,k,e,f,l⟩|⟨d,k,b,e,f,m,l⟩
 ·subst f;obtain⟨z,hd,vs,c,dd⟩:=rE I.hok e;refine wpAny_notIn_of (qJ j) hd dd.mapOf ?_;rw[<-(c.val k).isSome_eq,<-l];exact h _ (I.tok _)
 ·subst f;cases(show u=Value.ref b from j);obtain⟨z,hd,p,c,dd⟩:=xF I.hok e;refine wpAny_notIn_heap (tupleKind_room_in1 n) (qN I.hok m) hd dd ?_;have q:=(c.val k).isSome_eq;rw[acY]at q;rw[<-q,<-l];exact h _ (I.tok _)
def qu(I:Inv X dD σ H s)(g:U9 (H a))(h:Heap.SameBut a s.heap c)(i:∃q,c.get? a=some q)(new:gq X.prog X.w (upd H a d) c a d):
 Inv X dD σ (upd H a d) {s with heap:=c,toks:=t'}:=
 I.write (x:=a) (e:=a) g 012 (λb q f z=>(h.2 b f).trans z) i new
def vM(z:b.length<=sizeLine)(hd:(a==sysModules)=false)(c:KV b vs)(dd:d.DictOf (gW P w) a vs):
 gq P w e d a (.dK b):=⟨z,hd,vs,c,dd⟩
def Dm{Q:Unit->Shared->Prop}(W:A.units+1<cLine)(I:Inv X dD σ H s)(g:nY H a y v G)(J:RelV y u)(L:RelV v r)(h:∀D,Inv X dD σ G D->Q () D):
 wpAny 00 A (setItem (.ref a) u r) Q E s:=by
 rcases g with⟨f,k,e,w,l,x⟩|⟨f,k,b,e,w,F,l,x⟩
 ·subst w x;obtain⟨z,hd,vs,d,dd⟩:=yl I.hok e;have n:vs.length<=sizeLine:=by rw[<-d.length];exact z
  have p:(putK f k v).length<=sizeLine:=by have:=lu f k v;omega
  refine wpAny_setItem_pairs (hsz:=n) (qJ J) dd λB i m=>h _ ?_;have M:∃q,B.get? a=some q:=let⟨q,_,_,j,_⟩:=i;⟨q,j⟩
  exact qu I (by rw[e];exact aaJ) m M (vM p hd (d.put k L) i)
 ·subst w x;cases(show u=Value.ref b from J);obtain⟨z,hd,N,d,dd⟩:=VG I.hok e;have n:N.length<=sizeLine:=by rw[<-aaS d];exact z
  have p:(putK f k v).length<=sizeLine:=by have:=lu f k v;omega
  refine wpAny_setItem_heap (hsz:=n) (tupleKind_room_in1 W) (qN I.hok F) dd λB i m=>h _ ?_;obtain⟨q,O,P,j,R,S,T,_,U⟩:=i;refine qu I (by rw[e];exact aaJ) m ⟨q,j⟩ ⟨p,hd,_,(d.put k F L).keeps λc Y C=>?_,q,O,P,j,R,S,T,U⟩;rw[b8 (iV C e (λz=>nomatch z))];exact C
end
noncomputable def VM(I:Inv X d g H s)(e:Rd H a (.dK f))(h:∀t c,Inv X d g H c->Q (.int f.length t) c):wpAny 00 A (call (.builtin "len") [.ref a]) Q E s:=by obtain⟨z,hd,vs,b,dd⟩:=rE I.hok e;refine call_len_dict hd dd (by rw[<-b.length];rw[sizeLine_eq]at z;omega) ?_;rw[<-b.length];exact h _ _ (I.tok _)
def Vp(i:ZT):Prop:=∀a b,subscripted i false a b=operate [a,b] (getItem a b)
def JZ{a:ZE}{w:ZH}{A:ZO}{E:ZY}{s:Zp}{env:Env}{c b:ZT}{n:Pos}{T q:String}{Q:ZY}
 (v:typeLookup (.type T) "__getitem__"=pure (some (.builtin q)))(y:Vp b)
 (h:wpAny (model a w) A (eval c env) (λo f=>wpAny (model a w) A (eval b env) (λi d=>d.TypeIs o T/\wpAny (model a w) A (getItem o i) Q E d) E f) E s):
 wpAny (model a w) A (eval (.Subscript c b n) env) Q E s:=by
 refine Subscript_ (aaF h (λo f l=>aaF l (λi d e=>?_) λ_ _ x=>x) λ_ _ x=>x);obtain⟨p,e⟩:=e;unfold subscriptTail;refine aaa ?_;rw[getitemInPython_of_ne p.not_modules];refine aaa (wpAny_specialOf p v ?_);have j:wpAny (model a w) A (subscripted b false o i) (λr g=>wpAny (model a w) A (letTemporaryGo c o r>>=λ_=>pure r) Q E g) E d:=by rw[y o i];exact wpAny_operating (aaF e (λr g m=>aaa (wpAny_letTemporaryGo (aad m))) λ_ _ x=>x)
 first
  |exact aad (aaa j)
  |exact aaa (aad (aaa j))
  |exact aaa j
def yf(I:Inv X c f H s)(g:j6 H a y o):s.TypeIs (.ref a) "dict":=by
 rcases g with⟨d,k,e,_,_⟩|⟨d,k,b,e,_,_,_⟩
 ·obtain⟨_,_,vs,_,dd⟩:=rE I.hok e;exact dd.typeIs
 ·obtain⟨_,_,h,_,dd⟩:=xF I.hok e;exact dd.typeIs
def TV(e ty:TE):TE:=λb H Q=>e b H λx d=>ty b d λy c=>∃a v,x=.ref a/\j6 c a y (some v)/\Q v c
def Y9(ty e:TE):TE:=λb H Q=>ty b H λy d=>e b d λx c=>∃a o,x=.ref a/\j6 c a y o/\Q (.bl o.isSome) c
def JN(ty e:TE):TE:=λb H Q=>ty b H λy d=>e b d λx c=>∃a o,x=.ref a/\j6 c a y o/\Q (.bl (!o.isSome)) c
def Vh(g ty h:TE):TS:=λD b H=>h b H λv d=>g b d λx e=>ty b e λy f=>∃a c,x=.ref a/\nY f a y v c/\D.nx b c
noncomputable def fZ{X:Cx}(z:X.A.units+1<cLine)(ho:PE X o e)(A:PE X i ty)(B:Vp i:=by intro _ _;rfl):PE X (.Subscript o i G) (TV e ty):=by intro b s f H Q I h;refine JZ PySem.F.slot_dict_getitem.lookup B (fQ (ho b s f H _ I h) λu j⟨x,l,m,n,q1⟩=>fQ (A b j f l _ m q1) λC D⟨y,p,d,q,a,v,r,g,q2⟩=>?_);subst r;obtain rfl:u=Value.ref a:=n;exact⟨yf d g,Cp z d g q λE F w c=>⟨v,p,w,c,q2⟩⟩
noncomputable def Q5{X:Cx}(w:X.A.units+1<cLine)(z:PE X i ty)(ho:PE X o e):PC X .In i o (Y9 ty e):=by intro b s c H Q I h;refine fQ (z b s c H _ I h) λA d⟨y,f,j,l,q1⟩=>fQ (ho b d c f _ j q1) λu B⟨x,m,n,p,a,q,r,g,q2⟩=>?_;subst r;obtain rfl:u=Value.ref a:=p;exact YF w n g l λC v=>⟨.bl q.isSome,m,v,8,q2⟩
noncomputable def uO{X:Cx}(hu:X.A.units+1<cLine)(hi:PE X i ty)(ho:PE X o td):PC X .NotIn i o (JN ty td):=by intro dD s σ H Q I h;refine fQ (hi dD s σ H _ I h) λiv s1⟨y,H1,I1,ry,q1⟩=>fQ (ho dD s1 σ H1 _ I1 q1) λu s2⟨x,H2,I2,rx,a,ov,ex,g,q2⟩=>?_;subst ex;obtain rfl:u=Value.ref a:=rx;exact L_ hu I2 g ry λs3 I3=>⟨.bl (!ov.isSome),H2,I3,8,q2⟩
def jr{X:Cx}{Q:Pos}(F:X.A.units+1<cLine)(ho:PE X o S)(G:PE X i ty)(J:PE X e T)(L:swapsWith e (some (.Subscript o i R)) Q.line X.env=pure false):
 PS X (.Assign [.Subscript o i R] e Q) (Vh S ty T):=by
 intro b s c H D I h;refine wpAny_Assign_Subscript (fQ (J b s c H _ I h) λr d⟨v,f,j,l,q1⟩=>fQ (ho b d c f _ j q1) λu m⟨x,n,p,q,q2⟩=>fQ (G b m c n _ p q2) λM N⟨y,O,w,z,a,A,B,g,C⟩=>?_) L;subst B;obtain rfl:u=Value.ref a:=q;exact Dm F w g z l λP E=>⟨c,A,E,C⟩
def rG(h:ZN)(a:sysModules<h.objs.size):gq P w H (h.push {cls:=.type "dict",data:=.dict #[]}) h.objs.size (.dK []):=
 ⟨aaU _,abz.mpr (aaC (aar a)),[],.nil,Heap.DictOf.new h⟩
def PX:TE:=λ_ H Q=>∀p,H p=none->Q (.ref p) (upd H p (.dK []))
noncomputable def rZ:PE X (.Dict [] [] d) PX:=λb s c H Q I h=>wpAny_Dict_empty ⟨.ref s.heap.objs.size,_,I.laid (a:=s.heap.objs.size) (o:=.dK []) (t':=s.toks) (λ_ _ q=>aaj _ q) 014 (rG s.heap I.big),8,h _ (I.hok.fresh 014)⟩
def zF:List (TE×TE)->St->Hp->(List (V×V)->Hp->Prop)->Prop
 |[],_,H,Q=>Q [] H
 |(tk,tv)::r,σ,H,Q=>tk σ H λx a=>tv σ a λy b=>zF r σ b λc d=>Q ((x,y)::c) d
abbrev VV:List (V×V)->List (Value×Value)->Prop:=Paired λp q=>RelV p.1 q.1/\RelV p.2 q.2
def WK(X:Cx)(d:Pos)(keys:List (Option Expr))(a:YU)(e:List (TE×TE)):Prop:=
 ∀(b:YN)(s:Zp)(c:St)(H:Hp)(Q:List (V×V)->Hp->Prop),Inv X b c H s->zF e c H Q->
   wpAny 00 X.A (evalPairs (pairTrees keys a X.env d)) (λvs h=>∃f g,Inv X b c g h/\VV f vs/\Q f g) X.xe s
def Cg:WK X a [] [] []:=λb s c H Q I h=>pairTrees_nil_walk ⟨[],H,I,.nil,h⟩
def mF{X:Cx}{b:Pos}{k v:ZT}{f:List (Option Expr)}{vs:YU}{tk g:TE}{c:List (TE×TE)}(hk:PE X k tk)(B:PE X v g)(C:WK X b f vs c):
 WK X b (some k::f) (v::vs) ((tk,g)::c):=λa s d H Q I h=>
 pairTrees_cons_walk (fQ (hk a s d H _ I h) λu i⟨x,j,l,m,q1⟩=>fQ (B a i d j _ l q1) λD n⟨y,o,p,q,q2⟩=>fQ (C a n d o _ p q2) λE F⟨r,w,z,e,A⟩=>⟨(x,y)::r,w,z,.cons ⟨m,q⟩ e,A⟩)
noncomputable def pI(c a:List (Key×V)):List (Key×V):=a.foldl (λb d=>putK b d.1 d.2) c
theorem KV.merge:∀{a:List (Key×V)}{c:List (Key×Value)}{b:List (Key×V)}{vs:List (Key×Value)},KV a c->KV b vs->KV (pI b a) (merged vs c):=by
 intro a c b vs r;unfold KV at r;induction r generalizing b vs with
 |nil=>intro q;exact q
 | @cons p q g i h t f=>
   intro d;have e:KV (putK b p.1 p.2) (stored vs q.1 q.2):=by have:=d.put p.1 h.2;rw[<-h.1];exact this
   exact f e
theorem nO:∀(b a:List (Key×V)),(pI a b).length<=a.length+b.length
 |[],a=>by show a.length<=a.length+0;omega
 | p::r,a=>by have c:=nO r (putK a p.1 p.2);have d:=lu a p.1 p.2;show(pI (putK a p.1 p.2) r).length<=_;rw[aaz];omega
theorem tH:∀{d:List (Key×V)}{g:List (Value×Value)},VV (d.map λf=>(kV f.1,f.2)) g->∃e,Carries (gW P w) g e/\KV d e
 |[],_,r=>by rw[ab3]at r;cases r;exact⟨[],aaJ,.nil⟩
 | p::d,_,r=>by
   rw[aay]at r;cases r with
   | @cons a b l bs h t=>obtain⟨e,c,q⟩:=tH (P:=P) (w:=w) t;obtain⟨j,i⟩:=b;exact⟨(p.1,i)::e,⟨qJ h.1,8,c⟩,.cons ⟨8,h.2⟩ q⟩
noncomputable def V_(b:List (TE×TE)):TE:=λe H Q=>∀p,H p=none->zF b e (upd H p (.dK [])) λf c=>c p=some (.dK [])/\∃a:List (Key×V),f=a.map (λd=>(kV d.1,d.2))/\a.length<=15/\Q (.ref p) (upd c p (.dK (pI [] a)))
def BL{X:Cx}{i:Pos}{keys:List (Option Expr)}{b:YU}{j:List (TE×TE)}(h:WK X i keys b j)(l:keys.all (·.isSome)=true)(N:keys.length=b.length)(O:keys≠[])
 (n:keys.length<=15):PE X (.Dict keys b i) (V_ j):=by
 intro g s M H Q I q;have y:=I.hok.fresh (aae s.heap.objs.size);have A:=I.laid (a:=s.heap.objs.size) (o:=.dK []) (h':=s.heap.push {cls:=.type "dict",data:=.dict #[]}) (t':=s.toks) (λ_ _ q=>aaj _ q) 014 (rG s.heap I.big);refine wpAny_Dict_walk (knd:=gW X.prog X.w) l N O n (fQ (h g _ M _ _ A (q _ y)) λR S⟨T,U,p,m,e,d,v,W,q2⟩=>?_);subst v;obtain⟨F,c,G⟩:=tH (P:=X.prog) (w:=X.w) m;obtain⟨z,hd,J,L,dd⟩:=yl p.hok e;cases L;refine⟨F,c,dd,λr f x=>⟨.ref s.heap.objs.size,_,?_,8,q2⟩⟩;have B:(pI [] d).length<=sizeLine:=by have C:=nO d [];rw[abo]at C;rw[sizeLine_eq];omega
 have D:∃q,r.get? s.heap.objs.size=some q:=let⟨q,_,_,E,_⟩:=f;⟨q,E⟩
 exact qu p (by rw[e];exact aaJ) x D (vM B hd (G.merge .nil) f)
structure M1(X:Cx)(o:ZT)(m:Str)(apos:Pos)(e:ZT)(cpos:Pos):Prop where
 base:attributeBase o m X.env (eval o X.env)=eval o X.env
 few:((backTo cpos (starEach [e] X.env)).all (λx=>!x.1)&&(backToKw cpos (keywordEach [] X.env)).all (λx=>x.1.isSome)&&decide (([e]:YU).length+([]:List Keyword).length+(if ([]:List Keyword).isEmpty then 0 else 1)<30))=true
 line:(apos.endLine==cpos.line)=true
 trees:backTo cpos (starEach [e] X.env)=[(false,eval e X.env)]
noncomputable def FP(I:Inv X l n H s)(e:Rd H a (.dK m))(h:∀p g,H p=none->Inv X l n (upd H p (.dK m)) g->Q (.ref p) g):wpAny 00 A (call (.type "dict") [.ref a]) Q E s:=by obtain⟨z,hd,vs,c,dd⟩:=rE I.hok e;refine kt_call_dict hd dd (by rw[<-c.length];exact z) λj d i=>?_;refine h _ _ (I.hok.fresh 014) (I.laid (a:=s.heap.objs.size) (o:=.dK m) (t':=s.toks) (λb q f=>?_) 014 (vM z (abz.mpr (aaC (aar I.big))) c d));exact(i.2 b (aar (aak f))).trans (aaj _ f)
end L2
namespace Att
open PySem PySem.W PySem.Calls PyProof.Rows
theorem qd:∀(c:List Int)(vs:Y3),WellAll P h vs (c.map WData.int)->IntsAre vs c:=by
 intro c;induction c with
 | nil=>intro vs w;rw[ab3]at w;cases w;exact .nil
 | cons n c d=>
   intro vs w;rw[aay]at w;cases w with
   | cons a b=>cases a;exact .cons _ _ (d _ b)
theorem Dq{l:OpenLaw}(B:l.most=some n){h:ZN}
 (f:l.row.toRowW.claim.pre b=true)(p:WellAll P h e b):
 ∃a vs c,e=[Value.ref a]/\b=[WData.list (c.map WData.int)]/\h.get? a=some {cls:=.type "list",data:=.seq vs.toArray}/\IntsAre vs c/\c.length<=n:=by
 have o:WShape.hasAll [] b [.list .int]=true:=(pre_splitW f).1;have s:l.pre.holds [] {args:=b}=true:=(pre_splitW f).2;obtain⟨d,r,rfl,w,x⟩:=hasAllW_cons o;obtain rfl:=hasAllW_nil x;obtain⟨C,rfl,y⟩:=hasW_list w;obtain⟨c,rfl⟩:=items_int y;have g:c.length<=n:=by
  unfold OpenLaw.pre at s;have j:(WTm.not (.lt (.lit (.int (n:Int))) (.len (.arg 0)))).holds [] {args:=[.list (c.map .int)]}=true:=by have j:=(holds_andW s).1;rw[B]at j;exact j
  have m:=condW_of j (w_not (w_lt w_lit (w_len_list (w_arg rfl))));rw[aaf]at m;refine Nat.le_of_not_lt λq=>?_;have v:(n:Int)<((c.length:Nat):Int):=by omega
  first
   |(rw[aa6 v]at m;exact absurd m 02)
   |(simp at m;omega)
 cases p with
 | cons z A=>
   cases A;cases z with
   |list ho i=>exact⟨_,_,c,8,8,ho,qd c _ i,g⟩
def Dz(l:OpenLaw)(a:List WData):l.row.toRowW.claim.post a (.bool true) a=true:=
 postW_of (r:=l.row.toRowW) (X:=(true==true))
  (show WShape.has [] (.bool true) .bool=true by first|rfl|decide|simp[WShape.has,WShape.arms,WShape.armsAll])
  (show(WTm.eq .res (.lit (.bool true))).value [] {args:=a,res:=some (.bool true),after:=a}=some (.bool (true==true))from w_eq_bool (w_res rfl) w_lit) rfl
def xg{l:OpenLaw}{L:World->Heap->Prop}{d:DefRec}
 (W:l.most=some n)(D:d.params.defaults=[])
 (call:∀(w:ZH)(c b:Zp)(v y:Y1)(i:Zl)(o:Obj)(z cd g:ZI)(a:Zl)(vs:Y3)(x:List Int),Ground q e [] J w c v y b.heap->L w b.heap->b.heap.get? i=some o->o.data=.func (docDef d.name d.params d.body d.scope z cd g)->b.heap.CodeRec cd d.name->v d.name=some (.ref i)->b.heap.get? a=some {cls:=.type "list",data:=.seq vs.toArray}->IntsAre vs x->x.length<=n->b.gens=#[]->codeAny (model l.prog w) callerA (.call (.ref i) ⟨[.ref a],[]⟩) (λr s=>r=.ok (.ret (.bool true))/\OldK b.heap s.heap/\s.os=b.os/\AllBare s.gens) b):
 WalkO q e J L l.row.toRowW d [] (λf vs=>PySem.call f vs):=by
 intro w c b v y G Y i o z cd g R kV ho hd A E B S F H X p I T C U;obtain rfl:R=.none:=Dflts.none E D;obtain rfl:kV=.none:=Dflts.noKw E;obtain⟨a,vs,x,rfl,rfl,j,h,m⟩:=Dq W p C;refine enter_call (codeAny_mono (call w c b v y i o z cd g a vs x G Y ho (fd_plain hd) A B j h m S) λr s M=>?_);obtain⟨rfl,O,P,Q⟩:=M;exact⟨.inl ⟨.bool true,.bool true,[],8,λ_=>rfl,.bool true,Dz l _,λ_=>⟨List.Pairwise.nil,λ_ N=>(nomatch N)⟩⟩,O,P,Q⟩
section
variable{prog:ZE}{w:ZH}{A:ZO}{E:ZY}{s:Zp}{K:Zs}
end
end Att
namespace L2
open PySem PySem.Spec PyProof.Rows
theorem uW:∀{vs:Y3}{a:List Int},IntsAre vs a->Vals (a.map V.int) vs
 |_,_,.nil=>.nil
 |_,_,.cons n t h=>.cons ⟨t,8⟩ (uW h)
noncomputable def inClass(s:Stmt)(j:Nat):Stmt:=match s with
 |.ClassDef _ _ _ body _ _ _ _ _ _ _=>body.getD j (.Pass ⟨0,0,0,0⟩)
 |_=>.Pass ⟨0,0,0,0⟩
noncomputable def dI(s:Stmt):Arguments:=match s with
 |.FunctionDef _ a _ _ _ _ _ _ _ _=>a
 |_=>{posonlyargs:=[],args:=[],vararg:=none,kwonlyargs:=[],kw_defaults:=[],kwarg:=none,defaults:=[]}
noncomputable def dq(s:Stmt):List Stmt:=match s with
 |.FunctionDef _ _ b _ _ _ _ _ _ _=>b
 |_=>[]
noncomputable def bK(s:Stmt):Scope:=match s with
 |.FunctionDef _ _ _ _ _ _ sc _ _ _=>sc
 |_=>{kind:=.function,names:=[],isGenerator:=false,isCoroutine:=false}
abbrev dM:wQ:=λ_ _ _ _ _ _=>False
abbrev E0:XK:=λ_ _ _=>False
def dC:iz dM X E0:=λ_ _ _ _ _ _ _ h=>h.elim
structure gU(K:Zs)(x qual:Str)(st:Stmt)(f:Zl)(fd:ZB):Prop where
 ex:∃(oc:ZI)(od:YE)(kV doc pm:ZI)(an:YE)(cdv ct:ZI)(osl:YV),
  fd=PySem.W.fnOf x qual (dI st) (dq st) (bK st) .none kV doc pm an cdv ct/\K.lookup f=some ⟨oc,od,.func fd,osl⟩/\PySem.W.codeIn K cdv qual=true
 kp:PySem.W.keepIn K (.ref f)=true
def gU.ok{P:ZE}{w:ZH}{K:Zs}{C:Y1}{B:ZN}{x b:Str}{e:Stmt}{f:Zl}{m:ZB}{N j:Y2}{k:Nat}{l:Sp}(F:gU K x b e f m)(S:cI N j (bK e))(len:∀vs H Q E,l vs H Q E->vs.length=j.length)
 (d:∀(c:ZI)(A:ZO)(a:List Env)(s:Zp)(H:Hp)(vs:List V)(Q:VK)(E:XK),dX k (A.deeper (envOfC b (bK e) s.heap.objs.size f c))->l vs H Q E->∃t,wR (iD dM P w K C B N b (bK e) f c A a s H E).nox (dq e) t/\t {nx:=λ_ n=>Q .non n,rt:=Q} (start N vs) H):cz P w K C B dM (k+1) f m j l:=by
 obtain⟨oc,od,kV,p,y,an,c,z,r,rfl,v,i⟩:=F.ex;refine xf v i S len λA a s H vs Q E o g=>?_;obtain⟨t,h,q⟩:=d c A a s H vs Q E o g;exact⟨t,h.nox,q⟩
def gU.binds{K:Zs}{x a:Str}{d:Stmt}{f:Zl}{j:ZB}{ps:Y2}(F:gU K x a d f j)
 (h:∀(kV b e:ZI)(an:YE)(c g:ZI)(i:Y3),i.length=ps.length->bindArgs (PySem.W.fnOf x a (dI d) (dq d) (bK d) .none kV b e an c g) ⟨i,[]⟩=pure (ps.zip i)):Binds K j ps []:=by
 obtain⟨oc,od,kV,b,e,an,c,g,l,rfl,n,m⟩:=F.ex;exact .all (h kV b e an c g)
noncomputable def iT{K:Zs}{x a:Str}{st:Stmt}{f:Zl}{oc:ZI}{od an:YE}{e:YV}{kV d g b h:ZI}(l:K.lookup f=some ⟨oc,od,.func (PySem.W.fnOf x a (dI st) (dq st) (bK st) .none kV d g an b h),e⟩)
 (c:PySem.W.codeIn K b a=true)(k:PySem.W.keepIn K (.ref f)=true):gU K x a st f (PySem.W.fnOf x a (dI st) (dq st) (bK st) .none kV d g an b h):=⟨⟨oc,od,kV,d,g,an,b,h,e,8,l,c⟩,k⟩
def oO(a:dX k A):A.units+1<cLine:=abt (Nat.add_le_add_left (by decide:1<=64) _) a.units
def n6(h:n<=1000):n<sizeLine:=abt h 02
def pv(i:Nat)(c:X.N[i]?=some x:=by rfl)(d:Sh X.env.scope x:=by first|exact Or.inl rfl|exact Or.inr 012|exact Or.inr 013)(hd:(x==("__debug__":Str))=false:=by decide)
 (b:(x==("__classdict__":Str))=false:=by decide):PE X (.Name x a) (nM i):=Ou c d hd b
def lD{c A B:Prop}[Decidable c](a:c->A)(b:¬c->B):if c then A else B:=by
 by_cases h:c
 ·rw[aac h];exact a h
 ·rw[aab h];exact b h
def cu(H a:Hp):Prop:=∀b o,H b=some o->a b=some o
def cu.refl(H:Hp):cu H H:=λ_ _ h=>h
def cu.trans(a:cu H d)(b:cu d e):cu H e:=λc o h=>b c o (a c o h)
theorem cu.free(e:cu H a)(h:a l=Option.none):H l=Option.none:=by
 cases q:H l with
 |none=>rfl
 | some o=>rw[e l o q]at h;cases h
def cu.seq{K:Zs}{H b:Hp}{a:Zl}{xs:List V}(e:cu H b)(h:eY K H a xs):eY K b a xs:=by
 rcases h with(h|⟨o,h⟩)|h
 ·exact .inl (.inl (e _ _ h))
 ·exact .inl (.inr ⟨o,e _ _ h⟩)
 ·exact .inr h
noncomputable def Cq:jJ X (.builtin "len") (λc H Q=>∃a b,c=[V.ref a]/\H a=some (.dK b)/\Q (.int b.length) H):=by intro d s j H c l Q I r h;obtain⟨a,b,rfl,f,q⟩:=h;obtain⟨u,rfl,g⟩:=vals1 r;cases g;exact VM I (.inl f) λt i e=>⟨.int b.length,H,e,⟨t,8⟩,q⟩
section
variable{κ:Type}[DecidableEq κ]
def KH{a:List (κ×V)}{k:κ}{v:V}(h:jj a k=some v):k∈a.map (·.1):=by
 have q:(a.any λb=>decide (b.1=k))=true:=by
  rw [oX,h]
  all_goals rfl
 obtain ⟨p,c,e⟩:=ab4.mp q;exact aao.mpr ⟨p,c,acw e⟩
theorem Bu:∀{l:List κ}{k:κ},l.Nodup->¬k∈l->(l++[k]).Nodup
 |[],k,_,_=>by simp
 | a::r,k,h,hk=>by
   obtain⟨b,c⟩:=aaK.mp h;show(a::(r++[k])).Nodup;refine aaK.mpr ⟨λm=>?_,Bu c λm=>hk (aag.mpr (Or.inr m))⟩;rcases aam.mp m with q|q
   ·exact b q
   ·exact hk (aag.mpr (Or.inl (aal.mp q).symm))
end
def o8(d:ZU)(h:∀y∈d.names,y.2=.free->∃c,env.cells.lookup y.1=some c):
 ∃f,closureFor d env=pure f/\(∀x c,f.lookup x=some c->env.cells.lookup x=some c)/\∀x,(x,NameKind.free)∈d.names->∃c,f.lookup x=some c:=by
 have go:∀(a:List (Str×NameKind))(b:YR),(∀y∈a,y.2=.free->∃c,env.cells.lookup y.1=some c)->(∀x c,b.lookup x=some c->env.cells.lookup x=some c)->
  ∃f,(forIn a b λx cs=>(match x with
    |(name,kind)=>if kind==NameKind.free then(do let c<-cellOf env name;pure (ForInStep.yield ((name,c)::cs)))else pure (ForInStep.yield cs):Sem (ForInStep (List (Str×Addr)))))=pure f/\
    (∀x c,f.lookup x=some c->env.cells.lookup x=some c)/\(∀x,(x,NameKind.free)∈a\/(∃c,b.lookup x=some c)->∃c,f.lookup x=some c):=by
  intro a;induction a with
  |nil=>intro b _ o;exact⟨b,8,o,λx z=>z.elim (λq=>nomatch q) id⟩
  | cons y r A=>
    intro b v o;obtain⟨n,k⟩:=y;by_cases hk:k=.free
    ·subst hk;obtain⟨c,w⟩:=v (n,.free) aan rfl;obtain⟨f,e,j,l⟩:=A ((n,c)::b) (λz p=>v z (aai _ p)) (λx g i=>by
      rw[aa7]at i;by_cases q:x==n
      ·rw[q]at i;cases i;rw[aaX.mp q];exact w
      ·rw[ab5]at q;rw[q]at i;exact o x g i);refine⟨f,?_,j,λx z=>l x ?_⟩
     ·rw[abF];simp only[acx,if_true,cellOf,w];exact e
     ·have s:∀x,(∃g,b.lookup x=some g)->∃g,((n,c)::b).lookup x=some g:=λx⟨g,z⟩=>by
       rw[aa7];by_cases q:x==n
       ·rw[q];exact⟨9⟩
       ·rw[ab5]at q;rw[q];exact⟨g,z⟩
      rcases z with z|z
      ·rcases aag.mp z with z|z
       ·cases z;exact .inr ⟨c,by rw[aa7,acx]⟩
       ·exact .inl z
      ·exact .inr (s x z)
    ·have B:(k==NameKind.free)=false:=by simpa using hk
     obtain⟨f,e,j,l⟩:=A b (λz p=>v z (aai _ p)) o;refine⟨f,?_,j,λx z=>l x ?_⟩
     ·rw[abF];simp only[B,abp,if_false];exact e
     ·rcases z with z|z
      ·rcases aag.mp z with z|z
       ·cases z;exact absurd rfl hk
       ·exact .inl z
      ·exact .inr z
 obtain⟨f,e,j,l⟩:=go d.names [] h (λx c z=>by simp at z);refine⟨f,?_,j,λx z=>l x (.inl z)⟩;unfold closureFor;exact(aaB (λ(m:Sem (List (Str×Addr)))=>m>>=λcs=>pure cs) e).trans rfl
def dR(X:Cx)(scope:ZU)(N':Y2)(cl:YR)(C:Zl)(s₀:Zp)(H₀:Hp)(ex:YI):Cx where
 prog:=X.prog
 w:=X.w
 K:=X.K
 mg:=X.mg
 base:=X.base
 A:=X.A
 N:=N'
 s₀:=s₀
 H₀:=H₀
 env:=compEnvC scope cl C X.env
 outer:=X.stack
 stack:=X.stack
 ex:=ex
 fn:=λ_=>false
 calm:=X.calm
 pn:=[]
 xe:=λ_ _=>False
def jD(k:Nat)(a:List Nat)(b:St):St:=List.replicate k none++a.map λj=>(b[j]?).join
def A_(k:Nat)(a:List Nat)(b:St):(jD k a b).length=k+a.length:=by simp[jD]
structure dJ(X:Cx)(scope:ZU)(own:Y2)(js:List Nat)(N':Y2):Prop where
 kind:scope.kind=.function
 nocell:∀y∈scope.names,y.2≠.cell
 names:∀y∈scope.names,y.2=.local->scope.names.lookup y.1=some .local
 free:∀y∈scope.names,y.2=.free->X.env.kindOf y.1=some .cell\/X.env.kindOf y.1=some .free
 nm:N'=own++js.map λj=>X.N.getD j Str.empty
 fr:∀j∈js,j<X.N.length/\(X.N.getD j Str.empty,NameKind.free)∈scope.names/\∀k,(X.N.getD j Str.empty,k)∈scope.names->k=.free
theorem qg{a:List (Str×NameKind)}(h:(x,NameKind.free)∈a)(u:∀k,(x,k)∈a->k=.free):a.lookup x=some .free:=by
 induction a with
 |nil=>cases h
 | cons y r b=>
   obtain⟨n,k⟩:=y;rw[aa7];by_cases q:x==n
   ·rw[q];have e:x=n:=aaX.mp q;subst e;rw[u k aan]
   ·rw[ab5]at q;rw[q];refine b ?_ λk hk=>u k (aai _ hk);rcases aag.mp h with z|z
    ·cases z;rw[acx]at q;cases q
    ·exact z
def q9(h:(x,k)∈(relabel a env).names)(hk:k=.cell\/k=.free)(d:∀y∈a.names,y.2≠.cell):(x,NameKind.free)∈a.names:=by
 unfold relabel at h;obtain⟨⟨n,c⟩,b,e⟩:=aao.mp h;dsimp only at e;by_cases q:(c==NameKind.free&&env.scope.kind==.function&&env.kindOf n==some .cell)=true
 ·rw[aac q]at e;cases e;rw[aaM,aaM]at q;have:c=.free:=by simpa using q.1.1
  rw[<-this];exact b
 ·rw[aab q]at e;cases e;rcases hk with z|z
  ·exact absurd z (d _ b)
  ·rw[<-z];exact b
theorem jK{env:Env}{x:Str}:∀{a:List (Str×NameKind)},a.lookup x=some .free->
 (a.map λ(n,k)=>if(k==NameKind.free&&env.scope.kind==.function&&env.kindOf n==some .cell)then(n,NameKind.cell)else(n,k)).lookup x=some .cell\/
 (a.map λ(n,k)=>if(k==NameKind.free&&env.scope.kind==.function&&env.kindOf n==some .cell)then(n,NameKind.cell)else(n,k)).lookup x=some .free
 |[],h=>by simp at h
 | (n,k)::r,h=>by
   have b:=@jK env x r;rw[aa7]at h;rw[aay];dsimp only;by_cases q:x==n
   ·rw[q]at h;cases h;by_cases c:(NameKind.free==NameKind.free&&env.scope.kind==.function&&env.kindOf n==some .cell)=true
    ·rw[aac c,aa7,q];exact .inl rfl
    ·rw[aab c,aa7,q];exact .inr rfl
   ·rw[ab5]at q;rw[q]at h;by_cases c:(k==NameKind.free&&env.scope.kind==.function&&env.kindOf n==some .cell)=true
    ·rw[aac c,aa7,q];exact b h
    ·rw[aab c,aa7,q];exact b h
def Inv.comp{X:Cx}{H:Hp}{s:Zp}{scope:ZU}{own:Y2}{cl:YR}{h₁:ZN}(S:dJ X scope own js N')(I:Inv X dD σ H s)
 (hc1:∀x c,cl.lookup x=some c->X.env.cells.lookup x=some c)(hc2:∀x,(x,NameKind.free)∈scope.names->∃c,cl.lookup x=some c)(hC:s.heap.objs.size<=C)(hns:h₁.Ns C m)(hk:∀b o,s.heap.get? b=some o->h₁.get? b=some o)
 (hf:∀b∈fp,jO X dD H b/\b<s.heap.objs.size)(hHC:H C=none)(hfree:∀b o,s.heap.get? b=some o->b≠C):
 Inv (dR X scope N' cl C s H fp) [] (jD own.length js σ) H {s with heap:=h₁,toks:=tk}:=by
 have ltx:∀b o,X.s₀.heap.get? b=some o->b∉X.ex->b∉fp:=λb o e hx hb=>by
  rcases(hf b hb).1.2.2.2.1 with z|z
  ·exact hx z
  ·exact absurd (aat (aak e) z) (aaP _)
 refine⟨⟨I.ok.mod,S.kind,I.ok.glob,I.ok.blt,hC,λx y c h1 h2=>I.ok.inj x y c (hc1 x c h1) (hc1 y c h2),λx hx=>?_,λx c z=>(nomatch z),I.ok.hd,I.ok.frames,.inl rfl,λb hb=>⟨aar (aat (hf b hb).2 hC),λx c e=>(hf b hb).1.2.2.2.2.1 x c (hc1 x c e)⟩,I.bs,aah I.ok.bsz I.sz,λb o e=>ltx b o (I.ok.bs b o e).1 (I.ok.noex b o e),λb hb z=>?_,I.stack,I.stkFree⟩,
  rfl,I.bare,Un.kept hk,⟨m,hns,λi x v e1 e2 e3=>?_⟩,λx c e=>?_,hHC,λx c e=>I.freeC x c (hc1 x c e),λp hp=>absurd (show p∈([]:YN)from hp) 04,I.hok.kept hk,?_⟩
 ·have hx':(relabel scope X.env).names.lookup x=some .cell\/(relabel scope X.env).names.lookup x=some .free:=hx;rcases hx' with z|z
  ·exact hc2 x (q9 (aa5 z) 012 S.nocell)
  ·exact hc2 x (q9 (aa5 z) 013 S.nocell)
 ·obtain⟨_,f1,f2,_⟩:=(hf b hb).1;rcases aag.mp (I.stkSub b z)with q|q
  ·exact f1 q
  ·exact f2 q
 ·
  unfold jD at e2;by_cases hi:i<own.length
  ·rw[adb (by simpa using hi),List.getElem?_replicate]at e2;split at e2<;>cases e2
  ·rw[acp (by simpa using hi),acr,aaq]at e2;cases ej:js[i-own.length]? with
   |none=>rw[ej]at e2;cases e2
   | some j=>
     rw[ej]at e2;have e2':(σ[j]?).join=some v:=by simpa using e2
     have hσ:σ[j]?=some (some v):=by
      cases q:σ[j]? with
      |none=>rw[q]at e2';cases e2'
      |some o=>rw[q]at e2';exact aaB some e2'
     have hj:=S.fr j (aap ej);have hx:x=X.N.getD j Str.empty:=by have e1':N'[i]?=some x:=e1;rw[S.nm,acp 05,aaq,ej]at e1';exact(aaO e1').symm
     have hN:X.N[j]?=some x:=by rw[hx,acy,aaH hj.1];rfl
     have hfr:scope.names.lookup x=some .free:=by rw[hx];exact qg hj.2.1 hj.2.2
     have hkx:=S.free (x,.free) (by rw[hx];exact hj.2.1) rfl;have hvis:Sh X.env.scope x:=hkx.elim (λz=>.inr (.inl z)) λz=>.inr (.inr z);obtain⟨mX,hnX,hlX⟩:=I.loc;obtain⟨u,r,l⟩:=hlX j x v hN hσ hvis;refine⟨u,r,.inr ⟨jK hfr,?_⟩⟩;rcases l with⟨z,_⟩|⟨_,c,hc,hcell⟩
     ·rcases hkx with q|q
      ·have:=q.symm.trans z;cases this
      ·have:=q.symm.trans z;cases this
     ·obtain⟨c',hc'⟩:=hc2 x (by rw[hx];exact hj.2.1);have:c'=c:=aaO ((hc1 x c' hc').symm.trans hc);subst this;obtain⟨o,ho,hd⟩:=hcell;exact⟨c',hc',o,hk _ _ ho,hd⟩
 ·obtain⟨v,o,ho,hd⟩:=I.cell x c (hc1 x c e);exact⟨v,o,hk _ _ ho,hd⟩
 ·rw[A_];show _=N'.length;rw[S.nm];simp
def oN(Y:Cx)(d:YU)(t:TT):Prop:=
 ∀(a:YN)(s:Zp)(b:St)(H:Hp)(Q:Bool->Hp->Prop),Inv Y a b H s->t b H Q->
   wpAny (model Y.prog Y.w) Y.A (forIn d true λc r=>if r=true then do let ok<-isTrue c Y.env (eval c Y.env);pure (ForInStep.yield ok)else pure (ForInStep.yield r)) (TP Y a b Q) Y.xe s
def rC:TT:=λ_ H Q=>Q true H
def gw:oN Y [] rC:=λ_ _ _ H _ I h=>wpAny_tests_nil ⟨H,I,h⟩
def xu(h:PT Y c t):oN Y [c] t:=λa s b H Q I d=>wpAny_tests_one (h a s b H Q I d)
abbrev ig(a:Y3)(k:Nat):Obj:={cls:=.type "list",data:=.seq a.toArray k}
def sO(J:It)(g:TG)(n:TT)(o:TE)(F:List V->Hp->Prop)(W:Nat->Nat->List V->St->Hp->Prop):Prop:=
 ∀i m c f H,W i m c f H->(J.stop i H/\F c H)\/(J.go i H/\c.length<sizeLine/\∀x h,J.yld i H x h->g x f h λa j=>n a j λb e=>if b=true then o a e λy l=>∃d,d<m/\W (i+1) d (c++[y]) a l else∃d,d<m/\W (i+1) d c a e)
def Ae(J:It)(g:TG)(n:TT)(o:TE)(F:List V->St->Hp->Prop)(W:Nat->Nat->List V->St->Hp->Prop):Prop:=
 ∀i m c e H,W i m c e H->(J.stop i H/\F c e H)\/(J.go i H/\c.length<sizeLine/\∀x h,J.yld i H x h->g x e h λa j=>n a j λb f=>if b=true then o a f λy l=>∃d,d<m/\W (i+1) d (c++[y]) a l else∃d,d<m/\W (i+1) d c a f)
def Hs(c:ZT)(j:Nat)(b a:ZI)(env:Env)(g e:ZT)(f:YU)(B:Sem Fin->Sem Fin):Prop:=
 (∀A:Around,A.under (.compLoop c j b a env)=A)/\∀d w,(model d w).den (.compLoop c j b a env)=((do
  standAt e.pos
  match<-pyNext b with
  |none=>pure (.done .next)
  | some v=>
    letOwnedTupleGo g b v
    assign g env v
    let mut ok:=true
    for c in f do
     if ok then ok<-isTrue c env (eval c env)
    if ok then B (again (.compLoop c j b a env))else again (.compLoop c j b a env):Sem Fin)).onRaise (λx=>do noteFrame x env;theTreesLotGoes x)
def Gy{α:Type}{Y:Cx}{c:ZT}{j:Nat}{it:Zl}{acc:ZI}{tg iter:ZT}{ifs:YU}{B:Sem Fin->Sem Fin}{fp:YI}{tn:Nat->Heap->Prop}{J:It}{g:TG}{tt:TT}{R:YO}(U:α->List (Addr×Obj))
 (e:Hs c j (.ref it) acc Y.env tg iter ifs B)(T:Turn Y.prog Y.w Y.K tg J fp it tn)(hg:PG Y tg g)(hc:oN Y ifs tt)(p:Y.calm=true)(hx:∀v s,¬Y.xe v s)
 (M:∀a,∀b∈fp,∀H,H b=none->jO Y (U a) H b)(W P:Nat->Nat->α->St->Hp->Prop)(S Z:α->Prop)
 (turn:∀i m a q H,S a->W i m a q H->(J.stop i H/\∀s,Inv Y (U a) q H s->R (.ok .next) s)\/(J.go i H/\Z a/\∀x H1,J.yld i H x H1->g x q H1 λD H2=>tt D H2 λb N=>if b=true then P i m a D N else∃y,y<m/\W (i+1) y a D N))
 (body:∀i m a q H h s,S a->Z a->P i m a q H->(∀b∈fp,∃o,h.get? b=some o)->Inv Y (U a++kI fp h) q H s->∀(k:Sem Fin)(Q:Fin->Shared->Prop)(E:ZY),(∀X,(∃y,y<m/\∃a' l O,Inv Y (U a'++kI fp h) l O X/\S a'/\W (i+1) y a' l O)->wpAny (model Y.prog Y.w) Y.A k Q E X)->wpAny (model Y.prog Y.w) Y.A (B k) Q E s)
 {s:Zp}{q:St}{H:Hp}{m:Nat}{a:α}(I:Inv Y (U a) q H s)(st:tn 0 s.heap)(fr:∀b∈fp,H b=none)(s0:S a)(w0:W 0 m a q H):
 codeAny (model Y.prog Y.w) Y.A (.compLoop c j (.ref it) acc Y.env) R s:=by
 refine codeAny_loop rfl (λn X=>∃i a l O,Inv Y (U a) l O X/\tn i X.heap/\(∀b∈fp,O b=none)/\S a/\W i n a l O) (λn s3 hI=>?_) m ⟨0,a,q,H,I,st,fr,s0,w0⟩;obtain⟨i,a,C,N,I3,aa,ab,L,w3⟩:=hI;rw[e.1,e.2];refine wpAny_noted ?_;refine aaa (aa4 (aaa ?_));rcases turn i n a C N L w3 with⟨ac,qn⟩|⟨go,za,step⟩
 ·refine aaF (T.done Y rfl rfl rfl p i _ s3 C N (λ_ _=>False) I3 (λb f=>M a b f _ (ab b f)) aa ac) (λr s4⟨hr,I4⟩=>?_) (λ_ _ z=>z.elim);subst hr;exact aad (qn s4 I4)
 ·refine aaF (T.item Y rfl rfl rfl p i _ s3 C N (λ_ _=>False) I3 (λb f=>M a b f _ (ab b f)) aa go) (λr s4⟨u,hr,h4⟩=>?_) (λ_ _ z=>z.elim);subst hr;refine aaa (aaF h4 (λ_ s5⟨x,H5,I5,r5,y5,w,ad⟩=>?_) (λ_ _ z=>z.elim));refine aaa (aaF (hg _ s5 C H5 x u _ (I5.pinned (λb f=>M a b f _ (ad b f)) (T.obj _ _ w)) r5 (step x H5 y5)) (λ_ s6⟨F,H6,I6,q6⟩=>?_) (λv s z=>(hx v s z).elim));refine aaa (aaF (hc _ s6 F H6 _ I6 q6) (λok s7⟨H7,I7,q7⟩=>?_) (λv s z=>(hx v s z).elim));have on:∀{pl:YN}{s8:Zp}{A:St}{H8:Hp},Inv Y (pl++kI fp s5.heap) A H8 s8->Inv Y pl A H8 s8/\tn (i+1) s8.heap/\∀b∈fp,H8 b=none:=λG=>
   ⟨G.unpinned,T.keep _ _ _ w λb f o e=>(G.pin (b,o) (aax _ (aax _ (lU f e)))).1,λb f=>by
    obtain⟨o,e,d⟩:=T.obj _ _ w b f;exact(G.pin (b,o) (aax _ (aax _ (lU f e)))).2.1⟩;cases ok with
  | false=>rw[aab aaG]at q7;obtain⟨y,hm,w7⟩:=q7;exact aad ⟨8,y,hm,i+1,a,F,H7,(on I7).1,(on I7).2.1,(on I7).2.2,L,w7⟩
  | true=>rw[aac rfl]at q7;exact body i n a F H7 s5.heap s7 L za q7 (λb f=>(T.obj _ _ w b f).imp λ_ z=>z.1) I7 _ _ _ λs8⟨y,hm,a',A,H8,G,w8⟩=>aad ⟨8,y,hm,i+1,a',A,H8,(on G).1,(on G).2.1,(on G).2.2,w8⟩
def uY{a:ZE}{w:ZH}{A:ZO}{R:YO}{s:Zp}{c:ZT}{j:Nat}{e b:ZI}{env:Env}{g:Comprehension}(m:(clausesOf c)[j]?=some g)(n:(g.is_async !=0)=false)
 (l:codeAny (model a w) A (.compLoop c j e b env) R s)(h:wpAny (model a w) A (pyIter e) (λd f=>codeAny (model a w) A (.compLoop c j d b env) R f) (notedBy (model a w) A env λx f=>R (.error x) f) s)
 (hd:A.under (.compStart c j e b env)=A/\(model a w).den (.compStart c j e b env)=(compStart c j e b env).onRaise (λx=>do noteFrame x env;standAt theWindowsPlace):=by exact⟨8,8⟩):codeAny (model a w) A (.compStart c j e b env) R s:=by
 refine codeAny_of_tree ?_;rw[hd.1,hd.2];refine wpAny_notedAt ?_;unfold compStart;rw[m];simp only[Option.elim,n,abp,if_false];show wpAny _ _ (ask>>=_) _ _ s;refine aaa (wpAny_askSetting (wpAny_ite ?_));split
 ·first
   |exact aaa (aad (aad (ab6 rfl l)))
   |exact aad (ab6 rfl l)
 ·first
   |exact aaa (abu (aaa (aa4 (aaa (aaF h (λd f i=>aad (ab6 rfl i)) λ_ _ x=>x)))))
   |(refine aaa (abu ?_);show wpAny _ _ (standAt g.iter.pos>>=_) _ _ s;exact aaa (aa4 (aaa (aaF h (λd f i=>aad (ab6 rfl i)) λ_ _ x=>x))))
def G7(Y:Cx)(b:YN)(a:Zl):Prop:=a≠Y.env.locals/\a∉Y.fs/\(a∈Y.ex\/Y.s₀.heap.objs.size<=a)/\(∀x c,Y.env.cells.lookup x=some c->c≠a)/\∀p∈Y.pn++b,p.1≠a
def ZC(Y:Cx)(c:YN)(a b:Zl):Prop:=(∀H:Hp,H b=none->jO Y c H b)/\b≠a
def Ff{Y:Cx}{ps:YN}{a:Zl}{c:Y3}{k:Nat}{j:St}{H:Hp}{s:Zp}{y:ZI}{E:ZY}{Q:ZY}(A:c.length<=sizeLine)(d:G7 Y ps a)(I:Inv Y ((a,ig c k)::ps) j H s)
 (h:∀v l r,Inv Y ((a,ig (c++[y]) r)::ps) j H l->Q v l):wpAny (model Y.prog Y.w) Y.A (call (.builtin "list.append") [.ref a,y]) Q E s:=by
 obtain⟨i,m,B,C,D⟩:=I.pin (a,ig c k) (aax _ aan);refine call_meets abv ⟨_,i,8⟩ PySem.F.entry_list_append (PySem.F.args_list_append_2 _ _) (PySem.list_append a c.toArray k y (by rw[aas];exact A)) ⟨i,?_⟩;have q:=PySem.IsL.update i (λz=>z.push y);have w:Inv Y ps j H s:=I.pins_of λp f=>I.pin p (aax _ (aai _ f));have g:=w.turned (t':=s.toks) (it:=a) (h':=s.heap.update a (Obj.mapSeq λz=>z.push y)) (λb o n e=>(abn s.heap _ (aaC n)).trans e) m d.1 d.2.2.1 d.2.2.2.1 d.2.2.2.2;have x:(c.toArray.push y)=(c++[y]).toArray:=by simp
 rw[x]at q;exact h _ _ _ (g.pins_of λp f=>by
  rcases aag.mp f with rfl|f
  ·exact⟨q,m,d.1,d.2.1,λv z=>by cases z⟩
  ·exact g.pin p (aax _ f))
def Nt{Y:Cx}{ps:YN}{f O:Zl}{fp:YI}{tn:Nat->Heap->Prop}{J:It}{g:TG}{tt:TT}{P:TE}{F:List V->St->Hp->Prop}{c B S C:ZT}{j:Nat}{D:YU}{R:YO}
 (W:Nat->Nat->List V->St->Hp->Prop)(G:Ae J g tt P F W)(T:Turn Y.prog Y.w Y.K S J fp O tn)(e:Hs c j (.ref O) (.ref f) Y.env S C D (λk=>(do let _<-call (.builtin "list.append") [.ref f,<-eval B Y.env])>>=λ_=>k))
 (hg:PG Y S g)(hc:oN Y D tt)(he:PE Y B P)(n:Y.calm=true)(hx:∀v s,¬Y.xe v s)(o:∀b∈fp,ZC Y ps f b)(d:G7 Y ps f)
 (hR:∀Z A H' ys us k,Inv Y ((f,ig us k)::ps) A H' Z->Vals ys us->F ys A H'->R (.ok .next) Z)
 {s:Zp}{l:St}{H:Hp}{m:Nat}{r:List V}{x:Y3}{k0:Nat}(U:Vals r x)(I:Inv Y ((f,ig x k0)::ps) l H s)(st:tn 0 s.heap)(fr:∀b∈fp,H b=none)(w0:W 0 m r l H):
 codeAny (model Y.prog Y.w) Y.A (.compLoop c j (.ref O) (.ref f) Y.env) R s:=by
 refine Gy (α:=List V×List Value×Nat) (λa=>(f,ig a.2.1 a.2.2)::ps) e T hg hc n hx (λa b X H hn=>?_) (λi m a l H=>W i m a.1 l H) (λi m a l H=>P l H λy H4=>∃M,M<m/\W (i+1) M (a.1++[y]) l H4)
  (λa=>Vals a.1 a.2.1) (λa=>a.1.length<sizeLine) (λi m a l H L w=>?_) (λi m a l H h s L hz q ho I k Q E z=>?_) (a:=(r,x,k0)) I st fr U w0
 ·obtain⟨f0,f1,f2,f3,f4,f5⟩:=(o b X).1 H hn;refine⟨f0,f1,f2,f3,f4,λp N=>?_⟩;rcases aam.mp N with z|z
  ·exact f5 p (aaL _ z)
  ·rcases aag.mp z with rfl|z
   ·exact aaC (o b X).2
   ·exact f5 p (aax _ z)
 ·exact(G i m a.1 l H w).imp (λz=>⟨z.1,λs I=>hR s l H _ _ _ I L z.2⟩) id
 ·refine aaa (aaa (aaF (he _ s l H _ I q) (λy s8⟨yv,H8,I8,r8,M,hm,w8⟩=>?_) (λv s z=>(hx v s z).elim)));refine aaa (Ff (ps:=ps++kI fp h) (by have:=L.length;omega) ⟨d.1,d.2.1,d.2.2.1,d.2.2.2.1,λp N=>?_⟩ I8 λv s9 k9 I9=>aad (z s9 ⟨M,hm,(a.1++[yv],a.2.1++[y],k9),l,H8,I9,L.append (.cons r8 .nil),w8⟩));rcases aam.mp N with z|z
  ·exact d.2.2.2.2 p (aaL _ z)
  ·rcases aam.mp z with z|z
   ·exact d.2.2.2.2 p (aax _ z)
   ·exact(o _ (pN z).1).2
def yr(X:Cx)(a:ZU)(h:Y2)(fp:YI)(q:Nat->Heap->Prop)(r:Zl)(c:ZT)(W:Nat->Nat->List V->St->Hp->Prop)(F:List V->Hp->Prop)(g:YR)(d:Zp)(e:Hp):Prop:=
 ∀(C f:Zl)(R:YO),(∀b∈fp,ZC (dR X a h g C d e fp) [] f b)->G7 (dR X a h g C d e fp) [] f->
   (∀j i l n o k,Inv (dR X a h g C d e fp) [(f,ig o k)] i l j->Vals n o->F n l->R (.ok .next) j)->
   ∀s p H m,Inv (dR X a h g C d e fp) [(f,ig [] 0)] p H s->q 0 s.heap->(∀b∈fp,H b=none)->W 0 m [] p H->
     codeAny 00 X.A (.compLoop c 0 (.ref r) (.ref f) (compEnvC a g C X.env)) R s
def uG{X:Cx}{scope:ZU}{own:Y2}{js:List Nat}{N':Y2}{h1:ZN}{dD:YN}{σ:St}{H:Hp}{s:Zp}{it:Zl}{fp:YI}{tn:Nat->Heap->Prop}{J:It}{tg:ZT}{cl:YR}{Q:Env->Shared->Prop}{E:ZY}
 (S:dJ X scope own js N')(I:Inv X dD σ H s)(k:∀b o,s.heap.get? b=some o->h1.get? b=some o)(le:s.heap.objs.size<=h1.objs.size)
 (hc1:∀x c,cl.lookup x=some c->X.env.cells.lookup x=some c)(hc2:∀x,(x,NameKind.free)∈scope.names->∃c,cl.lookup x=some c)(T:Turn X.prog X.w X.K tg J fp it tn)(st:tn 0 s.heap)(hf:∀b∈fp,jO X dD H b)
 (h:∀e s',{e with scope:=relabel scope X.env}=compEnvC scope cl h1.objs.size X.env->e.locals=h1.objs.size->(∀b o,h1.get? b=some o->s'.heap.get? b=some o)->Inv (dR X scope N' cl h1.objs.size s H fp) [] (jD own.length js σ) H s'->tn 0 s'.heap->(∀b∈fp,b<s.heap.objs.size/\∀H':Hp,H' b=none->jO (dR X scope N' cl h1.objs.size s H fp) [] H' b)->Q e s'):
 wpAny 00 X.A (newFunctionEnv scope X.env.globals cl [] X.env.qual none .none (some X.env)) Q E {s with heap:=h1}:=by
 refine wpAny_newFunctionEnv S.nocell (by intro y hy;simp at hy) (λh₂ hns hsb=>?_) S.kind;dsimp only at hns hsb|-;have ne:∀b o,h1.get? b=some o->b≠h1.objs.size:=λb o e=>aar (aak e);have up:∀b o,h1.get? b=some o->h₂.get? b=some o:=λb o e=>hsb.extBut b o (ne b o e) (aaj _ e);have lt:∀b∈fp,b<s.heap.objs.size:=λb hb=>let⟨o,e,_⟩:=T.obj _ _ st b hb;aak e
 refine h _ _ rfl rfl up (Inv.comp S I hc1 hc2 le hns (λb o e=>up b o (k b o e)) (λb hb=>⟨hf b hb,lt b hb⟩) (I.hok.fresh le) λb o e=>ne b o (k b o e)) (T.keep _ _ _ st λb hb o e=>up b o (k b o e)) λb hb=>⟨lt b hb,λH' hn=>?_⟩;obtain⟨_,_,f2,f3,f4,_⟩:=hf b hb;refine⟨hn,aar (aat (lt b hb) le),λz=>?_,.inl hb,λx c e=>f4 x c (hc1 x c e),λp hp=>absurd (show p∈([]:YN)from hp) 04⟩;rcases aag.mp (I.stkSub b z)with q|q
 ·exact(hf b hb).2.1 q
 ·exact f2 q
def Nz(e:TI)(g:TG)(f:TT)(h:TE)(k:Nat)(i:List Nat):TE:=λa H Q=>e a H λJ d=>∃W:Nat->Nat->List V->St->Hp->Prop,(∃m,W 0 m [] (jD k i a) d)/\
 sO J g f h (λb c=>b.length<=sizeLine/\∀p,c p=none->Q (.ref p) (upd c p (.lst b))) W
section
variable{X:Cx}{scope:ZU}{own:Y2}{js:List Nat}{N':Y2}{wi:TI}{g:TG}{tt:TT}{te:TE}{elt tg iter:ZT}{ifs:YU}{rest:List Comprehension}{pos:Pos}
noncomputable def uT{l:Zl}{fp:YI}{n:Nat->Heap->Prop}{J:It}{F:List V->Hp->Prop}{W:Nat->Nat->List V->St->Hp->Prop}{e:YR}{c:Zp}{d:Hp}(f:X.calm=true)(x:∀e C a b j,PG (dR X scope N' e C a b j) tg g)(y:∀e C a b j,oN (dR X scope N' e C a b j) ifs tt)(A:∀C,PE (dR X scope N' e C c d fp) elt te)
 (T:Turn X.prog X.w X.K tg J fp l n)(h:sO J g tt te F W):yr X scope N' fp n l (.ListComp elt [⟨tg,iter,ifs,0⟩] scope pos) W F e c d:=λC o R i p q s B H m I r fr v=>
 Nt (Y:=dR X scope N' e C c d fp) (F:=λw _ H=>F w H) W h T ⟨λ_=>rfl,λ_ _=>rfl⟩ (x _ _ _ _ _) (y _ _ _ _ _) (A _) f (λ_ _ z=>z) i p q .nil I r fr v
noncomputable def ym{dD:YN}{σ:St}{H:Hp}{s:Zp}{it:Zl}{fp:YI}{tn:Nat->Heap->Prop}{J:It}{cl:YR}{F:List V->Hp->Prop}{E:ZY}{RR:Value->Addr->Result->Shared->Prop}{W:Nat->Nat->List V->St->Hp->Prop}{m0:Nat}
 (S:dJ X scope own js N')(hc1:∀x c,cl.lookup x=some c->X.env.cells.lookup x=some c)(hc2:∀x,(x,NameKind.free)∈scope.names->∃c,cl.lookup x=some c)
 (I:Inv X dD σ H s)(T:Turn X.prog X.w X.K tg J fp it tn)(st:tn 0 s.heap)(hf:∀b∈fp,jO X dD H b)(L:yr X scope N' fp tn it (.ListComp elt (⟨tg,iter,ifs,0⟩::rest) scope pos) W F cl s H)(w0:W 0 m0 [] (jD own.length js σ) H)
 (hF:∀ys H',F ys H'->ys.length<=sizeLine)
 (fin:∀acc C H' ys s' m,Inv X dD σ (upd H' acc (.lst ys)) s'->H' acc=none->s'.heap.Ns C m->(upd H' acc (.lst ys)) C=none->C≠X.env.locals->X.s₀.heap.objs.size<=C->(∀x c,X.env.cells.lookup x=some c->c≠C)->(∀p∈X.pn++dD,p.1≠C)->F ys H'->RR (.ref acc) C (.ok .next) s'):
 wpAny 00 X.A (newList []) (λacc s₃=>wpAny 00 X.A (newFunctionEnv scope X.env.globals cl [] X.env.qual none .none (some X.env)) (λcenv s₄=>codeAny 00 X.A (.compStart (.ListComp elt (⟨tg,iter,ifs,0⟩::rest) scope pos) 0 (.ref it) acc {cenv with scope:=relabel scope X.env}) (RR acc cenv.locals) s₄) E s₃) E s:=by
 refine aa2 ?_;have sz:(s.heap.push (ig [] 0)).objs.size=s.heap.objs.size+1:=aaY ..;refine uG (h1:=s.heap.push (ig [] 0)) S I (λ_ _ e=>aaj _ e) (by rw[sz];exact abd _) hc1 hc2 T st hf λe s₄ e1 e2 up I1 st1 fs=>?_;rw[e1,e2];obtain⟨_,c1,_,_,c4,c5⟩:=I.fpOk (H':=H) (b:=(s.heap.push (ig [] 0)).objs.size) (by rw[sz];exact abd _) (I.hok.fresh (by rw[sz];exact abd _));obtain⟨a0,a1,a2,_,a4,_⟩:=I.fpOk (H':=H) 014 (I.hok.fresh 014);have aC:s.heap.objs.size≠(s.heap.push (ig [] 0)).objs.size:=by rw[sz];exact aar (acn _)
 have hacc:s₄.heap.get? s.heap.objs.size=some (ig [] 0):=up _ _ (aav _ rfl);have stk:s.heap.objs.size∉frs X.stack:=λb=>by obtain⟨_,o,ho,_⟩:=I.stack.mem b;exact absurd (aak ho) (aaP _)
 have oldLt:∀b o,s.heap.get? b=some o->b≠s.heap.objs.size:=λb o e=>aar (aak e);have cC:X.s₀.heap.objs.size<=(s.heap.push (ig [] 0)).objs.size:=aah I.sz (by rw[sz];exact abd _);generalize hCn:(s.heap.push (ig [] 0)).objs.size=C at*;generalize hAn:s.heap.objs.size=acc at*;have I2:Inv (dR X scope N' cl C s H fp) [(acc,ig [] 0)] (jD own.length js σ) H s₄:=I1.pins_of λp hp=>by
  obtain rfl:p=(acc,ig [] 0):=by simpa using hp
  exact⟨hacc,a0,aC,stk,λv z=>by cases z⟩
 have loop:codeAny 00 X.A (.compLoop (.ListComp elt (⟨tg,iter,ifs,0⟩::rest) scope pos) 0 (.ref it) (.ref acc) (compEnvC scope cl C X.env)) (RR (.ref acc) C) s₄:=by
  refine L C acc _ (λb hb=>⟨(fs b hb).2,aar (fs b hb).1⟩) ⟨aC,stk,.inr (by show s.heap.objs.size<=acc;rw[hAn];exact aae _),λx c e=>a4 x c (hc1 x c e),λp hp=>absurd (show p∈([]:YN)from hp) 04⟩ (λs' σ' H' ys us k J' rv q=>?_) _ _ _ _ I2 st1 (λb hb=>(hf b hb).1) w0;obtain⟨e',n',_⟩:=J'.pin (acc,ig us k) (aax _ aan);have n'':H' acc=none:=n';obtain⟨m,hm,_⟩:=J'.loc;have un:Un (frs X.stack) fp H (upd H' acc (.lst ys)) s.heap s'.heap:=⟨J'.base.keep,J'.base.slot,λb o e n hx=>by rw[b8 (oldLt b o e)];exact J'.base.free b o e n hx,J'.base.there,
   λb xs e=>by have z:=J'.base.tups b xs e;rw[b8 (cg z n'')];exact z,
   λb o u e=>by have z:=J'.base.frzs b o u e;rw[b8 (cg z n'')];exact z,
   λb ps e=>by
    obtain⟨more,z⟩:=J'.base.tbls b ps e;exact⟨more,by rw[b8 (cg z n'')];exact z⟩⟩;have hok:my X.prog X.w (upd H' acc (.lst ys)) s'.heap:=λb u e=>by
   by_cases hb:b=acc
   ·subst hb;rw[a_]at e;cases e;exact⟨hF _ _ q,us,k,rv,e'⟩
   ·rw[b8 hb]at e;exact(J'.hok b u e).stay (λc v _ z=>z) (λc z=>by rw[b8 (cg z n'')];exact z) λc xs z=>by rw[b8 (cg z n'')];exact z
  exact fin acc C H' ys s' m (I.call' J'.os un hok J'.bare λb hb=>⟨(hf b hb).2.2.2.1,(hf b hb).2.1,(hf b hb).2.2.2.2.1,(hf b hb).2.2.2.2.2⟩) n'' hm (by rw[b8 (aaC aC)];exact J'.free) c1 cC c4 c5 q
 exact codeAny_compStart_list loop (T.self _ 0 _ _ _ st1 loop)
noncomputable def zB{E:St}{H:Hp}{s:Zp}{D:Ends}(L:X.N.Nodup)(M:X.N[i]?=some x)(hk:X.env.scope.names.lookup x=some .local)(N:Inv X d E H s)(O:s.heap.Ns C m)(A:H C=none)(F:C≠X.env.locals)(P:X.s₀.heap.objs.size<=C)
 (l:∀x c,X.env.cells.lookup x=some c->c≠C)(B:∀p∈X.pn++d,p.1≠C)(q:D.nx (E.set i (some (.ref f))) H):compPost 00 X.A X.xe (some (assign (.Name x h) X.env)) (λ_ G=>SP X d D .next G) (.ref f) C (.ok .next) s:=by
 show wpAny _ X.A (assign (.Name x h) X.env (.ref f)) _ _ s;refine wpAny_assign_Name (uZ N L M (.inl hk) (v:=.ref f) rfl (λn r j=>?_) (.inr hk));obtain⟨a,j,J⟩:=j;have y:C≠a:=by
  rcases J with z|z
  ·rw[z];exact F
  ·exactλq=>l x a z q.symm
 refine⟨m,O.sameBut j y,λQ w=>⟨_,_,?_,q⟩⟩;exact r.turned (t':=n.toks) (it:=C) (λb o I e=>(w.2 b I).trans e) A F (.inr P) l B
noncomputable def Hr(e:TI)(f:St->It->(List V->Hp->Prop)->(Nat->Nat->List V->St->Hp->Prop)->Prop)(k:Nat)(h:List Nat):TE:=λa H Q=>e a H λJ d=>∃W:Nat->Nat->List V->St->Hp->Prop,(∃m,W 0 m [] (jD k h a) d)/\
 f a J (λb c=>b.length<=sizeLine/\∀p,c p=none->Q (.ref p) (upd c p (.lst b))) W
noncomputable def yt(S:dJ X scope own js N')(hi:PI X tg iter wi)(A:∀{i fp l J F W a d E s H},Inv X a d H s->(∀b∈fp,jO X a H b)->Turn X.prog X.w X.K tg J fp i l->CT d J F W->yr X scope N' fp l i (.ListComp elt (⟨tg,iter,ifs,0⟩::rest) scope pos) W F E s H)
 (hs:∀x,foldedSetIterable iter X.env x=pure x:=by intro _;rfl):PE X (.ListComp elt (⟨tg,iter,ifs,0⟩::rest) scope pos) (Hr wi CT own.length js):=by
 intro a s d H Q I h;obtain⟨E,n,p,r⟩:=o8 (env:=X.env) scope λy M hk=>I.ok.has y.1 (S.free y M hk);rw[eval_ListComp];refine acZ (use:=none) rfl hs n S.kind S.names (fQ (hi a s d H _ I h) λv s1 N=>fQ N λO s2 P=>?_);obtain⟨i,fp,l,J,H2,e,G,T,w,L,W,⟨m0,Z⟩,f⟩:=P;subst e;refine ym (RR:=λc C=>compPost 00 X.A X.xe none (EP X a d Q) c C) S p r G T w L (A G L T f) Z (λR U q=>q.1) ?_;intro c C U R s' m IX na hm z A hz B D q;refine⟨m,hm,λh' j=>⟨.ref c,_,?_,8,q.2 c na⟩⟩;exact IX.turned (t':=s'.toks) (it:=C) (λb o Y e=>(j.2 b Y).trans e) z A (.inr hz) B D
noncomputable def yD(S:dJ X scope own js N')(hN:X.N.Nodup)(hx:X.N[i]?=some x)(hk:X.env.scope.names.lookup x=some .local)(hi:PI X tg iter wi)(p:∀{z fp A J F W a n N s H},Inv X a n H s->(∀b∈fp,jO X a H b)->Turn X.prog X.w X.K tg J fp z A->CT n J F W->yr X scope N' fp A z (.ListComp elt (⟨tg,iter,ifs,0⟩::rest) scope pos) W F N s H)
 (M:swapsWith (.ListComp elt (⟨tg,iter,ifs,0⟩::rest) scope pos) (some (.Name x c)) d.line X.env=pure true:=by rfl)(hs:∀x,foldedSetIterable iter X.env x=pure x:=by intro _;rfl):
 PS X (.Assign [.Name x c] (.ListComp elt (⟨tg,iter,ifs,0⟩::rest) scope pos) d) (Hc (Hr wi CT own.length js) (eQ i)):=by
 intro a s n H D I h;obtain⟨N,B,E,G⟩:=o8 (env:=X.env) scope λy R hk=>I.ok.has y.1 (S.free y R hk);rw[exec_Assign_Name_used _ _ _ _ M];refine aaa (aa4 (aaa ?_));show wpAny _ X.A (do let _<-comprehension (.ListComp elt (⟨tg,iter,ifs,0⟩::rest) scope pos) scope X.env _ (newList []) false (eval iter X.env) (some (assign (.Name x c) X.env))) _ _ s;refine aaa (aaF (acZ (use:=some (assign (.Name x c) X.env)) (Q:=λ_ j=>SP X a D .next j) rfl hs B S.kind S.names (fQ (hi a s n H _ I h) λv s1 U=>fQ U λY s2 Z=>?_)) (λ_ j hq=>aad (aad hq)) λ_ _ e=>e);obtain⟨z,fp,A,J,H2,e,O,T,L,P,W,⟨m0,w0⟩,l⟩:=Z;subst e;exact ym (RR:=λf C=>compPost 00 X.A X.xe (some (assign (.Name x c) X.env)) (λ_ j=>SP X a D .next j) f C) S E G O T L P (p O P T l) w0 (λys H' q=>q.1) λf C H' ys j m IX na hm o p hz r w q=>zB hN hx hk IX hm o p hz r w (q.2 f na)
def j0(S:dJ X scope own js N')(c:X.calm=true)(h:PI X tg iter wi)(i:∀e C a b f,PG (dR X scope N' e C a b f) tg g)(j:∀e C a b f,oN (dR X scope N' e C a b f) ifs tt)
 (l:∀e C a b f,PE (dR X scope N' e C a b f) elt te)(m:∀x,foldedSetIterable iter X.env x=pure x:=by intro _;rfl):PE X (.ListComp elt [⟨tg,iter,ifs,0⟩] scope pos) (Nz wi g tt te own.length js):=
 yt (CT:=λ_ J F W=>sO J g tt te F W) S h (λ_ _ T d=>uT c i j (λ_=>l _ _ _ _ _) T d) m
noncomputable def ou(S:dJ X scope own js N')(e:X.calm=true)(m:X.N.Nodup)(n:X.N[i]?=some x)(hk:X.env.scope.names.lookup x=some .local)(o:PI X tg iter wi)(p:∀h C a b j,PG (dR X scope N' h C a b j) tg g)(q:∀h C a b j,oN (dR X scope N' h C a b j) ifs tt)
 (r:∀h C a b j,PE (dR X scope N' h C a b j) elt te)(l:swapsWith (.ListComp elt [⟨tg,iter,ifs,0⟩] scope pos) (some (.Name x c)) d.line X.env=pure true:=by rfl)(s:∀x,foldedSetIterable iter X.env x=pure x:=by intro _;rfl):
 PS X (.Assign [.Name x c] (.ListComp elt [⟨tg,iter,ifs,0⟩] scope pos) d) (Hc (Nz wi g tt te own.length js) (eQ i)):=
 yD (CT:=λ_ J F W=>sO J g tt te F W) S m n hk o (λ_ _ T f=>uT e p q (λ_=>r _ _ _ _ _) T f) l s
end
section
variable{X:Cx}
def W0(i j:Int):Prop:=0<j/\j<340282366920938463463374607431768211456
def IK:ni X (binaryOp .FloorDiv) (rI W0 λi j=>.int (i/j)):=Wl λi j _ _ _ _ _ a q=>by
 rw[<-ada i (Int.le_of_lt a.1)]at q;have d:(0:Int)<j:=a.1;have e:j<340282366920938463463374607431768211456:=a.2;have b:j.natAbs<340282366920938463463374607431768211456:=by omega
 have c:(2:Nat) ^ 128=340282366920938463463374607431768211456:=by ext
 have f:j.natAbs.log2<128:=(Nat.log2_lt 05).mpr (Nat.lt_of_lt_of_eq b c.symm);exact floordiv_int (by have:=a.1;omega) q (.inl (PyProof.noPylong_of_log2 05))
abbrev CW(J:It)(g:TG)(b:TT)(c:TE)(F:List V->Hp->Prop)(a:St)(d:Hp):Prop:=∃W:Nat->Nat->List V->St->Hp->Prop,(∃m,W 0 m [] a d)/\sO J g b c F W
def yK(P:Nat->List V->St->Hp->Prop)(L:n<=sizeLine)(G:P 0 [] o B)(hd:∀d f H,P n d f H->J.stop n H/\F d H)
 (I:∀i d f H,i<n->P i d f H->J.go i H/\d.length<=i/\∀x r,J.yld i H x r->∀N:List V->St->Hp->Prop,(∀j l s,P (i+1) j l s->N j l s)->g x f r λe C=>z e C λb v=>if b=true then A e v λy D=>N (d++[y]) e D else N d e v):CW J g z A F o B:=by
 refine⟨λi m d f H=>m=n-i/\i<=n/\P i d f H,⟨9,aaU _,G⟩,?_⟩;rintro i m d f H⟨rfl,E,p⟩;rcases Nat.lt_or_eq_of_le E with h|rfl
 ·obtain⟨a,b,c⟩:=I i d f H h p;exact .inr ⟨a,05,λx r y=>c x r y (λj l s=>∃w,w<n-i/\w=n-(i+1)/\i+1<=n/\P (i+1) j l s) λ_ _ _ q=>⟨_,05,8,h,q⟩⟩
 ·exact .inl (hd d f H p)
def pH(m:Nat->List V->St->Hp->Prop)(B:n<=sizeLine)(C:m 0 [] l v)(hd:∀c d H,c.length=n->m n c d H->J.stop n H/\F c H)
 (w:∀i c d H,i<n->c.length=i->m i c d H->J.go i H/\∀x o,J.yld i H x o->∀N:List V->St->Hp->Prop,(∀e j r,e.length=i+1->m (i+1) e j r->N e j r)->g x d o λf z=>s f z λy A=>N (c++[y]) f A):CW J g rC s F l v:=
 yK (λi c d H=>c.length=i/\m i c d H) B ⟨8,C⟩ (λc d H p=>hd c d H p.1 p.2) λi c d H h p=>⟨(w i c d H h p.1 p.2).1,abB p.1,λx o y N q=>(w i c d H h p.1 p.2).2 x o y N λ_ _ _ a b=>q _ _ _ ⟨a,b⟩⟩
def uE(m:Nat->List V->St->Hp->Prop)(D:n<=sizeLine)(E:m 0 [] l z)(hd:∀c d H,c.length<=n->m n c d H->J.stop n H/\F c H)
 (A:∀i c d H,i<n->m i c d H->J.go i H/\∀x o,J.yld i H x o->∀N:List V->St->Hp->Prop,(∀f j s,m (i+1) f j s->f.length<=c.length+1->N f j s)->g x d o λe B=>v e B λb r=>if b=true then w e r λy C=>N (c++[y]) e C else N c e r):CW J g v w F l z:=
 yK (λi c d H=>c.length<=i/\m i c d H) D ⟨aae _,E⟩ (λc d H p=>hd c d H p.1 p.2) λi c d H h p=>⟨(A i c d H h p.2).1,p.1,λx o y N q=>(A i c d H h p.2).2 x o y N λ_ _ _ a b=>q _ _ _ ⟨05,a⟩⟩
def nZ{q:Int}{n:Nat}{g:TG}{r:TE}{F:List V->Hp->Prop}{j:St}{s:Hp}(m:Nat->List V->St->Hp->Prop)(z:n<=sizeLine)(A:m 0 [] j s)
 (B:∀i a b H,i<n->a.length=i->m i a b H->∀N:List V->St->Hp->Prop,(∀c f o,c.length=i+1->m (i+1) c f o->N c f o)->g (.int (q+i)) b H λd v=>r d v λy w=>N (a++[y]) d w)
 (hd:∀a b H,a.length=n->m n a b H->F a H):CW (S9 q n) g rC r F j s:=
 pH m z A (λa b H l p=>⟨aae _,hd a b H l p⟩) λi a b H h l p=>⟨h,λx _⟨e,y⟩=>by subst e y;exact B i a b _ h l p⟩
noncomputable def iJ{S:Hp->List V->Prop}{xs:List V}{g:TG}{q:TE}{F:List V->Hp->Prop}{m:St}{r:Hp}(d:Nat->List V->St->Hp->Prop)(w:xs.length<=sizeLine)(z:d 0 [] m r)(n:∀i a b H,i<=xs.length->d i a b H->S H xs)
 (A:∀i x a b H,xs[i]?=some x->a.length=i->d i a b H->∀N:List V->St->Hp->Prop,(∀c j o,c.length=i+1->d (i+1) c j o->N c j o)->g x b H λf s=>q f s λy v=>N (a++[y]) f v)
 (hd:∀a b H,a.length=xs.length->d xs.length a b H->F a H):CW (Vk S) g rC q F m r:=
 pH d w z (λa b H l p=>⟨⟨xs,n _ a b H 014 p,aae _⟩,hd a b H l p⟩) λi a b H h l p=>⟨⟨xs,xs[i],n i a b H (aaT h) p,by simp[h]⟩,λx _⟨e,y⟩=>by subst e;exact A i x a b _ (y xs (n i a b _ (aaT h) p)) l p⟩
structure fj(K:Zs)(mg:Y1)(x:Str)(st:Stmt)(ps:Y2)(f:Zl)(fd:ZB):Prop where
 F:gU K x x st f fd
 mg:mg x=some (.ref f)
 b:Binds K fd ps []
def h_(p:Zl)(H a:Hp):Prop:=∀b o,H b=some o->b≠p->a b=some o
def h_.refl:h_ p H H:=λ_ _ h _=>h
def h_.trans(a:h_ p H e)(b:h_ p e f):h_ p H f:=λc o h d=>b c o (a c o h d) d
def h_.upd:h_ p H (upd H p o):=λb u h a=>by rw[b8 a];exact h
def h_.new(h:H q=none):h_ p H (L2.upd H q o):=λb u e _=>by rw[b8 (cg e h)];exact e
end
def J4(M:St->Hp->Prop)(d:∀a b,M a b->u D a b)(e:∀N:St->Hp->Prop,(∀a b,M a b->N a b)->t {D with nx:=N} c H):Kq t u D c H:=e (u D) d
def cu.new(h:H q=none):cu H (upd H q o):=λb u e=>by rw[b8 (cg e h)];exact e
def cu.but(h:cu H a):h_ p H a:=λb o e _=>h b o e
def cu.tup{K:Zs}{H b:Hp}{a:Zl}{c:List V}(e:cu H b)(h:e_ K H a c):e_ K b a c:=by
 rcases h with(h|⟨o,h⟩)|h
 ·exact .inl (.inl (e _ _ h))
 ·exact .inl (.inr ⟨o,e _ _ h⟩)
 ·exact .inr h
def gK:bootBuiltins "len"=some (.builtin "len"):=by ext
def vK:bootBuiltins "list"=some (.type "list"):=by ext
def jB:bootBuiltins "tuple"=some (.type "tuple"):=by ext
def vC:bootBuiltins "str"=some (.type "str"):=by ext
def qQ:bootBuiltins "int"=some (.type "int"):=by ext
def oZ:bootBuiltins "bool"=some (.type "bool"):=by ext
def G9:bootBuiltins "all"=some (.builtin "all"):=by ext
def QX:bootBuiltins "any"=some (.builtin "any"):=by ext
def dZ:bootBuiltins "isinstance"=some (.builtin "isinstance"):=by ext
def J5:bootBuiltins "sum"=some (.builtin "sum"):=by ext
open PySem.SeqAt
mutual
inductive Rep (K:Zs) (H:Hp):V->PyData->Prop
 |non:Rep K H .non .none
 |bl (b:Bool):Rep K H (.bl b) (.bool b)
 |int (i:Int):Rep K H (.int i) (.int i)
 |str (x:Str):Rep K H (.str x) (.str x)
 |tup {a:Zl} {xs:List V} {ds:List PyData}:e_ K H a xs->ie K H xs ds->Rep K H (.ref a) (.tuple ds)
 |lst {a:Zl} {xs:List V} {ds:List PyData}:eY K H a xs->ie K H xs ds->Rep K H (.ref a) (.list ds)
inductive ie (K:Zs) (H:Hp):List V->List PyData->Prop
 |nil:ie K H [] []
 |cons {x:V} {d:PyData} {xs:List V} {ds:List PyData}:Rep K H x d->ie K H xs ds->ie K H (x::xs) (d::ds)
end
section
variable{K:Zs}{H H':Hp}
theorem ie.length:∀{xs:List V}{a:List PyData},ie K H xs a->xs.length=a.length
 |_,_,.nil=>rfl
 |_,_,.cons _ t=>by rw[aaz,aaz,ie.length t]
mutual
theorem Rep.map (e:∀a c,e_ K H a c->e_ K H' a c) (f:∀a c,eY K H a c->eY K H' a c):∀{v:V}{d:PyData},Rep K H v d->Rep K H' v d
 |_,_,.non=>.non
 |_,_,.bl b=>.bl b
 |_,_,.int i=>.int i
 |_,_,.str x=>.str x
 |_,_,.tup h r=>.tup (e _ _ h) (ie.map e f r)
 |_,_,.lst h r=>.lst (f _ _ h) (ie.map e f r)
theorem ie.map (c:∀a b,e_ K H a b->e_ K H' a b) (e:∀a b,eY K H a b->eY K H' a b):∀{v:List V}{d:List PyData},ie K H v d->ie K H' v d
 |_,_,.nil=>.nil
 |_,_,.cons h r=>.cons (Rep.map c e h) (ie.map c e r)
end
def Rep.same(h:Rep K H v d)(e:cu H H'):Rep K H' v d:=h.map (λ_ _ z=>e.tup z) (λ_ _ z=>e.seq z)
def ie.same(h:ie K H v d)(e:cu H H'):ie K H' v d:=h.map (λ_ _ z=>e.tup z) (λ_ _ z=>e.seq z)
def h_.seq(e:h_ p H H')(c:H p=some (.dK b))(h:eY K H a xs):eY K H' a xs:=by
 rcases h with(h|⟨o,h⟩)|h
 ·exact .inl (.inl (e _ _ h (iV h c 005)))
 ·exact .inl (.inr ⟨o,e _ _ h (iV h c 005)⟩)
 ·exact .inr h
def h_.tup{p a:Zl}{c:List V}{b:List (Key×V)}(e:h_ p H H')(d:H p=some (.dK b))(h:e_ K H a c):e_ K H' a c:=by
 rcases h with(h|⟨o,h⟩)|h
 ·exact .inl (.inl (e _ _ h (iV h d 005)))
 ·exact .inl (.inr ⟨o,e _ _ h (iV h d 005)⟩)
 ·exact .inr h
def Rep.but(h:Rep K H v d)(e:h_ p H H')(b:H p=some (.dK a)):Rep K H' v d:=h.map (λ_ _ z=>e.tup b z) (λ_ _ z=>e.seq b z)
theorem ie.get':∀{a:List V}{b:List PyData}{i:Nat}{x:V},ie K H a b->a[i]?=some x->∃d,b[i]?=some d/\Rep K H x d
 |_,_,_,_,.nil,e=>by simp at e
 |_,_,0,_,.cons r _,e=>by simp at e;subst e;exact⟨9,r⟩
 | _,_,i+1,d,.cons _ t,e=>by obtain⟨u,c,f⟩:=ie.get' (i:=i) (x:=d) t (by simpa using e);exact⟨u,by simpa using c,f⟩
end
mutual
noncomputable def m7:PyData->PyData->Bool
 |.none,.none=>true
 |.bool a,.bool b=>a==b
 |.bool a,.int b=>(if a then 1 else 0)==b
 |.int a,.bool b=>a==(if b then 1 else 0)
 |.int a,.int b=>a==b
 |.str a,.str b=>a==b
 |.tuple a,.tuple b=>jG a b
 |.list a,.list b=>jG a b
 |_,_=>false
noncomputable def jG:List PyData->List PyData->Bool
 |[],[]=>true
 |a::r,b::t=>m7 a b&&jG r t
 |_,_=>false
end
theorem ud:∀(c d:List PyData),jG c d=((List.range (min c.length d.length)).all (λj=>m7 (c.getD j .none) (d.getD j .none))&&c.length==d.length)
 |[],[]=>by simp[jG]
 |[],_::_=>by simp[jG]
 |_::_,[]=>by simp[jG]
 | a::r,b::t=>by
   rw[jG,ud r t,aaz,aaz,Nat.succ_min_succ,acz,ab2,List.all_map];simp only[List.getD_cons_zero,Bool.and_assoc];congr 1;have e:(r.length+1==t.length+1)=(r.length==t.length):=by rw[abb];simp
   rw[e];congr 1
mutual
noncomputable def jg:PyData->Nat
 |.tuple a=>iI a+1
 |.list a=>iI a+1
 |_=>0
noncomputable def iI:List PyData->Nat
 |[]=>0
 |d::r=>max (jg d) (iI r)
end
section
variable{X:Cx}{dD:YN}{σ:St}{H:Hp}{s:Zp}
mutual
theorem Rep.fn (I:Inv X dD σ H s):∀{v:V}{d e:PyData}{u:ZI},Rep X.K H v d->Rep X.K H v e->RelV v u->d=e/\m7 d d=true
 |_,_,_,_,.non,.non,_=>⟨8,8⟩
 |_,_,_,_,.bl b,.bl _,_=>⟨8,by simp[m7]⟩
 |_,_,_,_,.int i,.int _,_=>⟨8,by simp[m7]⟩
 |_,_,_,_,.str x,.str _,_=>⟨8,by simp[m7]⟩
 | _,_,_,_,.tup h1 r1,.tup h2 r2,r=>by have e:=I.tuple_inj h1 h2;subst e;obtain⟨f,g,_,_⟩:=I.tuple h1;obtain⟨e,q⟩:=ie.fn I r1 r2 g;exact⟨by rw[e],q⟩
 | _,_,_,_,.lst h1 r1,.lst h2 r2,r=>by have e:=I.list_inj h1 h2;subst e;obtain⟨f,g,_,_⟩:=I.list h1;obtain⟨e,q⟩:=ie.fn I r1 r2 g;exact⟨by rw[e],q⟩
 | _,_,_,_,.tup h1 _,.lst h2 _,r=>by obtain⟨_,_,⟨o,h,j,_⟩,_⟩:=I.tuple h1;obtain⟨_,_,⟨l,n,a,c,_⟩,_⟩:=I.list h2;rw[h]at a;cases a;rw[j]at c;injection c with z;exact absurd z 02
 | _,_,_,_,.lst h2 _,.tup h1 _,r=>by obtain⟨_,_,⟨o,h,j,_⟩,_⟩:=I.tuple h1;obtain⟨_,_,⟨l,n,a,c,_⟩,_⟩:=I.list h2;rw[h]at a;cases a;rw[j]at c;injection c with z;exact absurd z 02
theorem ie.fn (I:Inv X dD σ H s):∀{v:List V}{d e:List PyData}{u:Y3},ie X.K H v d->ie X.K H v e->Vals v u->d=e/\jG d d=true
 |_,_,_,_,.nil,.nil,_=>⟨8,8⟩
 | _,_,_,_,.cons a b,.cons c d,.cons r rs=>by obtain⟨f,q1⟩:=Rep.fn I a c r;obtain⟨g,q2⟩:=ie.fn I b d rs;exact⟨by rw[f,g],by simp[jG,q1,q2]⟩
end
def GZ{a b:List PyData}{c d:Y3}{A:ZO}(e:ie X.K H vs a)(f:ie X.K H i b)(g:Vals vs c)(h:Vals i d):
 ((List.range (min c.toArray.size d.toArray.size)).all (λj=>m7 (a.getD j .none) (b.getD j .none))&&c.toArray.size==d.toArray.size)=jG a b:=by
 rw[ud,aas,aas,<-g.length,<-h.length,e.length,f.length]
def rcT{d e:List PyData}{a c:Y3}{A:ZO}(f:ie X.K H vs d)(g:ie X.K H o e)(h:Vals vs a)(i:Vals o c)(p:IsTup s.heap l a.toArray)(q:IsTup s.heap b c.toArray)(r:A.units<cLine)
 (v:∀j(m:j<a.length)(n:j<c.length),EqAt A.in1 s a[j] c[j] (m7 (d.getD j .none) (e.getD j .none))):RcAt A s (.ref l) (.ref b) (m7 (.tuple d) (.tuple e)):=by
 show RcAt A s (.ref l) (.ref b) (jG d e);rw[<-GZ (A:=A) f g h i];exact RcAt.tuples (show s.heap.IsTuple l a.toArray from p) (show s.heap.IsTuple b c.toArray from q) r λj m n=>by simpa using v j (by simpa using m) (by simpa using n)
noncomputable def rcL{f g:List PyData}{a c:Y3}{A:ZO}(h:ie X.K H vs f)(i:ie X.K H r g)(m:Vals vs a)(n:Vals r c)(v:s.heap.IsList l a.toArray)(w:s.heap.IsList b c.toArray)(x:A.units<cLine)
 (y:∀j(o:j<a.length)(p:j<c.length),EqAt A.in1 s a[j] c[j] (m7 (f.getD j .none) (g.getD j .none))):RcAt A s (.ref l) (.ref b) (m7 (.list f) (.list g)):=by
 show RcAt A s (.ref l) (.ref b) (jG f g);have q:=GZ (A:=A) h i m n;by_cases d:a.toArray.size=c.toArray.size
 ·rw[<-q,d,Nat.min_self,acx,Bool.and_true,<-d];exact RcAt.lists v w d x λj o p=>by simpa using y j (by simpa using o) (by simpa using p)
 ·have e:jG f g=false:=by
   rw[<-q];have:(a.toArray.size==c.toArray.size)=false:=by simpa using d
   rw[this,Bool.and_false]
  rw[e];exact RcAt.lists_lengths v w (by simpa using d) x
noncomputable def eqT(I:Inv X dD σ H s)(p:e_ X.K H l vs)(r:e_ X.K H b h)(c:ie X.K H vs i)(d:ie X.K H h m)(n:Vals vs f)(o:Vals h g)(v:IsTup s.heap l f.toArray)(w:IsTup s.heap b g.toArray)(x:A.units<cLine)
 (y:∀j(p:j<f.length)(r:j<g.length),EqAt A.in1 s f[j] g[j] (m7 (i.getD j .none) (m.getD j .none))):EqAt A s (.ref l) (.ref b) (m7 (.tuple i) (.tuple m)):=by
 by_cases a:l=b
 ·subst a;obtain⟨e,q⟩:=Rep.fn I (.tup p c) (.tup r d) (u:=.ref l) rfl;rw[<-e,q];exact EqAt.same _
 ·exact EqAt.of_refs a (rcT c d n o v w x y)
noncomputable def eqL(I:Inv X dD σ H s)(p:eY X.K H l vs)(r:eY X.K H b h)(c:ie X.K H vs i)(d:ie X.K H h m)(n:Vals vs f)(o:Vals h g)(v:s.heap.IsList l f.toArray)(w:s.heap.IsList b g.toArray)(x:A.units<cLine)
 (y:∀j(p:j<f.length)(r:j<g.length),EqAt A.in1 s f[j] g[j] (m7 (i.getD j .none) (m.getD j .none))):EqAt A s (.ref l) (.ref b) (m7 (.list i) (.list m)):=by
 by_cases a:l=b
 ·subst a;obtain⟨e,q⟩:=Rep.fn I (.lst p c) (.lst r d) (u:=.ref l) rfl;rw[<-e,q];exact EqAt.same _
 ·exact EqAt.of_refs a (rcL c d n o v w x y)
def mj{A:ZO}(h:A.units+n<cLine):A.units<cLine:=by omega
def hu0{A:ZO}(h:A.units+(n+1)<cLine):A.units<cLine:=by omega
def hu1{A:ZO}(h:A.units+(n+1)<cLine):A.in1.units+n<cLine:=by show A.units+1+n<cLine;omega
mutual
theorem Te (I:Inv X dD σ H s):∀{v w:V}{d e:PyData}{u x:ZI}{A:ZO},Rep X.K H v d->Rep X.K H w e->RelV v u->RelV w x->A.units+jg d<cLine->EqAt A s u x (m7 d e)
 |_,_,_,_,_,_,_,.non,.non,rfl,rfl,hu=>EqAt.same _
 |_,_,_,_,_,_,_,.non,.bl b2,rfl,rfl,hu=>EqAt.none_bool b2
 |_,_,_,_,_,_,_,.non,.int i2,rfl,⟨t2,rfl⟩,hu=>EqAt.none_int i2 t2
 |_,_,_,_,_,_,_,.non,.str y2,rfl,⟨t2,rfl⟩,hu=>EqAt.none_str y2 t2
 | _,_,_,_,_,_,_,.non,.lst h2 rs2,rfl,rfl,hu=>by obtain⟨a,c,g,_⟩:=I.list h2;exact EqAt.none_list g.isList (mj hu)
 | _,_,_,_,_,_,_,.non,.tup h2 rs2,rfl,rfl,hu=>by obtain⟨a,c,g,_⟩:=I.tuple h2;exact EqAt.none_tuple g (mj hu)
 |_,_,_,_,_,_,_,.bl b1,.non,rfl,rfl,hu=>EqAt.bool_none b1
 |_,_,_,_,_,_,_,.bl b1,.bl b2,rfl,rfl,hu=>EqAt.bool_bool b1 b2
 |_,_,_,_,_,_,_,.bl b1,.int i2,rfl,⟨t2,rfl⟩,hu=>EqAt.bool_int b1 i2 t2
 |_,_,_,_,_,_,_,.bl b1,.str y2,rfl,⟨t2,rfl⟩,hu=>EqAt.bool_str b1 y2 t2
 | _,_,_,_,_,_,_,.bl b1,.lst h2 rs2,rfl,rfl,hu=>by obtain⟨a,c,g,_⟩:=I.list h2;exact EqAt.bool_list b1 g.isList (mj hu)
 | _,_,_,_,_,_,_,.bl b1,.tup h2 rs2,rfl,rfl,hu=>by obtain⟨a,c,g,_⟩:=I.tuple h2;exact EqAt.bool_tuple b1 g (mj hu)
 |_,_,_,_,_,_,_,.int i1,.non,⟨t1,rfl⟩,rfl,hu=>EqAt.int_none i1 t1
 |_,_,_,_,_,_,_,.int i1,.bl b2,⟨t1,rfl⟩,rfl,hu=>EqAt.int_bool i1 t1 b2
 |_,_,_,_,_,_,_,.int i1,.int i2,⟨t1,rfl⟩,⟨t2,rfl⟩,hu=>EqAt.int_int i1 t1 i2 t2
 |_,_,_,_,_,_,_,.int i1,.str y2,⟨t1,rfl⟩,⟨t2,rfl⟩,hu=>EqAt.int_str i1 t1 y2 t2
 | _,_,_,_,_,_,_,.int i1,.lst h2 rs2,⟨t1,rfl⟩,rfl,hu=>by obtain⟨a,c,g,_⟩:=I.list h2;exact EqAt.int_list i1 t1 g.isList (mj hu)
 | _,_,_,_,_,_,_,.int i1,.tup h2 rs2,⟨t1,rfl⟩,rfl,hu=>by obtain⟨a,c,g,_⟩:=I.tuple h2;exact EqAt.int_tuple i1 t1 g (mj hu)
 |_,_,_,_,_,_,_,.str y1,.non,⟨t1,rfl⟩,rfl,hu=>EqAt.str_none y1 t1
 |_,_,_,_,_,_,_,.str y1,.bl b2,⟨t1,rfl⟩,rfl,hu=>EqAt.str_bool y1 t1 b2
 |_,_,_,_,_,_,_,.str y1,.int i2,⟨t1,rfl⟩,⟨t2,rfl⟩,hu=>EqAt.str_int y1 t1 i2 t2
 |_,_,_,_,_,_,_,.str y1,.str y2,⟨t1,rfl⟩,⟨t2,rfl⟩,hu=>EqAt.str_str y1 t1 y2 t2
 | _,_,_,_,_,_,_,.str y1,.lst h2 rs2,⟨t1,rfl⟩,rfl,hu=>by obtain⟨a,c,g,_⟩:=I.list h2;exact EqAt.str_list y1 t1 g.isList (mj hu)
 | _,_,_,_,_,_,_,.str y1,.tup h2 rs2,⟨t1,rfl⟩,rfl,hu=>by obtain⟨a,c,g,_⟩:=I.tuple h2;exact EqAt.str_tuple y1 t1 g (mj hu)
 | _,_,_,_,_,_,_,.lst h1 rs1,.non,rfl,rfl,hu=>by obtain⟨b,f,h,_⟩:=I.list h1;exact EqAt.list_none h.isList (mj hu)
 | _,_,_,_,_,_,_,.lst h1 rs1,.bl b2,rfl,rfl,hu=>by obtain⟨b,f,h,_⟩:=I.list h1;exact EqAt.list_bool b2 h.isList (mj hu)
 | _,_,_,_,_,_,_,.lst h1 rs1,.int i2,rfl,⟨t2,rfl⟩,hu=>by obtain⟨b,f,h,_⟩:=I.list h1;exact EqAt.list_int i2 t2 h.isList (mj hu)
 | _,_,_,_,_,_,_,.lst h1 rs1,.str y2,rfl,⟨t2,rfl⟩,hu=>by obtain⟨b,f,h,_⟩:=I.list h1;exact EqAt.list_str y2 t2 h.isList (mj hu)
 | _,_,_,_,_,_,_,.lst h1 rs1,.lst h2 rs2,rfl,rfl,hu=>by obtain⟨b,f,h,_⟩:=I.list h1;obtain⟨a,c,g,_⟩:=I.list h2;exact eqL I h1 h2 rs1 rs2 f c h.isList g.isList (hu0 hu) (wG I rs1 rs2 f c (hu1 hu))
 | _,_,_,_,_,_,_,.lst h1 rs1,.tup h2 rs2,rfl,rfl,hu=>by obtain⟨b,f,h,_⟩:=I.list h1;obtain⟨a,c,g,_⟩:=I.tuple h2;exact EqAt.list_tuple h.isList g (mj hu)
 | _,_,_,_,_,_,_,.tup h1 rs1,.non,rfl,rfl,hu=>by obtain⟨b,f,h,_⟩:=I.tuple h1;exact EqAt.tuple_none h (mj hu)
 | _,_,_,_,_,_,_,.tup h1 rs1,.bl b2,rfl,rfl,hu=>by obtain⟨b,f,h,_⟩:=I.tuple h1;exact EqAt.tuple_bool b2 h (mj hu)
 | _,_,_,_,_,_,_,.tup h1 rs1,.int i2,rfl,⟨t2,rfl⟩,hu=>by obtain⟨b,f,h,_⟩:=I.tuple h1;exact EqAt.tuple_int i2 t2 h (mj hu)
 | _,_,_,_,_,_,_,.tup h1 rs1,.str y2,rfl,⟨t2,rfl⟩,hu=>by obtain⟨b,f,h,_⟩:=I.tuple h1;exact EqAt.tuple_str y2 t2 h (mj hu)
 | _,_,_,_,_,_,_,.tup h1 rs1,.lst h2 rs2,rfl,rfl,hu=>by obtain⟨b,f,h,_⟩:=I.tuple h1;obtain⟨a,c,g,_⟩:=I.list h2;exact EqAt.tuple_list h g.isList (mj hu)
 | _,_,_,_,_,_,_,.tup h1 rs1,.tup h2 rs2,rfl,rfl,hu=>by obtain⟨b,f,h,_⟩:=I.tuple h1;obtain⟨a,c,g,_⟩:=I.tuple h2;exact eqT I h1 h2 rs1 rs2 f c h g (hu0 hu) (wG I rs1 rs2 f c (hu1 hu))
theorem wG (I:Inv X dD σ H s):∀{vs l:List V}{g m:List PyData}{h i:Y3}{A:ZO},ie X.K H vs g->ie X.K H l m->Vals vs h->Vals l i->A.units+iI g<cLine->
 ∀j(e:j<h.length)(f:j<i.length),EqAt A s h[j] i[j] (m7 (g.getD j .none) (m.getD j .none))
 |_,_,_,_,_,_,_,.nil,_,.nil,_,_,j,e,_=>absurd e (acA _)
 |_,_,_,_,_,_,_,.cons _ _,.nil,.cons _ _,.nil,_,j,_,f=>absurd f (acA _)
 |_,_,_,_,_,_,_,.cons a b,.cons c d,.cons r rs,.cons t ts,hu,0,_,_=>Te I a c r t (by simp only[iI]at hu;simp only[List.getD_cons_zero];omega)
 |_,_,_,_,_,_,_,.cons a b,.cons c d,.cons r rs,.cons t ts,hu,j+1,e,f=>wG I b d rs ts (by simp only[iI]at hu;omega) j (by simpa using e) (by simpa using f)
end
end
def YL(K:Zs):R2:=λx y H Q=>∃d e,Rep K H x (.tuple d)/\Rep K H y (.tuple e)/\iI d<=60/\Q (.bl (!jG d e)) H
theorem Rx(F:X.A.units+64<cLine):ni X (compareOp .NotEq) (YL X.K):=by
 intro o s E H x y v u Q I z B h;obtain⟨d,e,l,m,hd,q⟩:=h;cases l with
 | tup C g=>
   cases m with
   | tup D i=>
     cases(show v=Value.ref _ from z);cases(show u=Value.ref _ from B);obtain⟨a,b,r,_⟩:=I.tuple C;obtain⟨c,f,w,_⟩:=I.tuple D;have p:=GZ (X:=X) (H:=H) (A:=X.A) g i b f;have n:=RcNeAt.tuples (A:=X.A) (show s.heap.IsTuple _ a.toArray from r) (show s.heap.IsTuple _ c.toArray from w) 05
      (e:=λj=>m7 (d.getD j .none) (e.getD j .none)) (λj l m=>by simpa using wG I g i b f (A:=X.A.in1) (by show X.A.units+1+_<_;omega) j (by simpa using l) (by simpa using m));rw[p]at n;exact n _ _ _ _ ⟨.bl _,H,I,8,q⟩
theorem sY:∀{a:List PyData},e∈a->jg e<=iI a
 |_::_,.head _=>by simp only[iI];omega
 |_::r,.tail _ h=>by have:=sY h;simp only[iI];omega
def X3:PyData->String
 |.none=>"NoneType"
 |.bool _=>"bool"
 |.int _=>"int"
 |.str _=>"str"
 |.list _=>"list"
 |.tuple _=>"tuple"
 |.dict _=>"dict"
theorem isD(I:Inv X f m H s)(r:Rep X.K H v d)(a:RelV v u)
 (e:PySem.W.kitOne X.K (.type (X3 d)) c=some b)(h:∀tk,Q (.bool b) {s with toks:=tk}):wpAny 00 A (call (.builtin "isinstance") [u,c]) Q E s:=by
 cases r with
 |non=>cases(show u=Value.none from a);exact abG PySem.W.kitx_none I.kIn aaJ e (λz=>nomatch z) h
 |bl y=>cases(show u=Value.bool y from a);exact abG PySem.W.kitx_bool I.kIn aaJ e (λz=>nomatch z) h
 |int i=>obtain⟨t,q⟩:=(show∃t,u=Value.int i t from a);cases q;exact abG PySem.W.kitx_int I.kIn aaJ e (λz=>nomatch z) h
 |str y=>obtain⟨t,q⟩:=(show∃t,u=Value.str y t from a);cases q;exact abG PySem.W.kitx_str I.kIn aaJ e (λz=>nomatch z) h
 | tup g _=>cases(show u=Value.ref _ from a);obtain⟨_,_,⟨o,j,l,_⟩,_⟩:=I.tuple g;exact abG PySem.W.kitx_tuple I.kIn ⟨o,j,l⟩ e (λz=>nomatch z) h
 | lst g _=>cases(show u=Value.ref _ from a);obtain⟨_,_,⟨o,n,j,l,_⟩,_⟩:=I.list g;exact abG PySem.W.kitx_list I.kIn ⟨o,j,l⟩ e (λz=>nomatch z) h
theorem Xu(I:Inv X f p H s)(r:Rep X.K H v d)(c:RelV v u)
 (a:s.heap.get? tp=some ⟨.type "tuple",dd,.seq j.toArray n,w⟩)(e:PySem.W.kitAny X.K (.type (X3 d)) j=some b)(h:∀tk,Q (.bool b) {s with toks:=tk}):wpAny 00 A (call (.builtin "isinstance") [u,.ref tp]) Q E s:=by
 cases r with
 |non=>cases(show u=Value.none from c);exact abH PySem.W.kitx_none I.kIn aaJ a e (λz=>nomatch z) h
 |bl y=>cases(show u=Value.bool y from c);exact abH PySem.W.kitx_bool I.kIn aaJ a e (λz=>nomatch z) h
 |int i=>obtain⟨t,q⟩:=(show∃t,u=Value.int i t from c);cases q;exact abH PySem.W.kitx_int I.kIn aaJ a e (λz=>nomatch z) h
 |str y=>obtain⟨t,q⟩:=(show∃t,u=Value.str y t from c);cases q;exact abH PySem.W.kitx_str I.kIn aaJ a e (λz=>nomatch z) h
 | tup g _=>cases(show u=Value.ref _ from c);obtain⟨_,_,⟨o,l,m,_⟩,_⟩:=I.tuple g;exact abH PySem.W.kitx_tuple I.kIn ⟨o,l,m⟩ a e (λz=>nomatch z) h
 | lst g _=>cases(show u=Value.ref _ from c);obtain⟨_,_,⟨o,n,l,m,_⟩,_⟩:=I.list g;exact abH PySem.W.kitx_list I.kIn ⟨o,l,m⟩ a e (λz=>nomatch z) h
def Xz(K:Zs):List V->Hp->VK->Prop:=λa H Q=>∃x n d b,a=[x,.ty n]/\Rep K H x d/\PySem.W.kitOne K (.type (X3 d)) (.type n)=some b/\Q (.bl b) H
theorem iy:jJ X (.builtin "isinstance") (Xz X.K):=by
 intro a s f H g i Q I r h;obtain⟨x,n,d,b,rfl,c,e,q⟩:=h;cases r with
 | cons r1 r=>
   cases r with
   | cons r2 r=>cases r;cases(show _=Value.type n from r2);exact isD I c r1 e λtk=>⟨.bl b,H,I.tok tk,8,q⟩
noncomputable def Tp(K:Zs):List V->Hp->VK->Prop:=λc H Q=>∃x a n m d b,c=[x,.ref a]/\H a=some (.tup [.ty n,.ty m])/\Rep K H x d/\PySem.W.kitAny K (.type (X3 d)) [.type n,.type m]=some b/\Q (.bl b) H
theorem vd:jJ X (.builtin "isinstance") (Tp X.K):=by
 intro j s C H D E Q I r h;obtain⟨x,a,n,m,d,b,rfl,l,p,e,q⟩:=h;cases r with
 | cons r1 r=>
   cases r with
   | cons r2 r=>
     cases r;cases(show _=Value.ref a from r2);obtain⟨z,v,c,o,w,f,k,g⟩:=(show gq X.prog X.w H s.heap a (.tup [.ty n,.ty m])from I.hok a _ l);obtain⟨cls,dd,i,B⟩:=o;simp only at f g;subst f g;cases c with
     | cons y c=>
       cases c with
       | cons A c=>cases c;cases(show _=Value.type n from y);cases(show _=Value.type m from A);exact Xu I p r1 w e λtk=>⟨.bl b,H,I.tok tk,8,q⟩
theorem yd:∀{bs:List Bool},a=bs.map V.bl->Vals a c->c=bs.map Value.bool:=by
 intro bs e r;induction bs generalizing a c with
 |nil=>subst e;cases r;rfl
 | cons b t d=>
   subst e;cases r with
   |cons r1 r=>rw[aay,d rfl r,(show _=Value.bool b from r1)]
theorem range_all(bs:List Bool):(List.range bs.length).all (λi=>bs.getD i false)=bs.all id:=by
 induction bs with
 |nil=>rfl
 |cons b t a=>rw[aaz,acz,ab2,List.all_map,ab2,<-a];rfl
theorem range_any(bs:List Bool):(List.range bs.length).any (λi=>bs.getD i false)=bs.any id:=by
 induction bs with
 |nil=>rfl
 |cons b t a=>rw[aaz,acz,abr,List.any_map,abr,<-a];rfl
theorem pR{bs:List Bool}:TruthOf P w A (λi v=>((bs.map Value.bool).toArray)[i]?=some v) λi=>bs.getD i false:=λi v s Q E a c=>by
 dsimp only at a c;rw[List.getElem?_toArray,aaq]at a;cases e:bs[i]? with
 |none=>rw[e]at a;cases a
 | some b=>rw[e]at a;cases a;rw[acy,e]at c;exact aad c
def Nq(K:Zs)(f:List Bool->Bool):List V->Hp->VK->Prop:=λb H Q=>∃a bs,b=[.ref a]/\eY K H a (bs.map V.bl)/\Q (.bl (f bs)) H
theorem uy{X:Cx}(l:X.calm=true):jJ X (.builtin "all") (Nq X.K λbs=>bs.all id):=by
 intro d s w H x y Q I r h;obtain⟨a,bs,rfl,f,q⟩:=h;cases r with
 | cons r1 r=>
   cases r;cases(show _=Value.ref a from r1);obtain⟨g,i,p,v⟩:=I.list f;have e:=yd rfl i;subst e;refine PySem.call_all_walk (acN p.isList ?_);have c:a≠s.heap.objs.size:=(by obtain⟨o,ho,_⟩:=p.isList;exact aar (aak ho));refine⟨s.heap.objs.size,_,_,_,_,7,Walks.list (A:=X.A.in1) (I.ok.hd l) s.heap.objs.size a c (bs.map Value.bool).toArray,⟨⟨_,aav _ rfl,8,8⟩,?_⟩,pR,λm tk hk=>?_⟩
   ·obtain⟨o,ho,j,n,hd⟩:=p.isList;exact⟨o,aaj _ ho,j,n,hd⟩
   ·rw[aas,aaf,range_all];exact⟨.bl _,H,I.kept λb o e=>hk b o (by simp;exact aar (aak e)) (aaj _ e),8,q⟩
theorem Cw{X:Cx}(l:X.calm=true):jJ X (.builtin "any") (Nq X.K λbs=>bs.any id):=by
 intro d s w H x y Q I r h;obtain⟨a,bs,rfl,f,q⟩:=h;cases r with
 | cons r1 r=>
   cases r;cases(show _=Value.ref a from r1);obtain⟨g,i,p,v⟩:=I.list f;have e:=yd rfl i;subst e;refine PySem.call_any_walk (acN p.isList ?_);have c:a≠s.heap.objs.size:=(by obtain⟨o,ho,_⟩:=p.isList;exact aar (aak ho));refine⟨s.heap.objs.size,_,_,_,_,7,Walks.list (A:=X.A.in1) (I.ok.hd l) s.heap.objs.size a c (bs.map Value.bool).toArray,⟨⟨_,aav _ rfl,8,8⟩,?_⟩,pR,λm tk hk=>?_⟩
   ·obtain⟨o,ho,j,n,hd⟩:=p.isList;exact⟨o,aaj _ ho,j,n,hd⟩
   ·rw[aas,aaf,range_any];exact⟨.bl _,H,I.kept λb o e=>hk b o (by simp;exact aar (aak e)) (aaj _ e),8,q⟩
theorem Kf:∀{a:Y2},Vals (a.map V.str) b->StrsAre b a:=by
 intro a;induction a generalizing b with
 |nil=>intro r;cases r;exact .nil
 | cons y t c=>
   intro r;cases r with
   | cons r1 r=>obtain⟨tk,e⟩:=(show∃t,_=Value.str y t from r1);subst e;exact .cons _ _ (c r)
noncomputable def rJoin(K:Zs):V->List V->Hp->VK->Prop:=λx vs H Q=>∃z a b,x=.str z/\vs=[.ref a]/\eY K H a (b.map V.str)/\(b.map (·.length)).sum+b.length*z.length<=16777216/\Q (.str (Txt.join z b)) H
theorem Bq:Jz X "str.join" (rJoin X.K):=by
 intro b s o H x vs v w Q I j l h;obtain⟨z,a,m,rfl,rfl,d,f,q⟩:=h;obtain⟨t,e⟩:=(show∃t,v=Value.str z t from j);subst e;cases l with
 | cons r1 r=>cases r;cases(show _=Value.ref a from r1);obtain⟨g,i,p,n⟩:=I.list d;exact join_list p.isList (by simpa using Kf i) f λc k=>⟨.str _,H,I.tok k,⟨c,8⟩,q⟩
def Xi(f:Str->Bool):V->List V->Hp->VK->Prop:=λx vs H Q=>∃z,x=.str z/\vs=[]/\Q (.bl (f z)) H
noncomputable def yP:Jz X "str.isascii" (Xi λx=>x.cps.all (·<128)):=by intro a s d H x vs v f Q I b c h;obtain⟨z,rfl,rfl,q⟩:=h;obtain⟨t,e⟩:=(show∃t,v=Value.str z t from b);subst e;cases c;exact call_gives PySem.F.slot_str_isascii (typeIs_str _ _ _) PySem.F.entry_str_isascii (PySem.F.args_str_isascii_1 _) (gives_str_isascii z t) ⟨.bl _,H,I,8,q⟩
noncomputable def yS:Jz X "str.isalpha" (Xi λx=>x.length >0&&x.cps.all Unicode.isAlpha):=by intro a s d H x vs v f Q I b c h;obtain⟨z,rfl,rfl,q⟩:=h;obtain⟨t,e⟩:=(show∃t,v=Value.str z t from b);subst e;cases c;exact call_gives PySem.F.slot_str_isalpha (typeIs_str _ _ _) PySem.F.entry_str_isalpha (PySem.F.args_str_isalpha_1 _) (gives_str_isalpha z t) ⟨.bl _,H,I,8,q⟩
noncomputable def zN:Jz X "str.islower" (Xi λx=>x.cps.any Unicode.isLower&&!x.cps.any λc=>Unicode.isUpper c||Unicode.isTitle c):=by intro a s f H x vs v g Q I b d h;obtain⟨z,rfl,rfl,q⟩:=h;obtain⟨t,e⟩:=(show∃t,v=Value.str z t from b);subst e;cases d;exact call_gives PySem.F.slot_str_islower (typeIs_str _ _ _) PySem.F.entry_str_islower (PySem.F.args_str_islower_1 _) (gives_str_islower z t) ⟨.bl _,H,I,8,q⟩
structure VD(osc:ZU)(N:Y2)(scope:ZU)(own:Y2)(js:List Nat)(N':Y2):Prop where
 kind:scope.kind=.function
 nocell:∀y∈scope.names,y.2≠.cell
 names:∀y∈scope.names,y.2=.local->scope.names.lookup y.1=some .local
 free:∀y∈scope.names,y.2=.free->osc.names.lookup y.1=some .cell\/osc.names.lookup y.1=some .free
 nm:N'=own++js.map λj=>N.getD j Str.empty
 fr:∀j∈js,j<N.length/\(N.getD j Str.empty,NameKind.free)∈scope.names/\∀y∈scope.names,y.1=N.getD j Str.empty->y.2=.free
noncomputable def dJ.of(e:X.env.scope=osc)(f:X.N=N)(h:VD osc N a own d c):dJ X a own d c:=by subst e f;exact⟨h.kind,h.nocell,h.names,h.free,h.nm,λj b=>⟨(h.fr j b).1,(h.fr j b).2.1,λk hk=>(h.fr j b).2.2 _ hk rfl⟩⟩
mutual
noncomputable def kZ:PyData->Nat
 |.tuple a=>max a.length (jF a)
 |.list a=>max a.length (jF a)
 |_=>0
noncomputable def jF:List PyData->Nat
 |[]=>0
 |d::r=>max (kZ d) (jF r)
end
theorem rO:∀{a:List PyData},e∈a->kZ e<=jF a
 |_::_,.head _=>by simp only[jF];omega
 |_::r,.tail _ h=>by have:=rO h;simp only[jF];omega
noncomputable def jx(b:Gl X x)(c:X.mg x=none)(d:bootBuiltins x=some (.type n))(e:x≠"__name__":=by decide)(hd:(x==("__debug__":Str))=false:=by decide):PE X (.Name x a) (tC (.ty n)):=Lz (v:=.ty n) b c d rfl e hd
def iM{c:Bool}{A B:Prop}(h:c=true)(q:A):if c=true then A else B:=by rw[aac h];exact q
def gB{c:Bool}{A B:Prop}(h:c=false)(q:B):if c=true then A else B:=by rw[aab (by rw[h];exact aaG)];exact q
def JF(r s f:R2)(v w A B:TE):TE:=λe H Q=>v e H λx l=>w e l λy m=>r x y m λz g=>∃k,z=.bl k/\
 (if k=true then A e g λh n=>s y h n λo i=>∃j,o=.bl j/\(if j=true then B e i λp q=>f h p q Q else Q (.bl false) i)else Q (.bl false) g)
theorem CJ(ho:ni X (compareOp op) r)(p:ni X (compareOp j) G)(m:ni X (compareOp g) l)(ha:PE X a ta)(hb:PE X b tb)(hc:PE X c tc)(hd:PE X d td)
 (hm:lastMarks [op,j,g] [b,c,d]=false:=by with_unfolding_all rfl):PT X (.Compare a [op,j,g] [b,c,d] pos) (uV (JF r G l ta tb tc td)):=by
 intro f s i H Q I h;refine isTrue_chain (fQ (ha f s i H _ I h) λv J⟨x,L,M,r1,q1⟩=>test_link (fQ (hb f J i L _ M q1) λu N⟨y,O,P,r2,q2⟩=>fQ (ho f N i O x y v u _ P r1 r2 q2) λd' R⟨z,q,w,r3,k,e,A⟩=>?_)) hm;subst e;cases r3;refine aaZ ?_;cases k with
 | false=>obtain⟨k',n,o⟩:=A;cases n;exact ite_ff ⟨q,w,o⟩
 | true=>
   refine ite_tt (test_link (fQ (hc f R i q _ w A) λB S⟨C,T,U,r4,W⟩=>fQ (p f S i T y C u B _ U r2 r4 W) λY Z⟨z2,D,E,r5,k2,e2,F⟩=>?_));subst e2;cases r5;refine aaZ ?_;cases k2 with
   | false=>obtain⟨k',n,o⟩:=F;cases n;exact ite_ff ⟨D,E,o⟩
   | true=>refine ite_tt (test_last (fQ (hd f Z i D _ E F) λw2 s6⟨z3,H6,I6,r6,q6⟩=>fQ (m f s6 i H6 C z3 B w2 _ I6 r4 r6 q6) λd3 s7⟨z4,H7,I7,r7,k3,e3,q7⟩=>?_));subst e3;cases r7;exact aaZ ⟨H7,I7,q7⟩
abbrev TF:=Str->St->Hp->VK->Prop
def PF(X:Cx)(d:YU)(t:TF):Prop:=
 ∀(b:Str)(a:YN)(s:Zp)(c:St)(H:Hp)(Q:VK),Inv X a c H s->t b c H Q->wpAny 00 X.A (joinParts b (evalEach d X.env)) (EP X a c Q) X.xe s
def Zd(x:V)(y:Str):Prop:=(x=.str y/\y.length<=sizeLine)\/∃i:Int,x=.int i/\i.natAbs.log2<1920/\y=Str.ofString (toString i)
def Ph:PF X [] (λa _ H Q=>a.length<=sizeLine/\Q (.str a) H):=λa b s c H Q I h=>joinParts_nil ⟨.str a,H,I.tok _,⟨9⟩,h.2⟩ h.1
def Ii(d:PF X g t)(f:evalEach (.Constant (.str x) j e::g) X.env=eval (.Constant (.str x) j e) X.env::evalEach g X.env:=by rfl):
 PF X (.Constant (.str x) j e::g) (λa c H Q=>(a++x).length<=sizeLine/\t (a++x) c H Q):=by
 intro a b s c H Q I h;rw[f];exact joinParts_cons (Calls.Constant_str ⟨h.1,d (a++x) b _ c H Q (I.tok _) h.2⟩)
def zL(n:PE X e A)(j:PF X z t)(o:evalEach (.FormattedValue e (-1) none w::z) X.env=eval (.FormattedValue e (-1) none w) X.env::evalEach z X.env:=by rfl):
 PF X (.FormattedValue e (-1) none w::z) (λb c H Q=>A c H λx d=>∃y,Zd x y/\(b++y).length<=sizeLine/\t (b++y) c d Q):=by
 intro b a s c H Q I h;rw[o];refine joinParts_cons (FormattedValue_plain (fQ (n a s c H _ I h) λv p⟨x,d,f,r1,y,fm,g,q⟩=>?_));rcases fm with⟨rfl,l⟩|⟨i,rfl,m,rfl⟩
 ·obtain⟨tk,rfl⟩:=r1;exact formatField_str (λr tk=>⟨g,j _ a _ c d Q (f.tok tk) q⟩) l
 ·obtain⟨tk,rfl⟩:=r1;exact formatField_int_small m ⟨g,j _ a _ c d Q (f.tok _) q⟩
def SM(t:TF):TE:=λa H Q=>t Str.empty a H Q
noncomputable def LQ(h:PF X (b::c::e) t)(g:evalEach (b::c::e) X.env=eval b X.env::eval c X.env::evalEach e X.env:=by rfl):PE X (.JoinedStr (b::c::e) i) (SM t):=by intro a s d H Q I f;refine JoinedStr_many ?_;rw[<-g];exact h _ a s d H Q I f
end L2
namespace HT
open PySem PySem.Spec PyProof.Rows
def Cv{s:Zp}{t i:Zl}{d:YA}{a b c:ZI}{e step:Int}{n:Nat}{Q:ZY}(h:IsTup s.heap t d)(L:s.heap.IsSliceOf i a b c)
 (M:∀(D:ZO)(y:Int×Int×Nat->Shared->Prop)(F:ZY),y (e,step,n) s->wpAny (model P w) D (Builtin.Slice.sliceApplied (.ref i) (pure (d.size:Int))) y F s)
 (C:(e==0&&step==1&&n==d.size)=true->Q (.ref t) s)
 (N:¬(e==0&&step==1&&n==d.size)=true->((List.range n).filterMap λ(k:Nat)=>d[(e+(k:Int)*step).toNat]?).length<=sizeLine/\Q (.ref s.heap.objs.size) {s with heap:=s.heap.push {cls:=.type "tuple",data:=.seq ((List.range n).filterMap λ(k:Nat)=>d[(e+(k:Int)*step).toNat]?).toArray}}):
 wpAny (model P w) A (getItem (.ref t) (.ref i)) Q E s:=by
 obtain⟨G,o,p,H⟩:=id L;have l:s.TypeIs (.ref i) "slice":=⟨G,o,p⟩;obtain⟨O,q,r,nt,I⟩:=id h;unfold getItem
 try with_reducible refine abe ?_
 first|refine aaa (aad ?_)|skip
 refine aaa (acX h.typeIs 02 (aaa (wpAny_callSpecial?_slot (name:=Str.ofString "__getitem__") h.typeIs abD (abf abD h.typeIs entry_tuple_getitem ?_ (args_tuple_getitem _ _)))));show wpAny _ _ (Builtin.Tuple.tupleItemsOf (.ref t)>>=_) _ _ s;refine aaa (tupleItemsOf_ h (aaa (wpAny_typeOf l ?_)));rw[aac 02];refine aaa (M _ _ _ ?_);show wpAny _ _ (if(e==0&&step==1&&n==d.size)=true then _ else _) _ _ s;by_cases g:(e==0&&step==1&&n==d.size)=true
 ·rw[aac g];have B:wpAny (model P w) A.in1 (Builtin.Tuple.tupleIsExact (.ref t)) (λb j=>b=true/\j=s) E s:=by unfold Builtin.Tuple.tupleIsExact;refine aaa (wpAny_typeOf_ref q ?_);rw[r];exact aad ⟨8,8⟩
  first
   |refine aaa (aaF B (λb j x=>?_) λ_ _ z=>z)
   |refine aaa (aaa (aaF B (λb j x=>?_) λ_ _ z=>z))
  obtain⟨rfl,rfl⟩:=x;rw[aac rfl]
  first
   |exact aaa (abu (aad ⟨_,rfl,aad (C g)⟩))
   |exact aaa (abu (aaa (aad (aad ⟨_,rfl,aad (C g)⟩))))
 ·rw[aab g];obtain⟨J,v⟩:=N g;have f:sizeOk (.seq ((List.range n).filterMap λ(k:Nat)=>d[(e+(k:Int)*step).toNat]?).toArray):=by show(_:YA).size<=sizeLine;rw[aas];exact J
  first
   |exact aaa (m:=Builtin.Tuple.tupleExact _) (aa2 (aad ⟨_,rfl,aad v⟩) f)
   |exact aaa (m:=Builtin.Tuple.tupleExact _) (aa2 (aaa (aad (aad ⟨_,rfl,aad v⟩))) f)
   |exact aaa (aaa (m:=Builtin.Tuple.tupleExact _) (aa2 (aad (aad ⟨_,rfl,aad v⟩)) f))
end HT
namespace L2
open PySem PySem.Spec PyProof.Rows PySem.SeqAt
noncomputable def Xk(K:Zs):V->Option Int->Option Int->Hp->VK->Prop:=λx c d H Q=>∃a b,x=.ref a/\e_ K H a b/\(oh b c d=b->Q (.ref a) H)/\∀p,H p=none->Q (.ref p) (upd H p (.tup (oh b c d)))
def qx{X:Cx}:X4 X (Xk X.K):=by
 intro d s z H x v vl A i j B Q I o l p q h;obtain⟨a,b,rfl,m,q1,q2⟩:=h;by_cases f:HT.jm b.length 0 i=0/\HT.jm b.length b.length j=b.length
 ·cases(show v=Value.ref a from o);obtain⟨g,r,n,F⟩:=I.tuple m;have c:g.toArray.size=b.length:=by rw[aas];exact r.length.symm
  refine⟨"tuple",_,abD.lookup,n.typeIs,?_⟩;have e:oh b i j=b:=by unfold oh;rw[f.1,f.2,List.drop_zero,Nat.sub_zero,aaQ]
  refine HT.Cv n l (λC D E w=>HT.lH l p q w) (λ_=>⟨.ref a,H,I,8,q1 e⟩) λy=>(y ?_).elim;rw[c,f.1,f.2];simp
 ·exact PJ d s z H _ v vl A i j B Q I o l p q ⟨a,b,8,m,f,q2⟩
section
variable{X:Cx}{dD:YN}{σ:St}{H:Hp}{s:Zp}{h':ZN}
noncomputable def Inv.turnLaid{a:Zl}{o:HO}{C:Nat}{fp:YI}(I:Inv X dD σ H s)(k:∀b u,b∉fp->s.heap.get? b=some u->h'.get? b=some u)(E:∀b∈fp,∃u,h'.get? b=some u)(g:∀b∈fp,jO X dD H b)(h:s.heap.objs.size<=a)(new:gq X.prog X.w (upd H a o) h' a o):
 Inv X dD σ (upd H a o) {s with heap:=h',toks:=C}:=by
 have l:H a=none:=I.hok.fresh h;have off:∀b u,H b=some u->b∉fp:=λb u e z=>by rw[(g b z).1]at e;cases e
 have up:∀b u,H b=some u->(upd H a o) b=some u:=λb u e=>by rw[b8 (cg e l)];exact e
 refine I.step (g':=s.gens) (d':=s.drawn) (ch:=fp) (λb f=>?_) (λb u _ _ d e _=>k b u d e) (λb u _ _ d e _=>⟨u.slots,k b u d e⟩) (λb u _ e n=>?_) (λb u d e=>⟨u,k b u d e⟩) (λb i e=>up b _ e) (λb u z e=>up b _ e) (λb D e=>⟨#[],by rw[up b _ e];simp⟩) (λm j=>?_) (λb u e=>?_) I.bare
 ·obtain⟨_,p,_,w,x,y⟩:=g b f;exact⟨w,p,x,y⟩
 ·rw[b8 (aar (aat (aak e) h))];exact n
 ·obtain⟨u,A,B,ho,r⟩:=j;exact⟨u,A,B,k _ u (λz=>(g _ z).2.1 rfl) ho,r⟩
 ·by_cases f:b=a
  ·subst f;rw[a_]at e;cases e;exact new
  ·rw[b8 f]at e;refine(I.hok b u e).stay (λc v d q=>k c v ?_ q) (λc q=>up c _ q) λc i q=>up c _ q;rcases d with rfl|z
   ·exact off _ u e
   ·exact off c _ z
def mU(b:s.heap.IsTupleIter c l i)(j:s.heap.IsTuple l a)(m:a[i]?=some x)
 (n:∀g,g.IsTupleIter c l (i+1)->Heap.SameBut c s.heap g->Q x {s with heap:=g}):wpAny (model d w) A (Builtin.SmallTypes.nextOf (.ref c)) Q E s:=by
 obtain⟨o,ho,h,hd⟩:=id b;obtain⟨ol,e,_,nl,f⟩:=j;unfold Builtin.SmallTypes.nextOf;refine aaa (wpAny_callSpecial?_slot (name:=Str.ofString "__next__") b.typeIs acB (abf acB b.typeIs F.entry_tuple_iterator_next ?_ (F.args_tuple_iterator_next_1 _)));show wpAny _ _ (field (.ref c) 0>>=_) _ _ s;refine aaa (aaE ho hd (x:=.ref l) rfl ?_);show wpAny _ _ (if(Value.ref l==Value.none)=true then _ else _) _ _ s;rw[aab (show¬((Value.ref l==Value.none)=true)from nofun)];show wpAny _ _ (field (.ref c) 1>>=_) _ _ s;refine aaa (aaE ho hd (x:=.int i 0) rfl ?_);show wpAny _ _ (seqItems? (.ref l)>>=_) _ _ s;refine aaa (abI e f ?_);simp only[acW,m];refine aaa (abw ho hd 04 (aad ⟨x,8,aad (n _ ⟨_,abJ _ ho (ac0 (ab7 hd _)),(Obj.cls_mapFields ..).trans h,by rw[ab7 hd];simp[rawInt]⟩ (Heap.SameBut.update ..))⟩))
def lF(n:A.handled=none)(c:s.heap.IsTupleIter f l i)(p:s.heap.IsTuple l b)(q:b[i]?=none)
 (r:∀g e,Heap.ExtBut f s.heap g->(∃o,g.get? e=some o/\o.cls=.type "StopIteration")->E (.ref e) {s with heap:=g}):wpAny (model d w) A (Builtin.SmallTypes.nextOf (.ref f)) Q E s:=by
 obtain⟨o,ho,v,hd⟩:=id c;obtain⟨ol,h,_,nl,j⟩:=p;unfold Builtin.SmallTypes.nextOf;refine aaa (wpAny_callSpecial?_slot (name:=Str.ofString "__next__") c.typeIs acB (abf acB c.typeIs F.entry_tuple_iterator_next ?_ (F.args_tuple_iterator_next_1 _)));show wpAny _ _ (field (.ref f) 0>>=_) _ _ s;refine aaa (aaE ho hd (x:=.ref l) rfl ?_);show wpAny _ _ (if(Value.ref l==Value.none)=true then _ else _) _ _ s;rw[aab (show¬((Value.ref l==Value.none)=true)from nofun)];show wpAny _ _ (field (.ref f) 1>>=_) _ _ s;refine aaa (aaE ho hd (x:=.int i 0) rfl ?_);show wpAny _ _ (seqItems? (.ref l)>>=_) _ _ s;refine aaa (abI h j ?_);simp only[acW,q];refine aaa (abu (aaa (abw ho hd 04 ?_)));show wpAny _ _ (newExc (.type "StopIteration") []>>=_) _ _ _;refine aaa ?_;simp only[newExc,newTuple];refine aaa (aa2 ?_ (by size_fits));refine aaa (m:=firstArgMember _ _) (wpAny_of_eq (a:=Value.none) (by first|rfl|(simp only[firstArgMember];rfl)) (aa2 ?_ (by size_fits)));simp only[raiseNew];refine aaa (wpAny_handled ?_)
 first|rw[show A.in1.handled=none from n]|rw[n]
 exact aaa (aad (wpAny_throw (r _ _ (((Heap.SameBut.update ..).extBut.push _).push _) ⟨_,aav _ rfl,rfl⟩)))
def QV(q:A.handled=none)(c l:Zl)(d:l≠c)(a:YA):Draws prog w A c [c,l] a.size (λi v=>a[i]?=some v) (λi h=>h.IsTupleIter c l i/\h.IsTuple l a)where
 live:=λ_ _ b=>let⟨o,ho,_⟩:=b.1;⟨o,ho⟩
 frame:=λ_ _ _ b hk=>⟨b.1.at λo e=>hk c 04 o e,let⟨o,e,r⟩:=b.2;⟨o,hk l 04 o e,r⟩⟩
 item:=λi s Q E f b m=>mU b.1 b.2 (x:=a[i]) (by simp[f]) λg n j=>m _ g s.toks (by simp[f]) ⟨n,let⟨o,e,r⟩:=b.2;⟨o,(j.2 l d).trans e,r⟩⟩ j
 done:=λs Q E b p=>lF q b.1 b.2 04 p
set_option tactic.hygienic true in
def C_(l:Zl)(a:YA)(n:Nat)(e:YE)(p:YV):
 Meets (Builtin.«enumerate.__new__» ⟨[.type "enumerate",.ref l],[]⟩) (λ_ R s=>s.heap.get? l=some {cls:=.type "tuple",dict:=e,data:=.seq a n,slots:=p}/\R (.ok (.ret (.ref (s.heap.push {cls:=.type "tuple_iterator",data:=.fields #[.ref l,.int 0 0]}).objs.size))) {s with heap:=(s.heap.push {cls:=.type "tuple_iterator",data:=.fields #[.ref l,.int 0 0]}).push {cls:=.type "enumerate",data:=.fields #[.none,.bool false,.ref s.heap.objs.size,rawInt 0,.none,.none]}}):=
 .of_wp λf w A R s h=>by
  obtain⟨m,g,d,tk,o⟩:=s;obtain⟨b,h⟩:=h;have i:=sub_enumerate;have j:Heap.IsTuple (Shared.heap ⟨m,g,d,tk,o⟩) l a:=⟨_,b,8,n,8⟩
  wp_walk using abK b
  refine wpAny_stack_any λq=>aad ?_;split
  ·rename_i c _ _ _ _ _;cases(c==Value.type "enumerate")<;>(wp_walk using abK b,abY j;exact⟨9,h⟩)
  ·wp_walk using abK b,abY j
   exact⟨9,h⟩
def zX(i:s.heap.IsTuple l a)
 (h:∀g,IsEnum g 002 s.heap.objs.size 0 .none->g.IsTupleIter s.heap.objs.size l 0->(∀b o,s.heap.get? b=some o->g.get? b=some o)->Q (.ref 002) {s with heap:=g}):wpAny (model c w) A (call (.type "enumerate") [.ref l]) Q E s:=by
 obtain⟨⟨_,dd,_,f⟩,ho,rfl,n,rfl⟩:=id i;refine callType_new F.called_enumerate 02 (F.typeCall_enumerate_1 _) (F.newCall_enumerate_1 _) (λobj=>F.args_object_init_2 obj _) F.entry_enumerate_new (C_ l a n dd f) ⟨ho,?_⟩;have e:(s.heap.push {cls:=.type "tuple_iterator",data:=.fields #[.ref l,.int 0 0]}).objs.size=s.heap.objs.size+1:=aaY ..;have d:=aav (s.heap.push {cls:=.type "tuple_iterator",data:=.fields #[.ref l,.int 0 0]}) (o:={cls:=.type "enumerate",data:=.fields #[.none,.bool false,.ref s.heap.objs.size,rawInt 0,.none,.none]}) rfl;rw[e]at d;show _/\_;rw[e];exact⟨⟨_,d,8⟩,h _ d ⟨_,aaj _ (aav _ rfl),8,8⟩ λb o x=>aaj _ (aaj _ x)⟩
def Le{d:Type}{a b c:d}(h:c∈[a,b]):c=a\/c=b:=by simpa using h
def Qa(S:Hp->List V->Prop):It:=
 ⟨λi H=>∃a x,S H a/\a[i]?=some x,λi H v b=>∃p x,H p=none/\v=.ref p/\(∀a,S H a->a[i]?=some x)/\b=upd H p (.tup [.int i,x]),λi H=>∃a,S H a/\a.length=i⟩
abbrev ZL(K:Zs)(a:Zl):It:=Qa λH=>e_ K H a
def An{P:ZE}{w:ZH}{K:Zs}{M:YU}{k1}{pos:Pos}{S:Hp->List V->Prop}{A:Nat->Heap->Prop}(a e f:Zl)(p:e≠f)(hO:∀i h,A i h->∃o,h.get? f=some o/\∀v,o.data≠.cell v)
 (kp:∀i h N,A i h->(∀o,h.get? f=some o->N.get? f=some o)->A i N)
 (hS:∀{X:Cx}{i:Nat}{j:YN}{Q:St}{H:Hp}{s:Zp}{c:ZI}{F:List V},X.prog=P->X.w=w->X.K=K->X.A.handled=none->Inv X j Q H s->A i s.heap->IsEnum s.heap e f i c->S H F->(∀O,S H O->O=F)/\a≠e/\∃(l:YA)(T:Heap->Prop),Vals F l.toList/\T s.heap/\Draws P w X.A.in1 f [f,a] l.size (λi v=>l[i]?=some v) λi h=>A i h/\T h):
 Turn P w K (.Tuple M k1 pos) (Qa S) [e,f] e (λi h=>(∃c,IsEnum h e f i c)/\A i h)where
 mem:=by simp
 obj:=λi h⟨⟨c,Z⟩,h2⟩b d=>by
  rcases Le d with rfl|rfl
  ·exact⟨_,Z,nofun⟩
  ·exact hO _ _ h2
 keep:=λi h N⟨⟨c,Z⟩,h2⟩k=>⟨⟨c,k e 04 _ Z⟩,kp _ _ _ h2 (k f 04)⟩
 item:=by
  intro X R U W hc i j s Q H E I L⟨⟨c,n⟩,r⟩⟨F,x,hq,Y⟩;obtain⟨un,J,l,T,rv,hT,D⟩:=hS R U W (I.ok.hd hc) I r n hq;subst R U W;obtain⟨u,hu,ru⟩:=rv.get Y;rw[acv]at hu;refine wpAny_pyNext_enum_itemD D n ⟨r,hT⟩ (abg.mp hu).1 p (by simp[p,aaC J]) λy g tk hy ho m B ab hk=>?_;obtain rfl:=aaO (hy.symm.trans hu);have lt:∀b∈[e,f],b<s.heap.objs.size:=λb d=>by
   rcases Le d with rfl|rfl
   ·exact aak n
   ·obtain⟨o,z,_⟩:=hO _ _ r;exact aak z
  have I1:Inv X j Q (upd H s.heap.objs.size (.tup [.int i,x])) {s with heap:=g,toks:=tk+1}:=by
   refine I.turnLaid (fp:=[e,f]) (λb o d z=>hk b o (λq=>d (by simp[q])) (λq=>d (by simp[q])) z) (λb d=>?_) L 014 ⟨by show 2<=sizeLine;decide,[.int i tk,y],.cons ⟨9⟩ (.cons ru .nil),⟨_,B,8,9⟩⟩;rcases Le d with rfl|rfl
   ·exact⟨_,ho⟩
   ·obtain⟨o,z,_⟩:=hO _ _ m.1;exact⟨o,z⟩
  have G:∀b∈[e,f],(upd H s.heap.objs.size (.tup [.int i,x])) b=none:=λb d=>by rw[b8 (aar (lt b d))];exact(L b d).1
  refine⟨9,wpAny_letOwnedTupleGo_enum ho λg2 aa C=>?_⟩;obtain⟨f0,f1,f2,f3,f4,f5⟩:=L e 04;exact⟨.ref s.heap.objs.size,_,I1.turned (t':=tk+1) (λb o d z=>(C.2 b d).trans z) (G e 04) f1 f3 f4 f5,8,⟨s.heap.objs.size,x,I.hok.fresh 014,8,λO hy=>by rw[un O hy];exact Y,8⟩,⟨⟨_,by simpa using aa⟩,kp _ _ _ m.1 λo z=>(C.2 f (aaC p)).trans z⟩,G⟩
 done:=by
  intro X R U W hc i j s Q H E I L⟨⟨c,n⟩,r⟩⟨F,hq,Y⟩;obtain⟨un,J,l,T,rv,hT,D⟩:=hS R U W (I.ok.hd hc) I r n hq;obtain rfl:l.size=i:=by rw[<-Y,rv.length];rfl
  obtain⟨f0,f1,f2,f3,f4,f5⟩:=L f 04;exact wpAny_pyNext_enum_endD D n ⟨r,hT⟩ λN ex=>⟨8,I.turned (t':=s.toks) (λb o d e=>ex b o d e) f0 f1 f3 f4 f5⟩
 self:=λ_ _ _ _ _⟨⟨_,n⟩,_⟩h=>acC n h
noncomputable def Fb{h:ZN}{o f:Obj}(e:h.get? a=some o)(i:o.cls=.type c)(g:h.get? b=some f)(hd:f.cls=.type d)(n:c≠d:=by decide):a≠b:=by rintro rfl;rw[e]at g;cases g;exact n (Value.type.inj (i.symm.trans hd))
def zR{P:ZE}{w:ZH}{K:Zs}{f:YU}{k1}{j:Pos}(a e b:Zl)(l:e≠b):Turn P w K (.Tuple f k1 j) (ZL K a) [e,b] e (λi h=>(∃g,IsEnum h e b i g)/\h.IsTupleIter b a i):=
 An a e b l (λi h⟨o,e,_,d⟩=>⟨o,e,λv z=>by rw[d]at z;cases z⟩) (λi h L r k=>r.at k) λx y B hd I C D m=>by subst x y B;obtain⟨c,F,p,N⟩:=I.tuple m;obtain⟨o,n,q,_⟩:=id p;obtain⟨O,G,J,_⟩:=id C;exact⟨λM E=>I.tuple_inj E m,Fb n q D rfl,c.toArray,λh=>h.IsTuple a c.toArray,F,p,QV (A:=Around.in1 _) hd b a (Fb n q G J) _⟩
noncomputable def JQ{a:ZT}{R:It->Hp->Prop}{J:It}{c:Nat->Heap->Prop}(I:Inv X dD σ H s)(k:∀b o,s.heap.get? b=some o->h'.get? b=some o)(T:Turn X.prog X.w X.K a J [s.heap.objs.size+1,s.heap.objs.size] 002 c)(e:c 0 h')(q:R J H):
 PIE X dD σ a R (.ref 002) {s with heap:=h'}:=
 ⟨_,_,_,_,H,8,I.kept (t':=s.toks) k,T,e,λb d=>by
  have:s.heap.objs.size<=b:=by rcases Le d with rfl|rfl<;>omega
  exact I.fpOk this (I.hok.fresh this),q⟩
def Tq(K:Zs)(e:TA):TI:=λc H R=>e c H λvs b=>∃a,vs=[.ref a]/\(∃d,e_ K b a d)/\R (ZL K a) b
noncomputable def Fd{c:YU}{k1}{pt:Pos}{a:ZT}{n:TA}{p d:Pos}(x:Gl X "enumerate")(y:X.mg "enumerate"=none)(z:bootBuiltins "enumerate"=some (.type "enumerate"))(A:PA X [a] n)(B:starEach [a] X.env=[(false,eval a X.env)]:=by rfl):PI X (.Tuple c k1 pt) (.Call (.Name "enumerate" p) [a] [] d) (Tq X.K n):=by intro b s w H R I h;refine Call_ (mL I x y z (abZ (fQ (A d b s w H _ I h) λC i⟨vs,D,j,r1,q1⟩=>?_) B rfl));obtain⟨l,rfl,⟨E,r⟩,q⟩:=q1;obtain⟨u,rfl,e⟩:=vals1 r1;cases(show u=Value.ref l from e);obtain⟨f,F,v,G⟩:=j.tuple r;exact zX (show i.heap.IsTuple l f.toArray from v) λg m o hk=>acC m (JQ j hk (zR l _ i.heap.objs.size (Nat.succ_ne_self _)) ⟨⟨_,m⟩,o⟩ q)
def G3(c:Nat->St->Hp->Prop)(o:c 0 b H)(f:∀i b H,i<=xs.length->c i b H->S H xs)
 (q:∀i x b H p,xs[i]?=some x->c i b H->H p=none->g (.ref p) b (upd H p (.tup [.int i,x])) λd l=>j {D with nx:=c (i+1),ct:=c (i+1),bk:=D.nx} d l)
 (hd:∀b H,c xs.length b H->D.nx b H):FW (Qa S) g j D b H:=
 oV c o (λb H p=>⟨⟨xs,f _ b H 014 p,8⟩,hd b H p⟩) λi b H h p=>⟨⟨xs,xs[i],f i b H (aaT h) p,by simp[h]⟩,λv _⟨a,x,m,e,n,y⟩=>by subst e y;exact q i x b H a (n xs (f i b H (aaT h) p)) p m⟩
def oF:bootBuiltins "enumerate"=some (.type "enumerate"):=by ext
end
def jH(h:ZN)(H:Hp)(g:ZN)(e:Zl)(cls:ZI)(dd:YE):Prop:=
 ∃a vs,h.get? e=some a/\a.cls=cls/\a.dict=dd/\a.data=.fields vs/\g.get? e=none/\H e=none/\
   (vs[1]?=some .none\/∃T b c,vs[1]?=some (.ref T)/\T≠e/\h.get? T=some b/\b.data=.fields c/\c[3]?=some .none/\g.get? T=none/\H T=none)
def jH.mono(x:jH h H g e cls dd)(m:∀b,g.get? b=none->l.get? b=none):jH h H l e cls dd:=by
 obtain⟨n,vs,o,p,q,r,s,v,j⟩:=x;refine⟨n,vs,o,p,q,r,m _ s,v,?_⟩;rcases j with j|⟨T,w,y,a,b,c,d,f,gT,i⟩
 ·exact .inl j
 ·exact .inr ⟨T,w,y,a,b,c,d,f,m _ gT,i⟩
def Ej(f:Array Value->Array Value)(o:Obj):(Obj.mapFields f o).dict=o.dict:=by obtain⟨c,d,a,b⟩:=o;cases a<;>rfl
def vW(N:A.frames=some (env::c))(Z:s.heap.FunFrames v (env::c))(hf:env.frame=some L)
 (he:s.heap.get? e=some w)(hd:w.data=.fields vs)(l:1<vs.size)
 (h:∀(n:ZN)(T:Zl)(i P:Obj)(p R:YA),s.heap.objs.size<=T->n.get? e=some i->i.cls=w.cls->i.dict=w.dict->i.data=.fields p->p[1]?=some (.ref T)->n.get? T=some P->P.data=.fields R->R[3]?=some .none->(∀b o,b≠e->b∉(env::c).filterMap (·.frame)->s.heap.get? b=some o->n.get? b=some o)->(∀b o,b≠e->s.heap.get? b=some o->∃F,n.get? b=some {o with slots:=F})->Q () {s with heap:=n}):
 wpAny M A (do let a<-frameOf env;let z<-entryPlaceOf L d;let b<-EntryCells.newEntry head a .none (rawInt L) .none z;setField (.ref e) 1 b) (λ_ s'=>wpAny M A (setFlight (.ref e) none) Q E s') E s:=by
 have r:e∉(env::c).filterMap (·.frame):=λhm=>by obtain⟨_,o,ho,I⟩:=Z.mem hm;rw[he]at ho;cases ho;exact I vs hd
 refine aaa (wpAny_frameOf_fun N Z hf λg y=>aaa (wpAny_entryPlaceOf λz C=>?_));unfold EntryCells.newEntry newFields;refine aaa (aa2 ?_ (C.sizeOk5 _ _ _ _ _));have S:g.get? e=some w:=(y.2.1 e r).trans he;generalize J:([head,.ref L,.none,rawInt L,.none]++(if z.isEmpty then List.replicate 6 Value.none else z)).toArray=B;have U:3<B.size:=by rw[<-J];simp only[aas,aaw,aaz,abo];omega
 have W:=aaj (h:=g) {cls:=.type "traceback",dict:=none,data:=.fields B} S;refine abw W hd l ?_;have ne:g.objs.size≠e:=abA (aak S);have G:=ab7 hd (·.setIfInBounds 1 (Value.ref g.objs.size));have X:=abJ (Obj.mapFields (·.setIfInBounds 1 (Value.ref g.objs.size))) W (ac0 G);have Y:=(abn (g.push {cls:=.type "traceback",dict:=none,data:=.fields B}) (Obj.mapFields (·.setIfInBounds 1 (Value.ref g.objs.size))) (aaC ne)).trans (aav g rfl);unfold setFlight;refine aaa (aaE X G (x:=.ref g.objs.size) (by simp[l]) ?_);rw[aac (show(Value.ref g.objs.size !=Value.none)=true by simp)];refine abw Y rfl U ?_;have H:s.heap.objs.size<=g.objs.size:=abB y.1.symm;have keep:∀b o,b≠e->g.get? b=some o->(((g.push {cls:=.type "traceback",dict:=none,data:=.fields B}).update e (Obj.mapFields (·.setIfInBounds 1 (Value.ref g.objs.size)))).update g.objs.size (Obj.mapFields (·.setIfInBounds 3 ((none:YE).elim Value.none λf=>rawInt f)))).get? b=some o:=λb o m O=>by rw[abn _ _ (abA (aak O)),abn _ _ (aaC m)];exact aaj _ O
 refine h _ g.objs.size _ _ _ _ H (by rw[abn _ _ ne];exact X) (Obj.cls_mapFields _ _) (Ej _ _) G (by simp[l]) (abJ _ Y (ac0 (ab7 rfl _))) (ab7 rfl _) (by simp[U]) (λb o m D j=>keep b o m ((y.2.1 b D).trans j)) λb o m j=>?_;obtain⟨F,q⟩:=y.2.2 b o j;exact⟨F,keep b _ m q⟩
def leaveX(I:Inv X dD σ H s)(hst:X.stack=X.env::X.outer)(p:X.env.frame=some X.env.locals)(G:A.frames=some X.stack)(hex:X.ex=[])(x:jH s.heap H X.s₀.heap e cls dd)
 (h:∀i,jH i H X.s₀.heap e cls dd->Un (frs X.outer) [] X.H₀ H X.s₀.heap i->my X.prog X.w H i->Q () {s with heap:=i}):wpAny 00 A (leaving X.env (.ref e)) Q E s:=by
 have hl:=I.stack;rw[hst]at G hl;obtain⟨oe,vs,L,h2,h3,h4,h5,h6,h7⟩:=x;have free:∀b∈(X.env::X.outer).filterMap (·.frame),H b=none:=λb a=>I.stkFree b (by rw[hst];exact a);have Z:∀(i:ZN) (T:Zl) (d y:Obj) (g r:YA),X.s₀.heap.get? T=none->T≠e->H T=none->i.get? e=some d->d.cls=oe.cls->d.dict=oe.dict->d.data=.fields g->g[1]?=some (.ref T)->i.get? T=some y->y.data=.fields r->r[3]?=some .none->
  (∀b o,b≠e->(H b≠none\/∃j,X.s₀.heap.get? b=some j)->b∉(X.env::X.outer).filterMap (·.frame)->s.heap.get? b=some o->i.get? b=some o)->(∀b o,(∃j,X.s₀.heap.get? b=some j)->s.heap.get? b=some o->∃sl,i.get? b=some {o with slots:=sl})->Q () {s with heap:=i}:=by
  intro i T d y g r C l af N O P R S U W Y kp J;refine h i ⟨d,g,N,O.trans h2,P.trans h3,R,h5,h6,.inr ⟨T,y,r,S,l,U,W,Y,C,af⟩⟩ ?_ ?_
  ·have B:=I.base;rw[hex]at B;have nl:∀b o,X.s₀.heap.get? b=some o->b<X.s₀.heap.objs.size:=λb o z=>aak z;have aa:∀b,b<X.s₀.heap.objs.size->b∉frs X.outer->b∉(X.env::X.outer).filterMap (·.frame):=λb a hn m=>by
    rw[abT,p]at m;rcases aag.mp m with rfl|m
    ·exact absurd (aat a I.ok.above) (aaP _)
    ·exact hn m
   refine⟨λb o z n a M=>kp b o (λq=>by subst q;rw[h5]at z;cases z) (.inr ⟨o,z⟩) (aa b (nl b o z) a) (B.keep b o z n a M),λb o z n a M=>?_,B.free,λb o z M=>?_,B.tups,B.frzs,B.tbls⟩
   ·obtain⟨sl,q⟩:=B.slot b o z n a M;obtain⟨ab,q'⟩:=J b _ ⟨o,z⟩ q;exact⟨ab,q'⟩
   ·obtain⟨o',q⟩:=B.there b o z M;obtain⟨ab,q'⟩:=J b _ ⟨o,z⟩ q;exact⟨_,q'⟩
  ·intro b u a;refine(I.hok b u a).stay (λc v hc q=>kp c v ?_ (.inl ?_) ?_ q) (λ_ q=>q) λ_ _ q=>q
   ·rintro rfl;rcases hc with rfl|z
    ·rw[h6]at a;cases a
    ·rw[h6]at z;cases z
   ·rcases hc with rfl|z
    ·rw[a];simp
    ·rw[z];simp
   ·intro m;have:=free c m;rcases hc with rfl|z
    ·rw[this]at a;cases a
    ·rw[this]at z;cases z
 unfold leaving noteFrame;simp only[p];rcases h7 with h7|⟨T,y,r,t1,t2,t3,t4,t5,t6,t7⟩
 ·refine aaa (aaa (aaE L h4 h7 ?_));rw[aab 02];refine vW G hl p L h4 (abg.mp h7).1 λi T d y g r C N O P R S U W Y kp J=>?_;have l:T≠e:=λq=>by subst q;exact absurd (aat (aak L) C) (aaP _)
  exact Z i T d y g r (acI (aah I.sz C)) l (I.hok.fresh C) N O P R S U W Y (λb o a _ m z=>kp b o a m z) λb o a z=>J b o (λq=>by subst q;obtain⟨_,a⟩:=a;rw[h5]at a;cases a) z
 ·refine aaa (aaa (aaE L h4 t1 ?_));rw[aac (show(Value.ref T !=Value.none)=true by simp)];refine aaa (aaE t3 t4 t5 ?_);rw[aab (show¬((Value.none==rawInt X.env.locals)=true) by simp[rawInt])];refine aaa (abw t3 t4 (abg.mp t5).1 ?_);have f:∀b,b≠T->(s.heap.update T (Obj.mapFields (·.setIfInBounds 3 Value.none))).get? b=s.heap.get? b:=λb a=>abn _ _ (aaC a);have ae:∀b o,s.heap.get? b=some o->(∀vs,o.data≠.fields vs)->b≠T:=λb o a D q=>by subst q;rw[t3]at a;cases a;exact D r t4
  refine vW (s:={s with heap:=s.heap.update T (Obj.mapFields (·.setIfInBounds 3 Value.none))}) G (hl.of_keeps λb o a D=>⟨o,(f b (ae b o a D)).trans a,8⟩) p ((f e (aaC t2)).trans L) h4 (abg.mp t1).1 λi T' d ac g ad C N O P R S U W Y kp J=>?_;have F:s.heap.objs.size<=T':=by have z:(s.heap.update T (Obj.mapFields (·.setIfInBounds 3 Value.none))).objs.size=s.heap.objs.size:=Heap.size_update _ _ _;exact aah (abB z.symm) C
  have l:T'≠e:=λq=>by subst q;exact absurd (aat (aak L) F) (aaP _)
  refine Z i T' d ac g ad (acI (aah I.sz F)) l (I.hok.fresh F) N O P R S U W Y (λb o a w m z=>kp b o a m ((f b ?_).trans z)) λb o a z=>J b o (λq=>by subst q;obtain⟨_,a⟩:=a;rw[h5]at a;cases a) ((f b ?_).trans z)
  ·rintro rfl;rcases w with w|w
   ·exact w t7
   ·obtain⟨_,w⟩:=w;rw[t6]at w;cases w
  ·rintro rfl;obtain⟨_,a⟩:=a;rw[t6]at a;cases a
noncomputable def mz(P:ZE)(w:ZH):wQ:=λa H s E e b=>∃(d:Zl)(cls:ZI)(dd:YE)(c:Hp),e=.ref d/\b.os=s.os/\AllBare b.gens/\Un (frs a) [] H c s.heap b.heap/\my P w c b.heap/\jH b.heap c s.heap d cls dd/\E cls dd c
noncomputable def ZD{P:ZE}{w:ZH}{K:Zs}{o:Y1}{m:ZN}{N:Y2}{n:Str}{j:ZU}{f:Zl}{cd:ZI}{A:ZO}{l:List Env}{s:Zp}{H:Hp}{E:XK}{a:YN}{g:St}{b:Hp}{c:Zp}{e:Zl}{cls:ZI}{dd:YE}(I:Inv (iD (mz P w) P w K o m N n j f cd A l s H E) a g b c)(x:jH c.heap b s.heap e cls dd)(h:E cls dd b):
 (iD (mz P w) P w K o m N n j f cd A l s H E).xe (.ref e) c:=
 leaveX I rfl rfl I.ok.frames rfl x λi d u k=>⟨e,cls,dd,b,8,I.os,I.bare,u,k,d,h⟩
theorem oG{P:ZE}{w:ZH}{K:Zs}{T:Y1}{R:ZN}{N:Y2}{S:Str}{O:ZU}{f:Zl}{cd:ZI}{A:ZO}{Q:List Env}{s:Zp}{H:Hp}{E:XK}{r:XK}(G:∀cls dd i,r cls dd i->E cls dd i):iz (mz P w) (iD (mz P w) P w K T R N S O f cd A Q s H E) r:=by
 intro c C M p e D I h;obtain⟨J,cls,dd,i,rfl,B,a,un,j,x,q⟩:=h;obtain⟨m,g,d,t,l⟩:=D;obtain rfl:l=p.os:=B;have y:Inv (iD (mz P w) P w K T R N S O f cd A Q s H E) c C i ⟨m,g,d,t,p.os⟩:=I.call (h':=m) (g':=g) (d':=d) (t':=t) (ch:=[]) un j a (λb z=>absurd z 04);refine ZD y (x.mono λb v=>?_) (G _ _ _ q);cases z:s.heap.get? b with
 |none=>rfl
 | some o=>obtain⟨L,n⟩:=I.base.there b o z (by intro F;cases F);rw[v]at n;cases n
open PySem.W
noncomputable def qF(K:Zs)(C:Zl)(B a:String):Bool:=match K.lookup C with
 |some ⟨_,_,.cls cd,sl⟩=>!cd.abstract&&!cd.hasDel&&(sl.toList[4]?).join==some (.builtin a)&&!cd.mro.isEmpty&&cd.mro.contains (.ref C)&&cd.mro.contains (.type B)&&cd.mro.contains (.type "BaseException")&&!cd.mro.contains (.type "AttributeError")&&!cd.mro.contains (.type "NameError")&&
  specialIn K (.ref C) "__call__"==some (some (.builtin "type.__call__"))&&instIn K (.ref C) (.type "type")==some true
 |_=>false
structure zH(M:Model)(h:ZN)(C:Zl)(B newId:String):Prop where
 obj:∃oc od cd sl,h.get? C=some ⟨oc,od,.cls cd,sl⟩/\cd.abstract=false/\cd.hasDel=false/\cd.mro.isEmpty=false
 made:Looks M h (Bind.madeBy (.ref C)) (some newId)
 base:Looks M h (Bind.staticBase (.ref C)) (.ref C)
 self:Looks M h (isSubtype (.ref C) (.ref C)) true
 isB:Looks M h (isSubtype (.ref C) (.type B)) true
 isE:Looks M h (isSubtype (.ref C) (.type "BaseException")) true
 noA:Looks M h (isSubtype (.ref C) (.type "AttributeError")) false
 noN:Looks M h (isSubtype (.ref C) (.type "NameError")) false
 call:Looks M h (specialOf (.ref C) "__call__") (some (.builtin "type.__call__"))
 typ:Looks M h (isInstance (.ref C) (.type "type")) true
set_option tactic.hygienic true in
def nJ{K:Zs}(X:K.In h)(e:qF K C B a=true):zH M h C B a:=by
 unfold qF at e;split at e
 ·rename_i oc od cd F ho;simp only[aaM,Bool.not_eq_true',aaX]at e;obtain⟨⟨⟨⟨⟨⟨⟨⟨⟨⟨n,o⟩,p⟩,d⟩,r⟩,w⟩,x⟩,y⟩,D⟩,f⟩,g⟩:=e;have i:clsIn K C=some cd:=by unfold clsIn;rw[ho]
  have j:Looks M h (mroOf (.ref C)) cd.mro:=(looks_clsIn X i).andThen .now;obtain⟨c,l,m⟩:∃c l,cd.mro=c::l:=by
   cases q:cd.mro with
   |nil=>rw[q]at d;cases d
   |cons c l=>exact⟨c,l,8⟩
  have made:Looks M h (Bind.madeBy (.ref C)) (some a):=by intro A Q E s k q;unfold Bind.madeBy;refine aaa (j A _ E s k ?_);rw[m,abF];refine aaa (aaa (aaa (aaa (ab1 (k _ _ (X _ _ ho)) (aad ?_)))));dsimp only;rw[<-acv,p];exact aad (aad (aad q))
  have sub:∀(v:ZI)(b:Bool),cd.mro.contains v=b->Looks M h (isSubtype (.ref C) v) b:=λv b z=>looks_mroIn X (by unfold mroIn;rw[i,Option.bind_some,aab (by rw[d];decide),z]);refine⟨⟨oc,od,cd,F,X _ _ ho,n,o,d⟩,made,?_,sub _ _ r,sub _ _ w,sub _ _ x,sub _ _ y,sub _ _ D,looks_specialIn X f,looks_instIn X g⟩;intro A Q E s k q;unfold Bind.staticBase;refine aaa (j A _ E s k ?_);rw[m,abF];exact aaa (aaa (aaa (made A _ E s k (aad (aad (aad q))))))
 ·cases e
noncomputable abbrev jE(C t:Zl):Obj:={cls:=.ref C,data:=.fields #[.ref t,.none,.none,.none,.bool false,.none]}
noncomputable def newX{E:ZE}{w:ZH}{A:ZO}{C:Zl}{R:YO}{h:ZN}{g:Array GenState}{d:Drawn}{t:Nat}{H:OsState}{B D G:String}{I:Y3}(F:ExcBaseFacts B D G I){rest:Y3}(Y:zH (model E w) h C B D)(m:rest.length<=sizeLine)
 (s:R (.ok (.ret (.ref (h.objs.size+1)))) ⟨(h.push {cls:=.type "tuple",data:=.seq rest.toArray}).push (jE C h.objs.size),g,d,t,H⟩):
 codeAny (model E w) A (.call (.builtin D) ⟨.ref C::rest,[]⟩) R ⟨h,g,d,t,H⟩:=by
 obtain⟨⟨oc,od,cd,v,o,x,y,z⟩,made,a,n,i,q,j,l,call,r⟩:=Y;have e:=F.noStar;have f:=F.ends;refine codeAny_call_builtin_code (Code.quiet_builtin _ F.quiet) ?_;simp only[checkBuiltinCall,F.newKind,F.newSplit,F.newRow];have here:Looks (model E w) h (Bind.madeHere D (.ref C)) ():=a.andThen (made.andThen (Looks.of_pure (by simp only[Option.map_some,ac1,abp,if_false])))
 repeat(first|simp only[ac1,abp,if_false]|lk)
 repeat(first|wp_step)
 refine PySem.codeAny_builtinAt F.entry ?_;unfold Builtin.«BaseException.__new__»;refine PySem.wpAt_bind ?_;show PySem.wpAt _ _ _ (stack>>=_) _ _ _;refine PySem.wpAt_bind (PySem.wpAt_stack λp c=>PySem.wpAt_of_wpAny ?_)
 wp_walk
 refine PySem.wpAt_of_wpAny ?_;rw[F.owner];have b:Looks (model E w) h (Bind.madeHere "BaseException.__new__" (.ref C)) ():=a.andThen (made.andThen (Looks.of_pure (by simp only[Option.map_some,F.canon,ac1,abp,if_false])))
 repeat(first|with_reducible refine b.at ?_|with_reducible refine i.at ?_|with_reducible refine j.at ?_|with_reducible refine l.at ?_|with_reducible refine ab8 o ?_|wp_step)
 show R _ _;rw[aaY];exact s
noncomputable def zu{T:ZE}{w:ZH}{A:ZO}{C:Zl}{R:YO}{h:ZN}{g:Array GenState}{d:Drawn}{t:Nat}{X:OsState}{B U W:String}{Z:Y3}(F:ExcBaseFacts B U W Z){rest:Y3}{f:ZI}(Y:zH (model T w) h C B U)(E:Looks (model T w) h (typeLookup (.ref C) "__init__") (some f))(G:∀c,Looks (model T w) h (bindSpecial f c) (f,[c]))(i:rest.length<=sizeLine)
 (H:codeAny (model T w) (A.under (.builtin "type.__call__" ⟨.ref C::rest,[]⟩)) (.call f ⟨.ref (h.objs.size+1)::rest,[]⟩) (InitBack (h.objs.size+1) R) ⟨(h.push {cls:=.type "tuple",data:=.seq rest.toArray}).push (jE C h.objs.size),g,d,t,X⟩):
 codeAny (model T w) A (.call (.ref C) ⟨rest,[]⟩) R ⟨h,g,d,t,X⟩:=by
 have n:=Y;obtain⟨⟨oc,od,cd,P,l,Q,S,q⟩,made,m,c,s,x,y,D,call,j⟩:=Y;refine codeAny_of_tree ?_;show wpAny _ _ (callAny (.ref C) _) _ _ _;refine nd_load l ?_;show wpAny _ _ (callAny.viaDunder (.ref C) _) _ _ _;unfold callAny.viaDunder;refine aaa (call.at ?_);dsimp only;rw[tc_bind];refine aaa (aad (aaa (aad (aad (a:=Fin.again (.call (.builtin "type.__call__") ⟨.ref C::rest,[]⟩)) (ab6 rfl ?_)))));refine codeAny_call_builtin_at (Code.quiet_builtin _ 01) entry_typeCall (check_slot tc_kind tc_split j (tc_args _ _ _) ?_);unfold Builtin.«type.__call__»;have J:Looks (model T w) h (mroOf (.ref C)) cd.mro:=((Looks.ld (part:=none) l).andThen .now).andThen .now
 repeat(first|simp only[q,abp,if_false]|with_reducible refine abc ?_|lk)
 refine newX F n i ?_;have k:∀b o,h.get? b=some o->((h.push {cls:=.type "tuple",data:=.seq rest.toArray}).push (jE C h.objs.size)).get? b=some o:=λb o e=>aaj _ (aaj _ e);have p:((h.push {cls:=.type "tuple",data:=.seq rest.toArray}).push (jE C h.objs.size)).get? (h.objs.size+1)=some (jE C h.objs.size):=by
  have:=aav (h.push {cls:=.type "tuple",data:=.seq rest.toArray}) (o:=jE C h.objs.size) rfl
  rwa[aaY]at this
 have L:Looks (model T w) ((h.push {cls:=.type "tuple",data:=.seq rest.toArray}).push (jE C h.objs.size)) (typeOf (.ref (h.objs.size+1))) (.ref C):=(Looks.ld p).andThen .now;have M:=c.keeps k;have N:=E.keeps k;have O:=(G (.ref (h.objs.size+1))).keeps k;unfold isInstance callSpecial? specialOf
 repeat(first|with_reducible refine abc ?_|lk)
 refine codeAny_mono H λr I z=>?_;rcases r with e|(v|_|_|_)<;>first|exact z|exact z.elim|skip
 obtain⟨rfl,z⟩:=z;exact aad (aad z)
open Builtin.ObjectAttr
noncomputable def jt(e C:Zl)(dd:YE):HO:=.ext λh=>∃a:Value,h.get? e=some {cls:=.ref C,dict:=dd,data:=.fields #[a,.none,.none,.none,.bool false,.none]}
noncomputable def tV(b:Zl)(fs:List (Str×V)):HO:=.ext λh=>∃a,h.Ns1 b a/\(∀f,lR (fs.lookup f) (a f))/\PySem.Within a 000
def vN(x:h.get? e=some {cls:=.ref C,dict:=dd,data:=.fields #[a0,.none,.none,.none,.bool false,.none]}):gq P w H h e (jt e C dd):=
 ⟨⟨a0,x⟩,⟨_,x⟩,λb c⟨a,z⟩k=>⟨a,k _ z⟩⟩
noncomputable def Ag(x:h.Ns1 i b)(r:∀f,lR (fs.lookup f) (b f))(n:PySem.Within b 000):gq P w H h i (tV i fs):=by obtain⟨o,s,v,ho,rest⟩:=id x;refine⟨⟨b,x,r,n⟩,⟨o,ho⟩,λp q z k=>?_⟩;obtain⟨j,⟨l,c,d,e,a⟩,m,g⟩:=z;exact⟨j,⟨l,c,d,k _ e,a⟩,m,g⟩
theorem pW(a:ZI)(e:refuseLoop a "__setattr__" b=pure ())(d:b≠[]):∀(f:YI),refuseLoop a "__setattr__" (f.map Value.ref++b)=pure ()
 |[]=>e
 | c::r=>by rw[aay,List.cons_append,refuseLoop_ref];exact pW a e d r
structure mK(K:Zs)(C:Zl)(B newId:String):Prop where
 mks:qF K C B newId=true
 sa:findIn K (.ref C) "__setattr__"=some (some (.builtin "object.__setattr__"))
 cd:∃(cd:ClassData)(rs:YI)(bm:Y3),clsIn K C=some cd/\cd.hasDict=true/\cd.mro=rs.map Value.ref++bm/\bm≠[]/\(∀self,refuseLoop self "__setattr__" bm=pure ())/\bm.contains (.type "object")=true
 kp:keepIn K (.ref C)=true
 ty:typeIn K (.ref C)=some (.type "type")
def Ti{A:ZO}{R:YO}{s:Zp}{K:Zs}(X:K.In s.heap)(I:InstAt s.heap x M C od)(N:mK K C B g)(O:takerIn K C Q=some none)
 (h:∀b,wpAny (model P w) A.in1 (Builtin.ObjectAttr.storeInOwnDict (.ref x) (.ref C) (.str Q tk) Q v b) (λo n=>match o with|.done f=>R (.ok f) n|.again z=>z.quiet=true/\codeAny (model P w) A z R n) (λe n=>R (.error e) n) s):
 codeAny (model P w) A (.call (.builtin "object.__setattr__") ⟨[.ref x,.str Q tk,v],[]⟩) R s:=by
 have i:=PySem.F.store_object;obtain⟨cd,F,G,r,y,c,l,p,m⟩:=N.cd;have ne:cd.mro.isEmpty=false:=by
  rw[c];cases F with
  |nil=>cases G with|nil=>exact absurd rfl l|cons _ _=>rfl
  |cons _ _=>rfl
 have j:cd.mro.contains (.type "object")=true:=by rw[c,List.contains_eq_mem,aa8];rw[List.contains_eq_mem,aa8]at m;exact aax _ m
 have sub:Looks (model P w) s.heap (isInstance (.ref x) (.type "object")) true:=I.type.andThen (looks_mroIn X (by unfold mroIn;rw[r,Option.bind_some,aab (by rw[ne];decide),j]));refine codeAny_call_builtin i.slot.plain i.entry (@check_slot (model P w) _ _ s "object.__setattr__" "object" "__setattr__" (.ref x) [.str Q tk,v] [] _ i.kind i.split sub (i.args (.ref x) (.str Q tk) v) ?_);obtain⟨d,H,J⟩:=Option.bind_eq_some_iff.mp O;have D:Looks (model P w) s.heap (mroOf (.ref C)) cd.mro:=(looks_clsIn X r).andThen .now;have E:Looks (model P w) s.heap (storeTaker? d) none:=by
  cases d with
  |none=>exact .now
  | some a=>
    obtain⟨b,L,q⟩:=abk.mp J;refine(looks_takesIn X L).andThen ?_;cases b with
    |false=>exact .now
    |true=>cases q
 rw[osa_eq,refuse_eq];refine aaa (aaa (I.type.here (aaa (D.here ?_))));rw[c,pW _ (p _) l];refine aad (aaa (I.type.here (aaa ((looks_findIn X H).here (aaa (E.here ?_))))));exact h _
def yX{s:Zp}{K:Zs}{I:Str}{Q:Fin->Shared->Prop}{cd:ClassData}(X:K.In s.heap)(q:s.heap.get? x=some ⟨.ref C,none,.fields vs,L⟩)(G:clsIn K C=some cd)(hd:cd.hasDict=true)
 (h:∀a,a.Ns1 s.heap.objs.size (λy=>if y=I then some v else none)->a.get? x=some ⟨.ref C,some s.heap.objs.size,.fields vs,L⟩->(∀b o,b≠x->s.heap.get? b=some o->a.get? b=some o)->Q (.done (.ret .none)) {s with heap:=a,toks:=s.toks+1}):
 wpAny (model J w) A (storeInOwnDict (.ref x) (.ref C) (.str I tk) I v b) Q E s:=by
 unfold storeInOwnDict;refine aaa (aad (aaa (aaa (ab1 q (aaa (Looks.here (looks_clsIn X G) ?_))))));rw[hd];have g:(s.heap.push {cls:=.type "dict",data:=.dict #[]}).get? x=some ⟨.ref C,none,.fields vs,L⟩:=aaj _ q;have i:x≠s.heap.objs.size:=aar (aak q);show wpAny _ _ (do
  let d<-alloc {cls:=Value.type "dict",data:=Data.dict #[]}
  update x λo=>{cls:=o.cls,dict:=some d,data:=o.data,slots:=o.slots}
  dictMade (Value.ref C) x d) _ _ _;refine aaa (wpAny_alloc' (aaa (wpAny_update' g ?_)));refine aad ?_;have j:((s.heap.push {cls:=.type "dict",data:=.dict #[]}).update x λo=>{cls:=o.cls,dict:=some s.heap.objs.size,data:=o.data,slots:=o.slots}).get? s.heap.objs.size=some {cls:=.type "dict",data:=.dict #[]}:=(ab9 _ _ _ _ i.symm).trans (Heap.get?_push_at rfl rfl);have l:((s.heap.push {cls:=.type "dict",data:=.dict #[]}).update x λo=>{cls:=o.cls,dict:=some s.heap.objs.size,data:=o.data,slots:=o.slots}).Ns s.heap.objs.size (λ_=>none):=⟨_,#[],_,j,8,λe z=>absurd z 04,λ_=>rfl⟩;show wpAny _ _ (storeInDict s.heap.objs.size (.str I tk) I v) _ _ _;unfold storeInDict newKeyGuard;refine aaa (aad (aaa (wpAny_nsSet1 (s:={s with heap:=_}) (acR l) λa c r=>?_)));obtain⟨H,D,F,m,n,p⟩:=c.count (acQ I v PySem.Within.nil);refine aaa (wpAny_lookBehind m (by rw[n];exact pastItsLine_dict (aah p (by rw[aaz,abo,sizeLine_eq];omega))) ?_);refine aad (h a c ?_ λb o B f=>?_)
 ·exact(r.2 x i).trans (abJ _ g rfl)
 ·exact(r.2 b (aar (aak f))).trans ((ab9 _ _ _ _ B).trans (aaj _ f))
noncomputable def Ax{s:Zp}{K:Zs}{D:Str}{Q:Fin->Shared->Prop}{cd:ClassData}{ns:Y2}(X:K.In s.heap)(o:s.heap.get? x=some ⟨.ref C,some c,.fields vs,G⟩)(p:clsIn K C=some cd)(hd:cd.hasDict=true)(q:s.heap.Ns1 c j)(r:PySem.Within j ns)(B:ns.length<1000)
 (h:∀d,d.Ns1 c (λy=>if y=D then some v else j y)->Heap.SameBut c s.heap d->Q (.done (.ret .none)) {s with heap:=d,toks:=s.toks+1}):
 wpAny (model F w) A (storeInOwnDict (.ref x) (.ref C) (.str D tk) D v b) Q E s:=by
 unfold storeInOwnDict;refine aaa (aad (aaa (aaa (ab1 o (aaa (Looks.here (looks_clsIn X p) ?_))))));rw[hd];refine aad (a:=some c) ?_;show wpAny _ _ (storeInDict c (.str D tk) D v) _ _ _;unfold storeInDict newKeyGuard;refine aaa (aad (aaa (wpAny_nsSet1 q λd e l=>?_)));obtain⟨z,m,n,f,g,i⟩:=e.count (acQ D v r);refine aaa (wpAny_lookBehind f (by rw[g];exact pastItsLine_dict (aah i (by rw[aaz,sizeLine_eq];omega))) ?_);exact aad (h d e l)
noncomputable def vp(I:Inv X c d H s)(b:H e=some (jt e C dd)):∃a,s.heap.get? e=some {cls:=.ref C,dict:=dd,data:=.fields #[a,.none,.none,.none,.bool false,.none]}:=(show gq X.prog X.w H s.heap e (jt e C dd)from I.hok e _ b).1
def Il(I:Inv X dD σ H s)(he:H e=some (jt e C none))(XC:mK X.K C B newId)(ht:takerIn X.K C f=some none)(ry:RelV y u)
 (h:∀da s',H da=none->Inv X dD σ (upd (upd H e (jt e C (some da))) da (tV da [(f,y)])) s'->Q () s'):wpAny 00 A (setAttr (.ref e) f u) Q E s:=by
 obtain⟨a0,hx⟩:=vp I he;have J:InstAt s.heap e _ C none:=⟨hx,8,8,aaJ⟩;obtain⟨cd,rs,bm,hc,hdct,_⟩:=XC.cd;refine set_plain I.kIn J XC.sa (Ti (s:={s with toks:=s.toks+1}) I.kIn J XC ht λb=>yX (s:={s with toks:=s.toks+1}) I.kIn hx hc hdct λh' hn hx' hk=>?_);have fr:H s.heap.objs.size=none:=I.hok.fresh 014;have nes:e≠s.heap.objs.size:=aar (aak hx);refine h s.heap.objs.size _ fr ?_;have hx1:(s.heap.push emptyDict).get? e=some _:=aaj _ hx;have g1:(s.heap.push emptyDict).get? s.heap.objs.size=some emptyDict:=aav s.heap rfl;have e3:(s.heap.push emptyDict).Ns s.heap.objs.size (λ_=>none):=⟨emptyDict,#[],_,g1,8,(λe he=>absurd he 04),λ_=>rfl⟩;have I1:=I.laid (a:=s.heap.objs.size) (o:=tV s.heap.objs.size []) (h':=s.heap.push emptyDict) (t':=s.toks) (λb u q=>aaj _ q) 014 (Ag (acR e3) (λ_=>aaJ) λy hy=>absurd rfl hy);have hx2:=abJ (λo:Obj=>{o with dict:=some s.heap.objs.size}) hx1 rfl;have I2:=I1.write (x:=e) (e:=e) (o:=jt e C (some s.heap.objs.size)) (h':=(s.heap.push emptyDict).update e λo=>{o with dict:=some s.heap.objs.size}) (t':=s.toks) (by rw[b8 nes,he];exact aaJ) 012
  (λb q hb z=>(ab9 _ _ _ _ hb).trans z) ⟨_,hx2⟩ (vN hx2);have I3:=I2.write (x:=s.heap.objs.size) (e:=s.heap.objs.size) (o:=tV s.heap.objs.size [(f,y)]) (h':=h') (t':=s.toks+1+1) (by rw[b8 nes.symm,a_];exact aaJ) 012 (λb q hb z=>?_) (let⟨o,_,_,ho,_⟩:=hn;⟨o,ho⟩)
  (Ag hn (λg=>?_) λg hg=>?_)
 ·have e1:upd (upd (upd H s.heap.objs.size (tV s.heap.objs.size [])) e (jt e C (some s.heap.objs.size))) s.heap.objs.size (tV s.heap.objs.size [(f,y)])=upd (upd H e (jt e C (some s.heap.objs.size))) s.heap.objs.size (tV s.heap.objs.size [(f,y)]):=by
   funext b;unfold upd;split
   ·rfl
   ·split
    ·rfl
    ·rfl
  rw[e1]at I3;exact I3
 ·by_cases hbe:b=e
  ·subst hbe;have z':some q=some _:=z.symm.trans hx2;cases z';exact hx'
  ·have z1:(s.heap.push emptyDict).get? b=some q:=(ab9 _ _ _ _ hbe).symm.trans z;have z2:s.heap.get? b=some q:=by
    rcases Heap.get?_push_cases z1 with z|z
    ·exact absurd z.1 hb
    ·exact z
   exact hk b q hbe z2
 ·have e2:List.lookup g [(f,y)]=if g=f then some y else none:=ik f g y []
  rw[e2];by_cases q:g=f
  ·rw[aac q,aac q];exact ry
  ·rw[aab q,aab q];exact aaJ
 ·by_cases q:g=f
  ·subst q;simp
  ·exact absurd (aab q) hg
theorem D_(N:ExcBaseFacts B Y initId bm)(O:mK X.K C B Y)(P:findIn X.K (.ref C) "__init__"=some (some (.ref f)))(R:isFn X.K (.ref f)=true)(F:cz X.prog X.w X.K X.mg X.base CX k f fd ps sp)(S:dX (k+1) X.A)
 (T:Binds X.K fd ps ds)(hd:Vals Z ds)(U:iz CX X E)(I:Inv X c p H s)(r:Vals vs i)(W:i.length<=sizeLine)
 (h:∀e,H e=none->sp (.ref e::(vs++Z)) (upd H e (jt e C none)) (λv x=>v=.non/\Q (.ref e) x) E):
 wpAny 00 X.A (call (.ref C) i) (EP X c p Q) X.xe s:=by
 obtain⟨a,g,d,t,A⟩:=s;have w:=h (a.objs.size+1) (I.hok.fresh (abd _));have m:((a.push {cls:=.type "tuple",data:=.seq i.toArray}).push (jE C a.objs.size)).get? (a.objs.size+1)=some (jE C a.objs.size):=by
  have:=aav (a.push {cls:=.type "tuple",data:=.seq i.toArray}) (o:=jE C a.objs.size) rfl
  rwa[aaY]at this
 have n:Inv X c p (upd H (a.objs.size+1) (jt (a.objs.size+1) C none)) ⟨(a.push {cls:=.type "tuple",data:=.seq i.toArray}).push (jE C a.objs.size),g,d,t,A⟩:=
  I.laid (h':=(a.push {cls:=.type "tuple",data:=.seq i.toArray}).push (jE C a.objs.size)) (t':=t) (λb u q=>aaj _ (aaj _ q)) (abd _) (vN m);have r2:Vals (V.ref (a.objs.size+1)::(vs++Z)) (Value.ref (a.objs.size+1)::(i++ds)):=.cons rfl (r.append hd);have z:(Value.ref (a.objs.size+1)::i++ds).length=ps.length:=by
  have e:=r2.length;rw[F.len _ _ _ _ w]at e;exact e.symm
 refine abc (zu N (nJ I.kIn O.mks) (looks_findIn I.kIn P) (λl=>bind_fn I.kIn l (aaX.mp R)) W (codeAny_mono (F.run _ X.stack _ _ ⟨Value.ref (a.objs.size+1)::i,[]⟩ (Value.ref (a.objs.size+1)::(i++ds)) _ _ E (S.make C i []) (n.env0.make C i []) (T _ (Value.ref (a.objs.size+1)::i) n.kIn z) r2 w) λr y j=>?_))
 match r,j with
 |.error e,j=>exact U c p _ _ e y n j
 | .ok (.ret u),j=>obtain⟨v,D,G,J,L,M⟩:=n.after j;subst L;exact⟨J,⟨V.ref (a.objs.size+1),D,G,8,M⟩⟩
def PB(C:Zl)(g:Sp)(a:List V)(E:XK)(t:TA):TE:=λc H Q=>t c H λvs b=>∀e,b e=none->g (.ref e::(vs++a)) (upd b e (jt e C none)) (λv d=>v=.non/\Q (.ref e) d) E
noncomputable def Iv(v:ExcBaseFacts B R S bm)(j:mK X.K C B R)(w:findIn X.K (.ref C) "__init__"=some (some (.ref f)))(y:isFn X.K (.ref f)=true)(F:cz X.prog X.w X.K X.mg X.base Y k f W U sp)(z:dX (k+1) X.A)
 (A:Gl X x)(D:X.mg x=some (.ref C))(G:Binds X.K W U Z)(hd:Vals T Z)(J:iz Y X E)(L:PA X (e::c) t)(g:(x==("__debug__":Str))=false:=by decide)(M:starEach (e::c) X.env=(false,eval e X.env)::starEach c X.env:=by rfl)(i:(backTo a (starEach c X.env)).any (·.1)=false:=by rfl)(N:U.length<=20:=by decide):
 PE X (.Call (.Name x p) (e::c) [] a) (PB C sp T E t):=by
 intro b s o H Q I h;refine aa3 (kO I A D ?_ g);refine callWith_K (h₀:=X.base) I.ok.mod.kin j.kp (fQ (L a b s o H _ I h) λl m⟨vs,O,d,r,q⟩=>⟨d.kIn,?_⟩) M i;refine D_ v j w y F z G hd J d r ?_ q;have n:=F.len _ _ _ _ (q (m.heap.objs.size) (d.hok.fresh 014));rw[aaz,aaw]at n;have P:=r.length;exact aah (show l.length<=20 by omega) 02
def Fw(H:Hp)(a:Zl):Hp:=λb=>if b=a then none else H b
def qK:Fw H a a=none:=aac rfl
def zT(h:b≠a):Fw H a b=H b:=aab h
def pA(h:H b=none):Fw H a b=none:=by
 unfold Fw;split
 ·rfl
 ·exact h
def Inv.Fw(I:Inv X y A H s)(w:H e=some (jt e C dd)):Inv X y A (L2.Fw H e) s:=by
 have up:∀b u,H b=some u->u≠jt e C dd->L2.Fw H e b=some u:=λb u z d=>by
  by_cases q:b=e
  ·subst q;rw[w]at z;exact absurd (aaO z).symm d
  ·rw[zT q];exact z
 refine⟨I.ok,I.os,I.bare,⟨I.base.keep,I.base.slot,λb o z n f=>pA (I.base.free b o z n f),I.base.there,λb a z=>up b _ (I.base.tups b a z) (by intro q;cases q),λb o u z=>up b _ (I.base.frzs b o u z) (by intro q;cases q),λb g z=>?_⟩,I.loc,I.cell,pA I.free,λx c z=>pA (I.freeC x c z),λp h=>?_,λb u z=>?_,I.len⟩
 ·obtain⟨m,q⟩:=I.base.tbls b g z;exact⟨m,up b _ q (by intro q;cases q)⟩
 ·obtain⟨i,j,l⟩:=I.pin p h;exact⟨i,pA j,l⟩
 ·by_cases q:b=e
  ·subst q;rw[qK]at z;cases z
  ·rw[zT q]at z;exact(I.hok b u z).stay (λc v _ r=>r) (λc r=>up c _ r (by intro q;cases q)) λc a r=>up c _ r (by intro q;cases q)
def Rj(X:Cx)(B a:String)(W:XK)(d:TE):TS:=λ_ c H=>d c H λx b=>∃e C dd,x=.ref e/\b e=some (jt e C dd)/\X.H₀ e=none/\mK X.K C B a/\W (.ref C) dd (Fw b e)
def G4(S:PE X ex te)(f:X.calm=true)(T:X.ex=[])
 (U:∀(a:YN)(i:St)(A:Hp)(E:Zp)(e:Zl)(cls:ZI)(dd:YE),Inv X a i A E->jH E.heap A X.s₀.heap e cls dd->W cls dd A->X.xe (.ref e) E):PS X (.Raise (some ex) none R) (Rj X B newId W te):=by
 intro a s i H D I h;rw[arm_exec_Raise];have j:∀F:Sem Value,wpAny 00 X.A F (EP X a i λx p=>∃e C dd,x=.ref e/\p e=some (jt e C dd)/\X.H₀ e=none/\mK X.K C B newId/\W (.ref C) dd (L2.Fw p e)) X.xe s->wpAny 00 X.A (raiseStmt X.env (some F) none) (SP X a D) X.xe s:=by
  intro F n;unfold raiseStmt;refine aaa (fQ n λv b⟨x,p,c,r1,e,C,dd,r,w,h0,y,q⟩=>?_);subst r;cases(show v=Value.ref e from r1);obtain⟨a0,J⟩:=vp c w;have Y:=nJ (M:=model X.prog X.w) c.kIn y.mks;obtain⟨⟨oc,od,cd,sl,hC,e1,e2,e4⟩,made,l,m,L,N,O,P,call,Q⟩:=Y;have Z:Looks 00 b.heap (typeOf (.ref e)) (.ref C):=(Looks.ld J).andThen .now;have G:X.xe (.ref e) b:=by
   refine U a i _ b e (.ref C) dd (c.Fw w) ⟨_,_,J,8,8,8,?_,qK,.inl rfl⟩ q;cases z:X.s₀.heap.get? e with
   |none=>rfl
   | some o=>have:=c.base.free e o z h0 (by rw[T];simp);rw[w]at this;cases this
  have T2:Looks 00 b.heap (typeOf (.ref C)) (.type "type"):=looks_typeIn c.kIn y.ty;have T3:Looks 00 b.heap (isInstance (.ref e) (.type "BaseException")) true:=Z.andThen N;have hh:X.A.handled=none:=c.ok.hd f;clear c r1 n S h I y made l m L O P call Q;obtain⟨hp,g,d,tk,os⟩:=b
  repeat(first|with_reducible refine ab8 J ?_|with_reducible refine T3.at ?_|with_reducible refine Z.at ?_|with_reducible refine T2.at ?_|wp_step)
  exact wpAny_raiseNew_none hh G
 first
  |exact aaa (aa4 (j _ (aaa (fQ (S a s i H _ I h) λv b z=>aaa (aa4 (aad z))))))
  |(simp only[evalOpt,Option.map];exact aaa (aa4 (j _ (aaa (fQ (S a s i H _ I h) λv b z=>aaa (aa4 (aad z)))))))
def Hi(I:Inv X U Y H s)(M:H e=some (jt e C (some a)))(hd:H a=some (tV a fs))(N:fs.length<1000)(j:mK X.K C B W)(O:takerIn X.K C f=some none)(P:RelV y u)
 (h:∀m,Inv X U Y (upd H a (tV a (fX f y fs))) m->Q () m):wpAny 00 A (setAttr (.ref e) f u) Q E s:=by
 obtain⟨R,n⟩:=vp I M;obtain⟨p,v,r,w⟩:=(show gq X.prog X.w H s.heap a (tV a fs)from I.hok a _ hd).1;obtain⟨od,i,_⟩:=pG v;have J:InstAt s.heap e _ C (some od):=⟨n,8,8,i⟩;obtain⟨cd,S,T,L,d,_⟩:=j.cd;refine set_plain I.kIn J j.sa (Ti (s:={s with toks:=s.toks+1}) I.kIn J j O λb=>Ax (s:={s with toks:=s.toks+1}) (ns:=fs.map (·.1)) I.kIn n L d v w (by rw[aaf];exact N) λl c D=>?_);refine h _ (I.write (x:=a) (e:=a) (h':=l) (t':=s.toks+1+1) (by rw[hd];exact aaJ) 012 (λb q F z=>(D.2 b F).trans z) (let⟨o,_,_,ho,_⟩:=c;⟨o,ho⟩) (Ag c (λg=>?_) λg G=>?_))
 ·show lR ((fX f y fs).lookup g) (if g=f then some u else p g);rw[ik];by_cases q:g=f
  ·rw[aac q,aac q];exact P
  ·rw[aab q,aab q];exact r g
 ·by_cases q:g=f
  ·rw[q];exact(lG f y fs).1
  ·refine(lG f y fs).2 g (w g λz=>G ?_);show(if g=f then some u else p g)=none;rw[aab q];exact z
def V0(K:Zs)(B b:String)(h i:TE)(f:Str):TS:=λD d H=>i d H λy g=>h d g λx c=>∃e C,x=.ref e/\mK K C B b/\takerIn K C f=some none/\
 ((c e=some (jt e C none)/\∀a,c a=none->D.nx d (upd (upd c e (jt e C (some a))) a (tV a [(f,y)])))\/∃a fs,c e=some (jt e C (some a))/\c a=some (tV a fs)/\fs.length<1000/\D.nx d (upd c a (tV a (fX f y fs))))
def K9(R:PE X o w)(S:PE X a z)(T:swapsWith a (some (.Attribute o f c)) d.line X.env=pure false):PS X (.Assign [.Attribute o f c] a d) (V0 X.K B newId w z f):=by
 intro b s g H D I h;refine plainObj_wpAny_Assign_Attribute (fQ (S b s g H _ I h) λu F⟨y,G,J,m,q⟩=>fQ (R b F g G _ J q) λL U⟨x,W,n,M,e,C,N,p,r,q2⟩=>?_) T;subst N;cases(show L=Value.ref e from M);rcases q2 with⟨l,q2⟩|⟨v,fs,l,hd,P,q2⟩
 ·exact Il n l p r m λv O i j=>⟨g,_,j,q2 v i⟩
 ·exact Hi n l hd P p r m λO j=>⟨g,_,j,q2⟩
set_option tactic.hygienic true in
theorem Ad(j:ExcBaseFacts B A f bm):jJ X (.builtin f) (λL H Q=>∃e C dd y,L=[.ref e,y]/\H e=some (jt e C dd)/\mK X.K C B A/\Q .non H):=by
 intro i s P H L us Q I r h;obtain⟨e,C,dd,y,rfl,D,W,q⟩:=h;cases r with
 | cons r1 r=>
   cases r with
   | cons r2 r=>
     cases r;rename_i E p;cases(show E=Value.ref e from r1);obtain⟨F,G⟩:=vp I D;have Y:=nJ (M:=model X.prog X.w) I.kIn W.mks;have N:Looks 00 s.heap (typeOf (.ref e)) (.ref C):=(Looks.ld G).andThen .now;have S:Looks 00 s.heap (isInstance (.ref e) (.type B)) true:=N.andThen Y.isB;have n:=j.noStar;refine abc (codeAny_call_builtin j.init.plain j.initEntry ?_);simp only[checkBuiltinCall,j.initKind,j.initSplit,j.initRow];refine aaa (S.here ?_);simp only[Bool.not_true,abp,if_false];obtain⟨oc,od,cd,sl,Z,e1,e2,e4⟩:=Y.obj;have T2:=Y.typ;obtain⟨c,g,d,tk,J⟩:=s;unfold Bind.checkArgs
     repeat(first|with_reducible refine ab8 G ?_|with_reducible refine ab8 Z ?_|with_reducible refine N.at ?_|wp_step)
     have l:∀a,EP X i P Q .none ⟨(c.push {cls:=Value.type "tuple",data:=Data.seq #[p]}).update e (Obj.mapFields λx=>x.setIfInBounds 0 (Value.ref c.objs.size)),g,d,a,J⟩:=λa=>by
      have v:c.get? e=some {cls:=.ref C,dict:=dd,data:=.fields #[F,.none,.none,.none,.bool false,.none]}:=G;have w:=aaj (h:=c) {cls:=Value.type "tuple",data:=Data.seq #[p]} v;have m:=abJ (Obj.mapFields λx=>x.setIfInBounds 0 (Value.ref c.objs.size)) w rfl;have T:Inv X i P H ⟨c.push {cls:=Value.type "tuple",data:=Data.seq #[p]},g,d,a,J⟩:=I.kept (s:=⟨c,g,d,tk,J⟩) (t':=a) λb o z=>aaj _ z;have O:=T.write (x:=e) (e:=e) (o:=jt e C dd) (h':=(c.push {cls:=Value.type "tuple",data:=Data.seq #[p]}).update e (Obj.mapFields λx=>x.setIfInBounds 0 (Value.ref c.objs.size))) (t':=a) (by rw[D];exact aaJ) 012 (λb q R z=>(ab9 _ _ _ _ R).trans z) ⟨_,m⟩ (vN (a0:=.ref c.objs.size) m);have U:upd H e (jt e C dd)=H:=by
       funext b;unfold upd;split
       ·rename_i q;rw[q,D]
       ·rfl
      rw[U]at O;exact⟨.non,H,O,8,q⟩
     cases F<;>first|exact aad (aad (l _))|exact wpAny_letGo (aad (l _))
section
variable{X:Cx}{CX:wQ}{k:Nat}{f C CS:Zl}{fd:ZB}{ps:Y2}{sp:Sp}{dvs:List V}{ds:Y3}{E:XK}{m tn cn:Str}{T id:String}{p pos apos:Pos}{e:ZT}{es:YU}{t:TA}{r:List V->Hp->VK->Prop}{mc:ZI}
def QT(r:List V->Hp->VK->Prop)(t:TA):TE:=λa H Q=>t a H λvs b=>r vs b Q
noncomputable def yh{c:Sem Bool}(x:Gl X tn)(y:X.mg tn=none)(z:bootBuiltins tn=some (.type T))(A:typeOf (.type T)=pure (.type "type"))(B:Manifest.isStub T=false)(D:findCls X.K (.type T) (.type "type") m=some (.val (.builtin id)))(G:jJ X (.builtin id) r)(J:PA X (e::es) t)(L:handedIn (.builtin id)=true:=by rfl)
 (M:tn≠"__name__":=by decide)(d:(tn==("__debug__":Str))=false:=by decide)(g:starEach (e::es) X.env=(false,eval e X.env)::starEach es X.env:=by rfl)(i:(backTo pos (starEach es X.env)).any (·.1)=false:=by rfl)
 (j:eval (.Call (.Attribute (.Name tn p) m apos) (e::es) [] pos) X.env=(do
  let l<-eval (.Name tn p) X.env
  standAt apos.atName
  let(f,b)<-holding [l] (getMethod l m c)
  callWith pos f b (backTo pos (starEach (e::es) X.env)) (backToKw pos (keywordEach [] X.env))):=by rfl):
 PE X (.Call (.Attribute (.Name tn p) m apos) (e::es) [] pos) (QT r t):=by
 intro a s n H Q I h;obtain⟨N,F⟩:=I.fr;refine methodCall_KW (pl:=c) (mL I x y z (method_type F I.ok.mod.kin A B D L ?_) M d) j;exact callWith_builtin1 (fQ (J pos a _ n H _ (I.tok _) h) λo q⟨vs,v,w,r1,q1⟩=>G a q n v vs o Q w r1 q1) g i
noncomputable def zE(w:Gl X cn)(x:X.mg cn=some (.ref CS))(y:specialIn X.K (.ref CS) "__getattribute__"=some (some (.builtin "type.__getattribute__")))(d:readsIn X.K CS mc=true)(z:findCls X.K (.ref CS) mc m=some (.val (.ref f)))(hk:keepIn X.K (.ref f)=true)
 (F:cz X.prog X.w X.K X.mg X.base CX k f fd ps sp)(A:dX k X.A)(B:Binds X.K fd ps ds)(hd:Vals dvs ds)(D:iz CX X E)(G:PA X (e::es) t)(g:(cn==("__debug__":Str))=false:=by decide)
 (i:starEach (e::es) X.env=(false,eval e X.env)::starEach es X.env:=by rfl)(j:(backTo pos (starEach es X.env)).any (·.1)=false:=by rfl)
 (l:eval (.Call (.Attribute (.Name cn p) m apos) (e::es) [] pos) X.env=(do
  let o<-eval (.Name cn p) X.env
  standAt apos.atName
  let(f,a)<-holding [o] (getMethod o m c)
  callWith pos f a (backTo pos (starEach (e::es) X.env)) (backToKw pos (keywordEach [] X.env))):=by rfl):
 PE X (.Call (.Attribute (.Name cn p) m apos) (e::es) [] pos) (Bf sp dvs E t):=by
 intro b s v H Q I h;refine methodCall_KW (pl:=c) (kO I w x (method_cls I.kIn y (cls_value I.kIn d z rfl ?_)) g) l;refine callWith_K (first:=[]) (h₀:=X.base) I.ok.mod.kin hk (fQ (G pos b _ v H _ (I.tok _) h) λJ L⟨vs,M,n,r,q⟩=>⟨n.kIn,?_⟩) i j;exact rA F A B hd D n r q
end
end L2
namespace L2
open PySem PySem.Spec PyProof.Rows
def Inv.stepN{X:Cx}{H H':Hp}{s:Zp}{h':ZN}{g':Array GenState}{t':Nat}{d':Drawn}{ch:YI}(I:Inv X dD σ H s)
 (h:∀b∈ch,X.s₀.heap.get? b=none/\b≠X.env.locals/\(∀x c,X.env.cells.lookup x=some c->c≠b)/\∀p∈X.pn++dD,p.1≠b)
 (keep:∀b o,b≠X.env.locals->b∉X.fs->b∉ch->s.heap.get? b=some o->H b=none->h'.get? b=some o)
 (A:∀b o,b≠X.env.locals->b∈X.fs->b∉ch->s.heap.get? b=some o->H b=none->∃O,h'.get? b=some {o with slots:=O})(free:∀b o,b∉ch->s.heap.get? b=some o->H b=none->H' b=none)
 (C:∀b o,b∉ch->s.heap.get? b=some o->∃E,h'.get? b=some E)
 (J:∀b y,H b=some (.tup y)->H' b=some (.tup y))(L:∀b o u,H b=some (.frz o u)->H' b=some (.frz o u))(M:∀b N,H b=some (.tbl N)->∃F,H' b=some (.tbl (N++F)))
 (ns:∀m,s.heap.Ns X.env.locals m->h'.Ns X.env.locals m)(Q:my X.prog X.w H' h')(hg:AllBare g'):
 Inv X dD σ H' {s with heap:=h',gens:=g',drawn:=d',toks:=t'}:=by
 have G:∀b o,X.s₀.heap.get? b=some o->b≠X.env.locals:=λb o e=>aar (aat (aak e) I.ok.above);have w:∀b o,X.s₀.heap.get? b=some o->b∉X.ex->b∉ch:=λb o e a B=>by rw[(h b B).1]at e;cases e
 have f:∀x c,X.env.cells.lookup x=some c->∀v,s.heap.IsCell c v->h'.IsCell c v:=λx c e v⟨o,ho,hd⟩=>by
  have g:c∉ch:=λz=>(h c z).2.2.1 x c e rfl;by_cases S:c∈X.fs
  ·obtain⟨O,q⟩:=A c o (I.cne x c e) S g ho (I.freeC x c e);exact⟨_,q,hd⟩
  ·exact⟨o,keep c o (I.cne x c e) S g ho (I.freeC x c e),hd⟩
 refine⟨I.ok,I.os,hg,⟨λb o e n B a=>?_,λb o e n B a=>?_,λb o e n a=>?_,λb o e a=>?_,λb y e=>J b y (I.base.tups b y e),λb o y e=>L b o y (I.base.frzs b o y e),λb N e=>?_⟩,?_,λx c e=>?_,?_,λx c e=>?_,λp R=>?_,Q,I.len⟩
 ·exact keep b o (G b o e) B (w b o e a) (I.base.keep b o e n B a) (I.base.free b o e n a)
 ·obtain⟨O,j⟩:=I.base.slot b o e n B a;obtain⟨P,D⟩:=A b _ (G b o e) B (w b o e a) j (I.base.free b o e n a);exact⟨P,D⟩
 ·obtain⟨E,j⟩:=I.base.there b o e a;exact free b E (w b o e a) j (I.base.free b o e n a)
 ·obtain⟨E,j⟩:=I.base.there b o e a;exact C b E (w b o e a) j
 ·obtain⟨U,j⟩:=I.base.tbls b N e;obtain⟨W,D⟩:=M b _ j;exact⟨U++W,by rw[D,Array.append_assoc]⟩
 ·obtain⟨m,Y,Z⟩:=I.loc;refine⟨m,ns m Y,λi x v j D T=>?_⟩;obtain⟨u,r,l⟩:=Z i x v j D T;refine⟨u,r,?_⟩;rcases l with l|⟨k,c,e,z⟩
  ·exact .inl l
  ·exact .inr ⟨k,c,e,f x c e _ z⟩
 ·obtain⟨v,z⟩:=I.cell x c e;exact⟨v,f x c e v z⟩
 ·obtain⟨m,⟨o,_,_,ho,_⟩,_⟩:=I.loc;exact free _ o (λz=>(h _ z).2.1 rfl) ho I.free
 ·obtain⟨v,o,ho,hd⟩:=I.cell x c e;exact free c o (λz=>(h c z).2.2.1 x c e rfl) ho (I.freeC x c e)
 ·obtain⟨e,n,ne,nf,d⟩:=I.pin p R;have g:p.1∉ch:=λz=>(h p.1 z).2.2.2 p R rfl;exact⟨keep p.1 p.2 ne nf g e n,free p.1 p.2 g e n,ne,nf,d⟩
open PySem.SeqAt PySem.W Builtin.ObjectAttr
noncomputable def Qq{X:Cx}{s s0:Zp}{A:ZO}{Q:Unit->Shared->Prop}{E:ZY}(I0:Inv X dD σ0 H0 s0)(I:Inv X dD σ H s)(hst:X.stack=X.env::X.outer)(y:X.env.frame=some X.env.locals)(N:A.frames=some X.stack)(hex:X.ex=[])(hth:∀b o,s0.heap.get? b=some o->∃o',s.heap.get? b=some o')(x:jH s.heap H s0.heap e cls dd)
 (h:∀i,jH i H s0.heap e cls dd->Inv X dD σ H {s with heap:=i}->Q () {s with heap:=i}):wpAny 00 A (noteFrame (.ref e) X.env) (λ_ s2=>wpAny 00 A (setFlight (.ref e) none) Q E s2) E s:=by
 have hl:=I.stack;rw[hst]at N hl;obtain⟨oe,vs,h1,h2,h3,h4,h5,h6,h7⟩:=x;have free:∀b∈(X.env::X.outer).filterMap (·.frame),H b=none:=λb a=>I.stkFree b (by rw[hst];exact a);have aa:∀T,s0.heap.get? T=none->X.s₀.heap.get? T=none/\T≠X.env.locals/\(∀x c,X.env.cells.lookup x=some c->c≠T)/\∀p∈X.pn++dD,p.1≠T:=λT j=>by
  refine⟨?_,?_,λx c z q=>?_,λp hp q=>?_⟩
  ·cases z:X.s₀.heap.get? T with
   |none=>rfl
   | some o=>obtain⟨o',q⟩:=I0.base.there T o z (by rw[hex];simp);rw[j]at q;cases q
  ·rintro rfl;obtain⟨_,⟨o,_,_,ho,_⟩,_⟩:=I0.loc;rw[j]at ho;cases ho
  ·obtain⟨v,o,ho,_⟩:=I0.cell x c z;rw[q,j]at ho;cases ho
  ·have:=(I0.pin p hp).1;rw[q,j]at this;cases this
 have ab:∀(L:YI) (i:ZN) (T:Zl) (d F:Obj) (g C:YA),(∀b∈L,s0.heap.get? b=none/\H b=none)->s0.heap.get? T=none->T≠e->H T=none->i.get? e=some d->d.cls=oe.cls->d.dict=oe.dict->d.data=.fields g->g[1]?=some (.ref T)->i.get? T=some F->F.data=.fields C->C[3]?=some .none->
  (∀b o,b∉L->b∉(X.env::X.outer).filterMap (·.frame)->s.heap.get? b=some o->i.get? b=some o)->(∀b o,b∉L->s.heap.get? b=some o->∃sl,i.get? b=some {o with slots:=sl})->Q () {s with heap:=i}:=by
  intro L i T d F g C M j ai aj O P R S U W Y Z kp G;refine h i ⟨d,g,O,P.trans h2,R.trans h3,S,h5,h6,.inr ⟨T,F,C,U,ai,W,Y,Z,j,aj⟩⟩ ?_;have ac:∀b,b≠X.env.locals->b∉X.fs->b∉(X.env::X.outer).filterMap (·.frame):=λb a hn l=>by
   rw[abT,y]at l;rcases aag.mp l with q|l
   ·exact a q
   ·exact hn l
  refine I.stepN (ch:=L) (g':=s.gens) (d':=s.drawn) (t':=s.toks) (λb a=>aa b (M b a).1) (λb o hL hf B z _=>kp b o B (ac b hL hf) z) (λb o _ _ B z _=>G b o B z) (λb o _ _ n=>n) (λb o B z=>let⟨sl,q⟩:=G b o B z;⟨_,q⟩) (λ_ _ z=>z) (λ_ _ _ z=>z) (λb ps z=>⟨#[],by rw[z];simp⟩) (λm l=>?_) (λb u a=>?_) I.bare
  ·obtain⟨o,es,ep,ho,hd,r⟩:=l;have af:X.env.locals∉L:=λz=>(aa _ (M _ z).1).2.1 rfl;obtain⟨sl,q⟩:=G _ o af ho;exact⟨_,es,ep,q,hd,r⟩
  ·refine(I.hok b u a).stay (λc v B q=>kp c v (λz=>?_) (λl=>?_) q) (λ_ q=>q) λ_ _ q=>q
   ·have:=(M c z).2;rcases B with rfl|w
    ·rw[this]at a;cases a
    ·rw[this]at w;cases w
   ·have:=free c l;rcases B with rfl|w
    ·rw[this]at a;cases a
    ·rw[this]at w;cases w
 have D:∀T,s.heap.objs.size<=T->s0.heap.get? T=none/\T≠e/\H T=none:=λT j=>by
  refine⟨?_,λq=>?_,I.hok.fresh j⟩
  ·cases z:s0.heap.get? T with
   |none=>rfl
   | some o=>obtain⟨o',q⟩:=hth T o z;exact absurd (aat (aak q) j) (aaP _)
  ·subst q;exact absurd (aat (aak h1) j) (aaP _)
 unfold noteFrame;simp only[y];rcases h7 with h7|⟨T,F,C,t1,t2,t3,t4,t5,t6,t7⟩
 ·refine aaa (aaE h1 h4 h7 ?_);rw[aab 02];refine vW N hl y h1 h4 (abg.mp h7).1 λi T d F g C j O P R S U W Y Z kp G=>?_;obtain⟨n1,n2,n3⟩:=D T j;exact ab [e] i T d F g C (λb a=>by cases aal.mp a;exact⟨h5,h6⟩) n1 n2 n3 O P R S U W Y Z (λb o a l z=>kp b o (λq=>a (by simp[q])) l z) λb o a z=>G b o (λq=>a (by simp[q])) z
 ·refine aaa (aaE h1 h4 t1 ?_);rw[aac (show(Value.ref T !=Value.none)=true by simp)];refine aaa (aaE t3 t4 t5 ?_);rw[aab (show¬((Value.none==rawInt X.env.locals)=true) by simp[rawInt])];refine aaa (abw t3 t4 (abg.mp t5).1 ?_);have f:∀b,b≠T->(s.heap.update T (Obj.mapFields (·.setIfInBounds 3 Value.none))).get? b=s.heap.get? b:=λb a=>abn _ _ (aaC a);have ag:∀b o,s.heap.get? b=some o->(∀vs,o.data≠.fields vs)->b≠T:=λb o a J q=>by subst q;rw[t3]at a;cases a;exact J C t4
  refine vW (s:={s with heap:=s.heap.update T (Obj.mapFields (·.setIfInBounds 3 Value.none))}) N (hl.of_keeps λb o a J=>⟨o,(f b (ag b o a J)).trans a,8⟩) y ((f e (aaC t2)).trans h1) h4 (abg.mp t1).1 λi T' d ad g ae j O P R S U W Y Z kp G=>?_;have ah:s.heap.objs.size<=T':=by have z:(s.heap.update T (Obj.mapFields (·.setIfInBounds 3 Value.none))).objs.size=s.heap.objs.size:=Heap.size_update _ _ _;exact aah (abB z.symm) j
  obtain⟨n1,n2,n3⟩:=D T' ah;refine ab [e,T] i T' d ad g ae (λb a=>?_) n1 n2 n3 O P R S U W Y Z (λb o a l z=>kp b o (λq=>a (by simp[q])) l ((f b λq=>a (by simp[q])).trans z)) λb o a z=>G b o (λq=>a (by simp[q])) ((f b λq=>a (by simp[q])).trans z);rcases aag.mp a with rfl|a
  ·exact⟨h5,h6⟩
  ·cases aal.mp a;exact⟨t6,t7⟩
set_option tactic.hygienic true in
def QS{h:ZN}{f:Obj->Obj}(e:h.get? a=some o)(j:f o=o):h.update a f=h:=by
 obtain⟨b,l⟩:=h;have c:b[a]?=some o:=by
  unfold Heap.get? at e;dsimp only at e;split at e
  ·cases e
  ·exact e
 show(⟨b.modify a f,l⟩:ZN)=⟨b,l⟩;congr 1;obtain⟨d,g⟩:=abg.mp c;refine Array.ext 04 λi m n=>?_;rw[Array.getElem_modify];split
 ·rename_i q;subst q;rw[g,j]
 ·rfl
def Inv.drop{r:St}(I:Inv X e r H s)(i:Nat):Inv X e (r.set i none) H s:=by
 obtain⟨ok,o,b,c,⟨m,p,q⟩,cell,free,a,f,g,len⟩:=I;refine⟨ok,o,b,c,⟨m,p,λj x v l d n=>?_⟩,cell,free,a,f,g,by simpa using len⟩;by_cases h:j=i
 ·subst h;rw[aca]at d;split at d<;>simp_all
 ·rw[abV (aaC h)]at d;exact q j x v l d n
def qt{X:Cx}{σ:St}{Q:Unit->Shared->Prop}(I:Inv X dD σ H s)(hN:X.N.Nodup)(L:X.N[i]?=some x)(f:X.env.scope.names.lookup x=some .local)
 (h:∀Y,Inv X dD (σ.set i none) H Y->Q () Y):wpAny M A (do bindName X.env x .none;unbindBehindTheSuite X.env x U) Q E s:=by
 have D:(X.env.scope.kind==.class||(X.env.scope.kind==.module&&X.env.locals !=X.env.globals))=false:=by rw[I.ok.kind];rfl
 have g:i<σ.length:=by rw[I.len];exact(aaD.mp L).1
 refine aaa (wpAny_bindName (mO I hN L (.inl f) (v:=.non) (u:=.none) rfl (λs1 C=>?_) (.inr f)));obtain⟨m,hn,hl⟩:=id C.loc;obtain⟨u,_,lk⟩:=hl i x .non L (by rw[abU g]) (.inl f);have hv:m x=some u:=by
  rcases lk with⟨_,z⟩|⟨k,_⟩
  ·exact z
  ·unfold Env.kindOf at k;rw[f]at k;rcases k with k|k<;>cases k
 unfold unbindBehindTheSuite;refine wpAny_onRaise (wpAny_unbindName_local f hn hv D λh' u' N l=>?_);have Z:=C.drop i;rw[List.set_set]at Z;obtain⟨ok,os,F,a,⟨m2,aa,ab⟩,cell,free,w,R,S,len⟩:=id Z;obtain⟨oL,_,_,ac,_⟩:=id hn;have r:∀b o,X.s₀.heap.get? b=some o->b≠X.env.locals:=λb o e=>aar (aat (aak e) ok.above);refine h _ ⟨ok,os,F,⟨λb o e n O f=>?_,λb o e n O f=>?_,a.free,λb o e f=>?_,a.tups,a.frzs,a.tbls⟩,⟨_,N,λj y v' B G e3=>?_⟩,λy c e=>?_,free,w,λp hp=>?_,λb ob e=>?_,len⟩
 ·exact(l.2 b (r b o e)).trans (a.keep b o e n O f)
 ·obtain⟨sl,B⟩:=a.slot b o e n O f;exact⟨sl,(l.2 b (r b o e)).trans B⟩
 ·obtain⟨o',B⟩:=a.there b o e f;exact⟨o',(l.2 b (r b o e)).trans B⟩
 ·have P:j≠i:=λq=>by subst q;rw[abU g]at G;cases G
  rw[abV (aaC P)]at G;obtain⟨T,r',q⟩:=hl j y v' B (by rw[abV (aaC P)];exact G) e3;refine⟨T,r',?_⟩;rcases q with⟨k,e⟩|⟨k,c,e,z⟩
  ·refine .inl ⟨k,?_⟩;have:y≠x:=λe=>P (oU hN B (e▸L));simp[this,e]
  ·exact .inr ⟨k,c,e,z.sameBut l (C.cne y c e)⟩
 ·obtain⟨W,z⟩:=C.cell y c e;exact⟨W,z.sameBut l (C.cne y c e)⟩
 ·obtain⟨e,n,ne,nf,d⟩:=R p hp;exact⟨(l.2 p.1 ne).trans e,n,ne,nf,d⟩
 ·refine(S b ob e).stay (λc W J q=>(l.2 c ?_).trans q) (λ_ q=>q) λ_ _ q=>q;rintro rfl;rcases J with rfl|J
  ·rw[free]at e;cases e
  ·rw[free]at J;cases J
set_option tactic.hygienic true in
def zA{s L:Zp}{Q:Unit->Shared->Prop}(x:jH s.heap H L.heap e cls dd)(h:Q () s):wpAny M A (setFlight (.ref e) none) Q E s:=by
 obtain⟨B,vs,b,p,C,j,D,F,g⟩:=x;unfold setFlight;rcases g with g|⟨T,y,a,z,G,m,n,o,I,J⟩
 ·refine aaa (aaE b j g ?_);rw[aab 02];exact aad h
 ·refine aaa (aaE b j z ?_);rw[aac (show(Value.ref T !=Value.none)=true by simp)];refine abw m n (abg.mp o).1 ?_;have:s.heap.update T (Obj.mapFields (·.setIfInBounds 3 ((none:YE).elim Value.none λf=>rawInt f)))=s.heap:=by
   refine QS m ?_;obtain⟨c,d,r,l⟩:=y;cases(show r=.fields a from n);show(⟨c,d,.fields (a.setIfInBounds 3 .none),l⟩:Obj)=⟨c,d,.fields a,l⟩;have:a.setIfInBounds 3 .none=a:=by
    obtain⟨v,w⟩:=abg.mp o;refine Array.ext 04 λi b p=>?_;rw[Array.getElem_setIfInBounds];split
    ·rename_i q;subst q;exact w.symm
    ·rfl
   rw[this]
  rw[this];exact h
def Je(X:Cx)(a:Zl)(b:YN):Cx:={X with A:=X.A.mark (some (.ref a)),calm:=false,pn:=X.pn++b,xe:=λ_ _=>False}
def Cx.Ok.into(ok:X.Ok):(Je X a b).Ok:=
 ⟨ok.mod,ok.kind,ok.glob,ok.blt,ok.above,ok.inj,ok.has,ok.cab,(λh=>nomatch h),ok.frames,ok.stk,ok.exf,ok.bs,ok.bsz,ok.noex,ok.exfs,ok.funs,ok.frf⟩
def Inv.into(I:Inv X d e H s)(c:∀p∈a,s.heap.get? p.1=some p.2/\H p.1=none/\p.1≠X.env.locals/\p.1∉X.fs/\∀v,p.2.data≠.cell v):Inv (Je X b a) d e H s:=by
 refine⟨I.ok.into,I.os,I.bare,I.base,I.loc,I.cell,I.free,I.freeC,λp h=>?_,I.hok,I.len⟩;rcases aam.mp h with h|h
 ·rcases aam.mp h with h|h
  ·exact I.pin p (aaL _ h)
  ·exact c p h
 ·exact I.pin p (aax _ h)
def Inv.outof(I:Inv (Je X a b) c d H s)(ok:X.Ok):Inv X c d H s:=by
 refine⟨ok,I.os,I.bare,I.base,I.loc,I.cell,I.free,I.freeC,λp h=>?_,I.hok,I.len⟩;rcases aam.mp h with h|h
 ·exact I.pin p (aaL _ (aaL _ h))
 ·exact I.pin p (aax _ h)
noncomputable def Inv.handle(D:Inv X N Q R O)(I:Inv X N P H s)(x:jH s.heap H O.heap e cls dd):∃n a,(e,a)∈n/\a.cls=cls/\a.dict=dd/\(∃vs,a.data=.fields vs)/\Inv (Je X e n) N P H s/\∀{b f g},Inv (Je X e n) N b f g->jH g.heap f O.heap e cls dd:=by
 obtain⟨a,vs,y,i,j,c,l,z,r⟩:=x;have new:∀T o vs,O.heap.get? T=none->s.heap.get? T=some o->H T=none->o.data=.fields vs->s.heap.get? T=some o/\H T=none/\T≠X.env.locals/\T∉X.fs/\∀v,o.data≠.cell v:=λT o vs w ho E hd=>by
  refine⟨ho,E,?_,λq=>?_,λv q=>by rw[hd]at q;cases q⟩
  ·rintro rfl;obtain⟨_,⟨o,_,_,ho,_⟩,_⟩:=D.loc;rw[w]at ho;cases ho
  ·obtain⟨_,o,ho,_⟩:=D.funs.mem q;rw[w]at ho;cases ho
 rcases r with r|⟨T,m,A,F,G,J,B,L,C,M⟩
 ·refine⟨[(e,a)],a,aal.mpr rfl,i,j,⟨_,c⟩,I.into λp d=>?_,λ{b f g}h=>?_⟩
  ·cases aal.mp d;exact new e a vs l y z c
  ·have p:=h.pin (e,a) (aaL _ (aax _ (aal.mpr rfl)));exact⟨a,vs,p.1,i,j,c,l,p.2.1,.inl r⟩
 ·refine⟨[(e,a),(T,m)],a,aan,i,j,⟨_,c⟩,I.into λp d=>?_,λ{b f g}h=>?_⟩
  ·rcases aag.mp d with rfl|d
   ·exact new e a vs l y z c
   ·cases aal.mp d;exact new T m A C J M B
  ·have p:=h.pin (e,a) (aaL _ (aax _ aan));have q:=h.pin (T,m) (aaL _ (aax _ (aai _ (aal.mpr rfl))));exact⟨a,vs,p.1,i,j,c,l,p.2.1,.inr ⟨T,m,A,F,G,q.1,B,L,C,q.2.1⟩⟩
def Cz{s:Zp}{K:Zs}{Q:Bool->Shared->Prop}{n:Obj}(c:K.In s.heap)(x:s.heap.get? e=some n)(i:n.cls=.ref j)(o:mK K C B a)(y:mroIn K j (.ref C)=some b)(h:Q b s):
 wpAny (model P w) A (excMatches (.ref e) (.ref C)) Q E s:=by
 have Y:=nJ (M:=model P w) c o.mks;obtain⟨⟨oc,od,cd,z,v,_,_,_⟩,_,_,_,_,l,_,_,_,m⟩:=Y;have p:Looks (model P w) s.heap (typeOf (.ref e)) (.ref j):=i▸(Looks.ld x).andThen .now;have q:Looks (model P w) s.heap (typeOf (.ref C)) (.type "type"):=looks_typeIn c o.ty;have r:Looks (model P w) s.heap (isSubtype (.ref j) (.ref C)) b:=looks_mroIn c y;have f:=tc_notTuple;obtain⟨D,g,d,tk,F⟩:=s;unfold excMatches
 repeat(first|with_reducible refine ab8 v ?_|with_reducible refine l.at ?_|with_reducible refine r.at ?_|with_reducible refine m.at ?_|with_reducible refine p.at ?_|with_reducible refine q.at ?_|wp_step)
 cases b<;>(wp_walk;exact h)
abbrev U6:=Ends->Addr->Option Addr->St->Hp->Prop
def PH(X:Cx)(h:List ExceptHandler)(i:U6):Prop:=
 ∀(a:YN)(c:Zp)(b:St)(g:Hp)(s:Zp)(d:St)(H:Hp)(D:Ends)(e f:Zl)(dd:YE),Inv X a b g c->Inv X a d H s->jH s.heap H c.heap e (.ref f) dd->i D f dd d H->wpAny 00 X.A (handleBy (.ref e) X.env h) (SP X a D) X.xe s
def Jg(i:Nat)(D:Ends):Ends:=⟨λa H=>D.nx (a.set i none) H,D.rt,λa H=>D.bk (a.set i none) H,λa H=>D.ct (a.set i none) H⟩
noncomputable def Wh(K:Zs)(C:Zl)(B a:String)(i:Nat)(f:Addr->Addr->Option Addr->TS)(tr:U6):U6:=λD c dd d H=>mK K C B a/\∃b,mroIn K c (.ref C)=some b/\if b then∀e,f e c dd (Jg i D) (d.set i (some (.ref e))) H else tr D c dd d H
def Pr:PH X [] (λ_ _ _ _ _=>False):=λ_ _ _ _ _ _ _ _ _ _ _ _ _ _ h=>h.elim
theorem vU{X:Cx}{t:ZT}{n:Str}{T:Stmt}{j:List Stmt}{P:Pos}{rest:List ExceptHandler}{C:Zl}{B newId:String}{i:Nat}{U:Addr->Addr->Option Addr->TS}{tr:U6}(F:X.N.Nodup)(G:X.N[i]?=some n)(A:X.env.scope.names.lookup n=some .local)
 (ht:∀a e,PE (Je X a e) t (tC (.ref C)))(hb:∀a m e E dd,(a,m)∈e->m.cls=.ref E->m.dict=dd->(∃vs,m.data=.fields vs)->wR (Je X a e) (T::j) (U a E dd))(hr:PH X rest tr):
 PH X (.ExceptHandler (some t) (some n) (T::j) P::rest) (Wh X.K C B newId i U tr):=by
 intro d s0 O H0 s R H D a E dd S I x h;obtain⟨XC,b,hm,hk⟩:=h;obtain⟨e,m,g,Q,hd,M,IH,back⟩:=S.handle I x;refine wpAny_handleBy_cons (codeAny_handlers_test (aaF (ht a e d s R H (λv J=>v=.ref C/\J=H) IH ⟨8,8⟩) (λc W z=>?_) λ_ _ z=>z.elim)) (by intro q;cases q);obtain⟨v,J,y,r,rfl,rfl⟩:=z;cases(show c=Value.ref C from r);have p:=y.pin (a,m) (aaL _ (aax _ g));refine Cz y.kIn p.1 Q XC hm ?_;cases b with
 |false=>exact hr d s0 O H0 W R J D a E dd S (y.outof I.ok) (back y) hk
 | true=>
   refine codeAny_handlers_suite_as (zA (back y) (mO (X:=Je X a e) y F G (.inl A) (v:=.ref a) rfl (λY Z=>aaF (hb a m e E dd g Q hd M d Y _ _ (Jg i D) Z (hk a)) (λf s3 z=>?_) λ_ _ z=>z.elim) (.inr A)));show wpAny _ X.A _ _ X.xe s3;cases f with
   | next=>obtain⟨o,N,w,q⟩:=z;exact qt (w.outof I.ok) F G A λL l=>⟨_,_,l,q⟩
   | brk=>obtain⟨o,N,w,q⟩:=z;exact qt (w.outof I.ok) F G A λL l=>⟨_,_,l,q⟩
   | cont=>obtain⟨o,N,w,q⟩:=z;exact qt (w.outof I.ok) F G A λL l=>⟨_,_,l,q⟩
   | ret u=>obtain⟨v,o,N,w,r',q⟩:=z;exact qt (w.outof I.ok) F G A λL l=>⟨v,_,_,l,r',q⟩
noncomputable def FN(X:Cx)(a:YN)(f:Zp)(W:Addr->Option Addr->St->Hp->Prop):Value->Shared->Prop:=λv s=>∃c d dd e H,v=.ref c/\Inv X a e H s/\(∀b o,f.heap.get? b=some o->∃g,s.heap.get? b=some g)/\jH s.heap H f.heap c (.ref d) dd/\W d dd e H
abbrev Ye:=Ends->(Addr->Option Addr->St->Hp->Prop)->St->Hp->Prop
def Zx(X:Cx)(c:List Stmt)(t:Ye):Prop:=
 ∀(a:YN)(s:Zp)(b:St)(H:Hp)(D:Ends)(W:Addr->Option Addr->St->Hp->Prop),Inv X a b H s->t D W b H->wpAny 00 X.A (execs c X.env) (SP X a D) (FN X a s W) s
def Yj(t:Ye)(e:U6):TS:=λD b H=>t D (λc dd a d=>e D c dd a d) b H
def Rk(g:X.stack=X.env::X.outer)(i:X.env.frame=some X.env.locals)(j:X.ex=[])(E:Zx X b t)(F:PH X (m::n) o):PS X (.Try b (m::n) [] [] e) (Yj t o):=by
 intro a s l H D I h;refine wpAny_Try_except (aaF (E a s l H D _ I h) (λf p z=>?_) λv p z=>?_)
 ·cases f with
  |next=>exact abW z
  |brk=>exact z
  |cont=>exact z
  |ret u=>exact z
 ·obtain⟨y,A,dd,c,B,rfl,C,d,x,q⟩:=z;refine Qq I C g i I.ok.frames j d x λG r w=>F a s l H _ c B D y A dd I w r q
structure Thunk(P:ZE)(w:ZH)(K:Zs)(mg:Y1)(base:ZN)(g:ZN)(H₀:Hp)(fr:YI)(k:Nat)(f:Zl)(H:Hp)(Qv:VK)(Ev:XK):Prop where
 fn:∀s:Shared,my P w H s.heap->∃fo fd,s.heap.get? f=some fo/\fo.data=.func fd
 run:∀(A:ZO)(outer:List Env)(s:Zp),dX k A->vh P w K mg base A outer s H->(∀b o,g.get? b=some o->H₀ b=none->b∉fr->s.heap.get? b=some o)->codeAny (model P w) A (.call (.ref f) ⟨[],[]⟩) (CR (mz P w) outer P w H s Qv Ev) s
noncomputable def keeps_F(h:ZN)(z:∃a b,h.get? f=some a/\a.data=.func b):∃k,(k=Keeper.frame\/k=Keeper.machine\/k=Keeper.boundFrame)/\Looks M h (keeperOf (.ref f)) k:=by obtain⟨a,b,e,d⟩:=z;obtain⟨c,i,g,j⟩:=a;cases(show g=.func b from d);exact⟨.frame,.inl rfl,(Looks.ld (part:=none) e).andThen .now⟩
noncomputable def Oi(X:Cx)(k i j:Nat):Ye:=λD W b H=>∃f c d,b[j]?=some (some (.ref f))/\Thunk X.prog X.w X.K X.mg X.base X.s₀.heap X.H₀ X.fs k f H c d/\(∀v a,c v a->D.nx (b.set i (some v)) a)/\∀cls dd a,d cls dd a->∃e,cls=.ref e/\W e dd b a
noncomputable def CK(hN:X.N.Nodup)(hi:X.N[i]?=some x)(hx:Loc X.env.scope x)(hj:X.N[j]?=some a)(ha:Sh X.env.scope a)(Y:X.ex=[])(hr:dX k X.A)(hs:swapsWith (.Call (.Name a L) [] [] U) (some (.Name x S)) B.line X.env=pure false:=by rfl)(hf:X.fn x=true\/X.env.scope.names.lookup x=some .local:=by first|exact .inl rfl|exact .inr rfl|assumption)
 (hd:(a==("__debug__":Str))=false:=by decide)(Z:(a==("__classdict__":Str))=false:=by decide):
 Zx X [.Assign [.Name x S] (.Call (.Name a L) [] [] U) B] (Oi X k i j):=by
 intro d s J H D W I h;obtain⟨f,O,Ev,e,T,hv,he⟩:=h;have kp:∀b o,X.s₀.heap.get? b=some o->X.H₀ b=none->b∉X.fs->s.heap.get? b=some o:=λb o z n hb=>I.base.keep b o z n hb (by rw[Y];simp);have aa:∀t:Sem Flow,wpAny 00 X.A t (λf C=>f=.next/\∃v p,Inv X d (J.set i (some v)) p C/\O v p) (FN X d s W) s->wpAny 00 X.A t (SP X d D) (FN X d s W) s:=λt ht=>fQ ht λf C⟨q,v,p,E,z⟩=>by subst q;exact⟨_,_,E,hv _ _ z⟩
 have one:wpAny 00 X.A (exec (.Assign [.Name x S] (.Call (.Name a L) [] [] U) B) X.env) (λf C=>f=.next/\∃v p,Inv X d (J.set i (some v)) p C/\O v p) (FN X d s W) s:=by
  refine wpAny_Assign_Name (fQ (Q:=EP X d J O) ?_ λv C⟨y,H1,E,r1,q1⟩=>mO E hN hi hx r1 (λs2 I2=>⟨8,y,H1,I2,q1⟩) hf) hs;refine aa3 ?_;have A:∀M:Value->Shared->Prop,M (.ref f) s->wpAny 00 X.A (eval (.Name a L) X.env) M (FN X d s W) s:=λM w=>by
   obtain⟨m,hn,hl⟩:=I.loc;obtain⟨u,r,l⟩:=hl j a (.ref f) hj e ha;cases(show u=Value.ref f from r);rcases l with⟨hk,hm⟩|⟨hk,c,hc,g⟩
   ·exact abl (acJ I.ok.kind hk hn hm w) hd
   ·rcases hk with hk|hk
    ·exact abl (acK I.ok.kind hk hc g w) hd
    ·exact abl (acL I.ok.kind hk hc g w Z) hd
  refine A _ ?_;obtain⟨G,N,g1,g2⟩:=T.fn s I.hok;refine callWith_of (P:=λh=>∃G N,h.get? f=some G/\G.data=.func N) rfl keeps_F (evalArgs_nil3 ⟨⟨G,N,g1,g2⟩,?_⟩);refine abc (codeAny_mono (T.run X.A X.stack s hr I.env0 kp) λr s' w=>?_);cases r with
  | error ev=>obtain⟨ea,cls,dd,p,rfl,os,F,un,R,xo,q⟩:=w;obtain⟨Ce,rfl,z⟩:=he _ _ _ q;refine⟨ea,Ce,dd,J,p,8,I.call' os un R F (λb z=>absurd z 04),λb o z=>un.there b o z 04,xo,z⟩
  | ok fl=>
    cases fl with
    |ret u=>exact I.after w
    |next=>exact False.elim w
    |brk=>exact False.elim w
    |cont=>exact False.elim w
 refine wpAny_execs_cons (fQ one λfl C z=>?_);obtain⟨rfl,v,p,E,q⟩:=z;exact abW ⟨_,_,E,hv _ _ q⟩
structure Ck(K:Zs)(C:Zl)(f:Str):Prop where
 ga:findIn K (.ref C) "__getattribute__"=some (some (.builtin "BaseException.__getattribute__"))
 gh:findIn K (.ref C) "__getattr__"=some none
 hd:hasDictIn K C=true
 na:findIn K (.ref C) f=some none
 be:mroIn K C (.type "BaseException")=some true
noncomputable def Zn{s:Zp}{K:Zs}{Q:ZY}(X:K.In s.heap)(I:InstAt s.heap x L C od)(G:Ck K C H)(q:findObj K C od H=some (.value v))(z:handedIn v=true)(h:Q v {s with toks:=s.toks+1}):wpAny (model D w) A (getAttr (.ref x) H J) Q E s:=by
 obtain⟨b,g,d,t,j⟩:=s;have L0:=I.type (M:=model D w);have l:=looks_findIn (M:=model D w) X G.ga;have m:=looks_findIn (M:=model D w) X G.gh;have o:=looks_find (M:=model D w) X I q;have p:Looks (model D w) b (isInstance (.ref x) (.type "BaseException")) true:=L0.andThen (looks_mroIn X G.be);have B:=F.excAttr_ValueError.ga.bind (.ref x);have y:(J&&onTheHeap (Value.builtin "BaseException.__getattribute__"))=false:=by cases J<;>rfl
 have c:(Value.builtin "BaseException.__getattribute__"==Value.builtin "object.__getattribute__")=false:=by ext
 have e:(onTheHeap (Value.ref C)&&Value.builtin "BaseException.__getattribute__"==Value.builtin "object.__getattribute__")=false:=by rw[c];rfl
 unfold getAttr getAttrBy;refine aaa (wpAny_mkText (abe (aaa (L0.at (aaa (l.at ?_))))));dsimp only;rw[aab (by rw[e];decide)];unfold getAttrByItsOwn hookBefore;rw[aac (show onTheHeap (Value.ref C)=true from rfl)];refine aaa (m.at ?_);have f:∀R:Result->Shared->Prop,R (.ok (.ret v)) ⟨b,g,d,t+1,j⟩->codeAny (model D w) A (.call (.builtin "BaseException.__getattribute__") ⟨[.ref x,.str H t],[]⟩) R ⟨b,g,d,t+1,j⟩:=λR r=>by refine codeAny_call_builtin F.excAttr_ValueError.ga.plain F.entry_bexc_ga (check_slot (i:="BaseException.__getattribute__") (owner:="BaseException") (n:="__getattribute__") 01 01 p (F.args_bexc_ga _ _) ?_);refine aaa (aad (aaa (aad (aaa (L0.at (aaa (o.at ?_)))))));exact aad r
 have a:wpAny (model D w) A (handedOut v) Q E ⟨b,g,d,t+1,j⟩:=by rw[handedOut_of z];exact aad h
 clear L0 l m o p q I G X
 repeat(any_goals(first|assumption|wp_step))
 exact f _ a
def Wx(K:Zs)(d C:Zl)(dd:YE)(e:TE)(f:Str):TE:=λc H Q=>e c H λx b=>∃a fs v,x=.ref d/\dd=some a/\b a=some (tV a fs)/\Ck K C f/\fs.lookup f=some v/\Q v b
noncomputable def RM(L:(S,R)∈X.pn)(M:R.cls=.ref C)(b:R.dict=dd)(hd:∃vs,R.data=.fields vs)(N:PE X e U)(O:attributeBase e f X.env (eval e X.env)=eval e X.env:=by rfl):PE X (.Attribute e f T) (Wx X.K S C dd U f):=by intro a s F H Q I h;refine BV O (fQ (N a s F H _ I h) λu i⟨x,j,c,m,n,fs,v,w,y,z,G,l,q⟩=>?_);subst w;subst y;obtain rfl:u=Value.ref S:=m;have p:=(c.pin (S,R) (aaL _ L)).1;obtain⟨⟨A,B,r,P⟩,_,_⟩:=c.hok n _ z;obtain⟨u,D,g⟩:=lR.some_of (v:=v) (o:=A f) (by rw[<-l];exact r f);obtain⟨od,ho,E⟩:=pG B;obtain⟨vs,d⟩:=hd;have J:InstAt i.heap S R C (some od):=⟨p,M,by unfold notCls;rw[d],by rw[b];exact ho⟩;exact Zn c.kIn J G (findObj_own G.hd G.na rfl (by rw[E,D])) (uq g) ⟨v,j,c.tok _,g,q⟩
end L2
namespace L2
open PySem PySem.Spec PyProof.Rows
structure uN(P:ZE)(w:ZH)(K:Zs)(mg:Y1)(base:ZN)(CX:wQ)(k:Nat)(f:Zl)(fd:ZB)(ps:Y2)(sp:Shared->List Env->Sp):Prop where
 len:∀s outer vs H Q E,sp s outer vs H Q E->vs.length=ps.length
 run:∀(A:ZO)(outer:List Env)(s:Zp)(H:Hp)(args:Args)(us:Y3)(vs:List V)(Q:VK)(E:XK),dX k A->vh P w K mg base A outer s H->BindsTo s fd args (ps.zip us)->Vals vs us->sp s outer vs H Q E->
  codeAny (model P w) A (.call (.ref f) args) (CR CX outer P w H s Q E) s
theorem Pa{M:wQ}{P:ZE}{w:ZH}{K:Zs}{O:Y1}{h:ZN}{k:Nat}{f:Zl}{p d:Str}{i:Arguments}{j:List Stmt}{a:ZU}{dV kV L pm g ct oc:ZI}{an od:YE}
 {Y:YV}{N R:Y2}{Z:Shared->List Env->Sp}(lk:K.lookup f=some ⟨oc,od,.func (PySem.W.fnOf p d i j a dV kV L pm an g ct),Y⟩)(hcd:PySem.W.codeIn K g d=true)(S:cI N R a)
 (len:∀s c vs H Q E,Z s c vs H Q E->vs.length=R.length)
 (B:∀(A:ZO)(c:List Env)(s:Zp)(H:Hp)(vs:List V)(Q:VK)(E:XK),dX k (A.deeper (envOfC d a s.heap.objs.size f g))->Z s c vs H Q E->∃t,wR (iD M P w K O h N d a f g A c s H E) j t/\t {nx:=λ_ m=>Q .non m,rt:=Q} (start N vs) H):
 uN P w K O h M (k+1) f (PySem.W.fnOf p d i j a dV kV L pm an g ct) R Z:=by
 refine⟨len,λA c s H aa us vs Q E T D hb r F=>?_⟩;have hl:=len _ _ _ _ _ _ F;have KX:K.In s.heap:=D.mod.kin.keeps λb o e=>(D.bs b o e).1;have X:s.heap.NoLimit:=D.mod.nolimit.keeps λb o e=>(D.bs b o e).1;have z:∀y∈R.zip us,a.names.lookup y.1=some .local\/(a.names.lookup y.1=some .cell/\((cellsFrom 002 a.names []).lookup y.1).isSome=true):=λ⟨n,v⟩hy=>by
  rcases S.par n (abC hy).1 with q|q
  ·exact .inl q
  ·exact .inr ⟨q,acV _ _ _ (.inl q)⟩
 refine codeAny_call_function T.depth (KX _ _ lk) rfl S.co S.gen rfl (PySem.W.codeRec_of KX hcd) (hb _ _ _ _ ?_);refine wpAny_newFunctionEnv_cells S.kind z λenv he s1 x=>?_;subst he;refine⟨X.keeps x.toInCall.keep,codeAny_func ?_⟩;obtain⟨t,ht,hq⟩:=B A c s H vs Q E (T.deeper _) F;have I:Inv (iD M P w K O h N d a f g A c s H E) [] (start N vs) H s1:=ux S T.hd D hl r x;refine aaF (ht [] s1 (start N vs) H _ I hq) (λfl U C=>?_) λe U C=>C;have G:∀{l:St}{m:Hp}{v:V}{u:ZI},Inv (iD M P w K O h N d a f g A c s H E) [] l m U->RelV v u->Q v m->CE c P w H s Q u U:=
  λ{l m v u}J W q=>⟨v,m,J.os,J.bare,J.base,J.hok,W,q⟩;cases fl with
 | ret u=>obtain⟨v,l,m,J,W,q⟩:=C;exact G J W q
 | next=>obtain⟨l,m,J,q⟩:=C;exact G (v:=V.non) (u:=Value.none) J rfl q
 | brk=>obtain⟨_,_,_,q⟩:=C;exact False.elim q
 | cont=>obtain⟨_,_,_,q⟩:=C;exact False.elim q
noncomputable def gU.okS{P:ZE}{w:ZH}{K:Zs}{B:Y1}{z:ZN}{l:wQ}{x b:Str}{e:Stmt}{f:Zl}{m:ZB}{N i:Y2}{k:Nat}{j:Shared->List Env->Sp}(F:gU K x b e f m)(S:cI N i (bK e))(len:∀s a vs H Q E,j s a vs H Q E->vs.length=i.length)
 (d:∀(c:ZI)(A:ZO)(a:List Env)(s:Zp)(H:Hp)(vs:List V)(Q:VK)(E:XK),dX k (A.deeper (envOfC b (bK e) s.heap.objs.size f c))->j s a vs H Q E->∃t,wR (iD l P w K B z N b (bK e) f c A a s H E) (dq e) t/\t {nx:=λ_ n=>Q .non n,rt:=Q} (start N vs) H):uN P w K B z l (k+1) f m i j:=by
 obtain⟨oc,od,kV,p,v,an,c,y,q,rfl,r,h⟩:=F.ex;exact Pa r h S len λA a s H vs Q E o g=>d c A a s H vs Q E o g
noncomputable def gU.ok1{P:ZE}{w:ZH}{K:Zs}{B:Y1}{z:ZN}{l:wQ}{x b:Str}{e:Stmt}{f:Zl}{m:ZB}{N i:Y2}{k:Nat}{j:Sp}(F:gU K x b e f m)(S:cI N i (bK e))(len:∀vs H Q E,j vs H Q E->vs.length=i.length)
 (d:∀(c:ZI)(A:ZO)(a:List Env)(s:Zp)(H:Hp)(vs:List V)(Q:VK)(E:XK),dX k (A.deeper (envOfC b (bK e) s.heap.objs.size f c))->j vs H Q E->∃t,wR (iD l P w K B z N b (bK e) f c A a s H E) (dq e) t/\t {nx:=λ_ n=>Q .non n,rt:=Q} (start N vs) H):cz P w K B z l (k+1) f m i j:=by
 obtain⟨oc,od,kV,p,v,an,c,y,q,rfl,r,h⟩:=F.ex;exact xf r h S len λA a s H vs Q E o g=>d c A a s H vs Q E o g
noncomputable def vO(b:(h,i)∈j)(c:i.cls=.ref C)(a:i.dict=dd)(hd:∃vs,i.data=.fields vs)(d:PE (Je X h j) e m)(g:attributeBase e f X.env (eval e X.env)=eval e X.env:=by rfl):PE (Je X h j) (.Attribute e f l) (Wx X.K h C dd m f):=
 RM (X:=Je X h j) (aax _ b) c a hd d g
open PySem.W
noncomputable def mV(c:Zl)(a:Str):HO:=.ext λh=>h.CodeRec (.ref c) a
noncomputable def Hd(x:h.CodeRec (.ref c) a):gq P w H h c (mV c a):=by obtain⟨d,o,vs,t,e,g,r⟩:=id x;cases e;refine⟨x,⟨o,g⟩,λn p z k=>?_⟩;obtain⟨d,f,b,i,j,l,m⟩:=z;cases j;exact⟨c,f,b,i,8,k _ l,m⟩
noncomputable def lamO(f:Zl)(o:Obj):HO:=.ext λh=>h.get? f=some o
def Bw(x:h.get? f=some o):gq P w H h f (lamO f o):=⟨x,⟨o,x⟩,λa b z k=>k _ z⟩
def pX(P:ZE)(w:ZH)(K:Zs)(mg:Y1)(base:ZN)(N:Y2)(qual:Str)(scope:ZU)(f:Zl)(cd:ZI)(cl:YR)(A:ZO)(outer:List Env)(s:Zp)(H:Hp)(E:XK):Cx where
 prog:=P
 w:=w
 K:=K
 mg:=mg
 base:=base
 A:=A.deeper (envX qual scope s.heap.objs.size f cd cl)
 N:=N
 s₀:=s
 H₀:=H
 env:=envX qual scope s.heap.objs.size f cd cl
 outer:=outer
 stack:=envX qual scope s.heap.objs.size f cd cl::outer
 ex:=[]
 calm:=true
 fn:=λ_=>false
 pn:=[]
 xe:=λe s'=>wpAny (model P w) (A.deeper (envX qual scope s.heap.objs.size f cd cl)) (leaving (envX qual scope s.heap.objs.size f cd cl) e) (λ_ s''=>mz P w outer H s E e s'') (λe' s''=>mz P w outer H s E e' s'') s'
section
variable{P:ZE}{w:ZH}{K:Zs}{mg:Y1}{base:ZN}{N:Y2}{qual:Str}{scope:ZU}{f:Zl}{cd:ZI}{cl:YR}{A:ZO}{outer:List Env}{s:Zp}{H:Hp}{E:XK}
def xeL(I:Inv (pX P w K mg base N qual scope f cd cl A outer s H E) dD σ H' s')(x:jH s'.heap H' s.heap e cls dd)(h:E cls dd H'):
 (pX P w K mg base N qual scope f cd cl A outer s H E).xe (.ref e) s':=
 leaveX I rfl rfl I.ok.frames rfl x λh' x' u k=>⟨e,cls,dd,H',8,I.os,I.bare,u,k,x',h⟩
theorem V1(y:∀cls dd d,j cls dd d->E cls dd d):iz (mz P w) (pX P w K mg base N qual scope f cd cl A outer s H E) j:=by
 intro c p D F e r I h;obtain⟨B,cls,dd,d,rfl,n,a,un,g,x,q⟩:=h;have m:Inv (pX P w K mg base N qual scope f cd cl A outer s H E) c p d r:=I.call' (ch:=[]) n un g a (λb z=>absurd z 04);refine xeL m (x.mono λb l=>?_) (y _ _ _ q);cases z:s.heap.get? b with
 |none=>rfl
 | some o=>obtain⟨C,i⟩:=I.base.there b o z (by intro v;cases v);rw[l]at i;cases i
structure Uw(scope:ZU)(cl:YR)(N:Y2)(g:ZN)(H:Hp)(fr:YI)(σ:St):Prop where
 inj:∀x y c,cl.lookup x=some c->cl.lookup y=some c->x=y
 has:∀x,(scope.names.lookup x=some .cell\/scope.names.lookup x=some .free)->∃c,cl.lookup x=some c
 cell:∀x c,cl.lookup x=some c->(∃v,g.IsCell c v)/\H c=none/\c∉fr
 val:∀(i:Nat)x v,N[i]?=some x->σ[i]?=some (some v)->scope.names.lookup x=some .free/\∃c u,cl.lookup x=some c/\RelV v u/\g.IsCell c (some u)
 len:σ.length=N.length
def Dk(ho:H f=some (lamO f (kla_obj name qual params body scope cl pm c' ctv)))
 (hc:H c'=some (mV c' qual))(C:Uw scope cl N g H fr σ)(hbind:bindArgs (kla_fn name qual params body scope cl pm (.ref c') ctv) ⟨[],[]⟩=pure [])
 (hco:scope.isCoroutine=false)(hgen:scope.isGenerator=false)(hk:scope.kind=.function)(hcell:∀x∈scope.names,x.2≠.cell)
 (hb:∀(A:ZO)(outer:List Env)(s:Zp),dX k (A.deeper (envX qual scope s.heap.objs.size f (.ref c') cl))->PE (pX P w K mg base N qual scope f (.ref c') cl A outer s H E) body t)(hq:t σ H Qv):Thunk P w K mg base g H fr (k+1) f H Qv E:=by
 refine⟨λs hok=>⟨_,_,(hok f _ ho).1,8⟩,λA outer s hr e0 kp=>?_⟩;have lim:s.heap.NoLimit:=e0.mod.nolimit.keeps λb o e=>(e0.bs b o e).1;refine kla_callFunE hr.depth (e0.hok f _ ho).1 rfl hco hgen rfl (e0.hok c' _ hc).1 ?_;rw[hbind];refine aad (wpAny_newFunctionEnv hcell (λy hy=>absurd hy 04) (λh₁ hns hsb=>⟨lim.fresh _ hsb,?_⟩) hk);show codeAny _ _ (.expr body (envX qual scope s.heap.objs.size f (.ref c') cl)) _ _;have hk₁:∀b o,s.heap.get? b=some o->h₁.get? b=some o:=λb o e=>hsb.extBut b o (aar (aak e)) (aaj _ e);have isC:∀x c v,cl.lookup x=some c->g.IsCell c v->h₁.IsCell c v:=λx c v e z=>by obtain⟨_,h2,h3⟩:=C.cell x c e;obtain⟨o,ho,hd⟩:=z;exact⟨o,hk₁ _ _ (kp _ _ ho h2 h3),hd⟩
 have noA:∀b:Addr,b∉([]:YI):=λb z=>absurd z 04;have I:Inv (pX P w K mg base N qual scope f (.ref c') cl A outer s H E) [] σ H {s with heap:=h₁,toks:=s.toks+0}:=by
  refine⟨⟨e0.mod,hk,8,8,aae _,C.inj,λy hy=>C.has y hy,λy c z=>absurd z (by simp[pX]),λ_=>hr.hd,Around.frames_deeper e0.frames,.inr ⟨8,8⟩,λb z=>absurd z (noA b),e0.bs,e0.bsz,λb _ _=>noA b,λb z=>absurd z (noA b),e0.funs,e0.frf⟩,8,e0.bare,Un.kept hk₁,⟨_,hns,λi y v h1 h2 h3=>?_⟩,λy c h=>?_,e0.hok.fresh 014,λy c h=>(C.cell y c h).2.1,λp hp=>absurd (show p∈([]:YN)from hp) 04,e0.hok.kept hk₁,C.len⟩
  ·obtain⟨fr',c,u,e,r,z⟩:=C.val i y v h1 h2;exact⟨u,r,.inr ⟨.inr fr',c,e,isC y c _ e z⟩⟩
  ·obtain⟨⟨v,z⟩,_⟩:=C.cell y c h;exact⟨v,isC y c v h z⟩
 exact kla_codeExpr (aaF (hb A outer s (hr.deeper _) [] _ σ H Qv I hq) (λu s'⟨v,H',J,rv,q⟩=>⟨v,H',J.os,J.bare,J.base,J.hok,rv,q⟩) λ_ _ y=>y)
end
section
variable{X:Cx}{dD:YN}{σ:St}{H:Hp}{s:Zp}{h':ZN}{P c':Zl}{ps more:YA}{qual:Str}
noncomputable def Inv.grow(I:Inv X dD σ H s)(g:H P=some (.tbl ps))(l:Heap.ExtBut P s.heap h')(h:s.heap.objs.size<=c')(p:h'.CodeRec (.ref c') qual)(x:h'.get? P=some {cls:=.none,data:=.fields (ps++more)}):
 Inv X dD σ (upd (upd H P (.tbl (ps++more))) c' (mV c' qual)) {s with heap:=h',toks:=t'}:=by
 have j:P<s.heap.objs.size:=I.hok.lt g;have C:c'≠P:=λq=>by subst q;exact absurd (aat j h) (aaP _)
 have lt:∀b o,s.heap.get? b=some o->b≠c':=λb o e q=>by subst q;exact absurd (aat (aak e) h) (aaP _)
 have d:∀b,H b=none->b≠P:=λb e q=>by subst q;rw[g]at e;cases e
 have kp:∀b o,s.heap.get? b=some o->H b=none->h'.get? b=some o:=λb o e n=>l b o (d b n) e;have up:∀b u,H b=some u->(∀w,u≠.tbl w)->upd (upd H P (.tbl (ps++more))) c' (mV c' qual) b=some u:=λb u e ne=>by
  have a:b≠c':=λq=>by subst q;exact absurd (aat (I.hok.lt e) h) (aaP _)
  have f:b≠P:=λq=>by subst q;rw[g]at e;exact ne _ (aaO e).symm
  rw[b8 a,b8 f];exact e
 refine I.stepN (ch:=[]) (g':=s.gens) (d':=s.drawn) (t':=t') (λb y=>absurd y 04) (λb o _ _ _ e n=>kp b o e n) (λb o _ _ _ e n=>⟨o.slots,kp b o e n⟩) (λb o _ e n=>?_) (λb o _ e=>?_) (λb A e=>up b _ e (by intro _ q;cases q)) (λb o u e=>up b _ e (by intro _ q;cases q)) (λb w e=>?_) (λm B=>?_) (λb u e=>?_) I.bare
 ·rw[b8 (lt b o e),b8 (d b n)];exact n
 ·by_cases q:b=P
  ·subst q;exact⟨_,x⟩
  ·exact⟨o,l b o q e⟩
 ·have a:b≠c':=λq=>by subst q;exact absurd (aat (I.hok.lt e) h) (aaP _)
  by_cases q:b=P
  ·subst q;rw[g]at e;cases e;exact⟨more,by rw[b8 a,a_]⟩
  ·exact⟨#[],by rw[b8 a,b8 q,e];simp⟩
 ·obtain⟨o,D,E,e,r⟩:=B;exact⟨o,D,E,kp _ _ e I.free,r⟩
 ·by_cases a:b=c'
  ·subst a;rw[a_]at e;cases e;exact Hd p
  ·rw[b8 a]at e;by_cases f:b=P
   ·subst f;rw[a_]at e;cases e;exact x
   ·rw[b8 f]at e;refine(I.hok b u e).stay (λc v i q=>l c v ?_ q) (λc q=>up c _ q (by intro _ z;cases z)) λc A q=>up c _ q (by intro _ z;cases z);rintro rfl;rcases i with rfl|z
    ·exact f rfl
    ·rw[g]at z;cases z
structure qw(X:Cx)(c P:Zl):Prop where
 code:X.env.code=.ref c
 hd:CodeHd X.base c P
 bl:X.base.BuiltinsAt X.mg P
 gP:mainGlobals≠P
def RX(H:Hp)(P:Zl)(d:Pos)(a:Str)(b:Zl)(e:Hp):Prop:=
 ∃c,H P=some (.tbl c)/\((codeAmong d c.toList=none/\H b=none/\b≠P/\e=upd (upd H P (.tbl (c++#[rawInt d.line,rawInt d.col,.ref b]))) b (mV b a))\/(codeAmong d c.toList=some (.ref b)/\H b=some (mV b a)/\e=H))
def TabOk(H:Hp)(P:Zl)(d:Pos)(a:Str):Prop:=∃b,H P=some (.tbl b)/\TriplesOk b.toList/\(codeAmong d b.toList=none\/∃c,codeAmong d b.toList=some (.ref c)/\H c=some (mV c a))
noncomputable def Mw(X:Cx)(P:Zl)(a:Arguments)(c:ZT)(b:ZU)(h:Pos)(i:YR):TE:=λ_ H Q=>TabOk H P h (X.env.qual++"<lambda>")/\∀g d,RX H P h (X.env.qual++"<lambda>") g d->∀f e,d f=none->Q (.ref f) (upd d f (lamO f (kla_obj "<lambda>" (X.env.qual++"<lambda>") a c b i ((X.mg "__name__").getD .none) g e)))
def QL(T:qw X c P)(x:defaultsOf d X.env=([],[]))(y:closureFor f X.env=pure R):PE X (.Lambda d i f A) (Mw X P d i f A R):=by
 intro M s σ H Q I h;obtain⟨⟨z,w,L,D⟩,h⟩:=h;refine kla_eval x ?_;have v:s.heap.get? P=some (tabObj z):=I.hok P _ w;have F:s.heap.Ns mainGlobals X.mg:=by obtain⟨o,W,Y,e,r⟩:=I.ok.mod.glob;exact⟨o,W,Y,I.bk _ _ e,r⟩
 have G:s.heap.BuiltinsAt X.mg P:=by obtain⟨Z,o,b1,b2,b3,b4,b5,b6⟩:=T.bl;exact⟨Z,o,b1,b2,b3,b4,I.bk _ _ b5,b6⟩
 rcases D with N|⟨m,O,E⟩
 ·refine kla_makeFunction (mg:=X.mg) y I.ok.glob F T.code (T.hd.keeps I.bk) v L N T.gP G λm j g tk S l U n B=>?_;have J:=I.grow (t':=tk) w S l n B;have C:P<s.heap.objs.size:=I.hok.lt w;have fr:upd (upd H P (.tbl (z++#[rawInt A.line,rawInt A.col,.ref m]))) m (mV m (X.env.qual++"<lambda>")) g.objs.size=none:=J.hok.fresh 014;refine⟨.ref g.objs.size,_,J.laid (a:=g.objs.size) (t':=tk) (λb u e=>aaj _ e) 014 (Bw (aav _ rfl)),8,h m _ ⟨z,w,.inl ⟨N,I.hok.fresh l,λq=>?_,8⟩⟩ _ j fr⟩;subst q;exact absurd (aat C l) (aaP _)
 ·refine kla_makeFunctionHit (mg:=X.mg) y I.ok.glob F T.code (T.hd.keeps I.bk) v L O G λj g tk hk p=>?_;have fr:H g.objs.size=none:=I.hok.fresh p;exact⟨.ref g.objs.size,_,I.laid (a:=g.objs.size) (h':=g.push _) (t':=tk) (λb u e=>aaj _ (hk b u e)) p (Bw (aav _ rfl)),8,h m _ ⟨z,w,.inr ⟨O,E,8⟩⟩ _ j fr⟩
end
theorem Mx(F:uN X.prog X.w X.K X.mg X.base v k f q p w)(m:dX k X.A)(n:Binds X.K q p [])(o:iz v X E)
 (I:Inv X a g H s)(r:Vals vs b)(h:w s X.stack vs H Q E):wpAny 00 X.A (call (.ref f) b) (EP X a g Q) X.xe s:=by
 have j:b.length=p.length:=by rw[<-r.length];exact F.len _ _ _ _ _ _ h
 have d:=n s b I.kIn (by rw[aa0];exact j);rw[aa0]at d;refine abc (codeAny_mono (F.run X.A X.stack s H ⟨b,[]⟩ b vs Q E m I.env0 d r h) λr i c=>?_);cases r with
 |error e=>exact o a g H s e i I c
 | ok l=>
   cases l with
   |ret u=>exact I.after c
   |next=>exact False.elim c
   |brk=>exact False.elim c
   |cont=>exact False.elim c
noncomputable def Ha{X:Cx}{D:Shared->List Env->Sp}{t:TA}{r:St->List V->Hp->VK->Prop}(F:uN X.prog X.w X.K X.mg X.base J k f G L D)(l:dX k X.A)(m:Gl X x)(n:X.mg x=some (.ref f))(hk:keepIn X.K (.ref f)=true)(o:Binds X.K G L [])(v:iz J X E)
 (d:∀a b H s vs Q,Inv X a b H s->r b vs H Q->D s X.stack vs H Q E)(w:PA X (e::C) t)(g:(x==("__debug__":Str))=false:=by decide)(y:starEach (e::C) X.env=(false,eval e X.env)::starEach C X.env:=by rfl)(i:(backTo B (starEach C X.env)).any (·.1)=false:=by rfl):
 PE X (.Call (.Name x p) (e::C) [] B) (λb H Q=>t b H λvs j=>r b vs j Q):=by
 intro a s b H Q I h;refine aa3 (kO I m n ?_ g);refine callWith_K (h₀:=X.base) I.ok.mod.kin hk (fQ (w B a s b H _ I h) λz A⟨vs,j,c,r,q⟩=>⟨c.kIn,?_⟩) y i;exact Mx F l o v c r (d _ _ _ _ _ _ c q)
theorem km{a:YR}(h:x∈a.map (·.1)):∃c,a.lookup x=some c:=by
 induction a with
 |nil=>simp at h
 | cons q r d=>
   obtain⟨y,c⟩:=q;rw[aa7];by_cases e:(x==y)=true
   ·exact⟨c,by rw[e]⟩
   ·have b:(x==y)=false:=by simpa using e
    rw[b];refine d ?_;rcases aag.mp h with z|z
    ·exact absurd (aaX.mpr z) e
    ·exact z
def yp(a:List Nat)(b:St):St:=a.map λj=>(b[j]?).join
def Mj{X:Cx}{s:Zp}{scope:ZU}{G:YR}{NL:Y2}{js:List Nat}(I:Inv X A B H s)(J:∀p∈G,X.env.cells.lookup p.1=some p.2)(L:∀x,X.fn x=true)
 (g:∀p∈scope.names,(p.2=.cell\/p.2=.free)->p.1∈G.map (·.1))(h:∀x∈NL,scope.names.lookup x=some .free)(n:∀x∈NL,X.env.scope.names.lookup x=some .cell)(N:NL.map some=js.map λj=>X.N[j]?)(W:X.stack=X.env::X.outer)(Y:X.env.frame=some X.env.locals):
 Uw scope G NL s.heap H (frs X.stack) (yp js B):=by
 have sub:∀x c,G.lookup x=some c->X.env.cells.lookup x=some c:=λx c e=>J (x,c) (aa5 e);have w:js.length=NL.length:=by simpa using(aaB List.length N).symm
 refine⟨λx y c D d=>I.ok.inj x y c (sub x c D) (sub y c d),λx l=>?_,λx c e=>⟨I.cell x c (sub x c e),I.freeC x c (sub x c e),λO=>?_⟩,λi x v D d=>?_,by unfold yp;rw[aaf];exact w⟩
 ·refine km ?_;rcases l with l|l
  ·exact g _ (aa5 l) 012
  ·exact g _ (aa5 l) 013
 ·rcases aag.mp (I.stkSub c O)with q|q
  ·exact I.cne x c (sub x c e) q
  ·obtain⟨_,o,ho,_⟩:=I.ok.funs.mem q;exact absurd (aat (aak ho) (I.ok.cab x c (L x) (sub x c e))) (aaP _)
 ·have l:x∈NL:=aap D;have F:(js.map λj=>X.N[j]?)[i]?=some (some x):=by rw[<-N,aaq,D];rfl
  rw[aaq]at F;obtain⟨j,Q,F⟩:=abk.mp F;unfold yp at d;rw[aaq,Q]at d;have P:B[j]?=some (some v):=by
   have d:(B[j]?).join=some v:=aaO d;cases e:B[j]? with
   |none=>rw[e]at d;cases d
   | some a=>rw[e]at d;cases a with
     |none=>cases d
     |some b=>exact aaB some d
  obtain⟨m,Z,R⟩:=I.loc;obtain⟨u,r,S⟩:=R j x v F P (.inr (.inl (n x l)));refine⟨h x l,?_⟩;rcases S with⟨kk,_⟩|⟨_,c,U,z⟩
  ·have kk:X.env.scope.names.lookup x=some .local:=kk;rw[n x l]at kk;cases kk
  ·obtain⟨T,M⟩:=km (g _ (aa5 (h x l)) 013);have:=sub x T M;rw[U]at this;cases this;exact⟨c,u,M,r,z⟩
end L2
namespace L2
open PySem PySem.Spec PyProof.Rows
open PySem.W
noncomputable def tabIn(K:Zs)(c:Zl):Option Addr:=match K.lookup c with
 | some o=>(match o.data with
   | .fields vs=>(match(vs[11]?:Option Value),vs.getD 18 .none,vs.getD 7 .none,vs.getD 9 .none,vs.getD 10 .none with
     |some (Value.ref P),.str _ _,.int _ _,.bool _,.int _ _=>if(o.cls==.type "code"&&c !=P)=true then some P else none
     |_,_,_,_,_=>none)
   |_=>none)
 |none=>none
set_option tactic.hygienic true in
def NQ{K:Zs}(X:K.In h)(e:tabIn K c=some P):CodeHd h c P:=by
 unfold tabIn at e;split at e
 ·rename_i o ho;split at e
  ·rename_i vs hd;split at e
   ·rename_i s b d m n p f g a i q r j;split at e
    ·rename_i l;cases e;simp only[aaM,aaX,bne_iff_ne]at l;refine⟨o,vs,b,d,m,n,p,f,g,X _ _ ho,l.1,hd,a,?_,i,q,r,j,l.2⟩;rw[Array.getD_eq_getD_getElem?,a];rfl
    ·cases e
   ·cases e
  ·cases e
 ·cases e
end L2
namespace L2
open PySem PySem.Spec PyProof.Rows PySem.SeqAt
def Oo(C:Zl)(i:Sp)(j:List V->List V->List V)(E:XK)(t tk:TA):TE:=λc H Q=>t c H λvs d=>tk c d λg b=>∀x a,b x=none->b a=none->a≠x->
 i (j (.ref x::vs) g) (upd (upd b a (.own x)) x (.ins C a [])) (λv h=>v=.non/\Q (.ref x) h) E
theorem Dj(M:Mk X.K C f)(F:cz X.prog X.w X.K X.mg X.base S k f R p T)(N:dX (k+1) X.A)(q:kh X.K R p m g o)
 (O:iz S X E)(I:Inv X b j H s)(r:Vals vs us)(P:Vals l c)
 (h:∀x d,H x=none->H d=none->d≠x->T (o (.ref x::vs) l) (upd (upd H d (.own x)) x (.ins C d [])) (λv w=>v=.non/\Q (.ref x) w) E):
 wpAny 00 X.A (call (.ref C) us (m.zip c)) (EP X b j Q) X.xe s:=by
 have n:=h 002 s.heap.objs.size (I.hok.fresh (abd _)) (I.hok.fresh 014) (aar (acn _));have i:=Inv.made (C:=C) I;have r2:Vals (o (V.ref 002::vs) l) (g (Value.ref 002::us) c):=q.rel (.cons rfl r) P;have z:(g (Value.ref 002::us) c).length=p.length:=by have e:=r2.length;rw[F.len _ _ _ _ n]at e;exact e.symm
 refine abc (wX (f:=f) I.kIn M.makes M.init (aaX.mp M.fn) (codeAny_mono (F.run _ X.stack _ _ ⟨Value.ref 002::us,m.zip c⟩ (g (Value.ref 002::us) c) _ _ E (N.make C us (m.zip c)) (i.env0.make C us (m.zip c)) (q.to _ (Value.ref 002::us) c i.kIn z) r2 n) λr y a=>?_));cases r with
 |error e=>exact O b j _ _ e y i a
 | ok L=>
   cases L with
   | ret u=>obtain⟨v,A,B,D,G,J⟩:=i.after a;subst G;exact⟨D,⟨V.ref 002,A,B,8,J⟩⟩
   |next=>exact False.elim a
   |brk=>exact False.elim a
   |cont=>exact False.elim a
def pD(M:Mk X.K C f)(F:cz X.prog X.w X.K X.mg X.base L k f o P O)(r:dX (k+1) X.A)(v:Gl X x)(w:X.mg x=some (.ref C))(y:kh X.K o P J g N)(z:iz L X E)
 (c:PK X m tk)(b:(backToKw e (keywordEach m X.env)).all (·.1.isSome)=true:=by rfl)(d:(backToKw e (keywordEach m X.env)).filterMap (·.1)=J:=by rfl)
 (i:(x==("__debug__":Str))=false:=by decide)(j:((backTo e (starEach [] X.env)).any (·.1)||(backToKw e (keywordEach m X.env)).any (·.1.isNone))=false:=by rfl):
 PE X (.Call (.Name x p) [] m e) (Oo C O N E wj tk):=by
 intro a s q H Q I h;refine aa3 (kO I v w ?_ i);refine PySem.W.callWith_KW0 (h₀:=X.base) I.ok.mod.kin M.kp b ?_ j;refine fQ (c e a s q H _ I h) λA B⟨D,G,l,n,q2⟩=>⟨l.kIn,?_⟩;rw[d];exact Dj (us:=[]) (vs:=[]) M F r y z l .nil n q2
end L2
namespace L2
open PySem PySem.Spec PyProof.Rows PySem.W
theorem qb{d p:Pos}(l:Y3)(h:TriplesOk l):codeAmong d (l++[rawInt p.line,rawInt p.col,c])=(codeAmong d l).or (if(p.line:Int)==d.line&&(p.col:Int)==d.col then some c else none):=by
 fun_induction TriplesOk l with
 |case1=>simp[codeAmong,rawInt]
 | case2 a t b u e rest f=>
   show codeAmong d (.int a t::.int b u::e::(rest++_))=_;rw[codeAmong,codeAmong];split
   ·rfl
   ·exact f h
 |case3=>exact h.elim
theorem wk{p:Pos}(l:Y3)(h:TriplesOk l):TriplesOk (l++[rawInt p.line,rawInt p.col,c]):=by
 fun_induction TriplesOk l with
 |case1=>simp[TriplesOk,rawInt]
 |case2 a t b u e rest d=>exact d h
 |case3=>exact h.elim
def jZ(H:Hp)(T:Zl)(a:Str)(d:List Pos):Prop:=
 ∃b,H T=some (.tbl b)/\TriplesOk b.toList/\∀e∈d,codeAmong e b.toList=none\/∃c,codeAmong e b.toList=some (.ref c)/\H c=some (mV c a)
def jZ.tab(h:jZ H T a b)(m:c∈b):TabOk H T c a:=by obtain⟨d,e,f,g⟩:=h;exact⟨d,e,f,g c m⟩
def jZ.keep(h:jZ H T a c)(k:∀b u,H b=some u->(∀d,u≠.dK d)->f b=some u):jZ f T a c:=by
 obtain⟨i,j,l,n⟩:=h;refine⟨i,k _ _ j (by intro _ z;cases z),l,λg m=>?_⟩;rcases n g m with z|⟨o,z,e⟩
 ·exact .inl z
 ·exact .inr ⟨o,z,k _ _ e (by intro _ z;cases z)⟩
def jZ.same(h:jZ H T a c)(s:cu H d):jZ d T a c:=h.keep λb u e _=>s b u e
def RX.code(h:RX H T e a b c):c b=some (mV b a):=by
 obtain⟨f,g,⟨_,_,_,rfl⟩|⟨_,d,rfl⟩⟩:=h
 ·exact a_
 ·exact d
def jZ.lam(h:jZ H T b g)(l:RX H T c b f r):jZ r T b g:=by
 obtain⟨i,j,n,o⟩:=h;obtain⟨s,p,l⟩:=l;rw[j]at p;cases p;rcases l with⟨w,v,ne,rfl⟩|⟨_,_,rfl⟩
 ·refine⟨i++#[rawInt c.line,rawInt c.col,.ref f],by rw[b8 ne.symm,a_],?_,λa m=>?_⟩
  ·rw[acb];exact wk _ n
  ·rw[acb];show codeAmong a (i.toList++[rawInt c.line,rawInt c.col,.ref f])=none\/∃d,codeAmong a (i.toList++[rawInt c.line,rawInt c.col,.ref f])=Option.some (Value.ref d)/\_;rw[qb _ n];rcases o a m with z|⟨d,z,e⟩
   ·rw[z];by_cases q:((c.line:Int)==a.line&&(c.col:Int)==a.col)=true
    ·rw[aac q];exact .inr ⟨f,8,a_⟩
    ·rw[aab q];exact .inl rfl
   ·rw[z];refine .inr ⟨d,8,?_⟩;rw[b8 (cg e v),b8 (iV e j 005)];exact e
 ·exact⟨i,j,n,o⟩
theorem Ed{P:ZE}{w:ZH}{K:Zs}{Q mb:Y1}{CX:wQ}{k:Nat}{fa a:Zl}{j:YI}{fd:ZB}{x:Str}{sp:Sp}{f:Zp}{vs:Y3}{G:List Int}
 (KX:K.In f.heap)(R:f.heap.Ns mainGlobals Q)(Z:f.heap.Ns builtinsNs mb)(hbb:∀x:Str,x≠"__name__"->mb x=bootBuiltins x)(S:f.heap.NoLimit)(hg:f.gens=#[])
 (I:f.heap.get? a=some {cls:=.type "list",data:=.seq vs.toArray})(hi:IntsAre vs G)(hl:G.length<=sizeLine)(hr:dX k callerA)
 (U:∀T∈j,f.heap.get? T=some (tabObj #[])/\K.lookup T=none/\∃c,CodeHd f.heap c T)
 (F:∀l:Heap,K.In l->l.Ns mainGlobals Q->(∀b o,f.heap.get? b=some o->b∉j->b≠a->l.get? b=some o)->cz P w K Q l CX k fa fd [x] sp)(D:∀(s:Zp)(u:ZI),BindsTo s fd ⟨[u],[]⟩ [(x,u)])
 (hsp:∀H:Hp,(∀T∈j,H T=some (.tbl #[]))->eY K H a (G.map V.int)->sp [.ref a] H (λv _=>v=.bl true) λ_ _ _=>False)
 (hCX:∀H e n,CX [] H f (λ_ _ _=>False) e n->False):
 codeAny (model P w) callerA (.call (.ref fa) ⟨[.ref a],[]⟩) (λr n=>r=.ok (.ret (.bool true))/\OldK f.heap n.heap/\n.os=f.os/\AllBare n.gens) f:=by
 have rv:=uW hi;have J:=hi.length;have aa:a∉j:=λq=>by have:=(U a q).1;rw[I]at this;cases this
 have B:∀E:Hp,(∀b,E b=none\/(b=a/\K.lookup a=none/\E b=some (.frz {cls:=.type "list",data:=.seq vs.toArray} (.lst (G.map V.int)))))->eY K (λb=>if b∈j then some (.tbl #[])else E b) a (G.map V.int)->
  codeAny (model P w) callerA (.call (.ref fa) ⟨[.ref a],[]⟩) (λr n=>r=.ok (.ret (.bool true))/\OldK f.heap n.heap/\n.os=f.os/\AllBare n.gens) f:=by
  intro E Y hS;generalize hH:(λb=>if b∈j then some (HO.tbl #[])else E b:Hp)=H at hS;have HT:∀T∈j,H T=some (.tbl #[]):=λT m=>by rw[<-hH];exact aac m
  have p:∀b,b∉j->H b=E b:=λb e=>by rw[<-hH];exact aab e
  have Hn:∀b,b∉j->b≠a->H b=none:=λb i A=>by
   rw[p b i];rcases Y b with z|⟨z,_⟩
   ·exact z
   ·exact absurd z A
  have ab:my P w H f.heap:=λb u e=>by
   by_cases q:b∈j
   ·rw[HT b q]at e;cases e;exact(U b q).1
   ·rw[p b q]at e;rcases Y b with z|⟨rfl,_,z⟩
    ·rw[z]at e;cases e
    ·rw[z]at e;cases e;exact⟨I,by rw[aaf];exact hl,vs,_,rv,I⟩
  have ac:∀{b:Zl}{o:Obj}{W:Array DictEntry}{X:Nat},f.heap.get? b=some o->o.data=.dict W X->H b=none:=λ{b o W X}e d=>by
   refine Hn b (λq=>?_) (λq=>?_)
   ·rw[(U b q).1]at e;cases e;cases d
   ·subst q;rw[I]at e;cases e;cases d
  have y:∀{b:Zl}{m:Y1},f.heap.Ns b m->(yq f.heap H).Ns b m:=λ{b m}⟨o,W,X,e,d,r⟩=>⟨o,W,X,sX e (ac e d),d,r⟩;have L:K.In (yq f.heap H):=λb o e=>by
   refine sX (KX b o e) ?_;have q:b∉j:=λm=>by rw[(U b m).2.1]at e;cases e
   rw[p b q];rcases Y b with z|⟨rfl,z,_⟩
   ·exact z
   ·rw[z]at e;cases e
  have hM:Mod K Q (yq f.heap H):=⟨L,y R,⟨mb,y Z,hbb⟩,let⟨mc,i,A⟩:=S;⟨mc,y i,A⟩⟩;have e0:vh P w K Q (yq f.heap H) callerA [] f H:=⟨8,hM,λb o e=>LK e,abB (Ek _ _),trivial,λb Z=>absurd (show b∈([]:YI)from Z) 04,ab,.of_eq hg⟩;refine codeAny_mono ((F _ L (y R) λb o e i A=>sX e (Hn b i A)).run callerA [] f H ⟨[.ref a],[]⟩ [.ref a] [.ref a] _ _ hr e0 (D f (.ref a)) (.cons rfl .nil) (hsp H HT hS)) λr n h=>?_;cases r with
  |error e=>exact(hCX H e n h).elim
  | ok fl=>
    cases fl with
    |next=>exact False.elim h
    |brk=>exact False.elim h
    |cont=>exact False.elim h
    | ret u=>
      obtain⟨v,H',os,O,un,C,r',q⟩:=h;cases(show v=.bl true from q);cases(show u=Value.bool true from r');have M:∀b o,f.heap.get? b=some o->b∉j->n.heap.get? b=some o:=λb o e i=>by
       rcases Y b with z|⟨rfl,_,z⟩
       ·exact un.keep b o e (by rw[p b i];exact z) (by intro z;exact absurd (show b∈([]:YI)from z) 04) 04
       ·have z2:=un.frzs b _ _ ((p b i).trans z);obtain⟨e2,_⟩:=C b _ z2;rw[I]at e;cases e;exact e2
      have N:∀T∈j,∃g,n.heap.get? T=some {cls:=.none,data:=.fields (#[]++g)}:=λT m=>by obtain⟨g,hm⟩:=un.tbls T #[] (HT T m);exact⟨g,C T _ hm⟩
      refine⟨8,⟨λb o e=>?_,λb o e=>?_⟩,os,O⟩
      ·by_cases i:b∈j
       ·obtain⟨g,tb⟩:=N b i;obtain⟨A,_,c,hc⟩:=U b i;rw[A]at e;cases e;exact .inr (.inl ⟨(hc.tab A).isCodeTable,8,#[],g,8,tb⟩)
       ·exact .inl (M b o e i)
      ·by_cases i:b∈j
       ·obtain⟨g,tb⟩:=N b i;exact⟨_,tb⟩
       ·exact⟨o,M b o e i⟩
 cases hk:K.lookup a with
 | some o=>have e:=KX a o hk;rw[I]at e;cases e;exact B (λ_=>none) (λ_=>.inl rfl) (.inr ⟨_,vs.toArray,_,hk,8,8,8,by rw[aas,J];exact hl,by simpa using rv⟩)
 | none=>
   refine B (λb=>if b=a then some (.frz {cls:=.type "list",data:=.seq vs.toArray} (.lst (G.map V.int)))else none) (λb=>?_) (.inl (.inr ⟨_,(aab aa).trans (aac rfl)⟩));by_cases h:b=a
   ·exact .inr ⟨h,hk,aac h⟩
   ·exact .inl (aab h)
def Jb{l:OpenLaw}{n k:Nat}{q:ZE}{y:Y2}{XP:(Str->Option Value)->Heap->Prop}{S:World->Heap->Prop}{d:DefRec}{K:Params->Frag}{CX:World->wQ}{x:Str}{A:YI}
 (hn:l.most=some n)(U:n<=sizeLine)(W:d.params.defaults=[])(hr:dX k callerA)
 (hY:∀(w:ZH)(h:ZN),S w h->(K w.params).In h)(X:∀(w:ZH)(h:ZN),S w h->∀T∈A,h.get? T=some (tabObj #[]))
 (F:∀(w:ZH)(j:Y1)(C:Zl)(h:ZN),(K w.params).In h->h.Ns mainGlobals j->j d.name=some (.ref C)->∃(N:ZB)(O:Sp),(∀(s:Zp)(u:ZI),BindsTo s N ⟨[u],[]⟩ [(x,u)])/\(∀T∈A,(K w.params).lookup T=none/\∃c,tabIn (K w.params) c=some T)/\(∀(H:Hp)(a:Zl)(D:List Int),D.length<=n->(∀T∈A,H T=some (.tbl #[]))->eY (K w.params) H a (D.map V.int)->O [.ref a] H (λv _=>v=.bl true) λ_ _ _=>False)/\∀b:Heap,(K w.params).In b->b.Ns mainGlobals j->(∀T∈A,b.BuiltinsAt j T/\mainGlobals≠T)->cz l.prog w (K w.params) j b (CX w) k C N [x] O)
 (Z:∀(w:ZH)(H:Hp)(s:Zp)(e:ZI)(M:Zp),CX w [] H s (λ_ _ _=>False) e M->False):
 WalkO q y XP S l.row.toRowW d [] (λf vs=>PySem.call f vs):=by
 refine Att.xg hn W λw aa B j mb C o pm cd ab a vs D G Y ho hd ac J g p i hg=>?_;have P:=hY w _ Y;have Q:=X w _ Y;obtain⟨N,O,hb,ht,R,hF⟩:=F w j C _ P G.T.g J;obtain⟨E,ob,b1,b2,r,b4,b5,I⟩:=G.T.bmain;have gT:∀T∈A,mainGlobals≠T:=λT m q=>by obtain⟨o,es,ep,e,hd,_⟩:=G.T.g;rw[q,Q T m]at e;cases e;cases hd
 have bT:E∉A:=λm=>by rw[Q _ m]at r;cases r;cases b4
 have ba:E≠a:=λq=>by rw[q,g]at r;cases r;cases I
 have bG:E≠mainGlobals:=λq=>by obtain⟨o,es,ep,e,hd,_⟩:=G.T.g;rw[q,e]at r;cases r;rw[hd]at I;cases I
 exact Ed P G.T.g G.T.b G.T.builtins G.T.nolimit hg g p (aah i U) hr (λT m=>⟨Q T m,(ht T m).1,let⟨c,z⟩:=(ht T m).2;⟨c,NQ P z⟩⟩) (λb kb nb L=>hF b kb nb λT m=>⟨⟨E,ob,b1,b2,bG,λq=>bT (q▸m),L _ _ r bT ba,b4,b5,I⟩,gT T m⟩) hb (λH hH hS=>R H a D i hH hS) λH e M=>Z w H B e M
end L2
namespace L2
open PySem PySem.Spec PyProof.Rows
def Dh(I:Inv X c i H s)(e:H a=some (.dK b))(x:y=kV k)(l:b.length<sizeLine)(B:RelV y u)(C:RelV v r)
 (h:∀g,Inv X c i (upd H a (.dK (putK b k v))) g->Q () g):wpAny 00 A (dictSet a u r) Q E s:=by
 subst x;obtain⟨z,hd,vs,f,dd⟩:=yl I.hok e;have n:vs.length<=sizeLine:=by rw[<-f.length];exact z
 have o:(putK b k v).length<=sizeLine:=by have:=lu b k v;omega
 refine wpAny_dictSet_pairs (hsz:=n) (qJ B) dd λj d m=>h _ ?_;have p:∃q,j.get? a=some q:=let⟨q,_,_,w,_⟩:=d;⟨q,w⟩
 exact qu I (by rw[e];exact aaJ) m p (vM o hd (f.put k C) d)
def Bo(J:It)(g:TG)(p:TT)(tk q:TE)(e:Zl)(F:Hp->Prop)(W:Nat->Nat->St->Hp->Prop):Prop:=
 ∀i m j H,W i m j H->(J.stop i H/\F H)\/(J.go i H/\∀x l,J.yld i H x l->g x j l λa n=>p a n λb f=>if b=true then tk a f λy o=>q a o λz h=>∃c k,h e=some (.dK c)/\y=kV k/\c.length<sizeLine/\∃d,d<m/\W (i+1) d a (upd h e (.dK (putK c k z)))else∃d,d<m/\W (i+1) d a f)
def QD(e:TI)(g:TG)(f:TT)(tk h:TE)(k:Nat)(i:List Nat):TE:=λb H Q=>e b H λJ c=>∀a,c a=none->∃W:Nat->Nat->St->Hp->Prop,(∃m,W 0 m (jD k i b) (upd c a (.dK [])))/\
 Bo J g f tk h a (λd=>Q (.ref a) d) W
def zP(W:Nat->Nat->St->Hp->Prop)(p:Bo J g tt tk tv j F W)(T:Turn X.prog X.w X.K tg J fp N O)
 (hg:PG (dR X scope N' f C c d fp) tg g)(hc:oN (dR X scope N' f C c d fp) ifs tt)(hk:PE (dR X scope N' f C c d fp) ke tk)(hv:PE (dR X scope N' f C c d fp) ve tv)(n:X.calm=true)
 (E:∀b∈fp,∀o:Hp,o b=none->jO (dR X scope N' f C c d fp) [] o b)(hR:∀L A o,Inv (dR X scope N' f C c d fp) [] A o L->F o->R (.ok .next) L)
 (I:Inv (dR X scope N' f C c d fp) [] e H s)(st:O 0 s.heap)(fr:∀b∈fp,H b=none)(w0:W 0 m e H):
    codeAny 00 X.A (.compLoop (.DictComp ke ve [⟨tg,iter,ifs,0⟩] scope pos) 0 (.ref N) (.ref j) (compEnvC scope f C X.env)) R s:=
  Gy (Y:=dR X scope N' f C c d fp) (α:=Unit) (a:=()) (B:=λk=>(do
   let D<-eval ke (compEnvC scope f C X.env)
   let M<-holding [D] (eval ve (compEnvC scope f C X.env))
   standAt {ke.pos with endLine:=ve.pos.endLine,endCol:=ve.pos.endCol}
   holding [D,M] (dictSet j D M))>>=λ_=>k) (λ_=>[]) ⟨λ_=>rfl,λ_ _=>rfl⟩ T hg hc n (λ_ _ z=>z) (λ_=>E) (λi m _=>W i m)
   (λi m _ e H=>tk e H λy P=>tv e P λz G=>∃l k,G j=some (.dK l)/\y=kV k/\l.length<sizeLine/\∃r,r<m/\W (i+1) r e (upd G j (.dK (putK l k z)))) (λ_=>True) (λ_=>True)
   (λi m _ e H _ w=>(p i m e H w).imp (λz=>⟨z.1,λs I=>hR s e H I z.2⟩) λz=>⟨z.1,trivial,z.2⟩)
   (λi m _ e H h s _ _ q _ I _ _ _ z=>aaa (aaa (aaF (hk _ s e H _ I q) (λy Q⟨yv,S,U,Z,q8⟩=>aaa (abe (aaF (hv _ Q e S _ U q8) (λy2 s9⟨zv,H9,I9,r9,l,k,e9,ek,hl,r,hm,w9⟩=>aaa (aa4 (abe (Dh (X:=dR X scope N' f C c d fp) I9 e9 ek hl Z r9 λv x=>z v ⟨r,hm,(),e,_,x,trivial,w9⟩)))) λ_ _ z=>z.elim))) λ_ _ z=>z.elim))) I st fr trivial w0
def CG{X:Cx}{scope:ZU}{own:Y2}{H:Hp}{s:Zp}{U:Nat->Heap->Prop}{n:YR}{F:Addr->Hp->Prop}{RR:Value->Addr->Result->Shared->Prop}
 (S:dJ X scope own js N')(B:X.calm=true)(hg:∀n C d f A,PG (dR X scope N' n C d f A) tg g)(hc:∀n C d f A,oN (dR X scope N' n C d f A) ifs tt)(hk:∀n C d f A,PE (dR X scope N' n C d f A) ke tk)(hv:∀n C d f A,PE (dR X scope N' n C d f A) ve tv)
 (P:∀x c,n.lookup x=some c->X.env.cells.lookup x=some c)(Q:∀x,(x,NameKind.free)∈scope.names->∃c,n.lookup x=some c)
 (I:Inv X i O H s)(T:Turn X.prog X.w X.K tg J fp it U)(Y:U 0 s.heap)(Z:∀b∈fp,jO X i H b)
 (hW:∀h,H h=none->∃W:Nat->Nat->St->Hp->Prop,(∃m,W 0 m (jD own.length js O) (upd H h (.dK [])))/\Bo J g tt tk tv h (F h) W)
 (R:∀h C y L m,Inv X i O y L->L.heap.Ns C m->y C=none->C≠X.env.locals->X.s₀.heap.objs.size<=C->(∀x c,X.env.cells.lookup x=some c->c≠C)->(∀p∈X.pn++i,p.1≠C)->F h y->RR (.ref h) C (.ok .next) L):
 wpAny 00 X.A newDict (λh D=>wpAny 00 X.A (newFunctionEnv scope X.env.globals n [] X.env.qual none .none (some X.env)) (λv r=>codeAny 00 X.A (.compStart (.DictComp ke ve [⟨tg,iter,ifs,0⟩] scope pos) 0 (.ref it) h {v with scope:=relabel scope X.env}) (RR h v.locals) r) E D) E s:=by
 refine aa2 ?_;have N:=I.laid (a:=s.heap.objs.size) (o:=.dK []) (t':=s.toks) (h':=s.heap.push {cls:=.type "dict",data:=.dict #[]}) (λ_ _ q=>aaj _ q) 014 (rG s.heap I.big);obtain⟨W,⟨m0,w0⟩,M⟩:=hW _ (I.hok.fresh (aae s.heap.objs.size));have l:∀b∈fp,jO X i (upd H s.heap.objs.size (.dK [])) b:=λb j=>by obtain⟨o,e,_⟩:=T.obj _ _ Y b j;exact⟨by rw[b8 (aar (aak e))];exact(Z b j).1,(Z b j).2⟩
 refine uG (s:={s with heap:=s.heap.push {cls:=.type "dict",data:=.dict #[]}}) (h1:=s.heap.push {cls:=.type "dict",data:=.dict #[]}) S N (λ_ _ e=>e) 014 P Q T (T.keep _ _ _ Y λb j o e=>aaj _ e) l λe r e1 e2 up I1 G fs=>?_;rw[e1,e2];have w:codeAny 00 X.A (.compLoop (.DictComp ke ve [⟨tg,iter,ifs,0⟩] scope pos) 0 (.ref it) (.ref s.heap.objs.size) (compEnvC scope n (s.heap.push {cls:=.type "dict",data:=.dict #[]}).objs.size X.env)) (RR (.ref s.heap.objs.size) (s.heap.push {cls:=.type "dict",data:=.dict #[]}).objs.size) r:=by refine zP W M T (hg _ _ _ _ _) (hc _ _ _ _ _) (hk _ _ _ _ _) (hv _ _ _ _ _) B (λb j=>(fs b j).2) (λL aa y z q=>?_) I1 G (λb j=>(l b j).1) w0;obtain⟨m,hm,_⟩:=z.loc;obtain⟨_,c1,_,_,c4,c5⟩:=N.fpOk (H':=y) 014 z.free;exact R _ _ y L m (N.call' z.os z.base z.hok z.bare λb j=>⟨(l b j).2.2.2.1,(l b j).2.1,(l b j).2.2.2.2.1,(l b j).2.2.2.2.2⟩) hm z.free c1 N.sz c4 c5 q
 exact uY rfl rfl w (T.self _ 0 _ _ _ G w)
open PySem.SeqAt
def Q4{b:Type}{us:List b}(h:us.length=1):∃a,us=[a]:=List.length_eq_one_iff.mp h
theorem J3{c:Type}{us:List c}(h:us.length=2):∃a b,us=[a,b]:=by
 cases us with
 |nil=>cases h
 | cons a r=>obtain⟨b,rfl⟩:=Q4 (us:=r) (by simpa using h);exact⟨a,b,8⟩
theorem I_{d:Type}{us:List d}(h:us.length=3):∃a b c,us=[a,b,c]:=by
 cases us with
 |nil=>cases h
 | cons a r=>obtain⟨b,c,rfl⟩:=J3 (us:=r) (by simpa using h);exact⟨a,b,c,8⟩
theorem Uu{f:Type}{e:List f}(h:e.length=4):∃a b c d,e=[a,b,c,d]:=by
 cases e with
 |nil=>cases h
 | cons a r=>obtain⟨b,c,d,rfl⟩:=I_ (us:=r) (by simpa using h);exact⟨a,b,c,d,8⟩
end L2
namespace L2
open PySem PySem.Spec PyProof.Rows
theorem ur:∀{b:List Int} {c:Y3},Vals (b.map V.int) c->∃a:List (Int×Tok),c=a.map (λp=>Value.int p.1 p.2)/\a.map (·.1)=b
 |[],_,r=>by rw[ab3]at r;cases r;exact⟨[],8,8⟩
 | n::b,_,r=>by
   rw[aay]at r;cases r with
   | cons h t=>obtain⟨tk,rfl⟩:=(show∃t,_=Value.int n t from h);obtain⟨a,d,e⟩:=ur t;exact⟨(n,tk)::a,by rw[d];rfl,by rw[aay,e]⟩
def numAt_eq{b:List (Int×Tok)}{a:List Int}(e:b.map (·.1)=a)(h:i<a.length):numAt b.toArray i=a[i]:=by subst e;unfold numAt;simp at h|-;rw[aaH h];rfl
def Hm{a:List (Int×Tok)}:(a.map (λp=>Value.int p.1 p.2)).toArray=intItems a.toArray:=by unfold intItems;simp
noncomputable def Ac{S:Hp->List V->Prop}{xs:List V}{g:TG}{s:TT}{v:TE}{F:List V->Hp->Prop}{n:St}{w:Hp}(j:Nat->List V->St->Hp->Prop)(B:xs.length<=sizeLine)(C:j 0 [] n w)(o:∀i a c H,i<=xs.length->j i a c H->S H xs)
 (D:∀i x a c H,xs[i]?=some x->j i a c H->∀N:List V->St->Hp->Prop,(∀f m r,j (i+1) f m r->f.length<=a.length+1->N f m r)->g x c H λd z=>s d z λb q=>if b=true then v d q λy A=>N (a++[y]) d A else N a d q)
 (hd:∀a c H,a.length<=xs.length->j xs.length a c H->F a H):CW (Vk S) g s v F n w:=
 uE j B C (λa c H l p=>⟨⟨xs,o _ a c H 014 p,aae _⟩,hd a c H l p⟩) λi a c H h p=>⟨⟨xs,xs[i],o i a c H (aaT h) p,by simp[h]⟩,λx _⟨e,y⟩=>by subst e;exact D i x a c _ (y xs (o i a c _ (aaT h) p)) p⟩
open PySem.SeqAt
def oA(t:TE)(a:St)(H:Hp)(v:V):Prop:=∀Q:VK,Q v H->t a H Q
def yM(t:TT)(a:St)(H:Hp)(b:Bool):Prop:=∀Q:Bool->Hp->Prop,Q b H->t a H Q
def Eu(r:R2)(x y:V)(H:Hp)(v:V):Prop:=∀Q:VK,Q v H->r x y H Q
def oA.var(h:a[i]?=some (some v)):oA (nM i) a H v:=λQ q=>⟨v,h,q⟩
def oA.con:oA (tC v) a H v:=λQ q=>q
def oA.neg(a:oA c b H (.int i)):oA (ZF (rU λi=>.int (-i)) c) b H (.int (-i)):=λQ q=>a _ ⟨i,8,q⟩
def Eu.i0:Eu (Jv g) (.int i) (.int j) H (g i j):=λQ q=>⟨i,j,8,8,q⟩
def yM.test(a:oA t b H (.bl k)):yM (uV t) b H k:=λQ q=>a _ ⟨k,8,q⟩
theorem oA.chain(a:oA l e H x)(b:oA i e H y)(c:oA f e H z)(h:Eu r x y H (.bl k))(d:Eu j y z H (.bl g)):oA (Aa r j l i f) e H (.bl (k&&g)):=λQ q=>a _ (b _ (h _ ⟨k,8,by
 cases k with
 |false=>exact gB rfl q
 |true=>exact iM rfl (c _ (d _ q))⟩))
def yM.not(a:yM t b H k):yM (U8 t) b H (!k):=λQ q=>a _ q
def yM.iff(h:yM t c H k)(q:if k=true then a D c H else b D c H):Kh t a b D c H:=h _ q
theorem mY{f:Nat->Int}{b:List Int}(h:∀i(c:i<b.length),f i=b[i]):∀k,k<=b.length->preSum f k=(b.take k).sum
 |0,_=>rfl
 | k+1,hk=>by have a:k<b.length:=hk;show preSum f k+f k=_;rw[mY h k (aaT a),h k a,aaW,aaH a,List.sum_append];simp
theorem sum_bound:∀{ns:List Int},(∀x∈ns,-B<=x/\x<=B)->0<=B->-(B*ns.length)<=ns.sum/\ns.sum<=B*ns.length
 |[],_,_=>by simp
 | n::ns,h,hB=>by have b:=h n (aan ..);have c:=sum_bound (ns:=ns) (λx a=>h x (aai _ a)) hB;rw[abx,aaz,Int.natCast_succ,Int.mul_add,Int.mul_one];omega
noncomputable def uP{X:Cx}(E:X.calm=true):jJ X (.builtin "sum") (λl H Q=>∃(p:Zl)(a:List Int),l=[.ref p]/\eY X.K H p (a.map V.int)/\a.length<=1000/\(∀x∈a,-10000000000000<=x/\x<=10000000000000)/\Q (.int a.sum) H):=by
 intro o s P H l R Q I r h;obtain⟨p,a,rfl,y,N,n,q⟩:=h;obtain⟨u,rfl,z⟩:=vals1 r;cases(show u=Value.ref p from z);obtain⟨A,C,D,O⟩:=I.list y;obtain⟨g,rfl,e⟩:=ur C;have b:g.length=a.length:=by rw[<-e,aaf]
 have f:=D.isList;rw[Hm]at f;have c:∀i(m:i<a.length),numAt g.toArray i=a[i]:=λi m=>numAt_eq e m;refine sum_intList (I.ok.hd E) f (λj v=>?_) λF tk G k=>?_
 ·have d:j<a.length:=by simpa[b]using v
  rw[c j d,mY c (j+1) d];have J:=n _ (List.getElem_mem d);have L:=sum_bound (B:=10000000000000) (ns:=a.take (j+1)) (λx w=>n x (ac2 w)) 02;have M:(a.take (j+1)).length<=1000:=by rw[aaV];omega
  refine⟨⟨?_,?_⟩,?_,?_⟩<;>omega
 ·have:preSum (numAt g.toArray) g.toArray.size=a.sum:=by rw[aas,b,mY c _ 014,aaQ]
  rw[this];exact⟨.int _,H,I.kept k,⟨9⟩,q⟩
end L2
namespace L2
open PySem PySem.Spec PyProof.Rows
end L2
namespace L2
open PySem
def Ht(c:X.K=K)(d:PE X l a):PI X b l (Ig K a):=by subst c;exact iW d
open PySem.Spec PyProof.Rows PySem.SeqAt
abbrev jM(h:ZN)(z TI TO:Zl)(a:ZI)(b:Bool):Prop:=
 h.get? z=some {cls:=.type "zip",dict:=none,data:=.fields #[a,.bool b,.bool false,.ref TI,.ref TO],slots:=#[]}
section
variable{prog:ZE}{w:ZH}{A:ZO}{E:ZY}{s:Zp}
def DX(h:Q (s.heap.get? a) s):wpAny (model prog w) A (loadIfAlive a) Q E s:=by exactλ_ _ _=>h
def Ip{z TI TO:Zl}{g:ZI}{b:Bool}{Q:Bool->Shared->Prop}(f:jM s.heap z TI TO g b)(l:g=.none\/∃a:Int,g=rawInt a)
 (i:Q true s)(j:∀h,jM h z TI TO g true->Heap.SameBut z s.heap h->Q false {s with heap:=h}):wpAny (model prog w) A (Builtin.SmallTypes.ownedTupleIsFree (.ref z)) Q E s:=by
 unfold Builtin.SmallTypes.ownedTupleIsFree;rcases l with rfl|⟨a,rfl⟩
 ·exact aaa (aaE f rfl (x:=.none) rfl (aad i))
 ·refine aaa (aaE f rfl (x:=rawInt a) rfl ?_);show wpAny _ _ (loadIfAlive a.toNat>>=_) _ _ _;refine aaa (DX ?_);cases hR:s.heap.get? a.toNat with
  |none=>exact aad i
  | some o=>
    show wpAny _ _ (field (.ref z) 1>>=_) _ _ _;refine aaa (aaE f rfl (x:=.bool b) rfl ?_);cases b with
    |true=>exact aad (j s.heap f (Heap.SameBut.refl ..))
    | false=>show wpAny _ _ (setField (.ref z) 1 (.bool true)>>=_) _ _ _;exact aaa (aa9 f 04 λe c d=>aad (j e c d))
structure ZS(h:ZN)(z TI TO i1 i2 a1 a2:Zl)(k1 k2:Nat):Prop where
 zz:∃f0 b,jM h z TI TO f0 b/\(f0=.none\/∃a:Int,f0=rawInt a)
 ti:IsPair h TI (.ref i1) (.ref i2)
 to:∃x y,IsPair h TO x y
 h1:h.IsTupleIter i1 a1 k1
 h2:h.IsTupleIter i2 a2 k2
def iu(x:h.IsTupleIter a l i)(d:Heap.ExtBut c h b)(f:a≠c):b.IsTupleIter a l i:=x.at λo e=>d _ _ f e
def jP(x:h.IsTuple l b)(d:Heap.ExtBut c h a)(f:l≠c):a.IsTuple l b:=let⟨o,e,r⟩:=x;⟨o,d _ _ f e,r⟩
def CP{z TI TO i1 i2 a1 a2:Zl}{k1 k2:Nat}{xs ys:YA}{Q:ZY}(hh:A.handled=none)(D:ZipApart z TI TO i1 i2 a1 a2)(S:ZS s.heap z TI TO i1 i2 a1 a2 k1 k2)
 (t1:s.heap.IsTuple a1 xs)(t2:s.heap.IsTuple a2 ys)(hQ:∀x y,xs[k1]?=some x->ys[k2]?=some y->∀h',ZS h' z TI TO i1 i2 a1 a2 (k1+1) (k2+1)->IsPair h' s.heap.objs.size x y->h'.objs.size=s.heap.objs.size+1->(∀c o,c≠z->c≠TO->c≠i1->c≠i2->s.heap.get? c=some o->h'.get? c=some o)->Q (.ref s.heap.objs.size) {s with heap:=h'})
 (hE:(xs[k1]?=none\/ys[k2]?=none)->∀h' e,(∀c o,c≠z->c≠TO->c≠i1->c≠i2->s.heap.get? c=some o->h'.get? c=some o)->(∃o,h'.get? e=some o/\o.cls=.type "StopIteration")->E (.ref e) {s with heap:=h'}):
 wpAny (model prog w) A (Builtin.«zip.__next__» ⟨[.ref z],[]⟩) (λfin s'=>∃v,fin=.done (.ret v)/\Q v s') E s:=by
 obtain ⟨⟨f0,b,hz,hf⟩,al,⟨a,b',ap⟩,h1,h2⟩:=S;show wpAny _ _ (field (.ref z) 2>>=_) _ _ _;refine aaa (aaE hz rfl (x:=.bool false) rfl ?_);show wpAny _ _ (field (.ref z) 3>>=_) _ _ _;refine aaa (aaE hz rfl (x:=.ref TI) rfl ?_);refine aaa (abI al rfl ?_);show wpAny _ _ (Builtin.SmallTypes.ownedTupleIsFree (.ref z)>>=_) _ _ _;refine aaa (Ip hz hf ?_ λaq ag i=>?_)
 ·simp only [if_true];refine aaa (abu ?_);refine aaa (aaE hz rfl (x:=.ref TO) rfl ?_);refine aaa (aa9 hz 04 λam q j=>?_)
  replace q:jM am z TI TO .ellipsis b:=q
  refine aaa ?_;simp only [List.zipIdx_cons,List.zipIdx_nil,abF,List.forIn_nil];refine aaa (aaa (wpAny_onRaise ?_));show wpAny _ _ (Builtin.SmallTypes.nextOf (.ref i1)>>=_) _ _ _;cases hx:xs[k1]? with
  | none=>
    refine aaa (lF hh (iu h1 j.extBut D.i1z) (jP t1 j.extBut D.l1z) hx λB e d⟨oe,I,W⟩=>?_);have Y:jM B z TI TO .ellipsis b:=d _ _ D.i1z.symm q;have ah:e≠z:=λx=>by subst x;rw [Y]at I;cases I;simp at W
    exact aa9 Y 04 λR _ l=>hE (.inl hx) R e (λc o r _ G _ x=>l.extBut _ _ r (d _ _ G (j.extBut _ _ r x))) ⟨oe,l.extBut _ _ ah I,W⟩
  |some x=>
  refine aaa (mU (iu h1 j.extBut D.i1z) (jP t1 j.extBut D.l1z) hx λB J d=>aad ?_);have T:IsPair B TO a b':=d.extBut _ _ D.TOi1 (j.extBut _ _ D.TOz ap);refine aaa (abI T rfl ?_);refine aaa (wpAny_updateSeq_pair T λR C l=>?_)
  replace C:IsPair R TO x b':=C
  refine aaa (wpAny_letGo (aad ?_));refine aaa (aaa (wpAny_onRaise ?_));show wpAny _ _ (Builtin.SmallTypes.nextOf (.ref i2)>>=_) _ _ _;have I2:=iu (iu (iu h2 j.extBut D.i2z) d.extBut D.i12.symm) l.extBut D.TOi2.symm;have T2:=jP (jP (jP t2 j.extBut D.l2z) d.extBut D.l2i1) l.extBut D.l2TO;have up:∀c o,c≠z->c≠TO->c≠i1->s.heap.get? c=some o->R.get? c=some o:=λc o r U G e=>l.extBut _ _ U (d.extBut _ _ G (j.extBut _ _ r e));cases hy:ys[k2]? with
  | none=>
    refine aaa (lF hh I2 T2 hy λg e f⟨oe,I,W⟩=>?_);have F:jM g z TI TO .ellipsis b:=f _ _ D.i2z.symm (l.extBut _ _ D.TOz.symm (d.extBut _ _ D.i1z.symm q));have ah:e≠z:=λx=>by subst x;rw [F]at I;cases I;simp at W
    exact aa9 F 04 λh _ m=>hE (.inr hy) h e (λc o r U G X x=>m.extBut _ _ r (f _ _ X (up c o r U G x))) ⟨oe,m.extBut _ _ ah I,W⟩
  |some y=>
  refine aaa (mU I2 T2 hy λg L f=>aad ?_);have p:IsPair g TO x b':=f.extBut _ _ D.TOi2 C;refine aaa (abI p rfl ?_);refine aaa (wpAny_updateSeq_pair p λh n m=>?_)
  replace n:IsPair h TO x y:=n
  refine aaa (wpAny_letGo (aad (aad ?_)));refine aaa (abI n rfl ?_);refine aaa (wpAny_newTuple ?_);have Z:h.objs.size=s.heap.objs.size:=by rw [m.1,f.1,l.1,d.1,j.1]
  have aa:jM h z TI TO .ellipsis b:=m.extBut _ _ D.TOz.symm (f.extBut _ _ D.i2z.symm (l.extBut _ _ D.TOz.symm (d.extBut _ _ D.i1z.symm q)));have ab:∀c o,c≠z->c≠TO->c≠i1->c≠i2->s.heap.get? c=some o->h.get? c=some o:=λc o r U G X e=>m.extBut _ _ U (f.extBut _ _ X (up c o r U G e));have ai:h.IsTupleIter i1 a1 (k1+1):=iu (iu (iu J l.extBut D.TOi1.symm) f.extBut D.i12) m.extBut D.TOi1.symm;have aj:h.IsTupleIter i2 a2 (k2+1):=iu L m.extBut D.TOi2.symm;have af:z<h.objs.size:=aak aa;show wpAny _ _ (Builtin.SmallTypes.ownedTupleHandOut (.ref z) (.ref h.objs.size)>>=_) _ _ _;refine aaa ?_;unfold Builtin.SmallTypes.ownedTupleHandOut;have ak:jM (h.push {cls:=.type "tuple",data:=.seq #[x,y]}) z TI TO .ellipsis b:=aaj _ aa;refine aaa (aa9 ak 04 λao M N=>?_)
  replace M:jM ao z TI TO (rawInt h.objs.size) b:=M
  refine aa9 M 04 λH O P=>?_
  replace O:jM H z TI TO (rawInt h.objs.size) false:=O
  have up:∀c o,c≠z->h.get? c=some o->H.get? c=some o:=λc o r e=>P.extBut _ _ r (N.extBut _ _ r (aaj _ e));have ac:IsPair H h.objs.size x y:=P.extBut _ _ (abA af) (N.extBut _ _ (abA af) (aav _ rfl));have ad:H.objs.size=h.objs.size+1:=by rw [P.1,N.1,aaY]
  rw [Z]at ac ad;refine aad ⟨9,?_⟩;show Q (.ref h.objs.size) _;rw [Z];exact hQ x y hx hy H ⟨⟨_,_,O,.inr ⟨9⟩⟩,up _ _ D.TIz (ab _ _ D.TIz D.TITO D.TIi1 D.TIi2 al),⟨_,_,up _ _ D.TOz n⟩,ai.at λo e=>up _ o D.i1z e,aj.at λo e=>up _ o D.i2z e⟩ ac ad λc o r U G X e=>up c o r (ab c o r U G X e)
 ·simp only [abp,if_false];rw [<-Array.forIn_toList];simp only [abF,List.forIn_nil];refine aaa (aaa (aaa (abe ?_)));show wpAny _ _ (Builtin.SmallTypes.nextOf (.ref i1)>>=_) _ _ _;cases hx:xs[k1]? with
  |none=>exact aaa (lF hh (iu h1 i.extBut D.i1z) (jP t1 i.extBut D.l1z) hx λB e d he=>hE (.inl hx) B e (λc o r _ G _ x=>d _ _ G (i.extBut _ _ r x)) he)
  |some x=>
  refine aaa (mU (iu h1 i.extBut D.i1z) (jP t1 i.extBut D.l1z) hx λB J d=>aad (aad ?_));dsimp only;refine aaa (aaa (abe ?_));show wpAny _ _ (Builtin.SmallTypes.nextOf (.ref i2)>>=_) _ _ _;have I2:=iu (iu h2 i.extBut D.i2z) d.extBut D.i12.symm;have T2:=jP (jP t2 i.extBut D.l2z) d.extBut D.l2i1;cases hy:ys[k2]? with
  |none=>exact aaa (lF hh I2 T2 hy λg e f he=>hE (.inr hy) g e (λc o r U G X x=>f _ _ X (d.extBut _ _ G (i.extBut _ _ r x))) he)
  |some y=>
  refine aaa (mU I2 T2 hy λg L f=>aad (aad ?_));dsimp only;refine aad ?_;dsimp only;refine aaa (wpAny_newTuple ?_ 01);have Z:g.objs.size=s.heap.objs.size:=by rw [f.1,d.1,i.1]
  have ae:∀c o,c≠z->c≠TO->c≠i1->c≠i2->s.heap.get? c=some o->g.get? c=some o:=λc o r U G X e=>f.extBut _ _ X (d.extBut _ _ G (i.extBut _ _ r e));have F:jM g z TI TO f0 true:=f.extBut _ _ D.i2z.symm (d.extBut _ _ D.i1z.symm ag);have up:∀c o,g.get? c=some o->(g.push {cls:=.type "tuple",data:=.seq #[x,y]}).get? c=some o:=λc o e=>aaj _ e;refine aad ⟨9,?_⟩;show Q (.ref g.objs.size) _;have hT:IsPair (g.push {cls:=.type "tuple",data:=.seq #[x,y]}) g.objs.size x y:=aav _ rfl;have ad:(g.push {cls:=.type "tuple",data:=.seq #[x,y]}).objs.size=g.objs.size+1:=aaY ..;rw [Z]at hT ad;rw [Z];have p:IsPair g TO a b':=f.extBut _ _ D.TOi2 (d.extBut _ _ D.TOi1 (i.extBut _ _ D.TOz ap));exact hQ x y hx hy _ ⟨⟨_,_,up _ _ F,hf⟩,up _ _ (ae _ _ D.TIz D.TITO D.TIi1 D.TIi2 al),⟨_,_,up _ _ p⟩,(iu J f.extBut D.i12).at λo e=>up _ o e,L.at λo e=>up _ o e⟩ hT ad λc o r U G X e=>up c o (ae c o r U G X e)
def Nb{z TI TO g h d f:Zl}{i k2:Nat}{j l:YA}{Q:ZY}(B:A.handled=none)(D:ZipApart z TI TO g h d f)(S:ZS s.heap z TI TO g h d f i k2)
 (C:s.heap.IsTuple d j)(G:s.heap.IsTuple f l)(H:∀x y,j[i]?=some x->l[k2]?=some y->∀a,ZS a z TI TO g h d f (i+1) (k2+1)->IsPair a s.heap.objs.size x y->a.objs.size=s.heap.objs.size+1->(∀c o,c≠z->c≠TO->c≠g->c≠h->s.heap.get? c=some o->a.get? c=some o)->Q (.ref s.heap.objs.size) {s with heap:=a})
 (I:(j[i]?=none\/l[k2]?=none)->∀a e,(∀c o,c≠z->c≠TO->c≠g->c≠h->s.heap.get? c=some o->a.get? c=some o)->(∃o,a.get? e=some o/\o.cls=.type "StopIteration")->E (.ref e) {s with heap:=a}):wpAny (model prog w) A (Builtin.SmallTypes.nextOf (.ref z)) Q E s:=by
 obtain⟨J,b,v,_⟩:=S.zz;have m:s.TypeIs (.ref z) "zip":=⟨_,v,8⟩;unfold Builtin.SmallTypes.nextOf;exact aaa (wpAny_callSpecial?_slot (name:=Str.ofString "__next__") m F.slot_zip_next (abf F.slot_zip_next m F.entry_zip_next (CP (A:=A.in1) B D S C G (λx y n p a d f q r=>aad (H x y n p a d f q r)) I) (F.args_zip_next_1 _)))
def CN{e N:Zl}{i:Nat}{I:ZI}{Q:ZY}(he:IsEnum s.heap e N i I)
 (U:wpAny (model prog w) A (Builtin.SmallTypes.nextOf (.ref N)) (λx O=>∃a tk,O={s with heap:=a,toks:=tk}/\IsEnum a e N i I/\∀W,IsEnumOut W e N ((i:Int)+1) x a.objs.size->W.get? a.objs.size=some {cls:=.type "tuple",data:=.seq #[.int i tk,x]}->(∀b o,b≠e->a.get? b=some o->W.get? b=some o)->Q (.ref a.objs.size) {s with heap:=W,toks:=tk+1}) E s):
 wpAny (model prog w) A (Builtin.«enumerate.__next__» ⟨[.ref e],[]⟩) (λX s'=>∃v,X=.done (.ret v)/\Q v s') E s:=by
 obtain⟨hp,g,d,Z,R⟩:=s;show wpAny _ _ (field (.ref e) 2>>=_) _ _ _;refine aaa (aaE he rfl (x:=.ref N) rfl ?_);refine aaa (aaF U (λx O hx=>?_) λ_ _ z=>z);obtain⟨a,tk,rfl,D,hQ⟩:=hx;show wpAny _ _ (field (.ref e) 3>>=_) _ _ ⟨a,g,d,tk,R⟩;refine aaa (aaE D rfl (x:=rawInt i) rfl ?_);show wpAny _ _ (field (.ref e) 4>>=_) _ _ ⟨a,g,d,tk,R⟩;refine aaa (aaE D rfl (x:=.none) rfl ?_);show wpAny _ _ (mkInt i>>=_) _ _ ⟨a,g,d,tk,R⟩;refine aaa (wpAny_mkInt ?_);show wpAny _ _ (setField (.ref e) 3 (rawInt ((i:Int)+1))>>=_) _ _ ⟨a,g,d,tk+1,R⟩;refine aaa (aa9 D 04 λF m f=>?_)
 replace f:Heap.SameBut e a F:=f
 replace m:IsEnum F e N ((i:Int)+1) I:=m
 show wpAny _ _ (setField (.ref e) 4 .none>>=_) _ _ ⟨F,g,d,tk+1,R⟩;refine aaa (aa9 m 04 λc h j=>?_)
 replace j:Heap.SameBut e F c:=j
 replace h:IsEnum c e N ((i:Int)+1) I:=h
 show wpAny _ _ (newTuple [.int i tk,x]>>=_) _ _ ⟨c,g,d,tk+1,R⟩;refine aaa (wpAny_newTuple ?_);have l:IsEnum (c.push {cls:=.type "tuple",data:=.seq #[.int i tk,x]}) e N ((i:Int)+1) I:=aaj _ h;have Y:c.objs.size=a.objs.size:=by rw[j.1,f.1]
 have C:(c.push {cls:=.type "tuple",data:=.seq #[.int i tk,x]}).get? c.objs.size=some {cls:=.type "tuple",data:=.seq #[.int i tk,x]}:=aav _ rfl;have M:∀b o,b≠e->a.get? b=some o->(c.push {cls:=.type "tuple",data:=.seq #[.int i tk,x]}).get? b=some o:=λb o S P=>aaj _ (j.extBut b o S (f.extBut b o S P));have T:e<c.objs.size:=aak h;generalize c.push {cls:=.type "tuple",data:=.seq #[.int i tk,x]}=H at l C M;rw[Y]at C T|-;show wpAny _ _ (Builtin.SmallTypes.ownedTupleIsFree (.ref e)>>=_) _ _ ⟨H,g,d,tk+1,R⟩;refine aaa ?_;unfold Builtin.SmallTypes.ownedTupleIsFree;refine aaa (aaE l rfl (x:=.none) rfl (aad ?_));simp only[if_true];refine aaa (abu ?_);show wpAny _ _ (field (.ref e) 5>>=_) _ _ _;refine aaa (aaE l rfl (x:=I) rfl ?_);show wpAny _ _ (setField (.ref e) 5 x>>=_) _ _ ⟨H,g,d,tk+1,R⟩;refine aaa (aa9 l 04 λJ n p=>?_)
 replace n:IsEnum J e N ((i:Int)+1) x:=n
 replace p:Heap.SameBut e H J:=p
 show wpAny _ _ (Builtin.SmallTypes.ownedTupleHandOut (.ref e) (.ref a.objs.size)>>=_) _ _ _;refine aaa ?_;unfold Builtin.SmallTypes.ownedTupleHandOut;refine aaa (aa9 n 04 λL q r=>?_)
 replace r:Heap.SameBut e J L:=r
 replace q:IsEnumOut L e N ((i:Int)+1) x a.objs.size:=q
 refine aa9 q 04 λG y B=>?_
 replace B:Heap.SameBut e L G:=B
 replace y:IsEnumOut G e N ((i:Int)+1) x a.objs.size:=y
 refine aaa (wpAny_letGo (aad ⟨9,?_⟩));have up:∀b o,b≠e->H.get? b=some o->G.get? b=some o:=λb o P z=>B.extBut b o P (r.extBut b o P (p.extBut b o P z));exact hQ G y (up _ _ (abA T) C) λb o P z=>up b o P (M b o P z)
end
abbrev Wz(h:ZN)(a:Zl):Heap:=h.push {cls:=.type "tuple_iterator",data:=.fields #[.ref a,.int 0 0]}
abbrev WQ(h:ZN)(a b:Zl):Heap:=(Wz h a).push {cls:=.type "tuple_iterator",data:=.fields #[.ref b,.int 0 0]}
abbrev X5(h:ZN)(a b:Zl):Heap:=(WQ h a b).push {cls:=.type "tuple",data:=.seq #[.ref h.objs.size,.ref (Wz h a).objs.size]}
abbrev WX(h:ZN)(a b:Zl):Heap:=(X5 h a b).push {cls:=.type "tuple",data:=.seq #[.none,.none]}
abbrev Rf(h:ZN)(a b:Zl):Heap:=(WX h a b).push {cls:=.type "zip",data:=.fields #[.none,.bool false,.bool false,.ref (WQ h a b).objs.size,.ref (X5 h a b).objs.size]}
def Hq(a b:Zl)(q v:YA):
 Meets (Builtin.«zip.__new__» ⟨[.type "zip",.ref a,.ref b],[]⟩) (λ_ R s=>s.heap.IsTuple a q/\s.heap.IsTuple b v/\R (.ok (.ret (.ref (WX s.heap a b).objs.size))) {s with heap:=Rf s.heap a b}):=
 .of_wp λl w A R s h=>by
  obtain⟨n,g,d,tk,p⟩:=s;obtain⟨i,j,h⟩:=h;have m:=sub_zip;have c:Heap.IsTuple (Shared.heap ⟨n,g,d,tk,p⟩) a q:=i;have f:Heap.IsTuple (Shared.heap ⟨n.push {cls:=.type "tuple_iterator",data:=.fields #[.ref a,.int 0 0]},g,d,tk,p⟩) b v:=let⟨o,e,r⟩:=j;⟨o,aaj _ e,r⟩
  wp_walk using abY c,abY f
  exact⟨9,h⟩
def CV(f:s.heap.IsTuple a m)(g:s.heap.IsTuple b n)
 (h:∀d,jM d (s.heap.objs.size+4) (s.heap.objs.size+2) (s.heap.objs.size+3) .none false->IsPair d (s.heap.objs.size+2) (.ref s.heap.objs.size) (.ref 002)->IsPair d (s.heap.objs.size+3) .none .none->d.IsTupleIter s.heap.objs.size a 0->d.IsTupleIter 002 b 0->d.objs.size=s.heap.objs.size+5->(∀c o,s.heap.get? c=some o->d.get? c=some o)->Q (.ref (s.heap.objs.size+4)) {s with heap:=d}):
 wpAny (model q w) A (call (.type "zip") [.ref a,.ref b]) Q E s:=by
 refine callType_new F.called_zip 02 (F.typeCall_zip_2 _ _) (F.newCall_zip_2 _ _) (λobj=>F.args_object_init_3 obj _ _) F.entry_zip_new
  (Hq a b m n) ⟨f,g,?_⟩;have z1:(Wz s.heap a).objs.size=s.heap.objs.size+1:=aaY ..;have z2:(WQ s.heap a b).objs.size=s.heap.objs.size+2:=by rw[aaY,z1]
 have z3:(X5 s.heap a b).objs.size=s.heap.objs.size+3:=by rw[aaY,z2]
 have z4:(WX s.heap a b).objs.size=s.heap.objs.size+4:=by rw[aaY,z3]
 have z5:(Rf s.heap a b).objs.size=s.heap.objs.size+5:=by rw[aaY,z4]
 have e:(Rf s.heap a b).get? (WX s.heap a b).objs.size=some _:=aav _ rfl;have i:(Rf s.heap a b).get? (X5 s.heap a b).objs.size=some _:=aaj _ (aav _ rfl);have j:(Rf s.heap a b).get? (WQ s.heap a b).objs.size=some _:=aaj _ (aaj _ (aav _ rfl));have l:(Rf s.heap a b).get? (Wz s.heap a).objs.size=some _:=aaj _ (aaj _ (aaj _ (aav _ rfl)));have p:(Rf s.heap a b).get? s.heap.objs.size=some _:=aaj _ (aaj _ (aaj _ (aaj _ (aav _ rfl))));show _/\_;rw[z2,z3,z4]at e;rw[z1,z2]at j;rw[z3]at i;rw[z1]at l;rw[z4];exact⟨⟨_,e,8⟩,h _ e j i ⟨_,p,8,8⟩ ⟨_,l,8,8⟩ z5 λc o x=>aaj _ (aaj _ (aaj _ (aaj _ (aaj _ x))))⟩
noncomputable def uM{s:Zp}{z TI TO:Zl}{c:ZI}{b:Bool}{Q:ZY}(d:jM s.heap z TI TO c b)(h:Q (.ref z) s):wpAny (model e w) A (pyIter (.ref z)) Q E s:=by have a:s.TypeIs (.ref z) "zip":=⟨_,d,8⟩;refine wpAny_pyIter_slot a F.slot_zip_iter (abf F.slot_zip_iter a F.entry_zip_iter ?_ (F.args_zip_iter_1 _));show wpAny _ _ (ret (.ref z)) _ _ s;exact aad ⟨9,"zip",_,a,F.slot_zip_next.lookup,h⟩
set_option tactic.hygienic true in
def Dw(z TI TO:Zl):
 Meets (Builtin.«enumerate.__new__» ⟨[.type "enumerate",.ref z],[]⟩) (λ_ R s=>jM s.heap z TI TO .none false/\R (.ok (.ret (.ref s.heap.objs.size))) {s with heap:=s.heap.push {cls:=.type "enumerate",data:=.fields #[.none,.bool false,.ref z,rawInt 0,.none,.none]}}):=
 .of_wp λb w A R s h=>by
  obtain⟨i,g,d,tk,j⟩:=s;obtain⟨a,h⟩:=h;have e:=sub_enumerate;have f:jM (Shared.heap ⟨i,g,d,tk,j⟩) z TI TO .none false:=a
  wp_walk using abK a
  refine wpAny_stack_any λl=>aad ?_;split
  ·rename_i c _ _ _ _ _;cases(c==Value.type "enumerate")<;>(wp_walk using abK a,uM f;exact⟨9,h⟩)
  ·wp_walk using abK a,uM f
   exact⟨9,h⟩
def zJ{a:ZE}{w:ZH}{A:ZO}{E:ZY}{s:Zp}{z TI TO:Zl}{Q:ZY}(d:jM s.heap z TI TO .none false)
 (h:∀g,IsEnum g s.heap.objs.size z 0 .none->(∀b o,s.heap.get? b=some o->g.get? b=some o)->Q (.ref s.heap.objs.size) {s with heap:=g}):wpAny (model a w) A (call (.type "enumerate") [.ref z]) Q E s:=by
 refine callType_new F.called_enumerate 02 (F.typeCall_enumerate_1 _) (F.newCall_enumerate_1 _) (λobj=>F.args_object_init_2 obj _) F.entry_enumerate_new (Dw z TI TO) ⟨d,?_⟩;have c:=aav s.heap (o:={cls:=.type "enumerate",data:=.fields #[.none,.bool false,.ref z,rawInt 0,.none,.none]}) rfl;exact⟨⟨_,c,8⟩,h _ c λb o x=>aaj _ x⟩
def YQ(K:Zs)(c d:Zl):It:=
 ⟨λi H=>∃a b x y,e_ K H c a/\e_ K H d b/\a[i]?=some x/\b[i]?=some y,λi H v e=>∃q p x y,H q=none/\upd H q (.tup [x,y]) p=none/\v=.ref p/\(∀a,e_ K H c a->a[i]?=some x)/\(∀b,e_ K H d b->b[i]?=some y)/\e=upd (upd H q (.tup [x,y])) p (.tup [.int i,.ref q]),λi H=>∃a b,e_ K H c a/\e_ K H d b/\(a.length<=i\/b.length<=i)⟩
structure vG(e z TI TO i1 i2:Zl):Prop where
 ez:e≠z
 eTI:e≠TI
 eTO:e≠TO
 e1:e≠i1
 e2:e≠i2
 TIz:TI≠z
 TOz:TO≠z
 i1z:i1≠z
 i2z:i2≠z
 TITO:TI≠TO
 TIi1:TI≠i1
 TIi2:TI≠i2
 TOi1:TO≠i1
 TOi2:TO≠i2
 i12:i1≠i2
abbrev EZ(e z TI TO b c d f:Zl)(i:Nat)(h:ZN):Prop:=(∃a,IsEnum h e z i a)/\ZS h z TI TO b c d f i i
def EZ.obj{e z TI TO f g s w:Zl}{i:Nat}{h:ZN}(A:EZ e z TI TO f g s w i h):∀b∈[e,z,TI,TO,f,g],∃o,h.get? b=some o/\∀v,o.data≠.cell v:=by
 obtain⟨⟨j,l⟩,⟨B,C,m,_⟩,a,⟨x,y,c⟩,⟨o1,n,_,p⟩,⟨D,q,_,r⟩⟩:=A;intro b d;simp only[aag,aba,or_false]at d;rcases d with rfl|rfl|rfl|rfl|rfl|rfl
 ·exact⟨_,l,λv z=>by cases z⟩
 ·exact⟨_,m,λv z=>by cases z⟩
 ·exact⟨_,a,λv z=>by cases z⟩
 ·exact⟨_,c,λv z=>by cases z⟩
 ·exact⟨_,n,λv z=>by rw[p]at z;cases z⟩
 ·exact⟨_,q,λv z=>by rw[r]at z;cases z⟩
noncomputable def ZS.keep{z TI TO d f g j:Zl}{i:Nat}{h l:ZN}(v:ZS h z TI TO d f g j i i)(k:∀b∈[z,TI,TO,d,f],∀o,h.get? b=some o->l.get? b=some o):ZS l z TI TO d f g j i i:=by obtain⟨⟨m,n,p,q⟩,a,⟨x,y,c⟩,r,s⟩:=v;exact⟨⟨m,n,k _ 04 _ p,q⟩,k _ 04 _ a,⟨x,y,k _ 04 _ c⟩,r.at λo e=>k _ 04 _ e,s.at λo e=>k _ 04 _ e⟩
def ZS.obj{z TI TO d e n p:Zl}{i j:Nat}{h:ZN}(q:ZS h z TI TO d e n p i j):∀b∈[z,TO,d,e],∃o,h.get? b=some o:=by
 obtain⟨⟨r,s,f,_⟩,g,⟨x,y,a⟩,⟨o1,l,_,v⟩,⟨w,m,_,A⟩⟩:=q;intro b c;simp only[aag,aba,or_false]at c;rcases c with rfl|rfl|rfl|rfl
 ·exact⟨_,f⟩
 ·exact⟨_,a⟩
 ·exact⟨_,l⟩
 ·exact⟨_,m⟩
def Gx(I:Inv X c g H s)(j:e_ X.K H a i)(d:jO X c H b):a≠b:=by
 rintro rfl;rcases j with h|⟨o,f,n,hk,_⟩
 ·rcases h with h|⟨u,h⟩
  ·rw[d.1]at h;cases h
  ·rw[d.1]at h;cases h
 ·have e:=I.ok.mod.kin _ _ hk;rcases d.2.2.2.1 with z|z
  ·exact I.ok.noex _ _ e z
  ·exact absurd (aak (I.ok.bs _ _ e).1) (Nat.not_lt.mpr z)
noncomputable def Inv.turnedN{X:Cx}{a:YN}{g:St}{H:Hp}{s:Zp}{h:ZN}{A:Nat}{fp:YI}(I:Inv X a g H s)(k:∀b u,b∉fp->s.heap.get? b=some u->h.get? b=some u)(f:∀b∈fp,jO X a H b):Inv X a g H {s with heap:=h,toks:=A}:=by
 have off:∀b u,H b=some u->b∉fp:=λb u e z=>by rw[(f b z).1]at e;cases e
 refine I.step (g':=s.gens) (d':=s.drawn) (ch:=fp) (λb i=>?_) (λb u _ _ d e _=>k b u d e) (λb u _ _ d e _=>⟨u.slots,k b u d e⟩) (λ_ _ _ _ n=>n) (λb u d e=>⟨u,k b u d e⟩) (λ_ _ e=>e) (λ_ _ _ e=>e) (λb B e=>⟨#[],by rw[e];simp⟩) (λm j=>?_) (λb u e=>?_) I.bare
 ·obtain⟨_,l,_,o,p,w⟩:=f b i;exact⟨o,l,p,w⟩
 ·obtain⟨u,x,y,ho,r⟩:=j;exact⟨u,x,y,k _ u (λz=>(f _ z).2.1 rfl) ho,r⟩
 ·refine(I.hok b u e).stay (λc v d q=>k c v ?_ q) (λc q=>q) λc C q=>q;rcases d with rfl|z
  ·exact off _ u e
  ·exact off c _ z
def jO.upd(h:jO X c H b)(ne:b≠a):jO X c (upd H a o) b:=⟨by rw[b8 ne];exact h.1,h.2⟩
noncomputable def vG.zip{X:Cx}{a:YN}{r:St}{H:Hp}{s:Zp}{f g e z TI TO c d:Zl}{v w:List V}(D:vG e z TI TO c d)(I:Inv X a r H s)(q:∀b∈[e,z,TI,TO,c,d],jO X a H b)(h:e_ X.K H f v)(i:e_ X.K H g w):ZipApart z TI TO c d f g:=by have p:∀b∈[e,z,TI,TO,c,d],f≠b/\g≠b:=λb j=>⟨Gx I h (q b j),Gx I i (q b j)⟩;simp only[aag,aba,or_false,forall_eq_or_imp,forall_eq]at p;obtain⟨_,l,_,m,n,o⟩:=p;exact⟨D.TIz,D.TOz,D.i1z,D.i2z,D.TITO,D.TIi1,D.TIi2,D.TOi1,D.TOi2,D.i12,l.1,m.1,n.1,o.1,l.2,m.2,n.2,o.2⟩
def zZ{P:ZE}{w:ZH}{K:Zs}{elts:YU}{k1}{pos:Pos}(a1 a2 e z TI TO B C:Zl)(D:vG e z TI TO B C):
 Turn P w K (.Tuple elts k1 pos) (YQ K a1 a2) [e,z,TI,TO,B,C] e (EZ e z TI TO B C a1 a2)where
 mem:=by simp
 obj:=λi h v b a=>v.obj b a
 keep:=λi h h' v k=>⟨let⟨n,h1⟩:=v.1;⟨n,k e 04 _ h1⟩,v.2.keep λb a o z=>k b (aai _ a) o z⟩
 item:=by
  intro X hP hw hK hc i p s σ H E I M v hg;subst hP hw hK;obtain⟨xs,ys,x,y,j,l,hx,hy⟩:=hg;obtain⟨d,R,p1,_⟩:=I.tuple j;obtain⟨f,U,p2,_⟩:=I.tuple l;obtain⟨u1,hu1,ae⟩:=R.get hx;obtain⟨u2,af,ag⟩:=U.get hy;have t1:s.heap.IsTuple a1 d.toArray:=p1;have t2:s.heap.IsTuple a2 f.toArray:=p2;obtain⟨⟨n,G⟩,S⟩:=v;have free:∀b∈[e,z,TI,TO,B,C],H b=none:=λb a=>(M b a).1;have ZA:=D.zip I M j l;have Z:s.TypeIs (.ref e) "enumerate":=⟨_,G,8⟩;unfold pyNext;refine aaa (wpAny_attempt (wpAny_callSpecial?_slot (name:=Str.ofString "__next__") Z acD (abf acD Z F.entry_enumerate_next (CN G ?_) (F.args_enumerate_next_1 _))));have q1:d.toArray[i]?=some u1:=by simpa using hu1
  have q2:f.toArray[i]?=some u2:=by simpa using af
  refine Nb (I.ok.hd hc) ZA S t1 t2 (λx' y' e1 e2 c J N O m=>?_) λz=>by rcases z with z|z<;>simp_all
  obtain rfl:=aaO (q1.symm.trans e1);obtain rfl:=aaO (q2.symm.trans e2);have Q:IsEnum c e z i n:=m _ _ D.ez D.eTO D.e1 D.e2 G;refine⟨c,s.toks,8,Q,λh' ho ht W=>aad ⟨9,?_⟩⟩;have lt:∀b∈[e,z,TI,TO,B,C],b<s.heap.objs.size:=λb a=>by obtain⟨o,z',_⟩:=EZ.obj (⟨⟨n,G⟩,S⟩:EZ e z TI TO B C a1 a2 i s.heap) b a;exact aak z'
  have I1:Inv X p σ (upd H s.heap.objs.size (.tup [x,y])) {s with heap:=c,toks:=s.toks}:=by
   refine I.turnLaid (fp:=[z,TO,B,C]) (λb o a q=>m b o (λr=>a (by simp[r])) (λr=>a (by simp[r])) (λr=>a (by simp[r])) (λr=>a (by simp[r])) q) (λb a=>?_) (λb a=>M b ?_) 014 ?_
   ·exact J.obj b a
   ·simp at a|-;rcases a with h|h|h|h<;>simp[h]
   ·exact⟨by show 2<=sizeLine;decide,[u1,u2],.cons ae (.cons ag .nil),⟨_,N,8,9⟩⟩
  have aa:∀b∈[e,z,TI,TO,B,C],(upd H s.heap.objs.size (.tup [x,y])) b=none:=λb a=>by rw[b8 (aar (lt b a))];exact free b a
  have ad:(upd H s.heap.objs.size (.tup [x,y])) c.objs.size=none:=I1.hok.fresh 014;have I2:Inv X p σ (upd (upd H s.heap.objs.size (.tup [x,y])) c.objs.size (.tup [.int i,.ref s.heap.objs.size])) {s with heap:=h',toks:=s.toks+1}:=by
   refine Inv.turnLaid (s:={s with heap:=c,toks:=s.toks}) (fp:=[e]) I1 (λb o a q=>W b o (λr=>a (by simp[r])) q) (λb a=>?_) (λb a=>?_) 014 ?_
   ·cases aal.mp a;exact⟨_,ho⟩
   ·cases aal.mp a;exact(M e 04).upd (aar (lt e 04))
   ·exact⟨by show 2<=sizeLine;decide,[.int i s.toks,.ref s.heap.objs.size],.cons ⟨9⟩ (.cons rfl .nil),⟨_,ht,8,9⟩⟩
  have L:∀b∈[e,z,TI,TO,B,C],(upd (upd H s.heap.objs.size (.tup [x,y])) c.objs.size (.tup [.int i,.ref s.heap.objs.size])) b=none:=λb a=>by rw[b8 (aar (aat (lt b a) (by rw[O];exact abd _)))];exact aa b a
  refine wpAny_letOwnedTupleGo_enum ho λg2 ab Y=>?_;obtain⟨f0,f1,f2,f3,f4,f5⟩:=M e 04;refine⟨.ref c.objs.size,_,I2.turned (t':=s.toks+1) (λb o a q=>(Y.2 b a).trans q) (L e 04) f1 f3 f4 f5,8,⟨s.heap.objs.size,c.objs.size,x,y,I.hok.fresh 014,ad,8,λzs hz=>by rw[I.tuple_inj hz j];exact hx,λzs hz=>by rw[I.tuple_inj hz l];exact hy,8⟩,⟨⟨_,by simpa using ab⟩,?_⟩,L⟩;refine J.keep λb a o q=>?_;have be:b≠e:=by
   simp only[aag,aba,or_false]at a;rcases a with rfl|rfl|rfl|rfl|rfl
   ·exact D.ez.symm
   ·exact D.eTI.symm
   ·exact D.eTO.symm
   ·exact D.e1.symm
   ·exact D.e2.symm
  exact(Y.2 b be).trans (W b o be q)
 done:=by intro X hP hw hK hc i p s σ H E I M v hg;subst hP hw hK;obtain⟨xs,ys,j,l,ai⟩:=hg;obtain⟨d,R,p1,_⟩:=I.tuple j;obtain⟨f,U,p2,_⟩:=I.tuple l;have t1:s.heap.IsTuple a1 d.toArray:=p1;have t2:s.heap.IsTuple a2 f.toArray:=p2;obtain⟨⟨n,G⟩,S⟩:=v;have l1:=R.length;have l2:=U.length;have ZA:=D.zip I M j l;have Z:s.TypeIs (.ref e) "enumerate":=⟨_,G,8⟩;unfold pyNext;refine aaa (wpAny_attempt (wpAny_callSpecial?_slot (name:=Str.ofString "__next__") Z acD (abf acD Z F.entry_enumerate_next ?_ (F.args_enumerate_next_1 _))));show wpAny _ _ (field (.ref e) 2>>=_) _ _ _;refine aaa (aaE G rfl (x:=.ref z) rfl (aaa (Nb (A:=X.A.in1) (I.ok.hd hc) ZA S t1 t2 (λ_ _ e1 e2=>by simp at e1 e2;have:=(aaD.mp e1).1;have:=(aaD.mp e2).1;omega) λ_ g x' hk ac=>?_)));obtain⟨o,ho,ah⟩:=ac;refine aaa (wpAny_isInstance (T:="StopIteration") (b:=true) ⟨o,ho,ah⟩ isSubtype_stop (aad ⟨8,?_⟩));exact I.turnedN (fp:=[z,TO,B,C]) (λb o a q=>hk b o (λr=>a (by simp[r])) (λr=>a (by simp[r])) (λr=>a (by simp[r])) (λr=>a (by simp[r])) q) (λb a=>M b (by simp at a|-;rcases a with h|h|h|h<;>simp[h]))
 self:=λ_ _ _ _ _ v h=>let⟨_,G⟩:=v.1;acC G h
def OD(K:Zs)(g:TA):TI:=λd H R=>g d H λvs a=>∃b c,vs=[.ref b,.ref c]/\(∃e,e_ K a b e)/\(∃f,e_ K a c f)/\R (YQ K b c) a
def O_:bootBuiltins "zip"=some (.type "zip"):=by ext
def Fe{k1}(hg:Gl X "enumerate")(hm:X.mg "enumerate"=none)(M:Gl X "zip")(N:X.mg "zip"=none)(ha:PA X [a,b] U)
 (hs:starEach [a,b] X.env=(false,eval a X.env)::starEach [b] X.env:=by rfl)(O:(backTo c (starEach [b] X.env)).any (·.1)=false:=by rfl)
 (y:starEach [.Call (.Name "zip" A) [a,b] [] c] X.env=(false,eval (.Call (.Name "zip" A) [a,b] [] c) X.env)::starEach [] X.env:=by rfl)(P:(backTo l (starEach [] X.env)).any (·.1)=false:=by rfl):
 PI X (.Tuple x k1 pt) (.Call (.Name "enumerate" p) [.Call (.Name "zip" A) [a,b] [] c] [] l) (OD X.K U):=by
 intro w s σ H R I h;refine Call_ (mL I hg hm oF (abZ ?_ y P));rw[y];show wpAny _ _ (spliced ((false,eval (.Call (.Name "zip" A) [a,b] [] c) X.env)::backTo l (starEach [] X.env))) _ _ s;refine acT ?_;refine aa3 (mL I M N O_ (abZ (fQ (ha c w s σ H _ I h) λus d⟨vs,W,m,r1,q1⟩=>?_) hs O) 02 02);obtain⟨E,F,rfl,⟨xs,G⟩,⟨ys,J⟩,q⟩:=q1;obtain⟨u1,u2,rfl,e1,e2⟩:=vals2 r1;cases(show u1=Value.ref E from e1);cases(show u2=Value.ref F from e2);obtain⟨r,aa,p1,_⟩:=m.tuple G;obtain⟨v,ab,L,_⟩:=m.tuple J;refine CV (show d.heap.IsTuple E r.toArray from p1) (show d.heap.IsTuple F v.toArray from L) λi Q B C Y Z j hk=>?_;refine acS ?_;refine zJ (s:={d with heap:=i}) Q λg S f=>acC S ?_;have D:∀b o,d.heap.get? b=some o->g.get? b=some o:=λb o e=>f _ _ (hk _ _ e);have eh:({d with heap:=i}:Zp).heap.objs.size=d.heap.objs.size+5:=j;refine⟨d.heap.objs.size+5,[d.heap.objs.size+5,d.heap.objs.size+4,d.heap.objs.size+2,d.heap.objs.size+3,d.heap.objs.size,d.heap.objs.size+1],_,_,W,?_,m.kept (t':=d.toks) D,zZ E F _ _ _ _ _ _ ?_,⟨⟨.none,?_⟩,⟨⟨_,_,f _ _ Q,.inl rfl⟩,f _ _ B,⟨_,_,f _ _ C⟩,Y.at λo e=>f _ _ e,Z.at λo e=>f _ _ e⟩⟩,λb T=>?_,q⟩
 ·rw[j]
 ·constructor<;>(intro z;have z':(_:Nat)=_:=z;omega)
 ·rw[<-j];exact S
 ·have n:d.heap.objs.size<=b:=by
   simp only[aag,aba,or_false]at T;rcases T with rfl|rfl|rfl|rfl|rfl|rfl
   ·exact acd _ 5
   ·exact acd _ 4
   ·exact acd _ 2
   ·exact acd _ 3
   ·exact aae _
   ·exact acd _ 1
  exact m.fpOk n (m.hok.fresh n)
noncomputable def Em{K:Zs}{a1 a2:Zl}{xs ys:List V}{g:TG}{f:TS}{D:Ends}{b:St}{H:Hp}(c:Nat->St->Hp->Prop)(B:c 0 b H)(j:∀i b H,i<=min xs.length ys.length->c i b H->e_ K H a1 xs/\e_ K H a2 ys)
 (C:∀i x y b H q p,xs[i]?=some x->ys[i]?=some y->c i b H->H q=none->upd H q (.tup [x,y]) p=none->g (.ref p) b (upd (upd H q (.tup [x,y])) p (.tup [.int i,.ref q])) λd l=>f {D with nx:=c (i+1),ct:=c (i+1),bk:=D.nx} d l)
 (hd:∀b H,c (min xs.length ys.length) b H->D.nx b H):FW (YQ K a1 a2) g f D b H:=
 oV c B (λb H p=>let⟨q1,q2⟩:=j _ b H 014 p;⟨⟨xs,ys,q1,q2,05⟩,hd b H p⟩) λi b H h p=>let⟨q1,q2⟩:=j i b H (aaT h) p;have z:i<xs.length:=05;have A:i<ys.length:=05
  ⟨⟨xs,ys,xs[i],ys[i],q1,q2,by simp[z],by simp[A]⟩,λv _⟨q,a,m,n,o,r,e,s,w,y⟩=>by subst e y;exact C i m n b H q a (s xs q1) (w ys q2) p o r⟩
end L2
namespace L2
open PySem PySem.Spec PyProof.Rows PySem.W PyProof.V
def Du(K:Zs)(a:Zl)(D:List (Str×PyData)):Prop:=KTD.tabLook KTD.flatLooks (λb=>K.lookup b) a D=true
noncomputable def WP:PyData->V
 |.int i=>.int i
 |.str x=>.str x
 |.bool b=>.bl b
 |_=>.non
noncomputable def pK(D:List (Str×PyData))(k:Str):Option V:=(KTD.datumAt k D).map WP
def Mz{h:ZN}:∀{d:PyData}{v:ZI},Flat v d->RelV (WP d) v:=by
 intro d v x;cases x ⟨#[],h.life⟩
 all_goals first|exact⟨_,rfl⟩|rfl|exact absurd (aak (by assumption)) (acA _)
noncomputable def U5(D:List (Str×PyData)):List (Str×KTD.Dat):=D.map λp=>(p.1,KTD.Dat.flat p.2)
theorem nD:∀{D:List (Str×PyData)},KTD.datumAt k (U5 D)=(KTD.datumAt k D).map KTD.Dat.flat
 |[]=>rfl
 | (x,d)::D=>by show(if _ then _ else KTD.datumAt k (U5 D))=_;rw[nD (D:=D)];show _=(if _ then _ else KTD.datumAt k D).map _;split<;>rfl
def yQ:KTD.inKeys k (U5 D)=(pK D k).isSome:=by rw[<-KTD.isSome_datumAt,nD];unfold pK;cases KTD.datumAt k D<;>rfl
noncomputable def Du.here(T:Du X.K a D)(I:Inv X c d H s):KTD.Here s.heap s.heap a (U5 D):=⟨KTD.TabOf.text (KTD.tab_of_look (λ_ _ h=>KTD.flat_of_looks h) (λb o e=>I.kIn b o e) T),λ_ _ h=>h⟩
def Qd(K:Zs)(neg:Bool):R2:=λx y H Q=>∃k a D,x=.str k/\y=.ref a/\Du K a D/\Q (.bl (if neg then !(pK D k).isSome else(pK D k).isSome)) H
noncomputable def Gz:ni X (compareOp .In) (Qd X.K false):=by intro b s e H x y v u Q I c d h;obtain⟨k,a,D,rfl,rfl,T,q⟩:=h;obtain⟨t,rfl⟩:=c;cases(show u=Value.ref a from d);refine KTD.in_text (T.here I) ⟨.bl _,H,I.tok _,8,?_⟩;rw[yQ];exact q
def Mi(K:Zs)(e ty:TE):TE:=λb H Q=>e b H λx c=>∃a D,x=.ref a/\Du K a D/\ty b c λy d=>∃k,y=.str k/\Q ((pK D k).getD .non) d
def Dd(ho:PE X o q)(J:PE X e ty)(m:M1 X o "get" c e f):PE X (.Call (.Attribute o "get" c) [e] [] f) (Mi X.K q ty):=by
 intro b s p H Q I h;refine wpAny_Call_method m.base m.few m.line PySem.F.plainAttrs_dict PySem.F.slot_dict_get PySem.F.type_dict_get (fQ (ho b s p H _ I h) λu r⟨x,w,j,z,a,D,A,T,q1⟩=>?_);subst A;obtain rfl:u=Value.ref a:=z;refine⟨(T.here j).typeIs,(T.here j).noDict,?_⟩;rw[m.trees];refine acs rfl (Calls.evalArgs_plain (acT (fQ (J b r p w _ j q1) λL B⟨y,n,i,C,k,E,q2⟩=>acS ?_)));subst E;obtain⟨t,rfl⟩:=C;refine call_meetsIn PySem.F.slot_dict_get (T.here i).typeIs PySem.F.entry_dict_get (PySem.F.args_dict_get_2 _ _) (KTD.meets_get1 (h₀:=B.heap) (D:=U5 D)) ⟨T.here i,λd v g F=>?_,λl=>?_⟩
 ·rw[nD]at g;unfold pK at q2;cases hd:KTD.datumAt k D with
  |none=>rw[hd]at g;cases g
  | some G=>rw[hd]at g q2;cases g;exact⟨_,n,i.tok _,Mz (h:=s.heap) F,q2⟩
 ·rw[nD]at l;unfold pK at q2;cases hd:KTD.datumAt k D with
  |some G=>rw[hd]at l;cases l
  | none=>rw[hd]at q2;exact⟨.non,n,i.tok _,8,q2⟩
end L2
namespace L2
open PySem PySem.Spec PyProof.Rows PySem.SeqAt PySem.Builtin PySem.Builtin.Str
end L2
namespace L2
open PySem PySem.Spec PyProof.Rows PySem.SeqAt
open PySem.Builtin PySem.Builtin.Str
def yw{lo:Int}{n:Nat}{g:TG}{s:TT}{v:TE}{F:List V->Hp->Prop}{m:St}{w:Hp}(o:Nat->List V->St->Hp->Prop)(B:n<=sizeLine)(C:o 0 [] m w)
 (D:∀i a d H,i<n->o i a d H->∀N:List V->St->Hp->Prop,(∀f j r,o (i+1) f j r->f.length<=a.length+1->N f j r)->g (.int (lo+i)) d H λc z=>s c z λb q=>if b=true then v c q λy A=>N (a++[y]) c A else N a c q)
 (hd:∀a d H,a.length<=n->o n a d H->F a H):CW (S9 lo n) g s v F m w:=
 uE o B C (λa d H l p=>⟨aae _,hd a d H l p⟩) λi a d H h p=>⟨h,λx _⟨e,y⟩=>by subst e y;exact D i a d _ h p⟩
end L2
namespace L2
open PySem PySem.Spec PyProof.Rows PySem.SeqAt
open PySem.Builtin PySem.Builtin.Str
end L2
namespace L2
open PySem PySem.Spec PyProof.Rows PySem.SeqAt PySem.Builtin
end L2
namespace L2
open PySem PySem.Spec PyProof.Rows PySem.SeqAt PySem.W Builtin.ObjectAttr
end L2
namespace L2
open PySem PySem.Spec PyProof.Rows PySem.SeqAt PySem.W
end L2
namespace L2
open PySem PySem.Spec PyProof.Rows
def Aw(J:It)(g:TG)(y:TT)(h:TI)(z:TG)(j:TT)(A:TE)(F:List V->Hp->Prop)(W:Nat->Nat->List V->St->Hp->Prop):Prop:=
 ∀i m d n H,W i m d n H->(J.stop i H/\F d H)\/(J.go i H/\∀x o,J.yld i H x o->g x n o λa q=>y a q λb l=>if b=true then h a l λr s=>∃p:Nat->Nat->List V->St->Hp->Prop,(∃w,p 0 w d a s)/\Ae r z j A (λe f v=>∃c,c<m/\W (i+1) c e f v) p else∃c,c<m/\W (i+1) c d a l)
def RB(h:TI)(g:TG)(i:TT)(a:TI)(j:TG)(b:TT)(l:TE)(k:Nat)(n:List Nat):TE:=λc H Q=>h c H λJ f=>∃W:Nat->Nat->List V->St->Hp->Prop,(∃m,W 0 m [] (jD k n c) f)/\
 Aw J g i a j b l (λd e=>d.length<=sizeLine/\∀p,e p=none->Q (.ref p) (upd e p (.lst d))) W
def zO(A:X.calm=true)(hg:∀e C c d r,PG (dR X scope N' e C c d r) tg g)(hc:∀e C c d r,oN (dR X scope N' e C c d r) ifs tt)
 (hi2:∀e C c d r,PI (dR X scope N' e C c d r) tg2 iter2 wi2)(hs2:∀env x,foldedSetIterable iter2 env x=pure x)(hg2:∀e C c d r,PG (dR X scope N' e C c d r) tg2 g2)(hc2':∀e C c d r,oN (dR X scope N' e C c d r) ifs2 tt2)(he:∀e C c d r,PE (dR X scope N' e C c d r) elt te)
 (T:Turn X.prog X.w X.K tg J fp it tn)(turn:Aw J g tt wi2 g2 tt2 te F W):yr X scope N' fp tn it (.ListComp elt [⟨tg,iter,ifs,0⟩,⟨tg2,iter2,ifs2,0⟩] scope pos) W F e f j:=by
 intro C o R O ha hR s D H m I st fr w0;refine Gy (Y:=dR X scope N' e C f j fp) (α:=List V×List Value×Nat) (iter:=iter) (B:=λk=>do
  let x<-eval iter2 (compEnvC scope e C X.env)
  standAt iter2.pos
  let x<-foldedSetIterable iter2 (compEnvC scope e C X.env) x
  let _<-runOwn (.compStart (.ListComp elt [⟨tg,iter,ifs,0⟩,⟨tg2,iter2,ifs2,0⟩] scope pos) 1 (<-holding [x] (pyIter x)) (.ref o) (compEnvC scope e C X.env)) (compEnvC scope e C X.env)
  k) (λa=>[(o,ig a.2.1 a.2.2)]) ⟨λ_=>rfl,λ_ _=>rfl⟩ T (hg _ _ _ _ _) (hc _ _ _ _ _) A (λ_ _ z=>z) (λa b P H hn=>?_) (λi m a=>W i m a.1)
  (λi m a D H=>wi2 D H λJ2 H4=>∃W2:Nat->Nat->List V->St->Hp->Prop,(∃m2,W2 0 m2 a.1 D H4)/\Ae J2 g2 tt2 te (λL l S=>∃M,M<m/\W (i+1) M L l S) W2)
  (λa=>Vals a.1 a.2.1) (λ_=>True) (λi m a D H rv w=>(turn i m a.1 D H w).imp (λz=>⟨z.1,λs I=>hR s D H _ _ _ I rv z.2⟩) λz=>⟨z.1,trivial,z.2⟩) (λi m a D H h s rv _ q ho I k Q E z=>?_) (a:=([],[],0)) I st fr .nil w0
 ·obtain⟨f0,f1,f2,f3,f4,f5⟩:=(O b P).1 H hn;refine⟨f0,f1,f2,f3,f4,λp U=>?_⟩;obtain rfl:p=(o,ig a.2.1 a.2.2):=by simpa using(show p∈([]:YN)++_ from U)
  exact aaC (O b P).2
 ·refine aaa (aaF (hi2 _ _ _ _ _ _ s D H _ I q) (λv s8 h8=>?_) (λ_ _ z=>z.elim));refine aaa (aa4 ?_);rw[hs2 _ v];refine aaa (aad (aaa (abe (aaF h8 (λae s9 h9=>?_) (λ_ _ z=>z.elim)))));obtain⟨ad,af,ag,J2,H9,e9,I9,T2,aa,f9,W2,⟨m2,w2⟩,N⟩:=h9;subst e9;have G:∀R':Result->Shared->Prop,(∀n,(∃M,M<m/\∃(Z:List V×List Value×Nat)(l:St)(S:Hp),Inv (dR X scope N' e C f j fp) ([(o,ig Z.2.1 Z.2.2)]++kI fp h) l S n/\Vals Z.1 Z.2.1/\W (i+1) M Z.1 l S)->R' (.ok .next) n)->
   codeAny 00 X.A (.compLoop (.ListComp elt [⟨tg,iter,ifs,0⟩,⟨tg2,iter2,ifs2,0⟩] scope pos) 1 (.ref ad) (.ref o) (compEnvC scope e C X.env)) R' s9:=λR' hQ=>
   Nt (Y:=dR X scope N' e C f j fp) (ps:=kI fp h) W2 N T2 ⟨λ_=>rfl,λ_ _=>rfl⟩ (hg2 _ _ _ _ _) (hc2' _ _ _ _ _) (he _ _ _ _ _) A (λ_ _ z=>z)
    (λb P=>by obtain⟨_,a1,a2,a3,a4,a5⟩:=f9 b P;exact⟨λ_ hn=>⟨hn,a1,a2,a3,a4,λp U=>a5 p ((aam.mp U).elim (λy=>aaL _ y) λy=>aax _ (aai _ y))⟩,aaC (a5 (o,ig a.2.1 a.2.2) (aax _ aan))⟩)
    ⟨ha.1,ha.2.1,ha.2.2.1,ha.2.2.2.1,λp U=>(O _ (pN (show p∈kI fp h from U)).1).2⟩ (λs' l S L ab k' I' ac⟨M,hm,w'⟩=>hQ s' ⟨M,hm,(L,ab,k'),l,S,I',ac,w'⟩) rv I9 aa (λb P=>(f9 b P).1) w2;exact aaa (wpAny_runOwn (uY rfl rfl (G _ λn q=>z n q) (T2.self _ 0 _ _ _ aa (G _ λn q=>z n q))))
def GQ(S:dJ X r own js N')(e:X.calm=true)(m:PI X B v E)(n:∀c C a b d,PG (dR X r N' c C a b d) B g)(o:∀c C a b d,oN (dR X r N' c C a b d) A tt)
 (i:∀c C a b d,PI (dR X r N' c C a b d) w s wi2)(j:∀env x,foldedSetIterable s env x=pure x)(l:∀c C a b d,PG (dR X r N' c C a b d) w g2)(h:∀c C a b d,oN (dR X r N' c C a b d) y tt2)(p:∀c C a b d,PE (dR X r N' c C a b d) z te)(q:∀x,foldedSetIterable v X.env x=pure x:=by intro _;rfl):PE X (.ListComp z [⟨B,v,A,0⟩,⟨w,s,y,0⟩] r D) (RB E g tt wi2 g2 tt2 te own.length js):=
 yt (CT:=λ_ J F W=>Aw J g tt wi2 g2 tt2 te F W) S m (λ_ _ T f=>zO e n o i j l h p T f) q
open PySem.SeqAt
section
open PySem.F
end
noncomputable def yI(v d:Zl):HO:=.ext λh=>h.IsItemsView v d
def Ho(x:h.IsItemsView v d):gq P w H h v (yI v d):=by
 refine⟨x,?_,λa b z k=>?_⟩
 ·obtain⟨o,e,_⟩:=x;exact⟨o,e⟩
 ·obtain⟨o,e,r⟩:=z;exact⟨o,k _ e,r⟩
section
variable{K:Type}[DecidableEq K]
end
open PySem.W
end L2
namespace L2
open PySem PySem.Spec PyProof.Rows
open PySem.SeqAt PySem.W
end L2
namespace L2
open PySem PySem.Spec PyProof.Rows PySem.SeqAt
open PySem.W
noncomputable def qP:entryFor table "dict_itemiterator.__iter__"=some Builtin.«dict_keyiterator.__iter__»:=entryFor_alias (id':="dict_keyiterator.__iter__") (by kernel_rfl) rfl 01 (by kernel_rfl)
def Inv.freeze(I:Inv X p r H s)(e:H d=some (.dK a))(ho:s.heap.get? d=some o):Inv X p r (upd H d (.frz o (.dK a))) s:=by
 have ne:∀{b u},H b=some u->u≠.dK a->b≠d:=λf n z=>by subst z;rw[e]at f;exact n (aaO f).symm
 have up:∀{b u},H b=some u->u≠.dK a->upd H d (.frz o (.dK a)) b=some u:=λf n=>by rw[b8 (ne f n)];exact f
 have h:∀b u,H b=some u->gq X.prog X.w (upd H d (.frz o (.dK a))) s.heap b u:=λb u f=>(I.hok b u f).stay (λ_ _ _ q=>q) (λc q=>up q nofun) (λc i q=>up q nofun);refine I.step (g':=s.gens) (t':=s.toks) (d':=s.drawn) (ch:=[]) (λb g=>nomatch g) (λb u _ _ _ q _=>q) (λb u _ _ _ q _=>⟨u.slots,q⟩) (λb u _ _ n=>?_) (λb u _ q=>⟨u,q⟩) (λb i q=>up q nofun) (λb u z q=>up q nofun) (λb l q=>⟨#[],by rw[up q nofun];simp⟩) (λm j=>j) (λb u q=>?_) I.bare
 ·rw[b8 (λz=>by subst z;rw[e]at n;cases n)];exact n
 ·by_cases g:b=d
  ·subst g;rw[a_]at q;cases q;exact⟨ho,h _ _ e⟩
  ·rw[b8 g]at q;exact h _ _ q
def Inv.thaw(I:Inv X C D H s)(e:H d=some (.frz o (.dK a)))(B:∀o u,X.H₀ d≠some (.frz o u)):Inv X C D (upd H d (.dK a)) s:=by
 have ne:∀{b u},H b=some u->u≠.frz o (.dK a)->b≠d:=λf n z=>by subst z;rw[e]at f;exact n (aaO f).symm
 have up:∀{b u},H b=some u->u≠.frz o (.dK a)->upd H d (.dK a) b=some u:=λf n=>by rw[b8 (ne f n)];exact f
 have fr:∀{b},H b=none->upd H d (.dK a) b=none:=λ{b}n=>by rw[b8 (λz=>by subst z;rw[e]at n;cases n)];exact n
 have i:∀b u,gq X.prog X.w H s.heap b u->gq X.prog X.w (upd H d (.dK a)) s.heap b u:=λb u x=>x.stay (λ_ _ _ q=>q) (λc q=>up q nofun) (λc h q=>up q nofun);refine⟨I.ok,I.os,I.bare,⟨I.base.keep,I.base.slot,λb u q n x=>fr (I.base.free b u q n x),I.base.there,λb h q=>up (I.base.tups b h q) nofun,λb u z q=>?_,λb l q=>?_⟩,I.loc,I.cell,fr I.free,λx c q=>fr (I.freeC x c q),λp r=>?_,λb u q=>?_,I.len⟩
 ·rw[b8 (λy=>by subst y;exact B _ _ q)];exact I.base.frzs b u z q
 ·obtain⟨g,m⟩:=I.base.tbls b l q;exact⟨g,up m nofun⟩
 ·obtain⟨v,w,A⟩:=I.pin p r;exact⟨v,fr w,A⟩
 ·by_cases j:b=d
  ·subst j;rw[a_]at q;cases q;exact i _ _ (show gq X.prog X.w H s.heap b (.frz o (.dK a))from I.hok _ _ e).2
  ·rw[b8 j]at q;exact i _ _ (I.hok _ _ q)
def Xa(t:TE):TE:=λc H Q=>∃d a,H d=some (.dK a)/\∀o,t c (upd H d (.frz o (.dK a))) λv b=>b d=some (.frz o (.dK a))/\Q v (upd b d (.dK a))
def HJ(h:PE X e t):PE X e (Xa t):=by
 intro a s j H Q I q;obtain⟨d,i,b,q⟩:=q;obtain⟨_,_,_,_,o,n,p,ho,_⟩:=yl I.hok b;have g:∀o u,X.H₀ d≠some (.frz o u):=λo u z=>by have:=I.base.frzs d o u z;rw[b]at this;cases this
 refine fQ (h a s j _ _ (I.freeze b ho) (q o)) λu l⟨v,m,c,r1,f,q1⟩=>⟨v,_,c.thaw f g,r1,q1⟩
def Sw(r:(gW P w).is k u=true):RelV (kV k) u:=by
 rcases gH (show qU k u=true from r)with⟨i,t,rfl,rfl⟩|⟨x,t,rfl,rfl⟩
 ·exact⟨t,rfl⟩
 ·exact⟨t,rfl⟩
theorem KV.at(r:KV a vs):∀{i:Nat}{x:Key×V},a[i]?=some x->∃u,vs[i]?=some (x.1,u)/\RelV x.2 u:=by
 induction r with
 |nil=>intro i x e;simp at e
 | cons h t b=>
   intro i x e;cases i with
   | zero=>simp at e;subst e;exact⟨_,by simp[h.1],h.2⟩
   |succ i=>exact(b (i:=i) (by simpa using e)).imp λu z=>⟨by simpa using z.1,z.2⟩
noncomputable def WY(o:Obj):Nat:=match o.data with|.dict _ a=>a|_=>0
noncomputable def lV(ok:my P w H h)(e:H d=some (.frz o (.dK a))):∃vs,KV a vs/\h.DictAt (gW P w) d vs (WY o)/\(d==sysModules)=false:=by obtain⟨ho,_,c,vs,r,g,f,i,b,x,dd,z⟩:=(show gq P w H h d (.frz o (.dK a))from ok _ _ e);rw[ho]at b;cases b;exact⟨vs,r,⟨o,f,ho,x,by rw[dd];simp[WY,dd],z⟩,c⟩
def Itm(d:Zl)(o:Obj)(a:List (Key×V)):It:=
 ⟨λi H=>H d=some (.frz o (.dK a))/\i<a.length,λi H v b=>∃p x,H p=none/\v=.ref p/\a[i]?=some x/\b=upd H p (.tup [kV x.1,x.2]),λi H=>H d=some (.frz o (.dK a))/\a.length<=i⟩
set_option tactic.hygienic true in
noncomputable def Ar{P:ZE}{w:ZH}{K:Zs}{B:YU}{k1}{Y:Pos}(d c:Zl)(o:Obj)(a:List (Key×V)):Turn P w K (.Tuple B k1 Y) (Itm d o a) [c] c (λi h=>∃ok m,IsItemIter h c d i a.length (WY o) ok m)where
 mem:=by simp
 obj:=λi h g b f=>by obtain⟨ok,m,e⟩:=g;cases aal.mp f;exact⟨_,e,λv z=>by cases(show Data.fields _=Data.cell v from z)⟩
 keep:=λi h D g k=>let⟨ok,m,e⟩:=g;⟨ok,m,k c 04 _ e⟩
 item:=by
  intro X S T U hc i j s σ H E I C g W;subst S T U;obtain⟨hd,hi⟩:=W;obtain⟨vs,r,n,_⟩:=lV I.hok hd;obtain⟨ok,m,e⟩:=g;have hx:a[i]?=some a[i]:=by simp[hi]
  obtain⟨u,hu,ru⟩:=KV.at r hx;rw[KV.length r]at e;refine wpAny_pyNext_items_item e n hu λG D hk Z p aa l=>?_;refine⟨9,?_⟩;obtain⟨M,N,f2,O,Q,R⟩:=C c 04;have x:c<s.heap.objs.size:=aak e;have I1:Inv X j σ (upd H s.heap.objs.size (.tup [kV a[i].1,a[i].2])) {s with heap:=D,toks:=s.toks}:=by
   refine I.turnLaid (fp:=[c]) (λb o f z=>l b o (λq=>f (by simp[q])) z) (λb f=>?_) C 014 ?_
   ·cases aal.mp f;exact⟨_,Z⟩
   ·exact⟨by show 2<=sizeLine;decide,[G,u],.cons (Sw hk) (.cons ru .nil),⟨_,p,8,9⟩⟩
  have y:∀b∈[c],(upd H s.heap.objs.size (.tup [kV a[i].1,a[i].2])) b=none:=λb f=>by cases aal.mp f;rw[b8 (aar x)];exact M
  refine wpAny_letOwnedTupleGo_items Z λg2 J L=>?_;refine⟨.ref s.heap.objs.size,_,I1.turned (t':=s.toks) (λb o f z=>(L.2 b f).trans z) (y c 04) N O Q R,8,⟨s.heap.objs.size,a[i],I.hok.fresh 014,8,hx,8⟩,⟨_,_,by rw[KV.length r];exact J⟩,y⟩
 done:=by intro X S T U hc i j s σ H E I C g W;subst S T U;obtain⟨hd,hi⟩:=W;obtain⟨vs,r,n,_⟩:=lV I.hok hd;obtain⟨ok,m,e⟩:=g;obtain⟨M,N,f2,O,Q,R⟩:=C c 04;rw[KV.length r]at e;refine wpAny_pyNext_items_end (I.ok.hd hc) e n (by have:=KV.length r;simp;omega) λD ex=>?_;exact⟨8,I.turned (t':=s.toks) (λb o f z=>ex b o f z) M N O Q R⟩
 self:=λ_ _ _ _ _ g h=>by obtain⟨ok,m,e⟩:=g;rename_i A _ s _ _;have ty:Shared.TypeIs s (.ref c) "dict_itemiterator":=⟨_,e,8⟩;refine wpAny_pyIter_slot ty F.slot_dict_itemiterator_iter (abf F.slot_dict_itemiterator_iter ty qP ?_ (F.args_dict_itemiterator_iter_1 _));show wpAny _ _ (ret (.ref c)) _ _ s;exact aad ⟨9,"dict_itemiterator",_,ty,F.slot_dict_itemiterator_next.lookup,h⟩
def Rc(e:TE):TI:=λc H R=>e c H λx b=>∃v d o a,x=.ref v/\b v=some (yI v d)/\b d=some (.frz o (.dK a))/\R (Itm d o a) b
noncomputable def yc{f:YU}{k1}{pt:Pos}{e:ZT}{l:TE}(z:PE X e l):PI X (.Tuple f k1 pt) e (Rc l):=by intro c s y H R I h;refine fQ (z c s y H _ I h) λu g⟨x,m,a,r1,v,d,o,i,n,p,hd,q⟩=>?_;subst n;cases(show u=Value.ref v from r1);obtain⟨vs,r,j,_⟩:=lV a.hok hd;refine wpAny_pyIter_items (a.hok v _ p).1 j ?_;refine⟨g.heap.objs.size,[g.heap.objs.size],_,_,m,8,a.kept (t':=g.toks) (λb u e=>aaj _ e),Ar d _ o i,⟨.none,.none,by rw[KV.length r];exact aav _ rfl⟩,λb w=>?_,q⟩;cases aal.mp w;exact a.fpOk 014 (a.hok.fresh 014)
def KZ:V->List V->Hp->VK->Prop:=λx vs H Q=>∃a o b,x=.ref a/\vs=[]/\H a=some (.frz o (.dK b))/\∀v,H v=none->Q (.ref v) (upd H v (yI v a))
def uR:Jz X "dict.items" KZ:=by
 intro f s n H x vs v p Q I l m h;obtain⟨a,o,g,rfl,rfl,i,q⟩:=h;cases(show v=Value.ref a from l);cases m;obtain⟨vs,_,c,j⟩:=lV I.hok i;have hd:=c.dictOf;exact call_meetsIn ac3 hd.typeIs PySem.F.entry_dict_items (PySem.F.args_dict_items_1 _) (meets_dict_items _ a j)
  ⟨⟨vs,hd⟩,.ref s.heap.objs.size,_,I.laid (t':=s.toks) (a:=s.heap.objs.size) (λb o e=>aaj _ e) 014 (Ho (d:=a) ⟨_,aav _ rfl,8,8⟩),8,q _ (I.hok.fresh 014)⟩
noncomputable def um(v d:Zl):HO:=.ext λh=>h.IsValuesView v d
def Gs(x:h.IsValuesView v d):gq P w H h v (um v d):=by
 refine⟨x,?_,λa b z k=>?_⟩
 ·obtain⟨o,e,_⟩:=x;exact⟨o,e⟩
 ·obtain⟨o,e,r⟩:=z;exact⟨o,k _ e,r⟩
def K_:V->List V->Hp->VK->Prop:=λx vs H Q=>∃a o b,x=.ref a/\vs=[]/\H a=some (.frz o (.dK b))/\∀v,H v=none->Q (.ref v) (upd H v (um v a))
def Eb:Jz X "dict.values" K_:=by
 intro f s n H x vs v p Q I l m h;obtain⟨a,o,g,rfl,rfl,i,q⟩:=h;cases(show v=Value.ref a from l);cases m;obtain⟨vs,_,c,j⟩:=lV I.hok i;have hd:=c.dictOf;exact call_meetsIn PySem.F.slot_dict_values hd.typeIs PySem.F.entry_dict_values (PySem.F.args_dict_values_1 _) (meets_dict_values _ a j)
  ⟨⟨vs,hd⟩,.ref s.heap.objs.size,_,I.laid (t':=s.toks) (a:=s.heap.objs.size) (λb o e=>aaj _ e) 014 (Gs (d:=a) ⟨_,aav _ rfl,8,8⟩),8,q _ (I.hok.fresh 014)⟩
def WW(d:Zl)(o:Obj)(a:List (Key×V)):It:=
 ⟨λi H=>H d=some (.frz o (.dK a))/\i<a.length,λi H v b=>b=H/\∃x,a[i]?=some x/\v=x.2,λi H=>H d=some (.frz o (.dK a))/\a.length<=i⟩
def xj{P:ZE}{w:ZH}{K:Zs}{tg:ZT}(d j:Zl)(o:Obj)(c:List (Key×V)):Turn P w K tg (WW d o c) [j] j (λi h=>h.IsValIter j d i c.length (WY o))where
 mem:=by simp
 obj:=λi h a b f=>by obtain⟨o,e,_,z⟩:=a;cases aal.mp f;exact⟨_,e,λv y=>by rw[z]at y;cases y⟩
 keep:=λi h J a k=>a.at λo e=>k j 04 _ e
 item:=by
  intro X C D F N i m s Z H E I n a G;subst C D F;obtain⟨hd,M⟩:=G;obtain⟨vs,r,g,_⟩:=lV I.hok hd;have L:c[i]?=some c[i]:=by simp[M]
  obtain⟨u,R,S⟩:=KV.at r L;rw[KV.length r]at a;obtain⟨p,q,T,x,A,B⟩:=n j 04;refine wpAny_pyNext_values_item a g R λJ l O=>?_;refine⟨9,?_⟩;obtain⟨o',U,W,Y⟩:=id l;refine N7 U W Y 01 ?_;exact⟨c[i].2,H,I.turned (t':=s.toks) (λb o f z=>O.extBut b o f z) p q x A B,S,⟨8,_,L,8⟩,by rw[KV.length r];exact l,λb f=>(n b f).1⟩
 done:=by intro X C D F N i m s Z H E I n a G;subst C D F;obtain⟨hd,M⟩:=G;obtain⟨vs,r,g,_⟩:=lV I.hok hd;obtain⟨p,q,T,x,A,B⟩:=n j 04;rw[KV.length r]at a;refine wpAny_pyNext_values_end (I.ok.hd N) a g (by have:=KV.length r;simp;omega) λJ Q=>?_;exact⟨8,I.turned (t':=s.toks) (λb o f z=>Q b o f z) p q x A B⟩
 self:=λ_ _ _ _ _ a h=>wpAny_pyIter_valiter a h
def Ko(e:TE):TI:=λc H R=>e c H λx b=>∃v d o a,x=.ref v/\b v=some (um v d)/\b d=some (.frz o (.dK a))/\R (WW d o a) b
noncomputable def Ef{y e:ZT}{j:TE}(z:PE X e j):PI X y e (Ko j):=by intro c s w H R I h;refine fQ (z c s w H _ I h) λu f⟨x,l,a,r1,v,d,o,g,m,n,hd,q⟩=>?_;subst m;cases(show u=Value.ref v from r1);obtain⟨vs,r,i,_⟩:=lV a.hok hd;refine wpAny_pyIter_values (a.hok v _ n).1 i ?_;refine⟨f.heap.objs.size,[f.heap.objs.size],_,_,l,8,a.kept (t':=f.toks) (λb u e=>aaj _ e),xj d _ o g,⟨_,aav _ rfl,8,by rw[KV.length r];rfl⟩,λb p=>?_,q⟩;cases aal.mp p;exact a.fpOk 014 (a.hok.fresh 014)
def wV(S:dJ X scope own js N')(l:X.calm=true)(hi:PI X tg iter wi)(hg:∀d C a c j,PG (dR X scope N' d C a c j) tg g)(hc:∀d C a c j,oN (dR X scope N' d C a c j) ifs tt)
 (E:∀d C a c j,PE (dR X scope N' d C a c j) ke tk)(F:∀d C a c j,PE (dR X scope N' d C a c j) ve tv)(hs:∀x,foldedSetIterable iter X.env x=pure x:=by intro _;rfl):PE X (.DictComp ke ve [⟨tg,iter,ifs,0⟩] scope pos) (QD wi g tt tk tv own.length js):=by
 intro f s G H Q I h;obtain⟨d,p,r,w⟩:=o8 (env:=X.env) scope λy L hk=>I.ok.has y.1 (S.free y L hk);show wpAny _ X.A (comprehension (.DictComp ke ve [⟨tg,iter,ifs,0⟩] scope pos) scope X.env _ newDict false (eval iter X.env)) _ _ s;refine acZ (use:=none) rfl hs p S.kind S.names (fQ (hi f s G H _ I h) λv s1 M=>fQ M λN s2 O=>?_);obtain⟨R,fp,tn,J,H2,e,U,T,z,W,Y⟩:=O;subst e;refine CG (RR:=λi C=>compPost 00 X.A X.xe none (EP X f G Q) i C) S l hg hc E F r w U T z W Y ?_;intro i C H' Z m IX hm A hL hz B D q;refine⟨m,hm,λh' n=>⟨.ref i,_,?_,8,q⟩⟩;exact IX.turned (t':=Z.toks) (it:=C) (λb o P e=>(n.2 b P).trans e) A hL (.inr hz) B D
def pQ(h:Nat->St->Hp->Prop)(I:h 0 O P)(J:∀i a H,i<=M.length->h i a H->H d=some (.frz o (.dK M)))
 (L:∀i x a H p,M[i]?=some x->h i a H->H p=none->∀N:St->Hp->Prop,(∀b j,h (i+1) b j->N b j)->g (.ref p) a (upd H p (.tup [kV x.1,x.2])) λc w=>tk c w λy A=>v c A λz r=>∃n k,r f=some (.dK n)/\y=kV k/\n.length<sizeLine/\N c (upd r f (.dK (putK n k z))))
 (hd:∀a H,h M.length a H->F H):∃W:Nat->Nat->St->Hp->Prop,(∃m,W 0 m O P)/\Bo (Itm d o M) g rC tk v f F W:=by
 refine⟨λi m a H=>m=M.length-i/\i<=M.length/\h i a H,⟨M.length,04,aaU _,I⟩,?_⟩;rintro i m a H⟨rfl,G,p⟩;have q:=J i a H G p;by_cases l:i<M.length
 ·refine .inr ⟨⟨q,l⟩,λx j y=>?_⟩;obtain⟨B,C,D,rfl,E,rfl⟩:=y;exact L i C a H B E p D (λb j=>∃s,s<M.length-i/\s=M.length-(i+1)/\i+1<=M.length/\h (i+1) b j) λb j q=>⟨M.length-(i+1),05,8,l,q⟩
 ·have e:i=M.length:=by omega
  subst e;exact .inl ⟨⟨q,aae _⟩,hd a H p⟩
def Oe(f:Nat->List V->St->Hp->Prop)(A:D.length<=sizeLine)(B:f 0 [] E G)(r:∀i a b H,i<=D.length->f i a b H->H d=some (.frz o (.dK D)))
 (C:∀i x a b H,D[i]?=some x->a.length=i->f i a b H->∀N:List V->St->Hp->Prop,(∀c m n,c.length=i+1->f (i+1) c m n->N c m n)->g x.2 b H λj s=>q j s λy w=>N (a++[y]) j w)
 (hd:∀a b H,a.length=D.length->f D.length a b H->F a H):CW (WW d o D) g rC q F E G:=
 pH f A B (λa b H l p=>⟨⟨r _ a b H 014 p,aae _⟩,hd a b H l p⟩) λi a b H h l p=>⟨⟨r i a b H (aaT h) p,h⟩,λv _⟨e,x,z,y⟩=>by subst e y;exact C i x a b _ z l p⟩
def zp{r:List (Key×V)}{g:TG}{f:TS}{D:Ends}(b:Nat->St->Hp->Prop)(n:b 0 s w)(j:∀i a H,i<=r.length->b i a H->H d=some (.frz o (.dK r)))
 (q:∀i x a H,r[i]?=some x->b i a H->g x.2 a H λc l=>f {D with nx:=b (i+1),ct:=b (i+1),bk:=D.nx} c l)
 (hd:∀a H,b r.length a H->D.nx a H):FW (WW d o r) g f D s w:=
 oV b n (λa H p=>⟨⟨j _ a H 014 p,aae _⟩,hd a H p⟩) λi a H h p=>⟨⟨j i a H (aaT h) p,h⟩,λv _⟨e,x,m,y⟩=>by subst e y;exact q i x a _ m p⟩
def JX:bootBuiltins "dict"=some (.type "dict"):=by ext
noncomputable def xr:jJ X (.type "dict") (λc H Q=>∃a b,c=[.ref a]/\H a=some (.dK b)/\∀p,H p=none->Q (.ref p) (upd H p (.dK b))):=by intro d s l H c m Q I r h;obtain⟨a,b,rfl,g,q⟩:=h;obtain⟨u,rfl,i⟩:=vals1 r;cases(show u=Value.ref a from i);exact FP I (.inl g) λp j e f=>⟨.ref p,_,f,8,q p e⟩
def Yu(r:V->List V->Hp->VK->Prop)(e:TE):TE:=λd H Q=>e d H λx c=>(∃a o b,x=.ref a/\c a=some (.frz o (.dK b)))/\r x [] c Q
noncomputable def Ab{X:Cx}{o:ZT}{L:TE}{E:Str}{F G:Pos}{J:String}{r:V->List V->Hp->VK->Prop}(f:Slot "dict" E J)(g:typeOf (.builtin J)=pure (.type "method_descriptor"))(B:Jz X J r)(ho:PE X o L)
 (d:attributeBase o E X.env (eval o X.env)=eval o X.env:=by rfl)(e:(F.endLine==G.line)=true:=by rfl):PE X (.Call (.Attribute o E F) [] [] G) (Yu r L):=by
 intro c s n H Q I h;refine wpAny_Call_method0_late d e (fQ (ho c s n H _ I h) λv p⟨x,q,i,r1,⟨a,C,w,y,A⟩,q1⟩=>?_);subst y;cases(show v=Value.ref a from r1);obtain⟨vs,_,⟨j,D,l,m,_⟩,_⟩:=lV i.hok A;exact⟨"dict",J,PySem.F.plainAttrs_dict,f,g,⟨j,l,m.1⟩,λb z=>by cases z;exact⟨j,l,m.2.1⟩,acs rfl (PySem.evalArgs_none (B c p n q (.ref a) [] _ [] Q i rfl .nil q1))⟩
def Yr(d:Zl)(o:Obj)(a:List (Key×V))(Q:St->Hp->Prop):St->Hp->Prop:=λb H=>H d=some (.frz o (.dK a))/\Q b (upd H d (.dK a))
noncomputable def XN(t:TS):TS:=λD c H=>∃d a,H d=some (.dK a)/\∀o,t ⟨Yr d o a D.nx,λv b=>b d=some (.frz o (.dK a))/\D.rt v (upd b d (.dK a)),Yr d o a D.bk,Yr d o a D.ct⟩ c (upd H d (.frz o (.dK a)))
theorem R8{X:Cx}{n:Stmt}{t:TS}(h:PS X n t):PS X n (XN t):=by
 intro g s w H D I q;obtain⟨d,p,l,q⟩:=q;obtain⟨_,_,_,_,o,y,A,ho,_⟩:=yl I.hok l;have j:∀o u,X.H₀ d≠some (.frz o u):=λo u z=>by have:=I.base.frzs d o u z;rw[l]at this;cases this
 refine fQ (h g s w _ _ (I.freeze l ho) (q o)) λf x i=>?_;cases f with
 |next=>obtain⟨a,m,b,c,e⟩:=i;exact⟨a,_,b.thaw c j,e⟩
 |brk=>obtain⟨a,m,b,c,e⟩:=i;exact⟨a,_,b.thaw c j,e⟩
 |cont=>obtain⟨a,m,b,c,e⟩:=i;exact⟨a,_,b.thaw c j,e⟩
 |ret u=>obtain⟨v,a,m,b,r,c,e⟩:=i;exact⟨v,a,_,b.thaw c j,r,e⟩
end L2
namespace L2
open PySem PySem.Spec PyProof.Rows PySem.W PyProof.V
noncomputable def pB(a:Zl)(v:ZI):Bool:=match v with|.ref b=>a==b|_=>false
def vz(h:pB a v=true):v=.ref a:=by
 unfold pB at h;split at h
 ·rw[aaX.mp h]
 ·cases h
def Mp(K:Zs)(a:Zl)(D:YR):Prop:=KTD.tabLook pB (λb=>K.lookup b) a D=true
section
variable{X:Cx}{dD:YN}{σ:St}{H:Hp}{s:Zp}{a:Zl}{D:YR}
def Mp.of(T:Mp X.K a D)(I:Inv X dD σ H s):KTD.TabOf (λ(d:Zl)v=>v=.ref d) s.heap a D:=KTD.tab_of_look (λ_ _ h=>vz h) (λb o e=>I.kIn b o e) T
theorem x_(T:KTD.TabOf (λ(d:Zl)v=>v=.ref d) s.heap a D)(e:KTD.datumAt k D=some f)(p:Q (some (.ref f)) {s with toks:=s.toks+1}):
 wpAny (model g w) A (dictGet a (.str k tk)) Q E s:=by
 obtain⟨_,o,b,q,ho,r,hd,j⟩:=T;unfold dictGet
 try with_reducible refine abe ?_
 refine aaa (wpAny_pyHash_str (aaa (KTD.kt_dictFind_strs (s:={s with toks:=s.toks+1}) ho hd (by obtain⟨l⟩:=b;simpa using j.exact) ?_)));have c:Q (findBy (λk v=>v.isStr k) b k) {s with toks:=s.toks+1}:=by
  have m:findBy (λk v=>v.isStr k) b k=(b.toList.find? λe=>e.key.isStr k).map (·.val):=by obtain⟨l⟩:=b;simp[findBy]
  rw[m];obtain⟨v,n,h⟩:=j.find_some e;rw[n,h];exact p
 rw[findBy_of_findIdx?]at c;cases hi:b.findIdx? λe=>e.key.isStr k with
 |none=>rw[hi]at c;exact aad c
 |some i=>rw[hi]at c;exact aaa (wpAny_dictEntries (s:={s with toks:=s.toks+1}) ho hd (aad c))
def KD(K:Zs):R2:=λx y H Q=>∃a k D f,x=.ref a/\y=.str k/\Mp K a D/\KTD.datumAt k D=some f/\Q (.ref f) H
def J_:Jy X (KD X.K):=by
 intro c d i s z H x y v u Q I l m h n;obtain⟨a,k,D,f,rfl,rfl,T,e,q⟩:=h;cases(show v=Value.ref a from l);obtain⟨t,rfl⟩:=m;have g:=T.of I;have b:s.TypeIs (.ref a) "dict":=by obtain⟨_,o,p,r,ho,j,hd,w⟩:=g;exact⟨o,ho,j.1⟩
 refine tail_any b slot_dict_getitem.lookup ?_ n;unfold getItem
 try with_reducible refine abe ?_
 refine aaa (acX b 02 ?_);refine aaa (wpAny_callSpecial?_slot (name:=Str.ofString "__getitem__") b slot_dict_getitem (abf slot_dict_getitem b entry_dict_getitem ?_ (args_dict_getitem _ _)));show wpAny _ _ (dictGet a (.str k t)>>=_) _ _ s;exact aaa (x_ g e (aad ⟨9,aad ⟨.ref f,H,I.tok _,8,q⟩⟩))
structure Callee(X:Cx)(f:Zl)(sp:Sp)(E:XK):Prop where
 ex:∃CX k fd ps,cz X.prog X.w X.K X.mg X.base CX k f fd ps sp/\dX k X.A/\Binds X.K fd ps []/\iz CX X E
 kp:keepIn X.K (.ref f)=true
def Qs(X:Cx)(j:Nat)(t:TA):TE:=λb H Q=>∃f c E,b[j]?=some (some (.ref f))/\Callee X f c E/\t b H λvs d=>c vs d Q E
def Gg(R:X.N[j]?=some x)(S:Sh X.env.scope x)(T:PA X (e::n) t)(hd:(x==("__debug__":Str))=false:=by decide)(w:(x==("__classdict__":Str))=false:=by decide)
 (U:starEach (e::n) X.env=(false,eval e X.env)::starEach n X.env:=by rfl)(y:(backTo g (starEach n X.env)).any (·.1)=false:=by rfl):PE X (.Call (.Name x p) (e::n) [] g) (Qs X j t):=by
 intro i s O H Q I h;obtain⟨f,sp,E,B,C,h⟩:=h;obtain⟨CX,k,fd,ps,F,G,J,L⟩:=C.ex;refine aa3 ?_;have d:∀o:Value->Shared->Prop,o (.ref f) s->wpAny 00 X.A (eval (.Name x p) X.env) o X.xe s:=λo v=>by
  obtain⟨m,M,N⟩:=I.loc;obtain⟨u,r,l⟩:=N j x (.ref f) R B S;cases(show u=Value.ref f from r);rcases l with⟨hk,P⟩|⟨hk,c,A,b⟩
  ·exact abl (acJ I.ok.kind hk M P v) hd
  ·rcases hk with hk|hk
   ·exact abl (acK I.ok.kind hk A b v) hd
   ·exact abl (acL I.ok.kind hk A b v w) hd
 refine d _ ?_;refine callWith_K (h₀:=X.base) I.ok.mod.kin C.kp (fQ (T g i s O H _ I h) λW Y⟨vs,Z,z,r,q⟩=>⟨z.kIn,?_⟩) U y;exact rA F G J .nil L z r (by rw[aa0];exact q)
end
end L2
namespace L2
open PySem PySem.Spec PyProof.Rows PySem.SeqAt
noncomputable def P_(C:Zl)(m:Str)(l:Sp)(n:List V->List V->List V)(E:XK)(p:TE)(t tk:TA):TE:=λb H Q=>p b H λx c=>∃a j fs,x=.ref a/\c a=some (.ins C j fs)/\fs.lookup m=none/\t b c λvs d=>tk b d λh i=>l (n (.ref a::vs) h) i Q E
def G8(W:PE X o ta)(c:uC X.K C)(G:Meth X.K C m f)(F:cz X.prog X.w X.K X.mg X.base CX k f fd ps sp)(Y:dX k X.A)(Z:kh X.K fd ps ks g gV)(hx:iz CX X E)
 (ha:PA X (e::es) t)(v:PK X kws tk)(i:(backToKw pos (keywordEach kws X.env)).all (·.1.isSome)=true:=by rfl)(w:(backToKw pos (keywordEach kws X.env)).filterMap (·.1)=ks:=by rfl)
 (y:starEach (e::es) X.env=(false,eval e X.env)::starEach es X.env:=by rfl)
 (z:((backTo pos (starEach (e::es) X.env)).any (·.1)||(backToKw pos (keywordEach kws X.env)).any (·.1.isNone))=false:=by rfl)
 (ht:eval (.Call (.Attribute o m apos) (e::es) kws pos) X.env=(do
  let D<-eval o X.env
  standAt apos.atName
  let(f,b)<-holding [D] (getMethod D m p)
  callWith pos f b (backTo pos (starEach (e::es) X.env)) (backToKw pos (keywordEach kws X.env))):=by rfl):
 PE X (.Call (.Attribute o m apos) (e::es) kws pos) (P_ C m sp gV E ta t tk):=by
 intro d s n H Q I h;refine aco (pl:=p) (fQ (W d s n H _ I h) λu J⟨x,L,j,M,a,dx,fs,N,O,l,q⟩=>?_) ht;subst N;obtain rfl:u=Value.ref a:=M;refine lX j O c G l ?_;refine PySem.W.callWith_KW (first:=[.ref a]) (h₀:=X.base) j.ok.mod.kin G.kp i (fQ (ha pos d J n L _ j q) λA P⟨vs,R,S,r,q2⟩=>?_) z y;refine fQ (v pos d P n R _ S q2) λws s3⟨zs,H3,B,T,U⟩=>⟨B.kIn,?_⟩;rw[w];exact Mu (us:=.ref a::A) (vs:=.ref a::vs) F Y Z hx B (.cons rfl r) T U
end L2
namespace L2
open PySem
noncomputable def j8(i:Nat)(d:X.N.Nodup)(f:PE X e c)(g:X.N[i]?=some x:=by rfl)(h:Loc X.env.scope x:=by first|exact .inl rfl|exact .inr rfl)(j:swapsWith e (some (.Name x a)) b.line X.env=pure false:=by rfl)(l:X.fn x=true\/X.env.scope.names.lookup x=some .local:=by first|exact .inl rfl|exact .inr rfl|assumption):PS X (.Assign [.Name x a] e b) (Hc c (eQ i)):=Ot d g h f j l
noncomputable def kJ(i:Nat)(b:X.N.Nodup)(c:X.N[i]?=some x:=by rfl)(d:Loc X.env.scope x:=by first|exact .inl rfl|exact .inr rfl)(e:X.fn x=true\/X.env.scope.names.lookup x=some .local:=by first|exact .inl rfl|exact .inr rfl|assumption):PG X (.Name x a) (eQ i):=eX b c d e
noncomputable def j4(D:fj X.K X.mg x j h f g)(F:cz X.prog X.w X.K X.mg X.base dM k f g h i)(l:dX k X.A)(m:PA X (e::a) t)(n:Gl X x:=by rfl)(c:(x==("__debug__":Str))=false:=by decide)(o:starEach (e::a) X.env=(false,eval e X.env)::starEach a X.env:=by rfl)(d:(backTo b (starEach a X.env)).any (·.1)=false:=by rfl):PE X (.Call (.Name x p) (e::a) [] b) (Bf i [] E0 t):=gf F l n D.mg D.F.kp D.b .nil dC m c o d
end L2
namespace Cm
open PySem L2
def p6(h:∀N:St->Hp->Prop,(∀a b,u D a b->N a b)->t {D with nx:=N} c H):Kq t u D c H:=h _ λ_ _ x=>x
def lY(h:∀b:Ends,(∀a c,u D a c->b.nx a c)->t b d H):Kq t u D d H:=h _ λ_ _ x=>x
def Hg{t:TS}{D:Ends}(h:∀b:Ends,(∀a c,D.nx a c->b.nx a c)->t b d H):t D d H:=h D λ_ _ x=>x
noncomputable def top(i:Nat):Stmt:=PySem.Challenge.pw_lanescribe_k44_whole_a_halt_stops_at_onc.main.body.getD i (.Pass ⟨0,0,0,0⟩)
noncomputable def Bl(c:Zl)(a r s:Int):List (Key×V):=[(.inr "cells",.ref c),(.inr "at",.int a),(.inr "rest",.int r),(.inr "seed",.int s)]
def pat:putK (Bl c a r s) (.inr "at") (.int x)=Bl c x r s:=by rfl
def O7:putK (Bl c a r s) (.inr "rest") (.int x)=Bl c a x s:=by rfl
def Ng:putK (Bl c a r s) (.inr "seed") (.int x)=Bl c a r x:=by rfl
def HQ(h:H p=some (.dK (Bl c a r s))):j6 H p (.str "cells") (some (.ref c)):=j6.k (k:=Sum.inr "cells") h
def Z0(h:H p=some (.dK (Bl c a r s))):j6 H p (.str "at") (some (.int a)):=j6.k (k:=Sum.inr "at") h
def BK(h:H p=some (.dK (Bl c a r s))):j6 H p (.str "rest") (some (.int r)):=j6.k (k:=Sum.inr "rest") h
def xX(h:H p=some (.dK (Bl c a r s))):j6 H p (.str "seed") (some (.int s)):=j6.k (k:=Sum.inr "seed") h
abbrev RW:Int:=2305843009213693951
structure Dr(H:Hp)(p c:Zl):Prop where
 ex:∃(ns:List Int)(a r s:Int),H p=some (.dK (Bl c a r s))/\H c=some (.lst (ns.map V.int))/\ns.length<=63/\0<=a/\a<=ns.length/\0<=r/\0<=s/\s<RW
def Dr.mono(d:Dr H p c)(h:cu H b):Dr b p c:=by obtain⟨e,a,r,s,f,g,k⟩:=d.ex;exact⟨e,a,r,s,h _ _ f,h _ _ g,k⟩
def Dr.ne(d:Dr H p c)(h:H q=some o)(hd:∀b,o≠.dK b):q≠p:=by obtain⟨f,a,r,s,e,_⟩:=d.ex;exact iV h e (hd _)
def Dr.put(d:Dr H p c)(g:q≠p)(h:q≠c):Dr (upd H q o) p c:=by obtain⟨b,a,r,s,e,f,k⟩:=d.ex;exact⟨b,a,r,s,by rw[b8 g.symm];exact e,by rw[b8 h.symm];exact f,k⟩
def Dr.cell(d:Dr H p c):∃b,H c=some (.lst b):=by obtain⟨f,a,r,s,g,e,k⟩:=d.ex;exact⟨_,e⟩
def Dr.neN(d:Dr H p c)(h:H q=none):p≠q:=by obtain⟨e,a,r,s,b,_⟩:=d.ex;exact cg b h
structure Txt(K:Zs)(mg:Y1):Prop where
 len:mg "len"=none
 range:mg "range"=none
 list:mg "list"=none
 tuple:mg "tuple"=none
 str:mg "str"=none
 bool:mg "bool"=none
 int:mg "int"=none
 min:mg "min"=none
 repr:mg "repr"=none
 all:mg "all"=none
 any:mg "any"=none
 isinstance:mg "isinstance"=none
section
variable{P:ZE}{w:ZH}{K:Zs}{mg:Y1}{base:ZN}
inductive wM(K:Zs)(vs:List V)(H:Hp)(Q:VK)(E:XK):Prop
 |mk (a:Zl) (ns:List Int):vs=[.ref a]->eY K H a (ns.map V.int)->ns.length<=63->(∀(p c:Zl)(H':Hp),Dr H' p c->cu H H'->H p=none->Q (.ref p) H')->wM K vs H Q E
def WD:cI ["_law_script","_law_seed","_law_cell"] ["_law_script"] (bK (top 112)):=by ext
def Gj(F:gU K "_law_begin" "_law_begin" (top 112) f O)(T:Txt K mg):cz P w K mg base dM 1 f O ["_law_script"] (wM K):=by
 refine F.ok WD 01 λR A C s H vs Q E X h=>?_;obtain⟨a,d,rfl,I,m,k⟩:=h;refine⟨_,(b7 (j8 1 WD.nd cj) (b7 (jy abh rfl (iW (lQ Bj 06 n7 (nH cj))) (kJ 2 WD.nd) (c7 (j8 1 WD.nd (eN lC (eN iK (eN iK (eN n_ 003 cj) (eN n_ 010 cj)) cj) cj)))) (c7 (cW (BL (mF cZ (jh wJ 004 T.list vK (aK (lQ Bj 06 n7 (nH cj)) b_)) (mF cZ cj (mF cZ cj (mF cZ 003 Cg)))) rfl rfl (ac4 _ _) (by show 4<=15;decide)))))),?_⟩;have c:oh (d.map V.int) none (some 63)=d.map V.int:=by show((d.map V.int).drop (HT.jm _ 0 none)).take (HT.jm _ _ (some ((63:Nat):Int))-HT.jm _ 0 none)=_;rw[HT.Gd,HT.Kr,List.drop_zero,Nat.sub_zero,abi];rw[aaf];omega
 refine⟨9,9,a,9,I,λq r=>⟨q,8,⟨_,eY.of a_⟩,?_⟩⟩;rw[c];have S:∀o,eY K (upd H q o) a (d.map V.int):=λo=>(show cu H (upd H q o)fromλb u e=>by rw[b8 (cg e r)];exact e).seq I;refine jV (xs:=d.map V.int) (λi x B=>∃(z:Int)(v:Option V),x=[some (.ref a),some (.int z),v]/\0<=z/\z<RW/\B=upd H q (.lst (d.map V.int)))
  ⟨20011,none,8,02,02,8⟩ (λi x B _⟨_,_,_,_,_,e⟩=>by rw[e];exact eY.of a_) ?_ ?_
 ·rintro i y x B W⟨z,v,rfl,N,J,rfl⟩;obtain⟨n,-,rfl⟩:=aao.mp (aap W);refine⟨9,7,8,.inl ⟨05,by simp only[RW]at J;omega⟩,9,7,8,.inr ⟨02,02⟩,7,8,7,8,7,8,(by show(0:Int)<2305843009213693951;decide),?_⟩;exact⟨7,abL _ 02,abM _ 02,8⟩
 ·rintro x B⟨z,v,rfl,N,J,rfl⟩;intro p L;have M:cu H (upd (upd H q (.lst (d.map V.int))) p (.dK [])):=(cu.new r).trans (cu.new L);refine⟨9,9,a,9,M.seq I,λq2 g=>⟨q2,9,.inl (eY.of a_),λl j=>⟨9,?_,Bl l 0 0 z,8,by show 4<=15;decide,?_⟩⟩⟩
  ·exact(cu.new j) _ _ ((cu.new g) _ _ a_)
  ·rw[c];have D:(upd (upd (upd (upd H q (.lst (d.map V.int))) p (.dK [])) q2 (.lst (d.map V.int))) l (.lst (d.map V.int))) p=some (.dK []):=(cu.new (by rw[c]at j;exact j)) _ _ ((cu.new g) _ _ a_);have G:l≠p:=iV a_ D 005;refine k p l _ ⟨d,0,0,z,a_,by rw[b8 G];exact a_,m,02,05,02,N,J⟩ ?_ ((cu.new r).free L);intro b u e;have U:=((cu.new (q:=l) (o:=.lst (d.map V.int)) (by rw[c]at j;exact j)) _ _ ((cu.new g) _ _ (M b u e)));rw[b8 (cg ((cu.new r) b u e) L)];exact U
inductive jC(vs:List V)(H:Hp)(Q:VK)(E:XK):Prop
 |mk (p c:Zl) (m:Int):vs=[.ref p,.int m]->Dr H p c->0<m->m<340282366920938463463374607431768211456->(∀(r:Int)(H':Hp),0<=r->r<m->Dr H' p c->h_ p H H'->Q (.int r) H')->jC vs H Q E
def WM:cI ["_law_d","_law_many","_law_cell","_law_digit","_law_one"] ["_law_d","_law_many"] (bK (top 113)):=by ext
def jA(F:gU K "_law_pick" "_law_pick" (top 113) f fd)(T:Txt K mg):cz P w K mg base dM 1 f fd ["_law_d","_law_many"] jC:=by
 refine F.ok WM 01 λab A S s H vs Q E hr h=>?_;obtain⟨p,c,m,rfl,D,L,m1,k⟩:=h;have g:=oO hr;refine⟨_,(b7 (dU (PW.pt (o7 (dg g8 (fZ g 06 cZ) cj (di _)) (n8 (dg uL (fZ g 06 cZ) (du dO 004 T.len gK (aK (fZ g 06 cZ) b_)) (di _))))) (b7 (j8 2 WM.nd (d_ iH (fZ g 06 cZ) (fZ g 06 cZ))) (b7 (jr g 06 cZ (eN iK (fZ g 06 cZ) cj) rfl) (c7 (dU (dg Gq 010 (eN Rh cj cj) (di _)) (c7 (jr g 06 cZ 010 rfl)) (c7 (jr g 06 cZ (eN lC (eN iK (eN iK (eN n_ (fZ g 06 cZ) cj) (eN n_ 010 cj)) cj) cj) rfl)))))) d9) (b7 (dU (dg O3 (fZ g 06 cZ) cj (di _)) (b7 (j8 3 WM.nd (eN lC (fZ g 06 cZ) 003)) (b7 (jr g 06 cZ (eN IK (fZ g 06 cZ) 003) rfl) (c7 (cW (pv 3))))) d9) (b7 (j8 4 WM.nd (eN lC (eN n_ (fZ g 06 cZ) (fZ g 06 cZ)) cj)) (b7 (jr g 06 cZ (eN lC (eN iK (eN iK (eN n_ (pv 4) cj) (eN n_ (fZ g 06 cZ) cj)) cj) cj) rfl) (c7 (cW (eN lC (eN Bb (fZ g 06 cZ) cj) 003))))))),?_⟩;obtain⟨l,a,r,sd,i,O,hl,a0,a1,W,X,Y⟩:=D.ex;have I:c≠p:=iV O i 005;have d:∀{x y z:Int},(Bl c x y z).length<sizeLine:=λ{x y z}=>n6 (by show 4<=1000;decide);refine J4 (λq H'=>∃(n G b:Int)(v:Option V),q=[some (.ref p),some (.int m),v,none,none]/\H' p=some (.dK (Bl c n G b))/\h_ p H H'/\0<=n/\n<=l.length/\0<=G/\0<=b/\b<RW) ?_ ?_
 ·rintro q H1⟨n,G,b,v,rfl,j,bt,b0,b1,c0,d0,d1⟩;have J:∀o,(upd H1 p o) c=some (.lst (l.map V.int)):=λo=>by rw[b8 I];exact bt c _ O I
  refine⟨9,p,9,BK j,7,8,9,?_⟩;refine lD (λaa=>?_) (λ_=>?_)
  ·refine⟨9,p,9,BK j,9,7,8,L,?_⟩;refine⟨9,p,9,BK j,9,7,8,⟨L,m1⟩,9,p,9,nY.k (k:=Sum.inr "rest") j d,9,?_⟩;rw[O7];exact k _ _ (abL _ 05) (abM _ L) ⟨l,n,G/m,b,a_,J _,hl,b0,b1,Int.ediv_nonneg c0 05,d0,d1⟩ (bt.trans h_.upd)
  ·have sq:K5 b b:=.inl ⟨05,by simp only[RW]at d1;omega⟩;refine⟨9,p,9,xX j,9,p,9,xX j,7,8,sq,7,8,(by show(0:Int)<2305843009213693951;decide),?_⟩;have u0:=abL (b*b) (show(2305843009213693951:Int)≠0 by decide);have u1:=abM (b*b) (show(0:Int)<2305843009213693951 by decide);refine⟨9,7,8,.inr ⟨02,02⟩,9,p,9,xX j,7,8,.inr ⟨02,02⟩,7,8,7,8,7,8,(by show(0:Int)<2305843009213693951;decide),9,p,9,nY.k (k:=Sum.inr "seed") j d,?_⟩;rw[Ng];generalize M:(b*b % 2305843009213693951*7+b*40503+12345) % 2305843009213693951=sn;have v0:0<=sn:=M▸abL _ 02;have v1:sn<RW:=M▸abM _ 02;refine⟨9,p,9,xX a_,7,8,⟨02,02⟩,9,7,8,L,?_⟩;exact k _ _ (abL _ 05) (abM _ L) ⟨l,n,G,sn,a_,J _,hl,b0,b1,c0,v0,v1⟩ (bt.trans h_.upd)
 ·intro N R;refine⟨9,p,9,BK i,8,9,?_⟩;refine lD (λhz=>?_) (λ_=>?_)
  ·refine⟨9,p,9,Z0 i,9,p,9,HQ i,c,9,.inl (eY.of O),7,8,9,?_⟩;rw[aaf];refine lD (λB=>?_) (λ_=>?_)
   ·have B:a<l.length:=acw B;obtain⟨z,Z⟩:∃z,l[a.toNat]?=some z:=⟨_,aaH 05⟩;have U:rN (l.map V.int) a=some (.int z):=by
     have e:(a:Int)=((a.toNat:Nat):Int):=by omega
     rw[e];refine dw ?_;rw[aaq,Z];rfl
    refine⟨9,p,9,HQ i,9,p,9,Z0 i,c,_,7,8,eY.of O,U,?_⟩;refine⟨9,p,9,Z0 i,7,8,9,p,9,nY.k (k:=Sum.inr "at") i d,?_⟩;rw[pat];refine⟨9,7,8,⟨02,02,02⟩,7,8,9,?_⟩;refine lD (λC=>?_) (λ_=>?_)
    ·refine⟨9,9,p,9,nY.k (k:=Sum.inr "rest") a_ d,?_⟩;rw[O7];have C:(10:Int) ^ 18<=z:=acw C;exact R _ _ ⟨a+1,z,sd,9,a_,h_.upd.trans h_.upd,05,05,05,X,Y⟩
    ·refine⟨9,p,9,xX a_,7,8,.inr ⟨02,02⟩,9,7,8,.inr ⟨02,02⟩,7,8,7,8,7,8,(by show(0:Int)<2305843009213693951;decide),9,p,9,nY.k (k:=Sum.inr "seed") a_ d,?_⟩;rw[Ng];exact R _ _ ⟨a+1,r,7,a_,h_.upd.trans h_.upd,05,05,W,abL _ 02,abM _ 02⟩
   ·exact R _ _ ⟨a,r,sd,9,i,h_.refl,a0,a1,W,X,Y⟩
  ·exact R _ _ ⟨a,r,sd,9,i,h_.refl,a0,a1,W,X,Y⟩
def Dr.dk(d:Dr H p c):∃b,H p=some (.dK b):=by obtain⟨f,a,r,s,e,_⟩:=d.ex;exact⟨_,e⟩
def Dr.seq(d:Dr H p c)(e:h_ p H b)(h:eY K H a xs):eY K b a xs:=let⟨_,f⟩:=d.dk;e.seq f h
def Dr.rep(d:Dr H p c)(e:h_ p H a)(h:Rep K H v x):Rep K a v x:=let⟨_,b⟩:=d.dk;h.but e b
def Dr.new(d:Dr H p c)(h:H q=none):Dr (upd H q o) p c:=d.mono (cu.new h)
inductive yx(K:Zs)(vs:List V)(H:Hp)(Q:VK)(E:XK):Prop
 |mk (p c q:Zl) (xs:List V):vs=[.ref p,.ref q]->Dr H p c->eY K H q xs->xs≠[]->xs.length<=1000->(∀(x:V)(H':Hp),x∈xs->Dr H' p c->h_ p H H'->Q x H')->yx K vs H Q E
def scO:cI ["_law_d","_law_things"] ["_law_d","_law_things"] (bK (top 114)):=by ext
noncomputable def uI(F:gU K "_law_of" "_law_of" (top 114) f n)(T:Txt K mg)(o:fj K mg "_law_pick" (top 113) ["_law_d","_law_many"] m b):cz P w K mg base dM 2 f n ["_law_d","_law_things"] (yx K):=by
 have B:cz P w K mg base dM 1 m b ["_law_d","_law_many"] jC:=jA o.F T;refine F.ok scO 01 λv A d s H vs Q E x h=>?_;obtain⟨p,c,q,a,rfl,D,l,e,G,k⟩:=h;refine⟨_,(c7 (cW (d_ iH 003 (j4 o B x (aK 06 (aK (du dO 004 T.len gK (aK 003 b_)) b_)))))),?_⟩
 try dsimp only[iD]
 have g:0<a.length:=ac5.mpr e;refine⟨9,9,9,q,a,8,(.inl l),p,c,9,D,by lia,by lia,λr C y r1 z bt=>?_⟩;obtain⟨j,rfl⟩:=Int.eq_ofNat_of_zero_le y;have i:j<a.length:=by omega
 exact⟨q,a,_,a[j],8,8,D.seq bt l,dw (aaH i),k _ _ (List.getElem_mem i) z bt⟩
def spS(K:Zs):Nat->Sp
 |0=>λ_ _ _ _=>False
 |n+1=>λvs H Q _=>∃(x y:V)(d:PyData),vs=[x,y]/\Rep K H x d/\Rep K H y d/\jg d<=n/\kZ d<=100000/\∀a:Hp,cu H a->Q (.bl true) a
def scS:cI ["_law_found","_law_due"] ["_law_found","_law_due"] (bK (top 115)):=by ext
def wH{Q:VK}{v:V}{H:Hp}(h:Q (.bl true) H):Q (.bl (decide (v=v))) H:=by rw [aa6 rfl];exact h
set_option tactic.hygienic true in
theorem Mr{f:Zl}{fd:ZB}(DS:fj K mg "_law_same" (top 115) ["_law_found","_law_due"] f fd)(T:Txt K mg)(n:Nat):cz P w K mg base dM n f fd ["_law_found","_law_due"] (spS K n):=by
 refine Nat.rec (motive:=λn=>cz P w K mg base dM n f fd ["_law_found","_law_due"] (spS K n)) ⟨λ_ _ _ _ h=>h.elim,λ_ _ _ _ _ _ _ _ _ _ _ _ _ h=>h.elim⟩ (λn GS=>?_) n;refine DS.F.ok scS 01 λab A Z s H vs Q E hr h=>?_;obtain⟨x,y,d,rfl,hx,O,X,Y,k⟩:=h;refine⟨_,(b7 (dU (dg sJ 003 iZ (di _)) (c7 (cW (iw sJ 06 iZ (di _)))) d9) (b7 (dU (PW.pt (uF (gZ (du iy 004 T.isinstance dZ (aK 003 (aK (jx rfl T.bool oZ) b_)))) (tE (gZ (du iy 004 T.isinstance dZ (aK 06 (aK (jx rfl T.bool oZ) b_))))))) (c7 (cW (j7 (du iy 004 T.isinstance dZ (aK 003 (aK (jx rfl T.bool oZ) b_))) (j7 (du iy 004 T.isinstance dZ (aK 06 (aK (jx rfl T.bool oZ) b_))) (lA (iw g8 06 003 (di _))))))) d9) (b7 (dU (gZ (du vd 004 T.isinstance dZ (aK 003 (aK (gF (aK (jx rfl T.int qQ) (aK (jx rfl T.str vC) b_))) b_)))) (c7 (cW (j7 (du vd 004 T.isinstance dZ (aK 06 (aK (gF (aK (jx rfl T.int qQ) (aK (jx rfl T.str vC) b_))) b_))) (j7 (iw g8 (du iy 004 T.isinstance dZ (aK 06 (aK (jx rfl T.int qQ) b_))) (du iy 004 T.isinstance dZ (aK 003 (aK (jx rfl T.int qQ) b_))) (di _)) (lA (iw g8 06 003 (di _))))))) d9) (b7 (dU (PW.pt (uF (dg xZ (du iy 004 T.isinstance dZ (aK 003 (aK (jx rfl T.list vK) b_))) (du iy 004 T.isinstance dZ (aK 06 (aK (jx rfl T.list vK) b_))) (di _)) (tE (dg xZ (du iy 004 T.isinstance dZ (aK 003 (aK (jx rfl T.tuple jB) b_))) (du iy 004 T.isinstance dZ (aK 06 (aK (jx rfl T.tuple jB) b_))) (di _))))) (c7 (cW j5)) d9) (c7 (cW (j7 (iw g8 (du dO 004 T.len gK (aK 06 b_)) (du dO 004 T.len gK (aK 003 b_)) (di _)) (lA (du (uy rfl) 004 T.all G9 (aK (j0 (own:=["_law_k"]) (js:=[0,1]) (N':=["_law_k","_law_found","_law_due"]) (dJ.of (osc:=bK (top 115)) (N:=["_law_found","_law_due"]) rfl rfl 01) rfl (jR rfl T.range (aK (du dO 004 T.len gK (aK 003 b_)) b_)) (λ_ _ _ _ _=>(eX (i:=0) (show List.Nodup (["_law_k","_law_found","_law_due"]:Y2) by ext) rfl 012 013)) (λ_ _ _ _ _=>gw) (λ_ _ _ _ _=>(j4 DS GS hr (aK (d_ (r:=Yx K) Fl 003 06) (aK (d_ (r:=Yx K) Fl 010 06) b_))))) b_)))))))))),?_⟩
 try dsimp only[iD]
 have z2:2<=sizeLine:=by decide
 cases hx with
 | non=>cases O;refine⟨9,8,9,iM rfl ?_⟩;exact⟨9,8,k _ (cu.refl _)⟩
 | bl b=>cases O;refine⟨9,8,9,gB rfl ?_⟩;refine⟨9,_,_,7,(.bl b),8,9,iM rfl (iM rfl ?_)⟩;exact⟨9,_,_,7,(.bl b),8,9,iM rfl ⟨9,_,_,7,(.bl b),8,9,iM rfl ⟨9,9,8,wH (k _ (cu.refl _))⟩⟩⟩
 | int i=>cases O;refine⟨9,8,9,gB rfl ?_⟩;refine⟨9,_,_,7,(.int i),8,9,gB rfl ?_⟩;refine⟨9,_,_,7,(.int i),8,9,gB rfl ?_⟩;refine⟨9,z2,λp D=>⟨_,p,_,_,7,a_,.int i,8,9,iM rfl ?_⟩⟩;refine⟨9,z2,λp2 F=>⟨_,p2,_,_,7,a_,.int i,8,9,iM rfl ?_⟩⟩;refine⟨9,_,_,7,.int i,8,9,_,_,7,.int i,8,8,9,?_⟩;exact iM rfl ⟨9,9,8,wH (k _ ((cu.new D).trans (cu.new F)))⟩
 | str z=>cases O;refine⟨9,8,9,gB rfl ?_⟩;refine⟨9,_,_,7,(.str z),8,9,gB rfl ?_⟩;refine⟨9,_,_,7,(.str z),8,9,gB rfl ?_⟩;refine⟨9,z2,λp D=>⟨_,p,_,_,7,a_,.str z,8,9,iM rfl ?_⟩⟩;refine⟨9,z2,λp2 F=>⟨_,p2,_,_,7,a_,.str z,8,9,iM rfl ?_⟩⟩;refine⟨9,_,_,7,.str z,8,9,_,_,7,.str z,8,8,9,?_⟩;exact iM rfl ⟨9,9,8,wH (k _ ((cu.new D).trans (cu.new F)))⟩
 | tup g C=>
   cases O with
   | tup o e=>
     rename_i a1 j ds a2 a;refine⟨9,8,9,gB rfl ?_⟩;refine⟨9,_,_,7,(.tup o e),8,9,gB rfl ?_⟩;refine⟨9,_,_,7,(.tup g C),8,9,gB rfl ?_⟩;refine⟨9,z2,λp D=>⟨_,p,_,_,7,a_,Rep.same (.tup o e) (cu.new D),8,9,gB rfl ?_⟩⟩;have c:cu H (upd H p (.tup [.ty "int",.ty "str"])):=cu.new D;refine⟨9,_,_,7,(Rep.same (.tup o e) c),8,9,_,_,7,(Rep.same (.tup g C) c),8,8,9,gB rfl ?_⟩;refine⟨9,_,_,7,(Rep.same (.tup o e) c),8,9,_,_,7,(Rep.same (.tup g C) c),8,8,9,gB rfl ?_⟩;refine⟨9,7,.inr (c.tup g),9,7,.inr (c.tup o),8,9,?_⟩;have l1:=C.length;have l2:=e.length;have B:a.length<=100000:=by simp only[kZ]at Y;omega
     have hl:j.length=a.length:=by omega
     generalize upd H p (.tup [.ty "int",.ty "str"])=H1 at c|-;refine iM (by rw[hl];simp) ?_;obtain⟨n,rfl⟩:∃n',n=n'+1:=⟨n-1,by simp only[jg]at X;omega⟩;refine⟨9,7,.inr (c.tup o),9,05,05,?_⟩;refine nZ (n:=a.length) (λi G l I=>∃(v:Option V),G=(List.replicate i true).map V.bl/\l=[v,some _,some _]/\cu H1 I) (by exact aah B 02) ⟨none,8,8,cu.refl _⟩ ?_ ?_
     ·rintro i G l I W M⟨v,rfl,rfl,m⟩N hN;obtain⟨d1,S,r1⟩:=C.get' (i:=i) (x:=j[i]) (aaH 05);obtain⟨d2,U,r2⟩:=e.get' (i:=i) (x:=a[i]) (aaH W);rw[S]at U;cases U;have R:=aap S;have q1:=sY R;have q2:=rO R;have J:rN j (0+(i:Int))=some j[i]:=by rw[ace];exact dw (aaH 05)
      have L:rN a (0+(i:Int))=some a[i]:=by rw[ace];exact dw (aaH W)
      refine⟨9,9,.inr (.inl ⟨_,_,7,8,(c.trans m).tup g,J,?_⟩)⟩;refine⟨9,9,.inr (.inl ⟨_,_,7,8,(c.trans m).tup o,L,?_⟩)⟩;refine⟨_,_,d1,8,r1.same (c.trans m),r2.same (c.trans m),?_,?_,λaa s3=>?_⟩
      ·simp only[jg]at X;omega
      ·simp only[kZ]at Y;omega
      exact hN _ _ _ 04 ⟨_,by rw[List.replicate_succ',aaA];rfl,8,m.trans s3⟩
     ·rintro G l I M⟨v,rfl,rfl,m⟩;refine⟨by rw[aaf,acr];exact aah B 02,λq hq=>⟨q,9,eY.of a_,?_⟩⟩;show Q (.bl ((List.replicate a.length true).all id)) _;rw[show(List.replicate a.length true).all id=true by simp];exact k _ ((c.trans m).trans (cu.new hq))
 | lst g C=>
   cases O with
   | lst o e=>
     rename_i a1 j ds a2 a;refine⟨9,8,9,gB rfl ?_⟩;refine⟨9,_,_,7,(.lst o e),8,9,gB rfl ?_⟩;refine⟨9,_,_,7,(.lst g C),8,9,gB rfl ?_⟩;refine⟨9,z2,λp D=>⟨_,p,_,_,7,a_,Rep.same (.lst o e) (cu.new D),8,9,gB rfl ?_⟩⟩;have c:cu H (upd H p (.tup [.ty "int",.ty "str"])):=cu.new D;refine⟨9,_,_,7,(Rep.same (.lst o e) c),8,9,_,_,7,(Rep.same (.lst g C) c),8,8,9,gB rfl ?_⟩;refine⟨9,_,_,7,(Rep.same (.lst o e) c),8,9,_,_,7,(Rep.same (.lst g C) c),8,8,9,gB rfl ?_⟩;refine⟨9,7,.inl (c.seq g),9,7,.inl (c.seq o),8,9,?_⟩;have l1:=C.length;have l2:=e.length;have B:a.length<=100000:=by simp only[kZ]at Y;omega
     have hl:j.length=a.length:=by omega
     generalize upd H p (.tup [.ty "int",.ty "str"])=H1 at c|-;refine iM (by rw[hl];simp) ?_;obtain⟨n,rfl⟩:∃n',n=n'+1:=⟨n-1,by simp only[jg]at X;omega⟩;refine⟨9,7,.inl (c.seq o),9,05,05,?_⟩;refine nZ (n:=a.length) (λi G l I=>∃(v:Option V),G=(List.replicate i true).map V.bl/\l=[v,some _,some _]/\cu H1 I) (by exact aah B 02) ⟨none,8,8,cu.refl _⟩ ?_ ?_
     ·rintro i G l I W M⟨v,rfl,rfl,m⟩N hN;obtain⟨d1,S,r1⟩:=C.get' (i:=i) (x:=j[i]) (aaH 05);obtain⟨d2,U,r2⟩:=e.get' (i:=i) (x:=a[i]) (aaH W);rw[S]at U;cases U;have R:=aap S;have q1:=sY R;have q2:=rO R;have J:rN j (0+(i:Int))=some j[i]:=by rw[ace];exact dw (aaH 05)
      have L:rN a (0+(i:Int))=some a[i]:=by rw[ace];exact dw (aaH W)
      refine⟨9,9,.inl ⟨_,_,7,8,(c.trans m).seq g,J,?_⟩⟩;refine⟨9,9,.inl ⟨_,_,7,8,(c.trans m).seq o,L,?_⟩⟩;refine⟨_,_,d1,8,r1.same (c.trans m),r2.same (c.trans m),?_,?_,λaa s3=>?_⟩
      ·simp only[jg]at X;omega
      ·simp only[kZ]at Y;omega
      exact hN _ _ _ 04 ⟨_,by rw[List.replicate_succ',aaA];rfl,8,m.trans s3⟩
     ·rintro G l I M⟨v,rfl,rfl,m⟩;refine⟨by rw[aaf,acr];exact aah B 02,λq hq=>⟨q,9,eY.of a_,?_⟩⟩;show Q (.bl ((List.replicate a.length true).all id)) _;rw[show(List.replicate a.length true).all id=true by simp];exact k _ ((c.trans m).trans (cu.new hq))
end
def Lc(x:Str):Prop:=∀c∈x.cps.toList,97<=c/\c<=122
structure Nm(x:Str):Prop where
 lo:1<=x.length
 hi:x.length<=8
 lc:Lc x
def Lc.app(a:Lc x)(b:Lc y):Lc (x++y):=λc d=>by rw[Str.cps_append,acb,aam]at d;exact d.elim (a c) (b c)
theorem rB(a:Str)(c:a.cps.toList=[]):∀b:List Str,(Str.join a b).cps.toList=(b.map (·.cps.toList)).flatten
 |[]=>rfl
 |[x]=>by show x.cps.toList=_;simp
 | x::y::r=>by show(x++a++Str.join a (y::r)).cps.toList=_;rw[Str.cps_append,acb,Str.cps_append,acb,c,aa0,rB a c (y::r),aay (l:=y::r),List.flatten_cons]
def Ja(a:Str)(b:Y2):PySem.Txt.join a b=Str.join a b:=by show PySem.Builtin.Str.glued a b=_;rw[PySem.StrLaws.glued_eq_join]
def Be(x:Str):x.length=x.cps.toList.length:=by simp[Str.length]
section
variable{P:ZE}{w:ZH}{K:Zs}{mg:Y1}{base:ZN}
inductive vJ(vs:List V)(H:Hp)(Q:VK)(E:XK):Prop
 |mk (p dc:Zl):vs=[.ref p]->Dr H p dc->(∀(x:Str)(H':Hp),Nm x->Dr H' p dc->h_ p H H'->Q (.str x) H')->vJ vs H Q E
def TX:cI ["_law_d","_law_letters","_law_first","_law_size","_law_some"] ["_law_d"] (bK (top 116)):=by ext
def zQ(h:rN ("abcdefghijklmnopqrstuvwxyz":Str).cps.toList i=some c):97<=c/\c<=122:=by
 have:c∈("abcdefghijklmnopqrstuvwxyz":Str).cps.toList:=by unfold rN at h;obtain⟨j,_,e⟩:=Option.bind_eq_some_iff.mp h;exact aap e
 have all:∀c∈("abcdefghijklmnopqrstuvwxyz":Str).cps.toList,97<=c/\c<=122:=by ext
 exact all c this
noncomputable def Bp(F:gU K "_law_word" "_law_word" (top 116) f fd)(T:Txt K mg)(U:fj K mg "_law_pick" (top 113) ["_law_d","_law_many"] fP R)(DO:fj K mg "_law_of" (top 114) ["_law_d","_law_things"] fO S):
 cz P w K mg base dM 3 f fd ["_law_d"] vJ:=by
 have GP:cz P w K mg base dM 1 fP R ["_law_d","_law_many"] jC:=jA U.F T;have GO:cz P w K mg base dM 2 fO S ["_law_d","_law_things"] (yx K):=uI DO.F T U;refine F.ok TX 01 λag A Y s H vs Q E hr h=>?_;obtain⟨p,C,rfl,D,k⟩:=h;have B:dX 1 _:=hr.mono 02;refine⟨_,(b7 (j8 1 TX.nd cZ) (b7 (j8 2 TX.nd (j4 DO GO hr (aK 06 (aK (gQ (aK cZ (aK cZ (aK cZ (aK cZ (aK cZ b_)))))) b_)))) (b7 (j8 3 TX.nd (eN iK cj (j4 U GP B (aK 06 (aK (eN lE cj (du o_ 004 T.len gK (aK 010 b_))) b_))))) (b7 (j8 4 TX.nd (oY acf PySem.F.slot_str_join PySem.F.type_str_join Bq cZ (aK (j0 (own:=["_law_k"]) (js:=[1,0]) (N':=["_law_k","_law_letters","_law_d"]) (dJ.of (osc:=bK (top 116)) (N:=["_law_d","_law_letters","_law_first","_law_size","_law_some"]) rfl rfl 01) rfl (jR rfl T.range (aK (pv 3) b_)) (λ_ _ _ _ _=>(eX (i:=0) (show List.Nodup (["_law_k","_law_letters","_law_d"]:Y2) by ext) rfl 012 013)) (λ_ _ _ _ _=>gw) (λ_ _ _ _ _=>(d_ (r:=R7) vR 003 (j4 U GP B (aK 010 (aK cj b_)))))) b_))) (c7 (cW (d_ iH (gQ (aK (eN l_ 010 (pv 4)) (aK (eN l_ (pv 4) 010) b_))) (j4 U GP B (aK 06 (aK cj b_)))))))))),?_⟩
 try dsimp only[iD]
 refine⟨9,01,λq hq=>?_⟩;refine⟨p,C,q,9,D.new hq,eY.of a_,04,04,λx H1 m D1 b1=>?_⟩;obtain⟨z,rfl,hz,lz⟩:∃z:Str,x=.str z/\z.length<=7/\Lc z:=by
  simp only[aag,aba,or_false]at m;rcases m with rfl|rfl|rfl|rfl|rfl
  all_goals exact⟨_,rfl,01,by unfold Lc;decide+kernel⟩
 refine⟨_,rfl,_,rfl,z,rfl,aah hz 02,_,_,rfl,rfl,p,C,_,rfl,D1,by lia,by lia,λr H2 r0 r1 D2 b2=>?_⟩;refine⟨7,8,?_⟩;refine⟨8,9,9,05,05,?_⟩;refine nZ (n:=(1+r).toNat) (λi Z y W=>∃(cs:Y2)(v:Option V),Z=cs.map V.str/\y=[v,some (.str "abcdefghijklmnopqrstuvwxyz"),some (.ref p)]/\Dr W p C/\h_ p H2 W/\∀c∈cs,c.length=1/\Lc c) (aah (show(1+r).toNat<=8 by omega) 02) ⟨[],none,8,8,D2,h_.refl,λ_ h=>nomatch h⟩ ?_ ?_
 ·rintro i Z y W hi b⟨cs,v,rfl,rfl,D3,b3,O⟩N hN;refine⟨9,9,p,C,9,D3,02,02,λr' H4 G aa X b4=>?_⟩;obtain⟨j,rfl⟩:=Int.eq_ofNat_of_zero_le G;obtain⟨c,ad⟩:∃c,("abcdefghijklmnopqrstuvwxyz":Str).cps.toList[j]?=some c:=⟨_,aaH (by show j<26;omega)⟩;have L:rN ("abcdefghijklmnopqrstuvwxyz":Str).cps.toList (j:Int)=some c:=dw ad;refine⟨_,_,c,8,8,01,L,?_⟩;refine hN _ _ _ (by simpa using b) ⟨cs++[⟨#[c]⟩],_,04,8,X,b3.trans b4,λc' a=>?_⟩;rcases aam.mp a with a|a
  ·exact O c' a
  ·obtain rfl:c'=⟨#[c]⟩:=by simpa using a
   refine⟨8,λx m=>?_⟩;obtain rfl:x=c:=by simpa using m
   exact zQ L
 ·rintro Z y W b⟨cs,v,rfl,rfl,D3,b3,O⟩;rw[aaf]at b;refine⟨by rw[aaf,b];exact aah (show(1+r).toNat<=8 by omega) 02,λq2 I=>?_⟩;have g:(cs.map (·.length)).sum=cs.length:=by
   clear b;induction cs with
   |nil=>rfl
   |cons c t ih=>rw[aay,abx,ih λd hd=>O d (aai _ hd),(O c aan).1,aaz,Nat.add_comm]
  refine⟨_,q2,cs,8,8,eY.of a_,by rw[g,show(Str.ofString "").length=0 from rfl];omega,?_⟩;rw[Ja];have jl:(Str.join (Str.ofString "") cs).length=cs.length:=by rw[Be,rB _ rfl,List.length_flatten,aby,<-g];congr 1
  have jc:Lc (Str.join (Str.ofString "") cs):=λx m=>by rw[rB _ rfl]at m;obtain⟨l,hl,ae⟩:=List.mem_flatten.mp m;obtain⟨c,af,rfl⟩:=aao.mp hl;exact(O c af).2 x ae
  generalize Str.join (Str.ofString "") cs=e at jl jc;have ah:e.length+z.length<=8/\1<=e.length:=by omega
  refine⟨9,9,7,8,aah (show z.length+e.length<=8 by omega) 02,9,9,7,8,aah (show e.length+z.length<=8 by omega) 02,01,λq3 J=>?_⟩;have X:Dr _ p C:=(D3.new (o:=.lst (cs.map V.str)) I).new (o:=.lst [.str (z++e),.str (e++z)]) J;refine⟨9,p,C,9,X,02,02,λr' H5 G aa D5 b5=>?_⟩;have ab:Nm (z++e):=⟨by rw[abN];omega,by rw[abN];omega,lz.app jc⟩;have ac:Nm (e++z):=⟨by rw[abN];omega,by rw[abN];omega,jc.app lz⟩;have bt:h_ p H H5:=((((h_.new hq).trans b1).trans b2).trans b3).trans (((h_.new I).trans (h_.new J)).trans b5);have M:eY K H5 q3 [.str (z++e),.str (e++z)]:=X.seq b5 (eY.of a_);by_cases h0:r'=0
  ·subst h0;exact⟨_,_,7,8,M,8,k _ _ ab D5 bt⟩
  ·obtain rfl:r'=1:=by omega
   exact⟨_,_,7,8,M,8,k _ _ ac D5 bt⟩
inductive qi(K:Zs)(vs:List V)(H:Hp)(Q:VK)(E:XK):Prop
 |mk (p dc:Zl) (m:Int):vs=[.ref p,.int m]->Dr H p dc->0<=m->m<=60->(∀(q:Zl)(ys:Y2)(H':Hp),H' q=some (.lst (ys.map V.str))->H q=none->(ys.length:Int)=m->(∀y∈ys,Nm y)->ys.Nodup->Dr H' p dc->h_ p H H'->Q (.ref q) H')->qi K vs H Q E
def En:cI ["_law_d","_law_many","_law_found","_law_k","_law_word_here","_law_step"] ["_law_d","_law_many"] (bK (top 117)):=by ext
noncomputable def wd(t:Nat):Str:=⟨#[97+t % 8,113+t/8 % 8]⟩
def Ud(t:Nat):Nm (wd t):=⟨by show 1<=2;decide,by show 2<=8;decide,λc a=>by
 have:c=97+t % 8\/c=113+t/8 % 8:=by simpa[wd]using a
 omega⟩
def R6(h:wd (k+s)=wd (k+a))(c:s<64)(d:a<64):s=a:=by
 have e:(#[97+(k+s) % 8,113+(k+s)/8 % 8]:Array Nat)=#[97+(k+a) % 8,113+(k+a)/8 % 8]:=aaB Str.cps h;have b:97+(k+s) % 8=97+(k+a) % 8/\113+(k+s)/8 % 8=113+(k+a)/8 % 8:=by simpa using aaB Array.toList e
 omega
theorem sub_len{d:Type}[DecidableEq d]:∀{l ys:List d},l.Nodup->(∀x∈l,x∈ys)->l.length<=ys.length
 |[],_,_,_=>aaU _
 | a::l,ys,nd,hs=>by obtain⟨e,f⟩:=aaK.mp nd;have c:=hs a aan;have q:=sub_len (ys:=ys.erase a) f λx b=>(List.mem_erase_of_ne (by intro z;exact e (z▸b))).mpr (hs x (aai _ b));rw[List.length_erase_of_mem c]at q;have:=List.length_pos_of_mem c;rw[aaz];omega
theorem Fg{d o:Type}{f:d->o}:∀{l:List d},l.Nodup->(∀a∈l,∀b∈l,f a=f b->a=b)->(l.map f).Nodup
 |[],_,_=>abm
 | a::l,nd,h=>by obtain⟨j,n⟩:=aaK.mp nd;rw[aay];refine aaK.mpr ⟨λm=>?_,Fg n λx g y i=>h x (aai _ g) y (aai _ i)⟩;obtain⟨b,c,e⟩:=aao.mp m;exact j (h b (aai _ c) a aan e▸c)
def R3{c:Y2}(l:c.length<64)(h:∀s,s<64->wd (k+s)∈c):False:=by
 have i:((List.range 64).map λs=>wd (k+s)).Nodup:=Fg List.nodup_range λa d b f e=>R6 e (acm.mp d) (acm.mp f);have q:=sub_len i λx g=>by obtain⟨s,j,rfl⟩:=aao.mp g;exact h s (acm.mp j)
 rw[aaf,List.length_range]at q;omega
noncomputable def wZ(F:gU K "_law_words" "_law_words" (top 117) f fd)(T:Txt K mg)(DP:fj K mg "_law_pick" (top 113) ["_law_d","_law_many"] fP fdP)(DO:fj K mg "_law_of" (top 114) ["_law_d","_law_things"] fO fdO)
 (DW:fj K mg "_law_word" (top 116) ["_law_d"] fW I):cz P w K mg base dM 4 f fd ["_law_d","_law_many"] (qi K):=by
 have GW:cz P w K mg base dM 3 fW I ["_law_d"] vJ:=Bp DW.F T DP DO;refine F.ok En 01 λae A N s H vs Q E hr h=>?_;obtain⟨p,Z,m,rfl,D,m0,m1,k⟩:=h;refine⟨_,(b7 (j8 2 En.nd (gQ b_)) (b7 (jy abh rfl (jR rfl T.range (aK 003 b_)) (kJ 3 En.nd) (b7 (j8 4 En.nd (j4 DW GW hr (aK 06 b_))) (b7 (jy abh rfl (jR rfl T.range (aK cj b_)) (kJ 5 En.nd) (c7 (dU (dg nA (pv 4) 010 rfl) (c7 (j8 4 En.nd (eN l_ (d_ vR cZ (eN lC (eN iK (pv 3) (pv 5)) cj)) (d_ vR cZ (eN lC (eN Bb (eN iK (pv 3) (pv 5)) cj) cj))))) d9))) (c7 (eE (oY abq abv abO jU 010 (aK (pv 4) b_))))))) (c7 (cW 010)))),?_⟩
 try dsimp only[iD]
 refine⟨01,λq B=>?_⟩;refine⟨9,m,8,05,05,?_⟩;refine pJ (n:=m.toNat) (λi g r=>∃(d:Y2)(a b c:Option V),g=[some (.ref p),some (.int m),some (.ref q),a,b,c]/\r q=some (.lst (d.map V.str))/\d.length=i/\(∀y∈d,Nm y)/\d.Nodup/\Dr r p Z/\h_ p H r)
  ⟨[],none,none,none,8,a_,8,(λ_ h=>by cases h),abm,D.new B,h_.new B⟩ ?_ ?_
 ·rintro i g r hi⟨d,a,b,c,rfl,L,hl,hy,nd,M,b1⟩;refine⟨9,p,Z,8,M,λx H2 nx D2 b2=>?_⟩;have J:H2 q=some (.lst (d.map V.str)):=b2 q _ L (M.ne L (by intro aa z;cases z));refine⟨9,02,02,?_⟩;refine pJ (n:=64) (λj g O=>∃(z:Str)(c:Option V),g=[some (.ref p),some (.int m),some (.ref q),some (.int (0+(i:Int))),some (.str z),c]/\Nm z/\O=H2/\(z∉d\/∀s,s<j->wd (i+s)∈d)) ⟨x,9,nx,8,.inr λs hs=>absurd hs (acA _)⟩ ?_ ?_
  ·rintro j g O hj⟨z,c,rfl,nz,rfl,hz⟩;refine⟨9,9,q,9,.inl (eY.of J),8,?_,9,?_⟩
   ·rw[abS];intro v hv;obtain⟨y,_,rfl⟩:=aao.mp hv;rfl
   ·have C:inV (.str z) (d.map V.str)=true↔z∈d:=by
     unfold inV;rw[List.any_map,ab4];constructor
     ·rintro⟨y,ab,ac⟩;have:y=z:=by simpa[zm]using ac
      exact this▸ab
     ·intro l;exact⟨z,l,by simp[zm]⟩
    refine lD (λR=>?_) (λR=>⟨z,9,nz,8,.inl λl=>R (C.mpr l)⟩);have U:=C.mp R;have W:∀s,s<j->wd (i+s)∈d:=hz.elim (λn=>absurd U n) id;have u1:(0+(i:Int)+(0+(j:Int))) % 8=(((i+j) % 8:Nat):Int):=by omega
    have u2:(0+(i:Int)+(0+(j:Int)))/8 % 8=(((i+j)/8 % 8:Nat):Int):=by omega
    have h1:("abcdefgh":Str).cps.toList[(i+j) % 8]?=some (97+(i+j) % 8):=by have:=Nat.mod_lt (i+j) (show 0<8 by decide);generalize(i+j) % 8=m8 at this;revert m8;decide+kernel
    have h2:("qrstuvwx":Str).cps.toList[(i+j)/8 % 8]?=some (113+(i+j)/8 % 8):=by have:=Nat.mod_lt ((i+j)/8) (show 0<8 by decide);generalize(i+j)/8 % 8=m8 at this;revert m8;decide+kernel
    refine⟨9,9,7,8,7,8,(by show(0:Int)<8;decide),_,7,8,01,(by rw[u1];exact dw h1),?_⟩;refine⟨9,9,7,8,7,8,⟨02,02⟩,7,8,(by show(0:Int)<8;decide),_,7,8,01,(by rw[u2];exact dw h2),?_⟩;refine⟨7,8,(show 1+1<=sizeLine by decide),wd (i+j),9,Ud _,8,?_⟩;by_cases hw:wd (i+j)∈d
    ·refine .inr λs hs=>?_;by_cases ad:s=j
     ·rw[ad];exact hw
     ·exact W s 05
    ·exact .inl hw
  ·rintro g O⟨z,c,rfl,nz,rfl,hz⟩;have G:z∉d:=hz.elim id λh=>(R3 05 h).elim;refine⟨9,.inl ⟨8,_,eY.of J⟩,9,q,7,8,J,by rw[aaf];exact n6 05,?_⟩;have X:q≠Z:=by obtain⟨xs,e⟩:=D.cell;exact(cg e B).symm
   have Y:q≠p:=D2.ne J (by intro aa z;cases z);refine⟨d++[z],_,7,by rw[a_];simp,by simp[hl],λy S=>(aam.mp S).elim (hy y) (λh=>by rw[aal.mp h];exact nz),Bu nd G,D2.put Y X,λb o e hb=>?_⟩;rw[b8 (cg e B)];exact(b1.trans b2) b o e hb
 ·rintro g r⟨d,a,b,c,rfl,L,hl,hy,nd,M,b1⟩;exact⟨9,k q d r L B 05 hy nd M b1⟩
end
abbrev j9:=Str×Int×Int
structure nU(f:j9):Prop where
 nm:Nm f.1
 lo:-999999<=f.2.1
 le:f.2.1<=f.2.2
 hi:f.2.2<=999999
def TK(H c:Hp):Prop:=∀b a,H b=some (.tup a)->c b=some (.tup a)
def TK.trans(a:TK H e)(b:TK e f):TK H f:=λc d h=>b c d (a c d h)
def TK.but(d:Dr H p f)(b:h_ p H a):TK H a:=λc g h=>b c _ h (d.ne h (by intro e z;cases z))
def TK.lst(h:H q=some (.lst a)):TK H (upd H q o):=λc b e=>by rw[b8 (iV e h 005)];exact e
def TK.new(h:H q=none):TK H (upd H q o):=λc a e=>by rw[b8 (cg e h)];exact e
def jw(H:Hp)(x:V)(f:j9):Prop:=∃b,x=.ref b/\H b=some (.tup [.str f.1,.int f.2.1,.int f.2.2])
def jw.tk(h:jw H x f)(k:TK H a):jw a x f:=let⟨b,e,q⟩:=h;⟨b,e,k _ _ q⟩
theorem gD:∀{a:List V}{fs:List j9},Paired (jw H) a fs->TK H b->Paired (jw b) a fs
 |_,_,.nil,_=>.nil
 |_,_,.cons r t,k=>.cons (r.tk k) (gD t k)
noncomputable def uni:∀c<128,Unicode.isAlpha c=(decide (65<=c/\c<=90)||decide (97<=c/\c<=122))/\Unicode.isLower c=decide (97<=c/\c<=122)/\Unicode.isUpper c=decide (65<=c/\c<=90)/\Unicode.isTitle c=false:=by ext
noncomputable def nameB(x:Str):Bool:=decide (x.length<=8)&&(x.cps.all (·<128)&&((x.length >0&&x.cps.all Unicode.isAlpha)&&(x.cps.any Unicode.isLower&&!x.cps.any λc=>Unicode.isUpper c||Unicode.isTitle c)))
def lJ(x:Str):nameB x=true↔Nm x:=by
 unfold nameB;simp only[aaM,aa8,Bool.not_eq_true',<-Array.all_toList,<-Array.any_toList,abS,ab4,acO];constructor
 ·rintro⟨e,o,⟨d,f⟩,⟨v,p,q⟩,r⟩;refine⟨d,e,λc a=>?_⟩;have j:c<128:=o c a;obtain⟨l,s,m,n⟩:=uni c j;have g:=f c a;have h:=r c a;rw[l]at g;rw[m,n]at h;simp at g h;omega
 ·rintro⟨d,e,i⟩;have b:∀c∈x.cps.toList,c<128/\97<=c/\c<=122:=λc a=>⟨by have:=i c a;omega,i c a⟩;refine⟨e,λc a=>(b c a).1,⟨d,λc a=>?_⟩,?_,λc a=>?_⟩
  ·rw[(uni c (b c a).1).1];simp[(b c a).2]
  ·rw[Be]at d;obtain⟨c,a⟩:=List.exists_mem_of_length_pos (show 0<x.cps.toList.length by omega);exact⟨c,a,by rw[(uni c (b c a).1).2.1];simp[(b c a).2]⟩
  ·rw[(uni c (b c a).1).2.2.1,(uni c (b c a).1).2.2.2];have:=(b c a).2;simp;omega
structure tO(mg:Y1):Prop where
 ml:∃t,mg "MOST_LETTERS"=some (.int 8 t)
 mf:∃t,mg "MOST_FIELDS"=some (.int 4 t)
 lim:∃t,mg "LIMIT"=some (.int 999999 t)
section
variable{P:ZE}{w:ZH}{K:Zs}{mg:Y1}{base:ZN}
inductive oW(vs:List V)(H:Hp)(Q:VK)(E:XK):Prop
 |mk (x:Str):vs=[.str x]->x.length<=sizeLine->Q (.bl (nameB x)) H->oW vs H Q E
def Zj:cI ["text"] ["text"] (bK (top 26)):=by ext
def uh(F:gU K "is_name" "is_name" (top 26) f c)(T:Txt K mg)(TK:tO mg):cz P w K mg base dM 1 f c ["text"] oW:=by
 refine F.ok Zj 01 λd A a s H vs Q E i h=>?_;obtain⟨x,rfl,e,k⟩:=h;obtain⟨j,g⟩:=TK.ml;refine⟨_,(c7 (cW (j7 (iw kj (du o_ 004 T.len gK (aK 06 b_)) (gG (v:=.int 8) rfl g ⟨9⟩) (di _)) (j7 (wu acf PySem.F.slot_str_isascii PySem.F.type_str_isascii yP 06) (j7 (wu acf PySem.F.slot_str_isalpha PySem.F.type_str_isalpha yS 06) (lA (wu acf PySem.F.slot_str_islower PySem.F.type_str_islower zN 06))))))),?_⟩
 try dsimp only[iD]
 refine⟨9,x,8,e,7,8,9,?_⟩;unfold nameB at k;by_cases b:x.length<=8
 ·refine iM (by simp;omega) ⟨9,8,x,8,8,9,?_⟩;rw[aa6 b,abP]at k;cases h1:x.cps.all (·<128)with
  |false=>rw[h1]at k;exact gB h1 k
  | true=>
    rw[h1,abP]at k;refine iM h1 ⟨9,8,x,8,8,9,?_⟩;cases h2:(x.length >0&&x.cps.all Unicode.isAlpha)with
    |false=>rw[h2]at k;exact gB h2 k
    | true=>rw[h2,abP]at k;exact iM h2 ⟨9,8,x,8,8,k⟩
 ·refine gB (by simp;omega) ?_;rw[aaR b,abX]at k;exact k
inductive jW(vs:List V)(H:Hp)(Q:VK)(E:XK):Prop
 |mk (x:Str):vs=[.str x]->Nm x->Q .non H->jW vs H Q E
def XH:cI ["text"] ["text"] (bK (top 27)):=by ext
def mZ(F:gU K "need_name" "need_name" (top 27) f d)(T:Txt K mg)(TK:tO mg)(e:fj K mg "is_name" (top 26) ["text"] c a):cz P w K mg base dM 2 f d ["text"] jW:=by
 have j:cz P w K mg base dM 1 c a ["text"] oW:=uh e.F T TK;refine F.ok XH 01 λg A b s H vs Q E i h=>?_;obtain⟨x,rfl,nm,k⟩:=h;refine⟨_,(c7 (dU (ju (gZ (j4 e j i (aK 06 b_)))) (c7 eU) d9)),?_⟩
 try dsimp only[iD]
 refine⟨9,x,8,aah nm.hi 02,9,?_⟩;rw[(lJ x).mpr nm];exact gB rfl k
inductive lZ(vs:List V)(H:Hp)(Q:VK)(E:XK):Prop
 |mk (a:Zl) (xs:List V) (fs:List j9):vs=[.ref a]->H a=some (.tup xs)->Paired (jw H) xs fs->fs.length<=60->(∀f∈fs,nU f)->(fs.map (·.1)).Nodup->(∀H',cu H H'->Q .non H')->lZ vs H Q E
theorem ji{a d:Type}{F:a->d->Prop}:∀{b:List a}{c:List d}{i:Nat}{x:a},Paired F b c->b[i]?=some x->∃y,c[i]?=some y/\F x y
 |_,_,_,_,.nil,e=>by simp at e
 |_,_,0,_,.cons r _,e=>by simp at e;subst e;exact⟨9,r⟩
 | _,_,i+1,x,.cons _ t,e=>by obtain⟨y,f,g⟩:=ji (i:=i) (x:=x) t (by simpa using e);exact⟨y,by simpa using f,g⟩
def Fj:cI ["fields","seen","name","low","high"] ["fields"] (bK (top 28)):=by ext
noncomputable def tU(F:gU K "need_fields" "need_fields" (top 28) f W)(T:Txt K mg)(z:tO mg)(DI:fj K mg "is_name" (top 26) ["text"] fI N)(X:fj K mg "need_name" (top 27) ["text"] U r):cz P w K mg base dM 3 f W ["fields"] lZ:=by
 have GN:cz P w K mg base dM 2 U r ["text"] jW:=mZ X.F T z DI;refine F.ok Fj 01 λY A I s H vs Q E Z h=>?_;obtain⟨a,L,fs,rfl,ha,R,hl,hf,nd,k⟩:=h;obtain⟨tl,S⟩:=z.lim;refine⟨_,(b7 (j8 1 Fj.nd (gQ b_)) (c7 (jy abh rfl (mJ 06) (ii rfl (d8 (kJ 2 Fj.nd) (d8 (kJ 3 Fj.nd) (d8 (kJ 4 Fj.nd) gj)))) (b7 (eE (j4 X GN Z (aK 010 b_))) (b7 (dU (dg nA 010 003 rfl) (c7 eU) d9) (b7 (dU (ju (CJ kj kj kj (pU mH (gG (v:=.int 999999) rfl S ⟨9⟩)) (pv 3) (pv 4) (gG (v:=.int 999999) rfl S ⟨9⟩))) (c7 eU) d9) (c7 (eE (oY abq abv abO jU 003 (aK 010 b_)))))))))),?_⟩
 try dsimp only[iD]
 refine⟨01,λq J=>?_⟩;have pl:=aaS R;have m:∀{O:Hp},cu H O->O a=some (.tup L):=λe=>e _ _ ha;refine⟨9,a,8,⟨_,e_.of (m (cu.new J))⟩,jV (xs:=L) (λi B l=>∃(b c d:Option V),B=[some (.ref a),some (.ref q),b,c,d]/\l q=some (.lst (((fs.map (·.1)).take i).map V.str))/\cu H l) ⟨none,none,none,8,by rw[a_];simp,cu.new J⟩ (λi B l _⟨_,_,_,_,_,e⟩=>e_.of (m e)) ?_ ?_⟩
 ·rintro i x B l hi⟨b,c,d,rfl,D,G⟩;obtain⟨⟨n,lo,ab⟩,g,b',rfl,hb⟩:=ji R hi;have C:=hf _ (aap g);have aa:i<fs.length:=(aaD.mp g).1;refine⟨b',9,e_.of (G _ _ hb),8,7,7,7,8,?_⟩;refine⟨9,n,8,C.nm,?_⟩;have p:n∉(fs.map (·.1)).take i:=by
   intro hm;have h1:(fs.map (·.1))[i]?=some n:=by rw[aaq,g];rfl
   obtain⟨j,hj,e⟩:=List.getElem_of_mem hm;rw[aaV]at hj;rw[List.getElem_take]at e;have h2:(fs.map (·.1))[j]?=some n:=by rw[aaH 05,e]
   have:=oU nd h1 h2;omega
  refine⟨9,9,q,9,.inl (eY.of D),8,?_,9,?_⟩
  ·rw[abS];intro v hv;obtain⟨y,_,rfl⟩:=aao.mp hv;rfl
  refine gB ?_ ?_
  ·show inV (.str n) _=false;unfold inV;rw[List.any_map,acO];intro y hy M;have:y=n:=by simpa[zm]using M
   exact p (this▸hy)
  have f1:=C.lo;have f2:=C.le;have f3:=C.hi;refine⟨9,9,7,8,9,iM (by simpa using f1) ?_⟩;refine⟨9,7,8,9,iM (by simpa using f2) ?_⟩;refine⟨7,8,9,gB (by simpa using f3) ?_⟩;have lt:((fs.map (·.1)).take i).length<=60:=by rw[aaV,aaf];omega
  refine⟨9,.inl ⟨8,_,eY.of D⟩,9,q,7,8,D,by rw[aaf];exact n6 05,?_⟩;refine⟨_,7,?_,λc o e=>by rw[b8 (cg e J)];exact G c o e⟩;rw[a_,aaW,aaq,g];simp
 ·rintro B l⟨b,c,d,rfl,D,G⟩;exact k l G
end
structure mR(K:Zs)(x qual:Str)(st:Stmt)(dV:ZI)(f:Zl)(fd:ZB):Prop where
 ex:∃(oc:ZI)(od:YE)(kV doc pm:ZI)(an:YE)(cdv ct:ZI)(osl:YV),
  fd=PySem.W.fnOf x qual (dI st) (dq st) (bK st) dV kV doc pm an cdv ct/\K.lookup f=some ⟨oc,od,.func fd,osl⟩/\PySem.W.codeIn K cdv qual=true
 kp:PySem.W.keepIn K (.ref f)=true
section
variable{P:ZE}{w:ZH}{K:Zs}{mg:Y1}{base:ZN}
def mR.ok(F:mR K x b e y f m)(S:cI N j (bK e))(len:∀vs H Q E,l vs H Q E->vs.length=j.length)
 (d:∀(c:ZI)(A:ZO)(a:List Env)(s:Zp)(H:Hp)(vs:List V)(Q:VK)(E:XK),dX k (A.deeper (PyProof.Rows.envOfC b (bK e) s.heap.objs.size f c))->l vs H Q E->∃t,wR (iD dM P w K mg base N b (bK e) f c A a s H E).nox (dq e) t/\t {nx:=λ_ n=>Q .non n,rt:=Q} (L2.start N vs) H):cz P w K mg base dM (k+1) f m j l:=by
 obtain⟨oc,od,kV,p,z,an,c,B,r,rfl,v,i⟩:=F.ex;refine xf v i S len λA a s H vs Q E o g=>?_;obtain⟨t,h,q⟩:=d c A a s H vs Q E o g;exact⟨t,h.nox,q⟩
def mR.binds(F:mR K x a g (.ref T) f m)(r:K.lookup T=some l)(hd:l.data=.seq d n)
 (h:∀(kV b i:ZI)(an:YE)(c j:ZI)(s:Zp)(e:Y3),s.heap.get? T=some l->(e++ds).length=ps.length->BindsTo s (PySem.W.fnOf x a (dI g) (dq g) (bK g) (.ref T) kV b i an c j) ⟨e,[]⟩ (ps.zip (e++ds))):Binds K m ps ds:=by
 obtain⟨oc,od,kV,b,i,an,c,j,p,rfl,v,q⟩:=F.ex;exactλs e X o=>h kV b i an c j s e (X _ _ r) o
abbrev xQ:Stmt:=inClass (top 30) 0
theorem Iz(hd:g.data=.seq #[i] n)(kV e j:ZI)(an:YE)(f l:ZI)(s:Zp)(d:Y3)(m:s.heap.get? T=some g)(h:(d++[]).length=(["self","name","fields"]:Y2).length):
 BindsTo s (PySem.W.fnOf "__init__" "Kind.__init__" (dI xQ) (dq xQ) (bK xQ) (.ref T) kV e j an f l) ⟨d,[]⟩ ((["self","name","fields"]:Y2).zip (d++[])):=by
 rw[aa0]at h|-
 match d,h with
 |[a,b,c],_=>exact acg rfl m hd rfl rfl
structure KCls(K:Zs)(mg:Y1)(C:Zl):Prop where
 cl:uC K C
 nN:eH K C "name"
 nF:eH K C "fields"
 mg:mg "Kind"=some (.ref C)
def nf:¬(("name":Str)="fields"):=by ext
noncomputable def kf(n:Str)(a:Zl):List (Str×V):=fX "fields" (.ref a) (fX "name" (.str n) [])
def Ba(n:Str)(a:Zl):(kf n a).lookup ("name":Str)=some (.str n):=by unfold kf;rw[ik,aab nf,ik,aac rfl]
def jQ(n:Str)(a:Zl):(kf n a).lookup ("fields":Str)=some (.ref a):=by unfold kf;rw[ik,aac rfl]
def uH(n:Str)(a:Zl){m:Str}(b:¬m="fields")(c:¬m="name"):(kf n a).lookup m=none:=by unfold kf;rw[ik,aab b,ik,aab c];rfl
structure gA(C:Zl)(H:Hp)(o:Zl)(n:Str)(a:Zl)(fs:List j9):Prop where
 ob:∃dx,H o=some (.ins C dx (kf n a))
 tp:∃xs,H a=some (.tup xs)/\Paired (jw H) xs fs
inductive wB(C:Zl)(vs:List V)(H:Hp)(Q:VK)(E:XK):Prop
 |mk (o dx a:Zl) (n:Str) (xs:List V) (fs:List j9):vs=[.ref o,.str n,.ref a]->H o=some (.ins C dx [])->Nm n->H a=some (.tup xs)->Paired (jw H) xs fs->fs.length<=4->(∀f∈fs,nU f)->(fs.map (·.1)).Nodup->(∀H',gA C H' o n a fs->(∀b u,H b=some u->b≠o->H' b=some u)->Q .non H')->wB C vs H Q E
def Zh:cI ["self","name","fields"] ["self","name","fields"] (bK xQ):=by ext
noncomputable def Lr(F:mR K "__init__" "Kind.__init__" xQ dV f O)(T:Txt K mg)(c:tO mg)(p:KCls K mg C)(R:fj K mg "is_name" (top 26) ["text"] fI D)(G:fj K mg "need_name" (top 27) ["text"] M l)
 (S:fj K mg "need_fields" (top 28) ["fields"] N m):cz P w K mg base dM 4 f O ["self","name","fields"] (wB C):=by
 have W:cz P w K mg base dM 2 M l ["text"] jW:=mZ G.F T c R;have X:cz P w K mg base dM 3 N m ["fields"] lZ:=tU S.F T c R G;refine F.ok Zh 01 λU A q s H vs Q E I h=>?_;obtain⟨o,g,a,n,i,fs,rfl,ho,Y,j,B,hl,Z,nd,k⟩:=h;obtain⟨tf,mf⟩:=c.mf;have x:dX 2 _:=I.mono 02;have pl:=aaS B;refine⟨_,(b7 (eE (j4 G W x (aK 003 b_))) (b7 (dU (dg O3 (du dO 004 T.len gK (aK 010 b_)) (gG (v:=.int 4) rfl mf ⟨9⟩) (di _)) (c7 eU) d9) (b7 (eE (j4 S X I (aK 010 b_))) (b7 (dz 06 003 rfl) (c7 (dz 06 (jh jb 004 T.tuple jB (aK 010 b_)) rfl)))))),?_⟩
 try dsimp only[iD]
 refine⟨9,n,8,Y,?_⟩;refine⟨9,a,i,8,.inr (e_.of j),7,8,9,gB (by simp;omega) ?_⟩;refine⟨9,a,i,fs,8,j,B,05,Z,nd,λJ r=>?_⟩;refine⟨9,9,o,C,g,[],8,r _ _ ho,p.cl,p.nN,(show 0<1000 by decide),?_⟩;have d:a≠o:=iV j ho 005;have y:∀u,(upd J o u) a=some (.tup i):=λu=>by rw[b8 d];exact r _ _ j
 refine⟨9,a,i,8,.inr ⟨e_.of (y _),?_⟩⟩;refine⟨9,o,C,g,9,a_,p.cl,p.nF,(show 1<1000 by decide),?_⟩;have keep:∀b u,H b=some u->b≠o->(upd (upd J o (.ins C g (fX "name" (.str n) []))) o (.ins C g (kf n a))) b=some u:=λb u e L=>by rw[b8 L,b8 L];exact r _ _ e
 refine k _ ⟨⟨g,a_⟩,i,keep a _ j d,gD B λb ys e=>keep b _ e (iV e ho 005)⟩ keep
end
def gA.same(h:gA C H o n a fs)(e:cu H c):gA C c o n a fs:=by obtain⟨⟨d,f⟩,g,i,j⟩:=h;exact⟨⟨d,e _ _ f⟩,g,e _ _ i,gD j λb l z=>e _ _ z⟩
def QK(K:Zs):TG:=Fy K 3 (nW (eQ 0) (nW (eQ 1) (nW (eQ 2) Hz)))
def uw(z:H a=some (.tup l))(q:Paired (jw H) l fs)(D:fs.length<=60)(A:e=[none,none,none])(c:j9->V)
 (n:∀f∈fs,∀Q:VK,Q (c f) H->p [some (.str f.1),some (.int f.2.1),some (.int f.2.2)] H Q)(B:F (fs.map c) H):
 ∃W:Nat->Nat->List V->St->Hp->Prop,(∃m,W 0 m [] e H)/\sO (Xd K a) (QK K) rC p F W:=by
 have C:=aaS q;refine iJ (xs:=l) (λi g h j=>g=(fs.take i).map c/\(∃u v w,h=[u,v,w])/\j=H) (aah 05 (show 60<=sizeLine by decide)) ⟨04,⟨_,_,_,A⟩,8⟩ ?_ ?_ ?_
 ·rintro i g h j _⟨_,_,rfl⟩;exact e_.of z
 ·rintro i x g h j s d⟨rfl,⟨u,v,w,rfl⟩,rfl⟩N y;obtain⟨f,o,b,rfl,r⟩:=ji q s;refine⟨b,9,e_.of r,8,7,7,7,8,?_⟩;refine n f (aap o) _ (y _ _ _ (by simpa using d) ⟨?_,⟨_,7⟩,8⟩);rw[aaW,o];simp
 ·rintro g h j d⟨rfl,_,rfl⟩;rw[abi 05];exact B
noncomputable def Er(f:j9):Str:=((((f.1++(" ":Str))++Str.ofString (toString f.2.1))++("..":Str))++Str.ofString (toString f.2.2))
noncomputable def JS(fs:List j9):Str:=Txt.join (", ":Str) (fs.map Er)
def qp(d:-999999<=i)(f:i<=999999):(Str.ofString (toString i)).length<=8/\i.natAbs.log2<1920:=by
 constructor
 ·have:=int_text_length_le10 (a:=i) (k:=6) 02 05;have e:(Str.ofString (toString i)).length=(toString i).length:=ofString_length _;omega
 ·have c:i.natAbs<2 ^ 20:=by omega
  by_cases b:i.natAbs=0
  ·rw[b];decide
  ·exact Nat.lt_trans ((Nat.log2_lt b).mpr c) 02
noncomputable def yF(h:nU f):(Er f).length<=40:=by have c:=(qp h.lo (acE h.le h.hi)).1;have d:=(qp (acE h.lo h.le) h.hi).1;have e:=h.nm.hi;have a:((" ":Str)).length=1:=rfl;have b:(("..":Str)).length=2:=rfl;unfold Er;simp only[abN,a,b];omega
section
variable{P:ZE}{w:ZH}{K:Zs}{mg:Y1}{base:ZN}
inductive xn(vs:List V)(H:Hp)(Q:VK)(E:XK):Prop
 |mk (a:Zl) (xs:List V) (fs:List j9):vs=[.ref a]->H a=some (.tup xs)->Paired (jw H) xs fs->fs.length<=4->(∀f∈fs,nU f)->(∀H',cu H H'->Q (.str (JS fs)) H')->xn vs H Q E
def Xg:cI ["fields"] ["fields"] (bK (top 29)):=by ext
def R_:List.Nodup (["name","low","high"]:Y2):=by ext
def S8(F:gU K "bounds_text" "bounds_text" (top 29) f v)(T:Txt K mg):cz P w K mg base dM 1 f v ["fields"] xn:=by
 refine F.ok Xg 01 λx A d s H vs Q E J h=>?_;obtain⟨a,G,fs,rfl,l,p,m,n,k⟩:=h;refine⟨_,(c7 (cW (oY acf PySem.F.slot_str_join PySem.F.type_str_join Bq cZ (aK (j0 (g:=QK K) (own:=["name","low","high"]) (js:=[]) (N':=["name","low","high"]) (dJ.of (osc:=bK (top 29)) (N:=["fields"]) rfl rfl 01) rfl (mJ 06) (λ_ _ _ _ _=>(ii rfl (d8 (eX (i:=0) R_ rfl 012 013) (d8 (eX (i:=1) R_ rfl 012 013) (d8 (eX (i:=2) R_ rfl 012 013) gj))))) (λ_ _ _ _ _=>gw) (λ_ _ _ _ _=>(LQ (zL 06 (Ii (zL 003 (Ii (zL 010 Ph)))))))) b_)))),?_⟩;refine⟨8,9,a,8,⟨G,e_.of l⟩,uw l p 05 rfl (λf=>.str (Er f)) (λf e Q q=>?_) ?_⟩
 ·have b:=n f e;have B:=qp b.lo (acE b.le b.hi);have C:=qp (acE b.lo b.le) b.hi;have L:=b.nm.hi;have M:=yF b;have big:40<=sizeLine:=by decide
  have j:((" ":Str)).length=1:=rfl;have D:(("..":Str)).length=2:=rfl;refine⟨9,f.1,.inl ⟨8,05⟩,?_,?_,9,_,.inr ⟨9,B.2,8⟩,?_,?_,9,_,.inr ⟨9,C.2,8⟩,?_,?_,?_⟩
  all_goals(try rw[Str.empty_append])
  all_goals(try(first|lia|(simp only[abN,j,D];lia)))
  try exact q
 ·have c:fs.length<=sizeLine:=aah m 02;refine⟨by rw[aaf];exact c,λq y=>?_⟩;have o:((fs.map Er).map (·.length)).sum<=fs.length*40:=by
   clear c p l k m;induction fs with
   |nil=>simp
   | cons f r I=>rw[aay,aay,abx,aaz,Nat.succ_mul];have:=yF (n f 04);have:=I λg z=>n g (by simp[z]);omega
  have j:(", ":Str).length=2:=rfl;refine⟨_,q,fs.map Er,8,8,eY.of (by rw[a_,aby];rfl),?_,k _ (cu.new y)⟩;rw[aaf,j];have:fs.length*40<=4*40:=Nat.mul_le_mul_right _ m;omega
abbrev kM(j:Nat):Stmt:=inClass (top 30) j
inductive qD(C:Zl)(vs:List V)(H:Hp)(Q:VK)(E:XK):Prop
 |mk (o a:Zl) (n:Str) (fs:List j9):vs=[.ref o]->gA C H o n a fs->fs.length<=4->(∀p H',H' p=some (.tup (fs.map λf=>.int f.2.1))->cu H H'->Q (.ref p) H')->qD C vs H Q E
def scL:cI ["self"] ["self"] (bK (kM 1)):=by ext
noncomputable def Ep(F:gU K "lowest" "Kind.lowest" (kM 1) f d)(T:Txt K mg)(e:KCls K mg C):cz P w K mg base dM 1 f d ["self"] (qD C):=by refine F.ok scL 01 λj A b s H vs Q E z h=>?_;obtain⟨o,a,n,fs,rfl,⟨⟨r,ho⟩,v,c,x⟩,y,k⟩:=h;refine⟨_,(c7 (cW (jh jb 004 T.tuple jB (aK (j0 (g:=QK K) (own:=["name","low","high"]) (js:=[]) (N':=["name","low","high"]) (dJ.of (osc:=bK (kM 1)) (N:=["self"]) rfl rfl 01) rfl (mJ 03) (λ_ _ _ _ _=>(ii rfl (d8 (eX (i:=0) R_ rfl 012 013) (d8 (eX (i:=1) R_ rfl 012 013) (d8 (eX (i:=2) R_ rfl 012 013) gj))))) (λ_ _ _ _ _=>gw) (λ_ _ _ _ _=>003)) b_)))),?_⟩;refine⟨9,o,C,r,7,ho,e.cl,e.nF,jQ n a,a,8,⟨v,e_.of c⟩,uw c x 05 rfl (λf=>.int f.2.1) (λf _ Q q=>⟨9,q⟩) ?_⟩;refine⟨by rw[aaf];exact aah y 02,λq m=>?_⟩;exact⟨q,9,.inl ⟨eY.of a_,λl p=>k l _ a_ ((cu.new m).trans (cu.new p))⟩⟩
inductive vm(C:Zl)(vs:List V)(H:Hp)(Q:VK)(E:XK):Prop
 |mk (o a:Zl) (n:Str) (fs:List j9):vs=[.ref o]->gA C H o n a fs->Q (.int (1+fs.length)) H->vm C vs H Q E
def Zr:cI ["self"] ["self"] (bK (kM 2)):=by ext
noncomputable def HY(F:gU K "cells" "Kind.cells" (kM 2) f c)(T:Txt K mg)(d:KCls K mg C):cz P w K mg base dM 1 f c ["self"] (vm C):=by refine F.ok Zr 01 λe A b s H vs Q E m h=>?_;obtain⟨o,a,n,fs,rfl,⟨⟨g,ho⟩,i,j,l⟩,k⟩:=h;refine⟨_,(c7 (cW (eN iK cj (du dO 004 T.len gK (aK 03 b_))))),?_⟩;refine⟨9,o,C,g,7,ho,d.cl,d.nF,jQ n a,a,i,8,.inr (e_.of j),7,8,?_⟩;rw[aaS l];exact k
noncomputable def vZ(fs:List j9)(x:Str):V:=if x∈fs.map (·.1)then .int ((fs.map (·.1)).idxOf x:Nat)else .non
inductive wL(C:Zl)(vs:List V)(H:Hp)(Q:VK)(E:XK):Prop
 |mk (o a:Zl) (n x:Str) (fs:List j9):vs=[.ref o,.str x]->gA C H o n a fs->fs.length<=4->(∀H',cu H H'->Q (vZ fs x) H')->wL C vs H Q E
def Gb:cI ["self","field","at","name","low","high"] ["self","field"] (bK (kM 3)):=by ext
def Gk(F:gU K "place_of" "Kind.place_of" (kM 3) f S)(T:Txt K mg)(N:mg "enumerate"=none)(U:KCls K mg C):cz P w K mg base dM 1 f S ["self","field"] (wL C):=by
 refine F.ok Gb 01 λW A r s H vs Q E hr h=>?_;obtain⟨o,a,n,x,fs,rfl,⟨⟨dx,ho⟩,q,O,R⟩,hl,k⟩:=h;have pl:=aaS R;refine⟨_,(b7 (jy abh rfl (Fd rfl N oF (aK 03 b_)) (ii rfl (d8 (kJ 2 Gb.nd) (d8 (ii rfl (d8 (kJ 3 Gb.nd) (d8 (kJ 4 Gb.nd) (d8 (kJ 5 Gb.nd) gj)))) gj))) (c7 (dU (dg g8 (pv 3) 003 (di _)) (c7 (cW 010)) d9))) (c7 (cW iZ))),?_⟩
 try dsimp only[iD]
 refine⟨9,o,C,dx,7,ho,U.cl,U.nF,jQ n a,a,8,⟨q,e_.of O⟩,G3 (xs:=q) (λi l d=>(∃v B D G,l=[some (.ref o),some (.str x),v,B,D,G])/\cu H d/\x∉(fs.map (·.1)).take i) ⟨⟨none,none,none,none,8⟩,cu.refl _,04⟩ (λi l d _ z=>e_.of (z.2.1 _ _ O)) ?_ ?_⟩
 ·rintro i y l d p hy⟨⟨v,B,D,G,rfl⟩,M,j⟩hp;obtain⟨⟨m,lo,hi⟩,L,b,rfl,hb⟩:=ji R hy;have I:cu H (upd d p (.tup [.int i,.ref b])):=M.trans (cu.new hp);refine⟨p,9,e_.of a_,8,7,7,b,9,e_.of (I _ _ hb),8,7,7,7,8,8,?_⟩;refine⟨9,9,8,9,?_⟩;have c:(fs.map (·.1))[i]?=some m:=by rw[aaq,L];rfl
  by_cases e:m=x
  ·subst e;refine iM 04 ⟨9,?_⟩;have g:m∈fs.map (·.1):=aap c;have J:(fs.map (·.1)).idxOf m=i:=by
    have X:=(aaD.mp c).1;have Y:¬(fs.map (·.1)).idxOf m<i:=λz=>j (by
     rw[aau];refine⟨(fs.map (·.1)).idxOf m,?_⟩;rw[List.getElem?_take,aac z,aaH 05,List.getElem_idxOf]);have Z:¬i<(fs.map (·.1)).idxOf m:=λz=>by
     have:=List.not_of_lt_findIdx (p:=(·==m)) (xs:=fs.map (·.1)) z;rw[(aaD.mp c).2]at this;simp at this
    omega
   have:=k _ I;unfold vZ at this;rw[aac g,J]at this;exact this
  ·refine gB (by simp[e]) ⟨⟨_,_,7⟩,I,?_⟩;rw[aaW,c];simp only[Option.toList_some,aam,aal,not_or];exact⟨j,λz=>e z.symm⟩
 ·rintro l d⟨⟨v,B,D,G,rfl⟩,M,j⟩;have:=k _ M;unfold vZ at this;rw[abi (by rw[aaf];omega)]at j;rw[aab j]at this;exact this
end
open PySem.W
abbrev Far:Int:=1000000000000000000000000000000
def Jq(x:Str):Prop:=x.cps.all (·<128)=true
abbrev Q8:Int:=Far+2
inductive TD:PyData->Prop
 |str {x:Str}:Jq x->x.length<=40->TD (.str x)
 |int {i:Int}:-Q8<=i->i<=Q8->TD (.int i)
 |nil:TD (.tuple [])
 |node {f:Str} {r:List PyData}:Jq f->f.length<=40->r.length<=20->(∀d∈r,TD d)->TD (.tuple (.str f::r))
noncomputable def nQ:PyData->Bool
 |.str x=>nameB x
 |_=>false
noncomputable def Ai:PyData->Bool
 |.int i=>decide (-999999<=i)&&decide (i<=999999)
 |_=>false
noncomputable def jL(f:Str)(r:List PyData):Bool:=
 if f="all"then r.isEmpty else if f="is"then (match r with|[x]=>nQ x|_=>false)
 else decide (f="less"\/f="same")&&(match r with|[x,y]=>nQ x&&Ai y|_=>false)
noncomputable def arity(f:Str):Option Nat:=if f="not"then some 1 else if f="and"then some 2 else if f="or"then some 2 else none
noncomputable def cnt:Nat->PyData->Nat
 |0,_=>0
 |n+1,.tuple (.str f::r)=>if jL f r=true then 1 else if arity f=some r.length then(if 0∈r.map (cnt n)then 0 else 1+(r.map (cnt n)).sum)else 0
 |_+1,_=>0
mutual
noncomputable def gb:PyData->Bool
 |.tuple (.str f::r)=>if f="and"\/f="or"then decide (r.length=2)&&shapes r else if f="not"then decide (r.length=1)&&shapes r else jL f r
 |_=>false
noncomputable def shapes:List PyData->Bool
 |[]=>true
 |d::r=>gb d&&shapes r
end
mutual
noncomputable def gY:PyData->Nat
 |.tuple (.str f::r)=>if(arity f).isSome=true then 1+jo r else 1
 |_=>1
noncomputable def jo:List PyData->Nat
 |[]=>0
 |d::r=>max (gY d) (jo r)
end
mutual
noncomputable def g_:PyData->Nat
 |.tuple (.str f::r)=>if(arity f).isSome=true then 1+jn r else 1
 |_=>1
noncomputable def jn:List PyData->Nat
 |[]=>0
 |d::r=>g_ d+jn r
end
noncomputable def kE(d:PyData):Bool:=gb d&&(decide (gY d<=5)&&decide (g_ d<=15))
def uJ:∀d,1<=g_ d:=by
 intro d;unfold g_;split
 ·split<;>omega
 ·omega
def jY:∀d,1<=gY d:=by
 intro d;unfold gY;split
 ·split<;>omega
 ·omega
def yR(h:jL f r=true):arity f=none:=by
 unfold jL at h;unfold arity;by_cases a:f="all"
 ·subst a;decide+kernel
 ·rw[aab a]at h;by_cases b:f="is"
  ·subst b;decide+kernel
  ·rw[aab b,aaM,aa8]at h;rcases h.1 with rfl|rfl<;>decide+kernel
def qI(k:Nat)(r:List PyData):decide (some k=some r.length)=decide (r.length=k):=by simp only [Option.some.injEq,decide_eq_decide];exact ⟨λh=>h.symm,λh=>h.symm⟩
def j_:gb (.tuple (.str f::r))=if arity f=none then jL f r else decide (arity f=some r.length)&&shapes r:=by
 unfold gb;by_cases a:f="and"
 ·subst a;rw [show arity "and"=some 2 from by ext,aac 012,aab (show ¬(some 2=(none:Option Nat))from nofun),qI]
 ·by_cases b:f="or"
  ·subst b;rw [show arity "or"=some 2 from by ext,aac 013,aab (show ¬(some 2=(none:Option Nat))from nofun),qI]
  ·rw [aab (by simp [a,b])];by_cases c:f="not"
   ·subst c;rw [show arity "not"=some 1 from by ext,aac rfl,aab (show ¬(some 1=(none:Option Nat))from nofun),qI]
   ·have d:arity f=none:=by unfold arity;rw [aab c,aab a,aab b]
    rw [d,aab c,aac rfl]
theorem V9(g:∀d,cnt n d=if gb d=true/\gY d<=n then g_ d else 0):∀r:List PyData,(if 0∈r.map (cnt n)then 0 else 1+(r.map (cnt n)).sum)=if shapes r=true/\jo r<=n then 1+jn r else 0
 |[]=>by simp[shapes,jo,jn]
 | d::r=>by
   have h:=V9 g r;have j:=uJ d;rw[aay,abx];have c:shapes (d::r)=(gb d&&shapes r):=rfl;have f:jo (d::r)=max (gY d) (jo r):=rfl;have i:jn (d::r)=g_ d+jn r:=rfl;by_cases hd:gb d=true/\gY d<=n
   ·have e:cnt n d=g_ d:=by rw[g,aac hd]
    by_cases b:shapes r=true/\jo r<=n
    ·rw[aac b]at h;have a:¬0∈r.map (cnt n):=λz=>by rw[aac z]at h;omega
     rw[aab a]at h;rw[aab (by rw[aag,not_or,e];exact⟨05,a⟩),aac ⟨by rw[c,hd.1,b.1];rfl,by rw[f];omega⟩,e,i];omega
    ·rw[aab b]at h;have a:0∈r.map (cnt n):=by
      by_cases z:0∈r.map (cnt n)
      ·exact z
      ·rw[aab z]at h;omega
     rw[aac (aai _ a),aab];rintro⟨z1,z2⟩;rw[c,aaM]at z1;rw[f]at z2;exact b ⟨z1.2,05⟩
   ·have e:cnt n d=0:=by rw[g,aab hd]
    rw[aac (by rw[e];exact aan ..),aab];rintro⟨z1,z2⟩;rw[c,aaM]at z1;rw[f]at z2;exact hd ⟨z1.1,05⟩
theorem zy:∀(n:Nat)(d:PyData),cnt n d=if gb d=true/\gY d<=n then g_ d else 0
 | 0,d=>by have:=jY d;rw[aab 05];rfl
 | n+1,d=>by
   have j:=zy n;by_cases hd:∃f r,d=.tuple (.str f::r)
   ·obtain⟨f,r,rfl⟩:=hd;have h:cnt (n+1) (.tuple (.str f::r))=if jL f r=true then 1 else if arity f=some r.length then(if 0∈r.map (cnt n)then 0 else 1+(r.map (cnt n)).sum)else 0:=rfl
    have b:gY (.tuple (.str f::r))=if(arity f).isSome=true then 1+jo r else 1:=rfl
    have i:g_ (.tuple (.str f::r))=if(arity f).isSome=true then 1+jn r else 1:=rfl
    have a:=@j_ f r;by_cases g:jL f r=true
    ·have e:=yR g;rw[e]at b i a;rw[h,aac g,aac ⟨by rw[a,aac rfl];exact g,by rw[b];simp⟩,i];rfl
    ·rw[h,aab g];by_cases e:arity f=none
     ·rw[aab (by rw[e];nofun),aab];rintro⟨q,_⟩;rw[a,aac e]at q;exact g q
     ·obtain⟨k,hk⟩:=Option.ne_none_iff_exists'.mp e;rw[hk]at b i a|-;rw[aab (show¬(some k=(none:Option Nat))from nofun)]at a;by_cases c:k=r.length
      ·subst c;rw[aac rfl,V9 j r];by_cases z:shapes r=true/\jo r<=n
       ·rw[aac z,aac ⟨by rw[a,z.1];simp,by rw[b];simp;omega⟩,i];rfl
       ·rw[aab z,aab];rintro⟨q1,q2⟩;rw[a]at q1;rw[b]at q2;simp at q1 q2;exact z ⟨q1,05⟩
      ·rw[aab (by simpa using c),aab];rintro⟨q,_⟩;rw[a]at q;simp[c]at q
   ·have h:cnt (n+1) d=0:=by
     unfold cnt;split
     ·omega
     ·exact absurd ⟨7⟩ hd
     ·rfl
    have b:gb d=false:=by
     unfold gb;split
     ·exact absurd ⟨7⟩ hd
     ·rfl
    rw[h,b,aab 04]
def Ka(d:PyData):(decide (1<=cnt 5 d)&&decide (cnt 5 d<=15))=kE d:=by
 have a:=uJ d;rw [zy];unfold kE;by_cases h:gb d=true/\gY d<=5
 ·rw [aac h,h.1,aa6 h.2];simp [a]
 ·rw [aab h];have:(gb d&&decide (gY d<=5))=false:=by rw [<-ab5,aaM,aa8];exact h
  rw [<-Bool.and_assoc,this];rfl
section
variable{P:ZE}{w:ZH}{K:Zs}{mg:Y1}{base:ZN}
inductive RQ(K:Zs)(vs:List V)(H:Hp)(Q:VK)(E:XK):Prop
 |mk (x:V) (d:PyData):vs=[x]->Rep K H x d->TD d->Q (.bl (nQ d)) H->RQ K vs H Q E
def Za:cI ["thing"] ["thing"] (bK (top 69)):=by ext
theorem T9(F:gU K "is_word" "is_word" (top 69) f m)(T:Txt K mg)(TK:tO mg)(o:fj K mg "is_name" (top 26) ["text"] j c):cz P w K mg base dM 2 f m ["thing"] (RQ K):=by
 have r:cz P w K mg base dM 1 j c ["text"] oW:=uh o.F T TK;refine F.ok Za 01 λp A g s H vs Q E q h=>?_;obtain⟨x,d,rfl,e,v,k⟩:=h;refine⟨_,(c7 (cW (j7 (du iy 004 T.isinstance dZ (aK 06 (aK (jx rfl T.str vC) b_))) (lA (j4 o r q (aK 06 b_)))))),?_⟩
 try dsimp only[iD]
 cases v with
 | @str y a l=>cases e;exact⟨9,_,_,7,.str y,8,9,iM rfl ⟨9,y,8,aah l 02,k⟩⟩
 | @int i a b=>cases e;exact⟨9,_,_,7,.int i,8,9,gB rfl k⟩
 |nil=>exact⟨9,_,_,7,e,8,9,gB rfl k⟩
 |node a l n z=>exact⟨9,_,_,7,e,8,9,gB rfl k⟩
inductive Og(K:Zs)(vs:List V)(H:Hp)(Q:VK)(E:XK):Prop
 |mk (x:V) (d:PyData):vs=[x]->Rep K H x d->TD d->Q (.bl (Ai d)) H->Og K vs H Q E
def XJ:cI ["thing"] ["thing"] (bK (top 70)):=by ext
theorem Vj(F:gU K "is_number" "is_number" (top 70) f j)(T:Txt K mg)(TK:tO mg):cz P w K mg base dM 1 f j ["thing"] (Og K):=by
 refine F.ok XJ 01 λm A e s H vs Q E p h=>?_;obtain⟨x,d,rfl,c,o,k⟩:=h;obtain⟨q,g⟩:=TK.lim;refine⟨_,(c7 (cW (j7 (du iy 004 T.isinstance dZ (aK 06 (aK (jx rfl T.int qQ) b_))) (j7 (As (du iy 004 T.isinstance dZ (aK 06 (aK (jx rfl T.bool oZ) b_)))) (lA (xO kj kj (pU mH (gG (v:=.int 999999) rfl g ⟨9⟩)) 06 (gG (v:=.int 999999) rfl g ⟨9⟩))))))),?_⟩
 try dsimp only[iD]
 cases o with
 | @int i a b=>cases c;refine⟨9,_,_,7,.int i,8,9,iM rfl ⟨9,_,_,7,.int i,8,9,9,iM rfl ?_⟩⟩;exact oA.chain (oA.neg oA.con) (oA.var rfl) oA.con Eu.i0 Eu.i0 _ k
 | @str y a l=>cases c;exact⟨9,_,_,7,.str y,8,9,gB rfl k⟩
 |nil=>exact⟨9,_,_,7,c,8,9,gB rfl k⟩
 |node a l n z=>exact⟨9,_,_,7,c,8,9,gB rfl k⟩
noncomputable abbrev dW:List (Str×PyData):=[("not",.int 1),("and",.int 2),("or",.int 2)]
noncomputable abbrev dS:List (Str×PyData):=[("less",.str "<"),("same",.str "=")]
structure Q0(K:Zs)(mg:Y1)(aW aS:Zl):Prop where
 mw:mg "WITHIN"=some (.ref aW)
 ms:mg "SIGN_OF"=some (.ref aS)
 kw:Du K aW dW
 ks:Du K aS dS
def Vw(f:Str):pK dW f=(arity f).map λn=>V.int (n:Nat):=by
 unfold pK arity;show((if _ then _ else if _ then _ else if _ then _ else none:Option PyData)).map WP=_;by_cases a:f="not"
 ·subst a;rfl
 ·by_cases b:f="and"
  ·subst b;rfl
  ·by_cases c:f="or"
   ·subst c;rfl
   ·simp[a,b,c]
def V4(f:Str):pK dS f=if f="less"then some (.str "<")else if f="same"then some (.str "=")else none:=by
 unfold pK;show((if _ then _ else if _ then _ else none:Option PyData)).map WP=_;by_cases a:f="less"
 ·subst a;rfl
 ·by_cases b:f="same"
  ·subst b;rfl
  ·simp[a,b]
inductive Qj(K:Zs)(vs:List V)(H:Hp)(Q:VK)(E:XK):Prop
 |mk (a:Zl) (f:Str) (r:List PyData):vs=[.ref a]->Rep K H (.ref a) (.tuple (.str f::r))->TD (.tuple (.str f::r))->Q (.bl (jL f r)) H->Qj K vs H Q E
def V7:cI ["test","form"] ["test"] (bK (top 71)):=by ext
theorem Vb (F:gU K "is_leaf" "is_leaf" (top 71) f N) (T:Txt K mg) (TK:tO mg) (TB:Q0 K mg aW D) (DI:fj K mg "is_name" (top 26) ["text"] Z G) (I:fj K mg "is_word" (top 69) ["thing"] fW i) (O:fj K mg "is_number" (top 70) ["thing"] M l):cz P w K mg base dM 3 f N ["test"] (Qj K):=by
 have J:cz P w K mg base dM 2 fW i ["thing"] (RQ K):=T9 I.F T TK DI;have S:cz P w K mg base dM 1 M l ["thing"] (Og K):=Vj O.F T TK;refine F.ok V7 01 λ R A o s H vs Q E p h=>?_;obtain ⟨a,f,r,rfl,U,W,k⟩:=h;have x:dX 1 _:=p.mono 02;refine ⟨_,(b7 (j8 1 V7.nd 017) (b7 (dU (dg g8 003 cZ (di _)) (c7 (cW (iw g8 (du dO 004 T.len gK (aK 06 b_)) cj (di _)))) d9) (b7 (dU (dg g8 003 cZ (di _)) (c7 (cW (j7 (iw g8 (du dO 004 T.len gK (aK 06 b_)) cj (di _)) (lA (j4 I J p (aK 017 b_)))))) d9) (c7 (cW (j7 (iw Gz 003 (gG (v:=.ref D) rfl TB.ms rfl) rfl) (j7 (iw g8 (du dO 004 T.len gK (aK 06 b_)) cj (di _)) (j7 (j4 I J p (aK 017 b_)) (lA (j4 O S x (aK 017 b_))))))))))),?_⟩
 try dsimp only [iD]
 cases W with
 |node af lf nr tr=>
 cases U with
 |@tup _ Y _ c L=>
 obtain ⟨q,g,rfl⟩:∃ q g,Y=q::g:=by cases L;exact ⟨7⟩
 obtain ⟨X,z⟩:Rep K H q (.str f)/\ie K H g r:=by cases L with|cons a b=>exact ⟨a,b⟩
 cases X;have m:=z.length;refine ⟨9,a,_,7,8,c,dw (j:=0) rfl,9,8,9,?_⟩;unfold jL at k;by_cases B:f = "all"
 ·subst B;rw [aac rfl] at k;refine iM 04 ⟨9,a,9,.inr c,8,?_⟩;have e:decide (V.int ((V.str "all"::g).length:Nat)=V.int 1)=r.isEmpty:=by
   rw [abb,aa8,List.isEmpty_iff,aaz,V.int.injEq];constructor
   ·intro h;exact List.length_eq_zero_iff.mp 05
   ·rintro rfl;simp at m;simp [m]
  rw [e];exact k
 ·rw [aab B] at k;refine gB (by simp [B]) ⟨9,8,9,?_⟩;by_cases C:f = "is"
  ·subst C;rw [aac rfl] at k;refine iM 04 ⟨9,a,9,.inr c,8,9,?_⟩
   match r,g,z,k,m with
   |[],[],_,k,_=>exact gB 04 k
   |[d],[y],.cons ry .nil,k,_=>exact iM 04 ⟨9,a,_,7,8,c,dw (j:=1) rfl,y,d,8,ry,tr d (aan ..),k⟩
   |_::_::_,_::_::_,_,k,_=>exact gB (by simp;omega) k
  ·rw [aab C] at k;refine gB (by simp [C]) ⟨9,f,D,dS,8,8,TB.ks,9,?_⟩;have e:(if false=true then !(pK dS f).isSome else (pK dS f).isSome)=decide (f = "less"∨f = "same"):=by
    rw [V4];by_cases q1:f = "less"
    ·simp [q1]
    ·by_cases q2:f = "same"
     ·rw [aab q1,aac q2];simp [q2]
     ·simp [q1,q2]
   rw [e];by_cases n:f = "less"∨f = "same"
   ·rw [aa6 n,abP] at k;refine iM (by simp [n]) ⟨9,a,9,.inr c,8,9,?_⟩
    match r,g,z,k,m with
    |[],[],_,k,_=>exact gB 04 k
    |[d],[y],_,k,_=>exact gB 04 k
    | [d,d2],[y,y2],.cons ry (.cons ry2 .nil),k,_=>
      refine iM 04 ⟨9,a,_,7,8,c,dw (j:=1) rfl,y,d,8,ry,tr d (aan ..),9,?_⟩;have k:Q (.bl (nQ d && Ai d2)) H:=k;cases hw:nQ d with
      |false=>rw [hw] at k;exact gB rfl k
      | true=>rw [hw] at k;exact iM rfl ⟨9,a,_,7,8,c,dw (j:=2) rfl,y2,d2,8,ry2,tr d2 (aai _ (aan ..)),k⟩
    |_::_::_::_,_::_::_::_,_,k,_=>exact gB (by simp;omega) k
   ·rw [aaR n,abX] at k;exact gB (by simp [n]) k
end
def yH(h:arity f=some k):1<=k/\k<=2:=by
 unfold arity at h;split at h
 ·cases h;omega
 ·split at h
  ·cases h;omega
  ·split at h
   ·cases h;omega
   ·cases h
set_option tactic.hygienic true in
theorem zb:∀(n:Nat)(d:PyData),cnt n d+1<=2 ^ n
 |0,_=>by simp[cnt]
 | n+1,d=>by
   have b:=zb n;have p:1<=2 ^ n:=Nat.one_le_two_pow;rw[Nat.pow_succ];by_cases hd:∃f r,d=.tuple (.str f::r)
   ·obtain⟨f,r,rfl⟩:=hd;show(if jL f r=true then 1 else if arity f=some r.length then(if 0∈r.map (cnt n)then 0 else 1+(r.map (cnt n)).sum)else 0)+1<=_;split
    ·omega
    ·split
     ·rename_i h;split
      ·omega
      ·have a:=yH h
       match r,a with
       |[x],_=>have:=b x;simp;omega
       |[x,y],_=>have:=b x;have:=b y;simp;omega
       |_::_::_::_,a=>simp at a
       |[],a=>simp at a
     ·omega
   ·have e:cnt (n+1) d=0:=by
     unfold cnt;split
     ·omega
     ·exact absurd ⟨7⟩ hd
     ·rfl
    omega
theorem xK(g:PyData->Nat)(r:List PyData):(r.map λd=>((g d:Nat):Int)).sum=(((r.map g).sum:Nat):Int):=by
 induction r with
 |nil=>rfl
 |cons d r a=>rw[aay,aay,abx,abx,a];omega
section
variable{P:ZE}{w:ZH}{K:Zs}{mg:Y1}{base:ZN}
inductive Ds(K:Zs)(n:Nat)(vs:List V)(H:Hp)(Q:VK)(E:XK):Prop
 |mk (x:V) (d:PyData):vs=[x,.int (n:Nat)]->Rep K H x d->TD d->(∀H',cu H H'->Q (.int (cnt n d:Nat)) H')->Ds K n vs H Q E
noncomputable abbrev Zz:List Str:=["thing","deep","counts"]
def Sy:cI Zz ["thing","deep"] (bK (top 72)):=by ext
def Cu:oh (x::a) (some 1) none=a:=by simp[oh,HT.jm]
theorem V8 (DC:fj K mg "count_parts" (top 72) ["thing","deep"] f O) (T:Txt K mg) (S:mg "sum" = none) (TK:tO mg) (TB:Q0 K mg aW aS) (DI:fj K mg "is_name" (top 26) ["text"] fI fdI) (DW:fj K mg "is_word" (top 69) ["thing"] fW fdW) (DN:fj K mg "is_number" (top 70) ["thing"] fN fdN)
 (DL:fj K mg "is_leaf" (top 71) ["test"] fL R) (n:Nat) (hn5:n≤20):cz P w K mg base dM (n+4) f O ["thing","deep"] (Ds K n):=by
 have GL:cz P w K mg base dM 3 fL R ["test"] (Qj K):=Vb DL.F T TK TB DI DW DN;have B:∀ m k:Nat,m≤20->(∀ n,n+1=m->cz P w K mg base dM (n+4) f O ["thing","deep"] (Ds K n))->cz P w K mg base dM (m+4) f O ["thing","deep"] (Ds K m):=by
  intro m k0 hm GC;refine DC.F.ok Sy (λ vs H Q E h=>?_) (λ aa A ab s H vs Q E hr h=>?_)
  ·obtain ⟨x,d,rfl,_⟩:=h;rfl
  ·obtain ⟨x,d,rfl,L,td,k⟩:=h;have ah:dX 3 _:=hr.mono 05;have ai:cz P w K mg base dM (m+3) f O ["thing","deep"] (λ vs H Q E=>∃ n,n+1=m/\Ds K n vs H Q E):=by
    match m,GC with
    |0,_=>exact ⟨λ _ _ _ _ ⟨n,e,_⟩=>by omega,λ _ _ _ _ _ _ _ _ _ _ _ _ _ ⟨n,e,_⟩=>by omega⟩
    | m+1,GC=>have G:=GC m rfl;exact ⟨λ vs H Q E ⟨n,e,h⟩=>by cases e;exact G.1 vs H Q E h,λ a1 a2 a3 a4 a5 a6 a7 a8 a9 ac ad ae ag ⟨n,e,h⟩=>by cases e;exact G.2 a1 a2 a3 a4 a5 a6 a7 a8 a9 ac ad ae ag h⟩
   refine ⟨_,(b7 (dU (PW.pt (uF (dg g8 003 cj (di _)) (uF (ju (gZ (du iy 004 T.isinstance dZ (aK 06 (aK (jx rfl T.tuple jB) b_))))) (tE (dg g8 (du dO 004 T.len gK (aK 06 b_)) cj (di _)))))) (c7 (cW cj)) d9) (b7 (dU (gZ (j4 DL GL ah (aK 06 b_))) (c7 (cW cj)) d9) (b7 (dU (dg xZ (Dd (gG (v:=.ref aW) rfl TB.mw rfl) 017 ⟨8,8,8,8⟩) (eN lE (du dO 004 T.len gK (aK 06 b_)) cj) (di _)) (c7 (cW cj)) d9) (b7 (ou (g:=eQ 0) (i:=2) (own:=["part"]) (js:=[1]) (N':=["part","deep"]) (dJ.of (osc:=bK (top 72)) (N:=Zz) rfl rfl 01) rfl Sy.nd rfl rfl (mJ (lQ qx 06 (nH cj) n7)) (λ _ _ _ _ _=>(eX (i:=0) (show List.Nodup (["part","deep"]:Y2) by ext) rfl 012 013)) (λ _ _ _ _ _=>gw) (λ _ _ _ _ _=>gf ai hr rfl DC.mg DC.F.kp DC.b .nil dC (aK 06 (aK (eN lE 003 cj) b_)))) (c7 (cW (jX (dg nA cj 010 rfl) cj (eN iK cj (du (uP rfl) 004 S J5 (aK 010 b_)))))))))),?_⟩
   try dsimp only [iD]
   refine ⟨9,8,9,?_⟩;by_cases h0:m=0
   ·subst h0;exact iM 04 (iM rfl (k _ (cu.refl _)))
   refine gB (by simp [h0]) ?_;obtain ⟨n,rfl⟩:∃ n,m=n+1:=⟨m-1,05⟩;cases td with
   |str a l=>cases L;exact ⟨9,_,_,7,.str _,8,9,iM rfl (iM rfl (k _ (cu.refl _)))⟩
   |int a b=>cases L;exact ⟨9,_,_,7,.int _,8,9,iM rfl (iM rfl (k _ (cu.refl _)))⟩
   | nil=>
     cases L with
     |@tup a xs _ D Z=>
     cases Z;exact ⟨9,_,_,7,.tup D .nil,8,9,gB rfl ⟨9,a,9,.inr D,8,9,iM 04 (k _ (cu.refl _))⟩⟩
   |@node f r af lf nr tr=>
   have J:=L;cases L with
   |@tup a xs _ D Z=>
   obtain ⟨x0,o,rfl⟩:∃ x0 o,xs=x0::o:=by cases Z;exact ⟨7⟩
   obtain ⟨r0,rt⟩:Rep K H x0 (.str f)/\ie K H o r:=by cases Z with|cons a b=>exact ⟨a,b⟩
   cases r0;have hl:=rt.length;refine ⟨9,_,_,7,J,8,9,gB rfl ⟨9,a,9,.inr D,8,9,gB (by simp;omega) ?_⟩⟩;refine ⟨9,a,f,r,8,J,.node af lf nr tr,9,?_⟩;have e1:cnt (n+1) (.tuple (.str f::r))=if jL f r=true then 1 else if arity f=some r.length then (if 0∈r.map (cnt n) then 0 else 1+(r.map (cnt n)).sum) else 0:=rfl
   rw [e1] at k;by_cases z:jL f r=true
   ·rw [aac z] at k;rw [z];exact iM rfl (k _ (cu.refl _))
   rw [aab z] at k;rw [Bool.eq_false_iff.mpr z];refine gB rfl ?_;refine ⟨aW,dW,8,TB.kw,9,a,_,7,8,D,dw (j:=0) rfl,f,8,9,a,9,.inr D,7,8,?_⟩;rw [Vw];by_cases X:arity f=some r.length
   ·rw [aac X] at k;rw [X];refine ⟨8,9,gB (by simp;omega) ?_⟩;refine ⟨9,1,8,a,9,D,(λ e=>?_),λ p hp=>?_⟩
    ·rw [Cu] at e;have:=aaB List.length e;simp at this
    ·rw [Cu];have sp:e_ K (upd H p (.tup o)) p o:=e_.of a_;have s1:cu H (upd H p (.tup o)):=cu.new hp;generalize upd H p (.tup o)=H1 at sp s1 ⊢;refine ⟨p,8,⟨_,sp⟩,?_⟩;refine iJ (xs:=o) (λ i U c H'=>(∃ v,c=[v,some (.int (n+1:Nat))])/\cu H1 H'/\U=((r.take i).map λ d=>V.int (cnt n d:Nat))) (aah (show o.length≤20 by omega) 02) ⟨⟨none,8⟩,cu.refl _,8⟩ (λ i U c H' _ ⟨_,F,_⟩=>F.tup sp) ?_ ?_
     ·rintro i y U c W hy M ⟨⟨v,rfl⟩,F,rfl⟩ N hN;obtain ⟨d,hd,ry⟩:=rt.get' hy;refine ⟨9,9,7,8,n,8,y,d,?_,ry.same (s1.trans F),tr d (aap hd),λ H3 I=>?_⟩
      ·show [y,V.int ((n+1:Nat)-1)]=[y,V.int (n:Nat)];rw [show (((n+1:Nat):Int)-1)=(n:Nat) by omega]
      ·exact hN _ _ _ (by rw [aaw,M];rfl) ⟨⟨9⟩,F.trans I,by rw [aaW,hd];simp⟩
     ·rintro U c W M ⟨⟨v,rfl⟩,F,rfl⟩;rw [abi 05];have lr:(r.map λ d=>V.int (cnt n d:Nat)).length≤20:=by rw [aaf];omega
      refine ⟨aah lr 02,λ q hq=>?_⟩;have I:cu H (upd W q (.lst (r.map λ d=>V.int (cnt n d:Nat)))):=(s1.trans F).trans (cu.new hq);have C:eY K (upd W q (.lst (r.map λ d=>V.int (cnt n d:Nat)))) q (r.map λ d=>V.int (cnt n d:Nat)):=eY.of a_;generalize upd W q (.lst (r.map λ d=>V.int (cnt n d:Nat)))=H3 at I C ⊢;refine ⟨9,q,9,.inl C,8,by simp [p7],9,?_⟩;have aj:(if false=true then !inV (.int 0) (r.map λ d=>V.int (cnt n d:Nat)) else inV (.int 0) (r.map λ d=>V.int (cnt n d:Nat)))=decide (0∈r.map (cnt n)):=by
       show inV (.int 0) (r.map λ d=>V.int (cnt n d:Nat))=_;rw [abb,aa8];unfold inV;simp only [ab4,aao];constructor
       ·rintro ⟨_,⟨d,hd,rfl⟩,he⟩;exact ⟨d,hd,by simpa [zm] using he⟩
       ·rintro ⟨d,hd,he⟩;exact ⟨_,⟨d,hd,8⟩,by simp [he,zm]⟩
      rw [aj];by_cases Y:0∈r.map (cnt n)
      ·rw [aac Y] at k;rw [aa6 Y];exact iM rfl (k _ I)
      ·rw [aab Y] at k;rw [aaR Y];refine gB rfl ?_;refine ⟨9,q,r.map λ d=>((cnt n d:Nat):Int),8,by rw [aby];exact C,by rw [aaf];omega,λ x hx=>?_,7,8,?_⟩
       ·obtain ⟨d,_,rfl⟩:=aao.mp hx;have:=zb n d;have ak:2 ^ n≤2 ^ 20:=Nat.pow_le_pow_right 02 05;have:(2:Nat) ^ 20=1048576:=by decide
        omega
       ·have es:=xK (cnt n) r;rw [es];have:=k _ I;rw [show ((1+(r.map (cnt n)).sum:Nat):Int)=1+(((r.map (cnt n)).sum:Nat):Int) by omega] at this;exact this
   ·rw [aab X] at k;cases hb:arity f with
    |none=>exact ⟨8,9,iM rfl (k _ (cu.refl _))⟩
    | some j=>refine ⟨8,9,iM ?_ (k _ (cu.refl _))⟩;have:¬ j=r.length:=λ e=>X (by rw [hb,e]);simp;omega
 induction n with
 |zero=>exact B 0 0 05 (λ n e=>by omega)
 |succ n ih=>exact B (n+1) 0 hn5 (λ n' e=>by cases e;exact ih 05)
end
theorem qR:∀{r:List PyData}{d:PyData},shapes r=true->d∈r->gb d=true
 | e::r,d,h,m=>by
   have h:(gb e&&shapes r)=true:=h;rw[aaM]at h;rcases aag.mp m with rfl|m
   ·exact h.1
   ·exact qR h.2 m
theorem ue:∀{r:List PyData}{d:PyData},d∈r->gY d<=jo r
 | e::r,d,m=>by
   have h:jo (e::r)=max (gY e) (jo r):=rfl;rcases aag.mp m with rfl|m
   ·omega
   ·have:=ue m;omega
structure Node(n:Nat)(f:Str)(r:List PyData):Prop where
 ar:arity f=some r.length
 sh:∀d∈r,gb d=true
 de:∀d∈r,gY d<=n
def qj(h:gb (.tuple (.str f::r))=true)(hd:gY (.tuple (.str f::r))<=n+1):(arity f=none/\jL f r=true)\/Node n f r:=by
 rw[j_]at h;by_cases a:arity f=none
 ·rw[aac a]at h;exact .inl ⟨a,h⟩
 ·rw[aab a,aaM,aa8]at h;have e:gY (.tuple (.str f::r))=if(arity f).isSome=true then 1+jo r else 1:=rfl
  rw[h.1]at e;have e:gY (.tuple (.str f::r))=1+jo r:=e;exact .inr ⟨h.1,λd m=>qR h.2 m,λd m=>by have:=ue m;omega⟩
theorem jf(g:TD d)(h:gb d=true):∃f r,d=.tuple (.str f::r):=by
 cases g with
 |node a b c e=>exact⟨7⟩
 |_=>exact absurd h (by simp[gb])
section
variable{P:ZE}{w:ZH}{K:Zs}{mg:Y1}{base:ZN}
structure Ut(mg:Y1):Prop where
 mp:∃t,mg "MOST_PARTS"=some (.int 15 t)
 md:∃t,mg "MOST_DEEP"=some (.int 5 t)
inductive Rv(K:Zs)(vs:List V)(H:Hp)(Q:VK)(E:XK):Prop
 |mk (x:V) (d:PyData):vs=[x]->Rep K H x d->TD d->(∀H',cu H H'->Q (.bl (kE d)) H')->Rv K vs H Q E
def Xc:cI ["test"] ["test"] (bK (top 73)):=by ext
noncomputable def Uo(F:gU K "is_test" "is_test" (top 73) f i)(TT:Ut mg)(y:fj K mg "count_parts" (top 72) ["thing","deep"] g a)(z:cz P w K mg base dM 9 g a ["thing","deep"] (Ds K 5)):cz P w K mg base dM 10 f i ["test"] (Rv K):=by
 refine F.ok Xc 01 λj A b s H vs Q E l h=>?_;obtain ⟨x,d,rfl,o,p,k⟩:=h;obtain ⟨B,q⟩:=TT.mp;obtain ⟨C,r⟩:=TT.md;refine ⟨_,(c7 (cW (xO kj kj cj (j4 y z l (aK 06 (aK (gG (v:=.int 5) rfl r ⟨9⟩) b_))) (gG (v:=.int 15) rfl q ⟨9⟩)))),?_⟩
 try dsimp only [iD]
 refine ⟨9,x,d,8,o,p,λe m=>⟨7,8,9,?_⟩⟩;have k:=k e m;rw [<-Ka]at k;refine lD (λh=>?_) (λh=>?_)
 ·refine ⟨7,8,?_⟩;have c:1<=cnt 5 d:=by simp at h;omega
  have n:decide (((cnt 5 d:Nat):Int)<=15)=decide (cnt 5 d<=15):=by rw [abb];simp;omega
  rw [aa6 c,abP]at k;show Q (.bl (decide (((cnt 5 d:Nat):Int)<=15))) e;rw [n];exact k
 ·have c:¬1<=cnt 5 d:=by simp at h;omega
  rw [aaR c,abX]at k;exact k
inductive QF(K:Zs)(cT:Zl)(vs:List V)(H:Hp)(Q:VK)(E:XK):Prop
 |mk (x:V) (d:PyData):vs=[x]->Rep K H x d->TD d->((kE d=true->∀H',cu H H'->Q .non H'))->((kE d=false->False))->QF K cT vs H Q E
def Xf:cI ["test"] ["test"] (bK (top 74)):=by ext
theorem Us(F:gU K "need_test" "need_test" (top 74) f i)(q:fj K mg "is_test" (top 73) ["test"] g a)(r:cz P w K mg base dM 10 g a ["test"] (Rv K)):cz P w K mg base dM 11 f i ["test"] (QF K cT):=by
 refine F.ok Xf 01 λb A c s H vs Q E e h=>?_;obtain⟨x,d,rfl,n,o,k,p⟩:=h;have m:dX 3 _:=e.mono 02;refine⟨_,(c7 (dU (ju (gZ (j4 q r e (aK 06 b_)))) (c7 eU) d9)),?_⟩
 try dsimp only[iD]
 refine⟨9,x,d,8,n,o,λj l=>⟨9,?_⟩⟩;cases h:kE d with
 |true=>exact gB rfl (k h j l)
 |false=>exact iM rfl (p h)
end
inductive uc:Str->List PyData->Prop
 |all:uc "all" []
 |is {x:Str}:nameB x=true->uc "is" [.str x]
 |num {f x:Str} {i:Int}:f="less"\/f="same"->nameB x=true->Ai (.int i)=true->uc f [.str x,.int i]
def Bh(h:jL f r=true):uc f r:=by
 unfold jL at h;by_cases a:f="all"
 ·subst a;rw[aac rfl,List.isEmpty_iff]at h;subst h;exact .all
 ·rw[aab a]at h;by_cases b:f="is"
  ·subst b;rw[aac rfl]at h;cases r with
   |nil=>cases h
   | cons d r=>
     cases r with
     |cons _ _=>cases h
     | nil=>
       cases d with
       |str x=>exact .is h
       |_=>exact absurd h (by simp[nQ])
  ·rw[aab b,aaM,aa8]at h;obtain⟨c,h⟩:=h;cases r with
   |nil=>cases h
   | cons d r=>
     cases r with
     |nil=>cases h
     | cons e r=>
       cases r with
       |cons _ _=>cases h
       | nil=>
         have h:(nQ d&&Ai e)=true:=h;rw[aaM]at h;cases d with
         | str x=>
           cases e with
           |int i=>exact .num c h.1 h.2
           |_=>exact absurd h.2 (by simp[Ai])
         |_=>exact absurd h.1 (by simp[nQ])
theorem uc.ar(h:uc f r):arity f=none:=by
 cases h with
 |all=>decide+kernel
 |is _=>decide+kernel
 |num h _ _=>rcases h with rfl|rfl<;>decide+kernel
def RJ(h:Nm x):Jq x:=by unfold Jq;rw[<-Array.all_toList,abS];intro c a;have:=h.lc c a;simp;omega
structure Tr(n:Nat)(d:PyData):Prop where
 td:TD d
 sh:gb d=true
 dp:jg d<=n
def O5(h:Nm x):TD (.str x):=.str (RJ h) (by have:=h.hi;omega)
theorem uc.tr(h:uc f r):Tr 1 (.tuple (.str f::r)):=by
 have a:gb (.tuple (.str f::r))=true:=by
  rw [j_,h.ar,aac rfl];cases h with
  |all=>rfl
  |is n=>exact n
  | num h n m=>
    unfold jL;rcases h with rfl|rfl
    ·rw [aab 01,aab 01];simp [nQ,n,m]
    ·rw [aab 01,aab 01];simp [nQ,n,m]
 cases h with
 |all=>exact ⟨.node (by unfold Jq;decide +kernel) 01 04 04,a,by simp [jg,iI]⟩
 | @is x n=>refine ⟨.node (by unfold Jq;decide +kernel) 01 04 (λd m=>?_),a,by simp [jg,iI]⟩;simp at m;subst m;exact O5 ((lJ x).mp n)
 | @num f x i h n b=>
   refine ⟨.node ?_ ?_ 04 (λd m=>?_),a,by simp [jg,iI]⟩
   ·rcases h with rfl|rfl<;>(unfold Jq;decide +kernel)
   ·rcases h with rfl|rfl<;>decide +kernel
   ·simp at m;rcases m with rfl|rfl
    ·exact O5 ((lJ x).mp n)
    ·have h:(decide (-999999<=i)&&decide (i<=999999))=true:=b;simp at h;have:(1000000:Int)<=Q8:=by decide
     exact .int 05 05
section
variable{P:ZE}{w:ZH}{K:Zs}{mg:Y1}{base:ZN}
inductive HS(vs:List V)(H:Hp)(Q:VK)(E:XK):Prop
 |mk (p dc:Zl):vs=[.ref p]->Dr H p dc->(∀(z:Int)(H':Hp),-999999<=z->z<=999999->Dr H' p dc->h_ p H H'->Q (.int z) H')->HS vs H Q E
def Wy:cI ["_law_d"] ["_law_d"] (bK (top 121)):=by ext
noncomputable def P0(F:gU K "_law_number" "_law_number" (top 121) f r)(T:Txt K mg)(d:fj K mg "_law_pick" (top 113) ["_law_d","_law_many"] n b)(v:fj K mg "_law_of" (top 114) ["_law_d","_law_things"] o c):cz P w K mg base dM 3 f r ["_law_d"] HS:=by
 have i:cz P w K mg base dM 1 n b ["_law_d","_law_many"] jC:=jA d.F T;have U:cz P w K mg base dM 2 o c ["_law_d","_law_things"] (yx K):=uI v.F T d;refine F.ok Wy 01 λx A g s H vs Q E j h=>?_;obtain⟨p,e,rfl,D,k⟩:=h;have a:dX 1 _:=j.mono 02;refine⟨_,(c7 (cW (j4 v U j (aK 06 (aK (gQ (aK cj (aK cj (aK (j4 d i a (aK 06 (aK cj b_))) (aK (eN lE (j4 d i a (aK 06 (aK cj b_))) cj) (aK cj (aK (pU mH cj) (aK (eN lE (j4 d i a (aK 06 (aK cj b_))) cj) b_)))))))) b_))))),?_⟩
 try dsimp only[iD]
 refine⟨9,9,p,e,9,D,02,02,λr1 Y B r11 C G=>?_⟩;refine⟨9,p,e,9,C,02,02,λr2 Z r20 I J L=>⟨7,8,9,?_⟩⟩;refine⟨9,p,e,9,J,02,02,λr3 H3 r30 r31 M N=>⟨7,8,01,λq l=>?_⟩⟩;refine⟨p,e,q,9,M.new l,eY.of a_,04,04,λy O m R S=>?_⟩;obtain⟨z,rfl,W,X⟩:∃z:Int,y=.int z/\-999999<=z/\z<=999999:=by
  simp only[aag,aba,or_false]at m;rcases m with rfl|rfl|rfl|rfl|rfl|rfl|rfl
  all_goals exact⟨_,rfl,05,05⟩
 exact k z O W X R (((G.trans L).trans N).trans ((h_.new l).trans S))
inductive G6(K:Zs)(vs:List V)(H:Hp)(Q:VK)(E:XK):Prop
 |mk (p dc q q':Zl) (ys ys':Y2):vs=[.ref p,.ref q,.ref q']->Dr H p dc->eY K H q (ys.map V.str)->eY K H q' (ys'.map V.str)->ys≠[]->ys'≠[]->ys.length<=100->ys'.length<=100->(∀y∈ys,Nm y)->(∀y∈ys',Nm y)->(∀(x:V)(f:Str)(r:List PyData)(H':Hp),Rep K H' x (.tuple (.str f::r))->uc f r->Dr H' p dc->h_ p H H'->Q x H')->G6 K vs H Q E
noncomputable abbrev Z_:List Str:=["_law_d","_law_names","_law_kinds","_law_way"]
def UV:cI Z_ ["_law_d","_law_names","_law_kinds"] (bK (top 122)):=by ext
def Bt{a:Y2}(h:v∈a.map V.str):∃y∈a,v=.str y:=by obtain⟨y,m,rfl⟩:=aao.mp h;exact⟨y,m,8⟩
noncomputable def O8(F:gU K "_law_leaf" "_law_leaf" (top 122) f fd)(T:Txt K mg)(v:fj K mg "_law_pick" (top 113) ["_law_d","_law_many"] X e)(x:fj K mg "_law_of" (top 114) ["_law_d","_law_things"] Y g)(DN:fj K mg "_law_number" (top 121) ["_law_d"] Z i):cz P w K mg base dM 4 f fd ["_law_d","_law_names","_law_kinds"] (G6 K):=by
 have GP:cz P w K mg base dM 1 X e ["_law_d","_law_many"] jC:=jA v.F T;have W:cz P w K mg base dM 2 Y g ["_law_d","_law_things"] (yx K):=uI x.F T v;have GN:cz P w K mg base dM 3 Z i ["_law_d"] HS:=P0 DN.F T v x;refine F.ok UV 01 λaa A B s H vs Q E C h=>?_;obtain⟨p,r,q,q',ys,ab,rfl,D,hq,M,ne,N,l,l',nm,O,k⟩:=h;have L:dX 1 _:=C.mono 02;have d:dX 2 _:=C.mono 02;refine⟨_,(b7 (j8 3 UV.nd (j4 v GP L (aK 06 (aK cj b_)))) (b7 (dU (dg g8 (pv 3) cj (di _)) (c7 (cW (gF (aK cZ b_)))) d9) (b7 (dU (dg g8 (pv 3) cj (di _)) (c7 (cW (gF (aK cZ (aK (j4 x W d (aK 06 (aK 010 b_))) b_))))) d9) (c7 (cW (gF (aK (d_ iH (gQ (aK cZ (aK cZ b_))) (eN lC (pv 3) cj)) (aK (j4 x W d (aK 06 (aK 003 b_))) (aK (j4 DN GN C (aK 06 b_)) b_))))))))),?_⟩
 try dsimp only[iD]
 refine⟨9,p,r,9,D,02,02,λS H1 w0 w6 G m=>⟨9,8,9,?_⟩⟩;refine lD (λ_=>⟨01,λt a=>?_⟩) (λ_=>⟨9,8,9,?_⟩)
 ·exact k _ "all" [] _ (.tup (e_.of a_) (.cons (.str _) .nil)) .all (G.new a) (m.trans (h_.new a))
 refine lD (λ_=>?_) (λ_=>?_)
 ·refine⟨9,9,p,r,q',9,G,D.seq m M,by simpa using N,by rw[aaf];omega,λy H2 I J n=>⟨01,λt a=>?_⟩⟩;obtain⟨y,R,rfl⟩:=Bt I;exact k _ "is" [.str y] _ (.tup (e_.of a_) (.cons (.str _) (.cons (.str _) .nil))) (.is ((lJ y).mpr (O y R))) (J.new a) ((m.trans n).trans (h_.new a))
 ·refine⟨01,λU b=>⟨9,7,8,(by show(0:Int)<2;decide),?_⟩⟩;have n:h_ p H (upd H1 U (.lst [.str "less",.str "same"])):=m.trans (h_.new b);obtain⟨j,hj,ej⟩:∃j:Nat,j<2/\S % 2=j:=⟨(S % 2).toNat,05,05⟩;have J:=G.new (o:=.lst [.str "less",.str "same"]) b;obtain⟨c,hf,ef⟩:∃c:Str,(c="less"\/c="same")/\([V.str "less",V.str "same"])[j]?=some (.str c):=by
   match j,hj with
   |0,_=>exact⟨"less",.inl rfl,8⟩
   |1,_=>exact⟨"same",.inr rfl,8⟩
  refine⟨U,_,7,8,eY.of a_,(by rw[ej];exact dw ef),9,9,p,r,q,9,J,D.seq n hq,by simpa using ne,by rw[aaf];omega,λy H3 I D3 b3=>?_⟩;obtain⟨y,R,rfl⟩:=Bt I;refine⟨9,p,r,8,D3,λz H4 z1 z2 D4 b4=>⟨01,λt a=>?_⟩⟩;exact k _ c [.str y,.int z] _ (.tup (e_.of a_) (.cons (.str _) (.cons (.str _) (.cons (.int _) .nil)))) (.num hf ((lJ y).mpr (nm y R)) (by simp[Ai];omega)) (D4.new a) (((n.trans b3).trans b4).trans (h_.new a))
def Tr.mono(h:Tr n d)(l:n<=m):Tr m d:=⟨h.td,h.sh,aah h.dp l⟩
def Tr.one(h:Tr n d):Tr (n+1) (.tuple [.str "not",d]):=by
 refine⟨.node (by unfold Jq;decide+kernel) 01 04 (λe m=>?_),?_,?_⟩
 ·simp at m;subst m;exact h.td
 ·rw[j_,show arity "not"=some 1 from by ext,aab (by nofun)];simp[shapes,h.sh]
 ·have:=h.dp;simp[jg,iI];omega
def Tr.two{n:Nat}{f:Str}{d e:PyData}(a:f="and"\/f="or")(h:Tr n d)(b:Tr n e):Tr (n+1) (.tuple [.str f,d,e]):=by
 refine⟨.node ?_ ?_ 04 (λe m=>?_),?_,?_⟩
 ·rcases a with rfl|rfl<;>(unfold Jq;decide+kernel)
 ·rcases a with rfl|rfl<;>decide+kernel
 ·simp at m;rcases m with rfl|rfl
  ·exact h.td
  ·exact b.td
 ·have c:arity f=some 2:=by rcases a with rfl|rfl<;>decide+kernel
  rw[j_,c,aab (by nofun)];simp[shapes,h.sh,b.sh]
 ·have:=h.dp;have:=b.dp;simp[jg,iI];omega
inductive Df(K:Zs)(n:Nat)(vs:List V)(H:Hp)(Q:VK)(E:XK):Prop
 |mk (p dc q q':Zl) (ys ys':Y2) (m:Int):vs=[.ref p,.int m,.ref q,.ref q']->m<=n->Dr H p dc->eY K H q (ys.map V.str)->eY K H q' (ys'.map V.str)->ys≠[]->ys'≠[]->ys.length<=100->ys'.length<=100->(∀y∈ys,Nm y)->(∀y∈ys',Nm y)->(∀(x:V)(d:PyData)(H':Hp),Rep K H' x d->Tr n d->Dr H' p dc->h_ p H H'->Q x H')->Df K n vs H Q E
noncomputable abbrev NTr:List Str:=["_law_d","_law_deep","_law_names","_law_kinds","_law_way","_law_word_here"]
def Pu:cI NTr ["_law_d","_law_deep","_law_names","_law_kinds"] (bK (top 123)):=by ext
theorem Ug{f fP fO fN fL:Zl}{Y Z fdO fdN fdL:ZB}(DT:fj K mg "_law_tree" (top 123) ["_law_d","_law_deep","_law_names","_law_kinds"] f Y)(T:Txt K mg)(DP:fj K mg "_law_pick" (top 113) ["_law_d","_law_many"] fP Z)(DO:fj K mg "_law_of" (top 114) ["_law_d","_law_things"] fO fdO)(DN:fj K mg "_law_number" (top 121) ["_law_d"] fN fdN)
 (DL:fj K mg "_law_leaf" (top 122) ["_law_d","_law_names","_law_kinds"] fL fdL)(n:Nat):cz P w K mg base dM (n+5) f Y ["_law_d","_law_deep","_law_names","_law_kinds"] (Df K (n+1)):=by
 have GP:cz P w K mg base dM 1 fP Z ["_law_d","_law_many"] jC:=jA DP.F T;have GL:cz P w K mg base dM 4 fL fdL ["_law_d","_law_names","_law_kinds"] (G6 K):=O8 DL.F T DP DO DN;have v:∀m:Nat,(∀j,j+1=m->cz P w K mg base dM (j+5) f Y ["_law_d","_law_deep","_law_names","_law_kinds"] (Df K (j+1)))->cz P w K mg base dM (m+5) f Y ["_law_d","_law_deep","_law_names","_law_kinds"] (Df K (m+1)):=by
  intro m GC;have GT:cz P w K mg base dM (m+4) f Y ["_law_d","_law_deep","_law_names","_law_kinds"] (λvs H Q E=>∃j,j+1=m/\Df K (j+1) vs H Q E):=by
   match m,GC with
   |0,_=>exact⟨λ_ _ _ _⟨n,e,_⟩=>by omega,λ_ _ _ _ _ _ _ _ _ _ _ _ _⟨n,e,_⟩=>by omega⟩
   | m+1,GC=>have G:=GC m rfl;exact⟨λvs H Q E⟨n,e,h⟩=>by cases e;exact G.1 vs H Q E h,λa1 a2 a3 a4 a5 a6 a7 a8 a9 aa ab ac ad⟨n,e,h⟩=>by cases e;exact G.2 a1 a2 a3 a4 a5 a6 a7 a8 a9 aa ab ac ad h⟩
  refine DT.F.ok Pu (λvs H Q E h=>?_) (λL A ae s H vs Q E M h=>?_)
  ·obtain⟨p,I,q,J,X,a,z,rfl,_⟩:=h;rfl
  ·obtain⟨p,I,q,J,X,a,z,rfl,hz,D,hq,F,ne,b,l,l',nm,c,k⟩:=h;have ah:dX 1 _:=M.mono 05;have ai:dX 4 _:=M.mono 05;refine⟨_,(b7 (j8 4 Pu.nd (j4 DP GP ah (aK 06 (aK cj b_)))) (b7 (dU (PW.pt (uF (dg uL 003 cj (di _)) (tE (dg g8 (pv 4) cj (di _))))) (c7 (cW (j4 DL GL ai (aK 06 (aK 010 (aK (pv 3) b_)))))) d9) (b7 (dU (dg g8 (pv 4) cj (di _)) (c7 (cW (gF (aK cZ (aK (j4 DT GT M (aK 06 (aK (eN lE 003 cj) (aK 010 (aK (pv 3) b_))))) b_))))) d9) (b7 (j8 5 Pu.nd (d_ iH (gQ (aK cZ (aK cZ b_))) (eN lC (pv 4) cj))) (c7 (cW (gF (aK (pv 5) (aK (j4 DT GT M (aK 06 (aK (eN lE 003 cj) (aK 010 (aK (pv 3) b_))))) (aK (j4 DT GT M (aK 06 (aK (eN lE 003 cj) (aK 010 (aK (pv 3) b_))))) b_)))))))))),?_⟩
   try dsimp only[iD]
   refine⟨9,p,I,9,D,02,02,λw1 H1 w0 w5 D1 N=>?_⟩;have U:=D.seq N hq;have y:=D.seq N F;have B:Bf (G6 K) [] E0 (pq (nM 0) (pq (nM 2) (pq (nM 3) wj))) [some (.ref p),some (.int z),some (.ref q),some (.ref J),some (.int w1),none] H1 Q:=
    ⟨9,9,9,p,I,q,J,X,a,8,D1,U,y,ne,b,l,l',nm,c,λx f r H' rp lf D' b'=>k x _ H' rp (lf.tr.mono 05) D' (N.trans b')⟩;refine⟨9,7,8,9,lD (λ_=>iM rfl B) (λO=>⟨9,8,9,lD (λ_=>B) (λ_=>?_)⟩)⟩;have O:¬z<2:=by simpa using O
   obtain⟨j,rfl⟩:∃j,m=j+1:=⟨m-1,05⟩;refine⟨9,8,9,lD (λ_=>?_) (λ_=>?_)⟩
   ·refine⟨9,9,7,8,9,9,j,8,p,I,q,J,X,a,z-1,8,05,D1,U,y,ne,b,l,l',nm,c,λx d H2 rx tx D2 R=>⟨01,λt g=>?_⟩⟩;exact k _ _ _ (.tup (e_.of a_) (.cons (.str _) (.cons (rx.same (cu.new g)) .nil))) tx.one (D2.new g) ((N.trans R).trans (h_.new g))
   ·refine⟨01,λl0 S=>⟨9,7,8,(by show(0:Int)<2;decide),?_⟩⟩;have R:h_ p H (upd H1 l0 (.lst [.str "and",.str "or"])):=N.trans (h_.new S);obtain⟨i,hj,ej⟩:∃i:Nat,i<2/\w1 % 2=i:=⟨(w1 % 2).toNat,05,05⟩;have D2:=D1.new (o:=.lst [.str "and",.str "or"]) S;obtain⟨f0,hf,ef⟩:∃f0:Str,(f0="and"\/f0="or")/\([V.str "and",V.str "or"])[i]?=some (.str f0):=by
     match i,hj with
     |0,_=>exact⟨"and",.inl rfl,8⟩
     |1,_=>exact⟨"or",.inr rfl,8⟩
    refine⟨l0,_,7,8,eY.of a_,(by rw[ej];exact dw ef),9,?_⟩;have aj:=D.seq R hq;have W:=D.seq R F;refine⟨9,9,7,8,9,9,j,8,p,I,q,J,X,a,z-1,8,05,D2,aj,W,ne,b,l,l',nm,c,λx d H3 rx tx D3 b3=>?_⟩;have C:=R.trans b3;refine⟨9,9,7,8,9,9,j,8,p,I,q,J,X,a,z-1,8,05,D3,D.seq C hq,D.seq C F,ne,b,l,l',nm,c,λx2 d2 H4 af ag D4 b4=>⟨01,λt g=>?_⟩⟩;exact k _ _ _ (.tup (e_.of a_) (.cons (.str _) (.cons ((D3.rep b4 rx).same (cu.new g)) (.cons (af.same (cu.new g)) .nil)))) (tx.two hf ag) (D4.new g) ((C.trans b4).trans (h_.new g))
 induction n with
 |zero=>exact v 0 (λn e=>by omega)
 |succ n ih=>exact v (n+1) (λn' e=>by cases e;exact ih)
end
def VN(f a b:Str):inV (.str f) [.str a,.str b]=decide (f=a\/f=b):=by rw [abb];simp [inV,zm];constructor <;>(rintro (h|h)<;>simp [h])
def Yy(f a b c:Str):inV (.str f) [.str a,.str b,.str c]=decide (f=a\/f=b\/f=c):=by rw [abb];simp [inV,zm];constructor <;>(rintro (h|h|h)<;>simp [h])
def U_(f:Str):decide (f="not"\/f="and"\/f="or")=(arity f).isSome:=by
 unfold arity;by_cases a:f="not"
 ·simp [a]
 ·by_cases b:f="and"
  ·subst b;decide +kernel
  ·by_cases c:f="or"
   ·subst c;decide +kernel
   ·simp [a,b,c]
theorem Ey(v:TD d):gb d=true->gY d<=jg d:=by
 induction v with
 |str a b=>intro h;cases h
 |int a b=>intro h;cases h
 |nil=>intro h;cases h
 | @node f r a b c tr s=>
   intro p;have e:gY (.tuple (.str f::r))=if(arity f).isSome=true then 1+jo r else 1:=rfl
   have i:jg (.tuple (.str f::r))=max 0 (iI r)+1:=rfl;rcases qj (n:=gY (.tuple (.str f::r))) p 05 with⟨q,_⟩|N
   ·rw[e,q,i];show 1<=_;omega
   ·have:∀l:List PyData,(∀d∈l,d∈r)->jo l<=iI l:=by
     intro l;induction l with
     |nil=>intro _;exact aaU _
     | cons d l g=>intro o;have j:=o d (aan ..);have w:=s d j (N.sh d j);have x:=g (λd m=>o d (aai _ m));show max (gY d) (jo l)<=max (jg d) (iI l);omega
    have:=this r (λ_ m=>m);rw[e,N.ar,i];show 1+jo r<=_;omega
def Gf(a:gb d=true)(h:gY d<=n):g_ d+1<=2 ^ n:=by have:=zb n d;rw[zy,aac ⟨a,h⟩]at this;exact this
section
variable{P:ZE}{w:ZH}{K:Zs}{mg:Y1}{base:ZN}
inductive M9(K:Zs)(g:PyData->Nat)(n:Nat)(vs:List V)(H:Hp)(Q:VK)(E:XK):Prop
 |mk (x:V) (d:PyData):vs=[x]->Rep K H x d->TD d->gb d=true->gY d<=n->n<=10->(∀H',cu H H'->Q (.int (g d:Nat)) H')->M9 K g n vs H Q E
def Yv:cI ["_law_test_here"] ["_law_test_here"] (bK (top 124)):=by ext
theorem Vd(M:fj K mg "_law_parts" (top 124) ["_law_test_here"] f W)(G:mg "sum"=none)(n:Nat):cz P w K mg base dM n f W ["_law_test_here"] (M9 K g_ n):=by
 refine Nat.rec (motive:=λn=>cz P w K mg base dM n f W ["_law_test_here"] (M9 K g_ n)) ⟨λ_ _ _ _ h=>?_,λ_ _ _ _ _ _ _ _ _ _ _ _ _ h=>?_⟩ (λn GL=>?_) n
 ·obtain⟨x,d,_,_,_,_,hd,_⟩:=h;exact absurd (aah (jY d) hd) 02
 ·obtain⟨x,d,_,_,_,_,hd,_⟩:=h;exact absurd (aah (jY d) hd) 02
 refine M.F.ok Yv 01 λaa A O s H vs Q E hr h=>?_;obtain⟨x,d,rfl,rd,Z,sh,hd,hn,k⟩:=h;refine⟨_,(b7 (dU (dg vA 017 (gF (aK cZ (aK cZ (aK cZ b_)))) rfl) (c7 (cW cj)) d9) (c7 (cW (eN iK cj (du (uP rfl) 004 G J5 (aK (j0 (g:=eQ 0) (own:=["_law_part"]) (js:=[]) (N':=["_law_part"]) (dJ.of (osc:=bK (top 124)) (N:=["_law_test_here"]) rfl rfl 01) rfl (mJ (lQ qx 06 (nH cj) n7)) (λ_ _ _ _ _=>(eX (i:=0) (show List.Nodup (["_law_part"]:Y2) by ext) rfl 012 013)) (λ_ _ _ _ _=>gw) (λ_ _ _ _ _=>gf GL hr rfl M.mg M.F.kp M.b .nil dC (aK 06 b_))) b_)))))),?_⟩
 try dsimp only[iD]
 obtain⟨f,r,rfl⟩:=jf Z sh;cases Z with
 |node af lf nr tr=>
 cases rd with
 |@tup a xs _ sq rs=>
 obtain⟨R,m,rfl⟩:∃R m,xs=R::m:=by cases rs;exact⟨7⟩
 obtain⟨r0,rt⟩:Rep K H R (.str f)/\ie K H m r:=by cases rs with|cons a b=>exact⟨a,b⟩
 cases r0;have hl:=rt.length;refine⟨9,a,_,7,8,sq,dw (j:=0) rfl,01,λt ht=>?_⟩;have B:cu H (upd H t (.tup [.str "not",.str "and",.str "or"])):=cu.new ht;refine⟨t,9,.inr (e_.of a_),8,8,9,?_⟩;rw[Yy,U_];have C:=B.tup sq;have D:=rt.same B;generalize upd H t (.tup [.str "not",.str "and",.str "or"])=L at B C D|-;have e:g_ (.tuple (.str f::r))=if(arity f).isSome=true then 1+jn r else 1:=rfl
 rw[e]at k;rcases qj sh hd with⟨ha,ac⟩|N
 ·rw[ha]at k|-;exact iM rfl (k _ B)
 ·rw[N.ar]at k|-;have k:∀z,cu H z->Q (.int (1+jn r:Nat)) z:=k;have a2:=yH N.ar;refine gB rfl ⟨9,1,8,a,9,C,(λe=>?_),λp hp=>?_⟩
  ·rw[Cu]at e;have:=aaB List.length e;simp at this
  ·rw[Cu];have S:e_ K (upd L p (.tup m)) p m:=e_.of a_;have T:cu L (upd L p (.tup m)):=cu.new hp;generalize upd L p (.tup m)=H1 at S T|-;refine⟨p,8,⟨_,S⟩,?_⟩;refine iJ (xs:=m) (λi I c z=>(∃v,c=[v])/\cu H1 z/\I=((r.take i).map λd=>V.int (g_ d:Nat))) (aah (show m.length<=20 by omega) 02) ⟨⟨none,8⟩,cu.refl _,8⟩ (λi I c z _⟨_,o,_⟩=>o.tup S) ?_ ?_
   ·rintro i y I c H2 hy F⟨⟨v,rfl⟩,o,rfl⟩N' hN;obtain⟨d,hd,ry⟩:=D.get' hy;have U:=aap hd;refine⟨9,y,d,8,ry.same (T.trans o),tr d U,N.sh d U,N.de d U,05,λH3 J=>?_⟩;exact hN _ _ _ (by rw[aaw,F];rfl) ⟨⟨9⟩,o.trans J,by rw[aaW,hd];simp⟩
   ·rintro I c H2 F⟨⟨v,rfl⟩,o,rfl⟩;rw[abi 05];have Y:(r.map λd=>V.int (g_ d:Nat)).length<=20:=by rw[aaf];omega
    refine⟨aah Y 02,λq X=>?_⟩;have J:cu H (upd H2 q (.lst (r.map λd=>V.int (g_ d:Nat)))):=((B.trans T).trans o).trans (cu.new X);refine⟨q,r.map λd=>((g_ d:Nat):Int),8,by rw[aby];exact eY.of a_,by rw[aaf];omega,λx hx=>?_,7,8,?_⟩
    ·obtain⟨d,md,rfl⟩:=aao.mp hx;have:=Gf (N.sh d md) (N.de d md);have ab:2 ^ n<=2 ^ 10:=Nat.pow_le_pow_right 02 05;have:(2:Nat) ^ 10=1024:=by decide
     omega
    ·have es:(r.map g_).sum=jn r:=by
      clear k Y J X;have:∀l:List PyData,(l.map g_).sum=jn l:=by
       intro l;induction l with
       |nil=>rfl
       |cons d l ih=>rw[aay,abx,ih];rfl
      exact this r
     rw[xK,es];have:=k _ J;rw[show((1+jn r:Nat):Int)=1+((jn r:Nat):Int) by omega]at this;exact this
inductive Q9(K:Zs)(vs:List V)(H:Hp)(Q:VK)(E:XK):Prop
 |mk (p dc q q':Zl) (ys ys':Y2):vs=[.ref p,.ref q,.ref q']->Dr H p dc->eY K H q (ys.map V.str)->eY K H q' (ys'.map V.str)->ys≠[]->ys'≠[]->ys.length<=100->ys'.length<=100->(∀y∈ys,Nm y)->(∀y∈ys',Nm y)->(∀(x:V)(d:PyData)(H':Hp),Rep K H' x d->Tr 5 d->kE d=true->Dr H' p dc->h_ p H H'->Q x H')->Q9 K vs H Q E
noncomputable abbrev NTe:List Str:=["_law_d","_law_names","_law_kinds","_law_test_here"]
def Sq:cI NTe ["_law_d","_law_names","_law_kinds"] (bK (top 125)):=by ext
noncomputable def Ui(F:gU K "_law_test" "_law_test" (top 125) f fd)(T:Txt K mg)(v:mg "sum"=none)(C:fj K mg "_law_pick" (top 113) ["_law_d","_law_many"] fP j)(DO:fj K mg "_law_of" (top 114) ["_law_d","_law_things"] fO S)(DN:fj K mg "_law_number" (top 121) ["_law_d"] fN U)
 (W:fj K mg "_law_leaf" (top 122) ["_law_d","_law_names","_law_kinds"] fL m)(DT:fj K mg "_law_tree" (top 123) ["_law_d","_law_deep","_law_names","_law_kinds"] fT n)(DA:fj K mg "_law_parts" (top 124) ["_law_test_here"] fA o):cz P w K mg base dM 10 f fd ["_law_d","_law_names","_law_kinds"] (Q9 K):=by
 have GP:cz P w K mg base dM 1 fP j ["_law_d","_law_many"] jC:=jA C.F T;have GL:cz P w K mg base dM 4 fL m ["_law_d","_law_names","_law_kinds"] (G6 K):=O8 W.F T C DO DN;have GT:cz P w K mg base dM 9 fT n ["_law_d","_law_deep","_law_names","_law_kinds"] (Df K 5):=Ug DT T C DO DN W 4;have GA:cz P w K mg base dM 5 fA o ["_law_test_here"] (M9 K g_ 5):=Vd DA v 5;refine F.ok Sq 01 λaa A G s H vs Q E z h=>?_;obtain⟨p,R,q,q',ys,c,rfl,D,hq,e,ne,g,l,l',nm,i,k⟩:=h;have L:dX 1 _:=z.mono 02;have M:dX 4 _:=z.mono 02;have N:dX 5 _:=z.mono 02;refine⟨_,(b7 (j8 3 Sq.nd (j4 DT GT z (aK 06 (aK (eN iK cj (j4 C GP L (aK 06 (aK cj b_)))) (aK 003 (aK 010 b_)))))) (c7 (cW (jX (dg uL (j4 DA GA N (aK (pv 3) b_)) cj (di _)) (pv 3) (gF (aK cZ (aK (j4 W GL M (aK 06 (aK 003 (aK 010 b_)))) b_))))))),?_⟩
 try dsimp only[iD]
 refine⟨9,9,p,R,9,D,02,02,λr H1 r0 r1 D1 B=>⟨7,8,9,9,?_⟩⟩;refine⟨p,R,q,q',ys,c,1+r,8,05,D1,D.seq B hq,D.seq B e,ne,g,l,l',nm,i,λx d H2 X a Y Z=>?_⟩;have de:gY d<=5:=aah (Ey a.td a.sh) a.dp;refine⟨9,x,d,8,X,a.td,a.sh,de,02,λH3 b=>⟨7,8,9,lD (λh=>?_) (λh=>?_)⟩⟩
 ·have h:g_ d<=15:=by simp at h;omega
  exact⟨9,k x d H3 (X.same b) a (by unfold kE;rw[a.sh,aa6 de,aa6 h];rfl) (Y.mono b) ((B.trans Z).trans b.but)⟩
 ·have O:=(B.trans Z).trans (b.but (p:=p));refine⟨9,9,9,p,R,q,q',ys,c,8,Y.mono b,D.seq O hq,D.seq O e,ne,g,l,l',nm,i,λy f r H4 ry I D4 b4=>⟨01,λt J=>?_⟩⟩;have t1:Tr 2 (.tuple [.str "not",.tuple (.str f::r)]):=I.tr.one;refine k _ _ _ (.tup (e_.of a_) (.cons (.str _) (.cons (ry.same (cu.new J)) .nil))) (t1.mono 02) ?_ (D4.new J) ((O.trans b4).trans (h_.new J));have e1:gY (.tuple [.str "not",.tuple (.str f::r)])=2:=by show(if(arity "not").isSome=true then 1+max (if(arity f).isSome=true then 1+jo r else 1) 0 else 1)=2;rw[I.ar,show arity "not"=some 1 from by ext];rfl
  have e2:g_ (.tuple [.str "not",.tuple (.str f::r)])=2:=by show(if(arity "not").isSome=true then 1+((if(arity f).isSome=true then 1+jn r else 1)+0)else 1)=2;rw[I.ar,show arity "not"=some 1 from by ext];rfl
  unfold kE;rw[t1.sh,e1,e2];rfl
end
inductive Pd{α β:Type}(R:α->β->Prop):List α->List β->Prop
 |nil:Pd R [] []
 |cons {x:α} {y:β} {xs:List α} {ys:List β}:R x y->Pd R xs ys->Pd R (x::xs) (y::ys)
section
variable{α β:Type}
theorem Pd.map(h:∀x y,R x y->c x y):∀{a:List α}{b:List β},Pd R a b->Pd c a b
 |_,_,.nil=>.nil
 |_,_,.cons r t=>.cons (h _ _ r) (Pd.map h t)
theorem Pd.mapM:∀{a:List α}{b:List β},(∀x∈a,∀y,R x y->c x y)->Pd R a b->Pd c a b
 |_,_,_,.nil=>.nil
 |_,_,h,.cons r t=>.cons (h _ (aan ..) _ r) (Pd.mapM (λx m=>h x (aai _ m)) t)
theorem Pd.len:∀{xs:List α}{ys:List β},Pd R xs ys->xs.length=ys.length
 |_,_,.nil=>rfl
 |_,_,.cons _ t=>by rw[aaz,aaz,t.len]
theorem Pd.at:∀{xs:List α}{a:List β}{i:Nat}{x:α},Pd R xs a->xs[i]?=some x->∃y,a[i]?=some y/\R x y
 |_,_,_,_,.nil,e=>by simp at e
 |_,_,0,_,.cons r _,e=>by simp at e;subst e;exact⟨9,r⟩
 | _,_,i+1,_,.cons _ t,e=>by obtain⟨y,b,c⟩:=Pd.at (i:=i) t (by simpa using e);exact⟨y,by simpa using b,c⟩
theorem Pd.at':∀{a:List α}{b:List β}{i:Nat}{y:β},Pd R a b->b[i]?=some y->∃x,a[i]?=some x/\R x y
 |_,_,_,_,.nil,e=>by simp at e
 |_,_,0,_,.cons r _,e=>by simp at e;subst e;exact⟨9,r⟩
 | _,_,i+1,_,.cons _ t,e=>by obtain⟨y,c,d⟩:=Pd.at' (i:=i) t (by simpa using e);exact⟨y,by simpa using c,d⟩
theorem Pd.app(h:Pd R b vs):∀{a:List α}{ys:List β},Pd R a ys->Pd R (a++b) (ys++vs)
 |_,_,.nil=>h
 |_,_,.cons r t=>.cons r (Pd.app h t)
theorem Pd.erase:∀{a:List α}{b:List β}(i:Nat),Pd R a b->Pd R (a.eraseIdx i) (b.eraseIdx i)
 |_,_,_,.nil=>.nil
 |_,_,0,.cons _ t=>t
 |_,_,i+1,.cons r t=>.cons r (t.erase i)
theorem Pd.setM(h:R' x y):∀{xs:List α}{ys:List β}(i:Nat),(∀j u v,j≠i->xs[j]?=some u->R u v->R' u v)->Pd R xs ys->Pd R' (xs.set i x) (ys.set i y)
 |_,_,_,_,.nil=>.nil
 |_,_,0,k,.cons r t=>.cons h (Pd.mapM (λu m v q=>by obtain⟨j,a⟩:=aau.mp m;exact k (j+1) u v 05 (by simpa using a) q) t)
 |_,_,i+1,k,.cons r t=>.cons (k 0 _ _ 05 rfl r) (Pd.setM h i (λj u v ne e q=>k (j+1) u v 05 (by simpa using e) q) t)
end
structure Cl where
 tk:Int
 tm:Int
 nm:Str
 fi:List j9
 vs:List Int
 gv:Bool
structure Pg where
 cs:List Cl
 us:Int
 go:Int
structure Ln where
 pg:List Pg
 most:Int
 room:Int
 over:Bool
 held:Bool
 told:Int
 last:Option Int
 tks:Int
 giv:Int
 thr:Int
 los:Int
 mis:Int
structure LC where
 k:Addr
 c:Addr
 p:Addr
 l:Addr
structure LC.Ok(Z:LC):Prop where
 kc:Z.k≠Z.c
 kp:Z.k≠Z.p
 kl:Z.k≠Z.l
 cp:Z.c≠Z.p
 cl:Z.c≠Z.l
 pl:Z.p≠Z.l
structure PA where
 p:Addr
 l:Addr
 cs:List Addr
structure LA where
 a:Addr
 lp:Addr
 ps:List PA
noncomputable def LA.ls(k:LA):List Addr:=k.lp::k.ps.map (·.l)
noncomputable def LA.cs(k:LA):List Addr:=k.ps.flatMap (·.cs)
noncomputable def wW(m:Cl)(k t:Zl):List (Str×V):=[("ticket",.int m.tk),("time",.int m.tm),("form",.ref k),("filled",.ref t),("given",.bl m.gv)]
noncomputable def Kg(l:Zl)(m:Pg):List (Str×V):=[("claims",.ref l),("used",.int m.us),("gone",.int m.go)]
noncomputable def WR:Option Int->V
 |none=>.non
 |some i=>.int i
noncomputable def Et(a:Zl)(n:Ln):List (Str×V):=[("most",.int n.most),("room",.int n.room),("over",.bl n.over),("pages",.ref a),("held",.bl n.held),("told",.int n.told),("last_time",WR n.last),("tickets",.int n.tks),("given_in",.int n.giv),("thrown_back",.int n.thr),("lost",.int n.los),("missed",.int n.mis)]
structure iQ(Z:LC)(H:Hp)(c:Zl)(m:Cl):Prop where
 ex:∃dx k a t,H c=some (.ins Z.c dx (wW m k t))/\gA Z.k H k m.nm a m.fi/\H t=some (.tup (m.vs.map V.int))
structure iR(Z:LC)(H:Hp)(s:PA)(m:Pg):Prop where
 ob:∃dx,H s.p=some (.ins Z.p dx (Kg s.l m))
 ls:H s.l=some (.lst (s.cs.map V.ref))
 cs:Pd (iQ Z H) s.cs m.cs
structure dN(Z:LC)(H:Hp)(k:LA)(n:Ln):Prop where
 ob:∃dx,H k.a=some (.ins Z.l dx (Et k.lp n))
 ls:H k.lp=some (.lst (k.ps.map λs=>V.ref s.p))
 pg:Pd (iR Z H) k.ps n.pg
 n1:(k.ps.map (·.p)).Nodup
 n2:k.ls.Nodup
 n3:k.cs.Nodup
def Plain(Z:LC)(o:HO):Prop:=∀C a fs,o=.ins C a fs->C≠Z.c/\C≠Z.p/\C≠Z.l
structure Kt(Z:LC)(H H':Hp):Prop where
 tk:TK H H'
 kd:∀b dx fs,H b=some (.ins Z.k dx fs)->H' b=some (.ins Z.k dx fs)
section
variable{Z:LC}{H H' H'':Hp}
def cu.kt(s:cu H H'):Kt Z H H':=⟨λb a e=>s _ _ e,λb c fs e=>s _ _ e⟩
def Kt.lst(h:H q=some (.lst a)):Kt Z H (upd H q o):=
 ⟨TK.lst h,λc b fs e=>by rw[b8 (iV e h 005)];exact e⟩
def Kt.ins(h:H q=some (.ins C d fs))(ne:Z.k≠C):Kt Z H (upd H q o):=
 ⟨λc f e=>by rw[b8 (iV e h 005)];exact e,λc a b e=>by rw[b8 (λz=>by subst z;rw[h]at e;cases e;exact ne rfl)];exact e⟩
def gA.kt(h:gA Z.k H k nm a b)(q:Kt Z H H'):gA Z.k H' k nm a b:=by obtain⟨⟨c,e⟩,d,f,g⟩:=h;exact⟨⟨c,q.kd _ _ _ e⟩,d,q.tk _ _ f,gD g q.tk⟩
def iQ.kt(h:iQ Z H c m)(q:Kt Z H H')(s:H' c=H c):iQ Z H' c m:=by obtain⟨b,k,a,t,d,e,f⟩:=h.ex;exact⟨b,k,a,t,by rw[s];exact d,e.kt q,q.tk _ _ f⟩
def iR.kt(h:iR Z H s m)(q:Kt Z H H')(b:H' s.p=H s.p)(d:H' s.l=H s.l)(e:∀c∈s.cs,H' c=H c):iR Z H' s m:=
 ⟨by rw[b];exact h.ob,by rw[d];exact h.ls,Pd.mapM (λc a y r=>r.kt q (e c a)) h.cs⟩
def iQ.same(h:iQ Z H c m)(s:cu H H'):iQ Z H' c m:=by obtain⟨d,k,a,t,b,_⟩:=h.ex;exact h.kt (cu.kt s) (by rw[b];exact s _ _ b)
def iR.same(h:iR Z H s m)(e:cu H H'):iR Z H' s m:=by obtain⟨a,b⟩:=h.ob;exact⟨⟨a,e _ _ b⟩,e _ _ h.ls,h.cs.map λ_ _ r=>r.same e⟩
def dN.same(h:dN Z H k n)(e:cu H H'):dN Z H' k n:=by obtain⟨a,b⟩:=h.ob;exact⟨⟨a,e _ _ b⟩,e _ _ h.ls,h.pg.map λ_ _ r=>r.same e,h.n1,h.n2,h.n3⟩
noncomputable def LA.own(k:LA):List Addr:=k.a::(k.ps.map (·.p)++k.cs)
def LA.a_own{k:LA}:k.a∈k.own:=aan ..
def LA.p_own{k:LA}{i:Nat}{s:PA}(h:k.ps[i]?=some s):s.p∈k.own:=aai _ (aam.mpr (.inl (aao.mpr ⟨s,aap h,8⟩)))
def LA.c_own{k:LA}(h:c∈k.cs):c∈k.own:=aai _ (aam.mpr (.inr h))
structure Mv(Z:LC)(k:LA)(H:Hp)(k':LA)(H':Hp):Prop where
 out:∀b o,H b=some o->b∉k.ls->Plain Z o->H' b=some o
 fr:∀l∈k'.ls,l∈k.ls\/H l=none
 gr:∀b,H' b=none->H b=none
 a:k'.a=k.a
 lp:k'.lp=k.lp
 oth:∀b o,H b=some o->b∉k.own->b∉k.ls->H' b=some o
 fro:∀b∈k'.own,b∈k.own\/H b=none
def Mv.refl:Mv Z k H k H:=⟨λ_ _ e _ _=>e,λ_ m=>.inl m,λ_ e=>e,8,8,λ_ _ e _ _=>e,λ_ m=>.inl m⟩
theorem dY(s:cu H H')(e:H' b=none):H b=none:=by
 cases h:H b with
 |none=>rfl
 |some o=>rw[s _ _ h]at e;cases e
def Mv.same(s:cu H H'):Mv Z k H k H':=⟨λ_ _ e _ _=>s _ _ e,λ_ m=>.inl m,λb e=>dY s e,8,8,λ_ _ e _ _=>s _ _ e,λ_ m=>.inl m⟩
def Mv.trans(a:Mv Z k H g H')(b:Mv Z g H' f H''):Mv Z k H f H'':=by
 have d:∀c o,H c=some o->c∉k.ls->c∉g.ls:=λc o e n m=>by
  rcases a.fr c m with h|h
  ·exact n h
  ·rw[e]at h;cases h
 refine⟨λc o e n p=>b.out c o (a.out c o e n p) (d c o e n) p,λl m=>?_,λc e=>a.gr c (b.gr c e),b.a.trans a.a,b.lp.trans a.lp,λc o e i j=>b.oth c o (a.oth c o e i j) (λm=>?_) (d c o e j),λc m=>?_⟩
 ·rcases b.fr l m with h|h
  ·exact a.fr l h
  ·exact .inr (a.gr l h)
 ·rcases a.fro c m with h|h
  ·exact i h
  ·rw[e]at h;cases h
 ·rcases b.fro c m with h|h
  ·exact a.fro c h
  ·exact .inr (a.gr c h)
def Jp(h:dN Z H k n)(e:H b=some (.ins C d fs)):b∉k.ls:=by
 intro m;rcases aag.mp m with rfl|m
 ·have:=h.ls;rw[e]at this;cases this
 ·obtain⟨s,a,rfl⟩:=aao.mp m;obtain⟨i,c⟩:=aau.mp a;obtain⟨y,_,r⟩:=h.pg.at c;have:=r.ls;rw[e]at this;cases this
def v_(h:H b=some u)(e:upd H b o c=none):H c=none:=by
 by_cases z:c=b
 ·subst z;rw[a_]at e;cases e
 ·rw[b8 z]at e;exact e
def Mv.ins(e:H b=some (.ins C f fs))(i:C=Z.c\/C=Z.p\/C=Z.l)(j:b∈k.own):Mv Z k H k (upd H b o):=by
 refine⟨λc u d _ p=>?_,λ_ m=>.inl m,λc h=>v_ e h,8,8,λc u d g _=>by rw[b8 (λz=>g (by rw[z];exact j))];exact d,λ_ m=>.inl m⟩;rw[b8 (λz=>by
  subst z;rw[e]at d;cases d;have:=p C f fs rfl;rcases i with h|h|h
  ·exact this.1 h
  ·exact this.2.1 h
  ·exact this.2.2 h)];exact d
def Mv.lst(e:H b=some (.lst m))(i:b∈k.ls)(q:d.a=k.a)(r:∀l∈d.ls,l∈k.ls\/H l=none)(ho:∀c∈d.own,c∈k.own\/H c=none)(g:d.lp=k.lp:=by rfl):Mv Z k H d (upd H b o):=
 ⟨λc u f n p=>by rw[b8 (λz=>by subst z;exact n i)];exact f,r,λc h=>v_ e h,q,g,λc u f _ j=>by rw[b8 (λz=>j (by rw[z];exact i))];exact f,ho⟩
noncomputable def Mv.lstN(s:cu H f)(e:f b=some (.lst m))(i:b∈k.ls)(q:k'.a=k.a)(r:∀l∈k'.ls,l∈k.ls\/H l=none)(ho:∀c∈k'.own,c∈k.own\/H c=none)(g:k'.lp=k.lp:=by rfl):Mv Z k H k' (upd f b o):=
 ⟨λc u d n p=>by rw[b8 (λz=>by subst z;exact n i)];exact s _ _ d,r,λc h=>dY s (v_ e h),q,g,λc u d _ j=>by rw[b8 (λz=>j (by rw[z];exact i))];exact s _ _ d,ho⟩
end
def iQ.ins(h:iQ Z H c m):∃b fs,H c=some (.ins Z.c b fs):=by obtain⟨b,k,a,t,e,_⟩:=h.ex;exact⟨b,_,e⟩
def iQ.upd(h:iQ Z H c m)(q:Kt Z H (upd H b o))(ne:c≠b):iQ Z (upd H b o) c m:=h.kt q (b8 ne)
def iR.updP(d:Z.Ok)(h:iR Z H s m)(e:H b=some (.ins Z.p n fs))(ne:s.p≠b):iR Z (upd H b o) s m:=
 h.kt (Kt.ins e d.kp) (b8 ne) (b8 (λz=>by have:=h.ls;rw[z,e]at this;cases this)) λc f=>b8 λz=>by
  obtain⟨i,g⟩:=aau.mp f;obtain⟨y,_,r⟩:=h.cs.at g;obtain⟨j,l,a⟩:=r.ins;rw[z,e]at a;injection a with a
  injection a with a
  exact d.cp a.symm
def iR.updN(f:Z.Ok)(h:iR Z H s m)(e:H b=some (.ins Z.l n fs)):iR Z (upd H b o) s m:=
 h.kt (Kt.ins e f.kl) (b8 (λz=>by
  obtain⟨d,a⟩:=h.ob;rw[z,e]at a;injection a with a
  injection a with a
  exact f.pl a.symm)) (b8 (λz=>by have:=h.ls;rw[z,e]at this;cases this)) λc g=>b8 λz=>by
  obtain⟨i,j⟩:=aau.mp g;obtain⟨y,_,r⟩:=h.cs.at j;obtain⟨d,l,a⟩:=r.ins;rw[z,e]at a;injection a with a
  injection a with a
  exact f.cl a.symm
def iR.updL(h:iR Z H s m)(e:H b=some (.lst l))(ne:s.l≠b):iR Z (upd H b o) s m:=
 h.kt (Kt.lst e) (b8 (λz=>by
  obtain⟨d,a⟩:=h.ob;rw[z,e]at a;cases a)) (b8 ne) λc f=>b8 λz=>by
  obtain⟨i,g⟩:=aau.mp f;obtain⟨y,_,r⟩:=h.cs.at g;obtain⟨d,j,a⟩:=r.ins;rw[z,e]at a;cases a
def dN.setL(b:Z.Ok)(h:dN Z H k n)(e:H k.a=some (.ins Z.l c fs))(a:Ln)(d:a.pg=n.pg):dN Z (upd H k.a (.ins Z.l dx' (Et k.lp a))) k a:=by
 refine⟨⟨_,a_⟩,?_,?_,h.n1,h.n2,h.n3⟩
 ·rw[b8 (λz=>by have:=h.ls;rw[z,e]at this;cases this)];exact h.ls
 ·rw[d];exact h.pg.map λ_ _ r=>r.updN b e
def Oa{b:Type}{a:List b}{i j:Nat}{x y:b}(d:a.Nodup)(ne:i≠j)(c:a[i]?=some x)(e:a[j]?=some y):x≠y:=λz=>by subst z;exact ne ((acF (aaD.mp c).1 d).mp (c.trans e.symm))
theorem mG{c:Type}:∀{b:List c}{i:Nat}{x:c},b[i]?=some x->b.set i x=b
 |[],_,_,e=>by simp at e
 |a::r,0,x,e=>by simp at e;subst e;rfl
 |a::r,i+1,x,e=>by rw[acG,mG (i:=i) (by simpa using e)]
noncomputable def dN.setP{Z:LC}{k:LA}{n:Ln}(d:Z.Ok)(h:dN Z H k n){i:Nat}{s:PA}{m m':Pg}{dx':Zl}(f:k.ps[i]?=some s)(w:n.pg[i]?=some m)(A:m'.cs=m.cs):dN Z (upd H s.p (.ins Z.p dx' (Kg s.l m'))) k {n with pg:=n.pg.set i m'}:=by
 obtain⟨y,g,r⟩:=h.pg.at f;rw[w]at g;cases g;obtain⟨C,e⟩:=r.ob;have o:(k.ps.map (·.p))[i]?=some s.p:=by rw[aaq,f];rfl
 refine⟨?_,?_,?_,h.n1,h.n2,h.n3⟩
 ·obtain⟨dl,a⟩:=h.ob;refine⟨dl,?_⟩;rw[b8 (λz=>by
   rw[z,e]at a;injection a with a
   injection a with a
   exact d.pl a)];exact a
 ·rw[b8 (λz=>by have:=h.ls;rw[z,e]at this;cases this)];exact h.ls
 ·have pp:=Pd.setM (R:=iR Z H) (R':=iR Z (upd H s.p (.ins Z.p dx' (Kg s.l m')))) (x:=s) (y:=m') (xs:=k.ps) (ys:=n.pg) ?_ i (λj u v ne l q=>q.updP d e (Oa h.n1 ne (by rw[aaq,l];rfl) o)) h.pg
  ·rw[mG f]at pp;exact pp
  ·refine⟨⟨_,a_⟩,?_,?_⟩
   ·rw[b8 (λz=>by have:=r.ls;rw[z,e]at this;cases this)];exact r.ls
   ·rw[A];refine Pd.mapM (λc B y q=>q.upd (Kt.ins e d.kp) λz=>?_) r.cs;obtain⟨dx',p,b⟩:=q.ins;rw[z,e]at b;injection b with b
    injection b with b
    exact d.cp b.symm
def i_{a c:Type}(f:a->c){b:List a}{i:Nat}{s s':a}(d:b[i]?=some s)(e:f s'=f s):(b.set i s').map f=b.map f:=by rw[ach,e];exact mG (by rw[aaq,d];rfl)
theorem sr{c d:List PA}(h:c.Sublist d):(c.flatMap (·.cs)).Sublist (d.flatMap (·.cs)):=by
 induction h with
 |slnil=>exact aci _
 |cons a _ b=>rw[aaI];exact b.trans (List.sublist_append_right _ _)
 |cons_cons a _ b=>rw[aaI,aaI];exact(aci _).append b
def dN.ne_lp{k:LA}(h:dN Z H k n){i:Nat}{s:PA}(a:k.ps[i]?=some s):s.l≠k.lp:=λz=>by have:=(aaK.mp h.n2).1;exact this (by rw[<-z];exact aao.mpr ⟨s,aap a,8⟩)
def dN.ne_l{k:LA}(h:dN Z H k n){i j:Nat}{s b:PA}(ne:i≠j)(c:k.ps[i]?=some s)(a:k.ps[j]?=some b):s.l≠b.l:=
 Oa (aaK.mp h.n2).2 ne (by rw[aaq,c];rfl) (by rw[aaq,a];rfl)
noncomputable def dN.setPs{k:LA}(h:dN Z H k n){ps:List PA}{pg:List Pg}(hp:Pd (iR Z H) ps pg)(ne:∀s∈ps,s.l≠k.lp)(n1:(ps.map (·.p)).Nodup)(n2:(ps.map (·.l)).Nodup)(n3:(ps.flatMap (·.cs)).Nodup):dN Z (upd H k.lp (.lst (ps.map λs=>V.ref s.p))) {k with ps:=ps} {n with pg:=pg}:=by
 obtain⟨dx,e⟩:=h.ob;refine⟨⟨dx,?_⟩,a_,Pd.mapM (λs ms y r=>r.updL h.ls (ne s ms)) hp,n1,?_,n3⟩
 ·show upd H k.lp _ k.a=_;rw[b8 (λz=>by have:=h.ls;rw[<-z,e]at this;cases this)];exact e
 ·refine aaK.mpr ⟨λm=>?_,n2⟩;obtain⟨s,ms,z⟩:=aao.mp m;exact ne s ms z
noncomputable def dN.pop{k:LA}{n:Ln}(h:dN Z H k n)(i:Nat):dN Z (upd H k.lp (.lst ((k.ps.eraseIdx i).map λs=>V.ref s.p))) {k with ps:=k.ps.eraseIdx i} {n with pg:=n.pg.eraseIdx i}:=by have a:=acj k.ps i;refine h.setPs (h.pg.erase i) (λs b=>?_) (h.n1.sublist (a.map _)) ((aaK.mp h.n2).2.sublist (a.map _)) (h.n3.sublist (sr a));obtain⟨j,c⟩:=aau.mp (a.subset b);exact h.ne_lp c
noncomputable def dN.page(h:dN Z H k n)(i:iR Z H s m)(e:s.cs=[])(l:s.p∉k.ps.map (·.p))(nl:s.l∉k.ls):dN Z (upd H k.lp (.lst ((k.ps++[s]).map λs=>V.ref s.p))) {k with ps:=k.ps++[s]} {n with pg:=n.pg++[m]}:=by
 refine h.setPs (Pd.app (.cons i .nil) h.pg) (λo d=>?_) ?_ ?_ ?_
 ·rcases aam.mp d with d|d
  ·obtain⟨j,g⟩:=aau.mp d;exact h.ne_lp g
  ·cases aal.mp d;exactλz=>nl (by rw[z];exact aan ..)
 ·rw[aaA];exact abj.mpr ⟨h.n1,04,λa f b c z=>by
   have c:b=s.p:=by simpa using c
   rw[z,c]at f;exact l f⟩
 ·rw[aaA];exact abj.mpr ⟨(aaK.mp h.n2).2,04,λa f b c z=>by
   have c:b=s.l:=by simpa using c
   rw[z,c]at f;exact nl (aai _ f)⟩
 ·rw[aa1];have:[s].flatMap (·.cs)=[]:=by simp[e]
  rw[this,aa0];exact h.n3
theorem Ge{d:Type}{z:d}:∀{c:List d}{i:Nat},c.Nodup->z∉c->(c.set i z).Nodup
 |[],_,_,_=>by simp
 |a::r,0,b,nm=>aaK.mpr ⟨λm=>nm (aai _ m),(aaK.mp b).2⟩
 | a::r,i+1,b,nm=>by
   obtain⟨e,f⟩:=aaK.mp b;refine aaK.mpr ⟨λm=>?_,Ge f λm=>nm (aai _ m)⟩;rcases abQ m with m|m
   ·exact e m
   ·exact nm (by rw[m];exact aan ..)
noncomputable def dN.setI{H:Hp}{k:LA}{n:Ln}(h:dN Z H k n){d:Hp}{i:Nat}{s s':PA}{m':Pg}(f:k.ps[i]?=some s)(g:s'.p=s.p)(c:s'.l=s.l\/s'.l∉k.ls)(p:((k.ps.set i s').flatMap (·.cs)).Nodup)(q:iR Z d s' m')
 (r:∀o,H k.a=some o->d k.a=some o)(w:∀o,H k.lp=some o->d k.lp=some o)(x:∀j u v,j≠i->k.ps[j]?=some u->iR Z H u v->iR Z d u v):dN Z d {k with ps:=k.ps.set i s'} {n with pg:=n.pg.set i m'}:=by
 obtain⟨l,e⟩:=h.ob;refine⟨⟨l,r _ e⟩,?_,Pd.setM q i x h.pg,?_,?_,p⟩
 ·have:=w _ h.ls;show d k.lp=some (.lst ((k.ps.set i s').map λs=>V.ref s.p));rw[i_ (λs:PA=>V.ref s.p) f (by rw[g])];exact this
 ·show((k.ps.set i s').map (·.p)).Nodup;rw[i_ (·.p) f g];exact h.n1
 ·show(k.lp::(k.ps.set i s').map (·.l)).Nodup;rcases c with c|c
  ·rw[i_ (·.l) f c];exact h.n2
  ·obtain⟨a,b⟩:=aaK.mp h.n2;have y:i<k.ps.length:=(aaD.mp f).1;refine aaK.mpr ⟨λm=>?_,?_⟩
   ·rw[ach]at m;rcases abQ m with m|m
    ·exact a m
    ·exact c (by rw[<-m];exact aan ..)
   ·rw[ach];exact Ge b (λm=>c (aai _ m))
def Mf{k:LA}{ps:List PA}(h:ps.Sublist k.ps)(mc:c∈({k with ps:=ps}:LA).own):c∈k.own:=by
 rcases aag.mp mc with rfl|mc
 ·exact aan ..
 ·rcases aam.mp mc with mc|mc
  ·exact aai _ (aam.mpr (.inl ((h.map _).subset mc)))
  ·exact aai _ (aam.mpr (.inr ((sr h).subset mc)))
def BR(c:X.K=K)(d:PE X e b)(g:attributeBase e f X.env (eval e X.env)=eval e X.env):PE X (.Attribute e f a) (K3 K b f):=by subst c;exact cU d g
structure MD(K:Zs)(C:Zl)(m qual:Str)(st:Stmt)(ps:Y2)(f:Zl)(fd:ZB):Prop where
 M:Meth K C m f
 F:gU K m qual st f fd
 b:Binds K fd ps []
abbrev cM(j:Nat):Stmt:=inClass (top 56) j
abbrev gM(j:Nat):Stmt:=inClass (top 57) j
abbrev lM(j:Nat):Stmt:=inClass (top 58) j
structure LZ(K:Zs)(mg:Y1)(Z:LC):Prop where
 ok:Z.Ok
 kc:KCls K mg Z.k
 cc:uC K Z.c
 cmg:mg "Claim"=some (.ref Z.c)
 c1:eH K Z.c "ticket"
 c2:eH K Z.c "time"
 c3:eH K Z.c "form"
 c4:eH K Z.c "filled"
 c5:eH K Z.c "given"
 pc:uC K Z.p
 pmg:mg "Page"=some (.ref Z.p)
 p1:eH K Z.p "claims"
 p2:eH K Z.p "used"
 p3:eH K Z.p "gone"
 lc:uC K Z.l
 lmg:mg "Lane"=some (.ref Z.l)
 l1:eH K Z.l "most"
 l2:eH K Z.l "room"
 l3:eH K Z.l "over"
 l4:eH K Z.l "pages"
 l5:eH K Z.l "held"
 l6:eH K Z.l "told"
 l7:eH K Z.l "last_time"
 l8:eH K Z.l "tickets"
 l9:eH K Z.l "given_in"
 l10:eH K Z.l "thrown_back"
 l11:eH K Z.l "lost"
 l12:eH K Z.l "missed"
noncomputable def gn(h:H x=none)(c:H a=none)(k:∀b u,upd (upd H a (.own x)) x o b=some u->b≠x->f b=some u):cu H f:=λb u e=>by have d:b≠x:=cg e h;have g:b≠a:=cg e c;exact k b u (by rw[b8 d,b8 g];exact e) d
section
variable{P:ZE}{w:ZH}{K:Zs}{mg:Y1}{base:ZN}{Z:LC}
inductive Hy(Z:LC)(vs:List V)(H:Hp)(Q:VK)(E:XK):Prop
 |mk (o dx:Zl):vs=[.ref o]->H o=some (.ins Z.p dx [])->(∀l H',H l=none->H' o=some (.ins Z.p dx (Kg l ⟨[],0,0⟩))->H' l=some (.lst [])->(∀b u,H b=some u->b≠o->H' b=some u)->Q .non H')->Hy Z vs H Q E
def XX:cI ["self"] ["self"] (bK (gM 0)):=by ext
def Gr(F:gU K "__init__" "Page.__init__" (gM 0) f j)(L:LZ K mg Z):cz P w K mg base dM 1 f j ["self"] (Hy Z):=by
 refine F.ok XX 01 λm A c s H vs Q E n h=>?_;obtain⟨o,g,rfl,ho,k⟩:=h;refine⟨_,(b7 (dz 06 (gQ b_) rfl) (b7 (dz 06 cj rfl) (c7 (dz 06 cj rfl)))),?_⟩;refine⟨01,λl d=>?_⟩;have a:o≠l:=cg ho d;refine⟨9,o,Z.p,g,[],8,(by rw[b8 a];exact ho),L.pc,L.p1,(show 0<1000 by decide),?_⟩;refine⟨9,o,Z.p,g,9,a_,L.pc,L.p2,(show 1<1000 by decide),?_⟩;refine⟨9,o,Z.p,g,9,a_,L.pc,L.p3,(show 2<1000 by decide),?_⟩;refine k l _ d a_ ?_ ?_
 ·rw[b8 a.symm,b8 a.symm,b8 a.symm,a_]
 ·intro b u e i;rw[b8 i,b8 i,b8 i,b8 (cg e d)];exact e
noncomputable def vL(cs:List Cl):List Cl:=cs.filter λc=>!c.gv
inductive F_(Z:LC)(vs:List V)(H:Hp)(Q:VK)(E:XK):Prop
 |mk (s:PA) (m:Pg):vs=[.ref s.p]->iR Z H s m->s.cs.length<=1000->(∀(l:Zl)(as:YI)(H':Hp),cu H H'->H' l=some (.lst (as.map V.ref))->Pd (iQ Z H') as (vL m.cs)->as.Sublist s.cs->Q (.ref l) H')->F_ Z vs H Q E
def Y4:cI ["self"] ["self"] (bK (gM 1)):=by ext
def N6(C:d a=some (.lst (cs.map V.ref)))(z:Pd (iQ Z d) cs l)(D:cs.length<=1000)(f:Cl->Bool)
 (E:∀c m,iQ Z d c m->∀Q:Bool->Hp->Prop,Q (f m) d->y (some (.ref c)::σr) d Q)(G:∀b,Pd (iQ Z d) b (l.filter f)->b.Sublist cs->F (b.map V.ref) d):
 ∃W:Nat->Nat->List V->St->Hp->Prop,(∃m,W 0 m [] (none::σr) d)/\sO (YH K a) (eQ 0) y (nM 0) F W:=by
 have A:=z.len;refine Ac (xs:=cs.map V.ref) (λi n o H=>H=d/\(∃u,o=u::σr)/\∃b,n=b.map V.ref/\Pd (iQ Z d) b ((l.take i).filter f)/\b.Sublist (cs.take i)) (by rw[aaf];exact aah D 02) ⟨8,⟨none,8⟩,[],8,.nil,aci _⟩ (λi n o H _ h=>by rw[h.1];exact eY.of C) ?_ ?_
 ·rintro i x n o H j⟨rfl,⟨u,rfl⟩,b,rfl,e,g⟩N v;rw[aaq]at j;obtain⟨c,s,rfl⟩:∃c,cs[i]?=some c/\V.ref c=x:=by
   cases hj:cs[i]? with
   |none=>rw[hj]at j;cases j
   |some c=>rw[hj]at j;exact⟨c,8,by simpa using j⟩
  obtain⟨m,B,r⟩:=z.at s;dsimp only[eQ,List.set];refine E c m r _ ?_;have p:cs.take (i+1)=cs.take i++[c]:=by rw[aaW,s];rfl
  have q:l.take (i+1)=l.take i++[m]:=by rw[aaW,B];rfl
  cases hf:f m with
  | true=>
    rw[aac rfl];refine⟨9,v _ _ _ ⟨8,⟨9⟩,b++[c],by rw[aaA];rfl,?_,?_⟩ (by rw[aaw];exact aae _)⟩
    ·rw[q,ack];have:[m].filter f=[m]:=by simp[hf]
     rw[this];exact Pd.app (.cons r .nil) e
    ·rw[p];exact g.append (aci _)
  | false=>
    rw[aab 02];refine v _ _ _ ⟨8,⟨9⟩,b,8,?_,?_⟩ 05
    ·rw[q,ack];have:[m].filter f=[]:=by simp[hf]
     rw[this,aa0];exact e
    ·rw[p];exact g.trans (List.sublist_append_left _ _)
 ·rintro n o H _⟨rfl,_,b,rfl,e,g⟩;rw[aaf]at e g;rw[A,aaQ]at e;rw[aaQ]at g;exact G b e g
def Nr(F:gU K "unclosed" "Page.unclosed" (gM 1) f v)(L:LZ K mg Z):cz P w K mg base dM 1 f v ["self"] (F_ Z):=by
 refine F.ok Y4 01 λx A d s H vs Q E G h=>?_;obtain⟨s,m,rfl,b,l,k⟩:=h;obtain⟨z,ho⟩:=b.ob;refine⟨_,(c7 (cW (j0 (g:=eQ 0) (own:=["claim"]) (js:=[]) (N':=["claim"]) (dJ.of (osc:=bK (gM 1)) (N:=["self"]) rfl rfl 01) rfl (iW (cU 06 004)) (λ_ _ _ _ _=>(eX (i:=0) (show List.Nodup (["claim"]:Y2) by ext) rfl 012 013)) (λ_ _ _ _ _=>xu (ju (gZ (BR (K:=K) rfl 06 rfl)))) (λ_ _ _ _ _=>pv 0)))),?_⟩;refine⟨9,s.p,Z.p,z,7,ho,L.pc,L.p1,8,s.l,8,⟨_,eY.of b.ls⟩,?_⟩;refine N6 (σr:=[]) b.ls b.cs l (λc=>!c.gv) ?_ ?_
 ·intro c m r I C;obtain⟨B,kk,a,t,e,_⟩:=r.ex;exact⟨9,c,Z.c,B,7,e,L.cc,L.c5,8,9,C⟩
 ·intro n D q;refine⟨by rw[aaf];exact aah (aah q.length_le l) 02,λp y=>?_⟩;have j:=cu.new (o:=.lst (n.map V.ref)) y;exact k p n _ j a_ (D.map λ_ _ r=>r.same j) q
structure sS(nm:Str)(fs:List j9):Prop where
 nm:Nm nm
 le:fs.length<=4
 ok:∀f∈fs,nU f
 nd:(fs.map (·.1)).Nodup
def eZ(tk a:Int)(nm:Str)(fs:List j9):Cl:=⟨tk,a,nm,fs,fs.map (·.2.1),false⟩
inductive K8(Z:LC)(vs:List V)(H:Hp)(Q:VK)(E:XK):Prop
 |mk (o dx kd a:Zl) (tk tm:Int) (nm:Str) (fs:List j9):vs=[.ref o,.int tk,.int tm,.ref kd]->H o=some (.ins Z.c dx [])->gA Z.k H kd nm a fs->sS nm fs->(∀H',iQ Z H' o (eZ tk tm nm fs)->(∀b u,H b=some u->b≠o->H' b=some u)->Q .non H')->K8 Z vs H Q E
def Yg:cI ["self","ticket","time","kind"] ["self","ticket","time","kind"] (bK (cM 0)):=by ext
def gA.keep(h:gA Z.k H k nm a j)(e:H o=some (.ins C n d))(ne:Z.k≠C)(kp:∀b u,H b=some u->b≠o->i b=some u):gA Z.k i k nm a j:=by
 obtain⟨⟨dk,c⟩,l,g,m⟩:=h;refine⟨⟨dk,kp _ _ c λz=>?_⟩,l,kp _ _ g (iV g e 005),gD m λb p f=>kp _ _ f (iV f e 005)⟩;rw[z,e]at c;injection c with c
 injection c with c
 exact ne c.symm
noncomputable def Wk(F:gU K "__init__" "Claim.__init__" (cM 0) f fd)(L:LZ K mg Z)(M:Mk K Z.k fI)(GI:cz P w K mg base dM 4 fI B ["self","name","fields"] (wB Z.k))(bI:Binds K B ["self","name","fields"] [])(ML:MD K Z.k "lowest" "Kind.lowest" (kM 1) ["self"] fL C)(GL:cz P w K mg base dM 1 fL C ["self"] (qD Z.k)):cz P w K mg base dM 6 f fd ["self","ticket","time","kind"] (K8 Z):=by
 refine F.ok Yg 01 λJ A N s H vs Q E hr h=>?_;obtain⟨o,c,kd,a,tk,l,nm,fs,rfl,ho,ka,v,k⟩:=h;have T:dX 1 _:=hr.mono 02;refine⟨_,(b7 (dz 06 003 rfl) (b7 (dz 06 010 rfl) (b7 (dz 06 (kW M GI hr rfl L.kc.mg bI .nil dC (aK (cU (pv 3) rfl) (aK (cU (pv 3) rfl) b_))) rfl) (b7 (dz 06 (eG (pv 3) L.kc.cl ML.M GL T ML.b .nil dC) rfl) (c7 (dz 06 j5 rfl)))))),?_⟩;have D:=L.ok.kc;refine⟨9,9,o,Z.c,c,[],8,ho,L.cc,L.c1,(show 0<1000 by decide),?_⟩;refine⟨9,9,o,Z.c,c,9,a_,L.cc,L.c2,(show 1<1000 by decide),?_⟩;generalize i:upd (upd H o (.ins Z.c c (fX "ticket" (.int tk) []))) o (.ins Z.c c (fX "time" (.int l) (fX "ticket" (.int tk) [])))=y;have k2:∀b u,H b=some u->b≠o->y b=some u:=λb u e d=>by rw[<-i,b8 d,b8 d];exact e
 have e2:y o=some (.ins Z.c c [("ticket",.int tk),("time",.int l)]):=by rw[<-i,a_];rfl
 clear i;have q:=ka.keep ho D k2;obtain⟨⟨dk,ek⟩,xs,et,pf⟩:=id q;refine⟨9,kd,Z.k,dk,7,ek,L.kc.cl,L.kc.nN,Ba nm a,9,kd,Z.k,dk,7,ek,L.kc.cl,L.kc.nF,jQ nm a,λx g hx m O=>?_⟩;have s3:cu y (upd (upd y g (.own x)) x (.ins Z.k g [])):=(cu.new m).trans (cu.new (by rw[b8 O.symm];exact hx));refine⟨x,g,a,nm,xs,fs,8,a_,v.nm,s3 _ _ et,gD pf (λb ys e=>s3 _ _ e),v.le,v.ok,v.nd,λR S k4=>⟨8,?_⟩⟩;have G:cu y R:=gn hx m k4;refine⟨9,o,Z.c,c,9,G _ _ e2,L.cc,L.c3,(show 2<1000 by decide),?_⟩;generalize j:upd R o (.ins Z.c c (fX "form" (.ref x) [("ticket",.int tk),("time",.int l)]))=I;have e4:=G _ _ e2;have U:∀b u,R b=some u->b≠o->I b=some u:=λb u e d=>by rw[<-j,b8 d];exact e
 have W:I o=some (.ins Z.c c [("ticket",.int tk),("time",.int l),("form",.ref x)]):=by rw[<-j,a_];rfl
 clear j;have X:gA Z.k I x nm a fs:=S.keep e4 D U;have r:gA Z.k I kd nm a fs:=(q.kt (cu.kt G)).keep e4 D U;obtain⟨⟨aa,ab⟩,_⟩:=id r;refine⟨9,kd,aa,9,ab,uH nm a 01 01,kd,a,nm,fs,8,r,v.le,λp H6 hp n=>?_⟩;refine⟨9,o,Z.c,c,9,n _ _ W,L.cc,L.c4,(show 3<1000 by decide),?_⟩;refine⟨9,o,Z.c,c,9,a_,L.cc,L.c5,(show 4<1000 by decide),?_⟩;have Y:p≠o:=iV hp (n _ _ W) 005;have k7:∀b u,H6 b=some u->b≠o->(upd (upd H6 o (.ins Z.c c (fX "filled" (.ref p) [("ticket",.int tk),("time",.int l),("form",.ref x)]))) o (.ins Z.c c (fX "given" (.bl false) (fX "filled" (.ref p) [("ticket",.int tk),("time",.int l),("form",.ref x)])))) b=some u:=λb u e d=>by rw[b8 d,b8 d];exact e
 refine k _ ⟨c,x,a,p,a_,(X.kt (cu.kt n)).keep (n _ _ W) D k7,?_⟩ ?_
 ·refine k7 _ _ (hp.trans ?_) Y;show some (HO.tup (fs.map λf=>V.int f.2.1))=some (.tup ((fs.map (·.2.1)).map V.int));rw[aby];rfl
 ·exactλb u e d=>k7 _ _ (n _ _ (U _ _ (G _ _ (k2 _ _ e d)) d)) d
end
noncomputable def vo(n:Ln):Nat:=if n.held then 1 else 0
def rz(i:Nat)(n:Ln):Ln:=match n.pg[i]?,n.pg[i+1]? with
 |some p,some q=>{n with pg:=(n.pg.eraseIdx i).set i {q with go:=q.go+(p.go+p.cs.length)}}
 |_,_=>n
def qZ(n:Ln):Ln:=rz (vo n) {n with los:=n.los+((n.pg[vo n]?.map (·.cs.length)).getD 0:Nat)}
theorem G_{b c:Type}(f:b->c):∀(a:List b)(i:Nat),(a.eraseIdx i).map f=(a.map f).eraseIdx i
 |[],_=>rfl
 |_::_,0=>rfl
 |x::r,i+1=>by rw[acu,aay,aay,acu,G_ f r i]
theorem HW{b:Type}:∀(a:List b)(i:Nat),(a.eraseIdx i)[i]?=a[i+1]?
 |[],_=>rfl
 |_::_,0=>by simp
 |x::r,i+1=>by rw[acu];simpa using HW r i
section
variable{P:ZE}{w:ZH}{K:Zs}{mg:Y1}{base:ZN}{Z:LC}
inductive Mh(Z:LC)(vs:List V)(H:Hp)(Q:VK)(E:XK):Prop
 |mk (k:LA) (n:Ln):vs=[.ref k.a]->dN Z H k n->Q (.int (vo n:Nat)) H->Mh Z vs H Q E
def Xv:cI ["self"] ["self"] (bK (lM 3)):=by ext
theorem NK(F:gU K "eldest" "Lane.eldest" (lM 3) f b)(L:LZ K mg Z):cz P w K mg base dM 1 f b ["self"] (Mh Z):=by
 refine F.ok Xv 01 λc A a s H vs Q E i h=>?_;obtain⟨k,n,rfl,d,q⟩:=h;obtain⟨g,e⟩:=d.ob;refine⟨_,(c7 (cW (jX (gZ 03) cj cj))),?_⟩;refine⟨9,k.a,Z.l,g,7,e,L.lc,L.l5,8,9,?_⟩;unfold vo at q;cases hh:n.held with
 |true=>rw[hh]at q;exact iM rfl q
 |false=>rw[hh]at q;exact gB rfl q
inductive RN(Z:LC)(vs:List V)(H:Hp)(Q:VK)(E:XK):Prop
 |mk (k:LA) (n:Ln) (i:Nat):vs=[.ref k.a,.int (i:Nat)]->dN Z H k n->i+1<n.pg.length->n.pg.length<=1000->(∀k' H',dN Z H' k' (rz i n)->Mv Z k H k' H'->Q .non H')->RN Z vs H Q E
def Oh:cI ["self","number","page","later"] ["self","number"] (bK (lM 5)):=by ext
def Vz(F:gU K "leave" "Lane.leave" (lM 5) f Y)(T:Txt K mg)(L:LZ K mg Z):cz P w K mg base dM 1 f Y ["self","number"] (RN Z):=by
 refine F.ok Oh 01 λaa A B s H vs Q E hr h=>?_;obtain⟨k,n,i,rfl,d,hi,hl,q⟩:=h;refine⟨_,(b7 (j8 2 Oh.nd (oY abq PySem.F.slot_list_pop PySem.F.type_list_pop Jf 03 (aK 003 b_))) (b7 (j8 3 Oh.nd (d_ iH 03 003)) (c7 (jT (pv 3) (eN iK (cU 010 rfl) (du dO 004 T.len gK (aK (cU 010 rfl) b_))) pF)))),?_⟩;obtain⟨dx,e⟩:=d.ob;have pl:=d.pg.len;obtain⟨r,m⟩:∃s,k.ps[i]?=some s:=⟨_,aaH 05⟩;obtain⟨I,x⟩:∃s,k.ps[i+1]?=some s:=⟨_,aaH 05⟩;obtain⟨z,J,S⟩:=d.pg.at m;obtain⟨U,y,r1⟩:=d.pg.at x;have ex:(k.ps.map λs=>V.ref s.p)[i]?=some (.ref r.p):=by rw[aaq,m];rfl
 refine⟨9,k.a,Z.l,dx,7,e,L.lc,L.l4,8,.inl ⟨8,_,eY.of d.ls⟩,9,k.lp,_,_,i,9,8,d.ls,05,05,?_,ex,?_⟩
 ·rw[aaf];unfold seqIndex?;simp;omega
 rw[<-G_];have b:=d.pop i;have j:iR Z (upd H k.lp (.lst ((k.ps.eraseIdx i).map λs=>V.ref s.p))) r z:=S.updL d.ls (d.ne_lp m);have v:Mv Z k H {k with ps:=k.ps.eraseIdx i} (upd H k.lp (.lst ((k.ps.eraseIdx i).map λs=>V.ref s.p))):=Mv.lst d.ls (aan ..) rfl (λl C=>by
  rcases aag.mp C with rfl|C
  ·exact .inl (aan ..)
  ·exact .inl (aai _ (((acj k.ps i).map _).subset C))) (λc mc=>.inl (Mf (acj k.ps i) mc));generalize upd H k.lp (.lst ((k.ps.eraseIdx i).map λs=>V.ref s.p))=H1 at b j v|-;have a:(k.ps.eraseIdx i)[i]?=some I:=by rw[HW];exact x
 have g:(n.pg.eraseIdx i)[i]?=some U:=by rw[HW];exact y
 obtain⟨o,p,M⟩:=b.pg.at a;have:o=U:=by have:=p.symm.trans g;injection this
 subst this;obtain⟨N,e1⟩:=b.ob;obtain⟨O,R⟩:=M.ob;obtain⟨W,X⟩:=j.ob;have D:((k.ps.eraseIdx i).map λs=>V.ref s.p)[i]?=some (.ref I.p):=by rw[aaq,a];rfl
 refine⟨9,k.a,Z.l,N,7,e1,L.lc,L.l4,8,9,k.lp,_,7,8,eY.of b.ls,dw D,?_⟩;refine⟨9,I.p,Z.p,O,7,R,L.pc,L.p3,8,?_⟩;refine⟨9,r.p,Z.p,W,7,X,L.pc,L.p3,8,9,r.p,Z.p,W,7,X,L.pc,L.p1,8,r.l,9,.inl (eY.of j.ls),7,8,7,8,O,_,R,(show 3<1000 by decide),?_⟩;have G:=b.setP L.ok (dx':=O) a g (m':={o with go:=o.go+(z.go+z.cs.length)}) rfl;have ec:(r.cs.map V.ref).length=z.cs.length:=by rw[aaf];exact S.cs.len
 rw[ec];refine q {k with ps:=k.ps.eraseIdx i} _ ?_ (v.trans (Mv.ins R (.inr 012) (LA.p_own (k:={k with ps:=k.ps.eraseIdx i}) a)));unfold rz;rw[J,y];exact G
inductive Qn(Z:LC)(vs:List V)(H:Hp)(Q:VK)(E:XK):Prop
 |mk (k:LA) (n:Ln):vs=[.ref k.a]->dN Z H k n->vo n+1<n.pg.length->n.pg.length<=1000->(∀k' H',dN Z H' k' (qZ n)->Mv Z k H k' H'->Q .non H')->Qn Z vs H Q E
def Yi:cI ["self"] ["self"] (bK (lM 4)):=by ext
noncomputable def U3(F:gU K "lose_eldest" "Lane.lose_eldest" (lM 4) f I)(T:Txt K mg)(L:LZ K mg Z)(l:MD K Z.l "eldest" "Lane.eldest" (lM 3) ["self"] D i)(y:MD K Z.l "leave" "Lane.leave" (lM 5) ["self","number"] G j):cz P w K mg base dM 2 f I ["self"] (Qn Z):=by
 have z:cz P w K mg base dM 1 D i ["self"] (Mh Z):=NK l.F L;have O:cz P w K mg base dM 1 G j ["self","number"] (RN Z):=Vz y.F T L;refine F.ok Yi 01 λJ A o s H vs Q E p h=>?_;obtain⟨k,n,rfl,b,U,W,q⟩:=h;refine⟨_,(b7 (jT 06 (du dO 004 T.len gK (aK (cU (d_ iH 03 (eG 06 L.lc l.M z p l.b .nil dC)) rfl) b_)) pF) (c7 (eE (eV 06 L.lc y.M O p y.b .nil dC (aK (eG 06 L.lc l.M z p l.b .nil dC) b_))))),?_⟩;obtain⟨c,e⟩:=b.ob;have pl:=b.pg.len;obtain⟨m,d⟩:∃s,k.ps[vo n]?=some s:=⟨_,aaH 05⟩;obtain⟨B,v,x⟩:=b.pg.at d;obtain⟨X,Y⟩:=x.ob;have R:(k.ps.map λs=>V.ref s.p)[vo n]?=some (.ref m.p):=by rw[aaq,d];rfl
 have S:(m.cs.map V.ref).length=B.cs.length:=by rw[aaf];exact x.cs.len
 refine⟨9,k.a,Z.l,c,7,e,L.lc,L.l11,8,9,k.a,Z.l,c,7,e,L.lc,L.l4,8,9,k.a,c,9,e,8,k,n,8,b,k.lp,_,7,8,eY.of b.ls,dw R,m.p,Z.p,X,7,Y,L.pc,L.p1,8,m.l,9,.inl (eY.of x.ls),7,8,c,_,e,015,?_⟩;rw[S];have a:=b.setL L.ok (dx':=c) e {n with los:=n.los+(B.cs.length:Int)} rfl;obtain⟨g,C⟩:=a.ob;refine⟨9,k.a,g,9,C,8,9,k.a,g,9,C,8,k,9,a,?_⟩;refine⟨k,_,vo n,8,a,U,W,λM N r mv=>q M N ?_ ((Mv.ins e (.inr 013) LA.a_own).trans mv)⟩;unfold qZ;rw[v];exact r
end
def nT(n:Ln):Ln:={n with pg:=n.pg++[⟨[],0,0⟩]}
noncomputable def Mm(n:Ln):Int:=(n.pg[n.pg.length-1]?.map (·.us)).getD 0
noncomputable def Xn(n:Ln):List Cl:=(n.pg[vo n]?.map (·.cs)).getD []
def ir(c:Int)(n:Ln):Bool×Ln:=
 if Mm n+c<=n.room then(true,n)
 else if n.most<=(n.pg.length:Int)-vo n then
  if(!n.over||!(vL (Xn n)).isEmpty)=true then(false,n)else(true,nT (qZ n))
 else(true,nT n)
def rP(c:Cl)(a:Int)(n:Ln):Ln:=match n.pg[n.pg.length-1]? with
 |none=>n
 |some h=>{n with pg:=n.pg.set (n.pg.length-1) {h with cs:=h.cs++[c],us:=h.us+a}}
noncomputable def mW(nm:Str)(fs:List j9)(a:Int)(n:Ln):Option Int×Ln:=
 let b:Ln:={n with last:=some a,tks:=n.tks+1}
 let r:=ir 001 b
 if r.1=true then(some r.2.tks,rP (eZ r.2.tks a nm fs) 001 r.2)else(none,{r.2 with mis:=r.2.mis+1})
noncomputable def Lb{a:List V}{x:V}:rN (a++[x]) (-1)=some x:=by unfold rN N_;simp;rw[aac 05,show(-1+((a.length:Int)+1)).toNat=a.length by omega];show(a++[x])[a.length]?=_;rw[acp 04];simp
def ql{a:List V}(h:a[a.length-1]?=some y):rN a (-1)=some y:=by
 rcases List.eq_nil_or_concat a with rfl|⟨r,x,rfl⟩
 ·simp at h
 ·rw[List.concat_eq_append]at h|-;have e:(r++[x])[(r++[x]).length-1]?=some x:=by simp
  rw[e]at h;injection h with h
  subst h;exact Lb
theorem pM:∀{b:List PA}{i:Nat}{s:PA}{c:Zl},b[i]?=some s->((b.set i {s with cs:=s.cs++[c]}).flatMap (·.cs)).Perm (c::b.flatMap (·.cs))
 |[],_,_,_,e=>by simp at e
 | a::r,0,s,c,e=>by simp at e;subst e;rw[ac6,aaI,aaI];show(a.cs++[c]++_).Perm _;rw[List.append_assoc];exact List.perm_middle
 | a::r,i+1,s,c,e=>by rw[acG,aaI,aaI];exact((pM (i:=i) (by simpa using e)).append_left _).trans List.perm_middle
section
variable{P:ZE}{w:ZH}{K:Zs}{mg:Y1}{base:ZN}{Z:LC}
def dN.not_ls(h:dN Z H k n)(e:H b=some o)(ho:∀a,o≠.lst a):b∉k.ls:=by
 intro m;rcases aag.mp m with rfl|m
 ·have:=h.ls;rw[e]at this;cases this;exact ho _ rfl
 ·obtain⟨s,c,rfl⟩:=aao.mp m;obtain⟨i,d⟩:=aau.mp c;obtain⟨y,_,r⟩:=h.pg.at d;have:=r.ls;rw[e]at this;cases this;exact ho _ rfl
def dN.has_ls(h:dN Z H k n)(m:b∈k.ls):∃a,H b=some (.lst a):=by
 rcases aag.mp m with rfl|m
 ·exact⟨_,h.ls⟩
 ·obtain⟨s,c,rfl⟩:=aao.mp m;obtain⟨i,d⟩:=aau.mp c;obtain⟨y,_,r⟩:=h.pg.at d;exact⟨_,r.ls⟩
def dN.has_p(h:dN Z H k n)(m:b∈k.ps.map (·.p)):∃o,H b=some o:=by obtain⟨s,a,rfl⟩:=aao.mp m;obtain⟨i,c⟩:=aau.mp a;obtain⟨y,_,r⟩:=h.pg.at c;obtain⟨d,e⟩:=r.ob;exact⟨_,e⟩
noncomputable def dN.has_c(h:dN Z H k n)(m:b∈k.cs):∃o,H b=some o:=by obtain⟨s,a,c⟩:=aaN.mp m;obtain⟨i,d⟩:=aau.mp a;obtain⟨y,_,r⟩:=h.pg.at d;obtain⟨j,f⟩:=aau.mp c;obtain⟨z,_,g⟩:=r.cs.at f;obtain⟨l,fs,e⟩:=g.ins;exact⟨_,e⟩
noncomputable def gA.mv(c:Z.Ok)(h:gA Z.k H kd nm a g)(i:dN Z H k n)(m:Mv Z k H r d):gA Z.k d kd nm a g:=by have tk:TK H d:=λb f e=>m.out b _ e (i.not_ls e (by intro _ z;cases z)) (by intro _ _ _ z;cases z);obtain⟨⟨j,e⟩,f,l,o⟩:=h;exact⟨⟨j,m.out _ _ e (i.not_ls e (by intro _ z;cases z)) (by intro C p q z;cases z;exact⟨c.kc,c.kp,c.kl⟩)⟩,f,tk _ _ l,gD o tk⟩
def dN.grown(i:dN Z H k n)(g:cu H f)(r:H p=none)(v:H l=none)(x:f p=some (.ins Z.p j (Kg l ⟨[],0,0⟩)))(y:f l=some (.lst [])):
 dN Z (upd f k.lp (.lst ((k.ps.map λs=>V.ref s.p)++[.ref p]))) {k with ps:=k.ps++[⟨p,l,[]⟩]} (nT n)/\Mv Z k H {k with ps:=k.ps++[⟨p,l,[]⟩]} (upd f k.lp (.lst ((k.ps.map λs=>V.ref s.p)++[.ref p]))):=by
 have d:=i.same g;have nl:l∉k.ls:=λm=>by obtain⟨A,e⟩:=i.has_ls m;rw[v]at e;cases e
 constructor
 ·have:=d.page (s:=⟨p,l,[]⟩) (m:=⟨[],0,0⟩) ⟨⟨j,x⟩,y,.nil⟩ rfl (λm=>by obtain⟨o,e⟩:=i.has_p m;rw[r]at e;cases e) nl;rw[aaA]at this;exact this
 ·refine⟨λc o e h _=>?_,λb a=>?_,λb e=>dY g (v_ d.ls e),8,8,λc o e _ h=>?_,λb a=>?_⟩
  ·rw[b8 (λz=>h (by rw[z];exact aan ..))];exact g _ _ e
  ·rcases aag.mp a with rfl|a
   ·exact .inl (aan ..)
   ·rw[show({k with ps:=k.ps++[⟨p,l,[]⟩]}:LA).ps=k.ps++[⟨p,l,[]⟩]from rfl,aaA]at a;rcases aam.mp a with a|a
    ·exact .inl (aai _ a)
    ·have:b=l:=by simpa using a
     rw[this];exact .inr v
  ·rw[b8 (λz=>h (by rw[z];exact aan ..))];exact g _ _ e
  ·rcases aag.mp a with rfl|a
   ·exact .inl (aan ..)
   ·rcases aam.mp a with a|a
    ·rw[show({k with ps:=k.ps++[⟨p,l,[]⟩]}:LA).ps=k.ps++[⟨p,l,[]⟩]from rfl,aaA]at a;rcases aam.mp a with a|a
     ·exact .inl (aai _ (aam.mpr (.inl a)))
     ·have:b=p:=by simpa using a
      rw[this];exact .inr r
    ·have a:b∈(k.ps++[(⟨p,l,[]⟩:PA)]).flatMap (λq:PA=>q.cs):=a;rw[aa1]at a;rcases aam.mp a with a|a
     ·exact .inl (aai _ (aam.mpr (.inr a)))
     ·simp at a
inductive Rp(Z:LC)(vs:List V)(H:Hp)(Q:VK)(E:XK):Prop
 |mk (k:LA) (n:Ln) (c:Int):vs=[.ref k.a,.int c]->dN Z H k n->n.pg≠[]->2<=n.most->n.pg.length<=900->(∀m∈n.pg,m.cs.length<=900)->(∀k' H',dN Z H' k' (ir c n).2->Mv Z k H k' H'->Q (.bl (ir c n).1) H')->Rp Z vs H Q E
def Xq:cI ["self","cells"] ["self","cells"] (bK (lM 2)):=by ext
def QM(n:Ln):vo n<=1:=by unfold vo;cases n.held<;>decide
def Jd(n:Ln):(qZ n).pg.length<=n.pg.length:=by
 unfold qZ rz;dsimp only;split
 ·rw[List.length_set];exact(acj _ _).length_le
 ·exact aae _
noncomputable def Ve(F:gU K "make_room" "Lane.make_room" (lM 2) f fd)(T:Txt K mg)(L:LZ K mg Z)(Y:MD K Z.l "eldest" "Lane.eldest" (lM 3) ["self"] fE U)(MU:MD K Z.p "unclosed" "Page.unclosed" (gM 1) ["self"] fU W)(MO:MD K Z.l "lose_eldest" "Lane.lose_eldest" (lM 4) ["self"] fO X)(GO:cz P w K mg base dM 2 fO X ["self"] (Qn Z))(MkP:Mk K Z.p fI)(FI:gU K "__init__" "Page.__init__" (gM 0) fI o)(bI:Binds K o ["self"] []):cz P w K mg base dM 3 f fd ["self","cells"] (Rp Z):=by
 have GE:cz P w K mg base dM 1 fE U ["self"] (Mh Z):=NK Y.F L;have GU:cz P w K mg base dM 1 fU W ["self"] (F_ Z):=Nr MU.F L;have GI:cz P w K mg base dM 1 fI o ["self"] (Hy Z):=Gr FI L;refine F.ok Xq 01 λaa A ab s H vs Q E hr h=>?_;obtain⟨k,n,c,rfl,a,ne,hm,hl,hc,q⟩:=h;have m:dX 1 _:=hr.mono 02;refine⟨_,(b7 (dU (dg kj (eN iK (cU (d_ iH 03 (pU mH cj)) rfl) 003) 03 (di _)) (c7 (cW j5)) d9) (b7 (dU (dg Gq (eN lE (du dO 004 T.len gK (aK 03 b_)) (eG 06 L.lc Y.M GE m Y.b .nil dC)) 03 (di _)) (b7 (dU (PW.pt (uF (ju (gZ 03)) (tE (HR (eG (d_ iH 03 (eG 06 L.lc Y.M GE m Y.b .nil dC)) L.pc MU.M GU m MU.b .nil dC) (λ_=>rfl))))) (c7 (cW j5)) d9) (c7 (eE (eG 06 L.lc MO.M GO hr MO.b .nil dC)))) d9) (b7 (eE (oY abq abv abO jU 03 (aK (rR MkP GI hr rfl L.pmg bI .nil dC) b_))) (c7 (cW j5))))),?_⟩;obtain⟨j,e⟩:=a.ob;have pl:=a.pg.len;have n0:0<n.pg.length:=ac5.mpr ne;obtain⟨s0,G⟩:∃s,k.ps[k.ps.length-1]?=some s:=⟨_,aaH 05⟩;obtain⟨m0,I,r0⟩:=a.pg.at G;rw[pl]at I;obtain⟨d0,e0⟩:=r0.ob;have ex:(k.ps.map λs=>V.ref s.p)[(k.ps.map λs=>V.ref s.p).length-1]?=some (.ref s0.p):=by rw[aaf,aaq,G];rfl
 have hu:Mm n=m0.us:=by unfold Mm;rw[I];rfl
 refine⟨9,k.a,Z.l,j,7,e,L.lc,L.l4,8,9,k.lp,_,7,8,eY.of a.ls,ql ex,s0.p,Z.p,d0,7,e0,L.pc,L.p2,8,9,7,8,9,k.a,Z.l,j,7,e,L.lc,L.l2,8,7,8,9,?_⟩;by_cases S:m0.us+c<=n.room
 ·refine iM (by simpa using S) ?_;have d:ir c n=(true,n):=by unfold ir;rw[hu,aac S]
  rw[d]at q;exact q k H a Mv.refl
 refine gB (by simpa using S) ?_;have am:=QM n
 try dsimp only[BW]
 refine J4 (λv y=>v=[some (.ref k.a),some (.int c)]/\∃D p,dN Z y D p/\Mv Z k H D y/\p.pg.length<=900/\ir c n=(true,nT p)) ?nx λN hN=>?st
 case st=>
  refine⟨9,k.a,Z.l,j,7,e,L.lc,L.l4,8,k.lp,9,.inl (eY.of a.ls),9,k.a,j,9,e,8,k,n,8,a,7,8,9,k.a,Z.l,j,7,e,L.lc,L.l1,8,7,8,9,?_⟩;rw[aaf,pl];by_cases h2:n.most<=(n.pg.length:Int)-vo n
  ·refine iM (by simpa using h2) ?_;have hi:vo n+1<n.pg.length:=by omega
   obtain⟨s1,J⟩:∃s,k.ps[vo n]?=some s:=⟨_,aaH 05⟩;obtain⟨M,O,r1⟩:=a.pg.at J;obtain⟨d1,e1⟩:=r1.ob;have ah:(k.ps.map λs=>V.ref s.p)[vo n]?=some (.ref s1.p):=by rw[aaq,J];rfl
   have ec:Xn n=M.cs:=by unfold Xn;rw[O];rfl
   have d:ir c n=if(!n.over ||!(vL M.cs).isEmpty)=true then(false,n)else(true,nT (qZ n)):=by unfold ir;rw[hu,aab S,aac h2,ec]
   refine⟨9,k.a,Z.l,j,7,e,L.lc,L.l3,8,9,?_⟩;cases ho:n.over with
   | false=>rw[ho]at d;rw[d]at q;exact iM rfl (iM rfl (q k H a Mv.refl))
   | true=>
     rw[ho]at d;refine gB rfl ?_;refine⟨9,k.a,Z.l,j,7,e,L.lc,L.l4,8,9,k.a,j,9,e,8,k,n,8,a,k.lp,_,7,8,eY.of a.ls,dw ah,s1.p,d1,9,e1,8,s1,M,8,r1,?_,λl as H2 i ac pd sb=>?_⟩
     ·rw[r1.cs.len];exact aah (hc M (aap O)) 02
     have al:=pd.len;refine⟨_,.inl ⟨_,eY.of ac,8⟩,?_⟩;cases hop:vL M.cs with
     | cons x r=>
       rw[hop]at d al;have:(as.map V.ref).isEmpty=false:=by
        cases as with
        |nil=>cases al
        |cons _ _=>rfl
       rw[d]at q;refine iM (by rw[this];rfl) (q k H2 (a.same i) (Mv.same i))
     | nil=>
       rw[hop]at d al;have:(as.map V.ref).isEmpty=true:=by
        cases as with
        |nil=>rfl
        |cons _ _=>cases al
       refine gB (by rw[this];rfl) ?_;obtain⟨aj,e2⟩:=(a.same i).ob;refine⟨9,k.a,aj,9,e2,8,k,n,8,a.same i,hi,05,λk' y ad mv=>hN _ _ ⟨8,k',_,ad,(Mv.same i).trans mv,aah (Jd n) hl,d⟩⟩
  ·refine gB (by simpa using h2) (hN _ _ ⟨8,k,n,a,Mv.refl,hl,?_⟩);unfold ir;rw[hu,aab S,aab h2]
 case nx=>
  rintro v H1⟨rfl,D,p,g,R,ap,d⟩;obtain⟨ak,e1⟩:=g.ob;rw[R.a]at e1;rw[d]at q;refine⟨9,k.a,Z.l,ak,7,e1,L.lc,L.l4,8,.inl ⟨8,_,eY.of g.ls⟩,λx B hx ae af=>?_⟩;refine⟨x,B,8,a_,λl y b ag C kp=>⟨8,?_⟩⟩;have i:cu H1 y:=gn hx ae kp;have ai:H1 l=none:=by
   have p:l≠x:=λz=>by rw[z,a_]at b;cases b
   have n2:l≠B:=λz=>by rw[z,b8 af,a_]at b;cases b
   rw[b8 p,b8 n2]at b;exact b
  have ao:=g.pg.len;refine⟨D.lp,7,8,i _ _ g.ls,by rw[aaf];exact abt (show D.ps.length<=900 by omega) 02,?_⟩;obtain⟨g1,g2⟩:=g.grown i hx ai ag C;exact q _ _ g1 (R.trans g2)
def dN.addC(G:Z.Ok)(a:dN Z H k n)(f:k.ps[i]?=some s)(D:n.pg[i]?=some m)(A:iQ Z H c x)(E:c∉k.cs):
 dN Z (upd H s.l (.lst ((s.cs.map V.ref)++[.ref c]))) {k with ps:=k.ps.set i {s with cs:=s.cs++[c]}} {n with pg:=n.pg.set i {m with cs:=m.cs++[x]}}:=by
 obtain⟨y,l,r⟩:=a.pg.at f;rw[D]at l;cases l;refine a.setI f rfl 012 ?_ ?_ ?_ ?_ ?_
 ·refine(pM f).nodup_iff.mpr (aaK.mpr ⟨E,a.n3⟩)
 ·obtain⟨p,e⟩:=r.ob;refine⟨⟨p,?_⟩,?_,?_⟩
  ·show upd H s.l _ s.p=_;rw[b8 (iV e r.ls 005)];exact e
  ·show upd H s.l _ s.l=some (.lst ((s.cs++[c]).map V.ref));rw[a_,aaA];rfl
  ·refine Pd.app (.cons (A.upd (Kt.lst r.ls) ?_) .nil) (Pd.mapM (λb F y q=>q.upd (Kt.lst r.ls) ?_) r.cs)
   ·obtain⟨g,h,d⟩:=A.ins;exact iV d r.ls 005
   ·obtain⟨g,h,d⟩:=q.ins;exact iV d r.ls 005
 ·intro o e;obtain⟨p,d⟩:=a.ob;rw[b8 (iV d r.ls 005)];exact e
 ·intro o e;rw[b8 (a.ne_lp f).symm];exact e
 ·intro j u v B C q;exact q.updL r.ls (a.ne_l B C f)
inductive Ro(Z:LC)(vs:List V)(H:Hp)(Q:VK)(E:XK):Prop
 |mk (k:LA) (n:Ln) (kd a:Zl) (nm:Str) (fs:List j9) (tm:Int):vs=[.ref k.a,.ref kd,.int tm]->dN Z H k n->gA Z.k H kd nm a fs->sS nm fs->n.pg≠[]->2<=n.most->n.pg.length<=900->(∀m∈n.pg,m.cs.length<=900)->((∀t,n.last=some t->t<=tm))->(∀k' H',dN Z H' k' (mW nm fs tm n).2->Mv Z k H k' H'->Q (WR (mW nm fs tm n).1) H')->Ro Z vs H Q E
def Vi:cI ["self","kind","time","head"] ["self","kind","time"] (bK (lM 1)):=by ext
set_option tactic.hygienic true in
def Lf(ne:n.pg≠[])(b:∀m∈n.pg,m.cs.length<=900):(ir c n).2.pg≠[]/\∀m∈(ir c n).2.pg,m.cs.length<=900:=by
 have e:∀d:Ln,(∀m∈d.pg,m.cs.length<=900)->(nT d).pg≠[]/\∀m∈(nT d).pg,m.cs.length<=900:=λd h=>by
  refine⟨by simp[nT],λm a=>?_⟩;rcases aam.mp a with a|a
  ·exact h m a
  ·cases aal.mp a;exact aaU _
 unfold ir;split
 ·exact⟨ne,b⟩
 ·split
  ·split
   ·exact⟨ne,b⟩
   ·refine e _ λm a=>?_;unfold qZ rz at a;dsimp only at a;split at a
    ·rename_i p q g f;rcases abQ a with a|rfl
     ·exact b m ((acj _ _).subset a)
     ·exact(b q (aap f):q.cs.length<=900)
    ·exact b m a
  ·exact e _ b
theorem TJ(F:gU K "claim" "Lane.claim" (lM 1) f fd)(T:Txt K mg)(L:LZ K mg Z)(MM:MD K Z.l "make_room" "Lane.make_room" (lM 2) ["self","cells"] fM fdM)(GM:cz P w K mg base dM 3 fM fdM ["self","cells"] (Rp Z))(MC:MD K Z.k "cells" "Kind.cells" (kM 2) ["self"] fC fdC)(MkC:Mk K Z.c fI)(GI:cz P w K mg base dM 6 fI fdI ["self","ticket","time","kind"] (K8 Z))(bI:Binds K fdI ["self","ticket","time","kind"] []):cz P w K mg base dM 8 f fd ["self","kind","time"] (Ro Z):=by
 have GC:cz P w K mg base dM 1 fC fdC ["self"] (vm Z.k):=HY MC.F T L.kc;refine F.ok Vi 01 λab A am s H vs Q E hr h=>?_;obtain ⟨k,n,kd,a,nm,fs,C,rfl,ln,ka,ko,ne,hm,hl,hc,ht,q⟩:=h;have ad:dX 1 _:=hr.mono 02;have aq:dX 3 _:=hr.mono 02;refine ⟨_,(b7 (dU (PW.pt (o7 (dg qm 03 iZ (di _)) (n8 (dg uL 010 03 (di _))))) (c7 eU) d9) (b7 (dz 06 010 rfl) (b7 (jT 06 cj pF) (b7 (dU (ju (gZ (eV 06 L.lc MM.M GM aq MM.b .nil dC (aK (eG 003 L.kc.cl MC.M GC ad MC.b .nil dC) b_)))) (b7 (jT 06 cj pF) (c7 (cW iZ))) d9) (b7 (j8 3 Vi.nd (d_ iH 03 (pU mH cj))) (b7 (jT (pv 3) (eG 003 L.kc.cl MC.M GC ad MC.b .nil dC) pF) (b7 (eE (oY abq abv abO jU (cU (pv 3) rfl) (aK (kW MkC GI hr rfl L.cmg bI .nil dC (aK 03 (aK 010 (aK 003 b_)))) b_))) (c7 (cW 03))))))))),?_⟩;obtain ⟨dx,e⟩:=ln.ob;have t1:∀(Q':Bool->Hp->Prop),Q' false H->(Vo (uV (S6 (λx y H Q=>y=.non/\Q (.bl (!decide (x=.non))) H) (K3 K (nM 0) "last_time") (tC .non))) (uV (S6 (Jv λi j=>.bl (decide (i<j))) (nM 2) (K3 K (nM 0) "last_time")))) [some (.ref k.a),some (.ref kd),some (.int C),none] H Q':=by
  intro Q' q';refine ⟨9,k.a,Z.l,dx,7,e,L.lc,L.l7,8,8,9,?_⟩;cases hla:n.last with
  |none=>exact gB rfl q'
  | some t=>have:=ht t hla;refine iM rfl ⟨9,9,k.a,Z.l,dx,7,e,L.lc,L.l7,8,7,(by rw [hla];rfl),9,?_⟩;have hd:decide (C<t)=false:=aaR 05;rw [hd];exact q'
 refine t1 _ (gB rfl ?_)
 try dsimp only [BW]
 refine ⟨9,9,k.a,Z.l,dx,9,e,L.lc,L.l7,015,?_⟩;have U:dN Z (upd H k.a (.ins Z.l dx (fX "last_time" (.int C) (Et k.lp n)))) k {n with last:=some C}:=ln.setL L.ok (dx':=dx) e {n with last:=some C} rfl;have ae:Mv Z k H k (upd H k.a (.ins Z.l dx (fX "last_time" (.int C) (Et k.lp n)))):=Mv.ins e (.inr 013) LA.a_own;generalize upd H k.a (.ins Z.l dx (fX "last_time" (.int C) (Et k.lp n)))=H1 at U ae|-;obtain ⟨J,e1⟩:=U.ob;refine ⟨9,k.a,Z.l,J,7,e1,L.lc,L.l8,8,7,8,J,_,e1,015,?_⟩;have O:dN Z (upd H1 k.a (.ins Z.l J (fX "tickets" (.int (n.tks+1)) (Et k.lp {n with last:=some C})))) k {n with last:=some C,tks:=n.tks+1}:=U.setL L.ok (dx':=J) e1 {n with last:=some C,tks:=n.tks+1} rfl;have W:=ae.trans (Mv.ins (o:=.ins Z.l J (fX "tickets" (.int (n.tks+1)) (Et k.lp {n with last:=some C}))) e1 (.inr 013) LA.a_own);generalize upd H1 k.a (.ins Z.l J (fX "tickets" (.int (n.tks+1)) (Et k.lp {n with last:=some C})))=H2 at O W|-;generalize aa:({n with last:=some C,tks:=n.tks+1}:Ln)=D at O;obtain ⟨ay,e2⟩:=O.ob;have X:=ka.mv L.ok ln W;obtain ⟨⟨dk,ek⟩,_⟩:=id X;refine ⟨9,k.a,ay,9,e2,8,9,kd,dk,9,ek,uH nm a 01 01,kd,a,nm,fs,8,X,?_⟩;have p1:D.pg=n.pg:=by rw [<-aa]
 refine ⟨k,D,9,O,(by rw [p1];exact ne),(by rw [<-aa];exact hm),(by rw [p1];exact hl),(by rw [p1];exact hc),λp H3 z B=>⟨9,?_⟩⟩;have q':∀k' H',dN Z H' k' (if (ir 001 D).1=true then (some (ir 001 D).2.tks,rP (eZ (ir 001 D).2.tks C nm fs) 001 (ir 001 D).2)else (none,{(ir 001 D).2 with mis:=(ir 001 D).2.mis+1})).2->Mv Z k H k' H'->Q (WR (if (ir 001 D).1=true then (some (ir 001 D).2.tks,rP (eZ (ir 001 D).2.tks C nm fs) 001 (ir 001 D).2)else (none,{(ir 001 D).2 with mis:=(ir 001 D).2.mis+1})).1) H':=by unfold mW at q;rw [aa]at q;exact q
 clear q;have rn:=Lf (c:=1+(fs.length:Int)) (n:=D) (by rw [p1];exact ne) (by rw [p1];exact hc);have S:=W.trans B;have Y:=X.mv L.ok O B;generalize ir 001 D=rm at z rn q'|-;obtain ⟨b,g⟩:=rm;obtain ⟨M,e3⟩:=z.ob;rw [B.a]at e3;cases b with
 | false=>
   refine iM rfl ?_;refine ⟨9,k.a,Z.l,M,7,e3,L.lc,L.l12,8,7,8,M,_,e3,015,?_⟩;have au:H3 p.a=some (.ins Z.l M (Et p.lp g)):=by rw [B.a];exact e3
   have I:dN Z (upd H3 k.a (.ins Z.l M (fX "missed" (.int (g.mis+1)) (Et p.lp g)))) p {g with mis:=g.mis+1}:=by have:=z.setL L.ok (dx':=M) au {g with mis:=g.mis+1} rfl;rw [B.a]at this;exact this
   exact q' p _ I (S.trans (Mv.ins e3 (.inr 013) (by rw [<-B.a];exact LA.a_own)))
 | true=>
   refine gB rfl ?_
   try dsimp only [BW]
   have pl:p.ps.length=g.pg.length:=z.pg.len;have n0:0<g.pg.length:=ac5.mpr rn.1;obtain ⟨d,r⟩:∃s,p.ps[p.ps.length-1]?=some s:=⟨_,aaH 05⟩;obtain ⟨v,R,r0⟩:=z.pg.at r;rw [pl]at R r;obtain ⟨d0,e0⟩:=r0.ob;have ex:(p.ps.map λs=>V.ref s.p)[(p.ps.map λs=>V.ref s.p).length-1]?=some (.ref d.p):=by rw [aaf,aaq,pl,r];rfl
   refine ⟨9,k.a,Z.l,M,7,e3,L.lc,L.l4,8,9,p.lp,_,7,8,eY.of z.ls,ql ex,?_⟩;obtain ⟨⟨az,aA⟩,_⟩:=id Y;refine ⟨9,d.p,Z.p,d0,7,e0,L.pc,L.p2,8,9,kd,az,9,aA,uH nm a 01 01,kd,a,nm,fs,8,Y,7,8,d0,_,e0,(show 3<1000 by decide),?_⟩;have I:dN Z (upd H3 d.p (.ins Z.p d0 (fX "used" (.int (v.us+001)) (Kg d.l v)))) p {g with pg:=g.pg.set (g.pg.length-1) {v with us:=v.us+001}}:=z.setP L.ok (dx':=d0) r R (m':={v with us:=v.us+001}) rfl;have af:=S.trans (Mv.ins (o:=.ins Z.p d0 (fX "used" (.int (v.us+001)) (Kg d.l v))) e0 (.inr 012) (LA.p_own r));have ag:=Y.mv L.ok z (Mv.ins (k:=p) (o:=.ins Z.p d0 (fX "used" (.int (v.us+001)) (Kg d.l v))) e0 (.inr 012) (LA.p_own r));generalize upd H3 d.p (.ins Z.p d0 (fX "used" (.int (v.us+001)) (Kg d.l v)))=H4 at I af ag|-;have ah:({g with pg:=g.pg.set (g.pg.length-1) {v with us:=v.us+001}}:Ln).pg[g.pg.length-1]?=some {v with us:=v.us+001}:=by show (g.pg.set (g.pg.length-1) _)[g.pg.length-1]?=_;rw [abU 05]
   obtain ⟨m4,ak,r4⟩:=I.pg.at r;obtain rfl:m4={v with us:=v.us+001}:=by have:=ak.symm.trans ah;injection this
   obtain ⟨d4,e4⟩:=r4.ob;obtain ⟨aB,al⟩:=I.ob;rw [B.a]at al;refine ⟨9,d.p,Z.p,d4,7,e4,L.pc,L.p1,8,.inl ⟨8,_,eY.of r4.ls⟩,9,k.a,Z.l,aB,7,al,L.lc,L.l8,8,9,9,λx G hx ac ao=>?_⟩;have s5:cu H4 (upd (upd H4 G (.own x)) x (.ins Z.c G [])):=(cu.new ac).trans (cu.new (by rw [b8 ao.symm];exact hx));refine ⟨x,G,kd,a,_,C,nm,fs,8,a_,ag.kt (cu.kt s5),ko,λH6 ap k6=>⟨8,?_⟩⟩;have s6:cu H4 H6:=gn hx ac k6;have av:=I.same s6;have nc:x∉p.cs:=λm=>by obtain ⟨o,eo⟩:=I.has_c m;rw [hx]at eo;cases eo
   have c9:d.cs.length<=900:=by rw [r0.cs.len];exact rn.2 v (aap R)
   refine ⟨d.l,7,8,s6 _ _ r4.ls,by rw [aaf];exact abt c9 02,?_⟩;have ai:=av.addC L.ok r ah ap nc;have aw:d.l∈p.ls:=aai _ (aao.mpr ⟨d,aap r,8⟩);have ax:=af.trans (Mv.lstN (Z:=Z) (k':={p with ps:=p.ps.set (g.pg.length-1) {d with cs:=d.cs++[x]}}) (o:=.lst ((d.cs.map V.ref)++[.ref x])) s6 (s6 _ _ r4.ls) aw rfl (λl ml=>.inl (by
    rcases aag.mp ml with rfl|ml
    ·exact aan ..
    ·rw [show ({p with ps:=p.ps.set (g.pg.length-1) {d with cs:=d.cs++[x]}}:LA).ps=p.ps.set (g.pg.length-1) {d with cs:=d.cs++[x]}from rfl,i_ (λx:PA=>x.l) (s':={d with cs:=d.cs++[x]}) r rfl]at ml;exact aai _ ml)) (λb N=>by
    rcases aag.mp N with rfl|N
    ·exact .inl (aan ..)
    ·rcases aam.mp N with N|N
     ·rw [show ({p with ps:=p.ps.set (g.pg.length-1) {d with cs:=d.cs++[x]}}:LA).ps=p.ps.set (g.pg.length-1) {d with cs:=d.cs++[x]}from rfl,i_ (λx:PA=>x.p) (s':={d with cs:=d.cs++[x]}) r rfl]at N;exact .inl (aai _ (aam.mpr (.inl N)))
     ·have N:b∈(p.ps.set (g.pg.length-1) {d with cs:=d.cs++[x]}).flatMap (·.cs):=N;rcases aag.mp ((pM r).subset N)with rfl|N
      ·exact .inr hx
      ·exact .inl (aai _ (aam.mpr (.inr N)))));obtain ⟨aC,e7⟩:=ai.ob;have aj:_:=e7;rw [show ({p with ps:=p.ps.set (g.pg.length-1) {d with cs:=d.cs++[x]}}:LA).a=k.a from B.a]at aj;refine ⟨9,k.a,Z.l,aC,7,aj,L.lc,L.l8,8,?_⟩;refine q' {p with ps:=p.ps.set (g.pg.length-1) {d with cs:=d.cs++[x]}} _ ?_ ax;show dN Z _ _ (rP (eZ g.tks C nm fs) 001 g);unfold rP;rw [R];have:=ai;dsimp only at this;rw [List.set_set]at this;exact this
end
noncomputable def wait(n:Ln):List Cl:=n.pg.flatMap λp=>vL p.cs
def je{b:Type}{a:List b}{i:Nat}{x:b}(h:a[i]?=some x):a.take (i+1)=a.take i++[x]:=by rw[aaW,h];rfl
theorem Cr{b:List PA}{s:PA}(m:s∈b):s.cs.length<=(b.flatMap (·.cs)).length:=by
 induction b with
 |nil=>cases m
 | cons a r c=>
   rw[aaI,aaw];rcases aag.mp m with rfl|m
   ·omega
   ·have:=c m;omega
theorem tK{b:Type}{f:b->V}{a:List b}{i:Nat}{v:V}(h:(a.map f)[i]?=some v):∃x,a[i]?=some x/\f x=v:=by
 rw[aaq]at h;cases hj:a[i]? with
 |none=>rw[hj]at h;cases h
 |some x=>rw[hj]at h;exact⟨x,8,by simpa using h⟩
section
variable{P:ZE}{w:ZH}{K:Zs}{mg:Y1}{base:ZN}{Z:LC}
inductive J7(Z:LC)(vs:List V)(H:Hp)(Q:VK)(E:XK):Prop
 |mk (k:LA) (n:Ln):vs=[.ref k.a]->dN Z H k n->k.cs.length<=900->n.pg.length<=900->(∀(l:Zl)(as:YI)(H':Hp),cu H H'->H' l=some (.lst (as.map V.ref))->Pd (iQ Z H') as (wait n)->as.Sublist k.cs->Q (.ref l) H')->J7 Z vs H Q E
def Z3:cI ["self"] ["self"] (bK (lM 6)):=by ext
noncomputable def Uj{f fU:Zl}{fd R:ZB}(F:gU K "waiting" "Lane.waiting" (lM 6) f fd)(L:LZ K mg Z)(MU:MD K Z.p "unclosed" "Page.unclosed" (gM 1) ["self"] fU R):cz P w K mg base dM 2 f fd ["self"] (J7 Z):=by
 have GU:cz P w K mg base dM 1 fU R ["self"] (F_ Z):=Nr MU.F L;refine F.ok Z3 01 λad A U s H vs Q E hr h=>?_;obtain⟨k,n,rfl,I,hc,hl,q⟩:=h;refine⟨_,(c7 (cW (GQ (g:=eQ 0) (g2:=eQ 1) (tt:=rC) (tt2:=rC) (te:=nM 1) (wi2:=Ig K (Bs Z.p "unclosed" (F_ Z) [] E0 (nM 0) wj)) (own:=["page","claim"]) (js:=[]) (N':=["page","claim"]) (dJ.of (osc:=bK (lM 6)) (N:=["self"]) rfl rfl 01) rfl (iW 03) (λ_ _ _ _ _=>(eX (i:=0) (show List.Nodup (["page","claim"]:Y2) by ext) rfl 012 013)) (λ_ _ _ _ _=>gw) (λ_ _ _ _ _=>Ht rfl (eG (E:=E0) 06 L.pc MU.M GU hr MU.b .nil dC)) (λ_ _=>rfl) (λ_ _ _ _ _=>(eX (i:=1) (show List.Nodup (["page","claim"]:Y2) by ext) rfl 012 013)) (λ_ _ _ _ _=>gw) (λ_ _ _ _ _=>pv 1)))),?_⟩;obtain⟨dx,e⟩:=I.ob;have pl:=I.pg.len;refine⟨9,k.a,Z.l,dx,7,e,L.lc,L.l4,8,k.lp,8,⟨_,eY.of I.ls⟩,?_⟩;refine⟨λi m ys σ W=>m=k.ps.length-i/\i<=k.ps.length/\cu H W/\(∃u v,σ=[u,v])/\∃b,ys=b.map V.ref/\Pd (iQ Z W) b ((n.pg.take i).flatMap λp=>vL p.cs)/\b.Sublist ((k.ps.take i).flatMap (·.cs)),⟨k.ps.length,04,aaU _,cu.refl _,⟨none,none,8⟩,[],8,.nil,aci _⟩,?_⟩;rintro i m ys σ H1⟨rfl,hi,T,⟨u,v,rfl⟩,b,rfl,pd,J⟩;have z:=T _ _ I.ls;by_cases M:i<k.ps.length
 ·have Y:i<(k.ps.map λs=>V.ref s.p).length:=by rw[aaf];exact M
  refine .inr ⟨⟨_,(k.ps.map λs=>V.ref s.p)[i],eY.of z,aaH Y⟩,λx W y=>?_⟩;obtain⟨rfl,y⟩:=y;obtain⟨S,d,rfl⟩:=tK (y _ (eY.of z));obtain⟨m0,ab,r0⟩:=(I.same T).pg.at d;obtain⟨d0,e0⟩:=r0.ob;dsimp only[eQ,rC,List.set];rw[aac rfl];have c9:S.cs.length<=900:=aah (Cr (aap d)) hc;refine⟨9,S.p,d0,9,e0,8,S,m0,8,r0,05,λl bs H2 B a X C=>?_⟩;have S2:=T.trans B;have all:((k.ps.take (i+1)).flatMap (·.cs)).Sublist k.cs:=sr (List.take_sublist _ _);have al:(b++bs).length<=900:=by refine aah (List.Sublist.length_le (l₂:=k.cs) (List.Sublist.trans ?_ all)) hc;rw[je d,aa1];refine J.append ?_;simpa using C
  rw[aaw]at al;have big:1000<=sizeLine:=by decide
  refine⟨l,8,⟨_,eY.of a⟩,λj m D G H3=>m=bs.length-j/\j<=bs.length/\H3=H2/\(∃v,G=[some (.ref S.p),v])/\D=(b++bs.take j).map V.ref,⟨bs.length,04,aaU _,8,⟨9⟩,04⟩,?_⟩;rintro j m D G H3⟨rfl,hj,rfl,⟨v',rfl⟩,rfl⟩;by_cases O:j<bs.length
  ·have aa:j<(bs.map V.ref).length:=by rw[aaf];exact O
   refine .inr ⟨⟨_,(bs.map V.ref)[j],eY.of a,aaH aa⟩,?_,λx H4 y=>?_⟩
   ·rw[aaf,aaw,aaV];omega
   ·obtain⟨rfl,y⟩:=y;obtain⟨c,ac,rfl⟩:=tK (y _ (eY.of a));dsimp only[eQ,rC,List.set];rw[aac rfl];refine⟨9,_,05,8,O,8,⟨9⟩,?_⟩;rw[je ac];simp
  ·have ej:j=bs.length:=by omega
   subst ej;refine .inl ⟨⟨_,eY.of a,by rw[aaf];exact aae _⟩,k.ps.length-(i+1),05,8,M,S2,⟨7⟩,b++bs,by rw[aaQ],?_,?_⟩
   ·rw[je ab,aa1];refine Pd.app ?_ (pd.map λ_ _ r=>r.same B);simpa using X
   ·rw[je d,aa1];refine J.append ?_;simpa using C
 ·have ei:i=k.ps.length:=by omega
  subst ei;rw[pl,aaQ]at pd;rw[aaQ]at J;have al:=J.length_le;refine .inl ⟨⟨_,eY.of z,by rw[aaf];exact aae _⟩,by rw[aaf];exact aah (aah al hc) 02,λp hp=>?_⟩;have B:=cu.new (o:=.lst (b.map V.ref)) hp;exact q p b _ (T.trans B) a_ (pd.map λ_ _ r=>r.same B) J
inductive Py(Z:LC)(vs:List V)(H:Hp)(Q:VK)(E:XK):Prop
 |mk (k:LA) (n:Ln):vs=[.ref k.a]->dN Z H k n->k.cs.length<=900->n.pg.length<=900->(∀(l:Zl)(H':Hp),cu H H'->H l=none->H' l=some (.lst ((wait n).map λc=>V.int c.tk))->Q (.ref l) H')->Py Z vs H Q E
def Xw:cI ["self"] ["self"] (bK (lM 16)):=by ext
noncomputable def Ux{f fW:Zl}{S o:ZB}(F:gU K "pending" "Lane.pending" (lM 16) f S)(L:LZ K mg Z)(T:MD K Z.l "waiting" "Lane.waiting" (lM 6) ["self"] fW o)(GW:cz P w K mg base dM 2 fW o ["self"] (J7 Z)):cz P w K mg base dM 3 f S ["self"] (Py Z):=by
 refine F.ok Xw 01 λU A B s H vs Q E W h=>?_;obtain⟨k,n,rfl,M,O,hl,q⟩:=h;refine⟨_,(c7 (cW (j0 (g:=eQ 0) (own:=["claim"]) (js:=[]) (N':=["claim"]) (dJ.of (osc:=bK (lM 16)) (N:=["self"]) rfl rfl 01) rfl (iW (eG 06 L.lc T.M GW W T.b .nil dC)) (λ_ _ _ _ _=>(eX (i:=0) (show List.Nodup (["claim"]:Y2) by ext) rfl 012 013)) (λ_ _ _ _ _=>gw) (λ_ _ _ _ _=>BR (K:=K) rfl 06 rfl)))),?_⟩;obtain⟨dx,e⟩:=M.ob;refine⟨9,k.a,dx,9,e,8,k,n,8,M,O,hl,λl D X G d I Y=>?_⟩;have al:=Y.length_le;have wl:=I.len;refine⟨l,8,⟨_,eY.of d⟩,?_⟩;refine iJ (xs:=D.map V.ref) (λj p b y=>y=X/\(∃v,b=[v])/\p=((wait n).take j).map λc=>V.int c.tk) (by rw[aaf];exact aah (aah al O) 02) ⟨8,⟨none,8⟩,8⟩ (λj p σ y _ z=>by rw[z.1];exact eY.of d) ?_ ?_
 ·rintro j x p b y hj R⟨rfl,⟨v,rfl⟩,rfl⟩N hN;obtain⟨c,C,rfl⟩:=tK hj;obtain⟨m,hm,r⟩:=I.at C;obtain⟨dc,kk,a,t,ec,_⟩:=r.ex;refine⟨9,c,Z.c,dc,7,ec,L.cc,L.c1,8,hN _ _ _ (by rw[aaw,R];rfl) ⟨8,⟨9⟩,?_⟩⟩;rw[je hm,aaA];rfl
 ·rintro p b y R⟨rfl,⟨v,rfl⟩,rfl⟩;rw[show(D.map V.ref).length=(wait n).length by rw[aaf];exact wl,aaQ];refine⟨by rw[aaf];exact aah (show(wait n).length<=900 by omega) 02,λa J=>q a _ (G.trans (cu.new J)) (dY G J) a_⟩
inductive Ji(Z:LC)(vs:List V)(H:Hp)(Q:VK)(E:XK):Prop
 |mk (k:LA) (n:Ln) (tk:Int):vs=[.ref k.a,.int tk]->dN Z H k n->k.cs.length<=900->n.pg.length<=900->(∃m∈wait n,m.tk=tk)->(∀(c:Zl)(m:Cl)(H':Hp),cu H H'->c∈k.cs->iQ Z H' c m->m∈wait n->m.tk=tk->Q (.ref c) H')->Ji Z vs H Q E
def Wr:cI ["self","ticket","claim"] ["self","ticket"] (bK (lM 7)):=by ext
noncomputable def Uc(F:gU K "waiting_with" "Lane.waiting_with" (lM 7) f I)(L:LZ K mg Z)(J:MD K Z.l "waiting" "Lane.waiting" (lM 6) ["self"] fW p)(GW:cz P w K mg base dM 2 fW p ["self"] (J7 Z)):cz P w K mg base dM 3 f I ["self","ticket"] (Ji Z):=by
 refine F.ok Wr 01 λM A B s H vs Q E N h=>?_;obtain⟨k,n,tk,rfl,D,X,Y,⟨m0,mw,mt⟩,q⟩:=h;refine⟨_,(b7 (jy abh rfl (iW (eG (E:=E0) 06 L.lc J.M GW N J.b .nil dC)) (kJ 2 Wr.nd) (c7 (dU (dg g8 (cU 010 rfl) 003 (di _)) (c7 (cW 010)) d9))) (c7 eU)),?_⟩;obtain⟨dx,e⟩:=D.ob;refine⟨9,k.a,dx,9,e,8,k,n,8,D,X,Y,λl O R S i C T=>?_⟩;have W:=C.len;refine⟨l,8,⟨_,eY.of i⟩,?_⟩;refine jV (xs:=O.map V.ref) (λj d y=>y=R/\(∃v,d=[some (.ref k.a),some (.int tk),v])/\∀m∈(wait n).take j,m.tk≠tk) ⟨8,⟨none,8⟩,04⟩ (λj σ y _ z=>by rw[z.1];exact eY.of i) ?_ ?_
 ·rintro j x d y hj⟨rfl,⟨v,rfl⟩,b⟩;obtain⟨c,o,rfl⟩:=tK hj;obtain⟨m,G,r⟩:=C.at o;obtain⟨dc,kk,a,t,ec,_⟩:=r.ex;dsimp only[eQ,List.set];refine⟨9,c,Z.c,dc,7,ec,L.cc,L.c1,8,9,8,9,?_⟩;by_cases h:m.tk=tk
  ·refine iM (by simp[h]) ⟨9,q c m _ S (T.subset (aap o)) r (aap G) h⟩
  ·refine gB (by simp[h]) ⟨8,⟨9⟩,λU g=>?_⟩;rw[je G]at g;rcases aam.mp g with g|g
   ·exact b U g
   ·cases aal.mp g;exact h
 ·rintro d y⟨rfl,_,b⟩;rw[aaf,W,aaQ]at b;exact(b m0 mw mt).elim
inductive Qg(Z:LC)(vs:List V)(H:Hp)(Q:VK)(E:XK):Prop
 |mk (k:LA) (n:Ln) (tk:Int):vs=[.ref k.a,.int tk]->dN Z H k n->k.cs.length<=900->n.pg.length<=900->(∃r m,wait n=r++[m]/\m.tk=tk)->(∀(c:Zl)(m:Cl)(H':Hp),cu H H'->c∈k.cs->iQ Z H' c m->m∈wait n->m.tk=tk->Q (.ref c) H')->Qg Z vs H Q E
def UT:cI ["self","ticket","claim"] ["self","ticket"] (bK (lM 8)):=by ext
noncomputable def Vc(F:gU K "last_waiting" "Lane.last_waiting" (lM 8) f U)(L:LZ K mg Z)(W:MD K Z.l "waiting" "Lane.waiting" (lM 6) ["self"] fW g)(GW:cz P w K mg base dM 2 fW g ["self"] (J7 Z))(X:MD K Z.l "waiting_with" "Lane.waiting_with" (lM 7) ["self","ticket"] T i)(GV:cz P w K mg base dM 3 T i ["self","ticket"] (Ji Z)):cz P w K mg base dM 4 f U ["self","ticket"] (Qg Z):=by
 refine F.ok UT 01 λj A o s H vs Q E C h=>?_;obtain⟨k,n,tk,rfl,y,J,M,⟨r,N,O,R⟩,q⟩:=h;have x:dX 2 _:=C.mono 02;refine⟨_,(b7 (j8 2 UT.nd (eV (E:=E0) 06 L.lc X.M GV C X.b .nil dC (aK 003 b_))) (b7 (dU (dg xZ (cU (d_ iH (eG (E:=E0) 06 L.lc W.M GW x W.b .nil dC) (pU mH cj)) rfl) 003 (di _)) (c7 eU) d9) (c7 (cW 010)))),?_⟩;obtain⟨dx,e⟩:=y.ob;refine⟨9,k.a,dx,9,e,8,9,k,n,tk,8,y,J,M,⟨N,by rw[O];simp,R⟩,λc m H1 D Y cl mm em=>?_⟩;have d:=y.same D;obtain⟨z,e1⟩:=d.ob;refine⟨9,k.a,z,9,e1,8,k,n,8,d,J,M,λl p H2 G v I sb=>?_⟩;have wl:=I.len;have b:(wait n)[p.length-1]?=some N:=by rw[wl,O];simp
 obtain⟨S,B,r0⟩:=I.at' b;obtain⟨dc,kk,a,t,ec,_⟩:=r0.ex;have ex:(p.map V.ref)[(p.map V.ref).length-1]?=some (.ref S):=by rw[aaf,aaq,B];rfl
 refine⟨9,l,_,7,8,eY.of v,ql ex,S,Z.c,dc,7,ec,L.cc,L.c1,8,9,8,9,gB (by simp[R]) ⟨9,q c m _ (D.trans G) Y (cl.same G) mm em⟩⟩
def lL(tk:Int)(c:Cl):Cl:=if c.tk=tk then{c with gv:=true}else c
def rJ(tk:Int)(n:Ln):Ln:={n with pg:=n.pg.map λp=>{p with cs:=p.cs.map (lL tk)},giv:=n.giv+1}
noncomputable def iU(n:Ln):List Cl:=n.pg.flatMap (·.cs)
theorem Pd.both{c d:Type}{R:c->d->Prop}:∀{a:List c}{b:List d},Pd R a b->Pd (λx y=>R x y/\(x,y)∈a.zip b) a b
 |_,_,.nil=>.nil
 |_,_,.cons r t=>.cons ⟨r,04⟩ ((Pd.both t).map λ_ _ h=>⟨h.1,by simp[h.2]⟩)
theorem Pd.mapR{a b e:Type}{R:a->b->Prop}{f:a->e->Prop}{g:b->e}(h:∀x y,R x y->f x (g y)):∀{c:List a}{d:List b},Pd R c d->Pd f c (d.map g)
 |_,_,.nil=>.nil
 |_,_,.cons r t=>.cons (h _ _ r) (Pd.mapR h t)
theorem yj:∀{a:List PA}{b:List Pg},Pd (λs m=>s.cs.length=m.cs.length) a b->(a.flatMap (·.cs)).zip (b.flatMap (·.cs))=(a.zip b).flatMap λq=>q.1.cs.zip q.2.cs
 |_,_,.nil=>rfl
 | _,_,.cons r t=>by rw[aaI,aaI,List.zip_append r,yj t];rfl
theorem Av{n j p:Type}{f:j->p}:∀{l:List n}{i:List j}{b c:n}{y z:j},(i.map f).Nodup->(b,y)∈l.zip i->(c,z)∈l.zip i->f y=f z->b=c
 |[],_,_,_,_,_,_,h,_,_=>by simp at h
 |_::_,[],_,_,_,_,_,h,_,_=>by simp at h
 | a::r,w::t,b,c,y,z,nd,g,d,e=>by
   rw[aay]at nd;obtain⟨m,o⟩:=aaK.mp nd;rw[List.zip_cons_cons]at g d;rcases aag.mp g with g|g
   ·rcases aag.mp d with d|d
    ·cases g;cases d;rfl
    ·cases g;exact(m (by rw[e];exact aao.mpr ⟨z,(abC d).2,8⟩)).elim
   ·rcases aag.mp d with d|d
    ·cases d;exact(m (by rw[<-e];exact aao.mpr ⟨y,(abC g).2,8⟩)).elim
    ·exact Av o g d e
def dN.zips(a:dN Z H k n):k.cs.zip (iU n)=(k.ps.zip n.pg).flatMap λq=>q.1.cs.zip q.2.cs:=yj (a.pg.map λ_ _ r=>r.cs.len)
noncomputable def dN.at_c{k:LA}(b:dN Z H k n)(o:c∈k.cs):∃y,iQ Z H c y/\(c,y)∈k.cs.zip (iU n):=by obtain⟨s,d,e⟩:=aaN.mp o;obtain⟨i,f⟩:=aau.mp d;obtain⟨m,p,r,g⟩:=b.pg.both.at f;obtain⟨j,h⟩:=aau.mp e;obtain⟨y,q,l,a⟩:=r.cs.both.at h;refine⟨y,l,?_⟩;rw[b.zips];exact aaN.mpr ⟨(s,m),g,a⟩
def O4(f:iQ Z H c m)(g:iQ Z H c y):m.tk=y.tk:=by
 obtain⟨d,k,a,t,e,_⟩:=f.ex;obtain⟨h,i,j,l,b,_⟩:=g.ex;rw[e]at b;injection b with b
 injection b with _ _ e3
 injection e3 with e3
 injection e3 with _ e3
 injection e3
def dN.setC(q:Z.Ok){H:Hp}{k:LA}{n:Ln}{m:Cl}(d:dN Z H k n)(S:c∈k.cs)(T:iQ Z H c m)(x:m.tk=tk)(U:((iU n).map (·.tk)).Nodup)(e:H c=some (.ins Z.c i (wW m kk t))):
 dN Z (upd H c (.ins Z.c i (wW {m with gv:=true} kk t))) k {n with pg:=n.pg.map λp=>{p with cs:=p.cs.map (lL tk)}}:=by
 have kt:Kt Z H (upd H c (.ins Z.c i (wW {m with gv:=true} kk t))):=Kt.ins e q.kc;obtain⟨dl,f⟩:=d.ob;obtain⟨F,G,I⟩:=d.at_c S;have o:F.tk=tk:=(O4 T G).symm.trans x;refine⟨⟨dl,?_⟩,?_,?_,d.n1,d.n2,d.n3⟩
 ·rw[b8 (λz=>by
   rw[z,e]at f;injection f with f
   injection f with f
   exact q.cl f)];exact f
 ·rw[b8 (λz=>by have:=d.ls;rw[z,e]at this;cases this)];exact d.ls
 ·have one:∀(b:Zl)(y:Cl),iQ Z H b y->(b,y)∈k.cs.zip (iU n)->iQ Z (upd H c (.ins Z.c i (wW {m with gv:=true} kk t))) b (lL tk y):=by
   intro b y r j;by_cases z:b=c
   ·subst z;obtain⟨W,J,L,M,N,O,Q⟩:=r.ex;have a:=N;rw[e]at a;injection a with a
    injection a with _ e2 e3
    have v:m.tk=y.tk:=by injection e3 with e3;injection e3 with _ e3;injection e3
    have B:m.tm=y.tm:=by injection e3 with _ e3;injection e3 with e3 _;injection e3 with _ e3;injection e3
    have C:kk=J:=by injection e3 with _ e3;injection e3 with _ e3;injection e3 with e3 _;injection e3 with _ e3;injection e3
    have D:t=M:=by injection e3 with _ e3;injection e3 with _ e3;injection e3 with _ e3;injection e3 with e3 _;injection e3 with _ e3;injection e3
    subst C D;have E:lL tk y={y with gv:=true}:=by unfold lL;rw[aac (by rw[<-v];exact x)]
    rw[E];refine⟨i,kk,L,t,?_,O.kt kt,kt.tk _ _ Q⟩;rw[a_];show some (HO.ins Z.c i [("ticket",.int m.tk),("time",.int m.tm),("form",.ref kk),("filled",.ref t),("given",.bl true)])=some (HO.ins Z.c i [("ticket",.int y.tk),("time",.int y.tm),("form",.ref kk),("filled",.ref t),("given",.bl true)]);rw[v,B]
   ·have:y.tk≠tk:=λh=>z (Av U j I (h.trans o.symm));unfold lL;rw[aab this];exact r.upd kt z
  refine Pd.mapR (λs p⟨r,j⟩=>?_) d.pg.both;obtain⟨R,g⟩:=r.ob;refine⟨⟨R,?_⟩,?_,?_⟩
  ·rw[b8 (λz=>by
    rw[z,e]at g;injection g with g
    injection g with g
    exact q.cp g)];exact g
  ·rw[b8 (λz=>by have:=r.ls;rw[z,e]at this;cases this)];exact r.ls
  ·refine Pd.mapR (λb y⟨A,l⟩=>one b y A ?_) r.cs.both;rw[d.zips];exact aaN.mpr ⟨(s,p),j,l⟩
inductive Qh(Z:LC)(vs:List V)(H:Hp)(Q:VK)(E:XK):Prop
 |mk (k:LA) (n:Ln) (tk:Int):vs=[.ref k.a,.int tk]->dN Z H k n->k.cs.length<=900->n.pg.length<=900->((iU n).map (·.tk)).Nodup->(∃r m,wait n=r++[m]/\m.tk=tk)->(∀H',dN Z H' k (rJ tk n)->Mv Z k H k H'->Q .non H')->Qh Z vs H Q E
def Sv:cI ["self","ticket","claim"] ["self","ticket"] (bK (lM 10)):=by ext
noncomputable def S_(F:gU K "give" "Lane.give" (lM 10) f I)(L:LZ K mg Z)(J:MD K Z.l "last_waiting" "Lane.last_waiting" (lM 8) ["self","ticket"] fW i)(Y:cz P w K mg base dM 4 fW i ["self","ticket"] (Qg Z)):cz P w K mg base dM 5 f I ["self","ticket"] (Qh Z):=by refine F.ok Sv 01 λM A r s H vs Q E N h=>?_;obtain⟨k,n,tk,rfl,y,R,S,T,U,q⟩:=h;refine⟨_,(b7 (j8 2 Sv.nd (eV (E:=E0) 06 L.lc J.M Y N J.b .nil dC (aK 003 b_))) (b7 (dz 010 j5 rfl) (c7 (jT 06 cj pF)))),?_⟩;obtain⟨W,e⟩:=y.ob;refine⟨9,k.a,W,9,e,8,9,k,n,tk,8,y,R,S,U,λc m B C D G mm O=>?_⟩;obtain⟨j,kk,a,t,z,_⟩:=id G.ex;have v:=y.same C;refine⟨9,c,Z.c,j,9,z,L.cc,L.c5,(show 5<1000 by decide),?_⟩;have d:dN Z (upd B c (.ins Z.c j (fX "given" (.bl true) (wW m kk t)))) k {n with pg:=n.pg.map λp=>{p with cs:=p.cs.map (lL tk)}}:=v.setC L.ok D G O T z;have g:=(Mv.same (Z:=Z) (k:=k) C).trans (Mv.ins (o:=.ins Z.c j (fX "given" (.bl true) (wW m kk t))) z 012 (LA.c_own D));generalize upd B c (.ins Z.c j (fX "given" (.bl true) (wW m kk t)))=X at d g|-;obtain⟨b,l⟩:=d.ob;refine⟨9,k.a,Z.l,b,7,l,L.lc,L.l9,8,7,8,b,_,l,015,?_⟩;have x:dN Z (upd X k.a (.ins Z.l b (fX "given_in" (.int (n.giv+1)) (Et k.lp {n with pg:=n.pg.map λp=>{p with cs:=p.cs.map (lL tk)}})))) k (rJ tk n):=d.setL L.ok (dx':=b) l (rJ tk n) rfl;exact q _ x (g.trans (Mv.ins l (.inr 013) LA.a_own))
end
noncomputable def su(f:Int->List (Int×Cl)):List Cl->Int->List (Int×Cl)
 |[],q=>f q
 |c::cs,q=>if c.gv=true then(q,c)::su f cs (q+1)else[]
noncomputable def vq:List Pg->Int->List (Int×Cl)
 |[],_=>[]
 |p::r,q=>su (vq r) p.cs (q+p.go)
noncomputable def stand(n:Ln):List (Int×Cl):=vq n.pg 0
theorem sZ(h:∀q,(f q).length<=b):∀(cs:List Cl)(q:Int),(su f cs q).length<=cs.length+b
 |[],q=>by have:=h q;simp only[su,abo];omega
 | c::cs,q=>by
   have:=sZ h cs (q+1);unfold su;split
   ·simp only[aaz];omega
   ·simp
theorem sU:∀(a:List Pg)(q:Int),(vq a q).length<=(a.flatMap (·.cs)).length
 |[],_=>by simp[vq]
 | p::r,q=>by rw[aaI,aaw];exact sZ (λb=>sU r b) p.cs _
def dN.tks(g:Z.Ok)(d:dN Z H k n)(m:Mv Z k H c a):TK H a:=λb f e=>m.out b _ e (d.not_ls e (by intro _ z;cases z)) (by intro _ _ _ z;cases z)
structure Ia(mg:Y1):Prop where
 a:∃t,mg "FEWEST_PAGES"=some (.int 2 t)
 b:∃t,mg "MOST_PAGES"=some (.int 16 t)
 c:∃t,mg "LEAST_ROOM"=some (.int 5 t)
 d:∃t,mg "MOST_ROOM"=some (.int 12 t)
def pY(a b:Int)(c:Bool):Ln:=⟨[⟨[],0,0⟩],a,b,c,false,0,none,0,0,0,0,0⟩
section
variable{P:ZE}{w:ZH}{K:Zs}{mg:Y1}{base:ZN}{Z:LC}
inductive JH(vs:List V)(H:Hp)(Q:VK)(E:XK):Prop
 |mk (i:Int):vs=[.int i]->2<=i->i<=16->Q .non H->JH vs H Q E
def Yh:cI ["pages"] ["pages"] (bK (top 52)):=by ext
noncomputable def O2(F:gU K "need_pages" "need_pages" (top 52) f b)(c:Ia mg):cz P w K mg base dM 1 f b ["pages"] JH:=by refine F.ok Yh 01 λd A a s H vs Q E j h=>?_;obtain⟨i,rfl,l,m,q⟩:=h;obtain⟨n,e⟩:=c.a;obtain⟨o,g⟩:=c.b;refine⟨_,(c7 (dU (ju (q_ kj kj (gG (v:=.int 2) rfl e ⟨9⟩) 06 (gG (v:=.int 16) rfl g ⟨9⟩))) (c7 eU) d9)),?_⟩;refine yM.iff (yM.not (yM.test (oA.chain oA.con (oA.var rfl) oA.con Eu.i0 Eu.i0))) (lD (λh=>?_) (λh=>q));simp at h;omega
inductive LR(vs:List V)(H:Hp)(Q:VK)(E:XK):Prop
 |mk (i:Int):vs=[.int i]->5<=i->i<=12->Q .non H->LR vs H Q E
def Z5:cI ["room"] ["room"] (bK (top 53)):=by ext
noncomputable def Ny(F:gU K "need_room" "need_room" (top 53) f b)(c:Ia mg):cz P w K mg base dM 1 f b ["room"] LR:=by refine F.ok Z5 01 λd A a s H vs Q E j h=>?_;obtain⟨i,rfl,l,m,q⟩:=h;obtain⟨n,e⟩:=c.c;obtain⟨o,g⟩:=c.d;refine⟨_,(c7 (dU (ju (q_ kj kj (gG (v:=.int 5) rfl e ⟨9⟩) 06 (gG (v:=.int 12) rfl g ⟨9⟩))) (c7 eU) d9)),?_⟩;refine yM.iff (yM.not (yM.test (oA.chain oA.con (oA.var rfl) oA.con Eu.i0 Eu.i0))) (lD (λh=>?_) (λh=>q));simp at h;omega
inductive JW(Z:LC)(vs:List V)(H:Hp)(Q:VK)(E:XK):Prop
 |mk (o dx:Zl) (pages room:Int) (over:Bool):vs=[.ref o,.int pages,.int room,.bl over]->H o=some (.ins Z.l dx [])->2<=pages->pages<=16->5<=room->room<=12->(∀k H',k.a=o->k.cs=[]->dN Z H' k (pY pages room over)->(∀b u,H b=some u->b≠o->H' b=some u)->(∀l∈k.ls,H l=none)->(∀s∈k.ps,H s.p=none)->Q .non H')->JW Z vs H Q E
def YB:cI ["self","pages","room","over"] ["self","pages","room","over"] (bK (lM 0)):=by ext
noncomputable def Vg(F:gU K "__init__" "Lane.__init__" (lM 0) f fd)(L:LZ K mg Z)(TL:Ia mg)(DN:fj K mg "need_pages" (top 52) ["pages"] fN N)(DR:fj K mg "need_room" (top 53) ["room"] fR O)(MkP:Mk K Z.p fI)(FI:gU K "__init__" "Page.__init__" (gM 0) fI D)(bI:Binds K D ["self"] []):cz P w K mg base dM 3 f fd ["self","pages","room","over"] (JW Z):=by
 have GN:cz P w K mg base dM 1 fN N ["pages"] JH:=O2 DN.F TL;have GR:cz P w K mg base dM 1 fR O ["room"] LR:=Ny DR.F TL;have GI:cz P w K mg base dM 1 fI D ["self"] (Hy Z):=Gr FI L;refine F.ok YB 01 λaa A ab s H vs Q E hr h=>?_;obtain⟨o,c,a,d,p,rfl,ho,p1,p2,r1,r2,q⟩:=h;have I:dX 1 _:=hr.mono 02;refine⟨_,(b7 (eE (j4 DN GN I (aK 003 b_))) (b7 (eE (j4 DR GR I (aK 010 b_))) (b7 (dz 06 003 rfl) (b7 (dz 06 010 rfl) (b7 (dz 06 (pv 3) rfl) (b7 (dz 06 (gQ (aK (rR (E:=E0) MkP GI hr rfl L.pmg bI .nil dC) b_)) rfl) (b7 (dz 06 j5 rfl) (b7 (dz 06 cj rfl) (b7 (dz 06 iZ rfl) (b7 (dz 06 cj rfl) (b7 (dz 06 cj rfl) (b7 (dz 06 cj rfl) (b7 (dz 06 cj rfl) (c7 (dz 06 cj rfl))))))))))))))),?_⟩;refine⟨9,a,8,p1,p2,?_⟩;refine⟨9,d,8,r1,r2,?_⟩;refine⟨9,9,o,Z.l,c,[],8,ho,L.lc,L.l1,(show 0<1000 by decide),?_⟩;refine⟨9,9,o,Z.l,c,9,a_,L.lc,L.l2,(show 1<1000 by decide),?_⟩;refine⟨9,9,o,Z.l,c,9,a_,L.lc,L.l3,(show 2<1000 by decide),?_⟩;generalize C:upd (upd (upd H o (.ins Z.l c (fX "most" (.int a) []))) o (.ins Z.l c (fX "room" (.int d) (fX "most" (.int a) [])))) o (.ins Z.l c (fX "over" (.bl p) (fX "room" (.int d) (fX "most" (.int a) []))))=H3;have S:∀b,b≠o->H3 b=H b:=λb g=>by rw[<-C,b8 g,b8 g,b8 g]
 have T:H3 o=some (.ins Z.l c [("most",.int a),("room",.int d),("over",.bl p)]):=by rw[<-C,a_];rfl
 clear C;refineλx y R ac ad=>⟨x,y,8,a_,λl G i ae r kp=>⟨8,?_⟩⟩;have U:cu H3 G:=gn R ac kp;have B:H3 l=none:=by
  have W:l≠x:=λz=>by rw[z,a_]at i;cases i
  have X:l≠y:=λz=>by rw[z,b8 ad,a_]at i;cases i
  rw[b8 W,b8 X]at i;exact i
 refine⟨01,λn j=>?_⟩;have J:cu G (upd G n (.lst [.ref x])):=cu.new j;have h5:(upd G n (.lst [.ref x])) n=some (.lst [.ref x]):=a_;generalize upd G n (.lst [.ref x])=H5 at J h5|-;have e5:=J _ _ (U _ _ T);have W:x≠o:=λz=>by rw[z,T]at R;cases R
 have X:l≠o:=λz=>by rw[z,T]at B;cases B
 have n3:n≠o:=λz=>by rw[z,U _ _ T]at j;cases j
 have af:n≠l:=λz=>by rw[z,r]at j;cases j
 have ag:∀v:Hp,v o=some (.ins Z.l c (Et n (pY a d p)))->(∀b,b≠o->v b=H5 b)->Q .non v:=by
  intro v eF Y;refine q ⟨o,n,[⟨x,l,[]⟩]⟩ v rfl rfl ⟨⟨c,eF⟩,?_,.cons ⟨⟨y,?_⟩,?_,.nil⟩ .nil,?_,?_,?_⟩ ?_ ?_ (λs m=>by cases aal.mp m;show H x=none;rw[<-S _ W];exact R)
  ·show v n=some (.lst [.ref x]);rw[Y _ n3];exact h5
  ·show v x=_;rw[Y _ W];exact J _ _ ae
  ·show v l=some (.lst []);rw[Y _ X];exact J _ _ r
  ·simp
  ·show[n,l].Nodup;simp[af]
  ·show([]:YI).Nodup;simp
  ·intro b u e g;rw[Y _ g];refine J _ _ (U _ _ ?_);rw[S _ g];exact e
  ·intro b M;have M:b∈[n,l]:=M;rcases aag.mp M with rfl|M
   ·rw[<-S _ n3];exact dY U j
   ·cases aal.mp M;rw[<-S _ X];exact B
 refine⟨9,o,Z.l,c,9,e5,L.lc,L.l4,(show 3<1000 by decide),?_⟩;refine⟨9,o,Z.l,c,9,a_,L.lc,L.l5,(show 4<1000 by decide),?_⟩;refine⟨9,o,Z.l,c,9,a_,L.lc,L.l6,(show 5<1000 by decide),?_⟩;refine⟨9,o,Z.l,c,9,a_,L.lc,L.l7,(show 6<1000 by decide),?_⟩;refine⟨9,o,Z.l,c,9,a_,L.lc,L.l8,(show 7<1000 by decide),?_⟩;refine⟨9,o,Z.l,c,9,a_,L.lc,L.l9,(show 8<1000 by decide),?_⟩;refine⟨9,o,Z.l,c,9,a_,L.lc,L.l10,(show 9<1000 by decide),?_⟩;refine⟨9,o,Z.l,c,9,a_,L.lc,L.l11,(show 10<1000 by decide),?_⟩;refine⟨9,o,Z.l,c,9,a_,L.lc,L.l12,(show 11<1000 by decide),?_⟩;exact ag _ a_ (λb g=>by rw[b8 g,b8 g,b8 g,b8 g,b8 g,b8 g,b8 g,b8 g,b8 g])
end
def tL(f:j9)(z:Int):Prop:=f.2.1<=z/\z<=f.2.2
section
variable{P:ZE}{w:ZH}{K:Zs}{mg:Y1}{base:ZN}{Z:LC}
inductive Fi(K:Zs)(vs:List V)(H:Hp)(Q:VK)(E:XK):Prop
 |mk (p dc:Zl) (x:V) (f:j9):vs=[.ref p,x]->Dr H p dc->jw H x f->nU f->(∀(z:Int)(H':Hp),tL f z->Dr H' p dc->h_ p H H'->Q (.int z) H')->Fi K vs H Q E
def BZ:cI ["_law_d","_law_field","_law_title","_law_low","_law_high"] ["_law_d","_law_field"] (bK (top 118)):=by ext
noncomputable def OJ(F:gU K "_law_value" "_law_value" (top 118) f C)(T:Txt K mg)(j:fj K mg "_law_pick" (top 113) ["_law_d","_law_many"] v a)(G:fj K mg "_law_of" (top 114) ["_law_d","_law_things"] B c):
 cz P w K mg base dM 3 f C ["_law_d","_law_field"] (Fi K):=by
 have O:cz P w K mg base dM 1 v a ["_law_d","_law_many"] jC:=jA j.F T;have R:cz P w K mg base dM 2 B c ["_law_d","_law_things"] (yx K):=uI G.F T j;refine F.ok BZ 01 λd A e s H vs Q E l h=>?_;obtain⟨p,o,x,S,rfl,D,⟨b,rfl,U⟩,i,k⟩:=h;have g:dX 1 _:=l.mono 02;refine⟨_,(b7 (m9 003 (ii rfl (d8 (kJ 2 BZ.nd) (d8 (kJ 3 BZ.nd) (d8 (kJ 4 BZ.nd) gj))))) (c7 (cW (j4 G R l (aK 06 (aK (gQ (aK (pv 3) (aK (pv 4) (aK (eN iK (pv 3) (j4 j O g (aK 06 (aK (eN iK (eN lE (pv 4) (pv 3)) cj) b_)))) b_)))) b_)))))),?_⟩;have f1:=i.lo;have f2:=i.le;have f3:=i.hi;refine⟨9,b,9,e_.of U,8,7,7,7,8,?_⟩;refine⟨9,9,9,9,9,9,9,7,8,7,8,p,o,9,D,by lia,by lia,λr X Y r1 I J=>⟨7,8,01,λq m=>?_⟩⟩;refine⟨p,o,q,9,I.new m,eY.of a_,04,04,λy L n M N=>?_⟩;obtain⟨z,rfl,W⟩:∃z:Int,y=.int z/\tL S z:=by
  simp only[aag,aba,or_false]at n;unfold tL;rcases n with rfl|rfl|rfl
  ·exact⟨_,rfl,05,05⟩
  ·exact⟨_,rfl,05,05⟩
  ·exact⟨_,rfl,05,05⟩
 exact k z L W M ((J.trans (h_.new m)).trans N)
inductive Aj(K:Zs)(vs:List V)(H:Hp)(Q:VK)(E:XK):Prop
 |mk (p dc a:Zl) (xs:List V) (fs:List j9):vs=[.ref p,.ref a]->Dr H p dc->H a=some (.tup xs)->Paired (jw H) xs fs->(∀f∈fs,nU f)->fs.length<=60->(∀(b:Zl)(zs:List Int)(H':Hp),H' b=some (.tup (zs.map V.int))->Pd tL fs zs->Dr H' p dc->h_ p H H'->Q (.ref b) H')->Aj K vs H Q E
def Qf:cI ["_law_d","_law_fields"] ["_law_d","_law_fields"] (bK (top 119)):=by ext
noncomputable def K6(F:gU K "_law_values" "_law_values" (top 119) f W)(T:Txt K mg)(DP:fj K mg "_law_pick" (top 113) ["_law_d","_law_many"] fP G)(DO:fj K mg "_law_of" (top 114) ["_law_d","_law_things"] fO I)
 (r:fj K mg "_law_value" (top 118) ["_law_d","_law_field"] U j):cz P w K mg base dM 4 f W ["_law_d","_law_fields"] (Aj K):=by
 have GV:cz P w K mg base dM 3 U j ["_law_d","_law_field"] (Fi K):=OJ r.F T DP DO;refine F.ok Qf 01 λX A y s H vs Q E Y h=>?_;obtain⟨p,M,a,n,fs,rfl,D,O,R,fo,fl,k⟩:=h;refine⟨_,(c7 (cW (jh jb 004 T.tuple jB (aK (j0 (g:=eQ 0) (own:=["_law_field"]) (js:=[0]) (N':=["_law_field","_law_d"]) (dJ.of (osc:=bK (top 119)) (N:=["_law_d","_law_fields"]) rfl rfl 01) rfl (mJ 003) (λ_ _ _ _ _=>(eX (i:=0) (show List.Nodup (["_law_field","_law_d"]:Y2) by ext) rfl 012 013)) (λ_ _ _ _ _=>gw) (λ_ _ _ _ _=>gf (E:=E0) GV Y rfl r.mg r.F.kp r.b .nil dC (aK 003 (aK 06 b_)))) b_)))),?_⟩;have pl:=aaS R;refine⟨9,a,8,⟨_,e_.of O⟩,?_⟩;refine iJ (xs:=n) (λi m b B=>(∃v,b=[v,some (.ref p)])/\Dr B p M/\h_ p H B/\∃d:List Int,m=d.map V.int/\Pd tL (fs.take i) d) (aah (show n.length<=60 by omega) 02) ⟨⟨none,8⟩,D,h_.refl,[],8,.nil⟩ (λi m b B _⟨_,d',b',_⟩=>e_.of (TK.but D b' _ _ O)) ?_ ?_
 ·rintro i x m b H1 hi c⟨⟨v,rfl⟩,C,o,d,rfl,q⟩N hN;obtain⟨S,e,hx⟩:=ji (gD R (TK.but D o)) hi;refine⟨9,9,p,M,x,S,8,C,hx,fo S (aap e),λz H2 hz D2 t2=>?_⟩;refine hN _ _ _ (by rw[aaw,c];rfl) ⟨⟨9⟩,D2,o.trans t2,d++[z],by rw[aaA];rfl,?_⟩;rw[je e];exact Pd.app (.cons hz .nil) q
 ·rintro m b H1 c⟨⟨v,rfl⟩,C,o,d,rfl,q⟩;refine⟨by rw[c];exact aah (show n.length<=60 by omega) 02,λl J=>?_⟩;refine⟨l,9,.inl ⟨eY.of a_,λt L=>?_⟩⟩;rw[pl,aaQ]at q;exact k t d _ a_ q ((C.new J).new L) ((o.trans (h_.new J)).trans (h_.new L))
noncomputable abbrev NNd:List Str:=["self","values","at","name","low","high","value"]
def Di:cI NNd ["self","values"] (bK (kM 4)):=by ext
inductive Ak(C:Zl)(vs:List V)(H:Hp)(Q:VK)(E:XK):Prop
 |mk (o a b:Zl) (n:Str) (fs:List j9) (zs:List Int):vs=[.ref o,.ref b]->gA C H o n a fs->H b=some (.tup (zs.map V.int))->Pd tL fs zs->(∀H',cu H H'->Q .non H')->Ak C vs H Q E
def Kl(F:gU K "need" "Kind.need" (kM 4) f fd)(T:Txt K mg)(W:mg "enumerate"=none)(X:mg "zip"=none)(v:KCls K mg C):
 cz P w K mg base dM 1 f fd ["self","values"] (Ak C):=by
 refine F.ok Di 01 λaa A B s H vs Q E hr h=>?_;obtain⟨o,a,b,n,fs,N,rfl,⟨⟨dx,ho⟩,j,O,pf⟩,R,fz,k⟩:=h;refine⟨_,(b7 (jy abh rfl (Fe rfl W rfl X (aK 03 (aK 003 b_))) (ii rfl (d8 (kJ 2 Di.nd) (d8 (ii rfl (d8 (ii rfl (d8 (kJ 3 Di.nd) (d8 (kJ 4 Di.nd) (d8 (kJ 5 Di.nd) gj)))) (d8 (kJ 6 Di.nd) gj))) gj))) (c7 (dU (ju (q_ kj kj (pv 4) (pv 6) (pv 5))) (c7 eU) d9))) (c7 (dU (dg xZ (du dO 004 T.len gK (aK 003 b_)) (du dO 004 T.len gK (aK 03 b_)) (di _)) (c7 eU) d9))),?_⟩;have pl:=aaS pf;have ab:(N.map V.int).length=N.length:=aaf ..;have fl:=fz.len;refine⟨9,o,C,dx,7,ho,v.cl,v.nF,jQ n a,9,a,b,8,⟨j,e_.of O⟩,⟨_,e_.of R⟩,?_⟩;refine Em (K:=K) (a1:=a) (a2:=b) (xs:=j) (ys:=N.map V.int) (λi c Y=>(∃D G I J L,c=[some (.ref o),some (.ref b),D,G,I,J,L])/\cu H Y) ⟨⟨none,none,none,none,none,8⟩,cu.refl _⟩ (λi c Y _ z=>⟨e_.of (z.2 _ _ O),e_.of (z.2 _ _ R)⟩) ?_ ?_
 ·rintro i x y c r q p hx hy⟨⟨D,G,I,J,L,rfl⟩,d⟩hq hp;obtain⟨⟨m,lo,hi⟩,S,l,rfl,U⟩:=ji pf hx;rw[aaq]at hy;obtain⟨z,hz,rfl⟩:=abk.mp hy;obtain⟨z',e,g⟩:=fz.at S;rw[hz]at e;cases e;have s2:cu r (upd (upd r q (.tup [.ref l,.int z])) p (.tup [.int i,.ref q])):=(cu.new hq).trans (cu.new hp);have M:(upd (upd r q (.tup [.ref l,.int z])) p (.tup [.int i,.ref q])) q=some (.tup [.ref l,.int z]):=(cu.new hp) _ _ a_;refine⟨p,9,e_.of a_,8,7,7,q,9,e_.of M,8,7,l,9,e_.of (s2 _ _ (d _ _ U)),8,7,7,7,8,7,8,8,?_⟩;dsimp only[eQ];refine yM.iff (yM.not (yM.test (oA.chain (oA.var rfl) (oA.var rfl) (oA.var rfl) Eu.i0 Eu.i0))) ?_;refine lD (λh=>?_) (λh=>?_)
  ·exfalso;have g:lo<=z/\z<=hi:=g;simp[g.1,g.2]at h
  ·exact⟨⟨_,_,_,7⟩,d.trans s2⟩
 ·rintro c r⟨⟨D,G,I,J,L,rfl⟩,d⟩;refine⟨9,b,9,.inr (e_.of (d _ _ R)),9,o,C,dx,7,d _ _ ho,v.cl,v.nF,jQ n a,a,j,8,.inr (e_.of (d _ _ O)),8,9,gB (by simp[pl,fl]) (k _ d)⟩
end
def iY(tk:Int)(a:List Int)(c:Cl):Cl:=if c.tk=tk then{c with vs:=a}else c
def k_(tk:Int)(a:List Int)(n:Ln):Ln:={n with pg:=n.pg.map λp=>{p with cs:=p.cs.map (iY tk a)}}
section
variable{P:ZE}{w:ZH}{K:Zs}{mg:Y1}{base:ZN}{Z:LC}
def dN.setF(x:Z.Ok)(d:dN Z H k n)(S:c∈k.cs)(T:iQ Z H c m)(B:m.tk=tk)(U:((iU n).map (·.tk)).Nodup)(e:H c=some (.ins Z.c i (wW m kk t)))(W:H b=some (.tup (j.map V.int))):
 dN Z (upd H c (.ins Z.c i (wW m kk b))) k (k_ tk j n):=by
 have kt:Kt Z H (upd H c (.ins Z.c i (wW m kk b))):=Kt.ins e x.kc;obtain⟨dl,f⟩:=d.ob;obtain⟨I,J,L⟩:=d.at_c S;have v:I.tk=tk:=(O4 T J).symm.trans B;refine⟨⟨dl,?_⟩,?_,?_,d.n1,d.n2,d.n3⟩
 ·rw[b8 (λz=>by
   rw[z,e]at f;injection f with f
   injection f with f
   exact x.cl f)];exact f
 ·rw[b8 (λz=>by have:=d.ls;rw[z,e]at this;cases this)];exact d.ls
 ·have one:∀(q:Zl)(y:Cl),iQ Z H q y->(q,y)∈k.cs.zip (iU n)->iQ Z (upd H c (.ins Z.c i (wW m kk b))) q (iY tk j y):=by
   intro q y r l;by_cases z:q=c
   ·subst z;obtain⟨X,M,N,Y,O,Q,et⟩:=r.ex;have a:=O;rw[e]at a;injection a with a
    injection a with _ e2 e3
    have A:m.tk=y.tk:=by injection e3 with e3;injection e3 with _ e3;injection e3
    have D:m.tm=y.tm:=by injection e3 with _ e3;injection e3 with e3 _;injection e3 with _ e3;injection e3
    have E:kk=M:=by injection e3 with _ e3;injection e3 with _ e3;injection e3 with e3 _;injection e3 with _ e3;injection e3
    have F:m.gv=y.gv:=by injection e3 with _ e3;injection e3 with _ e3;injection e3 with _ e3;injection e3 with _ e3;injection e3 with e3 _;injection e3 with _ e3;injection e3
    subst E;have G:iY tk j y={y with vs:=j}:=by unfold iY;rw[aac (by rw[<-A];exact B)]
    rw[G];refine⟨i,kk,N,b,?_,Q.kt kt,kt.tk _ _ W⟩;rw[a_];show some (HO.ins Z.c i [("ticket",.int m.tk),("time",.int m.tm),("form",.ref kk),("filled",.ref b),("given",.bl m.gv)])=some (HO.ins Z.c i [("ticket",.int y.tk),("time",.int y.tm),("form",.ref kk),("filled",.ref b),("given",.bl y.gv)]);rw[A,D,F]
   ·have:y.tk≠tk:=λh=>z (Av U l L (h.trans v.symm));unfold iY;rw[aab this];exact r.upd kt z
  refine Pd.mapR (λs p⟨r,l⟩=>?_) d.pg.both;obtain⟨R,g⟩:=r.ob;refine⟨⟨R,?_⟩,?_,?_⟩
  ·rw[b8 (λz=>by
    rw[z,e]at g;injection g with g
    injection g with g
    exact x.cp g)];exact g
  ·rw[b8 (λz=>by have:=r.ls;rw[z,e]at this;cases this)];exact r.ls
  ·refine Pd.mapR (λb y⟨C,o⟩=>one b y C ?_) r.cs.both;rw[d.zips];exact aaN.mpr ⟨(s,p),l,o⟩
inductive Ox(Z:LC)(vs:List V)(H:Hp)(Q:VK)(E:XK):Prop
 |mk (k:LA) (n:Ln) (tk:Int) (b:Zl) (zs:List Int):vs=[.ref k.a,.int tk,.ref b]->dN Z H k n->k.cs.length<=900->n.pg.length<=900->((iU n).map (·.tk)).Nodup->(∃m∈wait n,m.tk=tk)->H b=some (.tup (zs.map V.int))->((∀m∈wait n,m.tk=tk->Pd tL m.fi zs))->(∀H',dN Z H' k (k_ tk zs n)->Mv Z k H k H'->Q .non H')->Ox Z vs H Q E
def Up:cI ["self","ticket","values","claim"] ["self","ticket","values"] (bK (lM 9)):=by ext
noncomputable def Tv(F:gU K "fill" "Lane.fill" (lM 9) f U)(T:Txt K mg)(z:mg "enumerate"=none)(B:mg "zip"=none)(L:LZ K mg Z)(W:MD K Z.l "waiting_with" "Lane.waiting_with" (lM 7) ["self","ticket"] fW j)(GW:cz P w K mg base dM 3 fW j ["self","ticket"] (Ji Z))(C:MD K Z.k "need" "Kind.need" (kM 4) ["self","values"] S l):cz P w K mg base dM 4 f U ["self","ticket","values"] (Ox Z):=by have Y:cz P w K mg base dM 1 S l ["self","values"] (Ak Z.k):=Kl C.F T z B L.kc;refine F.ok Up 01 λp A r s H vs Q E D h=>?_;obtain⟨k,n,tk,b,zs,rfl,y,hc,hl,nd,wl,M,fz,q⟩:=h;have v:dX 1 _:=D.mono 02;refine⟨_,(b7 (j8 3 Up.nd (eV (E:=E0) 06 L.lc W.M GW D W.b .nil dC (aK 003 b_))) (b7 (eE (eV (E:=E0) (cU (pv 3) rfl) L.kc.cl C.M Y v C.b .nil dC (aK 010 b_))) (c7 (dz (pv 3) (jh jb 004 T.tuple jB (aK 010 b_)) rfl)))),?_⟩;obtain⟨dx,e⟩:=y.ob;refine⟨9,k.a,dx,9,e,8,9,k,n,tk,8,y,hc,hl,wl,λc m H1 o G I X J=>?_⟩;obtain⟨N,kk,a,t,O,R,et⟩:=id I.ex;obtain⟨⟨dk,ek⟩,_⟩:=id R;refine⟨9,c,Z.c,N,7,O,L.cc,L.c3,8,kk,dk,9,ek,uH m.nm a 01 01,9,kk,a,b,m.nm,m.fi,zs,8,R,o _ _ M,fz m X J,λH2 g=>?_⟩;have x:=(y.same o).same g;have d:=g _ _ O;have i:=g _ _ (o _ _ M);refine⟨9,b,9,.inr ⟨e_.of i,?_⟩⟩;refine⟨9,c,Z.c,N,9,d,L.cc,L.c4,(show 5<1000 by decide),?_⟩;exact q _ (x.setF L.ok G (I.same g) J nd d i) ((Mv.same (Z:=Z) (k:=k) (o.trans g)).trans (Mv.ins d 012 (LA.c_own G)))
inductive R4(Z:LC)(vs:List V)(H:Hp)(Q:VK)(E:XK):Prop
 |mk (k:LA) (n:Ln):vs=[.ref k.a]->dN Z H k n->(∀t H',cu H H'->H' t=some (.tup [.int n.giv,.int n.thr,.int n.los,.int n.mis])->Q (.ref t) H')->R4 Z vs H Q E
def Yz:cI ["self"] ["self"] (bK (lM 19)):=by ext
noncomputable def TQ(F:gU K "counts" "Lane.counts" (lM 19) f c)(L:LZ K mg Z):cz P w K mg base dM 1 f c ["self"] (R4 Z):=by refine F.ok Yz 01 λd A b s H vs Q E j h=>?_;obtain⟨k,n,rfl,i,q⟩:=h;refine⟨_,(c7 (cW (gF (aK 03 (aK 03 (aK 03 (aK 03 b_))))))),?_⟩;obtain⟨a,e⟩:=i.ob;exact⟨9,k.a,Z.l,a,7,e,L.lc,L.l9,8,9,k.a,Z.l,a,7,e,L.lc,L.l10,8,9,k.a,Z.l,a,7,e,L.lc,L.l11,8,9,k.a,Z.l,a,7,e,L.lc,L.l12,8,01,λt g=>q t _ (cu.new g) a_⟩
end
noncomputable def pZ(nm:Str)(fs:List j9)(a:List Int)(f:Str)(r:List PyData):Bool:=
 if f="all"then true else match r with
 |[.str x]=>decide (nm=x)
 |[.str x,.int i]=>if x∈fs.map (·.1)then (if f="less"then decide (a.getD ((fs.map (·.1)).idxOf x) 0<i)else decide (a.getD ((fs.map (·.1)).idxOf x) 0=i))else false
 |_=>false
noncomputable def gC(nm:Str)(fs:List j9)(a:List Int):Nat->Str->List PyData->Bool
 |0,_,_=>false
 | n+1,f,r=>
   if f="not"then(match r with
    |[.tuple (.str g::q)]=>!gC nm fs a n g q
    |_=>false)
   else if f="and"then(match r with
    |[.tuple (.str g::q),.tuple (.str h::p)]=>gC nm fs a n g q&&gC nm fs a n h p
    |_=>false)
   else if f="or"then(match r with
    |[.tuple (.str g::q),.tuple (.str h::p)]=>gC nm fs a n g q||gC nm fs a n h p
    |_=>false)
   else pZ nm fs a f r
def Ms(n:Str)(a:Zl):(kf n a).lookup ("place_of":Str)=none/\(kf n a).lookup ("need":Str)=none:=⟨uH n a 01 01,uH n a 01 01⟩
section
variable{P:ZE}{w:ZH}{K:Zs}{mg:Y1}{base:ZN}
inductive Mq(K:Zs)(C:Zl)(vs:List V)(H:Hp)(Q:VK)(E:XK):Prop
 |mk (q o a b:Zl) (f nm:Str) (r:List PyData) (fs:List j9) (zs:List Int):vs=[.ref q,.ref o,.ref b]->Rep K H (.ref q) (.tuple (.str f::r))->uc f r->gA C H o nm a fs->fs.length<=4->H b=some (.tup (zs.map V.int))->zs.length=fs.length->(∀H',cu H H'->Q (.bl (pZ nm fs zs f r)) H')->Mq K C vs H Q E
noncomputable abbrev NPl:List Str:=["leaf","kind","values","form","place"]
def Ex:cI NPl ["leaf","kind","values"] (bK (top 76)):=by ext
theorem Wo(F:gU K "passes_leaf" "passes_leaf" (top 76) f W)(N:KCls K mg C)(X:MD K C "place_of" "Kind.place_of" (kM 3) ["self","field"] U D)(GM:cz P w K mg base dM 1 U D ["self","field"] (wL C)):cz P w K mg base dM 2 f W ["leaf","kind","values"] (Mq K C):=by
 refine F.ok Ex 01 λY A I s H vs Q E Z h=>?_;obtain ⟨q,o,a,b,f,nm,r,fs,d,rfl,rq,lf,S,fl,hb,zl,k⟩:=h;refine ⟨_,(b7 (j8 3 Ex.nd 017) (b7 (dU (dg g8 (pv 3) cZ (di _)) (c7 (cW j5)) d9) (b7 (dU (dg g8 (pv 3) cZ (di _)) (c7 (cW (iw g8 (cU 003 rfl) 017 (di _)))) d9) (b7 (j8 4 Ex.nd (eV (E:=E0) 003 N.cl X.M GM Z X.b .nil dC (aK 017 b_))) (b7 (dU (dg sJ (pv 4) iZ (di _)) (c7 (cW j5)) d9) (c7 (cW (jX (dg g8 (pv 3) cZ (di _)) (iw uL (d_ eO 010 (pv 4)) 017 (di _)) (iw g8 (d_ eO 010 (pv 4)) 017 (di _)))))))))),?_⟩
 try dsimp only [iD]
 have L:=S;obtain ⟨⟨T,ho⟩,_⟩:=L;cases rq with
 |@tup _ M _ m n=>
 cases lf with
 | all=>
   obtain ⟨l,rfl⟩:∃l,M=[l]:=by cases n with|cons r1 r2=>cases r2;exact ⟨9⟩
   cases n with|cons r1 r2=>
   cases r1;exact ⟨9,q,_,7,8,m,dw (j:=0) rfl,9,8,9,iM 01 (k _ (cu.refl _))⟩
 | @is x hx=>
   obtain ⟨l,v,rfl⟩:∃l v,M=[l,v]:=by cases n with|cons r1 r2=>cases r2 with|cons r2 r3=>cases r3;exact ⟨7⟩
   cases n with|cons r1 r2=>
   cases r2 with|cons r2 r3=>
   cases r1;cases r2;refine ⟨9,q,_,7,8,m,dw (j:=0) rfl,9,8,9,gB 01 ⟨9,8,9,iM 01 ?_⟩⟩;refine ⟨9,o,C,T,7,ho,N.cl,N.nN,Ba nm a,9,q,_,7,8,m,dw (j:=1) rfl,8,?_⟩;have e:decide (V.str nm=V.str x)=pZ nm fs d "is" [.str x]:=by unfold pZ;rw [aab 01];simp
   show Q (.bl (decide (V.str nm=V.str x))) H;rw [e];exact k _ (cu.refl _)
 | @num f' x i G hx hi=>
   obtain ⟨l,v,O,rfl⟩:∃l v O,M=[l,v,O]:=by cases n with|cons r1 r2=>cases r2 with|cons r2 r3=>cases r3 with|cons r3 r4=>cases r4;exact ⟨_,7⟩
   cases n with|cons r1 r2=>
   cases r2 with|cons r2 r3=>
   cases r3 with|cons r3 r4=>
   cases r1;cases r2;cases r3;have n1:decide (V.str f=V.str "all")=false:=by rcases G with rfl|rfl<;>decide +kernel
   have n2:decide (V.str f=V.str "is")=false:=by rcases G with rfl|rfl<;>decide +kernel
   have n3:¬f="all":=by rcases G with rfl|rfl<;>decide +kernel
   refine ⟨9,q,_,7,8,m,dw (j:=0) rfl,9,8,9,gB n1 ⟨9,8,9,gB n2 ?_⟩⟩;refine ⟨9,o,T,9,ho,(Ms nm a).1,9,q,_,7,8,m,dw (j:=1) rfl,o,a,nm,x,fs,8,S,fl,λH1 p=>?_⟩;have y:=p.tup m;have z:=p _ _ hb;unfold pZ at k;rw [aab n3]at k;unfold vZ;by_cases c:x∈fs.map (·.1)
   ·rw [aac c];have k:∀g,cu H g->Q (.bl (if f="less"then decide (d.getD ((fs.map (·.1)).idxOf x) 0<i)else decide (d.getD ((fs.map (·.1)).idxOf x) 0=i))) g:=λg J=>by have:=k g J;dsimp only at this;rw [aac c]at this;exact this
    have R:(fs.map (·.1)).idxOf x<d.length:=by have:=List.idxOf_lt_length_iff.mpr c;rw [aaf]at this;omega
    have eg:d.getD ((fs.map (·.1)).idxOf x) 0=d[(fs.map (·.1)).idxOf x]:=by simp [acy,R]
    rw [eg]at k;refine ⟨9,8,9,gB 04 ?_⟩;have B:rN (d.map V.int) (((fs.map (·.1)).idxOf x:Nat):Int)=some (.int d[(fs.map (·.1)).idxOf x]):=dw (by rw [aaq,aaH R];rfl);refine ⟨9,8,9,?_⟩;rcases G with rfl|rfl
    ·refine iM 01 ?_;have:=k _ p;rw [aac rfl]at this;exact ⟨9,9,b,_,7,8,e_.of z,B,9,q,_,7,8,y,dw (j:=2) rfl,7,8,this⟩
    ·refine gB 01 ?_;have:=k _ p;rw [aab 01]at this;refine ⟨9,9,b,_,7,8,e_.of z,B,9,q,_,7,8,y,dw (j:=2) rfl,8,?_⟩;have e:decide (V.int d[(fs.map (·.1)).idxOf x]=V.int i)=decide (d[(fs.map (·.1)).idxOf x]=i):=by simp
     rw [e];exact this
   ·rw [aab c];have k:∀g,cu H g->Q (.bl false) g:=λg J=>by have:=k g J;dsimp only at this;rw [aab c]at this;exact this
    exact ⟨9,8,9,iM 01 (k _ p)⟩
end
noncomputable def VL(nm:Str)(fs:List j9)(a:List Int):PyData->Bool
 |.tuple (.str f::r)=>gC nm fs a 5 f r
 |_=>false
def uQ(N:Node n f r)(tr:∀d∈r,TD d):(f="not"/\∃g q,r=[.tuple (.str g::q)])\/((f="and"\/f="or")/\∃g q h p,r=[.tuple (.str g::q),.tuple (.str h::p)]):=by
 have ar:=N.ar;unfold arity at ar;by_cases a:f="not"
 ·rw[aac a]at ar;injection ar with ar
  left;refine⟨a,?_⟩
  match r,ar,N,tr with
  | [x],_,N,tr=>obtain⟨g,q,rfl⟩:=jf (tr x 04) (N.sh x 04);exact⟨g,q,8⟩
 ·rw[aab a]at ar;right;have two:∀{r:List PyData},2=r.length->(∀d∈r,TD d)->(∀d∈r,gb d=true)->∃g q h p,r=[.tuple (.str g::q),.tuple (.str h::p)]:=by
   intro r e t s
   match r,e,t,s with
   | [x,y],_,t,s=>obtain⟨g,q,rfl⟩:=jf (t x 04) (s x 04);obtain⟨h,p,rfl⟩:=jf (t y 04) (s y 04);exact⟨g,q,h,p,8⟩
  by_cases b:f="and"
  ·rw[aac b]at ar;injection ar with ar
   exact⟨.inl b,two ar tr N.sh⟩
  ·rw[aab b]at ar;by_cases c:f="or"
   ·rw[aac c]at ar;injection ar with ar
    exact⟨.inr c,two ar tr N.sh⟩
   ·rw[aab c]at ar;cases ar
def uD(h:arity f=none):¬f="not"/\¬f="and"/\¬f="or":=by
 unfold arity at h;refine⟨λz=>?_,λz=>?_,λz=>?_⟩
 ·rw[aac z]at h;cases h
 ·by_cases a:f="not"
  ·rw[aac a]at h;cases h
  ·rw[aab a,aac z]at h;cases h
 ·by_cases a:f="not"
  ·rw[aac a]at h;cases h
  ·rw[aab a]at h;by_cases b:f="and"
   ·rw[aac b]at h;cases h
   ·rw[aab b,aac z]at h;cases h
def lg(h:¬f=g):decide (V.str f=V.str g)=false:=by rw [decide_eq_false_iff_not,V.str.injEq];exact h
section
variable{P:ZE}{w:ZH}{K:Zs}{mg:Y1}{base:ZN}
structure Qx(K:Zs)(C:Zl)(n:Nat)(H:Hp)(q o a b:Zl)(f nm:Str)(r:List PyData)(fs:List j9)(zs:List Int):Prop where
 rq:Rep K H (.ref q) (.tuple (.str f::r))
 td:TD (.tuple (.str f::r))
 sh:gb (.tuple (.str f::r))=true
 de:gY (.tuple (.str f::r))<=n
 ka:gA C H o nm a fs
 fl:fs.length<=4
 hb:H b=some (.tup (zs.map V.int))
 zl:zs.length=fs.length
inductive KY(K:Zs)(C:Zl)(n:Nat)(vs:List V)(H:Hp)(Q:VK)(E:XK):Prop
 |mk (q o a b:Zl) (f nm:Str) (r:List PyData) (fs:List j9) (zs:List Int):vs=[.ref q,.ref o,.ref b]->Qx K C n H q o a b f nm r fs zs->(∀H',cu H H'->Q (.bl (gC nm fs zs n f r)) H')->KY K C n vs H Q E
noncomputable abbrev NPs:List Str:=["test","kind","values","form"]
def Va:cI NPs ["test","kind","values"] (bK (top 75)):=by ext
theorem Uq(p:fj K mg "passes" (top 75) ["test","kind","values"] f U)(DL:fj K mg "passes_leaf" (top 76) ["leaf","kind","values"] fL y)(GL:cz P w K mg base dM 2 fL y ["leaf","kind","values"] (Mq K C))(n:Nat):cz P w K mg base dM (n+2) f U ["test","kind","values"] (KY K C n):=by
 refine Nat.rec (motive:=λn=>cz P w K mg base dM (n+2) f U ["test","kind","values"] (KY K C n)) ⟨λ_ _ _ _ h=>?_,λ_ _ _ _ _ _ _ _ _ _ _ _ _ h=>?_⟩ (λn x=>?_) n
 ·obtain⟨q,o,a,b,f,nm,r,fs,c,_,h,_⟩:=h;exact absurd (aah (jY _) h.de) 02
 ·obtain⟨q,o,a,b,f,nm,r,fs,c,_,h,_⟩:=h;exact absurd (aah (jY _) h.de) 02
 refine p.F.ok Va 01 λaa A G s H vs Q E l h=>?_;obtain⟨q,o,a,b,f,nm,r,fs,c,rfl,h,k⟩:=h;have M:dX 2 _:=l.mono (show 2<=n+2 by omega);refine⟨_,(b7 (j8 3 Va.nd 017) (b7 (dU (dg g8 (pv 3) cZ (di _)) (c7 (cW (As (j4 p x l (aK 017 (aK 003 (aK 010 b_))))))) d9) (b7 (dU (dg g8 (pv 3) cZ (di _)) (c7 (cW (j7 (j4 p x l (aK 017 (aK 003 (aK 010 b_)))) (lA (j4 p x l (aK 017 (aK 003 (aK 010 b_)))))))) d9) (b7 (dU (dg g8 (pv 3) cZ (di _)) (c7 (cW (Wg (j4 p x l (aK 017 (aK 003 (aK 010 b_)))) (lA (j4 p x l (aK 017 (aK 003 (aK 010 b_)))))))) d9) (c7 (cW (j4 DL GL M (aK 06 (aK 003 (aK 010 b_)))))))))),?_⟩
 try dsimp only[iD]
 obtain⟨Y,td,sh,de,z,B,D,F⟩:=h;have O:=Y;cases td with
 |node af lf nr tr=>
 cases Y with
 |@tup _ xs _ m rs=>
 obtain⟨J,L,rfl⟩:∃J L,xs=J::L:=by cases rs;exact⟨7⟩
 obtain⟨r0,Z⟩:Rep K H J (.str f)/\ie K H L r:=by cases rs with|cons a b=>exact⟨a,b⟩
 cases r0;refine⟨9,q,_,7,8,m,dw (j:=0) rfl,9,8,9,?_⟩;unfold gC at k;rcases qj sh de with⟨ha,R⟩|N
 ·obtain⟨n1,n2,n3⟩:=uD ha;rw[aab n1,aab n2,aab n3]at k;refine gB (lg n1) ⟨9,8,9,gB (lg n2) ⟨9,8,9,gB (lg n3) ?_⟩⟩;exact⟨9,9,9,q,o,a,b,f,nm,r,fs,c,8,O,Bh R,z,B,D,F,k⟩
 ·rcases uQ N tr with⟨rfl,g,u,rfl⟩|⟨hf,g,u,h,v,rfl⟩
  ·rw[aac rfl]at k;cases Z with
   |@cons y1 _ y2 _ r1 r2=>
   cases r2;cases r1 with
   |@tup q1 z1 _ S T=>
   refine iM 01 ⟨9,q,_,7,8,m,dw (j:=1) rfl,9,9,q1,o,a,b,g,nm,u,fs,c,8,⟨.tup S T,tr _ 04,N.sh _ 04,N.de _ 04,z,B,D,F⟩,λi d=>⟨9,k i d⟩⟩
  ·cases Z with
   |@cons y1 _ y2 _ r1 r2=>
   cases r2 with
   |@cons y3 _ y4 _ r2 r3=>
   cases r3;cases r1 with
   |@tup q1 z1 _ S T=>
   cases r2 with
   |@tup q2 z2 _ s2 t2=>
   have W:∀{i},cu H i->Qx K C n i q1 o a b g nm u fs c:=λe=>⟨.tup (e.tup S) (T.same e),tr _ 04,N.sh _ 04,N.de _ 04,z.same e,B,e _ _ D,F⟩;have X:∀{i},cu H i->Qx K C n i q2 o a b h nm v fs c:=λe=>⟨.tup (e.tup s2) (t2.same e),tr _ 04,N.sh _ 04,N.de _ 04,z.same e,B,e _ _ D,F⟩;rcases hf with rfl|rfl
   ·rw[aab 01,aac rfl]at k;refine gB 01 ⟨9,8,9,iM 01 ?_⟩;refine⟨9,q,_,7,8,m,dw (j:=1) rfl,9,9,q1,o,a,b,g,nm,u,fs,c,8,W (cu.refl _),λi d=>⟨9,?_⟩⟩;dsimp only at k;cases hp:gC nm fs c n g u with
    |false=>rw[hp,abX]at k;exact gB rfl (k _ d)
    | true=>rw[hp,abP]at k;exact iM rfl ⟨9,q,_,7,8,d.tup m,dw (j:=2) rfl,9,9,q2,o,a,b,h,nm,v,fs,c,8,X d,λH2 I=>k _ (d.trans I)⟩
   ·rw[aab 01,aab 01,aac rfl]at k;refine gB 01 ⟨9,8,9,gB 01 ⟨9,8,9,iM 01 ?_⟩⟩;refine⟨9,q,_,7,8,m,dw (j:=1) rfl,9,9,q1,o,a,b,g,nm,u,fs,c,8,W (cu.refl _),λi d=>⟨9,?_⟩⟩;dsimp only at k;cases hp:gC nm fs c n g u with
    |true=>rw[hp,Bool.true_or]at k;exact iM rfl (k _ d)
    | false=>rw[hp,Bool.false_or]at k;exact gB rfl ⟨9,q,_,7,8,d.tup m,dw (j:=2) rfl,9,9,q2,o,a,b,h,nm,v,fs,c,8,X d,λH2 I=>k _ (d.trans I)⟩
end
noncomputable def jz(x:Str)(a:Y2)(n:Nat):List Nat:=(List.range n).filter λi=>decide (a[i]?=some x)
def yW(x y:Str)(t:Y2):jz x (y::t) (t.length+1)=(if y=x then [0]else [])++(jz x t t.length).map Nat.succ:=by
 unfold jz;rw [acz,List.filter_cons,List.filter_map];have e:((λi=>decide ((y::t)[i]?=some x))∘Nat.succ)=λi=>decide (t[i]?=some x):=by funext i;simp
 rw [e];by_cases h:y=x
 ·simp [h]
 ·simp [h]
theorem ye(x:Str):∀a:List Str,(x∉a->jz x a a.length=[])/\(x∈a->∃r,jz x a a.length=a.idxOf x::r)
 |[]=>⟨λ_=>rfl,λh=>by simp at h⟩
 | y::t=>by
   obtain⟨b,c⟩:=ye x t;rw[aaz,yW];refine⟨λh=>?_,λh=>?_⟩
   ·simp at h;rw[aab (λz=>h.1 z.symm),b h.2];rfl
   ·by_cases e:y=x
    ·rw[aac e];exact⟨_,by rw[List.idxOf_cons,show(y==x)=true from by simp[e]];rfl⟩
    ·rw[aab e];have d:x∈t:=by
      rcases aag.mp h with z|z
      ·exact absurd z.symm e
      ·exact z
     obtain⟨r,f⟩:=c d;refine⟨r.map Nat.succ,?_⟩;rw[f,List.idxOf_cons,show(y==x)=false from by simp[e]];rfl
section
variable{P:ZE}{w:ZH}{K:Zs}{mg:Y1}{base:ZN}
structure Tn(K:Zs)(n:Nat)(H:Hp)(q a b:Zl)(f:Str)(r:List PyData)(xs:List V)(fs:List j9)(zs:List Int):Prop where
 rq:Rep K H (.ref q) (.tuple (.str f::r))
 td:TD (.tuple (.str f::r))
 sh:gb (.tuple (.str f::r))=true
 de:gY (.tuple (.str f::r))<=n
 ha:H a=some (.tup xs)
 pf:Paired (jw H) xs fs
 fl:fs.length<=4
 hb:H b=some (.tup (zs.map V.int))
 zl:zs.length=fs.length
inductive Ks(K:Zs)(n:Nat)(vs:List V)(H:Hp)(Q:VK)(E:XK):Prop
 |mk (q a b:Zl) (f nm:Str) (r:List PyData) (xs:List V) (fs:List j9) (zs:List Int):vs=[.ref q,.str nm,.ref a,.ref b]->Tn K n H q a b f r xs fs zs->(∀H',cu H H'->Q (.bl (gC nm fs zs n f r)) H')->Ks K n vs H Q E
noncomputable abbrev S7:List Str:=["_law_test_here","_law_title","_law_fields","_law_values_here"]
noncomputable abbrev Xr:List Str:=["_law_test_here","_law_title","_law_fields","_law_values_here","_law_both","_law_spots"]
def Ra:cI Xr S7 (bK (top 126)):=by ext
theorem Um (DL:fj K mg "_law_passes" (top 126) S7 f fd) (T:Txt K mg) (n:Nat):cz P w K mg base dM n f fd S7 (Ks K n):=by
 refine Nat.rec (motive:=λ n=>cz P w K mg base dM n f fd S7 (Ks K n)) ⟨λ _ _ _ _ h=>?_,λ _ _ _ _ _ _ _ _ _ _ _ _ _ h=>?_⟩ (λ n GL=>?_) n
 ·obtain ⟨q,a,b,f,nm,r,D,fs,c,_,h,_⟩:=h;exact absurd (aah (jY _) h.de) 02
 ·obtain ⟨q,a,b,f,nm,r,D,fs,c,_,h,_⟩:=h;exact absurd (aah (jY _) h.de) 02
 refine DL.F.ok Ra 01 λ am A ae s H vs Q E hr h=>?_;obtain ⟨q,a,b,f,nm,r,D,fs,c,rfl,h,k⟩:=h;refine ⟨_,(b7 (dU (dg g8 017 cZ (di _)) (c7 (cW (As (j4 DL GL hr (aK 017 (aK 003 (aK 010 (aK (pv 3) b_)))))))) d9) (b7 (dU (dg nA 017 (gF (aK cZ (aK cZ b_))) rfl) (b7 (ou (g:=eQ 0) (i:=4) (own:=["_law_part"]) (js:=[2,1,3]) (N':=["_law_part","_law_fields","_law_title","_law_values_here"]) (dJ.of (osc:=bK (top 126)) (N:=Xr) rfl rfl 01) rfl Ra.nd rfl rfl (mJ (lQ qx 06 (nH cj) n7)) (λ _ _ _ _ _=>(eX (i:=0) (show List.Nodup (["_law_part","_law_fields","_law_title","_law_values_here"]:Y2) by ext) rfl 012 013)) (λ _ _ _ _ _=>gw) (λ _ _ _ _ _=>gf GL hr rfl DL.mg DL.F.kp DL.b .nil dC (aK 06 (aK 010 (aK 003 (aK (pv 3) b_)))))) (c7 (cW (jX (dg g8 017 cZ (di _)) (du (uy rfl) 004 T.all G9 (aK (pv 4) b_)) (du (Cw rfl) 004 T.any QX (aK (pv 4) b_)))))) d9) (b7 (dU (dg g8 017 cZ (di _)) (c7 (cW j5)) d9) (b7 (dU (dg g8 017 cZ (di _)) (c7 (cW (iw g8 003 017 (di _)))) d9) (b7 (ou (g:=eQ 0) (i:=5) (own:=["_law_at"]) (js:=[2,0]) (N':=["_law_at","_law_fields","_law_test_here"]) (dJ.of (osc:=bK (top 126)) (N:=Xr) rfl rfl 01) rfl Ra.nd rfl rfl (jR rfl T.range (aK (du dO 004 T.len gK (aK 010 b_)) b_)) (λ _ _ _ _ _=>(eX (i:=0) (show List.Nodup (["_law_at","_law_fields","_law_test_here"]:Y2) by ext) rfl 012 013)) (λ _ _ _ _ _=>xu (dg (r:=ZW) g8 (d_ (r:=Ei K) eO (d_ (r:=Ei K) eO 003 06) cj) (d_ (r:=Ei K) eO 010 cj) (di _))) (λ _ _ _ _ _=>pv 0)) (b7 (dU (dg g8 (du dO 004 T.len gK (aK (pv 5) b_)) cj (di _)) (c7 (cW j5)) d9) (c7 (cW (jX (dg g8 017 cZ (di _)) (iw uL (d_ eO (pv 3) (d_ iH (pv 5) cj)) 017 (di _)) (iw g8 (d_ eO (pv 3) (d_ iH (pv 5) cj)) 017 (di _))))))))))),?_⟩
 try dsimp only [iD]
 obtain ⟨rq,td,sh,de,ha,pf,fl,hb,zl⟩:=h;have ao:=rq;have pl:=aaS pf;cases td with
 |node af lf nr tr=>
 cases rq with
 |@tup _ qs _ S rs=>
 obtain ⟨x0,I,rfl⟩:∃ x0 I,qs=x0::I:=by cases rs;exact ⟨7⟩
 obtain ⟨r0,rt⟩:Rep K H x0 (.str f)/\ie K H I r:=by cases rs with|cons a b=>exact ⟨a,b⟩
 cases r0;have hl:=rt.length;refine p6 λ M1 m1=>⟨9,q,_,7,8,S,dw (j:=0) rfl,8,9,?_⟩;unfold gC at k;have ins:∀ {n':Nat} {g:Str} {u:List PyData} {y:V} {L:Hp},cu H L->Rep K H y (.tuple (.str g::u))->TD (.tuple (.str g::u))->gb (.tuple (.str g::u))=true->gY (.tuple (.str g::u))≤n'->∃ q1,y=.ref q1/\Tn K n' L q1 a b g u D fs c:=by
  intro n' g u y L e ry t s d;cases ry with
  |@tup q1 z1 _ O t1=>exact ⟨q1,8,.tup (e.tup O) (t1.same e),t,s,d,e _ _ ha,gD pf λ _ _ z=>e _ _ z,fl,e _ _ hb,zl⟩
 rcases qj sh de with ⟨ak,al⟩|N
 ·obtain ⟨n1,n2,n3⟩:=uD ak;rw [aab n1,aab n2,aab n3] at k;refine gB (lg n1) (m1 _ _ (p6 λ M2 m2=>⟨9,q,_,7,8,S,dw (j:=0) rfl,01,λ t ht=>?_⟩));have C:cu H (upd H t (.tup [.str "and",.str "or"])):=cu.new ht;refine ⟨t,9,.inr (e_.of a_),8,8,9,?_⟩;rw [VN];generalize upd H t (.tup [.str "and",.str "or"])=W at C ⊢;have o:=C.tup S;refine gB (aaR λ z=>z.elim n2 n3) (m2 _ _ (p6 λ M3 m3=>⟨9,q,_,7,8,o,dw (j:=0) rfl,8,9,?_⟩));have lf:=Bh al;cases lf with
  |all=>exact iM 01 (k _ C)
  | @is x hx=>
    cases rt with|@cons y1 _ y2 _ r1 r2=>
    cases r2;cases r1;refine gB 01 (m3 _ _ (p6 λ M4 m4=>⟨9,q,_,7,8,o,dw (j:=0) rfl,8,9,iM 01 ?_⟩));refine ⟨9,9,q,_,7,8,o,dw (j:=1) rfl,8,?_⟩;have e:decide (V.str nm=V.str x)=pZ nm fs c "is" [.str x]:=by unfold pZ;rw [aab 01];simp
    show Q (.bl (decide (V.str nm=V.str x))) W;rw [e];exact k _ C
  | @num f' x i R hx hi=>
    cases rt with|@cons y1 _ y2 _ r1 r2=>
    cases r2 with|@cons y3 _ y4 _ r2 r3=>
    cases r3;cases r1;cases r2;have M:decide (V.str f=V.str "all")=false:=by rcases R with rfl|rfl <;> decide +kernel
    have e2:decide (V.str f=V.str "is")=false:=by rcases R with rfl|rfl <;> decide +kernel
    have e3:¬ f = "all":=by rcases R with rfl|rfl <;> decide +kernel
    unfold pZ at k;rw [aab e3] at k;dsimp only at k;have Z:=C _ _ ha;have big:200000≤sizeLine:=by decide
    refine gB M (m3 _ _ (p6 λ M4 m4=>⟨9,q,_,7,8,o,dw (j:=0) rfl,8,9,gB e2 (m4 _ _ (p6 λ M5 m5=>?_))⟩));refine ⟨9,a,D,8,.inr (e_.of Z),(D.length:Int),8,05,05,?_⟩;refine yw (lo:=0) (n:=D.length) (λ j J m G=>(∃ v,m=[v,some (.ref a),some (.ref q)])/\G=W/\J=(jz x 000 j).map λ j=>V.int (j:Nat)) 05 ⟨⟨none,8⟩,8,8⟩ ?_ ?_
    ·rintro j J m G hj ⟨⟨v,rfl⟩,rfl,rfl⟩ N hN;rw [show (0:Int)+(j:Int)=((j:Nat):Int) from ace _];have aa:=aaH hj;obtain ⟨⟨fn,ap,aq⟩,ai,b',e',aj⟩:=ji pf aa;have ah:=C _ _ aj;refine ⟨9,9,a,_,_,D[j],8,8,e_.of Z,dw aa,b',_,_,_,e',8,e_.of ah,dw (j:=0) rfl,9,q,_,7,8,o,dw (j:=1) rfl,8,9,?_⟩;have cd:decide (V.str fn=V.str x)=decide ((fs.map (·.1))[j]?=some x):=by rw [aaq,ai];simp
     have M:jz x 000 (j+1)=jz x 000 j++(if decide ((fs.map (·.1))[j]?=some x)=true then [j] else []):=by unfold jz;rw [List.range_succ,ack,List.filter_cons,List.filter_nil]
     refine (show (if decide (V.str fn=V.str x)=true then _ else _) from ?_);rw [cd];cases hd:decide ((fs.map (·.1))[j]?=some x) with
     | true=>rw [hd] at M;exact iM rfl ⟨9,hN _ _ _ ⟨⟨9⟩,8,by rw [M];simp⟩ 04⟩
     | false=>rw [hd] at M;exact gB rfl (hN _ _ _ ⟨⟨9⟩,8,by rw [M];simp⟩ 04)
    ·rintro J m G hw ⟨⟨v,rfl⟩,rfl,rfl⟩;rw [show D.length=(fs.map (·.1)).length by rw [aaf];exact pl] at hw ⊢;refine ⟨aah hw (by rw [aaf];omega),λ p hp=>m5 _ _ ?_⟩;obtain ⟨o1,o2⟩:=ye x 000;have O:cu G (upd G p (.lst ((jz x 000 (fs.map (·.1)).length).map λ j=>V.int (j:Nat)))):=cu.new hp;have B:(upd G p (.lst ((jz x 000 (fs.map (·.1)).length).map λ j=>V.int (j:Nat)))) p=some (.lst ((jz x 000 (fs.map (·.1)).length).map λ j=>V.int (j:Nat))):=a_;generalize upd G p (.lst ((jz x 000 (fs.map (·.1)).length).map λ j=>V.int (j:Nat)))=L at O B ⊢;have S1:=C.trans O;have U:=S1.tup S;have ab:=S1 _ _ hb;by_cases F:x∈fs.map (·.1)
     ·obtain ⟨rest,er⟩:=o2 F;rw [er,aay] at B;rw [aac F] at k;have il:(fs.map (·.1)).idxOf x<c.length:=by have:=List.idxOf_lt_length_iff.mpr F;rw [aaf] at this;omega
      have eg:c.getD ((fs.map (·.1)).idxOf x) 0=c[(fs.map (·.1)).idxOf x]:=by simp [acy,il]
      rw [eg] at k;have ac:rN (c.map V.int) (((fs.map (·.1)).idxOf x:Nat):Int)=some (.int c[(fs.map (·.1)).idxOf x]):=dw (by rw [aaq,aaH il];rfl);refine p6 λ M6 m6=>⟨9,p,9,.inl (eY.of B),8,9,gB (by simp;omega) (m6 _ _ ?_)⟩;refine ⟨9,q,_,7,8,U,dw (j:=0) rfl,8,9,?_⟩;rcases R with rfl|rfl
      ·refine iM 01 ?_;have:=k _ S1;rw [aac rfl] at this;exact ⟨9,9,p,_,7,8,eY.of B,dw (j:=0) rfl,b,_,7,8,e_.of ab,ac,9,q,_,7,8,U,dw (j:=2) rfl,7,8,this⟩
      ·refine gB 01 ?_;have:=k _ S1;rw [aab 01] at this;refine ⟨9,9,p,_,7,8,eY.of B,dw (j:=0) rfl,b,_,7,8,e_.of ab,ac,9,q,_,7,8,U,dw (j:=2) rfl,8,?_⟩;have e:decide (V.int c[(fs.map (·.1)).idxOf x]=V.int i)=decide (c[(fs.map (·.1)).idxOf x]=i):=by simp
       rw [e];exact this
     ·rw [o1 F,ab3] at B;rw [aab F] at k;exact p6 λ M6 m6=>⟨9,p,9,.inl (eY.of B),8,9,iM 01 (k _ S1)⟩
 ·rcases uQ N tr with ⟨rfl,g,u,rfl⟩|⟨R,g,u,h,v,rfl⟩
  ·rw [aac rfl] at k;cases rt with
   |@cons y1 _ y2 _ r1 r2=>
   cases r2;obtain ⟨q1,rfl,i1⟩:=ins (cu.refl _) r1 (tr _ 04) (N.sh _ 04) (N.de _ 04);exact iM 01 ⟨9,q,_,7,8,S,dw (j:=1) rfl,9,9,9,q1,a,b,g,nm,u,D,fs,c,8,i1,λ L M=>⟨9,k L M⟩⟩
  ·have n1:¬ f = "not":=by rcases R with rfl|rfl <;> decide +kernel
   refine gB (lg n1) (m1 _ _ (p6 λ M2 m2=>⟨9,q,_,7,8,S,dw (j:=0) rfl,01,λ t ht=>?_⟩));have C:cu H (upd H t (.tup [.str "and",.str "or"])):=cu.new ht;refine ⟨t,9,.inr (e_.of a_),8,8,9,?_⟩;rw [VN];generalize upd H t (.tup [.str "and",.str "or"])=W at C ⊢;have o:=C.tup S;refine iM (aa6 R) ⟨9,1,8,q,9,o,(λ e=>?_),λ p hp=>?_⟩
   ·rw [Cu] at e;have:=aaB List.length e;simp at this
   rw [Cu];have sp:e_ K (upd W p (.tup I)) p I:=e_.of a_;have O:cu W (upd W p (.tup I)):=cu.new hp;generalize upd W p (.tup I)=L at sp O ⊢;refine ⟨p,8,⟨_,sp⟩,?_⟩;refine iJ (xs:=I) (λ i J m G=>(∃ v,m=[v,some (.ref a),some (.str nm),some (.ref b)])/\cu L G/\J=(([gC nm fs c n g u,gC nm fs c n h v].take i).map V.bl)) (aah (show I.length≤2 by rw [hl];simp) 02) ⟨⟨none,8⟩,cu.refl _,8⟩ (λ i J m G _ ⟨_,X,_⟩=>X.tup sp) ?_ ?_
   ·rintro i y J m H2 hy ad ⟨⟨v',rfl⟩,X,rfl⟩ N' hN;obtain ⟨d,hd,ry⟩:=rt.get' hy;have me:=aap hd;have il:i<2:=(aaD.mp hd).1;obtain ⟨g',u',rfl,hi⟩:∃ g' u',d=.tuple (.str g'::u')/\([gC nm fs c n g u,gC nm fs c n h v]:List Bool)[i]?=some (gC nm fs c n g' u'):=by
     match i,il,hd with
     |0,_,hd=>exact ⟨g,u,by simpa using hd.symm,8⟩
     |1,_,hd=>exact ⟨h,v,by simpa using hd.symm,8⟩
    obtain ⟨q1,rfl,i1⟩:=ins ((C.trans O).trans X) ry (tr _ me) (N.sh _ me) (N.de _ me);refine ⟨9,9,9,9,q1,a,b,g',nm,u',D,fs,c,8,i1,λ H3 Y=>?_⟩;exact hN _ _ _ (by rw [aaw,ad];rfl) ⟨⟨9⟩,X.trans Y,by rw [aaW,hi];simp⟩
   ·rintro J m H2 ad ⟨⟨v',rfl⟩,X,rfl⟩;rw [abi (by rw [hl];simp),show ([gC nm fs c n g u,gC nm fs c n h v]:List Bool).map V.bl=[.bl (gC nm fs c n g u),.bl (gC nm fs c n h v)] from rfl];refine ⟨01,λ l ag=>?_⟩;have Y:cu H (upd H2 l (.lst [.bl (gC nm fs c n g u),.bl (gC nm fs c n h v)])):=((C.trans O).trans X).trans (cu.new ag);have h3:(upd H2 l (.lst [.bl (gC nm fs c n g u),.bl (gC nm fs c n h v)])) l=some (.lst [.bl (gC nm fs c n g u),.bl (gC nm fs c n h v)]):=a_;generalize upd H2 l (.lst [.bl (gC nm fs c n g u),.bl (gC nm fs c n h v)])=H3 at Y h3 ⊢;refine ⟨9,q,_,7,8,Y.tup S,dw (j:=0) rfl,8,9,?_⟩;rcases R with rfl|rfl
    ·rw [aab 01,aac rfl] at k;have:=k _ Y;refine iM 01 ⟨9,l,[gC nm fs c n g u,gC nm fs c n h v],8,eY.of h3,?_⟩;simpa using this
    ·rw [aab 01,aab 01,aac rfl] at k;have:=k _ Y;refine gB 01 ⟨9,l,[gC nm fs c n g u,gC nm fs c n h v],8,eY.of h3,?_⟩;simpa using this
end
noncomputable def SN(i:Nat):Stmt:=PySem.Challenge.pw_lanescribe_k44_whole_a_halt_stops_at_onc.main.body.getD i (.Pass ⟨0,0,0,0⟩)
def Ik(K:Zs)(b c cM a:Zl)(fs:List (Str×V))(wd:Str):Prop:=
 (mroIn K a (.ref b)=some true/\Ck K a "at"/\∃n:Int,fs.lookup ("at":Str)=some (.int n)/\n.natAbs.log2<1920/\("badvalue ":Str).length+(toString n:Str).length<=sizeLine/\wd=("badvalue ":Str)++(toString n:Str))\/
 (mroIn K a (.ref b)=some false/\mroIn K a (.ref c)=some true/\Ck K a "word"/\fs.lookup ("word":Str)=some (.str wd))\/
 (mroIn K a (.ref b)=some false/\mroIn K a (.ref c)=some false/\mroIn K a (.ref cM)=some true/\Ck K a "word"/\fs.lookup ("word":Str)=some (.str wd))
section
variable{P:ZE}{w:ZH}{K:Zs}{mg:Y1}{base:ZN}
def Gw(P:ZE)(w:ZH)(K:Zs)(i:Y1)(c:ZN)(k:Nat)(j m cM:Zl):Shared->List Env->Sp:=λs b vs H Q _=>∃g e f,vs=[.ref g]/\Thunk P w K i c s.heap H (frs b) k g H e f/\
 (∀v a,e v a->∀l,a l=none->Q (.ref l) (upd a l (.lst [.str "",v])))/\
 ∀cls dd a,f cls dd a->∃h d fs wd,cls=.ref h/\dd=some d/\a d=some (tV d fs)/\Ik K j m cM h fs wd/\∀l,a l=none->Q (.ref l) (upd a l (.lst [.str wd,.non]))
structure T7(K:Zs)(mg:Y1)(cB cS cM:Zl):Prop where
 str:mg "str"=none
 bv:mg "BadValue"=some (.ref cB)
 se:mg "ScribeError"=some (.ref cS)
 mi:mg "Missing"=some (.ref cM)
 xb:∃B n,mK K cB B n
 xs:∃B n,mK K cS B n
 xm:∃B n,mK K cM B n
def nP:cI ["_law_ask_here","_law_told","_law_word_here","e"] ["_law_ask_here"] (bK (SN 120)):=by ext
noncomputable def Rt{CX:wQ}{f N O cM:Zl}{Y:ZB}{k:Nat}(F:gU K "_law_ask" "_law_ask" (SN 120) f Y)(T:T7 K mg N O cM):uN P w K mg base CX (k+1) f Y ["_law_ask_here"] (Gw P w K mg base k N O cM):=by
 obtain⟨B1,n1,x1⟩:=T.xb;obtain⟨B2,n2,U⟩:=T.xs;obtain⟨B3,n3,x3⟩:=T.xm;refine F.okS nP (λs d vs H Q E h=>?_) (λZ A d s H vs Q E hr h=>?_)
 ·obtain⟨g,W,X,rfl,_⟩:=h;rfl
 ·obtain⟨g,W,X,rfl,Th,hv,he⟩:=h;refine⟨_,(b7 (j8 1 nP.nd iZ) (b7 (j8 2 nP.nd cZ) (b7 (Rk rfl rfl rfl (CK (k:=k) (i:=1) (j:=0) nP.nd rfl 012 rfl 012 rfl hr) (vU (i:=3) (C:=N) (B:=B1) (newId:=n1) nP.nd rfl rfl (λc o=>gG 004 T.bv rfl) (λc R o I dd r e hd b=>c7 (j8 2 nP.nd (eN l_ cZ (jh vY 004 T.str vC (aK (vO r e hd b (pv 3)) b_))))) (vU (i:=3) (C:=O) (B:=B2) (newId:=n2) nP.nd rfl rfl (λc o=>gG 004 T.se rfl) (λc R o I dd r e hd b=>c7 (j8 2 nP.nd (vO r e hd b (pv 3)))) (vU (i:=3) (C:=cM) (B:=B3) (newId:=n3) nP.nd rfl rfl (λc o=>gG 004 T.mi rfl) (λc R o I dd r e hd b=>c7 (j8 2 nP.nd (vO r e hd b (pv 3)))) Pr)))) (c7 (cW (gQ (aK 010 (aK 003 b_)))))))),?_⟩;have a:∀x y:V,[x,y].length<=sizeLine:=λx y=>by rw[sizeLine_eq];show 2<=16777216;decide
  refine⟨g,W,X,8,Th,λv S q=>?_,λcls dd S q=>?_⟩
  ·exact⟨9,9,a _ _,λp m=>hv v S q p m⟩
  ·obtain⟨I,J,fs,wd,rfl,rfl,hd,e,L⟩:=he _ _ _ q;refine⟨I,8,x1,?_⟩;rcases e with⟨D,G,n,l,z,zz,rfl⟩|⟨D,M,G,l⟩|⟨D,M,m3,G,l⟩
   ·refine⟨true,D,λc=>?_⟩;exact⟨9,J,fs,9,8,hd,G,l,n,8,z,7,8,zz,9,9,a _ _,λp m=>L p m⟩
   ·refine⟨false,D,U,true,M,λc=>?_⟩;exact⟨9,J,fs,9,8,hd,G,l,9,9,a _ _,λp m=>L p m⟩
   ·refine⟨false,D,U,false,M,x3,true,m3,λc=>?_⟩;exact⟨9,J,fs,9,8,hd,G,l,9,9,a _ _,λp m=>L p m⟩
end
abbrev Qy:Stmt:=inClass (top 2) 0
section
variable{P:ZE}{w:ZH}{K:Zs}{mg:Y1}{base:ZN}
def mR.ok1(F:mR K x b e v f m)(S:cI N i (bK e))(len:∀vs H Q E,j vs H Q E->vs.length=i.length)
 (d:∀(c:ZI)(A:ZO)(a:List Env)(s:Zp)(H:Hp)(vs:List V)(Q:VK)(E:XK),dX k (A.deeper (PyProof.Rows.envOfC b (bK e) s.heap.objs.size f c))->j vs H Q E->∃t,wR (iD l P w K mg base N b (bK e) f c A a s H E) (dq e) t/\t {nx:=λ_ n=>Q .non n,rt:=Q} (L2.start N vs) H):cz P w K mg base l (k+1) f m i j:=by
 obtain⟨oc,od,kV,p,y,an,c,z,q,rfl,r,h⟩:=F.ex;exact xf r h S len λA a s H vs Q E o g=>d c A a s H vs Q E o g
structure JT(K:Zs)(C:Zl):Prop where
 x:mK K C "ValueError" "ValueError.__new__"
 w:takerIn K C "word"=some none
noncomputable def We(K:Zs):Sp:=λvs H Q _=>∃(e C:Zl)(a:V)(b:V),vs=[.ref e,a,b]/\JT K C/\H e=some (jt e C none)/\∀c,H c=none->Q .non (upd (upd H e (jt e C (some c))) c (tV c [("word",b)]))
def Yp:cI ["self","words","word"] ["self","words","word"] (bK Qy):=by ext
structure Px(K:Zs)(mg:Y1):Prop where
 ve:mg "ValueError"=none
 fc:findCls K (.type "ValueError") (.type "type") "__init__"=some (.val (.builtin "ValueError.__init__"))
noncomputable def T8(F:mR K "__init__" "ScribeError.__init__" Qy m f i)(T:Px K mg):cz P w K mg base l 1 f i ["self","words","word"] (We K):=by refine F.ok1 Yp 01 λj A c s H vs Q E n h=>?_;obtain⟨e,C,a,b,rfl,d,g,k⟩:=h;refine⟨_,(b7 (eE (yh 004 T.ve 004 (by kernel_rfl) 01 T.fc (Ad add) (aK 06 (aK 003 b_)))) (c7 (K9 (B:="ValueError") (newId:="ValueError.__new__") 06 010 rfl))),?_⟩;exact⟨9,9,e,C,7,g,d.x,9,9,e,C,8,d.x,d.w,.inl ⟨g,k⟩⟩
structure Ua(K:Zs)(mg:Y1)(cn:Str)(C f:Zl):Prop where
 mg:mg cn=some (.ref C)
 sg:specialIn K (.ref C) "__getattribute__"=some (some (.builtin "type.__getattribute__"))
 rd:∃mc,readsIn K C mc=true/\findCls K (.ref C) mc "__init__"=some (.val (.ref f))
 kp:keepIn K (.ref f)=true
end
noncomputable def ZV(K:Zs)(wd:Str):Sp:=λvs H Q _=>∃(e C:Zl)(a:V),vs=[.ref e,a]/\JT K C/\H e=some (jt e C none)/\∀b,H b=none->Q .non (upd (upd H e (jt e C (some b))) b (tV b [("word",.str wd)]))
def rH(H:Hp)(fs:List (Str×V))(a:Zl)(b:Hp):Prop:=H a=none/\b=upd H a (tV a fs)
def Eo(d:H e=none)(c:upd H e (jt e C none) a=none):rH H fs a (Fw (upd (upd (upd H e (jt e C none)) e (jt e C (some a))) a (tV a fs)) e):=by
 have ne:a≠e:=λq=>by subst q;rw [a_]at c;cases c
 rw [b8 ne]at c;refine ⟨c,funext λb=>?_⟩;by_cases q:b=e
 ·subst q;rw [qK,b8 (aaC ne),d]
 ·rw [zT q];by_cases r:b=a
  ·subst r;rw [a_,a_]
  ·rw [b8 r,b8 q,b8 q,b8 r]
section
variable{P:ZE}{w:ZH}{K:Zs}{mg:Y1}{base:ZN}{Z:LC}
inductive Ow(Z:LC)(vs:List V)(H:Hp)(Q:VK)(E:XK):Prop
 |mk (c:Zl) (m:Cl):vs=[.ref c]->iQ Z H c m->sS m.nm m.fi->(∀c' H',H c'=none->cu H H'->iQ Z H' c' m->Q (.ref c') H')->Ow Z vs H Q E
def SJ:cI ["self","other"] ["self"] (bK (cM 2)):=by ext
noncomputable def UW(F:gU K "twin" "Claim.twin" (cM 2) f S)(L:LZ K mg Z)(I:Mk K Z.c R)(GI:cz P w K mg base dM 6 R y ["self","ticket","time","kind"] (K8 Z))(bI:Binds K y ["self","ticket","time","kind"] []):cz P w K mg base dM 8 f S ["self"] (Ow Z):=by
 refine F.ok SJ 01 λT A z s H vs Q E U h=>?_;obtain⟨c,m,rfl,cl,ko,q⟩:=h;refine⟨_,(b7 (j8 1 SJ.nd (kW (E:=E0) I GI U rfl L.cmg bI .nil dC (aK 03 (aK 03 (aK 03 b_))))) (b7 016 (b7 016 (c7 (cW 003))))),?_⟩;obtain⟨r,k,a,t,e,ka,M⟩:=id cl.ex;refine⟨9,c,Z.c,r,7,e,L.cc,L.c1,8,9,c,Z.c,r,7,e,L.cc,L.c2,8,9,c,Z.c,r,7,e,L.cc,L.c3,8,λx i j l B=>?_⟩;have X:cu H (upd (upd H i (.own x)) x (.ins Z.c i [])):=(cu.new l).trans (cu.new (by rw[b8 B.symm];exact j));refine⟨x,i,k,a,m.tk,m.tm,m.nm,m.fi,8,a_,ka.kt (cu.kt X),ko,λn C W=>⟨8,?_⟩⟩;have J:cu H n:=gn j l W;obtain⟨d,kk,N,v,O,G,_⟩:=C.ex;have Y:=J _ _ e;refine⟨9,c,Z.c,r,7,Y,L.cc,L.c4,8,9,x,Z.c,d,9,O,L.cc,L.c4,(show 5<1000 by decide),?_⟩;have ab:c≠x:=cg e j;have g:∀b u,H b=some u->(upd n x (.ins Z.c d (fX "filled" (.ref t) (wW (eZ m.tk m.tm m.nm m.fi) kk v)))) b=some u:=λb u o=>by rw[b8 (cg o j)];exact J _ _ o
 have p:gA Z.k (upd n x (.ins Z.c d (fX "filled" (.ref t) (wW (eZ m.tk m.tm m.nm m.fi) kk v)))) kk m.nm N m.fi:=G.kt (Kt.ins O L.ok.kc);have D:(upd n x (.ins Z.c d (fX "filled" (.ref t) (wW (eZ m.tk m.tm m.nm m.fi) kk v)))) x=some (.ins Z.c d (fX "filled" (.ref t) (wW (eZ m.tk m.tm m.nm m.fi) kk v))):=a_;generalize upd n x (.ins Z.c d (fX "filled" (.ref t) (wW (eZ m.tk m.tm m.nm m.fi) kk v)))=H2 at g p D|-;refine⟨9,c,Z.c,r,7,g _ _ e,L.cc,L.c5,8,9,x,Z.c,d,9,D,L.cc,L.c5,(show 5<1000 by decide),?_⟩;refine⟨9,q x _ j (λb u o=>by rw[b8 (cg o j)];exact g _ _ o) ⟨d,kk,N,t,a_,p.kt (Kt.ins D L.ok.kc),?_⟩⟩;rw[b8 (cg M j)];exact g _ _ M
structure HN(H:Hp)(s:PA):Prop where
 p:H s.p=none
 l:H s.l=none
 cs:∀c∈s.cs,H c=none
 nd:s.cs.Nodup
inductive Rn(Z:LC)(vs:List V)(H:Hp)(Q:VK)(E:XK):Prop
 |mk (s:PA) (m:Pg):vs=[.ref s.p]->iR Z H s m->s.cs.length<=900->(∀c∈m.cs,sS c.nm c.fi)->(∀s' H',HN H s'->cu H H'->iR Z H' s' m->Q (.ref s'.p) H')->Rn Z vs H Q E
def T4:cI ["self","other"] ["self"] (bK (gM 3)):=by ext
noncomputable def Vr(F:gU K "twin" "Page.twin" (gM 3) f fd)(L:LZ K mg Z)(MkP:Mk K Z.p fI)(FI:gU K "__init__" "Page.__init__" (gM 0) fI I)(bI:Binds K I ["self"] [])(MC:MD K Z.c "twin" "Claim.twin" (cM 2) ["self"] fC fdC)(GC:cz P w K mg base dM 8 fC fdC ["self"] (Ow Z)):cz P w K mg base dM 9 f fd ["self"] (Rn Z):=by
 have GI:cz P w K mg base dM 1 fI I ["self"] (Hy Z):=Gr FI L;refine F.ok T4 01 λad A ae s H vs Q E hr h=>?_;obtain⟨J,m,rfl,Y,hl,ko,q⟩:=h;have ah:dX 2 _:=hr.mono 02;refine⟨_,(b7 (j8 1 T4.nd (rR (E:=E0) MkP GI ah rfl L.pmg bI .nil dC)) (b7 (dz 003 (j0 (g:=eQ 0) (own:=["claim"]) (js:=[]) (N':=["claim"]) (dJ.of (osc:=bK (gM 3)) (N:=["self","other"]) rfl rfl 01) rfl (iW (cU 06 004)) (λ_ _ _ _ _=>(eX (i:=0) (show List.Nodup (["claim"]:Y2) by ext) rfl 012 013)) (λ_ _ _ _ _=>gw) (λ_ _ _ _ _=>eG (E:=E0) 06 L.cc MC.M GC hr MC.b .nil dC)) rfl) (b7 016 (b7 016 (c7 (cW 003)))))),?_⟩;refineλx l hx af ak=>?_;refine⟨x,l,8,a_,λl0 S am e1 ao k1=>⟨8,?_⟩⟩;have D:cu H S:=gn hx af k1;obtain⟨dx,M⟩:=Y.ob;have ai:=D _ _ M;have pl:=Y.cs.len;refine⟨9,J.p,Z.p,dx,7,ai,L.pc,L.p1,8,J.l,8,⟨_,eY.of (D _ _ Y.ls)⟩,?_⟩;refine iJ (xs:=J.cs.map V.ref) (λi ys n H'=>(∃v,n=[v])/\cu S H'/\∃a:List Addr,ys=a.map V.ref/\Pd (iQ Z H') a (m.cs.take i)/\(∀c∈a,S c=none)/\a.Nodup) (by rw[aaf];exact aah hl 02) ⟨⟨none,8⟩,cu.refl _,[],8,.nil,(λc h=>by cases h),abm⟩ (λi ys n H' _⟨_,e,_⟩=>eY.of (e _ _ (D _ _ Y.ls))) ?_ ?_
 ·rintro i y ys n O hy ab⟨⟨v,rfl⟩,R,a,rfl,B,nw,nd⟩;rw[aaq]at hy;obtain⟨c,W,rfl⟩:=abk.mp hy;obtain⟨mc,aa,rc⟩:=Y.cs.at W;obtain⟨dc,kc,ac,tc,ec,_⟩:=rc.ex;have S2:=D.trans R;intro N hN;refine⟨9,c,dc,9,S2 _ _ ec,8,c,mc,8,rc.same S2,ko mc (aap aa),λc' H3 T U ag=>hN _ _ _ (by rw[aaw,ab];rfl) ⟨⟨9⟩,R.trans U,a++[c'],by rw[aaA];rfl,?_,?_,?_⟩⟩
  ·rw[aaW,aa];exact Pd.app (.cons ag .nil) (B.map λ_ _ r=>r.same U)
  ·intro b C;rcases aam.mp C with C|C
   ·exact nw b C
   ·cases aal.mp C;exact dY R T
  ·refine abj.mpr ⟨nd,04,λb C d hd=>?_⟩;cases aal.mp hd;obtain⟨j,hj⟩:=aau.mp C;obtain⟨y,_,ry⟩:=B.at hj;obtain⟨_,_,_,_,eb,_⟩:=ry.ex;exact cg eb T
 ·rintro ys n O ab⟨⟨v,rfl⟩,R,a,rfl,B,nw,nd⟩;have al:a.length=m.cs.length:=by rw[B.len,aaV,aaf];omega
  refine⟨by rw[aaf];exact aah (show a.length<=900 by omega) 02,λp hp=>?_⟩;have B:Pd (iQ Z O) a m.cs:=by have:m.cs.take (J.cs.map V.ref).length=m.cs:=abi (by rw[aaf];omega);rw[this]at B;exact B
  have U:=cu.new (o:=.lst (a.map V.ref)) hp;have S3:cu S (upd O p (.lst (a.map V.ref))):=R.trans U;have X:(upd O p (.lst (a.map V.ref))) p=some (.lst (a.map V.ref)):=a_;have pd3:Pd (iQ Z (upd O p (.lst (a.map V.ref)))) a m.cs:=B.map λ_ _ r=>r.same U;have G:S p=none:=dY R hp;generalize upd O p (.lst (a.map V.ref))=H3 at S3 X pd3|-;have ex:=S3 _ _ e1;have nx:∀{b u},H b=some u->b≠x:=λe=>cg e hx;have aj:p≠x:=λz=>by rw[z,e1]at G;cases G
  refine⟨9,x,Z.p,l,9,ex,L.pc,L.p1,(show 3<1000 by decide),?_⟩;have SH:=D.trans S3;refine⟨9,J.p,Z.p,dx,7,(by rw[b8 (nx M)];exact SH _ _ M),L.pc,L.p2,8,9,x,Z.p,l,9,a_,L.pc,L.p2,(show 3<1000 by decide),?_⟩;refine⟨9,J.p,Z.p,dx,7,(by rw[b8 (nx M),b8 (nx M)];exact SH _ _ M),L.pc,L.p3,8,9,x,Z.p,l,9,a_,L.pc,L.p3,(show 3<1000 by decide),?_⟩;rw[iG,iG];refine⟨9,q ⟨x,p,a⟩ _ ⟨hx,dY D G,λc W=>dY D (nw c W),nd⟩ (λb u eb=>by rw[b8 (nx eb)];exact SH _ _ eb) ⟨⟨l,a_⟩,by rw[b8 aj];exact X,Pd.mapM (λc W y r=>r.kt (Kt.ins ex L.ok.kp) (b8 λz=>?_)) pd3⟩⟩;have:=nw c W;rw[z,e1]at this;cases this
end
noncomputable def Zf:List V->List V->List V
 |[x],[a,b,c]=>[x,a,b,c]
 |_,_=>[]
noncomputable def gL:List Value->List Value->List Value
 |[x],[a,b,c]=>[x,a,b,c]
 |_,_=>[]
section
variable{P:ZE}{w:ZH}{K:Zs}{mg:Y1}{base:ZN}{Z:LC}
structure JP(n:Ln):Prop where
 p1:2<=n.most
 p2:n.most<=16
 r1:5<=n.room
 r2:n.room<=12
 kd:∀p∈n.pg,∀c∈p.cs,sS c.nm c.fi
structure wU(H:Hp)(k:LA):Prop where
 o:∀b∈k.own,H b=none
 l:∀b∈k.ls,H b=none
def wU.back(s:cu H a)(n:wU a k):wU H k:=⟨λb m=>dY s (n.o b m),λb m=>dY s (n.l b m)⟩
inductive Rg(Z:LC)(vs:List V)(H:Hp)(Q:VK)(E:XK):Prop
 |mk (k:LA) (n:Ln):vs=[.ref k.a]->dN Z H k n->k.cs.length<=900->n.pg.length<=900->JP n->(∀k' H',wU H k'->k'.cs.length=k.cs.length->cu H H'->dN Z H' k' n->Q (.ref k'.a) H')->Rg Z vs H Q E
def T_:cI ["self","other"] ["self"] (bK (lM 21)):=by ext
theorem Tz{a:List PA}{s:PA}(h:s∈a):s.cs.length<=(a.flatMap (·.cs)).length:=by
 induction a with
 |nil=>cases h
 | cons q a b=>
   rw[aaI,aaw];rcases aag.mp h with rfl|h
   ·omega
   ·have:=b h;omega
theorem Nh:∀{c d:List PA}{e:List Pg},Pd (iR Z H) c e->Pd (iR Z f) d e->(d.flatMap (·.cs)).length=(c.flatMap (·.cs)).length
 |_,_,_,.nil,.nil=>rfl
 | _,_,_,.cons a r,.cons b t=>by rw[aaI,aaI,aaw,aaw,Nh r t,a.cs.len,b.cs.len]
structure Bc(H:Hp)(ps:List PA):Prop where
 nw:∀s∈ps,HN H s
 n1:(ps.map (·.p)).Nodup
 n2:(ps.map (·.l)).Nodup
 n3:(ps.flatMap (·.cs)).Nodup
def Bc.snoc(h:Bc p l)(C:Pd (iR Z i) l B)(v:cu p i)(n:HN i s):Bc p (l++[s]):=by
 have f:∀q∈l,∃m,iR Z i q m:=λq a=>by obtain⟨j,o⟩:=aau.mp a;obtain⟨m,_,r⟩:=C.at o;exact⟨m,r⟩
 refine⟨λq a=>?_,?_,?_,?_⟩
 ·rcases aam.mp a with a|a
  ·exact h.nw q a
  ·cases aal.mp a;exact⟨dY v n.p,dY v n.l,λc x=>dY v (n.cs c x),n.nd⟩
 ·rw[aaA];refine abj.mpr ⟨h.n1,04,λb g d hd=>?_⟩;obtain⟨q,a,rfl⟩:=aao.mp g;obtain⟨m,r⟩:=f q a;obtain⟨D,e⟩:=r.ob;cases aal.mp hd;exact cg e n.p
 ·rw[aaA];refine abj.mpr ⟨h.n2,04,λb g d hd=>?_⟩;obtain⟨q,a,rfl⟩:=aao.mp g;obtain⟨m,r⟩:=f q a;cases aal.mp hd;exact cg r.ls n.l
 ·rw[aa1,aaI,List.flatMap_nil,aa0];refine abj.mpr ⟨h.n3,n.nd,λb g d hd=>?_⟩;obtain⟨q,a,z⟩:=aaN.mp g;obtain⟨m,r⟩:=f q a;obtain⟨j,o⟩:=aau.mp z;obtain⟨y,_,A⟩:=r.cs.at o;obtain⟨_,_,_,_,e,_⟩:=A.ex;exact cg e (n.cs d hd)
noncomputable def Uz(F:gU K "twin" "Lane.twin" (lM 21) f fd)(L:LZ K mg Z)(MkL:Mk K Z.l fI)(GI:cz P w K mg base dM 3 fI fdI ["self","pages","room","over"] (JW Z))(kbL:kh K fdI ["self","pages","room","over"] ["pages","room","over"] gL Zf)(MP:MD K Z.p "twin" "Page.twin" (gM 3) ["self"] fP fdP)(GP:cz P w K mg base dM 9 fP fdP ["self"] (Rn Z)):cz P w K mg base dM 10 f fd ["self"] (Rg Z):=by
 refine F.ok T_ 01 λad A ae s H vs Q E hr h=>?_;obtain⟨k,n,rfl,U,kc,pl,sz,q⟩:=h;have am:dX 4 _:=hr.mono 02;refine⟨_,(b7 (j8 1 T_.nd (pD (E:=E0) MkL GI am rfl L.lmg kbL dC (jN 03 (jN 03 (jN 03 wz))))) (b7 (dz 003 (j0 (g:=eQ 0) (own:=["page"]) (js:=[]) (N':=["page"]) (dJ.of (osc:=bK (lM 21)) (N:=["self","other"]) rfl rfl 01) rfl (iW (cU 06 004)) (λ_ _ _ _ _=>(eX (i:=0) (show List.Nodup (["page"]:Y2) by ext) rfl 012 013)) (λ_ _ _ _ _=>gw) (λ_ _ _ _ _=>eG (E:=E0) 06 L.pc MP.M GP hr MP.b .nil dC)) rfl) (b7 016 (b7 016 (b7 016 (b7 016 (b7 016 (b7 016 (b7 016 (b7 016 (c7 (cW 003)))))))))))),?_⟩;obtain⟨C,e⟩:=U.ob;refine⟨9,k.a,Z.l,C,7,e,L.lc,L.l1,8,9,k.a,Z.l,C,7,e,L.lc,L.l2,8,9,k.a,Z.l,C,7,e,L.lc,L.l3,8,λx af hx ag aq=>?_⟩;refine⟨x,af,n.most,n.room,n.over,8,a_,sz.p1,sz.p2,sz.r1,sz.r2,λk0 S ah _ ai k1 kf _=>⟨8,?_⟩⟩;have J:cu H S:=gn hx ag k1;obtain⟨a,e1⟩:=ai.ob;rw[ah]at e1;have au:=U.pg.len;refine⟨9,k.a,Z.l,C,7,J _ _ e,L.lc,L.l4,8,k.lp,8,⟨_,eY.of (J _ _ U.ls)⟩,?_⟩;refine iJ (xs:=k.ps.map λs=>V.ref s.p) (λi ys I H'=>(∃v,I=[v])/\cu S H'/\∃d:List PA,(ys=d.map λs=>V.ref s.p)/\Pd (iR Z H') d (n.pg.take i)/\Bc S d) (by rw[aaf];exact aah (show k.ps.length<=900 by omega) 02) ⟨⟨none,8⟩,cu.refl _,[],8,.nil,⟨(λc h=>by cases h),abm,abm,abm⟩⟩ (λi ys I H' _⟨_,e,_⟩=>eY.of (e _ _ (J _ _ U.ls))) ?_ ?_
 ·rintro i y ys I W hy ac⟨⟨v,rfl⟩,X,d,rfl,M,G⟩;rw[aaq]at hy;obtain⟨sp,T,rfl⟩:=abk.mp hy;obtain⟨mp,ab,rp⟩:=U.pg.at T;obtain⟨dp,ep⟩:=rp.ob;have S2:=J.trans X;have mm:=aap ab;intro N hN;refine⟨9,sp.p,dp,9,S2 _ _ ep,8,sp,mp,8,rp.same S2,aah (Tz (aap T)) kc,sz.kd mp mm,λs' H3 aj Y ak=>hN _ _ _ (by rw[aaw,ac];rfl) ⟨⟨9⟩,X.trans Y,d++[s'],by rw[aaA];rfl,?_,G.snoc M X aj⟩⟩;rw[aaW,ab];exact Pd.app (.cons ak .nil) (M.map λ_ _ r=>r.same Y)
 ·rintro ys I W ac⟨⟨v,rfl⟩,X,d,rfl,M,G⟩;have M:Pd (iR Z W) d n.pg:=by have:n.pg.take (k.ps.map λs=>V.ref s.p).length=n.pg:=abi (by rw[aaf];omega);rw[this]at M;exact M
  have al:=M.len;refine⟨by rw[aaf];exact aah (show d.length<=900 by omega) 02,λp hp=>?_⟩;have Y:=cu.new (o:=.lst (d.map λs=>V.ref s.p)) hp;have S3:cu S (upd W p (.lst (d.map λs=>V.ref s.p))):=X.trans Y;have aa:(upd W p (.lst (d.map λs=>V.ref s.p))) p=some (.lst (d.map λs=>V.ref s.p)):=a_;have pd3:Pd (iR Z (upd W p (.lst (d.map λs=>V.ref s.p)))) d n.pg:=M.map λ_ _ r=>r.same Y;have R:S p=none:=dY X hp;have ao:∀s∈d,p≠s.l:=λs B=>by obtain⟨j,hj⟩:=aau.mp B;obtain⟨m,_,r⟩:=M.at hj;exact(cg r.ls hp).symm
  generalize upd W p (.lst (d.map λs=>V.ref s.p))=H3 at S3 aa pd3|-;have ex:=S3 _ _ e1;have nx:∀{b u},H b=some u->b≠x:=λe=>cg e hx;have l:k.a≠x:=nx e;have ap:p≠x:=λz=>by rw[z,e1]at R;cases R
  have SH:=J.trans S3;have O:=SH _ _ e;refine⟨9,x,Z.l,a,9,ex,L.lc,L.l4,015,?_⟩;refine⟨9,k.a,Z.l,C,7,(b8 l).trans O,L.lc,L.l5,8,9,x,Z.l,a,9,a_,L.lc,L.l5,015,?_⟩;rw[iG];refine⟨9,k.a,Z.l,C,7,(b8 l).trans O,L.lc,L.l6,8,9,x,Z.l,a,9,a_,L.lc,L.l6,015,?_⟩;rw[iG];refine⟨9,k.a,Z.l,C,7,(b8 l).trans O,L.lc,L.l7,8,9,x,Z.l,a,9,a_,L.lc,L.l7,015,?_⟩;rw[iG];refine⟨9,k.a,Z.l,C,7,(b8 l).trans O,L.lc,L.l8,8,9,x,Z.l,a,9,a_,L.lc,L.l8,015,?_⟩;rw[iG];refine⟨9,k.a,Z.l,C,7,(b8 l).trans O,L.lc,L.l9,8,9,x,Z.l,a,9,a_,L.lc,L.l9,015,?_⟩;rw[iG];refine⟨9,k.a,Z.l,C,7,(b8 l).trans O,L.lc,L.l10,8,9,x,Z.l,a,9,a_,L.lc,L.l10,015,?_⟩;rw[iG];refine⟨9,k.a,Z.l,C,7,(b8 l).trans O,L.lc,L.l11,8,9,x,Z.l,a,9,a_,L.lc,L.l11,015,?_⟩;rw[iG];refine⟨9,k.a,Z.l,C,7,(b8 l).trans O,L.lc,L.l12,8,9,x,Z.l,a,9,a_,L.lc,L.l12,015,?_⟩;rw[iG];have x1:∀{b},S b=none->b≠x:=λh z=>by rw[z,e1]at h;cases h
  refine⟨9,q ⟨x,p,d⟩ _ ⟨λb D=>?_,λb D=>?_⟩ (Nh U.pg pd3) (λb u eb=>by rw[b8 (nx eb)];exact SH _ _ eb) ⟨⟨a,a_⟩,by show upd _ x _ p=_;rw[b8 ap];exact aa,Pd.mapM (λs B y r=>?_) pd3,G.n1,?_,G.n3⟩⟩
  ·rcases aag.mp D with rfl|D
   ·exact hx
   ·rcases aam.mp D with D|D
    ·obtain⟨s,B,rfl⟩:=aao.mp D;exact dY J (G.nw s B).p
    ·obtain⟨s,B,T⟩:=aaN.mp D;exact dY J ((G.nw s B).cs b T)
  ·rcases aag.mp D with rfl|D
   ·exact dY J R
   ·obtain⟨s,B,rfl⟩:=aao.mp D;exact dY J (G.nw s B).l
  ·exact r.kt (Kt.ins ex L.ok.kl) (b8 (x1 (G.nw s B).p)) (b8 (x1 (G.nw s B).l)) λc T=>b8 (x1 ((G.nw s B).cs c T))
  ·show(p::d.map (·.l)).Nodup;refine aaK.mpr ⟨λm=>?_,G.n2⟩;obtain⟨s,B,e⟩:=aao.mp m;exact ao s B e.symm
end
abbrev tM(j:Nat):Stmt:=inClass (top 89) j
structure TZ(K:Zs)(mg:Y1)(C:Zl):Prop where
 c:uC K C
 mg:mg "Track"=some (.ref C)
 t1:eH K C "written"
 t2:eH K C "clock"
 t3:eH K C "test"
noncomputable def RP(l:Zl)(a:Int)(t:V):List (Str×V):=[("written",.ref l),("clock",.int a),("test",t)]
structure Tk where
 ln:Ln
 ck:Int
 ts:PyData
structure TA where
 a:Addr
 k:LA
structure lK(Z:LC)(C:Zl)(K:Zs)(H:Hp)(s:TA)(t:Tk):Prop where
 ob:∃dx v,H s.a=some (.ins C dx (RP s.k.a t.ck v))/\Rep K H v t.ts
 ln:dN Z H s.k t.ln
structure pP(H:Hp)(s:TA):Prop where
 a:H s.a=none
 k:wU H s.k
section
variable{P:ZE}{w:ZH}{K:Zs}{mg:Y1}{base:ZN}{Z:LC}{C:Zl}
noncomputable def tX:PyData:=.tuple [.str "all"]
inductive JD(Z:LC)(C:Zl)(K:Zs)(vs:List V)(H:Hp)(Q:VK)(E:XK):Prop
 |mk (o dx l:Zl):vs=[.ref o,.ref l]->H o=some (.ins C dx [])->(∀v H',H' o=some (.ins C dx (RP l 0 v))->Rep K H' v tX->(∀b u,H b=some u->b≠o->H' b=some u)->Q .non H')->JD Z C K vs H Q E
def XR:cI ["self","written"] ["self","written"] (bK (tM 0)):=by ext
def Oc(F:gU K "__init__" "Track.__init__" (tM 0) f i)(TZ:TZ K mg C):cz P w K mg base dM 1 f i ["self","written"] (JD Z C K):=by
 refine F.ok XR 01 λj A c s H vs Q E m h=>?_;obtain⟨o,g,l,rfl,ho,k⟩:=h;refine⟨_,(b7 (dz 06 003 rfl) (b7 (dz 06 cj rfl) (c7 (dz 06 (gF (aK cZ b_)) rfl)))),?_⟩;refine⟨9,9,o,C,g,[],8,ho,TZ.c,TZ.t1,(show 0<1000 by decide),?_⟩;refine⟨9,o,C,g,9,a_,TZ.c,TZ.t2,(show 1<1000 by decide),?_⟩;rw[iG];refine⟨01,λt a=>?_⟩;have not:o≠t:=λz=>by rw[<-z,a_]at a;cases a
 refine⟨9,o,C,g,[("written",.ref l),("clock",.int 0)],8,(by rw[b8 not];exact a_),TZ.c,TZ.t3,(show 2<1000 by decide),?_⟩;refine k (.ref t) _ a_ (.tup (e_.of (by rw[b8 not.symm];exact a_)) (.cons (.str _) .nil)) λb u e d=>?_;have nt:b≠t:=λz=>by rw[<-z,b8 d,e]at a;cases a
 rw[b8 d,b8 nt,b8 d];exact e
inductive RC(Z:LC)(C:Zl)(K:Zs)(vs:List V)(H:Hp)(Q:VK)(E:XK):Prop
 |mk (s:TA) (t:Tk):vs=[.ref s.a]->lK Z C K H s t->s.k.cs.length<=900->t.ln.pg.length<=900->JP t.ln->(∀s' H',pP H s'->s'.k.cs.length=s.k.cs.length->cu H H'->lK Z C K H' s' t->Q (.ref s'.a) H')->RC Z C K vs H Q E
def Vs:cI ["self","other"] ["self"] (bK (tM 2)):=by ext
noncomputable def Ub(F:gU K "twin" "Track.twin" (tM 2) f W)(L:LZ K mg Z)(TZ:TZ K mg C)(nC:Z.l≠C/\Z.p≠C/\Z.c≠C/\Z.k≠C)(J:Mk K C I)(FI:gU K "__init__" "Track.__init__" (tM 0) I c)(bI:Binds K c ["self","written"] [])(X:MD K Z.l "twin" "Lane.twin" (lM 21) ["self"] U j)(GL:cz P w K mg base dM 10 U j ["self"] (Rg Z)):cz P w K mg base dM 11 f W ["self"] (RC Z C K):=by
 have GI:cz P w K mg base dM 1 I c ["self","written"] (JD Z C K):=Oc FI TZ;refine F.ok Vs 01 λm A n s H vs Q E M h=>?_;obtain⟨i,t,rfl,tk,kc,pl,sz,q⟩:=h;have z:dX 2 _:=M.mono 02;refine⟨_,(b7 (j8 1 Vs.nd (kW (E:=E0) J GI z rfl TZ.mg bI .nil dC (aK (eG (E:=E0) 03 L.lc X.M GL M X.b .nil dC) b_))) (b7 016 (b7 016 (c7 (cW 003))))),?_⟩;obtain⟨⟨G,v,e,rv⟩,T⟩:=tk;obtain⟨dl,el⟩:=T.ob;refine⟨9,i.a,C,G,7,e,TZ.c,TZ.t1,8,i.k.a,dl,9,el,8,i.k,t.ln,8,T,kc,pl,sz,λl N Y c1 O o=>?_⟩;refineλx a p r aa=>?_;refine⟨x,a,l.a,8,a_,λv2 y e2 r2 k2=>⟨8,?_⟩⟩;have R:cu N y:=gn p r k2;have B:=O.trans R;refine⟨9,i.a,C,G,7,B _ _ e,TZ.c,TZ.t2,8,9,x,C,a,9,e2,TZ.c,TZ.t2,(show 3<1000 by decide),?_⟩;have g:H x=none:=dY O p;have S:∀{b u},H b=some u->b≠x:=λe=>cg e g;refine⟨9,i.a,C,G,7,(by rw[b8 (S e)];exact B _ _ e),TZ.c,TZ.t3,8,9,x,C,a,9,a_,TZ.c,TZ.t3,(show 3<1000 by decide),?_⟩;rw[iG];have up:∀b u,H b=some u->upd y x (.ins C a (RP l.a t.ck v)) b=some u:=λb u d=>by rw[b8 (S d)];exact B _ _ d
 have D:∀b u,N b=some u->upd y x (.ins C a (RP l.a t.ck v)) b=some u:=λb u d=>by rw[b8 (cg d p)];exact R _ _ d
 exact⟨9,q ⟨x,l⟩ _ ⟨g,Y⟩ c1 up ⟨⟨a,v,a_,rv.same up⟩,o.same D⟩⟩
end
abbrev sM(j:Nat):Stmt:=inClass (top 90) j
structure SZ(K:Zs)(mg:Y1)(C:Zl):Prop where
 c:uC K C
 dict:mg "dict"=none
 mg:mg "Stand"=some (.ref C)
 s1:eH K C "pages"
 s2:eH K C "room"
 s3:eH K C "known"
 s4:eH K C "tracks"
 s5:eH K C "counters"
 s6:eH K C "still"
 s7:eH K C "halting"
noncomputable def yO(p r:Int)(dk a c:Zl)(b:Bool)(h:V):List (Str×V):=[("pages",.int p),("room",.int r),("known",.ref dk),("tracks",.ref a),("counters",.ref c),("still",.bl b),("halting",h)]
section
variable{P:ZE}{w:ZH}{K:Zs}{mg:Y1}{base:ZN}{Z:LC}{C S:Zl}
structure Zm(H:Hp)(dk dt dc:Zl):Prop where
 k:H dk=none
 t:H dt=none
 c:H dc=none
inductive Ke(S:Zl)(vs:List V)(H:Hp)(Q:VK)(E:XK):Prop
 |mk (o dx:Zl) (p r:Int):vs=[.ref o,.int p,.int r]->H o=some (.ins S dx [])->2<=p->p<=16->5<=r->r<=12->(∀dk dt dc H',Zm H dk dt dc->H' o=some (.ins S dx (yO p r dk dt dc false .non))->H' dk=some (.dK [])->H' dt=some (.dK [])->H' dc=some (.dK [])->dk≠dt->dk≠dc->dt≠dc->(∀b u,H b=some u->b≠o->H' b=some u)->Q .non H')->Ke S vs H Q E
def YK:cI ["self","pages","room"] ["self","pages","room"] (bK (sM 0)):=by ext
noncomputable def VP(F:gU K "__init__" "Stand.__init__" (sM 0) f L)(SZ:SZ K mg S)(M:Ia mg)(N:fj K mg "need_pages" (top 52) ["pages"] I x)(O:fj K mg "need_room" (top 53) ["room"] J y):cz P w K mg base dM 2 f L ["self","pages","room"] (Ke S):=by
 have T:cz P w K mg base dM 1 I x ["pages"] JH:=O2 N.F M;have U:cz P w K mg base dM 1 J y ["room"] LR:=Ny O.F M;refine F.ok YK 01 λR A D s H vs Q E G h=>?_;obtain⟨o,j,p,r,rfl,ho,W,X,r1,r2,q⟩:=h;refine⟨_,(b7 (eE (j4 N T G (aK 003 b_))) (b7 (eE (j4 O U G (aK 010 b_))) (b7 (dz 06 003 rfl) (b7 (dz 06 010 rfl) (b7 (dz 06 rZ rfl) (b7 (dz 06 rZ rfl) (b7 (dz 06 rZ rfl) (b7 (dz 06 j5 rfl) (c7 (dz 06 iZ rfl)))))))))),?_⟩;refine⟨9,p,8,W,X,?_⟩;refine⟨9,r,8,r1,r2,?_⟩;refine⟨9,9,o,S,j,[],8,ho,SZ.c,SZ.s1,(show 0<1000 by decide),?_⟩;refine⟨9,9,o,S,j,9,a_,SZ.c,SZ.s2,(show 1<1000 by decide),?_⟩;rw[iG];refineλdk hk=>?_;have d:o≠dk:=cg a_ hk;refine⟨9,o,S,j,[("pages",.int p),("room",.int r)],8,(by rw[b8 d];exact a_),SZ.c,SZ.s3,(show 2<1000 by decide),?_⟩;refineλc m=>?_;have nt:o≠c:=cg a_ m;refine⟨9,o,S,j,[("pages",.int p),("room",.int r),("known",.ref dk)],8,(by rw[b8 nt];exact a_),SZ.c,SZ.s4,(show 3<1000 by decide),?_⟩;refineλz l=>?_;have n:o≠z:=cg a_ l;refine⟨9,o,S,j,[("pages",.int p),("room",.int r),("known",.ref dk),("tracks",.ref c)],8,(by rw[b8 n];exact a_),SZ.c,SZ.s5,(show 4<1000 by decide),?_⟩;refine⟨9,o,S,j,9,a_,SZ.c,SZ.s6,(show 5<1000 by decide),?_⟩;rw[iG];refine⟨9,o,S,j,9,a_,SZ.c,SZ.s7,(show 6<1000 by decide),?_⟩;rw[iG];have v:H dk=none:=by rw[b8 d.symm]at hk;exact hk
 have a:dk≠c:=cg (show upd (upd _ dk _) o _ dk=some _ by rw[b8 d.symm];exact a_) m;rw[b8 nt.symm,b8 a.symm,b8 nt.symm]at m;have g:dk≠z:=cg (show upd (upd (upd (upd _ dk _) o _) c _) o _ dk=some _ by rw[b8 d.symm,b8 a,b8 d.symm];exact a_) l;have i:c≠z:=cg (show upd (upd _ c _) o _ c=some _ by rw[b8 nt.symm];exact a_) l;rw[b8 n.symm,b8 i.symm,b8 n.symm,b8 g.symm,b8 n.symm]at l;refine q dk c z _ ⟨v,m,l⟩ a_ ?_ ?_ ?_ a g i λb u e B=>?_
 ·rw[b8 d.symm,b8 g,b8 d.symm,b8 a,b8 d.symm];exact a_
 ·rw[b8 nt.symm,b8 i,b8 nt.symm];exact a_
 ·rw[b8 n.symm];exact a_
 ·rw[b8 B,b8 (cg e l),b8 B,b8 (cg e m),b8 B,b8 (cg e v),b8 B];exact e
end
def Wv(S:Zl)(o:HO):Prop:=(∃a,o=.dK a\/∃b,o=.frz b (.dK a))\/∃c fs,o=.ins S c fs
def gJ(S:Zl)(H a:Hp):Prop:=∀b u,H b=some u->¬Wv S u->a b=some u
structure yN(Z:LC)(C S:Zl):Prop where
 k:Z.k≠S
 c:Z.c≠S
 p:Z.p≠S
 l:Z.l≠S
 t:C≠S
section
variable{K:Zs}{Z:LC}{C S:Zl}{H H' H'':Hp}
def FZ:¬Wv S (.tup a):=by rintro(⟨_,h|⟨_,h⟩⟩|⟨_,_,h⟩)<;>cases h
def zq:¬Wv S (.lst a):=by rintro(⟨_,h|⟨_,h⟩⟩|⟨_,_,h⟩)<;>cases h
def rD(ne:D≠S):¬Wv S (.ins D a fs):=by
 rintro(⟨_,h|⟨_,h⟩⟩|⟨_,_,h⟩)
 ·cases h
 ·cases h
 ·cases h;exact ne rfl
def gJ.trans(a:gJ S H H')(b:gJ S H' H''):gJ S H H'':=λc u e n=>b c u (a c u e n) n
def gJ.put(e:H p=some o)(d:Wv S o):gJ S H (upd H p a):=λb u h n=>by rw[b8 (λz=>by subst z;rw[e]at h;cases h;exact n d)];exact h
def gJ.kt(ne:Z.k≠S)(s:gJ S H H'):Kt Z H H':=⟨λb a e=>s _ _ e FZ,λb c fs e=>s _ _ e (rD ne)⟩
def gJ.rep(s:gJ S H H')(h:Rep K H v d):Rep K H' v d:=by
 refine h.map (λa b z=>?_) (λa b z=>?_)
 ·rcases z with(z|⟨o,z⟩)|z
  ·exact .inl (.inl (s _ _ z FZ))
  ·exact .inl (.inr ⟨o,s _ _ z (by rintro(⟨_,h|⟨_,h⟩⟩|⟨_,_,h⟩)<;>cases h)⟩)
  ·exact .inr z
 ·rcases z with(z|⟨o,z⟩)|z
  ·exact .inl (.inl (s _ _ z zq))
  ·exact .inl (.inr ⟨o,s _ _ z (by rintro(⟨_,h|⟨_,h⟩⟩|⟨_,_,h⟩)<;>cases h)⟩)
  ·exact .inr z
def iQ.sd(h:iQ Z H c m)(ne:yN Z C S)(s:gJ S H H'):iQ Z H' c m:=by obtain⟨d,k,a,t,b,_⟩:=h.ex;exact h.kt (s.kt ne.k) (by rw[b];exact s _ _ b (rD ne.c))
def iR.sd(h:iR Z H q m)(ne:yN Z C S)(s:gJ S H H'):iR Z H' q m:=by obtain⟨a,b⟩:=h.ob;exact⟨⟨a,s _ _ b (rD ne.p)⟩,s _ _ h.ls zq,h.cs.map λ_ _ r=>r.sd ne s⟩
def dN.sd(h:dN Z H k n)(ne:yN Z C S)(s:gJ S H H'):dN Z H' k n:=by obtain⟨a,b⟩:=h.ob;exact⟨⟨a,s _ _ b (rD ne.l)⟩,s _ _ h.ls zq,h.pg.map λ_ _ r=>r.sd ne s,h.n1,h.n2,h.n3⟩
def lK.sd(h:lK Z C K H q t)(ne:yN Z C S)(s:gJ S H H'):lK Z C K H' q t:=by obtain⟨a,v,e,r⟩:=h.ob;exact⟨⟨a,v,s _ _ e (rD ne.t),s.rep r⟩,h.ln.sd ne s⟩
def lK.same(h:lK Z C K H q t)(s:cu H H'):lK Z C K H' q t:=by obtain⟨a,v,e,r⟩:=h.ob;exact⟨⟨a,v,s _ _ e,r.same s⟩,h.ln.same s⟩
mutual
noncomputable def o9:PyData->Bool
 |.tuple a=>sI a
 |.list _=>false
 |_=>true
noncomputable def sI:List PyData->Bool
 |[]=>true
 |d::ds=>o9 d&&sI ds
end
mutual
theorem lO (f:∀a c,e_ K H a c->e_ K H' a c):∀{v:V}{d:PyData},Rep K H v d->o9 d=true->Rep K H' v d
 |_,_,.non,_=>.non
 |_,_,.bl b,_=>.bl b
 |_,_,.int i,_=>.int i
 |_,_,.str x,_=>.str x
 |_,_,.tup h r,n=>.tup (f _ _ h) (uK f r (by simpa[o9]using n))
 |_,_,.lst h r,n=>by simp[o9]at n
theorem uK (f:∀a b,e_ K H a b->e_ K H' a b):∀{v:List V}{d:List PyData},ie K H v d->sI d=true->ie K H' v d
 |_,_,.nil,_=>.nil
 | _,_,.cons h r,n=>by simp[sI]at n;exact .cons (lO f h n.1) (uK f r n.2)
end
noncomputable def TA.all(t:TA):List Addr:=t.a::(t.k.own++t.k.ls)
def Apart(t u:TA):Prop:=∀b∈t.all,b∉u.all
def Apart.symm(h:Apart t u):Apart u t:=λb m z=>h b z m
theorem Ir:∀{a:List TA},a.Pairwise Apart->∀(j k:Nat)(u v:TA),j≠k->a[j]?=some u->a[k]?=some v->Apart u v
 |[],_,_,_,_,_,_,h,_=>by simp at h
 |t::a,p,0,0,_,_,ne,_,_=>absurd rfl ne
 | t::a,p,0,k+1,u,v,ne,h1,h2=>by simp at h1;subst h1;exact(ac7.mp p).1 v (aap (by simpa using h2))
 | t::a,p,j+1,0,u,v,ne,h1,h2=>by simp at h2;subst h2;exact Apart.symm ((ac7.mp p).1 u (aap (by simpa using h1)))
 |t::a,p,j+1,k+1,u,v,ne,h1,h2=>Ir (ac7.mp p).2 j k u v (λe=>ne (by rw[e])) (by simpa using h1) (by simpa using h2)
def pP.all(n:pP H t):∀b∈t.all,H b=none:=λb m=>by
 rcases aag.mp m with rfl|m
 ·exact n.a
 ·rcases aam.mp m with m|m
  ·exact n.k.o b m
  ·exact n.k.l b m
def pP.back(s:cu H H')(n:pP H' t):pP H t:=⟨dY s n.a,n.k.back s⟩
end
structure Sd where
 pg:Int
 rm:Int
 kn:List (Str×List j9)
 tr:List (Str×Tk)
 still:Bool
 halt:PyData
structure SA where
 a:Addr
 dk:Addr
 dt:Addr
 dc:Addr
 ks:List Addr
 ts:List TA
noncomputable def CQ(b:YI)(c:List (Str×List j9)):List (Key×V):=List.zipWith (λa p=>(Sum.inr p.1,V.ref a)) b c
noncomputable def mC(a:List TA)(tr:List (Str×Tk)):List (Key×V):=List.zipWith (λt p=>(Sum.inr p.1,V.ref t.a)) a tr
structure iC(Z:LC)(C S:Zl)(K:Zs)(H:Hp)(s:SA)(d:Sd):Prop where
 ob:∃dx v,H s.a=some (.ins S dx (yO d.pg d.rm s.dk s.dt s.dc d.still v))/\Rep K H v d.halt
 ek:H s.dk=some (.dK (CQ s.ks d.kn))
 kn:Pd (λa p=>∃t,gA Z.k H a p.1 t p.2) s.ks d.kn
 et:H s.dt=some (.dK (mC s.ts d.tr))
 tr:Pd (λt p=>lK Z C K H t p.2) s.ts d.tr
 ec:H s.dc=some (.dK [])
 nm:(d.tr.map (·.1)).Nodup
 nk:(d.kn.map (·.1)).Nodup
 dj:∀(j k:Nat)(u v:TA),j≠k->s.ts[j]?=some u->s.ts[k]?=some v->Apart u v
 nh:o9 d.halt=true
 nt:∀p∈d.tr,o9 p.2.ts=true
 n1:s.dk≠s.dt
 n2:s.dk≠s.dc
 n3:s.dt≠s.dc
structure UJ(d:Sd):Prop where
 p1:2<=d.pg
 p2:d.pg<=16
 r1:5<=d.rm
 r2:d.rm<=12
 tl:d.tr.length<=6
 ln:∀p∈d.tr,JP p.2.ln/\p.2.ln.pg.length<=900
def Bm(h:a.length=tr.length):(mC a tr).length=tr.length:=by simp[mC,h]
theorem Jl(h:ts.length=tr.length):(mC ts tr).map (·.1)=tr.map λp=>Sum.inr p.1:=by
 induction ts generalizing tr with
 | nil=>
   cases tr with
   |nil=>rfl
   |cons _ _=>simp at h
 | cons t ts ih=>
   cases tr with
   |nil=>simp at h
   | cons p tr=>have:=ih (tr:=tr) (by simpa using h);unfold mC at this|-;rw[abR,aay,aay,this]
def Ly(h:a.length=tr.length):mC (a++b) (tr++c)=mC a tr++mC b c:=by unfold mC;rw[ac8 h]
theorem Pn{a:List TA}{tr:List (Str×Tk)}{i:Nat}{x:Key×V}(h:(mC a tr)[i]?=some x):∃t p,a[i]?=some t/\tr[i]?=some p/\x=(Sum.inr p.1,V.ref t.a):=by
 unfold mC at h;rw[List.getElem?_zipWith]at h;cases h1:a[i]? with
 |none=>rw[h1]at h;cases h
 | some t=>
   cases h2:tr[i]? with
   |none=>rw[h1,h2]at h;cases h
   | some p=>rw[h1,h2]at h;cases h;exact⟨t,p,8,8,8⟩
def W7:PE X e (λ_ _ _=>False):=λ_ _ _ _ _ _ h=>h.elim
def Vy:List.Nodup (["name","track"]:Y2):=by ext
def UG:List.Nodup (["name","tally"]:Y2):=by ext
section
variable{P:ZE}{w:ZH}{K:Zs}{mg:Y1}{base:ZN}{Z:LC}{C S:Zl}
def dN.here(h:dN Z H k n):∀b∈k.own++k.ls,∃u,H b=some u:=λb m=>by
 have f:∀s∈k.ps,∃y,iR Z H s y:=λs d=>by obtain⟨i,g⟩:=aau.mp d;obtain⟨y,_,r⟩:=h.pg.at g;exact⟨y,r⟩
 rcases aam.mp m with m|m
 ·rcases aag.mp m with rfl|m
  ·obtain⟨j,e⟩:=h.ob;exact⟨_,e⟩
  ·rcases aam.mp m with m|m
   ·obtain⟨s,d,rfl⟩:=aao.mp m;obtain⟨y,r⟩:=f s d;obtain⟨j,e⟩:=r.ob;exact⟨_,e⟩
   ·obtain⟨s,d,l⟩:=aaN.mp m;obtain⟨y,r⟩:=f s d;obtain⟨i,g⟩:=aau.mp l;obtain⟨c,_,o⟩:=r.cs.at g;obtain⟨j,k,a,t,e,_⟩:=o.ex;exact⟨_,e⟩
 ·rcases aag.mp m with rfl|m
  ·exact⟨_,h.ls⟩
  ·obtain⟨s,d,rfl⟩:=aao.mp m;obtain⟨y,r⟩:=f s d;exact⟨_,r.ls⟩
def lK.here(h:lK Z C K H s t):∀b∈s.all,∃u,H b=some u:=λb m=>by
 rcases aag.mp m with rfl|m
 ·obtain⟨a,v,e,_⟩:=h.ob;exact⟨_,e⟩
 ·exact h.ln.here b m
structure Hw(H:Hp)(s:SA):Prop where
 a:H s.a=none
 k:H s.dk=none
 t:H s.dt=none
 c:H s.dc=none
 ts:∀t∈s.ts,pP H t
inductive R1(Z:LC)(C S:Zl)(K:Zs)(vs:List V)(H:Hp)(Q:VK)(E:XK):Prop
 |mk (s:SA) (d:Sd):vs=[.ref s.a]->iC Z C S K H s d->UJ d->(∀t∈s.ts,t.k.cs.length<=900)->(∀s' H',Hw H s'->s'.ks=s.ks->Pd (λ(t u:TA)=>t.k.cs.length=u.k.cs.length) s'.ts s.ts->cu H H'->iC Z C S K H' s' d->Q (.ref s'.a) H')->R1 Z C S K vs H Q E
def Tw:cI ["self","other"] ["self"] (bK (sM 5)):=by ext
noncomputable def U4(F:gU K "twin" "Stand.twin" (sM 5) f fd)(SZ:SZ K mg S)(TZ:TZ K mg C)(ne:yN Z C S)(MkS:Mk K S fI)(bI:Binds K fdI ["self","pages","room"] [])(GI:cz P w K mg base dM 2 fI fdI ["self","pages","room"] (Ke S))(MT:MD K C "twin" "Track.twin" (tM 2) ["self"] fT fdT)(GT:cz P w K mg base dM 11 fT fdT ["self"] (RC Z C K)):cz P w K mg base dM 12 f fd ["self"] (R1 Z C S K):=by
 refine F.ok Tw 01 λal A am s H vs Q E hr h=>?_;obtain⟨a,d,rfl,st,sz,cl,q⟩:=h;have aw:dX 3 _:=hr.mono 02;refine⟨_,(b7 (j8 1 Tw.nd (kW (E:=E0) MkS GI aw rfl SZ.mg bI .nil dC (aK 03 (aK 03 b_)))) (b7 (dz 003 (jh xr 004 SZ.dict JX (aK 03 b_)) rfl) (b7 (dz 003 (HJ (wV (g:=Fy K 2 (nW (eQ 0) (nW (eQ 1) Hz))) (own:=["name","track"]) (js:=[]) (N':=["name","track"]) (dJ.of (osc:=bK (sM 5)) (N:=["self","other"]) rfl rfl 01) rfl (yc (Ab ac3 PySem.F.type_dict_items uR (cU 06 004))) (λ_ _ _ _ _=>(ii rfl (d8 (eX (i:=0) Vy rfl 012 013) (d8 (eX (i:=1) Vy rfl 012 013) gj)))) (λ_ _ _ _ _=>gw) (λ_ _ _ _ _=>pv 0) (λ_ _ _ _ _=>eG (E:=E0) 003 TZ.c MT.M GT (hr.mono 02) MT.b .nil dC))) rfl) (b7 (dz 003 (HJ (wV (g:=Fy K 2 (nW (eQ 0) (nW (eQ 1) Hz))) (own:=["name","tally"]) (js:=[]) (N':=["name","tally"]) (dJ.of (osc:=bK (sM 5)) (N:=["self","other"]) rfl rfl 01) rfl (yc (Ab ac3 PySem.F.type_dict_items uR (cU 06 004))) (λ_ _ _ _ _=>(ii rfl (d8 (eX (i:=0) UG rfl 012 013) (d8 (eX (i:=1) UG rfl 012 013) gj)))) (λ_ _ _ _ _=>gw) (λ_ _ _ _ _=>pv 0) (λ_ _ _ _ _=>W7))) rfl) (b7 016 (b7 016 (c7 (cW 003)))))))),?_⟩;obtain⟨⟨dx,v,e,rv⟩,ek,kn,et,tr,ec,nm,aA,dj,nh,aB,n1,n2,n3⟩:=st;refine⟨9,a.a,S,dx,7,e,SZ.c,SZ.s1,8,9,a.a,S,dx,7,e,SZ.c,SZ.s2,8,λx B hx ao aG=>?_⟩;refine⟨x,B,d.pg,d.rm,8,a_,sz.p1,sz.p2,sz.r1,sz.r2,λnk nt nc H1 nd e1 k1 t1 c1 m1 m2 m3 kp=>⟨8,?_⟩⟩;have s1:cu H H1:=gn hx ao kp;have nx:∀{b u},H b=some u->b≠x:=λc=>cg c hx;refine⟨9,a.a,S,dx,7,s1 _ _ e,SZ.c,SZ.s3,8,a.dk,9,s1 _ _ ek,λp hp=>?_⟩;have ae:x≠p:=cg e1 hp;refine⟨9,x,S,B,yO d.pg d.rm nk nt nc false .non,8,(by rw[b8 ae];exact e1),SZ.c,SZ.s3,(show 7<1000 by decide),?_⟩;generalize h2:upd (upd H1 p (.dK (CQ a.ks d.kn))) x (.ins S B (fX "known" (.ref p) (yO d.pg d.rm nk nt nc false .non)))=H2;have s2:cu H H2:=λb u c=>by rw[<-h2,b8 (nx c),b8 (cg (s1 _ _ c) hp)];exact s1 _ _ c
 have x2:H2 x=some (.ins S B (yO d.pg d.rm p nt nc false .non)):=by rw[<-h2];exact a_
 have p2:H2 p=some (.dK (CQ a.ks d.kn)):=by rw[<-h2,b8 ae.symm];exact a_
 have aj:H p=none:=dY s1 hp;clear h2;refine⟨a.dt,_,s2 _ _ et,λo=>?_⟩;generalize hF:upd H2 a.dt (.frz o (.dK (mC a.ts d.tr)))=HF;have dF:HF a.dt=some (.frz o (.dK (mC a.ts d.tr))):=by rw[<-hF];exact a_
 have f2:∀b u,H2 b=some u->b≠a.dt->HF b=some u:=λb u c nb=>by rw[<-hF,b8 nb];exact c
 have sF:gJ S H2 HF:=by rw[<-hF];exact gJ.put (s2 _ _ et) (.inl ⟨_,.inl rfl⟩)
 have nF:∀{b},HF b=none->H2 b=none:=λ{b}O=>by
  rw[<-hF]at O;by_cases z:b=a.dt
  ·subst z;rw[a_]at O;cases O
  ·rw[b8 z]at O;exact O
 have eF:HF a.a=some (.ins S dx (yO d.pg d.rm a.dk a.dt a.dc d.still v)):=f2 _ _ (s2 _ _ e) (iV e et 005);refine⟨9,a.a,S,dx,7,eF,SZ.c,SZ.s4,8,⟨a.dt,o,9,dF⟩,a.dt,o,9,8,dF,λvw hw=>?_⟩;refine⟨vw,a.dt,o,9,a_,cu.new hw _ _ dF,λJ ha=>?_⟩;generalize hV:upd HF vw (yI vw a.dt)=HV at ha|-;have sV:cu HF HV:=by rw[<-hV];exact cu.new hw
 have af:H2 J=none:=nF (dY sV ha);have tl:a.ts.length=d.tr.length:=tr.len;have kl:(mC a.ts d.tr).length=d.tr.length:=Bm tl;refine pQ (λi M L=>∃v1 v2 I,M=[v1,v2]/\I.length=i/\L J=some (.dK (mC I (d.tr.take i)))/\Pd (λt p=>lK Z C K L t p.2) I (d.tr.take i)/\(∀b u,HV b=some u->L b=some u)/\(∀t∈I,pP HV t)/\I.Pairwise Apart/\Pd (λ(t u:TA)=>t.k.cs.length=u.k.cs.length) I (a.ts.take i)) ⟨none,none,[],8,8,a_,.nil,λb u c=>by rw[b8 (cg c ha)];exact c,(λt h=>by cases h),.nil,.nil⟩ ?_ ?_ ?_
 ·rintro i M L hi⟨v1,v2,I,rfl,l,ea,pd,up,nw,pw,cs⟩;exact up _ _ (sV _ _ dF)
 ·rintro i y M L pp hy⟨v1,v2,I,rfl,l,ea,pd,up,nw,pw,cs⟩aF N hN;obtain⟨t,T,ht,Y,rfl⟩:=Pn hy;obtain⟨aH,ac,tk⟩:=tr.at ht;rw[Y]at ac;cases ac;have aa:cu L (upd L pp (.tup [kV (Sum.inr T.1),.ref t.a])):=cu.new aF;have ak:lK Z C K (upd L pp (.tup [kV (Sum.inr T.1),.ref t.a])) t T.2:=(((tk.same s2).sd ne sF).same sV|>.same up).same aa;obtain⟨aC,vt,aD,_⟩:=ak.ob;have mt:t∈a.ts:=aap ht;have mp:T∈d.tr:=aap Y;refine⟨pp,9,e_.of a_,8,7,7,8,?_⟩;refine⟨9,9,t.a,aC,9,aD,8,t,T.2,8,ak,cl t mt,(sz.ln T mp).2,(sz.ln T mp).1,λt' H3 ah ap s3 aq=>?_⟩;have S3:cu L H3:=aa.trans s3;have il:i<d.tr.length:=(aaD.mp Y).1;have ab:(d.tr.take i).length=i:=by rw[aaV];omega
  have new:jj (mC I (d.tr.take i)) (Sum.inr T.1)=none:=by
   cases hv:jj (mC I (d.tr.take i)) (Sum.inr T.1)with
   |none=>rfl
   | some y=>
     exfalso;have m:=KH hv;rw[Jl (by rw[l,ab])]at m;obtain⟨p0,m0,e0⟩:=aao.mp m;have ay:p0.1=T.1:=acl e0;obtain⟨j,hj⟩:=aau.mp m0;have jl:j<i:=by have:=(aaD.mp hj).1;omega
     rw[acq jl]at hj;have:=(acF (i:=j) (j:=i) (by rw[aaf];omega) nm).mp (by rw[aaq,aaq,hj,Y];simp[ay]);omega
  have tks:d.tr.take (i+1)=d.tr.take i++[T]:=by rw[aaW,Y];rfl
  have az:a.ts.take (i+1)=a.ts.take i++[t]:=by rw[aaW,ht];rfl
  have sd:gJ S H3 (upd H3 J (.dK (putK (mC I (d.tr.take i)) (Sum.inr T.1) (.ref t'.a)))):=gJ.put (S3 _ _ ea) (.inl ⟨_,.inl rfl⟩);refine⟨_,Sum.inr T.1,S3 _ _ ea,8,?_,hN _ _ ⟨_,_,I++[t'],8,by rw[aaw,l];rfl,?_,?_,λb u c=>?_,λu hu=>?_,?_,?_⟩⟩
  ·rw[Bm (by rw[l,ab]),ab];exact aat (show i<7 by have:=sz.tl;omega) 02
  ·rw[a_,Fx _ new,tks,Ly (by rw[l,ab])];rfl
  ·rw[tks];exact Pd.app (R:=λt p=>lK Z C K _ t p.2) (.cons (aq.sd ne sd) .nil) (pd.map λ_ _ r=>(r.same S3).sd ne sd)
  ·rw[b8 (cg c ha)];exact S3 _ _ (up _ _ c)
  ·rcases aam.mp hu with hu|hu
   ·exact nw u hu
   ·cases aal.mp hu;exact(ah.back aa).back up
  ·refine List.pairwise_append.mpr ⟨pw,List.pairwise_singleton _ _,λu hu u' au b mb av=>?_⟩;cases aal.mp au;obtain⟨j,hj⟩:=aau.mp hu;obtain⟨_,_,aE⟩:=pd.at hj;obtain⟨ob,c⟩:=aE.here b mb;have:=ah.all b av;rw[aa _ _ c]at this;cases this
  ·rw[az];exact Pd.app (R:=λ(t u:TA)=>t.k.cs.length=u.k.cs.length) (.cons ap .nil) cs
 ·rintro M L⟨v1,v2,I,rfl,l,ea,pd,up,nw,pw,cs⟩;rw[kl]at l;rw[kl,abi 014]at ea pd;rw[kl,<-tl,abi 014]at cs;have dH:L a.dt=some (.frz o (.dK (mC a.ts d.tr))):=up _ _ (sV _ _ dF);refine⟨dH,?_⟩;have xT:x≠a.dt:=(nx et).symm;have xH:L x=some (.ins S B (yO d.pg d.rm p nt nc false .non)):=up _ _ (sV _ _ (f2 _ _ x2 xT));refine⟨9,x,S,B,yO d.pg d.rm p nt nc false .non,8,(by rw[b8 xT];exact xH),SZ.c,SZ.s4,(show 7<1000 by decide),?_⟩;generalize h4:upd (upd L a.dt (.dK (mC a.ts d.tr))) x (.ins S B (fX "tracks" (.ref J) (yO d.pg d.rm p nt nc false .non)))=U;have s4:cu H U:=λb u c=>by
   rw[<-h4,b8 (nx c)];by_cases z:b=a.dt
   ·subst z;rw[a_];rw[et]at c;exact c
   ·rw[b8 z];exact up _ _ (sV _ _ (f2 _ _ (s2 _ _ c) z))
  have x4:U x=some (.ins S B (yO d.pg d.rm p J nc false .non)):=by rw[<-h4];exact a_
  have px:p≠x:=ae.symm;have pT:p≠a.dt:=(cg et aj).symm;have p4:U p=some (.dK (CQ a.ks d.kn)):=by rw[<-h4,b8 px,b8 pT];exact up _ _ (sV _ _ (f2 _ _ p2 pT))
  have ax:J≠x:=(cg x2 af).symm;have aT:J≠a.dt:=(cg (sV _ _ dF) ha).symm;have a4:U J=some (.dK (mC I d.tr)):=by rw[<-h4,b8 ax,b8 aT];exact ea
  have d4:gJ S L U:=by rw[<-h4];exact(gJ.put dH (.inl ⟨_,.inr ⟨9⟩⟩)).trans (gJ.put (show upd L a.dt _ x=some _ by rw[b8 xT];exact xH) (.inr ⟨7⟩))
  clear h4;refine⟨a.dc,_,s4 _ _ ec,λo2=>?_⟩;generalize hG:upd U a.dc (.frz o2 (.dK []))=G;have dG:G a.dc=some (.frz o2 (.dK [])):=by rw[<-hG];exact a_
  have g4:∀b u,U b=some u->b≠a.dc->G b=some u:=λb u c nb=>by rw[<-hG,b8 nb];exact c
  have sG:gJ S U G:=by rw[<-hG];exact gJ.put (s4 _ _ ec) (.inl ⟨_,.inl rfl⟩)
  have nG:∀{b},G b=none->U b=none:=λ{b}O=>by
   rw[<-hG]at O;by_cases z:b=a.dc
   ·subst z;rw[a_]at O;cases O
   ·rw[b8 z]at O;exact O
  refine⟨9,a.a,S,dx,7,g4 _ _ (s4 _ _ e) (iV e ec 005),SZ.c,SZ.s5,8,⟨a.dc,o2,9,dG⟩,a.dc,o2,9,8,dG,λad ai=>?_⟩;refine⟨ad,a.dc,o2,9,a_,cu.new ai _ _ dG,λD O=>?_⟩;generalize hW:upd G ad (yI ad a.dc)=W at O|-;have sW:cu G W:=by rw[<-hW];exact cu.new ai
  have X:U D=none:=nG (dY sW O);have bC:D≠a.dc:=(cg (sW _ _ dG) O).symm;have bx:D≠x:=(cg x4 X).symm;have xC:x≠a.dc:=(nx ec).symm;have xW:W x=some (.ins S B (yO d.pg d.rm p J nc false .non)):=sW _ _ (g4 _ _ x4 xC);refine pQ (λi M L=>L=upd W D (.dK [])) rfl ?_ ?_ ?_
  ·rintro i M L hi rfl;rw[b8 bC.symm];exact sW _ _ dG
  ·intro i y M L pp hy;simp at hy
  ·rintro M H5 rfl;refine⟨by rw[b8 bC.symm];exact sW _ _ dG,?_⟩;refine⟨9,x,S,B,yO d.pg d.rm p J nc false .non,8,(by rw[b8 xC,b8 bx.symm];exact xW),SZ.c,SZ.s5,(show 7<1000 by decide),?_⟩;generalize h6:upd (upd (upd W D (.dK [])) a.dc (.dK [])) x (.ins S B (fX "counters" (.ref D) (yO d.pg d.rm p J nc false .non)))=H6;have ag:∀b u,U b=some u->b≠x->H6 b=some u:=λb u c nb=>by
    rw[<-h6,b8 nb];by_cases z:b=a.dc
    ·subst z;rw[a_,<-s4 _ _ ec];exact c
    ·rw[b8 z,b8 (cg c X)];exact sW _ _ (g4 _ _ c z)
   have s6:cu H H6:=λb u c=>ag b u (s4 _ _ c) (nx c);have x6:H6 x=some (.ins S B (yO d.pg d.rm p J D false .non)):=by rw[<-h6];exact a_
   have b6:H6 D=some (.dK []):=by rw[<-h6,b8 bx,b8 bC];exact a_
   have d6:gJ S U H6:=λb u c n=>ag b u c (λz=>n (by subst z;rw[x4]at c;cases c;exact .inr ⟨7⟩));refine⟨9,a.a,S,dx,7,s6 _ _ e,SZ.c,SZ.s6,8,9,x,S,B,9,x6,SZ.c,SZ.s6,(show 7<1000 by decide),?_⟩;refine⟨9,a.a,S,dx,7,(by rw[b8 (nx e)];exact s6 _ _ e),SZ.c,SZ.s7,8,9,x,S,B,9,a_,SZ.c,SZ.s7,(show 7<1000 by decide),?_⟩;rw[iG];refine⟨9,?_⟩;generalize h7:upd H6 x _=H7;have x7:H7 x=some (.ins S B (yO d.pg d.rm p J D d.still v)):=by rw[<-h7];exact a_
   have s7:cu H H7:=λb u c=>by rw[<-h7,b8 (nx c)];exact s6 _ _ c
   have d7:gJ S H6 H7:=by rw[<-h7];exact gJ.put x6 (.inr ⟨7⟩)
   have t7:∀b u,U b=some u->b≠x->H7 b=some u:=λb u c nb=>by rw[<-h7,b8 nb];exact ag b u c nb
   have none:∀{b},HV b=none->H b=none:=λh=>dY s2 (nF (dY sV h));refine q ⟨x,p,J,D,a.ks,I⟩ H7 ⟨hx,aj,dY s2 af,dY s4 X,λt m=>⟨none (nw t m).a,λb h=>none ((nw t m).k.o b h),λb h=>none ((nw t m).k.l b h)⟩⟩ rfl cs s7 ⟨⟨B,v,x7,rv.same s7⟩,t7 _ _ p4 px,kn.map λ_ _⟨t,k⟩=>⟨t,k.same s7⟩,t7 _ _ a4 ax,pd.map λ_ _ r=>((r.sd ne d4).sd ne d6).sd ne d7,(by rw[<-h7,b8 bx];exact b6),nm,aA,Ir pw,nh,aB,cg p2 af,cg p4 X,cg a4 X⟩
end
theorem zip_get{c g:Type}{f:c->V}:∀{a:List c}{tr:List (Str×g)}{i:Nat}{t:c}{p:Str×g},(tr.map (·.1)).Nodup->a[i]?=some t->tr[i]?=some p->jj (List.zipWith (λt p=>((Sum.inr p.1:Key),f t)) a tr) (Sum.inr p.1)=some (f t)
 |[],_,_,_,_,_,h,_=>by simp at h
 |_::_,[],_,_,_,_,_,h=>by simp at h
 | t::a,q::tr,0,_,_,_,h1,h2=>by simp at h1 h2;subst h1 h2;exact pC rfl
 | t::a,q::tr,i+1,u,p,n,h1,h2=>by
   have d:=aaK.mp n;have b:tr[i]?=some p:=by simpa using h2
   have ne:¬q.1=p.1:=λe=>d.1 (by show q.1∈_;rw[e];exact aao.mpr ⟨p,aap b,8⟩);show jj ((Sum.inr q.1,f t)::List.zipWith _ a tr) _=_;rw[mD (λe=>ne (acl e))];exact zip_get d.2 (by simpa using h1) b
theorem qW{a b:Type}{f:a->V}:∀{ts:List a}{tr:List (Str×b)},(∀p∈tr,p.1≠nm)->jj (List.zipWith (λt p=>((Sum.inr p.1:Key),f t)) ts tr) (Sum.inr nm)=none
 |[],_,_=>by simp[jj]
 |_::_,[],_=>by simp[jj]
 | t::ts,q::tr,h=>by show jj ((Sum.inr q.1,f t)::List.zipWith _ ts tr) _=_;rw[mD (λe=>h q (aan ..) (acl e))];exact qW λp m=>h p (aai _ m)
section
variable{P:ZE}{w:ZH}{K:Zs}{mg:Y1}{base:ZN}{Z:LC}{C S:Zl}
inductive uf(Z:LC)(C S:Zl)(K:Zs)(vs:List V)(H:Hp)(Q:VK)(E:XK):Prop
 |mk (s:SA) (d:Sd) (nm:Str) (i:Nat) (t:TA) (p:Str×Tk):vs=[.ref s.a,.str nm]->iC Z C S K H s d->s.ts[i]?=some t->d.tr[i]?=some p->p.1=nm->Q (.ref t.a) H->uf Z C S K vs H Q E
def VR:cI ["self","name"] ["self","name"] (bK (sM 1)):=by ext
def vB(F:gU K "track_of" "Stand.track_of" (sM 1) f m)(SZ:SZ K mg S):cz P w K mg base dM 1 f m ["self","name"] (uf Z C S K):=by
 refine F.ok VR 01 λn A b s H vs Q E o h=>?_;obtain⟨a,d,nm,i,t,p,rfl,c,r,x,rfl,q⟩:=h;have j:=oO o;refine⟨_,(b7 (dU (zV (uO j 003 03)) (c7 eU) d9) (c7 (cW (fZ j 03 003)))),?_⟩;obtain⟨l,v,e,_⟩:=c.ob;have g:j6 H a.dt (.str p.1) (some (.ref t.a)):=by have:=zip_get (f:=λt:TA=>V.ref t.a) c.nm r x;rw[<-this];exact j6.k (k:=Sum.inr p.1) c.et
 refine⟨9,9,a.a,S,l,7,e,SZ.c,SZ.s4,8,a.dt,9,g,9,?_⟩;refine lD (λh=>by cases h) (λ_=>?_);exact⟨9,a.a,S,l,7,e,SZ.c,SZ.s4,8,9,a.dt,9,g,q⟩
end
section
variable{P:ZE}{w:ZH}{K:Zs}{mg:Y1}{base:ZN}{Z:LC}{C S:Zl}{H H' H'':Hp}
abbrev lN:Stmt:=inClass (top 14) 0
def Ea:cI ["self","words"] ["self","words"] (bK lN):=by ext
noncomputable def zc(F:mR K "__init__" "Stopped.__init__" lN dWx f g)(T:Px K mg)(v:mR K "__init__" "ScribeError.__init__" Qy r d b)(x:Binds K b ["self","words","word"] [])(MS:Ua K mg "ScribeError" q d):cz P w K mg base CX 2 f g ["self","words"] (ZV K "stopped"):=by have l:cz P w K mg base dM 1 d b ["self","words","word"] (We K):=T8 v T;obtain⟨y,m,n⟩:=MS.rd;refine F.ok1 Ea 01 λi A c s H vs Q E j h=>?_;obtain⟨e,C,a,rfl,o,p,k⟩:=h;refine⟨_,(c7 (eE (zE (E:=E0) 004 MS.mg MS.sg m n MS.kp l j x .nil dC (aK 06 (aK 003 (aK cZ b_)))))),?_⟩;exact⟨9,9,e,C,7,o,p,k⟩
inductive Cj(Z:LC)(C S:Zl)(K:Zs)(vs:List V)(H:Hp)(Q:VK)(E:XK):Prop
 |mk (s:SA) (d:Sd) (nm:Str) (i:Nat) (a:Zl) (p:Str×List j9):vs=[.ref s.a,.str nm]->iC Z C S K H s d->s.ks[i]?=some a->d.kn[i]?=some p->p.1=nm->Q (.ref a) H->Cj Z C S K vs H Q E
def Vt:cI ["self","name"] ["self","name"] (bK (sM 2)):=by ext
def Gi(F:gU K "kind_of" "Stand.kind_of" (sM 2) f n)(SZ:SZ K mg S):cz P w K mg base dM 1 f n ["self","name"] (Cj Z C S K):=by
 refine F.ok Vt 01 λo A c s H vs Q E r h=>?_;obtain⟨b,d,nm,i,a,p,rfl,j,x,y,rfl,q⟩:=h;have l:=oO r;refine⟨_,(b7 (dU (zV (uO l 003 03)) (c7 eU) d9) (c7 (cW (fZ l 03 003)))),?_⟩;obtain⟨m,v,e,_⟩:=j.ob;have g:j6 H b.dk (.str p.1) (some (.ref a)):=by have:=zip_get (f:=λt:Addr=>V.ref t) j.nk x y;rw[<-this];exact j6.k (k:=Sum.inr p.1) j.ek
 refine⟨9,9,b.a,S,m,7,e,SZ.c,SZ.s3,8,b.dk,9,g,9,?_⟩;refine lD (λh=>by cases h) (λ_=>?_);exact⟨9,b.a,S,m,7,e,SZ.c,SZ.s3,8,9,b.dk,9,g,q⟩
end
section
variable{K:Zs}{Z:LC}{C S:Zl}{H H':Hp}
structure Ul(Z:LC)(C:Zl):Prop where
 k:C≠Z.k
 c:C≠Z.c
 p:C≠Z.p
 l:C≠Z.l
def dN.off(d:dN Z H k n)(m:Mv Z k H c H')(e:H b=some o)(nl:∀a,o≠.lst a)(f:Plain Z o):H' b=some o:=
 m.out b o e (λz=>by obtain⟨a,h⟩:=d.has_ls z;rw[e]at h;cases h;exact nl _ rfl) f
def dN.sqT(b:dN Z H k n)(m:Mv Z k H d H')(z:e_ K H a c):e_ K H' a c:=by
 rcases z with(z|⟨o,z⟩)|z
 ·exact .inl (.inl (b.off m z (by intro _ h;cases h) (by intro _ _ _ h;cases h)))
 ·exact .inl (.inr ⟨o,b.off m z (by intro _ h;cases h) (by intro _ _ _ h;cases h)⟩)
 ·exact .inr z
def dN.own_ls(f:dN Z H k n)(h:b∈k.own):∃C a fs,H b=some (.ins C a fs):=by
 rcases aag.mp h with rfl|m
 ·obtain⟨a,e⟩:=f.ob;exact⟨_,_,_,e⟩
 ·rcases aam.mp m with m|m
  ·obtain⟨s,c,rfl⟩:=aao.mp m;obtain⟨i,d⟩:=aau.mp c;obtain⟨y,_,r⟩:=f.pg.at d;obtain⟨a,e⟩:=r.ob;exact⟨_,_,_,e⟩
  ·obtain⟨s,c,g⟩:=aaN.mp m;obtain⟨i,d⟩:=aau.mp c;obtain⟨y,_,r⟩:=f.pg.at d;obtain⟨j,l⟩:=aau.mp g;obtain⟨z,_,o⟩:=r.cs.at l;obtain⟨a,_,_,_,e,_⟩:=o.ex;exact⟨_,_,_,e⟩
def dN.by{g o k2:LA}{B v:Ln}(h:Z.Ok)(j:dN Z H g B)(a:dN Z H k2 v)(D:∀b∈g.own,b∉k2.own)(E:∀b∈g.ls,b∉k2.ls)(m:Mv Z g H o H'):dN Z H' k2 v:=by
 have kt:Kt Z H H':=⟨j.tks h m,λc f fs e=>m.out c _ e (Jp j e) (by intro C y A z;cases z;exact⟨h.kc,h.kp,h.kl⟩)⟩;have n:∀b∈k2.own,H' b=H b:=λb d=>by obtain⟨C,f,fs,e⟩:=a.own_ls d;rw[m.oth b _ e (λz=>D b z d) (Jp j e),e]
 have p:∀b∈k2.ls,H' b=H b:=λb d=>by obtain⟨F,e⟩:=a.has_ls d;rw[m.oth b _ e (λz=>by obtain⟨C,f,fs,q⟩:=j.own_ls z;rw[e]at q;cases q) (λz=>E b z d),e]
 obtain⟨f,e⟩:=a.ob;refine⟨⟨f,by rw[n _ LA.a_own];exact e⟩,by rw[p _ (aan ..)];exact a.ls,Pd.mapM (λs l m r=>?_) a.pg,a.n1,a.n2,a.n3⟩;obtain⟨i,x⟩:=aau.mp l;exact r.kt kt (n _ (LA.p_own x)) (p _ (aai _ (aao.mpr ⟨s,l,8⟩))) λc w=>n _ (LA.c_own (aaN.mpr ⟨s,l,w⟩))
theorem zg{d b:Type}{R:d->b->Prop}{Q:b->Prop}:∀{c:List d}{a:List b},Pd R c a->(∀y∈a,Q y)->Pd (λx y=>R x y/\Q y) c a
 |_,_,.nil,_=>.nil
 |_,_,.cons r t,h=>.cons ⟨r,h _ (aan ..)⟩ (zg t λy m=>h y (aai _ m))
theorem M8(ht:ts[i]?=some t)(hp:tr[i]?=some p)(ea:t'.a=t.a)(ep:p'.1=p.1):mC (ts.set i t') (tr.set i p')=mC ts tr:=by
 induction ts generalizing tr i with
 |nil=>simp at ht
 | cons u ts ih=>
   cases tr with
   |nil=>simp at hp
   | cons q tr=>
     cases i with
     | zero=>simp at ht hp;subst ht hp;unfold mC;rw[ac6,ac6,abR,abR,ea,ep]
     | succ i=>have:=ih (tr:=tr) (i:=i) (by simpa using ht) (by simpa using hp);unfold mC at this|-;rw[acG,acG,abR,abR,this]
set_option tactic.hygienic true in
def iC.move{s:SA}{d:Sd}{t:TA}(zo:Z.Ok)(ne:yN Z C S)(cn:Ul Z C)(st:iC Z C S K H s d)(ht:s.ts[i]?=some t)(hp:d.tr[i]?=some p)(m:Mv Z t.k H k' H')(ln':dN Z H' k' n'):
 iC Z C S K H' {s with ts:=s.ts.set i ⟨t.a,k'⟩} {d with tr:=d.tr.set i (p.1,{p.2 with ln:=n'})}:=by
 obtain⟨p0,hp0,tk⟩:=st.tr.at ht;rw[hp]at hp0;cases hp0;have ln:=tk.ln;obtain⟨dx,v,e,rv⟩:=st.ob;have dk:∀{b kvs},H b=some (.dK kvs)->H' b=some (.dK kvs):=λe=>ln.off m e (by intro _ h;cases h) (by intro _ _ _ h;cases h);have mem:p∈d.tr:=aap hp;have tkr:∀{u:TA}{q:Tk},lK Z C K H u q->o9 q.ts=true->∃dx v,H' u.a=some (.ins C dx (RP u.k.a q.ck v))/\Rep K H' v q.ts:=λh n=>by obtain⟨dx,v,e,r⟩:=h.ob;exact⟨dx,v,ln.off m e (by intro _ h;cases h) (by intro _ _ _ h;cases h;exact⟨cn.c,cn.p,cn.l⟩),lO (λa xs z=>ln.sqT m z) r n⟩
 have il:i<s.ts.length:=(aaD.mp ht).1;have kn':Pd (λa(q:Str×List j9)=>∃ta,gA Z.k H' a q.1 ta q.2) s.ks d.kn:=st.kn.map λa q h=>by obtain⟨ta,h⟩:=h;exact⟨ta,h.kt ⟨ln.tks zo m,λc dx fs e=>m.out c _ e (Jp ln e) (by intro C dx' fs' z;cases z;exact⟨zo.kc,zo.kp,zo.kl⟩)⟩⟩
 have ap:∀j u,j≠i->s.ts[j]?=some u->Apart ⟨t.a,k'⟩ u:=λj u nj hu b mb mu=>by
  obtain⟨q,_,tu⟩:=st.tr.at hu;have a0:=st.dj i j t u (aaC nj) ht hu;obtain⟨o,eb⟩:=tu.here b mu;rcases aag.mp mb with h|mb
  ·exact a0 b (by rw[h];exact aan ..) mu
  ·rcases aam.mp mb with mb|mb
   ·rcases m.fro b mb with h|h
    ·exact a0 b (aai _ (aaL _ h)) mu
    ·rw[h]at eb;cases eb
   ·rcases m.fr b mb with h|h
    ·exact a0 b (aai _ (aax _ h)) mu
    ·rw[h]at eb;cases eb
 refine⟨⟨dx,v,ln.off m e (by intro _ h;cases h) (by intro _ _ _ h;cases h;exact⟨ne.c.symm,ne.p.symm,ne.l.symm⟩),lO (λa xs z=>ln.sqT m z) rv st.nh⟩,dk st.ek,kn',?_,?_,dk st.ec,?_,st.nk,?_,st.nh,?_,st.n1,st.n2,st.n3⟩
 ·show H' s.dt=some (.dK (mC (s.ts.set i ⟨t.a,k'⟩) (d.tr.set i (p.1,{p.2 with ln:=n'}))));rw[M8 (t':=⟨t.a,k'⟩) (p':=(p.1,{p.2 with ln:=n'})) ht hp rfl rfl];exact dk st.et
 ·refine Pd.setM (R:=λu(q:Str×Tk)=>lK Z C K H u q.2/\o9 q.2.ts=true) ?_ i (λj u q nj hu r=>?_) (zg st.tr st.nt)
  ·obtain⟨dx,v,e,r⟩:=tkr tk (st.nt p mem);exact⟨⟨dx,v,by show H' t.a=some (.ins C dx (RP k'.a _ v));rw[m.a];exact e,r⟩,ln'⟩
  ·have a0:=st.dj i j t u (aaC nj) ht hu;exact⟨tkr r.1 r.2,ln.by zo r.1.ln (λb m1 m2=>a0 b (aai _ (aaL _ m1)) (aai _ (aaL _ m2))) (λb m1 m2=>a0 b (aai _ (aax _ m1)) (aai _ (aax _ m2))) m⟩
 ·show((d.tr.set i (p.1,_)).map (·.1)).Nodup;have:(d.tr.set i (p.1,{p.2 with ln:=n'})).map (·.1)=d.tr.map (·.1):=by
   rw[ach];refine List.ext_getElem? λj=>?_;rw[aca];split
   ·rename_i h;subst h;have jl:i<(d.tr.map (·.1)).length:=by rw[aaf];exact(aaD.mp hp).1
    rw[aac jl,aaq,hp];rfl
   ·rfl
  rw[this];exact st.nm
 ·intro j k u v njk hu hv;have hu':(s.ts.set i ⟨t.a,k'⟩)[j]?=some u:=hu;have hv':(s.ts.set i ⟨t.a,k'⟩)[k]?=some v:=hv;rw[aca]at hu' hv';by_cases zj:i=j
  ·subst zj;rw[aac rfl,aac il]at hu';rw[aab njk]at hv';cases hu';exact ap k v (aaC njk) hv'
  ·rw[aab zj]at hu';by_cases zk:i=k
   ·subst zk;rw[aac rfl,aac il]at hv';cases hv';exact(ap j u (aaC zj) hu').symm
   ·rw[aab zk]at hv';exact st.dj j k u v njk hu' hv'
 ·intro q mq;rcases abQ mq with h|h
  ·exact st.nt q h
  ·rw[h];exact st.nt p mem
end
noncomputable def SA.all(s:SA):List Addr:=s.a::s.dk::s.dt::s.dc::s.ts.flatMap TA.all
structure Fr(s s':SA)(H H':Hp):Prop where
 kp:∀b u,H b=some u->b∉s.all->H' b=some u
 sub:∀b∈s'.all,b∈s.all\/H b=none
 gr:∀b,H' b=none->H b=none
 a:s'.a=s.a
structure W8(n:Ln)(tm:Int):Prop where
 ne:n.pg≠[]
 hm:2<=n.most
 hl:n.pg.length<=900
 hc:∀m∈n.pg,m.cs.length<=900
 ht:∀t,n.last=some t->t<=tm
def Sd.put(d:Sd)(i:Nat)(p:Str×Tk)(n:Ln):Sd:={d with tr:=d.tr.set i (p.1,{p.2 with ln:=n})}
section
variable{P:ZE}{w:ZH}{K:Zs}{mg:Y1}{base:ZN}{Z:LC}{C S:Zl}{H H' H'':Hp}
def Fr.trans(a:Fr s f H H')(b:Fr f d H' H''):Fr s d H H'':=by
 refine⟨λc u e n=>b.kp c u (a.kp c u e n) λm=>?_,λc m=>?_,λc e=>a.gr c (b.gr c e),b.a.trans a.a⟩
 ·rcases a.sub c m with h|h
  ·exact n h
  ·rw[e]at h;cases h
 ·rcases b.sub c m with h|h
  ·exact a.sub c h
  ·exact .inr (a.gr c h)
def Fr.same(q:cu H H'):Fr s s H H':=⟨λb u e _=>q _ _ e,λb m=>.inl m,λb e=>dY q e,rfl⟩
def SA.t_all{s:SA}{i:Nat}{t:TA}(h:s.ts[i]?=some t){b:Zl}(m:b∈t.all):b∈s.all:=
 aai _ (aai _ (aai _ (aai _ (aaN.mpr ⟨t,aap h,m⟩))))
def Mv.frm{s:SA}{i:Nat}{t:TA}{j:LA}(g:s.ts[i]?=some t)(m:Mv Z t.k H j H'):Fr s {s with ts:=s.ts.set i ⟨t.a,j⟩} H H':=by
 refine⟨λb u e n=>m.oth b u e (λz=>n (SA.t_all g (aai _ (aaL _ z)))) (λz=>n (SA.t_all g (aai _ (aax _ z)))),λb d=>?_,m.gr,rfl⟩;have up:∀{c:Zl}{l:YI},c∈l->c∈s.a::s.dk::s.dt::s.dc::l:=λm=>aai _ (aai _ (aai _ (aai _ m)));have f:b∈[s.a,s.dk,s.dt,s.dc]++(s.ts.set i ⟨t.a,j⟩).flatMap TA.all:=d;rcases aam.mp f with h|h
 ·exact .inl (show b∈[s.a,s.dk,s.dt,s.dc]++_ from aaL _ h)
 ·obtain⟨u,o,d⟩:=aaN.mp h;rcases abQ o with h|h
  ·exact .inl (up (aaN.mpr ⟨u,h,d⟩))
  ·subst h;rcases aag.mp d with h|d
   ·exact .inl (SA.t_all g (by rw[h];exact aan ..))
   ·rcases aam.mp d with h|h
    ·rcases m.fro b h with h|h
     ·exact .inl (SA.t_all g (aai _ (aaL _ h)))
     ·exact .inr h
    ·rcases m.fr b h with h|h
     ·exact .inl (SA.t_all g (aai _ (aax _ h)))
     ·exact .inr h
inductive Qz(Z:LC)(C S:Zl)(K:Zs)(cS:Zl)(vs:List V)(H:Hp)(Q:VK)(E:XK):Prop
 |mk (s:SA) (d:Sd) (h:Zl) (nm kd:Str) (i j:Nat) (t:TA) (p:Str×Tk) (q:Str×List j9):vs=[.ref s.a,.ref h]->e_ K H h [.str nm,.str kd]->iC Z C S K H s d->s.ts[i]?=some t->d.tr[i]?=some p->p.1=nm->d.kn[j]?=some q->q.1=kd->sS q.1 q.2->W8 p.2.ln p.2.ck->(d.still=true->∀da H',rH H [("word",.str "stopped")] da H'->E (.ref cS) (some da) H')->(d.still=false->∀k' H',iC Z C S K H' {s with ts:=s.ts.set i ⟨t.a,k'⟩} (d.put i p (mW q.1 q.2 p.2.ck p.2.ln).2)->Fr s {s with ts:=s.ts.set i ⟨t.a,k'⟩} H H'->Q (WR (mW q.1 q.2 p.2.ck p.2.ln).1) H')->Qz Z C S K cS vs H Q E
def Jc:cI ["stand","handed","name","kind","track","form"] ["stand","handed"] (bK (top 94)):=by ext
theorem Wd(F:gU K "do_claim" "do_claim" (top 94) f fd)(L:LZ K mg Z)(TZ:TZ K mg C)(SZ:SZ K mg S)(ne:yN Z C S)(cn:Ul Z C)
 (MT:MD K S "track_of" "Stand.track_of" (sM 1) ["self","name"] fT D)(MK:MD K S "kind_of" "Stand.kind_of" (sM 2) ["self","name"] fK G)
 (MC:MD K Z.l "claim" "Lane.claim" (lM 1) ["self","kind","time"] fC J)(GC:cz P w K mg base dM 8 fC J ["self","kind","time"] (Ro Z))
 (hB:mg "Stopped"=some (.ref g))(EB:JT K g)(iB:findIn K (.ref g) "__init__"=some (some (.ref fS)))(nB:isFn K (.ref fS)=true)(bB:Binds K M ["self","words"] [])(GB:cz P w K mg base dM 2 fS M ["self","words"] (ZV K "stopped")):cz P w K mg base (mz P w) 9 f fd ["stand","handed"] (Qz Z C S K g):=by
 have GT:cz P w K mg base dM 1 fT D ["self","name"] (uf Z C S K):=vB MT.F SZ;have GK:cz P w K mg base dM 1 fK G ["self","name"] (Cj Z C S K):=Gi MK.F SZ;refine F.ok1 Jc 01 λl A O s H vs Q E R h=>?_;obtain⟨o,d,h,nm,kd,i,j,t,p,r,rfl,sq,c,N,hp,rfl,hj,rfl,ko,y,q1,q2⟩:=h;have n:dX 1 _:=R.mono 02;have Y:dX 3 _:=R.mono 02;refine⟨_,(b7 (m9 003 (ii rfl (d8 (kJ 2 Jc.nd) (d8 (kJ 3 Jc.nd) gj)))) (b7 (j8 4 Jc.nd (eV (E:=E0) 06 SZ.c MT.M GT n MT.b .nil dC (aK 010 b_))) (b7 (j8 5 Jc.nd (eV (E:=E0) 06 SZ.c MK.M GK n MK.b .nil dC (aK (pv 3) b_))) (b7 (dU (gZ 03) (c7 (G4 (B:="ValueError") (newId:="ValueError.__new__") (W:=E) (Iv (E:=E0) add EB.x iB nB GB Y 004 hB bB .nil dC (aK cZ b_)) rfl rfl (λaa σ H' s' e cls dd I x q=>ZD I x q))) d9) (c7 (cW (eV (E:=E0) (cU (pv 4) rfl) L.lc MC.M GC R MC.b .nil dC (aK (pv 5) (aK (cU (pv 4) rfl) b_))))))))),?_⟩;obtain⟨dx,v,e,rv⟩:=c.ob;refine⟨9,h,9,sq,8,7,7,8,?_⟩;refine⟨9,o.a,dx,9,e,8,9,o,d,p.1,i,t,p,8,c,N,hp,8,?_⟩;obtain⟨a,ha,ta,ka⟩:=c.kn.at' hj;refine⟨9,o.a,dx,9,e,8,9,o,d,r.1,j,a,r,8,c,ha,hj,8,?_⟩;refine⟨9,o.a,S,dx,7,e,SZ.c,SZ.s6,8,9,?_⟩;cases hs:d.still with
 | true=>
   refine iM rfl ?_;refineλT he=>⟨T,g,9,EB,a_,λU b=>⟨8,T,g,some U,8,?_,he,EB.x,q1 hs U _ (Eo he b)⟩⟩;have ne:T≠U:=λq=>by subst q;rw[a_]at b;cases b
   rw[b8 ne,a_]
 | false=>refine gB rfl ?_;obtain⟨p0,z,tk⟩:=c.tr.at N;rw[hp]at z;cases z;obtain⟨dT,vT,eT,_⟩:=tk.ob;obtain⟨dl,el⟩:=tk.ln.ob;exact⟨9,t.a,C,dT,7,eT,TZ.c,TZ.t1,8,t.k.a,dl,9,el,8,9,9,t.a,C,dT,7,eT,TZ.c,TZ.t2,8,t.k,p.2.ln,a,ta,r.1,r.2,p.2.ck,8,tk.ln,ka,ko,y.ne,y.hm,y.hl,y.hc,y.ht,λk' H' X m=>q2 hs k' H' (c.move L.ok ne cn N hp m X) (m.frm N)⟩
inductive B_(Z:LC)(C:Zl)(K:Zs)(vs:List V)(H:Hp)(Q:VK)(E:XK):Prop
 |mk (s:TA) (t:Tk) (r:List Cl) (m:Cl):vs=[.ref s.a]->lK Z C K H s t->s.k.cs.length<=900->t.ln.pg.length<=900->wait t.ln=r++[m]->(∀H',cu H H'->Q (.int m.tk) H')->B_ Z C K vs H Q E
def Nv:cI ["self","tickets"] ["self"] (bK (tM 1)):=by ext
noncomputable def QZ(F:gU K "top" "Track.top" (tM 1) f n)(T:Txt K mg)(L:LZ K mg Z)(TZ:TZ K mg C)(o:MD K Z.l "pending" "Lane.pending" (lM 16) ["self"] j b)(J:cz P w K mg base dM 3 j b ["self"] (Py Z)):cz P w K mg base dM 4 f n ["self"] (B_ Z C K):=by
 refine F.ok Nv 01 λp A d s H vs Q E x h=>?_;obtain⟨g,t,r,m,rfl,tk,B,D,i,q⟩:=h;refine⟨_,(b7 (j8 1 Nv.nd (eG (E:=E0) 03 L.lc o.M J x o.b .nil dC)) (b7 (dU (dg g8 (du dO 004 T.len gK (aK 003 b_)) cj (di _)) (c7 eU) d9) (c7 (cW (d_ iH 003 (pU mH cj)))))),?_⟩;obtain⟨G,v,e,_⟩:=tk.ob;obtain⟨dl,I⟩:=tk.ln.ob;refine⟨9,g.a,C,G,7,e,TZ.c,TZ.t1,8,g.k.a,dl,9,I,8,g.k,t.ln,8,tk.ln,B,D,λl M y _ a=>?_⟩;refine⟨9,l,9,.inl (eY.of a),8,9,?_⟩;refine gB (by rw[i];simp;omega) ?_;have z:((wait t.ln).map λc=>V.int c.tk)[((wait t.ln).map λc=>V.int c.tk).length-1]?=some (.int m.tk):=by rw[i];simp
 exact⟨9,9,l,_,7,8,eY.of a,ql z,q _ y⟩
inductive Qp(Z:LC)(vs:List V)(H:Hp)(Q:VK)(E:XK):Prop
 |mk (k:LA) (n:Ln) (tk:Int):vs=[.ref k.a,.int tk]->dN Z H k n->k.cs.length<=900->n.pg.length<=900->(∃m∈wait n,m.tk=tk)->(∀(x t:Zl)(m:Cl)(H':Hp),cu H H'->m∈wait n->m.tk=tk->H' x=some (.tup [.int m.tm,.str m.nm,.ref t])->H' t=some (.tup (m.vs.map V.int))->Q (.ref x) H')->Qp Z vs H Q E
def Wt:cI ["self","ticket","claim"] ["self","ticket"] (bK (lM 17)):=by ext
noncomputable def Wu(F:gU K "event" "Lane.event" (lM 17) f o)(L:LZ K mg Z)(p:MD K Z.l "waiting_with" "Lane.waiting_with" (lM 7) ["self","ticket"] fW b)(T:cz P w K mg base dM 3 fW b ["self","ticket"] (Ji Z)):cz P w K mg base dM 4 f o ["self","ticket"] (Qp Z):=by refine F.ok Wt 01 λr A d s H vs Q E v h=>?_;obtain⟨k,n,tk,rfl,l,G,I,J,q⟩:=h;refine⟨_,(b7 (j8 2 Wt.nd (eV (E:=E0) 06 L.lc p.M T v p.b .nil dC (aK 003 b_))) (c7 (cW (gF (aK (cU 010 rfl) (aK (cU (cU 010 rfl) rfl) (aK (cU 010 rfl) b_))))))),?_⟩;obtain⟨M,e⟩:=l.ob;refine⟨9,k.a,M,9,e,8,9,k,n,tk,8,l,G,I,J,λc m U y W z B D=>?_⟩;obtain⟨g,kk,a,t,i,N,O⟩:=z.ex;obtain⟨⟨dk,R⟩,_⟩:=id N;exact⟨9,c,Z.c,g,7,i,L.cc,L.c2,8,9,c,Z.c,g,7,i,L.cc,L.c3,8,kk,Z.k,dk,7,R,L.kc.cl,L.kc.nN,8,9,c,Z.c,g,7,i,L.cc,L.c4,8,01,λx j=>q x t m _ (y.trans (cu.new j)) B D a_ ((cu.new j) _ _ O)⟩
inductive Ql(Z:LC)(C S:Zl)(K:Zs)(vs:List V)(H:Hp)(Q:VK)(E:XK):Prop
 |mk (s:SA) (d:Sd) (h b:Zl) (nm:Str) (i:Nat) (t:TA) (p:Str×Tk) (r:List Cl) (m:Cl) (zs:List Int):vs=[.ref s.a,.ref h]->e_ K H h [.str nm,.ref b]->H b=some (.tup (zs.map V.int))->iC Z C S K H s d->s.ts[i]?=some t->d.tr[i]?=some p->p.1=nm->t.k.cs.length<=900->p.2.ln.pg.length<=900->((iU p.2.ln).map (·.tk)).Nodup->wait p.2.ln=r++[m]->((∀c∈wait p.2.ln,c.tk=m.tk->Pd tL c.fi zs))->(∀H',iC Z C S K H' s (d.put i p (k_ m.tk zs p.2.ln))->Fr s s H H'->Q .non H')->Ql Z C S K vs H Q E
def JB:cI ["stand","handed","name","values","track"] ["stand","handed"] (bK (top 95)):=by ext
def Wf(F:gU K "do_fill" "do_fill" (top 95) f fd)(T:Txt K mg)(L:LZ K mg Z)(TZ:TZ K mg C)(SZ:SZ K mg S)(ne:yN Z C S)(cn:Ul Z C)
 (N:MD K S "track_of" "Stand.track_of" (sM 1) ["self","name"] Y n)(MP:MD K C "top" "Track.top" (tM 1) ["self"] fP o)(GP:cz P w K mg base dM 4 fP o ["self"] (B_ Z C K))
 (MF:MD K Z.l "fill" "Lane.fill" (lM 9) ["self","ticket","values"] fF x)(GF:cz P w K mg base dM 4 fF x ["self","ticket","values"] (Ox Z)):cz P w K mg base dM 5 f fd ["stand","handed"] (Ql Z C S K):=by
 have GT:cz P w K mg base dM 1 Y n ["self","name"] (uf Z C S K):=vB N.F SZ;refine F.ok JB 01 λz A B s H vs Q E D h=>?_;obtain⟨a,d,h,b,nm,i,t,p,r,m,zs,rfl,sq,hb,y,j,M,rfl,O,R,nd,U,fz,q⟩:=h;have J:dX 1 _:=D.mono 02;refine⟨_,(b7 (m9 003 (ii rfl (d8 (kJ 2 JB.nd) (d8 (kJ 3 JB.nd) gj)))) (b7 (j8 4 JB.nd (eV (E:=E0) 06 SZ.c N.M GT J N.b .nil dC (aK 010 b_))) (c7 (eE (eV (E:=E0) (cU (pv 4) rfl) L.lc MF.M GF D MF.b .nil dC (aK (eG (E:=E0) (pv 4) TZ.c MP.M GP D MP.b .nil dC) (aK (pv 3) b_))))))),?_⟩;obtain⟨dx,v,e,rv⟩:=y.ob;refine⟨9,h,9,sq,8,7,7,8,?_⟩;refine⟨9,a.a,dx,9,e,8,9,a,d,p.1,i,t,p,8,y,j,M,8,?_⟩;obtain⟨p0,l,tk⟩:=y.tr.at j;rw[M]at l;cases l;obtain⟨W,vT,X,_⟩:=id tk.ob;obtain⟨dl,el⟩:=tk.ln.ob;refine⟨9,t.a,C,W,7,X,TZ.c,TZ.t1,8,t.k.a,dl,9,el,8,9,t.a,W,9,X,8,t,p.2,r,m,8,tk,O,R,U,λH1 G=>?_⟩;refine⟨9,t.k,p.2.ln,m.tk,b,zs,8,tk.ln.same G,O,R,nd,⟨m,by rw[U];simp,8⟩,G _ _ hb,fz,λH2 I mv=>?_⟩;have c:=(Mv.same (Z:=Z) (k:=t.k) G).trans mv;have hs:({a with ts:=a.ts.set i ⟨t.a,t.k⟩}:SA)=a:=by have:a.ts.set i ⟨t.a,t.k⟩=a.ts:=mG j;rw[this]
 have g:=y.move L.ok ne cn j M c I;have fr:=c.frm j;rw[hs]at g fr;exact q H2 g fr
noncomputable def iC.same(b:iC Z C S K H s d)(q:cu H H'):iC Z C S K H' s d:=by obtain⟨c,v,e,f⟩:=b.ob;exact⟨⟨c,v,q _ _ e,f.same q⟩,q _ _ b.ek,b.kn.map (λa p⟨t,h⟩=>⟨t,h.kt (cu.kt q)⟩),q _ _ b.et,b.tr.map (λ_ _ h=>h.same q),q _ _ b.ec,b.nm,b.nk,b.dj,b.nh,b.nt,b.n1,b.n2,b.n3⟩
theorem Kz(h:TD d):o9 d=true:=by
 induction h with
 |str _ _=>rfl
 |int _ _=>rfl
 |nil=>rfl
 | @node f r _ _ _ _ a=>
   have:∀l:List PyData,(∀e∈l,o9 e=true)->sI l=true:=λl=>by
    induction l with
    |nil=>intro _;rfl
    |cons x t b=>intro h;show(o9 x&&sI t)=true;rw[h x (aan ..),b λe m=>h e (aai _ m)];rfl
   show(o9 (.str f)&&sI r)=true;rw[this r a];rfl
noncomputable def iC.setS(ne:yN Z C S)(c:iC Z C S K H s d)(m:o=.ins S j (yO d'.pg d'.rm s.dk s.dt s.dc d'.still v))(n:Rep K H v d'.halt)(i:d'.kn=d.kn)(g:d'.tr=d.tr)(q:o9 d'.halt=true):iC Z C S K (upd H s.a o) s d':=by
 obtain⟨l,r,e,_⟩:=c.ob;have sd:gJ S H (upd H s.a o):=gJ.put e (.inr ⟨7⟩);have dk:∀{b f},H b=some (.dK f)->upd H s.a o b=some (.dK f):=λh=>by rw[b8 (λz=>by rw[z,e]at h;cases h)];exact h
 refine⟨⟨j,v,by rw[m];exact a_,sd.rep n⟩,by rw[i];exact dk c.ek,by rw[i];exact c.kn.map (λa p⟨t,h⟩=>⟨t,h.kt (sd.kt ne.k)⟩),by rw[g];exact dk c.et,by rw[g];exact c.tr.map (λ_ _ h=>h.sd ne sd),dk c.ec,by rw[g];exact c.nm,by rw[i];exact c.nk,c.dj,q,by rw[g];exact c.nt,c.n1,c.n2,c.n3⟩
def Fr.upd(m:b∈s.all):Fr s s H (upd H b o):=by
 refine⟨λc u e n=>by rw[b8 (λz=>n (by rw[z];exact m))];exact e,λc m=>.inl m,λc e=>?_,8⟩;by_cases z:c=b
 ·rw[z,a_]at e;cases e
 ·rw[b8 z]at e;exact e
noncomputable def kY(nm:Str)(fs:List j9)(a:List Int):PyData->Bool
 |.none=>false
 |t=>VL nm fs a t
inductive lB:PyData->Prop
 |no:lB .none
 |te {t:PyData}:TD t->kE t=true->lB t
inductive Rm(Z:LC)(C S:Zl)(K:Zs)(vs:List V)(H:Hp)(Q:VK)(E:XK):Prop
 |mk (s:SA) (d:Sd) (h:Zl) (nm:Str) (i j:Nat) (t:TA) (p:Str×Tk) (q:Str×List j9) (m:Cl):vs=[.ref s.a,.ref h]->e_ K H h [.str nm]->iC Z C S K H s d->s.ts[i]?=some t->d.tr[i]?=some p->p.1=nm->p.2.ts=tX->lB d.halt->d.still=false->d.kn[j]?=some q->q.2.length<=4->t.k.cs.length<=900->p.2.ln.pg.length<=900->((iU p.2.ln).map (·.tk)).Nodup->wait p.2.ln=[m]->m.nm=q.1->m.vs.length=q.2.length->(∀H',iC Z C S K H' s {d.put i p (rJ m.tk p.2.ln)with still:=kY q.1 q.2 m.vs d.halt}->Fr s s H H'->Q (.bl true) H')->Rm Z C S K vs H Q E
def yz:cI ["stand","handed","track","ticket","time","kind","values","form","tally"] ["stand","handed"] (bK (top 96)):=by ext
theorem W9(F:gU K "do_give" "do_give" (top 96) f fd)(L:LZ K mg Z)(TZ:TZ K mg C)(SZ:SZ K mg S)(ne:yN Z C S)(cn:Ul Z C)
 (MT:MD K S "track_of" "Stand.track_of" (sM 1) ["self","name"] fT fdT)(MK:MD K S "kind_of" "Stand.kind_of" (sM 2) ["self","name"] fK fdK)
 (MP:MD K C "top" "Track.top" (tM 1) ["self"] fP fdP)(GP:cz P w K mg base dM 4 fP fdP ["self"] (B_ Z C K))
 (ME:MD K Z.l "event" "Lane.event" (lM 17) ["self","ticket"] fE fdE)(GE:cz P w K mg base dM 4 fE fdE ["self","ticket"] (Qp Z))
 (MG:MD K Z.l "give" "Lane.give" (lM 10) ["self","ticket"] fG fdG)(GG:cz P w K mg base dM 5 fG fdG ["self","ticket"] (Qh Z))
 (DS:fj K mg "passes" (top 75) ["test","kind","values"] fS fdS)(DL:fj K mg "passes_leaf" (top 76) ["leaf","kind","values"] fL fdL)(GL:cz P w K mg base dM 2 fL fdL ["leaf","kind","values"] (Mq K Z.k)):cz P w K mg base dM 8 f fd ["stand","handed"] (Rm Z C S K):=by
 have GT:cz P w K mg base dM 1 fT fdT ["self","name"] (uf Z C S K):=vB MT.F SZ;have GK:cz P w K mg base dM 1 fK fdK ["self","name"] (Cj Z C S K):=Gi MK.F SZ;have GS:cz P w K mg base dM 7 fS fdS ["test","kind","values"] (KY K Z.k 5):=Uq DS DL GL 5;refine F.ok yz 01 λcdv A outer s H vs Q E hr h=>?_;obtain⟨sa,d,h,nm,i,j,t,p,kq,m,rfl,sq,st,ht,hp,rfl,ets,hok,hst,hj,fl,tl,pl,nd,ew,hnm,vl,q⟩:=h;have hr1:dX 1 _:=hr.mono 02;have hr4:dX 4 _:=hr.mono 02;have hr5:dX 5 _:=hr.mono 02;have hr7:dX 7 _:=hr.mono 02;refine⟨_,(b7 (j8 2 yz.nd (eV (E:=E0) 06 SZ.c MT.M GT hr1 MT.b .nil dC (aK (d_ eO 003 cj) b_))) (b7 (j8 3 yz.nd (eG (E:=E0) 010 TZ.c MP.M GP hr4 MP.b .nil dC)) (b7 (m9 (eV (E:=E0) (cU 010 rfl) L.lc ME.M GE hr4 ME.b .nil dC (aK (pv 3) b_)) (ii rfl (d8 (kJ 4 yz.nd) (d8 (kJ 5 yz.nd) (d8 (kJ 6 yz.nd) gj))))) (b7 (j8 7 yz.nd (eV (E:=E0) 06 SZ.c MK.M GK hr1 MK.b .nil dC (aK (pv 5) b_))) (b7 (dU (ju (gZ (j4 DS GS hr7 (aK (cU 010 rfl) (aK (pv 7) (aK (pv 6) b_)))))) (b7 eU (c7 eU)) d9) (b7 (eE (eV (E:=E0) (cU 010 rfl) L.lc MG.M GG hr5 MG.b .nil dC (aK (pv 3) b_))) (b7 (R8 (jy abh rfl (Ef (Ab PySem.F.slot_dict_values PySem.F.type_dict_values Eb 03)) (kJ 8 yz.nd) (c7 eU))) (b7 (dU (PW.pt (o7 (dg qm 03 iZ (di _)) (n8 (gZ (j4 DS GS hr7 (aK 03 (aK (pv 7) (aK (pv 6) b_)))))))) (c7 (dz 06 j5 rfl)) d9) (c7 (cW j5)))))))))),?_⟩;obtain⟨dx,v,e,rv⟩:=st.ob;obtain⟨p0,hp0,tk⟩:=st.tr.at ht;rw[hp]at hp0;cases hp0;obtain⟨dT,vT,eT,rT⟩:=id tk.ob;obtain⟨dl,el⟩:=tk.ln.ob;refine⟨9,sa.a,dx,9,e,8,9,h,_,7,8,sq,8,sa,d,p.1,i,t,p,8,st,ht,hp,8,?_⟩;refine⟨9,t.a,dT,9,eT,8,t,p.2,[],m,8,tk,tl,pl,ew,λH1 s1=>?_⟩;refine⟨9,t.a,C,dT,7,s1 _ _ eT,TZ.c,TZ.t1,8,t.k.a,dl,9,s1 _ _ el,8,9,t.k,p.2.ln,m.tk,8,tk.ln.same s1,tl,pl,⟨m,by rw[ew];simp,8⟩,λx y m' H2 s2 mm em ex ey=>?_⟩;rw[ew]at mm;cases aal.mp mm;have S2:=s1.trans s2;refine⟨x,9,e_.of ex,8,7,7,7,8,?_⟩;obtain⟨ak,hak,tak,kak⟩:=st.kn.at' hj;refine⟨9,sa.a,dx,9,S2 _ _ e,8,9,sa,d,m.nm,j,ak,kq,8,st.same S2,hak,hj,hnm.symm,?_⟩;rw[ets]at rT;obtain⟨q0,eq0⟩:∃q0,vT=.ref q0:=by cases rT with|@tup a _ _ _ _=>exact⟨a,8⟩
 subst eq0;have tdA:TD tX:=.node (by unfold Jq;decide+kernel) 01 (aaU _) (λ_ m=>by cases m);refine⟨9,t.a,C,dT,7,S2 _ _ eT,TZ.c,TZ.t3,8,9,9,q0,ak,tak,y,"all",kq.1,[],kq.2,m.vs,8,⟨rT.same S2,tdA,01,01,kak.same S2,fl,ey,vl⟩,λH3 s3=>?_⟩;have S3:=S2.trans s3;rw[show gC kq.1 kq.2 m.vs 5 "all" []=true from rfl];have hs:({sa with ts:=sa.ts.set i ⟨t.a,t.k⟩}:SA)=sa:=by have:sa.ts.set i ⟨t.a,t.k⟩=sa.ts:=mG ht;rw[this]
 refine⟨9,gB rfl ?_⟩;refine⟨9,t.a,C,dT,7,S3 _ _ eT,TZ.c,TZ.t1,8,t.k.a,dl,9,S3 _ _ el,8,9,t.k,p.2.ln,m.tk,8,tk.ln.same S3,tl,pl,nd,⟨[],m,ew,8⟩,λH4 ln3 mv=>?_⟩;have mv':=(Mv.same (Z:=Z) (k:=t.k) S3).trans mv;have st3:=st.move L.ok ne cn ht hp mv' ln3;have fr3:=mv'.frm ht;rw[hs]at st3 fr3;have ey4:H4 y=some (.tup (m.vs.map V.int)):=(tk.ln.same S3).tks L.ok mv _ _ (s3 _ _ ey);obtain⟨kq',hj',t4,kak4⟩:=st3.kn.at hak;cases hj.symm.trans hj';obtain⟨d3,v3,e3,r3⟩:=st3.ob;refine⟨sa.dc,[],st3.ec,λo=>?_⟩;have na:sa.a≠sa.dc:=λz=>by have:=st3.ec;rw[<-z,e3]at this;cases this
 refine⟨9,sa.a,S,d3,7,(by rw[b8 na];exact e3),SZ.c,SZ.s5,8,⟨sa.dc,o,[],8,a_⟩,sa.dc,o,[],8,8,a_,λvw hvw=>?_⟩;have nv:sa.dc≠vw:=cg a_ hvw;have hvw3:H4 vw=none:=by rw[b8 nv.symm]at hvw;exact hvw
 refine⟨vw,sa.dc,o,[],8,a_,(by rw[b8 nv];exact a_),?_⟩;have S5:cu H4 (upd (upd (upd H4 sa.dc (.frz o (.dK []))) vw (um vw sa.dc)) sa.dc (.dK [])):=λb u eb=>by
  by_cases z:b=sa.dc
  ·subst z;rw[st3.ec]at eb;cases eb;exact a_
  ·rw[b8 z,b8 (cg eb hvw3),b8 z];exact eb
 refine zp (λj σ' H'=>(∃v,σ'=_)/\H'=upd (upd H4 sa.dc (.frz o (.dK []))) vw (um vw sa.dc)) ⟨⟨(),8⟩,8⟩ (λj σ' H' _ z=>by rw[z.2,b8 nv];exact a_) (λj x σ' H' hx _=>by simp at hx) ?_;rintro σ' H'⟨⟨_,rfl⟩,rfl⟩;refine⟨by rw[b8 nv];exact a_,?_⟩;have st5:=st3.same S5;have fr5:=fr3.trans (Fr.same S5);generalize upd (upd (upd H4 sa.dc (.frz o (.dK []))) vw (um vw sa.dc)) sa.dc (.dK [])=H5 at st5 fr5 S5;have q0:kY kq.1 kq.2 m.vs d.halt=false->∀H',cu H5 H'->Q (.bl true) H':=λhb H' s6=>by rw[hb,<-hst]at q;exact q _ (st5.same s6) (fr5.trans (Fr.same s6))
 refine⟨9,sa.a,S,d3,7,S5 _ _ e3,SZ.c,SZ.s7,8,8,9,?_⟩;have r3:Rep K H4 v3 d.halt:=r3;generalize hhl:d.halt=dh at r3 hok q q0;cases hok with
 | no=>cases r3;exact gB rfl (gB rfl (q0 rfl _ (.refl _)))
 | te td te=>
   obtain⟨f1,r1,ef⟩:=jf td (by unfold kE at te;simp only[aaM]at te;exact te.1);subst ef;obtain⟨q1,rfl⟩:∃q1,v3=.ref q1:=by cases r3 with|@tup a _ _ _ _=>exact⟨a,8⟩
   have b5:gb (.tuple (.str f1::r1))=true/\gY (.tuple (.str f1::r1))<=5:=by unfold kE at te;simp only[aaM,aa8]at te;exact⟨te.1,te.2.1⟩
   refine iM rfl ?_;refine⟨9,sa.a,S,d3,7,S5 _ _ e3,SZ.c,SZ.s7,8,9,9,q1,ak,t4,y,f1,kq.1,r1,kq.2,m.vs,8,⟨r3.same S5,td,b5.1,b5.2,kak4.same S5,fl,S5 _ _ ey4,vl⟩,λH6 s6=>?_⟩;have pT:kY kq.1 kq.2 m.vs (.tuple (.str f1::r1))=gC kq.1 kq.2 m.vs 5 f1 r1:=rfl;rw[<-pT];refine⟨9,?_⟩;cases hb:kY kq.1 kq.2 m.vs (.tuple (.str f1::r1))with
   |false=>exact gB rfl (q0 hb _ s6)
   | true=>rw[hb]at q;refine iM rfl ?_;have st6:=st5.same s6;obtain⟨d6,v6,e6,r6⟩:=st6.ob;refine⟨9,sa.a,S,d6,9,e6,SZ.c,SZ.s6,(show 7<1000 by decide),?_⟩;exact q _ (st6.setS (d':={d.put i p (rJ m.tk p.2.ln)with still:=true}) ne rfl r6 rfl rfl st6.nh) ((fr5.trans (Fr.same s6)).trans (Fr.upd (aan ..)))
end
def oK{n:Ln}(ne:n.pg≠[]):∃r h,n.pg=r++[h]/\n.pg[n.pg.length-1]?=some h:=by
 rcases List.eq_nil_or_concat n.pg with e|⟨r,h,e⟩
 ·exact absurd e ne
 ·rw[List.concat_eq_append]at e;exact⟨r,h,e,by rw[e];simp⟩
def EY(e:n.pg=r++[h]):rP c z n={n with pg:=r++[{h with cs:=h.cs++[c],us:=h.us+z}]}:=by
 have a:n.pg[n.pg.length-1]?=some h:=by rw[e];simp
 unfold rP;rw[a];show({n with pg:=n.pg.set (n.pg.length-1) _}:Ln)=_;rw[e];simp
theorem Fq{f:List Cl->List Cl}:∀{a:List Pg},(∀p∈a,f p.cs=p.cs)->(a.map λp=>({p with cs:=f p.cs}:Pg))=a
 |[],_=>rfl
 | p::r,h=>by rw[aay,Fq λx m=>h x (aai _ m),h p (aan ..)]
structure Hl(fs:List j9)(tm:Int)(zs:List Int)(n:Ln):Prop where
 co:W8 n tm
 mo:(n.pg.length:Int)-vo n<n.most
 wt:wait n=[]
 pl:n.pg.length<=800
 cl:(iU n).length<=800
 nd:((iU n).map (·.tk)).Nodup
 lt:∀c∈iU n,c.tk<=n.tks
 fz:Pd tL fs zs
def wY(c:Cl)(sz:Int)(r:List Pg)(h:Pg)(n:Ln):Ln:={n with last:=some c.tm,tks:=n.tks+1,pg:=r++[{h with cs:=h.cs++[c],us:=h.us+sz}]}
def Jr(nm:Str)(fs:List j9)(a:Int)(b:List Int)(n:Ln)(r:List Pg)(h:Pg):Ln:={wY {eZ (n.tks+1) a nm fs with vs:=b,gv:=true} 001 r h n with giv:=n.giv+1}
def WT(fs:List j9)(n:Ln)(r:List Pg)(h:Pg):Prop:=(n.pg=r++[h]/\h.us+001<=n.room)\/(n.pg=r/\h=⟨[],0,0⟩/\n.room<Mm n+001)
section
variable{nm:Str}{fs:List j9}{tm:Int}{zs:List Int}{n:Ln}
def Cy(w:Hl fs tm zs n):∃r h,mW nm fs tm n=(some (n.tks+1),wY (eZ (n.tks+1) tm nm fs) 001 r h n)/\iU n=(r++[h]).flatMap (·.cs)/\r.length<=800/\WT fs n r h:=by
 obtain⟨r,h,e,f⟩:=oK w.co.ne;have c:Mm n=h.us:=by unfold Mm;rw[f];rfl
 have hu1:Mm {n with last:=some tm,tks:=n.tks+1}=h.us:=c;have d:=w.pl;have g:r.length+1=n.pg.length:=by rw[e];simp
 by_cases b:h.us+001<=n.room
 ·have a:ir 001 {n with last:=some tm,tks:=n.tks+1}=(true,{n with last:=some tm,tks:=n.tks+1}):=by unfold ir;rw[hu1];exact aac b
  refine⟨r,h,?_,by unfold iU;rw[e],05,.inl ⟨e,b⟩⟩;unfold mW;dsimp only;rw[a,aac rfl,EY (n:={n with last:=some tm,tks:=n.tks+1}) e];rfl
 ·have a:ir 001 {n with last:=some tm,tks:=n.tks+1}=(true,nT {n with last:=some tm,tks:=n.tks+1}):=by unfold ir;rw[hu1];exact(aab b).trans (aab (Int.not_le.mpr w.mo))
  refine⟨n.pg,⟨[],0,0⟩,?_,by unfold iU;simp,d,.inr ⟨8,8,by rw[c];omega⟩⟩;unfold mW;dsimp only;rw[a,aac rfl,EY (n:=nT {n with last:=some tm,tks:=n.tks+1}) (r:=n.pg) (h:=⟨[],0,0⟩) rfl];rfl
theorem Hv{f:List Cl->List Cl}(e:f []=[])(g:∀a b,f (a++b)=f a++f b):∀d:List Cl,(∀c∈d,f [c]=[c])->f d=d
 |[],_=>e
 | c::r,h=>by rw[<-List.singleton_append,g,h c (aan ..),Hv e g r λx m=>h x (aai _ m)]
def H_{f:List Cl->List Cl}{r:List Pg}{h:Pg}{u:Int}{c:Cl}(i:f []=[])(g:∀a b,f (a++b)=f a++f b)(d:∀c∈(r++[h]).flatMap (·.cs),f [c]=[c]):
 (r++[({h with cs:=h.cs++[c],us:=u}:Pg)]).map (λp=>({p with cs:=f p.cs}:Pg))=r++[({h with cs:=h.cs++f [c],us:=u}:Pg)]:=by
 rw[aaA,Fq λp m=>Hv i g _ λc e=>d c (aaN.mpr ⟨p,aaL _ m,e⟩)];show r++[({h with cs:=f (h.cs++[c]),us:=u}:Pg)]=_;rw[g,Hv i g h.cs λc e=>d c (aaN.mpr ⟨h,04,e⟩)]
def JV(lt:∀c∈(r++[h]).flatMap (·.cs),c.tk<=n.tks):
 rJ (n.tks+1) (k_ (n.tks+1) zs (wY (eZ (n.tks+1) tm nm fs) 001 r h n))=Jr nm fs tm zs n r h:=by
 have ne:∀c∈(r++[h]).flatMap (·.cs),¬c.tk=n.tks+1:=λc m z=>by have:=lt c m;omega
 have d:k_ (n.tks+1) zs (wY (eZ (n.tks+1) tm nm fs) 001 r h n)=wY {eZ (n.tks+1) tm nm fs with vs:=zs} 001 r h n:=by unfold k_ wY;dsimp only;rw[H_ (f:=λcs=>cs.map (iY (n.tks+1) zs)) rfl (λa b=>aaA ..) λc m=>by show[iY _ _ c]=_;rw[iY,aab (ne c m)]];show({n with last:=_,tks:=_,pg:=r++[({h with cs:=h.cs++[iY (n.tks+1) zs (eZ (n.tks+1) tm nm fs)],us:=_}:Pg)]}:Ln)=_;rw[show iY (n.tks+1) zs (eZ (n.tks+1) tm nm fs)={eZ (n.tks+1) tm nm fs with vs:=zs}from aac rfl]
 rw[d];unfold Jr rJ wY;dsimp only;rw[H_ (f:=λcs=>cs.map (lL (n.tks+1))) rfl (λa b=>aaA ..) λc m=>by show[lL _ c]=_;rw[lL,aab (ne c m)]];show({n with last:=_,tks:=_,pg:=r++[({h with cs:=h.cs++[lL (n.tks+1) {eZ (n.tks+1) tm nm fs with vs:=zs}],us:=_}:Pg)],giv:=_}:Ln)=_;rw[show lL (n.tks+1) {eZ (n.tks+1) tm nm fs with vs:=zs}={eZ (n.tks+1) tm nm fs with vs:=zs,gv:=true}from aac rfl]
def Gm(w:Hl fs tm zs n)(e:iU n=(r++[h]).flatMap (·.cs)):
 iU (wY (eZ (n.tks+1) tm nm fs) sz r h n)=iU n++[eZ (n.tks+1) tm nm fs]/\((iU (wY (eZ (n.tks+1) tm nm fs) sz r h n)).map (·.tk)).Nodup/\wait (wY (eZ (n.tks+1) tm nm fs) sz r h n)=[eZ (n.tks+1) tm nm fs]:=by
 have f:iU (wY (eZ (n.tks+1) tm nm fs) sz r h n)=iU n++[eZ (n.tks+1) tm nm fs]:=by rw[e];unfold iU wY;simp[aa1]
 have i:∀(d:List Pg),(d.flatMap λp=>vL p.cs)=vL (d.flatMap (·.cs)):=λd=>by
  induction d with
  |nil=>rfl
  |cons p d o=>rw[aaI,aaI,o];unfold vL;rw[ack]
 refine⟨f,?_,?_⟩
 ·rw[f,aaA];refine abj.mpr ⟨w.nd,04,λa l b g z=>?_⟩;obtain⟨c,m,rfl⟩:=aao.mp l;have g:b=n.tks+1:=by simpa[eZ]using g
  have:=w.lt c m;omega
 ·have j:vL (iU n)=[]:=by have:=w.wt;unfold wait at this;rw[i]at this;exact this
  unfold wait;rw[i];show vL (iU (wY (eZ (n.tks+1) tm nm fs) sz r h n))=_;rw[f];unfold vL at j|-;rw[ack,j];rfl
end
section
variable{P:ZE}{w:ZH}{K:Zs}{mg:Y1}{base:ZN}{Z:LC}{C S:Zl}{H H' H'':Hp}
def dN.cs_len(d:dN Z H k n):k.cs.length=(iU n).length:=by
 have:∀{a:List PA}{b:List Pg},Pd (iR Z H) a b->(a.flatMap (·.cs)).length=(b.flatMap (·.cs)).length:=by
  intro a b h;induction h with
  |nil=>rfl
  |cons r _ c=>rw[aaI,aaI,aaw,aaw,c,r.cs.len]
 exact this d.pg
noncomputable def iC.cs_len{s:SA}{d:Sd}{i:Nat}{t:TA}{p:Str×Tk}(b:iC Z C S K H s d)(c:s.ts[i]?=some t)(e:d.tr[i]?=some p):t.k.cs.length=(iU p.2.ln).length:=by obtain⟨f,a,tk⟩:=b.tr.at c;rw[e]at a;cases a;exact tk.ln.cs_len
def Br{d:Sd}:(d.put i p n).put i (p.1,{p.2 with ln:=n}) a=d.put i p a:=by unfold Sd.put;dsimp only;rw[List.set_set]
def yZ{d:Sd}(a:d.tr[i]?=some p):(d.put i p n).tr[i]?=some (p.1,{p.2 with ln:=n}):=by unfold Sd.put;dsimp only;rw[aca,aac rfl,aac (aaD.mp a).1]
noncomputable def iC.here(c:iC Z C S K H s d)(m:b∈s.all):(∃C g fs,H b=some (.ins C g fs))\/(∃j,H b=some (.lst j))\/∃a,H b=some (.dK a)/\(a.length<=d.kn.length\/a.length<=d.tr.length):=by
 rcases aag.mp m with h|m
 ·obtain⟨_,_,e,_⟩:=c.ob;rw[h];exact .inl ⟨_,_,_,e⟩
 rcases aag.mp m with h|m
 ·rw[h];exact .inr (.inr ⟨_,c.ek,.inl (by unfold CQ;simp;omega)⟩)
 rcases aag.mp m with h|m
 ·rw[h];exact .inr (.inr ⟨_,c.et,.inr (by unfold mC;simp;omega)⟩)
 rcases aag.mp m with h|m
 ·rw[h];exact .inr (.inr ⟨_,c.ec,.inl (aaU _)⟩)
 obtain⟨t,l,f⟩:=aaN.mp m;obtain⟨i,n⟩:=aau.mp l;obtain⟨q,_,tk⟩:=c.tr.at n;rcases aag.mp f with h|f
 ·obtain⟨_,_,e,_⟩:=tk.ob;rw[h];exact .inl ⟨_,_,_,e⟩
 ·rcases aam.mp f with h|h
  ·exact .inl (tk.ln.own_ls h)
  ·exact .inr (.inl (tk.ln.has_ls h))
def iC.no_tup(a:iC Z C S K H s d)(e:H b=some (.tup c)):b∉s.all:=by intro m;rcases a.here m with⟨_,_,_,h⟩|⟨_,h⟩|⟨_,h,_⟩<;>(rw[e]at h;cases h)
theorem uX:∀(a:List Pg),(a.map λp=>({p with cs:=p.cs.map (iY tk b)}:Pg)).flatMap (·.cs)=(a.flatMap (·.cs)).map (iY tk b)
 |[]=>rfl
 |p::a=>by rw[aay,aaI,aaI,aaA,uX a]
def BX:(iY tk a c).tk=c.tk/\(iY tk a c).nm=c.nm/\(iY tk a c).gv=c.gv:=by unfold iY;split<;>exact⟨8,8,8⟩
theorem yG:∀(b:List Pg),(b.map λp=>({p with cs:=p.cs.map (iY tk a)}:Pg)).flatMap (λp=>vL p.cs)=(b.flatMap λp=>vL p.cs).map (iY tk a)
 |[]=>rfl
 | p::b=>by
   rw[aay,aaI,aaI,aaA,yG b];have:vL (p.cs.map (iY tk a))=(vL p.cs).map (iY tk a):=by unfold vL;rw[List.filter_map];congr 1;exact List.filter_congr λc _=>by show(!(iY tk a c).gv)=_;rw[BX.2.2]
   rw[this]
inductive Ku(Z:LC)(C S:Zl)(K:Zs)(cS:Zl)(vs:List V)(H:Hp)(Q:VK)(E:XK):Prop
 |mk (s:SA) (d:Sd) (h b:Zl) (nm kd:Str) (i j:Nat) (t:TA) (p:Str×Tk) (q:Str×List j9) (zs:List Int):vs=[.ref s.a,.ref h]->e_ K H h [.str nm,.str kd,.ref b]->H b=some (.tup (zs.map V.int))->iC Z C S K H s d->s.ts[i]?=some t->d.tr[i]?=some p->p.1=nm->d.kn[j]?=some q->q.1=kd->lB d.halt->sS q.1 q.2->Hl q.2 p.2.ck zs p.2.ln->p.2.ts=tX->(d.still=true->∀da H1 H',cu H H1->rH H1 [("word",.str "stopped")] da H'->E (.ref cS) (some da) H')->(d.still=false->∀r h s' H',WT q.2 p.2.ln r h->iC Z C S K H' s' {d.put i p (Jr q.1 q.2 p.2.ck zs p.2.ln r h)with still:=kY q.1 q.2 zs d.halt}->Fr s s' H H'->Q (.bl true) H')->Ku Z C S K cS vs H Q E
def JR:cI ["stand","handed","name","kind","values"] ["stand","handed"] (bK (top 98)):=by ext
def Tc{f fC fF fG cS:Zl}{fd fdC fdF fdG:ZB}(F:gU K "do_write" "do_write" (top 98) f fd)
 (DC:fj K mg "do_claim" (top 94) ["stand","handed"] fC fdC)(GC:cz P w K mg base (mz P w) 9 fC fdC ["stand","handed"] (Qz Z C S K cS))
 (DF:fj K mg "do_fill" (top 95) ["stand","handed"] fF fdF)(GF:cz P w K mg base dM 5 fF fdF ["stand","handed"] (Ql Z C S K))
 (DG:fj K mg "do_give" (top 96) ["stand","handed"] fG fdG)(GG:cz P w K mg base dM 8 fG fdG ["stand","handed"] (Rm Z C S K)):cz P w K mg base (mz P w) 10 f fd ["stand","handed"] (Ku Z C S K cS):=by
 refine F.ok1 JR 01 λcdv A outer s H vs Q E hr h=>?_;obtain ⟨sa,d,h,b,nm,kd,i,j,t,p,r,zs,rfl,sq,hb,st,ht,hp,rfl,hj,rfl,hok,ko,wo,ets,qT,q⟩:=h;have hr5:dX 5 _:=hr.mono 02;have hr8:dX 8 _:=hr.mono 02;refine ⟨_,(b7 (m9 003 (ii rfl (d8 (kJ 2 JR.nd) (d8 (kJ 3 JR.nd) (d8 (kJ 4 JR.nd) gj))))) (b7 (dU (dg sJ (gf (E:=E) GC hr rfl DC.mg DC.F.kp DC.b .nil (oG λ_ _ _ h=>h) (aK 06 (aK (gF (aK 010 (aK (pv 3) b_))) b_))) iZ (di _)) (c7 eU) d9) (b7 (eE (j4 DF GF hr5 (aK 06 (aK (gF (aK 010 (aK (pv 4) b_))) b_)))) (c7 (cW (j4 DG GG hr8 (aK 06 (aK (gF (aK 010 b_)) b_)))))))),?_⟩;refine ⟨9,h,9,sq,8,7,7,7,8,?_⟩;refine ⟨9,9,9,01,λx hx=>?_⟩;have sx:=cu.new (o:=.tup [.str p.1,.str r.1]) hx;refine ⟨sa,d,x,p.1,r.1,i,j,t,p,r,8,e_.of a_,st.same sx,ht,hp,8,hj,8,ko,wo.co,λhs da H' th=>qT hs da _ H' sx th,λhs k' H1 s1 f1=>?_⟩
 replace q:=q hs
 have F1:=(Fr.same (s:=sa) sx).trans f1;obtain ⟨pr,ph,ec,ecl,pl,spl⟩:=Cy (nm:=r.1) wo;rw [ec]at s1|-;refine ⟨8,9,gB rfl ?_⟩;generalize hn1:wY (eZ (p.2.ln.tks+1) p.2.ck r.1 r.2) (1+(r.2.length:Int)) pr ph p.2.ln=n1 at s1;have s1:iC Z C S K H1 {sa with ts:=sa.ts.set i ⟨t.a,k'⟩} (d.put i p n1):=s1;obtain ⟨c1,nd1,w1⟩:=Gm (nm:=r.1) (sz:=1+(r.2.length:Int)) (r:=pr) (h:=ph) wo ecl;rw [hn1]at c1 nd1 w1;have il:i<sa.ts.length:=(aaD.mp ht).1;have ht1:(sa.ts.set i ⟨t.a,k'⟩)[i]?=some ⟨t.a,k'⟩:=by rw [aca,aac rfl,aac il]
 have hb1:H1 b=some (.tup (zs.map V.int)):=F1.kp b _ hb (st.no_tup hb);have pl1:n1.pg.length<=900:=by rw [<-hn1];unfold wY;simp;omega
 have cl0:=wo.cl;refine ⟨9,9,9,01,λy hy=>?_⟩;have sy:=cu.new (o:=.tup [.str p.1,.ref b]) hy;have hk1:k'.cs.length<=900:=by have:=s1.cs_len ht1 (yZ hp);rw [show (⟨t.a,k'⟩:TA).k=k' from rfl,c1]at this;simp at this;omega
 refine ⟨{sa with ts:=sa.ts.set i ⟨t.a,k'⟩},d.put i p n1,y,b,p.1,i,⟨t.a,k'⟩,(p.1,{p.2 with ln:=n1}),[],eZ (p.2.ln.tks+1) p.2.ck r.1 r.2,zs,8,e_.of a_,sy _ _ hb1,s1.same sy,ht1,yZ hp,8,hk1,pl1,nd1,w1,λc mc _=>?_,λH2 s2 f2=>?_⟩
 ·rw [w1]at mc;cases aal.mp mc;exact wo.fz
 have F2:=(F1.trans (Fr.same sy)).trans f2;rw [Br]at s2;have c2:iU (k_ (eZ (p.2.ln.tks+1) p.2.ck r.1 r.2).tk zs n1)=(iU n1).map (iY (p.2.ln.tks+1) zs):=uX n1.pg;have w2:wait (k_ (eZ (p.2.ln.tks+1) p.2.ck r.1 r.2).tk zs n1)=[{eZ (p.2.ln.tks+1) p.2.ck r.1 r.2 with vs:=zs}]:=by have:wait (k_ (eZ (p.2.ln.tks+1) p.2.ck r.1 r.2).tk zs n1)=(wait n1).map (iY (p.2.ln.tks+1) zs):=yG n1.pg;rw [this,w1];exact aaB (λc=>[c]) (aac rfl)
 have nd2:((iU (k_ (eZ (p.2.ln.tks+1) p.2.ck r.1 r.2).tk zs n1)).map (·.tk)).Nodup:=by rw [c2,aby];have:((λc:Cl=>c.tk)∘iY (p.2.ln.tks+1) zs)=λc:Cl=>c.tk:=funext λc=>BX.1;rw [this];exact nd1
 have pl2:(k_ (eZ (p.2.ln.tks+1) p.2.ck r.1 r.2).tk zs n1).pg.length<=900:=by unfold k_;simpa using pl1
 refine ⟨9,9,01,λz hz=>?_⟩;have sz:=cu.new (o:=.tup [.str p.1]) hz;refine ⟨{sa with ts:=sa.ts.set i ⟨t.a,k'⟩},d.put i p (k_ (eZ (p.2.ln.tks+1) p.2.ck r.1 r.2).tk zs n1),z,p.1,i,j,⟨t.a,k'⟩,(p.1,{p.2 with ln:=k_ (eZ (p.2.ln.tks+1) p.2.ck r.1 r.2).tk zs n1}),r,{eZ (p.2.ln.tks+1) p.2.ck r.1 r.2 with vs:=zs},8,e_.of a_,s2.same sz,ht1,yZ hp,8,ets,hok,hs,hj,ko.le,hk1,pl2,nd2,w2,8,wo.fz.len.symm,λH3 s3' f3=>?_⟩;rw [Br,<-hn1,show (eZ (p.2.ln.tks+1) p.2.ck r.1 r.2).tk=p.2.ln.tks+1 from rfl]at s3';dsimp only [eZ]at s3';have g3:=JV (nm:=r.1) (fs:=r.2) (tm:=p.2.ck) (zs:=zs) (n:=p.2.ln) (by rw [<-ecl];exact wo.lt);dsimp only [eZ]at g3;rw [g3]at s3';exact q pr ph _ _ spl s3' ((F2.trans (Fr.same sz)).trans f3)
inductive Ah(Z:LC)(C S:Zl)(K:Zs)(b:Bool)(vs:List V)(H:Hp)(Q:VK)(E:XK):Prop
 |mk (s:SA) (d:Sd) (x:V):vs=[.ref s.a,x]->iC Z C S K H s d->(∀H',iC Z C S K H' s {d with still:=b}->Fr s s H H'->Q .non H')->Ah Z C S K b vs H Q E
def Z8:cI ["stand","handed"] ["stand","handed"] (bK (top 104)):=by ext
noncomputable def Wc(F:gU K "do_stop" "do_stop" (top 104) f c)(SZ:SZ K mg S)(ne:yN Z C S):cz P w K mg base dM 1 f c ["stand","handed"] (Ah Z C S K true):=by refine F.ok Z8 01 λg A a s H vs Q E m h=>?_;obtain⟨i,d,x,rfl,b,q⟩:=h;refine⟨_,c7 (dz 06 j5 rfl),?_⟩;obtain⟨j,v,e,l⟩:=b.ob;exact⟨9,i.a,S,j,9,e,SZ.c,SZ.s6,(show 7<1000 by decide),q _ (b.setS (d':={d with still:=true}) ne rfl l rfl rfl b.nh) (Fr.upd (aan ..))⟩
def Ss:cI ["stand","handed"] ["stand","handed"] (bK (top 105)):=by ext
noncomputable def Rb(F:gU K "do_go" "do_go" (top 105) f c)(SZ:SZ K mg S)(ne:yN Z C S):cz P w K mg base dM 1 f c ["stand","handed"] (Ah Z C S K false):=by refine F.ok Ss 01 λg A a s H vs Q E m h=>?_;obtain⟨i,d,x,rfl,b,q⟩:=h;refine⟨_,c7 (dz 06 j5 rfl),?_⟩;obtain⟨j,v,e,l⟩:=b.ob;exact⟨9,i.a,S,j,9,e,SZ.c,SZ.s6,(show 7<1000 by decide),q _ (b.setS (d':={d with still:=false}) ne rfl l rfl rfl b.nh) (Fr.upd (aan ..))⟩
theorem lB.nl(h:lB t):o9 t=true:=by
 cases h with
 |no=>rfl
 |te a _=>exact Kz a
inductive Km(Z:LC)(C S:Zl)(K:Zs)(vs:List V)(H:Hp)(Q:VK)(E:XK):Prop
 |mk (s:SA) (d:Sd) (h:Zl) (x:V) (t:PyData):vs=[.ref s.a,.ref h]->e_ K H h [x]->Rep K H x t->lB t->iC Z C S K H s d->(∀H',iC Z C S K H' s {d with halt:=t}->Fr s s H H'->Q .non H')->Km Z C S K vs H Q E
def Ww:cI ["stand","handed","test"] ["stand","handed"] (bK (top 103)):=by ext
theorem V6(F:gU K "do_halt" "do_halt" (top 103) f fd)(SZ:SZ K mg S)(ne:yN Z C S)
 (DN:fj K mg "need_test" (top 74) ["test"] fN fdN)(GN:cz P w K mg base dM 11 fN fdN ["test"] (QF K 0)):cz P w K mg base dM 12 f fd ["stand","handed"] (Km Z C S K):=by
 refine F.ok Ww 01 λcdv A outer s H vs Q E hr h=>?_;obtain⟨sa,d,h,x,t,rfl,sq,rx,hk,st,q⟩:=h;refine⟨_,(b7 (j8 2 Ww.nd (d_ eO 003 cj)) (b7 (dU (dg qm 010 iZ (di _)) (c7 (eE (j4 DN GN hr (aK 010 b_)))) d9) (c7 (dz 06 010 rfl)))),?_⟩;have fin:∀H',cu H H'->∃dx' fs',H' sa.a=some (.ins S dx' fs')/\fs'.length<1000/\Q .non (upd H' sa.a (.ins S dx' (fX "halting" x fs'))):=λH' s1=>by have st1:=st.same s1;obtain⟨dx,v,e,rv⟩:=st1.ob;exact⟨dx,_,e,(show 7<1000 by decide),q _ (st1.setS (d':={d with halt:=t}) ne rfl (rx.same s1) rfl rfl hk.nl) ((Fr.same s1).trans (Fr.upd (aan ..)))⟩
 refine⟨9,h,_,7,8,sq,8,?_⟩;cases hk with
 | no=>cases rx;obtain⟨dx,fs,e,l,q⟩:=fin H (.refl _);exact⟨9,8,9,gB rfl ⟨9,9,sa.a,S,dx,fs,8,e,SZ.c,SZ.s7,l,q⟩⟩
 | te td te=>
   have nx:x≠.non:=λz=>by subst z;cases rx;exact absurd td (λh=>by cases h)
   refine⟨9,8,9,iM (by simp[nx]) ⟨9,x,t,8,rx,td,λ_ H1 s1=>?_,λz=>by rw[te]at z;cases z⟩⟩;obtain⟨dx,fs,e,l,q⟩:=fin H1 s1;exact⟨9,9,sa.a,S,dx,fs,8,e,SZ.c,SZ.s7,l,q⟩
inductive By(vs:List V)(H:Hp)(Q:VK)(E:XK):Prop
 |mk (nm:Str) (a:Zl) (kvs:List (Key×V)):vs=[.str nm,.ref a]->Nm nm->H a=some (.dK kvs)->jj kvs (Sum.inr nm)=none->Q .non H->By vs H Q E
def Vl:cI ["name","borne"] ["name","borne"] (bK (top 87)):=by ext
noncomputable def Qi(F:gU K "need_new" "need_new" (top 87) f j)(T:Txt K mg)(TK:tO mg)(z:fj K mg "is_name" (top 26) ["text"] y d)(l:fj K mg "need_name" (top 27) ["text"] i b):cz P w K mg base dM 3 f j ["name","borne"] By:=by
 have n:cz P w K mg base dM 2 i b ["text"] jW:=mZ l.F T TK z;refine F.ok Vl 01 λm A c s H vs Q E e h=>?_;obtain⟨nm,a,p,rfl,r,v,x,q⟩:=h;have o:=oO e;refine⟨_,(b7 (eE (j4 l n e (aK 06 b_))) (c7 (dU (zV (Q5 o 06 003)) (c7 eU) d9))),?_⟩;have g:j6 H a (.str nm) none:=by rw[<-x];exact j6.k (k:=Sum.inr nm) v
 refine⟨9,nm,8,r,9,9,a,9,g,9,?_⟩;exact lD (λh=>by cases h) (λ_=>q)
inductive Bx(vs:List V)(H:Hp)(Q:VK)(E:XK):Prop
 |mk (a:Zl) (kvs:List (Key×V)) (m:Int):vs=[.ref a,.int m]->H a=some (.dK kvs)->(kvs.length:Int)<m->Q .non H->Bx vs H Q E
def SQ:cI ["things","most"] ["things","most"] (bK (top 88)):=by ext
noncomputable def Ie(F:gU K "need_fewer" "need_fewer" (top 88) f d)(T:Txt K mg):cz P w K mg base dM 1 f d ["things","most"] Bx:=by refine F.ok SQ 01 λe A b s H vs Q E i h=>?_;obtain⟨a,c,m,rfl,g,j,q⟩:=h;refine⟨_,(c7 (dU (dg Gq (du Cq 004 T.len gK (aK 06 b_)) 003 (di _)) (c7 eU) d9)),?_⟩;refine⟨9,a,c,8,g,9,7,8,9,gB (by simp;omega) q⟩
def m_{a:List (Key×V)}{k:Key}{v:V}(h:∀p∈a,p.1≠k):putK a k v=a++[(k,v)]:=by unfold putK;rw[aab];intro z;obtain⟨p,m,e⟩:=ab4.mp z;exact h p m (acw e)
theorem IW{b c:Type}{f:b->V}{g:c->Str}:∀{a:List b} {tr:List c},(∀p∈tr,g p≠nm)->∀q∈List.zipWith (λt p=>((Sum.inr (g p):Key),f t)) a tr,q.1≠Sum.inr nm
 |[],_,_,q,m=>by simp at m
 |_::_,[],_,q,m=>by simp at m
 | t::a,p::tr,h,q,m=>by
   rw[abR]at m;rcases aag.mp m with rfl|m
   ·intro z;injection z with z
    exact h p (aan ..) z
   ·exact IW (λp m=>h p (aai _ m)) q m
structure Pk(mg:Y1):Prop where
 k:∃t,mg "MOST_KINDS"=some (.int 8 t)
 t:∃t,mg "MOST_TRACKS"=some (.int 6 t)
inductive K4(Z:LC)(C S:Zl)(K:Zs)(vs:List V)(H:Hp)(Q:VK)(E:XK):Prop
 |mk (s:SA) (d:Sd) (h fa:Zl) (nm:Str) (xs:List V) (fs:List j9):vs=[.ref s.a,.ref h]->e_ K H h [.str nm,.ref fa]->iC Z C S K H s d->(∀q∈d.kn,q.1≠nm)->Nm nm->H fa=some (.tup xs)->Paired (jw H) xs fs->fs.length<=4->(∀f∈fs,nU f)->(fs.map (·.1)).Nodup->d.kn.length<8->(∀a H',iC Z C S K H' {s with ks:=s.ks++[a]} {d with kn:=d.kn++[(nm,fs)]}->Fr s {s with ks:=s.ks++[a]} H H'->Q .non H')->K4 Z C S K vs H Q E
def Ri:cI ["stand","handed","name","fields"] ["stand","handed"] (bK (top 91)):=by ext
def V5{f fN fF fI:Zl}{fd y B D:ZB}(F:gU K "do_kind" "do_kind" (top 91) f fd)(T:Txt K mg)(TS:Pk mg)(L:LZ K mg Z)(SZ:SZ K mg S)(ne:yN Z C S)
 (DN:fj K mg "need_new" (top 87) ["name","borne"] fN y)(GN:cz P w K mg base dM 3 fN y ["name","borne"] By)(DF:fj K mg "need_fewer" (top 88) ["things","most"] fF B)
 (MkK:Mk K Z.k fI)(GI:cz P w K mg base dM 4 fI D ["self","name","fields"] (wB Z.k))(bI:Binds K D ["self","name","fields"] []):cz P w K mg base dM 6 f fd ["stand","handed"] (K4 Z C S K):=by
 have GF:cz P w K mg base dM 1 fF B ["things","most"] Bx:=Ie DF.F T;refine F.ok Ri 01 λn A J s H vs Q E G h=>?_;obtain⟨i,d,h,fa,nm,xs,fs,rfl,sq,l,X,hn,Y,pf,fl,fo,nd,kl,q⟩:=h;have hu:=oO G;have N:dX 1 _:=G.mono 02;have O:dX 3 _:=G.mono 02;obtain⟨tk,mk⟩:=TS.k;refine⟨_,(b7 (m9 003 (ii rfl (d8 (kJ 2 Ri.nd) (d8 (kJ 3 Ri.nd) gj)))) (b7 (eE (j4 DN GN O (aK 010 (aK 03 b_)))) (b7 (eE (j4 DF GF N (aK 03 (aK (gG (v:=.int 8) rfl mk ⟨9⟩) b_)))) (c7 (jr hu 03 010 (kW (E:=E0) MkK GI G rfl L.kc.mg bI .nil dC (aK 010 (aK (pv 3) b_))) rfl))))),?_⟩;obtain⟨dx,v,e,rv⟩:=l.ob;have R:∀q∈CQ i.ks d.kn,q.1≠Sum.inr nm:=IW (f:=λa:Addr=>V.ref a) (g:=λp:Str×List j9=>p.1) X;have nv:jj (CQ i.ks d.kn) (Sum.inr nm)=none:=qW (f:=λt:Addr=>V.ref t) (ts:=i.ks) X;have U:(CQ i.ks d.kn).length<=d.kn.length:=by unfold CQ;simp;omega
 refine⟨9,h,9,sq,8,7,7,8,?_⟩;refine⟨9,9,i.a,S,dx,7,e,SZ.c,SZ.s3,8,nm,i.dk,9,hn,l.ek,nv,?_⟩;refine⟨9,i.a,S,dx,7,e,SZ.c,SZ.s3,8,i.dk,_,(8),8,l.ek,05,?_⟩;refine⟨9,9,λx j hx r aa=>?_⟩;have s0:cu H (upd (upd H j (.own x)) x (.ins Z.k j [])):=gn hx r (λb u e _=>e);refine⟨x,j,fa,nm,xs,fs,8,a_,hn,s0 _ _ Y,gD pf (cu.kt (Z:=Z) s0).tk,fl,fo,nd,λI ka k1=>⟨8,?_⟩⟩;have W:cu H I:=gn hx r k1;have c:=l.same W;refine⟨9,i.a,S,dx,7,W _ _ e,SZ.c,SZ.s3,8,9,i.dk,9,nY.k (k:=Sum.inr nm) c.ek (abt U (aat kl 02)),?_⟩;rw[m_ R];have sd:gJ S I (upd I i.dk (.dK (CQ i.ks d.kn++[(Sum.inr nm,.ref x)]))):=gJ.put c.ek (.inl ⟨_,.inl rfl⟩);have md:i.dk∈i.all:=aai _ (aan ..);have fr:=(Fr.same (s:=i) W).trans (Fr.upd (o:=.dK (CQ i.ks d.kn++[(Sum.inr nm,.ref x)])) md);obtain⟨d1,v1,e1,r1⟩:=c.ob;have na:i.a≠i.dk:=λz=>by have:=c.ek;rw[<-z,e1]at this;cases this
 refine q x _ ⟨⟨d1,v1,by rw[b8 na];exact e1,sd.rep r1⟩,?_,Pd.app (.cons ⟨fa,ka.kt (sd.kt ne.k)⟩ .nil) (c.kn.map (λa p⟨t,h⟩=>⟨t,h.kt (sd.kt ne.k)⟩)),by rw[b8 c.n1.symm];exact c.et,c.tr.map (λ_ _ h=>h.sd ne sd),by rw[b8 c.n2.symm];exact c.ec,c.nm,?_,c.dj,c.nh,c.nt,c.n1,c.n2,c.n3⟩ ⟨fr.kp,fr.sub,fr.gr,8⟩
 ·show upd I i.dk _ i.dk=some (.dK (CQ (i.ks++[x]) (d.kn++[(nm,fs)])));rw[a_];unfold CQ;rw[ac8 l.kn.len];rfl
 ·show((d.kn++[(nm,fs)]).map (·.1)).Nodup;rw[aaA];refine abj.mpr ⟨l.nk,04,λa ma b M z=>?_⟩;obtain⟨q,m,rfl⟩:=aao.mp ma;have M:b=nm:=by simpa using M
  exact X q m (z.trans M)
def rF(a b:Int)(c:Bool):Tk:=⟨pY a b c,0,tX⟩
inductive JC(Z:LC)(C S:Zl)(K:Zs)(vs:List V)(H:Hp)(Q:VK)(E:XK):Prop
 |mk (s:SA) (d:Sd) (h:Zl) (nm:Str) (ov:Bool):vs=[.ref s.a,.ref h]->e_ K H h [.str nm,.bl ov]->iC Z C S K H s d->(∀q∈d.tr,q.1≠nm)->Nm nm->d.tr.length<6->2<=d.pg->d.pg<=16->5<=d.rm->d.rm<=12->(∀t H',iC Z C S K H' {s with ts:=s.ts++[t]} {d with tr:=d.tr++[(nm,rF d.pg d.rm ov)]}->Fr s {s with ts:=s.ts++[t]} H H'->Q .non H')->JC Z C S K vs H Q E
def Qo:cI ["stand","handed","name","over"] ["stand","handed"] (bK (top 92)):=by ext
def T6(F:gU K "do_lane" "do_lane" (top 92) f fd)(T:Txt K mg)(TS:Pk mg)(L:LZ K mg Z)(TZ:TZ K mg C)(SZ:SZ K mg S)(ne:yN Z C S)
 (DN:fj K mg "need_new" (top 87) ["name","borne"] fN Y)(GN:cz P w K mg base dM 3 fN Y ["name","borne"] By)(DF:fj K mg "need_fewer" (top 88) ["things","most"] fF fdF)
 (MkL:Mk K Z.l fI)(GI:cz P w K mg base dM 3 fI fdI ["self","pages","room","over"] (JW Z))(kbL:kh K fdI ["self","pages","room","over"] ["pages","room","over"] gL Zf)
 (MkT:Mk K C fJ)(FJ:gU K "__init__" "Track.__init__" (tM 0) fJ M)(bJ:Binds K M ["self","written"] []):cz P w K mg base dM 5 f fd ["stand","handed"] (JC Z C S K):=by
 have GF:cz P w K mg base dM 1 fF fdF ["things","most"] Bx:=Ie DF.F T;have GJ:cz P w K mg base dM 1 fJ M ["self","written"] (JD Z C K):=Oc FJ TZ;refine F.ok Qo 01 λG A aa s H vs Q E N h=>?_;obtain⟨c,d,h,nm,W,rfl,sq,D,no,hn,kl,p1,p2,r1,r2,q⟩:=h;have U:=oO N;have ac:dX 1 _:=N.mono 02;have ad:dX 2 _:=N.mono 02;have ae:dX 3 _:=N.mono 02;obtain⟨tk,mk⟩:=TS.t;refine⟨_,(b7 (m9 003 (ii rfl (d8 (kJ 2 Qo.nd) (d8 (kJ 3 Qo.nd) gj)))) (b7 (eE (j4 DN GN ae (aK 010 (aK 03 b_)))) (b7 (eE (j4 DF GF ac (aK 03 (aK (gG (v:=.int 6) rfl mk ⟨9⟩) b_)))) (c7 (jr U 03 010 (kW (E:=E0) MkT GJ ad rfl TZ.mg bJ .nil dC (aK (pD (E:=E0) MkL GI N rfl L.lmg kbL dC (jN 03 (jN 03 (jN (pv 3) wz)))) b_)) rfl))))),?_⟩;obtain⟨X,v,e,rv⟩:=D.ob;have af:∀q∈mC c.ts d.tr,q.1≠Sum.inr nm:=IW (f:=λt:TA=>V.ref t.a) (g:=λp:Str×Tk=>p.1) no;have nv:jj (mC c.ts d.tr) (Sum.inr nm)=none:=qW (f:=λt:TA=>V.ref t.a) (ts:=c.ts) no;have ag:(mC c.ts d.tr).length<=d.tr.length:=by unfold mC;simp;omega
 refine⟨9,h,9,sq,8,7,7,8,?_⟩;refine⟨9,9,c.a,S,X,7,e,SZ.c,SZ.s4,8,nm,c.dt,9,hn,D.et,nv,?_⟩;refine⟨9,c.a,S,X,7,e,SZ.c,SZ.s4,8,c.dt,_,6,8,D.et,05,?_⟩;refine⟨9,c.a,S,X,7,e,SZ.c,SZ.s1,8,9,c.a,S,X,7,e,SZ.c,SZ.s2,8,9,λx I hx O ak=>?_⟩;refine⟨x,I,d.pg,d.rm,W,8,a_,p1,p2,r1,r2,λk H1 ka kc ln k1 kf kp=>⟨8,?_⟩⟩;have s1:cu H H1:=gn hx O k1;refineλy dy hy ab al=>?_;refine⟨y,dy,x,8,a_,λvt J e2 r2 k2=>⟨8,?_⟩⟩;have s2:cu H1 J:=gn hy ab k2;have S2:=s1.trans s2;have i:=D.same S2;have ah:=ln.same s2;have s0:cu H (upd (upd H I (.own x)) x (.ins Z.l I [])):=gn hx O (λb u e _=>e);have fresh:∀b∈(⟨y,k⟩:TA).all,H b=none:=λb m=>by
  rcases aag.mp m with h|m
  ·rw[h];exact dY s1 hy
  ·rcases aam.mp m with m|m
   ·rcases aag.mp m with h|m
    ·rw[h,ka];exact hx
    ·rcases aam.mp m with m|m
     ·obtain⟨s,ms,h⟩:=aao.mp m;rw[<-h];exact dY s0 (kp s ms)
     ·have m:b∈k.cs:=m;rw[kc]at m;cases m
   ·exact dY s0 (kf b m)
 refine⟨9,c.a,S,X,7,S2 _ _ e,SZ.c,SZ.s4,8,9,c.dt,9,nY.k (k:=Sum.inr nm) i.et (abt ag (aat kl 02)),?_⟩;rw[m_ af];have sd:gJ S J (upd J c.dt (.dK (mC c.ts d.tr++[(Sum.inr nm,.ref y)]))):=gJ.put i.et (.inl ⟨_,.inl rfl⟩);have md:c.dt∈c.all:=aai _ (aai _ (aan ..));have fr:=(Fr.same (s:=c) S2).trans (Fr.upd (o:=.dK (mC c.ts d.tr++[(Sum.inr nm,.ref y)])) md);obtain⟨d1,v1,e1,aj⟩:=i.ob;have na:c.a≠c.dt:=λz=>by have:=i.et;rw[<-z,e1]at this;cases this
 have ai:lK Z C K J ⟨y,k⟩ (rF d.pg d.rm W):=⟨⟨dy,vt,by show J y=some (.ins C dy (RP k.a 0 vt));rw[ka];exact e2,r2⟩,ah⟩;have ap:∀(j:Nat)(u:TA),c.ts[j]?=some u->Apart ⟨y,k⟩ u:=λj u U b B mu=>by obtain⟨q,_,tu⟩:=D.tr.at U;obtain⟨o,eb⟩:=tu.here b mu;rw[fresh b B]at eb;cases eb
 refine q ⟨y,k⟩ _ ⟨⟨d1,v1,by rw[b8 na];exact e1,sd.rep aj⟩,by rw[b8 i.n1];exact i.ek,i.kn.map (λa p⟨t,h⟩=>⟨t,h.kt (sd.kt ne.k)⟩),?_,Pd.app (R:=λt(p:Str×Tk)=>lK Z C K (upd J c.dt (.dK (mC c.ts d.tr++[(Sum.inr nm,.ref y)]))) t p.2) (ys:=d.tr) (vs:=[(nm,rF d.pg d.rm W)]) (.cons (ai.sd ne sd) .nil) (i.tr.map (λ_ _ h=>h.sd ne sd)),by rw[b8 i.n3.symm];exact i.ec,?_,i.nk,?_,i.nh,?_,i.n1,i.n2,i.n3⟩ ⟨fr.kp,λb B=>?_,fr.gr,8⟩
 ·show upd J c.dt _ c.dt=some (.dK (mC (c.ts++[⟨y,k⟩]) (d.tr++[(nm,rF d.pg d.rm W)])));rw[a_];unfold mC;rw[ac8 D.tr.len];rfl
 ·show((d.tr++[(nm,rF d.pg d.rm W)]).map (·.1)).Nodup;rw[aaA];refine abj.mpr ⟨D.nm,04,λa ma b B z=>?_⟩;obtain⟨q,m,rfl⟩:=aao.mp ma;have B:b=nm:=by simpa using B
  exact no q m (z.trans B)
 ·intro j l u v nj U hv;have r:(c.ts++[⟨y,k⟩])[j]?=some u:=U;have n:(c.ts++[⟨y,k⟩])[l]?=some v:=hv;rw[List.getElem?_append]at r n;split at r
  ·split at n
   ·exact D.dj j l u v nj r n
   ·obtain rfl:⟨y,k⟩=v:=by simpa using(aal.mp (aap n)).symm
    exact(ap j u r).symm
  ·obtain rfl:⟨y,k⟩=u:=by simpa using(aal.mp (aap r)).symm
   split at n
   ·exact ap l v n
   ·have a1:j-c.ts.length<1:=(aaD.mp r).1;have a2:l-c.ts.length<1:=(aaD.mp n).1;omega
 ·intro q mq;rcases aam.mp mq with m|m
  ·exact D.nt q m
  ·cases aal.mp m;rfl
 ·have B:b∈[c.a,c.dk,c.dt,c.dc]++(c.ts++[(⟨y,k⟩:TA)]).flatMap TA.all:=B;rw[aa1,<-List.append_assoc]at B;rcases aam.mp B with m|m
  ·exact .inl m
  ·exact .inr (fresh b (by simpa using m))
end
end Cm
namespace Cm
open PySem L2 PySem.W PyProof.V PySem.Spec PyProof.Rows
section
variable{P:ZE}{w:ZH}{K:Zs}{mg:Y1}{base:ZN}{Z:LC}{C S:Zl}{H H' H'':Hp}
structure Zo(K:Zs)(mg:Y1)(a:Zl)(D:YR):Prop where
 mg:mg "DEEDS"=some (.ref a)
 tb:Mp K a D
structure oH(P:ZE)(w:ZH)(K:Zs)(mg:Y1)(base:ZN)(f:Zl)(sp:Sp)(b:Bool):Prop where
 ok:∃fd,Binds K fd ["stand","handed"] []/\if b=true then∃k,k<=12/\cz P w K mg base (mz P w) k f fd ["stand","handed"] sp else∃k,k<=12/\cz P w K mg base dM k f fd ["stand","handed"] sp
 kp:keepIn K (.ref f)=true
def BJ{x:V}{a:List V}:rN (x::a) 0=some x:=by unfold rN N_;simp
def Jk:oh (x::a) (some 1) none=a:=by unfold oh;simp[HT.jm]
inductive R5(P:ZE)(w:ZH)(K:Zs)(mg:Y1)(base:ZN)(D:YR)(vs:List V)(H:Hp)(Q:VK)(E:XK):Prop
 |mk (x:V) (h f:Zl) (nm:Str) (as:List V) (sp:Sp) (b:Bool):vs=[x,.ref h]->e_ K H h (.str nm::as)->KTD.datumAt nm D=some f->oH P w K mg base f sp b->(∀h' H1,cu H H1->e_ K H1 h' as->sp [x,.ref h'] H1 Q (if b=true then E else E0))->R5 P w K mg base D vs H Q E
def W4:cI ["stand","deed","act"] ["stand","deed"] (bK (top 108)):=by ext
def Wi(F:gU K "perform" "perform" (top 108) f r)(y:Zo K mg i D):cz P w K mg base (mz P w) 13 f r ["stand","deed"] (R5 P w K mg base D):=by
 refine F.ok1 W4 01 λd A a s H vs Q E l h=>?_;obtain⟨x,h,e,nm,I,m,b,rfl,n,G,de,q⟩:=h;refine⟨_,(b7 (j8 2 W4.nd (d_ J_ (gG (v:=.ref i) rfl y.mg rfl) (d_ eO 003 cj))) (c7 (cW (Gg (j:=2) rfl 012 (aK 06 (aK (lQ qx 003 (nH cj) n7) b_)))))),?_⟩;refine⟨9,h,_,7,8,n,BJ,i,nm,D,e,8,8,y.tb,G,?_⟩;have call:Callee (iD (mz P w) P w K mg base ["stand","deed","act"] "perform" (bK (top 108)) f d A a s H E) e m (if b=true then E else E0):=by
  obtain⟨c,o,ok⟩:=de.ok;refine⟨?_,de.kp⟩;cases b with
  | true=>obtain⟨k,g,ok⟩:=ok;exact⟨_,k,c,_,ok,l.mono g,o,oG λ_ _ _ h=>h⟩
  | false=>obtain⟨k,g,ok⟩:=ok;exact⟨_,k,c,_,ok,l.mono g,o,dC⟩
 refine⟨e,m,9,call,9,9,9,h,9,n,λz=>?_,λp B=>?_⟩
 ·rw[Jk]at z;exact absurd (aaB List.length z) 04
 ·rw[Jk];exact q p _ (cu.new B) (e_.of a_)
end
end Cm
namespace Cm
open PySem L2 PySem.W PySem.Spec PyProof.Rows
abbrev rM(j:Nat):Stmt:=inClass (top 110) j
structure RZ(K:Zs)(mg:Y1)(R:Zl):Prop where
 c:uC K R
 mg:mg "Recorder"=some (.ref R)
 r1:eH K R "stand"
 r2:eH K R "past"
 r3:eH K R "undone"
noncomputable def WN(s p u:Zl):List (Str×V):=[("stand",.ref s),("past",.ref p),("undone",.ref u)]
structure oE where
 a:Addr
 pa:Addr
 un:Addr
 s:SA
structure RcAt(Z:LC)(C S R:Zl)(K:Zs)(H:Hp)(r:oE)(d:Sd)(n:Nat):Prop where
 ob:∃dx,H r.a=some (.ins R dx (WN r.s.a r.pa r.un))
 ps:∃xs:List V,H r.pa=some (.lst xs)/\xs.length<=n
 un:H r.un=some (.lst [])
 st:iC Z C S K H r.s d
 ne:r.pa≠r.un
structure Eh(d:Sd):Prop where
 sz:UJ d
 cl:∀p∈d.tr,(iU p.2.ln).length<=900
section
variable{P:ZE}{w:ZH}{K:Zs}{mg:Y1}{base:ZN}{Z:LC}{C S R:Zl}{H H' H'':Hp}
noncomputable def dN.kt(h:dN Z H k n)(q:Kt Z H H')(d:∀b∈k.own,H' b=H b)(f:∀b∈k.ls,H' b=H b):dN Z H' k n:=by obtain⟨j,e⟩:=h.ob;refine⟨⟨j,by rw[d _ LA.a_own];exact e⟩,by rw[f _ (aan ..)];exact h.ls,Pd.mapM (λs a m r=>?_) h.pg,h.n1,h.n2,h.n3⟩;obtain⟨i,l⟩:=aau.mp a;exact r.kt q (d _ (LA.p_own l)) (f _ (aai _ (aao.mpr ⟨s,a,8⟩))) λc g=>d _ (LA.c_own (aaN.mpr ⟨s,a,g⟩))
def StK(Z:LC)(s:SA)(b:Zl)(u:HO):Prop:=b∈s.all\/(∃a,u=.tup a)\/(∃o a,u=.frz o (.tup a))\/∃c fs,u=.ins Z.k c fs
def iC.keep{s:SA}{d:Sd}(c:iC Z C S K H s d)(kp:∀b u,H b=some u->StK Z s b u->H' b=some u):iC Z C S K H' s d:=by
 have kt:Kt Z H H':=⟨λb j e=>kp b _ e (.inr (.inl ⟨9⟩)),λb n fs e=>kp b _ e (.inr (.inr (.inr ⟨7⟩)))⟩;have x:∀a j,e_ K H a j->e_ K H' a j:=λa j z=>by
  rcases z with(z|⟨o,z⟩)|z
  ·exact .inl (.inl (kt.tk _ _ z))
  ·exact .inl (.inr ⟨o,kp _ _ z (.inr (.inr (.inl ⟨_,_,rfl⟩)))⟩)
  ·exact .inr z
 have l:∀b∈[s.a,s.dk,s.dt,s.dc],b∈s.all:=λb m=>(show b∈[s.a,s.dk,s.dt,s.dc]++s.ts.flatMap TA.all from aaL _ m);obtain⟨n,v,e,A⟩:=c.ob;refine⟨⟨n,v,kp _ _ e (.inl (l _ 04)),lO x A c.nh⟩,kp _ _ c.ek (.inl (l _ 04)),c.kn.map (λa p⟨t,h⟩=>⟨t,h.kt kt⟩),kp _ _ c.et (.inl (l _ 04)),?_,kp _ _ c.ec (.inl (l _ 04)),c.nm,c.nk,c.dj,c.nh,c.nt,c.n1,c.n2,c.n3⟩;refine Pd.mapM (R:=λu(q:Str×Tk)=>lK Z C K H u q.2/\o9 q.2.ts=true) (λt y p r=>?_) (zg c.tr c.nt);obtain⟨i,B⟩:=aau.mp y;obtain⟨D,E,F,G⟩:=r.1.ob;have f:∀b∈t.all,b∈s.all:=λb m=>SA.t_all B m;refine⟨⟨D,E,kp _ _ F (.inl (f _ (aan ..))),lO x G r.2⟩,r.1.ln.kt kt (λb g=>?_) (λb g=>?_)⟩
 ·obtain⟨_,_,_,e⟩:=r.1.ln.own_ls g;rw[e];exact kp _ _ e (.inl (f _ (aai _ (aaL _ g))))
 ·obtain⟨_,e⟩:=r.1.ln.has_ls g;rw[e];exact kp _ _ e (.inl (f _ (aai _ (aax _ g))))
def Ls{a:Zl}{b:List V}(s:cu H H')(z:e_ K H a b):e_ K H' a b:=by
 rcases z with(z|⟨o,z⟩)|z
 ·exact .inl (.inl (s _ _ z))
 ·exact .inl (.inr ⟨o,s _ _ z⟩)
 ·exact .inr z
def Hw.all(n:Hw H s):∀b∈s.all,H b=none:=λb m=>by
 rcases aag.mp m with h|m
 ·rw[h];exact n.a
 rcases aag.mp m with h|m
 ·rw[h];exact n.k
 rcases aag.mp m with h|m
 ·rw[h];exact n.t
 rcases aag.mp m with h|m
 ·rw[h];exact n.c
 obtain⟨t,d,e⟩:=aaN.mp m;exact(n.ts t d).all b e
def ZG(r:oE)(H a:Hp):Prop:=∀b u,H b=some u->b≠r.a->b≠r.pa->b≠r.un->a b=some u
noncomputable def KQ(Z:LC)(C S R:Zl)(K:Zs)(r:oE)(n:Nat)(H:Hp)(g:SA)(h:Hp)(Q:VK):VK:=λv d=>∃e f,iC Z C S K d e f/\Fr g e h d/\∀a c,a.a=r.a->a.pa=r.pa->a.un=r.un->RcAt Z C S R K c a f (n+1)->ZG r H c->(∀b u,H b=some u->b∉a.s.all)->Q v c
inductive xN(Z:LC)(C S R:Zl)(P:ZE)(w:ZH)(K:Zs)(mg:Y1)(base:ZN)(D:YR)(vs:List V)(H:Hp)(Q:VK)(E:XK):Prop
 |mk (r:oE) (d:Sd) (n:Nat) (h f:Zl) (nm:Str) (as:List V) (sp:Sp) (b:Bool):vs=[.ref r.a,.ref h]->RcAt Z C S R K H r d n->n<=900->Eh d->e_ K H h (.str nm::as)->KTD.datumAt nm D=some f->oH P w K mg base f sp b->(∀s1 h' H2(Q':VK),cu H H2->iC Z C S K H2 s1 d->e_ K H2 h' as->(∀v H3,KQ Z C S R K r n H s1 H2 Q v H3->Q' v H3)->sp [.ref s1.a,.ref h'] H2 Q' (if b=true then E else E0))->xN Z C S R P w K mg base D vs H Q E
def RG:cI ["self","deed","later","told"] ["self","deed"] (bK (rM 17)):=by ext
noncomputable def Ue{f fT fP aD:Zl}{fd J L:ZB}{D:YR}(F:gU K "do" "Recorder.do" (rM 17) f fd)(RZ:RZ K mg R)(SZ:SZ K mg S)(nR:Z.k≠R)(MT:MD K S "twin" "Stand.twin" (sM 5) ["self"] fT J)(GT:cz P w K mg base dM 12 fT J ["self"] (R1 Z C S K))
 (M:fj K mg "perform" (top 108) ["stand","deed"] fP L)(DT:Zo K mg aD D):cz P w K mg base (mz P w) 14 f fd ["self","deed"] (xN Z C S R P w K mg base D):=by
 have GP:cz P w K mg base (mz P w) 13 fP L ["stand","deed"] (R5 P w K mg base D):=Wi M.F DT;refine F.ok1 RG 01 λN A O s H vs Q E Y h=>?_;obtain⟨r,d,n,h,f',nm,as,sp,b,rfl,c,nl,so,sq,ef,de,q⟩:=h;have G:dX 12 _:=Y.mono 02;refine⟨_,(b7 (j8 2 RG.nd (eG (E:=E0) 03 SZ.c MT.M GT G MT.b .nil dC)) (b7 (j8 3 RG.nd (gf (E:=E) GP Y rfl M.mg M.F.kp M.b .nil (oG λ_ _ _ h=>h) (aK 010 (aK 003 b_)))) (b7 (eE (oY abq abv abO jU 03 (aK (gF (aK 003 (aK 03 b_))) b_))) (b7 (eE (wu abq PySem.F.slot_list_clear PySem.F.type_list_clear Fo 03)) (b7 (dz 06 010 rfl) (c7 (cW (pv 3)))))))),?_⟩;obtain⟨x,e⟩:=c.ob;obtain⟨ds,vs,es,_⟩:=c.st.ob;have kl:∀t∈r.s.ts,t.k.cs.length<=900:=λt m=>by obtain⟨i,ht⟩:=aau.mp m;obtain⟨p,hp,_⟩:=c.st.tr.at ht;rw[c.st.cs_len ht hp];exact so.cl p (aap hp)
 refine⟨9,r.a,R,x,7,e,RZ.c,RZ.r1,8,r.s.a,ds,9,es,8,r.s,d,8,c.st,so.sz,kl,λs1 H1 new _ _ j T=>?_⟩;refine⟨9,9,_,h,f',nm,as,sp,b,8,Ls j sq,ef,de,λh' H2 l U=>?_⟩;refine q s1 h' H2 _ (j.trans l) (T.same l) U λv H3 hv=>?_;obtain⟨W,d3,X,fr,k⟩:=hv;have S2:=j.trans l;have fresh:=new.all;have up:∀b u,H b=some u->H3 b=some u:=λb u a=>fr.kp b u (S2 _ _ a) λm=>by rw[fresh b m]at a;cases a
 obtain⟨xs,y,xl⟩:=c.ps;have o:r.a≠r.pa:=λz=>by rw[z,y]at e;cases e
 have I:r.a≠r.un:=λz=>by have:=c.un;rw[<-z,e]at this;cases this
 have off:∀b u,H b=some u->b∉W.all:=λb u a m=>by
  rcases fr.sub b m with h|h
  ·rw[fresh b h]at a;cases a
  ·rw[S2 _ _ a]at h;cases h
 refine⟨9,r.a,R,x,7,up _ _ e,RZ.c,RZ.r2,8,.inl ⟨8,_,eY.of (up _ _ y)⟩,9,9,r.a,R,x,7,up _ _ e,RZ.c,RZ.r1,8,01,λtp B=>?_⟩;have g:∀b u,H b=some u->b≠tp:=λb u a=>cg (up _ _ a) B;refine⟨r.pa,xs,9,8,(by rw[b8 (g _ _ y)];exact up _ _ y),abt (aah xl nl) 02,?_⟩;refine⟨9,r.a,R,x,WN r.s.a r.pa r.un,.ref r.un,8,(by rw[b8 o,b8 (g _ _ e)];exact up _ _ e),RZ.c,RZ.r3,8,.inl ⟨8,[],eY.of (by rw[b8 c.ne.symm,b8 (g _ _ c.un)];exact up _ _ c.un)⟩,r.un,[],8,8,(by rw[b8 c.ne.symm,b8 (g _ _ c.un)];exact up _ _ c.un),?_⟩;refine⟨9,9,r.a,R,x,WN r.s.a r.pa r.un,8,(by rw[b8 I,b8 o,b8 (g _ _ e)];exact up _ _ e),RZ.c,RZ.r1,(show 3<1000 by decide),?_⟩;refine⟨9,k ⟨r.a,r.pa,r.un,W⟩ _ rfl rfl rfl ⟨⟨x,?_⟩,⟨xs++[.ref tp],?_,by simp;omega⟩,?_,X.keep λb u a h=>?_,c.ne⟩ (λb u a n1 n2 n3=>?_) off⟩
 ·show upd _ r.a _ r.a=some (.ins R x (WN W.a r.pa r.un));rw[a_,fr.a];rfl
 ·show upd _ r.a _ r.pa=_;rw[b8 o.symm,b8 c.ne,a_]
 ·show upd _ r.a _ r.un=_;rw[b8 I.symm,a_]
 ·have nt:b≠tp:=cg a B;have na:b≠r.a:=λz=>by
   subst z;rcases h with h|⟨_,h⟩|⟨_,_,h⟩|⟨_,_,h⟩
   ·exact off _ _ e h
   all_goals(rw[up _ _ e,h]at a;cases a)
   exact nR rfl
  have np:b≠r.pa:=λz=>by
   subst z;rcases h with h|⟨_,h⟩|⟨_,_,h⟩|⟨_,_,h⟩
   ·exact off _ _ y h
   all_goals(rw[up _ _ y,h]at a;cases a)
  have nu:b≠r.un:=λz=>by
   subst z;rcases h with h|⟨_,h⟩|⟨_,_,h⟩|⟨_,_,h⟩
   ·exact off _ _ c.un h
   all_goals(rw[up _ _ c.un,h]at a;cases a)
  rw[b8 na,b8 nu,b8 np,b8 nt];exact a
 ·rw[b8 n1,b8 n3,b8 n2,b8 (g _ _ a)];exact up _ _ a
def Vn(p r:Int):Sd:=⟨p,r,[],[],false,.none⟩
inductive Qk(Z:LC)(C S R:Zl)(K:Zs)(vs:List V)(H:Hp)(Q:VK)(E:XK):Prop
 |mk (o dx:Zl) (p r:Int):vs=[.ref o,.int p,.int r]->H o=some (.ins R dx [])->2<=p->p<=16->5<=r->r<=12->(∀(c:oE)H',c.a=o->H c.pa=none->H c.un=none->RcAt Z C S R K H' c (Vn p r) 0->(∀b u,H b=some u->b≠o->H' b=some u)->(∀b u,H b=some u->b∉c.s.all)->Q .non H')->Qk Z C S R K vs H Q E
def YW:cI ["self","pages","room"] ["self","pages","room"] (bK (rM 0)):=by ext
noncomputable def Wb{f fI:Zl}{fd J:ZB}(F:gU K "__init__" "Recorder.__init__" (rM 0) f fd)(RZ:RZ K mg R)(SZ:SZ K mg S)(nR:S≠R)(U:Mk K S fI)(bI:Binds K J ["self","pages","room"] [])(GI:cz P w K mg base dM 2 fI J ["self","pages","room"] (Ke S)):cz P w K mg base dM 4 f fd ["self","pages","room"] (Qk Z C S R K):=by
 refine F.ok YW 01 λaa A O s H vs Q E hr h=>?_;obtain⟨o,y,p,r,rfl,ho,p1,p2,r1,r2,q⟩:=h;refine⟨_,(b7 (dz 06 (kW (E:=E0) U GI hr rfl SZ.mg bI .nil dC (aK 003 (aK 010 b_))) rfl) (b7 (dz 06 (gQ b_) rfl) (c7 (dz 06 (gQ b_) rfl)))),?_⟩;refine⟨9,9,λx g T D ab=>?_⟩;refine⟨x,g,p,r,8,a_,p1,p2,r1,r2,λdk W X L B Y ek et ec n1 n2 n3 k1=>⟨8,?_⟩⟩;have M:cu H L:=gn T D k1;refine⟨9,o,R,y,9,M _ _ ho,RZ.c,RZ.r1,(show 0<1000 by decide),?_⟩;refine⟨01,λd i=>?_⟩;have c:o≠d:=cg a_ i;refine⟨9,o,R,y,[("stand",.ref x)],8,(by rw[b8 c];exact a_),RZ.c,RZ.r2,(show 1<1000 by decide),?_⟩;refine⟨01,λun a=>?_⟩;have l:o≠un:=cg a_ a;refine⟨9,o,R,y,[("stand",.ref x),("past",.ref d)],8,(by rw[b8 l];exact a_),RZ.c,RZ.r3,(show 2<1000 by decide),?_⟩;have n:d≠un:=cg (show upd (upd _ d _) o _ d=some _ by rw[b8 c.symm];exact a_) a;rw[b8 c.symm]at i;rw[b8 l.symm,b8 n.symm,b8 l.symm]at a;have up:∀b u,L b=some u->b≠o->upd (upd (upd (upd (upd L o (.ins R y (fX "stand" (.ref x) []))) d (.lst [])) o (.ins R y (fX "past" (.ref d) [("stand",.ref x)]))) un (.lst [])) o (.ins R y (fX "undone" (.ref un) [("stand",.ref x),("past",.ref d)])) b=some u:=λb u e G=>by rw[b8 G,b8 (cg e a),b8 G,b8 (cg e i),b8 G];exact e
 have N:∀{b u},L b=some u->H b=none->b≠o:=λe h z=>by rw[z,ho]at h;cases h
 have I:H x=none:=T;have bk:∀{b},upd (upd H g (.own x)) x (.ins S g []) b=none->H b=none:=λe=>dY (gn T D (λb u e _=>e)) e;refine q ⟨o,d,un,⟨x,dk,W,X,[],[]⟩⟩ _ rfl (dY M i) (dY M a) ⟨⟨y,a_⟩,⟨[],?_,aae _⟩,?_,⟨⟨g,.non,up _ _ Y (N Y I),.non⟩,up _ _ ek (N ek (bk B.k)),.nil,up _ _ et (N et (bk B.t)),.nil,up _ _ ec (N ec (bk B.c)),abm,abm,(λj k u v _ h=>by cases h),8,(λp m=>by cases m),n1,n2,n3⟩,n⟩ (λb u e G=>up _ _ (M _ _ e) G) λb u e m=>?_
 rotate_left 2
 ·have:b=x\/b=dk\/b=W\/b=X:=by simpa[SA.all]using m
  rcases this with rfl|rfl|rfl|rfl
  ·rw[I]at e;cases e
  ·rw[bk B.k]at e;cases e
  ·rw[bk B.t]at e;cases e
  ·rw[bk B.c]at e;cases e
 ·show upd _ o _ d=_;rw[b8 c.symm,b8 n,b8 c.symm];exact a_
 ·show upd _ o _ un=_;rw[b8 l.symm];exact a_
noncomputable def RcAt.same{r:oE}{d:Sd}{n:Nat}(h:RcAt Z C S R K H r d n)(s:cu H H'):RcAt Z C S R K H' r d n:=by obtain⟨a,e⟩:=h.ob;obtain⟨b,c,l⟩:=h.ps;exact⟨⟨a,s _ _ e⟩,⟨b,s _ _ c,l⟩,s _ _ h.un,h.st.same s,h.ne⟩
def Js(Z:LC)(C S R:Zl)(K:Zs)(r:oE)(n:Nat)(H:Hp)(d:Sd)(c:Hp):Prop:=∃a:oE,a.a=r.a/\a.pa=r.pa/\a.un=r.un/\RcAt Z C S R K c a d (n+1)/\ZG r H c/\∀b u,H b=some u->b∉a.s.all
noncomputable def KQ.of{r:oE}{n:Nat}{g d:SA}{e:Sd}{h f:Hp}{Q:VK}{v:V}{tp:Zl}{o:HO}(i:H tp=none)(x:iC Z C S K f d e)(fr:Fr g d h f)(k:∀a,Js Z C S R K r n H e a->Q v a):KQ Z C S R K r n (upd H tp o) g h Q v f:=
 ⟨d,e,x,fr,λj a l m p q kk s=>k a ⟨j,l,m,p,q,λb u c=>kk b u (cu.new i _ _ c),λb u c=>s b u (cu.new i _ _ c)⟩⟩
end
section
variable{P:ZE}{w:ZH}{K:Zs}{mg:Y1}{base:ZN}{Z:LC}{C S R:Zl}{H H' H'':Hp}{D:YR}
structure QB(Z:LC)(C S R:Zl)(K:Zs)(H:Hp)(r:oE)(d:Sd)(n:Nat):Prop where
 at_:RcAt Z C S R K H r d n
 nl:n<=900
 ok:Eh d
inductive vV(Z:LC)(C S R:Zl)(K:Zs)(vs:List V)(H:Hp)(Q:VK)(E:XK):Prop
 |mk (r:oE) (d:Sd) (n:Nat) (nm:Str) (ov:Bool):vs=[.ref r.a,.str nm,.bl ov]->QB Z C S R K H r d n->(∀q∈d.tr,q.1≠nm)->Nm nm->d.tr.length<6->(∀H',Js Z C S R K r n H {d with tr:=d.tr++[(nm,rF d.pg d.rm ov)]} H'->Q .non H')->vV Z C S R K vs H Q E
def M_:cI ["self","name","over"] ["self","name","over"] (bK (rM 2)):=by ext
noncomputable def Fp{f fD m:Zl}{p c:ZB}(F:gU K "lane" "Recorder.lane" (rM 2) f p)(RZ:RZ K mg R)(MD:MD K R "do" "Recorder.do" (rM 17) ["self","deed"] fD c)(N:cz P w K mg base (mz P w) 14 fD c ["self","deed"] (xN Z C S R P w K mg base D))(O:KTD.datumAt ("lane":Str) D=some m)(de:oH P w K mg base m (JC Z C S K) false):cz P w K mg base (mz P w) 15 f p ["self","name","over"] (vV Z C S R K):=by refine F.ok1 M_ 01 λq A g s H vs Q E v h=>?_;obtain⟨r,d,n,nm,o,rfl,a,I,J,L,k⟩:=h;refine⟨_,c7 (cW (eV (E:=E) 06 RZ.c MD.M N v MD.b .nil (oG λ_ _ _ h=>h) (aK (gF (aK cZ (aK 003 (aK 010 b_)))) b_))),?_⟩;obtain⟨M,e⟩:=a.at_.ob;refine⟨9,r.a,M,9,e,8,9,9,01,λtp b=>?_⟩;refine⟨r,d,n,tp,m,_,[.str nm,.bl o],7,a.at_.same (cu.new b),a.nl,a.ok,e_.of a_,O,de,λx y T U z B i G=>?_⟩;exact⟨x,d,y,nm,o,8,i,B,I,J,L,a.ok.sz.p1,a.ok.sz.p2,a.ok.sz.r1,a.ok.sz.r2,λt W j l=>G _ _ (KQ.of b j l k)⟩
inductive vX(Z:LC)(C S R:Zl)(K:Zs)(vs:List V)(H:Hp)(Q:VK)(E:XK):Prop
 |mk (r:oE) (d:Sd) (n:Nat) (nm:Str) (fa:Zl) (xs:List V) (fs:List j9):vs=[.ref r.a,.str nm,.ref fa]->QB Z C S R K H r d n->(∀q∈d.kn,q.1≠nm)->Nm nm->H fa=some (.tup xs)->Paired (jw H) xs fs->fs.length<=4->(∀f∈fs,nU f)->(fs.map (·.1)).Nodup->d.kn.length<8->(∀H',Js Z C S R K r n H {d with kn:=d.kn++[(nm,fs)]} H'->Q .non H')->vX Z C S R K vs H Q E
def My:cI ["self","name","fields"] ["self","name","fields"] (bK (rM 1)):=by ext
noncomputable def Io{f fD y:Zl}{z g:ZB}{dV:ZI}(F:mR K "kind" "Recorder.kind" (rM 1) dV f z)(RZ:RZ K mg R)(MD:MD K R "do" "Recorder.do" (rM 17) ["self","deed"] fD g)(GD:cz P w K mg base (mz P w) 14 fD g ["self","deed"] (xN Z C S R P w K mg base D))(eA:KTD.datumAt ("kind":Str) D=some y)(de:oH P w K mg base y (K4 Z C S K) false):cz P w K mg base (mz P w) 15 f z ["self","name","fields"] (vX Z C S R K):=by refine F.ok1 My 01 λB A j s H vs Q E G h=>?_;obtain⟨r,d,n,nm,v,N,fs,rfl,i,O,T,x,U,W,X,Y,kl,k⟩:=h;refine⟨_,c7 (cW (eV (E:=E) 06 RZ.c MD.M GD G MD.b .nil (oG λ_ _ _ h=>h) (aK (gF (aK cZ (aK 003 (aK 010 b_)))) b_))),?_⟩;obtain⟨dx,e⟩:=i.at_.ob;refine⟨9,r.a,dx,9,e,8,9,9,01,λtp b=>?_⟩;refine⟨r,d,n,tp,y,_,[.str nm,.ref v],7,i.at_.same (cu.new b),i.nl,i.ok,e_.of a_,eA,de,λI J H2 Q' l L m M=>?_⟩;have c:=(cu.new (o:=.tup [.str "kind",.str nm,.ref v]) b).trans l;exact⟨I,d,J,v,nm,N,fs,8,m,L,O,T,c _ _ x,gD U (cu.kt (Z:=Z) c).tk,W,X,Y,kl,λa H3 p q=>M _ _ (KQ.of b p q k)⟩
inductive vD(Z:LC)(C S R:Zl)(K:Zs)(vs:List V)(H:Hp)(Q:VK)(E:XK):Prop
 |mk (r:oE) (d:Sd) (n:Nat):vs=[.ref r.a]->QB Z C S R K H r d n->(∀H',Js Z C S R K r n H {d with still:=true} H'->Q .non H')->vD Z C S R K vs H Q E
def K7:cI ["self"] ["self"] (bK (rM 14)):=by ext
noncomputable def Im{f fD l:Zl}{m b:ZB}(F:gU K "stop" "Recorder.stop" (rM 14) f m)(RZ:RZ K mg R)(MD:MD K R "do" "Recorder.do" (rM 17) ["self","deed"] fD b)(G:cz P w K mg base (mz P w) 14 fD b ["self","deed"] (xN Z C S R P w K mg base D))(I:KTD.datumAt ("stop":Str) D=some l)(de:oH P w K mg base l (Ah Z C S K true) false):cz P w K mg base (mz P w) 15 f m ["self"] (vD Z C S R K):=by refine F.ok1 K7 01 λo A g s H vs Q E p h=>?_;obtain⟨r,d,n,rfl,c,k⟩:=h;refine⟨_,c7 (cW (eV (E:=E) 06 RZ.c MD.M G p MD.b .nil (oG λ_ _ _ h=>h) (aK (gF (aK cZ b_)) b_))),?_⟩;obtain⟨B,e⟩:=c.at_.ob;refine⟨9,r.a,B,9,e,8,01,λtp a=>?_⟩;refine⟨r,d,n,tp,l,_,[],7,c.at_.same (cu.new a),c.nl,c.ok,e_.of a_,I,de,λq J L M v x y z=>?_⟩;exact⟨q,d,9,x,λN i j=>z _ _ (KQ.of a i j k)⟩
inductive Ga(Z:LC)(C S R:Zl)(K:Zs)(vs:List V)(H:Hp)(Q:VK)(E:XK):Prop
 |mk (r:oE) (d:Sd) (n:Nat):vs=[.ref r.a]->QB Z C S R K H r d n->(∀H',Js Z C S R K r n H {d with still:=false} H'->Q .non H')->Ga Z C S R K vs H Q E
def V2:cI ["self"] ["self"] (bK (rM 15)):=by ext
noncomputable def Ov{f fD l:Zl}{m b:ZB}(F:gU K "go" "Recorder.go" (rM 15) f m)(RZ:RZ K mg R)(MD:MD K R "do" "Recorder.do" (rM 17) ["self","deed"] fD b)(G:cz P w K mg base (mz P w) 14 fD b ["self","deed"] (xN Z C S R P w K mg base D))(I:KTD.datumAt ("go":Str) D=some l)(de:oH P w K mg base l (Ah Z C S K false) false):cz P w K mg base (mz P w) 15 f m ["self"] (Ga Z C S R K):=by refine F.ok1 V2 01 λo A g s H vs Q E p h=>?_;obtain⟨r,d,n,rfl,c,k⟩:=h;refine⟨_,c7 (cW (eV (E:=E) 06 RZ.c MD.M G p MD.b .nil (oG λ_ _ _ h=>h) (aK (gF (aK cZ b_)) b_))),?_⟩;obtain⟨B,e⟩:=c.at_.ob;refine⟨9,r.a,B,9,e,8,01,λtp a=>?_⟩;refine⟨r,d,n,tp,l,_,[],7,c.at_.same (cu.new a),c.nl,c.ok,e_.of a_,I,de,λq J L M v x y z=>?_⟩;exact⟨q,d,9,x,λN i j=>z _ _ (KQ.of a i j k)⟩
inductive wO(Z:LC)(C S R:Zl)(K:Zs)(vs:List V)(H:Hp)(Q:VK)(E:XK):Prop
 |mk (r:oE) (d:Sd) (n:Nat) (x:V) (t:PyData):vs=[.ref r.a,x]->QB Z C S R K H r d n->Rep K H x t->lB t->(∀H',Js Z C S R K r n H {d with halt:=t} H'->Q .non H')->wO Z C S R K vs H Q E
def KJ:cI ["self","test"] ["self","test"] (bK (rM 13)):=by ext
noncomputable def Ft{f fD p:Zl}{q b:ZB}{M:ZI}(F:mR K "halt" "Recorder.halt" (rM 13) M f q)(RZ:RZ K mg R)(MD:MD K R "do" "Recorder.do" (rM 17) ["self","deed"] fD b)(N:cz P w K mg base (mz P w) 14 fD b ["self","deed"] (xN Z C S R P w K mg base D))(O:KTD.datumAt ("halt":Str) D=some p)(de:oH P w K mg base p (Km Z C S K) false):cz P w K mg base (mz P w) 15 f q ["self","test"] (wO Z C S R K):=by refine F.ok1 KJ 01 λv A g s H vs Q E y h=>?_;obtain⟨r,d,n,x,t,rfl,c,J,hk,k⟩:=h;refine⟨_,c7 (cW (eV (E:=E) 06 RZ.c MD.M N y MD.b .nil (oG λ_ _ _ h=>h) (aK (gF (aK cZ (aK 003 b_))) b_))),?_⟩;obtain⟨L,e⟩:=c.at_.ob;refine⟨9,r.a,L,9,e,8,9,01,λtp a=>?_⟩;refine⟨r,d,n,tp,p,_,[x],7,c.at_.same (cu.new a),c.nl,c.ok,e_.of a_,O,de,λz B T U i G j I=>?_⟩;exact⟨z,d,B,x,t,8,j,J.same ((cu.new (o:=.tup [.str "halt",x]) a).trans i),hk,G,λW l m=>I _ _ (KQ.of a l m k)⟩
inductive Gu(Z:LC)(C S R:Zl)(K:Zs)(vs:List V)(H:Hp)(Q:VK)(E:XK):Prop
 |mk (r:oE) (d:Sd) (n:Nat):vs=[.ref r.a]->RcAt Z C S R K H r d n->Q (.bl d.still) H->Gu Z C S R K vs H Q E
def Wn:cI ["self"] ["self"] (bK (rM 33)):=by ext
noncomputable def PP(F:gU K "stopped" "Recorder.stopped" (rM 33) f c)(RZ:RZ K mg R)(SZ:SZ K mg S):cz P w K mg base dM 1 f c ["self"] (Gu Z C S R K):=by refine F.ok Wn 01 λg A a s H vs Q E m h=>?_;obtain⟨r,d,n,rfl,b,q⟩:=h;refine⟨_,c7 (cW (cU 03 rfl)),?_⟩;obtain⟨i,e⟩:=b.ob;obtain⟨j,v,l,o⟩:=b.st.ob;exact⟨9,r.a,R,i,7,e,RZ.c,RZ.r1,8,r.s.a,S,j,7,l,SZ.c,SZ.s6,8,q⟩
inductive IV(Z:LC)(C S R:Zl)(K:Zs)(vs:List V)(H:Hp)(Q:VK)(E:XK):Prop
 |mk (r:oE) (d:Sd) (n:Nat):vs=[.ref r.a]->RcAt Z C S R K H r d n->(∀v,Rep K H v d.halt->Q v H)->IV Z C S R K vs H Q E
def Wa:cI ["self"] ["self"] (bK (rM 34)):=by ext
noncomputable def QQ(F:gU K "halted_by" "Recorder.halted_by" (rM 34) f c)(RZ:RZ K mg R)(SZ:SZ K mg S):cz P w K mg base dM 1 f c ["self"] (IV Z C S R K):=by refine F.ok Wa 01 λg A a s H vs Q E o h=>?_;obtain⟨r,d,n,rfl,b,q⟩:=h;refine⟨_,c7 (cW (cU 03 rfl)),?_⟩;obtain⟨i,e⟩:=b.ob;obtain⟨j,v,l,m⟩:=b.st.ob;exact⟨9,r.a,R,i,7,e,RZ.c,RZ.r1,8,r.s.a,S,j,7,l,SZ.c,SZ.s7,8,q v m⟩
inductive oJ(Z:LC)(C S R:Zl)(K:Zs)(cS:Zl)(vs:List V)(H:Hp)(Q:VK)(E:XK):Prop
 |mk (r:oE) (d:Sd) (n:Nat) (nm kd:Str) (b:Zl) (i j:Nat) (p:Str×Tk) (q:Str×List j9) (zs:List Int):vs=[.ref r.a,.str nm,.str kd,.ref b]->QB Z C S R K H r d n->H b=some (.tup (zs.map V.int))->d.tr[i]?=some p->p.1=nm->d.kn[j]?=some q->q.1=kd->lB d.halt->sS q.1 q.2->Hl q.2 p.2.ck zs p.2.ln->p.2.ts=tX->(d.still=true->∀da H1 H',cu H H1->rH H1 [("word",.str "stopped")] da H'->E (.ref cS) (some da) H')->(d.still=false->∀rr h H',WT q.2 p.2.ln rr h->Js Z C S R K r n H {d.put i p (Jr q.1 q.2 p.2.ck zs p.2.ln rr h)with still:=kY q.1 q.2 zs d.halt} H'->Q (.bl true) H')->oJ Z C S R K cS vs H Q E
def FQ:cI ["self","lane","kind","values"] ["self","lane","kind","values"] (bK (rM 8)):=by ext
noncomputable def Ec{f fD J N:Zl}{O g:ZB}(F:gU K "write" "Recorder.write" (rM 8) f O)(RZ:RZ K mg R)(MD:MD K R "do" "Recorder.do" (rM 17) ["self","deed"] fD g)(GD:cz P w K mg base (mz P w) 14 fD g ["self","deed"] (xN Z C S R P w K mg base D))(eA:KTD.datumAt ("write":Str) D=some J)(de:oH P w K mg base J (Ku Z C S K N) true):cz P w K mg base (mz P w) 15 f O ["self","lane","kind","values"] (oJ Z C S R K N):=by refine F.ok1 FQ 01 λT A m s H vs Q E U h=>?_;obtain⟨r,d,n,nm,kd,b,i,j,p,q,zs,rfl,l,hb,M,rfl,hj,rfl,hk,ko,wo,I,k1,k2⟩:=h;refine⟨_,c7 (cW (eV (E:=E) 06 RZ.c MD.M GD U MD.b .nil (oG λ_ _ _ h=>h) (aK (gF (aK cZ (aK 003 (aK 010 (aK (pv 3) b_))))) b_))),?_⟩;obtain⟨dx,e⟩:=l.at_.ob;refine⟨9,r.a,dx,9,e,8,9,9,9,01,λtp a=>?_⟩;refine⟨r,d,n,tp,J,_,[.str p.1,.str q.1,.ref b],7,l.at_.same (cu.new a),l.nl,l.ok,e_.of a_,eA,de,λW X H2 Q' v L x Y=>?_⟩;have c:=(cu.new (o:=.tup [.str "write",.str p.1,.str q.1,.ref b]) a).trans v;obtain⟨t,ht,_⟩:=L.tr.at' M;exact⟨W,d,X,b,p.1,q.1,i,j,t,p,q,zs,8,x,c _ _ hb,L,ht,M,8,hj,8,hk,ko,wo,I,λy da H1 z sH th=>k1 y da H1 z (c.trans sH) th,λy rr h s' H3 sl B G=>Y _ _ (KQ.of a B G λz=>k2 y rr h z sl)⟩
end
section
variable{P:ZE}{w:ZH}{K:Zs}{mg:Y1}{base:ZN}{Z:LC}{C S R:Zl}{H H' H'':Hp}
inductive QR(Z:LC)(C S R:Zl)(K:Zs)(vs:List V)(H:Hp)(Q:VK)(E:XK):Prop
 |mk (r:oE) (d:Sd) (n:Nat) (nm:Str) (i:Nat) (p:Str×Tk):vs=[.ref r.a,.str nm]->RcAt Z C S R K H r d n->d.tr[i]?=some p->p.1=nm->(∀t H',cu H H'->H' t=some (.tup [.int p.2.ln.giv,.int p.2.ln.thr,.int p.2.ln.los,.int p.2.ln.mis])->Q (.ref t) H')->QR Z C S R K vs H Q E
def Z2:cI ["self","lane"] ["self","lane"] (bK (rM 29)):=by ext
noncomputable def VH{f x y:Zl}{z a b:ZB}(F:gU K "counts" "Recorder.counts" (rM 29) f z)(L:LZ K mg Z)(RZ:RZ K mg R)(SZ:SZ K mg S)(TZ:TZ K mg C)(j:MD K S "track_of" "Stand.track_of" (sM 1) ["self","name"] x a)(l:MD K Z.l "counts" "Lane.counts" (lM 19) ["self"] y b):cz P w K mg base dM 2 f z ["self","lane"] (QR Z C S R K):=by have D:cz P w K mg base dM 1 x a ["self","name"] (uf Z C S K):=vB j.F SZ;have G:cz P w K mg base dM 1 y b ["self"] (R4 Z):=TQ l.F L;refine F.ok Z2 01 λB A g s H vs Q E m h=>?_;obtain⟨r,d,n,nm,i,p,rfl,c,o,rfl,q⟩:=h;refine⟨_,c7 (cW (eG (E:=E0) (cU (eV (E:=E0) 03 SZ.c j.M D m j.b .nil dC (aK 003 b_)) rfl) L.lc l.M G m l.b .nil dC)),?_⟩;obtain⟨I,e⟩:=c.ob;obtain⟨J,v,M,_⟩:=c.st.ob;obtain⟨t,N,tk⟩:=c.st.tr.at' o;obtain⟨O,W,T,_⟩:=tk.ob;obtain⟨dl,U⟩:=tk.ln.ob;exact⟨9,r.a,R,I,7,e,RZ.c,RZ.r1,8,r.s.a,J,9,M,8,9,r.s,d,p.1,i,t,p,8,c.st,N,o,8,t.a,C,O,7,T,TZ.c,TZ.t1,8,t.k.a,dl,9,U,8,t.k,p.2.ln,8,tk.ln,q⟩
end
end Cm
namespace Cm
open PySem L2 PySem.W
theorem Paired.snoc2{b c:Type}{R:b->c->Prop}{x:b}{y:c}(h:R x y):∀{d:List b}{e:List c},Paired R d e->Paired R (d++[x]) (e++[y])
 |_,_,.nil=>.cons h .nil
 |_,_,.cons a t=>.cons a (Paired.snoc2 h t)
structure Uh(f:j9):Prop where
 nm:Nm f.1
 lo:-2<=f.2.1
 lt:f.2.1<=10
 le:f.2.1<=f.2.2
 hi:f.2.2<=f.2.1+8
def Uh.ok(h:Uh f):nU f:=⟨h.nm,by have:=h.lo;omega,h.le,by have:=h.lt;have:=h.hi;omega⟩
section
variable{P:ZE}{w:ZH}{K:Zs}{mg:Y1}{base:ZN}
inductive Rr(vs:List V)(H:Hp)(Q:VK)(E:XK):Prop
 |mk (p dc:Zl):vs=[.ref p]->Dr H p dc->(∀(a:Zl)(xs:List V)(fs:List j9)(H':Hp),H' a=some (.tup xs)->Paired (jw H') xs fs->fs.length<=3->(∀f∈fs,Uh f)->(fs.map (·.1)).Nodup->Dr H' p dc->h_ p H H'->Q (.ref a) H')->Rr vs H Q E
noncomputable abbrev NSf:List Str:=["_law_d","_law_names","_law_found","_law_title","_law_low"]
def Fv:cI NSf ["_law_d"] (bK (top 127)):=by ext
noncomputable def V3{f fP fO fW fWs:Zl}{fd fdP fdO fdW C:ZB}(F:gU K "_law_small_fields" "_law_small_fields" (top 127) f fd)(T:Txt K mg)(DP:fj K mg "_law_pick" (top 113) ["_law_d","_law_many"] fP fdP)(DO:fj K mg "_law_of" (top 114) ["_law_d","_law_things"] fO fdO)
 (DW:fj K mg "_law_word" (top 116) ["_law_d"] fW fdW)(DWs:fj K mg "_law_words" (top 117) ["_law_d","_law_many"] fWs C):cz P w K mg base dM 5 f fd ["_law_d"] Rr:=by
 have GP:cz P w K mg base dM 1 fP fdP ["_law_d","_law_many"] jC:=jA DP.F T;have GO:cz P w K mg base dM 2 fO fdO ["_law_d","_law_things"] (yx K):=uI DO.F T DP;have ae:cz P w K mg base dM 4 fWs C ["_law_d","_law_many"] (qi K):=wZ DWs.F T DP DO DW;refine F.ok Fv 01 λap A aa s H vs Q E hr h=>?_;obtain⟨p,I,rfl,D,k⟩:=h;have af:dX 1 _:=hr.mono 02;have W:dX 2 _:=hr.mono 02;refine⟨_,(b7 (j8 1 Fv.nd (j4 DWs ae hr (aK 06 (aK (j4 DP GP af (aK 06 (aK cj b_))) b_)))) (b7 (j8 2 Fv.nd (gQ b_)) (b7 (jy abh rfl (iW 003) (kJ 3 Fv.nd) (b7 (j8 4 Fv.nd (j4 DO GO W (aK 06 (aK (gQ (aK cj (aK (pU mH cj) (aK cj (aK cj b_))))) b_)))) (c7 (eE (oY abq abv abO jU 010 (aK (gF (aK (pv 3) (aK (pv 4) (aK (eN iK (pv 4) (j4 DO GO W (aK 06 (aK (gQ (aK cj (aK cj (aK cj (aK cj b_))))) b_)))) b_)))) b_)))))) (c7 (cW (jh jb 004 T.tuple jB (aK 010 b_))))))),?_⟩;refine⟨9,9,p,I,9,D,02,02,λm aq m0 m1 ab ac=>?_⟩;refine⟨p,I,m,8,ab,m0,05,λq L H1 e1 hq hl hy nd D1 ad=>?_⟩;have t1:=ac.trans ad;refine⟨01,λq2 B=>?_⟩;have ag:=D1.new (o:=.lst []) B;have X:(upd H1 q2 (.lst [])) q=some (.lst (L.map V.str)):=(cu.new B) _ _ e1;have nq:q2≠q:=(cg e1 B).symm;have ah:H q2=none:=by
  cases e:H q2 with
  |none=>rfl
  |some o=>rw[t1 q2 o e (D1.neN B).symm]at B;cases B
 have Y:q2≠I:=by obtain⟨g,e⟩:=D1.cell;exact(cg e B).symm
 refine⟨9,q,8,⟨_,eY.of X⟩,jV (xs:=L.map V.str) (λi σ j=>∃(g:List V)(fs:List j9)(a b:Option V),σ=[some (.ref p),some (.ref q),some (.ref q2),a,b]/\j q=some (.lst (L.map V.str))/\j q2=some (.lst g)/\Paired (jw j) g fs/\fs.map (·.1)=L.take i/\(∀f∈fs,Uh f)/\Dr j p I/\h_ p H j) ⟨[],[],none,none,8,X,a_,.nil,04,(λ_ h=>by cases h),ag,t1.trans (h_.new B)⟩ (λi σ j _⟨_,_,_,_,_,e,_⟩=>eY.of e) ?_ ?_⟩
 ·rintro i y σ j hi⟨g,fs,a,b,rfl,g1,O,pf,R,hf,J,t2⟩;rw[aaq]at hi;obtain⟨n,G,rfl⟩:=abk.mp hi;have au:i<L.length:=(aaD.mp G).1;have np:∀{b:Zl}{ws:List V}{H':Hp},Dr H' p I->H' b=some (.lst ws)->b≠p:=λd e=>d.ne e (by intro av z;cases z);refine⟨9,9,01,λq3 h3=>?_⟩;refine⟨p,I,q3,9,J.new h3,eY.of a_,04,04,λx H5 S D5 t5=>?_⟩;obtain⟨N,rfl,al,am⟩:∃z:Int,x=.int z/\-2<=z/\z<=10:=by
   simp only[aag,aba,or_false]at S;rcases S with rfl|rfl|rfl|rfl
   all_goals exact⟨_,rfl,02,02⟩
  have Z:h_ p j H5:=(h_.new h3).trans t5;have ai:H5 q2=some (.lst g):=Z q2 _ O (np J O);refine⟨9,.inl ⟨8,_,eY.of ai⟩,9,9,9,9,01,λq5 h5=>?_⟩;refine⟨p,I,q5,9,D5.new h5,eY.of a_,04,04,λx U S D6 t6=>?_⟩;obtain⟨z,rfl,z0,z1⟩:∃z:Int,x=.int z/\0<=z/\z<=8:=by
   simp only[aag,aba,or_false]at S;rcases S with rfl|rfl|rfl|rfl
   all_goals exact⟨_,rfl,02,02⟩
  have v:h_ p j U:=Z.trans ((h_.new h5).trans t6);have aj:U q=some (.lst (L.map V.str)):=v q _ g1 (np J g1);have ak:U q2=some (.lst g):=v q2 _ O (np J O);have k5:TK j U:=TK.but J v;refine⟨7,8,01,λq4 M=>?_⟩;have c:∀o,(upd U q4 o) q2=some (.lst g):=λo=>(cu.new M) _ _ ak;have ao:fs.length=i:=by have:=aaB List.length R;rw[aaf,aaV]at this;omega
  have pl:=aaS pf;refine⟨q2,g,9,8,c _,n6 05,?_⟩;refine⟨g++[.ref q4],fs++[(n,N,N+z)],7,?_,a_,?_,?_,?_,?_,?_⟩
  ·rw[b8 nq.symm];exact(cu.new M) _ _ aj
  ·refine Paired.snoc2 ⟨q4,8,?_⟩ (gD pf (k5.trans ((TK.new M).trans (TK.lst (c _)))));exact(TK.lst (c _)) _ _ a_
  ·rw[aaA,R,aaW,G];rfl
  ·intro f r;rcases aam.mp r with r|r
   ·exact hf f r
   ·obtain rfl:f=(n,N,N+z):=by simpa using r
    exact⟨hy n (aap G),al,am,by dsimp only;omega,by dsimp only;omega⟩
  ·exact(D6.new M).put (np (D6.new (o:=.tup [.str n,.int N,.int (N+z)]) M) (c _)) Y
  ·intro b o e hb;rw[b8 (cg e ah)];exact(cu.new M) _ _ ((t2.trans v) b o e hb)
 ·rintro σ j⟨g,fs,a,b,rfl,g1,O,pf,R,hf,J,t2⟩;rw[aaf,aaQ]at R;refine⟨9,q2,g,8,.inl ⟨eY.of O,λl G=>?_⟩⟩;refine k l g fs _ a_ (gD pf (TK.new G)) ?_ hf (by rw[R];exact nd) (J.new G) (t2.trans (h_.new G));rw[<-aaf (f:=(·.1)),R];omega
end
open PySem.Spec PyProof.Rows
def Od(H:Hp)(x:V)(t:Str×List j9):Prop:=∃b a c,x=.ref b/\H b=some (.tup [.str t.1,.ref a])/\H a=some (.tup c)/\Paired (jw H) c t.2
structure ZM(t:Str×List j9):Prop where
 nm:Nm t.1
 ln:t.2.length<=3
 sm:∀f∈t.2,Uh f
 nd:(t.2.map (·.1)).Nodup
section
variable{P:ZE}{w:ZH}{K:Zs}{mg:Y1}{base:ZN}{H H' H'':Hp}
def Od.tk(h:Od H x t)(k:TK H H'):Od H' x t:=by obtain⟨b,a,c,e,d,f,g⟩:=h;exact⟨b,a,c,e,k _ _ d,k _ _ f,gD g k⟩
def kk(x:Str):Key:=Sum.inr x
noncomputable def cK(a b lt c:Zl):List (Key×V):=[(kk "kinds",.ref a),(kk "lanes",.ref b),(kk "tallies",.ref lt),(kk "fields",.ref c)]
def ZK(b:List V):Prop:=∃a:List Str,b=a.map V.str/\a≠[]/\∀y∈a,Nm y
structure Q3(H:Hp)(c:Zl)(kts:List (Str×List j9))(ws:Y2):Prop where
 ex:∃lk ll lt lf ks us,H c=some (.dK (cK lk ll lt lf))/\H lk=some (.lst ks)/\Pd (Od H) ks kts/\H ll=some (.lst (ws.map V.str))/\H lf=some (.lst us)/\us.length<=100/\ZK us
structure Ni(kts:List (Str×List j9))(ws:Y2):Prop where
 kl:kts.length=3
 ko:∀t∈kts,ZM t
 kd:(kts.map (·.1)).Nodup
 wl:3<=ws.length
 wo:∀x∈ws,Nm x
 wd:ws.Nodup
 wm:ws.length<=6
noncomputable def Dr.set(D:Dr H p f)(n:c≠p)(e:H c=some (.dK d)):Dr (upd H c o) p f:=by obtain⟨g,a,r,s,h,b,k⟩:=D.ex;exact⟨g,a,r,s,by rw[b8 n.symm];exact h,by rw[b8 (λz=>by rw[z,e]at b;cases b)];exact b,k⟩
def RK{a b c d:Key}{x y z u e:V}(f:a≠d)(g:b≠d)(h:c≠d):putK [(a,x),(b,y),(c,z),(d,u)] d e=[(a,x),(b,y),(c,z),(d,e)]:=by unfold putK;rw[aac 04];simp[f,g,h]
def rQ{k:Key}:jj [(a,x),(b,y),(c,z),(d,u)] k=if a=k then some x else if b=k then some y else if c=k then some z else if d=k then some u else none:=by
 by_cases e:a=k
 ·rw[aac e];simp[jj,e]
 ·rw[aab e];by_cases f:b=k
  ·rw[aac f];simp[jj,e,f]
  ·rw[aab f];by_cases g:c=k
   ·rw[aac g];simp[jj,e,f,g]
   ·rw[aab g];by_cases h:d=k
    ·rw[aac h];simp[jj,e,f,g,h]
    ·rw[aab h];simp[jj,e,f,g,h]
structure Cd(H:Hp)(p dc c lk:Zl)(out:List V)(kts:List (Str×List j9))(X:Hp)(kvs:List (Key×V)):Prop where
 D:Dr X p dc
 ec:X c=some (.dK kvs)
 l:X lk=some (.lst out)
 k:Pd (Od X) out kts
 b:∀b u,H b=some u->b≠p->X b=some u
 n:c≠p
 h:H c=none
def Cd.but(s:Cd H p g c i a d X f)(t:h_ p X Y)(D:Dr Y p g):Cd H p g c i a d Y f:=
 ⟨D,t _ _ s.ec s.n,t _ _ s.l (s.D.ne s.l (by intro _ h;cases h)),s.k.map λ_ _ r=>r.tk (TK.but s.D t),λb u e n=>t _ _ (s.b b u e n) n,s.n,s.h⟩
def Cd.set(s:Cd H p g c j d f X i):Cd H p g c j d f (upd X c (.dK kvs')) kvs':=
 ⟨s.D.set s.n s.ec,a_,by rw[b8 (λz=>by have:=s.l;rw[z,s.ec]at this;cases this)];exact s.l,s.k.map λ_ _ r=>r.tk λb a e=>by rw[b8 (λz=>by rw[z,s.ec]at e;cases e)];exact e,λb u e n=>by rw[b8 (cg e s.h)];exact s.b b u e n,s.n,s.h⟩
noncomputable def Cd.lst{X:Hp}(s:Cd H p i c j d f X g){l:Zl}{a:List V}(e:X l=some (.lst a)){kvs':List (Key×V)}:upd X c (.dK kvs') l=some (.lst a):=by rw[b8 (λz=>by rw[z,s.ec]at e;cases e)];exact e
def Cd.nl{X:Hp}(s:Cd H p i c j d f X g){l:Zl}{a:List V}(e:X l=some (.lst a)):l≠p:=s.D.ne e (by intro _ h;cases h)
inductive zW(vs:List V)(H:Hp)(Q:VK)(E:XK):Prop
 |mk (p dc:Zl):vs=[.ref p]->Dr H p dc->(∀(c:Zl)kts ws H',Q3 H' c kts ws->Ni kts ws->c≠p->Dr H' p dc->h_ p H H'->Q (.ref c) H')->zW vs H Q E
def vP:cI ["_law_d","_law_c","_law_title","_law_fields"] ["_law_d"] (bK (top 128)):=by ext
noncomputable def Lx{f fP fO fW fWs fS:Zl}{fd fdP fdO fdW Z fdS:ZB}(F:gU K "_law_cast" "_law_cast" (top 128) f fd)(T:Txt K mg)(DP:fj K mg "_law_pick" (top 113) ["_law_d","_law_many"] fP fdP)(DO:fj K mg "_law_of" (top 114) ["_law_d","_law_things"] fO fdO)
 (DW:fj K mg "_law_word" (top 116) ["_law_d"] fW fdW)(M:fj K mg "_law_words" (top 117) ["_law_d","_law_many"] fWs Z)(DS:fj K mg "_law_small_fields" (top 127) ["_law_d"] fS fdS):cz P w K mg base dM 6 f fd ["_law_d"] zW:=by
 have GP:cz P w K mg base dM 1 fP fdP ["_law_d","_law_many"] jC:=jA DP.F T;have GW:cz P w K mg base dM 3 fW fdW ["_law_d"] vJ:=Bp DW.F T DP DO;have ad:cz P w K mg base dM 4 fWs Z ["_law_d","_law_many"] (qi K):=wZ M.F T DP DO DW;have GS:cz P w K mg base dM 5 fS fdS ["_law_d"] Rr:=V3 DS.F T DP DO DW M;refine F.ok vP 01 λay A ai s H vs Q E hr h=>?_;obtain⟨p,O,rfl,D,k⟩:=h;have hu:=oO hr;have aj:dX 1 _:=hr.mono 02;have ak:dX 3 _:=hr.mono 02;have ae:dX 4 _:=hr.mono 02;refine⟨_,(b7 (j8 1 vP.nd (BL (mF cZ (j0 (g:=eQ 0) (own:=["_law_title"]) (js:=[0]) (N':=["_law_title","_law_d"]) (dJ.of (osc:=bK (top 128)) (N:=["_law_d","_law_c","_law_title","_law_fields"]) rfl rfl 01) rfl (iW (j4 M ad ae (aK 06 (aK cj b_)))) (λ_ _ _ _ _=>(eX (i:=0) (show List.Nodup (["_law_title","_law_d"]:Y2) by ext) rfl 012 013)) (λ_ _ _ _ _=>gw) (λ_ _ _ _ _=>gF (aK 06 (aK (j4 DS GS hr (aK 003 b_)) b_)))) Cg) rfl rfl (ac4 _ _) (by show 1<=15;decide))) (b7 (jr hu 003 cZ (j4 M ad ae (aK 06 (aK (d_ iH (gQ (aK cj (aK cj (aK cj (aK cj b_))))) (j4 DP GP aj (aK 06 (aK cj b_)))) b_))) rfl) (b7 (jr hu 003 cZ (j4 M ad ae (aK 06 (aK cj b_))) rfl) (b7 (jr hu 003 cZ (gQ (aK (j4 DW GW ak (aK 06 b_)) b_)) rfl) (b7 (jy abh rfl (iW (fZ hu 003 cZ)) (ii rfl (d8 (kJ 2 vP.nd) (d8 (kJ 3 vP.nd) gj))) (c7 (jr hu 003 cZ (eN R9 (j0 (g:=eQ 0) (own:=["_law_field"]) (js:=[]) (N':=["_law_field"]) (dJ.of (osc:=bK (top 128)) (N:=["_law_d","_law_c","_law_title","_law_fields"]) rfl rfl 01) rfl (mJ (pv 3)) (λ_ _ _ _ _=>(eX (i:=0) (show List.Nodup (["_law_field"]:Y2) by ext) rfl 012 013)) (λ_ _ _ _ _=>gw) (λ_ _ _ _ _=>d_ (r:=Ei K) eO 06 cj)) (fZ hu 003 cZ)) rfl))) (c7 (cW 003))))))),?_⟩;refineλc hc=>?_;have D0:=D.new (o:=.dK []) hc;have J:c≠p:=(D.neN hc).symm;have t0:h_ p H (upd H c (.dK [])):=h_.new hc;refine⟨9,p,O,3,8,D0,02,02,λq ys H1 e1 hq hl hy nd D1 t1=>⟨q,8,⟨_,eY.of e1⟩,?_⟩⟩;have c1:H1 c=some (.dK []):=t1 _ _ a_ J;have al:q≠p:=D1.ne e1 (by intro _ h;cases h);refine iJ (xs:=ys.map V.str) (λi d n I=>(∃v,n=[v,some (.ref p)])/\Dr I p O/\h_ p H1 I/\∃B:List (Str×List j9),Pd (Od I) d B/\B.map (·.1)=ys.take i/\∀t∈B,ZM t) (by rw[aaf];exact aah (show ys.length<=3 by omega) 02) ⟨⟨none,8⟩,D1,h_.refl,[],.nil,8,λt m=>by cases m⟩ (λi d n I _ z=>eY.of (z.2.2.1 _ _ e1 al)) ?_ ?_
 ·rintro i x d n H2 hx ho⟨⟨v,rfl⟩,D2,b2,B,pd,ek,L⟩N hN;obtain⟨y,ag,rfl⟩:=tK hx;dsimp only[eQ,List.set];refine⟨9,9,p,O,8,D2,λa xs fs H3 ha pf fl sm fn D3 t3=>⟨01,λb hb=>hN _ _ _ (by simpa using ho) ⟨⟨9⟩,D3.new hb,(b2.trans t3).trans (h_.new hb),B++[(y,fs)],?_,?_,?_⟩⟩⟩
  ·have k3:=TK.but D2 t3;have k4:TK H3 (upd H3 b (.tup [.str y,.ref a])):=TK.new hb;exact Pd.app (.cons ⟨b,a,xs,8,a_,k4 _ _ ha,gD pf k4⟩ .nil) (pd.map λ_ _ r=>r.tk (k3.trans k4))
  ·rw[aaA,ek,je ag];rfl
  ·intro t m;rcases aam.mp m with m|m
   ·exact L t m
   ·cases aal.mp m;exact⟨hy y (aap ag),fl,sm,fn⟩
 ·rintro d n H2 ho⟨_,D2,b2,B,pd,ek,L⟩;rw[aaf,aaQ]at ek;refine⟨by rw[ho,aaf];exact aah (show ys.length<=3 by omega) 02,λl R=>?_⟩;have ao:c≠l:=cg (b2 _ _ c1 J) R;have c3:upd H2 l (.lst d) c=some (.dK []):=by rw[b8 ao];exact b2 _ _ c1 J
  have D3:=D2.new (o:=.lst d) R;refine⟨c3,[(kk "kinds",.ref l)],8,(show 1<=15 by decide),?_⟩;have e3:upd H2 l (.lst d) l=some (.lst d):=a_;have pd3:Pd (Od (upd H2 l (.lst d))) d B:=pd.map λ_ _ r=>r.tk (TK.new R);have b3:h_ p H (upd H2 l (.lst d)):=((t0.trans t1).trans b2).trans (h_.new R);generalize upd H2 l (.lst d)=H3 at c3 D3 e3 pd3 b3|-;have ap:pI [] [(kk "kinds",V.ref l)]=[(kk "kinds",V.ref l)]:=rfl;rw[ap];have s4:Cd H p O c l d B (upd H3 c (.dK [(kk "kinds",.ref l)])) [(kk "kinds",.ref l)]:=(Cd.mk (kvs:=[]) D3 c3 e3 pd3 b3 J hc).set;clear c3 D3 e3 pd3 b3;generalize upd H3 c (.dK [(kk "kinds",.ref l)])=H4 at s4|-;have D4:=s4.D;dsimp only[eQ];refine⟨9,01,λl4 aa=>⟨9,p,O,4,8,D4.new aa,02,02,λr H5 r0 r1 D5 t5=>?_⟩⟩;have aq:∃m:Int,rN [V.int 3,.int 3,.int 3,.int 6] r=some (.int m)/\3<=m/\m<=6:=by
   rcases(show r=0\/r=1\/r=2\/r=3 by omega)with rfl|rfl|rfl|rfl
   ·exact⟨3,rfl,02,02⟩
   ·exact⟨3,rfl,02,02⟩
   ·exact⟨3,rfl,02,02⟩
   ·exact⟨6,rfl,02,02⟩
  obtain⟨m,am,m3,m6⟩:=aq;have au:=(h_.new (p:=p) (o:=.lst [V.int 3,.int 3,.int 3,.int 6]) aa).trans t5;have l5:=t5 l4 _ a_ (D4.neN aa).symm;refine⟨l4,_,r,9,8,eY.of l5,am,p,O,m,8,D5,by lia,by lia,λG ws H6 ew az wl wo wd D6 t6=>?_⟩;have s6:=s4.but (au.trans t6) D6;refine⟨9,c,9,nY.k (k:=kk "lanes") s6.ec (show 1<sizeLine by decide),?_⟩;rw[m_ (λp m=>by cases aal.mp m;show kk "kinds"≠kk "lanes";decide+kernel)];have s7:=s6.set (kvs':=[(kk "kinds",.ref l)]++[(kk "lanes",.ref G)]);have w7:=s6.lst (kvs':=[(kk "kinds",.ref l)]++[(kk "lanes",.ref G)]) ew;generalize upd H6 c (.dK ([(kk "kinds",.ref l)]++[(kk "lanes",.ref G)]))=H7 at s7 w7|-;refine⟨9,p,O,2,8,s7.D,02,02,λlt ts H8 et aA tl to td D8 t8=>?_⟩;have s8:=s7.but t8 D8;have w8:=t8 _ _ w7 (s7.nl w7);refine⟨9,c,9,nY.k (k:=kk "tallies") s8.ec (show 2<sizeLine by decide),?_⟩;rw[m_ (λp m=>by
   rcases aam.mp m with m|m
   ·cases aal.mp m;show kk "kinds"≠kk "tallies";decide+kernel
   ·cases aal.mp m;show kk "lanes"≠kk "tallies";decide+kernel)];have s9:=s8.set (kvs':=[(kk "kinds",.ref l)]++[(kk "lanes",.ref G)]++[(kk "tallies",.ref lt)]);have w9:=s8.lst (kvs':=[(kk "kinds",.ref l)]++[(kk "lanes",.ref G)]++[(kk "tallies",.ref lt)]) w8;generalize upd H8 c (.dK ([(kk "kinds",.ref l)]++[(kk "lanes",.ref G)]++[(kk "tallies",.ref lt)]))=H9 at s9 w9|-;refine⟨9,p,O,8,s9.D,λx HA nx DA tA=>⟨01,λC ab=>?_⟩⟩;have sA:=s9.but (tA.trans (h_.new (o:=.lst [.str x]) ab)) (DA.new ab);have wA:=(tA.trans (h_.new (o:=.lst [.str x]) ab)) _ _ w9 (s9.nl w9);have fA:upd HA C (.lst [.str x]) C=some (.lst [.str x]):=a_;generalize upd HA C (.lst [.str x])=HB at sA wA fA|-;refine⟨9,c,9,nY.k (k:=kk "fields") sA.ec (show 3<sizeLine by decide),?_⟩;rw[m_ (λp m=>by
   rcases aam.mp m with m|m
   ·rcases aam.mp m with m|m
    ·cases aal.mp m;show kk "kinds"≠kk "fields";decide+kernel
    ·cases aal.mp m;show kk "lanes"≠kk "fields";decide+kernel
   ·cases aal.mp m;show kk "tallies"≠kk "fields";decide+kernel)];have sC:Cd H p O c l d B (upd HB c (.dK (cK l G lt C))) (cK l G lt C):=sA.set;have wC:=sA.lst (kvs':=cK l G lt C) wA;have fC:=sA.lst (kvs':=cK l G lt C) fA;generalize ah:upd HB c (.dK ([(kk "kinds",V.ref l)]++[(kk "lanes",V.ref G)]++[(kk "tallies",V.ref lt)]++[(kk "fields",V.ref C)]))=HC;have W:upd HB c (.dK (cK l G lt C))=HC:=ah;rw[W]at sC wC fC;clear ah W;have gk:∀{X:Hp} {C:Zl},X c=some (.dK (cK l G lt C))->j6 X c (.str "kinds") (some (.ref l))/\j6 X c (.str "fields") (some (.ref C)):=λ{X C}e=>by
   refine⟨?_,?_⟩
   ·have:=j6.k (k:=kk "kinds") e;unfold cK at this;rw[rQ,aac rfl]at this;exact this
   ·have:=j6.k (k:=kk "fields") e;unfold cK at this;rw[rQ,aab 01,aab 01,aab 01,aac rfl]at this;exact this
  have ol:d.length=B.length:=pd.len;have kl:B.length=3:=by have:=aaB List.length ek;rw[aaf]at this;omega
  refine⟨9,c,9,(gk sC.ec).1,l,8,⟨_,eY.of sC.l⟩,?_⟩;refine jV (xs:=d) (λj n I=>(∃u v,n=[some (.ref p),some (.ref c),u,v])/\∃C us,Cd H p O c l d B I (cK l G lt C)/\I G=some (.lst (ws.map V.str))/\I C=some (.lst us)/\us.length<=1+3*j/\ZK us) ⟨⟨7⟩,C,_,sC,wC,fC,aae _,[x],8,ac4 _ _,λy m=>by cases aal.mp m;exact nx⟩ (λj n I _ z=>by obtain⟨_,_,_,z,_⟩:=z;exact eY.of z.l) ?_ ?_
  ·rintro j y n HD hj⟨⟨u,v,rfl⟩,af,us,U,wD,fD,ul,yu,rfl,_,yn⟩;obtain⟨t,ht,b,a,xs,rfl,eb,ea,pf⟩:=U.k.at hj;have j3:j<3:=by have:=(aaD.mp hj).1;omega
   refine⟨b,9,e_.of eb,8,7,7,8,?_⟩;refine⟨9,a,8,⟨_,e_.of ea⟩,?_⟩;have xl:xs.length<=3:=by rw[aaS pf];exact(L t (aap ht)).ln
   refine iJ (xs:=xs) (λi ys n I=>(∃v,n=[v])/\I=HD/\ys=((t.2.map (·.1)).take i).map V.str) (aah xl 02) ⟨⟨none,8⟩,8,8⟩ (λi ys n I _ z=>by rw[z.2.1];exact e_.of ea) ?_ ?_
   ·rintro i x aB n HE hx ax⟨⟨v',rfl⟩,rfl,rfl⟩N hN;obtain⟨f',av,b',rfl,aw⟩:=ji pf hx;dsimp only[eQ,List.set];exact⟨9,b',_,7,8,e_.of aw,BJ,hN _ _ _ (by simpa using ax) ⟨⟨9⟩,8,by rw[je (show(t.2.map (·.1))[i]?=some f'.1 by rw[aaq,av];rfl),aaA];rfl⟩⟩
   ·rintro Y n HE hz⟨_,rfl,ez⟩;rw[aaS pf,<-aaf (f:=λf:j9=>f.1),aaQ]at ez;refine⟨aah (show Y.length<=3 by omega) 02,λl1 S=>?_⟩;have sE:=U.but (h_.new (o:=.lst Y) S) (U.D.new S);have wE:=(cu.new (o:=.lst Y) S) _ _ wD;have fE:=(cu.new (o:=.lst Y) S) _ _ fD;refine⟨9,c,9,(gk sE.ec).2,l1,af,Y,9,8,a_,fE,aah (show Y.length+(yu.map V.str).length<=100 by omega) 02,λl2 ac=>?_⟩;have sF:=sE.but (h_.new (o:=.lst (Y++yu.map V.str)) ac) (sE.D.new ac);have wF:=(cu.new (o:=.lst (Y++yu.map V.str)) ac) _ _ wE;refine⟨9,c,9,nY.k (k:=kk "fields") sF.ec (show 4<sizeLine by decide),?_⟩;unfold cK;rw[RK 01 01 01];refine⟨⟨7⟩,l2,_,sF.set,sF.lst wF,sF.lst a_,by rw[aaw];omega,t.2.map (·.1)++yu,by rw[ez,aaA],by simp[‹yu≠[]›],λy m=>?_⟩;rcases aam.mp m with m|m
    ·obtain⟨f,mf,rfl⟩:=aao.mp m;exact((L t (aap ht)).sm f mf).ok.nm
    ·exact yn y m
  ·rintro n HD⟨⟨u,v,rfl⟩,af,us,U,wD,fD,ul,uo⟩;refine⟨9,k c B ws HD ⟨l,G,lt,af,d,us,U.ec,U.l,U.k,wD,fD,05,uo⟩ ⟨kl,L,by rw[ek];exact nd,05,wo,wd,05⟩ J U.D U.b⟩
end
end Cm
namespace Cm
open PySem L2 PySem.W
section
variable{P:ZE}{w:ZH}{K:Zs}{mg:Y1}{base:ZN}
noncomputable def rK(e:H a=some (.dK (cK f g lt h))):j6 H a (.str "lanes") (some (.ref g))/\j6 H a (.str "kinds") (some (.ref f))/\j6 H a (.str "fields") (some (.ref h)):=by have b:=j6.k (k:=kk "lanes") e;have c:=j6.k (k:=kk "kinds") e;have d:=j6.k (k:=kk "fields") e;unfold cK at b c d;rw[rQ,aab 01,aac rfl]at b;rw[rQ,aac rfl]at c;rw[rQ,aab 01,aab 01,aab 01,aac rfl]at d;exact⟨b,c,d⟩
inductive Ez(K:Zs)(vs:List V)(H:Hp)(Q:VK)(E:XK):Prop
 |mk (p dc c:Zl) (kts:List (Str×List j9)) (ws:Y2):vs=[.ref p,.ref c]->Dr H p dc->Q3 H c kts ws->Ni kts ws->(∀(x:V)(d:PyData)(H':Hp),Rep K H' x d->Tr 5 d->kE d=true->Dr H' p dc->h_ p H H'->Q x H')->Ez K vs H Q E
def TY:cI ["_law_d","_law_c"] ["_law_d","_law_c"] (bK (top 129)):=by ext
noncomputable def Om(F:gU K "_law_cast_test" "_law_cast_test" (top 129) f X)(J:fj K mg "_law_test" (top 125) ["_law_d","_law_names","_law_kinds"] W q)(GT:cz P w K mg base dM 10 W q ["_law_d","_law_names","_law_kinds"] (Q9 K)):cz P w K mg base dM 11 f X ["_law_d","_law_c"] (Ez K):=by
 refine F.ok TY 01 λY A C s H vs Q E L h=>?_;obtain⟨p,dc,c,o,ws,rfl,D,ca,O,k⟩:=h;have M:=oO L;refine⟨_,(c7 (cW (gf (E:=E0) GT (L.mono 02) rfl J.mg J.F.kp J.b .nil dC (aK 06 (aK (fZ M 003 cZ) (aK (j0 (g:=Fy K 2 (nW (eQ 0) (nW (eQ 1) Hz))) (own:=["_law_title","_law_fields"]) (js:=[]) (N':=["_law_title","_law_fields"]) (dJ.of (osc:=bK (top 129)) (N:=["_law_d","_law_c"]) rfl rfl 01) rfl (iW (fZ M 003 cZ)) (λ_ _ _ _ _=>(ii rfl (d8 (eX (i:=0) (show List.Nodup (["_law_title","_law_fields"]:Y2) by ext) rfl 012 013) (d8 (eX (i:=1) (show List.Nodup (["_law_title","_law_fields"]:Y2) by ext) rfl 012 013) gj)))) (λ_ _ _ _ _=>gw) (λ_ _ _ _ _=>pv 0)) b_)))))),?_⟩;obtain⟨lk,ll,lt,lf,R,us,e1,S,T,_,ef,U,ys,rfl,yn,yo⟩:=ca.ex;obtain⟨_,g2,g3⟩:=rK e1;rw[aaf]at U;have kl:=T.len;have I:=O.kl;refine⟨9,9,c,9,g3,9,c,9,g2,lk,8,⟨_,eY.of S⟩,?_⟩;refine iJ (xs:=R) (λi j n B=>(∃u v,n=[u,v])/\B=H/\j=((o.map (·.1)).take i).map V.str) (aah (show R.length<=3 by omega) 02) ⟨⟨none,none,8⟩,8,8⟩ (λi j n B _ z=>by rw[z.2.1];exact eY.of S) ?_ ?_
 ·rintro i x j n H2 hx ho⟨⟨u,v,rfl⟩,rfl,rfl⟩N hN;obtain⟨t,ht,b,a,xs,rfl,hb,ha,pf⟩:=T.at hx;refine⟨b,9,e_.of hb,8,7,7,8,?_⟩;exact⟨9,hN _ _ _ (by simpa using ho) ⟨⟨7⟩,8,by rw[je (show(o.map (·.1))[i]?=some t.1 by rw[aaq,ht];rfl),aaA];rfl⟩⟩
 ·rintro j n H2 ho⟨_,rfl,rfl⟩;rw[kl,<-aaf (f:=λt:Str×List j9=>t.1),aaQ];refine⟨by simp[I];decide,λl G=>?_⟩;exact⟨p,dc,lf,l,ys,o.map (·.1),8,D.new G,eY.of (cu.new G _ _ ef),eY.of a_,yn,by intro z;have:=aaB List.length z;simp[I]at this,U,by simp[I],yo,λy m=>by obtain⟨t,mt,rfl⟩:=aao.mp m;exact(O.ko t mt).nm,λx d B r t e Z b=>k x d B r t e Z ((h_.new G).trans b)⟩
end
structure Gv(A:List Cl)(n:Ln)(ck:Int):Prop where
 pg:n.pg≠[]
 go:∀p∈n.pg,p.go=0
 cl:iU n=A
 gv:∀c∈A,c.gv=true
 nd:(A.map (·.tk)).Nodup
 tk:∀c∈A,c.tk<=n.tks
 kd:∀c∈A,sS c.nm c.fi
 us:∀p∈n.pg,p.us<=4*(p.cs.length:Int)
 fu:∀p∈n.pg.dropLast,3<=p.cs.length
 mo:n.most=16
 ro:n.room=12
 he:n.held=false
 to:n.told=0
 giv:n.giv=A.length
 la:∀t,n.last=some t->t<=ck
def Gv.new:Gv [] (pY 16 12 false) 0:=
 ⟨by simp[pY],λp m=>by cases aal.mp m;rfl,8,(λ_ m=>by cases m),abm,(λ_ m=>by cases m),(λ_ m=>by cases m),λp m=>by cases aal.mp m;decide,λp m=>by simp[pY]at m,8,8,8,8,8,(λt h=>by cases h)⟩
theorem xq:∀a:List Pg,(∀p∈a,3<=p.cs.length)->3*a.length<=(a.flatMap (·.cs)).length
 |[],_=>aae _
 | p::r,h=>by have:=xq r λq m=>h q (aai _ m);have:=h p (aan ..);simp only[aaI,aaw,aaz];omega
noncomputable def Gv.few(h:Gv A n c):3*n.pg.length<=A.length+3:=by obtain⟨r,p,e,_⟩:=oK h.pg;have b:=h.fu;have a:=h.cl;rw[e,acH]at b;have:=xq r b;unfold iU at a;rw[e,aa1]at a;rw[e,<-a,aaw,aaw];simp only[aaz,abo];omega
def Jm(h:∀c∈cs,c.gv=true):vL cs=[]:=by unfold vL;rw[List.filter_eq_nil_iff];intro c m;simp[h c m]
def Gv.ok(h:Gv A n o)(j:A.length<=39)(i:Pd tL fs l):Hl fs o l n:=by
 have f:=h.few;have cs:∀m∈n.pg,∀c∈m.cs,c∈A:=λm d c g=>by rw[<-h.cl];exact aaN.mpr ⟨m,d,g⟩
 refine⟨⟨h.pg,by rw[h.mo];decide,05,λm d=>?_,h.la⟩,?_,?_,05,by rw[h.cl];omega,by rw[h.cl];exact h.nd,by rw[h.cl];exact h.tk,i⟩
 ·have:m.cs.length<=(iU n).length:=by obtain⟨a,b,e⟩:=List.append_of_mem d;unfold iU;rw[e,aa1,aaI];simp only[aaw];omega
  rw[h.cl]at this;omega
 ·have:vo n=0:=by unfold vo;rw[h.he];rfl
  rw[this,h.mo];omega
 ·unfold wait;rw[List.flatMap_eq_nil_iff];exactλp m=>Jm λc g=>h.gv c (cs p m c g)
def Gv.lno(h:Gv A n e)(d:A.length<=40):JP n/\n.pg.length<=900/\(iU n).length<=900/\(Cm.stand n).length<=900:=by
 have f:=h.few;have a:(iU n).length<=900:=by rw[h.cl];omega
 refine⟨⟨by rw[h.mo];decide,by rw[h.mo];decide,by rw[h.ro];decide,by rw[h.ro];decide,λp m c b=>h.kd c (by rw[<-h.cl];exact aaN.mpr ⟨p,m,b⟩)⟩,05,a,aah (sU n.pg 0) a⟩
def Jw(nm:Str)(fs:List j9)(a:Int)(b:List Int)(n:Ln):Cl:={eZ (n.tks+1) a nm fs with vs:=b,gv:=true}
def Gv.put(h:Gv A n J)(s:WT fs n r p)(F:sS nm fs)(I:fs.length<=3):Gv (A++[Jw nm fs J L n]) (Jr nm fs J L n r p) J:=by
 have B:=h.ro;have C:(∀q∈r++[p],q.go=0)/\(r++[p]).flatMap (·.cs)=A/\(∀q∈r++[p],q.us<=4*(q.cs.length:Int))/\∀q∈r,3<=q.cs.length:=by
  rcases s with⟨e,_⟩|⟨e,rfl,lt⟩
  ·rw[<-e];have d:=h.fu;rw[e,acH]at d;exact⟨h.go,h.cl,h.us,d⟩
  ·obtain⟨H,q,j,w⟩:=oK h.pg;have D:Mm n=q.us:=by unfold Mm;rw[w];rfl
   rw[e]at j w;have d:=h.fu;rw[e,j,acH]at d;have E:q∈n.pg:=by rw[e,j];simp
   have G:=h.us q E;rw[D,B]at lt;have f:=h.cl;unfold iU at f;rw[e]at f;refine⟨λx m=>?_,?_,λx m=>?_,λx m=>?_⟩
   ·rcases aam.mp m with m|m
    ·exact h.go x (by rw[e];exact m)
    ·cases aal.mp m;rfl
   ·rw[aa1,f];simp
   ·rcases aam.mp m with m|m
    ·exact h.us x (by rw[e];exact m)
    ·cases aal.mp m;decide
   ·rw[j]at m;rcases aam.mp m with m|m
    ·exact d x m
    ·cases aal.mp m;omega
 obtain⟨go,f,o,d⟩:=C;unfold Jr;have app:∀{Q:Cl->Prop},(∀c∈A,Q c)->Q (Jw nm fs J L n)->∀c∈A++[Jw nm fs J L n],Q c:=λi l c m=>by
  rcases aam.mp m with m|m
  ·exact i c m
  ·cases aal.mp m;exact l
 have g:∀{Q:Pg->Prop},(∀q∈r++[p],Q q)->(Q p->Q {p with cs:=p.cs++[Jw nm fs J L n],us:=p.us+001})->∀q∈r++[({p with cs:=p.cs++[Jw nm fs J L n],us:=p.us+001}:Pg)],Q q:=λi l c m=>by
  rcases aam.mp m with m|m
  ·exact i c (aaL _ m)
  ·cases aal.mp m;exact l (i p 04)
 refine⟨by simp[wY],g go id,?_,app h.gv rfl,?_,app (λc m=>by have:=h.tk c m;show c.tk<=n.tks+1;omega) (Int.le_refl _),app h.kd F,g o (λu=>by simp only[aaw,aaz,abo];omega),?_,h.mo,h.ro,h.he,h.to,?_,λt e=>?_⟩
 ·show(r++[_]).flatMap _=_;rw[aa1,<-f,aa1];simp[Jw]
 ·rw[aaA];refine abj.mpr ⟨h.nd,04,λa y b v z=>?_⟩;obtain⟨c,m,rfl⟩:=aao.mp y;have v:b=n.tks+1:=by simpa[Jw,eZ]using v
  have:=h.tk c m;omega
 ·unfold wY;dsimp only;rw[acH];exact d
 ·show n.giv+1=_;rw[h.giv,aaw];simp
 ·cases(show some J=some t from e);exact Int.le_refl _
noncomputable def Lg:Stmt->List Stmt
 |.For _ _ b _ _=>b
 |_=>[]
noncomputable def Z1:Stmt->Expr
 |.Assign _ (.Call _ (e::_) _ _) _=>e
 |_=>.Constant .none 0 ⟨0,0,0,0⟩
noncomputable def oM:Expr->Arguments
 |.Lambda p _ _ _=>p
 |_=>{posonlyargs:=[],args:=[],vararg:=none,kwonlyargs:=[],kw_defaults:=[],kwarg:=none,defaults:=[]}
noncomputable def ut:Expr->Expr
 |.Lambda _ b _ _=>b
 |e=>e
noncomputable def jq:Expr->Scope
 |.Lambda _ _ s _=>s
 |_=>{kind:=.function,names:=[],isGenerator:=false,isCoroutine:=false}
noncomputable def Es:Expr->Pos
 |.Lambda _ _ _ p=>p
 |_=>⟨0,0,0,0⟩
noncomputable def Zy:Stmt:=.Pass ⟨0,0,0,0⟩
structure Nx(NL:Y2)(L:ZT):Prop where
 has:∀q∈(jq L).names,(q.2=.cell\/q.2=.free)->q.1∈NL
 free:∀x∈NL,(jq L).names.lookup x=some .free
 co:(jq L).isCoroutine=false
 gen:(jq L).isGenerator=false
 k:(jq L).kind=.function
 nc:∀x∈(jq L).names,x.2≠.cell
structure Rw(K:Zs)(cT cV cS:Zl):Prop where
 nv:mroIn K cT (.ref cV)=some false
 se:mroIn K cT (.ref cS)=some true
 gt:Ck K cT "word"
def NB(q:Str)(L:ZT)(c:YR)(d:ZI)(f:Zl)(H:Hp):Prop:=∃a b,H f=some (lamO f (kla_obj "<lambda>" q (oM L) (ut L) (jq L) c d a b))/\H a=some (mV a q)
def Zt(K:Zs)(d e cM:Zl)(Q:VK)(f:VK)(g:XK):Prop:=(∀v a,f v a->∀l,a l=none->Q (.ref l) (upd a l (.lst [.str "",v])))/\
 ∀cls dd a,g cls dd a->∃c b fs wd,cls=.ref c/\dd=some b/\a b=some (tV b fs)/\Ik K d e cM c fs wd/\∀l,a l=none->Q (.ref l) (upd a l (.lst [.str wd,.non]))
noncomputable def Bd(K:Zs)(d e cM:Zl)(q:Str)(L:ZT)(g:List Nat)(t:XK->TE)(h:YR)(i:ZI):St->List V->Hp->VK->Prop:=λc vs H Q=>∃f a b,vs=[.ref f]/\NB q L h i f H/\t b (yp g c) H a/\Zt K d e cM Q a b
def Tf{X:Cx}{R S:Zl}(_:qw X R S){q:Str}{b:Y2}{o:List Nat}{z B cM:Zl}{L:ZT}{e:YR}{C:ZI}{E:XK}{l:YN}{D:St}{H:Hp}{s:Zp}{vs:List V}{Q:VK}{t:XK->TE}(g:Nx b L)
 (c:∀d i,bindArgs (kla_fn "<lambda>" q (oM L) (ut L) (jq L) e C (.ref d) i) ⟨[],[]⟩=pure [])
 (r:∀p∈e,X.env.cells.lookup p.1=some p.2)(m:∀x∈b,x∈e.map (·.1))(v:∀x,X.fn x=true)(n:∀x∈b,X.env.scope.names.lookup x=some .cell)(T:o.map (λj=>X.N[j]?)=b.map some)(w:X.stack=X.env::X.outer)(y:X.env.frame=some X.env.locals)
 (U:∀(f d:Zl)(A:ZO)(a:List Env)(s:Zp)(H:Hp)(E:XK),dX 15 (A.deeper (envX q (jq L) s.heap.objs.size f (.ref d) e))->PE (pX X.prog X.w X.K X.mg X.base b q (jq L) f (.ref d) e A a s H E) (ut L) (t E))
 (I:Inv X l D H s)(h:Bd X.K z B cM q L o t e C D vs H Q):Gw X.prog X.w X.K X.mg X.base 16 z B cM s X.stack vs H Q E:=by
 obtain⟨f,J,M,rfl,⟨d,i,ho,O⟩,h,P,k2⟩:=h;have Cl:=Mj (scope:=jq L) (NL:=b) (js:=o) I r v (λq F h=>m _ (g.has q F h)) g.free n (by rw[<-T]) w y;exact⟨f,J,M,8,Dk (N:=b) (k:=15) ho O Cl (c _ _) g.co g.gen g.k g.nc (λA a s G=>U f d A a s H _ G) h,P,k2⟩
def Kp(T:Zl)(H a:Hp):Prop:=∀b u,H b=some u->b≠T->a b=some u
section
variable{H H' H1 H2:Hp}{T Tt Tm:Zl}{q q':Str}{LPS LPS':List Pos}
def Kp.trans(a:Kp T H H1)(b:Kp T H1 H2):Kp T H H2:=λc u e n=>b c u (a c u e n) n
def cu.kp(s:cu H H'):Kp T H H':=λb u e _=>s b u e
def Kp.nt(k:Kp T H H')(d:jZ H T q LPS)(e:H b=some u)(n:∀a,u≠.tbl a):H' b=some u:=by obtain⟨f,c,_⟩:=d;exact k b u e (iV e c (n _))
def _root_.L2.RX.keepT(h:RX H T d q c H1)(e:H b=some u)(ne:b≠T):H1 b=some u:=by
 obtain⟨f,g,⟨_,a,_,rfl⟩|⟨_,a,rfl⟩⟩:=h
 ·rw[b8 (cg e a),b8 ne];exact e
 ·exact e
def PQ{X:Cx}{L:ZT}{cl:YR}{m:St}{Q:VK}(i:X.env.qual++"<lambda>"=q)(j:jZ H Tt q LPS)(g:Es L∈LPS)
 (k:∀c d,Kp Tt H d->jZ d Tt q LPS->NB q L cl ((X.mg "__name__").getD .none) c d->Q (.ref c) d):Mw X Tt (oM L) (ut L) (jq L) (Es L) cl m H Q:=by
 refine⟨by rw[i];exact j.tab g,λl n lm c f a=>?_⟩;rw[i]at lm|-;exact k c _ (λb u e ne=>by have h:=lm.keepT e ne;rw[b8 (cg h a)];exact h) ((j.lam lm).same (cu.new a)) ⟨l,f,a_,cu.new a _ _ lm.code⟩
def W_(c:Zl)(off:Bool)(H:Hp):XK:=λcls dd b=>off=true/\∃a,cls=.ref c/\dd=some a/\b a=some (tV a [("word",.str "stopped")])/\cu H b
def W_.of(o:off=true)(s:cu H c)(t:rH c [("word",.str "stopped")] a d):W_ b off H (.ref b) (some a) d:=by obtain⟨e,rfl⟩:=t;exact⟨o,a,8,8,a_,s.trans (cu.new e)⟩
noncomputable def Tg{X:Cx}{A:Zl}(_:qw X A Tt){h i cM cT:Zl}{L:ZT}{f:YR}{j:List Nat}{t:XK->TE}{d:St}{Q:VK}{off:Bool}{Af:V->Hp->Prop}(m:Rw X.K cT h i)(B:X.env.qual++"<lambda>"=q)(C:jZ H Tt q LPS)(n:Es L∈LPS)
 (D:∀c,Kp Tt H c->jZ c Tt q LPS->t (W_ cT off c) (yp j d) c λv b=>off=false/\Af v b)
 (E:off=false->∀v b l,Af v b->b l=none->Q (.ref l) (upd b l (.lst [.str "",v])))
 (F:off=true->∀b l,Kp Tt H b->jZ b Tt q LPS->b l=none->Q (.ref l) (upd b l (.lst [.str "stopped",.non]))):
 pq (Mw X Tt (oM L) (ut L) (jq L) (Es L) f) wj d H λvs c=>Bd X.K h i cM q L j t f ((X.mg "__name__").getD .none) d vs c Q:=by
 show Mw X Tt (oM L) (ut L) (jq L) (Es L) f d H λx c=>Bd X.K h i cM q L j t f ((X.mg "__name__").getD .none) d [x] c Q;refine PQ B C n λs c o p w=>?_;refine⟨s,7,w,D c o p,λv b a l g=>E a.1 v b l a.2 g,λcls dd b e=>?_⟩;obtain⟨ho,y,rfl,rfl,z,r⟩:=e;refine⟨_,y,_,"stopped",8,8,z,.inr (.inl ⟨m.nv,m.se,m.gt,?_⟩),λl g=>F ho b l (o.trans (cu.kp r)) (p.same r) g⟩;rw[aa7,show(("word":Str)==("word":Str))=true from by ext]
end
def Mt(u:HO):Prop:=(∃b,u=.lst b)\/∃a,u=.dK a
structure Tu(K:Zs)(H H':Hp):Prop where
 tk:TK H H'
 sq:∀a xs,e_ K H a xs->e_ K H' a xs
abbrev qL:Str:="law.<locals>."++"<lambda>"
noncomputable def Lj:Expr:=Z1 ((Lg ((dq (top 130)).getD 6 Zy)).getD 7 Zy)
abbrev RV:List Pos:=[Es Lj]
section
variable{Z:LC}{C S R Tt:Zl}{K:Zs}{H0 H H' H'':Hp}{p dc b:Zl}{r:oE}{d d':Sd}{n:Nat}{u:HO}
def Tu.trans(a:Tu K H H')(c:Tu K H' H''):Tu K H H'':=⟨a.tk.trans c.tk,λq e h=>c.sq q e (a.sq q e h)⟩
def Tu.by(k:∀b u,H b=some u->((∃xs,u=.tup xs)\/∃o xs,u=.frz o (.tup xs))->H' b=some u):Tu K H H':=
 ⟨λb xs e=>k b _ e (.inl ⟨9⟩),λa xs h=>by
  rcases h with(h|⟨o,h⟩)|h
  ·exact .inl (.inl (k a _ h (.inl ⟨_,rfl⟩)))
  ·exact .inl (.inr ⟨o,k a _ h (.inr ⟨_,_,rfl⟩)⟩)
  ·exact .inr h⟩
def Tu.same(s:cu H H'):Tu K H H':=.by λb u e _=>s b u e
noncomputable def Tu.but(e:H b=some u)(m:Mt u)(B:h_ b H H'):Tu K H H':=.by λc v h t=>B c v h λz=>by subst z;rw [e]at h;cases h;rcases m with ⟨_,rfl⟩|⟨_,rfl⟩<;>rcases t with ⟨_,t⟩|⟨_,_,t⟩<;>cases t
def RcAt.but(h:RcAt Z C S R K H r d n)(j:b≠r.a)(o:b≠r.pa)(q:b≠r.un)(w:b∉r.s.all)(e:H b=some u)(m:Mt u)(B:h_ b H H'):RcAt Z C S R K H' r d n:=by
 obtain⟨a,f⟩:=h.ob;obtain⟨g,i,l⟩:=h.ps;refine⟨⟨a,B _ _ f j.symm⟩,⟨g,B _ _ i o.symm,l⟩,B _ _ h.un q.symm,h.st.keep λc v h s=>B c v h λz=>?_,h.ne⟩;subst z;rw[e]at h;cases h;rcases s with s|⟨_,s⟩|⟨_,_,s⟩|⟨_,_,s⟩
 ·exact w s
 all_goals(rcases m with⟨_,rfl⟩|⟨_,rfl⟩<;>cases s)
structure Ws(Z:LC)(C S R:Zl)(K:Zs)(Tt:Zl)(H0 H:Hp)(p dc:Zl)(r:oE)(d:Sd)(n:Nat):Prop where
 rc:QB Z C S R K H r d n
 dr:Dr H p dc
 tb:jZ H Tt qL RV
 old:∀b u,H0 b=some u->b≠p->b≠Tt->H b=some u
 zr:H0 r.a=none/\H0 r.pa=none/\H0 r.un=none
 hp:∃u,H0 p=some u
 hd:∃u,H0 dc=some u
 ht:∃u,H0 Tt=some u
 fr:p∉r.s.all
def Ws.pne(h:Ws Z C S R K Tt H0 H p dc r d n):p≠r.a/\p≠r.pa/\p≠r.un:=by obtain⟨u,e⟩:=h.hp;exact⟨cg e h.zr.1,cg e h.zr.2.1,cg e h.zr.2.2⟩
def Ws.same(h:Ws Z C S R K Tt H0 H p dc r d n)(s:cu H H'):Ws Z C S R K Tt H0 H' p dc r d n:=
 ⟨⟨h.rc.at_.same s,h.rc.nl,h.rc.ok⟩,h.dr.mono s,h.tb.same s,λb u e n t=>s _ _ (h.old b u e n t),h.zr,h.hp,h.hd,h.ht,h.fr⟩
noncomputable def Ws.but(h:Ws Z C S R K Tt H0 H p dc r d n)(B:h_ p H H')(D:Dr H' p dc):Ws Z C S R K Tt H0 H' p dc r d n:=by obtain⟨a,e⟩:=h.dr.dk;have f:∀c v,H c=some v->(∀a,v≠.dK a)->H' c=some v:=λc v g f=>B c v g (h.dr.ne g f);exact⟨⟨h.rc.at_.but h.pne.1 h.pne.2.1 h.pne.2.2 h.fr e (.inr ⟨9⟩) B,h.rc.nl,h.rc.ok⟩,D,h.tb.keep f,λb u e n t=>B _ _ (h.old b u e n t) n,h.zr,h.hp,h.hd,h.ht,h.fr⟩
def Ws.kp(h:Ws Z C S R K Tt H0 H p dc r d n)(k:Kp Tt H H')(w:jZ H' Tt qL RV):Ws Z C S R K Tt H0 H' p dc r d n/\Tu K H H':=by
 obtain ⟨c,ba,f,bs,g,i,rest⟩:=h.dr.ex;have nt:=λb u(e:H b=some u)n=>k.nt h.tb e n;obtain ⟨j,m⟩:=h.rc.at_.ob;obtain ⟨o,v,l⟩:=h.rc.at_.ps;refine ⟨⟨⟨⟨⟨j,nt _ _ m (by intro _ z;cases z)⟩,⟨o,nt _ _ v (by intro _ z;cases z),l⟩,nt _ _ h.rc.at_.un (by intro _ z;cases z),h.rc.at_.st.keep λb u e s=>nt b u e λa z=>?_,h.rc.at_.ne⟩,h.rc.nl,h.rc.ok⟩,⟨c,ba,f,bs,nt _ _ g (by intro _ z;cases z),nt _ _ i (by intro _ z;cases z),rest⟩,w,λb u e n t=>k _ _ (h.old b u e n t) t,h.zr,h.hp,h.hd,h.ht,h.fr⟩,.by λb u e t=>nt b u e λa z=>?_⟩
 ·subst z;rcases s with s|⟨_,s⟩|⟨_,_,s⟩|⟨_,_,s⟩
  ·rcases h.rc.at_.st.here s with ⟨_,_,_,q⟩|⟨_,q⟩|⟨_,q,_⟩<;>(rw [e]at q;cases q)
  all_goals cases s
 ·subst z;rcases t with ⟨_,t⟩|⟨_,_,t⟩<;>cases t
def Ws.rcn(h:Ws Z C S R K Tt H0 H p dc r d n)(k:Js Z C S R K r n H d' H')(nl:n+1<=900)(ok:Eh d'):∃a,a.a=r.a/\Ws Z C S R K Tt H0 H' p dc a d' (n+1)/\Tu K H H':=by
 obtain ⟨a,q,A,B,E,kk,F⟩:=k;obtain ⟨y,g⟩:=h.hd;obtain ⟨z,W⟩:=h.ht;obtain ⟨j,G⟩:=h.rc.at_.ob;obtain ⟨o,I,_⟩:=h.rc.at_.ps;have f:∀b u,H b=some u->(∀D j fs,u≠.ins D j fs)->(∀o,u≠.lst o)->H' b=some u:=λb u e i l=>kk b u e (λz=>by subst z;rw [G]at e;cases e;exact i _ _ _ rfl) (λz=>by subst z;rw [I]at e;cases e;exact l _ rfl) (λz=>by subst z;rw [h.rc.at_.un]at e;cases e;exact l _ rfl);have k0:∀b u,H0 b=some u->b≠p->b≠Tt->H' b=some u:=λb u e n t=>kk _ _ (h.old b u e n t) (cg e h.zr.1) (cg e h.zr.2.1) (cg e h.zr.2.2);refine ⟨a,q,⟨⟨E,nl,ok⟩,?_,?_,k0,by rw [q,A,B];exact h.zr,h.hp,h.hd,h.ht,?_⟩,.by λc v e t=>f _ _ e ?_ ?_⟩
 ·obtain ⟨J,ba,L,bs,M,N,rest⟩:=h.dr.ex;exact ⟨J,ba,L,bs,kk _ _ M h.pne.1 h.pne.2.1 h.pne.2.2,kk _ _ N (cg g h.zr.1) (cg g h.zr.2.1) (cg g h.zr.2.2),rest⟩
 ·obtain ⟨O,P,Q,T⟩:=h.tb;refine ⟨O,f _ _ P (by intro _ _ _ z;cases z) (by intro _ z;cases z),Q,λs m=>(T s m).imp id λ⟨w,x,e⟩=>⟨w,x,f _ _ e ?_ ?_⟩⟩
  ·intro _ _ _ z;cases z
  ·intro _ z;cases z
 ·obtain ⟨U,e⟩:=h.dr.dk;exact F _ _ e
 ·intro _ _ _ z;subst z;rcases t with ⟨_,t⟩|⟨_,_,t⟩<;>cases t
 ·intro _ z;subst z;rcases t with ⟨_,t⟩|⟨_,_,t⟩<;>cases t
end
structure Lw where
 nm:Str
 ln:Ln
 A:List Cl
def Do(a:List (Str×List j9))(L:List Lw)(off:Bool)(b:PyData):Sd:=⟨16,12,a,L.map λl=>(l.nm,⟨l.ln,0,tX⟩),off,b⟩
structure Hx(K:Zs)(H:Hp)(x:V)(t:PyData):Prop where
 rx:Rep K H x t
 ok:t=.none\/Tr 5 t/\kE t=true
def Hx.ho(h:Hx K H x t):lB t:=by
 rcases h.ok with rfl|⟨a,b⟩
 ·exact .no
 ·exact .te a.td b
def Hx.tu(h:Hx K H x t)(u:Tu K H a):Hx K a x t:=⟨lO u.sq h.rx h.ho.nl,h.ok⟩
def Hx.but(h:Hx K H x t)(D:Dr H p b)(B:h_ p H c):Hx K c x t:=by obtain⟨a,e⟩:=D.dk;exact h.tu (.but e (.inr ⟨9⟩) B)
noncomputable def Do.at{L:List Lw}{l:Lw}{i:Nat}{a:List (Str×List j9)}{off:Bool}{t:PyData}(h:L[i]?=some l):(Do a L off t).tr[i]?=some (l.nm,⟨l.ln,0,tX⟩):=by show(L.map _)[i]?=_;rw[aaq,h];rfl
def Do.ok(c:L.length<=6)(h:∀l∈L,∃A,Gv A l.ln 0/\A.length<=40):Eh (Do kts L off t):=by
 refine⟨⟨by show(2:Int)<=16;decide,by show(16:Int)<=16;decide,by show(5:Int)<=12;decide,by show(12:Int)<=12;decide,by show(L.map _).length<=6;rw[aaf];exact c,λp m=>?_⟩,λp m=>?_⟩
 all_goals
  obtain⟨l,a,rfl⟩:=aao.mp m;obtain⟨A,g,b⟩:=h l a;have:=g.lno b
 ·exact⟨this.1,this.2.1⟩
 ·exact this.2.2.1
theorem Ol(i:TD d):kZ d<=21:=by
 induction i with
 |str a b=>simp[kZ]
 |int a b=>simp[kZ]
 |nil=>simp[kZ,jF]
 | @node f r a b c tr g=>
   have:∀l:List PyData,(∀d∈l,d∈r)->jF l<=21:=by
    intro l;induction l with
    |nil=>intro _;simp[jF]
    | cons d l e=>intro h;have j:=g d (h d (aan ..));have n:=e λd m=>h d (aai _ m);simp only[jF];omega
   have h:=this r λ_ m=>m;simp only[kZ,jF,aaz];omega
def lW(e:St->Hp->Prop)(h:∀a H,e a H->D.nx a H)(c:∀b:Ends,(∀a H,e a H->b.nx a H)->Kh d t u b a H):Kh d t u D a H:=c D h
structure Li(Z:LC)(C S R:Zl)(K:Zs)(Tt:Zl)(H0 H:Hp)(p dc:Zl)(kts:List (Str×List j9))(ws:Y2)(r:oE)(L:List Lw)(off:Bool)(x:V)(t:PyData)(n i:Nat):Prop where
 w:Ws Z C S R K Tt H0 H p dc r (Do kts L off t) n
 nm:L.map (·.nm)=ws
 gv:∀l∈L,Gv l.A l.ln 0
 al:∀l∈L,l.A.length<=i
 hx:Hx K H x t
section
variable{Z:LC}{C S R Tt:Zl}{K:Zs}{H0 H H':Hp}{p dc:Zl}{kts:List (Str×List j9)}{ws:Y2}{r r':oE}{L:List Lw}{l l':Lw}{off:Bool}{x:V}{t:PyData}{n n' i i' j:Nat}
noncomputable def Li.same(h:Li Z C S R K Tt H0 H p dc kts ws r L off x t n i)(s:cu H H'):Li Z C S R K Tt H0 H' p dc kts ws r L off x t n i:=⟨h.w.same s,h.nm,h.gv,h.al,h.hx.tu (.same s)⟩
noncomputable def Li.but(h:Li Z C S R K Tt H0 H p dc kts ws r L off x t n i)(B:h_ p H H')(D:Dr H' p dc):Li Z C S R K Tt H0 H' p dc kts ws r L off x t n i:=by obtain⟨a,e⟩:=h.w.dr.dk;exact⟨h.w.but B D,h.nm,h.gv,h.al,h.hx.tu (.but e (.inr ⟨9⟩) B)⟩
noncomputable def Li.kp(h:Li Z C S R K Tt H0 H p dc kts ws r L off x t n i)(k:Kp Tt H H')(a:jZ H' Tt qL RV):Li Z C S R K Tt H0 H' p dc kts ws r L off x t n i:=by obtain⟨W,u⟩:=h.w.kp k a;exact⟨W,h.nm,h.gv,h.al,h.hx.tu u⟩
noncomputable def Li.ok(h:Li Z C S R K Tt H0 H p dc kts ws r L off x t n i)(d:ws.length<=6)(b:i<=40):Eh (Do kts L a c):=Do.ok (by have:=aaB List.length h.nm;simp at this;omega) λl m=>⟨l.A,h.gv l m,aah (h.al l m) b⟩
def Do.put(l':Lw):({(Do kts L off t).put j (l'.nm,⟨l.ln,0,tX⟩) l'.ln with still:=off'}:Sd)=Do kts (L.set j l') off' t:=by unfold Do Sd.put;rw[ach]
noncomputable def Li.put{off':Bool}(h:Li Z C S R K Tt H0 H p dc kts ws r L off x t n i)(v:ws.length<=6)(o:L[j]?=some l)(g:Gv l'.A l'.ln 0)(e:l'.nm=l.nm)(a:l'.A.length<=i+1)(d:i<40)(s:Js Z C S R K r n H (Do kts (L.set j l') off' t) H')(nl:n+1<=900):∃b,b.a=r.a/\Li Z C S R K Tt H0 H' p dc kts ws b (L.set j l') off' x t (n+1) (i+1)/\Tu K H H':=by
 have c:∀q∈L.set j l',Gv q.A q.ln 0/\q.A.length<=i+1:=λq m=>by
  rcases abQ m with m|rfl
  ·exact⟨h.gv q m,Nat.le_succ_of_le (h.al q m)⟩
  ·exact⟨g,a⟩
 have nm:(L.set j l').map (·.nm)=ws:=by rw[i_ (·.nm) o e];exact h.nm
 obtain⟨b,f,W,u⟩:=h.w.rcn s nl (Do.ok (by have:=aaB List.length nm;rw[aaf]at this;omega) λq m=>⟨q.A,(c q m).1,aah (c q m).2 d⟩);exact⟨b,f,⟨W,nm,λq m=>(c q m).1,λq m=>(c q m).2,h.hx.tu u⟩,u⟩
end
noncomputable abbrev SX:List Str:=["_law_script","_law_d","_law_c","_law_rec","_law_lane","_law_title","_law_fields","_law_halt","_law_off","_law_turn","_law_way","_law_values_here","_law_many","_law_found"]
def jd:cI SX ["_law_script"] (bK (top 130)):=by ext
def o6:iz (mz P w) X (λ_ _ _=>False):=λa b H s e c I h=>by obtain⟨_,_,_,_,_,_,_,_,_,_,q⟩:=h;exact q.elim
noncomputable abbrev NW:List Str:=["_law_lane","_law_rec","_law_title","_law_values_here"]
def Qe:Nx NW Lj:=⟨01,01,8,8,8,01⟩
noncomputable def Y8(n:Nat):List (Str×Addr):=[("_law_values_here",n+1+1+1+1),("_law_title",n+1+1+1),("_law_rec",n+1+1),("_law_lane",n+1)]
noncomputable def Zw:List V->List V->List V
 |[x],[a,b]=>[x,a,b]
 |_,_=>[]
noncomputable def gR:List Value->List Value->List Value
 |[x],[a,b]=>[x,a,b]
 |_,_=>[]
noncomputable def ZQ:List V->List V->List V
 |[x,a],[b]=>[x,a,b]
 |_,_=>[]
noncomputable def gO:List Value->List Value->List Value
 |[x,a],[b]=>[x,a,b]
 |_,_=>[]
structure NZ(K:Zs)(C:Zl)(m:Str)(ps:Y2)(f:Zl)(fd:ZB):Prop where
 M:Meth K C m f
 b:Binds K fd ps []
abbrev E1:XK:=λ_ _ _=>False
section
variable{P:ZE}{w:ZH}{K:Zs}{mg:Y1}{base:ZN}{Z:LC}{C S R:Zl}
inductive Hh(K:Zs)(Tt:Zl)(vs:List V)(H:Hp)(Q:VK)(E:XK):Prop
 |mk (a:Zl) (ns:List Int):vs=[.ref a]->eY K H a (ns.map V.int)->ns.length<=63->jZ H Tt qL RV->(∀H',Q (.bl true) H')->Hh K Tt vs H Q E
noncomputable def Q7{f c Tt fB fP fO fS fV fA av aw fY ax ay az aA aB aC aD aE aF aG cB cS cM cT:Zl}{aH aI aJ aL aM aN ac ad aO ae af ag aa ah ai aj ak am ao:ZB}{oc kV aP pm ct:ZI}{od an:YE}{a0:YV}{aQ:Y3}
 (lk:K.lookup f=some ⟨oc,od,.func (fnOf "law" "law" (dI (top 130)) (dq (top 130)) (bK (top 130)) .none kV aP pm an (.ref c) ct),a0⟩)(a1:codeIn K (.ref c) "law"=true)
 (HT:CodeHd base c Tt)(HB:base.BuiltinsAt mg Tt)(HG:mainGlobals≠Tt)(T:Txt K mg)(RZ:RZ K mg R)(BT:Rw K cT cB cS)
 (DB:fj K mg "_law_begin" (top 112) ["_law_script"] fB aH)(DP:fj K mg "_law_pick" (top 113) ["_law_d","_law_many"] fP aI)(DO:fj K mg "_law_of" (top 114) ["_law_d","_law_things"] fO aJ)(DS:fj K mg "_law_same" (top 115) ["_law_found","_law_due"] fS aL)
 (DV:fj K mg "_law_values" (top 119) ["_law_d","_law_fields"] fV aM)(GV:cz P w K mg base dM 4 fV aM ["_law_d","_law_fields"] (Aj K))
 (ar:fj K mg "_law_cast" (top 128) ["_law_d"] av ac)(a2:cz P w K mg base dM 6 av ac ["_law_d"] zW)
 (ab:fj K mg "_law_cast_test" (top 129) ["_law_d","_law_c"] aw ad)(aR:cz P w K mg base dM 11 aw ad ["_law_d","_law_c"] (Ez K))
 (DY:fj K mg "_law_passes" (top 126) S7 fY aO)
 (a3:Mk K R ax)(a4:cz P w K mg base dM 4 ax ae ["self","pages","room"] (Qk Z C S R K))(a5:kh K ae ["self","pages","room"] ["pages","room"] gR Zw)
 (a6:Meth K R "lane" ay)(a7:cz P w K mg base (mz P w) 15 ay af ["self","name","over"] (vV Z C S R K))(a8:kh K af ["self","name","over"] ["over"] gO ZQ)
 (aS:NZ K R "kind" ["self","name","fields"] az ag)(a9:cz P w K mg base (mz P w) 15 az ag ["self","name","fields"] (vX Z C S R K))
 (au:NZ K R "halt" ["self","test"] aA aa)(bb:Binds K aa ["self","test"] aQ)(bc:Vals [.non] aQ)(aT:cz P w K mg base (mz P w) 15 aA aa ["self","test"] (wO Z C S R K))
 (aU:NZ K R "stop" ["self"] aB ah)(bd:cz P w K mg base (mz P w) 15 aB ah ["self"] (vD Z C S R K))(ap:NZ K R "go" ["self"] aC ai)(aV:cz P w K mg base (mz P w) 15 aC ai ["self"] (Ga Z C S R K))
 (aq:NZ K R "counts" ["self","lane"] aD aj)(aW:cz P w K mg base dM 2 aD aj ["self","lane"] (QR Z C S R K))
 (aX:NZ K R "write" ["self","lane","kind","values"] aE ak)(be:cz P w K mg base (mz P w) 15 aE ak ["self","lane","kind","values"] (oJ Z C S R K cT))
 (aY:NZ K R "stopped" ["self"] aF am)(bf:cz P w K mg base dM 1 aF am ["self"] (Gu Z C S R K))(aZ:NZ K R "halted_by" ["self"] aG ao)(bg:cz P w K mg base dM 1 aG ao ["self"] (IV Z C S R K))
 (GA:uN P w K mg base dM 17 fA aN ["_law_ask_here"] (Gw P w K mg base 16 cB cS cM))(hA:mg "_law_ask"=some (.ref fA))(kA:keepIn K (.ref fA)=true)(bA:Binds K aN ["_law_ask_here"] []):
 cz P w K mg base dM 18 f (fnOf "law" "law" (dI (top 130)) (dq (top 130)) (bK (top 130)) .none kV aP pm an (.ref c) ct) ["_law_script"] (Hh K Tt):=by
 have GB:cz P w K mg base dM 1 fB aH ["_law_script"] (wM K):=Gj DB.F T;have GP:cz P w K mg base dM 1 fP aI ["_law_d","_law_many"] jC:=jA DP.F T;have GO:cz P w K mg base dM 2 fO aJ ["_law_d","_law_things"] (yx K):=uI DO.F T DP;have GS:cz P w K mg base dM 15 fS aL ["_law_found","_law_due"] (spS K 15):=Mr DS T 15;have GY:cz P w K mg base dM 5 fY aO S7 (Ks K 5):=Um DY T 5;refine xf lk a1 jd 01 λA outer s H vs Q E hr h=>?_;obtain ⟨sa,ns,rfl,hS,hlen,hTb,k⟩:=h;have hu:=oO hr;have rm:∀n,n<=17->dX n (A.deeper (PyProof.Rows.envOfC "law" (bK (top 130)) s.heap.objs.size f (.ref c))):=λn h=>hr.mono h;have CT:qw (iD dM P w K mg base SX "law" (bK (top 130)) f (.ref c) A outer s H E) c Tt:=⟨8,HT,HB,HG⟩;have hc:∀q∈Y8 s.heap.objs.size,(PyProof.Rows.envOfC "law" (bK (top 130)) s.heap.objs.size f (.ref c)).cells.lookup q.1=some q.2:=by
  intro q hq;rcases aag.mp hq with rfl|hq
  ·rfl
  ·rcases aag.mp hq with rfl|hq
   ·rfl
   ·rcases aag.mp hq with rfl|hq
    ·rfl
    ·cases aal.mp hq;rfl
 refine ⟨_,(b7 (j8 1 jd.nd (gf (E:=E0) GB (rm 1 02) rfl DB.mg DB.F.kp DB.b .nil dC (aK 06 b_))) (b7 (j8 2 jd.nd (gf (E:=E0) a2 (rm 6 02) rfl ar.mg ar.F.kp ar.b .nil dC (aK 003 b_))) (b7 (j8 3 jd.nd (pD (E:=E0) a3 a4 (rm 5 02) rfl RZ.mg a5 dC (jN cj (jN cj wz)))) (b7 (jy ac9 rfl (iW (fZ hu 010 cZ)) (kJ 4 jd.nd) (c7 (eE (G8 (E:=E1) (pv 3) RZ.c a6 a7 (rm 15 02) a8 o6 (aK (pv 4) b_) (jN j5 wz))))) (b7 (jy ac9 rfl (iW (fZ hu 010 cZ)) (ii rfl (d8 (kJ 5 jd.nd) (d8 (kJ 6 jd.nd) gj))) (c7 (eE (eV (E:=E1) (pv 3) RZ.c aS.M a9 (rm 15 02) aS.b .nil o6 (aK (pv 5) (aK (pv 6) b_)))))) (b7 (m9 (gF (aK iZ (aK j5 b_))) (ii rfl (d8 (kJ 7 jd.nd) (d8 (kJ 8 jd.nd) gj)))) (b7 (jy ac9 rfl (jR rfl T.range (aK (eN iK cj (gf (E:=E0) GP (rm 1 02) rfl DP.mg DP.F.kp DP.b .nil dC (aK 003 (aK cj b_)))) b_)) (kJ 9 jd.nd) (b7 (j8 10 jd.nd (gf (E:=E0) GP (rm 1 02) rfl DP.mg DP.F.kp DP.b .nil dC (aK 003 (aK cj b_)))) (b7 (dU (dg g8 (pv 10) cj (di _)) (b7 (j8 7 jd.nd (gf (E:=E0) GO (rm 2 02) rfl DO.mg DO.F.kp DO.b .nil dC (aK 003 (aK (gQ (aK iZ (aK (gf (E:=E0) aR (rm 11 02) rfl ab.mg ab.F.kp ab.b .nil dC (aK 003 (aK 010 b_))) (aK (gf (E:=E0) aR (rm 11 02) rfl ab.mg ab.F.kp ab.b .nil dC (aK 003 (aK 010 b_))) b_)))) b_)))) (c7 (dU (dg sJ (pv 7) iZ (di _)) (c7 (eE (eG (E:=E1) (pv 3) RZ.c au.M aT (rm 15 02) bb bc o6))) (c7 (eE (eV (E:=E1) (pv 3) RZ.c au.M aT (rm 15 02) au.b .nil o6 (aK (pv 7) b_))))))) d9) (b7 (dU (dg g8 (pv 10) cj (di _)) (b7 (j8 8 jd.nd (iw g8 (gf (E:=E0) GP (rm 1 02) rfl DP.mg DP.F.kp DP.b .nil dC (aK 003 (aK cj b_))) cj (di _))) (c7 (dU (gZ (pv 8)) (c7 (eE (eG (E:=E1) (pv 3) RZ.c aU.M bd (rm 15 02) aU.b .nil o6))) (c7 (eE (eG (E:=E1) (pv 3) RZ.c ap.M aV (rm 15 02) ap.b .nil o6)))))) d9) (b7 (m9 (gf (E:=E0) GO (rm 2 02) rfl DO.mg DO.F.kp DO.b .nil dC (aK 003 (aK (fZ hu 010 cZ) b_))) (ii rfl (d8 (kJ 5 jd.nd) (d8 (kJ 6 jd.nd) gj)))) (b7 (j8 11 jd.nd (gf (E:=E0) GV (rm 4 02) rfl DV.mg DV.F.kp DV.b .nil dC (aK 003 (aK (pv 6) b_)))) (b7 (j8 4 jd.nd (gf (E:=E0) GO (rm 2 02) rfl DO.mg DO.F.kp DO.b .nil dC (aK 003 (aK (fZ hu 010 cZ) b_)))) (b7 (j8 12 jd.nd (eV (E:=E0) (pv 3) RZ.c aq.M aW (rm 2 02) aq.b .nil dC (aK (pv 4) b_))) (b7 (j8 13 jd.nd (Ha (E:=E0) (r:=Bd K cB cS cM qL Lj [4,3,5,11] (λE=>Bs R "write" (oJ Z C S R K cT) [] E (nM 1) (pq (nM 0) (pq (nM 2) (pq (nM 3) wj)))) (Y8 s.heap.objs.size) ((mg "__name__").getD .none)) GA hr 004 hA kA bA dC (λdD σ H s' vs Q I h=>Tf CT Qe (λ_ _=>rfl) hc (show ∀x∈NW,x∈(Y8 0).map (·.1) by ext) (λ_=>rfl) (show ∀x∈NW,(bK (top 130)).names.lookup x=some .cell by ext) rfl rfl rfl (λf c' A outer s H E hr=>eV (E:=E) 003 RZ.c aX.M be hr aX.b .nil (V1 λ_ _ _ h=>h) (aK 06 (aK 010 (aK (pv 3) b_)))) I h) (aK (QL CT rfl rfl) b_))) (b7 (dU (ju (gZ (gf (E:=E0) GS (rm 15 02) rfl DS.mg DS.F.kp DS.b .nil dC (aK (pv 13) (aK (jX (gZ (pv 8)) (gQ (aK cZ (aK iZ b_))) (gQ (aK cZ (aK j5 b_)))) b_))))) (c7 eU) d9) (b7 (dU (PW.pt (o7 (gZ (pv 8)) (n8 (dg (Rx hr.units) (eV (E:=E0) (pv 3) RZ.c aq.M aW (rm 2 02) aq.b .nil dC (aK (pv 4) b_)) (pv 12) (di _))))) (c7 eU) d9) (b7 (dU (PW.pt (o7 (ju (gZ (pv 8))) (o7 (dg qm (pv 7) iZ (di _)) (n8 (gZ (gf (E:=E0) GY (rm 5 02) rfl DY.mg DY.F.kp DY.b .nil dC (aK (pv 7) (aK (pv 5) (aK (pv 6) (aK (pv 11) b_)))))))))) (c7 (j8 8 jd.nd j5)) d9) (b7 (dU (ju (gZ (gf (E:=E0) GS (rm 15 02) rfl DS.mg DS.F.kp DS.b .nil dC (aK (gQ (aK (eG (E:=E0) (pv 3) RZ.c aY.M bf (rm 1 02) aY.b .nil dC) (aK (eG (E:=E0) (pv 3) RZ.c aZ.M bg (rm 1 02) aZ.b .nil dC) b_))) (aK (gQ (aK (pv 8) (aK (pv 7) b_))) b_))))) (c7 eU) d9) (c7 (dU (PW.pt (o7 (gZ (pv 8)) (n8 (dg g8 (gf (E:=E0) GP (rm 1 02) rfl DP.mg DP.F.kp DP.b .nil dC (aK 003 (aK cj b_))) cj (di _))))) (b7 (eE (eG (E:=E1) (pv 3) RZ.c ap.M aV (rm 15 02) ap.b .nil o6)) (c7 (j8 8 jd.nd j5))) d9))))))))))))))) (c7 (cW j5))))))))),?_⟩;refine lY λD9 c9=>⟨9,sa,ns,8,hS,hlen,λp dc Hb D0 s0 hp0=>?_⟩;refine c9 _ _ ?_
 try dsimp only [eQ,List.set,L2.start]
 have tb0:=hTb.same s0;refine lY λDA cA=>?_;refine ⟨9,p,dc,8,D0,λcc kts ws H0 ca co ncp D1 t1=>?_⟩;have tb1:jZ H0 Tt qL RV:=tb0.keep λc v ec nk=>t1 c v ec (D0.ne ec nk);refine cA _ _ (lY λDB cB=>?_);refine λx dx hx hdx ndx=>⟨x,dx,16,12,8,a_,02,02,02,02,λr H4 ra np nu rc k4 ff=>⟨8,?_⟩⟩;subst ra;have s34:cu H0 (upd (upd H0 dx (.own r.a)) r.a (.ins R dx [])):=gn hx hdx (λb u e _=>e);have S4:cu H0 H4:=gn hx hdx k4;have I0:Li Z C S R K Tt H0 H4 p dc [] [] r [] false .non .none 0 0:=by obtain ⟨ms,ba,br,bs,e1,e2,_⟩:=D1.ex;obtain ⟨ps,et,_⟩:=id tb1;exact ⟨⟨⟨rc,aaU _,Do.ok (kts:=[]) (L:=[]) (aaU _) (λl m=>by cases m)⟩,D1.mono S4,tb1.same S4,λb u e _ _=>S4 _ _ e,⟨hx,dY s34 np,dY s34 nu⟩,⟨_,e1⟩,⟨_,e2⟩,⟨_,et⟩,ff _ _ (s34 _ _ e1)⟩,8,(λl m=>by cases m),(λl m=>by cases m),⟨.non,.inl rfl⟩⟩
 clear k4 rc np nu s34 S4 s0 t1 ff;obtain ⟨lk,ll,lt,lf,ks,us,e1,e2,pd0,e3,e4,ul⟩:=id ca.ex;have ol:∀{H:Hp}{r d n},Ws Z C S R K Tt H0 H p dc r d n->H cc=some (.dK (cK lk ll lt lf))/\H lk=some (.lst ks)/\Pd (Od H) ks kts/\H ll=some (.lst (ws.map V.str))/\H lf=some (.lst us):=λW=>by
  obtain ⟨ps,et,_⟩:=id tb1;have nt:∀{b u},H0 b=some u->(∀qs,u≠.tbl qs)->b≠Tt:=λe n z=>by rw [z,et]at e;cases e;exact n _ rfl
  have l:∀{q xs},H0 q=some (.lst xs)->_:=λe=>W.old _ _ e (D1.ne e (by intro _ h;cases h)) (nt e (by intro _ h;cases h));exact ⟨W.old _ _ e1 ncp (nt e1 (by intro _ h;cases h)),l e2,pd0.map λ_ _ r=>r.tk λb xs e=>W.old _ _ e (D1.ne e (by intro _ h;cases h)) (nt e (by intro _ h;cases h)),l e3,l e4⟩
 have ca':∀{H:Hp}{r d n},Ws Z C S R K Tt H0 H p dc r d n->Q3 H cc kts ws:=λW=>⟨lk,ll,lt,lf,ks,us,(ol W).1,(ol W).2.1,(ol W).2.2.1,(ol W).2.2.2.1,(ol W).2.2.2.2,ul⟩;refine cB _ _ ?_
 try dsimp only [eQ,List.set]
 refine lY λDD cD=>?_;have w6:=co.wm;generalize hL0:(ws.map λnm=>(⟨nm,pY 16 12 false,[]⟩:Lw))=L0;have gv0:∀l∈L0,Gv l.A l.ln 0:=λl m=>by subst hL0;obtain ⟨nm,_,rfl⟩:=aao.mp m;exact Gv.new
 have al0:∀l∈L0,l.A.length<=0:=λl m=>by subst hL0;obtain ⟨nm,_,rfl⟩:=aao.mp m;exact aae _
 have nm0:L0.map (·.nm)=ws:=by subst hL0;rw [aby];exact List.map_id' _
 have ll0:L0.length=ws.length:=by subst hL0;rw [aaf]
 obtain ⟨ec,_,_,el,_⟩:=ol I0.w;refine ⟨9,cc,9,(rK ec).1,ll,8,⟨_,eY.of el⟩,?_⟩;refine jV (xs:=ws.map V.str) (λi σ' H'=>∃(r:oE)(u:Option V),σ'=[some (.ref sa),some (.ref p),some (.ref cc),some (.ref r.a),u,none,none,none,none,none,none,none,none,none]/\Ws Z C S R K Tt H0 H' p dc r (Do [] (L0.take i) false .none) i) ⟨r,none,8,I0.w⟩ (λi σ' H' _ z=>by obtain ⟨_,_,_,W⟩:=z;exact eY.of (ol W).2.2.2.1) ?_ ?_
 ·rintro i x σ' H1 hx⟨r,u,rfl,W⟩;dsimp only [eQ,List.set];refine Hg λDE hE=>?_;obtain ⟨dr,er⟩:=W.rc.at_.ob;rw [aaq]at hx;obtain ⟨nm,hn,rfl⟩:=abk.mp hx;have il:=(aaD.mp hn).1;have hl:L0[i]?=some ⟨nm,pY 16 12 false,[]⟩:=by subst hL0;rw [aaq,hn];rfl
  have hno:∀q∈(Do [] (L0.take i) false .none).tr,q.1≠nm:=λq m z=>by
   obtain ⟨l,ml,rfl⟩:=aao.mp (show q∈(L0.take i).map _ from m);obtain ⟨j,hj⟩:=aau.mp ml;have jl:j<i:=by have:=(aaD.mp hj).1;rw [aaV]at this;omega
   rw [acq jl]at hj;have:=(acF (l:=L0.map (·.nm)) (i:=j) (j:=i) (by rw [aaf];exact (aaD.mp hj).1) (by rw [nm0];exact co.wd)).mp (by rw [aaq,aaq,hj,hl];exact aaB some z);omega
  refine ⟨9,r.a,dr,9,er,8,9,r,_,i,nm,false,8,W.rc,hno,co.wo nm (aap hn),(by show (List.map _ _).length<6;rw [aaf,aaV];omega),λH2 rn=>?_⟩;have ed:({Do [] (L0.take i) false .none with tr:=(Do [] (L0.take i) false .none).tr++[(nm,rF (Do [] (L0.take i) false .none).pg (Do [] (L0.take i) false .none).rm false)]}:Sd)=Do [] (L0.take (i+1)) false .none:=by rw [je hl];unfold Do;rw [aaA];rfl
  rw [ed]at rn;obtain ⟨r',ea,W',_⟩:=W.rcn rn 05 (Do.ok (by rw [aaV];omega) λl m=>⟨l.A,gv0 l (ac2 m),by have:=al0 l (ac2 m);omega⟩);rw [<-ea];exact hE _ _ ⟨r',9,W'⟩
 rintro σ' H6⟨r2,u2,rfl,W2⟩;rw [aaf,<-ll0,aaQ,ll0]at W2;clear I0 ec el;refine cD _ _ ?_
 try dsimp only [eQ,List.set]
 refine lY λDF cF=>?_;obtain ⟨ec,ek,pk,_,_⟩:=ol W2;have kl3:=co.kl;have ksl:=pk.len;have ok0:∀kts,Eh (Do kts L0 false .none):=λkts=>Do.ok 05 λl m=>⟨l.A,gv0 l m,by have:=al0 l m;omega⟩;refine ⟨9,cc,9,(rK ec).2.1,lk,8,⟨_,eY.of ek⟩,?_⟩;refine jV (xs:=ks) (λi σ' H'=>∃(r:oE)(u1 u2 u3:Option V),σ'=[some (.ref sa),some (.ref p),some (.ref cc),some (.ref r.a),u1,u2,u3,none,none,none,none,none,none,none]/\Ws Z C S R K Tt H0 H' p dc r (Do (kts.take i) L0 false .none) (ws.length+i)) ⟨r2,_,none,none,8,W2⟩ (λi σ' H' _ z=>by obtain ⟨_,_,_,_,_,W⟩:=z;exact eY.of (ol W).2.1) ?_ ?_
 ·rintro i x σ' H1 hx⟨r,u1,u2,u3,rfl,W⟩;obtain ⟨t,ht,b,a,xs,rfl,hb,ha,pf⟩:=(ol W).2.2.1.at hx;have kt:=co.ko t (aap ht);have i3:i<3:=by have:=(aaD.mp ht).1;omega
  have kln:=kt.ln;refine ⟨b,9,e_.of hb,8,7,7,8,?_⟩;dsimp only [eQ,List.set];refine Hg λDG hG=>?_;obtain ⟨dr,er⟩:=W.rc.at_.ob;refine ⟨9,r.a,dr,9,er,8,9,9,r,_,_,t.1,a,xs,t.2,8,W.rc,λq m z=>?_,kt.nm,ha,pf,05,λf m=>(kt.sm f m).ok,kt.nd,(by show (kts.take i).length<8;rw [aaV];omega),λH2 rn=>?_⟩
  ·obtain ⟨j,hj⟩:=aau.mp (show q∈kts.take i from m);have jl:j<i:=by have:=(aaD.mp hj).1;rw [aaV]at this;omega
   rw [acq jl]at hj;have:=(acF (l:=kts.map (·.1)) (i:=j) (j:=i) (by rw [aaf];exact (aaD.mp hj).1) co.kd).mp (by rw [aaq,aaq,hj,ht];simp [z]);omega
  ·have ed:({Do (kts.take i) L0 false .none with kn:=(Do (kts.take i) L0 false .none).kn++[(t.1,t.2)]}:Sd)=Do (kts.take (i+1)) L0 false .none:=by rw [je ht];rfl
   rw [ed]at rn;obtain ⟨r',ea,W',_⟩:=W.rcn rn 05 (ok0 _);rw [<-ea];exact hG _ _ ⟨r',_,7,W'⟩
 rintro σ' H7⟨r3,u1,u2,u3,rfl,W3⟩;rw [ksl,aaQ,kl3]at W3;clear W2 ec ek pk;refine cF _ _ ?_
 try dsimp only [eQ,List.set]
 refine lY λDH cH=>?_;refine ⟨01,λtp htp=>⟨tp,9,e_.of a_,8,7,7,8,?_⟩⟩;have I3:Li Z C S R K Tt H0 (upd H7 tp (.tup [.non,.bl false])) p dc kts ws r3 L0 false .non .none (ws.length+3) 0:=⟨W3.same (cu.new htp),nm0,gv0,al0,⟨.non,.inl rfl⟩⟩;generalize upd H7 tp (.tup [.non,.bl false])=H8 at I3|-;clear W3 htp;refine cH _ _ ?_
 try dsimp only [eQ,List.set]
 refine lY λDJ cJ=>?_;refine ⟨9,p,dc,30,8,I3.w.dr,02,02,λtn HG tn0 tn1 DG tG=>⟨7,8,9,05,05,?_⟩⟩
 replace I3:=I3.but tG DG
 clear tG DG;refine pJ (lo:=0) (λi σ' H'=>∃(r:oE)(L:List Lw)(off:Bool)(x:V)(ht:PyData)(n:Nat)(u4 u5 u6 u9 u10 u11 u12 u13:Option V),σ'=[some (.ref sa),some (.ref p),some (.ref cc),some (.ref r.a),u4,u5,u6,some x,some (.bl off),u9,u10,u11,u12,u13]/\n<=9+4*i/\Li Z C S R K Tt H0 H' p dc kts ws r L off x ht n i) ⟨r3,L0,false,.non,.none,_,_,_,_,none,none,none,none,none,8,05,I3⟩ ?_ ?_
 ·rintro i σ' H1 hi⟨r,L,off,x,ht,n,u4,u5,u6,u9,u10,u11,u12,u13,rfl,nl,I⟩;have i39:i<39:=by omega
  dsimp only [eQ,List.set];refine Hg λDK hK=>lY λDL cL=>?_;refine ⟨9,p,dc,(7),8,I.w.dr,02,02,λwy H2 _ _ D2 t2=>?_⟩
  replace I:=I.but t2 D2
  clear t2 D2;refine cL _ _ ?_
  try dsimp only [eQ,List.set]
  refine lY λDM cM=>lW (λσ' H'=>∃(r':oE)(x':V)(ht':PyData)(n':Nat),r'.a=r.a/\n'<=n+1/\σ'=[some (.ref sa),some (.ref p),some (.ref cc),some (.ref r.a),u4,u5,u6,some x',some (.bl off),some (.int (0+i)),some (.int wy),u11,u12,u13]/\Li Z C S R K Tt H0 H' p dc kts ws r' L off x' ht' n' i) ?_ λD' hD=>?_
  rotate_left
  ·refine ⟨9,8,9,lD (λ_=>?_) (λ_=>hD _ _ ⟨r,x,ht,n,8,05,8,I⟩)⟩;refine ⟨9,9,9,p,dc,cc,kts,ws,8,I.w.dr,ca' I.w,co,λx1 e1 H3 rx1 tr1 te1 D3 t3=>?_⟩;have I3:=I.but t3 D3;have h1:Hx K H3 x1 e1:=⟨rx1,.inr ⟨tr1,te1⟩⟩;refine ⟨9,9,p,dc,cc,kts,ws,8,I3.w.dr,ca' I3.w,co,λx2 e2 H4 rx2 tr2 te2 D4 t4=>?_⟩;have h2:Hx K H4 x2 e2:=⟨rx2,.inr ⟨tr2,te2⟩⟩
   replace h1:=h1.but I3.w.dr t4
   have I4:=I3.but t4 D4;refine ⟨01,λq hq=>⟨p,dc,q,9,I4.w.dr.new hq,eY.of a_,04,04,λy H5 hy D5 t5=>?_⟩⟩;have S5:=cu.new (o:=.lst [.non,x1,x2]) hq;have I5:=(I4.same S5).but t5 D5;obtain ⟨e,hy⟩:∃e,Hx K H5 y e:=by
    simp only [aag,aba,or_false]at hy;rcases hy with rfl|rfl|rfl
    ·exact ⟨.none,.non,.inl rfl⟩
    ·exact ⟨e1,(h1.tu (.same S5)).but (I4.same S5).w.dr t5⟩
    ·exact ⟨e2,(h2.tu (.same S5)).but (I4.same S5).w.dr t5⟩
   obtain ⟨dr,er⟩:=I5.w.rc.at_.ob;by_cases yn:y=.non
   ·subst yn;obtain rfl:e=.none:=by have:=hy.rx;cases this;rfl
    refine ⟨9,8,9,iM rfl ?_⟩;refine ⟨9,r.a,dr,9,er,8,r,_,n,.non,.none,8,I5.w.rc,.non,.no,λH6 rn=>?_⟩;obtain ⟨r',ea,W6,t6⟩:=I5.w.rcn (d':=Do kts L off .none) rn 05 (I5.ok w6 05);exact hD _ _ ⟨r',.non,.none,n+1,ea,aae _,8,W6,I5.nm,I5.gv,I5.al,hy.tu t6⟩
   ·refine ⟨9,8,9,gB (by simp [yn]) ?_⟩;refine ⟨9,r.a,dr,9,er,8,9,r,_,n,y,e,8,I5.w.rc,hy.rx,hy.ho,λH6 rn=>?_⟩;obtain ⟨r',ea,W6,t6⟩:=I5.w.rcn (d':=Do kts L off e) rn 05 (I5.ok w6 05);exact hD _ _ ⟨r',y,e,n+1,ea,aae _,8,W6,I5.nm,I5.gv,I5.al,hy.tu t6⟩
  rintro σ' H3⟨r1,x1,e1,n1,er1,nl1,rfl,I1⟩;rw [<-er1]
  replace nl1:n1<=10+4*i:=by omega
  clear I er1 nl;clear x ht n r;refine cM _ _ ?_
  try dsimp only [eQ,List.set]
  refine lY λDN cN=>lW (λσ' H'=>∃(r':oE)(off':Bool)(n':Nat),r'.a=r1.a/\n'<=n1+1/\σ'=[some (.ref sa),some (.ref p),some (.ref cc),some (.ref r1.a),u4,u5,u6,some x1,some (.bl off'),some (.int (0+i)),some (.int wy),u11,u12,u13]/\Li Z C S R K Tt H0 H' p dc kts ws r' L off' x1 e1 n' i) ?_ λD' hD=>?_
  rotate_left
  ·refine ⟨9,8,9,lD (λ_=>?_) (λ_=>hD _ _ ⟨r1,off,n1,8,05,8,I1⟩)⟩;refine ⟨9,p,dc,2,8,I1.w.dr,02,02,λm H4 _ _ D4 t4=>⟨8,?_⟩⟩;have I4:=I1.but t4 D4;obtain ⟨dr,er⟩:=I4.w.rc.at_.ob;refine ⟨9,9,?_⟩;cases hm:decide (V.int m=V.int 0)with
   | true=>refine iM rfl ⟨9,r1.a,dr,9,er,8,r1,_,n1,8,I4.w.rc,λH5 rn=>?_⟩;obtain ⟨r',ea,W5,t5⟩:=I4.w.rcn (d':=Do kts L true e1) rn 05 (I4.ok w6 05);exact hD _ _ ⟨r',true,n1+1,ea,aae _,8,W5,I4.nm,I4.gv,I4.al,I4.hx.tu t5⟩
   | false=>refine gB rfl ⟨9,r1.a,dr,9,er,8,r1,_,n1,8,I4.w.rc,λH5 rn=>?_⟩;obtain ⟨r',ea,W5,t5⟩:=I4.w.rcn (d':=Do kts L false e1) rn 05 (I4.ok w6 05);exact hD _ _ ⟨r',false,n1+1,ea,aae _,8,W5,I4.nm,I4.gv,I4.al,I4.hx.tu t5⟩
  rintro σ' H4⟨r,off1,n,er1,nl,rfl,I⟩;rw [<-er1]
  replace nl:n<=11+4*i:=by omega
  clear I1 er1 nl1;clear r1 n1 off;refine cN _ _ (lY λDO cO=>?_);obtain ⟨ec,ek,pk,_,_⟩:=ol I.w;have kl3:=co.kl;have ksl:=pk.len;refine ⟨9,9,cc,9,(rK ec).2.1,p,dc,lk,ks,8,I.w.dr,eY.of ek,(λz=>by rw [z]at ksl;simp at ksl;omega),05,λy H6 hy D6 t6=>?_⟩
  replace I:=I.but t6 D6
  clear t6 D6 ec ek pk;obtain ⟨jk,hjk⟩:=aau.mp hy;obtain ⟨t,ht,b,a,xs,rfl,hb,ha,pf⟩:=(ol I.w).2.2.1.at hjk;have kt:=co.ko t (aap ht);have kln:=kt.ln;refine ⟨b,9,e_.of hb,8,7,7,8,?_⟩;refine cO _ _ ?_
  try dsimp only [eQ,List.set]
  refine lY λDP cP=>?_;refine ⟨9,9,p,dc,a,xs,t.2,8,I.w.dr,ha,pf,(λf m=>(kt.sm f m).ok),05,λbv zs H7 hbv fz D7 t7=>?_⟩;have tk7:=TK.but I.w.dr t7
  replace ha:=tk7 _ _ ha
  replace pf:=gD pf tk7
  replace I:=I.but t7 D7
  clear t7 D7 tk7 hb hjk hy;refine cP _ _ ?_
  try dsimp only [eQ,List.set]
  refine lY λDQ cQ=>?_;obtain ⟨ec,_,_,el,_⟩:=ol I.w;have w3:=co.wl;refine ⟨9,9,cc,9,(rK ec).1,p,dc,ll,ws.map V.str,8,I.w.dr,eY.of el,(λz=>by rw [List.map_eq_nil_iff]at z;rw [z]at w3;exact absurd w3 02),by rw [aaf];omega,λy H8 hy D8 t8=>?_⟩;have tk8:=TK.but I.w.dr t8
  replace ha:=tk8 _ _ ha
  replace pf:=gD pf tk8
  replace hbv:=tk8 _ _ hbv
  replace I:=I.but t8 D8
  obtain ⟨j,l,hl,rfl⟩:∃(j:Nat)(l:Lw),L[j]?=some l/\y=.str l.nm:=by obtain ⟨nm,mn,rfl⟩:=aao.mp hy;rw [<-I.nm]at mn;obtain ⟨l,ml,rfl⟩:=aao.mp mn;obtain ⟨j,hj⟩:=aau.mp ml;exact ⟨j,l,hj,8⟩
  clear t8 D8 tk8 hy ec el;refine cQ _ _ ?_
  try dsimp only [eQ,List.set]
  refine lY λDR cR=>?_;obtain ⟨dr,er⟩:=I.w.rc.at_.ob;refine ⟨9,r.a,dr,9,er,8,9,r,_,n,l.nm,j,9,I.w.rc.at_,Do.at hl,8,λmt H9 s9 hmt=>?_⟩
  replace ha:=s9 _ _ ha
  replace pf:=gD pf (cu.kt (Z:=Z) s9).tk
  replace hbv:=s9 _ _ hbv
  replace I:=I.same s9
  clear s9 er dr;refine cR _ _ ?_
  try dsimp only [eQ,List.set]
  refine lY λDS c8=>?_;have zl:=fz.len;have fin:∀(H3:Hp)(lf:Zl)(r':oE)(L':List Lw)(n':Nat),r'.a=r.a->n'<=n+1->Tu K H9 H3->H3 lf=some (.lst [.str (if off1=true then "stopped"else ""),if off1=true then .non else .bl true])->(off1=true->L'=L)->Li Z C S R K Tt H0 H3 p dc kts ws r' L' (off1||kY t.1 t.2 zs e1) x1 e1 n' (i+1)->DS.nx [some (.ref sa),some (.ref p),some (.ref cc),some (.ref r.a),some (.str l.nm),some (.str t.1),some (.ref a),some x1,some (.bl off1),some (.int (0+i)),some (.int wy),some (.ref bv),some (.ref mt),some (.ref lf)] H3:=by
   clear I;intro H3 lf r' L' n' er nl' u3 hlf eL I;rw [<-er]
   replace ha:=u3.tk _ _ ha
   replace pf:=gD pf u3.tk
   replace hbv:=u3.tk _ _ hbv
   replace hmt:=u3.tk _ _ hmt
   clear u3 er;refine c8 _ _ ?_;refine lY λDT c9=>lW (λσ' H'=>σ'=[some (.ref sa),some (.ref p),some (.ref cc),some (.ref r'.a),some (.str l.nm),some (.str t.1),some (.ref a),some x1,some (.bl off1),some (.int (0+i)),some (.int wy),some (.ref bv),some (.ref mt),some (.ref lf)]/\cu H3 H') ?_ λD' hD=>?_
   rotate_left
   ·cases off1 with
    | true=>refine ⟨9,9,9,iM rfl ⟨01,λlq hlq=>⟨_,_,.list [.str "stopped",.none],8,.lst (eY.of (cu.new hlq _ _ hlf)) (.cons (.str _) (.cons .non .nil)),.lst (eY.of a_) (.cons (.str _) (.cons .non .nil)),02,02,λH' s'=>⟨9,gB rfl (hD _ _ ⟨8,(cu.new hlq).trans s'⟩)⟩⟩⟩⟩
    | false=>refine ⟨9,9,9,gB rfl ⟨01,λlq hlq=>⟨_,_,.list [.str "",.bool true],8,.lst (eY.of (cu.new hlq _ _ hlf)) (.cons (.str _) (.cons (.bl _) .nil)),.lst (eY.of a_) (.cons (.str _) (.cons (.bl _) .nil)),02,02,λH' s'=>⟨9,gB rfl (hD _ _ ⟨8,(cu.new hlq).trans s'⟩)⟩⟩⟩⟩
   rintro _ H4⟨rfl,s4⟩
   replace I:=I.same s4
   replace ha:=s4 _ _ ha
   replace pf:=gD pf (cu.kt (Z:=Z) s4).tk
   replace hbv:=s4 _ _ hbv
   replace hmt:=s4 _ _ hmt
   clear s4 hlf;refine c9 _ _ ?_;refine lY λDU c9=>lW (λσ' H'=>σ'=[some (.ref sa),some (.ref p),some (.ref cc),some (.ref r'.a),some (.str l.nm),some (.str t.1),some (.ref a),some x1,some (.bl off1),some (.int (0+i)),some (.int wy),some (.ref bv),some (.ref mt),some (.ref lf)]/\cu H4 H') ?_ λD' hD=>?_
   rotate_left
   ·cases off1 with
    |false=>exact ⟨9,9,gB rfl (gB rfl (hD _ _ ⟨8,.refl _⟩))⟩
    | true=>
      obtain rfl:=eL rfl;obtain ⟨dr,er⟩:=I.w.rc.at_.ob;refine ⟨9,9,iM rfl ⟨9,r'.a,dr,9,er,8,9,r',_,n',l.nm,j,9,I.w.rc.at_,Do.at hl,8,λmt2 H' s' hmt2=>?_⟩⟩;refine ⟨9,[.int l.ln.giv,.int l.ln.thr,.int l.ln.los,.int l.ln.mis],[.int l.ln.giv,.int l.ln.thr,.int l.ln.los,.int l.ln.mis],.tup (e_.of hmt2) (.cons (.int _) (.cons (.int _) (.cons (.int _) (.cons (.int _) .nil)))),.tup (e_.of (s' _ _ hmt)) (.cons (.int _) (.cons (.int _) (.cons (.int _) (.cons (.int _) .nil)))),?_,?_⟩
      ·simp [iI,jg]
      ·exact ⟨9,gB (by simp [jG,m7]) (hD _ _ ⟨8,s'⟩)⟩
   rintro _ H5⟨rfl,s5⟩
   replace I:=I.same s5
   replace ha:=s5 _ _ ha
   replace pf:=gD pf (cu.kt (Z:=Z) s5).tk
   replace hbv:=s5 _ _ hbv
   clear s5 hmt eL;refine c9 _ _ ?_;refine lY λDV c9=>lW (λσ' H'=>σ'=[some (.ref sa),some (.ref p),some (.ref cc),some (.ref r'.a),some (.str l.nm),some (.str t.1),some (.ref a),some x1,some (.bl (off1||kY t.1 t.2 zs e1)),some (.int (0+i)),some (.int wy),some (.ref bv),some (.ref mt),some (.ref lf)]/\cu H5 H') ?_ λD' hD=>?_
   rotate_left
   ·cases off1 with
    |true=>exact ⟨9,9,gB rfl (gB rfl (hD _ _ ⟨8,.refl _⟩))⟩
    | false=>
      refine ⟨9,9,iM rfl ⟨9,8,9,?_⟩⟩;rcases I.hx.ok with rfl|⟨tr1,te1⟩
      ·obtain rfl:x1=.non:=by have:=I.hx.rx;cases this;rfl
       exact gB rfl (gB rfl (hD _ _ ⟨8,.refl _⟩))
      ·obtain ⟨tf,tr',rfl⟩:=jf tr1.td tr1.sh;obtain ⟨q0,rfl⟩:∃q0,x1=.ref q0:=by have:=I.hx.rx;cases this;exact ⟨9⟩
       have b5:gb (.tuple (.str tf::tr'))=true/\gY (.tuple (.str tf::tr'))<=5:=by unfold kE at te1;simp only [aaM,aa8]at te1;exact ⟨te1.1,te1.2.1⟩
       refine iM rfl ⟨9,9,9,9,q0,a,bv,tf,t.1,tr',xs,t.2,zs,8,⟨I.hx.rx,tr1.td,b5.1,b5.2,ha,pf,05,hbv,zl.symm⟩,λH' s'=>⟨9,?_⟩⟩;rw [show gC t.1 t.2 zs 5 tf tr'=kY t.1 t.2 zs (.tuple (.str tf::tr'))from rfl];cases hb:kY t.1 t.2 zs (.tuple (.str tf::tr'))with
       |true=>exact iM rfl (hD _ _ ⟨by rw [hb];rfl,s'⟩)
       |false=>exact gB rfl (hD _ _ ⟨by rw [hb];rfl,s'⟩)
   rintro _ H6⟨rfl,s6⟩
   replace I:=I.same s6
   clear s6 ha pf hbv;generalize (off1||kY t.1 t.2 zs e1)=off2 at I|-;refine c9 _ _ ?_;refine lY λDW c9=>lW (λσ' H'=>σ'=[some (.ref sa),some (.ref p),some (.ref cc),some (.ref r'.a),some (.str l.nm),some (.str t.1),some (.ref a),some x1,some (.bl off2),some (.int (0+i)),some (.int wy),some (.ref bv),some (.ref mt),some (.ref lf)]/\cu H6 H') ?_ λD' hD=>?_
   rotate_left
   ·obtain ⟨dr,er⟩:=I.w.rc.at_.ob;refine ⟨9,r'.a,dr,9,er,8,r',_,n',8,I.w.rc.at_,?_⟩;refine ⟨9,r'.a,dr,9,er,8,r',_,n',8,I.w.rc.at_,λv rv=>?_⟩;refine ⟨01,λlp hlp=>?_⟩;refine ⟨9,9,01,λlq hlq=>?_⟩;have s2:=(cu.new (o:=.lst [.bl off2,v]) hlp).trans (cu.new (o:=.lst [.bl off2,x1]) hlq);have dm:jg e1<=5/\kZ e1<=21:=by
     rcases I.hx.ok with rfl|⟨h,_⟩
     ·decide
     ·exact ⟨h.dp,Ol h.td⟩
    refine ⟨_,_,.list [.bool off2,e1],rfl,.lst (eY.of (cu.new hlq _ _ a_)) (.cons (.bl _) (.cons (rv.same s2) .nil)),.lst (eY.of a_) (.cons (.bl _) (.cons (I.hx.rx.same s2) .nil)),?_,?_,λH' s'=>⟨_,rfl,gB rfl (hD _ _ ⟨rfl,s2.trans s'⟩)⟩⟩
    ·simp only [jg,iI];omega
    ·simp only [kZ,jF,aaz,abo];omega
   rintro _ H7⟨rfl,s7⟩
   replace I:=I.same s7
   clear s7;refine c9 _ _ ?_;refine lW (λσ' H'=>∃(r2:oE)(off3:Bool)(n2:Nat),r2.a=r'.a/\n2<=n'+1/\σ'=[some (.ref sa),some (.ref p),some (.ref cc),some (.ref r'.a),some (.str l.nm),some (.str t.1),some (.ref a),some x1,some (.bl off3),some (.int (0+i)),some (.int wy),some (.ref bv),some (.ref mt),some (.ref lf)]/\Li Z C S R K Tt H0 H' p dc kts ws r2 L' off3 x1 e1 n2 (i+1)) ?_ λD' hD=>?_
   rotate_left
   ·cases off2 with
    |false=>exact ⟨9,9,gB rfl (gB rfl (hD _ _ ⟨r',false,n',8,05,8,I⟩))⟩
    | true=>
      refine ⟨9,9,iM rfl ⟨9,p,dc,3,8,I.w.dr,02,02,λm H' _ _ D1 t1=>⟨8,9,?_⟩⟩⟩
      replace I:=I.but t1 D1
      refine lD (λ_=>?_) (λ_=>hD _ _ ⟨r',true,n',8,05,8,I⟩);obtain ⟨dr,er⟩:=I.w.rc.at_.ob;refine ⟨9,r'.a,dr,9,er,8,r',_,n',8,I.w.rc,λH2 rn=>?_⟩;obtain ⟨r2,ea,W2,u2⟩:=I.w.rcn (d':=Do kts L' false e1) rn 05 (I.ok w6 05);exact hD _ _ ⟨r2,false,n'+1,ea,aae _,8,W2,I.nm,I.gv,I.al,I.hx.tu u2⟩
   rintro _ H8⟨r2,off3,n2,er2,nl2,rfl,I⟩;rw [<-er2];exact hK _ _ ⟨r2,L',off3,x1,e1,n2,_,_,_,_,_,_,7,05,I⟩
  clear hK c8;refine Tg CT (L:=Lj) (q:=qL) (LPS:=RV) (off:=off1) (cT:=cT) (Af:=λv H2=>v=.bl true/\Tu K H9 H2/\∃r' rr hh,r'.a=r.a/\Li Z C S R K Tt H0 H2 p dc kts ws r' (L.set j ⟨l.nm,Jr t.1 t.2 0 zs l.ln rr hh,l.A++[Jw t.1 t.2 0 zs l.ln]⟩) (kY t.1 t.2 zs e1) x1 e1 (n+1) (i+1)) BT rfl I.w.tb (aan ..) (λH1 k1 t1=>?_) (λho v H2 lf⟨ev,u2,r',rr,hh,ea,I2⟩hlf=>?_) λho H2 lf k2 t2 hlf=>?_
  ·have I1:=I.kp k1 t1;have u1:=(I.w.kp k1 t1).2;obtain ⟨dr,er⟩:=I1.w.rc.at_.ob;have ko:sS t.1 t.2:=⟨kt.nm,05,λf m=>(kt.sm f m).ok,kt.nd⟩;have gv:=I.gv l (aap hl);have al:=I.al l (aap hl);refine ⟨9,r.a,dr,9,er,8,9,9,9,r,_,n,l.nm,t.1,bv,j,jk,_,t,zs,8,I1.w.rc,u1.tk _ _ hbv,Do.at hl,8,ht,8,I1.hx.ho,ko,gv.ok 05 fz,8,λhs da H2 H' s th=>W_.of hs s th,λhs rr hh H' sl rn=>⟨hs,8,?_⟩⟩;have ed:=Do.put (kts:=kts) (L:=L) (j:=j) (l:=l) (off:=off1) (off':=kY t.1 t.2 zs e1) (t:=e1) ⟨l.nm,Jr t.1 t.2 0 zs l.ln rr hh,l.A++[Jw t.1 t.2 0 zs l.ln]⟩;have rn:Js Z C S R K r n H1 {(Do kts L off1 e1).put j (l.nm,⟨l.ln,0,tX⟩) (Jr t.1 t.2 0 zs l.ln rr hh)with still:=kY t.1 t.2 zs e1} H':=rn;rw [ed]at rn;obtain ⟨r',ea,I2,u2⟩:=I1.put (l':=⟨l.nm,Jr t.1 t.2 0 zs l.ln rr hh,l.A++[Jw t.1 t.2 0 zs l.ln]⟩) w6 hl (gv.put sl ko kln) rfl (by rw [aaw];simp;omega) 05 rn 05;exact ⟨u1.trans u2,r',rr,hh,ea,I2⟩
  ·subst ho;have s2:=cu.new (o:=.lst [.str "",v]) hlf;subst ev;exact fin _ lf r' _ (n+1) ea 014 (u2.trans (.same s2)) a_ (λz=>by cases z) (I2.same s2)
  ·subst ho;have s2:=cu.new (o:=.lst [.str "stopped",.non]) hlf;have I2:=(I.kp k2 t2).same s2;exact fin _ lf r L n rfl 05 ((I.w.kp k2 t2).2.trans (.same s2)) a_ (λ_=>rfl) ⟨I2.w,I2.nm,I2.gv,λq m=>Nat.le_succ_of_le (I2.al q m),I2.hx⟩
 ·rintro σ' HX⟨r,L,off,x,ht,n,u4,u5,u6,u9,u10,u11,u12,u13,rfl,nl,I⟩;refine cJ _ _ ?_;exact k _
end
noncomputable def Kw(h:∀(S:Setting)(x a b c:ZI),peek K S (bindArgs f ⟨[x],[("pages",a),("room",b),("over",c)]⟩)=some ([("self",x),("pages",a),("room",b),("over",c)]:List (Str×Value))):kh K f ["self","pages","room","over"] ["pages","room","over"] gL Zf:=by
 refine⟨λs d e X g=>?_,λ{vs d j e}r i=>?_⟩
 ·match d,e,g with
  |[x],[a,b,c],_=>exact kp_binds X λS=>h S x a b c
  |[],_,z=>simp[gL]at z
  |[_],[],z=>simp[gL]at z
  |[_],[_],z=>simp[gL]at z
  |[_],[_,_],z=>simp[gL]at z
  |[_],_::_::_::_::_,z=>simp[gL]at z
  |_::_::_,_,z=>simp[gL]at z
 ·cases r with
  |nil=>exact .nil
  | cons r1 r=>
    cases r with
    |cons r2 r=>exact .nil
    | nil=>
      cases i with
      |nil=>exact .nil
      | cons z1 z=>
        cases z with
        |nil=>exact .nil
        | cons z2 z=>
          cases z with
          |nil=>exact .nil
          | cons z3 z=>
            cases z with
            |cons z4 z=>exact .nil
            |nil=>exact .cons r1 (.cons z1 (.cons z2 (.cons z3 .nil)))
noncomputable def Oq(h:∀(S:Setting)(x a b:ZI),peek K S (bindArgs e ⟨[x],[("pages",a),("room",b)]⟩)=some ([("self",x),("pages",a),("room",b)]:List (Str×Value))):kh K e ["self","pages","room"] ["pages","room"] gR Zw:=by
 refine⟨λs c d X f=>?_,λ{vs c i d}r g=>?_⟩
 ·match c,d,f with
  |[x],[a,b],_=>exact kp_binds X λS=>h S x a b
  |[],_,z=>simp[gR]at z
  |[_],[],z=>simp[gR]at z
  |[_],[_],z=>simp[gR]at z
  |[_],_::_::_::_,z=>simp[gR]at z
  |_::_::_,_,z=>simp[gR]at z
 ·cases r with
  |nil=>exact .nil
  | cons r1 r=>
    cases r with
    |cons r2 r=>exact .nil
    | nil=>
      cases g with
      |nil=>exact .nil
      | cons z1 z=>
        cases z with
        |nil=>exact .nil
        | cons z2 z=>
          cases z with
          |cons z4 z=>exact .nil
          |nil=>exact .cons r1 (.cons z1 (.cons z2 .nil))
noncomputable def KR(h:∀(S:Setting)(x a b:ZI),peek K S (bindArgs e ⟨[x,a],[("over",b)]⟩)=some ([("self",x),("name",a),("over",b)]:List (Str×Value))):kh K e ["self","name","over"] ["over"] gO ZQ:=by
 refine⟨λs c d X f=>?_,λ{vs c i d}r g=>?_⟩
 ·match c,d,f with
  |[x,a],[b],_=>exact kp_binds X λS=>h S x a b
  |[],_,z=>simp[gO]at z
  |[_],_,z=>simp[gO]at z
  |[_,_],[],z=>simp[gO]at z
  |[_,_],_::_::_,z=>simp[gO]at z
  |_::_::_::_,_,z=>simp[gO]at z
 ·cases r with
  |nil=>exact .nil
  | cons r1 r=>
    cases r with
    |nil=>exact .nil
    | cons r2 r=>
      cases r with
      |cons r3 r=>exact .nil
      | nil=>
        cases g with
        |nil=>exact .nil
        | cons z1 z=>
          cases z with
          |cons z2 z=>exact .nil
          |nil=>exact .cons r1 (.cons r2 (.cons z1 .nil))
theorem QG(h:∀(S:Setting)(x:ZI),peek K S (bindArgs a ⟨[x],[]⟩)=some ([(b,x),(c,d)]:List (Str×Value))):Binds K a [b,c] [d]:=λs e X f=>by
 match e,f with
 |[x],_=>exact kp_binds X λS=>h S x
 |[],z=>simp at z
 |_::_::_,z=>simp at z
def K1(h:H T=some (.tbl #[])):jZ H T q LPS:=by exact⟨#[],h,trivial,λ_ _=>.inl rfl⟩
def Uv(a:Y1):List Str->Prop
 |[]=>True
 |x::l=>a x=none/\Uv a l
def Q_(K:Zs)(C:Zl):List Str->Prop
 |[]=>True
 |x::l=>findIn K (.ref C) x=some none/\Q_ K C l
structure CI(K:Zs)(mg:Y1)(C:Zl)(n:Str)(l:Y2):Prop where
 a:mg n=some (.ref C)
 c:uC K C
 ma:makesIn K C=true
 kc:keepIn K (.ref C)=true
 n:Q_ K C l
noncomputable def ci(X:K.In h)(G:h.Ns mainGlobals j)(a:nsIn K mainGlobals n=some (some (.ref C)))(b:plainGet K C Str.empty=true)(c:hasDictIn K C=true)(d:plainOver K C=true)(e:findIn K (.ref C) "__setattr__"=some (some (.builtin "object.__setattr__")))(f:makesIn K C=true)(g:keepIn K (.ref C)=true)(i:Q_ K C l):CI K j C n l:=⟨mg_of X G a,⟨b,c,d,e⟩,f,g,i⟩
noncomputable def md1(a:findIn K (.ref C) n=some (some (.ref f)))(i:isFn K (.ref f)=true)(l:K.lookup f=some ⟨oc,od,.func (fnOf n q (dI e) (dq e) (bK e) .none g h j an d m),s⟩)(c:codeIn K d q=true)(k:keepIn K (.ref f)=true)(b:∀(g h j:ZI)(an:YE)(d m o:ZI),bindArgs (fnOf n q (dI e) (dq e) (bK e) .none g h j an d m) ⟨[o],[]⟩=pure ([p].zip [o])):MD K C n q e [p] f (fnOf n q (dI e) (dq e) (bK e) .none g h j an d m):=
 ⟨⟨a,i,k⟩,iT l c k,(iT l c k).binds λ_ _ _ _ _ _ v r=>by obtain⟨_,rfl⟩:=Q4 r;exact b _ _ _ _ _ _ _⟩
noncomputable def df1(X:K.In h)(G:h.Ns mainGlobals p)(a:nsIn K mainGlobals n=some (some (.ref f)))(l:K.lookup f=some ⟨oc,od,.func (fnOf n n (dI e) (dq e) (bK e) .none g i j an d m),s⟩)(c:codeIn K d n=true)(k:keepIn K (.ref f)=true)(b:∀(g i j:ZI)(an:YE)(d m o:ZI),bindArgs (fnOf n n (dI e) (dq e) (bK e) .none g i j an d m) ⟨[o],[]⟩=pure ([q].zip [o])):fj K p n e [q] f (fnOf n n (dI e) (dq e) (bK e) .none g i j an d m):=
 ⟨iT l c k,mg_of X G a,(iT l c k).binds λ_ _ _ _ _ _ v r=>by obtain⟨_,rfl⟩:=Q4 r;exact b _ _ _ _ _ _ _⟩
noncomputable def ZX(a:findIn K (.ref C) n=some (some (.ref f)))(i:isFn K (.ref f)=true)(l:K.lookup f=some ⟨oc,od,.func (fnOf n q (dI e) (dq e) (bK e) .none g h j an d m),w⟩)(c:codeIn K d q=true)(k:keepIn K (.ref f)=true)(b:∀(g h j:ZI)(an:YE)(d m o p:ZI),bindArgs (fnOf n q (dI e) (dq e) (bK e) .none g h j an d m) ⟨[o,p],[]⟩=pure ([r,s].zip [o,p])):MD K C n q e [r,s] f (fnOf n q (dI e) (dq e) (bK e) .none g h j an d m):=
 ⟨⟨a,i,k⟩,iT l c k,(iT l c k).binds λ_ _ _ _ _ _ x v=>by obtain⟨_,_,rfl⟩:=J3 v;exact b _ _ _ _ _ _ _ _⟩
noncomputable def df2(X:K.In h)(G:h.Ns mainGlobals q)(a:nsIn K mainGlobals n=some (some (.ref f)))(l:K.lookup f=some ⟨oc,od,.func (fnOf n n (dI e) (dq e) (bK e) .none g i j an d m),w⟩)(c:codeIn K d n=true)(k:keepIn K (.ref f)=true)(b:∀(g i j:ZI)(an:YE)(d m o p:ZI),bindArgs (fnOf n n (dI e) (dq e) (bK e) .none g i j an d m) ⟨[o,p],[]⟩=pure ([r,s].zip [o,p])):fj K q n e [r,s] f (fnOf n n (dI e) (dq e) (bK e) .none g i j an d m):=
 ⟨iT l c k,mg_of X G a,(iT l c k).binds λ_ _ _ _ _ _ x v=>by obtain⟨_,_,rfl⟩:=J3 v;exact b _ _ _ _ _ _ _ _⟩
noncomputable def md3(a:findIn K (.ref C) n=some (some (.ref f)))(i:isFn K (.ref f)=true)(l:K.lookup f=some ⟨oc,od,.func (fnOf n q (dI e) (dq e) (bK e) .none g h j an d m),y⟩)(c:codeIn K d q=true)(k:keepIn K (.ref f)=true)(b:∀(g h j:ZI)(an:YE)(d m o p r:ZI),bindArgs (fnOf n q (dI e) (dq e) (bK e) .none g h j an d m) ⟨[o,p,r],[]⟩=pure ([s,v,w].zip [o,p,r])):MD K C n q e [s,v,w] f (fnOf n q (dI e) (dq e) (bK e) .none g h j an d m):=
 ⟨⟨a,i,k⟩,iT l c k,(iT l c k).binds λ_ _ _ _ _ _ z x=>by obtain⟨_,_,_,rfl⟩:=I_ x;exact b _ _ _ _ _ _ _ _ _⟩
noncomputable def df3(X:K.In h)(G:h.Ns mainGlobals r)(a:nsIn K mainGlobals n=some (some (.ref f)))(l:K.lookup f=some ⟨oc,od,.func (fnOf n n (dI e) (dq e) (bK e) .none g i j an d m),y⟩)(c:codeIn K d n=true)(k:keepIn K (.ref f)=true)(b:∀(g i j:ZI)(an:YE)(d m o p q:ZI),bindArgs (fnOf n n (dI e) (dq e) (bK e) .none g i j an d m) ⟨[o,p,q],[]⟩=pure ([s,v,w].zip [o,p,q])):fj K r n e [s,v,w] f (fnOf n n (dI e) (dq e) (bK e) .none g i j an d m):=
 ⟨iT l c k,mg_of X G a,(iT l c k).binds λ_ _ _ _ _ _ z x=>by obtain⟨_,_,_,rfl⟩:=I_ x;exact b _ _ _ _ _ _ _ _ _⟩
noncomputable def ZZ(a:findIn K (.ref C) n=some (some (.ref f)))(i:isFn K (.ref f)=true)(l:K.lookup f=some ⟨oc,od,.func (fnOf n q (dI e) (dq e) (bK e) .none g h j an d m),A⟩)(c:codeIn K d q=true)(k:keepIn K (.ref f)=true)(b:∀(g h j:ZI)(an:YE)(d m o p r s:ZI),bindArgs (fnOf n q (dI e) (dq e) (bK e) .none g h j an d m) ⟨[o,p,r,s],[]⟩=pure ([v,w,x,y].zip [o,p,r,s])):MD K C n q e [v,w,x,y] f (fnOf n q (dI e) (dq e) (bK e) .none g h j an d m):=
 ⟨⟨a,i,k⟩,iT l c k,(iT l c k).binds λ_ _ _ _ _ _ B z=>by obtain⟨_,_,_,_,rfl⟩:=Uu z;exact b _ _ _ _ _ _ _ _ _ _⟩
noncomputable def df4(X:K.In h)(G:h.Ns mainGlobals s)(a:nsIn K mainGlobals n=some (some (.ref f)))(l:K.lookup f=some ⟨oc,od,.func (fnOf n n (dI e) (dq e) (bK e) .none g i j an d m),A⟩)(c:codeIn K d n=true)(k:keepIn K (.ref f)=true)(b:∀(g i j:ZI)(an:YE)(d m o p q r:ZI),bindArgs (fnOf n n (dI e) (dq e) (bK e) .none g i j an d m) ⟨[o,p,q,r],[]⟩=pure ([v,w,x,y].zip [o,p,q,r])):fj K s n e [v,w,x,y] f (fnOf n n (dI e) (dq e) (bK e) .none g i j an d m):=
 ⟨iT l c k,mg_of X G a,(iT l c k).binds λ_ _ _ _ _ _ B z=>by obtain⟨_,_,_,_,rfl⟩:=Uu z;exact b _ _ _ _ _ _ _ _ _ _⟩
noncomputable def MN(B:String):List Value:=[.type B,.type "Exception",.type "BaseException",.type "object"]
def Hf(a:ZI):refuseLoop a "__setattr__" (MN "ValueError")=pure ():=by kernel_rfl
def Vu(a:ZI):refuseLoop a "__setattr__" (MN "LookupError")=pure ():=by kernel_rfl
noncomputable def YJ(K:Zs)(C:Zl)(a:YI)(b:Y3):Bool:=match clsIn K C with
 |some cd=>cd.hasDict&&(cd.mro==a.map Value.ref++b)
 |none=>false
set_option tactic.hygienic true in
noncomputable def MJ(e:qF K C B n=true)(f:findIn K (.ref C) "__setattr__"=some (some (.builtin "object.__setattr__")))(a:YJ K C c (MN B)=true)(g:keepIn K (.ref C)=true)(h:typeIn K (.ref C)=some (.type "type"))
 (i:∀b,refuseLoop b "__setattr__" (MN B)=pure ()):mK K C B n:=by
 refine⟨e,f,?_,g,h⟩;unfold YJ at a;split at a
 ·rename_i cd d;rw[aaM,aaX]at a;refine⟨cd,c,MN B,d,a.1,a.2,by simp[MN],i,?_⟩;unfold MN;simp
 ·cases a
structure XS(K:Zs)(C:Zl)(rs:YI)(B n:String):Prop where
 a:qF K C B n=true
 b:findIn K (.ref C) "__setattr__"=some (some (.builtin "object.__setattr__"))
 c:YJ K C rs (MN B)=true
 d:keepIn K (.ref C)=true
 e:typeIn K (.ref C)=some (.type "type")
def XS.ok(h:XS K C g B n)(i:∀f,refuseLoop f "__setattr__" (MN B)=pure ()):mK K C B n:=MJ h.a h.b h.c h.d h.e i
noncomputable def RD{l:OpenLaw}{w:ZH}{K:Zs}{f:Y1}{fa g4 Tt cc dG Tm cu fB fP fO fS fW hL hM hN hO hP fA hQ hR hU hV hW hX hY fI hZ h0 h1 h2 h3 h4 h5 h6 h7 h8 h9 ia ib ic dx dy dH dJ dK dz dA dB b4 ie tW tS E cp dL ig ih ii dN ij qC g5 ik qG g6 il im qL cv io ip iq ir it iu iv iw ix iy iz iA iB iC qY g7 iD iE qX g8 iF iG iH Q cw iI iJ iK iL iM iN iO dC cx cf dO cy b5 tD o h p g i j n qS qV qM cq TS qT cr dP:Zl}(iP:f "law"=some (.ref fa))
 {iQ iR iS iU iV dQ dR dT dU dV iW dX dY dZ d0 d6 d8 d9 iX ea eb ec ed ee ef eg eh ei ej ek el em en eo ep er es et eu ev ew cA ex ey ez cB eA eB eC eD eE eF eG eH eI eJ eK eL eM eN eO eP eQ eR eS eT eU eV eW eX eZ e0 e1 e2 e3 e4 e5 e6 e7 e8:ZB}{e9 cD fb fe ff cE fg fh fi fk cF fl cH fm cI fn fo cJ fp cN cO fq fr fs ft fu fv:YE}{fw fx fy cP fz fC fD fE fF fG cQ fH cS fJ fK fL fM:YV}{A F b6 B U W bk X G Y bs iY fN fQ iZ i0:Nat}{fR cU cV cW cZ w0 w1 w2 w3 w4 w5 w6 w7 w8 w9 i1 i2 i3 i4 i5 i6 i7 i8 i9 fT fU fV fX fY v0 v1 v2 v3 v4 v5 v6 v7 v8 v9 ja jb jc jd je jf jg jh fZ f0 f1 f2 f3 c0 f4 f5 f6 c1 c2 c3 cg c4 f7 c5 c6 c7 ch c8 f8 c9 da db ci dc f9 ga gb gc dd gd de gf df dg dh cj di dj gg gh gi gj dk gk ji jj gl gm gn gp gq dl gr jk gs:ZI}
 (jl:f "law"=some (.ref g4))
 (jm:K.lookup g4=some ⟨fR,e9,.func (fnOf "law" "law" (dI (top 130)) (dq (top 130)) (bK (top 130)) .none cU cV cW cD (.ref cc) cZ),fw⟩)
 (kH:K.lookup cc=some ⟨i9,fb,.fields #[w0,w1,w2,w3,w4,w5,w6,w7,w8,w9,i1,.ref Tt,i2,i3,i4,i5,i6,i7,i8],fx⟩)
 (jn:K.lookup Tt=none)
 (tb:L2.tabIn K cc=some Tt)
 (jo:codeIn K (.ref cc) "law"=true)
 (kI:f "merged"=some (.ref dG))
 (kJ:K.lookup dG=some ⟨fT,fe,.func (fnOf "merged" "merged" (dI (top 62)) (dq (top 62)) (bK (top 62)) .none fU fV fX ff (.ref cu) fY),fy⟩)
 (jp:K.lookup cu=some ⟨fZ,cE,.fields #[v0,v1,v2,v3,v4,v5,v6,v7,v8,v9,ja,.ref Tm,jb,jc,jd,je,jf,jg,jh],cP⟩)
 (jq:K.lookup Tm=none)
 (jr:L2.tabIn K cu=some Tm)
 (kK:codeIn K (.ref cu) "merged"=true)
 (kL:keepIn K (.ref dG)=true)
 (DB:fj K f "_law_begin" (top 112) ["_law_script"] fB iQ)
 (DP:fj K f "_law_pick" (top 113) ["_law_d","_law_many"] fP iR)
 (DO:fj K f "_law_of" (top 114) ["_law_d","_law_things"] fO iS)
 (DS:fj K f "_law_same" (top 115) ["_law_found","_law_due"] fS iU)
 (DW:fj K f "_law_word" (top 116) ["_law_d"] fW iV)
 (js:fj K f "_law_words" (top 117) ["_law_d","_law_many"] hL dQ)
 (jt:fj K f "_law_small_fields" (top 127) ["_law_d"] hM dR)
 (g9:fj K f "_law_cast" (top 128) ["_law_d"] hN dT)
 (ha:fj K f "_law_cast_test" (top 129) ["_law_d","_law_c"] hO dU)
 (ju:fj K f "_law_passes" (top 126) ["_law_test_here","_law_title","_law_fields","_law_values_here"] hP dV)
 (DA:fj K f "_law_ask" (top 120) ["_law_ask_here"] fA iW)
 (jv:fj K f "_law_value" (top 118) ["_law_d","_law_field"] hQ dX)
 (hb:fj K f "_law_values" (top 119) ["_law_d","_law_fields"] hR dY)
 (jw:fj K f "_law_number" (top 121) ["_law_d"] hU dZ)
 (jx:fj K f "_law_leaf" (top 122) ["_law_d","_law_names","_law_kinds"] hV d0)
 (jy:fj K f "_law_tree" (top 123) ["_law_d","_law_deep","_law_names","_law_kinds"] hW d6)
 (jz:fj K f "_law_parts" (top 124) ["_law_test_here"] hX d8)
 (hc:fj K f "_law_test" (top 125) ["_law_d","_law_names","_law_kinds"] hY d9)
 (DI:fj K f "is_name" (top 26) ["text"] fI iX)
 (hd:fj K f "need_name" (top 27) ["text"] hZ ea)
 (jA:fj K f "need_fields" (top 28) ["fields"] h0 eb)
 (he:fj K f "need_pages" (top 52) ["pages"] h1 ec)
 (hf:fj K f "need_room" (top 53) ["room"] h2 ed)
 (gu:fj K f "need_new" (top 87) ["name","borne"] h3 ee)
 (hh:fj K f "need_fewer" (top 88) ["things","most"] h4 ef)
 (jB:fj K f "is_word" (top 69) ["thing"] h5 eg)
 (jC:fj K f "is_number" (top 70) ["thing"] h6 eh)
 (jD:fj K f "is_leaf" (top 71) ["test"] h7 ei)
 (hi:fj K f "count_parts" (top 72) ["thing","deep"] h8 ej)
 (hj:fj K f "is_test" (top 73) ["test"] h9 ek)
 (hk:fj K f "need_test" (top 74) ["test"] ia el)
 (jE:fj K f "passes" (top 75) ["test","kind","values"] ib em)
 (hm:fj K f "passes_leaf" (top 76) ["leaf","kind","values"] ic en)
 (gv:fj K f "do_kind" (top 91) ["stand","handed"] dx eo)
 (gw:fj K f "do_lane" (top 92) ["stand","handed"] dy ep)
 (hn:fj K f "do_claim" (top 94) ["stand","handed"] dH er)
 (ho:fj K f "do_fill" (top 95) ["stand","handed"] dJ es)
 (hp:fj K f "do_give" (top 96) ["stand","handed"] dK et)
 (gx:fj K f "do_write" (top 98) ["stand","handed"] dz eu)
 (gy:fj K f "do_halt" (top 103) ["stand","handed"] dA ev)
 (gz:fj K f "do_stop" (top 104) ["stand","handed"] dB ew)
 (ck:fj K f "do_go" (top 105) ["stand","handed"] b4 cA)
 (jF:fj K f "perform" (top 108) ["stand","deed"] ie ex)
 (zz:Uv f ["len","range","list","tuple","str","bool","int","min","repr","all","any","isinstance","ValueError","LookupError","dict","enumerate","zip","sum"])
 (C:f "MOST_LETTERS"=some (.int 8 A))
 (I:f "MOST_FIELDS"=some (.int 4 F))
 (b7:f "LIMIT"=some (.int 999999 b6))
 (D:f "FEWEST_PAGES"=some (.int 2 B))
 (Z:f "MOST_PAGES"=some (.int 16 U))
 (ar:f "LEAST_ROOM"=some (.int 5 W))
 (bt:f "MOST_ROOM"=some (.int 12 bk))
 (aK:f "MOST_KINDS"=some (.int 8 X))
 (J:f "MOST_TRACKS"=some (.int 6 G))
 (ba:f "MOST_PARTS"=some (.int 15 Y))
 (b3:f "MOST_DEEP"=some (.int 5 bs))
 (gA:f "WITHIN"=some (.ref tW))
 (jG:PyProof.Rows.KTD.tabLook PyProof.Rows.KTD.flatLooks (λb=>K.lookup b) tW dW=true)
 (gB:f "SIGN_OF"=some (.ref tS))
 (jH:PyProof.Rows.KTD.tabLook PyProof.Rows.KTD.flatLooks (λb=>K.lookup b) tS dS=true)
 (cK:CI K f E "Kind" ["name","fields"])
 (jI:findIn K (.ref E) "__init__"=some (some (.ref cp)))
 (jJ:K.lookup cp=some ⟨f0,fg,.func (fnOf "__init__" "Kind.__init__" (dI (kM 0)) (dq (kM 0)) (bK (kM 0)) (.ref dL) f1 f2 f3 fh c0 f4),fz⟩)
 (jK:codeIn K c0 "Kind.__init__"=true)
 (jL:keepIn K (.ref cp)=true)
 (jM:isFn K (.ref cp)=true)
 (jN:K.lookup dL=some ⟨f5,fi,.seq #[.ref ig] iY,fC⟩)
 (jO:MD K E "cells" "Kind.cells" (kM 2) ["self"] ih ey)
 (jP:MD K E "need" "Kind.need" (kM 4) ["self","values"] ii ez)
 (dm:MD K E "lowest" "Kind.lowest" (kM 1) ["self"] dN cB)
 (hq:MD K E "place_of" "Kind.place_of" (kM 3) ["self","field"] ij eA)
 (cC:CI K f qC "Claim" ["ticket","time","form","filled","given"])
 (dn:MD K qC "__init__" "Claim.__init__" (cM 0) ["self","ticket","time","kind"] g5 eB)
 (hr:MD K qC "twin" "Claim.twin" (cM 2) ["self"] ik eC)
 (cG:CI K f qG "Page" ["claims","used","gone"])
 (b9:MD K qG "__init__" "Page.__init__" (gM 0) ["self"] g6 eD)
 (hs:MD K qG "unclosed" "Page.unclosed" (gM 1) ["self"] il eE)
 (ht:MD K qG "twin" "Page.twin" (gM 3) ["self"] im eF)
 (cL:CI K f qL "Lane" ["most","room","over","pages","held","told","last_time","tickets","given_in","thrown_back","lost","missed"])
 (jQ:findIn K (.ref qL) "__init__"=some (some (.ref cv)))
 (jR:K.lookup cv=some ⟨f6,fk,.func (fnOf "__init__" "Lane.__init__" (dI (lM 0)) (dq (lM 0)) (bK (lM 0)) .none c1 c2 c3 cF cg c4),fD⟩)
 (jS:codeIn K cg "Lane.__init__"=true)
 (jT:keepIn K (.ref cv)=true)
 (jU:isFn K (.ref cv)=true)
 (jV:∀(S:Setting)(x a b c:ZI),peek K S (bindArgs (fnOf "__init__" "Lane.__init__" (dI (lM 0)) (dq (lM 0)) (bK (lM 0)) .none c1 c2 c3 cF cg c4) ⟨[x],[("pages",a),("room",b),("over",c)]⟩)=some ([("self",x),("pages",a),("room",b),("over",c)]:List (Str×Value)))
 (hu:MD K qL "claim" "Lane.claim" (lM 1) ["self","kind","time"] io eG)
 (hv:MD K qL "make_room" "Lane.make_room" (lM 2) ["self","cells"] ip eH)
 (hw:MD K qL "eldest" "Lane.eldest" (lM 3) ["self"] iq eI)
 (hx:MD K qL "lose_eldest" "Lane.lose_eldest" (lM 4) ["self"] ir eJ)
 (jW:MD K qL "leave" "Lane.leave" (lM 5) ["self","number"] it eK)
 (dD:MD K qL "waiting" "Lane.waiting" (lM 6) ["self"] iu eL)
 (dE:MD K qL "waiting_with" "Lane.waiting_with" (lM 7) ["self","ticket"] iv eM)
 (hy:MD K qL "last_waiting" "Lane.last_waiting" (lM 8) ["self","ticket"] iw eN)
 (hz:MD K qL "fill" "Lane.fill" (lM 9) ["self","ticket","values"] ix eO)
 (hA:MD K qL "give" "Lane.give" (lM 10) ["self","ticket"] iy eP)
 (hB:MD K qL "pending" "Lane.pending" (lM 16) ["self"] iz eQ)
 (hC:MD K qL "event" "Lane.event" (lM 17) ["self","ticket"] iA eR)
 (jX:MD K qL "counts" "Lane.counts" (lM 19) ["self"] iB eS)
 (hD:MD K qL "twin" "Lane.twin" (lM 21) ["self"] iC eT)
 (cY:CI K f qY "Track" ["written","clock","test"])
 (cs:MD K qY "__init__" "Track.__init__" (tM 0) ["self","written"] g7 eU)
 (gC:MD K qY "top" "Track.top" (tM 1) ["self"] iD eV)
 (hE:MD K qY "twin" "Track.twin" (tM 2) ["self"] iE eW)
 (cX:CI K f qX "Stand" ["pages","room","known","tracks","counters","still","halting"])
 (dp:MD K qX "__init__" "Stand.__init__" (sM 0) ["self","pages","room"] g8 eX)
 (dF:MD K qX "track_of" "Stand.track_of" (sM 1) ["self","name"] iF eZ)
 (hF:MD K qX "kind_of" "Stand.kind_of" (sM 2) ["self","name"] iG e0)
 (hG:MD K qX "twin" "Stand.twin" (sM 5) ["self"] iH e1)
 (cR:CI K f Q "Recorder" ["stand","past","undone"])
 (jY:findIn K (.ref Q) "__init__"=some (some (.ref cw)))
 (jZ:K.lookup cw=some ⟨f7,fl,.func (fnOf "__init__" "Recorder.__init__" (dI (rM 0)) (dq (rM 0)) (bK (rM 0)) .none c5 c6 c7 cH ch c8),fE⟩)
 (j0:codeIn K ch "Recorder.__init__"=true)
 (j1:keepIn K (.ref cw)=true)
 (j2:isFn K (.ref cw)=true)
 (j3:∀(S:Setting)(x a b:ZI),peek K S (bindArgs (fnOf "__init__" "Recorder.__init__" (dI (rM 0)) (dq (rM 0)) (bK (rM 0)) .none c5 c6 c7 cH ch c8) ⟨[x],[("pages",a),("room",b)]⟩)=some ([("self",x),("pages",a),("room",b)]:List (Str×Value)))
 (gD:MD K Q "write" "Recorder.write" (rM 8) ["self","lane","kind","values"] iI e2)
 (gE:MD K Q "stop" "Recorder.stop" (rM 14) ["self"] iJ e3)
 (gF:MD K Q "go" "Recorder.go" (rM 15) ["self"] iK e4)
 (gG:MD K Q "stopped" "Recorder.stopped" (rM 33) ["self"] iL e5)
 (gH:MD K Q "halted_by" "Recorder.halted_by" (rM 34) ["self"] iM e6)
 (cl:MD K Q "do" "Recorder.do" (rM 17) ["self","deed"] iN e7)
 (gI:MD K Q "counts" "Recorder.counts" (rM 29) ["self","lane"] iO e8)
 (j4:findIn K (.ref Q) "lane"=some (some (.ref dC)))
 (j5:isFn K (.ref dC)=true)
 (j6:K.lookup dC=some ⟨f8,fm,.func (fnOf "lane" "Recorder.lane" (dI (rM 2)) (dq (rM 2)) (bK (rM 2)) .none c9 da db cI ci dc),fF⟩)
 (j7:codeIn K ci "Recorder.lane"=true)
 (hH:keepIn K (.ref dC)=true)
 (gJ:∀(S:Setting)(x a b:ZI),peek K S (bindArgs (fnOf "lane" "Recorder.lane" (dI (rM 2)) (dq (rM 2)) (bK (rM 2)) .none c9 da db cI ci dc) ⟨[x,a],[("over",b)]⟩)=some ([("self",x),("name",a),("over",b)]:List (Str×Value)))
 (j8:findIn K (.ref Q) "kind"=some (some (.ref cx)))
 (j9:isFn K (.ref cx)=true)
 (ka:K.lookup cx=some ⟨f9,fn,.func (fnOf "kind" "Recorder.kind" (dI (rM 1)) (dq (rM 1)) (bK (rM 1)) (.ref cf) ga gb gc fo dd gd),fG⟩)
 (kb:codeIn K dd "Recorder.kind"=true)
 (hI:keepIn K (.ref cx)=true)
 (gK:K.lookup cf=some ⟨de,cJ,.seq #[.ref dO] fN,cQ⟩)
 (kd:findIn K (.ref Q) "halt"=some (some (.ref cy)))
 (ke:isFn K (.ref cy)=true)
 (kf:K.lookup cy=some ⟨gf,fp,.func (fnOf "halt" "Recorder.halt" (dI (rM 13)) (dq (rM 13)) (bK (rM 13)) (.ref b5) df dg dh cN cj di),fH⟩)
 (kg:codeIn K cj "Recorder.halt"=true)
 (hJ:keepIn K (.ref cy)=true)
 (gL:K.lookup b5=some ⟨dj,cO,.seq #[.none] fQ,cS⟩)
 (kh:∀(S:Setting)(x:ZI),peek K S (bindArgs (fnOf "halt" "Recorder.halt" (dI (rM 13)) (dq (rM 13)) (bK (rM 13)) (.ref b5) df dg dh cN cj di) ⟨[x],[]⟩)=some ([("self",x),("test",.none)]:List (Str×Value)))
 (gN:E≠qC)
 (gO:E≠qG)
 (gP:E≠qL)
 (dr:E≠qY)
 (gQ:E≠qX)
 (gR:E≠Q)
 (gS:qC≠qG)
 (gT:qC≠qL)
 (dt:qC≠qY)
 (gU:qC≠qX)
 (ki:qC≠Q)
 (gV:qG≠qL)
 (du:qG≠qY)
 (gW:qG≠qX)
 (kj:qG≠Q)
 (dv:qL≠qY)
 (gX:qL≠qX)
 (kk:qL≠Q)
 (gY:qY≠qX)
 (kl:qY≠Q)
 (gZ:qX≠Q)
 (g0:f "DEEDS"=some (.ref tD))
 (cm:f "do_tick"=some (.ref o))
 (ca:f "do_throw"=some (.ref h))
 (co:f "do_take"=some (.ref p))
 (b8:f "do_resize"=some (.ref g))
 (cb:f "do_sieve"=some (.ref i))
 (cd:f "do_tally"=some (.ref j))
 (ce:f "do_whole"=some (.ref n))
 (km:PyProof.Rows.KTD.tabLook pB (λb=>K.lookup b) tD [("kind",dx),("lane",dy),("tick",o),("claim",dH),("fill",dJ),("give",dK),("throw",h),("write",dz),("take",p),("resize",g),("sieve",i),("tally",j),("halt",dA),("stop",dB),("go",b4),("whole",n)]=true)
 (dw:f "ScribeError"=some (.ref qS))
 (g1:f "BadValue"=some (.ref qV))
 (g2:f "Missing"=some (.ref qM))
 (xS:XS K qS [qS] "ValueError" "ValueError.__new__")
 (xV:XS K qV [qV,qS] "ValueError" "ValueError.__new__")
 (xM:XS K qM [qM] "LookupError" "LookupError.__new__")
 (kN:findIn K (.ref qS) "__init__"=some (some (.ref cq)))
 (kn:K.lookup cq=some ⟨gg,fq,.func (fnOf "__init__" "ScribeError.__init__" (dI Qy) (dq Qy) (bK Qy) (.ref TS) gh gi gj fr dk gk),fJ⟩)
 (ko:codeIn K dk "ScribeError.__init__"=true)
 (hK:keepIn K (.ref cq)=true)
 (kq:K.lookup TS=some ⟨gl,fs,.seq #[ji,jj] iZ,fK⟩)
 (fc:findCls K (.type "ValueError") (.type "type") "__init__"=some (.val (.builtin "ValueError.__init__")))
 (sg:specialIn K (.ref qS) "__getattribute__"=some (some (.builtin "type.__getattribute__")))
 (kr:readsIn K qS (.type "type")=true)
 (ks:findCls K (.ref qS) (.type "type") "__init__"=some (.val (.ref cq)))
 (g3:f "Stopped"=some (.ref qT))
 (xT:XS K qT [qT,qS] "ValueError" "ValueError.__new__")
 (kt:takerIn K qT "word"=some none)
 (kO:findIn K (.ref qT) "__init__"=some (some (.ref cr)))
 (ku:K.lookup cr=some ⟨gm,ft,.func (fnOf "__init__" "Stopped.__init__" (dI lN) (dq lN) (bK lN) (.ref dP) gn gp gq fu dl gr),fL⟩)
 (kv:codeIn K dl "Stopped.__init__"=true)
 (kw:keepIn K (.ref cr)=true)
 (kx:findIn K (.ref qT) "__init__"=some (some (.ref cr)))
 (ky:isFn K (.ref cr)=true)
 (kz:K.lookup dP=some ⟨gs,fv,.seq #[jk] i0,fM⟩)
 (kA:mroIn K qT (.ref qV)=some false)
 (kB:mroIn K qT (.ref qS)=some true)
 (kC:findIn K (.ref qT) "__getattribute__"=some (some (.builtin "BaseException.__getattribute__")))
 (kD:findIn K (.ref qT) "__getattr__"=some none)
 (kE:hasDictIn K qT=true)
 (kF:findIn K (.ref qT) "word"=some none)
 (kG:mroIn K qT (.type "BaseException")=some true):
 ∃(fd:ZB)(sp:Sp),(∀(s:Zp)(u:ZI),BindsTo s fd ⟨[u],[]⟩ [("_law_script",u)])/\(∀T∈[Tm,Tt],K.lookup T=none/\∃c,L2.tabIn K c=some T)/\
  (∀(H:Hp)(a:Zl)(ns:List Int),ns.length<=63->(∀T∈[Tm,Tt],H T=some (.tbl #[]))->eY K H a (ns.map V.int)->sp [.ref a] H (λv _=>v=.bl true) λ_ _ _=>False)/\
  ∀d:Heap,K.In d->d.Ns mainGlobals f->(∀T∈[Tm,Tt],d.BuiltinsAt f T/\mainGlobals≠T)->cz l.prog w K f d dM 18 fa fd ["_law_script"] sp:=by
 cases iP.symm.trans jl;obtain⟨a3,aB,aV,aC,aD,aW,a4,a5,aX,a6,a7,M,N,aE,aY,r,a8,aF,_⟩:=zz;have T:Txt K f:=⟨a3,aB,aV,aC,aD,aW,a4,a5,aX,a6,a7,M⟩;have TE:Px K f:=⟨N,fc⟩;have bb:mR K "__init__" "ScribeError.__init__" Qy (.ref TS) cq _:=⟨⟨_,_,_,_,_,_,_,7,kn,ko⟩,hK⟩;have bz:=bb.binds (ps:=["self","words","word"]) (ds:=[]) kq rfl λkV az pm an aA ct s us hT hl=>(by rw[aa0]at hl|-;obtain⟨_,_,_,rfl⟩:=I_ hl;exact acg rfl hT rfl rfl rfl);have MS:Ua K f "ScribeError" qS cq:=⟨dw,sg,⟨_,kr,ks⟩,hK⟩;have bc:mR K "__init__" "Stopped.__init__" lN (.ref dP) cr _:=⟨⟨_,_,_,_,_,_,_,7,ku,kv⟩,kw⟩;have bA:=bc.binds (ps:=["self","words"]) (ds:=[]) kz rfl λkV az pm an aA ct s us hT hl=>(by rw[aa0]at hl|-;obtain⟨_,_,rfl⟩:=J3 hl;exact acg rfl hT rfl rfl rfl);have bB:JT K qT:=⟨xT.ok Hf,kt⟩;have TA:T7 K f qV qS qM:=⟨aD,g1,dw,g2,⟨_,_,xV.ok Hf⟩,⟨_,_,xS.ok Hf⟩,⟨_,_,xM.ok Vu⟩⟩;have bd:mR K "__init__" "Kind.__init__" (kM 0) (.ref dL) cp _:=⟨⟨_,_,_,_,_,_,_,7,jJ,jK⟩,jL⟩;have be:=bd.binds (ps:=["self","name","fields"]) (ds:=[]) jN rfl λkV az pm an aA ct s us hT hl=>Iz rfl kV az pm an aA ct s us hT hl;have bf:Mk K E cp:=⟨cK.ma,jI,jM,cK.kc⟩;obtain⟨aG,ag,_⟩:=cK.n;have bg:Mk K qC g5:=⟨cC.ma,dn.M.1,dn.M.2,cC.kc⟩;obtain⟨ah,aH,aI,ai,ap,_⟩:=cC.n;have aZ:Mk K qG g6:=⟨cG.ma,b9.M.1,b9.M.2,cG.kc⟩;obtain⟨aj,aJ,aL,_⟩:=cG.n;have bC:=iT (st:=lM 0) jR jS jT;have bh:Mk K qL cv:=⟨cL.ma,jQ,jU,cL.kc⟩;obtain⟨aM,aN,aO,aq,aP,aQ,O,ad,aa,z,aR,ak,_⟩:=cL.n;have bi:Mk K qY g7:=⟨cY.ma,cs.M.1,cs.M.2,cY.kc⟩;obtain⟨ae,au,aS,_⟩:=cY.n;have bj:Mk K qX g8:=⟨cX.ma,dp.M.1,dp.M.2,cX.kc⟩;obtain⟨av,aT,aw,al,ab,ax,af,_⟩:=cX.n;have bD:=iT (st:=rM 0) jZ j0 j1;have bE:Mk K Q cw:=⟨cR.ma,jY,j2,cR.kc⟩;obtain⟨ay,aU,am,_⟩:=cR.n;have bF:=iT (st:=rM 2) j6 j7 hH;have bl:mR K "kind" "Recorder.kind" (rM 1) (.ref cf) cx _:=⟨⟨_,_,_,_,_,_,_,7,ka,kb⟩,hI⟩;have bG:=bl.binds (ps:=["self","name","fields"]) (ds:=[]) gK rfl λkV az pm an aA ct s us hT hl=>(by rw[aa0]at hl|-;obtain⟨_,_,_,rfl⟩:=I_ hl;exact acg rfl hT rfl rfl rfl);have bm:mR K "halt" "Recorder.halt" (rM 13) (.ref b5) cy _:=⟨⟨_,_,_,_,_,_,_,7,kf,kg⟩,hJ⟩;have bH:=bm.binds (ps:=["self","test"]) (ds:=[]) gL rfl λkV az pm an aA ct s us hT hl=>(by rw[aa0]at hl|-;obtain⟨_,_,rfl⟩:=J3 hl;exact acg rfl hT rfl rfl rfl);refine⟨fnOf "law" "law" (dI (top 130)) (dq (top 130)) (bK (top 130)) .none cU cV cW cD (.ref cc) cZ,Hh K Tt,λs v=>.of_eq rfl,λT m=>by(rcases aag.mp m with e|m);exact e▸⟨jq,cu,jr⟩;exact(aal.mp m)▸⟨jn,cc,tb⟩,λH a ns hl hT hS=>⟨a,ns,8,hS,hl,K1 (hT _ (aai _ (aal.mpr rfl))),λ_=>rfl⟩,λd a9 b2 bx=>?_⟩;obtain⟨b1,hg⟩:=bx Tt (aai _ (aal.mpr rfl));have a0:tO f:=⟨⟨_,C⟩,⟨_,I⟩,⟨_,b7⟩⟩;have TL:Ia f:=⟨⟨_,D⟩,⟨_,Z⟩,⟨_,ar⟩,⟨_,bt⟩⟩;have bn:Pk f:=⟨⟨_,aK⟩,⟨_,J⟩⟩;have TT:Ut f:=⟨⟨_,ba⟩,⟨_,b3⟩⟩;have TB:Q0 K f tW tS:=⟨gA,gB,jG,jH⟩;have KC:KCls K f E:=⟨cK.c,aG,ag,cK.a⟩;have L:LZ K f ⟨E,qC,qG,qL⟩:=⟨⟨gN,gO,gP,gS,gT,gV⟩,KC,cC.c,cC.a,ah,aH,aI,ai,ap,cG.c,cG.a,aj,aJ,aL,cL.c,cL.a,aM,aN,aO,aq,aP,aQ,O,ad,aa,z,aR,ak⟩;have ac:TZ K f qY:=⟨cY.c,cY.a,ae,au,aS⟩;have q:SZ K f qX:=⟨cX.c,aY,cX.a,av,aT,aw,al,ab,ax,af⟩;have y:RZ K f Q:=⟨cR.c,cR.a,ay,aU,am⟩;have ne:yN ⟨E,qC,qG,qL⟩ qY qX:=⟨gQ,gU,gW,gX,gY⟩;have cn:Ul ⟨E,qC,qG,qL⟩ qY:=⟨dr.symm,dt.symm,du.symm,dv.symm⟩;have bo:=Kw jV;have bp:=Lr (P:=l.prog) (w:=w) (base:=d) bd T a0 KC DI hd jA;have bq:=Wk (P:=l.prog) (w:=w) (base:=d) dn.F L bf bp be dm (Ep dm.F T KC);have br:=Vg (P:=l.prog) (w:=w) (base:=d) bC L TL he hf aZ b9.F b9.b;have bI:=Ve (P:=l.prog) (w:=w) (base:=d) hv.F T L hw hs hx (U3 hx.F T L hw jW) aZ b9.F b9.b;have bJ:=TJ (P:=l.prog) (w:=w) (base:=d) hu.F T L hv bI jO bg bq dn.b;have a1:=Uj (P:=l.prog) (w:=w) (base:=d) dD.F L hs;have a2:=Uc (P:=l.prog) (w:=w) (base:=d) dE.F L dD a1;have bL:=Vc (P:=l.prog) (w:=w) (base:=d) hy.F L dD a1 dE a2;have bM:=S_ (P:=l.prog) (w:=w) (base:=d) hA.F L hy bL;have bN:=Tv (P:=l.prog) (w:=w) (base:=d) hz.F T r a8 L dE a2 jP;have bO:=Uz (P:=l.prog) (w:=w) (base:=d) hD.F L bh br bo ht (Vr ht.F L aZ b9.F b9.b hr (UW hr.F L bg bq dn.b));have bP:=Ub (P:=l.prog) (w:=w) (base:=d) hE.F L ac ⟨dv,du,dt,dr⟩ bi cs.F cs.b hD bO;have bu:=VP (P:=l.prog) (w:=w) (base:=d) dp.F q TL he hf;have bQ:=U4 (P:=l.prog) (w:=w) (base:=d) hG.F q ac ne bj dp.b bu hE bP;have bv:=QZ (P:=l.prog) (w:=w) (base:=d) gC.F T L ac hB (Ux hB.F L dD a1);have bR:=Wo (P:=l.prog) (w:=w) (base:=d) hm.F KC hq (Gk hq.F T r KC);have bS:=zc (P:=l.prog) (w:=w) (base:=d) (CX:=dM) bc TE bb bz MS;have bT:=Wd (P:=l.prog) (w:=w) (base:=d) hn.F L ac q ne cn dF hF hu bJ g3 bB kx ky bA bS;have bU:=Wf (P:=l.prog) (w:=w) (base:=d) ho.F T L ac q ne cn dF gC bv hz bN;have bV:=W9 (P:=l.prog) (w:=w) (base:=d) hp.F L ac q ne cn dF hF gC bv hC (Wu hC.F L dE a2) hA bM jE hm bR;have bw:=Qi (P:=l.prog) (w:=w) (base:=d) gu.F T a0 DI hd;have bW:Zo K f tD [("kind",dx),("lane",dy),("tick",o),("claim",dH),("fill",dJ),("give",dK),("throw",h),("write",dz),("take",p),("resize",g),("sieve",i),("tally",j),("halt",dA),("stop",dB),("go",b4),("whole",n)]:=⟨g0,km⟩;have ao:=Ue (P:=l.prog) (w:=w) (base:=d) (R:=Q) cl.F y q gR hG bQ jF bW;have bX:=V8 (P:=l.prog) (w:=w) (base:=d) hi T aF a0 TB DI jB jC jD 5 02;have bY:=Us (P:=l.prog) (w:=w) (base:=d) (cT:=0) hk.F hj (Uo hj.F TT hi bX);have d1:oH l.prog w K f d dy (JC ⟨E,qC,qG,qL⟩ qY qX K) false:=⟨⟨_,gw.b,by rw[aab aaG];exact⟨5,02,T6 gw.F T bn L ac q ne gu bw hh bh br bo bi cs.F cs.b⟩⟩,gw.F.kp⟩;have d2:oH l.prog w K f d dx (K4 ⟨E,qC,qG,qL⟩ qY qX K) false:=⟨⟨_,gv.b,by rw[aab aaG];exact⟨6,02,V5 gv.F T bn L q ne gu bw hh bf bp be⟩⟩,gv.F.kp⟩;have d3:oH l.prog w K f d dB (Ah ⟨E,qC,qG,qL⟩ qY qX K true) false:=⟨⟨_,gz.b,by rw[aab aaG];exact⟨1,02,Wc gz.F q ne⟩⟩,gz.F.kp⟩;have d4:oH l.prog w K f d b4 (Ah ⟨E,qC,qG,qL⟩ qY qX K false) false:=⟨⟨_,ck.b,by rw[aab aaG];exact⟨1,02,Rb ck.F q ne⟩⟩,ck.F.kp⟩;have d5:oH l.prog w K f d dA (Km ⟨E,qC,qG,qL⟩ qY qX K) false:=⟨⟨_,gy.b,by rw[aab aaG];exact⟨12,02,V6 gy.F q ne hk bY⟩⟩,gy.F.kp⟩;have d7:oH l.prog w K f d dz (Ku ⟨E,qC,qG,qL⟩ qY qX K qT) true:=⟨⟨_,gx.b,by rw[aac rfl];exact⟨10,02,Tc gx.F hn bT ho bU hp bV⟩⟩,gx.F.kp⟩;have BT:Rw K qT qV qS:=⟨kA,kB,⟨kC,kD,kE,kF,kG⟩⟩;have GA:=Rt (P:=l.prog) (w:=w) (base:=d) (CX:=dM) (k:=16) DA.F TA;have bZ:=K6 (P:=l.prog) (w:=w) (base:=d) hb.F T DP DO jv;have b0:=Ui (P:=l.prog) (w:=w) (base:=d) hc.F T aF DP DO jw jx jy jz;exact Q7 jm jo (NQ a9 tb) b1 hg T y BT DB DP DO DS hb bZ g9 (Lx g9.F T DP DO DW js jt) ha (Om ha.F hc b0) ju bE (Wb bD y q gZ bj dp.b bu) (Oq j3) ⟨j4,j5,hH⟩ (Fp bF y cl ao (by kernel_rfl) d1) (KR gJ) ⟨⟨j8,j9,hI⟩,bG⟩ (Io bl y cl ao (by kernel_rfl) d2) ⟨⟨kd,ke,hJ⟩,bH⟩ (QG kh) (.cons rfl .nil) (Ft bm y cl ao (by kernel_rfl) d5) ⟨gE.M,gE.b⟩ (Im gE.F y cl ao (by kernel_rfl) d3) ⟨gF.M,gF.b⟩ (Ov gF.F y cl ao (by kernel_rfl) d4) ⟨gI.M,gI.b⟩ (VH gI.F L y q ac dF jX) ⟨gD.M,gD.b⟩ (Ec gD.F y cl ao (by kernel_rfl) d7) ⟨gG.M,gG.b⟩ (PP gG.F y q) ⟨gH.M,gH.b⟩ (QQ gH.F y q) GA DA.mg DA.F.kp DA.b
end Cm
open PySem PySem.W PyProof.Rows
set_option maxRecDepth 100000 in
set_option maxHeartbeats 0 in
theorem PySem.Challenge.cw_lanescribe_k44_whole_a_halt_stops_at_onc_holds : PySem.Challenge.rw_lanescribe_k44_whole_a_halt_stops_at_onc.Holds := by
 w_on
 refine Kd.head ?hw 004 004 004 ?hc
 (case hw=>w_witness2)
 k_fill
 refine L2.Jb (l:=PySem.Challenge.rw_lanescribe_k44_whole_a_halt_stops_at_onc) (n:=63) (k:=18) (x:="_law_script") (CX:=λ_=>L2.dM) rfl 02 rfl ⟨8,02,02,8⟩ (λw h Y=>km_in_of Y) (λw h Y=>km_tabs_of Y) ?F (λ_ _ _ _ _ z=>z)
 case F=>
  intro w c d h a G b;apply Cm.RD b
  any_goals first|k_is|((with_reducible refine mg_of a G ?_);k_is)|((with_reducible show Cm.MD _ _ _ _ _ [_] _ _);exact Cm.md1 011 011 011 011 011 λ_ _ _ _ _ _ _=>rfl)|((with_reducible show Cm.MD _ _ _ _ _ [_,_] _ _);exact Cm.ZX 011 011 011 011 011 λ_ _ _ _ _ _ _ _=>rfl)|((with_reducible show Cm.MD _ _ _ _ _ [_,_,_] _ _);exact Cm.md3 011 011 011 011 011 λ_ _ _ _ _ _ _ _ _=>rfl)|((with_reducible show Cm.MD _ _ _ _ _ [_,_,_,_] _ _);exact Cm.ZZ 011 011 011 011 011 λ_ _ _ _ _ _ _ _ _ _=>rfl)|((with_reducible show L2.fj _ _ _ _ [_] _ _);exact Cm.df1 a G 011 011 011 011 λ_ _ _ _ _ _ _=>rfl)|((with_reducible show L2.fj _ _ _ _ [_,_] _ _);exact Cm.df2 a G 011 011 011 011 λ_ _ _ _ _ _ _ _=>rfl)|((with_reducible show L2.fj _ _ _ _ [_,_,_] _ _);exact Cm.df3 a G 011 011 011 011 λ_ _ _ _ _ _ _ _ _=>rfl)|((with_reducible show L2.fj _ _ _ _ [_,_,_,_] _ _);exact Cm.df4 a G 011 011 011 011 λ_ _ _ _ _ _ _ _ _ _=>rfl)|((with_reducible show Cm.CI _ _ _ _ _);exact Cm.ci a G 011 011 011 011 011 011 011 (by repeat first|exact trivial|refine⟨by k_is,?_⟩))|((with_reducible refine Cm.XS.mk ?_ ?_ ?_ ?_ ?_)<;>first|k_is|kernel_rfl)|(repeat first|exact trivial|refine⟨mg_none_of a G 011,?_⟩)|skip
  any_goals first|kernel_rfl|decide|(intros;kernel_rfl)|skip
