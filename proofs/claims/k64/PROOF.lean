import PyProof.Rows.All
import Wide.All
import OpenK.AllK
import Wide.FinOn
import KE.KNestM
import Lean
import PyProof.EqAt
import PyProof.EqKinds
import PyProof.TupleCall
import PyProof.StationsW
import PyProof.ExcBaseAll.ValueError
import PyProof.InstStoreFacts
import PyProof.RulesAs
import PyProof.RulesDel
import KE.KLam
import PyProof.ExcArgsOwn
import PyProof.AutoListH
import PyProof.StrWalks
import PyProof.StrBlockH
import PyProof.WalkInts
import PyProof.SeqI3
import PyProof.Rows.SetFrom
import PyProof.ZipIter
import KE.KTabLook
import PyProof.StrLaws
import KE.KIntText
import KE.KStrOpen
import PyProof.StrLawsTight
import PyProof.Rows.StrFit
import PyProof.Draws
import PyProof.EnumMake
import PyProof.StrCalls2
import PyProof.Rows.StrSplitJoin
import PyProof.CollectIter
import PyProof.StrBlock2
import PyProof.Rows.SortWalk
import PyProof.Rows.CallKwBuiltin
import KE.KMinBuiltin
import KE.KRevSl
import PyProof.DictItemsLoops
import PyProof.CollectWalk
import PyProof.ListRange
import KE.KSortAsk
import PyProof.SetRoads
import KE.KRevIter
import PyProof.FactsAll.range_2
import PyProof.IsRules
import PyProof.DictItems
import KE.KSortTup
import PyProof.DictWalks
import PyProof.ExcBaseAll.LookupError
import PySem.Challenge.RW_lanescribe_k64_missed_and_stopped_at_onc
abbrev Z0:=PySem.Addr
abbrev Z1:=PySem.Shared
abbrev Z2:=PySem.W.Frag
abbrev Z3:=PySem.FuncData
abbrev Z4:=PySem.Program
abbrev Z5:=PySem.World
abbrev Z6:=PySem.Value
abbrev Z7:=PySem.Heap
abbrev Z8:=PySem.Around
abbrev Z9:=PySem.Expr
abbrev Za:=PySem.Scope
abbrev Zb:=PySem.Value→PySem.Shared→Prop
abbrev Zc:=PySem.Str→Option PySem.Value
abbrev Zd:=List PySem.Str
abbrev Ze:=List PySem.Value
abbrev Zf:=Array PySem.Value
abbrev Zg:=Option PySem.Addr
abbrev Zh:=List PySem.Addr
abbrev Zi:=List (PySem.Addr×PySem.Obj)
abbrev Zj:=PySem.Result→PySem.Shared→Prop
abbrev Zk:=List (PySem.Str×PySem.Addr)
abbrev Zl:=List PySem.Expr
abbrev Zm:=Array (Option PySem.Value)
abbrev aaa:=@PySem.wpAny_bind
abbrev aab:=@PySem.wpAny_pure
abbrev aac:=@if_neg
abbrev aad:=@if_pos
abbrev aae:=@Nat.le_refl
abbrev aaf:=@List.mem_cons
abbrev aag:=@List.mem_cons_of_mem
abbrev aah:=@List.length_map
abbrev aai:=@List.mem_singleton
abbrev aaj:=@Nat.le_trans
abbrev aak:=@PySem.Heap.get?_push_of_some
abbrev aal:=@List.mem_append
abbrev aam:=@PySem.Heap.lt_size
abbrev aan:=@List.mem_cons_self
abbrev aao:=@List.length_append
abbrev aap:=@Nat.ne_of_lt
abbrev aaq:=@List.mem_of_getElem?
abbrev aar:=@List.mem_map
abbrev aas:=@Nat.lt_of_lt_of_le
abbrev aat:=@List.size_toArray
abbrev aau:=@List.getElem?_map
abbrev aav:=@List.mem_append_right
abbrev aaw:=@List.length_cons
abbrev aax:=@List.flatMap_cons
abbrev aay:=@PySem.Heap.get?_push_size
abbrev aaz:=@Bool.false_ne_true
abbrev aaA:=@Nat.zero_le
abbrev aaB:=@List.mem_iff_getElem?
abbrev aaC:=@Ne.symm
abbrev aaD:=@PySem.wpAny_field
abbrev aaE:=@List.map_cons
abbrev aaF:=@List.map_append
abbrev aaG:=@List.getElem?_eq_some_iff
abbrev aaH:=@PySem.wpAny_mono
abbrev aaI:=@List.mem_append_left
abbrev aaJ:=@True.intro
abbrev aaK:=@List.nodup_cons
abbrev aaL:=@List.getElem?_eq_getElem
abbrev aaM:=@congrArg
abbrev aaN:=@List.mem_flatMap
abbrev aaO:=@List.append_nil
abbrev aaP:=@Nat.lt_irrefl
abbrev aaQ:=@Option.some.inj
abbrev aaR:=@List.flatMap_append
abbrev aaS:=@beq_iff_eq
abbrev aaT:=@List.take_length
abbrev aaU:=@PySem.wpAny_newObj_type
abbrev aaV:=@PySem.Heap.size_push
abbrev aaW:=@PySem.PassesOwn.never
abbrev aaX:=@Nat.le_of_ble_eq_true
abbrev aaY:=@decide_eq_false
abbrev aaZ:=@PySem.Paired.length
abbrev aa0:=@PySem.F.plainAttrs_list
abbrev aa1:=@Bool.and_eq_true
abbrev aa2:=@PySem.wpAny_standAt
abbrev aa3:=@PySem.wpAny_call
abbrev aa4:=@PySem.wpAny_Call_Name_kw
abbrev aa5:=@PySem.mem_of_lookup
abbrev aa6:=@List.lookup_cons
abbrev aa7:=@PySem.F.slot_list_append
abbrev aa8:=@PySem.wpAny_setField_rec
abbrev aa9:=@PySem.wpAny_truthy_bool
abbrev aba:=@Nat.le_succ
abbrev abb:=@PySem.wpAny_holding
abbrev abc:=@PySem.wpAny_call_entry
abbrev abd:=@List.nodup_nil
abbrev abe:=@PySem.F.type_list_append
abbrev abf:=@List.take_add_one
abbrev abg:=@List.nodup_append
abbrev abh:=@PySem.wpAny_Name
abbrev abi:=@List.length_take
abbrev abj:=@Array.getElem?_eq_some_iff
abbrev abk:=@Option.map_eq_some_iff
abbrev abl:=@PySem.wpAny_rule
abbrev abm:=@PySem.Heap.get?_update_other
abbrev abn:=@List.length_nil
abbrev abo:=@Bool.false_eq_true
abbrev abp:=@List.not_mem_nil
abbrev abq:=@List.filter_append
abbrev abr:=@PySem.wpAny_passesOwn
abbrev abt:=@Nat.lt_of_le_of_lt
abbrev abu:=@PySem.wpAny_setField
abbrev abv:=@List.map_map
abbrev abw:=@PySem.Str.length_append
abbrev abx:=@beq_eq_false_iff_ne
abbrev aby:=@PySem.wpAny_execs_nil
abbrev abz:=@Nat.ne_of_gt
abbrev abA:=@List.of_mem_zip
abbrev abB:=@PyProof.Rows.slot_tuple_getitem
abbrev abC:=@List.find?_cons
abbrev abD:=@decide_eq_true
abbrev abE:=@List.forIn_cons
abbrev abF:=@PySem.W.kia_one
abbrev abG:=@PySem.W.kia_tup
abbrev abH:=@PySem.wpAny_seqItems
abbrev abI:=@PySem.Heap.get?_update_self
abbrev abJ:=@List.take_of_length_le
abbrev abK:=@Int.emod_nonneg
abbrev abL:=@Int.emod_lt_of_pos
abbrev abM:=@PySem.BindsTo.of_defaults
abbrev abN:=@List.zipWith_cons_cons
abbrev abO:=@List.filterMap_cons
abbrev abP:=@List.getElem?_set_self
abbrev abQ:=@List.getElem?_set_ne
abbrev abR:=@PySem.wpAny_loadPart
abbrev abS:=@Nat.le_of_eq
abbrev abT:=@List.length_drop
abbrev abU:=@List.any_cons
abbrev abV:=@And.intro
abbrev abW:=@List.drop_zero
abbrev abX:=@PySem.Obj.data_mapFields
abbrev abY:=@PySem.wpAny_loadPart_at
abbrev abZ:=@PySem.Heap.get?_update_ne
abbrev ab0:=@List.getElem?_set
abbrev ab1:=@Array.toList_append
abbrev ab2:=@Nat.le_add_right
abbrev ab3:=@Int.zero_add
abbrev ab4:=@PySem.F.plainAttrs_str
abbrev ab5:=@Int.le_trans
abbrev ab6:=@List.Sublist.refl
abbrev ab7:=@List.eraseIdx_sublist
abbrev ab8:=@List.mem_or_eq_of_mem_set
abbrev ab9:=@List.dropLast_cons₂
abbrev aca:=@Int.add_mul
abbrev acb:=@List.all_eq_true
abbrev acd:=@Sum.inr.inj
abbrev ace:=@List.mem_range
abbrev acf:=@PySem.wpAny_loadName_local
abbrev acg:=@PySem.wpAny_loadName_cell
abbrev ach:=@PyProof.Rows.callWith_type1
abbrev aci:=@Bool.eq_iff_iff
abbrev acj:=@Nat.lt_succ_self
abbrev ack:=@PySem.W.methodCall_KW
abbrev acl:=@List.getElem?_append_right
abbrev acm:=@List.length_replicate
abbrev acn:=@List.all_cons
abbrev aco:=@List.eraseIdx_cons_succ
abbrev acp:=@List.any_eq_true
abbrev acq:=@of_decide_eq_true
abbrev acr:=@Bool.not_eq_true
abbrev acs:=@PySem.F.slot_tuple_iterator_next
abbrev acu:=@List.cons_append
abbrev acv:=@PySem.F.slot_enumerate_next
abbrev acw:=@List.set_cons_succ
abbrev acx:=@List.map_set
abbrev acy:=@List.drop_eq_getElem_cons
abbrev acz:=@List.drop_length
abbrev acA:=@Int.natCast_add
abbrev acB:=@Int.one_mul
abbrev acC:=@PySem.Heap.get?_none_of_le
abbrev acD:=@PySem.wpAny_loadName_free
abbrev acE:=@Array.length_toList
abbrev acF:=@PySem.wpAny_pyIter_tuple
abbrev acG:=@List.any_eq_false
abbrev acH:=@PySem.W.plainGet_of
abbrev acI:=@PySem.Within.cons
abbrev acJ:=@PySem.Heap.Ns1.of_empty
abbrev acK:=@PySem.W.callWith_K
abbrev acL:=@PySem.W.cellsFrom_some
abbrev acM:=@List.take_sublist
abbrev acN:=@Int.toNat_natCast
abbrev acO:=@PySem.wpAny_sequenceKey
abbrev acP:=@PySem.Calls.callWith_builtin
abbrev acQ:=@Array.getElem?_toList
abbrev acR:=@Option.isSome_map
abbrev acS:=@beq_self_eq_true
abbrev acT:=@PySem.Obj.isFreed_of_fields
abbrev acU:=@bne_self_eq_false
abbrev acV:=@decide_eq_true_eq
abbrev acW:=@PySem.AutoSeq1.wpAny_loadPart'
abbrev acX:=@PySem.F.slot_dict_items
abbrev acY:=@PySem.F.slot_dict_values
abbrev acZ:=@List.length_pos_iff
abbrev ac0:=@List.set_cons_zero
abbrev ac1:=@List.append_assoc
abbrev ac2:=@List.mem_of_mem_drop
abbrev ac3:=@List.pairwise_cons
abbrev ac4:=@List.zipWith_append
abbrev ac5:=@PySem.PassesOwn.leaving
abbrev ac6:=@List.append_inj'
abbrev ac7:=@Int.fdiv_eq_ediv_of_nonneg
abbrev ac8:=@List.getElem?_append_left
abbrev ac9:=@List.eraseIdxIfInBounds_toArray
abbrev ada:=@List.getD_eq_getElem?_getD
abbrev adb:=@PySem.F.excBase_ValueError
abbrev adc:=@PySem.F.excBase_LookupError
set_option Elab.async false
set_option linter.all false
set_option maxRecDepth 1000000
set_option maxHeartbeats 0
namespace Kd
open PySem PySem.W
noncomputable section
theorem Ar {p q:Program} {a:List Str} {Xt:Shared->Bool} {c:Type} {g:Shared->c} {i:World->c} {N:Nat} (e:opening p=plainProg p.main.scope.names) (o:Nat.ble 600 N=true) (f:∀ s,fenceModules? p s=some s)
 (h:∀ (w:World) (b:OsState),(topFrom treeTable p w N ⟨boot_heap w.params,Array.mk [],boot_drawn,boot_toks,b⟩).map (fun s=>(openSeen q a (importedModules p.main.body) Xt true s,g s))=some (openGood q a,i w)):LeftO p q a Xt g i N:=fun w=>by
 obtain ⟨⟨j,l,d,k,b⟩,m,n⟩:=abk.mp (boot_open e o f w);obtain ⟨rfl,rfl,rfl,rfl⟩:j=boot_heap w.params/\l=Array.mk []/\d=boot_drawn/\k=boot_toks:=by simpa using n
 unfold openEnds;rw [m];exact h w b
noncomputable abbrev u (x:String):Str:=Str.ofString x
noncomputable abbrev vs (x:String) (t:Nat):Value:=.str (Str.ofString x) t
noncomputable abbrev vi (x:Int) (t:Nat):Value:=.int x t
noncomputable abbrev vr (x:Nat):Value:=.ref x
noncomputable abbrev vt (x:String):Value:=.type x
noncomputable abbrev vn:Value:=.none
noncomputable abbrev vb:Value:=.bool true
noncomputable abbrev vf (t:Nat):Value:=.str (Str.ofString "/claim/cut.py") t
noncomputable abbrev ot (x:Array Value):Obj:={ cls:=.type "tuple",data:=Data.seq x }
noncomputable abbrev oc (x:Array Value):Obj:={ cls:=.type "code",data:=Data.fields x }
noncomputable abbrev of (n q:String) (a:Arguments) (b:List Stmt) (s:Scope) (d m c:Value):Obj:={ cls:=.type "function",data:=Data.func { name:=Str.ofString n,qualname:=Str.ofString q,params:=a,body:=FuncBody.stmts b,scope:=s,globals:=3,closure:=[],defaults:=d,kwdefaults:=.none,pyModule:=m,code:=c } }
noncomputable abbrev de (P:Params) (x:String) (t:Nat) (v:Value):DictEntry:={ hash:=PyData.keyHash P (Str.ofString x),key:=.str (Str.ofString x) t,val:=v }
noncomputable def tp (i:Nat):Stmt:=PySem.Challenge.pw_lanescribe_k64_missed_and_stopped_at_onc.main.body.getD i (.Pass ⟨0,0,0,0⟩)
noncomputable def meth (i j:Nat):Stmt:=match tp i with
 |.ClassDef _ _ _ body _ _ _ _ _ _ _=>body.getD j (.Pass ⟨0,0,0,0⟩)
 |_=>.Pass ⟨0,0,0,0⟩
noncomputable def dA (s:Stmt):Arguments:=match s with
 |.FunctionDef _ a _ _ _ _ _ _ _ _=>a
 |_=>{ posonlyargs:=[],args:=[],vararg:=none,kwonlyargs:=[],kw_defaults:=[],kwarg:=none,defaults:=[] }
noncomputable def dB (s:Stmt):List Stmt:=match s with
 |.FunctionDef _ _ b _ _ _ _ _ _ _=>b
 |_=>[]
noncomputable def dS (s:Stmt):Scope:=match s with
 |.FunctionDef _ _ _ _ _ _ sc _ _ _=>sc
 |_=>{ kind:=.function,names:=[],isGenerator:=false,isCoroutine:=false }
abbrev TA (i:Nat):Arguments:=dA (tp i)
abbrev TB (i:Nat):List Stmt:=dB (tp i)
abbrev TS (i:Nat):Scope:=dS (tp i)
abbrev MA (i j:Nat):Arguments:=dA (meth i j)
abbrev MB (i j:Nat):List Stmt:=dB (meth i j)
abbrev MS (i j:Nat):Scope:=dS (meth i j)
noncomputable abbrev og (n q:String) (a:Arguments) (b:List Stmt) (s:Scope):Obj:={ cls:=.none,data:=Data.func { name:=Str.ofString n,qualname:=Str.ofString q,params:=a,body:=FuncBody.stmts b,scope:=s,globals:=0,closure:=[],defaults:=.none,kwdefaults:=.none } }
abbrev gt (n:String) (i:Nat):Obj:=og n n (TA i) (TB i) (TS i)
abbrev gm (n q:String) (i j:Nat):Obj:=og n q (MA i j) (MB i j) (MS i j)
abbrev ft (n:String) (i:Nat):Value->Value->Value->Obj:=of n n (TA i) (TB i) (TS i)
abbrev fm (n q:String) (i j:Nat):Value->Value->Value->Obj:=of n q (MA i j) (MB i j) (MS i j)
noncomputable abbrev oq (n:String) (a:Nat) (q:String) (b c:Nat) (l k:Int) (r s:Nat) (x y z:Value) (t:Int) (d:Nat):Obj:=oc #[vs n a,vs q b,vf c,vi l 0,vi k 0,vi 0 0,vi 0 0,vi 3 0,vr r,vb,vi 181 0,vr s,vn,x,y,z,vi t 0,vi l 0,vf d]
abbrev ok (n:String) (a b c:Nat) (l k:Int) (r s:Nat) (x y z:Value) (t:Int) (d:Nat):Obj:=oq n a n b c l k r s x y z t d
abbrev z1:Value:=vs "lanescribe.errors" 194
abbrev z2:Value:=vs "lanescribe.lanes" 936
abbrev z3:Value:=vs "lanescribe.recorder" 1879
abbrev z4:Value:=vs "lanescribe.stand" 1527
abbrev z5:Value:=vs "lanescribe.kinds" 708
abbrev z6:Value:=vs "law_lanescribe_k64_missed_and_stopped_at_onc" 2216
abbrev z7:Value:=vs "lanescribe.tallies" 1439
abbrev z8:Value:=vs "lanescribe.clocks" 846
abbrev z9:Value:=vs "lanescribe.sieve" 1353
abbrev T_:Value:=vs "lanescribe.merge" 1317
abbrev Uc:Value:=vs "ScribeError" 204
abbrev Vz:Value:=vs "ScribeError" 196
noncomputable def nm (t:Nat) (l:List String):List Value:=List.rec (fun _=>[]) (fun x _ a t=>.str (Str.ofString x) t::a (t+1)) l t
abbrev on (t:Nat) (l:List String):Obj:=ot ⟨nm t l⟩
noncomputable def lm (c:Nat) (l:List (Nat×Nat)):List Value:=List.rec [] (fun x _ a=>.int x.1 0::.int c 0::.ref x.2::a) l
abbrev ol (c:Nat) (l:List (Nat×Nat)):Obj:={ cls:=.none,data:=Data.fields ⟨lm c l⟩ }
abbrev od (n:Nat) (l:List DictEntry):Obj:={ cls:=.type "dict",data:=Data.dict ⟨l⟩ n }
abbrev dr (P:Params) (x:String) (t a:Nat):DictEntry:=de P x t (.ref a)
abbrev dn (P:Params) (x:String) (t:Nat):DictEntry:=de P x t .none
noncomputable def dl (P:Params) (l:List (String×Nat×Nat)) (z:List DictEntry):List DictEntry:=List.rec z (fun x _ a=>dr P x.1 x.2.1 x.2.2::a) l
noncomputable def r38 (P:Params) (a b c:Nat):Obj:=od 1 [de P "most" a (vi b c)]
noncomputable def r39 (P:Params) (a:Nat) (b:Value) (c d e:Nat) (f:String) (g:Nat) (h:String) (i:Nat) (j:String) (k:Nat) (l m:String) (n o:Nat):Obj:=od 4 [de P "__module__" a b,de P "__firstlineno__" (a+4) (vi c (a+3)),dr P "__init__" d e,dr P f (a+21) g,dr P h i (g+7),dr P j k (g+14),dr P l (a+43) (e+26),dr P m n o,dr P "__static_attributes__" (i+28) (o+1),dr P "__dict__" (i+30) (o+4),dr P "__weakref__" (i+32) (o+5),dn P "__doc__" (i+33)]
noncomputable def r1 (a b:String) (c d e f g h i:Nat) (t:List Obj):List Obj:=gm a b c d::oq a e b (e+1) (e+2) f g h (h+1) (vr (h+2)) (vr (h+3)) (vr (h+4)) i (i+1)::t
noncomputable def r2 (P:Params) (a b c d e:Nat) (f:String) (g:Nat) (h:String) (i:Nat) (j:String) (t:List Obj):List Obj:=od 2 [de P "__module__" (a+7) z1,de P "__firstlineno__" (a+11) (vi b (a+10)),dr P "__init__" c d,dr P "__static_attributes__" e (d+1),dn P "__doc__" (e+1)]::{cls:=vt "type",data:=Data.cls {name:=u f,bases:=[vr g],mro:=[vr (d+3),vr g,vt h,vt "Exception",vt "BaseException",vt "object"],ns:=(d+2),qualname:=u f},slots:=#[some (vr i),none,some (vs f a),some (vs f (a+8)),some (Value.builtin j),some (vb)]}::t
noncomputable def r3  (t:List Obj):List Obj:=ot #[]::{cls:=vn,data:=Data.fields #[]}::t
noncomputable def r4 (a:String) (b c d:Nat) (e:Value) (t:List Obj):List Obj:=oc #[vs a b,vs a (b+1),vf (b+2),vi c 0,vi 0 0,vi 0 0,vi 0 0,vi 0 0,vr (d+1),Value.bool false,vi 181 0,vr (d+2),vn,vn,vn,vn,vi (b+3) 0,vi c 0,vf (b+4)]::{cls:=vt "frame",slots:=#[some (vr (d+3)),some (vr 3),some (vr d),none,some e,none,some (vr 0)]}::t
noncomputable def r5 (P:Params) (a:Nat) (b:String) (c d e f:Nat) (t:List Obj):List Obj:={cls:=vt "builtin_function_or_method",data:=Data.fields #[Value.builtin "type.__prepare__",vt "type"]}::od 5 [de P "__module__" a z1,de P "__qualname__" (a+2) (vs b (a+1)),de P "__firstlineno__" (a+4) (vi c (a+3)),dr P "__init__" d e,dr P "__static_attributes__" f (e+1)]::t
noncomputable def r6 (a:Nat) (t:List Obj):List Obj:={cls:=vt "super",data:=Data.fields #[vr a,vr a,vr a]}::{cls:=vt "builtin_function_or_method",data:=Data.fields #[Value.builtin "object.__init_subclass__",vr a]}::t
noncomputable def r9 (a:String) (b c d:Nat) (t:List Obj):List Obj:={cls:=vt "type",data:=Data.cls {name:=u a,bases:=[vt "object"],mro:=[vr (b+1),vt "object"],ns:=b,qualname:=u a},slots:=#[none,none,some (vs a c),some (vs a (c+8)),some (Value.builtin "object.__new__"),some (vb)]}::{cls:=vt "getset_descriptor",data:=Data.fields #[vs "__dict__" d,vr (b+1),Value.builtin "function.__dict__",Value.builtin "function.__dict__#set"]}::t
noncomputable def r11 (a b:String) (c d e f g h i:Nat) (j:Value) (t:List Obj):List Obj:=r1 a b c d e f g (h+1) i<|fm a b c d (vr h) j (vr (h+6))::t
noncomputable def r12 (a b:Nat) (t:List Obj):List Obj:={cls:=vt "getset_descriptor",data:=Data.fields #[vs "__weakref__" a,vr b,Value.builtin "ExceptionGroup.__weakref__",vn]}::(r6 b<|t)
noncomputable def r16  (t:List Obj):List Obj:=ot #[]::{cls:=vt "builtin_function_or_method",data:=Data.fields #[Value.builtin "type.__prepare__",vt "type"]}::t
noncomputable def r17 (a:Nat) (b:List String) (t:List Obj):List Obj:=r3<|on a b::ot #[]::t
noncomputable def r19 (a:Nat) (b:List String) (c d:String) (e f g h i j:Nat) (k:Value) (t:List Obj):List Obj:=r17 (a+3) b<|r1 c d e f a g h i j<|fm c d e f vn k (vr (i+5))::t
noncomputable def r20 (a:Nat) (b:List String) (c d:String) (e f g h i j:Nat) (k:Value) (l:List String) (m n:String) (o p q:Nat) (t:List Obj):List Obj:=r19 a b c d e f g h i j k<|r19 (j+3) l m n e (f+1) o p (i+7) q k<|t
noncomputable def r22 (a b:String) (c d e f g h:Nat) (i:Value) (t:List Obj):List Obj:=gm a b c d::oq a e b (e+1) (e+2) f g h (h+1) vn vn (vr (h+2)) (e+3) (e+4)::fm a b c d vn i (vr (h+3))::t
noncomputable def r23 (a:Nat) (b:List String) (c:String) (d e f g h:Nat) (i:Value) (t:List Obj):List Obj:=r17 (a+3) b<|gt c d::ok c a (a+1) (a+2) e f g (g+1) (vr (g+2)) (vr (g+3)) (vr (g+4)) h (h+1)::ft c d vn i (vr (g+5))::t
noncomputable def r26 (a:String) (b c d e f:Nat) (g:Value) (t:List Obj):List Obj:=oc #[vs a b,vs a (b+1),vf (b+2),vi c 0,vi 2 0,vi 0 0,vi 1 0,vi 3 0,vr (d+1),vb,vi 181 0,vr (d+2),vn,vr (d+3),vr (d+4),vr (d+5),vi e 0,vi c 0,vf (e+1)]::{cls:=vt "function",data:=Data.func {name:=u a,qualname:=u a,params:=TA f,body:=FuncBody.stmts (TB f),scope:=TS f,globals:=3,closure:=[],defaults:=vn,kwdefaults:=vr d,pyModule:=g,code:=vr (d+6)}}::t
noncomputable def r27 (a:List (Nat×Nat)) (t:List Obj):List Obj:=ot #[]::ol 4 a::t
noncomputable def r28 (a b:String) (c d e f g h i j:Nat) (k:Value) (t:List Obj):List Obj:=gm a b c d::oc #[vs a e,vs b (e+1),vf (e+2),vi f 0,vi g 0,vi 0 0,vi h 0,vi 3 0,vr (i+1),vb,vi 181 0,vr (i+2),vn,vr (i+3),vr (i+4),vr (i+5),vi j 0,vi f 0,vf (j+1)]::{cls:=vt "function",data:=Data.func {name:=u a,qualname:=u b,params:=MA c d,body:=FuncBody.stmts (MB c d),scope:=MS c d,globals:=3,closure:=[],defaults:=vn,kwdefaults:=vr i,pyModule:=k,code:=vr (i+6)}}::t
noncomputable def r29 (P:Params) (a b c:Nat) (t:List Obj):List Obj:=on (a+16) ["word"]::od 3 [de P "__module__" a z1,de P "__firstlineno__" (a+4) (vi b (a+3)),dr P "__init__" (a+15) c,dr P "__static_attributes__" (a+17) (c+1),dr P "__weakref__" (a+19) (c+4),dn P "__doc__" (a+20)]::t
noncomputable def r30 (P:Params) (a b:Nat) (c:String) (d e f g:Nat) (t:List Obj):List Obj:=ot #[vr a]::(r5 P b c d e f g<|t)
noncomputable def r32 (P:Params) (a:String) (b c d:Nat) (e:String) (f g:Nat) (h i:String) (t:List Obj):List Obj:=r4 a (b+2) c (d+2) z1<|on (b+12) [""]::(r17 (b+16) ["self","words"]<|r11 "__init__" e f 0 (b+13) (c+2) 2 (d+7) (b+18) z1<|ot #[]::(r2 P b c (b+20) (d+14) (b+21) a g h d i<|t))
noncomputable def r33 (a:String) (b c d e f:Nat) (g:Value) (t:List Obj):List Obj:=gt a b::ok a c (c+1) (c+2) d e f (f+1) vn vn (vr (f+2)) (c+3) (c+4)::ft a b vn g (vr (f+3))::t
noncomputable def r34 (P:Params) (a:Nat) (b:Value) (c d e:Nat) (f:String) (g:Nat) (h:String) (t:List Obj):List Obj:=od 4 [de P "__module__" (a+7) b,de P "__firstlineno__" (a+11) (vi c (a+10)),dr P "__init__" d e,dr P f (d+8) (e+7),dr P "twin" (d+16) (e+14),dr P "__static_attributes__" g (e+15),dr P "__dict__" (g+2) (e+18),dr P "__weakref__" (g+4) (e+19),dn P "__doc__" (g+5)]::(r9 h (e+16) a (g+1)<|t)
noncomputable def r35 (P:Params) (a:Nat) (b:Value) (c:String) (d e f:Nat) (g:String) (h:Nat) (t:List Obj):List Obj:=r16<|od 7 [de P "__module__" a b,de P "__qualname__" (a+2) (vs c (a+1)),de P "__firstlineno__" (a+4) (vi d (a+3)),dr P "__init__" e f,dr P g (e+8) (f+7),dr P "twin" (e+16) (f+14),dr P "__static_attributes__" h (f+15)]::t
noncomputable def r36 (P:Params) (a b c:Nat) (d:String) (e f g:Nat) (t:List Obj):List Obj:=r6 a<|r30 P b c d e (c+13) f g<|t
noncomputable def r37 (P:Params) (a:String) (b c d:Nat) (e:String) (f g:Nat) (h i j:String) (t:List Obj):List Obj:=r32 P a b c d e f g h i<|r36 P (d+17) g (b+32) j (c+4) (d+34) (b+46)<|t
noncomputable def xn (P:Params) (t:List DictEntry):List DictEntry:=dn P "__doc__" 166::dn P "__package__" 167::de P "__loader__" 168 (Value.builtin "__main__.__loader__#opaque")::dn P "__spec__" 169::(dl P [("__annotations__",170,6),("__builtins__",171,4)]<|de P "__file__" 173 (vf 172)::dn P "__cached__" 174::(dl P [("_wall",193,21),("ScribeError",225,39),("BadName",250,60),("BadBounds",275,80),("BadTest",300,100),("BadSize",325,120),("BadTime",350,140),("BadKeys",375,160)]<|t))
noncomputable def sZ (P:Params) (t:List DictEntry):List DictEntry:=dl P [("BadTie",400,180),("BadCause",425,200),("Taken",450,220),("Full",475,240),("NotTop",500,260),("Stopped",525,280),("Busy",550,300)]<|t
noncomputable def vC (P:Params) (t:List DictEntry):List DictEntry:=dl P [("BadValue",575,319),("Broken",602,338),("Missing",632,358),("NoLane",657,379),("NoKind",682,399),("NoTicket",707,419)]<|de P "LIMIT" 711 (vi 999999 710)::de P "MOST_LETTERS" 713 (vi 8 712)::de P "MOST_FIELDS" 715 (vi 4 714)::dr P "is_name" 722 428::t
noncomputable def yQ (P:Params) (t:List DictEntry):List DictEntry:=dl P [("need_name",729,435),("need_fields",740,442),("bounds_text",746,447),("Kind",845,520)]<|de P "MOST_AMOUNT" 849 (vi 99999 848)::de P "MOST_LANES" 851 (vi 6 850)::de P "HIGHEST_MOST" 855 (vi 1000000000000 854)::de P "GROUND" 858 (vi (-1) 857)::(dl P [("need_lanes",865,531),("need_ties",876,538),("need_most",883,545),("need_all",892,552),("bounds",898,557),("raised",904,562),("amounts",911,568),("ring",924,576),("ring_behind",935,583)]<|de P "PAGES" 939 (vi 4 938)::de P "ROOM" 941 (vi 8 940)::de P "FEWEST_PAGES" 943 (vi 2 942)::de P "MOST_PAGES" 945 (vi 16 944)::de P "LEAST_ROOM" 947 (vi 5 946)::de P "MOST_ROOM" 949 (vi 12 948)::(dl P [("need_pages",956,590),("need_room",963,597),("told_from",973,604),("place_behind",982,611),("Claim",1033,642),("Page",1081,678)]<|t))
noncomputable def En (P:Params) (t:List DictEntry):List DictEntry:=dl P [("Lane",1316,853),("need_cause",1328,864),("ties_of",1334,869),("merged",1340,874),("ordered",1352,882)]<|de P "MOST_PARTS" 1356 (vi 15 1355)::de P "MOST_DEEP" 1358 (vi 5 1357)::(dl P [("WITHIN",1368,883),("SIGN_OF",1375,884),("is_word",1382,891),("is_number",1389,898),("is_leaf",1397,905),("count_parts",1403,910),("is_test",1410,917),("need_test",1417,924),("passes",1427,931),("passes_leaf",1438,938)]<|de P "MOST_KEYS" 1442 (vi 16 1441)::t)
noncomputable def K6 (P:Params) (t:List DictEntry):List DictEntry:=de P "KEYS_LIMIT" 1444 (vi 64 1443)::de P "MOST_NAMED" 1446 (vi 4 1445)::(dl P [("need_keys",1455,945),("Tally",1526,996)]<|de P "MOST_KINDS" 1530 (vi 8 1529)::de P "MOST_TRACKS" 1532 (vi 6 1531)::de P "MOST_TALLIES" 1534 (vi 4 1533)::(dl P [("need_new",1542,1007),("need_fewer",1550,1014),("Track",1597,1045),("Stand",1669,1097),("do_kind",1679,1108),("do_lane",1689,1115),("do_tick",1700,1122),("do_claim",1712,1129),("do_fill",1723,1136),("do_give",1738,1143),("do_throw",1747,1150),("do_write",1758,1157),("do_take",1766,1164),("do_resize",1776,1171)]<|t))
noncomputable def J6 (t:List (Nat×Nat)):List (Nat×Nat):=(1,20)::(5,27)::(10,48)::(14,68)::(18,88)::(22,108)::(26,128)::(30,148)::(34,168)::(38,188)::(42,208)::(46,228)::(50,248)::(54,268)::(58,288)::(62,308)::(67,327)::(73,346)::(78,367)::(82,387)::(86,407)::(94,427)::(96,434)::(99,441)::(108,446)::(110,453)::(155,530)::(158,537)::(164,544)::(167,551)::(171,556)::(174,561)::(188,567)::(192,575)::(196,582)::(210,589)::(213,596)::(216,603)::(225,610)::(229,617)::(246,652)::t
noncomputable def Fg (t:List (Nat×Nat)):List (Nat×Nat):=(265,688)::(424,863)::(429,868)::(433,873)::(438,881)::(450,890)::(452,897)::(454,904)::(461,909)::(470,916)::(472,923)::(475,930)::(484,937)::t
noncomputable def JR (t:List (Nat×Nat)):List (Nat×Nat):=(498,944)::(504,951)::(547,1006)::(551,1013)::(554,1020)::(572,1055)::(609,1107)::(614,1114)::(619,1121)::(625,1128)::(632,1135)::(636,1142)::(650,1149)::(653,1156)::(659,1163)::(661,1170)::t
noncomputable def o1:Obj:={cls:=vn,data:=Data.fields #[]}
noncomputable def o4 (P:Params):Obj:=od 17 (de P "__name__" 165 z1::(xn P<|[]))
noncomputable def o5:Obj:=ol 0 [(1,20),(5,27),(10,48),(14,68),(18,88),(22,108),(26,128),(30,148)]
noncomputable def Xx:Obj:={cls:=vt "type",data:=Data.cls {name:=u "ScribeError",bases:=[vt "ValueError"],mro:=[vr 39,vt "ValueError",vt "Exception",vt "BaseException",vt "object"],ns:=38,qualname:=u "ScribeError",subclasses:=[vr 60,vr 80,vr 100,vr 120,vr 140,vr 160]},slots:=#[some (vr 22),none,some Vz,some Uc,some (Value.builtin "ValueError.__new__"),some (vb)]}
noncomputable def VJ (P:Params):Obj:=od 24 (de P "__name__" 165 z1::(xn P<|sZ P<|[]))
noncomputable def Ww:Obj:=ol 0 [(1,20),(5,27),(10,48),(14,68),(18,88),(22,108),(26,128),(30,148),(34,168),(38,188),(42,208),(46,228),(50,248),(54,268),(58,288)]
noncomputable def U_:Obj:={cls:=vt "type",data:=Data.cls {name:=u "ScribeError",bases:=[vt "ValueError"],mro:=[vr 39,vt "ValueError",vt "Exception",vt "BaseException",vt "object"],ns:=38,qualname:=u "ScribeError",subclasses:=[vr 60,vr 80,vr 100,vr 120,vr 140,vr 160,vr 180,vr 200,vr 220,vr 240,vr 260,vr 280,vr 300]},slots:=#[some (vr 22),none,some Vz,some Uc,some (Value.builtin "ValueError.__new__"),some (vb)]}
noncomputable def o200 (P:Params):Obj:=od 34 (de P "__name__" 165 z5::(xn P<|sZ P<|vC P<|[]))
noncomputable def Wg:Obj:=ol 0 [(1,20),(5,27),(10,48),(14,68),(18,88),(22,108),(26,128),(30,148),(34,168),(38,188),(42,208),(46,228),(50,248),(54,268),(58,288),(62,308),(67,327),(73,346),(78,367),(82,387),(86,407),(94,427)]
noncomputable def x_:Obj:={cls:=vt "type",data:=Data.cls {name:=u "ScribeError",bases:=[vt "ValueError"],mro:=[vr 39,vt "ValueError",vt "Exception",vt "BaseException",vt "object"],ns:=38,qualname:=u "ScribeError",subclasses:=[vr 60,vr 80,vr 100,vr 120,vr 140,vr 160,vr 180,vr 200,vr 220,vr 240,vr 260,vr 280,vr 300,vr 319,vr 338]},slots:=#[some (vr 22),none,some Vz,some Uc,some (Value.builtin "ValueError.__new__"),some (vb)]}
noncomputable def Ve (P:Params):Obj:=od 63 (de P "__name__" 165 z2::(xn P<|sZ P<|vC P<|yQ P<|[]))
noncomputable def Wc:Obj:=ol 0 (J6<|[])
noncomputable def W8 (P:Params):Obj:=od 81 (de P "__name__" 165 z7::(xn P<|sZ P<|vC P<|yQ P<|En P<|[]))
noncomputable def Vq:Obj:=ol 0 (J6<|Fg<|[])
noncomputable def Wi (P:Params):Obj:=od 102 (de P "__name__" 165 z4::(xn P<|sZ P<|vC P<|yQ P<|En P<|K6 P<|[]))
noncomputable def Uu:Obj:=ol 0 (J6<|Fg<|JR<|[])
noncomputable def Ly (P:Params):Obj:=od 121 (de P "__name__" 165 z6::(xn P<|sZ P<|vC P<|yQ P<|En P<|K6 P<|dr P "do_sieve" 1787 1178::dr P "do_tally" 1799 1185::dr P "do_halt" 1808 1192::dr P "do_stop" 1816 1199::dr P "do_go" 1824 1206::dr P "do_whole" 1836 1213::dr P "DEEDS" 1869 1214::dr P "perform" 1878 1221::dr P "Recorder" 2215 1500::dr P "_law_begin" 2226 1511::dr P "_law_pick" 2237 1518::dr P "_law_of" 2245 1525::dr P "_law_same" 2251 1530::dr P "_law_word" 2257 1535::dr P "_law_words" 2269 1542::dr P "_law_ask" 2279 1549::dr P "_law_small_fields" 2290 1556::dr P "_law_cast" 2296 1561::dr P "law" 2302 1566::[]))
noncomputable def Lh:Obj:=ol 0 (J6<|Fg<|JR<|(664,1177)::(669,1184)::(675,1191)::(680,1198)::(682,1205)::(684,1212)::(693,1220)::(697,1227)::(825,1510)::(830,1517)::(845,1524)::(847,1529)::(857,1534)::(863,1541)::(872,1548)::(884,1555)::(891,1560)::(899,1565)::[])
noncomputable def k2:Obj:={cls:=vn,data:=Data.dict #[]}
noncomputable def ql (P:Params) (b c a:Obj) (t:List Obj):List Obj:=boot_o_0 P::boot_o_1 P::b::c::boot_o_4 P::boot_o_5 P::boot_o_6 P::boot_o_7 P::boot_o_8 P::boot_o_9 P::boot_o_10 P::ot #[]::a::oc #[vs "<module>" 182,vs "<module>" 183,vf 184,vi 1 0,vi 0 0,vi 0 0,vi 0 0,vi 0 0,vr 11,Value.bool false,vi 181 0,vr 12,vn,vn,vn,vn,vi 185 0,vi 1 0,vf 186]::{cls:=vt "frame",slots:=#[some (vr 13),some (vr 3),some (vr 3),none,some (vs "__main__" 164),none,some (vr 0)]}::t
noncomputable def uw (P:Params) (a:Obj) (t:List Obj):List Obj:=r17 190 ["k"]<|gt "_wall" 0::ok "_wall" 187 188 189 1 1 15 16 (vr 17) (vr 18) (vr 19) 191 192::ft "_wall" 0 vn (vs "__main__" 164) (vr 20)::ot #[vt "ValueError"]::{cls:=vt "builtin_function_or_method",data:=Data.fields #[Value.builtin "type.__prepare__",vt "type"]}::od 5 [de P "__module__" 203 z1,de P "__qualname__" 205 Uc,de P "__firstlineno__" 207 (vi 5 206),dr P "__init__" 218 36,dr P "__static_attributes__" 220 37]::(r27 [(7,35)]<|r4 "ScribeError" 198 5 24 z1<|on 208 ["","scribeerror"]::(r17 213 ["self","words","word"]<|r11 "__init__" "ScribeError.__init__" 2 0 210 7 3 29 216 z1<|r29 P 203 5 36<|a::(r12 221 39<|r30 P 39 233 "BadName" 10 246 57 247<|r27 [(12,56)]<|t)))
noncomputable def uA (P:Params) (t:List Obj):List Obj:=r37 P "BadName" 226 10 43 "BadName.__init__" 3 39 "ValueError" "ValueError.__new__" "BadBounds"<|r27 [(16,76)]<|r37 P "BadBounds" 251 14 63 "BadBounds.__init__" 4 39 "ValueError" "ValueError.__new__" "BadTest"<|r27 [(20,96)]<|t
noncomputable def uG (P:Params) (t:List Obj):List Obj:=r37 P "BadTest" 276 18 83 "BadTest.__init__" 5 39 "ValueError" "ValueError.__new__" "BadSize"<|r27 [(24,116)]<|r37 P "BadSize" 301 22 103 "BadSize.__init__" 6 39 "ValueError" "ValueError.__new__" "BadTime"<|r27 [(28,136)]<|t
noncomputable def ut (P:Params) (t:List Obj):List Obj:=r37 P "BadTime" 326 26 123 "BadTime.__init__" 7 39 "ValueError" "ValueError.__new__" "BadKeys"<|r27 [(32,156)]<|r32 P "BadKeys" 351 30 143 "BadKeys.__init__" 8 39 "ValueError" "ValueError.__new__"<|r6 160<|t
noncomputable def vP (P:Params) (t:List Obj):List Obj:=r30 P 39 383 "BadTie" 34 396 177 397<|r27 [(36,176)]<|r37 P "BadTie" 376 34 163 "BadTie.__init__" 9 39 "ValueError" "ValueError.__new__" "BadCause"<|r27 [(40,196)]<|t
noncomputable def vV (P:Params) (t:List Obj):List Obj:=r37 P "BadCause" 401 38 183 "BadCause.__init__" 10 39 "ValueError" "ValueError.__new__" "Taken"<|r27 [(44,216)]<|r37 P "Taken" 426 42 203 "Taken.__init__" 11 39 "ValueError" "ValueError.__new__" "Full"<|r27 [(48,236)]<|t
noncomputable def uP (P:Params) (t:List Obj):List Obj:=r37 P "Full" 451 46 223 "Full.__init__" 12 39 "ValueError" "ValueError.__new__" "NotTop"<|r27 [(52,256)]<|r37 P "NotTop" 476 50 243 "NotTop.__init__" 13 39 "ValueError" "ValueError.__new__" "Stopped"<|r27 [(56,276)]<|t
noncomputable def wu (P:Params) (t:List Obj):List Obj:=r37 P "Stopped" 501 54 263 "Stopped.__init__" 14 39 "ValueError" "ValueError.__new__" "Busy"<|r27 [(60,296)]<|r32 P "Busy" 526 58 283 "Busy.__init__" 15 39 "ValueError" "ValueError.__new__"<|r6 300<|t
noncomputable def yj (P:Params) (t:List Obj):List Obj:=r30 P 39 558 "BadValue" 62 570 316 572<|r27 [(64,315)]<|r4 "BadValue" 553 62 305 z1<|r19 563 ["self","at"] "__init__" "BadValue.__init__" 16 0 64 2 310 568 z1<|on 571 ["at"]::(r2 P 551 62 570 316 572 "BadValue" 39 "ValueError" 303 "ValueError.__new__"<|r36 P 319 39 583 "Broken" 67 335 599<|r27 [(69,334)]<|r4 "Broken" 578 67 324 z1<|r19 588 ["self","step","why"] "__init__" "Broken.__init__" 17 0 69 3 329 594 z1<|on 597 ["step","why"]::(r2 P 576 67 596 335 599 "Broken" 39 "ValueError" 322 "ValueError.__new__"<|r6 338<|ot #[vt "LookupError"]::t))
noncomputable def xU (P:Params) (t:List Obj):List Obj:=r5 P 610 "Missing" 73 625 355 627<|r27 [(75,354)]<|r4 "Missing" 605 73 343 z1<|on 615 ["","missing"]::(r17 620 ["self","words","word"]<|r11 "__init__" "Missing.__init__" 18 0 617 75 3 348 623 z1<|r29 P 610 73 355<|{cls:=vt "type",data:=Data.cls {name:=u "Missing",bases:=[vt "LookupError"],mro:=[vr 358,vt "LookupError",vt "Exception",vt "BaseException",vt "object"],ns:=357,qualname:=u "Missing",subclasses:=[vr 379,vr 399,vr 419]},slots:=#[some (vr 341),none,some (vs "Missing" 603),some (vs "Missing" 611),some (Value.builtin "LookupError.__new__"),some (vb)]}::(r12 628 358<|r30 P 358 640 "NoLane" 78 653 376 654<|r27 [(80,375)]<|t))
noncomputable def xO (P:Params) (t:List Obj):List Obj:=r37 P "NoLane" 633 78 362 "NoLane.__init__" 19 358 "LookupError" "LookupError.__new__" "NoKind"<|r27 [(84,395)]<|r37 P "NoKind" 658 82 382 "NoKind.__init__" 20 358 "LookupError" "LookupError.__new__" "NoTicket"<|r27 [(88,415)]<|t
noncomputable def xq (P:Params) (t:List Obj):List Obj:=r32 P "NoTicket" 683 86 402 "NoTicket.__init__" 21 358 "LookupError" "LookupError.__new__"<|r6 419<|r23 716 ["text"] "is_name" 26 94 1 422 720 z5<|t
noncomputable def Aq (P:Params) (t:List Obj):List Obj:=r23 723 ["text"] "need_name" 27 96 1 429 727 z5<|r23 730 ["fields","seen","name","low","high"] "need_fields" 28 99 1 436 738 z5<|r3<|r33 "bounds_text" 29 741 108 1 443 z5<|r16<|od 13 [de P "__module__" 754 z5,de P "__qualname__" 756 (vs "Kind" 755),de P "__firstlineno__" 758 (vi 110 757),dr P "__init__" 767 463,dr P "lowest" 773 468,dr P "cells" 780 475,dr P "place_of" 792 482,dr P "need" 805 489,dr P "__eq__" 813 496,dr P "__len__" 820 503,dr P "__str__" 827 510,dr P "__repr__" 834 517,dr P "__static_attributes__" 837 518]::(r27 [(112,462),(120,467),(123,474),(126,481),(132,488),(139,495),(142,502),(145,509),(148,516)]<|r4 "Kind" 749 110 450 z5<|ot #[]::ot #[vr 455]::(r17 762 ["self","name","fields"]<|r11 "__init__" "Kind.__init__" 30 0 759 112 3 456 765 z5<|r3<|r22 "lowest" "Kind.lowest" 30 1 768 120 1 464 z5<|t))
noncomputable def zT (P:Params) (t:List Obj):List Obj:=r20 774 ["self"] "cells" "Kind.cells" 30 2 123 1 469 778 z5 ["self","field","at","name","low","high"] "place_of" "Kind.place_of" 126 2 790<|r20 793 ["self","values","at","name","low","high","value"] "need" "Kind.need" 30 4 132 2 483 803 z5 ["self","other"] "__eq__" "Kind.__eq__" 139 2 811<|t
noncomputable def Aw (P:Params) (t:List Obj):List Obj:=r20 814 ["self"] "__len__" "Kind.__len__" 30 6 142 1 497 818 z5 ["self"] "__str__" "Kind.__str__" 145 1 825<|r19 828 ["self"] "__repr__" "Kind.__repr__" 30 8 148 1 511 832 z5<|on 835 ["fields","name"]::od 5 [de P "__module__" 754 z5,de P "__firstlineno__" 758 (vi 110 757),dr P "__init__" 767 463,dr P "lowest" 773 468,dr P "cells" 780 475,dr P "place_of" 792 482,dr P "need" 805 489,dr P "__eq__" 813 496,dr P "__len__" 820 503,dr P "__str__" 827 510,dr P "__repr__" 834 517,dr P "__static_attributes__" 837 518,dr P "__dict__" 839 521,dr P "__weakref__" 841 522,dn P "__doc__" 842,dn P "__hash__" 843]::(r9 "Kind" 519 747 838<|r12 840 520<|r23 859 ["lanes"] "need_lanes" 36 155 1 525 863 z8<|t)
noncomputable def Bs (P:Params) (t:List Obj):List Obj:=r23 866 ["lanes","ties","one","other","least"] "need_ties" 37 158 2 532 874 z8<|r23 877 ["most"] "need_most" 38 164 1 539 881 z8<|r23 884 ["lanes","ties","most"] "need_all" 39 167 3 546 890 z8<|r3<|r33 "bounds" 40 893 171 2 553 z8<|r3<|r33 "raised" 41 899 174 2 558 z8<|r38 P 905 99999 848::(r3<|gt "amounts" 42::oc #[vs "amounts" 906,vs "amounts" 907,vf 908,vi 188 0,vi 2 0,vi 0 0,vi 1 0,vi 3 0,vr 564,vb,vi 181 0,vr 565,vn,vn,vn,vr 566,vi 909 0,vi 188 0,vf 910]::{cls:=vt "function",data:=Data.func {name:=u "amounts",qualname:=u "amounts",params:=TA 42,body:=FuncBody.stmts (TB 42),scope:=TS 42,globals:=3,closure:=[],defaults:=vn,kwdefaults:=vr 563,pyModule:=z8,code:=vr 567}}::r38 P 912 99999 848::t)
noncomputable def Bv (P:Params) (t:List Obj):List Obj:=r17 916 ["lanes","ties","most","heights","raised_by","still"]<|gt "ring" 43::(r26 "ring" 913 192 569 922 43 z8<|r23 925 ["at","raised_by","many","turn","found"] "ring_behind" 44 196 3 577 933 z8<|r23 950 ["pages"] "need_pages" 52 210 1 584 954 z2<|r23 957 ["room"] "need_room" 53 213 1 591 961 z2<|r23 964 ["events","place","told","event"] "told_from" 54 216 2 598 971 z2<|t)
noncomputable def Aj (P:Params) (t:List Obj):List Obj:=r23 974 ["place","told","thing"] "place_behind" 55 225 2 605 980 z2<|r35 P 990 z2 "Claim" 229 1004 625 "told_at" 1026<|r27 [(231,624),(238,631),(241,638)]<|r4 "Claim" 985 229 614 z2<|r20 995 ["self","ticket","time","kind"] "__init__" "Claim.__init__" 56 0 231 4 619 1002 z2 ["self","place"] "told_at" "Claim.told_at" 238 2 1010<|r19 1013 ["self","other"] "twin" "Claim.twin" 56 2 241 1 633 1018 z2<|on 1021 ["filled","form","given","ticket","time"]::(r34 P 983 z2 229 1004 625 "told_at" 1026 "Claim"<|t)
noncomputable def Ba (P:Params) (t:List Obj):List Obj:=r12 1029 642<|r16<|od 8 [de P "__module__" 1041 z2,de P "__qualname__" 1043 (vs "Page" 1042),de P "__firstlineno__" 1045 (vi 246 1044),dr P "__init__" 1052 660,dr P "unclosed" 1058 665,dr P "without" 1064 670,dr P "twin" 1070 675,dr P "__static_attributes__" 1074 676]::(r27 [(248,659),(253,664),(256,669),(259,674)]<|r4 "Page" 1036 246 649 z2<|r19 1046 ["self"] "__init__" "Page.__init__" 57 0 248 1 654 1050 z2<|r3<|r22 "unclosed" "Page.unclosed" 57 1 1053 253 1 661 z2<|r3<|r22 "without" "Page.without" 57 2 1059 256 2 666 z2<|r3<|r22 "twin" "Page.twin" 57 3 1065 259 1 671 z2<|on 1071 ["claims","gone","used"]::od 4 [de P "__module__" 1041 z2,de P "__firstlineno__" 1045 (vi 246 1044),dr P "__init__" 1052 660,dr P "unclosed" 1058 665,dr P "without" 1064 670,dr P "twin" 1070 675,dr P "__static_attributes__" 1074 676,dr P "__dict__" 1076 679,dr P "__weakref__" 1078 680,dn P "__doc__" 1079]::(r9 "Page" 677 1034 1075<|r12 1077 678<|t))
noncomputable def Ep (P:Params) (t:List Obj):List Obj:=r16<|od 28 [de P "__module__" 1089 z2,de P "__qualname__" 1091 (vs "Lane" 1090),de P "__firstlineno__" 1093 (vi 265 1092),dr P "__init__" 1106 697,dr P "claim" 1116 704,dr P "make_room" 1124 711,dr P "eldest" 1131 718,dr P "lose_eldest" 1138 725,dr P "leave" 1148 732,dr P "waiting" 1154 737,dr P "waiting_with" 1163 744,dr P "last_waiting" 1172 751,dr P "fill" 1182 758,dr P "give" 1191 765,dr P "throw" 1202 772,dr P "standing" 1213 779,dr P "look" 1220 786,dr P "take" 1228 793,dr P "hold" 1236 800,dr P "pending" 1242 805,dr P "event" 1251 812,dr P "resize" 1263 819,dr P "counts" 1270 826,dr P "pages_now" 1277 833,dr P "twin" 1283 838,dr P "__len__" 1289 843,dr P "__repr__" 1296 850,dr P "__static_attributes__" 1309 851]::(r27 [(267,696),(283,703),(296,710),(306,717),(309,724),(313,731),(318,736),(321,743),(327,750),(333,757),(338,764),(343,771),(352,778),(364,785),(367,792),(376,799),(381,804),(384,811),(388,818),(399,825),(402,832),(405,837),(418,842),(421,849)]<|r4 "Lane" 1084 265 685 z2<|od 3 [de P "pages" 1094 (vi 4 938),de P "room" 1095 (vi 8 940),de P "over" 1096 (vb)]::(r17 1100 ["self","pages","room","over"]<|r28 "__init__" "Lane.__init__" 58 0 1097 267 1 3 690 1104 z2<|r20 1107 ["self","kind","time","head"] "claim" "Lane.claim" 58 1 283 3 698 1114 z2 ["self","cells"] "make_room" "Lane.make_room" 296 2 1122<|t))
noncomputable def Fv (P:Params) (t:List Obj):List Obj:=r20 1125 ["self"] "eldest" "Lane.eldest" 58 3 306 1 712 1129 z2 ["self"] "lose_eldest" "Lane.lose_eldest" 309 1 1136<|r19 1139 ["self","number","page","later"] "leave" "Lane.leave" 58 5 313 2 726 1146 z2<|r3<|r22 "waiting" "Lane.waiting" 58 6 1149 318 1 733 z2<|r20 1155 ["self","ticket","claim"] "waiting_with" "Lane.waiting_with" 58 7 321 2 738 1161 z2 ["self","ticket","claim"] "last_waiting" "Lane.last_waiting" 327 2 1170<|t
noncomputable def G9 (P:Params) (t:List Obj):List Obj:=r20 1173 ["self","ticket","values","claim"] "fill" "Lane.fill" 58 9 333 3 752 1180 z2 ["self","ticket","claim"] "give" "Lane.give" 338 2 1189<|r20 1192 ["self","ticket","claim","head","page"] "throw" "Lane.throw" 58 11 343 2 766 1200 z2 ["self","events","place","page","claim"] "standing" "Lane.standing" 352 1 1211<|t
noncomputable def BL (P:Params) (t:List Obj):List Obj:=r20 1214 ["self"] "look" "Lane.look" 58 13 364 1 780 1218 z2 ["self","told"] "take" "Lane.take" 367 1 1226<|r19 1229 ["self","place"] "hold" "Lane.hold" 58 15 376 2 794 1234 z2<|r3<|r22 "pending" "Lane.pending" 58 16 1237 381 1 801 z2<|r20 1243 ["self","ticket","claim"] "event" "Lane.event" 58 17 384 2 806 1249 z2 ["self","pages","first","extra","number","turn"] "resize" "Lane.resize" 388 2 1261<|t
noncomputable def By (P:Params) (t:List Obj):List Obj:=r20 1264 ["self"] "counts" "Lane.counts" 58 19 399 1 820 1268 z2 ["self"] "pages_now" "Lane.pages_now" 402 1 1275<|r3<|r22 "twin" "Lane.twin" 58 21 1278 405 1 834 z2<|r3<|r22 "__len__" "Lane.__len__" 58 22 1284 418 1 839 z2<|r19 1290 ["self"] "__repr__" "Lane.__repr__" 58 23 421 1 844 1294 z2<|on 1297 ["given_in","held","last_time","lost","missed","most","over","pages","room","thrown_back","tickets","told"]::od 4 [de P "__module__" 1089 z2,de P "__firstlineno__" 1093 (vi 265 1092),dr P "__init__" 1106 697,dr P "claim" 1116 704,dr P "make_room" 1124 711,dr P "eldest" 1131 718,dr P "lose_eldest" 1138 725,dr P "leave" 1148 732,dr P "waiting" 1154 737,dr P "waiting_with" 1163 744,dr P "last_waiting" 1172 751,dr P "fill" 1182 758,dr P "give" 1191 765,dr P "throw" 1202 772,dr P "standing" 1213 779,dr P "look" 1220 786,dr P "take" 1228 793,dr P "hold" 1236 800,dr P "pending" 1242 805,dr P "event" 1251 812,dr P "resize" 1263 819,dr P "counts" 1270 826,dr P "pages_now" 1277 833,dr P "twin" 1283 838,dr P "__len__" 1289 843,dr P "__repr__" 1296 850,dr P "__static_attributes__" 1309 851,dr P "__dict__" 1311 854,dr P "__weakref__" 1313 855,dn P "__doc__" 1314]::(r9 "Lane" 852 1082 1310<|r12 1312 853<|t)
noncomputable def Gg (P:Params) (t:List Obj):List Obj:=r23 1319 ["lane","time","other","second"] "need_cause" 60 424 4 858 1326 T_<|r3<|r33 "ties_of" 61 1329 429 1 865 T_<|r3<|r33 "merged" 62 1335 433 2 870 T_<|r38 P 1341 99999 848::(r17 1345 ["rows","causes","most","ties","least"]<|gt "ordered" 63::(r26 "ordered" 1342 438 875 1350 63 T_<|od 3 [de P "not" 1359 (vi 1 1360),de P "and" 1361 (vi 2 1362),de P "or" 1363 (vi 2 1364)]::od 2 [de P "less" 1369 (vs "<" 1370),de P "same" 1371 (vs "=" 1372)]::(r23 1376 ["thing"] "is_word" 69 450 1 885 1380 z9<|t)))
noncomputable def Cy (P:Params) (t:List Obj):List Obj:=r23 1383 ["thing"] "is_number" 70 452 1 892 1387 z9<|r23 1390 ["test","form"] "is_leaf" 71 454 1 899 1395 z9<|r3<|r33 "count_parts" 72 1398 461 2 906 z9<|r23 1404 ["test"] "is_test" 73 470 1 911 1408 z9<|r23 1411 ["test"] "need_test" 74 472 1 918 1415 z9<|r23 1418 ["test","kind","values","form"] "passes" 75 475 3 925 1425 z9<|t
noncomputable def Do (P:Params) (t:List Obj):List Obj:=r23 1428 ["leaf","kind","values","form","place"] "passes_leaf" 76 484 3 932 1436 z9<|t
noncomputable def HX (P:Params) (t:List Obj):List Obj:=r23 1447 ["keys","at","name"] "need_keys" 81 498 1 939 1453 z7<|r16<|od 10 [de P "__module__" 1463 z7,de P "__qualname__" 1465 (vs "Tally" 1464),de P "__firstlineno__" 1467 (vi 504 1466),dr P "__init__" 1478 960,dr P "note" 1484 965,dr P "table" 1491 972,dr P "dropped" 1498 979,dr P "twin" 1506 986,dr P "__len__" 1513 993,dr P "__static_attributes__" 1519 994]::(r27 [(506,959),(517,964),(529,971),(532,978),(535,985),(541,992)]<|r4 "Tally" 1458 504 948 z7<|r38 P 1468 16 1441::(r17 1472 ["self","test","keys","most"]<|r28 "__init__" "Tally.__init__" 82 0 1469 506 3 1 953 1476 z7<|r3<|r22 "note" "Tally.note" 82 1 1479 517 3 961 z7<|t))
noncomputable def Jo (P:Params) (t:List Obj):List Obj:=r20 1485 ["self"] "table" "Tally.table" 82 2 529 1 966 1489 z7 ["self"] "dropped" "Tally.dropped" 532 1 1496<|r20 1499 ["self","other"] "twin" "Tally.twin" 82 4 535 1 980 1504 z7 ["self"] "__len__" "Tally.__len__" 541 1 1511<|on 1514 ["beyond","counted","most","named","test"]::r39 P 1463 z7 504 1478 960 "note" 965 "table" 1491 "dropped" 1498 "twin" "__len__" 1513 993::(r9 "Tally" 995 1456 1520<|r12 1522 996<|t)
noncomputable def Ih (P:Params) (t:List Obj):List Obj:=r23 1535 ["name","borne"] "need_new" 87 547 2 1001 1540 z4<|r23 1543 ["things","most"] "need_fewer" 88 551 2 1008 1548 z4<|r35 P 1558 z4 "Track" 554 1570 1028 "top" 1590<|r27 [(556,1027),(561,1034),(567,1041)]<|r4 "Track" 1553 554 1017 z4<|r20 1563 ["self","written"] "__init__" "Track.__init__" 89 0 556 2 1022 1568 z4 ["self","tickets"] "top" "Track.top" 561 1 1576<|t
noncomputable def Ii (P:Params) (t:List Obj):List Obj:=r19 1579 ["self","other"] "twin" "Track.twin" 89 2 567 1 1036 1584 z4<|on 1587 ["clock","test","written"]::(r34 P 1551 z4 554 1570 1028 "top" 1590 "Track"<|r12 1593 1045<|r16<|od 10 [de P "__module__" 1605 z4,de P "__qualname__" 1607 (vs "Stand" 1606),de P "__firstlineno__" 1609 (vi 572 1608),dr P "__init__" 1618 1063,dr P "track_of" 1626 1070,dr P "kind_of" 1634 1077,dr P "tally_of" 1642 1084,dr P "looks" 1648 1089,dr P "twin" 1654 1094,dr P "__static_attributes__" 1662 1095]::(r27 [(574,1062),(585,1069),(590,1076),(595,1083),(598,1088),(601,1093)]<|r4 "Stand" 1600 572 1052 z4<|r20 1610 ["self","pages","room"] "__init__" "Stand.__init__" 90 0 574 3 1057 1616 z4 ["self","name"] "track_of" "Stand.track_of" 585 2 1624<|t))
noncomputable def Hj (P:Params) (t:List Obj):List Obj:=r20 1627 ["self","name"] "kind_of" "Stand.kind_of" 90 2 590 2 1071 1632 z4 ["self","name"] "tally_of" "Stand.tally_of" 595 2 1640<|r3<|r22 "looks" "Stand.looks" 90 4 1643 598 1 1085 z4<|r3<|r22 "twin" "Stand.twin" 90 5 1649 601 1 1090 z4<|on 1655 ["counters","halting","known","pages","room","still","tracks"]::r39 P 1605 z4 572 1618 1063 "track_of" 1070 "kind_of" 1634 "tally_of" 1642 "looks" "twin" 1654 1094::(r9 "Stand" 1096 1598 1663<|r12 1665 1097<|r23 1670 ["stand","handed","name","fields"] "do_kind" 91 609 2 1102 1677 z4<|t)
noncomputable def J8 (P:Params) (t:List Obj):List Obj:=r23 1680 ["stand","handed","name","over"] "do_lane" 92 614 2 1109 1687 z4<|r23 1690 ["stand","handed","name","steps","track"] "do_tick" 93 619 2 1116 1698 z4<|r23 1701 ["stand","handed","name","kind","track","form"] "do_claim" 94 625 2 1123 1710 z4<|r23 1713 ["stand","handed","name","values","track"] "do_fill" 95 632 2 1130 1721 z4<|r23 1724 ["stand","handed","track","ticket","time","kind","values","form","tally"] "do_give" 96 636 2 1137 1736 z4<|t
noncomputable def Hm (P:Params) (t:List Obj):List Obj:=r23 1739 ["stand","handed","track"] "do_throw" 97 650 2 1144 1745 z4<|r23 1748 ["stand","handed","name","kind","values"] "do_write" 98 653 2 1151 1756 z4<|r23 1759 ["stand","handed"] "do_take" 99 659 2 1158 1764 z4<|r23 1767 ["stand","handed","name","pages"] "do_resize" 100 661 2 1165 1774 z4<|t
noncomputable def Nz (P:Params) (t:List Obj):List Obj:=r23 1777 ["stand","handed","name","test","track"] "do_sieve" 101 664 2 1172 1785 z4<|r23 1788 ["stand","handed","name","test","keys","tally"] "do_tally" 102 669 2 1179 1797 z4<|r23 1800 ["stand","handed","test"] "do_halt" 103 675 2 1186 1806 z4<|r23 1809 ["stand","handed"] "do_stop" 104 680 2 1193 1814 z4<|r23 1817 ["stand","handed"] "do_go" 105 682 2 1200 1822 z4<|t
noncomputable def Oj (P:Params) (t:List Obj):List Obj:=r23 1825 ["stand","handed","told","step","deed","error"] "do_whole" 106 684 2 1207 1834 z4<|od 16 [dr P "kind" 1837 1108,dr P "lane" 1839 1115,dr P "tick" 1841 1122,dr P "claim" 1843 1129,dr P "fill" 1845 1136,dr P "give" 1847 1143,dr P "throw" 1849 1150,dr P "write" 1851 1157,dr P "take" 1853 1164,dr P "resize" 1855 1171,dr P "sieve" 1857 1178,dr P "tally" 1859 1185,dr P "halt" 1861 1192,dr P "stop" 1863 1199,dr P "go" 1865 1206,dr P "whole" 1867 1213]::(r23 1870 ["stand","deed","act"] "perform" 108 693 2 1215 1876 z4<|r16<|od 42 [de P "__module__" 1888 z3,de P "__qualname__" 1890 (vs "Recorder" 1889),de P "__firstlineno__" 1892 (vi 697 1891),dr P "__init__" 1903 1236,dr P "kind" 1912 1245,dr P "lane" 1922 1253,dr P "tick" 1932 1261,dr P "claim" 1941 1268,dr P "fill" 1950 1275,dr P "give" 1958 1282,dr P "throw" 1966 1289,dr P "write" 1976 1296,dr P "take" 1984 1303,dr P "resize" 1993 1310,dr P "sieve" 2002 1317,dr P "tally" 2013 1326,dr P "halt" 2021 1334,dr P "stop" 2028 1341,dr P "go" 2035 1348,dr P "whole" 2043 1355,dr P "do" 2053 1362,dr P "undo" 2060 1369,dr P "redo" 2067 1376,dr P "go_along" 2076 1383,dr P "done" 2082 1388,dr P "twin" 2090 1395,dr P "kinds" 2096 1400,dr P "lanes" 2103 1407,dr P "now" 2111 1414,dr P "test_of" 2119 1421,dr P "look" 2127 1428,dr P "pending" 2135 1435,dr P "counts" 2143 1442,dr P "table" 2151 1449,dr P "dropped" 2159 1456,dr P "tallies" 2166 1463,dr P "stopped" 2173 1470,dr P "halted_by" 2180 1477,dr P "looker" 2188 1484,dr P "order" 2198 1492,dr P "__len__" 2204 1497,dr P "__static_attributes__" 2208 1498]::(r27 [(699,1235),(704,1244),(707,1252),(710,1260),(713,1267),(716,1274),(719,1281),(722,1288),(725,1295),(728,1302),(731,1309),(734,1316),(737,1325),(740,1333),(743,1340),(746,1347),(749,1354),(752,1361),(760,1368),(763,1375),(766,1382),(769,1387),(772,1394),(779,1399),(783,1406),(786,1413),(789,1420),(792,1427),(795,1434),(798,1441),(801,1448),(804,1455),(807,1462),(810,1469),(813,1476),(816,1483),(819,1491),(822,1496)]<|r4 "Recorder" 1883 697 1224 z3<|od 2 [de P "pages" 1893 (vi 4 938),de P "room" 1894 (vi 8 940)]::(r17 1898 ["self","pages","room"]<|r28 "__init__" "Recorder.__init__" 110 0 1895 699 1 2 1229 1901 z3<|ot #[]::ot #[vr 1237]::(r17 1907 ["self","name","fields"]<|r11 "kind" "Recorder.kind" 110 1 1904 704 3 1238 1910 z3<|od 1 [de P "over" 1913 (vb)]::t))))
noncomputable def KN (P:Params) (t:List Obj):List Obj:=r17 1917 ["self","name","over"]<|r28 "lane" "Recorder.lane" 110 2 1914 707 2 1 1246 1920 z3<|ot #[vi 1 1923]::(r17 1927 ["self","lane","steps"]<|r11 "tick" "Recorder.tick" 110 3 1924 710 3 1254 1930 z3<|r20 1933 ["self","lane","kind"] "claim" "Recorder.claim" 110 4 713 3 1262 1939 z3 ["self","lane","values"] "fill" "Recorder.fill" 716 3 1948<|t)
noncomputable def LQ (P:Params) (t:List Obj):List Obj:=r20 1951 ["self","lane"] "give" "Recorder.give" 110 6 719 2 1276 1956 z3 ["self","lane"] "throw" "Recorder.throw" 722 2 1964<|r20 1967 ["self","lane","kind","values"] "write" "Recorder.write" 110 8 725 4 1290 1974 z3 ["self","lane"] "take" "Recorder.take" 728 2 1982<|t
noncomputable def Oe (P:Params) (t:List Obj):List Obj:=r20 1985 ["self","lane","pages"] "resize" "Recorder.resize" 110 10 731 3 1304 1991 z3 ["self","lane","test"] "sieve" "Recorder.sieve" 734 3 2000<|ot #[]::od 1 [dr P "keys" 2003 1318]::(r17 2007 ["self","name","test","keys"]<|r28 "tally" "Recorder.tally" 110 12 2004 737 3 1 1319 2011 z3<|ot #[vn]::(r17 2017 ["self","test"]<|r11 "halt" "Recorder.halt" 110 13 2014 740 2 1327 2019 z3<|t))
noncomputable def La (P:Params) (t:List Obj):List Obj:=r20 2022 ["self"] "stop" "Recorder.stop" 110 14 743 1 1335 2026 z3 ["self"] "go" "Recorder.go" 746 1 2033<|r20 2036 ["self","deeds"] "whole" "Recorder.whole" 110 16 749 2 1349 2041 z3 ["self","deed","later","told"] "do" "Recorder.do" 752 2 2051<|t
noncomputable def KZ (P:Params) (t:List Obj):List Obj:=r20 2054 ["self"] "undo" "Recorder.undo" 110 18 760 1 1363 2058 z3 ["self"] "redo" "Recorder.redo" 763 1 2065<|r19 2068 ["self","source","goal"] "go_along" "Recorder.go_along" 110 20 766 3 1377 2074 z3<|r3<|r22 "done" "Recorder.done" 110 21 2077 769 1 1384 z3<|r19 2083 ["self","other"] "twin" "Recorder.twin" 110 22 772 1 1389 2088 z3<|r3<|r22 "kinds" "Recorder.kinds" 110 23 2091 779 1 1396 z3<|t
noncomputable def Kv (P:Params) (t:List Obj):List Obj:=r20 2097 ["self"] "lanes" "Recorder.lanes" 110 24 783 1 1401 2101 z3 ["self","lane"] "now" "Recorder.now" 786 2 2109<|r20 2112 ["self","lane"] "test_of" "Recorder.test_of" 110 26 789 2 1415 2117 z3 ["self","lane"] "look" "Recorder.look" 792 2 2125<|t
noncomputable def Ny (P:Params) (t:List Obj):List Obj:=r20 2128 ["self","lane"] "pending" "Recorder.pending" 110 28 795 2 1429 2133 z3 ["self","lane"] "counts" "Recorder.counts" 798 2 2141<|r20 2144 ["self","name"] "table" "Recorder.table" 110 30 801 2 1443 2149 z3 ["self","name"] "dropped" "Recorder.dropped" 804 2 2157<|t
noncomputable def Mi (P:Params) (t:List Obj):List Obj:=r20 2160 ["self"] "tallies" "Recorder.tallies" 110 32 807 1 1457 2164 z3 ["self"] "stopped" "Recorder.stopped" 810 1 2171<|r20 2174 ["self"] "halted_by" "Recorder.halted_by" 110 34 813 1 1471 2178 z3 ["self","lane"] "looker" "Recorder.looker" 816 2 2186<|r38 P 2189 99999 848::(r17 2193 ["self","causes","most"]<|r28 "order" "Recorder.order" 110 36 2190 819 2 1 1485 2196 z3<|r3<|t)
noncomputable def DQ (P:Params) (t:List Obj):List Obj:=r22 "__len__" "Recorder.__len__" 110 37 2199 822 1 1493 z3<|on 2205 ["past","stand","undone"]::od 4 [de P "__module__" 1888 z3,de P "__firstlineno__" 1892 (vi 697 1891),dr P "__init__" 1903 1236,dr P "kind" 1912 1245,dr P "lane" 1922 1253,dr P "tick" 1932 1261,dr P "claim" 1941 1268,dr P "fill" 1950 1275,dr P "give" 1958 1282,dr P "throw" 1966 1289,dr P "write" 1976 1296,dr P "take" 1984 1303,dr P "resize" 1993 1310,dr P "sieve" 2002 1317,dr P "tally" 2013 1326,dr P "halt" 2021 1334,dr P "stop" 2028 1341,dr P "go" 2035 1348,dr P "whole" 2043 1355,dr P "do" 2053 1362,dr P "undo" 2060 1369,dr P "redo" 2067 1376,dr P "go_along" 2076 1383,dr P "done" 2082 1388,dr P "twin" 2090 1395,dr P "kinds" 2096 1400,dr P "lanes" 2103 1407,dr P "now" 2111 1414,dr P "test_of" 2119 1421,dr P "look" 2127 1428,dr P "pending" 2135 1435,dr P "counts" 2143 1442,dr P "table" 2151 1449,dr P "dropped" 2159 1456,dr P "tallies" 2166 1463,dr P "stopped" 2173 1470,dr P "halted_by" 2180 1477,dr P "looker" 2188 1484,dr P "order" 2198 1492,dr P "__len__" 2204 1497,dr P "__static_attributes__" 2208 1498,dr P "__dict__" 2210 1501,dr P "__weakref__" 2212 1502,dn P "__doc__" 2213]::(r9 "Recorder" 1499 1881 2209<|r12 2211 1500<|r23 2218 ["_law_script","_law_seed","_law_cell"] "_law_begin" 112 825 1 1505 2224 z6<|r23 2227 ["_law_d","_law_many","_law_cell","_law_digit","_law_one"] "_law_pick" 113 830 2 1512 2235 z6<|r23 2238 ["_law_d","_law_things"] "_law_of" 114 845 2 1519 2243 z6<|r3<|r33 "_law_same" 115 2246 847 2 1526 z6<|r3<|t)
noncomputable def CV (P:Params) (t:List Obj):List Obj:=r33 "_law_word" 116 2252 857 1 1531 z6<|r23 2258 ["_law_d","_law_many","_law_found","_law_k","_law_word_here","_law_step"] "_law_words" 117 863 2 1536 2267 z6<|r23 2270 ["_law_ask_here","_law_told","_law_word_here","e"] "_law_ask" 118 872 1 1543 2277 z6<|r23 2280 ["_law_d","_law_names","_law_found","_law_title","_law_low"] "_law_small_fields" 119 884 1 1550 2288 z6<|r3<|r33 "_law_cast" 120 2291 891 1 1557 z6<|r3<|r33 "law" 121 2297 899 1 1562 z6<|t
noncomputable def Wn (P:Params) (t:List Obj):List Obj:=ql P k2 (Ly P) Lh t
noncomputable def Wu (P:Params) (t:List Obj):List Obj:=uw P x_ t
noncomputable def nt (k:Nat):List Obj->Obj:=Nat.rec (fun l=>List.rec (ot #[]) (fun o _ _=>o) l) (fun _ a l=>List.rec (ot #[]) (fun _ t _=>a t) l) k
local macro_rules|`(#v[$xs,*])=>do
 let mut t ← `([])
 for x in xs.getElems.reverse do
  let `($f:ident $as*):=x|Lean.Macro.throwUnsupported
  let n:=as.map fun a=>a.raw.isNatLit?.getD 0
  let mut l:=#[]
  let mut p:=0
  for i in [1:n.size] do
   if i%2==0 then for j in [0:n[i]!] do l:=l.push (p+j)
   p:=p+n[i]!
  for k in l.reverse do t ← `((nat_lit $(Lean.Syntax.mkNumLit (toString (n[0]!+k))),nt $(Lean.Syntax.mkNumLit (toString k)) ($f P []))::$t)
 `(fun P=>$t)
def KK:Params->Frag:=#v[Wn 0 2 2,Wu 15 0 1 1 2 1 3 6 2 1 2 1 6 2 1,uA 48 2 2 1 2 1 5 2 1 6 2 1 2 1 5 2 1,uG 88 2 2 1 2 1 5 2 1 6 2 1 2 1 5 2 1,ut 128 2 2 1 2 1 5 2 1 6 2 1 2 1 5,vP 163 0 1 6 2 1 2 1 5 2 1,vV 188 2 2 1 2 1 5 2 1 6 2 1 2 1 5 2 1,uP 228 2 2 1 2 1 5 2 1 6 2 1 2 1 5 2 1,wu 268 2 2 1 2 1 5 2 1 6 2 1 2 1 5,yj 303 0 1 6 1 1 2 1 5 2 1 6 1 1 2 1 5 2 1,xU 342 6 2 1 2 1 6 2 1,xO 367 2 2 1 2 1 5 2 1 6 2 1 2 1 5 2 1,xq 407 2 2 1 2 1 5 2 1 1 2 1 2,Aq 429 0 1 1 2 1 3 1 2 1 3 2 2 7 3 1 2 1 3 2 2,zT 469 0 1 1 2 1 3 1 2 1 3 1 2 1 3 1 2 1 2,Aw 497 0 1 1 2 1 3 1 2 1 3 1 2 1 7 2 1 1 2 1 2,Bs 532 0 1 1 2 1 3 1 2 1 3 1 2 1 3 2 3 2 4 2 3,Bv 570 0 1 1 2 1 3 1 2 1 3 1 2 1 3 1 2 1 3 1 2 1 2,Aj 605 0 1 1 2 1 2 7 1 1 2 1 3 1 2 1 3 1 2 1 6,Ba 644 0 1 9 1 1 2 1 3 2 3 2 3 2 7,Ep 683 7 2 1 2 1 3 1 2 1 3 1 2 1 2,Fv 712 0 1 1 2 1 3 1 2 1 3 1 2 1 3 2 3 1 2 1 3 1 2 1 2,G9 752 0 1 1 2 1 3 1 2 1 3 1 2 1 3 1 2 1 2,BL 780 0 1 1 2 1 3 1 2 1 3 1 2 1 3 2 3 1 2 1 3 1 2 1 2,By 820 0 1 1 2 1 3 1 2 1 3 2 3 2 3 1 2 1 7,Gg 858 0 1 1 2 1 3 2 3 2 4 1 2 1 5 1 2 1 2,Cy 892 0 1 1 2 1 3 1 2 1 3 2 3 1 2 1 3 1 2 1 3 1 2 1 2,Do 932 0 1 1 2 1 2,HX 939 0 1 1 2 1 2 7 2 1 2 1 3 2 2,Jo 966 0 1 1 2 1 3 1 2 1 3 1 2 1 3 1 2 1 7,Ih 1001 0 1 1 2 1 3 1 2 1 2 7 1 1 2 1 3 1 2 1 2,Ii 1036 0 1 1 2 1 7 9 1 1 2 1 3 1 2 1 2,Hj 1071 0 1 1 2 1 3 1 2 1 3 2 3 2 7 2 1 1 2 1 2,J8 1109 0 1 1 2 1 3 1 2 1 3 1 2 1 3 1 2 1 3 1 2 1 2,Hm 1144 0 1 1 2 1 3 1 2 1 3 1 2 1 3 1 2 1 2,Nz 1172 0 1 1 2 1 3 1 2 1 3 1 2 1 3 1 2 1 3 1 2 1 2,Oj 1207 0 1 1 2 1 4 1 2 1 2 7 2 1 2 1 5 1 2 1 3,KN 1247 0 1 1 2 1 4 1 2 1 3 1 2 1 3 1 2 1 2,LQ 1276 0 1 1 2 1 3 1 2 1 3 1 2 1 3 1 2 1 2,Oe 1304 0 1 1 2 1 3 1 2 1 5 1 2 1 4 1 2 1 2,La 1335 0 1 1 2 1 3 1 2 1 3 1 2 1 3 1 2 1 2,KZ 1363 0 1 1 2 1 3 1 2 1 3 1 2 1 3 2 3 1 2 1 3 2 2,Kv 1401 0 1 1 2 1 3 1 2 1 3 1 2 1 3 1 2 1 2,Ny 1429 0 1 1 2 1 3 1 2 1 3 1 2 1 3 1 2 1 2,Mi 1457 0 1 1 2 1 3 1 2 1 3 1 2 1 3 1 2 1 4 1 2 1 3,DQ 1495 1 7 2 1 1 2 1 3 1 2 1 3 1 2 1 3 2 3,CV 1533 1 3 1 2 1 3 1 2 1 3 1 2 1 3 2 3 2 2]
noncomputable def Uh:List Addr:=(KK {strHash:=fun _=>0,shareClass:=fun _=>0,mergeTok:=fun x=>x,idOf:=fun _=>0,idOfShared:=fun _ _=>0,followText:=fun _=>true,idOfImm:=fun _=>0}).map (·.1)
theorem eK:∀ P,Uh=(KK P).map (·.1):=fun P=>by kernel_rfl
def vw:Program:={ PySem.Challenge.pw_lanescribe_k64_missed_and_stopped_at_onc with main:={ PySem.Challenge.pw_lanescribe_k64_missed_and_stopped_at_onc.main with body:=[tp 0,tp 2,tp 3,tp 4,tp 5,tp 6,tp 7,tp 8,tp 9,tp 10,tp 11,tp 12,tp 13,tp 14,tp 15,tp 16,tp 17,tp 18,tp 19,tp 20,tp 21,tp 23,tp 24,tp 25,tp 26,tp 27,tp 28,tp 29,tp 30,tp 32,tp 33,tp 34,tp 35,tp 36,tp 37,tp 38,tp 39,tp 40,tp 41,tp 44,tp 46,tp 47,tp 48,tp 49,tp 50,tp 51,tp 52,tp 53,tp 54,tp 55,tp 56,tp 57,tp 58,tp 60,tp 61,tp 62,tp 65,tp 66,tp 67,tp 68,tp 69,tp 70,tp 71,tp 72,tp 73,tp 74,tp 75,tp 76,tp 78,tp 79,tp 80,tp 81,tp 82,tp 84,tp 85,tp 86,tp 87,tp 88,tp 89,tp 90,tp 91,tp 92,tp 93,tp 94,tp 95,tp 96,tp 97,tp 98,tp 99,tp 100,tp 101,tp 102,tp 103,tp 104,tp 105,tp 106,tp 107,tp 108,tp 110,tp 112,tp 113,tp 114,tp 115,tp 116,tp 117,tp 118,tp 119,tp 120,tp 121] } }
noncomputable def ls:List Str:=[u "ScribeError",u "BadName",u "BadBounds",u "BadTest",u "BadSize",u "BadTime",u "BadKeys",u "BadTie",u "BadCause",u "Taken",u "Full",u "NotTop",u "Stopped",u "Busy",u "Missing",u "NoLane",u "NoKind",u "NoTicket",u "Kind",u "HIGHEST_MOST",u "amounts",u "ring",u "Lane",u "ordered",u "WITHIN",u "SIGN_OF",u "Tally",u "DEEDS",u "Recorder"]
noncomputable def lv:List (Str×WData):=[(u "HIGHEST_MOST",WData.int 1000000000000)]
abbrev Xt:Shared->Bool:=fun s=>xlAt vw lv s && recOk (RowW.records (OpenRow.toRowW PySem.Challenge.rw_lanescribe_k64_missed_and_stopped_at_onc.row)) s
abbrev hk:Hook:=kmHook KK Uh eK [871,1563]
theorem ba {a b:Bool} (h:a=true) (c:b=true):(a && b)=true:=by rw [h,c];rfl
abbrev lw:=PySem.Challenge.rw_lanescribe_k64_missed_and_stopped_at_onc
theorem Vk:namesResolve lw.row.prog=true:=by kernel_rfl
theorem Vf:(lw.row.prog.boundNames.all fun n=>!worldNames.contains n)=true:=by kernel_rfl
theorem V5:noRoadLSs { strict:=!(importedModules lw.row.prog.main.body).all cThrough.contains,foot:=none,bare:=List.filter (readsOut lw.row.prog lw.row.prog.main.body) [Str.ofString "vars",Str.ofString "dir",Str.ofString "locals"] } lw.row.prog.main.body=true:=by kernel_rfl
theorem Uj:(namesMeet lw.row.prog lw.row.prog.main.body fun _ n=>attrL n)=true:=by kernel_rfl
theorem WD:looksOpen lw.row.prog=true:=ba (ba (ba (ba (by kernel_rfl) Vk) Vf) V5) Uj
theorem Vw:lw.row.wellSaid=true:=ba (ba (ba (ba (ba (ba (ba (ba (ba (ba (ba (ba (ba (ba (ba WD (by kernel_rfl)) (by kernel_rfl)) (by kernel_rfl)) (by kernel_rfl)) (by kernel_rfl)) (by kernel_rfl)) (by kernel_rfl)) (by kernel_rfl)) (by kernel_rfl)) (by kernel_rfl)) (by kernel_rfl)) (by kernel_rfl)) (by kernel_rfl)) (by kernel_rfl)) (by kernel_rfl)
theorem Vi:(lw.bound'.all fun n=>!builtinNamed n || lw.about == [n] || !lw.reads n)=true:=by kernel_rfl
theorem Wb:(namesMeet lw.prog lw.above fun _ n=>!lw.own.contains n)=true:=by kernel_rfl
theorem said:PySem.Challenge.rw_lanescribe_k64_missed_and_stopped_at_onc.wellSaid=true:=ba (ba (ba (ba (ba (ba (ba (ba (ba (ba (ba (ba (ba (ba (ba (ba (ba (ba Vw (by kernel_rfl)) (by kernel_rfl)) (by kernel_rfl)) (by kernel_rfl)) (by kernel_rfl)) (by kernel_rfl)) (by kernel_rfl)) (by kernel_rfl)) (by kernel_rfl)) Vi) (by kernel_rfl)) (by kernel_rfl)) (by kernel_rfl)) (by kernel_rfl)) (by kernel_rfl)) (by kernel_rfl)) Wb) (by kernel_rfl)
theorem openP:opening (OpenRow.toRowW PySem.Challenge.rw_lanescribe_k64_missed_and_stopped_at_onc.row).prog=plainProg (OpenRow.toRowW PySem.Challenge.rw_lanescribe_k64_missed_and_stopped_at_onc.row).prog.main.scope.names:=by kernel_rfl
theorem G3 {p:Program} {w:World} {N L:Nat} {s0 d:Shared} {f:Thread} {c:Nat} {b:Option Value} {g:Type} {F:Shared->g} {X:g} (h:(s0.heap.isNs mainGlobals && s0.gens.size == 0)=true) (i:s0.heap.objs.size=c) (j:s0.heap.nsMap mainGlobals "__annotations__" = b)
 (chain:∀ r,topRun treeTable p w c b L d f=some r->topRun treeTable p w c b N s0 (topStub p)=some r)
 (last:((topRun treeTable p w c b L d f).bind fun a=>match staticsOk (importedModules p.main.body) s0.heap a.heap && namesBound p a.heap && gensDone a && laidKept s0.heap a.heap with
  |true=>some a
  |false=>none).map F=some X):(topFrom treeTable p w N s0).map F=some X:=by
 cases hA:topRun treeTable p w c b L d f with
 |none=>rw [hA] at last;cases last
 | some r=>have e:=chain r hA;unfold topFrom;rw [h,i,j,e];rw [hA] at last;exact last
abbrev pp:Program:=(OpenRow.toRowW PySem.Challenge.rw_lanescribe_k64_missed_and_stopped_at_onc.row).prog
def env:Env:={ scope:=pp.main.scope,locals:=mainNs,globals:=mainNs,cells:=[],code:=vr 13,frame:=some 14 }
abbrev cd:Code:=.body (behindTheImports pp) env
noncomputable abbrev fp:Pos:={ line:=0,col:=0,endLine:=0,endCol:=0 }
abbrev an:Option Value:=some (vr 6)
abbrev Gj (w:World) (a:OsState):Shared:=⟨boot_heap w.params,Array.mk [],boot_drawn,boot_toks,a⟩
def Xk (P:Params):Heap:=⟨⟨ql P (boot_o_2 P) (boot_o_3 P) o1<|[]⟩,{ }⟩
abbrev X5 (w:World) (a:OsState):Shared:=⟨Xk w.params,Array.mk [],{ },187,a⟩
noncomputable abbrev Xa:Pos:={ line:=0,col:=0,endLine:=0,endCol:=0 }
def XJ (P:Params):Heap:=⟨⟨ql P (boot_o_2 P) (boot_o_3 P) o1<|[]⟩,{ }⟩
abbrev WM (w:World) (a:OsState):Shared:=⟨XJ w.params,Array.mk [],{ },187,a⟩
noncomputable abbrev We:Pos:={ line:=0,col:=0,endLine:=0,endCol:=0 }
def bt (l:List Obj):BT:=(l.foldl (fun (a:BT×Nat) o=>(a.1.ins a.2 o,a.2+1)) (.nil,0)).1
def Gn (s:Shared):SharedT:=⟨bt s.heap.objs.toList,s.heap.objs.size,s.heap.life,s.gens,s.drawn,s.toks,s.os⟩
theorem wO {tb p w n₀ ann b n s s' t f c q} (d:(Gn s).abs=s) (h:(segRunT tb p w n₀ ann b n (Gn s) t).map (fun r=>(r.1,r.2.1.abs,r.2.2))=some (f,s',c,q)):segRun tb p w n₀ ann b n s t=some (f,s',c,q):=by
 cases e:segRunT tb p w n₀ ann b n (Gn s) t with
 |none=>rw [e] at h;cases h
 | some r=>obtain ⟨g,a,i,j⟩:=r;have k:=segRun_of e;rw [d] at k;rw [e] at h;cases h;exact k
theorem Y6 (w:World) (a:OsState):topGo treeTable pp w 11 an 12 (Gj w a) (topStub pp)=some (X5 w a,⟨denote treeTable cd,cd,Xa,[topFrame fp]⟩):=by kernel_rfl
theorem Xl (w:World) (a:OsState):segRun treeTable pp w 11 an 1 1 (X5 w a) (blockOf (behindTheImports pp) env cd Xa [topFrame fp])=some (.next,WM w a,cd,We):=by kernel_rfl
def Wf (P:Params):Heap:=⟨⟨ql P (boot_o_2 P) (o4 P) o5<|uw P Xx<|uA P<|uG P<|ut P<|[]⟩,{ }⟩
abbrev Pn (w:World) (a:OsState):Shared:=⟨Wf w.params,Array.mk [],{ },376,a⟩
noncomputable abbrev Tn:Pos:={ line:=30,col:=0,endLine:=33,endCol:=52 }
abbrev Vh:List Stmt:=((behindTheImports pp).drop 0).take 9
theorem XR (w:World) (a:OsState):segRun treeTable pp w 11 an 1 1737 (WM w a) (piecesOf Vh env cd We [topFrame fp])=some (.next,Pn w a,cd,Tn):=wO (by kernel_rfl) (by kernel_rfl)
def Rg (P:Params):Heap:=⟨⟨ql P (boot_o_2 P) (VJ P) Ww<|uw P U_<|uA P<|uG P<|ut P<|vP P<|vV P<|uP P<|wu P<|[]⟩,{ }⟩
abbrev JV (w:World) (a:OsState):Shared:=⟨Rg w.params,Array.mk [],{ },551,a⟩
noncomputable abbrev JP:Pos:={ line:=58,col:=0,endLine:=61,endCol:=49 }
abbrev O4:List Stmt:=((behindTheImports pp).drop 9).take 7
theorem Us (w:World) (a:OsState):segRun treeTable pp w 11 an 1 1723 (Pn w a) (piecesOf O4 env cd Tn [topFrame fp])=some (.next,JV w a,cd,JP):=wO (by kernel_rfl) (by kernel_rfl)
def Rz (P:Params):Heap:=⟨⟨ql P (boot_o_2 P) (o200 P) Wg<|uw P x_<|uA P<|uG P<|ut P<|vP P<|vV P<|uP P<|wu P<|yj P<|xU P<|xO P<|xq P<|[]⟩,{ }⟩
abbrev Ka (w:World) (a:OsState):Shared:=⟨Rz w.params,Array.mk [],{ },723,a⟩
noncomputable abbrev Js:Pos:={ line:=94,col:=0,endLine:=95,endCol:=93 }
abbrev Mw:List Stmt:=((behindTheImports pp).drop 16).take 11
theorem Wo (w:World) (a:OsState):segRun treeTable pp w 11 an 1 1518 (JV w a) (piecesOf Mw env cd JP [topFrame fp])=some (.next,Ka w a,cd,Js):=wO (by kernel_rfl) (by kernel_rfl)
def Pq (P:Params):Heap:=⟨⟨ql P (boot_o_2 P) (Ve P) Wc<|uw P x_<|uA P<|uG P<|ut P<|vP P<|vV P<|uP P<|wu P<|yj P<|xU P<|xO P<|xq P<|Aq P<|zT P<|Aw P<|Bs P<|Bv P<|Aj P<|Ba P<|[]⟩,{ }⟩
abbrev K3 (w:World) (a:OsState):Shared:=⟨Pq w.params,Array.mk [],{ },1082,a⟩
noncomputable abbrev Kg:Pos:={ line:=246,col:=0,endLine:=264,endCol:=20 }
abbrev Lq:List Stmt:=((behindTheImports pp).drop 27).take 31
theorem WL (w:World) (a:OsState):segRun treeTable pp w 11 an 1 1699 (Ka w a) (piecesOf Lq env cd Js [topFrame fp])=some (.next,K3 w a,cd,Kg):=wO (by kernel_rfl) (by kernel_rfl)
def QQ (P:Params):Heap:=⟨⟨ql P (boot_o_2 P) (W8 P) Vq<|uw P x_<|uA P<|uG P<|ut P<|vP P<|vV P<|uP P<|wu P<|yj P<|xU P<|xO P<|xq P<|Aq P<|zT P<|Aw P<|Bs P<|Bv P<|Aj P<|Ba P<|Ep P<|Fv P<|G9 P<|BL P<|By P<|Gg P<|Cy P<|Do P<|[]⟩,{ }⟩
abbrev Kq (w:World) (a:OsState):Shared:=⟨QQ w.params,Array.mk [],{ },1443,a⟩
noncomputable abbrev Jw:Pos:={ line:=495,col:=0,endLine:=495,endCol:=9 }
abbrev M8:List Stmt:=((behindTheImports pp).drop 58).take 21
theorem Um (w:World) (a:OsState):segRun treeTable pp w 11 an 1 1501 (K3 w a) (piecesOf M8 env cd Kg [topFrame fp])=some (.next,Kq w a,cd,Jw):=by (revert w a;refine (byRow2 "special-get-raises" ?_ ?_:∀ w,_) <;> (intro w a;exact wO (by kernel_rfl) (by kernel_rfl)))
def Kz (P:Params):Heap:=⟨⟨ql P (boot_o_2 P) (Wi P) Uu<|uw P x_<|uA P<|uG P<|ut P<|vP P<|vV P<|uP P<|wu P<|yj P<|xU P<|xO P<|xq P<|Aq P<|zT P<|Aw P<|Bs P<|Bv P<|Aj P<|Ba P<|Ep P<|Fv P<|G9 P<|BL P<|By P<|Gg P<|Cy P<|Do P<|HX P<|Jo P<|Ih P<|Ii P<|Hj P<|J8 P<|Hm P<|[]⟩,{ }⟩
abbrev Di (w:World) (a:OsState):Shared:=⟨Kz w.params,Array.mk [],{ },1777,a⟩
noncomputable abbrev Df:Pos:={ line:=661,col:=0,endLine:=663,endCol:=46 }
abbrev DK:List Stmt:=((behindTheImports pp).drop 79).take 22
theorem Rb (w:World) (a:OsState):segRun treeTable pp w 11 an 1 1532 (Kq w a) (piecesOf DK env cd Jw [topFrame fp])=some (.next,Di w a,cd,Df):=wO (by kernel_rfl) (by kernel_rfl)
def O1 (P:Params):Heap:=⟨⟨ql P (boot_o_2 P) (Ly P) Lh<|uw P x_<|uA P<|uG P<|ut P<|vP P<|vV P<|uP P<|wu P<|yj P<|xU P<|xO P<|xq P<|Aq P<|zT P<|Aw P<|Bs P<|Bv P<|Aj P<|Ba P<|Ep P<|Fv P<|G9 P<|BL P<|By P<|Gg P<|Cy P<|Do P<|HX P<|Jo P<|Ih P<|Ii P<|Hj P<|J8 P<|Hm P<|Nz P<|Oj P<|KN P<|LQ P<|Oe P<|La P<|KZ P<|Kv P<|Ny P<|Mi P<|DQ P<|CV P<|[]⟩,{ }⟩
abbrev um (w:World) (a:OsState):Shared:=⟨O1 w.params,Array.mk [],{ },2303,a⟩
noncomputable abbrev uc:Pos:={ line:=899,col:=0,endLine:=934,endCol:=99 }
abbrev FP:List Stmt:=((behindTheImports pp).drop 101).take 21
theorem Q7 (w:World) (a:OsState):segRun treeTable pp w 11 an 1 2254 (Di w a) (piecesOf FP env cd Df [topFrame fp])=some (.next,um w a,cd,uc):=by (revert w a;refine (byRow2 "special-get-raises" ?_ ?_:∀ w,_) <;> (intro w a;exact wO (by kernel_rfl) (by kernel_rfl)))
abbrev Tj:List Stmt:=(behindTheImports pp).drop 122
theorem Qj:behindTheImports pp=(Vh++(O4++(Mw++(Lq++(M8++(DK++(FP++Tj))))))):=by kernel_rfl
def Xc (P:Params):Heap:=⟨⟨ql P (boot_o_2 P) (Ly P) Lh<|uw P x_<|uA P<|uG P<|ut P<|vP P<|vV P<|uP P<|wu P<|yj P<|xU P<|xO P<|xq P<|Aq P<|zT P<|Aw P<|Bs P<|Bv P<|Aj P<|Ba P<|Ep P<|Fv P<|G9 P<|BL P<|By P<|Gg P<|Cy P<|Do P<|HX P<|Jo P<|Ih P<|Ii P<|Hj P<|J8 P<|Hm P<|Nz P<|Oj P<|KN P<|LQ P<|Oe P<|La P<|KZ P<|Kv P<|Ny P<|Mi P<|DQ P<|CV P<|[]⟩,{ }⟩
abbrev Gh (w:World) (a:OsState):Shared:=⟨Xc w.params,Array.mk [],{ },2303,a⟩
theorem XQ (w:World) (a:OsState):topRun treeTable pp w 11 an 501 (um w a) (restOf Tj env cd uc [topFrame fp])=some (Gh w a):=by kernel_rfl
theorem Xf (w:World) (a:OsState):staticsOk (importedModules pp.main.body) (Gj w a).heap (Gh w a).heap=true:=by kernel_rfl
theorem Y5 (w:World) (a:OsState):namesBound pp (Gh w a).heap=true:=by kernel_rfl
theorem XN (w:World) (a:OsState):gensDone (Gh w a)=true:=by kernel_rfl
theorem Xv (w:World) (a:OsState):laidKept (Gj w a).heap (Gh w a).heap=true:=by kernel_rfl
abbrev HA (q:Program) (l:List Str) (s:Shared):Prop:=PyProof.Rows.seen ((PyProof.Rows.recsOf q).map (·.name)) (PyProof.Rows.ownsOf q) [] { s with gens:=#[] }=PyProof.Rows.expectedOf q/\s.heap.bltView=bltViewBooted/\s.heap.keysOk (looseW q l) ((PyProof.Rows.recsOf q).map (·.name)) ((PyProof.Rows.litsOf q).map (·.1)) ((PyProof.Rows.clssOf q (looseW q l)).map (·.name))=true
abbrev HB (q:Program) (s:Shared):Prop:=PyProof.Rows.tabsOk q s=true/\wideSeen q s=wideGood q
theorem Xz {q:Program} {l m:List Str} {Xt:Shared->Bool} {s:Shared} (a:HA q l s) (b:HB q s) (k2:s.heap.accountedOkI m=true) (c:s.heap.isNs mainGlobals=true) (d:s.heap.isNs builtinsNs=true) (e:PyProof.Rows.tablesOk q s.heap=true) (f:Xt s=true) (g:(s.gens.size == 0)=true) (h:pinSeenD q (PyProof.Rows.drecsOf q) s=pinGoodD (PyProof.Rows.drecsOf q)) (i:PyProof.Rows.plainSeenE q (looseW q l) s=PyProof.Rows.plainGoodE q (looseW q l)) (j:PyProof.Rows.plainSeenD q l s=PyProof.Rows.plainGoodD q l) (n:clsSeenW q l s=clsGoodW q l):openSeen q l m Xt true s=openGood q l:=by unfold openSeen openGood;rw [a.1,a.2.1,a.2.2,k2,c,d,e,f,b.1,h,i,j,b.2,n];simp [g]
theorem Xn (w:World) (a:OsState):HA vw ls (Gh w a):=⟨by kernel_rfl,by kernel_rfl,by kernel_rfl⟩
theorem Xd (w:World) (a:OsState):HB vw (Gh w a):=⟨by kernel_rfl,by kernel_rfl⟩
theorem Y9 (w:World) (a:OsState):openSeen vw ls (importedModules pp.main.body) Xt true (Gh w a)=openGood vw ls:=Xz (Xn w a) (Xd w a) (by kernel_rfl) (by kernel_rfl) (by kernel_rfl) (by kernel_rfl) (by kernel_rfl) (by kernel_rfl) (by kernel_rfl) (by kernel_rfl) (by kernel_rfl) (by kernel_rfl)
theorem gT {s:Shared} {b:List Addr} {X:List (Option Obj)} (d:(Gn s).abs=s) (f:(b.all fun a=>Nat.blt a (Gn s).n && ((Gn s).tree.get a).isSome)=true) (g:b.map (fun a=>((Gn s).tree.get a).bind alive)=X):b.map s.heap.get?=X:=by rw [← g];refine List.map_congr_left fun a m=>?_;have e:s.heap=absHeap (Gn s).tree (Gn s).n (Gn s).life:=(aaM Shared.heap d).symm;have z:=acb.mp f a m;rw [aa1] at z;obtain ⟨o,c⟩:=Option.isSome_iff_exists.mp z.2;rw [c,e];exact abs_get (aaX z.1) c
theorem VF (w:World) (a:OsState):Uh.map (Gh w a).heap.get?=(KK w.params).map (fun p=>some p.2):=gT (by kernel_rfl) (by kernel_rfl) (by kernel_rfl)
theorem X_ (w:World) (a:OsState):hk.obs (Gh w a)=hk.val w:=Prod.ext (VF w a) (by kernel_rfl)
theorem uy {r:Option Shared} {s:Shared} {a b c d:Shared->Bool} {i j:Type} {f:Shared->i} {g:Shared->j} {y:i} {z:j} (h:r=some s) (l:a s=true) (m:b s=true) (n:c s=true) (o:d s=true) (p:f s=y) (q:g s=z):((r.bind fun e=>match a e && b e && c e && d e with
 |true=>some e
 |false=>none).map fun s=>(f s,g s))=some (y,z):=by
 subst h p q;show (Option.map _ (match a s && b s && c s && d s with|true=>some s|false=>none))=_;rw [l,m,n,o];rfl
theorem last (w:World) (f:OsState):((topRun treeTable pp w 11 an 501 (um w f) (restOf Tj env cd uc [topFrame fp])).bind fun e=>match staticsOk (importedModules pp.main.body) (Gj w f).heap e.heap && namesBound pp e.heap && gensDone e && laidKept (Gj w f).heap e.heap with
 |true=>some e
 |false=>none).map (fun s=>(openSeen vw ls (importedModules pp.main.body) Xt true s,hk.obs s))=some (openGood vw ls,hk.val w):=uy (a:=fun s=>staticsOk (importedModules pp.main.body) (Gj w f).heap s.heap) (b:=fun s=>namesBound pp s.heap) (c:=fun s=>gensDone s) (d:=fun s=>laidKept (Gj w f).heap s.heap) (XQ w f) (Xf w f) (Y5 w f) (XN w f) (Xv w f) (Y9 w f) (X_ w f)
theorem chain (w:World) (a:OsState) (r:Shared) (h:topRun treeTable pp w 11 an 501 (um w a) (restOf Tj env cd uc [topFrame fp])=some r):topRun treeTable pp w 11 an 12478 (Gj w a) (topStub pp)=some r:=by have k:topRun treeTable pp w 11 an 12465 (WM w a) (restOf (Vh++(O4++(Mw++(Lq++(M8++(DK++(FP++Tj))))))) env cd We [topFrame fp])=some r:=piece_app (XR w a) (piece_app (Us w a) (piece_app (Wo w a) (piece_app (WL w a) (piece_app (Um w a) (piece_app (Rb w a) (piece_app (Q7 w a) (h)))))));rw [← Qj] at k;exact go_top (n:=12) (N:=12466) (Y6 w a) (piece_block (n:=1) (N:=12465) (Xl w a) k)
theorem run (w:World) (a:OsState):(topFrom treeTable pp w 12478 (Gj w a)).map (fun s=>(openSeen vw ls (importedModules pp.main.body) Xt true s,hk.obs s))=some (openGood vw ls,hk.val w):=G3 (s0:=Gj w a) (by kernel_rfl) (by kernel_rfl) (by kernel_rfl) (chain w a) (last w a)
theorem left:LeftO (OpenRow.toRowW PySem.Challenge.rw_lanescribe_k64_missed_and_stopped_at_onc.row).prog vw ls Xt hk.obs hk.val 12478:=Ar openP (by decide) (fun s=>by kernel_rfl) run
theorem head (h:(OpenRow.toRowW PySem.Challenge.rw_lanescribe_k64_missed_and_stopped_at_onc.row).promised) {d:DefRec} {b:List (Str×Expr)} (c:defOf vw PySem.Challenge.rw_lanescribe_k64_missed_and_stopped_at_onc.row.name=some (d,b)) (i:PySem.Challenge.rw_lanescribe_k64_missed_and_stopped_at_onc.row.prog.theDef PySem.Challenge.rw_lanescribe_k64_missed_and_stopped_at_onc.row.name=some (d.params,d.body,d.scope)) (g:kwWritten? d.params.kwonlyargs d.params.kw_defaults=some b)
 (j:WalkO vw ls (XL vw lv) (kmHook KK Uh eK [871,1563]).says (OpenRow.toRowW PySem.Challenge.rw_lanescribe_k64_missed_and_stopped_at_onc.row) d b fun f vs=>PySem.call f vs):PySem.Challenge.rw_lanescribe_k64_missed_and_stopped_at_onc.Holds:=
 holds_law said fun a=>holds_open (q:=vw) (loose:=ls) (Xt:=Xt) (XP:=XL vw lv) (Yf:=hk.obs) (Ya:=hk.val) (YP:=hk.says) (N:=12478) left hk.of hk.keeps (fun s e=>xl_of s (Bool.and_eq_true_iff.mp e).1) XL.keeps c i g (fun s e=>recFacts_of (Bool.and_eq_true_iff.mp e).2) (by rfl) a (by decide +kernel) ⟨rfl,rfl,rfl,rfl,rfl,by decide +kernel⟩ h j
end
end Kd
local macro_rules|`(tactic|ext)=>`(tactic|first|exact ⟨rfl,rfl,rfl,by decide +kernel,rfl,by decide +kernel,by decide +kernel⟩|exact ⟨rfl,by decide +kernel,by decide +kernel,by decide +kernel,rfl,by decide +kernel⟩|exact aaX rfl|(intro _ _ _ _ h;repeat first|exact aaM List.length h.1|obtain ⟨_,h⟩:=h)|decide +kernel)
set_option bootstrap.genMatcherCode false
noncomputable section
local macro_rules|`(tactic|omega)=>`(tactic|first|assumption|exact Nat.le_trans (by assumption) (by decide)|exact Nat.le_of_lt (by assumption)|lia)
namespace L2
open PySem PySem.Spec PyProof.Rows
abbrev Key:=Sum Int Str
noncomputable def qb:Key->Value->Bool
 |.inl k,v=>Value.isInt k v
 |.inr x,v=>Value.isStrOf x v
noncomputable def V0 (w:Z5):Key->Int
 |.inl k=>hashInt k
 |.inr x=>hashStr w x
theorem fj:∀ {k:Key} {v:Z6},qb k v=true->(∃ i t,k=Sum.inl i/\v=Value.int i t)∨(∃ x t,k=Sum.inr x/\v=Value.str x t)
 | .inl i,v,h=>by obtain ⟨t,e⟩:=Value.isInt_shape (k:=i) (v:=v) h;exact .inl ⟨i,t,rfl,e⟩
 | .inr x,v,h=>by obtain ⟨t,e⟩:=Value.isStrOf_shape (x:=x) (v:=v) h;exact .inr ⟨x,t,rfl,e⟩
theorem Am (i:Int) (t:Tok):qb (.inl i) (.int i t)=true:=by simp [qb,Value.isInt]
theorem Ag (x:Str) (t:Tok):qb (.inr x) (.str x t)=true:=by simp [qb,Value.isStrOf]
theorem Ku (a b:Int):decide ((Sum.inl a:Key)=Sum.inl b)=(a == b):=by
 by_cases e:a=b
 ·subst e;simp
 ·have h:¬ (Sum.inl a:Key)=Sum.inl b:=fun q=>e (Sum.inl.inj q);rw [aaY h];exact (abx.mpr e).symm
theorem Lb (a b:Str):decide ((Sum.inr a:Key)=Sum.inr b)=decide (a=b):=by
 by_cases e:a=b
 ·subst e;simp
 ·have h:¬ (Sum.inr a:Key)=Sum.inr b:=fun q=>e (acd q);rw [aaY h,aaY e]
theorem Nx (a:Int) (b:Str):decide ((Sum.inl a:Key)=Sum.inr b)=false:=aaY (fun q=>nomatch q)
theorem Lw (a:Str) (b:Int):decide ((Sum.inr a:Key)=Sum.inl b)=false:=aaY (fun q=>nomatch q)
def fY (c:Z4) (w:Z5):PySem.KeyKind c w Key where
 is:=qb
 hash:=V0 w
 inj:=fun v a b g f=>by
  rcases fj g with ⟨i,t,rfl,rfl⟩|⟨x,t,rfl,rfl⟩
  ·rcases fj f with ⟨j,u,rfl,e⟩|⟨y,u,rfl,e⟩
   ·injection e with e1 _;rw [e1]
   ·exact nomatch e
  ·rcases fj f with ⟨j,u,rfl,e⟩|⟨y,u,rfl,e⟩
   ·exact nomatch e
   ·injection e with e1 _;rw [e1]
 byValue:=fun k v h=>by rcases fj h with ⟨i,t,rfl,rfl⟩|⟨x,t,rfl,rfl⟩ <;> rfl
 pyHash:=fun d h=>by
  rcases fj d with ⟨i,t,rfl,rfl⟩|⟨x,t,rfl,rfl⟩
  ·exact wpAny_pyHash_int h
  ·exact wpAny_pyHash_str h
 eqBool:=fun l d h=>by
  rcases fj l with ⟨i,t,rfl,rfl⟩|⟨x,t,rfl,rfl⟩
  ·rcases fj d with ⟨j,u,rfl,rfl⟩|⟨y,u,rfl,rfl⟩
   ·rw [Ku] at h;exact wpAny_eqBool_int h
   ·rw [Nx] at h;exact SeqAt.EqAt.int_str i t y u _ _ _ _ h
  ·rcases fj d with ⟨j,u,rfl,rfl⟩|⟨y,u,rfl,rfl⟩
   ·rw [Lw] at h;exact SeqAt.EqAt.str_int x t j u _ _ _ _ h
   ·rw [Lb] at h;exact wpAny_eqBool_str h
 «strs»:=fun k x t v h=>by
  rcases fj h with ⟨i,u,rfl,e⟩|⟨y,u,rfl,e⟩
  ·exact nomatch e
  ·injection e with e1 _
   subst e1;cases v <;> rfl
theorem wk (a:Z4) (w:Z5) (i:Int) (t:Tok):(fY a w).is (.inl i) (.int i t)=true:=Am i t
theorem u_ (a:Z4) (w:Z5) (x:Str) (t:Tok):(fY a w).is (.inr x) (.str x t)=true:=Ag x t
inductive V where
 |non|bl (b:Bool)|int (i:Int)|str (x:Str)|byt (b:Array UInt8)|flt (b:UInt64)|ref (a:Z0)|ty (n:String)
 deriving DecidableEq
def RelV:V->Value->Prop
 |.non,u=>u=Value.none
 |.bl b,u=>u=Value.bool b
 |.int i,u=>∃ t,u=Value.int i t
 |.str x,u=>∃ t,u=Value.str x t
 |.byt b,u=>∃ t,u=Value.bytes b t
 |.flt b,u=>∃ t,u=Value.float b t
 |.ref a,u=>u=Value.ref a
 |.ty n,u=>u=Value.type n
abbrev Vals:List V->List Value->Prop:=Paired RelV
theorem Vals.length (r:Vals xs a):xs.length=a.length:=aaZ r
theorem Vals.get:∀ {a:List V} {b:Ze} {i:Nat} {x:V},Vals a b->a[i]?=some x->∃ u,b[i]?=some u/\RelV x u
 |_,_,_,_,.nil,e=>by simp at e
 |_,_,0,_,.cons r _,e=>by simp at e;subst e;exact ⟨_,rfl,r⟩
 | _,_,i+1,x,.cons _ t,e=>by obtain ⟨u,c,d⟩:=Vals.get (i:=i) (x:=x) t (by simpa using e);exact ⟨u,by simpa using c,d⟩
theorem Vals.set (r:RelV x u):∀ {a:List V} {b:Ze} (i:Nat),Vals a b->Vals (a.set i x) (b.set i u)
 |_,_,_,.nil=>.nil
 |_,_,0,.cons _ t=>.cons r t
 |_,_,i+1,.cons q t=>.cons q (Vals.set r i t)
theorem Vals.append:∀ {a b:List V} {c d:Ze},Vals a c->Vals b d->Vals (a++b) (c++d)
 |_,_,_,_,.nil,s=>s
 |_,_,_,_,.cons r t,s=>.cons r (Vals.append t s)
theorem Vals.take:∀ {a:List V} {b:Ze} (n:Nat),Vals a b->Vals (a.take n) (b.take n)
 |_,_,0,_=>.nil
 |_,_,_+1,.nil=>.nil
 |_,_,n+1,.cons r t=>.cons r (Vals.take n t)
theorem Vals.drop:∀ {a:List V} {b:Ze} (n:Nat),Vals a b->Vals (a.drop n) (b.drop n)
 |_,_,0,r=>r
 |_,_,_+1,.nil=>.nil
 |_,_,n+1,.cons _ t=>Vals.drop n t
def jV:Option V->Option Value->Prop
 |some v,some u=>RelV v u
 |none,none=>True
 |_,_=>False
def KV {a:Type}:List (a×V)->List (a×Value)->Prop:=Paired fun (p:a×V) (q:a×Value)=>p.1=q.1/\RelV p.2 q.2
noncomputable def kV:Key->V
 |.inl i=>.int i
 |.inr x=>.str x
inductive HO where
 |lst (xs:List V)
 |tup (xs:List V)
 |dK (kvs:List (Key×V))|dT (kvs:List (List Key×V))
 |set (S:Int->Bool) (n:Nat)
 |ins (C dx:Z0) (fs:List (Str×V))
 |own (x:Z0)
 |xd (fs:List (Str×V))
 |met (f x:Z0)
 |rng (lo hi:Int)
 |frz (o:Obj) (u:HO)
 |tbl (ps:Zf)
 |ext (φ:Heap->Prop)
abbrev Hp:=Addr->Option HO
def upd (H:Hp) (a:Z0) (o:HO):Hp:=fun b=>if b=a then some o else H b
theorem a_:upd H a o a=some o:=by unfold upd;rw [aad rfl]
theorem b7 (h:b≠a):upd H a o b=H b:=by unfold upd;rw [aac h]
theorem gH:upd (upd H a o) a u=upd H a u:=by funext b;unfold upd;split <;> rfl
theorem iu {H:Hp} (h:H a=some o) (c:H b=some u) (d:o≠u):a≠b:=by intro e;subst e;rw [h] at c;exact d (aaQ c)
theorem cg {H:Hp} (h:H a=some o) (c:H b=none):a≠b:=by intro e;subst e;rw [h] at c;cases c
section
variable (P:Z4) (w:Z5)
def eU (H:Hp) (h:Z7) (a:Z0):HO->Prop
 |.lst d=>d.length≤sizeLine/\∃ (b:Ze) (n:Nat),Vals d b/\h.get? a=some { cls:=.type "list",data:=.seq b.toArray n }
 |.tup d=>d.length≤sizeLine/\∃ b:List Value,Vals d b/\IsTup h a b.toArray
 |.dK c=>c.length≤sizeLine/\(a == sysModules)=false/\∃ vs,KV c vs/\h.DictOf (fY P w) a vs
 |.dT c=>c.length≤sizeLine/\(a == sysModules)=false/\∃ d:List (List Key×Addr×Value),
  Paired (fun (p:List Key×V) (q:List Key×Addr×Value)=>p.1=q.1/\H q.2.1=some (.tup (p.1.map kV))/\RelV p.2 q.2.2) c d/\
  ∃ o i m,h.get? a=some o/\o.ExactDict/\o.data=.dict i m/\i.toList=d.map (entryOfKey (tupleKind (fY P w)))/\(d.map (·.1)).Nodup
 |.set S n=>h.SetOf (intKind P w) a S n
 |.ins C g fs=>H g=some (.own a)/\fs.length≤1000/\g≠a/\h.get? a=some (PySem.W.instObj C g)/\
  ∃ e,h.Ns1 g e/\(∀ f,jV (fs.lookup f) (e f))/\PySem.Within e (fs.map (·.1))
 |.own _=>∃ o,h.get? a=some o
 |.xd fs=>∃ e,h.Ns1 a e/\∀ f,jV (fs.lookup f) (e f)
 |.rng r s=>∃ t u v,h.get? a=some { cls:=.type "range",data:=.fields #[.int r t,.int s u,.int 1 v] }
 |.frz o u=>h.get? a=some o/\eU H h a u
 |.tbl y=>h.get? a=some { cls:=.none,data:=.fields y }
 |.met f x=>h.get? a=some (PySem.W.methodObj (.ref f) (.ref x))
 |.ext φ=>φ h/\(∃ o,h.get? a=some o)/\∀ j l:Heap,φ j->(∀ o,j.get? a=some o->l.get? a=some o)->φ l
def kO (H:Hp) (h:Z7):Prop:=∀ a o,H a=some o->eU P w H h a o
end
theorem eU.lt (x:eU P w H h a o):a<h.objs.size:=by
 cases o with
 |lst xs=>obtain ⟨_,_,_,_,e⟩:=x;exact aam e
 |tup xs=>obtain ⟨_,_,_,p⟩:=x;exact p.lt
 |dK kvs=>obtain ⟨_,_,_,_,o,_,_,e,_⟩:=x;exact aam e
 |dT kvs=>obtain ⟨_,_,_,_,o,_,_,e,_⟩:=x;exact aam e
 |set S n=>obtain ⟨o,_,_,_,e,_⟩:=x;exact aam e
 |ins C dx fs=>obtain ⟨_,_,_,e,_⟩:=x;exact aam e
 |own y=>obtain ⟨_,e⟩:=x;exact aam e
 |xd fs=>obtain ⟨_,⟨_,_,_,e,_⟩,_⟩:=x;exact aam e
 |rng lo hi=>obtain ⟨_,_,_,e⟩:=x;exact aam e
 |frz ob u=>obtain ⟨e,_⟩:=x;exact aam e
 |tbl ps=>exact aam (show h.get? a=some _ from x)
 |met f y=>exact aam (show h.get? a=some _ from x)
 |ext φ=>obtain ⟨_,⟨_,e⟩,_⟩:=x;exact aam e
theorem Paired.mapP {e g:Type} {F G:e->g->Prop}:∀ {c:List e} {d:List g},Paired F c d->(∀ a b,F a b->G a b)->Paired G c d
 |_,_,.nil,_=>.nil
 |_,_,.cons r t,f=>.cons (f _ _ r) (Paired.mapP t f)
theorem eU.stay {H H':Hp} {h h':Z7} (x:eU P w H h a o) (k:∀ b u,(b=a∨H b=some (.own a))->h.get? b=some u->h'.get? b=some u)
 (ho:∀ b,H b=some (.own a)->H' b=some (.own a)) (ht:∀ b xs,H b=some (.tup xs)->H' b=some (.tup xs)):eU P w H' h' a o:=by
 induction o with
 |lst xs=>obtain ⟨z,its,n,r,e⟩:=x;exact ⟨z,its,n,r,k _ _ (.inl rfl) e⟩
 |tup xs=>obtain ⟨z,its,r,ob,e,c⟩:=x;exact ⟨z,its,r,ob,k _ _ (.inl rfl) e,c⟩
 |dK kvs=>obtain ⟨z,y,vs,r,ob,es,ep,e,c⟩:=x;exact ⟨z,y,vs,r,ob,es,ep,k _ _ (.inl rfl) e,c⟩
 | dT kvs=>obtain ⟨z,y,xs,r,ob,es,ep,e,c⟩:=x;exact ⟨z,y,xs,Paired.mapP r fun p q z=>⟨z.1,ht _ _ z.2.1,z.2.2⟩,ob,es,ep,k _ _ (.inl rfl) e,c⟩
 |set S n=>obtain ⟨ob,es,ep,t,e,c⟩:=x;exact ⟨ob,es,ep,t,k _ _ (.inl rfl) e,c⟩
 | ins C dx fs=>obtain ⟨d,z,ne,e,mA,⟨od,es,ep,e2,c⟩,r⟩:=x;exact ⟨ho _ d,z,ne,k _ _ (.inl rfl) e,mA,⟨od,es,ep,k _ _ (.inr d) e2,c⟩,r⟩
 |own y=>obtain ⟨ob,e⟩:=x;exact ⟨ob,k _ _ (.inl rfl) e⟩
 |xd fs=>obtain ⟨mA,⟨od,es,ep,e,c⟩,r⟩:=x;exact ⟨mA,⟨od,es,ep,k _ _ (.inl rfl) e,c⟩,r⟩
 |rng lo hi=>obtain ⟨t,u,v,e⟩:=x;exact ⟨t,u,v,k _ _ (.inl rfl) e⟩
 |frz ob u ih=>obtain ⟨e,q⟩:=x;exact ⟨k _ _ (.inl rfl) e,ih q⟩
 | tbl ps=>have e:h.get? a=some { cls:=.none,data:=.fields ps }:=x;show h'.get? a=some { cls:=.none,data:=.fields ps };exact k a _ (.inl rfl) e
 | met f y=>have e:h.get? a=some (PySem.W.methodObj (.ref f) (.ref y)):=x;show h'.get? a=some (PySem.W.methodObj (.ref f) (.ref y));exact k a _ (.inl rfl) e
 |ext φ=>obtain ⟨p,⟨o,e⟩,st⟩:=x;exact ⟨st _ _ p fun o q=>k _ _ (.inl rfl) q,⟨o,k _ _ (.inl rfl) e⟩,st⟩
theorem kO.lt (x:kO P w H h) (e:H a=some o):a<h.objs.size:=(x a o e).lt
theorem kO.fresh (x:kO P w H h) (e:h.objs.size≤a):H a=none:=by
 cases q:H a with
 |none=>rfl
 |some u=>exact absurd (aas (x.lt q) e) (aaP _)
theorem kO.kept (x:kO P w H h) (k:∀ b u,h.get? b=some u->h'.get? b=some u):kO P w H h':=fun a o e=>(x a o e).stay (fun b u _ q=>k b u q) (fun _ q=>q) fun _ _ q=>q
theorem kO.laid {h h':Z7} (x:kO P w H h) (k:∀ b u,h.get? b=some u->h'.get? b=some u) (g:h.objs.size≤a) (new:eU P w (upd H a o) h' a o):kO P w (upd H a o) h':=fun b u e=>by
 have d:=x.fresh g;by_cases f:b=a
 ·subst f;rw [a_] at e;cases e;exact new
 ·rw [b7 f] at e;exact (x b u e).stay (fun c v _ q=>k c v q) (fun c q=>by rw [b7 (cg q d)];exact q) fun c i q=>by rw [b7 (cg q d)];exact q
def Rd (H:Hp) (a:Z0) (u:HO):Prop:=H a=some u∨∃ o,H a=some (.frz o u)
theorem Rd.ok (r:Rd H a u) (x:kO P w H h):eU P w H h a u:=by
 rcases r with r|⟨o,r⟩
 ·exact x a u r
 ·obtain ⟨_,q⟩:=x a _ r;exact q
def RC:Option HO->Prop
 |some (.lst _)=>True
 |some (.dK _)=>True
 |some (.dT _)=>True
 |some (.set _ _)=>True
 |some (.ins _ _ _)=>True
 |some (.ext _)=>True
 |_=>False
theorem kO.write (ok:kO P w H h) (l:RC (H x)) (o:e=x∨H e=some (.own x)) (k:∀ b u,b≠e->h.get? b=some u->h'.get? b=some u) (m:∃ u,h'.get? e=some u)
 (new:eU P w (upd H x s) h' x s):kO P w (upd H x s) h':=fun b u q=>by
 have d:∀ c y,H c=some (.own y)->c≠x:=fun c y r z=>by subst z;rw [r] at l;exact l
 have f:∀ c g,H c=some (.tup g)->c≠x:=fun c g r z=>by subst z;rw [r] at l;exact l
 by_cases j:b=x
 ·subst j;rw [a_] at q;cases q;exact new
 ·rw [b7 j] at q;by_cases a:b=e
  ·have n:H b=some (.own x):=by
    rcases o with z|z
    ·exact absurd (a.trans z) j
    ·rw [a];exact z
   rw [q] at n;cases n;obtain ⟨v,p⟩:=m;exact ⟨v,by rw [a];exact p⟩
  ·refine (ok b u q).stay (fun c v i r=>k c v ?_ r) (fun c r=>by rw [b7 (d c b r)];exact r) fun c g r=>by rw [b7 (f c g r)];exact r
   rcases i with rfl|i
   ·exact a
   ·rintro rfl;rcases o with z|z
    ·exact d c b i z
    ·rw [i] at z;cases z;exact j rfl
structure Un (fs ex:Zh) (H H':Hp) (h h':Z7):Prop where
 keep:∀ b o,h.get? b=some o->H b=none->b∉fs->b∉ex->h'.get? b=some o
 slot:∀ b o,h.get? b=some o->H b=none->b∈fs->b∉ex->∃ sl,h'.get? b=some { o with slots:=sl }
 free:∀ b o,h.get? b=some o->H b=none->b∉ex->H' b=none
 there:∀ b o,h.get? b=some o->b∉ex->∃ o',h'.get? b=some o'
 tups:∀ b xs,H b=some (.tup xs)->H' b=some (.tup xs)
 frzs:∀ b o u,H b=some (.frz o u)->H' b=some (.frz o u)
 tbls:∀ b ps,H b=some (.tbl ps)->∃ more,H' b=some (.tbl (ps++more))
theorem Un.any (u:Un fs a H i h e) (q:h.get? b=some c) (n:H b=none) (f:b∉a):∃ g,e.get? b=some { c with slots:=g }:=by
 by_cases d:b∈fs
 ·exact u.slot b c q n d f
 ·exact ⟨c.slots,u.keep b c q n d f⟩
theorem Un.kept (k:∀ b u,h.get? b=some u->h'.get? b=some u):Un fs a H H h h':=
 ⟨fun b c q _ _ _=>k b c q,fun b c q _ _ _=>⟨c.slots,k b c q⟩,fun _ _ _ n _=>n,fun b c q _=>⟨c,k b c q⟩,fun _ _ q=>q,fun _ _ _ q=>q,fun _ d q=>⟨#[],by rw [q];simp⟩⟩
theorem Un.refl:Un fs a H H h h:=Un.kept fun _ _ q=>q
theorem Un.laid {H:Hp} {h h':Z7} (k:∀ b u,h.get? b=some u->h'.get? b=some u) (f:h.objs.size≤a) (c:H a=none):Un fs e H (upd H a o) h h' where
 keep:=fun b u q _ _ _=>k b u q
 slot:=fun b u q _ _ _=>⟨u.slots,k b u q⟩
 free:=fun b u q n _=>by rw [b7 (aap (aas (aam q) f))];exact n
 there:=fun b u q _=>⟨u,k b u q⟩
 tups:=fun b d q=>by rw [b7 (cg q c)];exact q
 frzs:=fun b u d q=>by rw [b7 (cg q c)];exact q
 tbls:=fun b g q=>⟨#[],by rw [b7 (cg q c),q];simp⟩
theorem Un.write (d:RC (H x)) (m:e=x∨H e=some (.own x)) (k:∀ b u,b≠e->h.get? b=some u->h'.get? b=some u) (g:∃ u,h'.get? e=some u):Un fs a H (upd H x o) h h':=by
 have i:∀ b,H b=none->b≠x:=fun b n z=>by subst z;rw [n] at d;exact d
 have j:∀ b,H b=none->b≠e:=fun b n z=>by
  subst z;rcases m with r|r
  ·exact i b n r
  ·rw [n] at r;cases r
 have f:∀ b u,H b=some u->¬ RC (some u)->b≠x:=fun b u q nm z=>by subst z;rw [q] at d;exact nm d
 refine ⟨fun b u q n _ _=>k b u (j b n) q,fun b u q n _ _=>⟨u.slots,k b u (j b n) q⟩,fun b u q n _=>by rw [b7 (i b n)];exact n,fun b u q _=>?_,
  fun b l q=>by rw [b7 (f b _ q fun z=>z)];exact q,fun b u l q=>by rw [b7 (f b _ q fun z=>z)];exact q,fun b p q=>⟨#[],by rw [b7 (f b _ q fun z=>z),q];simp⟩⟩;by_cases c:b=e
 ·subst c;exact g
 ·exact ⟨u,k b u c q⟩
noncomputable def Ua (h:Z7) (H:Hp):List Addr:=(List.range h.objs.size).filter fun a=>(H a).isSome
def vq (h:Z7) (H:Hp):Heap:=PySem.W.hideAll h (Ua h H)
theorem Ac (h:Z7) (H:Hp):(vq h H).objs.size=h.objs.size:=PySem.W.hideAll_size _ _
theorem qD (e:h.get? b=some o) (n:H b=none):(vq h H).get? b=some o:=
 PySem.W.hideAll_get _ e fun a=>by have q:(H b).isSome=true:=(List.mem_filter.mp a).2;rw [n] at q;simp at q
theorem Jf (e:(vq h H).get? b=some o):h.get? b=some o/\H b=none:=by
 have a:h.get? b=some o:=PySem.W.of_hideAll (Ua h H) e;refine ⟨a,?_⟩;cases q:H b with
 |none=>rfl
 | some x=>have c:b∈Ua h H:=List.mem_filter.mpr ⟨ace.mpr (aam a),by simp [q]⟩;have z:(vq h H).get? b=none:=PySem.W.hideAll_none (Ua h H) c;rw [z] at e;cases e
structure Mod (K:Z2) (mg:Zc) (base:Z7):Prop where
 kin:K.In base
 glob:base.Ns mainGlobals mg
 blt:∃ mb,base.Ns builtinsNs mb/\∀ x:Str,x ≠ "__name__"->mb x=bootBuiltins x
 nolimit:base.NoLimit
structure Cx where
 prog:Program
 w:World
 K:PySem.W.Frag
 mg:Str->Option Value
 base:Heap
 A:Around
 N:List Str
 s₀:Shared
 H₀:Hp
 env:Env
 outer:List Env
 stack:List Env
 ex:List Addr
 fn:Str->Bool
 calm:Bool
 pn:List (Addr×Obj)
 xe:Value->Shared->Prop
noncomputable def frs (l:List Env):List Addr:=l.filterMap (·.frame)
abbrev Cx.fs (X:Cx):List Addr:=frs X.outer
def KQ (a:Za) (x:Str):Prop:=a.names.lookup x=some .local∨a.names.lookup x=some .cell∨a.names.lookup x=some .free
def Loc (a:Za) (x:Str):Prop:=a.names.lookup x=some .local∨a.names.lookup x=some .cell
def Look (env:Env) (h:Z7) (m:Zc) (x:Str) (u:Z6):Prop:=
 (env.kindOf x=some .local/\m x=some u)∨((env.kindOf x=some .cell∨env.kindOf x=some .free)/\∃ c,env.cells.lookup x=some c/\h.IsCell c (some u))
structure Cx.Ok (X:Cx):Prop where
 mod:Mod X.K X.mg X.base
 kind:X.env.scope.kind=.function
 glob:X.env.globals=mainGlobals
 blt:X.env.builtins=builtinsNs
 above:X.s₀.heap.objs.size≤X.env.locals
 inj:∀ x y c,X.env.cells.lookup x=some c->X.env.cells.lookup y=some c->x=y
 has:∀ x,(X.env.kindOf x=some .cell∨X.env.kindOf x=some .free)->∃ c,X.env.cells.lookup x=some c
 cab:∀ x c,X.fn x=true->X.env.cells.lookup x=some c->X.s₀.heap.objs.size≤c
 hd:X.calm=true->X.A.handled=none
 frames:X.A.frames=some X.stack
 stk:X.stack=X.outer∨(X.stack=X.env::X.outer/\X.env.frame=some X.env.locals)
 exf:∀ b∈X.ex,b≠X.env.locals/\∀ x c,X.env.cells.lookup x=some c->c≠b
 bs:∀ b o,X.base.get? b=some o->X.s₀.heap.get? b=some o/\X.H₀ b=none
 bsz:X.base.objs.size≤X.s₀.heap.objs.size
 noex:∀ b o,X.base.get? b=some o->b∉X.ex
 exfs:∀ b∈X.ex,b∉X.fs
 funs:X.s₀.heap.FunFrames X.base X.outer
 frf:∀ b∈X.fs,X.H₀ b=none
structure Inv (X:Cx) (cW:Zi) (σ:List (Option V)) (H:Hp) (s:Z1):Prop where
 ok:X.Ok
 os:s.os=X.s₀.os
 bare:AllBare s.gens
 base:Un X.fs X.ex X.H₀ H X.s₀.heap s.heap
 loc:∃ m,s.heap.Ns X.env.locals m/\∀ (i:Nat) (x:Str) (v:V),X.N[i]?=some x->σ[i]?=some (some v)->KQ X.env.scope x->∃ u,RelV v u/\Look X.env s.heap m x u
 cell:∀ x c,X.env.cells.lookup x=some c->∃ v,s.heap.IsCell c v
 free:H X.env.locals=none
 freeC:∀ x c,X.env.cells.lookup x=some c->H c=none
 pin:∀ p∈X.pn++cW,s.heap.get? p.1=some p.2/\H p.1=none/\p.1≠X.env.locals/\p.1∉X.fs/\∀ v,p.2.data≠.cell v
 hok:kO X.prog X.w H s.heap
 len:σ.length=X.N.length
section
variable {X:Cx} {cW:Zi} {σ:List (Option V)} {H H':Hp} {s:Z1} {h':Z7}
theorem Cx.Ok.nofr (ok:X.Ok) (e:X.base.get? b=some o):b∉X.fs:=fun a=>by have:=(ok.funs.mem a).1;rw [e] at this;cases this
theorem Inv.bs (I:Inv X cW σ H s):∀ b o,X.base.get? b=some o->s.heap.get? b=some o/\H b=none:=fun b o e=>⟨I.base.keep b o (I.ok.bs b o e).1 (I.ok.bs b o e).2 (I.ok.nofr e) (I.ok.noex b o e),I.base.free b o (I.ok.bs b o e).1 (I.ok.bs b o e).2 (I.ok.noex b o e)⟩
theorem Inv.bk (I:Inv X cW σ H s):∀ b o,X.base.get? b=some o->s.heap.get? b=some o:=fun b o e=>(I.bs b o e).1
theorem Inv.mod (I:Inv X cW σ H s):Mod X.K X.mg X.base:=I.ok.mod
theorem Inv.kIn (I:Inv X cW σ H s):X.K.In s.heap:=I.ok.mod.kin.keeps I.bk
theorem Inv.fr (I:Inv X cW σ H s):∃ m,Fr X.base X.env.locals s.heap m:=
 let ⟨m,a,_⟩:=I.loc
 ⟨m,a,I.bk,aaj I.ok.bsz I.ok.above⟩
theorem Inv.lt (I:Inv X cW σ H s):X.env.locals<s.heap.objs.size:=let ⟨_,a,_⟩:=I.loc;a.lt
theorem Inv.sz (I:Inv X cW σ H s):X.s₀.heap.objs.size≤s.heap.objs.size:=aaj I.ok.above (Nat.le_of_lt I.lt)
theorem Inv.nofs (I:Inv X cW σ H s) (h:s.heap.objs.size≤a):a∉X.fs:=fun b=>by obtain ⟨_,o,c,_⟩:=I.ok.funs.mem b;exact absurd (aas (aam c) (aaj I.sz h)) (aaP _)
theorem Inv.cne (I:Inv X cW σ H s):∀ x c,X.env.cells.lookup x=some c->c≠X.env.locals:=fun x c e z=>by obtain ⟨v,o,d,hd⟩:=I.cell x c e;obtain ⟨m,⟨f,g,h,a,b,_⟩,_⟩:=I.loc;rw [z,a] at d;cases d;rw [b] at hd;cases hd
theorem Inv.funs (I:Inv X cW σ H s):s.heap.FunFrames X.base X.outer:=by
 have all:∀ (l:List Env),(∀ b∈frs l,b∈X.fs)->X.s₀.heap.FunFrames X.base l->s.heap.FunFrames X.base l:=by
  intro l;induction l with
  |nil=>intro _ _;trivial
  | cons env r m=>intro f j;obtain ⟨hk,⟨L,o,d,g,h,hd⟩,i⟩:=j;have c:L∈X.fs:=f L (by unfold frs;rw [abO,d];exact aan);obtain ⟨n,e⟩:=I.base.slot L o h (I.ok.frf L c) c fun z=>I.ok.exfs L z c;exact ⟨hk,⟨L,_,d,g,e,hd⟩,m (fun b a=>f b (by unfold frs;rw [abO,d];exact aag _ a)) i⟩
 exact all X.outer (fun _ a=>a) I.ok.funs
theorem Inv.stack (I:Inv X cW σ H s):s.heap.FunFrames X.base X.stack:=by
 rcases I.ok.stk with e|⟨e,b⟩
 ·rw [e];exact I.funs
 ·rw [e];obtain ⟨m,a,_⟩:=I.loc;refine .cons (by rw [I.ok.kind];decide) b a ?_ I.funs;exact acC (aaj I.ok.bsz I.ok.above)
theorem Inv.stkSub (I:Inv X cW σ H s):∀ b∈frs X.stack,b∈X.env.locals::X.fs:=fun b a=>by
 rcases I.ok.stk with e|⟨e,c⟩
 ·rw [e] at a;exact aag _ a
 ·rw [e] at a;unfold frs at a;rw [abO,c] at a;exact a
theorem Inv.stkFree (I:Inv X cW σ H s):∀ b∈frs X.stack,H b=none:=fun b a=>by
 rcases aaf.mp (I.stkSub b a) with e|a
 ·rw [e];exact I.free
 ·obtain ⟨_,o,c,_⟩:=I.ok.funs.mem a;exact I.base.free b o c (I.ok.frf b a) fun z=>I.ok.exfs b z a
theorem Inv.step {g':Array GenState} {t':Nat} {d':Drawn} {ch:Zh} (I:Inv X cW σ H s)
 (h:∀ b∈ch,(b∈X.ex∨X.s₀.heap.objs.size≤b)/\b≠X.env.locals/\(∀ x c,X.env.cells.lookup x=some c->c≠b)/\∀ p∈X.pn++cW,p.1≠b)
 (keep:∀ b o,b≠X.env.locals->b∉X.fs->b∉ch->s.heap.get? b=some o->H b=none->h'.get? b=some o)
 (A:∀ b o,b≠X.env.locals->b∈X.fs->b∉ch->s.heap.get? b=some o->H b=none->∃ P,h'.get? b=some { o with slots:=P }) (free:∀ b o,b∉ch->s.heap.get? b=some o->H b=none->H' b=none)
 (C:∀ b o,b∉ch->s.heap.get? b=some o->∃ F,h'.get? b=some F)
 (L:∀ b y,H b=some (.tup y)->H' b=some (.tup y)) (M:∀ b o u,H b=some (.frz o u)->H' b=some (.frz o u)) (N:∀ b O,H b=some (.tbl O)->∃ G,H' b=some (.tbl (O++G)))
 (ns:∀ m,s.heap.Ns X.env.locals m->h'.Ns X.env.locals m) (R:kO X.prog X.w H' h') (hg:AllBare g') :
 Inv X cW σ H' { s with heap:=h',gens:=g',drawn:=d',toks:=t' }:=by
 have J:∀ b o,X.s₀.heap.get? b=some o->b≠X.env.locals:=fun b o e=>aap (aas (aam e) I.ok.above);have w:∀ b o,X.s₀.heap.get? b=some o->b∉X.ex->b∉ch:=fun b o e a B=>by
  rcases (h b B).1 with z|z
  ·exact a z
  ·exact absurd (aas (aam e) z) (aaP _)
 have f:∀ x c,X.env.cells.lookup x=some c->∀ v,s.heap.IsCell c v->h'.IsCell c v:=fun x c e v ⟨o,D,hd⟩=>by
  have g:c∉ch:=fun z=>(h c z).2.2.1 x c e rfl;by_cases T:c∈X.fs
  ·obtain ⟨P,q⟩:=A c o (I.cne x c e) T g D (I.freeC x c e);exact ⟨_,q,hd⟩
  ·exact ⟨o,keep c o (I.cne x c e) T g D (I.freeC x c e),hd⟩
 refine ⟨I.ok,I.os,hg,⟨fun b o e n B a=>?_,fun b o e n B a=>?_,fun b o e n a=>?_,fun b o e a=>?_,fun b y e=>L b y (I.base.tups b y e),fun b o y e=>M b o y (I.base.frzs b o y e),fun b O e=>?_⟩,?_,fun x c e=>?_,?_,fun x c e=>?_,fun p S=>?_,R,I.len⟩
 ·exact keep b o (J b o e) B (w b o e a) (I.base.keep b o e n B a) (I.base.free b o e n a)
 ·obtain ⟨P,j⟩:=I.base.slot b o e n B a;obtain ⟨Q,E⟩:=A b _ (J b o e) B (w b o e a) j (I.base.free b o e n a);exact ⟨Q,E⟩
 ·obtain ⟨F,j⟩:=I.base.there b o e a;exact free b F (w b o e a) j (I.base.free b o e n a)
 ·obtain ⟨F,j⟩:=I.base.there b o e a;exact C b F (w b o e a) j
 ·obtain ⟨W,j⟩:=I.base.tbls b O e;obtain ⟨Y,E⟩:=N b _ j;exact ⟨W++Y,by rw [E,Array.append_assoc]⟩
 ·obtain ⟨m,Z,hl⟩:=I.loc;refine ⟨m,ns m Z,fun i x v j E U=>?_⟩;obtain ⟨u,r,l⟩:=hl i x v j E U;refine ⟨u,r,?_⟩;rcases l with l|⟨k,c,e,z⟩
  ·exact .inl l
  ·exact .inr ⟨k,c,e,f x c e _ z⟩
 ·obtain ⟨v,z⟩:=I.cell x c e;exact ⟨v,f x c e v z⟩
 ·obtain ⟨m,⟨o,_,_,D,_⟩,_⟩:=I.loc;exact free _ o (fun z=>(h _ z).2.1 rfl) D I.free
 ·obtain ⟨v,o,D,hd⟩:=I.cell x c e;exact free c o (fun z=>(h c z).2.2.1 x c e rfl) D (I.freeC x c e)
 ·obtain ⟨e,n,ne,nf,d⟩:=I.pin p S;have g:p.1∉ch:=fun z=>(h p.1 z).2.2.2 p S rfl;exact ⟨keep p.1 p.2 ne nf g e n,free p.1 p.2 g e n,ne,nf,d⟩
theorem Inv.un {t':Nat} (I:Inv X cW σ H s) (u:Un X.fs [] H H' s.heap h') (g:kO X.prog X.w H' h'):Inv X cW σ H' { s with heap:=h',toks:=t' }:=by obtain ⟨m,⟨o,q,v,h,r⟩,_⟩:=id I.loc;obtain ⟨w,j⟩:=u.any h I.free (by simp);exact I.step (g':=s.gens) (d':=s.drawn) (ch:=[]) (fun _ z=>nomatch z) (fun b o _ c _ e n=>u.keep b o e n c (by simp)) (fun b o _ c _ e n=>u.slot b o e n c (by simp)) (fun b o _ e n=>u.free b o e n (by simp)) (fun b o _ e=>u.there b o e (by simp)) u.tups u.frzs u.tbls (fun p i=>by obtain ⟨x,d,f,a,l⟩:=i;rw [h] at a;cases a;exact ⟨_,d,f,j,l⟩) g I.bare
theorem Inv.call {g':Array GenState} {t':Nat} {d':Drawn} {ch:Zh} (I:Inv X cW σ H s) (u:Un (frs X.stack) ch H H' s.heap h') (j:kO X.prog X.w H' h') (y:AllBare g')
 (f:∀ b∈ch,(b∈X.ex∨X.s₀.heap.objs.size≤b)/\b≠X.env.locals/\(∀ x c,X.env.cells.lookup x=some c->c≠b)/\∀ p∈X.pn++cW,p.1≠b) :
 Inv X cW σ H' { s with heap:=h',gens:=g',drawn:=d',toks:=t' }:=by
 obtain ⟨m,⟨o,B,C,l,r⟩,_⟩:=id I.loc;obtain ⟨D,g⟩:=u.any l I.free fun z=>(f _ z).2.1 rfl;exact I.step (ch:=ch) f (fun b o g q a e n=>u.keep b o e n (fun z=>(aaf.mp (I.stkSub b z)).elim g q) a) (fun b o _ _ a e n=>u.any e n a) (fun b o a e n=>u.free b o e n a) (fun b o a e=>u.there b o e a) u.tups u.frzs u.tbls (fun A v=>by obtain ⟨E,h,i,d,w⟩:=v;rw [l] at d;cases d;exact ⟨_,h,i,g,w⟩) j y
theorem Inv.turned {t':Nat} {it:Z0} (I:Inv X cW σ H s) (k:∀ b o,b≠it->s.heap.get? b=some o->h'.get? b=some o) (w:H it=none) (f:it≠X.env.locals)
 (y:it∈X.ex∨X.s₀.heap.objs.size≤it) (A:∀ x c,X.env.cells.lookup x=some c->c≠it) (B:∀ p∈X.pn++cW,p.1≠it):Inv X cW σ H { s with heap:=h',toks:=t' }:=by
 have d:∀ b u,H b=some u->b≠it:=fun b u e z=>by rw [z,w] at e;cases e
 refine I.step (g':=s.gens) (d':=s.drawn) (ch:=[it]) (fun b g=>?_) (fun b o _ _ a e _=>k b o (fun z=>a (by simp [z])) e) (fun b o _ _ a e _=>⟨o.slots,k b o (fun z=>a (by simp [z])) e⟩) (fun _ _ _ _ n=>n)
  (fun b o a e=>⟨o,k b o (fun z=>a (by simp [z])) e⟩) (fun _ _ e=>e) (fun _ _ _ e=>e) (fun b C e=>⟨#[],by rw [e];simp⟩) (fun m h=>?_) (fun b u e=>?_) I.bare
 ·have e:b=it:=by simpa using g
  subst e;exact ⟨y,f,A,B⟩
 ·obtain ⟨o,i,j,l,r⟩:=h;exact ⟨o,i,j,k _ o (aaC f) l,r⟩
 ·refine (I.hok b u e).stay (fun c v a q=>k c v ?_ q) (fun _ q=>q) fun _ _ q=>q;rcases a with z|z
  ·rw [z];exact d b u e
  ·exact d c _ z
theorem Inv.tok (I:Inv X cW σ H s) (t:Nat):Inv X cW σ H { s with toks:=t }:=I.un (h':=s.heap) (t':=t) Un.refl I.hok
theorem Inv.kept (I:Inv X cW σ H s) (k:∀ b u,s.heap.get? b=some u->h'.get? b=some u):Inv X cW σ H { s with heap:=h',toks:=t' }:=I.un (Un.kept k) (I.hok.kept k)
theorem Inv.laid (I:Inv X cW σ H s) (k:∀ b u,s.heap.get? b=some u->h'.get? b=some u) (c:s.heap.objs.size≤a) (new:eU X.prog X.w (upd H a o) h' a o) :
 Inv X cW σ (upd H a o) { s with heap:=h',toks:=t' }:=I.un (Un.laid k c (I.hok.fresh c)) (I.hok.laid k c new)
theorem Inv.write (I:Inv X cW σ H s) (c:RC (H x)) (d:e=x∨H e=some (.own x)) (k:∀ b u,b≠e->s.heap.get? b=some u->h'.get? b=some u) (a:∃ u,h'.get? e=some u)
 (new:eU X.prog X.w (upd H x o) h' x o):Inv X cW σ (upd H x o) { s with heap:=h',toks:=t' }:=I.un (Un.write c d k a) (I.hok.write c d k a new)
theorem Inv.pins_of (I:Inv X cW σ H s) (h:∀ p∈pins',s.heap.get? p.1=some p.2/\H p.1=none/\p.1≠X.env.locals/\p.1∉X.fs/\∀ v,p.2.data≠.cell v):Inv X pins' σ H s:=
 ⟨I.ok,I.os,I.bare,I.base,I.loc,I.cell,I.free,I.freeC,fun p a=>(aal.mp a).elim (fun z=>I.pin p (aaI _ z)) (h p),I.hok,I.len⟩
theorem mW {N:Zd} (e:N.Nodup) {i j:Nat} {x:Str} (a:N[i]?=some x) (b:N[j]?=some x):i=j:=by obtain ⟨f,c⟩:=aaG.mp a;obtain ⟨g,d⟩:=aaG.mp b;exact (List.getElem_inj e).mp (c.trans d.symm)
theorem zQ {M:Model} {A:Z8} {E:Zb} {i:Nat} {x:Str} {v:V} {u:Z6} {Q:Unit->Shared->Prop} (I:Inv X cW σ H s) (hN:X.N.Nodup) (U:X.N[i]?=some x) (B:Loc X.env.scope x) (r:RelV v u)
 (h:∀ s',Inv X cW (σ.set i (some v)) H s'->(∃ a,Heap.SameBut a s.heap s'.heap/\(a=X.env.locals∨X.env.cells.lookup x=some a))->Q () s') (hf:X.fn x=true∨X.env.scope.names.lookup x=some .local:=by first|exact .inl rfl|exact .inr rfl|assumption):wpAny M A (storeName X.env x u) Q E s:=by
 obtain ⟨m,hn,hl⟩:=id I.loc;have P:(X.env.scope.kind == .class || (X.env.scope.kind == .module && X.env.locals != X.env.globals))=false:=by rw [I.ok.kind];rfl
 have F:i<σ.length:=by rw [I.len];exact (aaG.mp U).1
 have cne:=I.cne;have l:∀ {a:Z0} {N:Z7},(∃ o,s.heap.get? a=some o/\H a=none)->Heap.SameBut a s.heap N->kO X.prog X.w H N:=fun {a N} ha f b ob e=>by
  obtain ⟨_,_,C⟩:=ha;refine (I.hok b ob e).stay (fun c W w q=>(f.2 c ?_).trans q) (fun _ q=>q) fun _ _ q=>q;rintro rfl;rcases w with rfl|w
  ·rw [C] at e;cases e
  ·rw [C] at w;cases w
 rcases B with hk|hk
 ·refine wpAny_storeName_local hk hn (fun N Z f=>?_) P;obtain ⟨oL,_,_,aa,_⟩:=id hn;refine h _ ⟨I.ok,I.os,I.bare,⟨fun b o e n G B=>?_,fun b o e n G B=>?_,I.base.free,fun b o e B=>?_,I.base.tups,I.base.frzs,I.base.tbls⟩,⟨_,Z,fun j y v' g D e3=>?_⟩,fun y c e=>?_,I.free,I.freeC,fun p hp=>?_,l ⟨oL,aa,I.free⟩ f,by simpa using I.len⟩ ⟨_,f,.inl rfl⟩
  ·exact (f.2 b (aap (aas (aam e) I.ok.above))).trans (I.base.keep b o e n G B)
  ·obtain ⟨sl,g⟩:=I.base.slot b o e n G B;exact ⟨sl,(f.2 b (aap (aas (aam e) I.ok.above))).trans g⟩
  ·obtain ⟨o',g⟩:=I.base.there b o e B;exact ⟨o',(f.2 b (aap (aas (aam e) I.ok.above))).trans g⟩
  ·by_cases L:j=i
   ·subst L;rw [U] at g;cases g;rw [abP F] at D;cases D;exact ⟨u,r,.inl ⟨hk,by simp⟩⟩
   ·rw [abQ (aaC L)] at D;obtain ⟨u',r',q⟩:=hl j y v' g D e3;refine ⟨u',r',?_⟩;rcases q with ⟨k,e⟩|⟨k,c,e,z⟩
    ·refine .inl ⟨k,?_⟩;have:y≠x:=fun e=>L (mW hN g (e ▸ U));simp [this,e]
    ·exact .inr ⟨k,c,e,z.sameBut f (cne y c e)⟩
  ·obtain ⟨W,z⟩:=I.cell y c e;exact ⟨W,z.sameBut f (cne y c e)⟩
  ·obtain ⟨e,n,ne,nf,d⟩:=I.pin p hp;exact ⟨(f.2 p.1 ne).trans e,n,ne,nf,d⟩
 ·have J:X.fn x=true:=by
   rcases hf with z|z
   ·exact z
   ·rw [z] at hk;cases hk
  obtain ⟨c,w⟩:=I.ok.has x (.inl hk);obtain ⟨W,z⟩:=I.cell x c w;refine wpAny_storeName_cell I.ok.kind hk w z (fun N O f=>?_);obtain ⟨oc,R,S⟩:=id z;refine h { s with heap:=N } ⟨I.ok,I.os,I.bare,⟨fun b o e n G B=>?_,fun b o e n G B=>?_,I.base.free,fun b o e B=>?_,I.base.tups,I.base.frzs,I.base.tbls⟩,⟨m,hn.sameBut f (aaC (cne x c w)),fun j y v' g D e3=>?_⟩,fun y Y e=>?_,I.free,I.freeC,fun p hp=>?_,l ⟨oc,R,I.freeC x c w⟩ f,by simpa using I.len⟩ ⟨c,f,.inr w⟩
  ·exact (f.2 b (aap (aas (aam e) (I.ok.cab x c J w)))).trans (I.base.keep b o e n G B)
  ·obtain ⟨sl,g⟩:=I.base.slot b o e n G B;exact ⟨sl,(f.2 b (aap (aas (aam e) (I.ok.cab x c J w)))).trans g⟩
  ·obtain ⟨o',g⟩:=I.base.there b o e B;exact ⟨o',(f.2 b (aap (aas (aam e) (I.ok.cab x c J w)))).trans g⟩
  ·by_cases L:j=i
   ·subst L;rw [U] at g;cases g;rw [abP F] at D;cases D;exact ⟨u,r,.inr ⟨.inl hk,c,w,O⟩⟩
   ·rw [abQ (aaC L)] at D;obtain ⟨u',r',q⟩:=hl j y v' g D e3;refine ⟨u',r',?_⟩;rcases q with q|⟨k,Y,e,z'⟩
    ·exact .inl q
    ·refine .inr ⟨k,Y,e,z'.sameBut f ?_⟩;rintro rfl;exact L (mW hN g (I.ok.inj _ _ _ e w ▸ U))
  ·by_cases T:Y=c
   ·subst T;exact ⟨_,O⟩
   ·obtain ⟨w2,z2⟩:=I.cell y Y e;exact ⟨w2,z2.sameBut f T⟩
  ·obtain ⟨e,n,ne,nf,d⟩:=I.pin p hp;refine ⟨(f.2 p.1 ?_).trans e,n,ne,nf,d⟩;intro q;rw [q,R] at e;have q':oc=p.2:=aaQ e;exact d W (by rw [← q'];exact S)
theorem j4 (I:Inv X cW σ H s) (c:X.N.Nodup) (d:X.N[i]?=some x) (e:Loc X.env.scope x) (r:RelV v u)
 (h:∀ a,Inv X cW (σ.set i (some v)) H a->Q () a) (f:X.fn x=true∨X.env.scope.names.lookup x=some .local:=by first|exact .inl rfl|exact .inr rfl|assumption):wpAny M A (storeName X.env x u) Q E s:=
 zQ I c d e r (fun a b _=>h a b) f
theorem Inv.call' (I:Inv X cW σ H s) (l:a.os=s.os) (u:Un (frs X.stack) ch H H' s.heap a.heap) (d:kO X.prog X.w H' a.heap) (m:AllBare a.gens)
 (f:∀ b∈ch,(b∈X.ex∨X.s₀.heap.objs.size≤b)/\b≠X.env.locals/\(∀ x c,X.env.cells.lookup x=some c->c≠b)/\∀ p∈X.pn++cW,p.1≠b):Inv X cW σ H' a:=by
 obtain ⟨n,g,h,i,j⟩:=a;have e:j=s.os:=l;subst e;exact I.call (g':=g) (t':=i) (d':=h) u d m f
end
abbrev XK:=Value->Option Addr->Hp->Prop
abbrev St:=List (Option V)
abbrev VK:=V->Hp->Prop
abbrev TE:=St->Hp->VK->Prop
abbrev TT:=St->Hp->(Bool->Hp->Prop)->Prop
abbrev TA:=St->Hp->(List V->Hp->Prop)->Prop
structure Ends where
 nx:St->Hp->Prop
 rt:VK
 bk:St->Hp->Prop:=fun _ _=>False
 ct:St->Hp->Prop:=fun _ _=>False
abbrev TS:=Ends->St->Hp->Prop
def EP (X:Cx) (a:Zi) (c:St) (Q:VK) (u:Z6) (d:Z1):Prop:=∃ v b,Inv X a c b d/\RelV v u/\Q v b
def TP (X:Cx) (a:Zi) (d:St) (Q:Bool->Hp->Prop) (b:Bool) (e:Z1):Prop:=∃ c,Inv X a d c e/\Q b c
def AP (X:Cx) (a:Zi) (c:St) (Q:List V->Hp->Prop) (d:Ze) (e:Z1):Prop:=∃ vs b,Inv X a c b e/\Vals vs d/\Q vs b
def SP (X:Cx) (b:Zi) (D:Ends) (f:Flow) (d:Z1):Prop:=
 match f with
 |.next=>∃ a c,Inv X b a c d/\D.nx a c
 |.brk=>∃ a c,Inv X b a c d/\D.bk a c
 |.cont=>∃ a c,Inv X b a c d/\D.ct a c
 |.ret u=>∃ v a c,Inv X b a c d/\RelV v u/\D.rt v c
def PE (X:Cx) (e:Z9) (t:TE):Prop:=
 ∀ (a:Zi) (s:Z1) (b:St) (H:Hp) (Q:VK),Inv X a b H s->t b H Q->wpAny (model X.prog X.w) X.A (eval e X.env) (EP X a b Q) X.xe s
def PT (X:Cx) (e:Z9) (t:TT):Prop:=
 ∀ (a:Zi) (s:Z1) (b:St) (H:Hp) (Q:Bool->Hp->Prop),Inv X a b H s->t b H Q->wpAny (model X.prog X.w) X.A (isTrue e X.env (eval e X.env)) (TP X a b Q) X.xe s
def PW (X:Cx) (e:Z9) (t:TT):Prop:=
 ∀ (b:Sem Value) (a:Zi) (s:Z1) (c:St) (H:Hp) (Q:Bool->Hp->Prop),Inv X a c H s->t c H Q->wpAny (model X.prog X.w) X.A (isTrue e X.env b) (TP X a c Q) X.xe s
theorem PW.pt (h:PW X e t):PT X e t:=h _
def PA (X:Cx) (d:Zl) (t:TA):Prop:=
 ∀ (b:Pos) (a:Zi) (s:Z1) (c:St) (H:Hp) (Q:List V->Hp->Prop),Inv X a c H s->t c H Q->wpAny (model X.prog X.w) X.A (spliced (backTo b (starEach d X.env))) (AP X a c Q) X.xe s
def PS (X:Cx) (c:Stmt) (t:TS):Prop:=
 ∀ (a:Zi) (s:Z1) (b:St) (H:Hp) (D:Ends),Inv X a b H s->t D b H->wpAny (model X.prog X.w) X.A (exec c X.env) (SP X a D) X.xe s
def u9 (X:Cx) (c:List Stmt) (t:TS):Prop:=
 ∀ (a:Zi) (s:Z1) (b:St) (H:Hp) (D:Ends),Inv X a b H s->t D b H->wpAny (model X.prog X.w) X.A (execs c X.env) (SP X a D) X.xe s
theorem eG {b:Type} {t:Sem b} {Q c:b->Shared->Prop} {M:Model} {A:Z8} {E:Zb} {s:Z1} (h:wpAny M A t Q E s) (d:∀ a s,Q a s->c a s):wpAny M A t c E s:=aaH h d fun _ _ x=>x
section
variable {X:Cx}
theorem bin {a b:Z9} {m n:TE} (w:PE X a m) (z:PE X b n) {c:Zi} {s:Z1} {e:St} {H:Hp} {R:V->V->Hp->Prop} (I:Inv X c e H s) (h:m e H fun x l=>n e l fun y d=>R x y d)
 {o:Type} {Q:o->Shared->Prop} {f:Value->Value->Sem o}
 (A:∀ v u j x y d,Inv X c e d j->RelV x v->RelV y u->R x y d->wpAny (model X.prog X.w) X.A (f v u) Q X.xe j) :
 wpAny (model X.prog X.w) X.A (eval a X.env) (fun v g=>wpAny (model X.prog X.w) X.A (eval b X.env) (fun u i=>wpAny (model X.prog X.w) X.A (f v u) Q X.xe i) X.xe g) X.xe s:=by
 refine eG (w c s e H _ I h) fun v p ⟨x,l,q,r1,q1⟩=>?_;refine eG (z c p e l _ q q1) fun u j ⟨y,d,r,r2,q2⟩=>?_;exact A v u j x y d r r1 r2 q2
def kJ (i:Nat):TE:=fun a H Q=>∃ v,a[i]?=some (some v)/\Q v H
def tC (v:V):TE:=fun _ H Q=>Q v H
theorem M_ (w:X.N[i]?=some x) (y:KQ X.env.scope x) (hd:(x == ("__debug__" : Str))=false:=by decide) (g:(x == ("__classdict__" : Str))=false:=by decide):PE X (.Name x f) (kJ i):=by
 intro d s p H Q I h;obtain ⟨v,e,h⟩:=h;obtain ⟨m,n,o⟩:=I.loc;obtain ⟨u,r,l⟩:=o i x v w e y;have b:EP X d p Q u s:=⟨v,H,I,r,h⟩;rcases l with ⟨hk,q⟩|⟨hk,c,j,a⟩
 ·exact abh (acf I.ok.kind hk n q b) hd
 ·rcases hk with hk|hk
  ·exact abh (acg I.ok.kind hk j a b) hd
  ·exact abh (acD I.ok.kind hk j a b g) hd
theorem cu {i j pos}:PE X (.Constant (.int i) j pos) (tC (.int i)):=fun _ _ _ H _ I h=>wpAny_Constant_int ⟨.int i,H,I.tok _,⟨_,rfl⟩,h⟩
theorem jf {b j pos}:PE X (.Constant (.bool b) j pos) (tC (.bl b)):=fun _ _ _ H _ I h=>Constant_bool ⟨.bl b,H,I,rfl,h⟩
theorem j9 {j pos}:PE X (.Constant .none j pos) (tC .non):=fun _ _ _ H _ I h=>Constant_none ⟨.non,H,I,rfl,h⟩
theorem cH {x j pos}:PE X (.Constant (.str x) j pos) (tC (.str x)):=fun _ _ _ H _ I h=>Calls.Constant_str ⟨.str x,H,I.tok _,⟨_,rfl⟩,h⟩
def Gl (X:Cx) (x:Str):Prop:=X.env.kindOf x=some .globalImplicit
theorem jD (I:Inv X a c H s) (d:Gl X x) (e:X.mg x=some u) (h:Q u s)
 (hd:(x == ("__debug__" : Str))=false:=by decide):wpAny (model X.prog X.w) X.A (eval (.Name x b) X.env) Q E s:=
 Calls.Name_function_global I.ok.kind d (Calls.loadGlobal_global (by rw [I.ok.glob];exact I.mod.glob.keeps I.bk) e h) hd
theorem mz (I:Inv X a e H s) (f:Gl X x) (g:X.mg x=none) (i:bootBuiltins x=some u) (h:Q u s)
 (j:x ≠ "__name__":=by decide) (hd:(x == ("__debug__" : Str))=false:=by decide):wpAny (model X.prog X.w) X.A (eval (.Name x b) X.env) Q E s:=by
 obtain ⟨l,c,d⟩:=I.mod.blt;exact Calls.Name_function_global I.ok.kind f (Calls.loadGlobal_builtin (by rw [I.ok.glob];exact I.mod.glob.keeps I.bk) g (by rw [I.ok.blt];exact c.keeps I.bk) ((d x j).trans i) h) hd
theorem ie (b:Gl X x) (c:X.mg x=some u) (r:RelV v u) (hd:(x == ("__debug__" : Str))=false:=by decide):PE X (.Name x a) (tC v):=
 fun _ _ _ H _ I h=>jD I b c ⟨v,H,I,r,h⟩ hd
theorem Iv (b:Gl X x) (c:X.mg x=none) (d:bootBuiltins x=some u) (r:RelV v u) (e:x ≠ "__name__":=by decide) (hd:(x == ("__debug__" : Str))=false:=by decide):PE X (.Name x a) (tC v):=
 fun _ _ _ H _ I h=>mz I b c d ⟨v,H,I,r,h⟩ e hd
def PC (X:Cx) (op:CmpOp) (a b:Z9) (t:TE):Prop:=
 ∀ (c:Zi) (s:Z1) (f:St) (H:Hp) (Q:VK),Inv X c f H s->t f H Q->
   wpAny (model X.prog X.w) X.A (eval a X.env) (fun v d=>wpAny (model X.prog X.w) X.A (eval b X.env) (fun u e=>wpAny (model X.prog X.w) X.A (compareOp op v u) (EP X c f Q) X.xe e) X.xe d) X.xe s
def tB (t:TE):TT:=fun d H Q=>t d H fun x e=>∃ c,x=.bl c/\Q c e
theorem xg {op:CmpOp} {t:TE} (h:PC X op a b t) (f:behindInMarks op b=false:=by first|exact nobehind _ (by decide) (by decide)|rfl):PT X (.Compare a [op] [b] r) (tB t):=by intro e s l H Q I m;refine wpAny_isTrue_Compare1 (eG (h e s l H _ I m) fun v n f=>eG f fun u o g=>eG g fun c p ⟨x,i,j,r1,q1⟩=>?_) f;obtain ⟨d,rfl,q⟩:=q1;cases r1;exact aa9 ⟨i,j,q⟩
theorem ik {e:Z9} {t:TE} (h:PE X e t) (m:∀ c,isTrue e X.env c=(do let v ← c;standAt e.pos;holding [v] (truthy v)):=by intro _;rfl):PT X e (tB t):=by intro f s j H Q I l;refine isTrue_plain (eG (h f s j H _ I l) fun v n ⟨x,g,i,r1,q1⟩=>?_) (m _);obtain ⟨d,rfl,q⟩:=q1;cases r1;exact aa9 ⟨g,i,q⟩
def Qw (t u:TT):TT:=fun d H Q=>t d H fun c e=>if c=true then u d e Q else Q false e
def Y8 (t u:TT):TT:=fun d H Q=>t d H fun c e=>if c=true then Q true e else u d e Q
def R0 (t:TT):TT:=fun d H Q=>t d H fun c e=>Q (!c) e
theorem uF (g:PT X a l):PW X (.BoolOp .And [a] b) l:=by
 intro j d s f H Q I h;refine isTrue_and (eG (g d s f H Q I h) fun c i e=>?_);cases c with
 |true=>exact isTrue_and_nil e
 |false=>exact e
theorem uL (g:PT X a l):PW X (.BoolOp .Or [a] b) l:=by
 intro j d s f H Q I h;refine isTrue_or (eG (g d s f H Q I h) fun c i e=>?_);cases c with
 |false=>exact isTrue_or_nil e
 |true=>exact e
theorem yz {a b:Z9} {n:Pos} {p o:TT} {rest:Zl} (l:PT X a p) (m:PW X (.BoolOp .And (b::rest) n) o):PW X (.BoolOp .And (a::b::rest) n) (Qw p o):=by
 intro j d s g H Q I h;refine isTrue_and (eG (l d s g H _ I h) fun c i ⟨e,f,q1⟩=>?_);cases c with
 |true=>exact m j d i g e Q f q1
 |false=>exact ⟨e,f,q1⟩
theorem yU {a b:Z9} {n:Pos} {p o:TT} {rest:Zl} (l:PT X a p) (m:PW X (.BoolOp .Or (b::rest) n) o):PW X (.BoolOp .Or (a::b::rest) n) (Y8 p o):=by
 intro j d s g H Q I h;refine isTrue_or (eG (l d s g H _ I h) fun c i ⟨e,f,q1⟩=>?_);cases c with
 |true=>exact ⟨e,f,q1⟩
 |false=>exact m j d i g e Q f q1
theorem iZ (g:PT X a i):PT X (.UnaryOp .Not a b) (R0 i):=by intro d s f H Q I h;exact isTrue_not (g d s f H (fun c e=>Q (!c) e) I h)
def Qu (f g:TE):TE:=fun d H Q=>f d H fun x e=>∃ c,x=.bl c/\if c=true then g d e Q else Q (.bl false) e
theorem qe {op} (h:PE X a t):PE X (.BoolOp op [a] b) t:=fun c s d H Q I e=>BoolOp_one (h c s d H Q I e)
theorem kh {a b:Z9} {n o:TE} {m:Pos} {rest:Zl} (j:PE X a n) (l:PE X (.BoolOp .And (b::rest) m) o):PE X (.BoolOp .And (a::b::rest) m) (Qu n o):=by
 intro d s g H Q I h;refine BoolOp_and (eG (j d s g H _ I h) fun v i ⟨x,e,f,r1,q1⟩=>?_);obtain ⟨c,rfl,q1⟩:=q1;cases r1;refine aa9 ?_;cases c with
 |true=>exact l d i g e Q f q1
 |false=>exact ⟨.bl false,e,f,rfl,q1⟩
def Xb (t:TT) (f g:TE):TE:=fun d H Q=>t d H fun c e=>if c=true then f d e Q else g d e Q
theorem nA {c:Z9} (l:PT X c p) (m:PE X a r) (n:PE X b q):PE X (.IfExp c a b o) (Xb p r q):=by
 intro e s f H Q I h;refine wpAny_IfExp (eG (l e s f H _ I h) fun d g ⟨i,j,q1⟩=>?_);cases d with
 |true=>exact m e g f i Q j q1
 |false=>exact n e g f i Q j q1
end
def dR (K:Z2) (H:Hp) (a:Z0) (c:List V):Prop:=
 Rd H a (.lst c)∨
  ∃ (o:Obj) (b:Zf) (n:Nat),K.lookup a=some o/\o.cls=.type "list"/\o.dict=none/\o.data=.seq b n/\b.size≤sizeLine/\Vals c b.toList
def eE (K:Z2) (H:Hp) (a:Z0) (c:List V):Prop:=
 Rd H a (.tup c)∨
  ∃ (o:Obj) (b:Zf) (n:Nat),K.lookup a=some o/\o.cls=.type "tuple"/\o.data=.seq b n/\b.size≤sizeLine/\Vals c b.toList
noncomputable def Ul:Value->Option V
 |.none=>some .non
 |.bool b=>some (.bl b)
 |.int i _=>some (.int i)
 |.str x _=>some (.str x)
 |.bytes b _=>some (.byt b)
 |.float b _=>some (.flt b)
 |.ref a=>some (.ref a)
 |.type n=>some (.ty n)
 |_=>none
theorem RelV.abs (r:RelV x u):Ul u=some x:=by
 cases x with
 |non=>cases r;rfl
 |bl _=>cases r;rfl
 |int _=>obtain ⟨t,rfl⟩:=r;rfl
 |str _=>obtain ⟨t,rfl⟩:=r;rfl
 |byt _=>obtain ⟨t,rfl⟩:=r;rfl
 |flt _=>obtain ⟨t,rfl⟩:=r;rfl
 |ref _=>cases r;rfl
 |ty _=>cases r;rfl
theorem RelV.inj (r:RelV x u) (q:RelV y u):x=y:=aaQ (r.abs.symm.trans q.abs)
theorem Vals.inj:∀ {xs a:List V} {b:Ze},Vals xs b->Vals a b->xs=a
 |_,_,_,.nil,.nil=>rfl
 |_,_,_,.cons r t,.cons r' t'=>by rw [r.inj r',Vals.inj t t']
theorem dR.of {H:Hp} {K:Z2} (h:H a=some (.lst b)):dR K H a b:=.inl (.inl h)
theorem eE.of {H:Hp} {K:Z2} (h:H a=some (.tup b)):eE K H a b:=.inl (.inl h)
theorem Inv.list (I:Inv X i j H s) (h:dR X.K H a g):∃ b:List Value,Vals g b/\PlainL s.heap a b.toArray/\g.length≤sizeLine:=by
 rcases h with h|⟨o,b,n,hk,c,hd,d,f,r⟩
 ·obtain ⟨z,b,n,r,e⟩:=h.ok I.hok;exact ⟨b,r,⟨_,n,e,rfl,rfl,rfl⟩,z⟩
 ·refine ⟨b.toList,r,⟨o,n,I.kIn a o hk,c,hd,by simpa using d⟩,?_⟩;have e:=r.length;simp only [acE] at e;omega
theorem Inv.tuple (I:Inv X i j H s) (h:eE X.K H a g):∃ b:List Value,Vals g b/\IsTup s.heap a b.toArray/\g.length≤sizeLine:=by
 rcases h with h|⟨o,b,n,hk,c,d,f,r⟩
 ·obtain ⟨z,b,r,p⟩:=h.ok I.hok;exact ⟨b,r,p,z⟩
 ·refine ⟨b.toList,r,⟨o,I.kIn a o hk,c,n,by simpa using d⟩,?_⟩;have e:=r.length;simp only [acE] at e;omega
theorem Inv.list_inj (I:Inv X p w H s) (h:dR X.K H a q) (j:dR X.K H a v):q=v:=by
 obtain ⟨c,r,⟨o,n,e,_,_,d⟩,_⟩:=I.list h;obtain ⟨b,i,⟨l,m,f,_,_,g⟩,_⟩:=I.list j;rw [e] at f;cases f;rw [d] at g;injection g with d1 _
 have:c=b:=by simpa using aaM Array.toList d1
 subst this;exact r.inj i
theorem Inv.tuple_inj (I:Inv X p w H s) (h:eE X.K H a q) (j:eE X.K H a v):q=v:=by
 obtain ⟨c,r,⟨o,e,_,n,d⟩,_⟩:=I.tuple h;obtain ⟨b,i,⟨l,f,_,m,g⟩,_⟩:=I.tuple j;rw [e] at f;cases f;rw [d] at g;injection g with d1 _
 have:c=b:=by simpa using aaM Array.toList d1
 subst this;exact r.inj i
abbrev Cx.wish (X:Cx) (E:Zb):Cx:={ X with xe:=E }
abbrev Cx.nox (X:Cx):Cx:=X.wish fun _ _=>False
theorem Cx.Ok.wish {X:Cx} (ok:X.Ok) (E:Zb):(X.wish E).Ok:=
 ⟨ok.mod,ok.kind,ok.glob,ok.blt,ok.above,ok.inj,ok.has,ok.cab,ok.hd,ok.frames,ok.stk,ok.exf,ok.bs,ok.bsz,ok.noex,ok.exfs,ok.funs,ok.frf⟩
theorem Cx.Ok.unwish {X:Cx} (ok:(X.wish E).Ok):X.Ok:=
 ⟨ok.mod,ok.kind,ok.glob,ok.blt,ok.above,ok.inj,ok.has,ok.cab,ok.hd,ok.frames,ok.stk,ok.exf,ok.bs,ok.bsz,ok.noex,ok.exfs,ok.funs,ok.frf⟩
theorem Inv.wish {X:Cx} (I:Inv X a b H s) (E:Zb):Inv (X.wish E) a b H s:=⟨I.ok.wish E,I.os,I.bare,I.base,I.loc,I.cell,I.free,I.freeC,I.pin,I.hok,I.len⟩
theorem Inv.unwish {X:Cx} (I:Inv (X.wish E) a b H s):Inv X a b H s:=⟨I.ok.unwish,I.os,I.bare,I.base,I.loc,I.cell,I.free,I.freeC,I.pin,I.hok,I.len⟩
theorem SP.unwish (h:SP (X.wish E) d D f c):SP X d D f c:=by
 cases f with
 |next=>obtain ⟨a,b,I,q⟩:=h;exact ⟨a,b,I.unwish,q⟩
 |brk=>obtain ⟨a,b,I,q⟩:=h;exact ⟨a,b,I.unwish,q⟩
 |cont=>obtain ⟨a,b,I,q⟩:=h;exact ⟨a,b,I.unwish,q⟩
 |ret u=>obtain ⟨v,a,b,I,r,q⟩:=h;exact ⟨v,a,b,I.unwish,r,q⟩
theorem u9.nox {X:Cx} {b:List Stmt} {t:TS} (h:u9 X.nox b t):u9 X b t:=fun a s c H D I d=>aaH (h a s c H D (I.wish _) d) (fun _ _ q=>q.unwish) fun _ _ z=>False.elim z
def oh:TS:=fun D a H=>D.nx a H
def Ob (t u:TS):TS:=fun D a H=>t { D with nx:=u D } a H
theorem cV:u9 X [] oh:=fun _ _ a H _ I h=>aby ⟨a,H,I,h⟩
theorem b8 {X:Cx} {e:Stmt} {rest:List Stmt} {t u:TS} (j:PS X e t) (l:u9 X rest u):u9 X (e::rest) (Ob t u):=by
 intro a s i H D I h;refine wpAny_execs_cons (eG (j a s i H { D with nx:=u D } I h) fun f c q=>?_);cases f with
 | next=>obtain ⟨b,d,g,q⟩:=q;exact l a c b d D g q
 |ret v=>exact q
 |brk=>exact q
 |cont=>exact q
theorem c7 {X:Cx} {e:Stmt} {t:TS} (c:PS X e t):u9 X [e] t:=by
 intro a s b H D I h;refine wpAny_execs_cons (eG (c a s b H D I h) fun f d q=>?_);cases f with
 |next=>exact aby q
 |ret v=>exact q
 |brk=>exact q
 |cont=>exact q
theorem Inv.quiet (I:Inv X a b H s):interactive X.env=false:=by simp [interactive,I.ok.kind]
def SX (c:TE):TS:=fun D a H=>c a H fun _ b=>D.nx a b
theorem d8 {X:Cx} {j:Pos} (f:PE X e l) (g:swapsWith e none j.line X.env=pure false:=by rfl):PS X (.Expr e j) (SX l):=by intro a s b H D I h;exact wpAny_Expr_any (eG (f a s b H _ I h) fun v i ⟨x,c,d,r1,q1⟩=>⟨b,c,d,q1⟩) I.quiet g
def VG (b:TE):TS:=fun D a H=>b a H D.rt
theorem cI (f:PE X e i):PS X (.Return (some e) j) (VG i):=by intro a s b H D I h;exact wpAny_Return_some (eG (f a s b H _ I h) fun v g ⟨x,c,d,r1,q1⟩=>⟨x,b,c,d,r1,q1⟩)
def RW (c:TT) (t u:TS):TS:=fun D a H=>c a H fun b d=>if b=true then t D a d else u D a d
theorem dW {c:Z9} {a b:List Stmt} {m:TT} (n:PT X c m) (o:u9 X a t) (p:u9 X b u):PS X (.If c a b e) (RW m t u):=by
 intro f s g H D I h;refine wpAny_If (eG (n f s g H _ I h) fun d i ⟨j,l,q1⟩=>?_);cases d with
 |true=>exact o f i g j D l q1
 |false=>exact p f i g j D l q1
def O3:TS:=fun _ _ _=>False
theorem dC {X:Cx} {a:Stmt}:PS X a O3:=fun _ _ _ _ _ _ h=>h.elim
abbrev TG:=V->St->Hp->(St->Hp->Prop)->Prop
abbrev O_:=List V->St->Hp->(St->Hp->Prop)->Prop
def PG (X:Cx) (a:Z9) (t:TG):Prop:=
 ∀ (b:Zi) (s:Z1) (d:St) (H:Hp) (v:V) (u:Z6) (Q:St->Hp->Prop),Inv X b d H s->RelV v u->t v d H Q->
   wpAny (model X.prog X.w) X.A (assign a X.env u) (fun _ f=>∃ c e,Inv X b c e f/\Q c e) X.xe s
def U8 (X:Cx) (g:Zl) (t:O_):Prop:=
 ∀ (a:Zi) (s:Z1) (c:St) (H:Hp) (vs:List V) (d:Ze) (Q:St->Hp->Prop),Inv X a c H s->Vals vs d->t vs c H Q->
   wpAny (model X.prog X.w) X.A (assignInOrder ((assignEach g X.env).map (·.2)) d) (fun _ f=>∃ b e,Inv X a b e f/\Q b e) X.xe s
abbrev U9:=V->V->Hp->VK->Prop
def WT (X:Cx) (op:Operator) (t:U9):Prop:=
 ∀ (a:Zi) (s:Z1) (b:St) (H:Hp) (x y:V) (v u:Z6) (Q:VK),Inv X a b H s->RelV x v->RelV y u->t x y H Q->
   wpAny (model X.prog X.w) X.A (inplaceOp op v u) (EP X a b Q) X.xe s
def dM (i:Nat):TG:=fun v a H Q=>Q (a.set i (some v)) H
theorem cF (c:X.N.Nodup) (d:X.N[i]?=some x) (e:Loc X.env.scope x) (f:X.fn x=true∨X.env.scope.names.lookup x=some .local:=by first|exact .inl rfl|exact .inr rfl|assumption):PG X (.Name x l) (dM i):=by intro a s j H v u Q I r h;exact wpAny_assign_Name (j4 I c d e r (fun g b=>⟨_,H,b,h⟩) f)
def BP:O_:=fun vs a H Q=>vs=[]/\Q a H
def lF (t:TG) (u:O_):O_:=fun vs b H Q=>∃ v r,vs=v::r/\t v b H fun a c=>u r a c Q
theorem fZ:U8 X [] BP:=by intro a s b H vs c Q I r h;obtain ⟨e,h⟩:=h;subst e;cases r;exact assignInOrder_nil ⟨b,H,I,h⟩
theorem cJ {X:Cx} {e:Z9} {b:Zl} {t:TG} {u:O_} (m:PG X e t) (n:U8 X b u)
 (o:(assignEach (e::b) X.env).map (·.2)=assign e X.env::(assignEach b X.env).map (·.2):=by rfl):U8 X (e::b) (lF t u):=by
 intro a s j H vs p Q I r h;obtain ⟨v,vr,i,h⟩:=h;subst i;cases r with
 | cons r l=>rw [o];refine assignInOrder_cons (eG (m a s j H _ _ _ I r h) fun _ d ⟨c,f,g,q1⟩=>?_);exact n a d c f _ _ Q g l q1
def Cp (K:Z2) (n:Nat) (t:O_):TG:=fun v c H Q=>∃ a b,v=.ref a/\eE K H a b/\b.length=n/\t b c H Q
theorem h_ (B:X.calm=true) (h:U8 X d t)
 (C:(assignEach d X.env).length=n:=by rfl) (g:(assignEach d X.env).findIdx? (·.1)=none:=by rfl):PG X (.Tuple d k E) (Cp X.K n t):=by
 intro c s j H v u Q I r f;obtain ⟨a,q,w,x,y,f⟩:=f;subst w;cases r;obtain ⟨z,i,A,D⟩:=I.tuple x;refine assign_Tuple_tuple (I.ok.hd B) A (by simp [C,← y,i.length]) g fun l m=>?_;have p:Inv X c j H { s with heap:=l }:=I.kept (t':=s.toks) fun b o e=>m b o (aap (aam e)) e;exact h c _ j H q _ Q p (by simpa using i) f
def N7 (c:TE) (g:TG):TS:=fun D a H=>c a H fun x b=>g x a b D.nx
theorem lH {X:Cx} {w:Pos} {b e:Z9} {d:TE} {g:TG} (l:PE X e d) (m:PG X b g) (n:swapsWithSole [b] e w.line X.env=pure false:=by rfl) (o:swappedStores [b] e X.env=pure none:=by rfl)
 (p:(assignEach [b] X.env).map (·.2)=[assign b X.env]:=by rfl):PS X (.Assign [b] e w) (N7 d g):=by
 intro a s c H D I h;refine wpAny_Assign_stores (eG (l a s c H _ I h) fun v f ⟨x,i,j,r1,q1⟩=>?_) n o;rw [p];exact eG (m a f c i x v _ j r1 q1) fun _ r q=>q
theorem cQ {X:Cx} {z:Pos} {i:Nat} {x:Str} {e:Z9} {c:TE} {a:Pos} (l:X.N.Nodup) (m:X.N[i]?=some x) (n:Loc X.env.scope x) (o:PE X e c) (p:swapsWith e (some (.Name x a)) z.line X.env=pure false:=by rfl) (q:X.fn x=true∨X.env.scope.names.lookup x=some .local:=by first|exact .inl rfl|exact .inr rfl|assumption) :
 PS X (.Assign [.Name x a] e z) (N7 c (dM i)):=by
 intro b s j H D I h;refine wpAny_Assign_Name (eG (o b s j H _ I h) fun v r ⟨y,d,f,r1,q1⟩=>?_) p;exact j4 f l m n r1 (fun w g=>⟨_,d,g,q1⟩) q
def Uz (i j:Nat) (c:TA):TS:=fun D a H=>c a H fun vs b=>∃ v w,vs=[v,w]/\D.nx ((a.set i (some v)).set j (some w)) b
theorem NB {X:Cx} {pos:Pos} {i j:Nat} {x y:Str} {a b:Z9} {G:TA} {r z pt:Pos} {kt k2 pt2} (Y:X.calm=true) (J:X.N.Nodup) (Z:X.N[i]?=some x) (hj:X.N[j]?=some y) (A:i≠j)
 (L:X.env.scope.names.lookup x=some .local) (M:X.env.scope.names.lookup y=some .local) (ha:PA X [a,b] G)
 (hw:swappedStores [.Tuple [.Name x r,.Name y z] kt pt] (.Tuple [a,b] k2 pt2) X.env=pure (some [x,y]))
 (hs:swapsWithSole [.Tuple [.Name x r,.Name y z] kt pt] (.Tuple [a,b] k2 pt2) pos.line X.env=pure false:=by rfl) :
 PS X (.Assign [.Tuple [.Name x r,.Name y z] kt pt] (.Tuple [a,b] k2 pt2) pos) (Uz i j G):=by
 intro d s F H D I h;rw [exec_Assign_arm];refine aaa (aa2 ?_);rw [hs];refine aaa (aab ?_);rw [aac (by decide)];refine aaa (Tuple_ (eG (ha _ d s F H _ I h) fun N f ⟨vs,B,O,r1,q1⟩=>?_));obtain ⟨v,w,S,q1⟩:=q1;subst S;obtain ⟨g,l,rfl,T,n⟩:∃ g l,N=[g,l]/\RelV v g/\RelV w l:=by
  cases r1 with
  | cons p q=>
    cases q with
    | cons U W=>cases W;exact ⟨_,_,rfl,p,U⟩
 refine aaU ?_ (by ext);have Q:Inv X d F B { f with heap:=f.heap.push { cls:=.type "tuple",data:=.seq [g,l].toArray } }:=O.kept (t':=f.toks) fun b o e=>aak _ e;rw [hw];refine aaa (aab ?_);show wpAny (model X.prog X.w) X.A (do rule "assign.swapped-stores";let c ← unpackItems (.ref f.heap.objs.size) 2 none;assignInOrder [fun v=>bindName X.env y v,fun v=>bindName X.env x v] c.reverse;pure Flow.next) _ _ _;refine aaa (abl (aaa (unpackItems_tuple (items:=#[g,l]) (I.ok.hd Y) (IsTup.new f.heap _) fun C m=>?_)));have R:=Q.kept (h':=C) (t':=f.toks) fun b o e=>m b o (aap (aam e)) e;show wpAny _ _ (assignInOrder [fun v=>bindName X.env y v,fun v=>bindName X.env x v] [l,g] >>= fun _=>pure Flow.next) _ _ _;refine aaa (assignInOrder_cons (wpAny_bindName (j4 R J hj (.inl M) n (fun s2 P=>?_) (.inr M))));refine assignInOrder_cons (wpAny_bindName (j4 P J Z (.inl L) T (fun s3 E=>assignInOrder_nil (aab ?_)) (.inr L)));rw [List.set_comm _ _ (aaC A)] at E;exact ⟨_,B,E,q1⟩
def Wt (i:Nat) (d:TE) (e:U9):TS:=fun D a H=>∃ x,a[i]?=some (some x)/\d a H fun y b=>e x y b fun z c=>D.nx (a.set i (some z)) c
theorem xX {X:Cx} {i:Nat} {x:Str} {e:Z9} {p:TE} {op:Operator} {q:U9} {g:Pos} (Q:X.N.Nodup) (A:X.N[i]?=some x) (n:Loc X.env.scope x) (R:PE X e p) (S:WT X op q) (T:X.fn x=true∨X.env.scope.names.lookup x=some .local:=by first|exact .inl rfl|exact .inr rfl|assumption) :
 PS X (.AugAssign (.Name x g) op e Z) (Wt i p q):=by
 intro a s o H D I h;obtain ⟨v,L,h⟩:=h;obtain ⟨m,M,N⟩:=I.loc;have j:KQ X.env.scope x:=by rcases n with k|k;exact .inl k;exact .inr (.inl k)
 obtain ⟨u,r,l⟩:=N i x v A L j;refine wpAny_AugAssign_Name ?_;have go:wpAny (model X.prog X.w) X.A (eval e X.env) (fun w d=>wpAny (model X.prog X.w) X.A (inplaceOp op u w) (fun r f=>wpAny (model X.prog X.w) X.A (storeName X.env x r) (fun _=>SP X a D .next) X.xe f) X.xe d) X.xe s:=by refine eG (R a s o H _ I h) fun w B ⟨y,C,E,r1,q1⟩=>?_;refine eG (S a B o C v y u w _ E r r1 q1) fun z U ⟨W,F,G,r2,q2⟩=>?_;exact j4 G Q A n r2 (fun Y J=>⟨_,F,J,q2⟩) T
 rcases l with ⟨hk,O⟩|⟨hk,c,P,b⟩
 ·exact acf I.ok.kind hk M O go
 ·rcases hk with hk|hk
  ·exact acg I.ok.kind hk P b go
  ·rcases n with k|k
   ·have:X.env.scope.names.lookup x=some .free:=hk;rw [k] at this;cases this
   ·have:X.env.scope.names.lookup x=some .free:=hk;rw [k] at this;cases this
def XD (f:Int->Int->Int):U9:=fun x y H Q=>∃ i j,x=.int i/\y=.int j/\Q (.int (f i j)) H
theorem yE:WT X .Add (XD fun i j=>i+j):=by intro a s e H x y v u Q I r1 r2 h;obtain ⟨i,j,b,c,q⟩:=h;subst b;subst c;obtain ⟨t,rfl⟩:=r1;obtain ⟨d,rfl⟩:=r2;exact iadd_int ⟨.int _,H,I.tok _,⟨_,rfl⟩,q⟩
def Eg (c:TT) (h:TS):TS:=fun D a H=>∃ W:Nat->St->Hp->Prop,(∃ m,W m a H)/\∀ m a H,W m a H->
 c a H fun b e=>if b=true then ∃ N:St->Hp->Prop,(∀ d f,N d f->∃ g,g<m/\W g d f)/\h { D with nx:=N,ct:=N,bk:=D.nx } a e else D.nx a e
theorem Dp {X:Cx} {c:Z9} {g:List Stmt} {C:TT} {E:TS} (F:PassesOwn (model X.prog X.w) X.A X.env X.xe) (S:PT X c C) (T:u9 X g E):PS X (.While c g [] Y) (Eg C E):=by
 intro d s O H D I h;obtain ⟨W,⟨L,M⟩,j⟩:=h;refine wpAny_While (codeAny_whileLoop (fun n G=>∃ i z,Inv X d i z G/\W n i z) ?_ L ⟨O,H,I,M⟩);rintro n P ⟨e,B,Q,R⟩;refine abr F (eG (S d P e B _ Q (j n e B R)) fun b J ⟨x,y,q2⟩=>?_);cases b with
 | true=>
   obtain ⟨N,A,q2⟩:=q2;rw [aad rfl];refine abr F (eG (T d J e x _ y q2) fun f U m=>?_);cases f with
   | next=>obtain ⟨a,l,o,p⟩:=m;obtain ⟨q,r,w⟩:=A a l p;exact ⟨q,r,a,l,o,w⟩
   | cont=>obtain ⟨a,l,o,p⟩:=m;obtain ⟨q,r,w⟩:=A a l p;exact ⟨q,r,a,l,o,w⟩
   |brk=>exact m
   |ret v=>exact m
 | false=>rw [aac aaz];exact aby ⟨e,x,y,q2⟩
structure It where
 go:Nat->Hp->Prop
 yld:Nat->Hp->V->Hp->Prop
 stop:Nat->Hp->Prop
def ju (X:Cx) (a:Zi) (H:Hp) (b:Z0):Prop:=
 H b=none/\b≠X.env.locals/\b∉X.fs/\(b∈X.ex∨X.s₀.heap.objs.size≤b)/\(∀ x c,X.env.cells.lookup x=some c->c≠b)/\∀ p∈X.pn++a,p.1≠b
theorem Inv.fpOk (I:Inv X a g H s) (d:s.heap.objs.size≤b) (h:H' b=none):ju X a H' b:=by
 refine ⟨h,abz (aas I.lt d),I.nofs d,.inr (aaj I.sz d),fun x c e z=>?_,fun p f z=>?_⟩
 ·obtain ⟨v,q⟩:=I.cell x c e;exact absurd (aas q.lt (by rw [z];exact d)) (aaP _)
 ·exact absurd (aas (aam (I.pin p f).1) (by rw [z];exact d)) (aaP _)
structure Turn (P:Z4) (w:Z5) (K:Z2) (tg:Z9) (J:It) (fp:Zh) (it:Z0) (tn:Nat->Heap->Prop):Prop where
 mem:it∈fp
 obj:∀ i h,tn i h->∀ b∈fp,∃ o,h.get? b=some o/\∀ v,o.data≠.cell v
 keep:∀ i h h',tn i h->(∀ b∈fp,∀ o,h.get? b=some o->h'.get? b=some o)->tn i h'
 item:∀ (X:Cx),X.prog=P->X.w=w->X.K=K->X.calm=true->∀ (i:Nat) (cW:Zi) (s:Z1) (σ:St) (H:Hp) (E:Zb),Inv X cW σ H s->(∀ b∈fp,ju X cW H b)->tn i s.heap->J.go i H->
  wpAny (model P w) X.A (pyNext (.ref it)) (fun r s1=>∃ u,r=some u/\ wpAny (model P w) X.A (letOwnedTupleGo tg (.ref it) u) (fun _ s2=>∃ x H',Inv X cW σ H' s2/\RelV x u/\J.yld i H x H'/\tn (i+1) s2.heap/\∀ b∈fp,H' b=none) E s1) E s
 done:∀ (X:Cx),X.prog=P->X.w=w->X.K=K->X.calm=true->∀ (i:Nat) (cW:Zi) (s:Z1) (σ:St) (H:Hp) (E:Zb),Inv X cW σ H s->(∀ b∈fp,ju X cW H b)->tn i s.heap->J.stop i H->
  wpAny (model P w) X.A (pyNext (.ref it)) (fun r s1=>r=none/\Inv X cW σ H s1) E s
 self:∀ (A:Z8) (i:Nat) (s:Z1) (Q:Zb) (E:Zb),tn i s.heap->Q (.ref it) s->wpAny (model P w) A (pyIter (.ref it)) Q E s
abbrev TI:=St->Hp->(It->Hp->Prop)->Prop
def PIE (X:Cx) (a:Zi) (h:St) (i:Z9) (R:It->Hp->Prop) (d:Z6) (g:Z1):Prop:=
 ∃ (e:Z0) (fp:Zh) (f:Nat->Heap->Prop) (J:It) (c:Hp),d=.ref e/\Inv X a h c g/\Turn X.prog X.w X.K i J fp e f/\f 0 g.heap/\(∀ b∈fp,ju X a c b)/\R J c
def PI (X:Cx) (e b:Z9) (f:TI):Prop:=
 ∀ (a:Zi) (s:Z1) (c:St) (H:Hp) (R:It->Hp->Prop),Inv X a c H s->f c H R->
   wpAny (model X.prog X.w) X.A (eval b X.env) (fun v d=>wpAny (model X.prog X.w) X.A (pyIter v) (PIE X a c e R) X.xe d) X.xe s
theorem yZ (d:s.heap.get? c=some o) (e:o.cls=.type n) (hd:o.data=.fields vs)
 (f:["enumerate","zip","dict_itemiterator","dict_reverseitemiterator","odict_iterator","itertools.zip_longest","itertools.pairwise"].contains n=false) (a:Q () s):wpAny M A (letOwnedTupleGo b (.ref c) u) Q E s:=by
 unfold letOwnedTupleGo;cases b <;> first
  |exact aab a
  |(cases u <;> first
   |exact aab a
   | (refine aaa (wpAny_load d ?_)
      rw [e,hd];show wpAny M A (if (["enumerate","zip","dict_itemiterator","dict_reverseitemiterator","odict_iterator","itertools.zip_longest","itertools.pairwise"].contains n && vs[0]? == some (rawInt _))=true then _ else _) Q E s;rw [aac (by intro h;rw [f,Bool.false_and] at h;cases h)];exact aab a))
def Kf (K:Z2) (a:Z0):It:=
 ⟨fun i H=>∃ b x,dR K H a b/\b[i]?=some x,fun i H x c=>c=H/\∀ b,dR K H a b->b[i]?=some x,fun i H=>∃ b,dR K H a b/\b.length≤i⟩
def Ng (K:Z2) (a:Z0):It:=
 ⟨fun i H=>∃ b x,eE K H a b/\b[i]?=some x,fun i H x c=>c=H/\∀ b,eE K H a b->b[i]?=some x,fun i H=>∃ b,eE K H a b/\b.length≤i⟩
def KR (b:Int) (n:Nat):It:=⟨fun i _=>i<n,fun i H x a=>a=H/\x=.int (b+i),fun i _=>n≤i⟩
theorem Bq {P:Z4} {w:Z5} {K:Z2} {tg:Z9} (a l:Z0):Turn P w K tg (Kf K a) [l] l (fun i h=>h.IsListIter l a i) where
 mem:=by simp
 obj:=fun i h f b j=>by
  have e:b=l:=by simpa using j
  subst e;obtain ⟨o,e,c,d⟩:=f;exact ⟨o,e,fun v z=>by rw [d] at z;cases z⟩
 keep:=fun i h n f k=>f.at fun o e=>k l (by simp) o e
 item:=by intro X L M N Q i g s R H E I r f O;subst L M N;obtain ⟨Y,x,q,y⟩:=O;obtain ⟨A,B,p,Z⟩:=I.list q;obtain ⟨u,hu,ru⟩:=B.get y;obtain ⟨C,D,f2,F,G,J⟩:=r l (by simp);refine wpAny_pyNext_list_item f p.isList (x:=u) (by simpa using hu) fun n m S=>?_;have W:Inv X g R H { s with heap:=n }:=I.turned (t':=s.toks) (fun b o j e=>(S.2 b j).trans e) C D F G J;obtain ⟨o,e,c,d⟩:=id m;exact ⟨u,rfl,yZ (s:={ s with heap:=n }) e c d (by decide) ⟨x,H,W,ru,⟨rfl,fun ys T=>by rw [I.list_inj T q];exact y⟩,m,fun b j=>(r b j).1⟩⟩
 done:=by intro X L M N Q i g s R H E I r f O;subst L M N;obtain ⟨Y,q,y⟩:=O;obtain ⟨A,B,p,Z⟩:=I.list q;obtain ⟨C,D,f2,F,G,J⟩:=r l (by simp);have hl:=B.length;exact wpAny_pyNext_list_end (I.ok.hd Q) f p.isList (by simp;omega) fun n U=>⟨rfl,I.turned (t':=s.toks) (fun b o j e=>U b o j e) C D F G J⟩
 self:=fun _ _ _ _ _ f h=>wpAny_pyIter_listiter f h
theorem wY {P:Z4} {w:Z5} {K:Z2} {tg:Z9} (a m:Z0):Turn P w K tg (Ng K a) [m] m (fun i h=>h.IsTupleIter m a i) where
 mem:=by simp
 obj:=fun i h f b j=>by
  have e:b=m:=by simpa using j
  subst e;obtain ⟨o,e,c,d⟩:=f;exact ⟨o,e,fun v z=>by rw [d] at z;cases z⟩
 keep:=fun i h q f k=>f.at fun o e=>k m (by simp) o e
 item:=by intro X L M N Q i g s R H E I y f O;subst L M N;obtain ⟨Y,x,r,A⟩:=O;obtain ⟨l,B,p,Z⟩:=I.tuple r;obtain ⟨u,hu,ru⟩:=B.get A;obtain ⟨C,D,f2,F,G,J⟩:=y m (by simp);refine wpAny_pyNext_tuple_item f (show s.heap.IsTuple a l.toArray from p) (x:=u) (by simpa using hu) fun q n S=>?_;have W:Inv X g R H { s with heap:=q }:=I.turned (t':=s.toks) (fun b o j e=>(S.2 b j).trans e) C D F G J;obtain ⟨o,e,c,d⟩:=id n;exact ⟨u,rfl,yZ (s:={ s with heap:=q }) e c d (by decide) ⟨x,H,W,ru,⟨rfl,fun ys T=>by rw [I.tuple_inj T r];exact A⟩,n,fun b j=>(y b j).1⟩⟩
 done:=by intro X L M N Q i g s R H E I y f O;subst L M N;obtain ⟨Y,r,A⟩:=O;obtain ⟨l,B,p,Z⟩:=I.tuple r;obtain ⟨C,D,f2,F,G,J⟩:=y m (by simp);have hl:=B.length;exact wpAny_pyNext_tuple_end (I.ok.hd Q) f (show s.heap.IsTuple a l.toArray from p) (by simp;omega) fun q U=>⟨rfl,I.turned (t':=s.toks) (fun b o j e=>U b o j e) C D F G J⟩
 self:=fun _ _ _ _ _ f h=>wpAny_pyIter_tupleiter f h
theorem yr {P:Z4} {w:Z5} {K:Z2} {Q:Z9} (d:Z0) (m:Int) (n:Nat):Turn P w K Q (KR m n) [d] d (fun i h=>IsRangeIter h d (m+(i:Nat)*1) ((n:Int)-(i:Nat)) 1) where
 mem:=by simp
 obj:=fun i h a b f=>by
  have e:b=d:=by simpa using f
  subst e;exact ⟨_,a,fun v z=>by have M:Data.fields _=Data.cell v:=z;cases M⟩
 keep:=fun i h j a k=>k d (by simp) _ a
 item:=by intro X A B C D i c s G H E I l a F;subst A B C;obtain ⟨p,q,O,r,x,y⟩:=l d (by simp);have W:=Walks.range (prog:=X.prog) (w:=X.w) (I.ok.hd D) d m 1 n;refine W.item i s _ _ F a fun v j tk J g kk=>?_;obtain ⟨t,rfl⟩:=J;have N:Inv X c G H { s with heap:=j,toks:=tk }:=I.turned (fun b o f e=>kk b o (by simpa using f) e) p q r x y;refine ⟨_,rfl,yZ (s:={ s with heap:=j,toks:=tk }) (n:="range_iterator") g rfl rfl (by decide) ⟨.int (m+i),H,N,⟨t,?_⟩,⟨rfl,rfl⟩,g,fun b f=>(l b f).1⟩⟩;rw [Int.mul_one]
 done:=by intro X A B C D i c s G H E I l a F;subst A B C;obtain ⟨p,q,O,r,x,y⟩:=l d (by simp);exact wpAny_pyNext_range_end (I.ok.hd D) a (by have:n≤i:=F;omega) fun j L=>⟨rfl,I.turned (t':=s.toks) (fun b o f e=>L b o f e) p q r x y⟩
 self:=fun _ _ _ _ _ a h=>wpAny_pyIter_rangeiter a h
def zP (K:Z2) (e:TE):TI:=fun c H R=>e c H fun x b=>∃ a,x=.ref a/\(∃ d,dR K b a d)/\R (Kf K a) b
def Wr (K:Z2) (e:TE):TI:=fun c H R=>e c H fun x b=>∃ a,x=.ref a/\(∃ d,eE K b a d)/\R (Ng K a) b
theorem gG {X:Cx} {l:Z9} {g:TE} (w:PE X l g):PI X B l (zP X.K g):=by
 intro c s r H R I h;refine eG (w c s r H _ I h) fun v d ⟨x,i,f,r1,q1⟩=>?_;obtain ⟨a,e,⟨y,m⟩,q⟩:=q1;subst e;cases r1;obtain ⟨n,z,p,A⟩:=f.list m;refine wpAny_pyIter_list p.isList ?_;refine ⟨d.heap.objs.size,[d.heap.objs.size],_,_,i,rfl,f.kept (t':=d.toks) fun b o e=>aak _ e,Bq a _,⟨_,aay _ rfl,rfl,rfl⟩,fun b j=>?_,q⟩;have e:b=d.heap.objs.size:=by simpa using j
 subst e;exact f.fpOk (aae _) (f.hok.fresh (aae _))
theorem pZ {X:Cx} {l:Z9} {i:TE} (w:PE X l i):PI X B l (Wr X.K i):=by
 intro d s r H R I h;refine eG (w d s r H _ I h) fun v c ⟨x,j,f,r1,q1⟩=>?_;obtain ⟨a,e,⟨y,n⟩,q⟩:=q1;subst e;cases r1;obtain ⟨g,z,p,A⟩:=f.tuple n;refine acF (show c.heap.IsTuple a g.toArray from p) ?_;refine ⟨c.heap.objs.size,[c.heap.objs.size],_,_,j,rfl,f.kept (t':=c.toks) fun b o e=>aak _ e,wY a _,⟨_,aay _ rfl,rfl,rfl⟩,fun b m=>?_,q⟩;have e:b=c.heap.objs.size:=by simpa using m
 subst e;exact f.fpOk (aae _) (f.hok.fresh (aae _))
theorem Ew {X:Cx} {d:Zi} {g:St} {H:Hp} {s:Z1} {R:It->Hp->Prop} {E:Zb} {a c:Int} {t u v:Tok} {tk:Nat} (I:Inv X d g H s) (l:-(2 ^ 62)≤a) (m:a<2 ^ 62) (n:-(2 ^ 62)≤c) (p:c<2 ^ 62)
 (q:R (KR a (c-a).toNat) H):wpAny (model X.prog X.w) X.A (pyIter (.ref s.heap.objs.size)) (PIE X d g r R) E { s with heap:=s.heap.push { cls:=.type "range",data:=.fields #[.int a t,.int c u,.int 1 v] },toks:=tk }:=by
 refine wpAny_pyIter_range (IsRange.new ..) (small_one l m n p) ?_;have f:Inv X d g H { s with heap:=s.heap.push { cls:=.type "range",data:=.fields #[.int a t,.int c u,.int 1 v] },toks:=tk }:=I.kept fun b o e=>aak _ e;refine ⟨(s.heap.push { cls:=.type "range",data:=.fields #[.int a t,.int c u,.int 1 v] }).objs.size,[(s.heap.push { cls:=.type "range",data:=.fields #[.int a t,.int c u,.int 1 v] }).objs.size],_,_,H,rfl,f.kept (t':=tk) fun b o e=>aak _ e,yr _ a (c-a).toNat,?_,fun b h=>?_,q⟩
 ·have i:a+((0:Nat):Int)*1=a:=by simp
  have j:(((c-a).toNat:Nat):Int)-((0:Nat):Int)=Builtin.Range.rangeSize a c 1:=by rw [rangeSize_one];split <;> omega
  show IsRangeIter _ _ (a+((0:Nat):Int)*1) ((((c-a).toNat:Nat):Int)-((0:Nat):Int)) 1;rw [i,j];exact aay _ rfl
 ·have e:b=(s.heap.push { cls:=.type "range",data:=.fields #[.int a t,.int c u,.int 1 v] }).objs.size:=by simpa using h
  subst e;exact f.fpOk (aae _) (f.hok.fresh (aae _))
def Ro (c:TA):TI:=fun a H R=>c a H fun vs b=>∃ j:Int,vs=[.int j]/\-(2 ^ 62)≤j/\j<2 ^ 62/\R (KR 0 j.toNat) b
theorem jn {X:Cx} {a:Z9} {d:TA} {p c:Pos} (l:Gl X "range") (m:X.mg "range" = none) (n:PA X [a] d) (o:starEach [a] X.env=[(false,eval a X.env)]:=by rfl):PI X y (.Call (.Name "range" p) [a] [] c) (Ro d):=by
 intro b s g H R I h;refine Call_ (mz I l m boot_range (ach (eG (n c b s g H _ I h) fun v w ⟨vs,x,f,r1,q1⟩=>?_) o rfl));obtain ⟨j,e,q1,q2,q⟩:=q1;subst e;cases r1 with
 | cons r i=>cases i;obtain ⟨t,rfl⟩:=r;exact call_range_1 (Ew f (by omega) (by omega) q1 q2 (by simpa using q))
def V1 (j:TI) (g:TG) (l:TS):TS:=fun D a H=>j a H fun J f=>∃ W:Nat->Nat->St->Hp->Prop,(∃ m,W 0 m a f)/\∀ i m a H,W i m a H->
 (J.stop i H/\D.nx a H)∨(J.go i H/\∃ N:St->Hp->Prop,(∀ b c,N b c->∃ e,e<m/\W (i+1) e b c)/\∀ x c,J.yld i H x c->g x a c fun d h=>l { D with nx:=N,ct:=N,bk:=D.nx } d h)
noncomputable def jq (fp:Zh) (h:Z7):List (Addr×Obj):=fp.filterMap fun b=>(h.get? b).map fun o=>(b,o)
theorem j_ (a:b∈fp) (e:h.get? b=some o):(b,o)∈jq fp h:=List.mem_filterMap.mpr ⟨b,a,by rw [e];rfl⟩
theorem nP (d:p∈jq fp h):p.1∈fp/\h.get? p.1=some p.2:=by
 obtain ⟨b,c,e⟩:=List.mem_filterMap.mp d;cases q:h.get? b with
 |none=>rw [q] at e;cases e
 | some o=>rw [q] at e;have a:(b,o)=p:=aaQ e;subst a;exact ⟨c,q⟩
theorem Inv.pinned (I:Inv X a g H s) (m:∀ b∈fp,ju X a H b) (n:∀ b∈fp,∃ o,s.heap.get? b=some o/\∀ v,o.data≠.cell v):Inv X (a++jq fp s.heap) g H s:=
 I.pins_of fun p h=>(aal.mp h).elim (fun z=>I.pin p (aav _ z)) fun z=>by obtain ⟨c,e⟩:=nP z;obtain ⟨i,j,l,_⟩:=m p.1 c;obtain ⟨o,f,d⟩:=n p.1 c;rw [e] at f;cases f;exact ⟨e,i,j,l,d⟩
theorem Inv.unpinned (I:Inv X (a++d) b H s):Inv X a b H s:=I.pins_of fun p c=>I.pin p (aav _ (aaI _ c))
theorem iJ {X:Cx} {A:Z9} {E:List Stmt} {wi:TI} {g:TG} {tb:TS} {pos:Pos} (Q:PassesOwn (model X.prog X.w) X.A X.env X.xe) (hc:X.calm=true) (hi:PI X tg A wi) (hg:PG X tg g) (j:u9 X E tb)
 (hs:∀ x,foldedSetIterable A X.env x=pure x:=by intro _;rfl):PS X (.For tg A E [] pos) (V1 wi g tb):=by
 intro c s σ H D I h;refine wpAny_For (eG (hi c s σ H _ I h) fun v s1 h1=>eG h1 fun ac s2 h2=>?_) hs;obtain ⟨it,fp,tn,J,H2,e,I2,T,ab,f2,W,⟨m0,w0⟩,L⟩:=h2;subst e;have w:∀ {B:Hp},(∀ b∈fp,B b=none)->∀ b∈fp,ju X c B b:=fun hn b j=>⟨hn b j,(f2 b j).2⟩;refine codeAny_forLoop_any (fun n s'=>∃ i q B,Inv X c q B s'/\tn i s'.heap/\(∀ b∈fp,B b=none)/\W i n q B) ?_ m0 ⟨0,σ,H2,I2,ab,fun b j=>(f2 b j).1,w0⟩;rintro n s3 ⟨i,z,R,I3,M,O,w3⟩;rcases L i n z R w3 with ⟨P,qn⟩|⟨go,N,hN,step⟩
 ·refine abr Q (eG (T.done X rfl rfl rfl hc i c s3 z R X.xe I3 (w O) M P) fun r s4 ⟨S,I4⟩=>?_);subst S;exact aby ⟨z,R,I4,qn⟩
 ·refine abr Q (eG (T.item X rfl rfl rfl hc i c s3 z R X.xe I3 (w O) M go) fun r s4 ⟨u,S,h4⟩=>?_);subst S;refine abr Q (eG h4 fun _ s5 ⟨x,H5,I5,r5,y5,F,U⟩=>?_);have aa:=I5.pinned (w U) (T.obj _ _ F);refine abr Q (eG (hg _ s5 z H5 x u _ aa r5 (step x H5 y5)) fun _ s6 ⟨Y,H6,I6,q6⟩=>?_);refine abr Q (eG (j _ s6 Y H6 _ I6 q6) fun f Z C=>?_);have y:∀ {a:St} {l:Hp},Inv X (c++jq fp s5.heap) a l Z->N a l->∃ m,m<n/\∃ i q B,Inv X c q B Z/\tn i Z.heap/\(∀ b∈fp,B b=none)/\W i m q B:=fun {a l} p G=>by obtain ⟨m',hm,w7⟩:=hN a l G;refine ⟨m',hm,i+1,a,l,p.unpinned,T.keep _ _ _ F fun b j o e=>(p.pin (b,o) (aav _ (aav _ (j_ j e)))).1,fun b j=>?_,w7⟩;obtain ⟨o,e,d⟩:=T.obj _ _ F b j;exact (p.pin (b,o) (aav _ (aav _ (j_ j e)))).2.1
  cases f with
  |next=>obtain ⟨a,l,p,G⟩:=C;exact y p G
  |cont=>obtain ⟨a,l,p,G⟩:=C;exact y p G
  |brk=>obtain ⟨a,l,p,C⟩:=C;exact ⟨a,l,p.unpinned,C⟩
  |ret v=>obtain ⟨x7,a,l,p,r7,C⟩:=C;exact ⟨x7,a,l,p.unpinned,r7,C⟩
theorem j5 {K:Z2} {a:Z0} {xs:List V} {g:TG} {o:TS} {D:Ends} {b:St} {H:Hp} (c:Nat->St->Hp->Prop) (v:c 0 b H) (w:∀ i b H,i≤xs.length->c i b H->dR K H a xs)
 (z:∀ i x b H,xs[i]?=some x->c i b H->g x b H fun d l=>o { D with nx:=c (i+1),ct:=c (i+1),bk:=D.nx } d l) (hd:∀ b H,c xs.length b H->D.nx b H) :
 ∃ W:Nat->Nat->St->Hp->Prop,(∃ m,W 0 m b H)/\∀ i m b H,W i m b H->
   ((Kf K a).stop i H/\D.nx b H)∨((Kf K a).go i H/\∃ N:St->Hp->Prop,(∀ f h,N f h->∃ n,n<m/\W (i+1) n f h)/\∀ x h,(Kf K a).yld i H x h->g x b h fun d l=>o { D with nx:=N,ct:=N,bk:=D.nx } d l):=by
 refine ⟨fun i m b H=>m=xs.length-i/\i≤xs.length/\c i b H,⟨xs.length,by simp,aaA _,v⟩,?_⟩;rintro i m b H ⟨rfl,s,p⟩;have q:=w i b H s p;by_cases j:i<xs.length
 ·refine .inr ⟨⟨xs,xs[i],q,by simp [j]⟩,c (i+1),fun f h r=>⟨xs.length-(i+1),by omega,rfl,j,r⟩,fun x h y=>?_⟩;obtain ⟨e,y⟩:=y;subst e;exact z i x b _ (y xs q) p
 ·have e:i=xs.length:=by omega
  subst e;exact .inl ⟨⟨xs,q,aae _⟩,hd b H p⟩
theorem G_ {K:Z2} {a:Z0} {xs:List V} {g:TG} {o:TS} {D:Ends} {b:St} {H:Hp} (c:Nat->St->Hp->Prop) (v:c 0 b H) (w:∀ i b H,i≤xs.length->c i b H->eE K H a xs)
 (z:∀ i x b H,xs[i]?=some x->c i b H->g x b H fun d l=>o { D with nx:=c (i+1),ct:=c (i+1),bk:=D.nx } d l) (hd:∀ b H,c xs.length b H->D.nx b H) :
 ∃ W:Nat->Nat->St->Hp->Prop,(∃ m,W 0 m b H)/\∀ i m b H,W i m b H->
   ((Ng K a).stop i H/\D.nx b H)∨((Ng K a).go i H/\∃ N:St->Hp->Prop,(∀ f h,N f h->∃ n,n<m/\W (i+1) n f h)/\∀ x h,(Ng K a).yld i H x h->g x b h fun d l=>o { D with nx:=N,ct:=N,bk:=D.nx } d l):=by
 refine ⟨fun i m b H=>m=xs.length-i/\i≤xs.length/\c i b H,⟨xs.length,by simp,aaA _,v⟩,?_⟩;rintro i m b H ⟨rfl,s,p⟩;have q:=w i b H s p;by_cases j:i<xs.length
 ·refine .inr ⟨⟨xs,xs[i],q,by simp [j]⟩,c (i+1),fun f h r=>⟨xs.length-(i+1),by omega,rfl,j,r⟩,fun x h y=>?_⟩;obtain ⟨e,y⟩:=y;subst e;exact z i x b _ (y xs q) p
 ·have e:i=xs.length:=by omega
  subst e;exact .inl ⟨⟨xs,q,aae _⟩,hd b H p⟩
theorem lR {lo:Int} {n:Nat} {g:TG} {o:TS} {D:Ends} {a:St} {H:Hp} (h:Nat->St->Hp->Prop) (r:h 0 a H)
 (s:∀ i a H,i<n->h i a H->g (.int (lo+i)) a H fun b j=>o { D with nx:=h (i+1),ct:=h (i+1),bk:=D.nx } b j) (hd:∀ a H,h n a H->D.nx a H) :
 ∃ W:Nat->Nat->St->Hp->Prop,(∃ m,W 0 m a H)/\∀ i m a H,W i m a H->
   ((KR lo n).stop i H/\D.nx a H)∨((KR lo n).go i H/\∃ N:St->Hp->Prop,(∀ c d,N c d->∃ l,l<m/\W (i+1) l c d)/\∀ x d,(KR lo n).yld i H x d->g x a d fun b j=>o { D with nx:=N,ct:=N,bk:=D.nx } b j):=by
 refine ⟨fun i m a H=>m=n-i/\i≤n/\h i a H,⟨n,by simp,aaA _,r⟩,?_⟩;rintro i m a H ⟨rfl,v,p⟩;by_cases f:i<n
 ·refine .inr ⟨f,h (i+1),fun c d q=>⟨n-(i+1),by omega,rfl,f,q⟩,fun x d y=>?_⟩;obtain ⟨e,y⟩:=y;subst e y;exact s i a _ f p
 ·have e:i=n:=by omega
  subst e;exact .inl ⟨aae _,hd a H p⟩
theorem B_ (g:St->Hp->Prop) (h:St->Hp->Nat) (o:g a H)
 (r:∀ a H,g a H->c a H fun b e=>if b=true then j { D with nx:=fun d f=>g d f/\h d f<h a H,ct:=fun d f=>g d f/\h d f<h a H,bk:=D.nx } a e else D.nx a e)
 (mono:∀ a H Q i,(∀ b e,Q b e->i b e)->c a H Q->c a H i):Eg c j D a H:=by
 refine ⟨fun m a H=>m=h a H/\g a H,⟨_,rfl,o⟩,?_⟩;rintro m a H ⟨rfl,p⟩;refine mono a H _ _ (fun b e q=>?_) (r a H p);cases b with
 |true=>exact ⟨_,fun d f ⟨n,l⟩=>⟨_,l,rfl,n⟩,q⟩
 |false=>exact q
abbrev R2:=V->V->Hp->VK->Prop
def mD (X:Cx) (f:Value->Value->Sem Value) (r:R2):Prop:=
 ∀ (a:Zi) (s:Z1) (b:St) (H:Hp) (x y:V) (v u:Z6) (Q:VK),Inv X a b H s->RelV x v->RelV y u->r x y H Q->
   wpAny (model X.prog X.w) X.A (f v u) (EP X a b Q) X.xe s
def Wh (X:Cx) (f:Value->Sem Value) (r:V->Hp->VK->Prop):Prop:=
 ∀ (a:Zi) (s:Z1) (b:St) (H:Hp) (x:V) (v:Z6) (Q:VK),Inv X a b H s->RelV x v->r x H Q->
   wpAny (model X.prog X.w) X.A (f v) (EP X a b Q) X.xe s
def ji (X:Cx) (f:Z6) (r:List V->Hp->VK->Prop):Prop:=
 ∀ (a:Zi) (s:Z1) (b:St) (H:Hp) (c:List V) (d:Ze) (Q:VK),Inv X a b H s->Vals c d->r c H Q->
   wpAny (model X.prog X.w) X.A (call f d) (EP X a b Q) X.xe s
def Wd (X:Cx) (r:V->Hp->(Bool->Hp->Prop)->Prop):Prop:=
 ∀ (a:Zi) (s:Z1) (b:St) (H:Hp) (x:V) (v:Z6) (Q:Bool->Hp->Prop),Inv X a b H s->RelV x v->r x H Q->
   wpAny (model X.prog X.w) X.A (truthy v) (TP X a b Q) X.xe s
def Ov (r:R2) (d e:TE):TE:=fun a H Q=>d a H fun x b=>e a b fun y c=>r x y c Q
def Y7 (r:V->Hp->VK->Prop) (c:TE):TE:=fun a H Q=>c a H fun x b=>r x b Q
def rI (C:Int->Int->Prop) (g:Int->Int->V):R2:=fun x y H Q=>∃ i j,x=.int i/\y=.int j/\C i j/\Q (g i j) H
def Gk (g:Int->Int->V):R2:=fun x y H Q=>∃ i j,x=.int i/\y=.int j/\Q (g i j) H
def rU (g:Int->V):V->Hp->VK->Prop:=fun x H Q=>∃ i,x=.int i/\Q (g i) H
section
variable {X:Cx} {a b c:Z9} {ta tb tc:TE} {pos:Pos}
theorem Lk (q:PE X a ta) (r:PE X b tb) {d:Zi} {s:Z1} {g:St} {H:Hp} {R:V->V->Hp->Prop} (I:Inv X d g H s)
 (h:ta g H fun x m=>tb g m fun y e=>R x y e) {Q:Zb} {f:Value->Value->Sem Value}
 (w:∀ v u l x y e,Inv X d g e l->RelV x v->RelV y u->R x y e->wpAny (model X.prog X.w) X.A (f v u) Q X.xe l) :
 wpAny (model X.prog X.w) X.A (eval a X.env) (fun v i=>wpAny (model X.prog X.w) X.A (eval b X.env) (fun u j=>wpAny (model X.prog X.w) X.A (f v u) Q X.xe j) X.xe i) X.xe s:=by
 refine eG (q d s g H _ I h) fun v n ⟨x,m,o,r1,q1⟩=>?_;refine eG (r d n g m _ o q1) fun u l ⟨y,e,p,r2,q2⟩=>?_;exact w v u l x y e p r1 r2 q2
theorem dN (m:mD X (binaryOp op) r) (n:PE X a ta) (o:PE X b tb):PE X (.BinOp a op b pos) (Ov r ta tb):=by intro d s l H Q I h;exact wpAny_BinOp (Lk n o I h fun v u e x y f g i j q=>m d e l f x y v u Q g i j q)
theorem rO {op:UnaryOp} {r:V->Hp->VK->Prop} (j:Wh X (unaryOp op) r) (l:PE X a ta):PE X (.UnaryOp op a pos) (Y7 r ta):=by intro d s e H Q I h;exact UnaryOp_ (eG (l d s e H _ I h) fun v f ⟨x,g,i,r1,q1⟩=>j d f e g x v Q i r1 q1)
theorem QH {f:Value->Value->Sem Value} {C:Int->Int->Prop} {g:Int->Int->Int}
 (d:∀ (i j:Int) (t u:Tok) (s:Z1) (Q:Zb) (E:Zb),C i j->Q (.int (g i j) s.toks) { s with toks:=s.toks+1 }->wpAny (model X.prog X.w) X.A (f (.int i t) (.int j u)) Q E s) :
 mD X f (rI C fun i j=>.int (g i j)):=by
 intro e s p H x y v u Q I n o h;obtain ⟨i,j,rfl,rfl,l,q⟩:=h;obtain ⟨t,rfl⟩:=n;obtain ⟨m,rfl⟩:=o;exact d i j t m s _ _ l ⟨.int (g i j),H,I.tok _,⟨_,rfl⟩,q⟩
theorem S8 {f:Value->Value->Sem Value} {g:Int->Int->Int}
 (d:∀ (i j:Int) (t u:Tok) (s:Z1) (Q:Zb) (E:Zb),Q (.int (g i j) s.toks) { s with toks:=s.toks+1 }->wpAny (model X.prog X.w) X.A (f (.int i t) (.int j u)) Q E s) :
 mD X f (Gk fun i j=>.int (g i j)):=by
 intro e s o H x y v u Q I m n h;obtain ⟨i,j,rfl,rfl,q⟩:=h;obtain ⟨t,rfl⟩:=m;obtain ⟨l,rfl⟩:=n;exact d i j t l s _ _ ⟨.int (g i j),H,I.tok _,⟨_,rfl⟩,q⟩
theorem Il {f:Value->Value->Sem Value} {g:Int->Int->Bool}
 (d:∀ (i j:Int) (t u:Tok) (s:Z1) (Q:Zb) (E:Zb),Q (.bool (g i j)) s->wpAny (model X.prog X.w) X.A (f (.int i t) (.int j u)) Q E s) :
 mD X f (Gk fun i j=>.bl (g i j)):=by
 intro e s o H x y v u Q I m n h;obtain ⟨i,j,rfl,rfl,q⟩:=h;obtain ⟨t,rfl⟩:=m;obtain ⟨l,rfl⟩:=n;exact d i j t l s _ _ ⟨.bl (g i j),H,I,rfl,q⟩
def Vp (i j:Int):Prop:=0<j/\j<1073741824
def Wz (i j:Int):Prop:=0≤j/\j≤1000000/\i.natAbs<2 ^ 64
def Hs (i j:Int):Prop:=(-(2 ^ 64)<i/\i<2 ^ 64)∨(-(2 ^ 64)<j/\j<2 ^ 64)
theorem Hs.ok (h:Hs i j):IntMulOk i j:=by
 rcases h with ⟨d,e⟩|⟨d,e⟩
 ·exact .of_left (intBits_le_64 d e)
 ·exact .of_right (intBits_le_64 d e)
theorem gn:mD X (binaryOp .Add) (Gk fun i j=>.int (i+j)):=S8 fun _ _ _ _ _ _ _ q=>add_int q
theorem xr:mD X (binaryOp .Sub) (Gk fun i j=>.int (i-j)):=S8 fun _ _ _ _ _ _ _ q=>sub_int q
theorem lA:mD X (binaryOp .Mult) (rI Hs fun i j=>.int (i*j)):=QH fun _ _ _ _ _ _ _ d q=>mul_int q d.ok
theorem yJ:mD X (binaryOp .FloorDiv) (rI Vp fun i j=>.int (i / j)):=QH fun i j _ _ _ _ _ d q=>by have e:(0:Int)<j:=d.1;have f:j<1073741824:=d.2;exact floordiv_int (by omega) (by rw [ac7 i (by omega)];exact q) (.inl (PyProof.noPylong_small (by omega)))
theorem lC:mD X (binaryOp .Mod) (rI (fun _ j=>0<j) fun i j=>.int (i % j)):=QH fun i j _ _ _ _ _ d q=>by have e:(0:Int)<j:=d;exact mod_int' (by omega) (by rw [Int.fmod_eq_emod_of_nonneg i (by omega)];exact q)
theorem Nf:mD X (binaryOp .Pow) (rI Wz fun i j=>.int (i ^ j.toNat)):=QH fun _ _ _ _ _ _ _ d q=>pow_int_small d.1 d.2.1 d.2.2 q
theorem Xm {f:Value->Sem Value} {g:Int->Int}
 (d:∀ (i:Int) (t:Tok) (s:Z1) (Q:Zb) (E:Zb),Q (.int (g i) s.toks) { s with toks:=s.toks+1 }->wpAny (model X.prog X.w) X.A (f (.int i t)) Q E s) :
 Wh X f (rU fun i=>.int (g i)):=by
 intro e s l H x v Q I j h;obtain ⟨i,rfl,q⟩:=h;obtain ⟨t,rfl⟩:=j;exact d i t s _ _ ⟨.int (g i),H,I.tok _,⟨_,rfl⟩,q⟩
theorem o7:Wh X (unaryOp .USub) (rU fun i=>.int (-i)):=Xm fun _ _ _ _ _ q=>neg_int q
end
noncomputable def Qd:V->V->Bool
 |.non,.non=>true|.non,.int _=>true|.int _,.non=>true|.non,.bl _=>true|.bl _,.non=>true|.non,.str _=>true|.str _,.non=>true
 |.int _,.int _=>true|.bl _,.bl _=>true|.str _,.str _=>true|.byt _,.byt _=>true
 |.int _,.str _=>true|.str _,.int _=>true|.bl _,.str _=>true|.str _,.bl _=>true
 |_,_=>false
def Xq:R2:=fun x y H Q=>Qd x y=true/\Q (.bl (decide (x=y))) H
def Xw:R2:=fun x y H Q=>Qd x y=true/\Q (.bl (!decide (x=y))) H
theorem zF:decide (V.int i=V.int j)=(i == j):=by rw [aci];simp
theorem CG:decide (V.bl i=V.bl j)=(i == j):=by rw [aci];simp
theorem yX:decide (V.str i=V.str j)=(i == j):=by rw [aci];simp
theorem yV:decide (V.byt i=V.byt j)=(i.toList == j.toList):=by rw [aci];cases i;cases j;simp
theorem dX (I:Inv X d f H s) (q:Q (.bl k) H) (e:k=g):EP X d f Q (.bool g) s:=by subst e;exact ⟨.bl k,H,I,rfl,q⟩
theorem iK:mD X (compareOp .Eq) Xq:=by
 intro l s m H x y v u Q I g d h;obtain ⟨f,q⟩:=h;cases x with
 | non=>
   cases g;cases y with
   |non=>cases d;exact PySem.EqNone.eq_none_none (dX I q (by simp))
   |bl j=>cases d;exact PySem.EqNone.eq_none_bool (dX I q (by simp))
   |int j=>obtain ⟨e,rfl⟩:=d;exact PySem.EqNone.eq_none_int (dX I q (by simp))
   |str j=>obtain ⟨e,rfl⟩:=d;exact PySem.EqNone.eq_none_str (dX I q (by simp))
   |_=>exact absurd (show false=true from f) aaz
 | bl i=>
   cases g;cases y with
   |non=>cases d;exact PySem.EqNone.eq_bool_none (dX I q (by simp))
   |bl j=>cases d;exact eq_bool (dX I q CG)
   |str j=>obtain ⟨e,rfl⟩:=d;exact PySem.EqMixed.eq_bool_str (dX I q (by simp))
   |_=>exact absurd (show false=true from f) aaz
 | int i=>
   obtain ⟨t,rfl⟩:=g;cases y with
   |non=>cases d;exact PySem.EqNone.eq_int_none (dX I q (by simp))
   |int j=>obtain ⟨e,rfl⟩:=d;exact eq_int (dX I q zF)
   |str j=>obtain ⟨e,rfl⟩:=d;exact PySem.EqMixed.eq_int_str (dX I q (by simp))
   |_=>exact absurd (show false=true from f) aaz
 | str i=>
   obtain ⟨t,rfl⟩:=g;cases y with
   |non=>cases d;exact PySem.EqNone.eq_str_none (dX I q (by simp))
   |bl j=>cases d;exact PySem.EqMixed.eq_str_bool (dX I q (by simp))
   |int j=>obtain ⟨e,rfl⟩:=d;exact PySem.EqMixed.eq_str_int (dX I q (by simp))
   |str j=>obtain ⟨e,rfl⟩:=d;exact eq_str (dX I q yX)
   |_=>exact absurd (show false=true from f) aaz
 | byt i=>
   obtain ⟨t,rfl⟩:=g;cases y with
   |byt j=>obtain ⟨e,rfl⟩:=d;exact PySem.W.eq_bytes (dX I q yV)
   |_=>exact absurd (show false=true from f) aaz
 |_=>cases y <;> exact absurd (show false=true from f) aaz
theorem tK:mD X (compareOp .NotEq) Xw:=by
 intro l s m H x y v u Q I g d h;obtain ⟨f,q⟩:=h;cases x with
 | non=>
   cases g;cases y with
   |non=>cases d;exact PySem.EqNone.ne_none_none (dX I q (by simp))
   |bl j=>cases d;exact PySem.EqNone.ne_none_bool (dX I q (by simp))
   |int j=>obtain ⟨e,rfl⟩:=d;exact PySem.EqNone.ne_none_int (dX I q (by simp))
   |str j=>obtain ⟨e,rfl⟩:=d;exact PySem.EqNone.ne_none_str (dX I q (by simp))
   |_=>exact absurd (show false=true from f) aaz
 | bl i=>
   cases g;cases y with
   |non=>cases d;exact PySem.EqNone.ne_bool_none (dX I q (by simp))
   |bl j=>cases d;exact ne_bool (dX I q (aaM not CG))
   |str j=>obtain ⟨e,rfl⟩:=d;exact PySem.EqMixed.ne_bool_str (dX I q (by simp))
   |_=>exact absurd (show false=true from f) aaz
 | int i=>
   obtain ⟨t,rfl⟩:=g;cases y with
   |non=>cases d;exact PySem.EqNone.ne_int_none (dX I q (by simp))
   |int j=>obtain ⟨e,rfl⟩:=d;exact ne_int (dX I q (aaM not zF))
   |str j=>obtain ⟨e,rfl⟩:=d;exact PySem.EqMixed.ne_int_str (dX I q (by simp))
   |_=>exact absurd (show false=true from f) aaz
 | str i=>
   obtain ⟨t,rfl⟩:=g;cases y with
   |non=>cases d;exact PySem.EqNone.ne_str_none (dX I q (by simp))
   |bl j=>cases d;exact PySem.EqMixed.ne_str_bool (dX I q (by simp))
   |int j=>obtain ⟨e,rfl⟩:=d;exact PySem.EqMixed.ne_str_int (dX I q (by simp))
   |str j=>obtain ⟨e,rfl⟩:=d;exact ne_str (dX I q (aaM not yX))
   |_=>exact absurd (show false=true from f) aaz
 | byt i=>
   obtain ⟨t,rfl⟩:=g;cases y with
   |byt j=>obtain ⟨e,rfl⟩:=d;exact PySem.W.ne_bytes (dX I q (aaM not yV))
   |_=>exact absurd (show false=true from f) aaz
 |_=>cases y <;> exact absurd (show false=true from f) aaz
theorem Ju:mD X (compareOp .Lt) (Gk fun i j=>.bl (decide (i<j))):=Il fun _ _ _ _ _ _ _ q=>lt_int q
theorem kY:mD X (compareOp .LtE) (Gk fun i j=>.bl (decide (i≤j))):=Il fun _ _ _ _ _ _ _ q=>le_int q
theorem EY:mD X (compareOp .Gt) (Gk fun i j=>.bl (decide (j<i))):=Il fun _ _ _ _ _ _ _ q=>gt_int q
theorem vQ:mD X (compareOp .GtE) (Gk fun i j=>.bl (decide (j≤i))):=Il fun _ _ _ _ _ _ _ q=>ge_int q
theorem wZ:mD X (compareOp .Is) (fun x y H Q=>y=.non/\Q (.bl (decide (x=.non))) H):=by
 intro d s g H x y v u Q I e f h;obtain ⟨rfl,q⟩:=h;cases f;refine is_none_gen (dX I q ?_);cases x <;> first
  |(cases e;rfl)
  |(obtain ⟨t,rfl⟩:=e;rfl)
theorem zu:mD X (compareOp .IsNot) (fun x y H Q=>y=.non/\Q (.bl (!decide (x=.non))) H):=by
 intro d s g H x y v u Q I e f h;obtain ⟨rfl,q⟩:=h;cases f;refine isnot_none_gen (dX I q ?_);cases x <;> first
  |(cases e;rfl)
  |(obtain ⟨t,rfl⟩:=e;rfl)
theorem dw (b:Z9) (h:op≠.In:=by decide) (f:op≠.NotIn:=by decide):behindInMarks op b=false:=by
 have d:(op == CmpOp.In)=false:=by cases op <;> first|rfl|exact absurd rfl h
 have e:(op == CmpOp.NotIn)=false:=by cases op <;> first|rfl|exact absurd rfl f
 cases b <;> simp [behindInMarks,d,e]
theorem iG (m:mD X (compareOp op) r) (n:PE X a z) (o:PE X b w) (p:behindInMarks op b=false):PE X (.Compare a [op] [b] c) (Ov r z w):=by intro d s l H Q I h;exact wpAny_Compare1 (Lk n o I h fun v u e x y f g i j q=>m d e l f x y v u Q g i j q) p
def sS (t:TE):TT:=fun d H Q=>t d H fun x e=>∃ k,x=.bl k/\Q k e
theorem dz {op:CmpOp} {r:R2} (w:mD X (compareOp op) r) (A:PE X a G) (B:PE X b F) (C:behindInMarks op b=false):PT X (.Compare a [op] [b] E) (sS (Ov r G F)):=by intro d s f H Q I h;refine wpAny_isTrue_Compare1 (eG (A d s f H _ I h) fun v g ⟨x,i,j,r1,q1⟩=>eG (B d g f i _ j q1) fun u l ⟨y,m,n,r2,q2⟩=> eG (w d l f m x y v u _ n r1 r2 q2) fun c D ⟨z,o,p,r3,k,e,q⟩=>?_) C;subst e;cases r3;exact aa9 ⟨o,p,q⟩
def C_ (r j:R2) (l m n:TE):TE:=fun d H Q=>l d H fun x f=>m d f fun y g=>r x y g fun z e=>∃ k,z=.bl k/\
 (if k=true then n d e fun h i=>j y h i Q else Q (.bl false) e)
theorem pI {op g:CmpOp} {r o:R2} (U:mD X (compareOp op) r) (j:mD X (compareOp g) o) (W:PE X a ta) (Y:PE X b tb) (Z:PE X c tc)
 (hm:lastMarks [op,g] [b,c]=false:=by with_unfolding_all rfl):PT X (.Compare a [op,g] [b,c] pos) (sS (C_ r o ta tb tc)):=by
 intro f s i H Q I h;refine isTrue_chain (eG (W f s i H _ I h) fun v p ⟨x,q,w,r1,q1⟩=>test_link (eG (Y f p i q _ w q1) fun u A ⟨y,B,C,r2,q2⟩=> eG (U f A i B x y v u _ C r1 r2 q2) fun d D ⟨z,l,m,r3,k,e,n⟩=>?_)) hm;subst e;cases r3;refine aa9 ?_;cases k with
 | false=>obtain ⟨k',S,T⟩:=n;cases S;exact ite_ff ⟨l,m,T⟩
 | true=>refine ite_tt (test_last (eG (Z f D i l _ m n) fun E F ⟨G,J,L,r4,M⟩=>eG (j f F i J y G u E _ L r2 r4 M) fun d' s5 ⟨z2,N,O,r5,k2,P,R⟩=>?_));subst P;cases r5;exact aa9 ⟨N,O,R⟩
def Sy (K:Z2) (x:V) (H:Hp) (k:Bool):Prop:=
 match x with
 |.non=>k=false
 |.bl b=>k=b
 |.int i=>k=(i != 0)
 |.str y=>y.length≤sizeLine/\k=((y.length:Int) != 0)
 |.byt y=>y.size≤sizeLine/\k=((y.size:Int) != 0)
 |.ref p=>(∃ xs,dR K H p xs/\k=!xs.isEmpty)∨(∃ xs,eE K H p xs/\k=!xs.isEmpty)∨∃ kvs,H p=some (.dK kvs)/\k=!kvs.isEmpty
 |_=>False
theorem wM {κ:Type} {kvs:List (κ×V)} {vs:List (κ×Value)} (r:KV kvs vs):(!vs.isEmpty)=!kvs.isEmpty:=by cases r <;> rfl
theorem pX (r:Vals xs its):(!its.toArray.isEmpty)=!xs.isEmpty:=by cases r <;> simp
theorem nW:(sizeLine:Nat)<2 ^ 63:=by rw [sizeLine_eq];decide
theorem Mf {X:Cx}:Wd X (fun x H Q=>∃ k,Sy X.K x H k/\Q k H):=by
 intro cW s σ H x v Q I rx h;obtain ⟨k,e,q⟩:=h;have hl:=nW;have hs:sizeLine=16777216:=sizeLine_eq;cases x with
 | non=>cases rx;have e':k=false:=e;subst e';exact truthy_none ⟨H,I,q⟩
 | bl b=>cases rx;have e':k=b:=e;subst e';exact aa9 ⟨H,I,q⟩
 | int i=>obtain ⟨t,rfl⟩:=rx;have e':k=(i != 0):=e;subst e';exact PySem.P.truthy_int ⟨H,I,q⟩
 | str y=>obtain ⟨t,rfl⟩:=rx;obtain ⟨hy,e'⟩:y.length≤sizeLine/\k=((y.length:Int) != 0):=e;subst e';exact PySem.P.truthy_str (by omega) ⟨H,I.tok _,q⟩
 | byt y=>obtain ⟨t,rfl⟩:=rx;obtain ⟨hy,e'⟩:y.size≤sizeLine/\k=((y.size:Int) != 0):=e;subst e';exact PySem.W.truthy_bytes (by omega) ⟨H,I.tok _,q⟩
 | ref p=>
   cases rx;have e':(∃ xs,dR X.K H p xs/\k=!xs.isEmpty)∨(∃ xs,eE X.K H p xs/\k=!xs.isEmpty)∨∃ kvs,H p=some (.dK kvs)/\k=!kvs.isEmpty:=e;rcases e' with ⟨xs,hx,e'⟩|⟨xs,hx,e'⟩|⟨kvs,hx,e'⟩
   ·subst e';obtain ⟨its,r,pl,hz⟩:=I.list hx;have hlen:=r.length;exact wpAny_truthy_list pl.isList (by simp only [aat];omega) ⟨H,I.tok _,by rw [pX r];exact q⟩
   ·subst e';obtain ⟨its,r,pl,hz⟩:=I.tuple hx;have hlen:=r.length;exact truthy_tuple pl (by simp only [aat];omega) ⟨H,I.tok _,by rw [pX r];exact q⟩
   ·subst e';obtain ⟨hz,hS,vs,r,m⟩:kvs.length≤sizeLine/\(p == sysModules)=false/\∃ vs,KV kvs vs/\s.heap.DictOf (fY X.prog X.w) p vs:=I.hok p _ hx;have hlen:kvs.length=vs.length:=aaZ r;exact wpAny_truthy_dict hS m (by omega) ⟨H,I.tok _,by rw [wM r];exact q⟩
 |_=>exact (show False from e).elim
theorem Ea {X:Cx} {a:Z9} {b:TE} (m:PE X a b) (n:∀ d,isTrue a X.env d=(do let v ← d;standAt a.pos;holding [v] (truthy v))) :
 PT X a (fun f H Q=>b f H fun x g=>∃ k,Sy X.K x g k/\Q k g):=by
 intro e s f H Q I h;exact isTrue_plain (eG (m e s f H _ I h) fun v i ⟨x,j,l,r1,q1⟩=>Mf e i f j x v Q l r1 q1) (n _)
theorem kj:mD X (binaryOp .Add) (fun x y H Q=>∃ i j,x=.str i/\y=.str j/\i.length+j.length≤sizeLine/\Q (.str (i++j)) H):=by intro d s m H x y v u Q I g l h;obtain ⟨i,j,rfl,rfl,f,q⟩:=h;obtain ⟨t,rfl⟩:=g;obtain ⟨e,rfl⟩:=l;exact add_str (fun e tk=>⟨.str (i++j),H,I.tok _,⟨_,rfl⟩,q⟩) f
theorem vals1 (r:Vals [x] d):∃ u,d=[u]/\RelV x u:=by
 cases r with
 |cons r1 r2=>cases r2;exact ⟨_,rfl,r1⟩
theorem vals2 (r:Vals [x,y] e):∃ u d,e=[u,d]/\RelV x u/\RelV y d:=by
 cases r with
 | cons r1 r2=>
   cases r2 with
   |cons r3 r4=>cases r4;exact ⟨_,_,rfl,r1,r3⟩
theorem rE:ji X (.type "int") (fun d H Q=>(∃ i,d=[.int i]/\Q (.int i) H)∨∃ k,d=[.bl k]/\Q (.int (if k then 1 else 0)) H):=by
 intro e s f H d g Q I r h;rcases h with ⟨i,rfl,q⟩|⟨k,rfl,q⟩
 ·obtain ⟨u,rfl,t,rfl⟩:=vals1 r;exact call_int_int ⟨.int i,H,I,⟨_,rfl⟩,q⟩
 ·obtain ⟨u,rfl,r1⟩:=vals1 r;cases r1;exact call_int_bool ⟨.int (if k then 1 else 0),H,I.tok _,⟨_,rfl⟩,q⟩
theorem uD:ji X (.type "str") (fun d H Q=>∃ i,d=[.int i]/\i.natAbs.log2<1920/\Q (.str (toString i)) H):=by intro e s g H d j Q I r h;obtain ⟨i,rfl,f,q⟩:=h;obtain ⟨u,rfl,t,rfl⟩:=vals1 r;exact PySem.P.str_of_int f ⟨.str _,H,I.tok _,⟨_,rfl⟩,q⟩
structure yI (h:Z7) (x dx C:Z0) (mA:Zc):Prop where
 obj:h.get? x=some (PySem.W.instObj C dx)
 ns:h.Ns1 dx mA
 ne:dx≠x
theorem nZ {h:Z7} {g:Zc} (n:h.Ns1 f g):∃ od,h.get? f=some od/\∀ b,PySem.W.lookIn b od=some (g b):=by
 obtain ⟨o,d,p,j,hd,hk,_,l⟩:=n;refine ⟨o,j,fun b=>?_⟩;have e:=l b;unfold nsFind findBy at e;rw [← Array.find?_toList] at e;unfold PySem.W.lookIn;rw [hd];dsimp only;split
 ·rename_i y q;rw [q] at e;exact aaM some e
 ·rename_i q;rw [q] at e;have a:d.toList.any (·.refKey)=false:=by rw [acG];intro y m;obtain ⟨z,t,c⟩:=hk y (Array.mem_toList_iff.mp m);simp [DictEntry.refKey,c]
  have i:¬ d.toList.any (·.refKey)=true:=by rw [a];exact aaz
  rw [aac i];exact aaM some e
theorem yI.look (I:yI h x b C c):∃ od,PySem.W.InstAt h x (PySem.W.instObj C b) C (some od)/\∀ a,PySem.W.lookIn a od=some (c a):=
 let ⟨od,d,e⟩:=nZ I.ns
 ⟨od,⟨I.obj,rfl,rfl,d⟩,e⟩
section
variable {prog:Z4} {w:Z5} {A:Z8} {E:Zb} {s:Z1} {K:Z2} {x dx C f:Z0} {mA:Zc} {name:Str} {v:Z6}
theorem GX (X:K.In s.heap) (I:yI s.heap x dx C mA) (d:PySem.W.plainGet K C name=true) (e:PySem.W.hasDictIn K C=true)
 (g:PySem.W.findIn K (.ref C) name=some none) (i:mA name=some v) (b:PySem.W.handedIn v=true) (h:Q v { s with toks:=s.toks+1 }) :
 wpAny (model prog w) A (getAttr (.ref x) name a) Q E s:=by
 obtain ⟨od,J,c⟩:=I.look;exact PySem.W.get_value X J (acH d).1 (PySem.W.findObj_own e g rfl (by rw [c,i])) b h
theorem Dm (X:K.In s.heap) (I:yI s.heap x dx C mA) (a:PySem.W.plainGet K C name=true)
 (d:PySem.W.findIn K (.ref C) name=some (some (.ref f))) (e:PySem.W.isFn K (.ref f)=true) (g:mA name=none) (h:Q (.ref f,[.ref x]) s) :
 wpAny (model prog w) A (getMethod (.ref x) name c) Q E s:=by
 obtain ⟨od,J,b⟩:=I.look;exact PySem.W.method_fn X J (acH a).1 (acH a).2 d (aaS.mp e) (by show (PySem.W.lookIn name od).map (·.isSome)=some false;rw [b,g];rfl) h
theorem Hl (X:K.In s.heap) (I:yI s.heap x dx C mA)
 (z:PySem.W.findIn K (.ref C) "__setattr__" = some (some (.builtin "object.__setattr__"))) (B:PySem.W.plainOver K C=true) (D:PySem.W.takerIn K C name=some none) (F:PySem.W.hasDictIn K C=true)
 (G:PySem.Within mA m) (H:m.length≤sizeLine)
 (h:∀ e,yI e x dx C (fun y=>if y=name then some v else mA y)->Heap.SameBut dx s.heap e->Q () { s with heap:=e,toks:=s.toks+2 }) :
 wpAny (model prog w) A (setAttr (.ref x) name v) Q E s:=by
 obtain ⟨od,J,L⟩:=I.look;refine PySem.W.set_plain X J z (PySem.W.osa_open (s:={ s with toks:=s.toks+1 }) (r:=none) X J B D fun b=>?_);obtain ⟨cd,o,g⟩:=PySem.W.any_some F;have n:s.heap.get? x=some ⟨.ref C,some dx,.plain,#[]⟩:=I.obj;refine aaa (aab (aaa (aaa (abR n (aaa (PySem.W.Looks.here (s:={ s with toks:=s.toks+1 }) (PySem.W.looks_clsIn X o) ?_))))));rw [g];refine aab (a:=some dx) (aaa (aab (aaa ?_)));refine wpAny_nsSet1 (s:={ s with toks:=s.toks+1 }) I.ns fun e c d=>?_;obtain ⟨M,p,q,i,j,l⟩:=c.count (acI name v G);refine aaa (wpAny_lookBehind i (by rw [j];exact pastItsLine_dict (aaj l (by rw [aaw];omega))) ?_);exact aab (h _ ⟨(d.2 _ (aaC I.ne)).trans I.obj,c,I.ne⟩ d)
theorem vG (X:K.In s.heap) (c:PySem.W.makesIn K C=true)
 (e:PySem.W.findIn K (.ref C) "__init__" = some (some (.ref f))) (i:PySem.W.typeIn K (.ref f)=some (.type "function"))
 (h:codeAny (model prog w) (A.under (.builtin "type.__call__" ⟨.ref C::vs,b⟩)) (.call (.ref f) ⟨.ref (s.heap.objs.size+1)::vs,b⟩) (PySem.W.InitBack (s.heap.objs.size+1) R) { s with heap:=(s.heap.push PySem.W.emptyDict).push (PySem.W.instObj C s.heap.objs.size) }) :
 codeAny (model prog w) A (.call (.ref C) ⟨vs,b⟩) R s:=by
 obtain ⟨j,g,d,t,l⟩:=s;exact PySem.W.make_core (PySem.W.makes_of X c) (PySem.W.looks_findIn X e) (fun a=>PySem.W.bind_fn X a i) (.inl rfl) h
end
noncomputable def d_ (f:Str) (v:V):List (Str×V)->List (Str×V)
 |[]=>[(f,v)]
 |(g,x)::r=>if g=f then (g,v)::r else (g,x)::d_ f v r
theorem gB (f g:Str) (v:V):∀ fs:List (Str×V),(d_ f v fs).lookup g=if g=f then some v else fs.lookup g
 | []=>by
   show List.lookup g [(f,v)]=_;by_cases h:g=f
   ·have a:(g == f)=true:=aaS.mpr h;simp only [List.lookup,a,aad h]
   ·have a:(g == f)=false:=abx.mpr h;simp only [List.lookup,a,aac h]
 | (k,x)::r=>by
   have b:=gB f g v r;rw [show d_ f v ((k,x)::r)=(if k=f then (k,v)::r else (k,x)::d_ f v r) from rfl];by_cases hk:k=f
   ·rw [aad hk];by_cases h:g=k
    ·have a:(g == k)=true:=aaS.mpr h;simp only [List.lookup,a,aad (h.trans hk)]
    ·have a:(g == k)=false:=abx.mpr h;simp only [List.lookup,a,aac (fun e:g=f=>h (e.trans hk.symm))]
   ·rw [aac hk];by_cases h:g=k
    ·have a:(g == k)=true:=aaS.mpr h;simp only [List.lookup,a,aac (fun e:g=f=>hk (h.symm.trans e))]
    ·have a:(g == k)=false:=abx.mpr h;simp only [List.lookup,a];exact b
theorem jU (f:Str) (v:V):∀ fs:List (Str×V),f∈(d_ f v fs).map (·.1)/\∀ g,g∈fs.map (·.1)->g∈(d_ f v fs).map (·.1)
 |[]=>⟨by simp [d_],fun g h=>by simp at h⟩
 | (k,x)::r=>by
   obtain ⟨a,b⟩:=jU f v r;rw [show d_ f v ((k,x)::r)=(if k=f then (k,v)::r else (k,x)::d_ f v r) from rfl];by_cases hk:k=f
   ·rw [aad hk];subst hk;exact ⟨by simp,fun g h=>by simpa using h⟩
   ·rw [aac hk];refine ⟨?_,fun g h=>?_⟩
    ·rw [aaE];exact aag _ a
    ·rw [aaE] at h ⊢;rcases aaf.mp h with e|e
     ·exact aaf.mpr (.inl e)
     ·exact aag _ (b g e)
theorem oG (f:Str) (v:V):∀ fs:List (Str×V),(d_ f v fs).length≤fs.length+1
 |[]=>by simp [d_]
 | (k,x)::r=>by
   have a:=oG f v r;rw [show d_ f v ((k,x)::r)=(if k=f then (k,v)::r else (k,x)::d_ f v r) from rfl];by_cases hk:k=f
   ·rw [aad hk,aaw,aaw];omega
   ·rw [aac hk,aaw,aaw];omega
theorem jV.some_of (r:jV (some v) o):∃ u,o=some u/\RelV v u:=by
 cases o with
 |none=>exact (show False from r).elim
 |some u=>exact ⟨u,rfl,r⟩
theorem jV.none_of (r:jV none o):o=none:=by
 cases o with
 |none=>rfl
 |some u=>exact (show False from r).elim
theorem rJ (r:RelV v u):PySem.W.handedIn u=true:=by
 cases v with
 |non=>cases (show u=Value.none from r);rfl
 |bl b=>cases (show u=Value.bool b from r);rfl
 |int i=>obtain ⟨t,e⟩:=(show ∃ t,u=Value.int i t from r);cases e;rfl
 |str x=>obtain ⟨t,e⟩:=(show ∃ t,u=Value.str x t from r);cases e;rfl
 |byt b=>obtain ⟨t,e⟩:=(show ∃ t,u=Value.bytes b t from r);cases e;rfl
 |flt b=>obtain ⟨t,e⟩:=(show ∃ t,u=Value.float b t from r);cases e;rfl
 |ref a=>cases (show u=Value.ref a from r);rfl
 |ty n=>cases (show u=Value.type n from r);rfl
theorem oZ (c:kO P w H h) (e:H a=some (.ins C i fs)):∃ b,yI h a i C b/\(∀ f,jV (fs.lookup f) (b f))/\PySem.Within b (fs.map (·.1))/\fs.length≤1000/\H i=some (.own a):=by obtain ⟨d,z,ne,g,b,n,r,q⟩:=(show eU P w H h a (.ins C i fs) from c a _ e);exact ⟨b,⟨g,n,ne⟩,r,q,z,d⟩
structure sO (K:Z2) (C:Z0):Prop where
 pg:PySem.W.plainGet K C Str.empty=true
 hd:PySem.W.hasDictIn K C=true
 po:PySem.W.plainOver K C=true
 sa:PySem.W.findIn K (.ref C) "__setattr__" = some (some (.builtin "object.__setattr__"))
theorem sO.get {K:Z2} {C:Z0} (c:sO K C) (f:Str):PySem.W.plainGet K C f=true:=c.pg
def dJ (K:Z2) (C:Z0) (f:Str):Prop:=PySem.W.findIn K (.ref C) f=some none
theorem dJ.taker {K:Z2} {C:Z0} {f:Str} (n:dJ K C f):PySem.W.takerIn K C f=some none:=by unfold PySem.W.takerIn;rw [show PySem.W.findIn K (.ref C) f=some none from n];rfl
structure Meth (K:Z2) (C:Z0) (m:Str) (f:Z0):Prop where
 at_:PySem.W.findIn K (.ref C) m=some (some (.ref f))
 fn:PySem.W.isFn K (.ref f)=true
 kp:PySem.W.keepIn K (.ref f)=true
section
variable {X:Cx} {cW:Zi} {σ:St} {H:Hp} {s:Z1} {a C dx:Z0} {fs:List (Str×V)} {f:Str} {v:V} {A:Z8} {E:Zb}
theorem qK (I:Inv X cW σ H s) (e:H a=some (.ins C dx fs)) (c:sO X.K C) (n:dJ X.K C f) (l:fs.lookup f=some v)
 (h:∀ u d,Inv X cW σ H d->RelV v u->Q u d):wpAny (model X.prog X.w) A (getAttr (.ref a) f b) Q E s:=by
 obtain ⟨i,O,r,_,_,_⟩:=oZ I.hok e;obtain ⟨u,j,g⟩:=jV.some_of (v:=v) (o:=i f) (by rw [← l];exact r f);exact GX I.kIn O (c.get f) c.hd n j (rJ g) (h u _ (I.tok _) g)
theorem jZ (I:Inv X cW σ H s) (e:H a=some (.ins C dx fs)) (c:sO X.K C) (k:Meth X.K C m g) (l:fs.lookup m=none)
 (h:Q (.ref g,[.ref a]) s):wpAny (model X.prog X.w) A (getMethod (.ref a) m i) Q E s:=by
 obtain ⟨d,O,r,_,_,_⟩:=oZ I.hok e;have b:d m=none:=jV.none_of (by rw [← l];exact r m);exact Dm I.kIn O (c.get m) k.at_ k.fn b h
theorem qt (I:Inv X cW σ H s) (e:H a=some (.ins C dx fs)) (c:sO X.K C) (n:dJ X.K C f) (L:fs.length<1000) (J:RelV y u)
 (h:∀ i,Inv X cW σ (upd H a (.ins C dx (d_ f y fs))) i->Q () i):wpAny (model X.prog X.w) A (setAttr (.ref a) f u) Q E s:=by
 obtain ⟨j,O,r,l,_,m⟩:=oZ I.hok e;have F:(fs.map (·.1)).length≤sizeLine:=by rw [aah,sizeLine_eq];omega
 refine Hl I.kIn O c.sa c.po n.taker c.hd l F fun p d w=>h _ ?_;have hd:∃ o,p.get? dx=some o:=let ⟨o,_,_,G,_⟩:=d.ns;⟨o,G⟩
 refine I.write (x:=a) (e:=dx) (by rw [e];exact aaJ) (.inr m) (fun b q B z=>(w.2 b B).trans z) hd ?_;refine ⟨by rw [b7 O.ne];exact m,?_,O.ne,d.obj,_,d.ns,fun g=>?_,fun g D=>?_⟩
 ·have:=oG f y fs;omega
 ·show jV ((d_ f y fs).lookup g) (if g=f then some u else j g);rw [gB];by_cases q:g=f
  ·rw [aad q,aad q];exact J
  ·rw [aac q,aac q];exact r g
 ·by_cases q:g=f
  ·rw [q];exact (jU f y fs).1
  ·refine (jU f y fs).2 g (l g fun z=>D ?_);show (if g=f then some u else j g)=none;rw [aac q];exact z
theorem Inv.made (I:Inv X cW σ H s):Inv X cW σ (upd (upd H s.heap.objs.size (.own (s.heap.objs.size+1))) (s.heap.objs.size+1) (.ins C s.heap.objs.size []))
 { s with heap:=(s.heap.push PySem.W.emptyDict).push (PySem.W.instObj C s.heap.objs.size) }:=by
 have c:(s.heap.push PySem.W.emptyDict).get? s.heap.objs.size=some PySem.W.emptyDict:=aay s.heap rfl;have h:((s.heap.push PySem.W.emptyDict).push (PySem.W.instObj C s.heap.objs.size)).get? (s.heap.objs.size+1)=some (PySem.W.instObj C s.heap.objs.size):=by
  have:=aay (s.heap.push PySem.W.emptyDict) (o:=PySem.W.instObj C s.heap.objs.size) rfl
  rwa [aaV] at this
 have i:(s.heap.push PySem.W.emptyDict).Ns s.heap.objs.size (fun _=>none):=⟨PySem.W.emptyDict,#[],_,c,rfl,(fun e d=>absurd d (by simp)),fun _=>rfl⟩;have j:=I.laid (a:=s.heap.objs.size) (o:=.own (s.heap.objs.size+1)) (h':=s.heap.push PySem.W.emptyDict) (t':=s.toks) (fun b u q=>aak _ q) (aae _) ⟨_,c⟩;refine j.laid (a:=s.heap.objs.size+1) (o:=.ins C s.heap.objs.size []) (t':=s.toks) (fun b u q=>aak _ q) (abS (aaV _ _)) ?_;have ne:s.heap.objs.size≠s.heap.objs.size+1:=aap (acj _);refine ⟨by rw [b7 ne,a_],aaA _,ne,h,fun _=>none,(acJ i).at fun o q=>aak _ q,fun _=>aaJ,fun y g=>absurd rfl g⟩
theorem yW (g:attributeBase e f env (eval e env)=eval e env)
 (h:wpAny (model b w) A (eval e env) (fun o c=>wpAny (model b w) A (getAttr o f true) Q E c) E s):wpAny (model b w) A (eval (.Attribute e f d) env) Q E s:=
 Attribute_any_ h (by rw [arm_eval_Attribute,g])
end
def GZ (K:Z2) (e:TE) (f:Str):TE:=fun c H Q=>e c H fun x b=>∃ a C d fs v,x=.ref a/\b a=some (.ins C d fs)/\sO K C/\dJ K C f/\fs.lookup f=some v/\Q v b
def Ws (K:Z2) (g h:TE) (f:Str):TS:=fun D b H=>h b H fun y e=>g b e fun x c=>∃ a C d fs,x=.ref a/\c a=some (.ins C d fs)/\sO K C/\dJ K C f/\fs.length<1000/\
 D.nx b (upd c a (.ins C d (d_ f y fs)))
def PX (X:Cx) (op:Operator) (c:V->V->Hp->VK->Prop):Prop:=
 ∀ (a:Zi) (s:Z1) (b:St) (H:Hp) (x y:V) (u v:Z6) (Q:VK),Inv X a b H s->RelV x u->RelV y v->c x y H Q->wpAny (model X.prog X.w) X.A (inplaceOp op u v) (EP X a b Q) X.xe s
def Hu (K:Z2) (j l:TE) (m:V->V->Hp->VK->Prop) (f:Str):TS:=fun D d H=>j d H fun x e=>∃ a C i fs v,x=.ref a/\e a=some (.ins C i fs)/\sO K C/\dJ K C f/\fs.lookup f=some v/\
 l d e fun y h=>m v y h fun z g=>∃ c b,g a=some (.ins C c b)/\b.length<1000/\D.nx d (upd g a (.ins C c (d_ f z b)))
theorem cz {X:Cx} (y:PE X e F) (z:attributeBase e f X.env (eval e X.env)=eval e X.env):PE X (.Attribute e f o) (GZ X.K F f):=by intro b s w H Q I h;refine yW z (eG (y b s w H _ I h) fun u A ⟨x,d,g,i,a,C,B,fs,v,j,m,c,n,l,q⟩=>?_);subst j;obtain rfl:u=Value.ref a:=i;exact qK g m c n l fun D E p r=>⟨v,d,p,r,q⟩
theorem cP {X:Cx} {N:Pos} (B:PE X o Q) (E:PE X e P) (F:swapsWith e (some (.Attribute o f O)) N.line X.env=pure false):PS X (.Assign [.Attribute o f O] e N) (Ws X.K Q P f):=by intro b s d H D I h;refine plainObj_wpAny_Assign_Attribute (eG (E b s d H _ I h) fun u g ⟨y,i,j,m,q⟩=>eG (B b g d i _ j q) fun p G ⟨x,J,r,v,a,C,L,fs,w,z,c,n,l,q2⟩=>?_) F;subst w;obtain rfl:p=Value.ref a:=v;exact qt r z c n l m fun M A=>⟨d,_,A,q2⟩
theorem jm {X:Cx} {op:Operator} {j:V->V->Hp->VK->Prop} (Z:PE X o ta) (hv:PE X e tv) (i:PX X op j):PS X (.AugAssign (.Attribute o f tpos) op e pos) (Hu X.K ta tv j f):=by intro b s d H D I h;refine wpAny_AugAssign_AttributeAny (eG (Z b s d H _ I h) fun m s1 ⟨x,p,r,w,a,C,dx,fs,v,A,B,c,n,l,q⟩=>?_);subst A;obtain rfl:m=Value.ref a:=w;refine qK r B c n l fun u E F G=>eG (hv b E d p _ F q) fun J L ⟨y,M,N,O,P⟩=>eG (i b L d M v y u J _ N G O P) fun w4 s4 ⟨z,H3,Q,R,S,T,g,U,W⟩=>?_;exact qt Q g c n U R fun s5 Y=>⟨d,_,Y,W⟩
def Uw:V->V->Hp->VK->Prop:=fun x y H Q=>∃ i j,x=.int i/\y=.int j/\Q (.int (i+j)) H
theorem nY:PX X .Add Uw:=by rintro b s g H x y u v Q I c d ⟨i,j,rfl,rfl,q⟩;obtain ⟨t,rfl⟩:=(show ∃ t,u=Value.int i t from c);obtain ⟨a,rfl⟩:=(show ∃ a,v=Value.int j a from d);exact PyProof.Rows.iadd_int ⟨.int (i+j),H,I.tok _,⟨_,rfl⟩,q⟩
theorem Jy {X:Cx} {v:Sem Bool} {m:Str} {d:Pos} {b:Zl} {i:Zi} {s:Z1} {p:St} {H:Hp} {Q:Zb} {A:TE} (F:PE X e A) (I:Inv X i p H s)
 (h:A p H fun x r=>∃ a C y fs g,x=.ref a/\r a=some (.ins C y fs)/\sO X.K C/\Meth X.K C m g/\fs.lookup m=none/\ ∀ n,Inv X i p r n->wpAny (model X.prog X.w) X.A (callWith o (.ref g) [.ref a] (backTo o (starEach b X.env)) (backToKw o (keywordEach [] X.env))) Q X.xe n)
 (G:eval (.Call (.Attribute e m d) b [] o) X.env=(do
  let z ← eval e X.env
  standAt d.atName
  let (f,j) ← holding [z] (getMethod z m v)
  callWith o f j (backTo o (starEach b X.env)) (backToKw o (keywordEach [] X.env)))) :
 wpAny (model X.prog X.w) X.A (eval (.Call (.Attribute e m d) b [] o) X.env) Q X.xe s:=by
 refine ack (pl:=v) (eG (F i s p H _ I h) fun u n ⟨x,r,w,B,a,C,y,fs,g,D,E,c,k,l,q⟩=>?_) G;subst D;obtain rfl:u=Value.ref a:=B;exact jZ w E c k l (q n w)
structure dm (k:Nat) (A:Z8):Prop where
 hd:A.handled=none
 dp:A.depth+3*k+5<recursionLimit
 un:A.units+16*k+200<cLine
 gd:A.guards=some []
theorem dm.mono (r:dm k A) (h:j≤k):dm j A:=⟨r.hd,by have:=r.dp;omega,by have:=r.un;omega,r.gd⟩
theorem dm.deeper (r:dm (k+1) A) (env:Env):dm k (A.deeper env):=
 ⟨r.hd,by have:=r.dp;show A.depth+1+3*k+5<_;omega,by have:=r.un;show A.units+3+16*k+200<_;omega,r.gd⟩
theorem dm.in1 (r:dm (k+1) A):dm k A.in1:=
 ⟨r.hd,by have:=r.dp;show A.depth+3*k+5<_;omega,by have:=r.un;show A.units+1+16*k+200<_;omega,r.gd⟩
theorem wQ {A:Z8}:(A.under (.builtin "type.__call__" ⟨.ref C::a,b⟩)).depth=A.depth+1:=by first|rfl|simp [Around.under,Code.weight,Code.isCreation,Code.isGuard,Code.isCaller,Code.frames,Code.isFrame,guardIds]
theorem xx {A:Z8}:(A.under (.builtin "type.__call__" ⟨.ref C::a,b⟩)).units=A.units+1:=by first|rfl|simp [Around.under,Code.cUnits,Code.frames,Code.isFrame]
theorem dm.make (r:dm (k+1) A) (C:Z0) (a:Ze) (b:List (Str×Value)):dm k (A.under (.builtin "type.__call__" ⟨.ref C::a,b⟩)):=
 ⟨r.hd,by have:=r.dp;rw [wQ];omega,by have:=r.un;rw [xx];omega,by have:=r.gd;first|exact this|(simpa [Around.under] using this)⟩
theorem dm.depth (r:dm k A):A.depth<recursionLimit:=by have:=r.dp;omega
theorem dm.units (r:dm k A):A.units+64<cLine:=by have:=r.un;omega
def qX:TA:=fun _ H Q=>Q [] H
def mZ (e:TE) (f:TA):TA:=fun a H Q=>e a H fun x b=>f a b fun c d=>Q (x::c) d
theorem b_:PA X [] qX:=fun _ _ _ _ H Q I h=>Calls.spliced_nil ⟨[],H,I,.nil,h⟩
theorem aK {X:Cx} (m:PE X e v) (n:PA X r t) (o:starEach (e::r) X.env=(false,eval e X.env)::starEach r X.env:=by rfl):PA X (e::r) (mZ v t):=by intro b a s c H Q I h;rw [o];show wpAny _ _ (spliced ((false,eval e X.env)::backTo b (starEach r X.env))) _ _ s;refine Calls.spliced_cons (eG (m a s c H _ I h) fun u d ⟨x,f,g,r1,q1⟩=>?_);exact eG (n b a d c f _ g q1) fun p q ⟨i,j,l,r2,q2⟩=>⟨x::i,j,l,.cons r1 r2,q2⟩
def Wv (t:TA):TE:=fun c H Q=>t c H fun a b=>a.length≤sizeLine/\∀ p,b p=none->Q (.ref p) (upd b p (.tup a))
def Pz (t:TA):TE:=fun c H Q=>t c H fun a b=>a.length≤sizeLine/\∀ p,b p=none->Q (.ref p) (upd b p (.lst a))
theorem eZ {x1} (h:PA X o t):PE X (.Tuple o x1 n) (Wv t):=by intro a s l H Q I m;refine wpAny_Tuple_spliced (eG (h n a s l H _ I m) fun g c ⟨i,d,f,r,z,q⟩=>⟨by rw [← r.length];exact z,?_⟩);have j:d c.heap.objs.size=none:=f.hok.fresh (aae _);refine ⟨.ref c.heap.objs.size,upd d c.heap.objs.size (.tup i),f.laid (t':=c.toks) (fun b u e=>aak _ e) (aae _) ?_,rfl,q _ j⟩;exact ⟨z,g,r,⟨_,aay _ rfl,rfl,_,rfl⟩⟩
theorem gD (h:PA X o t):PE X (.List o n) (Pz t):=by intro a s l H Q I m;refine wpAny_List_spliced (eG (h n a s l H _ I m) fun g c ⟨i,d,f,r,z,q⟩=>⟨by rw [← r.length];exact z,?_⟩);have j:d c.heap.objs.size=none:=f.hok.fresh (aae _);refine ⟨.ref c.heap.objs.size,upd d c.heap.objs.size (.lst i),f.laid (t':=c.toks) (fun b u e=>aak _ e) (aae _) ?_,rfl,q _ j⟩;exact ⟨z,g,0,r,aay _ rfl⟩
abbrev Sp:=List V->Hp->VK->XK->Prop
abbrev rK:=List Env->Hp->Shared->XK->Value->Shared->Prop
structure uq (P:Z4) (w:Z5) (K:Z2) (mg:Zc) (base:Z7) (A:Z8) (outer:List Env) (s:Z1) (H:Hp):Prop where
 frames:A.frames=some outer
 mod:Mod K mg base
 bs:∀ b o,base.get? b=some o->s.heap.get? b=some o/\H b=none
 bsz:base.objs.size≤s.heap.objs.size
 funs:s.heap.FunFrames base outer
 frf:∀ b∈frs outer,H b=none
 hok:kO P w H s.heap
 bare:AllBare s.gens
def CE (a:List Env) (P:Z4) (w:Z5) (H:Hp) (s:Z1) (Q:VK) (u:Z6) (b:Z1):Prop:=
 ∃ v c,b.os=s.os/\AllBare b.gens/\Un (frs a) [] H c s.heap b.heap/\kO P w c b.heap/\RelV v u/\Q v c
def CR (c:rK) (a:List Env) (P:Z4) (w:Z5) (H:Hp) (s:Z1) (Q:VK) (E:XK) (r:Result) (b:Z1):Prop:=
 match r with
 |.ok (.ret u)=>CE a P w H s Q u b
 |.ok _=>False
 |.error e=>c a H s E e b
structure cD (P:Z4) (w:Z5) (K:Z2) (mg:Zc) (base:Z7) (CX:rK) (k:Nat) (f:Z0) (fd:Z3) (ps:Zd) (sp:Sp):Prop where
 len:∀ vs H Q E,sp vs H Q E->vs.length=ps.length
 run:∀ (A:Z8) (outer:List Env) (s:Z1) (H:Hp) (args:Args) (us:Ze) (vs:List V) (Q:VK) (E:XK),dm k A->uq P w K mg base A outer s H->BindsTo s fd args (ps.zip us)->Vals vs us->sp vs H Q E->
  codeAny (model P w) A (.call (.ref f) args) (CR CX outer P w H s Q E) s
theorem uq.make {P:Z4} {w:Z5} {K:Z2} {c:Zc} {b:Z7} {A:Z8} {a:List Env} {s:Z1} {H:Hp} (e:uq P w K c b A a s H) (C:Z0) (d:Ze) (f:List (Str×Value)) :
 uq P w K c b (A.under (.builtin "type.__call__" ⟨.ref C::d,f⟩)) a s H:=⟨by first|exact e.frames|(simpa [Around.under,Code.envs,Code.isFrame,pushEnvs] using e.frames),e.mod,e.bs,e.bsz,e.funs,e.frf,e.hok,e.bare⟩
theorem Inv.env0 (I:Inv X a b H s):uq X.prog X.w X.K X.mg X.base X.A X.stack s H:=
 ⟨I.ok.frames,I.ok.mod,I.bs,aaj I.ok.bsz I.sz,I.stack,I.stkFree,I.hok,I.bare⟩
theorem Inv.after (I:Inv X l n H s) (h:CE X.stack X.prog X.w H s Q u m):EP X l n Q u m:=by obtain ⟨v,f,i,a,un,c,r,q⟩:=h;obtain ⟨j,g,d,t,e⟩:=m;obtain rfl:e=s.os:=i;exact ⟨v,f,I.call (h':=j) (g':=g) (d':=d) (t':=t) (ch:=[]) un c a (fun b z=>absurd z (by simp)),r,q⟩
def BX (d:Sp) (a:List V) (E:XK) (t:TA):TE:=fun b H Q=>t b H fun vs c=>d (vs++a) c Q E
def vW (C:Z0) (m:Str) (g:Sp) (b:List V) (E:XK) (h:TE) (t:TA):TE:=fun c H Q=>h c H fun x d=>∃ a f fs,x=.ref a/\d a=some (.ins C f fs)/\fs.lookup m=none/\
 t c d fun vs e=>g (x::(vs++b)) e Q E
def JF (C:Z0) (f:Sp) (c:List V) (E:XK) (t:TA):TE:=fun d H Q=>t d H fun vs b=>∀ x a,b x=none->b a=none->a≠x->
 f (.ref x::(vs++c)) (upd (upd b a (.own x)) x (.ins C a [])) (fun v e=>v=.non/\Q (.ref x) e) E
def Binds (K:Z2) (d:Z3) (b:Zd) (c:Ze):Prop:=
 ∀ (s:Z1) (a:Ze),K.In s.heap->(a++c).length=b.length->BindsTo s d ⟨a,[]⟩ (b.zip (a++c))
theorem Binds.all {K:Z2} {d:Z3} {b:Zd} (h:∀ a:List Value,a.length=b.length->bindArgs d ⟨a,[]⟩=pure (b.zip a)):Binds K d b []:=fun s a _ c=>by rw [aaO] at c ⊢;exact .of_eq (h a c)
def fX (d:rK) (X:Cx) (E:XK):Prop:=∀ (a:Zi) (c:St) (H:Hp) (s:Z1) (e:Z6) (b:Z1),Inv X a c H s->d X.stack H s E e b->X.xe e b
section
variable {X:Cx} {CX:rK} {k:Nat} {f C:Z0} {fd:Z3} {ps:Zd} {sp:Sp} {dvs:List V} {ds:Ze} {E:XK} {x m:Str} {p pos apos:Pos} {e o:Z9} {es:Zl} {ta:TE} {t:TA}
theorem pQ (F:cD X.prog X.w X.K X.mg X.base CX k f fd ps sp) (j:dm k X.A) (l:Binds X.K fd ps ds) (hd:Vals dvs ds) (n:fX CX X E)
 (I:Inv X a c H s) (r:Vals vs us) (h:sp (vs++dvs) H Q E):wpAny (model X.prog X.w) X.A (call (.ref f) us) (EP X a c Q) X.xe s:=by
 have r2:Vals (vs++dvs) (us++ds):=r.append hd;have g:(us++ds).length=ps.length:=by rw [← r2.length];exact F.len _ _ _ _ h
 refine aa3 (codeAny_mono (F.run X.A X.stack s H ⟨us,[]⟩ (us++ds) (vs++dvs) Q E j I.env0 (l s us I.kIn g) r2 h) fun r d b=>?_);cases r with
 |error e=>exact n a c H s e d I b
 | ok i=>
   cases i with
   |ret u=>exact I.after b
   |next=>exact False.elim b
   |brk=>exact False.elim b
   |cont=>exact False.elim b
theorem p8 (F:cD X.prog X.w X.K X.mg X.base CX k f fd ps sp) (i:dm k X.A) (j:Gl X x) (l:X.mg x=some (.ref f)) (hk:PySem.W.keepIn X.K (.ref f)=true) (n:Binds X.K fd ps ds) (hd:Vals dvs ds) (v:fX CX X E)
 (w:PA X (e::es) t) (b:(x == ("__debug__" : Str))=false:=by decide) (y:starEach (e::es) X.env=(false,eval e X.env)::starEach es X.env:=by rfl) (c:(backTo pos (starEach es X.env)).any (·.1)=false:=by rfl) :
 PE X (.Call (.Name x p) (e::es) [] pos) (BX sp dvs E t):=by
 intro a s g H Q I h;refine aa4 (jD I j l ?_ b);refine acK (h₀:=X.base) I.ok.mod.kin hk (eG (w pos a s g H _ I h) fun z A ⟨vs,B,d,r,q⟩=>⟨d.kIn,?_⟩) y c;exact pQ F i n hd v d r q
theorem dg {g:Sem Bool} (M:PE X o ta) (c:sO X.K C) (A:Meth X.K C m f) (F:cD X.prog X.w X.K X.mg X.base CX k f fd ps sp) (N:dm k X.A) (O:Binds X.K fd ps ds) (hd:Vals dvs ds) (P:fX CX X E) (R:PA X (e::es) t)
 (i:starEach (e::es) X.env=(false,eval e X.env)::starEach es X.env:=by rfl) (j:(backTo pos (starEach es X.env)).any (·.1)=false:=by rfl)
 (S:eval (.Call (.Attribute o m apos) (e::es) [] pos) X.env=(do
  let y ← eval o X.env
  standAt apos.atName
  let (f,b) ← holding [y] (getMethod y m g)
  callWith pos f b (backTo pos (starEach (e::es) X.env)) (backToKw pos (keywordEach [] X.env))):=by rfl) :
 PE X (.Call (.Attribute o m apos) (e::es) [] pos) (vW C m sp dvs E ta t):=by
 intro d s z H Q I h;refine ack (pl:=g) (eG (M d s z H _ I h) fun u B ⟨x,D,n,G,a,T,fs,J,L,l,q⟩=>?_) S;subst J;obtain rfl:u=Value.ref a:=G;refine jZ n L c A l ?_;refine acK (first:=[.ref a]) (h₀:=X.base) I.ok.mod.kin A.kp (eG (R pos d B z D _ n q) fun v U ⟨vs,W,w,r,q2⟩=>⟨w.kIn,?_⟩) i j;exact pQ (us:=.ref a::v) (vs:=.ref a::vs) F N O hd P w (.cons rfl r) q2
theorem du {i:Sem Bool} (z:PE X o ta) (c:sO X.K C) (n:Meth X.K C m f) (F:cD X.prog X.w X.K X.mg X.base CX k f fd ps sp) (A:dm k X.A) (B:Binds X.K fd ps ds) (hd:Vals dvs ds) (D:fX CX X E)
 (G:eval (.Call (.Attribute o m apos) [] [] pos) X.env=(do
  let j ← eval o X.env
  standAt apos.atName
  let (f,b) ← holding [j] (getMethod j m i)
  callWith pos f b (backTo pos (starEach [] X.env)) (backToKw pos (keywordEach [] X.env))):=by rfl) :
 PE X (.Call (.Attribute o m apos) [] [] pos) (vW C m sp dvs E ta qX):=by
 intro d s y H Q I h;refine ack (pl:=i) (eG (z d s y H _ I h) fun u J ⟨x,L,g,r,a,M,fs,v,w,l,q⟩=>?_) G;subst v;obtain rfl:u=Value.ref a:=r;refine jZ g w c n l ?_;exact PySem.W.callWith_K0 (first:=[.ref a]) g.kIn n.kp (pQ (us:=[.ref a]) (vs:=[.ref a]) F A B hd D g (.cons rfl .nil) q)
structure Mk (K:Z2) (C f:Z0):Prop where
 makes:PySem.W.makesIn K C=true
 init:PySem.W.findIn K (.ref C) "__init__" = some (some (.ref f))
 fn:PySem.W.isFn K (.ref f)=true
 kp:PySem.W.keepIn K (.ref C)=true
theorem vB (M:Mk X.K C f) (F:cD X.prog X.w X.K X.mg X.base CX k f fd ps sp) (D:dm (k+1) X.A) (G:Binds X.K fd ps ds) (hd:Vals dvs ds)
 (J:fX CX X E) (I:Inv X b g H s) (r:Vals vs us)
 (h:∀ x c,H x=none->H c=none->c≠x->sp (.ref x::(vs++dvs)) (upd (upd H c (.own x)) x (.ins C c [])) (fun v j=>v=.non/\Q (.ref x) j) E) :
 wpAny (model X.prog X.w) X.A (call (.ref C) us) (EP X b g Q) X.xe s:=by
 have i:=h (s.heap.objs.size+1) s.heap.objs.size (I.hok.fresh (aba _)) (I.hok.fresh (aae _)) (aap (acj _));have d:=Inv.made (C:=C) I;have r2:Vals (V.ref (s.heap.objs.size+1)::(vs++dvs)) (Value.ref (s.heap.objs.size+1)::(us++ds)):=.cons rfl (r.append hd);have n:(Value.ref (s.heap.objs.size+1)::us++ds).length=ps.length:=by have e:=r2.length;rw [F.len _ _ _ _ i] at e;exact e.symm
 refine aa3 (vG (f:=f) I.kIn M.makes M.init (aaS.mp M.fn) (codeAny_mono (F.run _ X.stack _ _ ⟨Value.ref (s.heap.objs.size+1)::us,[]⟩ (Value.ref (s.heap.objs.size+1)::(us++ds)) _ _ E (D.make C us []) (d.env0.make C us []) (G _ (Value.ref (s.heap.objs.size+1)::us) d.kIn n) r2 i) fun r l a=>?_));cases r with
 |error e=>exact J b g _ _ e l d a
 | ok B=>
   cases B with
   | ret u=>obtain ⟨v,q,w,y,z,A⟩:=d.after a;subst z;exact ⟨y,⟨V.ref (s.heap.objs.size+1),q,w,rfl,A⟩⟩
   |next=>exact False.elim a
   |brk=>exact False.elim a
   |cont=>exact False.elim a
theorem jE (M:Mk X.K C f) (F:cD X.prog X.w X.K X.mg X.base CX k f fd ps sp) (i:dm (k+1) X.A) (j:Gl X x) (l:X.mg x=some (.ref C)) (n:Binds X.K fd ps ds) (hd:Vals dvs ds) (v:fX CX X E)
 (w:PA X (e::es) t) (b:(x == ("__debug__" : Str))=false:=by decide) (y:starEach (e::es) X.env=(false,eval e X.env)::starEach es X.env:=by rfl) (c:(backTo pos (starEach es X.env)).any (·.1)=false:=by rfl) :
 PE X (.Call (.Name x p) (e::es) [] pos) (JF C sp dvs E t):=by
 intro a s g H Q I h;refine aa4 (jD I j l ?_ b);refine acK (h₀:=X.base) I.ok.mod.kin M.kp (eG (w pos a s g H _ I h) fun z A ⟨vs,B,d,r,q⟩=>⟨d.kIn,?_⟩) y c;exact vB M F i n hd v d r q
theorem qi (M:Mk X.K C f) (F:cD X.prog X.w X.K X.mg X.base CX k f fd ps sp) (c:dm (k+1) X.A) (d:Gl X x) (g:X.mg x=some (.ref C)) (i:Binds X.K fd ps ds) (hd:Vals dvs ds) (j:fX CX X E)
 (a:(x == ("__debug__" : Str))=false:=by decide):PE X (.Call (.Name x p) [] [] pos) (JF C sp dvs E qX):=by
 intro b s l H Q I h;refine aa4 (jD I d g ?_ a);exact PySem.W.callWith_K0 I.kIn M.kp (vB (us:=[]) M F c i hd j I .nil h)
end
def PK (X:Cx) (d:List Keyword) (t:TA):Prop:=
 ∀ (b:Pos) (a:Zi) (s:Z1) (c:St) (H:Hp) (Q:List V->Hp->Prop),Inv X a c H s->t c H Q->wpAny (model X.prog X.w) X.A (evalAll ((backToKw b (keywordEach d X.env)).map (·.2))) (AP X a c Q) X.xe s
section
variable {X:Cx} {CX:rK} {k:Nat} {f C:Z0} {fd:Z3} {ps ks:Zd} {sp:Sp} {E:XK} {x m:Str} {p pos apos kpos:Pos} {e o:Z9} {es:Zl} {kws:List Keyword} {te ta:TE} {t tk:TA} {nm:Option Str}
theorem qF:PK X [] qX:=fun _ _ _ _ H Q I h=>wpAny_evalAll_nil ⟨[],H,I,.nil,h⟩
theorem i_ (q:PE X e te) (r:PK X kws t):PK X (⟨nm,e,kpos⟩::kws) (mZ te t):=by intro b a s c H Q I h;show wpAny _ _ (evalAll ((do let v ← eval e X.env;standAt b;pure v)::(backToKw b (keywordEach kws X.env)).map (·.2))) _ _ s;refine wpAny_evalAll_cons (aaa (eG (q a s c H _ I h) fun u d ⟨x,g,i,r1,q1⟩=>aaa (aa2 (aab ?_))));exact eG (r b a d c g _ i q1) fun w y ⟨j,l,n,r2,q2⟩=>⟨x::j,l,n,.cons r1 r2,q2⟩
structure jr (K:Z2) (fd:Z3) (ps ks:Zd) (g:List Value->List Value->List Value) (gV:List V->List V->List V):Prop where
 to:∀ (s:Z1) (us ws:Ze),K.In s.heap->(g us ws).length=ps.length->BindsTo s fd ⟨us,ks.zip ws⟩ (ps.zip (g us ws))
 rel:∀ {vs:List V} {us:Ze} {zs:List V} {ws:Ze},Vals vs us->Vals zs ws->Vals (gV vs zs) (g us ws)
theorem Gx (F:cD X.prog X.w X.K X.mg X.base CX k f fd ps sp) (v:dm k X.A) (j:jr X.K fd ps ks g z) (w:fX CX X E)
 (I:Inv X a d H s) (r:Vals vs us) (y:Vals i b) (h:sp (z vs i) H Q E):wpAny (model X.prog X.w) X.A (call (.ref f) us (ks.zip b)) (EP X a d Q) X.xe s:=by
 have r2:=j.rel r y;have n:(g us b).length=ps.length:=by rw [← r2.length];exact F.len _ _ _ _ h
 refine aa3 (codeAny_mono (F.run X.A X.stack s H ⟨us,ks.zip b⟩ (g us b) (z vs i) Q E v I.env0 (j.to s us b I.kIn n) r2 h) fun r l c=>?_);cases r with
 |error e=>exact w a d H s e l I c
 | ok q=>
   cases q with
   |ret u=>exact I.after c
   |next=>exact False.elim c
   |brk=>exact False.elim c
   |cont=>exact False.elim c
end
structure cA (N P:Zd) (sc:Za):Prop where
 kind:sc.kind=.function
 co:sc.isCoroutine=false
 gen:sc.isGenerator=false
 nd:N.Nodup
 pre:N.take P.length=P
 par:∀ x∈P,sc.names.lookup x=some .local∨sc.names.lookup x=some .cell
 nofree:∀ y∈sc.names,y.2≠.free
theorem rC {a:Str->Option NameKind} {x:Str}:∀ {binds:List (Str×Value)} {m:Zc},(∀ v,(x,v)∉binds)->bindL a binds m x=m x
 |[],_,_=>rfl
 | (n,v)::r,m,h=>by
   unfold bindL;rw [rC fun w b=>h w (aag _ b)];split
   ·have:x≠n:=by rintro rfl;exact h v aan
    simp [this]
   ·rfl
theorem rQ {a:Str->Option NameKind} {x:Str}:∀ {binds:List (Str×Value)} {m:Zc},(∀ v,(x,v)∉binds)->bindC a binds m x=m x
 |[],_,_=>rfl
 | (n,v)::r,m,h=>by
   unfold bindC;rw [rQ fun w b=>h w (aag _ b)];split
   ·rfl
   ·have:x≠n:=by rintro rfl;exact h v aan
    simp [this]
theorem sU {a:Str->Option NameKind}:∀ {P:Zd} {vs:Ze} {i:Nat} {m:Zc},P.Nodup->P[i]?=some x->vs[i]?=some v->a x=some .local->
 bindL a (P.zip vs) m x=some v
 |[],_,_,_,_,h,_,_=>by simp at h
 |_::_,[],_,_,_,_,h,_=>by simp at h
 | p::P,w::vs,0,m,nd,h1,h2,hk=>by simp at h1 h2;subst h1;subst h2;show bindL a ((p,w)::P.zip vs) m p=_;unfold bindL;rw [rC fun v b=>(aaK.mp nd).1 (abA b).1,aad hk];simp
 | p::P,w::vs,i+1,m,nd,h1,h2,hk=>by show bindL a ((p,w)::P.zip vs) m x=_;unfold bindL;exact sU (i:=i) (aaK.mp nd).2 (by simpa using h1) (by simpa using h2) hk
theorem rZ {a:Str->Option NameKind}:∀ {P:Zd} {vs:Ze} {i:Nat} {m:Zc},P.Nodup->P[i]?=some x->vs[i]?=some v->a x≠some .local->
 bindC a (P.zip vs) m x=some v
 |[],_,_,_,_,h,_,_=>by simp at h
 |_::_,[],_,_,_,_,h,_=>by simp at h
 | p::P,w::vs,0,m,nd,h1,h2,hk=>by simp at h1 h2;subst h1;subst h2;show bindC a ((p,w)::P.zip vs) m p=_;unfold bindC;rw [rQ fun v b=>(aaK.mp nd).1 (abA b).1,aac hk];simp
 | p::P,w::vs,i+1,m,nd,h1,h2,hk=>by show bindC a ((p,w)::P.zip vs) m x=_;unfold bindC;exact rZ (i:=i) (aaK.mp nd).2 (by simpa using h1) (by simpa using h2) hk
def start (N:Zd) (vs:List V):St:=vs.map some++List.replicate (N.length-vs.length) none
def iY (CX:rK) (P:Z4) (w:Z5) (K:Z2) (mg:Zc) (base:Z7) (N:Zd) (qual:Str) (scope:Za) (f:Z0) (cd:Z6) (A:Z8) (outer:List Env) (s:Z1) (H:Hp) (E:XK):Cx where
 prog:=P
 w:=w
 K:=K
 mg:=mg
 base:=base
 A:=A.deeper (envOfC qual scope s.heap.objs.size f cd)
 N:=N
 s₀:=s
 H₀:=H
 env:=envOfC qual scope s.heap.objs.size f cd
 outer:=outer
 stack:=envOfC qual scope s.heap.objs.size f cd::outer
 ex:=[]
 calm:=true
 fn:=fun _=>true
 pn:=[]
 xe:=fun e s'=>wpAny (model P w) (A.deeper (envOfC qual scope s.heap.objs.size f cd)) (leaving (envOfC qual scope s.heap.objs.size f cd) e) (fun _ s''=>CX outer H s E e s'') (fun e' s''=>CX outer H s E e' s'') s'
theorem uT {a:Za} (h:a.names.lookup x=some .cell):∃ c,(cellsFrom n a.names []).lookup x=some c:=by have q:=acL a.names n [] (.inl h);exact Option.isSome_iff_exists.mp q
theorem sH {CX:rK} {P:Z4} {w:Z5} {K:Z2} {mg:Zc} {base:Z7} {N ps:Zd} {qual:Str} {scope:Za} {f:Z0} {cd:Z6} {A:Z8} {outer:List Env} {s s1:Z1} {H:Hp} {E:XK} {us:Ze} {vs:List V}
 (S:cA N ps scope) (hd:A.handled=none) (e0:uq P w K mg base A outer s H) (hl:vs.length=ps.length) (r:Vals vs us)
 (x:InCallC s s.heap.objs.size (bindL (envOfC qual scope s.heap.objs.size f cd).kindOf (ps.zip us) fun _=>none) (cellsFrom (s.heap.objs.size+1) scope.names []) (bindC (envOfC qual scope s.heap.objs.size f cd).kindOf (ps.zip us) fun _=>none) s1) :
 Inv (iY CX P w K mg base N qual scope f cd A outer s H E) [] (start N vs) H s1:=by
 have hpl:ps.length≤N.length:=by have:=aaM List.length S.pre;rw [abi] at this;omega
 obtain ⟨h1,tk,rfl,hk⟩:=x.done;have noA:∀ b:Addr,b∉(iY CX P w K mg base N qual scope f cd A outer s H E).ex:=fun b z=>absurd (show b∈([]:Zh) from z) (by simp);refine ⟨⟨e0.mod,S.kind,rfl,rfl,aae _,fun y z c h1 h2=>?_,fun y hy=>?_,fun y c _ h=>?_,fun _=>hd,Around.frames_deeper e0.frames,.inr ⟨rfl,rfl⟩,fun b z=>absurd z (noA b),e0.bs,e0.bsz,fun b _ _=>noA b,fun b z=>absurd z (noA b),e0.funs,e0.frf⟩,
  rfl,e0.bare,Un.kept hk,⟨_,x.toInCall.ns,fun i y v h1 h2 h3=>?_⟩,fun y c h=>⟨_,x.cell y c h⟩,e0.hok.fresh (aae _),fun y c h=>?_,fun p hp=>absurd (show p∈([]:Zi) from hp) (by simp),e0.hok.kept hk,?_⟩
 ·exact name_of_addr x.apart (aa5 h1) (aa5 h2)
 ·have hy:scope.names.lookup y=some .cell∨scope.names.lookup y=some .free:=hy;rcases hy with hy|hy
  ·exact uT hy
  ·exact absurd rfl (S.nofree _ (aa5 hy))
 ·exact Nat.le_of_lt (x.above y c (aa5 h))
 ·have hi:i<vs.length:=by
   unfold start at h2;by_cases hi:i<vs.length
   ·exact hi
   ·rw [acl (by simpa using hi)] at h2;rw [List.getElem?_replicate] at h2;split at h2 <;> cases h2
  have ha:vs[i]?=some v:=by
   unfold start at h2;rw [ac8 (by simpa using hi),aau] at h2;cases e:vs[i]? with
   |none=>rw [e] at h2;cases h2
   |some a=>rw [e] at h2;cases h2;rfl
  obtain ⟨u,hu,rv⟩:=r.get ha;have hp:ps[i]?=some y:=by rw [← S.pre,List.getElem?_take_of_lt (by omega)];exact h1
  have ndP:ps.Nodup:=by rw [← S.pre];exact S.nd.sublist (acM _ _)
  refine ⟨u,rv,?_⟩;rcases S.par y (aaq hp) with k|k
  ·exact .inl ⟨k,sU ndP hp hu k⟩
  ·obtain ⟨c,e⟩:=uT (n:=s.heap.objs.size+1) k;refine .inr ⟨.inl k,c,e,?_⟩;have q:=x.cell y c e;rw [rZ ndP hp hu (by show scope.names.lookup y≠_;rw [k];decide)] at q;exact q
 ·exact e0.hok.fresh (Nat.le_of_lt (x.above y c (aa5 h)))
 ·unfold start;show _=N.length;rw [aao,aah,acm];omega
theorem vO {CX:rK} {P:Z4} {w:Z5} {K:Z2} {mg:Zc} {base:Z7} {k:Nat} {f:Z0} {name qual:Str} {params:Arguments} {body:List Stmt} {scope:Za} {dV kV doc pm cdv ct oc:Z6} {an od:Zg}
 {osl:Zm} {N ps:Zd} {sp:Sp} (lk:K.lookup f=some ⟨oc,od,.func (PySem.W.fnOf name qual params body scope dV kV doc pm an cdv ct),osl⟩) (hcd:PySem.W.codeIn K cdv qual=true) (S:cA N ps scope)
 (len:∀ vs H Q E,sp vs H Q E->vs.length=ps.length)
 (hbody:∀ (A:Z8) (outer:List Env) (s:Z1) (H:Hp) (vs:List V) (Q:VK) (E:XK),dm k (A.deeper (envOfC qual scope s.heap.objs.size f cdv))->sp vs H Q E-> ∃ t,u9 (iY CX P w K mg base N qual scope f cdv A outer s H E) body t/\t { nx:=fun _ H'=>Q .non H',rt:=Q } (start N vs) H) :
 cD P w K mg base CX (k+1) f (PySem.W.fnOf name qual params body scope dV kV doc pm an cdv ct) ps sp:=by
 refine ⟨len,fun A outer s H args us vs Q E hr e0 hb r hsp=>?_⟩;have hl:=len _ _ _ _ hsp;have KX:K.In s.heap:=e0.mod.kin.keeps fun b o e=>(e0.bs b o e).1;have lim:s.heap.NoLimit:=e0.mod.nolimit.keeps fun b o e=>(e0.bs b o e).1;have hkind:∀ y∈ps.zip us,scope.names.lookup y.1=some .local∨(scope.names.lookup y.1=some .cell/\((cellsFrom (s.heap.objs.size+1) scope.names []).lookup y.1).isSome=true):=fun ⟨n,v⟩ hy=>by
  rcases S.par n (abA hy).1 with q|q
  ·exact .inl q
  ·exact .inr ⟨q,acL _ _ _ (.inl q)⟩
 refine codeAny_call_function hr.depth (KX _ _ lk) rfl S.co S.gen rfl (PySem.W.codeRec_of KX hcd) (hb _ _ _ _ ?_);refine wpAny_newFunctionEnv_cells S.kind hkind fun env he s1 x=>?_;subst he;refine ⟨lim.keeps x.toInCall.keep,codeAny_func ?_⟩;obtain ⟨t,ht,hq⟩:=hbody A outer s H vs Q E (hr.deeper _) hsp;have I:Inv (iY CX P w K mg base N qual scope f cdv A outer s H E) [] (start N vs) H s1:=sH S hr.hd e0 hl r x;refine aaH (ht [] s1 (start N vs) H _ I hq) (fun fl s' hs=>?_) fun e s' hs=>hs;have fin:∀ {σ':St} {H':Hp} {v:V} {u:Z6},Inv (iY CX P w K mg base N qual scope f cdv A outer s H E) [] σ' H' s'->RelV v u->Q v H'->CE outer P w H s Q u s':=
  fun {σ' H' v u} J rv q=>⟨v,H',J.os,J.bare,J.base,J.hok,rv,q⟩;cases fl with
 | ret u=>obtain ⟨v,σ',H',J,rv,q⟩:=hs;exact fin J rv q
 | next=>obtain ⟨σ',H',J,q⟩:=hs;exact fin (v:=V.non) (u:=Value.none) J rfl q
 | brk=>obtain ⟨_,_,_,q⟩:=hs;exact False.elim q
 | cont=>obtain ⟨_,_,_,q⟩:=hs;exact False.elim q
section
variable {X:Cx} {x:Str} {p pos:Pos} {e:Z9} {es:Zl} {t:TA} {id T:String} {r:List V->Hp->VK->Prop}
def X4 (r:List V->Hp->VK->Prop) (t:TA):TE:=fun a H Q=>t a H fun vs b=>r vs b Q
theorem d9 (l:ji X (.builtin id) r) (m:Gl X x) (n:X.mg x=none) (o:bootBuiltins x=some (.builtin id)) (q:PA X (e::es) t) (v:x ≠ "__name__":=by decide) (b:(x == ("__debug__" : Str))=false:=by decide)
 (w:starEach (e::es) X.env=(false,eval e X.env)::starEach es X.env:=by rfl) (c:(backTo pos (starEach es X.env)).any (·.1)=false:=by rfl):PE X (.Call (.Name x p) (e::es) [] pos) (X4 r t):=by
 intro a s d H Q I h;refine aa4 (mz I m n o ?_ v b);exact PyProof.Rows.callWith_builtin1 (eG (q pos a s d H _ I h) fun f g ⟨vs,i,j,r1,q1⟩=>l a g d i vs f Q j r1 q1) w c
theorem gW (l:ji X (.type T) r) (m:Gl X x) (n:X.mg x=none) (o:bootBuiltins x=some (.type T)) (q:PA X (e::es) t) (v:x ≠ "__name__":=by decide) (b:(x == ("__debug__" : Str))=false:=by decide)
 (w:starEach (e::es) X.env=(false,eval e X.env)::starEach es X.env:=by rfl) (c:(backTo pos (starEach es X.env)).any (·.1)=false:=by rfl):PE X (.Call (.Name x p) (e::es) [] pos) (X4 r t):=by
 intro a s d H Q I h;refine aa4 (mz I m n o ?_ v b);exact ach (eG (q pos a s d H _ I h) fun f g ⟨vs,i,j,r1,q1⟩=>l a g d i vs f Q j r1 q1) w c
end
end L2
namespace HT
open PySem PyProof.Rows
section
open PySem.SeqAt
open PySem.AutoSeq1 (wpAny_loadPart')
open PySem.MeetsSeq PySem.MeetsSeq2 PySem.MeetsSeq3
end
section
variable {prog:Z4} {w:Z5} {A:Z8} {E:Zb} {s:Z1}
noncomputable def iM (n d:Nat):Option Int->Nat
 |none=>d
 |some v=>if v<0 then (v+(n:Int)).toNat else min v.toNat n
theorem vZ (n d:Nat):iM n d none=d:=rfl
theorem yS (n d k:Nat):iM n d (some (k:Int))=min k n:=by show (if (k:Int)<0 then ((k:Int)+(n:Int)).toNat else min (k:Int).toNat n)=min k n;rw [aac (by omega),acN]
theorem Ma (n d:Nat) (hd:d≤n) (o:Option Int):iM n d o≤n:=by
 cases o with
 |none=>exact hd
 | some v=>
   show (if v<0 then (v+(n:Int)).toNat else min v.toNat n)≤n;by_cases a:v<0
   ·rw [aad a];omega
   ·rw [aac a];exact Nat.min_le_right _ _
theorem zg (v:Int) (n d:Nat):(if v<0 then max (v+(n:Int)) 0 else min v (n:Int))=((iM n d (some v):Nat):Int):=by
 show (if v<0 then max (v+(n:Int)) 0 else min v (n:Int))=(((if v<0 then (v+(n:Int)).toNat else min v.toNat n):Nat):Int);by_cases a:v<0
 ·simp only [aad a];omega
 ·simp only [aac a];omega
theorem yh (a b:Option Int) (n:Nat):Builtin.Slice.sliceAdjust a b 1 (n:Int)=(((iM n 0 a:Nat):Int),((iM n n b:Nat):Int)):=by
 have c:¬ ((1:Int)<0):=by omega
 unfold Builtin.Slice.sliceAdjust;simp only [c,if_false];refine Prod.ext ?_ ?_
 ·cases a with
  |none=>rfl
  |some v=>exact zg v n 0
 ·cases b with
  |none=>rfl
  |some v=>exact zg v n n
theorem wR (i j:Nat):Builtin.Slice.slicePlaces (i:Int) (j:Int) 1=j-i:=by
 unfold Builtin.Slice.slicePlaces;have a:(1:Int) > 0:=by omega
 simp only [a,if_true,Int.ediv_one];split <;> omega
theorem pW (p:IsPart v o) (h:Q o s):wpAny (model prog w) A (Builtin.Slice.slicePartIndex v) Q E s:=by
 cases p with
 |none=>exact slicePart_none h
 |int i t=>exact slicePart_int h
theorem jN {f:Z0} {vl e:Z6} {a d:Option Int} {n:Nat} {Q:Int×Int×Nat->Shared->Prop} (i:s.heap.IsSliceOf f vl e .none) (j:IsPart vl a) (l:IsPart e d)
 (h:Q (((iM n 0 a:Nat):Int),1,iM n n d-iM n 0 a) s):wpAny (model prog w) A (Builtin.Slice.sliceApplied (.ref f) (pure (n:Int))) Q E s:=by
 obtain ⟨m,b,g,c⟩:=id i;unfold Builtin.Slice.sliceApplied Builtin.Slice.sliceFields;refine aaa (aaa (aaD b c (x:=vl) rfl (aaa (aaD b c (x:=e) rfl (aaa (aaD b c (x:=.none) rfl (aab ?_)))))));refine aaa (slicePart_none ?_);show wpAny _ _ (if ((1:Int) == 0)=true then _ else _) _ _ s;rw [aac (by decide)];refine aaa (pW j (aaa (pW l (aaa (aab ?_)))));show wpAny _ _ (match Builtin.Slice.sliceAdjust a d 1 (n:Int) with|(a,d)=>pure (a,(1:Int),Builtin.Slice.slicePlaces a d 1)) _ _ s;rw [yh a d n];show wpAny _ _ (pure (((iM n 0 a:Nat):Int),(1:Int),Builtin.Slice.slicePlaces ((iM n 0 a:Nat):Int) ((iM n n d:Nat):Int) 1)) _ _ s;rw [wR];exact aab h
theorem Fp (a:Zf) (i k:Nat):((List.range k).filterMap fun (m:Nat)=>a[((i:Int)+(m:Int)*1).toNat]?).toArray=((a.toList.drop i).take k).toArray:=by
 have e:(fun (m:Nat)=>a[((i:Int)+(m:Int)*1).toNat]?)=fun m=>a[i+m]?:=by
  funext m;have:((i:Int)+(m:Int)*1).toNat=i+m:=by omega
  rw [this]
 rw [e];have:=pick_run a i k;rw [List.filterMap_map] at this;have b:((fun x=>a[x]?) ∘ fun x=>i+x)=fun m=>a[i+m]?:=rfl;rw [b] at this;rw [this]
theorem mU {t l:Z0} {a:Zf} {vl n:Z6} {c d:Option Int} {Q:Zb} (e:IsTup s.heap t a) (o:s.heap.IsSliceOf l vl n .none) (v:IsPart vl c) (x:IsPart n d)
 (y:¬ (iM a.size 0 c=0/\iM a.size a.size d=a.size))
 (h:Q (.ref s.heap.objs.size) { s with heap:=s.heap.push { cls:=.type "tuple",data:=.seq ((a.toList.drop (iM a.size 0 c)).take (iM a.size a.size d-iM a.size 0 c)).toArray } })
 (z:a.size≤sizeLine):wpAny (model prog w) A (getItem (.ref t) (.ref l)) Q E s:=by
 have b:sizeOk (.seq ((a.toList.drop (iM a.size 0 c)).take (iM a.size a.size d-iM a.size 0 c)).toArray):=by show ((a.toList.drop (iM a.size 0 c)).take (iM a.size a.size d-iM a.size 0 c)).toArray.size≤sizeLine;rw [aat,abi,abT,acE];omega
 have B:iM a.size a.size d≤a.size:=Ma _ _ (aae _) d;obtain ⟨p,i,j,r⟩:=id o;have f:s.TypeIs (.ref l) "slice":=⟨p,i,j⟩;unfold getItem
 try with_reducible refine abb ?_
 first|refine aaa (aab ?_)|skip
 refine aaa (acO e.typeIs (by decide) ?_);refine aaa (wpAny_callSpecial?_slot (name:=Str.ofString "__getitem__") e.typeIs abB (abc abB e.typeIs entry_tuple_getitem ?_ (args_tuple_getitem _ _)));show wpAny _ _ (Builtin.Tuple.tupleItemsOf (.ref t) >>= _) _ _ s;refine aaa (tupleItemsOf_ e ?_);refine aaa (wpAny_typeOf f ?_);rw [aad (by decide)];refine aaa (jN o v x ?_);have g:¬ ((((iM a.size 0 c:Nat):Int) == 0 && (1:Int) == 1 && (iM a.size a.size d-iM a.size 0 c) == a.size)=true):=by intro q;rw [aa1,aa1] at q;have q1:((iM a.size 0 c:Nat):Int)=0:=eq_of_beq q.1.1;have q2:iM a.size a.size d-iM a.size 0 c=a.size:=eq_of_beq q.2;exact y ⟨by omega,by omega⟩
 show wpAny _ _ (if (((iM a.size 0 c:Nat):Int) == 0 && (1:Int) == 1 && (iM a.size a.size d-iM a.size 0 c) == a.size)=true then _ else _) _ _ s;rw [aac g,Fp]
 first
  |exact aaa (m:=Builtin.Tuple.tupleExact _) (aaU (aab ⟨_,rfl,aab h⟩) b)
  |exact aaa (m:=Builtin.Tuple.tupleExact _) (aaU (aaa (aab (aab ⟨_,rfl,aab h⟩))) b)
  |exact aaa (aaa (m:=Builtin.Tuple.tupleExact _) (aaU (aab (aab ⟨_,rfl,aab h⟩)) b))
  |exact aaa (aaa (m:=Builtin.Tuple.tupleExact _) (aaU (aab ⟨_,rfl,aab h⟩) b))
end
end HT
namespace L2
open PySem PySem.Spec PyProof.Rows
abbrev TO:=St->Hp->(Option Int->Hp->Prop)->Prop
def PO (X:Cx) (e:Option Expr) (t:TO):Prop:=
 ∀ (a:Zi) (s:Z1) (b:St) (H:Hp) (Q:Option Int->Hp->Prop),Inv X a b H s->t b H Q->
   wpAny (model X.prog X.w) X.A (evalPart e X.env) (fun u d=>∃ o c,Inv X a b c d/\IsPart u o/\Q o c) X.xe s
def J5:TO:=fun _ H Q=>Q none H
def Rr (t:TE):TO:=fun a H Q=>t a H fun x b=>∃ i,x=.int i/\Q (some i) b
section
variable {X:Cx} {e:Z9} {te:TE} {lo hi:Option Expr} {tl th:TO} {pos p2:Pos}
theorem o_:PO X none J5:=by intro a s b H Q I h;rw [evalPart_none];exact aab ⟨none,H,I,.none,h⟩
theorem p7 (h:PE X e te):PO X (some e) (Rr te):=by intro a s d H Q I f;rw [evalPart_some];refine eG (h a s d H _ I f) fun u g ⟨x,b,c,r1,q1⟩=>?_;obtain ⟨i,rfl,q⟩:=q1;obtain ⟨t,rfl⟩:=r1;exact ⟨some i,b,c,.int i t,q⟩
def U6 (X:Cx) (r:V->Option Int->Option Int->Hp->VK->Prop):Prop:=
 ∀ (a:Zi) (s:Z1) (b:St) (H:Hp) (x:V) (v vl c:Z6) (d f:Option Int) (g:Z0) (Q:VK),Inv X a b H s->RelV x v->s.heap.IsSliceOf g vl c .none->IsPart vl d->IsPart c f->r x d f H Q->
   ∃ T h,typeLookup (.type T) "__getitem__" = pure (some (.builtin h))/\s.TypeIs v T/\wpAny (model X.prog X.w) X.A (getItem v (.ref g)) (EP X a b Q) X.xe s
def Xy (r:V->Option Int->Option Int->Hp->VK->Prop) (f:TE) (g h:TO):TE:=fun a H Q=>f a H fun x b=>g a b fun l c=>h a c fun u d=>r x l u d Q
theorem ni {r:V->Option Int->Option Int->Hp->VK->Prop} (F:U6 X r) (G:PE X e te) (J:PO X lo tl) (L:PO X hi th):PE X (.Subscript e (.Slice lo hi none p2) pos) (Xy r te tl th):=by intro a s d H Q I h;refine Subscript_ (eG (G a s d H _ I h) fun v i ⟨x,j,m,r1,q1⟩=>?_);refine wpAny_Slice (eG (J a i d j _ m q1) fun vl n ⟨l,o,p,w,q2⟩=>eG (L a n d o _ p q2) fun f c ⟨u,g,y,z,A⟩=>?_);rw [evalPart_none];refine aab ?_;have B:Inv X a d g { c with heap:=c.heap.push { cls:=.type "slice",data:=.fields #[vl,f,.none] } }:=y.kept (t':=c.toks) fun b M q=>aak _ q;obtain ⟨T,N,C,D,E⟩:=F a { c with heap:=c.heap.push { cls:=.type "slice",data:=.fields #[vl,f,.none] } } d g x v vl f l u c.heap.objs.size Q B r1 (Heap.IsSliceOf.new ..) w z A;show wpAny (model X.prog X.w) X.A (subscriptTail e (.Slice lo hi none p2) v (.ref c.heap.objs.size)) (EP X a d Q) X.xe { c with heap:=c.heap.push { cls:=.type "slice",data:=.fields #[vl,f,.none] } };exact tail_any (ops:=[.ref c.heap.objs.size,v]) D C E (by with_unfolding_all rfl)
noncomputable def mL (a:List V) (b c:Option Int):List V:=(a.drop (HT.iM a.length 0 b)).take (HT.iM a.length a.length c-HT.iM a.length 0 b)
theorem oM (a:List V) (b c:Option Int):(mL a b c).length≤a.length:=by unfold mL;rw [abi,abT];omega
def Uk (K:Z2):V->Option Int->Option Int->Hp->VK->Prop:=fun x c d H Q=>∃ a b,x=.ref a/\eE K H a b/\
 ¬ (HT.iM b.length 0 c=0/\HT.iM b.length b.length d=b.length)/\∀ p,H p=none->Q (.ref p) (upd H p (.tup (mL b c d)))
theorem N6:U6 X (Uk X.K):=by
 intro m s C H x v vl D f i E Q I w y z A h;obtain ⟨a,d,rfl,n,p,q⟩:=h;cases w;obtain ⟨g,r,j,l⟩:=I.tuple n;have c:g.toArray.size=d.length:=by rw [aat];exact r.length.symm
 refine ⟨"tuple",_,abB.lookup,j.typeIs,?_⟩;refine HT.mU j y z A (by rw [c];exact p) ?_ (by rw [c];exact l);rw [c];refine ⟨.ref s.heap.objs.size,_,I.laid (t':=s.toks) (o:=.tup (mL d f i)) (fun b B q=>aak _ q) (aae _) ?_,rfl,q _ (I.hok.fresh (aae _))⟩;exact ⟨aaj (oM d f i) l,_,(r.drop (HT.iM d.length 0 f)).take (HT.iM d.length d.length i-HT.iM d.length 0 f),IsTup.new _ _⟩
end
noncomputable def Jm (n:Nat) (i:Int):Option Nat:=if 0≤i then (if i<n then some i.toNat else none) else if -(n:Int)≤i then some (i+n).toNat else none
noncomputable def pL {a:Type} (b:List a) (i:Int):Option a:=(Jm b.length i).bind fun j=>b[j]?
theorem GQ (h:Jm n i=some j):seqIndex? i n=some j/\j<n/\-(n:Int)≤i/\i<n:=by
 unfold Jm at h;by_cases b:0≤i
 ·rw [aad b] at h;by_cases a:i<n
  ·rw [aad a] at h;have e:i.toNat=j:=aaQ h;exact ⟨by rw [seqIndex_of b a,e],by omega,by omega,a⟩
  ·rw [aac a] at h;cases h
 ·rw [aac b] at h;by_cases a:-(n:Int)≤i
  ·rw [aad a] at h;have e:(i+n).toNat=j:=aaQ h;exact ⟨by rw [seqIndex_neg (by omega) a,e],by omega,a,by omega⟩
  ·rw [aac a] at h;cases h
theorem uH {b:Type} {a:List b} {i:Int} {v:b} (h:pL a i=some v):∃ j,seqIndex? i a.length=some j/\a[j]?=some v/\j<a.length/\-(a.length:Int)≤i/\i<a.length:=by
 unfold pL at h;cases e:Jm a.length i with
 |none=>rw [e] at h;cases h
 | some j=>rw [e] at h;obtain ⟨c,d,f,g⟩:=GQ e;exact ⟨j,c,h,d,f,g⟩
theorem dO {b:Type} {a:List b} {j:Nat} {v:b} (h:a[j]?=some v):pL a (j:Int)=some v:=by
 have c:j<a.length:=(aaG.mp h).1;have e:Jm a.length (j:Int)=some j:=by unfold Jm;rw [aad (by omega),aad (by omega)];simp
 unfold pL;rw [e];exact h
def HH (b:Z9):Prop:=∀ o i,subscripted b false o i=operate [o,i] (getItem o i)
def Gp (X:Cx) (r:R2):Prop:=
 ∀ (c a:Z9) (b:Zi) (s:Z1) (d:St) (H:Hp) (x y:V) (v u:Z6) (Q:VK),Inv X b d H s->RelV x v->RelV y u->r x y H Q->
   subscripted a false v u=operate [v,u] (getItem v u)->wpAny (model X.prog X.w) X.A (subscriptTail c a v u) (EP X b d Q) X.xe s
def Jp (X:Cx) (e:String) (r:V->List V->Hp->VK->Prop):Prop:=
 ∀ (a:Zi) (s:Z1) (b:St) (H:Hp) (x:V) (c:List V) (v:Z6) (d:Ze) (Q:VK),Inv X a b H s->RelV x v->Vals c d->r x c H Q->
   wpAny (model X.prog X.w) X.A (call (.builtin e) (v::d)) (EP X a b Q) X.xe s
theorem Gp.or (h:Gp X r) (m:Gp X l):Gp X (fun x y H Q=>r x y H Q∨l x y H Q):=by
 intro c d e s f H x y v u Q I g i q j;rcases q with q|q
 ·exact h c d e s f H x y v u Q I g i q j
 ·exact m c d e s f H x y v u Q I g i q j
theorem dY (l:Gp X r) (m:PE X a p) (n:PE X b z) (o:HH b):PE X (.Subscript a b w) (Ov r p z):=by intro c s j H Q I h;exact Subscript_ (Lk m n I h fun v u d x y e f g i q=>l a b c d j e x y v u Q f g i q (o _ _))
def QB (K:Z2):R2:=fun x y H Q=>∃ p c i v,x=.ref p/\y=.int i/\dR K H p c/\pL c i=some v/\Q v H
def Hb (K:Z2):R2:=fun x y H Q=>∃ p c i v,x=.ref p/\y=.int i/\eE K H p c/\pL c i=some v/\Q v H
def O9:R2:=fun x y H Q=>∃ z i c,x=.str z/\y=.int i/\z.length≤sizeLine/\pL z.cps.toList i=some c/\Q (.str ⟨#[c]⟩) H
theorem eV {X:Cx}:Gp X (QB X.K):=by
 intro n o c s B H x y v u Q I O P h C;obtain ⟨p,S,i,z,rfl,rfl,G,J,q⟩:=h;cases O;obtain ⟨t,rfl⟩:=P;obtain ⟨g,r,l,T⟩:=I.list G;obtain ⟨j,e,L,U,M,N⟩:=uH J;obtain ⟨w,A,m⟩:=r.get L;have F:=r.length;have R:=nW;have d:EP X c B Q w s:=⟨z,H,I,m,q⟩;by_cases D:0≤i
 ·have f:i.toNat=j:=by rw [seqIndex_of D N] at e;exact aaQ e
  exact item_listR l.isList D (by omega) (by rw [f];simpa using A) d C
 ·have f:(i+(g.toArray.size:Int)).toNat=j:=by rw [seqIndex_neg (by omega) M] at e;rw [aat,← F];exact aaQ e
  exact subscriptTail_builtinR (x:=w) l.isList.typeIs slot_list_getitem.lookup
   (wpAny_getItem_list_neg (Q:=fun r E=>r=w/\EP X c B Q r E) l.isList (by omega) (by rw [aat] <;> omega) (by omega) (by rw [f];simpa using A) ⟨rfl,d⟩) C
theorem gZ {X:Cx}:Gp X (Hb X.K):=by
 intro f g c s m H x y v u Q I G J h L;obtain ⟨p,N,i,z,rfl,rfl,A,B,q⟩:=h;cases G;obtain ⟨t,rfl⟩:=J;obtain ⟨C,r,l,O⟩:=I.tuple A;obtain ⟨j,D,E,P,R,S⟩:=uH B;obtain ⟨w,F,e⟩:=r.get E;have o:=r.length;have M:=nW;have d:EP X c m Q w s:=⟨z,H,I,e,q⟩;exact subscriptTail_builtinR (x:=w) l.typeIs slot_tuple_getitem.lookup
  (getItem_tuple (j:=j) (Q:=fun r n=>r=w/\EP X c m Q r n) l (by omega) (by omega) (by rw [aat,← o];exact D) (by simpa using F) ⟨rfl,d⟩) L
theorem tV:Gp X O9:=by
 intro d e g s J H x y v u Q I A B h C;obtain ⟨z,i,c,rfl,rfl,E,o,q⟩:=h;obtain ⟨t,rfl⟩:=A;obtain ⟨F,rfl⟩:=B;obtain ⟨j,f,p,G,r,w⟩:=uH o;have l:z.cps.toList.length=z.length:=by simp [Str.length]
 rw [l] at f r w;have D:=nW;exact tail_any (typeIs_str s z t) slot_str_getitem.lookup (getItem_str (c:=c) (by have m:decide (i < -(2 ^ 63:Int))=false:=aaY (by omega);have n:decide (i ≥ 2 ^ 63)=false:=aaY (by omega);rw [m,n,Bool.or_false]) (by rw [f];simpa using p) ⟨.str ⟨#[c]⟩,H,I.tok _,⟨_,rfl⟩,q⟩) C
def Uq (K:Z2):R2:=fun x y H Q=>QB K x y H Q∨Hb K x y H Q∨O9 x y H Q
theorem Gb:Gp X (Uq X.K):=eV.or (gZ.or tV)
theorem t_ (c d:Option Int) (n:Nat):(sliceBounds c d none n).1=((HT.iM n 0 c:Nat):Int)/\(sliceBounds c d none n).2.1=((HT.iM n n d:Nat):Int)/\(sliceBounds c d none n).2.2=1:=by
 refine ⟨?_,?_,rfl⟩
 ·cases c with
  |none=>simp [sliceBounds,HT.iM]
  | some i=>
    simp only [sliceBounds,HT.iM,Option.getD_none,show (1:Int) > 0 by decide,if_true];by_cases h:i<0
    ·simp only [h,if_true] <;> omega
    ·simp only [h,if_false] <;> omega
 ·cases d with
  |none=>simp [sliceBounds,HT.iM]
  | some i=>
    simp only [sliceBounds,HT.iM,Option.getD_none,show (1:Int) > 0 by decide,if_true];by_cases h:i<0
    ·simp only [h,if_true] <;> omega
    ·simp only [h,if_false] <;> omega
theorem qU (c:Ze) (d e:Option Int):slicePick c.toArray d e none=((c.drop (HT.iM c.length 0 d)).take (HT.iM c.length c.length e-HT.iM c.length 0 d)).toArray:=by obtain ⟨f,g,h⟩:=t_ d e c.toArray.size;unfold slicePick;rw [f,g,h];simp only [sliceRange_one,pick_run,aat] <;> rfl
def Vc (K:Z2):V->Option Int->Option Int->Hp->VK->Prop:=fun x d e H Q=>∃ a c,x=.ref a/\dR K H a c/\∀ p,H p=none->Q (.ref p) (upd H p (.lst (mL c d e)))
theorem uN:U6 X (Vc X.K):=by intro i s A H x v vl B e f C Q I n p w y h;obtain ⟨a,c,rfl,j,q⟩:=h;cases n;obtain ⟨l,r,g,m⟩:=I.list j;have d:=r.length;refine ⟨"list",_,slot_list_getitem.lookup,g.isList.typeIs,?_⟩;refine wpAny_getItem_list_slice g.isList p w y .none (by simp) ?_ (by rw [aat] <;> omega);rw [qU,← d];refine ⟨.ref s.heap.objs.size,_,I.laid (t':=s.toks) (o:=.lst (mL c e f)) (fun b z q=>aak _ q) (aae _) ?_,rfl,q _ (I.hok.fresh (aae _))⟩;exact ⟨aaj (oM c e f) m,_,0,(r.drop (HT.iM c.length 0 e)).take (HT.iM c.length c.length f-HT.iM c.length 0 e),aay _ rfl⟩
noncomputable def ou:V->Bool
 |.non=>true
 |.bl _=>true
 |.int _=>true
 |.str _=>true
 |_=>false
noncomputable def Ff:V->V->Bool
 |.non,.non=>true
 |.bl a,.bl b=>a == b
 |.bl a,.int b=>(if a then 1 else 0) == b
 |.int a,.bl b=>a == (if b then 1 else 0)
 |.int a,.int b=>a == b
 |.str a,.str b=>a == b
 |_,_=>false
theorem NZ (e:RelV y u) (c:RelV x v) (g:ou y=true) (f:ou x=true):SeqAt.EqAt A s u v (Ff y x):=by
 cases y with
 | non=>
   cases e;cases x with
   |non=>cases c;exact SeqAt.EqAt.same _
   |bl b=>cases c;exact SeqAt.EqAt.none_bool b
   |int b=>obtain ⟨t,rfl⟩:=c;exact SeqAt.EqAt.none_int b t
   |str b=>obtain ⟨t,rfl⟩:=c;exact SeqAt.EqAt.none_str b t
   |_=>exact absurd (show false=true from f) aaz
 | bl a=>
   cases e;cases x with
   |non=>cases c;exact SeqAt.EqAt.bool_none a
   |bl b=>cases c;exact SeqAt.EqAt.bool_bool a b
   |int b=>obtain ⟨t,rfl⟩:=c;exact SeqAt.EqAt.bool_int a b t
   |str b=>obtain ⟨t,rfl⟩:=c;exact SeqAt.EqAt.bool_str a b t
   |_=>exact absurd (show false=true from f) aaz
 | int a=>
   obtain ⟨d,rfl⟩:=e;cases x with
   |non=>cases c;exact SeqAt.EqAt.int_none a d
   |bl b=>cases c;exact SeqAt.EqAt.int_bool a d b
   |int b=>obtain ⟨t,rfl⟩:=c;exact SeqAt.EqAt.int_int a d b t
   |str b=>obtain ⟨t,rfl⟩:=c;exact SeqAt.EqAt.int_str a d b t
   |_=>exact absurd (show false=true from f) aaz
 | str a=>
   obtain ⟨d,rfl⟩:=e;cases x with
   |non=>cases c;exact SeqAt.EqAt.str_none a d
   |bl b=>cases c;exact SeqAt.EqAt.str_bool a d b
   |int b=>obtain ⟨t,rfl⟩:=c;exact SeqAt.EqAt.str_int a d b t
   |str b=>obtain ⟨t,rfl⟩:=c;exact SeqAt.EqAt.str_str a d b t
   |_=>exact absurd (show false=true from f) aaz
 |_=>exact absurd (show false=true from g) aaz
noncomputable def HS (x:V) (u:Z6):Bool:=match u with
 |.none=>Ff .non x
 |.bool b=>Ff (.bl b) x
 |.int i _=>Ff (.int i) x
 |.str z _=>Ff (.str z) x
 |_=>false
theorem Fy (r:RelV y u) (f:ou y=true):HS x u=Ff y x:=by
 cases y with
 |non=>cases r;rfl
 |bl b=>cases r;rfl
 |int i=>obtain ⟨t,rfl⟩:=r;rfl
 |str z=>obtain ⟨t,rfl⟩:=r;rfl
 |_=>exact absurd (show false=true from f) aaz
theorem tR:∀ {c:List V} {d:Ze},Vals c d->c.all ou=true->d.any (HS x)=c.any fun y=>Ff y x
 |_,_,.nil,_=>rfl
 | y::c,u::d,.cons r t,f=>by rw [acn,aa1] at f;rw [abU,abU,Fy r f.1,tR t f.2]
theorem qy (g:RelV x v) (h:ou x=true):∀ {d:List V} {e:Ze},Vals d e->d.all ou=true->∀ u∈e,SeqAt.EqAt A s u v (HS x u)
 |_,_,.nil,_=>fun u c=>by cases c
 | y::d,u::e,.cons r t,f=>fun i c=>by
   rw [acn,aa1] at f;rcases aaf.mp c with rfl|c
   ·rw [Fy r f.1];exact NZ r g f.1 h
   ·exact qy g h t f.2 i c
noncomputable def inV (x:V) (c:List V):Bool:=c.any fun y=>Ff y x
def XX (K:Z2) (neg:Bool):R2:=fun x y H Q=>∃ p c,y=.ref p/\(dR K H p c∨eE K H p c)/\ou x=true/\c.all ou=true/\Q (.bl (if neg then !inV x c else inV x c)) H
theorem rP:mD X (compareOp .In) (XX X.K false):=by
 intro i s o H x y v u Q I j m h;obtain ⟨p,n,rfl,d,g,fs,q⟩:=h;cases m;rcases d with d|d
 ·obtain ⟨c,r,f,l⟩:=I.list d;refine SeqAt.in_listAt (HS x) f.isList (fun w e=>qy j g r fs w (by simpa using e)) ⟨.bl _,H,I,rfl,?_⟩;rw [show c.toArray.any (HS x)=c.any (HS x) by simp,tR r fs];exact q
 ·obtain ⟨c,r,f,l⟩:=I.tuple d;refine SeqAt.in_tupleAt (HS x) f (fun w e=>qy j g r fs w (by simpa using e)) ⟨.bl _,H,I,rfl,?_⟩;rw [show c.toArray.any (HS x)=c.any (HS x) by simp,tR r fs];exact q
theorem dD:ji X (.builtin "len") (fun j H Q=>∃ p d,j=[.ref p]/\(dR X.K H p d∨eE X.K H p d)/\Q (.int d.length) H):=by
 intro l s v H j w Q I r h;obtain ⟨p,d,rfl,e,q⟩:=h;obtain ⟨u,rfl,m⟩:=vals1 r;cases m;have o:=nW;rcases e with e|e
 ·obtain ⟨f,g,i,n⟩:=I.list e;have c:=g.length;exact Calls.call_len_list i.isList (by simp only [aat] <;> omega) ⟨.int d.length,H,I.tok _,⟨s.toks+1,by rw [aat,c]⟩,q⟩
 ·obtain ⟨f,g,i,n⟩:=I.tuple e;have c:=g.length;exact len_tuple i (by simp only [aat] <;> omega) ⟨.int d.length,H,I.tok _,⟨s.toks+1,by rw [aat,c]⟩,q⟩
theorem mV:ji X (.builtin "len") (fun c H Q=>∃ z,c=[.str z]/\z.length≤sizeLine/\Q (.int z.length) H):=by intro d s g H c i Q I r h;obtain ⟨z,rfl,f,q⟩:=h;obtain ⟨u,rfl,t,rfl⟩:=vals1 r;have e:=nW;exact len_str (by omega) ⟨.int z.length,H,I.tok _,⟨_,rfl⟩,q⟩
theorem uJ:ji X (.type "list") (fun B H Q=>∃ p i,B=[.ref p]/\(dR X.K H p i∨eE X.K H p i)/\∀ l,H l=none->Q (.ref l) (upd H l (.lst i))):=by
 intro x s E H B F Q I r h;obtain ⟨p,i,rfl,w,q⟩:=h;obtain ⟨u,rfl,D⟩:=vals1 r;cases D;have m:∀ (c:Ze),Vals i c->i.length≤sizeLine->∀ (d:Z7) (g:Nat),(∀ b C,s.heap.get? b=some C->d.get? b=some C)->
  d.get? s.heap.objs.size=some { cls:=.type "list",dict:=none,data:=.seq c.toArray g,slots:=#[] }->EP X x E Q (.ref s.heap.objs.size) { s with heap:=d }:=fun c f j d g kp e=>
  ⟨.ref s.heap.objs.size,_,I.laid (t':=s.toks) kp (aae _) (show eU X.prog X.w _ d _ (.lst i) from ⟨j,c,g,f,e⟩),rfl,q _ (I.hok.fresh (aae _))⟩;rcases w with w|w
 ·obtain ⟨c,f,y,j⟩:=I.list w;have v:=f.length;obtain ⟨o,z,A,n,hd⟩:=y.isList;exact call_list_seq p (.inl rfl) z A hd (fun d g kp e=>m c f j d g kp e) (by simp only [aat] <;> omega)
 ·obtain ⟨c,f,y,j⟩:=I.tuple w;have v:=f.length;obtain ⟨o,z,A,n,hd⟩:=y;exact call_list_seq p (.inr rfl) z A hd (fun d g kp e=>m c f j d g kp e) (by simp only [aat] <;> omega)
theorem iC:ji X (.type "tuple") (fun n H Q=>∃ p f,n=[.ref p]/\((dR X.K H p f/\∀ l,H l=none->Q (.ref l) (upd H l (.tup f)))∨(eE X.K H p f/\Q (.ref p) H))):=by
 intro c s y H n B Q I r h;obtain ⟨p,f,rfl,h⟩:=h;obtain ⟨u,rfl,A⟩:=vals1 r;cases A;rcases h with ⟨m,q⟩|⟨m,q⟩
 ·obtain ⟨d,i,j,x⟩:=I.list m;have v:=i.length;refine call_tuple_list j.isList (fun g kp=>?_) (by simp only [aat] <;> omega);have w:Inv X c y H { s with heap:=g }:=I.kept (t':=s.toks) kp;have z:Inv X c y (upd H g.objs.size (.tup f)) { s with heap:=g.push { cls:=.type "tuple",data:=.seq d.toArray } }:=
   w.laid (t':=s.toks) (fun b o e=>aak _ e) (aae _) (show eU X.prog X.w _ _ _ (.tup f) from ⟨x,d,i,IsTup.new _ _⟩);exact ⟨.ref g.objs.size,_,z,rfl,q _ (w.hok.fresh (aae _))⟩
 ·obtain ⟨d,i,j,x⟩:=I.tuple m;exact call_tuple_same j ⟨.ref p,H,I,rfl,q⟩
def UG (K:Z2) (T:String) (x:V) (H:Hp):Prop:=match x with
 |.str _=>T = "str"
 |.int _=>T = "int"
 |.ref p=>(T = "list"/\∃ d,dR K H p d)∨(T = "tuple"/\∃ o,K.lookup p=some o/\o.cls=.type "tuple"/\o.dict=none)∨
  (T = "dict"/\((∃ c,H p=some (.dK c))∨∃ c,H p=some (.dT c)))∨(T = "set"/\∃ S n,H p=some (.set S n))
 |_=>False
theorem CW (I:Inv X f y H s) (r:RelV x v) (ty:UG X.K T x H) :
 s.TypeIs v T/\∀ a,v=.ref a->∃ j,s.heap.get? a=some j/\j.dict=none:=by
 cases x with
 | str z=>obtain ⟨t,rfl⟩:=r;cases (show T = "str" from ty);exact ⟨typeIs_str s z t,fun _ e=>nomatch e⟩
 | int i=>obtain ⟨t,rfl⟩:=r;cases (show T = "int" from ty);exact ⟨typeIs_int s i t,fun _ e=>nomatch e⟩
 | ref p=>
   cases r;rcases ty with ⟨rfl,A,q⟩|⟨rfl,o,hk,w,hd⟩|⟨rfl,hk⟩|⟨rfl,S,n,hk⟩
   ·obtain ⟨m,_,l,_⟩:=I.list q;refine ⟨l.isList.typeIs,fun a e=>?_⟩;cases e;obtain ⟨o,n,e,c,hd,_⟩:=l;exact ⟨o,e,hd⟩
   ·refine ⟨⟨o,I.kIn p o hk,w⟩,fun a e=>?_⟩;cases e;exact ⟨o,I.kIn _ o hk,hd⟩
   ·have z:∃ o,s.heap.get? p=some o/\o.ExactDict:=by
     rcases hk with ⟨h,hk⟩|⟨h,hk⟩
     ·obtain ⟨_,_,_,_,o,_,_,e,d,_⟩:=I.hok p _ hk;exact ⟨o,e,d⟩
     ·obtain ⟨_,_,_,_,o,_,_,e,d,_⟩:=I.hok p _ hk;exact ⟨o,e,d⟩
    obtain ⟨o,e,d⟩:=z;refine ⟨⟨o,e,d.1⟩,fun a g=>?_⟩;cases g;exact ⟨o,e,d.2.1⟩
   ·obtain ⟨o,_,_,_,e,d,_⟩:=I.hok p _ hk;refine ⟨⟨o,e,d.1⟩,fun a g=>?_⟩;cases g;exact ⟨o,e,d.2.1⟩
 |_=>exact False.elim ty
def Ux (K:Z2) (T:String) (r:V->List V->Hp->VK->Prop) (e:TE):TE:=fun d H Q=>e d H fun x c=>UG K T x c/\r x [] c Q
def Y0 (K:Z2) (T:String) (r:V->List V->Hp->VK->Prop) (g:TE) (t:TA):TE:=fun c H Q=>g c H fun x d=>UG K T x d/\t c d fun e f=>r x e f Q
theorem tW {X:Cx} {o:Z9} {B:TE} {a:Str} {b e:Pos} {T A:String} {r:V->List V->Hp->VK->Prop} (w:PlainAttrs T) (g:Slot T a A) (i:typeOf (.builtin A)=pure (.type "method_descriptor")) (y:Jp X A r) (z:PE X o B)
 (d:attributeBase o a X.env (eval o X.env)=eval o X.env:=by rfl) (f:(b.endLine == e.line)=true:=by rfl):PE X (.Call (.Attribute o a b) [] [] e) (Ux X.K T r B):=by
 intro c s l H Q I h;refine wpAny_Call_method0_late d f (eG (z c s l H _ I h) fun v m ⟨x,n,j,r1,ty,q1⟩=>?_);obtain ⟨p,q⟩:=CW j r1 ty;exact ⟨T,A,w,g,i,p,q,acP rfl (PySem.evalArgs_none (y c m l n x [] v [] Q j r1 .nil q1))⟩
theorem jM {X:Cx} {o e:Z9} {M:Zl} {P:TE} {t:TA} {b:Str} {N a:Pos} {T O:String} {r:V->List V->Hp->VK->Prop} (E:PlainAttrs T) (i:Slot T b O) (m:typeOf (.builtin O)=pure (.type "method_descriptor")) (F:Jp X O r) (G:PE X o P) (J:PA X (e::M) t)
 (f:attributeBase o b X.env (eval o X.env)=eval o X.env:=by rfl)
 (j:((backTo a (starEach (e::M) X.env)).all (fun x=>!x.1) && (backToKw a (keywordEach [] X.env)).all (fun x=>x.1.isSome) && decide ((e::M).length+([]:List Keyword).length+(if ([]:List Keyword).isEmpty then 0 else 1)<30))=true:=by rfl)
 (g:(N.endLine == a.line)=true:=by rfl) (L:starEach (e::M) X.env=(false,eval e X.env)::starEach M X.env:=by rfl) (d:(backTo a (starEach M X.env)).any (·.1)=false:=by rfl) :
 PE X (.Call (.Attribute o b N) (e::M) [] a) (Y0 X.K T r P t):=by
 intro c s l H Q I h;refine wpAny_Call_method_late f j g rfl (eG (G c s l H _ I h) fun v q ⟨x,w,n,r1,ty,q1⟩=>?_);obtain ⟨C,D⟩:=CW n r1 ty;refine ⟨T,O,E,i,m,C,D,?_⟩;have p:=J a c q l w _ n q1;rw [L] at p ⊢;refine acP (by show (false || (backTo a (starEach M X.env)).any (·.1))=false;rw [d] <;> rfl) (Calls.evalArgs_plain ?_);exact eG p fun y z ⟨vs,A,B,r2,q2⟩=>F c z l A x vs v y Q B r1 r2 q2
def QK (X:Cx) (e:String) (r:V->List V->Hp->VK->Prop):Prop:=
 ∀ (a:Zi) (s:Z1) (b:St) (H:Hp) (x:V) (c:List V) (v:Z6) (d:Ze) (Q:VK),Inv X a b H s->RelV x v->Vals c d->r x c H Q->
   wpAny (model X.prog X.w) X.A (call (.builtin e) (v::d)) (EP X a b Q) X.xe s
theorem Vals.one:∀ {x:V} {a:Ze},Vals [x] a->∃ u,a=[u]/\RelV x u
 |_,_,.cons r .nil=>⟨_,rfl,r⟩
theorem Vals.zero:∀ {a:Ze},Vals [] a->a=[]
 |_,.nil=>rfl
theorem Vals.dropLast (h:Vals a b):Vals a.dropLast b.dropLast:=by
 induction h with
 |nil=>exact .nil
 | cons r t c=>
   cases t with
   |nil=>exact .nil
   |cons q d=>exact .cons r c
theorem Vals.eraseIdx:∀ {a:List V} {b:Ze} (i:Nat),Vals a b->Vals (a.eraseIdx i) (b.eraseIdx i)
 |_,_,_,.nil=>.nil
 |_,_,0,.cons _ t=>t
 |_,_,i+1,.cons r t=>.cons r (Vals.eraseIdx i t)
theorem xu {d:Type} (l:List d):l.eraseIdx (l.length-1)=l.dropLast:=by
 induction l with
 |nil=>rfl
 | cons a r c=>
   cases r with
   |nil=>rfl
   | cons b r=>
     have e:(a::b::r).length-1=((b::r).length-1)+1:=by have f:(a::b::r).length=r.length+2:=rfl;have g:(b::r).length=r.length+1:=rfl;omega
     rw [e,aco,c]
     all_goals rfl
theorem sr {a:Type}:∀ (l:List a) (i:Nat),(l.eraseIdx i).length≤l.length
 |[],_=>aae _
 |_::_,0=>aba _
 |_::r,i+1=>Nat.succ_le_succ (sr r i)
section
variable {X:Cx} {cW:Zi} {σ:St} {H:Hp} {s:Z1} {l b:Z0} {xs ys zs:List V}
theorem Inv.lset {a its':Ze} {f:Array Value->Array Value} (I:Inv X cW σ H s) (g:H l=some (.lst xs))
 (e:s.heap.get? l=some { cls:=.type "list",data:=.seq a.toArray n }) (h:f a.toArray=its'.toArray) (i:Vals ys its') (j:ys.length≤sizeLine) :
 Inv X cW σ (upd H l (.lst ys)) { s with heap:=s.heap.update l (Obj.mapSeq f),toks:=t' }:=by
 have q:=PySem.IsL.update e f;rw [h] at q;refine I.write (x:=l) (e:=l) (by rw [g];exact trivial) (.inl rfl) (fun m u c d=>(abm s.heap (Obj.mapSeq f) (aaC c)).trans d) ⟨_,q⟩ ?_;exact ⟨j,its',_,i,q⟩
theorem Inv.lnew (I:Inv X cW σ H s) (c:Vals ys a) (d:ys.length≤sizeLine) :
 Inv X cW σ (upd H s.heap.objs.size (.lst ys)) { s with heap:=s.heap.push { cls:=.type "list",data:=.seq a.toArray },toks:=t' }:=
 I.laid (fun _ _ q=>aak _ q) (aae _) ⟨d,a,0,c,aay _ rfl⟩
theorem Inv.fresh (I:Inv X cW σ H s):H s.heap.objs.size=none:=I.hok.fresh (aae _)
theorem Inv.lstM (I:Inv X cW σ H s) (c:H l=some (.lst xs)):xs.length≤sizeLine/\∃ (a:Ze) (n:Nat),Vals xs a/\xs.length=a.length/\s.heap.get? l=some { cls:=.type "list",data:=.seq a.toArray n }:=by obtain ⟨z,a,n,r,e⟩:=I.hok l _ c;exact ⟨z,a,n,r,r.length,e⟩
theorem Cr (h:n≤sizeLine):Builtin.List.listTooLong n=false:=by unfold Builtin.List.listTooLong;exact aaY (by omega)
end
section
variable {X:Cx}
def HJ:V->List V->Hp->VK->Prop:=fun x vs H Q=>∃ l a y,x=.ref l/\vs=[y]/\H l=some (.lst a)/\a.length<sizeLine/\Q .non (upd H l (.lst (a++[y])))
theorem gY:QK X "list.append" HJ:=by intro c s o H x vs v p Q I f g h;obtain ⟨l,i,y,rfl,rfl,b,j,q⟩:=h;cases f;obtain ⟨u,rfl,d⟩:=g.one;obtain ⟨z,a,n,r,m,e⟩:=I.lstM b;refine call_meets F.slot_list_append ⟨_,e,rfl⟩ F.entry_list_append (F.args_list_append_2 _ _) (PySem.list_append l a.toArray n u (by rw [aat];omega)) ⟨e,?_⟩;refine ⟨.non,_,I.lset (its':=a++[u]) b e (by simp) (r.append (.cons d .nil)) ?_,rfl,q⟩;rw [aao,List.length_singleton];omega
def Ik:V->List V->Hp->VK->Prop:=fun x vs H Q=>∃ l b a c,x=.ref l/\vs=[.ref b]/\H l=some (.lst a)/\H b=some (.lst c)/\a.length+c.length≤sizeLine/\Q .non (upd H l (.lst (a++c)))
theorem Ot:QK X "list.extend" Ik:=by
 intro cW s σ H x vs v us Q I rx rv h;obtain ⟨l,b,xs,zs,rfl,rfl,hH,hB,hz,q⟩:=h;cases rx;obtain ⟨u,rfl,ru⟩:=rv.one;cases ru;obtain ⟨z,its,n,r,hl,e⟩:=I.lstM hH;obtain ⟨z2,its2,n2,r2,hl2,e2⟩:=I.lstM hB;have hsz:its.toArray.size+its2.toArray.size≤sizeLine:=by rw [aat,aat];omega
 have hlong:¬ (!its.toArray.isEmpty && Builtin.List.listTooLong (its.toArray.size+its2.toArray.size))=true:=by rw [Cr hsz,Bool.and_false];exact aaz
 refine call_meets F.slot_list_extend ⟨_,e,rfl⟩ F.entry_list_extend (F.args_list_extend_2 _ _)
  (AutoSeq1.list_extend_list_list_0 l its.toArray n b its2.toArray n2 hlong (by rw [aat];omega) (by omega)) ⟨e,e2,?_⟩;refine ⟨.non,_,I.lset (its':=its++its2) hH e (by simp) (r.append r2) ?_,rfl,q⟩;rw [aao];omega
def Wx:V->List V->Hp->VK->Prop:=fun x vs H Q=>∃ l a y,x=.ref l/\vs=[]/\H l=some (.lst a)/\a[a.length-1]?=some y/\Q y (upd H l (.lst a.dropLast))
theorem Vb:QK X "list.pop" Wx:=by
 intro f s A H x vs v B Q I o p h;obtain ⟨l,w,y,rfl,rfl,d,g,q⟩:=h;cases o;have b:=p.zero;subst b;obtain ⟨z,a,n,r,i,e⟩:=I.lstM d;obtain ⟨u,j,m⟩:=r.get g;have c:a.toArray[a.toArray.size-1]?=some u:=by show a.toArray[a.length-1]?=some u;rw [← acQ,← i];exact j
 refine call_meets F.slot_list_pop ⟨_,e,rfl⟩ F.entry_list_pop (F.args_list_pop_1 _) (MeetsSeq.list_pop_last l a.toArray n u c (by rw [aat];omega)) ⟨e,?_⟩;refine ⟨y,_,I.lset (its':=a.dropLast) d e ?_ r.dropLast ?_,m,q⟩
 ·show a.toArray.eraseIdxIfInBounds (a.toArray.size-1)=a.dropLast.toArray;rw [aat,ac9,xu]
 ·rw [List.length_dropLast];omega
def Lz:V->List V->Hp->VK->Prop:=fun x vs H Q=>∃ l a i k y,x=.ref l/\vs=[.int i]/\H l=some (.lst a)/\-(2 ^ 63)≤i/\i<2 ^ 63/\seqIndex? i a.length=some k/\a[k]?=some y/\Q y (upd H l (.lst (a.eraseIdx k)))
theorem Ey:QK X "list.pop" Lz:=by
 intro d s D H x vs v E Q I B C h;obtain ⟨l,f,i,k,y,rfl,rfl,c,g,j,hk,m,q⟩:=h;cases B;obtain ⟨u,rfl,o⟩:=C.one;obtain ⟨t,rfl⟩:=o;obtain ⟨z,a,n,r,p,e⟩:=I.lstM c;obtain ⟨w,A,b⟩:=r.get m;refine call_meets F.slot_list_pop ⟨_,e,rfl⟩ F.entry_list_pop (F.args_list_pop_2 _ _)
  (MeetsSeq.list_pop_at l a.toArray n i t k w (fitsIndex_both g j) (by rw [aat,← p];exact hk) (by rw [← acQ];exact A) (by rw [aat];omega)) ⟨e,?_⟩;refine ⟨y,_,I.lset (its':=a.eraseIdx k) c e ?_ (r.eraseIdx k) ?_,b,q⟩
 ·show a.toArray.eraseIdxIfInBounds k=(a.eraseIdx k).toArray;rw [ac9]
 ·have:=sr f k;omega
def MJ:V->List V->Hp->VK->Prop:=fun x vs H Q=>∃ l a,x=.ref l/\vs=[]/\H l=some (.lst a)/\Q .non (upd H l (.lst []))
theorem Cd:QK X "list.clear" MJ:=by intro d s m H x vs v o Q I f g h;obtain ⟨l,i,rfl,rfl,c,q⟩:=h;cases f;have a:=g.zero;subst a;obtain ⟨z,b,n,r,j,e⟩:=I.lstM c;refine call_meets F.slot_list_clear ⟨_,e,rfl⟩ F.entry_list_clear (F.args_list_clear_1 _) (AutoSeq1.list_clear_list_0 l b.toArray n (by rw [aat];omega)) ⟨e,?_⟩;exact ⟨.non,_,I.lset (its':=[]) (ys:=[]) c e rfl .nil (aaA _),rfl,q⟩
def Ut:R2:=fun x y H Q=>∃ l b a c,x=.ref l/\y=.ref b/\H l=some (.lst a)/\H b=some (.lst c)/\a.length+c.length≤sizeLine/\∀ p,H p=none->Q (.ref p) (upd H p (.lst (a++c)))
theorem Oi:mD X (binaryOp .Add) Ut:=by
 intro d s E H x y v u Q I o p h;obtain ⟨l,b,w,A,rfl,rfl,g,i,B,q⟩:=h;cases o;cases p;obtain ⟨z,c,n,r,C,e⟩:=I.lstM g;obtain ⟨z2,a,D,r2,j,m⟩:=I.lstM i;refine PySem.P.add_list e m ?_ (by rw [aat,aat];omega);have f:c.toArray++a.toArray=(c++a).toArray:=by simp
 rw [f];exact ⟨.ref _,_,I.lnew (t':=s.toks) (r.append r2) (by rw [aao];omega),rfl,q _ I.fresh⟩
end
section
variable {κ:Type} [DecidableEq κ]
noncomputable def iR (a:List (κ×V)) (k:κ):Option V:=(a.find? fun b=>decide (b.1=k)).map (·.2)
noncomputable def putK (a:List (κ×V)) (k:κ) (v:V):List (κ×V):=
 if (a.any fun b=>decide (b.1=k))=true then a.map (fun b=>if b.1=k then (b.1,v) else b) else a++[(k,v)]
theorem mR {p:κ×V} {r:List (κ×V)} {k:κ} (e:p.1=k):iR (p::r) k=some p.2:=by simp [iR,abC,e]
theorem lB {p:κ×V} {r:List (κ×V)} {k:κ} (e:¬ p.1=k):iR (p::r) k=iR r k:=by simp [iR,abC,e]
theorem nD (k:κ):∀ a:List (κ×V),(a.any fun b=>decide (b.1=k))=(iR a k).isSome
 |[]=>rfl
 | p::r=>by
   rw [abU];by_cases e:p.1=k
   ·simp only [mR e,abD e,Bool.true_or,Option.isSome_some]
   ·rw [lB e,aaY e,Bool.false_or];exact nD k r
theorem jA (a:List (κ×V)) (k:κ) (v:V):(putK a k v).length≤a.length+1:=by
 unfold putK;split
 ·rw [aah];omega
 ·rw [aao,aaw,abn];omega
theorem Fi {a:List (κ×V)} {k:κ} (v:V) (h:iR a k=none):putK a k v=a++[(k,v)]:=by unfold putK;rw [nD,h];exact aac (by decide)
theorem jV.isSome_eq (r:jV o u):o.isSome=u.isSome:=by
 cases o with
 | none=>cases u with
   |none=>rfl
   |some _=>exact (show False from r).elim
 | some _=>cases u with
   |none=>exact (show False from r).elim
   |some _=>rfl
theorem KV.val {a:List (κ×V)} {vs:List (κ×Value)} (r:KV a vs) (k:κ):jV (iR a k) (valueAt vs k):=by
 unfold KV at r;induction r with
 |nil=>exact aaJ
 | @cons p q j d h t i=>
   obtain ⟨f,g⟩:=h;by_cases e:p.1=k
   ·have c:q.1=k:=f.symm.trans e;have b:valueAt (q::d) k=some q.2:=by simp [valueAt,abC,c]
    rw [mR e,b];exact g
   ·have c:¬ q.1=k:=fun z=>e (f.trans z);have b:valueAt (q::d) k=valueAt d k:=by simp [valueAt,abC,c]
    rw [lB e,b];exact i
theorem KV.any {a:List (κ×V)} {vs:List (κ×Value)} (r:KV a vs) (k:κ):(a.any fun b=>decide (b.1=k))=vs.any fun b=>decide (b.1=k):=by
 unfold KV at r;induction r with
 |nil=>rfl
 |cons h t c=>rw [abU,abU,c,h.1]
theorem KV.repl (r:KV b vs) (k:κ) (g:RelV y u) :
 KV (b.map fun a=>if a.1=k then (a.1,y) else a) (vs.map fun a=>if a.1=k then (a.1,u) else a):=by
 unfold KV at r ⊢;induction r with
 |nil=>exact .nil
 | @cons p q i j h t f=>
   rw [aaE,aaE];refine .cons ?_ f;obtain ⟨c,d⟩:=h;by_cases e:p.1=k
   ·rw [aad e,aad (c.symm.trans e)];exact ⟨c,g⟩
   ·rw [aac e,aac (fun z=>e (c.trans z))];exact ⟨c,d⟩
theorem KV.put (r:KV a vs) (k:κ) (b:RelV y u):KV (putK a k y) (stored vs k u):=by
 unfold putK stored;rw [r.any k];by_cases e:(vs.any fun c=>decide (c.1=k))=true
 ·rw [aad e,aad e];exact r.repl k b
 ·rw [aac e,aac e];exact Paired.snoc r ⟨rfl,b⟩
theorem KV.length {a:List (κ×V)} {vs:List (κ×Value)} (r:KV a vs):a.length=vs.length:=aaZ r
end
theorem pU (r:RelV (kV k) u):(fY P w).is k u=true:=by
 cases k with
 |inl i=>obtain ⟨t,e⟩:=(show ∃ t,u=Value.int i t from r);subst e;exact wk P w i t
 |inr x=>obtain ⟨t,e⟩:=(show ∃ t,u=Value.str x t from r);subst e;exact u_ P w x t
theorem rY:∀ {a:List Key} {b:Ze},Vals (a.map kV) b->ItemsAre (fY P w) a b
 |[],_,r=>by rw [List.map_nil] at r;cases r;exact .nil
 | k::a,_,r=>by
   rw [aaE] at r;cases r with
   |cons h t=>exact .cons (pU h) (rY t)
abbrev KT (H:Hp):List (List Key×V)->List (List Key×Addr×Value)->Prop:=Paired fun p q=>p.1=q.1/\H q.2.1=some (.tup (p.1.map kV))/\RelV p.2 q.2.2
theorem KT.val {H:Hp} {a:List (List Key×V)} {g:List (List Key×Addr×Value)} (r:KT H a g) (k:List Key):jV (iR a k) ((atKey g k).map (·.2)):=by
 induction r with
 |nil=>exact aaJ
 | @cons p q l d h t j=>
   obtain ⟨f,_,i⟩:=h;by_cases e:p.1=k
   ·have c:q.1=k:=f.symm.trans e;have b:atKey (q::d) k=some q.2:=by simp [atKey,abC,c]
    rw [mR e,b];exact i
   ·have c:¬ q.1=k:=fun z=>e (f.trans z);have b:atKey (q::d) k=atKey d k:=by simp [atKey,abC,c]
    rw [lB e,b];exact j
theorem KT.repl {H:Hp} {a:List (List Key×V)} {f:List (List Key×Addr×Value)} (r:KT H a f) (k:List Key) {y:V} {u:Z6} (j:RelV y u) :
 KT H (a.map fun c=>if c.1=k then (c.1,y) else c) (f.map (putAt k u)):=by
 induction r with
 |nil=>exact .nil
 | @cons p q l m h t i=>
   rw [aaE,aaE];refine .cons ?_ i;obtain ⟨b,d,g⟩:=h;unfold putAt;by_cases e:p.1=k
   ·rw [aad e,aad (b.symm.trans e)];exact ⟨b,d,j⟩
   ·rw [aac e,aac (fun z=>e (b.trans z))];exact ⟨b,d,g⟩
theorem KT.put {H:Hp} {a:List (List Key×V)} {c:List (List Key×Addr×Value)} (r:KT H a c) (k:List Key) {b:Z0} {y:V} {u:Z6} (g:H b=some (.tup (k.map kV))) (d:RelV y u) :
 KT H (putK a k y) (storedH c k b u):=by
 have e:(a.any fun f=>decide (f.1=k))=(atKey c k).isSome:=by rw [nD,(r.val k).isSome_eq,acR]
 unfold putK storedH;rw [e];by_cases q:(atKey c k).isSome=true
 ·rw [aad q,aad q];exact r.repl k d
 ·rw [aac q,aac q];exact Paired.snoc r ⟨rfl,g,d⟩
theorem KT.keeps {H d:Hp} (r:KT H a e) (f:∀ b c,H b=some (.tup c)->d b=some (.tup c)):KT d a e:=
 Paired.mapP r fun _ _ z=>⟨z.1,f _ _ z.2.1,z.2.2⟩
theorem J_ (ok:kO P w H h) (e:Rd H a u):eU P w H h a u:=e.ok ok
theorem qO (ok:kO P w H h) (e:Rd H a (.dK b)):b.length≤sizeLine/\(a == sysModules)=false/\∃ vs,KV b vs/\h.DictOf (fY P w) a vs:=
 show eU P w H h a (.dK b) from J_ ok e
theorem vU (ok:kO P w H h) (e:H a=some (.dK b)):b.length≤sizeLine/\(a == sysModules)=false/\∃ vs,KV b vs/\h.DictOf (fY P w) a vs:=qO ok (.inl e)
theorem qC (ok:kO P w H h) (e:H a=some (.tup (c.map kV))):(tupleKind (fY P w)).is h c a:=by obtain ⟨_,b,r,o,d,f,n,g⟩:=(show eU P w H h a (.tup (c.map kV)) from ok a _ e);exact ⟨o,b.toArray,n,d,f,g,by simpa using rY r⟩
theorem uZ (ok:kO P w H h) (e:Rd H a (.dT b)):b.length≤sizeLine/\(a == sysModules)=false/\
 ∃ d,KT H b d/\h.DictOfH (tupleKind (fY P w)) a d:=by
 obtain ⟨z,y,d,r,o,g,i,j,n,s,v,A⟩:=(show eU P w H h a (.dT b) from J_ ok e);refine ⟨z,y,d,r,o,g,i,j,n,s,v,fun x c=>?_,A⟩;have all:∀ {l:List (List Key×V)} {m:List (List Key×Addr×Value)},KT H l m->∀ x∈m,(tupleKind (fY P w)).is h x.1 x.2.1:=by
  intro l m q;induction q with
  |nil=>intro x c;exact nomatch c
  | @cons p q C D f t B=>
    intro x c;rcases aaf.mp c with e|c
    ·subst e;exact qC ok (by rw [← f.1];exact f.2.1)
    ·exact B x c
 exact all r x c
theorem Su (ok:kO P w H h) (e:H a=some (.dT b)):b.length≤sizeLine/\(a == sysModules)=false/\
 ∃ c,KT H b c/\h.DictOfH (tupleKind (fY P w)) a c:=uZ ok (.inl e)
def iy (H:Hp) (a:Z0) (y:V) (r:Option V):Prop:=
 (∃ c k,Rd H a (.dK c)/\y=kV k/\r=iR c k)∨∃ c k b,Rd H a (.dT c)/\y=.ref b/\H b=some (.tup (k.map kV))/\r=iR c k
def my (H:Hp) (a:Z0) (y v:V) (d:Hp):Prop:=
 (∃ c k,H a=some (.dK c)/\y=kV k/\c.length<sizeLine/\d=upd H a (.dK (putK c k v)))∨
 ∃ c k b,H a=some (.dT c)/\y=.ref b/\H b=some (.tup (k.map kV))/\c.length<sizeLine/\d=upd H a (.dT (putK c k v))
theorem iy.k {H:Hp} {a:Z0} {b:List (Key×V)} {k:Key} (e:H a=some (.dK b)):iy H a (kV k) (iR b k):=.inl ⟨b,k,.inl e,rfl,rfl⟩
theorem my.k {H:Hp} {a:Z0} {b:List (Key×V)} {k:Key} {v:V} (e:H a=some (.dK b)) (c:b.length<sizeLine):my H a (kV k) v (upd H a (.dK (putK b k v))):=.inl ⟨b,k,e,rfl,c,rfl⟩
section
variable {X:Cx} {cW:Zi} {σ:St} {H:Hp} {s:Z1} {a:Z0} {y v:V} {u r:Z6} {o:Option V} {A:Z8} {E:Zb}
theorem Inv.big (I:Inv X cW σ H s):sysModules<s.heap.objs.size:=by have h:mainGlobals<s.heap.objs.size:=(I.mod.glob.keeps I.bk).lt;exact Nat.lt_trans (by decide) h
theorem Br (D:A.units+1<cLine) (I:Inv X cW σ H s) (g:iy H a y (some v)) (w:RelV y u) (h:∀ f q,Inv X cW σ H q->RelV v f->Q f q) :
 wpAny (model X.prog X.w) A (getItem (.ref a) u) Q E s:=by
 rcases g with ⟨m,k,e,n,l⟩|⟨m,k,b,e,n,C,l⟩
 ·subst n;obtain ⟨z,hd,vs,c,dd⟩:=qO I.hok e;obtain ⟨f,i,d⟩:=jV.some_of (v:=v) (o:=valueAt vs k) (by rw [l];exact c.val k);exact wpAny_getItem_of (pU w) dd.mapOf i (h f _ (I.tok _) d)
 ·subst n;cases (show u=Value.ref b from w);obtain ⟨z,hd,x,c,dd⟩:=uZ I.hok e;obtain ⟨f,i,d⟩:=jV.some_of (v:=v) (o:=(atKey x k).map (·.2)) (by rw [l];exact c.val k);obtain ⟨p,B,j⟩:=abk.mp i;refine wpAny_getItem_heap (tupleKind_room_in1 D) (qC I.hok C) dd B ?_;rw [j];exact h f _ (I.tok _) d
theorem WP (n:A.units+1<cLine) (I:Inv X cW σ H s) (g:iy H a y o) (j:RelV y u) (h:∀ i,Inv X cW σ H i->Q (.bool o.isSome) i) :
 wpAny (model X.prog X.w) A (compareOp .In u (.ref a)) Q E s:=by
 rcases g with ⟨d,k,e,f,l⟩|⟨d,k,b,e,f,m,l⟩
 ·subst f;obtain ⟨z,hd,vs,c,dd⟩:=qO I.hok e;refine wpAny_in_of (pU j) hd dd.mapOf ?_;rw [← (c.val k).isSome_eq,← l];exact h _ (I.tok _)
 ·subst f;cases (show u=Value.ref b from j);obtain ⟨z,hd,p,c,dd⟩:=uZ I.hok e;refine wpAny_in_heap (tupleKind_room_in1 n) (qC I.hok m) hd dd ?_;have q:=(c.val k).isSome_eq;rw [acR] at q;rw [← q,← l];exact h _ (I.tok _)
theorem Hc (n:A.units+1<cLine) (I:Inv X cW σ H s) (g:iy H a y o) (j:RelV y u) (h:∀ i,Inv X cW σ H i->Q (.bool (!o.isSome)) i) :
 wpAny (model X.prog X.w) A (compareOp .NotIn u (.ref a)) Q E s:=by
 rcases g with ⟨d,k,e,f,l⟩|⟨d,k,b,e,f,m,l⟩
 ·subst f;obtain ⟨z,hd,vs,c,dd⟩:=qO I.hok e;refine wpAny_notIn_of (pU j) hd dd.mapOf ?_;rw [← (c.val k).isSome_eq,← l];exact h _ (I.tok _)
 ·subst f;cases (show u=Value.ref b from j);obtain ⟨z,hd,p,c,dd⟩:=uZ I.hok e;refine wpAny_notIn_heap (tupleKind_room_in1 n) (qC I.hok m) hd dd ?_;have q:=(c.val k).isSome_eq;rw [acR] at q;rw [← q,← l];exact h _ (I.tok _)
theorem pq (I:Inv X cW σ H s) (g:RC (H a)) (h:Heap.SameBut a s.heap c) (i:∃ q,c.get? a=some q) (new:eU X.prog X.w (upd H a d) c a d) :
 Inv X cW σ (upd H a d) { s with heap:=c,toks:=t' }:=
 I.write (x:=a) (e:=a) g (.inl rfl) (fun b q f z=>(h.2 b f).trans z) i new
theorem uh (z:b.length≤sizeLine) (hd:(a == sysModules)=false) (c:KV b vs) (dd:d.DictOf (fY P w) a vs) :
 eU P w e d a (.dK b):=⟨z,hd,vs,c,dd⟩
theorem Bj {Q:Unit->Shared->Prop} (W:A.units+1<cLine) (I:Inv X cW σ H s) (g:my H a y v G) (J:RelV y u) (L:RelV v r) (h:∀ D,Inv X cW σ G D->Q () D) :
 wpAny (model X.prog X.w) A (setItem (.ref a) u r) Q E s:=by
 rcases g with ⟨f,k,e,w,l,x⟩|⟨f,k,b,e,w,F,l,x⟩
 ·subst w x;obtain ⟨z,hd,vs,d,dd⟩:=vU I.hok e;have n:vs.length≤sizeLine:=by rw [← d.length];exact z
  have p:(putK f k v).length≤sizeLine:=by have:=jA f k v;omega
  refine wpAny_setItem_pairs (hsz:=n) (pU J) dd fun B i m=>h _ ?_;have M:∃ q,B.get? a=some q:=let ⟨q,_,_,j,_⟩:=i;⟨q,j⟩
  exact pq I (by rw [e];exact aaJ) m M (uh p hd (d.put k L) i)
 ·subst w x;cases (show u=Value.ref b from J);obtain ⟨z,hd,N,d,dd⟩:=Su I.hok e;have n:N.length≤sizeLine:=by rw [← aaZ d];exact z
  have p:(putK f k v).length≤sizeLine:=by have:=jA f k v;omega
  refine wpAny_setItem_heap (hsz:=n) (tupleKind_room_in1 W) (qC I.hok F) dd fun B i m=>h _ ?_;obtain ⟨q,O,P,j,R,S,T,_,U⟩:=i;refine pq I (by rw [e];exact aaJ) m ⟨q,j⟩ ⟨p,hd,_,(d.put k F L).keeps fun c Y C=>?_,q,O,P,j,R,S,T,U⟩;rw [b7 (iu C e (fun z=>nomatch z))];exact C
end
theorem PJ (I:Inv X d g H s) (e:Rd H a (.dK f)) (h:∀ t c,Inv X d g H c->Q (.int f.length t) c):wpAny (model X.prog X.w) A (call (.builtin "len") [.ref a]) Q E s:=by obtain ⟨z,hd,vs,b,dd⟩:=qO I.hok e;refine call_len_dict hd dd (by rw [← b.length];rw [sizeLine_eq] at z;omega) ?_;rw [← b.length];exact h _ _ (I.tok _)
def PN (i:Z9):Prop:=∀ a b,subscripted i false a b=operate [a,b] (getItem a b)
theorem Jr {a:Z4} {w:Z5} {A:Z8} {E:Zb} {s:Z1} {env:Env} {c b:Z9} {n:Pos} {T q:String} {Q:Zb}
 (v:typeLookup (.type T) "__getitem__" = pure (some (.builtin q))) (y:PN b)
 (h:wpAny (model a w) A (eval c env) (fun o f=>wpAny (model a w) A (eval b env) (fun i d=>d.TypeIs o T/\wpAny (model a w) A (getItem o i) Q E d) E f) E s) :
 wpAny (model a w) A (eval (.Subscript c b n) env) Q E s:=by
 refine Subscript_ (aaH h (fun o f l=>aaH l (fun i d e=>?_) fun _ _ x=>x) fun _ _ x=>x);obtain ⟨p,e⟩:=e;unfold subscriptTail;refine aaa ?_;rw [getitemInPython_of_ne p.not_modules];refine aaa (wpAny_specialOf p v ?_);have j:wpAny (model a w) A (subscripted b false o i) (fun r g=>wpAny (model a w) A (letTemporaryGo c o r >>= fun _=>pure r) Q E g) E d:=by rw [y o i];exact wpAny_operating (aaH e (fun r g m=>aaa (wpAny_letTemporaryGo (aab m))) fun _ _ x=>x)
 first
  |exact aab (aaa j)
  |exact aaa (aab (aaa j))
  |exact aaa j
theorem wj (I:Inv X c f H s) (g:iy H a y o):s.TypeIs (.ref a) "dict":=by
 rcases g with ⟨d,k,e,_,_⟩|⟨d,k,b,e,_,_,_⟩
 ·obtain ⟨_,_,vs,_,dd⟩:=qO I.hok e;exact dd.typeIs
 ·obtain ⟨_,_,h,_,dd⟩:=uZ I.hok e;exact dd.typeIs
def QF (e ty:TE):TE:=fun b H Q=>e b H fun x d=>ty b d fun y c=>∃ a v,x=.ref a/\iy c a y (some v)/\Q v c
def VD (ty e:TE):TE:=fun b H Q=>ty b H fun y d=>e b d fun x c=>∃ a o,x=.ref a/\iy c a y o/\Q (.bl o.isSome) c
def Ig (ty e:TE):TE:=fun b H Q=>ty b H fun y d=>e b d fun x c=>∃ a o,x=.ref a/\iy c a y o/\Q (.bl (!o.isSome)) c
def Qp (g ty h:TE):TS:=fun D b H=>h b H fun v d=>g b d fun x e=>ty b e fun y f=>∃ a c,x=.ref a/\my f a y v c/\D.nx b c
theorem eN {X:Cx} (z:X.A.units+1<cLine) (A:PE X o J) (B:PE X i ty) (C:PN i):PE X (.Subscript o i e) (QF J ty):=by intro b s f H Q I h;refine Jr PySem.F.slot_dict_getitem.lookup C (eG (A b s f H _ I h) fun u j ⟨x,l,m,n,q1⟩=>eG (B b j f l _ m q1) fun D E ⟨y,p,d,q,a,v,r,g,q2⟩=>?_);subst r;obtain rfl:u=Value.ref a:=n;exact ⟨wj d g,Br z d g q fun F G w c=>⟨v,p,w,c,q2⟩⟩
theorem My {X:Cx} (w:X.A.units+1<cLine) (z:PE X i ty) (A:PE X o e):PC X .In i o (VD ty e):=by intro b s c H Q I h;refine eG (z b s c H _ I h) fun B d ⟨y,f,j,l,q1⟩=>eG (A b d c f _ j q1) fun u C ⟨x,m,n,p,a,q,r,g,q2⟩=>?_;subst r;obtain rfl:u=Value.ref a:=p;exact WP w n g l fun D v=>⟨.bl q.isSome,m,v,rfl,q2⟩
theorem su {X:Cx} (hu:X.A.units+1<cLine) (hi:PE X i ty) (ho:PE X o td):PC X .NotIn i o (Ig ty td):=by intro cW s σ H Q I h;refine eG (hi cW s σ H _ I h) fun iv s1 ⟨y,H1,I1,ry,q1⟩=>eG (ho cW s1 σ H1 _ I1 q1) fun u s2 ⟨x,H2,I2,rx,a,ov,ex,g,q2⟩=>?_;subst ex;obtain rfl:u=Value.ref a:=rx;exact Hc hu I2 g ry fun s3 I3=>⟨.bl (!ov.isSome),H2,I3,rfl,q2⟩
theorem iV {X:Cx} {R:Pos} (F:X.A.units+1<cLine) (G:PE X o U) (J:PE X i ty) (L:PE X e T) (M:swapsWith e (some (.Subscript o i S)) R.line X.env=pure false) :
 PS X (.Assign [.Subscript o i S] e R) (Qp U ty T):=by
 intro b s c H D I h;refine wpAny_Assign_Subscript (eG (L b s c H _ I h) fun r d ⟨v,f,j,l,q1⟩=>eG (G b d c f _ j q1) fun u m ⟨x,n,p,q,q2⟩=>eG (J b m c n _ p q2) fun N O ⟨y,P,w,z,a,A,B,g,C⟩=>?_) M;subst B;obtain rfl:u=Value.ref a:=q;exact Bj F w g z l fun Q E=>⟨c,A,E,C⟩
theorem qI (h:Z7) (a:sysModules<h.objs.size):eU P w H (h.push { cls:=.type "dict",data:=.dict #[] }) h.objs.size (.dK []):=
 ⟨aaA _,abx.mpr (aaC (aap a)),[],.nil,Heap.DictOf.new h⟩
def O6:TE:=fun _ H Q=>∀ p,H p=none->Q (.ref p) (upd H p (.dK []))
theorem pN:PE X (.Dict [] [] d) O6:=fun b s c H Q I h=>wpAny_Dict_empty ⟨.ref s.heap.objs.size,_,I.laid (a:=s.heap.objs.size) (o:=.dK []) (t':=s.toks) (fun _ _ q=>aak _ q) (aae _) (qI s.heap I.big),rfl,h _ (I.hok.fresh (aae _))⟩
def xG:List (TE×TE)->St->Hp->(List (V×V)->Hp->Prop)->Prop
 |[],_,H,Q=>Q [] H
 |(tk,tv)::r,σ,H,Q=>tk σ H fun x a=>tv σ a fun y b=>xG r σ b fun c d=>Q ((x,y)::c) d
abbrev VV:List (V×V)->List (Value×Value)->Prop:=Paired fun p q=>RelV p.1 q.1/\RelV p.2 q.2
def TY (X:Cx) (d:Pos) (keys:List (Option Expr)) (a:Zl) (e:List (TE×TE)):Prop:=
 ∀ (b:Zi) (s:Z1) (c:St) (H:Hp) (Q:List (V×V)->Hp->Prop),Inv X b c H s->xG e c H Q->
   wpAny (model X.prog X.w) X.A (evalPairs (pairTrees keys a X.env d)) (fun vs h=>∃ f g,Inv X b c g h/\VV f vs/\Q f g) X.xe s
theorem zx:TY X a [] [] []:=fun b s c H Q I h=>pairTrees_nil_walk ⟨[],H,I,.nil,h⟩
theorem lK {X:Cx} {b:Pos} {k v:Z9} {f:List (Option Expr)} {vs:Zl} {tk g:TE} {c:List (TE×TE)} (hk:PE X k tk) (B:PE X v g) (C:TY X b f vs c) :
 TY X b (some k::f) (v::vs) ((tk,g)::c):=fun a s d H Q I h=>
 pairTrees_cons_walk (eG (hk a s d H _ I h) fun u i ⟨x,j,l,m,q1⟩=>eG (B a i d j _ l q1) fun D n ⟨y,o,p,q,q2⟩=> eG (C a n d o _ p q2) fun E F ⟨r,w,z,e,A⟩=>⟨(x,y)::r,w,z,.cons ⟨m,q⟩ e,A⟩)
noncomputable def o8 (c a:List (Key×V)):List (Key×V):=a.foldl (fun b d=>putK b d.1 d.2) c
theorem KV.merge:∀ {a:List (Key×V)} {c:List (Key×Value)} {b:List (Key×V)} {vs:List (Key×Value)},KV a c->KV b vs->KV (o8 b a) (merged vs c):=by
 intro a c b vs r;unfold KV at r;induction r generalizing b vs with
 |nil=>intro q;exact q
 | @cons p q g i h t f=>
   intro d;have e:KV (putK b p.1 p.2) (stored vs q.1 q.2):=by have:=d.put p.1 h.2;rw [← h.1];exact this
   exact f e
theorem l_:∀ (b a:List (Key×V)),(o8 a b).length≤a.length+b.length
 |[],a=>by show a.length≤a.length+0;omega
 | p::r,a=>by have c:=l_ r (putK a p.1 p.2);have d:=jA a p.1 p.2;show (o8 (putK a p.1 p.2) r).length≤_;rw [aaw];omega
theorem pP:∀ {d:List (Key×V)} {g:List (Value×Value)},VV (d.map fun f=>(kV f.1,f.2)) g->∃ e,Carries (fY P w) g e/\KV d e
 |[],_,r=>by rw [List.map_nil] at r;cases r;exact ⟨[],aaJ,.nil⟩
 | p::d,_,r=>by
   rw [aaE] at r;cases r with
   | @cons a b l bs h t=>obtain ⟨e,c,q⟩:=pP (P:=P) (w:=w) t;obtain ⟨j,i⟩:=b;exact ⟨(p.1,i)::e,⟨pU h.1,rfl,c⟩,.cons ⟨rfl,h.2⟩ q⟩
def S9 (b:List (TE×TE)):TE:=fun e H Q=>∀ p,H p=none->xG b e (upd H p (.dK [])) fun f c=>c p=some (.dK [])/\∃ a:List (Key×V),f=a.map (fun d=>(kV d.1,d.2))/\a.length≤15/\Q (.ref p) (upd c p (.dK (o8 [] a)))
theorem yL {X:Cx} {i:Pos} {keys:List (Option Expr)} {b:Zl} {j:List (TE×TE)} (h:TY X i keys b j) (l:keys.all (·.isSome)=true) (N:keys.length=b.length) (O:keys≠[])
 (n:keys.length≤15):PE X (.Dict keys b i) (S9 j):=by
 intro g s M H Q I q;have y:=I.hok.fresh (aae s.heap.objs.size);have A:=I.laid (a:=s.heap.objs.size) (o:=.dK []) (h':=s.heap.push { cls:=.type "dict",data:=.dict #[] }) (t':=s.toks) (fun _ _ q=>aak _ q) (aae _) (qI s.heap I.big);refine wpAny_Dict_walk (knd:=fY X.prog X.w) l N O n (eG (h g _ M _ _ A (q _ y)) fun R S ⟨T,U,p,m,e,d,v,W,q2⟩=>?_);subst v;obtain ⟨F,c,G⟩:=pP (P:=X.prog) (w:=X.w) m;obtain ⟨z,hd,J,L,dd⟩:=vU p.hok e;cases L;refine ⟨F,c,dd,fun r f x=>⟨.ref s.heap.objs.size,_,?_,rfl,q2⟩⟩;have B:(o8 [] d).length≤sizeLine:=by have C:=l_ d [];rw [abn] at C;rw [sizeLine_eq];omega
 have D:∃ q,r.get? s.heap.objs.size=some q:=let ⟨q,_,_,E,_⟩:=f;⟨q,E⟩
 exact pq p (by rw [e];exact aaJ) x D (uh B hd (G.merge .nil) f)
theorem Ec (I:Inv X m n H s) (e:Rd H a (.dK l)) (h:∀ p g,H p=none->Inv X m n (upd H p (.dK l)) g->Q (.ref p) g):wpAny (model X.prog X.w) A (call (.type "dict") [.ref a]) Q E s:=by obtain ⟨z,hd,vs,c,dd⟩:=qO I.hok e;refine kt_call_dict hd dd (by rw [← c.length];exact z) fun j d i=>?_;refine h _ _ (I.hok.fresh (aae _)) (I.laid (a:=s.heap.objs.size) (o:=.dK l) (t':=s.toks) (fun b q f=>?_) (aae _) (uh z (abx.mpr (aaC (aap I.big))) c d));exact (i.2 b (aap (aam f))).trans (aak _ f)
end L2
namespace Att
open PySem PySem.W PySem.Calls PyProof.Rows
theorem oW:∀ (c:List Int) (vs:Ze),WellAll P h vs (c.map WData.int)->IntsAre vs c:=by
 intro c;induction c with
 | nil=>intro vs w;rw [List.map_nil] at w;cases w;exact .nil
 | cons n c d=>
   intro vs w;rw [aaE] at w;cases w with
   | cons a b=>cases a;exact .cons _ _ (d _ b)
theorem Bd {l:OpenLaw} (C:l.most=some n) {h:Z7}
 (f:l.row.toRowW.claim.pre b=true) (p:WellAll P h e b) :
 ∃ a vs c,e=[Value.ref a]/\b=[WData.list (c.map WData.int)]/\h.get? a=some { cls:=.type "list",data:=.seq vs.toArray }/\IntsAre vs c/\c.length≤n:=by
 have o:WShape.hasAll [] b [.list .int]=true:=(pre_splitW f).1;have s:l.pre.holds [] { args:=b }=true:=(pre_splitW f).2;obtain ⟨d,r,rfl,w,x⟩:=hasAllW_cons o;obtain rfl:=hasAllW_nil x;obtain ⟨D,rfl,y⟩:=hasW_list w;obtain ⟨c,rfl⟩:=items_int y;have g:c.length≤n:=by
  unfold OpenLaw.pre at s;have j:(WTm.not (.lt (.lit (.int (n:Int))) (.len (.arg 0)))).holds [] { args:=[.list (c.map .int)] }=true:=by have j:=(holds_andW s).1;rw [C] at j;exact j
  have m:=condW_of j (w_not (w_lt w_lit (w_len_list (w_arg rfl))));rw [aah] at m;refine Nat.le_of_not_lt fun q=>?_;have v:(n:Int)<((c.length:Nat):Int):=by omega
  first
   |(rw [abD v] at m;exact absurd m (by decide))
   |(simp at m;omega)
 cases p with
 | cons z A=>
   cases A;cases z with
   |list B i=>exact ⟨_,_,c,rfl,rfl,B,oW c _ i,g⟩
theorem As (l:OpenLaw) (a:List WData):l.row.toRowW.claim.post a (.bool true) a=true:=
 postW_of (r:=l.row.toRowW) (X:=(true == true))
  (show WShape.has [] (.bool true) .bool=true by first|rfl|decide|simp [WShape.has,WShape.arms,WShape.armsAll])
  (show (WTm.eq .res (.lit (.bool true))).value [] { args:=a,res:=some (.bool true),after:=a }=some (.bool (true == true)) from w_eq_bool (w_res rfl) w_lit) rfl
theorem wB {l:OpenLaw} {L:World->Heap->Prop} {d:DefRec}
 (X:l.most=some n) (D:d.params.defaults=[])
 (call:∀ (w:Z5) (c b:Z1) (v y:Zc) (i:Z0) (o:Obj) (z cd g:Z6) (a:Z0) (vs:Ze) (x:List Int),Ground q e [] J w c v y b.heap->L w b.heap-> b.heap.get? i=some o->o.data=.func (docDef d.name d.params d.body d.scope z cd g)->b.heap.CodeRec cd d.name->v d.name=some (.ref i)-> b.heap.get? a=some { cls:=.type "list",data:=.seq vs.toArray }->IntsAre vs x->x.length≤n->b.gens=#[]-> codeAny (model l.prog w) callerA (.call (.ref i) ⟨[.ref a],[]⟩) (fun r s=>r=.ok (.ret (.bool true))/\OldK b.heap s.heap/\s.os=b.os/\AllBare s.gens) b) :
 WalkO q e J L l.row.toRowW d [] (fun f vs=>PySem.call f vs):=by
 intro w c b v y G Y i o z cd g R kV S hd A E B T F H Z p I U C W;obtain rfl:R=.none:=Dflts.none E D;obtain rfl:kV=.none:=Dflts.noKw E;obtain ⟨a,vs,x,rfl,rfl,j,h,m⟩:=Bd X p C;refine enter_call (codeAny_mono (call w c b v y i o z cd g a vs x G Y S (fd_plain hd) A B j h m T) fun r s M=>?_);obtain ⟨rfl,O,P,Q⟩:=M;exact ⟨.inl ⟨.bool true,.bool true,[],rfl,fun _=>rfl,.bool true,As l _,fun _=>⟨List.Pairwise.nil,fun _ N=>(nomatch N)⟩⟩,O,P,Q⟩
section
variable {prog:Z4} {w:Z5} {A:Z8} {E:Zb} {s:Z1} {K:Z2}
end
end Att
namespace L2
open PySem PySem.Spec PyProof.Rows
theorem rF:∀ {vs:Ze} {a:List Int},IntsAre vs a->Vals (a.map V.int) vs
 |_,_,.nil=>.nil
 |_,_,.cons n t h=>.cons ⟨t,rfl⟩ (rF h)
noncomputable def inClass (s:Stmt) (j:Nat):Stmt:=match s with
 |.ClassDef _ _ _ body _ _ _ _ _ _ _=>body.getD j (.Pass ⟨0,0,0,0⟩)
 |_=>.Pass ⟨0,0,0,0⟩
noncomputable def cU (s:Stmt):Arguments:=match s with
 |.FunctionDef _ a _ _ _ _ _ _ _ _=>a
 |_=>{ posonlyargs:=[],args:=[],vararg:=none,kwonlyargs:=[],kw_defaults:=[],kwarg:=none,defaults:=[] }
noncomputable def cO (s:Stmt):List Stmt:=match s with
 |.FunctionDef _ _ b _ _ _ _ _ _ _=>b
 |_=>[]
noncomputable def bK (s:Stmt):Scope:=match s with
 |.FunctionDef _ _ _ _ _ _ sc _ _ _=>sc
 |_=>{ kind:=.function,names:=[],isGenerator:=false,isCoroutine:=false }
abbrev dI:rK:=fun _ _ _ _ _ _=>False
abbrev E0:XK:=fun _ _ _=>False
theorem cZ:fX dI X E0:=fun _ _ _ _ _ _ _ h=>h.elim
structure gj (K:Z2) (x qual:Str) (st:Stmt) (f:Z0) (fd:Z3):Prop where
 ex:∃ (oc:Z6) (od:Zg) (kV doc pm:Z6) (an:Zg) (cdv ct:Z6) (osl:Zm),
  fd=PySem.W.fnOf x qual (cU st) (cO st) (bK st) .none kV doc pm an cdv ct/\K.lookup f=some ⟨oc,od,.func fd,osl⟩/\PySem.W.codeIn K cdv qual=true
 kp:PySem.W.keepIn K (.ref f)=true
theorem gj.ok {P:Z4} {w:Z5} {K:Z2} {C:Zc} {B:Z7} {x b:Str} {e:Stmt} {f:Z0} {m:Z3} {N j:Zd} {k:Nat} {l:Sp} (F:gj K x b e f m) (S:cA N j (bK e)) (len:∀ vs H Q E,l vs H Q E->vs.length=j.length)
 (d:∀ (c:Z6) (A:Z8) (a:List Env) (s:Z1) (H:Hp) (vs:List V) (Q:VK) (E:XK),dm k (A.deeper (envOfC b (bK e) s.heap.objs.size f c))->l vs H Q E-> ∃ t,u9 (iY dI P w K C B N b (bK e) f c A a s H E).nox (cO e) t/\t { nx:=fun _ n=>Q .non n,rt:=Q } (start N vs) H):cD P w K C B dI (k+1) f m j l:=by
 obtain ⟨oc,od,kV,p,y,an,c,z,r,rfl,v,i⟩:=F.ex;refine vO v i S len fun A a s H vs Q E o g=>?_;obtain ⟨t,h,q⟩:=d c A a s H vs Q E o g;exact ⟨t,h.nox,q⟩
theorem gj.binds {K:Z2} {x a:Str} {d:Stmt} {f:Z0} {j:Z3} {ps:Zd} (F:gj K x a d f j)
 (h:∀ (kV b e:Z6) (an:Zg) (c g:Z6) (i:Ze),i.length=ps.length->bindArgs (PySem.W.fnOf x a (cU d) (cO d) (bK d) .none kV b e an c g) ⟨i,[]⟩=pure (ps.zip i)):Binds K j ps []:=by
 obtain ⟨oc,od,kV,b,e,an,c,g,l,rfl,n,m⟩:=F.ex;exact .all (h kV b e an c g)
theorem ii {K:Z2} {x a:Str} {st:Stmt} {f:Z0} {oc:Z6} {od an:Zg} {e:Zm} {kV d g b h:Z6} (l:K.lookup f=some ⟨oc,od,.func (PySem.W.fnOf x a (cU st) (cO st) (bK st) .none kV d g an b h),e⟩)
 (c:PySem.W.codeIn K b a=true) (k:PySem.W.keepIn K (.ref f)=true):gj K x a st f (PySem.W.fnOf x a (cU st) (cO st) (bK st) .none kV d g an b h):=⟨⟨oc,od,kV,d,g,an,b,h,e,rfl,l,c⟩,k⟩
theorem oN (a:dm k A):A.units+1<cLine:=abt (Nat.add_le_add_left (by decide:1≤64) _) a.units
theorem lU (h:n≤1000):n<sizeLine:=abt h (by decide)
theorem pv (i:Nat) (c:X.N[i]?=some x:=by rfl) (d:KQ X.env.scope x:=by first|exact Or.inl rfl|exact Or.inr (.inl rfl)|exact Or.inr (.inr rfl)) (hd:(x == ("__debug__" : Str))=false:=by decide)
 (b:(x == ("__classdict__" : Str))=false:=by decide):PE X (.Name x a) (kJ i):=M_ c d hd b
theorem mY {c A B:Prop} [Decidable c] (a:c->A) (b:¬ c->B):if c then A else B:=by
 by_cases h:c
 ·rw [aad h];exact a h
 ·rw [aac h];exact b h
def cj (H a:Hp):Prop:=∀ b o,H b=some o->a b=some o
theorem cj.refl (H:Hp):cj H H:=fun _ _ h=>h
theorem cj.trans (a:cj H d) (b:cj d e):cj H e:=fun c o h=>b c o (a c o h)
theorem cj.free (e:cj H a) (h:a l=Option.none):H l=Option.none:=by
 cases q:H l with
 |none=>rfl
 | some o=>rw [e l o q] at h;cases h
theorem cj.seq {K:Z2} {H b:Hp} {a:Z0} {xs:List V} (e:cj H b) (h:dR K H a xs):dR K b a xs:=by
 rcases h with (h|⟨o,h⟩)|h
 ·exact .inl (.inl (e _ _ h))
 ·exact .inl (.inr ⟨o,e _ _ h⟩)
 ·exact .inr h
theorem Bw:ji X (.builtin "len") (fun c H Q=>∃ a b,c=[V.ref a]/\H a=some (.dK b)/\Q (.int b.length) H):=by intro d s j H c l Q I r h;obtain ⟨a,b,rfl,f,q⟩:=h;obtain ⟨u,rfl,g⟩:=vals1 r;cases g;exact PJ I (.inl f) fun t i e=>⟨.int b.length,H,e,⟨t,rfl⟩,q⟩
section
variable {κ:Type} [DecidableEq κ]
theorem Hw {a:List (κ×V)} {k:κ} {v:V} (h:iR a k=some v):k∈a.map (·.1):=by
 have q:(a.any fun b=>decide (b.1=k))=true:=by
  rw [nD,h]
  all_goals rfl
 obtain ⟨p,c,e⟩:=acp.mp q;exact aar.mpr ⟨p,c,acq e⟩
theorem zJ:∀ {l:List κ} {k:κ},l.Nodup->¬ k∈l->(l++[k]).Nodup
 |[],k,_,_=>by simp
 | a::r,k,h,hk=>by
   obtain ⟨b,c⟩:=aaK.mp h;show (a::(r++[k])).Nodup;refine aaK.mpr ⟨fun m=>?_,zJ c fun m=>hk (aaf.mpr (Or.inr m))⟩;rcases aal.mp m with q|q
   ·exact b q
   ·exact hk (aaf.mpr (Or.inl (aai.mp q).symm))
end
theorem qd (d:Za) (h:∀ y∈d.names,y.2=.free->∃ c,env.cells.lookup y.1=some c) :
 ∃ f,closureFor d env=pure f/\(∀ x c,f.lookup x=some c->env.cells.lookup x=some c)/\∀ x,(x,NameKind.free)∈d.names->∃ c,f.lookup x=some c:=by
 have go:∀ (a:List (Str×NameKind)) (b:Zk),(∀ y∈a,y.2=.free->∃ c,env.cells.lookup y.1=some c)->(∀ x c,b.lookup x=some c->env.cells.lookup x=some c)->
  ∃ f,(forIn a b fun x cs=>(match x with
    |(name,kind)=>if kind == NameKind.free then (do let c ← cellOf env name;pure (ForInStep.yield ((name,c)::cs))) else pure (ForInStep.yield cs):Sem (ForInStep (List (Str×Addr)))))=pure f/\
    (∀ x c,f.lookup x=some c->env.cells.lookup x=some c)/\(∀ x,(x,NameKind.free)∈a∨(∃ c,b.lookup x=some c)->∃ c,f.lookup x=some c):=by
  intro a;induction a with
  |nil=>intro b _ o;exact ⟨b,rfl,o,fun x z=>z.elim (fun q=>nomatch q) id⟩
  | cons y r A=>
    intro b v o;obtain ⟨n,k⟩:=y;by_cases hk:k=.free
    ·subst hk;obtain ⟨c,w⟩:=v (n,.free) aan rfl;obtain ⟨f,e,j,l⟩:=A ((n,c)::b) (fun z p=>v z (aag _ p)) (fun x g i=>by
      rw [aa6] at i;by_cases q:x == n
      ·rw [q] at i;cases i;rw [aaS.mp q];exact w
      ·rw [acr] at q;rw [q] at i;exact o x g i);refine ⟨f,?_,j,fun x z=>l x ?_⟩
     ·rw [abE];simp only [acS,if_true,cellOf,w];exact e
     ·have s:∀ x,(∃ g,b.lookup x=some g)->∃ g,((n,c)::b).lookup x=some g:=fun x ⟨g,z⟩=>by
       rw [aa6];by_cases q:x == n
       ·rw [q];exact ⟨_,rfl⟩
       ·rw [acr] at q;rw [q];exact ⟨g,z⟩
      rcases z with z|z
      ·rcases aaf.mp z with z|z
       ·cases z;exact .inr ⟨c,by rw [aa6,acS]⟩
       ·exact .inl z
      ·exact .inr (s x z)
    ·have B:(k == NameKind.free)=false:=by simpa using hk
     obtain ⟨f,e,j,l⟩:=A b (fun z p=>v z (aag _ p)) o;refine ⟨f,?_,j,fun x z=>l x ?_⟩
     ·rw [abE];simp only [B,abo,if_false];exact e
     ·rcases z with z|z
      ·rcases aaf.mp z with z|z
       ·cases z;exact absurd rfl hk
       ·exact .inl z
      ·exact .inr z
 obtain ⟨f,e,j,l⟩:=go d.names [] h (fun x c z=>by simp at z);refine ⟨f,?_,j,fun x z=>l x (.inl z)⟩;unfold closureFor;exact (aaM (fun (m:Sem (List (Str×Addr)))=>m >>= fun cs=>pure cs) e).trans rfl
def di (X:Cx) (scope:Za) (N':Zd) (cl:Zk) (C:Z0) (s₀:Z1) (H₀:Hp) (ex:Zh):Cx where
 prog:=X.prog
 w:=X.w
 K:=X.K
 mg:=X.mg
 base:=X.base
 A:=X.A
 N:=N'
 s₀:=s₀
 H₀:=H₀
 env:=compEnvC scope cl C X.env
 outer:=X.stack
 stack:=X.stack
 ex:=ex
 fn:=fun _=>false
 calm:=X.calm
 pn:=[]
 xe:=fun _ _=>False
def j7 (k:Nat) (a:List Nat) (b:St):St:=List.replicate k none++a.map fun j=>(b[j]?).join
theorem wN (k:Nat) (a:List Nat) (b:St):(j7 k a b).length=k+a.length:=by simp [j7]
structure dq (X:Cx) (scope:Za) (own:Zd) (js:List Nat) (N':Zd):Prop where
 kind:scope.kind=.function
 nocell:∀ y∈scope.names,y.2≠.cell
 names:∀ y∈scope.names,y.2=.local->scope.names.lookup y.1=some .local
 free:∀ y∈scope.names,y.2=.free->X.env.kindOf y.1=some .cell∨X.env.kindOf y.1=some .free
 nm:N'=own++js.map fun j=>X.N.getD j Str.empty
 fr:∀ j∈js,j<X.N.length/\(X.N.getD j Str.empty,NameKind.free)∈scope.names/\∀ k,(X.N.getD j Str.empty,k)∈scope.names->k=.free
theorem oU {a:List (Str×NameKind)} (h:(x,NameKind.free)∈a) (u:∀ k,(x,k)∈a->k=.free):a.lookup x=some .free:=by
 induction a with
 |nil=>cases h
 | cons y r b=>
   obtain ⟨n,k⟩:=y;rw [aa6];by_cases q:x == n
   ·rw [q];have e:x=n:=aaS.mp q;subst e;rw [u k aan]
   ·rw [acr] at q;rw [q];refine b ?_ fun k hk=>u k (aag _ hk);rcases aaf.mp h with z|z
    ·cases z;rw [acS] at q;cases q
    ·exact z
theorem oH (h:(x,k)∈(relabel a env).names) (hk:k=.cell∨k=.free) (d:∀ y∈a.names,y.2≠.cell):(x,NameKind.free)∈a.names:=by
 unfold relabel at h;obtain ⟨⟨n,c⟩,b,e⟩:=aar.mp h;dsimp only at e;by_cases q:(c == NameKind.free && env.scope.kind == .function && env.kindOf n == some .cell)=true
 ·rw [aad q] at e;cases e;rw [aa1,aa1] at q;have:c=.free:=by simpa using q.1.1
  rw [← this];exact b
 ·rw [aac q] at e;cases e;rcases hk with z|z
  ·exact absurd z (d _ b)
  ·rw [← z];exact b
theorem je {env:Env} {x:Str}:∀ {a:List (Str×NameKind)},a.lookup x=some .free->
 (a.map fun (n,k)=>if (k == NameKind.free && env.scope.kind == .function && env.kindOf n == some .cell) then (n,NameKind.cell) else (n,k)).lookup x=some .cell∨
 (a.map fun (n,k)=>if (k == NameKind.free && env.scope.kind == .function && env.kindOf n == some .cell) then (n,NameKind.cell) else (n,k)).lookup x=some .free
 |[],h=>by simp at h
 | (n,k)::r,h=>by
   have b:=@je env x r;rw [aa6] at h;rw [aaE];dsimp only;by_cases q:x == n
   ·rw [q] at h;cases h;by_cases c:(NameKind.free == NameKind.free && env.scope.kind == .function && env.kindOf n == some .cell)=true
    ·rw [aad c,aa6,q];exact .inl rfl
    ·rw [aac c,aa6,q];exact .inr rfl
   ·rw [acr] at q;rw [q] at h;by_cases c:(k == NameKind.free && env.scope.kind == .function && env.kindOf n == some .cell)=true
    ·rw [aad c,aa6,q];exact b h
    ·rw [aac c,aa6,q];exact b h
theorem Inv.comp {X:Cx} {H:Hp} {s:Z1} {scope:Za} {own:Zd} {cl:Zk} {h₁:Z7} (S:dq X scope own js N') (I:Inv X cW σ H s)
 (hc1:∀ x c,cl.lookup x=some c->X.env.cells.lookup x=some c) (hc2:∀ x,(x,NameKind.free)∈scope.names->∃ c,cl.lookup x=some c) (hC:s.heap.objs.size≤C) (hns:h₁.Ns C m) (hk:∀ b o,s.heap.get? b=some o->h₁.get? b=some o)
 (hf:∀ b∈fp,ju X cW H b/\b<s.heap.objs.size) (hHC:H C=none) (hfree:∀ b o,s.heap.get? b=some o->b≠C) :
 Inv (di X scope N' cl C s H fp) [] (j7 own.length js σ) H { s with heap:=h₁,toks:=tk }:=by
 have ltx:∀ b o,X.s₀.heap.get? b=some o->b∉X.ex->b∉fp:=fun b o e hx hb=>by
  rcases (hf b hb).1.2.2.2.1 with z|z
  ·exact hx z
  ·exact absurd (aas (aam e) z) (aaP _)
 refine ⟨⟨I.ok.mod,S.kind,I.ok.glob,I.ok.blt,hC,fun x y c h1 h2=>I.ok.inj x y c (hc1 x c h1) (hc1 y c h2),fun x hx=>?_,fun x c z=>(nomatch z),I.ok.hd,I.ok.frames,.inl rfl,fun b hb=>⟨aap (aas (hf b hb).2 hC),fun x c e=>(hf b hb).1.2.2.2.2.1 x c (hc1 x c e)⟩,I.bs,aaj I.ok.bsz I.sz,fun b o e=>ltx b o (I.ok.bs b o e).1 (I.ok.noex b o e),fun b hb z=>?_,I.stack,I.stkFree⟩,
  rfl,I.bare,Un.kept hk,⟨m,hns,fun i x v e1 e2 e3=>?_⟩,fun x c e=>?_,hHC,fun x c e=>I.freeC x c (hc1 x c e),fun p hp=>absurd (show p∈([]:Zi) from hp) (by simp),I.hok.kept hk,?_⟩
 ·have hx':(relabel scope X.env).names.lookup x=some .cell∨(relabel scope X.env).names.lookup x=some .free:=hx;rcases hx' with z|z
  ·exact hc2 x (oH (aa5 z) (.inl rfl) S.nocell)
  ·exact hc2 x (oH (aa5 z) (.inr rfl) S.nocell)
 ·obtain ⟨_,f1,f2,_⟩:=(hf b hb).1;rcases aaf.mp (I.stkSub b z) with q|q
  ·exact f1 q
  ·exact f2 q
 ·
  unfold j7 at e2;by_cases hi:i<own.length
  ·rw [ac8 (by simpa using hi),List.getElem?_replicate] at e2;split at e2 <;> cases e2
  ·rw [acl (by simpa using hi),acm,aau] at e2;cases ej:js[i-own.length]? with
   |none=>rw [ej] at e2;cases e2
   | some j=>
     rw [ej] at e2;have e2':(σ[j]?).join=some v:=by simpa using e2
     have hσ:σ[j]?=some (some v):=by
      cases q:σ[j]? with
      |none=>rw [q] at e2';cases e2'
      |some o=>rw [q] at e2';exact aaM some e2'
     have hj:=S.fr j (aaq ej);have hx:x=X.N.getD j Str.empty:=by have e1':N'[i]?=some x:=e1;rw [S.nm,acl (by omega),aau,ej] at e1';exact (aaQ e1').symm
     have hN:X.N[j]?=some x:=by rw [hx,ada,aaL hj.1];rfl
     have hfr:scope.names.lookup x=some .free:=by rw [hx];exact oU hj.2.1 hj.2.2
     have hkx:=S.free (x,.free) (by rw [hx];exact hj.2.1) rfl;have hvis:KQ X.env.scope x:=hkx.elim (fun z=>.inr (.inl z)) fun z=>.inr (.inr z);obtain ⟨mX,hnX,hlX⟩:=I.loc;obtain ⟨u,r,l⟩:=hlX j x v hN hσ hvis;refine ⟨u,r,.inr ⟨je hfr,?_⟩⟩;rcases l with ⟨z,_⟩|⟨_,c,hc,hcell⟩
     ·rcases hkx with q|q
      ·have:=q.symm.trans z;cases this
      ·have:=q.symm.trans z;cases this
     ·obtain ⟨c',hc'⟩:=hc2 x (by rw [hx];exact hj.2.1);have:c'=c:=aaQ ((hc1 x c' hc').symm.trans hc);subst this;obtain ⟨o,ho,hd⟩:=hcell;exact ⟨c',hc',o,hk _ _ ho,hd⟩
 ·obtain ⟨v,o,ho,hd⟩:=I.cell x c (hc1 x c e);exact ⟨v,o,hk _ _ ho,hd⟩
 ·rw [wN];show _=N'.length;rw [S.nm];simp
def nJ (Y:Cx) (d:Zl) (t:TT):Prop:=
 ∀ (a:Zi) (s:Z1) (b:St) (H:Hp) (Q:Bool->Hp->Prop),Inv Y a b H s->t b H Q->
   wpAny (model Y.prog Y.w) Y.A (forIn d true fun c r=>if r=true then do let ok ← isTrue c Y.env (eval c Y.env);pure (ForInStep.yield ok) else pure (ForInStep.yield r)) (TP Y a b Q) Y.xe s
def nM:TT:=fun _ H Q=>Q true H
theorem eX:nJ Y [] nM:=fun _ _ _ H _ I h=>wpAny_tests_nil ⟨H,I,h⟩
theorem vX (h:PT Y c t):nJ Y [c] t:=fun a s b H Q I d=>wpAny_tests_one (h a s b H Q I d)
abbrev gw (a:Ze) (k:Nat):Obj:={ cls:=.type "list",data:=.seq a.toArray k }
def lY (J:It) (g:TG) (n:TT) (o:TE) (F:List V->Hp->Prop) (W:Nat->Nat->List V->St->Hp->Prop):Prop:=
 ∀ i m c f H,W i m c f H->(J.stop i H/\F c H)∨(J.go i H/\c.length<sizeLine/\∀ x h,J.yld i H x h->g x f h fun a j=>n a j fun b e=> if b=true then o a e fun y l=>∃ d,d<m/\W (i+1) d (c++[y]) a l else ∃ d,d<m/\W (i+1) d c a e)
def xP (J:It) (g:TG) (n:TT) (o:TE) (F:List V->St->Hp->Prop) (W:Nat->Nat->List V->St->Hp->Prop):Prop:=
 ∀ i m c e H,W i m c e H->(J.stop i H/\F c e H)∨(J.go i H/\c.length<sizeLine/\∀ x h,J.yld i H x h->g x e h fun a j=>n a j fun b f=> if b=true then o a f fun y l=>∃ d,d<m/\W (i+1) d (c++[y]) a l else ∃ d,d<m/\W (i+1) d c a f)
def G7 (c:Z9) (j:Nat) (b a:Z6) (env:Env) (g e:Z9) (f:Zl) (B:Sem Fin->Sem Fin):Prop:=
 (∀ A:Around,A.under (.compLoop c j b a env)=A)/\∀ d w,(model d w).den (.compLoop c j b a env)=((do
  standAt e.pos
  match ← pyNext b with
  |none=>pure (.done .next)
  | some v=>
    letOwnedTupleGo g b v
    assign g env v
    let mut ok:=true
    for c in f do
     if ok then ok ← isTrue c env (eval c env)
    if ok then B (again (.compLoop c j b a env)) else again (.compLoop c j b a env):Sem Fin)).onRaise (fun x=>do noteFrame x env;theTreesLotGoes x)
theorem Ca {α:Type} {Y:Cx} {c:Z9} {j:Nat} {it:Z0} {acc:Z6} {tg iter:Z9} {ifs:Zl} {B:Sem Fin->Sem Fin} {fp:Zh} {tn:Nat->Heap->Prop} {J:It} {g:TG} {tt:TT} {R:Zj} (U:α->List (Addr×Obj))
 (e:G7 c j (.ref it) acc Y.env tg iter ifs B) (T:Turn Y.prog Y.w Y.K tg J fp it tn) (hg:PG Y tg g) (hc:nJ Y ifs tt) (p:Y.calm=true) (hx:∀ v s,¬ Y.xe v s)
 (M:∀ a,∀ b∈fp,∀ H,H b=none->ju Y (U a) H b) (W P:Nat->Nat->α->St->Hp->Prop) (S Z:α->Prop)
 (turn:∀ i m a q H,S a->W i m a q H->(J.stop i H/\∀ s,Inv Y (U a) q H s->R (.ok .next) s)∨(J.go i H/\Z a/\∀ x H1,J.yld i H x H1->g x q H1 fun D H2=>tt D H2 fun b N=>if b=true then P i m a D N else ∃ y,y<m/\W (i+1) y a D N))
 (body:∀ i m a q H h s,S a->Z a->P i m a q H->(∀ b∈fp,∃ o,h.get? b=some o)->Inv Y (U a++jq fp h) q H s->∀ (k:Sem Fin) (Q:Fin->Shared->Prop) (E:Zb),(∀ X,(∃ y,y<m/\∃ a' l O,Inv Y (U a'++jq fp h) l O X/\S a'/\W (i+1) y a' l O)->wpAny (model Y.prog Y.w) Y.A k Q E X)->wpAny (model Y.prog Y.w) Y.A (B k) Q E s)
 {s:Z1} {q:St} {H:Hp} {m:Nat} {a:α} (I:Inv Y (U a) q H s) (st:tn 0 s.heap) (fr:∀ b∈fp,H b=none) (s0:S a) (w0:W 0 m a q H) :
 codeAny (model Y.prog Y.w) Y.A (.compLoop c j (.ref it) acc Y.env) R s:=by
 refine codeAny_loop rfl (fun n X=>∃ i a l O,Inv Y (U a) l O X/\tn i X.heap/\(∀ b∈fp,O b=none)/\S a/\W i n a l O) (fun n s3 hI=>?_) m ⟨0,a,q,H,I,st,fr,s0,w0⟩;obtain ⟨i,a,C,N,I3,aa,ab,L,w3⟩:=hI;rw [e.1,e.2];refine wpAny_noted ?_;refine aaa (aa2 (aaa ?_));rcases turn i n a C N L w3 with ⟨ac,qn⟩|⟨go,za,step⟩
 ·refine aaH (T.done Y rfl rfl rfl p i _ s3 C N (fun _ _=>False) I3 (fun b f=>M a b f _ (ab b f)) aa ac) (fun r s4 ⟨hr,I4⟩=>?_) (fun _ _ z=>z.elim);subst hr;exact aab (qn s4 I4)
 ·refine aaH (T.item Y rfl rfl rfl p i _ s3 C N (fun _ _=>False) I3 (fun b f=>M a b f _ (ab b f)) aa go) (fun r s4 ⟨u,hr,h4⟩=>?_) (fun _ _ z=>z.elim);subst hr;refine aaa (aaH h4 (fun _ s5 ⟨x,H5,I5,r5,y5,w,ad⟩=>?_) (fun _ _ z=>z.elim));refine aaa (aaH (hg _ s5 C H5 x u _ (I5.pinned (fun b f=>M a b f _ (ad b f)) (T.obj _ _ w)) r5 (step x H5 y5)) (fun _ s6 ⟨F,H6,I6,q6⟩=>?_) (fun v s z=>(hx v s z).elim));refine aaa (aaH (hc _ s6 F H6 _ I6 q6) (fun ok s7 ⟨H7,I7,q7⟩=>?_) (fun v s z=>(hx v s z).elim));have on:∀ {pl:Zi} {s8:Z1} {A:St} {H8:Hp},Inv Y (pl++jq fp s5.heap) A H8 s8->Inv Y pl A H8 s8/\tn (i+1) s8.heap/\∀ b∈fp,H8 b=none:=fun G=>
   ⟨G.unpinned,T.keep _ _ _ w fun b f o e=>(G.pin (b,o) (aav _ (aav _ (j_ f e)))).1,fun b f=>by
    obtain ⟨o,e,d⟩:=T.obj _ _ w b f;exact (G.pin (b,o) (aav _ (aav _ (j_ f e)))).2.1⟩;cases ok with
  | false=>rw [aac aaz] at q7;obtain ⟨y,hm,w7⟩:=q7;exact aab ⟨rfl,y,hm,i+1,a,F,H7,(on I7).1,(on I7).2.1,(on I7).2.2,L,w7⟩
  | true=>rw [aad rfl] at q7;exact body i n a F H7 s5.heap s7 L za q7 (fun b f=>(T.obj _ _ w b f).imp fun _ z=>z.1) I7 _ _ _ fun s8 ⟨y,hm,a',A,H8,G,w8⟩=>aab ⟨rfl,y,hm,i+1,a',A,H8,(on G).1,(on G).2.1,(on G).2.2,w8⟩
theorem qZ {a:Z4} {w:Z5} {A:Z8} {R:Zj} {s:Z1} {c:Z9} {j:Nat} {e b:Z6} {env:Env} {g:Comprehension} (m:(clausesOf c)[j]?=some g) (n:(g.is_async != 0)=false)
 (l:codeAny (model a w) A (.compLoop c j e b env) R s) (h:wpAny (model a w) A (pyIter e) (fun d f=>codeAny (model a w) A (.compLoop c j d b env) R f) (notedBy (model a w) A env fun x f=>R (.error x) f) s)
 (hd:A.under (.compStart c j e b env)=A/\(model a w).den (.compStart c j e b env)=(compStart c j e b env).onRaise (fun x=>do noteFrame x env;standAt theWindowsPlace):=by exact ⟨rfl,rfl⟩):codeAny (model a w) A (.compStart c j e b env) R s:=by
 refine codeAny_of_tree ?_;rw [hd.1,hd.2];refine wpAny_notedAt ?_;unfold compStart;rw [m];simp only [Option.elim,n,abo,if_false];show wpAny _ _ (ask >>= _) _ _ s;refine aaa (wpAny_askSetting (wpAny_ite ?_));split
 ·first
   |exact aaa (aab (aab (abV rfl l)))
   |exact aab (abV rfl l)
 ·first
   |exact aaa (abl (aaa (aa2 (aaa (aaH h (fun d f i=>aab (abV rfl i)) fun _ _ x=>x)))))
   |(refine aaa (abl ?_);show wpAny _ _ (standAt g.iter.pos >>= _) _ _ s;exact aaa (aa2 (aaa (aaH h (fun d f i=>aab (abV rfl i)) fun _ _ x=>x))))
def Du (Y:Cx) (b:Zi) (a:Z0):Prop:=a≠Y.env.locals/\a∉Y.fs/\(a∈Y.ex∨Y.s₀.heap.objs.size≤a)/\(∀ x c,Y.env.cells.lookup x=some c->c≠a)/\∀ p∈Y.pn++b,p.1≠a
def W_ (Y:Cx) (c:Zi) (a b:Z0):Prop:=(∀ H:Hp,H b=none->ju Y c H b)/\b≠a
theorem Fl {Y:Cx} {ps:Zi} {a:Z0} {c:Ze} {k:Nat} {j:St} {H:Hp} {s:Z1} {y:Z6} {E:Zb} {Q:Zb} (A:c.length≤sizeLine) (d:Du Y ps a) (I:Inv Y ((a,gw c k)::ps) j H s)
 (h:∀ v l r,Inv Y ((a,gw (c++[y]) r)::ps) j H l->Q v l):wpAny (model Y.prog Y.w) Y.A (call (.builtin "list.append") [.ref a,y]) Q E s:=by
 obtain ⟨i,m,B,C,D⟩:=I.pin (a,gw c k) (aav _ aan);refine call_meets aa7 ⟨_,i,rfl⟩ PySem.F.entry_list_append (PySem.F.args_list_append_2 _ _) (PySem.list_append a c.toArray k y (by rw [aat];exact A)) ⟨i,?_⟩;have q:=PySem.IsL.update i (fun z=>z.push y);have w:Inv Y ps j H s:=I.pins_of fun p f=>I.pin p (aav _ (aag _ f));have g:=w.turned (t':=s.toks) (it:=a) (h':=s.heap.update a (Obj.mapSeq fun z=>z.push y)) (fun b o n e=>(abm s.heap _ (aaC n)).trans e) m d.1 d.2.2.1 d.2.2.2.1 d.2.2.2.2;have x:(c.toArray.push y)=(c++[y]).toArray:=by simp
 rw [x] at q;exact h _ _ _ (g.pins_of fun p f=>by
  rcases aaf.mp f with rfl|f
  ·exact ⟨q,m,d.1,d.2.1,fun v z=>by cases z⟩
  ·exact g.pin p (aav _ f))
theorem JB {Y:Cx} {ps:Zi} {f O:Z0} {fp:Zh} {tn:Nat->Heap->Prop} {J:It} {g:TG} {tt:TT} {P:TE} {F:List V->St->Hp->Prop} {c B S C:Z9} {j:Nat} {D:Zl} {R:Zj}
 (W:Nat->Nat->List V->St->Hp->Prop) (G:xP J g tt P F W) (T:Turn Y.prog Y.w Y.K S J fp O tn) (e:G7 c j (.ref O) (.ref f) Y.env S C D (fun k=>(do let _ ← call (.builtin "list.append") [.ref f,← eval B Y.env]) >>= fun _=>k))
 (hg:PG Y S g) (hc:nJ Y D tt) (he:PE Y B P) (n:Y.calm=true) (hx:∀ v s,¬ Y.xe v s) (o:∀ b∈fp,W_ Y ps f b) (d:Du Y ps f)
 (hR:∀ Z A H' ys us k,Inv Y ((f,gw us k)::ps) A H' Z->Vals ys us->F ys A H'->R (.ok .next) Z)
 {s:Z1} {l:St} {H:Hp} {m:Nat} {r:List V} {x:Ze} {k0:Nat} (U:Vals r x) (I:Inv Y ((f,gw x k0)::ps) l H s) (st:tn 0 s.heap) (fr:∀ b∈fp,H b=none) (w0:W 0 m r l H) :
 codeAny (model Y.prog Y.w) Y.A (.compLoop c j (.ref O) (.ref f) Y.env) R s:=by
 refine Ca (α:=List V×List Value×Nat) (fun a=>(f,gw a.2.1 a.2.2)::ps) e T hg hc n hx (fun a b X H hn=>?_) (fun i m a l H=>W i m a.1 l H) (fun i m a l H=>P l H fun y H4=>∃ M,M<m/\W (i+1) M (a.1++[y]) l H4)
  (fun a=>Vals a.1 a.2.1) (fun a=>a.1.length<sizeLine) (fun i m a l H L w=>?_) (fun i m a l H h s L hz q ho I k Q E z=>?_) (a:=(r,x,k0)) I st fr U w0
 ·obtain ⟨f0,f1,f2,f3,f4,f5⟩:=(o b X).1 H hn;refine ⟨f0,f1,f2,f3,f4,fun p N=>?_⟩;rcases aal.mp N with z|z
  ·exact f5 p (aaI _ z)
  ·rcases aaf.mp z with rfl|z
   ·exact aaC (o b X).2
   ·exact f5 p (aav _ z)
 ·exact (G i m a.1 l H w).imp (fun z=>⟨z.1,fun s I=>hR s l H _ _ _ I L z.2⟩) id
 ·refine aaa (aaa (aaH (he _ s l H _ I q) (fun y s8 ⟨yv,H8,I8,r8,M,hm,w8⟩=>?_) (fun v s z=>(hx v s z).elim)));refine aaa (Fl (ps:=ps++jq fp h) (by have:=L.length;omega) ⟨d.1,d.2.1,d.2.2.1,d.2.2.2.1,fun p N=>?_⟩ I8 fun v s9 k9 I9=>aab (z s9 ⟨M,hm,(a.1++[yv],a.2.1++[y],k9),l,H8,I9,L.append (.cons r8 .nil),w8⟩));rcases aal.mp N with z|z
  ·exact d.2.2.2.2 p (aaI _ z)
  ·rcases aal.mp z with z|z
   ·exact d.2.2.2.2 p (aav _ z)
   ·exact (o _ (nP z).1).2
def zG (X:Cx) (a:Za) (h:Zd) (fp:Zh) (q:Nat->Heap->Prop) (r:Z0) (c:Z9) (W:Nat->Nat->List V->St->Hp->Prop) (F:List V->Hp->Prop) (g:Zk) (d:Z1) (e:Hp):Prop:=
 ∀ (C f:Z0) (R:Zj),(∀ b∈fp,W_ (di X a h g C d e fp) [] f b)->Du (di X a h g C d e fp) [] f->
   (∀ j i l n o k,Inv (di X a h g C d e fp) [(f,gw o k)] i l j->Vals n o->F n l->R (.ok .next) j)->
   ∀ s p H m,Inv (di X a h g C d e fp) [(f,gw [] 0)] p H s->q 0 s.heap->(∀ b∈fp,H b=none)->W 0 m [] p H->
     codeAny (model X.prog X.w) X.A (.compLoop c 0 (.ref r) (.ref f) (compEnvC a g C X.env)) R s
theorem q_ {X:Cx} {scope:Za} {own:Zd} {js:List Nat} {N':Zd} {h1:Z7} {cW:Zi} {σ:St} {H:Hp} {s:Z1} {it:Z0} {fp:Zh} {tn:Nat->Heap->Prop} {J:It} {tg:Z9} {cl:Zk} {Q:Env->Shared->Prop} {E:Zb}
 (S:dq X scope own js N') (I:Inv X cW σ H s) (k:∀ b o,s.heap.get? b=some o->h1.get? b=some o) (le:s.heap.objs.size≤h1.objs.size)
 (hc1:∀ x c,cl.lookup x=some c->X.env.cells.lookup x=some c) (hc2:∀ x,(x,NameKind.free)∈scope.names->∃ c,cl.lookup x=some c) (T:Turn X.prog X.w X.K tg J fp it tn) (st:tn 0 s.heap) (hf:∀ b∈fp,ju X cW H b)
 (h:∀ e s',{ e with scope:=relabel scope X.env }=compEnvC scope cl h1.objs.size X.env->e.locals=h1.objs.size->(∀ b o,h1.get? b=some o->s'.heap.get? b=some o)->Inv (di X scope N' cl h1.objs.size s H fp) [] (j7 own.length js σ) H s'->tn 0 s'.heap-> (∀ b∈fp,b<s.heap.objs.size/\∀ H':Hp,H' b=none->ju (di X scope N' cl h1.objs.size s H fp) [] H' b)->Q e s') :
 wpAny (model X.prog X.w) X.A (newFunctionEnv scope X.env.globals cl [] X.env.qual none .none (some X.env)) Q E { s with heap:=h1 }:=by
 refine wpAny_newFunctionEnv S.nocell (by intro y hy;simp at hy) (fun h₂ hns hsb=>?_) S.kind;dsimp only at hns hsb ⊢;have ne:∀ b o,h1.get? b=some o->b≠h1.objs.size:=fun b o e=>aap (aam e);have up:∀ b o,h1.get? b=some o->h₂.get? b=some o:=fun b o e=>hsb.extBut b o (ne b o e) (aak _ e);have lt:∀ b∈fp,b<s.heap.objs.size:=fun b hb=>let ⟨o,e,_⟩:=T.obj _ _ st b hb;aam e
 refine h _ _ rfl rfl up (Inv.comp S I hc1 hc2 le hns (fun b o e=>up b o (k b o e)) (fun b hb=>⟨hf b hb,lt b hb⟩) (I.hok.fresh le) fun b o e=>ne b o (k b o e)) (T.keep _ _ _ st fun b hb o e=>up b o (k b o e)) fun b hb=>⟨lt b hb,fun H' hn=>?_⟩;obtain ⟨_,_,f2,f3,f4,_⟩:=hf b hb;refine ⟨hn,aap (aas (lt b hb) le),fun z=>?_,.inl hb,fun x c e=>f4 x c (hc1 x c e),fun p hp=>absurd (show p∈([]:Zi) from hp) (by simp)⟩;rcases aaf.mp (I.stkSub b z) with q|q
 ·exact (hf b hb).2.1 q
 ·exact f2 q
def SN (e:TI) (g:TG) (f:TT) (h:TE) (k:Nat) (i:List Nat):TE:=fun a H Q=>e a H fun J d=>∃ W:Nat->Nat->List V->St->Hp->Prop,(∃ m,W 0 m [] (j7 k i a) d)/\
 lY J g f h (fun b c=>b.length≤sizeLine/\∀ p,c p=none->Q (.ref p) (upd c p (.lst b))) W
section
variable {X:Cx} {scope:Za} {own:Zd} {js:List Nat} {N':Zd} {wi:TI} {g:TG} {tt:TT} {te:TE} {elt tg iter:Z9} {ifs:Zl} {rest:List Comprehension} {pos:Pos}
theorem Bf {l:Z0} {fp:Zh} {n:Nat->Heap->Prop} {J:It} {F:List V->Hp->Prop} {W:Nat->Nat->List V->St->Hp->Prop} {e:Zk} {c:Z1} {d:Hp} (f:X.calm=true) (x:∀ e C a b j,PG (di X scope N' e C a b j) tg g) (y:∀ e C a b j,nJ (di X scope N' e C a b j) ifs tt) (A:∀ C,PE (di X scope N' e C c d fp) elt te)
 (T:Turn X.prog X.w X.K tg J fp l n) (h:lY J g tt te F W):zG X scope N' fp n l (.ListComp elt [⟨tg,iter,ifs,0⟩] scope pos) W F e c d:=fun C o R i p q s B H m I r fr v=>
 JB (Y:=di X scope N' e C c d fp) (F:=fun w _ H=>F w H) W h T ⟨fun _=>rfl,fun _ _=>rfl⟩ (x _ _ _ _ _) (y _ _ _ _ _) (A _) f (fun _ _ z=>z) i p q .nil I r fr v
theorem Dg {cW:Zi} {σ:St} {H:Hp} {s:Z1} {it:Z0} {fp:Zh} {tn:Nat->Heap->Prop} {J:It} {cl:Zk} {F:List V->Hp->Prop} {E:Zb} {RR:Value->Addr->Result->Shared->Prop} {W:Nat->Nat->List V->St->Hp->Prop} {m0:Nat}
 (S:dq X scope own js N') (hc1:∀ x c,cl.lookup x=some c->X.env.cells.lookup x=some c) (hc2:∀ x,(x,NameKind.free)∈scope.names->∃ c,cl.lookup x=some c)
 (I:Inv X cW σ H s) (T:Turn X.prog X.w X.K tg J fp it tn) (st:tn 0 s.heap) (hf:∀ b∈fp,ju X cW H b) (L:zG X scope N' fp tn it (.ListComp elt (⟨tg,iter,ifs,0⟩::rest) scope pos) W F cl s H) (w0:W 0 m0 [] (j7 own.length js σ) H)
 (hF:∀ ys H',F ys H'->ys.length≤sizeLine)
 (fin:∀ acc C H' ys s' m,Inv X cW σ (upd H' acc (.lst ys)) s'->H' acc=none->s'.heap.Ns C m->(upd H' acc (.lst ys)) C=none->C≠X.env.locals->X.s₀.heap.objs.size≤C->(∀ x c,X.env.cells.lookup x=some c->c≠C)->(∀ p∈X.pn++cW,p.1≠C)->F ys H'->RR (.ref acc) C (.ok .next) s') :
 wpAny (model X.prog X.w) X.A (newList []) (fun acc s₃=>wpAny (model X.prog X.w) X.A (newFunctionEnv scope X.env.globals cl [] X.env.qual none .none (some X.env)) (fun cenv s₄=> codeAny (model X.prog X.w) X.A (.compStart (.ListComp elt (⟨tg,iter,ifs,0⟩::rest) scope pos) 0 (.ref it) acc { cenv with scope:=relabel scope X.env }) (RR acc cenv.locals) s₄) E s₃) E s:=by
 refine aaU ?_;have sz:(s.heap.push (gw [] 0)).objs.size=s.heap.objs.size+1:=aaV ..;refine q_ (h1:=s.heap.push (gw [] 0)) S I (fun _ _ e=>aak _ e) (by rw [sz];exact aba _) hc1 hc2 T st hf fun e s₄ e1 e2 up I1 st1 fs=>?_;rw [e1,e2];obtain ⟨_,c1,_,_,c4,c5⟩:=I.fpOk (H':=H) (b:=(s.heap.push (gw [] 0)).objs.size) (by rw [sz];exact aba _) (I.hok.fresh (by rw [sz];exact aba _));obtain ⟨a0,a1,a2,_,a4,_⟩:=I.fpOk (H':=H) (aae _) (I.hok.fresh (aae _));have aC:s.heap.objs.size≠(s.heap.push (gw [] 0)).objs.size:=by rw [sz];exact aap (acj _)
 have hacc:s₄.heap.get? s.heap.objs.size=some (gw [] 0):=up _ _ (aay _ rfl);have stk:s.heap.objs.size∉frs X.stack:=fun b=>by obtain ⟨_,o,ho,_⟩:=I.stack.mem b;exact absurd (aam ho) (aaP _)
 have oldLt:∀ b o,s.heap.get? b=some o->b≠s.heap.objs.size:=fun b o e=>aap (aam e);have cC:X.s₀.heap.objs.size≤(s.heap.push (gw [] 0)).objs.size:=aaj I.sz (by rw [sz];exact aba _);generalize hCn:(s.heap.push (gw [] 0)).objs.size=C at *;generalize hAn:s.heap.objs.size=acc at *;have I2:Inv (di X scope N' cl C s H fp) [(acc,gw [] 0)] (j7 own.length js σ) H s₄:=I1.pins_of fun p hp=>by
  obtain rfl:p=(acc,gw [] 0):=by simpa using hp
  exact ⟨hacc,a0,aC,stk,fun v z=>by cases z⟩
 have loop:codeAny (model X.prog X.w) X.A (.compLoop (.ListComp elt (⟨tg,iter,ifs,0⟩::rest) scope pos) 0 (.ref it) (.ref acc) (compEnvC scope cl C X.env)) (RR (.ref acc) C) s₄:=by
  refine L C acc _ (fun b hb=>⟨(fs b hb).2,aap (fs b hb).1⟩) ⟨aC,stk,.inr (by show s.heap.objs.size≤acc;rw [hAn];exact aae _),fun x c e=>a4 x c (hc1 x c e),fun p hp=>absurd (show p∈([]:Zi) from hp) (by simp)⟩ (fun s' σ' H' ys us k J' rv q=>?_) _ _ _ _ I2 st1 (fun b hb=>(hf b hb).1) w0;obtain ⟨e',n',_⟩:=J'.pin (acc,gw us k) (aav _ aan);have n'':H' acc=none:=n';obtain ⟨m,hm,_⟩:=J'.loc;have un:Un (frs X.stack) fp H (upd H' acc (.lst ys)) s.heap s'.heap:=⟨J'.base.keep,J'.base.slot,fun b o e n hx=>by rw [b7 (oldLt b o e)];exact J'.base.free b o e n hx,J'.base.there,
   fun b xs e=>by have z:=J'.base.tups b xs e;rw [b7 (cg z n'')];exact z,
   fun b o u e=>by have z:=J'.base.frzs b o u e;rw [b7 (cg z n'')];exact z,
   fun b ps e=>by
    obtain ⟨more,z⟩:=J'.base.tbls b ps e;exact ⟨more,by rw [b7 (cg z n'')];exact z⟩⟩;have hok:kO X.prog X.w (upd H' acc (.lst ys)) s'.heap:=fun b u e=>by
   by_cases hb:b=acc
   ·subst hb;rw [a_] at e;cases e;exact ⟨hF _ _ q,us,k,rv,e'⟩
   ·rw [b7 hb] at e;exact (J'.hok b u e).stay (fun c v _ z=>z) (fun c z=>by rw [b7 (cg z n'')];exact z) fun c xs z=>by rw [b7 (cg z n'')];exact z
  exact fin acc C H' ys s' m (I.call' J'.os un hok J'.bare fun b hb=>⟨(hf b hb).2.2.2.1,(hf b hb).2.1,(hf b hb).2.2.2.2.1,(hf b hb).2.2.2.2.2⟩) n'' hm (by rw [b7 (aaC aC)];exact J'.free) c1 cC c4 c5 q
 exact codeAny_compStart_list loop (T.self _ 0 _ _ _ st1 loop)
def Nt (e:TI) (f:St->It->(List V->Hp->Prop)->(Nat->Nat->List V->St->Hp->Prop)->Prop) (k:Nat) (h:List Nat):TE:=fun a H Q=>e a H fun J d=>∃ W:Nat->Nat->List V->St->Hp->Prop,(∃ m,W 0 m [] (j7 k h a) d)/\
 f a J (fun b c=>b.length≤sizeLine/\∀ p,c p=none->Q (.ref p) (upd c p (.lst b))) W
theorem ww (S:dq X scope own js N') (hi:PI X tg iter wi) (A:∀ {i fp l J F W a d E s H},Inv X a d H s->(∀ b∈fp,ju X a H b)->Turn X.prog X.w X.K tg J fp i l->CT d J F W->zG X scope N' fp l i (.ListComp elt (⟨tg,iter,ifs,0⟩::rest) scope pos) W F E s H)
 (hs:∀ x,foldedSetIterable iter X.env x=pure x:=by intro _;rfl):PE X (.ListComp elt (⟨tg,iter,ifs,0⟩::rest) scope pos) (Nt wi CT own.length js):=by
 intro a s d H Q I h;obtain ⟨E,n,p,r⟩:=qd (env:=X.env) scope fun y M hk=>I.ok.has y.1 (S.free y M hk);rw [eval_ListComp];refine wpAny_comprehension_free (use:=none) rfl hs n S.kind S.names (eG (hi a s d H _ I h) fun v s1 N=>eG N fun O s2 P=>?_);obtain ⟨i,fp,l,J,H2,e,G,T,w,L,W,⟨m0,Z⟩,f⟩:=P;subst e;refine Dg (RR:=fun c C=>compPost (model X.prog X.w) X.A X.xe none (EP X a d Q) c C) S p r G T w L (A G L T f) Z (fun R U q=>q.1) ?_;intro c C U R s' m IX na hm z A hz B D q;refine ⟨m,hm,fun h' j=>⟨.ref c,_,?_,rfl,q.2 c na⟩⟩;exact IX.turned (t':=s'.toks) (it:=C) (fun b o Y e=>(j.2 b Y).trans e) z A (.inr hz) B D
theorem iH (S:dq X scope own js N') (c:X.calm=true) (h:PI X tg iter wi) (i:∀ e C a b f,PG (di X scope N' e C a b f) tg g) (j:∀ e C a b f,nJ (di X scope N' e C a b f) ifs tt)
 (l:∀ e C a b f,PE (di X scope N' e C a b f) elt te) (m:∀ x,foldedSetIterable iter X.env x=pure x:=by intro _;rfl):PE X (.ListComp elt [⟨tg,iter,ifs,0⟩] scope pos) (SN wi g tt te own.length js):=
 ww (CT:=fun _ J F W=>lY J g tt te F W) S h (fun _ _ T d=>Bf c i j (fun _=>l _ _ _ _ _) T d) m
end
section
variable {X:Cx}
def Sq (i j:Int):Prop:=0<j/\j<340282366920938463463374607431768211456
theorem uW:mD X (binaryOp .FloorDiv) (rI Sq fun i j=>.int (i / j)):=QH fun i j _ _ _ _ _ a q=>by
 rw [← ac7 i (Int.le_of_lt a.1)] at q;have d:(0:Int)<j:=a.1;have e:j<340282366920938463463374607431768211456:=a.2;have b:j.natAbs<340282366920938463463374607431768211456:=by omega
 have c:(2:Nat) ^ 128=340282366920938463463374607431768211456:=by ext
 have f:j.natAbs.log2<128:=(Nat.log2_lt (by omega)).mpr (Nat.lt_of_lt_of_eq b c.symm);exact floordiv_int (by have:=a.1;omega) q (.inl (PyProof.noPylong_of_log2 (by omega)))
theorem mC {w:Int} {n:Nat} {g:TG} {z:TE} {F:List V->Hp->Prop} {o:St} {A:Hp} (j:Nat->List V->St->Hp->Prop) (I:n≤sizeLine) (D:j 0 [] o A)
 (E:∀ i b d H,i<n->b.length=i->j i b d H->∀ N:List V->St->Hp->Prop,(∀ a c h,a.length=i+1->j (i+1) a c h->N a c h)->g (.int (w+i)) d H fun l B=>z l B fun y C=>N (b++[y]) l C)
 (hd:∀ b d H,b.length=n->j n b d H->F b H) :
 ∃ W:Nat->Nat->List V->St->Hp->Prop,(∃ m,W 0 m [] o A)/\lY (KR w n) g nM z F W:=by
 refine ⟨fun i m b d H=>m=n-i/\i≤n/\b.length=i/\j i b d H,⟨n,by simp,aaA _,rfl,D⟩,?_⟩;rintro i m b d H ⟨rfl,G,v,p⟩;by_cases f:i<n
 ·refine .inr ⟨f,by omega,fun x h y=>?_⟩;obtain ⟨e,y⟩:=y;subst e y;exact E i b d _ f v p (fun a c h=>∃ s,s<n-i/\s=n-(i+1)/\i+1≤n/\a.length=i+1/\j (i+1) a c h) fun a c h r q=>⟨n-(i+1),by omega,rfl,f,r,q⟩
 ·have e:i=n:=by omega
  subst e;exact .inl ⟨aae _,hd b d H v p⟩
theorem lO {K:Z2} {a:Z0} {xs:List V} {g:TG} {w:TE} {F:List V->Hp->Prop} {o:St} {z:Hp} (h:Nat->List V->St->Hp->Prop) (I:xs.length≤sizeLine) (D:h 0 [] o z) (E:∀ i b d H,i≤xs.length->h i b d H->dR K H a xs)
 (G:∀ i x b d H,xs[i]?=some x->b.length=i->h i b d H->∀ N:List V->St->Hp->Prop,(∀ c f j,c.length=i+1->h (i+1) c f j->N c f j)->g x d H fun l A=>w l A fun y B=>N (b++[y]) l B)
 (hd:∀ b d H,b.length=xs.length->h xs.length b d H->F b H) :
 ∃ W:Nat->Nat->List V->St->Hp->Prop,(∃ m,W 0 m [] o z)/\lY (Kf K a) g nM w F W:=by
 refine ⟨fun i m b d H=>m=xs.length-i/\i≤xs.length/\b.length=i/\h i b d H,⟨xs.length,by simp,aaA _,rfl,D⟩,?_⟩;rintro i m b d H ⟨rfl,C,v,p⟩;have q:=E i b d H C p;by_cases n:i<xs.length
 ·refine .inr ⟨⟨xs,xs[i],q,by simp [n]⟩,by omega,fun x j y=>?_⟩;obtain ⟨e,y⟩:=y;subst e;exact G i x b d _ (y xs q) v p (fun c f j=>∃ s,s<xs.length-i/\s=xs.length-(i+1)/\i+1≤xs.length/\c.length=i+1/\h (i+1) c f j) fun c f j r q=>⟨xs.length-(i+1),by omega,rfl,n,r,q⟩
 ·have e:i=xs.length:=by omega
  subst e;exact .inl ⟨⟨xs,q,aae _⟩,hd b d H v p⟩
theorem pO {K:Z2} {a:Z0} {xs:List V} {g:TG} {w:TE} {F:List V->Hp->Prop} {o:St} {z:Hp} (h:Nat->List V->St->Hp->Prop) (I:xs.length≤sizeLine) (D:h 0 [] o z) (E:∀ i b d H,i≤xs.length->h i b d H->eE K H a xs)
 (G:∀ i x b d H,xs[i]?=some x->b.length=i->h i b d H->∀ N:List V->St->Hp->Prop,(∀ c f j,c.length=i+1->h (i+1) c f j->N c f j)->g x d H fun l A=>w l A fun y B=>N (b++[y]) l B)
 (hd:∀ b d H,b.length=xs.length->h xs.length b d H->F b H) :
 ∃ W:Nat->Nat->List V->St->Hp->Prop,(∃ m,W 0 m [] o z)/\lY (Ng K a) g nM w F W:=by
 refine ⟨fun i m b d H=>m=xs.length-i/\i≤xs.length/\b.length=i/\h i b d H,⟨xs.length,by simp,aaA _,rfl,D⟩,?_⟩;rintro i m b d H ⟨rfl,C,v,p⟩;have q:=E i b d H C p;by_cases n:i<xs.length
 ·refine .inr ⟨⟨xs,xs[i],q,by simp [n]⟩,by omega,fun x j y=>?_⟩;obtain ⟨e,y⟩:=y;subst e;exact G i x b d _ (y xs q) v p (fun c f j=>∃ s,s<xs.length-i/\s=xs.length-(i+1)/\i+1≤xs.length/\c.length=i+1/\h (i+1) c f j) fun c f j r q=>⟨xs.length-(i+1),by omega,rfl,n,r,q⟩
 ·have e:i=xs.length:=by omega
  subst e;exact .inl ⟨⟨xs,q,aae _⟩,hd b d H v p⟩
structure gK (K:Z2) (mg:Zc) (x:Str) (st:Stmt) (ps:Zd) (f:Z0) (fd:Z3):Prop where
 F:gj K x x st f fd
 mg:mg x=some (.ref f)
 b:Binds K fd ps []
def iU (p:Z0) (H a:Hp):Prop:=∀ b o,H b=some o->b≠p->a b=some o
theorem iU.refl:iU p H H:=fun _ _ h _=>h
theorem iU.trans (a:iU p H e) (b:iU p e f):iU p H f:=fun c o h d=>b c o (a c o h d) d
theorem iU.upd:iU p H (upd H p o):=fun b u h a=>by rw [b7 a];exact h
theorem iU.new (h:H q=none):iU p H (L2.upd H q o):=fun b u e _=>by rw [b7 (cg e h)];exact e
end
theorem nQ (M:St->Hp->Prop) (d:∀ a b,M a b->u D a b) (e:∀ N:St->Hp->Prop,(∀ a b,M a b->N a b)->t { D with nx:=N } c H):Ob t u D c H:=e (u D) d
theorem cj.new (h:H q=none):cj H (upd H q o):=fun b u e=>by rw [b7 (cg e h)];exact e
theorem cj.tup {K:Z2} {H b:Hp} {a:Z0} {c:List V} (e:cj H b) (h:eE K H a c):eE K b a c:=by
 rcases h with (h|⟨o,h⟩)|h
 ·exact .inl (.inl (e _ _ h))
 ·exact .inl (.inr ⟨o,e _ _ h⟩)
 ·exact .inr h
theorem gF:bootBuiltins "len" = some (.builtin "len"):=by ext
theorem ue:bootBuiltins "list" = some (.type "list"):=by ext
theorem jx:bootBuiltins "tuple" = some (.type "tuple"):=by ext
theorem yp:bootBuiltins "str" = some (.type "str"):=by ext
theorem nH:bootBuiltins "int" = some (.type "int"):=by ext
theorem pA:bootBuiltins "bool" = some (.type "bool"):=by ext
theorem Nk:bootBuiltins "all" = some (.builtin "all"):=by ext
theorem dU:bootBuiltins "isinstance" = some (.builtin "isinstance"):=by ext
open PySem.SeqAt
mutual
inductive Rep (K:Z2) (H:Hp):V->PyData->Prop
 |non:Rep K H .non .none
 |bl (b:Bool):Rep K H (.bl b) (.bool b)
 |int (i:Int):Rep K H (.int i) (.int i)
 |str (x:Str):Rep K H (.str x) (.str x)
 |tup {a:Z0} {xs:List V} {ds:List PyData}:eE K H a xs->jL K H xs ds->Rep K H (.ref a) (.tuple ds)
 |lst {a:Z0} {xs:List V} {ds:List PyData}:dR K H a xs->jL K H xs ds->Rep K H (.ref a) (.list ds)
inductive jL (K:Z2) (H:Hp):List V->List PyData->Prop
 |nil:jL K H [] []
 |cons {x:V} {d:PyData} {xs:List V} {ds:List PyData}:Rep K H x d->jL K H xs ds->jL K H (x::xs) (d::ds)
end
section
variable {K:Z2} {H H':Hp}
theorem jL.length:∀ {xs:List V} {a:List PyData},jL K H xs a->xs.length=a.length
 |_,_,.nil=>rfl
 |_,_,.cons _ t=>by rw [aaw,aaw,jL.length t]
mutual
theorem Rep.map (e:∀ a c,eE K H a c->eE K H' a c) (f:∀ a c,dR K H a c->dR K H' a c):∀ {v:V} {d:PyData},Rep K H v d->Rep K H' v d
 |_,_,.non=>.non
 |_,_,.bl b=>.bl b
 |_,_,.int i=>.int i
 |_,_,.str x=>.str x
 |_,_,.tup h r=>.tup (e _ _ h) (jL.map e f r)
 |_,_,.lst h r=>.lst (f _ _ h) (jL.map e f r)
theorem jL.map (c:∀ a b,eE K H a b->eE K H' a b) (e:∀ a b,dR K H a b->dR K H' a b):∀ {v:List V} {d:List PyData},jL K H v d->jL K H' v d
 |_,_,.nil=>.nil
 |_,_,.cons h r=>.cons (Rep.map c e h) (jL.map c e r)
end
theorem Rep.same (h:Rep K H v d) (e:cj H H'):Rep K H' v d:=h.map (fun _ _ z=>e.tup z) (fun _ _ z=>e.seq z)
theorem iU.seq (e:iU p H H') (c:H p=some (.dK b)) (h:dR K H a xs):dR K H' a xs:=by
 rcases h with (h|⟨o,h⟩)|h
 ·exact .inl (.inl (e _ _ h (iu h c (by intro z;cases z))))
 ·exact .inl (.inr ⟨o,e _ _ h (iu h c (by intro z;cases z))⟩)
 ·exact .inr h
theorem jL.get':∀ {a:List V} {b:List PyData} {i:Nat} {x:V},jL K H a b->a[i]?=some x->∃ d,b[i]?=some d/\Rep K H x d
 |_,_,_,_,.nil,e=>by simp at e
 |_,_,0,_,.cons r _,e=>by simp at e;subst e;exact ⟨_,rfl,r⟩
 | _,_,i+1,d,.cons _ t,e=>by obtain ⟨u,c,f⟩:=jL.get' (i:=i) (x:=d) t (by simpa using e);exact ⟨u,by simpa using c,f⟩
end
mutual
noncomputable def pH:PyData->Nat
 |.tuple a=>o6 a+1
 |.list a=>o6 a+1
 |_=>0
noncomputable def o6:List PyData->Nat
 |[]=>0
 |d::r=>max (pH d) (o6 r)
end
theorem pY:∀ {a:List PyData},e∈a->pH e≤o6 a
 |_::_,.head _=>by simp only [o6];omega
 |_::r,.tail _ h=>by have:=pY h;simp only [o6];omega
def TX:PyData->String
 |.none=>"NoneType"
 |.bool _=>"bool"
 |.int _=>"int"
 |.str _=>"str"
 |.list _=>"list"
 |.tuple _=>"tuple"
 |.dict _=>"dict"
theorem isD (I:Inv X f m H s) (r:Rep X.K H v d) (a:RelV v u)
 (e:PySem.W.kitOne X.K (.type (TX d)) c=some b) (h:∀ tk,Q (.bool b) { s with toks:=tk }):wpAny (model X.prog X.w) A (call (.builtin "isinstance") [u,c]) Q E s:=by
 cases r with
 |non=>cases (show u=Value.none from a);exact abF PySem.W.kitx_none I.kIn aaJ e (fun z=>nomatch z) h
 |bl y=>cases (show u=Value.bool y from a);exact abF PySem.W.kitx_bool I.kIn aaJ e (fun z=>nomatch z) h
 |int i=>obtain ⟨t,q⟩:=(show ∃ t,u=Value.int i t from a);cases q;exact abF PySem.W.kitx_int I.kIn aaJ e (fun z=>nomatch z) h
 |str y=>obtain ⟨t,q⟩:=(show ∃ t,u=Value.str y t from a);cases q;exact abF PySem.W.kitx_str I.kIn aaJ e (fun z=>nomatch z) h
 | tup g _=>cases (show u=Value.ref _ from a);obtain ⟨_,_,⟨o,j,l,_⟩,_⟩:=I.tuple g;exact abF PySem.W.kitx_tuple I.kIn ⟨o,j,l⟩ e (fun z=>nomatch z) h
 | lst g _=>cases (show u=Value.ref _ from a);obtain ⟨_,_,⟨o,n,j,l,_⟩,_⟩:=I.list g;exact abF PySem.W.kitx_list I.kIn ⟨o,j,l⟩ e (fun z=>nomatch z) h
theorem VL (I:Inv X f p H s) (r:Rep X.K H v d) (c:RelV v u)
 (a:s.heap.get? tp=some ⟨.type "tuple",dd,.seq j.toArray n,w⟩) (e:PySem.W.kitAny X.K (.type (TX d)) j=some b) (h:∀ tk,Q (.bool b) { s with toks:=tk }):wpAny (model X.prog X.w) A (call (.builtin "isinstance") [u,.ref tp]) Q E s:=by
 cases r with
 |non=>cases (show u=Value.none from c);exact abG PySem.W.kitx_none I.kIn aaJ a e (fun z=>nomatch z) h
 |bl y=>cases (show u=Value.bool y from c);exact abG PySem.W.kitx_bool I.kIn aaJ a e (fun z=>nomatch z) h
 |int i=>obtain ⟨t,q⟩:=(show ∃ t,u=Value.int i t from c);cases q;exact abG PySem.W.kitx_int I.kIn aaJ a e (fun z=>nomatch z) h
 |str y=>obtain ⟨t,q⟩:=(show ∃ t,u=Value.str y t from c);cases q;exact abG PySem.W.kitx_str I.kIn aaJ a e (fun z=>nomatch z) h
 | tup g _=>cases (show u=Value.ref _ from c);obtain ⟨_,_,⟨o,l,m,_⟩,_⟩:=I.tuple g;exact abG PySem.W.kitx_tuple I.kIn ⟨o,l,m⟩ a e (fun z=>nomatch z) h
 | lst g _=>cases (show u=Value.ref _ from c);obtain ⟨_,_,⟨o,n,l,m,_⟩,_⟩:=I.list g;exact abG PySem.W.kitx_list I.kIn ⟨o,l,m⟩ a e (fun z=>nomatch z) h
def Vu (K:Z2):List V->Hp->VK->Prop:=fun a H Q=>∃ x n d b,a=[x,.ty n]/\Rep K H x d/\PySem.W.kitOne K (.type (TX d)) (.type n)=some b/\Q (.bl b) H
theorem iD:ji X (.builtin "isinstance") (Vu X.K):=by
 intro a s f H g i Q I r h;obtain ⟨x,n,d,b,rfl,c,e,q⟩:=h;cases r with
 | cons r1 r=>
   cases r with
   | cons r2 r=>cases r;cases (show _=Value.type n from r2);exact isD I c r1 e fun tk=>⟨.bl b,H,I.tok tk,rfl,q⟩
def RX (K:Z2):List V->Hp->VK->Prop:=fun c H Q=>∃ x a n m d b,c=[x,.ref a]/\H a=some (.tup [.ty n,.ty m])/\Rep K H x d/\PySem.W.kitAny K (.type (TX d)) [.type n,.type m]=some b/\Q (.bl b) H
theorem rG:ji X (.builtin "isinstance") (RX X.K):=by
 intro j s C H D E Q I r h;obtain ⟨x,a,n,m,d,b,rfl,l,p,e,q⟩:=h;cases r with
 | cons r1 r=>
   cases r with
   | cons r2 r=>
     cases r;cases (show _=Value.ref a from r2);obtain ⟨z,v,c,o,w,f,k,g⟩:=(show eU X.prog X.w H s.heap a (.tup [.ty n,.ty m]) from I.hok a _ l);obtain ⟨cls,dd,i,B⟩:=o;simp only at f g;subst f g;cases c with
     | cons y c=>
       cases c with
       | cons A c=>cases c;cases (show _=Value.type n from y);cases (show _=Value.type m from A);exact VL I p r1 w e fun tk=>⟨.bl b,H,I.tok tk,rfl,q⟩
theorem Cu:∀ {bs:List Bool},a=bs.map V.bl->Vals a c->c=bs.map Value.bool:=by
 intro bs e r;induction bs generalizing a c with
 |nil=>subst e;cases r;rfl
 | cons b t d=>
   subst e;cases r with
   |cons r1 r=>rw [aaE,d rfl r,(show _=Value.bool b from r1)]
theorem range_all (bs:List Bool):(List.range bs.length).all (fun i=>bs.getD i false)=bs.all id:=by
 induction bs with
 |nil=>rfl
 |cons b t a=>rw [aaw,List.range_succ_eq_map,acn,List.all_map,acn,← a];rfl
theorem vR {bs:List Bool}:TruthOf P w A (fun i v=>((bs.map Value.bool).toArray)[i]?=some v) fun i=>bs.getD i false:=fun i v s Q E a c=>by
 dsimp only at a c;rw [List.getElem?_toArray,aau] at a;cases e:bs[i]? with
 |none=>rw [e] at a;cases a
 | some b=>rw [e] at a;cases a;rw [ada,e] at c;exact aab c
def Rj (K:Z2) (f:List Bool->Bool):List V->Hp->VK->Prop:=fun b H Q=>∃ a bs,b=[.ref a]/\dR K H a (bs.map V.bl)/\Q (.bl (f bs)) H
theorem Bl {X:Cx} (m:X.calm=true):ji X (.builtin "all") (Rj X.K fun bs=>bs.all id):=by
 intro f s x H y z Q I r h;obtain ⟨a,bs,rfl,g,q⟩:=h;cases r with
 | cons r1 r=>
   cases r;cases (show _=Value.ref a from r1);obtain ⟨i,j,p,w⟩:=I.list g;have e:=Cu rfl j;subst e;refine PySem.call_all_walk (wpAny_pyIter_list p.isList ?_);have c:a≠s.heap.objs.size:=(by obtain ⟨o,d,_⟩:=p.isList;exact aap (aam d));refine ⟨s.heap.objs.size,_,_,_,_,_,_,rfl,Walks.list (A:=X.A.in1) (I.ok.hd m) s.heap.objs.size a c (bs.map Value.bool).toArray,⟨⟨_,aay _ rfl,rfl,rfl⟩,?_⟩,vR,fun v tk hk=>?_⟩
   ·obtain ⟨o,d,l,n,hd⟩:=p.isList;exact ⟨o,aak _ d,l,n,hd⟩
   ·rw [aat,aah,range_all];exact ⟨.bl _,H,I.kept fun b o e=>hk b o (by simp;exact aap (aam e)) (aak _ e),rfl,q⟩
theorem Im:∀ {a:Zd},Vals (a.map V.str) b->StrsAre b a:=by
 intro a;induction a generalizing b with
 |nil=>intro r;cases r;exact .nil
 | cons y t c=>
   intro r;cases r with
   | cons r1 r=>obtain ⟨tk,e⟩:=(show ∃ t,_=Value.str y t from r1);subst e;exact .cons _ _ (c r)
def rJoin (K:Z2):V->List V->Hp->VK->Prop:=fun x vs H Q=>∃ z a b,x=.str z/\vs=[.ref a]/\dR K H a (b.map V.str)/\(b.map (·.length)).sum+b.length*z.length≤16777216/\Q (.str (Txt.join z b)) H
theorem yK:Jp X "str.join" (rJoin X.K):=by
 intro b s o H x vs v w Q I j l h;obtain ⟨z,a,m,rfl,rfl,d,f,q⟩:=h;obtain ⟨t,e⟩:=(show ∃ t,v=Value.str z t from j);subst e;cases l with
 | cons r1 r=>cases r;cases (show _=Value.ref a from r1);obtain ⟨g,i,p,n⟩:=I.list d;exact join_list p.isList (by simpa using Im i) f fun c k=>⟨.str _,H,I.tok k,⟨c,rfl⟩,q⟩
def Vr (f:Str->Bool):V->List V->Hp->VK->Prop:=fun x vs H Q=>∃ z,x=.str z/\vs=[]/\Q (.bl (f z)) H
theorem yt:Jp X "str.isascii" (Vr fun x=>x.cps.all (·<128)):=by intro a s d H x vs v f Q I b c h;obtain ⟨z,rfl,rfl,q⟩:=h;obtain ⟨t,e⟩:=(show ∃ t,v=Value.str z t from b);subst e;cases c;exact call_gives PySem.F.slot_str_isascii (typeIs_str _ _ _) PySem.F.entry_str_isascii (PySem.F.args_str_isascii_1 _) (gives_str_isascii z t) ⟨.bl _,H,I,rfl,q⟩
theorem wU:Jp X "str.isalpha" (Vr fun x=>x.length > 0 && x.cps.all Unicode.isAlpha):=by intro a s d H x vs v f Q I b c h;obtain ⟨z,rfl,rfl,q⟩:=h;obtain ⟨t,e⟩:=(show ∃ t,v=Value.str z t from b);subst e;cases c;exact call_gives PySem.F.slot_str_isalpha (typeIs_str _ _ _) PySem.F.entry_str_isalpha (PySem.F.args_str_isalpha_1 _) (gives_str_isalpha z t) ⟨.bl _,H,I,rfl,q⟩
theorem xF:Jp X "str.islower" (Vr fun x=>x.cps.any Unicode.isLower && !x.cps.any fun c=>Unicode.isUpper c || Unicode.isTitle c):=by intro a s f H x vs v g Q I b d h;obtain ⟨z,rfl,rfl,q⟩:=h;obtain ⟨t,e⟩:=(show ∃ t,v=Value.str z t from b);subst e;cases d;exact call_gives PySem.F.slot_str_islower (typeIs_str _ _ _) PySem.F.entry_str_islower (PySem.F.args_str_islower_1 _) (gives_str_islower z t) ⟨.bl _,H,I,rfl,q⟩
structure Sw (osc:Za) (N:Zd) (scope:Za) (own:Zd) (js:List Nat) (N':Zd):Prop where
 kind:scope.kind=.function
 nocell:∀ y∈scope.names,y.2≠.cell
 names:∀ y∈scope.names,y.2=.local->scope.names.lookup y.1=some .local
 free:∀ y∈scope.names,y.2=.free->osc.names.lookup y.1=some .cell∨osc.names.lookup y.1=some .free
 nm:N'=own++js.map fun j=>N.getD j Str.empty
 fr:∀ j∈js,j<N.length/\(N.getD j Str.empty,NameKind.free)∈scope.names/\∀ y∈scope.names,y.1=N.getD j Str.empty->y.2=.free
theorem dq.of (e:X.env.scope=osc) (f:X.N=N) (h:Sw osc N a own d c):dq X a own d c:=by subst e f;exact ⟨h.kind,h.nocell,h.names,h.free,h.nm,fun j b=>⟨(h.fr j b).1,(h.fr j b).2.1,fun k hk=>(h.fr j b).2.2 _ hk rfl⟩⟩
mutual
noncomputable def pM:PyData->Nat
 |.tuple a=>max a.length (nU a)
 |.list a=>max a.length (nU a)
 |_=>0
noncomputable def nU:List PyData->Nat
 |[]=>0
 |d::r=>max (pM d) (nU r)
end
theorem qx:∀ {a:List PyData},e∈a->pM e≤nU a
 |_::_,.head _=>by simp only [nU];omega
 |_::r,.tail _ h=>by have:=qx h;simp only [nU];omega
theorem jB (b:Gl X x) (c:X.mg x=none) (d:bootBuiltins x=some (.type n)) (e:x ≠ "__name__":=by decide) (hd:(x == ("__debug__" : Str))=false:=by decide):PE X (.Name x a) (tC (.ty n)):=Iv (v:=.ty n) b c d rfl e hd
theorem jz {c:Bool} {A B:Prop} (h:c=true) (q:A):if c=true then A else B:=by rw [aad h];exact q
theorem iz {c:Bool} {A B:Prop} (h:c=false) (q:B):if c=true then A else B:=by rw [aac (by rw [h];exact aaz)];exact q
def Hi (r s f:R2) (v w A B:TE):TE:=fun e H Q=>v e H fun x l=>w e l fun y m=>r x y m fun z g=>∃ k,z=.bl k/\
 (if k=true then A e g fun h n=>s y h n fun o i=>∃ j,o=.bl j/\(if j=true then B e i fun p q=>f h p q Q else Q (.bl false) i) else Q (.bl false) g)
theorem Bk (ho:mD X (compareOp op) r) (p:mD X (compareOp j) G) (m:mD X (compareOp g) l) (ha:PE X a ta) (hb:PE X b tb) (hc:PE X c tc) (hd:PE X d td)
 (hm:lastMarks [op,j,g] [b,c,d]=false:=by with_unfolding_all rfl):PT X (.Compare a [op,j,g] [b,c,d] pos) (sS (Hi r G l ta tb tc td)):=by
 intro f s i H Q I h;refine isTrue_chain (eG (ha f s i H _ I h) fun v J ⟨x,L,M,r1,q1⟩=>test_link (eG (hb f J i L _ M q1) fun u N ⟨y,O,P,r2,q2⟩=> eG (ho f N i O x y v u _ P r1 r2 q2) fun d' R ⟨z,q,w,r3,k,e,A⟩=>?_)) hm;subst e;cases r3;refine aa9 ?_;cases k with
 | false=>obtain ⟨k',n,o⟩:=A;cases n;exact ite_ff ⟨q,w,o⟩
 | true=>
   refine ite_tt (test_link (eG (hc f R i q _ w A) fun B S ⟨C,T,U,r4,W⟩=>eG (p f S i T y C u B _ U r2 r4 W) fun Y Z ⟨z2,D,E,r5,k2,e2,F⟩=>?_));subst e2;cases r5;refine aa9 ?_;cases k2 with
   | false=>obtain ⟨k',n,o⟩:=F;cases n;exact ite_ff ⟨D,E,o⟩
   | true=>refine ite_tt (test_last (eG (hd f Z i D _ E F) fun w2 s6 ⟨z3,H6,I6,r6,q6⟩=>eG (m f s6 i H6 C z3 B w2 _ I6 r4 r6 q6) fun d3 s7 ⟨z4,H7,I7,r7,k3,e3,q7⟩=>?_));subst e3;cases r7;exact aa9 ⟨H7,I7,q7⟩
abbrev TF:=Str->St->Hp->VK->Prop
def PF (X:Cx) (d:Zl) (t:TF):Prop:=
 ∀ (b:Str) (a:Zi) (s:Z1) (c:St) (H:Hp) (Q:VK),Inv X a c H s->t b c H Q->wpAny (model X.prog X.w) X.A (joinParts b (evalEach d X.env)) (EP X a c Q) X.xe s
def V8 (x:V) (y:Str):Prop:=(x=.str y/\y.length≤sizeLine)∨∃ i:Int,x=.int i/\i.natAbs.log2<1920/\y=Str.ofString (toString i)
theorem Ga:PF X [] (fun a _ H Q=>a.length≤sizeLine/\Q (.str a) H):=fun a b s c H Q I h=>joinParts_nil ⟨.str a,H,I.tok _,⟨_,rfl⟩,h.2⟩ h.1
theorem wX (d:PF X g t) (f:evalEach (.Constant (.str x) j e::g) X.env=eval (.Constant (.str x) j e) X.env::evalEach g X.env:=by rfl) :
 PF X (.Constant (.str x) j e::g) (fun a c H Q=>(a++x).length≤sizeLine/\t (a++x) c H Q):=by
 intro a b s c H Q I h;rw [f];exact joinParts_cons (Calls.Constant_str ⟨h.1,d (a++x) b _ c H Q (I.tok _) h.2⟩)
theorem uv (n:PE X e A) (j:PF X z t) (o:evalEach (.FormattedValue e (-1) none w::z) X.env=eval (.FormattedValue e (-1) none w) X.env::evalEach z X.env:=by rfl) :
 PF X (.FormattedValue e (-1) none w::z) (fun b c H Q=>A c H fun x d=>∃ y,V8 x y/\(b++y).length≤sizeLine/\t (b++y) c d Q):=by
 intro b a s c H Q I h;rw [o];refine joinParts_cons (FormattedValue_plain (eG (n a s c H _ I h) fun v p ⟨x,d,f,r1,y,fm,g,q⟩=>?_));rcases fm with ⟨rfl,l⟩|⟨i,rfl,m,rfl⟩
 ·obtain ⟨tk,rfl⟩:=r1;exact formatField_str (fun r tk=>⟨g,j _ a _ c d Q (f.tok tk) q⟩) l
 ·obtain ⟨tk,rfl⟩:=r1;exact formatField_int_small m ⟨g,j _ a _ c d Q (f.tok _) q⟩
def R1 (t:TF):TE:=fun a H Q=>t Str.empty a H Q
theorem yR (h:PF X (b::c::e) t) (g:evalEach (b::c::e) X.env=eval b X.env::eval c X.env::evalEach e X.env:=by rfl):PE X (.JoinedStr (b::c::e) i) (R1 t):=by intro a s d H Q I f;refine JoinedStr_many ?_;rw [← g];exact h _ a s d H Q I f
section
variable {X:Cx} {CX:rK} {k:Nat} {f C:Z0} {fd:Z3} {ps:Zd} {sp:Sp} {E:XK}
theorem J3 (F:cD X.prog X.w X.K X.mg X.base CX k f fd ps sp) (m:dm k A') (i:A'.frames=X.A.frames) (n:Binds X.K fd ps []) (o:fX CX X E)
 (I:Inv X a g H s) (r:Vals vs us) (h:sp vs H Q E):wpAny (model X.prog X.w) A' (call (.ref f) us) (EP X a g Q) X.xe s:=by
 have l:us.length=ps.length:=r.length.symm.trans (F.len _ _ _ _ h);have d:=n s us I.kIn (by rw [aaO];exact l);rw [aaO] at d;have b:=I.env0;refine aa3 (codeAny_mono (F.run A' X.stack s H ⟨us,[]⟩ us vs Q E m ⟨i.trans b.frames,b.mod,b.bs,b.bsz,b.funs,b.frf,b.hok,b.bare⟩ d r h) fun z j c=>?_)
 match z,c with
 |.error e,c=>exact o a g H s e j I c
 |.ok (.ret u),c=>exact I.after c
structure Xe (X:Cx) (CX:rK) (E:XK) (C:Z0) (name:Str) (k:Nat) (f:Z0) (fd:Z3) (ps:Zd) (sp:Sp):Prop where
 at_:PySem.W.findIn X.K (.ref C) name=some (some (.ref f))
 fn:PySem.W.isFn X.K (.ref f)=true
 ok:cD X.prog X.w X.K X.mg X.base CX k f fd ps sp
 b:Binds X.K fd ps []
 ps:fX CX X E
theorem Inv.inst (I:Inv X b d H s) (e:H a=some (.ins C c fs)):∃ od,PySem.W.InstAt s.heap a (PySem.W.instObj C c) C (some od):=by obtain ⟨g,O,_⟩:=oZ I.hok e;obtain ⟨od,J,_⟩:=O.look;exact ⟨od,J⟩
theorem Cz (h:EP X a c (fun v b=>∃ n:Nat,v=.int n/\n<1000000/\Q (.int n) b) v d):PySem.W.LenBack (EP X a c Q) v d:=by obtain ⟨y,b,I,r,n,rfl,e,q⟩:=h;obtain ⟨t,rfl⟩:=r;exact ⟨⟨Int.natCast_nonneg _,by omega⟩,⟨.int n,b,I.tok _,⟨_,rfl⟩,q⟩⟩
def QJ (C:Z0) (e:Sp) (E:XK):List V->Hp->VK->Prop:=fun b H Q=>∃ a d fs,b=[.ref a]/\H a=some (.ins C d fs)/\e [.ref a] H (fun v c=>∃ n:Nat,v=.int n/\n<1000000/\Q (.int n) c) E
theorem Bb (S:Xe X CX E C "__len__" k f fd ps sp) (g:dm (k+1) X.A):ji X (.builtin "len") (QJ C sp E):=by intro b s j H l d Q I r h;obtain ⟨a,i,fs,rfl,c,q⟩:=h;obtain ⟨u,rfl,e⟩:=vals1 r;cases (show u=Value.ref a from e);obtain ⟨od,J⟩:=I.inst c;obtain ⟨m,F⟩:=I.fr;exact PySem.W.len_K F I.ok.mod.kin J S.at_ S.fn (eG (J3 (us:=[.ref a]) (vs:=[.ref a]) S.ok g.in1 rfl S.b S.ps I (.cons rfl .nil) q) fun _ _=>Cz)
end
end L2
namespace HT
open PySem PySem.Spec PyProof.Rows
theorem Ah {s:Z1} {t i:Z0} {d:Zf} {a b c:Z6} {e step:Int} {n:Nat} {Q:Zb} (h:IsTup s.heap t d) (L:s.heap.IsSliceOf i a b c)
 (M:∀ (D:Z8) (y:Int×Int×Nat->Shared->Prop) (F:Zb),y (e,step,n) s->wpAny (model P w) D (Builtin.Slice.sliceApplied (.ref i) (pure (d.size:Int))) y F s)
 (C:(e == 0 && step == 1 && n == d.size)=true->Q (.ref t) s)
 (N:¬ (e == 0 && step == 1 && n == d.size)=true->((List.range n).filterMap fun (k:Nat)=>d[(e+(k:Int)*step).toNat]?).length≤sizeLine/\ Q (.ref s.heap.objs.size) { s with heap:=s.heap.push { cls:=.type "tuple",data:=.seq ((List.range n).filterMap fun (k:Nat)=>d[(e+(k:Int)*step).toNat]?).toArray } }) :
 wpAny (model P w) A (getItem (.ref t) (.ref i)) Q E s:=by
 obtain ⟨G,o,p,H⟩:=id L;have l:s.TypeIs (.ref i) "slice":=⟨G,o,p⟩;obtain ⟨O,q,r,nt,I⟩:=id h;unfold getItem
 try with_reducible refine abb ?_
 first|refine aaa (aab ?_)|skip
 refine aaa (acO h.typeIs (by decide) (aaa (wpAny_callSpecial?_slot (name:=Str.ofString "__getitem__") h.typeIs abB (abc abB h.typeIs entry_tuple_getitem ?_ (args_tuple_getitem _ _)))));show wpAny _ _ (Builtin.Tuple.tupleItemsOf (.ref t) >>= _) _ _ s;refine aaa (tupleItemsOf_ h (aaa (wpAny_typeOf l ?_)));rw [aad (by decide)];refine aaa (M _ _ _ ?_);show wpAny _ _ (if (e == 0 && step == 1 && n == d.size)=true then _ else _) _ _ s;by_cases g:(e == 0 && step == 1 && n == d.size)=true
 ·rw [aad g];have B:wpAny (model P w) A.in1 (Builtin.Tuple.tupleIsExact (.ref t)) (fun b j=>b=true/\j=s) E s:=by unfold Builtin.Tuple.tupleIsExact;refine aaa (wpAny_typeOf_ref q ?_);rw [r];exact aab ⟨rfl,rfl⟩
  first
   |refine aaa (aaH B (fun b j x=>?_) fun _ _ z=>z)
   |refine aaa (aaa (aaH B (fun b j x=>?_) fun _ _ z=>z))
  obtain ⟨rfl,rfl⟩:=x;rw [aad rfl]
  first
   |exact aaa (abl (aab ⟨_,rfl,aab (C g)⟩))
   |exact aaa (abl (aaa (aab (aab ⟨_,rfl,aab (C g)⟩))))
 ·rw [aac g];obtain ⟨J,v⟩:=N g;have f:sizeOk (.seq ((List.range n).filterMap fun (k:Nat)=>d[(e+(k:Int)*step).toNat]?).toArray):=by show (_:Zf).size≤sizeLine;rw [aat];exact J
  first
   |exact aaa (m:=Builtin.Tuple.tupleExact _) (aaU (aab ⟨_,rfl,aab v⟩) f)
   |exact aaa (m:=Builtin.Tuple.tupleExact _) (aaU (aaa (aab (aab ⟨_,rfl,aab v⟩))) f)
   |exact aaa (aaa (m:=Builtin.Tuple.tupleExact _) (aaU (aab (aab ⟨_,rfl,aab v⟩)) f))
end HT
namespace L2
open PySem PySem.Spec PyProof.Rows PySem.SeqAt
def Vt (K:Z2):V->Option Int->Option Int->Hp->VK->Prop:=fun x c d H Q=>∃ a b,x=.ref a/\eE K H a b/\(mL b c d=b->Q (.ref a) H)/\∀ p,H p=none->Q (.ref p) (upd H p (.tup (mL b c d)))
theorem Ji {X:Cx}:U6 X (Vt X.K):=by
 intro d s z H x v vl A i j B Q I o l p q h;obtain ⟨a,b,rfl,m,q1,q2⟩:=h;by_cases f:HT.iM b.length 0 i=0/\HT.iM b.length b.length j=b.length
 ·cases (show v=Value.ref a from o);obtain ⟨g,r,n,F⟩:=I.tuple m;have c:g.toArray.size=b.length:=by rw [aat];exact r.length.symm
  refine ⟨"tuple",_,abB.lookup,n.typeIs,?_⟩;have e:mL b i j=b:=by unfold mL;rw [f.1,f.2,abW,Nat.sub_zero,aaT]
  refine HT.Ah n l (fun C D E w=>HT.jN l p q w) (fun _=>⟨.ref a,H,I,rfl,q1 e⟩) fun y=>(y ?_).elim;rw [c,f.1,f.2];simp
 ·exact N6 d s z H _ v vl A i j B Q I o l p q ⟨a,b,rfl,m,f,q2⟩
theorem Inv.turnLaid {X:Cx} {s:Z1} {J:Z7} {a:Z0} {o:HO} {D:Nat} {fp:Zh} (I:Inv X G L H s) (k:∀ b u,b∉fp->s.heap.get? b=some u->J.get? b=some u) (F:∀ b∈fp,∃ u,J.get? b=some u) (g:∀ b∈fp,ju X G H b) (h:s.heap.objs.size≤a) (new:eU X.prog X.w (upd H a o) J a o) :
 Inv X G L (upd H a o) { s with heap:=J,toks:=D }:=by
 have l:H a=none:=I.hok.fresh h;have off:∀ b u,H b=some u->b∉fp:=fun b u e z=>by rw [(g b z).1] at e;cases e
 have up:∀ b u,H b=some u->(upd H a o) b=some u:=fun b u e=>by rw [b7 (cg e l)];exact e
 refine I.step (g':=s.gens) (d':=s.drawn) (ch:=fp) (fun b f=>?_) (fun b u _ _ d e _=>k b u d e) (fun b u _ _ d e _=>⟨u.slots,k b u d e⟩) (fun b u _ e n=>?_) (fun b u d e=>⟨u,k b u d e⟩) (fun b i e=>up b _ e) (fun b u z e=>up b _ e) (fun b E e=>⟨#[],by rw [up b _ e];simp⟩) (fun m j=>?_) (fun b u e=>?_) I.bare
 ·obtain ⟨_,p,_,w,x,y⟩:=g b f;exact ⟨w,p,x,y⟩
 ·rw [b7 (aap (aas (aam e) h))];exact n
 ·obtain ⟨u,A,B,C,r⟩:=j;exact ⟨u,A,B,k _ u (fun z=>(g _ z).2.1 rfl) C,r⟩
 ·by_cases f:b=a
  ·subst f;rw [a_] at e;cases e;exact new
  ·rw [b7 f] at e;refine (I.hok b u e).stay (fun c v d q=>k c v ?_ q) (fun c q=>up c _ q) fun c i q=>up c _ q;rcases d with rfl|z
   ·exact off _ u e
   ·exact off c _ z
theorem mG (b:s.heap.IsTupleIter c l i) (m:s.heap.IsTuple l a) (n:a[i]?=some x)
 (p:∀ g,g.IsTupleIter c l (i+1)->Heap.SameBut c s.heap g->Q x { s with heap:=g }):wpAny (model d w) A (Builtin.SmallTypes.nextOf (.ref c)) Q E s:=by
 obtain ⟨o,e,j,hd⟩:=id b;obtain ⟨ol,f,_,nl,h⟩:=m;unfold Builtin.SmallTypes.nextOf;refine aaa (wpAny_callSpecial?_slot (name:=Str.ofString "__next__") b.typeIs acs (abc acs b.typeIs F.entry_tuple_iterator_next ?_ (F.args_tuple_iterator_next_1 _)));show wpAny _ _ (field (.ref c) 0 >>= _) _ _ s;refine aaa (aaD e hd (x:=.ref l) rfl ?_);show wpAny _ _ (if (Value.ref l == Value.none)=true then _ else _) _ _ s;rw [aac (show ¬ ((Value.ref l == Value.none)=true) from nofun)];show wpAny _ _ (field (.ref c) 1 >>= _) _ _ s;refine aaa (aaD e hd (x:=.int i 0) rfl ?_);show wpAny _ _ (seqItems? (.ref l) >>= _) _ _ s;refine aaa (abH f h ?_);simp only [acN,n];refine aaa (abu e hd (by simp) (aab ⟨x,rfl,aab (p _ ⟨_,abI _ e (acT (abX hd _)),(Obj.cls_mapFields ..).trans j,by rw [abX hd];simp [rawInt]⟩ (Heap.SameBut.update ..))⟩))
theorem lN (p:A.handled=none) (c:s.heap.IsTupleIter f l i) (q:s.heap.IsTuple l b) (r:b[i]?=none)
 (v:∀ g e,Heap.ExtBut f s.heap g->(∃ o,g.get? e=some o/\o.cls=.type "StopIteration")->E (.ref e) { s with heap:=g }):wpAny (model d w) A (Builtin.SmallTypes.nextOf (.ref f)) Q E s:=by
 obtain ⟨o,h,y,hd⟩:=id c;obtain ⟨ol,j,_,nl,n⟩:=q;unfold Builtin.SmallTypes.nextOf;refine aaa (wpAny_callSpecial?_slot (name:=Str.ofString "__next__") c.typeIs acs (abc acs c.typeIs F.entry_tuple_iterator_next ?_ (F.args_tuple_iterator_next_1 _)));show wpAny _ _ (field (.ref f) 0 >>= _) _ _ s;refine aaa (aaD h hd (x:=.ref l) rfl ?_);show wpAny _ _ (if (Value.ref l == Value.none)=true then _ else _) _ _ s;rw [aac (show ¬ ((Value.ref l == Value.none)=true) from nofun)];show wpAny _ _ (field (.ref f) 1 >>= _) _ _ s;refine aaa (aaD h hd (x:=.int i 0) rfl ?_);show wpAny _ _ (seqItems? (.ref l) >>= _) _ _ s;refine aaa (abH j n ?_);simp only [acN,r];refine aaa (abl (aaa (abu h hd (by simp) ?_)));show wpAny _ _ (newExc (.type "StopIteration") [] >>= _) _ _ _;refine aaa ?_;simp only [newExc,newTuple];refine aaa (aaU ?_ (by size_fits));refine aaa (m:=firstArgMember _ _) (wpAny_of_eq (a:=Value.none) (by first|rfl|(simp only [firstArgMember];rfl)) (aaU ?_ (by size_fits)));simp only [raiseNew];refine aaa (wpAny_handled ?_)
 first|rw [show A.in1.handled=none from p]|rw [p]
 exact aaa (aab (wpAny_throw (v _ _ (((Heap.SameBut.update ..).extBut.push _).push _) ⟨_,aay _ rfl,rfl⟩)))
theorem uE:bootBuiltins "enumerate" = some (.type "enumerate"):=by ext
def jd (h:Z7) (H:Hp) (g:Z7) (e:Z0) (cls:Z6) (dd:Zg):Prop:=
 ∃ a vs,h.get? e=some a/\a.cls=cls/\a.dict=dd/\a.data=.fields vs/\g.get? e=none/\H e=none/\
   (vs[1]?=some .none∨∃ T b c,vs[1]?=some (.ref T)/\T≠e/\h.get? T=some b/\b.data=.fields c/\c[3]?=some .none/\g.get? T=none/\H T=none)
theorem jd.mono (x:jd h H g e cls dd) (m:∀ b,g.get? b=none->l.get? b=none):jd h H l e cls dd:=by
 obtain ⟨n,vs,o,p,q,r,s,v,j⟩:=x;refine ⟨n,vs,o,p,q,r,m _ s,v,?_⟩;rcases j with j|⟨T,w,y,a,b,c,d,f,gT,i⟩
 ·exact .inl j
 ·exact .inr ⟨T,w,y,a,b,c,d,f,m _ gT,i⟩
theorem An (f:Array Value->Array Value) (o:Obj):(Obj.mapFields f o).dict=o.dict:=by obtain ⟨c,d,a,b⟩:=o;cases a <;> rfl
theorem tU (N:A.frames=some (env::c)) (hl:s.heap.FunFrames v (env::c)) (hf:env.frame=some L)
 (he:s.heap.get? e=some w) (hd:w.data=.fields vs) (l:1<vs.size)
 (h:∀ (n:Z7) (T:Z0) (i P:Obj) (p R:Zf),s.heap.objs.size≤T->n.get? e=some i->i.cls=w.cls->i.dict=w.dict->i.data=.fields p->p[1]?=some (.ref T)->n.get? T=some P->P.data=.fields R->R[3]?=some .none-> (∀ b o,b≠e->b∉(env::c).filterMap (·.frame)->s.heap.get? b=some o->n.get? b=some o)->(∀ b o,b≠e->s.heap.get? b=some o->∃ F,n.get? b=some { o with slots:=F })->Q () { s with heap:=n }) :
 wpAny M A (do let a ← frameOf env;let z ← entryPlaceOf L d;let b ← EntryCells.newEntry head a .none (rawInt L) .none z;setField (.ref e) 1 b) (fun _ s'=>wpAny M A (setFlight (.ref e) none) Q E s') E s:=by
 have r:e∉(env::c).filterMap (·.frame):=fun hm=>by obtain ⟨_,o,Z,I⟩:=hl.mem hm;rw [he] at Z;cases Z;exact I vs hd
 refine aaa (wpAny_frameOf_fun N hl hf fun g y=>aaa (wpAny_entryPlaceOf fun z C=>?_));unfold EntryCells.newEntry newFields;refine aaa (aaU ?_ (C.sizeOk5 _ _ _ _ _));have S:g.get? e=some w:=(y.2.1 e r).trans he;generalize J:([head,.ref L,.none,rawInt L,.none]++(if z.isEmpty then List.replicate 6 Value.none else z)).toArray=B;have U:3<B.size:=by rw [← J];simp only [aat,aao,aaw,abn];omega
 have W:=aak (h:=g) { cls:=.type "traceback",dict:=none,data:=.fields B } S;refine abu W hd l ?_;have ne:g.objs.size≠e:=abz (aam S);have G:=abX hd (·.setIfInBounds 1 (Value.ref g.objs.size));have X:=abI (Obj.mapFields (·.setIfInBounds 1 (Value.ref g.objs.size))) W (acT G);have Y:=(abm (g.push { cls:=.type "traceback",dict:=none,data:=.fields B }) (Obj.mapFields (·.setIfInBounds 1 (Value.ref g.objs.size))) (aaC ne)).trans (aay g rfl);unfold setFlight;refine aaa (aaD X G (x:=.ref g.objs.size) (by simp [l]) ?_);rw [aad (show (Value.ref g.objs.size != Value.none)=true by simp)];refine abu Y rfl U ?_;have H:s.heap.objs.size≤g.objs.size:=abS y.1.symm;have keep:∀ b o,b≠e->g.get? b=some o->(((g.push { cls:=.type "traceback",dict:=none,data:=.fields B }).update e (Obj.mapFields (·.setIfInBounds 1 (Value.ref g.objs.size)))).update g.objs.size (Obj.mapFields (·.setIfInBounds 3 ((none:Zg).elim Value.none fun f=>rawInt f)))).get? b=some o:=fun b o m O=>by rw [abm _ _ (abz (aam O)),abm _ _ (aaC m)];exact aak _ O
 refine h _ g.objs.size _ _ _ _ H (by rw [abm _ _ ne];exact X) (Obj.cls_mapFields _ _) (An _ _) G (by simp [l]) (abI _ Y (acT (abX rfl _))) (abX rfl _) (by simp [U]) (fun b o m D j=>keep b o m ((y.2.1 b D).trans j)) fun b o m j=>?_;obtain ⟨F,q⟩:=y.2.2 b o j;exact ⟨F,keep b _ m q⟩
theorem leaveX (I:Inv X cW σ H s) (hst:X.stack=X.env::X.outer) (p:X.env.frame=some X.env.locals) (G:A.frames=some X.stack) (hex:X.ex=[]) (x:jd s.heap H X.s₀.heap e cls dd)
 (h:∀ i,jd i H X.s₀.heap e cls dd->Un (frs X.outer) [] X.H₀ H X.s₀.heap i->kO X.prog X.w H i->Q () { s with heap:=i }):wpAny (model X.prog X.w) A (leaving X.env (.ref e)) Q E s:=by
 have hl:=I.stack;rw [hst] at G hl;obtain ⟨oe,vs,L,h2,h3,h4,h5,h6,h7⟩:=x;have free:∀ b∈(X.env::X.outer).filterMap (·.frame),H b=none:=fun b a=>I.stkFree b (by rw [hst];exact a);have Z:∀ (i:Z7) (T:Z0) (d y:Obj) (g r:Zf),X.s₀.heap.get? T=none->T≠e->H T=none->i.get? e=some d->d.cls=oe.cls->d.dict=oe.dict->d.data=.fields g->g[1]?=some (.ref T)->i.get? T=some y->y.data=.fields r->r[3]?=some .none->
  (∀ b o,b≠e->(H b≠none∨∃ j,X.s₀.heap.get? b=some j)->b∉(X.env::X.outer).filterMap (·.frame)->s.heap.get? b=some o->i.get? b=some o)->(∀ b o,(∃ j,X.s₀.heap.get? b=some j)->s.heap.get? b=some o->∃ sl,i.get? b=some { o with slots:=sl })->Q () { s with heap:=i }:=by
  intro i T d y g r C l af N O P R S U W Y kp J;refine h i ⟨d,g,N,O.trans h2,P.trans h3,R,h5,h6,.inr ⟨T,y,r,S,l,U,W,Y,C,af⟩⟩ ?_ ?_
  ·have B:=I.base;rw [hex] at B;have nl:∀ b o,X.s₀.heap.get? b=some o->b<X.s₀.heap.objs.size:=fun b o z=>aam z;have aa:∀ b,b<X.s₀.heap.objs.size->b∉frs X.outer->b∉(X.env::X.outer).filterMap (·.frame):=fun b a hn m=>by
    rw [abO,p] at m;rcases aaf.mp m with rfl|m
    ·exact absurd (aas a I.ok.above) (aaP _)
    ·exact hn m
   refine ⟨fun b o z n a M=>kp b o (fun q=>by subst q;rw [h5] at z;cases z) (.inr ⟨o,z⟩) (aa b (nl b o z) a) (B.keep b o z n a M),fun b o z n a M=>?_,B.free,fun b o z M=>?_,B.tups,B.frzs,B.tbls⟩
   ·obtain ⟨sl,q⟩:=B.slot b o z n a M;obtain ⟨ab,q'⟩:=J b _ ⟨o,z⟩ q;exact ⟨ab,q'⟩
   ·obtain ⟨o',q⟩:=B.there b o z M;obtain ⟨ab,q'⟩:=J b _ ⟨o,z⟩ q;exact ⟨_,q'⟩
  ·intro b u a;refine (I.hok b u a).stay (fun c v hc q=>kp c v ?_ (.inl ?_) ?_ q) (fun _ q=>q) fun _ _ q=>q
   ·rintro rfl;rcases hc with rfl|z
    ·rw [h6] at a;cases a
    ·rw [h6] at z;cases z
   ·rcases hc with rfl|z
    ·rw [a];simp
    ·rw [z];simp
   ·intro m;have:=free c m;rcases hc with rfl|z
    ·rw [this] at a;cases a
    ·rw [this] at z;cases z
 unfold leaving noteFrame;simp only [p];rcases h7 with h7|⟨T,y,r,t1,t2,t3,t4,t5,t6,t7⟩
 ·refine aaa (aaa (aaD L h4 h7 ?_));rw [aac (by decide)];refine tU G hl p L h4 (abj.mp h7).1 fun i T d y g r C N O P R S U W Y kp J=>?_;have l:T≠e:=fun q=>by subst q;exact absurd (aas (aam L) C) (aaP _)
  exact Z i T d y g r (acC (aaj I.sz C)) l (I.hok.fresh C) N O P R S U W Y (fun b o a _ m z=>kp b o a m z) fun b o a z=>J b o (fun q=>by subst q;obtain ⟨_,a⟩:=a;rw [h5] at a;cases a) z
 ·refine aaa (aaa (aaD L h4 t1 ?_));rw [aad (show (Value.ref T != Value.none)=true by simp)];refine aaa (aaD t3 t4 t5 ?_);rw [aac (show ¬ ((Value.none == rawInt X.env.locals)=true) by simp [rawInt])];refine aaa (abu t3 t4 (abj.mp t5).1 ?_);have f:∀ b,b≠T->(s.heap.update T (Obj.mapFields (·.setIfInBounds 3 Value.none))).get? b=s.heap.get? b:=fun b a=>abm _ _ (aaC a);have ae:∀ b o,s.heap.get? b=some o->(∀ vs,o.data≠.fields vs)->b≠T:=fun b o a D q=>by subst q;rw [t3] at a;cases a;exact D r t4
  refine tU (s:={ s with heap:=s.heap.update T (Obj.mapFields (·.setIfInBounds 3 Value.none)) }) G (hl.of_keeps fun b o a D=>⟨o,(f b (ae b o a D)).trans a,rfl⟩) p ((f e (aaC t2)).trans L) h4 (abj.mp t1).1 fun i T' d ac g ad C N O P R S U W Y kp J=>?_;have F:s.heap.objs.size≤T':=by have z:(s.heap.update T (Obj.mapFields (·.setIfInBounds 3 Value.none))).objs.size=s.heap.objs.size:=Heap.size_update _ _ _;exact aaj (abS z.symm) C
  have l:T'≠e:=fun q=>by subst q;exact absurd (aas (aam L) F) (aaP _)
  refine Z i T' d ac g ad (acC (aaj I.sz F)) l (I.hok.fresh F) N O P R S U W Y (fun b o a w m z=>kp b o a m ((f b ?_).trans z)) fun b o a z=>J b o (fun q=>by subst q;obtain ⟨_,a⟩:=a;rw [h5] at a;cases a) ((f b ?_).trans z)
  ·rintro rfl;rcases w with w|w
   ·exact w t7
   ·obtain ⟨_,w⟩:=w;rw [t6] at w;cases w
  ·rintro rfl;obtain ⟨_,a⟩:=a;rw [t6] at a;cases a
def jC (P:Z4) (w:Z5):rK:=fun a H s E e b=>∃ (d:Z0) (cls:Z6) (dd:Zg) (c:Hp),e=.ref d/\b.os=s.os/\AllBare b.gens/\Un (frs a) [] H c s.heap b.heap/\kO P w c b.heap/\jd b.heap c s.heap d cls dd/\E cls dd c
theorem Uo {P:Z4} {w:Z5} {K:Z2} {o:Zc} {m:Z7} {N:Zd} {n:Str} {j:Za} {f:Z0} {cd:Z6} {A:Z8} {l:List Env} {s:Z1} {H:Hp} {E:XK} {a:Zi} {g:St} {b:Hp} {c:Z1} {e:Z0} {cls:Z6} {dd:Zg} (I:Inv (iY (jC P w) P w K o m N n j f cd A l s H E) a g b c) (x:jd c.heap b s.heap e cls dd) (h:E cls dd b) :
 (iY (jC P w) P w K o m N n j f cd A l s H E).xe (.ref e) c:=
 leaveX I rfl rfl I.ok.frames rfl x fun i d u k=>⟨e,cls,dd,b,rfl,I.os,I.bare,u,k,d,h⟩
theorem jR {P:Z4} {w:Z5} {K:Z2} {T:Zc} {R:Z7} {N:Zd} {S:Str} {O:Za} {f:Z0} {cd:Z6} {A:Z8} {Q:List Env} {s:Z1} {H:Hp} {E:XK} {r:XK} (G:∀ cls dd i,r cls dd i->E cls dd i):fX (jC P w) (iY (jC P w) P w K T R N S O f cd A Q s H E) r:=by
 intro c C M p e D I h;obtain ⟨J,cls,dd,i,rfl,B,a,un,j,x,q⟩:=h;obtain ⟨m,g,d,t,l⟩:=D;obtain rfl:l=p.os:=B;have y:Inv (iY (jC P w) P w K T R N S O f cd A Q s H E) c C i ⟨m,g,d,t,p.os⟩:=I.call (h':=m) (g':=g) (d':=d) (t':=t) (ch:=[]) un j a (fun b z=>absurd z (by simp));refine Uo y (x.mono fun b v=>?_) (G _ _ _ q);cases z:s.heap.get? b with
 |none=>rfl
 | some o=>obtain ⟨L,n⟩:=I.base.there b o z (by intro F;cases F);rw [v] at n;cases n
open PySem.W
noncomputable def qj (K:Z2) (C:Z0) (B a:String):Bool:=match K.lookup C with
 |some ⟨_,_,.cls cd,sl⟩=>!cd.abstract && !cd.hasDel && (sl.toList[4]?).join == some (.builtin a) && !cd.mro.isEmpty && cd.mro.contains (.ref C) && cd.mro.contains (.type B) && cd.mro.contains (.type "BaseException") && !cd.mro.contains (.type "AttributeError") && !cd.mro.contains (.type "NameError") &&
  specialIn K (.ref C) "__call__" == some (some (.builtin "type.__call__")) && instIn K (.ref C) (.type "type") == some true
 |_=>false
structure wW (M:Model) (h:Z7) (C:Z0) (B newId:String):Prop where
 obj:∃ oc od cd sl,h.get? C=some ⟨oc,od,.cls cd,sl⟩/\cd.abstract=false/\cd.hasDel=false/\cd.mro.isEmpty=false
 made:Looks M h (Bind.madeBy (.ref C)) (some newId)
 base:Looks M h (Bind.staticBase (.ref C)) (.ref C)
 self:Looks M h (isSubtype (.ref C) (.ref C)) true
 isB:Looks M h (isSubtype (.ref C) (.type B)) true
 isE:Looks M h (isSubtype (.ref C) (.type "BaseException")) true
 noA:Looks M h (isSubtype (.ref C) (.type "AttributeError")) false
 noN:Looks M h (isSubtype (.ref C) (.type "NameError")) false
 call:Looks M h (specialOf (.ref C) "__call__") (some (.builtin "type.__call__"))
 typ:Looks M h (isInstance (.ref C) (.type "type")) true
theorem lQ {K:Z2} (X:K.In h) (e:qj K C B a=true):wW M h C B a:=by
 unfold qj at e;split at e
 ·rename_i oc od cd G i;simp only [aa1,Bool.not_eq_true',aaS] at e;obtain ⟨⟨⟨⟨⟨⟨⟨⟨⟨⟨o,p⟩,r⟩,d⟩,w⟩,x⟩,y⟩,D⟩,F⟩,f⟩,g⟩:=e;have j:clsIn K C=some cd:=by unfold clsIn;rw [i]
  have m:Looks M h (mroOf (.ref C)) cd.mro:=(looks_clsIn X j).andThen .now;obtain ⟨c,l,n⟩:∃ c l,cd.mro=c::l:=by
   cases q:cd.mro with
   |nil=>rw [q] at d;cases d
   |cons c l=>exact ⟨c,l,rfl⟩
  have made:Looks M h (Bind.madeBy (.ref C)) (some a):=by intro A Q E s k q;unfold Bind.madeBy;refine aaa (m A _ E s k ?_);rw [n,abE];refine aaa (aaa (aaa (aaa (abR (k _ _ (X _ _ i)) (aab ?_)))));dsimp only;rw [← acQ,r];exact aab (aab (aab q))
  have sub:∀ (v:Z6) (b:Bool),cd.mro.contains v=b->Looks M h (isSubtype (.ref C) v) b:=fun v b z=>looks_mroIn X (by unfold mroIn;rw [j,Option.bind_some,aac (by rw [d];decide),z]);refine ⟨⟨oc,od,cd,G,X _ _ i,o,p,d⟩,made,?_,sub _ _ w,sub _ _ x,sub _ _ y,sub _ _ D,sub _ _ F,looks_specialIn X f,looks_instIn X g⟩;intro A Q E s k q;unfold Bind.staticBase;refine aaa (m A _ E s k ?_);rw [n,abE];exact aaa (aaa (aaa (made A _ E s k (aab (aab (aab q))))))
 ·cases e
noncomputable abbrev j8 (C t:Z0):Obj:={ cls:=.ref C,data:=.fields #[.ref t,.none,.none,.none,.bool false,.none] }
theorem newX {E:Z4} {w:Z5} {A:Z8} {C:Z0} {R:Zj} {h:Z7} {g:Array GenState} {d:Drawn} {t:Nat} {H:OsState} {B D G:String} {I:Ze} (F:ExcBaseFacts B D G I) {rest:Ze} (Y:wW (model E w) h C B D) (m:rest.length≤sizeLine)
 (s:R (.ok (.ret (.ref (h.objs.size+1)))) ⟨(h.push { cls:=.type "tuple",data:=.seq rest.toArray }).push (j8 C h.objs.size),g,d,t,H⟩) :
 codeAny (model E w) A (.call (.builtin D) ⟨.ref C::rest,[]⟩) R ⟨h,g,d,t,H⟩:=by
 obtain ⟨⟨oc,od,cd,v,o,x,y,z⟩,made,a,n,i,q,j,l,call,r⟩:=Y;have e:=F.noStar;have f:=F.ends;refine codeAny_call_builtin_code (Code.quiet_builtin _ F.quiet) ?_;simp only [checkBuiltinCall,F.newKind,F.newSplit,F.newRow];have here:Looks (model E w) h (Bind.madeHere D (.ref C)) ():=a.andThen (made.andThen (Looks.of_pure (by simp only [Option.map_some,acU,abo,if_false])))
 repeat (first|simp only [acU,abo,if_false]|lk)
 repeat (first|wp_step)
 refine PySem.codeAny_builtinAt F.entry ?_;unfold Builtin.«BaseException.__new__»;refine PySem.wpAt_bind ?_;show PySem.wpAt _ _ _ (stack >>= _) _ _ _;refine PySem.wpAt_bind (PySem.wpAt_stack fun p c=>PySem.wpAt_of_wpAny ?_)
 wp_walk
 refine PySem.wpAt_of_wpAny ?_;rw [F.owner];have b:Looks (model E w) h (Bind.madeHere "BaseException.__new__" (.ref C)) ():=a.andThen (made.andThen (Looks.of_pure (by simp only [Option.map_some,F.canon,acU,abo,if_false])))
 repeat (first|with_reducible refine b.at ?_|with_reducible refine i.at ?_|with_reducible refine j.at ?_|with_reducible refine l.at ?_|with_reducible refine abY o ?_|wp_step)
 show R _ _;rw [aaV];exact s
theorem yF {T:Z4} {w:Z5} {A:Z8} {C:Z0} {R:Zj} {h:Z7} {g:Array GenState} {d:Drawn} {t:Nat} {X:OsState} {B U W:String} {Z:Ze} (F:ExcBaseFacts B U W Z) {rest:Ze} {f:Z6} (Y:wW (model T w) h C B U) (E:Looks (model T w) h (typeLookup (.ref C) "__init__") (some f)) (G:∀ c,Looks (model T w) h (bindSpecial f c) (f,[c])) (i:rest.length≤sizeLine)
 (H:codeAny (model T w) (A.under (.builtin "type.__call__" ⟨.ref C::rest,[]⟩)) (.call f ⟨.ref (h.objs.size+1)::rest,[]⟩) (InitBack (h.objs.size+1) R) ⟨(h.push { cls:=.type "tuple",data:=.seq rest.toArray }).push (j8 C h.objs.size),g,d,t,X⟩) :
 codeAny (model T w) A (.call (.ref C) ⟨rest,[]⟩) R ⟨h,g,d,t,X⟩:=by
 have n:=Y;obtain ⟨⟨oc,od,cd,P,l,Q,S,q⟩,made,m,c,s,x,y,D,call,j⟩:=Y;refine codeAny_of_tree ?_;show wpAny _ _ (callAny (.ref C) _) _ _ _;refine nd_load l ?_;show wpAny _ _ (callAny.viaDunder (.ref C) _) _ _ _;unfold callAny.viaDunder;refine aaa (call.at ?_);dsimp only;rw [tc_bind];refine aaa (aab (aaa (aab (aab (a:=Fin.again (.call (.builtin "type.__call__") ⟨.ref C::rest,[]⟩)) (abV rfl ?_)))));refine codeAny_call_builtin_at (Code.quiet_builtin _ (by ext)) entry_typeCall (check_slot tc_kind tc_split j (tc_args _ _ _) ?_);unfold Builtin.«type.__call__»;have J:Looks (model T w) h (mroOf (.ref C)) cd.mro:=((Looks.ld (part:=none) l).andThen .now).andThen .now
 repeat (first|simp only [q,abo,if_false]|with_reducible refine aa3 ?_|lk)
 refine newX F n i ?_;have k:∀ b o,h.get? b=some o->((h.push { cls:=.type "tuple",data:=.seq rest.toArray }).push (j8 C h.objs.size)).get? b=some o:=fun b o e=>aak _ (aak _ e);have p:((h.push { cls:=.type "tuple",data:=.seq rest.toArray }).push (j8 C h.objs.size)).get? (h.objs.size+1)=some (j8 C h.objs.size):=by
  have:=aay (h.push { cls:=.type "tuple",data:=.seq rest.toArray }) (o:=j8 C h.objs.size) rfl
  rwa [aaV] at this
 have L:Looks (model T w) ((h.push { cls:=.type "tuple",data:=.seq rest.toArray }).push (j8 C h.objs.size)) (typeOf (.ref (h.objs.size+1))) (.ref C):=(Looks.ld p).andThen .now;have M:=c.keeps k;have N:=E.keeps k;have O:=(G (.ref (h.objs.size+1))).keeps k;unfold isInstance callSpecial? specialOf
 repeat (first|with_reducible refine aa3 ?_|lk)
 refine codeAny_mono H fun r I z=>?_;rcases r with e|(v|_|_|_) <;> first|exact z|exact z.elim|skip
 obtain ⟨rfl,z⟩:=z;exact aab (aab z)
open Builtin.ObjectAttr
noncomputable def iw (e C:Z0) (dd:Zg):HO:=.ext fun h=>∃ a:Value,h.get? e=some { cls:=.ref C,dict:=dd,data:=.fields #[a,.none,.none,.none,.bool false,.none] }
noncomputable def qm (b:Z0) (fs:List (Str×V)):HO:=.ext fun h=>∃ a,h.Ns1 b a/\(∀ f,jV (fs.lookup f) (a f))/\PySem.Within a (fs.map (·.1))
theorem ug (x:h.get? e=some { cls:=.ref C,dict:=dd,data:=.fields #[a0,.none,.none,.none,.bool false,.none] }):eU P w H h e (iw e C dd):=
 ⟨⟨a0,x⟩,⟨_,x⟩,fun b c ⟨a,z⟩ k=>⟨a,k _ z⟩⟩
theorem yu (x:h.Ns1 i b) (r:∀ f,jV (fs.lookup f) (b f)) (p:PySem.Within b (fs.map (·.1))):eU P w H h i (qm i fs):=by obtain ⟨o,v,y,j,rest⟩:=id x;refine ⟨⟨b,x,r,p⟩,⟨o,j⟩,fun q s z k=>?_⟩;obtain ⟨l,⟨m,c,d,e,a⟩,n,g⟩:=z;exact ⟨l,⟨m,c,d,k _ e,a⟩,n,g⟩
theorem oO (a:Z6) (e:refuseLoop a "__setattr__" b=pure ()) (d:b≠[]):∀ (f:Zh),refuseLoop a "__setattr__" (f.map Value.ref++b)=pure ()
 |[]=>e
 | c::r=>by rw [aaE,acu,refuseLoop_ref];exact oO a e d r
structure kI (K:Z2) (C:Z0) (B newId:String):Prop where
 mks:qj K C B newId=true
 sa:findIn K (.ref C) "__setattr__" = some (some (.builtin "object.__setattr__"))
 cd:∃ (cd:ClassData) (rs:Zh) (bm:Ze),clsIn K C=some cd/\cd.hasDict=true/\cd.mro=rs.map Value.ref++bm/\bm≠[]/\(∀ self,refuseLoop self "__setattr__" bm=pure ())/\bm.contains (.type "object")=true
 kp:keepIn K (.ref C)=true
 ty:typeIn K (.ref C)=some (.type "type")
theorem Ss {A:Z8} {R:Zj} {s:Z1} {K:Z2} (X:K.In s.heap) (I:InstAt s.heap x M C od) (N:kI K C B g) (O:takerIn K C Q=some none)
 (h:∀ b,wpAny (model P w) A.in1 (Builtin.ObjectAttr.storeInOwnDict (.ref x) (.ref C) (.str Q tk) Q v b) (fun o n=>match o with|.done f=>R (.ok f) n|.again z=>z.quiet=true/\codeAny (model P w) A z R n) (fun e n=>R (.error e) n) s) :
 codeAny (model P w) A (.call (.builtin "object.__setattr__") ⟨[.ref x,.str Q tk,v],[]⟩) R s:=by
 have i:=PySem.F.store_object;obtain ⟨cd,F,G,r,y,c,l,p,m⟩:=N.cd;have ne:cd.mro.isEmpty=false:=by
  rw [c];cases F with
  |nil=>cases G with|nil=>exact absurd rfl l|cons _ _=>rfl
  |cons _ _=>rfl
 have j:cd.mro.contains (.type "object")=true:=by rw [c,List.contains_eq_mem,acV];rw [List.contains_eq_mem,acV] at m;exact aav _ m
 have sub:Looks (model P w) s.heap (isInstance (.ref x) (.type "object")) true:=I.type.andThen (looks_mroIn X (by unfold mroIn;rw [r,Option.bind_some,aac (by rw [ne];decide),j]));refine codeAny_call_builtin i.slot.plain i.entry (@check_slot (model P w) _ _ s "object.__setattr__" "object" "__setattr__" (.ref x) [.str Q tk,v] [] _ i.kind i.split sub (i.args (.ref x) (.str Q tk) v) ?_);obtain ⟨d,H,J⟩:=Option.bind_eq_some_iff.mp O;have D:Looks (model P w) s.heap (mroOf (.ref C)) cd.mro:=(looks_clsIn X r).andThen .now;have E:Looks (model P w) s.heap (storeTaker? d) none:=by
  cases d with
  |none=>exact .now
  | some a=>
    obtain ⟨b,L,q⟩:=abk.mp J;refine (looks_takesIn X L).andThen ?_;cases b with
    |false=>exact .now
    |true=>cases q
 rw [osa_eq,refuse_eq];refine aaa (aaa (I.type.here (aaa (D.here ?_))));rw [c,oO _ (p _) l];refine aab (aaa (I.type.here (aaa ((looks_findIn X H).here (aaa (E.here ?_))))));exact h _
theorem xQ {s:Z1} {K:Z2} {I:Str} {Q:Fin->Shared->Prop} {cd:ClassData} (X:K.In s.heap) (q:s.heap.get? x=some ⟨.ref C,none,.fields vs,J⟩) (G:clsIn K C=some cd) (hd:cd.hasDict=true)
 (h:∀ a,a.Ns1 s.heap.objs.size (fun y=>if y=I then some v else none)->a.get? x=some ⟨.ref C,some s.heap.objs.size,.fields vs,J⟩->(∀ b o,b≠x->s.heap.get? b=some o->a.get? b=some o)->Q (.done (.ret .none)) { s with heap:=a,toks:=s.toks+1 }) :
 wpAny (model L w) A (storeInOwnDict (.ref x) (.ref C) (.str I tk) I v b) Q E s:=by
 unfold storeInOwnDict;refine aaa (aab (aaa (aaa (abR q (aaa (Looks.here (looks_clsIn X G) ?_))))));rw [hd];have g:(s.heap.push { cls:=.type "dict",data:=.dict #[] }).get? x=some ⟨.ref C,none,.fields vs,J⟩:=aak _ q;have i:x≠s.heap.objs.size:=aap (aam q);show wpAny _ _ (do
  let d ← alloc { cls:=Value.type "dict",data:=Data.dict #[] }
  update x fun o=>{ cls:=o.cls,dict:=some d,data:=o.data,slots:=o.slots }
  dictMade (Value.ref C) x d) _ _ _;refine aaa (wpAny_alloc' (aaa (wpAny_update' g ?_)));refine aab ?_;have j:((s.heap.push { cls:=.type "dict",data:=.dict #[] }).update x fun o=>{ cls:=o.cls,dict:=some s.heap.objs.size,data:=o.data,slots:=o.slots }).get? s.heap.objs.size=some { cls:=.type "dict",data:=.dict #[] }:=(abZ _ _ _ _ i.symm).trans (Heap.get?_push_at rfl rfl);have l:((s.heap.push { cls:=.type "dict",data:=.dict #[] }).update x fun o=>{ cls:=o.cls,dict:=some s.heap.objs.size,data:=o.data,slots:=o.slots }).Ns s.heap.objs.size (fun _=>none):=⟨_,#[],_,j,rfl,fun e z=>absurd z (by simp),fun _=>rfl⟩;show wpAny _ _ (storeInDict s.heap.objs.size (.str I tk) I v) _ _ _;unfold storeInDict newKeyGuard;refine aaa (aab (aaa (wpAny_nsSet1 (s:={ s with heap:=_ }) (acJ l) fun a c r=>?_)));obtain ⟨H,D,F,m,n,p⟩:=c.count (acI I v PySem.Within.nil);refine aaa (wpAny_lookBehind m (by rw [n];exact pastItsLine_dict (aaj p (by rw [aaw,abn,sizeLine_eq];omega))) ?_);refine aab (h a c ?_ fun b o B f=>?_)
 ·exact (r.2 x i).trans (abI _ g rfl)
 ·exact (r.2 b (aap (aam f))).trans ((abZ _ _ _ _ B).trans (aak _ f))
theorem ym {s:Z1} {K:Z2} {D:Str} {Q:Fin->Shared->Prop} {cd:ClassData} {ns:Zd} (X:K.In s.heap) (o:s.heap.get? x=some ⟨.ref C,some c,.fields vs,G⟩) (p:clsIn K C=some cd) (hd:cd.hasDict=true) (q:s.heap.Ns1 c j) (r:PySem.Within j ns) (B:ns.length<1000)
 (h:∀ d,d.Ns1 c (fun y=>if y=D then some v else j y)->Heap.SameBut c s.heap d->Q (.done (.ret .none)) { s with heap:=d,toks:=s.toks+1 }) :
 wpAny (model F w) A (storeInOwnDict (.ref x) (.ref C) (.str D tk) D v b) Q E s:=by
 unfold storeInOwnDict;refine aaa (aab (aaa (aaa (abR o (aaa (Looks.here (looks_clsIn X p) ?_))))));rw [hd];refine aab (a:=some c) ?_;show wpAny _ _ (storeInDict c (.str D tk) D v) _ _ _;unfold storeInDict newKeyGuard;refine aaa (aab (aaa (wpAny_nsSet1 q fun d e l=>?_)));obtain ⟨z,m,n,f,g,i⟩:=e.count (acI D v r);refine aaa (wpAny_lookBehind f (by rw [g];exact pastItsLine_dict (aaj i (by rw [aaw,sizeLine_eq];omega))) ?_);exact aab (h d e l)
theorem tX (I:Inv X c d H s) (b:H e=some (iw e C dd)):∃ a,s.heap.get? e=some { cls:=.ref C,dict:=dd,data:=.fields #[a,.none,.none,.none,.bool false,.none] }:=(show eU X.prog X.w H s.heap e (iw e C dd) from I.hok e _ b).1
theorem Fw (I:Inv X cW σ H s) (he:H e=some (iw e C none)) (XC:kI X.K C B newId) (ht:takerIn X.K C f=some none) (ry:RelV y u)
 (h:∀ da s',H da=none->Inv X cW σ (upd (upd H e (iw e C (some da))) da (qm da [(f,y)])) s'->Q () s'):wpAny (model X.prog X.w) A (setAttr (.ref e) f u) Q E s:=by
 obtain ⟨a0,hx⟩:=tX I he;have J:InstAt s.heap e _ C none:=⟨hx,rfl,rfl,aaJ⟩;obtain ⟨cd,rs,bm,hc,hdct,_⟩:=XC.cd;refine set_plain I.kIn J XC.sa (Ss (s:={ s with toks:=s.toks+1 }) I.kIn J XC ht fun b=>xQ (s:={ s with toks:=s.toks+1 }) I.kIn hx hc hdct fun h' hn hx' hk=>?_);have fr:H s.heap.objs.size=none:=I.hok.fresh (aae _);have nes:e≠s.heap.objs.size:=aap (aam hx);refine h s.heap.objs.size _ fr ?_;have hx1:(s.heap.push emptyDict).get? e=some _:=aak _ hx;have g1:(s.heap.push emptyDict).get? s.heap.objs.size=some emptyDict:=aay s.heap rfl;have e3:(s.heap.push emptyDict).Ns s.heap.objs.size (fun _=>none):=⟨emptyDict,#[],_,g1,rfl,(fun e he=>absurd he (by simp)),fun _=>rfl⟩;have I1:=I.laid (a:=s.heap.objs.size) (o:=qm s.heap.objs.size []) (h':=s.heap.push emptyDict) (t':=s.toks) (fun b u q=>aak _ q) (aae _) (yu (acJ e3) (fun _=>aaJ) fun y hy=>absurd rfl hy);have hx2:=abI (fun o:Obj=>{ o with dict:=some s.heap.objs.size }) hx1 rfl;have I2:=I1.write (x:=e) (e:=e) (o:=iw e C (some s.heap.objs.size)) (h':=(s.heap.push emptyDict).update e fun o=>{ o with dict:=some s.heap.objs.size }) (t':=s.toks) (by rw [b7 nes,he];exact aaJ) (.inl rfl)
  (fun b q hb z=>(abZ _ _ _ _ hb).trans z) ⟨_,hx2⟩ (ug hx2);have I3:=I2.write (x:=s.heap.objs.size) (e:=s.heap.objs.size) (o:=qm s.heap.objs.size [(f,y)]) (h':=h') (t':=s.toks+1+1) (by rw [b7 nes.symm,a_];exact aaJ) (.inl rfl) (fun b q hb z=>?_) (let ⟨o,_,_,ho,_⟩:=hn;⟨o,ho⟩)
  (yu hn (fun g=>?_) fun g hg=>?_)
 ·have e1:upd (upd (upd H s.heap.objs.size (qm s.heap.objs.size [])) e (iw e C (some s.heap.objs.size))) s.heap.objs.size (qm s.heap.objs.size [(f,y)])=upd (upd H e (iw e C (some s.heap.objs.size))) s.heap.objs.size (qm s.heap.objs.size [(f,y)]):=by
   funext b;unfold upd;split
   ·rfl
   ·split
    ·rfl
    ·rfl
  rw [e1] at I3;exact I3
 ·by_cases hbe:b=e
  ·subst hbe;have z':some q=some _:=z.symm.trans hx2;cases z';exact hx'
  ·have z1:(s.heap.push emptyDict).get? b=some q:=(abZ _ _ _ _ hbe).symm.trans z;have z2:s.heap.get? b=some q:=by
    rcases Heap.get?_push_cases z1 with z|z
    ·exact absurd z.1 hb
    ·exact z
   exact hk b q hbe z2
 ·have e2:List.lookup g [(f,y)]=if g=f then some y else none:=gB f g y []
  rw [e2];by_cases q:g=f
  ·rw [aad q,aad q];exact ry
  ·rw [aac q,aac q];exact aaJ
 ·by_cases q:g=f
  ·subst q;simp
  ·exact absurd (aac q) hg
theorem Af (N:ExcBaseFacts B Y initId bm) (O:kI X.K C B Y) (P:findIn X.K (.ref C) "__init__" = some (some (.ref f))) (R:isFn X.K (.ref f)=true) (F:cD X.prog X.w X.K X.mg X.base CX k f fd ps sp) (S:dm (k+1) X.A)
 (T:Binds X.K fd ps ds) (hd:Vals Z ds) (U:fX CX X E) (I:Inv X c p H s) (r:Vals vs i) (W:i.length≤sizeLine)
 (h:∀ e,H e=none->sp (.ref e::(vs++Z)) (upd H e (iw e C none)) (fun v x=>v=.non/\Q (.ref e) x) E) :
 wpAny (model X.prog X.w) X.A (call (.ref C) i) (EP X c p Q) X.xe s:=by
 obtain ⟨a,g,d,t,A⟩:=s;have w:=h (a.objs.size+1) (I.hok.fresh (aba _));have m:((a.push { cls:=.type "tuple",data:=.seq i.toArray }).push (j8 C a.objs.size)).get? (a.objs.size+1)=some (j8 C a.objs.size):=by
  have:=aay (a.push { cls:=.type "tuple",data:=.seq i.toArray }) (o:=j8 C a.objs.size) rfl
  rwa [aaV] at this
 have n:Inv X c p (upd H (a.objs.size+1) (iw (a.objs.size+1) C none)) ⟨(a.push { cls:=.type "tuple",data:=.seq i.toArray }).push (j8 C a.objs.size),g,d,t,A⟩:=
  I.laid (h':=(a.push { cls:=.type "tuple",data:=.seq i.toArray }).push (j8 C a.objs.size)) (t':=t) (fun b u q=>aak _ (aak _ q)) (aba _) (ug m);have r2:Vals (V.ref (a.objs.size+1)::(vs++Z)) (Value.ref (a.objs.size+1)::(i++ds)):=.cons rfl (r.append hd);have z:(Value.ref (a.objs.size+1)::i++ds).length=ps.length:=by
  have e:=r2.length;rw [F.len _ _ _ _ w] at e;exact e.symm
 refine aa3 (yF N (lQ I.kIn O.mks) (looks_findIn I.kIn P) (fun l=>bind_fn I.kIn l (aaS.mp R)) W (codeAny_mono (F.run _ X.stack _ _ ⟨Value.ref (a.objs.size+1)::i,[]⟩ (Value.ref (a.objs.size+1)::(i++ds)) _ _ E (S.make C i []) (n.env0.make C i []) (T _ (Value.ref (a.objs.size+1)::i) n.kIn z) r2 w) fun r y j=>?_))
 match r,j with
 |.error e,j=>exact U c p _ _ e y n j
 | .ok (.ret u),j=>obtain ⟨v,D,G,J,L,M⟩:=n.after j;subst L;exact ⟨J,⟨V.ref (a.objs.size+1),D,G,rfl,M⟩⟩
def LK (C:Z0) (g:Sp) (a:List V) (E:XK) (t:TA):TE:=fun c H Q=>t c H fun vs b=>∀ e,b e=none->g (.ref e::(vs++a)) (upd b e (iw e C none)) (fun v d=>v=.non/\Q (.ref e) d) E
theorem vY (v:ExcBaseFacts B R S bm) (j:kI X.K C B R) (w:findIn X.K (.ref C) "__init__" = some (some (.ref f))) (y:isFn X.K (.ref f)=true) (F:cD X.prog X.w X.K X.mg X.base W k f Z U sp) (z:dm (k+1) X.A)
 (A:Gl X x) (D:X.mg x=some (.ref C)) (G:Binds X.K Z U Y) (hd:Vals T Y) (J:fX W X E) (L:PA X (e::c) t) (g:(x == ("__debug__" : Str))=false:=by decide) (M:starEach (e::c) X.env=(false,eval e X.env)::starEach c X.env:=by rfl) (i:(backTo a (starEach c X.env)).any (·.1)=false:=by rfl) (N:U.length≤20:=by decide) :
 PE X (.Call (.Name x p) (e::c) [] a) (LK C sp T E t):=by
 intro b s o H Q I h;refine aa4 (jD I A D ?_ g);refine callWith_K (h₀:=X.base) I.ok.mod.kin j.kp (eG (L a b s o H _ I h) fun l m ⟨vs,O,d,r,q⟩=>⟨d.kIn,?_⟩) M i;refine Af v j w y F z G hd J d r ?_ q;have n:=F.len _ _ _ _ (q (m.heap.objs.size) (d.hok.fresh (aae _)));rw [aaw,aao] at n;have P:=r.length;exact aaj (show l.length≤20 by omega) (by decide)
def FW (H:Hp) (a:Z0):Hp:=fun b=>if b=a then none else H b
theorem qG:FW H a a=none:=aad rfl
theorem yC (h:b≠a):FW H a b=H b:=aac h
theorem mF (h:H b=none):FW H a b=none:=by
 unfold FW;split
 ·rfl
 ·exact h
theorem Inv.FW (I:Inv X y A H s) (w:H e=some (iw e C dd)):Inv X y A (L2.FW H e) s:=by
 have up:∀ b u,H b=some u->u≠iw e C dd->L2.FW H e b=some u:=fun b u z d=>by
  by_cases q:b=e
  ·subst q;rw [w] at z;exact absurd (aaQ z).symm d
  ·rw [yC q];exact z
 refine ⟨I.ok,I.os,I.bare,⟨I.base.keep,I.base.slot,fun b o z n f=>mF (I.base.free b o z n f),I.base.there,fun b a z=>up b _ (I.base.tups b a z) (by intro q;cases q),fun b o u z=>up b _ (I.base.frzs b o u z) (by intro q;cases q),fun b g z=>?_⟩,I.loc,I.cell,mF I.free,fun x c z=>mF (I.freeC x c z),fun p h=>?_,fun b u z=>?_,I.len⟩
 ·obtain ⟨m,q⟩:=I.base.tbls b g z;exact ⟨m,up b _ q (by intro q;cases q)⟩
 ·obtain ⟨i,j,l⟩:=I.pin p h;exact ⟨i,mF j,l⟩
 ·by_cases q:b=e
  ·subst q;rw [qG] at z;cases z
  ·rw [yC q] at z;exact (I.hok b u z).stay (fun c v _ r=>r) (fun c r=>up c _ r (by intro q;cases q)) fun c a r=>up c _ r (by intro q;cases q)
def O2 (X:Cx) (B a:String) (W:XK) (d:TE):TS:=fun _ c H=>d c H fun x b=>∃ e C dd,x=.ref e/\b e=some (iw e C dd)/\X.H₀ e=none/\kI X.K C B a/\W (.ref C) dd (FW b e)
theorem vg (S:PE X ex te) (f:X.calm=true) (T:X.ex=[])
 (U:∀ (a:Zi) (i:St) (A:Hp) (E:Z1) (e:Z0) (cls:Z6) (dd:Zg),Inv X a i A E->jd E.heap A X.s₀.heap e cls dd->W cls dd A->X.xe (.ref e) E):PS X (.Raise (some ex) none R) (O2 X B newId W te):=by
 intro a s i H D I h;rw [arm_exec_Raise];have j:∀ F:Sem Value,wpAny (model X.prog X.w) X.A F (EP X a i fun x p=>∃ e C dd,x=.ref e/\p e=some (iw e C dd)/\X.H₀ e=none/\kI X.K C B newId/\W (.ref C) dd (L2.FW p e)) X.xe s->wpAny (model X.prog X.w) X.A (raiseStmt X.env (some F) none) (SP X a D) X.xe s:=by
  intro F n;unfold raiseStmt;refine aaa (eG n fun v b ⟨x,p,c,r1,e,C,dd,r,w,h0,y,q⟩=>?_);subst r;cases (show v=Value.ref e from r1);obtain ⟨a0,J⟩:=tX c w;have Y:=lQ (M:=model X.prog X.w) c.kIn y.mks;obtain ⟨⟨oc,od,cd,sl,hC,e1,e2,e4⟩,made,l,m,L,N,O,P,call,Q⟩:=Y;have Z:Looks (model X.prog X.w) b.heap (typeOf (.ref e)) (.ref C):=(Looks.ld J).andThen .now;have G:X.xe (.ref e) b:=by
   refine U a i _ b e (.ref C) dd (c.FW w) ⟨_,_,J,rfl,rfl,rfl,?_,qG,.inl rfl⟩ q;cases z:X.s₀.heap.get? e with
   |none=>rfl
   | some o=>have:=c.base.free e o z h0 (by rw [T];simp);rw [w] at this;cases this
  have T2:Looks (model X.prog X.w) b.heap (typeOf (.ref C)) (.type "type"):=looks_typeIn c.kIn y.ty;have T3:Looks (model X.prog X.w) b.heap (isInstance (.ref e) (.type "BaseException")) true:=Z.andThen N;have hh:X.A.handled=none:=c.ok.hd f;clear c r1 n S h I y made l m L O P call Q;obtain ⟨hp,g,d,tk,os⟩:=b
  repeat (first|with_reducible refine abY J ?_|with_reducible refine T3.at ?_|with_reducible refine Z.at ?_|with_reducible refine T2.at ?_|wp_step)
  exact wpAny_raiseNew_none hh G
 first
  |exact aaa (aa2 (j _ (aaa (eG (S a s i H _ I h) fun v b z=>aaa (aa2 (aab z))))))
  |(simp only [evalOpt,Option.map];exact aaa (aa2 (j _ (aaa (eG (S a s i H _ I h) fun v b z=>aaa (aa2 (aab z)))))))
theorem F_ (I:Inv X W Z H s) (N:H e=some (iw e C (some a))) (hd:H a=some (qm a fs)) (O:fs.length<1000) (j:kI X.K C B Y) (P:takerIn X.K C f=some none) (R:RelV y u)
 (h:∀ m,Inv X W Z (upd H a (qm a (d_ f y fs))) m->Q () m):wpAny (model X.prog X.w) A (setAttr (.ref e) f u) Q E s:=by
 obtain ⟨S,n⟩:=tX I N;obtain ⟨p,v,r,w⟩:=(show eU X.prog X.w H s.heap a (qm a fs) from I.hok a _ hd).1;obtain ⟨od,i,_⟩:=nZ v;have J:InstAt s.heap e _ C (some od):=⟨n,rfl,rfl,i⟩;obtain ⟨cd,T,U,M,d,_⟩:=j.cd;refine set_plain I.kIn J j.sa (Ss (s:={ s with toks:=s.toks+1 }) I.kIn J j P fun b=>ym (s:={ s with toks:=s.toks+1 }) (ns:=fs.map (·.1)) I.kIn n M d v w (by rw [aah];exact O) fun l c D=>?_);refine h _ (I.write (x:=a) (e:=a) (h':=l) (t':=s.toks+1+1) (by rw [hd];exact aaJ) (.inl rfl) (fun b q F z=>(D.2 b F).trans z) (let ⟨o,_,_,L,_⟩:=c;⟨o,L⟩) (yu c (fun g=>?_) fun g G=>?_))
 ·show jV ((d_ f y fs).lookup g) (if g=f then some u else p g);rw [gB];by_cases q:g=f
  ·rw [aad q,aad q];exact R
  ·rw [aac q,aac q];exact r g
 ·by_cases q:g=f
  ·rw [q];exact (jU f y fs).1
  ·refine (jU f y fs).2 g (w g fun z=>G ?_);show (if g=f then some u else p g)=none;rw [aac q];exact z
def Q5 (K:Z2) (B b:String) (h i:TE) (f:Str):TS:=fun D d H=>i d H fun y g=>h d g fun x c=>∃ e C,x=.ref e/\kI K C B b/\takerIn K C f=some none/\
 ((c e=some (iw e C none)/\∀ a,c a=none->D.nx d (upd (upd c e (iw e C (some a))) a (qm a [(f,y)])))∨ ∃ a fs,c e=some (iw e C (some a))/\c a=some (qm a fs)/\fs.length<1000/\D.nx d (upd c a (qm a (d_ f y fs))))
theorem zM (R:PE X o w) (S:PE X a z) (T:swapsWith a (some (.Attribute o f c)) d.line X.env=pure false):PS X (.Assign [.Attribute o f c] a d) (Q5 X.K B newId w z f):=by
 intro b s g H D I h;refine plainObj_wpAny_Assign_Attribute (eG (S b s g H _ I h) fun u F ⟨y,G,J,m,q⟩=>eG (R b F g G _ J q) fun L U ⟨x,W,n,M,e,C,N,p,r,q2⟩=>?_) T;subst N;cases (show L=Value.ref e from M);rcases q2 with ⟨l,q2⟩|⟨v,fs,l,hd,P,q2⟩
 ·exact Fw n l p r m fun v O i j=>⟨g,_,j,q2 v i⟩
 ·exact F_ n l hd P p r m fun O j=>⟨g,_,j,q2⟩
theorem pK (j:ExcBaseFacts B A f bm):ji X (.builtin f) (fun L H Q=>∃ e C dd y,L=[.ref e,y]/\H e=some (iw e C dd)/\kI X.K C B A/\Q .non H):=by
 intro i s P H L us Q I r h;obtain ⟨e,C,dd,y,rfl,D,W,q⟩:=h;cases r with
 | cons r1 r=>
   cases r with
   | cons r2 r=>
     cases r;rename_i E p;cases (show E=Value.ref e from r1);obtain ⟨F,G⟩:=tX I D;have Y:=lQ (M:=model X.prog X.w) I.kIn W.mks;have N:Looks (model X.prog X.w) s.heap (typeOf (.ref e)) (.ref C):=(Looks.ld G).andThen .now;have S:Looks (model X.prog X.w) s.heap (isInstance (.ref e) (.type B)) true:=N.andThen Y.isB;have n:=j.noStar;refine aa3 (codeAny_call_builtin j.init.plain j.initEntry ?_);simp only [checkBuiltinCall,j.initKind,j.initSplit,j.initRow];refine aaa (S.here ?_);simp only [Bool.not_true,abo,if_false];obtain ⟨oc,od,cd,sl,Z,e1,e2,e4⟩:=Y.obj;have T2:=Y.typ;obtain ⟨c,g,d,tk,J⟩:=s;unfold Bind.checkArgs
     repeat (first|with_reducible refine abY G ?_|with_reducible refine abY Z ?_|with_reducible refine N.at ?_|wp_step)
     have l:∀ a,EP X i P Q .none ⟨(c.push { cls:=Value.type "tuple",data:=Data.seq #[p] }).update e (Obj.mapFields fun x=>x.setIfInBounds 0 (Value.ref c.objs.size)),g,d,a,J⟩:=fun a=>by
      have v:c.get? e=some { cls:=.ref C,dict:=dd,data:=.fields #[F,.none,.none,.none,.bool false,.none] }:=G;have w:=aak (h:=c) { cls:=Value.type "tuple",data:=Data.seq #[p] } v;have m:=abI (Obj.mapFields fun x=>x.setIfInBounds 0 (Value.ref c.objs.size)) w rfl;have T:Inv X i P H ⟨c.push { cls:=Value.type "tuple",data:=Data.seq #[p] },g,d,a,J⟩:=I.kept (s:=⟨c,g,d,tk,J⟩) (t':=a) fun b o z=>aak _ z;have O:=T.write (x:=e) (e:=e) (o:=iw e C dd) (h':=(c.push { cls:=Value.type "tuple",data:=Data.seq #[p] }).update e (Obj.mapFields fun x=>x.setIfInBounds 0 (Value.ref c.objs.size))) (t':=a) (by rw [D];exact aaJ) (.inl rfl) (fun b q R z=>(abZ _ _ _ _ R).trans z) ⟨_,m⟩ (ug (a0:=.ref c.objs.size) m);have U:upd H e (iw e C dd)=H:=by
       funext b;unfold upd;split
       ·rename_i q;rw [q,D]
       ·rfl
      rw [U] at O;exact ⟨.non,H,O,rfl,q⟩
     cases F <;> first|exact aab (aab (l _))|exact wpAny_letGo (aab (l _))
section
variable {X:Cx} {CX:rK} {k:Nat} {f C CS:Z0} {fd:Z3} {ps:Zd} {sp:Sp} {dvs:List V} {ds:Ze} {E:XK} {m tn cn:Str} {T id:String} {p pos apos:Pos} {e:Z9} {es:Zl} {t:TA} {r:List V->Hp->VK->Prop} {mc:Z6}
def KD (r:List V->Hp->VK->Prop) (t:TA):TE:=fun a H Q=>t a H fun vs b=>r vs b Q
theorem oR {c:Sem Bool} (x:Gl X tn) (y:X.mg tn=none) (z:bootBuiltins tn=some (.type T)) (A:typeOf (.type T)=pure (.type "type")) (B:Manifest.isStub T=false) (D:findCls X.K (.type T) (.type "type") m=some (.val (.builtin id))) (G:ji X (.builtin id) r) (J:PA X (e::es) t) (L:handedIn (.builtin id)=true:=by rfl)
 (M:tn ≠ "__name__":=by decide) (d:(tn == ("__debug__" : Str))=false:=by decide) (g:starEach (e::es) X.env=(false,eval e X.env)::starEach es X.env:=by rfl) (i:(backTo pos (starEach es X.env)).any (·.1)=false:=by rfl)
 (j:eval (.Call (.Attribute (.Name tn p) m apos) (e::es) [] pos) X.env=(do
  let l ← eval (.Name tn p) X.env
  standAt apos.atName
  let (f,b) ← holding [l] (getMethod l m c)
  callWith pos f b (backTo pos (starEach (e::es) X.env)) (backToKw pos (keywordEach [] X.env))):=by rfl) :
 PE X (.Call (.Attribute (.Name tn p) m apos) (e::es) [] pos) (KD r t):=by
 intro a s n H Q I h;obtain ⟨N,F⟩:=I.fr;refine methodCall_KW (pl:=c) (mz I x y z (method_type F I.ok.mod.kin A B D L ?_) M d) j;exact callWith_builtin1 (eG (J pos a _ n H _ (I.tok _) h) fun o q ⟨vs,v,w,r1,q1⟩=>G a q n v vs o Q w r1 q1) g i
theorem pR (w:Gl X cn) (x:X.mg cn=some (.ref CS)) (y:specialIn X.K (.ref CS) "__getattribute__" = some (some (.builtin "type.__getattribute__"))) (d:readsIn X.K CS mc=true) (z:findCls X.K (.ref CS) mc m=some (.val (.ref f))) (hk:keepIn X.K (.ref f)=true)
 (F:cD X.prog X.w X.K X.mg X.base CX k f fd ps sp) (A:dm k X.A) (B:Binds X.K fd ps ds) (hd:Vals dvs ds) (D:fX CX X E) (G:PA X (e::es) t) (g:(cn == ("__debug__" : Str))=false:=by decide)
 (i:starEach (e::es) X.env=(false,eval e X.env)::starEach es X.env:=by rfl) (j:(backTo pos (starEach es X.env)).any (·.1)=false:=by rfl)
 (l:eval (.Call (.Attribute (.Name cn p) m apos) (e::es) [] pos) X.env=(do
  let o ← eval (.Name cn p) X.env
  standAt apos.atName
  let (f,a) ← holding [o] (getMethod o m c)
  callWith pos f a (backTo pos (starEach (e::es) X.env)) (backToKw pos (keywordEach [] X.env))):=by rfl) :
 PE X (.Call (.Attribute (.Name cn p) m apos) (e::es) [] pos) (BX sp dvs E t):=by
 intro b s v H Q I h;refine methodCall_KW (pl:=c) (jD I w x (method_cls I.kIn y (cls_value I.kIn d z rfl ?_)) g) l;refine callWith_K (first:=[]) (h₀:=X.base) I.ok.mod.kin hk (eG (G pos b _ v H _ (I.tok _) h) fun J L ⟨vs,M,n,r,q⟩=>⟨n.kIn,?_⟩) i j;exact pQ F A B hd D n r q
end
end L2
namespace L2
open PySem PySem.Spec PyProof.Rows
theorem Inv.stepN {X:Cx} {H H':Hp} {s:Z1} {h':Z7} {g':Array GenState} {t':Nat} {d':Drawn} {ch:Zh} (I:Inv X cW σ H s)
 (h:∀ b∈ch,X.s₀.heap.get? b=none/\b≠X.env.locals/\(∀ x c,X.env.cells.lookup x=some c->c≠b)/\∀ p∈X.pn++cW,p.1≠b)
 (keep:∀ b o,b≠X.env.locals->b∉X.fs->b∉ch->s.heap.get? b=some o->H b=none->h'.get? b=some o)
 (A:∀ b o,b≠X.env.locals->b∈X.fs->b∉ch->s.heap.get? b=some o->H b=none->∃ P,h'.get? b=some { o with slots:=P }) (free:∀ b o,b∉ch->s.heap.get? b=some o->H b=none->H' b=none)
 (C:∀ b o,b∉ch->s.heap.get? b=some o->∃ F,h'.get? b=some F)
 (L:∀ b y,H b=some (.tup y)->H' b=some (.tup y)) (M:∀ b o u,H b=some (.frz o u)->H' b=some (.frz o u)) (N:∀ b O,H b=some (.tbl O)->∃ G,H' b=some (.tbl (O++G)))
 (ns:∀ m,s.heap.Ns X.env.locals m->h'.Ns X.env.locals m) (R:kO X.prog X.w H' h') (hg:AllBare g') :
 Inv X cW σ H' { s with heap:=h',gens:=g',drawn:=d',toks:=t' }:=by
 have J:∀ b o,X.s₀.heap.get? b=some o->b≠X.env.locals:=fun b o e=>aap (aas (aam e) I.ok.above);have w:∀ b o,X.s₀.heap.get? b=some o->b∉X.ex->b∉ch:=fun b o e a B=>by rw [(h b B).1] at e;cases e
 have f:∀ x c,X.env.cells.lookup x=some c->∀ v,s.heap.IsCell c v->h'.IsCell c v:=fun x c e v ⟨o,D,hd⟩=>by
  have g:c∉ch:=fun z=>(h c z).2.2.1 x c e rfl;by_cases T:c∈X.fs
  ·obtain ⟨P,q⟩:=A c o (I.cne x c e) T g D (I.freeC x c e);exact ⟨_,q,hd⟩
  ·exact ⟨o,keep c o (I.cne x c e) T g D (I.freeC x c e),hd⟩
 refine ⟨I.ok,I.os,hg,⟨fun b o e n B a=>?_,fun b o e n B a=>?_,fun b o e n a=>?_,fun b o e a=>?_,fun b y e=>L b y (I.base.tups b y e),fun b o y e=>M b o y (I.base.frzs b o y e),fun b O e=>?_⟩,?_,fun x c e=>?_,?_,fun x c e=>?_,fun p S=>?_,R,I.len⟩
 ·exact keep b o (J b o e) B (w b o e a) (I.base.keep b o e n B a) (I.base.free b o e n a)
 ·obtain ⟨P,j⟩:=I.base.slot b o e n B a;obtain ⟨Q,E⟩:=A b _ (J b o e) B (w b o e a) j (I.base.free b o e n a);exact ⟨Q,E⟩
 ·obtain ⟨F,j⟩:=I.base.there b o e a;exact free b F (w b o e a) j (I.base.free b o e n a)
 ·obtain ⟨F,j⟩:=I.base.there b o e a;exact C b F (w b o e a) j
 ·obtain ⟨W,j⟩:=I.base.tbls b O e;obtain ⟨Y,E⟩:=N b _ j;exact ⟨W++Y,by rw [E,Array.append_assoc]⟩
 ·obtain ⟨m,Z,hl⟩:=I.loc;refine ⟨m,ns m Z,fun i x v j E U=>?_⟩;obtain ⟨u,r,l⟩:=hl i x v j E U;refine ⟨u,r,?_⟩;rcases l with l|⟨k,c,e,z⟩
  ·exact .inl l
  ·exact .inr ⟨k,c,e,f x c e _ z⟩
 ·obtain ⟨v,z⟩:=I.cell x c e;exact ⟨v,f x c e v z⟩
 ·obtain ⟨m,⟨o,_,_,D,_⟩,_⟩:=I.loc;exact free _ o (fun z=>(h _ z).2.1 rfl) D I.free
 ·obtain ⟨v,o,D,hd⟩:=I.cell x c e;exact free c o (fun z=>(h c z).2.2.1 x c e rfl) D (I.freeC x c e)
 ·obtain ⟨e,n,ne,nf,d⟩:=I.pin p S;have g:p.1∉ch:=fun z=>(h p.1 z).2.2.2 p S rfl;exact ⟨keep p.1 p.2 ne nf g e n,free p.1 p.2 g e n,ne,nf,d⟩
open PySem.SeqAt PySem.W Builtin.ObjectAttr
theorem Ml {X:Cx} {s s0:Z1} {A:Z8} {Q:Unit->Shared->Prop} {E:Zb} (I0:Inv X cW σ0 H0 s0) (I:Inv X cW σ H s) (hst:X.stack=X.env::X.outer) (y:X.env.frame=some X.env.locals) (O:A.frames=some X.stack) (hex:X.ex=[]) (hth:∀ b o,s0.heap.get? b=some o->∃ o',s.heap.get? b=some o') (x:jd s.heap H s0.heap e cls dd)
 (h:∀ i,jd i H s0.heap e cls dd->Inv X cW σ H { s with heap:=i }->Q () { s with heap:=i }):wpAny (model X.prog X.w) A (noteFrame (.ref e) X.env) (fun _ s2=>wpAny (model X.prog X.w) A (setFlight (.ref e) none) Q E s2) E s:=by
 have hl:=I.stack;rw [hst] at O hl;obtain ⟨oe,vs,h1,h2,h3,h4,h5,h6,h7⟩:=x;have free:∀ b∈(X.env::X.outer).filterMap (·.frame),H b=none:=fun b a=>I.stkFree b (by rw [hst];exact a);have aa:∀ T,s0.heap.get? T=none->X.s₀.heap.get? T=none/\T≠X.env.locals/\(∀ x c,X.env.cells.lookup x=some c->c≠T)/\∀ p∈X.pn++cW,p.1≠T:=fun T j=>by
  refine ⟨?_,?_,fun x c z q=>?_,fun p hp q=>?_⟩
  ·cases z:X.s₀.heap.get? T with
   |none=>rfl
   | some o=>obtain ⟨o',q⟩:=I0.base.there T o z (by rw [hex];simp);rw [j] at q;cases q
  ·rintro rfl;obtain ⟨_,⟨o,_,_,M,_⟩,_⟩:=I0.loc;rw [j] at M;cases M
  ·obtain ⟨v,o,M,_⟩:=I0.cell x c z;rw [q,j] at M;cases M
  ·have:=(I0.pin p hp).1;rw [q,j] at this;cases this
 have ab:∀ (L:Zh) (i:Z7) (T:Z0) (d F:Obj) (g C:Zf),(∀ b∈L,s0.heap.get? b=none/\H b=none)->s0.heap.get? T=none->T≠e->H T=none->i.get? e=some d->d.cls=oe.cls->d.dict=oe.dict->d.data=.fields g->g[1]?=some (.ref T)->i.get? T=some F->F.data=.fields C->C[3]?=some .none->
  (∀ b o,b∉L->b∉(X.env::X.outer).filterMap (·.frame)->s.heap.get? b=some o->i.get? b=some o)->(∀ b o,b∉L->s.heap.get? b=some o->∃ sl,i.get? b=some { o with slots:=sl })->Q () { s with heap:=i }:=by
  intro L i T d F g C N j ai aj P R S U W Y Z g8 kp G;refine h i ⟨d,g,P,R.trans h2,S.trans h3,U,h5,h6,.inr ⟨T,F,C,W,ai,Y,Z,g8,j,aj⟩⟩ ?_;have ac:∀ b,b≠X.env.locals->b∉X.fs->b∉(X.env::X.outer).filterMap (·.frame):=fun b a hn l=>by
   rw [abO,y] at l;rcases aaf.mp l with q|l
   ·exact a q
   ·exact hn l
  refine I.stepN (ch:=L) (g':=s.gens) (d':=s.drawn) (t':=s.toks) (fun b a=>aa b (N b a).1) (fun b o hL hf B z _=>kp b o B (ac b hL hf) z) (fun b o _ _ B z _=>G b o B z) (fun b o _ _ n=>n) (fun b o B z=>let ⟨sl,q⟩:=G b o B z;⟨_,q⟩) (fun _ _ z=>z) (fun _ _ _ z=>z) (fun b ps z=>⟨#[],by rw [z];simp⟩) (fun m l=>?_) (fun b u a=>?_) I.bare
  ·obtain ⟨o,es,ep,M,hd,r⟩:=l;have af:X.env.locals∉L:=fun z=>(aa _ (N _ z).1).2.1 rfl;obtain ⟨sl,q⟩:=G _ o af M;exact ⟨_,es,ep,q,hd,r⟩
  ·refine (I.hok b u a).stay (fun c v B q=>kp c v (fun z=>?_) (fun l=>?_) q) (fun _ q=>q) fun _ _ q=>q
   ·have:=(N c z).2;rcases B with rfl|w
    ·rw [this] at a;cases a
    ·rw [this] at w;cases w
   ·have:=free c l;rcases B with rfl|w
    ·rw [this] at a;cases a
    ·rw [this] at w;cases w
 have D:∀ T,s.heap.objs.size≤T->s0.heap.get? T=none/\T≠e/\H T=none:=fun T j=>by
  refine ⟨?_,fun q=>?_,I.hok.fresh j⟩
  ·cases z:s0.heap.get? T with
   |none=>rfl
   | some o=>obtain ⟨o',q⟩:=hth T o z;exact absurd (aas (aam q) j) (aaP _)
  ·subst q;exact absurd (aas (aam h1) j) (aaP _)
 unfold noteFrame;simp only [y];rcases h7 with h7|⟨T,F,C,t1,t2,t3,t4,t5,t6,t7⟩
 ·refine aaa (aaD h1 h4 h7 ?_);rw [aac (by decide)];refine tU O hl y h1 h4 (abj.mp h7).1 fun i T d F g C j P R S U W Y Z g8 kp G=>?_;obtain ⟨n1,n2,n3⟩:=D T j;exact ab [e] i T d F g C (fun b a=>by cases aai.mp a;exact ⟨h5,h6⟩) n1 n2 n3 P R S U W Y Z g8 (fun b o a l z=>kp b o (fun q=>a (by simp [q])) l z) fun b o a z=>G b o (fun q=>a (by simp [q])) z
 ·refine aaa (aaD h1 h4 t1 ?_);rw [aad (show (Value.ref T != Value.none)=true by simp)];refine aaa (aaD t3 t4 t5 ?_);rw [aac (show ¬ ((Value.none == rawInt X.env.locals)=true) by simp [rawInt])];refine aaa (abu t3 t4 (abj.mp t5).1 ?_);have f:∀ b,b≠T->(s.heap.update T (Obj.mapFields (·.setIfInBounds 3 Value.none))).get? b=s.heap.get? b:=fun b a=>abm _ _ (aaC a);have ag:∀ b o,s.heap.get? b=some o->(∀ vs,o.data≠.fields vs)->b≠T:=fun b o a J q=>by subst q;rw [t3] at a;cases a;exact J C t4
  refine tU (s:={ s with heap:=s.heap.update T (Obj.mapFields (·.setIfInBounds 3 Value.none)) }) O (hl.of_keeps fun b o a J=>⟨o,(f b (ag b o a J)).trans a,rfl⟩) y ((f e (aaC t2)).trans h1) h4 (abj.mp t1).1 fun i T' d ad g ae j P R S U W Y Z g8 kp G=>?_;have ah:s.heap.objs.size≤T':=by have z:(s.heap.update T (Obj.mapFields (·.setIfInBounds 3 Value.none))).objs.size=s.heap.objs.size:=Heap.size_update _ _ _;exact aaj (abS z.symm) j
  obtain ⟨n1,n2,n3⟩:=D T' ah;refine ab [e,T] i T' d ad g ae (fun b a=>?_) n1 n2 n3 P R S U W Y Z g8 (fun b o a l z=>kp b o (fun q=>a (by simp [q])) l ((f b fun q=>a (by simp [q])).trans z)) fun b o a z=>G b o (fun q=>a (by simp [q])) ((f b fun q=>a (by simp [q])).trans z);rcases aaf.mp a with rfl|a
  ·exact ⟨h5,h6⟩
  ·cases aai.mp a;exact ⟨t6,t7⟩
theorem Ld {h:Z7} {f:Obj->Obj} (e:h.get? a=some o) (j:f o=o):h.update a f=h:=by
 obtain ⟨b,l⟩:=h;have c:b[a]?=some o:=by
  unfold Heap.get? at e;dsimp only at e;split at e
  ·cases e
  ·exact e
 show (⟨b.modify a f,l⟩:Z7)=⟨b,l⟩;congr 1;obtain ⟨d,g⟩:=abj.mp c;refine Array.ext (by simp) fun i m n=>?_;rw [Array.getElem_modify];split
 ·rename_i q;subst q;rw [g,j]
 ·rfl
theorem Inv.drop {r:St} (I:Inv X e r H s) (i:Nat):Inv X e (r.set i none) H s:=by
 obtain ⟨ok,o,b,c,⟨m,p,q⟩,cell,free,a,f,g,len⟩:=I;refine ⟨ok,o,b,c,⟨m,p,fun j x v l d n=>?_⟩,cell,free,a,f,g,by simpa using len⟩;by_cases h:j=i
 ·subst h;rw [ab0] at d;split at d <;> simp_all
 ·rw [abQ (aaC h)] at d;exact q j x v l d n
theorem pC {X:Cx} {σ:St} {Q:Unit->Shared->Prop} (I:Inv X cW σ H s) (hN:X.N.Nodup) (L:X.N[i]?=some x) (f:X.env.scope.names.lookup x=some .local)
 (h:∀ Y,Inv X cW (σ.set i none) H Y->Q () Y):wpAny M A (do bindName X.env x .none;unbindBehindTheSuite X.env x U) Q E s:=by
 have D:(X.env.scope.kind == .class || (X.env.scope.kind == .module && X.env.locals != X.env.globals))=false:=by rw [I.ok.kind];rfl
 have g:i<σ.length:=by rw [I.len];exact (aaG.mp L).1
 refine aaa (wpAny_bindName (j4 I hN L (.inl f) (v:=.non) (u:=.none) rfl (fun s1 C=>?_) (.inr f)));obtain ⟨m,hn,hl⟩:=id C.loc;obtain ⟨u,_,lk⟩:=hl i x .non L (by rw [abP g]) (.inl f);have hv:m x=some u:=by
  rcases lk with ⟨_,z⟩|⟨k,_⟩
  ·exact z
  ·unfold Env.kindOf at k;rw [f] at k;rcases k with k|k <;> cases k
 unfold unbindBehindTheSuite;refine wpAny_onRaise (wpAny_unbindName_local f hn hv D fun h' u' N l=>?_);have Z:=C.drop i;rw [List.set_set] at Z;obtain ⟨ok,os,F,a,⟨m2,aa,ab⟩,cell,free,w,R,S,len⟩:=id Z;obtain ⟨oL,_,_,ac,_⟩:=id hn;have r:∀ b o,X.s₀.heap.get? b=some o->b≠X.env.locals:=fun b o e=>aap (aas (aam e) ok.above);refine h _ ⟨ok,os,F,⟨fun b o e n O f=>?_,fun b o e n O f=>?_,a.free,fun b o e f=>?_,a.tups,a.frzs,a.tbls⟩,⟨_,N,fun j y v' B G e3=>?_⟩,fun y c e=>?_,free,w,fun p hp=>?_,fun b ob e=>?_,len⟩
 ·exact (l.2 b (r b o e)).trans (a.keep b o e n O f)
 ·obtain ⟨sl,B⟩:=a.slot b o e n O f;exact ⟨sl,(l.2 b (r b o e)).trans B⟩
 ·obtain ⟨o',B⟩:=a.there b o e f;exact ⟨o',(l.2 b (r b o e)).trans B⟩
 ·have P:j≠i:=fun q=>by subst q;rw [abP g] at G;cases G
  rw [abQ (aaC P)] at G;obtain ⟨T,r',q⟩:=hl j y v' B (by rw [abQ (aaC P)];exact G) e3;refine ⟨T,r',?_⟩;rcases q with ⟨k,e⟩|⟨k,c,e,z⟩
  ·refine .inl ⟨k,?_⟩;have:y≠x:=fun e=>P (mW hN B (e ▸ L));simp [this,e]
  ·exact .inr ⟨k,c,e,z.sameBut l (C.cne y c e)⟩
 ·obtain ⟨W,z⟩:=C.cell y c e;exact ⟨W,z.sameBut l (C.cne y c e)⟩
 ·obtain ⟨e,n,ne,nf,d⟩:=R p hp;exact ⟨(l.2 p.1 ne).trans e,n,ne,nf,d⟩
 ·refine (S b ob e).stay (fun c W J q=>(l.2 c ?_).trans q) (fun _ q=>q) fun _ _ q=>q;rintro rfl;rcases J with rfl|J
  ·rw [free] at e;cases e
  ·rw [free] at J;cases J
theorem yw {s L:Z1} {Q:Unit->Shared->Prop} (x:jd s.heap H L.heap e cls dd) (h:Q () s):wpAny M A (setFlight (.ref e) none) Q E s:=by
 obtain ⟨B,vs,b,p,C,j,D,F,g⟩:=x;unfold setFlight;rcases g with g|⟨T,y,a,z,G,m,n,o,I,J⟩
 ·refine aaa (aaD b j g ?_);rw [aac (by decide)];exact aab h
 ·refine aaa (aaD b j z ?_);rw [aad (show (Value.ref T != Value.none)=true by simp)];refine abu m n (abj.mp o).1 ?_;have:s.heap.update T (Obj.mapFields (·.setIfInBounds 3 ((none:Zg).elim Value.none fun f=>rawInt f)))=s.heap:=by
   refine Ld m ?_;obtain ⟨c,d,r,l⟩:=y;cases (show r=.fields a from n);show (⟨c,d,.fields (a.setIfInBounds 3 .none),l⟩:Obj)=⟨c,d,.fields a,l⟩;have:a.setIfInBounds 3 .none=a:=by
    obtain ⟨v,w⟩:=abj.mp o;refine Array.ext (by simp) fun i b p=>?_;rw [Array.getElem_setIfInBounds];split
    ·rename_i q;subst q;exact w.symm
    ·rfl
   rw [this]
  rw [this];exact h
def Fe (X:Cx) (a:Z0) (b:Zi):Cx:={ X with A:=X.A.mark (some (.ref a)),calm:=false,pn:=X.pn++b,xe:=fun _ _=>False }
theorem Cx.Ok.into (ok:X.Ok):(Fe X a b).Ok:=
 ⟨ok.mod,ok.kind,ok.glob,ok.blt,ok.above,ok.inj,ok.has,ok.cab,(fun h=>nomatch h),ok.frames,ok.stk,ok.exf,ok.bs,ok.bsz,ok.noex,ok.exfs,ok.funs,ok.frf⟩
theorem Inv.into (I:Inv X d e H s) (c:∀ p∈a,s.heap.get? p.1=some p.2/\H p.1=none/\p.1≠X.env.locals/\p.1∉X.fs/\∀ v,p.2.data≠.cell v):Inv (Fe X b a) d e H s:=by
 refine ⟨I.ok.into,I.os,I.bare,I.base,I.loc,I.cell,I.free,I.freeC,fun p h=>?_,I.hok,I.len⟩;rcases aal.mp h with h|h
 ·rcases aal.mp h with h|h
  ·exact I.pin p (aaI _ h)
  ·exact c p h
 ·exact I.pin p (aav _ h)
theorem Inv.outof (I:Inv (Fe X a b) c d H s) (ok:X.Ok):Inv X c d H s:=by
 refine ⟨ok,I.os,I.bare,I.base,I.loc,I.cell,I.free,I.freeC,fun p h=>?_,I.hok,I.len⟩;rcases aal.mp h with h|h
 ·exact I.pin p (aaI _ (aaI _ h))
 ·exact I.pin p (aav _ h)
theorem Inv.handle (E:Inv X O R S P) (I:Inv X O Q H s) (x:jd s.heap H P.heap e cls dd):∃ r a,(e,a)∈r/\a.cls=cls/\a.dict=dd/\(∃ vs,a.data=.fields vs)/\Inv (Fe X e r) O Q H s/\∀ {c g h},Inv (Fe X e r) O c g h->jd h.heap g P.heap e cls dd:=by
 obtain ⟨a,vs,z,j,l,d,m,A,w⟩:=x;have new:∀ T o vs,P.heap.get? T=none->s.heap.get? T=some o->H T=none->o.data=.fields vs->s.heap.get? T=some o/\H T=none/\T≠X.env.locals/\T∉X.fs/\∀ v,o.data≠.cell v:=fun T o vs y b F hd=>by
  refine ⟨b,F,?_,fun q=>?_,fun v q=>by rw [hd] at q;cases q⟩
  ·rintro rfl;obtain ⟨_,⟨o,_,_,b,_⟩,_⟩:=E.loc;rw [y] at b;cases b
  ·obtain ⟨_,o,b,_⟩:=E.funs.mem q;rw [y] at b;cases b
 rcases w with w|⟨T,n,B,G,J,L,C,M,D,N⟩
 ·refine ⟨[(e,a)],a,aai.mpr rfl,j,l,⟨_,d⟩,I.into fun p f=>?_,fun {c g h} i=>?_⟩
  ·cases aai.mp f;exact new e a vs m z A d
  ·have p:=i.pin (e,a) (aaI _ (aav _ (aai.mpr rfl)));exact ⟨a,vs,p.1,j,l,d,m,p.2.1,.inl w⟩
 ·refine ⟨[(e,a),(T,n)],a,aan,j,l,⟨_,d⟩,I.into fun p f=>?_,fun {c g h} i=>?_⟩
  ·rcases aaf.mp f with rfl|f
   ·exact new e a vs m z A d
   ·cases aai.mp f;exact new T n B D L N C
  ·have p:=i.pin (e,a) (aaI _ (aav _ aan));have q:=i.pin (T,n) (aaI _ (aav _ (aag _ (aai.mpr rfl))));exact ⟨a,vs,p.1,j,l,d,m,p.2.1,.inr ⟨T,n,B,G,J,q.1,C,M,D,q.2.1⟩⟩
theorem z_ {s:Z1} {K:Z2} {Q:Bool->Shared->Prop} {n:Obj} (c:K.In s.heap) (x:s.heap.get? e=some n) (i:n.cls=.ref j) (o:kI K C B a) (y:mroIn K j (.ref C)=some b) (h:Q b s) :
 wpAny (model P w) A (excMatches (.ref e) (.ref C)) Q E s:=by
 have Y:=lQ (M:=model P w) c o.mks;obtain ⟨⟨oc,od,cd,z,v,_,_,_⟩,_,_,_,_,l,_,_,_,m⟩:=Y;have p:Looks (model P w) s.heap (typeOf (.ref e)) (.ref j):=i ▸ (Looks.ld x).andThen .now;have q:Looks (model P w) s.heap (typeOf (.ref C)) (.type "type"):=looks_typeIn c o.ty;have r:Looks (model P w) s.heap (isSubtype (.ref j) (.ref C)) b:=looks_mroIn c y;have f:=tc_notTuple;obtain ⟨D,g,d,tk,F⟩:=s;unfold excMatches
 repeat (first|with_reducible refine abY v ?_|with_reducible refine l.at ?_|with_reducible refine r.at ?_|with_reducible refine m.at ?_|with_reducible refine p.at ?_|with_reducible refine q.at ?_|wp_step)
 cases b <;> (wp_walk;exact h)
abbrev R_:=Ends->Addr->Option Addr->St->Hp->Prop
def PH (X:Cx) (h:List ExceptHandler) (i:R_):Prop:=
 ∀ (a:Zi) (c:Z1) (b:St) (g:Hp) (s:Z1) (d:St) (H:Hp) (D:Ends) (e f:Z0) (dd:Zg),Inv X a b g c->Inv X a d H s->jd s.heap H c.heap e (.ref f) dd->i D f dd d H->wpAny (model X.prog X.w) X.A (handleBy (.ref e) X.env h) (SP X a D) X.xe s
def Dy (i:Nat) (D:Ends):Ends:=⟨fun a H=>D.nx (a.set i none) H,D.rt,fun a H=>D.bk (a.set i none) H,fun a H=>D.ct (a.set i none) H⟩
def Ph (K:Z2) (C:Z0) (B a:String) (i:Nat) (f:Addr->Addr->Option Addr->TS) (g:R_):R_:=fun D c dd d H=>kI K C B a/\∃ b,mroIn K c (.ref C)=some b/\if b then ∀ e,f e c dd (Dy i D) (d.set i (some (.ref e))) H else g D c dd d H
theorem Nr:PH X [] (fun _ _ _ _ _=>False):=fun _ _ _ _ _ _ _ _ _ _ _ _ _ _ h=>h.elim
theorem ux {X:Cx} {t:Z9} {n:Str} {T:Stmt} {j:List Stmt} {P:Pos} {rest:List ExceptHandler} {C:Z0} {B newId:String} {i:Nat} {U:Addr->Addr->Option Addr->TS} {W:R_} (F:X.N.Nodup) (G:X.N[i]?=some n) (A:X.env.scope.names.lookup n=some .local)
 (ht:∀ a e,PE (Fe X a e) t (tC (.ref C))) (hb:∀ a m e E dd,(a,m)∈e->m.cls=.ref E->m.dict=dd->(∃ vs,m.data=.fields vs)->u9 (Fe X a e) (T::j) (U a E dd)) (hr:PH X rest W) :
 PH X (.ExceptHandler (some t) (some n) (T::j) P::rest) (Ph X.K C B newId i U W):=by
 intro d s0 O H0 s R H D a E dd S I x h;obtain ⟨XC,b,hm,hk⟩:=h;obtain ⟨e,m,g,Q,hd,M,IH,back⟩:=S.handle I x;refine wpAny_handleBy_cons (codeAny_handlers_test (aaH (ht a e d s R H (fun v J=>v=.ref C/\J=H) IH ⟨rfl,rfl⟩) (fun c Y z=>?_) fun _ _ z=>z.elim)) (by intro q;cases q);obtain ⟨v,J,y,r,rfl,rfl⟩:=z;cases (show c=Value.ref C from r);have p:=y.pin (a,m) (aaI _ (aav _ g));refine z_ y.kIn p.1 Q XC hm ?_;cases b with
 |false=>exact hr d s0 O H0 Y R J D a E dd S (y.outof I.ok) (back y) hk
 | true=>
   refine codeAny_handlers_suite_as (yw (back y) (j4 (X:=Fe X a e) y F G (.inl A) (v:=.ref a) rfl (fun Z I2=>aaH (hb a m e E dd g Q hd M d Z _ _ (Dy i D) I2 (hk a)) (fun f s3 z=>?_) fun _ _ z=>z.elim) (.inr A)));show wpAny _ X.A _ _ X.xe s3;cases f with
   | next=>obtain ⟨o,N,w,q⟩:=z;exact pC (w.outof I.ok) F G A fun L l=>⟨_,_,l,q⟩
   | brk=>obtain ⟨o,N,w,q⟩:=z;exact pC (w.outof I.ok) F G A fun L l=>⟨_,_,l,q⟩
   | cont=>obtain ⟨o,N,w,q⟩:=z;exact pC (w.outof I.ok) F G A fun L l=>⟨_,_,l,q⟩
   | ret u=>obtain ⟨v,o,N,w,r',q⟩:=z;exact pC (w.outof I.ok) F G A fun L l=>⟨v,_,_,l,r',q⟩
def FZ (X:Cx) (a:Zi) (f:Z1) (W:Addr->Option Addr->St->Hp->Prop):Value->Shared->Prop:=fun v s=>∃ c d dd e H,v=.ref c/\Inv X a e H s/\(∀ b o,f.heap.get? b=some o->∃ g,s.heap.get? b=some g)/\jd s.heap H f.heap c (.ref d) dd/\W d dd e H
abbrev Up:=Ends->(Addr->Option Addr->St->Hp->Prop)->St->Hp->Prop
def X6 (X:Cx) (c:List Stmt) (t:Up):Prop:=
 ∀ (a:Zi) (s:Z1) (b:St) (H:Hp) (D:Ends) (W:Addr->Option Addr->St->Hp->Prop),Inv X a b H s->t D W b H->wpAny (model X.prog X.w) X.A (execs c X.env) (SP X a D) (FZ X a s W) s
def Wq (t:Up) (e:R_):TS:=fun D b H=>t D (fun c dd a d=>e D c dd a d) b H
theorem KJ (g:X.stack=X.env::X.outer) (i:X.env.frame=some X.env.locals) (j:X.ex=[]) (E:X6 X b t) (F:PH X (m::n) o):PS X (.Try b (m::n) [] [] e) (Wq t o):=by
 intro a s l H D I h;refine wpAny_Try_except (aaH (E a s l H D _ I h) (fun f p z=>?_) fun v p z=>?_)
 ·cases f with
  |next=>exact aby z
  |brk=>exact z
  |cont=>exact z
  |ret u=>exact z
 ·obtain ⟨y,A,dd,c,B,rfl,C,d,x,q⟩:=z;refine Ml I C g i I.ok.frames j d x fun G r w=>F a s l H _ c B D y A dd I w r q
structure Thunk (P:Z4) (w:Z5) (K:Z2) (mg:Zc) (base:Z7) (g:Z7) (H₀:Hp) (fr:Zh) (k:Nat) (f:Z0) (H:Hp) (Qv:VK) (Ev:XK):Prop where
 fn:∀ s:Shared,kO P w H s.heap->∃ fo fd,s.heap.get? f=some fo/\fo.data=.func fd
 run:∀ (A:Z8) (outer:List Env) (s:Z1),dm k A->uq P w K mg base A outer s H->(∀ b o,g.get? b=some o->H₀ b=none->b∉fr->s.heap.get? b=some o)->codeAny (model P w) A (.call (.ref f) ⟨[],[]⟩) (CR (jC P w) outer P w H s Qv Ev) s
theorem keeps_F (h:Z7) (z:∃ a b,h.get? f=some a/\a.data=.func b):∃ k,(k=Keeper.frame∨k=Keeper.machine∨k=Keeper.boundFrame)/\Looks M h (keeperOf (.ref f)) k:=by obtain ⟨a,b,e,d⟩:=z;obtain ⟨c,i,g,j⟩:=a;cases (show g=.func b from d);exact ⟨.frame,.inl rfl,(Looks.ld (part:=none) e).andThen .now⟩
def L_ (X:Cx) (k i j:Nat):Up:=fun D W b H=>∃ f c d,b[j]?=some (some (.ref f))/\Thunk X.prog X.w X.K X.mg X.base X.s₀.heap X.H₀ X.fs k f H c d/\(∀ v a,c v a->D.nx (b.set i (some v)) a)/\∀ cls dd a,d cls dd a->∃ e,cls=.ref e/\W e dd b a
theorem Ao (hN:X.N.Nodup) (hi:X.N[i]?=some x) (hx:Loc X.env.scope x) (hj:X.N[j]?=some a) (ha:KQ X.env.scope a) (Y:X.ex=[]) (hr:dm k X.A) (hs:swapsWith (.Call (.Name a L) [] [] U) (some (.Name x S)) B.line X.env=pure false:=by rfl) (hf:X.fn x=true∨X.env.scope.names.lookup x=some .local:=by first|exact .inl rfl|exact .inr rfl|assumption)
 (hd:(a == ("__debug__" : Str))=false:=by decide) (Z:(a == ("__classdict__" : Str))=false:=by decide) :
 X6 X [.Assign [.Name x S] (.Call (.Name a L) [] [] U) B] (L_ X k i j):=by
 intro d s J H D W I h;obtain ⟨f,O,Ev,e,T,hv,he⟩:=h;have kp:∀ b o,X.s₀.heap.get? b=some o->X.H₀ b=none->b∉X.fs->s.heap.get? b=some o:=fun b o z n hb=>I.base.keep b o z n hb (by rw [Y];simp);have aa:∀ t:Sem Flow,wpAny (model X.prog X.w) X.A t (fun f C=>f=.next/\∃ v p,Inv X d (J.set i (some v)) p C/\O v p) (FZ X d s W) s->wpAny (model X.prog X.w) X.A t (SP X d D) (FZ X d s W) s:=fun t ht=>eG ht fun f C ⟨q,v,p,E,z⟩=>by subst q;exact ⟨_,_,E,hv _ _ z⟩
 have one:wpAny (model X.prog X.w) X.A (exec (.Assign [.Name x S] (.Call (.Name a L) [] [] U) B) X.env) (fun f C=>f=.next/\∃ v p,Inv X d (J.set i (some v)) p C/\O v p) (FZ X d s W) s:=by
  refine wpAny_Assign_Name (eG (Q:=EP X d J O) ?_ fun v C ⟨y,H1,E,r1,q1⟩=>j4 E hN hi hx r1 (fun s2 I2=>⟨rfl,y,H1,I2,q1⟩) hf) hs;refine aa4 ?_;have A:∀ M:Value->Shared->Prop,M (.ref f) s->wpAny (model X.prog X.w) X.A (eval (.Name a L) X.env) M (FZ X d s W) s:=fun M w=>by
   obtain ⟨m,hn,hl⟩:=I.loc;obtain ⟨u,r,l⟩:=hl j a (.ref f) hj e ha;cases (show u=Value.ref f from r);rcases l with ⟨hk,hm⟩|⟨hk,c,hc,g⟩
   ·exact abh (acf I.ok.kind hk hn hm w) hd
   ·rcases hk with hk|hk
    ·exact abh (acg I.ok.kind hk hc g w) hd
    ·exact abh (acD I.ok.kind hk hc g w Z) hd
  refine A _ ?_;obtain ⟨G,N,g1,g2⟩:=T.fn s I.hok;refine callWith_of (P:=fun h=>∃ G N,h.get? f=some G/\G.data=.func N) rfl keeps_F (evalArgs_nil3 ⟨⟨G,N,g1,g2⟩,?_⟩);refine aa3 (codeAny_mono (T.run X.A X.stack s hr I.env0 kp) fun r s' w=>?_);cases r with
  | error ev=>obtain ⟨ea,cls,dd,p,rfl,os,F,un,R,xo,q⟩:=w;obtain ⟨Ce,rfl,z⟩:=he _ _ _ q;refine ⟨ea,Ce,dd,J,p,rfl,I.call' os un R F (fun b z=>absurd z (by simp)),fun b o z=>un.there b o z (by simp),xo,z⟩
  | ok fl=>
    cases fl with
    |ret u=>exact I.after w
    |next=>exact False.elim w
    |brk=>exact False.elim w
    |cont=>exact False.elim w
 refine wpAny_execs_cons (eG one fun fl C z=>?_);obtain ⟨rfl,v,p,E,q⟩:=z;exact aby ⟨_,_,E,hv _ _ q⟩
structure yf (K:Z2) (C:Z0) (f:Str):Prop where
 ga:findIn K (.ref C) "__getattribute__" = some (some (.builtin "BaseException.__getattribute__"))
 gh:findIn K (.ref C) "__getattr__" = some none
 hd:hasDictIn K C=true
 na:findIn K (.ref C) f=some none
 be:mroIn K C (.type "BaseException")=some true
theorem V7 {s:Z1} {K:Z2} {Q:Zb} (X:K.In s.heap) (I:InstAt s.heap x N C od) (G:yf K C J) (r:findObj K C od J=some (.value v)) (B:handedIn v=true) (h:Q v { s with toks:=s.toks+1 }):wpAny (model H w) A (getAttr (.ref x) J L) Q E s:=by
 obtain ⟨c,g,d,t,l⟩:=s;have b:=I.type (M:=model H w);have m:=looks_findIn (M:=model H w) X G.ga;have o:=looks_findIn (M:=model H w) X G.gh;have p:=looks_find (M:=model H w) X I r;have q:Looks (model H w) c (isInstance (.ref x) (.type "BaseException")) true:=b.andThen (looks_mroIn X G.be);have D:=F.excAttr_ValueError.ga.bind (.ref x);have z:(L && onTheHeap (Value.builtin "BaseException.__getattribute__"))=false:=by cases L <;> rfl
 have e:(Value.builtin "BaseException.__getattribute__" == Value.builtin "object.__getattribute__")=false:=by ext
 have f:(onTheHeap (Value.ref C) && Value.builtin "BaseException.__getattribute__" == Value.builtin "object.__getattribute__")=false:=by rw [e];rfl
 unfold getAttr getAttrBy;refine aaa (wpAny_mkText (abb (aaa (b.at (aaa (m.at ?_))))));dsimp only;rw [aac (by rw [f];decide)];unfold getAttrByItsOwn hookBefore;rw [aad (show onTheHeap (Value.ref C)=true from rfl)];refine aaa (o.at ?_);have j:∀ R:Result->Shared->Prop,R (.ok (.ret v)) ⟨c,g,d,t+1,l⟩->codeAny (model H w) A (.call (.builtin "BaseException.__getattribute__") ⟨[.ref x,.str J t],[]⟩) R ⟨c,g,d,t+1,l⟩:=fun R y=>by refine codeAny_call_builtin F.excAttr_ValueError.ga.plain F.entry_bexc_ga (check_slot (i:="BaseException.__getattribute__") (owner:="BaseException") (n:="__getattribute__") (by ext) (by ext) q (F.args_bexc_ga _ _) ?_);refine aaa (aab (aaa (aab (aaa (b.at (aaa (p.at ?_)))))));exact aab y
 have a:wpAny (model H w) A (handedOut v) Q E ⟨c,g,d,t+1,l⟩:=by rw [handedOut_of B];exact aab h
 clear b m o p q r I G X
 repeat (any_goals (first|assumption|wp_step))
 exact j _ a
def Tp (K:Z2) (d C:Z0) (dd:Zg) (e:TE) (f:Str):TE:=fun c H Q=>e c H fun x b=>∃ a fs v,x=.ref d/\dd=some a/\b a=some (qm a fs)/\yf K C f/\fs.lookup f=some v/\Q v b
theorem Mg (M:(T,S)∈X.pn) (N:S.cls=.ref C) (b:S.dict=dd) (hd:∃ vs,S.data=.fields vs) (O:PE X e W) (P:attributeBase e f X.env (eval e X.env)=eval e X.env:=by rfl):PE X (.Attribute e f U) (Tp X.K T C dd W f):=by intro a s L H Q I h;refine yW P (eG (O a s L H _ I h) fun u i ⟨x,j,c,m,n,fs,v,w,y,z,G,l,q⟩=>?_);subst w;subst y;obtain rfl:u=Value.ref T:=m;have p:=(c.pin (T,S) (aaI _ M)).1;obtain ⟨⟨A,B,r,R⟩,_,_⟩:=c.hok n _ z;obtain ⟨u,D,g⟩:=jV.some_of (v:=v) (o:=A f) (by rw [← l];exact r f);obtain ⟨od,E,F⟩:=nZ B;obtain ⟨vs,d⟩:=hd;have J:InstAt i.heap T S C (some od):=⟨p,N,by unfold notCls;rw [d],by rw [b];exact E⟩;exact V7 c.kIn J G (findObj_own G.hd G.na rfl (by rw [F,D])) (rJ g) ⟨v,j,c.tok _,g,q⟩
end L2
namespace L2
open PySem PySem.Spec PyProof.Rows
structure rR (P:Z4) (w:Z5) (K:Z2) (mg:Zc) (base:Z7) (CX:rK) (k:Nat) (f:Z0) (fd:Z3) (ps:Zd) (sp:Shared->List Env->Sp):Prop where
 len:∀ s outer vs H Q E,sp s outer vs H Q E->vs.length=ps.length
 run:∀ (A:Z8) (outer:List Env) (s:Z1) (H:Hp) (args:Args) (us:Ze) (vs:List V) (Q:VK) (E:XK),dm k A->uq P w K mg base A outer s H->BindsTo s fd args (ps.zip us)->Vals vs us->sp s outer vs H Q E->
  codeAny (model P w) A (.call (.ref f) args) (CR CX outer P w H s Q E) s
theorem Nu {M:rK} {P:Z4} {w:Z5} {K:Z2} {O:Zc} {h:Z7} {k:Nat} {f:Z0} {p d:Str} {i:Arguments} {j:List Stmt} {a:Za} {dV kV L pm g ct oc:Z6} {an od:Zg}
 {Y:Zm} {N R:Zd} {Z:Shared->List Env->Sp} (lk:K.lookup f=some ⟨oc,od,.func (PySem.W.fnOf p d i j a dV kV L pm an g ct),Y⟩) (hcd:PySem.W.codeIn K g d=true) (S:cA N R a)
 (len:∀ s c vs H Q E,Z s c vs H Q E->vs.length=R.length)
 (B:∀ (A:Z8) (c:List Env) (s:Z1) (H:Hp) (vs:List V) (Q:VK) (E:XK),dm k (A.deeper (envOfC d a s.heap.objs.size f g))->Z s c vs H Q E-> ∃ t,u9 (iY M P w K O h N d a f g A c s H E) j t/\t { nx:=fun _ m=>Q .non m,rt:=Q } (start N vs) H) :
 rR P w K O h M (k+1) f (PySem.W.fnOf p d i j a dV kV L pm an g ct) R Z:=by
 refine ⟨len,fun A c s H aa us vs Q E T D hb r F=>?_⟩;have hl:=len _ _ _ _ _ _ F;have KX:K.In s.heap:=D.mod.kin.keeps fun b o e=>(D.bs b o e).1;have X:s.heap.NoLimit:=D.mod.nolimit.keeps fun b o e=>(D.bs b o e).1;have z:∀ y∈R.zip us,a.names.lookup y.1=some .local∨(a.names.lookup y.1=some .cell/\((cellsFrom (s.heap.objs.size+1) a.names []).lookup y.1).isSome=true):=fun ⟨n,v⟩ hy=>by
  rcases S.par n (abA hy).1 with q|q
  ·exact .inl q
  ·exact .inr ⟨q,acL _ _ _ (.inl q)⟩
 refine codeAny_call_function T.depth (KX _ _ lk) rfl S.co S.gen rfl (PySem.W.codeRec_of KX hcd) (hb _ _ _ _ ?_);refine wpAny_newFunctionEnv_cells S.kind z fun env he s1 x=>?_;subst he;refine ⟨X.keeps x.toInCall.keep,codeAny_func ?_⟩;obtain ⟨t,ht,hq⟩:=B A c s H vs Q E (T.deeper _) F;have I:Inv (iY M P w K O h N d a f g A c s H E) [] (start N vs) H s1:=sH S T.hd D hl r x;refine aaH (ht [] s1 (start N vs) H _ I hq) (fun fl U C=>?_) fun e U C=>C;have G:∀ {l:St} {m:Hp} {v:V} {u:Z6},Inv (iY M P w K O h N d a f g A c s H E) [] l m U->RelV v u->Q v m->CE c P w H s Q u U:=
  fun {l m v u} J W q=>⟨v,m,J.os,J.bare,J.base,J.hok,W,q⟩;cases fl with
 | ret u=>obtain ⟨v,l,m,J,W,q⟩:=C;exact G J W q
 | next=>obtain ⟨l,m,J,q⟩:=C;exact G (v:=V.non) (u:=Value.none) J rfl q
 | brk=>obtain ⟨_,_,_,q⟩:=C;exact False.elim q
 | cont=>obtain ⟨_,_,_,q⟩:=C;exact False.elim q
theorem gj.okS {P:Z4} {w:Z5} {K:Z2} {B:Zc} {z:Z7} {l:rK} {x b:Str} {e:Stmt} {f:Z0} {m:Z3} {N i:Zd} {k:Nat} {j:Shared->List Env->Sp} (F:gj K x b e f m) (S:cA N i (bK e)) (len:∀ s a vs H Q E,j s a vs H Q E->vs.length=i.length)
 (d:∀ (c:Z6) (A:Z8) (a:List Env) (s:Z1) (H:Hp) (vs:List V) (Q:VK) (E:XK),dm k (A.deeper (envOfC b (bK e) s.heap.objs.size f c))->j s a vs H Q E-> ∃ t,u9 (iY l P w K B z N b (bK e) f c A a s H E) (cO e) t/\t { nx:=fun _ n=>Q .non n,rt:=Q } (start N vs) H):rR P w K B z l (k+1) f m i j:=by
 obtain ⟨oc,od,kV,p,v,an,c,y,q,rfl,r,h⟩:=F.ex;exact Nu r h S len fun A a s H vs Q E o g=>d c A a s H vs Q E o g
theorem gj.ok1 {P:Z4} {w:Z5} {K:Z2} {B:Zc} {z:Z7} {l:rK} {x b:Str} {e:Stmt} {f:Z0} {m:Z3} {N i:Zd} {k:Nat} {j:Sp} (F:gj K x b e f m) (S:cA N i (bK e)) (len:∀ vs H Q E,j vs H Q E->vs.length=i.length)
 (d:∀ (c:Z6) (A:Z8) (a:List Env) (s:Z1) (H:Hp) (vs:List V) (Q:VK) (E:XK),dm k (A.deeper (envOfC b (bK e) s.heap.objs.size f c))->j vs H Q E-> ∃ t,u9 (iY l P w K B z N b (bK e) f c A a s H E) (cO e) t/\t { nx:=fun _ n=>Q .non n,rt:=Q } (start N vs) H):cD P w K B z l (k+1) f m i j:=by
 obtain ⟨oc,od,kV,p,v,an,c,y,q,rfl,r,h⟩:=F.ex;exact vO r h S len fun A a s H vs Q E o g=>d c A a s H vs Q E o g
theorem tQ (b:(h,j)∈i) (c:j.cls=.ref C) (a:j.dict=dd) (hd:∃ vs,j.data=.fields vs) (d:PE (Fe X h i) e m) (g:attributeBase e f X.env (eval e X.env)=eval e X.env:=by rfl):PE (Fe X h i) (.Attribute e f l) (Tp X.K h C dd m f):=
 Mg (X:=Fe X h i) (aav _ b) c a hd d g
open PySem.W
noncomputable def lE (c:Z0) (a:Str):HO:=.ext fun h=>h.CodeRec (.ref c) a
theorem Cw (x:h.CodeRec (.ref c) a):eU P w H h c (lE c a):=by obtain ⟨d,o,vs,t,e,g,r⟩:=id x;cases e;refine ⟨x,⟨o,g⟩,fun n p z k=>?_⟩;obtain ⟨d,f,b,i,j,l,m⟩:=z;cases j;exact ⟨c,f,b,i,rfl,k _ l,m⟩
noncomputable def lamO (f:Z0) (o:Obj):HO:=.ext fun h=>h.get? f=some o
theorem zy (x:h.get? f=some o):eU P w H h f (lamO f o):=⟨x,⟨o,x⟩,fun a b z k=>k _ z⟩
def oF (P:Z4) (w:Z5) (K:Z2) (mg:Zc) (base:Z7) (N:Zd) (qual:Str) (scope:Za) (f:Z0) (cd:Z6) (cl:Zk) (A:Z8) (outer:List Env) (s:Z1) (H:Hp) (E:XK):Cx where
 prog:=P
 w:=w
 K:=K
 mg:=mg
 base:=base
 A:=A.deeper (envX qual scope s.heap.objs.size f cd cl)
 N:=N
 s₀:=s
 H₀:=H
 env:=envX qual scope s.heap.objs.size f cd cl
 outer:=outer
 stack:=envX qual scope s.heap.objs.size f cd cl::outer
 ex:=[]
 calm:=true
 fn:=fun _=>false
 pn:=[]
 xe:=fun e s'=>wpAny (model P w) (A.deeper (envX qual scope s.heap.objs.size f cd cl)) (leaving (envX qual scope s.heap.objs.size f cd cl) e) (fun _ s''=>jC P w outer H s E e s'') (fun e' s''=>jC P w outer H s E e' s'') s'
section
variable {P:Z4} {w:Z5} {K:Z2} {mg:Zc} {base:Z7} {N:Zd} {qual:Str} {scope:Za} {f:Z0} {cd:Z6} {cl:Zk} {A:Z8} {outer:List Env} {s:Z1} {H:Hp} {E:XK}
theorem XH (I:Inv (oF P w K mg base N qual scope f cd cl A outer s H E) cW σ H' s') (x:jd s'.heap H' s.heap e cls dd) (h:E cls dd H') :
 (oF P w K mg base N qual scope f cd cl A outer s H E).xe (.ref e) s':=
 leaveX I rfl rfl I.ok.frames rfl x fun h' x' u k=>⟨e,cls,dd,H',rfl,I.os,I.bare,u,k,x',h⟩
theorem JD (y:∀ cls dd d,j cls dd d->E cls dd d):fX (jC P w) (oF P w K mg base N qual scope f cd cl A outer s H E) j:=by
 intro c p D F e r I h;obtain ⟨B,cls,dd,d,rfl,n,a,un,g,x,q⟩:=h;have m:Inv (oF P w K mg base N qual scope f cd cl A outer s H E) c p d r:=I.call' (ch:=[]) n un g a (fun b z=>absurd z (by simp));refine XH m (x.mono fun b l=>?_) (y _ _ _ q);cases z:s.heap.get? b with
 |none=>rfl
 | some o=>obtain ⟨C,i⟩:=I.base.there b o z (by intro v;cases v);rw [l] at i;cases i
structure Qy (scope:Za) (cl:Zk) (N:Zd) (g:Z7) (H:Hp) (fr:Zh) (σ:St):Prop where
 inj:∀ x y c,cl.lookup x=some c->cl.lookup y=some c->x=y
 has:∀ x,(scope.names.lookup x=some .cell∨scope.names.lookup x=some .free)->∃ c,cl.lookup x=some c
 cell:∀ x c,cl.lookup x=some c->(∃ v,g.IsCell c v)/\H c=none/\c∉fr
 val:∀ (i:Nat) x v,N[i]?=some x->σ[i]?=some (some v)->scope.names.lookup x=some .free/\∃ c u,cl.lookup x=some c/\RelV v u/\g.IsCell c (some u)
 len:σ.length=N.length
theorem Bt (ho:H f=some (lamO f (kla_obj name qual params body scope cl pm c' ctv)))
 (hc:H c'=some (lE c' qual)) (C:Qy scope cl N g H fr σ) (hbind:bindArgs (kla_fn name qual params body scope cl pm (.ref c') ctv) ⟨[],[]⟩=pure [])
 (hco:scope.isCoroutine=false) (hgen:scope.isGenerator=false) (hk:scope.kind=.function) (hcell:∀ x∈scope.names,x.2≠.cell)
 (hb:∀ (A:Z8) (outer:List Env) (s:Z1),dm k (A.deeper (envX qual scope s.heap.objs.size f (.ref c') cl))->PE (oF P w K mg base N qual scope f (.ref c') cl A outer s H E) body t) (hq:t σ H Qv):Thunk P w K mg base g H fr (k+1) f H Qv E:=by
 refine ⟨fun s hok=>⟨_,_,(hok f _ ho).1,rfl⟩,fun A outer s hr e0 kp=>?_⟩;have lim:s.heap.NoLimit:=e0.mod.nolimit.keeps fun b o e=>(e0.bs b o e).1;refine kla_callFunE hr.depth (e0.hok f _ ho).1 rfl hco hgen rfl (e0.hok c' _ hc).1 ?_;rw [hbind];refine aab (wpAny_newFunctionEnv hcell (fun y hy=>absurd hy (by simp)) (fun h₁ hns hsb=>⟨lim.fresh _ hsb,?_⟩) hk);show codeAny _ _ (.expr body (envX qual scope s.heap.objs.size f (.ref c') cl)) _ _;have hk₁:∀ b o,s.heap.get? b=some o->h₁.get? b=some o:=fun b o e=>hsb.extBut b o (aap (aam e)) (aak _ e);have isC:∀ x c v,cl.lookup x=some c->g.IsCell c v->h₁.IsCell c v:=fun x c v e z=>by obtain ⟨_,h2,h3⟩:=C.cell x c e;obtain ⟨o,ho,hd⟩:=z;exact ⟨o,hk₁ _ _ (kp _ _ ho h2 h3),hd⟩
 have noA:∀ b:Addr,b∉([]:Zh):=fun b z=>absurd z (by simp);have I:Inv (oF P w K mg base N qual scope f (.ref c') cl A outer s H E) [] σ H { s with heap:=h₁,toks:=s.toks+0 }:=by
  refine ⟨⟨e0.mod,hk,rfl,rfl,aae _,C.inj,fun y hy=>C.has y hy,fun y c z=>absurd z (by simp [oF]),fun _=>hr.hd,Around.frames_deeper e0.frames,.inr ⟨rfl,rfl⟩,fun b z=>absurd z (noA b),e0.bs,e0.bsz,fun b _ _=>noA b,fun b z=>absurd z (noA b),e0.funs,e0.frf⟩,
   rfl,e0.bare,Un.kept hk₁,⟨_,hns,fun i y v h1 h2 h3=>?_⟩,fun y c h=>?_,e0.hok.fresh (aae _),fun y c h=>(C.cell y c h).2.1,fun p hp=>absurd (show p∈([]:Zi) from hp) (by simp),e0.hok.kept hk₁,C.len⟩
  ·obtain ⟨fr',c,u,e,r,z⟩:=C.val i y v h1 h2;exact ⟨u,r,.inr ⟨.inr fr',c,e,isC y c _ e z⟩⟩
  ·obtain ⟨⟨v,z⟩,_⟩:=C.cell y c h;exact ⟨v,isC y c v h z⟩
 exact kla_codeExpr (aaH (hb A outer s (hr.deeper _) [] _ σ H Qv I hq) (fun u s' ⟨v,H',J,rv,q⟩=>⟨v,H',J.os,J.bare,J.base,J.hok,rv,q⟩) fun _ _ y=>y)
end
section
variable {X:Cx} {cW:Zi} {σ:St} {H:Hp} {s:Z1} {h':Z7} {P c':Z0} {ps more:Zf} {qual:Str}
theorem Inv.grow (I:Inv X cW σ H s) (g:H P=some (.tbl ps)) (l:Heap.ExtBut P s.heap h') (h:s.heap.objs.size≤c') (p:h'.CodeRec (.ref c') qual) (x:h'.get? P=some { cls:=.none,data:=.fields (ps++more) }) :
 Inv X cW σ (upd (upd H P (.tbl (ps++more))) c' (lE c' qual)) { s with heap:=h',toks:=t' }:=by
 have j:P<s.heap.objs.size:=I.hok.lt g;have C:c'≠P:=fun q=>by subst q;exact absurd (aas j h) (aaP _)
 have lt:∀ b o,s.heap.get? b=some o->b≠c':=fun b o e q=>by subst q;exact absurd (aas (aam e) h) (aaP _)
 have d:∀ b,H b=none->b≠P:=fun b e q=>by subst q;rw [g] at e;cases e
 have kp:∀ b o,s.heap.get? b=some o->H b=none->h'.get? b=some o:=fun b o e n=>l b o (d b n) e;have up:∀ b u,H b=some u->(∀ w,u≠.tbl w)->upd (upd H P (.tbl (ps++more))) c' (lE c' qual) b=some u:=fun b u e ne=>by
  have a:b≠c':=fun q=>by subst q;exact absurd (aas (I.hok.lt e) h) (aaP _)
  have f:b≠P:=fun q=>by subst q;rw [g] at e;exact ne _ (aaQ e).symm
  rw [b7 a,b7 f];exact e
 refine I.stepN (ch:=[]) (g':=s.gens) (d':=s.drawn) (t':=t') (fun b y=>absurd y (by simp)) (fun b o _ _ _ e n=>kp b o e n) (fun b o _ _ _ e n=>⟨o.slots,kp b o e n⟩) (fun b o _ e n=>?_) (fun b o _ e=>?_) (fun b A e=>up b _ e (by intro _ q;cases q)) (fun b o u e=>up b _ e (by intro _ q;cases q)) (fun b w e=>?_) (fun m B=>?_) (fun b u e=>?_) I.bare
 ·rw [b7 (lt b o e),b7 (d b n)];exact n
 ·by_cases q:b=P
  ·subst q;exact ⟨_,x⟩
  ·exact ⟨o,l b o q e⟩
 ·have a:b≠c':=fun q=>by subst q;exact absurd (aas (I.hok.lt e) h) (aaP _)
  by_cases q:b=P
  ·subst q;rw [g] at e;cases e;exact ⟨more,by rw [b7 a,a_]⟩
  ·exact ⟨#[],by rw [b7 a,b7 q,e];simp⟩
 ·obtain ⟨o,D,E,e,r⟩:=B;exact ⟨o,D,E,kp _ _ e I.free,r⟩
 ·by_cases a:b=c'
  ·subst a;rw [a_] at e;cases e;exact Cw p
  ·rw [b7 a] at e;by_cases f:b=P
   ·subst f;rw [a_] at e;cases e;exact x
   ·rw [b7 f] at e;refine (I.hok b u e).stay (fun c v i q=>l c v ?_ q) (fun c q=>up c _ q (by intro _ z;cases z)) fun c A q=>up c _ q (by intro _ z;cases z);rintro rfl;rcases i with rfl|z
    ·exact f rfl
    ·rw [g] at z;cases z
structure oY (X:Cx) (c P:Z0):Prop where
 code:X.env.code=.ref c
 hd:CodeHd X.base c P
 bl:X.base.BuiltinsAt X.mg P
 gP:mainGlobals≠P
def Jb (H:Hp) (P:Z0) (d:Pos) (a:Str) (b:Z0) (e:Hp):Prop:=
 ∃ c,H P=some (.tbl c)/\((codeAmong d c.toList=none/\H b=none/\b≠P/\e=upd (upd H P (.tbl (c++#[rawInt d.line,rawInt d.col,.ref b]))) b (lE b a))∨(codeAmong d c.toList=some (.ref b)/\H b=some (lE b a)/\e=H))
def TabOk (H:Hp) (P:Z0) (d:Pos) (a:Str):Prop:=∃ b,H P=some (.tbl b)/\TriplesOk b.toList/\(codeAmong d b.toList=none∨∃ c,codeAmong d b.toList=some (.ref c)/\H c=some (lE c a))
def Qh (X:Cx) (P:Z0) (a:Arguments) (c:Z9) (b:Za) (h:Pos) (i:Zk):TE:=fun _ H Q=>TabOk H P h (X.env.qual++"<lambda>")/\∀ g d,Jb H P h (X.env.qual++"<lambda>") g d->∀ f e,d f=none->Q (.ref f) (upd d f (lamO f (kla_obj "<lambda>" (X.env.qual++"<lambda>") a c b i ((X.mg "__name__").getD .none) g e)))
theorem El (T:oY X c P) (x:defaultsOf d X.env=([],[])) (y:closureFor f X.env=pure R):PE X (.Lambda d i f A) (Qh X P d i f A R):=by
 intro M s σ H Q I h;obtain ⟨⟨z,w,L,D⟩,h⟩:=h;refine kla_eval x ?_;have v:s.heap.get? P=some (tabObj z):=I.hok P _ w;have F:s.heap.Ns mainGlobals X.mg:=by obtain ⟨o,W,Y,e,r⟩:=I.ok.mod.glob;exact ⟨o,W,Y,I.bk _ _ e,r⟩
 have G:s.heap.BuiltinsAt X.mg P:=by obtain ⟨Z,o,b1,b2,b3,b4,b5,b6⟩:=T.bl;exact ⟨Z,o,b1,b2,b3,b4,I.bk _ _ b5,b6⟩
 rcases D with N|⟨m,O,E⟩
 ·refine kla_makeFunction (mg:=X.mg) y I.ok.glob F T.code (T.hd.keeps I.bk) v L N T.gP G fun m j g tk S l U n B=>?_;have J:=I.grow (t':=tk) w S l n B;have C:P<s.heap.objs.size:=I.hok.lt w;have fr:upd (upd H P (.tbl (z++#[rawInt A.line,rawInt A.col,.ref m]))) m (lE m (X.env.qual++"<lambda>")) g.objs.size=none:=J.hok.fresh (aae _);refine ⟨.ref g.objs.size,_,J.laid (a:=g.objs.size) (t':=tk) (fun b u e=>aak _ e) (aae _) (zy (aay _ rfl)),rfl,h m _ ⟨z,w,.inl ⟨N,I.hok.fresh l,fun q=>?_,rfl⟩⟩ _ j fr⟩;subst q;exact absurd (aas C l) (aaP _)
 ·refine kla_makeFunctionHit (mg:=X.mg) y I.ok.glob F T.code (T.hd.keeps I.bk) v L O G fun j g tk hk p=>?_;have fr:H g.objs.size=none:=I.hok.fresh p;exact ⟨.ref g.objs.size,_,I.laid (a:=g.objs.size) (h':=g.push _) (t':=tk) (fun b u e=>aak _ (hk b u e)) p (zy (aay _ rfl)),rfl,h m _ ⟨z,w,.inr ⟨O,E,rfl⟩⟩ _ j fr⟩
end
theorem Io (F:rR X.prog X.w X.K X.mg X.base q k f v p w) (m:dm k X.A) (n:Binds X.K v p []) (o:fX q X E)
 (I:Inv X a g H s) (r:Vals vs b) (h:w s X.stack vs H Q E):wpAny (model X.prog X.w) X.A (call (.ref f) b) (EP X a g Q) X.xe s:=by
 have j:b.length=p.length:=by rw [← r.length];exact F.len _ _ _ _ _ _ h
 have d:=n s b I.kIn (by rw [aaO];exact j);rw [aaO] at d;refine aa3 (codeAny_mono (F.run X.A X.stack s H ⟨b,[]⟩ b vs Q E m I.env0 d r h) fun r i c=>?_);cases r with
 |error e=>exact o a g H s e i I c
 | ok l=>
   cases l with
   |ret u=>exact I.after c
   |next=>exact False.elim c
   |brk=>exact False.elim c
   |cont=>exact False.elim c
theorem Es {X:Cx} {D:Shared->List Env->Sp} {t:TA} {r:St->List V->Hp->VK->Prop} (F:rR X.prog X.w X.K X.mg X.base G k f J L D) (l:dm k X.A) (m:Gl X x) (n:X.mg x=some (.ref f)) (hk:keepIn X.K (.ref f)=true) (o:Binds X.K J L []) (v:fX G X E)
 (d:∀ a b H s vs Q,Inv X a b H s->r b vs H Q->D s X.stack vs H Q E) (w:PA X (e::C) t) (g:(x == ("__debug__" : Str))=false:=by decide) (y:starEach (e::C) X.env=(false,eval e X.env)::starEach C X.env:=by rfl) (i:(backTo B (starEach C X.env)).any (·.1)=false:=by rfl) :
 PE X (.Call (.Name x p) (e::C) [] B) (fun b H Q=>t b H fun vs j=>r b vs j Q):=by
 intro a s b H Q I h;refine aa4 (jD I m n ?_ g);refine callWith_K (h₀:=X.base) I.ok.mod.kin hk (eG (w B a s b H _ I h) fun z A ⟨vs,j,c,r,q⟩=>⟨c.kIn,?_⟩) y i;exact Io F l o v c r (d _ _ _ _ _ _ c q)
theorem jw {a:Zk} (h:x∈a.map (·.1)):∃ c,a.lookup x=some c:=by
 induction a with
 |nil=>simp at h
 | cons q r d=>
   obtain ⟨y,c⟩:=q;rw [aa6];by_cases e:(x == y)=true
   ·exact ⟨c,by rw [e]⟩
   ·have b:(x == y)=false:=by simpa using e
    rw [b];refine d ?_;rcases aaf.mp h with z|z
    ·exact absurd (aaS.mpr z) e
    ·exact z
def sJ (a:List Nat) (b:St):St:=a.map fun j=>(b[j]?).join
theorem Ha {X:Cx} {s:Z1} {scope:Za} {G:Zk} {NL:Zd} {js:List Nat} (I:Inv X A B H s) (J:∀ p∈G,X.env.cells.lookup p.1=some p.2) (L:∀ x,X.fn x=true)
 (g:∀ p∈scope.names,(p.2=.cell∨p.2=.free)->p.1∈G.map (·.1)) (h:∀ x∈NL,scope.names.lookup x=some .free) (n:∀ x∈NL,X.env.scope.names.lookup x=some .cell) (N:NL.map some=js.map fun j=>X.N[j]?) (Y:X.stack=X.env::X.outer) (Z:X.env.frame=some X.env.locals) :
 Qy scope G NL s.heap H (frs X.stack) (sJ js B):=by
 have sub:∀ x c,G.lookup x=some c->X.env.cells.lookup x=some c:=fun x c e=>J (x,c) (aa5 e);have w:js.length=NL.length:=by simpa using (aaM List.length N).symm
 refine ⟨fun x y c D d=>I.ok.inj x y c (sub x c D) (sub y c d),fun x l=>?_,fun x c e=>⟨I.cell x c (sub x c e),I.freeC x c (sub x c e),fun O=>?_⟩,fun i x v D d=>?_,by unfold sJ;rw [aah];exact w⟩
 ·refine jw ?_;rcases l with l|l
  ·exact g _ (aa5 l) (.inl rfl)
  ·exact g _ (aa5 l) (.inr rfl)
 ·rcases aaf.mp (I.stkSub c O) with q|q
  ·exact I.cne x c (sub x c e) q
  ·obtain ⟨_,o,Q,_⟩:=I.ok.funs.mem q;exact absurd (aas (aam Q) (I.ok.cab x c (L x) (sub x c e))) (aaP _)
 ·have l:x∈NL:=aaq D;have F:(js.map fun j=>X.N[j]?)[i]?=some (some x):=by rw [← N,aau,D];rfl
  rw [aau] at F;obtain ⟨j,R,F⟩:=abk.mp F;unfold sJ at d;rw [aau,R] at d;have P:B[j]?=some (some v):=by
   have d:(B[j]?).join=some v:=aaQ d;cases e:B[j]? with
   |none=>rw [e] at d;cases d
   | some a=>rw [e] at d;cases a with
     |none=>cases d
     |some b=>exact aaM some d
  obtain ⟨m,f,S⟩:=I.loc;obtain ⟨u,r,T⟩:=S j x v F P (.inr (.inl (n x l)));refine ⟨h x l,?_⟩;rcases T with ⟨kk,_⟩|⟨_,c,W,z⟩
  ·have kk:X.env.scope.names.lookup x=some .local:=kk;rw [n x l] at kk;cases kk
  ·obtain ⟨U,M⟩:=jw (g _ (aa5 (h x l)) (.inr rfl));have:=sub x U M;rw [W] at this;cases this;exact ⟨c,u,M,r,z⟩
end L2
namespace L2
open PySem PySem.Spec PyProof.Rows
open PySem.W
noncomputable def tabIn (K:Z2) (c:Z0):Option Addr:=match K.lookup c with
 | some o=>(match o.data with
   | .fields vs=>(match (vs[11]?:Option Value),vs.getD 18 .none,vs.getD 7 .none,vs.getD 9 .none,vs.getD 10 .none with
     |some (Value.ref P),.str _ _,.int _ _,.bool _,.int _ _=>if (o.cls == .type "code" && c != P)=true then some P else none
     |_,_,_,_,_=>none)
   |_=>none)
 |none=>none
theorem K4 {K:Z2} (X:K.In h) (e:tabIn K c=some P):CodeHd h c P:=by
 unfold tabIn at e;split at e
 ·rename_i o m;split at e
  ·rename_i vs hd;split at e
   ·rename_i v b d n p q f g a i r s j;split at e
    ·rename_i l;cases e;simp only [aa1,aaS,bne_iff_ne] at l;refine ⟨o,vs,b,d,n,p,q,f,g,X _ _ m,l.1,hd,a,?_,i,r,s,j,l.2⟩;rw [Array.getD_eq_getD_getElem?,a];rfl
    ·cases e
   ·cases e
  ·cases e
 ·cases e
end L2
namespace L2
open PySem PySem.Spec PyProof.Rows PySem.SeqAt
def Nh (C:Z0) (i:Sp) (j:List V->List V->List V) (E:XK) (t tk:TA):TE:=fun c H Q=>t c H fun vs d=>tk c d fun g b=>∀ x a,b x=none->b a=none->a≠x->
 i (j (.ref x::vs) g) (upd (upd b a (.own x)) x (.ins C a [])) (fun v h=>v=.non/\Q (.ref x) h) E
theorem Bu (M:Mk X.K C f) (F:cD X.prog X.w X.K X.mg X.base S k f T o R) (N:dm (k+1) X.A) (q:jr X.K T o m g p)
 (O:fX S X E) (I:Inv X b j H s) (r:Vals vs us) (P:Vals l c)
 (h:∀ x d,H x=none->H d=none->d≠x->R (p (.ref x::vs) l) (upd (upd H d (.own x)) x (.ins C d [])) (fun v w=>v=.non/\Q (.ref x) w) E) :
 wpAny (model X.prog X.w) X.A (call (.ref C) us (m.zip c)) (EP X b j Q) X.xe s:=by
 have n:=h (s.heap.objs.size+1) s.heap.objs.size (I.hok.fresh (aba _)) (I.hok.fresh (aae _)) (aap (acj _));have i:=Inv.made (C:=C) I;have r2:Vals (p (V.ref (s.heap.objs.size+1)::vs) l) (g (Value.ref (s.heap.objs.size+1)::us) c):=q.rel (.cons rfl r) P;have z:(g (Value.ref (s.heap.objs.size+1)::us) c).length=o.length:=by have e:=r2.length;rw [F.len _ _ _ _ n] at e;exact e.symm
 refine aa3 (vG (f:=f) I.kIn M.makes M.init (aaS.mp M.fn) (codeAny_mono (F.run _ X.stack _ _ ⟨Value.ref (s.heap.objs.size+1)::us,m.zip c⟩ (g (Value.ref (s.heap.objs.size+1)::us) c) _ _ E (N.make C us (m.zip c)) (i.env0.make C us (m.zip c)) (q.to _ (Value.ref (s.heap.objs.size+1)::us) c i.kIn z) r2 n) fun r y a=>?_));cases r with
 |error e=>exact O b j _ _ e y i a
 | ok L=>
   cases L with
   | ret u=>obtain ⟨v,A,B,D,G,J⟩:=i.after a;subst G;exact ⟨D,⟨V.ref (s.heap.objs.size+1),A,B,rfl,J⟩⟩
   |next=>exact False.elim a
   |brk=>exact False.elim a
   |cont=>exact False.elim a
theorem n_ (M:Mk X.K C f) (F:cD X.prog X.w X.K X.mg X.base N k f O o L) (r:dm (k+1) X.A) (v:Gl X x) (w:X.mg x=some (.ref C)) (y:jr X.K O o J g P) (z:fX N X E)
 (c:PK X m tk) (b:(backToKw e (keywordEach m X.env)).all (·.1.isSome)=true:=by rfl) (d:(backToKw e (keywordEach m X.env)).filterMap (·.1)=J:=by rfl)
 (i:(x == ("__debug__" : Str))=false:=by decide) (j:((backTo e (starEach [] X.env)).any (·.1) || (backToKw e (keywordEach m X.env)).any (·.1.isNone))=false:=by rfl) :
 PE X (.Call (.Name x p) [] m e) (Nh C L P E qX tk):=by
 intro a s q H Q I h;refine aa4 (jD I v w ?_ i);refine PySem.W.callWith_KW0 (h₀:=X.base) I.ok.mod.kin M.kp b ?_ j;refine eG (c e a s q H _ I h) fun A B ⟨D,G,l,n,q2⟩=>⟨l.kIn,?_⟩;rw [d];exact Bu (us:=[]) (vs:=[]) M F r y z l .nil n q2
end L2
namespace L2
open PySem PySem.Spec PyProof.Rows PySem.W
theorem oX {d p:Pos} (l:Ze) (h:TriplesOk l):codeAmong d (l++[rawInt p.line,rawInt p.col,c])=(codeAmong d l).or (if (p.line:Int) == d.line && (p.col:Int) == d.col then some c else none):=by
 fun_induction TriplesOk l with
 |case1=>simp [codeAmong,rawInt]
 | case2 a t b u e rest f=>
   show codeAmong d (.int a t::.int b u::e::(rest++_))=_;rw [codeAmong,codeAmong];split
   ·rfl
   ·exact f h
 |case3=>exact h.elim
theorem tZ {p:Pos} (l:Ze) (h:TriplesOk l):TriplesOk (l++[rawInt p.line,rawInt p.col,c]):=by
 fun_induction TriplesOk l with
 |case1=>simp [TriplesOk,rawInt]
 |case2 a t b u e rest d=>exact d h
 |case3=>exact h.elim
def jP (H:Hp) (T:Z0) (a:Str) (d:List Pos):Prop:=
 ∃ b,H T=some (.tbl b)/\TriplesOk b.toList/\∀ e∈d,codeAmong e b.toList=none∨∃ c,codeAmong e b.toList=some (.ref c)/\H c=some (lE c a)
theorem jP.tab (h:jP H T a b) (m:c∈b):TabOk H T c a:=by obtain ⟨d,e,f,g⟩:=h;exact ⟨d,e,f,g c m⟩
theorem jP.keep (h:jP H T a c) (k:∀ b u,H b=some u->(∀ d,u≠.dK d)->f b=some u):jP f T a c:=by
 obtain ⟨i,j,l,n⟩:=h;refine ⟨i,k _ _ j (by intro _ z;cases z),l,fun g m=>?_⟩;rcases n g m with z|⟨o,z,e⟩
 ·exact .inl z
 ·exact .inr ⟨o,z,k _ _ e (by intro _ z;cases z)⟩
theorem jP.same (h:jP H T a c) (s:cj H d):jP d T a c:=h.keep fun b u e _=>s b u e
theorem Jb.code (h:Jb H T e a b c):c b=some (lE b a):=by
 obtain ⟨f,g,⟨_,_,_,rfl⟩|⟨_,d,rfl⟩⟩:=h
 ·exact a_
 ·exact d
theorem Jb.keep (h:Jb H T j a i f) (e:H b=some u) (ne:∀ c,u≠.tbl c):f b=some u:=by
 obtain ⟨c,g,⟨_,d,_,rfl⟩|⟨_,d,rfl⟩⟩:=h
 ·rw [b7 (cg e d),b7 (iu e g (ne _))];exact e
 ·exact e
theorem jP.lam (h:jP H T b g) (l:Jb H T c b f r):jP r T b g:=by
 obtain ⟨i,j,n,o⟩:=h;obtain ⟨s,p,l⟩:=l;rw [j] at p;cases p;rcases l with ⟨w,v,ne,rfl⟩|⟨_,_,rfl⟩
 ·refine ⟨i++#[rawInt c.line,rawInt c.col,.ref f],by rw [b7 ne.symm,a_],?_,fun a m=>?_⟩
  ·rw [ab1];exact tZ _ n
  ·rw [ab1];show codeAmong a (i.toList++[rawInt c.line,rawInt c.col,.ref f])=none∨∃ d,codeAmong a (i.toList++[rawInt c.line,rawInt c.col,.ref f])=Option.some (Value.ref d)/\_;rw [oX _ n];rcases o a m with z|⟨d,z,e⟩
   ·rw [z];by_cases q:((c.line:Int) == a.line && (c.col:Int) == a.col)=true
    ·rw [aad q];exact .inr ⟨f,rfl,a_⟩
    ·rw [aac q];exact .inl rfl
   ·rw [z];refine .inr ⟨d,rfl,?_⟩;rw [b7 (cg e v),b7 (iu e j (by intro z;cases z))];exact e
 ·exact ⟨i,j,n,o⟩
theorem Az {P:Z4} {w:Z5} {K:Z2} {Q mb:Zc} {CX:rK} {k:Nat} {fa a:Z0} {j:Zh} {fd:Z3} {x:Str} {sp:Sp} {f:Z1} {vs:Ze} {G:List Int}
 (KX:K.In f.heap) (R:f.heap.Ns mainGlobals Q) (Z:f.heap.Ns builtinsNs mb) (hbb:∀ x:Str,x ≠ "__name__"->mb x=bootBuiltins x) (S:f.heap.NoLimit) (hg:f.gens=#[])
 (I:f.heap.get? a=some { cls:=.type "list",data:=.seq vs.toArray }) (hi:IntsAre vs G) (hl:G.length≤sizeLine) (hr:dm k callerA)
 (U:∀ T∈j,f.heap.get? T=some (tabObj #[])/\K.lookup T=none/\∃ c,CodeHd f.heap c T)
 (F:∀ l:Heap,K.In l->l.Ns mainGlobals Q->(∀ b o,f.heap.get? b=some o->b∉j->b≠a->l.get? b=some o)->cD P w K Q l CX k fa fd [x] sp) (D:∀ (s:Z1) (u:Z6),BindsTo s fd ⟨[u],[]⟩ [(x,u)])
 (hsp:∀ H:Hp,(∀ T∈j,H T=some (.tbl #[]))->dR K H a (G.map V.int)->sp [.ref a] H (fun v _=>v=.bl true) fun _ _ _=>False)
 (hCX:∀ H e n,CX [] H f (fun _ _ _=>False) e n->False) :
 codeAny (model P w) callerA (.call (.ref fa) ⟨[.ref a],[]⟩) (fun r n=>r=.ok (.ret (.bool true))/\OldK f.heap n.heap/\n.os=f.os/\AllBare n.gens) f:=by
 have rv:=rF hi;have J:=hi.length;have aa:a∉j:=fun q=>by have:=(U a q).1;rw [I] at this;cases this
 have B:∀ E:Hp,(∀ b,E b=none∨(b=a/\K.lookup a=none/\E b=some (.frz { cls:=.type "list",data:=.seq vs.toArray } (.lst (G.map V.int)))))->dR K (fun b=>if b∈j then some (.tbl #[]) else E b) a (G.map V.int)->
  codeAny (model P w) callerA (.call (.ref fa) ⟨[.ref a],[]⟩) (fun r n=>r=.ok (.ret (.bool true))/\OldK f.heap n.heap/\n.os=f.os/\AllBare n.gens) f:=by
  intro E Y hS;generalize hH:(fun b=>if b∈j then some (HO.tbl #[]) else E b:Hp)=H at hS;have HT:∀ T∈j,H T=some (.tbl #[]):=fun T m=>by rw [← hH];exact aad m
  have p:∀ b,b∉j->H b=E b:=fun b e=>by rw [← hH];exact aac e
  have Hn:∀ b,b∉j->b≠a->H b=none:=fun b i A=>by
   rw [p b i];rcases Y b with z|⟨z,_⟩
   ·exact z
   ·exact absurd z A
  have ab:kO P w H f.heap:=fun b u e=>by
   by_cases q:b∈j
   ·rw [HT b q] at e;cases e;exact (U b q).1
   ·rw [p b q] at e;rcases Y b with z|⟨rfl,_,z⟩
    ·rw [z] at e;cases e
    ·rw [z] at e;cases e;exact ⟨I,by rw [aah];exact hl,vs,_,rv,I⟩
  have ac:∀ {b:Z0} {o:Obj} {W:Array DictEntry} {X:Nat},f.heap.get? b=some o->o.data=.dict W X->H b=none:=fun {b o W X} e d=>by
   refine Hn b (fun q=>?_) (fun q=>?_)
   ·rw [(U b q).1] at e;cases e;cases d
   ·subst q;rw [I] at e;cases e;cases d
  have y:∀ {b:Z0} {m:Zc},f.heap.Ns b m->(vq f.heap H).Ns b m:=fun {b m} ⟨o,W,X,e,d,r⟩=>⟨o,W,X,qD e (ac e d),d,r⟩;have L:K.In (vq f.heap H):=fun b o e=>by
   refine qD (KX b o e) ?_;have q:b∉j:=fun m=>by rw [(U b m).2.1] at e;cases e
   rw [p b q];rcases Y b with z|⟨rfl,z,_⟩
   ·exact z
   ·rw [z] at e;cases e
  have hM:Mod K Q (vq f.heap H):=⟨L,y R,⟨mb,y Z,hbb⟩,let ⟨mc,i,A⟩:=S;⟨mc,y i,A⟩⟩;have e0:uq P w K Q (vq f.heap H) callerA [] f H:=⟨rfl,hM,fun b o e=>Jf e,abS (Ac _ _),trivial,fun b Z=>absurd (show b∈([]:Zh) from Z) (by simp),ab,.of_eq hg⟩;refine codeAny_mono ((F _ L (y R) fun b o e i A=>qD e (Hn b i A)).run callerA [] f H ⟨[.ref a],[]⟩ [.ref a] [.ref a] _ _ hr e0 (D f (.ref a)) (.cons rfl .nil) (hsp H HT hS)) fun r n h=>?_;cases r with
  |error e=>exact (hCX H e n h).elim
  | ok fl=>
    cases fl with
    |next=>exact False.elim h
    |brk=>exact False.elim h
    |cont=>exact False.elim h
    | ret u=>
      obtain ⟨v,H',os,O,un,C,r',q⟩:=h;cases (show v=.bl true from q);cases (show u=Value.bool true from r');have M:∀ b o,f.heap.get? b=some o->b∉j->n.heap.get? b=some o:=fun b o e i=>by
       rcases Y b with z|⟨rfl,_,z⟩
       ·exact un.keep b o e (by rw [p b i];exact z) (by intro z;exact absurd (show b∈([]:Zh) from z) (by simp)) (by simp)
       ·have z2:=un.frzs b _ _ ((p b i).trans z);obtain ⟨e2,_⟩:=C b _ z2;rw [I] at e;cases e;exact e2
      have N:∀ T∈j,∃ g,n.heap.get? T=some { cls:=.none,data:=.fields (#[]++g) }:=fun T m=>by obtain ⟨g,hm⟩:=un.tbls T #[] (HT T m);exact ⟨g,C T _ hm⟩
      refine ⟨rfl,⟨fun b o e=>?_,fun b o e=>?_⟩,os,O⟩
      ·by_cases i:b∈j
       ·obtain ⟨g,tb⟩:=N b i;obtain ⟨A,_,c,hc⟩:=U b i;rw [A] at e;cases e;exact .inr (.inl ⟨(hc.tab A).isCodeTable,rfl,#[],g,rfl,tb⟩)
       ·exact .inl (M b o e i)
      ·by_cases i:b∈j
       ·obtain ⟨g,tb⟩:=N b i;exact ⟨_,tb⟩
       ·exact ⟨o,M b o e i⟩
 cases hk:K.lookup a with
 | some o=>have e:=KX a o hk;rw [I] at e;cases e;exact B (fun _=>none) (fun _=>.inl rfl) (.inr ⟨_,vs.toArray,_,hk,rfl,rfl,rfl,by rw [aat,J];exact hl,by simpa using rv⟩)
 | none=>
   refine B (fun b=>if b=a then some (.frz { cls:=.type "list",data:=.seq vs.toArray } (.lst (G.map V.int))) else none) (fun b=>?_) (.inl (.inr ⟨_,(aac aa).trans (aad rfl)⟩));by_cases h:b=a
   ·exact .inr ⟨h,hk,aad h⟩
   ·exact .inl (aac h)
theorem BJ {l:OpenLaw} {n k:Nat} {q:Z4} {y:Zd} {XP:(Str->Option Value)->Heap->Prop} {S:World->Heap->Prop} {d:DefRec} {K:Params->Frag} {CX:World->rK} {x:Str} {A:Zh}
 (hn:l.most=some n) (U:n≤sizeLine) (W:d.params.defaults=[]) (hr:dm k callerA)
 (hY:∀ (w:Z5) (h:Z7),S w h->(K w.params).In h) (X:∀ (w:Z5) (h:Z7),S w h->∀ T∈A,h.get? T=some (tabObj #[]))
 (F:∀ (w:Z5) (j:Zc) (C:Z0) (h:Z7),(K w.params).In h->h.Ns mainGlobals j->j d.name=some (.ref C)-> ∃ (N:Z3) (O:Sp),(∀ (s:Z1) (u:Z6),BindsTo s N ⟨[u],[]⟩ [(x,u)])/\(∀ T∈A,(K w.params).lookup T=none/\∃ c,tabIn (K w.params) c=some T)/\ (∀ (H:Hp) (a:Z0) (D:List Int),D.length≤n->(∀ T∈A,H T=some (.tbl #[]))->dR (K w.params) H a (D.map V.int)->O [.ref a] H (fun v _=>v=.bl true) fun _ _ _=>False)/\ ∀ b:Heap,(K w.params).In b->b.Ns mainGlobals j->(∀ T∈A,b.BuiltinsAt j T/\mainGlobals≠T)->cD l.prog w (K w.params) j b (CX w) k C N [x] O)
 (Z:∀ (w:Z5) (H:Hp) (s:Z1) (e:Z6) (M:Z1),CX w [] H s (fun _ _ _=>False) e M->False) :
 WalkO q y XP S l.row.toRowW d [] (fun f vs=>PySem.call f vs):=by
 refine Att.wB hn W fun w aa B j mb C o pm cd ab a vs D G Y ho hd ac J g p i hg=>?_;have P:=hY w _ Y;have Q:=X w _ Y;obtain ⟨N,O,hb,ht,R,hF⟩:=F w j C _ P G.T.g J;obtain ⟨E,ob,b1,b2,r,b4,b5,I⟩:=G.T.bmain;have gT:∀ T∈A,mainGlobals≠T:=fun T m q=>by obtain ⟨o,es,ep,e,hd,_⟩:=G.T.g;rw [q,Q T m] at e;cases e;cases hd
 have bT:E∉A:=fun m=>by rw [Q _ m] at r;cases r;cases b4
 have ba:E≠a:=fun q=>by rw [q,g] at r;cases r;cases I
 have bG:E≠mainGlobals:=fun q=>by obtain ⟨o,es,ep,e,hd,_⟩:=G.T.g;rw [q,e] at r;cases r;rw [hd] at I;cases I
 exact Az P G.T.g G.T.b G.T.builtins G.T.nolimit hg g p (aaj i U) hr (fun T m=>⟨Q T m,(ht T m).1,let ⟨c,z⟩:=(ht T m).2;⟨c,K4 P z⟩⟩) (fun b kb nb L=>hF b kb nb fun T m=>⟨⟨E,ob,b1,b2,bG,fun q=>bT (q ▸ m),L _ _ r bT ba,b4,b5,I⟩,gT T m⟩) hb (fun H hH hS=>R H a D i hH hS) fun H e M=>Z w H B e M
end L2
namespace L2
open PySem PySem.Spec PyProof.Rows
theorem Ab (I:Inv X c i H s) (e:H a=some (.dK b)) (x:y=kV k) (l:b.length<sizeLine) (B:RelV y u) (C:RelV v r)
 (h:∀ g,Inv X c i (upd H a (.dK (putK b k v))) g->Q () g):wpAny (model X.prog X.w) A (dictSet a u r) Q E s:=by
 subst x;obtain ⟨z,hd,vs,f,dd⟩:=vU I.hok e;have n:vs.length≤sizeLine:=by rw [← f.length];exact z
 have o:(putK b k v).length≤sizeLine:=by have:=jA b k v;omega
 refine wpAny_dictSet_pairs (hsz:=n) (pU B) dd fun j d m=>h _ ?_;have p:∃ q,j.get? a=some q:=let ⟨q,_,_,w,_⟩:=d;⟨q,w⟩
 exact pq I (by rw [e];exact aaJ) m p (uh o hd (f.put k C) d)
def y_ (J:It) (g:TG) (p:TT) (tk q:TE) (e:Z0) (F:Hp->Prop) (W:Nat->Nat->St->Hp->Prop):Prop:=
 ∀ i m j H,W i m j H->(J.stop i H/\F H)∨(J.go i H/\∀ x l,J.yld i H x l->g x j l fun a n=>p a n fun b f=> if b=true then tk a f fun y o=>q a o fun z h=>∃ c k,h e=some (.dK c)/\y=kV k/\c.length<sizeLine/\∃ d,d<m/\W (i+1) d a (upd h e (.dK (putK c k z))) else ∃ d,d<m/\W (i+1) d a f)
def O5 (e:TI) (g:TG) (f:TT) (tk h:TE) (k:Nat) (i:List Nat):TE:=fun b H Q=>e b H fun J c=>∀ a,c a=none->∃ W:Nat->Nat->St->Hp->Prop,(∃ m,W 0 m (j7 k i b) (upd c a (.dK [])))/\
 y_ J g f tk h a (fun d=>Q (.ref a) d) W
theorem wV (W:Nat->Nat->St->Hp->Prop) (p:y_ J g tt tk tv j F W) (T:Turn X.prog X.w X.K tg J fp N O)
 (hg:PG (di X scope N' f C c d fp) tg g) (hc:nJ (di X scope N' f C c d fp) ifs tt) (hk:PE (di X scope N' f C c d fp) ke tk) (hv:PE (di X scope N' f C c d fp) ve tv) (n:X.calm=true)
 (E:∀ b∈fp,∀ o:Hp,o b=none->ju (di X scope N' f C c d fp) [] o b) (hR:∀ L A o,Inv (di X scope N' f C c d fp) [] A o L->F o->R (.ok .next) L)
 (I : Inv (di X scope N' f C c d fp) [] e H s) (st:O 0 s.heap) (fr:∀ b∈fp,H b=none) (w0:W 0 m e H) :
    codeAny (model X.prog X.w) X.A (.compLoop (.DictComp ke ve [⟨tg,iter,ifs,0⟩] scope pos) 0 (.ref N) (.ref j) (compEnvC scope f C X.env)) R s:=
  Ca (Y:=di X scope N' f C c d fp) (α:=Unit) (a:=()) (B:=fun k=>(do
   let D ← eval ke (compEnvC scope f C X.env)
   let M ← holding [D] (eval ve (compEnvC scope f C X.env))
   standAt { ke.pos with endLine:=ve.pos.endLine,endCol:=ve.pos.endCol }
   holding [D,M] (dictSet j D M)) >>= fun _=>k) (fun _=>[]) ⟨fun _=>rfl,fun _ _=>rfl⟩ T hg hc n (fun _ _ z=>z) (fun _=>E) (fun i m _=>W i m)
   (fun i m _ e H=>tk e H fun y P=>tv e P fun z G=>∃ l k,G j=some (.dK l)/\y=kV k/\l.length<sizeLine/\∃ r,r<m/\W (i+1) r e (upd G j (.dK (putK l k z)))) (fun _=>True) (fun _=>True)
   (fun i m _ e H _ w=>(p i m e H w).imp (fun z=>⟨z.1,fun s I=>hR s e H I z.2⟩) fun z=>⟨z.1,trivial,z.2⟩)
   (fun i m _ e H h s _ _ q _ I _ _ _ z=>aaa (aaa (aaH (hk _ s e H _ I q) (fun y Q ⟨yv,S,U,Z,q8⟩=>aaa (abb (aaH (hv _ Q e S _ U q8) (fun y2 s9 ⟨zv,H9,I9,r9,l,k,e9,ek,hl,r,hm,w9⟩=> aaa (aa2 (abb (Ab (X:=di X scope N' f C c d fp) I9 e9 ek hl Z r9 fun v x=>z v ⟨r,hm,(),e,_,x,trivial,w9⟩)))) fun _ _ z=>z.elim))) fun _ _ z=>z.elim))) I st fr trivial w0
theorem Ai {X:Cx} {scope:Za} {own:Zd} {H:Hp} {s:Z1} {U:Nat->Heap->Prop} {n:Zk} {F:Addr->Hp->Prop} {RR:Value->Addr->Result->Shared->Prop}
 (S:dq X scope own js N') (B:X.calm=true) (hg:∀ n C d f A,PG (di X scope N' n C d f A) tg g) (hc:∀ n C d f A,nJ (di X scope N' n C d f A) ifs tt) (hk:∀ n C d f A,PE (di X scope N' n C d f A) ke tk) (hv:∀ n C d f A,PE (di X scope N' n C d f A) ve tv)
 (P:∀ x c,n.lookup x=some c->X.env.cells.lookup x=some c) (Q:∀ x,(x,NameKind.free)∈scope.names->∃ c,n.lookup x=some c)
 (I:Inv X i O H s) (T:Turn X.prog X.w X.K tg J fp it U) (Y:U 0 s.heap) (Z:∀ b∈fp,ju X i H b)
 (hW:∀ h,H h=none->∃ W:Nat->Nat->St->Hp->Prop,(∃ m,W 0 m (j7 own.length js O) (upd H h (.dK [])))/\y_ J g tt tk tv h (F h) W)
 (R:∀ h C y L m,Inv X i O y L->L.heap.Ns C m->y C=none->C≠X.env.locals->X.s₀.heap.objs.size≤C->(∀ x c,X.env.cells.lookup x=some c->c≠C)->(∀ p∈X.pn++i,p.1≠C)->F h y->RR (.ref h) C (.ok .next) L) :
 wpAny (model X.prog X.w) X.A newDict (fun h D=>wpAny (model X.prog X.w) X.A (newFunctionEnv scope X.env.globals n [] X.env.qual none .none (some X.env)) (fun v r=> codeAny (model X.prog X.w) X.A (.compStart (.DictComp ke ve [⟨tg,iter,ifs,0⟩] scope pos) 0 (.ref it) h { v with scope:=relabel scope X.env }) (RR h v.locals) r) E D) E s:=by
 refine aaU ?_;have N:=I.laid (a:=s.heap.objs.size) (o:=.dK []) (t':=s.toks) (h':=s.heap.push { cls:=.type "dict",data:=.dict #[] }) (fun _ _ q=>aak _ q) (aae _) (qI s.heap I.big);obtain ⟨W,⟨m0,w0⟩,M⟩:=hW _ (I.hok.fresh (aae s.heap.objs.size));have l:∀ b∈fp,ju X i (upd H s.heap.objs.size (.dK [])) b:=fun b j=>by obtain ⟨o,e,_⟩:=T.obj _ _ Y b j;exact ⟨by rw [b7 (aap (aam e))];exact (Z b j).1,(Z b j).2⟩
 refine q_ (s:={ s with heap:=s.heap.push { cls:=.type "dict",data:=.dict #[] } }) (h1:=s.heap.push { cls:=.type "dict",data:=.dict #[] }) S N (fun _ _ e=>e) (aae _) P Q T (T.keep _ _ _ Y fun b j o e=>aak _ e) l fun e r e1 e2 up I1 G fs=>?_;rw [e1,e2];have w:codeAny (model X.prog X.w) X.A (.compLoop (.DictComp ke ve [⟨tg,iter,ifs,0⟩] scope pos) 0 (.ref it) (.ref s.heap.objs.size) (compEnvC scope n (s.heap.push { cls:=.type "dict",data:=.dict #[] }).objs.size X.env)) (RR (.ref s.heap.objs.size) (s.heap.push { cls:=.type "dict",data:=.dict #[] }).objs.size) r:=by refine wV W M T (hg _ _ _ _ _) (hc _ _ _ _ _) (hk _ _ _ _ _) (hv _ _ _ _ _) B (fun b j=>(fs b j).2) (fun L aa y z q=>?_) I1 G (fun b j=>(l b j).1) w0;obtain ⟨m,hm,_⟩:=z.loc;obtain ⟨_,c1,_,_,c4,c5⟩:=N.fpOk (H':=y) (aae _) z.free;exact R _ _ y L m (N.call' z.os z.base z.hok z.bare fun b j=>⟨(l b j).2.2.2.1,(l b j).2.1,(l b j).2.2.2.2.1,(l b j).2.2.2.2.2⟩) hm z.free c1 N.sz c4 c5 q
 exact qZ rfl rfl w (T.self _ 0 _ _ _ G w)
open PySem.SeqAt
theorem Ol {b:Type} {us:List b} (h:us.length=1):∃ a,us=[a]:=List.length_eq_one_iff.mp h
theorem FN {c:Type} {us:List c} (h:us.length=2):∃ a b,us=[a,b]:=by
 cases us with
 |nil=>cases h
 | cons a r=>obtain ⟨b,rfl⟩:=Ol (us:=r) (by simpa using h);exact ⟨a,b,rfl⟩
theorem Bp {d:Type} {us:List d} (h:us.length=3):∃ a b c,us=[a,b,c]:=by
 cases us with
 |nil=>cases h
 | cons a r=>obtain ⟨b,c,rfl⟩:=FN (us:=r) (by simpa using h);exact ⟨a,b,c,rfl⟩
theorem UL {f:Type} {e:List f} (h:e.length=4):∃ a b c d,e=[a,b,c,d]:=by
 cases e with
 |nil=>cases h
 | cons a r=>obtain ⟨b,c,d,rfl⟩:=Bp (us:=r) (by simpa using h);exact ⟨a,b,c,d,rfl⟩
end L2
namespace L2
open PySem PySem.Spec PyProof.Rows
theorem xR {K:Z2} {a:Z0} {xs:List V} {g:TG} {w:TT} {z:TE} {F:List V->Hp->Prop} {r:St} {A:Hp} (l:Nat->List V->St->Hp->Prop) (M:xs.length≤sizeLine) (I:l 0 [] r A) (J:∀ i c f H,i≤xs.length->l i c f H->dR K H a xs)
 (L:∀ i x c f H,xs[i]?=some x->l i c f H->∀ N:List V->St->Hp->Prop,(∀ d h n,l (i+1) d h n->d.length≤c.length+1->N d h n)->g x f H fun j B=>w j B fun b s=>if b=true then z j s fun y C=>N (c++[y]) j C else N c j s)
 (hd:∀ c f H,c.length≤xs.length->l xs.length c f H->F c H) :
 ∃ W:Nat->Nat->List V->St->Hp->Prop,(∃ m,W 0 m [] r A)/\lY (Kf K a) g w z F W:=by
 refine ⟨fun i m c f H=>m=xs.length-i/\i≤xs.length/\c.length≤i/\l i c f H,⟨xs.length,by simp,aaA _,aaA _,I⟩,?_⟩;rintro i m c f H ⟨rfl,E,G,p⟩;have q:=J i c f H E p;by_cases o:i<xs.length
 ·refine .inr ⟨⟨xs,xs[i],q,by simp [o]⟩,by omega,fun x n y=>?_⟩;obtain ⟨e,y⟩:=y;subst e;refine L i x c f _ (y xs q) p (fun d h n=>∃ v,v<xs.length-i/\v=xs.length-(i+1)/\i+1≤xs.length/\d.length≤i+1/\l (i+1) d h n) fun d h n q D=>⟨xs.length-(i+1),by omega,rfl,o,by omega,q⟩
 ·have e:i=xs.length:=by omega
  subst e;exact .inl ⟨⟨xs,q,aae _⟩,hd c f H G p⟩
open PySem.SeqAt
def qP (t:TE) (a:St) (H:Hp) (v:V):Prop:=∀ Q:VK,Q v H->t a H Q
def wH (t:TT) (a:St) (H:Hp) (b:Bool):Prop:=∀ Q:Bool->Hp->Prop,Q b H->t a H Q
def Gi (r:R2) (x y:V) (H:Hp) (v:V):Prop:=∀ Q:VK,Q v H->r x y H Q
theorem qP.var (h:a[i]?=some (some v)):qP (kJ i) a H v:=fun Q q=>⟨v,h,q⟩
theorem qP.con:qP (tC v) a H v:=fun Q q=>q
theorem Gi.i0:Gi (Gk g) (.int i) (.int j) H (g i j):=fun Q q=>⟨i,j,rfl,rfl,q⟩
theorem wH.test (a:qP t b H (.bl k)):wH (sS t) b H k:=fun Q q=>a _ ⟨k,rfl,q⟩
theorem qP.chain (a:qP i e H x) (b:qP j e H y) (c:qP l e H z) (h:Gi r x y H (.bl k)) (d:Gi f y z H (.bl g)):qP (C_ r f i j l) e H (.bl (k && g)):=fun Q q=>a _ (b _ (h _ ⟨k,rfl,by
 cases k with
 |false=>exact iz rfl q
 |true=>exact jz rfl (c _ (d _ q))⟩))
theorem wH.not (a:wH t b H k):wH (R0 t) b H (!k):=fun Q q=>a _ q
theorem wH.iff (h:wH t c H k) (q:if k=true then a D c H else b D c H):RW t a b D c H:=h _ q
end L2
namespace L2
open PySem PySem.Spec PyProof.Rows
end L2
namespace L2
open PySem
theorem vI (c:X.K=K) (d:PE X l a):PI X b l (zP K a):=by subst c;exact gG d
open PySem.Spec PyProof.Rows PySem.SeqAt
abbrev jh (h:Z7) (z TI TO:Z0) (a:Z6) (b:Bool):Prop:=
 h.get? z=some { cls:=.type "zip",dict:=none,data:=.fields #[a,.bool b,.bool false,.ref TI,.ref TO],slots:=#[] }
section
variable {prog:Z4} {w:Z5} {A:Z8} {E:Zb} {s:Z1}
theorem Bg (h:Q (s.heap.get? a) s):wpAny (model prog w) A (loadIfAlive a) Q E s:=by exact fun _ _ _=>h
theorem Ek {z TI TO:Z0} {g:Z6} {b:Bool} {Q:Bool->Shared->Prop} (f:jh s.heap z TI TO g b) (l:g=.none∨∃ a:Int,g=rawInt a)
 (i:Q true s) (j:∀ h,jh h z TI TO g true->Heap.SameBut z s.heap h->Q false { s with heap:=h }):wpAny (model prog w) A (Builtin.SmallTypes.ownedTupleIsFree (.ref z)) Q E s:=by
 unfold Builtin.SmallTypes.ownedTupleIsFree;rcases l with rfl|⟨a,rfl⟩
 ·exact aaa (aaD f rfl (x:=.none) rfl (aab i))
 ·refine aaa (aaD f rfl (x:=rawInt a) rfl ?_);show wpAny _ _ (loadIfAlive a.toNat >>= _) _ _ _;refine aaa (Bg ?_);cases hR:s.heap.get? a.toNat with
  |none=>exact aab i
  | some o=>
    show wpAny _ _ (field (.ref z) 1 >>= _) _ _ _;refine aaa (aaD f rfl (x:=.bool b) rfl ?_);cases b with
    |true=>exact aab (j s.heap f (Heap.SameBut.refl ..))
    | false=>show wpAny _ _ (setField (.ref z) 1 (.bool true) >>= _) _ _ _;exact aaa (aa8 f (by simp) fun e c d=>aab (j e c d))
structure ZS (h:Z7) (z TI TO i1 i2 a1 a2:Z0) (k1 k2:Nat):Prop where
 zz:∃ f0 b,jh h z TI TO f0 b/\(f0=.none∨∃ a:Int,f0=rawInt a)
 ti:IsPair h TI (.ref i1) (.ref i2)
 to:∃ x y,IsPair h TO x y
 h1:h.IsTupleIter i1 a1 k1
 h2:h.IsTupleIter i2 a2 k2
theorem gA (x:h.IsTupleIter a l i) (d:Heap.ExtBut c h b) (f:a≠c):b.IsTupleIter a l i:=x.at fun o e=>d _ _ f e
theorem jk (x:h.IsTuple l b) (d:Heap.ExtBut c h a) (f:l≠c):a.IsTuple l b:=let ⟨o,e,r⟩:=x;⟨o,d _ _ f e,r⟩
theorem Al {z TI TO i1 i2 a1 a2:Z0} {k1 k2:Nat} {xs ys:Zf} {Q:Zb} (hh:A.handled=none) (D:ZipApart z TI TO i1 i2 a1 a2) (S:ZS s.heap z TI TO i1 i2 a1 a2 k1 k2)
 (t1:s.heap.IsTuple a1 xs) (t2:s.heap.IsTuple a2 ys) (hQ:∀ x y,xs[k1]?=some x->ys[k2]?=some y->∀ h',ZS h' z TI TO i1 i2 a1 a2 (k1+1) (k2+1)->IsPair h' s.heap.objs.size x y->h'.objs.size=s.heap.objs.size+1-> (∀ c o,c≠z->c≠TO->c≠i1->c≠i2->s.heap.get? c=some o->h'.get? c=some o)->Q (.ref s.heap.objs.size) { s with heap:=h' })
 (hE:(xs[k1]?=none∨ys[k2]?=none)->∀ h' e,(∀ c o,c≠z->c≠TO->c≠i1->c≠i2->s.heap.get? c=some o->h'.get? c=some o)->(∃ o,h'.get? e=some o/\o.cls=.type "StopIteration")->E (.ref e) { s with heap:=h' }) :
 wpAny (model prog w) A (Builtin.«zip.__next__» ⟨[.ref z],[]⟩) (fun fin s'=>∃ v,fin=.done (.ret v)/\Q v s') E s:=by
 obtain ⟨⟨f0,b,hz,hf⟩,al,⟨a,b',ap⟩,h1,h2⟩:=S;show wpAny _ _ (field (.ref z) 2 >>= _) _ _ _;refine aaa (aaD hz rfl (x:=.bool false) rfl ?_);show wpAny _ _ (field (.ref z) 3 >>= _) _ _ _;refine aaa (aaD hz rfl (x:=.ref TI) rfl ?_);refine aaa (abH al rfl ?_);show wpAny _ _ (Builtin.SmallTypes.ownedTupleIsFree (.ref z) >>= _) _ _ _;refine aaa (Ek hz hf ?_ fun aq ag i=>?_)
 ·simp only [if_true];refine aaa (abl ?_);refine aaa (aaD hz rfl (x:=.ref TO) rfl ?_);refine aaa (aa8 hz (by simp) fun am q j=>?_)
  replace q:jh am z TI TO .ellipsis b:=q
  refine aaa ?_;simp only [List.zipIdx_cons,List.zipIdx_nil,abE,List.forIn_nil];refine aaa (aaa (wpAny_onRaise ?_));show wpAny _ _ (Builtin.SmallTypes.nextOf (.ref i1) >>= _) _ _ _;cases hx:xs[k1]? with
  | none=>
    refine aaa (lN hh (gA h1 j.extBut D.i1z) (jk t1 j.extBut D.l1z) hx fun B e d ⟨oe,I,W⟩=>?_);have Y:jh B z TI TO .ellipsis b:=d _ _ D.i1z.symm q;have ah:e≠z:=fun x=>by subst x;rw [Y] at I;cases I;simp at W
    exact aa8 Y (by simp) fun R _ l=>hE (.inl hx) R e (fun c o r _ G _ x=>l.extBut _ _ r (d _ _ G (j.extBut _ _ r x))) ⟨oe,l.extBut _ _ ah I,W⟩
  |some x=>
  refine aaa (mG (gA h1 j.extBut D.i1z) (jk t1 j.extBut D.l1z) hx fun B J d=>aab ?_);have T:IsPair B TO a b':=d.extBut _ _ D.TOi1 (j.extBut _ _ D.TOz ap);refine aaa (abH T rfl ?_);refine aaa (wpAny_updateSeq_pair T fun R C l=>?_)
  replace C:IsPair R TO x b':=C
  refine aaa (wpAny_letGo (aab ?_));refine aaa (aaa (wpAny_onRaise ?_));show wpAny _ _ (Builtin.SmallTypes.nextOf (.ref i2) >>= _) _ _ _;have I2:=gA (gA (gA h2 j.extBut D.i2z) d.extBut D.i12.symm) l.extBut D.TOi2.symm;have T2:=jk (jk (jk t2 j.extBut D.l2z) d.extBut D.l2i1) l.extBut D.l2TO;have up:∀ c o,c≠z->c≠TO->c≠i1->s.heap.get? c=some o->R.get? c=some o:=fun c o r U G e=>l.extBut _ _ U (d.extBut _ _ G (j.extBut _ _ r e));cases hy:ys[k2]? with
  | none=>
    refine aaa (lN hh I2 T2 hy fun g e f ⟨oe,I,W⟩=>?_);have F:jh g z TI TO .ellipsis b:=f _ _ D.i2z.symm (l.extBut _ _ D.TOz.symm (d.extBut _ _ D.i1z.symm q));have ah:e≠z:=fun x=>by subst x;rw [F] at I;cases I;simp at W
    exact aa8 F (by simp) fun h _ m=>hE (.inr hy) h e (fun c o r U G X x=>m.extBut _ _ r (f _ _ X (up c o r U G x))) ⟨oe,m.extBut _ _ ah I,W⟩
  |some y=>
  refine aaa (mG I2 T2 hy fun g L f=>aab ?_);have p:IsPair g TO x b':=f.extBut _ _ D.TOi2 C;refine aaa (abH p rfl ?_);refine aaa (wpAny_updateSeq_pair p fun h n m=>?_)
  replace n:IsPair h TO x y:=n
  refine aaa (wpAny_letGo (aab (aab ?_)));refine aaa (abH n rfl ?_);refine aaa (wpAny_newTuple ?_);have Z:h.objs.size=s.heap.objs.size:=by rw [m.1,f.1,l.1,d.1,j.1]
  have aa:jh h z TI TO .ellipsis b:=m.extBut _ _ D.TOz.symm (f.extBut _ _ D.i2z.symm (l.extBut _ _ D.TOz.symm (d.extBut _ _ D.i1z.symm q)));have ab:∀ c o,c≠z->c≠TO->c≠i1->c≠i2->s.heap.get? c=some o->h.get? c=some o:=fun c o r U G X e=>m.extBut _ _ U (f.extBut _ _ X (up c o r U G e));have ai:h.IsTupleIter i1 a1 (k1+1):=gA (gA (gA J l.extBut D.TOi1.symm) f.extBut D.i12) m.extBut D.TOi1.symm;have aj:h.IsTupleIter i2 a2 (k2+1):=gA L m.extBut D.TOi2.symm;have af:z<h.objs.size:=aam aa;show wpAny _ _ (Builtin.SmallTypes.ownedTupleHandOut (.ref z) (.ref h.objs.size) >>= _) _ _ _;refine aaa ?_;unfold Builtin.SmallTypes.ownedTupleHandOut;have ak:jh (h.push { cls:=.type "tuple",data:=.seq #[x,y] }) z TI TO .ellipsis b:=aak _ aa;refine aaa (aa8 ak (by simp) fun ao M N=>?_)
  replace M:jh ao z TI TO (rawInt h.objs.size) b:=M
  refine aa8 M (by simp) fun H O P=>?_
  replace O:jh H z TI TO (rawInt h.objs.size) false:=O
  have up:∀ c o,c≠z->h.get? c=some o->H.get? c=some o:=fun c o r e=>P.extBut _ _ r (N.extBut _ _ r (aak _ e));have ac:IsPair H h.objs.size x y:=P.extBut _ _ (abz af) (N.extBut _ _ (abz af) (aay _ rfl));have ad:H.objs.size=h.objs.size+1:=by rw [P.1,N.1,aaV]
  rw [Z] at ac ad;refine aab ⟨_,rfl,?_⟩;show Q (.ref h.objs.size) _;rw [Z];exact hQ x y hx hy H ⟨⟨_,_,O,.inr ⟨_,rfl⟩⟩,up _ _ D.TIz (ab _ _ D.TIz D.TITO D.TIi1 D.TIi2 al),⟨_,_,up _ _ D.TOz n⟩,ai.at fun o e=>up _ o D.i1z e,aj.at fun o e=>up _ o D.i2z e⟩ ac ad fun c o r U G X e=>up c o r (ab c o r U G X e)
 ·simp only [abo,if_false];rw [← Array.forIn_toList];simp only [abE,List.forIn_nil];refine aaa (aaa (aaa (abb ?_)));show wpAny _ _ (Builtin.SmallTypes.nextOf (.ref i1) >>= _) _ _ _;cases hx:xs[k1]? with
  |none=>exact aaa (lN hh (gA h1 i.extBut D.i1z) (jk t1 i.extBut D.l1z) hx fun B e d he=>hE (.inl hx) B e (fun c o r _ G _ x=>d _ _ G (i.extBut _ _ r x)) he)
  |some x=>
  refine aaa (mG (gA h1 i.extBut D.i1z) (jk t1 i.extBut D.l1z) hx fun B J d=>aab (aab ?_));dsimp only;refine aaa (aaa (abb ?_));show wpAny _ _ (Builtin.SmallTypes.nextOf (.ref i2) >>= _) _ _ _;have I2:=gA (gA h2 i.extBut D.i2z) d.extBut D.i12.symm;have T2:=jk (jk t2 i.extBut D.l2z) d.extBut D.l2i1;cases hy:ys[k2]? with
  |none=>exact aaa (lN hh I2 T2 hy fun g e f he=>hE (.inr hy) g e (fun c o r U G X x=>f _ _ X (d.extBut _ _ G (i.extBut _ _ r x))) he)
  |some y=>
  refine aaa (mG I2 T2 hy fun g L f=>aab (aab ?_));dsimp only;refine aab ?_;dsimp only;refine aaa (wpAny_newTuple ?_ (by ext));have Z:g.objs.size=s.heap.objs.size:=by rw [f.1,d.1,i.1]
  have ae:∀ c o,c≠z->c≠TO->c≠i1->c≠i2->s.heap.get? c=some o->g.get? c=some o:=fun c o r U G X e=>f.extBut _ _ X (d.extBut _ _ G (i.extBut _ _ r e));have F:jh g z TI TO f0 true:=f.extBut _ _ D.i2z.symm (d.extBut _ _ D.i1z.symm ag);have up:∀ c o,g.get? c=some o->(g.push { cls:=.type "tuple",data:=.seq #[x,y] }).get? c=some o:=fun c o e=>aak _ e;refine aab ⟨_,rfl,?_⟩;show Q (.ref g.objs.size) _;have hT:IsPair (g.push { cls:=.type "tuple",data:=.seq #[x,y] }) g.objs.size x y:=aay _ rfl;have ad:(g.push { cls:=.type "tuple",data:=.seq #[x,y] }).objs.size=g.objs.size+1:=aaV ..;rw [Z] at hT ad;rw [Z];have p:IsPair g TO a b':=f.extBut _ _ D.TOi2 (d.extBut _ _ D.TOi1 (i.extBut _ _ D.TOz ap));exact hQ x y hx hy _ ⟨⟨_,_,up _ _ F,hf⟩,up _ _ (ae _ _ D.TIz D.TITO D.TIi1 D.TIi2 al),⟨_,_,up _ _ p⟩,(gA J f.extBut D.i12).at fun o e=>up _ o e,L.at fun o e=>up _ o e⟩ hT ad fun c o r U G X e=>up c o (ae c o r U G X e)
theorem JT {z TI TO g h d f:Z0} {i k2:Nat} {j l:Zf} {Q:Zb} (B:A.handled=none) (D:ZipApart z TI TO g h d f) (S:ZS s.heap z TI TO g h d f i k2)
 (C:s.heap.IsTuple d j) (G:s.heap.IsTuple f l) (H:∀ x y,j[i]?=some x->l[k2]?=some y->∀ a,ZS a z TI TO g h d f (i+1) (k2+1)->IsPair a s.heap.objs.size x y->a.objs.size=s.heap.objs.size+1-> (∀ c o,c≠z->c≠TO->c≠g->c≠h->s.heap.get? c=some o->a.get? c=some o)->Q (.ref s.heap.objs.size) { s with heap:=a })
 (I:(j[i]?=none∨l[k2]?=none)->∀ a e,(∀ c o,c≠z->c≠TO->c≠g->c≠h->s.heap.get? c=some o->a.get? c=some o)->(∃ o,a.get? e=some o/\o.cls=.type "StopIteration")->E (.ref e) { s with heap:=a }):wpAny (model prog w) A (Builtin.SmallTypes.nextOf (.ref z)) Q E s:=by
 obtain ⟨J,b,v,_⟩:=S.zz;have m:s.TypeIs (.ref z) "zip":=⟨_,v,rfl⟩;unfold Builtin.SmallTypes.nextOf;exact aaa (wpAny_callSpecial?_slot (name:=Str.ofString "__next__") m F.slot_zip_next (abc F.slot_zip_next m F.entry_zip_next (Al (A:=A.in1) B D S C G (fun x y n p a d f q r=>aab (H x y n p a d f q r)) I) (F.args_zip_next_1 _)))
theorem Bm {e N:Z0} {i:Nat} {I:Z6} {Q:Zb} (he:IsEnum s.heap e N i I)
 (U:wpAny (model prog w) A (Builtin.SmallTypes.nextOf (.ref N)) (fun x O=>∃ a tk,O={ s with heap:=a,toks:=tk }/\IsEnum a e N i I/\ ∀ W,IsEnumOut W e N ((i:Int)+1) x a.objs.size->W.get? a.objs.size=some { cls:=.type "tuple",data:=.seq #[.int i tk,x] }->(∀ b o,b≠e->a.get? b=some o->W.get? b=some o)-> Q (.ref a.objs.size) { s with heap:=W,toks:=tk+1 }) E s) :
 wpAny (model prog w) A (Builtin.«enumerate.__next__» ⟨[.ref e],[]⟩) (fun X s'=>∃ v,X=.done (.ret v)/\Q v s') E s:=by
 obtain ⟨hp,g,d,Z,R⟩:=s;show wpAny _ _ (field (.ref e) 2 >>= _) _ _ _;refine aaa (aaD he rfl (x:=.ref N) rfl ?_);refine aaa (aaH U (fun x O hx=>?_) fun _ _ z=>z);obtain ⟨a,tk,rfl,D,hQ⟩:=hx;show wpAny _ _ (field (.ref e) 3 >>= _) _ _ ⟨a,g,d,tk,R⟩;refine aaa (aaD D rfl (x:=rawInt i) rfl ?_);show wpAny _ _ (field (.ref e) 4 >>= _) _ _ ⟨a,g,d,tk,R⟩;refine aaa (aaD D rfl (x:=.none) rfl ?_);show wpAny _ _ (mkInt i >>= _) _ _ ⟨a,g,d,tk,R⟩;refine aaa (wpAny_mkInt ?_);show wpAny _ _ (setField (.ref e) 3 (rawInt ((i:Int)+1)) >>= _) _ _ ⟨a,g,d,tk+1,R⟩;refine aaa (aa8 D (by simp) fun F m f=>?_)
 replace f:Heap.SameBut e a F:=f
 replace m:IsEnum F e N ((i:Int)+1) I:=m
 show wpAny _ _ (setField (.ref e) 4 .none >>= _) _ _ ⟨F,g,d,tk+1,R⟩;refine aaa (aa8 m (by simp) fun c h j=>?_)
 replace j:Heap.SameBut e F c:=j
 replace h:IsEnum c e N ((i:Int)+1) I:=h
 show wpAny _ _ (newTuple [.int i tk,x] >>= _) _ _ ⟨c,g,d,tk+1,R⟩;refine aaa (wpAny_newTuple ?_);have l:IsEnum (c.push { cls:=.type "tuple",data:=.seq #[.int i tk,x] }) e N ((i:Int)+1) I:=aak _ h;have Y:c.objs.size=a.objs.size:=by rw [j.1,f.1]
 have C:(c.push { cls:=.type "tuple",data:=.seq #[.int i tk,x] }).get? c.objs.size=some { cls:=.type "tuple",data:=.seq #[.int i tk,x] }:=aay _ rfl;have M:∀ b o,b≠e->a.get? b=some o->(c.push { cls:=.type "tuple",data:=.seq #[.int i tk,x] }).get? b=some o:=fun b o S P=>aak _ (j.extBut b o S (f.extBut b o S P));have T:e<c.objs.size:=aam h;generalize c.push { cls:=.type "tuple",data:=.seq #[.int i tk,x] }=H at l C M;rw [Y] at C T ⊢;show wpAny _ _ (Builtin.SmallTypes.ownedTupleIsFree (.ref e) >>= _) _ _ ⟨H,g,d,tk+1,R⟩;refine aaa ?_;unfold Builtin.SmallTypes.ownedTupleIsFree;refine aaa (aaD l rfl (x:=.none) rfl (aab ?_));simp only [if_true];refine aaa (abl ?_);show wpAny _ _ (field (.ref e) 5 >>= _) _ _ _;refine aaa (aaD l rfl (x:=I) rfl ?_);show wpAny _ _ (setField (.ref e) 5 x >>= _) _ _ ⟨H,g,d,tk+1,R⟩;refine aaa (aa8 l (by simp) fun J n p=>?_)
 replace n:IsEnum J e N ((i:Int)+1) x:=n
 replace p:Heap.SameBut e H J:=p
 show wpAny _ _ (Builtin.SmallTypes.ownedTupleHandOut (.ref e) (.ref a.objs.size) >>= _) _ _ _;refine aaa ?_;unfold Builtin.SmallTypes.ownedTupleHandOut;refine aaa (aa8 n (by simp) fun L q r=>?_)
 replace r:Heap.SameBut e J L:=r
 replace q:IsEnumOut L e N ((i:Int)+1) x a.objs.size:=q
 refine aa8 q (by simp) fun G y B=>?_
 replace B:Heap.SameBut e L G:=B
 replace y:IsEnumOut G e N ((i:Int)+1) x a.objs.size:=y
 refine aaa (wpAny_letGo (aab ⟨_,rfl,?_⟩));have up:∀ b o,b≠e->H.get? b=some o->G.get? b=some o:=fun b o P z=>B.extBut b o P (r.extBut b o P (p.extBut b o P z));exact hQ G y (up _ _ (abz T) C) fun b o P z=>up b o P (M b o P z)
end
abbrev TV (h:Z7) (a:Z0):Heap:=h.push { cls:=.type "tuple_iterator",data:=.fields #[.ref a,.int 0 0] }
abbrev U0 (h:Z7) (a b:Z0):Heap:=(TV h a).push { cls:=.type "tuple_iterator",data:=.fields #[.ref b,.int 0 0] }
abbrev U4 (h:Z7) (a b:Z0):Heap:=(U0 h a b).push { cls:=.type "tuple",data:=.seq #[.ref h.objs.size,.ref (TV h a).objs.size] }
abbrev Ui (h:Z7) (a b:Z0):Heap:=(U4 h a b).push { cls:=.type "tuple",data:=.seq #[.none,.none] }
abbrev Ky (h:Z7) (a b:Z0):Heap:=(Ui h a b).push { cls:=.type "zip",data:=.fields #[.none,.bool false,.bool false,.ref (U0 h a b).objs.size,.ref (U4 h a b).objs.size] }
theorem Fz (a b:Z0) (q v:Zf) :
 Meets (Builtin.«zip.__new__» ⟨[.type "zip",.ref a,.ref b],[]⟩) (fun _ R s=>s.heap.IsTuple a q/\s.heap.IsTuple b v/\ R (.ok (.ret (.ref (Ui s.heap a b).objs.size))) { s with heap:=Ky s.heap a b }):=
 .of_wp fun l w A R s h=>by
  obtain ⟨n,g,d,tk,p⟩:=s;obtain ⟨i,j,h⟩:=h;have m:=sub_zip;have c:Heap.IsTuple (Shared.heap ⟨n,g,d,tk,p⟩) a q:=i;have f:Heap.IsTuple (Shared.heap ⟨n.push { cls:=.type "tuple_iterator",data:=.fields #[.ref a,.int 0 0] },g,d,tk,p⟩) b v:=let ⟨o,e,r⟩:=j;⟨o,aak _ e,r⟩
  wp_walk using acF c,acF f
  exact ⟨_,rfl,h⟩
theorem Ax (f:s.heap.IsTuple a m) (g:s.heap.IsTuple b n)
 (h:∀ d,jh d (s.heap.objs.size+4) (s.heap.objs.size+2) (s.heap.objs.size+3) .none false->IsPair d (s.heap.objs.size+2) (.ref s.heap.objs.size) (.ref (s.heap.objs.size+1))-> IsPair d (s.heap.objs.size+3) .none .none->d.IsTupleIter s.heap.objs.size a 0->d.IsTupleIter (s.heap.objs.size+1) b 0->d.objs.size=s.heap.objs.size+5-> (∀ c o,s.heap.get? c=some o->d.get? c=some o)->Q (.ref (s.heap.objs.size+4)) { s with heap:=d }) :
 wpAny (model q w) A (call (.type "zip") [.ref a,.ref b]) Q E s:=by
 refine callType_new F.called_zip (by decide) (F.typeCall_zip_2 _ _) (F.newCall_zip_2 _ _) (fun obj=>F.args_object_init_3 obj _ _) F.entry_zip_new
  (Fz a b m n) ⟨f,g,?_⟩;have z1:(TV s.heap a).objs.size=s.heap.objs.size+1:=aaV ..;have z2:(U0 s.heap a b).objs.size=s.heap.objs.size+2:=by rw [aaV,z1]
 have z3:(U4 s.heap a b).objs.size=s.heap.objs.size+3:=by rw [aaV,z2]
 have z4:(Ui s.heap a b).objs.size=s.heap.objs.size+4:=by rw [aaV,z3]
 have z5:(Ky s.heap a b).objs.size=s.heap.objs.size+5:=by rw [aaV,z4]
 have e:(Ky s.heap a b).get? (Ui s.heap a b).objs.size=some _:=aay _ rfl;have i:(Ky s.heap a b).get? (U4 s.heap a b).objs.size=some _:=aak _ (aay _ rfl);have j:(Ky s.heap a b).get? (U0 s.heap a b).objs.size=some _:=aak _ (aak _ (aay _ rfl));have l:(Ky s.heap a b).get? (TV s.heap a).objs.size=some _:=aak _ (aak _ (aak _ (aay _ rfl)));have p:(Ky s.heap a b).get? s.heap.objs.size=some _:=aak _ (aak _ (aak _ (aak _ (aay _ rfl))));show _/\_;rw [z2,z3,z4] at e;rw [z1,z2] at j;rw [z3] at i;rw [z1] at l;rw [z4];exact ⟨⟨_,e,rfl⟩,h _ e j i ⟨_,p,rfl,rfl⟩ ⟨_,l,rfl,rfl⟩ z5 fun c o x=> aak _ (aak _ (aak _ (aak _ (aak _ x))))⟩
theorem rW {s:Z1} {z TI TO:Z0} {c:Z6} {b:Bool} {Q:Zb} (d:jh s.heap z TI TO c b) (h:Q (.ref z) s):wpAny (model e w) A (pyIter (.ref z)) Q E s:=by have a:s.TypeIs (.ref z) "zip":=⟨_,d,rfl⟩;refine wpAny_pyIter_slot a F.slot_zip_iter (abc F.slot_zip_iter a F.entry_zip_iter ?_ (F.args_zip_iter_1 _));show wpAny _ _ (ret (.ref z)) _ _ s;exact aab ⟨_,rfl,"zip",_,a,F.slot_zip_next.lookup,h⟩
theorem zY (z TI TO:Z0) :
 Meets (Builtin.«enumerate.__new__» ⟨[.type "enumerate",.ref z],[]⟩) (fun _ R s=>jh s.heap z TI TO .none false/\ R (.ok (.ret (.ref s.heap.objs.size))) { s with heap:=s.heap.push { cls:=.type "enumerate",data:=.fields #[.none,.bool false,.ref z,rawInt 0,.none,.none] } }):=
 .of_wp fun b w A R s h=>by
  obtain ⟨i,g,d,tk,j⟩:=s;obtain ⟨a,h⟩:=h;have e:=sub_enumerate;have f:jh (Shared.heap ⟨i,g,d,tk,j⟩) z TI TO .none false:=a
  wp_walk using acW a
  refine wpAny_stack_any fun l=>aab ?_;split
  ·rename_i c _ _ _ _ _;cases (c == Value.type "enumerate") <;> (wp_walk using acW a,rW f;exact ⟨_,rfl,h⟩)
  ·wp_walk using acW a,rW f
   exact ⟨_,rfl,h⟩
theorem yG {a:Z4} {w:Z5} {A:Z8} {E:Zb} {s:Z1} {z TI TO:Z0} {Q:Zb} (d:jh s.heap z TI TO .none false)
 (h:∀ g,IsEnum g s.heap.objs.size z 0 .none->(∀ b o,s.heap.get? b=some o->g.get? b=some o)->Q (.ref s.heap.objs.size) { s with heap:=g }):wpAny (model a w) A (call (.type "enumerate") [.ref z]) Q E s:=by
 refine callType_new F.called_enumerate (by decide) (F.typeCall_enumerate_1 _) (F.newCall_enumerate_1 _) (fun obj=>F.args_object_init_2 obj _) F.entry_enumerate_new (zY z TI TO) ⟨d,?_⟩;have c:=aay s.heap (o:={ cls:=.type "enumerate",data:=.fields #[.none,.bool false,.ref z,rawInt 0,.none,.none] }) rfl;exact ⟨⟨_,c,rfl⟩,h _ c fun b o x=>aak _ x⟩
def Rq (K:Z2) (c d:Z0):It:=
 ⟨fun i H=>∃ a b x y,eE K H c a/\eE K H d b/\a[i]?=some x/\b[i]?=some y,fun i H v e=>∃ q p x y,H q=none/\upd H q (.tup [x,y]) p=none/\v=.ref p/\(∀ a,eE K H c a->a[i]?=some x)/\(∀ b,eE K H d b->b[i]?=some y)/\e=upd (upd H q (.tup [x,y])) p (.tup [.int i,.ref q]),fun i H=>∃ a b,eE K H c a/\eE K H d b/\(a.length≤i∨b.length≤i)⟩
structure uI (e z TI TO i1 i2:Z0):Prop where
 ez:e≠z
 eTI:e≠TI
 eTO:e≠TO
 e1:e≠i1
 e2:e≠i2
 TIz:TI≠z
 TOz:TO≠z
 i1z:i1≠z
 i2z:i2≠z
 TITO:TI≠TO
 TIi1:TI≠i1
 TIi2:TI≠i2
 TOi1:TO≠i1
 TOi2:TO≠i2
 i12:i1≠i2
abbrev EZ (e z TI TO b c d f:Z0) (i:Nat) (h:Z7):Prop:=(∃ a,IsEnum h e z i a)/\ZS h z TI TO b c d f i i
theorem EZ.obj {e z TI TO f g s w:Z0} {i:Nat} {h:Z7} (A:EZ e z TI TO f g s w i h):∀ b∈[e,z,TI,TO,f,g],∃ o,h.get? b=some o/\∀ v,o.data≠.cell v:=by
 obtain ⟨⟨j,l⟩,⟨B,C,m,_⟩,a,⟨x,y,c⟩,⟨o1,n,_,p⟩,⟨D,q,_,r⟩⟩:=A;intro b d;simp only [aaf,abp,or_false] at d;rcases d with rfl|rfl|rfl|rfl|rfl|rfl
 ·exact ⟨_,l,fun v z=>by cases z⟩
 ·exact ⟨_,m,fun v z=>by cases z⟩
 ·exact ⟨_,a,fun v z=>by cases z⟩
 ·exact ⟨_,c,fun v z=>by cases z⟩
 ·exact ⟨_,n,fun v z=>by rw [p] at z;cases z⟩
 ·exact ⟨_,q,fun v z=>by rw [r] at z;cases z⟩
theorem ZS.keep {z TI TO d f g j:Z0} {i:Nat} {h l:Z7} (v:ZS h z TI TO d f g j i i) (k:∀ b∈[z,TI,TO,d,f],∀ o,h.get? b=some o->l.get? b=some o):ZS l z TI TO d f g j i i:=by obtain ⟨⟨m,n,p,q⟩,a,⟨x,y,c⟩,r,s⟩:=v;exact ⟨⟨m,n,k _ (by simp) _ p,q⟩,k _ (by simp) _ a,⟨x,y,k _ (by simp) _ c⟩,r.at fun o e=>k _ (by simp) _ e,s.at fun o e=>k _ (by simp) _ e⟩
theorem ZS.obj {z TI TO d e n p:Z0} {i j:Nat} {h:Z7} (q:ZS h z TI TO d e n p i j):∀ b∈[z,TO,d,e],∃ o,h.get? b=some o:=by
 obtain ⟨⟨r,s,f,_⟩,g,⟨x,y,a⟩,⟨o1,l,_,v⟩,⟨w,m,_,A⟩⟩:=q;intro b c;simp only [aaf,abp,or_false] at c;rcases c with rfl|rfl|rfl|rfl
 ·exact ⟨_,f⟩
 ·exact ⟨_,a⟩
 ·exact ⟨_,l⟩
 ·exact ⟨_,m⟩
theorem CK (I:Inv X c g H s) (j:eE X.K H a i) (d:ju X c H b):a≠b:=by
 rintro rfl;rcases j with h|⟨o,f,n,hk,_⟩
 ·rcases h with h|⟨u,h⟩
  ·rw [d.1] at h;cases h
  ·rw [d.1] at h;cases h
 ·have e:=I.ok.mod.kin _ _ hk;rcases d.2.2.2.1 with z|z
  ·exact I.ok.noex _ _ e z
  ·exact absurd (aam (I.ok.bs _ _ e).1) (Nat.not_lt.mpr z)
theorem Inv.turnedN {X:Cx} {a:Zi} {g:St} {H:Hp} {s:Z1} {h:Z7} {B:Nat} {fp:Zh} (I:Inv X a g H s) (k:∀ b u,b∉fp->s.heap.get? b=some u->h.get? b=some u) (f:∀ b∈fp,ju X a H b):Inv X a g H { s with heap:=h,toks:=B }:=by
 have off:∀ b u,H b=some u->b∉fp:=fun b u e z=>by rw [(f b z).1] at e;cases e
 refine I.step (g':=s.gens) (d':=s.drawn) (ch:=fp) (fun b i=>?_) (fun b u _ _ d e _=>k b u d e) (fun b u _ _ d e _=>⟨u.slots,k b u d e⟩) (fun _ _ _ _ n=>n) (fun b u d e=>⟨u,k b u d e⟩) (fun _ _ e=>e) (fun _ _ _ e=>e) (fun b C e=>⟨#[],by rw [e];simp⟩) (fun m j=>?_) (fun b u e=>?_) I.bare
 ·obtain ⟨_,l,_,o,p,w⟩:=f b i;exact ⟨o,l,p,w⟩
 ·obtain ⟨u,x,y,A,r⟩:=j;exact ⟨u,x,y,k _ u (fun z=>(f _ z).2.1 rfl) A,r⟩
 ·refine (I.hok b u e).stay (fun c v d q=>k c v ?_ q) (fun c q=>q) fun c D q=>q;rcases d with rfl|z
  ·exact off _ u e
  ·exact off c _ z
theorem ju.upd (h:ju X c H b) (ne:b≠a):ju X c (upd H a o) b:=⟨by rw [b7 ne];exact h.1,h.2⟩
theorem uI.zip {X:Cx} {a:Zi} {r:St} {H:Hp} {s:Z1} {f g e z TI TO c d:Z0} {v w:List V} (D:uI e z TI TO c d) (I:Inv X a r H s) (q:∀ b∈[e,z,TI,TO,c,d],ju X a H b) (h:eE X.K H f v) (i:eE X.K H g w):ZipApart z TI TO c d f g:=by have p:∀ b∈[e,z,TI,TO,c,d],f≠b/\g≠b:=fun b j=>⟨CK I h (q b j),CK I i (q b j)⟩;simp only [aaf,abp,or_false,forall_eq_or_imp,forall_eq] at p;obtain ⟨_,l,_,m,n,o⟩:=p;exact ⟨D.TIz,D.TOz,D.i1z,D.i2z,D.TITO,D.TIi1,D.TIi2,D.TOi1,D.TOi2,D.i12,l.1,m.1,n.1,o.1,l.2,m.2,n.2,o.2⟩
theorem yD {P:Z4} {w:Z5} {K:Z2} {elts:Zl} {k1} {pos:Pos} (a1 a2 e z TI TO B C:Z0) (D:uI e z TI TO B C) :
 Turn P w K (.Tuple elts k1 pos) (Rq K a1 a2) [e,z,TI,TO,B,C] e (EZ e z TI TO B C a1 a2) where
 mem:=by simp
 obj:=fun i h v b a=>v.obj b a
 keep:=fun i h h' v k=>⟨let ⟨n,h1⟩:=v.1;⟨n,k e (by simp) _ h1⟩,v.2.keep fun b a o z=>k b (aag _ a) o z⟩
 item:=by
  intro X hP hw hK hc i p s σ H E I M v hg;subst hP hw hK;obtain ⟨xs,ys,x,y,j,l,hx,hy⟩:=hg;obtain ⟨d,R,p1,_⟩:=I.tuple j;obtain ⟨f,U,p2,_⟩:=I.tuple l;obtain ⟨u1,hu1,ae⟩:=R.get hx;obtain ⟨u2,af,ag⟩:=U.get hy;have t1:s.heap.IsTuple a1 d.toArray:=p1;have t2:s.heap.IsTuple a2 f.toArray:=p2;obtain ⟨⟨n,G⟩,S⟩:=v;have free:∀ b∈[e,z,TI,TO,B,C],H b=none:=fun b a=>(M b a).1;have ZA:=D.zip I M j l;have Z:s.TypeIs (.ref e) "enumerate":=⟨_,G,rfl⟩;unfold pyNext;refine aaa (wpAny_attempt (wpAny_callSpecial?_slot (name:=Str.ofString "__next__") Z acv (abc acv Z F.entry_enumerate_next (Bm G ?_) (F.args_enumerate_next_1 _))));have q1:d.toArray[i]?=some u1:=by simpa using hu1
  have q2:f.toArray[i]?=some u2:=by simpa using af
  refine JT (I.ok.hd hc) ZA S t1 t2 (fun x' y' e1 e2 c J N O m=>?_) fun z=>by rcases z with z|z <;> simp_all
  obtain rfl:=aaQ (q1.symm.trans e1);obtain rfl:=aaQ (q2.symm.trans e2);have Q:IsEnum c e z i n:=m _ _ D.ez D.eTO D.e1 D.e2 G;refine ⟨c,s.toks,rfl,Q,fun h' ho ht W=>aab ⟨_,rfl,?_⟩⟩;have lt:∀ b∈[e,z,TI,TO,B,C],b<s.heap.objs.size:=fun b a=>by obtain ⟨o,z',_⟩:=EZ.obj (⟨⟨n,G⟩,S⟩:EZ e z TI TO B C a1 a2 i s.heap) b a;exact aam z'
  have I1:Inv X p σ (upd H s.heap.objs.size (.tup [x,y])) { s with heap:=c,toks:=s.toks }:=by
   refine I.turnLaid (fp:=[z,TO,B,C]) (fun b o a q=>m b o (fun r=>a (by simp [r])) (fun r=>a (by simp [r])) (fun r=>a (by simp [r])) (fun r=>a (by simp [r])) q) (fun b a=>?_) (fun b a=>M b ?_) (aae _) ?_
   ·exact J.obj b a
   ·simp at a ⊢;rcases a with h|h|h|h <;> simp [h]
   ·exact ⟨by show 2≤sizeLine;decide,[u1,u2],.cons ae (.cons ag .nil),⟨_,N,rfl,_,rfl⟩⟩
  have aa:∀ b∈[e,z,TI,TO,B,C],(upd H s.heap.objs.size (.tup [x,y])) b=none:=fun b a=>by rw [b7 (aap (lt b a))];exact free b a
  have ad:(upd H s.heap.objs.size (.tup [x,y])) c.objs.size=none:=I1.hok.fresh (aae _);have I2:Inv X p σ (upd (upd H s.heap.objs.size (.tup [x,y])) c.objs.size (.tup [.int i,.ref s.heap.objs.size])) { s with heap:=h',toks:=s.toks+1 }:=by
   refine Inv.turnLaid (s:={ s with heap:=c,toks:=s.toks }) (fp:=[e]) I1 (fun b o a q=>W b o (fun r=>a (by simp [r])) q) (fun b a=>?_) (fun b a=>?_) (aae _) ?_
   ·cases aai.mp a;exact ⟨_,ho⟩
   ·cases aai.mp a;exact (M e (by simp)).upd (aap (lt e (by simp)))
   ·exact ⟨by show 2≤sizeLine;decide,[.int i s.toks,.ref s.heap.objs.size],.cons ⟨_,rfl⟩ (.cons rfl .nil),⟨_,ht,rfl,_,rfl⟩⟩
  have L:∀ b∈[e,z,TI,TO,B,C],(upd (upd H s.heap.objs.size (.tup [x,y])) c.objs.size (.tup [.int i,.ref s.heap.objs.size])) b=none:=fun b a=>by rw [b7 (aap (aas (lt b a) (by rw [O];exact aba _)))];exact aa b a
  refine wpAny_letOwnedTupleGo_enum ho fun g2 ab Y=>?_;obtain ⟨f0,f1,f2,f3,f4,f5⟩:=M e (by simp);refine ⟨.ref c.objs.size,_,I2.turned (t':=s.toks+1) (fun b o a q=>(Y.2 b a).trans q) (L e (by simp)) f1 f3 f4 f5,rfl,⟨s.heap.objs.size,c.objs.size,x,y,I.hok.fresh (aae _),ad,rfl,fun zs hz=>by rw [I.tuple_inj hz j];exact hx,fun zs hz=>by rw [I.tuple_inj hz l];exact hy,rfl⟩,⟨⟨_,by simpa using ab⟩,?_⟩,L⟩;refine J.keep fun b a o q=>?_;have be:b≠e:=by
   simp only [aaf,abp,or_false] at a;rcases a with rfl|rfl|rfl|rfl|rfl
   ·exact D.ez.symm
   ·exact D.eTI.symm
   ·exact D.eTO.symm
   ·exact D.e1.symm
   ·exact D.e2.symm
  exact (Y.2 b be).trans (W b o be q)
 done:=by intro X hP hw hK hc i p s σ H E I M v hg;subst hP hw hK;obtain ⟨xs,ys,j,l,ai⟩:=hg;obtain ⟨d,R,p1,_⟩:=I.tuple j;obtain ⟨f,U,p2,_⟩:=I.tuple l;have t1:s.heap.IsTuple a1 d.toArray:=p1;have t2:s.heap.IsTuple a2 f.toArray:=p2;obtain ⟨⟨n,G⟩,S⟩:=v;have l1:=R.length;have l2:=U.length;have ZA:=D.zip I M j l;have Z:s.TypeIs (.ref e) "enumerate":=⟨_,G,rfl⟩;unfold pyNext;refine aaa (wpAny_attempt (wpAny_callSpecial?_slot (name:=Str.ofString "__next__") Z acv (abc acv Z F.entry_enumerate_next ?_ (F.args_enumerate_next_1 _))));show wpAny _ _ (field (.ref e) 2 >>= _) _ _ _;refine aaa (aaD G rfl (x:=.ref z) rfl (aaa (JT (A:=X.A.in1) (I.ok.hd hc) ZA S t1 t2 (fun _ _ e1 e2=>by simp at e1 e2;have:=(aaG.mp e1).1;have:=(aaG.mp e2).1;omega) fun _ g x' hk ac=>?_)));obtain ⟨o,ho,ah⟩:=ac;refine aaa (wpAny_isInstance (T:="StopIteration") (b:=true) ⟨o,ho,ah⟩ isSubtype_stop (aab ⟨rfl,?_⟩));exact I.turnedN (fp:=[z,TO,B,C]) (fun b o a q=>hk b o (fun r=>a (by simp [r])) (fun r=>a (by simp [r])) (fun r=>a (by simp [r])) (fun r=>a (by simp [r])) q) (fun b a=>M b (by simp at a ⊢;rcases a with h|h|h|h <;> simp [h]))
 self:=fun _ _ _ _ _ v h=>let ⟨_,G⟩:=v.1;wpAny_pyIter_enum G h
def Mh (K:Z2) (g:TA):TI:=fun d H R=>g d H fun vs a=>∃ b c,vs=[.ref b,.ref c]/\(∃ e,eE K a b e)/\(∃ f,eE K a c f)/\R (Rq K b c) a
theorem Kr:bootBuiltins "zip" = some (.type "zip"):=by ext
theorem Em {k1} (hg:Gl X "enumerate") (hm:X.mg "enumerate" = none) (M:Gl X "zip") (N:X.mg "zip" = none) (ha:PA X [a,b] U)
 (hs:starEach [a,b] X.env=(false,eval a X.env)::starEach [b] X.env:=by rfl) (O:(backTo c (starEach [b] X.env)).any (·.1)=false:=by rfl)
 (y:starEach [.Call (.Name "zip" A) [a,b] [] c] X.env=(false,eval (.Call (.Name "zip" A) [a,b] [] c) X.env)::starEach [] X.env:=by rfl) (P:(backTo l (starEach [] X.env)).any (·.1)=false:=by rfl) :
 PI X (.Tuple x k1 pt) (.Call (.Name "enumerate" p) [.Call (.Name "zip" A) [a,b] [] c] [] l) (Mh X.K U):=by
 intro w s σ H R I h;refine Call_ (mz I hg hm uE (ach ?_ y P));rw [y];show wpAny _ _ (spliced ((false,eval (.Call (.Name "zip" A) [a,b] [] c) X.env)::backTo l (starEach [] X.env))) _ _ s;refine Calls.spliced_cons ?_;refine aa4 (mz I M N Kr (ach (eG (ha c w s σ H _ I h) fun us d ⟨vs,W,m,r1,q1⟩=>?_) hs O) (by decide) (by decide));obtain ⟨E,F,rfl,⟨xs,G⟩,⟨ys,J⟩,q⟩:=q1;obtain ⟨u1,u2,rfl,e1,e2⟩:=vals2 r1;cases (show u1=Value.ref E from e1);cases (show u2=Value.ref F from e2);obtain ⟨r,aa,p1,_⟩:=m.tuple G;obtain ⟨v,ab,L,_⟩:=m.tuple J;refine Ax (show d.heap.IsTuple E r.toArray from p1) (show d.heap.IsTuple F v.toArray from L) fun i Q B C Y Z j hk=>?_;refine Calls.spliced_nil ?_;refine yG (s:={ d with heap:=i }) Q fun g S f=>wpAny_pyIter_enum S ?_;have D:∀ b o,d.heap.get? b=some o->g.get? b=some o:=fun b o e=>f _ _ (hk _ _ e);have eh:({ d with heap:=i }:Z1).heap.objs.size=d.heap.objs.size+5:=j;refine ⟨d.heap.objs.size+5,[d.heap.objs.size+5,d.heap.objs.size+4,d.heap.objs.size+2,d.heap.objs.size+3,d.heap.objs.size,d.heap.objs.size+1],_,_,W,?_,m.kept (t':=d.toks) D,yD E F _ _ _ _ _ _ ?_,⟨⟨.none,?_⟩,⟨⟨_,_,f _ _ Q,.inl rfl⟩,f _ _ B,⟨_,_,f _ _ C⟩,Y.at fun o e=>f _ _ e,Z.at fun o e=>f _ _ e⟩⟩,fun b T=>?_,q⟩
 ·rw [j]
 ·constructor <;> (intro z;have z':(_:Nat)=_:=z;omega)
 ·rw [← j];exact S
 ·have n:d.heap.objs.size≤b:=by
   simp only [aaf,abp,or_false] at T;rcases T with rfl|rfl|rfl|rfl|rfl|rfl
   ·exact ab2 _ 5
   ·exact ab2 _ 4
   ·exact ab2 _ 2
   ·exact ab2 _ 3
   ·exact aae _
   ·exact ab2 _ 1
  exact m.fpOk n (m.hok.fresh n)
theorem Be {K:Z2} {a1 a2:Z0} {xs ys:List V} {g:TG} {s:TS} {D:Ends} {a:St} {H:Hp} (b:Nat->St->Hp->Prop) (G:b 0 a H) (I:∀ i a H,i≤min xs.length ys.length->b i a H->eE K H a1 xs/\eE K H a2 ys)
 (J:∀ i x y a H q p,xs[i]?=some x->ys[i]?=some y->b i a H->H q=none->upd H q (.tup [x,y]) p=none->g (.ref p) a (upd (upd H q (.tup [x,y])) p (.tup [.int i,.ref q])) fun c h=>s { D with nx:=b (i+1),ct:=b (i+1),bk:=D.nx } c h)
 (hd:∀ a H,b (min xs.length ys.length) a H->D.nx a H) :
 ∃ W:Nat->Nat->St->Hp->Prop,(∃ m,W 0 m a H)/\∀ i m a H,W i m a H->((Rq K a1 a2).stop i H/\D.nx a H)∨((Rq K a1 a2).go i H/\∃ N:St->Hp->Prop,(∀ d f,N d f->∃ r,r<m/\W (i+1) r d f)/\∀ x f,(Rq K a1 a2).yld i H x f->g x a f fun c h=>s { D with nx:=N,ct:=N,bk:=D.nx } c h):=by
 refine ⟨fun i m a H=>m=min xs.length ys.length-i/\i≤min xs.length ys.length/\b i a H,⟨min xs.length ys.length,by simp,aaA _,G⟩,?_⟩;rintro i m a H ⟨rfl,A,p⟩;obtain ⟨q1,q2⟩:=I i a H A p;by_cases o:i<min xs.length ys.length
 ·have v:i<xs.length:=by omega
  have w:i<ys.length:=by omega
  refine .inr ⟨⟨xs,ys,xs[i],ys[i],q1,q2,by simp [v],by simp [w]⟩,b (i+1),fun d f z=>⟨min xs.length ys.length-(i+1),by omega,rfl,o,z⟩,?_⟩;rintro x f ⟨q,B,C,E,F,j,rfl,l,n,rfl⟩;exact J i C E a H q B (l xs q1) (n ys q2) p F j
 ·have e:i=min xs.length ys.length:=by omega
  subst e;exact .inl ⟨⟨xs,ys,q1,q2,by omega⟩,hd a H p⟩
end L2
namespace L2
open PySem PySem.Spec PyProof.Rows PySem.W PyProof.V
end L2
namespace L2
open PySem PySem.Spec PyProof.Rows PySem.SeqAt PySem.Builtin PySem.Builtin.Str
end L2
namespace L2
open PySem PySem.Spec PyProof.Rows PySem.SeqAt
open PySem.Builtin PySem.Builtin.Str
end L2
namespace L2
open PySem PySem.Spec PyProof.Rows PySem.SeqAt
open PySem.Builtin PySem.Builtin.Str
end L2
namespace L2
open PySem PySem.Spec PyProof.Rows PySem.SeqAt PySem.Builtin
end L2
namespace L2
open PySem PySem.Spec PyProof.Rows PySem.SeqAt PySem.W Builtin.ObjectAttr
end L2
namespace L2
open PySem PySem.Spec PyProof.Rows PySem.SeqAt PySem.W
end L2
namespace L2
open PySem PySem.Spec PyProof.Rows
def ye (J:It) (g:TG) (y:TT) (h:TI) (z:TG) (j:TT) (A:TE) (F:List V->Hp->Prop) (W:Nat->Nat->List V->St->Hp->Prop):Prop:=
 ∀ i m d n H,W i m d n H->(J.stop i H/\F d H)∨(J.go i H/\∀ x o,J.yld i H x o->g x n o fun a q=>y a q fun b l=> if b=true then h a l fun r s=>∃ p:Nat->Nat->List V->St->Hp->Prop,(∃ w,p 0 w d a s)/\xP r z j A (fun e f v=>∃ c,c<m/\W (i+1) c e f v) p else ∃ c,c<m/\W (i+1) c d a l)
def Om (h:TI) (g:TG) (i:TT) (a:TI) (j:TG) (b:TT) (l:TE) (k:Nat) (n:List Nat):TE:=fun c H Q=>h c H fun J f=>∃ W:Nat->Nat->List V->St->Hp->Prop,(∃ m,W 0 m [] (j7 k n c) f)/\
 ye J g i a j b l (fun d e=>d.length≤sizeLine/\∀ p,e p=none->Q (.ref p) (upd e p (.lst d))) W
theorem wK (A:X.calm=true) (hg:∀ e C c d r,PG (di X scope N' e C c d r) tg g) (hc:∀ e C c d r,nJ (di X scope N' e C c d r) ifs tt)
 (hi2:∀ e C c d r,PI (di X scope N' e C c d r) tg2 iter2 wi2) (hs2:∀ env x,foldedSetIterable iter2 env x=pure x) (hg2:∀ e C c d r,PG (di X scope N' e C c d r) tg2 g2) (hc2':∀ e C c d r,nJ (di X scope N' e C c d r) ifs2 tt2) (he:∀ e C c d r,PE (di X scope N' e C c d r) elt te)
 (T:Turn X.prog X.w X.K tg J fp it tn) (turn:ye J g tt wi2 g2 tt2 te F W):zG X scope N' fp tn it (.ListComp elt [⟨tg,iter,ifs,0⟩,⟨tg2,iter2,ifs2,0⟩] scope pos) W F e f j:=by
 intro C o R O ha hR s D H m I st fr w0;refine Ca (Y:=di X scope N' e C f j fp) (α:=List V×List Value×Nat) (iter:=iter) (B:=fun k=>do
  let x ← eval iter2 (compEnvC scope e C X.env)
  standAt iter2.pos
  let x ← foldedSetIterable iter2 (compEnvC scope e C X.env) x
  let _ ← runOwn (.compStart (.ListComp elt [⟨tg,iter,ifs,0⟩,⟨tg2,iter2,ifs2,0⟩] scope pos) 1 (← holding [x] (pyIter x)) (.ref o) (compEnvC scope e C X.env)) (compEnvC scope e C X.env)
  k) (fun a=>[(o,gw a.2.1 a.2.2)]) ⟨fun _=>rfl,fun _ _=>rfl⟩ T (hg _ _ _ _ _) (hc _ _ _ _ _) A (fun _ _ z=>z) (fun a b P H hn=>?_) (fun i m a=>W i m a.1)
  (fun i m a D H=>wi2 D H fun J2 H4=>∃ W2:Nat->Nat->List V->St->Hp->Prop,(∃ m2,W2 0 m2 a.1 D H4)/\xP J2 g2 tt2 te (fun L l S=>∃ M,M<m/\W (i+1) M L l S) W2)
  (fun a=>Vals a.1 a.2.1) (fun _=>True) (fun i m a D H rv w=>(turn i m a.1 D H w).imp (fun z=>⟨z.1,fun s I=>hR s D H _ _ _ I rv z.2⟩) fun z=>⟨z.1,trivial,z.2⟩) (fun i m a D H h s rv _ q ho I k Q E z=>?_) (a:=([],[],0)) I st fr .nil w0
 ·obtain ⟨f0,f1,f2,f3,f4,f5⟩:=(O b P).1 H hn;refine ⟨f0,f1,f2,f3,f4,fun p U=>?_⟩;obtain rfl:p=(o,gw a.2.1 a.2.2):=by simpa using (show p∈([]:Zi)++_ from U)
  exact aaC (O b P).2
 ·refine aaa (aaH (hi2 _ _ _ _ _ _ s D H _ I q) (fun v s8 h8=>?_) (fun _ _ z=>z.elim));refine aaa (aa2 ?_);rw [hs2 _ v];refine aaa (aab (aaa (abb (aaH h8 (fun ae s9 h9=>?_) (fun _ _ z=>z.elim)))));obtain ⟨ad,af,ag,J2,H9,e9,I9,T2,aa,f9,W2,⟨m2,w2⟩,N⟩:=h9;subst e9;have G:∀ R':Result->Shared->Prop,(∀ n,(∃ M,M<m/\∃ (Z:List V×List Value×Nat) (l:St) (S:Hp),Inv (di X scope N' e C f j fp) ([(o,gw Z.2.1 Z.2.2)]++jq fp h) l S n/\Vals Z.1 Z.2.1/\W (i+1) M Z.1 l S)->R' (.ok .next) n)->
   codeAny (model X.prog X.w) X.A (.compLoop (.ListComp elt [⟨tg,iter,ifs,0⟩,⟨tg2,iter2,ifs2,0⟩] scope pos) 1 (.ref ad) (.ref o) (compEnvC scope e C X.env)) R' s9:=fun R' hQ=>
   JB (Y:=di X scope N' e C f j fp) (ps:=jq fp h) W2 N T2 ⟨fun _=>rfl,fun _ _=>rfl⟩ (hg2 _ _ _ _ _) (hc2' _ _ _ _ _) (he _ _ _ _ _) A (fun _ _ z=>z)
    (fun b P=>by obtain ⟨_,a1,a2,a3,a4,a5⟩:=f9 b P;exact ⟨fun _ hn=>⟨hn,a1,a2,a3,a4,fun p U=>a5 p ((aal.mp U).elim (fun y=>aaI _ y) fun y=>aav _ (aag _ y))⟩,aaC (a5 (o,gw a.2.1 a.2.2) (aav _ aan))⟩)
    ⟨ha.1,ha.2.1,ha.2.2.1,ha.2.2.2.1,fun p U=>(O _ (nP (show p∈jq fp h from U)).1).2⟩ (fun s' l S L ab k' I' ac ⟨M,hm,w'⟩=>hQ s' ⟨M,hm,(L,ab,k'),l,S,I',ac,w'⟩) rv I9 aa (fun b P=>(f9 b P).1) w2;exact aaa (wpAny_runOwn (qZ rfl rfl (G _ fun n q=>z n q) (T2.self _ 0 _ _ _ aa (G _ fun n q=>z n q))))
theorem vp (S:dq X r own js N') (e:X.calm=true) (m:PI X B v E) (n:∀ c C a b d,PG (di X r N' c C a b d) B g) (o:∀ c C a b d,nJ (di X r N' c C a b d) z tt)
 (i:∀ c C a b d,PI (di X r N' c C a b d) w s wi2) (j:∀ env x,foldedSetIterable s env x=pure x) (l:∀ c C a b d,PG (di X r N' c C a b d) w g2) (h:∀ c C a b d,nJ (di X r N' c C a b d) y tt2) (p:∀ c C a b d,PE (di X r N' c C a b d) A te) (q:∀ x,foldedSetIterable v X.env x=pure x:=by intro _;rfl):PE X (.ListComp A [⟨B,v,z,0⟩,⟨w,s,y,0⟩] r D) (Om E g tt wi2 g2 tt2 te own.length js):=
 ww (CT:=fun _ J F W=>ye J g tt wi2 g2 tt2 te F W) S m (fun _ _ T f=>wK e n o i j l h p T f) q
open PySem.SeqAt
section
open PySem.F
end
noncomputable def vo (v d:Z0):HO:=.ext fun h=>h.IsItemsView v d
theorem Ck (x:h.IsItemsView v d):eU P w H h v (vo v d):=by
 refine ⟨x,?_,fun a b z k=>?_⟩
 ·obtain ⟨o,e,_⟩:=x;exact ⟨o,e⟩
 ·obtain ⟨o,e,r⟩:=z;exact ⟨o,k _ e,r⟩
section
variable {K:Type} [DecidableEq K]
end
open PySem.W
end L2
namespace L2
open PySem PySem.Spec PyProof.Rows
open PySem.SeqAt PySem.W
end L2
namespace L2
open PySem PySem.Spec PyProof.Rows PySem.SeqAt
open PySem.W
theorem qp:entryFor table "dict_itemiterator.__iter__" = some Builtin.«dict_keyiterator.__iter__»:=entryFor_alias (id':="dict_keyiterator.__iter__") (by kernel_rfl) rfl (by ext) (by kernel_rfl)
theorem Inv.freeze (I:Inv X r v H s) (e:H d=some (.dK a)) (l:s.heap.get? d=some o):Inv X r v (upd H d (.frz o (.dK a))) s:=by
 have ne:∀ {b u},H b=some u->u≠.dK a->b≠d:=fun f n z=>by subst z;rw [e] at f;exact n (aaQ f).symm
 have up:∀ {b u},H b=some u->u≠.dK a->upd H d (.frz o (.dK a)) b=some u:=fun f n=>by rw [b7 (ne f n)];exact f
 have h:∀ b u,H b=some u->eU X.prog X.w (upd H d (.frz o (.dK a))) s.heap b u:=fun b u f=>(I.hok b u f).stay (fun _ _ _ q=>q) (fun c q=>up q nofun) (fun c i q=>up q nofun);refine I.step (g':=s.gens) (t':=s.toks) (d':=s.drawn) (ch:=[]) (fun b g=>nomatch g) (fun b u _ _ _ q _=>q) (fun b u _ _ _ q _=>⟨u.slots,q⟩) (fun b u _ _ n=>?_) (fun b u _ q=>⟨u,q⟩) (fun b i q=>up q nofun) (fun b u z q=>up q nofun) (fun b p q=>⟨#[],by rw [up q nofun];simp⟩) (fun m j=>j) (fun b u q=>?_) I.bare
 ·rw [b7 (fun z=>by subst z;rw [e] at n;cases n)];exact n
 ·by_cases g:b=d
  ·subst g;rw [a_] at q;cases q;exact ⟨l,h _ _ e⟩
  ·rw [b7 g] at q;exact h _ _ q
theorem Inv.thaw (I:Inv X C D H s) (e:H d=some (.frz o (.dK a))) (B:∀ o u,X.H₀ d≠some (.frz o u)):Inv X C D (upd H d (.dK a)) s:=by
 have ne:∀ {b u},H b=some u->u≠.frz o (.dK a)->b≠d:=fun f n z=>by subst z;rw [e] at f;exact n (aaQ f).symm
 have up:∀ {b u},H b=some u->u≠.frz o (.dK a)->upd H d (.dK a) b=some u:=fun f n=>by rw [b7 (ne f n)];exact f
 have fr:∀ {b},H b=none->upd H d (.dK a) b=none:=fun {b} n=>by rw [b7 (fun z=>by subst z;rw [e] at n;cases n)];exact n
 have i:∀ b u,eU X.prog X.w H s.heap b u->eU X.prog X.w (upd H d (.dK a)) s.heap b u:=fun b u x=>x.stay (fun _ _ _ q=>q) (fun c q=>up q nofun) (fun c h q=>up q nofun);refine ⟨I.ok,I.os,I.bare,⟨I.base.keep,I.base.slot,fun b u q n x=>fr (I.base.free b u q n x),I.base.there,fun b h q=>up (I.base.tups b h q) nofun,fun b u z q=>?_,fun b l q=>?_⟩,I.loc,I.cell,fr I.free,fun x c q=>fr (I.freeC x c q),fun p r=>?_,fun b u q=>?_,I.len⟩
 ·rw [b7 (fun y=>by subst y;exact B _ _ q)];exact I.base.frzs b u z q
 ·obtain ⟨g,m⟩:=I.base.tbls b l q;exact ⟨g,up m nofun⟩
 ·obtain ⟨v,w,A⟩:=I.pin p r;exact ⟨v,fr w,A⟩
 ·by_cases j:b=d
  ·subst j;rw [a_] at q;cases q;exact i _ _ (show eU X.prog X.w H s.heap b (.frz o (.dK a)) from I.hok _ _ e).2
  ·rw [b7 j] at q;exact i _ _ (I.hok _ _ q)
def UV (t:TE):TE:=fun c H Q=>∃ d a,H d=some (.dK a)/\∀ o,t c (upd H d (.frz o (.dK a))) fun v b=>b d=some (.frz o (.dK a))/\Q v (upd b d (.dK a))
theorem xj (h:PE X e t):PE X e (UV t):=by
 intro a s l H Q I q;obtain ⟨d,i,b,q⟩:=q;obtain ⟨_,_,_,_,o,p,r,j,_⟩:=vU I.hok b;have g:∀ o u,X.H₀ d≠some (.frz o u):=fun o u z=>by have:=I.base.frzs d o u z;rw [b] at this;cases this
 refine eG (h a s l _ _ (I.freeze b j) (q o)) fun u m ⟨v,n,c,r1,f,q1⟩=>⟨v,_,c.thaw f g,r1,q1⟩
theorem RT (r:(fY P w).is k u=true):RelV (kV k) u:=by
 rcases fj (show qb k u=true from r) with ⟨i,t,rfl,rfl⟩|⟨x,t,rfl,rfl⟩
 ·exact ⟨t,rfl⟩
 ·exact ⟨t,rfl⟩
theorem KV.at (r:KV a vs):∀ {i:Nat} {x:Key×V},a[i]?=some x->∃ u,vs[i]?=some (x.1,u)/\RelV x.2 u:=by
 induction r with
 |nil=>intro i x e;simp at e
 | cons h t b=>
   intro i x e;cases i with
   | zero=>simp at e;subst e;exact ⟨_,by simp [h.1],h.2⟩
   |succ i=>exact (b (i:=i) (by simpa using e)).imp fun u z=>⟨by simpa using z.1,z.2⟩
noncomputable def Ub (o:Obj):Nat:=match o.data with|.dict _ a=>a|_=>0
theorem jW (ok:kO P w H h) (e:H d=some (.frz o (.dK a))):∃ vs,KV a vs/\h.DictAt (fY P w) d vs (Ub o)/\(d == sysModules)=false:=by obtain ⟨c,_,f,vs,r,i,g,j,b,x,dd,z⟩:=(show eU P w H h d (.frz o (.dK a)) from ok _ _ e);rw [c] at b;cases b;exact ⟨vs,r,⟨o,g,c,x,by rw [dd];simp [Ub,dd],z⟩,f⟩
def Itm (d:Z0) (o:Obj) (a:List (Key×V)):It:=
 ⟨fun i H=>H d=some (.frz o (.dK a))/\i<a.length,fun i H v b=>∃ p x,H p=none/\v=.ref p/\a[i]?=some x/\b=upd H p (.tup [kV x.1,x.2]),fun i H=>H d=some (.frz o (.dK a))/\a.length≤i⟩
theorem yd {P:Z4} {w:Z5} {K:Z2} {B:Zl} {k1} {Y:Pos} (d c:Z0) (o:Obj) (a:List (Key×V)):Turn P w K (.Tuple B k1 Y) (Itm d o a) [c] c (fun i h=>∃ ok m,IsItemIter h c d i a.length (Ub o) ok m) where
 mem:=by simp
 obj:=fun i h g b f=>by obtain ⟨ok,m,e⟩:=g;cases aai.mp f;exact ⟨_,e,fun v z=>by cases (show Data.fields _=Data.cell v from z)⟩
 keep:=fun i h D g k=>let ⟨ok,m,e⟩:=g;⟨ok,m,k c (by simp) _ e⟩
 item:=by
  intro X S T U hc i j s σ H E I C g W;subst S T U;obtain ⟨hd,hi⟩:=W;obtain ⟨vs,r,n,_⟩:=jW I.hok hd;obtain ⟨ok,m,e⟩:=g;have hx:a[i]?=some a[i]:=by simp [hi]
  obtain ⟨u,hu,ru⟩:=KV.at r hx;rw [KV.length r] at e;refine wpAny_pyNext_items_item e n hu fun G D hk Z p aa l=>?_;refine ⟨_,rfl,?_⟩;obtain ⟨M,N,f2,O,Q,R⟩:=C c (by simp);have x:c<s.heap.objs.size:=aam e;have I1:Inv X j σ (upd H s.heap.objs.size (.tup [kV a[i].1,a[i].2])) { s with heap:=D,toks:=s.toks }:=by
   refine I.turnLaid (fp:=[c]) (fun b o f z=>l b o (fun q=>f (by simp [q])) z) (fun b f=>?_) C (aae _) ?_
   ·cases aai.mp f;exact ⟨_,Z⟩
   ·exact ⟨by show 2≤sizeLine;decide,[G,u],.cons (RT hk) (.cons ru .nil),⟨_,p,rfl,_,rfl⟩⟩
  have y:∀ b∈[c],(upd H s.heap.objs.size (.tup [kV a[i].1,a[i].2])) b=none:=fun b f=>by cases aai.mp f;rw [b7 (aap x)];exact M
  refine wpAny_letOwnedTupleGo_items Z fun g2 J L=>?_;refine ⟨.ref s.heap.objs.size,_,I1.turned (t':=s.toks) (fun b o f z=>(L.2 b f).trans z) (y c (by simp)) N O Q R,rfl,⟨s.heap.objs.size,a[i],I.hok.fresh (aae _),rfl,hx,rfl⟩,⟨_,_,by rw [KV.length r];exact J⟩,y⟩
 done:=by intro X S T U hc i j s σ H E I C g W;subst S T U;obtain ⟨hd,hi⟩:=W;obtain ⟨vs,r,n,_⟩:=jW I.hok hd;obtain ⟨ok,m,e⟩:=g;obtain ⟨M,N,f2,O,Q,R⟩:=C c (by simp);rw [KV.length r] at e;refine wpAny_pyNext_items_end (I.ok.hd hc) e n (by have:=KV.length r;simp;omega) fun D ex=>?_;exact ⟨rfl,I.turned (t':=s.toks) (fun b o f z=>ex b o f z) M N O Q R⟩
 self:=fun _ _ _ _ _ g h=>by obtain ⟨ok,m,e⟩:=g;rename_i A _ s _ _;have ty:Shared.TypeIs s (.ref c) "dict_itemiterator":=⟨_,e,rfl⟩;refine wpAny_pyIter_slot ty F.slot_dict_itemiterator_iter (abc F.slot_dict_itemiterator_iter ty qp ?_ (F.args_dict_itemiterator_iter_1 _));show wpAny _ _ (ret (.ref c)) _ _ s;exact aab ⟨_,rfl,"dict_itemiterator",_,ty,F.slot_dict_itemiterator_next.lookup,h⟩
def Mr (e:TE):TI:=fun c H R=>e c H fun x b=>∃ v d o a,x=.ref v/\b v=some (vo v d)/\b d=some (.frz o (.dK a))/\R (Itm d o a) b
theorem vL {f:Zl} {k1} {pt:Pos} {e:Z9} {l:TE} (z:PE X e l):PI X (.Tuple f k1 pt) e (Mr l):=by intro c s y H R I h;refine eG (z c s y H _ I h) fun u g ⟨x,m,a,r1,v,d,o,i,n,p,hd,q⟩=>?_;subst n;cases (show u=Value.ref v from r1);obtain ⟨vs,r,j,_⟩:=jW a.hok hd;refine wpAny_pyIter_items (a.hok v _ p).1 j ?_;refine ⟨g.heap.objs.size,[g.heap.objs.size],_,_,m,rfl,a.kept (t':=g.toks) (fun b u e=>aak _ e),yd d _ o i,⟨.none,.none,by rw [KV.length r];exact aay _ rfl⟩,fun b w=>?_,q⟩;cases aai.mp w;exact a.fpOk (aae _) (a.hok.fresh (aae _))
def Gu:V->List V->Hp->VK->Prop:=fun x vs H Q=>∃ a o b,x=.ref a/\vs=[]/\H a=some (.frz o (.dK b))/\∀ v,H v=none->Q (.ref v) (upd H v (vo v a))
theorem tL:Jp X "dict.items" Gu:=by
 intro f s n H x vs v p Q I l m h;obtain ⟨a,o,g,rfl,rfl,i,q⟩:=h;cases (show v=Value.ref a from l);cases m;obtain ⟨vs,_,c,j⟩:=jW I.hok i;have hd:=c.dictOf;exact call_meetsIn acX hd.typeIs PySem.F.entry_dict_items (PySem.F.args_dict_items_1 _) (meets_dict_items _ a j)
  ⟨⟨vs,hd⟩,.ref s.heap.objs.size,_,I.laid (t':=s.toks) (a:=s.heap.objs.size) (fun b o e=>aak _ e) (aae _) (Ck (d:=a) ⟨_,aay _ rfl,rfl,rfl⟩),rfl,q _ (I.hok.fresh (aae _))⟩
noncomputable def lZ (v d:Z0):HO:=.ext fun h=>h.IsValuesView v d
theorem DX (x:h.IsValuesView v d):eU P w H h v (lZ v d):=by
 refine ⟨x,?_,fun a b z k=>?_⟩
 ·obtain ⟨o,e,_⟩:=x;exact ⟨o,e⟩
 ·obtain ⟨o,e,r⟩:=z;exact ⟨o,k _ e,r⟩
def Gz:V->List V->Hp->VK->Prop:=fun x vs H Q=>∃ a o b,x=.ref a/\vs=[]/\H a=some (.frz o (.dK b))/\∀ v,H v=none->Q (.ref v) (upd H v (lZ v a))
theorem tE:Jp X "dict.values" Gz:=by
 intro f s n H x vs v p Q I l m h;obtain ⟨a,o,g,rfl,rfl,i,q⟩:=h;cases (show v=Value.ref a from l);cases m;obtain ⟨vs,_,c,j⟩:=jW I.hok i;have hd:=c.dictOf;exact call_meetsIn acY hd.typeIs PySem.F.entry_dict_values (PySem.F.args_dict_values_1 _) (meets_dict_values _ a j)
  ⟨⟨vs,hd⟩,.ref s.heap.objs.size,_,I.laid (t':=s.toks) (a:=s.heap.objs.size) (fun b o e=>aak _ e) (aae _) (DX (d:=a) ⟨_,aay _ rfl,rfl,rfl⟩),rfl,q _ (I.hok.fresh (aae _))⟩
def Ox (d:Z0) (o:Obj) (a:List (Key×V)):It:=
 ⟨fun i H=>H d=some (.frz o (.dK a))/\i<a.length,fun i H v b=>b=H/\∃ x,a[i]?=some x/\v=x.2,fun i H=>H d=some (.frz o (.dK a))/\a.length≤i⟩
theorem uQ {P:Z4} {w:Z5} {K:Z2} {tg:Z9} (d j:Z0) (o:Obj) (c:List (Key×V)):Turn P w K tg (Ox d o c) [j] j (fun i h=>h.IsValIter j d i c.length (Ub o)) where
 mem:=by simp
 obj:=fun i h a b f=>by obtain ⟨o,e,_,z⟩:=a;cases aai.mp f;exact ⟨_,e,fun v y=>by rw [z] at y;cases y⟩
 keep:=fun i h J a k=>a.at fun o e=>k j (by simp) _ e
 item:=by
  intro X C D F N i m s Z H E I n a G;subst C D F;obtain ⟨hd,M⟩:=G;obtain ⟨vs,r,g,_⟩:=jW I.hok hd;have L:c[i]?=some c[i]:=by simp [M]
  obtain ⟨u,R,S⟩:=KV.at r L;rw [KV.length r] at a;obtain ⟨p,q,T,x,A,B⟩:=n j (by simp);refine wpAny_pyNext_values_item a g R fun J l O=>?_;refine ⟨_,rfl,?_⟩;obtain ⟨o',U,W,Y⟩:=id l;refine yZ U W Y (by ext) ?_;exact ⟨c[i].2,H,I.turned (t':=s.toks) (fun b o f z=>O.extBut b o f z) p q x A B,S,⟨rfl,_,L,rfl⟩,by rw [KV.length r];exact l,fun b f=>(n b f).1⟩
 done:=by intro X C D F N i m s Z H E I n a G;subst C D F;obtain ⟨hd,M⟩:=G;obtain ⟨vs,r,g,_⟩:=jW I.hok hd;obtain ⟨p,q,T,x,A,B⟩:=n j (by simp);rw [KV.length r] at a;refine wpAny_pyNext_values_end (I.ok.hd N) a g (by have:=KV.length r;simp;omega) fun J Q=>?_;exact ⟨rfl,I.turned (t':=s.toks) (fun b o f z=>Q b o f z) p q x A B⟩
 self:=fun _ _ _ _ _ a h=>wpAny_pyIter_valiter a h
def IK (e:TE):TI:=fun c H R=>e c H fun x b=>∃ v d o a,x=.ref v/\b v=some (lZ v d)/\b d=some (.frz o (.dK a))/\R (Ox d o a) b
theorem rN {y e:Z9} {j:TE} (z:PE X e j):PI X y e (IK j):=by intro c s w H R I h;refine eG (z c s w H _ I h) fun u f ⟨x,l,a,r1,v,d,o,g,m,n,hd,q⟩=>?_;subst m;cases (show u=Value.ref v from r1);obtain ⟨vs,r,i,_⟩:=jW a.hok hd;refine wpAny_pyIter_values (a.hok v _ n).1 i ?_;refine ⟨f.heap.objs.size,[f.heap.objs.size],_,_,l,rfl,a.kept (t':=f.toks) (fun b u e=>aak _ e),uQ d _ o g,⟨_,aay _ rfl,rfl,by rw [KV.length r];rfl⟩,fun b p=>?_,q⟩;cases aai.mp p;exact a.fpOk (aae _) (a.hok.fresh (aae _))
theorem vJ (S:dq X scope own js N') (l:X.calm=true) (hi:PI X tg iter wi) (hg:∀ d C a c j,PG (di X scope N' d C a c j) tg g) (hc:∀ d C a c j,nJ (di X scope N' d C a c j) ifs tt)
 (E:∀ d C a c j,PE (di X scope N' d C a c j) ke tk) (F:∀ d C a c j,PE (di X scope N' d C a c j) ve tv) (hs:∀ x,foldedSetIterable iter X.env x=pure x:=by intro _;rfl):PE X (.DictComp ke ve [⟨tg,iter,ifs,0⟩] scope pos) (O5 wi g tt tk tv own.length js):=by
 intro f s G H Q I h;obtain ⟨d,p,r,w⟩:=qd (env:=X.env) scope fun y L hk=>I.ok.has y.1 (S.free y L hk);show wpAny _ X.A (comprehension (.DictComp ke ve [⟨tg,iter,ifs,0⟩] scope pos) scope X.env _ newDict false (eval iter X.env)) _ _ s;refine wpAny_comprehension_free (use:=none) rfl hs p S.kind S.names (eG (hi f s G H _ I h) fun v s1 M=>eG M fun N s2 O=>?_);obtain ⟨R,fp,tn,J,H2,e,U,T,z,W,Y⟩:=O;subst e;refine Ai (RR:=fun i C=>compPost (model X.prog X.w) X.A X.xe none (EP X f G Q) i C) S l hg hc E F r w U T z W Y ?_;intro i C H' Z m IX hm A hL hz B D q;refine ⟨m,hm,fun h' n=>⟨.ref i,_,?_,rfl,q⟩⟩;exact IX.turned (t':=Z.toks) (it:=C) (fun b o P e=>(n.2 b P).trans e) A hL (.inr hz) B D
theorem oE (h:Nat->St->Hp->Prop) (I:h 0 O P) (J:∀ i a H,i≤M.length->h i a H->H d=some (.frz o (.dK M)))
 (L:∀ i x a H p,M[i]?=some x->h i a H->H p=none->∀ N:St->Hp->Prop,(∀ b j,h (i+1) b j->N b j)->g (.ref p) a (upd H p (.tup [kV x.1,x.2])) fun c w=>tk c w fun y A=>v c A fun z r=>∃ n k,r f=some (.dK n)/\y=kV k/\n.length<sizeLine/\N c (upd r f (.dK (putK n k z))))
 (hd:∀ a H,h M.length a H->F H):∃ W:Nat->Nat->St->Hp->Prop,(∃ m,W 0 m O P)/\y_ (Itm d o M) g nM tk v f F W:=by
 refine ⟨fun i m a H=>m=M.length-i/\i≤M.length/\h i a H,⟨M.length,by simp,aaA _,I⟩,?_⟩;rintro i m a H ⟨rfl,G,p⟩;have q:=J i a H G p;by_cases l:i<M.length
 ·refine .inr ⟨⟨q,l⟩,fun x j y=>?_⟩;obtain ⟨B,C,D,rfl,E,rfl⟩:=y;exact L i C a H B E p D (fun b j=>∃ s,s<M.length-i/\s=M.length-(i+1)/\i+1≤M.length/\h (i+1) b j) fun b j q=>⟨M.length-(i+1),by omega,rfl,l,q⟩
 ·have e:i=M.length:=by omega
  subst e;exact .inl ⟨⟨q,aae _⟩,hd a H p⟩
theorem vh (h:Nat->List V->St->Hp->Prop) (J:L.length≤sizeLine) (E:h 0 [] M O) (G:∀ i a c H,i≤L.length->h i a c H->H d=some (.frz o (.dK L)))
 (I:∀ i x a c H,L[i]?=some x->a.length=i->h i a c H->∀ N:List V->St->Hp->Prop,(∀ b f j,b.length=i+1->h (i+1) b f j->N b f j)->g x.2 c H fun l z=>w l z fun y A=>N (a++[y]) l A)
 (hd:∀ a c H,a.length=L.length->h L.length a c H->F a H) :
 ∃ W:Nat->Nat->List V->St->Hp->Prop,(∃ m,W 0 m [] M O)/\lY (Ox d o L) g nM w F W:=by
 refine ⟨fun i m a c H=>m=L.length-i/\i≤L.length/\a.length=i/\h i a c H,⟨L.length,by simp,aaA _,rfl,E⟩,?_⟩;rintro i m a c H ⟨rfl,D,v,p⟩;have q:=G i a c H D p;by_cases n:i<L.length
 ·refine .inr ⟨⟨q,n⟩,by omega,fun x j y=>?_⟩;obtain ⟨e,B,C,y⟩:=y;subst e y;exact I i B a c _ C v p (fun b f j=>∃ s,s<L.length-i/\s=L.length-(i+1)/\i+1≤L.length/\b.length=i+1/\h (i+1) b f j) fun b f j r q=>⟨L.length-(i+1),by omega,rfl,n,r,q⟩
 ·have e:i=L.length:=by omega
  subst e;exact .inl ⟨⟨q,aae _⟩,hd a c H v p⟩
theorem yc {C:List (Key×V)} {g:TG} {r:TS} {D:Ends} (b:Nat->St->Hp->Prop) (w:b 0 E F) (A:∀ i a H,i≤C.length->b i a H->H d=some (.frz o (.dK C)))
 (B:∀ i x a H,C[i]?=some x->b i a H->g x.2 a H fun c l=>r { D with nx:=b (i+1),ct:=b (i+1),bk:=D.nx } c l)
 (hd:∀ a H,b C.length a H->D.nx a H) :
 ∃ W:Nat->Nat->St->Hp->Prop,(∃ m,W 0 m E F)/\∀ i m a H,W i m a H->((Ox d o C).stop i H/\D.nx a H)∨((Ox d o C).go i H/\∃ N:St->Hp->Prop,(∀ f h,N f h->∃ n,n<m/\W (i+1) n f h)/\∀ x h,(Ox d o C).yld i H x h->g x a h fun c l=>r { D with nx:=N,ct:=N,bk:=D.nx } c l):=by
 refine ⟨fun i m a H=>m=C.length-i/\i≤C.length/\b i a H,⟨C.length,by simp,aaA _,w⟩,?_⟩;rintro i m a H ⟨rfl,s,p⟩;have q:=A i a H s p;by_cases j:i<C.length
 ·refine .inr ⟨⟨q,j⟩,b (i+1),fun f h z=>⟨C.length-(i+1),by omega,rfl,j,z⟩,?_⟩;rintro x h ⟨rfl,y,v,rfl⟩;exact B i y a _ v p
 ·have e:i=C.length:=by omega
  subst e;exact .inl ⟨⟨q,aae _⟩,hd a H p⟩
theorem J0:bootBuiltins "dict" = some (.type "dict"):=by ext
theorem vz:ji X (.type "dict") (fun c H Q=>∃ a b,c=[.ref a]/\H a=some (.dK b)/\∀ p,H p=none->Q (.ref p) (upd H p (.dK b))):=by intro d s l H c m Q I r h;obtain ⟨a,b,rfl,g,q⟩:=h;obtain ⟨u,rfl,i⟩:=vals1 r;cases (show u=Value.ref a from i);exact Ec I (.inl g) fun p j e f=>⟨.ref p,_,f,rfl,q p e⟩
def Va (r:V->List V->Hp->VK->Prop) (e:TE):TE:=fun d H Q=>e d H fun x c=>(∃ a o b,x=.ref a/\c a=some (.frz o (.dK b)))/\r x [] c Q
theorem u5 {X:Cx} {o:Z9} {M:TE} {F:Str} {G J:Pos} {L:String} {r:V->List V->Hp->VK->Prop} (f:Slot "dict" F L) (g:typeOf (.builtin L)=pure (.type "method_descriptor")) (B:Jp X L r) (C:PE X o M)
 (d:attributeBase o F X.env (eval o X.env)=eval o X.env:=by rfl) (e:(G.endLine == J.line)=true:=by rfl):PE X (.Call (.Attribute o F G) [] [] J) (Va r M):=by
 intro c s n H Q I h;refine wpAny_Call_method0_late d e (eG (C c s n H _ I h) fun v p ⟨x,q,i,r1,⟨a,D,w,y,A⟩,q1⟩=>?_);subst y;cases (show v=Value.ref a from r1);obtain ⟨vs,_,⟨j,E,l,m,_⟩,_⟩:=jW i.hok A;exact ⟨"dict",L,PySem.F.plainAttrs_dict,f,g,⟨j,l,m.1⟩,fun b z=>by cases z;exact ⟨j,l,m.2.1⟩,acP rfl (PySem.evalArgs_none (B c p n q (.ref a) [] _ [] Q i rfl .nil q1))⟩
def Vv (d:Z0) (o:Obj) (a:List (Key×V)) (Q:St->Hp->Prop):St->Hp->Prop:=fun b H=>H d=some (.frz o (.dK a))/\Q b (upd H d (.dK a))
def Ur (t:TS):TS:=fun D c H=>∃ d a,H d=some (.dK a)/\∀ o,t ⟨Vv d o a D.nx,fun v b=>b d=some (.frz o (.dK a))/\D.rt v (upd b d (.dK a)),Vv d o a D.bk,Vv d o a D.ct⟩ c (upd H d (.frz o (.dK a)))
theorem M4 {X:Cx} {n:Stmt} {t:TS} (h:PS X n t):PS X n (Ur t):=by
 intro g s x H D I q;obtain ⟨d,p,l,q⟩:=q;obtain ⟨_,_,_,_,o,A,B,w,_⟩:=vU I.hok l;have j:∀ o u,X.H₀ d≠some (.frz o u):=fun o u z=>by have:=I.base.frzs d o u z;rw [l] at this;cases this
 refine eG (h g s x _ _ (I.freeze l w) (q o)) fun f y i=>?_;cases f with
 |next=>obtain ⟨a,m,b,c,e⟩:=i;exact ⟨a,_,b.thaw c j,e⟩
 |brk=>obtain ⟨a,m,b,c,e⟩:=i;exact ⟨a,_,b.thaw c j,e⟩
 |cont=>obtain ⟨a,m,b,c,e⟩:=i;exact ⟨a,_,b.thaw c j,e⟩
 |ret u=>obtain ⟨v,a,m,b,r,c,e⟩:=i;exact ⟨v,a,_,b.thaw c j,r,e⟩
end L2
namespace L2
open PySem PySem.Spec PyProof.Rows PySem.W PyProof.V
noncomputable def m_ (a:Z0) (v:Z6):Bool:=match v with|.ref b=>a == b|_=>false
theorem tO (h:m_ a v=true):v=.ref a:=by
 unfold m_ at h;split at h
 ·rw [aaS.mp h]
 ·cases h
def Jg (K:Z2) (a:Z0) (D:Zk):Prop:=KTD.tabLook m_ (fun b=>K.lookup b) a D=true
section
variable {X:Cx} {cW:Zi} {σ:St} {H:Hp} {s:Z1} {a:Z0} {D:Zk}
theorem Jg.of (T:Jg X.K a D) (I:Inv X cW σ H s):KTD.TabOf (fun (d:Z0) v=>v=.ref d) s.heap a D:=KTD.tab_of_look (fun _ _ h=>tO h) (fun b o e=>I.kIn b o e) T
theorem wG (T:KTD.TabOf (fun (d:Z0) v=>v=.ref d) s.heap a D) (e:KTD.datumAt k D=some f) (q:Q (some (.ref f)) { s with toks:=s.toks+1 }) :
 wpAny (model g w) A (dictGet a (.str k tk)) Q E s:=by
 obtain ⟨_,o,b,r,j,x,hd,m⟩:=T;unfold dictGet
 try with_reducible refine abb ?_
 refine aaa (wpAny_pyHash_str (aaa (KTD.kt_dictFind_strs (s:={ s with toks:=s.toks+1 }) j hd (by obtain ⟨l⟩:=b;simpa using m.exact) ?_)));have c:Q (findBy (fun k v=>v.isStr k) b k) { s with toks:=s.toks+1 }:=by
  have n:findBy (fun k v=>v.isStr k) b k=(b.toList.find? fun e=>e.key.isStr k).map (·.val):=by obtain ⟨l⟩:=b;simp [findBy]
  rw [n];obtain ⟨v,p,h⟩:=m.find_some e;rw [p,h];exact q
 rw [findBy_of_findIdx?] at c;cases hi:b.findIdx? fun e=>e.key.isStr k with
 |none=>rw [hi] at c;exact aab c
 |some i=>rw [hi] at c;exact aaa (wpAny_dictEntries (s:={ s with toks:=s.toks+1 }) j hd (aab c))
def HN (K:Z2):R2:=fun x y H Q=>∃ a k D f,x=.ref a/\y=.str k/\Jg K a D/\KTD.datumAt k D=some f/\Q (.ref f) H
theorem Gv:Gp X (HN X.K):=by
 intro c d i s A H x y v u Q I m n h p;obtain ⟨a,k,D,f,rfl,rfl,T,e,q⟩:=h;cases (show v=Value.ref a from m);obtain ⟨t,rfl⟩:=n;have g:=T.of I;have b:s.TypeIs (.ref a) "dict":=by obtain ⟨_,o,r,w,j,l,hd,z⟩:=g;exact ⟨o,j,l.1⟩
 refine tail_any b slot_dict_getitem.lookup ?_ p;unfold getItem
 try with_reducible refine abb ?_
 refine aaa (acO b (by decide) ?_);refine aaa (wpAny_callSpecial?_slot (name:=Str.ofString "__getitem__") b slot_dict_getitem (abc slot_dict_getitem b entry_dict_getitem ?_ (args_dict_getitem _ _)));show wpAny _ _ (dictGet a (.str k t) >>= _) _ _ s;exact aaa (wG g e (aab ⟨_,rfl,aab ⟨.ref f,H,I.tok _,rfl,q⟩⟩))
structure Callee (X:Cx) (f:Z0) (sp:Sp) (E:XK):Prop where
 ex:∃ CX k fd ps,cD X.prog X.w X.K X.mg X.base CX k f fd ps sp/\dm k X.A/\Binds X.K fd ps []/\fX CX X E
 kp:keepIn X.K (.ref f)=true
def Nj (X:Cx) (j:Nat) (t:TA):TE:=fun b H Q=>∃ f c E,b[j]?=some (some (.ref f))/\Callee X f c E/\t b H fun vs d=>c vs d Q E
theorem De (R:X.N[j]?=some x) (S:KQ X.env.scope x) (T:PA X (e::n) t) (hd:(x == ("__debug__" : Str))=false:=by decide) (w:(x == ("__classdict__" : Str))=false:=by decide)
 (U:starEach (e::n) X.env=(false,eval e X.env)::starEach n X.env:=by rfl) (y:(backTo g (starEach n X.env)).any (·.1)=false:=by rfl):PE X (.Call (.Name x p) (e::n) [] g) (Nj X j t):=by
 intro i s O H Q I h;obtain ⟨f,sp,E,B,C,h⟩:=h;obtain ⟨CX,k,fd,ps,F,G,J,L⟩:=C.ex;refine aa4 ?_;have d:∀ o:Value->Shared->Prop,o (.ref f) s->wpAny (model X.prog X.w) X.A (eval (.Name x p) X.env) o X.xe s:=fun o v=>by
  obtain ⟨m,M,N⟩:=I.loc;obtain ⟨u,r,l⟩:=N j x (.ref f) R B S;cases (show u=Value.ref f from r);rcases l with ⟨hk,P⟩|⟨hk,c,A,b⟩
  ·exact abh (acf I.ok.kind hk M P v) hd
  ·rcases hk with hk|hk
   ·exact abh (acg I.ok.kind hk A b v) hd
   ·exact abh (acD I.ok.kind hk A b v w) hd
 refine d _ ?_;refine callWith_K (h₀:=X.base) I.ok.mod.kin C.kp (eG (T g i s O H _ I h) fun W Y ⟨vs,Z,z,r,q⟩=>⟨z.kIn,?_⟩) U y;exact pQ F G J .nil L z r (by rw [aaO];exact q)
end
end L2
namespace L2
open PySem PySem.Spec PyProof.Rows PySem.SeqAt
def Nv (C:Z0) (m:Str) (l:Sp) (n:List V->List V->List V) (E:XK) (p:TE) (t tk:TA):TE:=fun b H Q=>p b H fun x c=>∃ a j fs,x=.ref a/\c a=some (.ins C j fs)/\fs.lookup m=none/\t b c fun vs d=>tk b d fun h i=>l (n (.ref a::vs) h) i Q E
theorem vN (W:PE X o ta) (c:sO X.K C) (G:Meth X.K C m f) (F:cD X.prog X.w X.K X.mg X.base CX k f fd ps sp) (Y:dm k X.A) (Z:jr X.K fd ps ks g gV) (hx:fX CX X E)
 (ha:PA X (e::es) t) (v:PK X kws tk) (i:(backToKw pos (keywordEach kws X.env)).all (·.1.isSome)=true:=by rfl) (w:(backToKw pos (keywordEach kws X.env)).filterMap (·.1)=ks:=by rfl)
 (y:starEach (e::es) X.env=(false,eval e X.env)::starEach es X.env:=by rfl)
 (z:((backTo pos (starEach (e::es) X.env)).any (·.1) || (backToKw pos (keywordEach kws X.env)).any (·.1.isNone))=false:=by rfl)
 (ht:eval (.Call (.Attribute o m apos) (e::es) kws pos) X.env=(do
  let D ← eval o X.env
  standAt apos.atName
  let (f,b) ← holding [D] (getMethod D m p)
  callWith pos f b (backTo pos (starEach (e::es) X.env)) (backToKw pos (keywordEach kws X.env))):=by rfl) :
 PE X (.Call (.Attribute o m apos) (e::es) kws pos) (Nv C m sp gV E ta t tk):=by
 intro d s n H Q I h;refine ack (pl:=p) (eG (W d s n H _ I h) fun u J ⟨x,L,j,M,a,dx,fs,N,O,l,q⟩=>?_) ht;subst N;obtain rfl:u=Value.ref a:=M;refine jZ j O c G l ?_;refine PySem.W.callWith_KW (first:=[.ref a]) (h₀:=X.base) j.ok.mod.kin G.kp i (eG (ha pos d J n L _ j q) fun A P ⟨vs,R,S,r,q2⟩=>?_) z y;refine eG (v pos d P n R _ S q2) fun ws s3 ⟨zs,H3,B,T,U⟩=>⟨B.kIn,?_⟩;rw [w];exact Gx (us:=.ref a::A) (vs:=.ref a::vs) F Y Z hx B (.cons rfl r) T U
theorem zN:mD X (compareOp .Is) (fun x y H Q=>∃ b,y=.bl b/\((∃ c,x=.bl c)∨x=.non)/\Q (.bl (decide (x=.bl b))) H):=by
 intro a s l H x y v u Q I d j h;obtain ⟨b,rfl,i,q⟩:=h;cases (show u=Value.bool b from j);rcases i with ⟨c,rfl⟩|rfl
 ·cases (show v=Value.bool c from d);refine wpAny_is_plain (by cases b <;> cases c <;> rfl) (dX I q ?_);cases b <;> cases c <;> rfl
 ·cases (show v=Value.none from d);exact wpAny_is_plain (by cases b <;> rfl) (dX I q (by cases b <;> rfl))
end L2
namespace L2
open PySem
theorem jt (D:gK X.K X.mg x j h f g) (F:cD X.prog X.w X.K X.mg X.base dI k f g h i) (l:dm k X.A) (m:PA X (e::a) t) (n:Gl X x:=by rfl) (c:(x == ("__debug__" : Str))=false:=by decide) (o:starEach (e::a) X.env=(false,eval e X.env)::starEach a X.env:=by rfl) (d:(backTo b (starEach a X.env)).any (·.1)=false:=by rfl):PE X (.Call (.Name x p) (e::a) [] b) (BX i [] E0 t):=p8 F l n D.mg D.F.kp D.b .nil cZ m c o d
end L2
namespace Cm
open PySem L2
noncomputable def top (i:Nat):Stmt:=PySem.Challenge.pw_lanescribe_k64_missed_and_stopped_at_onc.main.body.getD i (.Pass ⟨0,0,0,0⟩)
noncomputable def xf (c:Z0) (a r s:Int):List (Key×V):=[(.inr "cells",.ref c),(.inr "at",.int a),(.inr "rest",.int r),(.inr "seed",.int s)]
theorem pat:putK (xf c a r s) (.inr "at") (.int x)=xf c x r s:=by rfl
theorem Ke:putK (xf c a r s) (.inr "rest") (.int x)=xf c a x s:=by rfl
theorem K5:putK (xf c a r s) (.inr "seed") (.int x)=xf c a r x:=by rfl
theorem BV (h:H p=some (.dK (xf c a r s))):iy H p (.str "cells") (some (.ref c)):=iy.k (k:=Sum.inr "cells") h
theorem Wa (h:H p=some (.dK (xf c a r s))):iy H p (.str "at") (some (.int a)):=iy.k (k:=Sum.inr "at") h
theorem zH (h:H p=some (.dK (xf c a r s))):iy H p (.str "rest") (some (.int r)):=iy.k (k:=Sum.inr "rest") h
theorem uY (h:H p=some (.dK (xf c a r s))):iy H p (.str "seed") (some (.int s)):=iy.k (k:=Sum.inr "seed") h
abbrev OJ:Int:=2305843009213693951
structure Dr (H:Hp) (p c:Z0):Prop where
 ex:∃ (ns:List Int) (a r s:Int),H p=some (.dK (xf c a r s))/\H c=some (.lst (ns.map V.int))/\ns.length≤63/\0≤a/\a≤ns.length/\0≤r/\0≤s/\s<OJ
theorem Dr.mono (d:Dr H p c) (h:cj H b):Dr b p c:=by obtain ⟨e,a,r,s,f,g,k⟩:=d.ex;exact ⟨e,a,r,s,h _ _ f,h _ _ g,k⟩
theorem Dr.ne (d:Dr H p c) (h:H q=some o) (hd:∀ b,o≠.dK b):q≠p:=by obtain ⟨f,a,r,s,e,_⟩:=d.ex;exact iu h e (hd _)
theorem Dr.put (d:Dr H p c) (g:q≠p) (h:q≠c):Dr (upd H q o) p c:=by obtain ⟨b,a,r,s,e,f,k⟩:=d.ex;exact ⟨b,a,r,s,by rw [b7 g.symm];exact e,by rw [b7 h.symm];exact f,k⟩
theorem Dr.cell (d:Dr H p c):∃ b,H c=some (.lst b):=by obtain ⟨f,a,r,s,g,e,k⟩:=d.ex;exact ⟨_,e⟩
theorem Dr.neN (d:Dr H p c) (h:H q=none):p≠q:=by obtain ⟨e,a,r,s,b,_⟩:=d.ex;exact cg b h
structure Txt (K:Z2) (mg:Zc):Prop where
 len:mg "len" = none
 range:mg "range" = none
 list:mg "list" = none
 tuple:mg "tuple" = none
 str:mg "str" = none
 bool:mg "bool" = none
 int:mg "int" = none
 min:mg "min" = none
 repr:mg "repr" = none
 all:mg "all" = none
 any:mg "any" = none
 isinstance:mg "isinstance" = none
section
variable {P:Z4} {w:Z5} {K:Z2} {mg:Zc} {base:Z7}
def yP (K:Z2):Sp:=fun vs H Q _=>∃ (a:Z0) (d:List Int),vs=[.ref a]/\dR K H a (d.map V.int)/\d.length≤63/\∀ (p c:Z0) (b:Hp),Dr b p c->cj H b->H p=none->Q (.ref p) b
theorem Ud:cA ["_law_script","_law_seed","_law_cell"] ["_law_script"] (bK (top 112)):=by ext
theorem G6 (F:gj K "_law_begin" "_law_begin" (top 112) f O) (T:Txt K mg):cD P w K mg base dI 1 f O ["_law_script"] (yP K):=by
 refine F.ok Ud (by ext) fun R A C s H vs Q E X h=>?_;obtain ⟨a,d,rfl,I,m,k⟩:=h;refine ⟨_,(b8 (cQ (i:=1) Ud.nd rfl (.inl rfl) cu) (b8 (iJ aaW rfl (gG (ni uN (pv 0) o_ (p7 cu))) (cF (i:=2) Ud.nd rfl (.inl rfl)) (c7 (cQ (i:=1) Ud.nd rfl (.inl rfl) (dN lC (dN gn (dN gn (dN lA (pv 1) cu) (dN lA (pv 2) cu)) cu) cu)))) (c7 (cI (yL (lK cH (gW uJ (by rfl) T.list ue (aK (ni uN (pv 0) o_ (p7 cu)) b_)) (lK cH cu (lK cH cu (lK cH (pv 1) zx)))) rfl rfl (List.cons_ne_nil _ _) (by show 4≤15;decide)))))),?_⟩;have c:mL (d.map V.int) none (some 63)=d.map V.int:=by show ((d.map V.int).drop (HT.iM _ 0 none)).take (HT.iM _ _ (some ((63:Nat):Int))-HT.iM _ 0 none)=_;rw [HT.vZ,HT.yS,abW,Nat.sub_zero,abJ];rw [aah];omega
 refine ⟨_,rfl,_,rfl,a,_,rfl,I,fun q r=>⟨q,rfl,⟨_,dR.of a_⟩,?_⟩⟩;rw [c];have S:∀ o,dR K (upd H q o) a (d.map V.int):=fun o=>(show cj H (upd H q o) from fun b u e=>by rw [b7 (cg e r)];exact e).seq I;refine j5 (K:=K) (a:=q) (xs:=d.map V.int) (fun i x B=>∃ (z:Int) (v:Option V),x=[some (.ref a),some (.int z),v]/\0≤z/\z<OJ/\B=upd H q (.lst (d.map V.int)))
  ⟨20011,none,rfl,by decide,by decide,rfl⟩ (fun i x B _ ⟨_,_,_,_,_,e⟩=>by rw [e];exact dR.of a_) ?_ ?_
 ·rintro i y x B W ⟨z,v,rfl,N,J,rfl⟩;obtain ⟨n,-,rfl⟩:=aar.mp (aaq W);refine ⟨_,rfl,_,_,rfl,rfl,.inl ⟨by omega,by simp only [OJ] at J;omega⟩,_,rfl,_,_,rfl,rfl,.inr ⟨by decide,by decide⟩,_,_,rfl,rfl,_,_,rfl,rfl,_,_,rfl,rfl,(by show (0:Int)<2305843009213693951;decide),?_⟩;exact ⟨_,_,rfl,abK _ (by decide),abL _ (by decide),rfl⟩
 ·rintro x B ⟨z,v,rfl,N,J,rfl⟩;intro p L;have M:cj H (upd (upd H q (.lst (d.map V.int))) p (.dK [])):=(cj.new r).trans (cj.new L);refine ⟨_,rfl,_,rfl,a,_,rfl,M.seq I,fun q2 g=>⟨q2,_,rfl,.inl (dR.of a_),fun l j=>⟨_,rfl,?_,xf l 0 0 z,rfl,by show 4≤15;decide,?_⟩⟩⟩
  ·exact (cj.new j) _ _ ((cj.new g) _ _ a_)
  ·rw [c];have D:(upd (upd (upd (upd H q (.lst (d.map V.int))) p (.dK [])) q2 (.lst (d.map V.int))) l (.lst (d.map V.int))) p=some (.dK []):=(cj.new (by rw [c] at j;exact j)) _ _ ((cj.new g) _ _ a_);have G:l≠p:=iu a_ D (by intro z;cases z);refine k p l _ ⟨d,0,0,z,a_,by rw [b7 G];exact a_,m,by decide,by omega,by decide,N,J⟩ ?_ ((cj.new r).free L);intro b u e;have U:=((cj.new (q:=l) (o:=.lst (d.map V.int)) (by rw [c] at j;exact j)) _ _ ((cj.new g) _ _ (M b u e)));rw [b7 (cg ((cj.new r) b u e) L)];exact U
def o9:Sp:=fun vs H Q _=>∃ (p c:Z0) (m:Int),vs=[.ref p,.int m]/\Dr H p c/\0<m/\m<340282366920938463463374607431768211456/\∀ (r:Int) (a:Hp),0≤r->r<m->Dr a p c->iU p H a->Q (.int r) a
theorem U3:cA ["_law_d","_law_many","_law_cell","_law_digit","_law_one"] ["_law_d","_law_many"] (bK (top 113)):=by ext
theorem mH (F:gj K "_law_pick" "_law_pick" (top 113) f fd) (T:Txt K mg):cD P w K mg base dI 1 f fd ["_law_d","_law_many"] o9:=by
 refine F.ok U3 (by ext) fun ac A U s H vs Q E hr h=>?_;obtain ⟨p,c,m,rfl,D,M,m1,k⟩:=h;have g:=oN hr;refine ⟨_,(b8 (dW (PW.pt (yz (dz iK (eN g (pv 0) cH (fun _ _=>rfl)) cu (dw _)) (uF (dz Ju (eN g (pv 0) cH (fun _ _=>rfl)) (d9 dD (by rfl) T.len gF (aK (eN g (pv 0) cH (fun _ _=>rfl)) b_)) (dw _))))) (b8 (cQ (i:=2) U3.nd rfl (.inl rfl) (dY eV (eN g (pv 0) cH (fun _ _=>rfl)) (eN g (pv 0) cH (fun _ _=>rfl)) (fun _ _=>rfl))) (b8 (iV g (pv 0) cH (dN gn (eN g (pv 0) cH (fun _ _=>rfl)) cu) rfl) (c7 (dW (dz vQ (pv 2) (dN Nf cu cu) (dw _)) (c7 (iV g (pv 0) cH (pv 2) rfl)) (c7 (iV g (pv 0) cH (dN lC (dN gn (dN gn (dN lA (eN g (pv 0) cH (fun _ _=>rfl)) cu) (dN lA (pv 2) cu)) cu) cu) rfl)))))) cV) (b8 (dW (dz EY (eN g (pv 0) cH (fun _ _=>rfl)) cu (dw _)) (b8 (cQ (i:=3) U3.nd rfl (.inl rfl) (dN lC (eN g (pv 0) cH (fun _ _=>rfl)) (pv 1))) (b8 (iV g (pv 0) cH (dN uW (eN g (pv 0) cH (fun _ _=>rfl)) (pv 1)) rfl) (c7 (cI (pv 3))))) cV) (b8 (cQ (i:=4) U3.nd rfl (.inl rfl) (dN lC (dN lA (eN g (pv 0) cH (fun _ _=>rfl)) (eN g (pv 0) cH (fun _ _=>rfl))) cu)) (b8 (iV g (pv 0) cH (dN lC (dN gn (dN gn (dN lA (pv 4) cu) (dN lA (eN g (pv 0) cH (fun _ _=>rfl)) cu)) cu) cu) rfl) (c7 (cI (dN lC (dN yJ (eN g (pv 0) cH (fun _ _=>rfl)) cu) (pv 1)))))))),?_⟩;obtain ⟨n,a,r,sd,j,R,hl,a0,a1,X,Y,Z⟩:=D.ex;have J:c≠p:=iu R j (by intro z;cases z);have d:∀ {x y z:Int},(xf c x y z).length<sizeLine:=fun {x y z}=>lU (by show 4≤1000;decide);refine nQ (fun B H'=>∃ (q I b:Int) (v:Option V),B=[some (.ref p),some (.int m),v,none,none]/\H' p=some (.dK (xf c q I b))/\iU p H H'/\0≤q/\q≤n.length/\0≤I/\0≤b/\b<OJ) ?_ ?_
 ·rintro B H1 ⟨q,I,b,v,rfl,l,bt,b0,b1,c0,d0,d1⟩;have L:∀ o,(upd H1 p o) c=some (.lst (n.map V.int)):=fun o=>by rw [b7 J];exact bt c _ R J
  refine ⟨_,rfl,p,_,rfl,zH l,_,_,rfl,rfl,_,rfl,?_⟩;refine mY (fun ab=>?_) (fun _=>?_)
  ·refine ⟨_,rfl,p,_,rfl,zH l,_,rfl,_,_,rfl,rfl,M,?_⟩;refine ⟨_,rfl,p,_,rfl,zH l,_,rfl,_,_,rfl,rfl,⟨M,m1⟩,_,rfl,p,_,rfl,my.k (k:=Sum.inr "rest") l d,_,rfl,?_⟩;rw [Ke];exact k _ _ (abK _ (by omega)) (abL _ M) ⟨n,q,I / m,b,a_,L _,hl,b0,b1,Int.ediv_nonneg c0 (by omega),d0,d1⟩ (bt.trans iU.upd)
  ·have sq:Hs b b:=.inl ⟨by omega,by simp only [OJ] at d1;omega⟩;refine ⟨_,rfl,p,_,rfl,uY l,_,rfl,p,_,rfl,uY l,_,_,rfl,rfl,sq,_,_,rfl,rfl,(by show (0:Int)<2305843009213693951;decide),?_⟩;have u0:=abK (b*b) (show (2305843009213693951:Int)≠0 by decide);have u1:=abL (b*b) (show (0:Int)<2305843009213693951 by decide);refine ⟨_,rfl,_,_,rfl,rfl,.inr ⟨by decide,by decide⟩,_,rfl,p,_,rfl,uY l,_,_,rfl,rfl,.inr ⟨by decide,by decide⟩,_,_,rfl,rfl,_,_,rfl,rfl,_,_,rfl,rfl,(by show (0:Int)<2305843009213693951;decide),_,rfl,p,_,rfl,my.k (k:=Sum.inr "seed") l d,?_⟩;rw [K5];generalize O:(b*b % 2305843009213693951*7+b*40503+12345) % 2305843009213693951=sn;have v0:0≤sn:=O ▸ abK _ (by decide);have v1:sn<OJ:=O ▸ abL _ (by decide);refine ⟨_,rfl,p,_,rfl,uY a_,_,_,rfl,rfl,⟨by decide,by decide⟩,_,rfl,_,_,rfl,rfl,M,?_⟩;exact k _ _ (abK _ (by omega)) (abL _ M) ⟨n,q,I,sn,a_,L _,hl,b0,b1,c0,v0,v1⟩ (bt.trans iU.upd)
 ·intro N S;refine ⟨_,rfl,p,_,rfl,zH j,rfl,_,rfl,?_⟩;refine mY (fun hz=>?_) (fun _=>?_)
  ·refine ⟨_,rfl,p,_,rfl,Wa j,_,rfl,p,_,rfl,BV j,c,_,rfl,.inl (dR.of R),_,_,rfl,rfl,_,rfl,?_⟩;rw [aah];refine mY (fun C=>?_) (fun _=>?_)
   ·have C:a<n.length:=acq C;obtain ⟨z,aa⟩:∃ z,n[a.toNat]?=some z:=⟨_,aaL (by omega)⟩;have W:pL (n.map V.int) a=some (.int z):=by
     have e:(a:Int)=((a.toNat:Nat):Int):=by omega
     rw [e];refine dO ?_;rw [aau,aa];rfl
    refine ⟨_,rfl,p,_,rfl,BV j,_,rfl,p,_,rfl,Wa j,c,_,_,_,rfl,rfl,dR.of R,W,?_⟩;refine ⟨_,rfl,p,_,rfl,Wa j,_,_,rfl,rfl,_,rfl,p,_,rfl,my.k (k:=Sum.inr "at") j d,?_⟩;rw [pat];refine ⟨_,rfl,_,_,rfl,rfl,⟨by decide,by decide,by decide⟩,_,_,rfl,rfl,_,rfl,?_⟩;refine mY (fun G=>?_) (fun _=>?_)
    ·refine ⟨_,rfl,_,rfl,p,_,rfl,my.k (k:=Sum.inr "rest") a_ d,?_⟩;rw [Ke];have G:(10:Int) ^ 18≤z:=acq G;exact S _ _ ⟨a+1,z,sd,_,rfl,a_,iU.upd.trans iU.upd,by omega,by omega,by omega,Y,Z⟩
    ·refine ⟨_,rfl,p,_,rfl,uY a_,_,_,rfl,rfl,.inr ⟨by decide,by decide⟩,_,rfl,_,_,rfl,rfl,.inr ⟨by decide,by decide⟩,_,_,rfl,rfl,_,_,rfl,rfl,_,_,rfl,rfl,(by show (0:Int)<2305843009213693951;decide),_,rfl,p,_,rfl,my.k (k:=Sum.inr "seed") a_ d,?_⟩;rw [K5];exact S _ _ ⟨a+1,r,_,_,rfl,a_,iU.upd.trans iU.upd,by omega,by omega,X,abK _ (by decide),abL _ (by decide)⟩
   ·exact S _ _ ⟨a,r,sd,_,rfl,j,iU.refl,a0,a1,X,Y,Z⟩
  ·exact S _ _ ⟨a,r,sd,_,rfl,j,iU.refl,a0,a1,X,Y,Z⟩
end
theorem Dr.dk (d:Dr H p c):∃ b,H p=some (.dK b):=by obtain ⟨f,a,r,s,e,_⟩:=d.ex;exact ⟨_,e⟩
theorem Dr.seq (d:Dr H p c) (e:iU p H b) (h:dR K H a xs):dR K b a xs:=let ⟨_,f⟩:=d.dk;e.seq f h
theorem Dr.new (d:Dr H p c) (h:H q=none):Dr (upd H q o) p c:=d.mono (cj.new h)
def I_ (K:Z2):Sp:=fun vs H Q _=>∃ (p c q:Z0) (a:List V),vs=[.ref p,.ref q]/\Dr H p c/\dR K H q a/\a≠[]/\a.length≤1000/\∀ (x:V) (b:Hp),x∈a->Dr b p c->iU p H b->Q x b
theorem Xj:cA ["_law_d","_law_things"] ["_law_d","_law_things"] (bK (top 114)):=by ext
theorem FQ (F:gj K "_law_of" "_law_of" (top 114) f n) (T:Txt K J) (o:gK K J "_law_pick" (top 113) ["_law_d","_law_many"] m b):cD P w K J I dI 2 f n ["_law_d","_law_things"] (I_ K):=by
 have B:cD P w K J I dI 1 m b ["_law_d","_law_many"] o9:=mH o.F T;refine F.ok Xj (by ext) fun v A d s H vs Q E x h=>?_;obtain ⟨p,c,q,a,rfl,D,l,e,G,k⟩:=h;refine ⟨_,(c7 (cI (dY eV (pv 1) (jt o B x (aK (pv 0) (aK (d9 dD (by rfl) T.len gF (aK (pv 1) b_)) b_))) (fun _ _=>rfl)))),?_⟩
 try dsimp only [iY]
 have g:0<a.length:=acZ.mpr e;refine ⟨_,rfl,_,rfl,_,rfl,q,a,rfl,(.inl l),p,c,_,rfl,D,by omega,by omega,fun r C y r1 z bt=>?_⟩;obtain ⟨j,rfl⟩:=Int.eq_ofNat_of_zero_le y;have i:j<a.length:=by omega
 exact ⟨q,a,_,a[j],rfl,rfl,D.seq bt l,dO (aaL i),k _ _ (List.getElem_mem i) z bt⟩
def spS (K:Z2):Nat->Sp
 |0=>fun _ _ _ _=>False
 |n+1=>fun vs H Q _=>∃ (x y:V) (d:PyData),vs=[x,y]/\Rep K H x d/\Rep K H y d/\pH d≤n/\pM d≤100000/\∀ a:Hp,cj H a->Q (.bl true) a
theorem Xu:cA ["_law_found","_law_due"] ["_law_found","_law_due"] (bK (top 115)):=by ext
theorem tY {Q:VK} {v:V} {H:Hp} (h:Q (.bl true) H):Q (.bl (decide (v=v))) H:=by rw [abD rfl];exact h
theorem Hk {f:Z0} {fd:Z3} (DS:gK K mg "_law_same" (top 115) ["_law_found","_law_due"] f fd) (T:Txt K mg) (n:Nat):cD P w K mg base dI n f fd ["_law_found","_law_due"] (spS K n):=by
 refine Nat.rec (motive:=fun n=>cD P w K mg base dI n f fd ["_law_found","_law_due"] (spS K n)) ⟨fun _ _ _ _ h=>h.elim,fun _ _ _ _ _ _ _ _ _ _ _ _ _ h=>h.elim⟩ (fun n GS=>?_) n;refine DS.F.ok Xu (by ext) fun ab A Z s H vs Q E hr h=>?_;obtain ⟨x,y,d,rfl,hx,O,X,Y,k⟩:=h;refine ⟨_,(b8 (dW (dz wZ (pv 1) j9 (dw _)) (c7 (cI (iG wZ (pv 0) j9 (dw _)))) cV) (b8 (dW (PW.pt (yU (ik (d9 iD (by rfl) T.isinstance dU (aK (pv 1) (aK (jB rfl T.bool pA) b_)))) (uL (ik (d9 iD (by rfl) T.isinstance dU (aK (pv 0) (aK (jB rfl T.bool pA) b_))))))) (c7 (cI (kh (d9 iD (by rfl) T.isinstance dU (aK (pv 1) (aK (jB rfl T.bool pA) b_))) (kh (d9 iD (by rfl) T.isinstance dU (aK (pv 0) (aK (jB rfl T.bool pA) b_))) (qe (iG iK (pv 0) (pv 1) (dw _))))))) cV) (b8 (dW (ik (d9 rG (by rfl) T.isinstance dU (aK (pv 1) (aK (eZ (aK (jB rfl T.int nH) (aK (jB rfl T.str yp) b_))) b_)))) (c7 (cI (kh (d9 rG (by rfl) T.isinstance dU (aK (pv 0) (aK (eZ (aK (jB rfl T.int nH) (aK (jB rfl T.str yp) b_))) b_))) (kh (iG iK (d9 iD (by rfl) T.isinstance dU (aK (pv 0) (aK (jB rfl T.int nH) b_))) (d9 iD (by rfl) T.isinstance dU (aK (pv 1) (aK (jB rfl T.int nH) b_))) (dw _)) (qe (iG iK (pv 0) (pv 1) (dw _))))))) cV) (b8 (dW (PW.pt (yU (dz tK (d9 iD (by rfl) T.isinstance dU (aK (pv 1) (aK (jB rfl T.list ue) b_))) (d9 iD (by rfl) T.isinstance dU (aK (pv 0) (aK (jB rfl T.list ue) b_))) (dw _)) (uL (dz tK (d9 iD (by rfl) T.isinstance dU (aK (pv 1) (aK (jB rfl T.tuple jx) b_))) (d9 iD (by rfl) T.isinstance dU (aK (pv 0) (aK (jB rfl T.tuple jx) b_))) (dw _))))) (c7 (cI jf)) cV) (c7 (cI (kh (iG iK (d9 dD (by rfl) T.len gF (aK (pv 0) b_)) (d9 dD (by rfl) T.len gF (aK (pv 1) b_)) (dw _)) (qe (d9 (Bl rfl) (by rfl) T.all Nk (aK (iH (own:=["_law_k"]) (js:=[0,1]) (N':=["_law_k","_law_found","_law_due"]) (dq.of (osc:=bK (top 115)) (N:=["_law_found","_law_due"]) rfl rfl (by ext)) rfl (jn rfl T.range (aK (d9 dD (by rfl) T.len gF (aK (pv 1) b_)) b_)) (fun _ _ _ _ _=>(cF (i:=0) (show List.Nodup (["_law_k","_law_found","_law_due"]:Zd) by ext) rfl (.inl rfl) (.inr rfl))) (fun _ _ _ _ _=>eX) (fun _ _ _ _ _=>(jt DS GS hr (aK (dY (r:=Uq K) Gb (pv 1) (pv 0) (fun _ _=>rfl)) (aK (dY (r:=Uq K) Gb (pv 2) (pv 0) (fun _ _=>rfl)) b_))))) b_)))))))))),?_⟩
 try dsimp only [iY]
 have z2:2≤sizeLine:=by decide
 cases hx with
 | non=>cases O;refine ⟨_,rfl,rfl,_,rfl,jz rfl ?_⟩;exact ⟨_,rfl,rfl,k _ (cj.refl _)⟩
 | bl b=>cases O;refine ⟨_,rfl,rfl,_,rfl,iz rfl ?_⟩;refine ⟨_,rfl,_,_,_,_,rfl,(.bl b),rfl,_,rfl,jz rfl (jz rfl ?_)⟩;exact ⟨_,rfl,_,_,_,_,rfl,(.bl b),rfl,_,rfl,jz rfl ⟨_,rfl,_,_,_,_,rfl,(.bl b),rfl,_,rfl,jz rfl ⟨_,rfl,_,rfl,rfl,tY (k _ (cj.refl _))⟩⟩⟩
 | int i=>cases O;refine ⟨_,rfl,rfl,_,rfl,iz rfl ?_⟩;refine ⟨_,rfl,_,_,_,_,rfl,(.int i),rfl,_,rfl,iz rfl ?_⟩;refine ⟨_,rfl,_,_,_,_,rfl,(.int i),rfl,_,rfl,iz rfl ?_⟩;refine ⟨_,rfl,z2,fun p D=>⟨_,p,_,_,_,_,rfl,a_,.int i,rfl,_,rfl,jz rfl ?_⟩⟩;refine ⟨_,rfl,z2,fun p2 F=>⟨_,p2,_,_,_,_,rfl,a_,.int i,rfl,_,rfl,jz rfl ?_⟩⟩;refine ⟨_,rfl,_,_,_,_,rfl,.int i,rfl,_,rfl,_,_,_,_,rfl,.int i,rfl,rfl,_,rfl,?_⟩;exact jz rfl ⟨_,rfl,_,rfl,rfl,tY (k _ ((cj.new D).trans (cj.new F)))⟩
 | str z=>cases O;refine ⟨_,rfl,rfl,_,rfl,iz rfl ?_⟩;refine ⟨_,rfl,_,_,_,_,rfl,(.str z),rfl,_,rfl,iz rfl ?_⟩;refine ⟨_,rfl,_,_,_,_,rfl,(.str z),rfl,_,rfl,iz rfl ?_⟩;refine ⟨_,rfl,z2,fun p D=>⟨_,p,_,_,_,_,rfl,a_,.str z,rfl,_,rfl,jz rfl ?_⟩⟩;refine ⟨_,rfl,z2,fun p2 F=>⟨_,p2,_,_,_,_,rfl,a_,.str z,rfl,_,rfl,jz rfl ?_⟩⟩;refine ⟨_,rfl,_,_,_,_,rfl,.str z,rfl,_,rfl,_,_,_,_,rfl,.str z,rfl,rfl,_,rfl,?_⟩;exact jz rfl ⟨_,rfl,_,rfl,rfl,tY (k _ ((cj.new D).trans (cj.new F)))⟩
 | tup g C=>
   cases O with
   | tup o e=>
     rename_i a1 j ds a2 a;refine ⟨_,rfl,rfl,_,rfl,iz rfl ?_⟩;refine ⟨_,rfl,_,_,_,_,rfl,(.tup o e),rfl,_,rfl,iz rfl ?_⟩;refine ⟨_,rfl,_,_,_,_,rfl,(.tup g C),rfl,_,rfl,iz rfl ?_⟩;refine ⟨_,rfl,z2,fun p D=>⟨_,p,_,_,_,_,rfl,a_,Rep.same (.tup o e) (cj.new D),rfl,_,rfl,iz rfl ?_⟩⟩;have c:cj H (upd H p (.tup [.ty "int",.ty "str"])):=cj.new D;refine ⟨_,rfl,_,_,_,_,rfl,(Rep.same (.tup o e) c),rfl,_,rfl,_,_,_,_,rfl,(Rep.same (.tup g C) c),rfl,rfl,_,rfl,iz rfl ?_⟩;refine ⟨_,rfl,_,_,_,_,rfl,(Rep.same (.tup o e) c),rfl,_,rfl,_,_,_,_,rfl,(Rep.same (.tup g C) c),rfl,rfl,_,rfl,iz rfl ?_⟩;refine ⟨_,rfl,_,_,rfl,.inr (c.tup g),_,rfl,_,_,rfl,.inr (c.tup o),rfl,_,rfl,?_⟩;have l1:=C.length;have l2:=e.length;have B:a.length≤100000:=by simp only [pM] at Y;omega
     have hl:j.length=a.length:=by omega
     generalize upd H p (.tup [.ty "int",.ty "str"])=H1 at c ⊢;refine jz (by rw [hl];simp) ?_;obtain ⟨n,rfl⟩:∃ n',n=n'+1:=⟨n-1,by simp only [pH] at X;omega⟩;refine ⟨_,rfl,_,_,rfl,.inr (c.tup o),_,rfl,by omega,by omega,?_⟩;refine mC (n:=a.length) (fun i G l I=>∃ (v:Option V),G=(List.replicate i true).map V.bl/\l=[v,some _,some _]/\cj H1 I) (by exact aaj B (by decide)) ⟨none,rfl,rfl,cj.refl _⟩ ?_ ?_
     ·rintro i G l I W M ⟨v,rfl,rfl,m⟩ N hN;obtain ⟨d1,S,r1⟩:=C.get' (i:=i) (x:=j[i]) (aaL (by omega));obtain ⟨d2,U,r2⟩:=e.get' (i:=i) (x:=a[i]) (aaL W);rw [S] at U;cases U;have R:=aaq S;have q1:=pY R;have q2:=qx R;have J:pL j (0+(i:Int))=some j[i]:=by rw [ab3];exact dO (aaL (by omega))
      have L:pL a (0+(i:Int))=some a[i]:=by rw [ab3];exact dO (aaL W)
      refine ⟨_,rfl,_,rfl,.inr (.inl ⟨_,_,_,_,rfl,rfl,(c.trans m).tup g,J,?_⟩)⟩;refine ⟨_,rfl,_,rfl,.inr (.inl ⟨_,_,_,_,rfl,rfl,(c.trans m).tup o,L,?_⟩)⟩;refine ⟨_,_,d1,rfl,r1.same (c.trans m),r2.same (c.trans m),?_,?_,fun aa s3=>?_⟩
      ·simp only [pH] at X;omega
      ·simp only [pM] at Y;omega
      exact hN _ _ _ (by simp) ⟨_,by rw [List.replicate_succ',aaF];rfl,rfl,m.trans s3⟩
     ·rintro G l I M ⟨v,rfl,rfl,m⟩;refine ⟨by rw [aah,acm];exact aaj B (by decide),fun q hq=>⟨q,_,rfl,dR.of a_,?_⟩⟩;show Q (.bl ((List.replicate a.length true).all id)) _;rw [show (List.replicate a.length true).all id=true by simp];exact k _ ((c.trans m).trans (cj.new hq))
 | lst g C=>
   cases O with
   | lst o e=>
     rename_i a1 j ds a2 a;refine ⟨_,rfl,rfl,_,rfl,iz rfl ?_⟩;refine ⟨_,rfl,_,_,_,_,rfl,(.lst o e),rfl,_,rfl,iz rfl ?_⟩;refine ⟨_,rfl,_,_,_,_,rfl,(.lst g C),rfl,_,rfl,iz rfl ?_⟩;refine ⟨_,rfl,z2,fun p D=>⟨_,p,_,_,_,_,rfl,a_,Rep.same (.lst o e) (cj.new D),rfl,_,rfl,iz rfl ?_⟩⟩;have c:cj H (upd H p (.tup [.ty "int",.ty "str"])):=cj.new D;refine ⟨_,rfl,_,_,_,_,rfl,(Rep.same (.lst o e) c),rfl,_,rfl,_,_,_,_,rfl,(Rep.same (.lst g C) c),rfl,rfl,_,rfl,iz rfl ?_⟩;refine ⟨_,rfl,_,_,_,_,rfl,(Rep.same (.lst o e) c),rfl,_,rfl,_,_,_,_,rfl,(Rep.same (.lst g C) c),rfl,rfl,_,rfl,iz rfl ?_⟩;refine ⟨_,rfl,_,_,rfl,.inl (c.seq g),_,rfl,_,_,rfl,.inl (c.seq o),rfl,_,rfl,?_⟩;have l1:=C.length;have l2:=e.length;have B:a.length≤100000:=by simp only [pM] at Y;omega
     have hl:j.length=a.length:=by omega
     generalize upd H p (.tup [.ty "int",.ty "str"])=H1 at c ⊢;refine jz (by rw [hl];simp) ?_;obtain ⟨n,rfl⟩:∃ n',n=n'+1:=⟨n-1,by simp only [pH] at X;omega⟩;refine ⟨_,rfl,_,_,rfl,.inl (c.seq o),_,rfl,by omega,by omega,?_⟩;refine mC (n:=a.length) (fun i G l I=>∃ (v:Option V),G=(List.replicate i true).map V.bl/\l=[v,some _,some _]/\cj H1 I) (by exact aaj B (by decide)) ⟨none,rfl,rfl,cj.refl _⟩ ?_ ?_
     ·rintro i G l I W M ⟨v,rfl,rfl,m⟩ N hN;obtain ⟨d1,S,r1⟩:=C.get' (i:=i) (x:=j[i]) (aaL (by omega));obtain ⟨d2,U,r2⟩:=e.get' (i:=i) (x:=a[i]) (aaL W);rw [S] at U;cases U;have R:=aaq S;have q1:=pY R;have q2:=qx R;have J:pL j (0+(i:Int))=some j[i]:=by rw [ab3];exact dO (aaL (by omega))
      have L:pL a (0+(i:Int))=some a[i]:=by rw [ab3];exact dO (aaL W)
      refine ⟨_,rfl,_,rfl,.inl ⟨_,_,_,_,rfl,rfl,(c.trans m).seq g,J,?_⟩⟩;refine ⟨_,rfl,_,rfl,.inl ⟨_,_,_,_,rfl,rfl,(c.trans m).seq o,L,?_⟩⟩;refine ⟨_,_,d1,rfl,r1.same (c.trans m),r2.same (c.trans m),?_,?_,fun aa s3=>?_⟩
      ·simp only [pH] at X;omega
      ·simp only [pM] at Y;omega
      exact hN _ _ _ (by simp) ⟨_,by rw [List.replicate_succ',aaF];rfl,rfl,m.trans s3⟩
     ·rintro G l I M ⟨v,rfl,rfl,m⟩;refine ⟨by rw [aah,acm];exact aaj B (by decide),fun q hq=>⟨q,_,rfl,dR.of a_,?_⟩⟩;show Q (.bl ((List.replicate a.length true).all id)) _;rw [show (List.replicate a.length true).all id=true by simp];exact k _ ((c.trans m).trans (cj.new hq))
def Lc (x:Str):Prop:=∀ c∈x.cps.toList,97≤c/\c≤122
structure Nm (x:Str):Prop where
 lo:1≤x.length
 hi:x.length≤8
 lc:Lc x
theorem Lc.app (a:Lc x) (b:Lc y):Lc (x++y):=fun c d=>by rw [Str.cps_append,ab1,aal] at d;exact d.elim (a c) (b c)
theorem pJ (a:Str) (c:a.cps.toList=[]):∀ b:List Str,(Str.join a b).cps.toList=(b.map (·.cps.toList)).flatten
 |[]=>rfl
 |[x]=>by show x.cps.toList=_;simp
 | x::y::r=>by show (x++a++Str.join a (y::r)).cps.toList=_;rw [Str.cps_append,ab1,Str.cps_append,ab1,c,aaO,pJ a c (y::r),aaE (l:=y::r),List.flatten_cons]
theorem CP (a:Str) (b:Zd):PySem.Txt.join a b=Str.join a b:=by show PySem.Builtin.Str.glued a b=_;rw [PySem.StrLaws.glued_eq_join]
theorem zB (x:Str):x.length=x.cps.toList.length:=by simp [Str.length]
section
variable {P:Z4} {w:Z5} {K:Z2} {mg:Zc} {base:Z7}
def xY:Sp:=fun vs H Q _=>∃ (p b:Z0),vs=[.ref p]/\Dr H p b/\∀ (x:Str) (a:Hp),Nm x->Dr a p b->iU p H a->Q (.str x) a
theorem Px:cA ["_law_d","_law_letters","_law_first","_law_size","_law_some"] ["_law_d"] (bK (top 116)):=by ext
theorem wL (h:pL ("abcdefghijklmnopqrstuvwxyz" : Str).cps.toList i=some c):97≤c/\c≤122:=by
 have:c∈("abcdefghijklmnopqrstuvwxyz" : Str).cps.toList:=by unfold pL at h;obtain ⟨j,_,e⟩:=Option.bind_eq_some_iff.mp h;exact aaq e
 have all:∀ c∈("abcdefghijklmnopqrstuvwxyz" : Str).cps.toList,97≤c/\c≤122:=by ext
 exact all c this
theorem zb (F:gj K "_law_word" "_law_word" (top 116) f fd) (T:Txt K mg) (U:gK K mg "_law_pick" (top 113) ["_law_d","_law_many"] fP R) (DO:gK K mg "_law_of" (top 114) ["_law_d","_law_things"] fO S) :
 cD P w K mg base dI 3 f fd ["_law_d"] xY:=by
 have GP:cD P w K mg base dI 1 fP R ["_law_d","_law_many"] o9:=mH U.F T;have GO:cD P w K mg base dI 2 fO S ["_law_d","_law_things"] (I_ K):=FQ DO.F T U;refine F.ok Px (by ext) fun ag A Y s H vs Q E hr h=>?_;obtain ⟨p,C,rfl,D,k⟩:=h;have B:dm 1 _:=hr.mono (by decide);refine ⟨_,(b8 (cQ (i:=1) Px.nd rfl (.inr rfl) cH) (b8 (cQ (i:=2) Px.nd rfl (.inl rfl) (jt DO GO hr (aK (pv 0) (aK (gD (aK cH (aK cH (aK cH (aK cH (aK cH b_)))))) b_)))) (b8 (cQ (i:=3) Px.nd rfl (.inl rfl) (dN gn cu (jt U GP B (aK (pv 0) (aK (dN xr cu (d9 mV (by rfl) T.len gF (aK (pv 2) b_))) b_))))) (b8 (cQ (i:=4) Px.nd rfl (.inl rfl) (jM ab4 PySem.F.slot_str_join PySem.F.type_str_join yK cH (aK (iH (own:=["_law_k"]) (js:=[1,0]) (N':=["_law_k","_law_letters","_law_d"]) (dq.of (osc:=bK (top 116)) (N:=["_law_d","_law_letters","_law_first","_law_size","_law_some"]) rfl rfl (by ext)) rfl (jn rfl T.range (aK (pv 3) b_)) (fun _ _ _ _ _=>(cF (i:=0) (show List.Nodup (["_law_k","_law_letters","_law_d"]:Zd) by ext) rfl (.inl rfl) (.inr rfl))) (fun _ _ _ _ _=>eX) (fun _ _ _ _ _=>(dY (r:=O9) tV (pv 1) (jt U GP B (aK (pv 2) (aK cu b_))) (fun _ _=>rfl)))) b_))) (c7 (cI (dY eV (gD (aK (dN kj (pv 2) (pv 4)) (aK (dN kj (pv 4) (pv 2)) b_))) (jt U GP B (aK (pv 0) (aK cu b_))) (fun _ _=>rfl)))))))),?_⟩
 try dsimp only [iY]
 refine ⟨_,rfl,(by ext),fun q hq=>?_⟩;refine ⟨p,C,q,_,rfl,D.new hq,dR.of a_,by simp,by simp,fun x H1 m D1 b1=>?_⟩;obtain ⟨z,rfl,hz,lz⟩:∃ z:Str,x=.str z/\z.length≤7/\Lc z:=by
  simp only [aaf,abp,or_false] at m;rcases m with rfl|rfl|rfl|rfl|rfl
  all_goals exact ⟨_,rfl,by ext,by unfold Lc;decide +kernel⟩
 refine ⟨_,rfl,_,rfl,z,rfl,aaj hz (by decide),_,_,rfl,rfl,p,C,_,rfl,D1,by omega,by omega,fun r H2 r0 r1 D2 b2=>?_⟩;refine ⟨_,_,rfl,rfl,?_⟩;refine ⟨rfl,_,rfl,_,rfl,by omega,by omega,?_⟩;refine mC (n:=(1+r).toNat) (fun i Z y W=>∃ (cs:Zd) (v:Option V),Z=cs.map V.str/\y=[v,some (.str "abcdefghijklmnopqrstuvwxyz"),some (.ref p)]/\Dr W p C/\iU p H2 W/\∀ c∈cs,c.length=1/\Lc c) (aaj (show (1+r).toNat≤8 by omega) (by decide)) ⟨[],none,rfl,rfl,D2,iU.refl,fun _ h=>nomatch h⟩ ?_ ?_
 ·rintro i Z y W hi b ⟨cs,v,rfl,rfl,D3,b3,O⟩ N hN;refine ⟨_,rfl,_,rfl,p,C,_,rfl,D3,by decide,by decide,fun r' H4 G aa X b4=>?_⟩;obtain ⟨j,rfl⟩:=Int.eq_ofNat_of_zero_le G;obtain ⟨c,ad⟩:∃ c,("abcdefghijklmnopqrstuvwxyz" : Str).cps.toList[j]?=some c:=⟨_,aaL (by show j<26;omega)⟩;have L:pL ("abcdefghijklmnopqrstuvwxyz" : Str).cps.toList (j:Int)=some c:=dO ad;refine ⟨_,_,c,rfl,rfl,(by ext),L,?_⟩;refine hN _ _ _ (by simpa using b) ⟨cs++[⟨#[c]⟩],_,by simp,rfl,X,b3.trans b4,fun c' a=>?_⟩;rcases aal.mp a with a|a
  ·exact O c' a
  ·obtain rfl:c'=⟨#[c]⟩:=by simpa using a
   refine ⟨rfl,fun x m=>?_⟩;obtain rfl:x=c:=by simpa using m
   exact wL L
 ·rintro Z y W b ⟨cs,v,rfl,rfl,D3,b3,O⟩;rw [aah] at b;refine ⟨by rw [aah,b];exact aaj (show (1+r).toNat≤8 by omega) (by decide),fun q2 I=>?_⟩;have g:(cs.map (·.length)).sum=cs.length:=by
   clear b;induction cs with
   |nil=>rfl
   |cons c t ih=>rw [aaE,List.sum_cons,ih fun d hd=>O d (aag _ hd),(O c aan).1,aaw,Nat.add_comm]
  refine ⟨_,q2,cs,rfl,rfl,dR.of a_,by rw [g,show (Str.ofString "").length=0 from rfl];omega,?_⟩;rw [CP];have jl:(Str.join (Str.ofString "") cs).length=cs.length:=by rw [zB,pJ _ rfl,List.length_flatten,abv,← g];congr 1
  have jc:Lc (Str.join (Str.ofString "") cs):=fun x m=>by rw [pJ _ rfl] at m;obtain ⟨l,hl,ae⟩:=List.mem_flatten.mp m;obtain ⟨c,af,rfl⟩:=aar.mp hl;exact (O c af).2 x ae
  generalize Str.join (Str.ofString "") cs=e at jl jc;have ah:e.length+z.length≤8/\1≤e.length:=by omega
  refine ⟨_,rfl,_,rfl,_,_,rfl,rfl,aaj (show z.length+e.length≤8 by omega) (by decide),_,rfl,_,rfl,_,_,rfl,rfl,aaj (show e.length+z.length≤8 by omega) (by decide),(by ext),fun q3 J=>?_⟩;have X:Dr _ p C:=(D3.new (o:=.lst (cs.map V.str)) I).new (o:=.lst [.str (z++e),.str (e++z)]) J;refine ⟨_,rfl,p,C,_,rfl,X,by decide,by decide,fun r' H5 G aa D5 b5=>?_⟩;have ab:Nm (z++e):=⟨by rw [abw];omega,by rw [abw];omega,lz.app jc⟩;have ac:Nm (e++z):=⟨by rw [abw];omega,by rw [abw];omega,jc.app lz⟩;have bt:iU p H H5:=((((iU.new hq).trans b1).trans b2).trans b3).trans (((iU.new I).trans (iU.new J)).trans b5);have M:dR K H5 q3 [.str (z++e),.str (e++z)]:=X.seq b5 (dR.of a_);by_cases h0:r'=0
  ·subst h0;exact ⟨_,_,_,_,rfl,rfl,M,rfl,k _ _ ab D5 bt⟩
  ·obtain rfl:r'=1:=by omega
   exact ⟨_,_,_,_,rfl,rfl,M,rfl,k _ _ ac D5 bt⟩
def uo (K:Z2):Sp:=fun vs H Q _=>∃ (p c:Z0) (m:Int),vs=[.ref p,.int m]/\Dr H p c/\0≤m/\m≤60/\∀ (q:Z0) (a:Zd) (b:Hp),b q=some (.lst (a.map V.str))->H q=none->(a.length:Int)=m->(∀ y∈a,Nm y)->a.Nodup->Dr b p c->iU p H b->Q (.ref q) b
theorem Ae:cA ["_law_d","_law_many","_law_found","_law_k","_law_word_here","_law_step"] ["_law_d","_law_many"] (bK (top 117)):=by ext
noncomputable def wd (t:Nat):Str:=⟨#[97+t % 8,113+t / 8 % 8]⟩
theorem Qq (t:Nat):Nm (wd t):=⟨by show 1≤2;decide,by show 2≤8;decide,fun c a=>by
 have:c=97+t % 8∨c=113+t / 8 % 8:=by simpa [wd] using a
 omega⟩
theorem K_ (h:wd (k+s)=wd (k+a)) (c:s<64) (d:a<64):s=a:=by
 have e:(#[97+(k+s) % 8,113+(k+s) / 8 % 8]:Array Nat)=#[97+(k+a) % 8,113+(k+a) / 8 % 8]:=aaM Str.cps h;have b:97+(k+s) % 8=97+(k+a) % 8/\113+(k+s) / 8 % 8=113+(k+a) / 8 % 8:=by simpa using aaM Array.toList e
 omega
theorem sub_len {d:Type} [DecidableEq d]:∀ {l ys:List d},l.Nodup->(∀ x∈l,x∈ys)->l.length≤ys.length
 |[],_,_,_=>aaA _
 | a::l,ys,nd,hs=>by obtain ⟨e,f⟩:=aaK.mp nd;have c:=hs a aan;have q:=sub_len (ys:=ys.erase a) f fun x b=>(List.mem_erase_of_ne (by intro z;exact e (z ▸ b))).mpr (hs x (aag _ b));rw [List.length_erase_of_mem c] at q;have:=List.length_pos_of_mem c;rw [aaw];omega
theorem Cj {d o:Type} {f:d->o}:∀ {l:List d},l.Nodup->(∀ a∈l,∀ b∈l,f a=f b->a=b)->(l.map f).Nodup
 |[],_,_=>abd
 | a::l,nd,h=>by obtain ⟨j,n⟩:=aaK.mp nd;rw [aaE];refine aaK.mpr ⟨fun m=>?_,Cj n fun x g y i=>h x (aag _ g) y (aag _ i)⟩;obtain ⟨b,c,e⟩:=aar.mp m;exact j (h b (aag _ c) a aan e ▸ c)
theorem KH {c:Zd} (l:c.length<64) (h:∀ s,s<64->wd (k+s)∈c):False:=by
 have i:((List.range 64).map fun s=>wd (k+s)).Nodup:=Cj List.nodup_range fun a d b f e=>K_ e (ace.mp d) (ace.mp f);have q:=sub_len i fun x g=>by obtain ⟨s,j,rfl⟩:=aar.mp g;exact h s (ace.mp j)
 rw [aah,List.length_range] at q;omega
theorem vH (F:gj K "_law_words" "_law_words" (top 117) f fd) (T:Txt K mg) (DP:gK K mg "_law_pick" (top 113) ["_law_d","_law_many"] fP fdP) (DO:gK K mg "_law_of" (top 114) ["_law_d","_law_things"] fO fdO)
 (DW:gK K mg "_law_word" (top 116) ["_law_d"] fW I):cD P w K mg base dI 4 f fd ["_law_d","_law_many"] (uo K):=by
 have GW:cD P w K mg base dI 3 fW I ["_law_d"] xY:=zb DW.F T DP DO;refine F.ok Ae (by ext) fun ae A N s H vs Q E hr h=>?_;obtain ⟨p,Z,m,rfl,D,m0,m1,k⟩:=h;refine ⟨_,(b8 (cQ (i:=2) Ae.nd rfl (.inl rfl) (gD b_)) (b8 (iJ aaW rfl (jn rfl T.range (aK (pv 1) b_)) (cF (i:=3) Ae.nd rfl (.inl rfl)) (b8 (cQ (i:=4) Ae.nd rfl (.inl rfl) (jt DW GW hr (aK (pv 0) b_))) (b8 (iJ aaW rfl (jn rfl T.range (aK cu b_)) (cF (i:=5) Ae.nd rfl (.inl rfl)) (c7 (dW (dz rP (pv 4) (pv 2) rfl) (c7 (cQ (i:=4) Ae.nd rfl (.inl rfl) (dN kj (dY tV cH (dN lC (dN gn (pv 3) (pv 5)) cu) (fun _ _=>rfl)) (dY tV cH (dN lC (dN yJ (dN gn (pv 3) (pv 5)) cu) cu) (fun _ _=>rfl))))) cV))) (c7 (d8 (jM aa0 aa7 abe gY (pv 2) (aK (pv 4) b_))))))) (c7 (cI (pv 2))))),?_⟩
 try dsimp only [iY]
 refine ⟨(by ext),fun q B=>?_⟩;refine ⟨_,rfl,m,rfl,by omega,by omega,?_⟩;refine lR (n:=m.toNat) (fun i g r=>∃ (d:Zd) (a b c:Option V),g=[some (.ref p),some (.int m),some (.ref q),a,b,c]/\r q=some (.lst (d.map V.str))/\d.length=i/\(∀ y∈d,Nm y)/\d.Nodup/\Dr r p Z/\iU p H r)
  ⟨[],none,none,none,rfl,a_,rfl,(fun _ h=>by cases h),abd,D.new B,iU.new B⟩ ?_ ?_
 ·rintro i g r hi ⟨d,a,b,c,rfl,L,hl,hy,nd,M,b1⟩;refine ⟨_,rfl,p,Z,rfl,M,fun x H2 nx D2 b2=>?_⟩;have J:H2 q=some (.lst (d.map V.str)):=b2 q _ L (M.ne L (by intro aa z;cases z));refine ⟨_,rfl,by decide,by decide,?_⟩;refine lR (n:=64) (fun j g O=>∃ (z:Str) (c:Option V),g=[some (.ref p),some (.int m),some (.ref q),some (.int (0+(i:Int))),some (.str z),c]/\Nm z/\O=H2/\(z∉d∨∀ s,s<j->wd (i+s)∈d)) ⟨x,_,rfl,nx,rfl,.inr fun s hs=>absurd hs (Nat.not_lt_zero _)⟩ ?_ ?_
  ·rintro j g O hj ⟨z,c,rfl,nz,rfl,hz⟩;refine ⟨_,rfl,_,rfl,q,_,rfl,.inl (dR.of J),rfl,?_,_,rfl,?_⟩
   ·rw [acb];intro v hv;obtain ⟨y,_,rfl⟩:=aar.mp hv;rfl
   ·have C:inV (.str z) (d.map V.str)=true↔z∈d:=by
     unfold inV;rw [List.any_map,acp];constructor
     ·rintro ⟨y,ab,ac⟩;have:y=z:=by simpa [Ff] using ac
      exact this ▸ ab
     ·intro l;exact ⟨z,l,by simp [Ff]⟩
    refine mY (fun R=>?_) (fun R=>⟨z,_,rfl,nz,rfl,.inl fun l=>R (C.mpr l)⟩);have U:=C.mp R;have W:∀ s,s<j->wd (i+s)∈d:=hz.elim (fun n=>absurd U n) id;have u1:(0+(i:Int)+(0+(j:Int))) % 8=(((i+j) % 8:Nat):Int):=by omega
    have u2:(0+(i:Int)+(0+(j:Int))) / 8 % 8=(((i+j) / 8 % 8:Nat):Int):=by omega
    have h1:("abcdefgh" : Str).cps.toList[(i+j) % 8]?=some (97+(i+j) % 8):=by have:=Nat.mod_lt (i+j) (show 0<8 by decide);generalize (i+j) % 8=m8 at this;revert m8;decide +kernel
    have h2:("qrstuvwx" : Str).cps.toList[(i+j) / 8 % 8]?=some (113+(i+j) / 8 % 8):=by have:=Nat.mod_lt ((i+j) / 8) (show 0<8 by decide);generalize (i+j) / 8 % 8=m8 at this;revert m8;decide +kernel
    refine ⟨_,rfl,_,rfl,_,_,rfl,rfl,_,_,rfl,rfl,(by show (0:Int)<8;decide),_,_,_,rfl,rfl,(by ext),(by rw [u1];exact dO h1),?_⟩;refine ⟨_,rfl,_,rfl,_,_,rfl,rfl,_,_,rfl,rfl,⟨by decide,by decide⟩,_,_,rfl,rfl,(by show (0:Int)<8;decide),_,_,_,rfl,rfl,(by ext),(by rw [u2];exact dO h2),?_⟩;refine ⟨_,_,rfl,rfl,(show 1+1≤sizeLine by decide),wd (i+j),_,rfl,Qq _,rfl,?_⟩;by_cases hw:wd (i+j)∈d
    ·refine .inr fun s hs=>?_;by_cases ad:s=j
     ·rw [ad];exact hw
     ·exact W s (by omega)
    ·exact .inl hw
  ·rintro g O ⟨z,c,rfl,nz,rfl,hz⟩;have G:z∉d:=hz.elim id fun h=>(KH (by omega) h).elim;refine ⟨_,rfl,.inl ⟨rfl,_,dR.of J⟩,_,rfl,q,_,_,rfl,rfl,J,by rw [aah];exact lU (by omega),?_⟩;have X:q≠Z:=by obtain ⟨xs,e⟩:=D.cell;exact (cg e B).symm
   have Y:q≠p:=D2.ne J (by intro aa z;cases z);refine ⟨d++[z],_,_,_,rfl,by rw [a_];simp,by simp [hl],fun y S=>(aal.mp S).elim (hy y) (fun h=>by rw [aai.mp h];exact nz),zJ nd G,D2.put Y X,fun b o e hb=>?_⟩;rw [b7 (cg e B)];exact (b1.trans b2) b o e hb
 ·rintro g r ⟨d,a,b,c,rfl,L,hl,hy,nd,M,b1⟩;exact ⟨_,rfl,k q d r L B (by omega) hy nd M b1⟩
end
abbrev jj:=Str×Int×Int
structure oK (f:jj):Prop where
 nm:Nm f.1
 lo:-999999≤f.2.1
 le:f.2.1≤f.2.2
 hi:f.2.2≤999999
def TK (H c:Hp):Prop:=∀ b a,H b=some (.tup a)->c b=some (.tup a)
theorem TK.trans (a:TK H e) (b:TK e f):TK H f:=fun c d h=>b c d (a c d h)
theorem TK.but (d:Dr H p f) (b:iU p H a):TK H a:=fun c g h=>b c _ h (d.ne h (by intro e z;cases z))
theorem TK.lst (h:H q=some (.lst a)):TK H (upd H q o):=fun c b e=>by rw [b7 (iu e h (by intro z;cases z))];exact e
theorem TK.new (h:H q=none):TK H (upd H q o):=fun c a e=>by rw [b7 (cg e h)];exact e
def jg (H:Hp) (x:V) (f:jj):Prop:=∃ b,x=.ref b/\H b=some (.tup [.str f.1,.int f.2.1,.int f.2.2])
theorem jg.tk (h:jg H x f) (k:TK H a):jg a x f:=let ⟨b,e,q⟩:=h;⟨b,e,k _ _ q⟩
theorem ig:∀ {a:List V} {fs:List jj},Paired (jg H) a fs->TK H b->Paired (jg b) a fs
 |_,_,.nil,_=>.nil
 |_,_,.cons r t,k=>.cons (r.tk k) (ig t k)
theorem uni:∀ c<128,Unicode.isAlpha c=(decide (65≤c/\c≤90) || decide (97≤c/\c≤122))/\Unicode.isLower c=decide (97≤c/\c≤122)/\Unicode.isUpper c=decide (65≤c/\c≤90)/\Unicode.isTitle c=false:=by ext
noncomputable def nameB (x:Str):Bool:=decide (x.length≤8) && (x.cps.all (·<128) && ((x.length > 0 && x.cps.all Unicode.isAlpha) && (x.cps.any Unicode.isLower && !x.cps.any fun c=>Unicode.isUpper c || Unicode.isTitle c)))
theorem Av (x:Str):nameB x=true↔Nm x:=by
 unfold nameB;simp only [aa1,acV,Bool.not_eq_true',← Array.all_toList,← Array.any_toList,acb,acp,acG];constructor
 ·rintro ⟨e,o,⟨d,f⟩,⟨v,p,q⟩,r⟩;refine ⟨d,e,fun c a=>?_⟩;have j:c<128:=o c a;obtain ⟨l,s,m,n⟩:=uni c j;have g:=f c a;have h:=r c a;rw [l] at g;rw [m,n] at h;simp at g h;omega
 ·rintro ⟨d,e,i⟩;have b:∀ c∈x.cps.toList,c<128/\97≤c/\c≤122:=fun c a=>⟨by have:=i c a;omega,i c a⟩;refine ⟨e,fun c a=>(b c a).1,⟨d,fun c a=>?_⟩,?_,fun c a=>?_⟩
  ·rw [(uni c (b c a).1).1];simp [(b c a).2]
  ·rw [zB] at d;obtain ⟨c,a⟩:=List.exists_mem_of_length_pos (show 0<x.cps.toList.length by omega);exact ⟨c,a,by rw [(uni c (b c a).1).2.1];simp [(b c a).2]⟩
  ·rw [(uni c (b c a).1).2.2.1,(uni c (b c a).1).2.2.2];have:=(b c a).2;simp;omega
structure Aa (mg:Zc):Prop where
 ml:∃ t,mg "MOST_LETTERS" = some (.int 8 t)
 mf:∃ t,mg "MOST_FIELDS" = some (.int 4 t)
 lim:∃ t,mg "LIMIT" = some (.int 999999 t)
def vd:Sp:=fun vs H Q _=>∃ x:Str,vs=[.str x]/\x.length≤sizeLine/\Q (.bl (nameB x)) H
theorem Wk:cA ["text"] ["text"] (bK (top 26)):=by ext
theorem zU (F:gj K "is_name" "is_name" (top 26) f c) (T:Txt K l) (TK:Aa l):cD P w K l m dI 1 f c ["text"] vd:=by
 refine F.ok Wk (by ext) fun d A a s H vs Q E i h=>?_;obtain ⟨x,rfl,e,k⟩:=h;obtain ⟨j,g⟩:=TK.ml;refine ⟨_,(c7 (cI (kh (iG kY (d9 mV (by rfl) T.len gF (aK (pv 0) b_)) (ie (v:=.int 8) rfl g ⟨_,rfl⟩) (dw _)) (kh (tW ab4 PySem.F.slot_str_isascii PySem.F.type_str_isascii yt (pv 0)) (kh (tW ab4 PySem.F.slot_str_isalpha PySem.F.type_str_isalpha wU (pv 0)) (qe (tW ab4 PySem.F.slot_str_islower PySem.F.type_str_islower xF (pv 0)))))))),?_⟩
 try dsimp only [iY]
 refine ⟨_,rfl,x,rfl,e,_,_,rfl,rfl,_,rfl,?_⟩;unfold nameB at k;by_cases b:x.length≤8
 ·refine jz (by simp;omega) ⟨_,rfl,rfl,x,rfl,rfl,_,rfl,?_⟩;rw [abD b,Bool.true_and] at k;cases h1:x.cps.all (·<128) with
  |false=>rw [h1] at k;exact iz h1 k
  | true=>
    rw [h1,Bool.true_and] at k;refine jz h1 ⟨_,rfl,rfl,x,rfl,rfl,_,rfl,?_⟩;cases h2:(x.length > 0 && x.cps.all Unicode.isAlpha) with
    |false=>rw [h2] at k;exact iz h2 k
    | true=>rw [h2,Bool.true_and] at k;exact jz h2 ⟨_,rfl,rfl,x,rfl,rfl,k⟩
 ·refine iz (by simp;omega) ?_;rw [aaY b,Bool.false_and] at k;exact k
def jY:Sp:=fun vs H Q _=>∃ x:Str,vs=[.str x]/\Nm x/\Q .non H
theorem V9:cA ["text"] ["text"] (bK (top 27)):=by ext
theorem kZ (F:gj K "need_name" "need_name" (top 27) f d) (T:Txt K m) (TK:Aa m) (e:gK K m "is_name" (top 26) ["text"] c a):cD P w K m l dI 2 f d ["text"] jY:=by
 have j:cD P w K m l dI 1 c a ["text"] vd:=zU e.F T TK;refine F.ok V9 (by ext) fun g A b s H vs Q E i h=>?_;obtain ⟨x,rfl,nm,k⟩:=h;refine ⟨_,(c7 (dW (iZ (ik (jt e j i (aK (pv 0) b_)))) (c7 dC) cV)),?_⟩
 try dsimp only [iY]
 refine ⟨_,rfl,x,rfl,aaj nm.hi (by decide),_,rfl,?_⟩;rw [(Av x).mpr nm];exact iz rfl k
def mJ:Sp:=fun vs H Q _=>∃ (a:Z0) (b:List V) (fs:List jj),vs=[.ref a]/\H a=some (.tup b)/\Paired (jg H) b fs/\fs.length≤60/\(∀ f∈fs,oK f)/\(fs.map (·.1)).Nodup/\∀ c,cj H c->Q .non c
theorem jo {a d:Type} {F:a->d->Prop}:∀ {b:List a} {c:List d} {i:Nat} {x:a},Paired F b c->b[i]?=some x->∃ y,c[i]?=some y/\F x y
 |_,_,_,_,.nil,e=>by simp at e
 |_,_,0,_,.cons r _,e=>by simp at e;subst e;exact ⟨_,rfl,r⟩
 | _,_,i+1,x,.cons _ t,e=>by obtain ⟨y,f,g⟩:=jo (i:=i) (x:=x) t (by simpa using e);exact ⟨y,by simpa using f,g⟩
theorem Ed:cA ["fields","seen","name","low","high"] ["fields"] (bK (top 28)):=by ext
theorem qY (F:gj K "need_fields" "need_fields" (top 28) f W) (T:Txt K mg) (z:Aa mg) (DI:gK K mg "is_name" (top 26) ["text"] fI N) (X:gK K mg "need_name" (top 27) ["text"] U r):cD P w K mg base dI 3 f W ["fields"] mJ:=by
 have GN:cD P w K mg base dI 2 U r ["text"] jY:=kZ X.F T z DI;refine F.ok Ed (by ext) fun Y A I s H vs Q E Z h=>?_;obtain ⟨a,L,fs,rfl,ha,R,hl,hf,nd,k⟩:=h;obtain ⟨tl,S⟩:=z.lim;refine ⟨_,(b8 (cQ (i:=1) Ed.nd rfl (.inl rfl) (gD b_)) (c7 (iJ aaW rfl (pZ (pv 0)) (h_ rfl (cJ (cF (i:=2) Ed.nd rfl (.inl rfl)) (cJ (cF (i:=3) Ed.nd rfl (.inl rfl)) (cJ (cF (i:=4) Ed.nd rfl (.inl rfl)) fZ)))) (b8 (d8 (jt X GN Z (aK (pv 2) b_))) (b8 (dW (dz rP (pv 2) (pv 1) rfl) (c7 dC) cV) (b8 (dW (iZ (Bk kY kY kY (rO o7 (ie (v:=.int 999999) rfl S ⟨_,rfl⟩)) (pv 3) (pv 4) (ie (v:=.int 999999) rfl S ⟨_,rfl⟩))) (c7 dC) cV) (c7 (d8 (jM aa0 aa7 abe gY (pv 1) (aK (pv 2) b_)))))))))),?_⟩
 try dsimp only [iY]
 refine ⟨(by ext),fun q J=>?_⟩;have pl:=aaZ R;have m:∀ {O:Hp},cj H O->O a=some (.tup L):=fun e=>e _ _ ha;refine ⟨_,rfl,a,rfl,⟨_,eE.of (m (cj.new J))⟩,G_ (K:=K) (a:=a) (xs:=L) (fun i B l=>∃ (b c d:Option V),B=[some (.ref a),some (.ref q),b,c,d]/\l q=some (.lst (((fs.map (·.1)).take i).map V.str))/\cj H l) ⟨none,none,none,rfl,by rw [a_];simp,cj.new J⟩ (fun i B l _ ⟨_,_,_,_,_,e⟩=>eE.of (m e)) ?_ ?_⟩
 ·rintro i x B l hi ⟨b,c,d,rfl,D,G⟩;obtain ⟨⟨n,lo,ab⟩,g,b',rfl,hb⟩:=jo R hi;have C:=hf _ (aaq g);have aa:i<fs.length:=(aaG.mp g).1;refine ⟨b',_,rfl,eE.of (G _ _ hb),rfl,_,_,rfl,_,_,rfl,_,_,rfl,rfl,?_⟩;refine ⟨_,rfl,n,rfl,C.nm,?_⟩;have p:n∉(fs.map (·.1)).take i:=by
   intro hm;have h1:(fs.map (·.1))[i]?=some n:=by rw [aau,g];rfl
   obtain ⟨j,hj,e⟩:=List.getElem_of_mem hm;rw [abi] at hj;rw [List.getElem_take] at e;have h2:(fs.map (·.1))[j]?=some n:=by rw [aaL (by omega),e]
   have:=mW nd h1 h2;omega
  refine ⟨_,rfl,_,rfl,q,_,rfl,.inl (dR.of D),rfl,?_,_,rfl,?_⟩
  ·rw [acb];intro v hv;obtain ⟨y,_,rfl⟩:=aar.mp hv;rfl
  refine iz ?_ ?_
  ·show inV (.str n) _=false;unfold inV;rw [List.any_map,acG];intro y hy M;have:y=n:=by simpa [Ff] using M
   exact p (this ▸ hy)
  have f1:=C.lo;have f2:=C.le;have f3:=C.hi;refine ⟨_,rfl,_,rfl,_,_,rfl,rfl,_,rfl,jz (by simpa using f1) ?_⟩;refine ⟨_,rfl,_,_,rfl,rfl,_,rfl,jz (by simpa using f2) ?_⟩;refine ⟨_,_,rfl,rfl,_,rfl,iz (by simpa using f3) ?_⟩;have lt:((fs.map (·.1)).take i).length≤60:=by rw [abi,aah];omega
  refine ⟨_,rfl,.inl ⟨rfl,_,dR.of D⟩,_,rfl,q,_,_,rfl,rfl,D,by rw [aah];exact lU (by omega),?_⟩;refine ⟨_,_,_,rfl,?_,fun c o e=>by rw [b7 (cg e J)];exact G c o e⟩;rw [a_,abf,aau,g];simp
 ·rintro B l ⟨b,c,d,rfl,D,G⟩;exact k l G
structure jH (K:Z2) (x qual:Str) (st:Stmt) (dV:Z6) (f:Z0) (fd:Z3):Prop where
 ex:∃ (oc:Z6) (od:Zg) (kV doc pm:Z6) (an:Zg) (cdv ct:Z6) (osl:Zm),
  fd=PySem.W.fnOf x qual (cU st) (cO st) (bK st) dV kV doc pm an cdv ct/\K.lookup f=some ⟨oc,od,.func fd,osl⟩/\PySem.W.codeIn K cdv qual=true
 kp:PySem.W.keepIn K (.ref f)=true
section
variable {P:Z4} {w:Z5} {K:Z2} {mg:Zc} {base:Z7}
theorem jH.ok (F:jH K x b e y f m) (S:cA N j (bK e)) (len:∀ vs H Q E,l vs H Q E->vs.length=j.length)
 (d:∀ (c:Z6) (A:Z8) (a:List Env) (s:Z1) (H:Hp) (vs:List V) (Q:VK) (E:XK),dm k (A.deeper (PyProof.Rows.envOfC b (bK e) s.heap.objs.size f c))->l vs H Q E-> ∃ t,u9 (iY dI P w K mg base N b (bK e) f c A a s H E).nox (cO e) t/\t { nx:=fun _ n=>Q .non n,rt:=Q } (L2.start N vs) H):cD P w K mg base dI (k+1) f m j l:=by
 obtain ⟨oc,od,kV,p,z,an,c,B,r,rfl,v,i⟩:=F.ex;refine vO v i S len fun A a s H vs Q E o g=>?_;obtain ⟨t,h,q⟩:=d c A a s H vs Q E o g;exact ⟨t,h.nox,q⟩
theorem jH.binds (F:jH K x a g (.ref T) f m) (r:K.lookup T=some l) (hd:l.data=.seq d n)
 (h:∀ (kV b i:Z6) (an:Zg) (c j:Z6) (s:Z1) (e:Ze),s.heap.get? T=some l->(e++ds).length=ps.length->BindsTo s (PySem.W.fnOf x a (cU g) (cO g) (bK g) (.ref T) kV b i an c j) ⟨e,[]⟩ (ps.zip (e++ds))):Binds K m ps ds:=by
 obtain ⟨oc,od,kV,b,i,an,c,j,p,rfl,v,q⟩:=F.ex;exact fun s e X o=>h kV b i an c j s e (X _ _ r) o
abbrev vK:Stmt:=inClass (top 30) 0
theorem BW (hd:g.data=.seq #[i] n) (kV e j:Z6) (an:Zg) (f l:Z6) (s:Z1) (d:Ze) (m:s.heap.get? T=some g) (h:(d++[]).length=(["self","name","fields"]:Zd).length) :
 BindsTo s (PySem.W.fnOf "__init__" "Kind.__init__" (cU vK) (cO vK) (bK vK) (.ref T) kV e j an f l) ⟨d,[]⟩ ((["self","name","fields"]:Zd).zip (d++[])):=by
 rw [aaO] at h ⊢
 match d,h with
 |[a,b,c],_=>exact abM rfl m hd rfl rfl
structure KCls (K:Z2) (mg:Zc) (C:Z0):Prop where
 cl:sO K C
 nN:dJ K C "name"
 nF:dJ K C "fields"
 mg:mg "Kind" = some (.ref C)
theorem nf:¬ (("name" : Str) = "fields"):=by ext
noncomputable def kf (n:Str) (a:Z0):List (Str×V):=d_ "fields" (.ref a) (d_ "name" (.str n) [])
theorem zr (n:Str) (a:Z0):(kf n a).lookup ("name" : Str)=some (.str n):=by unfold kf;rw [gB,aac nf,gB,aad rfl]
theorem jJ (n:Str) (a:Z0):(kf n a).lookup ("fields" : Str)=some (.ref a):=by unfold kf;rw [gB,aad rfl]
theorem zO (n:Str) (a:Z0) {m:Str} (b:¬ m = "fields") (c:¬ m = "name"):(kf n a).lookup m=none:=by unfold kf;rw [gB,aac b,gB,aac c];rfl
structure eY (C:Z0) (H:Hp) (o:Z0) (n:Str) (a:Z0) (fs:List jj):Prop where
 ob:∃ dx,H o=some (.ins C dx (kf n a))
 tp:∃ xs,H a=some (.tup xs)/\Paired (jg H) xs fs
def yH (C:Z0):Sp:=fun vs H Q _=>∃ (o e a:Z0) (n:Str) (d:List V) (fs:List jj),vs=[.ref o,.str n,.ref a]/\H o=some (.ins C e [])/\Nm n/\H a=some (.tup d)/\Paired (jg H) d fs/\fs.length≤4/\(∀ f∈fs,oK f)/\(fs.map (·.1)).Nodup/\
 ∀ c,eY C c o n a fs->(∀ b u,H b=some u->b≠o->c b=some u)->Q .non c
theorem Vy:cA ["self","name","fields"] ["self","name","fields"] (bK vK):=by ext
theorem Jq (F:jH K "__init__" "Kind.__init__" vK dV f R) (T:Txt K mg) (c:Aa mg) (p:KCls K mg C) (S:gK K mg "is_name" (top 26) ["text"] fI G) (I:gK K mg "need_name" (top 27) ["text"] N l)
 (U:gK K mg "need_fields" (top 28) ["fields"] O m):cD P w K mg base dI 4 f R ["self","name","fields"] (yH C):=by
 have X:cD P w K mg base dI 2 N l ["text"] jY:=kZ I.F T c S;have Y:cD P w K mg base dI 3 O m ["fields"] mJ:=qY U.F T c S I;refine F.ok Vy (by ext) fun W A q s H vs Q E J h=>?_;obtain ⟨o,g,a,n,i,fs,rfl,B,Z,j,D,hl,hf,nd,k⟩:=h;obtain ⟨tf,mf⟩:=c.mf;have x:dm 2 _:=J.mono (by decide);have pl:=aaZ D;refine ⟨_,(b8 (d8 (jt I X x (aK (pv 1) b_))) (b8 (dW (dz EY (d9 dD (by rfl) T.len gF (aK (pv 2) b_)) (ie (v:=.int 4) rfl mf ⟨_,rfl⟩) (dw _)) (c7 dC) cV) (b8 (d8 (jt U Y J (aK (pv 2) b_))) (b8 (cP (pv 0) (pv 1) rfl) (c7 (cP (pv 0) (gW iC (by rfl) T.tuple jx (aK (pv 2) b_)) rfl)))))),?_⟩
 try dsimp only [iY]
 refine ⟨_,rfl,n,rfl,Z,?_⟩;refine ⟨_,rfl,a,i,rfl,.inr (eE.of j),_,_,rfl,rfl,_,rfl,iz (by simp;omega) ?_⟩;refine ⟨_,rfl,a,i,fs,rfl,j,D,by omega,hf,nd,fun L r=>?_⟩;refine ⟨_,rfl,_,rfl,o,C,g,[],rfl,r _ _ B,p.cl,p.nN,(show 0<1000 by decide),?_⟩;have d:a≠o:=iu j B (by intro z;cases z);have y:∀ u,(upd L o u) a=some (.tup i):=fun u=>by rw [b7 d];exact r _ _ j
 refine ⟨_,rfl,a,i,rfl,.inr ⟨eE.of (y _),?_⟩⟩;refine ⟨_,rfl,o,C,g,_,rfl,a_,p.cl,p.nF,(show 1<1000 by decide),?_⟩;have keep:∀ b u,H b=some u->b≠o->(upd (upd L o (.ins C g (d_ "name" (.str n) []))) o (.ins C g (kf n a))) b=some u:=fun b u e M=>by rw [b7 M,b7 M];exact r _ _ e
 refine k _ ⟨⟨g,a_⟩,i,keep a _ j d,ig D fun b ys e=>keep b _ e (iu e B (by intro z;cases z))⟩ keep
end
theorem eY.same (h:eY C H o n a fs) (e:cj H c):eY C c o n a fs:=by obtain ⟨⟨d,f⟩,g,i,j⟩:=h;exact ⟨⟨d,e _ _ f⟩,g,e _ _ i,ig j fun b l z=>e _ _ z⟩
def Mq (K:Z2):TG:=Cp K 3 (lF (dM 0) (lF (dM 1) (lF (dM 2) BP)))
theorem tG (z:H a=some (.tup l)) (q:Paired (jg H) l fs) (D:fs.length≤60) (A:e=[none,none,none]) (c:jj->V)
 (n:∀ f∈fs,∀ Q:VK,Q (c f) H->p [some (.str f.1),some (.int f.2.1),some (.int f.2.2)] H Q) (B:F (fs.map c) H) :
 ∃ W:Nat->Nat->List V->St->Hp->Prop,(∃ m,W 0 m [] e H)/\lY (Ng K a) (Mq K) nM p F W:=by
 have C:=aaZ q;refine pO (xs:=l) (fun i g h j=>g=(fs.take i).map c/\(∃ u v w,h=[u,v,w])/\j=H) (aaj (by omega) (show 60≤sizeLine by decide)) ⟨by simp,⟨_,_,_,A⟩,rfl⟩ ?_ ?_ ?_
 ·rintro i g h j _ ⟨_,_,rfl⟩;exact eE.of z
 ·rintro i x g h j s d ⟨rfl,⟨u,v,w,rfl⟩,rfl⟩ N y;obtain ⟨f,o,b,rfl,r⟩:=jo q s;refine ⟨b,_,rfl,eE.of r,rfl,_,_,rfl,_,_,rfl,_,_,rfl,rfl,?_⟩;refine n f (aaq o) _ (y _ _ _ (by simpa using d) ⟨?_,⟨_,_,_,rfl⟩,rfl⟩);rw [abf,o];simp
 ·rintro g h j d ⟨rfl,_,rfl⟩;rw [abJ (by omega)];exact B
noncomputable def zX (f:jj):Str:=((((f.1++(" " : Str))++Str.ofString (toString f.2.1))++(".." : Str))++Str.ofString (toString f.2.2))
noncomputable def Ia (fs:List jj):Str:=Txt.join (", " : Str) (fs.map zX)
theorem pB (d:-999999≤i) (f:i≤999999):(Str.ofString (toString i)).length≤8/\i.natAbs.log2<1920:=by
 constructor
 ·have:=int_text_length_le10 (a:=i) (k:=6) (by decide) (by omega);have e:(Str.ofString (toString i)).length=(toString i).length:=ofString_length _;omega
 ·have c:i.natAbs<2 ^ 20:=by omega
  by_cases b:i.natAbs=0
  ·rw [b];decide
  ·exact Nat.lt_trans ((Nat.log2_lt b).mpr c) (by decide)
theorem v_ (h:oK f):(zX f).length≤40:=by have c:=(pB h.lo (ab5 h.le h.hi)).1;have d:=(pB (ab5 h.lo h.le) h.hi).1;have e:=h.nm.hi;have a:((" " : Str)).length=1:=rfl;have b:((".." : Str)).length=2:=rfl;unfold zX;simp only [abw,a,b];omega
def BK:Sp:=fun vs H Q _=>∃ (a:Z0) (b:List V) (fs:List jj),vs=[.ref a]/\H a=some (.tup b)/\Paired (jg H) b fs/\fs.length≤4/\(∀ f∈fs,oK f)/\∀ c,cj H c->Q (.str (Ia fs)) c
theorem Uv:cA ["fields"] ["fields"] (bK (top 29)):=by ext
theorem Ou:List.Nodup (["name","low","high"]:Zd):=by ext
theorem P0 (F:gj K "bounds_text" "bounds_text" (top 29) f v) (T:Txt K R):cD P w K R O dI 1 f v ["fields"] BK:=by
 refine F.ok Uv (by ext) fun x A d s H vs Q E J h=>?_;obtain ⟨a,G,fs,rfl,l,p,m,n,k⟩:=h;refine ⟨_,(c7 (cI (jM ab4 PySem.F.slot_str_join PySem.F.type_str_join yK cH (aK (iH (g:=Mq K) (own:=["name","low","high"]) (js:=[]) (N':=["name","low","high"]) (dq.of (osc:=bK (top 29)) (N:=["fields"]) rfl rfl (by ext)) rfl (pZ (pv 0)) (fun _ _ _ _ _=>(h_ rfl (cJ (cF (i:=0) Ou rfl (.inl rfl) (.inr rfl)) (cJ (cF (i:=1) Ou rfl (.inl rfl) (.inr rfl)) (cJ (cF (i:=2) Ou rfl (.inl rfl) (.inr rfl)) fZ))))) (fun _ _ _ _ _=>eX) (fun _ _ _ _ _=>(yR (uv (pv 0) (wX (uv (pv 1) (wX (uv (pv 2) Ga)))))))) b_)))),?_⟩;refine ⟨rfl,_,rfl,a,rfl,⟨G,eE.of l⟩,tG l p (by omega) rfl (fun f=>.str (zX f)) (fun f e Q q=>?_) ?_⟩
 ·have b:=n f e;have B:=pB b.lo (ab5 b.le b.hi);have C:=pB (ab5 b.lo b.le) b.hi;have L:=b.nm.hi;have M:=v_ b;have big:40≤sizeLine:=by decide
  have j:((" " : Str)).length=1:=rfl;have D:((".." : Str)).length=2:=rfl;refine ⟨_,rfl,f.1,.inl ⟨rfl,by omega⟩,?_,?_,_,rfl,_,.inr ⟨_,rfl,B.2,rfl⟩,?_,?_,_,rfl,_,.inr ⟨_,rfl,C.2,rfl⟩,?_,?_,?_⟩
  all_goals (try rw [Str.empty_append])
  all_goals (try (first|omega|(simp only [abw,j,D];omega)))
  try exact q
 ·have c:fs.length≤sizeLine:=aaj m (by decide);refine ⟨by rw [aah];exact c,fun q y=>?_⟩;have o:((fs.map zX).map (·.length)).sum≤fs.length*40:=by
   clear c p l k m;induction fs with
   |nil=>simp
   | cons f r I=>rw [aaE,aaE,List.sum_cons,aaw,Nat.succ_mul];have:=v_ (n f (by simp));have:=I fun g z=>n g (by simp [z]);omega
  have j:(", " : Str).length=2:=rfl;refine ⟨_,q,fs.map zX,rfl,rfl,dR.of (by rw [a_,abv];rfl),?_,k _ (cj.new y)⟩;rw [aah,j];have:fs.length*40≤4*40:=Nat.mul_le_mul_right _ m;omega
abbrev kM (j:Nat):Stmt:=inClass (top 30) j
def wy (C:Z0):Sp:=fun vs H Q _=>∃ (o a:Z0) (n:Str) (fs:List jj),vs=[.ref o]/\eY C H o n a fs/\fs.length≤4/\∀ p b,b p=some (.tup (fs.map fun f=>.int f.2.1))->cj H b->Q (.ref p) b
theorem Xh:cA ["self"] ["self"] (bK (kM 1)):=by ext
theorem Bc (F:gj K "lowest" "Kind.lowest" (kM 1) f d) (T:Txt K D) (e:KCls K D C):cD P w K D G dI 1 f d ["self"] (wy C):=by refine F.ok Xh (by ext) fun j A b s H vs Q E B h=>?_;obtain ⟨o,a,n,fs,rfl,⟨⟨r,v⟩,x,c,y⟩,z,k⟩:=h;refine ⟨_,(c7 (cI (gW iC (by rfl) T.tuple jx (aK (iH (g:=Mq K) (own:=["name","low","high"]) (js:=[]) (N':=["name","low","high"]) (dq.of (osc:=bK (kM 1)) (N:=["self"]) rfl rfl (by ext)) rfl (pZ (cz (pv 0) rfl)) (fun _ _ _ _ _=>(h_ rfl (cJ (cF (i:=0) Ou rfl (.inl rfl) (.inr rfl)) (cJ (cF (i:=1) Ou rfl (.inl rfl) (.inr rfl)) (cJ (cF (i:=2) Ou rfl (.inl rfl) (.inr rfl)) fZ))))) (fun _ _ _ _ _=>eX) (fun _ _ _ _ _=>(pv 1))) b_)))),?_⟩;refine ⟨_,rfl,o,C,r,_,_,rfl,v,e.cl,e.nF,jJ n a,a,rfl,⟨x,eE.of c⟩,tG c y (by omega) rfl (fun f=>.int f.2.1) (fun f _ Q q=>⟨_,rfl,q⟩) ?_⟩;refine ⟨by rw [aah];exact aaj z (by decide),fun q m=>?_⟩;exact ⟨q,_,rfl,.inl ⟨dR.of a_,fun l p=>k l _ a_ ((cj.new m).trans (cj.new p))⟩⟩
def zE (C:Z0):Sp:=fun vs H Q _=>∃ (o a:Z0) (n:Str) (fs:List jj),vs=[.ref o]/\eY C H o n a fs/\Q (.int (1+fs.length)) H
theorem Vn:cA ["self"] ["self"] (bK (kM 2)):=by ext
theorem Cq (F:gj K "cells" "Kind.cells" (kM 2) f c) (T:Txt K q) (d:KCls K q C):cD P w K q r dI 1 f c ["self"] (zE C):=by refine F.ok Vn (by ext) fun e A b s H vs Q E p h=>?_;obtain ⟨o,a,n,fs,rfl,⟨⟨g,i⟩,j,l,m⟩,k⟩:=h;refine ⟨_,(c7 (cI (dN gn cu (d9 dD (by rfl) T.len gF (aK (cz (pv 0) rfl) b_))))),?_⟩;refine ⟨_,rfl,o,C,g,_,_,rfl,i,d.cl,d.nF,jJ n a,a,j,rfl,.inr (eE.of l),_,_,rfl,rfl,?_⟩;rw [aaZ m];exact k
open PySem.W
inductive Pd {α β:Type} (R:α->β->Prop):List α->List β->Prop
 |nil:Pd R [] []
 |cons {x:α} {y:β} {xs:List α} {ys:List β}:R x y->Pd R xs ys->Pd R (x::xs) (y::ys)
section
variable {α β:Type}
theorem Pd.map (h:∀ x y,R x y->c x y):∀ {a:List α} {b:List β},Pd R a b->Pd c a b
 |_,_,.nil=>.nil
 |_,_,.cons r t=>.cons (h _ _ r) (Pd.map h t)
theorem Pd.mapM:∀ {a:List α} {b:List β},(∀ x∈a,∀ y,R x y->c x y)->Pd R a b->Pd c a b
 |_,_,_,.nil=>.nil
 |_,_,h,.cons r t=>.cons (h _ (aan ..) _ r) (Pd.mapM (fun x m=>h x (aag _ m)) t)
theorem Pd.len:∀ {xs:List α} {ys:List β},Pd R xs ys->xs.length=ys.length
 |_,_,.nil=>rfl
 |_,_,.cons _ t=>by rw [aaw,aaw,t.len]
theorem Pd.at:∀ {xs:List α} {a:List β} {i:Nat} {x:α},Pd R xs a->xs[i]?=some x->∃ y,a[i]?=some y/\R x y
 |_,_,_,_,.nil,e=>by simp at e
 |_,_,0,_,.cons r _,e=>by simp at e;subst e;exact ⟨_,rfl,r⟩
 | _,_,i+1,_,.cons _ t,e=>by obtain ⟨y,b,c⟩:=Pd.at (i:=i) t (by simpa using e);exact ⟨y,by simpa using b,c⟩
theorem Pd.at':∀ {a:List α} {b:List β} {i:Nat} {y:β},Pd R a b->b[i]?=some y->∃ x,a[i]?=some x/\R x y
 |_,_,_,_,.nil,e=>by simp at e
 |_,_,0,_,.cons r _,e=>by simp at e;subst e;exact ⟨_,rfl,r⟩
 | _,_,i+1,_,.cons _ t,e=>by obtain ⟨y,c,d⟩:=Pd.at' (i:=i) t (by simpa using e);exact ⟨y,by simpa using c,d⟩
theorem Pd.app (h:Pd R b vs):∀ {a:List α} {ys:List β},Pd R a ys->Pd R (a++b) (ys++vs)
 |_,_,.nil=>h
 |_,_,.cons r t=>.cons r (Pd.app h t)
theorem Pd.erase:∀ {a:List α} {b:List β} (i:Nat),Pd R a b->Pd R (a.eraseIdx i) (b.eraseIdx i)
 |_,_,_,.nil=>.nil
 |_,_,0,.cons _ t=>t
 |_,_,i+1,.cons r t=>.cons r (t.erase i)
theorem Pd.setM (h:R' x y):∀ {xs:List α} {ys:List β} (i:Nat),(∀ j u v,j≠i->xs[j]?=some u->R u v->R' u v)->Pd R xs ys->Pd R' (xs.set i x) (ys.set i y)
 |_,_,_,_,.nil=>.nil
 |_,_,0,k,.cons r t=>.cons h (Pd.mapM (fun u m v q=>by obtain ⟨j,a⟩:=aaB.mp m;exact k (j+1) u v (by omega) (by simpa using a) q) t)
 |_,_,i+1,k,.cons r t=>.cons (k 0 _ _ (by omega) rfl r) (Pd.setM h i (fun j u v ne e q=>k (j+1) u v (by omega) (by simpa using e) q) t)
end
structure Cl where
 tk:Int
 tm:Int
 nm:Str
 fi:List jj
 vs:List Int
 gv:Bool
structure Pg where
 cs:List Cl
 us:Int
 go:Int
structure Ln where
 pg:List Pg
 most:Int
 room:Int
 over:Bool
 held:Bool
 told:Int
 last:Option Int
 tks:Int
 giv:Int
 thr:Int
 los:Int
 mis:Int
structure LC where
 k:Addr
 c:Addr
 p:Addr
 l:Addr
structure LC.Ok (Z:LC):Prop where
 kc:Z.k≠Z.c
 kp:Z.k≠Z.p
 kl:Z.k≠Z.l
 cp:Z.c≠Z.p
 cl:Z.c≠Z.l
 pl:Z.p≠Z.l
structure PA where
 p:Addr
 l:Addr
 cs:List Addr
structure LA where
 a:Addr
 lp:Addr
 ps:List PA
noncomputable def LA.ls (k:LA):List Addr:=k.lp::k.ps.map (·.l)
noncomputable def LA.cs (k:LA):List Addr:=k.ps.flatMap (·.cs)
noncomputable def uR (m:Cl) (k t:Z0):List (Str×V):=[("ticket",.int m.tk),("time",.int m.tm),("form",.ref k),("filled",.ref t),("given",.bl m.gv)]
noncomputable def Hg (l:Z0) (m:Pg):List (Str×V):=[("claims",.ref l),("used",.int m.us),("gone",.int m.go)]
noncomputable def Te:Option Int->V
 |none=>.non
 |some i=>.int i
noncomputable def wI (a:Z0) (n:Ln):List (Str×V):=[("most",.int n.most),("room",.int n.room),("over",.bl n.over),("pages",.ref a),("held",.bl n.held),("told",.int n.told),("last_time",Te n.last),("tickets",.int n.tks),("given_in",.int n.giv),("thrown_back",.int n.thr),("lost",.int n.los),("missed",.int n.mis)]
structure gJ (Z:LC) (H:Hp) (c:Z0) (m:Cl):Prop where
 ex:∃ dx k a t,H c=some (.ins Z.c dx (uR m k t))/\eY Z.k H k m.nm a m.fi/\H t=some (.tup (m.vs.map V.int))
structure gQ (Z:LC) (H:Hp) (s:PA) (m:Pg):Prop where
 ob:∃ dx,H s.p=some (.ins Z.p dx (Hg s.l m))
 ls:H s.l=some (.lst (s.cs.map V.ref))
 cs:Pd (gJ Z H) s.cs m.cs
structure cT (Z:LC) (H:Hp) (k:LA) (n:Ln):Prop where
 ob:∃ dx,H k.a=some (.ins Z.l dx (wI k.lp n))
 ls:H k.lp=some (.lst (k.ps.map fun s=>V.ref s.p))
 pg:Pd (gQ Z H) k.ps n.pg
 n1:(k.ps.map (·.p)).Nodup
 n2:k.ls.Nodup
 n3:k.cs.Nodup
def Plain (Z:LC) (o:HO):Prop:=∀ C a fs,o=.ins C a fs->C≠Z.c/\C≠Z.p/\C≠Z.l
structure Kt (Z:LC) (H H':Hp):Prop where
 tk:TK H H'
 kd:∀ b dx fs,H b=some (.ins Z.k dx fs)->H' b=some (.ins Z.k dx fs)
section
variable {Z:LC} {H H' H'':Hp}
theorem cj.kt (s:cj H H'):Kt Z H H':=⟨fun b a e=>s _ _ e,fun b c fs e=>s _ _ e⟩
theorem Kt.lst (h:H q=some (.lst a)):Kt Z H (upd H q o):=
 ⟨TK.lst h,fun c b fs e=>by rw [b7 (iu e h (by intro z;cases z))];exact e⟩
theorem Kt.ins (h:H q=some (.ins C d fs)) (ne:Z.k≠C):Kt Z H (upd H q o):=
 ⟨fun c f e=>by rw [b7 (iu e h (by intro z;cases z))];exact e,fun c a b e=>by rw [b7 (fun z=>by subst z;rw [h] at e;cases e;exact ne rfl)];exact e⟩
theorem eY.kt (h:eY Z.k H k nm a b) (q:Kt Z H H'):eY Z.k H' k nm a b:=by obtain ⟨⟨c,e⟩,d,f,g⟩:=h;exact ⟨⟨c,q.kd _ _ _ e⟩,d,q.tk _ _ f,ig g q.tk⟩
theorem gJ.kt (h:gJ Z H c m) (q:Kt Z H H') (s:H' c=H c):gJ Z H' c m:=by obtain ⟨b,k,a,t,d,e,f⟩:=h.ex;exact ⟨b,k,a,t,by rw [s];exact d,e.kt q,q.tk _ _ f⟩
theorem gQ.kt (h:gQ Z H s m) (q:Kt Z H H') (b:H' s.p=H s.p) (d:H' s.l=H s.l) (e:∀ c∈s.cs,H' c=H c):gQ Z H' s m:=
 ⟨by rw [b];exact h.ob,by rw [d];exact h.ls,Pd.mapM (fun c a y r=>r.kt q (e c a)) h.cs⟩
theorem gJ.same (h:gJ Z H c m) (s:cj H H'):gJ Z H' c m:=by obtain ⟨d,k,a,t,b,_⟩:=h.ex;exact h.kt (cj.kt s) (by rw [b];exact s _ _ b)
theorem gQ.same (h:gQ Z H s m) (e:cj H H'):gQ Z H' s m:=by obtain ⟨a,b⟩:=h.ob;exact ⟨⟨a,e _ _ b⟩,e _ _ h.ls,h.cs.map fun _ _ r=>r.same e⟩
theorem cT.same (h:cT Z H k n) (e:cj H H'):cT Z H' k n:=by obtain ⟨a,b⟩:=h.ob;exact ⟨⟨a,e _ _ b⟩,e _ _ h.ls,h.pg.map fun _ _ r=>r.same e,h.n1,h.n2,h.n3⟩
noncomputable def LA.own (k:LA):List Addr:=k.a::(k.ps.map (·.p)++k.cs)
theorem LA.a_own {k:LA}:k.a∈k.own:=aan ..
theorem LA.p_own {k:LA} {i:Nat} {s:PA} (h:k.ps[i]?=some s):s.p∈k.own:=aag _ (aal.mpr (.inl (aar.mpr ⟨s,aaq h,rfl⟩)))
theorem LA.c_own {k:LA} (h:c∈k.cs):c∈k.own:=aag _ (aal.mpr (.inr h))
structure Mv (Z:LC) (k:LA) (H:Hp) (k':LA) (H':Hp):Prop where
 out:∀ b o,H b=some o->b∉k.ls->Plain Z o->H' b=some o
 fr:∀ l∈k'.ls,l∈k.ls∨H l=none
 gr:∀ b,H' b=none->H b=none
 a:k'.a=k.a
 lp:k'.lp=k.lp
 oth:∀ b o,H b=some o->b∉k.own->b∉k.ls->H' b=some o
 fro:∀ b∈k'.own,b∈k.own∨H b=none
theorem Mv.refl:Mv Z k H k H:=⟨fun _ _ e _ _=>e,fun _ m=>.inl m,fun _ e=>e,rfl,rfl,fun _ _ e _ _=>e,fun _ m=>.inl m⟩
theorem dh (s:cj H H') (e:H' b=none):H b=none:=by
 cases h:H b with
 |none=>rfl
 |some o=>rw [s _ _ h] at e;cases e
theorem Mv.same (s:cj H H'):Mv Z k H k H':=⟨fun _ _ e _ _=>s _ _ e,fun _ m=>.inl m,fun b e=>dh s e,rfl,rfl,fun _ _ e _ _=>s _ _ e,fun _ m=>.inl m⟩
theorem Mv.trans (a:Mv Z k H g H') (b:Mv Z g H' f H''):Mv Z k H f H'':=by
 have d:∀ c o,H c=some o->c∉k.ls->c∉g.ls:=fun c o e n m=>by
  rcases a.fr c m with h|h
  ·exact n h
  ·rw [e] at h;cases h
 refine ⟨fun c o e n p=>b.out c o (a.out c o e n p) (d c o e n) p,fun l m=>?_,fun c e=>a.gr c (b.gr c e),b.a.trans a.a,b.lp.trans a.lp,fun c o e i j=>b.oth c o (a.oth c o e i j) (fun m=>?_) (d c o e j),fun c m=>?_⟩
 ·rcases b.fr l m with h|h
  ·exact a.fr l h
  ·exact .inr (a.gr l h)
 ·rcases a.fro c m with h|h
  ·exact i h
  ·rw [e] at h;cases h
 ·rcases b.fro c m with h|h
  ·exact a.fro c h
  ·exact .inr (a.gr c h)
theorem CN (h:cT Z H k n) (e:H b=some (.ins C d fs)):b∉k.ls:=by
 intro m;rcases aaf.mp m with rfl|m
 ·have:=h.ls;rw [e] at this;cases this
 ·obtain ⟨s,a,rfl⟩:=aar.mp m;obtain ⟨i,c⟩:=aaB.mp a;obtain ⟨y,_,r⟩:=h.pg.at c;have:=r.ls;rw [e] at this;cases this
theorem u6 (h:H b=some u) (e:upd H b o c=none):H c=none:=by
 by_cases z:c=b
 ·subst z;rw [a_] at e;cases e
 ·rw [b7 z] at e;exact e
theorem Mv.ins (e:H b=some (.ins C f fs)) (i:C=Z.c∨C=Z.p∨C=Z.l) (j:b∈k.own):Mv Z k H k (upd H b o):=by
 refine ⟨fun c u d _ p=>?_,fun _ m=>.inl m,fun c h=>u6 e h,rfl,rfl,fun c u d g _=>by rw [b7 (fun z=>g (by rw [z];exact j))];exact d,fun _ m=>.inl m⟩;rw [b7 (fun z=>by
  subst z;rw [e] at d;cases d;have:=p C f fs rfl;rcases i with h|h|h
  ·exact this.1 h
  ·exact this.2.1 h
  ·exact this.2.2 h)];exact d
theorem Mv.lst (e:H b=some (.lst m)) (i:b∈k.ls) (q:d.a=k.a) (r:∀ l∈d.ls,l∈k.ls∨H l=none) (s:∀ c∈d.own,c∈k.own∨H c=none) (g:d.lp=k.lp:=by rfl):Mv Z k H d (upd H b o):=
 ⟨fun c u f n p=>by rw [b7 (fun z=>by subst z;exact n i)];exact f,r,fun c h=>u6 e h,q,g,fun c u f _ j=>by rw [b7 (fun z=>j (by rw [z];exact i))];exact f,s⟩
theorem Mv.lstN (s:cj H f) (e:f b=some (.lst m)) (i:b∈k.ls) (q:k'.a=k.a) (r:∀ l∈k'.ls,l∈k.ls∨H l=none) (v:∀ c∈k'.own,c∈k.own∨H c=none) (g:k'.lp=k.lp:=by rfl):Mv Z k H k' (upd f b o):=
 ⟨fun c u d n p=>by rw [b7 (fun z=>by subst z;exact n i)];exact s _ _ d,r,fun c h=>dh s (u6 e h),q,g,fun c u d _ j=>by rw [b7 (fun z=>j (by rw [z];exact i))];exact s _ _ d,v⟩
end
theorem gJ.ins (h:gJ Z H c m):∃ b fs,H c=some (.ins Z.c b fs):=by obtain ⟨b,k,a,t,e,_⟩:=h.ex;exact ⟨b,_,e⟩
theorem gJ.upd (h:gJ Z H c m) (q:Kt Z H (upd H b o)) (ne:c≠b):gJ Z (upd H b o) c m:=h.kt q (b7 ne)
theorem gQ.updP (d:Z.Ok) (h:gQ Z H s m) (e:H b=some (.ins Z.p n fs)) (ne:s.p≠b):gQ Z (upd H b o) s m:=
 h.kt (Kt.ins e d.kp) (b7 ne) (b7 (fun z=>by have:=h.ls;rw [z,e] at this;cases this)) fun c f=>b7 fun z=>by
  obtain ⟨i,g⟩:=aaB.mp f;obtain ⟨y,_,r⟩:=h.cs.at g;obtain ⟨j,l,a⟩:=r.ins;rw [z,e] at a;injection a with a
  injection a with a
  exact d.cp a.symm
theorem gQ.updN (f:Z.Ok) (h:gQ Z H s m) (e:H b=some (.ins Z.l n fs)):gQ Z (upd H b o) s m:=
 h.kt (Kt.ins e f.kl) (b7 (fun z=>by
  obtain ⟨d,a⟩:=h.ob;rw [z,e] at a;injection a with a
  injection a with a
  exact f.pl a.symm)) (b7 (fun z=>by have:=h.ls;rw [z,e] at this;cases this)) fun c g=>b7 fun z=>by
  obtain ⟨i,j⟩:=aaB.mp g;obtain ⟨y,_,r⟩:=h.cs.at j;obtain ⟨d,l,a⟩:=r.ins;rw [z,e] at a;injection a with a
  injection a with a
  exact f.cl a.symm
theorem gQ.updL (h:gQ Z H s m) (e:H b=some (.lst l)) (ne:s.l≠b):gQ Z (upd H b o) s m:=
 h.kt (Kt.lst e) (b7 (fun z=>by
  obtain ⟨d,a⟩:=h.ob;rw [z,e] at a;cases a)) (b7 ne) fun c f=>b7 fun z=>by
  obtain ⟨i,g⟩:=aaB.mp f;obtain ⟨y,_,r⟩:=h.cs.at g;obtain ⟨d,j,a⟩:=r.ins;rw [z,e] at a;cases a
theorem cT.setL (b:Z.Ok) (h:cT Z H k n) (e:H k.a=some (.ins Z.l c fs)) (a:Ln) (d:a.pg=n.pg):cT Z (upd H k.a (.ins Z.l dx' (wI k.lp a))) k a:=by
 refine ⟨⟨_,a_⟩,?_,?_,h.n1,h.n2,h.n3⟩
 ·rw [b7 (fun z=>by have:=h.ls;rw [z,e] at this;cases this)];exact h.ls
 ·rw [d];exact h.pg.map fun _ _ r=>r.updN b e
theorem K8 {b:Type} {a:List b} {i j:Nat} {x y:b} (d:a.Nodup) (ne:i≠j) (c:a[i]?=some x) (e:a[j]?=some y):x≠y:=fun z=>by subst z;exact ne ((List.getElem?_inj (aaG.mp c).1 d).mp (c.trans e.symm))
theorem kW {c:Type}:∀ {b:List c} {i:Nat} {x:c},b[i]?=some x->b.set i x=b
 |[],_,_,e=>by simp at e
 |a::r,0,x,e=>by simp at e;subst e;rfl
 |a::r,i+1,x,e=>by rw [acw,kW (i:=i) (by simpa using e)]
theorem cT.setP {Z:LC} {k:LA} {n:Ln} (d:Z.Ok) (h:cT Z H k n) {i:Nat} {s:PA} {m m':Pg} {dx':Z0} (f:k.ps[i]?=some s) (w:n.pg[i]?=some m) (A:m'.cs=m.cs):cT Z (upd H s.p (.ins Z.p dx' (Hg s.l m'))) k { n with pg:=n.pg.set i m' }:=by
 obtain ⟨y,g,r⟩:=h.pg.at f;rw [w] at g;cases g;obtain ⟨C,e⟩:=r.ob;have o:(k.ps.map (·.p))[i]?=some s.p:=by rw [aau,f];rfl
 refine ⟨?_,?_,?_,h.n1,h.n2,h.n3⟩
 ·obtain ⟨dl,a⟩:=h.ob;refine ⟨dl,?_⟩;rw [b7 (fun z=>by
   rw [z,e] at a;injection a with a
   injection a with a
   exact d.pl a)];exact a
 ·rw [b7 (fun z=>by have:=h.ls;rw [z,e] at this;cases this)];exact h.ls
 ·have pp:=Pd.setM (R:=gQ Z H) (R':=gQ Z (upd H s.p (.ins Z.p dx' (Hg s.l m')))) (x:=s) (y:=m') (xs:=k.ps) (ys:=n.pg) ?_ i (fun j u v ne l q=>q.updP d e (K8 h.n1 ne (by rw [aau,l];rfl) o)) h.pg
  ·rw [kW f] at pp;exact pp
  ·refine ⟨⟨_,a_⟩,?_,?_⟩
   ·rw [b7 (fun z=>by have:=r.ls;rw [z,e] at this;cases this)];exact r.ls
   ·rw [A];refine Pd.mapM (fun c B y q=>q.upd (Kt.ins e d.kp) fun z=>?_) r.cs;obtain ⟨dx',p,b⟩:=q.ins;rw [z,e] at b;injection b with b
    injection b with b
    exact d.cp b.symm
theorem iT {a c:Type} (f:a->c) {b:List a} {i:Nat} {s s':a} (d:b[i]?=some s) (e:f s'=f s):(b.set i s').map f=b.map f:=by rw [acx,e];exact kW (by rw [aau,d];rfl)
theorem qz {c d:List PA} (h:c.Sublist d):(c.flatMap (·.cs)).Sublist (d.flatMap (·.cs)):=by
 induction h with
 |slnil=>exact ab6 _
 |cons a _ b=>rw [aax];exact b.trans (List.sublist_append_right _ _)
 |cons_cons a _ b=>rw [aax,aax];exact (ab6 _).append b
theorem cT.ne_lp {k:LA} (h:cT Z H k n) {i:Nat} {s:PA} (a:k.ps[i]?=some s):s.l≠k.lp:=fun z=>by have:=(aaK.mp h.n2).1;exact this (by rw [← z];exact aar.mpr ⟨s,aaq a,rfl⟩)
theorem cT.ne_l {k:LA} (h:cT Z H k n) {i j:Nat} {s b:PA} (ne:i≠j) (c:k.ps[i]?=some s) (a:k.ps[j]?=some b):s.l≠b.l:=
 K8 (aaK.mp h.n2).2 ne (by rw [aau,c];rfl) (by rw [aau,a];rfl)
theorem cT.setPs {k:LA} (h:cT Z H k n) {ps:List PA} {pg:List Pg} (hp:Pd (gQ Z H) ps pg) (ne:∀ s∈ps,s.l≠k.lp) (n1:(ps.map (·.p)).Nodup) (n2:(ps.map (·.l)).Nodup) (n3:(ps.flatMap (·.cs)).Nodup):cT Z (upd H k.lp (.lst (ps.map fun s=>V.ref s.p))) { k with ps:=ps } { n with pg:=pg }:=by
 obtain ⟨dx,e⟩:=h.ob;refine ⟨⟨dx,?_⟩,a_,Pd.mapM (fun s ms y r=>r.updL h.ls (ne s ms)) hp,n1,?_,n3⟩
 ·show upd H k.lp _ k.a=_;rw [b7 (fun z=>by have:=h.ls;rw [← z,e] at this;cases this)];exact e
 ·refine aaK.mpr ⟨fun m=>?_,n2⟩;obtain ⟨s,ms,z⟩:=aar.mp m;exact ne s ms z
theorem cT.pop {k:LA} {n:Ln} (h:cT Z H k n) (i:Nat):cT Z (upd H k.lp (.lst ((k.ps.eraseIdx i).map fun s=>V.ref s.p))) { k with ps:=k.ps.eraseIdx i } { n with pg:=n.pg.eraseIdx i }:=by have a:=ab7 k.ps i;refine h.setPs (h.pg.erase i) (fun s b=>?_) (h.n1.sublist (a.map _)) ((aaK.mp h.n2).2.sublist (a.map _)) (h.n3.sublist (qz a));obtain ⟨j,c⟩:=aaB.mp (a.subset b);exact h.ne_lp c
theorem cT.page (h:cT Z H k n) (i:gQ Z H s m) (e:s.cs=[]) (l:s.p∉k.ps.map (·.p)) (nl:s.l∉k.ls):cT Z (upd H k.lp (.lst ((k.ps++[s]).map fun s=>V.ref s.p))) { k with ps:=k.ps++[s] } { n with pg:=n.pg++[m] }:=by
 refine h.setPs (Pd.app (.cons i .nil) h.pg) (fun o d=>?_) ?_ ?_ ?_
 ·rcases aal.mp d with d|d
  ·obtain ⟨j,g⟩:=aaB.mp d;exact h.ne_lp g
  ·cases aai.mp d;exact fun z=>nl (by rw [z];exact aan ..)
 ·rw [aaF];exact abg.mpr ⟨h.n1,by simp,fun a f b c z=>by
   have c:b=s.p:=by simpa using c
   rw [z,c] at f;exact l f⟩
 ·rw [aaF];exact abg.mpr ⟨(aaK.mp h.n2).2,by simp,fun a f b c z=>by
   have c:b=s.l:=by simpa using c
   rw [z,c] at f;exact nl (aag _ f)⟩
 ·rw [aaR];have:[s].flatMap (·.cs)=[]:=by simp [e]
  rw [this,aaO];exact h.n3
theorem FT {d:Type} {z:d}:∀ {c:List d} {i:Nat},c.Nodup->z∉c->(c.set i z).Nodup
 |[],_,_,_=>by simp
 |a::r,0,b,nm=>aaK.mpr ⟨fun m=>nm (aag _ m),(aaK.mp b).2⟩
 | a::r,i+1,b,nm=>by
   obtain ⟨e,f⟩:=aaK.mp b;refine aaK.mpr ⟨fun m=>?_,FT f fun m=>nm (aag _ m)⟩;rcases ab8 m with m|m
   ·exact e m
   ·exact nm (by rw [m];exact aan ..)
theorem cT.setI {H:Hp} {k:LA} {n:Ln} (h:cT Z H k n) {d:Hp} {i:Nat} {s s':PA} {m':Pg} (f:k.ps[i]?=some s) (g:s'.p=s.p) (c:s'.l=s.l∨s'.l∉k.ls) (p:((k.ps.set i s').flatMap (·.cs)).Nodup) (q:gQ Z d s' m')
 (r:∀ o,H k.a=some o->d k.a=some o) (w:∀ o,H k.lp=some o->d k.lp=some o) (x:∀ j u v,j≠i->k.ps[j]?=some u->gQ Z H u v->gQ Z d u v):cT Z d { k with ps:=k.ps.set i s' } { n with pg:=n.pg.set i m' }:=by
 obtain ⟨l,e⟩:=h.ob;refine ⟨⟨l,r _ e⟩,?_,Pd.setM q i x h.pg,?_,?_,p⟩
 ·have:=w _ h.ls;show d k.lp=some (.lst ((k.ps.set i s').map fun s=>V.ref s.p));rw [iT (fun s:PA=>V.ref s.p) f (by rw [g])];exact this
 ·show ((k.ps.set i s').map (·.p)).Nodup;rw [iT (·.p) f g];exact h.n1
 ·show (k.lp::(k.ps.set i s').map (·.l)).Nodup;rcases c with c|c
  ·rw [iT (·.l) f c];exact h.n2
  ·obtain ⟨a,b⟩:=aaK.mp h.n2;have y:i<k.ps.length:=(aaG.mp f).1;refine aaK.mpr ⟨fun m=>?_,?_⟩
   ·rw [acx] at m;rcases ab8 m with m|m
    ·exact a m
    ·exact c (by rw [← m];exact aan ..)
   ·rw [acx];exact FT b (fun m=>c (aag _ m))
theorem Ij {k:LA} {ps:List PA} (h:ps.Sublist k.ps) (mc:c∈({ k with ps:=ps }:LA).own):c∈k.own:=by
 rcases aaf.mp mc with rfl|mc
 ·exact aan ..
 ·rcases aal.mp mc with mc|mc
  ·exact aag _ (aal.mpr (.inl ((h.map _).subset mc)))
  ·exact aag _ (aal.mpr (.inr ((qz h).subset mc)))
theorem uz (c:X.K=K) (d:PE X e b) (g:attributeBase e f X.env (eval e X.env)=eval e X.env):PE X (.Attribute e f a) (GZ K b f):=by subst c;exact cz d g
structure MD (K:Z2) (C:Z0) (m qual:Str) (st:Stmt) (ps:Zd) (f:Z0) (fd:Z3):Prop where
 M:Meth K C m f
 F:gj K m qual st f fd
 b:Binds K fd ps []
abbrev cM (j:Nat):Stmt:=inClass (top 56) j
abbrev gM (j:Nat):Stmt:=inClass (top 57) j
abbrev lM (j:Nat):Stmt:=inClass (top 58) j
structure LZ (K:Z2) (mg:Zc) (Z:LC):Prop where
 ok:Z.Ok
 kc:KCls K mg Z.k
 cc:sO K Z.c
 cmg:mg "Claim" = some (.ref Z.c)
 c1:dJ K Z.c "ticket"
 c2:dJ K Z.c "time"
 c3:dJ K Z.c "form"
 c4:dJ K Z.c "filled"
 c5:dJ K Z.c "given"
 pc:sO K Z.p
 pmg:mg "Page" = some (.ref Z.p)
 p1:dJ K Z.p "claims"
 p2:dJ K Z.p "used"
 p3:dJ K Z.p "gone"
 lc:sO K Z.l
 lmg:mg "Lane" = some (.ref Z.l)
 l1:dJ K Z.l "most"
 l2:dJ K Z.l "room"
 l3:dJ K Z.l "over"
 l4:dJ K Z.l "pages"
 l5:dJ K Z.l "held"
 l6:dJ K Z.l "told"
 l7:dJ K Z.l "last_time"
 l8:dJ K Z.l "tickets"
 l9:dJ K Z.l "given_in"
 l10:dJ K Z.l "thrown_back"
 l11:dJ K Z.l "lost"
 l12:dJ K Z.l "missed"
theorem eO (h:H x=none) (c:H a=none) (k:∀ b u,upd (upd H a (.own x)) x o b=some u->b≠x->f b=some u):cj H f:=fun b u e=>by have d:b≠x:=cg e h;have g:b≠a:=cg e c;exact k b u (by rw [b7 d,b7 g];exact e) d
def Jl (Z:LC):Sp:=fun vs H Q _=>∃ (o c:Z0),vs=[.ref o]/\H o=some (.ins Z.p c [])/\∀ l a,H l=none->a o=some (.ins Z.p c (Hg l ⟨[],0,0⟩))->a l=some (.lst [])->(∀ b u,H b=some u->b≠o->a b=some u)->Q .non a
theorem UJ:cA ["self"] ["self"] (bK (gM 0)):=by ext
theorem Fb (F:gj K "__init__" "Page.__init__" (gM 0) f m) (L:LZ K r Z):cD P w K r q dI 1 f m ["self"] (Jl Z):=by
 refine F.ok UJ (by ext) fun n A c s H vs Q E p h=>?_;obtain ⟨o,g,rfl,j,k⟩:=h;refine ⟨_,(b8 (cP (pv 0) (gD b_) rfl) (b8 (cP (pv 0) cu rfl) (c7 (cP (pv 0) cu rfl)))),?_⟩;refine ⟨(by ext),fun l d=>?_⟩;have a:o≠l:=cg j d;refine ⟨_,rfl,o,Z.p,g,[],rfl,(by rw [b7 a];exact j),L.pc,L.p1,(show 0<1000 by decide),?_⟩;refine ⟨_,rfl,o,Z.p,g,_,rfl,a_,L.pc,L.p2,(show 1<1000 by decide),?_⟩;refine ⟨_,rfl,o,Z.p,g,_,rfl,a_,L.pc,L.p3,(show 2<1000 by decide),?_⟩;refine k l _ d a_ ?_ ?_
 ·rw [b7 a.symm,b7 a.symm,b7 a.symm,a_]
 ·intro b u e i;rw [b7 i,b7 i,b7 i,b7 (cg e d)];exact e
noncomputable def oA (cs:List Cl):List Cl:=cs.filter fun c=>!c.gv
def Hr (Z:LC):Sp:=fun vs H Q _=>∃ (s:PA) (m:Pg),vs=[.ref s.p]/\gQ Z H s m/\s.cs.length≤1000/\∀ (l:Z0) (b:Zh) (a:Hp),cj H a->a l=some (.lst (b.map V.ref))->Pd (gJ Z a) b (oA m.cs)->b.Sublist s.cs->Q (.ref l) a
theorem Uy:cA ["self"] ["self"] (bK (gM 1)):=by ext
theorem Ie (C:d a=some (.lst (cs.map V.ref))) (z:Pd (gJ Z d) cs l) (D:cs.length≤1000) (f:Cl->Bool)
 (E:∀ c m,gJ Z d c m->∀ Q:Bool->Hp->Prop,Q (f m) d->y (some (.ref c)::σr) d Q) (G:∀ b,Pd (gJ Z d) b (l.filter f)->b.Sublist cs->F (b.map V.ref) d) :
 ∃ W:Nat->Nat->List V->St->Hp->Prop,(∃ m,W 0 m [] (none::σr) d)/\lY (Kf K a) (dM 0) y (kJ 0) F W:=by
 have A:=z.len;refine xR (K:=K) (a:=a) (xs:=cs.map V.ref) (fun i n o H=>H=d/\(∃ u,o=u::σr)/\∃ b,n=b.map V.ref/\Pd (gJ Z d) b ((l.take i).filter f)/\b.Sublist (cs.take i)) (by rw [aah];exact aaj D (by decide)) ⟨rfl,⟨none,rfl⟩,[],rfl,.nil,ab6 _⟩ (fun i n o H _ h=>by rw [h.1];exact dR.of C) ?_ ?_
 ·rintro i x n o H j ⟨rfl,⟨u,rfl⟩,b,rfl,e,g⟩ N v;rw [aau] at j;obtain ⟨c,s,rfl⟩:∃ c,cs[i]?=some c/\V.ref c=x:=by
   cases hj:cs[i]? with
   |none=>rw [hj] at j;cases j
   |some c=>rw [hj] at j;exact ⟨c,rfl,by simpa using j⟩
  obtain ⟨m,B,r⟩:=z.at s;dsimp only [dM,List.set];refine E c m r _ ?_;have p:cs.take (i+1)=cs.take i++[c]:=by rw [abf,s];rfl
  have q:l.take (i+1)=l.take i++[m]:=by rw [abf,B];rfl
  cases hf:f m with
  | true=>
    rw [aad rfl];refine ⟨_,rfl,v _ _ _ ⟨rfl,⟨_,rfl⟩,b++[c],by rw [aaF];rfl,?_,?_⟩ (by rw [aao];exact aae _)⟩
    ·rw [q,abq];have:[m].filter f=[m]:=by simp [hf]
     rw [this];exact Pd.app (.cons r .nil) e
    ·rw [p];exact g.append (ab6 _)
  | false=>
    rw [aac (by decide)];refine v _ _ _ ⟨rfl,⟨_,rfl⟩,b,rfl,?_,?_⟩ (by omega)
    ·rw [q,abq];have:[m].filter f=[]:=by simp [hf]
     rw [this,aaO];exact e
    ·rw [p];exact g.trans (List.sublist_append_left _ _)
 ·rintro n o H _ ⟨rfl,_,b,rfl,e,g⟩;rw [aah] at e g;rw [A,aaT] at e;rw [aaT] at g;exact G b e g
theorem K7 (F:gj K "unclosed" "Page.unclosed" (gM 1) f v) (L:LZ K O Z):cD P w K O M dI 1 f v ["self"] (Hr Z):=by
 refine F.ok Uy (by ext) fun x A d s H vs Q E I h=>?_;obtain ⟨s,m,rfl,b,l,k⟩:=h;obtain ⟨z,B⟩:=b.ob;refine ⟨_,(c7 (cI (iH (g:=dM 0) (own:=["claim"]) (js:=[]) (N':=["claim"]) (dq.of (osc:=bK (gM 1)) (N:=["self"]) rfl rfl (by ext)) rfl (gG (cz (pv 0) (by rfl))) (fun _ _ _ _ _=>(cF (i:=0) (show List.Nodup (["claim"]:Zd) by ext) rfl (.inl rfl) (.inr rfl))) (fun _ _ _ _ _=>vX (iZ (ik (uz (K:=K) rfl (pv 0) rfl)))) (fun _ _ _ _ _=>pv 0)))),?_⟩;refine ⟨_,rfl,s.p,Z.p,z,_,_,rfl,B,L.pc,L.p1,rfl,s.l,rfl,⟨_,dR.of b.ls⟩,?_⟩;refine Ie (σr:=[]) b.ls b.cs l (fun c=>!c.gv) ?_ ?_
 ·intro c m r J D;obtain ⟨C,kk,a,t,e,_⟩:=r.ex;exact ⟨_,rfl,c,Z.c,C,_,_,rfl,e,L.cc,L.c5,rfl,_,rfl,D⟩
 ·intro n G q;refine ⟨by rw [aah];exact aaj (aaj q.length_le l) (by decide),fun p y=>?_⟩;have j:=cj.new (o:=.lst (n.map V.ref)) y;exact k p n _ j a_ (G.map fun _ _ r=>r.same j) q
section
variable {P:Z4} {w:Z5} {K:Z2} {mg:Zc} {base:Z7} {Z:LC}
structure k_ (nm:Str) (fs:List jj):Prop where
 nm:Nm nm
 le:fs.length≤4
 ok:∀ f∈fs,oK f
 nd:(fs.map (·.1)).Nodup
def dZ (tk a:Int) (nm:Str) (fs:List jj):Cl:=⟨tk,a,nm,fs,fs.map (·.2.1),false⟩
def Ks (Z:LC):Sp:=fun vs H Q _=>∃ (o e kd a:Z0) (tk d:Int) (nm:Str) (fs:List jj),vs=[.ref o,.int tk,.int d,.ref kd]/\H o=some (.ins Z.c e [])/\eY Z.k H kd nm a fs/\k_ nm fs/\∀ c,gJ Z c o (dZ tk d nm fs)->(∀ b u,H b=some u->b≠o->c b=some u)->Q .non c
theorem V_:cA ["self","ticket","time","kind"] ["self","ticket","time","kind"] (bK (cM 0)):=by ext
theorem eY.keep (h:eY Z.k H k nm a j) (e:H o=some (.ins C n d)) (ne:Z.k≠C) (kp:∀ b u,H b=some u->b≠o->i b=some u):eY Z.k i k nm a j:=by
 obtain ⟨⟨dk,c⟩,l,g,m⟩:=h;refine ⟨⟨dk,kp _ _ c fun z=>?_⟩,l,kp _ _ g (iu g e (by intro z;cases z)),ig m fun b p f=>kp _ _ f (iu f e (by intro z;cases z))⟩;rw [z,e] at c;injection c with c
 injection c with c
 exact ne c.symm
theorem Sh (F:gj K "__init__" "Claim.__init__" (cM 0) f fd) (L:LZ K mg Z) (M:Mk K Z.k fI) (GI:cD P w K mg base dI 4 fI B ["self","name","fields"] (yH Z.k)) (bI:Binds K B ["self","name","fields"] []) (ML:MD K Z.k "lowest" "Kind.lowest" (kM 1) ["self"] fL C) (GL:cD P w K mg base dI 1 fL C ["self"] (wy Z.k)):cD P w K mg base dI 6 f fd ["self","ticket","time","kind"] (Ks Z):=by
 refine F.ok V_ (by ext) fun J A N s H vs Q E hr h=>?_;obtain ⟨o,c,kd,a,tk,l,nm,fs,rfl,ho,ka,v,k⟩:=h;have T:dm 1 (A.deeper (PyProof.Rows.envOfC "Claim.__init__" (bK (cM 0)) s.heap.objs.size f J)):=hr.mono (by decide);refine ⟨_,(b8 (cP (pv 0) (pv 1) rfl) (b8 (cP (pv 0) (pv 2) rfl) (b8 (cP (pv 0) (jE M GI hr rfl L.kc.mg bI .nil cZ (aK (cz (pv 3) rfl) (aK (cz (pv 3) rfl) b_))) rfl) (b8 (cP (pv 0) (du (pv 3) L.kc.cl ML.M GL T ML.b .nil cZ) rfl) (c7 (cP (pv 0) jf rfl)))))),?_⟩;have D:=L.ok.kc;refine ⟨_,rfl,_,rfl,o,Z.c,c,[],rfl,ho,L.cc,L.c1,(show 0<1000 by decide),?_⟩;refine ⟨_,rfl,_,rfl,o,Z.c,c,_,rfl,a_,L.cc,L.c2,(show 1<1000 by decide),?_⟩;generalize i:upd (upd H o (.ins Z.c c (d_ "ticket" (.int tk) []))) o (.ins Z.c c (d_ "time" (.int l) (d_ "ticket" (.int tk) [])))=y;have k2:∀ b u,H b=some u->b≠o->y b=some u:=fun b u e d=>by rw [← i,b7 d,b7 d];exact e
 have e2:y o=some (.ins Z.c c [("ticket",.int tk),("time",.int l)]):=by rw [← i,a_];rfl
 clear i;have q:=ka.keep ho D k2;obtain ⟨⟨dk,ek⟩,xs,et,pf⟩:=id q;refine ⟨_,rfl,kd,Z.k,dk,_,_,rfl,ek,L.kc.cl,L.kc.nN,zr nm a,_,rfl,kd,Z.k,dk,_,_,rfl,ek,L.kc.cl,L.kc.nF,jJ nm a,fun x g hx m O=>?_⟩;have s3:cj y (upd (upd y g (.own x)) x (.ins Z.k g [])):=(cj.new m).trans (cj.new (by rw [b7 O.symm];exact hx));refine ⟨x,g,a,nm,xs,fs,rfl,a_,v.nm,s3 _ _ et,ig pf (fun b ys e=>s3 _ _ e),v.le,v.ok,v.nd,fun R S k4=>⟨rfl,?_⟩⟩;have G:cj y R:=eO hx m k4;refine ⟨_,rfl,o,Z.c,c,_,rfl,G _ _ e2,L.cc,L.c3,(show 2<1000 by decide),?_⟩;generalize j:upd R o (.ins Z.c c (d_ "form" (.ref x) [("ticket",.int tk),("time",.int l)]))=I;have e4:=G _ _ e2;have U:∀ b u,R b=some u->b≠o->I b=some u:=fun b u e d=>by rw [← j,b7 d];exact e
 have W:I o=some (.ins Z.c c [("ticket",.int tk),("time",.int l),("form",.ref x)]):=by rw [← j,a_];rfl
 clear j;have X:eY Z.k I x nm a fs:=S.keep e4 D U;have r:eY Z.k I kd nm a fs:=(q.kt (cj.kt G)).keep e4 D U;obtain ⟨⟨aa,ab⟩,_⟩:=id r;refine ⟨_,rfl,kd,aa,_,rfl,ab,zO nm a (by ext) (by ext),kd,a,nm,fs,rfl,r,v.le,fun p H6 hp n=>?_⟩;refine ⟨_,rfl,o,Z.c,c,_,rfl,n _ _ W,L.cc,L.c4,(show 3<1000 by decide),?_⟩;refine ⟨_,rfl,o,Z.c,c,_,rfl,a_,L.cc,L.c5,(show 4<1000 by decide),?_⟩;have Y:p≠o:=iu hp (n _ _ W) (by intro z;cases z);have k7:∀ b u,H6 b=some u->b≠o->(upd (upd H6 o (.ins Z.c c (d_ "filled" (.ref p) [("ticket",.int tk),("time",.int l),("form",.ref x)]))) o (.ins Z.c c (d_ "given" (.bl false) (d_ "filled" (.ref p) [("ticket",.int tk),("time",.int l),("form",.ref x)])))) b=some u:=fun b u e d=>by rw [b7 d,b7 d];exact e
 refine k _ ⟨c,x,a,p,a_,(X.kt (cj.kt n)).keep (n _ _ W) D k7,?_⟩ ?_
 ·refine k7 _ _ (hp.trans ?_) Y;show some (HO.tup (fs.map fun f=>V.int f.2.1))=some (.tup ((fs.map (·.2.1)).map V.int));rw [abv];rfl
 ·exact fun b u e d=>k7 _ _ (n _ _ (U _ _ (G _ _ (k2 _ _ e d)) d)) d
end
noncomputable def lD (n:Ln):Nat:=if n.held then 1 else 0
def nO (i:Nat) (n:Ln):Ln:=match n.pg[i]?,n.pg[i+1]? with
 |some p,some q=>{ n with pg:=(n.pg.eraseIdx i).set i { q with go:=q.go+(p.go+p.cs.length) } }
 |_,_=>n
def qw (n:Ln):Ln:=nO (lD n) { n with los:=n.los+((n.pg[lD n]?.map (·.cs.length)).getD 0:Nat) }
theorem Fj {b c:Type} (f:b->c):∀ (a:List b) (i:Nat),(a.eraseIdx i).map f=(a.map f).eraseIdx i
 |[],_=>rfl
 |_::_,0=>rfl
 |x::r,i+1=>by rw [aco,aaE,aaE,aco,Fj f r i]
theorem Cv {b:Type}:∀ (a:List b) (i:Nat),(a.eraseIdx i)[i]?=a[i+1]?
 |[],_=>rfl
 |_::_,0=>by simp
 |x::r,i+1=>by rw [aco];simpa using Cv r i
def Oa (Z:LC):Sp:=fun vs H Q _=>∃ (k:LA) (n:Ln),vs=[.ref k.a]/\cT Z H k n/\Q (.int (lD n:Nat)) H
theorem WK:cA ["self"] ["self"] (bK (lM 3)):=by ext
theorem Jt (F:gj K "eldest" "Lane.eldest" (lM 3) f b) (L:LZ K l Z):cD P w K l j dI 1 f b ["self"] (Oa Z):=by
 refine F.ok WK (by ext) fun c A a s H vs Q E i h=>?_;obtain ⟨k,n,rfl,d,q⟩:=h;obtain ⟨g,e⟩:=d.ob;refine ⟨_,(c7 (cI (nA (ik (cz (pv 0) rfl)) cu cu))),?_⟩;refine ⟨_,rfl,k.a,Z.l,g,_,_,rfl,e,L.lc,L.l5,rfl,_,rfl,?_⟩;unfold lD at q;cases hh:n.held with
 |true=>rw [hh] at q;exact jz rfl q
 |false=>rw [hh] at q;exact iz rfl q
def LR (Z:LC):Sp:=fun vs H Q _=>∃ (k:LA) (n:Ln) (i:Nat),vs=[.ref k.a,.int (i:Nat)]/\cT Z H k n/\i+1<n.pg.length/\n.pg.length≤1000/\∀ b a,cT Z a b (nO i n)->Mv Z k H b a->Q .non a
theorem Lx:cA ["self","number","page","later"] ["self","number"] (bK (lM 5)):=by ext
theorem K9 (F:gj K "leave" "Lane.leave" (lM 5) f Y) (T:Txt K mg) (L:LZ K mg Z):cD P w K mg base dI 1 f Y ["self","number"] (LR Z):=by
 refine F.ok Lx (by ext) fun aa A B s H vs Q E hr h=>?_;obtain ⟨k,n,i,rfl,d,hi,hl,q⟩:=h;refine ⟨_,(b8 (cQ (i:=2) Lx.nd rfl (.inl rfl) (jM aa0 PySem.F.slot_list_pop PySem.F.type_list_pop Ey (cz (pv 0) rfl) (aK (pv 1) b_))) (b8 (cQ (i:=3) Lx.nd rfl (.inl rfl) (dY eV (cz (pv 0) rfl) (pv 1) (fun _ _=>rfl))) (c7 (jm (pv 3) (dN gn (cz (pv 2) rfl) (d9 dD (by rfl) T.len gF (aK (cz (pv 2) rfl) b_))) nY)))),?_⟩;obtain ⟨dx,e⟩:=d.ob;have pl:=d.pg.len;obtain ⟨r,m⟩:∃ s,k.ps[i]?=some s:=⟨_,aaL (by omega)⟩;obtain ⟨I,x⟩:∃ s,k.ps[i+1]?=some s:=⟨_,aaL (by omega)⟩;obtain ⟨z,J,S⟩:=d.pg.at m;obtain ⟨U,y,r1⟩:=d.pg.at x;have ex:(k.ps.map fun s=>V.ref s.p)[i]?=some (.ref r.p):=by rw [aau,m];rfl
 refine ⟨_,rfl,k.a,Z.l,dx,_,_,rfl,e,L.lc,L.l4,rfl,.inl ⟨rfl,_,dR.of d.ls⟩,_,rfl,k.lp,_,_,i,_,rfl,rfl,d.ls,by omega,by omega,?_,ex,?_⟩
 ·rw [aah];unfold seqIndex?;simp;omega
 rw [← Fj];have b:=d.pop i;have j:gQ Z (upd H k.lp (.lst ((k.ps.eraseIdx i).map fun s=>V.ref s.p))) r z:=S.updL d.ls (d.ne_lp m);have v:Mv Z k H { k with ps:=k.ps.eraseIdx i } (upd H k.lp (.lst ((k.ps.eraseIdx i).map fun s=>V.ref s.p))):=Mv.lst d.ls (aan ..) rfl (fun l C=>by
  rcases aaf.mp C with rfl|C
  ·exact .inl (aan ..)
  ·exact .inl (aag _ (((ab7 k.ps i).map _).subset C))) (fun c mc=>.inl (Ij (ab7 k.ps i) mc));generalize upd H k.lp (.lst ((k.ps.eraseIdx i).map fun s=>V.ref s.p))=H1 at b j v ⊢;have a:(k.ps.eraseIdx i)[i]?=some I:=by rw [Cv];exact x
 have g:(n.pg.eraseIdx i)[i]?=some U:=by rw [Cv];exact y
 obtain ⟨o,p,M⟩:=b.pg.at a;have:o=U:=by have:=p.symm.trans g;injection this
 subst this;obtain ⟨N,e1⟩:=b.ob;obtain ⟨O,R⟩:=M.ob;obtain ⟨W,X⟩:=j.ob;have D:((k.ps.eraseIdx i).map fun s=>V.ref s.p)[i]?=some (.ref I.p):=by rw [aau,a];rfl
 refine ⟨_,rfl,k.a,Z.l,N,_,_,rfl,e1,L.lc,L.l4,rfl,_,rfl,k.lp,_,_,_,rfl,rfl,dR.of b.ls,dO D,?_⟩;refine ⟨_,rfl,I.p,Z.p,O,_,_,rfl,R,L.pc,L.p3,rfl,?_⟩;refine ⟨_,rfl,r.p,Z.p,W,_,_,rfl,X,L.pc,L.p3,rfl,_,rfl,r.p,Z.p,W,_,_,rfl,X,L.pc,L.p1,rfl,r.l,_,rfl,.inl (dR.of j.ls),_,_,rfl,rfl,_,_,rfl,rfl,O,_,R,(show 3<1000 by decide),?_⟩;have G:=b.setP L.ok (dx':=O) a g (m':={ o with go:=o.go+(z.go+z.cs.length) }) rfl;have ec:(r.cs.map V.ref).length=z.cs.length:=by rw [aah];exact S.cs.len
 rw [ec];refine q { k with ps:=k.ps.eraseIdx i } _ ?_ (v.trans (Mv.ins R (.inr (.inl rfl)) (LA.p_own (k:={ k with ps:=k.ps.eraseIdx i }) a)));unfold nO;rw [J,y];exact G
def Rf (Z:LC):Sp:=fun vs H Q _=>∃ (k:LA) (n:Ln),vs=[.ref k.a]/\cT Z H k n/\lD n+1<n.pg.length/\n.pg.length≤1000/\∀ b a,cT Z a b (qw n)->Mv Z k H b a->Q .non a
theorem Vm:cA ["self"] ["self"] (bK (lM 4)):=by ext
theorem Td (F:gj K "lose_eldest" "Lane.lose_eldest" (lM 4) f I) (T:Txt K mg) (L:LZ K mg Z) (l:MD K Z.l "eldest" "Lane.eldest" (lM 3) ["self"] D i) (y:MD K Z.l "leave" "Lane.leave" (lM 5) ["self","number"] G j):cD P w K mg base dI 2 f I ["self"] (Rf Z):=by
 have z:cD P w K mg base dI 1 D i ["self"] (Oa Z):=Jt l.F L;have O:cD P w K mg base dI 1 G j ["self","number"] (LR Z):=K9 y.F T L;refine F.ok Vm (by ext) fun J A o s H vs Q E p h=>?_;obtain ⟨k,n,rfl,b,U,W,q⟩:=h;refine ⟨_,(b8 (jm (pv 0) (d9 dD (by rfl) T.len gF (aK (cz (dY eV (cz (pv 0) rfl) (du (pv 0) L.lc l.M z p l.b .nil cZ) (fun _ _=>rfl)) rfl) b_)) nY) (c7 (d8 (dg (pv 0) L.lc y.M O p y.b .nil cZ (aK (du (pv 0) L.lc l.M z p l.b .nil cZ) b_))))),?_⟩;obtain ⟨c,e⟩:=b.ob;have pl:=b.pg.len;obtain ⟨m,d⟩:∃ s,k.ps[lD n]?=some s:=⟨_,aaL (by omega)⟩;obtain ⟨B,v,x⟩:=b.pg.at d;obtain ⟨X,Y⟩:=x.ob;have R:(k.ps.map fun s=>V.ref s.p)[lD n]?=some (.ref m.p):=by rw [aau,d];rfl
 have S:(m.cs.map V.ref).length=B.cs.length:=by rw [aah];exact x.cs.len
 refine ⟨_,rfl,k.a,Z.l,c,_,_,rfl,e,L.lc,L.l11,rfl,_,rfl,k.a,Z.l,c,_,_,rfl,e,L.lc,L.l4,rfl,_,rfl,k.a,c,_,rfl,e,rfl,k,n,rfl,b,k.lp,_,_,_,rfl,rfl,dR.of b.ls,dO R,m.p,Z.p,X,_,_,rfl,Y,L.pc,L.p1,rfl,m.l,_,rfl,.inl (dR.of x.ls),_,_,rfl,rfl,c,_,e,(show 12<1000 by decide),?_⟩;rw [S];have a:=b.setL L.ok (dx':=c) e { n with los:=n.los+(B.cs.length:Int) } rfl;obtain ⟨g,C⟩:=a.ob;refine ⟨_,rfl,k.a,g,_,rfl,C,rfl,_,rfl,k.a,g,_,rfl,C,rfl,k,_,rfl,a,?_⟩;refine ⟨k,_,lD n,rfl,a,U,W,fun M N r mv=>q M N ?_ ((Mv.ins e (.inr (.inr rfl)) LA.a_own).trans mv)⟩;unfold qw;rw [v];exact r
def lG (n:Ln):Ln:={ n with pg:=n.pg++[⟨[],0,0⟩] }
noncomputable def zK (n:Ln):Int:=(n.pg[n.pg.length-1]?.map (·.us)).getD 0
noncomputable def V3 (n:Ln):List Cl:=(n.pg[lD n]?.map (·.cs)).getD []
def eQ (c:Int) (n:Ln):Bool×Ln:=
 if zK n+c≤n.room then (true,n)
 else if n.most≤(n.pg.length:Int)-lD n then
  if (!n.over || !(oA (V3 n)).isEmpty)=true then (false,n) else (true,lG (qw n))
 else (true,lG n)
def m5 (c:Cl) (a:Int) (n:Ln):Ln:=match n.pg[n.pg.length-1]? with
 |none=>n
 |some h=>{ n with pg:=n.pg.set (n.pg.length-1) { h with cs:=h.cs++[c],us:=h.us+a } }
noncomputable def j6 (nm:Str) (fs:List jj) (a:Int) (n:Ln):Option Int×Ln:=
 let b:Ln:={ n with last:=some a,tks:=n.tks+1 }
 let r:=eQ (1+(fs.length:Int)) b
 if r.1=true then (some r.2.tks,m5 (dZ r.2.tks a nm fs) (1+(fs.length:Int)) r.2) else (none,{ r.2 with mis:=r.2.mis+1 })
theorem Hz {a:List V} {x:V}:pL (a++[x]) (-1)=some x:=by unfold pL Jm;simp;rw [aad (by omega),show (-1+((a.length:Int)+1)).toNat=a.length by omega];show (a++[x])[a.length]?=_;rw [acl (by simp)];simp
theorem p6 {a:List V} (h:a[a.length-1]?=some y):pL a (-1)=some y:=by
 rcases List.eq_nil_or_concat a with rfl|⟨r,x,rfl⟩
 ·simp at h
 ·rw [List.concat_eq_append] at h ⊢;have e:(r++[x])[(r++[x]).length-1]?=some x:=by simp
  rw [e] at h;injection h with h
  subst h;exact Hz
theorem nT:∀ {b:List PA} {i:Nat} {s:PA} {c:Z0},b[i]?=some s->((b.set i { s with cs:=s.cs++[c] }).flatMap (·.cs)).Perm (c::b.flatMap (·.cs))
 |[],_,_,_,e=>by simp at e
 | a::r,0,s,c,e=>by simp at e;subst e;rw [ac0,aax,aax];show (a.cs++[c]++_).Perm _;rw [ac1];exact List.perm_middle
 | a::r,i+1,s,c,e=>by rw [acw,aax,aax];exact ((nT (i:=i) (by simpa using e)).append_left _).trans List.perm_middle
theorem cT.not_ls (h:cT Z H k n) (e:H b=some o) (a:∀ c,o≠.lst c):b∉k.ls:=by
 intro m;rcases aaf.mp m with rfl|m
 ·have:=h.ls;rw [e] at this;cases this;exact a _ rfl
 ·obtain ⟨s,d,rfl⟩:=aar.mp m;obtain ⟨i,f⟩:=aaB.mp d;obtain ⟨y,_,r⟩:=h.pg.at f;have:=r.ls;rw [e] at this;cases this;exact a _ rfl
theorem cT.has_ls (h:cT Z H k n) (m:b∈k.ls):∃ a,H b=some (.lst a):=by
 rcases aaf.mp m with rfl|m
 ·exact ⟨_,h.ls⟩
 ·obtain ⟨s,c,rfl⟩:=aar.mp m;obtain ⟨i,d⟩:=aaB.mp c;obtain ⟨y,_,r⟩:=h.pg.at d;exact ⟨_,r.ls⟩
theorem cT.has_p (h:cT Z H k n) (m:b∈k.ps.map (·.p)):∃ o,H b=some o:=by obtain ⟨s,a,rfl⟩:=aar.mp m;obtain ⟨i,c⟩:=aaB.mp a;obtain ⟨y,_,r⟩:=h.pg.at c;obtain ⟨d,e⟩:=r.ob;exact ⟨_,e⟩
theorem cT.has_c (h:cT Z H k n) (m:b∈k.cs):∃ o,H b=some o:=by obtain ⟨s,a,c⟩:=aaN.mp m;obtain ⟨i,d⟩:=aaB.mp a;obtain ⟨y,_,r⟩:=h.pg.at d;obtain ⟨j,f⟩:=aaB.mp c;obtain ⟨z,_,g⟩:=r.cs.at f;obtain ⟨l,fs,e⟩:=g.ins;exact ⟨_,e⟩
theorem eY.mv (c:Z.Ok) (h:eY Z.k H kd nm a g) (i:cT Z H k n) (m:Mv Z k H r d):eY Z.k d kd nm a g:=by have tk:TK H d:=fun b f e=>m.out b _ e (i.not_ls e (by intro _ z;cases z)) (by intro _ _ _ z;cases z);obtain ⟨⟨j,e⟩,f,l,o⟩:=h;exact ⟨⟨j,m.out _ _ e (i.not_ls e (by intro _ z;cases z)) (by intro C p q z;cases z;exact ⟨c.kc,c.kp,c.kl⟩)⟩,f,tk _ _ l,ig o tk⟩
theorem cT.grown (i:cT Z H k n) (g:cj H f) (r:H p=none) (v:H l=none) (x:f p=some (.ins Z.p j (Hg l ⟨[],0,0⟩))) (y:f l=some (.lst [])) :
 cT Z (upd f k.lp (.lst ((k.ps.map fun s=>V.ref s.p)++[.ref p]))) { k with ps:=k.ps++[⟨p,l,[]⟩] } (lG n)/\Mv Z k H { k with ps:=k.ps++[⟨p,l,[]⟩] } (upd f k.lp (.lst ((k.ps.map fun s=>V.ref s.p)++[.ref p]))):=by
 have d:=i.same g;have nl:l∉k.ls:=fun m=>by obtain ⟨A,e⟩:=i.has_ls m;rw [v] at e;cases e
 constructor
 ·have:=d.page (s:=⟨p,l,[]⟩) (m:=⟨[],0,0⟩) ⟨⟨j,x⟩,y,.nil⟩ rfl (fun m=>by obtain ⟨o,e⟩:=i.has_p m;rw [r] at e;cases e) nl;rw [aaF] at this;exact this
 ·refine ⟨fun c o e h _=>?_,fun b a=>?_,fun b e=>dh g (u6 d.ls e),rfl,rfl,fun c o e _ h=>?_,fun b a=>?_⟩
  ·rw [b7 (fun z=>h (by rw [z];exact aan ..))];exact g _ _ e
  ·rcases aaf.mp a with rfl|a
   ·exact .inl (aan ..)
   ·rw [show ({ k with ps:=k.ps++[⟨p,l,[]⟩] }:LA).ps=k.ps++[⟨p,l,[]⟩] from rfl,aaF] at a;rcases aal.mp a with a|a
    ·exact .inl (aag _ a)
    ·have:b=l:=by simpa using a
     rw [this];exact .inr v
  ·rw [b7 (fun z=>h (by rw [z];exact aan ..))];exact g _ _ e
  ·rcases aaf.mp a with rfl|a
   ·exact .inl (aan ..)
   ·rcases aal.mp a with a|a
    ·rw [show ({ k with ps:=k.ps++[⟨p,l,[]⟩] }:LA).ps=k.ps++[⟨p,l,[]⟩] from rfl,aaF] at a;rcases aal.mp a with a|a
     ·exact .inl (aag _ (aal.mpr (.inl a)))
     ·have:b=p:=by simpa using a
      rw [this];exact .inr r
    ·have a:b∈(k.ps++[(⟨p,l,[]⟩:PA)]).flatMap (fun q:PA=>q.cs):=a;rw [aaR] at a;rcases aal.mp a with a|a
     ·exact .inl (aag _ (aal.mpr (.inr a)))
     ·simp at a
def T6 (Z:LC):Sp:=fun vs H Q _=>∃ (k:LA) (n:Ln) (c:Int),vs=[.ref k.a,.int c]/\cT Z H k n/\n.pg≠[]/\2≤n.most/\n.pg.length≤900/\(∀ m∈n.pg,m.cs.length≤900)/\∀ b a,cT Z a b (eQ c n).2->Mv Z k H b a->Q (.bl (eQ c n).1) a
theorem V6:cA ["self","cells"] ["self","cells"] (bK (lM 2)):=by ext
theorem Ei (n:Ln):lD n≤1:=by unfold lD;cases n.held <;> decide
theorem CZ (n:Ln):(qw n).pg.length≤n.pg.length:=by
 unfold qw nO;dsimp only;split
 ·rw [List.length_set];exact (ab7 _ _).length_le
 ·exact aae _
theorem Ra (F:gj K "make_room" "Lane.make_room" (lM 2) f fd) (T:Txt K mg) (L:LZ K mg Z) (Y:MD K Z.l "eldest" "Lane.eldest" (lM 3) ["self"] fE U) (MU:MD K Z.p "unclosed" "Page.unclosed" (gM 1) ["self"] fU W) (MO:MD K Z.l "lose_eldest" "Lane.lose_eldest" (lM 4) ["self"] fO X) (GO:cD P w K mg base dI 2 fO X ["self"] (Rf Z)) (MkP:Mk K Z.p fI) (FI:gj K "__init__" "Page.__init__" (gM 0) fI o) (bI:Binds K o ["self"] []):cD P w K mg base dI 3 f fd ["self","cells"] (T6 Z):=by
 have GE:cD P w K mg base dI 1 fE U ["self"] (Oa Z):=Jt Y.F L;have GU:cD P w K mg base dI 1 fU W ["self"] (Hr Z):=K7 MU.F L;have GI:cD P w K mg base dI 1 fI o ["self"] (Jl Z):=Fb FI L;refine F.ok V6 (by ext) fun aa A ab s H vs Q E hr h=>?_;obtain ⟨k,n,c,rfl,a,ne,hm,hl,hc,q⟩:=h;have m:dm 1 (A.deeper (PyProof.Rows.envOfC "Lane.make_room" (bK (lM 2)) s.heap.objs.size f aa)):=hr.mono (by decide);refine ⟨_,(b8 (dW (dz kY (dN gn (cz (dY eV (cz (pv 0) rfl) (rO o7 cu) (fun _ _=>rfl)) rfl) (pv 1)) (cz (pv 0) rfl) (dw _)) (c7 (cI jf)) cV) (b8 (dW (dz vQ (dN xr (d9 dD (by rfl) T.len gF (aK (cz (pv 0) rfl) b_)) (du (pv 0) L.lc Y.M GE m Y.b .nil cZ)) (cz (pv 0) rfl) (dw _)) (b8 (dW (PW.pt (yU (iZ (ik (cz (pv 0) rfl))) (uL (Ea (du (dY eV (cz (pv 0) rfl) (du (pv 0) L.lc Y.M GE m Y.b .nil cZ) (fun _ _=>rfl)) L.pc MU.M GU m MU.b .nil cZ) (fun _=>rfl))))) (c7 (cI jf)) cV) (c7 (d8 (du (pv 0) L.lc MO.M GO hr MO.b .nil cZ)))) cV) (b8 (d8 (jM aa0 aa7 abe gY (cz (pv 0) rfl) (aK (qi MkP GI hr rfl L.pmg bI .nil cZ) b_))) (c7 (cI jf))))),?_⟩;obtain ⟨j,e⟩:=a.ob;have pl:=a.pg.len;have n0:0<n.pg.length:=acZ.mpr ne;obtain ⟨s0,G⟩:∃ s,k.ps[k.ps.length-1]?=some s:=⟨_,aaL (by omega)⟩;obtain ⟨m0,I,r0⟩:=a.pg.at G;rw [pl] at I;obtain ⟨d0,e0⟩:=r0.ob;have ex:(k.ps.map fun s=>V.ref s.p)[(k.ps.map fun s=>V.ref s.p).length-1]?=some (.ref s0.p):=by rw [aah,aau,G];rfl
 have hu:zK n=m0.us:=by unfold zK;rw [I];rfl
 refine ⟨_,rfl,k.a,Z.l,j,_,_,rfl,e,L.lc,L.l4,rfl,_,rfl,k.lp,_,_,_,rfl,rfl,dR.of a.ls,p6 ex,s0.p,Z.p,d0,_,_,rfl,e0,L.pc,L.p2,rfl,_,rfl,_,_,rfl,rfl,_,rfl,k.a,Z.l,j,_,_,rfl,e,L.lc,L.l2,rfl,_,_,rfl,rfl,_,rfl,?_⟩;by_cases S:m0.us+c≤n.room
 ·refine jz (by simpa using S) ?_;have d:eQ c n=(true,n):=by unfold eQ;rw [hu,aad S]
  rw [d] at q;exact q k H a Mv.refl
 refine iz (by simpa using S) ?_;have am:=Ei n
 try dsimp only [oh]
 refine nQ (fun v y=>v=[some (.ref k.a),some (.int c)]/\∃ D p,cT Z y D p/\Mv Z k H D y/\p.pg.length≤900/\eQ c n=(true,lG p)) ?nx fun N hN=>?st
 case st=>
  refine ⟨_,rfl,k.a,Z.l,j,_,_,rfl,e,L.lc,L.l4,rfl,k.lp,_,rfl,.inl (dR.of a.ls),_,rfl,k.a,j,_,rfl,e,rfl,k,n,rfl,a,_,_,rfl,rfl,_,rfl,k.a,Z.l,j,_,_,rfl,e,L.lc,L.l1,rfl,_,_,rfl,rfl,_,rfl,?_⟩;rw [aah,pl];by_cases h2:n.most≤(n.pg.length:Int)-lD n
  ·refine jz (by simpa using h2) ?_;have hi:lD n+1<n.pg.length:=by omega
   obtain ⟨s1,J⟩:∃ s,k.ps[lD n]?=some s:=⟨_,aaL (by omega)⟩;obtain ⟨M,O,r1⟩:=a.pg.at J;obtain ⟨d1,e1⟩:=r1.ob;have ah:(k.ps.map fun s=>V.ref s.p)[lD n]?=some (.ref s1.p):=by rw [aau,J];rfl
   have ec:V3 n=M.cs:=by unfold V3;rw [O];rfl
   have d:eQ c n=if (!n.over || !(oA M.cs).isEmpty)=true then (false,n) else (true,lG (qw n)):=by unfold eQ;rw [hu,aac S,aad h2,ec]
   refine ⟨_,rfl,k.a,Z.l,j,_,_,rfl,e,L.lc,L.l3,rfl,_,rfl,?_⟩;cases ho:n.over with
   | false=>rw [ho] at d;rw [d] at q;exact jz rfl (jz rfl (q k H a Mv.refl))
   | true=>
     rw [ho] at d;refine iz rfl ?_;refine ⟨_,rfl,k.a,Z.l,j,_,_,rfl,e,L.lc,L.l4,rfl,_,rfl,k.a,j,_,rfl,e,rfl,k,n,rfl,a,k.lp,_,_,_,rfl,rfl,dR.of a.ls,dO ah,s1.p,d1,_,rfl,e1,rfl,s1,M,rfl,r1,?_,fun l as H2 i ac pd sb=>?_⟩
     ·rw [r1.cs.len];exact aaj (hc M (aaq O)) (by decide)
     have al:=pd.len;refine ⟨_,.inl ⟨_,dR.of ac,rfl⟩,?_⟩;cases hop:oA M.cs with
     | cons x r=>
       rw [hop] at d al;have:(as.map V.ref).isEmpty=false:=by
        cases as with
        |nil=>cases al
        |cons _ _=>rfl
       rw [d] at q;refine jz (by rw [this];rfl) (q k H2 (a.same i) (Mv.same i))
     | nil=>
       rw [hop] at d al;have:(as.map V.ref).isEmpty=true:=by
        cases as with
        |nil=>rfl
        |cons _ _=>cases al
       refine iz (by rw [this];rfl) ?_;obtain ⟨aj,e2⟩:=(a.same i).ob;refine ⟨_,rfl,k.a,aj,_,rfl,e2,rfl,k,n,rfl,a.same i,hi,by omega,fun k' y ad mv=>hN _ _ ⟨rfl,k',_,ad,(Mv.same i).trans mv,aaj (CZ n) hl,d⟩⟩
  ·refine iz (by simpa using h2) (hN _ _ ⟨rfl,k,n,a,Mv.refl,hl,?_⟩);unfold eQ;rw [hu,aac S,aac h2]
 case nx=>
  rintro v H1 ⟨rfl,D,p,g,R,ap,d⟩;obtain ⟨ak,e1⟩:=g.ob;rw [R.a] at e1;rw [d] at q;refine ⟨_,rfl,k.a,Z.l,ak,_,_,rfl,e1,L.lc,L.l4,rfl,.inl ⟨rfl,_,dR.of g.ls⟩,fun x B hx ae af=>?_⟩;refine ⟨x,B,rfl,a_,fun l y b ag C kp=>⟨rfl,?_⟩⟩;have i:cj H1 y:=eO hx ae kp;have ai:H1 l=none:=by
   have p:l≠x:=fun z=>by rw [z,a_] at b;cases b
   have n2:l≠B:=fun z=>by rw [z,b7 af,a_] at b;cases b
   rw [b7 p,b7 n2] at b;exact b
  have ao:=g.pg.len;refine ⟨D.lp,_,_,rfl,rfl,i _ _ g.ls,by rw [aah];exact abt (show D.ps.length≤900 by omega) (by decide),?_⟩;obtain ⟨g1,g2⟩:=g.grown i hx ai ag C;exact q _ _ g1 (R.trans g2)
theorem cT.addC (G:Z.Ok) (a:cT Z H k n) (f:k.ps[i]?=some s) (D:n.pg[i]?=some m) (A:gJ Z H c x) (E:c∉k.cs) :
 cT Z (upd H s.l (.lst ((s.cs.map V.ref)++[.ref c]))) { k with ps:=k.ps.set i { s with cs:=s.cs++[c] } } { n with pg:=n.pg.set i { m with cs:=m.cs++[x] } }:=by
 obtain ⟨y,l,r⟩:=a.pg.at f;rw [D] at l;cases l;refine a.setI f rfl (.inl rfl) ?_ ?_ ?_ ?_ ?_
 ·refine (nT f).nodup_iff.mpr (aaK.mpr ⟨E,a.n3⟩)
 ·obtain ⟨p,e⟩:=r.ob;refine ⟨⟨p,?_⟩,?_,?_⟩
  ·show upd H s.l _ s.p=_;rw [b7 (iu e r.ls (by intro z;cases z))];exact e
  ·show upd H s.l _ s.l=some (.lst ((s.cs++[c]).map V.ref));rw [a_,aaF];rfl
  ·refine Pd.app (.cons (A.upd (Kt.lst r.ls) ?_) .nil) (Pd.mapM (fun b F y q=>q.upd (Kt.lst r.ls) ?_) r.cs)
   ·obtain ⟨g,h,d⟩:=A.ins;exact iu d r.ls (by intro z;cases z)
   ·obtain ⟨g,h,d⟩:=q.ins;exact iu d r.ls (by intro z;cases z)
 ·intro o e;obtain ⟨p,d⟩:=a.ob;rw [b7 (iu d r.ls (by intro z;cases z))];exact e
 ·intro o e;rw [b7 (a.ne_lp f).symm];exact e
 ·intro j u v B C q;exact q.updL r.ls (a.ne_l B C f)
def QZ (Z:LC):Sp:=fun vs H Q _=>∃ (k:LA) (n:Ln) (kd a:Z0) (nm:Str) (fs:List jj) (b:Int),vs=[.ref k.a,.ref kd,.int b]/\cT Z H k n/\eY Z.k H kd nm a fs/\k_ nm fs/\n.pg≠[]/\2≤n.most/\n.pg.length≤900/\(∀ m∈n.pg,m.cs.length≤900)/\(∀ t,n.last=some t->t≤b)/\
 ∀ d c,cT Z c d (j6 nm fs b n).2->Mv Z k H d c->Q (Te (j6 nm fs b n).1) c
theorem Sx:cA ["self","kind","time","head"] ["self","kind","time"] (bK (lM 1)):=by ext
theorem Ib (ne:n.pg≠[]) (b:∀ m∈n.pg,m.cs.length≤900):(eQ c n).2.pg≠[]/\∀ m∈(eQ c n).2.pg,m.cs.length≤900:=by
 have e:∀ d:Ln,(∀ m∈d.pg,m.cs.length≤900)->(lG d).pg≠[]/\∀ m∈(lG d).pg,m.cs.length≤900:=fun d h=>by
  refine ⟨by simp [lG],fun m a=>?_⟩;rcases aal.mp a with a|a
  ·exact h m a
  ·cases aai.mp a;exact aaA _
 unfold eQ;split
 ·exact ⟨ne,b⟩
 ·split
  ·split
   ·exact ⟨ne,b⟩
   ·refine e _ fun m a=>?_;unfold qw nO at a;dsimp only at a;split at a
    ·rename_i p q g f;rcases ab8 a with a|rfl
     ·exact b m ((ab7 _ _).subset a)
     ·exact (b q (aaq f):q.cs.length≤900)
    ·exact b m a
  ·exact e _ b
theorem S6 (F:gj K "claim" "Lane.claim" (lM 1) f fd) (T:Txt K mg) (L:LZ K mg Z) (MM:MD K Z.l "make_room" "Lane.make_room" (lM 2) ["self","cells"] fM fdM) (GM:cD P w K mg base dI 3 fM fdM ["self","cells"] (T6 Z)) (MC:MD K Z.k "cells" "Kind.cells" (kM 2) ["self"] fC fdC) (MkC:Mk K Z.c fI) (GI:cD P w K mg base dI 6 fI fdI ["self","ticket","time","kind"] (Ks Z)) (bI:Binds K fdI ["self","ticket","time","kind"] []):cD P w K mg base dI 8 f fd ["self","kind","time"] (QZ Z):=by
 have GC:cD P w K mg base dI 1 fC fdC ["self"] (zE Z.k):=Cq MC.F T L.kc;refine F.ok Sx (by ext) fun ab A am s H vs Q E hr h=>?_;obtain ⟨k,n,kd,a,nm,fs,C,rfl,ln,ka,ko,ne,hm,hl,hc,ht,q⟩:=h;have ad:dm 1 (A.deeper (PyProof.Rows.envOfC "Lane.claim" (bK (lM 1)) s.heap.objs.size f ab)):=hr.mono (by decide);have aq:dm 3 (A.deeper (PyProof.Rows.envOfC "Lane.claim" (bK (lM 1)) s.heap.objs.size f ab)):=hr.mono (by decide);refine ⟨_,(b8 (dW (PW.pt (yz (dz zu (cz (pv 0) rfl) j9 (dw _)) (uF (dz Ju (pv 2) (cz (pv 0) rfl) (dw _))))) (c7 dC) cV) (b8 (cP (pv 0) (pv 2) rfl) (b8 (jm (pv 0) cu nY) (b8 (dW (iZ (ik (dg (pv 0) L.lc MM.M GM aq MM.b .nil cZ (aK (du (pv 1) L.kc.cl MC.M GC ad MC.b .nil cZ) b_)))) (b8 (jm (pv 0) cu nY) (c7 (cI j9))) cV) (b8 (cQ (i:=3) Sx.nd rfl (.inl rfl) (dY eV (cz (pv 0) rfl) (rO o7 cu) (fun _ _=>rfl))) (b8 (jm (pv 3) (du (pv 1) L.kc.cl MC.M GC ad MC.b .nil cZ) nY) (b8 (d8 (jM aa0 aa7 abe gY (cz (pv 3) rfl) (aK (jE MkC GI hr rfl L.cmg bI .nil cZ (aK (cz (pv 0) rfl) (aK (pv 2) (aK (pv 1) b_)))) b_))) (c7 (cI (cz (pv 0) rfl)))))))))),?_⟩;obtain ⟨dx,e⟩:=ln.ob;have t1:∀ (Q':Bool->Hp->Prop),Q' false H->(Qw (sS (Ov (fun x y H Q=>y=.non/\Q (.bl (!decide (x=.non))) H) (GZ K (kJ 0) "last_time") (tC .non))) (sS (Ov (Gk fun i j=>.bl (decide (i<j))) (kJ 2) (GZ K (kJ 0) "last_time")))) [some (.ref k.a),some (.ref kd),some (.int C),none] H Q':=by
  intro Q' q';refine ⟨_,rfl,k.a,Z.l,dx,_,_,rfl,e,L.lc,L.l7,rfl,rfl,_,rfl,?_⟩;cases hla:n.last with
  |none=>exact iz rfl q'
  | some t=>have:=ht t hla;refine jz rfl ⟨_,rfl,_,rfl,k.a,Z.l,dx,_,_,rfl,e,L.lc,L.l7,rfl,_,_,rfl,(by rw [hla];rfl),_,rfl,?_⟩;have hd:decide (C<t)=false:=aaY (by omega);rw [hd];exact q'
 refine t1 _ (iz rfl ?_)
 try dsimp only [oh]
 refine ⟨_,rfl,_,rfl,k.a,Z.l,dx,_,rfl,e,L.lc,L.l7,(show 12<1000 by decide),?_⟩;have U:cT Z (upd H k.a (.ins Z.l dx (d_ "last_time" (.int C) (wI k.lp n)))) k { n with last:=some C }:=ln.setL L.ok (dx':=dx) e { n with last:=some C } rfl;have ae:Mv Z k H k (upd H k.a (.ins Z.l dx (d_ "last_time" (.int C) (wI k.lp n)))):=Mv.ins e (.inr (.inr rfl)) LA.a_own;generalize upd H k.a (.ins Z.l dx (d_ "last_time" (.int C) (wI k.lp n)))=H1 at U ae ⊢;obtain ⟨J,e1⟩:=U.ob;refine ⟨_,rfl,k.a,Z.l,J,_,_,rfl,e1,L.lc,L.l8,rfl,_,_,rfl,rfl,J,_,e1,(show 12<1000 by decide),?_⟩;have O:cT Z (upd H1 k.a (.ins Z.l J (d_ "tickets" (.int (n.tks+1)) (wI k.lp { n with last:=some C })))) k { n with last:=some C,tks:=n.tks+1 }:=U.setL L.ok (dx':=J) e1 { n with last:=some C,tks:=n.tks+1 } rfl;have W:=ae.trans (Mv.ins (o:=.ins Z.l J (d_ "tickets" (.int (n.tks+1)) (wI k.lp { n with last:=some C }))) e1 (.inr (.inr rfl)) LA.a_own);generalize upd H1 k.a (.ins Z.l J (d_ "tickets" (.int (n.tks+1)) (wI k.lp { n with last:=some C })))=H2 at O W ⊢;generalize aa:({ n with last:=some C,tks:=n.tks+1 }:Ln)=D at O;obtain ⟨ax,e2⟩:=O.ob;have X:=ka.mv L.ok ln W;obtain ⟨⟨dk,ek⟩,_⟩:=id X;refine ⟨_,rfl,k.a,ax,_,rfl,e2,rfl,_,rfl,kd,dk,_,rfl,ek,zO nm a (by ext) (by ext),kd,a,nm,fs,rfl,X,?_⟩;have p1:D.pg=n.pg:=by rw [← aa]
 refine ⟨k,D,_,rfl,O,(by rw [p1];exact ne),(by rw [← aa];exact hm),(by rw [p1];exact hl),(by rw [p1];exact hc),fun p H3 z B=>⟨_,rfl,?_⟩⟩;have q':∀ k' H',cT Z H' k' (if (eQ (1+(fs.length:Int)) D).1=true then (some (eQ (1+(fs.length:Int)) D).2.tks,m5 (dZ (eQ (1+(fs.length:Int)) D).2.tks C nm fs) (1+(fs.length:Int)) (eQ (1+(fs.length:Int)) D).2) else (none,{ (eQ (1+(fs.length:Int)) D).2 with mis:=(eQ (1+(fs.length:Int)) D).2.mis+1 })).2->Mv Z k H k' H'->Q (Te (if (eQ (1+(fs.length:Int)) D).1=true then (some (eQ (1+(fs.length:Int)) D).2.tks,m5 (dZ (eQ (1+(fs.length:Int)) D).2.tks C nm fs) (1+(fs.length:Int)) (eQ (1+(fs.length:Int)) D).2) else (none,{ (eQ (1+(fs.length:Int)) D).2 with mis:=(eQ (1+(fs.length:Int)) D).2.mis+1 })).1) H':=by unfold j6 at q;rw [aa] at q;exact q
 clear q;have rn:=Ib (c:=1+(fs.length:Int)) (n:=D) (by rw [p1];exact ne) (by rw [p1];exact hc);have S:=W.trans B;have Y:=X.mv L.ok O B;generalize eQ (1+(fs.length:Int)) D=rm at z rn q' ⊢;obtain ⟨b,g⟩:=rm;obtain ⟨M,e3⟩:=z.ob;rw [B.a] at e3;cases b with
 | false=>
   refine jz rfl ?_;refine ⟨_,rfl,k.a,Z.l,M,_,_,rfl,e3,L.lc,L.l12,rfl,_,_,rfl,rfl,M,_,e3,(show 12<1000 by decide),?_⟩;have ar:H3 p.a=some (.ins Z.l M (wI p.lp g)):=by rw [B.a];exact e3
   have I:cT Z (upd H3 k.a (.ins Z.l M (d_ "missed" (.int (g.mis+1)) (wI p.lp g)))) p { g with mis:=g.mis+1 }:=by have:=z.setL L.ok (dx':=M) ar { g with mis:=g.mis+1 } rfl;rw [B.a] at this;exact this
   exact q' p _ I (S.trans (Mv.ins e3 (.inr (.inr rfl)) (by rw [← B.a];exact LA.a_own)))
 | true=>
   refine iz rfl ?_
   try dsimp only [oh]
   have pl:p.ps.length=g.pg.length:=z.pg.len;have n0:0<g.pg.length:=acZ.mpr rn.1;obtain ⟨d,r⟩:∃ s,p.ps[p.ps.length-1]?=some s:=⟨_,aaL (by omega)⟩;obtain ⟨v,R,r0⟩:=z.pg.at r;rw [pl] at R r;obtain ⟨d0,e0⟩:=r0.ob;have ex:(p.ps.map fun s=>V.ref s.p)[(p.ps.map fun s=>V.ref s.p).length-1]?=some (.ref d.p):=by rw [aah,aau,pl,r];rfl
   refine ⟨_,rfl,k.a,Z.l,M,_,_,rfl,e3,L.lc,L.l4,rfl,_,rfl,p.lp,_,_,_,rfl,rfl,dR.of z.ls,p6 ex,?_⟩;obtain ⟨⟨ay,az⟩,_⟩:=id Y;refine ⟨_,rfl,d.p,Z.p,d0,_,_,rfl,e0,L.pc,L.p2,rfl,_,rfl,kd,ay,_,rfl,az,zO nm a (by ext) (by ext),kd,a,nm,fs,rfl,Y,_,_,rfl,rfl,d0,_,e0,(show 3<1000 by decide),?_⟩;have I:cT Z (upd H3 d.p (.ins Z.p d0 (d_ "used" (.int (v.us+(1+(fs.length:Int)))) (Hg d.l v)))) p { g with pg:=g.pg.set (g.pg.length-1) { v with us:=v.us+(1+(fs.length:Int)) } }:=z.setP L.ok (dx':=d0) r R (m':={ v with us:=v.us+(1+(fs.length:Int)) }) rfl;have af:=S.trans (Mv.ins (o:=.ins Z.p d0 (d_ "used" (.int (v.us+(1+(fs.length:Int)))) (Hg d.l v))) e0 (.inr (.inl rfl)) (LA.p_own r));have ag:=Y.mv L.ok z (Mv.ins (k:=p) (o:=.ins Z.p d0 (d_ "used" (.int (v.us+(1+(fs.length:Int)))) (Hg d.l v))) e0 (.inr (.inl rfl)) (LA.p_own r));generalize upd H3 d.p (.ins Z.p d0 (d_ "used" (.int (v.us+(1+(fs.length:Int)))) (Hg d.l v)))=H4 at I af ag ⊢;have ah:({ g with pg:=g.pg.set (g.pg.length-1) { v with us:=v.us+(1+(fs.length:Int)) } }:Ln).pg[g.pg.length-1]?=some { v with us:=v.us+(1+(fs.length:Int)) }:=by show (g.pg.set (g.pg.length-1) _)[g.pg.length-1]?=_;rw [abP (by omega)]
   obtain ⟨m4,ak,r4⟩:=I.pg.at r;obtain rfl:m4={ v with us:=v.us+(1+(fs.length:Int)) }:=by have:=ak.symm.trans ah;injection this
   obtain ⟨d4,e4⟩:=r4.ob;obtain ⟨aA,al⟩:=I.ob;rw [B.a] at al;refine ⟨_,rfl,d.p,Z.p,d4,_,_,rfl,e4,L.pc,L.p1,rfl,.inl ⟨rfl,_,dR.of r4.ls⟩,_,rfl,k.a,Z.l,aA,_,_,rfl,al,L.lc,L.l8,rfl,_,rfl,_,rfl,fun x G hx ac ao=>?_⟩;have s5:cj H4 (upd (upd H4 G (.own x)) x (.ins Z.c G [])):=(cj.new ac).trans (cj.new (by rw [b7 ao.symm];exact hx));refine ⟨x,G,kd,a,_,C,nm,fs,rfl,a_,ag.kt (cj.kt s5),ko,fun H6 ap k6=>⟨rfl,?_⟩⟩;have s6:cj H4 H6:=eO hx ac k6;have au:=I.same s6;have nc:x∉p.cs:=fun m=>by obtain ⟨o,eo⟩:=I.has_c m;rw [hx] at eo;cases eo
   have c9:d.cs.length≤900:=by rw [r0.cs.len];exact rn.2 v (aaq R)
   refine ⟨d.l,_,_,rfl,rfl,s6 _ _ r4.ls,by rw [aah];exact abt c9 (by decide),?_⟩;have ai:=au.addC L.ok r ah ap nc;have av:d.l∈p.ls:=aag _ (aar.mpr ⟨d,aaq r,rfl⟩);have aw:=af.trans (Mv.lstN (Z:=Z) (k':={ p with ps:=p.ps.set (g.pg.length-1) { d with cs:=d.cs++[x] } }) (o:=.lst ((d.cs.map V.ref)++[.ref x])) s6 (s6 _ _ r4.ls) av rfl (fun l ml=>.inl (by
    rcases aaf.mp ml with rfl|ml
    ·exact aan ..
    ·rw [show ({ p with ps:=p.ps.set (g.pg.length-1) { d with cs:=d.cs++[x] } }:LA).ps=p.ps.set (g.pg.length-1) { d with cs:=d.cs++[x] } from rfl,iT (fun x:PA=>x.l) (s':={ d with cs:=d.cs++[x] }) r rfl] at ml;exact aag _ ml)) (fun b N=>by
    rcases aaf.mp N with rfl|N
    ·exact .inl (aan ..)
    ·rcases aal.mp N with N|N
     ·rw [show ({ p with ps:=p.ps.set (g.pg.length-1) { d with cs:=d.cs++[x] } }:LA).ps=p.ps.set (g.pg.length-1) { d with cs:=d.cs++[x] } from rfl,iT (fun x:PA=>x.p) (s':={ d with cs:=d.cs++[x] }) r rfl] at N;exact .inl (aag _ (aal.mpr (.inl N)))
     ·have N:b∈(p.ps.set (g.pg.length-1) { d with cs:=d.cs++[x] }).flatMap (·.cs):=N;rcases aaf.mp ((nT r).subset N) with rfl|N
      ·exact .inr hx
      ·exact .inl (aag _ (aal.mpr (.inr N)))));obtain ⟨aB,e7⟩:=ai.ob;have aj:_:=e7;rw [show ({ p with ps:=p.ps.set (g.pg.length-1) { d with cs:=d.cs++[x] } }:LA).a=k.a from B.a] at aj;refine ⟨_,rfl,k.a,Z.l,aB,_,_,rfl,aj,L.lc,L.l8,rfl,?_⟩;refine q' { p with ps:=p.ps.set (g.pg.length-1) { d with cs:=d.cs++[x] } } _ ?_ aw;show cT Z _ _ (m5 (dZ g.tks C nm fs) (1+(fs.length:Int)) g);unfold m5;rw [R];have:=ai;dsimp only at this;rw [List.set_set] at this;exact this
noncomputable def wait (n:Ln):List Cl:=n.pg.flatMap fun p=>oA p.cs
theorem iI {b:Type} {a:List b} {i:Nat} {x:b} (h:a[i]?=some x):a.take (i+1)=a.take i++[x]:=by rw [abf,h];rfl
theorem Bh {b:List PA} {s:PA} (m:s∈b):s.cs.length≤(b.flatMap (·.cs)).length:=by
 induction b with
 |nil=>cases m
 | cons a r c=>
   rw [aax,aao];rcases aaf.mp m with rfl|m
   ·omega
   ·have:=c m;omega
theorem lu {b:Type} {f:b->V} {a:List b} {i:Nat} {v:V} (h:(a.map f)[i]?=some v):∃ x,a[i]?=some x/\f x=v:=by
 rw [aau] at h;cases hj:a[i]? with
 |none=>rw [hj] at h;cases h
 |some x=>rw [hj] at h;exact ⟨x,rfl,by simpa using h⟩
def Hd (Z:LC):Sp:=fun vs H Q _=>∃ (k:LA) (n:Ln),vs=[.ref k.a]/\cT Z H k n/\k.cs.length≤900/\n.pg.length≤900/\∀ (l:Z0) (b:Zh) (a:Hp),cj H a->a l=some (.lst (b.map V.ref))->Pd (gJ Z a) b (wait n)->b.Sublist k.cs->Q (.ref l) a
theorem WR:cA ["self"] ["self"] (bK (lM 6)):=by ext
theorem Rw {Z:LC} {f fU:Z0} {fd R:Z3} (F:gj K "waiting" "Lane.waiting" (lM 6) f fd) (L:LZ K mg Z) (MU:MD K Z.p "unclosed" "Page.unclosed" (gM 1) ["self"] fU R):cD P w K mg base dI 2 f fd ["self"] (Hd Z):=by
 have GU:cD P w K mg base dI 1 fU R ["self"] (Hr Z):=K7 MU.F L;refine F.ok WR (by ext) fun ad A U s H vs Q E hr h=>?_;obtain ⟨k,n,rfl,I,hc,hl,q⟩:=h;refine ⟨_,(c7 (cI (vp (g:=dM 0) (g2:=dM 1) (tt:=nM) (tt2:=nM) (te:=kJ 1) (wi2:=zP K (vW Z.p "unclosed" (Hr Z) [] E0 (kJ 0) qX)) (own:=["page","claim"]) (js:=[]) (N':=["page","claim"]) (dq.of (osc:=bK (lM 6)) (N:=["self"]) rfl rfl (by ext)) rfl (gG (cz (pv 0) rfl)) (fun _ _ _ _ _=>(cF (i:=0) (show List.Nodup (["page","claim"]:Zd) by ext) rfl (.inl rfl) (.inr rfl))) (fun _ _ _ _ _=>eX) (fun _ _ _ _ _=>vI rfl (du (E:=E0) (pv 0) L.pc MU.M GU hr MU.b .nil cZ)) (fun _ _=>rfl) (fun _ _ _ _ _=>(cF (i:=1) (show List.Nodup (["page","claim"]:Zd) by ext) rfl (.inl rfl) (.inr rfl))) (fun _ _ _ _ _=>eX) (fun _ _ _ _ _=>pv 1)))),?_⟩;obtain ⟨dx,e⟩:=I.ob;have pl:=I.pg.len;refine ⟨_,rfl,k.a,Z.l,dx,_,_,rfl,e,L.lc,L.l4,rfl,k.lp,rfl,⟨_,dR.of I.ls⟩,?_⟩;refine ⟨fun i m ys σ W=>m=k.ps.length-i/\i≤k.ps.length/\cj H W/\(∃ u v,σ=[u,v])/\∃ b,ys=b.map V.ref/\Pd (gJ Z W) b ((n.pg.take i).flatMap fun p=>oA p.cs)/\b.Sublist ((k.ps.take i).flatMap (·.cs)),⟨k.ps.length,by simp,aaA _,cj.refl _,⟨none,none,rfl⟩,[],rfl,.nil,ab6 _⟩,?_⟩;rintro i m ys σ H1 ⟨rfl,hi,T,⟨u,v,rfl⟩,b,rfl,pd,J⟩;have z:=T _ _ I.ls;by_cases M:i<k.ps.length
 ·have Y:i<(k.ps.map fun s=>V.ref s.p).length:=by rw [aah];exact M
  refine .inr ⟨⟨_,(k.ps.map fun s=>V.ref s.p)[i],dR.of z,aaL Y⟩,fun x W y=>?_⟩;obtain ⟨rfl,y⟩:=y;obtain ⟨S,d,rfl⟩:=lu (y _ (dR.of z));obtain ⟨m0,ab,r0⟩:=(I.same T).pg.at d;obtain ⟨d0,e0⟩:=r0.ob;dsimp only [dM,nM,List.set];rw [aad rfl];have c9:S.cs.length≤900:=aaj (Bh (aaq d)) hc;refine ⟨_,rfl,S.p,d0,_,rfl,e0,rfl,S,m0,rfl,r0,by omega,fun l bs H2 B a X C=>?_⟩;have S2:=T.trans B;have all:((k.ps.take (i+1)).flatMap (·.cs)).Sublist k.cs:=qz (acM _ _);have al:(b++bs).length≤900:=by refine aaj (List.Sublist.length_le (l₂:=k.cs) (List.Sublist.trans ?_ all)) hc;rw [iI d,aaR];refine J.append ?_;simpa using C
  rw [aao] at al;have big:1000≤sizeLine:=by decide
  refine ⟨l,rfl,⟨_,dR.of a⟩,fun j m D G H3=>m=bs.length-j/\j≤bs.length/\H3=H2/\(∃ v,G=[some (.ref S.p),v])/\D=(b++bs.take j).map V.ref,⟨bs.length,by simp,aaA _,rfl,⟨_,rfl⟩,by simp⟩,?_⟩;rintro j m D G H3 ⟨rfl,hj,rfl,⟨v',rfl⟩,rfl⟩;by_cases O:j<bs.length
  ·have aa:j<(bs.map V.ref).length:=by rw [aah];exact O
   refine .inr ⟨⟨_,(bs.map V.ref)[j],dR.of a,aaL aa⟩,?_,fun x H4 y=>?_⟩
   ·rw [aah,aao,abi];omega
   ·obtain ⟨rfl,y⟩:=y;obtain ⟨c,ac,rfl⟩:=lu (y _ (dR.of a));dsimp only [dM,nM,List.set];rw [aad rfl];refine ⟨_,rfl,_,(by omega),rfl,O,rfl,⟨_,rfl⟩,?_⟩;rw [iI ac];simp
  ·have ej:j=bs.length:=by omega
   subst ej;refine .inl ⟨⟨_,dR.of a,by rw [aah];exact aae _⟩,k.ps.length-(i+1),by omega,rfl,M,S2,⟨_,_,rfl⟩,b++bs,by rw [aaT],?_,?_⟩
   ·rw [iI ab,aaR];refine Pd.app ?_ (pd.map fun _ _ r=>r.same B);simpa using X
   ·rw [iI d,aaR];refine J.append ?_;simpa using C
 ·have ei:i=k.ps.length:=by omega
  subst ei;rw [pl,aaT] at pd;rw [aaT] at J;have al:=J.length_le;refine .inl ⟨⟨_,dR.of z,by rw [aah];exact aae _⟩,by rw [aah];exact aaj (aaj al hc) (by decide),fun p hp=>?_⟩;have B:=cj.new (o:=.lst (b.map V.ref)) hp;exact q p b _ (T.trans B) a_ (pd.map fun _ _ r=>r.same B) J
def Rm (Z:LC):Sp:=fun vs H Q _=>∃ (k:LA) (n:Ln),vs=[.ref k.a]/\cT Z H k n/\k.cs.length≤900/\n.pg.length≤900/\∀ (l:Z0) (a:Hp),cj H a->H l=none->a l=some (.lst ((wait n).map fun c=>V.int c.tk))->Q (.ref l) a
theorem Vl:cA ["self"] ["self"] (bK (lM 16)):=by ext
theorem Sv {Z:LC} {f S:Z0} {T o:Z3} (F:gj K "pending" "Lane.pending" (lM 16) f T) (L:LZ K mg Z) (U:MD K Z.l "waiting" "Lane.waiting" (lM 6) ["self"] S o) (GW:cD P w K mg base dI 2 S o ["self"] (Hd Z)):cD P w K mg base dI 3 f T ["self"] (Rm Z):=by
 refine F.ok Vl (by ext) fun W A B s H vs Q E X h=>?_;obtain ⟨k,n,rfl,M,O,hl,q⟩:=h;refine ⟨_,(c7 (cI (iH (g:=dM 0) (own:=["claim"]) (js:=[]) (N':=["claim"]) (dq.of (osc:=bK (lM 16)) (N:=["self"]) rfl rfl (by ext)) rfl (gG (du (pv 0) L.lc U.M GW X U.b .nil cZ)) (fun _ _ _ _ _=>(cF (i:=0) (show List.Nodup (["claim"]:Zd) by ext) rfl (.inl rfl) (.inr rfl))) (fun _ _ _ _ _=>eX) (fun _ _ _ _ _=>uz (K:=K) rfl (pv 0) rfl)))),?_⟩;obtain ⟨dx,e⟩:=M.ob;refine ⟨_,rfl,k.a,dx,_,rfl,e,rfl,k,n,rfl,M,O,hl,fun l D Y G d I sb=>?_⟩;have al:=sb.length_le;have wl:=I.len;refine ⟨l,rfl,⟨_,dR.of d⟩,?_⟩;refine lO (K:=K) (a:=l) (xs:=D.map V.ref) (fun j p b y=>y=Y/\(∃ v,b=[v])/\p=((wait n).take j).map fun c=>V.int c.tk) (by rw [aah];exact aaj (aaj al O) (by decide)) ⟨rfl,⟨none,rfl⟩,rfl⟩ (fun j p σ y _ z=>by rw [z.1];exact dR.of d) ?_ ?_
 ·rintro j x p b y hj R ⟨rfl,⟨v,rfl⟩,rfl⟩ N hN;obtain ⟨c,C,rfl⟩:=lu hj;obtain ⟨m,hm,r⟩:=I.at C;obtain ⟨dc,kk,a,t,ec,_⟩:=r.ex;refine ⟨_,rfl,c,Z.c,dc,_,_,rfl,ec,L.cc,L.c1,rfl,hN _ _ _ (by rw [aao,R];rfl) ⟨rfl,⟨_,rfl⟩,?_⟩⟩;rw [iI hm,aaF];rfl
 ·rintro p b y R ⟨rfl,⟨v,rfl⟩,rfl⟩;rw [show (D.map V.ref).length=(wait n).length by rw [aah];exact wl,aaT];refine ⟨by rw [aah];exact aaj (show (wait n).length≤900 by omega) (by decide),fun a J=>q a _ (G.trans (cj.new J)) (dh G J) a_⟩
def Hf (Z:LC):Sp:=fun vs H Q _=>∃ (k:LA) (n:Ln) (tk:Int),vs=[.ref k.a,.int tk]/\cT Z H k n/\k.cs.length≤900/\n.pg.length≤900/\(∃ m∈wait n,m.tk=tk)/\∀ (c:Z0) (m:Cl) (a:Hp),cj H a->c∈k.cs->gJ Z a c m->m∈wait n->m.tk=tk->Q (.ref c) a
theorem PB:cA ["self","ticket","claim"] ["self","ticket"] (bK (lM 7)):=by ext
theorem Ti (F:gj K "waiting_with" "Lane.waiting_with" (lM 7) f M) (L:LZ K mg Z) (N:MD K Z.l "waiting" "Lane.waiting" (lM 6) ["self"] J y) (GW:cD P w K mg base dI 2 J y ["self"] (Hd Z)):cD P w K mg base dI 3 f M ["self","ticket"] (Hf Z):=by
 refine F.ok PB (by ext) fun O A C s H vs Q E R h=>?_;obtain ⟨k,n,tk,rfl,G,hc,hl,⟨m0,mw,mt⟩,q⟩:=h;refine ⟨_,(b8 (iJ aaW rfl (gG (du (E:=E0) (pv 0) L.lc N.M GW R N.b .nil cZ)) (cF (i:=2) PB.nd rfl (.inl rfl)) (c7 (dW (dz iK (cz (pv 2) rfl) (pv 1) (dw _)) (c7 (cI (pv 2))) cV))) (c7 dC)),?_⟩;obtain ⟨dx,e⟩:=G.ob;refine ⟨_,rfl,k.a,dx,_,rfl,e,rfl,k,n,rfl,G,hc,hl,fun l S T U o D W=>?_⟩;have Y:=D.len;refine ⟨l,rfl,⟨_,dR.of o⟩,?_⟩;refine j5 (K:=K) (a:=l) (xs:=S.map V.ref) (fun j d B=>B=T/\(∃ v,d=[some (.ref k.a),some (.int tk),v])/\∀ m∈(wait n).take j,m.tk≠tk) ⟨rfl,⟨none,rfl⟩,by simp⟩ (fun j σ B _ z=>by rw [z.1];exact dR.of o) ?_ ?_
 ·rintro j x d B hj ⟨rfl,⟨v,rfl⟩,b⟩;obtain ⟨c,p,rfl⟩:=lu hj;obtain ⟨m,I,r⟩:=D.at p;obtain ⟨dc,kk,a,t,ec,_⟩:=r.ex;dsimp only [dM,List.set];refine ⟨_,rfl,c,Z.c,dc,_,_,rfl,ec,L.cc,L.c1,rfl,_,rfl,rfl,_,rfl,?_⟩;by_cases h:m.tk=tk
  ·refine jz (by simp [h]) ⟨_,rfl,q c m _ U (W.subset (aaq p)) r (aaq I) h⟩
  ·refine iz (by simp [h]) ⟨rfl,⟨_,rfl⟩,fun X g=>?_⟩;rw [iI I] at g;rcases aal.mp g with g|g
   ·exact b X g
   ·cases aai.mp g;exact h
 ·rintro d B ⟨rfl,_,b⟩;rw [aah,Y,aaT] at b;exact (b m0 mw mt).elim
def SQ (Z:LC):Sp:=fun vs H Q _=>∃ (k:LA) (n:Ln) (tk:Int),vs=[.ref k.a,.int tk]/\cT Z H k n/\k.cs.length≤900/\n.pg.length≤900/\(∃ r m,wait n=r++[m]/\m.tk=tk)/\∀ (c:Z0) (m:Cl) (a:Hp),cj H a->c∈k.cs->gJ Z a c m->m∈wait n->m.tk=tk->Q (.ref c) a
theorem Rp:cA ["self","ticket","claim"] ["self","ticket"] (bK (lM 8)):=by ext
theorem RN (F:gj K "last_waiting" "Lane.last_waiting" (lM 8) f X) (L:LZ K mg Z) (Y:MD K Z.l "waiting" "Lane.waiting" (lM 6) ["self"] U g) (GW:cD P w K mg base dI 2 U g ["self"] (Hd Z)) (MV:MD K Z.l "waiting_with" "Lane.waiting_with" (lM 7) ["self","ticket"] W j) (GV:cD P w K mg base dI 3 W j ["self","ticket"] (Hf Z)):cD P w K mg base dI 4 f X ["self","ticket"] (SQ Z):=by
 refine F.ok Rp (by ext) fun o A p s H vs Q E D h=>?_;obtain ⟨k,n,tk,rfl,z,M,N,⟨r,O,R,S⟩,q⟩:=h;have y:dm 2 (A.deeper (PyProof.Rows.envOfC "Lane.last_waiting" (bK (lM 8)) s.heap.objs.size f o)):=D.mono (by decide);refine ⟨_,(b8 (cQ (i:=2) Rp.nd rfl (.inl rfl) (dg (E:=E0) (pv 0) L.lc MV.M GV D MV.b .nil cZ (aK (pv 1) b_))) (b8 (dW (dz tK (cz (dY eV (du (E:=E0) (pv 0) L.lc Y.M GW y Y.b .nil cZ) (rO o7 cu) (fun _ _=>rfl)) rfl) (pv 1) (dw _)) (c7 dC) cV) (c7 (cI (pv 2))))),?_⟩;obtain ⟨dx,e⟩:=z.ob;refine ⟨_,rfl,k.a,dx,_,rfl,e,rfl,_,rfl,k,n,tk,rfl,z,M,N,⟨O,by rw [R];simp,S⟩,fun c m H1 G mc cl mm em=>?_⟩;have d:=z.same G;obtain ⟨B,e1⟩:=d.ob;refine ⟨_,rfl,k.a,B,_,rfl,e1,rfl,k,n,rfl,d,M,N,fun l v H2 I x J sb=>?_⟩;have wl:=J.len;have b:(wait n)[v.length-1]?=some O:=by rw [wl,R];simp
 obtain ⟨T,C,r0⟩:=J.at' b;obtain ⟨dc,kk,a,t,ec,_⟩:=r0.ex;have ex:(v.map V.ref)[(v.map V.ref).length-1]?=some (.ref T):=by rw [aah,aau,C];rfl
 refine ⟨_,rfl,l,_,_,_,rfl,rfl,dR.of x,p6 ex,T,Z.c,dc,_,_,rfl,ec,L.cc,L.c1,rfl,_,rfl,rfl,_,rfl,iz (by simp [S]) ⟨_,rfl,q c m _ (G.trans I) mc (cl.same I) mm em⟩⟩
def j0 (tk:Int) (c:Cl):Cl:=if c.tk=tk then { c with gv:=true } else c
def q9 (tk:Int) (n:Ln):Ln:={ n with pg:=n.pg.map fun p=>{ p with cs:=p.cs.map (j0 tk) },giv:=n.giv+1 }
noncomputable def fQ (n:Ln):List Cl:=n.pg.flatMap (·.cs)
theorem Pd.both {c d:Type} {R:c->d->Prop}:∀ {a:List c} {b:List d},Pd R a b->Pd (fun x y=>R x y/\(x,y)∈a.zip b) a b
 |_,_,.nil=>.nil
 |_,_,.cons r t=>.cons ⟨r,by simp⟩ ((Pd.both t).map fun _ _ h=>⟨h.1,by simp [h.2]⟩)
theorem Pd.mapR {a b e:Type} {R:a->b->Prop} {f:a->e->Prop} {g:b->e} (h:∀ x y,R x y->f x (g y)):∀ {c:List a} {d:List b},Pd R c d->Pd f c (d.map g)
 |_,_,.nil=>.nil
 |_,_,.cons r t=>.cons (h _ _ r) (Pd.mapR h t)
theorem vm:∀ {a:List PA} {b:List Pg},Pd (fun s m=>s.cs.length=m.cs.length) a b->(a.flatMap (·.cs)).zip (b.flatMap (·.cs))=(a.zip b).flatMap fun q=>q.1.cs.zip q.2.cs
 |_,_,.nil=>rfl
 | _,_,.cons r t=>by rw [aax,aax,List.zip_append r,vm t];rfl
theorem xJ {n j p:Type} {f:j->p}:∀ {l:List n} {i:List j} {b c:n} {y z:j},(i.map f).Nodup->(b,y)∈l.zip i->(c,z)∈l.zip i->f y=f z->b=c
 |[],_,_,_,_,_,_,h,_,_=>by simp at h
 |_::_,[],_,_,_,_,_,h,_,_=>by simp at h
 | a::r,w::t,b,c,y,z,nd,g,d,e=>by
   rw [aaE] at nd;obtain ⟨m,o⟩:=aaK.mp nd;rw [List.zip_cons_cons] at g d;rcases aaf.mp g with g|g
   ·rcases aaf.mp d with d|d
    ·cases g;cases d;rfl
    ·cases g;exact (m (by rw [e];exact aar.mpr ⟨z,(abA d).2,rfl⟩)).elim
   ·rcases aaf.mp d with d|d
    ·cases d;exact (m (by rw [← e];exact aar.mpr ⟨y,(abA g).2,rfl⟩)).elim
    ·exact xJ o g d e
theorem cT.zips (a:cT Z H k n):k.cs.zip (fQ n)=(k.ps.zip n.pg).flatMap fun q=>q.1.cs.zip q.2.cs:=vm (a.pg.map fun _ _ r=>r.cs.len)
theorem cT.at_c {k:LA} (b:cT Z H k n) (o:c∈k.cs):∃ y,gJ Z H c y/\(c,y)∈k.cs.zip (fQ n):=by obtain ⟨s,d,e⟩:=aaN.mp o;obtain ⟨i,f⟩:=aaB.mp d;obtain ⟨m,p,r,g⟩:=b.pg.both.at f;obtain ⟨j,h⟩:=aaB.mp e;obtain ⟨y,q,l,a⟩:=r.cs.both.at h;refine ⟨y,l,?_⟩;rw [b.zips];exact aaN.mpr ⟨(s,m),g,a⟩
theorem JG (f:gJ Z H c m) (g:gJ Z H c y):m.tk=y.tk:=by
 obtain ⟨d,k,a,t,e,_⟩:=f.ex;obtain ⟨h,i,j,l,b,_⟩:=g.ex;rw [e] at b;injection b with b
 injection b with _ _ e3
 injection e3 with e3
 injection e3 with _ e3
 injection e3
theorem cT.setC {Z:LC} (q:Z.Ok) {H:Hp} {k:LA} {n:Ln} {m:Cl} (d:cT Z H k n) (S:c∈k.cs) (T:gJ Z H c m) (x:m.tk=tk) (U:((fQ n).map (·.tk)).Nodup) (e:H c=some (.ins Z.c i (uR m kk t))) :
 cT Z (upd H c (.ins Z.c i (uR { m with gv:=true } kk t))) k { n with pg:=n.pg.map fun p=>{ p with cs:=p.cs.map (j0 tk) } }:=by
 have kt:Kt Z H (upd H c (.ins Z.c i (uR { m with gv:=true } kk t))):=Kt.ins e q.kc;obtain ⟨dl,f⟩:=d.ob;obtain ⟨F,G,I⟩:=d.at_c S;have o:F.tk=tk:=(JG T G).symm.trans x;refine ⟨⟨dl,?_⟩,?_,?_,d.n1,d.n2,d.n3⟩
 ·rw [b7 (fun z=>by
   rw [z,e] at f;injection f with f
   injection f with f
   exact q.cl f)];exact f
 ·rw [b7 (fun z=>by have:=d.ls;rw [z,e] at this;cases this)];exact d.ls
 ·have one:∀ (b:Z0) (y:Cl),gJ Z H b y->(b,y)∈k.cs.zip (fQ n)->gJ Z (upd H c (.ins Z.c i (uR { m with gv:=true } kk t))) b (j0 tk y):=by
   intro b y r j;by_cases z:b=c
   ·subst z;obtain ⟨W,J,L,M,N,O,Q⟩:=r.ex;have a:=N;rw [e] at a;injection a with a
    injection a with _ e2 e3
    have v:m.tk=y.tk:=by injection e3 with e3;injection e3 with _ e3;injection e3
    have B:m.tm=y.tm:=by injection e3 with _ e3;injection e3 with e3 _;injection e3 with _ e3;injection e3
    have C:kk=J:=by injection e3 with _ e3;injection e3 with _ e3;injection e3 with e3 _;injection e3 with _ e3;injection e3
    have D:t=M:=by injection e3 with _ e3;injection e3 with _ e3;injection e3 with _ e3;injection e3 with e3 _;injection e3 with _ e3;injection e3
    subst C D;have E:j0 tk y={ y with gv:=true }:=by unfold j0;rw [aad (by rw [← v];exact x)]
    rw [E];refine ⟨i,kk,L,t,?_,O.kt kt,kt.tk _ _ Q⟩;rw [a_];show some (HO.ins Z.c i [("ticket",.int m.tk),("time",.int m.tm),("form",.ref kk),("filled",.ref t),("given",.bl true)])=some (HO.ins Z.c i [("ticket",.int y.tk),("time",.int y.tm),("form",.ref kk),("filled",.ref t),("given",.bl true)]);rw [v,B]
   ·have:y.tk≠tk:=fun h=>z (xJ U j I (h.trans o.symm));unfold j0;rw [aac this];exact r.upd kt z
  refine Pd.mapR (fun s p ⟨r,j⟩=>?_) d.pg.both;obtain ⟨R,g⟩:=r.ob;refine ⟨⟨R,?_⟩,?_,?_⟩
  ·rw [b7 (fun z=>by
    rw [z,e] at g;injection g with g
    injection g with g
    exact q.cp g)];exact g
  ·rw [b7 (fun z=>by have:=r.ls;rw [z,e] at this;cases this)];exact r.ls
  ·refine Pd.mapR (fun b y ⟨A,l⟩=>one b y A ?_) r.cs.both;rw [d.zips];exact aaN.mpr ⟨(s,p),j,l⟩
def QX (Z:LC):Sp:=fun vs H Q _=>∃ (k:LA) (n:Ln) (tk:Int),vs=[.ref k.a,.int tk]/\cT Z H k n/\k.cs.length≤900/\n.pg.length≤900/\((fQ n).map (·.tk)).Nodup/\(∃ r m,wait n=r++[m]/\m.tk=tk)/\∀ a,cT Z a k (q9 tk n)->Mv Z k H k a->Q .non a
theorem Tz:cA ["self","ticket","claim"] ["self","ticket"] (bK (lM 10)):=by ext
theorem T8 (F:gj K "give" "Lane.give" (lM 10) f M) (L:LZ K mg Z) (N:MD K Z.l "last_waiting" "Lane.last_waiting" (lM 8) ["self","ticket"] J j) (GW:cD P w K mg base dI 4 J j ["self","ticket"] (SQ Z)):cD P w K mg base dI 5 f M ["self","ticket"] (QX Z):=by refine F.ok Tz (by ext) fun O A v s H vs Q E R h=>?_;obtain ⟨k,n,tk,rfl,z,T,U,W,X,q⟩:=h;refine ⟨_,(b8 (cQ (i:=2) Tz.nd rfl (.inl rfl) (dg (E:=E0) (pv 0) L.lc N.M GW R N.b .nil cZ (aK (pv 1) b_))) (b8 (cP (pv 2) jf rfl) (c7 (jm (pv 0) cu nY)))),?_⟩;obtain ⟨Y,e⟩:=z.ob;refine ⟨_,rfl,k.a,Y,_,rfl,e,rfl,_,rfl,k,n,tk,rfl,z,T,U,X,fun c m C D G I mm S=>?_⟩;obtain ⟨l,kk,a,t,B,_⟩:=id I.ex;have x:=z.same D;refine ⟨_,rfl,c,Z.c,l,_,rfl,B,L.cc,L.c5,(show 5<1000 by decide),?_⟩;have d:cT Z (upd C c (.ins Z.c l (d_ "given" (.bl true) (uR m kk t)))) k { n with pg:=n.pg.map fun p=>{ p with cs:=p.cs.map (j0 tk) } }:=x.setC L.ok G I S W B;have g:=(Mv.same (Z:=Z) (k:=k) D).trans (Mv.ins (o:=.ins Z.c l (d_ "given" (.bl true) (uR m kk t))) B (.inl rfl) (LA.c_own G));generalize upd C c (.ins Z.c l (d_ "given" (.bl true) (uR m kk t)))=H2 at d g ⊢;obtain ⟨b,r⟩:=d.ob;refine ⟨_,rfl,k.a,Z.l,b,_,_,rfl,r,L.lc,L.l9,rfl,_,_,rfl,rfl,b,_,r,(show 12<1000 by decide),?_⟩;have y:cT Z (upd H2 k.a (.ins Z.l b (d_ "given_in" (.int (n.giv+1)) (wI k.lp { n with pg:=n.pg.map fun p=>{ p with cs:=p.cs.map (j0 tk) } })))) k (q9 tk n):=d.setL L.ok (dx':=b) r (q9 tk n) rfl;exact q _ y (g.trans (Mv.ins r (.inr (.inr rfl)) LA.a_own))
noncomputable def ir (f:Int->List (Int×Cl)):List Cl->Int->List (Int×Cl)
 |[],q=>f q
 |c::cs,q=>if c.gv=true then (q,c)::ir f cs (q+1) else []
noncomputable def g_:List Pg->Int->List (Int×Cl)
 |[],_=>[]
 |p::r,q=>ir (g_ r) p.cs (q+p.go)
noncomputable def stand (n:Ln):List (Int×Cl):=g_ n.pg 0
theorem qg (h:∀ q,(f q).length≤b):∀ (cs:List Cl) (q:Int),(ir f cs q).length≤cs.length+b
 |[],q=>by have:=h q;simp only [ir,abn];omega
 | c::cs,q=>by
   have:=qg h cs (q+1);unfold ir;split
   ·simp only [aaw];omega
   ·simp
theorem mj:∀ (a:List Pg) (q:Int),(g_ a q).length≤(a.flatMap (·.cs)).length
 |[],_=>by simp [g_]
 | p::r,q=>by rw [aax,aao];exact qg (fun b=>mj r b) p.cs _
inductive Tg where
 |lost (n:Int)
 |ev (pl:Int) (c:Cl)
def p_ (H:Hp) (x:V) (q:Int×Cl):Prop:=∃ b t,x=.ref b/\H b=some (.tup [.str "event",.int q.1,.int q.2.tm,.str q.2.nm,.ref t])/\H t=some (.tup (q.2.vs.map V.int))
theorem p_.tk (h:p_ H x q) (k:TK H a):p_ a x q:=by obtain ⟨b,t,e,c,d⟩:=h;exact ⟨b,t,e,k _ _ c,k _ _ d⟩
theorem n7 (s:cj H a):TK H a:=fun b c e=>s _ _ e
def Qs (Z:LC):Sp:=fun vs H Q _=>∃ (c:Z0) (m:Cl) (b:Int),vs=[.ref c,.int b]/\gJ Z H c m/\∀ (x:V) a,cj H a->p_ a x (b,m)->Q x a
theorem UW:cA ["self","place"] ["self","place"] (bK (cM 1)):=by ext
theorem QR (F:gj K "told_at" "Claim.told_at" (cM 1) f j) (L:LZ K y Z):cD P w K y x dI 1 f j ["self","place"] (Qs Z):=by refine F.ok UW (by ext) fun l A d s H vs Q E r h=>?_;obtain ⟨c,m,v,rfl,n,q⟩:=h;refine ⟨_,(c7 (cI (eZ (aK cH (aK (pv 1) (aK (cz (pv 0) rfl) (aK (cz (cz (pv 0) rfl) rfl) (aK (cz (pv 0) rfl) b_)))))))),?_⟩;obtain ⟨g,kk,a,t,e,⟨⟨dk,o⟩,_⟩,p⟩:=n.ex;refine ⟨_,rfl,_,rfl,c,Z.c,g,_,_,rfl,e,L.cc,L.c2,rfl,_,rfl,c,Z.c,g,_,_,rfl,e,L.cc,L.c3,rfl,kk,Z.k,dk,_,_,rfl,o,L.kc.cl,L.kc.nN,zr m.nm a,_,rfl,c,Z.c,g,_,_,rfl,e,L.cc,L.c4,rfl,(by ext),fun b i=>?_⟩;exact q _ _ (cj.new i) ⟨b,t,rfl,a_,cj.new i _ _ p⟩
def TQ (Z:LC):Sp:=fun vs H Q _=>∃ (k:LA) (n:Ln),vs=[.ref k.a]/\cT Z H k n/\k.cs.length≤900/\n.pg.length≤900/\∀ (l:Z0) (b:List V) (a:Hp),cj H a->a l=some (.lst b)->Pd (p_ a) b (stand n)->Q (.ref l) a
theorem yo:cA ["self","events","place","page","claim"] ["self"] (bK (lM 12)):=by ext
theorem PL (F:gj K "standing" "Lane.standing" (lM 12) f fd) (L:LZ K mg Z) (MT:MD K Z.c "told_at" "Claim.told_at" (cM 1) ["self","place"] fT fdT):cD P w K mg base dI 2 f fd ["self"] (TQ Z):=by
 have GT:cD P w K mg base dI 1 fT fdT ["self","place"] (Qs Z):=QR MT.F L;refine F.ok yo (by ext) fun am A ae s H vs Q E hr h=>?_;obtain ⟨k,n,rfl,I,hc,hl,q⟩:=h;refine ⟨_,(b8 (cQ (i:=1) yo.nd rfl (.inl rfl) (gD b_)) (b8 (cQ (i:=2) yo.nd rfl (.inl rfl) cu) (b8 (iJ aaW rfl (gG (cz (pv 0) rfl)) (cF (i:=3) yo.nd rfl (.inl rfl)) (b8 (xX (i:=2) yo.nd rfl (.inl rfl) (cz (pv 3) rfl) yE) (c7 (iJ aaW rfl (gG (cz (pv 3) rfl)) (cF (i:=4) yo.nd rfl (.inl rfl)) (b8 (dW (iZ (ik (cz (pv 4) rfl))) (c7 (cI (pv 1))) cV) (b8 (d8 (jM aa0 aa7 abe gY (pv 1) (aK (dg (E:=E0) (pv 4) L.cc MT.M GT hr MT.b .nil cZ (aK (pv 2) b_)) b_))) (c7 (xX (i:=2) yo.nd rfl (.inl rfl) cu yE)))))))) (c7 (cI (pv 1)))))),?_⟩;obtain ⟨dx,e⟩:=I.ob;have O:=I.pg.len;have af:(fQ n).length≤900:=by
  have:k.cs.length=(fQ n).length:=by
   have:∀ {ps:List PA} {pg:List Pg},Pd (gQ Z H) ps pg->(ps.flatMap (·.cs)).length=(pg.flatMap (·.cs)).length:=by
    intro ps pg h;induction h with
    |nil=>rfl
    |cons r _ ih=>rw [aax,aax,aao,aao,ih,r.cs.len]
   exact this I.pg
  omega
 have sl:(stand n).length≤900:=aaj (mj n.pg 0) af;refine ⟨(by ext),fun l G=>?_⟩;have big:1000≤sizeLine:=by decide
 have aa:=I.same (cj.new (o:=.lst []) G);obtain ⟨ai,e0⟩:=aa.ob;refine ⟨_,rfl,k.a,Z.l,ai,_,_,rfl,e0,L.lc,L.l4,rfl,k.lp,rfl,⟨_,dR.of aa.ls⟩,?_⟩;refine j5 (K:=K) (a:=k.lp) (xs:=k.ps.map fun s=>V.ref s.p) (fun i N v=>cj H v/\∃ u3 Y B S O,N=[some (.ref k.a),some (.ref l),some (.int O),u3,Y]/\v l=some (.lst B)/\Pd (p_ v) B S/\S++g_ (n.pg.drop i) O=stand n) ⟨cj.new G,none,none,[],[],0,rfl,a_,.nil,rfl⟩ (fun i X v _ z=>dR.of (z.1 _ _ I.ls)) ?_ ?_
 ·rintro i x X H1 hx ⟨s1,u3,Y,B,S,ad,rfl,T,pd,M⟩;obtain ⟨D,J,rfl⟩:=lu hx;obtain ⟨U,R,r0⟩:=(I.same s1).pg.at J;obtain ⟨d0,ac⟩:=r0.ob;have hd:n.pg.drop i=U::n.pg.drop (i+1):=by have il:=(aaG.mp R).1;rw [acy il,(aaG.mp R).2]
  rw [hd] at M;have M:S++ir (g_ (n.pg.drop (i+1))) U.cs (ad+U.go)=stand n:=M;dsimp only [dM,List.set];refine ⟨_,rfl,_,rfl,D.p,Z.p,d0,_,_,rfl,ac,L.pc,L.p3,rfl,_,_,rfl,rfl,?_⟩;dsimp only [List.set];refine ⟨_,rfl,D.p,Z.p,d0,_,_,rfl,ac,L.pc,L.p1,rfl,D.l,rfl,⟨_,dR.of r0.ls⟩,?_⟩;have ao:D.l≠l:=fun z=>by obtain ⟨W,_,rr⟩:=I.pg.at J;have:=rr.ls;rw [z,G] at this;cases this
  have ag:∀ v,cj H v->v D.l=some (.lst (D.cs.map V.ref)):=fun v s'=>by obtain ⟨W,_,rr⟩:=I.pg.at J;exact s' _ _ rr.ls
  refine j5 (K:=K) (a:=D.l) (xs:=D.cs.map V.ref) (fun j N v=>cj H v/\∃ Y B S O,N=[some (.ref k.a),some (.ref l),some (.int O),some (.ref D.p),Y]/\v l=some (.lst B)/\Pd (p_ v) B S/\S++ir (g_ (n.pg.drop (i+1))) (U.cs.drop j) O=stand n) ⟨s1,_,B,S,_,rfl,T,pd,M⟩ (fun j X v _ z=>dR.of (ag _ z.1)) ?_ ?_
  ·rintro j x X H2 al ⟨s2,v4,y,S2,p,rfl,g,C,d⟩;obtain ⟨c,aj,rfl⟩:=lu al;obtain ⟨W,ak,rr⟩:=(I.same s2).pg.at J;have:W=U:=by have:=ak.symm.trans R;injection this
   subst this;obtain ⟨m,hm,r⟩:=rr.cs.at aj;obtain ⟨dc,kk,a,t,ec,_⟩:=id r.ex;have ah:W.cs.drop j=m::W.cs.drop (j+1):=by have jl:=(aaG.mp hm).1;rw [acy jl,(aaG.mp hm).2]
   rw [ah] at d;have d:S2++(if m.gv=true then (p,m)::ir (g_ (n.pg.drop (i+1))) (W.cs.drop (j+1)) (p+1) else [])=stand n:=d;have ap:S2.length≤900:=by have:=aaM List.length d;rw [aao] at this;omega
   have aq:=C.len;dsimp only [dM,List.set];refine ⟨_,rfl,c,Z.c,dc,_,_,rfl,ec,L.cc,L.c5,rfl,_,rfl,?_⟩;cases hg:m.gv with
   | false=>rw [hg,aac (by decide),aaO] at d;subst d;exact jz rfl ⟨_,rfl,q l y _ s2 g C⟩
   | true=>
     rw [hg,aad rfl] at d;refine iz rfl ?_;refine ⟨_,rfl,.inl ⟨rfl,_,dR.of g⟩,_,rfl,c,dc,_,rfl,ec,rfl,_,rfl,c,m,p,rfl,r,fun x H3 s3 ev=>?_⟩;refine ⟨l,y,_,rfl,rfl,s3 _ _ g,by omega,?_⟩;have ab:TK H3 (upd H3 l (.lst (y++[x]))):=TK.lst (s3 _ _ g);refine ⟨_,rfl,_,_,rfl,rfl,fun b o eo=>?_,_,y++[x],S2++[(p,m)],p+1,rfl,a_,Pd.app (.cons (ev.tk ab) .nil) (C.map fun _ _ z=>(z.tk (n7 s3)).tk ab),?_⟩
     ·rw [b7 (cg eo G)];exact s3 _ _ (s2 _ _ eo)
     ·rw [ac1];exact d
  ·rintro X H2 ⟨s2,v4,y,S2,p,rfl,g,C,d⟩;refine ⟨s2,_,_,y,S2,p,rfl,g,C,?_⟩;have:U.cs.drop (D.cs.map V.ref).length=[]:=by rw [aah,r0.cs.len,acz]
   rw [this] at d;exact d
 ·rintro X H1 ⟨s1,u3,Y,B,S,ad,rfl,T,pd,M⟩;have:n.pg.drop (k.ps.map fun s=>V.ref s.p).length=[]:=by rw [aah,O,acz]
  rw [this] at M;simp only [g_,aaO] at M;subst M;exact ⟨_,rfl,q l B _ s1 T pd⟩
noncomputable def iW:Int->List (Int×Cl)->List Tg
 |_,[]=>[]
 |pl,(q,c)::r=>if pl<q then .lost (q-pl)::.ev q c::iW (q+1) r else if q=pl then .ev q c::iW (q+1) r else iW pl r
def n8 (H:Hp) (x:V):Tg->Prop
 |.lost n=>∃ b,x=.ref b/\H b=some (.tup [.str "lost",.int n])
 |.ev a c=>p_ H x (a,c)
theorem n8.tk (h:n8 H x t) (k:TK H a):n8 a x t:=by
 cases t with
 | lost n=>obtain ⟨b,e,h⟩:=h;exact ⟨b,e,k _ _ h⟩
 |ev d c=>exact p_.tk h k
noncomputable def KY:Tg->Int
 |.lost n=>n
 |.ev _ _=>1
noncomputable def gf (n:Ln):List Tg:=iW n.told (stand n)
def kE (p q:Pg):Pg:={ q with go:=q.go+(p.go+p.cs.length) }
noncomputable def lr (a:Int):List Pg->Pg->List Pg
 |[],p=>[p]
 |q::r,p=>if p.go+(p.cs.length:Int)≤a then lr a r (kE p q) else p::q::r
noncomputable def km (a:Int):List Pg->List Pg
 |[]=>[]
 |p::r=>lr a r p
def Hy (a:Int):List Pg->Pg->Prop
 |[],p=>a<p.go+(p.cs.length:Int)
 |q::r,p=>a<p.go+(p.cs.length:Int)∨Hy a r (kE p q)
def Ug (a:Int):List Pg->Prop
 |[]=>False
 |p::r=>Hy a r p
def Pr:Sp:=fun vs H Q _=>∃ (le:Z0) (c:List V) (b:List (Int×Cl)) (d:Int),vs=[.ref le,.int d]/\H le=some (.lst c)/\Pd (p_ H) c b/\b.length≤900/\∀ (l:Z0) (e:List V) (a:Hp),cj H a->H l=none->a l=some (.lst e)->Pd (n8 a) e (iW d b)->Q (.ref l) a
theorem Jh:cA ["events","place","told","event"] ["events","place"] (bK (top 54)):=by ext
theorem RQ (F:gj K "told_from" "told_from" (top 54) f fd):cD P w K mg base dI 1 f fd ["events","place"] Pr:=by
 refine F.ok Jh (by ext) fun af A aa s H vs Q E hr h=>?_;obtain ⟨le,xs,C,pl,rfl,J,pe,el,q⟩:=h;refine ⟨_,(b8 (cQ (i:=2) Jh.nd rfl (.inl rfl) (gD b_)) (b8 (iJ aaW rfl (gG (pv 0)) (cF (i:=3) Jh.nd rfl (.inl rfl)) (b8 (dW (dz EY (dY gZ (pv 3) cu (fun _ _=>rfl)) (pv 1) (dw _)) (c7 (d8 (jM aa0 aa7 abe gY (pv 2) (aK (eZ (aK cH (aK (dN xr (dY gZ (pv 3) cu (fun _ _=>rfl)) (pv 1)) b_))) b_)))) cV) (c7 (dW (dz vQ (dY gZ (pv 3) cu (fun _ _=>rfl)) (pv 1) (dw _)) (b8 (d8 (jM aa0 aa7 abe gY (pv 2) (aK (pv 3) b_))) (c7 (cQ (i:=1) Jh.nd rfl (.inl rfl) (dN gn (dY gZ (pv 3) cu (fun _ _=>rfl)) cu)))) cV)))) (c7 (cI (pv 2))))),?_⟩;refine ⟨(by ext),fun l n=>?_⟩;have big:2000≤sizeLine:=by decide
 have xl:=pe.len;have ag:le≠l:=cg J n;refine ⟨_,rfl,le,rfl,⟨_,dR.of (cj.new n _ _ J)⟩,?_⟩;refine j5 (K:=K) (a:=le) (xs:=xs) (fun i ab X=>cj H X/\∃ u d g S,ab=[some (.ref le),some (.int d),some (.ref l),u]/\X l=some (.lst g)/\Pd (n8 X) g S/\S++iW d (C.drop i)=iW pl C/\S.length≤2*i) ⟨cj.new n,none,pl,[],[],rfl,a_,.nil,rfl,aae _⟩ (fun i σ X _ z=>dR.of (z.1 _ _ J)) ?_ ?_
 ·rintro i x σ D hx ⟨L,u,d,g,S,rfl,m,N,v,sl⟩;obtain ⟨⟨e,c⟩,hq,b,t,rfl,ad,ae⟩:=pe.at hx;have il:=(aaG.mp hq).1;have hd:C.drop i=(e,c)::C.drop (i+1):=by rw [acy il,(aaG.mp hq).2]
  rw [hd] at v;have v:S++(if d<e then Tg.lost (e-d)::.ev e c::iW (e+1) (C.drop (i+1)) else if e=d then .ev e c::iW (e+1) (C.drop (i+1)) else iW d (C.drop (i+1)))=iW pl C:=v;have yl:=N.len;have M:=L _ _ ad;have R:p_ D (.ref b) (e,c):=⟨b,t,rfl,M,L _ _ ae⟩;dsimp only [dM,List.set];refine ⟨_,rfl,b,_,_,_,rfl,rfl,eE.of M,dO (j:=1) rfl,_,rfl,_,_,rfl,rfl,_,rfl,?_⟩;by_cases Z:d<e
  ·refine jz (by simpa using Z) ?_;rw [aad Z] at v;refine ⟨_,rfl,.inl ⟨rfl,_,dR.of m⟩,_,rfl,b,_,_,_,rfl,rfl,eE.of M,dO (j:=1) rfl,_,rfl,_,_,rfl,rfl,(by ext),fun r ac=>?_⟩;have G:cj D (upd D r (.tup [.str "lost",.int (e-d)])):=cj.new ac;have T:(upd D r (.tup [.str "lost",.int (e-d)])) r=some (.tup [.str "lost",.int (e-d)]):=a_;generalize upd D r (.tup [.str "lost",.int (e-d)])=O at G T ⊢;refine ⟨l,g,_,rfl,rfl,G _ _ m,by omega,?_⟩;have y:TK O (upd O l (.lst (g++[.ref r]))):=TK.lst (G _ _ m);have s3:cj H (upd O l (.lst (g++[.ref r]))):=fun a o B=>by rw [b7 (cg B n)];exact G _ _ (L _ _ B)
   have U:Pd (n8 (upd O l (.lst (g++[.ref r])))) (g++[.ref r]) (S++[.lost (e-d)]):=Pd.app (.cons ⟨r,rfl,y _ _ T⟩ .nil) (N.map fun _ _ z=>(z.tk (n7 G)).tk y);have Y:(upd O l (.lst (g++[.ref r]))) l=some (.lst (g++[.ref r])):=a_;have I:=y _ _ (G _ _ M);have W:=(R.tk (n7 G)).tk y;generalize upd O l (.lst (g++[.ref r]))=H3 at s3 U Y I W ⊢
   try dsimp only [oh]
   refine ⟨_,rfl,b,_,_,_,rfl,rfl,eE.of I,dO (j:=1) rfl,_,rfl,_,_,rfl,rfl,_,rfl,jz (by simp;omega) ?_⟩;refine ⟨_,rfl,.inl ⟨rfl,_,dR.of Y⟩,_,rfl,l,_,_,rfl,rfl,Y,by rw [aao];simp only [aaw,abn];omega,?_⟩;have p:TK H3 (upd H3 l (.lst (g++[.ref r]++[.ref b]))):=TK.lst Y;refine ⟨_,rfl,b,_,_,_,rfl,rfl,eE.of (p _ _ I),dO (j:=1) rfl,_,_,rfl,rfl,?_⟩;refine ⟨fun a o B=>?_,_,e+1,g++[.ref r]++[.ref b],S++[.lost (e-d)]++[.ev e c],rfl,a_,Pd.app (.cons (n8.tk (t:=.ev e c) W p) .nil) (U.map fun _ _ z=>z.tk p),?_,?_⟩
   ·rw [b7 (cg B n)];exact s3 _ _ B
   ·rw [← v];simp
   ·simp only [aao,aaw,abn];omega
  ·rw [aac Z] at v;refine iz (by simpa using Z) ?_
   try dsimp only [oh]
   refine ⟨_,rfl,b,_,_,_,rfl,rfl,eE.of M,dO (j:=1) rfl,_,rfl,_,_,rfl,rfl,_,rfl,?_⟩;by_cases T:e=d
   ·rw [aad T] at v;refine jz (by simp;omega) ?_;refine ⟨_,rfl,.inl ⟨rfl,_,dR.of m⟩,_,rfl,l,g,_,rfl,rfl,m,by omega,?_⟩;have p:TK D (upd D l (.lst (g++[.ref b]))):=TK.lst m;refine ⟨_,rfl,b,_,_,_,rfl,rfl,eE.of (p _ _ M),dO (j:=1) rfl,_,_,rfl,rfl,?_⟩;refine ⟨fun a o B=>?_,_,e+1,g++[.ref b],S++[.ev e c],rfl,a_,Pd.app (.cons (n8.tk (t:=.ev e c) R p) .nil) (N.map fun _ _ z=>z.tk p),?_,?_⟩
    ·rw [b7 (cg B n)];exact L _ _ B
    ·rw [← v];simp
    ·simp only [aao,aaw,abn];omega
   ·rw [aac T] at v;refine iz (by simp;omega) ⟨L,_,d,g,S,rfl,m,N,v,by omega⟩
 ·rintro σ D ⟨L,u,d,g,S,rfl,m,N,v,sl⟩;rw [xl,acz] at v;simp only [iW,aaO] at v;subst v;exact ⟨_,rfl,q l g _ L n m N⟩
def M6 (Z:LC):Sp:=fun vs H Q _=>∃ (k:LA) (n:Ln),vs=[.ref k.a]/\cT Z H k n/\k.cs.length≤900/\n.pg.length≤900/\(stand n).length≤900/\∀ (l:Z0) (b:List V) (a:Hp),cj H a->H l=none->a l=some (.lst b)->Pd (n8 a) b (gf n)->Q (.ref l) a
theorem V4:cA ["self"] ["self"] (bK (lM 13)):=by ext
theorem Ru (F:gj K "look" "Lane.look" (lM 13) f B) (L:LZ K X Z) (MS:MD K Z.l "standing" "Lane.standing" (lM 12) ["self"] y a) (T:cD P w K X base dI 2 y a ["self"] (TQ Z)) (C:gK K X "told_from" (top 54) ["events","place"] z b):cD P w K X base dI 3 f B ["self"] (M6 Z):=by have N:cD P w K X base dI 1 z b ["events","place"] Pr:=RQ C.F;refine F.ok V4 (by ext) fun c A d s H vs Q E r h=>?_;obtain ⟨k,n,rfl,v,O,R,S,q⟩:=h;have p:dm 1 (A.deeper (PyProof.Rows.envOfC "Lane.look" (bK (lM 13)) s.heap.objs.size f c)):=r.mono (by decide);refine ⟨_,(c7 (cI (jt C N p (aK (du (E:=E0) (pv 0) L.lc MS.M T r MS.b .nil cZ) (aK (cz (pv 0) rfl) b_))))),?_⟩;obtain ⟨x,e⟩:=v.ob;refine ⟨_,rfl,k.a,x,_,rfl,e,rfl,k,n,rfl,v,O,R,fun l D U g i G=>?_⟩;refine ⟨_,rfl,k.a,Z.l,x,_,_,rfl,g _ _ e,L.lc,L.l6,rfl,l,D,_,_,rfl,i,G,S,fun I J W M j m o=>q I J _ (g.trans M) (dh g j) m o⟩
def Rx (Z:LC):Sp:=fun vs H Q _=>∃ (k:LA) (n:Ln) (a:Int),vs=[.ref k.a,.int a]/\cT Z H k n/\n.pg.length≤900/\Ug a n.pg/\∀ c b,cT Z b c { n with pg:=km a n.pg,held:=true }->Mv Z k H c b->Q .non b
theorem Vj:cA ["self","place"] ["self","place"] (bK (lM 15)):=by ext
noncomputable def vy (H:Hp) (a:Z0):Nat:=match H a with
 |some (.lst xs)=>xs.length
 |_=>0
theorem vD (h:H a=some (.lst b)):vy H a=b.length:=by unfold vy;rw [h]
theorem Q_ (F:gj K "hold" "Lane.hold" (lM 15) f fd) (T:Txt K mg) (L:LZ K mg Z) (MV:MD K Z.l "leave" "Lane.leave" (lM 5) ["self","number"] fV fdV):cD P w K mg base dI 2 f fd ["self","place"] (Rx Z):=by
 have GV:cD P w K mg base dI 1 fV fdV ["self","number"] (LR Z):=K9 MV.F T L;refine F.ok Vj (by ext) fun cdv A outer s H vs Q E hr h=>?_;obtain ⟨k,n,pl,rfl,ln,hl,ho,q⟩:=h;refine ⟨_,(b8 (Dp aaW (dz vQ (pv 1) (dN gn (cz (dY eV (cz (pv 0) rfl) cu (fun _ _=>rfl)) rfl) (d9 dD (by rfl) T.len gF (aK (cz (dY eV (cz (pv 0) rfl) cu (fun _ _=>rfl)) rfl) b_))) (dw _)) (c7 (d8 (dg (E:=E0) (pv 0) L.lc MV.M GV hr MV.b .nil cZ (aK cu b_))))) (c7 (cP (pv 0) jf rfl))),?_⟩;refine B_ (fun σ' H'=>σ'=[some (.ref k.a),some (.int pl)]/\∃ k1 pg,cT Z H' k1 { n with pg:=pg }/\Mv Z k H k1 H'/\km pl pg=km pl n.pg/\Ug pl pg/\pg.length≤900) (fun _ H'=>vy H' k.lp) ⟨rfl,k,n.pg,ln,Mv.refl,rfl,ho,hl⟩ ?_ ?_
 ·rintro σ H1 ⟨rfl,k1,pg,ln1,mv1,eh,ho1,hl1⟩;cases pg with
  |nil=>exact ho1.elim
  | cons p r=>
    obtain ⟨dx1,e1⟩:=ln1.ob;rw [mv1.a] at e1;obtain ⟨s0,hs0,r0⟩:=ln1.pg.at' (i:=0) (y:=p) rfl;obtain ⟨d0,e0⟩:=r0.ob;have ex:(k1.ps.map fun s=>V.ref s.p)[0]?=some (.ref s0.p):=by rw [aau,hs0];rfl
    refine ⟨_,rfl,_,rfl,k.a,Z.l,dx1,_,_,rfl,e1,L.lc,L.l4,rfl,k1.lp,_,_,_,rfl,rfl,dR.of ln1.ls,dO ex,s0.p,Z.p,d0,_,_,rfl,e0,L.pc,L.p3,rfl,_,rfl,k.a,Z.l,dx1,_,_,rfl,e1,L.lc,L.l4,rfl,k1.lp,_,_,_,rfl,rfl,dR.of ln1.ls,dO ex,s0.p,Z.p,d0,_,_,rfl,e0,L.pc,L.p1,rfl,s0.l,_,rfl,.inl (dR.of r0.ls),_,_,rfl,rfl,_,_,rfl,rfl,_,rfl,?_⟩;rw [aah,r0.cs.len];by_cases h:p.go+(p.cs.length:Int)≤pl
    ·refine jz (by simpa using h) ?_;cases r with
     | nil=>have:pl<p.go+(p.cs.length:Int):=ho1;omega
     | cons p2 r=>
       refine ⟨_,rfl,k.a,dx1,_,rfl,e1,rfl,k1,_,0,(by rw [mv1.a];rfl),ln1,by simp,aaj hl1 (by decide),fun k2 H2 ln2 mv2=>?_⟩;have el:nO 0 { n with pg:=p::p2::r }={ n with pg:=kE p p2::r }:=rfl;rw [el] at ln2;have e3:km pl (p::p2::r)=km pl (kE p p2::r):=by show (if p.go+(p.cs.length:Int)≤pl then lr pl r (kE p p2) else p::p2::r)=_;rw [aad h];rfl
       have ho2:Ug pl (kE p p2::r):=by
        have:pl<p.go+(p.cs.length:Int)∨Hy pl r (kE p p2):=ho1;rcases this with z|z
        ·omega
        ·exact z
       refine ⟨⟨rfl,k2,_,ln2,mv1.trans mv2,e3.symm.trans eh,ho2,?_⟩,?_⟩
       ·simp at hl1 ⊢;omega
       ·have a1:=ln1.ls;rw [mv1.lp] at a1;have a2:=ln2.ls;rw [mv2.lp,mv1.lp] at a2;show vy H2 k.lp<vy H1 k.lp;rw [vD a1,vD a2,aah,aah,ln1.pg.len,ln2.pg.len];simp
    ·refine iz (by simpa using h) ?_;refine ⟨_,rfl,k.a,Z.l,dx1,_,rfl,e1,L.lc,L.l5,(show 12<1000 by decide),?_⟩;have e1':H1 k1.a=some (.ins Z.l dx1 (wI k1.lp { n with pg:=p::r })):=by rw [mv1.a];exact e1
     have ln2:=ln1.setL L.ok (dx':=dx1) e1' { n with pg:=p::r,held:=true } rfl;rw [mv1.a] at ln2;have eq:km pl n.pg=p::r:=by
      rw [← eh];show lr pl r p=_;cases r with
      |nil=>rfl
      | cons p2 r=>show (if p.go+(p.cs.length:Int)≤pl then lr pl r (kE p p2) else p::p2::r)=_;rw [aac h]
     refine q k1 _ ?_ (mv1.trans (Mv.ins e1 (.inr (.inr rfl)) (by rw [← mv1.a];exact LA.a_own)));rw [eq];exact ln2
 ·rintro σ' H' Q1 Q2 hQ ⟨x1,x2,x3,x4,x5,x6,x7,x8,x9,x10,x11,x12,x13,x14,x15,x16,x17,x18,x19,x20,x21,x22,x23,x24,x25,x26,x27,x28,x29,x30,x31,x32,x33,x34,x35,x36,x37,x38,x39,x40,x41,x42,x43,x44,x45,x46,x47,x48,x49,x50,x51,x52,x53,x54,x55,x56,x57,x58,x59,x60,x61,x62,x63,x64,x65,x66,x67,x68,x69,x70,x71,x72,x73,x74,x75,x76,rest⟩;exact ⟨x1,x2,x3,x4,x5,x6,x7,x8,x9,x10,x11,x12,x13,x14,x15,x16,x17,x18,x19,x20,x21,x22,x23,x24,x25,x26,x27,x28,x29,x30,x31,x32,x33,x34,x35,x36,x37,x38,x39,x40,x41,x42,x43,x44,x45,x46,x47,x48,x49,x50,x51,x52,x53,x54,x55,x56,x57,x58,x59,x60,x61,x62,x63,x64,x65,x66,x67,x68,x69,x70,x71,x72,x73,x74,x75,x76,hQ _ _ rest⟩
theorem Hv (b:Int) (c:Cl):∀ (r:List Pg) (p:Pg),(b,c)∈g_ (p::r) 0->Hy b r p/\(lr b r p).flatMap (fun p=>oA p.cs)=(p::r).flatMap fun p=>oA p.cs:=by
 have d:∀ (f:Int->List (Int×Cl)) (cs:List Cl) (q:Int),(b,c)∈ir f cs q->b<q+cs.length∨((b,c)∈f (q+cs.length)/\oA cs=[]):=by
  intro f cs;induction cs with
  | nil=>
    intro q h;refine .inr ⟨?_,rfl⟩;have:q+(([]:List Cl).length:Int)=q:=by simp
    rw [this];exact h
  | cons a r j=>
    intro q h;unfold ir at h;split at h
    ·rename_i s;rcases aaf.mp h with h|h
     ·injection h with h1 l
      left;simp only [aaw];omega
     ·rcases j (q+1) h with h|⟨h,g⟩
      ·left;simp only [aaw];omega
      ·right;refine ⟨?_,?_⟩
       ·have e:q+((a::r).length:Int)=q+1+(r.length:Int):=by simp only [aaw];omega
        rw [e];exact h
       ·unfold oA at g ⊢;rw [List.filter_cons,s];exact g
    ·cases h
 intro r;induction r with
 | nil=>
   intro p h;have h:(b,c)∈ir (g_ []) p.cs (0+p.go):=h;rcases d _ _ _ h with h|⟨h,_⟩
   ·exact ⟨by show b<p.go+(p.cs.length:Int);omega,rfl⟩
   ·cases h
 | cons q r j=>
   intro p h;have h:(b,c)∈ir (g_ (q::r)) p.cs (0+p.go):=h;by_cases i:b<p.go+(p.cs.length:Int)
   ·refine ⟨.inl i,?_⟩;show (if p.go+(p.cs.length:Int)≤b then lr b r (kE p q) else p::q::r).flatMap _=_;rw [aac (by omega)]
   ·rcases d _ _ _ h with h|⟨h,g⟩
    ·omega
    ·have l:(b,c)∈g_ (kE p q::r) 0:=by show (b,c)∈ir (g_ r) q.cs (0+(q.go+(p.go+p.cs.length)));have m:(b,c)∈ir (g_ r) q.cs (0+p.go+(p.cs.length:Int)+q.go):=h;rw [show (0:Int)+(q.go+(p.go+p.cs.length))=0+p.go+(p.cs.length:Int)+q.go by omega];exact m
     obtain ⟨n,o⟩:=j _ l;refine ⟨.inr n,?_⟩;show (if p.go+(p.cs.length:Int)≤b then lr b r (kE p q) else p::q::r).flatMap _=_;rw [aad (by omega),o,aax,aax,aax];show oA q.cs++_=oA p.cs++_;rw [g];rfl
theorem NP (h:(a,c)∈stand n):Ug a n.pg/\(km a n.pg).flatMap (fun p=>oA p.cs)=wait n:=by
 unfold stand at h;unfold wait;cases hp:n.pg with
 |nil=>rw [hp] at h;cases h
 | cons p r=>rw [hp] at h;exact Hv a c r p h
theorem mQ:∀ {a:List (Int×Cl)} {pl q:Int} {c:Cl},Tg.ev q c∈iW pl a->(q,c)∈a
 |[],_,_,_,h=>by cases h
 | (q',c')::r,pl,q,c,h=>by
   unfold iW at h;split at h
   ·rcases aaf.mp h with h|h
    ·cases h
    ·rcases aaf.mp h with h|h
     ·injection h with h1 h2
      subst h1 h2;exact aan ..
     ·exact aag _ (mQ h)
   ·split at h
    ·rcases aaf.mp h with h|h
     ·injection h with h1 h2
      subst h1 h2;exact aan ..
     ·exact aag _ (mQ h)
    ·exact aag _ (mQ h)
noncomputable def gb (n:Ln):Option Tg×Ln:=match gf n with
 |[]=>(none,n)
 |.lost m::_=>(some (.lost m),{ n with told:=n.told+m })
 |.ev pl c::_=>(some (.ev pl c),{ n with pg:=km pl n.pg,held:=true,told:=n.told+1 })
def Tf (K:Z2):Sp:=fun vs H Q _=>∃ (a:Int) (q:Z0) (x:V) (b:Tg),vs=[.int a,.ref q]/\dR K H q [x]/\n8 H x b/\Q (.int (a+KY b)) H
theorem Ni:cA ["place","told","thing"] ["place","told"] (bK (top 55)):=by ext
theorem R9 (F:gj K "place_behind" "place_behind" (top 55) f B):cD P w K I G dI 1 f B ["place","told"] (Tf K):=by
 refine F.ok Ni (by ext) fun C A m s H vs Q E D h=>?_;obtain ⟨o,q,x,r,rfl,v,z,k⟩:=h;refine ⟨_,(b8 (iJ aaW rfl (gG (pv 1)) (cF (i:=2) Ni.nd rfl (.inl rfl)) (c7 (xX (i:=0) Ni.nd rfl (.inl rfl) (nA (dz iK (dY gZ (pv 2) cu (fun _ _=>rfl)) cH (dw _)) (dY gZ (pv 2) cu (fun _ _=>rfl)) cu) yE))) (c7 (cI (pv 0)))),?_⟩;refine ⟨_,rfl,q,rfl,⟨_,v⟩,?_⟩;refine j5 (K:=K) (a:=q) (xs:=[x]) (fun i b g=>g=H/\(∃ u,b=[some (.int (if i=0 then o else o+KY r)),some (.ref q),u])) ⟨rfl,none,rfl⟩ (fun i b g _ ⟨e,_⟩=>by rw [e];exact v) ?_ ?_
 ·rintro i y b g d ⟨rfl,u,rfl⟩
  match i,d with
  | 0,d=>
    have d:x=y:=by simpa using d
    subst d;cases r with
    | lost n=>obtain ⟨a,rfl,l⟩:=z;refine ⟨_,rfl,_,rfl,a,_,_,_,rfl,rfl,eE.of l,dO (j:=0) rfl,rfl,_,rfl,jz (by simp) ?_⟩;refine ⟨_,rfl,a,_,_,_,rfl,rfl,eE.of l,dO (j:=1) rfl,_,_,rfl,rfl,rfl,_,rfl⟩
    | ev p c=>obtain ⟨a,t,rfl,l,_⟩:=z;refine ⟨_,rfl,_,rfl,a,_,_,_,rfl,rfl,eE.of l,dO (j:=0) rfl,rfl,_,rfl,iz (by ext) ?_⟩;refine ⟨_,_,rfl,rfl,rfl,_,rfl⟩
  |i+1,d=>simp at d
 ·rintro b g ⟨rfl,u,rfl⟩;exact ⟨_,rfl,k⟩
def Tr (Z:LC):Sp:=fun vs H Q _=>∃ (k:LA) (n:Ln),vs=[.ref k.a]/\cT Z H k n/\k.cs.length≤900/\n.pg.length≤900/\(stand n).length≤900/\∀ (x:V) b a,cT Z a b (gb n).2->Mv Z k H b a->(match (gb n).1 with|none=>x=.non|some t=>n8 a x t)->Q x a
theorem SM:cA ["self","told"] ["self"] (bK (lM 14)):=by ext
theorem cT.tks (g:Z.Ok) (d:cT Z H k n) (m:Mv Z k H c a):TK H a:=fun b f e=>m.out b _ e (d.not_ls e (by intro _ z;cases z)) (by intro _ _ _ z;cases z)
theorem Pj (a:List V):mL a none (some 1)=a.take 1:=by
 cases a with
 |nil=>decide
 | cons x r=>show ((x::r).drop (HT.iM _ 0 none)).take (HT.iM _ _ (some ((1:Nat):Int))-HT.iM _ 0 none)=_;rw [HT.vZ,HT.yS,abW,Nat.sub_zero];simp
theorem SJ (F:gj K "take" "Lane.take" (lM 14) f fd) (T:Txt K mg) (L:LZ K mg Z) (ML:MD K Z.l "look" "Lane.look" (lM 13) ["self"] fL S) (GL:cD P w K mg base dI 3 fL S ["self"] (M6 Z)) (MH:MD K Z.l "hold" "Lane.hold" (lM 15) ["self","place"] fH U) (GH:cD P w K mg base dI 2 fH U ["self","place"] (Rx Z)) (DB:gK K mg "place_behind" (top 55) ["place","told"] fB W):cD P w K mg base dI 4 f fd ["self"] (Tr Z):=by
 have GB:cD P w K mg base dI 1 fB W ["place","told"] (Tf K):=R9 DB.F;refine F.ok SM (by ext) fun G A aa s H vs Q E hr h=>?_;obtain ⟨k,n,rfl,ln,hc,hl,sl,q⟩:=h;have ad:dm 1 (A.deeper (PyProof.Rows.envOfC "Lane.take" (bK (lM 14)) s.heap.objs.size f G)):=hr.mono (by decide);have ae:dm 2 (A.deeper (PyProof.Rows.envOfC "Lane.take" (bK (lM 14)) s.heap.objs.size f G)):=hr.mono (by decide);refine ⟨_,(b8 (cQ (i:=1) SM.nd rfl (.inl rfl) (du (E:=E0) (pv 0) L.lc ML.M GL hr ML.b .nil cZ)) (b8 (dW (dz iK (d9 dD (by rfl) T.len gF (aK (pv 1) b_)) cu (dw _)) (c7 (cI j9)) cV) (b8 (dW (dz iK (dY gZ (dY eV (pv 1) cu (fun _ _=>rfl)) cu (fun _ _=>rfl)) cH (dw _)) (c7 (d8 (dg (E:=E0) (pv 0) L.lc MH.M GH ae MH.b .nil cZ (aK (dY gZ (dY eV (pv 1) cu (fun _ _=>rfl)) cu (fun _ _=>rfl)) b_)))) cV) (b8 (cP (pv 0) (jt DB GB ad (aK (cz (pv 0) rfl) (aK (ni uN (pv 1) o_ (p7 cu)) b_))) rfl) (c7 (cI (dY eV (pv 1) cu (fun _ _=>rfl)))))))),?_⟩;obtain ⟨dx,e⟩:=ln.ob;refine ⟨_,rfl,k.a,dx,_,rfl,e,rfl,k,n,rfl,ln,hc,hl,sl,fun l xs H1 s1 ab g X=>?_⟩;have p:=ln.same s1;have C:Mv Z k H k H1:=Mv.same s1;refine ⟨_,rfl,l,_,rfl,.inl (dR.of g),rfl,_,rfl,?_⟩;cases hlk:gf n with
 | nil=>
   rw [hlk] at X;cases X;have et:gb n=(none,n):=by unfold gb;rw [hlk]
   rw [et] at q;exact jz rfl (q .non k H1 p C rfl)
 | cons t r=>
   rw [hlk] at X;cases X with
   |@cons x _ y _ tx am=>
   refine iz (by simp;omega) ?_
   try dsimp only [oh]
   refine nQ (fun I Y=>I=[some (.ref k.a),some (.ref l)]/\∃ k2 d,cT Z Y k2 d/\Mv Z k H k2 Y/\Y l=some (.lst (x::y))/\n8 Y x t/\d.told=n.told/\gb n=(some t,{ d with told:=d.told+KY t })) ?nx fun N hN=>?st
   case st=>
    cases t with
    | lost m=>obtain ⟨b,rfl,hb⟩:=id tx;refine ⟨_,rfl,l,_,_,_,rfl,rfl,dR.of g,dO (j:=0) rfl,b,_,_,_,rfl,rfl,eE.of hb,dO (j:=0) rfl,rfl,_,rfl,iz (by ext) (hN _ _ ⟨rfl,k,n,p,C,g,tx,rfl,?_⟩)⟩;unfold gb;rw [hlk];rfl
    | ev pl c=>
      obtain ⟨b,tt,rfl,hb,ak⟩:=id tx;have af:(pl,c)∈stand n:=mQ (pl:=n.told) (by
       have:Tg.ev pl c∈gf n:=by rw [hlk];exact aan ..
       exact this);obtain ⟨ho,_⟩:=NP af;refine ⟨_,rfl,l,_,_,_,rfl,rfl,dR.of g,dO (j:=0) rfl,b,_,_,_,rfl,rfl,eE.of hb,dO (j:=0) rfl,rfl,_,rfl,jz (by simp) ?_⟩;obtain ⟨aj,e1⟩:=p.ob;refine ⟨_,rfl,k.a,aj,_,rfl,e1,rfl,_,rfl,l,_,_,_,rfl,rfl,dR.of g,dO (j:=0) rfl,b,_,_,_,rfl,rfl,eE.of hb,dO (j:=1) rfl,k,n,pl,rfl,p,hl,ho,fun k2 J v a=>hN _ _ ⟨rfl,k2,_,v,C.trans a,?_,tx.tk (p.tks L.ok a),rfl,?_⟩⟩
      ·refine a.out _ _ g (fun m=>?_) (by intro _ _ _ z;cases z);obtain ⟨ys,ey⟩:=ln.has_ls m;rw [ab] at ey;cases ey
      ·unfold gb;rw [hlk];rfl
   case nx=>
    rintro I J ⟨rfl,k2,d,v,a,D,R,al,eT⟩;rw [eT] at q;obtain ⟨o,e2⟩:=v.ob;rw [a.a] at e2;refine ⟨_,rfl,k.a,Z.l,o,_,_,rfl,e2,L.lc,L.l6,rfl,_,rfl,_,rfl,l,_,rfl,dR.of D,fun q1 ac=>?_⟩;rw [Pj];have B:cj J (upd J q1 (.lst ((x::y).take 1))):=cj.new ac;have h3:(upd J q1 (.lst ((x::y).take 1))) q1=some (.lst [x]):=a_;generalize upd J q1 (.lst ((x::y).take 1))=H3 at B h3 ⊢;refine ⟨_,q1,x,t,rfl,dR.of h3,R.tk (n7 B),?_⟩;have e3:=B _ _ e2;have M:=v.same B;refine ⟨_,rfl,k.a,Z.l,o,_,rfl,e3,L.lc,L.l6,(show 12<1000 by decide),?_⟩;have ag:H3 k2.a=some (.ins Z.l o (wI k2.lp d)):=by rw [a.a];exact e3
    have ah:cT Z (upd H3 k.a (.ins Z.l o (d_ "told" (.int (d.told+KY t)) (wI k2.lp d)))) k2 { d with told:=d.told+KY t }:=by have:=M.setL L.ok (dx':=o) ag { d with told:=d.told+KY t } rfl;rw [a.a] at this;exact this
    have ai:l≠k.a:=iu (B _ _ D) e3 (by intro z;cases z);have O:Mv Z k2 H3 k2 (upd H3 k.a (.ins Z.l o (d_ "told" (.int (d.told+KY t)) (wI k2.lp d)))):=Mv.ins e3 (.inr (.inr rfl)) (by rw [← a.a];exact LA.a_own);refine ⟨_,rfl,l,_,_,_,rfl,rfl,dR.of (by rw [b7 ai];exact B _ _ D),dO (j:=0) rfl,?_⟩;exact q x k2 _ ah ((a.trans (Mv.same B)).trans O) ((R.tk (n7 B)).tk (M.tks L.ok O))
structure Dc (mg:Zc):Prop where
 a:∃ t,mg "FEWEST_PAGES" = some (.int 2 t)
 b:∃ t,mg "MOST_PAGES" = some (.int 16 t)
 c:∃ t,mg "LEAST_ROOM" = some (.int 5 t)
 d:∃ t,mg "MOST_ROOM" = some (.int 12 t)
def gU (a b:Int) (c:Bool):Ln:=⟨[⟨[],0,0⟩],a,b,c,false,0,none,0,0,0,0,0⟩
def MN:Sp:=fun vs H Q _=>∃ i:Int,vs=[.int i]/\2≤i/\i≤16/\Q .non H
theorem Vg:cA ["pages"] ["pages"] (bK (top 52)):=by ext
theorem JK (F:gj K "need_pages" "need_pages" (top 52) f b) (c:Dc r):cD P w K r p dI 1 f b ["pages"] MN:=by refine F.ok Vg (by ext) fun d A a s H vs Q E j h=>?_;obtain ⟨i,rfl,l,m,q⟩:=h;obtain ⟨n,e⟩:=c.a;obtain ⟨o,g⟩:=c.b;refine ⟨_,(c7 (dW (iZ (pI kY kY (ie (v:=.int 2) rfl e ⟨_,rfl⟩) (pv 0) (ie (v:=.int 16) rfl g ⟨_,rfl⟩))) (c7 dC) cV)),?_⟩;refine wH.iff (wH.not (wH.test (qP.chain qP.con (qP.var rfl) qP.con Gi.i0 Gi.i0))) (mY (fun h=>?_) (fun h=>q));simp at h;omega
def Le:Sp:=fun vs H Q _=>∃ i:Int,vs=[.int i]/\5≤i/\i≤12/\Q .non H
theorem Vs:cA ["room"] ["room"] (bK (top 53)):=by ext
theorem JM (F:gj K "need_room" "need_room" (top 53) f b) (c:Dc r):cD P w K r p dI 1 f b ["room"] Le:=by refine F.ok Vs (by ext) fun d A a s H vs Q E j h=>?_;obtain ⟨i,rfl,l,m,q⟩:=h;obtain ⟨n,e⟩:=c.c;obtain ⟨o,g⟩:=c.d;refine ⟨_,(c7 (dW (iZ (pI kY kY (ie (v:=.int 5) rfl e ⟨_,rfl⟩) (pv 0) (ie (v:=.int 12) rfl g ⟨_,rfl⟩))) (c7 dC) cV)),?_⟩;refine wH.iff (wH.not (wH.test (qP.chain qP.con (qP.var rfl) qP.con Gi.i0 Gi.i0))) (mY (fun h=>?_) (fun h=>q));simp at h;omega
def Nb (Z:LC):Sp:=fun vs H Q _=>∃ (o f:Z0) (a c:Int) (d:Bool),vs=[.ref o,.int a,.int c,.bl d]/\H o=some (.ins Z.l f [])/\2≤a/\a≤16/\5≤c/\c≤12/\∀ k e,k.a=o->k.cs=[]->cT Z e k (gU a c d)->(∀ b u,H b=some u->b≠o->e b=some u)->(∀ l∈k.ls,H l=none)->(∀ s∈k.ps,H s.p=none)->Q .non e
theorem Vo:cA ["self","pages","room","over"] ["self","pages","room","over"] (bK (lM 0)):=by ext
theorem QD (F:gj K "__init__" "Lane.__init__" (lM 0) f fd) (L:LZ K mg Z) (TL:Dc mg) (DN:gK K mg "need_pages" (top 52) ["pages"] fN N) (DR:gK K mg "need_room" (top 53) ["room"] fR O) (MkP:Mk K Z.p fI) (FI:gj K "__init__" "Page.__init__" (gM 0) fI D) (bI:Binds K D ["self"] []):cD P w K mg base dI 3 f fd ["self","pages","room","over"] (Nb Z):=by
 have GN:cD P w K mg base dI 1 fN N ["pages"] MN:=JK DN.F TL;have GR:cD P w K mg base dI 1 fR O ["room"] Le:=JM DR.F TL;have GI:cD P w K mg base dI 1 fI D ["self"] (Jl Z):=Fb FI L;refine F.ok Vo (by ext) fun aa A ab s H vs Q E hr h=>?_;obtain ⟨o,c,a,d,p,rfl,ho,p1,p2,r1,r2,q⟩:=h;have I:dm 1 (A.deeper (PyProof.Rows.envOfC "Lane.__init__" (bK (lM 0)) s.heap.objs.size f aa)):=hr.mono (by decide);refine ⟨_,(b8 (d8 (jt DN GN I (aK (pv 1) b_))) (b8 (d8 (jt DR GR I (aK (pv 2) b_))) (b8 (cP (pv 0) (pv 1) rfl) (b8 (cP (pv 0) (pv 2) rfl) (b8 (cP (pv 0) (pv 3) rfl) (b8 (cP (pv 0) (gD (aK (qi (E:=E0) MkP GI hr rfl L.pmg bI .nil cZ) b_)) rfl) (b8 (cP (pv 0) jf rfl) (b8 (cP (pv 0) cu rfl) (b8 (cP (pv 0) j9 rfl) (b8 (cP (pv 0) cu rfl) (b8 (cP (pv 0) cu rfl) (b8 (cP (pv 0) cu rfl) (b8 (cP (pv 0) cu rfl) (c7 (cP (pv 0) cu rfl))))))))))))))),?_⟩;refine ⟨_,rfl,a,rfl,p1,p2,?_⟩;refine ⟨_,rfl,d,rfl,r1,r2,?_⟩;refine ⟨_,rfl,_,rfl,o,Z.l,c,[],rfl,ho,L.lc,L.l1,(show 0<1000 by decide),?_⟩;refine ⟨_,rfl,_,rfl,o,Z.l,c,_,rfl,a_,L.lc,L.l2,(show 1<1000 by decide),?_⟩;refine ⟨_,rfl,_,rfl,o,Z.l,c,_,rfl,a_,L.lc,L.l3,(show 2<1000 by decide),?_⟩;generalize C:upd (upd (upd H o (.ins Z.l c (d_ "most" (.int a) []))) o (.ins Z.l c (d_ "room" (.int d) (d_ "most" (.int a) [])))) o (.ins Z.l c (d_ "over" (.bl p) (d_ "room" (.int d) (d_ "most" (.int a) []))))=H3;have S:∀ b,b≠o->H3 b=H b:=fun b g=>by rw [← C,b7 g,b7 g,b7 g]
 have T:H3 o=some (.ins Z.l c [("most",.int a),("room",.int d),("over",.bl p)]):=by rw [← C,a_];rfl
 clear C;refine fun x y R ac ad=>⟨x,y,rfl,a_,fun l G i ae r kp=>⟨rfl,?_⟩⟩;have U:cj H3 G:=eO R ac kp;have B:H3 l=none:=by
  have W:l≠x:=fun z=>by rw [z,a_] at i;cases i
  have X:l≠y:=fun z=>by rw [z,b7 ad,a_] at i;cases i
  rw [b7 W,b7 X] at i;exact i
 refine ⟨(by ext),fun n j=>?_⟩;have J:cj G (upd G n (.lst [.ref x])):=cj.new j;have h5:(upd G n (.lst [.ref x])) n=some (.lst [.ref x]):=a_;generalize upd G n (.lst [.ref x])=H5 at J h5 ⊢;have e5:=J _ _ (U _ _ T);have W:x≠o:=fun z=>by rw [z,T] at R;cases R
 have X:l≠o:=fun z=>by rw [z,T] at B;cases B
 have n3:n≠o:=fun z=>by rw [z,U _ _ T] at j;cases j
 have af:n≠l:=fun z=>by rw [z,r] at j;cases j
 have ag:∀ v:Hp,v o=some (.ins Z.l c (wI n (gU a d p)))->(∀ b,b≠o->v b=H5 b)->Q .non v:=by
  intro v eF Y;refine q ⟨o,n,[⟨x,l,[]⟩]⟩ v rfl rfl ⟨⟨c,eF⟩,?_,.cons ⟨⟨y,?_⟩,?_,.nil⟩ .nil,?_,?_,?_⟩ ?_ ?_ (fun s m=>by cases aai.mp m;show H x=none;rw [← S _ W];exact R)
  ·show v n=some (.lst [.ref x]);rw [Y _ n3];exact h5
  ·show v x=_;rw [Y _ W];exact J _ _ ae
  ·show v l=some (.lst []);rw [Y _ X];exact J _ _ r
  ·simp
  ·show [n,l].Nodup;simp [af]
  ·show ([]:Zh).Nodup;simp
  ·intro b u e g;rw [Y _ g];refine J _ _ (U _ _ ?_);rw [S _ g];exact e
  ·intro b M;have M:b∈[n,l]:=M;rcases aaf.mp M with rfl|M
   ·rw [← S _ n3];exact dh U j
   ·cases aai.mp M;rw [← S _ X];exact B
 refine ⟨_,rfl,o,Z.l,c,_,rfl,e5,L.lc,L.l4,(show 3<1000 by decide),?_⟩;refine ⟨_,rfl,o,Z.l,c,_,rfl,a_,L.lc,L.l5,(show 4<1000 by decide),?_⟩;refine ⟨_,rfl,o,Z.l,c,_,rfl,a_,L.lc,L.l6,(show 5<1000 by decide),?_⟩;refine ⟨_,rfl,o,Z.l,c,_,rfl,a_,L.lc,L.l7,(show 6<1000 by decide),?_⟩;refine ⟨_,rfl,o,Z.l,c,_,rfl,a_,L.lc,L.l8,(show 7<1000 by decide),?_⟩;refine ⟨_,rfl,o,Z.l,c,_,rfl,a_,L.lc,L.l9,(show 8<1000 by decide),?_⟩;refine ⟨_,rfl,o,Z.l,c,_,rfl,a_,L.lc,L.l10,(show 9<1000 by decide),?_⟩;refine ⟨_,rfl,o,Z.l,c,_,rfl,a_,L.lc,L.l11,(show 10<1000 by decide),?_⟩;refine ⟨_,rfl,o,Z.l,c,_,rfl,a_,L.lc,L.l12,(show 11<1000 by decide),?_⟩;exact ag _ a_ (fun b g=>by rw [b7 g,b7 g,b7 g,b7 g,b7 g,b7 g,b7 g,b7 g,b7 g])
theorem uy {n:Ln} (ne:n.pg≠[]):∃ r h,n.pg=r++[h]/\n.pg[n.pg.length-1]?=some h:=by
 rcases List.eq_nil_or_concat n.pg with e|⟨r,h,e⟩
 ·exact absurd e ne
 ·rw [List.concat_eq_append] at e;exact ⟨r,h,e,by rw [e];simp⟩
theorem D_ (e:n.pg=r++[h]):m5 c z n={ n with pg:=r++[{ h with cs:=h.cs++[c],us:=h.us+z }] }:=by
 have a:n.pg[n.pg.length-1]?=some h:=by rw [e];simp
 unfold m5;rw [a];show ({ n with pg:=n.pg.set (n.pg.length-1) _ }:Ln)=_;rw [e];simp
def pG (f:jj) (z:Int):Prop:=f.2.1≤z/\z≤f.2.2
noncomputable abbrev Y4:List Str:=["self","values","at","name","low","high","value"]
theorem zV:cA Y4 ["self","values"] (bK (kM 4)):=by ext
def CJ (C:Z0):Sp:=fun vs H Q _=>∃ (o a b:Z0) (n:Str) (fs:List jj) (c:List Int),vs=[.ref o,.ref b]/\eY C H o n a fs/\H b=some (.tup (c.map V.int))/\Pd pG fs c/\∀ d,cj H d->Q .non d
theorem Iu (F:gj K "need" "Kind.need" (kM 4) f fd) (T:Txt K Z) (W:Z "enumerate" = none) (X:Z "zip" = none) (v:KCls K Z C) :
 cD P w K Z base dI 1 f fd ["self","values"] (CJ C):=by
 refine F.ok zV (by ext) fun aa A B s H vs Q E hr h=>?_;obtain ⟨o,a,b,n,fs,N,rfl,⟨⟨dx,ho⟩,j,O,pf⟩,R,fz,k⟩:=h;refine ⟨_,(b8 (iJ aaW rfl (Em rfl W rfl X (aK (cz (pv 0) rfl) (aK (pv 1) b_))) (h_ rfl (cJ (cF (i:=2) zV.nd rfl (.inl rfl)) (cJ (h_ rfl (cJ (h_ rfl (cJ (cF (i:=3) zV.nd rfl (.inl rfl)) (cJ (cF (i:=4) zV.nd rfl (.inl rfl)) (cJ (cF (i:=5) zV.nd rfl (.inl rfl)) fZ)))) (cJ (cF (i:=6) zV.nd rfl (.inl rfl)) fZ))) fZ))) (c7 (dW (iZ (pI kY kY (pv 4) (pv 6) (pv 5))) (c7 dC) cV))) (c7 (dW (dz tK (d9 dD (by rfl) T.len gF (aK (pv 1) b_)) (d9 dD (by rfl) T.len gF (aK (cz (pv 0) rfl) b_)) (dw _)) (c7 dC) cV))),?_⟩;have pl:=aaZ pf;have ab:(N.map V.int).length=N.length:=aah ..;have fl:=fz.len;refine ⟨_,rfl,o,C,dx,_,_,rfl,ho,v.cl,v.nF,jJ n a,_,rfl,a,b,rfl,⟨j,eE.of O⟩,⟨_,eE.of R⟩,?_⟩;refine Be (K:=K) (a1:=a) (a2:=b) (xs:=j) (ys:=N.map V.int) (fun i c Y=>(∃ D G I J L,c=[some (.ref o),some (.ref b),D,G,I,J,L])/\cj H Y) ⟨⟨none,none,none,none,none,rfl⟩,cj.refl _⟩ (fun i c Y _ z=>⟨eE.of (z.2 _ _ O),eE.of (z.2 _ _ R)⟩) ?_ ?_
 ·rintro i x y c r q p hx hy ⟨⟨D,G,I,J,L,rfl⟩,d⟩ hq hp;obtain ⟨⟨m,lo,hi⟩,S,l,rfl,U⟩:=jo pf hx;rw [aau] at hy;obtain ⟨z,hz,rfl⟩:=abk.mp hy;obtain ⟨z',e,g⟩:=fz.at S;rw [hz] at e;cases e;have s2:cj r (upd (upd r q (.tup [.ref l,.int z])) p (.tup [.int i,.ref q])):=(cj.new hq).trans (cj.new hp);have M:(upd (upd r q (.tup [.ref l,.int z])) p (.tup [.int i,.ref q])) q=some (.tup [.ref l,.int z]):=(cj.new hp) _ _ a_;refine ⟨p,_,rfl,eE.of a_,rfl,_,_,rfl,_,_,rfl,q,_,rfl,eE.of M,rfl,_,_,rfl,l,_,rfl,eE.of (s2 _ _ (d _ _ U)),rfl,_,_,rfl,_,_,rfl,_,_,rfl,rfl,_,_,rfl,rfl,rfl,?_⟩;dsimp only [dM];refine wH.iff (wH.not (wH.test (qP.chain (qP.var rfl) (qP.var rfl) (qP.var rfl) Gi.i0 Gi.i0))) ?_;refine mY (fun h=>?_) (fun h=>?_)
  ·exfalso;have g:lo≤z/\z≤hi:=g;simp [g.1,g.2] at h
  ·exact ⟨⟨_,_,_,_,_,rfl⟩,d.trans s2⟩
 ·rintro c r ⟨⟨D,G,I,J,L,rfl⟩,d⟩;refine ⟨_,rfl,b,_,rfl,.inr (eE.of (d _ _ R)),_,rfl,o,C,dx,_,_,rfl,d _ _ ho,v.cl,v.nF,jJ n a,a,j,rfl,.inr (eE.of (d _ _ O)),rfl,_,rfl,iz (by simp [pl,fl]) (k _ d)⟩
def e_ (tk:Int) (a:List Int) (c:Cl):Cl:=if c.tk=tk then { c with vs:=a } else c
def jF (tk:Int) (a:List Int) (n:Ln):Ln:={ n with pg:=n.pg.map fun p=>{ p with cs:=p.cs.map (e_ tk a) } }
theorem cT.setF (x:Z.Ok) (d:cT Z H k n) (S:c∈k.cs) (T:gJ Z H c m) (B:m.tk=tk) (U:((fQ n).map (·.tk)).Nodup) (e:H c=some (.ins Z.c i (uR m kk t))) (W:H b=some (.tup (j.map V.int))) :
 cT Z (upd H c (.ins Z.c i (uR m kk b))) k (jF tk j n):=by
 have kt:Kt Z H (upd H c (.ins Z.c i (uR m kk b))):=Kt.ins e x.kc;obtain ⟨dl,f⟩:=d.ob;obtain ⟨I,J,L⟩:=d.at_c S;have v:I.tk=tk:=(JG T J).symm.trans B;refine ⟨⟨dl,?_⟩,?_,?_,d.n1,d.n2,d.n3⟩
 ·rw [b7 (fun z=>by
   rw [z,e] at f;injection f with f
   injection f with f
   exact x.cl f)];exact f
 ·rw [b7 (fun z=>by have:=d.ls;rw [z,e] at this;cases this)];exact d.ls
 ·have one:∀ (q:Z0) (y:Cl),gJ Z H q y->(q,y)∈k.cs.zip (fQ n)->gJ Z (upd H c (.ins Z.c i (uR m kk b))) q (e_ tk j y):=by
   intro q y r l;by_cases z:q=c
   ·subst z;obtain ⟨X,M,N,Y,O,Q,w⟩:=r.ex;have a:=O;rw [e] at a;injection a with a
    injection a with _ e2 e3
    have A:m.tk=y.tk:=by injection e3 with e3;injection e3 with _ e3;injection e3
    have D:m.tm=y.tm:=by injection e3 with _ e3;injection e3 with e3 _;injection e3 with _ e3;injection e3
    have E:kk=M:=by injection e3 with _ e3;injection e3 with _ e3;injection e3 with e3 _;injection e3 with _ e3;injection e3
    have F:m.gv=y.gv:=by injection e3 with _ e3;injection e3 with _ e3;injection e3 with _ e3;injection e3 with _ e3;injection e3 with e3 _;injection e3 with _ e3;injection e3
    subst E;have G:e_ tk j y={ y with vs:=j }:=by unfold e_;rw [aad (by rw [← A];exact B)]
    rw [G];refine ⟨i,kk,N,b,?_,Q.kt kt,kt.tk _ _ W⟩;rw [a_];show some (HO.ins Z.c i [("ticket",.int m.tk),("time",.int m.tm),("form",.ref kk),("filled",.ref b),("given",.bl m.gv)])=some (HO.ins Z.c i [("ticket",.int y.tk),("time",.int y.tm),("form",.ref kk),("filled",.ref b),("given",.bl y.gv)]);rw [A,D,F]
   ·have:y.tk≠tk:=fun h=>z (xJ U l L (h.trans v.symm));unfold e_;rw [aac this];exact r.upd kt z
  refine Pd.mapR (fun s p ⟨r,l⟩=>?_) d.pg.both;obtain ⟨R,g⟩:=r.ob;refine ⟨⟨R,?_⟩,?_,?_⟩
  ·rw [b7 (fun z=>by
    rw [z,e] at g;injection g with g
    injection g with g
    exact x.cp g)];exact g
  ·rw [b7 (fun z=>by have:=r.ls;rw [z,e] at this;cases this)];exact r.ls
  ·refine Pd.mapR (fun b y ⟨C,o⟩=>one b y C ?_) r.cs.both;rw [d.zips];exact aaN.mpr ⟨(s,p),l,o⟩
def S7 (Z:LC):Sp:=fun vs H Q _=>∃ (k:LA) (n:Ln) (tk:Int) (b:Z0) (a:List Int),vs=[.ref k.a,.int tk,.ref b]/\cT Z H k n/\k.cs.length≤900/\n.pg.length≤900/\((fQ n).map (·.tk)).Nodup/\(∃ m∈wait n,m.tk=tk)/\H b=some (.tup (a.map V.int))/\(∀ m∈wait n,m.tk=tk->Pd pG m.fi a)/\
 ∀ c,cT Z c k (jF tk a n)->Mv Z k H k c->Q .non c
theorem Qm:cA ["self","ticket","values","claim"] ["self","ticket","values"] (bK (lM 9)):=by ext
theorem Qt (F:gj K "fill" "Lane.fill" (lM 9) f X) (T:Txt K mg) (B:mg "enumerate" = none) (C:mg "zip" = none) (L:LZ K mg Z) (Y:MD K Z.l "waiting_with" "Lane.waiting_with" (lM 7) ["self","ticket"] U l) (GW:cD P w K mg base dI 3 U l ["self","ticket"] (Hf Z)) (D:MD K Z.k "need" "Kind.need" (kM 4) ["self","values"] W o):cD P w K mg base dI 4 f X ["self","ticket","values"] (S7 Z):=by have GN:cD P w K mg base dI 1 W o ["self","values"] (CJ Z.k):=Iu D.F T B C L.kc;refine F.ok Qm (by ext) fun r A v s H vs Q E G h=>?_;obtain ⟨k,n,tk,b,zs,rfl,z,hc,hl,nd,wl,N,fz,q⟩:=h;have x:dm 1 (A.deeper (PyProof.Rows.envOfC "Lane.fill" (bK (lM 9)) s.heap.objs.size f r)):=G.mono (by decide);refine ⟨_,(b8 (cQ (i:=3) Qm.nd rfl (.inl rfl) (dg (E:=E0) (pv 0) L.lc Y.M GW G Y.b .nil cZ (aK (pv 1) b_))) (b8 (d8 (dg (E:=E0) (cz (pv 3) rfl) L.kc.cl D.M GN x D.b .nil cZ (aK (pv 2) b_))) (c7 (cP (pv 3) (gW iC (by rfl) T.tuple jx (aK (pv 2) b_)) rfl)))),?_⟩;obtain ⟨dx,e⟩:=z.ob;refine ⟨_,rfl,k.a,dx,_,rfl,e,rfl,_,rfl,k,n,tk,rfl,z,hc,hl,wl,fun c m H1 p I J mm M=>?_⟩;obtain ⟨O,kk,a,t,R,S,et⟩:=id J.ex;obtain ⟨⟨dk,ek⟩,_⟩:=id S;refine ⟨_,rfl,c,Z.c,O,_,_,rfl,R,L.cc,L.c3,rfl,kk,dk,_,rfl,ek,zO m.nm a (by ext) (by ext),_,rfl,kk,a,b,m.nm,m.fi,zs,rfl,S,p _ _ N,fz m mm M,fun H2 g=>?_⟩;have y:=(z.same p).same g;have d:=g _ _ R;have j:=g _ _ (p _ _ N);refine ⟨_,rfl,b,_,rfl,.inr ⟨eE.of j,?_⟩⟩;refine ⟨_,rfl,c,Z.c,O,_,rfl,d,L.cc,L.c4,(show 5<1000 by decide),?_⟩;exact q _ (y.setF L.ok I (J.same g) M nd d j) ((Mv.same (Z:=Z) (k:=k) (p.trans g)).trans (Mv.ins d (.inl rfl) (LA.c_own I)))
def Py (Z:LC):Sp:=fun vs H Q _=>∃ (k:LA) (n:Ln),vs=[.ref k.a]/\cT Z H k n/\∀ t a,cj H a->a t=some (.tup [.int n.giv,.int n.thr,.int n.los,.int n.mis])->Q (.ref t) a
theorem WF:cA ["self"] ["self"] (bK (lM 19)):=by ext
theorem R5 (F:gj K "counts" "Lane.counts" (lM 19) f c) (L:LZ K m Z):cD P w K m l dI 1 f c ["self"] (Py Z):=by refine F.ok WF (by ext) fun d A b s H vs Q E j h=>?_;obtain ⟨k,n,rfl,i,q⟩:=h;refine ⟨_,(c7 (cI (eZ (aK (cz (pv 0) rfl) (aK (cz (pv 0) rfl) (aK (cz (pv 0) rfl) (aK (cz (pv 0) rfl) b_))))))),?_⟩;obtain ⟨a,e⟩:=i.ob;exact ⟨_,rfl,k.a,Z.l,a,_,_,rfl,e,L.lc,L.l9,rfl,_,rfl,k.a,Z.l,a,_,_,rfl,e,L.lc,L.l10,rfl,_,rfl,k.a,Z.l,a,_,_,rfl,e,L.lc,L.l11,rfl,_,rfl,k.a,Z.l,a,_,_,rfl,e,L.lc,L.l12,rfl,(by ext),fun t g=>q t _ (cj.new g) a_⟩
noncomputable def idx:Int->List Cl->List (Int×Cl)
 |_,[]=>[]
 |q,c::r=>(q,c)::idx (q+1) r
noncomputable def evs (a:List (Int×Cl)):List Tg:=a.map fun e=>.ev e.1 e.2
theorem zA:∀ (q:Int) (a:List Cl),(idx q a).length=a.length
 |_,[]=>rfl
 |q,c::r=>by rw [idx,aaw,aaw,zA (q+1) r]
theorem ur:∀ (q:Int) (b a:List Cl),idx q (b++a)=idx q b++idx (q+b.length) a
 |q,[],a=>by simp [idx]
 | q,c::r,a=>by rw [acu,idx,ur (q+1) r a,idx,acu,aaw];congr 3;omega
theorem m9:∀ (cs:List Cl) (q:Int),(∀ c∈cs,c.gv=true)->ir f cs q=idx q cs++f (q+cs.length)
 |[],q,_=>by simp [ir,idx]
 | c::cs,q,h=>by rw [ir,aad (h c (aan ..)),m9 cs (q+1) fun x m=>h x (aag _ m),idx,acu,aaw];congr 3;omega
theorem pF:∀ (a:List Pg) (q:Int),(∀ p∈a,p.go=0)->(∀ c∈a.flatMap (·.cs),c.gv=true)->g_ a q=idx q (a.flatMap (·.cs))
 |[],_,_,_=>rfl
 | p::r,q,h,g=>by rw [aax] at g ⊢;rw [g_,m9 p.cs _ fun c m=>g c (aal.mpr (.inl m)),ur,h p (aan ..),Int.add_zero,pF r _ (fun p m=>h p (aag _ m)) fun c m=>g c (aal.mpr (.inr m))]
theorem rA:∀ (q:Int) (a:List Cl),iW q (idx q a)=evs (idx q a)
 |_,[]=>rfl
 | q,c::r=>by rw [idx,iW,aac (by omega),aad rfl,rA (q+1) r];rfl
theorem qJ:∀ (j:Nat) (q:Int) (a:List Cl),j≤a.length->iW (q+j) (idx q a)=evs (idx (q+j) (a.drop j))
 | 0,q,a,_=>by rw [show q+((0:Nat):Int)=q by simp,abW];exact rA q a
 |j+1,q,[],h=>by simp at h
 | j+1,q,c::r,h=>by rw [idx,iW,aac (by omega),aac (by omega),List.drop_succ_cons];have:=qJ j (q+1) r (by simpa using h);rw [show q+1+(j:Int)=q+((j+1:Nat):Int) by omega] at this;exact this
structure Jv (most room:Int) (A:List Cl) (n:Ln) (taken:Nat) (mis turn:Int):Prop where
 pg:∃ p r,n.pg=p::r/\(∀ q∈r,q.go=0)/\∃ g:Nat,p.go=(g:Int)/\g≤taken/\(p::r).flatMap (·.cs)=A.drop g
 tl:taken≤A.length
 gv:∀ c∈A,c.gv=true
 nd:(A.map (·.tk)).Nodup
 tk:∀ c∈A,c.tk≤n.tks
 us:∀ q∈n.pg.dropLast,0<q.us
 mo:n.most=most
 ro:n.room=room
 ov:n.over=false
 len:(n.pg.length:Int)≤most+lD n
 told:n.told=taken
 giv:n.giv=A.length
 thr:n.thr=0
 los:n.los=0
 mis:n.mis=mis
 la:∀ t,n.last=some t->t<turn
 tu:n.tks≤turn
 al:(A.length:Int)≤n.tks
theorem Jv.cls {j l:Int} {A:List Cl} {n:Ln} {i:Nat} {q o:Int} (h:Jv j l A n i q o):∃ g:Nat,g≤i/\fQ n=A.drop g/\stand n=idx g (A.drop g):=by
 obtain ⟨p,r,e,d,g,f,gt,a⟩:=h.pg;refine ⟨g,gt,?_,?_⟩
 ·unfold Cm.fQ;rw [e];exact a
 ·unfold stand;rw [e];have b:∀ c∈(p::r).flatMap (·.cs),c.gv=true:=fun c m=>h.gv c (by rw [a] at m;exact ac2 m);rw [aax] at a b;rw [g_,m9 p.cs _ fun c m=>b c (aal.mpr (.inl m)),pF r _ d fun c m=>b c (aal.mpr (.inr m)),f,ab3,← ur,a]
theorem Jv.look {c d:Int} {A:List Cl} {n:Ln} {b:Nat} {f e:Int} (h:Jv c d A n b f e):gf n=evs (idx b (A.drop b)):=by obtain ⟨g,gt,_,a⟩:=h.cls;have:=h.tl;unfold gf;rw [h.told,a];have:=qJ (b-g) (g:Int) (A.drop g) (by rw [abT];omega);rw [show (g:Int)+((b-g:Nat):Int)=(b:Int) by omega,List.drop_drop,show g+(b-g)=b by omega] at this;exact this
theorem Jv.wait0 {i j:Int} {A:List Cl} {n:Ln} {f:Nat} {o l:Int} (h:Jv i j A n f o l):wait n=[]:=by
 obtain ⟨g,_,b,_⟩:=h.cls;have:∀ a:List Pg,(∀ c∈a.flatMap (·.cs),c.gv=true)->(a.flatMap fun p=>oA p.cs)=[]:=by intro a g;rw [List.flatMap_eq_nil_iff];intro p d;unfold oA;rw [List.filter_eq_nil_iff];intro c e;have:=g c (aaN.mpr ⟨p,d,e⟩);simp [this]
 refine this _ fun c m=>h.gv c ?_;unfold Cm.fQ at b;rw [b] at m;exact ac2 m
theorem Jv.take {most room:Int} {A:List Cl} {n:Ln} {taken:Nat} {mis turn:Int} (h:Jv most room A n taken mis turn):(taken=A.length/\gb n=(none,n))∨∃ c,A[taken]?=some c/\(gb n).1=some (.ev taken c)/\Jv most room A (gb n).2 (taken+1) mis turn:=by
 have lk:=h.look;by_cases he:taken=A.length
 ·left;refine ⟨he,?_⟩;unfold gb;rw [lk,he,acz];rfl
 ·right;have tl:=h.tl;have hlt:taken<A.length:=by omega
  have hd:A.drop taken=A[taken]::A.drop (taken+1):=acy hlt;have tm:gb n=(some (.ev taken A[taken]),{ n with pg:=km taken n.pg,held:=true,told:=n.told+1 }):=by unfold gb;rw [lk,hd];rfl
  refine ⟨A[taken],aaL hlt,by rw [tm],?_⟩;rw [tm];obtain ⟨p,r,e,rz,g,pg,gt,fl⟩:=h.pg;have main:∀ (r:List Pg) (p:Pg) (g:Nat),p.go=(g:Int)->g≤taken->(∀ q∈r,q.go=0)->(p::r).flatMap (·.cs)=A.drop g->(∀ q∈(p::r).dropLast,0<q.us)->
   ∃ p' r',lr taken r p=p'::r'/\(∀ q∈r',q.go=0)/\(∃ g':Nat,p'.go=(g':Int)/\g'≤taken/\(p'::r').flatMap (·.cs)=A.drop g')/\(∀ q∈(p'::r').dropLast,0<q.us)/\(p'::r').length≤(p::r).length:=by
   intro r;induction r with
   |nil=>intro p g pg gt rz fl us;exact ⟨p,[],rfl,rz,⟨g,pg,gt,fl⟩,us,aae _⟩
   | cons q r ih=>
     intro p g pg gt rz fl us;by_cases hc:p.go+(p.cs.length:Int)≤taken
     ·rw [lr,aad hc];obtain ⟨p',r',e1,e2,e3,e4,e5⟩:=ih (kE p q) (g+p.cs.length) (by
       show q.go+(p.go+p.cs.length)=_;rw [rz q (aan ..),pg];omega) (by omega) (fun x m=>rz x (aag _ m)) (by
       have fl2:p.cs++(q::r).flatMap (·.cs)=A.drop g:=fl;have fl3:(q::r).flatMap (·.cs)=A.drop (g+p.cs.length):=by rw [← List.drop_drop,← fl2,List.drop_left]
       exact fl3) (fun x m=>by
       cases r with
       |nil=>simp at m
       | cons r0 r1=>
         rw [ab9] at m;rcases aaf.mp m with rfl|m
         ·exact us q (by rw [ab9,ab9];simp)
         ·exact us x (by rw [ab9,ab9];simp [m]));exact ⟨p',r',e1,e2,e3,e4,by simp only [aaw] at e5 ⊢;omega⟩
     ·rw [lr,aac hc];exact ⟨p,q::r,rfl,rz,⟨g,pg,gt,fl⟩,us,aae _⟩
  have us:=h.us;rw [e] at us;obtain ⟨p',r',e1,e2,⟨g',e3,e4,e5⟩,e6,e7⟩:=main r p g pg gt rz fl us;have eh:km taken n.pg=p'::r':=by rw [e];exact e1
  have ln:=h.len;rw [e] at ln;refine ⟨⟨p',r',eh,e2,g',e3,by omega,e5⟩,by omega,h.gv,h.nd,h.tk,?_,h.mo,h.ro,h.ov,?_,?_,h.giv,h.thr,h.los,h.mis,h.la,h.tu,h.al⟩
  ·show ∀ q∈(km taken n.pg).dropLast,0<q.us;rw [eh];exact e6
  ·show ((km taken n.pg).length:Int)≤most+((1:Nat):Int);rw [eh];have:lD n≤1:=Ei n;omega
  ·show n.told+1=_;rw [h.told];omega
noncomputable def Q6 (i:Nat):Stmt:=PySem.Challenge.pw_lanescribe_k64_missed_and_stopped_at_onc.main.body.getD i (.Pass ⟨0,0,0,0⟩)
def Ef (K:Z2) (b c cM a:Z0) (fs:List (Str×V)) (wd:Str):Prop:=
 (mroIn K a (.ref b)=some true/\yf K a "at"/\∃ n:Int,fs.lookup ("at" : Str)=some (.int n)/\n.natAbs.log2<1920/\("badvalue " : Str).length+(toString n:Str).length≤sizeLine/\wd=("badvalue " : Str)++(toString n:Str))∨
 (mroIn K a (.ref b)=some false/\mroIn K a (.ref c)=some true/\yf K a "word"/\fs.lookup ("word" : Str)=some (.str wd))∨
 (mroIn K a (.ref b)=some false/\mroIn K a (.ref c)=some false/\mroIn K a (.ref cM)=some true/\yf K a "word"/\fs.lookup ("word" : Str)=some (.str wd))
section
variable {P:Z4} {w:Z5} {K:Z2} {mg:Zc} {base:Z7}
def Ds (P:Z4) (w:Z5) (K:Z2) (i:Zc) (c:Z7) (k:Nat) (j m cM:Z0):Shared->List Env->Sp:=fun s b vs H Q _=>∃ g e f,vs=[.ref g]/\Thunk P w K i c s.heap H (frs b) k g H e f/\
 (∀ v a,e v a->∀ l,a l=none->Q (.ref l) (upd a l (.lst [.str "",v])))/\
 ∀ cls dd a,f cls dd a->∃ h d fs wd,cls=.ref h/\dd=some d/\a d=some (qm d fs)/\Ef K j m cM h fs wd/\∀ l,a l=none->Q (.ref l) (upd a l (.lst [.str wd,.non]))
structure RV (K:Z2) (mg:Zc) (cB cS cM:Z0):Prop where
 str:mg "str" = none
 bv:mg "BadValue" = some (.ref cB)
 se:mg "ScribeError" = some (.ref cS)
 mi:mg "Missing" = some (.ref cM)
 xb:∃ B n,kI K cB B n
 xs:∃ B n,kI K cS B n
 xm:∃ B n,kI K cM B n
theorem m7:cA ["_law_ask_here","_law_told","_law_word_here","e"] ["_law_ask_here"] (bK (Q6 118)):=by ext
theorem O7 {CX:rK} {f N O cM:Z0} {Y:Z3} {k:Nat} (F:gj K "_law_ask" "_law_ask" (Q6 118) f Y) (T:RV K mg N O cM):rR P w K mg base CX (k+1) f Y ["_law_ask_here"] (Ds P w K mg base k N O cM):=by
 obtain ⟨B1,n1,x1⟩:=T.xb;obtain ⟨B2,n2,U⟩:=T.xs;obtain ⟨B3,n3,x3⟩:=T.xm;refine F.okS m7 (fun s d vs H Q E h=>?_) (fun Z A d s H vs Q E hr h=>?_)
 ·obtain ⟨g,W,X,rfl,_⟩:=h;rfl
 ·obtain ⟨g,W,X,rfl,Th,hv,he⟩:=h;refine ⟨_,(b8 (cQ (i:=1) m7.nd rfl (.inl rfl) j9) (b8 (cQ (i:=2) m7.nd rfl (.inl rfl) cH) (b8 (KJ rfl rfl rfl (Ao (k:=k) (i:=1) (j:=0) m7.nd rfl (.inl rfl) rfl (.inl rfl) rfl hr) (ux (i:=3) (C:=N) (B:=B1) (newId:=n1) m7.nd rfl rfl (fun c o=>ie (by rfl) T.bv rfl) (fun c R o I dd r e hd b=>c7 (cQ (i:=2) m7.nd rfl (.inl rfl) (dN kj cH (gW uD (by rfl) T.str yp (aK (tQ r e hd b (pv 3)) b_))))) (ux (i:=3) (C:=O) (B:=B2) (newId:=n2) m7.nd rfl rfl (fun c o=>ie (by rfl) T.se rfl) (fun c R o I dd r e hd b=>c7 (cQ (i:=2) m7.nd rfl (.inl rfl) (tQ r e hd b (pv 3)))) (ux (i:=3) (C:=cM) (B:=B3) (newId:=n3) m7.nd rfl rfl (fun c o=>ie (by rfl) T.mi rfl) (fun c R o I dd r e hd b=>c7 (cQ (i:=2) m7.nd rfl (.inl rfl) (tQ r e hd b (pv 3)))) Nr)))) (c7 (cI (gD (aK (pv 2) (aK (pv 1) b_)))))))),?_⟩;have a:∀ x y:V,[x,y].length≤sizeLine:=fun x y=>by rw [sizeLine_eq];show 2≤16777216;decide
  refine ⟨g,W,X,rfl,Th,fun v S q=>?_,fun cls dd S q=>?_⟩
  ·exact ⟨_,rfl,_,rfl,a _ _,fun p m=>hv v S q p m⟩
  ·obtain ⟨I,J,fs,wd,rfl,rfl,hd,e,L⟩:=he _ _ _ q;refine ⟨I,rfl,x1,?_⟩;rcases e with ⟨D,G,n,l,z,zz,rfl⟩|⟨D,M,G,l⟩|⟨D,M,m3,G,l⟩
   ·refine ⟨true,D,fun c=>?_⟩;exact ⟨_,rfl,J,fs,_,rfl,rfl,hd,G,l,n,rfl,z,_,_,rfl,rfl,zz,_,rfl,_,rfl,a _ _,fun p m=>L p m⟩
   ·refine ⟨false,D,U,true,M,fun c=>?_⟩;exact ⟨_,rfl,J,fs,_,rfl,rfl,hd,G,l,_,rfl,_,rfl,a _ _,fun p m=>L p m⟩
   ·refine ⟨false,D,U,false,M,x3,true,m3,fun c=>?_⟩;exact ⟨_,rfl,J,fs,_,rfl,rfl,hd,G,l,_,rfl,_,rfl,a _ _,fun p m=>L p m⟩
end
abbrev Mz:Stmt:=inClass (top 2) 0
section
variable {P:Z4} {w:Z5} {K:Z2} {mg:Zc} {base:Z7}
theorem jH.ok1 (F:jH K x b e v f m) (S:cA N i (bK e)) (len:∀ vs H Q E,j vs H Q E->vs.length=i.length)
 (d:∀ (c:Z6) (A:Z8) (a:List Env) (s:Z1) (H:Hp) (vs:List V) (Q:VK) (E:XK),dm k (A.deeper (PyProof.Rows.envOfC b (bK e) s.heap.objs.size f c))->j vs H Q E-> ∃ t,u9 (iY l P w K mg base N b (bK e) f c A a s H E) (cO e) t/\t { nx:=fun _ n=>Q .non n,rt:=Q } (L2.start N vs) H):cD P w K mg base l (k+1) f m i j:=by
 obtain ⟨oc,od,kV,p,y,an,c,z,q,rfl,r,h⟩:=F.ex;exact vO r h S len fun A a s H vs Q E o g=>d c A a s H vs Q E o g
structure Iz (K:Z2) (C:Z0):Prop where
 x:kI K C "ValueError" "ValueError.__new__"
 w:takerIn K C "word" = some none
def Ry (K:Z2):Sp:=fun vs H Q _=>∃ (e C:Z0) (a:V) (b:V),vs=[.ref e,a,b]/\Iz K C/\H e=some (iw e C none)/\∀ c,H c=none->Q .non (upd (upd H e (iw e C (some c))) c (qm c [("word",b)]))
theorem Vx:cA ["self","words","word"] ["self","words","word"] (bK Mz):=by ext
structure Lp (K:Z2) (mg:Zc):Prop where
 ve:mg "ValueError" = none
 fc:findCls K (.type "ValueError") (.type "type") "__init__" = some (.val (.builtin "ValueError.__init__"))
theorem Qa (F:jH K "__init__" "ScribeError.__init__" Mz m f i) (T:Lp K mg):cD P w K mg base l 1 f i ["self","words","word"] (Ry K):=by refine F.ok1 Vx (by ext) fun j A c s H vs Q E n h=>?_;obtain ⟨e,C,a,b,rfl,d,g,k⟩:=h;refine ⟨_,(b8 (d8 (oR (by rfl) T.ve (by rfl) (by kernel_rfl) (by ext) T.fc (pK adb) (aK (pv 0) (aK (pv 1) b_)))) (c7 (zM (B:="ValueError") (newId:="ValueError.__new__") (pv 0) (pv 2) rfl))),?_⟩;exact ⟨_,rfl,_,rfl,e,C,_,_,rfl,g,d.x,_,rfl,_,rfl,e,C,rfl,d.x,d.w,.inl ⟨g,k⟩⟩
structure Jc (K:Z2) (mg:Zc) (cn:Str) (C f:Z0):Prop where
 mg:mg cn=some (.ref C)
 sg:specialIn K (.ref C) "__getattribute__" = some (some (.builtin "type.__getattribute__"))
 rd:∃ mc,readsIn K C mc=true/\findCls K (.ref C) mc "__init__" = some (.val (.ref f))
 kp:keepIn K (.ref f)=true
end
def X7 (K:Z2) (wd:Str):Sp:=fun vs H Q _=>∃ (e C:Z0) (a:V),vs=[.ref e,a]/\Iz K C/\H e=some (iw e C none)/\∀ b,H b=none->Q .non (upd (upd H e (iw e C (some b))) b (qm b [("word",.str wd)]))
def jy (H:Hp) (fs:List (Str×V)) (a:Z0) (b:Hp):Prop:=H a=none/\b=upd H a (qm a fs)
theorem rH (d:H e=none) (c:upd H e (iw e C none) a=none):jy H fs a (FW (upd (upd (upd H e (iw e C none)) e (iw e C (some a))) a (qm a fs)) e):=by
 have ne:a≠e:=fun q=>by subst q;rw [a_] at c;cases c
 rw [b7 ne] at c;refine ⟨c,funext fun b=>?_⟩;by_cases q:b=e
 ·subst q;rw [qG,b7 (aaC ne),d]
 ·rw [yC q];by_cases r:b=a
  ·subst r;rw [a_,a_]
  ·rw [b7 r,b7 q,b7 q,b7 r]
section
variable {P:Z4} {w:Z5} {K:Z2} {mg:Zc} {base:Z7} {Z:LC}
def Qg (Z:LC):Sp:=fun vs H Q _=>∃ (c:Z0) (m:Cl),vs=[.ref c]/\gJ Z H c m/\k_ m.nm m.fi/\∀ a b,H a=none->cj H b->gJ Z b a m->Q (.ref a) b
theorem Q9:cA ["self","other"] ["self"] (bK (cM 2)):=by ext
theorem Pu (F:gj K "twin" "Claim.twin" (cM 2) f T) (L:LZ K mg Z) (J:Mk K Z.c S) (GI:cD P w K mg base dI 6 S z ["self","ticket","time","kind"] (Ks Z)) (bI:Binds K z ["self","ticket","time","kind"] []):cD P w K mg base dI 8 f T ["self"] (Qg Z):=by
 refine F.ok Q9 (by ext) fun U A B s H vs Q E W h=>?_;obtain ⟨c,m,rfl,cl,ko,q⟩:=h;refine ⟨_,(b8 (cQ (i:=1) Q9.nd rfl (.inl rfl) (jE (E:=E0) J GI W rfl L.cmg bI .nil cZ (aK (cz (pv 0) rfl) (aK (cz (pv 0) rfl) (aK (cz (pv 0) rfl) b_))))) (b8 (cP (pv 1) (cz (pv 0) rfl) rfl) (b8 (cP (pv 1) (cz (pv 0) rfl) rfl) (c7 (cI (pv 1)))))),?_⟩;obtain ⟨v,k,a,t,e,ka,N⟩:=id cl.ex;refine ⟨_,rfl,c,Z.c,v,_,_,rfl,e,L.cc,L.c1,rfl,_,rfl,c,Z.c,v,_,_,rfl,e,L.cc,L.c2,rfl,_,rfl,c,Z.c,v,_,_,rfl,e,L.cc,L.c3,rfl,fun x j l n C=>?_⟩;have Y:cj H (upd (upd H j (.own x)) x (.ins Z.c j [])):=(cj.new n).trans (cj.new (by rw [b7 C.symm];exact l));refine ⟨x,j,k,a,m.tk,m.tm,m.nm,m.fi,rfl,a_,ka.kt (cj.kt Y),ko,fun o D X=>⟨rfl,?_⟩⟩;have M:cj H o:=eO l n X;obtain ⟨d,kk,O,y,R,I,_⟩:=D.ex;have c1:=M _ _ e;refine ⟨_,rfl,c,Z.c,v,_,_,rfl,c1,L.cc,L.c4,rfl,_,rfl,x,Z.c,d,_,rfl,R,L.cc,L.c4,(show 5<1000 by decide),?_⟩;have ab:c≠x:=cg e l;have g:∀ b u,H b=some u->(upd o x (.ins Z.c d (d_ "filled" (.ref t) (uR (dZ m.tk m.tm m.nm m.fi) kk y)))) b=some u:=fun b u p=>by rw [b7 (cg p l)];exact M _ _ p
 have r:eY Z.k (upd o x (.ins Z.c d (d_ "filled" (.ref t) (uR (dZ m.tk m.tm m.nm m.fi) kk y)))) kk m.nm O m.fi:=I.kt (Kt.ins R L.ok.kc);have G:(upd o x (.ins Z.c d (d_ "filled" (.ref t) (uR (dZ m.tk m.tm m.nm m.fi) kk y)))) x=some (.ins Z.c d (d_ "filled" (.ref t) (uR (dZ m.tk m.tm m.nm m.fi) kk y))):=a_;generalize upd o x (.ins Z.c d (d_ "filled" (.ref t) (uR (dZ m.tk m.tm m.nm m.fi) kk y)))=H2 at g r G ⊢;refine ⟨_,rfl,c,Z.c,v,_,_,rfl,g _ _ e,L.cc,L.c5,rfl,_,rfl,x,Z.c,d,_,rfl,G,L.cc,L.c5,(show 5<1000 by decide),?_⟩;refine ⟨_,rfl,q x _ l (fun b u p=>by rw [b7 (cg p l)];exact g _ _ p) ⟨d,kk,O,t,a_,r.kt (Kt.ins G L.ok.kc),?_⟩⟩;rw [b7 (cg N l)];exact g _ _ N
structure Dz (H:Hp) (s:PA):Prop where
 p:H s.p=none
 l:H s.l=none
 cs:∀ c∈s.cs,H c=none
 nd:s.cs.Nodup
def QT (Z:LC):Sp:=fun vs H Q _=>∃ (s:PA) (m:Pg),vs=[.ref s.p]/\gQ Z H s m/\s.cs.length≤900/\(∀ c∈m.cs,k_ c.nm c.fi)/\∀ a b,Dz H a->cj H b->gQ Z b a m->Q (.ref a.p) b
theorem QG:cA ["self","other"] ["self"] (bK (gM 3)):=by ext
theorem T4 (F:gj K "twin" "Page.twin" (gM 3) f fd) (L:LZ K mg Z) (MkP:Mk K Z.p fI) (FI:gj K "__init__" "Page.__init__" (gM 0) fI M) (bI:Binds K M ["self"] []) (MC:MD K Z.c "twin" "Claim.twin" (cM 2) ["self"] fC fdC) (GC:cD P w K mg base dI 8 fC fdC ["self"] (Qg Z)):cD P w K mg base dI 9 f fd ["self"] (QT Z):=by
 have GI:cD P w K mg base dI 1 fI M ["self"] (Jl Z):=Fb FI L;refine F.ok QG (by ext) fun ae A af s H vs Q E hr h=>?_;obtain ⟨J,m,rfl,pg,hl,ko,q⟩:=h;have ai:dm 2 (A.deeper (PyProof.Rows.envOfC "Page.twin" (bK (gM 3)) s.heap.objs.size f ae)):=hr.mono (by decide);refine ⟨_,(b8 (cQ (i:=1) QG.nd rfl (.inl rfl) (qi (E:=E0) MkP GI ai rfl L.pmg bI .nil cZ)) (b8 (cP (pv 1) (iH (g:=dM 0) (own:=["claim"]) (js:=[]) (N':=["claim"]) (dq.of (osc:=bK (gM 3)) (N:=["self","other"]) rfl rfl (by ext)) rfl (gG (cz (pv 0) (by rfl))) (fun _ _ _ _ _=>(cF (i:=0) (show List.Nodup (["claim"]:Zd) by ext) rfl (.inl rfl) (.inr rfl))) (fun _ _ _ _ _=>eX) (fun _ _ _ _ _=>du (E:=E0) (pv 0) L.cc MC.M GC hr MC.b .nil cZ)) rfl) (b8 (cP (pv 1) (cz (pv 0) rfl) rfl) (b8 (cP (pv 1) (cz (pv 0) rfl) rfl) (c7 (cI (pv 1))))))),?_⟩;refine fun x n hx ag am=>?_;refine ⟨x,n,rfl,a_,fun l0 T ao e1 ap k1=>⟨rfl,?_⟩⟩;have G:cj H T:=eO hx ag k1;obtain ⟨dx,O⟩:=pg.ob;have aj:=G _ _ O;have pl:=pg.cs.len;refine ⟨_,rfl,J.p,Z.p,dx,_,_,rfl,aj,L.pc,L.p1,rfl,J.l,rfl,⟨_,dR.of (G _ _ pg.ls)⟩,?_⟩;refine lO (K:=K) (a:=J.l) (xs:=J.cs.map V.ref) (fun i ys B H'=>(∃ v,B=[v])/\cj T H'/\∃ l:List Addr,ys=l.map V.ref/\Pd (gJ Z H') l (m.cs.take i)/\(∀ c∈l,T c=none)/\l.Nodup) (by rw [aah];exact aaj hl (by decide)) ⟨⟨none,rfl⟩,cj.refl _,[],rfl,.nil,(fun c h=>by cases h),abd⟩ (fun i ys B H' _ ⟨_,e,_⟩=>dR.of (e _ _ (G _ _ pg.ls))) ?_ ?_
 ·rintro i y ys B R hy ad ⟨⟨v,rfl⟩,S,l,rfl,C,nw,nd⟩;rw [aau] at hy;obtain ⟨c,X,rfl⟩:=abk.mp hy;obtain ⟨mc,ab,rc⟩:=pg.cs.at X;obtain ⟨dc,kc,ac,tc,ec,_⟩:=rc.ex;have S2:=G.trans S;intro N hN;refine ⟨_,rfl,c,dc,_,rfl,S2 _ _ ec,rfl,c,mc,rfl,rc.same S2,ko mc (aaq ab),fun c' H3 U W ah=>hN _ _ _ (by rw [aao,ad];rfl) ⟨⟨_,rfl⟩,S.trans W,l++[c'],by rw [aaF];rfl,?_,?_,?_⟩⟩
  ·rw [abf,ab];exact Pd.app (.cons ah .nil) (C.map fun _ _ r=>r.same W)
  ·intro b D;rcases aal.mp D with D|D
   ·exact nw b D
   ·cases aai.mp D;exact dh S U
  ·refine abg.mpr ⟨nd,by simp,fun b D d hd=>?_⟩;cases aai.mp hd;obtain ⟨j,hj⟩:=aaB.mp D;obtain ⟨y,_,ry⟩:=C.at hj;obtain ⟨_,_,_,_,eb,_⟩:=ry.ex;exact cg eb U
 ·rintro ys B R ad ⟨⟨v,rfl⟩,S,l,rfl,C,nw,nd⟩;have al:l.length=m.cs.length:=by rw [C.len,abi,aah];omega
  refine ⟨by rw [aah];exact aaj (show l.length≤900 by omega) (by decide),fun p hp=>?_⟩;have C:Pd (gJ Z R) l m.cs:=by have:m.cs.take (J.cs.map V.ref).length=m.cs:=abJ (by rw [aah];omega);rw [this] at C;exact C
  have W:=cj.new (o:=.lst (l.map V.ref)) hp;have S3:cj T (upd R p (.lst (l.map V.ref))):=S.trans W;have Y:(upd R p (.lst (l.map V.ref))) p=some (.lst (l.map V.ref)):=a_;have aa:Pd (gJ Z (upd R p (.lst (l.map V.ref)))) l m.cs:=C.map fun _ _ r=>r.same W;have I:T p=none:=dh S hp;generalize upd R p (.lst (l.map V.ref))=H3 at S3 Y aa ⊢;have ex:=S3 _ _ e1;have nx:∀ {b u},H b=some u->b≠x:=fun e=>cg e hx;have ak:p≠x:=fun z=>by rw [z,e1] at I;cases I
  refine ⟨_,rfl,x,Z.p,n,_,rfl,ex,L.pc,L.p1,(show 3<1000 by decide),?_⟩;have SH:=G.trans S3;refine ⟨_,rfl,J.p,Z.p,dx,_,_,rfl,(by rw [b7 (nx O)];exact SH _ _ O),L.pc,L.p2,rfl,_,rfl,x,Z.p,n,_,rfl,a_,L.pc,L.p2,(show 3<1000 by decide),?_⟩;refine ⟨_,rfl,J.p,Z.p,dx,_,_,rfl,(by rw [b7 (nx O),b7 (nx O)];exact SH _ _ O),L.pc,L.p3,rfl,_,rfl,x,Z.p,n,_,rfl,a_,L.pc,L.p3,(show 3<1000 by decide),?_⟩;rw [gH,gH];refine ⟨_,rfl,q ⟨x,p,l⟩ _ ⟨hx,dh G I,fun c X=>dh G (nw c X),nd⟩ (fun b u eb=>by rw [b7 (nx eb)];exact SH _ _ eb) ⟨⟨n,a_⟩,by rw [b7 ak];exact Y,Pd.mapM (fun c X y r=>r.kt (Kt.ins ex L.ok.kp) (b7 fun z=>?_)) aa⟩⟩;have:=nw c X;rw [z,e1] at this;cases this
end
noncomputable def VM:List V->List V->List V
 |[x],[a,b,c]=>[x,a,b,c]
 |_,_=>[]
noncomputable def gL:List Value->List Value->List Value
 |[x],[a,b,c]=>[x,a,b,c]
 |_,_=>[]
section
variable {P:Z4} {w:Z5} {K:Z2} {mg:Zc} {base:Z7} {Z:LC}
structure H_ (n:Ln):Prop where
 p1:2≤n.most
 p2:n.most≤16
 r1:5≤n.room
 r2:n.room≤12
 kd:∀ p∈n.pg,∀ c∈p.cs,k_ c.nm c.fi
structure vA (H:Hp) (k:LA):Prop where
 o:∀ b∈k.own,H b=none
 l:∀ b∈k.ls,H b=none
theorem vA.back (s:cj H a) (n:vA a k):vA H k:=⟨fun b m=>dh s (n.o b m),fun b m=>dh s (n.l b m)⟩
def RD (Z:LC):Sp:=fun vs H Q _=>∃ (k:LA) (n:Ln),vs=[.ref k.a]/\cT Z H k n/\k.cs.length≤900/\n.pg.length≤900/\H_ n/\∀ a b,vA H a->a.cs.length=k.cs.length->cj H b->cT Z b a n->Q (.ref a.a) b
theorem Rc:cA ["self","other"] ["self"] (bK (lM 21)):=by ext
theorem Qf {a:List PA} {s:PA} (h:s∈a):s.cs.length≤(a.flatMap (·.cs)).length:=by
 induction a with
 |nil=>cases h
 | cons q a b=>
   rw [aax,aao];rcases aaf.mp h with rfl|h
   ·omega
   ·have:=b h;omega
theorem Kl:∀ {c d:List PA} {e:List Pg},Pd (gQ Z H) c e->Pd (gQ Z f) d e->(d.flatMap (·.cs)).length=(c.flatMap (·.cs)).length
 |_,_,_,.nil,.nil=>rfl
 | _,_,_,.cons a r,.cons b t=>by rw [aax,aax,aao,aao,Kl r t,a.cs.len,b.cs.len]
structure zq (H:Hp) (ps:List PA):Prop where
 nw:∀ s∈ps,Dz H s
 n1:(ps.map (·.p)).Nodup
 n2:(ps.map (·.l)).Nodup
 n3:(ps.flatMap (·.cs)).Nodup
theorem zq.snoc (h:zq p l) (C:Pd (gQ Z i) l B) (v:cj p i) (n:Dz i s):zq p (l++[s]):=by
 have f:∀ q∈l,∃ m,gQ Z i q m:=fun q a=>by obtain ⟨j,o⟩:=aaB.mp a;obtain ⟨m,_,r⟩:=C.at o;exact ⟨m,r⟩
 refine ⟨fun q a=>?_,?_,?_,?_⟩
 ·rcases aal.mp a with a|a
  ·exact h.nw q a
  ·cases aai.mp a;exact ⟨dh v n.p,dh v n.l,fun c x=>dh v (n.cs c x),n.nd⟩
 ·rw [aaF];refine abg.mpr ⟨h.n1,by simp,fun b g d hd=>?_⟩;obtain ⟨q,a,rfl⟩:=aar.mp g;obtain ⟨m,r⟩:=f q a;obtain ⟨D,e⟩:=r.ob;cases aai.mp hd;exact cg e n.p
 ·rw [aaF];refine abg.mpr ⟨h.n2,by simp,fun b g d hd=>?_⟩;obtain ⟨q,a,rfl⟩:=aar.mp g;obtain ⟨m,r⟩:=f q a;cases aai.mp hd;exact cg r.ls n.l
 ·rw [aaR,aax,List.flatMap_nil,aaO];refine abg.mpr ⟨h.n3,n.nd,fun b g d hd=>?_⟩;obtain ⟨q,a,z⟩:=aaN.mp g;obtain ⟨m,r⟩:=f q a;obtain ⟨j,o⟩:=aaB.mp z;obtain ⟨y,_,A⟩:=r.cs.at o;obtain ⟨_,_,_,_,e,_⟩:=A.ex;exact cg e (n.cs d hd)
theorem Pk (F:gj K "twin" "Lane.twin" (lM 21) f fd) (L:LZ K mg Z) (MkL:Mk K Z.l fI) (GI:cD P w K mg base dI 3 fI fdI ["self","pages","room","over"] (Nb Z)) (kbL:jr K fdI ["self","pages","room","over"] ["pages","room","over"] gL VM) (MP:MD K Z.p "twin" "Page.twin" (gM 3) ["self"] fP fdP) (GP:cD P w K mg base dI 9 fP fdP ["self"] (QT Z)):cD P w K mg base dI 10 f fd ["self"] (RD Z):=by
 refine F.ok Rc (by ext) fun ad A ae s H vs Q E hr h=>?_;obtain ⟨k,n,rfl,X,kc,pl,sz,q⟩:=h;have am:dm 4 (A.deeper (PyProof.Rows.envOfC "Lane.twin" (bK (lM 21)) s.heap.objs.size f ad)):=hr.mono (by decide);refine ⟨_,(b8 (cQ (i:=1) Rc.nd rfl (.inl rfl) (n_ (E:=E0) MkL GI am rfl L.lmg kbL cZ (i_ (cz (pv 0) rfl) (i_ (cz (pv 0) rfl) (i_ (cz (pv 0) rfl) qF))))) (b8 (cP (pv 1) (iH (g:=dM 0) (own:=["page"]) (js:=[]) (N':=["page"]) (dq.of (osc:=bK (lM 21)) (N:=["self","other"]) rfl rfl (by ext)) rfl (gG (cz (pv 0) (by rfl))) (fun _ _ _ _ _=>(cF (i:=0) (show List.Nodup (["page"]:Zd) by ext) rfl (.inl rfl) (.inr rfl))) (fun _ _ _ _ _=>eX) (fun _ _ _ _ _=>du (E:=E0) (pv 0) L.pc MP.M GP hr MP.b .nil cZ)) rfl) (b8 (cP (pv 1) (cz (pv 0) rfl) rfl) (b8 (cP (pv 1) (cz (pv 0) rfl) rfl) (b8 (cP (pv 1) (cz (pv 0) rfl) rfl) (b8 (cP (pv 1) (cz (pv 0) rfl) rfl) (b8 (cP (pv 1) (cz (pv 0) rfl) rfl) (b8 (cP (pv 1) (cz (pv 0) rfl) rfl) (b8 (cP (pv 1) (cz (pv 0) rfl) rfl) (b8 (cP (pv 1) (cz (pv 0) rfl) rfl) (c7 (cI (pv 1))))))))))))),?_⟩;obtain ⟨D,e⟩:=X.ob;refine ⟨_,rfl,k.a,Z.l,D,_,_,rfl,e,L.lc,L.l1,rfl,_,rfl,k.a,Z.l,D,_,_,rfl,e,L.lc,L.l2,rfl,_,rfl,k.a,Z.l,D,_,_,rfl,e,L.lc,L.l3,rfl,fun x af hx ag aq=>?_⟩;refine ⟨x,af,n.most,n.room,n.over,rfl,a_,sz.p1,sz.p2,sz.r1,sz.r2,fun k0 U ah _ ai k1 kf _=>⟨rfl,?_⟩⟩;have M:cj H U:=eO hx ag k1;obtain ⟨d,e1⟩:=ai.ob;rw [ah] at e1;have ar:=X.pg.len;refine ⟨_,rfl,k.a,Z.l,D,_,_,rfl,M _ _ e,L.lc,L.l4,rfl,k.lp,rfl,⟨_,dR.of (M _ _ X.ls)⟩,?_⟩;refine lO (K:=K) (a:=k.lp) (xs:=k.ps.map fun s=>V.ref s.p) (fun i ys J H'=>(∃ v,J=[v])/\cj U H'/\∃ l:List PA,(ys=l.map fun s=>V.ref s.p)/\Pd (gQ Z H') l (n.pg.take i)/\zq U l) (by rw [aah];exact aaj (show k.ps.length≤900 by omega) (by decide)) ⟨⟨none,rfl⟩,cj.refl _,[],rfl,.nil,⟨(fun c h=>by cases h),abd,abd,abd⟩⟩ (fun i ys J H' _ ⟨_,e,_⟩=>dR.of (e _ _ (M _ _ X.ls))) ?_ ?_
 ·rintro i y ys J Y hy ac ⟨⟨v,rfl⟩,s2,l,rfl,O,I⟩;rw [aau] at hy;obtain ⟨sp,W,rfl⟩:=abk.mp hy;obtain ⟨mp,ab,rp⟩:=X.pg.at W;obtain ⟨dp,ep⟩:=rp.ob;have S2:=M.trans s2;have mm:=aaq ab;intro N hN;refine ⟨_,rfl,sp.p,dp,_,rfl,S2 _ _ ep,rfl,sp,mp,rfl,rp.same S2,aaj (Qf (aaq W)) kc,sz.kd mp mm,fun s' H3 aj s3 ak=>hN _ _ _ (by rw [aao,ac];rfl) ⟨⟨_,rfl⟩,s2.trans s3,l++[s'],by rw [aaF];rfl,?_,I.snoc O s2 aj⟩⟩;rw [abf,ab];exact Pd.app (.cons ak .nil) (O.map fun _ _ r=>r.same s3)
 ·rintro ys J Y ac ⟨⟨v,rfl⟩,s2,l,rfl,O,I⟩;have O:Pd (gQ Z Y) l n.pg:=by have:n.pg.take (k.ps.map fun s=>V.ref s.p).length=n.pg:=abJ (by rw [aah];omega);rw [this] at O;exact O
  have al:=O.len;refine ⟨by rw [aah];exact aaj (show l.length≤900 by omega) (by decide),fun p hp=>?_⟩;have s3:=cj.new (o:=.lst (l.map fun s=>V.ref s.p)) hp;have S3:cj U (upd Y p (.lst (l.map fun s=>V.ref s.p))):=s2.trans s3;have aa:(upd Y p (.lst (l.map fun s=>V.ref s.p))) p=some (.lst (l.map fun s=>V.ref s.p)):=a_;have S:Pd (gQ Z (upd Y p (.lst (l.map fun s=>V.ref s.p)))) l n.pg:=O.map fun _ _ r=>r.same s3;have T:U p=none:=dh s2 hp;have ao:∀ s∈l,p≠s.l:=fun s C=>by obtain ⟨j,hj⟩:=aaB.mp C;obtain ⟨m,_,r⟩:=O.at hj;exact (cg r.ls hp).symm
  generalize upd Y p (.lst (l.map fun s=>V.ref s.p))=H3 at S3 aa S ⊢;have ex:=S3 _ _ e1;have nx:∀ {b u},H b=some u->b≠x:=fun e=>cg e hx;have B:k.a≠x:=nx e;have ap:p≠x:=fun z=>by rw [z,e1] at T;cases T
  have SH:=M.trans S3;have R:=SH _ _ e;refine ⟨_,rfl,x,Z.l,d,_,rfl,ex,L.lc,L.l4,(show 12<1000 by decide),?_⟩;refine ⟨_,rfl,k.a,Z.l,D,_,_,rfl,(b7 B).trans R,L.lc,L.l5,rfl,_,rfl,x,Z.l,d,_,rfl,a_,L.lc,L.l5,(show 12<1000 by decide),?_⟩;rw [gH];refine ⟨_,rfl,k.a,Z.l,D,_,_,rfl,(b7 B).trans R,L.lc,L.l6,rfl,_,rfl,x,Z.l,d,_,rfl,a_,L.lc,L.l6,(show 12<1000 by decide),?_⟩;rw [gH];refine ⟨_,rfl,k.a,Z.l,D,_,_,rfl,(b7 B).trans R,L.lc,L.l7,rfl,_,rfl,x,Z.l,d,_,rfl,a_,L.lc,L.l7,(show 12<1000 by decide),?_⟩;rw [gH];refine ⟨_,rfl,k.a,Z.l,D,_,_,rfl,(b7 B).trans R,L.lc,L.l8,rfl,_,rfl,x,Z.l,d,_,rfl,a_,L.lc,L.l8,(show 12<1000 by decide),?_⟩;rw [gH];refine ⟨_,rfl,k.a,Z.l,D,_,_,rfl,(b7 B).trans R,L.lc,L.l9,rfl,_,rfl,x,Z.l,d,_,rfl,a_,L.lc,L.l9,(show 12<1000 by decide),?_⟩;rw [gH];refine ⟨_,rfl,k.a,Z.l,D,_,_,rfl,(b7 B).trans R,L.lc,L.l10,rfl,_,rfl,x,Z.l,d,_,rfl,a_,L.lc,L.l10,(show 12<1000 by decide),?_⟩;rw [gH];refine ⟨_,rfl,k.a,Z.l,D,_,_,rfl,(b7 B).trans R,L.lc,L.l11,rfl,_,rfl,x,Z.l,d,_,rfl,a_,L.lc,L.l11,(show 12<1000 by decide),?_⟩;rw [gH];refine ⟨_,rfl,k.a,Z.l,D,_,_,rfl,(b7 B).trans R,L.lc,L.l12,rfl,_,rfl,x,Z.l,d,_,rfl,a_,L.lc,L.l12,(show 12<1000 by decide),?_⟩;rw [gH];have x1:∀ {b},U b=none->b≠x:=fun h z=>by rw [z,e1] at h;cases h
  refine ⟨_,rfl,q ⟨x,p,l⟩ _ ⟨fun b G=>?_,fun b G=>?_⟩ (Kl X.pg S) (fun b u eb=>by rw [b7 (nx eb)];exact SH _ _ eb) ⟨⟨d,a_⟩,by show upd _ x _ p=_;rw [b7 ap];exact aa,Pd.mapM (fun s C y r=>?_) S,I.n1,?_,I.n3⟩⟩
  ·rcases aaf.mp G with rfl|G
   ·exact hx
   ·rcases aal.mp G with G|G
    ·obtain ⟨s,C,rfl⟩:=aar.mp G;exact dh M (I.nw s C).p
    ·obtain ⟨s,C,W⟩:=aaN.mp G;exact dh M ((I.nw s C).cs b W)
  ·rcases aaf.mp G with rfl|G
   ·exact dh M T
   ·obtain ⟨s,C,rfl⟩:=aar.mp G;exact dh M (I.nw s C).l
  ·exact r.kt (Kt.ins ex L.ok.kl) (b7 (x1 (I.nw s C).p)) (b7 (x1 (I.nw s C).l)) fun c W=>b7 (x1 ((I.nw s C).cs c W))
  ·show (p::l.map (·.l)).Nodup;refine aaK.mpr ⟨fun m=>?_,I.n2⟩;obtain ⟨s,C,e⟩:=aar.mp m;exact ao s C e.symm
end
abbrev tM (j:Nat):Stmt:=inClass (top 89) j
structure TZ (K:Z2) (mg:Zc) (C:Z0):Prop where
 c:sO K C
 mg:mg "Track" = some (.ref C)
 t1:dJ K C "written"
 t2:dJ K C "clock"
 t3:dJ K C "test"
noncomputable def M9 (l:Z0) (a:Int) (t:V):List (Str×V):=[("written",.ref l),("clock",.int a),("test",t)]
structure Tk where
 ln:Ln
 ck:Int
 ts:PyData
structure TA where
 a:Addr
 k:LA
structure jK (Z:LC) (C:Z0) (K:Z2) (H:Hp) (s:TA) (t:Tk):Prop where
 ob:∃ dx v,H s.a=some (.ins C dx (M9 s.k.a t.ck v))/\Rep K H v t.ts
 ln:cT Z H s.k t.ln
structure oJ (H:Hp) (s:TA):Prop where
 a:H s.a=none
 k:vA H s.k
noncomputable def jT:PyData:=.tuple [.str "all"]
def Kw (Z:LC) (C:Z0) (K:Z2):Sp:=fun vs H Q _=>∃ (o c l:Z0),vs=[.ref o,.ref l]/\H o=some (.ins C c [])/\∀ v a,a o=some (.ins C c (M9 l 0 v))->Rep K a v jT->(∀ b u,H b=some u->b≠o->a b=some u)->Q .non a
theorem Wj:cA ["self","written"] ["self","written"] (bK (tM 0)):=by ext
theorem JQ (F:gj K "__init__" "Track.__init__" (tM 0) f i) (TZ:TZ K q C):cD P w K q p dI 1 f i ["self","written"] (Kw Z C K):=by
 refine F.ok Wj (by ext) fun j A c s H vs Q E n h=>?_;obtain ⟨o,g,l,rfl,m,k⟩:=h;refine ⟨_,(b8 (cP (pv 0) (pv 1) rfl) (b8 (cP (pv 0) cu rfl) (c7 (cP (pv 0) (eZ (aK cH b_)) rfl)))),?_⟩;refine ⟨_,rfl,_,rfl,o,C,g,[],rfl,m,TZ.c,TZ.t1,(show 0<1000 by decide),?_⟩;refine ⟨_,rfl,o,C,g,_,rfl,a_,TZ.c,TZ.t2,(show 1<1000 by decide),?_⟩;rw [gH];refine ⟨(by ext),fun t a=>?_⟩;have not:o≠t:=fun z=>by rw [← z,a_] at a;cases a
 refine ⟨_,rfl,o,C,g,[("written",.ref l),("clock",.int 0)],rfl,(by rw [b7 not];exact a_),TZ.c,TZ.t3,(show 2<1000 by decide),?_⟩;refine k (.ref t) _ a_ (.tup (eE.of (by rw [b7 not.symm];exact a_)) (.cons (.str _) .nil)) fun b u e d=>?_;have nt:b≠t:=fun z=>by rw [← z,b7 d,e] at a;cases a
 rw [b7 d,b7 nt,b7 d];exact e
def P_ (Z:LC) (C:Z0) (K:Z2):Sp:=fun vs H Q _=>∃ (s:TA) (t:Tk),vs=[.ref s.a]/\jK Z C K H s t/\s.k.cs.length≤900/\t.ln.pg.length≤900/\H_ t.ln/\∀ a b,oJ H a->a.k.cs.length=s.k.cs.length->cj H b->jK Z C K b a t->Q (.ref a.a) b
theorem RG:cA ["self","other"] ["self"] (bK (tM 2)):=by ext
theorem RJ (F:gj K "twin" "Track.twin" (tM 2) f X) (L:LZ K mg Z) (TZ:TZ K mg C) (nC:Z.l≠C/\Z.p≠C/\Z.c≠C/\Z.k≠C) (M:Mk K C J) (FI:gj K "__init__" "Track.__init__" (tM 0) J c) (bI:Binds K c ["self","written"] []) (Y:MD K Z.l "twin" "Lane.twin" (lM 21) ["self"] W l) (GL:cD P w K mg base dI 10 W l ["self"] (RD Z)):cD P w K mg base dI 11 f X ["self"] (P_ Z C K):=by
 have GI:cD P w K mg base dI 1 J c ["self","written"] (Kw Z C K):=JQ FI TZ;refine F.ok RG (by ext) fun n A o s H vs Q E N h=>?_;obtain ⟨j,t,rfl,tk,kc,pl,sz,q⟩:=h;have B:dm 2 (A.deeper (PyProof.Rows.envOfC "Track.twin" (bK (tM 2)) s.heap.objs.size f n)):=N.mono (by decide);refine ⟨_,(b8 (cQ (i:=1) RG.nd rfl (.inl rfl) (jE (E:=E0) M GI B rfl TZ.mg bI .nil cZ (aK (du (E:=E0) (cz (pv 0) rfl) L.lc Y.M GL N Y.b .nil cZ) b_))) (b8 (cP (pv 1) (cz (pv 0) rfl) rfl) (b8 (cP (pv 1) (cz (pv 0) rfl) rfl) (c7 (cI (pv 1)))))),?_⟩;obtain ⟨⟨I,v,e,rv⟩,U⟩:=tk;obtain ⟨dl,el⟩:=U.ob;refine ⟨_,rfl,j.a,C,I,_,_,rfl,e,TZ.c,TZ.t1,rfl,j.k.a,dl,_,rfl,el,rfl,j.k,t.ln,rfl,U,kc,pl,sz,fun m O n1 c1 R p=>?_⟩;refine fun x a r y aa=>?_;refine ⟨x,a,m.a,rfl,a_,fun v2 z e2 r2 k2=>⟨rfl,?_⟩⟩;have S:cj O z:=eO r y k2;have D:=R.trans S;refine ⟨_,rfl,j.a,C,I,_,_,rfl,D _ _ e,TZ.c,TZ.t2,rfl,_,rfl,x,C,a,_,rfl,e2,TZ.c,TZ.t2,(show 3<1000 by decide),?_⟩;have g:H x=none:=dh R r;have T:∀ {b u},H b=some u->b≠x:=fun e=>cg e g;refine ⟨_,rfl,j.a,C,I,_,_,rfl,(by rw [b7 (T e)];exact D _ _ e),TZ.c,TZ.t3,rfl,_,rfl,x,C,a,_,rfl,a_,TZ.c,TZ.t3,(show 3<1000 by decide),?_⟩;rw [gH];have up:∀ b u,H b=some u->upd z x (.ins C a (M9 m.a t.ck v)) b=some u:=fun b u d=>by rw [b7 (T d)];exact D _ _ d
 have G:∀ b u,O b=some u->upd z x (.ins C a (M9 m.a t.ck v)) b=some u:=fun b u d=>by rw [b7 (cg d r)];exact S _ _ d
 exact ⟨_,rfl,q ⟨x,m⟩ _ ⟨g,n1⟩ c1 up ⟨⟨a,v,a_,rv.same up⟩,p.same G⟩⟩
abbrev sM (j:Nat):Stmt:=inClass (top 90) j
structure SZ (K:Z2) (mg:Zc) (C:Z0):Prop where
 c:sO K C
 dict:mg "dict" = none
 mg:mg "Stand" = some (.ref C)
 s1:dJ K C "pages"
 s2:dJ K C "room"
 s3:dJ K C "known"
 s4:dJ K C "tracks"
 s5:dJ K C "counters"
 s6:dJ K C "still"
 s7:dJ K C "halting"
noncomputable def wJ (p r:Int) (dk a c:Z0) (b:Bool) (h:V):List (Str×V):=[("pages",.int p),("room",.int r),("known",.ref dk),("tracks",.ref a),("counters",.ref c),("still",.bl b),("halting",h)]
section
variable {P:Z4} {w:Z5} {K:Z2} {mg:Zc} {base:Z7} {Z:LC} {C S:Z0}
structure VP (H:Hp) (dk dt dc:Z0):Prop where
 k:H dk=none
 t:H dt=none
 c:H dc=none
def Lf (S:Z0):Sp:=fun vs H Q _=>∃ (o e:Z0) (p r:Int),vs=[.ref o,.int p,.int r]/\H o=some (.ins S e [])/\2≤p/\p≤16/\5≤r/\r≤12/\
 ∀ dk c d a,VP H dk c d->a o=some (.ins S e (wJ p r dk c d false .non))->a dk=some (.dK [])->a c=some (.dK [])->a d=some (.dK [])->dk≠c->dk≠d->c≠d->(∀ b u,H b=some u->b≠o->a b=some u)->Q .non a
theorem WN:cA ["self","pages","room"] ["self","pages","room"] (bK (sM 0)):=by ext
theorem Q3 (F:gj K "__init__" "Stand.__init__" (sM 0) f L) (SZ:SZ K mg S) (M:Dc mg) (N:gK K mg "need_pages" (top 52) ["pages"] I x) (O:gK K mg "need_room" (top 53) ["room"] J y):cD P w K mg base dI 2 f L ["self","pages","room"] (Lf S):=by
 have T:cD P w K mg base dI 1 I x ["pages"] MN:=JK N.F M;have U:cD P w K mg base dI 1 J y ["room"] Le:=JM O.F M;refine F.ok WN (by ext) fun R A D s H vs Q E G h=>?_;obtain ⟨o,j,p,r,rfl,W,X,Y,r1,r2,q⟩:=h;refine ⟨_,(b8 (d8 (jt N T G (aK (pv 1) b_))) (b8 (d8 (jt O U G (aK (pv 2) b_))) (b8 (cP (pv 0) (pv 1) rfl) (b8 (cP (pv 0) (pv 2) rfl) (b8 (cP (pv 0) pN rfl) (b8 (cP (pv 0) pN rfl) (b8 (cP (pv 0) pN rfl) (b8 (cP (pv 0) jf rfl) (c7 (cP (pv 0) j9 rfl)))))))))),?_⟩;refine ⟨_,rfl,p,rfl,X,Y,?_⟩;refine ⟨_,rfl,r,rfl,r1,r2,?_⟩;refine ⟨_,rfl,_,rfl,o,S,j,[],rfl,W,SZ.c,SZ.s1,(show 0<1000 by decide),?_⟩;refine ⟨_,rfl,_,rfl,o,S,j,_,rfl,a_,SZ.c,SZ.s2,(show 1<1000 by decide),?_⟩;rw [gH];refine fun dk hk=>?_;have d:o≠dk:=cg a_ hk;refine ⟨_,rfl,o,S,j,[("pages",.int p),("room",.int r)],rfl,(by rw [b7 d];exact a_),SZ.c,SZ.s3,(show 2<1000 by decide),?_⟩;refine fun c m=>?_;have nt:o≠c:=cg a_ m;refine ⟨_,rfl,o,S,j,[("pages",.int p),("room",.int r),("known",.ref dk)],rfl,(by rw [b7 nt];exact a_),SZ.c,SZ.s4,(show 3<1000 by decide),?_⟩;refine fun z l=>?_;have n:o≠z:=cg a_ l;refine ⟨_,rfl,o,S,j,[("pages",.int p),("room",.int r),("known",.ref dk),("tracks",.ref c)],rfl,(by rw [b7 n];exact a_),SZ.c,SZ.s5,(show 4<1000 by decide),?_⟩;refine ⟨_,rfl,o,S,j,_,rfl,a_,SZ.c,SZ.s6,(show 5<1000 by decide),?_⟩;rw [gH];refine ⟨_,rfl,o,S,j,_,rfl,a_,SZ.c,SZ.s7,(show 6<1000 by decide),?_⟩;rw [gH];have v:H dk=none:=by rw [b7 d.symm] at hk;exact hk
 have a:dk≠c:=cg (show upd (upd _ dk _) o _ dk=some _ by rw [b7 d.symm];exact a_) m;rw [b7 nt.symm,b7 a.symm,b7 nt.symm] at m;have g:dk≠z:=cg (show upd (upd (upd (upd _ dk _) o _) c _) o _ dk=some _ by rw [b7 d.symm,b7 a,b7 d.symm];exact a_) l;have i:c≠z:=cg (show upd (upd _ c _) o _ c=some _ by rw [b7 nt.symm];exact a_) l;rw [b7 n.symm,b7 i.symm,b7 n.symm,b7 g.symm,b7 n.symm] at l;refine q dk c z _ ⟨v,m,l⟩ a_ ?_ ?_ ?_ a g i fun b u e B=>?_
 ·rw [b7 d.symm,b7 g,b7 d.symm,b7 a,b7 d.symm];exact a_
 ·rw [b7 nt.symm,b7 i,b7 nt.symm];exact a_
 ·rw [b7 n.symm];exact a_
 ·rw [b7 B,b7 (cg e l),b7 B,b7 (cg e m),b7 B,b7 (cg e v),b7 B];exact e
end
def Qk (S:Z0) (o:HO):Prop:=(∃ a,o=.dK a∨∃ b,o=.frz b (.dK a))∨∃ c fs,o=.ins S c fs
def eH (S:Z0) (H a:Hp):Prop:=∀ b u,H b=some u->¬ Qk S u->a b=some u
structure uX (Z:LC) (C S:Z0):Prop where
 k:Z.k≠S
 c:Z.c≠S
 p:Z.p≠S
 l:Z.l≠S
 t:C≠S
section
variable {K:Z2} {Z:LC} {C S:Z0} {H H' H'':Hp}
theorem yq:¬ Qk S (.tup a):=by rintro (⟨_,h|⟨_,h⟩⟩|⟨_,_,h⟩) <;> cases h
theorem uM:¬ Qk S (.lst a):=by rintro (⟨_,h|⟨_,h⟩⟩|⟨_,_,h⟩) <;> cases h
theorem qu (ne:D≠S):¬ Qk S (.ins D a fs):=by
 rintro (⟨_,h|⟨_,h⟩⟩|⟨_,_,h⟩)
 ·cases h
 ·cases h
 ·cases h;exact ne rfl
theorem cj.sd (s:cj H H'):eH S H H':=fun b u e _=>s b u e
theorem eH.trans (a:eH S H H') (b:eH S H' H''):eH S H H'':=fun c u e n=>b c u (a c u e n) n
theorem eH.put (e:H p=some o) (d:Qk S o):eH S H (upd H p a):=fun b u h n=>by rw [b7 (fun z=>by subst z;rw [e] at h;cases h;exact n d)];exact h
theorem eH.kt (ne:Z.k≠S) (s:eH S H H'):Kt Z H H':=⟨fun b a e=>s _ _ e yq,fun b c fs e=>s _ _ e (qu ne)⟩
theorem eH.rep (s:eH S H H') (h:Rep K H v d):Rep K H' v d:=by
 refine h.map (fun a b z=>?_) (fun a b z=>?_)
 ·rcases z with (z|⟨o,z⟩)|z
  ·exact .inl (.inl (s _ _ z yq))
  ·exact .inl (.inr ⟨o,s _ _ z (by rintro (⟨_,h|⟨_,h⟩⟩|⟨_,_,h⟩) <;> cases h)⟩)
  ·exact .inr z
 ·rcases z with (z|⟨o,z⟩)|z
  ·exact .inl (.inl (s _ _ z uM))
  ·exact .inl (.inr ⟨o,s _ _ z (by rintro (⟨_,h|⟨_,h⟩⟩|⟨_,_,h⟩) <;> cases h)⟩)
  ·exact .inr z
theorem gJ.sd (h:gJ Z H c m) (ne:uX Z C S) (s:eH S H H'):gJ Z H' c m:=by obtain ⟨d,k,a,t,b,_⟩:=h.ex;exact h.kt (s.kt ne.k) (by rw [b];exact s _ _ b (qu ne.c))
theorem gQ.sd (h:gQ Z H q m) (ne:uX Z C S) (s:eH S H H'):gQ Z H' q m:=by obtain ⟨a,b⟩:=h.ob;exact ⟨⟨a,s _ _ b (qu ne.p)⟩,s _ _ h.ls uM,h.cs.map fun _ _ r=>r.sd ne s⟩
theorem cT.sd (h:cT Z H k n) (ne:uX Z C S) (s:eH S H H'):cT Z H' k n:=by obtain ⟨a,b⟩:=h.ob;exact ⟨⟨a,s _ _ b (qu ne.l)⟩,s _ _ h.ls uM,h.pg.map fun _ _ r=>r.sd ne s,h.n1,h.n2,h.n3⟩
theorem jK.sd (h:jK Z C K H q t) (ne:uX Z C S) (s:eH S H H'):jK Z C K H' q t:=by obtain ⟨a,v,e,r⟩:=h.ob;exact ⟨⟨a,v,s _ _ e (qu ne.t),s.rep r⟩,h.ln.sd ne s⟩
theorem jK.same (h:jK Z C K H q t) (s:cj H H'):jK Z C K H' q t:=by obtain ⟨a,v,e,r⟩:=h.ob;exact ⟨⟨a,v,s _ _ e,r.same s⟩,h.ln.same s⟩
mutual
noncomputable def qW:PyData->Bool
 |.tuple a=>zm a
 |.list _=>false
 |_=>true
noncomputable def zm:List PyData->Bool
 |[]=>true
 |d::ds=>qW d && zm ds
end
mutual
theorem lg (f:∀ a c,eE K H a c->eE K H' a c):∀ {v:V} {d:PyData},Rep K H v d->qW d=true->Rep K H' v d
 |_,_,.non,_=>.non
 |_,_,.bl b,_=>.bl b
 |_,_,.int i,_=>.int i
 |_,_,.str x,_=>.str x
 |_,_,.tup h r,n=>.tup (f _ _ h) (rD f r (by simpa [qW] using n))
 |_,_,.lst h r,n=>by simp [qW] at n
theorem rD (f:∀ a b,eE K H a b->eE K H' a b):∀ {v:List V} {d:List PyData},jL K H v d->zm d=true->jL K H' v d
 |_,_,.nil,_=>.nil
 | _,_,.cons h r,n=>by simp [zm] at n;exact .cons (lg f h n.1) (rD f r n.2)
end
noncomputable def TA.all (t:TA):List Addr:=t.a::(t.k.own++t.k.ls)
def Apart (t u:TA):Prop:=∀ b∈t.all,b∉u.all
theorem Apart.symm (h:Apart t u):Apart u t:=fun b m z=>h b z m
theorem Eo:∀ {a:List TA},a.Pairwise Apart->∀ (j k:Nat) (u v:TA),j≠k->a[j]?=some u->a[k]?=some v->Apart u v
 |[],_,_,_,_,_,_,h,_=>by simp at h
 |t::a,p,0,0,_,_,ne,_,_=>absurd rfl ne
 | t::a,p,0,k+1,u,v,ne,h1,h2=>by simp at h1;subst h1;exact (ac3.mp p).1 v (aaq (by simpa using h2))
 | t::a,p,j+1,0,u,v,ne,h1,h2=>by simp at h2;subst h2;exact Apart.symm ((ac3.mp p).1 u (aaq (by simpa using h1)))
 |t::a,p,j+1,k+1,u,v,ne,h1,h2=>Eo (ac3.mp p).2 j k u v (fun e=>ne (by rw [e])) (by simpa using h1) (by simpa using h2)
theorem oJ.all (n:oJ H t):∀ b∈t.all,H b=none:=fun b m=>by
 rcases aaf.mp m with rfl|m
 ·exact n.a
 ·rcases aal.mp m with m|m
  ·exact n.k.o b m
  ·exact n.k.l b m
theorem oJ.back (s:cj H H') (n:oJ H' t):oJ H t:=⟨dh s n.a,n.k.back s⟩
end
structure Sd where
 pg:Int
 rm:Int
 kn:List (Str×List jj)
 tr:List (Str×Tk)
 still:Bool
 halt:PyData
structure SA where
 a:Addr
 dk:Addr
 dt:Addr
 dc:Addr
 ks:List Addr
 ts:List TA
noncomputable def Ay (b:Zh) (c:List (Str×List jj)):List (Key×V):=List.zipWith (fun a p=>(Sum.inr p.1,V.ref a)) b c
noncomputable def jG (a:List TA) (b:List (Str×Tk)):List (Key×V):=List.zipWith (fun t p=>(Sum.inr p.1,V.ref t.a)) a b
structure gC (Z:LC) (C S:Z0) (K:Z2) (H:Hp) (s:SA) (d:Sd):Prop where
 ob:∃ dx v,H s.a=some (.ins S dx (wJ d.pg d.rm s.dk s.dt s.dc d.still v))/\Rep K H v d.halt
 ek:H s.dk=some (.dK (Ay s.ks d.kn))
 kn:Pd (fun a p=>∃ t,eY Z.k H a p.1 t p.2) s.ks d.kn
 et:H s.dt=some (.dK (jG s.ts d.tr))
 tr:Pd (fun t p=>jK Z C K H t p.2) s.ts d.tr
 ec:H s.dc=some (.dK [])
 nm:(d.tr.map (·.1)).Nodup
 nk:(d.kn.map (·.1)).Nodup
 dj:∀ (j k:Nat) (u v:TA),j≠k->s.ts[j]?=some u->s.ts[k]?=some v->Apart u v
 nh:qW d.halt=true
 nt:∀ p∈d.tr,qW p.2.ts=true
 n1:s.dk≠s.dt
 n2:s.dk≠s.dc
 n3:s.dt≠s.dc
structure Tv (d:Sd):Prop where
 p1:2≤d.pg
 p2:d.pg≤16
 r1:5≤d.rm
 r2:d.rm≤12
 tl:d.tr.length≤6
 ln:∀ p∈d.tr,H_ p.2.ln/\p.2.ln.pg.length≤900
theorem uC (h:b.length=a.length):(jG b a).length=a.length:=by simp [jG,h]
theorem CQ (h:ts.length=tr.length):(jG ts tr).map (·.1)=tr.map fun p=>Sum.inr p.1:=by
 induction ts generalizing tr with
 | nil=>
   cases tr with
   |nil=>rfl
   |cons _ _=>simp at h
 | cons t ts ih=>
   cases tr with
   |nil=>simp at h
   | cons p tr=>have:=ih (tr:=tr) (by simpa using h);unfold jG at this ⊢;rw [abN,aaE,aaE,this]
theorem Jk (h:a.length=b.length):jG (a++c) (b++d)=jG a b++jG c d:=by unfold jG;rw [ac4 h]
theorem Gf {a:List TA} {b:List (Str×Tk)} {i:Nat} {x:Key×V} (h:(jG a b)[i]?=some x):∃ t p,a[i]?=some t/\b[i]?=some p/\x=(Sum.inr p.1,V.ref t.a):=by
 unfold jG at h;rw [List.getElem?_zipWith] at h;cases h1:a[i]? with
 |none=>rw [h1] at h;cases h
 | some t=>
   cases h2:b[i]? with
   |none=>rw [h1,h2] at h;cases h
   | some p=>rw [h1,h2] at h;cases h;exact ⟨t,p,rfl,rfl,rfl⟩
theorem JS:PE X e (fun _ _ _=>False):=fun _ _ _ _ _ _ h=>h.elim
theorem QL:List.Nodup (["name","track"]:Zd):=by ext
theorem Qe:List.Nodup (["name","tally"]:Zd):=by ext
section
variable {P:Z4} {w:Z5} {K:Z2} {mg:Zc} {base:Z7} {Z:LC} {C S:Z0}
theorem cT.here (h:cT Z H k n):∀ b∈k.own++k.ls,∃ u,H b=some u:=fun b m=>by
 have f:∀ s∈k.ps,∃ y,gQ Z H s y:=fun s d=>by obtain ⟨i,g⟩:=aaB.mp d;obtain ⟨y,_,r⟩:=h.pg.at g;exact ⟨y,r⟩
 rcases aal.mp m with m|m
 ·rcases aaf.mp m with rfl|m
  ·obtain ⟨j,e⟩:=h.ob;exact ⟨_,e⟩
  ·rcases aal.mp m with m|m
   ·obtain ⟨s,d,rfl⟩:=aar.mp m;obtain ⟨y,r⟩:=f s d;obtain ⟨j,e⟩:=r.ob;exact ⟨_,e⟩
   ·obtain ⟨s,d,l⟩:=aaN.mp m;obtain ⟨y,r⟩:=f s d;obtain ⟨i,g⟩:=aaB.mp l;obtain ⟨c,_,o⟩:=r.cs.at g;obtain ⟨j,k,a,t,e,_⟩:=o.ex;exact ⟨_,e⟩
 ·rcases aaf.mp m with rfl|m
  ·exact ⟨_,h.ls⟩
  ·obtain ⟨s,d,rfl⟩:=aar.mp m;obtain ⟨y,r⟩:=f s d;exact ⟨_,r.ls⟩
theorem jK.here (h:jK Z C K H s t):∀ b∈s.all,∃ u,H b=some u:=fun b m=>by
 rcases aaf.mp m with rfl|m
 ·obtain ⟨a,v,e,_⟩:=h.ob;exact ⟨_,e⟩
 ·exact h.ln.here b m
structure Dt (H:Hp) (s:SA):Prop where
 a:H s.a=none
 k:H s.dk=none
 t:H s.dt=none
 c:H s.dc=none
 ts:∀ t∈s.ts,oJ H t
def QC (Z:LC) (C S:Z0) (K:Z2):Sp:=fun vs H Q _=>∃ (s:SA) (d:Sd),vs=[.ref s.a]/\gC Z C S K H s d/\Tv d/\(∀ t∈s.ts,t.k.cs.length≤900)/\∀ a b,Dt H a->a.ks=s.ks->Pd (fun (t u:TA)=>t.k.cs.length=u.k.cs.length) a.ts s.ts->cj H b->gC Z C S K b a d->Q (.ref a.a) b
theorem Tw:cA ["self","other"] ["self"] (bK (sM 5)):=by ext
theorem R8 (F:gj K "twin" "Stand.twin" (sM 5) f fd) (SZ:SZ K mg S) (TZ:TZ K mg C) (ne:uX Z C S) (MkS:Mk K S fI) (bI:Binds K fdI ["self","pages","room"] []) (GI:cD P w K mg base dI 2 fI fdI ["self","pages","room"] (Lf S)) (MT:MD K C "twin" "Track.twin" (tM 2) ["self"] fT fdT) (GT:cD P w K mg base dI 11 fT fdT ["self"] (P_ Z C K)):cD P w K mg base dI 12 f fd ["self"] (QC Z C S K):=by
 refine F.ok Tw (by ext) fun al A am s H vs Q E hr h=>?_;obtain ⟨a,d,rfl,st,sz,cl,q⟩:=h;have av:dm 3 (A.deeper (PyProof.Rows.envOfC "Stand.twin" (bK (sM 5)) s.heap.objs.size f al)):=hr.mono (by decide);refine ⟨_,(b8 (cQ (i:=1) Tw.nd rfl (.inl rfl) (jE (E:=E0) MkS GI av rfl SZ.mg bI .nil cZ (aK (cz (pv 0) rfl) (aK (cz (pv 0) rfl) b_)))) (b8 (cP (pv 1) (gW vz (by rfl) SZ.dict J0 (aK (cz (pv 0) rfl) b_)) rfl) (b8 (cP (pv 1) (xj (vJ (g:=Cp K 2 (lF (dM 0) (lF (dM 1) BP))) (own:=["name","track"]) (js:=[]) (N':=["name","track"]) (dq.of (osc:=bK (sM 5)) (N:=["self","other"]) rfl rfl (by ext)) rfl (vL (u5 acX PySem.F.type_dict_items tL (cz (pv 0) (by rfl)))) (fun _ _ _ _ _=>(h_ rfl (cJ (cF (i:=0) QL rfl (.inl rfl) (.inr rfl)) (cJ (cF (i:=1) QL rfl (.inl rfl) (.inr rfl)) fZ)))) (fun _ _ _ _ _=>eX) (fun _ _ _ _ _=>pv 0) (fun _ _ _ _ _=>du (E:=E0) (pv 1) TZ.c MT.M GT (hr.mono (by decide)) MT.b .nil cZ))) rfl) (b8 (cP (pv 1) (xj (vJ (g:=Cp K 2 (lF (dM 0) (lF (dM 1) BP))) (own:=["name","tally"]) (js:=[]) (N':=["name","tally"]) (dq.of (osc:=bK (sM 5)) (N:=["self","other"]) rfl rfl (by ext)) rfl (vL (u5 acX PySem.F.type_dict_items tL (cz (pv 0) (by rfl)))) (fun _ _ _ _ _=>(h_ rfl (cJ (cF (i:=0) Qe rfl (.inl rfl) (.inr rfl)) (cJ (cF (i:=1) Qe rfl (.inl rfl) (.inr rfl)) fZ)))) (fun _ _ _ _ _=>eX) (fun _ _ _ _ _=>pv 0) (fun _ _ _ _ _=>JS))) rfl) (b8 (cP (pv 1) (cz (pv 0) rfl) rfl) (b8 (cP (pv 1) (cz (pv 0) rfl) rfl) (c7 (cI (pv 1))))))))),?_⟩;obtain ⟨⟨dx,v,e,rv⟩,ek,kn,et,tr,ec,nm,az,dj,nh,aA,n1,n2,n3⟩:=st;refine ⟨_,rfl,a.a,S,dx,_,_,rfl,e,SZ.c,SZ.s1,rfl,_,rfl,a.a,S,dx,_,_,rfl,e,SZ.c,SZ.s2,rfl,fun x B hx ao aF=>?_⟩;refine ⟨x,B,d.pg,d.rm,rfl,a_,sz.p1,sz.p2,sz.r1,sz.r2,fun nk nt nc H1 nd e1 k1 t1 c1 m1 m2 m3 kp=>⟨rfl,?_⟩⟩;have s1:cj H H1:=eO hx ao kp;have nx:∀ {b u},H b=some u->b≠x:=fun c=>cg c hx;refine ⟨_,rfl,a.a,S,dx,_,_,rfl,s1 _ _ e,SZ.c,SZ.s3,rfl,a.dk,_,rfl,s1 _ _ ek,fun p hp=>?_⟩;have ae:x≠p:=cg e1 hp;refine ⟨_,rfl,x,S,B,wJ d.pg d.rm nk nt nc false .non,rfl,(by rw [b7 ae];exact e1),SZ.c,SZ.s3,(show 7<1000 by decide),?_⟩;generalize h2:upd (upd H1 p (.dK (Ay a.ks d.kn))) x (.ins S B (d_ "known" (.ref p) (wJ d.pg d.rm nk nt nc false .non)))=H2;have s2:cj H H2:=fun b u c=>by rw [← h2,b7 (nx c),b7 (cg (s1 _ _ c) hp)];exact s1 _ _ c
 have x2:H2 x=some (.ins S B (wJ d.pg d.rm p nt nc false .non)):=by rw [← h2];exact a_
 have p2:H2 p=some (.dK (Ay a.ks d.kn)):=by rw [← h2,b7 ae.symm];exact a_
 have aj:H p=none:=dh s1 hp;clear h2;refine ⟨a.dt,_,s2 _ _ et,fun o=>?_⟩;generalize hF:upd H2 a.dt (.frz o (.dK (jG a.ts d.tr)))=HF;have dF:HF a.dt=some (.frz o (.dK (jG a.ts d.tr))):=by rw [← hF];exact a_
 have f2:∀ b u,H2 b=some u->b≠a.dt->HF b=some u:=fun b u c nb=>by rw [← hF,b7 nb];exact c
 have sF:eH S H2 HF:=by rw [← hF];exact eH.put (s2 _ _ et) (.inl ⟨_,.inl rfl⟩)
 have nF:∀ {b},HF b=none->H2 b=none:=fun {b} O=>by
  rw [← hF] at O;by_cases z:b=a.dt
  ·subst z;rw [a_] at O;cases O
  ·rw [b7 z] at O;exact O
 have eF:HF a.a=some (.ins S dx (wJ d.pg d.rm a.dk a.dt a.dc d.still v)):=f2 _ _ (s2 _ _ e) (iu e et (by intro z;cases z));refine ⟨_,rfl,a.a,S,dx,_,_,rfl,eF,SZ.c,SZ.s4,rfl,⟨a.dt,o,_,rfl,dF⟩,a.dt,o,_,rfl,rfl,dF,fun vw hw=>?_⟩;refine ⟨vw,a.dt,o,_,rfl,a_,cj.new hw _ _ dF,fun J ha=>?_⟩;generalize hV:upd HF vw (vo vw a.dt)=HV at ha ⊢;have sV:cj HF HV:=by rw [← hV];exact cj.new hw
 have af:H2 J=none:=nF (dh sV ha);have tl:a.ts.length=d.tr.length:=tr.len;have kl:(jG a.ts d.tr).length=d.tr.length:=uC tl;refine oE (fun i M L=>∃ v1 v2 I,M=[v1,v2]/\I.length=i/\L J=some (.dK (jG I (d.tr.take i)))/\Pd (fun t p=>jK Z C K L t p.2) I (d.tr.take i)/\(∀ b u,HV b=some u->L b=some u)/\(∀ t∈I,oJ HV t)/\I.Pairwise Apart/\Pd (fun (t u:TA)=>t.k.cs.length=u.k.cs.length) I (a.ts.take i)) ⟨none,none,[],rfl,rfl,a_,.nil,fun b u c=>by rw [b7 (cg c ha)];exact c,(fun t h=>by cases h),.nil,.nil⟩ ?_ ?_ ?_
 ·rintro i M L hi ⟨v1,v2,I,rfl,l,ea,pd,up,nw,pw,cs⟩;exact up _ _ (sV _ _ dF)
 ·rintro i y M L pp hy ⟨v1,v2,I,rfl,l,ea,pd,up,nw,pw,cs⟩ aE N hN;obtain ⟨t,T,ht,Y,rfl⟩:=Gf hy;obtain ⟨aG,ac,tk⟩:=tr.at ht;rw [Y] at ac;cases ac;have aa:cj L (upd L pp (.tup [kV (Sum.inr T.1),.ref t.a])):=cj.new aE;have ak:jK Z C K (upd L pp (.tup [kV (Sum.inr T.1),.ref t.a])) t T.2:=(((tk.same s2).sd ne sF).same sV |>.same up).same aa;obtain ⟨aB,vt,aC,_⟩:=ak.ob;have mt:t∈a.ts:=aaq ht;have mp:T∈d.tr:=aaq Y;refine ⟨pp,_,rfl,eE.of a_,rfl,_,_,rfl,_,_,rfl,rfl,?_⟩;refine ⟨_,rfl,_,rfl,t.a,aB,_,rfl,aC,rfl,t,T.2,rfl,ak,cl t mt,(sz.ln T mp).2,(sz.ln T mp).1,fun t' H3 ah ap s3 aq=>?_⟩;have S3:cj L H3:=aa.trans s3;have il:i<d.tr.length:=(aaG.mp Y).1;have ab:(d.tr.take i).length=i:=by rw [abi];omega
  have new:iR (jG I (d.tr.take i)) (Sum.inr T.1)=none:=by
   cases hv:iR (jG I (d.tr.take i)) (Sum.inr T.1) with
   |none=>rfl
   | some y=>
     exfalso;have m:=Hw hv;rw [CQ (by rw [l,ab])] at m;obtain ⟨p0,m0,e0⟩:=aar.mp m;have aw:p0.1=T.1:=acd e0;obtain ⟨j,hj⟩:=aaB.mp m0;have jl:j<i:=by have:=(aaG.mp hj).1;omega
     rw [List.getElem?_take_of_lt jl] at hj;have:=(List.getElem?_inj (i:=j) (j:=i) (by rw [aah];omega) nm).mp (by rw [aau,aau,hj,Y];simp [aw]);omega
  have tks:d.tr.take (i+1)=d.tr.take i++[T]:=by rw [abf,Y];rfl
  have ay:a.ts.take (i+1)=a.ts.take i++[t]:=by rw [abf,ht];rfl
  have sd:eH S H3 (upd H3 J (.dK (putK (jG I (d.tr.take i)) (Sum.inr T.1) (.ref t'.a)))):=eH.put (S3 _ _ ea) (.inl ⟨_,.inl rfl⟩);refine ⟨_,Sum.inr T.1,S3 _ _ ea,rfl,?_,hN _ _ ⟨_,_,I++[t'],rfl,by rw [aao,l];rfl,?_,?_,fun b u c=>?_,fun u hu=>?_,?_,?_⟩⟩
  ·rw [uC (by rw [l,ab]),ab];exact aas (show i<7 by have:=sz.tl;omega) (by decide)
  ·rw [a_,Fi _ new,tks,Jk (by rw [l,ab])];rfl
  ·rw [tks];exact Pd.app (R:=fun t p=>jK Z C K _ t p.2) (.cons (aq.sd ne sd) .nil) (pd.map fun _ _ r=>(r.same S3).sd ne sd)
  ·rw [b7 (cg c ha)];exact S3 _ _ (up _ _ c)
  ·rcases aal.mp hu with hu|hu
   ·exact nw u hu
   ·cases aai.mp hu;exact (ah.back aa).back up
  ·refine List.pairwise_append.mpr ⟨pw,List.pairwise_singleton _ _,fun u hu u' ar b mb au=>?_⟩;cases aai.mp ar;obtain ⟨j,hj⟩:=aaB.mp hu;obtain ⟨_,_,aD⟩:=pd.at hj;obtain ⟨ob,c⟩:=aD.here b mb;have:=ah.all b au;rw [aa _ _ c] at this;cases this
  ·rw [ay];exact Pd.app (R:=fun (t u:TA)=>t.k.cs.length=u.k.cs.length) (.cons ap .nil) cs
 ·rintro M L ⟨v1,v2,I,rfl,l,ea,pd,up,nw,pw,cs⟩;rw [kl] at l;rw [kl,abJ (aae _)] at ea pd;rw [kl,← tl,abJ (aae _)] at cs;have dH:L a.dt=some (.frz o (.dK (jG a.ts d.tr))):=up _ _ (sV _ _ dF);refine ⟨dH,?_⟩;have xT:x≠a.dt:=(nx et).symm;have xH:L x=some (.ins S B (wJ d.pg d.rm p nt nc false .non)):=up _ _ (sV _ _ (f2 _ _ x2 xT));refine ⟨_,rfl,x,S,B,wJ d.pg d.rm p nt nc false .non,rfl,(by rw [b7 xT];exact xH),SZ.c,SZ.s4,(show 7<1000 by decide),?_⟩;generalize h4:upd (upd L a.dt (.dK (jG a.ts d.tr))) x (.ins S B (d_ "tracks" (.ref J) (wJ d.pg d.rm p nt nc false .non)))=U;have s4:cj H U:=fun b u c=>by
   rw [← h4,b7 (nx c)];by_cases z:b=a.dt
   ·subst z;rw [a_];rw [et] at c;exact c
   ·rw [b7 z];exact up _ _ (sV _ _ (f2 _ _ (s2 _ _ c) z))
  have x4:U x=some (.ins S B (wJ d.pg d.rm p J nc false .non)):=by rw [← h4];exact a_
  have px:p≠x:=ae.symm;have pT:p≠a.dt:=(cg et aj).symm;have p4:U p=some (.dK (Ay a.ks d.kn)):=by rw [← h4,b7 px,b7 pT];exact up _ _ (sV _ _ (f2 _ _ p2 pT))
  have ax:J≠x:=(cg x2 af).symm;have aT:J≠a.dt:=(cg (sV _ _ dF) ha).symm;have a4:U J=some (.dK (jG I d.tr)):=by rw [← h4,b7 ax,b7 aT];exact ea
  have d4:eH S L U:=by rw [← h4];exact (eH.put dH (.inl ⟨_,.inr ⟨_,rfl⟩⟩)).trans (eH.put (show upd L a.dt _ x=some _ by rw [b7 xT];exact xH) (.inr ⟨_,_,rfl⟩))
  clear h4;refine ⟨a.dc,_,s4 _ _ ec,fun o2=>?_⟩;generalize hG:upd U a.dc (.frz o2 (.dK []))=G;have dG:G a.dc=some (.frz o2 (.dK [])):=by rw [← hG];exact a_
  have g4:∀ b u,U b=some u->b≠a.dc->G b=some u:=fun b u c nb=>by rw [← hG,b7 nb];exact c
  have sG:eH S U G:=by rw [← hG];exact eH.put (s4 _ _ ec) (.inl ⟨_,.inl rfl⟩)
  have nG:∀ {b},G b=none->U b=none:=fun {b} O=>by
   rw [← hG] at O;by_cases z:b=a.dc
   ·subst z;rw [a_] at O;cases O
   ·rw [b7 z] at O;exact O
  refine ⟨_,rfl,a.a,S,dx,_,_,rfl,g4 _ _ (s4 _ _ e) (iu e ec (by intro z;cases z)),SZ.c,SZ.s5,rfl,⟨a.dc,o2,_,rfl,dG⟩,a.dc,o2,_,rfl,rfl,dG,fun ad ai=>?_⟩;refine ⟨ad,a.dc,o2,_,rfl,a_,cj.new ai _ _ dG,fun D O=>?_⟩;generalize hW:upd G ad (vo ad a.dc)=W at O ⊢;have sW:cj G W:=by rw [← hW];exact cj.new ai
  have X:U D=none:=nG (dh sW O);have bC:D≠a.dc:=(cg (sW _ _ dG) O).symm;have bx:D≠x:=(cg x4 X).symm;have xC:x≠a.dc:=(nx ec).symm;have xW:W x=some (.ins S B (wJ d.pg d.rm p J nc false .non)):=sW _ _ (g4 _ _ x4 xC);refine oE (fun i M L=>L=upd W D (.dK [])) rfl ?_ ?_ ?_
  ·rintro i M L hi rfl;rw [b7 bC.symm];exact sW _ _ dG
  ·intro i y M L pp hy;simp at hy
  ·rintro M H5 rfl;refine ⟨by rw [b7 bC.symm];exact sW _ _ dG,?_⟩;refine ⟨_,rfl,x,S,B,wJ d.pg d.rm p J nc false .non,rfl,(by rw [b7 xC,b7 bx.symm];exact xW),SZ.c,SZ.s5,(show 7<1000 by decide),?_⟩;generalize h6:upd (upd (upd W D (.dK [])) a.dc (.dK [])) x (.ins S B (d_ "counters" (.ref D) (wJ d.pg d.rm p J nc false .non)))=H6;have ag:∀ b u,U b=some u->b≠x->H6 b=some u:=fun b u c nb=>by
    rw [← h6,b7 nb];by_cases z:b=a.dc
    ·subst z;rw [a_,← s4 _ _ ec];exact c
    ·rw [b7 z,b7 (cg c X)];exact sW _ _ (g4 _ _ c z)
   have s6:cj H H6:=fun b u c=>ag b u (s4 _ _ c) (nx c);have x6:H6 x=some (.ins S B (wJ d.pg d.rm p J D false .non)):=by rw [← h6];exact a_
   have b6:H6 D=some (.dK []):=by rw [← h6,b7 bx,b7 bC];exact a_
   have d6:eH S U H6:=fun b u c n=>ag b u c (fun z=>n (by subst z;rw [x4] at c;cases c;exact .inr ⟨_,_,rfl⟩));refine ⟨_,rfl,a.a,S,dx,_,_,rfl,s6 _ _ e,SZ.c,SZ.s6,rfl,_,rfl,x,S,B,_,rfl,x6,SZ.c,SZ.s6,(show 7<1000 by decide),?_⟩;refine ⟨_,rfl,a.a,S,dx,_,_,rfl,(by rw [b7 (nx e)];exact s6 _ _ e),SZ.c,SZ.s7,rfl,_,rfl,x,S,B,_,rfl,a_,SZ.c,SZ.s7,(show 7<1000 by decide),?_⟩;rw [gH];refine ⟨_,rfl,?_⟩;generalize h7:upd H6 x _=H7;have x7:H7 x=some (.ins S B (wJ d.pg d.rm p J D d.still v)):=by rw [← h7];exact a_
   have s7:cj H H7:=fun b u c=>by rw [← h7,b7 (nx c)];exact s6 _ _ c
   have d7:eH S H6 H7:=by rw [← h7];exact eH.put x6 (.inr ⟨_,_,rfl⟩)
   have t7:∀ b u,U b=some u->b≠x->H7 b=some u:=fun b u c nb=>by rw [← h7,b7 nb];exact ag b u c nb
   have none:∀ {b},HV b=none->H b=none:=fun h=>dh s2 (nF (dh sV h));refine q ⟨x,p,J,D,a.ks,I⟩ H7 ⟨hx,aj,dh s2 af,dh s4 X,fun t m=>⟨none (nw t m).a,fun b h=>none ((nw t m).k.o b h),fun b h=>none ((nw t m).k.l b h)⟩⟩ rfl cs s7 ⟨⟨B,v,x7,rv.same s7⟩,t7 _ _ p4 px,kn.map fun _ _ ⟨t,k⟩=>⟨t,k.same s7⟩,t7 _ _ a4 ax,pd.map fun _ _ r=>((r.sd ne d4).sd ne d6).sd ne d7,(by rw [← h7,b7 bx];exact b6),nm,az,Eo pw,nh,aA,cg p2 af,cg p4 X,cg a4 X⟩
end
theorem zip_get {d j:Type} {f:d->V}:∀ {b:List d} {a:List (Str×j)} {i:Nat} {t:d} {p:Str×j},(a.map (·.1)).Nodup->b[i]?=some t->a[i]?=some p->iR (List.zipWith (fun t p=>((Sum.inr p.1:Key),f t)) b a) (Sum.inr p.1)=some (f t)
 |[],_,_,_,_,_,h,_=>by simp at h
 |_::_,[],_,_,_,_,_,h=>by simp at h
 | t::b,q::a,0,_,_,_,h1,h2=>by simp at h1 h2;subst h1 h2;exact mR rfl
 | t::b,q::a,i+1,u,p,n,h1,h2=>by
   have g:=aaK.mp n;have c:a[i]?=some p:=by simpa using h2
   have ne:¬ q.1=p.1:=fun e=>g.1 (by show q.1∈_;rw [e];exact aar.mpr ⟨p,aaq c,rfl⟩);show iR ((Sum.inr q.1,f t)::List.zipWith _ b a) _=_;rw [lB (fun e=>ne (acd e))];exact zip_get g.2 (by simpa using h1) c
theorem n6 {b c:Type} {f:b->V}:∀ {ts:List b} {a:List (Str×c)},(∀ p∈a,p.1≠nm)->iR (List.zipWith (fun t p=>((Sum.inr p.1:Key),f t)) ts a) (Sum.inr nm)=none
 |[],_,_=>by simp [iR]
 |_::_,[],_=>by simp [iR]
 | t::ts,q::a,h=>by show iR ((Sum.inr q.1,f t)::List.zipWith _ ts a) _=_;rw [lB (fun e=>h q (aan ..) (acd e))];exact n6 fun p m=>h p (aag _ m)
def sX (Z:LC) (C S:Z0) (K:Z2):Sp:=fun vs H Q _=>∃ (s:SA) (d:Sd) (nm:Str) (i:Nat) (t:TA) (p:Str×Tk),vs=[.ref s.a,.str nm]/\gC Z C S K H s d/\s.ts[i]?=some t/\d.tr[i]?=some p/\p.1=nm/\Q (.ref t.a) H
theorem Qz:cA ["self","name"] ["self","name"] (bK (sM 1)):=by ext
theorem qH (F:gj K "track_of" "Stand.track_of" (sM 1) f m) (SZ:SZ K z S):cD P w K z y dI 1 f m ["self","name"] (sX Z C S K):=by
 refine F.ok Qz (by ext) fun n A b s H vs Q E o h=>?_;obtain ⟨a,d,nm,i,t,p,rfl,c,r,x,rfl,q⟩:=h;have j:=oN o;refine ⟨_,(b8 (dW (xg (su j (pv 1) (cz (pv 0) rfl))) (c7 dC) cV) (c7 (cI (eN j (cz (pv 0) rfl) (pv 1) (fun _ _=>rfl))))),?_⟩;obtain ⟨l,v,e,_⟩:=c.ob;have g:iy H a.dt (.str p.1) (some (.ref t.a)):=by have:=zip_get (f:=fun t:TA=>V.ref t.a) c.nm r x;rw [← this];exact iy.k (k:=Sum.inr p.1) c.et
 refine ⟨_,rfl,_,rfl,a.a,S,l,_,_,rfl,e,SZ.c,SZ.s4,rfl,a.dt,_,rfl,g,_,rfl,?_⟩;refine mY (fun h=>by cases h) (fun _=>?_);exact ⟨_,rfl,a.a,S,l,_,_,rfl,e,SZ.c,SZ.s4,rfl,_,rfl,a.dt,_,rfl,g,q⟩
abbrev Og:Stmt:=inClass (top 18) 0
section
variable {P:Z4} {w:Z5} {K:Z2} {mg:Zc} {base:Z7} {Z:LC} {C S:Z0}
structure J1 (K:Z2) (C:Z0):Prop where
 x:kI K C "LookupError" "LookupError.__new__"
 w:takerIn K C "word" = some none
structure Np (K:Z2) (mg:Zc):Prop where
 ve:mg "LookupError" = none
 fc:findCls K (.type "LookupError") (.type "type") "__init__" = some (.val (.builtin "LookupError.__init__"))
def Rv (K:Z2):Sp:=fun vs H Q _=>∃ (e C:Z0) (a:V) (b:V),vs=[.ref e,a,b]/\J1 K C/\H e=some (iw e C none)/\∀ c,H c=none->Q .non (upd (upd H e (iw e C (some c))) c (qm c [("word",b)]))
theorem VR:cA ["self","words","word"] ["self","words","word"] (bK Og):=by ext
theorem Tq (F:jH K "__init__" "Missing.__init__" Og m f i) (T:Np K mg):cD P w K mg base l 1 f i ["self","words","word"] (Rv K):=by refine F.ok1 VR (by ext) fun j A c s H vs Q E n h=>?_;obtain ⟨e,C,a,b,rfl,d,g,k⟩:=h;refine ⟨_,(b8 (d8 (oR (by rfl) T.ve (by rfl) (by kernel_rfl) (by ext) T.fc (pK adc) (aK (pv 0) (aK (pv 1) b_)))) (c7 (zM (B:="LookupError") (newId:="LookupError.__new__") (pv 0) (pv 2) rfl))),?_⟩;exact ⟨_,rfl,_,rfl,e,C,_,_,rfl,g,d.x,_,rfl,_,rfl,e,C,rfl,d.x,d.w,.inl ⟨g,k⟩⟩
def RP (K:Z2) (wd:Str):Sp:=fun vs H Q _=>∃ (e C:Z0) (a:V),vs=[.ref e,a]/\J1 K C/\H e=some (iw e C none)/\∀ b,H b=none->Q .non (upd (upd H e (iw e C (some b))) b (qm b [("word",.str wd)]))
abbrev lL:Stmt:=inClass (top 20) 0
theorem Ft:cA ["self","words"] ["self","words"] (bK lL):=by ext
theorem Bo (F:jH K "__init__" "NoKind.__init__" lL v f g) (T:Np K mg) (x:jH K "__init__" "Missing.__init__" Og r d b) (y:Binds K b ["self","words","word"] []) (MS:Jc K mg "Missing" q d):cD P w K mg base CX 2 f g ["self","words"] (RP K "nokind"):=by have l:cD P w K mg base dI 1 d b ["self","words","word"] (Rv K):=Tq x T;obtain ⟨z,m,n⟩:=MS.rd;refine F.ok1 Ft (by ext) fun i A c s H vs Q E j h=>?_;obtain ⟨e,C,a,rfl,o,p,k⟩:=h;refine ⟨_,(c7 (d8 (pR (E:=E0) (by rfl) MS.mg MS.sg m n MS.kp l j y .nil cZ (aK (pv 0) (aK (pv 1) (aK cH b_)))))),?_⟩;exact ⟨_,rfl,_,rfl,e,C,_,_,rfl,o,p,k⟩
abbrev jQ:Stmt:=inClass (top 14) 0
theorem Ad:cA ["self","words"] ["self","words"] (bK jQ):=by ext
theorem xK (F:jH K "__init__" "Stopped.__init__" jQ v f g) (T:Lp K mg) (x:jH K "__init__" "ScribeError.__init__" Mz r d b) (y:Binds K b ["self","words","word"] []) (MS:Jc K mg "ScribeError" q d):cD P w K mg base CX 2 f g ["self","words"] (X7 K "stopped"):=by have l:cD P w K mg base dI 1 d b ["self","words","word"] (Ry K):=Qa x T;obtain ⟨z,m,n⟩:=MS.rd;refine F.ok1 Ad (by ext) fun i A c s H vs Q E j h=>?_;obtain ⟨e,C,a,rfl,o,p,k⟩:=h;refine ⟨_,(c7 (d8 (pR (E:=E0) (by rfl) MS.mg MS.sg m n MS.kp l j y .nil cZ (aK (pv 0) (aK (pv 1) (aK cH b_)))))),?_⟩;exact ⟨_,rfl,_,rfl,e,C,_,_,rfl,o,p,k⟩
def Ci (Z:LC) (C S:Z0) (K:Z2) (e:Z0):Sp:=fun vs H Q E=>∃ (s:SA) (d:Sd) (nm:Str),vs=[.ref s.a,.str nm]/\gC Z C S K H s d/\nm.length≤1000/\
 ((∃ (i:Nat) (a:Z0) (p:Str×List jj),s.ks[i]?=some a/\d.kn[i]?=some p/\p.1=nm/\Q (.ref a) H)∨((∀ p∈d.kn,p.1≠nm)/\∀ b c,jy H [("word",.str "nokind")] b c->E (.ref e) (some b) c))
theorem R7:cA ["self","name"] ["self","name"] (bK (sM 2)):=by ext
theorem M3 (F:gj K "kind_of" "Stand.kind_of" (sM 2) f N) (SZ:SZ K mg S) (Y:mg "NoKind" = some (.ref j)) (D:J1 K j) (iB:findIn K (.ref j) "__init__" = some (some (.ref z))) (nB:isFn K (.ref z)=true) (bB:Binds K l ["self","words"] []) (GB:cD P w K mg base dI 2 z l ["self","words"] (RP K "nokind")):cD P w K mg base (jC P w) 4 f N ["self","name"] (Ci Z C S K j):=by
 refine F.ok1 R7 (by ext) fun O A n s H vs Q E G h=>?_;obtain ⟨b,d,nm,rfl,m,hl,q⟩:=h;have M:=oN G;refine ⟨_,(b8 (dW (xg (su M (pv 1) (cz (pv 0) rfl))) (c7 (vg (B:="LookupError") (newId:="LookupError.__new__") (W:=E) (vY (E:=E0) adc D.x iB nB GB G (by rfl) Y bB .nil cZ (aK (yR (wX (uv (pv 1) Ga))) b_)) rfl rfl (fun J σ H' s' e cls dd I x q=>Uo I x q))) cV) (c7 (cI (eN M (cz (pv 0) rfl) (pv 1) (fun _ _=>rfl))))),?_⟩;obtain ⟨y,v,e,_⟩:=m.ob;rcases q with ⟨i,a,p,T,U,rfl,q⟩|⟨X,q⟩
 ·have g:iy H b.dk (.str p.1) (some (.ref a)):=by have:=zip_get (f:=fun t:Addr=>V.ref t) m.nk T U;rw [← this];exact iy.k (k:=Sum.inr p.1) m.ek
  refine ⟨_,rfl,_,rfl,b.a,S,y,_,_,rfl,e,SZ.c,SZ.s3,rfl,b.dk,_,rfl,g,_,rfl,?_⟩;refine mY (fun h=>by cases h) (fun _=>?_);exact ⟨_,rfl,b.a,S,y,_,_,rfl,e,SZ.c,SZ.s3,rfl,_,rfl,b.dk,_,rfl,g,q⟩
 ·have g:iy H b.dk (.str nm) none:=by have:=n6 (f:=fun t:Addr=>V.ref t) (ts:=b.ks) X;rw [← this];exact iy.k (k:=Sum.inr nm) m.ek
  refine ⟨_,rfl,_,rfl,b.a,S,y,_,_,rfl,e,SZ.c,SZ.s3,rfl,b.dk,_,rfl,g,_,rfl,?_⟩;refine mY (fun _=>?_) (fun h=>absurd rfl h);have big:3000≤sizeLine:=by decide
  have R:(("no kind is called " : Str)).length=18:=by ext
  refine ⟨?_,_,rfl,_,.inl ⟨rfl,?_⟩,?_,?_,fun o L=>⟨o,j,_,rfl,D,a_,fun r c=>⟨rfl,o,j,some r,rfl,?_,L,D.x,q r _ (rH L c)⟩⟩⟩
  all_goals (try rw [Str.empty_append])
  all_goals (try (first|omega|(simp only [abw,R];omega)))
  have ne:o≠r:=fun q=>by subst q;rw [a_] at c;cases c
  rw [b7 ne,a_]
end
section
variable {K:Z2} {Z:LC} {C S:Z0} {H H':Hp}
structure Oz (Z:LC) (C:Z0):Prop where
 k:C≠Z.k
 c:C≠Z.c
 p:C≠Z.p
 l:C≠Z.l
theorem cT.off (d:cT Z H k n) (m:Mv Z k H c H') (e:H b=some o) (nl:∀ a,o≠.lst a) (f:Plain Z o):H' b=some o:=
 m.out b o e (fun z=>by obtain ⟨a,h⟩:=d.has_ls z;rw [e] at h;cases h;exact nl _ rfl) f
theorem cT.sqT (b:cT Z H k n) (m:Mv Z k H d H') (z:eE K H a c):eE K H' a c:=by
 rcases z with (z|⟨o,z⟩)|z
 ·exact .inl (.inl (b.off m z (by intro _ h;cases h) (by intro _ _ _ h;cases h)))
 ·exact .inl (.inr ⟨o,b.off m z (by intro _ h;cases h) (by intro _ _ _ h;cases h)⟩)
 ·exact .inr z
theorem cT.own_ls (f:cT Z H k n) (h:b∈k.own):∃ C a fs,H b=some (.ins C a fs):=by
 rcases aaf.mp h with rfl|m
 ·obtain ⟨a,e⟩:=f.ob;exact ⟨_,_,_,e⟩
 ·rcases aal.mp m with m|m
  ·obtain ⟨s,c,rfl⟩:=aar.mp m;obtain ⟨i,d⟩:=aaB.mp c;obtain ⟨y,_,r⟩:=f.pg.at d;obtain ⟨a,e⟩:=r.ob;exact ⟨_,_,_,e⟩
  ·obtain ⟨s,c,g⟩:=aaN.mp m;obtain ⟨i,d⟩:=aaB.mp c;obtain ⟨y,_,r⟩:=f.pg.at d;obtain ⟨j,l⟩:=aaB.mp g;obtain ⟨z,_,o⟩:=r.cs.at l;obtain ⟨a,_,_,_,e,_⟩:=o.ex;exact ⟨_,_,_,e⟩
theorem cT.by {g o k2:LA} {B v:Ln} (h:Z.Ok) (j:cT Z H g B) (a:cT Z H k2 v) (D:∀ b∈g.own,b∉k2.own) (E:∀ b∈g.ls,b∉k2.ls) (m:Mv Z g H o H'):cT Z H' k2 v:=by
 have kt:Kt Z H H':=⟨j.tks h m,fun c f fs e=>m.out c _ e (CN j e) (by intro C y A z;cases z;exact ⟨h.kc,h.kp,h.kl⟩)⟩;have n:∀ b∈k2.own,H' b=H b:=fun b d=>by obtain ⟨C,f,fs,e⟩:=a.own_ls d;rw [m.oth b _ e (fun z=>D b z d) (CN j e),e]
 have p:∀ b∈k2.ls,H' b=H b:=fun b d=>by obtain ⟨F,e⟩:=a.has_ls d;rw [m.oth b _ e (fun z=>by obtain ⟨C,f,fs,q⟩:=j.own_ls z;rw [e] at q;cases q) (fun z=>E b z d),e]
 obtain ⟨f,e⟩:=a.ob;refine ⟨⟨f,by rw [n _ LA.a_own];exact e⟩,by rw [p _ (aan ..)];exact a.ls,Pd.mapM (fun s l m r=>?_) a.pg,a.n1,a.n2,a.n3⟩;obtain ⟨i,x⟩:=aaB.mp l;exact r.kt kt (n _ (LA.p_own x)) (p _ (aag _ (aar.mpr ⟨s,l,rfl⟩))) fun c w=>n _ (LA.c_own (aaN.mpr ⟨s,l,w⟩))
theorem xZ {d b:Type} {R:d->b->Prop} {Q:b->Prop}:∀ {c:List d} {a:List b},Pd R c a->(∀ y∈a,Q y)->Pd (fun x y=>R x y/\Q y) c a
 |_,_,.nil,_=>.nil
 |_,_,.cons r t,h=>.cons ⟨r,h _ (aan ..)⟩ (xZ t fun y m=>h y (aag _ m))
theorem Ht (ht:ts[i]?=some t) (hp:tr[i]?=some p) (ea:t'.a=t.a) (ep:p'.1=p.1):jG (ts.set i t') (tr.set i p')=jG ts tr:=by
 induction ts generalizing tr i with
 |nil=>simp at ht
 | cons u ts ih=>
   cases tr with
   |nil=>simp at hp
   | cons q tr=>
     cases i with
     | zero=>simp at ht hp;subst ht hp;unfold jG;rw [ac0,ac0,abN,abN,ea,ep]
     | succ i=>have:=ih (tr:=tr) (i:=i) (by simpa using ht) (by simpa using hp);unfold jG at this ⊢;rw [acw,acw,abN,abN,this]
theorem gC.move {s:SA} {d:Sd} {t:TA} (zo:Z.Ok) (ne:uX Z C S) (cn:Oz Z C) (st:gC Z C S K H s d) (ht:s.ts[i]?=some t) (hp:d.tr[i]?=some p) (m:Mv Z t.k H k' H') (ln':cT Z H' k' n') :
 gC Z C S K H' { s with ts:=s.ts.set i ⟨t.a,k'⟩ } { d with tr:=d.tr.set i (p.1,{ p.2 with ln:=n' }) }:=by
 obtain ⟨p0,hp0,tk⟩:=st.tr.at ht;rw [hp] at hp0;cases hp0;have ln:=tk.ln;obtain ⟨dx,v,e,rv⟩:=st.ob;have dk:∀ {b kvs},H b=some (.dK kvs)->H' b=some (.dK kvs):=fun e=>ln.off m e (by intro _ h;cases h) (by intro _ _ _ h;cases h);have mem:p∈d.tr:=aaq hp;have tkr:∀ {u:TA} {q:Tk},jK Z C K H u q->qW q.ts=true->∃ dx v,H' u.a=some (.ins C dx (M9 u.k.a q.ck v))/\Rep K H' v q.ts:=fun h n=>by obtain ⟨dx,v,e,r⟩:=h.ob;exact ⟨dx,v,ln.off m e (by intro _ h;cases h) (by intro _ _ _ h;cases h;exact ⟨cn.c,cn.p,cn.l⟩),lg (fun a xs z=>ln.sqT m z) r n⟩
 have il:i<s.ts.length:=(aaG.mp ht).1;have kn':Pd (fun a (q:Str×List jj)=>∃ ta,eY Z.k H' a q.1 ta q.2) s.ks d.kn:=st.kn.map fun a q h=>by obtain ⟨ta,h⟩:=h;exact ⟨ta,h.kt ⟨ln.tks zo m,fun c dx fs e=>m.out c _ e (CN ln e) (by intro C dx' fs' z;cases z;exact ⟨zo.kc,zo.kp,zo.kl⟩)⟩⟩
 have ap:∀ j u,j≠i->s.ts[j]?=some u->Apart ⟨t.a,k'⟩ u:=fun j u nj hu b mb mu=>by
  obtain ⟨q,_,tu⟩:=st.tr.at hu;have a0:=st.dj i j t u (aaC nj) ht hu;obtain ⟨o,eb⟩:=tu.here b mu;rcases aaf.mp mb with h|mb
  ·exact a0 b (by rw [h];exact aan ..) mu
  ·rcases aal.mp mb with mb|mb
   ·rcases m.fro b mb with h|h
    ·exact a0 b (aag _ (aaI _ h)) mu
    ·rw [h] at eb;cases eb
   ·rcases m.fr b mb with h|h
    ·exact a0 b (aag _ (aav _ h)) mu
    ·rw [h] at eb;cases eb
 refine ⟨⟨dx,v,ln.off m e (by intro _ h;cases h) (by intro _ _ _ h;cases h;exact ⟨ne.c.symm,ne.p.symm,ne.l.symm⟩),lg (fun a xs z=>ln.sqT m z) rv st.nh⟩,dk st.ek,kn',?_,?_,dk st.ec,?_,st.nk,?_,st.nh,?_,st.n1,st.n2,st.n3⟩
 ·show H' s.dt=some (.dK (jG (s.ts.set i ⟨t.a,k'⟩) (d.tr.set i (p.1,{ p.2 with ln:=n' }))));rw [Ht (t':=⟨t.a,k'⟩) (p':=(p.1,{ p.2 with ln:=n' })) ht hp rfl rfl];exact dk st.et
 ·refine Pd.setM (R:=fun u (q:Str×Tk)=>jK Z C K H u q.2/\qW q.2.ts=true) ?_ i (fun j u q nj hu r=>?_) (xZ st.tr st.nt)
  ·obtain ⟨dx,v,e,r⟩:=tkr tk (st.nt p mem);exact ⟨⟨dx,v,by show H' t.a=some (.ins C dx (M9 k'.a _ v));rw [m.a];exact e,r⟩,ln'⟩
  ·have a0:=st.dj i j t u (aaC nj) ht hu;exact ⟨tkr r.1 r.2,ln.by zo r.1.ln (fun b m1 m2=>a0 b (aag _ (aaI _ m1)) (aag _ (aaI _ m2))) (fun b m1 m2=>a0 b (aag _ (aav _ m1)) (aag _ (aav _ m2))) m⟩
 ·show ((d.tr.set i (p.1,_)).map (·.1)).Nodup;have:(d.tr.set i (p.1,{ p.2 with ln:=n' })).map (·.1)=d.tr.map (·.1):=by
   rw [acx];refine List.ext_getElem? fun j=>?_;rw [ab0];split
   ·rename_i h;subst h;have jl:i<(d.tr.map (·.1)).length:=by rw [aah];exact (aaG.mp hp).1
    rw [aad jl,aau,hp];rfl
   ·rfl
  rw [this];exact st.nm
 ·intro j k u v njk hu hv;have hu':(s.ts.set i ⟨t.a,k'⟩)[j]?=some u:=hu;have hv':(s.ts.set i ⟨t.a,k'⟩)[k]?=some v:=hv;rw [ab0] at hu' hv';by_cases zj:i=j
  ·subst zj;rw [aad rfl,aad il] at hu';rw [aac njk] at hv';cases hu';exact ap k v (aaC njk) hv'
  ·rw [aac zj] at hu';by_cases zk:i=k
   ·subst zk;rw [aad rfl,aad il] at hv';cases hv';exact (ap j u (aaC zj) hu').symm
   ·rw [aac zk] at hv';exact st.dj j k u v njk hu' hv'
 ·intro q mq;rcases ab8 mq with h|h
  ·exact st.nt q h
  ·rw [h];exact st.nt p mem
end
noncomputable def SA.all (s:SA):List Addr:=s.a::s.dk::s.dt::s.dc::s.ts.flatMap TA.all
structure Fr (s s':SA) (H H':Hp):Prop where
 kp:∀ b u,H b=some u->b∉s.all->H' b=some u
 sub:∀ b∈s'.all,b∈s.all∨H b=none
 gr:∀ b,H' b=none->H b=none
 a:s'.a=s.a
structure NT (n:Ln) (tm:Int):Prop where
 ne:n.pg≠[]
 hm:2≤n.most
 hl:n.pg.length≤900
 hc:∀ m∈n.pg,m.cs.length≤900
 ht:∀ t,n.last=some t->t≤tm
def Sd.put (d:Sd) (i:Nat) (p:Str×Tk) (n:Ln):Sd:={ d with tr:=d.tr.set i (p.1,{ p.2 with ln:=n }) }
theorem Fr.trans (a:Fr s f H i) (b:Fr f d i g):Fr s d H g:=by
 refine ⟨fun c u e n=>b.kp c u (a.kp c u e n) fun m=>?_,fun c m=>?_,fun c e=>a.gr c (b.gr c e),b.a.trans a.a⟩
 ·rcases a.sub c m with h|h
  ·exact n h
  ·rw [e] at h;cases h
 ·rcases b.sub c m with h|h
  ·exact a.sub c h
  ·exact .inr (a.gr c h)
theorem Fr.same (q:cj H c):Fr s s H c:=⟨fun b u e _=>q _ _ e,fun b m=>.inl m,fun b e=>dh q e,rfl⟩
theorem SA.t_all {s:SA} {i:Nat} {t:TA} (h:s.ts[i]?=some t) {b:Z0} (m:b∈t.all):b∈s.all:=
 aag _ (aag _ (aag _ (aag _ (aaN.mpr ⟨t,aaq h,m⟩))))
theorem Mv.frm {s:SA} {i:Nat} {t:TA} {j:LA} (g:s.ts[i]?=some t) (m:Mv Z t.k H j p):Fr s { s with ts:=s.ts.set i ⟨t.a,j⟩ } H p:=by
 refine ⟨fun b u e n=>m.oth b u e (fun z=>n (SA.t_all g (aag _ (aaI _ z)))) (fun z=>n (SA.t_all g (aag _ (aav _ z)))),fun b d=>?_,m.gr,rfl⟩;have up:∀ {c:Z0} {l:Zh},c∈l->c∈s.a::s.dk::s.dt::s.dc::l:=fun m=>aag _ (aag _ (aag _ (aag _ m)));have f:b∈[s.a,s.dk,s.dt,s.dc]++(s.ts.set i ⟨t.a,j⟩).flatMap TA.all:=d;rcases aal.mp f with h|h
 ·exact .inl (show b∈[s.a,s.dk,s.dt,s.dc]++_ from aaI _ h)
 ·obtain ⟨u,o,d⟩:=aaN.mp h;rcases ab8 o with h|h
  ·exact .inl (up (aaN.mpr ⟨u,h,d⟩))
  ·subst h;rcases aaf.mp d with h|d
   ·exact .inl (SA.t_all g (by rw [h];exact aan ..))
   ·rcases aal.mp d with h|h
    ·rcases m.fro b h with h|h
     ·exact .inl (SA.t_all g (aag _ (aaI _ h)))
     ·exact .inr h
    ·rcases m.fr b h with h|h
     ·exact .inl (SA.t_all g (aag _ (aav _ h)))
     ·exact .inr h
def Ir (Z:LC) (C S:Z0) (K:Z2) (e f:Z0):Sp:=fun vs H Q E=>∃ (s:SA) (d:Sd) (h:Z0) (nm kd:Str) (i:Nat) (t:TA) (p:Str×Tk),vs=[.ref s.a,.ref h]/\eE K H h [.str nm,.str kd]/\gC Z C S K H s d/\s.ts[i]?=some t/\d.tr[i]?=some p/\p.1=nm/\kd.length≤1000/\
 (((∀ q∈d.kn,q.1≠kd)/\∀ b a,jy H [("word",.str "nokind")] b a->E (.ref e) (some b) a)∨ ∃ (j:Nat) (q:Str×List jj),d.kn[j]?=some q/\q.1=kd/\ if d.still=true then ∀ b a,jy H [("word",.str "stopped")] b a->E (.ref f) (some b) a else k_ q.1 q.2/\NT p.2.ln p.2.ck/\∀ c a,gC Z C S K a { s with ts:=s.ts.set i ⟨t.a,c⟩ } (d.put i p (j6 q.1 q.2 p.2.ck p.2.ln).2)->Fr s { s with ts:=s.ts.set i ⟨t.a,c⟩ } H a->Q (Te (j6 q.1 q.2 p.2.ck p.2.ln).1) a)
theorem Dl:cA ["stand","handed","name","kind","track","form"] ["stand","handed"] (bK (top 94)):=by ext
theorem T9 (F:gj K "do_claim" "do_claim" (top 94) f fd) (L:LZ K mg Z) (TZ:TZ K mg C) (SZ:SZ K mg S) (ne:uX Z C S) (cn:Oz Z C)
 (MT:MD K S "track_of" "Stand.track_of" (sM 1) ["self","name"] fT z) (MK:MD K S "kind_of" "Stand.kind_of" (sM 2) ["self","name"] fK D) (GK:cD P w K mg base (jC P w) 4 fK D ["self","name"] (Ci Z C S K cN))
 (MC:MD K Z.l "claim" "Lane.claim" (lM 1) ["self","kind","time"] fC G) (GC:cD P w K mg base dI 8 fC G ["self","kind","time"] (QZ Z))
 (hB:mg "Stopped" = some (.ref l)) (EB:Iz K l) (iB:findIn K (.ref l) "__init__" = some (some (.ref fS))) (nB:isFn K (.ref fS)=true) (bB:Binds K J ["self","words"] []) (GB:cD P w K mg base dI 2 fS J ["self","words"] (X7 K "stopped")):cD P w K mg base (jC P w) 9 f fd ["stand","handed"] (Ir Z C S K cN l):=by
 have GT:cD P w K mg base dI 1 fT z ["self","name"] (sX Z C S K):=qH MT.F SZ;refine F.ok1 Dl (by ext) fun b A O s H vs Q E M h=>?_;obtain ⟨n,d,h,nm,kd,i,t,p,rfl,sq,g,N,hp,rfl,hl,q⟩:=h;have X:dm 1 (A.deeper (PyProof.Rows.envOfC "do_claim" (bK (top 94)) s.heap.objs.size f b)):=M.mono (by decide);have Y:dm 3 (A.deeper (PyProof.Rows.envOfC "do_claim" (bK (top 94)) s.heap.objs.size f b)):=M.mono (by decide);have aa:dm 4 (A.deeper (PyProof.Rows.envOfC "do_claim" (bK (top 94)) s.heap.objs.size f b)):=M.mono (by decide);refine ⟨_,(b8 (lH (pv 1) (h_ rfl (cJ (cF (i:=2) Dl.nd rfl (.inl rfl)) (cJ (cF (i:=3) Dl.nd rfl (.inl rfl)) fZ)))) (b8 (cQ (i:=4) Dl.nd rfl (.inl rfl) (dg (E:=E0) (pv 0) SZ.c MT.M GT X MT.b .nil cZ (aK (pv 2) b_))) (b8 (cQ (i:=5) Dl.nd rfl (.inl rfl) (dg (E:=E) (pv 0) SZ.c MK.M GK aa MK.b .nil (jR fun _ _ _ h=>h) (aK (pv 3) b_))) (b8 (dW (ik (cz (pv 0) rfl)) (c7 (vg (B:="ValueError") (newId:="ValueError.__new__") (W:=E) (vY (E:=E0) adb EB.x iB nB GB Y (by rfl) hB bB .nil cZ (aK cH b_)) rfl rfl (fun ab σ H' s' e cls dd I x q=>Uo I x q))) cV) (c7 (cI (dg (E:=E0) (cz (pv 4) rfl) L.lc MC.M GC M MC.b .nil cZ (aK (pv 5) (aK (cz (pv 4) rfl) b_))))))))),?_⟩;obtain ⟨dx,v,e,rv⟩:=g.ob;refine ⟨_,rfl,h,_,rfl,sq,rfl,_,_,rfl,_,_,rfl,rfl,?_⟩;refine ⟨_,rfl,n.a,dx,_,rfl,e,rfl,_,rfl,n,d,p.1,i,t,p,rfl,g,N,hp,rfl,?_⟩;refine ⟨_,rfl,n.a,dx,_,rfl,e,rfl,_,rfl,n,d,kd,rfl,g,hl,?_⟩;rcases q with ⟨no,q⟩|⟨j,r,hj,rfl,q⟩
 ·exact .inr ⟨no,q⟩
 ·obtain ⟨a,ha,ta,ka⟩:=g.kn.at' hj;refine .inl ⟨j,a,r,ha,hj,rfl,?_⟩;refine ⟨_,rfl,n.a,S,dx,_,_,rfl,e,SZ.c,SZ.s6,rfl,_,rfl,?_⟩;cases hs:d.still with
  | true=>
    rw [hs,aad rfl] at q;refine jz rfl ?_;refine fun R he=>⟨R,l,_,rfl,EB,a_,fun T c=>⟨rfl,R,l,some T,rfl,?_,he,EB.x,q T _ (rH he c)⟩⟩;have ne:R≠T:=fun q=>by subst q;rw [a_] at c;cases c
    rw [b7 ne,a_]
  | false=>rw [hs,aac (by decide)] at q;obtain ⟨ko,o,q⟩:=q;refine iz rfl ?_;obtain ⟨p0,y,tk⟩:=g.tr.at N;rw [hp] at y;cases y;obtain ⟨dT,vT,eT,_⟩:=tk.ob;obtain ⟨dl,el⟩:=tk.ln.ob;exact ⟨_,rfl,t.a,C,dT,_,_,rfl,eT,TZ.c,TZ.t1,rfl,t.k.a,dl,_,rfl,el,rfl,_,rfl,_,rfl,t.a,C,dT,_,_,rfl,eT,TZ.c,TZ.t2,rfl,t.k,p.2.ln,a,ta,r.1,r.2,p.2.ck,rfl,tk.ln,ka,ko,o.ne,o.hm,o.hl,o.hc,o.ht,fun k' H' U m=>q k' H' (g.move L.ok ne cn N hp m U) (m.frm N)⟩
def Eu (Z:LC) (C:Z0) (K:Z2):Sp:=fun vs H Q _=>∃ (s:TA) (t:Tk) (r:List Cl) (m:Cl),vs=[.ref s.a]/\jK Z C K H s t/\s.k.cs.length≤900/\t.ln.pg.length≤900/\wait t.ln=r++[m]/\∀ a,cj H a->Q (.int m.tk) a
theorem Km:cA ["self","tickets"] ["self"] (bK (tM 1)):=by ext
theorem N5 (F:gj K "top" "Track.top" (tM 1) f o) (T:Txt K O) (L:LZ K O Z) (TZ:TZ K O C) (p:MD K Z.l "pending" "Lane.pending" (lM 16) ["self"] n b) (M:cD P w K O base dI 3 n b ["self"] (Rm Z)):cD P w K O base dI 4 f o ["self"] (Eu Z C K):=by
 refine F.ok Km (by ext) fun x A d s H vs Q E y h=>?_;obtain ⟨g,t,r,m,rfl,tk,D,G,j,q⟩:=h;refine ⟨_,(b8 (cQ (i:=1) Km.nd rfl (.inl rfl) (du (E:=E0) (cz (pv 0) rfl) L.lc p.M M y p.b .nil cZ)) (b8 (dW (dz iK (d9 dD (by rfl) T.len gF (aK (pv 1) b_)) cu (dw _)) (c7 dC) cV) (c7 (cI (dY eV (pv 1) (rO o7 cu) (fun _ _=>rfl)))))),?_⟩;obtain ⟨I,v,e,_⟩:=tk.ob;obtain ⟨dl,J⟩:=tk.ln.ob;refine ⟨_,rfl,g.a,C,I,_,_,rfl,e,TZ.c,TZ.t1,rfl,g.k.a,dl,_,rfl,J,rfl,g.k,t.ln,rfl,tk.ln,D,G,fun l N z _ a=>?_⟩;refine ⟨_,rfl,l,_,rfl,.inl (dR.of a),rfl,_,rfl,?_⟩;refine iz (by rw [j];simp;omega) ?_;have B:((wait t.ln).map fun c=>V.int c.tk)[((wait t.ln).map fun c=>V.int c.tk).length-1]?=some (.int m.tk):=by rw [j];simp
 exact ⟨_,rfl,_,rfl,l,_,_,_,rfl,rfl,dR.of a,p6 B,q _ z⟩
def T5 (Z:LC):Sp:=fun vs H Q _=>∃ (k:LA) (n:Ln) (tk:Int),vs=[.ref k.a,.int tk]/\cT Z H k n/\k.cs.length≤900/\n.pg.length≤900/\(∃ m∈wait n,m.tk=tk)/\∀ (x t:Z0) (m:Cl) (a:Hp),cj H a->m∈wait n->m.tk=tk->a x=some (.tup [.int m.tm,.str m.nm,.ref t])->a t=some (.tup (m.vs.map V.int))->Q (.ref x) a
theorem QW:cA ["self","ticket","claim"] ["self","ticket"] (bK (lM 17)):=by ext
theorem Rn (F:gj K "event" "Lane.event" (lM 17) f r) (L:LZ K S Z) (v:MD K Z.l "waiting_with" "Lane.waiting_with" (lM 7) ["self","ticket"] p b) (W:cD P w K S C dI 3 p b ["self","ticket"] (Hf Z)):cD P w K S C dI 4 f r ["self","ticket"] (T5 Z):=by refine F.ok QW (by ext) fun y A d s H vs Q E z h=>?_;obtain ⟨k,n,tk,rfl,o,J,M,N,q⟩:=h;refine ⟨_,(b8 (cQ (i:=2) QW.nd rfl (.inl rfl) (dg (E:=E0) (pv 0) L.lc v.M W z v.b .nil cZ (aK (pv 1) b_))) (c7 (cI (eZ (aK (cz (pv 2) rfl) (aK (cz (cz (pv 2) rfl) rfl) (aK (cz (pv 2) rfl) b_))))))),?_⟩;obtain ⟨O,e⟩:=o.ob;refine ⟨_,rfl,k.a,O,_,rfl,e,rfl,_,rfl,k,n,tk,rfl,o,J,M,N,fun c m X B Y D G I=>?_⟩;obtain ⟨g,kk,a,t,j,R,T⟩:=D.ex;obtain ⟨⟨dk,U⟩,_⟩:=id R;exact ⟨_,rfl,c,Z.c,g,_,_,rfl,j,L.cc,L.c2,rfl,_,rfl,c,Z.c,g,_,_,rfl,j,L.cc,L.c3,rfl,kk,Z.k,dk,_,_,rfl,U,L.kc.cl,L.kc.nN,rfl,_,rfl,c,Z.c,g,_,_,rfl,j,L.cc,L.c4,rfl,(by ext),fun x l=>q x t m _ (B.trans (cj.new l)) G I a_ ((cj.new l) _ _ T)⟩
def Sg (Z:LC) (C S:Z0) (K:Z2):Sp:=fun vs H Q _=>∃ (s:SA) (d:Sd) (h b:Z0) (nm:Str) (i:Nat) (t:TA) (p:Str×Tk) (r:List Cl) (m:Cl) (a:List Int),vs=[.ref s.a,.ref h]/\eE K H h [.str nm,.ref b]/\H b=some (.tup (a.map V.int))/\gC Z C S K H s d/\s.ts[i]?=some t/\d.tr[i]?=some p/\p.1=nm/\
 t.k.cs.length≤900/\p.2.ln.pg.length≤900/\((fQ p.2.ln).map (·.tk)).Nodup/\wait p.2.ln=r++[m]/\(∀ c∈wait p.2.ln,c.tk=m.tk->Pd pG c.fi a)/\
 ∀ e,gC Z C S K e s (d.put i p (jF m.tk a p.2.ln))->Fr s s H e->Q .non e
theorem Gw:cA ["stand","handed","name","values","track"] ["stand","handed"] (bK (top 95)):=by ext
theorem PP (F:gj K "do_fill" "do_fill" (top 95) f fd) (T:Txt K mg) (L:LZ K mg Z) (TZ:TZ K mg C) (SZ:SZ K mg S) (ne:uX Z C S) (cn:Oz Z C)
 (N:MD K S "track_of" "Stand.track_of" (sM 1) ["self","name"] Y n) (MP:MD K C "top" "Track.top" (tM 1) ["self"] fP o) (GP:cD P w K mg base dI 4 fP o ["self"] (Eu Z C K))
 (MF:MD K Z.l "fill" "Lane.fill" (lM 9) ["self","ticket","values"] fF x) (GF:cD P w K mg base dI 4 fF x ["self","ticket","values"] (S7 Z)):cD P w K mg base dI 5 f fd ["stand","handed"] (Sg Z C S K):=by
 have GT:cD P w K mg base dI 1 Y n ["self","name"] (sX Z C S K):=qH N.F SZ;refine F.ok Gw (by ext) fun z A B s H vs Q E D h=>?_;obtain ⟨a,d,h,b,nm,i,t,p,r,m,zs,rfl,sq,hb,y,j,M,rfl,O,R,nd,U,fz,q⟩:=h;have J:dm 1 (A.deeper (PyProof.Rows.envOfC "do_fill" (bK (top 95)) s.heap.objs.size f z)):=D.mono (by decide);refine ⟨_,(b8 (lH (pv 1) (h_ rfl (cJ (cF (i:=2) Gw.nd rfl (.inl rfl)) (cJ (cF (i:=3) Gw.nd rfl (.inl rfl)) fZ)))) (b8 (cQ (i:=4) Gw.nd rfl (.inl rfl) (dg (E:=E0) (pv 0) SZ.c N.M GT J N.b .nil cZ (aK (pv 2) b_))) (c7 (d8 (dg (E:=E0) (cz (pv 4) rfl) L.lc MF.M GF D MF.b .nil cZ (aK (du (E:=E0) (pv 4) TZ.c MP.M GP D MP.b .nil cZ) (aK (pv 3) b_))))))),?_⟩;obtain ⟨dx,v,e,rv⟩:=y.ob;refine ⟨_,rfl,h,_,rfl,sq,rfl,_,_,rfl,_,_,rfl,rfl,?_⟩;refine ⟨_,rfl,a.a,dx,_,rfl,e,rfl,_,rfl,a,d,p.1,i,t,p,rfl,y,j,M,rfl,?_⟩;obtain ⟨p0,l,tk⟩:=y.tr.at j;rw [M] at l;cases l;obtain ⟨W,vT,X,_⟩:=id tk.ob;obtain ⟨dl,el⟩:=tk.ln.ob;refine ⟨_,rfl,t.a,C,W,_,_,rfl,X,TZ.c,TZ.t1,rfl,t.k.a,dl,_,rfl,el,rfl,_,rfl,t.a,W,_,rfl,X,rfl,t,p.2,r,m,rfl,tk,O,R,U,fun H1 G=>?_⟩;refine ⟨_,rfl,t.k,p.2.ln,m.tk,b,zs,rfl,tk.ln.same G,O,R,nd,⟨m,by rw [U];simp,rfl⟩,G _ _ hb,fz,fun H2 I mv=>?_⟩;have c:=(Mv.same (Z:=Z) (k:=t.k) G).trans mv;have hs:({ a with ts:=a.ts.set i ⟨t.a,t.k⟩ }:SA)=a:=by have:a.ts.set i ⟨t.a,t.k⟩=a.ts:=kW j;rw [this]
 have g:=y.move L.ok ne cn j M c I;have fr:=c.frm j;rw [hs] at g fr;exact q H2 g fr
def IV (K:Z2):Sp:=fun vs H Q _=>∃ (x y z:V),vs=[x,y,z]/\Rep K H x jT/\Q (.bl true) H
theorem G5 (h:Rep K H x jT):∃ a,x=.ref a/\eE K H a [.str "all"]:=by
 cases h with
 | @tup a d _ b c=>
   cases c with
   |cons r1 r2=>cases r1;cases r2;exact ⟨_,rfl,b⟩
theorem JC:cA ["leaf","kind","values","form","place"] ["leaf","kind","values"] (bK (top 76)):=by ext
theorem N_ (F:gj K "passes_leaf" "passes_leaf" (top 76) f c):cD P w K l j dI 1 f c ["leaf","kind","values"] (IV K):=by refine F.ok JC (by ext) fun d A b s H vs Q E g h=>?_;obtain ⟨x,y,z,rfl,r,q⟩:=h;obtain ⟨a,rfl,e⟩:=G5 r;refine ⟨_,(b8 (cQ (i:=3) JC.nd rfl (.inl rfl) (dY gZ (pv 0) cu (fun _ _=>rfl))) (b8 (dW (dz iK (pv 3) cH (dw _)) (c7 (cI jf)) cV) (b8 dC (b8 dC (b8 dC (c7 dC)))))),?_⟩;exact ⟨_,rfl,a,_,_,_,rfl,rfl,e,rfl,_,rfl,rfl,_,rfl,jz (by ext) q⟩
theorem K1:cA ["test","kind","values","form"] ["test","kind","values"] (bK (top 75)):=by ext
theorem Mt (F:gj K "passes" "passes" (top 75) f e) (g:gK K p "passes_leaf" (top 76) ["leaf","kind","values"] d b):cD P w K p o dI 2 f e ["test","kind","values"] (IV K):=by have m:cD P w K p o dI 1 d b ["leaf","kind","values"] (IV K):=N_ g.F;refine F.ok K1 (by ext) fun j A c s H vs Q E l h=>?_;obtain ⟨x,y,z,rfl,r,q⟩:=h;obtain ⟨a,rfl,n⟩:=G5 r;refine ⟨_,(b8 (cQ (i:=3) K1.nd rfl (.inl rfl) (dY gZ (pv 0) cu (fun _ _=>rfl))) (b8 (dW (dz iK (pv 3) cH (dw _)) (c7 dC) cV) (b8 (dW (dz iK (pv 3) cH (dw _)) (c7 dC) cV) (b8 (dW (dz iK (pv 3) cH (dw _)) (c7 dC) cV) (c7 (cI (jt g m l (aK (pv 0) (aK (pv 1) (aK (pv 2) b_)))))))))),?_⟩;exact ⟨_,rfl,a,_,_,_,rfl,rfl,n,rfl,_,rfl,rfl,_,rfl,iz (by ext) ⟨_,rfl,rfl,_,rfl,iz (by ext) ⟨_,rfl,rfl,_,rfl,iz (by ext) ⟨_,rfl,_,rfl,_,rfl,_,y,z,rfl,r,q⟩⟩⟩⟩
theorem gC.same (b:gC Z C S K H s d) (q:cj H g):gC Z C S K g s d:=by obtain ⟨c,v,e,f⟩:=b.ob;exact ⟨⟨c,v,q _ _ e,f.same q⟩,q _ _ b.ek,b.kn.map (fun a p ⟨t,h⟩=>⟨t,h.kt (cj.kt q)⟩),q _ _ b.et,b.tr.map (fun _ _ h=>h.same q),q _ _ b.ec,b.nm,b.nk,b.dj,b.nh,b.nt,b.n1,b.n2,b.n3⟩
def RL (Z:LC) (C S:Z0) (K:Z2):Sp:=fun vs H Q _=>∃ (s:SA) (d:Sd) (h:Z0) (nm:Str) (i j:Nat) (t:TA) (p:Str×Tk) (q:Str×List jj) (r:List Cl) (m:Cl),vs=[.ref s.a,.ref h]/\eE K H h [.str nm]/\gC Z C S K H s d/\s.ts[i]?=some t/\d.tr[i]?=some p/\p.1=nm/\p.2.ts=jT/\d.halt=.none/\d.kn[j]?=some q/\q.1.length≤1000/\
 t.k.cs.length≤900/\p.2.ln.pg.length≤900/\((fQ p.2.ln).map (·.tk)).Nodup/\wait p.2.ln=r++[m]/\(∀ c∈wait p.2.ln,c.nm=q.1)/\
 ∀ a,gC Z C S K a s (d.put i p (q9 m.tk p.2.ln))->Fr s s H a->Q (.bl true) a
theorem vM:cA ["stand","handed","track","ticket","time","kind","values","form","tally"] ["stand","handed"] (bK (top 96)):=by ext
theorem Qc (F:gj K "do_give" "do_give" (top 96) f fd) (T:Txt K mg) (L:LZ K mg Z) (TZ:TZ K mg C) (SZ:SZ K mg S) (ne:uX Z C S) (cn:Oz Z C)
 (MT:MD K S "track_of" "Stand.track_of" (sM 1) ["self","name"] fT Y) (MK:MD K S "kind_of" "Stand.kind_of" (sM 2) ["self","name"] fK fdK) (GK:cD P w K mg base (jC P w) 4 fK fdK ["self","name"] (Ci Z C S K cN))
 (MP:MD K C "top" "Track.top" (tM 1) ["self"] fP fdP) (GP:cD P w K mg base dI 4 fP fdP ["self"] (Eu Z C K))
 (ME:MD K Z.l "event" "Lane.event" (lM 17) ["self","ticket"] fE fdE) (GE:cD P w K mg base dI 4 fE fdE ["self","ticket"] (T5 Z))
 (MG:MD K Z.l "give" "Lane.give" (lM 10) ["self","ticket"] fG fdG) (GG:cD P w K mg base dI 5 fG fdG ["self","ticket"] (QX Z))
 (DS:gK K mg "passes" (top 75) ["test","kind","values"] fS fdS) (DL:gK K mg "passes_leaf" (top 76) ["leaf","kind","values"] fL fdL):cD P w K mg base (jC P w) 6 f fd ["stand","handed"] (RL Z C S K):=by
 have GT:cD P w K mg base dI 1 fT Y ["self","name"] (sX Z C S K):=qH MT.F SZ;have GS:cD P w K mg base dI 2 fS fdS ["test","kind","values"] (IV K):=Mt DS.F DL;refine F.ok1 vM (by ext) fun n A aa s H vs Q E hr h=>?_;obtain ⟨a,d,h,nm,i,j,t,p,kq,r,m,rfl,sq,G,U,hp,rfl,ae,af,hj,kl,tl,pl,nd,ew,W,q⟩:=h;have ac:dm 1 (A.deeper (PyProof.Rows.envOfC "do_give" (bK (top 96)) s.heap.objs.size f n)):=hr.mono (by decide);have ad:dm 2 (A.deeper (PyProof.Rows.envOfC "do_give" (bK (top 96)) s.heap.objs.size f n)):=hr.mono (by decide);have D:dm 4 (A.deeper (PyProof.Rows.envOfC "do_give" (bK (top 96)) s.heap.objs.size f n)):=hr.mono (by decide);refine ⟨_,(b8 (cQ (i:=2) vM.nd rfl (.inl rfl) (dg (E:=E0) (pv 0) SZ.c MT.M GT ac MT.b .nil cZ (aK (dY gZ (pv 1) cu (fun _ _=>rfl)) b_))) (b8 (cQ (i:=3) vM.nd rfl (.inl rfl) (du (E:=E0) (pv 2) TZ.c MP.M GP D MP.b .nil cZ)) (b8 (lH (dg (E:=E0) (cz (pv 2) rfl) L.lc ME.M GE D ME.b .nil cZ (aK (pv 3) b_)) (h_ rfl (cJ (cF (i:=4) vM.nd rfl (.inl rfl)) (cJ (cF (i:=5) vM.nd rfl (.inl rfl)) (cJ (cF (i:=6) vM.nd rfl (.inl rfl)) fZ))))) (b8 (cQ (i:=7) vM.nd rfl (.inl rfl) (dg (E:=E) (pv 0) SZ.c MK.M GK D MK.b .nil (jR fun _ _ _ h=>h) (aK (pv 5) b_))) (b8 (dW (iZ (ik (jt DS GS ad (aK (cz (pv 2) rfl) (aK (pv 7) (aK (pv 6) b_)))))) (b8 dC (c7 dC)) cV) (b8 (d8 (dg (E:=E0) (cz (pv 2) rfl) L.lc MG.M GG hr MG.b .nil cZ (aK (pv 3) b_))) (b8 (M4 (iJ ac5 rfl (rN (u5 acY PySem.F.type_dict_values tE (cz (pv 0) rfl))) (cF (i:=8) vM.nd rfl (.inl rfl)) (c7 dC))) (b8 (dW (PW.pt (yz (dz zu (cz (pv 0) rfl) j9 (dw _)) (uF (ik JS)))) (c7 dC) cV) (c7 (cI jf)))))))))),?_⟩;obtain ⟨dx,v,e,rv⟩:=G.ob;obtain ⟨p0,X,tk⟩:=G.tr.at U;rw [hp] at X;cases X;obtain ⟨dT,vT,eT,rT⟩:=id tk.ob;obtain ⟨dl,el⟩:=tk.ln.ob;refine ⟨_,rfl,a.a,dx,_,rfl,e,rfl,_,rfl,h,_,_,_,rfl,rfl,sq,rfl,a,d,p.1,i,t,p,rfl,G,U,hp,rfl,?_⟩;refine ⟨_,rfl,t.a,dT,_,rfl,eT,rfl,t,p.2,r,m,rfl,tk,tl,pl,ew,fun H1 s1=>?_⟩;refine ⟨_,rfl,t.a,C,dT,_,_,rfl,s1 _ _ eT,TZ.c,TZ.t1,rfl,t.k.a,dl,_,rfl,s1 _ _ el,rfl,_,rfl,t.k,p.2.ln,m.tk,rfl,tk.ln.same s1,tl,pl,⟨m,by rw [ew];simp,rfl⟩,fun x y m' H2 s2 mm em ex ey=>?_⟩;have l:=s1.trans s2;refine ⟨x,_,rfl,eE.of ex,rfl,_,_,rfl,_,_,rfl,_,_,rfl,rfl,?_⟩;obtain ⟨ak,ag,ah,ai⟩:=G.kn.at' hj;refine ⟨_,rfl,a.a,dx,_,rfl,l _ _ e,rfl,_,rfl,a,d,m'.nm,rfl,G.same l,by rw [W m' mm];exact kl,.inl ⟨j,ak,kq,ag,hj,(W m' mm).symm,?_⟩⟩;refine ⟨_,rfl,t.a,C,dT,_,_,rfl,l _ _ eT,TZ.c,TZ.t3,rfl,_,rfl,_,rfl,vT,_,_,rfl,by rw [← ae];exact rT.same l,_,rfl,iz rfl ?_⟩;refine ⟨_,rfl,t.a,C,dT,_,_,rfl,l _ _ eT,TZ.c,TZ.t1,rfl,t.k.a,dl,_,rfl,l _ _ el,rfl,_,rfl,t.k,p.2.ln,m.tk,rfl,tk.ln.same l,tl,pl,nd,⟨r,m,ew,rfl⟩,fun I ab mv=>?_⟩;have J:=(Mv.same (Z:=Z) (k:=t.k) l).trans mv;have hs:({ a with ts:=a.ts.set i ⟨t.a,t.k⟩ }:SA)=a:=by have:a.ts.set i ⟨t.a,t.k⟩=a.ts:=kW U;rw [this]
 have c:=G.move L.ok ne cn U hp J ab;have M:=J.frm U;rw [hs] at c M;obtain ⟨d3,v3,e3,r3⟩:=c.ob;refine ⟨a.dc,[],c.ec,fun o=>?_⟩;have na:a.a≠a.dc:=fun z=>by have:=c.ec;rw [← z,e3] at this;cases this
 refine ⟨_,rfl,a.a,S,d3,_,_,rfl,(by rw [b7 na];exact e3),SZ.c,SZ.s5,rfl,⟨a.dc,o,[],rfl,a_⟩,a.dc,o,[],rfl,rfl,a_,fun vw B=>?_⟩;have nv:a.dc≠vw:=cg a_ B;have N:I vw=none:=by rw [b7 nv.symm] at B;exact B
 refine ⟨vw,a.dc,o,[],rfl,a_,(by rw [b7 nv];exact a_),?_⟩;have S5:cj I (upd (upd (upd I a.dc (.frz o (.dK []))) vw (lZ vw a.dc)) a.dc (.dK [])):=fun b u eb=>by
  by_cases z:b=a.dc
  ·subst z;rw [c.ec] at eb;cases eb;exact a_
  ·rw [b7 z,b7 (cg eb N),b7 z];exact eb
 refine yc (fun j g H'=>(∃ v,g=_)/\H'=upd (upd I a.dc (.frz o (.dK []))) vw (lZ vw a.dc)) ⟨⟨(),rfl⟩,rfl⟩ (fun j g H' _ z=>by rw [z.2,b7 nv];exact a_) (fun j x g H' hx _=>by simp at hx) ?_;rintro g H' ⟨⟨_,rfl⟩,rfl⟩;refine ⟨by rw [b7 nv];exact a_,?_⟩;have O:=c.same S5;have R:=M.trans (Fr.same S5);generalize upd (upd (upd I a.dc (.frz o (.dK []))) vw (lZ vw a.dc)) a.dc (.dK [])=H5 at O R S5;have rh:v3=.non:=by have:=r3;unfold Sd.put at this;dsimp only at this;rw [af] at this;cases this;rfl
 subst rh;refine ⟨_,rfl,a.a,S,d3,_,_,rfl,S5 _ _ e3,SZ.c,SZ.s7,rfl,rfl,_,rfl,iz rfl (iz rfl ?_)⟩;exact q _ O R
structure zR (fs:List jj) (tm:Int) (zs:List Int) (n:Ln):Prop where
 co:NT n tm
 ov:n.over=false∨zK n+(1+(fs.length:Int))≤n.room
 wt:wait n=[]
 pl:n.pg.length≤800
 cl:(fQ n).length≤800
 nd:((fQ n).map (·.tk)).Nodup
 lt:∀ c∈fQ n,c.tk≤n.tks
 fz:Pd pG fs zs
def wz (c:Cl) (sz:Int) (r:List Pg) (h:Pg) (n:Ln):Ln:={ n with last:=some c.tm,tks:=n.tks+1,pg:=r++[{ h with cs:=h.cs++[c],us:=h.us+sz }] }
def uO (nm:Str) (fs:List jj) (a:Int) (b:List Int) (n:Ln):Cl:={ dZ (n.tks+1) a nm fs with vs:=b,gv:=true }
def Od (nm:Str) (fs:List jj) (a:Int) (b:List Int) (n:Ln):Bool->Ln->Prop
 |false,n'=>n'={ n with last:=some a,tks:=n.tks+1,mis:=n.mis+1 }/\n.room<zK n+(1+(fs.length:Int))/\n.most≤(n.pg.length:Int)-lD n
 |true,n'=>∃ r h,((n.pg=r++[h]/\h.us+(1+(fs.length:Int))≤n.room)∨(n.pg=r/\h=⟨[],0,0⟩/\n.room<zK n+(1+(fs.length:Int))/\(n.pg.length:Int)-lD n<n.most))/\
  n'={ wz (uO nm fs a b n) (1+(fs.length:Int)) r h n with giv:=n.giv+1 }
theorem tH (w:zR fs m zs n):(j6 nm fs m n=(none,{ n with last:=some m,tks:=n.tks+1,mis:=n.mis+1 })/\Od nm fs m zs n false { n with last:=some m,tks:=n.tks+1,mis:=n.mis+1 })∨
 ∃ r h,j6 nm fs m n=(some (n.tks+1),wz (dZ (n.tks+1) m nm fs) (1+(fs.length:Int)) r h n)/\fQ n=(r++[h]).flatMap (·.cs)/\r.length≤800/\Od nm fs m zs n true { wz (uO nm fs m zs n) (1+(fs.length:Int)) r h n with giv:=n.giv+1 }:=by
 obtain ⟨r,h,e,j⟩:=uy w.co.ne;have c:zK n=h.us:=by unfold zK;rw [j];rfl
 have hu1:zK { n with last:=some m,tks:=n.tks+1 }=h.us:=c;have g:=w.pl;have l:r.length+1=n.pg.length:=by rw [e];simp
 have d:j6 nm fs m n=if (eQ (1+(fs.length:Int)) { n with last:=some m,tks:=n.tks+1 }).1=true then (some (eQ (1+(fs.length:Int)) { n with last:=some m,tks:=n.tks+1 }).2.tks,m5 (dZ (eQ (1+(fs.length:Int)) { n with last:=some m,tks:=n.tks+1 }).2.tks m nm fs) (1+(fs.length:Int)) (eQ (1+(fs.length:Int)) { n with last:=some m,tks:=n.tks+1 }).2) else (none,{ (eQ (1+(fs.length:Int)) { n with last:=some m,tks:=n.tks+1 }).2 with mis:=(eQ (1+(fs.length:Int)) { n with last:=some m,tks:=n.tks+1 }).2.mis+1 }):=rfl
 by_cases b:h.us+(1+(fs.length:Int))≤n.room
 ·have a:eQ (1+(fs.length:Int)) { n with last:=some m,tks:=n.tks+1 }=(true,{ n with last:=some m,tks:=n.tks+1 }):=by unfold eQ;rw [hu1];exact aad b
  rw [d,a];refine .inr ⟨r,h,?_,by unfold fQ;rw [e],by omega,r,h,.inl ⟨e,b⟩,rfl⟩;show (some (n.tks+1),m5 (dZ (n.tks+1) m nm fs) _ { n with last:=some m,tks:=n.tks+1 })=_;rw [D_ (n:={ n with last:=some m,tks:=n.tks+1 }) e];rfl
 ·have i:n.over=false:=w.ov.resolve_right (by rw [c];exact b);by_cases f:n.most≤(n.pg.length:Int)-lD n
  ·have a:eQ (1+(fs.length:Int)) { n with last:=some m,tks:=n.tks+1 }=(false,{ n with last:=some m,tks:=n.tks+1 }):=by unfold eQ;rw [hu1];exact (aac b).trans ((aad f).trans (aad (by show (!n.over || _)=true;rw [i];rfl)))
   rw [d,a];exact .inl ⟨rfl,rfl,by rw [c];omega,f⟩
  ·have a:eQ (1+(fs.length:Int)) { n with last:=some m,tks:=n.tks+1 }=(true,lG { n with last:=some m,tks:=n.tks+1 }):=by unfold eQ;rw [hu1];exact (aac b).trans (aac f)
   rw [d,a];refine .inr ⟨n.pg,⟨[],0,0⟩,?_,by unfold fQ;simp,g,n.pg,⟨[],0,0⟩,.inr ⟨rfl,rfl,by rw [c];omega,by omega⟩,rfl⟩;show (some (n.tks+1),m5 (dZ (n.tks+1) m nm fs) _ (lG { n with last:=some m,tks:=n.tks+1 }))=_;rw [D_ (n:=lG { n with last:=some m,tks:=n.tks+1 }) (r:=n.pg) (h:=⟨[],0,0⟩) rfl];rfl
theorem map_id' {b:Type} {f:b->b}:∀ {l:List b},(∀ x∈l,f x=x)->l.map f=l
 |[],_=>rfl
 |a::l,h=>by rw [aaE,h a (aan ..),map_id' fun x m=>h x (aag _ m)]
theorem Gy {n:Ln} (lt:∀ c∈(r++[h]).flatMap (·.cs),c.tk≤n.tks) :
 q9 (n.tks+1) (jF (n.tks+1) l (wz (dZ (n.tks+1) o nm fs) sz r h n))={ wz (uO nm fs o l n) sz r h n with giv:=n.giv+1 }:=by
 have a:∀ c∈(r++[h]).flatMap (·.cs),j0 (n.tks+1) (e_ (n.tks+1) l c)=c:=fun c m=>by have:=lt c m;unfold j0 e_;rw [aac (show ¬ c.tk=n.tks+1 by omega),aac (show ¬ c.tk=n.tks+1 by omega)]
 have d:∀ p∈r,(({ ({ p with cs:=p.cs.map (e_ (n.tks+1) l) }:Pg) with cs:=(p.cs.map (e_ (n.tks+1) l)).map (j0 (n.tks+1)) }):Pg)=p:=fun p m=>by
  have:(p.cs.map (e_ (n.tks+1) l)).map (j0 (n.tks+1))=p.cs:=by rw [abv];exact map_id' fun c b=>a c (aaN.mpr ⟨p,aaI _ m,b⟩)
  rw [this]
 have e:(h.cs.map (e_ (n.tks+1) l)).map (j0 (n.tks+1))=h.cs:=by rw [abv];exact map_id' fun c b=>a c (aaN.mpr ⟨h,by simp,b⟩)
 have f:j0 (n.tks+1) (e_ (n.tks+1) l (dZ (n.tks+1) o nm fs))=uO nm fs o l n:=by have g:e_ (n.tks+1) l (dZ (n.tks+1) o nm fs)={ dZ (n.tks+1) o nm fs with vs:=l }:=aad rfl;rw [g];exact aad rfl
 have i:((wz (dZ (n.tks+1) o nm fs) sz r h n).pg.map fun p=>({ p with cs:=p.cs.map (e_ (n.tks+1) l) }:Pg)).map (fun p=>({ p with cs:=p.cs.map (j0 (n.tks+1)) }:Pg))=(wz (uO nm fs o l n) sz r h n).pg:=by unfold wz;dsimp only;rw [aaF,aaF,abv];have j:r.map ((fun p=>({ p with cs:=p.cs.map (j0 (n.tks+1)) }:Pg)) ∘ fun p=>({ p with cs:=p.cs.map (e_ (n.tks+1) l) }:Pg))=r:=map_id' d;rw [j];show r++[({ h with cs:=((h.cs++[_]).map _).map _,us:=h.us+sz }:Pg)]=_;rw [aaF,aaF,e];show r++[({ h with cs:=h.cs++[j0 (n.tks+1) (e_ (n.tks+1) l (dZ (n.tks+1) o nm fs))],us:=h.us+sz }:Pg)]=_;rw [f]
 unfold q9 jF;dsimp only;rw [i];rfl
theorem Dh (w:zR fs q s n) (e:fQ n=(r++[h]).flatMap (·.cs)) :
 fQ (wz (dZ (n.tks+1) q nm fs) sz r h n)=fQ n++[dZ (n.tks+1) q nm fs]/\((fQ (wz (dZ (n.tks+1) q nm fs) sz r h n)).map (·.tk)).Nodup/\wait (wz (dZ (n.tks+1) q nm fs) sz r h n)=[dZ (n.tks+1) q nm fs]:=by
 have f:fQ (wz (dZ (n.tks+1) q nm fs) sz r h n)=fQ n++[dZ (n.tks+1) q nm fs]:=by rw [e];unfold fQ wz;simp [aaR]
 have i:∀ (d:List Pg),(d.flatMap fun p=>oA p.cs)=oA (d.flatMap (·.cs)):=fun d=>by
  induction d with
  |nil=>rfl
  |cons p d o=>rw [aax,aax,o];unfold oA;rw [abq]
 refine ⟨f,?_,?_⟩
 ·rw [f,aaF];refine abg.mpr ⟨w.nd,by simp,fun a l b g z=>?_⟩;obtain ⟨c,m,rfl⟩:=aar.mp l;have g:b=n.tks+1:=by simpa [dZ] using g
  have:=w.lt c m;omega
 ·have j:oA (fQ n)=[]:=by have:=w.wt;unfold wait at this;rw [i] at this;exact this
  unfold wait;rw [i];show oA (fQ (wz (dZ (n.tks+1) q nm fs) sz r h n))=_;rw [f];unfold oA at j ⊢;rw [abq,j];rfl
theorem cT.cs_len (d:cT Z H k n):k.cs.length=(fQ n).length:=by
 have:∀ {a:List PA} {b:List Pg},Pd (gQ Z H) a b->(a.flatMap (·.cs)).length=(b.flatMap (·.cs)).length:=by
  intro a b h;induction h with
  |nil=>rfl
  |cons r _ c=>rw [aax,aax,aao,aao,c,r.cs.len]
 exact this d.pg
theorem gC.cs_len {s:SA} {d:Sd} {i:Nat} {t:TA} {p:Str×Tk} (b:gC Z C S K H s d) (c:s.ts[i]?=some t) (e:d.tr[i]?=some p):t.k.cs.length=(fQ p.2.ln).length:=by obtain ⟨f,a,tk⟩:=b.tr.at c;rw [e] at a;cases a;exact tk.ln.cs_len
theorem yO {d:Sd}:(d.put i p n).put i (p.1,{ p.2 with ln:=n }) a=d.put i p a:=by unfold Sd.put;dsimp only;rw [List.set_set]
theorem yx {d:Sd} (a:d.tr[i]?=some p):(d.put i p n).tr[i]?=some (p.1,{ p.2 with ln:=n }):=by unfold Sd.put;dsimp only;rw [ab0,aad rfl,aad (aaG.mp a).1]
theorem gC.here (c:gC Z C S K H s d) (m:b∈s.all):(∃ C g fs,H b=some (.ins C g fs))∨(∃ j,H b=some (.lst j))∨∃ a,H b=some (.dK a)/\(a.length≤d.kn.length∨a.length≤d.tr.length):=by
 rcases aaf.mp m with h|m
 ·obtain ⟨_,_,e,_⟩:=c.ob;rw [h];exact .inl ⟨_,_,_,e⟩
 rcases aaf.mp m with h|m
 ·rw [h];exact .inr (.inr ⟨_,c.ek,.inl (by unfold Ay;simp;omega)⟩)
 rcases aaf.mp m with h|m
 ·rw [h];exact .inr (.inr ⟨_,c.et,.inr (by unfold jG;simp;omega)⟩)
 rcases aaf.mp m with h|m
 ·rw [h];exact .inr (.inr ⟨_,c.ec,.inl (aaA _)⟩)
 obtain ⟨t,l,f⟩:=aaN.mp m;obtain ⟨i,n⟩:=aaB.mp l;obtain ⟨q,_,tk⟩:=c.tr.at n;rcases aaf.mp f with h|f
 ·obtain ⟨_,_,e,_⟩:=tk.ob;rw [h];exact .inl ⟨_,_,_,e⟩
 ·rcases aal.mp f with h|h
  ·exact .inl (tk.ln.own_ls h)
  ·exact .inr (.inl (tk.ln.has_ls h))
theorem gC.no_tup (a:gC Z C S K H s d) (e:H b=some (.tup c)):b∉s.all:=by intro m;rcases a.here m with ⟨_,_,_,h⟩|⟨_,h⟩|⟨_,h,_⟩ <;> (rw [e] at h;cases h)
theorem sY:∀ (a:List Pg),(a.map fun p=>({ p with cs:=p.cs.map (e_ tk b) }:Pg)).flatMap (·.cs)=(a.flatMap (·.cs)).map (e_ tk b)
 |[]=>rfl
 |p::a=>by rw [aaE,aax,aax,aaF,sY a]
theorem pD:(e_ tk a c).tk=c.tk/\(e_ tk a c).nm=c.nm/\(e_ tk a c).gv=c.gv:=by unfold e_;split <;> exact ⟨rfl,rfl,rfl⟩
theorem uV:∀ (b:List Pg),(b.map fun p=>({ p with cs:=p.cs.map (e_ tk a) }:Pg)).flatMap (fun p=>oA p.cs)=(b.flatMap fun p=>oA p.cs).map (e_ tk a)
 |[]=>rfl
 | p::b=>by
   rw [aaE,aax,aax,aaF,uV b];have:oA (p.cs.map (e_ tk a))=(oA p.cs).map (e_ tk a):=by unfold oA;rw [List.filter_map];congr 1;exact List.filter_congr fun c _=>by show (!(e_ tk a c).gv)=_;rw [pD.2.2]
   rw [this]
noncomputable def VN:Bool->V
 |true=>.bl true
 |false=>.non
def N8 (Z:LC) (C S:Z0) (K:Z2) (m n:Z0):Sp:=fun vs H Q E=>∃ (s:SA) (d:Sd) (h b:Z0) (nm kd:Str) (i:Nat) (t:TA) (p:Str×Tk) (f:List Int),vs=[.ref s.a,.ref h]/\eE K H h [.str nm,.str kd,.ref b]/\H b=some (.tup (f.map V.int))/\gC Z C S K H s d/\s.ts[i]?=some t/\d.tr[i]?=some p/\p.1=nm/\kd.length≤1000/\
 (((∀ q∈d.kn,q.1≠kd)/\∀ c e a,cj H e->jy e [("word",.str "nokind")] c a->E (.ref m) (some c) a)∨ ∃ (j:Nat) (q:Str×List jj),d.kn[j]?=some q/\q.1=kd/\ if d.still=true then ∀ c e a,cj H e->jy e [("word",.str "stopped")] c a->E (.ref n) (some c) a else k_ q.1 q.2/\zR q.2 p.2.ck f p.2.ln/\p.2.ts=jT/\d.halt=.none/\∀ b g l a,Od q.1 q.2 p.2.ck f p.2.ln b g->gC Z C S K a l (d.put i p g)->Fr s l H a->Q (VN b) a)
theorem J7:cA ["stand","handed","name","kind","values"] ["stand","handed"] (bK (top 98)):=by ext
theorem Tu {f fC fF fG cN cS:Z0} {fd N O R:Z3} (F:gj K "do_write" "do_write" (top 98) f fd)
 (DC:gK K mg "do_claim" (top 94) ["stand","handed"] fC N) (GC:cD P w K mg base (jC P w) 9 fC N ["stand","handed"] (Ir Z C S K cN cS))
 (DF:gK K mg "do_fill" (top 95) ["stand","handed"] fF O) (GF:cD P w K mg base dI 5 fF O ["stand","handed"] (Sg Z C S K))
 (DG:gK K mg "do_give" (top 96) ["stand","handed"] fG R) (GG:cD P w K mg base (jC P w) 6 fG R ["stand","handed"] (RL Z C S K)):cD P w K mg base (jC P w) 10 f fd ["stand","handed"] (N8 Z C S K cN cS):=by
 refine F.ok1 J7 (by ext) fun G A X s H vs Q E Y h=>?_;obtain ⟨l,d,h,b,nm,kd,i,t,p,a,rfl,sq,hb,st,ht,U,rfl,hl,q⟩:=h;have aa:dm 5 (A.deeper (PyProof.Rows.envOfC "do_write" (bK (top 98)) s.heap.objs.size f G)):=Y.mono (by decide);have ab:dm 6 (A.deeper (PyProof.Rows.envOfC "do_write" (bK (top 98)) s.heap.objs.size f G)):=Y.mono (by decide);refine ⟨_,(b8 (lH (pv 1) (h_ rfl (cJ (cF (i:=2) J7.nd rfl (.inl rfl)) (cJ (cF (i:=3) J7.nd rfl (.inl rfl)) (cJ (cF (i:=4) J7.nd rfl (.inl rfl)) fZ))))) (b8 (dW (dz wZ (p8 (E:=E) GC Y rfl DC.mg DC.F.kp DC.b .nil (jR fun _ _ _ h=>h) (aK (pv 0) (aK (eZ (aK (pv 2) (aK (pv 3) b_))) b_))) j9 (dw _)) (c7 (cI j9)) cV) (b8 (d8 (jt DF GF aa (aK (pv 0) (aK (eZ (aK (pv 2) (aK (pv 4) b_))) b_)))) (c7 (cI (p8 (E:=E) GG ab rfl DG.mg DG.F.kp DG.b .nil (jR fun _ _ _ h=>h) (aK (pv 0) (aK (eZ (aK (pv 2) b_)) b_)))))))),?_⟩;refine ⟨_,rfl,h,_,rfl,sq,rfl,_,_,rfl,_,_,rfl,_,_,rfl,rfl,?_⟩;refine ⟨_,rfl,_,rfl,_,rfl,(by ext),fun x hx=>?_⟩;have T:=cj.new (o:=.tup [.str p.1,.str kd]) hx;have ac:=st.same T;refine ⟨l,d,x,p.1,kd,i,t,p,rfl,eE.of a_,ac,ht,U,rfl,hl,?_⟩;rcases q with ⟨no,q⟩|⟨j,r,hj,rfl,q⟩
 ·exact .inl ⟨no,fun da H' th=>q da _ H' T th⟩
 ·refine .inr ⟨j,r,hj,rfl,?_⟩;cases hs:d.still with
  | true=>rw [hs,aad rfl] at q;rw [aad rfl];exact fun da H' th=>q da _ H' T th
  | false=>
    rw [hs,aac (by decide)] at q;rw [aac (by decide)];obtain ⟨ko,D,ag,ah,q⟩:=q;refine ⟨ko,D.co,fun g H1 m f1=>?_⟩;have F1:=(Fr.same (s:=l) T).trans f1;rcases tH (nm:=r.1) (zs:=a) D with ⟨ec,wr⟩|⟨pr,ph,ec,M,pl,wr⟩
    ·rw [ec] at m ⊢;exact ⟨rfl,_,rfl,jz rfl (q false _ _ _ wr m F1)⟩
    ·rw [ec] at m ⊢;refine ⟨rfl,_,rfl,iz rfl ?_⟩;generalize B:wz (dZ (p.2.ln.tks+1) p.2.ck r.1 r.2) (1+(r.2.length:Int)) pr ph p.2.ln=e at m;have m:gC Z C S K H1 { l with ts:=l.ts.set i ⟨t.a,g⟩ } (d.put i p e):=m;obtain ⟨c1,v,W⟩:=Dh (nm:=r.1) (sz:=1+(r.2.length:Int)) (r:=pr) (h:=ph) D M;rw [B] at c1 v W;have il:i<l.ts.length:=(aaG.mp ht).1;have n:(l.ts.set i ⟨t.a,g⟩)[i]?=some ⟨t.a,g⟩:=by rw [ab0,aad rfl,aad il]
     have ad:H1 b=some (.tup (a.map V.int)):=F1.kp b _ hb (st.no_tup hb);have J:e.pg.length≤900:=by rw [← B];unfold wz;simp;omega
     have ai:=D.cl;refine ⟨_,rfl,_,rfl,_,rfl,(by ext),fun y hy=>?_⟩;have sy:=cj.new (o:=.tup [.str p.1,.ref b]) hy;have L:g.cs.length≤900:=by have:=m.cs_len n (yx U);rw [show (⟨t.a,g⟩:TA).k=g from rfl,c1] at this;simp at this;omega
     refine ⟨{ l with ts:=l.ts.set i ⟨t.a,g⟩ },d.put i p e,y,b,p.1,i,⟨t.a,g⟩,(p.1,{ p.2 with ln:=e }),[],dZ (p.2.ln.tks+1) p.2.ck r.1 r.2,a,rfl,eE.of a_,sy _ _ ad,m.same sy,n,yx U,rfl,L,J,v,W,fun c I _=>?_,fun H2 s2 f2=>?_⟩
     ·rw [W] at I;cases aai.mp I;exact D.fz
     have F2:=(F1.trans (Fr.same sy)).trans f2;rw [yO] at s2;have c2:fQ (jF (dZ (p.2.ln.tks+1) p.2.ck r.1 r.2).tk a e)=(fQ e).map (e_ (p.2.ln.tks+1) a):=sY e.pg;have w2:wait (jF (dZ (p.2.ln.tks+1) p.2.ck r.1 r.2).tk a e)=[]++[e_ (p.2.ln.tks+1) a (dZ (p.2.ln.tks+1) p.2.ck r.1 r.2)]:=by have:wait (jF (dZ (p.2.ln.tks+1) p.2.ck r.1 r.2).tk a e)=(wait e).map (e_ (p.2.ln.tks+1) a):=uV e.pg;rw [this,W];rfl
     have ae:((fQ (jF (dZ (p.2.ln.tks+1) p.2.ck r.1 r.2).tk a e)).map (·.tk)).Nodup:=by rw [c2,abv];have:((fun c:Cl=>c.tk) ∘ e_ (p.2.ln.tks+1) a)=fun c:Cl=>c.tk:=funext fun c=>pD.1;rw [this];exact v
     have af:(jF (dZ (p.2.ln.tks+1) p.2.ck r.1 r.2).tk a e).pg.length≤900:=by unfold jF;simpa using J
     have g3:q9 (e_ (p.2.ln.tks+1) a (dZ (p.2.ln.tks+1) p.2.ck r.1 r.2)).tk (jF (dZ (p.2.ln.tks+1) p.2.ck r.1 r.2).tk a e)={ wz (uO r.1 r.2 p.2.ck a p.2.ln) (1+(r.2.length:Int)) pr ph p.2.ln with giv:=p.2.ln.giv+1 }:=by rw [pD.1,← B];exact Gy (by rw [← M];exact D.lt)
     refine ⟨_,rfl,_,rfl,(by ext),fun z hz=>?_⟩;have sz:=cj.new (o:=.tup [.str p.1]) hz;refine ⟨{ l with ts:=l.ts.set i ⟨t.a,g⟩ },d.put i p (jF (dZ (p.2.ln.tks+1) p.2.ck r.1 r.2).tk a e),z,p.1,i,j,⟨t.a,g⟩,(p.1,{ p.2 with ln:=jF (dZ (p.2.ln.tks+1) p.2.ck r.1 r.2).tk a e }),r,[],_,rfl,eE.of a_,s2.same sz,n,yx U,rfl,ag,ah,hj,hl,L,af,ae,w2,fun c I=>?_,fun H3 s3 f3=>?_⟩
     ·rw [w2] at I;cases aai.mp I;exact pD.2.1
     rw [yO,g3] at s3;exact q true _ _ _ wr s3 ((F2.trans (Fr.same sz)).trans f3)
def Oo (Z:LC) (C S:Z0) (K:Z2):Sp:=fun vs H Q _=>∃ (s:SA) (d:Sd) (h:Z0) (nm:Str) (i:Nat) (t:TA) (p:Str×Tk),vs=[.ref s.a,.ref h]/\eE K H h [.str nm]/\gC Z C S K H s d/\s.ts[i]?=some t/\d.tr[i]?=some p/\p.1=nm/\
 t.k.cs.length≤900/\p.2.ln.pg.length≤900/\(Cm.stand p.2.ln).length≤900/\
 ∀ x b a,gC Z C S K a b (d.put i p (gb p.2.ln).2)->Fr s b H a->Q x a
theorem Vd:cA ["stand","handed"] ["stand","handed"] (bK (top 99)):=by ext
theorem S_ (F:gj K "do_take" "do_take" (top 99) f I) (L:LZ K mg Z) (TZ:TZ K mg C) (SZ:SZ K mg S) (ne:uX Z C S) (cn:Oz Z C)
 (y:MD K S "track_of" "Stand.track_of" (sM 1) ["self","name"] D b) (J:MD K Z.l "take" "Lane.take" (lM 14) ["self"] G c) (GK:cD P w K mg base dI 4 G c ["self"] (Tr Z)):cD P w K mg base dI 5 f I ["stand","handed"] (Oo Z C S K):=by
 have M:cD P w K mg base dI 1 D b ["self","name"] (sX Z C S K):=qH y.F SZ;refine F.ok Vd (by ext) fun l A m s H vs Q E z h=>?_;obtain ⟨B,d,h,nm,i,t,p,rfl,N,g,j,r,rfl,O,R,T,q⟩:=h;have o:dm 1 (A.deeper (PyProof.Rows.envOfC "do_take" (bK (top 99)) s.heap.objs.size f l)):=z.mono (by decide);refine ⟨_,(c7 (cI (du (E:=E0) (cz (dg (E:=E0) (pv 0) SZ.c y.M M o y.b .nil cZ (aK (dY gZ (pv 1) cu (fun _ _=>rfl)) b_)) rfl) L.lc J.M GK z J.b .nil cZ))),?_⟩;obtain ⟨U,v,e,rv⟩:=g.ob;obtain ⟨p0,a,tk⟩:=g.tr.at j;rw [r] at a;cases a;obtain ⟨W,vT,X,rT⟩:=id tk.ob;obtain ⟨dl,Y⟩:=tk.ln.ob;exact ⟨_,rfl,B.a,U,_,rfl,e,rfl,_,rfl,h,_,_,_,rfl,rfl,N,rfl,B,d,p.1,i,t,p,rfl,g,j,r,rfl,t.a,C,W,_,_,rfl,X,TZ.c,TZ.t1,rfl,t.k.a,dl,_,rfl,Y,rfl,t.k,p.2.ln,rfl,tk.ln,O,R,T,fun x k' H1 n mv _=>q x _ _ (g.move L.ok ne cn j r mv n) (mv.frm j)⟩
theorem gC.setS (ne:uX Z C S) (c:gC Z C S K H s d) (m:o=.ins S j (wJ d'.pg d'.rm s.dk s.dt s.dc d'.still v)) (n:Rep K H v d'.halt) (i:d'.kn=d.kn) (g:d'.tr=d.tr) (q:qW d'.halt=true):gC Z C S K (upd H s.a o) s d':=by
 obtain ⟨l,r,e,_⟩:=c.ob;have sd:eH S H (upd H s.a o):=eH.put e (.inr ⟨_,_,rfl⟩);have dk:∀ {b f},H b=some (.dK f)->upd H s.a o b=some (.dK f):=fun h=>by rw [b7 (fun z=>by rw [z,e] at h;cases h)];exact h
 refine ⟨⟨j,v,by rw [m];exact a_,sd.rep n⟩,by rw [i];exact dk c.ek,by rw [i];exact c.kn.map (fun a p ⟨t,h⟩=>⟨t,h.kt (sd.kt ne.k)⟩),by rw [g];exact dk c.et,by rw [g];exact c.tr.map (fun _ _ h=>h.sd ne sd),dk c.ec,by rw [g];exact c.nm,by rw [i];exact c.nk,c.dj,q,by rw [g];exact c.nt,c.n1,c.n2,c.n3⟩
theorem Fr.upd (m:b∈s.all):Fr s s H (upd H b o):=by
 refine ⟨fun c u e n=>by rw [b7 (fun z=>n (by rw [z];exact m))];exact e,fun c m=>.inl m,fun c e=>?_,rfl⟩;by_cases z:c=b
 ·rw [z,a_] at e;cases e
 ·rw [b7 z] at e;exact e
def A_ (Z:LC) (C S:Z0) (K:Z2) (b:Bool):Sp:=fun vs H Q _=>∃ (s:SA) (d:Sd) (x:V),vs=[.ref s.a,x]/\gC Z C S K H s d/\∀ a,gC Z C S K a s { d with still:=b }->Fr s s H a->Q .non a
theorem V2:cA ["stand","handed"] ["stand","handed"] (bK (top 104)):=by ext
theorem RK (F:gj K "do_stop" "do_stop" (top 104) f c) (SZ:SZ K o S) (ne:uX Z C S):cD P w K o n dI 1 f c ["stand","handed"] (A_ Z C S K true):=by refine F.ok V2 (by ext) fun g A a s H vs Q E m h=>?_;obtain ⟨i,d,x,rfl,b,q⟩:=h;refine ⟨_,c7 (cP (pv 0) jf rfl),?_⟩;obtain ⟨j,v,e,l⟩:=b.ob;exact ⟨_,rfl,i.a,S,j,_,rfl,e,SZ.c,SZ.s6,(show 7<1000 by decide),q _ (b.setS (d':={ d with still:=true }) ne rfl l rfl rfl b.nh) (Fr.upd (aan ..))⟩
theorem RM:cA ["stand","handed"] ["stand","handed"] (bK (top 105)):=by ext
theorem Ms (F:gj K "do_go" "do_go" (top 105) f c) (SZ:SZ K o S) (ne:uX Z C S):cD P w K o n dI 1 f c ["stand","handed"] (A_ Z C S K false):=by refine F.ok RM (by ext) fun g A a s H vs Q E m h=>?_;obtain ⟨i,d,x,rfl,b,q⟩:=h;refine ⟨_,c7 (cP (pv 0) jf rfl),?_⟩;obtain ⟨j,v,e,l⟩:=b.ob;exact ⟨_,rfl,i.a,S,j,_,rfl,e,SZ.c,SZ.s6,(show 7<1000 by decide),q _ (b.setS (d':={ d with still:=false }) ne rfl l rfl rfl b.nh) (Fr.upd (aan ..))⟩
section
variable {P:Z4} {w:Z5} {K:Z2} {mg:Zc} {base:Z7} {Z:LC} {C S:Z0} {H H' H'':Hp}
def Fo:Sp:=fun vs H Q _=>∃ (nm:Str) (a:Z0) (b:List (Key×V)),vs=[.str nm,.ref a]/\Nm nm/\H a=some (.dK b)/\iR b (Sum.inr nm)=none/\Q .non H
theorem Tc:cA ["name","borne"] ["name","borne"] (bK (top 87)):=by ext
theorem Mu (F:gj K "need_new" "need_new" (top 87) f j) (T:Txt K mg) (TK:Aa mg) (z:gK K mg "is_name" (top 26) ["text"] y d) (l:gK K mg "need_name" (top 27) ["text"] i b):cD P w K mg base dI 3 f j ["name","borne"] Fo:=by
 have n:cD P w K mg base dI 2 i b ["text"] jY:=kZ l.F T TK z;refine F.ok Tc (by ext) fun m A c s H vs Q E e h=>?_;obtain ⟨nm,a,p,rfl,r,v,x,q⟩:=h;have o:=oN e;refine ⟨_,(b8 (d8 (jt l n e (aK (pv 0) b_))) (c7 (dW (xg (My o (pv 0) (pv 1))) (c7 dC) cV))),?_⟩;have g:iy H a (.str nm) none:=by rw [← x];exact iy.k (k:=Sum.inr nm) v
 refine ⟨_,rfl,nm,rfl,r,_,rfl,_,rfl,a,_,rfl,g,_,rfl,?_⟩;exact mY (fun h=>by cases h) (fun _=>q)
def G8:Sp:=fun vs H Q _=>∃ (a:Z0) (b:List (Key×V)) (m:Int),vs=[.ref a,.int m]/\H a=some (.dK b)/\(b.length:Int)<m/\Q .non H
theorem Qn:cA ["things","most"] ["things","most"] (bK (top 88)):=by ext
theorem Fd (F:gj K "need_fewer" "need_fewer" (top 88) f d) (T:Txt K mg):cD P w K mg base dI 1 f d ["things","most"] G8:=by refine F.ok Qn (by ext) fun e A b s H vs Q E i h=>?_;obtain ⟨a,c,m,rfl,g,j,q⟩:=h;refine ⟨_,(c7 (dW (dz vQ (d9 Bw (by rfl) T.len gF (aK (pv 0) b_)) (pv 1) (dw _)) (c7 dC) cV)),?_⟩;refine ⟨_,rfl,a,c,rfl,g,_,rfl,_,_,rfl,rfl,_,rfl,iz (by simp;omega) q⟩
theorem lJ {a:List (Key×V)} {k:Key} {v:V} (h:∀ p∈a,p.1≠k):putK a k v=a++[(k,v)]:=by unfold putK;rw [aac];intro z;obtain ⟨p,m,e⟩:=acp.mp z;exact h p m (acq e)
theorem Et {c d:Type} {f:c->V} {g:d->Str}:∀ {b:List c} {a:List d},(∀ p∈a,g p≠nm)->∀ q∈List.zipWith (fun t p=>((Sum.inr (g p):Key),f t)) b a,q.1≠Sum.inr nm
 |[],_,_,q,m=>by simp at m
 |_::_,[],_,q,m=>by simp at m
 | t::b,p::a,h,q,m=>by
   rw [abN] at m;rcases aaf.mp m with rfl|m
   ·intro z;injection z with z
    exact h p (aan ..) z
   ·exact Et (fun p m=>h p (aag _ m)) q m
structure M7 (mg:Zc):Prop where
 k:∃ t,mg "MOST_KINDS" = some (.int 8 t)
 t:∃ t,mg "MOST_TRACKS" = some (.int 6 t)
def Mm (Z:LC) (C S:Z0) (K:Z2):Sp:=fun vs H Q _=>∃ (s:SA) (d:Sd) (h c:Z0) (nm:Str) (e:List V) (fs:List jj),vs=[.ref s.a,.ref h]/\eE K H h [.str nm,.ref c]/\gC Z C S K H s d/\(∀ q∈d.kn,q.1≠nm)/\Nm nm/\H c=some (.tup e)/\Paired (jg H) e fs/\fs.length≤4/\(∀ f∈fs,oK f)/\(fs.map (·.1)).Nodup/\d.kn.length<8/\
 ∀ a b,gC Z C S K b { s with ks:=s.ks++[a] } { d with kn:=d.kn++[(nm,fs)] }->Fr s { s with ks:=s.ks++[a] } H b->Q .non b
theorem Nq:cA ["stand","handed","name","fields"] ["stand","handed"] (bK (top 91)):=by ext
theorem Rh {f fN fF fI:Z0} {fd B D G:Z3} (F:gj K "do_kind" "do_kind" (top 91) f fd) (T:Txt K mg) (TS:M7 mg) (L:LZ K mg Z) (SZ:SZ K mg S) (ne:uX Z C S)
 (DN:gK K mg "need_new" (top 87) ["name","borne"] fN B) (GN:cD P w K mg base dI 3 fN B ["name","borne"] Fo) (DF:gK K mg "need_fewer" (top 88) ["things","most"] fF D)
 (MkK:Mk K Z.k fI) (GI:cD P w K mg base dI 4 fI G ["self","name","fields"] (yH Z.k)) (bI:Binds K G ["self","name","fields"] []):cD P w K mg base dI 6 f fd ["stand","handed"] (Mm Z C S K):=by
 have GF:cD P w K mg base dI 1 fF D ["things","most"] G8:=Fd DF.F T;refine F.ok Nq (by ext) fun r A M s H vs Q E I h=>?_;obtain ⟨j,d,h,fa,nm,xs,fs,rfl,sq,n,Y,hn,aa,pf,fl,fo,nd,kl,q⟩:=h;have hu:=oN I;have O:dm 1 (A.deeper (PyProof.Rows.envOfC "do_kind" (bK (top 91)) s.heap.objs.size f r)):=I.mono (by decide);have R:dm 3 (A.deeper (PyProof.Rows.envOfC "do_kind" (bK (top 91)) s.heap.objs.size f r)):=I.mono (by decide);obtain ⟨tk,mk⟩:=TS.k;refine ⟨_,(b8 (lH (pv 1) (h_ rfl (cJ (cF (i:=2) Nq.nd rfl (.inl rfl)) (cJ (cF (i:=3) Nq.nd rfl (.inl rfl)) fZ)))) (b8 (d8 (jt DN GN R (aK (pv 2) (aK (cz (pv 0) rfl) b_)))) (b8 (d8 (jt DF GF O (aK (cz (pv 0) rfl) (aK (ie (v:=.int 8) rfl mk ⟨_,rfl⟩) b_)))) (c7 (iV hu (cz (pv 0) rfl) (pv 2) (jE (E:=E0) MkK GI I rfl L.kc.mg bI .nil cZ (aK (pv 2) (aK (pv 3) b_))) rfl))))),?_⟩;obtain ⟨dx,v,e,rv⟩:=n.ob;have U:∀ q∈Ay j.ks d.kn,q.1≠Sum.inr nm:=Et (f:=fun a:Addr=>V.ref a) (g:=fun p:Str×List jj=>p.1) Y;have nv:iR (Ay j.ks d.kn) (Sum.inr nm)=none:=n6 (f:=fun t:Addr=>V.ref t) (ts:=j.ks) Y;have W:(Ay j.ks d.kn).length≤d.kn.length:=by unfold Ay;simp;omega
 refine ⟨_,rfl,h,_,rfl,sq,rfl,_,_,rfl,_,_,rfl,rfl,?_⟩;refine ⟨_,rfl,_,rfl,j.a,S,dx,_,_,rfl,e,SZ.c,SZ.s3,rfl,nm,j.dk,_,rfl,hn,n.ek,nv,?_⟩;refine ⟨_,rfl,j.a,S,dx,_,_,rfl,e,SZ.c,SZ.s3,rfl,j.dk,_,8,rfl,n.ek,by omega,?_⟩;refine ⟨_,rfl,_,rfl,fun x l hx y ab=>?_⟩;have s0:cj H (upd (upd H l (.own x)) x (.ins Z.k l [])):=eO hx y (fun b u e _=>e);refine ⟨x,l,fa,nm,xs,fs,rfl,a_,hn,s0 _ _ aa,ig pf (cj.kt (Z:=Z) s0).tk,fl,fo,nd,fun J ka k1=>⟨rfl,?_⟩⟩;have X:cj H J:=eO hx y k1;have c:=n.same X;refine ⟨_,rfl,j.a,S,dx,_,_,rfl,X _ _ e,SZ.c,SZ.s3,rfl,_,rfl,j.dk,_,rfl,my.k (k:=Sum.inr nm) c.ek (abt W (aas kl (by decide))),?_⟩;rw [lJ U];have sd:eH S J (upd J j.dk (.dK (Ay j.ks d.kn++[(Sum.inr nm,.ref x)]))):=eH.put c.ek (.inl ⟨_,.inl rfl⟩);have md:j.dk∈j.all:=aag _ (aan ..);have fr:=(Fr.same (s:=j) X).trans (Fr.upd (o:=.dK (Ay j.ks d.kn++[(Sum.inr nm,.ref x)])) md);obtain ⟨d1,v1,e1,r1⟩:=c.ob;have na:j.a≠j.dk:=fun z=>by have:=c.ek;rw [← z,e1] at this;cases this
 refine q x _ ⟨⟨d1,v1,by rw [b7 na];exact e1,sd.rep r1⟩,?_,Pd.app (.cons ⟨fa,ka.kt (sd.kt ne.k)⟩ .nil) (c.kn.map (fun a p ⟨t,h⟩=>⟨t,h.kt (sd.kt ne.k)⟩)),by rw [b7 c.n1.symm];exact c.et,c.tr.map (fun _ _ h=>h.sd ne sd),by rw [b7 c.n2.symm];exact c.ec,c.nm,?_,c.dj,c.nh,c.nt,c.n1,c.n2,c.n3⟩ ⟨fr.kp,fr.sub,fr.gr,rfl⟩
 ·show upd J j.dk _ j.dk=some (.dK (Ay (j.ks++[x]) (d.kn++[(nm,fs)])));rw [a_];unfold Ay;rw [ac4 n.kn.len];rfl
 ·show ((d.kn++[(nm,fs)]).map (·.1)).Nodup;rw [aaF];refine abg.mpr ⟨n.nk,by simp,fun a ma b N z=>?_⟩;obtain ⟨q,m,rfl⟩:=aar.mp ma;have N:b=nm:=by simpa using N
  exact Y q m (z.trans N)
end
def rB (a b:Int) (c:Bool):Tk:=⟨gU a b c,0,jT⟩
def Li (Z:LC) (C S:Z0) (K:Z2):Sp:=fun vs H Q _=>∃ (s:SA) (d:Sd) (h:Z0) (nm:Str) (b:Bool),vs=[.ref s.a,.ref h]/\eE K H h [.str nm,.bl b]/\gC Z C S K H s d/\(∀ q∈d.tr,q.1≠nm)/\Nm nm/\d.tr.length<6/\2≤d.pg/\d.pg≤16/\5≤d.rm/\d.rm≤12/\
 ∀ t a,gC Z C S K a { s with ts:=s.ts++[t] } { d with tr:=d.tr++[(nm,rB d.pg d.rm b)] }->Fr s { s with ts:=s.ts++[t] } H a->Q .non a
theorem NK:cA ["stand","handed","name","over"] ["stand","handed"] (bK (top 92)):=by ext
theorem Rt (F:gj K "do_lane" "do_lane" (top 92) f fd) (T:Txt K mg) (TS:M7 mg) (L:LZ K mg Z) (TZ:TZ K mg C) (SZ:SZ K mg S) (ne:uX Z C S)
 (DN:gK K mg "need_new" (top 87) ["name","borne"] fN fdN) (GN:cD P w K mg base dI 3 fN fdN ["name","borne"] Fo) (DF:gK K mg "need_fewer" (top 88) ["things","most"] fF fdF)
 (MkL:Mk K Z.l fI) (GI:cD P w K mg base dI 3 fI fdI ["self","pages","room","over"] (Nb Z)) (kbL:jr K fdI ["self","pages","room","over"] ["pages","room","over"] gL VM)
 (MkT:Mk K C fJ) (FJ:gj K "__init__" "Track.__init__" (tM 0) fJ N) (bJ:Binds K N ["self","written"] []):cD P w K mg base dI 5 f fd ["stand","handed"] (Li Z C S K):=by
 have GF:cD P w K mg base dI 1 fF fdF ["things","most"] G8:=Fd DF.F T;have GJ:cD P w K mg base dI 1 fJ N ["self","written"] (Kw Z C K):=JQ FJ TZ;refine F.ok NK (by ext) fun I A aa s H vs Q E O h=>?_;obtain ⟨c,d,h,nm,X,rfl,sq,G,no,hn,kl,p1,p2,r1,r2,q⟩:=h;have W:=oN O;have ac:dm 1 (A.deeper (PyProof.Rows.envOfC "do_lane" (bK (top 92)) s.heap.objs.size f I)):=O.mono (by decide);have ad:dm 2 (A.deeper (PyProof.Rows.envOfC "do_lane" (bK (top 92)) s.heap.objs.size f I)):=O.mono (by decide);have ae:dm 3 (A.deeper (PyProof.Rows.envOfC "do_lane" (bK (top 92)) s.heap.objs.size f I)):=O.mono (by decide);obtain ⟨tk,mk⟩:=TS.t;refine ⟨_,(b8 (lH (pv 1) (h_ rfl (cJ (cF (i:=2) NK.nd rfl (.inl rfl)) (cJ (cF (i:=3) NK.nd rfl (.inl rfl)) fZ)))) (b8 (d8 (jt DN GN ae (aK (pv 2) (aK (cz (pv 0) rfl) b_)))) (b8 (d8 (jt DF GF ac (aK (cz (pv 0) rfl) (aK (ie (v:=.int 6) rfl mk ⟨_,rfl⟩) b_)))) (c7 (iV W (cz (pv 0) rfl) (pv 2) (jE (E:=E0) MkT GJ ad rfl TZ.mg bJ .nil cZ (aK (n_ (E:=E0) MkL GI O rfl L.lmg kbL cZ (i_ (cz (pv 0) rfl) (i_ (cz (pv 0) rfl) (i_ (pv 3) qF)))) b_)) rfl))))),?_⟩;obtain ⟨Y,v,e,rv⟩:=G.ob;have af:∀ q∈jG c.ts d.tr,q.1≠Sum.inr nm:=Et (f:=fun t:TA=>V.ref t.a) (g:=fun p:Str×Tk=>p.1) no;have nv:iR (jG c.ts d.tr) (Sum.inr nm)=none:=n6 (f:=fun t:TA=>V.ref t.a) (ts:=c.ts) no;have ag:(jG c.ts d.tr).length≤d.tr.length:=by unfold jG;simp;omega
 refine ⟨_,rfl,h,_,rfl,sq,rfl,_,_,rfl,_,_,rfl,rfl,?_⟩;refine ⟨_,rfl,_,rfl,c.a,S,Y,_,_,rfl,e,SZ.c,SZ.s4,rfl,nm,c.dt,_,rfl,hn,G.et,nv,?_⟩;refine ⟨_,rfl,c.a,S,Y,_,_,rfl,e,SZ.c,SZ.s4,rfl,c.dt,_,6,rfl,G.et,by omega,?_⟩;refine ⟨_,rfl,c.a,S,Y,_,_,rfl,e,SZ.c,SZ.s1,rfl,_,rfl,c.a,S,Y,_,_,rfl,e,SZ.c,SZ.s2,rfl,_,rfl,fun x J hx U ak=>?_⟩;refine ⟨x,J,d.pg,d.rm,X,rfl,a_,p1,p2,r1,r2,fun k H1 ka kc ln k1 kf kp=>⟨rfl,?_⟩⟩;have s1:cj H H1:=eO hx U k1;refine fun y dy hy ab al=>?_;refine ⟨y,dy,x,rfl,a_,fun vt M e2 r2 k2=>⟨rfl,?_⟩⟩;have s2:cj H1 M:=eO hy ab k2;have S2:=s1.trans s2;have n:=G.same S2;have ah:=ln.same s2;have s0:cj H (upd (upd H J (.own x)) x (.ins Z.l J [])):=eO hx U (fun b u e _=>e);have fresh:∀ b∈(⟨y,k⟩:TA).all,H b=none:=fun b m=>by
  rcases aaf.mp m with h|m
  ·rw [h];exact dh s1 hy
  ·rcases aal.mp m with m|m
   ·rcases aaf.mp m with h|m
    ·rw [h,ka];exact hx
    ·rcases aal.mp m with m|m
     ·obtain ⟨s,ms,h⟩:=aar.mp m;rw [← h];exact dh s0 (kp s ms)
     ·have m:b∈k.cs:=m;rw [kc] at m;cases m
   ·exact dh s0 (kf b m)
 refine ⟨_,rfl,c.a,S,Y,_,_,rfl,S2 _ _ e,SZ.c,SZ.s4,rfl,_,rfl,c.dt,_,rfl,my.k (k:=Sum.inr nm) n.et (abt ag (aas kl (by decide))),?_⟩;rw [lJ af];have sd:eH S M (upd M c.dt (.dK (jG c.ts d.tr++[(Sum.inr nm,.ref y)]))):=eH.put n.et (.inl ⟨_,.inl rfl⟩);have md:c.dt∈c.all:=aag _ (aag _ (aan ..));have fr:=(Fr.same (s:=c) S2).trans (Fr.upd (o:=.dK (jG c.ts d.tr++[(Sum.inr nm,.ref y)])) md);obtain ⟨d1,v1,e1,aj⟩:=n.ob;have na:c.a≠c.dt:=fun z=>by have:=n.et;rw [← z,e1] at this;cases this
 have ai:jK Z C K M ⟨y,k⟩ (rB d.pg d.rm X):=⟨⟨dy,vt,by show M y=some (.ins C dy (M9 k.a 0 vt));rw [ka];exact e2,r2⟩,ah⟩;have ap:∀ (j:Nat) (u:TA),c.ts[j]?=some u->Apart ⟨y,k⟩ u:=fun j u W b D mu=>by obtain ⟨q,_,tu⟩:=G.tr.at W;obtain ⟨o,eb⟩:=tu.here b mu;rw [fresh b D] at eb;cases eb
 refine q ⟨y,k⟩ _ ⟨⟨d1,v1,by rw [b7 na];exact e1,sd.rep aj⟩,by rw [b7 n.n1];exact n.ek,n.kn.map (fun a p ⟨t,h⟩=>⟨t,h.kt (sd.kt ne.k)⟩),?_,Pd.app (R:=fun t (p:Str×Tk)=>jK Z C K (upd M c.dt (.dK (jG c.ts d.tr++[(Sum.inr nm,.ref y)]))) t p.2) (ys:=d.tr) (vs:=[(nm,rB d.pg d.rm X)]) (.cons (ai.sd ne sd) .nil) (n.tr.map (fun _ _ h=>h.sd ne sd)),by rw [b7 n.n3.symm];exact n.ec,?_,n.nk,?_,n.nh,?_,n.n1,n.n2,n.n3⟩ ⟨fr.kp,fun b D=>?_,fr.gr,rfl⟩
 ·show upd M c.dt _ c.dt=some (.dK (jG (c.ts++[⟨y,k⟩]) (d.tr++[(nm,rB d.pg d.rm X)])));rw [a_];unfold jG;rw [ac4 G.tr.len];rfl
 ·show ((d.tr++[(nm,rB d.pg d.rm X)]).map (·.1)).Nodup;rw [aaF];refine abg.mpr ⟨G.nm,by simp,fun a ma b D z=>?_⟩;obtain ⟨q,m,rfl⟩:=aar.mp ma;have D:b=nm:=by simpa using D
  exact no q m (z.trans D)
 ·intro j l u v nj W hv;have B:(c.ts++[⟨y,k⟩])[j]?=some u:=W;have r:(c.ts++[⟨y,k⟩])[l]?=some v:=hv;rw [List.getElem?_append] at B r;split at B
  ·split at r
   ·exact G.dj j l u v nj B r
   ·obtain rfl:⟨y,k⟩=v:=by simpa using (aai.mp (aaq r)).symm
    exact (ap j u B).symm
  ·obtain rfl:⟨y,k⟩=u:=by simpa using (aai.mp (aaq B)).symm
   split at r
   ·exact ap l v r
   ·have a1:j-c.ts.length<1:=(aaG.mp B).1;have a2:l-c.ts.length<1:=(aaG.mp r).1;omega
 ·intro q mq;rcases aal.mp mq with m|m
  ·exact G.nt q m
  ·cases aai.mp m;rfl
 ·have D:b∈[c.a,c.dk,c.dt,c.dc]++(c.ts++[(⟨y,k⟩:TA)]).flatMap TA.all:=D;rw [aaR,← ac1] at D;rcases aal.mp D with m|m
  ·exact .inl m
  ·exact .inr (fresh b (by simpa using m))
end Cm
namespace Cm
open PySem L2 PySem.W PyProof.V PySem.Spec PyProof.Rows
section
variable {P:Z4} {w:Z5} {K:Z2} {mg:Zc} {base:Z7} {Z:LC} {C S:Z0} {H H' H'':Hp}
structure Wm (K:Z2) (mg:Zc) (a:Z0) (D:Zk):Prop where
 mg:mg "DEEDS" = some (.ref a)
 tb:Jg K a D
structure lW (P:Z4) (w:Z5) (K:Z2) (mg:Zc) (base:Z7) (f:Z0) (sp:Sp) (b:Bool):Prop where
 ok:∃ fd,Binds K fd ["stand","handed"] []/\if b=true then ∃ k,k≤10/\cD P w K mg base (jC P w) k f fd ["stand","handed"] sp else ∃ k,k≤10/\cD P w K mg base dI k f fd ["stand","handed"] sp
 kp:keepIn K (.ref f)=true
theorem lV {x:V} {a:List V}:pL (x::a) 0=some x:=by unfold pL Jm;simp
theorem Ez:mL (x::a) (some 1) none=a:=by unfold mL;simp [HT.iM]
def PQ (P:Z4) (w:Z5) (K:Z2) (i:Zc) (a:Z7) (D:Zk):Sp:=fun vs H Q E=>∃ (x:V) (h f:Z0) (nm:Str) (d:List V) (e:Sp) (b:Bool),vs=[x,.ref h]/\eE K H h (.str nm::d)/\KTD.datumAt nm D=some f/\lW P w K i a f e b/\∀ g c,cj H c->eE K c g d->e [x,.ref g] c Q (if b=true then E else E0)
theorem Qx:cA ["stand","deed","act"] ["stand","deed"] (bK (top 108)):=by ext
theorem QV (F:gj K "perform" "perform" (top 108) f y) (B:Wm K mg l D):cD P w K mg base (jC P w) 11 f y ["stand","deed"] (PQ P w K mg base D):=by
 refine F.ok1 Qx (by ext) fun d A a s H vs Q E m h=>?_;obtain ⟨x,h,e,nm,J,n,b,rfl,o,I,de,q⟩:=h;refine ⟨_,(b8 (cQ (i:=2) Qx.nd rfl (.inl rfl) (dY Gv (ie (v:=.ref l) rfl B.mg rfl) (dY gZ (pv 1) cu (fun _ _=>rfl)) (fun _ _=>rfl))) (c7 (cI (De (j:=2) rfl (.inl rfl) (aK (pv 0) (aK (ni Ji (pv 1) (p7 cu) o_) b_)))))),?_⟩;refine ⟨_,rfl,h,_,_,_,rfl,rfl,o,lV,l,nm,D,e,rfl,rfl,B.tb,I,?_⟩;have call:Callee (iY (jC P w) P w K mg base ["stand","deed","act"] "perform" (bK (top 108)) f d A a s H E) e n (if b=true then E else E0):=by
  obtain ⟨c,r,ok⟩:=de.ok;refine ⟨?_,de.kp⟩;cases b with
  | true=>obtain ⟨k,g,ok⟩:=ok;exact ⟨_,k,c,_,ok,m.mono g,r,jR fun _ _ _ h=>h⟩
  | false=>obtain ⟨k,g,ok⟩:=ok;exact ⟨_,k,c,_,ok,m.mono g,r,cZ⟩
 refine ⟨e,n,_,rfl,call,_,rfl,_,rfl,_,rfl,h,_,rfl,o,fun z=>?_,fun p G=>?_⟩
 ·rw [Ez] at z;exact absurd (aaM List.length z) (by simp)
 ·rw [Ez];exact q p _ (cj.new G) (eE.of a_)
end
end Cm
namespace Cm
open PySem L2 PySem.W PySem.Spec PyProof.Rows
abbrev rM (j:Nat):Stmt:=inClass (top 110) j
structure RZ (K:Z2) (mg:Zc) (R:Z0):Prop where
 c:sO K R
 mg:mg "Recorder" = some (.ref R)
 r1:dJ K R "stand"
 r2:dJ K R "past"
 r3:dJ K R "undone"
noncomputable def U7 (s p u:Z0):List (Str×V):=[("stand",.ref s),("past",.ref p),("undone",.ref u)]
structure oV where
 a:Addr
 pa:Addr
 un:Addr
 s:SA
structure RcAt (Z:LC) (C S R:Z0) (K:Z2) (H:Hp) (r:oV) (d:Sd) (n:Nat):Prop where
 ob:∃ dx,H r.a=some (.ins R dx (U7 r.s.a r.pa r.un))
 ps:∃ xs:List V,H r.pa=some (.lst xs)/\xs.length≤n
 un:H r.un=some (.lst [])
 st:gC Z C S K H r.s d
 ne:r.pa≠r.un
structure Eb (d:Sd):Prop where
 sz:Tv d
 cl:∀ p∈d.tr,(fQ p.2.ln).length≤900
theorem cT.kt (h:cT Z H k n) (q:Kt Z H o) (d:∀ b∈k.own,o b=H b) (f:∀ b∈k.ls,o b=H b):cT Z o k n:=by obtain ⟨j,e⟩:=h.ob;refine ⟨⟨j,by rw [d _ LA.a_own];exact e⟩,by rw [f _ (aan ..)];exact h.ls,Pd.mapM (fun s a m r=>?_) h.pg,h.n1,h.n2,h.n3⟩;obtain ⟨i,l⟩:=aaB.mp a;exact r.kt q (d _ (LA.p_own l)) (f _ (aag _ (aar.mpr ⟨s,a,rfl⟩))) fun c g=>d _ (LA.c_own (aaN.mpr ⟨s,a,g⟩))
def WW (Z:LC) (s:SA) (b:Z0) (u:HO):Prop:=b∈s.all∨(∃ a,u=.tup a)∨(∃ o a,u=.frz o (.tup a))∨∃ c fs,u=.ins Z.k c fs
theorem gC.keep {K:Z2} {Z:LC} {C S:Z0} {H w:Hp} {s:SA} {d:Sd} (c:gC Z C S K H s d) (kp:∀ b u,H b=some u->WW Z s b u->w b=some u):gC Z C S K w s d:=by
 have kt:Kt Z H w:=⟨fun b j e=>kp b _ e (.inr (.inl ⟨_,rfl⟩)),fun b n fs e=>kp b _ e (.inr (.inr (.inr ⟨_,_,rfl⟩)))⟩;have x:∀ a j,eE K H a j->eE K w a j:=fun a j z=>by
  rcases z with (z|⟨o,z⟩)|z
  ·exact .inl (.inl (kt.tk _ _ z))
  ·exact .inl (.inr ⟨o,kp _ _ z (.inr (.inr (.inl ⟨_,_,rfl⟩)))⟩)
  ·exact .inr z
 have l:∀ b∈[s.a,s.dk,s.dt,s.dc],b∈s.all:=fun b m=>(show b∈[s.a,s.dk,s.dt,s.dc]++s.ts.flatMap TA.all from aaI _ m);obtain ⟨n,v,e,A⟩:=c.ob;refine ⟨⟨n,v,kp _ _ e (.inl (l _ (by simp))),lg x A c.nh⟩,kp _ _ c.ek (.inl (l _ (by simp))),c.kn.map (fun a p ⟨t,h⟩=>⟨t,h.kt kt⟩),kp _ _ c.et (.inl (l _ (by simp))),?_,kp _ _ c.ec (.inl (l _ (by simp))),c.nm,c.nk,c.dj,c.nh,c.nt,c.n1,c.n2,c.n3⟩;refine Pd.mapM (R:=fun u (q:Str×Tk)=>jK Z C K H u q.2/\qW q.2.ts=true) (fun t y p r=>?_) (xZ c.tr c.nt);obtain ⟨i,B⟩:=aaB.mp y;obtain ⟨D,E,F,G⟩:=r.1.ob;have f:∀ b∈t.all,b∈s.all:=fun b m=>SA.t_all B m;refine ⟨⟨D,E,kp _ _ F (.inl (f _ (aan ..))),lg x G r.2⟩,r.1.ln.kt kt (fun b g=>?_) (fun b g=>?_)⟩
 ·obtain ⟨_,_,_,e⟩:=r.1.ln.own_ls g;rw [e];exact kp _ _ e (.inl (f _ (aag _ (aaI _ g))))
 ·obtain ⟨_,e⟩:=r.1.ln.has_ls g;rw [e];exact kp _ _ e (.inl (f _ (aag _ (aav _ g))))
theorem Jd {K:Z2} {H c:Hp} {a:Z0} {b:List V} (s:cj H c) (z:eE K H a b):eE K c a b:=by
 rcases z with (z|⟨o,z⟩)|z
 ·exact .inl (.inl (s _ _ z))
 ·exact .inl (.inr ⟨o,s _ _ z⟩)
 ·exact .inr z
theorem Dt.all (n:Dt H s):∀ b∈s.all,H b=none:=fun b m=>by
 rcases aaf.mp m with h|m
 ·rw [h];exact n.a
 rcases aaf.mp m with h|m
 ·rw [h];exact n.k
 rcases aaf.mp m with h|m
 ·rw [h];exact n.t
 rcases aaf.mp m with h|m
 ·rw [h];exact n.c
 obtain ⟨t,d,e⟩:=aaN.mp m;exact (n.ts t d).all b e
def W9 (r:oV) (H a:Hp):Prop:=∀ b u,H b=some u->b≠r.a->b≠r.pa->b≠r.un->a b=some u
def Gq (Z:LC) (C S R:Z0) (K:Z2) (r:oV) (n:Nat) (H:Hp) (f:SA) (g:Hp) (Q:VK):VK:=fun v c=>∃ d e,gC Z C S K c d e/\Fr f d g c/\∀ a b,a.a=r.a->a.pa=r.pa->a.un=r.un->RcAt Z C S R K b a e (n+1)->W9 r H b->Q v b
def wg (Z:LC) (C S R:Z0) (P:Z4) (w:Z5) (K:Z2) (o:Zc) (c:Z7) (D:Zk):Sp:=fun vs H Q E=>∃ (r:oV) (d:Sd) (n:Nat) (h f:Z0) (nm:Str) (g:List V) (i:Sp) (b:Bool),vs=[.ref r.a,.ref h]/\RcAt Z C S R K H r d n/\n≤900/\Eb d/\eE K H h (.str nm::g)/\KTD.datumAt nm D=some f/\lW P w K o c f i b/\
 ∀ e j a (l:VK),cj H a->gC Z C S K a e d->eE K a j g->(∀ v m,Gq Z C S R K r n H e a Q v m->l v m)->i [.ref e.a,.ref j] a l (if b=true then E else E0)
theorem Oh:cA ["self","deed","later","told"] ["self","deed"] (bK (rM 17)):=by ext
theorem Rk {P:Z4} {w:Z5} {K:Z2} {mg:Zc} {base:Z7} {Z:LC} {C S R:Z0} {f fT fP aD:Z0} {fd J L:Z3} {D:Zk} (F:gj K "do" "Recorder.do" (rM 17) f fd) (RZ:RZ K mg R) (SZ:SZ K mg S) (nR:Z.k≠R) (MT:MD K S "twin" "Stand.twin" (sM 5) ["self"] fT J) (GT:cD P w K mg base dI 12 fT J ["self"] (QC Z C S K))
 (M:gK K mg "perform" (top 108) ["stand","deed"] fP L) (DT:Wm K mg aD D):cD P w K mg base (jC P w) 13 f fd ["self","deed"] (wg Z C S R P w K mg base D):=by
 have GP:cD P w K mg base (jC P w) 11 fP L ["stand","deed"] (PQ P w K mg base D):=QV M.F DT;refine F.ok1 Oh (by ext) fun N A O s H vs Q E Y h=>?_;obtain ⟨r,d,n,h,f',nm,as,sp,b,rfl,c,nl,so,sq,ef,de,q⟩:=h;have G:dm 11 (A.deeper (PyProof.Rows.envOfC "Recorder.do" (bK (rM 17)) s.heap.objs.size f N)):=Y.mono (by decide);refine ⟨_,(b8 (cQ (i:=2) Oh.nd rfl (.inl rfl) (du (E:=E0) (cz (pv 0) rfl) SZ.c MT.M GT Y MT.b .nil cZ)) (b8 (cQ (i:=3) Oh.nd rfl (.inl rfl) (p8 (E:=E) GP G rfl M.mg M.F.kp M.b .nil (jR fun _ _ _ h=>h) (aK (pv 2) (aK (pv 1) b_)))) (b8 (d8 (jM aa0 aa7 abe gY (cz (pv 0) rfl) (aK (eZ (aK (pv 1) (aK (cz (pv 0) rfl) b_))) b_))) (b8 (d8 (tW aa0 PySem.F.slot_list_clear PySem.F.type_list_clear Cd (cz (pv 0) rfl))) (b8 (cP (pv 0) (pv 2) rfl) (c7 (cI (pv 3)))))))),?_⟩;obtain ⟨x,e⟩:=c.ob;obtain ⟨ds,vs,es,_⟩:=c.st.ob;have kl:∀ t∈r.s.ts,t.k.cs.length≤900:=fun t m=>by obtain ⟨i,ht⟩:=aaB.mp m;obtain ⟨p,hp,_⟩:=c.st.tr.at ht;rw [c.st.cs_len ht hp];exact so.cl p (aaq hp)
 refine ⟨_,rfl,r.a,R,x,_,_,rfl,e,RZ.c,RZ.r1,rfl,r.s.a,ds,_,rfl,es,rfl,r.s,d,rfl,c.st,so.sz,kl,fun s1 H1 new _ _ j T=>?_⟩;refine ⟨_,rfl,_,rfl,_,h,f',nm,as,sp,b,rfl,Jd j sq,ef,de,fun h' H2 l U=>?_⟩;refine q s1 h' H2 _ (j.trans l) (T.same l) U fun v H3 hv=>?_;obtain ⟨W,d3,X,fr,k⟩:=hv;have S2:=j.trans l;have fresh:=new.all;have up:∀ b u,H b=some u->H3 b=some u:=fun b u a=>fr.kp b u (S2 _ _ a) fun m=>by rw [fresh b m] at a;cases a
 obtain ⟨xs,y,xl⟩:=c.ps;have o:r.a≠r.pa:=fun z=>by rw [z,y] at e;cases e
 have I:r.a≠r.un:=fun z=>by have:=c.un;rw [← z,e] at this;cases this
 have off:∀ b u,H b=some u->b∉W.all:=fun b u a m=>by
  rcases fr.sub b m with h|h
  ·rw [fresh b h] at a;cases a
  ·rw [S2 _ _ a] at h;cases h
 refine ⟨_,rfl,r.a,R,x,_,_,rfl,up _ _ e,RZ.c,RZ.r2,rfl,.inl ⟨rfl,_,dR.of (up _ _ y)⟩,_,rfl,_,rfl,r.a,R,x,_,_,rfl,up _ _ e,RZ.c,RZ.r1,rfl,(by ext),fun tp B=>?_⟩;have g:∀ b u,H b=some u->b≠tp:=fun b u a=>cg (up _ _ a) B;refine ⟨r.pa,xs,_,rfl,rfl,(by rw [b7 (g _ _ y)];exact up _ _ y),abt (aaj xl nl) (by decide),?_⟩;refine ⟨_,rfl,r.a,R,x,U7 r.s.a r.pa r.un,.ref r.un,rfl,(by rw [b7 o,b7 (g _ _ e)];exact up _ _ e),RZ.c,RZ.r3,rfl,.inl ⟨rfl,[],dR.of (by rw [b7 c.ne.symm,b7 (g _ _ c.un)];exact up _ _ c.un)⟩,r.un,[],rfl,rfl,(by rw [b7 c.ne.symm,b7 (g _ _ c.un)];exact up _ _ c.un),?_⟩;refine ⟨_,rfl,_,rfl,r.a,R,x,U7 r.s.a r.pa r.un,rfl,(by rw [b7 I,b7 o,b7 (g _ _ e)];exact up _ _ e),RZ.c,RZ.r1,(show 3<1000 by decide),?_⟩;refine ⟨_,rfl,k ⟨r.a,r.pa,r.un,W⟩ _ rfl rfl rfl ⟨⟨x,?_⟩,⟨xs++[.ref tp],?_,by simp;omega⟩,?_,X.keep fun b u a h=>?_,c.ne⟩ fun b u a n1 n2 n3=>?_⟩
 ·show upd _ r.a _ r.a=some (.ins R x (U7 W.a r.pa r.un));rw [a_,fr.a];rfl
 ·show upd _ r.a _ r.pa=_;rw [b7 o.symm,b7 c.ne,a_]
 ·show upd _ r.a _ r.un=_;rw [b7 I.symm,a_]
 ·have nt:b≠tp:=cg a B;have na:b≠r.a:=fun z=>by
   subst z;rcases h with h|⟨_,h⟩|⟨_,_,h⟩|⟨_,_,h⟩
   ·exact off _ _ e h
   all_goals (rw [up _ _ e,h] at a;cases a)
   exact nR rfl
  have np:b≠r.pa:=fun z=>by
   subst z;rcases h with h|⟨_,h⟩|⟨_,_,h⟩|⟨_,_,h⟩
   ·exact off _ _ y h
   all_goals (rw [up _ _ y,h] at a;cases a)
  have nu:b≠r.un:=fun z=>by
   subst z;rcases h with h|⟨_,h⟩|⟨_,_,h⟩|⟨_,_,h⟩
   ·exact off _ _ c.un h
   all_goals (rw [up _ _ c.un,h] at a;cases a)
  rw [b7 na,b7 nu,b7 np,b7 nt];exact a
 ·rw [b7 n1,b7 n3,b7 n2,b7 (g _ _ a)];exact up _ _ a
section
variable {P:Z4} {w:Z5} {K:Z2} {mg:Zc} {base:Z7} {Z:LC} {C S R:Z0} {H H' H'':Hp}
def JW (p r:Int):Sd:=⟨p,r,[],[],false,.none⟩
def T7 (Z:LC) (C S R:Z0) (K:Z2):Sp:=fun vs H Q _=>∃ (o d:Z0) (p r:Int),vs=[.ref o,.int p,.int r]/\H o=some (.ins R d [])/\2≤p/\p≤16/\5≤r/\r≤12/\∀ (c:oV) a,c.a=o->H c.pa=none->H c.un=none->RcAt Z C S R K a c (JW p r) 0->(∀ b u,H b=some u->b≠o->a b=some u)->Q .non a
theorem VH:cA ["self","pages","room"] ["self","pages","room"] (bK (rM 0)):=by ext
theorem R4 {f fI:Z0} {fd G:Z3} (F:gj K "__init__" "Recorder.__init__" (rM 0) f fd) (RZ:RZ K mg R) (SZ:SZ K mg S) (nR:S≠R) (U:Mk K S fI) (bI:Binds K G ["self","pages","room"] []) (GI:cD P w K mg base dI 2 fI G ["self","pages","room"] (Lf S)):cD P w K mg base dI 4 f fd ["self","pages","room"] (T7 Z C S R K):=by
 refine F.ok VH (by ext) fun aa A M s H vs Q E hr h=>?_;obtain ⟨o,y,p,r,rfl,ho,p1,p2,r1,r2,q⟩:=h;refine ⟨_,(b8 (cP (pv 0) (jE (E:=E0) U GI hr rfl SZ.mg bI .nil cZ (aK (pv 1) (aK (pv 2) b_))) rfl) (b8 (cP (pv 0) (gD b_) rfl) (c7 (cP (pv 0) (gD b_) rfl)))),?_⟩;refine ⟨_,rfl,_,rfl,fun x g N B ab=>?_⟩;refine ⟨x,g,p,r,rfl,a_,p1,p2,r1,r2,fun dk dt dc I O W X Y ec n1 n2 n3 k1=>⟨rfl,?_⟩⟩;have J:cj H I:=eO N B k1;refine ⟨_,rfl,o,R,y,_,rfl,J _ _ ho,RZ.c,RZ.r1,(show 0<1000 by decide),?_⟩;refine ⟨(by ext),fun d i=>?_⟩;have c:o≠d:=cg a_ i;refine ⟨_,rfl,o,R,y,[("stand",.ref x)],rfl,(by rw [b7 c];exact a_),RZ.c,RZ.r2,(show 1<1000 by decide),?_⟩;refine ⟨(by ext),fun un a=>?_⟩;have l:o≠un:=cg a_ a;refine ⟨_,rfl,o,R,y,[("stand",.ref x),("past",.ref d)],rfl,(by rw [b7 l];exact a_),RZ.c,RZ.r3,(show 2<1000 by decide),?_⟩;have n:d≠un:=cg (show upd (upd _ d _) o _ d=some _ by rw [b7 c.symm];exact a_) a;rw [b7 c.symm] at i;rw [b7 l.symm,b7 n.symm,b7 l.symm] at a;have up:∀ b u,I b=some u->b≠o->upd (upd (upd (upd (upd I o (.ins R y (d_ "stand" (.ref x) []))) d (.lst [])) o (.ins R y (d_ "past" (.ref d) [("stand",.ref x)]))) un (.lst [])) o (.ins R y (d_ "undone" (.ref un) [("stand",.ref x),("past",.ref d)])) b=some u:=fun b u e D=>by rw [b7 D,b7 (cg e a),b7 D,b7 (cg e i),b7 D];exact e
 have L:∀ {b u},I b=some u->H b=none->b≠o:=fun e h z=>by rw [z,ho] at h;cases h
 have T:H x=none:=N;have bk:∀ {b},upd (upd H g (.own x)) x (.ins S g []) b=none->H b=none:=fun e=>dh (eO N B (fun b u e _=>e)) e;refine q ⟨o,d,un,⟨x,dk,dt,dc,[],[]⟩⟩ _ rfl (dh J i) (dh J a) ⟨⟨y,a_⟩,⟨[],?_,aae _⟩,?_,⟨⟨g,.non,up _ _ W (L W T),.non⟩,up _ _ X (L X (bk O.k)),.nil,up _ _ Y (L Y (bk O.t)),.nil,up _ _ ec (L ec (bk O.c)),abd,abd,(fun j k u v _ h=>by cases h),rfl,(fun p m=>by cases m),n1,n2,n3⟩,n⟩ fun b u e D=>up _ _ (J _ _ e) D
 ·show upd _ o _ d=_;rw [b7 c.symm,b7 n,b7 c.symm];exact a_
 ·show upd _ o _ un=_;rw [b7 l.symm];exact a_
theorem RcAt.same {r:oV} {d:Sd} {n:Nat} (h:RcAt Z C S R K H r d n) (s:cj H H'):RcAt Z C S R K H' r d n:=by obtain ⟨a,e⟩:=h.ob;obtain ⟨b,c,l⟩:=h.ps;exact ⟨⟨a,s _ _ e⟩,⟨b,s _ _ c,l⟩,s _ _ h.un,h.st.same s,h.ne⟩
def HQ (Z:LC) (C S R:Z0) (K:Z2) (r:oV) (n:Nat) (H:Hp) (d:Sd) (b:Hp):Prop:=∃ a:oV,a.a=r.a/\a.pa=r.pa/\a.un=r.un/\RcAt Z C S R K b a d (n+1)/\W9 r H b
theorem Gq.of {r:oV} {n:Nat} {f c:SA} {d:Sd} {g e:Hp} {Q:VK} {v:V} {tp:Z0} {o:HO} (q:H tp=none) (s:gC Z C S K e c d) (fr:Fr f c g e) (k:∀ a,HQ Z C S R K r n H d a->Q v a):Gq Z C S R K r n (upd H tp o) f g Q v e:=
 ⟨c,d,s,fr,fun h a i j l m kk=>k a ⟨h,i,j,l,m,fun b u p=>kk b u (cj.new q _ _ p)⟩⟩
end
section
variable {P:Z4} {w:Z5} {K:Z2} {mg:Zc} {base:Z7} {Z:LC} {C S R:Z0} {H H' H'':Hp} {D:Zk}
structure JL (Z:LC) (C S R:Z0) (K:Z2) (H:Hp) (r:oV) (d:Sd) (n:Nat):Prop where
 at_:RcAt Z C S R K H r d n
 nl:n≤900
 ok:Eb d
def yN (Z:LC) (C S R:Z0) (K:Z2):Sp:=fun vs H Q _=>∃ (r:oV) (d:Sd) (n:Nat) (nm:Str) (a:Bool),vs=[.ref r.a,.str nm,.bl a]/\JL Z C S R K H r d n/\(∀ q∈d.tr,q.1≠nm)/\Nm nm/\d.tr.length<6/\∀ b,HQ Z C S R K r n H { d with tr:=d.tr++[(nm,rB d.pg d.rm a)] } b->Q .non b
theorem HR:cA ["self","name","over"] ["self","name","over"] (bK (rM 2)):=by ext
theorem Ex {f fD m:Z0} {p c:Z3} (F:gj K "lane" "Recorder.lane" (rM 2) f p) (RZ:RZ K mg R) (MD:MD K R "do" "Recorder.do" (rM 17) ["self","deed"] fD c) (N:cD P w K mg base (jC P w) 13 fD c ["self","deed"] (wg Z C S R P w K mg base D)) (O:KTD.datumAt ("lane" : Str) D=some m) (de:lW P w K mg base m (Li Z C S K) false):cD P w K mg base (jC P w) 14 f p ["self","name","over"] (yN Z C S R K):=by refine F.ok1 HR (by ext) fun q A g s H vs Q E v h=>?_;obtain ⟨r,d,n,nm,o,rfl,a,I,J,L,k⟩:=h;refine ⟨_,c7 (cI (dg (E:=E) (pv 0) RZ.c MD.M N v MD.b .nil (jR fun _ _ _ h=>h) (aK (eZ (aK cH (aK (pv 1) (aK (pv 2) b_)))) b_))),?_⟩;obtain ⟨M,e⟩:=a.at_.ob;refine ⟨_,rfl,r.a,M,_,rfl,e,rfl,_,rfl,_,rfl,(by ext),fun tp b=>?_⟩;refine ⟨r,d,n,tp,m,_,[.str nm,.bl o],_,_,rfl,a.at_.same (cj.new b),a.nl,a.ok,eE.of a_,O,de,fun x y T U z B i G=>?_⟩;exact ⟨x,d,y,nm,o,rfl,i,B,I,J,L,a.ok.sz.p1,a.ok.sz.p2,a.ok.sz.r1,a.ok.sz.r2,fun t W j l=>G _ _ (Gq.of b j l k)⟩
def zf (Z:LC) (C S R:Z0) (K:Z2):Sp:=fun vs H Q _=>∃ (r:oV) (d:Sd) (n:Nat) (nm:Str) (a:Z0) (b:List V) (fs:List jj),vs=[.ref r.a,.str nm,.ref a]/\JL Z C S R K H r d n/\(∀ q∈d.kn,q.1≠nm)/\Nm nm/\H a=some (.tup b)/\Paired (jg H) b fs/\fs.length≤4/\(∀ f∈fs,oK f)/\(fs.map (·.1)).Nodup/\d.kn.length<8/\∀ c,HQ Z C S R K r n H { d with kn:=d.kn++[(nm,fs)] } c->Q .non c
theorem J4:cA ["self","name","fields"] ["self","name","fields"] (bK (rM 1)):=by ext
theorem E_ {f fD y:Z0} {z g:Z3} {dV:Z6} (F:jH K "kind" "Recorder.kind" (rM 1) dV f z) (RZ:RZ K mg R) (MD:MD K R "do" "Recorder.do" (rM 17) ["self","deed"] fD g) (GD:cD P w K mg base (jC P w) 13 fD g ["self","deed"] (wg Z C S R P w K mg base D)) (eA:KTD.datumAt ("kind" : Str) D=some y) (de:lW P w K mg base y (Mm Z C S K) false):cD P w K mg base (jC P w) 14 f z ["self","name","fields"] (zf Z C S R K):=by refine F.ok1 J4 (by ext) fun B A j s H vs Q E G h=>?_;obtain ⟨r,d,n,nm,v,N,fs,rfl,i,O,T,x,U,W,X,Y,kl,k⟩:=h;refine ⟨_,c7 (cI (dg (E:=E) (pv 0) RZ.c MD.M GD G MD.b .nil (jR fun _ _ _ h=>h) (aK (eZ (aK cH (aK (pv 1) (aK (pv 2) b_)))) b_))),?_⟩;obtain ⟨dx,e⟩:=i.at_.ob;refine ⟨_,rfl,r.a,dx,_,rfl,e,rfl,_,rfl,_,rfl,(by ext),fun tp b=>?_⟩;refine ⟨r,d,n,tp,y,_,[.str nm,.ref v],_,_,rfl,i.at_.same (cj.new b),i.nl,i.ok,eE.of a_,eA,de,fun I J H2 Q' l L m M=>?_⟩;have c:=(cj.new (o:=.tup [.str "kind",.str nm,.ref v]) b).trans l;exact ⟨I,d,J,v,nm,N,fs,rfl,m,L,O,T,c _ _ x,ig U (cj.kt (Z:=Z) c).tk,W,X,Y,kl,fun a H3 p q=>M _ _ (Gq.of b p q k)⟩
def zp (Z:LC) (C S R:Z0) (K:Z2):Sp:=fun vs H Q _=>∃ (r:oV) (d:Sd) (n:Nat),vs=[.ref r.a]/\JL Z C S R K H r d n/\∀ a,HQ Z C S R K r n H { d with still:=true } a->Q .non a
theorem Gr:cA ["self"] ["self"] (bK (rM 14)):=by ext
theorem Dj {f fD l:Z0} {m b:Z3} (F:gj K "stop" "Recorder.stop" (rM 14) f m) (RZ:RZ K mg R) (MD:MD K R "do" "Recorder.do" (rM 17) ["self","deed"] fD b) (G:cD P w K mg base (jC P w) 13 fD b ["self","deed"] (wg Z C S R P w K mg base D)) (I:KTD.datumAt ("stop" : Str) D=some l) (de:lW P w K mg base l (A_ Z C S K true) false):cD P w K mg base (jC P w) 14 f m ["self"] (zp Z C S R K):=by refine F.ok1 Gr (by ext) fun o A g s H vs Q E p h=>?_;obtain ⟨r,d,n,rfl,c,k⟩:=h;refine ⟨_,c7 (cI (dg (E:=E) (pv 0) RZ.c MD.M G p MD.b .nil (jR fun _ _ _ h=>h) (aK (eZ (aK cH b_)) b_))),?_⟩;obtain ⟨B,e⟩:=c.at_.ob;refine ⟨_,rfl,r.a,B,_,rfl,e,rfl,(by ext),fun tp a=>?_⟩;refine ⟨r,d,n,tp,l,_,[],_,_,rfl,c.at_.same (cj.new a),c.nl,c.ok,eE.of a_,I,de,fun q J L M v x y z=>?_⟩;exact ⟨q,d,_,rfl,x,fun N i j=>z _ _ (Gq.of a i j k)⟩
def Jx (Z:LC) (C S R:Z0) (K:Z2):Sp:=fun vs H Q _=>∃ (r:oV) (d:Sd) (n:Nat),vs=[.ref r.a]/\JL Z C S R K H r d n/\∀ a,HQ Z C S R K r n H { d with still:=false } a->Q .non a
theorem Pb:cA ["self"] ["self"] (bK (rM 15)):=by ext
theorem Lg {f fD l:Z0} {m b:Z3} (F:gj K "go" "Recorder.go" (rM 15) f m) (RZ:RZ K mg R) (MD:MD K R "do" "Recorder.do" (rM 17) ["self","deed"] fD b) (G:cD P w K mg base (jC P w) 13 fD b ["self","deed"] (wg Z C S R P w K mg base D)) (I:KTD.datumAt ("go" : Str) D=some l) (de:lW P w K mg base l (A_ Z C S K false) false):cD P w K mg base (jC P w) 14 f m ["self"] (Jx Z C S R K):=by refine F.ok1 Pb (by ext) fun o A g s H vs Q E p h=>?_;obtain ⟨r,d,n,rfl,c,k⟩:=h;refine ⟨_,c7 (cI (dg (E:=E) (pv 0) RZ.c MD.M G p MD.b .nil (jR fun _ _ _ h=>h) (aK (eZ (aK cH b_)) b_))),?_⟩;obtain ⟨B,e⟩:=c.at_.ob;refine ⟨_,rfl,r.a,B,_,rfl,e,rfl,(by ext),fun tp a=>?_⟩;refine ⟨r,d,n,tp,l,_,[],_,_,rfl,c.at_.same (cj.new a),c.nl,c.ok,eE.of a_,I,de,fun q J L M v x y z=>?_⟩;exact ⟨q,d,_,rfl,x,fun N i j=>z _ _ (Gq.of a i j k)⟩
def yM (Z:LC) (C S R:Z0) (K:Z2):Sp:=fun vs H Q _=>∃ (r:oV) (d:Sd) (n:Nat) (nm:Str) (i:Nat) (p:Str×Tk),vs=[.ref r.a,.str nm]/\JL Z C S R K H r d n/\d.tr[i]?=some p/\p.1=nm/\p.2.ln.pg.length≤900/\(Cm.stand p.2.ln).length≤900/\∀ x a,HQ Z C S R K r n H (d.put i p (gb p.2.ln).2) a->Q x a
theorem Ho:cA ["self","lane"] ["self","lane"] (bK (rM 9)):=by ext
theorem Dk {f fD v:Z0} {z c:Z3} (F:gj K "take" "Recorder.take" (rM 9) f z) (RZ:RZ K mg R) (MD:MD K R "do" "Recorder.do" (rM 17) ["self","deed"] fD c) (U:cD P w K mg base (jC P w) 13 fD c ["self","deed"] (wg Z C S R P w K mg base D)) (W:KTD.datumAt ("take" : Str) D=some v) (de:lW P w K mg base v (Oo Z C S K) false):cD P w K mg base (jC P w) 14 f z ["self","lane"] (yM Z C S R K):=by refine F.ok1 Ho (by ext) fun B A j s H vs Q E G h=>?_;obtain ⟨r,d,n,nm,i,p,rfl,b,g,rfl,N,O,k⟩:=h;refine ⟨_,c7 (cI (dg (E:=E) (pv 0) RZ.c MD.M U G MD.b .nil (jR fun _ _ _ h=>h) (aK (eZ (aK cH (aK (pv 1) b_))) b_))),?_⟩;obtain ⟨T,e⟩:=b.at_.ob;refine ⟨_,rfl,r.a,T,_,rfl,e,rfl,_,rfl,(by ext),fun tp a=>?_⟩;refine ⟨r,d,n,tp,v,_,[.str p.1],_,_,rfl,b.at_.same (cj.new a),b.nl,b.ok,eE.of a_,W,de,fun I J X Y L l m M=>?_⟩;obtain ⟨t,y,_⟩:=l.tr.at' g;exact ⟨I,d,J,p.1,i,t,p,rfl,m,l,y,g,rfl,by rw [l.cs_len y g];exact b.ok.cl p (aaq g),N,O,fun x s3 H3 o q=>M _ _ (Gq.of a o q (k x))⟩
def mK (Z:LC) (C S R:Z0) (K:Z2) (e f:Z0):Sp:=fun vs H Q E=>∃ (r:oV) (d:Sd) (n:Nat) (nm kd:Str) (i:Nat) (p:Str×Tk),vs=[.ref r.a,.str nm,.str kd]/\JL Z C S R K H r d n/\d.tr[i]?=some p/\p.1=nm/\kd.length≤1000/\(((∀ q∈d.kn,q.1≠kd)/\∀ b c a,cj H c->jy c [("word",.str "nokind")] b a->E (.ref e) (some b) a)∨ ∃ (j:Nat) (q:Str×List jj),d.kn[j]?=some q/\q.1=kd/\ if d.still=true then ∀ b c a,cj H c->jy c [("word",.str "stopped")] b a->E (.ref f) (some b) a else k_ q.1 q.2/\NT p.2.ln p.2.ck/\∀ a,HQ Z C S R K r n H (d.put i p (j6 q.1 q.2 p.2.ck p.2.ln).2) a->Q (Te (j6 q.1 q.2 p.2.ck p.2.ln).1) a)
theorem G4:cA ["self","lane","kind"] ["self","lane","kind"] (bK (rM 4)):=by ext
theorem Ak {f fD J U W:Z0} {X g:Z3} (F:gj K "claim" "Recorder.claim" (rM 4) f X) (RZ:RZ K mg R) (MD:MD K R "do" "Recorder.do" (rM 17) ["self","deed"] fD g) (GD:cD P w K mg base (jC P w) 13 fD g ["self","deed"] (wg Z C S R P w K mg base D)) (eA:KTD.datumAt ("claim" : Str) D=some J) (de:lW P w K mg base J (Ir Z C S K U W) true):cD P w K mg base (jC P w) 14 f X ["self","lane","kind"] (mK Z C S R K U W):=by
 refine F.ok1 G4 (by ext) fun Y A m s H vs Q E hr h=>?_;obtain ⟨r,d,n,nm,kd,i,p,rfl,l,I,rfl,O,k⟩:=h;refine ⟨_,c7 (cI (dg (E:=E) (pv 0) RZ.c MD.M GD hr MD.b .nil (jR fun _ _ _ h=>h) (aK (eZ (aK cH (aK (pv 1) (aK (pv 2) b_)))) b_))),?_⟩;obtain ⟨dx,e⟩:=l.at_.ob;refine ⟨_,rfl,r.a,dx,_,rfl,e,rfl,_,rfl,_,rfl,(by ext),fun tp a=>?_⟩;refine ⟨r,d,n,tp,J,_,[.str p.1,.str kd],_,_,rfl,l.at_.same (cj.new a),l.nl,l.ok,eE.of a_,eA,de,fun L M N Q' q v b hq=>?_⟩;have c:=(cj.new (o:=.tup [.str "claim",.str p.1,.str kd]) a).trans q;obtain ⟨t,T,_⟩:=v.tr.at' I;rcases k with ⟨no,k⟩|⟨j,kq,hj,rfl,k⟩
 ·exact ⟨L,d,M,p.1,_,i,t,p,rfl,b,v,T,I,rfl,O,.inl ⟨no,fun x y z=>k x N y c z⟩⟩
 ·refine ⟨L,d,M,p.1,_,i,t,p,rfl,b,v,T,I,rfl,O,.inr ⟨j,kq,hj,rfl,?_⟩⟩;cases hs:d.still with
  | true=>rw [hs,aad rfl] at k;rw [aad rfl];exact fun x y z=>k x N y c z
  | false=>rw [hs,aac (by decide)] at k;rw [aac (by decide)];exact ⟨k.1,k.2.1,fun k' H3 B G=>hq _ _ (Gq.of a B G k.2.2)⟩
def mO (Z:LC) (C S R:Z0) (K:Z2) (h l:Z0):Sp:=fun vs H Q E=>∃ (r:oV) (d:Sd) (n:Nat) (nm kd:Str) (b:Z0) (i:Nat) (p:Str×Tk) (f:List Int),vs=[.ref r.a,.str nm,.str kd,.ref b]/\JL Z C S R K H r d n/\H b=some (.tup (f.map V.int))/\d.tr[i]?=some p/\p.1=nm/\kd.length≤1000/\(((∀ q∈d.kn,q.1≠kd)/\∀ c e a,cj H e->jy e [("word",.str "nokind")] c a->E (.ref h) (some c) a)∨ ∃ (j:Nat) (q:Str×List jj),d.kn[j]?=some q/\q.1=kd/\ if d.still=true then ∀ c e a,cj H e->jy e [("word",.str "stopped")] c a->E (.ref l) (some c) a else k_ q.1 q.2/\zR q.2 p.2.ck f p.2.ln/\p.2.ts=jT/\d.halt=.none/\∀ b g,Od q.1 q.2 p.2.ck f p.2.ln b g->∀ a,HQ Z C S R K r n H (d.put i p g) a->Q (VN b) a)
theorem BZ:cA ["self","lane","kind","values"] ["self","lane","kind","values"] (bK (rM 8)):=by ext
theorem zW {f fD N cN cS:Z0} {fd l:Z3} (F:gj K "write" "Recorder.write" (rM 8) f fd) (RZ:RZ K mg R) (MD:MD K R "do" "Recorder.do" (rM 17) ["self","deed"] fD l) (GD:cD P w K mg base (jC P w) 13 fD l ["self","deed"] (wg Z C S R P w K mg base D)) (eA:KTD.datumAt ("write" : Str) D=some N) (de:lW P w K mg base N (N8 Z C S K cN cS) true):cD P w K mg base (jC P w) 14 f fd ["self","lane","kind","values"] (mO Z C S R K cN cS):=by
 refine F.ok1 BZ (by ext) fun aa A q s H vs Q E hr h=>?_;obtain ⟨r,d,n,nm,kd,b,i,p,U,rfl,m,W,M,rfl,X,k⟩:=h;refine ⟨_,c7 (cI (dg (E:=E) (pv 0) RZ.c MD.M GD hr MD.b .nil (jR fun _ _ _ h=>h) (aK (eZ (aK cH (aK (pv 1) (aK (pv 2) (aK (pv 3) b_))))) b_))),?_⟩;obtain ⟨dx,e⟩:=m.at_.ob;refine ⟨_,rfl,r.a,dx,_,rfl,e,rfl,_,rfl,_,rfl,_,rfl,(by ext),fun tp c=>?_⟩;refine ⟨r,d,n,tp,N,_,[.str p.1,.str kd,.ref b],_,_,rfl,m.at_.same (cj.new c),m.nl,m.ok,eE.of a_,eA,de,fun O T H2 Q' v x g hq=>?_⟩;have a:=(cj.new (o:=.tup [.str "write",.str p.1,.str kd,.ref b]) c).trans v;obtain ⟨t,Y,_⟩:=x.tr.at' M;rcases k with ⟨no,k⟩|⟨j,kq,hj,rfl,k⟩
 ·exact ⟨O,d,T,b,p.1,_,i,t,p,U,rfl,g,a _ _ W,x,Y,M,rfl,X,.inl ⟨no,fun y z B G I=>k y z B (a.trans G) I⟩⟩
 ·refine ⟨O,d,T,b,p.1,_,i,t,p,U,rfl,g,a _ _ W,x,Y,M,rfl,X,.inr ⟨j,kq,hj,rfl,?_⟩⟩;cases hs:d.still with
  | true=>rw [hs,aad rfl] at k;rw [aad rfl];exact fun y z B G I=>k y z B (a.trans G) I
  | false=>rw [hs,aac (by decide)] at k;rw [aac (by decide)];exact ⟨k.1,k.2.1,k.2.2.1,k.2.2.2.1,fun b' n' s3 H3 wr J L=>hq _ _ (Gq.of c J L (k.2.2.2.2 b' n' wr))⟩
end
def Qi (Z:LC) (C S R:Z0) (K:Z2):Sp:=fun vs H Q _=>∃ (r:oV) (d:Sd) (n:Nat) (nm:Str) (i:Nat) (p:Str×Tk),vs=[.ref r.a,.str nm]/\RcAt Z C S R K H r d n/\d.tr[i]?=some p/\p.1=nm/\∀ t a,cj H a->a t=some (.tup [.int p.2.ln.giv,.int p.2.ln.thr,.int p.2.ln.los,.int p.2.ln.mis])->Q (.ref t) a
theorem WQ:cA ["self","lane"] ["self","lane"] (bK (rM 29)):=by ext
theorem Q0 {P:Z4} {w:Z5} {K:Z2} {Y:Zc} {X:Z7} {Z:LC} {C S R:Z0} {f x y:Z0} {z a b:Z3} (F:gj K "counts" "Recorder.counts" (rM 29) f z) (L:LZ K Y Z) (RZ:RZ K Y R) (SZ:SZ K Y S) (TZ:TZ K Y C) (j:MD K S "track_of" "Stand.track_of" (sM 1) ["self","name"] x a) (l:MD K Z.l "counts" "Lane.counts" (lM 19) ["self"] y b):cD P w K Y X dI 2 f z ["self","lane"] (Qi Z C S R K):=by have D:cD P w K Y X dI 1 x a ["self","name"] (sX Z C S K):=qH j.F SZ;have G:cD P w K Y X dI 1 y b ["self"] (Py Z):=R5 l.F L;refine F.ok WQ (by ext) fun B A g s H vs Q E m h=>?_;obtain ⟨r,d,n,nm,i,p,rfl,c,o,rfl,q⟩:=h;refine ⟨_,c7 (cI (du (E:=E0) (cz (dg (E:=E0) (cz (pv 0) rfl) SZ.c j.M D m j.b .nil cZ (aK (pv 1) b_)) rfl) L.lc l.M G m l.b .nil cZ)),?_⟩;obtain ⟨I,e⟩:=c.ob;obtain ⟨J,v,M,_⟩:=c.st.ob;obtain ⟨t,N,tk⟩:=c.st.tr.at' o;obtain ⟨O,W,T,_⟩:=tk.ob;obtain ⟨dl,U⟩:=tk.ln.ob;exact ⟨_,rfl,r.a,R,I,_,_,rfl,e,RZ.c,RZ.r1,rfl,r.s.a,J,_,rfl,M,rfl,_,rfl,r.s,d,p.1,i,t,p,rfl,c.st,N,o,rfl,t.a,C,O,_,_,rfl,T,TZ.c,TZ.t1,rfl,t.k.a,dl,_,rfl,U,rfl,t.k,p.2.ln,rfl,tk.ln,q⟩
def R6 (d:Sd):Prop:=∀ p∈d.tr,p.2.ln.pg.length≤900/\(fQ p.2.ln).length≤900/\(Cm.stand p.2.ln).length≤900
def Dw (H:Hp) (a:Z0) (p:Str×Tk):Prop:=∃ b,H a=some (.lst b)/\Pd (n8 H) b (gf p.2.ln)
def Kh (Z:LC) (C S:Z0) (K:Z2):Sp:=fun vs H Q _=>∃ (s:SA) (d:Sd),vs=[.ref s.a]/\gC Z C S K H s d/\d.tr.length≤900/\R6 d/\∀ (l:Z0) (ls:Zh) (a:Hp),cj H a->a l=some (.lst (ls.map V.ref))->Pd (Dw a) ls d.tr->Q (.ref l) a
theorem Q4:cA ["self"] ["self"] (bK (sM 4)):=by ext
theorem Dw.sd (h:Dw H a p) (s:eH S H g):Dw g a p:=by obtain ⟨c,e,d⟩:=h;exact ⟨c,s _ _ e uM,d.map fun _ _ r=>r.tk fun b f e=>s _ _ e yq⟩
theorem Mp {P:Z4} {w:Z5} {K:Z2} {mg:Zc} {R:Z7} {Z:LC} {C S:Z0} {f fL:Z0} {fd T:Z3} (F:gj K "looks" "Stand.looks" (sM 4) f fd) (L:LZ K mg Z) (SZ:SZ K mg S) (TZ:TZ K mg C) (ne:uX Z C S) (ML:MD K Z.l "look" "Lane.look" (lM 13) ["self"] fL T) (GL:cD P w K mg R dI 3 fL T ["self"] (M6 Z)):cD P w K mg R dI 4 f fd ["self"] (Kh Z C S K):=by
 refine F.ok Q4 (by ext) fun ac A X s H vs Q E hr h=>?_;obtain ⟨a,d,rfl,y,tl,lo,q⟩:=h;refine ⟨_,c7 (cI (xj (iH (g:=dM 0) (own:=["track"]) (js:=[]) (N':=["track"]) (dq.of (osc:=bK (sM 4)) (N:=["self"]) rfl rfl (by ext)) rfl (rN (u5 acY PySem.F.type_dict_values tE (cz (pv 0) (by rfl)))) (fun _ _ _ _ _=>(cF (i:=0) (show List.Nodup (["track"]:Zd) by ext) rfl (.inl rfl) (.inr rfl))) (fun _ _ _ _ _=>eX) (fun _ _ _ _ _=>du (E:=E0) (uz (K:=K) rfl (pv 0) rfl) L.lc ML.M GL hr ML.b .nil cZ)))),?_⟩;obtain ⟨dx,v,e,_⟩:=y.ob;refine ⟨a.dt,_,y.et,fun o=>?_⟩;have na:a.a≠a.dt:=fun z=>by have:=y.et;rw [← z,e] at this;cases this
 refine ⟨_,rfl,a.a,S,dx,_,_,rfl,(by rw [b7 na];exact e),SZ.c,SZ.s4,rfl,⟨a.dt,o,_,rfl,a_⟩,a.dt,o,_,rfl,rfl,a_,fun vw j=>?_⟩;have nv:a.dt≠vw:=cg a_ j;have I:H vw=none:=by rw [b7 nv.symm] at j;exact j
 refine ⟨vw,a.dt,o,_,rfl,a_,(by rw [b7 nv];exact a_),?_⟩;have J:eH S H (upd (upd H a.dt (.frz o (.dK (jG a.ts d.tr)))) vw (lZ vw a.dt)):=(eH.put y.et (.inl ⟨_,.inl rfl⟩)).trans (cj.sd (cj.new j));have c:upd (upd H a.dt (.frz o (.dK (jG a.ts d.tr)))) vw (lZ vw a.dt) a.dt=some (.frz o (.dK (jG a.ts d.tr))):=by rw [b7 nv];exact a_
 have M:∀ b u,H b=some u->b≠a.dt->upd (upd H a.dt (.frz o (.dK (jG a.ts d.tr)))) vw (lZ vw a.dt) b=some u:=fun b u D nb=>by rw [b7 (cg D I),b7 nb];exact D
 generalize upd (upd H a.dt (.frz o (.dK (jG a.ts d.tr)))) vw (lZ vw a.dt)=H0 at J c M ⊢;have kl:(jG a.ts d.tr).length=d.tr.length:=uC y.tr.len;refine vh (fun i U m Y=>(∃ v,m=[v])/\cj H0 Y/\∃ ls:List Addr,U=ls.map V.ref/\Pd (Dw Y) ls (d.tr.take i)) (by rw [kl];exact aaj tl (by decide)) ⟨⟨none,rfl⟩,cj.refl _,[],rfl,.nil⟩ (fun i U m Y _ z=>z.2.1 _ _ c) ?_ ?_
 ·rintro i x U m H1 hx hy ⟨⟨v,rfl⟩,B,ls,rfl,W⟩ N hN;obtain ⟨t,p,ht,hp,ex⟩:=Gf hx;obtain ⟨p0,O,tk⟩:=y.tr.at ht;rw [hp] at O;cases O;have n:=(tk.sd ne J).same B;obtain ⟨dT,vT,eT,_⟩:=n.ob;obtain ⟨dl,el⟩:=n.ln.ob;obtain ⟨l1,l2,l3⟩:=lo p (aaq hp);rw [ex];dsimp only [dM,List.set];refine ⟨_,rfl,t.a,C,dT,_,_,rfl,eT,TZ.c,TZ.t1,rfl,t.k.a,dl,_,rfl,el,rfl,t.k,p.2.ln,rfl,n.ln,by rw [n.ln.cs_len];exact l2,l1,l3,fun l xs H2 s2 _ G aa=>hN _ _ _ (by simpa using hy) ⟨⟨_,rfl⟩,B.trans s2,ls++[l],by simp,?_⟩⟩;rw [iI hp];exact Pd.app (.cons ⟨xs,G,aa⟩ .nil) (W.map fun _ _ r=>r.sd (cj.sd (S:=S) s2))
 ·rintro U m H1 hy ⟨_,B,ls,rfl,W⟩;rw [kl,aaT] at W;refine ⟨by rw [hy,kl];exact aaj tl (by decide),fun l G=>?_⟩;have nl:a.dt≠l:=cg (B _ _ c) G;refine ⟨by rw [b7 nl];exact B _ _ c,?_⟩;have ab:eH S H1 (upd (upd H1 l (.lst (ls.map V.ref))) a.dt (.dK (jG a.ts d.tr))):=(cj.sd (cj.new G)).trans (eH.put (by rw [b7 nl];exact B _ _ c) (.inl ⟨_,.inr ⟨_,rfl⟩⟩));refine q l ls _ (fun b u D=>?_) (by rw [b7 nl.symm];exact a_) (W.map fun _ _ r=>r.sd ab);by_cases z:b=a.dt
  ·subst z;rw [y.et] at D;cases D;exact a_
  ·have e1:=B _ _ (M b u D z);rw [b7 z,b7 (cg e1 G)];exact e1
noncomputable def lX:Tg->Bool
 |.lost _=>false
 |.ev _ _=>true
noncomputable def Ko (d:Sd):List Tg:=d.tr.flatMap fun p=>gf p.2.ln
theorem HY (h:n8 H x t):∃ b k a,x=.ref b/\H b=some (.tup (.str k::a))/\decide (k=("event" : Str))=lX t:=by
 cases t with
 |lost n=>obtain ⟨b,e,h⟩:=h;exact ⟨b,_,_,e,h,show decide (("lost" : Str) = "event")=false by ext⟩
 |ev d c=>obtain ⟨b,t,e,h,_⟩:=h;exact ⟨b,_,_,e,h,show decide (("event" : Str) = "event")=true by ext⟩
def RB (Z:LC) (C S R:Z0) (K:Z2):Sp:=fun vs H Q _=>∃ (r:oV) (d:Sd) (n:Nat),vs=[.ref r.a]/\RcAt Z C S R K H r d n/\d.tr.length≤900/\R6 d/\(Ko d).length≤900/\∀ a,cj H a->Q (.int (((Ko d).filter lX).length:Nat)) a
theorem UT:cA ["self"] ["self"] (bK (rM 37)):=by ext
theorem Q8 {P:Z4} {w:Z5} {K:Z2} {mg:Zc} {base:Z7} {Z:LC} {C S R:Z0} {f fL:Z0} {fd U:Z3} (F:gj K "__len__" "Recorder.__len__" (rM 37) f fd) (T:Txt K mg) (RZ:RZ K mg R) (SZ:SZ K mg S) (ML:MD K S "looks" "Stand.looks" (sM 4) ["self"] fL U) (GL:cD P w K mg base dI 4 fL U ["self"] (Kh Z C S K)):cD P w K mg base dI 5 f fd ["self"] (RB Z C S R K):=by
 refine F.ok UT (by ext) fun af A aa s H vs Q E hr h=>?_;obtain ⟨r,d,n,rfl,rc,tl,lo,gl,q⟩:=h;refine ⟨_,c7 (cI (d9 dD (by rfl) T.len gF (aK (vp (g:=dM 0) (g2:=dM 1) (tt:=nM) (te:=kJ 1) (wi2:=zP K (kJ 0)) (own:=["told","thing"]) (js:=[]) (N':=["told","thing"]) (dq.of (osc:=bK (rM 37)) (N:=["self"]) rfl rfl (by ext)) rfl (gG (du (E:=E0) (cz (pv 0) rfl) SZ.c ML.M GL hr ML.b .nil cZ)) (fun _ _ _ _ _=>(cF (i:=0) (show List.Nodup (["told","thing"]:Zd) by ext) rfl (.inl rfl) (.inr rfl))) (fun _ _ _ _ _=>eX) (fun _ _ _ _ _=>vI rfl (pv 0)) (fun _ _=>rfl) (fun _ _ _ _ _=>(cF (i:=1) (show List.Nodup (["told","thing"]:Zd) by ext) rfl (.inl rfl) (.inr rfl))) (fun _ _ _ _ _=>vX (dz iK (dY (r:=Hb K) gZ (pv 1) cu (fun _ _=>rfl)) cH (dw _))) (fun _ _ _ _ _=>pv 1)) b_))),?_⟩;obtain ⟨dx,e⟩:=rc.ob;obtain ⟨ds,v,es,_⟩:=rc.st.ob;refine ⟨_,rfl,r.a,R,dx,_,_,rfl,e,RZ.c,RZ.r1,rfl,r.s.a,ds,_,rfl,es,rfl,r.s,d,rfl,rc.st,tl,lo,fun l ls H1 s1 W pd=>?_⟩;have pl:=pd.len;have big:1000≤sizeLine:=by decide
 refine ⟨l,rfl,⟨_,dR.of W⟩,?_⟩;refine ⟨fun i m D σ H'=>m=ls.length-i/\i≤ls.length/\H'=H1/\(∃ u v,σ=[u,v])/\D.length=(((d.tr.take i).flatMap fun p=>gf p.2.ln).filter lX).length,⟨ls.length,by simp,aaA _,rfl,⟨none,none,rfl⟩,by simp⟩,?_⟩;rintro i m D σ H2 ⟨rfl,hi,rfl,⟨u,v,rfl⟩,hy⟩;by_cases O:i<ls.length
 ·have ab:i<(ls.map V.ref).length:=by rw [aah];exact O
  refine .inr ⟨⟨_,(ls.map V.ref)[i],dR.of W,aaL ab⟩,fun x H' y=>?_⟩;obtain ⟨rfl,y⟩:=y;obtain ⟨a,ha,rfl⟩:=lu (y _ (dR.of W));obtain ⟨p,X,B,c,L⟩:=pd.at ha;dsimp only [dM,nM,List.set];rw [aad rfl];have xl:=L.len;have J:(((d.tr.take (i+1)).flatMap fun p=>gf p.2.ln).filter lX).length≤900:=by
   refine aaj (aaj (List.length_filter_le _ _) ?_) gl;have z:(d.tr.flatMap fun p=>gf p.2.ln).length=((d.tr.take (i+1)).flatMap fun p=>gf p.2.ln).length+((d.tr.drop (i+1)).flatMap fun p=>gf p.2.ln).length:=by rw [← aao,← aaR,List.take_append_drop]
   unfold Ko;omega
  rw [iI X,aaR,abq,aao] at J;have e1:[p].flatMap (fun p=>gf p.2.ln)=gf p.2.ln:=by simp
  rw [e1] at J;refine ⟨_,rfl,a,rfl,⟨_,dR.of c⟩,fun j m G I H3=>m=B.length-j/\j≤B.length/\H3=H'/\(∃ v,I=[some (.ref a),v])/\G.length=D.length+(((gf p.2.ln).take j).filter lX).length,⟨B.length,by simp,aaA _,rfl,⟨_,rfl⟩,by simp⟩,?_⟩;rintro j m G I H3 ⟨rfl,hj,rfl,⟨v',rfl⟩,M⟩;by_cases o:j<B.length
  ·refine .inr ⟨⟨_,B[j],dR.of c,aaL o⟩,?_,fun x H4 y=>?_⟩
   ·have z:(((gf p.2.ln).take j).filter lX).length≤((gf p.2.ln).filter lX).length:=((acM _ _).filter _).length_le;omega
   ·obtain ⟨rfl,y⟩:=y;obtain ⟨tg,ad,ae⟩:=L.at (y _ (dR.of c));obtain ⟨b,k,zs,rfl,hb,ek⟩:=HY ae;dsimp only [dM,List.set];refine ⟨_,rfl,b,_,_,_,rfl,rfl,eE.of hb,lV,?_⟩;have Y:(((gf p.2.ln).take (j+1)).filter lX).length=(((gf p.2.ln).take j).filter lX).length+(if lX tg=true then 1 else 0):=by rw [iI ad,abq,aao];cases h:lX tg <;> simp [h]
    refine ⟨rfl,_,rfl,?_⟩;by_cases hk:k=("event" : Str)
    ·rw [abD hk] at ek;rw [← ek,aad rfl] at Y;refine jz (by simp [hk]) ⟨_,rfl,_,(by omega),rfl,o,rfl,⟨_,rfl⟩,?_⟩;rw [aao,Y];simp;omega
    ·rw [aaY hk] at ek;rw [← ek,aac (by decide)] at Y;exact iz (by simp [hk]) ⟨_,(by omega),rfl,o,rfl,⟨_,rfl⟩,by rw [Y];exact M⟩
  ·have ej:j=B.length:=by omega
   subst ej;refine .inl ⟨⟨_,dR.of c,aae _⟩,ls.length-(i+1),by omega,rfl,O,rfl,⟨_,_,rfl⟩,?_⟩;rw [xl,aaT] at M;rw [iI X,aaR,abq,aao,e1];omega
 ·have ei:i=ls.length:=by omega
  subst ei;rw [pl,aaT] at hy;have ag:((Ko d).filter lX).length≤900:=aaj (List.length_filter_le _ _) gl;have ac:D.length=((Ko d).filter lX).length:=hy;refine .inl ⟨⟨_,dR.of W,by rw [aah];exact aae _⟩,by omega,fun p X=>?_⟩;refine ⟨p,D,rfl,.inl (dR.of a_),?_⟩;rw [ac];exact q _ (s1.trans (cj.new X))
end Cm
namespace Cm
open PySem L2 PySem.W
theorem Paired.snoc2 {b c:Type} {R:b->c->Prop} {x:b} {y:c} (h:R x y):∀ {d:List b} {e:List c},Paired R d e->Paired R (d++[x]) (e++[y])
 |_,_,.nil=>.cons h .nil
 |_,_,.cons a t=>.cons a (Paired.snoc2 h t)
structure Pa (f:jj):Prop where
 nm:Nm f.1
 lo:-2≤f.2.1
 lt:f.2.1≤10
 le:f.2.1≤f.2.2
 hi:f.2.2≤f.2.1+8
theorem Pa.ok (h:Pa f):oK f:=⟨h.nm,by have:=h.lo;omega,h.le,by have:=h.lt;have:=h.hi;omega⟩
def QM:Sp:=fun vs H Q _=>∃ (p c:Z0),vs=[.ref p]/\Dr H p c/\∀ (a:Z0) (d:List V) (fs:List jj) (b:Hp),b a=some (.tup d)->Paired (jg b) d fs->fs.length≤3->(∀ f∈fs,Pa f)->(fs.map (·.1)).Nodup->Dr b p c->iU p H b->Q (.ref a) b
noncomputable abbrev Xg:List Str:=["_law_d","_law_names","_law_found","_law_title","_law_low"]
theorem Dv:cA Xg ["_law_d"] (bK (top 119)):=by ext
theorem Qo {f fP fO fW fWs:Z0} {fd fdP fdO fdW C:Z3} (F:gj K "_law_small_fields" "_law_small_fields" (top 119) f fd) (T:Txt K mg) (DP:gK K mg "_law_pick" (top 113) ["_law_d","_law_many"] fP fdP) (DO:gK K mg "_law_of" (top 114) ["_law_d","_law_things"] fO fdO)
 (DW:gK K mg "_law_word" (top 116) ["_law_d"] fW fdW) (DWs:gK K mg "_law_words" (top 117) ["_law_d","_law_many"] fWs C):cD P w K mg base dI 5 f fd ["_law_d"] QM:=by
 have GP:cD P w K mg base dI 1 fP fdP ["_law_d","_law_many"] o9:=mH DP.F T;have GO:cD P w K mg base dI 2 fO fdO ["_law_d","_law_things"] (I_ K):=FQ DO.F T DP;have ae:cD P w K mg base dI 4 fWs C ["_law_d","_law_many"] (uo K):=vH DWs.F T DP DO DW;refine F.ok Dv (by ext) fun ap A aa s H vs Q E hr h=>?_;obtain ⟨p,I,rfl,D,k⟩:=h;have af:dm 1 _:=hr.mono (by decide);have W:dm 2 _:=hr.mono (by decide);refine ⟨_,(b8 (cQ (i:=1) Dv.nd rfl (.inl rfl) (jt DWs ae hr (aK (pv 0) (aK (jt DP GP af (aK (pv 0) (aK cu b_))) b_)))) (b8 (cQ (i:=2) Dv.nd rfl (.inl rfl) (gD b_)) (b8 (iJ aaW rfl (gG (pv 1)) (cF (i:=3) Dv.nd rfl (.inl rfl)) (b8 (cQ (i:=4) Dv.nd rfl (.inl rfl) (jt DO GO W (aK (pv 0) (aK (gD (aK cu (aK (rO o7 cu) (aK cu (aK cu b_))))) b_)))) (c7 (d8 (jM aa0 aa7 abe gY (pv 2) (aK (eZ (aK (pv 3) (aK (pv 4) (aK (dN gn (pv 4) (jt DO GO W (aK (pv 0) (aK (gD (aK cu (aK cu (aK cu (aK cu b_))))) b_)))) b_)))) b_)))))) (c7 (cI (gW iC (by rfl) T.tuple jx (aK (pv 2) b_))))))),?_⟩;refine ⟨_,rfl,_,rfl,p,I,_,rfl,D,by decide,by decide,fun m aq m0 m1 ab ac=>?_⟩;refine ⟨p,I,m,rfl,ab,m0,by omega,fun q L H1 e1 hq hl hy nd D1 ad=>?_⟩;have t1:=ac.trans ad;refine ⟨(by ext),fun q2 B=>?_⟩;have ag:=D1.new (o:=.lst []) B;have X:(upd H1 q2 (.lst [])) q=some (.lst (L.map V.str)):=(cj.new B) _ _ e1;have nq:q2≠q:=(cg e1 B).symm;have ah:H q2=none:=by
  cases e:H q2 with
  |none=>rfl
  |some o=>rw [t1 q2 o e (D1.neN B).symm] at B;cases B
 have Y:q2≠I:=by obtain ⟨g,e⟩:=D1.cell;exact (cg e B).symm
 refine ⟨_,rfl,q,rfl,⟨_,dR.of X⟩,j5 (K:=K) (a:=q) (xs:=L.map V.str) (fun i σ j=>∃ (g:List V) (fs:List jj) (a b:Option V),σ=[some (.ref p),some (.ref q),some (.ref q2),a,b]/\j q=some (.lst (L.map V.str))/\j q2=some (.lst g)/\Paired (jg j) g fs/\fs.map (·.1)=L.take i/\(∀ f∈fs,Pa f)/\Dr j p I/\iU p H j) ⟨[],[],none,none,rfl,X,a_,.nil,by simp,(fun _ h=>by cases h),ag,t1.trans (iU.new B)⟩ (fun i σ j _ ⟨_,_,_,_,_,e,_⟩=>dR.of e) ?_ ?_⟩
 ·rintro i y σ j hi ⟨g,fs,a,b,rfl,g1,O,pf,R,hf,J,t2⟩;rw [aau] at hi;obtain ⟨n,G,rfl⟩:=abk.mp hi;have ar:i<L.length:=(aaG.mp G).1;have np:∀ {b:Z0} {ws:List V} {H':Hp},Dr H' p I->H' b=some (.lst ws)->b≠p:=fun d e=>d.ne e (by intro au z;cases z);refine ⟨_,rfl,_,rfl,(by ext),fun q3 h3=>?_⟩;refine ⟨p,I,q3,_,rfl,J.new h3,dR.of a_,by simp,by simp,fun x H5 S D5 t5=>?_⟩;obtain ⟨N,rfl,al,am⟩:∃ z:Int,x=.int z/\-2≤z/\z≤10:=by
   simp only [aaf,abp,or_false] at S;rcases S with rfl|rfl|rfl|rfl
   all_goals exact ⟨_,rfl,by decide,by decide⟩
  have Z:iU p j H5:=(iU.new h3).trans t5;have ai:H5 q2=some (.lst g):=Z q2 _ O (np J O);refine ⟨_,rfl,.inl ⟨rfl,_,dR.of ai⟩,_,rfl,_,rfl,_,rfl,_,rfl,(by ext),fun q5 h5=>?_⟩;refine ⟨p,I,q5,_,rfl,D5.new h5,dR.of a_,by simp,by simp,fun x U S D6 t6=>?_⟩;obtain ⟨z,rfl,z0,z1⟩:∃ z:Int,x=.int z/\0≤z/\z≤8:=by
   simp only [aaf,abp,or_false] at S;rcases S with rfl|rfl|rfl|rfl
   all_goals exact ⟨_,rfl,by decide,by decide⟩
  have v:iU p j U:=Z.trans ((iU.new h5).trans t6);have aj:U q=some (.lst (L.map V.str)):=v q _ g1 (np J g1);have ak:U q2=some (.lst g):=v q2 _ O (np J O);have k5:TK j U:=TK.but J v;refine ⟨_,_,rfl,rfl,(by ext),fun q4 M=>?_⟩;have c:∀ o,(upd U q4 o) q2=some (.lst g):=fun o=>(cj.new M) _ _ ak;have ao:fs.length=i:=by have:=aaM List.length R;rw [aah,abi] at this;omega
  have pl:=aaZ pf;refine ⟨q2,g,_,rfl,rfl,c _,lU (by omega),?_⟩;refine ⟨g++[.ref q4],fs++[(n,N,N+z)],_,_,rfl,?_,a_,?_,?_,?_,?_,?_⟩
  ·rw [b7 nq.symm];exact (cj.new M) _ _ aj
  ·refine Paired.snoc2 ⟨q4,rfl,?_⟩ (ig pf (k5.trans ((TK.new M).trans (TK.lst (c _)))));exact (TK.lst (c _)) _ _ a_
  ·rw [aaF,R,abf,G];rfl
  ·intro f r;rcases aal.mp r with r|r
   ·exact hf f r
   ·obtain rfl:f=(n,N,N+z):=by simpa using r
    exact ⟨hy n (aaq G),al,am,by dsimp only;omega,by dsimp only;omega⟩
  ·exact (D6.new M).put (np (D6.new (o:=.tup [.str n,.int N,.int (N+z)]) M) (c _)) Y
  ·intro b o e hb;rw [b7 (cg e ah)];exact (cj.new M) _ _ ((t2.trans v) b o e hb)
 ·rintro σ j ⟨g,fs,a,b,rfl,g1,O,pf,R,hf,J,t2⟩;rw [aah,aaT] at R;refine ⟨_,rfl,q2,g,rfl,.inl ⟨dR.of O,fun l G=>?_⟩⟩;refine k l g fs _ a_ (ig pf (TK.new G)) ?_ hf (by rw [R];exact nd) (J.new G) (t2.trans (iU.new G));rw [← aah (f:=(·.1)),R];omega
open PySem.Spec PyProof.Rows
def Fq (H:Hp) (x:V) (t:Str×List jj):Prop:=∃ b a c,x=.ref b/\H b=some (.tup [.str t.1,.ref a])/\H a=some (.tup c)/\Paired (jg H) c t.2
structure Ue (t:Str×List jj):Prop where
 nm:Nm t.1
 ln:t.2.length≤3
 sm:∀ f∈t.2,Pa f
 nd:(t.2.map (·.1)).Nodup
section
variable {P:Z4} {w:Z5} {K:Z2} {mg:Zc} {base:Z7} {H H' H'':Hp}
theorem Fq.tk (h:Fq H x t) (k:TK H H'):Fq H' x t:=by obtain ⟨b,a,c,e,d,f,g⟩:=h;exact ⟨b,a,c,e,k _ _ d,k _ _ f,ig g k⟩
def kk (x:Str):Key:=Sum.inr x
noncomputable def cK (a b lt c:Z0):List (Key×V):=[(kk "kinds",.ref a),(kk "lanes",.ref b),(kk "tallies",.ref lt),(kk "fields",.ref c)]
structure yg (H:Hp) (c:Z0) (kts:List (Str×List jj)) (ws:Zd):Prop where
 ex:∃ lk ll lt lf ks us,H c=some (.dK (cK lk ll lt lf))/\H lk=some (.lst ks)/\Pd (Fq H) ks kts/\H ll=some (.lst (ws.map V.str))/\H lf=some (.lst us)/\us.length≤100
structure Ri (kts:List (Str×List jj)) (ws:Zd):Prop where
 kl:kts.length=3
 ko:∀ t∈kts,Ue t
 kd:(kts.map (·.1)).Nodup
 wl:3≤ws.length
 wo:∀ x∈ws,Nm x
 wd:ws.Nodup
theorem Dr.set (D:Dr H p f) (n:c≠p) (e:H c=some (.dK d)):Dr (upd H c o) p f:=by obtain ⟨g,a,r,s,h,b,k⟩:=D.ex;exact ⟨g,a,r,s,by rw [b7 n.symm];exact h,by rw [b7 (fun z=>by rw [z,e] at b;cases b)];exact b,k⟩
theorem Ls {a b c d:Key} {x y z u e:V} (f:a≠d) (g:b≠d) (h:c≠d):putK [(a,x),(b,y),(c,z),(d,u)] d e=[(a,x),(b,y),(c,z),(d,e)]:=by unfold putK;rw [aad (by simp)];simp [f,g,h]
theorem uf {k:Key}:iR [(a,x),(b,y),(c,z),(d,u)] k=if a=k then some x else if b=k then some y else if c=k then some z else if d=k then some u else none:=by
 by_cases e:a=k
 ·rw [aad e];simp [iR,e]
 ·rw [aac e];by_cases f:b=k
  ·rw [aad f];simp [iR,e,f]
  ·rw [aac f];by_cases g:c=k
   ·rw [aad g];simp [iR,e,f,g]
   ·rw [aac g];by_cases h:d=k
    ·rw [aad h];simp [iR,e,f,g,h]
    ·rw [aac h];simp [iR,e,f,g,h]
structure zL (H:Hp) (p dc c lk:Z0) (out:List V) (kts:List (Str×List jj)) (X:Hp) (kvs:List (Key×V)):Prop where
 D:Dr X p dc
 ec:X c=some (.dK kvs)
 l:X lk=some (.lst out)
 k:Pd (Fq X) out kts
 b:∀ b u,H b=some u->b≠p->X b=some u
 n:c≠p
 h:H c=none
theorem zL.but (s:zL H p g c i d f X a) (t:iU p X Y) (D:Dr Y p g):zL H p g c i d f Y a:=
 ⟨D,t _ _ s.ec s.n,t _ _ s.l (s.D.ne s.l (by intro _ h;cases h)),s.k.map fun _ _ r=>r.tk (TK.but s.D t),fun b u e n=>t _ _ (s.b b u e n) n,s.n,s.h⟩
theorem zL.set (s:zL H p i c j d f X g):zL H p i c j d f (upd X c (.dK kvs')) kvs':=
 ⟨s.D.set s.n s.ec,a_,by rw [b7 (fun z=>by have:=s.l;rw [z,s.ec] at this;cases this)];exact s.l,s.k.map fun _ _ r=>r.tk fun b a e=>by rw [b7 (fun z=>by rw [z,s.ec] at e;cases e)];exact e,fun b u e n=>by rw [b7 (cg e s.h)];exact s.b b u e n,s.n,s.h⟩
theorem zL.lst {X:Hp} (s:zL H p i c j f g X d) {l:Z0} {a:List V} (e:X l=some (.lst a)) {kvs':List (Key×V)}:upd X c (.dK kvs') l=some (.lst a):=by rw [b7 (fun z=>by rw [z,s.ec] at e;cases e)];exact e
theorem zL.nl {X:Hp} (s:zL H p i c j f g X d) {l:Z0} {a:List V} (e:X l=some (.lst a)):l≠p:=s.D.ne e (by intro _ h;cases h)
def DY:Sp:=fun vs H Q _=>∃ (p d:Z0),vs=[.ref p]/\Dr H p d/\∀ (c:Z0) a e b,yg b c a e->Ri a e->c≠p->Dr b p d->iU p H b->Q (.ref c) b
theorem ud:cA ["_law_d","_law_c","_law_title","_law_fields"] ["_law_d"] (bK (top 120)):=by ext
theorem Ja {f fP fO fW fWs fS:Z0} {fd fdP fdO fdW fdWs fdS:Z3} (F:gj K "_law_cast" "_law_cast" (top 120) f fd) (T:Txt K mg) (DP:gK K mg "_law_pick" (top 113) ["_law_d","_law_many"] fP fdP) (DO:gK K mg "_law_of" (top 114) ["_law_d","_law_things"] fO fdO)
 (DW:gK K mg "_law_word" (top 116) ["_law_d"] fW fdW) (L:gK K mg "_law_words" (top 117) ["_law_d","_law_many"] fWs fdWs) (DS:gK K mg "_law_small_fields" (top 119) ["_law_d"] fS fdS):cD P w K mg base dI 6 f fd ["_law_d"] DY:=by
 have GP:cD P w K mg base dI 1 fP fdP ["_law_d","_law_many"] o9:=mH DP.F T;have GW:cD P w K mg base dI 3 fW fdW ["_law_d"] xY:=zb DW.F T DP DO;have ad:cD P w K mg base dI 4 fWs fdWs ["_law_d","_law_many"] (uo K):=vH L.F T DP DO DW;have GS:cD P w K mg base dI 5 fS fdS ["_law_d"] QM:=Qo DS.F T DP DO DW L;refine F.ok ud (by ext) fun ax A aj s H vs Q E hr h=>?_;obtain ⟨p,O,rfl,D,k⟩:=h;have hu:=oN hr;have ak:dm 1 _:=hr.mono (by decide);have al:dm 3 _:=hr.mono (by decide);have ae:dm 4 _:=hr.mono (by decide);refine ⟨_,(b8 (cQ (i:=1) ud.nd rfl (.inl rfl) (yL (lK cH (iH (g:=dM 0) (own:=["_law_title"]) (js:=[0]) (N':=["_law_title","_law_d"]) (dq.of (osc:=bK (top 120)) (N:=["_law_d","_law_c","_law_title","_law_fields"]) rfl rfl (by ext)) rfl (gG (jt L ad ae (aK (pv 0) (aK cu b_)))) (fun _ _ _ _ _=>(cF (i:=0) (show List.Nodup (["_law_title","_law_d"]:Zd) by ext) rfl (.inl rfl) (.inr rfl))) (fun _ _ _ _ _=>eX) (fun _ _ _ _ _=>eZ (aK (pv 0) (aK (jt DS GS hr (aK (pv 1) b_)) b_)))) zx) rfl rfl (List.cons_ne_nil _ _) (by show 1≤15;decide))) (b8 (iV hu (pv 1) cH (jt L ad ae (aK (pv 0) (aK (dY eV (gD (aK cu (aK cu (aK cu (aK cu b_))))) (jt DP GP ak (aK (pv 0) (aK cu b_))) (fun _ _=>rfl)) b_))) rfl) (b8 (iV hu (pv 1) cH (jt L ad ae (aK (pv 0) (aK cu b_))) rfl) (b8 (iV hu (pv 1) cH (gD (aK (jt DW GW al (aK (pv 0) b_)) b_)) rfl) (b8 (iJ aaW rfl (gG (eN hu (pv 1) cH (fun _ _=>rfl))) (h_ rfl (cJ (cF (i:=2) ud.nd rfl (.inl rfl)) (cJ (cF (i:=3) ud.nd rfl (.inl rfl)) fZ))) (c7 (iV hu (pv 1) cH (dN Oi (iH (g:=dM 0) (own:=["_law_field"]) (js:=[]) (N':=["_law_field"]) (dq.of (osc:=bK (top 120)) (N:=["_law_d","_law_c","_law_title","_law_fields"]) rfl rfl (by ext)) rfl (pZ (pv 3)) (fun _ _ _ _ _=>(cF (i:=0) (show List.Nodup (["_law_field"]:Zd) by ext) rfl (.inl rfl) (.inr rfl))) (fun _ _ _ _ _=>eX) (fun _ _ _ _ _=>dY (r:=Hb K) gZ (pv 0) cu (fun _ _=>rfl))) (eN hu (pv 1) cH (fun _ _=>rfl))) rfl))) (c7 (cI (pv 1)))))))),?_⟩;refine fun c hc=>?_;have D0:=D.new (o:=.dK []) hc;have J:c≠p:=(D.neN hc).symm;have t0:iU p H (upd H c (.dK [])):=iU.new hc;refine ⟨_,rfl,p,O,3,rfl,D0,by decide,by decide,fun q ys H1 e1 hq hl hy nd D1 t1=>⟨q,rfl,⟨_,dR.of e1⟩,?_⟩⟩;have c1:H1 c=some (.dK []):=t1 _ _ a_ J;have ao:q≠p:=D1.ne e1 (by intro _ h;cases h);refine lO (K:=K) (a:=q) (xs:=ys.map V.str) (fun i d n I=>(∃ v,n=[v,some (.ref p)])/\Dr I p O/\iU p H1 I/\∃ B:List (Str×List jj),Pd (Fq I) d B/\B.map (·.1)=ys.take i/\∀ t∈B,Ue t) (by rw [aah];exact aaj (show ys.length≤3 by omega) (by decide)) ⟨⟨none,rfl⟩,D1,iU.refl,[],.nil,rfl,fun t m=>by cases m⟩ (fun i d n I _ z=>dR.of (z.2.2.1 _ _ e1 ao)) ?_ ?_
 ·rintro i x d n H2 hx ho ⟨⟨v,rfl⟩,D2,b2,B,pd,ek,U⟩ N hN;obtain ⟨y,ah,rfl⟩:=lu hx;dsimp only [dM,List.set];refine ⟨_,rfl,_,rfl,p,O,rfl,D2,fun a xs fs H3 ha pf fl sm fn D3 t3=>⟨(by ext),fun b hb=>hN _ _ _ (by simpa using ho) ⟨⟨_,rfl⟩,D3.new hb,(b2.trans t3).trans (iU.new hb),B++[(y,fs)],?_,?_,?_⟩⟩⟩
  ·have k3:=TK.but D2 t3;have k4:TK H3 (upd H3 b (.tup [.str y,.ref a])):=TK.new hb;exact Pd.app (.cons ⟨b,a,xs,rfl,a_,k4 _ _ ha,ig pf k4⟩ .nil) (pd.map fun _ _ r=>r.tk (k3.trans k4))
  ·rw [aaF,ek,iI ah];rfl
  ·intro t m;rcases aal.mp m with m|m
   ·exact U t m
   ·cases aai.mp m;exact ⟨hy y (aaq ah),fl,sm,fn⟩
 ·rintro d n H2 ho ⟨_,D2,b2,B,pd,ek,U⟩;rw [aah,aaT] at ek;refine ⟨by rw [ho,aah];exact aaj (show ys.length≤3 by omega) (by decide),fun l R=>?_⟩;have ap:c≠l:=cg (b2 _ _ c1 J) R;have c3:upd H2 l (.lst d) c=some (.dK []):=by rw [b7 ap];exact b2 _ _ c1 J
  have D3:=D2.new (o:=.lst d) R;refine ⟨c3,[(kk "kinds",.ref l)],rfl,(show 1≤15 by decide),?_⟩;have e3:upd H2 l (.lst d) l=some (.lst d):=a_;have af:Pd (Fq (upd H2 l (.lst d))) d B:=pd.map fun _ _ r=>r.tk (TK.new R);have b3:iU p H (upd H2 l (.lst d)):=((t0.trans t1).trans b2).trans (iU.new R);generalize upd H2 l (.lst d)=H3 at c3 D3 e3 af b3 ⊢;have aq:o8 [] [(kk "kinds",V.ref l)]=[(kk "kinds",V.ref l)]:=rfl;rw [aq];have s4:zL H p O c l d B (upd H3 c (.dK [(kk "kinds",.ref l)])) [(kk "kinds",.ref l)]:=(zL.mk (kvs:=[]) D3 c3 e3 af b3 J hc).set;clear c3 D3 e3 af b3;generalize upd H3 c (.dK [(kk "kinds",.ref l)])=H4 at s4 ⊢;have D4:=s4.D;dsimp only [dM];refine ⟨_,rfl,(by ext),fun l4 aa=>⟨_,rfl,p,O,4,rfl,D4.new aa,by decide,by decide,fun r H5 r0 r1 D5 t5=>?_⟩⟩;have ar:∃ m:Int,pL [V.int 3,.int 3,.int 3,.int 6] r=some (.int m)/\3≤m/\m≤6:=by
   rcases (show r=0∨r=1∨r=2∨r=3 by omega) with rfl|rfl|rfl|rfl
   ·exact ⟨3,rfl,by decide,by decide⟩
   ·exact ⟨3,rfl,by decide,by decide⟩
   ·exact ⟨3,rfl,by decide,by decide⟩
   ·exact ⟨6,rfl,by decide,by decide⟩
  obtain ⟨m,am,m3,m6⟩:=ar;have au:=(iU.new (p:=p) (o:=.lst [V.int 3,.int 3,.int 3,.int 6]) aa).trans t5;have l5:=t5 l4 _ a_ (D4.neN aa).symm;refine ⟨l4,_,r,_,rfl,rfl,dR.of l5,am,p,O,m,rfl,D5,by omega,by omega,fun G ws H6 ew ay wl wo wd D6 t6=>?_⟩;have s6:=s4.but (au.trans t6) D6;refine ⟨_,rfl,c,_,rfl,my.k (k:=kk "lanes") s6.ec (show 1<sizeLine by decide),?_⟩;rw [lJ (fun p m=>by cases aai.mp m;show kk "kinds" ≠ kk "lanes";decide +kernel)];have s7:=s6.set (kvs':=[(kk "kinds",.ref l)]++[(kk "lanes",.ref G)]);have w7:=s6.lst (kvs':=[(kk "kinds",.ref l)]++[(kk "lanes",.ref G)]) ew;generalize upd H6 c (.dK ([(kk "kinds",.ref l)]++[(kk "lanes",.ref G)]))=H7 at s7 w7 ⊢;refine ⟨_,rfl,p,O,2,rfl,s7.D,by decide,by decide,fun lt ts H8 et az tl to td D8 t8=>?_⟩;have s8:=s7.but t8 D8;have w8:=t8 _ _ w7 (s7.nl w7);refine ⟨_,rfl,c,_,rfl,my.k (k:=kk "tallies") s8.ec (show 2<sizeLine by decide),?_⟩;rw [lJ (fun p m=>by
   rcases aal.mp m with m|m
   ·cases aai.mp m;show kk "kinds" ≠ kk "tallies";decide +kernel
   ·cases aai.mp m;show kk "lanes" ≠ kk "tallies";decide +kernel)];have s9:=s8.set (kvs':=[(kk "kinds",.ref l)]++[(kk "lanes",.ref G)]++[(kk "tallies",.ref lt)]);have w9:=s8.lst (kvs':=[(kk "kinds",.ref l)]++[(kk "lanes",.ref G)]++[(kk "tallies",.ref lt)]) w8;generalize upd H8 c (.dK ([(kk "kinds",.ref l)]++[(kk "lanes",.ref G)]++[(kk "tallies",.ref lt)]))=H9 at s9 w9 ⊢;refine ⟨_,rfl,p,O,rfl,s9.D,fun x HA nx DA tA=>⟨(by ext),fun C ab=>?_⟩⟩;have sA:=s9.but (tA.trans (iU.new (o:=.lst [.str x]) ab)) (DA.new ab);have wA:=(tA.trans (iU.new (o:=.lst [.str x]) ab)) _ _ w9 (s9.nl w9);have fA:upd HA C (.lst [.str x]) C=some (.lst [.str x]):=a_;generalize upd HA C (.lst [.str x])=HB at sA wA fA ⊢;refine ⟨_,rfl,c,_,rfl,my.k (k:=kk "fields") sA.ec (show 3<sizeLine by decide),?_⟩;rw [lJ (fun p m=>by
   rcases aal.mp m with m|m
   ·rcases aal.mp m with m|m
    ·cases aai.mp m;show kk "kinds" ≠ kk "fields";decide +kernel
    ·cases aai.mp m;show kk "lanes" ≠ kk "fields";decide +kernel
   ·cases aai.mp m;show kk "tallies" ≠ kk "fields";decide +kernel)];have sC:zL H p O c l d B (upd HB c (.dK (cK l G lt C))) (cK l G lt C):=sA.set;have wC:=sA.lst (kvs':=cK l G lt C) wA;have fC:=sA.lst (kvs':=cK l G lt C) fA;generalize ai:upd HB c (.dK ([(kk "kinds",V.ref l)]++[(kk "lanes",V.ref G)]++[(kk "tallies",V.ref lt)]++[(kk "fields",V.ref C)]))=HC;have Z:upd HB c (.dK (cK l G lt C))=HC:=ai;rw [Z] at sC wC fC;clear ai Z;have gk:∀ {X:Hp} {C:Z0},X c=some (.dK (cK l G lt C))->iy X c (.str "kinds") (some (.ref l))/\iy X c (.str "fields") (some (.ref C)):=fun {X C} e=>by
   refine ⟨?_,?_⟩
   ·have:=iy.k (k:=kk "kinds") e;unfold cK at this;rw [uf,aad rfl] at this;exact this
   ·have:=iy.k (k:=kk "fields") e;unfold cK at this;rw [uf,aac (by ext),aac (by ext),aac (by ext),aad rfl] at this;exact this
  have ol:d.length=B.length:=pd.len;have kl:B.length=3:=by have:=aaM List.length ek;rw [aah] at this;omega
  refine ⟨_,rfl,c,_,rfl,(gk sC.ec).1,l,rfl,⟨_,dR.of sC.l⟩,?_⟩;refine j5 (K:=K) (a:=l) (xs:=d) (fun j n I=>(∃ u v,n=[some (.ref p),some (.ref c),u,v])/\∃ C M,zL H p O c l d B I (cK l G lt C)/\I G=some (.lst (ws.map V.str))/\I C=some (.lst M)/\M.length≤1+3*j) ⟨⟨_,_,rfl⟩,C,_,sC,wC,fC,aae _⟩ (fun j n I _ z=>by obtain ⟨_,_,_,z,_⟩:=z;exact dR.of z.l) ?_ ?_
  ·rintro j y n HD hj ⟨⟨u,v,rfl⟩,ag,M,W,wD,fD,ul⟩;obtain ⟨t,ht,b,a,xs,rfl,eb,ea,pf⟩:=W.k.at hj;have j3:j<3:=by have:=(aaG.mp hj).1;omega
   refine ⟨b,_,rfl,eE.of eb,rfl,_,_,rfl,_,_,rfl,rfl,?_⟩;refine ⟨_,rfl,a,rfl,⟨_,eE.of ea⟩,?_⟩;have xl:xs.length≤3:=by rw [aaZ pf];exact (U t (aaq ht)).ln
   refine pO (K:=K) (a:=a) (xs:=xs) (fun i ys n I=>(∃ v,n=[v])/\I=HD) (aaj xl (by decide)) ⟨⟨none,rfl⟩,rfl⟩ (fun i ys n I _ z=>by rw [z.2];exact eE.of ea) ?_ ?_
   ·rintro i x aA n HE hx aw ⟨⟨v',rfl⟩,rfl⟩ N hN;obtain ⟨f',_,b',rfl,av⟩:=jo pf hx;dsimp only [dM,List.set];exact ⟨_,rfl,b',_,_,_,rfl,rfl,eE.of av,lV,hN _ _ _ (by simpa using aw) ⟨⟨_,rfl⟩,rfl⟩⟩
   ·rintro Y n HE hz ⟨_,rfl⟩;refine ⟨aaj (show Y.length≤3 by omega) (by decide),fun l1 S=>?_⟩;have sE:=W.but (iU.new (o:=.lst Y) S) (W.D.new S);have wE:=(cj.new (o:=.lst Y) S) _ _ wD;have fE:=(cj.new (o:=.lst Y) S) _ _ fD;refine ⟨_,rfl,c,_,rfl,(gk sE.ec).2,l1,ag,Y,M,rfl,rfl,a_,fE,aaj (show Y.length+M.length≤100 by omega) (by decide),fun l2 ac=>?_⟩;have sF:=sE.but (iU.new (o:=.lst (Y++M)) ac) (sE.D.new ac);have wF:=(cj.new (o:=.lst (Y++M)) ac) _ _ wE;refine ⟨_,rfl,c,_,rfl,my.k (k:=kk "fields") sF.ec (show 4<sizeLine by decide),?_⟩;unfold cK;rw [Ls (by ext) (by ext) (by ext)];refine ⟨⟨_,_,rfl⟩,l2,Y++M,sF.set,sF.lst wF,sF.lst a_,?_⟩;rw [aao];omega
  ·rintro n HD ⟨⟨u,v,rfl⟩,ag,M,W,wD,fD,ul⟩;refine ⟨_,rfl,k c B ws HD ⟨l,G,lt,ag,d,M,W.ec,W.l,W.k,wD,fD,by omega⟩ ⟨kl,U,by rw [ek];exact nd,by omega,wo,wd⟩ J W.D W.b⟩
end
end Cm
namespace Cm
open PySem L2 PySem.W
structure Gd (sz most room:Int) (n:Ln) (g:Nat) (mis:Int):Prop where
 a:∃ A,A.length=g/\Jv most room A n 0 mis (n.tks+1)
 pg:∃ r h,n.pg=r++[h]/\(∀ p∈r,(p.cs.length:Int)=room / sz)/\h.us=sz*h.cs.length/\(h.cs.length:Int)≤room / sz
 he:n.held=false
 la:∀ t,n.last=some t->t=0
 kd:∀ p∈n.pg,∀ c∈p.cs,k_ c.nm c.fi
structure qQ (sz most room:Int):Prop where
 z1:1≤sz
 z2:sz≤4
 m1:2≤most
 m2:most≤4
 r1:5≤room
 r2:room≤12
theorem qQ.q1 (b:qQ sz c a):1≤a / sz:=by have:=b.z1;have:=b.z2;have:=b.r1;exact (Int.le_ediv_iff_mul_le (by omega)).mpr (by omega)
theorem qQ.q2 (b:qQ sz f e):e / sz≤12:=by have c:=b.z1;have a:=b.r2;have d:=b.r1;exact ab5 (Int.ediv_le_self _ (by omega)) a
theorem Gd.new (b:qQ sz e f):Gd sz e f (gU e f false) 0 0:=by
 have:=b.m1;refine ⟨⟨[],rfl,⟨⟨⟨[],0,0⟩,[],rfl,(fun q m=>by cases m),0,rfl,aae _,rfl⟩,aae _,(fun c m=>by cases m),abd,(fun c m=>by cases m),(fun q m=>by cases m),rfl,rfl,rfl,?_,rfl,rfl,rfl,rfl,rfl,(fun t h=>by cases h),?_,?_⟩⟩,⟨[],⟨[],0,0⟩,rfl,(fun p m=>by cases m),by simp,by have:=b.q1;simp;omega⟩,rfl,(fun t h=>by cases h),fun p m c d=>by cases aai.mp m;cases d⟩
 ·show ((1:Nat):Int)≤e+0;omega
 ·show (0:Int)≤0+1;omega
 ·show ((0:Nat):Int)≤0;omega
theorem Gd.cls (h:Gd sz f e n g i):(fQ n).length=g/\∃ A,A.length=g/\Jv f e A n 0 i (n.tks+1)/\fQ n=A:=by
 obtain ⟨A,c,J⟩:=h.a;obtain ⟨d,gt,b,_⟩:=J.cls;obtain rfl:d=0:=by omega
 rw [abW] at b;exact ⟨by rw [b];exact c,A,c,J,b⟩
theorem uU {r:List Pg} (h:∀ p∈r,(p.cs.length:Int)=q):((r.flatMap (·.cs)).length:Int)=r.length*q:=by
 induction r with
 |nil=>simp
 | cons p r c=>rw [aax,aao,aaw];have a:=h p (aan ..);have b:=c fun x m=>h x (aag _ m);rw [acA,a,b,acA,aca];simp;omega
theorem Gd.le (b:qQ sz q p) (h:Gd sz q p n g s):(g:Int)≤q*(p / sz):=by
 obtain ⟨f,A,j,J,l⟩:=h.cls;obtain ⟨r,hd,e,i,m,o⟩:=h.pg;have len:=J.len;have c:lD n=0:=by unfold lD;rw [h.he];rfl
 rw [c,e] at len;have:(g:Int)=r.length*(p / sz)+hd.cs.length:=by rw [← f];unfold fQ;rw [e,aaR,aao,acA,uU i];simp
 have q1:=b.q1;simp at len;have d:((r.length:Int)+1)*(p / sz)≤q*(p / sz):=Int.mul_le_mul_of_nonneg_right (by omega) (by omega);rw [aca,acB] at d;omega
theorem Gd.le48 (b:qQ sz f e) (h:Gd sz f e n g i):g≤48:=by have c:=h.le b;have d:f*(e / sz)≤4*12:=Int.mul_le_mul b.m2 b.q2 (by have:=b.q1;omega) (by decide);omega
theorem Gd.wr (b:qQ sz C B) (h:Gd sz C B n g E) (z:1+(fs.length:Int)=sz) (q:Pd pG fs D):zR fs 0 D n:=by
 obtain ⟨s,A,v,J,d⟩:=h.cls;obtain ⟨r,hd,e,w,x,y⟩:=h.pg;have j:=h.le48 b;have l:n.pg.length≤800:=by
  have len:=J.len;have o:lD n=0:=by unfold lD;rw [h.he];rfl
  have:=b.m2;rw [o] at len;omega
 refine ⟨⟨by rw [e];simp,by rw [J.mo];exact b.m1,by omega,fun m f=>?_,fun t i=>by rw [h.la t i];exact Int.le_refl _⟩,.inl J.ov,J.wait0,l,by omega,by rw [d];exact J.nd,by rw [d];exact J.tk,q⟩;have:m.cs.length≤(fQ n).length:=by unfold fQ;obtain ⟨a,c,p⟩:=List.append_of_mem f;rw [p,aaR,aax,aao,aao];omega
 omega
theorem Gd.hd (h:Gd sz o m n g s) (e:n.pg=r++[p]):zK n=p.us/\(∀ q∈r,(q.cs.length:Int)=m / sz)/\p.us=sz*p.cs.length/\(p.cs.length:Int)≤m / sz:=by
 obtain ⟨d,f,c,i,j,l⟩:=h.pg;rw [e] at c;have b:=ac6 c rfl;obtain rfl:r=d:=b.1;obtain rfl:p=f:=by simpa using b.2
 exact ⟨by unfold zK;rw [e];simp,i,j,l⟩
def Full (sz:Int) (n:Ln):Prop:=n.room<zK n+sz/\n.most≤(n.pg.length:Int)-lD n
theorem Gd.full (b:qQ sz B z) (h:Gd sz B z n g C) (f:Full sz n):(g:Int)=B*(z / sz):=by
 obtain ⟨i,A,w,J,x⟩:=h.cls;obtain ⟨r,p,e,_⟩:=h.pg;obtain ⟨j,l,o,y⟩:=h.hd e;have c:lD n=0:=by unfold lD;rw [h.he];rfl
 have len:=J.len;obtain ⟨s,v⟩:=f;rw [j,o,J.ro] at s;rw [c,J.mo] at v;rw [c] at len;have d:(p.cs.length:Int)=z / sz:=by
  have z1:=b.z1;have:z / sz<p.cs.length+1:=by refine Int.ediv_lt_of_lt_mul (by omega) ?_;rw [aca,acB,Int.mul_comm];omega
  omega
 have:(g:Int)=n.pg.length*(z / sz):=by
  rw [← i];unfold fQ;refine uU fun q m=>?_;rw [e] at m;rcases aal.mp m with m|m
  ·exact l q m
  ·cases aai.mp m;exact d
 rw [this];have:(n.pg.length:Int)=B:=by omega
 rw [this]
theorem Gd.go0 (h:Gd sz o l n g s):∀ p∈n.pg,p.go=0:=by
 obtain ⟨f,A,i,J,j⟩:=h.cls;obtain ⟨p,r,e,b,c,d,gt,_⟩:=J.pg;obtain rfl:c=0:=by omega
 intro q m;rw [e] at m;rcases aaf.mp m with rfl|m
 ·exact d
 ·exact b q m
theorem Gd.miss (h:Gd sz o l n g j):Gd sz o l { n with last:=some 0,tks:=n.tks+1,mis:=n.mis+1 } g (j+1):=by
 obtain ⟨f,A,d,J,i⟩:=h.cls;have e:=J.al;refine ⟨⟨A,d,J.pg,J.tl,J.gv,J.nd,fun c m=>?_,J.us,J.mo,J.ro,J.ov,J.len,J.told,J.giv,J.thr,J.los,?_,fun t b=>?_,?_,?_⟩,h.pg,h.he,fun t b=>?_,h.kd⟩
 ·have:=J.tk c m;show c.tk≤n.tks+1;omega
 ·show n.mis+1=j+1;rw [J.mis]
 ·cases b;show (0:Int)<n.tks+1+1;omega
 ·show n.tks+1≤n.tks+1+1;omega
 ·show (A.length:Int)≤n.tks+1;omega
 ·cases b;rfl
theorem Gd.put (b:qQ sz most room) (h:Gd sz most room n g mis) (W:k_ nm fs) (X:1+(fs.length:Int)=sz) (w:Od nm fs 0 zs n true n'):Gd sz most room n' (g+1) mis:=by
 obtain ⟨Z,A,Q,J,I⟩:=h.cls;obtain ⟨r,p,l,rfl⟩:=w;have B:lD n=0:=by unfold lD;rw [h.he];rfl
 have z1:=b.z1;have q1:=b.q1;have Y:=J.al;have go:=h.go0;obtain ⟨L,D,d,_⟩:=h.pg;obtain ⟨R,j,o,M⟩:=h.hd d;rw [X] at l ⊢;have C:(∀ q∈r,(q.cs.length:Int)=room / sz/\0<q.us/\q.go=0/\∀ c∈q.cs,k_ c.nm c.fi)/\p.us=sz*p.cs.length/\(p.cs.length:Int)+1≤room / sz/\p.go=0/\(∀ c∈p.cs,k_ c.nm c.fi)/\(r++[p]).flatMap (·.cs)=A/\(r.length:Int)+1≤most:=by
  have i:∀ q∈L,0<q.us:=fun q m=>J.us q (by rw [d,List.dropLast_concat];exact m);have len:=J.len;rw [B] at len;rcases l with ⟨e,y⟩|⟨e,rfl,y,U⟩
  ·rw [d] at e;have G:=ac6 e rfl;obtain rfl:L=r:=G.1;obtain rfl:D=p:=by simpa using G.2
   refine ⟨fun q m=>⟨j q m,i q m,go q (by rw [d];exact aaI _ m),h.kd q (by rw [d];exact aaI _ m)⟩,o,?_,go _ (by rw [d];simp),h.kd _ (by rw [d];simp),?_,?_⟩
   ·rw [o,J.ro] at y;refine (Int.le_ediv_iff_mul_le (by omega)).mpr ?_;rw [aca,acB,Int.mul_comm];exact y
   ·rw [← d];exact I
   ·rw [d] at len;simp at len;omega
  ·rw [R,o,J.ro] at y;rw [B,J.mo] at U;have H:(D.cs.length:Int)=room / sz:=by
    have:room / sz<D.cs.length+1:=by refine Int.ediv_lt_of_lt_mul (by omega) ?_;rw [aca,acB,Int.mul_comm];omega
    omega
   refine ⟨fun q m=>?_,by simp,by simpa using q1,rfl,(fun c m=>by cases m),?_,?_⟩
   ·rw [← e] at m;refine ⟨?_,?_,go q m,h.kd q m⟩
    ·rw [d] at m;rcases aal.mp m with m|m
     ·exact j q m
     ·cases aai.mp m;exact H
    ·rw [d] at m;rcases aal.mp m with m|m
     ·exact i q m
     ·cases aai.mp m;rw [o,H];exact Int.mul_pos (by omega) (by omega)
   ·rw [← e,aaR];simp;exact I
   ·rw [← e];omega
 clear l j o M d;obtain ⟨j,o,M,E,S,T,rl⟩:=C;have v:(r++[({ p with cs:=p.cs++[uO nm fs 0 zs n],us:=p.us+sz }:Pg)]).flatMap (fun q:Pg=>q.cs)=A++[uO nm fs 0 zs n]:=by rw [← T];simp [aaR]
 have f:∀ q∈r++[({ p with cs:=p.cs++[uO nm fs 0 zs n],us:=p.us+sz }:Pg)],q.go=0:=fun q m=>by
  rcases aal.mp m with m|m
  ·exact (j q m).2.2.1
  ·cases aai.mp m;exact E
 refine ⟨⟨A++[uO nm fs 0 zs n],by simp [Q],?_,aaA _,fun c m=>?_,?_,fun c m=>?_,fun q m=>?_,J.mo,J.ro,J.ov,?_,J.told,?_,J.thr,J.los,J.mis,fun t l=>?_,?_,?_⟩,⟨r,_,rfl,fun q m=>(j q m).1,?_,?_⟩,h.he,fun t l=>?_,fun q m c s=>?_⟩
 ·show ∃ O P,r++[({ p with cs:=p.cs++[uO nm fs 0 zs n],us:=p.us+sz }:Pg)]=O::P/\_;cases r with
  |nil=>exact ⟨_,_,rfl,(fun q m=>by cases m),0,f _ (by simp),aae _,v⟩
  |cons x r=>exact ⟨_,_,rfl,(fun q m=>f q (aag _ m)),0,f _ (by simp),aae _,v⟩
 ·rcases aal.mp m with m|m
  ·exact J.gv c m
  ·cases aai.mp m;rfl
 ·rw [aaF];refine abg.mpr ⟨J.nd,by simp,fun a N b F z=>?_⟩;obtain ⟨c,m,rfl⟩:=aar.mp N;have F:b=n.tks+1:=by simpa [uO,dZ] using F
  have:=J.tk c m;omega
 ·show c.tk≤n.tks+1;rcases aal.mp m with m|m
  ·have:=J.tk c m;omega
  ·cases aai.mp m;exact Int.le_refl _
 ·have m:q∈(r++[({ p with cs:=p.cs++[uO nm fs 0 zs n],us:=p.us+sz }:Pg)]).dropLast:=m;rw [List.dropLast_concat] at m;exact (j q m).2.1
 ·show ((r++[({ p with cs:=p.cs++[uO nm fs 0 zs n],us:=p.us+sz }:Pg)]).length:Int)≤most+lD n;rw [B];simp;omega
 ·show n.giv+1=_;rw [J.giv];simp
 ·cases l;show (0:Int)<n.tks+1+1;omega
 ·show n.tks+1≤n.tks+1+1;omega
 ·show (((A++[uO nm fs 0 zs n]).length:Nat):Int)≤n.tks+1;simp;omega
 ·show p.us+sz=sz*((p.cs++[uO nm fs 0 zs n]).length:Nat);rw [o,aao,acA,Int.mul_add];simp
 ·show (((p.cs++[uO nm fs 0 zs n]).length:Nat):Int)≤room / sz;simp;omega
 ·cases l;rfl
 ·have m:q∈r++[({ p with cs:=p.cs++[uO nm fs 0 zs n],us:=p.us+sz }:Pg)]:=m;rcases aal.mp m with m|m
  ·exact (j q m).2.2.2 c s
  ·cases aai.mp m;rcases aal.mp s with s|s
   ·exact S c s
   ·cases aai.mp s;exact W
noncomputable def Gs:Stmt->List Stmt
 |.For _ _ b _ _=>b
 |_=>[]
noncomputable def uB:Expr->Arguments
 |.Lambda p _ _ _=>p
 |_=>{ posonlyargs:=[],args:=[],vararg:=none,kwonlyargs:=[],kw_defaults:=[],kwarg:=none,defaults:=[] }
noncomputable def zc:Expr->Expr
 |.Lambda _ b _ _=>b
 |e=>e
noncomputable def jb:Expr->Scope
 |.Lambda _ _ s _=>s
 |_=>{ kind:=.function,names:=[],isGenerator:=false,isCoroutine:=false }
noncomputable def Je:Expr->Pos
 |.Lambda _ _ _ p=>p
 |_=>⟨0,0,0,0⟩
noncomputable def Wy:Stmt->Expr
 |.Assign _ (.List (e::_) _) _=>e
 |_=>.Constant .none 0 ⟨0,0,0,0⟩
noncomputable def lamP:Stmt->Expr
 |.Expr (.Call _ (e::_) _ _) _=>e
 |_=>.Constant .none 0 ⟨0,0,0,0⟩
noncomputable def Kc (i:Nat):Stmt:=(Gs ((cO (top 121)).getD 14 (.Pass ⟨0,0,0,0⟩))).getD i (.Pass ⟨0,0,0,0⟩)
noncomputable def Dn:Expr:=Wy (Kc 3)
noncomputable def Eh:Expr:=lamP (Kc 4)
noncomputable abbrev NC:List Str:=["_law_kind","_law_lane","_law_rec"]
noncomputable abbrev NW:List Str:=["_law_kind","_law_lane","_law_low","_law_rec"]
abbrev qL:Str:="law.<locals>."++"<lambda>"
abbrev Jj:List Pos:=[Je Dn,Je Eh]
structure Fx (NL:Zd) (L:Z9):Prop where
 has:∀ q∈(jb L).names,(q.2=.cell∨q.2=.free)->q.1∈NL
 free:∀ x∈NL,(jb L).names.lookup x=some .free
 co:(jb L).isCoroutine=false
 gen:(jb L).isGenerator=false
 k:(jb L).kind=.function
 nc:∀ x∈(jb L).names,x.2≠.cell
theorem O8:Fx NC Dn:=⟨by ext,by ext,rfl,rfl,rfl,by ext⟩
theorem Lr:Fx NW Eh:=⟨by ext,by ext,rfl,rfl,rfl,by ext⟩
def TJ (K:Z2) (d e cM:Z0) (Q:VK) (f:VK) (g:XK):Prop:=(∀ v a,f v a->∀ l,a l=none->Q (.ref l) (upd a l (.lst [.str "",v])))/\
 ∀ cls dd a,g cls dd a->∃ c b fs wd,cls=.ref c/\dd=some b/\a b=some (qm b fs)/\Ef K d e cM c fs wd/\∀ l,a l=none->Q (.ref l) (upd a l (.lst [.str wd,.non]))
def jO (L:Z9) (c:Zk) (d:Z6) (f:Z0) (H:Hp):Prop:=∃ a b,H f=some (lamO f (kla_obj "<lambda>" qL (uB L) (zc L) (jb L) c d a b))/\H a=some (lE a qL)
def Ge (K:Z2) (d e cM:Z0) (L:Z9) (g:List Nat) (t:XK->TE) (h:Zk) (i:Z6):St->List V->Hp->VK->Prop:=fun c vs H Q=>∃ f a b,vs=[.ref f]/\jO L h i f H/\t b (sJ g c) H a/\TJ K d e cM Q a b
theorem JN {X:Cx} {S T:Z0} (_:oY X S T) {b:Zd} {o:List Nat} {z B cM:Z0} {L:Z9} {e:Zk} {C:Z6} {E:XK} {l:Zi} {D:St} {H:Hp} {s:Z1} {vs:List V} {Q:VK} {t:XK->TE} (g:Fx b L)
 (c:∀ d i,bindArgs (kla_fn "<lambda>" qL (uB L) (zc L) (jb L) e C (.ref d) i) ⟨[],[]⟩=pure [])
 (r:∀ p∈e,X.env.cells.lookup p.1=some p.2) (m:∀ x∈b,x∈e.map (·.1)) (v:∀ x,X.fn x=true) (n:∀ x∈b,X.env.scope.names.lookup x=some .cell) (U:o.map (fun j=>X.N[j]?)=b.map some) (w:X.stack=X.env::X.outer) (y:X.env.frame=some X.env.locals)
 (W:∀ (f d:Z0) (A:Z8) (a:List Env) (s:Z1) (H:Hp) (E:XK),dm 14 (A.deeper (envX qL (jb L) s.heap.objs.size f (.ref d) e))->PE (oF X.prog X.w X.K X.mg X.base b qL (jb L) f (.ref d) e A a s H E) (zc L) (t E))
 (I:Inv X l D H s) (h:Ge X.K z B cM L o t e C D vs H Q):Ds X.prog X.w X.K X.mg X.base 15 z B cM s X.stack vs H Q E:=by
 obtain ⟨f,J,M,rfl,⟨d,i,O,P⟩,h,R,k2⟩:=h;have Cl:=Ha (scope:=jb L) (NL:=b) (js:=o) I r v (fun q F h=>m _ (g.has q F h)) g.free n (by rw [← U]) w y;exact ⟨f,J,M,rfl,Bt (N:=b) (k:=14) O P Cl (c _ _) g.co g.gen g.k g.nc (fun A a s G=>W f d A a s H _ G) h,R,k2⟩
def Kp (H c:Hp):Prop:=∀ b u,H b=some u->(∀ a,u≠.tbl a)->c b=some u
structure Wl (Z:LC) (C S R:Z0) (K:Z2) (H0 H:Hp) (p dc Tt:Z0) (r:oV) (d:Sd) (n:Nat) (U:List (Addr×List V)):Prop where
 rc:JL Z C S R K H r d n
 dr:Dr H p dc
 tb:jP H Tt qL Jj
 old:∀ b u,H0 b=some u->b≠p->(∀ qs,u≠.tbl qs)->H b=some u
 na:H0 r.a=none
 np:H0 r.pa=none
 nu:H0 r.un=none
 hp:∃ u,H0 p=some u
 hd:∃ u,H0 dc=some u
 kl:d.kn.length≤3
 tl:d.tr.length≤3
 tu:∀ q∈U,H q.1=some (.tup q.2)
theorem RcAt.keep (h:RcAt Z C S R K H r d n) (k:∀ b u,H b=some u->(b=r.a∨(∃ a,u=.lst a)∨WW Z r.s b u)->g b=some u):RcAt Z C S R K g r d n:=by obtain ⟨c,e⟩:=h.ob;obtain ⟨a,f,l⟩:=h.ps;exact ⟨⟨c,k _ _ e (.inl rfl)⟩,⟨a,k _ _ f (.inr (.inl ⟨_,rfl⟩)),l⟩,k _ _ h.un (.inr (.inl ⟨_,rfl⟩)),h.st.keep fun b u e s=>k b u e (.inr (.inr s)),h.ne⟩
theorem Wl.same (h:Wl Z C S R K a H p f c r d n U) (s:cj H g):Wl Z C S R K a g p f c r d n U:=
 ⟨⟨h.rc.at_.same s,h.rc.nl,h.rc.ok⟩,h.dr.mono s,h.tb.same s,fun b u e n t=>s _ _ (h.old b u e n t),h.na,h.np,h.nu,h.hp,h.hd,h.kl,h.tl,fun q m=>s _ _ (h.tu q m)⟩
theorem Wl.kp (h:Wl Z C S R K w H p x o r d n U) (k:Kp H v) (t:jP v o qL Jj):Wl Z C S R K w v p x o r d n U:=by
 obtain ⟨l,a⟩:=h.rc.at_.ob;refine ⟨⟨h.rc.at_.keep fun b u e s=>k b u e fun j z=>?_,h.rc.nl,h.rc.ok⟩,?_,t,fun b u e n t=>k _ _ (h.old b u e n t) t,h.na,h.np,h.nu,h.hp,h.hd,h.kl,h.tl,fun q m=>k _ _ (h.tu q m) (by intro _ z;cases z)⟩
 ·subst z;rcases s with rfl|⟨_,z⟩|s|⟨_,z⟩|⟨_,_,z⟩|⟨_,_,z⟩
  ·rw [a] at e;cases e
  ·cases z
  ·rcases h.rc.at_.st.here s with ⟨_,_,_,h⟩|⟨_,h⟩|⟨_,h,_⟩ <;> (rw [e] at h;cases h)
  ·cases z
  ·cases z
  ·cases z
 ·obtain ⟨c,ba,f,bs,g,i,rest⟩:=h.dr.ex;exact ⟨c,ba,f,bs,k _ _ g (by intro _ z;cases z),k _ _ i (by intro _ z;cases z),rest⟩
theorem Wl.but (h:Wl Z C S R K B H p y E r d n U) (b:iU p H A) (D:Dr A p y):Wl Z C S R K B A p y E r d n U:=by
 obtain ⟨o,f⟩:=h.rc.at_.ob;obtain ⟨v,ba,g,bs,a,w,rest⟩:=h.dr.ex;have j:=h.kl;have l:=h.tl;refine ⟨⟨h.rc.at_.keep fun c u e s=>b c u e fun z=>?_,h.rc.nl,h.rc.ok⟩,D,h.tb.keep fun c u e n=>b c u e (h.dr.ne e n),fun c u e n t=>b _ _ (h.old c u e n t) n,h.na,h.np,h.nu,h.hp,h.hd,h.kl,h.tl,fun q m=>b _ _ (h.tu q m) (h.dr.ne (h.tu q m) (by intro _ z;cases z))⟩;subst z;rw [a] at e;rcases s with rfl|⟨_,z⟩|s|⟨_,z⟩|⟨_,_,z⟩|⟨_,_,z⟩
 ·rw [f] at a;cases a
 ·subst z;cases e
 ·rcases h.rc.at_.st.here s with ⟨_,_,_,h⟩|⟨_,h⟩|⟨i,h,x⟩
  ·rw [a] at h;cases h
  ·rw [a] at h;cases h
  ·rw [a] at h;cases h;have:(xf y ba g bs).length=4:=rfl;omega
 ·subst z;cases e
 ·subst z;cases e
 ·subst z;cases e
theorem Wl.ne (h:Wl Z C S R K a H p f c r d n U) (e:a b=some u):b≠r.a/\b≠r.pa/\b≠r.un:=
 ⟨cg e h.na,cg e h.np,cg e h.nu⟩
theorem Wl.ne2 (h:Wl Z C S R K l H p o m r d n U) (e:H b=some u) (f:∀ a,u≠.lst a) (j:∀ c fs,u≠.ins R c fs):b≠r.a/\b≠r.pa/\b≠r.un:=by
 obtain ⟨c,g⟩:=h.rc.at_.ob;obtain ⟨a,i,_⟩:=h.rc.at_.ps;refine ⟨fun z=>?_,fun z=>?_,fun z=>?_⟩
 ·rw [z,g] at e;cases e;exact j _ _ rfl
 ·rw [z,i] at e;cases e;exact f _ rfl
 ·rw [z,h.rc.at_.un] at e;cases e;exact f _ rfl
theorem Wl.rcn (h:Wl Z C S R K W H p Y X r d n U) (k:HQ Z C S R K r n H d' T) (nl:n+1≤900) (ok:Eb d') (O:d'.kn.length≤3) (P:d'.tr.length≤3):∃ g,g.a=r.a/\Wl Z C S R K W T p Y X g d' (n+1) U/\W9 r H T:=by
 obtain ⟨g,j,v,w,x,kk⟩:=k;obtain ⟨u,y⟩:=h.hp;obtain ⟨Q,i⟩:=h.hd;refine ⟨g,j,⟨⟨x,nl,ok⟩,?_,?_,fun b u e n t=>?_,by rw [j];exact h.na,by rw [v];exact h.np,by rw [w];exact h.nu,h.hp,h.hd,O,P,fun q m=>?_⟩,kk⟩
 ·obtain ⟨A,ba,B,bs,D,E,rest⟩:=h.dr.ex;obtain ⟨a,c,f⟩:=h.ne y;obtain ⟨F,G,I⟩:=h.ne i;exact ⟨A,ba,B,bs,kk _ _ D a c f,kk _ _ E F G I,rest⟩
 ·obtain ⟨J,l,L,M⟩:=h.tb;obtain ⟨a,c,f⟩:=h.ne2 l (by intro _ z;cases z) (by intro _ _ z;cases z);refine ⟨J,kk _ _ l a c f,L,fun s m=>?_⟩;rcases M s m with h|⟨N,e,o⟩
  ·exact .inl h
  ·obtain ⟨a,c,f⟩:=h.ne2 o (by intro _ z;cases z) (by intro _ _ z;cases z);exact .inr ⟨N,e,kk _ _ o a c f⟩
 ·obtain ⟨a,c,f⟩:=h.ne e;exact kk _ _ (h.old b u e n t) a c f
 ·obtain ⟨a,c,f⟩:=h.ne2 (h.tu q m) (by intro _ z;cases z) (by intro _ _ z;cases z);exact kk _ _ (h.tu q m) a c f
theorem Wl.add (h:Wl Z C S R K b H p f c r d n U) (e:H q=some (.tup a)):Wl Z C S R K b H p f c r d n ((q,a)::U):=
 ⟨h.rc,h.dr,h.tb,h.old,h.na,h.np,h.nu,h.hp,h.hd,h.kl,h.tl,fun q m=>by
  rcases aaf.mp m with rfl|m
  ·exact e
  ·exact h.tu q m⟩
def Dd (a b:Int) (kt:Str×List jj) (c d:Str) (e f:Ln) (g:Bool):Sd:=⟨a,b,[kt],[(c,⟨e,0,jT⟩),(d,⟨f,0,jT⟩)],g,.none⟩
structure sI (n:Ln):Prop where
 z:H_ n
 p:n.pg.length≤900
 c:(fQ n).length≤900
theorem yg.keep (E:yg H f a g) (D:Dr H p C) (n:f≠p) (k:∀ b u,H b=some u->b≠p->(∀ i,u≠.tbl i)->d b=some u):yg d f a g:=by obtain ⟨j,m,lt,o,s,v,w,x,y,z,A,B⟩:=E.ex;have l:∀ {q c},H q=some (.lst c)->d q=some (.lst c):=fun e=>k _ _ e (D.ne e (by intro _ h;cases h)) (by intro _ h;cases h);exact ⟨j,m,lt,o,s,v,k _ _ w n (by intro _ h;cases h),l x,y.map fun _ _ r=>r.tk fun b c e=>k _ _ e (D.ne e (by intro _ h;cases h)) (by intro _ h;cases h),l z,l A,B⟩
theorem yg.cs (l:yg H e a g):∃ b c d,iy H e (.str "lanes") (some (.ref c))/\iy H e (.str "kinds") (some (.ref b))/\H c=some (.lst (g.map V.str))/\H b=some (.lst d)/\Pd (Fq H) d a:=by
 obtain ⟨b,c,lt,m,d,n,f,h,i,j,o,p⟩:=l.ex;refine ⟨b,c,d,?_,?_,j,h,i⟩
 ·have:=iy.k (k:=kk "lanes") f;unfold cK at this;rw [uf,aac (by ext),aad rfl] at this;exact this
 ·have:=iy.k (k:=kk "kinds") f;unfold cK at this;rw [uf,aad rfl] at this;exact this
theorem Er {x y:V} {a:List V}:pL (x::y::a) 1=some y:=by unfold pL Jm;simp;rw [aad (by omega)];rfl
theorem Ue.kd (h:Ue t):k_ t.1 t.2:=⟨h.nm,by have:=h.ln;omega,fun f m=>(h.sm f m).ok,h.nd⟩
theorem HW (h:∀ f∈fs,Pa f):Pd pG fs (fs.map (·.2.1)):=by
 induction fs with
 |nil=>exact .nil
 |cons f fs a=>exact .cons ⟨Int.le_refl _,(h f (aan ..)).le⟩ (a fun x m=>h x (aag _ m))
theorem qQ.lnew (b:qQ sz d e):sI (gU d e f):=by have:=b.m1;have:=b.m2;have:=b.r1;have:=b.r2;exact ⟨⟨by show 2≤d;omega,by show d≤16;omega,b.r1,b.r2,fun p m c a=>by cases aai.mp m;cases a⟩,show 1≤900 by decide,show 0≤900 by decide⟩
theorem Gd.lno (b:qQ sz j l) (h:Gd sz j l n g m):sI n:=by
 obtain ⟨e,A,f,J,i⟩:=h.cls;have c:=h.le48 b;have:=b.m1;have:=b.m2;have:=b.r1;have:=b.r2;have len:=J.len;have d:lD n=0:=by unfold lD;rw [h.he];rfl
 rw [d] at len;exact ⟨⟨by rw [J.mo];omega,by rw [J.mo];omega,by rw [J.ro];omega,by rw [J.ro];omega,h.kd⟩,by omega,by omega⟩
theorem sI.sd (b:qQ sz e f) (a:sI n1) (d:sI n2):Eb (Dd e f kt l1 l2 n1 n2 st):=by
 have:=b.m1;have:=b.m2;have:=b.r1;have:=b.r2;refine ⟨⟨by show 2≤e;omega,by show e≤16;omega,b.r1,b.r2,show 2≤6 by decide,fun p m=>?_⟩,fun p m=>?_⟩
 ·rcases aaf.mp m with rfl|m
  ·exact ⟨a.z,a.p⟩
  ·cases aai.mp m;exact ⟨d.z,d.p⟩
 ·rcases aaf.mp m with rfl|m
  ·exact a.c
  ·cases aai.mp m;exact d.c
theorem Dq (b:qQ sz f g) (a:d.pg=f) (c:d.rm=g) (e:d.tr.length≤3) (h:∀ p∈d.tr,sI p.2.ln):Eb d:=by have:=b.m1;have:=b.m2;have:=b.r1;have:=b.r2;exact ⟨⟨by omega,by omega,by omega,by omega,by omega,fun p m=>⟨(h p m).z,(h p m).p⟩⟩,fun p m=>(h p m).c⟩
theorem Gd.took (b:qQ sz L M) (h:Gd sz L M n g N) (I:1≤g):sI (gb n).2/\(Cm.stand (gb n).2).length≤900/\(Cm.stand n).length≤900/\(gf (gb n).2).length=g-1/\(gf (gb n).2).filter lX=gf (gb n).2:=by
 obtain ⟨F,A,w,J,y⟩:=h.cls;have r:=h.le48 b;have:=b.m1;have:=b.m2;have:=b.r1;have:=b.r2;rcases J.take with ⟨z,_⟩|⟨c,H,_,d⟩
 ·omega
 obtain ⟨G,gt,i,B⟩:=d.cls;have j:=d.look;have l:∀ m:Ln,(Cm.stand m).length≤(fQ m).length:=fun m=>mj m.pg 0;have s:(fQ (gb n).2).length≤48:=by rw [i,abT];omega
 have len:=d.len;have E:(lD (gb n).2:Int)≤1:=by unfold lD;split <;> decide
 refine ⟨⟨⟨by rw [d.mo];omega,by rw [d.mo];omega,by rw [d.ro];omega,by rw [d.ro];omega,fun p m c o=>?_⟩,by omega,by omega⟩,aaj (l _) (by omega),aaj (l _) (by omega),?_,?_⟩
 ·have f:c∈fQ (gb n).2:=aaN.mpr ⟨p,m,o⟩;rw [i] at f;have v:c∈fQ n:=by rw [y];exact ac2 f
  obtain ⟨q,C,D⟩:=aaN.mp v;exact h.kd q C c D
 ·rw [j];unfold evs;rw [aah,zA,abT,w]
 ·rw [j];unfold evs;rw [List.filter_eq_self];intro x m;obtain ⟨e,_,rfl⟩:=aar.mp m;rfl
theorem Mx (b:qQ sz g h) (f:1+(fs.length:Int)=sz) (e:Pd pG fs i):zR fs 0 i (gU g h j):=by
 have:=b.m1;have:=b.r1;have:=b.z2;refine ⟨⟨by simp [gU],by show 2≤g;omega,show 1≤900 by decide,fun m a=>?_,fun t d=>by cases d⟩,.inr ?_,rfl,show 1≤800 by decide,show 0≤800 by decide,abd,(fun c m=>by cases m),e⟩
 ·cases aai.mp a;exact aaA _
 ·show (0:Int)+(1+(fs.length:Int))≤h;omega
theorem Hq (b:qQ sz n o) (j:k_ nm fs) (l:1+(fs.length:Int)=sz) (w:Od nm fs 0 q (gU n o s) v g):v=true/\sI g/\(Cm.stand g).length≤900/\(gf g).length=1/\(gf g).filter lX=gf g:=by
 have:=b.m1;have:=b.m2;have:=b.r1;have:=b.r2;have:=b.z2;cases v with
 | false=>obtain ⟨_,h,_⟩:=w;have h:o<0+(1+(fs.length:Int)):=h;omega
 | true=>
   obtain ⟨r,p,i,rfl⟩:=w;rcases i with ⟨e,_⟩|⟨_,_,h,_⟩
   ·have f:[]++[(⟨[],0,0⟩:Pg)]=r++[p]:=e;have a:=ac6 f rfl;obtain rfl:[]=r:=a.1;obtain rfl:(⟨[],0,0⟩:Pg)=p:=by simpa using a.2
    refine ⟨rfl,⟨⟨by show 2≤n;omega,by show n≤16;omega,b.r1,b.r2,fun p m c d=>?_⟩,show 1≤900 by decide,show 1≤900 by decide⟩,show 1≤900 by decide,rfl,rfl⟩;cases aai.mp m;cases aai.mp d;exact j
   ·have h:o<0+(1+(fs.length:Int)):=h;omega
section
variable {Z:LC} {C S R:Z0} {K:Z2} {H0 H H' H1:Hp} {p dc Tt:Z0} {r:oV} {d:Sd} {n:Nat} {U:List (Addr×List V)}
theorem Jb.keeps (lm:Jb H T h a g H1) (i:H1 f=none):Kp H (upd H1 f o):=fun b u e ne=>by have c:=lm.keep e ne;rw [b7 (cg c i)];exact c
theorem jO.kp (h:jO L b c f H) (k:Kp H H'):jO L b c f H':=by obtain ⟨e,a,g,i⟩:=h;exact ⟨e,a,k _ _ g (by intro _ z;cases z),k _ _ i (by intro _ z;cases z)⟩
theorem Ej {X:Cx} {j:Z0} (_:oY X j Tt) {L:Z9} {cl:Zk} {l:St} {Q:VK} (g:X.env.qual = "law.<locals>.") (h:jP H Tt qL Jj) (f:Je L∈Jj)
 (k:∀ b c,Kp H c->jP c Tt qL Jj->jO L cl ((X.mg "__name__").getD .none) b c->Q (.ref b) c):Qh X Tt (uB L) (zc L) (jb L) (Je L) cl l H Q:=by
 refine ⟨by rw [g];exact h.tab f,fun i m lm b e a=>?_⟩;rw [g] at lm ⊢;exact k b _ (Jb.keeps lm a) ((h.lam lm).same (cj.new a)) ⟨i,e,a_,cj.new a _ _ lm.code⟩
theorem jP.lst (h:jP H Tt qL Jj) (e:H c=some (.lst s)):jP (upd H c o) Tt qL Jj:=by
 obtain ⟨g,a,i,j⟩:=h;refine ⟨g,by rw [b7 (fun z=>by rw [z,e] at a;cases a)];exact a,i,fun f m=>?_⟩;rcases j f m with h|⟨l,q,b⟩
 ·exact .inl h
 ·exact .inr ⟨l,q,by rw [b7 (fun z=>by rw [z,e] at b;cases b)];exact b⟩
theorem R3 (h:t a H fun x b=>Q [x] b):mZ t qX a H Q:=h
theorem Ip (h:t a H fun x b=>[x].length≤sizeLine/\∀ p,b p=none->g (.ref p) a (upd b p (.lst [x])) (u D)):Ob (N7 (Pz (mZ t qX)) g) u D a H:=h
section
variable {sz mo ro mis:Int} {n1 n':Ln} {g:Nat} {kt:Str×List jj} {zs:List Int} {v:Bool}
theorem Gd.nofit (f:Full sz n1) (m:1+(kt.2.length:Int)=sz) (w:Od kt.1 kt.2 0 zs n1 v n'):v=false/\n'={ n1 with last:=some 0,tks:=n1.tks+1,mis:=n1.mis+1 }:=by
 cases v with
 |false=>exact ⟨rfl,w.1⟩
 | true=>
   obtain ⟨r,h,b,_⟩:=w;obtain ⟨c,i⟩:=f;rcases b with ⟨e,j⟩|⟨_,_,_,l⟩
   ·have:zK n1=h.us:=by unfold zK;rw [e];simp
    rw [this] at c;omega
   ·omega
theorem Gd.claim (b:qQ sz mo ro) (i:Gd sz mo ro n1 g mis) (f:Full sz n1) (c:1+(kt.2.length:Int)=sz) (j:Pd pG kt.2 zs):j6 kt.1 kt.2 0 n1=(none,{ n1 with last:=some 0,tks:=n1.tks+1,mis:=n1.mis+1 }):=by
 rcases tH (nm:=kt.1) (i.wr b c j) with ⟨e,_⟩|⟨r,h,_,_,_,w⟩
 ·exact e
 ·obtain ⟨z,_⟩:=Gd.nofit f c w;cases z
end
inductive OD (k0 kd:Str) (off:Bool):Str->Prop
 |no:kd≠k0->OD k0 kd off "nokind"
 |st:kd=k0->off=true->OD k0 kd off "stopped"
 |ok:kd=k0->off=false->OD k0 kd off ""
def Gm (Z:LC) (C S R:Z0) (K:Z2) (j:Hp) (p l m:Z0) (a:Z0) (sz h i:Int) (kt:Str×List jj) (o q:Str) (s:Ln) (off:Bool) (n g:Nat) (c:Int) (U:List (Addr×List V)) (v:Hp):Prop:=
 ∃ (e:oV) (b:Ln) (f:Nat),e.a=a/\f≤n+1/\Wl Z C S R K j v p l m e (Dd h i kt o q b s off) f U/\Gd sz h i b g c/\Full sz b
def U5 (f c:Z0) (H:Hp) (wd:Str):XK:=fun cls dd e=>∃ a b,cls=.ref a/\dd=some b/\e b=some (qm b [("word",.str wd)])/\cj H e/\(a=f/\wd = "nokind"∨a=c/\wd = "stopped")
theorem uK {e a b c:Z0} {wd:Str} (s:cj H H1) (g:jy H1 [("word",.str wd)] c H') (h:b=e/\wd = "nokind"∨b=a/\wd = "stopped"):U5 e a H wd (.ref b) (some c) H':=by obtain ⟨f,rfl⟩:=g;exact ⟨b,c,rfl,rfl,a_,s.trans (cj.new f),h⟩
section
variable {sz mo ro mis:Int} {n1 n2:Ln} {g:Nat} {k0:Str×List jj} {zs:List Int} {off:Bool} {l1 l2 kd wd:Str} {cN cSt bl:Z0}
theorem zZ (B:qQ sz mo ro) (l:1+(k0.2.length:Int)=sz) (o:Pd pG k0.2 zs) (G:k_ k0.1 k0.2) (i:Gd sz mo ro n1 g mis) (w:Full sz n1) (I:sI n2) (W:Wl Z C S R K H0 H p dc Tt r (Dd mo ro k0 l1 l2 n1 n2 off) n U) (nl:n+1≤900) (J:kd.length≤1000) (L:OD k0.1 kd off wd) :
 mK Z C S R K cN cSt [.ref r.a,.str l1,.str kd] H (fun v b=>v=.non/\wd = ""/\Gm Z C S R K H0 p dc Tt r.a sz mo ro k0 l1 l2 n2 off n g (mis+1) U b) (U5 cN cSt H wd):=by
 refine ⟨r,_,n,l1,kd,0,(l1,⟨n1,0,jT⟩),rfl,W.rc,rfl,rfl,J,?_⟩;cases L with
 |no h=>exact .inl ⟨fun q m=>by cases aai.mp m;exact fun z=>h z.symm,fun x y b s c=>uK s c (.inl ⟨rfl,rfl⟩)⟩
 |st h f=>exact .inr ⟨0,k0,rfl,h.symm,by subst f;rw [aad (show (Dd mo ro k0 l1 l2 n1 n2 true).still=true from rfl)];exact fun x y b s c=>uK s c (.inr ⟨rfl,rfl⟩)⟩
 | ok h f=>subst f;refine .inr ⟨0,k0,rfl,h.symm,?_⟩;rw [aac (show ¬ (Dd mo ro k0 l1 l2 n1 n2 false).still=true from aaz)];have A:=i.claim B w l o;have a:=i.miss;refine ⟨G,(i.wr B l o).co,fun b j=>?_⟩;have e:j6 k0.1 k0.2 ((l1,(⟨n1,0,jT⟩:Tk)):Str×Tk).2.ck ((l1,(⟨n1,0,jT⟩:Tk)):Str×Tk).2.ln=(none,{ n1 with last:=some 0,tks:=n1.tks+1,mis:=n1.mis+1 }):=A;rw [e] at j ⊢;obtain ⟨D,E,F,_⟩:=W.rcn (d':=Dd mo ro k0 l1 l2 { n1 with last:=some 0,tks:=n1.tks+1,mis:=n1.mis+1 } n2 false) j nl (sI.sd B (a.lno B) I) (show 1≤3 by decide) (show 2≤3 by decide);exact ⟨rfl,rfl,D,_,_,E,aae _,F,a,w⟩
theorem Bx (B:qQ sz mo ro) (i:1+(k0.2.length:Int)=sz) (F:Pd pG k0.2 zs) (G:k_ k0.1 k0.2) (j:Gd sz mo ro n1 g mis) (l:Full sz n1) (I:sI n2) (W:Wl Z C S R K H0 H p dc Tt r (Dd mo ro k0 l1 l2 n1 n2 off) n U) (J:H bl=some (.tup (zs.map V.int))) (nl:n+1≤900) (L:kd.length≤1000) (M:OD k0.1 kd off wd) :
 mO Z C S R K cN cSt [.ref r.a,.str l1,.str kd,.ref bl] H (fun v c=>v=.non/\wd = ""/\Gm Z C S R K H0 p dc Tt r.a sz mo ro k0 l1 l2 n2 off n g (mis+1) U c) (U5 cN cSt H wd):=by
 refine ⟨r,_,n,l1,kd,bl,0,(l1,⟨n1,0,jT⟩),zs,rfl,W.rc,J,rfl,rfl,L,?_⟩;cases M with
 |no h=>exact .inl ⟨fun q m=>by cases aai.mp m;exact fun z=>h z.symm,fun o x c s e=>uK s e (.inl ⟨rfl,rfl⟩)⟩
 |st h f=>exact .inr ⟨0,k0,rfl,h.symm,by subst f;rw [aad (show (Dd mo ro k0 l1 l2 n1 n2 true).still=true from rfl)];exact fun o x c s e=>uK s e (.inr ⟨rfl,rfl⟩)⟩
 | ok h f=>subst f;refine .inr ⟨0,k0,rfl,h.symm,?_⟩;rw [aac (show ¬ (Dd mo ro k0 l1 l2 n1 n2 false).still=true from aaz)];have a:=j.miss;refine ⟨G,j.wr B i F,rfl,rfl,fun b N w c y=>?_⟩;obtain ⟨rfl,rfl⟩:=Gd.nofit l i w;obtain ⟨A,D,E,_⟩:=W.rcn (d':=Dd mo ro k0 l1 l2 { n1 with last:=some 0,tks:=n1.tks+1,mis:=n1.mis+1 } n2 false) y nl (sI.sd B (a.lno B) I) (show 1≤3 by decide) (show 2≤3 by decide);exact ⟨rfl,rfl,A,_,_,D,aae _,E,a,l⟩
end
end
noncomputable abbrev Mj:List Str:=["_law_script","_law_d","_law_c","_law_many","_law_wide","_law_rec","_law_lane","_law_other","_law_title","_law_fields","_law_low","_law_given","_law_turn","_law_missed","_law_off","_law_kind","_law_asks","_law_word_here"]
theorem iQ:cA Mj ["_law_script"] (bK (top 121)):=by ext
theorem jX:fX (jC P w) X (fun _ _ _=>False):=fun a b H s e c I h=>by obtain ⟨_,_,_,_,_,_,_,_,_,_,q⟩:=h;exact q.elim
noncomputable def Ow (n:Nat):List (Str×Addr):=[("_law_rec",n+1+1+1+1),("_law_lane",n+1+1),("_law_kind",n+1)]
noncomputable def Oq (n:Nat):List (Str×Addr):=[("_law_rec",n+1+1+1+1),("_law_low",n+1+1+1),("_law_lane",n+1+1),("_law_kind",n+1)]
noncomputable def X3:List V->List V->List V
 |[x],[a,b]=>[x,a,b]
 |_,_=>[]
noncomputable def gR:List Value->List Value->List Value
 |[x],[a,b]=>[x,a,b]
 |_,_=>[]
noncomputable def WX:List V->List V->List V
 |[x,a],[b]=>[x,a,b]
 |_,_=>[]
noncomputable def gO:List Value->List Value->List Value
 |[x,a],[b]=>[x,a,b]
 |_,_=>[]
structure Jz (K:Z2) (C:Z0) (m:Str) (ps:Zd) (f:Z0) (fd:Z3):Prop where
 M:Meth K C m f
 b:Binds K fd ps []
structure QS (K:Z2) (cN cSt cB cS cM:Z0):Prop where
 n1:mroIn K cN (.ref cB)=some false
 n2:mroIn K cN (.ref cS)=some false
 n3:mroIn K cN (.ref cM)=some true
 n4:yf K cN "word"
 s1:mroIn K cSt (.ref cB)=some false
 s2:mroIn K cSt (.ref cS)=some true
 s4:yf K cSt "word"
abbrev E1:XK:=fun _ _ _=>False
abbrev WY (Z:LC) (C S R:Z0) (K:Z2) (b a:Z0) (E:XK):TE:=vW R "claim" (mK Z C S R K b a) [] E (kJ 2) (mZ (kJ 1) (mZ (kJ 0) qX))
abbrev X8 (Z:LC) (C S R:Z0) (K:Z2) (b a:Z0) (E:XK):TE:=vW R "write" (mO Z C S R K b a) [] E (kJ 3) (mZ (kJ 1) (mZ (kJ 0) (mZ (kJ 2) qX)))
def JZ (Z:LC) (C S R:Z0) (K:Z2) (c a d e cM:Z0) (n:Nat) (f:Z6):St->List V->Hp->VK->Prop:=fun b vs H Q=>Ge K d e cM Dn [15,6,5] (WY Z C S R K c a) (Ow n) f b vs H Q∨Ge K d e cM Eh [15,6,10,5] (X8 Z C S R K c a) (Oq n) f b vs H Q
theorem Hx {Z:LC} {C S R:Z0} {K:Z2} {c a h i cM d e:Z0} {n:Nat} {f:Z6} {g:St} {H:Hp} {Q Qv:VK} {Ev:XK} {x:V} (b:x∈[V.ref d,V.ref e]) (l:jO Dn (Ow n) f d H) (m:jO Eh (Oq n) f e H) (o:WY Z C S R K c a Ev (sJ [15,6,5] g) H Qv) (p:X8 Z C S R K c a Ev (sJ [15,6,10,5] g) H Qv) (j:TJ K h i cM Q Qv Ev):JZ Z C S R K c a h i cM n f g [x] H Q:=by
 rcases aaf.mp b with rfl|b
 ·exact .inl ⟨d,Qv,Ev,rfl,l,o,j⟩
 ·cases aai.mp b;exact .inr ⟨e,Qv,Ev,rfl,m,p,j⟩
theorem jO.but (h:jO L e g f H) (D:Dr H p l) (b:iU p H i):jO L e g f i:=by obtain ⟨j,a,c,d⟩:=h;exact ⟨j,a,b _ _ c (D.ne c (by intro _ z;cases z)),b _ _ d (D.ne d (by intro _ z;cases z))⟩
theorem jO.lst (h:jO L d g f H) (e:H i=some (.lst l)):jO L d g f (upd H i o):=by obtain ⟨j,a,b,c⟩:=h;exact ⟨j,a,by rw [b7 (fun z=>by rw [z,e] at b;cases b)];exact b,by rw [b7 (fun z=>by rw [z,e] at c;cases c)];exact c⟩
theorem Gm.same (h:Gm Z C S R K c p e f a sz i j kt l m o off n g b U H) (s:cj H d):Gm Z C S R K c p e f a sz i j kt l m o off n g b U d:=by obtain ⟨r,q,v,w,x,W,y⟩:=h;exact ⟨r,q,v,w,x,W.same s,y⟩
def JH (K:Z2) (d:Z0) (e:Zf):Sp:=fun vs H Q _=>∃ (a:Z0) (b:List Int),vs=[.ref a]/\dR K H a (b.map V.int)/\b.length≤63/\H d=some (.tbl e)/\∀ c,Q (.bl true) c
theorem Oc {K:Z2} {mg:Zc} {base:Z7} {f c Tt fB fP fO fS fA fCa fRI fLn fKi fCo fWr fCl fSt fGo fTk fLe cN cSt cB cS cM:Z0} {fdB fdP fdO fdS fdA fdCa fdRI fdLn fdKi fdCo fdWr fdCl fdSt fdGo fdTk fdLe:Z3} {oc kV doc pm ct:Z6} {od an:Zg} {osl:Zm} {ps:Zf}
 (lk:K.lookup f=some ⟨oc,od,.func (fnOf "law" "law" (cU (top 121)) (cO (top 121)) (bK (top 121)) .none kV doc pm an (.ref c) ct),osl⟩) (hcd:codeIn K (.ref c) "law" = true)
 (HT:CodeHd base c Tt) (HB:base.BuiltinsAt mg Tt) (HG:mainGlobals≠Tt) (tri:TriplesOk ps.toList) (cn:∀ lp∈Jj,codeAmong lp ps.toList=none)
 (T:Txt K mg) (RZ:RZ K mg R) (BR:QS K cN cSt cB cS cM)
 (DB:gK K mg "_law_begin" (top 112) ["_law_script"] fB fdB) (DP:gK K mg "_law_pick" (top 113) ["_law_d","_law_many"] fP fdP) (DO:gK K mg "_law_of" (top 114) ["_law_d","_law_things"] fO fdO) (DS:gK K mg "_law_same" (top 115) ["_law_found","_law_due"] fS fdS)
 (DCa:gK K mg "_law_cast" (top 120) ["_law_d"] fCa fdCa) (GCa:cD P w K mg base dI 6 fCa fdCa ["_law_d"] DY)
 (MkR:Mk K R fRI) (GRI:cD P w K mg base dI 4 fRI fdRI ["self","pages","room"] (T7 Z C S R K)) (kbR:jr K fdRI ["self","pages","room"] ["pages","room"] gR X3)
 (mLn:Meth K R "lane" fLn) (GLn:cD P w K mg base (jC P w) 14 fLn fdLn ["self","name","over"] (yN Z C S R K)) (kbL:jr K fdLn ["self","name","over"] ["over"] gO WX)
 (MKi:Jz K R "kind" ["self","name","fields"] fKi fdKi) (GKi:cD P w K mg base (jC P w) 14 fKi fdKi ["self","name","fields"] (zf Z C S R K))
 (MCo:Jz K R "counts" ["self","lane"] fCo fdCo) (GCo:cD P w K mg base dI 2 fCo fdCo ["self","lane"] (Qi Z C S R K))
 (MWr:Jz K R "write" ["self","lane","kind","values"] fWr fdWr) (GWr:cD P w K mg base (jC P w) 14 fWr fdWr ["self","lane","kind","values"] (mO Z C S R K cN cSt))
 (MCl:Jz K R "claim" ["self","lane","kind"] fCl fdCl) (GCl:cD P w K mg base (jC P w) 14 fCl fdCl ["self","lane","kind"] (mK Z C S R K cN cSt))
 (MSt:Jz K R "stop" ["self"] fSt fdSt) (GSt:cD P w K mg base (jC P w) 14 fSt fdSt ["self"] (zp Z C S R K)) (MGo:Jz K R "go" ["self"] fGo fdGo) (GGo:cD P w K mg base (jC P w) 14 fGo fdGo ["self"] (Jx Z C S R K))
 (MTk:Jz K R "take" ["self","lane"] fTk fdTk) (GTk:cD P w K mg base (jC P w) 14 fTk fdTk ["self","lane"] (yM Z C S R K)) (MLe:Jz K R "__len__" ["self"] fLe fdLe) (GLe:cD P w K mg base dI 5 fLe fdLe ["self"] (RB Z C S R K))
 (GA:rR P w K mg base dI 16 fA fdA ["_law_ask_here"] (Ds P w K mg base 15 cB cS cM)) (hA:mg "_law_ask" = some (.ref fA)) (kA:keepIn K (.ref fA)=true) (bA:Binds K fdA ["_law_ask_here"] []) :
 cD P w K mg base dI 17 f (fnOf "law" "law" (cU (top 121)) (cO (top 121)) (bK (top 121)) .none kV doc pm an (.ref c) ct) ["_law_script"] (JH K Tt ps):=by
 have GB:cD P w K mg base dI 1 fB fdB ["_law_script"] (yP K):=G6 DB.F T;have GP:cD P w K mg base dI 1 fP fdP ["_law_d","_law_many"] o9:=mH DP.F T;have GO:cD P w K mg base dI 2 fO fdO ["_law_d","_law_things"] (I_ K):=FQ DO.F T DP;have GS:cD P w K mg base dI 5 fS fdS ["_law_found","_law_due"] (spS K 5):=Hk DS T 5;refine vO lk hcd iQ (by ext) fun A ag s H vs Q E hr h=>?_;obtain ⟨sa,ns,rfl,hS,a4,bp,k⟩:=h;have hu:=oN hr;have ak:dm 1 _:=hr.mono (by decide);have am:dm 2 _:=hr.mono (by decide);have ay:dm 5 _:=hr.mono (by decide);have aY:dm 6 _:=hr.mono (by decide);have aa:dm 14 _:=hr.mono (by decide);have CT:oY (iY dI P w K mg base Mj "law" (bK (top 121)) f (.ref c) A ag s H E) c Tt:=⟨rfl,HT,HB,HG⟩;have h1:∀ q∈Ow s.heap.objs.size,(PyProof.Rows.envOfC "law" (bK (top 121)) s.heap.objs.size f (.ref c)).cells.lookup q.1=some q.2:=by
  intro q hq;rcases aaf.mp hq with rfl|hq
  ·rfl
  ·rcases aaf.mp hq with rfl|hq
   ·rfl
   ·cases aai.mp hq;rfl
 have h2:∀ q∈Oq s.heap.objs.size,(PyProof.Rows.envOfC "law" (bK (top 121)) s.heap.objs.size f (.ref c)).cells.lookup q.1=some q.2:=by
  intro q hq;rcases aaf.mp hq with rfl|hq
  ·rfl
  ·rcases aaf.mp hq with rfl|hq
   ·rfl
   ·rcases aaf.mp hq with rfl|hq
    ·rfl
    ·cases aai.mp hq;rfl
 have bf:∀ x∈NC,x∈(Ow s.heap.objs.size).map (·.1):=(show ∀ x∈NC,x∈(Ow 0).map (·.1) by ext);have bg:∀ x∈NW,x∈(Oq s.heap.objs.size).map (·.1):=(show ∀ x∈NW,x∈(Oq 0).map (·.1) by ext);have h3:∀ x∈NC,(bK (top 121)).names.lookup x=some .cell:=by ext
 have h4:∀ x∈NW,(bK (top 121)).names.lookup x=some .cell:=by ext
 refine ⟨_,(b8 (cQ (i:=1) iQ.nd rfl (.inl rfl) (jt DB GB ak (aK (pv 0) b_))) (b8 (cQ (i:=2) iQ.nd rfl (.inl rfl) (jt DCa GCa aY (aK (pv 1) b_))) (b8 (NB (i:=3) (j:=4) rfl iQ.nd rfl rfl (by decide) rfl rfl (aK (dN gn cu (jt DP GP ak (aK (pv 1) (aK cu b_)))) (aK (dN gn cu (jt DP GP ak (aK (pv 1) (aK cu b_)))) b_)) rfl) (b8 (cQ (i:=5) iQ.nd rfl (.inr rfl) (n_ (E:=E0) MkR GRI ay rfl RZ.mg kbR cZ (i_ (pv 3) (i_ (pv 4) qF)))) (b8 (lH (eZ (aK (dY eV (eN hu (pv 2) cH (fun _ _=>rfl)) cu (fun _ _=>rfl)) (aK (dY eV (eN hu (pv 2) cH (fun _ _=>rfl)) cu (fun _ _=>rfl)) b_))) (h_ rfl (cJ (cF (i:=6) iQ.nd rfl (.inr rfl)) (cJ (cF (i:=7) iQ.nd rfl (.inl rfl)) fZ)))) (b8 (d8 (vN (E:=E1) (pv 5) RZ.c mLn GLn aa kbL jX (aK (pv 6) b_) (i_ jf qF))) (b8 (d8 (vN (E:=E1) (pv 5) RZ.c mLn GLn aa kbL jX (aK (pv 7) b_) (i_ (iG iK (jt DP GP ak (aK (pv 1) (aK cu b_))) cu (dw _)) qF))) (b8 (lH (dY eV (eN hu (pv 2) cH (fun _ _=>rfl)) cu (fun _ _=>rfl)) (h_ rfl (cJ (cF (i:=8) iQ.nd rfl (.inl rfl)) (cJ (cF (i:=9) iQ.nd rfl (.inl rfl)) fZ)))) (b8 (d8 (dg (E:=E1) (pv 5) RZ.c MKi.M GKi aa MKi.b .nil jX (aK (pv 8) (aK (pv 9) b_)))) (b8 (cQ (i:=10) iQ.nd rfl (.inr rfl) (gW iC (by rfl) T.tuple jx (aK (iH (g:=Cp K 3 (lF (dM 0) (lF (dM 1) (lF (dM 2) BP)))) (own:=["_law_word_here","_law_least","_law_most"]) (js:=[]) (N':=["_law_word_here","_law_least","_law_most"]) (dq.of (osc:=bK (top 121)) (N:=Mj) rfl rfl (by ext)) rfl (pZ (pv 9)) (fun _ _ _ _ _=>(h_ rfl (cJ (cF (i:=0) (show List.Nodup (["_law_word_here","_law_least","_law_most"]:Zd) by ext) rfl (.inl rfl) (.inr rfl)) (cJ (cF (i:=1) (show List.Nodup (["_law_word_here","_law_least","_law_most"]:Zd) by ext) rfl (.inl rfl) (.inr rfl)) (cJ (cF (i:=2) (show List.Nodup (["_law_word_here","_law_least","_law_most"]:Zd) by ext) rfl (.inl rfl) (.inr rfl)) fZ))))) (fun _ _ _ _ _=>eX) (fun _ _ _ _ _=>pv 1)) b_))) (b8 (cQ (i:=11) iQ.nd rfl (.inl rfl) cu) (b8 (iJ ac5 rfl (jn rfl T.range (aK cu b_)) (cF (i:=12) iQ.nd rfl (.inl rfl)) (c7 (dW (dz iK (dY gZ (dg (E:=E0) (pv 5) RZ.c MCo.M GCo am MCo.b .nil cZ (aK (pv 6) b_)) cu (fun _ _=>rfl)) cu (dw _)) (c7 (cQ (i:=11) iQ.nd rfl (.inl rfl) (dN gn (pv 11) (gW rE (by rfl) T.int nH (aK (iG zN (dg (E:=E1) (pv 5) RZ.c MWr.M GWr aa MWr.b .nil jX (aK (pv 6) (aK (pv 8) (aK (pv 10) b_)))) jf (dw _)) b_))))) cV))) (b8 (dW (PW.pt (yU (iZ (ik (jt DS GS ay (aK (dg (E:=E0) (pv 5) RZ.c MCo.M GCo am MCo.b .nil cZ (aK (pv 6) b_)) (aK (eZ (aK (pv 11) (aK cu (aK cu (aK cu b_))))) b_))))) (uL (dz tK (pv 11) (dN lA (pv 3) (dN uW (pv 4) (dN gn cu (d9 dD (by rfl) T.len gF (aK (pv 9) b_))))) (dw _))))) (c7 dC) cV) (b8 (cQ (i:=13) iQ.nd rfl (.inl rfl) cu) (b8 (iJ ac5 rfl (jn rfl T.range (aK (dN gn cu (jt DP GP ak (aK (pv 1) (aK cu b_)))) b_)) (cF (i:=12) iQ.nd rfl (.inl rfl)) (b8 (cQ (i:=14) iQ.nd rfl (.inl rfl) (iG iK (jt DP GP ak (aK (pv 1) (aK cu b_))) cu (dw _))) (b8 (dW (ik (pv 14)) (c7 (d8 (du (E:=E1) (pv 5) RZ.c MSt.M GSt aa MSt.b .nil jX))) (c7 (d8 (du (E:=E1) (pv 5) RZ.c MGo.M GGo aa MGo.b .nil jX)))) (b8 (cQ (i:=15) iQ.nd rfl (.inr rfl) (jt DO GO am (aK (pv 1) (aK (gD (aK (pv 8) (aK (pv 8) (aK (dY gZ (dY eV (eN hu (pv 2) cH (fun _ _=>rfl)) cu (fun _ _=>rfl)) cu (fun _ _=>rfl)) b_)))) b_)))) (b8 (cQ (i:=16) iQ.nd rfl (.inl rfl) (gD (aK (El CT rfl rfl) b_))) (b8 (d8 (jM aa0 aa7 abe gY (pv 16) (aK (El CT rfl rfl) b_))) (b8 (cQ (i:=17) iQ.nd rfl (.inl rfl) (nA (dz tK (pv 15) (pv 8) (dw _)) cH (nA (ik (pv 14)) cH cH))) (b8 (dW (iZ (ik (jt DS GS ay (aK (Es (E:=E0) (r:=JZ Z C S R K cN cSt cB cS cM s.heap.objs.size ((mg "__name__").getD .none)) GA hr (by rfl) hA kA bA cZ (fun bB σ H s' vs Q I h=>by
    rcases h with h|h
    ·exact JN CT O8 (fun _ _=>rfl) h1 bf (fun _=>rfl) h3 rfl rfl rfl (fun f c' A ag s H E hr=>dg (E:=E) (pv 2) RZ.c MCl.M GCl hr MCl.b .nil (JD fun _ _ _ h=>h) (aK (pv 1) (aK (pv 0) b_))) I h
    ·exact JN CT Lr (fun _ _=>rfl) h2 bg (fun _=>rfl) h4 rfl rfl rfl (fun f c' A ag s H E hr=>dg (E:=E) (pv 3) RZ.c MWr.M GWr hr MWr.b .nil (JD fun _ _ _ h=>h) (aK (pv 1) (aK (pv 0) (aK (pv 2) b_)))) I h) (aK (jt DO GO am (aK (pv 1) (aK (pv 16) b_))) b_)) (aK (gD (aK (pv 17) (aK j9 b_))) b_))))) (c7 dC) cV) (b8 (cQ (i:=13) iQ.nd rfl (.inl rfl) (dN gn (pv 13) (gW rE (by rfl) T.int nH (aK (iG iK (pv 17) cH (dw _)) b_)))) (c7 (dW (iZ (ik (jt DS GS ay (aK (gD (aK (dg (E:=E0) (pv 5) RZ.c MCo.M GCo am MCo.b .nil cZ (aK (pv 6) b_)) (aK (dg (E:=E0) (pv 5) RZ.c MCo.M GCo am MCo.b .nil cZ (aK (pv 7) b_)) b_))) (aK (gD (aK (eZ (aK (pv 11) (aK cu (aK cu (aK (pv 13) b_))))) (aK (eZ (aK cu (aK cu (aK cu (aK cu b_))))) b_))) b_))))) (c7 dC) cV))))))))))) (b8 (d8 (du (E:=E1) (pv 5) RZ.c MGo.M GGo aa MGo.b .nil jX)) (b8 (d8 (dg (E:=E1) (pv 5) RZ.c MTk.M GTk aa MTk.b .nil jX (aK (pv 6) b_))) (c7 (cI (kh (iG zN (dg (E:=E1) (pv 5) RZ.c MWr.M GWr aa MWr.b .nil jX (aK (pv 7) (aK (pv 8) (aK (pv 10) b_)))) jf (dw _)) (qe (iG iK (d9 (Bb (E:=E0) ⟨MLe.M.at_,MLe.M.fn,GLe,MLe.b,cZ⟩ aY) (by rfl) T.len gF (aK (pv 5) b_)) (pv 11) (dw _))))))))))))))))))))))),?_⟩;refine ⟨_,rfl,sa,ns,rfl,hS,a4,fun p dc H0 D0 s0 bC=>?_⟩;have bh:jP H0 Tt qL Jj:=⟨ps,s0 _ _ bp,tri,fun lp m=>.inl (cn lp m)⟩;dsimp only [dM,List.set,L2.start];refine ⟨_,rfl,p,dc,rfl,D0,fun cc aQ ws H1 ca co aq D1 t1=>?_⟩;refine ⟨_,rfl,p,dc,3,rfl,D1,by decide,by decide,fun m0 H2 a0 a1 D2 t2=>⟨_,_,rfl,rfl,_,rfl,p,dc,8,rfl,D2,by decide,by decide,fun w0 H3 b0 b1 D3 t3=>⟨_,_,rfl,rfl,_,_,rfl,?_⟩⟩⟩;dsimp only [dM,List.set];refine ⟨_,rfl,_,rfl,fun x dx hx aR bD=>?_⟩;refine ⟨x,dx,2+m0,5+w0,rfl,a_,by omega,by omega,by omega,by omega,fun r H4 ra np nu rc k4=>⟨rfl,?_⟩⟩;subst ra;have aD:cj H3 (upd (upd H3 dx (.own r.a)) r.a (.ins R dx [])):=eO hx aR (fun b u e _=>e);have S4:cj H3 H4:=eO hx aR k4;obtain ⟨O,Y,wr,rfl⟩:∃ O Y r,ws=O::Y::r:=by
  have:=co.wl
  match ws,this with
  |[],h=>simp at h
  |[_],h=>simp at h
  |a::b::r,_=>exact ⟨a,b,r,rfl⟩
 obtain ⟨k0,k1,k2,rfl⟩:∃ a b c,aQ=[a,b,c]:=by
  have:=co.kl
  match aQ,this with
  |[a,b,c],_=>exact ⟨a,b,c,rfl⟩
 have bi:=co.wo O (by simp);have bj:=co.wo Y (by simp);have bm:O≠Y:=fun z=>by have:=co.wd;rw [z] at this;simp at this
 have ko:=co.ko k0 (by simp);have bG:k1.1≠k0.1:=fun z=>by have:=co.kd;rw [aaE,aaE,z] at this;simp at this
 have bn:=(co.ko k1 (by simp)).nm;have B:qQ (1+(k0.2.length:Int)) (2+m0) (5+w0):=⟨by omega,by have:=ko.ln;omega,by omega,by omega,by omega,by omega⟩;generalize bP:(2+m0:Int)=F at *;generalize bQ:(5+w0:Int)=G at *;have aE:yg H3 cc [k0,k1,k2] (O::Y::wr):=(ca.keep D1 aq fun b u e n _=>t2 _ _ e n).keep D2 aq fun b u e n _=>t3 _ _ e n;have W0:Wl Z C S R K H3 H4 p dc Tt r (JW F G) 0 []:=by have dk:∀ c u,H1 c=some u->(∀ be,u≠.dK be)->H4 c=some u:=fun c u e n=>S4 _ _ (t3 _ _ (t2 _ _ e (D1.ne e n)) (D2.ne (t2 _ _ e (D1.ne e n)) n));obtain ⟨ms,ba,br,bs,e1,e2,_⟩:=D3.ex;exact ⟨⟨rc,aaA _,Dq B rfl rfl (aaA _) (fun p m=>by cases m)⟩,D3.mono S4,(((bh.keep fun c u e n=>t1 _ _ e (D0.ne e n)).keep dk)),fun b u e _ _=>S4 _ _ e,hx,dh aD np,dh aD nu,⟨_,e1⟩,⟨_,e2⟩,aaA _,aaA _,fun q m=>by cases m⟩
 clear k4 rc np nu aD S4;dsimp only [dM,List.set];obtain ⟨lk,ll,ks,g1,g2,el,ek,pk⟩:=(aE.keep D3 aq W0.old).cs;refine ⟨_,rfl,cc,_,rfl,g1,ll,_,_,_,rfl,rfl,dR.of el,lV,_,rfl,cc,_,rfl,g1,ll,_,_,_,rfl,rfl,dR.of el,Er,(by ext),fun tp a8=>⟨tp,_,rfl,eE.of a_,rfl,_,_,rfl,_,_,rfl,rfl,?_⟩⟩;have W1:=W0.same (cj.new (o:=.tup [.str O,.str Y]) a8);generalize upd H4 tp (.tup [.str O,.str Y])=H5 at W1 ⊢;clear lk ll ks g1 g2 el ek pk W0;dsimp only [dM,List.set];obtain ⟨y,D⟩:=W1.rc.at_.ob;refine ⟨_,rfl,r.a,y,_,rfl,D,rfl,_,rfl,r,_,0,O,false,rfl,W1.rc,(fun q m=>by cases m),bi,show 0<6 by decide,fun H6 rn=>?_⟩;obtain ⟨r1,aL,W2,_⟩:=W1.rcn rn (by decide) (Dq B rfl rfl (show 1≤3 by decide) (fun p m=>by cases aai.mp m;exact B.lnew)) (aaA _) (show 1≤3 by decide);rw [← aL];clear W1 rn D y;obtain ⟨y,D⟩:=W2.rc.at_.ob;refine ⟨_,rfl,r1.a,y,_,rfl,D,rfl,_,rfl,_,rfl,p,dc,2,rfl,W2.dr,by decide,by decide,fun o2 H7 o0 o1 D7 t7=>?_⟩;have W3:=W2.but t7 D7;refine ⟨rfl,r1,_,_,Y,_,rfl,W3.rc,(fun q m=>by cases aai.mp m;exact bm),bj,show 1<6 by decide,fun H8 rn=>?_⟩;obtain ⟨r2,aM,W4,_⟩:=W3.rcn rn (by decide) (Dq B rfl rfl (show 2≤3 by decide) (fun p m=>by
  rcases aaf.mp m with rfl|m
  ·exact B.lnew
  ·cases aai.mp m;exact B.lnew)) (aaA _) (show 2≤3 by decide);rw [← aM];clear W2 W3 rn D y t7 D7;generalize bR:decide (V.int o2=V.int 0)=ov at W4;obtain ⟨lk,ll,ks,g1,g2,el,ek,pk⟩:=(aE.keep D3 aq W4.old).cs;obtain ⟨x0,x1,x2,rfl,bq,aN⟩:∃ x0 x1 x2,ks=[x0,x1,x2]/\Fq H8 x0 k0/\Fq H8 x1 k1:=by
  cases pk with
  | cons a pk=>
    cases pk with
    | cons b pk=>
      cases pk with
      |cons c pk=>cases pk;exact ⟨_,_,_,rfl,a,b⟩
 obtain ⟨b0,fa,xs,rfl,a5,ao,pf⟩:=bq;refine ⟨_,rfl,cc,_,rfl,g2,lk,_,_,_,rfl,rfl,dR.of ek,lV,b0,_,rfl,eE.of a5,rfl,_,_,rfl,_,_,rfl,rfl,?_⟩;have W5:=W4.add ao;clear W4 lk ll g1 g2 el ek pk x1 x2 aN;dsimp only [dM,List.set];obtain ⟨y,D⟩:=W5.rc.at_.ob;refine ⟨_,rfl,r2.a,y,_,rfl,D,rfl,_,rfl,_,rfl,r2,_,_,k0.1,fa,xs,k0.2,rfl,W5.rc,(fun q m=>by cases m),ko.nm,ao,pf,by have:=ko.ln;omega,fun f m=>(ko.sm f m).ok,ko.nd,show 0<8 by decide,fun H9 rn=>?_⟩;obtain ⟨r3,aO,W6,a6⟩:=W5.rcn rn (by decide) (sI.sd (kt:=k0) (l1:=O) (l2:=Y) (n1:=gU F G false) (n2:=gU F G ov) (st:=false) B B.lnew B.lnew) (show 1≤3 by decide) (show 2≤3 by decide);rw [← aO];have W6:Wl Z C S R K H3 H9 p dc Tt r3 (Dd F G k0 O Y (gU F G false) (gU F G ov) false) 3 [(fa,xs)]:=W6;have aF:Paired (jg H9) xs k0.2:=ig pf fun b ys e=>by obtain ⟨U,n2,n3⟩:=W5.ne2 e (by intro _ z;cases z) (by intro _ _ z;cases z);exact a6 _ _ e U n2 n3
 clear W5 a6 rn D y pf ao a5;have xl:=aaZ aF;have bH:=ko.ln;have ao:=W6.tu (fa,xs) (aan ..);refine ⟨_,rfl,fa,rfl,⟨_,eE.of ao⟩,?_⟩;refine pO (K:=K) (a:=fa) (xs:=xs) (fun i ys M H'=>H'=H9/\(∃ a b c,M=[a,b,c])/\ys=((k0.2.map (·.2.1)).take i).map V.int) (aaj (show xs.length≤3 by omega) (by decide)) ⟨rfl,⟨_,_,_,rfl⟩,rfl⟩ (fun i ys M H' _ z=>by rw [z.1];exact eE.of ao) ?_ ?_
 ·rintro i x ys M H' hx hy ⟨rfl,⟨a,b,c,rfl⟩,rfl⟩ N hN;obtain ⟨f',bu,b',rfl,bv⟩:=jo aF hx;refine ⟨b',_,rfl,eE.of bv,rfl,_,_,rfl,_,_,rfl,_,_,rfl,rfl,?_⟩;refine ⟨_,rfl,hN _ _ _ (by simpa using hy) ⟨rfl,⟨_,_,_,rfl⟩,?_⟩⟩;rw [iI (show (k0.2.map (·.2.1))[i]?=some f'.2.1 by rw [aau,bu];rfl),aaF];rfl
 ·rintro ys M H' hy ⟨rfl,_,rfl⟩;rw [xl,← aah (f:=fun f:jj=>f.2.1),aaT];refine ⟨by rw [aah,aah];exact aaj (show k0.2.length≤3 by omega) (by decide),fun lq ai=>⟨lq,_,rfl,.inl ⟨dR.of a_,fun bl aj=>?_⟩⟩⟩;have W7:=((W6.same (cj.new (o:=.lst ((k0.2.map (·.2.1)).map V.int)) ai)).same (cj.new (o:=.tup ((k0.2.map (·.2.1)).map V.int)) aj)).add a_;generalize upd (upd H' lq (.lst ((k0.2.map (·.2.1)).map V.int))) bl (.tup ((k0.2.map (·.2.1)).map V.int))=HA at W7 ⊢;generalize bz:k0.2.map (·.2.1)=zs at W7;have fz:Pd pG k0.2 zs:=by rw [← bz];exact HW ko.sm
  clear W6 aF ai aj;dsimp only [dM,List.set];generalize ae:(1+(k0.2.length:Int))=sz at B;refine ⟨_,rfl,by decide,by decide,lR (lo:=0) (fun i M H'=>∃ (r:oV) (U:Ln) (g n:Nat) (u:Option V),M=[some (.ref sa),some (.ref p),some (.ref cc),some (.int F),some (.int G),some (.ref r.a),some (.str O),some (.str Y),some (.str k0.1),some (.ref fa),some (.ref bl),some (.int g),u,none,none,none,none,none]/\n≤3+i/\Wl Z C S R K H3 H' p dc Tt r (Dd F G k0 O Y U (gU F G ov) false) n [(bl,zs.map V.int),(fa,xs)]/\((Gd sz F G U g 0/\g=i)∨(Gd sz F G U g 1/\Full sz U))) ⟨r3,_,0,3,none,rfl,aae _,W7,.inl ⟨Gd.new B,rfl⟩⟩ ?_ ?_⟩
  ·rintro i M H1 hi ⟨r,U,g,n,u,rfl,nl,W,au⟩;dsimp only [dM,List.set];obtain ⟨y,D⟩:=W.rc.at_.ob;refine ⟨_,rfl,r.a,y,_,rfl,D,rfl,_,rfl,r,_,n,O,0,(O,⟨U,0,jT⟩),rfl,W.rc.at_,rfl,rfl,fun t H2 s2 ht=>?_⟩;refine ⟨t,_,_,_,rfl,rfl,eE.of ht,rfl,rfl,_,rfl,?_⟩;have W1:=W.same s2;have aj:=W1.tu (bl,zs.map V.int) (aan ..);have aZ:k0.1.length≤1000:=by have:=ko.nm.hi;omega
   rcases au with ⟨gd,eg⟩|⟨gd,fu⟩
   ·obtain ⟨A,al,J⟩:=gd.a;refine jz (by rw [J.mis];rfl) ?_;obtain ⟨y,D⟩:=W1.rc.at_.ob;refine ⟨_,rfl,_,rfl,r.a,y,_,rfl,D,rfl,_,rfl,_,rfl,_,rfl,r,_,n,O,k0.1,bl,0,(O,⟨U,0,jT⟩),zs,rfl,W1.rc,aj,rfl,rfl,aZ,.inr ⟨0,k0,rfl,rfl,mY (fun h=>by cases h) (fun _=>⟨ko.kd,gd.wr B ae fz,rfl,rfl,fun b n' av aS rn=>?_⟩)⟩⟩;cases b with
    | true=>have ar:=gd.put B ko.kd ae av;obtain ⟨r',ea,W2,_⟩:=W1.rcn (d':=Dd F G k0 O Y n' (gU F G ov) false) rn (by omega) (sI.sd B (ar.lno B) B.lnew) (show 1≤3 by decide) (show 2≤3 by decide);refine ⟨true,rfl,.inl ⟨_,rfl⟩,.inr ⟨_,rfl,_,_,rfl,rfl,?_⟩⟩;refine ⟨r',n',g+1,n+1,some (.int (0+i)),?_,by omega,W2,.inl ⟨ar,by omega⟩⟩;rw [ea];rfl
    | false=>
      obtain ⟨rfl,f1,f2⟩:=av;have ar:=gd.miss;obtain ⟨r',ea,W2,_⟩:=W1.rcn (d':=Dd F G k0 O Y { U with last:=some 0,tks:=U.tks+1,mis:=U.mis+1 } (gU F G ov) false) rn (by omega) (sI.sd B (ar.lno B) B.lnew) (show 1≤3 by decide) (show 2≤3 by decide);refine ⟨true,rfl,.inr rfl,.inr ⟨_,rfl,_,_,rfl,rfl,?_⟩⟩;refine ⟨r',_,g,n+1,some (.int (0+i)),?_,by omega,W2,.inr ⟨ar,by rw [ae] at f1;exact ⟨f1,f2⟩⟩⟩;rw [ea];show _=[_,_,_,_,_,_,_,_,_,_,_,some (V.int (g:Int)),_,_,_,_,_,_];have:(g:Int)+(if decide (V.non=V.bl true)=true then 1 else 0)=g:=by simp
      dsimp only [dM,List.set];rw [show (VN false)=V.non from rfl,this]
   ·obtain ⟨A,al,J⟩:=gd.a;refine iz (by rw [J.mis];rfl) ?_;exact ⟨r,U,g,n,_,rfl,by omega,W1,.inr ⟨gd,fu⟩⟩
  ·rintro M H1 ⟨r,U,g,n,u,rfl,nl,W,au⟩;have au:Gd sz F G U g 1/\Full sz U:=by
    rcases au with ⟨gd,eg⟩|h
    ·have:=gd.le48 B;have:g=90:=eg;omega
    ·exact h
   obtain ⟨gd,fu⟩:=au;have gq:=gd.full B fu;have nl:n≤93:=nl;obtain ⟨A0,al,J⟩:=gd.a;obtain ⟨y,D⟩:=W.rc.at_.ob;refine ⟨_,rfl,r.a,y,_,rfl,D,rfl,_,rfl,r,_,n,O,0,(O,⟨U,0,jT⟩),rfl,W.rc.at_,rfl,rfl,fun t H2 s2 ht=>⟨_,rfl,(by ext),fun t2 aT=>?_⟩⟩;have ht:H2 t=some (.tup [.int U.giv,.int U.thr,.int U.los,.int U.mis]):=ht;rw [J.giv,al,J.thr,J.los,J.mis] at ht;have s3:=cj.new (o:=.tup [.int g,.int 0,.int 0,.int 1]) aT;refine ⟨.ref t,.ref t2,.tuple [.int g,.int 0,.int 0,.int 1],rfl,.tup (eE.of (s3 _ _ ht)) (.cons (.int _) (.cons (.int _) (.cons (.int _) (.cons (.int _) .nil)))),.tup (eE.of a_) (.cons (.int _) (.cons (.int _) (.cons (.int _) (.cons (.int _) .nil)))),aaX rfl,aaX rfl,fun H4 s4=>?_⟩;have W2:=((W.same s2).same s3).same s4;clear W ht aT s2 s3 s4 D y;have az:=W2.tu (fa,xs) (by simp);refine ⟨_,rfl,iz rfl ?_⟩;refine ⟨_,rfl,_,rfl,_,rfl,_,rfl,fa,xs,rfl,.inr (eE.of az),_,_,rfl,rfl,?_⟩;have bI:=B.z1;have bJ:=B.z2;have bL:=B.m1;have bM:=B.m2;have e1:((1:Int)+(xs.length:Int))=sz:=by rw [xl];exact ae
   refine ⟨_,_,rfl,rfl,⟨by show (0:Int)<1+(xs.length:Int);omega,by show (1:Int)+(xs.length:Int)<_;lia⟩,_,_,rfl,rfl,.inl ⟨by omega,by omega⟩,rfl,_,rfl,iz (by show (!decide (V.int g=V.int (F*(G / (1+(xs.length:Int))))))=false;rw [e1,← gq];simp) ?_⟩;clear e1 az;dsimp only [oh,dM,List.set];refine ⟨_,rfl,p,dc,6,rfl,W2.dr,by decide,by decide,fun tn H5 bE bF D5 t5=>?_⟩;have W3:=W2.but t5 D5;clear W2 t5 D5;refine ⟨_,_,rfl,rfl,_,rfl,by show -(2 ^ 62)≤(3:Int)+tn;omega,by show (3:Int)+tn<2 ^ 62;omega,?_⟩;refine lR (lo:=0) (fun i M H'=>∃ (r:oV) (U:Ln) (n:Nat) (st:Bool) (ab:Int) (u v1 v2 v3 v4:Option V),M=[some (.ref sa),some (.ref p),some (.ref cc),some (.int F),some (.int G),some (.ref r.a),some (.str O),some (.str Y),some (.str k0.1),some (.ref fa),some (.ref bl),some (.int g),u,some (.int ab),v1,v2,v3,v4]/\n≤93+2*i/\Wl Z C S R K H3 H' p dc Tt r (Dd F G k0 O Y U (gU F G ov) st) n [(bl,zs.map V.int),(fa,xs)]/\Gd sz F G U g ab/\Full sz U) ⟨r,U,n,false,1,_,_,_,_,_,rfl,by omega,W3,gd,fu⟩ ?_ ?_
   ·clear W3 gd fu gq A0 al J nl;rintro i M H1 hi ⟨r,U,n,st,ab,u,v1,v2,v3,v4,rfl,nl,W,gd,fu⟩;have bN:i<9:=by omega
    dsimp only [dM,List.set];refine ⟨_,rfl,p,dc,2,rfl,W.dr,by decide,by decide,fun o H2 o0 o1 D2 t2=>⟨rfl,?_⟩⟩;have W1:=W.but t2 D2;clear W t2 D2;dsimp only [dM,List.set];generalize decide (V.int o=V.int 0)=off;refine nQ (fun M H'=>∃ r':oV,r'.a=r.a/\M=[some (.ref sa),some (.ref p),some (.ref cc),some (.int F),some (.int G),some (.ref r.a),some (.str O),some (.str Y),some (.str k0.1),some (.ref fa),some (.ref bl),some (.int g),some (.int (0+i)),some (.int ab),some (.bl off),v2,v3,v4]/\Wl Z C S R K H3 H' p dc Tt r' (Dd F G k0 O Y U (gU F G ov) off) (n+1) [(bl,zs.map V.int),(fa,xs)]) ?nx1 fun N hN=>?st1
    case st1=>
     obtain ⟨y,D⟩:=W1.rc.at_.ob;refine ⟨_,rfl,_,rfl,?_⟩;cases off with
     | true=>refine jz rfl ⟨_,rfl,r.a,y,_,rfl,D,rfl,r,_,n,rfl,W1.rc,fun aS rn=>?_⟩;obtain ⟨r',ea,W2,_⟩:=W1.rcn (d':=Dd F G k0 O Y U (gU F G ov) true) rn (by omega) (sI.sd B (gd.lno B) B.lnew) (show 1≤3 by decide) (show 2≤3 by decide);exact hN _ _ ⟨r',ea,rfl,W2⟩
     | false=>refine iz rfl ⟨_,rfl,r.a,y,_,rfl,D,rfl,r,_,n,rfl,W1.rc,fun aS rn=>?_⟩;obtain ⟨r',ea,W2,_⟩:=W1.rcn (d':=Dd F G k0 O Y U (gU F G ov) false) rn (by omega) (sI.sd B (gd.lno B) B.lnew) (show 1≤3 by decide) (show 2≤3 by decide);exact hN _ _ ⟨r',ea,rfl,W2⟩
    case nx1=>
     clear W1;rintro M H4 ⟨r',ea,rfl,W⟩;rw [← ea];clear ea;obtain ⟨lk,ll,ks,g1,g2,el,ek,pk⟩:=(aE.keep D3 aq W.old).cs;obtain ⟨x0,x1,x2,rfl,aN⟩:∃ x0 x1 x2,ks=[x0,x1,x2]/\Fq H4 x1 k1:=by
      cases pk with
      | cons a pk=>
        cases pk with
        | cons b pk=>
          cases pk with
          |cons c pk=>cases pk;exact ⟨_,_,_,rfl,b⟩
     obtain ⟨b1,a1,_,rfl,a7,_,_⟩:=aN;refine ⟨_,rfl,_,rfl,_,rfl,_,rfl,cc,_,rfl,g2,lk,_,_,_,rfl,rfl,dR.of ek,Er,b1,_,_,_,rfl,rfl,eE.of a7,lV,(by ext),fun lq ai=>?_⟩;refine ⟨p,dc,lq,_,rfl,W.dr.new ai,dR.of a_,by simp,by simp,fun x H5 hx D5 t5=>?_⟩;have W1:=(W.same (cj.new (o:=.lst [.str k0.1,.str k0.1,.str k1.1]) ai)).but t5 D5;obtain ⟨kd,rfl,bw⟩:∃ kd,x=.str kd/\(kd=k0.1∨kd=k1.1):=by
      simp at hx;rcases hx with rfl|rfl
      ·exact ⟨_,rfl,.inl rfl⟩
      ·exact ⟨_,rfl,.inr rfl⟩
     have a2:kd.length≤1000:=by have h1:=ko.nm.hi;have h2:=bn.hi;rcases bw with rfl|rfl <;> omega
     clear W lk ll g1 g2 el ek pk a7 hx t5 D5 ai;dsimp only [dM,List.set];refine Ip (Ej CT (L:=Dn) (cl:=Ow s.heap.objs.size) rfl W1.tb (aan ..) fun f1 H6 aU aA aV=>⟨(by ext),fun la aw=>?_⟩);have W2:=W1.kp aU aA;dsimp only [dM,List.set];refine ⟨_,rfl,.inl ⟨rfl,_,dR.of a_⟩,?_⟩;refine R3 (Ej CT (L:=Eh) (cl:=Oq s.heap.objs.size) rfl (aA.same (cj.new aw)) (aag _ (aan ..)) fun f2 H7 aB aW aX=>?_);have e7:H7 la=some (.lst [.ref f1]):=aB _ (.lst [.ref f1]) a_ (by intro _ z;cases z);refine ⟨la,[.ref f1],.ref f2,rfl,rfl,e7,(show 1<sizeLine by decide),?_⟩;have aG:Kp H6 (upd H7 la (.lst ([.ref f1]++[.ref f2]))):=fun b u e n=>by rw [b7 (cg e aw)];exact aB _ _ (cj.new aw _ _ e) n
     have W3:=W2.kp aG (jP.lst aW e7);have aH:=aV.kp aG;have aI:=aX.lst (o:=.lst ([.ref f1]++[.ref f2])) e7;have aJ:upd H7 la (.lst ([V.ref f1]++[V.ref f2])) la=some (.lst [.ref f1,.ref f2]):=a_;clear W1 W2 aU aA aV aB aW aX e7 aG aw;generalize upd H7 la (.lst ([V.ref f1]++[V.ref f2]))=H8 at W3 aH aI aJ ⊢;dsimp only [dM,List.set];refine nQ (fun M H'=>H'=H8/\∃ wd,OD k0.1 kd off wd/\M=[some (.ref sa),some (.ref p),some (.ref cc),some (.int F),some (.int G),some (.ref r'.a),some (.str O),some (.str Y),some (.str k0.1),some (.ref fa),some (.ref bl),some (.int g),some (.int (0+i)),some (.int ab),some (.bl off),some (.str kd),some (.ref la),some (.str wd)]) ?nx2 fun N hN=>?st2
     case st2=>
      refine ⟨_,rfl,_,rfl,rfl,_,rfl,?_⟩;by_cases hk:kd=k0.1
      ·refine iz (by simp [hk]) ⟨_,rfl,_,rfl,?_⟩;cases off with
       |true=>exact jz rfl (hN _ _ ⟨rfl,_,.st hk rfl,rfl⟩)
       |false=>exact iz rfl (hN _ _ ⟨rfl,_,.ok hk rfl,rfl⟩)
      ·exact jz (by simp [hk]) (hN _ _ ⟨rfl,_,.no hk,rfl⟩)
     case nx2=>
      rintro M H9 ⟨rfl,wd,aP,rfl⟩;generalize ah:(if wd=("" : Str) then ab+1 else ab)=ad;refine nQ (fun M H'=>M=[some (.ref sa),some (.ref p),some (.ref cc),some (.int F),some (.int G),some (.ref r'.a),some (.str O),some (.str Y),some (.str k0.1),some (.ref fa),some (.ref bl),some (.int g),some (.int (0+i)),some (.int ab),some (.bl off),some (.str kd),some (.ref la),some (.str wd)]/\Gm Z C S R K H3 p dc Tt r'.a sz F G k0 O Y (gU F G ov) off (n+1) g ad [(bl,zs.map V.int),(fa,xs)] H') ?nx3 fun N hN=>?st3
      case st3=>
       refine ⟨_,rfl,_,rfl,p,dc,la,_,rfl,W3.dr,dR.of aJ,by simp,by simp,fun x HA hx DA tA=>?_⟩;have WA:=W3.but tA DA;obtain ⟨y,D⟩:=WA.rc.at_.ob;have a3:=WA.tu (bl,zs.map V.int) (aan ..);have rest:∀ (l:Z0) (HB:Hp),HB l=some (.lst [.str wd,.non])->Gm Z C S R K H3 p dc Tt r'.a sz F G k0 O Y (gU F G ov) off (n+1) g ad [(bl,zs.map V.int),(fa,xs)] HB->∀ l' HC,HB l'=none->HC=upd HB l' (.lst [.str wd,.non])->∀ HD,cj HC HD->N [some (.ref sa),some (.ref p),some (.ref cc),some (.int F),some (.int G),some (.ref r'.a),some (.str O),some (.str Y),some (.str k0.1),some (.ref fa),some (.ref bl),some (.int g),some (.int (0+i)),some (.int ab),some (.bl off),some (.str kd),some (.ref la),some (.str wd)] HD:=fun l HB hl af l' HC ac e HD sD=>hN _ _ ⟨rfl,(af.same (by rw [e];exact cj.new ac)).same sD⟩;refine Hx hx (aH.but W3.dr tA) (aI.but W3.dr tA) (Qv:=fun v H'=>v=.non/\wd = ""/\Gm Z C S R K H3 p dc Tt r'.a sz F G k0 O Y (gU F G ov) off (n+1) g (ab+1) [(bl,zs.map V.int),(fa,xs)] H') (Ev:=U5 cN cSt HA wd) ⟨_,rfl,r'.a,y,_,rfl,D,rfl,_,rfl,_,rfl,zZ B ae fz ko.kd gd fu B.lnew WA (by omega) a2 aP⟩ ⟨_,rfl,r'.a,y,_,rfl,D,rfl,_,rfl,_,rfl,_,rfl,Bx B ae fz ko.kd gd fu B.lnew WA a3 (by omega) a2 aP⟩ ⟨fun v H' hv l hl=>?_,fun cls dd H' he=>?_⟩
       ·obtain ⟨rfl,rfl,af⟩:=hv;rw [aad rfl] at ah;subst ah;refine ⟨_,rfl,(by ext),fun l' ac=>⟨.ref l,.ref l',.list [.str "",.none],rfl,.lst (dR.of (cj.new ac _ _ a_)) (.cons (.str _) (.cons .non .nil)),.lst (dR.of a_) (.cons (.str _) (.cons .non .nil)),aaX rfl,aaX rfl,fun HD sD=>⟨_,rfl,iz rfl (rest l _ a_ (af.same (cj.new hl)) l' _ ac rfl HD sD)⟩⟩⟩
       ·obtain ⟨Ce,da,rfl,rfl,hd,sE,hC⟩:=he;have lw:∀ x:V,List.lookup ("word" : Str) [(("word" : Str),x)]=some x:=fun x=>by rw [aa6,show (("word" : Str) == ("word" : Str))=true from by ext]
        rcases hC with ⟨rfl,rfl⟩|⟨rfl,rfl⟩
        ·rw [aac (by ext)] at ah;subst ah;refine ⟨_,da,_,_,rfl,rfl,hd,.inr (.inr ⟨BR.n1,BR.n2,BR.n3,BR.n4,lw _⟩),fun l hl=>?_⟩;exact ⟨_,rfl,(by ext),fun l' ac=>⟨.ref l,.ref l',.list [.str "nokind",.none],rfl,.lst (dR.of (cj.new ac _ _ a_)) (.cons (.str _) (.cons .non .nil)),.lst (dR.of a_) (.cons (.str _) (.cons .non .nil)),aaX rfl,aaX rfl,fun HD sD=>⟨_,rfl,iz rfl (rest l _ a_ (Gm.same ⟨r',U,n+1,rfl,by omega,WA.same sE,gd,fu⟩ (cj.new hl)) l' _ ac rfl HD sD)⟩⟩⟩
        ·rw [aac (by ext)] at ah;subst ah;refine ⟨_,da,_,_,rfl,rfl,hd,.inr (.inl ⟨BR.s1,BR.s2,BR.s4,lw _⟩),fun l hl=>?_⟩;exact ⟨_,rfl,(by ext),fun l' ac=>⟨.ref l,.ref l',.list [.str "stopped",.none],rfl,.lst (dR.of (cj.new ac _ _ a_)) (.cons (.str _) (.cons .non .nil)),.lst (dR.of a_) (.cons (.str _) (.cons .non .nil)),aaX rfl,aaX rfl,fun HD sD=>⟨_,rfl,iz rfl (rest l _ a_ (Gm.same ⟨r',U,n+1,rfl,by omega,WA.same sE,gd,fu⟩ (cj.new hl)) l' _ ac rfl HD sD)⟩⟩⟩
      case nx3=>
       clear W3 aH aI aJ aP gd fu;rintro M HB ⟨rfl,r2,ap,n',ea,bO,W,gd,fu⟩;rw [← ea];have bo:ab+(if decide (V.str wd=V.str "")=true then 1 else 0)=ad:=by
        rw [← ah];by_cases h:wd=("" : Str)
        ·simp [h]
        ·rw [aac h,aac (by simp [h])];simp
       refine ⟨_,rfl,_,rfl,rfl,.inr ⟨_,rfl,_,_,rfl,rfl,?_⟩⟩;dsimp only [dM,List.set];rw [bo];obtain ⟨A1,bx,J⟩:=gd.a;obtain ⟨y,D⟩:=W.rc.at_.ob;refine ⟨_,rfl,r2.a,y,_,rfl,D,rfl,_,rfl,r2,_,n',O,0,(O,⟨ap,0,jT⟩),rfl,W.rc.at_,rfl,rfl,fun t1 HC sC ax=>?_⟩;have W1:=W.same sC;refine ⟨_,rfl,r2.a,y,_,rfl,sC _ _ D,rfl,_,rfl,r2,_,n',Y,1,(Y,⟨gU F G ov,0,jT⟩),rfl,W1.rc.at_,rfl,rfl,fun t2 HD sD aC=>?_⟩;have ax:HC t1=some (.tup [.int ap.giv,.int ap.thr,.int ap.los,.int ap.mis]):=ax;rw [J.giv,bx,J.thr,J.los,J.mis] at ax;have aC:HD t2=some (.tup [.int 0,.int 0,.int 0,.int 0]):=aC;refine ⟨(by ext),fun q1 a9=>⟨_,rfl,_,rfl,(by ext),fun t3 bb=>⟨(by ext),fun t4 bc=>⟨(by ext),fun q2 bd=>?_⟩⟩⟩⟩;have s1:=cj.new (o:=.lst [.ref t1,.ref t2]) a9;have s2:=cj.new (o:=.tup [.int g,.int 0,.int 0,.int ad]) bb;have s3:=cj.new (o:=.tup [.int 0,.int 0,.int 0,.int 0]) bc;have s4:=cj.new (o:=.lst [.ref t3,.ref t4]) bd;have I4:∀ {a b c d:Int} {X:Hp},jL K X [.int a,.int b,.int c,.int d] [.int a,.int b,.int c,.int d]:=.cons (.int _) (.cons (.int _) (.cons (.int _) (.cons (.int _) .nil)));refine ⟨.ref q1,.ref q2,.list [.tuple [.int g,.int 0,.int 0,.int ad],.tuple [.int 0,.int 0,.int 0,.int 0]],rfl,.lst (dR.of (s4 _ _ (s3 _ _ (s2 _ _ a_)))) (.cons (.tup (eE.of (s4 _ _ (s3 _ _ (s2 _ _ (s1 _ _ (sD _ _ ax)))))) I4) (.cons (.tup (eE.of (s4 _ _ (s3 _ _ (s2 _ _ (s1 _ _ aC))))) I4) .nil)),.lst (dR.of a_) (.cons (.tup (eE.of (s4 _ _ (s3 _ _ a_))) I4) (.cons (.tup (eE.of (s4 _ _ a_)) I4) .nil)),aaX rfl,aaX rfl,fun HE sE=>⟨_,rfl,iz rfl ?_⟩⟩;exact ⟨r2,ap,n',off,ad,_,_,_,_,_,rfl,by omega,(((((W1.same sD).same s1).same s2).same s3).same s4).same sE,gd,fu⟩
   ·rintro M H1 ⟨r,U,n,st,ab,u,v1,v2,v3,v4,rfl,nl,W,gd,fu⟩;have nl:n≤200:=by
     have:((3:Int)+tn).toNat≤9:=by omega
     omega
    have g1:1≤g:=by have q1:=B.q1;have h2:2*1≤F*(G / sz):=Int.mul_le_mul (by omega) q1 (by decide) (by omega);omega
    dsimp only [dM,List.set];obtain ⟨y,D⟩:=W.rc.at_.ob;refine ⟨_,rfl,r.a,y,_,rfl,D,rfl,r,_,n,rfl,W.rc,fun H2 rn=>?_⟩;obtain ⟨r1,aL,W1,_⟩:=W.rcn (d':=Dd F G k0 O Y U (gU F G ov) false) rn (by omega) (sI.sd B (gd.lno B) B.lnew) (show 1≤3 by decide) (show 2≤3 by decide);rw [← aL];clear W rn D y;obtain ⟨o1,o2,o3,o4,o5⟩:=gd.took B g1;obtain ⟨y,D⟩:=W1.rc.at_.ob;refine ⟨_,rfl,r1.a,y,_,rfl,D,rfl,_,rfl,r1,_,n+1,O,0,(O,⟨U,0,jT⟩),rfl,W1.rc,rfl,rfl,(gd.lno B).p,o3,fun x H5 rn=>?_⟩;obtain ⟨r2,aM,W2,_⟩:=W1.rcn (d':=Dd F G k0 O Y (gb U).2 (gU F G ov) false) rn (by omega) (sI.sd B o1 B.lnew) (show 1≤3 by decide) (show 2≤3 by decide);rw [← aM];clear W1 rn D y;obtain ⟨y,D⟩:=W2.rc.at_.ob;have aj:=W2.tu (bl,zs.map V.int) (aan ..);refine ⟨_,rfl,r2.a,y,_,rfl,D,rfl,_,rfl,_,rfl,_,rfl,r2,_,n+2,Y,k0.1,bl,1,(Y,⟨gU F G ov,0,jT⟩),zs,rfl,W2.rc,aj,rfl,rfl,by have:=ko.nm.hi;omega,.inr ⟨0,k0,rfl,rfl,mY (fun h=>by cases h) (fun _=>⟨ko.kd,Mx B ae fz,rfl,rfl,fun b n' av H6 rn=>?_⟩)⟩⟩;obtain ⟨rfl,p1,p2,p3,p4⟩:=Hq B ko.kd ae av;obtain ⟨r3,aO,W3,_⟩:=W2.rcn (d':=Dd F G k0 O Y (gb U).2 n' false) rn (by omega) (sI.sd B o1 p1) (show 1≤3 by decide) (show 2≤3 by decide);rw [← aO];refine ⟨true,rfl,.inl ⟨_,rfl⟩,?_⟩;obtain ⟨y,D⟩:=W3.rc.at_.ob;have et:Ko (Dd F G k0 O Y (gb U).2 n' false)=gf (gb U).2++gf n':=by show gf (gb U).2++(gf n'++[])=_;rw [aaO]
    have ef:((Ko (Dd F G k0 O Y (gb U).2 n' false)).filter lX).length=g:=by rw [et,abq,o5,p4,aao,o4,p3];omega
    have el:(Ko (Dd F G k0 O Y (gb U).2 n' false)).length≤900:=by have:=gd.le48 B;rw [et,aao,o4,p3];omega
    refine ⟨_,rfl,jz rfl ⟨_,rfl,r3.a,y,_,rfl,D,r3,_,_,rfl,W3.rc.at_,show 2≤900 by decide,fun q m=>?_,el,fun H7 s7=>⟨_,rfl,by rw [ef];have:=gd.le48 B;omega,_,rfl,rfl,?_⟩⟩⟩
    ·rcases aaf.mp m with rfl|m
     ·exact ⟨o1.p,o1.c,o2⟩
     ·cases aai.mp m;exact ⟨p1.p,p1.c,p2⟩
    ·rw [ef,abD rfl];exact k _
theorem IW (h:∀ (S:Setting) (x a b c:Z6),peek K S (bindArgs f ⟨[x],[("pages",a),("room",b),("over",c)]⟩)=some ([("self",x),("pages",a),("room",b),("over",c)]:List (Str×Value))):jr K f ["self","pages","room","over"] ["pages","room","over"] gL VM:=by
 refine ⟨fun s d e X g=>?_,fun {vs d j e} r i=>?_⟩
 ·match d,e,g with
  |[x],[a,b,c],_=>exact kp_binds X fun S=>h S x a b c
  |[],_,z=>simp [gL] at z
  |[_],[],z=>simp [gL] at z
  |[_],[_],z=>simp [gL] at z
  |[_],[_,_],z=>simp [gL] at z
  |[_],_::_::_::_::_,z=>simp [gL] at z
  |_::_::_,_,z=>simp [gL] at z
 ·cases r with
  |nil=>exact .nil
  | cons r1 r=>
    cases r with
    |cons r2 r=>exact .nil
    | nil=>
      cases i with
      |nil=>exact .nil
      | cons z1 z=>
        cases z with
        |nil=>exact .nil
        | cons z2 z=>
          cases z with
          |nil=>exact .nil
          | cons z3 z=>
            cases z with
            |cons z4 z=>exact .nil
            |nil=>exact .cons r1 (.cons z1 (.cons z2 (.cons z3 .nil)))
theorem Lj (h:∀ (S:Setting) (x a b:Z6),peek K S (bindArgs e ⟨[x],[("pages",a),("room",b)]⟩)=some ([("self",x),("pages",a),("room",b)]:List (Str×Value))):jr K e ["self","pages","room"] ["pages","room"] gR X3:=by
 refine ⟨fun s c d X f=>?_,fun {vs c i d} r g=>?_⟩
 ·match c,d,f with
  |[x],[a,b],_=>exact kp_binds X fun S=>h S x a b
  |[],_,z=>simp [gR] at z
  |[_],[],z=>simp [gR] at z
  |[_],[_],z=>simp [gR] at z
  |[_],_::_::_::_,z=>simp [gR] at z
  |_::_::_,_,z=>simp [gR] at z
 ·cases r with
  |nil=>exact .nil
  | cons r1 r=>
    cases r with
    |cons r2 r=>exact .nil
    | nil=>
      cases g with
      |nil=>exact .nil
      | cons z1 z=>
        cases z with
        |nil=>exact .nil
        | cons z2 z=>
          cases z with
          |cons z4 z=>exact .nil
          |nil=>exact .cons r1 (.cons z1 (.cons z2 .nil))
theorem Hh (h:∀ (S:Setting) (x a b:Z6),peek K S (bindArgs e ⟨[x,a],[("over",b)]⟩)=some ([("self",x),("name",a),("over",b)]:List (Str×Value))):jr K e ["self","name","over"] ["over"] gO WX:=by
 refine ⟨fun s c d X f=>?_,fun {vs c i d} r g=>?_⟩
 ·match c,d,f with
  |[x,a],[b],_=>exact kp_binds X fun S=>h S x a b
  |[],_,z=>simp [gO] at z
  |[_],_,z=>simp [gO] at z
  |[_,_],[],z=>simp [gO] at z
  |[_,_],_::_::_,z=>simp [gO] at z
  |_::_::_::_,_,z=>simp [gO] at z
 ·cases r with
  |nil=>exact .nil
  | cons r1 r=>
    cases r with
    |nil=>exact .nil
    | cons r2 r=>
      cases r with
      |cons r3 r=>exact .nil
      | nil=>
        cases g with
        |nil=>exact .nil
        | cons z1 z=>
          cases z with
          |cons z2 z=>exact .nil
          |nil=>exact .cons r1 (.cons r2 (.cons z1 .nil))
def Ql (a:Zc):List Str->Prop
 |[]=>True
 |x::l=>a x=none/\Ql a l
def M5 (K:Z2) (C:Z0):List Str->Prop
 |[]=>True
 |x::l=>findIn K (.ref C) x=some none/\M5 K C l
structure CI (K:Z2) (mg:Zc) (C:Z0) (n:Str) (l:Zd):Prop where
 a:mg n=some (.ref C)
 c:sO K C
 ma:makesIn K C=true
 kc:keepIn K (.ref C)=true
 n:M5 K C l
theorem ci (X:K.In h) (G:h.Ns mainGlobals j) (a:nsIn K mainGlobals n=some (some (.ref C))) (b:plainGet K C Str.empty=true) (c:hasDictIn K C=true) (d:plainOver K C=true) (e:findIn K (.ref C) "__setattr__" = some (some (.builtin "object.__setattr__"))) (f:makesIn K C=true) (g:keepIn K (.ref C)=true) (i:M5 K C l):CI K j C n l:=⟨mg_of X G a,⟨b,c,d,e⟩,f,g,i⟩
theorem Xr (a:findIn K (.ref C) n=some (some (.ref f))) (i:isFn K (.ref f)=true) (l:K.lookup f=some ⟨oc,od,.func (fnOf n q (cU e) (cO e) (bK e) .none g h j an d m),s⟩) (c:codeIn K d q=true) (k:keepIn K (.ref f)=true) (b:∀ (g h j:Z6) (an:Zg) (d m o:Z6),bindArgs (fnOf n q (cU e) (cO e) (bK e) .none g h j an d m) ⟨[o],[]⟩=pure ([p].zip [o])):MD K C n q e [p] f (fnOf n q (cU e) (cO e) (bK e) .none g h j an d m):=
 ⟨⟨a,i,k⟩,ii l c k,(ii l c k).binds fun _ _ _ _ _ _ v r=>by obtain ⟨_,rfl⟩:=Ol r;exact b _ _ _ _ _ _ _⟩
theorem Xo (X:K.In h) (G:h.Ns mainGlobals p) (a:nsIn K mainGlobals n=some (some (.ref f))) (l:K.lookup f=some ⟨oc,od,.func (fnOf n n (cU e) (cO e) (bK e) .none g i j an d m),s⟩) (c:codeIn K d n=true) (k:keepIn K (.ref f)=true) (b:∀ (g i j:Z6) (an:Zg) (d m o:Z6),bindArgs (fnOf n n (cU e) (cO e) (bK e) .none g i j an d m) ⟨[o],[]⟩=pure ([q].zip [o])):gK K p n e [q] f (fnOf n n (cU e) (cO e) (bK e) .none g i j an d m):=
 ⟨ii l c k,mg_of X G a,(ii l c k).binds fun _ _ _ _ _ _ v r=>by obtain ⟨_,rfl⟩:=Ol r;exact b _ _ _ _ _ _ _⟩
theorem Xi (a:findIn K (.ref C) n=some (some (.ref f))) (i:isFn K (.ref f)=true) (l:K.lookup f=some ⟨oc,od,.func (fnOf n q (cU e) (cO e) (bK e) .none g h j an d m),w⟩) (c:codeIn K d q=true) (k:keepIn K (.ref f)=true) (b:∀ (g h j:Z6) (an:Zg) (d m o p:Z6),bindArgs (fnOf n q (cU e) (cO e) (bK e) .none g h j an d m) ⟨[o,p],[]⟩=pure ([r,s].zip [o,p])):MD K C n q e [r,s] f (fnOf n q (cU e) (cO e) (bK e) .none g h j an d m):=
 ⟨⟨a,i,k⟩,ii l c k,(ii l c k).binds fun _ _ _ _ _ _ x v=>by obtain ⟨_,_,rfl⟩:=FN v;exact b _ _ _ _ _ _ _ _⟩
theorem XM (X:K.In h) (G:h.Ns mainGlobals q) (a:nsIn K mainGlobals n=some (some (.ref f))) (l:K.lookup f=some ⟨oc,od,.func (fnOf n n (cU e) (cO e) (bK e) .none g i j an d m),w⟩) (c:codeIn K d n=true) (k:keepIn K (.ref f)=true) (b:∀ (g i j:Z6) (an:Zg) (d m o p:Z6),bindArgs (fnOf n n (cU e) (cO e) (bK e) .none g i j an d m) ⟨[o,p],[]⟩=pure ([r,s].zip [o,p])):gK K q n e [r,s] f (fnOf n n (cU e) (cO e) (bK e) .none g i j an d m):=
 ⟨ii l c k,mg_of X G a,(ii l c k).binds fun _ _ _ _ _ _ x v=>by obtain ⟨_,_,rfl⟩:=FN v;exact b _ _ _ _ _ _ _ _⟩
theorem XF (a:findIn K (.ref C) n=some (some (.ref f))) (i:isFn K (.ref f)=true) (l:K.lookup f=some ⟨oc,od,.func (fnOf n q (cU e) (cO e) (bK e) .none g h j an d m),y⟩) (c:codeIn K d q=true) (k:keepIn K (.ref f)=true) (b:∀ (g h j:Z6) (an:Zg) (d m o p r:Z6),bindArgs (fnOf n q (cU e) (cO e) (bK e) .none g h j an d m) ⟨[o,p,r],[]⟩=pure ([s,v,w].zip [o,p,r])):MD K C n q e [s,v,w] f (fnOf n q (cU e) (cO e) (bK e) .none g h j an d m):=
 ⟨⟨a,i,k⟩,ii l c k,(ii l c k).binds fun _ _ _ _ _ _ z x=>by obtain ⟨_,_,_,rfl⟩:=Bp x;exact b _ _ _ _ _ _ _ _ _⟩
theorem XZ (X:K.In h) (G:h.Ns mainGlobals r) (a:nsIn K mainGlobals n=some (some (.ref f))) (l:K.lookup f=some ⟨oc,od,.func (fnOf n n (cU e) (cO e) (bK e) .none g i j an d m),y⟩) (c:codeIn K d n=true) (k:keepIn K (.ref f)=true) (b:∀ (g i j:Z6) (an:Zg) (d m o p q:Z6),bindArgs (fnOf n n (cU e) (cO e) (bK e) .none g i j an d m) ⟨[o,p,q],[]⟩=pure ([s,v,w].zip [o,p,q])):gK K r n e [s,v,w] f (fnOf n n (cU e) (cO e) (bK e) .none g i j an d m):=
 ⟨ii l c k,mg_of X G a,(ii l c k).binds fun _ _ _ _ _ _ z x=>by obtain ⟨_,_,_,rfl⟩:=Bp x;exact b _ _ _ _ _ _ _ _ _⟩
theorem Xp (a:findIn K (.ref C) n=some (some (.ref f))) (i:isFn K (.ref f)=true) (l:K.lookup f=some ⟨oc,od,.func (fnOf n q (cU e) (cO e) (bK e) .none g h j an d m),A⟩) (c:codeIn K d q=true) (k:keepIn K (.ref f)=true) (b:∀ (g h j:Z6) (an:Zg) (d m o p r s:Z6),bindArgs (fnOf n q (cU e) (cO e) (bK e) .none g h j an d m) ⟨[o,p,r,s],[]⟩=pure ([v,w,x,y].zip [o,p,r,s])):MD K C n q e [v,w,x,y] f (fnOf n q (cU e) (cO e) (bK e) .none g h j an d m):=
 ⟨⟨a,i,k⟩,ii l c k,(ii l c k).binds fun _ _ _ _ _ _ B z=>by obtain ⟨_,_,_,_,rfl⟩:=UL z;exact b _ _ _ _ _ _ _ _ _ _⟩
noncomputable def Iw (B:String):List Value:=[.type B,.type "Exception",.type "BaseException",.type "object"]
theorem Cg (a:Z6):refuseLoop a "__setattr__" (Iw "ValueError")=pure ():=by kernel_rfl
theorem JX (a:Z6):refuseLoop a "__setattr__" (Iw "LookupError")=pure ():=by kernel_rfl
noncomputable def VB (K:Z2) (C:Z0) (a:Zh) (b:Ze):Bool:=match clsIn K C with
 |some cd=>cd.hasDict && (cd.mro == a.map Value.ref++b)
 |none=>false
theorem J9 (e:qj K C B n=true) (f:findIn K (.ref C) "__setattr__" = some (some (.builtin "object.__setattr__"))) (a:VB K C c (Iw B)=true) (g:keepIn K (.ref C)=true) (h:typeIn K (.ref C)=some (.type "type"))
 (i:∀ b,refuseLoop b "__setattr__" (Iw B)=pure ()):kI K C B n:=by
 refine ⟨e,f,?_,g,h⟩;unfold VB at a;split at a
 ·rename_i cd d;rw [aa1,aaS] at a;refine ⟨cd,c,Iw B,d,a.1,a.2,by simp [Iw],i,?_⟩;unfold Iw;simp
 ·cases a
structure XS (K:Z2) (C:Z0) (rs:Zh) (B n:String):Prop where
 a:qj K C B n=true
 b:findIn K (.ref C) "__setattr__" = some (some (.builtin "object.__setattr__"))
 c:VB K C rs (Iw B)=true
 d:keepIn K (.ref C)=true
 e:typeIn K (.ref C)=some (.type "type")
theorem XS.ok (h:XS K C g B n) (i:∀ f,refuseLoop f "__setattr__" (Iw B)=pure ()):kI K C B n:=J9 h.a h.b h.c h.d h.e i
theorem NQ {l:OpenLaw} {w:Z5} {K:Z2} {f:Zc} {fa fLa Tt cc fMg Tm ccm fB fP fO fS fW fWs fSf fCa fA fI fNn fNf fNp fNr fNw fFw fTf fPb fPs fPl fDk fDl fDc fDf fDg fDw fDt fDs fDgo fPf E fKI TdK d0K fLo0 fCe fNe N fCI fTa fCt O fGI fUn fGt qL fLI fCm fMr fEl fLe fLv fWt fWw fLw fFl fGv fSd fLk fTk fHo fPn fEv fCo fLt Q fYI fTo fYt U fXI fXt fXk fXl fXw qR fRI fRc fRw fRt fRs fRg fRd fRo fRl fRn fRk TdRk d0Rk tD o h g i j p n qS qV qM fSE TS fMI TM qN fiN TdN qT fiT TdT:Z0} (hfa:f "law" = some (.ref fa))
 {fdB fdP fdO fdS fdW fdWs fdSf fdCa fdA fdI fdNn fdNf fdNp fdNr fdNw fdFw fdTf fdPb fdPs fdPl fdDk fdDl fdDc fdDf fdDg fdDw fdDt fdDs fdDgo fdPf fdLo0 fdCe fdNe fdCI fdTa fdCt fdGI fdUn fdGt fdCm fdMr fdEl fdLe fdLv fdWt fdWw fdLw fdFl fdGv fdSd fdLk fdTk fdHo fdPn fdEv fdCo fdLt fdYI fdTo fdYt fdXI fdXt fdXk fdXl fdXw fdRc fdRw fdRt fdRs fdRg fdRd fdRo fdRl:Z3} {odLa anLa odcc odMg anMg odccm odKI anKI odTK odLI anLI odRI anRI odRn anRn odRk anRk odTRk odSE anSE odTS odMI anMI odTM odiN aniN odTN odiT aniT odTT:Zg} {slLa slcc slMg slccm slKI slTK slLI slRI slRn slRk slTRk slSE slTS slMI slTM sliN slTN sliT slTT:Zm} {z G t_LIMIT A t_MOST_PAGES t_LEAST_ROOM t_MOST_ROOM t_MOST_KINDS I nTK nTRk nTS nTM nTN nTT:Nat} {ocLa kVLa dcLa pmLa ctLa w0 w1 w2 w3 w4 w5 w6 w7 w8 w9 w10 w12 w13 w14 w15 w16 w17 w18 occ ocMg kVMg dcMg pmMg ctMg v0 v1 v2 v3 v4 v5 v6 v7 v8 v9 v10 v12 v13 v14 v15 v16 v17 v18 occm ocKI kVKI dcKI pmKI cdKI ctKI ocTK ocLI kVLI dcLI pmLI cdLI ctLI ocRI kVRI dcRI pmRI cdRI ctRI ocRn kVRn dcRn pmRn cdRn ctRn ocRk kVRk dcRk pmRk cdRk ctRk ocTRk ocSE kVSE dcSE pmSE cdSE ctSE dS1 dS2 ocTS ocMI kVMI dcMI pmMI cdMI ctMI dM1 dM2 ocTM ociN kViN dciN pmiN cdiN ctiN diN ocTN ociT kViT dciT pmiT cdiT ctiT diT ocTT:Z6}
 (aLa:f "law" = some (.ref fLa))
 (lLa:K.lookup fLa=some ⟨ocLa,odLa,.func (fnOf "law" "law" (cU (top 121)) (cO (top 121)) (bK (top 121)) .none kVLa dcLa pmLa anLa (.ref cc) ctLa),slLa⟩)
 (lcc:K.lookup cc=some ⟨occ,odcc,.fields #[w0,w1,w2,w3,w4,w5,w6,w7,w8,w9,w10,.ref Tt,w12,w13,w14,w15,w16,w17,w18],slcc⟩)
 (lTt:K.lookup Tt=none)
 (tb:L2.tabIn K cc=some Tt)
 (cLa:codeIn K (.ref cc) "law" = true)
 (aMg:f "merged" = some (.ref fMg))
 (lMg:K.lookup fMg=some ⟨ocMg,odMg,.func (fnOf "merged" "merged" (cU (top 62)) (cO (top 62)) (bK (top 62)) .none kVMg dcMg pmMg anMg (.ref ccm) ctMg),slMg⟩)
 (lccm:K.lookup ccm=some ⟨occm,odccm,.fields #[v0,v1,v2,v3,v4,v5,v6,v7,v8,v9,v10,.ref Tm,v12,v13,v14,v15,v16,v17,v18],slccm⟩)
 (lTm:K.lookup Tm=none)
 (tbm:L2.tabIn K ccm=some Tm)
 (DB:gK K f "_law_begin" (top 112) ["_law_script"] fB fdB)
 (DP:gK K f "_law_pick" (top 113) ["_law_d","_law_many"] fP fdP)
 (DO:gK K f "_law_of" (top 114) ["_law_d","_law_things"] fO fdO)
 (DS:gK K f "_law_same" (top 115) ["_law_found","_law_due"] fS fdS)
 (DW:gK K f "_law_word" (top 116) ["_law_d"] fW fdW)
 (DWs:gK K f "_law_words" (top 117) ["_law_d","_law_many"] fWs fdWs)
 (DSf:gK K f "_law_small_fields" (top 119) ["_law_d"] fSf fdSf)
 (DCa:gK K f "_law_cast" (top 120) ["_law_d"] fCa fdCa)
 (DA:gK K f "_law_ask" (top 118) ["_law_ask_here"] fA fdA)
 (DI:gK K f "is_name" (top 26) ["text"] fI fdI)
 (DNn:gK K f "need_name" (top 27) ["text"] fNn fdNn)
 (DNf:gK K f "need_fields" (top 28) ["fields"] fNf fdNf)
 (DNp:gK K f "need_pages" (top 52) ["pages"] fNp fdNp)
 (DNr:gK K f "need_room" (top 53) ["room"] fNr fdNr)
 (DNw:gK K f "need_new" (top 87) ["name","borne"] fNw fdNw)
 (DFw:gK K f "need_fewer" (top 88) ["things","most"] fFw fdFw)
 (DTf:gK K f "told_from" (top 54) ["events","place"] fTf fdTf)
 (DPb:gK K f "place_behind" (top 55) ["place","told"] fPb fdPb)
 (DPs:gK K f "passes" (top 75) ["test","kind","values"] fPs fdPs)
 (DPl:gK K f "passes_leaf" (top 76) ["leaf","kind","values"] fPl fdPl)
 (DDk:gK K f "do_kind" (top 91) ["stand","handed"] fDk fdDk)
 (DDl:gK K f "do_lane" (top 92) ["stand","handed"] fDl fdDl)
 (DDc:gK K f "do_claim" (top 94) ["stand","handed"] fDc fdDc)
 (DDf:gK K f "do_fill" (top 95) ["stand","handed"] fDf fdDf)
 (DDg:gK K f "do_give" (top 96) ["stand","handed"] fDg fdDg)
 (DDw:gK K f "do_write" (top 98) ["stand","handed"] fDw fdDw)
 (DDt:gK K f "do_take" (top 99) ["stand","handed"] fDt fdDt)
 (DDs:gK K f "do_stop" (top 104) ["stand","handed"] fDs fdDs)
 (DDgo:gK K f "do_go" (top 105) ["stand","handed"] fDgo fdDgo)
 (DPf:gK K f "perform" (top 108) ["stand","deed"] fPf fdPf)
 (zz:Ql f ["len","range","list","tuple","str","bool","int","min","repr","all","any","isinstance","ValueError","LookupError","dict","enumerate","zip"])
 (B:f "MOST_LETTERS" = some (.int 8 z))
 (J:f "MOST_FIELDS" = some (.int 4 G))
 (i_LIMIT:f "LIMIT" = some (.int 999999 t_LIMIT))
 (D:f "FEWEST_PAGES" = some (.int 2 A))
 (i_MOST_PAGES:f "MOST_PAGES" = some (.int 16 t_MOST_PAGES))
 (i_LEAST_ROOM:f "LEAST_ROOM" = some (.int 5 t_LEAST_ROOM))
 (i_MOST_ROOM:f "MOST_ROOM" = some (.int 12 t_MOST_ROOM))
 (i_MOST_KINDS:f "MOST_KINDS" = some (.int 8 t_MOST_KINDS))
 (M:f "MOST_TRACKS" = some (.int 6 I))
 (cK:CI K f E "Kind" ["name","fields"])
 (aKI:findIn K (.ref E) "__init__" = some (some (.ref fKI)))
 (lKI:K.lookup fKI=some ⟨ocKI,odKI,.func (fnOf "__init__" "Kind.__init__" (cU (kM 0)) (cO (kM 0)) (bK (kM 0)) (.ref TdK) kVKI dcKI pmKI anKI cdKI ctKI),slKI⟩)
 (cKI:codeIn K cdKI "Kind.__init__" = true)
 (kKI:keepIn K (.ref fKI)=true)
 (iKI:isFn K (.ref fKI)=true)
 (lTK:K.lookup TdK=some ⟨ocTK,odTK,.seq #[.ref d0K] nTK,slTK⟩)
 (MLo0:MD K E "lowest" "Kind.lowest" (kM 1) ["self"] fLo0 fdLo0)
 (MCe:MD K E "cells" "Kind.cells" (kM 2) ["self"] fCe fdCe)
 (MNe:MD K E "need" "Kind.need" (kM 4) ["self","values"] fNe fdNe)
 (cC:CI K f N "Claim" ["ticket","time","form","filled","given"])
 (MCI:MD K N "__init__" "Claim.__init__" (cM 0) ["self","ticket","time","kind"] fCI fdCI)
 (MTa:MD K N "told_at" "Claim.told_at" (cM 1) ["self","place"] fTa fdTa)
 (MCt:MD K N "twin" "Claim.twin" (cM 2) ["self"] fCt fdCt)
 (cG:CI K f O "Page" ["claims","used","gone"])
 (MGI:MD K O "__init__" "Page.__init__" (gM 0) ["self"] fGI fdGI)
 (MUn:MD K O "unclosed" "Page.unclosed" (gM 1) ["self"] fUn fdUn)
 (MGt:MD K O "twin" "Page.twin" (gM 3) ["self"] fGt fdGt)
 (cL:CI K f qL "Lane" ["most","room","over","pages","held","told","last_time","tickets","given_in","thrown_back","lost","missed"])
 (aLI:findIn K (.ref qL) "__init__" = some (some (.ref fLI)))
 (lLI:K.lookup fLI=some ⟨ocLI,odLI,.func (fnOf "__init__" "Lane.__init__" (cU (lM 0)) (cO (lM 0)) (bK (lM 0)) .none kVLI dcLI pmLI anLI cdLI ctLI),slLI⟩)
 (cLI:codeIn K cdLI "Lane.__init__" = true)
 (kLI:keepIn K (.ref fLI)=true)
 (iLI:isFn K (.ref fLI)=true)
 (hkL:∀ (S:Setting) (x a b c:Z6),peek K S (bindArgs (fnOf "__init__" "Lane.__init__" (cU (lM 0)) (cO (lM 0)) (bK (lM 0)) .none kVLI dcLI pmLI anLI cdLI ctLI) ⟨[x],[("pages",a),("room",b),("over",c)]⟩)=some ([("self",x),("pages",a),("room",b),("over",c)]:List (Str×Value)))
 (MCm:MD K qL "claim" "Lane.claim" (lM 1) ["self","kind","time"] fCm fdCm)
 (MMr:MD K qL "make_room" "Lane.make_room" (lM 2) ["self","cells"] fMr fdMr)
 (MEl:MD K qL "eldest" "Lane.eldest" (lM 3) ["self"] fEl fdEl)
 (MLe:MD K qL "lose_eldest" "Lane.lose_eldest" (lM 4) ["self"] fLe fdLe)
 (MLv:MD K qL "leave" "Lane.leave" (lM 5) ["self","number"] fLv fdLv)
 (MWt:MD K qL "waiting" "Lane.waiting" (lM 6) ["self"] fWt fdWt)
 (MWw:MD K qL "waiting_with" "Lane.waiting_with" (lM 7) ["self","ticket"] fWw fdWw)
 (MLw:MD K qL "last_waiting" "Lane.last_waiting" (lM 8) ["self","ticket"] fLw fdLw)
 (MFl:MD K qL "fill" "Lane.fill" (lM 9) ["self","ticket","values"] fFl fdFl)
 (MGv:MD K qL "give" "Lane.give" (lM 10) ["self","ticket"] fGv fdGv)
 (MSd:MD K qL "standing" "Lane.standing" (lM 12) ["self"] fSd fdSd)
 (MLk:MD K qL "look" "Lane.look" (lM 13) ["self"] fLk fdLk)
 (MTk:MD K qL "take" "Lane.take" (lM 14) ["self"] fTk fdTk)
 (MHo:MD K qL "hold" "Lane.hold" (lM 15) ["self","place"] fHo fdHo)
 (MPn:MD K qL "pending" "Lane.pending" (lM 16) ["self"] fPn fdPn)
 (MEv:MD K qL "event" "Lane.event" (lM 17) ["self","ticket"] fEv fdEv)
 (MCo:MD K qL "counts" "Lane.counts" (lM 19) ["self"] fCo fdCo)
 (MLt:MD K qL "twin" "Lane.twin" (lM 21) ["self"] fLt fdLt)
 (cY:CI K f Q "Track" ["written","clock","test"])
 (MYI:MD K Q "__init__" "Track.__init__" (tM 0) ["self","written"] fYI fdYI)
 (MTo:MD K Q "top" "Track.top" (tM 1) ["self"] fTo fdTo)
 (MYt:MD K Q "twin" "Track.twin" (tM 2) ["self"] fYt fdYt)
 (cX:CI K f U "Stand" ["pages","room","known","tracks","counters","still","halting"])
 (MXI:MD K U "__init__" "Stand.__init__" (sM 0) ["self","pages","room"] fXI fdXI)
 (MXt:MD K U "track_of" "Stand.track_of" (sM 1) ["self","name"] fXt fdXt)
 (MXk:MD K U "kind_of" "Stand.kind_of" (sM 2) ["self","name"] fXk fdXk)
 (MXl:MD K U "looks" "Stand.looks" (sM 4) ["self"] fXl fdXl)
 (MXw:MD K U "twin" "Stand.twin" (sM 5) ["self"] fXw fdXw)
 (cR:CI K f qR "Recorder" ["stand","past","undone"])
 (aRI:findIn K (.ref qR) "__init__" = some (some (.ref fRI)))
 (lRI:K.lookup fRI=some ⟨ocRI,odRI,.func (fnOf "__init__" "Recorder.__init__" (cU (rM 0)) (cO (rM 0)) (bK (rM 0)) .none kVRI dcRI pmRI anRI cdRI ctRI),slRI⟩)
 (cRI:codeIn K cdRI "Recorder.__init__" = true)
 (kRI:keepIn K (.ref fRI)=true)
 (iRI:isFn K (.ref fRI)=true)
 (hkR:∀ (S:Setting) (x a b:Z6),peek K S (bindArgs (fnOf "__init__" "Recorder.__init__" (cU (rM 0)) (cO (rM 0)) (bK (rM 0)) .none kVRI dcRI pmRI anRI cdRI ctRI) ⟨[x],[("pages",a),("room",b)]⟩)=some ([("self",x),("pages",a),("room",b)]:List (Str×Value)))
 (MRc:MD K qR "claim" "Recorder.claim" (rM 4) ["self","lane","kind"] fRc fdRc)
 (MRw:MD K qR "write" "Recorder.write" (rM 8) ["self","lane","kind","values"] fRw fdRw)
 (MRt:MD K qR "take" "Recorder.take" (rM 9) ["self","lane"] fRt fdRt)
 (MRs:MD K qR "stop" "Recorder.stop" (rM 14) ["self"] fRs fdRs)
 (MRg:MD K qR "go" "Recorder.go" (rM 15) ["self"] fRg fdRg)
 (MRd:MD K qR "do" "Recorder.do" (rM 17) ["self","deed"] fRd fdRd)
 (MRo:MD K qR "counts" "Recorder.counts" (rM 29) ["self","lane"] fRo fdRo)
 (MRl:MD K qR "__len__" "Recorder.__len__" (rM 37) ["self"] fRl fdRl)
 (aRn:findIn K (.ref qR) "lane" = some (some (.ref fRn)))
 (iRn:isFn K (.ref fRn)=true)
 (lRn:K.lookup fRn=some ⟨ocRn,odRn,.func (fnOf "lane" "Recorder.lane" (cU (rM 2)) (cO (rM 2)) (bK (rM 2)) .none kVRn dcRn pmRn anRn cdRn ctRn),slRn⟩)
 (cRn:codeIn K cdRn "Recorder.lane" = true)
 (kRn:keepIn K (.ref fRn)=true)
 (hkRn:∀ (S:Setting) (x a b:Z6),peek K S (bindArgs (fnOf "lane" "Recorder.lane" (cU (rM 2)) (cO (rM 2)) (bK (rM 2)) .none kVRn dcRn pmRn anRn cdRn ctRn) ⟨[x,a],[("over",b)]⟩)=some ([("self",x),("name",a),("over",b)]:List (Str×Value)))
 (aRk:findIn K (.ref qR) "kind" = some (some (.ref fRk)))
 (iRk:isFn K (.ref fRk)=true)
 (lRk:K.lookup fRk=some ⟨ocRk,odRk,.func (fnOf "kind" "Recorder.kind" (cU (rM 1)) (cO (rM 1)) (bK (rM 1)) (.ref TdRk) kVRk dcRk pmRk anRk cdRk ctRk),slRk⟩)
 (cRk:codeIn K cdRk "Recorder.kind" = true)
 (kRk:keepIn K (.ref fRk)=true)
 (lTRk:K.lookup TdRk=some ⟨ocTRk,odTRk,.seq #[.ref d0Rk] nTRk,slTRk⟩)
 (neKC:E≠N)
 (neKG:E≠O)
 (neKL:E≠qL)
 (neKY:E≠Q)
 (neKX:E≠U)
 (neKR:E≠qR)
 (neCG:N≠O)
 (neCL:N≠qL)
 (neCY:N≠Q)
 (neCX:N≠U)
 (neCR:N≠qR)
 (neGL:O≠qL)
 (neGY:O≠Q)
 (neGX:O≠U)
 (neGR:O≠qR)
 (neLY:qL≠Q)
 (neLX:qL≠U)
 (neLR:qL≠qR)
 (neYX:Q≠U)
 (neYR:Q≠qR)
 (neXR:U≠qR)
 (a_tD:f "DEEDS" = some (.ref tD))
 (ax_do_tick:f "do_tick" = some (.ref o))
 (ax_do_throw:f "do_throw" = some (.ref h))
 (ax_do_resize:f "do_resize" = some (.ref g))
 (ax_do_sieve:f "do_sieve" = some (.ref i))
 (ax_do_tally:f "do_tally" = some (.ref j))
 (ax_do_halt:f "do_halt" = some (.ref p))
 (ax_do_whole:f "do_whole" = some (.ref n))
 (ktD:PyProof.Rows.KTD.tabLook m_ (fun b=>K.lookup b) tD [("kind",fDk),("lane",fDl),("tick",o),("claim",fDc),("fill",fDf),("give",fDg),("throw",h),("write",fDw),("take",fDt),("resize",g),("sieve",i),("tally",j),("halt",p),("stop",fDs),("go",fDgo),("whole",n)]=true)
 (a_qS:f "ScribeError" = some (.ref qS))
 (a_qV:f "BadValue" = some (.ref qV))
 (a_qM:f "Missing" = some (.ref qM))
 (xS:XS K qS [qS] "ValueError" "ValueError.__new__")
 (xV:XS K qV [qV,qS] "ValueError" "ValueError.__new__")
 (xM:XS K qM [qM] "LookupError" "LookupError.__new__")
 (aSE:findIn K (.ref qS) "__init__" = some (some (.ref fSE)))
 (lSE:K.lookup fSE=some ⟨ocSE,odSE,.func (fnOf "__init__" "ScribeError.__init__" (cU Mz) (cO Mz) (bK Mz) (.ref TS) kVSE dcSE pmSE anSE cdSE ctSE),slSE⟩)
 (cSE:codeIn K cdSE "ScribeError.__init__" = true)
 (kSE:keepIn K (.ref fSE)=true)
 (lTS:K.lookup TS=some ⟨ocTS,odTS,.seq #[dS1,dS2] nTS,slTS⟩)
 (fc:findCls K (.type "ValueError") (.type "type") "__init__" = some (.val (.builtin "ValueError.__init__")))
 (sg:specialIn K (.ref qS) "__getattribute__" = some (some (.builtin "type.__getattribute__")))
 (rd1:readsIn K qS (.type "type")=true)
 (rd2:findCls K (.ref qS) (.type "type") "__init__" = some (.val (.ref fSE)))
 (aMI:findIn K (.ref qM) "__init__" = some (some (.ref fMI)))
 (lMI:K.lookup fMI=some ⟨ocMI,odMI,.func (fnOf "__init__" "Missing.__init__" (cU Og) (cO Og) (bK Og) (.ref TM) kVMI dcMI pmMI anMI cdMI ctMI),slMI⟩)
 (cMI:codeIn K cdMI "Missing.__init__" = true)
 (kMI:keepIn K (.ref fMI)=true)
 (lTM:K.lookup TM=some ⟨ocTM,odTM,.seq #[dM1,dM2] nTM,slTM⟩)
 (fcM:findCls K (.type "LookupError") (.type "type") "__init__" = some (.val (.builtin "LookupError.__init__")))
 (sgM:specialIn K (.ref qM) "__getattribute__" = some (some (.builtin "type.__getattribute__")))
 (rdM1:readsIn K qM (.type "type")=true)
 (rdM2:findCls K (.ref qM) (.type "type") "__init__" = some (.val (.ref fMI)))
 (a_qN:f "NoKind" = some (.ref qN))
 (xN:XS K qN [qN,qM] "LookupError" "LookupError.__new__")
 (tkN:takerIn K qN "word" = some none)
 (aiN:findIn K (.ref qN) "__init__" = some (some (.ref fiN)))
 (liN:K.lookup fiN=some ⟨ociN,odiN,.func (fnOf "__init__" "NoKind.__init__" (cU lL) (cO lL) (bK lL) (.ref TdN) kViN dciN pmiN aniN cdiN ctiN),sliN⟩)
 (ciN:codeIn K cdiN "NoKind.__init__" = true)
 (kiN:keepIn K (.ref fiN)=true)
 (niN:isFn K (.ref fiN)=true)
 (lTN:K.lookup TdN=some ⟨ocTN,odTN,.seq #[diN] nTN,slTN⟩)
 (mvN:mroIn K qN (.ref qV)=some false)
 (msN:mroIn K qN (.ref qS)=some false)
 (mmN:mroIn K qN (.ref qM)=some true)
 (g1N:findIn K (.ref qN) "__getattribute__" = some (some (.builtin "BaseException.__getattribute__")))
 (g2N:findIn K (.ref qN) "__getattr__" = some none)
 (g3N:hasDictIn K qN=true)
 (g4N:findIn K (.ref qN) "word" = some none)
 (g5N:mroIn K qN (.type "BaseException")=some true)
 (a_qT:f "Stopped" = some (.ref qT))
 (xT:XS K qT [qT,qS] "ValueError" "ValueError.__new__")
 (tkT:takerIn K qT "word" = some none)
 (aiT:findIn K (.ref qT) "__init__" = some (some (.ref fiT)))
 (liT:K.lookup fiT=some ⟨ociT,odiT,.func (fnOf "__init__" "Stopped.__init__" (cU jQ) (cO jQ) (bK jQ) (.ref TdT) kViT dciT pmiT aniT cdiT ctiT),sliT⟩)
 (ciT:codeIn K cdiT "Stopped.__init__" = true)
 (kiT:keepIn K (.ref fiT)=true)
 (biT:findIn K (.ref qT) "__init__" = some (some (.ref fiT)))
 (niT:isFn K (.ref fiT)=true)
 (lTT:K.lookup TdT=some ⟨ocTT,odTT,.seq #[diT] nTT,slTT⟩)
 (mvT:mroIn K qT (.ref qV)=some false)
 (msT:mroIn K qT (.ref qS)=some true)
 (g1T:findIn K (.ref qT) "__getattribute__" = some (some (.builtin "BaseException.__getattribute__")))
 (g2T:findIn K (.ref qT) "__getattr__" = some none)
 (g3T:hasDictIn K qT=true)
 (g4T:findIn K (.ref qT) "word" = some none)
 (g5T:mroIn K qT (.type "BaseException")=some true) :
 ∃ (fd:Z3) (sp:Sp),(∀ (s:Z1) (u:Z6),BindsTo s fd ⟨[u],[]⟩ [("_law_script",u)])/\(∀ T∈[Tm,Tt],K.lookup T=none/\∃ c,L2.tabIn K c=some T)/\
  (∀ (H:Hp) (a:Z0) (ns:List Int),ns.length≤63->(∀ T∈[Tm,Tt],H T=some (.tbl #[]))->dR K H a (ns.map V.int)->sp [.ref a] H (fun v _=>v=.bl true) fun _ _ _=>False)/\
  ∀ d:Heap,K.In d->d.Ns mainGlobals f->(∀ T∈[Tm,Tt],d.BuiltinsAt f T/\mainGlobals≠T)->cD l.prog w K f d dI 17 fa fd ["_law_script"] sp:=by
 cases hfa.symm.trans aLa;obtain ⟨a0,aB,aT,aC,aD,aU,a1,a2,aV,a3,a4,X,Y,F,aW,ab,a5,_⟩:=zz;have T:Txt K f:=⟨a0,aB,aT,aC,aD,aU,a1,a2,aV,a3,a4,X⟩;have TE:Lp K f:=⟨Y,fc⟩;have a7:jH K "__init__" "ScribeError.__init__" Mz (.ref TS) fSE _:=⟨⟨_,_,_,_,_,_,_,_,_,rfl,lSE,cSE⟩,kSE⟩;have bB:=a7.binds (ps:=["self","words","word"]) (ds:=[]) lTS rfl fun kV aq pm an ar ct s us hT hl=>(by rw [aaO] at hl ⊢;obtain ⟨_,_,_,rfl⟩:=Bp hl;exact abM rfl hT rfl rfl rfl);have MS:Jc K f "ScribeError" qS fSE:=⟨ a_qS,sg,⟨_,rd1,rd2⟩,kSE⟩;have a8:jH K "__init__" "Stopped.__init__" jQ (.ref TdT) fiT _:=⟨⟨_,_,_,_,_,_,_,_,_,rfl,liT,ciT⟩,kiT⟩;have bC:=a8.binds (ps:=["self","words"]) (ds:=[]) lTT rfl fun kV aq pm an ar ct s us hT hl=>(by rw [aaO] at hl ⊢;obtain ⟨_,_,rfl⟩:=FN hl;exact abM rfl hT rfl rfl rfl);have bD:Iz K qT:=⟨xT.ok Cg,tkT⟩;have TA:RV K f qV qS qM:=⟨aD,a_qV,a_qS,a_qM,⟨_,_,xV.ok Cg⟩,⟨_,_,xS.ok Cg⟩,⟨_,_,xM.ok JX⟩⟩;have a9:jH K "__init__" "Kind.__init__" (kM 0) (.ref TdK) fKI _:=⟨⟨_,_,_,_,_,_,_,_,_,rfl,lKI,cKI⟩,kKI⟩;have bb:=a9.binds (ps:=["self","name","fields"]) (ds:=[]) lTK rfl fun kV aq pm an ar ct s us hT hl=>BW rfl kV aq pm an ar ct s us hT hl;have bc:Mk K E fKI:=⟨cK.ma,aKI,iKI,cK.kc⟩;obtain ⟨aE,ai,_⟩:=cK.n;have bd:Mk K N fCI:=⟨cC.ma,MCI.M.1,MCI.M.2,cC.kc⟩;obtain ⟨aj,aF,aG,ak,au,_⟩:=cC.n;have aX:Mk K O fGI:=⟨cG.ma,MGI.M.1,MGI.M.2,cG.kc⟩;obtain ⟨al,aH,aI,_⟩:=cG.n;have bE:=ii (st:=lM 0) lLI cLI kLI;have be:Mk K qL fLI:=⟨cL.ma,aLI,iLI,cL.kc⟩;obtain ⟨aJ,aL,aM,av,aN,aO,aa,ae,ac,y,aP,am,_⟩:=cL.n;have bf:Mk K Q fYI:=⟨cY.ma,MYI.M.1,MYI.M.2,cY.kc⟩;obtain ⟨af,aw,aQ,_⟩:=cY.n;have bg:Mk K U fXI:=⟨cX.ma,MXI.M.1,MXI.M.2,cX.kc⟩;obtain ⟨ax,aR,ay,ao,ad,az,ag,_⟩:=cX.n;have bF:=ii (st:=rM 0) lRI cRI kRI;have bG:Mk K qR fRI:=⟨cR.ma,aRI,iRI,cR.kc⟩;obtain ⟨aA,aS,ap,_⟩:=cR.n;have bH:Np K f:=⟨F,fcM⟩;have bh:jH K "__init__" "Missing.__init__" Og (.ref TM) fMI _:=⟨⟨_,_,_,_,_,_,_,_,_,rfl,lMI,cMI⟩,kMI⟩;have bI:=bh.binds (ps:=["self","words","word"]) (ds:=[]) lTM rfl fun kV aq pm an ar ct s us hT hl=>(by rw [aaO] at hl ⊢;obtain ⟨_,_,_,rfl⟩:=Bp hl;exact abM rfl hT rfl rfl rfl);have MM:Jc K f "Missing" qM fMI:=⟨ a_qM,sgM,⟨_,rdM1,rdM2⟩,kMI⟩;have bi:jH K "__init__" "NoKind.__init__" lL (.ref TdN) fiN _:=⟨⟨_,_,_,_,_,_,_,_,_,rfl,liN,ciN⟩,kiN⟩;have bJ:=bi.binds (ps:=["self","words"]) (ds:=[]) lTN rfl fun kV aq pm an ar ct s us hT hl=>(by rw [aaO] at hl ⊢;obtain ⟨_,_,rfl⟩:=FN hl;exact abM rfl hT rfl rfl rfl);have bL:J1 K qN:=⟨xN.ok JX,tkN⟩;have bM:=ii (st:=rM 2) lRn cRn kRn;have bj:jH K "kind" "Recorder.kind" (rM 1) (.ref TdRk) fRk _:=⟨⟨_,_,_,_,_,_,_,_,_,rfl,lRk,cRk⟩,kRk⟩;have bN:=bj.binds (ps:=["self","name","fields"]) (ds:=[]) lTRk rfl fun kV aq pm an ar ct s us hT hl=>(by rw [aaO] at hl ⊢;obtain ⟨_,_,_,rfl⟩:=Bp hl;exact abM rfl hT rfl rfl rfl);refine ⟨fnOf "law" "law" (cU (top 121)) (cO (top 121)) (bK (top 121)) .none kVLa dcLa pmLa anLa (.ref cc) ctLa,JH K Tt #[],fun s v=>.of_eq rfl,fun T m=>by (rcases aaf.mp m with e|m);exact e ▸ ⟨lTm,ccm,tbm⟩;exact (aai.mp m) ▸ ⟨lTt,cc,tb⟩,fun H a ns hl hT hS=>⟨a,ns,rfl,hS,hl,hT _ (aag _ (aai.mpr rfl)),fun _=>rfl⟩,fun d a6 b2 bA=>?_⟩;obtain ⟨b1,hg⟩:=bA Tt (aag _ (aai.mpr rfl));have bl:Aa f:=⟨⟨_,B⟩,⟨_,J⟩,⟨_,i_LIMIT⟩⟩;have TL:Dc f:=⟨⟨_,D⟩,⟨_,i_MOST_PAGES⟩,⟨_,i_LEAST_ROOM⟩,⟨_,i_MOST_ROOM⟩⟩;have bm:M7 f:=⟨⟨_,i_MOST_KINDS⟩,⟨_,M⟩⟩;have KC:KCls K f E:=⟨cK.c,aE,ai,cK.a⟩;have L:LZ K f ⟨E,N,O,qL⟩:=⟨⟨neKC,neKG,neKL,neCG,neCL,neGL⟩,KC,cC.c,cC.a,aj,aF,aG,ak,au,cG.c,cG.a,al,aH,aI,cL.c,cL.a,aJ,aL,aM,av,aN,aO,aa,ae,ac,y,aP,am⟩;have W:TZ K f Q:=⟨cY.c,cY.a,af,aw,aQ⟩;have q:SZ K f U:=⟨cX.c,aW,cX.a,ax,aR,ay,ao,ad,az,ag⟩;have r:RZ K f qR:=⟨cR.c,cR.a,aA,aS,ap⟩;have ne:uX ⟨E,N,O,qL⟩ Q U:=⟨neKX,neCX,neGX,neLX,neYX⟩;have cn:Oz ⟨E,N,O,qL⟩ Q:=⟨neKY.symm,neCY.symm,neGY.symm,neLY.symm⟩;have bn:=IW hkL;have bo:=Jq (P:=l.prog) (w:=w) (base:=d) a9 T bl KC DI DNn DNf;have bp:=Sh (P:=l.prog) (w:=w) (base:=d) MCI.F L bc bo bb MLo0 (Bc MLo0.F T KC);have bq:=QD (P:=l.prog) (w:=w) (base:=d) bE L TL DNp DNr aX MGI.F MGI.b;have bO:=Ra (P:=l.prog) (w:=w) (base:=d) MMr.F T L MEl MUn MLe (Td MLe.F T L MEl MLv) aX MGI.F MGI.b;have bP:=S6 (P:=l.prog) (w:=w) (base:=d) MCm.F T L MMr bO MCe bd bp MCI.b;have aY:=Rw (P:=l.prog) (w:=w) (base:=d) MWt.F L MUn;have aZ:=Ti (P:=l.prog) (w:=w) (base:=d) MWw.F L MWt aY;have br:=Ru (P:=l.prog) (w:=w) (base:=d) MLk.F L MSd (PL MSd.F L MTa) DTf;have bQ:=SJ (P:=l.prog) (w:=w) (base:=d) MTk.F T L MLk br MHo (Q_ MHo.F T L MLv) DPb;have bR:=T8 (P:=l.prog) (w:=w) (base:=d) MGv.F L MLw (RN MLw.F L MWt aY MWw aZ);have bS:=Qt (P:=l.prog) (w:=w) (base:=d) MFl.F T ab a5 L MWw aZ MNe;have bT:=Pk (P:=l.prog) (w:=w) (base:=d) MLt.F L be bq bn MGt (T4 MGt.F L aX MGI.F MGI.b MCt (Pu MCt.F L bd bp MCI.b));have bU:=RJ (P:=l.prog) (w:=w) (base:=d) MYt.F L W ⟨neLY,neGY,neCY,neKY⟩ bf MYI.F MYI.b MLt bT;have bu:=Q3 (P:=l.prog) (w:=w) (base:=d) MXI.F q TL DNp DNr;have bV:=R8 (P:=l.prog) (w:=w) (base:=d) MXw.F q W ne bg MXI.b bu MYt bU;have bW:=Bo (P:=l.prog) (w:=w) (base:=d) (CX:=dI) bi bH bh bI MM;have bX:=xK (P:=l.prog) (w:=w) (base:=d) (CX:=dI) a8 TE a7 bB MS;have bv:=M3 (P:=l.prog) (w:=w) (base:=d) (Z:=⟨E,N,O,qL⟩) (C:=Q) MXk.F q a_qN bL aiN niN bJ bW;have bw:=N5 (P:=l.prog) (w:=w) (base:=d) MTo.F T L W MPn (Sv MPn.F L MWt aY);have bx:=T9 (P:=l.prog) (w:=w) (base:=d) DDc.F L W q ne cn MXt MXk bv MCm bP a_qT bD biT niT bC bX;have bY:=PP (P:=l.prog) (w:=w) (base:=d) DDf.F T L W q ne cn MXt MTo bw MFl bS;have bZ:=Qc (P:=l.prog) (w:=w) (base:=d) DDg.F T L W q ne cn MXt MXk bv MTo bw MEv (Rn MEv.F L MWw aZ) MGv bR DPs DPl;have bz:=Mu (P:=l.prog) (w:=w) (base:=d) DNw.F T bl DI DNn;have b0:Wm K f tD [("kind",fDk),("lane",fDl),("tick",o),("claim",fDc),("fill",fDf),("give",fDg),("throw",h),("write",fDw),("take",fDt),("resize",g),("sieve",i),("tally",j),("halt",p),("stop",fDs),("go",fDgo),("whole",n)]:=⟨a_tD,ktD⟩;have ah:=Rk (P:=l.prog) (w:=w) (base:=d) (R:=qR) MRd.F r q neKR MXw bV DPf b0;have d1:lW l.prog w K f d fDl (Li ⟨E,N,O,qL⟩ Q U K) false:=⟨⟨_,DDl.b,by rw [aac aaz];exact ⟨5,by decide,Rt DDl.F T bm L W q ne DNw bz DFw be bq bn bf MYI.F MYI.b⟩⟩,DDl.F.kp⟩;have d2:lW l.prog w K f d fDk (Mm ⟨E,N,O,qL⟩ Q U K) false:=⟨⟨_,DDk.b,by rw [aac aaz];exact ⟨6,by decide,Rh DDk.F T bm L q ne DNw bz DFw bc bo bb⟩⟩,DDk.F.kp⟩;have d3:lW l.prog w K f d fDs (A_ ⟨E,N,O,qL⟩ Q U K true) false:=⟨⟨_,DDs.b,by rw [aac aaz];exact ⟨1,by decide,RK DDs.F q ne⟩⟩,DDs.F.kp⟩;have d4:lW l.prog w K f d fDgo (A_ ⟨E,N,O,qL⟩ Q U K false) false:=⟨⟨_,DDgo.b,by rw [aac aaz];exact ⟨1,by decide,Ms DDgo.F q ne⟩⟩,DDgo.F.kp⟩;have d5:lW l.prog w K f d fDt (Oo ⟨E,N,O,qL⟩ Q U K) false:=⟨⟨_,DDt.b,by rw [aac aaz];exact ⟨5,by decide,S_ DDt.F L W q ne cn MXt MTk bQ⟩⟩,DDt.F.kp⟩;have d6:lW l.prog w K f d fDc (Ir ⟨E,N,O,qL⟩ Q U K qN qT) true:=⟨⟨_,DDc.b,by rw [aad rfl];exact ⟨9,by decide,bx⟩⟩,DDc.F.kp⟩;have d7:lW l.prog w K f d fDw (N8 ⟨E,N,O,qL⟩ Q U K qN qT) true:=⟨⟨_,DDw.b,by rw [aad rfl];exact ⟨10,by decide,Tu DDw.F DDc bx DDf bY DDg bZ⟩⟩,DDw.F.kp⟩;have BR:QS K qN qT qV qS qM:=⟨mvN,msN,mmN,⟨g1N,g2N,g3N,g4N,g5N⟩,mvT,msT,⟨g1T,g2T,g3T,g4T,g5T⟩⟩;have GA:=O7 (P:=l.prog) (w:=w) (base:=d) (CX:=dI) (k:=15) DA.F TA;exact Oc lLa cLa (K4 a6 tb) b1 hg trivial (fun lp m=>rfl) T r BR DB DP DO DS DCa (Ja DCa.F T DP DO DW DWs DSf) bG (R4 bF r q neXR bg MXI.b bu) (Lj hkR) ⟨aRn,iRn,kRn⟩ (Ex bM r MRd ah (by kernel_rfl) d1) (Hh hkRn) ⟨⟨aRk,iRk,kRk⟩,bN⟩ (E_ bj r MRd ah (by kernel_rfl) d2) ⟨MRo.M,MRo.b⟩ (Q0 MRo.F L r q W MXt MCo) ⟨MRw.M,MRw.b⟩ (zW MRw.F r MRd ah (by kernel_rfl) d7) ⟨MRc.M,MRc.b⟩ (Ak MRc.F r MRd ah (by kernel_rfl) d6) ⟨MRs.M,MRs.b⟩ (Dj MRs.F r MRd ah (by kernel_rfl) d3) ⟨MRg.M,MRg.b⟩ (Lg MRg.F r MRd ah (by kernel_rfl) d4) ⟨MRt.M,MRt.b⟩ (Dk MRt.F r MRd ah (by kernel_rfl) d5) ⟨MRl.M,MRl.b⟩ (Q8 MRl.F T r q MXl (Mp MXl.F L q W ne MLk br)) GA DA.mg DA.F.kp DA.b
end Cm
open PySem PySem.W PyProof.Rows
set_option maxRecDepth 100000 in
set_option maxHeartbeats 0 in
theorem PySem.Challenge.cw_lanescribe_k64_missed_and_stopped_at_onc_holds : PySem.Challenge.rw_lanescribe_k64_missed_and_stopped_at_onc.Holds := by
 w_on
 refine Kd.head ?hw (by rfl) (by rfl) (by rfl) ?hc
 (case hw=>w_witness2)
 k_fill
 refine L2.BJ (l:=PySem.Challenge.rw_lanescribe_k64_missed_and_stopped_at_onc) (n:=63) (k:=17) (x:="_law_script") (CX:=fun _=>L2.dI) rfl (by decide) rfl ⟨rfl,by decide,by decide,rfl⟩ (fun w h Y=>km_in_of Y) (fun w h Y=>km_tabs_of Y) ?F (fun _ _ _ _ _ z=>z)
 case F=>
  intro w c d h a G b;apply Cm.NQ b
  any_goals first|k_is|((with_reducible refine mg_of a G ?_);k_is)|((with_reducible show Cm.MD _ _ _ _ _ [_] _ _);exact Cm.Xr (by k_is) (by k_is) (by k_is) (by k_is) (by k_is) fun _ _ _ _ _ _ _=>rfl)|((with_reducible show Cm.MD _ _ _ _ _ [_,_] _ _);exact Cm.Xi (by k_is) (by k_is) (by k_is) (by k_is) (by k_is) fun _ _ _ _ _ _ _ _=>rfl)|((with_reducible show Cm.MD _ _ _ _ _ [_,_,_] _ _);exact Cm.XF (by k_is) (by k_is) (by k_is) (by k_is) (by k_is) fun _ _ _ _ _ _ _ _ _=>rfl)|((with_reducible show Cm.MD _ _ _ _ _ [_,_,_,_] _ _);exact Cm.Xp (by k_is) (by k_is) (by k_is) (by k_is) (by k_is) fun _ _ _ _ _ _ _ _ _ _=>rfl)|((with_reducible show L2.gK _ _ _ _ [_] _ _);exact Cm.Xo a G (by k_is) (by k_is) (by k_is) (by k_is) fun _ _ _ _ _ _ _=>rfl)|((with_reducible show L2.gK _ _ _ _ [_,_] _ _);exact Cm.XM a G (by k_is) (by k_is) (by k_is) (by k_is) fun _ _ _ _ _ _ _ _=>rfl)|((with_reducible show L2.gK _ _ _ _ [_,_,_] _ _);exact Cm.XZ a G (by k_is) (by k_is) (by k_is) (by k_is) fun _ _ _ _ _ _ _ _ _=>rfl)|((with_reducible show Cm.CI _ _ _ _ _);exact Cm.ci a G (by k_is) (by k_is) (by k_is) (by k_is) (by k_is) (by k_is) (by k_is) (by repeat first|exact trivial|refine ⟨by k_is,?_⟩))|((with_reducible refine Cm.XS.mk ?_ ?_ ?_ ?_ ?_)<;>first|k_is|kernel_rfl)|(repeat first|exact trivial|refine ⟨mg_none_of a G (by k_is),?_⟩)|skip
  any_goals first|kernel_rfl|decide|(intros;kernel_rfl)|skip
