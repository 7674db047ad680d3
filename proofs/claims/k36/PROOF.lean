import PyProof.Rows.All
import Wide.All
import OpenK.AllK
import Wide.FinOn
import KE.KNestM
import Lean
import PyProof.EqAt
import PyProof.EqKinds
import PyProof.TupleCall
import PyProof.StationsW
import PyProof.ExcBaseAll.ValueError
import PyProof.InstStoreFacts
import PyProof.RulesAs
import PyProof.RulesDel
import KE.KLam
import PyProof.ExcArgsOwn
import PyProof.AutoListH
import PyProof.StrWalks
import PyProof.StrBlockH
import PyProof.WalkInts
import PyProof.SeqI3
import PyProof.Rows.SetFrom
import PyProof.ZipIter
import KE.KTabLook
import PyProof.StrLaws
import KE.KIntText
import KE.KStrOpen
import PyProof.StrLawsTight
import PyProof.Rows.StrFit
import PyProof.Draws
import PyProof.EnumMake
import PyProof.StrCalls2
import PyProof.Rows.StrSplitJoin
import PyProof.CollectIter
import PyProof.StrBlock2
import PyProof.Rows.SortWalk
import PyProof.Rows.CallKwBuiltin
import KE.KMinBuiltin
import KE.KRevSl
import PyProof.DictItemsLoops
import PyProof.CollectWalk
import PyProof.ListRange
import KE.KSortAsk
import PyProof.SetRoads
import KE.KRevIter
import PyProof.FactsAll.range_2
import PyProof.IsRules
import PyProof.DictItems
import KE.KSortTup
import PyProof.DictWalks
import PyProof.Rows.SortStr
import PySem.Challenge.RW_lanescribe_k36_recorders_begun_and_full
abbrev Zl:=PySem.Addr
abbrev Zp:=PySem.Shared
abbrev Zs:=PySem.W.Frag
abbrev ZA:=PySem.FuncData
abbrev ZB:=PySem.Program
abbrev ZE:=PySem.World
abbrev ZH:=PySem.Value
abbrev ZI:=PySem.Heap
abbrev ZN:=PySem.Around
abbrev ZO:=PySem.Expr
abbrev ZT:=PySem.Scope
abbrev ZU:=PySem.Value→PySem.Shared→Prop
abbrev ZY:=PySem.Str→Option PySem.Value
abbrev Y1:=List PySem.Str
abbrev Y2:=List PySem.Value
abbrev Y3:=Array PySem.Value
abbrev YA:=Option PySem.Addr
abbrev YE:=List PySem.Addr
abbrev YI:=List (PySem.Addr×PySem.Obj)
abbrev YN:=PySem.Result→PySem.Shared→Prop
abbrev YO:=List (PySem.Str×PySem.Addr)
abbrev YR:=List PySem.Expr
abbrev YU:=Array (Option PySem.Value)
abbrev aaa:=@PySem.wpAny_bind
abbrev aab:=@if_neg
abbrev aac:=@if_pos
abbrev aad:=@PySem.wpAny_pure
abbrev aae:=@Nat.le_refl
abbrev aaf:=@PySem.Heap.lt_size
abbrev aag:=@List.length_map
abbrev aah:=@List.mem_cons
abbrev aai:=@PySem.Heap.get?_push_of_some
abbrev aaj:=@Nat.le_trans
abbrev aak:=@List.mem_singleton
abbrev aal:=@Nat.ne_of_lt
abbrev aam:=@List.mem_append
abbrev aan:=@List.mem_cons_of_mem
abbrev aao:=@List.mem_cons_self
abbrev aap:=@List.size_toArray
abbrev aaq:=@List.mem_of_getElem?
abbrev aar:=@Nat.lt_of_lt_of_le
abbrev aas:=@Ne.symm
abbrev aat:=@PySem.wpAny_mono
abbrev aau:=@List.mem_append_right
abbrev aav:=@PySem.Heap.get?_push_size
abbrev aaw:=@List.map_cons
abbrev aax:=@congrArg
abbrev aay:=@Bool.false_ne_true
abbrev aaz:=@List.getElem?_map
abbrev aaA:=@List.length_cons
abbrev aaB:=@List.mem_map
abbrev aaC:=@List.getElem?_eq_getElem
abbrev aaD:=@List.length_append
abbrev aaE:=@decide_eq_false
abbrev aaF:=@True.intro
abbrev aaG:=@List.mem_append_left
abbrev aaH:=@decide_eq_true
abbrev aaI:=@List.map_append
abbrev aaJ:=@List.length_take
abbrev aaK:=@PySem.Heap.get?_update_other
abbrev aaL:=@PySem.Str.length_append
abbrev aaM:=@Option.some.inj
abbrev aaN:=@Nat.lt_irrefl
abbrev aaO:=@List.append_nil
abbrev aaP:=@Bool.and_eq_true
abbrev aaQ:=@List.getElem?_eq_some_iff
abbrev aaR:=@Nat.zero_le
abbrev aaS:=@PySem.wpAny_holding
abbrev aaT:=@PySem.wpAny_field
abbrev aaU:=@PySem.wpAny_newObj_type
abbrev aaV:=@List.all_eq_true
abbrev aaW:=@beq_iff_eq
abbrev aaX:=@List.take_add_one
abbrev aaY:=@PySem.Heap.get?_update_self
abbrev aaZ:=@PySem.F.plainAttrs_list
abbrev aa0:=@List.mem_flatMap
abbrev aa1:=@Nat.le_of_lt
abbrev aa2:=@List.not_mem_nil
abbrev aa3:=@PySem.F.excBase_ValueError
abbrev aa4:=@PySem.wpAny_standAt
abbrev aa5:=@PySem.F.slot_list_append
abbrev aa6:=@List.mem_iff_getElem?
abbrev aa7:=@PySem.wpAny_truthy_bool
abbrev aa8:=@PySem.wpAny_call
abbrev aa9:=@PySem.wpAny_Call_Name_kw
abbrev aba:=@List.nodup_cons
abbrev abb:=@PySem.mem_of_lookup
abbrev abc:=@List.lookup_cons
abbrev abd:=@Bool.false_eq_true
abbrev abe:=@PySem.F.type_list_append
abbrev abf:=@PySem.Paired.length
abbrev abg:=@Nat.le_succ
abbrev abh:=@PySem.wpAny_call_entry
abbrev abi:=@Array.getElem?_eq_some_iff
abbrev abj:=@List.take_of_length_le
abbrev abk:=@List.nodup_nil
abbrev abl:=@PySem.BindsTo.of_defaults
abbrev abm:=@PySem.Str.empty_append
abbrev abn:=@List.nodup_append
abbrev abo:=@PySem.wpAny_Name
abbrev abp:=@Bool.eq_iff_iff
abbrev abq:=@PySem.Heap.size_push
abbrev abr:=@PySem.wpAny_setField
abbrev abt:=@Nat.lt_succ_self
abbrev abu:=@decide_eq_true_eq
abbrev abv:=@PySem.PassesOwn.never
abbrev abw:=@Array.all_toList
abbrev abx:=@Option.none_or
abbrev aby:=@beq_eq_false_iff_ne
abbrev abz:=@Bool.false_and
abbrev abA:=@Nat.le_of_eq
abbrev abB:=@PySem.wpAny_rule
abbrev abC:=@PySem.Obj.data_mapFields
abbrev abD:=@Bool.true_and
abbrev abE:=@Option.map_eq_some_iff
abbrev abF:=@Nat.ne_of_gt
abbrev abG:=@Int.toNat_natCast
abbrev abH:=@PyProof.Rows.slot_tuple_getitem
abbrev abI:=@PySem.wpAny_typeOf
abbrev abJ:=@List.all_cons
abbrev abK:=@List.any_cons
abbrev abL:=@List.find?_cons
abbrev abM:=@PySem.W.kia_one
abbrev abN:=@PySem.W.kia_tup
abbrev abO:=@List.sum_cons
abbrev abP:=@PySem.wpAny_updateSeq
abbrev abQ:=@Int.emod_nonneg
abbrev abR:=@Int.emod_lt_of_pos
abbrev abS:=@List.any_map
abbrev abT:=@List.any_eq_true
abbrev abU:=@List.filterMap_cons
abbrev abV:=@List.getElem?_set_ne
abbrev abW:=@PySem.wpAny_execs_nil
abbrev abX:=@PySem.wpAny_passesOwn
abbrev abY:=@List.any_eq_false
abbrev abZ:=@PySem.wpAny_loadPart
abbrev ab0:=@List.length_drop
abbrev ab1:=@Array.getElem?_toList
abbrev ab2:=@List.length_nil
abbrev ab3:=@Nat.lt_trans
abbrev ab4:=@Bool.not_eq_true
abbrev ab5:=@beq_self_eq_true
abbrev ab6:=@And.intro
abbrev ab7:=@List.take_length
abbrev ab8:=@PySem.Around.under_plainId
abbrev ab9:=@PySem.Heap.size_update
abbrev aca:=@PySem.wpAny_loadPart_at
abbrev acb:=@PySem.Heap.get?_update_ne
abbrev acd:=@Array.toList_append
abbrev ace:=@PySem.F.slot_dict_keyiterator_next
abbrev acf:=@PySem.F.plain_extend_loop
abbrev acg:=@PySem.F.plainAttrs_str
abbrev ach:=@List.map_map
abbrev aci:=@List.Perm.eq_nil
abbrev acj:=@Sum.inr.inj
abbrev ack:=@List.mem_range
abbrev acl:=@List.getElem?_set_self
abbrev acm:=@PySem.W.methodCall_KW
abbrev acn:=@List.of_mem_zip
abbrev aco:=@List.length_replicate
abbrev acp:=@PySem.Calls.callWith_builtin
abbrev acq:=@Bool.and_false
abbrev acr:=@List.map_nil
abbrev acs:=@PySem.wpAny_specialOf
abbrev acu:=@List.forIn_cons
abbrev acv:=@Nat.log2_lt
abbrev acw:=@Nat.not_lt_zero
abbrev acx:=@PySem.F.slot_tuple_iterator_next
abbrev acy:=@PySem.Obj.isFreed_of_fields
abbrev acz:=@List.take_nil
abbrev acA:=@List.drop_nil
abbrev acB:=@PySem.wpAny_dictEntries
abbrev acC:=@PySem.wpAny_typeNameOfWhole_keyiter
abbrev acD:=@Int.eq_ofNat_of_zero_le
abbrev acE:=@Int.zero_add
abbrev acF:=@Int.le_trans
abbrev acG:=@List.flatMap_cons
abbrev acH:=@PySem.Heap.get?_none_of_le
abbrev acI:=@PySem.wpAny_loadName_local
abbrev acJ:=@PySem.wpAny_loadName_cell
abbrev acK:=@PySem.wpAny_loadName_free
abbrev acL:=@Array.length_toList
abbrev acM:=@PySem.wpAny_pyIter_tuple
abbrev acN:=@PyProof.Rows.callWith_type1
abbrev acO:=@List.mem_filterMap
abbrev acP:=@PySem.W.plainGet_of
abbrev acQ:=@PySem.Within.cons
abbrev acR:=@PySem.W.looks_findIn
abbrev acS:=@PySem.Heap.Ns1.of_empty
abbrev acT:=@PySem.W.callWith_K
abbrev acU:=@PySem.W.cellsFrom_some
abbrev acV:=@List.getElem?_append_right
abbrev acW:=@PySem.wpAny_sequenceKey
abbrev acX:=@Nat.lt_of_le_of_lt
abbrev acY:=@List.getD_eq_getElem?_getD
abbrev acZ:=@PySem.wpAny_comprehension_free
abbrev ac0:=@Bool.and_assoc
abbrev ac1:=@List.drop_zero
abbrev ac2:=@PySem.Obj.cls_mapFields
abbrev ac3:=@PySem.Heap.SameBut.update
abbrev ac4:=@PySem.AutoSeq1.wpAny_loadPart'
abbrev ac5:=@Bool.not_eq_true'
abbrev ac6:=@bne_self_eq_false
abbrev ac7:=@List.cons_append
abbrev ac8:=@List.getElem?_set
abbrev ac9:=@List.getElem_mem
abbrev ada:=@Nat.lt_succ_of_lt
abbrev adb:=@PySem.F.slot_dict_items
abbrev adc:=@of_decide_eq_true
abbrev add:=@List.length_eq_zero_iff
abbrev ade:=@PySem.PassesOwn.leaving
abbrev adf:=@List.getElem?_inj
abbrev adg:=@Nat.succ_le_succ
abbrev adh:=@List.nil_append
abbrev adi:=@Int.fdiv_eq_ediv_of_nonneg
abbrev adj:=@List.getElem?_append_left
abbrev adk:=@Array.getElem?_eq_getElem
abbrev adl:=@PySem.F.entry_dict_keyiterator_next
abbrev adm:=@PySem.F.args_dict_keyiterator_next_1
abbrev adn:=@PySem.F.entry_extend_loop
abbrev ado:=@List.drop_eq_getElem_cons
set_option Elab.async false
set_option linter.all false
set_option maxRecDepth 1000000
set_option maxHeartbeats 0
set_option tactic.hygienic false
set_option compiler.extract_closed false
set_option hygiene false
namespace Kd
open PySem PySem.W
noncomputable section
def F_ {p q:Program} {a:List Str} {Xt:Shared->Bool} {c:Type} {g:Shared->c} {i:World->c} {N:Nat} (e:opening p=plainProg p.main.scope.names) (o:Nat.ble 600 N=true) (f:∀ s,fenceModules? p s=some s)
 (h:∀ (w:World) (b:OsState),(topFrom treeTable p w N ⟨boot_heap w.params,Array.mk [],boot_drawn,boot_toks,b⟩).map (fun s=>(openSeen q a (importedModules p.main.body) Xt true s,g s))=some (openGood q a,i w)):LeftO p q a Xt g i N:=fun w=>by
 obtain ⟨⟨j,l,d,k,b⟩,m,n⟩:=abE.mp (boot_open e o f w);obtain ⟨rfl,rfl,rfl,rfl⟩:j=boot_heap w.params/\l=Array.mk []/\d=boot_drawn/\k=boot_toks:=by simpa using n
 unfold openEnds;rw [m];exact h w b
noncomputable abbrev u (x:String):Str:=Str.ofString x
noncomputable abbrev vs (x:String) (t:Nat):Value:=.str (Str.ofString x) t
noncomputable abbrev vi (x:Int) (t:Nat):Value:=.int x t
noncomputable abbrev vr (x:Nat):Value:=.ref x
noncomputable abbrev vt (x:String):Value:=.type x
noncomputable abbrev vn:Value:=.none
noncomputable abbrev vb:Value:=.bool true
noncomputable abbrev vf (t:Nat):Value:=.str (Str.ofString "/claim/cut.py") t
noncomputable abbrev ot (x:Array Value):Obj:={ cls:=.type "tuple",data:=Data.seq x }
noncomputable abbrev oc (x:Array Value):Obj:={ cls:=.type "code",data:=Data.fields x }
noncomputable abbrev of (n q:String) (a:Arguments) (b:List Stmt) (s:Scope) (d m c:Value):Obj:={ cls:=.type "function",data:=Data.func { name:=Str.ofString n,qualname:=Str.ofString q,params:=a,body:=FuncBody.stmts b,scope:=s,globals:=3,closure:=[],defaults:=d,kwdefaults:=.none,pyModule:=m,code:=c } }
noncomputable abbrev de (P:Params) (x:String) (t:Nat) (v:Value):DictEntry:={ hash:=PyData.keyHash P (Str.ofString x),key:=.str (Str.ofString x) t,val:=v }
noncomputable def tp (i:Nat):Stmt:=PySem.Challenge.pw_lanescribe_k36_recorders_begun_and_full.main.body.getD i (.Pass ⟨0,0,0,0⟩)
noncomputable def meth (i j:Nat):Stmt:=match tp i with
 |.ClassDef _ _ _ body _ _ _ _ _ _ _=>body.getD j (.Pass ⟨0,0,0,0⟩)
 |_=>.Pass ⟨0,0,0,0⟩
noncomputable def dA (s:Stmt):Arguments:=match s with
 |.FunctionDef _ a _ _ _ _ _ _ _ _=>a
 |_=>{ posonlyargs:=[],args:=[],vararg:=none,kwonlyargs:=[],kw_defaults:=[],kwarg:=none,defaults:=[] }
noncomputable def dB (s:Stmt):List Stmt:=match s with
 |.FunctionDef _ _ b _ _ _ _ _ _ _=>b
 |_=>[]
noncomputable def dS (s:Stmt):Scope:=match s with
 |.FunctionDef _ _ _ _ _ _ sc _ _ _=>sc
 |_=>{ kind:=.function,names:=[],isGenerator:=false,isCoroutine:=false }
abbrev TA (i:Nat):Arguments:=dA (tp i)
abbrev TB (i:Nat):List Stmt:=dB (tp i)
abbrev TS (i:Nat):Scope:=dS (tp i)
abbrev MA (i j:Nat):Arguments:=dA (meth i j)
abbrev MB (i j:Nat):List Stmt:=dB (meth i j)
abbrev MS (i j:Nat):Scope:=dS (meth i j)
noncomputable abbrev og (n q:String) (a:Arguments) (b:List Stmt) (s:Scope):Obj:={ cls:=.none,data:=Data.func { name:=Str.ofString n,qualname:=Str.ofString q,params:=a,body:=FuncBody.stmts b,scope:=s,globals:=0,closure:=[],defaults:=.none,kwdefaults:=.none } }
abbrev gt (n:String) (i:Nat):Obj:=og n n (TA i) (TB i) (TS i)
abbrev gm (n q:String) (i j:Nat):Obj:=og n q (MA i j) (MB i j) (MS i j)
abbrev ft (n:String) (i:Nat):Value->Value->Value->Obj:=of n n (TA i) (TB i) (TS i)
abbrev fm (n q:String) (i j:Nat):Value->Value->Value->Obj:=of n q (MA i j) (MB i j) (MS i j)
noncomputable abbrev oq (n:String) (a:Nat) (q:String) (b c:Nat) (l k:Int) (r s:Nat) (x y z:Value) (t:Int) (d:Nat):Obj:=oc #[vs n a,vs q b,vf c,vi l 0,vi k 0,vi 0 0,vi 0 0,vi 3 0,vr r,vb,vi 181 0,vr s,vn,x,y,z,vi t 0,vi l 0,vf d]
abbrev ok (n:String) (a b c:Nat) (l k:Int) (r s:Nat) (x y z:Value) (t:Int) (d:Nat):Obj:=oq n a n b c l k r s x y z t d
abbrev z1:Value:=vs "lanescribe.errors" 194
abbrev z2:Value:=vs "lanescribe.lanes" 961
abbrev z3:Value:=vs "lanescribe.recorder" 1964
abbrev z4:Value:=vs "lanescribe.stand" 1612
abbrev z5:Value:=vs "law_lanescribe_k36_recorders_begun_and_full" 2301
abbrev z6:Value:=vs "lanescribe.kinds" 733
abbrev z7:Value:=vs "lanescribe.clocks" 871
abbrev z8:Value:=vs "lanescribe.tallies" 1524
abbrev z9:Value:=vs "lanescribe.sieve" 1438
abbrev Pz:Value:=vs "lanescribe.lookers" 1342
abbrev WN:Value:=vs "lanescribe.merge" 1402
abbrev WM:Value:=vs "ScribeError" 204
abbrev Yu:Value:=vs "ScribeError" 196
noncomputable def nm (t:Nat) (l:List String):List Value:=List.rec (fun _=>[]) (fun x _ a t=>.str (Str.ofString x) t::a (t+1)) l t
abbrev on (t:Nat) (l:List String):Obj:=ot ⟨nm t l⟩
noncomputable def lm (c:Nat) (l:List (Nat×Nat)):List Value:=List.rec [] (fun x _ a=>.int x.1 0::.int c 0::.ref x.2::a) l
abbrev ol (c:Nat) (l:List (Nat×Nat)):Obj:={ cls:=.none,data:=Data.fields ⟨lm c l⟩ }
abbrev od (n:Nat) (l:List DictEntry):Obj:={ cls:=.type "dict",data:=Data.dict ⟨l⟩ n }
abbrev dr (P:Params) (x:String) (t a:Nat):DictEntry:=de P x t (.ref a)
abbrev dn (P:Params) (x:String) (t:Nat):DictEntry:=de P x t .none
noncomputable def dl (P:Params) (l:List (String×Nat×Nat)) (z:List DictEntry):List DictEntry:=List.rec z (fun x _ a=>dr P x.1 x.2.1 x.2.2::a) l
noncomputable def r39 (P:Params) (a:Nat) (b:Value) (c d e:Nat) (f:String) (g h:Nat) (i:String) (j k:Nat) (l:String) (m n o:Nat):Obj:=od 4 [de P "__module__" a b,de P "__firstlineno__" (a+4) (vi c (a+3)),dr P "__init__" d e,dr P f g h,dr P i j k,dr P l m n,dr P "__static_attributes__" o (n+1),dr P "__dict__" (o+2) (n+4),dr P "__weakref__" (o+4) (n+5),dn P "__doc__" (o+5)]
noncomputable def r40 (P:Params) (a:Nat) (b:Value) (c d e:Nat) (f:String) (g:Nat) (h:String) (i:Nat) (j:String) (k:Nat) (l m:String) (n o:Nat):Obj:=od 4 [de P "__module__" a b,de P "__firstlineno__" (a+4) (vi c (a+3)),dr P "__init__" d e,dr P f (a+21) g,dr P h i (g+7),dr P j k (g+14),dr P l (a+43) (e+26),dr P m n o,dr P "__static_attributes__" (i+28) (o+1),dr P "__dict__" (i+30) (o+4),dr P "__weakref__" (i+32) (o+5),dn P "__doc__" (i+33)]
noncomputable def r1 (a b:String) (c d e f g h i:Nat) (t:List Obj):List Obj:=gm a b c d::oq a e b (e+1) (e+2) f g h (h+1) (vr (h+2)) (vr (h+3)) (vr (h+4)) i (i+1)::t
noncomputable def r2 (P:Params) (a b c d e:Nat) (f:String) (g:Nat) (h:String) (i:Nat) (j:String) (t:List Obj):List Obj:=od 2 [de P "__module__" (a+7) z1,de P "__firstlineno__" (a+11) (vi b (a+10)),dr P "__init__" c d,dr P "__static_attributes__" e (d+1),dn P "__doc__" (e+1)]::{cls:=vt "type",data:=Data.cls {name:=u f,bases:=[vr g],mro:=[vr (d+3),vr g,vt h,vt "Exception",vt "BaseException",vt "object"],ns:=(d+2),qualname:=u f},slots:=#[some (vr i),none,some (vs f a),some (vs f (a+8)),some (Value.builtin j),some (vb)]}::t
noncomputable def r3 (a:String) (b c d:Nat) (e:Value) (t:List Obj):List Obj:=oc #[vs a b,vs a (b+1),vf (b+2),vi c 0,vi 0 0,vi 0 0,vi 0 0,vi 0 0,vr (d+1),Value.bool false,vi 181 0,vr (d+2),vn,vn,vn,vn,vi (b+3) 0,vi c 0,vf (b+4)]::{cls:=vt "frame",slots:=#[some (vr (d+3)),some (vr 3),some (vr d),none,some e,none,some (vr 0)]}::t
noncomputable def r4  (t:List Obj):List Obj:=ot #[]::{cls:=vn,data:=Data.fields #[]}::t
noncomputable def r5 (a:Nat) (t:List Obj):List Obj:={cls:=vt "super",data:=Data.fields #[vr a,vr a,vr a]}::{cls:=vt "builtin_function_or_method",data:=Data.fields #[Value.builtin "object.__init_subclass__",vr a]}::t
noncomputable def r6 (P:Params) (a:Nat) (b:String) (c d e f:Nat) (t:List Obj):List Obj:={cls:=vt "builtin_function_or_method",data:=Data.fields #[Value.builtin "type.__prepare__",vt "type"]}::od 5 [de P "__module__" a z1,de P "__qualname__" (a+2) (vs b (a+1)),de P "__firstlineno__" (a+4) (vi c (a+3)),dr P "__init__" d e,dr P "__static_attributes__" f (e+1)]::t
noncomputable def r9 (a:String) (b c d:Nat) (t:List Obj):List Obj:={cls:=vt "type",data:=Data.cls {name:=u a,bases:=[vt "object"],mro:=[vr (b+1),vt "object"],ns:=b,qualname:=u a},slots:=#[none,none,some (vs a c),some (vs a (c+8)),some (Value.builtin "object.__new__"),some (vb)]}::{cls:=vt "getset_descriptor",data:=Data.fields #[vs "__dict__" d,vr (b+1),Value.builtin "function.__dict__",Value.builtin "function.__dict__#set"]}::t
noncomputable def r11 (a b:String) (c d e f g h i:Nat) (j:Value) (t:List Obj):List Obj:=r1 a b c d e f g (h+1) i<|fm a b c d (vr h) j (vr (h+6))::t
noncomputable def r12 (a b:Nat) (t:List Obj):List Obj:={cls:=vt "getset_descriptor",data:=Data.fields #[vs "__weakref__" a,vr b,Value.builtin "ExceptionGroup.__weakref__",vn]}::(r5 b<|t)
noncomputable def r15  (t:List Obj):List Obj:=ot #[]::{cls:=vt "builtin_function_or_method",data:=Data.fields #[Value.builtin "type.__prepare__",vt "type"]}::t
noncomputable def r16 (a:String) (b c d e f g:Nat) (h:Value) (t:List Obj):List Obj:=gt a b::ok a c (c+1) (c+2) d e f (f+1) (vr (f+2)) (vr (f+3)) (vr (f+4)) g (g+1)::ft a b vn h (vr (f+5))::t
noncomputable def r18 (a:Nat) (b:List String) (t:List Obj):List Obj:=r4<|on a b::ot #[]::t
noncomputable def r19 (a:Nat) (b:List String) (c d:String) (e f g h i j:Nat) (k:Value) (t:List Obj):List Obj:=r18 (a+3) b<|r1 c d e f a g h i j<|fm c d e f vn k (vr (i+5))::t
noncomputable def r20 (a:Nat) (b:List String) (c d:String) (e f g h i j:Nat) (k:Value) (l:List String) (m n:String) (o p q:Nat) (t:List Obj):List Obj:=r19 a b c d e f g h i j k<|r19 (j+3) l m n e (f+1) o p (i+7) q k<|t
noncomputable def r22 (a b:String) (c d e f g h:Nat) (i:Value) (t:List Obj):List Obj:=gm a b c d::oq a e b (e+1) (e+2) f g h (h+1) vn vn (vr (h+2)) (e+3) (e+4)::fm a b c d vn i (vr (h+3))::t
noncomputable def r23 (a:Nat) (b:List String) (c:String) (d e f g h:Nat) (i:Value) (t:List Obj):List Obj:=r18 (a+3) b<|r16 c d a e f g h i<|t
noncomputable def r26 (a:String) (b c d e f:Nat) (g:Value) (t:List Obj):List Obj:=oc #[vs a b,vs a (b+1),vf (b+2),vi c 0,vi 2 0,vi 0 0,vi 1 0,vi 3 0,vr (d+1),vb,vi 181 0,vr (d+2),vn,vr (d+3),vr (d+4),vr (d+5),vi e 0,vi c 0,vf (e+1)]::{cls:=vt "function",data:=Data.func {name:=u a,qualname:=u a,params:=TA f,body:=FuncBody.stmts (TB f),scope:=TS f,globals:=3,closure:=[],defaults:=vn,kwdefaults:=vr d,pyModule:=g,code:=vr (d+6)}}::t
noncomputable def r27 (a:List (Nat×Nat)) (t:List Obj):List Obj:=ot #[]::ol 4 a::t
noncomputable def r28 (a b:String) (c d e f g h i j:Nat) (k:Value) (t:List Obj):List Obj:=gm a b c d::oc #[vs a e,vs b (e+1),vf (e+2),vi f 0,vi g 0,vi 0 0,vi h 0,vi 3 0,vr (i+1),vb,vi 181 0,vr (i+2),vn,vr (i+3),vr (i+4),vr (i+5),vi j 0,vi f 0,vf (j+1)]::{cls:=vt "function",data:=Data.func {name:=u a,qualname:=u b,params:=MA c d,body:=FuncBody.stmts (MB c d),scope:=MS c d,globals:=3,closure:=[],defaults:=vn,kwdefaults:=vr i,pyModule:=k,code:=vr (i+6)}}::t
noncomputable def r29 (a:String) (b c d e f:Nat) (g:Value) (t:List Obj):List Obj:=gt a b::ok a c (c+1) (c+2) d e f (f+1) vn vn (vr (f+2)) (c+3) (c+4)::ft a b vn g (vr (f+3))::t
noncomputable def r31 (P:Params) (a:String) (b c d:Nat) (e:String) (f g:Nat) (h i:String) (t:List Obj):List Obj:=r3 a (b+2) c (d+2) z1<|on (b+12) [""]::(r18 (b+16) ["self","words"]<|r11 "__init__" e f 0 (b+13) (c+2) 2 (d+7) (b+18) z1<|ot #[]::(r2 P b c (b+20) (d+14) (b+21) a g h d i<|t))
noncomputable def r32 (P:Params) (a b:Nat) (c:String) (d e f g:Nat) (t:List Obj):List Obj:=ot #[vr a]::(r6 P b c d e f g<|t)
noncomputable def r33 (P:Params) (a b c:Nat) (t:List Obj):List Obj:=on (a+16) ["word"]::od 3 [de P "__module__" a z1,de P "__firstlineno__" (a+4) (vi b (a+3)),dr P "__init__" (a+15) c,dr P "__static_attributes__" (a+17) (c+1),dr P "__weakref__" (a+19) (c+4),dn P "__doc__" (a+20)]::t
noncomputable def r34 (P:Params) (a:Nat) (b:Value) (c d e:Nat) (f:String) (g:Nat) (h:String) (t:List Obj):List Obj:=od 4 [de P "__module__" (a+7) b,de P "__firstlineno__" (a+11) (vi c (a+10)),dr P "__init__" d e,dr P f (d+8) (e+7),dr P "twin" (d+16) (e+14),dr P "__static_attributes__" g (e+15),dr P "__dict__" (g+2) (e+18),dr P "__weakref__" (g+4) (e+19),dn P "__doc__" (g+5)]::(r9 h (e+16) a (g+1)<|t)
noncomputable def r35 (P:Params) (a:Nat) (b:Value) (c:String) (d e f:Nat) (g:String) (h:Nat) (t:List Obj):List Obj:=r15<|od 7 [de P "__module__" a b,de P "__qualname__" (a+2) (vs c (a+1)),de P "__firstlineno__" (a+4) (vi d (a+3)),dr P "__init__" e f,dr P g (e+8) (f+7),dr P "twin" (e+16) (f+14),dr P "__static_attributes__" h (f+15)]::t
noncomputable def r36 (P:Params) (a b c:Nat) (d:String) (e f g:Nat) (t:List Obj):List Obj:=r5 a<|r32 P b c d e (c+13) f g<|t
noncomputable def r37 (P:Params) (a:String) (b c d:Nat) (e:String) (f g:Nat) (h i j:String) (t:List Obj):List Obj:=r31 P a b c d e f g h i<|r36 P (d+17) g (b+32) j (c+4) (d+34) (b+46)<|t
noncomputable def r38 (P:Params) (a b c:Nat) (d:List String) (t:List Obj):List Obj:=od 1 [de P "most" a (vi b c)]::(r18 (a+4) d<|t)
noncomputable def BL (P:Params) (t:List DictEntry):List DictEntry:=dn P "__doc__" 166::dn P "__package__" 167::de P "__loader__" 168 (Value.builtin "__main__.__loader__#opaque")::dn P "__spec__" 169::(dl P [("__annotations__",170,6),("__builtins__",171,4)]<|de P "__file__" 173 (vf 172)::dn P "__cached__" 174::(dl P [("_wall",193,21),("ScribeError",225,39),("BadName",250,60),("BadBounds",275,80),("BadTest",300,100),("BadSize",325,120),("BadTime",350,140),("BadKeys",375,160)]<|t))
noncomputable def vY (P:Params) (t:List DictEntry):List DictEntry:=dl P [("BadTie",400,180),("BadCause",425,200),("Taken",450,220),("Full",475,240),("NotTop",500,260),("Stopped",525,280),("Busy",550,300)]<|t
noncomputable def zT (P:Params) (t:List DictEntry):List DictEntry:=dl P [("BadValue",575,319),("Broken",602,338),("Missing",632,358),("NoLane",657,379),("NoKind",682,399),("NoTicket",707,419),("NoTally",732,439)]<|t
noncomputable def Cr (P:Params) (t:List DictEntry):List DictEntry:=de P "LIMIT" 736 (vi 999999 735)::de P "MOST_LETTERS" 738 (vi 8 737)::de P "MOST_FIELDS" 740 (vi 4 739)::(dl P [("is_name",747,448),("need_name",754,455),("need_fields",765,462),("bounds_text",771,467),("Kind",870,540)]<|de P "MOST_AMOUNT" 874 (vi 99999 873)::de P "MOST_LANES" 876 (vi 6 875)::de P "HIGHEST_MOST" 880 (vi 1000000000000 879)::de P "GROUND" 883 (vi (-1) 882)::(dl P [("need_lanes",890,551),("need_ties",901,558),("need_most",908,565),("need_all",917,572),("bounds",923,577),("raised",929,582),("amounts",936,588),("ring",949,596),("ring_behind",960,603)]<|de P "PAGES" 964 (vi 4 963)::de P "ROOM" 966 (vi 8 965)::de P "FEWEST_PAGES" 968 (vi 2 967)::de P "MOST_PAGES" 970 (vi 16 969)::de P "LEAST_ROOM" 972 (vi 5 971)::de P "MOST_ROOM" 974 (vi 12 973)::(dl P [("need_pages",981,610),("need_room",988,617),("told_from",998,624),("place_behind",1007,631),("Claim",1058,662),("Page",1106,698)]<|t)))
noncomputable def HR (P:Params) (t:List DictEntry):List DictEntry:=dr P "Lane" 1341 873::de P "MOST_TOLD" 1345 (vi 400 1344)::(dl P [("Looker",1401,917),("need_cause",1413,928),("ties_of",1419,933),("merged",1425,938),("ordered",1437,946)]<|de P "MOST_PARTS" 1441 (vi 15 1440)::de P "MOST_DEEP" 1443 (vi 5 1442)::dr P "WITHIN" 1453 947::t)
noncomputable def P0 (P:Params) (t:List DictEntry):List DictEntry:=dl P [("SIGN_OF",1460,948),("is_word",1467,955),("is_number",1474,962),("is_leaf",1482,969),("count_parts",1488,974),("is_test",1495,981),("need_test",1502,988),("passes",1512,995),("passes_leaf",1523,1002)]<|de P "MOST_KEYS" 1527 (vi 16 1526)::de P "KEYS_LIMIT" 1529 (vi 64 1528)::de P "MOST_NAMED" 1531 (vi 4 1530)::(dl P [("need_keys",1540,1009),("Tally",1611,1060)]<|de P "MOST_KINDS" 1615 (vi 8 1614)::de P "MOST_TRACKS" 1617 (vi 6 1616)::de P "MOST_TALLIES" 1619 (vi 4 1618)::(dl P [("need_new",1627,1071),("need_fewer",1635,1078),("Track",1682,1109),("Stand",1754,1161),("do_kind",1764,1172)]<|t))
noncomputable def Lg (t:List (Nat×Nat)):List (Nat×Nat):=(1,20)::(5,27)::(10,48)::(14,68)::(18,88)::(22,108)::(26,128)::(30,148)::(34,168)::(38,188)::(42,208)::(46,228)::(50,248)::(54,268)::(58,288)::(62,308)::(67,327)::(73,346)::(78,367)::(82,387)::(86,407)::(90,427)::(98,447)::(100,454)::(103,461)::(112,466)::(114,473)::(159,550)::(162,557)::(168,564)::(171,571)::(175,576)::(178,581)::(192,587)::(196,595)::(200,602)::(214,609)::(217,616)::(220,623)::(229,630)::(233,637)::(250,672)::t
noncomputable def Ji (t:List (Nat×Nat)):List (Nat×Nat):=(269,708)::(429,883)::(450,927)::(455,932)::(459,937)::(464,945)::t
noncomputable def OJ (t:List (Nat×Nat)):List (Nat×Nat):=(476,954)::(478,961)::(480,968)::(487,973)::(496,980)::(498,987)::(501,994)::(510,1001)::(524,1008)::(530,1015)::(573,1070)::(577,1077)::(580,1084)::(598,1119)::(637,1171)::t
noncomputable def o1:Obj:={cls:=vn,data:=Data.fields #[]}
noncomputable def o4 (P:Params):Obj:=od 17 (de P "__name__" 165 z1::(BL P<|[]))
noncomputable def o5:Obj:=ol 0 [(1,20),(5,27),(10,48),(14,68),(18,88),(22,108),(26,128),(30,148)]
noncomputable def Zx:Obj:={cls:=vt "type",data:=Data.cls {name:=u "ScribeError",bases:=[vt "ValueError"],mro:=[vr 39,vt "ValueError",vt "Exception",vt "BaseException",vt "object"],ns:=38,qualname:=u "ScribeError",subclasses:=[vr 60,vr 80,vr 100,vr 120,vr 140,vr 160]},slots:=#[some (vr 22),none,some Yu,some WM,some (Value.builtin "ValueError.__new__"),some (vb)]}
noncomputable def Xw (P:Params):Obj:=od 24 (de P "__name__" 165 z1::(BL P<|vY P<|[]))
noncomputable def Xp:Obj:=ol 0 [(1,20),(5,27),(10,48),(14,68),(18,88),(22,108),(26,128),(30,148),(34,168),(38,188),(42,208),(46,228),(50,248),(54,268),(58,288)]
noncomputable def Yx:Obj:={cls:=vt "type",data:=Data.cls {name:=u "ScribeError",bases:=[vt "ValueError"],mro:=[vr 39,vt "ValueError",vt "Exception",vt "BaseException",vt "object"],ns:=38,qualname:=u "ScribeError",subclasses:=[vr 60,vr 80,vr 100,vr 120,vr 140,vr 160,vr 180,vr 200,vr 220,vr 240,vr 260,vr 280,vr 300]},slots:=#[some (vr 22),none,some Yu,some WM,some (Value.builtin "ValueError.__new__"),some (vb)]}
noncomputable def o200 (P:Params):Obj:=od 31 (de P "__name__" 165 z1::(BL P<|vY P<|zT P<|[]))
noncomputable def Xo:Obj:=ol 0 [(1,20),(5,27),(10,48),(14,68),(18,88),(22,108),(26,128),(30,148),(34,168),(38,188),(42,208),(46,228),(50,248),(54,268),(58,288),(62,308),(67,327),(73,346),(78,367),(82,387),(86,407),(90,427)]
noncomputable def Bh:Obj:={cls:=vt "type",data:=Data.cls {name:=u "ScribeError",bases:=[vt "ValueError"],mro:=[vr 39,vt "ValueError",vt "Exception",vt "BaseException",vt "object"],ns:=38,qualname:=u "ScribeError",subclasses:=[vr 60,vr 80,vr 100,vr 120,vr 140,vr 160,vr 180,vr 200,vr 220,vr 240,vr 260,vr 280,vr 300,vr 319,vr 338]},slots:=#[some (vr 22),none,some Yu,some WM,some (Value.builtin "ValueError.__new__"),some (vb)]}
noncomputable def Z9 (P:Params):Obj:=od 64 (de P "__name__" 165 z2::(BL P<|vY P<|zT P<|Cr P<|[]))
noncomputable def YX:Obj:=ol 0 (Lg<|[])
noncomputable def Xj (P:Params):Obj:=od 74 (de P "__name__" 165 z9::(BL P<|vY P<|zT P<|Cr P<|HR P<|[]))
noncomputable def Xr:Obj:=ol 0 (Lg<|Ji<|[])
noncomputable def Yg (P:Params):Obj:=od 96 (de P "__name__" 165 z4::(BL P<|vY P<|zT P<|Cr P<|HR P<|P0 P<|[]))
noncomputable def Xx:Obj:=ol 0 (Lg<|Ji<|OJ<|[])
noncomputable def T7 (P:Params):Obj:=od 129 (de P "__name__" 165 z5::(BL P<|vY P<|zT P<|Cr P<|HR P<|P0 P<|dr P "do_lane" 1774 1179::dr P "do_tick" 1785 1186::dr P "do_claim" 1797 1193::dr P "do_fill" 1808 1200::dr P "do_give" 1823 1207::dr P "do_throw" 1832 1214::dr P "do_write" 1843 1221::dr P "do_take" 1851 1228::dr P "do_resize" 1861 1235::dr P "do_sieve" 1872 1242::dr P "do_tally" 1884 1249::dr P "do_halt" 1893 1256::dr P "do_stop" 1901 1263::dr P "do_go" 1909 1270::dr P "do_whole" 1921 1277::dr P "DEEDS" 1954 1278::dr P "perform" 1963 1285::dr P "Recorder" 2300 1564::dr P "_law_begin" 2311 1575::dr P "_law_pick" 2322 1582::dr P "_law_of" 2330 1589::dr P "_law_far" 2338 1596::dr P "_law_same" 2344 1601::dr P "_law_word" 2350 1606::dr P "_law_words" 2362 1613::dr P "_law_is_name" 2368 1618::dr P "_law_ask" 2378 1625::dr P "_law_odd_name" 2387 1632::dr P "_law_fields_word" 2398 1639::dr P "_law_bent_fields" 2410 1646::dr P "_law_tell" 2416 1651::dr P "_law_full_words" 2427 1658::dr P "law" 2433 1663::[]))
noncomputable def RL:Obj:=ol 0 (Lg<|Ji<|OJ<|(642,1178)::(647,1185)::(653,1192)::(660,1199)::(664,1206)::(678,1213)::(681,1220)::(687,1227)::(689,1234)::(692,1241)::(697,1248)::(703,1255)::(708,1262)::(710,1269)::(712,1276)::(721,1284)::(725,1291)::(853,1574)::(858,1581)::(873,1588)::(875,1595)::(878,1600)::(888,1605)::(894,1612)::(903,1617)::(905,1624)::(917,1631)::(920,1638)::(933,1645)::(951,1650)::(960,1657)::(965,1662)::[])
noncomputable def k2:Obj:={cls:=vn,data:=Data.dict #[]}
noncomputable def ug (P:Params) (b c a:Obj) (t:List Obj):List Obj:=boot_o_0 P::boot_o_1 P::b::c::boot_o_4 P::boot_o_5 P::boot_o_6 P::boot_o_7 P::boot_o_8 P::boot_o_9 P::boot_o_10 P::ot #[]::a::oc #[vs "<module>" 182,vs "<module>" 183,vf 184,vi 1 0,vi 0 0,vi 0 0,vi 0 0,vi 0 0,vr 11,Value.bool false,vi 181 0,vr 12,vn,vn,vn,vn,vi 185 0,vi 1 0,vf 186]::{cls:=vt "frame",slots:=#[some (vr 13),some (vr 3),some (vr 3),none,some (vs "__main__" 164),none,some (vr 0)]}::t
noncomputable def wQ (P:Params) (a:Obj) (t:List Obj):List Obj:=r18 190 ["k"]<|gt "_wall" 0::ok "_wall" 187 188 189 1 1 15 16 (vr 17) (vr 18) (vr 19) 191 192::ft "_wall" 0 vn (vs "__main__" 164) (vr 20)::ot #[vt "ValueError"]::{cls:=vt "builtin_function_or_method",data:=Data.fields #[Value.builtin "type.__prepare__",vt "type"]}::od 5 [de P "__module__" 203 z1,de P "__qualname__" 205 WM,de P "__firstlineno__" 207 (vi 5 206),dr P "__init__" 218 36,dr P "__static_attributes__" 220 37]::(r27 [(7,35)]<|r3 "ScribeError" 198 5 24 z1<|on 208 ["","scribeerror"]::(r18 213 ["self","words","word"]<|r11 "__init__" "ScribeError.__init__" 2 0 210 7 3 29 216 z1<|r33 P 203 5 36<|a::(r12 221 39<|r32 P 39 233 "BadName" 10 246 57 247<|r27 [(12,56)]<|t)))
noncomputable def wI (P:Params) (t:List Obj):List Obj:=r37 P "BadName" 226 10 43 "BadName.__init__" 3 39 "ValueError" "ValueError.__new__" "BadBounds"<|r27 [(16,76)]<|r37 P "BadBounds" 251 14 63 "BadBounds.__init__" 4 39 "ValueError" "ValueError.__new__" "BadTest"<|r27 [(20,96)]<|t
noncomputable def wM (P:Params) (t:List Obj):List Obj:=r37 P "BadTest" 276 18 83 "BadTest.__init__" 5 39 "ValueError" "ValueError.__new__" "BadSize"<|r27 [(24,116)]<|r37 P "BadSize" 301 22 103 "BadSize.__init__" 6 39 "ValueError" "ValueError.__new__" "BadTime"<|r27 [(28,136)]<|t
noncomputable def wK (P:Params) (t:List Obj):List Obj:=r37 P "BadTime" 326 26 123 "BadTime.__init__" 7 39 "ValueError" "ValueError.__new__" "BadKeys"<|r27 [(32,156)]<|r31 P "BadKeys" 351 30 143 "BadKeys.__init__" 8 39 "ValueError" "ValueError.__new__"<|r5 160<|t
noncomputable def zF (P:Params) (t:List Obj):List Obj:=r32 P 39 383 "BadTie" 34 396 177 397<|r27 [(36,176)]<|r37 P "BadTie" 376 34 163 "BadTie.__init__" 9 39 "ValueError" "ValueError.__new__" "BadCause"<|r27 [(40,196)]<|t
noncomputable def zp (P:Params) (t:List Obj):List Obj:=r37 P "BadCause" 401 38 183 "BadCause.__init__" 10 39 "ValueError" "ValueError.__new__" "Taken"<|r27 [(44,216)]<|r37 P "Taken" 426 42 203 "Taken.__init__" 11 39 "ValueError" "ValueError.__new__" "Full"<|r27 [(48,236)]<|t
noncomputable def yS (P:Params) (t:List Obj):List Obj:=r37 P "Full" 451 46 223 "Full.__init__" 12 39 "ValueError" "ValueError.__new__" "NotTop"<|r27 [(52,256)]<|r37 P "NotTop" 476 50 243 "NotTop.__init__" 13 39 "ValueError" "ValueError.__new__" "Stopped"<|r27 [(56,276)]<|t
noncomputable def yC (P:Params) (t:List Obj):List Obj:=r37 P "Stopped" 501 54 263 "Stopped.__init__" 14 39 "ValueError" "ValueError.__new__" "Busy"<|r27 [(60,296)]<|r31 P "Busy" 526 58 283 "Busy.__init__" 15 39 "ValueError" "ValueError.__new__"<|r5 300<|t
noncomputable def Ba (P:Params) (t:List Obj):List Obj:=r32 P 39 558 "BadValue" 62 570 316 572<|r27 [(64,315)]<|r3 "BadValue" 553 62 305 z1<|r19 563 ["self","at"] "__init__" "BadValue.__init__" 16 0 64 2 310 568 z1<|on 571 ["at"]::(r2 P 551 62 570 316 572 "BadValue" 39 "ValueError" 303 "ValueError.__new__"<|r36 P 319 39 583 "Broken" 67 335 599<|r27 [(69,334)]<|r3 "Broken" 578 67 324 z1<|r19 588 ["self","step","why"] "__init__" "Broken.__init__" 17 0 69 3 329 594 z1<|on 597 ["step","why"]::(r2 P 576 67 596 335 599 "Broken" 39 "ValueError" 322 "ValueError.__new__"<|r5 338<|ot #[vt "LookupError"]::t))
noncomputable def Ab (P:Params) (t:List Obj):List Obj:=r6 P 610 "Missing" 73 625 355 627<|r27 [(75,354)]<|r3 "Missing" 605 73 343 z1<|on 615 ["","missing"]::(r18 620 ["self","words","word"]<|r11 "__init__" "Missing.__init__" 18 0 617 75 3 348 623 z1<|r33 P 610 73 355<|{cls:=vt "type",data:=Data.cls {name:=u "Missing",bases:=[vt "LookupError"],mro:=[vr 358,vt "LookupError",vt "Exception",vt "BaseException",vt "object"],ns:=357,qualname:=u "Missing",subclasses:=[vr 379,vr 399,vr 419,vr 439]},slots:=#[some (vr 341),none,some (vs "Missing" 603),some (vs "Missing" 611),some (Value.builtin "LookupError.__new__"),some (vb)]}::(r12 628 358<|r32 P 358 640 "NoLane" 78 653 376 654<|r27 [(80,375)]<|t))
noncomputable def By (P:Params) (t:List Obj):List Obj:=r37 P "NoLane" 633 78 362 "NoLane.__init__" 19 358 "LookupError" "LookupError.__new__" "NoKind"<|r27 [(84,395)]<|r37 P "NoKind" 658 82 382 "NoKind.__init__" 20 358 "LookupError" "LookupError.__new__" "NoTicket"<|r27 [(88,415)]<|t
noncomputable def Bc (P:Params) (t:List Obj):List Obj:=r37 P "NoTicket" 683 86 402 "NoTicket.__init__" 21 358 "LookupError" "LookupError.__new__" "NoTally"<|r27 [(92,435)]<|r31 P "NoTally" 708 90 422 "NoTally.__init__" 22 358 "LookupError" "LookupError.__new__"<|r5 439<|t
noncomputable def Fx (P:Params) (t:List Obj):List Obj:=r23 741 ["text"] "is_name" 27 98 1 442 745 z6<|r23 748 ["text"] "need_name" 28 100 1 449 752 z6<|r23 755 ["fields","seen","name","low","high"] "need_fields" 29 103 1 456 763 z6<|r4<|r29 "bounds_text" 30 766 112 1 463 z6<|r15<|od 13 [de P "__module__" 779 z6,de P "__qualname__" 781 (vs "Kind" 780),de P "__firstlineno__" 783 (vi 114 782),dr P "__init__" 792 483,dr P "lowest" 798 488,dr P "cells" 805 495,dr P "place_of" 817 502,dr P "need" 830 509,dr P "__eq__" 838 516,dr P "__len__" 845 523,dr P "__str__" 852 530,dr P "__repr__" 859 537,dr P "__static_attributes__" 862 538]::(r27 [(116,482),(124,487),(127,494),(130,501),(136,508),(143,515),(146,522),(149,529),(152,536)]<|r3 "Kind" 774 114 470 z6<|ot #[]::ot #[vr 475]::(r18 787 ["self","name","fields"]<|t))
noncomputable def Fv (P:Params) (t:List Obj):List Obj:=r11 "__init__" "Kind.__init__" 31 0 784 116 3 476 790 z6<|r4<|r22 "lowest" "Kind.lowest" 31 1 793 124 1 484 z6<|r20 799 ["self"] "cells" "Kind.cells" 31 2 127 1 489 803 z6 ["self","field","at","name","low","high"] "place_of" "Kind.place_of" 130 2 815<|r20 818 ["self","values","at","name","low","high","value"] "need" "Kind.need" 31 4 136 2 503 828 z6 ["self","other"] "__eq__" "Kind.__eq__" 143 2 836<|t
noncomputable def Ey (P:Params) (t:List Obj):List Obj:=r20 839 ["self"] "__len__" "Kind.__len__" 31 6 146 1 517 843 z6 ["self"] "__str__" "Kind.__str__" 149 1 850<|r19 853 ["self"] "__repr__" "Kind.__repr__" 31 8 152 1 531 857 z6<|on 860 ["fields","name"]::od 5 [de P "__module__" 779 z6,de P "__firstlineno__" 783 (vi 114 782),dr P "__init__" 792 483,dr P "lowest" 798 488,dr P "cells" 805 495,dr P "place_of" 817 502,dr P "need" 830 509,dr P "__eq__" 838 516,dr P "__len__" 845 523,dr P "__str__" 852 530,dr P "__repr__" 859 537,dr P "__static_attributes__" 862 538,dr P "__dict__" 864 541,dr P "__weakref__" 866 542,dn P "__doc__" 867,dn P "__hash__" 868]::(r9 "Kind" 539 772 863<|r12 865 540<|r23 884 ["lanes"] "need_lanes" 37 159 1 545 888 z7<|t)
noncomputable def Fz (P:Params) (t:List Obj):List Obj:=r23 891 ["lanes","ties","one","other","least"] "need_ties" 38 162 2 552 899 z7<|r23 902 ["most"] "need_most" 39 168 1 559 906 z7<|r23 909 ["lanes","ties","most"] "need_all" 40 171 3 566 915 z7<|r4<|r29 "bounds" 41 918 175 2 573 z7<|r4<|r29 "raised" 42 924 178 2 578 z7<|od 1 [de P "most" 930 (vi 99999 873)]::(r4<|gt "amounts" 43::oc #[vs "amounts" 931,vs "amounts" 932,vf 933,vi 192 0,vi 2 0,vi 0 0,vi 1 0,vi 3 0,vr 584,vb,vi 181 0,vr 585,vn,vn,vn,vr 586,vi 934 0,vi 192 0,vf 935]::{cls:=vt "function",data:=Data.func {name:=u "amounts",qualname:=u "amounts",params:=TA 43,body:=FuncBody.stmts (TB 43),scope:=TS 43,globals:=3,closure:=[],defaults:=vn,kwdefaults:=vr 583,pyModule:=z7,code:=vr 587}}::t)
noncomputable def El (P:Params) (t:List Obj):List Obj:=r38 P 937 99999 873 ["lanes","ties","most","heights","raised_by","still"]<|gt "ring" 44::(r26 "ring" 938 196 589 947 44 z7<|r23 950 ["at","raised_by","many","turn","found"] "ring_behind" 45 200 3 597 958 z7<|r23 975 ["pages"] "need_pages" 53 214 1 604 979 z2<|r23 982 ["room"] "need_room" 54 217 1 611 986 z2<|r23 989 ["events","place","told","event"] "told_from" 55 220 2 618 996 z2<|t)
noncomputable def Fq (P:Params) (t:List Obj):List Obj:=r23 999 ["place","told","thing"] "place_behind" 56 229 2 625 1005 z2<|r35 P 1015 z2 "Claim" 233 1029 645 "told_at" 1051<|r27 [(235,644),(242,651),(245,658)]<|r3 "Claim" 1010 233 634 z2<|r20 1020 ["self","ticket","time","kind"] "__init__" "Claim.__init__" 57 0 235 4 639 1027 z2 ["self","place"] "told_at" "Claim.told_at" 242 2 1035<|r19 1038 ["self","other"] "twin" "Claim.twin" 57 2 245 1 653 1043 z2<|on 1046 ["filled","form","given","ticket","time"]::(r34 P 1008 z2 233 1029 645 "told_at" 1051 "Claim"<|t)
noncomputable def Fd (P:Params) (t:List Obj):List Obj:=r12 1054 662<|r15<|od 8 [de P "__module__" 1066 z2,de P "__qualname__" 1068 (vs "Page" 1067),de P "__firstlineno__" 1070 (vi 250 1069),dr P "__init__" 1077 680,dr P "unclosed" 1083 685,dr P "without" 1089 690,dr P "twin" 1095 695,dr P "__static_attributes__" 1099 696]::(r27 [(252,679),(257,684),(260,689),(263,694)]<|r3 "Page" 1061 250 669 z2<|r19 1071 ["self"] "__init__" "Page.__init__" 58 0 252 1 674 1075 z2<|r4<|r22 "unclosed" "Page.unclosed" 58 1 1078 257 1 681 z2<|r4<|r22 "without" "Page.without" 58 2 1084 260 2 686 z2<|r4<|r22 "twin" "Page.twin" 58 3 1090 263 1 691 z2<|on 1096 ["claims","gone","used"]::r39 P 1066 z2 250 1077 680 "unclosed" 1083 685 "without" 1089 690 "twin" 1095 695 1099::(r9 "Page" 697 1059 1100<|r12 1102 698<|t))
noncomputable def Gp (P:Params) (t:List Obj):List Obj:=r15<|od 28 [de P "__module__" 1114 z2,de P "__qualname__" 1116 (vs "Lane" 1115),de P "__firstlineno__" 1118 (vi 269 1117),dr P "__init__" 1131 717,dr P "claim" 1141 724,dr P "make_room" 1149 731,dr P "eldest" 1156 738,dr P "lose_eldest" 1163 745,dr P "leave" 1173 752,dr P "waiting" 1179 757,dr P "waiting_with" 1188 764,dr P "last_waiting" 1197 771,dr P "fill" 1207 778,dr P "give" 1216 785,dr P "throw" 1227 792,dr P "standing" 1238 799,dr P "look" 1245 806,dr P "take" 1253 813,dr P "hold" 1261 820,dr P "pending" 1267 825,dr P "event" 1276 832,dr P "resize" 1288 839,dr P "counts" 1295 846,dr P "pages_now" 1302 853,dr P "twin" 1308 858,dr P "__len__" 1314 863,dr P "__repr__" 1321 870,dr P "__static_attributes__" 1334 871]::(r27 [(271,716),(287,723),(300,730),(310,737),(313,744),(317,751),(322,756),(325,763),(331,770),(337,777),(342,784),(347,791),(356,798),(368,805),(371,812),(380,819),(385,824),(388,831),(392,838),(403,845),(406,852),(409,857),(422,862),(425,869)]<|r3 "Lane" 1109 269 705 z2<|od 3 [de P "pages" 1119 (vi 4 963),de P "room" 1120 (vi 8 965),de P "over" 1121 (vb)]::(r18 1125 ["self","pages","room","over"]<|r28 "__init__" "Lane.__init__" 59 0 1122 271 1 3 710 1129 z2<|r20 1132 ["self","kind","time","head"] "claim" "Lane.claim" 59 1 287 3 718 1139 z2 ["self","cells"] "make_room" "Lane.make_room" 300 2 1147<|t))
noncomputable def IK (P:Params) (t:List Obj):List Obj:=r20 1150 ["self"] "eldest" "Lane.eldest" 59 3 310 1 732 1154 z2 ["self"] "lose_eldest" "Lane.lose_eldest" 313 1 1161<|r19 1164 ["self","number","page","later"] "leave" "Lane.leave" 59 5 317 2 746 1171 z2<|r4<|r22 "waiting" "Lane.waiting" 59 6 1174 322 1 753 z2<|r20 1180 ["self","ticket","claim"] "waiting_with" "Lane.waiting_with" 59 7 325 2 758 1186 z2 ["self","ticket","claim"] "last_waiting" "Lane.last_waiting" 331 2 1195<|t
noncomputable def Je (P:Params) (t:List Obj):List Obj:=r20 1198 ["self","ticket","values","claim"] "fill" "Lane.fill" 59 9 337 3 772 1205 z2 ["self","ticket","claim"] "give" "Lane.give" 342 2 1214<|r20 1217 ["self","ticket","claim","head","page"] "throw" "Lane.throw" 59 11 347 2 786 1225 z2 ["self","events","place","page","claim"] "standing" "Lane.standing" 356 1 1236<|t
noncomputable def HS (P:Params) (t:List Obj):List Obj:=r20 1239 ["self"] "look" "Lane.look" 59 13 368 1 800 1243 z2 ["self","told"] "take" "Lane.take" 371 1 1251<|r19 1254 ["self","place"] "hold" "Lane.hold" 59 15 380 2 814 1259 z2<|r4<|r22 "pending" "Lane.pending" 59 16 1262 385 1 821 z2<|r20 1268 ["self","ticket","claim"] "event" "Lane.event" 59 17 388 2 826 1274 z2 ["self","pages","first","extra","number","turn"] "resize" "Lane.resize" 392 2 1286<|t
noncomputable def JX (P:Params) (t:List Obj):List Obj:=r20 1289 ["self"] "counts" "Lane.counts" 59 19 403 1 840 1293 z2 ["self"] "pages_now" "Lane.pages_now" 406 1 1300<|r4<|r22 "twin" "Lane.twin" 59 21 1303 409 1 854 z2<|r4<|r22 "__len__" "Lane.__len__" 59 22 1309 422 1 859 z2<|r19 1315 ["self"] "__repr__" "Lane.__repr__" 59 23 425 1 864 1319 z2<|on 1322 ["given_in","held","last_time","lost","missed","most","over","pages","room","thrown_back","tickets","told"]::od 4 [de P "__module__" 1114 z2,de P "__firstlineno__" 1118 (vi 269 1117),dr P "__init__" 1131 717,dr P "claim" 1141 724,dr P "make_room" 1149 731,dr P "eldest" 1156 738,dr P "lose_eldest" 1163 745,dr P "leave" 1173 752,dr P "waiting" 1179 757,dr P "waiting_with" 1188 764,dr P "last_waiting" 1197 771,dr P "fill" 1207 778,dr P "give" 1216 785,dr P "throw" 1227 792,dr P "standing" 1238 799,dr P "look" 1245 806,dr P "take" 1253 813,dr P "hold" 1261 820,dr P "pending" 1267 825,dr P "event" 1276 832,dr P "resize" 1288 839,dr P "counts" 1295 846,dr P "pages_now" 1302 853,dr P "twin" 1308 858,dr P "__len__" 1314 863,dr P "__repr__" 1321 870,dr P "__static_attributes__" 1334 871,dr P "__dict__" 1336 874,dr P "__weakref__" 1338 875,dn P "__doc__" 1339]::(r9 "Lane" 872 1107 1335<|r12 1337 873<|r15<|t)
noncomputable def Ik (P:Params) (t:List Obj):List Obj:=od 8 [de P "__module__" 1353 Pz,de P "__qualname__" 1355 (vs "Looker" 1354),de P "__firstlineno__" 1357 (vi 429 1356),dr P "__init__" 1365 891,dr P "more" 1375 899,dr P "place" 1382 906,dr P "back" 1391 914,dr P "__static_attributes__" 1394 915]::(r27 [(431,890),(435,898),(442,905),(445,913)]<|r3 "Looker" 1348 429 880 Pz<|r19 1358 ["self","lane"] "__init__" "Looker.__init__" 62 0 431 2 885 1363 Pz<|r38 P 1366 400 1344 ["self","most","told"]<|r28 "more" "Looker.more" 62 1 1367 435 1 1 892 1373 Pz<|r19 1376 ["self"] "place" "Looker.place" 62 2 442 1 900 1380 Pz<|ot #[vi 0 1383]::(r18 1387 ["self","place"]<|r11 "back" "Looker.back" 62 3 1384 445 2 907 1389 Pz<|on 1392 ["reached","watched"]::r39 P 1353 Pz 429 1365 891 "more" 1375 899 "place" 1382 906 "back" 1391 914 1394::(r9 "Looker" 916 1346 1395<|t)))
noncomputable def Ig (P:Params) (t:List Obj):List Obj:=r12 1397 917<|r23 1404 ["lane","time","other","second"] "need_cause" 64 450 4 922 1411 WN<|r4<|r29 "ties_of" 65 1414 455 1 929 WN<|r4<|r29 "merged" 66 1420 459 2 934 WN<|r38 P 1426 99999 873 ["rows","causes","most","ties","least"]<|gt "ordered" 67::(r26 "ordered" 1427 464 939 1435 67 WN<|od 3 [de P "not" 1444 (vi 1 1445),de P "and" 1446 (vi 2 1447),de P "or" 1448 (vi 2 1449)]::t)
noncomputable def NK (P:Params) (t:List Obj):List Obj:=od 2 [de P "less" 1454 (vs "<" 1455),de P "same" 1456 (vs "=" 1457)]::(r23 1461 ["thing"] "is_word" 73 476 1 949 1465 z9<|r23 1468 ["thing"] "is_number" 74 478 1 956 1472 z9<|r23 1475 ["test","form"] "is_leaf" 75 480 1 963 1480 z9<|r4<|r29 "count_parts" 76 1483 487 2 970 z9<|r23 1489 ["test"] "is_test" 77 496 1 975 1493 z9<|t)
noncomputable def Mp (P:Params) (t:List Obj):List Obj:=r23 1496 ["test"] "need_test" 78 498 1 982 1500 z9<|r23 1503 ["test","kind","values","form"] "passes" 79 501 3 989 1510 z9<|r23 1513 ["leaf","kind","values","form","place"] "passes_leaf" 80 510 3 996 1521 z9<|r23 1532 ["keys","at","name"] "need_keys" 85 524 1 1003 1538 z8<|r15<|od 10 [de P "__module__" 1548 z8,de P "__qualname__" 1550 (vs "Tally" 1549),de P "__firstlineno__" 1552 (vi 530 1551),dr P "__init__" 1563 1024,dr P "note" 1569 1029,dr P "table" 1576 1036,dr P "dropped" 1583 1043,dr P "twin" 1591 1050,dr P "__len__" 1598 1057,dr P "__static_attributes__" 1604 1058]::(r27 [(532,1023),(543,1028),(555,1035),(558,1042),(561,1049),(567,1056)]<|r3 "Tally" 1543 530 1012 z8<|r38 P 1553 16 1526 ["self","test","keys","most"]<|t)
noncomputable def Nh (P:Params) (t:List Obj):List Obj:=r28 "__init__" "Tally.__init__" 86 0 1554 532 3 1 1017 1561 z8<|r4<|r22 "note" "Tally.note" 86 1 1564 543 3 1025 z8<|r20 1570 ["self"] "table" "Tally.table" 86 2 555 1 1030 1574 z8 ["self"] "dropped" "Tally.dropped" 558 1 1581<|r20 1584 ["self","other"] "twin" "Tally.twin" 86 4 561 1 1044 1589 z8 ["self"] "__len__" "Tally.__len__" 567 1 1596<|on 1599 ["beyond","counted","most","named","test"]::r40 P 1548 z8 530 1563 1024 "note" 1029 "table" 1576 "dropped" 1583 "twin" "__len__" 1598 1057::(r9 "Tally" 1059 1541 1605<|t)
noncomputable def KQ (P:Params) (t:List Obj):List Obj:=r12 1607 1060<|r23 1620 ["name","borne"] "need_new" 91 573 2 1065 1625 z4<|r23 1628 ["things","most"] "need_fewer" 92 577 2 1072 1633 z4<|r35 P 1643 z4 "Track" 580 1655 1092 "top" 1675<|r27 [(582,1091),(587,1098),(593,1105)]<|r3 "Track" 1638 580 1081 z4<|r20 1648 ["self","written"] "__init__" "Track.__init__" 93 0 582 2 1086 1653 z4 ["self","tickets"] "top" "Track.top" 587 1 1661<|t
noncomputable def Lq (P:Params) (t:List Obj):List Obj:=r19 1664 ["self","other"] "twin" "Track.twin" 93 2 593 1 1100 1669 z4<|on 1672 ["clock","test","written"]::(r34 P 1636 z4 580 1655 1092 "top" 1675 "Track"<|r12 1678 1109<|r15<|od 10 [de P "__module__" 1690 z4,de P "__qualname__" 1692 (vs "Stand" 1691),de P "__firstlineno__" 1694 (vi 598 1693),dr P "__init__" 1703 1127,dr P "track_of" 1711 1134,dr P "kind_of" 1719 1141,dr P "tally_of" 1727 1148,dr P "looks" 1733 1153,dr P "twin" 1739 1158,dr P "__static_attributes__" 1747 1159]::(r27 [(600,1126),(611,1133),(616,1140),(621,1147),(626,1152),(629,1157)]<|r3 "Stand" 1685 598 1116 z4<|r20 1695 ["self","pages","room"] "__init__" "Stand.__init__" 94 0 600 3 1121 1701 z4 ["self","name"] "track_of" "Stand.track_of" 611 2 1709<|t))
noncomputable def MF (P:Params) (t:List Obj):List Obj:=r20 1712 ["self","name"] "kind_of" "Stand.kind_of" 94 2 616 2 1135 1717 z4 ["self","name"] "tally_of" "Stand.tally_of" 621 2 1725<|r4<|r22 "looks" "Stand.looks" 94 4 1728 626 1 1149 z4<|r4<|r22 "twin" "Stand.twin" 94 5 1734 629 1 1154 z4<|on 1740 ["counters","halting","known","pages","room","still","tracks"]::r40 P 1690 z4 598 1703 1127 "track_of" 1134 "kind_of" 1719 "tally_of" 1727 "looks" "twin" 1739 1158::(r9 "Stand" 1160 1683 1748<|r12 1750 1161<|r23 1755 ["stand","handed","name","fields"] "do_kind" 95 637 2 1166 1762 z4<|t)
noncomputable def Px (P:Params) (t:List Obj):List Obj:=r23 1765 ["stand","handed","name","over"] "do_lane" 96 642 2 1173 1772 z4<|r23 1775 ["stand","handed","name","steps","track"] "do_tick" 97 647 2 1180 1783 z4<|r23 1786 ["stand","handed","name","kind","track","form"] "do_claim" 98 653 2 1187 1795 z4<|r23 1798 ["stand","handed","name","values","track"] "do_fill" 99 660 2 1194 1806 z4<|r23 1809 ["stand","handed","track","ticket","time","kind","values","form","tally"] "do_give" 100 664 2 1201 1821 z4<|t
noncomputable def Rg (P:Params) (t:List Obj):List Obj:=r23 1824 ["stand","handed","track"] "do_throw" 101 678 2 1208 1830 z4<|r23 1833 ["stand","handed","name","kind","values"] "do_write" 102 681 2 1215 1841 z4<|r23 1844 ["stand","handed"] "do_take" 103 687 2 1222 1849 z4<|r23 1852 ["stand","handed","name","pages"] "do_resize" 104 689 2 1229 1859 z4<|r23 1862 ["stand","handed","name","test","track"] "do_sieve" 105 692 2 1236 1870 z4<|t
noncomputable def Q6 (P:Params) (t:List Obj):List Obj:=r23 1873 ["stand","handed","name","test","keys","tally"] "do_tally" 106 697 2 1243 1882 z4<|r23 1885 ["stand","handed","test"] "do_halt" 107 703 2 1250 1891 z4<|r23 1894 ["stand","handed"] "do_stop" 108 708 2 1257 1899 z4<|r23 1902 ["stand","handed"] "do_go" 109 710 2 1264 1907 z4<|r23 1910 ["stand","handed","told","step","deed","error"] "do_whole" 110 712 2 1271 1919 z4<|od 16 [dr P "kind" 1922 1172,dr P "lane" 1924 1179,dr P "tick" 1926 1186,dr P "claim" 1928 1193,dr P "fill" 1930 1200,dr P "give" 1932 1207,dr P "throw" 1934 1214,dr P "write" 1936 1221,dr P "take" 1938 1228,dr P "resize" 1940 1235,dr P "sieve" 1942 1242,dr P "tally" 1944 1249,dr P "halt" 1946 1256,dr P "stop" 1948 1263,dr P "go" 1950 1270,dr P "whole" 1952 1277]::t
noncomputable def R9 (P:Params) (t:List Obj):List Obj:=r23 1955 ["stand","deed","act"] "perform" 112 721 2 1279 1961 z4<|r15<|od 42 [de P "__module__" 1973 z3,de P "__qualname__" 1975 (vs "Recorder" 1974),de P "__firstlineno__" 1977 (vi 725 1976),dr P "__init__" 1988 1300,dr P "kind" 1997 1309,dr P "lane" 2007 1317,dr P "tick" 2017 1325,dr P "claim" 2026 1332,dr P "fill" 2035 1339,dr P "give" 2043 1346,dr P "throw" 2051 1353,dr P "write" 2061 1360,dr P "take" 2069 1367,dr P "resize" 2078 1374,dr P "sieve" 2087 1381,dr P "tally" 2098 1390,dr P "halt" 2106 1398,dr P "stop" 2113 1405,dr P "go" 2120 1412,dr P "whole" 2128 1419,dr P "do" 2138 1426,dr P "undo" 2145 1433,dr P "redo" 2152 1440,dr P "go_along" 2161 1447,dr P "done" 2167 1452,dr P "twin" 2175 1459,dr P "kinds" 2181 1464,dr P "lanes" 2188 1471,dr P "now" 2196 1478,dr P "test_of" 2204 1485,dr P "look" 2212 1492,dr P "pending" 2220 1499,dr P "counts" 2228 1506,dr P "table" 2236 1513,dr P "dropped" 2244 1520,dr P "tallies" 2251 1527,dr P "stopped" 2258 1534,dr P "halted_by" 2265 1541,dr P "looker" 2273 1548,dr P "order" 2283 1556,dr P "__len__" 2289 1561,dr P "__static_attributes__" 2293 1562]::(r27 [(727,1299),(732,1308),(735,1316),(738,1324),(741,1331),(744,1338),(747,1345),(750,1352),(753,1359),(756,1366),(759,1373),(762,1380),(765,1389),(768,1397),(771,1404),(774,1411),(777,1418),(780,1425),(788,1432),(791,1439),(794,1446),(797,1451),(800,1458),(807,1463),(811,1470),(814,1477),(817,1484),(820,1491),(823,1498),(826,1505),(829,1512),(832,1519),(835,1526),(838,1533),(841,1540),(844,1547),(847,1555),(850,1560)]<|r3 "Recorder" 1968 725 1288 z3<|od 2 [de P "pages" 1978 (vi 4 963),de P "room" 1979 (vi 8 965)]::(r18 1983 ["self","pages","room"]<|r28 "__init__" "Recorder.__init__" 114 0 1980 727 1 2 1293 1986 z3<|ot #[]::ot #[vr 1301]::(r18 1992 ["self","name","fields"]<|r11 "kind" "Recorder.kind" 114 1 1989 732 3 1302 1995 z3<|od 1 [de P "over" 1998 (vb)]::(r18 2002 ["self","name","over"]<|r28 "lane" "Recorder.lane" 114 2 1999 735 2 1 1310 2005 z3<|ot #[vi 1 2008]::t))))
noncomputable def QF (P:Params) (t:List Obj):List Obj:=r18 2012 ["self","lane","steps"]<|r11 "tick" "Recorder.tick" 114 3 2009 738 3 1318 2015 z3<|r20 2018 ["self","lane","kind"] "claim" "Recorder.claim" 114 4 741 3 1326 2024 z3 ["self","lane","values"] "fill" "Recorder.fill" 744 3 2033<|r20 2036 ["self","lane"] "give" "Recorder.give" 114 6 747 2 1340 2041 z3 ["self","lane"] "throw" "Recorder.throw" 750 2 2049<|t
noncomputable def RK (P:Params) (t:List Obj):List Obj:=r20 2052 ["self","lane","kind","values"] "write" "Recorder.write" 114 8 753 4 1354 2059 z3 ["self","lane"] "take" "Recorder.take" 756 2 2067<|r20 2070 ["self","lane","pages"] "resize" "Recorder.resize" 114 10 759 3 1368 2076 z3 ["self","lane","test"] "sieve" "Recorder.sieve" 762 3 2085<|ot #[]::od 1 [dr P "keys" 2088 1382]::(r18 2092 ["self","name","test","keys"]<|r28 "tally" "Recorder.tally" 114 12 2089 765 3 1 1383 2096 z3<|ot #[vn]::t)
noncomputable def R7 (P:Params) (t:List Obj):List Obj:=r18 2102 ["self","test"]<|r11 "halt" "Recorder.halt" 114 13 2099 768 2 1391 2104 z3<|r20 2107 ["self"] "stop" "Recorder.stop" 114 14 771 1 1399 2111 z3 ["self"] "go" "Recorder.go" 774 1 2118<|r20 2121 ["self","deeds"] "whole" "Recorder.whole" 114 16 777 2 1413 2126 z3 ["self","deed","later","told"] "do" "Recorder.do" 780 2 2136<|t
noncomputable def Rp (P:Params) (t:List Obj):List Obj:=r20 2139 ["self"] "undo" "Recorder.undo" 114 18 788 1 1427 2143 z3 ["self"] "redo" "Recorder.redo" 791 1 2150<|r19 2153 ["self","source","goal"] "go_along" "Recorder.go_along" 114 20 794 3 1441 2159 z3<|r4<|r22 "done" "Recorder.done" 114 21 2162 797 1 1448 z3<|r19 2168 ["self","other"] "twin" "Recorder.twin" 114 22 800 1 1453 2173 z3<|r4<|r22 "kinds" "Recorder.kinds" 114 23 2176 807 1 1460 z3<|t
noncomputable def QD (P:Params) (t:List Obj):List Obj:=r20 2182 ["self"] "lanes" "Recorder.lanes" 114 24 811 1 1465 2186 z3 ["self","lane"] "now" "Recorder.now" 814 2 2194<|r20 2197 ["self","lane"] "test_of" "Recorder.test_of" 114 26 817 2 1479 2202 z3 ["self","lane"] "look" "Recorder.look" 820 2 2210<|t
noncomputable def Sy (P:Params) (t:List Obj):List Obj:=r20 2213 ["self","lane"] "pending" "Recorder.pending" 114 28 823 2 1493 2218 z3 ["self","lane"] "counts" "Recorder.counts" 826 2 2226<|r20 2229 ["self","name"] "table" "Recorder.table" 114 30 829 2 1507 2234 z3 ["self","name"] "dropped" "Recorder.dropped" 832 2 2242<|t
noncomputable def JF (P:Params) (t:List Obj):List Obj:=r20 2245 ["self"] "tallies" "Recorder.tallies" 114 32 835 1 1521 2249 z3 ["self"] "stopped" "Recorder.stopped" 838 1 2256<|r20 2259 ["self"] "halted_by" "Recorder.halted_by" 114 34 841 1 1535 2263 z3 ["self","lane"] "looker" "Recorder.looker" 844 2 2271<|r38 P 2274 99999 873 ["self","causes","most"]<|r28 "order" "Recorder.order" 114 36 2275 847 2 1 1549 2281 z3<|r4<|t
noncomputable def Ip (P:Params) (t:List Obj):List Obj:=r22 "__len__" "Recorder.__len__" 114 37 2284 850 1 1557 z3<|on 2290 ["past","stand","undone"]::od 4 [de P "__module__" 1973 z3,de P "__firstlineno__" 1977 (vi 725 1976),dr P "__init__" 1988 1300,dr P "kind" 1997 1309,dr P "lane" 2007 1317,dr P "tick" 2017 1325,dr P "claim" 2026 1332,dr P "fill" 2035 1339,dr P "give" 2043 1346,dr P "throw" 2051 1353,dr P "write" 2061 1360,dr P "take" 2069 1367,dr P "resize" 2078 1374,dr P "sieve" 2087 1381,dr P "tally" 2098 1390,dr P "halt" 2106 1398,dr P "stop" 2113 1405,dr P "go" 2120 1412,dr P "whole" 2128 1419,dr P "do" 2138 1426,dr P "undo" 2145 1433,dr P "redo" 2152 1440,dr P "go_along" 2161 1447,dr P "done" 2167 1452,dr P "twin" 2175 1459,dr P "kinds" 2181 1464,dr P "lanes" 2188 1471,dr P "now" 2196 1478,dr P "test_of" 2204 1485,dr P "look" 2212 1492,dr P "pending" 2220 1499,dr P "counts" 2228 1506,dr P "table" 2236 1513,dr P "dropped" 2244 1520,dr P "tallies" 2251 1527,dr P "stopped" 2258 1534,dr P "halted_by" 2265 1541,dr P "looker" 2273 1548,dr P "order" 2283 1556,dr P "__len__" 2289 1561,dr P "__static_attributes__" 2293 1562,dr P "__dict__" 2295 1565,dr P "__weakref__" 2297 1566,dn P "__doc__" 2298]::(r9 "Recorder" 1563 1966 2294<|r12 2296 1564<|r23 2303 ["_law_script","_law_seed","_law_cell"] "_law_begin" 116 853 1 1569 2309 z5<|r23 2312 ["_law_d","_law_many","_law_cell","_law_digit","_law_one"] "_law_pick" 117 858 2 1576 2320 z5<|r23 2323 ["_law_d","_law_things"] "_law_of" 118 873 2 1583 2328 z5<|r23 2331 ["_law_d","_law_number"] "_law_far" 119 875 1 1590 2336 z5<|r4<|t)
noncomputable def JV (P:Params) (t:List Obj):List Obj:=r29 "_law_same" 120 2339 878 2 1597 z5<|r4<|r29 "_law_word" 121 2345 888 1 1602 z5<|r23 2351 ["_law_d","_law_many","_law_found","_law_k","_law_word_here","_law_step"] "_law_words" 122 894 2 1607 2360 z5<|r4<|r29 "_law_is_name" 123 2363 903 1 1614 z5<|r23 2369 ["_law_ask_here","_law_told","_law_word_here","e"] "_law_ask" 124 905 1 1619 2376 z5<|r23 2379 ["_law_d","_law_text","_law_odd"] "_law_odd_name" 125 917 2 1626 2385 z5<|t
noncomputable def Jh (P:Params) (t:List Obj):List Obj:=r23 2388 ["_law_fields","_law_names","_law_title","_law_low","_law_high"] "_law_fields_word" 126 920 1 1633 2396 z5<|r23 2399 ["_law_d","_law_fields","_law_some","_law_step","_law_at","_law_way"] "_law_bent_fields" 127 933 2 1640 2408 z5<|r4<|r29 "_law_tell" 128 2411 951 1 1647 z5<|r4<|on 2420 ["_law_rec","_law_some","_law_words_here"]::on 2423 ["_law_rec","_law_some"]::(r16 "_law_full_words" 129 2417 960 2 1652 2425 z5<|r4<|r29 "law" 130 2428 965 1 1659 z5<|t)
noncomputable def XM (P:Params) (t:List Obj):List Obj:=ug P k2 (T7 P) RL t
noncomputable def Xf (P:Params) (t:List Obj):List Obj:=wQ P Bh t
noncomputable def nt (k:Nat):List Obj->Obj:=Nat.rec (fun l=>List.rec (ot #[]) (fun o _ _=>o) l) (fun _ a l=>List.rec (ot #[]) (fun _ t _=>a t) l) k
local macro_rules|`(#v[$xs,*])=>do
 let mut t ← `([])
 for x in xs.getElems.reverse do
  let `($f:ident $as*):=x|Lean.Macro.throwUnsupported
  let n:=as.map fun a=>a.raw.isNatLit?.getD 0
  let mut l:=#[]
  let mut p:=0
  for i in [1:n.size] do
   if i%2==0 then for j in [0:n[i]!] do l:=l.push (p+j)
   p:=p+n[i]!
  for k in l.reverse do t ← `((nat_lit $(Lean.Syntax.mkNumLit (toString (n[0]!+k))),nt $(Lean.Syntax.mkNumLit (toString k)) ($f P []))::$t)
 `(fun P=>$t)
noncomputable def KK:Params->Frag:=#v[XM 0 2 2,Xf 15 0 1 1 2 1 3 6 2 1 2 1 6 2 1,wI 48 2 2 1 2 1 5 2 1 6 2 1 2 1 5 2 1,wM 88 2 2 1 2 1 5 2 1 6 2 1 2 1 5 2 1,wK 128 2 2 1 2 1 5 2 1 6 2 1 2 1 5,zF 163 0 1 6 2 1 2 1 5 2 1,zp 188 2 2 1 2 1 5 2 1 6 2 1 2 1 5 2 1,yS 228 2 2 1 2 1 5 2 1 6 2 1 2 1 5 2 1,yC 268 2 2 1 2 1 5 2 1 6 2 1 2 1 5,Ba 303 0 1 6 1 1 2 1 5 2 1 6 1 1 2 1 5 2 1,Ab 342 6 2 1 2 1 6 2 1,By 367 2 2 1 2 1 5 2 1 6 2 1 2 1 5 2 1,Bc 407 2 2 1 2 1 5 2 1 6 2 1 2 1 5,Fx 442 0 1 1 2 1 3 1 2 1 3 1 2 1 3 2 2 7 3 1 2,Fv 481 1 3 2 3 1 2 1 3 1 2 1 3 1 2 1 3 1 2 1 2,Ey 517 0 1 1 2 1 3 1 2 1 3 1 2 1 7 2 1 1 2 1 2,Fz 552 0 1 1 2 1 3 1 2 1 3 1 2 1 3 2 3 2 4 2 2,El 589 0 2 1 2 1 3 1 2 1 3 1 2 1 3 1 2 1 3 1 2 1 2,Fq 625 0 1 1 2 1 2 7 1 1 2 1 3 1 2 1 3 1 2 1 6,Fd 664 0 1 9 1 1 2 1 3 2 3 2 3 2 7,Gp 703 7 2 1 2 1 3 1 2 1 3 1 2 1 2,IK 732 0 1 1 2 1 3 1 2 1 3 1 2 1 3 2 3 1 2 1 3 1 2 1 2,Je 772 0 1 1 2 1 3 1 2 1 3 1 2 1 3 1 2 1 2,HS 800 0 1 1 2 1 3 1 2 1 3 1 2 1 3 2 3 1 2 1 3 1 2 1 2,JX 840 0 1 1 2 1 3 1 2 1 3 2 3 2 3 1 2 1 7,Ik 880 5 1 1 2 1 4 1 2 1 3 1 2 1 4 1 2 1 6,Ig 919 0 1 2 1 1 2 1 3 2 3 2 4 1 2 1 3,NK 948 0 2 1 2 1 3 1 2 1 3 1 2 1 3 2 3 1 2 1 2,Mp 982 0 1 1 2 1 3 1 2 1 3 1 2 1 3 1 2 1 2 7 2 1 2,Nh 1022 1 3 2 3 1 2 1 3 1 2 1 3 1 2 1 3 1 2 1 6,KQ 1062 0 1 2 1 1 2 1 3 1 2 1 2 7 1 1 2 1 3 1 2 1 2,Lq 1100 0 1 1 2 1 7 9 1 1 2 1 3 1 2 1 2,MF 1135 0 1 1 2 1 3 1 2 1 3 2 3 2 7 2 1 1 2 1 2,Px 1173 0 1 1 2 1 3 1 2 1 3 1 2 1 3 1 2 1 3 1 2 1 2,Rg 1208 0 1 1 2 1 3 1 2 1 3 1 2 1 3 1 2 1 3 1 2 1 2,Q6 1243 0 1 1 2 1 3 1 2 1 3 1 2 1 3 1 2 1 3 1 2 1 3,R9 1279 0 1 1 2 1 2 7 2 1 2 1 5 1 2 1 4 1 2 1 3,QF 1319 0 1 1 2 1 3 1 2 1 3 1 2 1 3 1 2 1 3 1 2 1 2,RK 1354 0 1 1 2 1 3 1 2 1 3 1 2 1 3 1 2 1 5 1 2 1 3,R7 1392 0 1 1 2 1 3 1 2 1 3 1 2 1 3 1 2 1 3 1 2 1 2,Rp 1427 0 1 1 2 1 3 1 2 1 3 1 2 1 3 2 3 1 2 1 3 2 2,QD 1465 0 1 1 2 1 3 1 2 1 3 1 2 1 3 1 2 1 2,Sy 1493 0 1 1 2 1 3 1 2 1 3 1 2 1 3 1 2 1 2,JF 1521 0 1 1 2 1 3 1 2 1 3 1 2 1 3 1 2 1 4 1 2 1 3,Ip 1559 1 7 2 1 1 2 1 3 1 2 1 3 1 2 1 3 1 2 1 3,JV 1599 1 3 2 3 1 2 1 3 2 3 1 2 1 3 1 2 1 2,Jh 1633 0 1 1 2 1 3 1 2 1 3 2 3 1 2 1 3 2 2]
noncomputable def WF:List Addr:=(KK {strHash:=fun _=>0,shareClass:=fun _=>0,mergeTok:=fun x=>x,idOf:=fun _=>0,idOfShared:=fun _ _=>0,followText:=fun _=>true,idOfImm:=fun _=>0}).map (·.1)
def eK:∀ P,WF=(KK P).map (·.1):=fun P=>by kernel_rfl
noncomputable def vw:Program:={ PySem.Challenge.pw_lanescribe_k36_recorders_begun_and_full with main:={ PySem.Challenge.pw_lanescribe_k36_recorders_begun_and_full.main with body:=[tp 0,tp 2,tp 3,tp 4,tp 5,tp 6,tp 7,tp 8,tp 9,tp 10,tp 11,tp 12,tp 13,tp 14,tp 15,tp 16,tp 17,tp 18,tp 19,tp 20,tp 21,tp 22,tp 24,tp 25,tp 26,tp 27,tp 28,tp 29,tp 30,tp 31,tp 33,tp 34,tp 35,tp 36,tp 37,tp 38,tp 39,tp 40,tp 41,tp 42,tp 45,tp 47,tp 48,tp 49,tp 50,tp 51,tp 52,tp 53,tp 54,tp 55,tp 56,tp 57,tp 58,tp 59,tp 61,tp 62,tp 64,tp 65,tp 66,tp 69,tp 70,tp 71,tp 72,tp 73,tp 74,tp 75,tp 76,tp 77,tp 78,tp 79,tp 80,tp 82,tp 83,tp 84,tp 85,tp 86,tp 88,tp 89,tp 90,tp 91,tp 92,tp 93,tp 94,tp 95,tp 96,tp 97,tp 98,tp 99,tp 100,tp 101,tp 102,tp 103,tp 104,tp 105,tp 106,tp 107,tp 108,tp 109,tp 110,tp 111,tp 112,tp 114,tp 116,tp 117,tp 118,tp 119,tp 120,tp 121,tp 122,tp 123,tp 124,tp 125,tp 126,tp 127,tp 128,tp 129,tp 130] } }
noncomputable def ls:List Str:=[u "ScribeError",u "BadName",u "BadBounds",u "BadTest",u "BadSize",u "BadTime",u "BadKeys",u "BadTie",u "BadCause",u "Taken",u "Full",u "NotTop",u "Stopped",u "Busy",u "Missing",u "NoLane",u "NoKind",u "NoTicket",u "NoTally",u "Kind",u "HIGHEST_MOST",u "amounts",u "ring",u "Lane",u "Looker",u "ordered",u "WITHIN",u "SIGN_OF",u "Tally",u "DEEDS",u "Recorder"]
noncomputable def lv:List (Str×WData):=[(u "HIGHEST_MOST",WData.int 1000000000000)]
abbrev Xt:Shared->Bool:=fun s=>xlAt vw lv s && recOk (RowW.records (OpenRow.toRowW PySem.Challenge.rw_lanescribe_k36_recorders_begun_and_full.row)) s
abbrev hk:Hook:=kmHook KK WF eK [1653,935,1660]
def ba {a b:Bool} (h:a=true) (c:b=true):(a && b)=true:=by rw [h,c];rfl
abbrev lw:=PySem.Challenge.rw_lanescribe_k36_recorders_begun_and_full
def YC:namesResolve lw.row.prog=true:=by kernel_rfl
def Yo:(lw.row.prog.boundNames.all fun n=>!worldNames.contains n)=true:=by kernel_rfl
noncomputable def Y6:noRoadLSs { strict:=!(importedModules lw.row.prog.main.body).all cThrough.contains,foot:=none,bare:=List.filter (readsOut lw.row.prog lw.row.prog.main.body) [Str.ofString "vars",Str.ofString "dir",Str.ofString "locals"] } lw.row.prog.main.body=true:=by kernel_rfl
def Yl:(namesMeet lw.row.prog lw.row.prog.main.body fun _ n=>attrL n)=true:=by kernel_rfl
def YS:looksOpen lw.row.prog=true:=ba (ba (ba (ba (by kernel_rfl) YC) Yo) Y6) Yl
noncomputable def XD:lw.row.wellSaid=true:=ba (ba (ba (ba (ba (ba (ba (ba (ba (ba (ba (ba (ba (ba (ba YS (by kernel_rfl)) (by kernel_rfl)) (by kernel_rfl)) (by kernel_rfl)) (by kernel_rfl)) (by kernel_rfl)) (by kernel_rfl)) (by kernel_rfl)) (by kernel_rfl)) (by kernel_rfl)) (by kernel_rfl)) (by kernel_rfl)) (by kernel_rfl)) (by kernel_rfl)) (by kernel_rfl)
def Xg:(lw.bound'.all fun n=>!builtinNamed n || lw.about == [n] || !lw.reads n)=true:=by kernel_rfl
def X4:(namesMeet lw.prog lw.above fun _ n=>!lw.own.contains n)=true:=by kernel_rfl
noncomputable def said:PySem.Challenge.rw_lanescribe_k36_recorders_begun_and_full.wellSaid=true:=ba (ba (ba (ba (ba (ba (ba (ba (ba (ba (ba (ba (ba (ba (ba (ba (ba (ba XD (by kernel_rfl)) (by kernel_rfl)) (by kernel_rfl)) (by kernel_rfl)) (by kernel_rfl)) (by kernel_rfl)) (by kernel_rfl)) (by kernel_rfl)) (by kernel_rfl)) Xg) (by kernel_rfl)) (by kernel_rfl)) (by kernel_rfl)) (by kernel_rfl)) (by kernel_rfl)) (by kernel_rfl)) X4) (by kernel_rfl)
noncomputable def openP:opening (OpenRow.toRowW PySem.Challenge.rw_lanescribe_k36_recorders_begun_and_full.row).prog=plainProg (OpenRow.toRowW PySem.Challenge.rw_lanescribe_k36_recorders_begun_and_full.row).prog.main.scope.names:=by kernel_rfl
theorem HY {p:Program} {w:World} {N L:Nat} {s0 d:Shared} {f:Thread} {c:Nat} {b:Option Value} {g:Type} {F:Shared->g} {X:g} (h:(s0.heap.isNs mainGlobals && s0.gens.size == 0)=true) (i:s0.heap.objs.size=c) (j:s0.heap.nsMap mainGlobals "__annotations__" = b)
 (chain:∀ r,topRun treeTable p w c b L d f=some r->topRun treeTable p w c b N s0 (topStub p)=some r)
 (last:((topRun treeTable p w c b L d f).bind fun a=>match staticsOk (importedModules p.main.body) s0.heap a.heap && namesBound p a.heap && gensDone a && laidKept s0.heap a.heap with
  |true=>some a
  |false=>none).map F=some X):(topFrom treeTable p w N s0).map F=some X:=by
 cases hA:topRun treeTable p w c b L d f with
 |none=>rw [hA] at last;cases last
 | some r=>have e:=chain r hA;unfold topFrom;rw [h,i,j,e];rw [hA] at last;exact last
abbrev pp:Program:=(OpenRow.toRowW PySem.Challenge.rw_lanescribe_k36_recorders_begun_and_full.row).prog
def env:Env:={ scope:=pp.main.scope,locals:=mainNs,globals:=mainNs,cells:=[],code:=vr 13,frame:=some 14 }
abbrev cd:Code:=.body (behindTheImports pp) env
noncomputable abbrev fp:Pos:={ line:=0,col:=0,endLine:=0,endCol:=0 }
abbrev an:Option Value:=some (vr 6)
abbrev Kc (w:World) (a:OsState):Shared:=⟨boot_heap w.params,Array.mk [],boot_drawn,boot_toks,a⟩
def h_a (P:Params):Heap:=⟨⟨ug P (boot_o_2 P) (boot_o_3 P) o1<|[]⟩,{ }⟩
abbrev Zq (w:World) (a:OsState):Shared:=⟨h_a w.params,Array.mk [],{ },187,a⟩
noncomputable abbrev Zk:Pos:={ line:=0,col:=0,endLine:=0,endCol:=0 }
def ZL (P:Params):Heap:=⟨⟨ug P (boot_o_2 P) (boot_o_3 P) o1<|[]⟩,{ }⟩
abbrev Xd (w:World) (a:OsState):Shared:=⟨ZL w.params,Array.mk [],{ },187,a⟩
noncomputable abbrev Z6:Pos:={ line:=0,col:=0,endLine:=0,endCol:=0 }
def bt (l:List Obj):BT:=(l.foldl (fun (a:BT×Nat) o=>(a.1.ins a.2 o,a.2+1)) (.nil,0)).1
def Kl (s:Shared):SharedT:=⟨bt s.heap.objs.toList,s.heap.objs.size,s.heap.life,s.gens,s.drawn,s.toks,s.os⟩
theorem B_ {tb p w n₀ ann b n s s' t f c q} (d:(Kl s).abs=s) (h:(segRunT tb p w n₀ ann b n (Kl s) t).map (fun r=>(r.1,r.2.1.abs,r.2.2))=some (f,s',c,q)):segRun tb p w n₀ ann b n s t=some (f,s',c,q):=by
 cases e:segRunT tb p w n₀ ann b n (Kl s) t with
 |none=>rw [e] at h;cases h
 | some r=>obtain ⟨g,a,i,j⟩:=r;have k:=segRun_of e;rw [d] at k;rw [e] at h;cases h;exact k
def ZK (w:World) (a:OsState):topGo treeTable pp w 11 an 12 (Kc w a) (topStub pp)=some (Zq w a,⟨denote treeTable cd,cd,Zk,[topFrame fp]⟩):=by kernel_rfl
def ZR (w:World) (a:OsState):segRun treeTable pp w 11 an 1 1 (Zq w a) (blockOf (behindTheImports pp) env cd Zk [topFrame fp])=some (.next,Xd w a,cd,Z6):=by kernel_rfl
def XF (P:Params):Heap:=⟨⟨ug P (boot_o_2 P) (o4 P) o5<|wQ P Zx<|wI P<|wM P<|wK P<|[]⟩,{ }⟩
abbrev V1 (w:World) (a:OsState):Shared:=⟨XF w.params,Array.mk [],{ },376,a⟩
noncomputable abbrev Vf:Pos:={ line:=30,col:=0,endLine:=33,endCol:=52 }
abbrev YK:List Stmt:=((behindTheImports pp).drop 0).take 9
def r_9 (w:World) (a:OsState):segRun treeTable pp w 11 an 1 1737 (Xd w a) (piecesOf YK env cd Z6 [topFrame fp])=some (.next,V1 w a,cd,Vf):=B_ (by kernel_rfl) (by kernel_rfl)
def TX (P:Params):Heap:=⟨⟨ug P (boot_o_2 P) (Xw P) Xp<|wQ P Yx<|wI P<|wM P<|wK P<|zF P<|zp P<|yS P<|yC P<|[]⟩,{ }⟩
abbrev Pq (w:World) (a:OsState):Shared:=⟨TX w.params,Array.mk [],{ },551,a⟩
noncomputable abbrev Pb:Pos:={ line:=58,col:=0,endLine:=61,endCol:=49 }
abbrev Rz:List Stmt:=((behindTheImports pp).drop 9).take 7
def Yc (w:World) (a:OsState):segRun treeTable pp w 11 an 1 1723 (V1 w a) (piecesOf Rz env cd Vf [topFrame fp])=some (.next,Pq w a,cd,Pb):=B_ (by kernel_rfl) (by kernel_rfl)
def Wv (P:Params):Heap:=⟨⟨ug P (boot_o_2 P) (o200 P) Xo<|wQ P Bh<|wI P<|wM P<|wK P<|zF P<|zp P<|yS P<|yC P<|Ba P<|Ab P<|By P<|Bc P<|[]⟩,{ }⟩
abbrev O9 (w:World) (a:OsState):Shared:=⟨Wv w.params,Array.mk [],{ },733,a⟩
noncomputable abbrev Pn:Pos:={ line:=90,col:=0,endLine:=93,endCol:=48 }
abbrev RT:List Stmt:=((behindTheImports pp).drop 16).take 7
def XX (w:World) (a:OsState):segRun treeTable pp w 11 an 1 1699 (Pq w a) (piecesOf RT env cd Pb [topFrame fp])=some (.next,O9 w a,cd,Pn):=B_ (by kernel_rfl) (by kernel_rfl)
def Wh (P:Params):Heap:=⟨⟨ug P (boot_o_2 P) (Z9 P) YX<|wQ P Bh<|wI P<|wM P<|wK P<|zF P<|zp P<|yS P<|yC P<|Ba P<|Ab P<|By P<|Bc P<|Fx P<|Fv P<|Ey P<|Fz P<|El P<|Fq P<|Fd P<|[]⟩,{ }⟩
abbrev Oc (w:World) (a:OsState):Shared:=⟨Wh w.params,Array.mk [],{ },1107,a⟩
noncomputable abbrev O6:Pos:={ line:=250,col:=0,endLine:=268,endCol:=20 }
abbrev PL:List Stmt:=((behindTheImports pp).drop 23).take 36
def Yp (w:World) (a:OsState):segRun treeTable pp w 11 an 1 1764 (O9 w a) (piecesOf PL env cd Pn [topFrame fp])=some (.next,Oc w a,cd,O6):=B_ (by kernel_rfl) (by kernel_rfl)
noncomputable def V3 (P:Params):Heap:=⟨⟨ug P (boot_o_2 P) (Xj P) Xr<|wQ P Bh<|wI P<|wM P<|wK P<|zF P<|zp P<|yS P<|yC P<|Ba P<|Ab P<|By P<|Bc P<|Fx P<|Fv P<|Ey P<|Fz P<|El P<|Fq P<|Fd P<|Gp P<|IK P<|Je P<|HS P<|JX P<|Ik P<|Ig P<|[]⟩,{ }⟩
abbrev Oi (w:World) (a:OsState):Shared:=⟨V3 w.params,Array.mk [],{ },1454,a⟩
noncomputable abbrev Ou:Pos:={ line:=474,col:=0,endLine:=474,endCol:=6 }
abbrev Tc:List Stmt:=((behindTheImports pp).drop 59).take 13
noncomputable def Xy (w:World) (a:OsState):segRun treeTable pp w 11 an 1 1554 (Oc w a) (piecesOf Tc env cd O6 [topFrame fp])=some (.next,Oi w a,cd,Ou):=by (revert w a;refine (byRow2 "special-get-raises" ?_ ?_:∀ w,_) <;> (intro w a;exact B_ (by kernel_rfl) (by kernel_rfl)))
noncomputable def We (P:Params):Heap:=⟨⟨ug P (boot_o_2 P) (Yg P) Xx<|wQ P Bh<|wI P<|wM P<|wK P<|zF P<|zp P<|yS P<|yC P<|Ba P<|Ab P<|By P<|Bc P<|Fx P<|Fv P<|Ey P<|Fz P<|El P<|Fq P<|Fd P<|Gp P<|IK P<|Je P<|HS P<|JX P<|Ik P<|Ig P<|NK P<|Mp P<|Nh P<|KQ P<|Lq P<|MF P<|[]⟩,{ }⟩
abbrev Ow (w:World) (a:OsState):Shared:=⟨We w.params,Array.mk [],{ },1765,a⟩
noncomputable abbrev Ov:Pos:={ line:=637,col:=0,endLine:=641,endCol:=42 }
abbrev Qm:List Stmt:=((behindTheImports pp).drop 72).take 24
noncomputable def YQ (w:World) (a:OsState):segRun treeTable pp w 11 an 1 1532 (Oi w a) (piecesOf Qm env cd Ou [topFrame fp])=some (.next,Ow w a,cd,Ov):=by (revert w a;refine (byRow2 "special-get-raises" ?_ ?_:∀ w,_) <;> (intro w a;exact B_ (by kernel_rfl) (by kernel_rfl)))
noncomputable def RN (P:Params):Heap:=⟨⟨ug P (boot_o_2 P) (T7 P) RL<|wQ P Bh<|wI P<|wM P<|wK P<|zF P<|zp P<|yS P<|yC P<|Ba P<|Ab P<|By P<|Bc P<|Fx P<|Fv P<|Ey P<|Fz P<|El P<|Fq P<|Fd P<|Gp P<|IK P<|Je P<|HS P<|JX P<|Ik P<|Ig P<|NK P<|Mp P<|Nh P<|KQ P<|Lq P<|MF P<|Px P<|Rg P<|Q6 P<|R9 P<|QF P<|RK P<|R7 P<|Rp P<|QD P<|Sy P<|JF P<|Ip P<|JV P<|Jh P<|[]⟩,{ }⟩
abbrev wH (w:World) (a:OsState):Shared:=⟨RN w.params,Array.mk [],{ },2434,a⟩
noncomputable abbrev wW:Pos:={ line:=965,col:=0,endLine:=998,endCol:=122 }
abbrev Ia:List Stmt:=((behindTheImports pp).drop 96).take 35
noncomputable def VN (w:World) (a:OsState):segRun treeTable pp w 11 an 1 2703 (Ow w a) (piecesOf Ia env cd Ov [topFrame fp])=some (.next,wH w a,cd,wW):=by (revert w a;refine (byRow2 "special-get-raises" ?_ ?_:∀ w,_) <;> (intro w a;exact B_ (by kernel_rfl) (by kernel_rfl)))
abbrev Us:List Stmt:=(behindTheImports pp).drop 131
def TQ:behindTheImports pp=(YK++(Rz++(RT++(PL++(Tc++(Qm++(Ia++Us))))))):=by kernel_rfl
noncomputable def h_z (P:Params):Heap:=⟨⟨ug P (boot_o_2 P) (T7 P) RL<|wQ P Bh<|wI P<|wM P<|wK P<|zF P<|zp P<|yS P<|yC P<|Ba P<|Ab P<|By P<|Bc P<|Fx P<|Fv P<|Ey P<|Fz P<|El P<|Fq P<|Fd P<|Gp P<|IK P<|Je P<|HS P<|JX P<|Ik P<|Ig P<|NK P<|Mp P<|Nh P<|KQ P<|Lq P<|MF P<|Px P<|Rg P<|Q6 P<|R9 P<|QF P<|RK P<|R7 P<|Rp P<|QD P<|Sy P<|JF P<|Ip P<|JV P<|Jh P<|[]⟩,{ }⟩
abbrev Kg (w:World) (a:OsState):Shared:=⟨h_z w.params,Array.mk [],{ },2434,a⟩
def Z_ (w:World) (a:OsState):topRun treeTable pp w 11 an 501 (wH w a) (restOf Us env cd wW [topFrame fp])=some (Kg w a):=by kernel_rfl
def ZM (w:World) (a:OsState):staticsOk (importedModules pp.main.body) (Kc w a).heap (Kg w a).heap=true:=by kernel_rfl
def ZX (w:World) (a:OsState):namesBound pp (Kg w a).heap=true:=by kernel_rfl
def Zy (w:World) (a:OsState):gensDone (Kg w a)=true:=by kernel_rfl
def q_4 (w:World) (a:OsState):laidKept (Kc w a).heap (Kg w a).heap=true:=by kernel_rfl
abbrev HA (q:Program) (l:List Str) (s:Shared):Prop:=PyProof.Rows.seen ((PyProof.Rows.recsOf q).map (·.name)) (PyProof.Rows.ownsOf q) [] { s with gens:=#[] }=PyProof.Rows.expectedOf q/\s.heap.bltView=bltViewBooted/\s.heap.keysOk (looseW q l) ((PyProof.Rows.recsOf q).map (·.name)) ((PyProof.Rows.litsOf q).map (·.1)) ((PyProof.Rows.clssOf q (looseW q l)).map (·.name))=true
abbrev HB (q:Program) (s:Shared):Prop:=PyProof.Rows.tabsOk q s=true/\wideSeen q s=wideGood q
noncomputable def ZC {q:Program} {l m:List Str} {Xt:Shared->Bool} {s:Shared} (a:HA q l s) (b:HB q s) (k2:s.heap.accountedOkI m=true) (c:s.heap.isNs mainGlobals=true) (d:s.heap.isNs builtinsNs=true) (e:PyProof.Rows.tablesOk q s.heap=true) (f:Xt s=true) (g:(s.gens.size == 0)=true) (h:pinSeenD q (PyProof.Rows.drecsOf q) s=pinGoodD (PyProof.Rows.drecsOf q)) (i:PyProof.Rows.plainSeenE q (looseW q l) s=PyProof.Rows.plainGoodE q (looseW q l)) (j:PyProof.Rows.plainSeenD q l s=PyProof.Rows.plainGoodD q l) (n:clsSeenW q l s=clsGoodW q l):openSeen q l m Xt true s=openGood q l:=by unfold openSeen openGood;rw [a.1,a.2.1,a.2.2,k2,c,d,e,f,b.1,h,i,j,b.2,n];simp [g]
def q_A (w:World) (a:OsState):HA vw ls (Kg w a):=⟨by kernel_rfl,by kernel_rfl,by kernel_rfl⟩
def Zv (w:World) (a:OsState):HB vw (Kg w a):=⟨by kernel_rfl,by kernel_rfl⟩
noncomputable def q_5 (w:World) (a:OsState):openSeen vw ls (importedModules pp.main.body) Xt true (Kg w a)=openGood vw ls:=ZC (q_A w a) (Zv w a) (by kernel_rfl) (by kernel_rfl) (by kernel_rfl) (by kernel_rfl) (by kernel_rfl) (by kernel_rfl) (by kernel_rfl) (by kernel_rfl) (by kernel_rfl) (by kernel_rfl)
noncomputable def gT {s:Shared} {b:List Addr} {X:List (Option Obj)} (d:(Kl s).abs=s) (f:(b.all fun a=>Nat.blt a (Kl s).n && ((Kl s).tree.get a).isSome)=true) (g:b.map (fun a=>((Kl s).tree.get a).bind alive)=X):b.map s.heap.get?=X:=by rw [← g];refine List.map_congr_left fun a m=>?_;have e:s.heap=absHeap (Kl s).tree (Kl s).n (Kl s).life:=(aax Shared.heap d).symm;have z:=aaV.mp f a m;rw [aaP] at z;obtain ⟨o,c⟩:=Option.isSome_iff_exists.mp z.2;rw [c,e];exact abs_get (Nat.le_of_ble_eq_true z.1) c
def Y_ (w:World) (a:OsState):WF.map (Kg w a).heap.get?=(KK w.params).map (fun p=>some p.2):=gT (by kernel_rfl) (by kernel_rfl) (by kernel_rfl)
def q_6 (w:World) (a:OsState):hk.obs (Kg w a)=hk.val w:=Prod.ext (Y_ w a) (by kernel_rfl)
theorem Lp {r:Option Shared} {s:Shared} {a b c d:Shared->Bool} {i j:Type} {f:Shared->i} {g:Shared->j} {y:i} {z:j} (h:r=some s) (l:a s=true) (m:b s=true) (n:c s=true) (o:d s=true) (p:f s=y) (q:g s=z):((r.bind fun e=>match a e && b e && c e && d e with
 |true=>some e
 |false=>none).map fun s=>(f s,g s))=some (y,z):=by
 subst h p q;show (Option.map _ (match a s && b s && c s && d s with|true=>some s|false=>none))=_;rw [l,m,n,o];rfl
theorem last (w:World) (f:OsState):((topRun treeTable pp w 11 an 501 (wH w f) (restOf Us env cd wW [topFrame fp])).bind fun e=>match staticsOk (importedModules pp.main.body) (Kc w f).heap e.heap && namesBound pp e.heap && gensDone e && laidKept (Kc w f).heap e.heap with
 |true=>some e
 |false=>none).map (fun s=>(openSeen vw ls (importedModules pp.main.body) Xt true s,hk.obs s))=some (openGood vw ls,hk.val w):=Lp (a:=fun s=>staticsOk (importedModules pp.main.body) (Kc w f).heap s.heap) (b:=fun s=>namesBound pp s.heap) (c:=fun s=>gensDone s) (d:=fun s=>laidKept (Kc w f).heap s.heap) (Z_ w f) (ZM w f) (ZX w f) (Zy w f) (q_4 w f) (q_5 w f) (q_6 w f)
noncomputable def chain (w:World) (a:OsState) (r:Shared) (h:topRun treeTable pp w 11 an 501 (wH w a) (restOf Us env cd wW [topFrame fp])=some r):topRun treeTable pp w 11 an 13226 (Kc w a) (topStub pp)=some r:=by have k:topRun treeTable pp w 11 an 13213 (Xd w a) (restOf (YK++(Rz++(RT++(PL++(Tc++(Qm++(Ia++Us))))))) env cd Z6 [topFrame fp])=some r:=piece_app (r_9 w a) (piece_app (Yc w a) (piece_app (XX w a) (piece_app (Yp w a) (piece_app (Xy w a) (piece_app (YQ w a) (piece_app (VN w a) (h)))))));rw [← TQ] at k;exact go_top (n:=12) (N:=13214) (ZK w a) (piece_block (n:=1) (N:=13213) (ZR w a) k)
noncomputable def run (w:World) (a:OsState):(topFrom treeTable pp w 13226 (Kc w a)).map (fun s=>(openSeen vw ls (importedModules pp.main.body) Xt true s,hk.obs s))=some (openGood vw ls,hk.val w):=HY (s0:=Kc w a) (by kernel_rfl) (by kernel_rfl) (by kernel_rfl) (chain w a) (last w a)
def left:LeftO (OpenRow.toRowW PySem.Challenge.rw_lanescribe_k36_recorders_begun_and_full.row).prog vw ls Xt hk.obs hk.val 13226:=F_ openP (by decide) (fun s=>by kernel_rfl) run
noncomputable def head (h:(OpenRow.toRowW PySem.Challenge.rw_lanescribe_k36_recorders_begun_and_full.row).promised) {d:DefRec} {b:List (Str×Expr)} (c:defOf vw PySem.Challenge.rw_lanescribe_k36_recorders_begun_and_full.row.name=some (d,b)) (i:PySem.Challenge.rw_lanescribe_k36_recorders_begun_and_full.row.prog.theDef PySem.Challenge.rw_lanescribe_k36_recorders_begun_and_full.row.name=some (d.params,d.body,d.scope)) (g:kwWritten? d.params.kwonlyargs d.params.kw_defaults=some b)
 (j:WalkO vw ls (XL vw lv) (kmHook KK WF eK [1653,935,1660]).says (OpenRow.toRowW PySem.Challenge.rw_lanescribe_k36_recorders_begun_and_full.row) d b fun f vs=>PySem.call f vs):PySem.Challenge.rw_lanescribe_k36_recorders_begun_and_full.Holds:=
 holds_law said fun a=>holds_open (q:=vw) (loose:=ls) (Xt:=Xt) (XP:=XL vw lv) (Yf:=hk.obs) (Ya:=hk.val) (YP:=hk.says) (N:=13226) left hk.of hk.keeps (fun s e=>xl_of s (Bool.and_eq_true_iff.mp e).1) XL.keeps c i g (fun s e=>recFacts_of (Bool.and_eq_true_iff.mp e).2) (by rfl) a (by decide +kernel) ⟨rfl,rfl,rfl,rfl,rfl,by decide +kernel⟩ h j
end
end Kd
local macro_rules|`(tactic|ext)=>`(tactic|first|exact ⟨rfl,rfl,rfl,by decide +kernel,rfl,by decide +kernel,by decide +kernel⟩|exact ⟨rfl,by decide +kernel,by decide +kernel,by decide +kernel,rfl,by decide +kernel⟩|exact Nat.le_of_ble_eq_true rfl|(intro v _ _ _ h;first|(cases h;exact aax List.length (show v=_ by assumption))|(repeat first|exact aax List.length h.1|obtain ⟨_,h⟩:=h))|decide +kernel)
set_option bootstrap.genMatcherCode false
noncomputable section
local macro_rules|`(tactic|omega)=>`(tactic|first|assumption|exact Nat.le_trans (by assumption) (by decide)|exact Nat.le_of_lt (by assumption)|lia)
namespace L2
open PySem PySem.Spec PyProof.Rows
abbrev Key:=Sum Int Str
noncomputable def uv:Key->Value->Bool
 |.inl k,v=>Value.isInt k v
 |.inr x,v=>Value.isStrOf x v
noncomputable def YM (w:ZE):Key->Int
 |.inl k=>hashInt k
 |.inr x=>hashStr w x
theorem gO:∀ {k:Key} {v:ZH},uv k v=true->(∃ i t,k=Sum.inl i/\v=Value.int i t)∨(∃ x t,k=Sum.inr x/\v=Value.str x t)
 | .inl i,v,h=>by obtain ⟨t,e⟩:=Value.isInt_shape (k:=i) (v:=v) h;exact .inl ⟨i,t,rfl,e⟩
 | .inr x,v,h=>by obtain ⟨t,e⟩:=Value.isStrOf_shape (x:=x) (v:=v) h;exact .inr ⟨x,t,rfl,e⟩
def En (i:Int) (t:Tok):uv (.inl i) (.int i t)=true:=by simp [uv,Value.isInt]
def Fe (x:Str) (t:Tok):uv (.inr x) (.str x t)=true:=by simp [uv,Value.isStrOf]
def Qs (a b:Int):decide ((Sum.inl a:Key)=Sum.inl b)=(a == b):=by
 by_cases e:a=b
 ·subst e;simp
 ·have h:¬ (Sum.inl a:Key)=Sum.inl b:=fun q=>e (Sum.inl.inj q);rw [aaE h];exact (aby.mpr e).symm
def Td (a b:Str):decide ((Sum.inr a:Key)=Sum.inr b)=decide (a=b):=by
 by_cases e:a=b
 ·subst e;simp
 ·have h:¬ (Sum.inr a:Key)=Sum.inr b:=fun q=>e (acj q);rw [aaE h,aaE e]
def Q8 (a:Int) (b:Str):decide ((Sum.inl a:Key)=Sum.inr b)=false:=aaE (fun q=>nomatch q)
def QQ (a:Str) (b:Int):decide ((Sum.inr a:Key)=Sum.inl b)=false:=aaE (fun q=>nomatch q)
def gW (c:ZB) (w:ZE):PySem.KeyKind c w Key where
 is:=uv
 hash:=YM w
 inj:=fun v a b g f=>by
  rcases gO g with ⟨i,t,rfl,rfl⟩|⟨x,t,rfl,rfl⟩
  ·rcases gO f with ⟨j,u,rfl,e⟩|⟨y,u,rfl,e⟩
   ·injection e with e1 _;rw [e1]
   ·exact nomatch e
  ·rcases gO f with ⟨j,u,rfl,e⟩|⟨y,u,rfl,e⟩
   ·exact nomatch e
   ·injection e with e1 _;rw [e1]
 byValue:=fun k v h=>by rcases gO h with ⟨i,t,rfl,rfl⟩|⟨x,t,rfl,rfl⟩ <;> rfl
 pyHash:=fun d h=>by
  rcases gO d with ⟨i,t,rfl,rfl⟩|⟨x,t,rfl,rfl⟩
  ·exact wpAny_pyHash_int h
  ·exact wpAny_pyHash_str h
 eqBool:=fun l d h=>by
  rcases gO l with ⟨i,t,rfl,rfl⟩|⟨x,t,rfl,rfl⟩
  ·rcases gO d with ⟨j,u,rfl,rfl⟩|⟨y,u,rfl,rfl⟩
   ·rw [Qs] at h;exact wpAny_eqBool_int h
   ·rw [Q8] at h;exact SeqAt.EqAt.int_str i t y u _ _ _ _ h
  ·rcases gO d with ⟨j,u,rfl,rfl⟩|⟨y,u,rfl,rfl⟩
   ·rw [QQ] at h;exact SeqAt.EqAt.str_int x t j u _ _ _ _ h
   ·rw [Td] at h;exact wpAny_eqBool_str h
 «strs»:=fun k x t v h=>by
  rcases gO h with ⟨i,u,rfl,e⟩|⟨y,u,rfl,e⟩
  ·exact nomatch e
  ·injection e with e1 _
   subst e1;cases v <;> rfl
def zu (a:ZB) (w:ZE) (i:Int) (t:Tok):(gW a w).is (.inl i) (.int i t)=true:=En i t
def zy (a:ZB) (w:ZE) (x:Str) (t:Tok):(gW a w).is (.inr x) (.str x t)=true:=Fe x t
inductive V where
 |non|bl (b:Bool)|int (i:Int)|str (x:Str)|byt (b:Array UInt8)|flt (b:UInt64)|ref (a:Zl)|ty (n:String)
 deriving DecidableEq
def RelV:V->Value->Prop
 |.non,u=>u=Value.none
 |.bl b,u=>u=Value.bool b
 |.int i,u=>∃ t,u=Value.int i t
 |.str x,u=>∃ t,u=Value.str x t
 |.byt b,u=>∃ t,u=Value.bytes b t
 |.flt b,u=>∃ t,u=Value.float b t
 |.ref a,u=>u=Value.ref a
 |.ty n,u=>u=Value.type n
abbrev Vals:List V->List Value->Prop:=Paired RelV
def Vals.length (r:Vals xs a):xs.length=a.length:=abf r
theorem Vals.get:∀ {a:List V} {b:Y2} {i:Nat} {x:V},Vals a b->a[i]?=some x->∃ u,b[i]?=some u/\RelV x u
 |_,_,_,_,.nil,e=>by simp at e
 |_,_,0,_,.cons r _,e=>by simp at e;subst e;exact ⟨_,rfl,r⟩
 | _,_,i+1,x,.cons _ t,e=>by obtain ⟨u,c,d⟩:=Vals.get (i:=i) (x:=x) t (by simpa using e);exact ⟨u,by simpa using c,d⟩
theorem Vals.set (r:RelV x u):∀ {a:List V} {b:Y2} (i:Nat),Vals a b->Vals (a.set i x) (b.set i u)
 |_,_,_,.nil=>.nil
 |_,_,0,.cons _ t=>.cons r t
 |_,_,i+1,.cons q t=>.cons q (Vals.set r i t)
theorem Vals.append:∀ {a b:List V} {c d:Y2},Vals a c->Vals b d->Vals (a++b) (c++d)
 |_,_,_,_,.nil,s=>s
 |_,_,_,_,.cons r t,s=>.cons r (Vals.append t s)
theorem Vals.take:∀ {a:List V} {b:Y2} (n:Nat),Vals a b->Vals (a.take n) (b.take n)
 |_,_,0,_=>.nil
 |_,_,_+1,.nil=>.nil
 |_,_,n+1,.cons r t=>.cons r (Vals.take n t)
theorem Vals.drop:∀ {a:List V} {b:Y2} (n:Nat),Vals a b->Vals (a.drop n) (b.drop n)
 |_,_,0,r=>r
 |_,_,_+1,.nil=>.nil
 |_,_,n+1,.cons _ t=>Vals.drop n t
def lQ:Option V->Option Value->Prop
 |some v,some u=>RelV v u
 |none,none=>True
 |_,_=>False
def KV {a:Type}:List (a×V)->List (a×Value)->Prop:=Paired fun (p:a×V) (q:a×Value)=>p.1=q.1/\RelV p.2 q.2
noncomputable def kV:Key->V
 |.inl i=>.int i
 |.inr x=>.str x
inductive HO where
 |lst (xs:List V)
 |tup (xs:List V)
 |dK (kvs:List (Key×V))|dT (kvs:List (List Key×V))
 |set (S:Int->Bool) (n:Nat)
 |ins (C dx:Zl) (fs:List (Str×V))
 |own (x:Zl)
 |xd (fs:List (Str×V))
 |met (f x:Zl)
 |rng (lo hi:Int)
 |frz (o:Obj) (u:HO)
 |tbl (ps:Y3)
 |ext (φ:Heap->Prop)
abbrev Hp:=Addr->Option HO
def upd (H:Hp) (a:Zl) (o:HO):Hp:=fun b=>if b=a then some o else H b
def a_:upd H a o a=some o:=by unfold upd;rw [aac rfl]
def bK (h:b≠a):upd H a o b=H b:=by unfold upd;rw [aab h]
def g_:upd (upd H a o) a u=upd H a u:=by funext b;unfold upd;split <;> rfl
def iJ {H:Hp} (h:H a=some o) (c:H b=some u) (d:o≠u):a≠b:=by intro e;subst e;rw [h] at c;exact d (aaM c)
def di {H:Hp} (h:H a=some o) (c:H b=none):a≠b:=by intro e;subst e;rw [h] at c;cases c
section
variable (P:ZB) (w:ZE)
def gr (H:Hp) (h:ZI) (a:Zl):HO->Prop
 |.lst d=>d.length≤sizeLine/\∃ (b:Y2) (n:Nat),Vals d b/\h.get? a=some { cls:=.type "list",data:=.seq b.toArray n }
 |.tup d=>d.length≤sizeLine/\∃ b:List Value,Vals d b/\IsTup h a b.toArray
 |.dK c=>c.length≤sizeLine/\(a == sysModules)=false/\∃ vs,KV c vs/\h.DictOf (gW P w) a vs
 |.dT c=>c.length≤sizeLine/\(a == sysModules)=false/\∃ d:List (List Key×Addr×Value),
  Paired (fun (p:List Key×V) (q:List Key×Addr×Value)=>p.1=q.1/\H q.2.1=some (.tup (p.1.map kV))/\RelV p.2 q.2.2) c d/\
  ∃ o i m,h.get? a=some o/\o.ExactDict/\o.data=.dict i m/\i.toList=d.map (entryOfKey (tupleKind (gW P w)))/\(d.map (·.1)).Nodup
 |.set S n=>h.SetOf (intKind P w) a S n
 |.ins C g fs=>H g=some (.own a)/\fs.length≤1000/\g≠a/\h.get? a=some (PySem.W.instObj C g)/\
  ∃ e,h.Ns1 g e/\(∀ f,lQ (fs.lookup f) (e f))/\PySem.Within e (fs.map (·.1))
 |.own _=>∃ o,h.get? a=some o
 |.xd fs=>∃ e,h.Ns1 a e/\∀ f,lQ (fs.lookup f) (e f)
 |.rng r s=>∃ t u v,h.get? a=some { cls:=.type "range",data:=.fields #[.int r t,.int s u,.int 1 v] }
 |.frz o u=>h.get? a=some o/\gr H h a u
 |.tbl y=>h.get? a=some { cls:=.none,data:=.fields y }
 |.met f x=>h.get? a=some (PySem.W.methodObj (.ref f) (.ref x))
 |.ext φ=>φ h/\(∃ o,h.get? a=some o)/\∀ j l:Heap,φ j->(∀ o,j.get? a=some o->l.get? a=some o)->φ l
def nJ (H:Hp) (h:ZI):Prop:=∀ a o,H a=some o->gr P w H h a o
end
theorem gr.lt (x:gr P w H h a o):a<h.objs.size:=by
 cases o with
 |lst xs=>obtain ⟨_,_,_,_,e⟩:=x;exact aaf e
 |tup xs=>obtain ⟨_,_,_,p⟩:=x;exact p.lt
 |dK kvs=>obtain ⟨_,_,_,_,o,_,_,e,_⟩:=x;exact aaf e
 |dT kvs=>obtain ⟨_,_,_,_,o,_,_,e,_⟩:=x;exact aaf e
 |set S n=>obtain ⟨o,_,_,_,e,_⟩:=x;exact aaf e
 |ins C dx fs=>obtain ⟨_,_,_,e,_⟩:=x;exact aaf e
 |own y=>obtain ⟨_,e⟩:=x;exact aaf e
 |xd fs=>obtain ⟨_,⟨_,_,_,e,_⟩,_⟩:=x;exact aaf e
 |rng lo hi=>obtain ⟨_,_,_,e⟩:=x;exact aaf e
 |frz ob u=>obtain ⟨e,_⟩:=x;exact aaf e
 |tbl ps=>exact aaf (show h.get? a=some _ from x)
 |met f y=>exact aaf (show h.get? a=some _ from x)
 |ext φ=>obtain ⟨_,⟨_,e⟩,_⟩:=x;exact aaf e
theorem Paired.mapP {e g:Type} {F G:e->g->Prop}:∀ {c:List e} {d:List g},Paired F c d->(∀ a b,F a b->G a b)->Paired G c d
 |_,_,.nil,_=>.nil
 |_,_,.cons r t,f=>.cons (f _ _ r) (Paired.mapP t f)
theorem gr.stay {H H':Hp} {h h':ZI} (x:gr P w H h a o) (k:∀ b u,(b=a∨H b=some (.own a))->h.get? b=some u->h'.get? b=some u)
 (ho:∀ b,H b=some (.own a)->H' b=some (.own a)) (ht:∀ b xs,H b=some (.tup xs)->H' b=some (.tup xs)):gr P w H' h' a o:=by
 induction o with
 |lst xs=>obtain ⟨z,its,n,r,e⟩:=x;exact ⟨z,its,n,r,k _ _ (.inl rfl) e⟩
 |tup xs=>obtain ⟨z,its,r,ob,e,c⟩:=x;exact ⟨z,its,r,ob,k _ _ (.inl rfl) e,c⟩
 |dK kvs=>obtain ⟨z,y,vs,r,ob,es,ep,e,c⟩:=x;exact ⟨z,y,vs,r,ob,es,ep,k _ _ (.inl rfl) e,c⟩
 | dT kvs=>obtain ⟨z,y,xs,r,ob,es,ep,e,c⟩:=x;exact ⟨z,y,xs,Paired.mapP r fun p q z=>⟨z.1,ht _ _ z.2.1,z.2.2⟩,ob,es,ep,k _ _ (.inl rfl) e,c⟩
 |set S n=>obtain ⟨ob,es,ep,t,e,c⟩:=x;exact ⟨ob,es,ep,t,k _ _ (.inl rfl) e,c⟩
 | ins C dx fs=>obtain ⟨d,z,ne,e,mA,⟨od,es,ep,e2,c⟩,r⟩:=x;exact ⟨ho _ d,z,ne,k _ _ (.inl rfl) e,mA,⟨od,es,ep,k _ _ (.inr d) e2,c⟩,r⟩
 |own y=>obtain ⟨ob,e⟩:=x;exact ⟨ob,k _ _ (.inl rfl) e⟩
 |xd fs=>obtain ⟨mA,⟨od,es,ep,e,c⟩,r⟩:=x;exact ⟨mA,⟨od,es,ep,k _ _ (.inl rfl) e,c⟩,r⟩
 |rng lo hi=>obtain ⟨t,u,v,e⟩:=x;exact ⟨t,u,v,k _ _ (.inl rfl) e⟩
 |frz ob u ih=>obtain ⟨e,q⟩:=x;exact ⟨k _ _ (.inl rfl) e,ih q⟩
 | tbl ps=>have e:h.get? a=some { cls:=.none,data:=.fields ps }:=x;show h'.get? a=some { cls:=.none,data:=.fields ps };exact k a _ (.inl rfl) e
 | met f y=>have e:h.get? a=some (PySem.W.methodObj (.ref f) (.ref y)):=x;show h'.get? a=some (PySem.W.methodObj (.ref f) (.ref y));exact k a _ (.inl rfl) e
 |ext φ=>obtain ⟨p,⟨o,e⟩,st⟩:=x;exact ⟨st _ _ p fun o q=>k _ _ (.inl rfl) q,⟨o,k _ _ (.inl rfl) e⟩,st⟩
def nJ.lt (x:nJ P w H h) (e:H a=some o):a<h.objs.size:=(x a o e).lt
theorem nJ.fresh (x:nJ P w H h) (e:h.objs.size≤a):H a=none:=by
 cases q:H a with
 |none=>rfl
 |some u=>exact absurd (aar (x.lt q) e) (aaN _)
def nJ.kept (x:nJ P w H h) (k:∀ b u,h.get? b=some u->h'.get? b=some u):nJ P w H h':=fun a o e=>(x a o e).stay (fun b u _ q=>k b u q) (fun _ q=>q) fun _ _ q=>q
def nJ.laid {h h':ZI} (x:nJ P w H h) (k:∀ b u,h.get? b=some u->h'.get? b=some u) (g:h.objs.size≤a) (new:gr P w (upd H a o) h' a o):nJ P w (upd H a o) h':=fun b u e=>by
 have d:=x.fresh g;by_cases f:b=a
 ·subst f;rw [a_] at e;cases e;exact new
 ·rw [bK f] at e;exact (x b u e).stay (fun c v _ q=>k c v q) (fun c q=>by rw [bK (di q d)];exact q) fun c i q=>by rw [bK (di q d)];exact q
def Rd (H:Hp) (a:Zl) (u:HO):Prop:=H a=some u∨∃ o,H a=some (.frz o u)
def Rd.ok (r:Rd H a u) (x:nJ P w H h):gr P w H h a u:=by
 rcases r with r|⟨o,r⟩
 ·exact x a u r
 ·obtain ⟨_,q⟩:=x a _ r;exact q
def V6:Option HO->Prop
 |some (.lst _)=>True
 |some (.dK _)=>True
 |some (.dT _)=>True
 |some (.set _ _)=>True
 |some (.ins _ _ _)=>True
 |some (.ext _)=>True
 |_=>False
def nJ.write (ok:nJ P w H h) (l:V6 (H x)) (o:e=x∨H e=some (.own x)) (k:∀ b u,b≠e->h.get? b=some u->h'.get? b=some u) (m:∃ u,h'.get? e=some u)
 (new:gr P w (upd H x s) h' x s):nJ P w (upd H x s) h':=fun b u q=>by
 have d:∀ c y,H c=some (.own y)->c≠x:=fun c y r z=>by subst z;rw [r] at l;exact l
 have f:∀ c g,H c=some (.tup g)->c≠x:=fun c g r z=>by subst z;rw [r] at l;exact l
 by_cases j:b=x
 ·subst j;rw [a_] at q;cases q;exact new
 ·rw [bK j] at q;by_cases a:b=e
  ·have n:H b=some (.own x):=by
    rcases o with z|z
    ·exact absurd (a.trans z) j
    ·rw [a];exact z
   rw [q] at n;cases n;obtain ⟨v,p⟩:=m;exact ⟨v,by rw [a];exact p⟩
  ·refine (ok b u q).stay (fun c v i r=>k c v ?_ r) (fun c r=>by rw [bK (d c b r)];exact r) fun c g r=>by rw [bK (f c g r)];exact r
   rcases i with rfl|i
   ·exact a
   ·rintro rfl;rcases o with z|z
    ·exact d c b i z
    ·rw [i] at z;cases z;exact j rfl
structure Un (fs ex:YE) (H H':Hp) (h h':ZI):Prop where
 keep:∀ b o,h.get? b=some o->H b=none->b∉fs->b∉ex->h'.get? b=some o
 slot:∀ b o,h.get? b=some o->H b=none->b∈fs->b∉ex->∃ sl,h'.get? b=some { o with slots:=sl }
 free:∀ b o,h.get? b=some o->H b=none->b∉ex->H' b=none
 there:∀ b o,h.get? b=some o->b∉ex->∃ o',h'.get? b=some o'
 tups:∀ b xs,H b=some (.tup xs)->H' b=some (.tup xs)
 frzs:∀ b o u,H b=some (.frz o u)->H' b=some (.frz o u)
 tbls:∀ b ps,H b=some (.tbl ps)->∃ more,H' b=some (.tbl (ps++more))
def Un.any (u:Un fs e H i h a) (q:h.get? b=some c) (n:H b=none) (f:b∉e):∃ g,a.get? b=some { c with slots:=g }:=by
 by_cases d:b∈fs
 ·exact u.slot b c q n d f
 ·exact ⟨c.slots,u.keep b c q n d f⟩
def Un.kept (k:∀ b u,h.get? b=some u->h'.get? b=some u):Un fs a H H h h':=
 ⟨fun b c q _ _ _=>k b c q,fun b c q _ _ _=>⟨c.slots,k b c q⟩,fun _ _ _ n _=>n,fun b c q _=>⟨c,k b c q⟩,fun _ _ q=>q,fun _ _ _ q=>q,fun _ d q=>⟨#[],by rw [q];simp⟩⟩
def Un.refl:Un fs a H H h h:=Un.kept fun _ _ q=>q
def Un.laid {H:Hp} {h h':ZI} (k:∀ b u,h.get? b=some u->h'.get? b=some u) (f:h.objs.size≤a) (c:H a=none):Un fs e H (upd H a o) h h' where
 keep:=fun b u q _ _ _=>k b u q
 slot:=fun b u q _ _ _=>⟨u.slots,k b u q⟩
 free:=fun b u q n _=>by rw [bK (aal (aar (aaf q) f))];exact n
 there:=fun b u q _=>⟨u,k b u q⟩
 tups:=fun b d q=>by rw [bK (di q c)];exact q
 frzs:=fun b u d q=>by rw [bK (di q c)];exact q
 tbls:=fun b g q=>⟨#[],by rw [bK (di q c),q];simp⟩
def Un.write (d:V6 (H x)) (m:e=x∨H e=some (.own x)) (k:∀ b u,b≠e->h.get? b=some u->h'.get? b=some u) (g:∃ u,h'.get? e=some u):Un fs a H (upd H x o) h h':=by
 have i:∀ b,H b=none->b≠x:=fun b n z=>by subst z;rw [n] at d;exact d
 have j:∀ b,H b=none->b≠e:=fun b n z=>by
  subst z;rcases m with r|r
  ·exact i b n r
  ·rw [n] at r;cases r
 have f:∀ b u,H b=some u->¬ V6 (some u)->b≠x:=fun b u q nm z=>by subst z;rw [q] at d;exact nm d
 refine ⟨fun b u q n _ _=>k b u (j b n) q,fun b u q n _ _=>⟨u.slots,k b u (j b n) q⟩,fun b u q n _=>by rw [bK (i b n)];exact n,fun b u q _=>?_,
  fun b l q=>by rw [bK (f b _ q fun z=>z)];exact q,fun b u l q=>by rw [bK (f b _ q fun z=>z)];exact q,fun b p q=>⟨#[],by rw [bK (f b _ q fun z=>z),q];simp⟩⟩;by_cases c:b=e
 ·subst c;exact g
 ·exact ⟨u,k b u c q⟩
noncomputable def WL (h:ZI) (H:Hp):List Addr:=(List.range h.objs.size).filter fun a=>(H a).isSome
def zR (h:ZI) (H:Hp):Heap:=PySem.W.hideAll h (WL h H)
def EY (h:ZI) (H:Hp):(zR h H).objs.size=h.objs.size:=PySem.W.hideAll_size _ _
def t_ (e:h.get? b=some o) (n:H b=none):(zR h H).get? b=some o:=
 PySem.W.hideAll_get _ e fun a=>by have q:(H b).isSome=true:=(List.mem_filter.mp a).2;rw [n] at q;simp at q
theorem Ni (e:(zR h H).get? b=some o):h.get? b=some o/\H b=none:=by
 have a:h.get? b=some o:=PySem.W.of_hideAll (WL h H) e;refine ⟨a,?_⟩;cases q:H b with
 |none=>rfl
 | some x=>have c:b∈WL h H:=List.mem_filter.mpr ⟨ack.mpr (aaf a),by simp [q]⟩;have z:(zR h H).get? b=none:=PySem.W.hideAll_none (WL h H) c;rw [z] at e;cases e
structure Mod (K:Zs) (mg:ZY) (base:ZI):Prop where
 kin:K.In base
 glob:base.Ns mainGlobals mg
 blt:∃ mb,base.Ns builtinsNs mb/\∀ x:Str,x ≠ "__name__"->mb x=bootBuiltins x
 nolimit:base.NoLimit
structure Cx where
 prog:Program
 w:World
 K:PySem.W.Frag
 mg:Str->Option Value
 base:Heap
 A:Around
 N:List Str
 s₀:Shared
 H₀:Hp
 env:Env
 outer:List Env
 stack:List Env
 ex:List Addr
 fn:Str->Bool
 calm:Bool
 pn:List (Addr×Obj)
 xe:Value->Shared->Prop
noncomputable def frs (l:List Env):List Addr:=l.filterMap (·.frame)
abbrev Cx.fs (X:Cx):List Addr:=frs X.outer
def Tq (a:ZT) (x:Str):Prop:=a.names.lookup x=some .local∨a.names.lookup x=some .cell∨a.names.lookup x=some .free
def Loc (a:ZT) (x:Str):Prop:=a.names.lookup x=some .local∨a.names.lookup x=some .cell
def Look (env:Env) (h:ZI) (m:ZY) (x:Str) (u:ZH):Prop:=
 (env.kindOf x=some .local/\m x=some u)∨((env.kindOf x=some .cell∨env.kindOf x=some .free)/\∃ c,env.cells.lookup x=some c/\h.IsCell c (some u))
structure Cx.Ok (X:Cx):Prop where
 mod:Mod X.K X.mg X.base
 kind:X.env.scope.kind=.function
 glob:X.env.globals=mainGlobals
 blt:X.env.builtins=builtinsNs
 above:X.s₀.heap.objs.size≤X.env.locals
 inj:∀ x y c,X.env.cells.lookup x=some c->X.env.cells.lookup y=some c->x=y
 has:∀ x,(X.env.kindOf x=some .cell∨X.env.kindOf x=some .free)->∃ c,X.env.cells.lookup x=some c
 cab:∀ x c,X.fn x=true->X.env.cells.lookup x=some c->X.s₀.heap.objs.size≤c
 hd:X.calm=true->X.A.handled=none
 frames:X.A.frames=some X.stack
 stk:X.stack=X.outer∨(X.stack=X.env::X.outer/\X.env.frame=some X.env.locals)
 exf:∀ b∈X.ex,b≠X.env.locals/\∀ x c,X.env.cells.lookup x=some c->c≠b
 bs:∀ b o,X.base.get? b=some o->X.s₀.heap.get? b=some o/\X.H₀ b=none
 bsz:X.base.objs.size≤X.s₀.heap.objs.size
 noex:∀ b o,X.base.get? b=some o->b∉X.ex
 exfs:∀ b∈X.ex,b∉X.fs
 funs:X.s₀.heap.FunFrames X.base X.outer
 frf:∀ b∈X.fs,X.H₀ b=none
structure Inv (X:Cx) (dR:YI) (σ:List (Option V)) (H:Hp) (s:Zp):Prop where
 ok:X.Ok
 os:s.os=X.s₀.os
 bare:AllBare s.gens
 base:Un X.fs X.ex X.H₀ H X.s₀.heap s.heap
 loc:∃ m,s.heap.Ns X.env.locals m/\∀ (i:Nat) (x:Str) (v:V),X.N[i]?=some x->σ[i]?=some (some v)->Tq X.env.scope x->∃ u,RelV v u/\Look X.env s.heap m x u
 cell:∀ x c,X.env.cells.lookup x=some c->∃ v,s.heap.IsCell c v
 free:H X.env.locals=none
 freeC:∀ x c,X.env.cells.lookup x=some c->H c=none
 pin:∀ p∈X.pn++dR,s.heap.get? p.1=some p.2/\H p.1=none/\p.1≠X.env.locals/\p.1∉X.fs/\∀ v,p.2.data≠.cell v
 hok:nJ X.prog X.w H s.heap
 len:σ.length=X.N.length
section
variable {X:Cx} {dR:YI} {σ:List (Option V)} {H H':Hp} {s:Zp} {h':ZI}
def Cx.Ok.nofr (ok:X.Ok) (e:X.base.get? b=some o):b∉X.fs:=fun a=>by have:=(ok.funs.mem a).1;rw [e] at this;cases this
noncomputable def Inv.bs (I:Inv X dR σ H s):∀ b o,X.base.get? b=some o->s.heap.get? b=some o/\H b=none:=fun b o e=>⟨I.base.keep b o (I.ok.bs b o e).1 (I.ok.bs b o e).2 (I.ok.nofr e) (I.ok.noex b o e),I.base.free b o (I.ok.bs b o e).1 (I.ok.bs b o e).2 (I.ok.noex b o e)⟩
def Inv.bk (I:Inv X dR σ H s):∀ b o,X.base.get? b=some o->s.heap.get? b=some o:=fun b o e=>(I.bs b o e).1
def Inv.mod (I:Inv X dR σ H s):Mod X.K X.mg X.base:=I.ok.mod
def Inv.kIn (I:Inv X dR σ H s):X.K.In s.heap:=I.ok.mod.kin.keeps I.bk
def Inv.fr (I:Inv X dR σ H s):∃ m,Fr X.base X.env.locals s.heap m:=
 let ⟨m,a,_⟩:=I.loc
 ⟨m,a,I.bk,aaj I.ok.bsz I.ok.above⟩
def Inv.lt (I:Inv X dR σ H s):X.env.locals<s.heap.objs.size:=let ⟨_,a,_⟩:=I.loc;a.lt
def Inv.sz (I:Inv X dR σ H s):X.s₀.heap.objs.size≤s.heap.objs.size:=aaj I.ok.above (aa1 I.lt)
def Inv.nofs (I:Inv X dR σ H s) (h:s.heap.objs.size≤a):a∉X.fs:=fun b=>by obtain ⟨_,o,c,_⟩:=I.ok.funs.mem b;exact absurd (aar (aaf c) (aaj I.sz h)) (aaN _)
noncomputable def Inv.cne (I:Inv X dR σ H s):∀ x c,X.env.cells.lookup x=some c->c≠X.env.locals:=fun x c e z=>by obtain ⟨v,o,d,hd⟩:=I.cell x c e;obtain ⟨m,⟨f,g,h,a,b,_⟩,_⟩:=I.loc;rw [z,a] at d;cases d;rw [b] at hd;cases hd
def Inv.funs (I:Inv X dR σ H s):s.heap.FunFrames X.base X.outer:=by
 have all:∀ (l:List Env),(∀ b∈frs l,b∈X.fs)->X.s₀.heap.FunFrames X.base l->s.heap.FunFrames X.base l:=by
  intro l;induction l with
  |nil=>intro _ _;trivial
  | cons env r m=>intro f j;obtain ⟨hk,⟨L,o,d,g,h,hd⟩,i⟩:=j;have c:L∈X.fs:=f L (by unfold frs;rw [abU,d];exact aao);obtain ⟨n,e⟩:=I.base.slot L o h (I.ok.frf L c) c fun z=>I.ok.exfs L z c;exact ⟨hk,⟨L,_,d,g,e,hd⟩,m (fun b a=>f b (by unfold frs;rw [abU,d];exact aan _ a)) i⟩
 exact all X.outer (fun _ a=>a) I.ok.funs
def Inv.stack (I:Inv X dR σ H s):s.heap.FunFrames X.base X.stack:=by
 rcases I.ok.stk with e|⟨e,b⟩
 ·rw [e];exact I.funs
 ·rw [e];obtain ⟨m,a,_⟩:=I.loc;refine .cons (by rw [I.ok.kind];decide) b a ?_ I.funs;exact acH (aaj I.ok.bsz I.ok.above)
def Inv.stkSub (I:Inv X dR σ H s):∀ b∈frs X.stack,b∈X.env.locals::X.fs:=fun b a=>by
 rcases I.ok.stk with e|⟨e,c⟩
 ·rw [e] at a;exact aan _ a
 ·rw [e] at a;unfold frs at a;rw [abU,c] at a;exact a
def Inv.stkFree (I:Inv X dR σ H s):∀ b∈frs X.stack,H b=none:=fun b a=>by
 rcases aah.mp (I.stkSub b a) with e|a
 ·rw [e];exact I.free
 ·obtain ⟨_,o,c,_⟩:=I.ok.funs.mem a;exact I.base.free b o c (I.ok.frf b a) fun z=>I.ok.exfs b z a
def Inv.step {g':Array GenState} {t':Nat} {d':Drawn} {ch:YE} (I:Inv X dR σ H s)
 (h:∀ b∈ch,(b∈X.ex∨X.s₀.heap.objs.size≤b)/\b≠X.env.locals/\(∀ x c,X.env.cells.lookup x=some c->c≠b)/\∀ p∈X.pn++dR,p.1≠b)
 (keep:∀ b o,b≠X.env.locals->b∉X.fs->b∉ch->s.heap.get? b=some o->H b=none->h'.get? b=some o)
 (A:∀ b o,b≠X.env.locals->b∈X.fs->b∉ch->s.heap.get? b=some o->H b=none->∃ P,h'.get? b=some { o with slots:=P }) (free:∀ b o,b∉ch->s.heap.get? b=some o->H b=none->H' b=none)
 (C:∀ b o,b∉ch->s.heap.get? b=some o->∃ F,h'.get? b=some F)
 (L:∀ b y,H b=some (.tup y)->H' b=some (.tup y)) (M:∀ b o u,H b=some (.frz o u)->H' b=some (.frz o u)) (N:∀ b O,H b=some (.tbl O)->∃ G,H' b=some (.tbl (O++G)))
 (ns:∀ m,s.heap.Ns X.env.locals m->h'.Ns X.env.locals m) (R:nJ X.prog X.w H' h') (hg:AllBare g') :
 Inv X dR σ H' { s with heap:=h',gens:=g',drawn:=d',toks:=t' }:=by
 have J:∀ b o,X.s₀.heap.get? b=some o->b≠X.env.locals:=fun b o e=>aal (aar (aaf e) I.ok.above);have w:∀ b o,X.s₀.heap.get? b=some o->b∉X.ex->b∉ch:=fun b o e a B=>by
  rcases (h b B).1 with z|z
  ·exact a z
  ·exact absurd (aar (aaf e) z) (aaN _)
 have f:∀ x c,X.env.cells.lookup x=some c->∀ v,s.heap.IsCell c v->h'.IsCell c v:=fun x c e v ⟨o,D,hd⟩=>by
  have g:c∉ch:=fun z=>(h c z).2.2.1 x c e rfl;by_cases T:c∈X.fs
  ·obtain ⟨P,q⟩:=A c o (I.cne x c e) T g D (I.freeC x c e);exact ⟨_,q,hd⟩
  ·exact ⟨o,keep c o (I.cne x c e) T g D (I.freeC x c e),hd⟩
 refine ⟨I.ok,I.os,hg,⟨fun b o e n B a=>?_,fun b o e n B a=>?_,fun b o e n a=>?_,fun b o e a=>?_,fun b y e=>L b y (I.base.tups b y e),fun b o y e=>M b o y (I.base.frzs b o y e),fun b O e=>?_⟩,?_,fun x c e=>?_,?_,fun x c e=>?_,fun p S=>?_,R,I.len⟩
 ·exact keep b o (J b o e) B (w b o e a) (I.base.keep b o e n B a) (I.base.free b o e n a)
 ·obtain ⟨P,j⟩:=I.base.slot b o e n B a;obtain ⟨Q,E⟩:=A b _ (J b o e) B (w b o e a) j (I.base.free b o e n a);exact ⟨Q,E⟩
 ·obtain ⟨F,j⟩:=I.base.there b o e a;exact free b F (w b o e a) j (I.base.free b o e n a)
 ·obtain ⟨F,j⟩:=I.base.there b o e a;exact C b F (w b o e a) j
 ·obtain ⟨W,j⟩:=I.base.tbls b O e;obtain ⟨Y,E⟩:=N b _ j;exact ⟨W++Y,by rw [E,Array.append_assoc]⟩
 ·obtain ⟨m,Z,hl⟩:=I.loc;refine ⟨m,ns m Z,fun i x v j E U=>?_⟩;obtain ⟨u,r,l⟩:=hl i x v j E U;refine ⟨u,r,?_⟩;rcases l with l|⟨k,c,e,z⟩
  ·exact .inl l
  ·exact .inr ⟨k,c,e,f x c e _ z⟩
 ·obtain ⟨v,z⟩:=I.cell x c e;exact ⟨v,f x c e v z⟩
 ·obtain ⟨m,⟨o,_,_,D,_⟩,_⟩:=I.loc;exact free _ o (fun z=>(h _ z).2.1 rfl) D I.free
 ·obtain ⟨v,o,D,hd⟩:=I.cell x c e;exact free c o (fun z=>(h c z).2.2.1 x c e rfl) D (I.freeC x c e)
 ·obtain ⟨e,n,ne,nf,d⟩:=I.pin p S;have g:p.1∉ch:=fun z=>(h p.1 z).2.2.2 p S rfl;exact ⟨keep p.1 p.2 ne nf g e n,free p.1 p.2 g e n,ne,nf,d⟩
noncomputable def Inv.un {t':Nat} (I:Inv X dR σ H s) (u:Un X.fs [] H H' s.heap h') (g:nJ X.prog X.w H' h'):Inv X dR σ H' { s with heap:=h',toks:=t' }:=by obtain ⟨m,⟨o,q,v,h,r⟩,_⟩:=id I.loc;obtain ⟨w,j⟩:=u.any h I.free (by simp);exact I.step (g':=s.gens) (d':=s.drawn) (ch:=[]) (fun _ z=>nomatch z) (fun b o _ c _ e n=>u.keep b o e n c (by simp)) (fun b o _ c _ e n=>u.slot b o e n c (by simp)) (fun b o _ e n=>u.free b o e n (by simp)) (fun b o _ e=>u.there b o e (by simp)) u.tups u.frzs u.tbls (fun p i=>by obtain ⟨x,d,f,a,l⟩:=i;rw [h] at a;cases a;exact ⟨_,d,f,j,l⟩) g I.bare
def Inv.call {g':Array GenState} {t':Nat} {d':Drawn} {ch:YE} (I:Inv X dR σ H s) (u:Un (frs X.stack) ch H H' s.heap h') (j:nJ X.prog X.w H' h') (y:AllBare g')
 (f:∀ b∈ch,(b∈X.ex∨X.s₀.heap.objs.size≤b)/\b≠X.env.locals/\(∀ x c,X.env.cells.lookup x=some c->c≠b)/\∀ p∈X.pn++dR,p.1≠b) :
 Inv X dR σ H' { s with heap:=h',gens:=g',drawn:=d',toks:=t' }:=by
 obtain ⟨m,⟨o,B,C,l,r⟩,_⟩:=id I.loc;obtain ⟨D,g⟩:=u.any l I.free fun z=>(f _ z).2.1 rfl;exact I.step (ch:=ch) f (fun b o g q a e n=>u.keep b o e n (fun z=>(aah.mp (I.stkSub b z)).elim g q) a) (fun b o _ _ a e n=>u.any e n a) (fun b o a e n=>u.free b o e n a) (fun b o a e=>u.there b o e a) u.tups u.frzs u.tbls (fun A v=>by obtain ⟨E,h,i,d,w⟩:=v;rw [l] at d;cases d;exact ⟨_,h,i,g,w⟩) j y
def Inv.turned {t':Nat} {it:Zl} (I:Inv X dR σ H s) (k:∀ b o,b≠it->s.heap.get? b=some o->h'.get? b=some o) (w:H it=none) (f:it≠X.env.locals)
 (y:it∈X.ex∨X.s₀.heap.objs.size≤it) (A:∀ x c,X.env.cells.lookup x=some c->c≠it) (B:∀ p∈X.pn++dR,p.1≠it):Inv X dR σ H { s with heap:=h',toks:=t' }:=by
 have d:∀ b u,H b=some u->b≠it:=fun b u e z=>by rw [z,w] at e;cases e
 refine I.step (g':=s.gens) (d':=s.drawn) (ch:=[it]) (fun b g=>?_) (fun b o _ _ a e _=>k b o (fun z=>a (by simp [z])) e) (fun b o _ _ a e _=>⟨o.slots,k b o (fun z=>a (by simp [z])) e⟩) (fun _ _ _ _ n=>n)
  (fun b o a e=>⟨o,k b o (fun z=>a (by simp [z])) e⟩) (fun _ _ e=>e) (fun _ _ _ e=>e) (fun b C e=>⟨#[],by rw [e];simp⟩) (fun m h=>?_) (fun b u e=>?_) I.bare
 ·have e:b=it:=by simpa using g
  subst e;exact ⟨y,f,A,B⟩
 ·obtain ⟨o,i,j,l,r⟩:=h;exact ⟨o,i,j,k _ o (aas f) l,r⟩
 ·refine (I.hok b u e).stay (fun c v a q=>k c v ?_ q) (fun _ q=>q) fun _ _ q=>q;rcases a with z|z
  ·rw [z];exact d b u e
  ·exact d c _ z
def Inv.tok (I:Inv X dR σ H s) (t:Nat):Inv X dR σ H { s with toks:=t }:=I.un (h':=s.heap) (t':=t) Un.refl I.hok
def Inv.kept (I:Inv X dR σ H s) (k:∀ b u,s.heap.get? b=some u->h'.get? b=some u):Inv X dR σ H { s with heap:=h',toks:=t' }:=I.un (Un.kept k) (I.hok.kept k)
def Inv.laid (I:Inv X dR σ H s) (k:∀ b u,s.heap.get? b=some u->h'.get? b=some u) (c:s.heap.objs.size≤a) (new:gr X.prog X.w (upd H a o) h' a o) :
 Inv X dR σ (upd H a o) { s with heap:=h',toks:=t' }:=I.un (Un.laid k c (I.hok.fresh c)) (I.hok.laid k c new)
def Inv.write (I:Inv X dR σ H s) (c:V6 (H x)) (d:e=x∨H e=some (.own x)) (k:∀ b u,b≠e->s.heap.get? b=some u->h'.get? b=some u) (a:∃ u,h'.get? e=some u)
 (new:gr X.prog X.w (upd H x o) h' x o):Inv X dR σ (upd H x o) { s with heap:=h',toks:=t' }:=I.un (Un.write c d k a) (I.hok.write c d k a new)
def Inv.pins_of (I:Inv X dR σ H s) (h:∀ p∈pins',s.heap.get? p.1=some p.2/\H p.1=none/\p.1≠X.env.locals/\p.1∉X.fs/\∀ v,p.2.data≠.cell v):Inv X pins' σ H s:=
 ⟨I.ok,I.os,I.bare,I.base,I.loc,I.cell,I.free,I.freeC,fun p a=>(aam.mp a).elim (fun z=>I.pin p (aaG _ z)) (h p),I.hok,I.len⟩
def pP {N:Y1} (e:N.Nodup) {i j:Nat} {x:Str} (a:N[i]?=some x) (b:N[j]?=some x):i=j:=by obtain ⟨f,c⟩:=aaQ.mp a;obtain ⟨g,d⟩:=aaQ.mp b;exact (List.getElem_inj e).mp (c.trans d.symm)
def vJ {M:Model} {A:ZN} {E:ZU} {i:Nat} {x:Str} {v:V} {u:ZH} {Q:Unit->Shared->Prop} (I:Inv X dR σ H s) (hN:X.N.Nodup) (U:X.N[i]?=some x) (B:Loc X.env.scope x) (r:RelV v u)
 (h:∀ s',Inv X dR (σ.set i (some v)) H s'->(∃ a,Heap.SameBut a s.heap s'.heap/\(a=X.env.locals∨X.env.cells.lookup x=some a))->Q () s') (hf:X.fn x=true∨X.env.scope.names.lookup x=some .local:=by first|exact .inl rfl|exact .inr rfl|assumption):wpAny M A (storeName X.env x u) Q E s:=by
 obtain ⟨m,hn,hl⟩:=id I.loc;have P:(X.env.scope.kind == .class || (X.env.scope.kind == .module && X.env.locals != X.env.globals))=false:=by rw [I.ok.kind];rfl
 have F:i<σ.length:=by rw [I.len];exact (aaQ.mp U).1
 have cne:=I.cne;have l:∀ {a:Zl} {N:ZI},(∃ o,s.heap.get? a=some o/\H a=none)->Heap.SameBut a s.heap N->nJ X.prog X.w H N:=fun {a N} ha f b ob e=>by
  obtain ⟨_,_,C⟩:=ha;refine (I.hok b ob e).stay (fun c W w q=>(f.2 c ?_).trans q) (fun _ q=>q) fun _ _ q=>q;rintro rfl;rcases w with rfl|w
  ·rw [C] at e;cases e
  ·rw [C] at w;cases w
 rcases B with hk|hk
 ·refine wpAny_storeName_local hk hn (fun N Z f=>?_) P;obtain ⟨oL,_,_,aa,_⟩:=id hn;refine h _ ⟨I.ok,I.os,I.bare,⟨fun b o e n G B=>?_,fun b o e n G B=>?_,I.base.free,fun b o e B=>?_,I.base.tups,I.base.frzs,I.base.tbls⟩,⟨_,Z,fun j y v' g D e3=>?_⟩,fun y c e=>?_,I.free,I.freeC,fun p hp=>?_,l ⟨oL,aa,I.free⟩ f,by simpa using I.len⟩ ⟨_,f,.inl rfl⟩
  ·exact (f.2 b (aal (aar (aaf e) I.ok.above))).trans (I.base.keep b o e n G B)
  ·obtain ⟨sl,g⟩:=I.base.slot b o e n G B;exact ⟨sl,(f.2 b (aal (aar (aaf e) I.ok.above))).trans g⟩
  ·obtain ⟨o',g⟩:=I.base.there b o e B;exact ⟨o',(f.2 b (aal (aar (aaf e) I.ok.above))).trans g⟩
  ·by_cases L:j=i
   ·subst L;rw [U] at g;cases g;rw [acl F] at D;cases D;exact ⟨u,r,.inl ⟨hk,by simp⟩⟩
   ·rw [abV (aas L)] at D;obtain ⟨u',r',q⟩:=hl j y v' g D e3;refine ⟨u',r',?_⟩;rcases q with ⟨k,e⟩|⟨k,c,e,z⟩
    ·refine .inl ⟨k,?_⟩;have:y≠x:=fun e=>L (pP hN g (e ▸ U));simp [this,e]
    ·exact .inr ⟨k,c,e,z.sameBut f (cne y c e)⟩
  ·obtain ⟨W,z⟩:=I.cell y c e;exact ⟨W,z.sameBut f (cne y c e)⟩
  ·obtain ⟨e,n,ne,nf,d⟩:=I.pin p hp;exact ⟨(f.2 p.1 ne).trans e,n,ne,nf,d⟩
 ·have J:X.fn x=true:=by
   rcases hf with z|z
   ·exact z
   ·rw [z] at hk;cases hk
  obtain ⟨c,w⟩:=I.ok.has x (.inl hk);obtain ⟨W,z⟩:=I.cell x c w;refine wpAny_storeName_cell I.ok.kind hk w z (fun N O f=>?_);obtain ⟨oc,R,S⟩:=id z;refine h { s with heap:=N } ⟨I.ok,I.os,I.bare,⟨fun b o e n G B=>?_,fun b o e n G B=>?_,I.base.free,fun b o e B=>?_,I.base.tups,I.base.frzs,I.base.tbls⟩,⟨m,hn.sameBut f (aas (cne x c w)),fun j y v' g D e3=>?_⟩,fun y Y e=>?_,I.free,I.freeC,fun p hp=>?_,l ⟨oc,R,I.freeC x c w⟩ f,by simpa using I.len⟩ ⟨c,f,.inr w⟩
  ·exact (f.2 b (aal (aar (aaf e) (I.ok.cab x c J w)))).trans (I.base.keep b o e n G B)
  ·obtain ⟨sl,g⟩:=I.base.slot b o e n G B;exact ⟨sl,(f.2 b (aal (aar (aaf e) (I.ok.cab x c J w)))).trans g⟩
  ·obtain ⟨o',g⟩:=I.base.there b o e B;exact ⟨o',(f.2 b (aal (aar (aaf e) (I.ok.cab x c J w)))).trans g⟩
  ·by_cases L:j=i
   ·subst L;rw [U] at g;cases g;rw [acl F] at D;cases D;exact ⟨u,r,.inr ⟨.inl hk,c,w,O⟩⟩
   ·rw [abV (aas L)] at D;obtain ⟨u',r',q⟩:=hl j y v' g D e3;refine ⟨u',r',?_⟩;rcases q with q|⟨k,Y,e,z'⟩
    ·exact .inl q
    ·refine .inr ⟨k,Y,e,z'.sameBut f ?_⟩;rintro rfl;exact L (pP hN g (I.ok.inj _ _ _ e w ▸ U))
  ·by_cases T:Y=c
   ·subst T;exact ⟨_,O⟩
   ·obtain ⟨w2,z2⟩:=I.cell y Y e;exact ⟨w2,z2.sameBut f T⟩
  ·obtain ⟨e,n,ne,nf,d⟩:=I.pin p hp;refine ⟨(f.2 p.1 ?_).trans e,n,ne,nf,d⟩;intro q;rw [q,R] at e;have q':oc=p.2:=aaM e;exact d W (by rw [← q'];exact S)
def n_ (I:Inv X dR σ H s) (c:X.N.Nodup) (d:X.N[i]?=some x) (e:Loc X.env.scope x) (r:RelV v u)
 (h:∀ a,Inv X dR (σ.set i (some v)) H a->Q () a) (f:X.fn x=true∨X.env.scope.names.lookup x=some .local:=by first|exact .inl rfl|exact .inr rfl|assumption):wpAny M A (storeName X.env x u) Q E s:=
 vJ I c d e r (fun a b _=>h a b) f
def Inv.call' (I:Inv X dR σ H s) (l:a.os=s.os) (u:Un (frs X.stack) ch H H' s.heap a.heap) (d:nJ X.prog X.w H' a.heap) (m:AllBare a.gens)
 (f:∀ b∈ch,(b∈X.ex∨X.s₀.heap.objs.size≤b)/\b≠X.env.locals/\(∀ x c,X.env.cells.lookup x=some c->c≠b)/\∀ p∈X.pn++dR,p.1≠b):Inv X dR σ H' a:=by
 obtain ⟨n,g,h,i,j⟩:=a;have e:j=s.os:=l;subst e;exact I.call (g':=g) (t':=i) (d':=h) u d m f
end
abbrev XK:=Value->Option Addr->Hp->Prop
abbrev St:=List (Option V)
abbrev VK:=V->Hp->Prop
abbrev TE:=St->Hp->VK->Prop
abbrev TT:=St->Hp->(Bool->Hp->Prop)->Prop
abbrev TA:=St->Hp->(List V->Hp->Prop)->Prop
structure Ends where
 nx:St->Hp->Prop
 rt:VK
 bk:St->Hp->Prop:=fun _ _=>False
 ct:St->Hp->Prop:=fun _ _=>False
abbrev TS:=Ends->St->Hp->Prop
def EP (X:Cx) (a:YI) (c:St) (Q:VK) (u:ZH) (d:Zp):Prop:=∃ v b,Inv X a c b d/\RelV v u/\Q v b
def TP (X:Cx) (a:YI) (d:St) (Q:Bool->Hp->Prop) (b:Bool) (e:Zp):Prop:=∃ c,Inv X a d c e/\Q b c
def AP (X:Cx) (a:YI) (c:St) (Q:List V->Hp->Prop) (d:Y2) (e:Zp):Prop:=∃ vs b,Inv X a c b e/\Vals vs d/\Q vs b
def SP (X:Cx) (b:YI) (D:Ends) (f:Flow) (d:Zp):Prop:=
 match f with
 |.next=>∃ a c,Inv X b a c d/\D.nx a c
 |.brk=>∃ a c,Inv X b a c d/\D.bk a c
 |.cont=>∃ a c,Inv X b a c d/\D.ct a c
 |.ret u=>∃ v a c,Inv X b a c d/\RelV v u/\D.rt v c
def PE (X:Cx) (e:ZO) (t:TE):Prop:=
 ∀ (a:YI) (s:Zp) (b:St) (H:Hp) (Q:VK),Inv X a b H s->t b H Q->wpAny (model X.prog X.w) X.A (eval e X.env) (EP X a b Q) X.xe s
def PT (X:Cx) (e:ZO) (t:TT):Prop:=
 ∀ (a:YI) (s:Zp) (b:St) (H:Hp) (Q:Bool->Hp->Prop),Inv X a b H s->t b H Q->wpAny (model X.prog X.w) X.A (isTrue e X.env (eval e X.env)) (TP X a b Q) X.xe s
def PW (X:Cx) (e:ZO) (t:TT):Prop:=
 ∀ (b:Sem Value) (a:YI) (s:Zp) (c:St) (H:Hp) (Q:Bool->Hp->Prop),Inv X a c H s->t c H Q->wpAny (model X.prog X.w) X.A (isTrue e X.env b) (TP X a c Q) X.xe s
def PW.pt (h:PW X e t):PT X e t:=h _
def PA (X:Cx) (d:YR) (t:TA):Prop:=
 ∀ (b:Pos) (a:YI) (s:Zp) (c:St) (H:Hp) (Q:List V->Hp->Prop),Inv X a c H s->t c H Q->wpAny (model X.prog X.w) X.A (spliced (backTo b (starEach d X.env))) (AP X a c Q) X.xe s
def PS (X:Cx) (c:Stmt) (t:TS):Prop:=
 ∀ (a:YI) (s:Zp) (b:St) (H:Hp) (D:Ends),Inv X a b H s->t D b H->wpAny (model X.prog X.w) X.A (exec c X.env) (SP X a D) X.xe s
def wJ (X:Cx) (c:List Stmt) (t:TS):Prop:=
 ∀ (a:YI) (s:Zp) (b:St) (H:Hp) (D:Ends),Inv X a b H s->t D b H->wpAny (model X.prog X.w) X.A (execs c X.env) (SP X a D) X.xe s
def gj {b:Type} {t:Sem b} {Q c:b->Shared->Prop} {M:Model} {A:ZN} {E:ZU} {s:Zp} (h:wpAny M A t Q E s) (d:∀ a s,Q a s->c a s):wpAny M A t c E s:=aat h d fun _ _ x=>x
section
variable {X:Cx}
def bin {a b:ZO} {m n:TE} (w:PE X a m) (z:PE X b n) {c:YI} {s:Zp} {e:St} {H:Hp} {R:V->V->Hp->Prop} (I:Inv X c e H s) (h:m e H fun x l=>n e l fun y d=>R x y d)
 {o:Type} {Q:o->Shared->Prop} {f:Value->Value->Sem o}
 (A:∀ v u j x y d,Inv X c e d j->RelV x v->RelV y u->R x y d->wpAny (model X.prog X.w) X.A (f v u) Q X.xe j) :
 wpAny (model X.prog X.w) X.A (eval a X.env) (fun v g=>wpAny (model X.prog X.w) X.A (eval b X.env) (fun u i=>wpAny (model X.prog X.w) X.A (f v u) Q X.xe i) X.xe g) X.xe s:=by
 refine gj (w c s e H _ I h) fun v p ⟨x,l,q,r1,q1⟩=>?_;refine gj (z c p e l _ q q1) fun u j ⟨y,d,r,r2,q2⟩=>?_;exact A v u j x y d r r1 r2 q2
def iU (i:Nat):TE:=fun a H Q=>∃ v,a[i]?=some (some v)/\Q v H
def tC (v:V):TE:=fun _ H Q=>Q v H
def Qp (w:X.N[i]?=some x) (y:Tq X.env.scope x) (hd:(x == ("__debug__" : Str))=false:=by decide) (g:(x == ("__classdict__" : Str))=false:=by decide):PE X (.Name x f) (iU i):=by
 intro d s p H Q I h;obtain ⟨v,e,h⟩:=h;obtain ⟨m,n,o⟩:=I.loc;obtain ⟨u,r,l⟩:=o i x v w e y;have b:EP X d p Q u s:=⟨v,H,I,r,h⟩;rcases l with ⟨hk,q⟩|⟨hk,c,j,a⟩
 ·exact abo (acI I.ok.kind hk n q b) hd
 ·rcases hk with hk|hk
  ·exact abo (acJ I.ok.kind hk j a b) hd
  ·exact abo (acK I.ok.kind hk j a b g) hd
def dm {i j pos}:PE X (.Constant (.int i) j pos) (tC (.int i)):=fun _ _ _ H _ I h=>wpAny_Constant_int ⟨.int i,H,I.tok _,⟨_,rfl⟩,h⟩
def y_ {b j pos}:PE X (.Constant (.bool b) j pos) (tC (.bl b)):=fun _ _ _ H _ I h=>Constant_bool ⟨.bl b,H,I,rfl,h⟩
def qz {j pos}:PE X (.Constant .none j pos) (tC .non):=fun _ _ _ H _ I h=>Constant_none ⟨.non,H,I,rfl,h⟩
def dD {x j pos}:PE X (.Constant (.str x) j pos) (tC (.str x)):=fun _ _ _ H _ I h=>Calls.Constant_str ⟨.str x,H,I.tok _,⟨_,rfl⟩,h⟩
def Gl (X:Cx) (x:Str):Prop:=X.env.kindOf x=some .globalImplicit
def kE (I:Inv X a c H s) (d:Gl X x) (e:X.mg x=some u) (h:Q u s)
 (hd:(x == ("__debug__" : Str))=false:=by decide):wpAny (model X.prog X.w) X.A (eval (.Name x b) X.env) Q E s:=
 Calls.Name_function_global I.ok.kind d (Calls.loadGlobal_global (by rw [I.ok.glob];exact I.mod.glob.keeps I.bk) e h) hd
def qI (I:Inv X a e H s) (f:Gl X x) (g:X.mg x=none) (i:bootBuiltins x=some u) (h:Q u s)
 (j:x ≠ "__name__":=by decide) (hd:(x == ("__debug__" : Str))=false:=by decide):wpAny (model X.prog X.w) X.A (eval (.Name x b) X.env) Q E s:=by
 obtain ⟨l,c,d⟩:=I.mod.blt;exact Calls.Name_function_global I.ok.kind f (Calls.loadGlobal_builtin (by rw [I.ok.glob];exact I.mod.glob.keeps I.bk) g (by rw [I.ok.blt];exact c.keeps I.bk) ((d x j).trans i) h) hd
def e_ (b:Gl X x) (c:X.mg x=some u) (r:RelV v u) (hd:(x == ("__debug__" : Str))=false:=by decide):PE X (.Name x a) (tC v):=
 fun _ _ _ H _ I h=>kE I b c ⟨v,H,I,r,h⟩ hd
def Mi (b:Gl X x) (c:X.mg x=none) (d:bootBuiltins x=some u) (r:RelV v u) (e:x ≠ "__name__":=by decide) (hd:(x == ("__debug__" : Str))=false:=by decide):PE X (.Name x a) (tC v):=
 fun _ _ _ H _ I h=>qI I b c d ⟨v,H,I,r,h⟩ e hd
def PC (X:Cx) (op:CmpOp) (a b:ZO) (t:TE):Prop:=
 ∀ (c:YI) (s:Zp) (f:St) (H:Hp) (Q:VK),Inv X c f H s->t f H Q->
   wpAny (model X.prog X.w) X.A (eval a X.env) (fun v d=>wpAny (model X.prog X.w) X.A (eval b X.env) (fun u e=>wpAny (model X.prog X.w) X.A (compareOp op v u) (EP X c f Q) X.xe e) X.xe d) X.xe s
def tB (t:TE):TT:=fun d H Q=>t d H fun x e=>∃ c,x=.bl c/\Q c e
noncomputable def PB {op:CmpOp} {t:TE} (h:PC X op a b t) (f:behindInMarks op b=false:=by first|exact nobehind _ (by decide) (by decide)|rfl):PT X (.Compare a [op] [b] r) (tB t):=by intro e s l H Q I m;refine wpAny_isTrue_Compare1 (gj (h e s l H _ I m) fun v n f=>gj f fun u o g=>gj g fun c p ⟨x,i,j,r1,q1⟩=>?_) f;obtain ⟨d,rfl,q⟩:=q1;cases r1;exact aa7 ⟨i,j,q⟩
noncomputable def jY {e:ZO} {t:TE} (h:PE X e t) (m:∀ c,isTrue e X.env c=(do let v ← c;standAt e.pos;holding [v] (truthy v)):=by intro _;rfl):PT X e (tB t):=by intro f s j H Q I l;refine isTrue_plain (gj (h f s j H _ I l) fun v n ⟨x,g,i,r1,q1⟩=>?_) (m _);obtain ⟨d,rfl,q⟩:=q1;cases r1;exact aa7 ⟨g,i,q⟩
def VH (t u:TT):TT:=fun d H Q=>t d H fun c e=>if c=true then u d e Q else Q false e
def tOr (t u:TT):TT:=fun d H Q=>t d H fun c e=>if c=true then Q true e else u d e Q
def U0 (t:TT):TT:=fun d H Q=>t d H fun c e=>Q (!c) e
theorem wX (g:PT X a l):PW X (.BoolOp .And [a] b) l:=by
 intro j d s f H Q I h;refine isTrue_and (gj (g d s f H Q I h) fun c i e=>?_);cases c with
 |true=>exact isTrue_and_nil e
 |false=>exact e
theorem pG (g:PT X a l):PW X (.BoolOp .Or [a] b) l:=by
 intro j d s f H Q I h;refine isTrue_or (gj (g d s f H Q I h) fun c i e=>?_);cases c with
 |false=>exact isTrue_or_nil e
 |true=>exact e
theorem Be {a b:ZO} {n:Pos} {p o:TT} {rest:YR} (l:PT X a p) (m:PW X (.BoolOp .And (b::rest) n) o):PW X (.BoolOp .And (a::b::rest) n) (VH p o):=by
 intro j d s g H Q I h;refine isTrue_and (gj (l d s g H _ I h) fun c i ⟨e,f,q1⟩=>?_);cases c with
 |true=>exact m j d i g e Q f q1
 |false=>exact ⟨e,f,q1⟩
theorem rJ {a b:ZO} {n:Pos} {p o:TT} {rest:YR} (l:PT X a p) (m:PW X (.BoolOp .Or (b::rest) n) o):PW X (.BoolOp .Or (a::b::rest) n) (tOr p o):=by
 intro j d s g H Q I h;refine isTrue_or (gj (l d s g H _ I h) fun c i ⟨e,f,q1⟩=>?_);cases c with
 |true=>exact ⟨e,f,q1⟩
 |false=>exact m j d i g e Q f q1
def jn (g:PT X a i):PT X (.UnaryOp .Not a b) (U0 i):=by intro d s f H Q I h;exact isTrue_not (g d s f H (fun c e=>Q (!c) e) I h)
def Wq (f g:TE):TE:=fun d H Q=>f d H fun x e=>∃ c,x=.bl c/\if c=true then g d e Q else Q (.bl false) e
def U8 (f:TE):TE:=fun d H Q=>f d H fun x e=>∃ c,x=.bl c/\Q (.bl (!c)) e
def mF {op} (h:PE X a t):PE X (.BoolOp op [a] b) t:=fun c s d H Q I e=>BoolOp_one (h c s d H Q I e)
theorem j5 {a b:ZO} {n o:TE} {m:Pos} {rest:YR} (j:PE X a n) (l:PE X (.BoolOp .And (b::rest) m) o):PE X (.BoolOp .And (a::b::rest) m) (Wq n o):=by
 intro d s g H Q I h;refine BoolOp_and (gj (j d s g H _ I h) fun v i ⟨x,e,f,r1,q1⟩=>?_);obtain ⟨c,rfl,q1⟩:=q1;cases r1;refine aa7 ?_;cases c with
 |true=>exact l d i g e Q f q1
 |false=>exact ⟨.bl false,e,f,rfl,q1⟩
noncomputable def T8 (i:PE X a l):PE X (.UnaryOp .Not a b) (U8 l):=by intro d s g H Q I h;refine UnaryOp_ (gj (i d s g H _ I h) fun v j ⟨x,e,f,r1,q1⟩=>?_);obtain ⟨c,rfl,q1⟩:=q1;cases r1;exact not_of (aa7 ⟨.bl (!c),e,f,rfl,q1⟩)
def Zo (t:TT) (f g:TE):TE:=fun d H Q=>t d H fun c e=>if c=true then f d e Q else g d e Q
theorem m6 {c:ZO} (l:PT X c r) (m:PE X a q) (n:PE X b o):PE X (.IfExp c a b p) (Zo r q o):=by
 intro e s f H Q I h;refine wpAny_IfExp (gj (l e s f H _ I h) fun d g ⟨i,j,q1⟩=>?_);cases d with
 |true=>exact m e g f i Q j q1
 |false=>exact n e g f i Q j q1
end
def fM (K:Zs) (H:Hp) (a:Zl) (c:List V):Prop:=
 Rd H a (.lst c)∨
  ∃ (o:Obj) (b:Y3) (n:Nat),K.lookup a=some o/\o.cls=.type "list"/\o.dict=none/\o.data=.seq b n/\b.size≤sizeLine/\Vals c b.toList
def gC (K:Zs) (H:Hp) (a:Zl) (c:List V):Prop:=
 Rd H a (.tup c)∨
  ∃ (o:Obj) (b:Y3) (n:Nat),K.lookup a=some o/\o.cls=.type "tuple"/\o.data=.seq b n/\b.size≤sizeLine/\Vals c b.toList
noncomputable def Yw:Value->Option V
 |.none=>some .non
 |.bool b=>some (.bl b)
 |.int i _=>some (.int i)
 |.str x _=>some (.str x)
 |.bytes b _=>some (.byt b)
 |.float b _=>some (.flt b)
 |.ref a=>some (.ref a)
 |.type n=>some (.ty n)
 |_=>none
theorem RelV.abs (r:RelV x u):Yw u=some x:=by
 cases x with
 |non=>cases r;rfl
 |bl _=>cases r;rfl
 |int _=>obtain ⟨t,rfl⟩:=r;rfl
 |str _=>obtain ⟨t,rfl⟩:=r;rfl
 |byt _=>obtain ⟨t,rfl⟩:=r;rfl
 |flt _=>obtain ⟨t,rfl⟩:=r;rfl
 |ref _=>cases r;rfl
 |ty _=>cases r;rfl
def RelV.inj (r:RelV x u) (q:RelV y u):x=y:=aaM (r.abs.symm.trans q.abs)
theorem Vals.inj:∀ {xs a:List V} {b:Y2},Vals xs b->Vals a b->xs=a
 |_,_,_,.nil,.nil=>rfl
 |_,_,_,.cons r t,.cons r' t'=>by rw [r.inj r',Vals.inj t t']
def fM.of {H:Hp} {K:Zs} (h:H a=some (.lst xs)):fM K H a xs:=.inl (.inl h)
def gC.of {H:Hp} {K:Zs} (h:H a=some (.tup xs)):gC K H a xs:=.inl (.inl h)
def Inv.list (I:Inv X i j H s) (h:fM X.K H a g):∃ b:List Value,Vals g b/\PlainL s.heap a b.toArray/\g.length≤sizeLine:=by
 rcases h with h|⟨o,b,n,hk,c,hd,d,f,r⟩
 ·obtain ⟨z,b,n,r,e⟩:=h.ok I.hok;exact ⟨b,r,⟨_,n,e,rfl,rfl,rfl⟩,z⟩
 ·refine ⟨b.toList,r,⟨o,n,I.kIn a o hk,c,hd,by simpa using d⟩,?_⟩;have e:=r.length;simp only [acL] at e;omega
def Inv.tuple (I:Inv X i j H s) (h:gC X.K H a g):∃ b:List Value,Vals g b/\IsTup s.heap a b.toArray/\g.length≤sizeLine:=by
 rcases h with h|⟨o,b,n,hk,c,d,f,r⟩
 ·obtain ⟨z,b,r,p⟩:=h.ok I.hok;exact ⟨b,r,p,z⟩
 ·refine ⟨b.toList,r,⟨o,I.kIn a o hk,c,n,by simpa using d⟩,?_⟩;have e:=r.length;simp only [acL] at e;omega
def Inv.list_inj (I:Inv X p w H s) (h:fM X.K H a v) (j:fM X.K H a q):v=q:=by
 obtain ⟨c,r,⟨o,n,e,_,_,d⟩,_⟩:=I.list h;obtain ⟨b,i,⟨l,m,f,_,_,g⟩,_⟩:=I.list j;rw [e] at f;cases f;rw [d] at g;injection g with d1 _
 have:c=b:=by simpa using aax Array.toList d1
 subst this;exact r.inj i
def Inv.tuple_inj (I:Inv X p w H s) (h:gC X.K H a v) (j:gC X.K H a q):v=q:=by
 obtain ⟨c,r,⟨o,e,_,n,d⟩,_⟩:=I.tuple h;obtain ⟨b,i,⟨l,f,_,m,g⟩,_⟩:=I.tuple j;rw [e] at f;cases f;rw [d] at g;injection g with d1 _
 have:c=b:=by simpa using aax Array.toList d1
 subst this;exact r.inj i
abbrev Cx.wish (X:Cx) (E:ZU):Cx:={ X with xe:=E }
abbrev Cx.nox (X:Cx):Cx:=X.wish fun _ _=>False
def Cx.Ok.wish {X:Cx} (ok:X.Ok) (E:ZU):(X.wish E).Ok:=
 ⟨ok.mod,ok.kind,ok.glob,ok.blt,ok.above,ok.inj,ok.has,ok.cab,ok.hd,ok.frames,ok.stk,ok.exf,ok.bs,ok.bsz,ok.noex,ok.exfs,ok.funs,ok.frf⟩
def Cx.Ok.unwish {X:Cx} (ok:(X.wish E).Ok):X.Ok:=
 ⟨ok.mod,ok.kind,ok.glob,ok.blt,ok.above,ok.inj,ok.has,ok.cab,ok.hd,ok.frames,ok.stk,ok.exf,ok.bs,ok.bsz,ok.noex,ok.exfs,ok.funs,ok.frf⟩
def Inv.wish {X:Cx} (I:Inv X a b H s) (E:ZU):Inv (X.wish E) a b H s:=⟨I.ok.wish E,I.os,I.bare,I.base,I.loc,I.cell,I.free,I.freeC,I.pin,I.hok,I.len⟩
def Inv.unwish {X:Cx} (I:Inv (X.wish E) a b H s):Inv X a b H s:=⟨I.ok.unwish,I.os,I.bare,I.base,I.loc,I.cell,I.free,I.freeC,I.pin,I.hok,I.len⟩
theorem SP.unwish (h:SP (X.wish E) d D f c):SP X d D f c:=by
 cases f with
 |next=>obtain ⟨a,b,I,q⟩:=h;exact ⟨a,b,I.unwish,q⟩
 |brk=>obtain ⟨a,b,I,q⟩:=h;exact ⟨a,b,I.unwish,q⟩
 |cont=>obtain ⟨a,b,I,q⟩:=h;exact ⟨a,b,I.unwish,q⟩
 |ret u=>obtain ⟨v,a,b,I,r,q⟩:=h;exact ⟨v,a,b,I.unwish,r,q⟩
def wJ.nox {X:Cx} {b:List Stmt} {t:TS} (h:wJ X.nox b t):wJ X b t:=fun a s c H D I d=>aat (h a s c H D (I.wish _) d) (fun _ _ q=>q.unwish) fun _ _ z=>False.elim z
def VB:TS:=fun D a H=>D.nx a H
def Gy (t u:TS):TS:=fun D a H=>t { D with nx:=u D } a H
def eE:wJ X [] VB:=fun _ _ a H _ I h=>abW ⟨a,H,I,h⟩
theorem d7 {X:Cx} {e:Stmt} {rest:List Stmt} {t u:TS} (j:PS X e t) (l:wJ X rest u):wJ X (e::rest) (Gy t u):=by
 intro a s i H D I h;refine wpAny_execs_cons (gj (j a s i H { D with nx:=u D } I h) fun f c q=>?_);cases f with
 | next=>obtain ⟨b,d,g,q⟩:=q;exact l a c b d D g q
 |ret v=>exact q
 |brk=>exact q
 |cont=>exact q
theorem dj {X:Cx} {e:Stmt} {t:TS} (c:PS X e t):wJ X [e] t:=by
 intro a s b H D I h;refine wpAny_execs_cons (gj (c a s b H D I h) fun f d q=>?_);cases f with
 |next=>exact abW q
 |ret v=>exact q
 |brk=>exact q
 |cont=>exact q
def Inv.quiet (I:Inv X a b H s):interactive X.env=false:=by simp [interactive,I.ok.kind]
def Oe (c:TE):TS:=fun D a H=>c a H fun _ b=>D.nx a b
noncomputable def dZ {X:Cx} {j:Pos} (f:PE X e l) (g:swapsWith e none j.line X.env=pure false:=by rfl):PS X (.Expr e j) (Oe l):=by intro a s b H D I h;exact wpAny_Expr_any (gj (f a s b H _ I h) fun v i ⟨x,c,d,r1,q1⟩=>⟨b,c,d,q1⟩) I.quiet g
def Z5 (b:TE):TS:=fun D a H=>b a H D.rt
def dX (f:PE X e i):PS X (.Return (some e) j) (Z5 i):=by intro a s b H D I h;exact wpAny_Return_some (gj (f a s b H _ I h) fun v g ⟨x,c,d,r1,q1⟩=>⟨x,b,c,d,r1,q1⟩)
def Vx (c:TT) (t u:TS):TS:=fun D a H=>c a H fun b d=>if b=true then t D a d else u D a d
theorem fX {c:ZO} {a b:List Stmt} {m:TT} (n:PT X c m) (o:wJ X a t) (p:wJ X b u):PS X (.If c a b e) (Vx m t u):=by
 intro f s g H D I h;refine wpAny_If (gj (n f s g H _ I h) fun d i ⟨j,l,q1⟩=>?_);cases d with
 |true=>exact o f i g j D l q1
 |false=>exact p f i g j D l q1
def Hy:TS:=fun _ _ _=>False
def iH {X:Cx} {a:Stmt}:PS X a Hy:=fun _ _ _ _ _ _ h=>h.elim
def uU:wJ X a Hy:=fun _ _ _ _ _ _ h=>h.elim
abbrev TG:=V->St->Hp->(St->Hp->Prop)->Prop
abbrev Tp:=List V->St->Hp->(St->Hp->Prop)->Prop
def PG (X:Cx) (a:ZO) (t:TG):Prop:=
 ∀ (b:YI) (s:Zp) (d:St) (H:Hp) (v:V) (u:ZH) (Q:St->Hp->Prop),Inv X b d H s->RelV v u->t v d H Q->
   wpAny (model X.prog X.w) X.A (assign a X.env u) (fun _ f=>∃ c e,Inv X b c e f/\Q c e) X.xe s
def WT (X:Cx) (g:YR) (t:Tp):Prop:=
 ∀ (a:YI) (s:Zp) (c:St) (H:Hp) (vs:List V) (d:Y2) (Q:St->Hp->Prop),Inv X a c H s->Vals vs d->t vs c H Q->
   wpAny (model X.prog X.w) X.A (assignInOrder ((assignEach g X.env).map (·.2)) d) (fun _ f=>∃ b e,Inv X a b e f/\Q b e) X.xe s
abbrev T4:=V->V->V->Hp->(Hp->Prop)->Prop
def Ul (X:Cx) (t:T4):Prop:=
 ∀ (a:YI) (s:Zp) (b:St) (H:Hp) (o i v:V) (c d u:ZH) (Q:Hp->Prop),Inv X a b H s->RelV o c->RelV i d->RelV v u->t o i v H Q->
   wpAny (model X.prog X.w) X.A (setItem c d u) (fun _ f=>∃ e,Inv X a b e f/\Q e) X.xe s
def fH (i:Nat):TG:=fun v a H Q=>Q (a.set i (some v)) H
noncomputable def gn (c:X.N.Nodup) (d:X.N[i]?=some x) (e:Loc X.env.scope x) (f:X.fn x=true∨X.env.scope.names.lookup x=some .local:=by first|exact .inl rfl|exact .inr rfl|assumption):PG X (.Name x l) (fH i):=by intro a s j H v u Q I r h;exact wpAny_assign_Name (n_ I c d e r (fun g b=>⟨_,H,b,h⟩) f)
def Ff:Tp:=fun vs a H Q=>vs=[]/\Q a H
def mV (t:TG) (u:Tp):Tp:=fun vs b H Q=>∃ v r,vs=v::r/\t v b H fun a c=>u r a c Q
def jg:WT X [] Ff:=by intro a s b H vs c Q I r h;obtain ⟨e,h⟩:=h;subst e;cases r;exact assignInOrder_nil ⟨b,H,I,h⟩
theorem eU {X:Cx} {e:ZO} {b:YR} {t:TG} {u:Tp} (m:PG X e t) (n:WT X b u)
 (o:(assignEach (e::b) X.env).map (·.2)=assign e X.env::(assignEach b X.env).map (·.2):=by rfl):WT X (e::b) (mV t u):=by
 intro a s j H vs p Q I r h;obtain ⟨v,vr,i,h⟩:=h;subst i;cases r with
 | cons r l=>rw [o];refine assignInOrder_cons (gj (m a s j H _ _ _ I r h) fun _ d ⟨c,f,g,q1⟩=>?_);exact n a d c f _ _ Q g l q1
def Fi (K:Zs) (n:Nat) (t:Tp):TG:=fun v c H Q=>∃ a b,v=.ref a/\gC K H a b/\b.length=n/\t b c H Q
def jT (B:X.calm=true) (h:WT X d t)
 (C:(assignEach d X.env).length=n:=by rfl) (g:(assignEach d X.env).findIdx? (·.1)=none:=by rfl):PG X (.Tuple d k E) (Fi X.K n t):=by
 intro c s j H v u Q I r f;obtain ⟨a,q,w,x,y,f⟩:=f;subst w;cases r;obtain ⟨z,i,A,D⟩:=I.tuple x;refine assign_Tuple_tuple (I.ok.hd B) A (by simp [C,← y,i.length]) g fun l m=>?_;have p:Inv X c j H { s with heap:=l }:=I.kept (t':=s.toks) fun b o e=>m b o (aal (aaf e)) e;exact h c _ j H q _ Q p (by simpa using i) f
def Z1 (e f:TE) (t:T4):TG:=fun v a H Q=>e a H fun o b=>f a b fun i c=>t o i v c fun d=>Q a d
def xG {X:Cx} {o i:ZO} {e f:TE} {t:T4} (A:PE X o e) (B:PE X i f) (C:Ul X t)
 (D:∀ v,assign (.Subscript o i F) X.env v=(do
  let b ← holding [v] (eval o X.env)
  let c ← holding [v,b] (eval i X.env)
  standAt F
  holding [v,b,c] (setItem b c v)
  release [v,b,c] []):=by intro _;rfl):PG X (.Subscript o i F) (Z1 e f t):=by
 intro a s d H v u Q I r h;rw [D];refine aaa (aaS (gj (A a s d H _ I h) fun b g ⟨x,j,l,r1,q1⟩=>?_));refine aaa (aaS (gj (B a g d j _ l q1) fun c m ⟨y,n,p,r2,q2⟩=>?_));refine aaa (aa4 (aaa (aaS (gj (C a m d n x y v b c u _ p r1 r2 r q2) fun _ E ⟨q,w,z⟩=>?_))));exact wpAny_release ⟨d,q,w,z⟩
def Ej (c:TE) (g:TG):TS:=fun D a H=>c a H fun x b=>g x a b D.nx
def pF {X:Cx} {w:Pos} {b e:ZO} {d:TE} {g:TG} (l:PE X e d) (m:PG X b g) (n:swapsWithSole [b] e w.line X.env=pure false:=by rfl) (o:swappedStores [b] e X.env=pure none:=by rfl)
 (p:(assignEach [b] X.env).map (·.2)=[assign b X.env]:=by rfl):PS X (.Assign [b] e w) (Ej d g):=by
 intro a s c H D I h;refine wpAny_Assign_stores (gj (l a s c H _ I h) fun v f ⟨x,i,j,r1,q1⟩=>?_) n o;rw [p];exact gj (m a f c i x v _ j r1 q1) fun _ r q=>q
noncomputable def SN {X:Cx} {z:Pos} {i:Nat} {x:Str} {e:ZO} {c:TE} {a:Pos} (l:X.N.Nodup) (m:X.N[i]?=some x) (n:Loc X.env.scope x) (o:PE X e c) (p:swapsWith e (some (.Name x a)) z.line X.env=pure false:=by rfl) (q:X.fn x=true∨X.env.scope.names.lookup x=some .local:=by first|exact .inl rfl|exact .inr rfl|assumption) :
 PS X (.Assign [.Name x a] e z) (Ej c (fH i)):=by
 intro b s j H D I h;refine wpAny_Assign_Name (gj (o b s j H _ I h) fun v r ⟨y,d,f,r1,q1⟩=>?_) p;exact n_ f l m n r1 (fun w g=>⟨_,d,g,q1⟩) q
structure It where
 go:Nat->Hp->Prop
 yld:Nat->Hp->V->Hp->Prop
 stop:Nat->Hp->Prop
def nA (X:Cx) (a:YI) (H:Hp) (b:Zl):Prop:=
 H b=none/\b≠X.env.locals/\b∉X.fs/\(b∈X.ex∨X.s₀.heap.objs.size≤b)/\(∀ x c,X.env.cells.lookup x=some c->c≠b)/\∀ p∈X.pn++a,p.1≠b
def Inv.fpOk (I:Inv X a g H s) (d:s.heap.objs.size≤b) (h:H' b=none):nA X a H' b:=by
 refine ⟨h,abF (aar I.lt d),I.nofs d,.inr (aaj I.sz d),fun x c e z=>?_,fun p f z=>?_⟩
 ·obtain ⟨v,q⟩:=I.cell x c e;exact absurd (aar q.lt (by rw [z];exact d)) (aaN _)
 ·exact absurd (aar (aaf (I.pin p f).1) (by rw [z];exact d)) (aaN _)
structure Turn (P:ZB) (w:ZE) (K:Zs) (tg:ZO) (J:It) (fp:YE) (it:Zl) (tn:Nat->Heap->Prop):Prop where
 mem:it∈fp
 obj:∀ i h,tn i h->∀ b∈fp,∃ o,h.get? b=some o/\∀ v,o.data≠.cell v
 keep:∀ i h h',tn i h->(∀ b∈fp,∀ o,h.get? b=some o->h'.get? b=some o)->tn i h'
 item:∀ (X:Cx),X.prog=P->X.w=w->X.K=K->X.calm=true->∀ (i:Nat) (dR:YI) (s:Zp) (σ:St) (H:Hp) (E:ZU),Inv X dR σ H s->(∀ b∈fp,nA X dR H b)->tn i s.heap->J.go i H->
  wpAny (model P w) X.A (pyNext (.ref it)) (fun r s1=>∃ u,r=some u/\ wpAny (model P w) X.A (letOwnedTupleGo tg (.ref it) u) (fun _ s2=>∃ x H',Inv X dR σ H' s2/\RelV x u/\J.yld i H x H'/\tn (i+1) s2.heap/\∀ b∈fp,H' b=none) E s1) E s
 done:∀ (X:Cx),X.prog=P->X.w=w->X.K=K->X.calm=true->∀ (i:Nat) (dR:YI) (s:Zp) (σ:St) (H:Hp) (E:ZU),Inv X dR σ H s->(∀ b∈fp,nA X dR H b)->tn i s.heap->J.stop i H->
  wpAny (model P w) X.A (pyNext (.ref it)) (fun r s1=>r=none/\Inv X dR σ H s1) E s
 self:∀ (A:ZN) (i:Nat) (s:Zp) (Q:ZU) (E:ZU),tn i s.heap->Q (.ref it) s->wpAny (model P w) A (pyIter (.ref it)) Q E s
abbrev TI:=St->Hp->(It->Hp->Prop)->Prop
def PIE (X:Cx) (a:YI) (h:St) (i:ZO) (R:It->Hp->Prop) (d:ZH) (g:Zp):Prop:=
 ∃ (e:Zl) (fp:YE) (f:Nat->Heap->Prop) (J:It) (c:Hp),d=.ref e/\Inv X a h c g/\Turn X.prog X.w X.K i J fp e f/\f 0 g.heap/\(∀ b∈fp,nA X a c b)/\R J c
def PI (X:Cx) (e b:ZO) (f:TI):Prop:=
 ∀ (a:YI) (s:Zp) (c:St) (H:Hp) (R:It->Hp->Prop),Inv X a c H s->f c H R->
   wpAny (model X.prog X.w) X.A (eval b X.env) (fun v d=>wpAny (model X.prog X.w) X.A (pyIter v) (PIE X a c e R) X.xe d) X.xe s
def Gz (d:s.heap.get? c=some o) (e:o.cls=.type n) (hd:o.data=.fields vs)
 (f:["enumerate","zip","dict_itemiterator","dict_reverseitemiterator","odict_iterator","itertools.zip_longest","itertools.pairwise"].contains n=false) (a:Q () s):wpAny M A (letOwnedTupleGo b (.ref c) u) Q E s:=by
 unfold letOwnedTupleGo;cases b <;> first
  |exact aad a
  |(cases u <;> first
   |exact aad a
   | (refine aaa (wpAny_load d ?_)
      rw [e,hd];show wpAny M A (if (["enumerate","zip","dict_itemiterator","dict_reverseitemiterator","odict_iterator","itertools.zip_longest","itertools.pairwise"].contains n && vs[0]? == some (rawInt _))=true then _ else _) Q E s;rw [aab (by intro h;rw [f,abz] at h;cases h)];exact aad a))
def W_ (S:Hp->List V->Prop):It:=
 ⟨fun i H=>∃ a x,S H a/\a[i]?=some x,fun i H x b=>b=H/\∀ a,S H a->a[i]?=some x,fun i H=>∃ a,S H a/\a.length≤i⟩
abbrev Za (K:Zs) (a:Zl):It:=W_ fun H=>fM K H a
abbrev YF (K:Zs) (a:Zl):It:=W_ fun H=>gC K H a
def Vy (b:Int) (n:Nat):It:=⟨fun i _=>i<n,fun i H x a=>a=H/\x=.int (b+i),fun i _=>n≤i⟩
def uD {P:ZB} {w:ZE} {K:Zs} {tg:ZO} {J:It} {g:Zl} (n:String) {j:Nat->Heap->Prop} (Z:∀ i h,j i h->∃ o vs,h.get? g=some o/\o.cls=.type n/\o.data=.fields vs)
 (hn:["enumerate","zip","dict_itemiterator","dict_reverseitemiterator","odict_iterator","itertools.zip_longest","itertools.pairwise"].contains n=false) (keep:∀ i h f,j i h->(∀ o,h.get? g=some o->f.get? g=some o)->j i f)
 (U:∀ {X:Cx} {i:Nat} {a:YI} {m:St} {s:Zp} {H:Hp} {R:Option Value->Shared->Prop} {E:ZU},X.prog=P->X.w=w->X.K=K->X.A.handled=none->Inv X a m H s->j i s.heap->J.go i H-> (∀ u x f tk,RelV x u->J.yld i H x H->j (i+1) f->(∀ b o,b≠g->s.heap.get? b=some o->f.get? b=some o)->R (some u) { s with heap:=f,toks:=tk })->wpAny (model P w) X.A (pyNext (.ref g)) R E s)
 (W:∀ {X:Cx} {i:Nat} {a:YI} {m:St} {s:Zp} {H:Hp} {R:Option Value->Shared->Prop} {E:ZU},X.prog=P->X.w=w->X.K=K->X.A.handled=none->Inv X a m H s->j i s.heap->J.stop i H-> (∀ f tk,(∀ b o,b≠g->s.heap.get? b=some o->f.get? b=some o)->R none { s with heap:=f,toks:=tk })->wpAny (model P w) X.A (pyNext (.ref g)) R E s)
 (Y:∀ (A:ZN) (i:Nat) (s:Zp) (Q E:ZU),j i s.heap->Q (.ref g) s->wpAny (model P w) A (pyIter (.ref g)) Q E s):Turn P w K tg J [g] g j where
 mem:=aak.mpr rfl
 obj:=fun i h l b B=>by obtain ⟨o,vs,e,_,d⟩:=Z i h l;cases aak.mp B;exact ⟨o,e,fun v z=>by rw [d] at z;cases z⟩
 keep:=fun i h f l k=>keep i h f l (k g (aak.mpr rfl))
 item:=fun X C D F G i a s m H E I q l L=>by obtain ⟨M,N,f2,O,S,T⟩:=q g (aak.mpr rfl);refine U C D F (I.ok.hd G) I l L fun u x f tk r y p k=>?_;obtain ⟨o,vs,e,c,d⟩:=Z _ _ p;exact ⟨u,rfl,Gz (s:={ s with heap:=f,toks:=tk }) e c d hn ⟨x,H,I.turned k M N O S T,r,y,p,fun b B=>(q b B).1⟩⟩
 done:=fun X C D F G i a s m H E I q l L=>
  let ⟨M,N,f2,O,S,T⟩:=q g (aak.mpr rfl)
  W C D F (I.ok.hd G) I l L fun f tk k=>⟨rfl,I.turned k M N O S T⟩
 self:=Y
def G8 {P:ZB} {w:ZE} {K:Zs} {J:ZO} (a z:Zl):Turn P w K J (Za K a) [z] z (fun i h=>h.IsListIter z a i):=
 uD "list_iterator" (fun i h ⟨o,e,c,d⟩=>⟨o,_,e,c,d⟩) (by decide) (fun i h g f k=>f.at k)
  (fun l m n hd I f ⟨A,x,j,r⟩ q=>by subst l m n;obtain ⟨v,y,p,F⟩:=I.list j;obtain ⟨u,G,H⟩:=y.get r;exact wpAny_pyNext_list_item f (p.isList) (x:=u) (by simpa using G) fun g s B=>q u x g _ H ⟨rfl,fun L C=>I.list_inj C j ▸ r⟩ s fun b o D e=>(B.2 b D).trans e)
  (fun l m n hd I f ⟨A,j,r⟩ q=>by subst l m n;obtain ⟨v,y,p,F⟩:=I.list j;have M:=y.length;exact wpAny_pyNext_list_end hd f (p.isList) (by simp;omega) fun g E=>q g _ E)
  fun _ _ _ _ _ f h=>wpAny_pyIter_listiter f h
def Bv {P:ZB} {w:ZE} {K:Zs} {J:ZO} (a z:Zl):Turn P w K J (YF K a) [z] z (fun i h=>h.IsTupleIter z a i):=
 uD "tuple_iterator" (fun i h ⟨o,e,c,d⟩=>⟨o,_,e,c,d⟩) (by decide) (fun i h j f k=>f.at k)
  (fun m n r hd I f ⟨A,x,l,s⟩ q=>by subst m n r;obtain ⟨g,y,p,F⟩:=I.tuple l;obtain ⟨u,G,H⟩:=y.get s;exact wpAny_pyNext_tuple_item f (show Heap.IsTuple _ a g.toArray from p) (x:=u) (by simpa using G) fun j v B=>q u x j _ H ⟨rfl,fun L C=>I.tuple_inj C l ▸ s⟩ v fun b o D e=>(B.2 b D).trans e)
  (fun m n r hd I f ⟨A,l,s⟩ q=>by subst m n r;obtain ⟨g,y,p,F⟩:=I.tuple l;have M:=y.length;exact wpAny_pyNext_tuple_end hd f (show Heap.IsTuple _ a g.toArray from p) (by simp;omega) fun j E=>q j _ E)
  fun _ _ _ _ _ f h=>wpAny_pyIter_tupleiter f h
def Bu {P:ZB} {w:ZE} {K:Zs} {y:ZO} (d:Zl) (p:Int) (n:Nat):Turn P w K y (Vy p n) [d] d (fun i h=>IsRangeIter h d (p+(i:Nat)*1) ((n:Int)-(i:Nat)) 1):=
 uD "range_iterator" (fun i h a=>⟨_,_,a,rfl,rfl⟩) (by decide) (fun i h c a k=>k _ a)
  (fun f g j hd I a l q=>by subst f g j;refine (Walks.range hd d p 1 n).item _ _ _ _ l a fun v c tk r m kk=>?_;obtain ⟨t,rfl⟩:=r;exact q _ (.int _) c tk ⟨t,rfl⟩ ⟨rfl,by rw [Int.mul_one]⟩ m fun b o s e=>kk b o (by simpa using s) e)
  (fun {_ i _ _ _ _ _ _} f g j hd I a l q=>by subst f g j;exact wpAny_pyNext_range_end hd a (by have:n≤i:=l;omega) fun c x=>q c _ x)
  fun _ _ _ _ _ a h=>wpAny_pyIter_rangeiter a h
def Js (K:Zs) (e:TE):TI:=fun c H R=>e c H fun x b=>∃ a,x=.ref a/\(∃ d,fM K b a d)/\R (Za K a) b
def X_ (K:Zs) (e:TE):TI:=fun c H R=>e c H fun x b=>∃ a,x=.ref a/\(∃ d,gC K b a d)/\R (YF K a) b
def xX (I:Inv X a c H s) (T:Turn X.prog X.w X.K h J [s.heap.objs.size] s.heap.objs.size d) (g:d 0 (s.heap.push o)) (q:R J H) :
 PIE X a c h R (.ref s.heap.objs.size) { s with heap:=s.heap.push o,toks:=tk }:=
 ⟨_,_,_,_,H,rfl,I.kept fun b o e=>aai _ e,T,g,fun b f=>by cases aak.mp f;exact I.fpOk (aae _) (I.hok.fresh (aae _)),q⟩
noncomputable def jx {X:Cx} {l:ZO} {d:TE} (i:PE X l d):PI X w l (Js X.K d):=by intro b s f H R I h;refine gj (i b s f H _ I h) ?_;rintro v n ⟨x,o,c,r1,a,rfl,⟨r,g⟩,q⟩;cases r1;obtain ⟨e,j,p,m⟩:=c.list g;exact wpAny_pyIter_list p.isList (xX c (G8 a _) ⟨_,aav _ rfl,rfl,rfl⟩ q)
noncomputable def rn {X:Cx} {l:ZO} {e:TE} (j:PE X l e):PI X w l (X_ X.K e):=by intro b s f H R I h;refine gj (j b s f H _ I h) ?_;rintro v g ⟨x,o,d,r1,a,rfl,⟨r,i⟩,q⟩;cases r1;obtain ⟨c,m,p,n⟩:=d.tuple i;exact acM (show g.heap.IsTuple a c.toArray from p) (xX d (Bv a _) ⟨_,aav _ rfl,rfl,rfl⟩ q)
def Hl {X:Cx} {c:YI} {f:St} {H:Hp} {s:Zp} {R:It->Hp->Prop} {E:ZU} {a d:Int} {t u v:Tok} {tk:Nat} (I:Inv X c f H s) (i:-(2 ^ 62)≤a) (j:a<2 ^ 62) (l:-(2 ^ 62)≤d) (m:d<2 ^ 62)
 (q:R (Vy a (d-a).toNat) H):wpAny (model X.prog X.w) X.A (pyIter (.ref s.heap.objs.size)) (PIE X c f n R) E { s with heap:=s.heap.push { cls:=.type "range",data:=.fields #[.int a t,.int d u,.int 1 v] },toks:=tk }:=by
 refine wpAny_pyIter_range (IsRange.new ..) (small_one i j l m) (xX (I.kept (t':=tk) fun b o e=>aai _ e) (Bu _ a (d-a).toNat) ?_ q);have g:a+((0:Nat):Int)*1=a:=by simp
 have h:(((d-a).toNat:Nat):Int)-((0:Nat):Int)=Builtin.Range.rangeSize a d 1:=by rw [rangeSize_one];split <;> omega
 show IsRangeIter _ _ (a+((0:Nat):Int)*1) ((((d-a).toNat:Nat):Int)-((0:Nat):Int)) 1;rw [g,h];exact aav _ rfl
def Tz (c:TA):TI:=fun a H R=>c a H fun vs b=>∃ j:Int,vs=[.int j]/\-(2 ^ 62)≤j/\j<2 ^ 62/\R (Vy 0 j.toNat) b
theorem kY {X:Cx} {a:ZO} {d:TA} {p c:Pos} (l:Gl X "range") (m:X.mg "range" = none) (n:PA X [a] d) (o:starEach [a] X.env=[(false,eval a X.env)]:=by rfl):PI X y (.Call (.Name "range" p) [a] [] c) (Tz d):=by
 intro b s g H R I h;refine Call_ (qI I l m boot_range (acN (gj (n c b s g H _ I h) fun v w ⟨vs,x,f,r1,q1⟩=>?_) o rfl));obtain ⟨j,e,q1,q2,q⟩:=q1;subst e;cases r1 with
 | cons r i=>cases i;obtain ⟨t,rfl⟩:=r;exact call_range_1 (Hl f (by omega) (by omega) q1 q2 (by simpa using q))
abbrev FW (J:It) (g:TG) (h:TS) (D:Ends) (a:St) (H:Hp):Prop:=∃ W:Nat->Nat->St->Hp->Prop,(∃ m,W 0 m a H)/\∀ i m a H,W i m a H->
 (J.stop i H/\D.nx a H)∨(J.go i H/\∃ N:St->Hp->Prop,(∀ b c,N b c->∃ e,e<m/\W (i+1) e b c)/\∀ x c,J.yld i H x c->g x a c fun d f=>h { D with nx:=N,ct:=N,bk:=D.nx } d f)
def Xn (c:TI) (g:TG) (d:TS):TS:=fun D a H=>c a H fun J b=>FW J g d D a b
noncomputable def lE (fp:YE) (h:ZI):List (Addr×Obj):=fp.filterMap fun b=>(h.get? b).map fun o=>(b,o)
def mJ (a:b∈fp) (e:h.get? b=some o):(b,o)∈lE fp h:=acO.mpr ⟨b,a,by rw [e];rfl⟩
theorem qQ (d:p∈lE fp h):p.1∈fp/\h.get? p.1=some p.2:=by
 obtain ⟨b,c,e⟩:=acO.mp d;cases q:h.get? b with
 |none=>rw [q] at e;cases e
 | some o=>rw [q] at e;have a:(b,o)=p:=aaM e;subst a;exact ⟨c,q⟩
def Inv.pinned (I:Inv X a g H s) (m:∀ b∈fp,nA X a H b) (n:∀ b∈fp,∃ o,s.heap.get? b=some o/\∀ v,o.data≠.cell v):Inv X (a++lE fp s.heap) g H s:=
 I.pins_of fun p h=>(aam.mp h).elim (fun z=>I.pin p (aau _ z)) fun z=>by obtain ⟨c,e⟩:=qQ z;obtain ⟨i,j,l,_⟩:=m p.1 c;obtain ⟨o,f,d⟩:=n p.1 c;rw [e] at f;cases f;exact ⟨e,i,j,l,d⟩
def Inv.unpinned (I:Inv X (a++d) b H s):Inv X a b H s:=I.pins_of fun p c=>I.pin p (aau _ (aaG _ c))
def lD {X:Cx} {A:ZO} {E:List Stmt} {wi:TI} {g:TG} {tb:TS} {pos:Pos} (Q:PassesOwn (model X.prog X.w) X.A X.env X.xe) (hc:X.calm=true) (hi:PI X tg A wi) (hg:PG X tg g) (j:wJ X E tb)
 (hs:∀ x,foldedSetIterable A X.env x=pure x:=by intro _;rfl):PS X (.For tg A E [] pos) (Xn wi g tb):=by
 intro c s σ H D I h;refine wpAny_For (gj (hi c s σ H _ I h) fun v s1 h1=>gj h1 fun ac s2 h2=>?_) hs;obtain ⟨it,fp,tn,J,H2,e,I2,T,ab,f2,W,⟨m0,w0⟩,L⟩:=h2;subst e;have w:∀ {B:Hp},(∀ b∈fp,B b=none)->∀ b∈fp,nA X c B b:=fun hn b j=>⟨hn b j,(f2 b j).2⟩;refine codeAny_forLoop_any (fun n s'=>∃ i q B,Inv X c q B s'/\tn i s'.heap/\(∀ b∈fp,B b=none)/\W i n q B) ?_ m0 ⟨0,σ,H2,I2,ab,fun b j=>(f2 b j).1,w0⟩;rintro n s3 ⟨i,z,R,I3,M,O,w3⟩;rcases L i n z R w3 with ⟨P,qn⟩|⟨go,N,hN,step⟩
 ·refine abX Q (gj (T.done X rfl rfl rfl hc i c s3 z R X.xe I3 (w O) M P) fun r s4 ⟨S,I4⟩=>?_);subst S;exact abW ⟨z,R,I4,qn⟩
 ·refine abX Q (gj (T.item X rfl rfl rfl hc i c s3 z R X.xe I3 (w O) M go) fun r s4 ⟨u,S,h4⟩=>?_);subst S;refine abX Q (gj h4 fun _ s5 ⟨x,H5,I5,r5,y5,F,U⟩=>?_);have aa:=I5.pinned (w U) (T.obj _ _ F);refine abX Q (gj (hg _ s5 z H5 x u _ aa r5 (step x H5 y5)) fun _ s6 ⟨Y,H6,I6,q6⟩=>?_);refine abX Q (gj (j _ s6 Y H6 _ I6 q6) fun f Z C=>?_);have y:∀ {a:St} {l:Hp},Inv X (c++lE fp s5.heap) a l Z->N a l->∃ m,m<n/\∃ i q B,Inv X c q B Z/\tn i Z.heap/\(∀ b∈fp,B b=none)/\W i m q B:=fun {a l} p G=>by obtain ⟨m',hm,w7⟩:=hN a l G;refine ⟨m',hm,i+1,a,l,p.unpinned,T.keep _ _ _ F fun b j o e=>(p.pin (b,o) (aau _ (aau _ (mJ j e)))).1,fun b j=>?_,w7⟩;obtain ⟨o,e,d⟩:=T.obj _ _ F b j;exact (p.pin (b,o) (aau _ (aau _ (mJ j e)))).2.1
  cases f with
  |next=>obtain ⟨a,l,p,G⟩:=C;exact y p G
  |cont=>obtain ⟨a,l,p,G⟩:=C;exact y p G
  |brk=>obtain ⟨a,l,p,C⟩:=C;exact ⟨a,l,p.unpinned,C⟩
  |ret v=>obtain ⟨x7,a,l,p,r7,C⟩:=C;exact ⟨x7,a,l,p.unpinned,r7,C⟩
def xR (b:Nat->St->Hp->Prop) (o:b 0 a H) (hd:∀ a H,b n a H->J.stop n H/\D.nx a H)
 (f:∀ i a H,i<n->b i a H->J.go i H/\∀ x d,J.yld i H x d->g x a d fun c j=>e { D with nx:=b (i+1),ct:=b (i+1),bk:=D.nx } c j):FW J g e D a H:=by
 refine ⟨fun i m a H=>m=n-i/\i≤n/\b i a H,⟨_,rfl,aaR _,o⟩,?_⟩;rintro i m a H ⟨rfl,l,p⟩;rcases Nat.lt_or_eq_of_le l with h|rfl
 ·exact .inr ⟨(f i a H h p).1,b (i+1),fun _ _ z=>⟨_,by omega,rfl,h,z⟩,(f i a H h p).2⟩
 ·exact .inl (hd a H p)
def lY {S:Hp->List V->Prop} {xs:List V} {g:TG} {f:TS} {D:Ends} {a:St} {H:Hp} (b:Nat->St->Hp->Prop) (l:b 0 a H) (d:∀ i a H,i≤xs.length->b i a H->S H xs)
 (m:∀ i x a H,xs[i]?=some x->b i a H->g x a H fun c j=>f { D with nx:=b (i+1),ct:=b (i+1),bk:=D.nx } c j) (hd:∀ a H,b xs.length a H->D.nx a H):FW (W_ S) g f D a H:=
 xR b l (fun a H p=>⟨⟨xs,d _ a H (aae _) p,aae _⟩,hd a H p⟩) fun i a H h p=>⟨⟨xs,xs[i],d i a H (aa1 h) p,by simp [h]⟩,fun x _ ⟨e,y⟩=>by subst e;exact m i x a _ (y xs (d i a _ (aa1 h) p)) p⟩
def oF {lo:Int} {n:Nat} {g:TG} {d:TS} {D:Ends} {a:St} {H:Hp} (b:Nat->St->Hp->Prop) (j:b 0 a H)
 (l:∀ i a H,i<n->b i a H->g (.int (lo+i)) a H fun c f=>d { D with nx:=b (i+1),ct:=b (i+1),bk:=D.nx } c f) (hd:∀ a H,b n a H->D.nx a H):FW (Vy lo n) g d D a H:=
 xR b j (fun a H p=>⟨aae _,hd a H p⟩) fun i a H h p=>⟨h,fun x _ ⟨e,y⟩=>by subst e y;exact l i a _ h p⟩
abbrev R2:=V->V->Hp->VK->Prop
def oH (X:Cx) (f:Value->Value->Sem Value) (r:R2):Prop:=
 ∀ (a:YI) (s:Zp) (b:St) (H:Hp) (x y:V) (v u:ZH) (Q:VK),Inv X a b H s->RelV x v->RelV y u->r x y H Q->
   wpAny (model X.prog X.w) X.A (f v u) (EP X a b Q) X.xe s
def YT (X:Cx) (f:Value->Sem Value) (r:V->Hp->VK->Prop):Prop:=
 ∀ (a:YI) (s:Zp) (b:St) (H:Hp) (x:V) (v:ZH) (Q:VK),Inv X a b H s->RelV x v->r x H Q->
   wpAny (model X.prog X.w) X.A (f v) (EP X a b Q) X.xe s
def jd (X:Cx) (f:ZH) (r:List V->Hp->VK->Prop):Prop:=
 ∀ (a:YI) (s:Zp) (b:St) (H:Hp) (c:List V) (d:Y2) (Q:VK),Inv X a b H s->Vals c d->r c H Q->
   wpAny (model X.prog X.w) X.A (call f d) (EP X a b Q) X.xe s
def Ke (r:R2) (d e:TE):TE:=fun a H Q=>d a H fun x b=>e a b fun y c=>r x y c Q
def Zh (r:V->Hp->VK->Prop) (c:TE):TE:=fun a H Q=>c a H fun x b=>r x b Q
def rI (C:Int->Int->Prop) (g:Int->Int->V):R2:=fun x y H Q=>∃ i j,x=.int i/\y=.int j/\C i j/\Q (g i j) H
def Ka (g:Int->Int->V):R2:=fun x y H Q=>∃ i j,x=.int i/\y=.int j/\Q (g i j) H
def rU (g:Int->V):V->Hp->VK->Prop:=fun x H Q=>∃ i,x=.int i/\Q (g i) H
section
variable {X:Cx} {a b c:ZO} {ta tb tc:TE} {pos:Pos}
def RC (q:PE X a ta) (r:PE X b tb) {d:YI} {s:Zp} {g:St} {H:Hp} {R:V->V->Hp->Prop} (I:Inv X d g H s)
 (h:ta g H fun x m=>tb g m fun y e=>R x y e) {Q:ZU} {f:Value->Value->Sem Value}
 (w:∀ v u l x y e,Inv X d g e l->RelV x v->RelV y u->R x y e->wpAny (model X.prog X.w) X.A (f v u) Q X.xe l) :
 wpAny (model X.prog X.w) X.A (eval a X.env) (fun v i=>wpAny (model X.prog X.w) X.A (eval b X.env) (fun u j=>wpAny (model X.prog X.w) X.A (f v u) Q X.xe j) X.xe i) X.xe s:=by
 refine gj (q d s g H _ I h) fun v n ⟨x,m,o,r1,q1⟩=>?_;refine gj (r d n g m _ o q1) fun u l ⟨y,e,p,r2,q2⟩=>?_;exact w v u l x y e p r1 r2 q2
def fj (m:oH X (binaryOp op) r) (n:PE X a ta) (o:PE X b tb):PE X (.BinOp a op b pos) (Ke r ta tb):=by intro d s l H Q I h;exact wpAny_BinOp (RC n o I h fun v u e x y f g i j q=>m d e l f x y v u Q g i j q)
noncomputable def vg {op:UnaryOp} {r:V->Hp->VK->Prop} (j:YT X (unaryOp op) r) (l:PE X a ta):PE X (.UnaryOp op a pos) (Zh r ta):=by intro d s e H Q I h;exact UnaryOp_ (gj (l d s e H _ I h) fun v f ⟨x,g,i,r1,q1⟩=>j d f e g x v Q i r1 q1)
def VR {f:Value->Value->Sem Value} {C:Int->Int->Prop} {g:Int->Int->Int}
 (d:∀ (i j:Int) (t u:Tok) (s:Zp) (Q:ZU) (E:ZU),C i j->Q (.int (g i j) s.toks) { s with toks:=s.toks+1 }->wpAny (model X.prog X.w) X.A (f (.int i t) (.int j u)) Q E s) :
 oH X f (rI C fun i j=>.int (g i j)):=by
 intro e s p H x y v u Q I n o h;obtain ⟨i,j,rfl,rfl,l,q⟩:=h;obtain ⟨t,rfl⟩:=n;obtain ⟨m,rfl⟩:=o;exact d i j t m s _ _ l ⟨.int (g i j),H,I.tok _,⟨_,rfl⟩,q⟩
def Vv {f:Value->Value->Sem Value} {g:Int->Int->Int}
 (d:∀ (i j:Int) (t u:Tok) (s:Zp) (Q:ZU) (E:ZU),Q (.int (g i j) s.toks) { s with toks:=s.toks+1 }->wpAny (model X.prog X.w) X.A (f (.int i t) (.int j u)) Q E s) :
 oH X f (Ka fun i j=>.int (g i j)):=by
 intro e s o H x y v u Q I m n h;obtain ⟨i,j,rfl,rfl,q⟩:=h;obtain ⟨t,rfl⟩:=m;obtain ⟨l,rfl⟩:=n;exact d i j t l s _ _ ⟨.int (g i j),H,I.tok _,⟨_,rfl⟩,q⟩
def Mx {f:Value->Value->Sem Value} {g:Int->Int->Bool}
 (d:∀ (i j:Int) (t u:Tok) (s:Zp) (Q:ZU) (E:ZU),Q (.bool (g i j)) s->wpAny (model X.prog X.w) X.A (f (.int i t) (.int j u)) Q E s) :
 oH X f (Ka fun i j=>.bl (g i j)):=by
 intro e s o H x y v u Q I m n h;obtain ⟨i,j,rfl,rfl,q⟩:=h;obtain ⟨t,rfl⟩:=m;obtain ⟨l,rfl⟩:=n;exact d i j t l s _ _ ⟨.bl (g i j),H,I,rfl,q⟩
def Yi (i j:Int):Prop:=0<j/\j<1073741824
def SJ (i j:Int):Prop:=0≤j/\j≤1000000/\i.natAbs<2 ^ 64
def Mq (i j:Int):Prop:=(-(2 ^ 64)<i/\i<2 ^ 64)∨(-(2 ^ 64)<j/\j<2 ^ 64)
def Mq.ok (h:Mq i j):IntMulOk i j:=by
 rcases h with ⟨d,e⟩|⟨d,e⟩
 ·exact .of_left (intBits_le_64 d e)
 ·exact .of_right (intBits_le_64 d e)
def j8:oH X (binaryOp .Add) (Ka fun i j=>.int (i+j)):=Vv fun _ _ _ _ _ _ _ q=>add_int q
def wG:oH X (binaryOp .Sub) (Ka fun i j=>.int (i-j)):=Vv fun _ _ _ _ _ _ _ q=>sub_int q
def pA:oH X (binaryOp .Mult) (rI Mq fun i j=>.int (i*j)):=VR fun _ _ _ _ _ _ _ d q=>mul_int q d.ok
noncomputable def Dn:oH X (binaryOp .FloorDiv) (rI Yi fun i j=>.int (i / j)):=VR fun i j _ _ _ _ _ d q=>by have e:(0:Int)<j:=d.1;have f:j<1073741824:=d.2;exact floordiv_int (by omega) (by rw [adi i (by omega)];exact q) (.inl (PyProof.noPylong_small (by omega)))
def o7:oH X (binaryOp .Mod) (rI (fun _ j=>0<j) fun i j=>.int (i % j)):=VR fun i j _ _ _ _ _ d q=>by have e:(0:Int)<j:=d;exact mod_int' (by omega) (by rw [Int.fmod_eq_emod_of_nonneg i (by omega)];exact q)
def zZ:oH X (binaryOp .Pow) (rI SJ fun i j=>.int (i ^ j.toNat)):=VR fun _ _ _ _ _ _ _ d q=>pow_int_small d.1 d.2.1 d.2.2 q
def unI {f:Value->Sem Value} {g:Int->Int}
 (d:∀ (i:Int) (t:Tok) (s:Zp) (Q:ZU) (E:ZU),Q (.int (g i) s.toks) { s with toks:=s.toks+1 }->wpAny (model X.prog X.w) X.A (f (.int i t)) Q E s) :
 YT X f (rU fun i=>.int (g i)):=by
 intro e s l H x v Q I j h;obtain ⟨i,rfl,q⟩:=h;obtain ⟨t,rfl⟩:=j;exact d i t s _ _ ⟨.int (g i),H,I.tok _,⟨_,rfl⟩,q⟩
def q_:YT X (unaryOp .USub) (rU fun i=>.int (-i)):=unI fun _ _ _ _ _ q=>neg_int q
end
noncomputable def PN:V->V->Bool
 |.non,.non=>true|.non,.int _=>true|.int _,.non=>true|.non,.bl _=>true|.bl _,.non=>true|.non,.str _=>true|.str _,.non=>true
 |.int _,.int _=>true|.bl _,.bl _=>true|.str _,.str _=>true|.byt _,.byt _=>true
 |.int _,.str _=>true|.str _,.int _=>true|.bl _,.str _=>true|.str _,.bl _=>true
 |_,_=>false
def rEq:R2:=fun x y H Q=>PN x y=true/\Q (.bl (decide (x=y))) H
def Zc:R2:=fun x y H Q=>PN x y=true/\Q (.bl (!decide (x=y))) H
def De:decide (V.int i=V.int j)=(i == j):=by rw [abp];simp
def I_:decide (V.bl i=V.bl j)=(i == j):=by rw [abp];simp
def Dc:decide (V.str i=V.str j)=(i == j):=by rw [abp];simp
def Dm:decide (V.byt i=V.byt j)=(i.toList == j.toList):=by rw [abp];cases i;cases j;simp
def gk (I:Inv X d f H s) (q:Q (.bl k) H) (e:k=g):EP X d f Q (.bool g) s:=by subst e;exact ⟨.bl k,H,I,rfl,q⟩
theorem jq:oH X (compareOp .Eq) rEq:=by
 intro l s m H x y v u Q I g d h;obtain ⟨f,q⟩:=h;cases x with
 | non=>
   cases g;cases y with
   |non=>cases d;exact PySem.EqNone.eq_none_none (gk I q (by simp))
   |bl j=>cases d;exact PySem.EqNone.eq_none_bool (gk I q (by simp))
   |int j=>obtain ⟨e,rfl⟩:=d;exact PySem.EqNone.eq_none_int (gk I q (by simp))
   |str j=>obtain ⟨e,rfl⟩:=d;exact PySem.EqNone.eq_none_str (gk I q (by simp))
   |_=>exact absurd (show false=true from f) aay
 | bl i=>
   cases g;cases y with
   |non=>cases d;exact PySem.EqNone.eq_bool_none (gk I q (by simp))
   |bl j=>cases d;exact eq_bool (gk I q I_)
   |str j=>obtain ⟨e,rfl⟩:=d;exact PySem.EqMixed.eq_bool_str (gk I q (by simp))
   |_=>exact absurd (show false=true from f) aay
 | int i=>
   obtain ⟨t,rfl⟩:=g;cases y with
   |non=>cases d;exact PySem.EqNone.eq_int_none (gk I q (by simp))
   |int j=>obtain ⟨e,rfl⟩:=d;exact eq_int (gk I q De)
   |str j=>obtain ⟨e,rfl⟩:=d;exact PySem.EqMixed.eq_int_str (gk I q (by simp))
   |_=>exact absurd (show false=true from f) aay
 | str i=>
   obtain ⟨t,rfl⟩:=g;cases y with
   |non=>cases d;exact PySem.EqNone.eq_str_none (gk I q (by simp))
   |bl j=>cases d;exact PySem.EqMixed.eq_str_bool (gk I q (by simp))
   |int j=>obtain ⟨e,rfl⟩:=d;exact PySem.EqMixed.eq_str_int (gk I q (by simp))
   |str j=>obtain ⟨e,rfl⟩:=d;exact eq_str (gk I q Dc)
   |_=>exact absurd (show false=true from f) aay
 | byt i=>
   obtain ⟨t,rfl⟩:=g;cases y with
   |byt j=>obtain ⟨e,rfl⟩:=d;exact PySem.W.eq_bytes (gk I q Dm)
   |_=>exact absurd (show false=true from f) aay
 |_=>cases y <;> exact absurd (show false=true from f) aay
theorem uA:oH X (compareOp .NotEq) Zc:=by
 intro l s m H x y v u Q I g d h;obtain ⟨f,q⟩:=h;cases x with
 | non=>
   cases g;cases y with
   |non=>cases d;exact PySem.EqNone.ne_none_none (gk I q (by simp))
   |bl j=>cases d;exact PySem.EqNone.ne_none_bool (gk I q (by simp))
   |int j=>obtain ⟨e,rfl⟩:=d;exact PySem.EqNone.ne_none_int (gk I q (by simp))
   |str j=>obtain ⟨e,rfl⟩:=d;exact PySem.EqNone.ne_none_str (gk I q (by simp))
   |_=>exact absurd (show false=true from f) aay
 | bl i=>
   cases g;cases y with
   |non=>cases d;exact PySem.EqNone.ne_bool_none (gk I q (by simp))
   |bl j=>cases d;exact ne_bool (gk I q (aax not I_))
   |str j=>obtain ⟨e,rfl⟩:=d;exact PySem.EqMixed.ne_bool_str (gk I q (by simp))
   |_=>exact absurd (show false=true from f) aay
 | int i=>
   obtain ⟨t,rfl⟩:=g;cases y with
   |non=>cases d;exact PySem.EqNone.ne_int_none (gk I q (by simp))
   |int j=>obtain ⟨e,rfl⟩:=d;exact ne_int (gk I q (aax not De))
   |str j=>obtain ⟨e,rfl⟩:=d;exact PySem.EqMixed.ne_int_str (gk I q (by simp))
   |_=>exact absurd (show false=true from f) aay
 | str i=>
   obtain ⟨t,rfl⟩:=g;cases y with
   |non=>cases d;exact PySem.EqNone.ne_str_none (gk I q (by simp))
   |bl j=>cases d;exact PySem.EqMixed.ne_str_bool (gk I q (by simp))
   |int j=>obtain ⟨e,rfl⟩:=d;exact PySem.EqMixed.ne_str_int (gk I q (by simp))
   |str j=>obtain ⟨e,rfl⟩:=d;exact ne_str (gk I q (aax not Dc))
   |_=>exact absurd (show false=true from f) aay
 | byt i=>
   obtain ⟨t,rfl⟩:=g;cases y with
   |byt j=>obtain ⟨e,rfl⟩:=d;exact PySem.W.ne_bytes (gk I q (aax not Dm))
   |_=>exact absurd (show false=true from f) aay
 |_=>cases y <;> exact absurd (show false=true from f) aay
def CP:oH X (compareOp .Lt) (Ka fun i j=>.bl (decide (i<j))):=Mx fun _ _ _ _ _ _ _ q=>lt_int q
def gY:oH X (compareOp .LtE) (Ka fun i j=>.bl (decide (i≤j))):=Mx fun _ _ _ _ _ _ _ q=>le_int q
def uX:oH X (compareOp .Gt) (Ka fun i j=>.bl (decide (j<i))):=Mx fun _ _ _ _ _ _ _ q=>gt_int q
def Oj:oH X (compareOp .GtE) (Ka fun i j=>.bl (decide (j≤i))):=Mx fun _ _ _ _ _ _ _ q=>ge_int q
noncomputable def Ei:oH X (compareOp .In) (fun x y H Q=>∃ i j,x=.str i/\y=.str j/\Q (.bl (!(Builtin.Str.occurrences j i 0 j.length 1).isEmpty)) H):=by intro d s l H x y v u Q I e f h;obtain ⟨i,j,rfl,rfl,q⟩:=h;obtain ⟨t,rfl⟩:=e;obtain ⟨g,rfl⟩:=f;exact in_str (gk I q rfl)
def Hx:oH X (compareOp .Is) (fun x y H Q=>y=.non/\Q (.bl (decide (x=.non))) H):=by
 intro d s g H x y v u Q I e f h;obtain ⟨rfl,q⟩:=h;cases f;refine is_none_gen (gk I q ?_);cases x <;> first
  |(cases e;rfl)
  |(obtain ⟨t,rfl⟩:=e;rfl)
def eV (b:ZO) (h:op≠.In:=by decide) (f:op≠.NotIn:=by decide):behindInMarks op b=false:=by
 have d:(op == CmpOp.In)=false:=by cases op <;> first|rfl|exact absurd rfl h
 have e:(op == CmpOp.NotIn)=false:=by cases op <;> first|rfl|exact absurd rfl f
 cases b <;> simp [behindInMarks,d,e]
noncomputable def ji (m:oH X (compareOp op) r) (n:PE X a z) (o:PE X b c) (p:behindInMarks op b=false):PE X (.Compare a [op] [b] w) (Ke r z c):=by intro d s l H Q I h;exact wpAny_Compare1 (RC n o I h fun v u e x y f g i j q=>m d e l f x y v u Q g i j q) p
def yt (t:TE):TT:=fun d H Q=>t d H fun x e=>∃ k,x=.bl k/\Q k e
noncomputable def d_ {op:CmpOp} {r:R2} (w:oH X (compareOp op) r) (A:PE X a G) (B:PE X b E) (C:behindInMarks op b=false):PT X (.Compare a [op] [b] F) (yt (Ke r G E)):=by intro d s f H Q I h;refine wpAny_isTrue_Compare1 (gj (A d s f H _ I h) fun v g ⟨x,i,j,r1,q1⟩=>gj (B d g f i _ j q1) fun u l ⟨y,m,n,r2,q2⟩=> gj (w d l f m x y v u _ n r1 r2 q2) fun c D ⟨z,o,p,r3,k,e,q⟩=>?_) C;subst e;cases r3;exact aa7 ⟨o,p,q⟩
def BV (r j:R2) (l m n:TE):TE:=fun d H Q=>l d H fun x f=>m d f fun y g=>r x y g fun z e=>∃ k,z=.bl k/\
 (if k=true then n d e fun h i=>j y h i Q else Q (.bl false) e)
theorem uE {op g:CmpOp} {r o:R2} (N:oH X (compareOp op) r) (j:oH X (compareOp g) o) (O:PE X a Y) (P:PE X b U) (R:PE X c T)
 (S:lastMarks [op,g] [b,c]=false:=by with_unfolding_all rfl):PE X (.Compare a [op,g] [b,c] W) (BV r o Y U T):=by
 intro f s i H Q I h;refine Compare_chain (gj (O f s i H _ I h) fun v p ⟨x,q,w,r1,q1⟩=>chain_link (gj (P f p i q _ w q1) fun u A ⟨y,B,C,r2,q2⟩=> gj (N f A i B x y v u _ C r1 r2 q2) fun d D ⟨z,l,m,r3,k,e,n⟩=>?_)) S;subst e;cases r3;refine aa7 ?_;cases k with
 |false=>exact ite_ff ⟨.bl false,l,m,rfl,n⟩
 |true=>exact ite_tt (chain_last (gj (R f D i l _ m n) fun E F ⟨G,J,L,r4,M⟩=>j f F i J y G u E Q L r2 r4 M))
theorem kZ {op g:CmpOp} {r o:R2} (U:oH X (compareOp op) r) (j:oH X (compareOp g) o) (W:PE X a ta) (Y:PE X b tb) (Z:PE X c tc)
 (hm:lastMarks [op,g] [b,c]=false:=by with_unfolding_all rfl):PT X (.Compare a [op,g] [b,c] pos) (yt (BV r o ta tb tc)):=by
 intro f s i H Q I h;refine isTrue_chain (gj (W f s i H _ I h) fun v p ⟨x,q,w,r1,q1⟩=>test_link (gj (Y f p i q _ w q1) fun u A ⟨y,B,C,r2,q2⟩=> gj (U f A i B x y v u _ C r1 r2 q2) fun d D ⟨z,l,m,r3,k,e,n⟩=>?_)) hm;subst e;cases r3;refine aa7 ?_;cases k with
 | false=>obtain ⟨k',S,T⟩:=n;cases S;exact ite_ff ⟨l,m,T⟩
 | true=>refine ite_tt (test_last (gj (Z f D i l _ m n) fun E F ⟨G,J,L,r4,M⟩=>gj (j f F i J y G u E _ L r2 r4 M) fun d' s5 ⟨z2,N,O,r5,k2,P,R⟩=>?_));subst P;cases r5;exact aa7 ⟨N,O,R⟩
def qJ:(sizeLine:Nat)<2 ^ 63:=by rw [sizeLine_eq];decide
noncomputable def gU:oH X (binaryOp .Add) (fun x y H Q=>∃ i j,x=.str i/\y=.str j/\i.length+j.length≤sizeLine/\Q (.str (i++j)) H):=by intro d s m H x y v u Q I g l h;obtain ⟨i,j,rfl,rfl,f,q⟩:=h;obtain ⟨t,rfl⟩:=g;obtain ⟨e,rfl⟩:=l;exact add_str (fun e tk=>⟨.str (i++j),H,I.tok _,⟨_,rfl⟩,q⟩) f
theorem vals1 (r:Vals [x] d):∃ u,d=[u]/\RelV x u:=by
 cases r with
 |cons r1 r2=>cases r2;exact ⟨_,rfl,r1⟩
def Er:jd X (.type "int") (fun d H Q=>(∃ i,d=[.int i]/\Q (.int i) H)∨∃ k,d=[.bl k]/\Q (.int (if k then 1 else 0)) H):=by
 intro e s f H d g Q I r h;rcases h with ⟨i,rfl,q⟩|⟨k,rfl,q⟩
 ·obtain ⟨u,rfl,t,rfl⟩:=vals1 r;exact call_int_int ⟨.int i,H,I,⟨_,rfl⟩,q⟩
 ·obtain ⟨u,rfl,r1⟩:=vals1 r;cases r1;exact call_int_bool ⟨.int (if k then 1 else 0),H,I.tok _,⟨_,rfl⟩,q⟩
noncomputable def wL:jd X (.type "str") (fun d H Q=>∃ i,d=[.int i]/\i.natAbs.log2<1920/\Q (.str (toString i)) H):=by intro e s g H d j Q I r h;obtain ⟨i,rfl,f,q⟩:=h;obtain ⟨u,rfl,t,rfl⟩:=vals1 r;exact PySem.P.str_of_int f ⟨.str _,H,I.tok _,⟨_,rfl⟩,q⟩
structure Ay (h:ZI) (x dx C:Zl) (mA:ZY):Prop where
 obj:h.get? x=some (PySem.W.instObj C dx)
 ns:h.Ns1 dx mA
 ne:dx≠x
set_option tactic.hygienic true in
def qH {h:ZI} {g:ZY} (n:h.Ns1 f g):∃ od,h.get? f=some od/\∀ b,PySem.W.lookIn b od=some (g b):=by
 obtain ⟨o,d,p,j,hd,hk,_,l⟩:=n;refine ⟨o,j,fun b=>?_⟩;have e:=l b;unfold nsFind findBy at e;rw [← Array.find?_toList] at e;unfold PySem.W.lookIn;rw [hd];dsimp only;split
 ·rename_i y q;rw [q] at e;exact aax some e
 ·rename_i q;rw [q] at e;have a:d.toList.any (·.refKey)=false:=by rw [abY];intro y m;obtain ⟨z,t,c⟩:=hk y (Array.mem_toList_iff.mp m);simp [DictEntry.refKey,c]
  have i:¬ d.toList.any (·.refKey)=true:=by rw [a];exact aay
  rw [aab i];exact aax some e
def Ay.look (I:Ay h x b C c):∃ od,PySem.W.InstAt h x (PySem.W.instObj C b) C (some od)/\∀ a,PySem.W.lookIn a od=some (c a):=
 let ⟨od,d,e⟩:=qH I.ns
 ⟨od,⟨I.obj,rfl,rfl,d⟩,e⟩
section
variable {prog:ZB} {w:ZE} {A:ZN} {E:ZU} {s:Zp} {K:Zs} {x dx C f:Zl} {mA:ZY} {name:Str} {v:ZH}
def Mg {a:Bool} {Q:ZU} (X:K.In s.heap) (I:Ay s.heap x dx C mA) (d:PySem.W.plainGet K C name=true) (e:PySem.W.hasDictIn K C=true)
 (g:PySem.W.findIn K (.ref C) name=some none) (i:mA name=some v) (b:PySem.W.handedIn v=true) (h:Q v { s with toks:=s.toks+1 }) :
 wpAny (model prog w) A (getAttr (.ref x) name a) Q E s:=by
 obtain ⟨od,J,c⟩:=I.look;exact PySem.W.get_value X J (acP d).1 (PySem.W.findObj_own e g rfl (by rw [c,i])) b h
def J7 (X:K.In s.heap) (I:Ay s.heap x dx C mA) (a:PySem.W.plainGet K C name=true)
 (d:PySem.W.findIn K (.ref C) name=some (some (.ref f))) (e:PySem.W.isFn K (.ref f)=true) (g:mA name=none) (h:Q (.ref f,[.ref x]) s) :
 wpAny (model prog w) A (getMethod (.ref x) name c) Q E s:=by
 obtain ⟨od,J,b⟩:=I.look;exact PySem.W.method_fn X J (acP a).1 (acP a).2 d (aaW.mp e) (by show (PySem.W.lookIn name od).map (·.isSome)=some false;rw [b,g];rfl) h
def O2 (X:K.In s.heap) (I:Ay s.heap x dx C mA)
 (z:PySem.W.findIn K (.ref C) "__setattr__" = some (some (.builtin "object.__setattr__"))) (B:PySem.W.plainOver K C=true) (D:PySem.W.takerIn K C name=some none) (F:PySem.W.hasDictIn K C=true)
 (G:PySem.Within mA m) (H:m.length≤sizeLine)
 (h:∀ e,Ay e x dx C (fun y=>if y=name then some v else mA y)->Heap.SameBut dx s.heap e->Q () { s with heap:=e,toks:=s.toks+2 }) :
 wpAny (model prog w) A (setAttr (.ref x) name v) Q E s:=by
 obtain ⟨od,J,L⟩:=I.look;refine PySem.W.set_plain X J z (PySem.W.osa_open (s:={ s with toks:=s.toks+1 }) (r:=none) X J B D fun b=>?_);obtain ⟨cd,o,g⟩:=PySem.W.any_some F;have n:s.heap.get? x=some ⟨.ref C,some dx,.plain,#[]⟩:=I.obj;refine aaa (aad (aaa (aaa (abZ n (aaa (PySem.W.Looks.here (s:={ s with toks:=s.toks+1 }) (PySem.W.looks_clsIn X o) ?_))))));rw [g];refine aad (a:=some dx) (aaa (aad (aaa ?_)));refine wpAny_nsSet1 (s:={ s with toks:=s.toks+1 }) I.ns fun e c d=>?_;obtain ⟨M,p,q,i,j,l⟩:=c.count (acQ name v G);refine aaa (wpAny_lookBehind i (by rw [j];exact pastItsLine_dict (aaj l (by rw [aaA];omega))) ?_);exact aad (h _ ⟨(d.2 _ (aas I.ne)).trans I.obj,c,I.ne⟩ d)
def zQ (X:K.In s.heap) (c:PySem.W.makesIn K C=true)
 (e:PySem.W.findIn K (.ref C) "__init__" = some (some (.ref f))) (i:PySem.W.typeIn K (.ref f)=some (.type "function"))
 (h:codeAny (model prog w) (A.under (.builtin "type.__call__" ⟨.ref C::vs,b⟩)) (.call (.ref f) ⟨.ref (s.heap.objs.size+1)::vs,b⟩) (PySem.W.InitBack (s.heap.objs.size+1) R) { s with heap:=(s.heap.push PySem.W.emptyDict).push (PySem.W.instObj C s.heap.objs.size) }) :
 codeAny (model prog w) A (.call (.ref C) ⟨vs,b⟩) R s:=by
 obtain ⟨j,g,d,t,l⟩:=s;exact PySem.W.make_core (PySem.W.makes_of X c) (acR X e) (fun a=>PySem.W.bind_fn X a i) (.inl rfl) h
end
noncomputable def gG (f:Str) (v:V):List (Str×V)->List (Str×V)
 |[]=>[(f,v)]
 |(g,x)::r=>if g=f then (g,v)::r else (g,x)::gG f v r
theorem h_ (f g:Str) (v:V):∀ fs:List (Str×V),(gG f v fs).lookup g=if g=f then some v else fs.lookup g
 | []=>by
   show List.lookup g [(f,v)]=_;by_cases h:g=f
   ·have a:(g == f)=true:=aaW.mpr h;simp only [List.lookup,a,aac h]
   ·have a:(g == f)=false:=aby.mpr h;simp only [List.lookup,a,aab h]
 | (k,x)::r=>by
   have b:=h_ f g v r;rw [show gG f v ((k,x)::r)=(if k=f then (k,v)::r else (k,x)::gG f v r) from rfl];by_cases hk:k=f
   ·rw [aac hk];by_cases h:g=k
    ·have a:(g == k)=true:=aaW.mpr h;simp only [List.lookup,a,aac (h.trans hk)]
    ·have a:(g == k)=false:=aby.mpr h;simp only [List.lookup,a,aab (fun e:g=f=>h (e.trans hk.symm))]
   ·rw [aab hk];by_cases h:g=k
    ·have a:(g == k)=true:=aaW.mpr h;simp only [List.lookup,a,aab (fun e:g=f=>hk (h.symm.trans e))]
    ·have a:(g == k)=false:=aby.mpr h;simp only [List.lookup,a];exact b
theorem lV (f:Str) (v:V):∀ fs:List (Str×V),f∈(gG f v fs).map (·.1)/\∀ g,g∈fs.map (·.1)->g∈(gG f v fs).map (·.1)
 |[]=>⟨by simp [gG],fun g h=>by simp at h⟩
 | (k,x)::r=>by
   obtain ⟨a,b⟩:=lV f v r;rw [show gG f v ((k,x)::r)=(if k=f then (k,v)::r else (k,x)::gG f v r) from rfl];by_cases hk:k=f
   ·rw [aac hk];subst hk;exact ⟨by simp,fun g h=>by simpa using h⟩
   ·rw [aab hk];refine ⟨?_,fun g h=>?_⟩
    ·rw [aaw];exact aan _ a
    ·rw [aaw] at h ⊢;rcases aah.mp h with e|e
     ·exact aah.mpr (.inl e)
     ·exact aan _ (b g e)
theorem rG (f:Str) (v:V):∀ fs:List (Str×V),(gG f v fs).length≤fs.length+1
 |[]=>by simp [gG]
 | (k,x)::r=>by
   have a:=rG f v r;rw [show gG f v ((k,x)::r)=(if k=f then (k,v)::r else (k,x)::gG f v r) from rfl];by_cases hk:k=f
   ·rw [aac hk,aaA,aaA];omega
   ·rw [aab hk,aaA,aaA];omega
theorem lQ.some_of (r:lQ (some v) o):∃ u,o=some u/\RelV v u:=by
 cases o with
 |none=>exact (show False from r).elim
 |some u=>exact ⟨u,rfl,r⟩
theorem lQ.none_of (r:lQ none o):o=none:=by
 cases o with
 |none=>rfl
 |some u=>exact (show False from r).elim
theorem wj (r:RelV v u):PySem.W.handedIn u=true:=by
 cases v with
 |non=>cases (show u=Value.none from r);rfl
 |bl b=>cases (show u=Value.bool b from r);rfl
 |int i=>obtain ⟨t,e⟩:=(show ∃ t,u=Value.int i t from r);cases e;rfl
 |str x=>obtain ⟨t,e⟩:=(show ∃ t,u=Value.str x t from r);cases e;rfl
 |byt b=>obtain ⟨t,e⟩:=(show ∃ t,u=Value.bytes b t from r);cases e;rfl
 |flt b=>obtain ⟨t,e⟩:=(show ∃ t,u=Value.float b t from r);cases e;rfl
 |ref a=>cases (show u=Value.ref a from r);rfl
 |ty n=>cases (show u=Value.type n from r);rfl
noncomputable def sI (c:nJ P w H h) (e:H a=some (.ins C i fs)):∃ b,Ay h a i C b/\(∀ f,lQ (fs.lookup f) (b f))/\PySem.Within b (fs.map (·.1))/\fs.length≤1000/\H i=some (.own a):=by obtain ⟨d,z,ne,g,b,n,r,q⟩:=(show gr P w H h a (.ins C i fs) from c a _ e);exact ⟨b,⟨g,n,ne⟩,r,q,z,d⟩
structure vy (K:Zs) (C:Zl):Prop where
 pg:PySem.W.plainGet K C Str.empty=true
 hd:PySem.W.hasDictIn K C=true
 po:PySem.W.plainOver K C=true
 sa:PySem.W.findIn K (.ref C) "__setattr__" = some (some (.builtin "object.__setattr__"))
def vy.get {K:Zs} {C:Zl} (c:vy K C) (f:Str):PySem.W.plainGet K C f=true:=c.pg
def eO (K:Zs) (C:Zl) (f:Str):Prop:=PySem.W.findIn K (.ref C) f=some none
def eO.taker {K:Zs} {C:Zl} {f:Str} (n:eO K C f):PySem.W.takerIn K C f=some none:=by unfold PySem.W.takerIn;rw [show PySem.W.findIn K (.ref C) f=some none from n];rfl
structure Meth (K:Zs) (C:Zl) (m:Str) (f:Zl):Prop where
 at_:PySem.W.findIn K (.ref C) m=some (some (.ref f))
 fn:PySem.W.isFn K (.ref f)=true
 kp:PySem.W.keepIn K (.ref f)=true
section
variable {X:Cx} {dR:YI} {σ:St} {H:Hp} {s:Zp} {a C dx:Zl} {fs:List (Str×V)} {f:Str} {v:V} {A:ZN} {E:ZU}
def Bl (I:Inv X dR σ H s) (e:H a=some (.ins C dx fs)) (c:vy X.K C) (n:eO X.K C f) (l:fs.lookup f=some v)
 (h:∀ u d,Inv X dR σ H d->RelV v u->Q u d):wpAny (model X.prog X.w) A (getAttr (.ref a) f b) Q E s:=by
 obtain ⟨i,O,r,_,_,_⟩:=sI I.hok e;obtain ⟨u,j,g⟩:=lQ.some_of (v:=v) (o:=i f) (by rw [← l];exact r f);exact Mg I.kIn O (c.get f) c.hd n j (wj g) (h u _ (I.tok _) g)
def mU (I:Inv X dR σ H s) (e:H a=some (.ins C dx fs)) (c:vy X.K C) (k:Meth X.K C m g) (l:fs.lookup m=none)
 (h:Q (.ref g,[.ref a]) s):wpAny (model X.prog X.w) A (getMethod (.ref a) m i) Q E s:=by
 obtain ⟨d,O,r,_,_,_⟩:=sI I.hok e;have b:d m=none:=lQ.none_of (by rw [← l];exact r m);exact J7 I.kIn O (c.get m) k.at_ k.fn b h
def Cd (I:Inv X dR σ H s) (e:H a=some (.ins C dx fs)) (c:vy X.K C) (n:eO X.K C f) (L:fs.length<1000) (J:RelV y u)
 (h:∀ i,Inv X dR σ (upd H a (.ins C dx (gG f y fs))) i->Q () i):wpAny (model X.prog X.w) A (setAttr (.ref a) f u) Q E s:=by
 obtain ⟨j,O,r,l,_,m⟩:=sI I.hok e;have F:(fs.map (·.1)).length≤sizeLine:=by rw [aag,sizeLine_eq];omega
 refine O2 I.kIn O c.sa c.po n.taker c.hd l F fun p d w=>h _ ?_;have hd:∃ o,p.get? dx=some o:=let ⟨o,_,_,G,_⟩:=d.ns;⟨o,G⟩
 refine I.write (x:=a) (e:=dx) (by rw [e];exact aaF) (.inr m) (fun b q B z=>(w.2 b B).trans z) hd ?_;refine ⟨by rw [bK O.ne];exact m,?_,O.ne,d.obj,_,d.ns,fun g=>?_,fun g D=>?_⟩
 ·have:=rG f y fs;omega
 ·show lQ ((gG f y fs).lookup g) (if g=f then some u else j g);rw [h_];by_cases q:g=f
  ·rw [aac q,aac q];exact J
  ·rw [aab q,aab q];exact r g
 ·by_cases q:g=f
  ·rw [q];exact (lV f y fs).1
  ·refine (lV f y fs).2 g (l g fun z=>D ?_);show (if g=f then some u else j g)=none;rw [aab q];exact z
def Inv.made (I:Inv X dR σ H s):Inv X dR σ (upd (upd H s.heap.objs.size (.own (s.heap.objs.size+1))) (s.heap.objs.size+1) (.ins C s.heap.objs.size []))
 { s with heap:=(s.heap.push PySem.W.emptyDict).push (PySem.W.instObj C s.heap.objs.size) }:=by
 have c:(s.heap.push PySem.W.emptyDict).get? s.heap.objs.size=some PySem.W.emptyDict:=aav s.heap rfl;have h:((s.heap.push PySem.W.emptyDict).push (PySem.W.instObj C s.heap.objs.size)).get? (s.heap.objs.size+1)=some (PySem.W.instObj C s.heap.objs.size):=by
  have:=aav (s.heap.push PySem.W.emptyDict) (o:=PySem.W.instObj C s.heap.objs.size) rfl
  rwa [abq] at this
 have i:(s.heap.push PySem.W.emptyDict).Ns s.heap.objs.size (fun _=>none):=⟨PySem.W.emptyDict,#[],_,c,rfl,(fun e d=>absurd d (by simp)),fun _=>rfl⟩;have j:=I.laid (a:=s.heap.objs.size) (o:=.own (s.heap.objs.size+1)) (h':=s.heap.push PySem.W.emptyDict) (t':=s.toks) (fun b u q=>aai _ q) (aae _) ⟨_,c⟩;refine j.laid (a:=s.heap.objs.size+1) (o:=.ins C s.heap.objs.size []) (t':=s.toks) (fun b u q=>aai _ q) (abA (abq _ _)) ?_;have ne:s.heap.objs.size≠s.heap.objs.size+1:=aal (abt _);refine ⟨by rw [bK ne,a_],aaR _,ne,h,fun _=>none,(acS i).at fun o q=>aai _ q,fun _=>aaF,fun y g=>absurd rfl g⟩
def Dp (g:attributeBase e f env (eval e env)=eval e env)
 (h:wpAny (model b w) A (eval e env) (fun o c=>wpAny (model b w) A (getAttr o f true) Q E c) E s):wpAny (model b w) A (eval (.Attribute e f d) env) Q E s:=
 Attribute_any_ h (by rw [arm_eval_Attribute,g])
end
def Uh (K:Zs) (e:TE) (f:Str):TE:=fun c H Q=>e c H fun x b=>∃ a C d fs v,x=.ref a/\b a=some (.ins C d fs)/\vy K C/\eO K C f/\fs.lookup f=some v/\Q v b
def Y4 (K:Zs) (g h:TE) (f:Str):TS:=fun D b H=>h b H fun y e=>g b e fun x c=>∃ a C d fs,x=.ref a/\c a=some (.ins C d fs)/\vy K C/\eO K C f/\fs.length<1000/\
 D.nx b (upd c a (.ins C d (gG f y fs)))
noncomputable def dN {X:Cx} (y:PE X e F) (z:attributeBase e f X.env (eval e X.env)=eval e X.env):PE X (.Attribute e f o) (Uh X.K F f):=by intro b s w H Q I h;refine Dp z (gj (y b s w H _ I h) fun u A ⟨x,d,g,i,a,C,B,fs,v,j,m,c,n,l,q⟩=>?_);subst j;obtain rfl:u=Value.ref a:=i;exact Bl g m c n l fun D E p r=>⟨v,d,p,r,q⟩
noncomputable def dO {X:Cx} {N:Pos} (B:PE X o Q) (E:PE X e P) (F:swapsWith e (some (.Attribute o f O)) N.line X.env=pure false):PS X (.Assign [.Attribute o f O] e N) (Y4 X.K Q P f):=by intro b s d H D I h;refine plainObj_wpAny_Assign_Attribute (gj (E b s d H _ I h) fun u g ⟨y,i,j,m,q⟩=>gj (B b g d i _ j q) fun p G ⟨x,J,r,v,a,C,L,fs,w,z,c,n,l,q2⟩=>?_) F;subst w;obtain rfl:p=Value.ref a:=v;exact Cd r z c n l m fun M A=>⟨d,_,A,q2⟩
def OD {X:Cx} {v:Sem Bool} {m:Str} {d:Pos} {b:YR} {i:YI} {s:Zp} {p:St} {H:Hp} {Q:ZU} {A:TE} (F:PE X e A) (I:Inv X i p H s)
 (h:A p H fun x r=>∃ a C y fs g,x=.ref a/\r a=some (.ins C y fs)/\vy X.K C/\Meth X.K C m g/\fs.lookup m=none/\ ∀ n,Inv X i p r n->wpAny (model X.prog X.w) X.A (callWith o (.ref g) [.ref a] (backTo o (starEach b X.env)) (backToKw o (keywordEach [] X.env))) Q X.xe n)
 (G:eval (.Call (.Attribute e m d) b [] o) X.env=(do
  let z ← eval e X.env
  standAt d.atName
  let (f,j) ← holding [z] (getMethod z m v)
  callWith o f j (backTo o (starEach b X.env)) (backToKw o (keywordEach [] X.env)))) :
 wpAny (model X.prog X.w) X.A (eval (.Call (.Attribute e m d) b [] o) X.env) Q X.xe s:=by
 refine acm (pl:=v) (gj (F i s p H _ I h) fun u n ⟨x,r,w,B,a,C,y,fs,g,D,E,c,k,l,q⟩=>?_) G;subst D;obtain rfl:u=Value.ref a:=B;exact mU w E c k l (q n w)
structure eX (k:Nat) (A:ZN):Prop where
 hd:A.handled=none
 dp:A.depth+3*k+5<recursionLimit
 un:A.units+16*k+200<cLine
 gd:A.guards=some []
def eX.mono (r:eX k A) (h:j≤k):eX j A:=⟨r.hd,by have:=r.dp;omega,by have:=r.un;omega,r.gd⟩
def eX.deeper (r:eX (k+1) A) (env:Env):eX k (A.deeper env):=
 ⟨r.hd,by have:=r.dp;show A.depth+1+3*k+5<_;omega,by have:=r.un;show A.units+3+16*k+200<_;omega,r.gd⟩
def eX.in1 (r:eX (k+1) A):eX k A.in1:=
 ⟨r.hd,by have:=r.dp;show A.depth+3*k+5<_;omega,by have:=r.un;show A.units+1+16*k+200<_;omega,r.gd⟩
def BJ {A:ZN}:(A.under (.builtin "type.__call__" ⟨.ref C::a,b⟩)).depth=A.depth+1:=by first|rfl|simp [Around.under,Code.weight,Code.isCreation,Code.isGuard,Code.isCaller,Code.frames,Code.isFrame,guardIds]
def Ag {A:ZN}:(A.under (.builtin "type.__call__" ⟨.ref C::a,b⟩)).units=A.units+1:=by first|rfl|simp [Around.under,Code.cUnits,Code.frames,Code.isFrame]
def eX.make (r:eX (k+1) A) (C:Zl) (a:Y2) (b:List (Str×Value)):eX k (A.under (.builtin "type.__call__" ⟨.ref C::a,b⟩)):=
 ⟨r.hd,by have:=r.dp;rw [BJ];omega,by have:=r.un;rw [Ag];omega,by have:=r.gd;first|exact this|(simpa [Around.under] using this)⟩
def eX.depth (r:eX k A):A.depth<recursionLimit:=by have:=r.dp;omega
def eX.units (r:eX k A):A.units+64<cLine:=by have:=r.un;omega
def iV:TA:=fun _ H Q=>Q [] H
def fV (e:TE) (f:TA):TA:=fun a H Q=>e a H fun x b=>f a b fun c d=>Q (x::c) d
def d9:PA X [] iV:=fun _ _ _ _ H Q I h=>Calls.spliced_nil ⟨[],H,I,.nil,h⟩
noncomputable def aK {X:Cx} (m:PE X e v) (n:PA X r t) (o:starEach (e::r) X.env=(false,eval e X.env)::starEach r X.env:=by rfl):PA X (e::r) (fV v t):=by intro b a s c H Q I h;rw [o];show wpAny _ _ (spliced ((false,eval e X.env)::backTo b (starEach r X.env))) _ _ s;refine Calls.spliced_cons (gj (m a s c H _ I h) fun u d ⟨x,f,g,r1,q1⟩=>?_);exact gj (n b a d c f _ g q1) fun p q ⟨i,j,l,r2,q2⟩=>⟨x::i,j,l,.cons r1 r2,q2⟩
def sE (t:TA):TE:=fun c H Q=>t c H fun a b=>a.length≤sizeLine/\∀ p,b p=none->Q (.ref p) (upd b p (.tup a))
def U4 (t:TA):TE:=fun c H Q=>t c H fun a b=>a.length≤sizeLine/\∀ p,b p=none->Q (.ref p) (upd b p (.lst a))
noncomputable def gA {x1} (h:PA X o t):PE X (.Tuple o x1 n) (sE t):=by intro a s l H Q I m;refine wpAny_Tuple_spliced (gj (h n a s l H _ I m) fun g c ⟨i,d,f,r,z,q⟩=>⟨by rw [← r.length];exact z,?_⟩);have j:d c.heap.objs.size=none:=f.hok.fresh (aae _);refine ⟨.ref c.heap.objs.size,upd d c.heap.objs.size (.tup i),f.laid (t':=c.toks) (fun b u e=>aai _ e) (aae _) ?_,rfl,q _ j⟩;exact ⟨z,g,r,⟨_,aav _ rfl,rfl,_,rfl⟩⟩
noncomputable def gb (h:PA X o t):PE X (.List o n) (U4 t):=by intro a s l H Q I m;refine wpAny_List_spliced (gj (h n a s l H _ I m) fun g c ⟨i,d,f,r,z,q⟩=>⟨by rw [← r.length];exact z,?_⟩);have j:d c.heap.objs.size=none:=f.hok.fresh (aae _);refine ⟨.ref c.heap.objs.size,upd d c.heap.objs.size (.lst i),f.laid (t':=c.toks) (fun b u e=>aai _ e) (aae _) ?_,rfl,q _ j⟩;exact ⟨z,g,0,r,aav _ rfl⟩
abbrev Sp:=List V->Hp->VK->XK->Prop
abbrev rK:=List Env->Hp->Shared->XK->Value->Shared->Prop
structure ye (P:ZB) (w:ZE) (K:Zs) (mg:ZY) (base:ZI) (A:ZN) (outer:List Env) (s:Zp) (H:Hp):Prop where
 frames:A.frames=some outer
 mod:Mod K mg base
 bs:∀ b o,base.get? b=some o->s.heap.get? b=some o/\H b=none
 bsz:base.objs.size≤s.heap.objs.size
 funs:s.heap.FunFrames base outer
 frf:∀ b∈frs outer,H b=none
 hok:nJ P w H s.heap
 bare:AllBare s.gens
def CE (a:List Env) (P:ZB) (w:ZE) (H:Hp) (s:Zp) (Q:VK) (u:ZH) (b:Zp):Prop:=
 ∃ v c,b.os=s.os/\AllBare b.gens/\Un (frs a) [] H c s.heap b.heap/\nJ P w c b.heap/\RelV v u/\Q v c
def CR (c:rK) (a:List Env) (P:ZB) (w:ZE) (H:Hp) (s:Zp) (Q:VK) (E:XK) (r:Result) (b:Zp):Prop:=
 match r with
 |.ok (.ret u)=>CE a P w H s Q u b
 |.ok _=>False
 |.error e=>c a H s E e b
structure dw (P:ZB) (w:ZE) (K:Zs) (mg:ZY) (base:ZI) (CX:rK) (k:Nat) (f:Zl) (fd:ZA) (ps:Y1) (sp:Sp):Prop where
 len:∀ vs H Q E,sp vs H Q E->vs.length=ps.length
 run:∀ (A:ZN) (outer:List Env) (s:Zp) (H:Hp) (args:Args) (us:Y2) (vs:List V) (Q:VK) (E:XK),eX k A->ye P w K mg base A outer s H->BindsTo s fd args (ps.zip us)->Vals vs us->sp vs H Q E->
  codeAny (model P w) A (.call (.ref f) args) (CR CX outer P w H s Q E) s
def ye.make {P:ZB} {w:ZE} {K:Zs} {c:ZY} {b:ZI} {A:ZN} {a:List Env} {s:Zp} {H:Hp} (e:ye P w K c b A a s H) (C:Zl) (d:Y2) (f:List (Str×Value)) :
 ye P w K c b (A.under (.builtin "type.__call__" ⟨.ref C::d,f⟩)) a s H:=⟨by first|exact e.frames|(simpa [Around.under,Code.envs,Code.isFrame,pushEnvs] using e.frames),e.mod,e.bs,e.bsz,e.funs,e.frf,e.hok,e.bare⟩
def Inv.env0 (I:Inv X a b H s):ye X.prog X.w X.K X.mg X.base X.A X.stack s H:=
 ⟨I.ok.frames,I.ok.mod,I.bs,aaj I.ok.bsz I.sz,I.stack,I.stkFree,I.hok,I.bare⟩
noncomputable def Inv.after (I:Inv X l n H s) (h:CE X.stack X.prog X.w H s Q u m):EP X l n Q u m:=by obtain ⟨v,f,i,a,un,c,r,q⟩:=h;obtain ⟨j,g,d,t,e⟩:=m;obtain rfl:e=s.os:=i;exact ⟨v,f,I.call (h':=j) (g':=g) (d':=d) (t':=t) (ch:=[]) un c a (fun b z=>absurd z (by simp)),r,q⟩
def IV (d:Sp) (a:List V) (E:XK) (t:TA):TE:=fun b H Q=>t b H fun vs c=>d (vs++a) c Q E
def m_ (C:Zl) (m:Str) (g:Sp) (b:List V) (E:XK) (h:TE) (t:TA):TE:=fun c H Q=>h c H fun x d=>∃ a f fs,x=.ref a/\d a=some (.ins C f fs)/\fs.lookup m=none/\
 t c d fun vs e=>g (x::(vs++b)) e Q E
def Om (C:Zl) (f:Sp) (c:List V) (E:XK) (t:TA):TE:=fun d H Q=>t d H fun vs b=>∀ x a,b x=none->b a=none->a≠x->
 f (.ref x::(vs++c)) (upd (upd b a (.own x)) x (.ins C a [])) (fun v e=>v=.non/\Q (.ref x) e) E
def Binds (K:Zs) (d:ZA) (b:Y1) (c:Y2):Prop:=
 ∀ (s:Zp) (a:Y2),K.In s.heap->(a++c).length=b.length->BindsTo s d ⟨a,[]⟩ (b.zip (a++c))
def Binds.all {K:Zs} {d:ZA} {b:Y1} (h:∀ a:List Value,a.length=b.length->bindArgs d ⟨a,[]⟩=pure (b.zip a)):Binds K d b []:=fun s a _ c=>by rw [aaO] at c ⊢;exact .of_eq (h a c)
def gJ (d:rK) (X:Cx) (E:XK):Prop:=∀ (a:YI) (c:St) (H:Hp) (s:Zp) (e:ZH) (b:Zp),Inv X a c H s->d X.stack H s E e b->X.xe e b
section
variable {X:Cx} {CX:rK} {k:Nat} {f C:Zl} {fd:ZA} {ps:Y1} {sp:Sp} {dvs:List V} {ds:Y2} {E:XK} {x m:Str} {p pos apos:Pos} {e o:ZO} {es:YR} {ta:TE} {t:TA}
theorem uC (F:dw X.prog X.w X.K X.mg X.base CX k f fd ps sp) (j:eX k X.A) (l:Binds X.K fd ps ds) (hd:Vals dvs ds) (n:gJ CX X E)
 (I:Inv X a c H s) (r:Vals vs us) (h:sp (vs++dvs) H Q E):wpAny (model X.prog X.w) X.A (call (.ref f) us) (EP X a c Q) X.xe s:=by
 have r2:Vals (vs++dvs) (us++ds):=r.append hd;have g:(us++ds).length=ps.length:=by rw [← r2.length];exact F.len _ _ _ _ h
 refine aa8 (codeAny_mono (F.run X.A X.stack s H ⟨us,[]⟩ (us++ds) (vs++dvs) Q E j I.env0 (l s us I.kIn g) r2 h) fun r d b=>?_);cases r with
 |error e=>exact n a c H s e d I b
 | ok i=>
   cases i with
   |ret u=>exact I.after b
   |next=>exact False.elim b
   |brk=>exact False.elim b
   |cont=>exact False.elim b
def eY (F:dw X.prog X.w X.K X.mg X.base CX k f fd ps sp) (i:eX k X.A) (j:Gl X x) (l:X.mg x=some (.ref f)) (hk:PySem.W.keepIn X.K (.ref f)=true) (n:Binds X.K fd ps ds) (hd:Vals dvs ds) (v:gJ CX X E)
 (w:PA X (e::es) t) (b:(x == ("__debug__" : Str))=false:=by decide) (y:starEach (e::es) X.env=(false,eval e X.env)::starEach es X.env:=by rfl) (c:(backTo pos (starEach es X.env)).any (·.1)=false:=by rfl) :
 PE X (.Call (.Name x p) (e::es) [] pos) (IV sp dvs E t):=by
 intro a s g H Q I h;refine aa9 (kE I j l ?_ b);refine acT (h₀:=X.base) I.ok.mod.kin hk (gj (w pos a s g H _ I h) fun z A ⟨vs,B,d,r,q⟩=>⟨d.kIn,?_⟩) y c;exact uC F i n hd v d r q
def jh {g:Sem Bool} (M:PE X o ta) (c:vy X.K C) (A:Meth X.K C m f) (F:dw X.prog X.w X.K X.mg X.base CX k f fd ps sp) (N:eX k X.A) (O:Binds X.K fd ps ds) (hd:Vals dvs ds) (P:gJ CX X E) (R:PA X (e::es) t)
 (i:starEach (e::es) X.env=(false,eval e X.env)::starEach es X.env:=by rfl) (j:(backTo pos (starEach es X.env)).any (·.1)=false:=by rfl)
 (S:eval (.Call (.Attribute o m apos) (e::es) [] pos) X.env=(do
  let y ← eval o X.env
  standAt apos.atName
  let (f,b) ← holding [y] (getMethod y m g)
  callWith pos f b (backTo pos (starEach (e::es) X.env)) (backToKw pos (keywordEach [] X.env))):=by rfl) :
 PE X (.Call (.Attribute o m apos) (e::es) [] pos) (m_ C m sp dvs E ta t):=by
 intro d s z H Q I h;refine acm (pl:=g) (gj (M d s z H _ I h) fun u B ⟨x,D,n,G,a,T,fs,J,L,l,q⟩=>?_) S;subst J;obtain rfl:u=Value.ref a:=G;refine mU n L c A l ?_;refine acT (first:=[.ref a]) (h₀:=X.base) I.ok.mod.kin A.kp (gj (R pos d B z D _ n q) fun v U ⟨vs,W,w,r,q2⟩=>⟨w.kIn,?_⟩) i j;exact uC (us:=.ref a::v) (vs:=.ref a::vs) F N O hd P w (.cons rfl r) q2
def gq {i:Sem Bool} (z:PE X o ta) (c:vy X.K C) (n:Meth X.K C m f) (F:dw X.prog X.w X.K X.mg X.base CX k f fd ps sp) (A:eX k X.A) (B:Binds X.K fd ps ds) (hd:Vals dvs ds) (D:gJ CX X E)
 (G:eval (.Call (.Attribute o m apos) [] [] pos) X.env=(do
  let j ← eval o X.env
  standAt apos.atName
  let (f,b) ← holding [j] (getMethod j m i)
  callWith pos f b (backTo pos (starEach [] X.env)) (backToKw pos (keywordEach [] X.env))):=by rfl) :
 PE X (.Call (.Attribute o m apos) [] [] pos) (m_ C m sp dvs E ta iV):=by
 intro d s y H Q I h;refine acm (pl:=i) (gj (z d s y H _ I h) fun u J ⟨x,L,g,r,a,M,fs,v,w,l,q⟩=>?_) G;subst v;obtain rfl:u=Value.ref a:=r;refine mU g w c n l ?_;exact PySem.W.callWith_K0 (first:=[.ref a]) g.kIn n.kp (uC (us:=[.ref a]) (vs:=[.ref a]) F A B hd D g (.cons rfl .nil) q)
structure Mk (K:Zs) (C f:Zl):Prop where
 makes:PySem.W.makesIn K C=true
 init:PySem.W.findIn K (.ref C) "__init__" = some (some (.ref f))
 fn:PySem.W.isFn K (.ref f)=true
 kp:PySem.W.keepIn K (.ref C)=true
theorem yq (M:Mk X.K C f) (F:dw X.prog X.w X.K X.mg X.base CX k f fd ps sp) (D:eX (k+1) X.A) (G:Binds X.K fd ps ds) (hd:Vals dvs ds)
 (J:gJ CX X E) (I:Inv X b g H s) (r:Vals vs us)
 (h:∀ x c,H x=none->H c=none->c≠x->sp (.ref x::(vs++dvs)) (upd (upd H c (.own x)) x (.ins C c [])) (fun v j=>v=.non/\Q (.ref x) j) E) :
 wpAny (model X.prog X.w) X.A (call (.ref C) us) (EP X b g Q) X.xe s:=by
 have i:=h (s.heap.objs.size+1) s.heap.objs.size (I.hok.fresh (abg _)) (I.hok.fresh (aae _)) (aal (abt _));have d:=Inv.made (C:=C) I;have r2:Vals (V.ref (s.heap.objs.size+1)::(vs++dvs)) (Value.ref (s.heap.objs.size+1)::(us++ds)):=.cons rfl (r.append hd);have n:(Value.ref (s.heap.objs.size+1)::us++ds).length=ps.length:=by have e:=r2.length;rw [F.len _ _ _ _ i] at e;exact e.symm
 refine aa8 (zQ (f:=f) I.kIn M.makes M.init (aaW.mp M.fn) (codeAny_mono (F.run _ X.stack _ _ ⟨Value.ref (s.heap.objs.size+1)::us,[]⟩ (Value.ref (s.heap.objs.size+1)::(us++ds)) _ _ E (D.make C us []) (d.env0.make C us []) (G _ (Value.ref (s.heap.objs.size+1)::us) d.kIn n) r2 i) fun r l a=>?_));cases r with
 |error e=>exact J b g _ _ e l d a
 | ok B=>
   cases B with
   | ret u=>obtain ⟨v,q,w,y,z,A⟩:=d.after a;subst z;exact ⟨y,⟨V.ref (s.heap.objs.size+1),q,w,rfl,A⟩⟩
   |next=>exact False.elim a
   |brk=>exact False.elim a
   |cont=>exact False.elim a
def km (M:Mk X.K C f) (F:dw X.prog X.w X.K X.mg X.base CX k f fd ps sp) (i:eX (k+1) X.A) (j:Gl X x) (l:X.mg x=some (.ref C)) (n:Binds X.K fd ps ds) (hd:Vals dvs ds) (v:gJ CX X E)
 (w:PA X (e::es) t) (b:(x == ("__debug__" : Str))=false:=by decide) (y:starEach (e::es) X.env=(false,eval e X.env)::starEach es X.env:=by rfl) (c:(backTo pos (starEach es X.env)).any (·.1)=false:=by rfl) :
 PE X (.Call (.Name x p) (e::es) [] pos) (Om C sp dvs E t):=by
 intro a s g H Q I h;refine aa9 (kE I j l ?_ b);refine acT (h₀:=X.base) I.ok.mod.kin M.kp (gj (w pos a s g H _ I h) fun z A ⟨vs,B,d,r,q⟩=>⟨d.kIn,?_⟩) y c;exact yq M F i n hd v d r q
def pN (M:Mk X.K C f) (F:dw X.prog X.w X.K X.mg X.base CX k f fd ps sp) (c:eX (k+1) X.A) (d:Gl X x) (g:X.mg x=some (.ref C)) (i:Binds X.K fd ps ds) (hd:Vals dvs ds) (j:gJ CX X E)
 (a:(x == ("__debug__" : Str))=false:=by decide):PE X (.Call (.Name x p) [] [] pos) (Om C sp dvs E iV):=by
 intro b s l H Q I h;refine aa9 (kE I d g ?_ a);exact PySem.W.callWith_K0 I.kIn M.kp (yq (us:=[]) M F c i hd j I .nil h)
end
def PK (X:Cx) (d:List Keyword) (t:TA):Prop:=
 ∀ (b:Pos) (a:YI) (s:Zp) (c:St) (H:Hp) (Q:List V->Hp->Prop),Inv X a c H s->t c H Q->wpAny (model X.prog X.w) X.A (evalAll ((backToKw b (keywordEach d X.env)).map (·.2))) (AP X a c Q) X.xe s
section
variable {X:Cx} {CX:rK} {k:Nat} {f C:Zl} {fd:ZA} {ps ks:Y1} {sp:Sp} {E:XK} {x m:Str} {p pos apos kpos:Pos} {e o:ZO} {es:YR} {kws:List Keyword} {te ta:TE} {t tk:TA} {nm:Option Str}
def uf:PK X [] iV:=fun _ _ _ _ H Q I h=>wpAny_evalAll_nil ⟨[],H,I,.nil,h⟩
noncomputable def jJ (q:PE X e te) (r:PK X kws t):PK X (⟨nm,e,kpos⟩::kws) (fV te t):=by intro b a s c H Q I h;show wpAny _ _ (evalAll ((do let v ← eval e X.env;standAt b;pure v)::(backToKw b (keywordEach kws X.env)).map (·.2))) _ _ s;refine wpAny_evalAll_cons (aaa (gj (q a s c H _ I h) fun u d ⟨x,g,i,r1,q1⟩=>aaa (aa4 (aad ?_))));exact gj (r b a d c g _ i q1) fun w y ⟨j,l,n,r2,q2⟩=>⟨x::j,l,n,.cons r1 r2,q2⟩
structure jF (K:Zs) (fd:ZA) (ps ks:Y1) (g:List Value->List Value->List Value) (gV:List V->List V->List V):Prop where
 to:∀ (s:Zp) (us ws:Y2),K.In s.heap->(g us ws).length=ps.length->BindsTo s fd ⟨us,ks.zip ws⟩ (ps.zip (g us ws))
 rel:∀ {vs:List V} {us:Y2} {zs:List V} {ws:Y2},Vals vs us->Vals zs ws->Vals (gV vs zs) (g us ws)
theorem N5 (F:dw X.prog X.w X.K X.mg X.base CX k f fd ps sp) (v:eX k X.A) (j:jF X.K fd ps ks g z) (w:gJ CX X E)
 (I:Inv X a d H s) (r:Vals vs us) (y:Vals i b) (h:sp (z vs i) H Q E):wpAny (model X.prog X.w) X.A (call (.ref f) us (ks.zip b)) (EP X a d Q) X.xe s:=by
 have r2:=j.rel r y;have n:(g us b).length=ps.length:=by rw [← r2.length];exact F.len _ _ _ _ h
 refine aa8 (codeAny_mono (F.run X.A X.stack s H ⟨us,ks.zip b⟩ (g us b) (z vs i) Q E v I.env0 (j.to s us b I.kIn n) r2 h) fun r l c=>?_);cases r with
 |error e=>exact w a d H s e l I c
 | ok q=>
   cases q with
   |ret u=>exact I.after c
   |next=>exact False.elim c
   |brk=>exact False.elim c
   |cont=>exact False.elim c
end
structure dC (N P:Y1) (sc:ZT):Prop where
 kind:sc.kind=.function
 co:sc.isCoroutine=false
 gen:sc.isGenerator=false
 nd:N.Nodup
 pre:N.take P.length=P
 par:∀ x∈P,sc.names.lookup x=some .local∨sc.names.lookup x=some .cell
 nofree:∀ y∈sc.names,y.2≠.free
theorem vW {a:Str->Option NameKind} {x:Str}:∀ {binds:List (Str×Value)} {m:ZY},(∀ v,(x,v)∉binds)->bindL a binds m x=m x
 |[],_,_=>rfl
 | (n,v)::r,m,h=>by
   unfold bindL;rw [vW fun w b=>h w (aan _ b)];split
   ·have:x≠n:=by rintro rfl;exact h v aao
    simp [this]
   ·rfl
theorem vB {a:Str->Option NameKind} {x:Str}:∀ {binds:List (Str×Value)} {m:ZY},(∀ v,(x,v)∉binds)->bindC a binds m x=m x
 |[],_,_=>rfl
 | (n,v)::r,m,h=>by
   unfold bindC;rw [vB fun w b=>h w (aan _ b)];split
   ·rfl
   ·have:x≠n:=by rintro rfl;exact h v aao
    simp [this]
theorem vV {a:Str->Option NameKind}:∀ {P:Y1} {vs:Y2} {i:Nat} {m:ZY},P.Nodup->P[i]?=some x->vs[i]?=some v->a x=some .local->
 bindL a (P.zip vs) m x=some v
 |[],_,_,_,_,h,_,_=>by simp at h
 |_::_,[],_,_,_,_,h,_=>by simp at h
 | p::P,w::vs,0,m,nd,h1,h2,hk=>by simp at h1 h2;subst h1;subst h2;show bindL a ((p,w)::P.zip vs) m p=_;unfold bindL;rw [vW fun v b=>(aba.mp nd).1 (acn b).1,aac hk];simp
 | p::P,w::vs,i+1,m,nd,h1,h2,hk=>by show bindL a ((p,w)::P.zip vs) m x=_;unfold bindL;exact vV (i:=i) (aba.mp nd).2 (by simpa using h1) (by simpa using h2) hk
theorem wk {a:Str->Option NameKind}:∀ {P:Y1} {vs:Y2} {i:Nat} {m:ZY},P.Nodup->P[i]?=some x->vs[i]?=some v->a x≠some .local->
 bindC a (P.zip vs) m x=some v
 |[],_,_,_,_,h,_,_=>by simp at h
 |_::_,[],_,_,_,_,h,_=>by simp at h
 | p::P,w::vs,0,m,nd,h1,h2,hk=>by simp at h1 h2;subst h1;subst h2;show bindC a ((p,w)::P.zip vs) m p=_;unfold bindC;rw [vB fun v b=>(aba.mp nd).1 (acn b).1,aab hk];simp
 | p::P,w::vs,i+1,m,nd,h1,h2,hk=>by show bindC a ((p,w)::P.zip vs) m x=_;unfold bindC;exact wk (i:=i) (aba.mp nd).2 (by simpa using h1) (by simpa using h2) hk
def start (N:Y1) (vs:List V):St:=vs.map some++List.replicate (N.length-vs.length) none
def i_ (CX:rK) (P:ZB) (w:ZE) (K:Zs) (mg:ZY) (base:ZI) (N:Y1) (qual:Str) (scope:ZT) (f:Zl) (cd:ZH) (A:ZN) (outer:List Env) (s:Zp) (H:Hp) (E:XK):Cx where
 prog:=P
 w:=w
 K:=K
 mg:=mg
 base:=base
 A:=A.deeper (envOfC qual scope s.heap.objs.size f cd)
 N:=N
 s₀:=s
 H₀:=H
 env:=envOfC qual scope s.heap.objs.size f cd
 outer:=outer
 stack:=envOfC qual scope s.heap.objs.size f cd::outer
 ex:=[]
 calm:=true
 fn:=fun _=>true
 pn:=[]
 xe:=fun e s'=>wpAny (model P w) (A.deeper (envOfC qual scope s.heap.objs.size f cd)) (leaving (envOfC qual scope s.heap.objs.size f cd) e) (fun _ s''=>CX outer H s E e s'') (fun e' s''=>CX outer H s E e' s'') s'
def zH {a:ZT} (h:a.names.lookup x=some .cell):∃ c,(cellsFrom n a.names []).lookup x=some c:=by have q:=acU a.names n [] (.inl h);exact Option.isSome_iff_exists.mp q
def vh {CX:rK} {P:ZB} {w:ZE} {K:Zs} {mg:ZY} {base:ZI} {N ps:Y1} {qual:Str} {scope:ZT} {f:Zl} {cd:ZH} {A:ZN} {outer:List Env} {s s1:Zp} {H:Hp} {E:XK} {us:Y2} {vs:List V}
 (S:dC N ps scope) (hd:A.handled=none) (e0:ye P w K mg base A outer s H) (hl:vs.length=ps.length) (r:Vals vs us)
 (x:InCallC s s.heap.objs.size (bindL (envOfC qual scope s.heap.objs.size f cd).kindOf (ps.zip us) fun _=>none) (cellsFrom (s.heap.objs.size+1) scope.names []) (bindC (envOfC qual scope s.heap.objs.size f cd).kindOf (ps.zip us) fun _=>none) s1) :
 Inv (i_ CX P w K mg base N qual scope f cd A outer s H E) [] (start N vs) H s1:=by
 have hpl:ps.length≤N.length:=by have:=aax List.length S.pre;rw [aaJ] at this;omega
 obtain ⟨h1,tk,rfl,hk⟩:=x.done;have noA:∀ b:Addr,b∉(i_ CX P w K mg base N qual scope f cd A outer s H E).ex:=fun b z=>absurd (show b∈([]:YE) from z) (by simp);refine ⟨⟨e0.mod,S.kind,rfl,rfl,aae _,fun y z c h1 h2=>?_,fun y hy=>?_,fun y c _ h=>?_,fun _=>hd,Around.frames_deeper e0.frames,.inr ⟨rfl,rfl⟩,fun b z=>absurd z (noA b),e0.bs,e0.bsz,fun b _ _=>noA b,fun b z=>absurd z (noA b),e0.funs,e0.frf⟩,
  rfl,e0.bare,Un.kept hk,⟨_,x.toInCall.ns,fun i y v h1 h2 h3=>?_⟩,fun y c h=>⟨_,x.cell y c h⟩,e0.hok.fresh (aae _),fun y c h=>?_,fun p hp=>absurd (show p∈([]:YI) from hp) (by simp),e0.hok.kept hk,?_⟩
 ·exact name_of_addr x.apart (abb h1) (abb h2)
 ·have hy:scope.names.lookup y=some .cell∨scope.names.lookup y=some .free:=hy;rcases hy with hy|hy
  ·exact zH hy
  ·exact absurd rfl (S.nofree _ (abb hy))
 ·exact aa1 (x.above y c (abb h))
 ·have hi:i<vs.length:=by
   unfold start at h2;by_cases hi:i<vs.length
   ·exact hi
   ·rw [acV (by simpa using hi)] at h2;rw [List.getElem?_replicate] at h2;split at h2 <;> cases h2
  have ha:vs[i]?=some v:=by
   unfold start at h2;rw [adj (by simpa using hi),aaz] at h2;cases e:vs[i]? with
   |none=>rw [e] at h2;cases h2
   |some a=>rw [e] at h2;cases h2;rfl
  obtain ⟨u,hu,rv⟩:=r.get ha;have hp:ps[i]?=some y:=by rw [← S.pre,List.getElem?_take_of_lt (by omega)];exact h1
  have ndP:ps.Nodup:=by rw [← S.pre];exact S.nd.sublist (List.take_sublist _ _)
  refine ⟨u,rv,?_⟩;rcases S.par y (aaq hp) with k|k
  ·exact .inl ⟨k,vV ndP hp hu k⟩
  ·obtain ⟨c,e⟩:=zH (n:=s.heap.objs.size+1) k;refine .inr ⟨.inl k,c,e,?_⟩;have q:=x.cell y c e;rw [wk ndP hp hu (by show scope.names.lookup y≠_;rw [k];decide)] at q;exact q
 ·exact e0.hok.fresh (aa1 (x.above y c (abb h)))
 ·unfold start;show _=N.length;rw [aaD,aag,aco];omega
theorem uT {CX:rK} {P:ZB} {w:ZE} {K:Zs} {mg:ZY} {base:ZI} {k:Nat} {f:Zl} {name aa:Str} {ab:Arguments} {ac:List Stmt} {scope:ZT} {dV kV af pm ad ct oc:ZH} {an od:YA}
 {ah:YU} {N ps:Y1} {sp:Sp} (lk:K.lookup f=some ⟨oc,od,.func (PySem.W.fnOf name aa ab ac scope dV kV af pm an ad ct),ah⟩) (ai:PySem.W.codeIn K ad aa=true) (S:dC N ps scope)
 (ag:∀ vs H Q E,sp vs H Q E->vs.length=ps.length)
 (ae:∀ (A:ZN) (outer:List Env) (s:Zp) (H:Hp) (vs:List V) (Q:VK) (E:XK),eX k (A.deeper (envOfC aa scope s.heap.objs.size f ad))->sp vs H Q E-> ∃ t,wJ (i_ CX P w K mg base N aa scope f ad A outer s H E) ac t/\t { nx:=fun _ H'=>Q .non H',rt:=Q } (start N vs) H) :
 dw P w K mg base CX (k+1) f (PySem.W.fnOf name aa ab ac scope dV kV af pm an ad ct) ps sp:=by
 refine ⟨ag,fun A outer s H args us vs Q E hr e0 hb r hsp=>?_⟩;have hl:=ag _ _ _ _ hsp;have KX:K.In s.heap:=e0.mod.kin.keeps fun b o e=>(e0.bs b o e).1;have lim:s.heap.NoLimit:=e0.mod.nolimit.keeps fun b o e=>(e0.bs b o e).1;have hkind:∀ y∈ps.zip us,scope.names.lookup y.1=some .local∨(scope.names.lookup y.1=some .cell/\((cellsFrom (s.heap.objs.size+1) scope.names []).lookup y.1).isSome=true):=fun ⟨n,v⟩ hy=>by
  rcases S.par n (acn hy).1 with q|q
  ·exact .inl q
  ·exact .inr ⟨q,acU _ _ _ (.inl q)⟩
 refine codeAny_call_function hr.depth (KX _ _ lk) rfl S.co S.gen rfl (PySem.W.codeRec_of KX ai) (hb _ _ _ _ ?_);refine wpAny_newFunctionEnv_cells S.kind hkind fun env he s1 x=>?_;subst he;refine ⟨lim.keeps x.toInCall.keep,codeAny_func ?_⟩;obtain ⟨t,ht,hq⟩:=ae A outer s H vs Q E (hr.deeper _) hsp;have I:Inv (i_ CX P w K mg base N aa scope f ad A outer s H E) [] (start N vs) H s1:=vh S hr.hd e0 hl r x;refine aat (ht [] s1 (start N vs) H _ I hq) (fun fl s' hs=>?_) fun e s' hs=>hs;have fin:∀ {σ':St} {H':Hp} {v:V} {u:ZH},Inv (i_ CX P w K mg base N aa scope f ad A outer s H E) [] σ' H' s'->RelV v u->Q v H'->CE outer P w H s Q u s':=
  fun {σ' H' v u} J rv q=>⟨v,H',J.os,J.bare,J.base,J.hok,rv,q⟩;cases fl with
 | ret u=>obtain ⟨v,σ',H',J,rv,q⟩:=hs;exact fin J rv q
 | next=>obtain ⟨σ',H',J,q⟩:=hs;exact fin (v:=V.non) (u:=Value.none) J rfl q
 | brk=>obtain ⟨_,_,_,q⟩:=hs;exact False.elim q
 | cont=>obtain ⟨_,_,_,q⟩:=hs;exact False.elim q
section
variable {X:Cx} {x:Str} {p pos:Pos} {e:ZO} {es:YR} {t:TA} {id T:String} {r:List V->Hp->VK->Prop}
def Zt (r:List V->Hp->VK->Prop) (t:TA):TE:=fun a H Q=>t a H fun vs b=>r vs b Q
def dJ (l:jd X (.builtin id) r) (m:Gl X x) (n:X.mg x=none) (o:bootBuiltins x=some (.builtin id)) (q:PA X (e::es) t) (v:x ≠ "__name__":=by decide) (b:(x == ("__debug__" : Str))=false:=by decide)
 (w:starEach (e::es) X.env=(false,eval e X.env)::starEach es X.env:=by rfl) (c:(backTo pos (starEach es X.env)).any (·.1)=false:=by rfl):PE X (.Call (.Name x p) (e::es) [] pos) (Zt r t):=by
 intro a s d H Q I h;refine aa9 (qI I m n o ?_ v b);exact PyProof.Rows.callWith_builtin1 (gj (q pos a s d H _ I h) fun f g ⟨vs,i,j,r1,q1⟩=>l a g d i vs f Q j r1 q1) w c
def gQ (l:jd X (.type T) r) (m:Gl X x) (n:X.mg x=none) (o:bootBuiltins x=some (.type T)) (q:PA X (e::es) t) (v:x ≠ "__name__":=by decide) (b:(x == ("__debug__" : Str))=false:=by decide)
 (w:starEach (e::es) X.env=(false,eval e X.env)::starEach es X.env:=by rfl) (c:(backTo pos (starEach es X.env)).any (·.1)=false:=by rfl):PE X (.Call (.Name x p) (e::es) [] pos) (Zt r t):=by
 intro a s d H Q I h;refine aa9 (qI I m n o ?_ v b);exact acN (gj (q pos a s d H _ I h) fun f g ⟨vs,i,j,r1,q1⟩=>l a g d i vs f Q j r1 q1) w c
end
end L2
namespace HT
open PySem PyProof.Rows
section
open PySem.SeqAt
open PySem.AutoSeq1 (wpAny_loadPart')
open PySem.MeetsSeq PySem.MeetsSeq2 PySem.MeetsSeq3
end
section
variable {prog:ZB} {w:ZE} {A:ZN} {E:ZU} {s:Zp}
def Lz (y:IsTup s.heap t vs.toArray) (z:IsTup s.heap b a.toArray) (x:vs≠[])
 (B:a=[]->Q (.ref t) s) (C:a≠[]->Q (.ref s.heap.objs.size) { s with heap:=s.heap.push { cls:=.type "tuple",data:=.seq (vs++a).toArray } })
 (o:vs.length+a.length≤sizeLine):wpAny (model prog w) A (binaryOp .Add (.ref t) (.ref b)) Q E s:=by
 obtain ⟨⟨cls,dd,d,p⟩,j,q,n,hd⟩:=id y;obtain ⟨⟨r,f,m,g⟩,c,h,v,i⟩:=id z;simp only at q hd h i;subst q hd h i;have e:vs.toArray++a.toArray=(vs++a).toArray:=by simp
 by_cases l:a=[]
 ·exact concat_meets ⟨_,j,rfl⟩ ⟨_,c,rfl⟩ noFill_tuple_add seq_tuple_add PySem.F.slot_tuple_add PySem.F.entry_tuple_add (PySem.F.args_tuple_add_2 _ _)
   (tuple_addW1 t b vs.toArray a.toArray n v dd f p g (by simpa using x) (by simp [l])) ⟨j,c,B l⟩
 ·refine concat_meets ⟨_,j,rfl⟩ ⟨_,c,rfl⟩ noFill_tuple_add seq_tuple_add PySem.F.slot_tuple_add PySem.F.entry_tuple_add (PySem.F.args_tuple_add_2 _ _)
   (tuple_addW2 t b vs.toArray a.toArray n v dd f p g (by simpa using x) (by simpa using l) (by rw [aap,aap];exact o)) ⟨j,c,?_⟩;rw [e];exact C l
noncomputable def je (n d:Nat):Option Int->Nat
 |none=>d
 |some v=>if v<0 then (v+(n:Int)).toNat else min v.toNat n
def zL (n d:Nat):je n d none=d:=rfl
def Cp (n d k:Nat):je n d (some (k:Int))=min k n:=by show (if (k:Int)<0 then ((k:Int)+(n:Int)).toNat else min (k:Int).toNat n)=min k n;rw [aab (by omega),abG]
theorem T9 (n d:Nat) (hd:d≤n) (o:Option Int):je n d o≤n:=by
 cases o with
 |none=>exact hd
 | some v=>
   show (if v<0 then (v+(n:Int)).toNat else min v.toNat n)≤n;by_cases a:v<0
   ·rw [aac a];omega
   ·rw [aab a];exact Nat.min_le_right _ _
def Dh (v:Int) (n d:Nat):(if v<0 then max (v+(n:Int)) 0 else min v (n:Int))=((je n d (some v):Nat):Int):=by
 show (if v<0 then max (v+(n:Int)) 0 else min v (n:Int))=(((if v<0 then (v+(n:Int)).toNat else min v.toNat n):Nat):Int);by_cases a:v<0
 ·simp only [aac a];omega
 ·simp only [aab a];omega
def Aw (a b:Option Int) (n:Nat):Builtin.Slice.sliceAdjust a b 1 (n:Int)=(((je n 0 a:Nat):Int),((je n n b:Nat):Int)):=by
 have c:¬ ((1:Int)<0):=by omega
 unfold Builtin.Slice.sliceAdjust;simp only [c,if_false];refine Prod.ext ?_ ?_
 ·cases a with
  |none=>rfl
  |some v=>exact Dh v n 0
 ·cases b with
  |none=>rfl
  |some v=>exact Dh v n n
def Bp (i j:Nat):Builtin.Slice.slicePlaces (i:Int) (j:Int) 1=j-i:=by
 unfold Builtin.Slice.slicePlaces;have a:(1:Int) > 0:=by omega
 simp only [a,if_true,Int.ediv_one];split <;> omega
theorem tL (p:IsPart v o) (h:Q o s):wpAny (model prog w) A (Builtin.Slice.slicePartIndex v) Q E s:=by
 cases p with
 |none=>exact slicePart_none h
 |int i t=>exact slicePart_int h
def my {f:Zl} {vl e:ZH} {a d:Option Int} {n:Nat} {Q:Int×Int×Nat->Shared->Prop} (i:s.heap.IsSliceOf f vl e .none) (j:IsPart vl a) (l:IsPart e d)
 (h:Q (((je n 0 a:Nat):Int),1,je n n d-je n 0 a) s):wpAny (model prog w) A (Builtin.Slice.sliceApplied (.ref f) (pure (n:Int))) Q E s:=by
 obtain ⟨m,b,g,c⟩:=id i;unfold Builtin.Slice.sliceApplied Builtin.Slice.sliceFields;refine aaa (aaa (aaT b c (x:=vl) rfl (aaa (aaT b c (x:=e) rfl (aaa (aaT b c (x:=.none) rfl (aad ?_)))))));refine aaa (slicePart_none ?_);show wpAny _ _ (if ((1:Int) == 0)=true then _ else _) _ _ s;rw [aab (by decide)];refine aaa (tL j (aaa (tL l (aaa (aad ?_)))));show wpAny _ _ (match Builtin.Slice.sliceAdjust a d 1 (n:Int) with|(a,d)=>pure (a,(1:Int),Builtin.Slice.slicePlaces a d 1)) _ _ s;rw [Aw a d n];show wpAny _ _ (pure (((je n 0 a:Nat):Int),(1:Int),Builtin.Slice.slicePlaces ((je n 0 a:Nat):Int) ((je n n d:Nat):Int) 1)) _ _ s;rw [Bp];exact aad h
def Gr (a:Y3) (i k:Nat):((List.range k).filterMap fun (m:Nat)=>a[((i:Int)+(m:Int)*1).toNat]?).toArray=((a.toList.drop i).take k).toArray:=by
 have e:(fun (m:Nat)=>a[((i:Int)+(m:Int)*1).toNat]?)=fun m=>a[i+m]?:=by
  funext m;have:((i:Int)+(m:Int)*1).toNat=i+m:=by omega
  rw [this]
 rw [e];have:=pick_run a i k;rw [List.filterMap_map] at this;have b:((fun x=>a[x]?) ∘ fun x=>i+x)=fun m=>a[i+m]?:=rfl;rw [b] at this;rw [this]
def pZ {t l:Zl} {a:Y3} {vl n:ZH} {c d:Option Int} {Q:ZU} (e:IsTup s.heap t a) (o:s.heap.IsSliceOf l vl n .none) (v:IsPart vl c) (x:IsPart n d)
 (y:¬ (je a.size 0 c=0/\je a.size a.size d=a.size))
 (h:Q (.ref s.heap.objs.size) { s with heap:=s.heap.push { cls:=.type "tuple",data:=.seq ((a.toList.drop (je a.size 0 c)).take (je a.size a.size d-je a.size 0 c)).toArray } })
 (z:a.size≤sizeLine):wpAny (model prog w) A (getItem (.ref t) (.ref l)) Q E s:=by
 have b:sizeOk (.seq ((a.toList.drop (je a.size 0 c)).take (je a.size a.size d-je a.size 0 c)).toArray):=by show ((a.toList.drop (je a.size 0 c)).take (je a.size a.size d-je a.size 0 c)).toArray.size≤sizeLine;rw [aap,aaJ,ab0,acL];omega
 have B:je a.size a.size d≤a.size:=T9 _ _ (aae _) d;obtain ⟨p,i,j,r⟩:=id o;have f:s.TypeIs (.ref l) "slice":=⟨p,i,j⟩;unfold getItem
 try with_reducible refine aaS ?_
 first|refine aaa (aad ?_)|skip
 refine aaa (acW e.typeIs (by decide) ?_);refine aaa (wpAny_callSpecial?_slot (name:=Str.ofString "__getitem__") e.typeIs abH (abh abH e.typeIs entry_tuple_getitem ?_ (args_tuple_getitem _ _)));show wpAny _ _ (Builtin.Tuple.tupleItemsOf (.ref t) >>= _) _ _ s;refine aaa (tupleItemsOf_ e ?_);refine aaa (abI f ?_);rw [aac (by decide)];refine aaa (my o v x ?_);have g:¬ ((((je a.size 0 c:Nat):Int) == 0 && (1:Int) == 1 && (je a.size a.size d-je a.size 0 c) == a.size)=true):=by intro q;rw [aaP,aaP] at q;have q1:((je a.size 0 c:Nat):Int)=0:=eq_of_beq q.1.1;have q2:je a.size a.size d-je a.size 0 c=a.size:=eq_of_beq q.2;exact y ⟨by omega,by omega⟩
 show wpAny _ _ (if (((je a.size 0 c:Nat):Int) == 0 && (1:Int) == 1 && (je a.size a.size d-je a.size 0 c) == a.size)=true then _ else _) _ _ s;rw [aab g,Gr]
 first
  |exact aaa (m:=Builtin.Tuple.tupleExact _) (aaU (aad ⟨_,rfl,aad h⟩) b)
  |exact aaa (m:=Builtin.Tuple.tupleExact _) (aaU (aaa (aad (aad ⟨_,rfl,aad h⟩))) b)
  |exact aaa (aaa (m:=Builtin.Tuple.tupleExact _) (aaU (aad (aad ⟨_,rfl,aad h⟩)) b))
  |exact aaa (aaa (m:=Builtin.Tuple.tupleExact _) (aaU (aad ⟨_,rfl,aad h⟩) b))
end
end HT
namespace L2
open PySem PySem.Spec PyProof.Rows
abbrev TO:=St->Hp->(Option Int->Hp->Prop)->Prop
def PO (X:Cx) (e:Option Expr) (t:TO):Prop:=
 ∀ (a:YI) (s:Zp) (b:St) (H:Hp) (Q:Option Int->Hp->Prop),Inv X a b H s->t b H Q->
   wpAny (model X.prog X.w) X.A (evalPart e X.env) (fun u d=>∃ o c,Inv X a b c d/\IsPart u o/\Q o c) X.xe s
def Lx:TO:=fun _ H Q=>Q none H
def Wk (t:TE):TO:=fun a H Q=>t a H fun x b=>∃ i,x=.int i/\Q (some i) b
section
variable {X:Cx} {e:ZO} {te:TE} {lo hi:Option Expr} {tl th:TO} {pos p2:Pos}
def iQ:PO X none Lx:=by intro a s b H Q I h;rw [evalPart_none];exact aad ⟨none,H,I,.none,h⟩
noncomputable def iR (h:PE X e te):PO X (some e) (Wk te):=by intro a s d H Q I f;rw [evalPart_some];refine gj (h a s d H _ I f) fun u g ⟨x,b,c,r1,q1⟩=>?_;obtain ⟨i,rfl,q⟩:=q1;obtain ⟨t,rfl⟩:=r1;exact ⟨some i,b,c,.int i t,q⟩
def VD (X:Cx) (r:V->Option Int->Option Int->Hp->VK->Prop):Prop:=
 ∀ (a:YI) (s:Zp) (b:St) (H:Hp) (x:V) (v vl c:ZH) (d f:Option Int) (g:Zl) (Q:VK),Inv X a b H s->RelV x v->s.heap.IsSliceOf g vl c .none->IsPart vl d->IsPart c f->r x d f H Q->
   ∃ T h,typeLookup (.type T) "__getitem__" = pure (some (.builtin h))/\s.TypeIs v T/\wpAny (model X.prog X.w) X.A (getItem v (.ref g)) (EP X a b Q) X.xe s
def tSl (r:V->Option Int->Option Int->Hp->VK->Prop) (f:TE) (g h:TO):TE:=fun a H Q=>f a H fun x b=>g a b fun l c=>h a c fun u d=>r x l u d Q
noncomputable def ie {r:V->Option Int->Option Int->Hp->VK->Prop} (F:VD X r) (G:PE X e te) (J:PO X lo tl) (L:PO X hi th):PE X (.Subscript e (.Slice lo hi none p2) pos) (tSl r te tl th):=by intro a s d H Q I h;refine Subscript_ (gj (G a s d H _ I h) fun v i ⟨x,j,m,r1,q1⟩=>?_);refine wpAny_Slice (gj (J a i d j _ m q1) fun vl n ⟨l,o,p,w,q2⟩=>gj (L a n d o _ p q2) fun f c ⟨u,g,y,z,A⟩=>?_);rw [evalPart_none];refine aad ?_;have B:Inv X a d g { c with heap:=c.heap.push { cls:=.type "slice",data:=.fields #[vl,f,.none] } }:=y.kept (t':=c.toks) fun b M q=>aai _ q;obtain ⟨T,N,C,D,E⟩:=F a { c with heap:=c.heap.push { cls:=.type "slice",data:=.fields #[vl,f,.none] } } d g x v vl f l u c.heap.objs.size Q B r1 (Heap.IsSliceOf.new ..) w z A;show wpAny (model X.prog X.w) X.A (subscriptTail e (.Slice lo hi none p2) v (.ref c.heap.objs.size)) (EP X a d Q) X.xe { c with heap:=c.heap.push { cls:=.type "slice",data:=.fields #[vl,f,.none] } };exact tail_any (ops:=[.ref c.heap.objs.size,v]) D C E (by with_unfolding_all rfl)
noncomputable def jV (a:List V) (b c:Option Int):List V:=(a.drop (HT.je a.length 0 b)).take (HT.je a.length a.length c-HT.je a.length 0 b)
def rF (a:List V) (b c:Option Int):(jV a b c).length≤a.length:=by unfold jV;rw [aaJ,ab0];omega
def X5 (K:Zs):V->Option Int->Option Int->Hp->VK->Prop:=fun x c d H Q=>∃ a b,x=.ref a/\gC K H a b/\
 ¬ (HT.je b.length 0 c=0/\HT.je b.length b.length d=b.length)/\∀ p,H p=none->Q (.ref p) (upd H p (.tup (jV b c d)))
def K5:VD X (X5 X.K):=by
 intro m s C H x v vl D f i E Q I w y z A h;obtain ⟨a,d,rfl,n,p,q⟩:=h;cases w;obtain ⟨g,r,j,l⟩:=I.tuple n;have c:g.toArray.size=d.length:=by rw [aap];exact r.length.symm
 refine ⟨"tuple",_,abH.lookup,j.typeIs,?_⟩;refine HT.pZ j y z A (by rw [c];exact p) ?_ (by rw [c];exact l);rw [c];refine ⟨.ref s.heap.objs.size,_,I.laid (t':=s.toks) (o:=.tup (jV d f i)) (fun b B q=>aai _ q) (aae _) ?_,rfl,q _ (I.hok.fresh (aae _))⟩;exact ⟨aaj (rF d f i) l,_,(r.drop (HT.je d.length 0 f)).take (HT.je d.length d.length i-HT.je d.length 0 f),IsTup.new _ _⟩
def W5 (K:Zs):R2:=fun x y H Q=>∃ a b d c,x=.ref a/\y=.ref b/\gC K H a d/\gC K H b c/\d≠[]/\d.length+c.length≤sizeLine/\
 (c=[]->Q (.ref a) H)/\(c≠[]->∀ p,H p=none->Q (.ref p) (upd H p (.tup (d++c))))
theorem Vals.nil_iff (r:Vals a b):b=[]↔a=[]:=by
 cases r with
 |nil=>simp
 |cons _ _=>simp
noncomputable def Nf:oH X (binaryOp .Add) (W5 X.K):=by intro f s D H x y v u Q I A B h;obtain ⟨a,b,g,i,rfl,rfl,j,l,m,c,q1,q2⟩:=h;cases A;cases B;obtain ⟨n,r1,p,_⟩:=I.tuple j;obtain ⟨d,r2,r,_⟩:=I.tuple l;refine HT.Lz p r (fun z=>m (r1.nil_iff.mp z)) (fun z=>⟨.ref a,H,I,rfl,q1 (r2.nil_iff.mp z)⟩) (fun z=>?_) (by rw [← r1.length,← r2.length];exact c);refine ⟨.ref s.heap.objs.size,_,I.laid (t':=s.toks) (o:=.tup (g++i)) (fun b C q=>aai _ q) (aae _) ?_,rfl,q2 (fun w=>z (r2.nil_iff.mpr w)) _ (I.hok.fresh (aae _))⟩;exact ⟨by rw [aaD];exact c,_,r1.append r2,IsTup.new _ _⟩
end
noncomputable def K9 (n:Nat) (i:Int):Option Nat:=if 0≤i then (if i<n then some i.toNat else none) else if -(n:Int)≤i then some (i+n).toNat else none
noncomputable def yh {a:Type} (b:List a) (i:Int):Option a:=(K9 b.length i).bind fun j=>b[j]?
def Dg (h:K9 n i=some j):seqIndex? i n=some j/\j<n/\-(n:Int)≤i/\i<n:=by
 unfold K9 at h;by_cases b:0≤i
 ·rw [aac b] at h;by_cases a:i<n
  ·rw [aac a] at h;have e:i.toNat=j:=aaM h;exact ⟨by rw [seqIndex_of b a,e],by omega,by omega,a⟩
  ·rw [aab a] at h;cases h
 ·rw [aab b] at h;by_cases a:-(n:Int)≤i
  ·rw [aac a] at h;have e:(i+n).toNat=j:=aaM h;exact ⟨by rw [seqIndex_neg (by omega) a,e],by omega,a,by omega⟩
  ·rw [aab a] at h;cases h
theorem yc {b:Type} {a:List b} {i:Int} {v:b} (h:yh a i=some v):∃ j,seqIndex? i a.length=some j/\a[j]?=some v/\j<a.length/\-(a.length:Int)≤i/\i<a.length:=by
 unfold yh at h;cases e:K9 a.length i with
 |none=>rw [e] at h;cases h
 | some j=>rw [e] at h;obtain ⟨c,d,f,g⟩:=Dg e;exact ⟨j,c,h,d,f,g⟩
def gw {b:Type} {a:List b} {j:Nat} {v:b} (h:a[j]?=some v):yh a (j:Int)=some v:=by
 have c:j<a.length:=(aaQ.mp h).1;have e:K9 a.length (j:Int)=some j:=by unfold K9;rw [aac (by omega),aac (by omega)];simp
 unfold yh;rw [e];exact h
def K_ (b:ZO):Prop:=∀ o i,subscripted b false o i=operate [o,i] (getItem o i)
def Kh (X:Cx) (r:R2):Prop:=
 ∀ (c a:ZO) (b:YI) (s:Zp) (d:St) (H:Hp) (x y:V) (v u:ZH) (Q:VK),Inv X b d H s->RelV x v->RelV y u->r x y H Q->
   subscripted a false v u=operate [v,u] (getItem v u)->wpAny (model X.prog X.w) X.A (subscriptTail c a v u) (EP X b d Q) X.xe s
def L_ (X:Cx) (e:String) (r:V->List V->Hp->VK->Prop):Prop:=
 ∀ (a:YI) (s:Zp) (b:St) (H:Hp) (x:V) (c:List V) (v:ZH) (d:Y2) (Q:VK),Inv X a b H s->RelV x v->Vals c d->r x c H Q->
   wpAny (model X.prog X.w) X.A (call (.builtin e) (v::d)) (EP X a b Q) X.xe s
def Kh.or (h:Kh X r) (m:Kh X l):Kh X (fun x y H Q=>r x y H Q∨l x y H Q):=by
 intro c d e s f H x y v u Q I g i q j;rcases q with q|q
 ·exact h c d e s f H x y v u Q I g i q j
 ·exact m c d e s f H x y v u Q I g i q j
noncomputable def fu (l:Kh X r) (m:PE X a z) (n:PE X b p) (o:K_ b:=by intro _ _;rfl):PE X (.Subscript a b w) (Ke r z p):=by intro c s j H Q I h;exact Subscript_ (RC m n I h fun v u d x y e f g i q=>l a b c d j e x y v u Q f g i q (o _ _))
def Bt (K:Zs):R2:=fun x y H Q=>∃ p c i v,x=.ref p/\y=.int i/\fM K H p c/\yh c i=some v/\Q v H
def Qo (K:Zs):R2:=fun x y H Q=>∃ p c i v,x=.ref p/\y=.int i/\gC K H p c/\yh c i=some v/\Q v H
def Rh:R2:=fun x y H Q=>∃ z i c,x=.str z/\y=.int i/\z.length≤sizeLine/\yh z.cps.toList i=some c/\Q (.str ⟨#[c]⟩) H
def eZ {X:Cx}:Kh X (Bt X.K):=by
 intro n o c s B H x y v u Q I O P h C;obtain ⟨p,S,i,z,rfl,rfl,G,J,q⟩:=h;cases O;obtain ⟨t,rfl⟩:=P;obtain ⟨g,r,l,T⟩:=I.list G;obtain ⟨j,e,L,U,M,N⟩:=yc J;obtain ⟨w,A,m⟩:=r.get L;have F:=r.length;have R:=qJ;have d:EP X c B Q w s:=⟨z,H,I,m,q⟩;by_cases D:0≤i
 ·have f:i.toNat=j:=by rw [seqIndex_of D N] at e;exact aaM e
  exact item_listR l.isList D (by omega) (by rw [f];simpa using A) d C
 ·have f:(i+(g.toArray.size:Int)).toNat=j:=by rw [seqIndex_neg (by omega) M] at e;rw [aap,← F];exact aaM e
  exact subscriptTail_builtinR (x:=w) l.isList.typeIs slot_list_getitem.lookup
   (wpAny_getItem_list_neg (Q:=fun r E=>r=w/\EP X c B Q r E) l.isList (by omega) (by rw [aap] <;> omega) (by omega) (by rw [f];simpa using A) ⟨rfl,d⟩) C
def j6 {X:Cx}:Kh X (Qo X.K):=by
 intro f g c s m H x y v u Q I G J h L;obtain ⟨p,N,i,z,rfl,rfl,A,B,q⟩:=h;cases G;obtain ⟨t,rfl⟩:=J;obtain ⟨C,r,l,O⟩:=I.tuple A;obtain ⟨j,D,E,P,R,S⟩:=yc B;obtain ⟨w,F,e⟩:=r.get E;have o:=r.length;have M:=qJ;have d:EP X c m Q w s:=⟨z,H,I,e,q⟩;exact subscriptTail_builtinR (x:=w) l.typeIs slot_tuple_getitem.lookup
  (getItem_tuple (j:=j) (Q:=fun r n=>r=w/\EP X c m Q r n) l (by omega) (by omega) (by rw [aap,← o];exact D) (by simpa using F) ⟨rfl,d⟩) L
def wF:Kh X Rh:=by
 intro d e g s J H x y v u Q I A B h C;obtain ⟨z,i,c,rfl,rfl,E,o,q⟩:=h;obtain ⟨t,rfl⟩:=A;obtain ⟨F,rfl⟩:=B;obtain ⟨j,f,p,G,r,w⟩:=yc o;have l:z.cps.toList.length=z.length:=by simp [Str.length]
 rw [l] at f r w;have D:=qJ;exact tail_any (typeIs_str s z t) slot_str_getitem.lookup (getItem_str (c:=c) (by have m:decide (i < -(2 ^ 63:Int))=false:=aaE (by omega);have n:decide (i ≥ 2 ^ 63)=false:=aaE (by omega);rw [m,n,Bool.or_false]) (by rw [f];simpa using p) ⟨.str ⟨#[c]⟩,H,I.tok _,⟨_,rfl⟩,q⟩) C
def Yn (K:Zs):R2:=fun x y H Q=>Bt K x y H Q∨Qo K x y H Q∨Rh x y H Q
def GQ:Kh X (Yn X.K):=eZ.or (j6.or wF)
def Bb (c:Y2) (n j:Nat) (u:ZH):Obj.mapSeq (·.setIfInBounds j u) { cls:=.type "list",data:=.seq c.toArray n }={ cls:=.type "list",data:=.seq (c.set j u).toArray n }:=by simp [Obj.mapSeq]
def Inv.lst (I:Inv X d g H s) (h:H p=some (.lst f)) :
 ∃ (c:Y2) (n:Nat),Vals f c/\s.heap.get? p=some { cls:=.type "list",data:=.seq c.toArray n }/\f.length≤sizeLine:=by
 obtain ⟨z,c,n,r,e⟩:=I.hok p _ h;exact ⟨c,n,r,e,z⟩
def Inv.lstUpd {H:Hp} {s:Zp} {i:List V} {g c:Y2} (I:Inv X d l H s) (h:H p=some (.lst v))
 (w:s.heap.get? p=some { cls:=.type "list",data:=.seq g.toArray n }) (m:f { cls:=.type "list",data:=.seq g.toArray n }={ cls:=.type "list",data:=.seq c.toArray j }) (r:Vals i c) (y:i.length≤sizeLine) (t:Nat) :
 Inv X d l (upd H p (.lst i)) { s with heap:=s.heap.update p f,toks:=t }:=by
 have e:(s.heap.update p f).get? p=some { cls:=.type "list",data:=.seq c.toArray j }:=by rw [aaY f w (by rw [m] <;> rfl),m]
 refine I.write (x:=p) (e:=p) (by rw [h];trivial) (.inl rfl) (fun b u o q=>(aaK _ _ (aas o)).trans q) ⟨_,e⟩ ?_;exact ⟨y,c,j,r,e⟩
def U7:V->V->V->Hp->(Hp->Prop)->Prop:=fun o i v H Q=>∃ p c k j,o=.ref p/\i=.int k/\H p=some (.lst c)/\K9 c.length k=some j/\Q (upd H p (.lst (c.set j v)))
def set_list:Ul X U7:=by
 intro d s C H o i v L M u Q I D E F h;obtain ⟨p,z,k,j,rfl,rfl,m,A,q⟩:=h;cases D;obtain ⟨t,rfl⟩:=E;obtain ⟨c,n,r,g,B⟩:=I.lst m;obtain ⟨e,J,w,x⟩:=Dg A;have f:=r.length;have G:=qJ;have l:Inv X d C (upd H p (.lst (z.set j v))) { s with heap:=s.heap.update p (Obj.mapSeq (·.setIfInBounds j u)) }:=
  I.lstUpd m g (Bb c n j u) (r.set F j) (by rw [List.length_set];exact B) s.toks;by_cases y:0≤k
 ·have hk:k.toNat=j:=by rw [seqIndex_of y x] at e;exact aaM e
  exact PySem.W.ki_setAt g y (by omega) (by rw [aap,← f];exact x) (by rw [hk];exact ⟨_,l,q⟩)
 ·have hk:(k+(c.toArray.size:Int)).toNat=j:=by rw [seqIndex_neg (by omega) w] at e;rw [aap,← f];exact aaM e
  exact PySem.W.ki_setBack g (by omega) (by rw [aap,← f];exact w) (by omega) (by rw [hk];exact ⟨_,l,q⟩)
def wO (c d:Option Int) (n:Nat):(sliceBounds c d none n).1=((HT.je n 0 c:Nat):Int)/\(sliceBounds c d none n).2.1=((HT.je n n d:Nat):Int)/\(sliceBounds c d none n).2.2=1:=by
 refine ⟨?_,?_,rfl⟩
 ·cases c with
  |none=>simp [sliceBounds,HT.je]
  | some i=>
    simp only [sliceBounds,HT.je,Option.getD_none,show (1:Int) > 0 by decide,if_true];by_cases h:i<0
    ·simp only [h,if_true] <;> omega
    ·simp only [h,if_false] <;> omega
 ·cases d with
  |none=>simp [sliceBounds,HT.je]
  | some i=>
    simp only [sliceBounds,HT.je,Option.getD_none,show (1:Int) > 0 by decide,if_true];by_cases h:i<0
    ·simp only [h,if_true] <;> omega
    ·simp only [h,if_false] <;> omega
noncomputable def uQ (c:Y2) (d e:Option Int):slicePick c.toArray d e none=((c.drop (HT.je c.length 0 d)).take (HT.je c.length c.length e-HT.je c.length 0 d)).toArray:=by obtain ⟨f,g,h⟩:=wO d e c.toArray.size;unfold slicePick;rw [f,g,h];simp only [sliceRange_one,pick_run,aap] <;> rfl
def Xz (K:Zs):V->Option Int->Option Int->Hp->VK->Prop:=fun x d e H Q=>∃ a c,x=.ref a/\fM K H a c/\∀ p,H p=none->Q (.ref p) (upd H p (.lst (jV c d e)))
noncomputable def pQ:VD X (Xz X.K):=by intro i s A H x v vl B e f C Q I n p w y h;obtain ⟨a,c,rfl,j,q⟩:=h;cases n;obtain ⟨l,r,g,m⟩:=I.list j;have d:=r.length;refine ⟨"list",_,slot_list_getitem.lookup,g.isList.typeIs,?_⟩;refine wpAny_getItem_list_slice g.isList p w y .none (by simp) ?_ (by rw [aap] <;> omega);rw [uQ,← d];refine ⟨.ref s.heap.objs.size,_,I.laid (t':=s.toks) (o:=.lst (jV c e f)) (fun b z q=>aai _ q) (aae _) ?_,rfl,q _ (I.hok.fresh (aae _))⟩;exact ⟨aaj (rF c e f) m,_,0,(r.drop (HT.je c.length 0 e)).take (HT.je c.length c.length f-HT.je c.length 0 e),aav _ rfl⟩
noncomputable def oZ:V->Bool
 |.non=>true
 |.bl _=>true
 |.int _=>true
 |.str _=>true
 |_=>false
noncomputable def wD:V->V->Bool
 |.non,.non=>true
 |.bl a,.bl b=>a == b
 |.bl a,.int b=>(if a then 1 else 0) == b
 |.int a,.bl b=>a == (if b then 1 else 0)
 |.int a,.int b=>a == b
 |.str a,.str b=>a == b
 |_,_=>false
theorem Sx (e:RelV y u) (c:RelV x v) (g:oZ y=true) (f:oZ x=true):SeqAt.EqAt A s u v (wD y x):=by
 cases y with
 | non=>
   cases e;cases x with
   |non=>cases c;exact SeqAt.EqAt.same _
   |bl b=>cases c;exact SeqAt.EqAt.none_bool b
   |int b=>obtain ⟨t,rfl⟩:=c;exact SeqAt.EqAt.none_int b t
   |str b=>obtain ⟨t,rfl⟩:=c;exact SeqAt.EqAt.none_str b t
   |_=>exact absurd (show false=true from f) aay
 | bl a=>
   cases e;cases x with
   |non=>cases c;exact SeqAt.EqAt.bool_none a
   |bl b=>cases c;exact SeqAt.EqAt.bool_bool a b
   |int b=>obtain ⟨t,rfl⟩:=c;exact SeqAt.EqAt.bool_int a b t
   |str b=>obtain ⟨t,rfl⟩:=c;exact SeqAt.EqAt.bool_str a b t
   |_=>exact absurd (show false=true from f) aay
 | int a=>
   obtain ⟨d,rfl⟩:=e;cases x with
   |non=>cases c;exact SeqAt.EqAt.int_none a d
   |bl b=>cases c;exact SeqAt.EqAt.int_bool a d b
   |int b=>obtain ⟨t,rfl⟩:=c;exact SeqAt.EqAt.int_int a d b t
   |str b=>obtain ⟨t,rfl⟩:=c;exact SeqAt.EqAt.int_str a d b t
   |_=>exact absurd (show false=true from f) aay
 | str a=>
   obtain ⟨d,rfl⟩:=e;cases x with
   |non=>cases c;exact SeqAt.EqAt.str_none a d
   |bl b=>cases c;exact SeqAt.EqAt.str_bool a d b
   |int b=>obtain ⟨t,rfl⟩:=c;exact SeqAt.EqAt.str_int a d b t
   |str b=>obtain ⟨t,rfl⟩:=c;exact SeqAt.EqAt.str_str a d b t
   |_=>exact absurd (show false=true from f) aay
 |_=>exact absurd (show false=true from g) aay
noncomputable def Ng (x:V) (u:ZH):Bool:=match u with
 |.none=>wD .non x
 |.bool b=>wD (.bl b) x
 |.int i _=>wD (.int i) x
 |.str z _=>wD (.str z) x
 |_=>false
theorem Iw (r:RelV y u) (f:oZ y=true):Ng x u=wD y x:=by
 cases y with
 |non=>cases r;rfl
 |bl b=>cases r;rfl
 |int i=>obtain ⟨t,rfl⟩:=r;rfl
 |str z=>obtain ⟨t,rfl⟩:=r;rfl
 |_=>exact absurd (show false=true from f) aay
theorem xK:∀ {c:List V} {d:Y2},Vals c d->c.all oZ=true->d.any (Ng x)=c.any fun y=>wD y x
 |_,_,.nil,_=>rfl
 | y::c,u::d,.cons r t,f=>by rw [abJ,aaP] at f;rw [abK,abK,Iw r f.1,xK t f.2]
theorem ue (g:RelV x v) (h:oZ x=true):∀ {d:List V} {e:Y2},Vals d e->d.all oZ=true->∀ u∈e,SeqAt.EqAt A s u v (Ng x u)
 |_,_,.nil,_=>fun u c=>by cases c
 | y::d,u::e,.cons r t,f=>fun i c=>by
   rw [abJ,aaP] at f;rcases aah.mp c with rfl|c
   ·rw [Iw r f.1];exact Sx r g f.1 h
   ·exact ue g h t f.2 i c
noncomputable def inV (x:V) (c:List V):Bool:=c.any fun y=>wD y x
def ZW (K:Zs) (neg:Bool):R2:=fun x y H Q=>∃ p c,y=.ref p/\(fM K H p c∨gC K H p c)/\oZ x=true/\c.all oZ=true/\Q (.bl (if neg then !inV x c else inV x c)) H
def kO:oH X (compareOp .In) (ZW X.K false):=by
 intro i s o H x y v u Q I j m h;obtain ⟨p,n,rfl,d,g,fs,q⟩:=h;cases m;rcases d with d|d
 ·obtain ⟨c,r,f,l⟩:=I.list d;refine SeqAt.in_listAt (Ng x) f.isList (fun w e=>ue j g r fs w (by simpa using e)) ⟨.bl _,H,I,rfl,?_⟩;rw [show c.toArray.any (Ng x)=c.any (Ng x) by simp,xK r fs];exact q
 ·obtain ⟨c,r,f,l⟩:=I.tuple d;refine SeqAt.in_tupleAt (Ng x) f (fun w e=>ue j g r fs w (by simpa using e)) ⟨.bl _,H,I,rfl,?_⟩;rw [show c.toArray.any (Ng x)=c.any (Ng x) by simp,xK r fs];exact q
def dY:jd X (.builtin "len") (fun j H Q=>∃ p d,j=[.ref p]/\(fM X.K H p d∨gC X.K H p d)/\Q (.int d.length) H):=by
 intro l s v H j w Q I r h;obtain ⟨p,d,rfl,e,q⟩:=h;obtain ⟨u,rfl,m⟩:=vals1 r;cases m;have o:=qJ;rcases e with e|e
 ·obtain ⟨f,g,i,n⟩:=I.list e;have c:=g.length;exact Calls.call_len_list i.isList (by simp only [aap] <;> omega) ⟨.int d.length,H,I.tok _,⟨s.toks+1,by rw [aap,c]⟩,q⟩
 ·obtain ⟨f,g,i,n⟩:=I.tuple e;have c:=g.length;exact len_tuple i (by simp only [aap] <;> omega) ⟨.int d.length,H,I.tok _,⟨s.toks+1,by rw [aap,c]⟩,q⟩
noncomputable def mL:jd X (.builtin "len") (fun c H Q=>∃ z,c=[.str z]/\z.length≤sizeLine/\Q (.int z.length) H):=by intro d s g H c i Q I r h;obtain ⟨z,rfl,f,q⟩:=h;obtain ⟨u,rfl,t,rfl⟩:=vals1 r;have e:=qJ;exact len_str (by omega) ⟨.int z.length,H,I.tok _,⟨_,rfl⟩,q⟩
def pU:jd X (.type "list") (fun B H Q=>∃ p i,B=[.ref p]/\(fM X.K H p i∨gC X.K H p i)/\∀ l,H l=none->Q (.ref l) (upd H l (.lst i))):=by
 intro x s E H B F Q I r h;obtain ⟨p,i,rfl,w,q⟩:=h;obtain ⟨u,rfl,D⟩:=vals1 r;cases D;have m:∀ (c:Y2),Vals i c->i.length≤sizeLine->∀ (d:ZI) (g:Nat),(∀ b C,s.heap.get? b=some C->d.get? b=some C)->
  d.get? s.heap.objs.size=some { cls:=.type "list",dict:=none,data:=.seq c.toArray g,slots:=#[] }->EP X x E Q (.ref s.heap.objs.size) { s with heap:=d }:=fun c f j d g kp e=>
  ⟨.ref s.heap.objs.size,_,I.laid (t':=s.toks) kp (aae _) (show gr X.prog X.w _ d _ (.lst i) from ⟨j,c,g,f,e⟩),rfl,q _ (I.hok.fresh (aae _))⟩;rcases w with w|w
 ·obtain ⟨c,f,y,j⟩:=I.list w;have v:=f.length;obtain ⟨o,z,A,n,hd⟩:=y.isList;exact call_list_seq p (.inl rfl) z A hd (fun d g kp e=>m c f j d g kp e) (by simp only [aap] <;> omega)
 ·obtain ⟨c,f,y,j⟩:=I.tuple w;have v:=f.length;obtain ⟨o,z,A,n,hd⟩:=y;exact call_list_seq p (.inr rfl) z A hd (fun d g kp e=>m c f j d g kp e) (by simp only [aap] <;> omega)
def jb:jd X (.type "tuple") (fun n H Q=>∃ p f,n=[.ref p]/\((fM X.K H p f/\∀ l,H l=none->Q (.ref l) (upd H l (.tup f)))∨(gC X.K H p f/\Q (.ref p) H))):=by
 intro c s y H n B Q I r h;obtain ⟨p,f,rfl,h⟩:=h;obtain ⟨u,rfl,A⟩:=vals1 r;cases A;rcases h with ⟨m,q⟩|⟨m,q⟩
 ·obtain ⟨d,i,j,x⟩:=I.list m;have v:=i.length;refine call_tuple_list j.isList (fun g kp=>?_) (by simp only [aap] <;> omega);have w:Inv X c y H { s with heap:=g }:=I.kept (t':=s.toks) kp;have z:Inv X c y (upd H g.objs.size (.tup f)) { s with heap:=g.push { cls:=.type "tuple",data:=.seq d.toArray } }:=
   w.laid (t':=s.toks) (fun b o e=>aai _ e) (aae _) (show gr X.prog X.w _ _ _ (.tup f) from ⟨x,d,i,IsTup.new _ _⟩);exact ⟨.ref g.objs.size,_,z,rfl,q _ (w.hok.fresh (aae _))⟩
 ·obtain ⟨d,i,j,x⟩:=I.tuple m;exact call_tuple_same j ⟨.ref p,H,I,rfl,q⟩
def Yb (K:Zs) (T:String) (x:V) (H:Hp):Prop:=match x with
 |.str _=>T = "str"
 |.int _=>T = "int"
 |.ref p=>(T = "list"/\∃ d,fM K H p d)∨(T = "tuple"/\∃ o,K.lookup p=some o/\o.cls=.type "tuple"/\o.dict=none)∨
  (T = "dict"/\((∃ c,H p=some (.dK c))∨∃ c,H p=some (.dT c)))∨(T = "set"/\∃ S n,H p=some (.set S n))
 |_=>False
theorem HJ (I:Inv X f y H s) (r:RelV x v) (ty:Yb X.K T x H) :
 s.TypeIs v T/\∀ a,v=.ref a->∃ j,s.heap.get? a=some j/\j.dict=none:=by
 cases x with
 | str z=>obtain ⟨t,rfl⟩:=r;cases (show T = "str" from ty);exact ⟨typeIs_str s z t,fun _ e=>nomatch e⟩
 | int i=>obtain ⟨t,rfl⟩:=r;cases (show T = "int" from ty);exact ⟨typeIs_int s i t,fun _ e=>nomatch e⟩
 | ref p=>
   cases r;rcases ty with ⟨rfl,A,q⟩|⟨rfl,o,hk,w,hd⟩|⟨rfl,hk⟩|⟨rfl,S,n,hk⟩
   ·obtain ⟨m,_,l,_⟩:=I.list q;refine ⟨l.isList.typeIs,fun a e=>?_⟩;cases e;obtain ⟨o,n,e,c,hd,_⟩:=l;exact ⟨o,e,hd⟩
   ·refine ⟨⟨o,I.kIn p o hk,w⟩,fun a e=>?_⟩;cases e;exact ⟨o,I.kIn _ o hk,hd⟩
   ·have z:∃ o,s.heap.get? p=some o/\o.ExactDict:=by
     rcases hk with ⟨h,hk⟩|⟨h,hk⟩
     ·obtain ⟨_,_,_,_,o,_,_,e,d,_⟩:=I.hok p _ hk;exact ⟨o,e,d⟩
     ·obtain ⟨_,_,_,_,o,_,_,e,d,_⟩:=I.hok p _ hk;exact ⟨o,e,d⟩
    obtain ⟨o,e,d⟩:=z;refine ⟨⟨o,e,d.1⟩,fun a g=>?_⟩;cases g;exact ⟨o,e,d.2.1⟩
   ·obtain ⟨o,_,_,_,e,d,_⟩:=I.hok p _ hk;refine ⟨⟨o,e,d.1⟩,fun a g=>?_⟩;cases g;exact ⟨o,e,d.2.1⟩
 |_=>exact False.elim ty
def XZ (K:Zs) (T:String) (r:V->List V->Hp->VK->Prop) (e:TE):TE:=fun d H Q=>e d H fun x c=>Yb K T x c/\r x [] c Q
def Zu (K:Zs) (T:String) (r:V->List V->Hp->VK->Prop) (g:TE) (t:TA):TE:=fun c H Q=>g c H fun x d=>Yb K T x d/\t c d fun e f=>r x e f Q
def yd {X:Cx} {o:ZO} {B:TE} {a:Str} {b e:Pos} {T A:String} {r:V->List V->Hp->VK->Prop} (w:PlainAttrs T) (g:Slot T a A) (i:typeOf (.builtin A)=pure (.type "method_descriptor")) (y:L_ X A r) (z:PE X o B)
 (d:attributeBase o a X.env (eval o X.env)=eval o X.env:=by rfl) (f:(b.endLine == e.line)=true:=by rfl):PE X (.Call (.Attribute o a b) [] [] e) (XZ X.K T r B):=by
 intro c s l H Q I h;refine wpAny_Call_method0_late d f (gj (z c s l H _ I h) fun v m ⟨x,n,j,r1,ty,q1⟩=>?_);obtain ⟨p,q⟩:=HJ j r1 ty;exact ⟨T,A,w,g,i,p,q,acp rfl (PySem.evalArgs_none (y c m l n x [] v [] Q j r1 .nil q1))⟩
noncomputable def lu {X:Cx} {o e:ZO} {M:YR} {P:TE} {t:TA} {b:Str} {N a:Pos} {T O:String} {r:V->List V->Hp->VK->Prop} (E:PlainAttrs T) (i:Slot T b O) (m:typeOf (.builtin O)=pure (.type "method_descriptor")) (F:L_ X O r) (G:PE X o P) (J:PA X (e::M) t)
 (f:attributeBase o b X.env (eval o X.env)=eval o X.env:=by rfl)
 (j:((backTo a (starEach (e::M) X.env)).all (fun x=>!x.1) && (backToKw a (keywordEach [] X.env)).all (fun x=>x.1.isSome) && decide ((e::M).length+([]:List Keyword).length+(if ([]:List Keyword).isEmpty then 0 else 1)<30))=true:=by rfl)
 (g:(N.endLine == a.line)=true:=by rfl) (L:starEach (e::M) X.env=(false,eval e X.env)::starEach M X.env:=by rfl) (d:(backTo a (starEach M X.env)).any (·.1)=false:=by rfl) :
 PE X (.Call (.Attribute o b N) (e::M) [] a) (Zu X.K T r P t):=by
 intro c s l H Q I h;refine wpAny_Call_method_late f j g rfl (gj (G c s l H _ I h) fun v q ⟨x,w,n,r1,ty,q1⟩=>?_);obtain ⟨C,D⟩:=HJ n r1 ty;refine ⟨T,O,E,i,m,C,D,?_⟩;have p:=J a c q l w _ n q1;rw [L] at p ⊢;refine acp (by show (false || (backTo a (starEach M X.env)).any (·.1))=false;rw [d] <;> rfl) (Calls.evalArgs_plain ?_);exact gj p fun y z ⟨vs,A,B,r2,q2⟩=>F c z l A x vs v y Q B r1 r2 q2
def Vu (X:Cx) (e:String) (r:V->List V->Hp->VK->Prop):Prop:=
 ∀ (a:YI) (s:Zp) (b:St) (H:Hp) (x:V) (c:List V) (v:ZH) (d:Y2) (Q:VK),Inv X a b H s->RelV x v->Vals c d->r x c H Q->
   wpAny (model X.prog X.w) X.A (call (.builtin e) (v::d)) (EP X a b Q) X.xe s
theorem Vals.one:∀ {x:V} {a:Y2},Vals [x] a->∃ u,a=[u]/\RelV x u
 |_,_,.cons r .nil=>⟨_,rfl,r⟩
theorem Vals.zero:∀ {a:Y2},Vals [] a->a=[]
 |_,.nil=>rfl
theorem Vals.dropLast (h:Vals a b):Vals a.dropLast b.dropLast:=by
 induction h with
 |nil=>exact .nil
 | cons r t c=>
   cases t with
   |nil=>exact .nil
   |cons q d=>exact .cons r c
theorem BK {d:Type} (l:List d):l.eraseIdx (l.length-1)=l.dropLast:=by
 induction l with
 |nil=>rfl
 | cons a r c=>
   cases r with
   |nil=>rfl
   | cons b r=>
     have e:(a::b::r).length-1=((b::r).length-1)+1:=by have f:(a::b::r).length=r.length+2:=rfl;have g:(b::r).length=r.length+1:=rfl;omega
     rw [e,List.eraseIdx_cons_succ,c]
     all_goals rfl
section
variable {X:Cx} {dR:YI} {σ:St} {H:Hp} {s:Zp} {l b:Zl} {xs ys zs:List V}
def Inv.lset {a its':Y2} {f:Array Value->Array Value} (I:Inv X dR σ H s) (g:H l=some (.lst xs))
 (e:s.heap.get? l=some { cls:=.type "list",data:=.seq a.toArray n }) (h:f a.toArray=its'.toArray) (i:Vals ys its') (j:ys.length≤sizeLine) :
 Inv X dR σ (upd H l (.lst ys)) { s with heap:=s.heap.update l (Obj.mapSeq f),toks:=t' }:=by
 have q:=PySem.IsL.update e f;rw [h] at q;refine I.write (x:=l) (e:=l) (by rw [g];exact trivial) (.inl rfl) (fun m u c d=>(aaK s.heap (Obj.mapSeq f) (aas c)).trans d) ⟨_,q⟩ ?_;exact ⟨j,its',_,i,q⟩
def Inv.lnew (I:Inv X dR σ H s) (c:Vals ys a) (d:ys.length≤sizeLine) :
 Inv X dR σ (upd H s.heap.objs.size (.lst ys)) { s with heap:=s.heap.push { cls:=.type "list",data:=.seq a.toArray },toks:=t' }:=
 I.laid (fun _ _ q=>aai _ q) (aae _) ⟨d,a,0,c,aav _ rfl⟩
def Inv.fresh (I:Inv X dR σ H s):H s.heap.objs.size=none:=I.hok.fresh (aae _)
noncomputable def Inv.lstM (I:Inv X dR σ H s) (c:H l=some (.lst xs)):xs.length≤sizeLine/\∃ (a:Y2) (n:Nat),Vals xs a/\xs.length=a.length/\s.heap.get? l=some { cls:=.type "list",data:=.seq a.toArray n }:=by obtain ⟨z,a,n,r,e⟩:=I.hok l _ c;exact ⟨z,a,n,r,r.length,e⟩
def Gx (h:n≤sizeLine):Builtin.List.listTooLong n=false:=by unfold Builtin.List.listTooLong;exact aaE (by omega)
end
section
variable {X:Cx}
def xO:V->List V->Hp->VK->Prop:=fun x vs H Q=>∃ l a y,x=.ref l/\vs=[y]/\H l=some (.lst a)/\a.length<sizeLine/\Q .non (upd H l (.lst (a++[y])))
noncomputable def ik:Vu X "list.append" xO:=by intro c s o H x vs v p Q I f g h;obtain ⟨l,i,y,rfl,rfl,b,j,q⟩:=h;cases f;obtain ⟨u,rfl,d⟩:=g.one;obtain ⟨z,a,n,r,m,e⟩:=I.lstM b;refine call_meets F.slot_list_append ⟨_,e,rfl⟩ F.entry_list_append (F.args_list_append_2 _ _) (PySem.list_append l a.toArray n u (by rw [aap];omega)) ⟨e,?_⟩;refine ⟨.non,_,I.lset (its':=a++[u]) b e (by simp) (r.append (.cons d .nil)) ?_,rfl,q⟩;rw [aaD,List.length_singleton];omega
def KH:V->List V->Hp->VK->Prop:=fun x vs H Q=>∃ l b a c,x=.ref l/\vs=[.ref b]/\H l=some (.lst a)/\H b=some (.lst c)/\a.length+c.length≤sizeLine/\Q .non (upd H l (.lst (a++c)))
def Te:Vu X "list.extend" KH:=by
 intro dR s σ H x vs v us Q I rx rv h;obtain ⟨l,b,xs,zs,rfl,rfl,hH,hB,hz,q⟩:=h;cases rx;obtain ⟨u,rfl,ru⟩:=rv.one;cases ru;obtain ⟨z,its,n,r,hl,e⟩:=I.lstM hH;obtain ⟨z2,its2,n2,r2,hl2,e2⟩:=I.lstM hB;have hsz:its.toArray.size+its2.toArray.size≤sizeLine:=by rw [aap,aap];omega
 have hlong:¬ (!its.toArray.isEmpty && Builtin.List.listTooLong (its.toArray.size+its2.toArray.size))=true:=by rw [Gx hsz,acq];exact aay
 refine call_meets F.slot_list_extend ⟨_,e,rfl⟩ F.entry_list_extend (F.args_list_extend_2 _ _)
  (AutoSeq1.list_extend_list_list_0 l its.toArray n b its2.toArray n2 hlong (by rw [aap];omega) (by omega)) ⟨e,e2,?_⟩;refine ⟨.non,_,I.lset (its':=its++its2) hH e (by simp) (r.append r2) ?_,rfl,q⟩;rw [aaD];omega
def YD:V->List V->Hp->VK->Prop:=fun x vs H Q=>∃ l a y,x=.ref l/\vs=[]/\H l=some (.lst a)/\a[a.length-1]?=some y/\Q y (upd H l (.lst a.dropLast))
def Xu:Vu X "list.pop" YD:=by
 intro f s A H x vs v B Q I o p h;obtain ⟨l,w,y,rfl,rfl,d,g,q⟩:=h;cases o;have b:=p.zero;subst b;obtain ⟨z,a,n,r,i,e⟩:=I.lstM d;obtain ⟨u,j,m⟩:=r.get g;have c:a.toArray[a.toArray.size-1]?=some u:=by show a.toArray[a.length-1]?=some u;rw [← ab1,← i];exact j
 refine call_meets F.slot_list_pop ⟨_,e,rfl⟩ F.entry_list_pop (F.args_list_pop_1 _) (MeetsSeq.list_pop_last l a.toArray n u c (by rw [aap];omega)) ⟨e,?_⟩;refine ⟨y,_,I.lset (its':=a.dropLast) d e ?_ r.dropLast ?_,m,q⟩
 ·show a.toArray.eraseIdxIfInBounds (a.toArray.size-1)=a.dropLast.toArray;rw [aap,List.eraseIdxIfInBounds_toArray,BK]
 ·rw [List.length_dropLast];omega
def Qe:V->List V->Hp->VK->Prop:=fun x vs H Q=>∃ l a,x=.ref l/\vs=[]/\H l=some (.lst a)/\Q .non (upd H l (.lst []))
noncomputable def Jd:Vu X "list.clear" Qe:=by intro d s m H x vs v o Q I f g h;obtain ⟨l,i,rfl,rfl,c,q⟩:=h;cases f;have a:=g.zero;subst a;obtain ⟨z,b,n,r,j,e⟩:=I.lstM c;refine call_meets F.slot_list_clear ⟨_,e,rfl⟩ F.entry_list_clear (F.args_list_clear_1 _) (AutoSeq1.list_clear_list_0 l b.toArray n (by rw [aap];omega)) ⟨e,?_⟩;exact ⟨.non,_,I.lset (its':=[]) (ys:=[]) c e rfl .nil (aaR _),rfl,q⟩
def Y5:R2:=fun x y H Q=>∃ l b a c,x=.ref l/\y=.ref b/\H l=some (.lst a)/\H b=some (.lst c)/\a.length+c.length≤sizeLine/\∀ p,H p=none->Q (.ref p) (upd H p (.lst (a++c)))
def Qu:oH X (binaryOp .Add) Y5:=by
 intro d s E H x y v u Q I o p h;obtain ⟨l,b,w,A,rfl,rfl,g,i,B,q⟩:=h;cases o;cases p;obtain ⟨z,c,n,r,C,e⟩:=I.lstM g;obtain ⟨z2,a,D,r2,j,m⟩:=I.lstM i;refine PySem.P.add_list e m ?_ (by rw [aap,aap];omega);have f:c.toArray++a.toArray=(c++a).toArray:=by simp
 rw [f];exact ⟨.ref _,_,I.lnew (t':=s.toks) (r.append r2) (by rw [aaD];omega),rfl,q _ I.fresh⟩
end
section
variable {κ:Type} [DecidableEq κ]
noncomputable def mR (a:List (κ×V)) (k:κ):Option V:=(a.find? fun b=>decide (b.1=k)).map (·.2)
noncomputable def putK (a:List (κ×V)) (k:κ) (v:V):List (κ×V):=
 if (a.any fun b=>decide (b.1=k))=true then a.map (fun b=>if b.1=k then (b.1,v) else b) else a++[(k,v)]
def nP {p:κ×V} {r:List (κ×V)} {k:κ} (e:p.1=k):mR (p::r) k=some p.2:=by simp [mR,abL,e]
def mj {p:κ×V} {r:List (κ×V)} {k:κ} (e:¬ p.1=k):mR (p::r) k=mR r k:=by simp [mR,abL,e]
theorem yL (k:κ):∀ a:List (κ×V),(a.any fun b=>decide (b.1=k))=(mR a k).isSome
 |[]=>rfl
 | p::r=>by
   rw [abK];by_cases e:p.1=k
   ·simp only [nP e,aaH e,Bool.true_or,Option.isSome_some]
   ·rw [mj e,aaE e,Bool.false_or];exact yL k r
def lF (a:List (κ×V)) (k:κ) (v:V):(putK a k v).length≤a.length+1:=by
 unfold putK;split
 ·rw [aag];omega
 ·rw [aaD,aaA,ab2];omega
theorem lQ.isSome_eq (r:lQ o u):o.isSome=u.isSome:=by
 cases o with
 | none=>cases u with
   |none=>rfl
   |some _=>exact (show False from r).elim
 | some _=>cases u with
   |none=>exact (show False from r).elim
   |some _=>rfl
theorem KV.val {a:List (κ×V)} {vs:List (κ×Value)} (r:KV a vs) (k:κ):lQ (mR a k) (valueAt vs k):=by
 unfold KV at r;induction r with
 |nil=>exact aaF
 | @cons p q j d h t i=>
   obtain ⟨f,g⟩:=h;by_cases e:p.1=k
   ·have c:q.1=k:=f.symm.trans e;have b:valueAt (q::d) k=some q.2:=by simp [valueAt,abL,c]
    rw [nP e,b];exact g
   ·have c:¬ q.1=k:=fun z=>e (f.trans z);have b:valueAt (q::d) k=valueAt d k:=by simp [valueAt,abL,c]
    rw [mj e,b];exact i
theorem KV.any {a:List (κ×V)} {vs:List (κ×Value)} (r:KV a vs) (k:κ):(a.any fun b=>decide (b.1=k))=vs.any fun b=>decide (b.1=k):=by
 unfold KV at r;induction r with
 |nil=>rfl
 |cons h t c=>rw [abK,abK,c,h.1]
theorem KV.repl (r:KV b vs) (k:κ) (g:RelV y u) :
 KV (b.map fun a=>if a.1=k then (a.1,y) else a) (vs.map fun a=>if a.1=k then (a.1,u) else a):=by
 unfold KV at r ⊢;induction r with
 |nil=>exact .nil
 | @cons p q i j h t f=>
   rw [aaw,aaw];refine .cons ?_ f;obtain ⟨c,d⟩:=h;by_cases e:p.1=k
   ·rw [aac e,aac (c.symm.trans e)];exact ⟨c,g⟩
   ·rw [aab e,aab (fun z=>e (c.trans z))];exact ⟨c,d⟩
def KV.put (r:KV a vs) (k:κ) (b:RelV y u):KV (putK a k y) (stored vs k u):=by
 unfold putK stored;rw [r.any k];by_cases e:(vs.any fun c=>decide (c.1=k))=true
 ·rw [aac e,aac e];exact r.repl k b
 ·rw [aab e,aab e];exact Paired.snoc r ⟨rfl,b⟩
def KV.length {a:List (κ×V)} {vs:List (κ×Value)} (r:KV a vs):a.length=vs.length:=abf r
end
theorem v_ (r:RelV (kV k) u):(gW P w).is k u=true:=by
 cases k with
 |inl i=>obtain ⟨t,e⟩:=(show ∃ t,u=Value.int i t from r);subst e;exact zu P w i t
 |inr x=>obtain ⟨t,e⟩:=(show ∃ t,u=Value.str x t from r);subst e;exact zy P w x t
theorem vG:∀ {a:List Key} {b:Y2},Vals (a.map kV) b->ItemsAre (gW P w) a b
 |[],_,r=>by rw [acr] at r;cases r;exact .nil
 | k::a,_,r=>by
   rw [aaw] at r;cases r with
   |cons h t=>exact .cons (v_ h) (vG t)
abbrev KT (H:Hp):List (List Key×V)->List (List Key×Addr×Value)->Prop:=Paired fun p q=>p.1=q.1/\H q.2.1=some (.tup (p.1.map kV))/\RelV p.2 q.2.2
theorem KT.val {H:Hp} {a:List (List Key×V)} {g:List (List Key×Addr×Value)} (r:KT H a g) (k:List Key):lQ (mR a k) ((atKey g k).map (·.2)):=by
 induction r with
 |nil=>exact aaF
 | @cons p q l d h t j=>
   obtain ⟨f,_,i⟩:=h;by_cases e:p.1=k
   ·have c:q.1=k:=f.symm.trans e;have b:atKey (q::d) k=some q.2:=by simp [atKey,abL,c]
    rw [nP e,b];exact i
   ·have c:¬ q.1=k:=fun z=>e (f.trans z);have b:atKey (q::d) k=atKey d k:=by simp [atKey,abL,c]
    rw [mj e,b];exact j
theorem KT.repl {H:Hp} {a:List (List Key×V)} {f:List (List Key×Addr×Value)} (r:KT H a f) (k:List Key) {y:V} {u:ZH} (j:RelV y u) :
 KT H (a.map fun c=>if c.1=k then (c.1,y) else c) (f.map (putAt k u)):=by
 induction r with
 |nil=>exact .nil
 | @cons p q l m h t i=>
   rw [aaw,aaw];refine .cons ?_ i;obtain ⟨b,d,g⟩:=h;unfold putAt;by_cases e:p.1=k
   ·rw [aac e,aac (b.symm.trans e)];exact ⟨b,d,j⟩
   ·rw [aab e,aab (fun z=>e (b.trans z))];exact ⟨b,d,g⟩
def KT.put {H:Hp} {a:List (List Key×V)} {c:List (List Key×Addr×Value)} (r:KT H a c) (k:List Key) {b:Zl} {y:V} {u:ZH} (g:H b=some (.tup (k.map kV))) (d:RelV y u) :
 KT H (putK a k y) (storedH c k b u):=by
 have e:(a.any fun f=>decide (f.1=k))=(atKey c k).isSome:=by rw [yL,(r.val k).isSome_eq,Option.isSome_map]
 unfold putK storedH;rw [e];by_cases q:(atKey c k).isSome=true
 ·rw [aac q,aac q];exact r.repl k d
 ·rw [aab q,aab q];exact Paired.snoc r ⟨rfl,g,d⟩
def KT.keeps {H d:Hp} (r:KT H a e) (f:∀ b c,H b=some (.tup c)->d b=some (.tup c)):KT d a e:=
 Paired.mapP r fun _ _ z=>⟨z.1,f _ _ z.2.1,z.2.2⟩
def Pa (ok:nJ P w H h) (e:Rd H a u):gr P w H h a u:=e.ok ok
def vq (ok:nJ P w H h) (e:Rd H a (.dK b)):b.length≤sizeLine/\(a == sysModules)=false/\∃ vs,KV b vs/\h.DictOf (gW P w) a vs:=
 show gr P w H h a (.dK b) from Pa ok e
def zE (ok:nJ P w H h) (e:H a=some (.dK b)):b.length≤sizeLine/\(a == sysModules)=false/\∃ vs,KV b vs/\h.DictOf (gW P w) a vs:=vq ok (.inl e)
noncomputable def yg (ok:nJ P w H h) (e:H a=some (.tup (c.map kV))):(tupleKind (gW P w)).is h c a:=by obtain ⟨_,b,r,o,d,f,n,g⟩:=(show gr P w H h a (.tup (c.map kV)) from ok a _ e);exact ⟨o,b.toArray,n,d,f,g,by simpa using vG r⟩
def Cu (ok:nJ P w H h) (e:Rd H a (.dT b)):b.length≤sizeLine/\(a == sysModules)=false/\
 ∃ d,KT H b d/\h.DictOfH (tupleKind (gW P w)) a d:=by
 obtain ⟨z,y,d,r,o,g,i,j,n,s,v,A⟩:=(show gr P w H h a (.dT b) from Pa ok e);refine ⟨z,y,d,r,o,g,i,j,n,s,v,fun x c=>?_,A⟩;have all:∀ {l:List (List Key×V)} {m:List (List Key×Addr×Value)},KT H l m->∀ x∈m,(tupleKind (gW P w)).is h x.1 x.2.1:=by
  intro l m q;induction q with
  |nil=>intro x c;exact nomatch c
  | @cons p q C D f t B=>
    intro x c;rcases aah.mp c with e|c
    ·subst e;exact yg ok (by rw [← f.1];exact f.2.1)
    ·exact B x c
 exact all r x c
def VL (ok:nJ P w H h) (e:H a=some (.dT b)):b.length≤sizeLine/\(a == sysModules)=false/\
 ∃ c,KT H b c/\h.DictOfH (tupleKind (gW P w)) a c:=Cu ok (.inl e)
def o6 (H:Hp) (a:Zl) (y:V) (r:Option V):Prop:=
 (∃ c k,Rd H a (.dK c)/\y=kV k/\r=mR c k)∨∃ c k b,Rd H a (.dT c)/\y=.ref b/\H b=some (.tup (k.map kV))/\r=mR c k
def su (H:Hp) (a:Zl) (y v:V) (d:Hp):Prop:=
 (∃ c k,H a=some (.dK c)/\y=kV k/\c.length<sizeLine/\d=upd H a (.dK (putK c k v)))∨
 ∃ c k b,H a=some (.dT c)/\y=.ref b/\H b=some (.tup (k.map kV))/\c.length<sizeLine/\d=upd H a (.dT (putK c k v))
def o6.k {H:Hp} {a:Zl} {b:List (Key×V)} {k:Key} (e:H a=some (.dK b)):o6 H a (kV k) (mR b k):=.inl ⟨b,k,.inl e,rfl,rfl⟩
def su.k {H:Hp} {a:Zl} {b:List (Key×V)} {k:Key} {v:V} (e:H a=some (.dK b)) (c:b.length<sizeLine):su H a (kV k) v (upd H a (.dK (putK b k v))):=.inl ⟨b,k,e,rfl,c,rfl⟩
section
variable {X:Cx} {dR:YI} {σ:St} {H:Hp} {s:Zp} {a:Zl} {y v:V} {u r:ZH} {o:Option V} {A:ZN} {E:ZU}
def Inv.big (I:Inv X dR σ H s):sysModules<s.heap.objs.size:=by have h:mainGlobals<s.heap.objs.size:=(I.mod.glob.keeps I.bk).lt;exact ab3 (by decide) h
def Ft (D:A.units+1<cLine) (I:Inv X dR σ H s) (g:o6 H a y (some v)) (w:RelV y u) (h:∀ f q,Inv X dR σ H q->RelV v f->Q f q) :
 wpAny (model X.prog X.w) A (getItem (.ref a) u) Q E s:=by
 rcases g with ⟨m,k,e,n,l⟩|⟨m,k,b,e,n,C,l⟩
 ·subst n;obtain ⟨z,hd,vs,c,dd⟩:=vq I.hok e;obtain ⟨f,i,d⟩:=lQ.some_of (v:=v) (o:=valueAt vs k) (by rw [l];exact c.val k);exact wpAny_getItem_of (v_ w) dd.mapOf i (h f _ (I.tok _) d)
 ·subst n;cases (show u=Value.ref b from w);obtain ⟨z,hd,x,c,dd⟩:=Cu I.hok e;obtain ⟨f,i,d⟩:=lQ.some_of (v:=v) (o:=(atKey x k).map (·.2)) (by rw [l];exact c.val k);obtain ⟨p,B,j⟩:=abE.mp i;refine wpAny_getItem_heap (tupleKind_room_in1 D) (yg I.hok C) dd B ?_;rw [j];exact h f _ (I.tok _) d
def Yz (n:A.units+1<cLine) (I:Inv X dR σ H s) (g:o6 H a y o) (j:RelV y u) (h:∀ i,Inv X dR σ H i->Q (.bool o.isSome) i) :
 wpAny (model X.prog X.w) A (compareOp .In u (.ref a)) Q E s:=by
 rcases g with ⟨d,k,e,f,l⟩|⟨d,k,b,e,f,m,l⟩
 ·subst f;obtain ⟨z,hd,vs,c,dd⟩:=vq I.hok e;refine wpAny_in_of (v_ j) hd dd.mapOf ?_;rw [← (c.val k).isSome_eq,← l];exact h _ (I.tok _)
 ·subst f;cases (show u=Value.ref b from j);obtain ⟨z,hd,p,c,dd⟩:=Cu I.hok e;refine wpAny_in_heap (tupleKind_room_in1 n) (yg I.hok m) hd dd ?_;have q:=(c.val k).isSome_eq;rw [Option.isSome_map] at q;rw [← q,← l];exact h _ (I.tok _)
def sW (I:Inv X dR σ H s) (g:V6 (H a)) (h:Heap.SameBut a s.heap c) (i:∃ q,c.get? a=some q) (new:gr X.prog X.w (upd H a d) c a d) :
 Inv X dR σ (upd H a d) { s with heap:=c,toks:=t' }:=
 I.write (x:=a) (e:=a) g (.inl rfl) (fun b q f z=>(h.2 b f).trans z) i new
def wV (z:b.length≤sizeLine) (hd:(a == sysModules)=false) (c:KV b vs) (dd:d.DictOf (gW P w) a vs) :
 gr P w e d a (.dK b):=⟨z,hd,vs,c,dd⟩
def Fg {Q:Unit->Shared->Prop} (W:A.units+1<cLine) (I:Inv X dR σ H s) (g:su H a y v G) (J:RelV y u) (L:RelV v r) (h:∀ D,Inv X dR σ G D->Q () D) :
 wpAny (model X.prog X.w) A (setItem (.ref a) u r) Q E s:=by
 rcases g with ⟨f,k,e,w,l,x⟩|⟨f,k,b,e,w,F,l,x⟩
 ·subst w x;obtain ⟨z,hd,vs,d,dd⟩:=zE I.hok e;have n:vs.length≤sizeLine:=by rw [← d.length];exact z
  have p:(putK f k v).length≤sizeLine:=by have:=lF f k v;omega
  refine wpAny_setItem_pairs (hsz:=n) (v_ J) dd fun B i m=>h _ ?_;have M:∃ q,B.get? a=some q:=let ⟨q,_,_,j,_⟩:=i;⟨q,j⟩
  exact sW I (by rw [e];exact aaF) m M (wV p hd (d.put k L) i)
 ·subst w x;cases (show u=Value.ref b from J);obtain ⟨z,hd,N,d,dd⟩:=VL I.hok e;have n:N.length≤sizeLine:=by rw [← abf d];exact z
  have p:(putK f k v).length≤sizeLine:=by have:=lF f k v;omega
  refine wpAny_setItem_heap (hsz:=n) (tupleKind_room_in1 W) (yg I.hok F) dd fun B i m=>h _ ?_;obtain ⟨q,O,P,j,R,S,T,_,U⟩:=i;refine sW I (by rw [e];exact aaF) m ⟨q,j⟩ ⟨p,hd,_,(d.put k F L).keeps fun c Y C=>?_,q,O,P,j,R,S,T,U⟩;rw [bK (iJ C e (fun z=>nomatch z))];exact C
end
noncomputable def Vd (I:Inv X d g H s) (e:Rd H a (.dK f)) (h:∀ t c,Inv X d g H c->Q (.int f.length t) c):wpAny (model X.prog X.w) A (call (.builtin "len") [.ref a]) Q E s:=by obtain ⟨z,hd,vs,b,dd⟩:=vq I.hok e;refine call_len_dict hd dd (by rw [← b.length];rw [sizeLine_eq] at z;omega) ?_;rw [← b.length];exact h _ _ (I.tok _)
def Wz (i:ZO):Prop:=∀ a b,subscripted i false a b=operate [a,b] (getItem a b)
def LK {a:ZB} {w:ZE} {A:ZN} {E:ZU} {s:Zp} {env:Env} {c b:ZO} {n:Pos} {T q:String} {Q:ZU}
 (v:typeLookup (.type T) "__getitem__" = pure (some (.builtin q))) (y:Wz b)
 (h:wpAny (model a w) A (eval c env) (fun o f=>wpAny (model a w) A (eval b env) (fun i d=>d.TypeIs o T/\wpAny (model a w) A (getItem o i) Q E d) E f) E s) :
 wpAny (model a w) A (eval (.Subscript c b n) env) Q E s:=by
 refine Subscript_ (aat h (fun o f l=>aat l (fun i d e=>?_) fun _ _ x=>x) fun _ _ x=>x);obtain ⟨p,e⟩:=e;unfold subscriptTail;refine aaa ?_;rw [getitemInPython_of_ne p.not_modules];refine aaa (acs p v ?_);have j:wpAny (model a w) A (subscripted b false o i) (fun r g=>wpAny (model a w) A (letTemporaryGo c o r >>= fun _=>pure r) Q E g) E d:=by rw [y o i];exact wpAny_operating (aat e (fun r g m=>aaa (wpAny_letTemporaryGo (aad m))) fun _ _ x=>x)
 first
  |exact aad (aaa j)
  |exact aaa (aad (aaa j))
  |exact aaa j
def yJ (I:Inv X c f H s) (g:o6 H a y o):s.TypeIs (.ref a) "dict":=by
 rcases g with ⟨d,k,e,_,_⟩|⟨d,k,b,e,_,_,_⟩
 ·obtain ⟨_,_,vs,_,dd⟩:=vq I.hok e;exact dd.typeIs
 ·obtain ⟨_,_,h,_,dd⟩:=Cu I.hok e;exact dd.typeIs
def Va (e ty:TE):TE:=fun b H Q=>e b H fun x d=>ty b d fun y c=>∃ a v,x=.ref a/\o6 c a y (some v)/\Q v c
def Yv (ty e:TE):TE:=fun b H Q=>ty b H fun y d=>e b d fun x c=>∃ a o,x=.ref a/\o6 c a y o/\Q (.bl o.isSome) c
def Wu (g ty h:TE):TS:=fun D b H=>h b H fun v d=>g b d fun x e=>ty b e fun y f=>∃ a c,x=.ref a/\su f a y v c/\D.nx b c
noncomputable def iB {X:Cx} (z:X.A.units+1<cLine) (A:PE X o e) (B:PE X i ty) (C:Wz i:=by intro _ _;rfl):PE X (.Subscript o i J) (Va e ty):=by intro b s f H Q I h;refine LK PySem.F.slot_dict_getitem.lookup C (gj (A b s f H _ I h) fun u j ⟨x,l,m,n,q1⟩=>gj (B b j f l _ m q1) fun D E ⟨y,p,d,q,a,v,r,g,q2⟩=>?_);subst r;obtain rfl:u=Value.ref a:=n;exact ⟨yJ d g,Ft z d g q fun F G w c=>⟨v,p,w,c,q2⟩⟩
noncomputable def Qj {X:Cx} (w:X.A.units+1<cLine) (z:PE X i ty) (A:PE X o e):PC X .In i o (Yv ty e):=by intro b s c H Q I h;refine gj (z b s c H _ I h) fun B d ⟨y,f,j,l,q1⟩=>gj (A b d c f _ j q1) fun u C ⟨x,m,n,p,a,q,r,g,q2⟩=>?_;subst r;obtain rfl:u=Value.ref a:=p;exact Yz w n g l fun D v=>⟨.bl q.isSome,m,v,rfl,q2⟩
def lH {X:Cx} {R:Pos} (F:X.A.units+1<cLine) (G:PE X o T) (J:PE X i ty) (L:PE X e U) (M:swapsWith e (some (.Subscript o i S)) R.line X.env=pure false) :
 PS X (.Assign [.Subscript o i S] e R) (Wu T ty U):=by
 intro b s c H D I h;refine wpAny_Assign_Subscript (gj (L b s c H _ I h) fun r d ⟨v,f,j,l,q1⟩=>gj (G b d c f _ j q1) fun u m ⟨x,n,p,q,q2⟩=>gj (J b m c n _ p q2) fun N O ⟨y,P,w,z,a,A,B,g,C⟩=>?_) M;subst B;obtain rfl:u=Value.ref a:=q;exact Fg F w g z l fun Q E=>⟨c,A,E,C⟩
def tV (h:ZI) (a:sysModules<h.objs.size):gr P w H (h.push { cls:=.type "dict",data:=.dict #[] }) h.objs.size (.dK []):=
 ⟨aaR _,aby.mpr (aas (aal a)),[],.nil,Heap.DictOf.new h⟩
def SQ:TE:=fun _ H Q=>∀ p,H p=none->Q (.ref p) (upd H p (.dK []))
noncomputable def pW:PE X (.Dict [] [] d) SQ:=fun b s c H Q I h=>wpAny_Dict_empty ⟨.ref s.heap.objs.size,_,I.laid (a:=s.heap.objs.size) (o:=.dK []) (t':=s.toks) (fun _ _ q=>aai _ q) (aae _) (tV s.heap I.big),rfl,h _ (I.hok.fresh (aae _))⟩
def Bj:List (TE×TE)->St->Hp->(List (V×V)->Hp->Prop)->Prop
 |[],_,H,Q=>Q [] H
 |(tk,tv)::r,σ,H,Q=>tk σ H fun x a=>tv σ a fun y b=>Bj r σ b fun c d=>Q ((x,y)::c) d
abbrev VV:List (V×V)->List (Value×Value)->Prop:=Paired fun p q=>RelV p.1 q.1/\RelV p.2 q.2
def WP (X:Cx) (d:Pos) (keys:List (Option Expr)) (a:YR) (e:List (TE×TE)):Prop:=
 ∀ (b:YI) (s:Zp) (c:St) (H:Hp) (Q:List (V×V)->Hp->Prop),Inv X b c H s->Bj e c H Q->
   wpAny (model X.prog X.w) X.A (evalPairs (pairTrees keys a X.env d)) (fun vs h=>∃ f g,Inv X b c g h/\VV f vs/\Q f g) X.xe s
def O3:WP X a [] [] []:=fun b s c H Q I h=>pairTrees_nil_walk ⟨[],H,I,.nil,h⟩
def qj {X:Cx} {b:Pos} {k v:ZO} {f:List (Option Expr)} {vs:YR} {tk g:TE} {c:List (TE×TE)} (hk:PE X k tk) (B:PE X v g) (C:WP X b f vs c) :
 WP X b (some k::f) (v::vs) ((tk,g)::c):=fun a s d H Q I h=>
 pairTrees_cons_walk (gj (hk a s d H _ I h) fun u i ⟨x,j,l,m,q1⟩=>gj (B a i d j _ l q1) fun D n ⟨y,o,p,q,q2⟩=> gj (C a n d o _ p q2) fun E F ⟨r,w,z,e,A⟩=>⟨(x,y)::r,w,z,.cons ⟨m,q⟩ e,A⟩)
noncomputable def tU (c a:List (Key×V)):List (Key×V):=a.foldl (fun b d=>putK b d.1 d.2) c
theorem KV.merge:∀ {a:List (Key×V)} {c:List (Key×Value)} {b:List (Key×V)} {vs:List (Key×Value)},KV a c->KV b vs->KV (tU b a) (merged vs c):=by
 intro a c b vs r;unfold KV at r;induction r generalizing b vs with
 |nil=>intro q;exact q
 | @cons p q g i h t f=>
   intro d;have e:KV (putK b p.1 p.2) (stored vs q.1 q.2):=by have:=d.put p.1 h.2;rw [← h.1];exact this
   exact f e
theorem oV:∀ (b a:List (Key×V)),(tU a b).length≤a.length+b.length
 |[],a=>by show a.length≤a.length+0;omega
 | p::r,a=>by have c:=oV r (putK a p.1 p.2);have d:=lF a p.1 p.2;show (tU (putK a p.1 p.2) r).length≤_;rw [aaA];omega
theorem uc:∀ {d:List (Key×V)} {g:List (Value×Value)},VV (d.map fun f=>(kV f.1,f.2)) g->∃ e,Carries (gW P w) g e/\KV d e
 |[],_,r=>by rw [acr] at r;cases r;exact ⟨[],aaF,.nil⟩
 | p::d,_,r=>by
   rw [aaw] at r;cases r with
   | @cons a b l bs h t=>obtain ⟨e,c,q⟩:=uc (P:=P) (w:=w) t;obtain ⟨j,i⟩:=b;exact ⟨(p.1,i)::e,⟨v_ h.1,rfl,c⟩,.cons ⟨rfl,h.2⟩ q⟩
def Vi (b:List (TE×TE)):TE:=fun e H Q=>∀ p,H p=none->Bj b e (upd H p (.dK [])) fun f c=>c p=some (.dK [])/\∃ a:List (Key×V),f=a.map (fun d=>(kV d.1,d.2))/\a.length≤15/\Q (.ref p) (upd c p (.dK (tU [] a)))
def M_ {X:Cx} {i:Pos} {keys:List (Option Expr)} {b:YR} {j:List (TE×TE)} (h:WP X i keys b j) (l:keys.all (·.isSome)=true) (N:keys.length=b.length) (O:keys≠[])
 (n:keys.length≤15):PE X (.Dict keys b i) (Vi j):=by
 intro g s M H Q I q;have y:=I.hok.fresh (aae s.heap.objs.size);have A:=I.laid (a:=s.heap.objs.size) (o:=.dK []) (h':=s.heap.push { cls:=.type "dict",data:=.dict #[] }) (t':=s.toks) (fun _ _ q=>aai _ q) (aae _) (tV s.heap I.big);refine wpAny_Dict_walk (knd:=gW X.prog X.w) l N O n (gj (h g _ M _ _ A (q _ y)) fun R S ⟨T,U,p,m,e,d,v,W,q2⟩=>?_);subst v;obtain ⟨F,c,G⟩:=uc (P:=X.prog) (w:=X.w) m;obtain ⟨z,hd,J,L,dd⟩:=zE p.hok e;cases L;refine ⟨F,c,dd,fun r f x=>⟨.ref s.heap.objs.size,_,?_,rfl,q2⟩⟩;have B:(tU [] d).length≤sizeLine:=by have C:=oV d [];rw [ab2] at C;rw [sizeLine_eq];omega
 have D:∃ q,r.get? s.heap.objs.size=some q:=let ⟨q,_,_,E,_⟩:=f;⟨q,E⟩
 exact sW p (by rw [e];exact aaF) x D (wV B hd (G.merge .nil) f)
structure M1 (X:Cx) (o:ZO) (m:Str) (apos:Pos) (e:ZO) (cpos:Pos):Prop where
 base:attributeBase o m X.env (eval o X.env)=eval o X.env
 few:((backTo cpos (starEach [e] X.env)).all (fun x=>!x.1) && (backToKw cpos (keywordEach [] X.env)).all (fun x=>x.1.isSome) && decide (([e]:YR).length+([]:List Keyword).length+(if ([]:List Keyword).isEmpty then 0 else 1)<30))=true
 line:(apos.endLine == cpos.line)=true
 trees:backTo cpos (starEach [e] X.env)=[(false,eval e X.env)]
noncomputable def Hc (I:Inv X m n H s) (e:Rd H a (.dK l)) (h:∀ p g,H p=none->Inv X m n (upd H p (.dK l)) g->Q (.ref p) g):wpAny (model X.prog X.w) A (call (.type "dict") [.ref a]) Q E s:=by obtain ⟨z,hd,vs,c,dd⟩:=vq I.hok e;refine kt_call_dict hd dd (by rw [← c.length];exact z) fun j d i=>?_;refine h _ _ (I.hok.fresh (aae _)) (I.laid (a:=s.heap.objs.size) (o:=.dK l) (t':=s.toks) (fun b q f=>?_) (aae _) (wV z (aby.mpr (aas (aal I.big))) c d));exact (i.2 b (aal (aaf f))).trans (aai _ f)
end L2
namespace Att
open PySem PySem.W PySem.Calls PyProof.Rows
theorem sG:∀ (c:List Int) (vs:Y2),WellAll P h vs (c.map WData.int)->IntsAre vs c:=by
 intro c;induction c with
 | nil=>intro vs w;rw [acr] at w;cases w;exact .nil
 | cons n c d=>
   intro vs w;rw [aaw] at w;cases w with
   | cons a b=>cases a;exact .cons _ _ (d _ b)
theorem FT {l:OpenLaw} (C:l.most=some n) {h:ZI}
 (f:l.row.toRowW.claim.pre b=true) (p:WellAll P h e b) :
 ∃ a vs c,e=[Value.ref a]/\b=[WData.list (c.map WData.int)]/\h.get? a=some { cls:=.type "list",data:=.seq vs.toArray }/\IntsAre vs c/\c.length≤n:=by
 have o:WShape.hasAll [] b [.list .int]=true:=(pre_splitW f).1;have s:l.pre.holds [] { args:=b }=true:=(pre_splitW f).2;obtain ⟨d,r,rfl,w,x⟩:=hasAllW_cons o;obtain rfl:=hasAllW_nil x;obtain ⟨D,rfl,y⟩:=hasW_list w;obtain ⟨c,rfl⟩:=items_int y;have g:c.length≤n:=by
  unfold OpenLaw.pre at s;have j:(WTm.not (.lt (.lit (.int (n:Int))) (.len (.arg 0)))).holds [] { args:=[.list (c.map .int)] }=true:=by have j:=(holds_andW s).1;rw [C] at j;exact j
  have m:=condW_of j (w_not (w_lt w_lit (w_len_list (w_arg rfl))));rw [aag] at m;refine Nat.le_of_not_lt fun q=>?_;have v:(n:Int)<((c.length:Nat):Int):=by omega
  first
   |(rw [aaH v] at m;exact absurd m (by decide))
   |(simp at m;omega)
 cases p with
 | cons z A=>
   cases A;cases z with
   |list B i=>exact ⟨_,_,c,rfl,rfl,B,sG c _ i,g⟩
def Et (l:OpenLaw) (a:List WData):l.row.toRowW.claim.post a (.bool true) a=true:=
 postW_of (r:=l.row.toRowW) (X:=(true == true))
  (show WShape.has [] (.bool true) .bool=true by first|rfl|decide|simp [WShape.has,WShape.arms,WShape.armsAll])
  (show (WTm.eq .res (.lit (.bool true))).value [] { args:=a,res:=some (.bool true),after:=a }=some (.bool (true == true)) from w_eq_bool (w_res rfl) w_lit) rfl
def yX {l:OpenLaw} {L:World->Heap->Prop} {d:DefRec}
 (X:l.most=some n) (D:d.params.defaults=[])
 (call:∀ (w:ZE) (c b:Zp) (v y:ZY) (i:Zl) (o:Obj) (z cd g:ZH) (a:Zl) (vs:Y2) (x:List Int),Ground q e [] J w c v y b.heap->L w b.heap-> b.heap.get? i=some o->o.data=.func (docDef d.name d.params d.body d.scope z cd g)->b.heap.CodeRec cd d.name->v d.name=some (.ref i)-> b.heap.get? a=some { cls:=.type "list",data:=.seq vs.toArray }->IntsAre vs x->x.length≤n->b.gens=#[]-> codeAny (model l.prog w) callerA (.call (.ref i) ⟨[.ref a],[]⟩) (fun r s=>r=.ok (.ret (.bool true))/\OldK b.heap s.heap/\s.os=b.os/\AllBare s.gens) b) :
 WalkO q e J L l.row.toRowW d [] (fun f vs=>PySem.call f vs):=by
 intro w c b v y G Y i o z cd g R kV S hd A E B T F H Z p I U C W;obtain rfl:R=.none:=Dflts.none E D;obtain rfl:kV=.none:=Dflts.noKw E;obtain ⟨a,vs,x,rfl,rfl,j,h,m⟩:=FT X p C;refine enter_call (codeAny_mono (call w c b v y i o z cd g a vs x G Y S (fd_plain hd) A B j h m T) fun r s M=>?_);obtain ⟨rfl,O,P,Q⟩:=M;exact ⟨.inl ⟨.bool true,.bool true,[],rfl,fun _=>rfl,.bool true,Et l _,fun _=>⟨List.Pairwise.nil,fun _ N=>(nomatch N)⟩⟩,O,P,Q⟩
section
variable {prog:ZB} {w:ZE} {A:ZN} {E:ZU} {s:Zp} {K:Zs}
end
end Att
namespace L2
open PySem PySem.Spec PyProof.Rows
theorem ww:∀ {vs:Y2} {a:List Int},IntsAre vs a->Vals (a.map V.int) vs
 |_,_,.nil=>.nil
 |_,_,.cons n t h=>.cons ⟨t,rfl⟩ (ww h)
noncomputable def inClass (s:Stmt) (j:Nat):Stmt:=match s with
 |.ClassDef _ _ _ body _ _ _ _ _ _ _=>body.getD j (.Pass ⟨0,0,0,0⟩)
 |_=>.Pass ⟨0,0,0,0⟩
noncomputable def dM (s:Stmt):Arguments:=match s with
 |.FunctionDef _ a _ _ _ _ _ _ _ _=>a
 |_=>{ posonlyargs:=[],args:=[],vararg:=none,kwonlyargs:=[],kw_defaults:=[],kwarg:=none,defaults:=[] }
noncomputable def dI (s:Stmt):List Stmt:=match s with
 |.FunctionDef _ _ b _ _ _ _ _ _ _=>b
 |_=>[]
noncomputable def b_ (s:Stmt):Scope:=match s with
 |.FunctionDef _ _ _ _ _ _ sc _ _ _=>sc
 |_=>{ kind:=.function,names:=[],isGenerator:=false,isCoroutine:=false }
abbrev fG:rK:=fun _ _ _ _ _ _=>False
abbrev E0:XK:=fun _ _ _=>False
def dU:gJ fG X E0:=fun _ _ _ _ _ _ _ h=>h.elim
structure iM (K:Zs) (x qual:Str) (st:Stmt) (f:Zl) (fd:ZA):Prop where
 ex:∃ (oc:ZH) (od:YA) (kV doc pm:ZH) (an:YA) (cdv ct:ZH) (osl:YU),
  fd=PySem.W.fnOf x qual (dM st) (dI st) (b_ st) .none kV doc pm an cdv ct/\K.lookup f=some ⟨oc,od,.func fd,osl⟩/\PySem.W.codeIn K cdv qual=true
 kp:PySem.W.keepIn K (.ref f)=true
def iM.ok {P:ZB} {w:ZE} {K:Zs} {C:ZY} {B:ZI} {x b:Str} {e:Stmt} {f:Zl} {m:ZA} {N j:Y1} {k:Nat} {l:Sp} (F:iM K x b e f m) (S:dC N j (b_ e)) (len:∀ vs H Q E,l vs H Q E->vs.length=j.length)
 (d:∀ (c:ZH) (A:ZN) (a:List Env) (s:Zp) (H:Hp) (vs:List V) (Q:VK) (E:XK),eX k (A.deeper (envOfC b (b_ e) s.heap.objs.size f c))->l vs H Q E-> ∃ t,wJ (i_ fG P w K C B N b (b_ e) f c A a s H E).nox (dI e) t/\t { nx:=fun _ n=>Q .non n,rt:=Q } (start N vs) H):dw P w K C B fG (k+1) f m j l:=by
 obtain ⟨oc,od,kV,p,y,an,c,z,r,rfl,v,i⟩:=F.ex;refine uT v i S len fun A a s H vs Q E o g=>?_;obtain ⟨t,h,q⟩:=d c A a s H vs Q E o g;exact ⟨t,h.nox,q⟩
def iM.binds {K:Zs} {x a:Str} {d:Stmt} {f:Zl} {j:ZA} {ps:Y1} (F:iM K x a d f j)
 (h:∀ (kV b e:ZH) (an:YA) (c g:ZH) (i:Y2),i.length=ps.length->bindArgs (PySem.W.fnOf x a (dM d) (dI d) (b_ d) .none kV b e an c g) ⟨i,[]⟩=pure (ps.zip i)):Binds K j ps []:=by
 obtain ⟨oc,od,kV,b,e,an,c,g,l,rfl,n,m⟩:=F.ex;exact .all (h kV b e an c g)
def iI {K:Zs} {x a:Str} {st:Stmt} {f:Zl} {oc:ZH} {od an:YA} {e:YU} {kV d g b h:ZH} (l:K.lookup f=some ⟨oc,od,.func (PySem.W.fnOf x a (dM st) (dI st) (b_ st) .none kV d g an b h),e⟩)
 (c:PySem.W.codeIn K b a=true) (k:PySem.W.keepIn K (.ref f)=true):iM K x a st f (PySem.W.fnOf x a (dM st) (dI st) (b_ st) .none kV d g an b h):=⟨⟨oc,od,kV,d,g,an,b,h,e,rfl,l,c⟩,k⟩
def tY (a:eX k A):A.units+1<cLine:=acX (Nat.add_le_add_left (by decide:1≤64) _) a.units
def lR (h:n≤1000):n<sizeLine:=acX h (by decide)
def pv (i:Nat) (c:X.N[i]?=some x:=by rfl) (d:Tq X.env.scope x:=by first|exact Or.inl rfl|exact Or.inr (.inl rfl)|exact Or.inr (.inr rfl)) (hd:(x == ("__debug__" : Str))=false:=by decide)
 (b:(x == ("__classdict__" : Str))=false:=by decide):PE X (.Name x a) (iU i):=Qp c d hd b
def qW {c A B:Prop} [Decidable c] (a:c->A) (b:¬ c->B):if c then A else B:=by
 by_cases h:c
 ·rw [aac h];exact a h
 ·rw [aab h];exact b h
def du (H a:Hp):Prop:=∀ b o,H b=some o->a b=some o
def du.refl (H:Hp):du H H:=fun _ _ h=>h
def du.trans (a:du H d) (b:du d e):du H e:=fun c o h=>b c o (a c o h)
theorem du.free (e:du H a) (h:a l=Option.none):H l=Option.none:=by
 cases q:H l with
 |none=>rfl
 | some o=>rw [e l o q] at h;cases h
def du.seq {K:Zs} {H b:Hp} {a:Zl} {xs:List V} (e:du H b) (h:fM K H a xs):fM K b a xs:=by
 rcases h with (h|⟨o,h⟩)|h
 ·exact .inl (.inl (e _ _ h))
 ·exact .inl (.inr ⟨o,e _ _ h⟩)
 ·exact .inr h
noncomputable def Gh:jd X (.builtin "len") (fun c H Q=>∃ a b,c=[V.ref a]/\H a=some (.dK b)/\Q (.int b.length) H):=by intro d s j H c l Q I r h;obtain ⟨a,b,rfl,f,q⟩:=h;obtain ⟨u,rfl,g⟩:=vals1 r;cases g;exact Vd I (.inl f) fun t i e=>⟨.int b.length,H,e,⟨t,rfl⟩,q⟩
section
variable {κ:Type} [DecidableEq κ]
theorem Ck:∀ {l:List κ} {k:κ},l.Nodup->¬ k∈l->(l++[k]).Nodup
 |[],k,_,_=>by simp
 | a::r,k,h,hk=>by
   obtain ⟨b,c⟩:=aba.mp h;show (a::(r++[k])).Nodup;refine aba.mpr ⟨fun m=>?_,Ck c fun m=>hk (aah.mpr (Or.inr m))⟩;rcases aam.mp m with q|q
   ·exact b q
   ·exact hk (aah.mpr (Or.inl (aak.mp q).symm))
end
def pL (d:ZT) (h:∀ y∈d.names,y.2=.free->∃ c,env.cells.lookup y.1=some c) :
 ∃ f,closureFor d env=pure f/\(∀ x c,f.lookup x=some c->env.cells.lookup x=some c)/\∀ x,(x,NameKind.free)∈d.names->∃ c,f.lookup x=some c:=by
 have go:∀ (a:List (Str×NameKind)) (b:YO),(∀ y∈a,y.2=.free->∃ c,env.cells.lookup y.1=some c)->(∀ x c,b.lookup x=some c->env.cells.lookup x=some c)->
  ∃ f,(forIn a b fun x cs=>(match x with
    |(name,kind)=>if kind == NameKind.free then (do let c ← cellOf env name;pure (ForInStep.yield ((name,c)::cs))) else pure (ForInStep.yield cs):Sem (ForInStep (List (Str×Addr)))))=pure f/\
    (∀ x c,f.lookup x=some c->env.cells.lookup x=some c)/\(∀ x,(x,NameKind.free)∈a∨(∃ c,b.lookup x=some c)->∃ c,f.lookup x=some c):=by
  intro a;induction a with
  |nil=>intro b _ o;exact ⟨b,rfl,o,fun x z=>z.elim (fun q=>nomatch q) id⟩
  | cons y r A=>
    intro b v o;obtain ⟨n,k⟩:=y;by_cases hk:k=.free
    ·subst hk;obtain ⟨c,w⟩:=v (n,.free) aao rfl;obtain ⟨f,e,j,l⟩:=A ((n,c)::b) (fun z p=>v z (aan _ p)) (fun x g i=>by
      rw [abc] at i;by_cases q:x == n
      ·rw [q] at i;cases i;rw [aaW.mp q];exact w
      ·rw [ab4] at q;rw [q] at i;exact o x g i);refine ⟨f,?_,j,fun x z=>l x ?_⟩
     ·rw [acu];simp only [ab5,if_true,cellOf,w];exact e
     ·have s:∀ x,(∃ g,b.lookup x=some g)->∃ g,((n,c)::b).lookup x=some g:=fun x ⟨g,z⟩=>by
       rw [abc];by_cases q:x == n
       ·rw [q];exact ⟨_,rfl⟩
       ·rw [ab4] at q;rw [q];exact ⟨g,z⟩
      rcases z with z|z
      ·rcases aah.mp z with z|z
       ·cases z;exact .inr ⟨c,by rw [abc,ab5]⟩
       ·exact .inl z
      ·exact .inr (s x z)
    ·have B:(k == NameKind.free)=false:=by simpa using hk
     obtain ⟨f,e,j,l⟩:=A b (fun z p=>v z (aan _ p)) o;refine ⟨f,?_,j,fun x z=>l x ?_⟩
     ·rw [acu];simp only [B,abd,if_false];exact e
     ·rcases z with z|z
      ·rcases aah.mp z with z|z
       ·cases z;exact absurd rfl hk
       ·exact .inl z
      ·exact .inr z
 obtain ⟨f,e,j,l⟩:=go d.names [] h (fun x c z=>by simp at z);refine ⟨f,?_,j,fun x z=>l x (.inl z)⟩;unfold closureFor;exact (aax (fun (m:Sem (List (Str×Addr)))=>m >>= fun cs=>pure cs) e).trans rfl
def eH (X:Cx) (scope:ZT) (N':Y1) (cl:YO) (C:Zl) (s₀:Zp) (H₀:Hp) (ex:YE):Cx where
 prog:=X.prog
 w:=X.w
 K:=X.K
 mg:=X.mg
 base:=X.base
 A:=X.A
 N:=N'
 s₀:=s₀
 H₀:=H₀
 env:=compEnvC scope cl C X.env
 outer:=X.stack
 stack:=X.stack
 ex:=ex
 fn:=fun _=>false
 calm:=X.calm
 pn:=[]
 xe:=fun _ _=>False
def jU (k:Nat) (a:List Nat) (b:St):St:=List.replicate k none++a.map fun j=>(b[j]?).join
def An (k:Nat) (a:List Nat) (b:St):(jU k a b).length=k+a.length:=by simp [jU]
structure eN (X:Cx) (scope:ZT) (own:Y1) (js:List Nat) (N':Y1):Prop where
 kind:scope.kind=.function
 nocell:∀ y∈scope.names,y.2≠.cell
 names:∀ y∈scope.names,y.2=.local->scope.names.lookup y.1=some .local
 free:∀ y∈scope.names,y.2=.free->X.env.kindOf y.1=some .cell∨X.env.kindOf y.1=some .free
 nm:N'=own++js.map fun j=>X.N.getD j Str.empty
 fr:∀ j∈js,j<X.N.length/\(X.N.getD j Str.empty,NameKind.free)∈scope.names/\∀ k,(X.N.getD j Str.empty,k)∈scope.names->k=.free
theorem sr {a:List (Str×NameKind)} (h:(x,NameKind.free)∈a) (u:∀ k,(x,k)∈a->k=.free):a.lookup x=some .free:=by
 induction a with
 |nil=>cases h
 | cons y r b=>
   obtain ⟨n,k⟩:=y;rw [abc];by_cases q:x == n
   ·rw [q];have e:x=n:=aaW.mp q;subst e;rw [u k aao]
   ·rw [ab4] at q;rw [q];refine b ?_ fun k hk=>u k (aan _ hk);rcases aah.mp h with z|z
    ·cases z;rw [ab5] at q;cases q
    ·exact z
def rC (h:(x,k)∈(relabel a env).names) (hk:k=.cell∨k=.free) (d:∀ y∈a.names,y.2≠.cell):(x,NameKind.free)∈a.names:=by
 unfold relabel at h;obtain ⟨⟨n,c⟩,b,e⟩:=aaB.mp h;dsimp only at e;by_cases q:(c == NameKind.free && env.scope.kind == .function && env.kindOf n == some .cell)=true
 ·rw [aac q] at e;cases e;rw [aaP,aaP] at q;have:c=.free:=by simpa using q.1.1
  rw [← this];exact b
 ·rw [aab q] at e;cases e;rcases hk with z|z
  ·exact absurd z (d _ b)
  ·rw [← z];exact b
theorem j_ {env:Env} {x:Str}:∀ {a:List (Str×NameKind)},a.lookup x=some .free->
 (a.map fun (n,k)=>if (k == NameKind.free && env.scope.kind == .function && env.kindOf n == some .cell) then (n,NameKind.cell) else (n,k)).lookup x=some .cell∨
 (a.map fun (n,k)=>if (k == NameKind.free && env.scope.kind == .function && env.kindOf n == some .cell) then (n,NameKind.cell) else (n,k)).lookup x=some .free
 |[],h=>by simp at h
 | (n,k)::r,h=>by
   have b:=@j_ env x r;rw [abc] at h;rw [aaw];dsimp only;by_cases q:x == n
   ·rw [q] at h;cases h;by_cases c:(NameKind.free == NameKind.free && env.scope.kind == .function && env.kindOf n == some .cell)=true
    ·rw [aac c,abc,q];exact .inl rfl
    ·rw [aab c,abc,q];exact .inr rfl
   ·rw [ab4] at q;rw [q] at h;by_cases c:(k == NameKind.free && env.scope.kind == .function && env.kindOf n == some .cell)=true
    ·rw [aac c,abc,q];exact b h
    ·rw [aab c,abc,q];exact b h
def Inv.comp {X:Cx} {H:Hp} {s:Zp} {scope:ZT} {own:Y1} {cl:YO} {h₁:ZI} (S:eN X scope own js N') (I:Inv X dR σ H s)
 (hc1:∀ x c,cl.lookup x=some c->X.env.cells.lookup x=some c) (hc2:∀ x,(x,NameKind.free)∈scope.names->∃ c,cl.lookup x=some c) (hC:s.heap.objs.size≤C) (hns:h₁.Ns C m) (hk:∀ b o,s.heap.get? b=some o->h₁.get? b=some o)
 (hf:∀ b∈fp,nA X dR H b/\b<s.heap.objs.size) (hHC:H C=none) (hfree:∀ b o,s.heap.get? b=some o->b≠C) :
 Inv (eH X scope N' cl C s H fp) [] (jU own.length js σ) H { s with heap:=h₁,toks:=tk }:=by
 have ltx:∀ b o,X.s₀.heap.get? b=some o->b∉X.ex->b∉fp:=fun b o e hx hb=>by
  rcases (hf b hb).1.2.2.2.1 with z|z
  ·exact hx z
  ·exact absurd (aar (aaf e) z) (aaN _)
 refine ⟨⟨I.ok.mod,S.kind,I.ok.glob,I.ok.blt,hC,fun x y c h1 h2=>I.ok.inj x y c (hc1 x c h1) (hc1 y c h2),fun x hx=>?_,fun x c z=>(nomatch z),I.ok.hd,I.ok.frames,.inl rfl,fun b hb=>⟨aal (aar (hf b hb).2 hC),fun x c e=>(hf b hb).1.2.2.2.2.1 x c (hc1 x c e)⟩,I.bs,aaj I.ok.bsz I.sz,fun b o e=>ltx b o (I.ok.bs b o e).1 (I.ok.noex b o e),fun b hb z=>?_,I.stack,I.stkFree⟩,
  rfl,I.bare,Un.kept hk,⟨m,hns,fun i x v e1 e2 e3=>?_⟩,fun x c e=>?_,hHC,fun x c e=>I.freeC x c (hc1 x c e),fun p hp=>absurd (show p∈([]:YI) from hp) (by simp),I.hok.kept hk,?_⟩
 ·have hx':(relabel scope X.env).names.lookup x=some .cell∨(relabel scope X.env).names.lookup x=some .free:=hx;rcases hx' with z|z
  ·exact hc2 x (rC (abb z) (.inl rfl) S.nocell)
  ·exact hc2 x (rC (abb z) (.inr rfl) S.nocell)
 ·obtain ⟨_,f1,f2,_⟩:=(hf b hb).1;rcases aah.mp (I.stkSub b z) with q|q
  ·exact f1 q
  ·exact f2 q
 ·
  unfold jU at e2;by_cases hi:i<own.length
  ·rw [adj (by simpa using hi),List.getElem?_replicate] at e2;split at e2 <;> cases e2
  ·rw [acV (by simpa using hi),aco,aaz] at e2;cases ej:js[i-own.length]? with
   |none=>rw [ej] at e2;cases e2
   | some j=>
     rw [ej] at e2;have e2':(σ[j]?).join=some v:=by simpa using e2
     have hσ:σ[j]?=some (some v):=by
      cases q:σ[j]? with
      |none=>rw [q] at e2';cases e2'
      |some o=>rw [q] at e2';exact aax some e2'
     have hj:=S.fr j (aaq ej);have hx:x=X.N.getD j Str.empty:=by have e1':N'[i]?=some x:=e1;rw [S.nm,acV (by omega),aaz,ej] at e1';exact (aaM e1').symm
     have hN:X.N[j]?=some x:=by rw [hx,acY,aaC hj.1];rfl
     have hfr:scope.names.lookup x=some .free:=by rw [hx];exact sr hj.2.1 hj.2.2
     have hkx:=S.free (x,.free) (by rw [hx];exact hj.2.1) rfl;have hvis:Tq X.env.scope x:=hkx.elim (fun z=>.inr (.inl z)) fun z=>.inr (.inr z);obtain ⟨mX,hnX,hlX⟩:=I.loc;obtain ⟨u,r,l⟩:=hlX j x v hN hσ hvis;refine ⟨u,r,.inr ⟨j_ hfr,?_⟩⟩;rcases l with ⟨z,_⟩|⟨_,c,hc,hcell⟩
     ·rcases hkx with q|q
      ·have:=q.symm.trans z;cases this
      ·have:=q.symm.trans z;cases this
     ·obtain ⟨c',hc'⟩:=hc2 x (by rw [hx];exact hj.2.1);have:c'=c:=aaM ((hc1 x c' hc').symm.trans hc);subst this;obtain ⟨o,ho,hd⟩:=hcell;exact ⟨c',hc',o,hk _ _ ho,hd⟩
 ·obtain ⟨v,o,ho,hd⟩:=I.cell x c (hc1 x c e);exact ⟨v,o,hk _ _ ho,hd⟩
 ·rw [An];show _=N'.length;rw [S.nm];simp
def p_ (Y:Cx) (d:YR) (t:TT):Prop:=
 ∀ (a:YI) (s:Zp) (b:St) (H:Hp) (Q:Bool->Hp->Prop),Inv Y a b H s->t b H Q->
   wpAny (model Y.prog Y.w) Y.A (forIn d true fun c r=>if r=true then do let ok ← isTrue c Y.env (eval c Y.env);pure (ForInStep.yield ok) else pure (ForInStep.yield r)) (TP Y a b Q) Y.xe s
def uP:TT:=fun _ H Q=>Q true H
def gH:p_ Y [] uP:=fun _ _ _ H _ I h=>wpAny_tests_nil ⟨H,I,h⟩
def Jr (h:PT Y c t):p_ Y [c] t:=fun a s b H Q I d=>wpAny_tests_one (h a s b H Q I d)
abbrev gZ (a:Y2) (k:Nat):Obj:={ cls:=.type "list",data:=.seq a.toArray k }
def vo (J:It) (g:TG) (n:TT) (o:TE) (F:List V->Hp->Prop) (W:Nat->Nat->List V->St->Hp->Prop):Prop:=
 ∀ i m c f H,W i m c f H->(J.stop i H/\F c H)∨(J.go i H/\c.length<sizeLine/\∀ x h,J.yld i H x h->g x f h fun a j=>n a j fun b e=> if b=true then o a e fun y l=>∃ d,d<m/\W (i+1) d (c++[y]) a l else ∃ d,d<m/\W (i+1) d c a e)
def Ci (J:It) (g:TG) (n:TT) (o:TE) (F:List V->St->Hp->Prop) (W:Nat->Nat->List V->St->Hp->Prop):Prop:=
 ∀ i m c e H,W i m c e H->(J.stop i H/\F c e H)∨(J.go i H/\c.length<sizeLine/\∀ x h,J.yld i H x h->g x e h fun a j=>n a j fun b f=> if b=true then o a f fun y l=>∃ d,d<m/\W (i+1) d (c++[y]) a l else ∃ d,d<m/\W (i+1) d c a f)
def Jw (c:ZO) (j:Nat) (b a:ZH) (env:Env) (g e:ZO) (f:YR) (B:Sem Fin->Sem Fin):Prop:=
 (∀ A:Around,A.under (.compLoop c j b a env)=A)/\∀ d w,(model d w).den (.compLoop c j b a env)=((do
  standAt e.pos
  match ← pyNext b with
  |none=>pure (.done .next)
  | some v=>
    letOwnedTupleGo g b v
    assign g env v
    let mut ok:=true
    for c in f do
     if ok then ok ← isTrue c env (eval c env)
    if ok then B (again (.compLoop c j b a env)) else again (.compLoop c j b a env):Sem Fin)).onRaise (fun x=>do noteFrame x env;theTreesLotGoes x)
def JS {α:Type} {Y:Cx} {c:ZO} {j:Nat} {it:Zl} {acc:ZH} {tg iter:ZO} {ifs:YR} {B:Sem Fin->Sem Fin} {fp:YE} {tn:Nat->Heap->Prop} {J:It} {g:TG} {tt:TT} {R:YN} (U:α->List (Addr×Obj))
 (e:Jw c j (.ref it) acc Y.env tg iter ifs B) (T:Turn Y.prog Y.w Y.K tg J fp it tn) (hg:PG Y tg g) (hc:p_ Y ifs tt) (p:Y.calm=true) (hx:∀ v s,¬ Y.xe v s)
 (M:∀ a,∀ b∈fp,∀ H,H b=none->nA Y (U a) H b) (W P:Nat->Nat->α->St->Hp->Prop) (S Z:α->Prop)
 (turn:∀ i m a q H,S a->W i m a q H->(J.stop i H/\∀ s,Inv Y (U a) q H s->R (.ok .next) s)∨(J.go i H/\Z a/\∀ x H1,J.yld i H x H1->g x q H1 fun D H2=>tt D H2 fun b N=>if b=true then P i m a D N else ∃ y,y<m/\W (i+1) y a D N))
 (body:∀ i m a q H h s,S a->Z a->P i m a q H->(∀ b∈fp,∃ o,h.get? b=some o)->Inv Y (U a++lE fp h) q H s->∀ (k:Sem Fin) (Q:Fin->Shared->Prop) (E:ZU),(∀ X,(∃ y,y<m/\∃ a' l O,Inv Y (U a'++lE fp h) l O X/\S a'/\W (i+1) y a' l O)->wpAny (model Y.prog Y.w) Y.A k Q E X)->wpAny (model Y.prog Y.w) Y.A (B k) Q E s)
 {s:Zp} {q:St} {H:Hp} {m:Nat} {a:α} (I:Inv Y (U a) q H s) (st:tn 0 s.heap) (fr:∀ b∈fp,H b=none) (s0:S a) (w0:W 0 m a q H) :
 codeAny (model Y.prog Y.w) Y.A (.compLoop c j (.ref it) acc Y.env) R s:=by
 refine codeAny_loop rfl (fun n X=>∃ i a l O,Inv Y (U a) l O X/\tn i X.heap/\(∀ b∈fp,O b=none)/\S a/\W i n a l O) (fun n s3 hI=>?_) m ⟨0,a,q,H,I,st,fr,s0,w0⟩;obtain ⟨i,a,C,N,I3,aa,ab,L,w3⟩:=hI;rw [e.1,e.2];refine wpAny_noted ?_;refine aaa (aa4 (aaa ?_));rcases turn i n a C N L w3 with ⟨ac,qn⟩|⟨go,za,step⟩
 ·refine aat (T.done Y rfl rfl rfl p i _ s3 C N (fun _ _=>False) I3 (fun b f=>M a b f _ (ab b f)) aa ac) (fun r s4 ⟨hr,I4⟩=>?_) (fun _ _ z=>z.elim);subst hr;exact aad (qn s4 I4)
 ·refine aat (T.item Y rfl rfl rfl p i _ s3 C N (fun _ _=>False) I3 (fun b f=>M a b f _ (ab b f)) aa go) (fun r s4 ⟨u,hr,h4⟩=>?_) (fun _ _ z=>z.elim);subst hr;refine aaa (aat h4 (fun _ s5 ⟨x,H5,I5,r5,y5,w,ad⟩=>?_) (fun _ _ z=>z.elim));refine aaa (aat (hg _ s5 C H5 x u _ (I5.pinned (fun b f=>M a b f _ (ad b f)) (T.obj _ _ w)) r5 (step x H5 y5)) (fun _ s6 ⟨F,H6,I6,q6⟩=>?_) (fun v s z=>(hx v s z).elim));refine aaa (aat (hc _ s6 F H6 _ I6 q6) (fun ok s7 ⟨H7,I7,q7⟩=>?_) (fun v s z=>(hx v s z).elim));have on:∀ {pl:YI} {s8:Zp} {A:St} {H8:Hp},Inv Y (pl++lE fp s5.heap) A H8 s8->Inv Y pl A H8 s8/\tn (i+1) s8.heap/\∀ b∈fp,H8 b=none:=fun G=>
   ⟨G.unpinned,T.keep _ _ _ w fun b f o e=>(G.pin (b,o) (aau _ (aau _ (mJ f e)))).1,fun b f=>by
    obtain ⟨o,e,d⟩:=T.obj _ _ w b f;exact (G.pin (b,o) (aau _ (aau _ (mJ f e)))).2.1⟩;cases ok with
  | false=>rw [aab aay] at q7;obtain ⟨y,hm,w7⟩:=q7;exact aad ⟨rfl,y,hm,i+1,a,F,H7,(on I7).1,(on I7).2.1,(on I7).2.2,L,w7⟩
  | true=>rw [aac rfl] at q7;exact body i n a F H7 s5.heap s7 L za q7 (fun b f=>(T.obj _ _ w b f).imp fun _ z=>z.1) I7 _ _ _ fun s8 ⟨y,hm,a',A,H8,G,w8⟩=>aad ⟨rfl,y,hm,i+1,a',A,H8,(on G).1,(on G).2.1,(on G).2.2,w8⟩
def uW {a:ZB} {w:ZE} {A:ZN} {R:YN} {s:Zp} {c:ZO} {j:Nat} {e b:ZH} {env:Env} {g:Comprehension} (m:(clausesOf c)[j]?=some g) (n:(g.is_async != 0)=false)
 (l:codeAny (model a w) A (.compLoop c j e b env) R s) (h:wpAny (model a w) A (pyIter e) (fun d f=>codeAny (model a w) A (.compLoop c j d b env) R f) (notedBy (model a w) A env fun x f=>R (.error x) f) s)
 (hd:A.under (.compStart c j e b env)=A/\(model a w).den (.compStart c j e b env)=(compStart c j e b env).onRaise (fun x=>do noteFrame x env;standAt theWindowsPlace):=by exact ⟨rfl,rfl⟩):codeAny (model a w) A (.compStart c j e b env) R s:=by
 refine codeAny_of_tree ?_;rw [hd.1,hd.2];refine wpAny_notedAt ?_;unfold compStart;rw [m];simp only [Option.elim,n,abd,if_false];show wpAny _ _ (ask >>= _) _ _ s;refine aaa (wpAny_askSetting (wpAny_ite ?_));split
 ·first
   |exact aaa (aad (aad (ab6 rfl l)))
   |exact aad (ab6 rfl l)
 ·first
   |exact aaa (abB (aaa (aa4 (aaa (aat h (fun d f i=>aad (ab6 rfl i)) fun _ _ x=>x)))))
   |(refine aaa (abB ?_);show wpAny _ _ (standAt g.iter.pos >>= _) _ _ s;exact aaa (aa4 (aaa (aat h (fun d f i=>aad (ab6 rfl i)) fun _ _ x=>x))))
def HW (Y:Cx) (b:YI) (a:Zl):Prop:=a≠Y.env.locals/\a∉Y.fs/\(a∈Y.ex∨Y.s₀.heap.objs.size≤a)/\(∀ x c,Y.env.cells.lookup x=some c->c≠a)/\∀ p∈Y.pn++b,p.1≠a
def Zf (Y:Cx) (c:YI) (a b:Zl):Prop:=(∀ H:Hp,H b=none->nA Y c H b)/\b≠a
def Iu {Y:Cx} {ps:YI} {a:Zl} {c:Y2} {k:Nat} {j:St} {H:Hp} {s:Zp} {y:ZH} {E:ZU} {Q:ZU} (A:c.length≤sizeLine) (d:HW Y ps a) (I:Inv Y ((a,gZ c k)::ps) j H s)
 (h:∀ v l r,Inv Y ((a,gZ (c++[y]) r)::ps) j H l->Q v l):wpAny (model Y.prog Y.w) Y.A (call (.builtin "list.append") [.ref a,y]) Q E s:=by
 obtain ⟨i,m,B,C,D⟩:=I.pin (a,gZ c k) (aau _ aao);refine call_meets aa5 ⟨_,i,rfl⟩ PySem.F.entry_list_append (PySem.F.args_list_append_2 _ _) (PySem.list_append a c.toArray k y (by rw [aap];exact A)) ⟨i,?_⟩;have q:=PySem.IsL.update i (fun z=>z.push y);have w:Inv Y ps j H s:=I.pins_of fun p f=>I.pin p (aau _ (aan _ f));have g:=w.turned (t':=s.toks) (it:=a) (h':=s.heap.update a (Obj.mapSeq fun z=>z.push y)) (fun b o n e=>(aaK s.heap _ (aas n)).trans e) m d.1 d.2.2.1 d.2.2.2.1 d.2.2.2.2;have x:(c.toArray.push y)=(c++[y]).toArray:=by simp
 rw [x] at q;exact h _ _ _ (g.pins_of fun p f=>by
  rcases aah.mp f with rfl|f
  ·exact ⟨q,m,d.1,d.2.1,fun v z=>by cases z⟩
  ·exact g.pin p (aau _ f))
def Pj {Y:Cx} {ps:YI} {f O:Zl} {fp:YE} {tn:Nat->Heap->Prop} {J:It} {g:TG} {tt:TT} {P:TE} {F:List V->St->Hp->Prop} {c B S C:ZO} {j:Nat} {D:YR} {R:YN}
 (W:Nat->Nat->List V->St->Hp->Prop) (G:Ci J g tt P F W) (T:Turn Y.prog Y.w Y.K S J fp O tn) (e:Jw c j (.ref O) (.ref f) Y.env S C D (fun k=>(do let _ ← call (.builtin "list.append") [.ref f,← eval B Y.env]) >>= fun _=>k))
 (hg:PG Y S g) (hc:p_ Y D tt) (he:PE Y B P) (n:Y.calm=true) (hx:∀ v s,¬ Y.xe v s) (o:∀ b∈fp,Zf Y ps f b) (d:HW Y ps f)
 (hR:∀ Z A H' ys us k,Inv Y ((f,gZ us k)::ps) A H' Z->Vals ys us->F ys A H'->R (.ok .next) Z)
 {s:Zp} {l:St} {H:Hp} {m:Nat} {r:List V} {x:Y2} {k0:Nat} (U:Vals r x) (I:Inv Y ((f,gZ x k0)::ps) l H s) (st:tn 0 s.heap) (fr:∀ b∈fp,H b=none) (w0:W 0 m r l H) :
 codeAny (model Y.prog Y.w) Y.A (.compLoop c j (.ref O) (.ref f) Y.env) R s:=by
 refine JS (α:=List V×List Value×Nat) (fun a=>(f,gZ a.2.1 a.2.2)::ps) e T hg hc n hx (fun a b X H hn=>?_) (fun i m a l H=>W i m a.1 l H) (fun i m a l H=>P l H fun y H4=>∃ M,M<m/\W (i+1) M (a.1++[y]) l H4)
  (fun a=>Vals a.1 a.2.1) (fun a=>a.1.length<sizeLine) (fun i m a l H L w=>?_) (fun i m a l H h s L hz q ho I k Q E z=>?_) (a:=(r,x,k0)) I st fr U w0
 ·obtain ⟨f0,f1,f2,f3,f4,f5⟩:=(o b X).1 H hn;refine ⟨f0,f1,f2,f3,f4,fun p N=>?_⟩;rcases aam.mp N with z|z
  ·exact f5 p (aaG _ z)
  ·rcases aah.mp z with rfl|z
   ·exact aas (o b X).2
   ·exact f5 p (aau _ z)
 ·exact (G i m a.1 l H w).imp (fun z=>⟨z.1,fun s I=>hR s l H _ _ _ I L z.2⟩) id
 ·refine aaa (aaa (aat (he _ s l H _ I q) (fun y s8 ⟨yv,H8,I8,r8,M,hm,w8⟩=>?_) (fun v s z=>(hx v s z).elim)));refine aaa (Iu (ps:=ps++lE fp h) (by have:=L.length;omega) ⟨d.1,d.2.1,d.2.2.1,d.2.2.2.1,fun p N=>?_⟩ I8 fun v s9 k9 I9=>aad (z s9 ⟨M,hm,(a.1++[yv],a.2.1++[y],k9),l,H8,I9,L.append (.cons r8 .nil),w8⟩));rcases aam.mp N with z|z
  ·exact d.2.2.2.2 p (aaG _ z)
  ·rcases aam.mp z with z|z
   ·exact d.2.2.2.2 p (aau _ z)
   ·exact (o _ (qQ z).1).2
def yE (X:Cx) (a:ZT) (h:Y1) (fp:YE) (q:Nat->Heap->Prop) (r:Zl) (c:ZO) (W:Nat->Nat->List V->St->Hp->Prop) (F:List V->Hp->Prop) (g:YO) (d:Zp) (e:Hp):Prop:=
 ∀ (C f:Zl) (R:YN),(∀ b∈fp,Zf (eH X a h g C d e fp) [] f b)->HW (eH X a h g C d e fp) [] f->
   (∀ j i l n o k,Inv (eH X a h g C d e fp) [(f,gZ o k)] i l j->Vals n o->F n l->R (.ok .next) j)->
   ∀ s p H m,Inv (eH X a h g C d e fp) [(f,gZ [] 0)] p H s->q 0 s.heap->(∀ b∈fp,H b=none)->W 0 m [] p H->
     codeAny (model X.prog X.w) X.A (.compLoop c 0 (.ref r) (.ref f) (compEnvC a g C X.env)) R s
def uZ {X:Cx} {scope:ZT} {own:Y1} {js:List Nat} {N':Y1} {h1:ZI} {dR:YI} {σ:St} {H:Hp} {s:Zp} {it:Zl} {fp:YE} {tn:Nat->Heap->Prop} {J:It} {tg:ZO} {cl:YO} {Q:Env->Shared->Prop} {E:ZU}
 (S:eN X scope own js N') (I:Inv X dR σ H s) (k:∀ b o,s.heap.get? b=some o->h1.get? b=some o) (le:s.heap.objs.size≤h1.objs.size)
 (hc1:∀ x c,cl.lookup x=some c->X.env.cells.lookup x=some c) (hc2:∀ x,(x,NameKind.free)∈scope.names->∃ c,cl.lookup x=some c) (T:Turn X.prog X.w X.K tg J fp it tn) (st:tn 0 s.heap) (hf:∀ b∈fp,nA X dR H b)
 (h:∀ e s',{ e with scope:=relabel scope X.env }=compEnvC scope cl h1.objs.size X.env->e.locals=h1.objs.size->(∀ b o,h1.get? b=some o->s'.heap.get? b=some o)->Inv (eH X scope N' cl h1.objs.size s H fp) [] (jU own.length js σ) H s'->tn 0 s'.heap-> (∀ b∈fp,b<s.heap.objs.size/\∀ H':Hp,H' b=none->nA (eH X scope N' cl h1.objs.size s H fp) [] H' b)->Q e s') :
 wpAny (model X.prog X.w) X.A (newFunctionEnv scope X.env.globals cl [] X.env.qual none .none (some X.env)) Q E { s with heap:=h1 }:=by
 refine wpAny_newFunctionEnv S.nocell (by intro y hy;simp at hy) (fun h₂ hns hsb=>?_) S.kind;dsimp only at hns hsb ⊢;have ne:∀ b o,h1.get? b=some o->b≠h1.objs.size:=fun b o e=>aal (aaf e);have up:∀ b o,h1.get? b=some o->h₂.get? b=some o:=fun b o e=>hsb.extBut b o (ne b o e) (aai _ e);have lt:∀ b∈fp,b<s.heap.objs.size:=fun b hb=>let ⟨o,e,_⟩:=T.obj _ _ st b hb;aaf e
 refine h _ _ rfl rfl up (Inv.comp S I hc1 hc2 le hns (fun b o e=>up b o (k b o e)) (fun b hb=>⟨hf b hb,lt b hb⟩) (I.hok.fresh le) fun b o e=>ne b o (k b o e)) (T.keep _ _ _ st fun b hb o e=>up b o (k b o e)) fun b hb=>⟨lt b hb,fun H' hn=>?_⟩;obtain ⟨_,_,f2,f3,f4,_⟩:=hf b hb;refine ⟨hn,aal (aar (lt b hb) le),fun z=>?_,.inl hb,fun x c e=>f4 x c (hc1 x c e),fun p hp=>absurd (show p∈([]:YI) from hp) (by simp)⟩;rcases aah.mp (I.stkSub b z) with q|q
 ·exact (hf b hb).2.1 q
 ·exact f2 q
def Oz (e:TI) (g:TG) (f:TT) (h:TE) (k:Nat) (i:List Nat):TE:=fun a H Q=>e a H fun J d=>∃ W:Nat->Nat->List V->St->Hp->Prop,(∃ m,W 0 m [] (jU k i a) d)/\
 vo J g f h (fun b c=>b.length≤sizeLine/\∀ p,c p=none->Q (.ref p) (upd c p (.lst b))) W
section
variable {X:Cx} {scope:ZT} {own:Y1} {js:List Nat} {N':Y1} {wi:TI} {g:TG} {tt:TT} {te:TE} {elt tg iter:ZO} {ifs:YR} {rest:List Comprehension} {pos:Pos}
noncomputable def vz {l:Zl} {fp:YE} {n:Nat->Heap->Prop} {J:It} {F:List V->Hp->Prop} {W:Nat->Nat->List V->St->Hp->Prop} {e:YO} {c:Zp} {d:Hp} (f:X.calm=true) (x:∀ e C a b j,PG (eH X scope N' e C a b j) tg g) (y:∀ e C a b j,p_ (eH X scope N' e C a b j) ifs tt) (A:∀ C,PE (eH X scope N' e C c d fp) elt te)
 (T:Turn X.prog X.w X.K tg J fp l n) (h:vo J g tt te F W):yE X scope N' fp n l (.ListComp elt [⟨tg,iter,ifs,0⟩] scope pos) W F e c d:=fun C o R i p q s B H m I r fr v=>
 Pj (Y:=eH X scope N' e C c d fp) (F:=fun w _ H=>F w H) W h T ⟨fun _=>rfl,fun _ _=>rfl⟩ (x _ _ _ _ _) (y _ _ _ _ _) (A _) f (fun _ _ z=>z) i p q .nil I r fr v
def zB {dR:YI} {σ:St} {H:Hp} {s:Zp} {it:Zl} {fp:YE} {tn:Nat->Heap->Prop} {J:It} {cl:YO} {F:List V->Hp->Prop} {E:ZU} {RR:Value->Addr->Result->Shared->Prop} {W:Nat->Nat->List V->St->Hp->Prop} {m0:Nat}
 (S:eN X scope own js N') (hc1:∀ x c,cl.lookup x=some c->X.env.cells.lookup x=some c) (hc2:∀ x,(x,NameKind.free)∈scope.names->∃ c,cl.lookup x=some c)
 (I:Inv X dR σ H s) (T:Turn X.prog X.w X.K tg J fp it tn) (st:tn 0 s.heap) (hf:∀ b∈fp,nA X dR H b) (L:yE X scope N' fp tn it (.ListComp elt (⟨tg,iter,ifs,0⟩::rest) scope pos) W F cl s H) (w0:W 0 m0 [] (jU own.length js σ) H)
 (hF:∀ ys H',F ys H'->ys.length≤sizeLine)
 (fin:∀ acc C H' ys s' m,Inv X dR σ (upd H' acc (.lst ys)) s'->H' acc=none->s'.heap.Ns C m->(upd H' acc (.lst ys)) C=none->C≠X.env.locals->X.s₀.heap.objs.size≤C->(∀ x c,X.env.cells.lookup x=some c->c≠C)->(∀ p∈X.pn++dR,p.1≠C)->F ys H'->RR (.ref acc) C (.ok .next) s') :
 wpAny (model X.prog X.w) X.A (newList []) (fun acc s₃=>wpAny (model X.prog X.w) X.A (newFunctionEnv scope X.env.globals cl [] X.env.qual none .none (some X.env)) (fun cenv s₄=> codeAny (model X.prog X.w) X.A (.compStart (.ListComp elt (⟨tg,iter,ifs,0⟩::rest) scope pos) 0 (.ref it) acc { cenv with scope:=relabel scope X.env }) (RR acc cenv.locals) s₄) E s₃) E s:=by
 refine aaU ?_;have sz:(s.heap.push (gZ [] 0)).objs.size=s.heap.objs.size+1:=abq ..;refine uZ (h1:=s.heap.push (gZ [] 0)) S I (fun _ _ e=>aai _ e) (by rw [sz];exact abg _) hc1 hc2 T st hf fun e s₄ e1 e2 up I1 st1 fs=>?_;rw [e1,e2];obtain ⟨_,c1,_,_,c4,c5⟩:=I.fpOk (H':=H) (b:=(s.heap.push (gZ [] 0)).objs.size) (by rw [sz];exact abg _) (I.hok.fresh (by rw [sz];exact abg _));obtain ⟨a0,a1,a2,_,a4,_⟩:=I.fpOk (H':=H) (aae _) (I.hok.fresh (aae _));have aC:s.heap.objs.size≠(s.heap.push (gZ [] 0)).objs.size:=by rw [sz];exact aal (abt _)
 have hacc:s₄.heap.get? s.heap.objs.size=some (gZ [] 0):=up _ _ (aav _ rfl);have stk:s.heap.objs.size∉frs X.stack:=fun b=>by obtain ⟨_,o,ho,_⟩:=I.stack.mem b;exact absurd (aaf ho) (aaN _)
 have oldLt:∀ b o,s.heap.get? b=some o->b≠s.heap.objs.size:=fun b o e=>aal (aaf e);have cC:X.s₀.heap.objs.size≤(s.heap.push (gZ [] 0)).objs.size:=aaj I.sz (by rw [sz];exact abg _);generalize hCn:(s.heap.push (gZ [] 0)).objs.size=C at *;generalize hAn:s.heap.objs.size=acc at *;have I2:Inv (eH X scope N' cl C s H fp) [(acc,gZ [] 0)] (jU own.length js σ) H s₄:=I1.pins_of fun p hp=>by
  obtain rfl:p=(acc,gZ [] 0):=by simpa using hp
  exact ⟨hacc,a0,aC,stk,fun v z=>by cases z⟩
 have loop:codeAny (model X.prog X.w) X.A (.compLoop (.ListComp elt (⟨tg,iter,ifs,0⟩::rest) scope pos) 0 (.ref it) (.ref acc) (compEnvC scope cl C X.env)) (RR (.ref acc) C) s₄:=by
  refine L C acc _ (fun b hb=>⟨(fs b hb).2,aal (fs b hb).1⟩) ⟨aC,stk,.inr (by show s.heap.objs.size≤acc;rw [hAn];exact aae _),fun x c e=>a4 x c (hc1 x c e),fun p hp=>absurd (show p∈([]:YI) from hp) (by simp)⟩ (fun s' σ' H' ys us k J' rv q=>?_) _ _ _ _ I2 st1 (fun b hb=>(hf b hb).1) w0;obtain ⟨e',n',_⟩:=J'.pin (acc,gZ us k) (aau _ aao);have n'':H' acc=none:=n';obtain ⟨m,hm,_⟩:=J'.loc;have un:Un (frs X.stack) fp H (upd H' acc (.lst ys)) s.heap s'.heap:=⟨J'.base.keep,J'.base.slot,fun b o e n hx=>by rw [bK (oldLt b o e)];exact J'.base.free b o e n hx,J'.base.there,
   fun b xs e=>by have z:=J'.base.tups b xs e;rw [bK (di z n'')];exact z,
   fun b o u e=>by have z:=J'.base.frzs b o u e;rw [bK (di z n'')];exact z,
   fun b ps e=>by
    obtain ⟨more,z⟩:=J'.base.tbls b ps e;exact ⟨more,by rw [bK (di z n'')];exact z⟩⟩;have hok:nJ X.prog X.w (upd H' acc (.lst ys)) s'.heap:=fun b u e=>by
   by_cases hb:b=acc
   ·subst hb;rw [a_] at e;cases e;exact ⟨hF _ _ q,us,k,rv,e'⟩
   ·rw [bK hb] at e;exact (J'.hok b u e).stay (fun c v _ z=>z) (fun c z=>by rw [bK (di z n'')];exact z) fun c xs z=>by rw [bK (di z n'')];exact z
  exact fin acc C H' ys s' m (I.call' J'.os un hok J'.bare fun b hb=>⟨(hf b hb).2.2.2.1,(hf b hb).2.1,(hf b hb).2.2.2.2.1,(hf b hb).2.2.2.2.2⟩) n'' hm (by rw [bK (aas aC)];exact J'.free) c1 cC c4 c5 q
 exact codeAny_compStart_list loop (T.self _ 0 _ _ _ st1 loop)
noncomputable def Ai {E:St} {H:Hp} {s:Zp} {D:Ends} (L:X.N.Nodup) (M:X.N[i]?=some x) (hk:X.env.scope.names.lookup x=some .local) (N:Inv X d E H s) (O:s.heap.Ns C m) (A:H C=none) (F:C≠X.env.locals) (P:X.s₀.heap.objs.size≤C)
 (l:∀ x c,X.env.cells.lookup x=some c->c≠C) (B:∀ p∈X.pn++d,p.1≠C) (q:D.nx (E.set i (some (.ref f))) H):compPost (model X.prog X.w) X.A X.xe (some (assign (.Name x h) X.env)) (fun _ G=>SP X d D .next G) (.ref f) C (.ok .next) s:=by
 show wpAny _ X.A (assign (.Name x h) X.env (.ref f)) _ _ s;refine wpAny_assign_Name (vJ N L M (.inl hk) (v:=.ref f) rfl (fun n r j=>?_) (.inr hk));obtain ⟨a,j,J⟩:=j;have y:C≠a:=by
  rcases J with z|z
  ·rw [z];exact F
  ·exact fun q=>l x a z q.symm
 refine ⟨m,O.sameBut j y,fun Q w=>⟨_,_,?_,q⟩⟩;exact r.turned (t':=n.toks) (it:=C) (fun b o I e=>(w.2 b I).trans e) A F (.inr P) l B
def J3 (e:TI) (f:St->It->(List V->Hp->Prop)->(Nat->Nat->List V->St->Hp->Prop)->Prop) (k:Nat) (h:List Nat):TE:=fun a H Q=>e a H fun J d=>∃ W:Nat->Nat->List V->St->Hp->Prop,(∃ m,W 0 m [] (jU k h a) d)/\
 f a J (fun b c=>b.length≤sizeLine/\∀ p,c p=none->Q (.ref p) (upd c p (.lst b))) W
noncomputable def zg (S:eN X scope own js N') (hi:PI X tg iter wi) (A:∀ {i fp l J F W a d E s H},Inv X a d H s->(∀ b∈fp,nA X a H b)->Turn X.prog X.w X.K tg J fp i l->CT d J F W->yE X scope N' fp l i (.ListComp elt (⟨tg,iter,ifs,0⟩::rest) scope pos) W F E s H)
 (hs:∀ x,foldedSetIterable iter X.env x=pure x:=by intro _;rfl):PE X (.ListComp elt (⟨tg,iter,ifs,0⟩::rest) scope pos) (J3 wi CT own.length js):=by
 intro a s d H Q I h;obtain ⟨E,n,p,r⟩:=pL (env:=X.env) scope fun y M hk=>I.ok.has y.1 (S.free y M hk);rw [eval_ListComp];refine acZ (use:=none) rfl hs n S.kind S.names (gj (hi a s d H _ I h) fun v s1 N=>gj N fun O s2 P=>?_);obtain ⟨i,fp,l,J,H2,e,G,T,w,L,W,⟨m0,Z⟩,f⟩:=P;subst e;refine zB (RR:=fun c C=>compPost (model X.prog X.w) X.A X.xe none (EP X a d Q) c C) S p r G T w L (A G L T f) Z (fun R U q=>q.1) ?_;intro c C U R s' m IX na hm z A hz B D q;refine ⟨m,hm,fun h' j=>⟨.ref c,_,?_,rfl,q.2 c na⟩⟩;exact IX.turned (t':=s'.toks) (it:=C) (fun b o Y e=>(j.2 b Y).trans e) z A (.inr hz) B D
noncomputable def yP (S:eN X scope own js N') (hN:X.N.Nodup) (hx:X.N[i]?=some x) (hk:X.env.scope.names.lookup x=some .local) (hi:PI X tg iter wi) (p:∀ {z fp A J F W a n N s H},Inv X a n H s->(∀ b∈fp,nA X a H b)->Turn X.prog X.w X.K tg J fp z A->CT n J F W->yE X scope N' fp A z (.ListComp elt (⟨tg,iter,ifs,0⟩::rest) scope pos) W F N s H)
 (M:swapsWith (.ListComp elt (⟨tg,iter,ifs,0⟩::rest) scope pos) (some (.Name x c)) d.line X.env=pure true:=by rfl) (hs:∀ x,foldedSetIterable iter X.env x=pure x:=by intro _;rfl) :
 PS X (.Assign [.Name x c] (.ListComp elt (⟨tg,iter,ifs,0⟩::rest) scope pos) d) (Ej (J3 wi CT own.length js) (fH i)):=by
 intro a s n H D I h;obtain ⟨N,B,E,G⟩:=pL (env:=X.env) scope fun y R hk=>I.ok.has y.1 (S.free y R hk);rw [exec_Assign_Name_used _ _ _ _ M];refine aaa (aa4 (aaa ?_));show wpAny _ X.A (do let _ ← comprehension (.ListComp elt (⟨tg,iter,ifs,0⟩::rest) scope pos) scope X.env _ (newList []) false (eval iter X.env) (some (assign (.Name x c) X.env))) _ _ s;refine aaa (aat (acZ (use:=some (assign (.Name x c) X.env)) (Q:=fun _ j=>SP X a D .next j) rfl hs B S.kind S.names (gj (hi a s n H _ I h) fun v s1 U=>gj U fun Y s2 Z=>?_)) (fun _ j hq=>aad (aad hq)) fun _ _ e=>e);obtain ⟨z,fp,A,J,H2,e,O,T,L,P,W,⟨m0,w0⟩,l⟩:=Z;subst e;exact zB (RR:=fun f C=>compPost (model X.prog X.w) X.A X.xe (some (assign (.Name x c) X.env)) (fun _ j=>SP X a D .next j) f C) S E G O T L P (p O P T l) w0 (fun ys H' q=>q.1) fun f C H' ys j m IX na hm o p hz r w q=>Ai hN hx hk IX hm o p hz r w (q.2 f na)
def jf (S:eN X scope own js N') (c:X.calm=true) (h:PI X tg iter wi) (i:∀ e C a b f,PG (eH X scope N' e C a b f) tg g) (j:∀ e C a b f,p_ (eH X scope N' e C a b f) ifs tt)
 (l:∀ e C a b f,PE (eH X scope N' e C a b f) elt te) (m:∀ x,foldedSetIterable iter X.env x=pure x:=by intro _;rfl):PE X (.ListComp elt [⟨tg,iter,ifs,0⟩] scope pos) (Oz wi g tt te own.length js):=
 zg (CT:=fun _ J F W=>vo J g tt te F W) S h (fun _ _ T d=>vz c i j (fun _=>l _ _ _ _ _) T d) m
noncomputable def Bm (S:eN X scope own js N') (e:X.calm=true) (m:X.N.Nodup) (n:X.N[i]?=some x) (hk:X.env.scope.names.lookup x=some .local) (o:PI X tg iter wi) (p:∀ h C a b j,PG (eH X scope N' h C a b j) tg g) (q:∀ h C a b j,p_ (eH X scope N' h C a b j) ifs tt)
 (r:∀ h C a b j,PE (eH X scope N' h C a b j) elt te) (l:swapsWith (.ListComp elt [⟨tg,iter,ifs,0⟩] scope pos) (some (.Name x c)) d.line X.env=pure true:=by rfl) (s:∀ x,foldedSetIterable iter X.env x=pure x:=by intro _;rfl) :
 PS X (.Assign [.Name x c] (.ListComp elt [⟨tg,iter,ifs,0⟩] scope pos) d) (Ej (Oz wi g tt te own.length js) (fH i)):=
 yP (CT:=fun _ J F W=>vo J g tt te F W) S m n hk o (fun _ _ T f=>vz e p q (fun _=>r _ _ _ _ _) T f) l s
end
section
variable {X:Cx}
def Uj (i j:Int):Prop:=0<j/\j<340282366920938463463374607431768211456
def J_:oH X (binaryOp .FloorDiv) (rI Uj fun i j=>.int (i / j)):=VR fun i j _ _ _ _ _ a q=>by
 rw [← adi i (Int.le_of_lt a.1)] at q;have d:(0:Int)<j:=a.1;have e:j<340282366920938463463374607431768211456:=a.2;have b:j.natAbs<340282366920938463463374607431768211456:=by omega
 have c:(2:Nat) ^ 128=340282366920938463463374607431768211456:=by ext
 have f:j.natAbs.log2<128:=(acv (by omega)).mpr (Nat.lt_of_lt_of_eq b c.symm);exact floordiv_int (by have:=a.1;omega) q (.inl (PyProof.noPylong_of_log2 (by omega)))
abbrev CW (J:It) (g:TG) (b:TT) (c:TE) (F:List V->Hp->Prop) (a:St) (d:Hp):Prop:=∃ W:Nat->Nat->List V->St->Hp->Prop,(∃ m,W 0 m [] a d)/\vo J g b c F W
def Ht (P:Nat->List V->St->Hp->Prop) (L:n≤sizeLine) (G:P 0 [] o B) (hd:∀ d f H,P n d f H->J.stop n H/\F d H)
 (I:∀ i d f H,i<n->P i d f H->J.go i H/\d.length≤i/\∀ x r,J.yld i H x r->∀ N:List V->St->Hp->Prop,(∀ j l s,P (i+1) j l s->N j l s)->g x f r fun e C=>z e C fun b v=>if b=true then A e v fun y D=>N (d++[y]) e D else N d e v):CW J g z A F o B:=by
 refine ⟨fun i m d f H=>m=n-i/\i≤n/\P i d f H,⟨_,rfl,aaR _,G⟩,?_⟩;rintro i m d f H ⟨rfl,E,p⟩;rcases Nat.lt_or_eq_of_le E with h|rfl
 ·obtain ⟨a,b,c⟩:=I i d f H h p;exact .inr ⟨a,by omega,fun x r y=>c x r y (fun j l s=>∃ w,w<n-i/\w=n-(i+1)/\i+1≤n/\P (i+1) j l s) fun _ _ _ q=>⟨_,by omega,rfl,h,q⟩⟩
 ·exact .inl (hd d f H p)
def oN (m:Nat->List V->St->Hp->Prop) (B:n≤sizeLine) (C:m 0 [] l v) (hd:∀ c d H,c.length=n->m n c d H->J.stop n H/\F c H)
 (w:∀ i c d H,i<n->c.length=i->m i c d H->J.go i H/\∀ x o,J.yld i H x o->∀ N:List V->St->Hp->Prop,(∀ e j r,e.length=i+1->m (i+1) e j r->N e j r)->g x d o fun f z=>s f z fun y A=>N (c++[y]) f A):CW J g uP s F l v:=
 Ht (fun i c d H=>c.length=i/\m i c d H) B ⟨rfl,C⟩ (fun c d H p=>hd c d H p.1 p.2) fun i c d H h p=>⟨(w i c d H h p.1 p.2).1,abA p.1,fun x o y N q=>(w i c d H h p.1 p.2).2 x o y N fun _ _ _ a b=>q _ _ _ ⟨a,b⟩⟩
def pD {q:Int} {n:Nat} {g:TG} {r:TE} {F:List V->Hp->Prop} {j:St} {s:Hp} (m:Nat->List V->St->Hp->Prop) (z:n≤sizeLine) (A:m 0 [] j s)
 (B:∀ i a b H,i<n->a.length=i->m i a b H->∀ N:List V->St->Hp->Prop,(∀ c f o,c.length=i+1->m (i+1) c f o->N c f o)->g (.int (q+i)) b H fun d v=>r d v fun y w=>N (a++[y]) d w)
 (hd:∀ a b H,a.length=n->m n a b H->F a H):CW (Vy q n) g uP r F j s:=
 oN m z A (fun a b H l p=>⟨aae _,hd a b H l p⟩) fun i a b H h l p=>⟨h,fun x _ ⟨e,y⟩=>by subst e y;exact B i a b _ h l p⟩
def jr {S:Hp->List V->Prop} {xs:List V} {g:TG} {q:TE} {F:List V->Hp->Prop} {m:St} {r:Hp} (d:Nat->List V->St->Hp->Prop) (w:xs.length≤sizeLine) (z:d 0 [] m r) (n:∀ i a b H,i≤xs.length->d i a b H->S H xs)
 (A:∀ i x a b H,xs[i]?=some x->a.length=i->d i a b H->∀ N:List V->St->Hp->Prop,(∀ c j o,c.length=i+1->d (i+1) c j o->N c j o)->g x b H fun f s=>q f s fun y v=>N (a++[y]) f v)
 (hd:∀ a b H,a.length=xs.length->d xs.length a b H->F a H):CW (W_ S) g uP q F m r:=
 oN d w z (fun a b H l p=>⟨⟨xs,n _ a b H (aae _) p,aae _⟩,hd a b H l p⟩) fun i a b H h l p=>⟨⟨xs,xs[i],n i a b H (aa1 h) p,by simp [h]⟩,fun x _ ⟨e,y⟩=>by subst e;exact A i x a b _ (y xs (n i a b _ (aa1 h) p)) l p⟩
structure gK (K:Zs) (mg:ZY) (x:Str) (st:Stmt) (ps:Y1) (f:Zl) (fd:ZA):Prop where
 F:iM K x x st f fd
 mg:mg x=some (.ref f)
 b:Binds K fd ps []
def iz (p:Zl) (H a:Hp):Prop:=∀ b o,H b=some o->b≠p->a b=some o
def iz.refl:iz p H H:=fun _ _ h _=>h
def iz.trans (a:iz p H e) (b:iz p e f):iz p H f:=fun c o h d=>b c o (a c o h d) d
def iz.upd:iz p H (upd H p o):=fun b u h a=>by rw [bK a];exact h
def iz.new (h:H q=none):iz p H (L2.upd H q o):=fun b u e _=>by rw [bK (di e h)];exact e
end
def Ro (M:St->Hp->Prop) (d:∀ a b,M a b->u D a b) (e:∀ N:St->Hp->Prop,(∀ a b,M a b->N a b)->t { D with nx:=N } c H):Gy t u D c H:=e (u D) d
def du.new (h:H q=none):du H (upd H q o):=fun b u e=>by rw [bK (di e h)];exact e
def du.tup {K:Zs} {H b:Hp} {a:Zl} {c:List V} (e:du H b) (h:gC K H a c):gC K b a c:=by
 rcases h with (h|⟨o,h⟩)|h
 ·exact .inl (.inl (e _ _ h))
 ·exact .inl (.inr ⟨o,e _ _ h⟩)
 ·exact .inr h
def gB:bootBuiltins "len" = some (.builtin "len"):=by ext
def qm:bootBuiltins "list" = some (.type "list"):=by ext
def jO:bootBuiltins "tuple" = some (.type "tuple"):=by ext
def wU:bootBuiltins "str" = some (.type "str"):=by ext
def qN:bootBuiltins "int" = some (.type "int"):=by ext
def ou:bootBuiltins "bool" = some (.type "bool"):=by ext
def Jm:bootBuiltins "all" = some (.builtin "all"):=by ext
def eQ:bootBuiltins "isinstance" = some (.builtin "isinstance"):=by ext
def RW:bootBuiltins "sum" = some (.builtin "sum"):=by ext
def oM:bootBuiltins "sorted" = some (.builtin "sorted"):=by ext
open PySem.SeqAt
mutual
inductive Rep (K:Zs) (H:Hp):V->PyData->Prop
 |non:Rep K H .non .none
 |bl (b:Bool):Rep K H (.bl b) (.bool b)
 |int (i:Int):Rep K H (.int i) (.int i)
 |str (x:Str):Rep K H (.str x) (.str x)
 |tup {a:Zl} {xs:List V} {ds:List PyData}:gC K H a xs->iu K H xs ds->Rep K H (.ref a) (.tuple ds)
 |lst {a:Zl} {xs:List V} {ds:List PyData}:fM K H a xs->iu K H xs ds->Rep K H (.ref a) (.list ds)
inductive iu (K:Zs) (H:Hp):List V->List PyData->Prop
 |nil:iu K H [] []
 |cons {x:V} {d:PyData} {xs:List V} {ds:List PyData}:Rep K H x d->iu K H xs ds->iu K H (x::xs) (d::ds)
end
section
variable {K:Zs} {H H':Hp}
theorem iu.length:∀ {xs:List V} {a:List PyData},iu K H xs a->xs.length=a.length
 |_,_,.nil=>rfl
 |_,_,.cons _ t=>by rw [aaA,aaA,iu.length t]
mutual
theorem Rep.map (e:∀ a c,gC K H a c->gC K H' a c) (f:∀ a c,fM K H a c->fM K H' a c):∀ {v:V} {d:PyData},Rep K H v d->Rep K H' v d
 |_,_,.non=>.non
 |_,_,.bl b=>.bl b
 |_,_,.int i=>.int i
 |_,_,.str x=>.str x
 |_,_,.tup h r=>.tup (e _ _ h) (iu.map e f r)
 |_,_,.lst h r=>.lst (f _ _ h) (iu.map e f r)
theorem iu.map (c:∀ a b,gC K H a b->gC K H' a b) (e:∀ a b,fM K H a b->fM K H' a b):∀ {v:List V} {d:List PyData},iu K H v d->iu K H' v d
 |_,_,.nil=>.nil
 |_,_,.cons h r=>.cons (Rep.map c e h) (iu.map c e r)
end
def Rep.same (h:Rep K H v d) (e:du H H'):Rep K H' v d:=h.map (fun _ _ z=>e.tup z) (fun _ _ z=>e.seq z)
def iz.seq (e:iz p H H') (c:H p=some (.dK b)) (h:fM K H a xs):fM K H' a xs:=by
 rcases h with (h|⟨o,h⟩)|h
 ·exact .inl (.inl (e _ _ h (iJ h c (by intro z;cases z))))
 ·exact .inl (.inr ⟨o,e _ _ h (iJ h c (by intro z;cases z))⟩)
 ·exact .inr h
theorem iu.get':∀ {a:List V} {b:List PyData} {i:Nat} {x:V},iu K H a b->a[i]?=some x->∃ d,b[i]?=some d/\Rep K H x d
 |_,_,_,_,.nil,e=>by simp at e
 |_,_,0,_,.cons r _,e=>by simp at e;subst e;exact ⟨_,rfl,r⟩
 | _,_,i+1,d,.cons _ t,e=>by obtain ⟨u,c,f⟩:=iu.get' (i:=i) (x:=d) t (by simpa using e);exact ⟨u,by simpa using c,f⟩
end
section
variable {X:Cx} {dR:YI} {σ:St} {H:Hp} {s:Zp}
mutual
theorem Inv.reads (I:Inv X dR σ H s):∀ {v:V} {d:PyData} {u:ZH},Rep X.K H v d->RelV v u->∃ a,Reads s.heap u d a
 |_,_,u,.non,r=>by cases (show u=Value.none from r);exact ⟨[],.none⟩
 |_,_,u,.bl b,r=>by cases (show u=Value.bool b from r);exact ⟨[],.bool b⟩
 |_,_,u,.int i,r=>by obtain ⟨t,rfl⟩:=r;exact ⟨[],.int i t⟩
 |_,_,u,.str x,r=>by obtain ⟨t,rfl⟩:=r;exact ⟨[],.str x t⟩
 | _,_,u,.tup h rs,r=>by cases (show u=Value.ref _ from r);obtain ⟨f,g,⟨o,e,c,n,hd⟩,_⟩:=I.tuple h;obtain ⟨a,j⟩:=Inv.readsAll I rs g;exact ⟨a,.tuple e c hd (by simpa using j)⟩
 | _,_,u,.lst h rs,r=>by cases (show u=Value.ref _ from r);obtain ⟨f,g,⟨o,n,e,c,_,hd⟩,_⟩:=I.list h;obtain ⟨a,j⟩:=Inv.readsAll I rs g;exact ⟨_,.list e c hd (by simpa using j)⟩
theorem Inv.readsAll (I:Inv X dR σ H s):∀ {vs:List V} {d:List PyData} {e:Y2},iu X.K H vs d->Vals vs e->∃ c,ReadsAll s.heap e d c
 |_,_,_,.nil,.nil=>⟨[],.nil⟩
 | _,_,_,.cons h hs,.cons r rs=>by obtain ⟨c,a⟩:=Inv.reads I h r;obtain ⟨bs,b⟩:=Inv.readsAll I hs rs;exact ⟨c++bs,.cons a b⟩
end
end
mutual
noncomputable def mD:PyData->PyData->Bool
 |.none,.none=>true
 |.bool a,.bool b=>a == b
 |.bool a,.int b=>(if a then 1 else 0) == b
 |.int a,.bool b=>a == (if b then 1 else 0)
 |.int a,.int b=>a == b
 |.str a,.str b=>a == b
 |.tuple a,.tuple b=>jz a b
 |.list a,.list b=>jz a b
 |_,_=>false
noncomputable def jz:List PyData->List PyData->Bool
 |[],[]=>true
 |a::r,b::t=>mD a b && jz r t
 |_,_=>false
end
theorem vU:∀ (c d:List PyData),jz c d=((List.range (min c.length d.length)).all (fun j=>mD (c.getD j .none) (d.getD j .none)) && c.length == d.length)
 |[],[]=>by simp [jz]
 |[],_::_=>by simp [jz]
 |_::_,[]=>by simp [jz]
 | a::r,b::t=>by
   rw [jz,vU r t,aaA,aaA,Nat.succ_min_succ,List.range_succ_eq_map,abJ,List.all_map];simp only [List.getD_cons_zero,ac0];congr 1;have e:(r.length+1 == t.length+1)=(r.length == t.length):=by rw [abp];simp
   rw [e];congr 1
mutual
noncomputable def oU:PyData->Nat
 |.tuple a=>jy a+1
 |.list a=>jy a+1
 |_=>0
noncomputable def jy:List PyData->Nat
 |[]=>0
 |d::r=>max (oU d) (jy r)
end
section
variable {X:Cx} {dR:YI} {σ:St} {H:Hp} {s:Zp}
mutual
theorem Rep.fn (I:Inv X dR σ H s):∀ {v:V} {d e:PyData} {u:ZH},Rep X.K H v d->Rep X.K H v e->RelV v u->d=e/\mD d d=true
 |_,_,_,_,.non,.non,_=>⟨rfl,rfl⟩
 |_,_,_,_,.bl b,.bl _,_=>⟨rfl,by simp [mD]⟩
 |_,_,_,_,.int i,.int _,_=>⟨rfl,by simp [mD]⟩
 |_,_,_,_,.str x,.str _,_=>⟨rfl,by simp [mD]⟩
 | _,_,_,_,.tup h1 r1,.tup h2 r2,r=>by have e:=I.tuple_inj h1 h2;subst e;obtain ⟨f,g,_,_⟩:=I.tuple h1;obtain ⟨e,q⟩:=iu.fn I r1 r2 g;exact ⟨by rw [e],q⟩
 | _,_,_,_,.lst h1 r1,.lst h2 r2,r=>by have e:=I.list_inj h1 h2;subst e;obtain ⟨f,g,_,_⟩:=I.list h1;obtain ⟨e,q⟩:=iu.fn I r1 r2 g;exact ⟨by rw [e],q⟩
 | _,_,_,_,.tup h1 _,.lst h2 _,r=>by obtain ⟨_,_,⟨o,h,j,_⟩,_⟩:=I.tuple h1;obtain ⟨_,_,⟨l,n,a,c,_⟩,_⟩:=I.list h2;rw [h] at a;cases a;rw [j] at c;injection c with z;exact absurd z (by decide)
 | _,_,_,_,.lst h2 _,.tup h1 _,r=>by obtain ⟨_,_,⟨o,h,j,_⟩,_⟩:=I.tuple h1;obtain ⟨_,_,⟨l,n,a,c,_⟩,_⟩:=I.list h2;rw [h] at a;cases a;rw [j] at c;injection c with z;exact absurd z (by decide)
theorem iu.fn (I:Inv X dR σ H s):∀ {v:List V} {d e:List PyData} {u:Y2},iu X.K H v d->iu X.K H v e->Vals v u->d=e/\jz d d=true
 |_,_,_,_,.nil,.nil,_=>⟨rfl,rfl⟩
 | _,_,_,_,.cons a b,.cons c d,.cons r rs=>by obtain ⟨f,q1⟩:=Rep.fn I a c r;obtain ⟨g,q2⟩:=iu.fn I b d rs;exact ⟨by rw [f,g],by simp [jz,q1,q2]⟩
end
def Hj {a b:List PyData} {c d:Y2} {A:ZN} (e:iu X.K H vs a) (f:iu X.K H i b) (g:Vals vs c) (h:Vals i d) :
 ((List.range (min c.toArray.size d.toArray.size)).all (fun j=>mD (a.getD j .none) (b.getD j .none)) && c.toArray.size == d.toArray.size)=jz a b:=by
 rw [vU,aap,aap,← g.length,← h.length,e.length,f.length]
def rcT {d e:List PyData} {a c:Y2} {A:ZN} (f:iu X.K H vs d) (g:iu X.K H o e) (h:Vals vs a) (i:Vals o c) (p:IsTup s.heap l a.toArray) (q:IsTup s.heap b c.toArray) (r:A.units<cLine)
 (v:∀ j (m:j<a.length) (n:j<c.length),EqAt A.in1 s a[j] c[j] (mD (d.getD j .none) (e.getD j .none))):RcAt A s (.ref l) (.ref b) (mD (.tuple d) (.tuple e)):=by
 show RcAt A s (.ref l) (.ref b) (jz d e);rw [← Hj (A:=A) f g h i];exact RcAt.tuples (show s.heap.IsTuple l a.toArray from p) (show s.heap.IsTuple b c.toArray from q) r fun j m n=>by simpa using v j (by simpa using m) (by simpa using n)
def ZJ {f g:List PyData} {a c:Y2} {A:ZN} (h:iu X.K H vs f) (i:iu X.K H r g) (m:Vals vs a) (n:Vals r c) (v:s.heap.IsList l a.toArray) (w:s.heap.IsList b c.toArray) (x:A.units<cLine)
 (y:∀ j (o:j<a.length) (p:j<c.length),EqAt A.in1 s a[j] c[j] (mD (f.getD j .none) (g.getD j .none))):RcAt A s (.ref l) (.ref b) (mD (.list f) (.list g)):=by
 show RcAt A s (.ref l) (.ref b) (jz f g);have q:=Hj (A:=A) h i m n;by_cases d:a.toArray.size=c.toArray.size
 ·rw [← q,d,Nat.min_self,ab5,Bool.and_true,← d];exact RcAt.lists v w d x fun j o p=>by simpa using y j (by simpa using o) (by simpa using p)
 ·have e:jz f g=false:=by
   rw [← q];have:(a.toArray.size == c.toArray.size)=false:=by simpa using d
   rw [this,acq]
  rw [e];exact RcAt.lists_lengths v w (by simpa using d) x
def eqT (I:Inv X dR σ H s) (p:gC X.K H l vs) (r:gC X.K H b h) (c:iu X.K H vs i) (d:iu X.K H h m) (n:Vals vs f) (o:Vals h g) (v:IsTup s.heap l f.toArray) (w:IsTup s.heap b g.toArray) (x:A.units<cLine)
 (y:∀ j (p:j<f.length) (r:j<g.length),EqAt A.in1 s f[j] g[j] (mD (i.getD j .none) (m.getD j .none))):EqAt A s (.ref l) (.ref b) (mD (.tuple i) (.tuple m)):=by
 by_cases a:l=b
 ·subst a;obtain ⟨e,q⟩:=Rep.fn I (.tup p c) (.tup r d) (u:=.ref l) rfl;rw [← e,q];exact EqAt.same _
 ·exact EqAt.of_refs a (rcT c d n o v w x y)
def ZP (I:Inv X dR σ H s) (p:fM X.K H l vs) (r:fM X.K H b h) (c:iu X.K H vs i) (d:iu X.K H h m) (n:Vals vs f) (o:Vals h g) (v:s.heap.IsList l f.toArray) (w:s.heap.IsList b g.toArray) (x:A.units<cLine)
 (y:∀ j (p:j<f.length) (r:j<g.length),EqAt A.in1 s f[j] g[j] (mD (i.getD j .none) (m.getD j .none))):EqAt A s (.ref l) (.ref b) (mD (.list i) (.list m)):=by
 by_cases a:l=b
 ·subst a;obtain ⟨e,q⟩:=Rep.fn I (.lst p c) (.lst r d) (u:=.ref l) rfl;rw [← e,q];exact EqAt.same _
 ·exact EqAt.of_refs a (ZJ c d n o v w x y)
def nj {A:ZN} (h:A.units+n<cLine):A.units<cLine:=by omega
def hu0 {A:ZN} (h:A.units+(n+1)<cLine):A.units<cLine:=by omega
def hu1 {A:ZN} (h:A.units+(n+1)<cLine):A.in1.units+n<cLine:=by show A.units+1+n<cLine;omega
mutual
theorem Um (I:Inv X dR σ H s):∀ {v w:V} {d e:PyData} {u x:ZH} {A:ZN},Rep X.K H v d->Rep X.K H w e->RelV v u->RelV w x->A.units+oU d<cLine->EqAt A s u x (mD d e)
 |_,_,_,_,_,_,_,.non,.non,rfl,rfl,hu=>EqAt.same _
 |_,_,_,_,_,_,_,.non,.bl b2,rfl,rfl,hu=>EqAt.none_bool b2
 |_,_,_,_,_,_,_,.non,.int i2,rfl,⟨t2,rfl⟩,hu=>EqAt.none_int i2 t2
 |_,_,_,_,_,_,_,.non,.str y2,rfl,⟨t2,rfl⟩,hu=>EqAt.none_str y2 t2
 | _,_,_,_,_,_,_,.non,.lst h2 rs2,rfl,rfl,hu=>by obtain ⟨a,c,g,_⟩:=I.list h2;exact EqAt.none_list g.isList (nj hu)
 | _,_,_,_,_,_,_,.non,.tup h2 rs2,rfl,rfl,hu=>by obtain ⟨a,c,g,_⟩:=I.tuple h2;exact EqAt.none_tuple g (nj hu)
 |_,_,_,_,_,_,_,.bl b1,.non,rfl,rfl,hu=>EqAt.bool_none b1
 |_,_,_,_,_,_,_,.bl b1,.bl b2,rfl,rfl,hu=>EqAt.bool_bool b1 b2
 |_,_,_,_,_,_,_,.bl b1,.int i2,rfl,⟨t2,rfl⟩,hu=>EqAt.bool_int b1 i2 t2
 |_,_,_,_,_,_,_,.bl b1,.str y2,rfl,⟨t2,rfl⟩,hu=>EqAt.bool_str b1 y2 t2
 | _,_,_,_,_,_,_,.bl b1,.lst h2 rs2,rfl,rfl,hu=>by obtain ⟨a,c,g,_⟩:=I.list h2;exact EqAt.bool_list b1 g.isList (nj hu)
 | _,_,_,_,_,_,_,.bl b1,.tup h2 rs2,rfl,rfl,hu=>by obtain ⟨a,c,g,_⟩:=I.tuple h2;exact EqAt.bool_tuple b1 g (nj hu)
 |_,_,_,_,_,_,_,.int i1,.non,⟨t1,rfl⟩,rfl,hu=>EqAt.int_none i1 t1
 |_,_,_,_,_,_,_,.int i1,.bl b2,⟨t1,rfl⟩,rfl,hu=>EqAt.int_bool i1 t1 b2
 |_,_,_,_,_,_,_,.int i1,.int i2,⟨t1,rfl⟩,⟨t2,rfl⟩,hu=>EqAt.int_int i1 t1 i2 t2
 |_,_,_,_,_,_,_,.int i1,.str y2,⟨t1,rfl⟩,⟨t2,rfl⟩,hu=>EqAt.int_str i1 t1 y2 t2
 | _,_,_,_,_,_,_,.int i1,.lst h2 rs2,⟨t1,rfl⟩,rfl,hu=>by obtain ⟨a,c,g,_⟩:=I.list h2;exact EqAt.int_list i1 t1 g.isList (nj hu)
 | _,_,_,_,_,_,_,.int i1,.tup h2 rs2,⟨t1,rfl⟩,rfl,hu=>by obtain ⟨a,c,g,_⟩:=I.tuple h2;exact EqAt.int_tuple i1 t1 g (nj hu)
 |_,_,_,_,_,_,_,.str y1,.non,⟨t1,rfl⟩,rfl,hu=>EqAt.str_none y1 t1
 |_,_,_,_,_,_,_,.str y1,.bl b2,⟨t1,rfl⟩,rfl,hu=>EqAt.str_bool y1 t1 b2
 |_,_,_,_,_,_,_,.str y1,.int i2,⟨t1,rfl⟩,⟨t2,rfl⟩,hu=>EqAt.str_int y1 t1 i2 t2
 |_,_,_,_,_,_,_,.str y1,.str y2,⟨t1,rfl⟩,⟨t2,rfl⟩,hu=>EqAt.str_str y1 t1 y2 t2
 | _,_,_,_,_,_,_,.str y1,.lst h2 rs2,⟨t1,rfl⟩,rfl,hu=>by obtain ⟨a,c,g,_⟩:=I.list h2;exact EqAt.str_list y1 t1 g.isList (nj hu)
 | _,_,_,_,_,_,_,.str y1,.tup h2 rs2,⟨t1,rfl⟩,rfl,hu=>by obtain ⟨a,c,g,_⟩:=I.tuple h2;exact EqAt.str_tuple y1 t1 g (nj hu)
 | _,_,_,_,_,_,_,.lst h1 rs1,.non,rfl,rfl,hu=>by obtain ⟨b,f,h,_⟩:=I.list h1;exact EqAt.list_none h.isList (nj hu)
 | _,_,_,_,_,_,_,.lst h1 rs1,.bl b2,rfl,rfl,hu=>by obtain ⟨b,f,h,_⟩:=I.list h1;exact EqAt.list_bool b2 h.isList (nj hu)
 | _,_,_,_,_,_,_,.lst h1 rs1,.int i2,rfl,⟨t2,rfl⟩,hu=>by obtain ⟨b,f,h,_⟩:=I.list h1;exact EqAt.list_int i2 t2 h.isList (nj hu)
 | _,_,_,_,_,_,_,.lst h1 rs1,.str y2,rfl,⟨t2,rfl⟩,hu=>by obtain ⟨b,f,h,_⟩:=I.list h1;exact EqAt.list_str y2 t2 h.isList (nj hu)
 | _,_,_,_,_,_,_,.lst h1 rs1,.lst h2 rs2,rfl,rfl,hu=>by obtain ⟨b,f,h,_⟩:=I.list h1;obtain ⟨a,c,g,_⟩:=I.list h2;exact ZP I h1 h2 rs1 rs2 f c h.isList g.isList (hu0 hu) (wR I rs1 rs2 f c (hu1 hu))
 | _,_,_,_,_,_,_,.lst h1 rs1,.tup h2 rs2,rfl,rfl,hu=>by obtain ⟨b,f,h,_⟩:=I.list h1;obtain ⟨a,c,g,_⟩:=I.tuple h2;exact EqAt.list_tuple h.isList g (nj hu)
 | _,_,_,_,_,_,_,.tup h1 rs1,.non,rfl,rfl,hu=>by obtain ⟨b,f,h,_⟩:=I.tuple h1;exact EqAt.tuple_none h (nj hu)
 | _,_,_,_,_,_,_,.tup h1 rs1,.bl b2,rfl,rfl,hu=>by obtain ⟨b,f,h,_⟩:=I.tuple h1;exact EqAt.tuple_bool b2 h (nj hu)
 | _,_,_,_,_,_,_,.tup h1 rs1,.int i2,rfl,⟨t2,rfl⟩,hu=>by obtain ⟨b,f,h,_⟩:=I.tuple h1;exact EqAt.tuple_int i2 t2 h (nj hu)
 | _,_,_,_,_,_,_,.tup h1 rs1,.str y2,rfl,⟨t2,rfl⟩,hu=>by obtain ⟨b,f,h,_⟩:=I.tuple h1;exact EqAt.tuple_str y2 t2 h (nj hu)
 | _,_,_,_,_,_,_,.tup h1 rs1,.lst h2 rs2,rfl,rfl,hu=>by obtain ⟨b,f,h,_⟩:=I.tuple h1;obtain ⟨a,c,g,_⟩:=I.list h2;exact EqAt.tuple_list h g.isList (nj hu)
 | _,_,_,_,_,_,_,.tup h1 rs1,.tup h2 rs2,rfl,rfl,hu=>by obtain ⟨b,f,h,_⟩:=I.tuple h1;obtain ⟨a,c,g,_⟩:=I.tuple h2;exact eqT I h1 h2 rs1 rs2 f c h g (hu0 hu) (wR I rs1 rs2 f c (hu1 hu))
theorem wR (I:Inv X dR σ H s):∀ {vs l:List V} {g m:List PyData} {h i:Y2} {A:ZN},iu X.K H vs g->iu X.K H l m->Vals vs h->Vals l i->A.units+jy g<cLine->
 ∀ j (e:j<h.length) (f:j<i.length),EqAt A s h[j] i[j] (mD (g.getD j .none) (m.getD j .none))
 |_,_,_,_,_,_,_,.nil,_,.nil,_,_,j,e,_=>absurd e (acw _)
 |_,_,_,_,_,_,_,.cons _ _,.nil,.cons _ _,.nil,_,j,_,f=>absurd f (acw _)
 |_,_,_,_,_,_,_,.cons a b,.cons c d,.cons r rs,.cons t ts,hu,0,_,_=>Um I a c r t (by simp only [jy] at hu;simp only [List.getD_cons_zero];omega)
 |_,_,_,_,_,_,_,.cons a b,.cons c d,.cons r rs,.cons t ts,hu,j+1,e,f=>wR I b d rs ts (by simp only [jy] at hu;omega) j (by simpa using e) (by simpa using f)
end
end
theorem uB:∀ {a:List PyData},e∈a->oU e≤jy a
 |_::_,.head _=>by simp only [jy];omega
 |_::r,.tail _ h=>by have:=uB h;simp only [jy];omega
def Ae:PyData->String
 |.none=>"NoneType"
 |.bool _=>"bool"
 |.int _=>"int"
 |.str _=>"str"
 |.list _=>"list"
 |.tuple _=>"tuple"
 |.dict _=>"dict"
theorem isD (I:Inv X f m H s) (r:Rep X.K H v d) (a:RelV v u)
 (e:PySem.W.kitOne X.K (.type (Ae d)) c=some b) (h:∀ tk,Q (.bool b) { s with toks:=tk }):wpAny (model X.prog X.w) A (call (.builtin "isinstance") [u,c]) Q E s:=by
 cases r with
 |non=>cases (show u=Value.none from a);exact abM PySem.W.kitx_none I.kIn aaF e (fun z=>nomatch z) h
 |bl y=>cases (show u=Value.bool y from a);exact abM PySem.W.kitx_bool I.kIn aaF e (fun z=>nomatch z) h
 |int i=>obtain ⟨t,q⟩:=(show ∃ t,u=Value.int i t from a);cases q;exact abM PySem.W.kitx_int I.kIn aaF e (fun z=>nomatch z) h
 |str y=>obtain ⟨t,q⟩:=(show ∃ t,u=Value.str y t from a);cases q;exact abM PySem.W.kitx_str I.kIn aaF e (fun z=>nomatch z) h
 | tup g _=>cases (show u=Value.ref _ from a);obtain ⟨_,_,⟨o,j,l,_⟩,_⟩:=I.tuple g;exact abM PySem.W.kitx_tuple I.kIn ⟨o,j,l⟩ e (fun z=>nomatch z) h
 | lst g _=>cases (show u=Value.ref _ from a);obtain ⟨_,_,⟨o,n,j,l,_⟩,_⟩:=I.list g;exact abM PySem.W.kitx_list I.kIn ⟨o,j,l⟩ e (fun z=>nomatch z) h
theorem YJ (I:Inv X f p H s) (r:Rep X.K H v d) (c:RelV v u)
 (a:s.heap.get? tp=some ⟨.type "tuple",dd,.seq j.toArray n,w⟩) (e:PySem.W.kitAny X.K (.type (Ae d)) j=some b) (h:∀ tk,Q (.bool b) { s with toks:=tk }):wpAny (model X.prog X.w) A (call (.builtin "isinstance") [u,.ref tp]) Q E s:=by
 cases r with
 |non=>cases (show u=Value.none from c);exact abN PySem.W.kitx_none I.kIn aaF a e (fun z=>nomatch z) h
 |bl y=>cases (show u=Value.bool y from c);exact abN PySem.W.kitx_bool I.kIn aaF a e (fun z=>nomatch z) h
 |int i=>obtain ⟨t,q⟩:=(show ∃ t,u=Value.int i t from c);cases q;exact abN PySem.W.kitx_int I.kIn aaF a e (fun z=>nomatch z) h
 |str y=>obtain ⟨t,q⟩:=(show ∃ t,u=Value.str y t from c);cases q;exact abN PySem.W.kitx_str I.kIn aaF a e (fun z=>nomatch z) h
 | tup g _=>cases (show u=Value.ref _ from c);obtain ⟨_,_,⟨o,l,m,_⟩,_⟩:=I.tuple g;exact abN PySem.W.kitx_tuple I.kIn ⟨o,l,m⟩ a e (fun z=>nomatch z) h
 | lst g _=>cases (show u=Value.ref _ from c);obtain ⟨_,_,⟨o,n,l,m,_⟩,_⟩:=I.list g;exact abN PySem.W.kitx_list I.kIn ⟨o,l,m⟩ a e (fun z=>nomatch z) h
def Y8 (K:Zs):List V->Hp->VK->Prop:=fun a H Q=>∃ x n d b,a=[x,.ty n]/\Rep K H x d/\PySem.W.kitOne K (.type (Ae d)) (.type n)=some b/\Q (.bl b) H
theorem ig:jd X (.builtin "isinstance") (Y8 X.K):=by
 intro a s f H g i Q I r h;obtain ⟨x,n,d,b,rfl,c,e,q⟩:=h;cases r with
 | cons r1 r=>
   cases r with
   | cons r2 r=>cases r;cases (show _=Value.type n from r2);exact isD I c r1 e fun tk=>⟨.bl b,H,I.tok tk,rfl,q⟩
def UT (K:Zs):List V->Hp->VK->Prop:=fun c H Q=>∃ x a n m d b,c=[x,.ref a]/\H a=some (.tup [.ty n,.ty m])/\Rep K H x d/\PySem.W.kitAny K (.type (Ae d)) [.type n,.type m]=some b/\Q (.bl b) H
theorem wg:jd X (.builtin "isinstance") (UT X.K):=by
 intro j s C H D E Q I r h;obtain ⟨x,a,n,m,d,b,rfl,l,p,e,q⟩:=h;cases r with
 | cons r1 r=>
   cases r with
   | cons r2 r=>
     cases r;cases (show _=Value.ref a from r2);obtain ⟨z,v,c,o,w,f,k,g⟩:=(show gr X.prog X.w H s.heap a (.tup [.ty n,.ty m]) from I.hok a _ l);obtain ⟨cls,dd,i,B⟩:=o;simp only at f g;subst f g;cases c with
     | cons y c=>
       cases c with
       | cons A c=>cases c;cases (show _=Value.type n from y);cases (show _=Value.type m from A);exact YJ I p r1 w e fun tk=>⟨.bl b,H,I.tok tk,rfl,q⟩
theorem Ib:∀ {bs:List Bool},a=bs.map V.bl->Vals a c->c=bs.map Value.bool:=by
 intro bs e r;induction bs generalizing a c with
 |nil=>subst e;cases r;rfl
 | cons b t d=>
   subst e;cases r with
   |cons r1 r=>rw [aaw,d rfl r,(show _=Value.bool b from r1)]
theorem range_all (bs:List Bool):(List.range bs.length).all (fun i=>bs.getD i false)=bs.all id:=by
 induction bs with
 |nil=>rfl
 |cons b t a=>rw [aaA,List.range_succ_eq_map,abJ,List.all_map,abJ,← a];rfl
theorem yW {bs:List Bool}:TruthOf P w A (fun i v=>((bs.map Value.bool).toArray)[i]?=some v) fun i=>bs.getD i false:=fun i v s Q E a c=>by
 dsimp only at a c;rw [List.getElem?_toArray,aaz] at a;cases e:bs[i]? with
 |none=>rw [e] at a;cases a
 | some b=>rw [e] at a;cases a;rw [acY,e] at c;exact aad c
def Uc (K:Zs) (f:List Bool->Bool):List V->Hp->VK->Prop:=fun b H Q=>∃ a bs,b=[.ref a]/\fM K H a (bs.map V.bl)/\Q (.bl (f bs)) H
theorem vP {X:Cx} (m:X.calm=true):jd X (.builtin "all") (Uc X.K fun bs=>bs.all id):=by
 intro f s x H y z Q I r h;obtain ⟨a,bs,rfl,g,q⟩:=h;cases r with
 | cons r1 r=>
   cases r;cases (show _=Value.ref a from r1);obtain ⟨i,j,p,w⟩:=I.list g;have e:=Ib rfl j;subst e;refine PySem.call_all_walk (wpAny_pyIter_list p.isList ?_);have c:a≠s.heap.objs.size:=(by obtain ⟨o,d,_⟩:=p.isList;exact aal (aaf d));refine ⟨s.heap.objs.size,_,_,_,_,_,_,rfl,Walks.list (A:=X.A.in1) (I.ok.hd m) s.heap.objs.size a c (bs.map Value.bool).toArray,⟨⟨_,aav _ rfl,rfl,rfl⟩,?_⟩,yW,fun v tk hk=>?_⟩
   ·obtain ⟨o,d,l,n,hd⟩:=p.isList;exact ⟨o,aai _ d,l,n,hd⟩
   ·rw [aap,aag,range_all];exact ⟨.bl _,H,I.kept fun b o e=>hk b o (by simp;exact aal (aaf e)) (aai _ e),rfl,q⟩
theorem MN:∀ {a:Y1},Vals (a.map V.str) b->StrsAre b a:=by
 intro a;induction a generalizing b with
 |nil=>intro r;cases r;exact .nil
 | cons y t c=>
   intro r;cases r with
   | cons r1 r=>obtain ⟨tk,e⟩:=(show ∃ t,_=Value.str y t from r1);subst e;exact .cons _ _ (c r)
def rJoin (K:Zs):V->List V->Hp->VK->Prop:=fun x vs H Q=>∃ z a b,x=.str z/\vs=[.ref a]/\fM K H a (b.map V.str)/\(b.map (·.length)).sum+b.length*z.length≤16777216/\Q (.str (Txt.join z b)) H
theorem CV:L_ X "str.join" (rJoin X.K):=by
 intro b s o H x vs v w Q I j l h;obtain ⟨z,a,m,rfl,rfl,d,f,q⟩:=h;obtain ⟨t,e⟩:=(show ∃ t,v=Value.str z t from j);subst e;cases l with
 | cons r1 r=>cases r;cases (show _=Value.ref a from r1);obtain ⟨g,i,p,n⟩:=I.list d;exact join_list p.isList (by simpa using MN i) f fun c k=>⟨.str _,H,I.tok k,⟨c,rfl⟩,q⟩
def XJ (f:Str->Bool):V->List V->Hp->VK->Prop:=fun x vs H Q=>∃ z,x=.str z/\vs=[]/\Q (.bl (f z)) H
noncomputable def Bs:L_ X "str.isascii" (XJ fun x=>x.cps.all (·<128)):=by intro a s d H x vs v f Q I b c h;obtain ⟨z,rfl,rfl,q⟩:=h;obtain ⟨t,e⟩:=(show ∃ t,v=Value.str z t from b);subst e;cases c;exact call_gives PySem.F.slot_str_isascii (typeIs_str _ _ _) PySem.F.entry_str_isascii (PySem.F.args_str_isascii_1 _) (gives_str_isascii z t) ⟨.bl _,H,I,rfl,q⟩
noncomputable def BW:L_ X "str.isalpha" (XJ fun x=>x.length > 0 && x.cps.all Unicode.isAlpha):=by intro a s d H x vs v f Q I b c h;obtain ⟨z,rfl,rfl,q⟩:=h;obtain ⟨t,e⟩:=(show ∃ t,v=Value.str z t from b);subst e;cases c;exact call_gives PySem.F.slot_str_isalpha (typeIs_str _ _ _) PySem.F.entry_str_isalpha (PySem.F.args_str_isalpha_1 _) (gives_str_isalpha z t) ⟨.bl _,H,I,rfl,q⟩
noncomputable def BX:L_ X "str.islower" (XJ fun x=>x.cps.any Unicode.isLower && !x.cps.any fun c=>Unicode.isUpper c || Unicode.isTitle c):=by intro a s f H x vs v g Q I b d h;obtain ⟨z,rfl,rfl,q⟩:=h;obtain ⟨t,e⟩:=(show ∃ t,v=Value.str z t from b);subst e;cases d;exact call_gives PySem.F.slot_str_islower (typeIs_str _ _ _) PySem.F.entry_str_islower (PySem.F.args_str_islower_1 _) (gives_str_islower z t) ⟨.bl _,H,I,rfl,q⟩
structure U_ (osc:ZT) (N:Y1) (scope:ZT) (own:Y1) (js:List Nat) (N':Y1):Prop where
 kind:scope.kind=.function
 nocell:∀ y∈scope.names,y.2≠.cell
 names:∀ y∈scope.names,y.2=.local->scope.names.lookup y.1=some .local
 free:∀ y∈scope.names,y.2=.free->osc.names.lookup y.1=some .cell∨osc.names.lookup y.1=some .free
 nm:N'=own++js.map fun j=>N.getD j Str.empty
 fr:∀ j∈js,j<N.length/\(N.getD j Str.empty,NameKind.free)∈scope.names/\∀ y∈scope.names,y.1=N.getD j Str.empty->y.2=.free
noncomputable def eN.of (e:X.env.scope=osc) (f:X.N=N) (h:U_ osc N a own d c):eN X a own d c:=by subst e f;exact ⟨h.kind,h.nocell,h.names,h.free,h.nm,fun j b=>⟨(h.fr j b).1,(h.fr j b).2.1,fun k hk=>(h.fr j b).2.2 _ hk rfl⟩⟩
mutual
noncomputable def qb:PyData->Nat
 |.tuple a=>max a.length (lK a)
 |.list a=>max a.length (lK a)
 |_=>0
noncomputable def lK:List PyData->Nat
 |[]=>0
 |d::r=>max (qb d) (lK r)
end
theorem tK:∀ {a:List PyData},e∈a->qb e≤lK a
 |_::_,.head _=>by simp only [lK];omega
 |_::r,.tail _ h=>by have:=tK h;simp only [lK];omega
noncomputable def jA (b:Gl X x) (c:X.mg x=none) (d:bootBuiltins x=some (.type n)) (e:x ≠ "__name__":=by decide) (hd:(x == ("__debug__" : Str))=false:=by decide):PE X (.Name x a) (tC (.ty n)):=Mi (v:=.ty n) b c d rfl e hd
def iY {c:Bool} {A B:Prop} (h:c=true) (q:A):if c=true then A else B:=by rw [aac h];exact q
def iK {c:Bool} {A B:Prop} (h:c=false) (q:B):if c=true then A else B:=by rw [aab (by rw [h];exact aay)];exact q
def Nk (r s f:R2) (v w A B:TE):TE:=fun e H Q=>v e H fun x l=>w e l fun y m=>r x y m fun z g=>∃ k,z=.bl k/\
 (if k=true then A e g fun h n=>s y h n fun o i=>∃ j,o=.bl j/\(if j=true then B e i fun p q=>f h p q Q else Q (.bl false) i) else Q (.bl false) g)
theorem qO (ho:oH X (compareOp op) r) (p:oH X (compareOp j) G) (m:oH X (compareOp g) l) (ha:PE X a ta) (hb:PE X b tb) (hc:PE X c tc) (hd:PE X d td)
 (hm:lastMarks [op,j,g] [b,c,d]=false:=by with_unfolding_all rfl):PT X (.Compare a [op,j,g] [b,c,d] pos) (yt (Nk r G l ta tb tc td)):=by
 intro f s i H Q I h;refine isTrue_chain (gj (ha f s i H _ I h) fun v J ⟨x,L,M,r1,q1⟩=>test_link (gj (hb f J i L _ M q1) fun u N ⟨y,O,P,r2,q2⟩=> gj (ho f N i O x y v u _ P r1 r2 q2) fun d' R ⟨z,q,w,r3,k,e,A⟩=>?_)) hm;subst e;cases r3;refine aa7 ?_;cases k with
 | false=>obtain ⟨k',n,o⟩:=A;cases n;exact ite_ff ⟨q,w,o⟩
 | true=>
   refine ite_tt (test_link (gj (hc f R i q _ w A) fun B S ⟨C,T,U,r4,W⟩=>gj (p f S i T y C u B _ U r2 r4 W) fun Y Z ⟨z2,D,E,r5,k2,e2,F⟩=>?_));subst e2;cases r5;refine aa7 ?_;cases k2 with
   | false=>obtain ⟨k',n,o⟩:=F;cases n;exact ite_ff ⟨D,E,o⟩
   | true=>refine ite_tt (test_last (gj (hd f Z i D _ E F) fun w2 s6 ⟨z3,H6,I6,r6,q6⟩=>gj (m f s6 i H6 C z3 B w2 _ I6 r4 r6 q6) fun d3 s7 ⟨z4,H7,I7,r7,k3,e3,q7⟩=>?_));subst e3;cases r7;exact aa7 ⟨H7,I7,q7⟩
abbrev TF:=Str->St->Hp->VK->Prop
def PF (X:Cx) (d:YR) (t:TF):Prop:=
 ∀ (b:Str) (a:YI) (s:Zp) (c:St) (H:Hp) (Q:VK),Inv X a c H s->t b c H Q->wpAny (model X.prog X.w) X.A (joinParts b (evalEach d X.env)) (EP X a c Q) X.xe s
def Ww (x:V) (y:Str):Prop:=(x=.str y/\y.length≤sizeLine)∨∃ i:Int,x=.int i/\i.natAbs.log2<1920/\y=Str.ofString (toString i)
def jP:PF X [] (fun a _ H Q=>a.length≤sizeLine/\Q (.str a) H):=fun a b s c H Q I h=>joinParts_nil ⟨.str a,H,I.tok _,⟨_,rfl⟩,h.2⟩ h.1
def ir (d:PF X g t) (f:evalEach (.Constant (.str x) j e::g) X.env=eval (.Constant (.str x) j e) X.env::evalEach g X.env:=by rfl) :
 PF X (.Constant (.str x) j e::g) (fun a c H Q=>(a++x).length≤sizeLine/\t (a++x) c H Q):=by
 intro a b s c H Q I h;rw [f];exact joinParts_cons (Calls.Constant_str ⟨h.1,d (a++x) b _ c H Q (I.tok _) h.2⟩)
def j4 (n:PE X e A) (j:PF X z t) (o:evalEach (.FormattedValue e (-1) none w::z) X.env=eval (.FormattedValue e (-1) none w) X.env::evalEach z X.env:=by rfl) :
 PF X (.FormattedValue e (-1) none w::z) (fun b c H Q=>A c H fun x d=>∃ y,Ww x y/\(b++y).length≤sizeLine/\t (b++y) c d Q):=by
 intro b a s c H Q I h;rw [o];refine joinParts_cons (FormattedValue_plain (gj (n a s c H _ I h) fun v p ⟨x,d,f,r1,y,fm,g,q⟩=>?_));rcases fm with ⟨rfl,l⟩|⟨i,rfl,m,rfl⟩
 ·obtain ⟨tk,rfl⟩:=r1;exact formatField_str (fun r tk=>⟨g,j _ a _ c d Q (f.tok tk) q⟩) l
 ·obtain ⟨tk,rfl⟩:=r1;exact formatField_int_small m ⟨g,j _ a _ c d Q (f.tok _) q⟩
def Od (t:TF):TE:=fun a H Q=>t Str.empty a H Q
noncomputable def jj (h:PF X (b::c::e) t) (g:evalEach (b::c::e) X.env=eval b X.env::eval c X.env::evalEach e X.env:=by rfl):PE X (.JoinedStr (b::c::e) i) (Od t):=by intro a s d H Q I f;refine JoinedStr_many ?_;rw [← g];exact h _ a s d H Q I f
section
variable {X:Cx} {CX:rK} {k:Nat} {f C:Zl} {fd:ZA} {ps:Y1} {sp:Sp} {E:XK}
theorem CN (F:dw X.prog X.w X.K X.mg X.base CX k f fd ps sp) (m:eX k A') (i:A'.frames=X.A.frames) (n:Binds X.K fd ps []) (o:gJ CX X E)
 (I:Inv X a g H s) (r:Vals vs us) (h:sp vs H Q E):wpAny (model X.prog X.w) A' (call (.ref f) us) (EP X a g Q) X.xe s:=by
 have l:us.length=ps.length:=r.length.symm.trans (F.len _ _ _ _ h);have d:=n s us I.kIn (by rw [aaO];exact l);rw [aaO] at d;have b:=I.env0;refine aa8 (codeAny_mono (F.run A' X.stack s H ⟨us,[]⟩ us vs Q E m ⟨i.trans b.frames,b.mod,b.bs,b.bsz,b.funs,b.frf,b.hok,b.bare⟩ d r h) fun z j c=>?_)
 match z,c with
 |.error e,c=>exact o a g H s e j I c
 |.ok (.ret u),c=>exact I.after c
structure Yq (X:Cx) (CX:rK) (E:XK) (C:Zl) (name:Str) (k:Nat) (f:Zl) (fd:ZA) (ps:Y1) (sp:Sp):Prop where
 at_:PySem.W.findIn X.K (.ref C) name=some (some (.ref f))
 fn:PySem.W.isFn X.K (.ref f)=true
 ok:dw X.prog X.w X.K X.mg X.base CX k f fd ps sp
 b:Binds X.K fd ps []
 ps:gJ CX X E
def Inv.inst (I:Inv X b d H s) (e:H a=some (.ins C c fs)):∃ od,PySem.W.InstAt s.heap a (PySem.W.instObj C c) C (some od):=by obtain ⟨g,O,_⟩:=sI I.hok e;obtain ⟨od,J,_⟩:=O.look;exact ⟨od,J⟩
noncomputable def Hf (h:EP X a c (fun v b=>∃ n:Nat,v=.int n/\n<1000000/\Q (.int n) b) v d):PySem.W.LenBack (EP X a c Q) v d:=by obtain ⟨y,b,I,r,n,rfl,e,q⟩:=h;obtain ⟨t,rfl⟩:=r;exact ⟨⟨Int.natCast_nonneg _,by omega⟩,⟨.int n,b,I.tok _,⟨_,rfl⟩,q⟩⟩
def T_ (C:Zl) (e:Sp) (E:XK):List V->Hp->VK->Prop:=fun b H Q=>∃ a d fs,b=[.ref a]/\H a=some (.ins C d fs)/\e [.ref a] H (fun v c=>∃ n:Nat,v=.int n/\n<1000000/\Q (.int n) c) E
noncomputable def G9 (S:Yq X CX E C "__len__" k f fd ps sp) (g:eX (k+1) X.A):jd X (.builtin "len") (T_ C sp E):=by intro b s j H l d Q I r h;obtain ⟨a,i,fs,rfl,c,q⟩:=h;obtain ⟨u,rfl,e⟩:=vals1 r;cases (show u=Value.ref a from e);obtain ⟨od,J⟩:=I.inst c;obtain ⟨m,F⟩:=I.fr;exact PySem.W.len_K F I.ok.mod.kin J S.at_ S.fn (gj (CN (us:=[.ref a]) (vs:=[.ref a]) S.ok g.in1 rfl S.b S.ps I (.cons rfl .nil) q) fun _ _=>Hf)
end
end L2
namespace HT
open PySem PySem.Spec PyProof.Rows
def Fp {s:Zp} {t i:Zl} {d:Y3} {a b c:ZH} {e step:Int} {n:Nat} {Q:ZU} (h:IsTup s.heap t d) (L:s.heap.IsSliceOf i a b c)
 (M:∀ (D:ZN) (y:Int×Int×Nat->Shared->Prop) (F:ZU),y (e,step,n) s->wpAny (model P w) D (Builtin.Slice.sliceApplied (.ref i) (pure (d.size:Int))) y F s)
 (C:(e == 0 && step == 1 && n == d.size)=true->Q (.ref t) s)
 (N:¬ (e == 0 && step == 1 && n == d.size)=true->((List.range n).filterMap fun (k:Nat)=>d[(e+(k:Int)*step).toNat]?).length≤sizeLine/\ Q (.ref s.heap.objs.size) { s with heap:=s.heap.push { cls:=.type "tuple",data:=.seq ((List.range n).filterMap fun (k:Nat)=>d[(e+(k:Int)*step).toNat]?).toArray } }) :
 wpAny (model P w) A (getItem (.ref t) (.ref i)) Q E s:=by
 obtain ⟨G,o,p,H⟩:=id L;have l:s.TypeIs (.ref i) "slice":=⟨G,o,p⟩;obtain ⟨O,q,r,nt,I⟩:=id h;unfold getItem
 try with_reducible refine aaS ?_
 first|refine aaa (aad ?_)|skip
 refine aaa (acW h.typeIs (by decide) (aaa (wpAny_callSpecial?_slot (name:=Str.ofString "__getitem__") h.typeIs abH (abh abH h.typeIs entry_tuple_getitem ?_ (args_tuple_getitem _ _)))));show wpAny _ _ (Builtin.Tuple.tupleItemsOf (.ref t) >>= _) _ _ s;refine aaa (tupleItemsOf_ h (aaa (abI l ?_)));rw [aac (by decide)];refine aaa (M _ _ _ ?_);show wpAny _ _ (if (e == 0 && step == 1 && n == d.size)=true then _ else _) _ _ s;by_cases g:(e == 0 && step == 1 && n == d.size)=true
 ·rw [aac g];have B:wpAny (model P w) A.in1 (Builtin.Tuple.tupleIsExact (.ref t)) (fun b j=>b=true/\j=s) E s:=by unfold Builtin.Tuple.tupleIsExact;refine aaa (wpAny_typeOf_ref q ?_);rw [r];exact aad ⟨rfl,rfl⟩
  first
   |refine aaa (aat B (fun b j x=>?_) fun _ _ z=>z)
   |refine aaa (aaa (aat B (fun b j x=>?_) fun _ _ z=>z))
  obtain ⟨rfl,rfl⟩:=x;rw [aac rfl]
  first
   |exact aaa (abB (aad ⟨_,rfl,aad (C g)⟩))
   |exact aaa (abB (aaa (aad (aad ⟨_,rfl,aad (C g)⟩))))
 ·rw [aab g];obtain ⟨J,v⟩:=N g;have f:sizeOk (.seq ((List.range n).filterMap fun (k:Nat)=>d[(e+(k:Int)*step).toNat]?).toArray):=by show (_:Y3).size≤sizeLine;rw [aap];exact J
  first
   |exact aaa (m:=Builtin.Tuple.tupleExact _) (aaU (aad ⟨_,rfl,aad v⟩) f)
   |exact aaa (m:=Builtin.Tuple.tupleExact _) (aaU (aaa (aad (aad ⟨_,rfl,aad v⟩))) f)
   |exact aaa (aaa (m:=Builtin.Tuple.tupleExact _) (aaU (aad (aad ⟨_,rfl,aad v⟩)) f))
end HT
namespace L2
open PySem PySem.Spec PyProof.Rows PySem.SeqAt
def Wa (K:Zs):V->Option Int->Option Int->Hp->VK->Prop:=fun x c d H Q=>∃ a b,x=.ref a/\gC K H a b/\(jV b c d=b->Q (.ref a) H)/\∀ p,H p=none->Q (.ref p) (upd H p (.tup (jV b c d)))
def wB {X:Cx}:VD X (Wa X.K):=by
 intro d s z H x v vl A i j B Q I o l p q h;obtain ⟨a,b,rfl,m,q1,q2⟩:=h;by_cases f:HT.je b.length 0 i=0/\HT.je b.length b.length j=b.length
 ·cases (show v=Value.ref a from o);obtain ⟨g,r,n,F⟩:=I.tuple m;have c:g.toArray.size=b.length:=by rw [aap];exact r.length.symm
  refine ⟨"tuple",_,abH.lookup,n.typeIs,?_⟩;have e:jV b i j=b:=by unfold jV;rw [f.1,f.2,ac1,Nat.sub_zero,ab7]
  refine HT.Fp n l (fun C D E w=>HT.my l p q w) (fun _=>⟨.ref a,H,I,rfl,q1 e⟩) fun y=>(y ?_).elim;rw [c,f.1,f.2];simp
 ·exact K5 d s z H _ v vl A i j B Q I o l p q ⟨a,b,rfl,m,f,q2⟩
structure vH (d:PyData):Prop where
 sh:d.showable=true
 nd:d.hasDict=false
 dp:d.depth≤40
 sz:d.shown.length≤sizeLine
noncomputable def O7:V->Bool
 |.ref _=>true
 |.str _=>true
 |_=>false
theorem RG (o:f.units+64<cLine) (i:f.guards=some []) (I:Inv X b g H s) (e:RelV x u) (j:O7 x=true) (c:Rep X.K H x d) (sd:vH d) (q:Q (.str d.shown) H) :
 wpAny (model X.prog X.w) f (pyReprObj u) (EP X b g Q) E s:=by
 have m:=sd.dp
 match x,j,c,e with
 | .ref a,_,c,e=>cases (show u=Value.ref a from e);obtain ⟨n,h⟩:=I.reads c rfl;exact pyReprObj_of_reads h sd.sh (PyData.noDict_hsm sd.nd) i (by omega) (fun _ _ z=>z) (fun l t tk hk=>⟨.str d.shown,H,I.kept hk,⟨_,rfl⟩,q⟩) sd.sz
 | .str z,_,c,e=>obtain ⟨t,rfl⟩:=e;cases c;exact wpAny_pyReprObj_str ⟨.str (reprText z),H,I.tok _,⟨_,rfl⟩,q⟩ sd.sz
def Dk (z:X.A.units+64<cLine) (A:X.A.guards=some []) (B:PE X e l) (C:PF X i t) (D:evalEach (.FormattedValue e 114 none c::i) X.env=eval (.FormattedValue e 114 none c) X.env::evalEach i X.env:=by rfl) :
 PF X (.FormattedValue e 114 none c::i) (fun b f H Q=>l f H fun x g=>∃ d,O7 x=true/\Rep X.K g x d/\vH d/\(b++d.shown).length≤sizeLine/\t (b++d.shown) f g Q):=by
 intro b a s f H Q I h;rw [D];refine joinParts_cons (wpAny_FormattedValue_repr (gj (B a s f H _ I h) fun v E ⟨x,g,m,r1,d,n,hd,sd,o,q⟩=>?_));refine gj (RG (Q:=fun y j=>y=.str d.shown/\j=g) z A m r1 n hd sd ⟨rfl,rfl⟩) fun F G ⟨y,j,p,r2,r,w⟩=>?_;subst r w;obtain ⟨tk,rfl⟩:=r2;exact formatField_str (fun J tk=>⟨o,C _ a _ f j Q (p.tok tk) q⟩) sd.sz
theorem JD {s:Zp} {K:Zs} {Q:ZU} (i:K.In s.heap) (J:PySem.W.InstAt s.heap x g C od) (j:PySem.W.findIn K (.ref C) "__len__" = some (some (.ref f)))
 (l:PySem.W.isFn K (.ref f)=true) (h:wpAny (model a w) A (call (.ref f) [.ref x]) (PySem.W.LenBack Q) d s):wpAny (model a w) A (Builtin.«len» ⟨[.ref x],[]⟩) (fun b c=>∃ r,b=.done (.ret r)/\Q r c) d s:=by
 unfold Builtin.«len»;refine aaa (m:=oneArg "len" _) (aad (aaa (m:=callSpecial? (.ref x) (Str.ofString "__len__")) (PySem.W.special_fn i J j (aaW.mp l) (aat h (fun r c e=>?_) fun _ _ y=>y))))
 match r,e with
 | .int n u,⟨⟨h0,h1⟩,hq⟩=>refine aaa (aaS (aad (aaa (wpAny_letGo ?_))));show wpAny _ _ (if n<0 then _ else _) _ _ _;rw [aab (by omega)];show wpAny _ _ (if n ≥ 2 ^ 63 then _ else _) _ _ _;rw [aab (by omega)];exact aaa (wpAny_mkInt (aad ⟨_,rfl,hq⟩))
def T5 (C:Zl) (e:Sp) (E:XK):List V->Hp->VK->Prop:=fun b H Q=>∃ a d fs,b=[.ref a]/\H a=some (.ins C d fs)/\e [.ref a] H (fun v c=>∃ n:Nat,v=.int n/\n<1000000/\Q (.bl (n != 0)) c) E
def Jc (S:Yq X P E C "__len__" k f O N M) (o:PySem.W.findIn X.K (.ref C) "__bool__" = some none) (g:eX (k+1) A) (p:A.frames=X.A.frames) (I:Inv X c h H s) (G:H a=some (.ins C F fs))
 (q:M [.ref a] H (fun v i=>∃ n:Nat,v=.int n/\n<1000000/\Q (.bl (n != 0)) i) E):wpAny (model X.prog X.w) A (truthy (.ref a)) (fun b d=>EP X c h Q (.bool b) d) X.xe s:=by
 obtain ⟨od,J⟩:=I.inst G;have run:=CN (A':=A.in1) (us:=[.ref a]) (vs:=[.ref a]) S.ok g.in1 p S.b S.ps I (.cons rfl .nil) q;have j:wpAny (model X.prog X.w) A (runValue (.builtin "len" ⟨[.ref a],[]⟩)) (fun r d=>∃ (n:Nat) (t:Tok),r=.int n t/\EP X c h Q (.bool ((n:Int) != 0)) d) X.xe s:=by refine wpAny_runValue (codeAny_builtin entry_len ?_);rw [ab8 plain_len _];refine aat (JD (Q:=fun r d=>∃ (n:Nat) (t:Tok),r=.int n t/\EP X c h Q (.bool ((n:Int) != 0)) d) I.kIn J S.at_ S.fn (aat run (fun r d g=>?_) fun _ _ z=>z)) (fun w d x=>by obtain ⟨r,rfl,y⟩:=x;exact y) fun _ _ e=>e;obtain ⟨_,i,B,D,n,rfl,L,l⟩:=g;obtain ⟨t,rfl⟩:=D;refine ⟨⟨Int.natCast_nonneg _,by omega⟩,n,_,rfl,.bl (n != 0),i,B.tok _,?_,l⟩;show Value.bool ((n:Int) != 0)=Value.bool (n != 0);congr 1;rw [abp];simp
 unfold truthy;refine aaa (m:=callSpecial? (.ref a) (Str.ofString "__bool__")) (aaa (aaa (J.type.here ((acR I.kIn o).here (aad ?_)))));refine aaa (aaa (J.type.here ((acR I.kIn S.at_).here ?_)));refine aaa (aat j (fun r d g=>?_) fun _ _ z=>z);obtain ⟨n,t,rfl,l⟩:=g;exact aad l
def Aq (S:Yq X P E C "__len__" k f O N M) (l:PySem.W.findIn X.K (.ref C) "__bool__" = some none) (y:eX (k+3) X.A):jd X (.type "bool") (T5 C M E):=by
 intro m s G H J L Q I r h;obtain ⟨a,D,fs,rfl,p,q⟩:=h;obtain ⟨u,rfl,e⟩:=vals1 r;cases (show u=Value.ref a from e);have g:MeetsIn X.prog X.w (Builtin.«bool.__new__» ⟨[.type "bool",.ref a],[]⟩) (fun A R s=>wpAny (model X.prog X.w) A.in1 (truthy (.ref a)) (fun b c=>R (.ok (.ret (.bool b))) c) (fun e c=>R (.error e) c) s):=
  MeetsIn.of_wp fun A R s n=>by
   obtain ⟨w,g,d,tk,x⟩:=s;have B:=F.conv_sub_bool;have j:wpAny (model X.prog X.w) A.in1 (truthy (.ref a)) (fun b c=>wpAny (model X.prog X.w) A.in1 (ret (.bool b)) (fun i c=>∃ v,i=.done (.ret v)/\R (.ok (.ret v)) c) (fun e c=>R (.error e) c) c) (fun e c=>R (.error e) c) ⟨w,g,d,tk,x⟩:=
    aat n (fun b c o=>aad ⟨_,rfl,o⟩) fun _ _ z=>z
   repeat (any_goals (first|assumption|(with_reducible exact j)|wp_step))
 exact callType_newIn F.called_bool F.newNe_bool (F.typeCall_bool_1 _) (F.newCall_bool_1 _) (fun obj=>F.args_object_init_2 obj _) F.entry_bool_new g (gj (Jc (A:=X.A.in1.in1) S l y.in1.in1 rfl I p q) fun b c z=>⟨rfl,z⟩)
section
variable {X:Cx} {dR:YI} {σ:St} {H:Hp} {s:Zp} {h':ZI}
noncomputable def Inv.turnLaid {a:Zl} {o:HO} {D:Nat} {fp:YE} (I:Inv X dR σ H s) (k:∀ b u,b∉fp->s.heap.get? b=some u->h'.get? b=some u) (F:∀ b∈fp,∃ u,h'.get? b=some u) (g:∀ b∈fp,nA X dR H b) (h:s.heap.objs.size≤a) (new:gr X.prog X.w (upd H a o) h' a o) :
 Inv X dR σ (upd H a o) { s with heap:=h',toks:=D }:=by
 have l:H a=none:=I.hok.fresh h;have off:∀ b u,H b=some u->b∉fp:=fun b u e z=>by rw [(g b z).1] at e;cases e
 have up:∀ b u,H b=some u->(upd H a o) b=some u:=fun b u e=>by rw [bK (di e l)];exact e
 refine I.step (g':=s.gens) (d':=s.drawn) (ch:=fp) (fun b f=>?_) (fun b u _ _ d e _=>k b u d e) (fun b u _ _ d e _=>⟨u.slots,k b u d e⟩) (fun b u _ e n=>?_) (fun b u d e=>⟨u,k b u d e⟩) (fun b i e=>up b _ e) (fun b u z e=>up b _ e) (fun b E e=>⟨#[],by rw [up b _ e];simp⟩) (fun m j=>?_) (fun b u e=>?_) I.bare
 ·obtain ⟨_,p,_,w,x,y⟩:=g b f;exact ⟨w,p,x,y⟩
 ·rw [bK (aal (aar (aaf e) h))];exact n
 ·obtain ⟨u,A,B,C,r⟩:=j;exact ⟨u,A,B,k _ u (fun z=>(g _ z).2.1 rfl) C,r⟩
 ·by_cases f:b=a
  ·subst f;rw [a_] at e;cases e;exact new
  ·rw [bK f] at e;refine (I.hok b u e).stay (fun c v d q=>k c v ?_ q) (fun c q=>up c _ q) fun c i q=>up c _ q;rcases d with rfl|z
   ·exact off _ u e
   ·exact off c _ z
def J9 (b:s.heap.IsTupleIter c l i) (m:s.heap.IsTuple l a) (n:a[i]?=some x)
 (p:∀ g,g.IsTupleIter c l (i+1)->Heap.SameBut c s.heap g->Q x { s with heap:=g }):wpAny (model d w) A (Builtin.SmallTypes.nextOf (.ref c)) Q E s:=by
 obtain ⟨o,e,j,hd⟩:=id b;obtain ⟨ol,f,_,nl,h⟩:=m;unfold Builtin.SmallTypes.nextOf;refine aaa (wpAny_callSpecial?_slot (name:=Str.ofString "__next__") b.typeIs acx (abh acx b.typeIs F.entry_tuple_iterator_next ?_ (F.args_tuple_iterator_next_1 _)));show wpAny _ _ (field (.ref c) 0 >>= _) _ _ s;refine aaa (aaT e hd (x:=.ref l) rfl ?_);show wpAny _ _ (if (Value.ref l == Value.none)=true then _ else _) _ _ s;rw [aab (show ¬ ((Value.ref l == Value.none)=true) from nofun)];show wpAny _ _ (field (.ref c) 1 >>= _) _ _ s;refine aaa (aaT e hd (x:=.int i 0) rfl ?_);show wpAny _ _ (seqItems? (.ref l) >>= _) _ _ s;refine aaa (wpAny_seqItems f h ?_);simp only [abG,n];refine aaa (abr e hd (by simp) (aad ⟨x,rfl,aad (p _ ⟨_,aaY _ e (acy (abC hd _)),(ac2 ..).trans j,by rw [abC hd];simp [rawInt]⟩ (ac3 ..))⟩))
def Ef (p:A.handled=none) (c:s.heap.IsTupleIter f l i) (q:s.heap.IsTuple l b) (r:b[i]?=none)
 (v:∀ g e,Heap.ExtBut f s.heap g->(∃ o,g.get? e=some o/\o.cls=.type "StopIteration")->E (.ref e) { s with heap:=g }):wpAny (model d w) A (Builtin.SmallTypes.nextOf (.ref f)) Q E s:=by
 obtain ⟨o,h,y,hd⟩:=id c;obtain ⟨ol,j,_,nl,n⟩:=q;unfold Builtin.SmallTypes.nextOf;refine aaa (wpAny_callSpecial?_slot (name:=Str.ofString "__next__") c.typeIs acx (abh acx c.typeIs F.entry_tuple_iterator_next ?_ (F.args_tuple_iterator_next_1 _)));show wpAny _ _ (field (.ref f) 0 >>= _) _ _ s;refine aaa (aaT h hd (x:=.ref l) rfl ?_);show wpAny _ _ (if (Value.ref l == Value.none)=true then _ else _) _ _ s;rw [aab (show ¬ ((Value.ref l == Value.none)=true) from nofun)];show wpAny _ _ (field (.ref f) 1 >>= _) _ _ s;refine aaa (aaT h hd (x:=.int i 0) rfl ?_);show wpAny _ _ (seqItems? (.ref l) >>= _) _ _ s;refine aaa (wpAny_seqItems j n ?_);simp only [abG,r];refine aaa (abB (aaa (abr h hd (by simp) ?_)));show wpAny _ _ (newExc (.type "StopIteration") [] >>= _) _ _ _;refine aaa ?_;simp only [newExc,newTuple];refine aaa (aaU ?_ (by size_fits));refine aaa (m:=firstArgMember _ _) (wpAny_of_eq (a:=Value.none) (by first|rfl|(simp only [firstArgMember];rfl)) (aaU ?_ (by size_fits)));simp only [raiseNew];refine aaa (wpAny_handled ?_)
 first|rw [show A.in1.handled=none from p]|rw [p]
 exact aaa (aad (wpAny_throw (v _ _ (((ac3 ..).extBut.push _).push _) ⟨_,aav _ rfl,rfl⟩)))
def Su (y:A.handled=none) (c l:Zl) (d:l≠c) (a:Y3):Draws prog w A c [c,l] a.size (fun i v=>a[i]?=some v) (fun i h=>h.IsTupleIter c l i/\h.IsTuple l a) where
 live:=fun _ _ b=>let ⟨o,q,_⟩:=b.1;⟨o,q⟩
 frame:=fun _ _ _ b hk=>⟨b.1.at fun o e=>hk c (by simp) o e,let ⟨o,e,r⟩:=b.2;⟨o,hk l (by simp) o e,r⟩⟩
 item:=fun i s Q E f b m=>J9 b.1 b.2 (x:=a[i]) (by simp [f]) fun g n j=>m _ g s.toks (by simp [f]) ⟨n,let ⟨o,e,r⟩:=b.2;⟨o,(j.2 l d).trans e,r⟩⟩ j
 done:=fun s Q E b p=>Ef y b.1 b.2 (by simp) p
set_option tactic.hygienic true in
def Gb (l:Zl) (a:Y3) (n:Nat) (e:YA) (p:YU) :
 Meets (Builtin.«enumerate.__new__» ⟨[.type "enumerate",.ref l],[]⟩) (fun _ R s=>s.heap.get? l=some { cls:=.type "tuple",dict:=e,data:=.seq a n,slots:=p }/\ R (.ok (.ret (.ref (s.heap.push { cls:=.type "tuple_iterator",data:=.fields #[.ref l,.int 0 0] }).objs.size))) { s with heap:=(s.heap.push { cls:=.type "tuple_iterator",data:=.fields #[.ref l,.int 0 0] }).push { cls:=.type "enumerate",data:=.fields #[.none,.bool false,.ref s.heap.objs.size,rawInt 0,.none,.none] } }):=
 .of_wp fun f w A R s h=>by
  obtain ⟨m,g,d,tk,o⟩:=s;obtain ⟨b,h⟩:=h;have i:=sub_enumerate;have j:Heap.IsTuple (Shared.heap ⟨m,g,d,tk,o⟩) l a:=⟨_,b,rfl,n,rfl⟩
  wp_walk using ac4 b
  refine wpAny_stack_any fun q=>aad ?_;split
  ·rename_i c _ _ _ _ _;cases (c == Value.type "enumerate") <;> (wp_walk using ac4 b,acM j;exact ⟨_,rfl,h⟩)
  ·wp_walk using ac4 b,acM j
   exact ⟨_,rfl,h⟩
def Ah (j:s.heap.IsTuple l a)
 (h:∀ g,IsEnum g (s.heap.objs.size+1) s.heap.objs.size 0 .none->g.IsTupleIter s.heap.objs.size l 0->(∀ b o,s.heap.get? b=some o->g.get? b=some o)->Q (.ref (s.heap.objs.size+1)) { s with heap:=g }):wpAny (model c w) A (call (.type "enumerate") [.ref l]) Q E s:=by
 obtain ⟨⟨_,dd,_,f⟩,i,rfl,n,rfl⟩:=id j;refine callType_new F.called_enumerate (by decide) (F.typeCall_enumerate_1 _) (F.newCall_enumerate_1 _) (fun obj=>F.args_object_init_2 obj _) F.entry_enumerate_new (Gb l a n dd f) ⟨i,?_⟩;have e:(s.heap.push { cls:=.type "tuple_iterator",data:=.fields #[.ref l,.int 0 0] }).objs.size=s.heap.objs.size+1:=abq ..;have d:=aav (s.heap.push { cls:=.type "tuple_iterator",data:=.fields #[.ref l,.int 0 0] }) (o:={ cls:=.type "enumerate",data:=.fields #[.none,.bool false,.ref s.heap.objs.size,rawInt 0,.none,.none] }) rfl;rw [e] at d;show _/\_;rw [e];exact ⟨⟨_,d,rfl⟩,h _ d ⟨_,aai _ (aav _ rfl),rfl,rfl⟩ fun b o x=>aai _ (aai _ x)⟩
def Mu {d:Type} {a b c:d} (h:c∈[a,b]):c=a∨c=b:=by simpa using h
def Sh (S:Hp->List V->Prop):It:=
 ⟨fun i H=>∃ a x,S H a/\a[i]?=some x,fun i H v b=>∃ p x,H p=none/\v=.ref p/\(∀ a,S H a->a[i]?=some x)/\b=upd H p (.tup [.int i,x]),fun i H=>∃ a,S H a/\a.length=i⟩
abbrev Zr (K:Zs) (a:Zl):It:=Sh fun H=>gC K H a
def Az {P:ZB} {w:ZE} {K:Zs} {M:YR} {k1} {pos:Pos} {S:Hp->List V->Prop} {A:Nat->Heap->Prop} (a e f:Zl) (p:e≠f) (hO:∀ i h,A i h->∃ o,h.get? f=some o/\∀ v,o.data≠.cell v)
 (kp:∀ i h N,A i h->(∀ o,h.get? f=some o->N.get? f=some o)->A i N)
 (hS:∀ {X:Cx} {i:Nat} {j:YI} {Q:St} {H:Hp} {s:Zp} {c:ZH} {F:List V},X.prog=P->X.w=w->X.K=K->X.A.handled=none->Inv X j Q H s->A i s.heap->IsEnum s.heap e f i c->S H F-> (∀ O,S H O->O=F)/\a≠e/\∃ (l:Y3) (T:Heap->Prop),Vals F l.toList/\T s.heap/\Draws P w X.A.in1 f [f,a] l.size (fun i v=>l[i]?=some v) fun i h=>A i h/\T h) :
 Turn P w K (.Tuple M k1 pos) (Sh S) [e,f] e (fun i h=>(∃ c,IsEnum h e f i c)/\A i h) where
 mem:=by simp
 obj:=fun i h ⟨⟨c,Z⟩,h2⟩ b d=>by
  rcases Mu d with rfl|rfl
  ·exact ⟨_,Z,nofun⟩
  ·exact hO _ _ h2
 keep:=fun i h N ⟨⟨c,Z⟩,h2⟩ k=>⟨⟨c,k e (by simp) _ Z⟩,kp _ _ _ h2 (k f (by simp))⟩
 item:=by
  intro X R U W hc i j s Q H E I L ⟨⟨c,n⟩,r⟩ ⟨F,x,hq,Y⟩;obtain ⟨un,J,l,T,rv,hT,D⟩:=hS R U W (I.ok.hd hc) I r n hq;subst R U W;obtain ⟨u,hu,ru⟩:=rv.get Y;rw [ab1] at hu;refine wpAny_pyNext_enum_itemD D n ⟨r,hT⟩ (abi.mp hu).1 p (by simp [p,aas J]) fun y g tk hy ho m B ab hk=>?_;obtain rfl:=aaM (hy.symm.trans hu);have lt:∀ b∈[e,f],b<s.heap.objs.size:=fun b d=>by
   rcases Mu d with rfl|rfl
   ·exact aaf n
   ·obtain ⟨o,z,_⟩:=hO _ _ r;exact aaf z
  have I1:Inv X j Q (upd H s.heap.objs.size (.tup [.int i,x])) { s with heap:=g,toks:=tk+1 }:=by
   refine I.turnLaid (fp:=[e,f]) (fun b o d z=>hk b o (fun q=>d (by simp [q])) (fun q=>d (by simp [q])) z) (fun b d=>?_) L (aae _) ⟨by show 2≤sizeLine;decide,[.int i tk,y],.cons ⟨_,rfl⟩ (.cons ru .nil),⟨_,B,rfl,_,rfl⟩⟩;rcases Mu d with rfl|rfl
   ·exact ⟨_,ho⟩
   ·obtain ⟨o,z,_⟩:=hO _ _ m.1;exact ⟨o,z⟩
  have G:∀ b∈[e,f],(upd H s.heap.objs.size (.tup [.int i,x])) b=none:=fun b d=>by rw [bK (aal (lt b d))];exact (L b d).1
  refine ⟨_,rfl,wpAny_letOwnedTupleGo_enum ho fun g2 aa C=>?_⟩;obtain ⟨f0,f1,f2,f3,f4,f5⟩:=L e (by simp);exact ⟨.ref s.heap.objs.size,_,I1.turned (t':=tk+1) (fun b o d z=>(C.2 b d).trans z) (G e (by simp)) f1 f3 f4 f5,rfl,⟨s.heap.objs.size,x,I.hok.fresh (aae _),rfl,fun O hy=>by rw [un O hy];exact Y,rfl⟩,⟨⟨_,by simpa using aa⟩,kp _ _ _ m.1 fun o z=>(C.2 f (aas p)).trans z⟩,G⟩
 done:=by
  intro X R U W hc i j s Q H E I L ⟨⟨c,n⟩,r⟩ ⟨F,hq,Y⟩;obtain ⟨un,J,l,T,rv,hT,D⟩:=hS R U W (I.ok.hd hc) I r n hq;obtain rfl:l.size=i:=by rw [← Y,rv.length];rfl
  obtain ⟨f0,f1,f2,f3,f4,f5⟩:=L f (by simp);exact wpAny_pyNext_enum_endD D n ⟨r,hT⟩ fun N ex=>⟨rfl,I.turned (t':=s.toks) (fun b o d e=>ex b o d e) f0 f1 f3 f4 f5⟩
 self:=fun _ _ _ _ _ ⟨⟨_,n⟩,_⟩ h=>wpAny_pyIter_enum n h
def H_ {h:ZI} {o f:Obj} (e:h.get? a=some o) (i:o.cls=.type c) (g:h.get? b=some f) (hd:f.cls=.type d) (n:c≠d:=by decide):a≠b:=by rintro rfl;rw [e] at g;cases g;exact n (Value.type.inj (i.symm.trans hd))
def Bg {P:ZB} {w:ZE} {K:Zs} {f:YR} {k1} {j:Pos} (a e b:Zl) (l:e≠b):Turn P w K (.Tuple f k1 j) (Zr K a) [e,b] e (fun i h=>(∃ g,IsEnum h e b i g)/\h.IsTupleIter b a i):=
 Az a e b l (fun i h ⟨o,e,_,d⟩=>⟨o,e,fun v z=>by rw [d] at z;cases z⟩) (fun i h L r k=>r.at k) fun x y B hd I C D m=>by subst x y B;obtain ⟨c,F,p,N⟩:=I.tuple m;obtain ⟨o,n,q,_⟩:=id p;obtain ⟨O,G,J,_⟩:=id C;exact ⟨fun M E=>I.tuple_inj E m,H_ n q D rfl,c.toArray,fun h=>h.IsTuple a c.toArray,F,p,Su (A:=Around.in1 _) hd b a (H_ n q G J) _⟩
noncomputable def Kq {a:ZO} {R:It->Hp->Prop} {J:It} {c:Nat->Heap->Prop} (I:Inv X dR σ H s) (k:∀ b o,s.heap.get? b=some o->h'.get? b=some o) (T:Turn X.prog X.w X.K a J [s.heap.objs.size+1,s.heap.objs.size] (s.heap.objs.size+1) c) (e:c 0 h') (q:R J H) :
 PIE X dR σ a R (.ref (s.heap.objs.size+1)) { s with heap:=h' }:=
 ⟨_,_,_,_,H,rfl,I.kept (t':=s.toks) k,T,e,fun b d=>by
  have:s.heap.objs.size≤b:=by rcases Mu d with rfl|rfl <;> omega
  exact I.fpOk this (I.hok.fresh this),q⟩
def Vt (K:Zs) (e:TA):TI:=fun c H R=>e c H fun vs b=>∃ a,vs=[.ref a]/\(∃ d,gC K b a d)/\R (Zr K a) b
noncomputable def HH {c:YR} {k1} {pt:Pos} {a:ZO} {n:TA} {p d:Pos} (x:Gl X "enumerate") (y:X.mg "enumerate" = none) (z:bootBuiltins "enumerate" = some (.type "enumerate")) (A:PA X [a] n) (B:starEach [a] X.env=[(false,eval a X.env)]:=by rfl):PI X (.Tuple c k1 pt) (.Call (.Name "enumerate" p) [a] [] d) (Vt X.K n):=by intro b s w H R I h;refine Call_ (qI I x y z (acN (gj (A d b s w H _ I h) fun C i ⟨vs,D,j,r1,q1⟩=>?_) B rfl));obtain ⟨l,rfl,⟨E,r⟩,q⟩:=q1;obtain ⟨u,rfl,e⟩:=vals1 r1;cases (show u=Value.ref l from e);obtain ⟨f,F,v,G⟩:=j.tuple r;exact Ah (show i.heap.IsTuple l f.toArray from v) fun g m o hk=>wpAny_pyIter_enum m (Kq j hk (Bg l _ i.heap.objs.size (Nat.succ_ne_self _)) ⟨⟨_,m⟩,o⟩ q)
def Gs (c:Nat->St->Hp->Prop) (o:c 0 b H) (f:∀ i b H,i≤xs.length->c i b H->S H xs)
 (q:∀ i x b H p,xs[i]?=some x->c i b H->H p=none->g (.ref p) b (upd H p (.tup [.int i,x])) fun d l=>j { D with nx:=c (i+1),ct:=c (i+1),bk:=D.nx } d l)
 (hd:∀ b H,c xs.length b H->D.nx b H):FW (Sh S) g j D b H:=
 xR c o (fun b H p=>⟨⟨xs,f _ b H (aae _) p,rfl⟩,hd b H p⟩) fun i b H h p=>⟨⟨xs,xs[i],f i b H (aa1 h) p,by simp [h]⟩,fun v _ ⟨a,x,m,e,n,y⟩=>by subst e y;exact q i x b H a (n xs (f i b H (aa1 h) p)) p m⟩
def xx:bootBuiltins "enumerate" = some (.type "enumerate"):=by ext
end
def kh (h:ZI) (H:Hp) (g:ZI) (e:Zl) (cls:ZH) (dd:YA):Prop:=
 ∃ a vs,h.get? e=some a/\a.cls=cls/\a.dict=dd/\a.data=.fields vs/\g.get? e=none/\H e=none/\
   (vs[1]?=some .none∨∃ T b c,vs[1]?=some (.ref T)/\T≠e/\h.get? T=some b/\b.data=.fields c/\c[3]?=some .none/\g.get? T=none/\H T=none)
def kh.mono (x:kh h H g e cls dd) (m:∀ b,g.get? b=none->l.get? b=none):kh h H l e cls dd:=by
 obtain ⟨n,vs,o,p,q,r,s,v,j⟩:=x;refine ⟨n,vs,o,p,q,r,m _ s,v,?_⟩;rcases j with j|⟨T,w,y,a,b,c,d,f,gT,i⟩
 ·exact .inl j
 ·exact .inr ⟨T,w,y,a,b,c,d,f,m _ gT,i⟩
def Fy (f:Array Value->Array Value) (o:Obj):(Obj.mapFields f o).dict=o.dict:=by obtain ⟨c,d,a,b⟩:=o;cases a <;> rfl
def xU (N:A.frames=some (env::c)) (hl:s.heap.FunFrames v (env::c)) (hf:env.frame=some L)
 (he:s.heap.get? e=some w) (hd:w.data=.fields vs) (l:1<vs.size)
 (h:∀ (n:ZI) (T:Zl) (i P:Obj) (p R:Y3),s.heap.objs.size≤T->n.get? e=some i->i.cls=w.cls->i.dict=w.dict->i.data=.fields p->p[1]?=some (.ref T)->n.get? T=some P->P.data=.fields R->R[3]?=some .none-> (∀ b o,b≠e->b∉(env::c).filterMap (·.frame)->s.heap.get? b=some o->n.get? b=some o)->(∀ b o,b≠e->s.heap.get? b=some o->∃ F,n.get? b=some { o with slots:=F })->Q () { s with heap:=n }) :
 wpAny M A (do let a ← frameOf env;let z ← entryPlaceOf L d;let b ← EntryCells.newEntry head a .none (rawInt L) .none z;setField (.ref e) 1 b) (fun _ s'=>wpAny M A (setFlight (.ref e) none) Q E s') E s:=by
 have r:e∉(env::c).filterMap (·.frame):=fun hm=>by obtain ⟨_,o,Z,I⟩:=hl.mem hm;rw [he] at Z;cases Z;exact I vs hd
 refine aaa (wpAny_frameOf_fun N hl hf fun g y=>aaa (wpAny_entryPlaceOf fun z C=>?_));unfold EntryCells.newEntry newFields;refine aaa (aaU ?_ (C.sizeOk5 _ _ _ _ _));have S:g.get? e=some w:=(y.2.1 e r).trans he;generalize J:([head,.ref L,.none,rawInt L,.none]++(if z.isEmpty then List.replicate 6 Value.none else z)).toArray=B;have U:3<B.size:=by rw [← J];simp only [aap,aaD,aaA,ab2];omega
 have W:=aai (h:=g) { cls:=.type "traceback",dict:=none,data:=.fields B } S;refine abr W hd l ?_;have ne:g.objs.size≠e:=abF (aaf S);have G:=abC hd (·.setIfInBounds 1 (Value.ref g.objs.size));have X:=aaY (Obj.mapFields (·.setIfInBounds 1 (Value.ref g.objs.size))) W (acy G);have Y:=(aaK (g.push { cls:=.type "traceback",dict:=none,data:=.fields B }) (Obj.mapFields (·.setIfInBounds 1 (Value.ref g.objs.size))) (aas ne)).trans (aav g rfl);unfold setFlight;refine aaa (aaT X G (x:=.ref g.objs.size) (by simp [l]) ?_);rw [aac (show (Value.ref g.objs.size != Value.none)=true by simp)];refine abr Y rfl U ?_;have H:s.heap.objs.size≤g.objs.size:=abA y.1.symm;have keep:∀ b o,b≠e->g.get? b=some o->(((g.push { cls:=.type "traceback",dict:=none,data:=.fields B }).update e (Obj.mapFields (·.setIfInBounds 1 (Value.ref g.objs.size)))).update g.objs.size (Obj.mapFields (·.setIfInBounds 3 ((none:YA).elim Value.none fun f=>rawInt f)))).get? b=some o:=fun b o m O=>by rw [aaK _ _ (abF (aaf O)),aaK _ _ (aas m)];exact aai _ O
 refine h _ g.objs.size _ _ _ _ H (by rw [aaK _ _ ne];exact X) (ac2 _ _) (Fy _ _) G (by simp [l]) (aaY _ Y (acy (abC rfl _))) (abC rfl _) (by simp [U]) (fun b o m D j=>keep b o m ((y.2.1 b D).trans j)) fun b o m j=>?_;obtain ⟨F,q⟩:=y.2.2 b o j;exact ⟨F,keep b _ m q⟩
def leaveX (I:Inv X dR σ H s) (hst:X.stack=X.env::X.outer) (p:X.env.frame=some X.env.locals) (G:A.frames=some X.stack) (hex:X.ex=[]) (x:kh s.heap H X.s₀.heap e cls dd)
 (h:∀ i,kh i H X.s₀.heap e cls dd->Un (frs X.outer) [] X.H₀ H X.s₀.heap i->nJ X.prog X.w H i->Q () { s with heap:=i }):wpAny (model X.prog X.w) A (leaving X.env (.ref e)) Q E s:=by
 have hl:=I.stack;rw [hst] at G hl;obtain ⟨oe,vs,L,h2,h3,h4,h5,h6,h7⟩:=x;have free:∀ b∈(X.env::X.outer).filterMap (·.frame),H b=none:=fun b a=>I.stkFree b (by rw [hst];exact a);have Z:∀ (i:ZI) (T:Zl) (d y:Obj) (g r:Y3),X.s₀.heap.get? T=none->T≠e->H T=none->i.get? e=some d->d.cls=oe.cls->d.dict=oe.dict->d.data=.fields g->g[1]?=some (.ref T)->i.get? T=some y->y.data=.fields r->r[3]?=some .none->
  (∀ b o,b≠e->(H b≠none∨∃ j,X.s₀.heap.get? b=some j)->b∉(X.env::X.outer).filterMap (·.frame)->s.heap.get? b=some o->i.get? b=some o)->(∀ b o,(∃ j,X.s₀.heap.get? b=some j)->s.heap.get? b=some o->∃ sl,i.get? b=some { o with slots:=sl })->Q () { s with heap:=i }:=by
  intro i T d y g r C l af N O P R S U W Y kp J;refine h i ⟨d,g,N,O.trans h2,P.trans h3,R,h5,h6,.inr ⟨T,y,r,S,l,U,W,Y,C,af⟩⟩ ?_ ?_
  ·have B:=I.base;rw [hex] at B;have nl:∀ b o,X.s₀.heap.get? b=some o->b<X.s₀.heap.objs.size:=fun b o z=>aaf z;have aa:∀ b,b<X.s₀.heap.objs.size->b∉frs X.outer->b∉(X.env::X.outer).filterMap (·.frame):=fun b a hn m=>by
    rw [abU,p] at m;rcases aah.mp m with rfl|m
    ·exact absurd (aar a I.ok.above) (aaN _)
    ·exact hn m
   refine ⟨fun b o z n a M=>kp b o (fun q=>by subst q;rw [h5] at z;cases z) (.inr ⟨o,z⟩) (aa b (nl b o z) a) (B.keep b o z n a M),fun b o z n a M=>?_,B.free,fun b o z M=>?_,B.tups,B.frzs,B.tbls⟩
   ·obtain ⟨sl,q⟩:=B.slot b o z n a M;obtain ⟨ab,q'⟩:=J b _ ⟨o,z⟩ q;exact ⟨ab,q'⟩
   ·obtain ⟨o',q⟩:=B.there b o z M;obtain ⟨ab,q'⟩:=J b _ ⟨o,z⟩ q;exact ⟨_,q'⟩
  ·intro b u a;refine (I.hok b u a).stay (fun c v hc q=>kp c v ?_ (.inl ?_) ?_ q) (fun _ q=>q) fun _ _ q=>q
   ·rintro rfl;rcases hc with rfl|z
    ·rw [h6] at a;cases a
    ·rw [h6] at z;cases z
   ·rcases hc with rfl|z
    ·rw [a];simp
    ·rw [z];simp
   ·intro m;have:=free c m;rcases hc with rfl|z
    ·rw [this] at a;cases a
    ·rw [this] at z;cases z
 unfold leaving noteFrame;simp only [p];rcases h7 with h7|⟨T,y,r,t1,t2,t3,t4,t5,t6,t7⟩
 ·refine aaa (aaa (aaT L h4 h7 ?_));rw [aab (by decide)];refine xU G hl p L h4 (abi.mp h7).1 fun i T d y g r C N O P R S U W Y kp J=>?_;have l:T≠e:=fun q=>by subst q;exact absurd (aar (aaf L) C) (aaN _)
  exact Z i T d y g r (acH (aaj I.sz C)) l (I.hok.fresh C) N O P R S U W Y (fun b o a _ m z=>kp b o a m z) fun b o a z=>J b o (fun q=>by subst q;obtain ⟨_,a⟩:=a;rw [h5] at a;cases a) z
 ·refine aaa (aaa (aaT L h4 t1 ?_));rw [aac (show (Value.ref T != Value.none)=true by simp)];refine aaa (aaT t3 t4 t5 ?_);rw [aab (show ¬ ((Value.none == rawInt X.env.locals)=true) by simp [rawInt])];refine aaa (abr t3 t4 (abi.mp t5).1 ?_);have f:∀ b,b≠T->(s.heap.update T (Obj.mapFields (·.setIfInBounds 3 Value.none))).get? b=s.heap.get? b:=fun b a=>aaK _ _ (aas a);have ae:∀ b o,s.heap.get? b=some o->(∀ vs,o.data≠.fields vs)->b≠T:=fun b o a D q=>by subst q;rw [t3] at a;cases a;exact D r t4
  refine xU (s:={ s with heap:=s.heap.update T (Obj.mapFields (·.setIfInBounds 3 Value.none)) }) G (hl.of_keeps fun b o a D=>⟨o,(f b (ae b o a D)).trans a,rfl⟩) p ((f e (aas t2)).trans L) h4 (abi.mp t1).1 fun i T' d ac g ad C N O P R S U W Y kp J=>?_;have F:s.heap.objs.size≤T':=by have z:(s.heap.update T (Obj.mapFields (·.setIfInBounds 3 Value.none))).objs.size=s.heap.objs.size:=ab9 _ _ _;exact aaj (abA z.symm) C
  have l:T'≠e:=fun q=>by subst q;exact absurd (aar (aaf L) F) (aaN _)
  refine Z i T' d ac g ad (acH (aaj I.sz F)) l (I.hok.fresh F) N O P R S U W Y (fun b o a w m z=>kp b o a m ((f b ?_).trans z)) fun b o a z=>J b o (fun q=>by subst q;obtain ⟨_,a⟩:=a;rw [h5] at a;cases a) ((f b ?_).trans z)
  ·rintro rfl;rcases w with w|w
   ·exact w t7
   ·obtain ⟨_,w⟩:=w;rw [t6] at w;cases w
  ·rintro rfl;obtain ⟨_,a⟩:=a;rw [t6] at a;cases a
def jt (P:ZB) (w:ZE):rK:=fun a H s E e b=>∃ (d:Zl) (cls:ZH) (dd:YA) (c:Hp),e=.ref d/\b.os=s.os/\AllBare b.gens/\Un (frs a) [] H c s.heap b.heap/\nJ P w c b.heap/\kh b.heap c s.heap d cls dd/\E cls dd c
noncomputable def Gd {P:ZB} {w:ZE} {K:Zs} {o:ZY} {m:ZI} {N:Y1} {n:Str} {j:ZT} {f:Zl} {cd:ZH} {A:ZN} {l:List Env} {s:Zp} {H:Hp} {E:XK} {a:YI} {g:St} {b:Hp} {c:Zp} {e:Zl} {cls:ZH} {dd:YA} (I:Inv (i_ (jt P w) P w K o m N n j f cd A l s H E) a g b c) (x:kh c.heap b s.heap e cls dd) (h:E cls dd b) :
 (i_ (jt P w) P w K o m N n j f cd A l s H E).xe (.ref e) c:=
 leaveX I rfl rfl I.ok.frames rfl x fun i d u k=>⟨e,cls,dd,b,rfl,I.os,I.bare,u,k,d,h⟩
theorem iZ {P:ZB} {w:ZE} {K:Zs} {T:ZY} {R:ZI} {N:Y1} {S:Str} {O:ZT} {f:Zl} {cd:ZH} {A:ZN} {Q:List Env} {s:Zp} {H:Hp} {E:XK} {r:XK} (G:∀ cls dd i,r cls dd i->E cls dd i):gJ (jt P w) (i_ (jt P w) P w K T R N S O f cd A Q s H E) r:=by
 intro c C M p e D I h;obtain ⟨J,cls,dd,i,rfl,B,a,un,j,x,q⟩:=h;obtain ⟨m,g,d,t,l⟩:=D;obtain rfl:l=p.os:=B;have y:Inv (i_ (jt P w) P w K T R N S O f cd A Q s H E) c C i ⟨m,g,d,t,p.os⟩:=I.call (h':=m) (g':=g) (d':=d) (t':=t) (ch:=[]) un j a (fun b z=>absurd z (by simp));refine Gd y (x.mono fun b v=>?_) (G _ _ _ q);cases z:s.heap.get? b with
 |none=>rfl
 | some o=>obtain ⟨L,n⟩:=I.base.there b o z (by intro F;cases F);rw [v] at n;cases n
open PySem.W
noncomputable def ur (K:Zs) (C:Zl) (B a:String):Bool:=match K.lookup C with
 |some ⟨_,_,.cls cd,sl⟩=>!cd.abstract && !cd.hasDel && (sl.toList[4]?).join == some (.builtin a) && !cd.mro.isEmpty && cd.mro.contains (.ref C) && cd.mro.contains (.type B) && cd.mro.contains (.type "BaseException") && !cd.mro.contains (.type "AttributeError") && !cd.mro.contains (.type "NameError") &&
  specialIn K (.ref C) "__call__" == some (some (.builtin "type.__call__")) && instIn K (.ref C) (.type "type") == some true
 |_=>false
structure Bk (M:Model) (h:ZI) (C:Zl) (B newId:String):Prop where
 obj:∃ oc od cd sl,h.get? C=some ⟨oc,od,.cls cd,sl⟩/\cd.abstract=false/\cd.hasDel=false/\cd.mro.isEmpty=false
 made:Looks M h (Bind.madeBy (.ref C)) (some newId)
 base:Looks M h (Bind.staticBase (.ref C)) (.ref C)
 self:Looks M h (isSubtype (.ref C) (.ref C)) true
 isB:Looks M h (isSubtype (.ref C) (.type B)) true
 isE:Looks M h (isSubtype (.ref C) (.type "BaseException")) true
 noA:Looks M h (isSubtype (.ref C) (.type "AttributeError")) false
 noN:Looks M h (isSubtype (.ref C) (.type "NameError")) false
 call:Looks M h (specialOf (.ref C) "__call__") (some (.builtin "type.__call__"))
 typ:Looks M h (isInstance (.ref C) (.type "type")) true
set_option tactic.hygienic true in
def oJ {K:Zs} (X:K.In h) (e:ur K C B a=true):Bk M h C B a:=by
 unfold ur at e;split at e
 ·rename_i oc od cd G i;simp only [aaP,ac5,aaW] at e;obtain ⟨⟨⟨⟨⟨⟨⟨⟨⟨⟨o,p⟩,r⟩,d⟩,w⟩,x⟩,y⟩,D⟩,F⟩,f⟩,g⟩:=e;have j:clsIn K C=some cd:=by unfold clsIn;rw [i]
  have m:Looks M h (mroOf (.ref C)) cd.mro:=(looks_clsIn X j).andThen .now;obtain ⟨c,l,n⟩:∃ c l,cd.mro=c::l:=by
   cases q:cd.mro with
   |nil=>rw [q] at d;cases d
   |cons c l=>exact ⟨c,l,rfl⟩
  have made:Looks M h (Bind.madeBy (.ref C)) (some a):=by intro A Q E s k q;unfold Bind.madeBy;refine aaa (m A _ E s k ?_);rw [n,acu];refine aaa (aaa (aaa (aaa (abZ (k _ _ (X _ _ i)) (aad ?_)))));dsimp only;rw [← ab1,r];exact aad (aad (aad q))
  have sub:∀ (v:ZH) (b:Bool),cd.mro.contains v=b->Looks M h (isSubtype (.ref C) v) b:=fun v b z=>looks_mroIn X (by unfold mroIn;rw [j,Option.bind_some,aab (by rw [d];decide),z]);refine ⟨⟨oc,od,cd,G,X _ _ i,o,p,d⟩,made,?_,sub _ _ w,sub _ _ x,sub _ _ y,sub _ _ D,sub _ _ F,looks_specialIn X f,looks_instIn X g⟩;intro A Q E s k q;unfold Bind.staticBase;refine aaa (m A _ E s k ?_);rw [n,acu];exact aaa (aaa (aaa (made A _ E s k (aad (aad (aad q))))))
 ·cases e
noncomputable abbrev jQ (C t:Zl):Obj:={ cls:=.ref C,data:=.fields #[.ref t,.none,.none,.none,.bool false,.none] }
noncomputable def newX {E:ZB} {w:ZE} {A:ZN} {C:Zl} {R:YN} {h:ZI} {g:Array GenState} {d:Drawn} {t:Nat} {H:OsState} {B D G:String} {I:Y2} (F:ExcBaseFacts B D G I) {rest:Y2} (Y:Bk (model E w) h C B D) (m:rest.length≤sizeLine)
 (s:R (.ok (.ret (.ref (h.objs.size+1)))) ⟨(h.push { cls:=.type "tuple",data:=.seq rest.toArray }).push (jQ C h.objs.size),g,d,t,H⟩) :
 codeAny (model E w) A (.call (.builtin D) ⟨.ref C::rest,[]⟩) R ⟨h,g,d,t,H⟩:=by
 obtain ⟨⟨oc,od,cd,v,o,x,y,z⟩,made,a,n,i,q,j,l,call,r⟩:=Y;have e:=F.noStar;have f:=F.ends;refine codeAny_call_builtin_code (Code.quiet_builtin _ F.quiet) ?_;simp only [checkBuiltinCall,F.newKind,F.newSplit,F.newRow];have here:Looks (model E w) h (Bind.madeHere D (.ref C)) ():=a.andThen (made.andThen (Looks.of_pure (by simp only [Option.map_some,ac6,abd,if_false])))
 repeat (first|simp only [ac6,abd,if_false]|lk)
 repeat (first|wp_step)
 refine PySem.codeAny_builtinAt F.entry ?_;unfold Builtin.«BaseException.__new__»;refine PySem.wpAt_bind ?_;show PySem.wpAt _ _ _ (stack >>= _) _ _ _;refine PySem.wpAt_bind (PySem.wpAt_stack fun p c=>PySem.wpAt_of_wpAny ?_)
 wp_walk
 refine PySem.wpAt_of_wpAny ?_;rw [F.owner];have b:Looks (model E w) h (Bind.madeHere "BaseException.__new__" (.ref C)) ():=a.andThen (made.andThen (Looks.of_pure (by simp only [Option.map_some,F.canon,ac6,abd,if_false])))
 repeat (first|with_reducible refine b.at ?_|with_reducible refine i.at ?_|with_reducible refine j.at ?_|with_reducible refine l.at ?_|with_reducible refine aca o ?_|wp_step)
 show R _ _;rw [abq];exact s
noncomputable def zV {T:ZB} {w:ZE} {A:ZN} {C:Zl} {R:YN} {h:ZI} {g:Array GenState} {d:Drawn} {t:Nat} {X:OsState} {B U W:String} {Z:Y2} (F:ExcBaseFacts B U W Z) {rest:Y2} {f:ZH} (Y:Bk (model T w) h C B U) (E:Looks (model T w) h (typeLookup (.ref C) "__init__") (some f)) (G:∀ c,Looks (model T w) h (bindSpecial f c) (f,[c])) (i:rest.length≤sizeLine)
 (H:codeAny (model T w) (A.under (.builtin "type.__call__" ⟨.ref C::rest,[]⟩)) (.call f ⟨.ref (h.objs.size+1)::rest,[]⟩) (InitBack (h.objs.size+1) R) ⟨(h.push { cls:=.type "tuple",data:=.seq rest.toArray }).push (jQ C h.objs.size),g,d,t,X⟩) :
 codeAny (model T w) A (.call (.ref C) ⟨rest,[]⟩) R ⟨h,g,d,t,X⟩:=by
 have n:=Y;obtain ⟨⟨oc,od,cd,P,l,Q,S,q⟩,made,m,c,s,x,y,D,call,j⟩:=Y;refine codeAny_of_tree ?_;show wpAny _ _ (callAny (.ref C) _) _ _ _;refine nd_load l ?_;show wpAny _ _ (callAny.viaDunder (.ref C) _) _ _ _;unfold callAny.viaDunder;refine aaa (call.at ?_);dsimp only;rw [tc_bind];refine aaa (aad (aaa (aad (aad (a:=Fin.again (.call (.builtin "type.__call__") ⟨.ref C::rest,[]⟩)) (ab6 rfl ?_)))));refine codeAny_call_builtin_at (Code.quiet_builtin _ (by ext)) entry_typeCall (check_slot tc_kind tc_split j (tc_args _ _ _) ?_);unfold Builtin.«type.__call__»;have J:Looks (model T w) h (mroOf (.ref C)) cd.mro:=((Looks.ld (part:=none) l).andThen .now).andThen .now
 repeat (first|simp only [q,abd,if_false]|with_reducible refine aa8 ?_|lk)
 refine newX F n i ?_;have k:∀ b o,h.get? b=some o->((h.push { cls:=.type "tuple",data:=.seq rest.toArray }).push (jQ C h.objs.size)).get? b=some o:=fun b o e=>aai _ (aai _ e);have p:((h.push { cls:=.type "tuple",data:=.seq rest.toArray }).push (jQ C h.objs.size)).get? (h.objs.size+1)=some (jQ C h.objs.size):=by
  have:=aav (h.push { cls:=.type "tuple",data:=.seq rest.toArray }) (o:=jQ C h.objs.size) rfl
  rwa [abq] at this
 have L:Looks (model T w) ((h.push { cls:=.type "tuple",data:=.seq rest.toArray }).push (jQ C h.objs.size)) (typeOf (.ref (h.objs.size+1))) (.ref C):=(Looks.ld p).andThen .now;have M:=c.keeps k;have N:=E.keeps k;have O:=(G (.ref (h.objs.size+1))).keeps k;unfold isInstance callSpecial? specialOf
 repeat (first|with_reducible refine aa8 ?_|lk)
 refine codeAny_mono H fun r I z=>?_;rcases r with e|(v|_|_|_) <;> first|exact z|exact z.elim|skip
 obtain ⟨rfl,z⟩:=z;exact aad (aad z)
open Builtin.ObjectAttr
noncomputable def jw (e C:Zl) (dd:YA):HO:=.ext fun h=>∃ a:Value,h.get? e=some { cls:=.ref C,dict:=dd,data:=.fields #[a,.none,.none,.none,.bool false,.none] }
noncomputable def uN (b:Zl) (fs:List (Str×V)):HO:=.ext fun h=>∃ a,h.Ns1 b a/\(∀ f,lQ (fs.lookup f) (a f))/\PySem.Within a (fs.map (·.1))
def xn (x:h.get? e=some { cls:=.ref C,dict:=dd,data:=.fields #[a0,.none,.none,.none,.bool false,.none] }):gr P w H h e (jw e C dd):=
 ⟨⟨a0,x⟩,⟨_,x⟩,fun b c ⟨a,z⟩ k=>⟨a,k _ z⟩⟩
noncomputable def zW (x:h.Ns1 i b) (r:∀ f,lQ (fs.lookup f) (b f)) (p:PySem.Within b (fs.map (·.1))):gr P w H h i (uN i fs):=by obtain ⟨o,v,y,j,rest⟩:=id x;refine ⟨⟨b,x,r,p⟩,⟨o,j⟩,fun q s z k=>?_⟩;obtain ⟨l,⟨m,c,d,e,a⟩,n,g⟩:=z;exact ⟨l,⟨m,c,d,k _ e,a⟩,n,g⟩
theorem rQ (a:ZH) (e:refuseLoop a "__setattr__" b=pure ()) (d:b≠[]):∀ (f:YE),refuseLoop a "__setattr__" (f.map Value.ref++b)=pure ()
 |[]=>e
 | c::r=>by rw [aaw,ac7,refuseLoop_ref];exact rQ a e d r
structure nW (K:Zs) (C:Zl) (B newId:String):Prop where
 mks:ur K C B newId=true
 sa:findIn K (.ref C) "__setattr__" = some (some (.builtin "object.__setattr__"))
 cd:∃ (cd:ClassData) (rs:YE) (bm:Y2),clsIn K C=some cd/\cd.hasDict=true/\cd.mro=rs.map Value.ref++bm/\bm≠[]/\(∀ self,refuseLoop self "__setattr__" bm=pure ())/\bm.contains (.type "object")=true
 kp:keepIn K (.ref C)=true
 ty:typeIn K (.ref C)=some (.type "type")
def VM {A:ZN} {R:YN} {s:Zp} {K:Zs} (X:K.In s.heap) (I:InstAt s.heap x M C od) (N:nW K C B g) (O:takerIn K C Q=some none)
 (h:∀ b,wpAny (model P w) A.in1 (Builtin.ObjectAttr.storeInOwnDict (.ref x) (.ref C) (.str Q tk) Q v b) (fun o n=>match o with|.done f=>R (.ok f) n|.again z=>z.quiet=true/\codeAny (model P w) A z R n) (fun e n=>R (.error e) n) s) :
 codeAny (model P w) A (.call (.builtin "object.__setattr__") ⟨[.ref x,.str Q tk,v],[]⟩) R s:=by
 have i:=PySem.F.store_object;obtain ⟨cd,F,G,r,y,c,l,p,m⟩:=N.cd;have ne:cd.mro.isEmpty=false:=by
  rw [c];cases F with
  |nil=>cases G with|nil=>exact absurd rfl l|cons _ _=>rfl
  |cons _ _=>rfl
 have j:cd.mro.contains (.type "object")=true:=by rw [c,List.contains_eq_mem,abu];rw [List.contains_eq_mem,abu] at m;exact aau _ m
 have sub:Looks (model P w) s.heap (isInstance (.ref x) (.type "object")) true:=I.type.andThen (looks_mroIn X (by unfold mroIn;rw [r,Option.bind_some,aab (by rw [ne];decide),j]));refine codeAny_call_builtin i.slot.plain i.entry (@check_slot (model P w) _ _ s "object.__setattr__" "object" "__setattr__" (.ref x) [.str Q tk,v] [] _ i.kind i.split sub (i.args (.ref x) (.str Q tk) v) ?_);obtain ⟨d,H,J⟩:=Option.bind_eq_some_iff.mp O;have D:Looks (model P w) s.heap (mroOf (.ref C)) cd.mro:=(looks_clsIn X r).andThen .now;have E:Looks (model P w) s.heap (storeTaker? d) none:=by
  cases d with
  |none=>exact .now
  | some a=>
    obtain ⟨b,L,q⟩:=abE.mp J;refine (looks_takesIn X L).andThen ?_;cases b with
    |false=>exact .now
    |true=>cases q
 rw [osa_eq,refuse_eq];refine aaa (aaa (I.type.here (aaa (D.here ?_))));rw [c,rQ _ (p _) l];refine aad (aaa (I.type.here (aaa ((looks_findIn X H).here (aaa (E.here ?_))))));exact h _
def Ak {s:Zp} {K:Zs} {I:Str} {Q:Fin->Shared->Prop} {cd:ClassData} (X:K.In s.heap) (q:s.heap.get? x=some ⟨.ref C,none,.fields vs,L⟩) (G:clsIn K C=some cd) (hd:cd.hasDict=true)
 (h:∀ a,a.Ns1 s.heap.objs.size (fun y=>if y=I then some v else none)->a.get? x=some ⟨.ref C,some s.heap.objs.size,.fields vs,L⟩->(∀ b o,b≠x->s.heap.get? b=some o->a.get? b=some o)->Q (.done (.ret .none)) { s with heap:=a,toks:=s.toks+1 }) :
 wpAny (model J w) A (storeInOwnDict (.ref x) (.ref C) (.str I tk) I v b) Q E s:=by
 unfold storeInOwnDict;refine aaa (aad (aaa (aaa (abZ q (aaa (Looks.here (looks_clsIn X G) ?_))))));rw [hd];have g:(s.heap.push { cls:=.type "dict",data:=.dict #[] }).get? x=some ⟨.ref C,none,.fields vs,L⟩:=aai _ q;have i:x≠s.heap.objs.size:=aal (aaf q);show wpAny _ _ (do
  let d ← alloc { cls:=Value.type "dict",data:=Data.dict #[] }
  update x fun o=>{ cls:=o.cls,dict:=some d,data:=o.data,slots:=o.slots }
  dictMade (Value.ref C) x d) _ _ _;refine aaa (wpAny_alloc' (aaa (wpAny_update' g ?_)));refine aad ?_;have j:((s.heap.push { cls:=.type "dict",data:=.dict #[] }).update x fun o=>{ cls:=o.cls,dict:=some s.heap.objs.size,data:=o.data,slots:=o.slots }).get? s.heap.objs.size=some { cls:=.type "dict",data:=.dict #[] }:=(acb _ _ _ _ i.symm).trans (Heap.get?_push_at rfl rfl);have l:((s.heap.push { cls:=.type "dict",data:=.dict #[] }).update x fun o=>{ cls:=o.cls,dict:=some s.heap.objs.size,data:=o.data,slots:=o.slots }).Ns s.heap.objs.size (fun _=>none):=⟨_,#[],_,j,rfl,fun e z=>absurd z (by simp),fun _=>rfl⟩;show wpAny _ _ (storeInDict s.heap.objs.size (.str I tk) I v) _ _ _;unfold storeInDict newKeyGuard;refine aaa (aad (aaa (wpAny_nsSet1 (s:={ s with heap:=_ }) (acS l) fun a c r=>?_)));obtain ⟨H,D,F,m,n,p⟩:=c.count (acQ I v PySem.Within.nil);refine aaa (wpAny_lookBehind m (by rw [n];exact pastItsLine_dict (aaj p (by rw [aaA,ab2,sizeLine_eq];omega))) ?_);refine aad (h a c ?_ fun b o B f=>?_)
 ·exact (r.2 x i).trans (aaY _ g rfl)
 ·exact (r.2 b (aal (aaf f))).trans ((acb _ _ _ _ B).trans (aai _ f))
noncomputable def As {s:Zp} {K:Zs} {D:Str} {Q:Fin->Shared->Prop} {cd:ClassData} {ns:Y1} (X:K.In s.heap) (o:s.heap.get? x=some ⟨.ref C,some c,.fields vs,G⟩) (p:clsIn K C=some cd) (hd:cd.hasDict=true) (q:s.heap.Ns1 c j) (r:PySem.Within j ns) (B:ns.length<1000)
 (h:∀ d,d.Ns1 c (fun y=>if y=D then some v else j y)->Heap.SameBut c s.heap d->Q (.done (.ret .none)) { s with heap:=d,toks:=s.toks+1 }) :
 wpAny (model F w) A (storeInOwnDict (.ref x) (.ref C) (.str D tk) D v b) Q E s:=by
 unfold storeInOwnDict;refine aaa (aad (aaa (aaa (abZ o (aaa (Looks.here (looks_clsIn X p) ?_))))));rw [hd];refine aad (a:=some c) ?_;show wpAny _ _ (storeInDict c (.str D tk) D v) _ _ _;unfold storeInDict newKeyGuard;refine aaa (aad (aaa (wpAny_nsSet1 q fun d e l=>?_)));obtain ⟨z,m,n,f,g,i⟩:=e.count (acQ D v r);refine aaa (wpAny_lookBehind f (by rw [g];exact pastItsLine_dict (aaj i (by rw [aaA,sizeLine_eq];omega))) ?_);exact aad (h d e l)
noncomputable def wZ (I:Inv X c d H s) (b:H e=some (jw e C dd)):∃ a,s.heap.get? e=some { cls:=.ref C,dict:=dd,data:=.fields #[a,.none,.none,.none,.bool false,.none] }:=(show gr X.prog X.w H s.heap e (jw e C dd) from I.hok e _ b).1
def K4 (I:Inv X dR σ H s) (he:H e=some (jw e C none)) (XC:nW X.K C B newId) (ht:takerIn X.K C f=some none) (ry:RelV y u)
 (h:∀ da s',H da=none->Inv X dR σ (upd (upd H e (jw e C (some da))) da (uN da [(f,y)])) s'->Q () s'):wpAny (model X.prog X.w) A (setAttr (.ref e) f u) Q E s:=by
 obtain ⟨a0,hx⟩:=wZ I he;have J:InstAt s.heap e _ C none:=⟨hx,rfl,rfl,aaF⟩;obtain ⟨cd,rs,bm,hc,hdct,_⟩:=XC.cd;refine set_plain I.kIn J XC.sa (VM (s:={ s with toks:=s.toks+1 }) I.kIn J XC ht fun b=>Ak (s:={ s with toks:=s.toks+1 }) I.kIn hx hc hdct fun h' hn hx' hk=>?_);have fr:H s.heap.objs.size=none:=I.hok.fresh (aae _);have nes:e≠s.heap.objs.size:=aal (aaf hx);refine h s.heap.objs.size _ fr ?_;have hx1:(s.heap.push emptyDict).get? e=some _:=aai _ hx;have g1:(s.heap.push emptyDict).get? s.heap.objs.size=some emptyDict:=aav s.heap rfl;have e3:(s.heap.push emptyDict).Ns s.heap.objs.size (fun _=>none):=⟨emptyDict,#[],_,g1,rfl,(fun e he=>absurd he (by simp)),fun _=>rfl⟩;have I1:=I.laid (a:=s.heap.objs.size) (o:=uN s.heap.objs.size []) (h':=s.heap.push emptyDict) (t':=s.toks) (fun b u q=>aai _ q) (aae _) (zW (acS e3) (fun _=>aaF) fun y hy=>absurd rfl hy);have hx2:=aaY (fun o:Obj=>{ o with dict:=some s.heap.objs.size }) hx1 rfl;have I2:=I1.write (x:=e) (e:=e) (o:=jw e C (some s.heap.objs.size)) (h':=(s.heap.push emptyDict).update e fun o=>{ o with dict:=some s.heap.objs.size }) (t':=s.toks) (by rw [bK nes,he];exact aaF) (.inl rfl)
  (fun b q hb z=>(acb _ _ _ _ hb).trans z) ⟨_,hx2⟩ (xn hx2);have I3:=I2.write (x:=s.heap.objs.size) (e:=s.heap.objs.size) (o:=uN s.heap.objs.size [(f,y)]) (h':=h') (t':=s.toks+1+1) (by rw [bK nes.symm,a_];exact aaF) (.inl rfl) (fun b q hb z=>?_) (let ⟨o,_,_,ho,_⟩:=hn;⟨o,ho⟩)
  (zW hn (fun g=>?_) fun g hg=>?_)
 ·have e1:upd (upd (upd H s.heap.objs.size (uN s.heap.objs.size [])) e (jw e C (some s.heap.objs.size))) s.heap.objs.size (uN s.heap.objs.size [(f,y)])=upd (upd H e (jw e C (some s.heap.objs.size))) s.heap.objs.size (uN s.heap.objs.size [(f,y)]):=by
   funext b;unfold upd;split
   ·rfl
   ·split
    ·rfl
    ·rfl
  rw [e1] at I3;exact I3
 ·by_cases hbe:b=e
  ·subst hbe;have z':some q=some _:=z.symm.trans hx2;cases z';exact hx'
  ·have z1:(s.heap.push emptyDict).get? b=some q:=(acb _ _ _ _ hbe).symm.trans z;have z2:s.heap.get? b=some q:=by
    rcases Heap.get?_push_cases z1 with z|z
    ·exact absurd z.1 hb
    ·exact z
   exact hk b q hbe z2
 ·have e2:List.lookup g [(f,y)]=if g=f then some y else none:=h_ f g y []
  rw [e2];by_cases q:g=f
  ·rw [aac q,aac q];exact ry
  ·rw [aab q,aab q];exact aaF
 ·by_cases q:g=f
  ·subst q;simp
  ·exact absurd (aab q) hg
theorem Fj (N:ExcBaseFacts B Y initId bm) (O:nW X.K C B Y) (P:findIn X.K (.ref C) "__init__" = some (some (.ref f))) (R:isFn X.K (.ref f)=true) (F:dw X.prog X.w X.K X.mg X.base CX k f fd ps sp) (S:eX (k+1) X.A)
 (T:Binds X.K fd ps ds) (hd:Vals Z ds) (U:gJ CX X E) (I:Inv X c p H s) (r:Vals vs i) (W:i.length≤sizeLine)
 (h:∀ e,H e=none->sp (.ref e::(vs++Z)) (upd H e (jw e C none)) (fun v x=>v=.non/\Q (.ref e) x) E) :
 wpAny (model X.prog X.w) X.A (call (.ref C) i) (EP X c p Q) X.xe s:=by
 obtain ⟨a,g,d,t,A⟩:=s;have w:=h (a.objs.size+1) (I.hok.fresh (abg _));have m:((a.push { cls:=.type "tuple",data:=.seq i.toArray }).push (jQ C a.objs.size)).get? (a.objs.size+1)=some (jQ C a.objs.size):=by
  have:=aav (a.push { cls:=.type "tuple",data:=.seq i.toArray }) (o:=jQ C a.objs.size) rfl
  rwa [abq] at this
 have n:Inv X c p (upd H (a.objs.size+1) (jw (a.objs.size+1) C none)) ⟨(a.push { cls:=.type "tuple",data:=.seq i.toArray }).push (jQ C a.objs.size),g,d,t,A⟩:=
  I.laid (h':=(a.push { cls:=.type "tuple",data:=.seq i.toArray }).push (jQ C a.objs.size)) (t':=t) (fun b u q=>aai _ (aai _ q)) (abg _) (xn m);have r2:Vals (V.ref (a.objs.size+1)::(vs++Z)) (Value.ref (a.objs.size+1)::(i++ds)):=.cons rfl (r.append hd);have z:(Value.ref (a.objs.size+1)::i++ds).length=ps.length:=by
  have e:=r2.length;rw [F.len _ _ _ _ w] at e;exact e.symm
 refine aa8 (zV N (oJ I.kIn O.mks) (looks_findIn I.kIn P) (fun l=>bind_fn I.kIn l (aaW.mp R)) W (codeAny_mono (F.run _ X.stack _ _ ⟨Value.ref (a.objs.size+1)::i,[]⟩ (Value.ref (a.objs.size+1)::(i++ds)) _ _ E (S.make C i []) (n.env0.make C i []) (T _ (Value.ref (a.objs.size+1)::i) n.kIn z) r2 w) fun r y j=>?_))
 match r,j with
 |.error e,j=>exact U c p _ _ e y n j
 | .ok (.ret u),j=>obtain ⟨v,D,G,J,L,M⟩:=n.after j;subst L;exact ⟨J,⟨V.ref (a.objs.size+1),D,G,rfl,M⟩⟩
def J5 (C:Zl) (g:Sp) (a:List V) (E:XK) (t:TA):TE:=fun c H Q=>t c H fun vs b=>∀ e,b e=none->g (.ref e::(vs++a)) (upd b e (jw e C none)) (fun v d=>v=.non/\Q (.ref e) d) E
def iD (v:ExcBaseFacts B R S bm) (j:nW X.K C B R) (w:findIn X.K (.ref C) "__init__" = some (some (.ref f))) (y:isFn X.K (.ref f)=true) (F:dw X.prog X.w X.K X.mg X.base Z k f Y U W) (z:eX (k+1) X.A)
 (A:Gl X x) (D:X.mg x=some (.ref C)) (G:Binds X.K Y U ds) (hd:Vals T ds) (J:gJ Z X E) (L:PA X (e::c) t) (g:(x == ("__debug__" : Str))=false:=by decide) (M:starEach (e::c) X.env=(false,eval e X.env)::starEach c X.env:=by rfl) (i:(backTo a (starEach c X.env)).any (·.1)=false:=by rfl) (N:U.length≤20:=by decide) :
 PE X (.Call (.Name x p) (e::c) [] a) (J5 C W T E t):=by
 intro b s o H Q I h;refine aa9 (kE I A D ?_ g);refine callWith_K (h₀:=X.base) I.ok.mod.kin j.kp (gj (L a b s o H _ I h) fun l m ⟨vs,O,d,r,q⟩=>⟨d.kIn,?_⟩) M i;refine Fj v j w y F z G hd J d r ?_ q;have n:=F.len _ _ _ _ (q (m.heap.objs.size) (d.hok.fresh (aae _)));rw [aaA,aaD] at n;have P:=r.length;exact aaj (show l.length≤20 by omega) (by decide)
def Ja (H:Hp) (a:Zl):Hp:=fun b=>if b=a then none else H b
def tR:Ja H a a=none:=aac rfl
def Al (h:b≠a):Ja H a b=H b:=aab h
def qe (h:H b=none):Ja H a b=none:=by
 unfold Ja;split
 ·rfl
 ·exact h
def Inv.Ja (I:Inv X y A H s) (w:H e=some (jw e C dd)):Inv X y A (L2.Ja H e) s:=by
 have up:∀ b u,H b=some u->u≠jw e C dd->L2.Ja H e b=some u:=fun b u z d=>by
  by_cases q:b=e
  ·subst q;rw [w] at z;exact absurd (aaM z).symm d
  ·rw [Al q];exact z
 refine ⟨I.ok,I.os,I.bare,⟨I.base.keep,I.base.slot,fun b o z n f=>qe (I.base.free b o z n f),I.base.there,fun b a z=>up b _ (I.base.tups b a z) (by intro q;cases q),fun b o u z=>up b _ (I.base.frzs b o u z) (by intro q;cases q),fun b g z=>?_⟩,I.loc,I.cell,qe I.free,fun x c z=>qe (I.freeC x c z),fun p h=>?_,fun b u z=>?_,I.len⟩
 ·obtain ⟨m,q⟩:=I.base.tbls b g z;exact ⟨m,up b _ q (by intro q;cases q)⟩
 ·obtain ⟨i,j,l⟩:=I.pin p h;exact ⟨i,qe j,l⟩
 ·by_cases q:b=e
  ·subst q;rw [tR] at z;cases z
  ·rw [Al q] at z;exact (I.hok b u z).stay (fun c v _ r=>r) (fun c r=>up c _ r (by intro q;cases q)) fun c a r=>up c _ r (by intro q;cases q)
def Hu (X:Cx) (B a:String) (W:XK) (d:TE):TS:=fun _ c H=>d c H fun x b=>∃ e C dd,x=.ref e/\b e=some (jw e C dd)/\X.H₀ e=none/\nW X.K C B a/\W (.ref C) dd (Ja b e)
def iC (S:PE X ex te) (f:X.calm=true) (T:X.ex=[])
 (U:∀ (a:YI) (i:St) (A:Hp) (E:Zp) (e:Zl) (cls:ZH) (dd:YA),Inv X a i A E->kh E.heap A X.s₀.heap e cls dd->W cls dd A->X.xe (.ref e) E):PS X (.Raise (some ex) none R) (Hu X B newId W te):=by
 intro a s i H D I h;rw [arm_exec_Raise];have j:∀ F:Sem Value,wpAny (model X.prog X.w) X.A F (EP X a i fun x p=>∃ e C dd,x=.ref e/\p e=some (jw e C dd)/\X.H₀ e=none/\nW X.K C B newId/\W (.ref C) dd (L2.Ja p e)) X.xe s->wpAny (model X.prog X.w) X.A (raiseStmt X.env (some F) none) (SP X a D) X.xe s:=by
  intro F n;unfold raiseStmt;refine aaa (gj n fun v b ⟨x,p,c,r1,e,C,dd,r,w,h0,y,q⟩=>?_);subst r;cases (show v=Value.ref e from r1);obtain ⟨a0,J⟩:=wZ c w;have Y:=oJ (M:=model X.prog X.w) c.kIn y.mks;obtain ⟨⟨oc,od,cd,sl,hC,e1,e2,e4⟩,made,l,m,L,N,O,P,call,Q⟩:=Y;have Z:Looks (model X.prog X.w) b.heap (typeOf (.ref e)) (.ref C):=(Looks.ld J).andThen .now;have G:X.xe (.ref e) b:=by
   refine U a i _ b e (.ref C) dd (c.Ja w) ⟨_,_,J,rfl,rfl,rfl,?_,tR,.inl rfl⟩ q;cases z:X.s₀.heap.get? e with
   |none=>rfl
   | some o=>have:=c.base.free e o z h0 (by rw [T];simp);rw [w] at this;cases this
  have T2:Looks (model X.prog X.w) b.heap (typeOf (.ref C)) (.type "type"):=looks_typeIn c.kIn y.ty;have T3:Looks (model X.prog X.w) b.heap (isInstance (.ref e) (.type "BaseException")) true:=Z.andThen N;have hh:X.A.handled=none:=c.ok.hd f;clear c r1 n S h I y made l m L O P call Q;obtain ⟨hp,g,d,tk,os⟩:=b
  repeat (first|with_reducible refine aca J ?_|with_reducible refine T3.at ?_|with_reducible refine Z.at ?_|with_reducible refine T2.at ?_|wp_step)
  exact wpAny_raiseNew_none hh G
 first
  |exact aaa (aa4 (j _ (aaa (gj (S a s i H _ I h) fun v b z=>aaa (aa4 (aad z))))))
  |(simp only [evalOpt,Option.map];exact aaa (aa4 (j _ (aaa (gj (S a s i H _ I h) fun v b z=>aaa (aa4 (aad z)))))))
def Ir (I:Inv X W Z H s) (N:H e=some (jw e C (some a))) (hd:H a=some (uN a fs)) (O:fs.length<1000) (j:nW X.K C B Y) (P:takerIn X.K C f=some none) (R:RelV y u)
 (h:∀ m,Inv X W Z (upd H a (uN a (gG f y fs))) m->Q () m):wpAny (model X.prog X.w) A (setAttr (.ref e) f u) Q E s:=by
 obtain ⟨S,n⟩:=wZ I N;obtain ⟨p,v,r,w⟩:=(show gr X.prog X.w H s.heap a (uN a fs) from I.hok a _ hd).1;obtain ⟨od,i,_⟩:=qH v;have J:InstAt s.heap e _ C (some od):=⟨n,rfl,rfl,i⟩;obtain ⟨cd,T,U,M,d,_⟩:=j.cd;refine set_plain I.kIn J j.sa (VM (s:={ s with toks:=s.toks+1 }) I.kIn J j P fun b=>As (s:={ s with toks:=s.toks+1 }) (ns:=fs.map (·.1)) I.kIn n M d v w (by rw [aag];exact O) fun l c D=>?_);refine h _ (I.write (x:=a) (e:=a) (h':=l) (t':=s.toks+1+1) (by rw [hd];exact aaF) (.inl rfl) (fun b q F z=>(D.2 b F).trans z) (let ⟨o,_,_,L,_⟩:=c;⟨o,L⟩) (zW c (fun g=>?_) fun g G=>?_))
 ·show lQ ((gG f y fs).lookup g) (if g=f then some u else p g);rw [h_];by_cases q:g=f
  ·rw [aac q,aac q];exact R
  ·rw [aab q,aab q];exact r g
 ·by_cases q:g=f
  ·rw [q];exact (lV f y fs).1
  ·refine (lV f y fs).2 g (w g fun z=>G ?_);show (if g=f then some u else p g)=none;rw [aab q];exact z
def Ua (K:Zs) (B b:String) (h i:TE) (f:Str):TS:=fun D d H=>i d H fun y g=>h d g fun x c=>∃ e C,x=.ref e/\nW K C B b/\takerIn K C f=some none/\
 ((c e=some (jw e C none)/\∀ a,c a=none->D.nx d (upd (upd c e (jw e C (some a))) a (uN a [(f,y)])))∨ ∃ a fs,c e=some (jw e C (some a))/\c a=some (uN a fs)/\fs.length<1000/\D.nx d (upd c a (uN a (gG f y fs))))
def Mz (R:PE X o w) (S:PE X a z) (T:swapsWith a (some (.Attribute o f c)) d.line X.env=pure false):PS X (.Assign [.Attribute o f c] a d) (Ua X.K B newId w z f):=by
 intro b s g H D I h;refine plainObj_wpAny_Assign_Attribute (gj (S b s g H _ I h) fun u F ⟨y,G,J,m,q⟩=>gj (R b F g G _ J q) fun L U ⟨x,W,n,M,e,C,N,p,r,q2⟩=>?_) T;subst N;cases (show L=Value.ref e from M);rcases q2 with ⟨l,q2⟩|⟨v,fs,l,hd,P,q2⟩
 ·exact K4 n l p r m fun v O i j=>⟨g,_,j,q2 v i⟩
 ·exact Ir n l hd P p r m fun O j=>⟨g,_,j,q2⟩
set_option tactic.hygienic true in
theorem BZ (j:ExcBaseFacts B A f bm):jd X (.builtin f) (fun L H Q=>∃ e C dd y,L=[.ref e,y]/\H e=some (jw e C dd)/\nW X.K C B A/\Q .non H):=by
 intro i s P H L us Q I r h;obtain ⟨e,C,dd,y,rfl,D,W,q⟩:=h;cases r with
 | cons r1 r=>
   cases r with
   | cons r2 r=>
     cases r;rename_i E p;cases (show E=Value.ref e from r1);obtain ⟨F,G⟩:=wZ I D;have Y:=oJ (M:=model X.prog X.w) I.kIn W.mks;have N:Looks (model X.prog X.w) s.heap (typeOf (.ref e)) (.ref C):=(Looks.ld G).andThen .now;have S:Looks (model X.prog X.w) s.heap (isInstance (.ref e) (.type B)) true:=N.andThen Y.isB;have n:=j.noStar;refine aa8 (codeAny_call_builtin j.init.plain j.initEntry ?_);simp only [checkBuiltinCall,j.initKind,j.initSplit,j.initRow];refine aaa (S.here ?_);simp only [Bool.not_true,abd,if_false];obtain ⟨oc,od,cd,sl,Z,e1,e2,e4⟩:=Y.obj;have T2:=Y.typ;obtain ⟨c,g,d,tk,J⟩:=s;unfold Bind.checkArgs
     repeat (first|with_reducible refine aca G ?_|with_reducible refine aca Z ?_|with_reducible refine N.at ?_|wp_step)
     have l:∀ a,EP X i P Q .none ⟨(c.push { cls:=Value.type "tuple",data:=Data.seq #[p] }).update e (Obj.mapFields fun x=>x.setIfInBounds 0 (Value.ref c.objs.size)),g,d,a,J⟩:=fun a=>by
      have v:c.get? e=some { cls:=.ref C,dict:=dd,data:=.fields #[F,.none,.none,.none,.bool false,.none] }:=G;have w:=aai (h:=c) { cls:=Value.type "tuple",data:=Data.seq #[p] } v;have m:=aaY (Obj.mapFields fun x=>x.setIfInBounds 0 (Value.ref c.objs.size)) w rfl;have T:Inv X i P H ⟨c.push { cls:=Value.type "tuple",data:=Data.seq #[p] },g,d,a,J⟩:=I.kept (s:=⟨c,g,d,tk,J⟩) (t':=a) fun b o z=>aai _ z;have O:=T.write (x:=e) (e:=e) (o:=jw e C dd) (h':=(c.push { cls:=Value.type "tuple",data:=Data.seq #[p] }).update e (Obj.mapFields fun x=>x.setIfInBounds 0 (Value.ref c.objs.size))) (t':=a) (by rw [D];exact aaF) (.inl rfl) (fun b q R z=>(acb _ _ _ _ R).trans z) ⟨_,m⟩ (xn (a0:=.ref c.objs.size) m);have U:upd H e (jw e C dd)=H:=by
       funext b;unfold upd;split
       ·rename_i q;rw [q,D]
       ·rfl
      rw [U] at O;exact ⟨.non,H,O,rfl,q⟩
     cases F <;> first|exact aad (aad (l _))|exact wpAny_letGo (aad (l _))
section
variable {X:Cx} {CX:rK} {k:Nat} {f C CS:Zl} {fd:ZA} {ps:Y1} {sp:Sp} {dvs:List V} {ds:Y2} {E:XK} {m tn cn:Str} {T id:String} {p pos apos:Pos} {e:ZO} {es:YR} {t:TA} {r:List V->Hp->VK->Prop} {mc:ZH}
def R_ (r:List V->Hp->VK->Prop) (t:TA):TE:=fun a H Q=>t a H fun vs b=>r vs b Q
noncomputable def zJ {c:Sem Bool} (x:Gl X tn) (y:X.mg tn=none) (z:bootBuiltins tn=some (.type T)) (A:typeOf (.type T)=pure (.type "type")) (B:Manifest.isStub T=false) (D:findCls X.K (.type T) (.type "type") m=some (.val (.builtin id))) (G:jd X (.builtin id) r) (J:PA X (e::es) t) (L:handedIn (.builtin id)=true:=by rfl)
 (M:tn ≠ "__name__":=by decide) (d:(tn == ("__debug__" : Str))=false:=by decide) (g:starEach (e::es) X.env=(false,eval e X.env)::starEach es X.env:=by rfl) (i:(backTo pos (starEach es X.env)).any (·.1)=false:=by rfl)
 (j:eval (.Call (.Attribute (.Name tn p) m apos) (e::es) [] pos) X.env=(do
  let l ← eval (.Name tn p) X.env
  standAt apos.atName
  let (f,b) ← holding [l] (getMethod l m c)
  callWith pos f b (backTo pos (starEach (e::es) X.env)) (backToKw pos (keywordEach [] X.env))):=by rfl) :
 PE X (.Call (.Attribute (.Name tn p) m apos) (e::es) [] pos) (R_ r t):=by
 intro a s n H Q I h;obtain ⟨N,F⟩:=I.fr;refine methodCall_KW (pl:=c) (qI I x y z (method_type F I.ok.mod.kin A B D L ?_) M d) j;exact callWith_builtin1 (gj (J pos a _ n H _ (I.tok _) h) fun o q ⟨vs,v,w,r1,q1⟩=>G a q n v vs o Q w r1 q1) g i
noncomputable def jk (w:Gl X cn) (x:X.mg cn=some (.ref CS)) (y:specialIn X.K (.ref CS) "__getattribute__" = some (some (.builtin "type.__getattribute__"))) (d:readsIn X.K CS mc=true) (z:findCls X.K (.ref CS) mc m=some (.val (.ref f))) (hk:keepIn X.K (.ref f)=true)
 (F:dw X.prog X.w X.K X.mg X.base CX k f fd ps sp) (A:eX k X.A) (B:Binds X.K fd ps ds) (hd:Vals dvs ds) (D:gJ CX X E) (G:PA X (e::es) t) (g:(cn == ("__debug__" : Str))=false:=by decide)
 (i:starEach (e::es) X.env=(false,eval e X.env)::starEach es X.env:=by rfl) (j:(backTo pos (starEach es X.env)).any (·.1)=false:=by rfl)
 (l:eval (.Call (.Attribute (.Name cn p) m apos) (e::es) [] pos) X.env=(do
  let o ← eval (.Name cn p) X.env
  standAt apos.atName
  let (f,a) ← holding [o] (getMethod o m c)
  callWith pos f a (backTo pos (starEach (e::es) X.env)) (backToKw pos (keywordEach [] X.env))):=by rfl) :
 PE X (.Call (.Attribute (.Name cn p) m apos) (e::es) [] pos) (IV sp dvs E t):=by
 intro b s v H Q I h;refine methodCall_KW (pl:=c) (kE I w x (method_cls I.kIn y (cls_value I.kIn d z rfl ?_)) g) l;refine callWith_K (first:=[]) (h₀:=X.base) I.ok.mod.kin hk (gj (G pos b _ v H _ (I.tok _) h) fun J L ⟨vs,M,n,r,q⟩=>⟨n.kIn,?_⟩) i j;exact uC F A B hd D n r q
end
end L2
namespace L2
open PySem PySem.Spec PyProof.Rows
def Inv.stepN {X:Cx} {H H':Hp} {s:Zp} {h':ZI} {g':Array GenState} {t':Nat} {d':Drawn} {ch:YE} (I:Inv X dR σ H s)
 (h:∀ b∈ch,X.s₀.heap.get? b=none/\b≠X.env.locals/\(∀ x c,X.env.cells.lookup x=some c->c≠b)/\∀ p∈X.pn++dR,p.1≠b)
 (keep:∀ b o,b≠X.env.locals->b∉X.fs->b∉ch->s.heap.get? b=some o->H b=none->h'.get? b=some o)
 (A:∀ b o,b≠X.env.locals->b∈X.fs->b∉ch->s.heap.get? b=some o->H b=none->∃ P,h'.get? b=some { o with slots:=P }) (free:∀ b o,b∉ch->s.heap.get? b=some o->H b=none->H' b=none)
 (C:∀ b o,b∉ch->s.heap.get? b=some o->∃ F,h'.get? b=some F)
 (L:∀ b y,H b=some (.tup y)->H' b=some (.tup y)) (M:∀ b o u,H b=some (.frz o u)->H' b=some (.frz o u)) (N:∀ b O,H b=some (.tbl O)->∃ G,H' b=some (.tbl (O++G)))
 (ns:∀ m,s.heap.Ns X.env.locals m->h'.Ns X.env.locals m) (R:nJ X.prog X.w H' h') (hg:AllBare g') :
 Inv X dR σ H' { s with heap:=h',gens:=g',drawn:=d',toks:=t' }:=by
 have J:∀ b o,X.s₀.heap.get? b=some o->b≠X.env.locals:=fun b o e=>aal (aar (aaf e) I.ok.above);have w:∀ b o,X.s₀.heap.get? b=some o->b∉X.ex->b∉ch:=fun b o e a B=>by rw [(h b B).1] at e;cases e
 have f:∀ x c,X.env.cells.lookup x=some c->∀ v,s.heap.IsCell c v->h'.IsCell c v:=fun x c e v ⟨o,D,hd⟩=>by
  have g:c∉ch:=fun z=>(h c z).2.2.1 x c e rfl;by_cases T:c∈X.fs
  ·obtain ⟨P,q⟩:=A c o (I.cne x c e) T g D (I.freeC x c e);exact ⟨_,q,hd⟩
  ·exact ⟨o,keep c o (I.cne x c e) T g D (I.freeC x c e),hd⟩
 refine ⟨I.ok,I.os,hg,⟨fun b o e n B a=>?_,fun b o e n B a=>?_,fun b o e n a=>?_,fun b o e a=>?_,fun b y e=>L b y (I.base.tups b y e),fun b o y e=>M b o y (I.base.frzs b o y e),fun b O e=>?_⟩,?_,fun x c e=>?_,?_,fun x c e=>?_,fun p S=>?_,R,I.len⟩
 ·exact keep b o (J b o e) B (w b o e a) (I.base.keep b o e n B a) (I.base.free b o e n a)
 ·obtain ⟨P,j⟩:=I.base.slot b o e n B a;obtain ⟨Q,E⟩:=A b _ (J b o e) B (w b o e a) j (I.base.free b o e n a);exact ⟨Q,E⟩
 ·obtain ⟨F,j⟩:=I.base.there b o e a;exact free b F (w b o e a) j (I.base.free b o e n a)
 ·obtain ⟨F,j⟩:=I.base.there b o e a;exact C b F (w b o e a) j
 ·obtain ⟨W,j⟩:=I.base.tbls b O e;obtain ⟨Y,E⟩:=N b _ j;exact ⟨W++Y,by rw [E,Array.append_assoc]⟩
 ·obtain ⟨m,Z,hl⟩:=I.loc;refine ⟨m,ns m Z,fun i x v j E U=>?_⟩;obtain ⟨u,r,l⟩:=hl i x v j E U;refine ⟨u,r,?_⟩;rcases l with l|⟨k,c,e,z⟩
  ·exact .inl l
  ·exact .inr ⟨k,c,e,f x c e _ z⟩
 ·obtain ⟨v,z⟩:=I.cell x c e;exact ⟨v,f x c e v z⟩
 ·obtain ⟨m,⟨o,_,_,D,_⟩,_⟩:=I.loc;exact free _ o (fun z=>(h _ z).2.1 rfl) D I.free
 ·obtain ⟨v,o,D,hd⟩:=I.cell x c e;exact free c o (fun z=>(h c z).2.2.1 x c e rfl) D (I.freeC x c e)
 ·obtain ⟨e,n,ne,nf,d⟩:=I.pin p S;have g:p.1∉ch:=fun z=>(h p.1 z).2.2.2 p S rfl;exact ⟨keep p.1 p.2 ne nf g e n,free p.1 p.2 g e n,ne,nf,d⟩
open PySem.SeqAt PySem.W Builtin.ObjectAttr
noncomputable def Qd {X:Cx} {s s0:Zp} {A:ZN} {Q:Unit->Shared->Prop} {E:ZU} (I0:Inv X dR σ0 H0 s0) (I:Inv X dR σ H s) (hst:X.stack=X.env::X.outer) (y:X.env.frame=some X.env.locals) (O:A.frames=some X.stack) (hex:X.ex=[]) (hth:∀ b o,s0.heap.get? b=some o->∃ o',s.heap.get? b=some o') (x:kh s.heap H s0.heap e cls dd)
 (h:∀ i,kh i H s0.heap e cls dd->Inv X dR σ H { s with heap:=i }->Q () { s with heap:=i }):wpAny (model X.prog X.w) A (noteFrame (.ref e) X.env) (fun _ s2=>wpAny (model X.prog X.w) A (setFlight (.ref e) none) Q E s2) E s:=by
 have hl:=I.stack;rw [hst] at O hl;obtain ⟨oe,vs,h1,h2,h3,h4,h5,h6,h7⟩:=x;have free:∀ b∈(X.env::X.outer).filterMap (·.frame),H b=none:=fun b a=>I.stkFree b (by rw [hst];exact a);have aa:∀ T,s0.heap.get? T=none->X.s₀.heap.get? T=none/\T≠X.env.locals/\(∀ x c,X.env.cells.lookup x=some c->c≠T)/\∀ p∈X.pn++dR,p.1≠T:=fun T j=>by
  refine ⟨?_,?_,fun x c z q=>?_,fun p hp q=>?_⟩
  ·cases z:X.s₀.heap.get? T with
   |none=>rfl
   | some o=>obtain ⟨o',q⟩:=I0.base.there T o z (by rw [hex];simp);rw [j] at q;cases q
  ·rintro rfl;obtain ⟨_,⟨o,_,_,M,_⟩,_⟩:=I0.loc;rw [j] at M;cases M
  ·obtain ⟨v,o,M,_⟩:=I0.cell x c z;rw [q,j] at M;cases M
  ·have:=(I0.pin p hp).1;rw [q,j] at this;cases this
 have ab:∀ (L:YE) (i:ZI) (T:Zl) (d F:Obj) (g C:Y3),(∀ b∈L,s0.heap.get? b=none/\H b=none)->s0.heap.get? T=none->T≠e->H T=none->i.get? e=some d->d.cls=oe.cls->d.dict=oe.dict->d.data=.fields g->g[1]?=some (.ref T)->i.get? T=some F->F.data=.fields C->C[3]?=some .none->
  (∀ b o,b∉L->b∉(X.env::X.outer).filterMap (·.frame)->s.heap.get? b=some o->i.get? b=some o)->(∀ b o,b∉L->s.heap.get? b=some o->∃ sl,i.get? b=some { o with slots:=sl })->Q () { s with heap:=i }:=by
  intro L i T d F g C N j ai aj P R S U W Y Z g8 kp G;refine h i ⟨d,g,P,R.trans h2,S.trans h3,U,h5,h6,.inr ⟨T,F,C,W,ai,Y,Z,g8,j,aj⟩⟩ ?_;have ac:∀ b,b≠X.env.locals->b∉X.fs->b∉(X.env::X.outer).filterMap (·.frame):=fun b a hn l=>by
   rw [abU,y] at l;rcases aah.mp l with q|l
   ·exact a q
   ·exact hn l
  refine I.stepN (ch:=L) (g':=s.gens) (d':=s.drawn) (t':=s.toks) (fun b a=>aa b (N b a).1) (fun b o hL hf B z _=>kp b o B (ac b hL hf) z) (fun b o _ _ B z _=>G b o B z) (fun b o _ _ n=>n) (fun b o B z=>let ⟨sl,q⟩:=G b o B z;⟨_,q⟩) (fun _ _ z=>z) (fun _ _ _ z=>z) (fun b ps z=>⟨#[],by rw [z];simp⟩) (fun m l=>?_) (fun b u a=>?_) I.bare
  ·obtain ⟨o,es,ep,M,hd,r⟩:=l;have af:X.env.locals∉L:=fun z=>(aa _ (N _ z).1).2.1 rfl;obtain ⟨sl,q⟩:=G _ o af M;exact ⟨_,es,ep,q,hd,r⟩
  ·refine (I.hok b u a).stay (fun c v B q=>kp c v (fun z=>?_) (fun l=>?_) q) (fun _ q=>q) fun _ _ q=>q
   ·have:=(N c z).2;rcases B with rfl|w
    ·rw [this] at a;cases a
    ·rw [this] at w;cases w
   ·have:=free c l;rcases B with rfl|w
    ·rw [this] at a;cases a
    ·rw [this] at w;cases w
 have D:∀ T,s.heap.objs.size≤T->s0.heap.get? T=none/\T≠e/\H T=none:=fun T j=>by
  refine ⟨?_,fun q=>?_,I.hok.fresh j⟩
  ·cases z:s0.heap.get? T with
   |none=>rfl
   | some o=>obtain ⟨o',q⟩:=hth T o z;exact absurd (aar (aaf q) j) (aaN _)
  ·subst q;exact absurd (aar (aaf h1) j) (aaN _)
 unfold noteFrame;simp only [y];rcases h7 with h7|⟨T,F,C,t1,t2,t3,t4,t5,t6,t7⟩
 ·refine aaa (aaT h1 h4 h7 ?_);rw [aab (by decide)];refine xU O hl y h1 h4 (abi.mp h7).1 fun i T d F g C j P R S U W Y Z g8 kp G=>?_;obtain ⟨n1,n2,n3⟩:=D T j;exact ab [e] i T d F g C (fun b a=>by cases aak.mp a;exact ⟨h5,h6⟩) n1 n2 n3 P R S U W Y Z g8 (fun b o a l z=>kp b o (fun q=>a (by simp [q])) l z) fun b o a z=>G b o (fun q=>a (by simp [q])) z
 ·refine aaa (aaT h1 h4 t1 ?_);rw [aac (show (Value.ref T != Value.none)=true by simp)];refine aaa (aaT t3 t4 t5 ?_);rw [aab (show ¬ ((Value.none == rawInt X.env.locals)=true) by simp [rawInt])];refine aaa (abr t3 t4 (abi.mp t5).1 ?_);have f:∀ b,b≠T->(s.heap.update T (Obj.mapFields (·.setIfInBounds 3 Value.none))).get? b=s.heap.get? b:=fun b a=>aaK _ _ (aas a);have ag:∀ b o,s.heap.get? b=some o->(∀ vs,o.data≠.fields vs)->b≠T:=fun b o a J q=>by subst q;rw [t3] at a;cases a;exact J C t4
  refine xU (s:={ s with heap:=s.heap.update T (Obj.mapFields (·.setIfInBounds 3 Value.none)) }) O (hl.of_keeps fun b o a J=>⟨o,(f b (ag b o a J)).trans a,rfl⟩) y ((f e (aas t2)).trans h1) h4 (abi.mp t1).1 fun i T' d ad g ae j P R S U W Y Z g8 kp G=>?_;have ah:s.heap.objs.size≤T':=by have z:(s.heap.update T (Obj.mapFields (·.setIfInBounds 3 Value.none))).objs.size=s.heap.objs.size:=ab9 _ _ _;exact aaj (abA z.symm) j
  obtain ⟨n1,n2,n3⟩:=D T' ah;refine ab [e,T] i T' d ad g ae (fun b a=>?_) n1 n2 n3 P R S U W Y Z g8 (fun b o a l z=>kp b o (fun q=>a (by simp [q])) l ((f b fun q=>a (by simp [q])).trans z)) fun b o a z=>G b o (fun q=>a (by simp [q])) ((f b fun q=>a (by simp [q])).trans z);rcases aah.mp a with rfl|a
  ·exact ⟨h5,h6⟩
  ·cases aak.mp a;exact ⟨t6,t7⟩
set_option tactic.hygienic true in
def Q0 {h:ZI} {f:Obj->Obj} (e:h.get? a=some o) (j:f o=o):h.update a f=h:=by
 obtain ⟨b,l⟩:=h;have c:b[a]?=some o:=by
  unfold Heap.get? at e;dsimp only at e;split at e
  ·cases e
  ·exact e
 show (⟨b.modify a f,l⟩:ZI)=⟨b,l⟩;congr 1;obtain ⟨d,g⟩:=abi.mp c;refine Array.ext (by simp) fun i m n=>?_;rw [Array.getElem_modify];split
 ·rename_i q;subst q;rw [g,j]
 ·rfl
def Inv.drop {r:St} (I:Inv X e r H s) (i:Nat):Inv X e (r.set i none) H s:=by
 obtain ⟨ok,o,b,c,⟨m,p,q⟩,cell,free,a,f,g,len⟩:=I;refine ⟨ok,o,b,c,⟨m,p,fun j x v l d n=>?_⟩,cell,free,a,f,g,by simpa using len⟩;by_cases h:j=i
 ·subst h;rw [ac8] at d;split at d <;> simp_all
 ·rw [abV (aas h)] at d;exact q j x v l d n
def sX {X:Cx} {σ:St} {Q:Unit->Shared->Prop} (I:Inv X dR σ H s) (hN:X.N.Nodup) (L:X.N[i]?=some x) (f:X.env.scope.names.lookup x=some .local)
 (h:∀ Y,Inv X dR (σ.set i none) H Y->Q () Y):wpAny M A (do bindName X.env x .none;unbindBehindTheSuite X.env x U) Q E s:=by
 have D:(X.env.scope.kind == .class || (X.env.scope.kind == .module && X.env.locals != X.env.globals))=false:=by rw [I.ok.kind];rfl
 have g:i<σ.length:=by rw [I.len];exact (aaQ.mp L).1
 refine aaa (wpAny_bindName (n_ I hN L (.inl f) (v:=.non) (u:=.none) rfl (fun s1 C=>?_) (.inr f)));obtain ⟨m,hn,hl⟩:=id C.loc;obtain ⟨u,_,lk⟩:=hl i x .non L (by rw [acl g]) (.inl f);have hv:m x=some u:=by
  rcases lk with ⟨_,z⟩|⟨k,_⟩
  ·exact z
  ·unfold Env.kindOf at k;rw [f] at k;rcases k with k|k <;> cases k
 unfold unbindBehindTheSuite;refine wpAny_onRaise (wpAny_unbindName_local f hn hv D fun h' u' N l=>?_);have Z:=C.drop i;rw [List.set_set] at Z;obtain ⟨ok,os,F,a,⟨m2,aa,ab⟩,cell,free,w,R,S,len⟩:=id Z;obtain ⟨oL,_,_,ac,_⟩:=id hn;have r:∀ b o,X.s₀.heap.get? b=some o->b≠X.env.locals:=fun b o e=>aal (aar (aaf e) ok.above);refine h _ ⟨ok,os,F,⟨fun b o e n O f=>?_,fun b o e n O f=>?_,a.free,fun b o e f=>?_,a.tups,a.frzs,a.tbls⟩,⟨_,N,fun j y v' B G e3=>?_⟩,fun y c e=>?_,free,w,fun p hp=>?_,fun b ob e=>?_,len⟩
 ·exact (l.2 b (r b o e)).trans (a.keep b o e n O f)
 ·obtain ⟨sl,B⟩:=a.slot b o e n O f;exact ⟨sl,(l.2 b (r b o e)).trans B⟩
 ·obtain ⟨o',B⟩:=a.there b o e f;exact ⟨o',(l.2 b (r b o e)).trans B⟩
 ·have P:j≠i:=fun q=>by subst q;rw [acl g] at G;cases G
  rw [abV (aas P)] at G;obtain ⟨T,r',q⟩:=hl j y v' B (by rw [abV (aas P)];exact G) e3;refine ⟨T,r',?_⟩;rcases q with ⟨k,e⟩|⟨k,c,e,z⟩
  ·refine .inl ⟨k,?_⟩;have:y≠x:=fun e=>P (pP hN B (e ▸ L));simp [this,e]
  ·exact .inr ⟨k,c,e,z.sameBut l (C.cne y c e)⟩
 ·obtain ⟨W,z⟩:=C.cell y c e;exact ⟨W,z.sameBut l (C.cne y c e)⟩
 ·obtain ⟨e,n,ne,nf,d⟩:=R p hp;exact ⟨(l.2 p.1 ne).trans e,n,ne,nf,d⟩
 ·refine (S b ob e).stay (fun c W J q=>(l.2 c ?_).trans q) (fun _ q=>q) fun _ _ q=>q;rintro rfl;rcases J with rfl|J
  ·rw [free] at e;cases e
  ·rw [free] at J;cases J
set_option tactic.hygienic true in
def Bd {s L:Zp} {Q:Unit->Shared->Prop} (x:kh s.heap H L.heap e cls dd) (h:Q () s):wpAny M A (setFlight (.ref e) none) Q E s:=by
 obtain ⟨B,vs,b,p,C,j,D,F,g⟩:=x;unfold setFlight;rcases g with g|⟨T,y,a,z,G,m,n,o,I,J⟩
 ·refine aaa (aaT b j g ?_);rw [aab (by decide)];exact aad h
 ·refine aaa (aaT b j z ?_);rw [aac (show (Value.ref T != Value.none)=true by simp)];refine abr m n (abi.mp o).1 ?_;have:s.heap.update T (Obj.mapFields (·.setIfInBounds 3 ((none:YA).elim Value.none fun f=>rawInt f)))=s.heap:=by
   refine Q0 m ?_;obtain ⟨c,d,r,l⟩:=y;cases (show r=.fields a from n);show (⟨c,d,.fields (a.setIfInBounds 3 .none),l⟩:Obj)=⟨c,d,.fields a,l⟩;have:a.setIfInBounds 3 .none=a:=by
    obtain ⟨v,w⟩:=abi.mp o;refine Array.ext (by simp) fun i b p=>?_;rw [Array.getElem_setIfInBounds];split
    ·rename_i q;subst q;exact w.symm
    ·rfl
   rw [this]
  rw [this];exact h
def Jo (X:Cx) (a:Zl) (b:YI):Cx:={ X with A:=X.A.mark (some (.ref a)),calm:=false,pn:=X.pn++b,xe:=fun _ _=>False }
def Cx.Ok.into (ok:X.Ok):(Jo X a b).Ok:=
 ⟨ok.mod,ok.kind,ok.glob,ok.blt,ok.above,ok.inj,ok.has,ok.cab,(fun h=>nomatch h),ok.frames,ok.stk,ok.exf,ok.bs,ok.bsz,ok.noex,ok.exfs,ok.funs,ok.frf⟩
def Inv.into (I:Inv X d e H s) (c:∀ p∈a,s.heap.get? p.1=some p.2/\H p.1=none/\p.1≠X.env.locals/\p.1∉X.fs/\∀ v,p.2.data≠.cell v):Inv (Jo X b a) d e H s:=by
 refine ⟨I.ok.into,I.os,I.bare,I.base,I.loc,I.cell,I.free,I.freeC,fun p h=>?_,I.hok,I.len⟩;rcases aam.mp h with h|h
 ·rcases aam.mp h with h|h
  ·exact I.pin p (aaG _ h)
  ·exact c p h
 ·exact I.pin p (aau _ h)
def Inv.outof (I:Inv (Jo X a b) c d H s) (ok:X.Ok):Inv X c d H s:=by
 refine ⟨ok,I.os,I.bare,I.base,I.loc,I.cell,I.free,I.freeC,fun p h=>?_,I.hok,I.len⟩;rcases aam.mp h with h|h
 ·exact I.pin p (aaG _ (aaG _ h))
 ·exact I.pin p (aau _ h)
noncomputable def Inv.handle (E:Inv X O R S P) (I:Inv X O Q H s) (x:kh s.heap H P.heap e cls dd):∃ r a,(e,a)∈r/\a.cls=cls/\a.dict=dd/\(∃ vs,a.data=.fields vs)/\Inv (Jo X e r) O Q H s/\∀ {c g h},Inv (Jo X e r) O c g h->kh h.heap g P.heap e cls dd:=by
 obtain ⟨a,vs,z,j,l,d,m,A,w⟩:=x;have new:∀ T o vs,P.heap.get? T=none->s.heap.get? T=some o->H T=none->o.data=.fields vs->s.heap.get? T=some o/\H T=none/\T≠X.env.locals/\T∉X.fs/\∀ v,o.data≠.cell v:=fun T o vs y b F hd=>by
  refine ⟨b,F,?_,fun q=>?_,fun v q=>by rw [hd] at q;cases q⟩
  ·rintro rfl;obtain ⟨_,⟨o,_,_,b,_⟩,_⟩:=E.loc;rw [y] at b;cases b
  ·obtain ⟨_,o,b,_⟩:=E.funs.mem q;rw [y] at b;cases b
 rcases w with w|⟨T,n,B,G,J,L,C,M,D,N⟩
 ·refine ⟨[(e,a)],a,aak.mpr rfl,j,l,⟨_,d⟩,I.into fun p f=>?_,fun {c g h} i=>?_⟩
  ·cases aak.mp f;exact new e a vs m z A d
  ·have p:=i.pin (e,a) (aaG _ (aau _ (aak.mpr rfl)));exact ⟨a,vs,p.1,j,l,d,m,p.2.1,.inl w⟩
 ·refine ⟨[(e,a),(T,n)],a,aao,j,l,⟨_,d⟩,I.into fun p f=>?_,fun {c g h} i=>?_⟩
  ·rcases aah.mp f with rfl|f
   ·exact new e a vs m z A d
   ·cases aak.mp f;exact new T n B D L N C
  ·have p:=i.pin (e,a) (aaG _ (aau _ aao));have q:=i.pin (T,n) (aaG _ (aau _ (aan _ (aak.mpr rfl))));exact ⟨a,vs,p.1,j,l,d,m,p.2.1,.inr ⟨T,n,B,G,J,q.1,C,M,D,q.2.1⟩⟩
def Ew {s:Zp} {K:Zs} {Q:Bool->Shared->Prop} {n:Obj} (c:K.In s.heap) (x:s.heap.get? e=some n) (i:n.cls=.ref j) (o:nW K C B a) (y:mroIn K j (.ref C)=some b) (h:Q b s) :
 wpAny (model P w) A (excMatches (.ref e) (.ref C)) Q E s:=by
 have Y:=oJ (M:=model P w) c o.mks;obtain ⟨⟨oc,od,cd,z,v,_,_,_⟩,_,_,_,_,l,_,_,_,m⟩:=Y;have p:Looks (model P w) s.heap (typeOf (.ref e)) (.ref j):=i ▸ (Looks.ld x).andThen .now;have q:Looks (model P w) s.heap (typeOf (.ref C)) (.type "type"):=looks_typeIn c o.ty;have r:Looks (model P w) s.heap (isSubtype (.ref j) (.ref C)) b:=looks_mroIn c y;have f:=tc_notTuple;obtain ⟨D,g,d,tk,F⟩:=s;unfold excMatches
 repeat (first|with_reducible refine aca v ?_|with_reducible refine l.at ?_|with_reducible refine r.at ?_|with_reducible refine m.at ?_|with_reducible refine p.at ?_|with_reducible refine q.at ?_|wp_step)
 cases b <;> (wp_walk;exact h)
abbrev Vz:=Ends->Addr->Option Addr->St->Hp->Prop
def PH (X:Cx) (h:List ExceptHandler) (i:Vz):Prop:=
 ∀ (a:YI) (c:Zp) (b:St) (g:Hp) (s:Zp) (d:St) (H:Hp) (D:Ends) (e f:Zl) (dd:YA),Inv X a b g c->Inv X a d H s->kh s.heap H c.heap e (.ref f) dd->i D f dd d H->wpAny (model X.prog X.w) X.A (handleBy (.ref e) X.env h) (SP X a D) X.xe s
def Ho (i:Nat) (D:Ends):Ends:=⟨fun a H=>D.nx (a.set i none) H,D.rt,fun a H=>D.bk (a.set i none) H,fun a H=>D.ct (a.set i none) H⟩
noncomputable def Uo (K:Zs) (C:Zl) (B a:String) (i:Nat) (f:Addr->Addr->Option Addr->TS) (g:Vz):Vz:=fun D c dd d H=>nW K C B a/\∃ b,mroIn K c (.ref C)=some b/\if b then ∀ e,f e c dd (Ho i D) (d.set i (some (.ref e))) H else g D c dd d H
def Ru:PH X [] (fun _ _ _ _ _=>False):=fun _ _ _ _ _ _ _ _ _ _ _ _ _ _ h=>h.elim
theorem wY {X:Cx} {t:ZO} {n:Str} {T:Stmt} {j:List Stmt} {P:Pos} {rest:List ExceptHandler} {C:Zl} {B newId:String} {i:Nat} {U:Addr->Addr->Option Addr->TS} {W:Vz} (F:X.N.Nodup) (G:X.N[i]?=some n) (A:X.env.scope.names.lookup n=some .local)
 (ht:∀ a e,PE (Jo X a e) t (tC (.ref C))) (hb:∀ a m e E dd,(a,m)∈e->m.cls=.ref E->m.dict=dd->(∃ vs,m.data=.fields vs)->wJ (Jo X a e) (T::j) (U a E dd)) (hr:PH X rest W) :
 PH X (.ExceptHandler (some t) (some n) (T::j) P::rest) (Uo X.K C B newId i U W):=by
 intro d s0 O H0 s R H D a E dd S I x h;obtain ⟨XC,b,hm,hk⟩:=h;obtain ⟨e,m,g,Q,hd,M,IH,back⟩:=S.handle I x;refine wpAny_handleBy_cons (codeAny_handlers_test (aat (ht a e d s R H (fun v J=>v=.ref C/\J=H) IH ⟨rfl,rfl⟩) (fun c Y z=>?_) fun _ _ z=>z.elim)) (by intro q;cases q);obtain ⟨v,J,y,r,rfl,rfl⟩:=z;cases (show c=Value.ref C from r);have p:=y.pin (a,m) (aaG _ (aau _ g));refine Ew y.kIn p.1 Q XC hm ?_;cases b with
 |false=>exact hr d s0 O H0 Y R J D a E dd S (y.outof I.ok) (back y) hk
 | true=>
   refine codeAny_handlers_suite_as (Bd (back y) (n_ (X:=Jo X a e) y F G (.inl A) (v:=.ref a) rfl (fun Z I2=>aat (hb a m e E dd g Q hd M d Z _ _ (Ho i D) I2 (hk a)) (fun f s3 z=>?_) fun _ _ z=>z.elim) (.inr A)));show wpAny _ X.A _ _ X.xe s3;cases f with
   | next=>obtain ⟨o,N,w,q⟩:=z;exact sX (w.outof I.ok) F G A fun L l=>⟨_,_,l,q⟩
   | brk=>obtain ⟨o,N,w,q⟩:=z;exact sX (w.outof I.ok) F G A fun L l=>⟨_,_,l,q⟩
   | cont=>obtain ⟨o,N,w,q⟩:=z;exact sX (w.outof I.ok) F G A fun L l=>⟨_,_,l,q⟩
   | ret u=>obtain ⟨v,o,N,w,r',q⟩:=z;exact sX (w.outof I.ok) F G A fun L l=>⟨v,_,_,l,r',q⟩
noncomputable def Jf (X:Cx) (a:YI) (f:Zp) (W:Addr->Option Addr->St->Hp->Prop):Value->Shared->Prop:=fun v s=>∃ c d dd e H,v=.ref c/\Inv X a e H s/\(∀ b o,f.heap.get? b=some o->∃ g,s.heap.get? b=some g)/\kh s.heap H f.heap c (.ref d) dd/\W d dd e H
abbrev Z4:=Ends->(Addr->Option Addr->St->Hp->Prop)->St->Hp->Prop
def Zn (X:Cx) (c:List Stmt) (t:Z4):Prop:=
 ∀ (a:YI) (s:Zp) (b:St) (H:Hp) (D:Ends) (W:Addr->Option Addr->St->Hp->Prop),Inv X a b H s->t D W b H->wpAny (model X.prog X.w) X.A (execs c X.env) (SP X a D) (Jf X a s W) s
def X8 (t:Z4) (e:Vz):TS:=fun D b H=>t D (fun c dd a d=>e D c dd a d) b H
def R0 (g:X.stack=X.env::X.outer) (i:X.env.frame=some X.env.locals) (j:X.ex=[]) (E:Zn X b t) (F:PH X (m::n) o):PS X (.Try b (m::n) [] [] e) (X8 t o):=by
 intro a s l H D I h;refine wpAny_Try_except (aat (E a s l H D _ I h) (fun f p z=>?_) fun v p z=>?_)
 ·cases f with
  |next=>exact abW z
  |brk=>exact z
  |cont=>exact z
  |ret u=>exact z
 ·obtain ⟨y,A,dd,c,B,rfl,C,d,x,q⟩:=z;refine Qd I C g i I.ok.frames j d x fun G r w=>F a s l H _ c B D y A dd I w r q
structure Thunk (P:ZB) (w:ZE) (K:Zs) (mg:ZY) (base:ZI) (g:ZI) (H₀:Hp) (fr:YE) (k:Nat) (f:Zl) (H:Hp) (Qv:VK) (Ev:XK):Prop where
 fn:∀ s:Shared,nJ P w H s.heap->∃ fo fd,s.heap.get? f=some fo/\fo.data=.func fd
 run:∀ (A:ZN) (outer:List Env) (s:Zp),eX k A->ye P w K mg base A outer s H->(∀ b o,g.get? b=some o->H₀ b=none->b∉fr->s.heap.get? b=some o)->codeAny (model P w) A (.call (.ref f) ⟨[],[]⟩) (CR (jt P w) outer P w H s Qv Ev) s
noncomputable def keeps_F (h:ZI) (z:∃ a b,h.get? f=some a/\a.data=.func b):∃ k,(k=Keeper.frame∨k=Keeper.machine∨k=Keeper.boundFrame)/\Looks M h (keeperOf (.ref f)) k:=by obtain ⟨a,b,e,d⟩:=z;obtain ⟨c,i,g,j⟩:=a;cases (show g=.func b from d);exact ⟨.frame,.inl rfl,(Looks.ld (part:=none) e).andThen .now⟩
noncomputable def Sg (X:Cx) (k i j:Nat):Z4:=fun D W b H=>∃ f c d,b[j]?=some (some (.ref f))/\Thunk X.prog X.w X.K X.mg X.base X.s₀.heap X.H₀ X.fs k f H c d/\(∀ v a,c v a->D.nx (b.set i (some v)) a)/\∀ cls dd a,d cls dd a->∃ e,cls=.ref e/\W e dd b a
noncomputable def Fw (hN:X.N.Nodup) (hi:X.N[i]?=some x) (hx:Loc X.env.scope x) (hj:X.N[j]?=some a) (ha:Tq X.env.scope a) (Y:X.ex=[]) (hr:eX k X.A) (hs:swapsWith (.Call (.Name a L) [] [] U) (some (.Name x S)) B.line X.env=pure false:=by rfl) (hf:X.fn x=true∨X.env.scope.names.lookup x=some .local:=by first|exact .inl rfl|exact .inr rfl|assumption)
 (hd:(a == ("__debug__" : Str))=false:=by decide) (Z:(a == ("__classdict__" : Str))=false:=by decide) :
 Zn X [.Assign [.Name x S] (.Call (.Name a L) [] [] U) B] (Sg X k i j):=by
 intro d s J H D W I h;obtain ⟨f,O,Ev,e,T,hv,he⟩:=h;have kp:∀ b o,X.s₀.heap.get? b=some o->X.H₀ b=none->b∉X.fs->s.heap.get? b=some o:=fun b o z n hb=>I.base.keep b o z n hb (by rw [Y];simp);have aa:∀ t:Sem Flow,wpAny (model X.prog X.w) X.A t (fun f C=>f=.next/\∃ v p,Inv X d (J.set i (some v)) p C/\O v p) (Jf X d s W) s->wpAny (model X.prog X.w) X.A t (SP X d D) (Jf X d s W) s:=fun t ht=>gj ht fun f C ⟨q,v,p,E,z⟩=>by subst q;exact ⟨_,_,E,hv _ _ z⟩
 have one:wpAny (model X.prog X.w) X.A (exec (.Assign [.Name x S] (.Call (.Name a L) [] [] U) B) X.env) (fun f C=>f=.next/\∃ v p,Inv X d (J.set i (some v)) p C/\O v p) (Jf X d s W) s:=by
  refine wpAny_Assign_Name (gj (Q:=EP X d J O) ?_ fun v C ⟨y,H1,E,r1,q1⟩=>n_ E hN hi hx r1 (fun s2 I2=>⟨rfl,y,H1,I2,q1⟩) hf) hs;refine aa9 ?_;have A:∀ M:Value->Shared->Prop,M (.ref f) s->wpAny (model X.prog X.w) X.A (eval (.Name a L) X.env) M (Jf X d s W) s:=fun M w=>by
   obtain ⟨m,hn,hl⟩:=I.loc;obtain ⟨u,r,l⟩:=hl j a (.ref f) hj e ha;cases (show u=Value.ref f from r);rcases l with ⟨hk,hm⟩|⟨hk,c,hc,g⟩
   ·exact abo (acI I.ok.kind hk hn hm w) hd
   ·rcases hk with hk|hk
    ·exact abo (acJ I.ok.kind hk hc g w) hd
    ·exact abo (acK I.ok.kind hk hc g w Z) hd
  refine A _ ?_;obtain ⟨G,N,g1,g2⟩:=T.fn s I.hok;refine callWith_of (P:=fun h=>∃ G N,h.get? f=some G/\G.data=.func N) rfl keeps_F (evalArgs_nil3 ⟨⟨G,N,g1,g2⟩,?_⟩);refine aa8 (codeAny_mono (T.run X.A X.stack s hr I.env0 kp) fun r s' w=>?_);cases r with
  | error ev=>obtain ⟨ea,cls,dd,p,rfl,os,F,un,R,xo,q⟩:=w;obtain ⟨Ce,rfl,z⟩:=he _ _ _ q;refine ⟨ea,Ce,dd,J,p,rfl,I.call' os un R F (fun b z=>absurd z (by simp)),fun b o z=>un.there b o z (by simp),xo,z⟩
  | ok fl=>
    cases fl with
    |ret u=>exact I.after w
    |next=>exact False.elim w
    |brk=>exact False.elim w
    |cont=>exact False.elim w
 refine wpAny_execs_cons (gj one fun fl C z=>?_);obtain ⟨rfl,v,p,E,q⟩:=z;exact abW ⟨_,_,E,hv _ _ q⟩
structure FZ (K:Zs) (C:Zl) (f:Str):Prop where
 ga:findIn K (.ref C) "__getattribute__" = some (some (.builtin "BaseException.__getattribute__"))
 gh:findIn K (.ref C) "__getattr__" = some none
 hd:hasDictIn K C=true
 na:findIn K (.ref C) f=some none
 be:mroIn K C (.type "BaseException")=some true
noncomputable def Yh {s:Zp} {K:Zs} {Q:ZU} (X:K.In s.heap) (I:InstAt s.heap x L C od) (G:FZ K C H) (q:findObj K C od H=some (.value v)) (z:handedIn v=true) (h:Q v { s with toks:=s.toks+1 }):wpAny (model D w) A (getAttr (.ref x) H J) Q E s:=by
 obtain ⟨b,g,d,t,j⟩:=s;have L0:=I.type (M:=model D w);have l:=looks_findIn (M:=model D w) X G.ga;have m:=looks_findIn (M:=model D w) X G.gh;have o:=looks_find (M:=model D w) X I q;have p:Looks (model D w) b (isInstance (.ref x) (.type "BaseException")) true:=L0.andThen (looks_mroIn X G.be);have B:=F.excAttr_ValueError.ga.bind (.ref x);have y:(J && onTheHeap (Value.builtin "BaseException.__getattribute__"))=false:=by cases J <;> rfl
 have c:(Value.builtin "BaseException.__getattribute__" == Value.builtin "object.__getattribute__")=false:=by ext
 have e:(onTheHeap (Value.ref C) && Value.builtin "BaseException.__getattribute__" == Value.builtin "object.__getattribute__")=false:=by rw [c];rfl
 unfold getAttr getAttrBy;refine aaa (wpAny_mkText (aaS (aaa (L0.at (aaa (l.at ?_))))));dsimp only;rw [aab (by rw [e];decide)];unfold getAttrByItsOwn hookBefore;rw [aac (show onTheHeap (Value.ref C)=true from rfl)];refine aaa (m.at ?_);have f:∀ R:Result->Shared->Prop,R (.ok (.ret v)) ⟨b,g,d,t+1,j⟩->codeAny (model D w) A (.call (.builtin "BaseException.__getattribute__") ⟨[.ref x,.str H t],[]⟩) R ⟨b,g,d,t+1,j⟩:=fun R r=>by refine codeAny_call_builtin F.excAttr_ValueError.ga.plain F.entry_bexc_ga (check_slot (i:="BaseException.__getattribute__") (owner:="BaseException") (n:="__getattribute__") (by ext) (by ext) p (F.args_bexc_ga _ _) ?_);refine aaa (aad (aaa (aad (aaa (L0.at (aaa (o.at ?_)))))));exact aad r
 have a:wpAny (model D w) A (handedOut v) Q E ⟨b,g,d,t+1,j⟩:=by rw [handedOut_of z];exact aad h
 clear L0 l m o p q I G X
 repeat (any_goals (first|assumption|wp_step))
 exact f _ a
def Wb (K:Zs) (d C:Zl) (dd:YA) (e:TE) (f:Str):TE:=fun c H Q=>e c H fun x b=>∃ a fs v,x=.ref d/\dd=some a/\b a=some (uN a fs)/\FZ K C f/\fs.lookup f=some v/\Q v b
noncomputable def Qn (M:(T,S)∈X.pn) (N:S.cls=.ref C) (b:S.dict=dd) (hd:∃ vs,S.data=.fields vs) (O:PE X e W) (P:attributeBase e f X.env (eval e X.env)=eval e X.env:=by rfl):PE X (.Attribute e f U) (Wb X.K T C dd W f):=by intro a s L H Q I h;refine Dp P (gj (O a s L H _ I h) fun u i ⟨x,j,c,m,n,fs,v,w,y,z,G,l,q⟩=>?_);subst w;subst y;obtain rfl:u=Value.ref T:=m;have p:=(c.pin (T,S) (aaG _ M)).1;obtain ⟨⟨A,B,r,R⟩,_,_⟩:=c.hok n _ z;obtain ⟨u,D,g⟩:=lQ.some_of (v:=v) (o:=A f) (by rw [← l];exact r f);obtain ⟨od,E,F⟩:=qH B;obtain ⟨vs,d⟩:=hd;have J:InstAt i.heap T S C (some od):=⟨p,N,by unfold notCls;rw [d],by rw [b];exact E⟩;exact Yh c.kIn J G (findObj_own G.hd G.na rfl (by rw [F,D])) (wj g) ⟨v,j,c.tok _,g,q⟩
end L2
namespace L2
open PySem PySem.Spec PyProof.Rows
structure sZ (P:ZB) (w:ZE) (K:Zs) (mg:ZY) (base:ZI) (CX:rK) (k:Nat) (f:Zl) (fd:ZA) (ps:Y1) (sp:Shared->List Env->Sp):Prop where
 len:∀ s outer vs H Q E,sp s outer vs H Q E->vs.length=ps.length
 run:∀ (A:ZN) (outer:List Env) (s:Zp) (H:Hp) (args:Args) (us:Y2) (vs:List V) (Q:VK) (E:XK),eX k A->ye P w K mg base A outer s H->BindsTo s fd args (ps.zip us)->Vals vs us->sp s outer vs H Q E->
  codeAny (model P w) A (.call (.ref f) args) (CR CX outer P w H s Q E) s
theorem Rb {M:rK} {P:ZB} {w:ZE} {K:Zs} {O:ZY} {h:ZI} {k:Nat} {f:Zl} {p d:Str} {i:Arguments} {j:List Stmt} {a:ZT} {dV kV L pm g ct oc:ZH} {an od:YA}
 {Y:YU} {N R:Y1} {Z:Shared->List Env->Sp} (lk:K.lookup f=some ⟨oc,od,.func (PySem.W.fnOf p d i j a dV kV L pm an g ct),Y⟩) (hcd:PySem.W.codeIn K g d=true) (S:dC N R a)
 (len:∀ s c vs H Q E,Z s c vs H Q E->vs.length=R.length)
 (B:∀ (A:ZN) (c:List Env) (s:Zp) (H:Hp) (vs:List V) (Q:VK) (E:XK),eX k (A.deeper (envOfC d a s.heap.objs.size f g))->Z s c vs H Q E-> ∃ t,wJ (i_ M P w K O h N d a f g A c s H E) j t/\t { nx:=fun _ m=>Q .non m,rt:=Q } (start N vs) H) :
 sZ P w K O h M (k+1) f (PySem.W.fnOf p d i j a dV kV L pm an g ct) R Z:=by
 refine ⟨len,fun A c s H aa us vs Q E T D hb r F=>?_⟩;have hl:=len _ _ _ _ _ _ F;have KX:K.In s.heap:=D.mod.kin.keeps fun b o e=>(D.bs b o e).1;have X:s.heap.NoLimit:=D.mod.nolimit.keeps fun b o e=>(D.bs b o e).1;have z:∀ y∈R.zip us,a.names.lookup y.1=some .local∨(a.names.lookup y.1=some .cell/\((cellsFrom (s.heap.objs.size+1) a.names []).lookup y.1).isSome=true):=fun ⟨n,v⟩ hy=>by
  rcases S.par n (acn hy).1 with q|q
  ·exact .inl q
  ·exact .inr ⟨q,acU _ _ _ (.inl q)⟩
 refine codeAny_call_function T.depth (KX _ _ lk) rfl S.co S.gen rfl (PySem.W.codeRec_of KX hcd) (hb _ _ _ _ ?_);refine wpAny_newFunctionEnv_cells S.kind z fun env he s1 x=>?_;subst he;refine ⟨X.keeps x.toInCall.keep,codeAny_func ?_⟩;obtain ⟨t,ht,hq⟩:=B A c s H vs Q E (T.deeper _) F;have I:Inv (i_ M P w K O h N d a f g A c s H E) [] (start N vs) H s1:=vh S T.hd D hl r x;refine aat (ht [] s1 (start N vs) H _ I hq) (fun fl U C=>?_) fun e U C=>C;have G:∀ {l:St} {m:Hp} {v:V} {u:ZH},Inv (i_ M P w K O h N d a f g A c s H E) [] l m U->RelV v u->Q v m->CE c P w H s Q u U:=
  fun {l m v u} J W q=>⟨v,m,J.os,J.bare,J.base,J.hok,W,q⟩;cases fl with
 | ret u=>obtain ⟨v,l,m,J,W,q⟩:=C;exact G J W q
 | next=>obtain ⟨l,m,J,q⟩:=C;exact G (v:=V.non) (u:=Value.none) J rfl q
 | brk=>obtain ⟨_,_,_,q⟩:=C;exact False.elim q
 | cont=>obtain ⟨_,_,_,q⟩:=C;exact False.elim q
noncomputable def iM.okS {P:ZB} {w:ZE} {K:Zs} {B:ZY} {z:ZI} {l:rK} {x b:Str} {e:Stmt} {f:Zl} {m:ZA} {N i:Y1} {k:Nat} {j:Shared->List Env->Sp} (F:iM K x b e f m) (S:dC N i (b_ e)) (len:∀ s a vs H Q E,j s a vs H Q E->vs.length=i.length)
 (d:∀ (c:ZH) (A:ZN) (a:List Env) (s:Zp) (H:Hp) (vs:List V) (Q:VK) (E:XK),eX k (A.deeper (envOfC b (b_ e) s.heap.objs.size f c))->j s a vs H Q E-> ∃ t,wJ (i_ l P w K B z N b (b_ e) f c A a s H E) (dI e) t/\t { nx:=fun _ n=>Q .non n,rt:=Q } (start N vs) H):sZ P w K B z l (k+1) f m i j:=by
 obtain ⟨oc,od,kV,p,v,an,c,y,q,rfl,r,h⟩:=F.ex;exact Rb r h S len fun A a s H vs Q E o g=>d c A a s H vs Q E o g
def iM.ok1 {P:ZB} {w:ZE} {K:Zs} {B:ZY} {z:ZI} {l:rK} {x b:Str} {e:Stmt} {f:Zl} {m:ZA} {N i:Y1} {k:Nat} {j:Sp} (F:iM K x b e f m) (S:dC N i (b_ e)) (len:∀ vs H Q E,j vs H Q E->vs.length=i.length)
 (d:∀ (c:ZH) (A:ZN) (a:List Env) (s:Zp) (H:Hp) (vs:List V) (Q:VK) (E:XK),eX k (A.deeper (envOfC b (b_ e) s.heap.objs.size f c))->j vs H Q E-> ∃ t,wJ (i_ l P w K B z N b (b_ e) f c A a s H E) (dI e) t/\t { nx:=fun _ n=>Q .non n,rt:=Q } (start N vs) H):dw P w K B z l (k+1) f m i j:=by
 obtain ⟨oc,od,kV,p,v,an,c,y,q,rfl,r,h⟩:=F.ex;exact uT r h S len fun A a s H vs Q E o g=>d c A a s H vs Q E o g
noncomputable def xg (b:(h,j)∈i) (c:j.cls=.ref C) (a:j.dict=dd) (hd:∃ vs,j.data=.fields vs) (d:PE (Jo X h i) e m) (g:attributeBase e f X.env (eval e X.env)=eval e X.env:=by rfl):PE (Jo X h i) (.Attribute e f l) (Wb X.K h C dd m f):=
 Qn (X:=Jo X h i) (aau _ b) c a hd d g
open PySem.W
noncomputable def nO (c:Zl) (a:Str):HO:=.ext fun h=>h.CodeRec (.ref c) a
def Jy (x:h.CodeRec (.ref c) a):gr P w H h c (nO c a):=by obtain ⟨d,o,vs,t,e,g,r⟩:=id x;cases e;refine ⟨x,⟨o,g⟩,fun n p z k=>?_⟩;obtain ⟨d,f,b,i,j,l,m⟩:=z;cases j;exact ⟨c,f,b,i,rfl,k _ l,m⟩
noncomputable def lamO (f:Zl) (o:Obj):HO:=.ext fun h=>h.get? f=some o
def D_ (x:h.get? f=some o):gr P w H h f (lamO f o):=⟨x,⟨o,x⟩,fun a b z k=>k _ z⟩
def rT (P:ZB) (w:ZE) (K:Zs) (mg:ZY) (base:ZI) (N:Y1) (qual:Str) (scope:ZT) (f:Zl) (cd:ZH) (cl:YO) (A:ZN) (outer:List Env) (s:Zp) (H:Hp) (E:XK):Cx where
 prog:=P
 w:=w
 K:=K
 mg:=mg
 base:=base
 A:=A.deeper (envX qual scope s.heap.objs.size f cd cl)
 N:=N
 s₀:=s
 H₀:=H
 env:=envX qual scope s.heap.objs.size f cd cl
 outer:=outer
 stack:=envX qual scope s.heap.objs.size f cd cl::outer
 ex:=[]
 calm:=true
 fn:=fun _=>false
 pn:=[]
 xe:=fun e s'=>wpAny (model P w) (A.deeper (envX qual scope s.heap.objs.size f cd cl)) (leaving (envX qual scope s.heap.objs.size f cd cl) e) (fun _ s''=>jt P w outer H s E e s'') (fun e' s''=>jt P w outer H s E e' s'') s'
section
variable {P:ZB} {w:ZE} {K:Zs} {mg:ZY} {base:ZI} {N:Y1} {qual:Str} {scope:ZT} {f:Zl} {cd:ZH} {cl:YO} {A:ZN} {outer:List Env} {s:Zp} {H:Hp} {E:XK}
def ZQ (I:Inv (rT P w K mg base N qual scope f cd cl A outer s H E) dR σ H' s') (x:kh s'.heap H' s.heap e cls dd) (h:E cls dd H') :
 (rT P w K mg base N qual scope f cd cl A outer s H E).xe (.ref e) s':=
 leaveX I rfl rfl I.ok.frames rfl x fun h' x' u k=>⟨e,cls,dd,H',rfl,I.os,I.bare,u,k,x',h⟩
theorem nQ (y:∀ cls dd d,j cls dd d->E cls dd d):gJ (jt P w) (rT P w K mg base N qual scope f cd cl A outer s H E) j:=by
 intro c p D F e r I h;obtain ⟨B,cls,dd,d,rfl,n,a,un,g,x,q⟩:=h;have m:Inv (rT P w K mg base N qual scope f cd cl A outer s H E) c p d r:=I.call' (ch:=[]) n un g a (fun b z=>absurd z (by simp));refine ZQ m (x.mono fun b l=>?_) (y _ _ _ q);cases z:s.heap.get? b with
 |none=>rfl
 | some o=>obtain ⟨C,i⟩:=I.base.there b o z (by intro v;cases v);rw [l] at i;cases i
structure Wx (scope:ZT) (cl:YO) (N:Y1) (g:ZI) (H:Hp) (fr:YE) (σ:St):Prop where
 inj:∀ x y c,cl.lookup x=some c->cl.lookup y=some c->x=y
 has:∀ x,(scope.names.lookup x=some .cell∨scope.names.lookup x=some .free)->∃ c,cl.lookup x=some c
 cell:∀ x c,cl.lookup x=some c->(∃ v,g.IsCell c v)/\H c=none/\c∉fr
 val:∀ (i:Nat) x v,N[i]?=some x->σ[i]?=some (some v)->scope.names.lookup x=some .free/\∃ c u,cl.lookup x=some c/\RelV v u/\g.IsCell c (some u)
 len:σ.length=N.length
def Ge (ho:H f=some (lamO f (kla_obj name qual params body scope cl pm c' ctv)))
 (hc:H c'=some (nO c' qual)) (C:Wx scope cl N g H fr σ) (hbind:bindArgs (kla_fn name qual params body scope cl pm (.ref c') ctv) ⟨[],[]⟩=pure [])
 (hco:scope.isCoroutine=false) (hgen:scope.isGenerator=false) (hk:scope.kind=.function) (hcell:∀ x∈scope.names,x.2≠.cell)
 (hb:∀ (A:ZN) (outer:List Env) (s:Zp),eX k (A.deeper (envX qual scope s.heap.objs.size f (.ref c') cl))->PE (rT P w K mg base N qual scope f (.ref c') cl A outer s H E) body t) (hq:t σ H Qv):Thunk P w K mg base g H fr (k+1) f H Qv E:=by
 refine ⟨fun s hok=>⟨_,_,(hok f _ ho).1,rfl⟩,fun A outer s hr e0 kp=>?_⟩;have lim:s.heap.NoLimit:=e0.mod.nolimit.keeps fun b o e=>(e0.bs b o e).1;refine kla_callFunE hr.depth (e0.hok f _ ho).1 rfl hco hgen rfl (e0.hok c' _ hc).1 ?_;rw [hbind];refine aad (wpAny_newFunctionEnv hcell (fun y hy=>absurd hy (by simp)) (fun h₁ hns hsb=>⟨lim.fresh _ hsb,?_⟩) hk);show codeAny _ _ (.expr body (envX qual scope s.heap.objs.size f (.ref c') cl)) _ _;have hk₁:∀ b o,s.heap.get? b=some o->h₁.get? b=some o:=fun b o e=>hsb.extBut b o (aal (aaf e)) (aai _ e);have isC:∀ x c v,cl.lookup x=some c->g.IsCell c v->h₁.IsCell c v:=fun x c v e z=>by obtain ⟨_,h2,h3⟩:=C.cell x c e;obtain ⟨o,ho,hd⟩:=z;exact ⟨o,hk₁ _ _ (kp _ _ ho h2 h3),hd⟩
 have noA:∀ b:Addr,b∉([]:YE):=fun b z=>absurd z (by simp);have I:Inv (rT P w K mg base N qual scope f (.ref c') cl A outer s H E) [] σ H { s with heap:=h₁,toks:=s.toks+0 }:=by
  refine ⟨⟨e0.mod,hk,rfl,rfl,aae _,C.inj,fun y hy=>C.has y hy,fun y c z=>absurd z (by simp [rT]),fun _=>hr.hd,Around.frames_deeper e0.frames,.inr ⟨rfl,rfl⟩,fun b z=>absurd z (noA b),e0.bs,e0.bsz,fun b _ _=>noA b,fun b z=>absurd z (noA b),e0.funs,e0.frf⟩,
   rfl,e0.bare,Un.kept hk₁,⟨_,hns,fun i y v h1 h2 h3=>?_⟩,fun y c h=>?_,e0.hok.fresh (aae _),fun y c h=>(C.cell y c h).2.1,fun p hp=>absurd (show p∈([]:YI) from hp) (by simp),e0.hok.kept hk₁,C.len⟩
  ·obtain ⟨fr',c,u,e,r,z⟩:=C.val i y v h1 h2;exact ⟨u,r,.inr ⟨.inr fr',c,e,isC y c _ e z⟩⟩
  ·obtain ⟨⟨v,z⟩,_⟩:=C.cell y c h;exact ⟨v,isC y c v h z⟩
 exact kla_codeExpr (aat (hb A outer s (hr.deeper _) [] _ σ H Qv I hq) (fun u s' ⟨v,H',J,rv,q⟩=>⟨v,H',J.os,J.bare,J.base,J.hok,rv,q⟩) fun _ _ y=>y)
end
section
variable {X:Cx} {dR:YI} {σ:St} {H:Hp} {s:Zp} {h':ZI} {P c':Zl} {ps more:Y3} {qual:Str}
def Inv.grow (I:Inv X dR σ H s) (g:H P=some (.tbl ps)) (l:Heap.ExtBut P s.heap h') (h:s.heap.objs.size≤c') (p:h'.CodeRec (.ref c') qual) (x:h'.get? P=some { cls:=.none,data:=.fields (ps++more) }) :
 Inv X dR σ (upd (upd H P (.tbl (ps++more))) c' (nO c' qual)) { s with heap:=h',toks:=t' }:=by
 have j:P<s.heap.objs.size:=I.hok.lt g;have C:c'≠P:=fun q=>by subst q;exact absurd (aar j h) (aaN _)
 have lt:∀ b o,s.heap.get? b=some o->b≠c':=fun b o e q=>by subst q;exact absurd (aar (aaf e) h) (aaN _)
 have d:∀ b,H b=none->b≠P:=fun b e q=>by subst q;rw [g] at e;cases e
 have kp:∀ b o,s.heap.get? b=some o->H b=none->h'.get? b=some o:=fun b o e n=>l b o (d b n) e;have up:∀ b u,H b=some u->(∀ w,u≠.tbl w)->upd (upd H P (.tbl (ps++more))) c' (nO c' qual) b=some u:=fun b u e ne=>by
  have a:b≠c':=fun q=>by subst q;exact absurd (aar (I.hok.lt e) h) (aaN _)
  have f:b≠P:=fun q=>by subst q;rw [g] at e;exact ne _ (aaM e).symm
  rw [bK a,bK f];exact e
 refine I.stepN (ch:=[]) (g':=s.gens) (d':=s.drawn) (t':=t') (fun b y=>absurd y (by simp)) (fun b o _ _ _ e n=>kp b o e n) (fun b o _ _ _ e n=>⟨o.slots,kp b o e n⟩) (fun b o _ e n=>?_) (fun b o _ e=>?_) (fun b A e=>up b _ e (by intro _ q;cases q)) (fun b o u e=>up b _ e (by intro _ q;cases q)) (fun b w e=>?_) (fun m B=>?_) (fun b u e=>?_) I.bare
 ·rw [bK (lt b o e),bK (d b n)];exact n
 ·by_cases q:b=P
  ·subst q;exact ⟨_,x⟩
  ·exact ⟨o,l b o q e⟩
 ·have a:b≠c':=fun q=>by subst q;exact absurd (aar (I.hok.lt e) h) (aaN _)
  by_cases q:b=P
  ·subst q;rw [g] at e;cases e;exact ⟨more,by rw [bK a,a_]⟩
  ·exact ⟨#[],by rw [bK a,bK q,e];simp⟩
 ·obtain ⟨o,D,E,e,r⟩:=B;exact ⟨o,D,E,kp _ _ e I.free,r⟩
 ·by_cases a:b=c'
  ·subst a;rw [a_] at e;cases e;exact Jy p
  ·rw [bK a] at e;by_cases f:b=P
   ·subst f;rw [a_] at e;cases e;exact x
   ·rw [bK f] at e;refine (I.hok b u e).stay (fun c v i q=>l c v ?_ q) (fun c q=>up c _ q (by intro _ z;cases z)) fun c A q=>up c _ q (by intro _ z;cases z);rintro rfl;rcases i with rfl|z
    ·exact f rfl
    ·rw [g] at z;cases z
structure o9 (X:Cx) (c P:Zl):Prop where
 code:X.env.code=.ref c
 hd:CodeHd X.base c P
 bl:X.base.BuiltinsAt X.mg P
 gP:mainGlobals≠P
def Tf (H:Hp) (P:Zl) (d:Pos) (a:Str) (b:Zl) (e:Hp):Prop:=
 ∃ c,H P=some (.tbl c)/\((codeAmong d c.toList=none/\H b=none/\b≠P/\e=upd (upd H P (.tbl (c++#[rawInt d.line,rawInt d.col,.ref b]))) b (nO b a))∨(codeAmong d c.toList=some (.ref b)/\H b=some (nO b a)/\e=H))
def TabOk (H:Hp) (P:Zl) (d:Pos) (a:Str):Prop:=∃ b,H P=some (.tbl b)/\TriplesOk b.toList/\(codeAmong d b.toList=none∨∃ c,codeAmong d b.toList=some (.ref c)/\H c=some (nO c a))
noncomputable def JB (X:Cx) (P:Zl) (a:Arguments) (c:ZO) (b:ZT) (h:Pos) (i:YO):TE:=fun _ H Q=>TabOk H P h (X.env.qual++"<lambda>")/\∀ g d,Tf H P h (X.env.qual++"<lambda>") g d->∀ f e,d f=none->Q (.ref f) (upd d f (lamO f (kla_obj "<lambda>" (X.env.qual++"<lambda>") a c b i ((X.mg "__name__").getD .none) g e)))
def lg (T:o9 X c P) (x:defaultsOf d X.env=([],[])) (y:closureFor f X.env=pure R):PE X (.Lambda d i f A) (JB X P d i f A R):=by
 intro M s σ H Q I h;obtain ⟨⟨z,w,L,D⟩,h⟩:=h;refine kla_eval x ?_;have v:s.heap.get? P=some (tabObj z):=I.hok P _ w;have F:s.heap.Ns mainGlobals X.mg:=by obtain ⟨o,W,Y,e,r⟩:=I.ok.mod.glob;exact ⟨o,W,Y,I.bk _ _ e,r⟩
 have G:s.heap.BuiltinsAt X.mg P:=by obtain ⟨Z,o,b1,b2,b3,b4,b5,b6⟩:=T.bl;exact ⟨Z,o,b1,b2,b3,b4,I.bk _ _ b5,b6⟩
 rcases D with N|⟨m,O,E⟩
 ·refine kla_makeFunction (mg:=X.mg) y I.ok.glob F T.code (T.hd.keeps I.bk) v L N T.gP G fun m j g tk S l U n B=>?_;have J:=I.grow (t':=tk) w S l n B;have C:P<s.heap.objs.size:=I.hok.lt w;have fr:upd (upd H P (.tbl (z++#[rawInt A.line,rawInt A.col,.ref m]))) m (nO m (X.env.qual++"<lambda>")) g.objs.size=none:=J.hok.fresh (aae _);refine ⟨.ref g.objs.size,_,J.laid (a:=g.objs.size) (t':=tk) (fun b u e=>aai _ e) (aae _) (D_ (aav _ rfl)),rfl,h m _ ⟨z,w,.inl ⟨N,I.hok.fresh l,fun q=>?_,rfl⟩⟩ _ j fr⟩;subst q;exact absurd (aar C l) (aaN _)
 ·refine kla_makeFunctionHit (mg:=X.mg) y I.ok.glob F T.code (T.hd.keeps I.bk) v L O G fun j g tk hk p=>?_;have fr:H g.objs.size=none:=I.hok.fresh p;exact ⟨.ref g.objs.size,_,I.laid (a:=g.objs.size) (h':=g.push _) (t':=tk) (fun b u e=>aai _ (hk b u e)) p (D_ (aav _ rfl)),rfl,h m _ ⟨z,w,.inr ⟨O,E,rfl⟩⟩ _ j fr⟩
end
theorem Mr (F:sZ X.prog X.w X.K X.mg X.base w k f v p q) (m:eX k X.A) (n:Binds X.K v p []) (o:gJ w X E)
 (I:Inv X a g H s) (r:Vals vs b) (h:q s X.stack vs H Q E):wpAny (model X.prog X.w) X.A (call (.ref f) b) (EP X a g Q) X.xe s:=by
 have j:b.length=p.length:=by rw [← r.length];exact F.len _ _ _ _ _ _ h
 have d:=n s b I.kIn (by rw [aaO];exact j);rw [aaO] at d;refine aa8 (codeAny_mono (F.run X.A X.stack s H ⟨b,[]⟩ b vs Q E m I.env0 d r h) fun r i c=>?_);cases r with
 |error e=>exact o a g H s e i I c
 | ok l=>
   cases l with
   |ret u=>exact I.after c
   |next=>exact False.elim c
   |brk=>exact False.elim c
   |cont=>exact False.elim c
noncomputable def iW {X:Cx} {D:Shared->List Env->Sp} {t:TA} {r:St->List V->Hp->VK->Prop} (F:sZ X.prog X.w X.K X.mg X.base L k f J G D) (l:eX k X.A) (m:Gl X x) (n:X.mg x=some (.ref f)) (hk:keepIn X.K (.ref f)=true) (o:Binds X.K J G []) (v:gJ L X E)
 (d:∀ a b H s vs Q,Inv X a b H s->r b vs H Q->D s X.stack vs H Q E) (w:PA X (e::C) t) (g:(x == ("__debug__" : Str))=false:=by decide) (y:starEach (e::C) X.env=(false,eval e X.env)::starEach C X.env:=by rfl) (i:(backTo B (starEach C X.env)).any (·.1)=false:=by rfl) :
 PE X (.Call (.Name x p) (e::C) [] B) (fun b H Q=>t b H fun vs j=>r b vs j Q):=by
 intro a s b H Q I h;refine aa9 (kE I m n ?_ g);refine callWith_K (h₀:=X.base) I.ok.mod.kin hk (gj (w B a s b H _ I h) fun z A ⟨vs,j,c,r,q⟩=>⟨c.kIn,?_⟩) y i;exact Mr F l o v c r (d _ _ _ _ _ _ c q)
theorem lC {a:YO} (h:x∈a.map (·.1)):∃ c,a.lookup x=some c:=by
 induction a with
 |nil=>simp at h
 | cons q r d=>
   obtain ⟨y,c⟩:=q;rw [abc];by_cases e:(x == y)=true
   ·exact ⟨c,by rw [e]⟩
   ·have b:(x == y)=false:=by simpa using e
    rw [b];refine d ?_;rcases aah.mp h with z|z
    ·exact absurd (aaW.mpr z) e
    ·exact z
def vK (a:List Nat) (b:St):St:=a.map fun j=>(b[j]?).join
def LR {X:Cx} {s:Zp} {scope:ZT} {G:YO} {NL:Y1} {js:List Nat} (I:Inv X A B H s) (J:∀ p∈G,X.env.cells.lookup p.1=some p.2) (L:∀ x,X.fn x=true)
 (g:∀ p∈scope.names,(p.2=.cell∨p.2=.free)->p.1∈G.map (·.1)) (h:∀ x∈NL,scope.names.lookup x=some .free) (n:∀ x∈NL,X.env.scope.names.lookup x=some .cell) (N:NL.map some=js.map fun j=>X.N[j]?) (Y:X.stack=X.env::X.outer) (Z:X.env.frame=some X.env.locals) :
 Wx scope G NL s.heap H (frs X.stack) (vK js B):=by
 have sub:∀ x c,G.lookup x=some c->X.env.cells.lookup x=some c:=fun x c e=>J (x,c) (abb e);have w:js.length=NL.length:=by simpa using (aax List.length N).symm
 refine ⟨fun x y c D d=>I.ok.inj x y c (sub x c D) (sub y c d),fun x l=>?_,fun x c e=>⟨I.cell x c (sub x c e),I.freeC x c (sub x c e),fun O=>?_⟩,fun i x v D d=>?_,by unfold vK;rw [aag];exact w⟩
 ·refine lC ?_;rcases l with l|l
  ·exact g _ (abb l) (.inl rfl)
  ·exact g _ (abb l) (.inr rfl)
 ·rcases aah.mp (I.stkSub c O) with q|q
  ·exact I.cne x c (sub x c e) q
  ·obtain ⟨_,o,Q,_⟩:=I.ok.funs.mem q;exact absurd (aar (aaf Q) (I.ok.cab x c (L x) (sub x c e))) (aaN _)
 ·have l:x∈NL:=aaq D;have F:(js.map fun j=>X.N[j]?)[i]?=some (some x):=by rw [← N,aaz,D];rfl
  rw [aaz] at F;obtain ⟨j,R,F⟩:=abE.mp F;unfold vK at d;rw [aaz,R] at d;have P:B[j]?=some (some v):=by
   have d:(B[j]?).join=some v:=aaM d;cases e:B[j]? with
   |none=>rw [e] at d;cases d
   | some a=>rw [e] at d;cases a with
     |none=>cases d
     |some b=>exact aax some d
  obtain ⟨m,f,S⟩:=I.loc;obtain ⟨u,r,T⟩:=S j x v F P (.inr (.inl (n x l)));refine ⟨h x l,?_⟩;rcases T with ⟨kk,_⟩|⟨_,c,W,z⟩
  ·have kk:X.env.scope.names.lookup x=some .local:=kk;rw [n x l] at kk;cases kk
  ·obtain ⟨U,M⟩:=lC (g _ (abb (h x l)) (.inr rfl));have:=sub x U M;rw [W] at this;cases this;exact ⟨c,u,M,r,z⟩
end L2
namespace L2
open PySem PySem.Spec PyProof.Rows
open PySem.W
noncomputable def tabIn (K:Zs) (c:Zl):Option Addr:=match K.lookup c with
 | some o=>(match o.data with
   | .fields vs=>(match (vs[11]?:Option Value),vs.getD 18 .none,vs.getD 7 .none,vs.getD 9 .none,vs.getD 10 .none with
     |some (Value.ref P),.str _ _,.int _ _,.bool _,.int _ _=>if (o.cls == .type "code" && c != P)=true then some P else none
     |_,_,_,_,_=>none)
   |_=>none)
 |none=>none
set_option tactic.hygienic true in
def Jj {K:Zs} (X:K.In h) (e:tabIn K c=some P):CodeHd h c P:=by
 unfold tabIn at e;split at e
 ·rename_i o m;split at e
  ·rename_i vs hd;split at e
   ·rename_i v b d n p q f g a i r s j;split at e
    ·rename_i l;cases e;simp only [aaP,aaW,bne_iff_ne] at l;refine ⟨o,vs,b,d,n,p,q,f,g,X _ _ m,l.1,hd,a,?_,i,r,s,j,l.2⟩;rw [Array.getD_eq_getD_getElem?,a];rfl
    ·cases e
   ·cases e
  ·cases e
 ·cases e
end L2
namespace L2
open PySem PySem.Spec PyProof.Rows PySem.SeqAt
def Kv:V->List V->Hp->VK->Prop:=fun x vs H Q=>∃ (l:Zl) (a:List V) (k:Nat) (y:V),x=.ref l/\vs=[.int k,y]/\H l=some (.lst a)/\k≤a.length/\a.length<1000000/\Q .non (upd H l (.lst (a.take k++y::a.drop k)))
set_option tactic.hygienic true in
theorem vm:Vu X "list.insert" Kv:=by
 intro p s J H x vs v L Q I D g h;obtain ⟨l,o,k,y,rfl,rfl,j,hk,B,q⟩:=h;cases D;cases g with
 |cons r1 g=>
  cases g with
  |cons G g=>
   cases g;rename_i u;obtain ⟨t,rfl⟩:=r1;obtain ⟨z,c,n,r,C,e⟩:=I.lstM j;have big:1000000≤sizeLine:=by decide
   have d:¬ (!Builtin.List.listFitsIndex (k:Int))=true:=by rw [fitsIndex_both (by omega) (by omega)];decide
   have f:c.toArray.size≤sizeLine:=by rw [aap];omega
   generalize E:(k:Int)=i at d;refine call_meets F.slot_list_insert ⟨_,e,rfl⟩ F.entry_list_insert (F.args_list_insert_3 (.ref l) (.int i t) u) (AutoListH.list_insert_list_int_val_1 l c.toArray n i t u d f) ⟨e,?_⟩;subst E;have m:Vals (o.take k) (c.take k)/\Vals (o.drop k) (c.drop k):=by
    clear B q e j hk C z f d;induction r generalizing k with
    |nil=>rw [acz,acz,acA,acA];exact ⟨.nil,.nil⟩
    | cons a b w=>
      cases k with
      |zero=>exact ⟨.nil,.cons a b⟩
      |succ k=>exact ⟨.cons a (w (k:=k)).1,(w (k:=k)).2⟩
   refine ⟨.non,_,I.lset (its':=c.take k++u::c.drop k) j e ?_ (m.1.append (.cons G m.2)) ?_,rfl,q⟩
   ·have A:min (k:Int).toNat c.toArray.size=k:=by rw [aap,abG];omega
    show ((c.toArray.extract 0 (if (k:Int)<0 then ((k:Int)+((c.toArray.size:Nat):Int)).toNat else min (k:Int).toNat c.toArray.size)).push u++c.toArray.extract (if (k:Int)<0 then ((k:Int)+((c.toArray.size:Nat):Int)).toNat else min (k:Int).toNat c.toArray.size))=_;rw [aab (by omega),A];apply Array.ext';simp;exact abj (by rw [ab0];omega)
   ·rw [aaD,aaA,aaJ,ab0];omega
def Y7 (x:Str):It:=⟨fun i _=>i<x.cps.size,fun i H v a=>a=H/\∃ c,x.cps[i]?=some c/\v=.str ⟨#[c]⟩,fun i _=>x.cps.size≤i⟩
def J6 {P:ZB} {w:ZE} {K:Zs} {tg:ZO} (x:Str) (t:Tok) (it:Zl):Turn P w K tg (Y7 x) [it] it (fun i h=>h.IsStrIter it "str_ascii_iterator" x t i) where
 mem:=by simp
 obj:=fun i h st b hb=>by
  have e:b=it:=by simpa using hb
  subst e;obtain ⟨o,e,c,d⟩:=st;exact ⟨o,e,fun v z=>by rw [d] at z;cases z⟩
 keep:=fun i h h' st k=>let ⟨o,e,r⟩:=st;⟨o,k it (by simp) o e,r⟩
 item:=by intro X hP hw hK hc i dR s σ H E I hf st hg;subst hP hw hK;obtain ⟨f0,f1,f2,f3,f4,f5⟩:=hf it (by simp);have hg':i<x.cps.size:=hg;have hx:x.cps[i]?=some (x.cps[i]'hg'):=adk hg';refine wpAny_pyNext_ascii_item st hx fun h' st' sb=>?_;have I1:Inv X dR σ H { s with heap:=h',toks:=s.toks+1 }:=I.turned (t':=s.toks+1) (fun b o hb e=>(sb.2 b hb).trans e) f0 f1 f3 f4 f5;obtain ⟨o,e,c,d⟩:=id st';exact ⟨_,rfl,Gz (s:={ s with heap:=h',toks:=s.toks+1 }) e c d (by decide) ⟨.str ⟨#[x.cps[i]'hg']⟩,H,I1,⟨_,rfl⟩,⟨rfl,_,hx,rfl⟩,st',fun b hb=>(hf b hb).1⟩⟩
 done:=by intro X hP hw hK hc i dR s σ H E I hf st hg;subst hP hw hK;obtain ⟨f0,f1,f2,f3,f4,f5⟩:=hf it (by simp);have hx:x.cps[i]?=none:=Array.getElem?_eq_none hg;exact wpAny_pyNext_ascii_end (I.ok.hd hc) st hx fun h' eb=>⟨rfl,I.turned (t':=s.toks) (fun b o hb e=>eb b o hb e) f0 f1 f3 f4 f5⟩
 self:=fun _ _ _ _ _ st h=>wpAny_pyIter_striter_ascii st h
def XR (c:TE):TI:=fun a H R=>c a H fun v b=>∃ x,v=.str x/\x.cps.all (·<128)=true/\R (Y7 x) b
def Qi {l:ZO} {f:TE} (n:PE X l f):PI X p l (XR f):=by
 intro a s m H R I h;refine gj (n a s m H _ I h) fun v c ⟨y,g,d,r1,x,e,i,q⟩=>?_;subst e;obtain ⟨t,rfl⟩:=r1;refine wpAny_pyIter_ascii i ?_;refine ⟨c.heap.objs.size,[c.heap.objs.size],_,_,g,rfl,d.kept (t':=c.toks) fun b o e=>aai _ e,J6 x t _,⟨_,aav _ rfl,rfl,rfl⟩,fun b j=>?_,q⟩;have e:b=c.heap.objs.size:=by simpa using j
 subst e;exact d.fpOk (aae _) (d.hok.fresh (aae _))
def Ij (n:Nat->List V->St->Hp->Prop) (A:x.cps.size≤sizeLine) (B:n 0 [] m r)
 (C:∀ i c a b H,x.cps[i]?=some c->a.length=i->n i a b H->∀ N:List V->St->Hp->Prop,(∀ d j o,d.length=i+1->n (i+1) d j o->N d j o)->g (.str ⟨#[c]⟩) b H fun f s=>q f s fun y w=>N (a++[y]) f w)
 (hd:∀ a b H,a.length=x.cps.size->n x.cps.size a b H->F a H):CW (Y7 x) g uP q F m r:=
 oN n A B (fun a b H l p=>⟨aae _,hd a b H l p⟩) fun i a b H h l p=>⟨h,fun v _ ⟨e,c,z,y⟩=>by subst e y;exact C i c a b _ z l p⟩
def YW:V->Option Int->Option Int->Hp->VK->Prop:=fun x a b H Q=>∃ z j,x=.str z/\a=none/\b=some j/\z.length≤sizeLine/\Q (.str (Txt.slice z none (some j))) H
set_option tactic.hygienic true in
noncomputable def ul:VD X YW:=by intro a s m H x v vl n o p r Q I c d e f h;obtain ⟨z,j,rfl,rfl,rfl,b,q⟩:=h;obtain ⟨t,rfl⟩:=c;cases e;cases f;rename_i g;refine ⟨"str",_,F.slot_str_getitem.lookup,typeIs_str _ _ _,wpAny_getItem_str_slice (l:=none) (u:=some (j,g)) (st:=none) ?_ rfl (post_val_or_str ⟨aaj (Txt.slice_le z none (some j)) b,fun i k=>⟨.str _,H,I.tok _,⟨_,rfl⟩,q⟩⟩)⟩;exact d
def FP (z:Str) (l u:Option Int):∀ c∈(Txt.slice z l u).cps.toList,c∈z.cps.toList:=by
 intro c a;unfold Txt.slice at a;split at a
 ·exact a
 ·rw [List.toList_toArray] at a;obtain ⟨i,_,e⟩:=acO.mp a;rw [← ab1] at e;exact aaq e
def Aj (C:Zl) (i:Sp) (j:List V->List V->List V) (E:XK) (t tk:TA):TE:=fun c H Q=>t c H fun vs d=>tk c d fun g b=>∀ x a,b x=none->b a=none->a≠x->
 i (j (.ref x::vs) g) (upd (upd b a (.own x)) x (.ins C a [])) (fun v h=>v=.non/\Q (.ref x) h) E
theorem vA (M:Mk X.K C f) (F:dw X.prog X.w X.K X.mg X.base T k f S o R) (N:eX (k+1) X.A) (q:jF X.K S o m g p)
 (O:gJ T X E) (I:Inv X b j H s) (r:Vals vs us) (P:Vals l c)
 (h:∀ x d,H x=none->H d=none->d≠x->R (p (.ref x::vs) l) (upd (upd H d (.own x)) x (.ins C d [])) (fun v w=>v=.non/\Q (.ref x) w) E) :
 wpAny (model X.prog X.w) X.A (call (.ref C) us (m.zip c)) (EP X b j Q) X.xe s:=by
 have n:=h (s.heap.objs.size+1) s.heap.objs.size (I.hok.fresh (abg _)) (I.hok.fresh (aae _)) (aal (abt _));have i:=Inv.made (C:=C) I;have r2:Vals (p (V.ref (s.heap.objs.size+1)::vs) l) (g (Value.ref (s.heap.objs.size+1)::us) c):=q.rel (.cons rfl r) P;have z:(g (Value.ref (s.heap.objs.size+1)::us) c).length=o.length:=by have e:=r2.length;rw [F.len _ _ _ _ n] at e;exact e.symm
 refine aa8 (zQ (f:=f) I.kIn M.makes M.init (aaW.mp M.fn) (codeAny_mono (F.run _ X.stack _ _ ⟨Value.ref (s.heap.objs.size+1)::us,m.zip c⟩ (g (Value.ref (s.heap.objs.size+1)::us) c) _ _ E (N.make C us (m.zip c)) (i.env0.make C us (m.zip c)) (q.to _ (Value.ref (s.heap.objs.size+1)::us) c i.kIn z) r2 n) fun r y a=>?_));cases r with
 |error e=>exact O b j _ _ e y i a
 | ok L=>
   cases L with
   | ret u=>obtain ⟨v,A,B,D,G,J⟩:=i.after a;subst G;exact ⟨D,⟨V.ref (s.heap.objs.size+1),A,B,rfl,J⟩⟩
   |next=>exact False.elim a
   |brk=>exact False.elim a
   |cont=>exact False.elim a
def JQ (M:Mk X.K C f) (F:dw X.prog X.w X.K X.mg X.base CX k f fd W Y) (A:eX (k+1) X.A) (B:Gl X x) (D:X.mg x=some (.ref C)) (G:jF X.K fd W Z g gV) (J:gJ CX X E)
 (L:PA X (e::U) t) (c:PK X o tk) (b:(backToKw m (keywordEach o X.env)).all (·.1.isSome)=true:=by rfl) (d:(backToKw m (keywordEach o X.env)).filterMap (·.1)=Z:=by rfl)
 (i:(x == ("__debug__" : Str))=false:=by decide) (N:starEach (e::U) X.env=(false,eval e X.env)::starEach U X.env:=by rfl)
 (j:((backTo m (starEach (e::U) X.env)).any (·.1) || (backToKw m (keywordEach o X.env)).any (·.1.isNone))=false:=by rfl) :
 PE X (.Call (.Name x p) (e::U) o m) (Aj C Y gV E t tk):=by
 intro a s n H Q I h;refine aa9 (kE I B D ?_ i);refine PySem.W.callWith_KW (h₀:=X.base) I.ok.mod.kin M.kp b (gj (L m a s n H _ I h) fun O v ⟨vs,w,y,r,q⟩=>?_) j N;refine gj (c m a v n w _ y q) fun P R ⟨S,T,l,z,q2⟩=>⟨l.kIn,?_⟩;rw [d];exact vA M F A G J l r z q2
def qZ (M:Mk X.K C f) (F:dw X.prog X.w X.K X.mg X.base P k f O o J) (r:eX (k+1) X.A) (v:Gl X x) (w:X.mg x=some (.ref C)) (y:jF X.K O o L g N) (z:gJ P X E)
 (c:PK X m tk) (b:(backToKw e (keywordEach m X.env)).all (·.1.isSome)=true:=by rfl) (d:(backToKw e (keywordEach m X.env)).filterMap (·.1)=L:=by rfl)
 (i:(x == ("__debug__" : Str))=false:=by decide) (j:((backTo e (starEach [] X.env)).any (·.1) || (backToKw e (keywordEach m X.env)).any (·.1.isNone))=false:=by rfl) :
 PE X (.Call (.Name x p) [] m e) (Aj C J N E iV tk):=by
 intro a s q H Q I h;refine aa9 (kE I v w ?_ i);refine PySem.W.callWith_KW0 (h₀:=X.base) I.ok.mod.kin M.kp b ?_ j;refine gj (c e a s q H _ I h) fun A B ⟨D,G,l,n,q2⟩=>⟨l.kIn,?_⟩;rw [d];exact vA (us:=[]) (vs:=[]) M F r y z l .nil n q2
end L2
namespace L2
open PySem PySem.Spec PyProof.Rows PySem.W
theorem rW {d p:Pos} (l:Y2) (h:TriplesOk l):codeAmong d (l++[rawInt p.line,rawInt p.col,c])=(codeAmong d l).or (if (p.line:Int) == d.line && (p.col:Int) == d.col then some c else none):=by
 fun_induction TriplesOk l with
 |case1=>simp [codeAmong,rawInt]
 | case2 a t b u e rest f=>
   show codeAmong d (.int a t::.int b u::e::(rest++_))=_;rw [codeAmong,codeAmong];split
   ·rfl
   ·exact f h
 |case3=>exact h.elim
theorem wC {p:Pos} (l:Y2) (h:TriplesOk l):TriplesOk (l++[rawInt p.line,rawInt p.col,c]):=by
 fun_induction TriplesOk l with
 |case1=>simp [TriplesOk,rawInt]
 |case2 a t b u e rest d=>exact d h
 |case3=>exact h.elim
def gD (H:Hp) (T:Zl) (a:Str) (d:List Pos):Prop:=
 ∃ b,H T=some (.tbl b)/\TriplesOk b.toList/\∀ e∈d,codeAmong e b.toList=none∨∃ c,codeAmong e b.toList=some (.ref c)/\H c=some (nO c a)
def gD.tab (h:gD H T a b) (m:c∈b):TabOk H T c a:=by obtain ⟨d,e,f,g⟩:=h;exact ⟨d,e,f,g c m⟩
def gD.keep (h:gD H T a c) (k:∀ b u,H b=some u->(∀ d,u≠.dK d)->f b=some u):gD f T a c:=by
 obtain ⟨i,j,l,n⟩:=h;refine ⟨i,k _ _ j (by intro _ z;cases z),l,fun g m=>?_⟩;rcases n g m with z|⟨o,z,e⟩
 ·exact .inl z
 ·exact .inr ⟨o,z,k _ _ e (by intro _ z;cases z)⟩
def gD.same (h:gD H T a c) (s:du H d):gD d T a c:=h.keep fun b u e _=>s b u e
def Tf.code (h:Tf H T e a b c):c b=some (nO b a):=by
 obtain ⟨f,g,⟨_,_,_,rfl⟩|⟨_,d,rfl⟩⟩:=h
 ·exact a_
 ·exact d
def gD.lam (h:gD H T b g) (l:Tf H T c b f r):gD r T b g:=by
 obtain ⟨i,j,n,o⟩:=h;obtain ⟨s,p,l⟩:=l;rw [j] at p;cases p;rcases l with ⟨w,v,ne,rfl⟩|⟨_,_,rfl⟩
 ·refine ⟨i++#[rawInt c.line,rawInt c.col,.ref f],by rw [bK ne.symm,a_],?_,fun a m=>?_⟩
  ·rw [acd];exact wC _ n
  ·rw [acd];show codeAmong a (i.toList++[rawInt c.line,rawInt c.col,.ref f])=none∨∃ d,codeAmong a (i.toList++[rawInt c.line,rawInt c.col,.ref f])=Option.some (Value.ref d)/\_;rw [rW _ n];rcases o a m with z|⟨d,z,e⟩
   ·rw [z];by_cases q:((c.line:Int) == a.line && (c.col:Int) == a.col)=true
    ·rw [aac q];exact .inr ⟨f,rfl,a_⟩
    ·rw [aab q];exact .inl rfl
   ·rw [z];refine .inr ⟨d,rfl,?_⟩;rw [bK (di e v),bK (iJ e j (by intro z;cases z))];exact e
 ·exact ⟨i,j,n,o⟩
theorem E_ {P:ZB} {w:ZE} {K:Zs} {Q mb:ZY} {CX:rK} {k:Nat} {fa a:Zl} {j:YE} {fd:ZA} {x:Str} {sp:Sp} {f:Zp} {vs:Y2} {G:List Int}
 (KX:K.In f.heap) (R:f.heap.Ns mainGlobals Q) (Z:f.heap.Ns builtinsNs mb) (hbb:∀ x:Str,x ≠ "__name__"->mb x=bootBuiltins x) (S:f.heap.NoLimit) (hg:f.gens=#[])
 (I:f.heap.get? a=some { cls:=.type "list",data:=.seq vs.toArray }) (hi:IntsAre vs G) (hl:G.length≤sizeLine) (hr:eX k callerA)
 (U:∀ T∈j,f.heap.get? T=some (tabObj #[])/\K.lookup T=none/\∃ c,CodeHd f.heap c T)
 (F:∀ l:Heap,K.In l->l.Ns mainGlobals Q->(∀ b o,f.heap.get? b=some o->b∉j->b≠a->l.get? b=some o)->dw P w K Q l CX k fa fd [x] sp) (D:∀ (s:Zp) (u:ZH),BindsTo s fd ⟨[u],[]⟩ [(x,u)])
 (hsp:∀ H:Hp,(∀ T∈j,H T=some (.tbl #[]))->fM K H a (G.map V.int)->sp [.ref a] H (fun v _=>v=.bl true) fun _ _ _=>False)
 (hCX:∀ H e n,CX [] H f (fun _ _ _=>False) e n->False) :
 codeAny (model P w) callerA (.call (.ref fa) ⟨[.ref a],[]⟩) (fun r n=>r=.ok (.ret (.bool true))/\OldK f.heap n.heap/\n.os=f.os/\AllBare n.gens) f:=by
 have rv:=ww hi;have J:=hi.length;have aa:a∉j:=fun q=>by have:=(U a q).1;rw [I] at this;cases this
 have B:∀ E:Hp,(∀ b,E b=none∨(b=a/\K.lookup a=none/\E b=some (.frz { cls:=.type "list",data:=.seq vs.toArray } (.lst (G.map V.int)))))->fM K (fun b=>if b∈j then some (.tbl #[]) else E b) a (G.map V.int)->
  codeAny (model P w) callerA (.call (.ref fa) ⟨[.ref a],[]⟩) (fun r n=>r=.ok (.ret (.bool true))/\OldK f.heap n.heap/\n.os=f.os/\AllBare n.gens) f:=by
  intro E Y hS;generalize hH:(fun b=>if b∈j then some (HO.tbl #[]) else E b:Hp)=H at hS;have HT:∀ T∈j,H T=some (.tbl #[]):=fun T m=>by rw [← hH];exact aac m
  have p:∀ b,b∉j->H b=E b:=fun b e=>by rw [← hH];exact aab e
  have Hn:∀ b,b∉j->b≠a->H b=none:=fun b i A=>by
   rw [p b i];rcases Y b with z|⟨z,_⟩
   ·exact z
   ·exact absurd z A
  have ab:nJ P w H f.heap:=fun b u e=>by
   by_cases q:b∈j
   ·rw [HT b q] at e;cases e;exact (U b q).1
   ·rw [p b q] at e;rcases Y b with z|⟨rfl,_,z⟩
    ·rw [z] at e;cases e
    ·rw [z] at e;cases e;exact ⟨I,by rw [aag];exact hl,vs,_,rv,I⟩
  have ac:∀ {b:Zl} {o:Obj} {W:Array DictEntry} {X:Nat},f.heap.get? b=some o->o.data=.dict W X->H b=none:=fun {b o W X} e d=>by
   refine Hn b (fun q=>?_) (fun q=>?_)
   ·rw [(U b q).1] at e;cases e;cases d
   ·subst q;rw [I] at e;cases e;cases d
  have y:∀ {b:Zl} {m:ZY},f.heap.Ns b m->(zR f.heap H).Ns b m:=fun {b m} ⟨o,W,X,e,d,r⟩=>⟨o,W,X,t_ e (ac e d),d,r⟩;have L:K.In (zR f.heap H):=fun b o e=>by
   refine t_ (KX b o e) ?_;have q:b∉j:=fun m=>by rw [(U b m).2.1] at e;cases e
   rw [p b q];rcases Y b with z|⟨rfl,z,_⟩
   ·exact z
   ·rw [z] at e;cases e
  have hM:Mod K Q (zR f.heap H):=⟨L,y R,⟨mb,y Z,hbb⟩,let ⟨mc,i,A⟩:=S;⟨mc,y i,A⟩⟩;have e0:ye P w K Q (zR f.heap H) callerA [] f H:=⟨rfl,hM,fun b o e=>Ni e,abA (EY _ _),trivial,fun b Z=>absurd (show b∈([]:YE) from Z) (by simp),ab,.of_eq hg⟩;refine codeAny_mono ((F _ L (y R) fun b o e i A=>t_ e (Hn b i A)).run callerA [] f H ⟨[.ref a],[]⟩ [.ref a] [.ref a] _ _ hr e0 (D f (.ref a)) (.cons rfl .nil) (hsp H HT hS)) fun r n h=>?_;cases r with
  |error e=>exact (hCX H e n h).elim
  | ok fl=>
    cases fl with
    |next=>exact False.elim h
    |brk=>exact False.elim h
    |cont=>exact False.elim h
    | ret u=>
      obtain ⟨v,H',os,O,un,C,r',q⟩:=h;cases (show v=.bl true from q);cases (show u=Value.bool true from r');have M:∀ b o,f.heap.get? b=some o->b∉j->n.heap.get? b=some o:=fun b o e i=>by
       rcases Y b with z|⟨rfl,_,z⟩
       ·exact un.keep b o e (by rw [p b i];exact z) (by intro z;exact absurd (show b∈([]:YE) from z) (by simp)) (by simp)
       ·have z2:=un.frzs b _ _ ((p b i).trans z);obtain ⟨e2,_⟩:=C b _ z2;rw [I] at e;cases e;exact e2
      have N:∀ T∈j,∃ g,n.heap.get? T=some { cls:=.none,data:=.fields (#[]++g) }:=fun T m=>by obtain ⟨g,hm⟩:=un.tbls T #[] (HT T m);exact ⟨g,C T _ hm⟩
      refine ⟨rfl,⟨fun b o e=>?_,fun b o e=>?_⟩,os,O⟩
      ·by_cases i:b∈j
       ·obtain ⟨g,tb⟩:=N b i;obtain ⟨A,_,c,hc⟩:=U b i;rw [A] at e;cases e;exact .inr (.inl ⟨(hc.tab A).isCodeTable,rfl,#[],g,rfl,tb⟩)
       ·exact .inl (M b o e i)
      ·by_cases i:b∈j
       ·obtain ⟨g,tb⟩:=N b i;exact ⟨_,tb⟩
       ·exact ⟨o,M b o e i⟩
 cases hk:K.lookup a with
 | some o=>have e:=KX a o hk;rw [I] at e;cases e;exact B (fun _=>none) (fun _=>.inl rfl) (.inr ⟨_,vs.toArray,_,hk,rfl,rfl,rfl,by rw [aap,J];exact hl,by simpa using rv⟩)
 | none=>
   refine B (fun b=>if b=a then some (.frz { cls:=.type "list",data:=.seq vs.toArray } (.lst (G.map V.int))) else none) (fun b=>?_) (.inl (.inr ⟨_,(aab aa).trans (aac rfl)⟩));by_cases h:b=a
   ·exact .inr ⟨h,hk,aac h⟩
   ·exact .inl (aab h)
def HD {l:OpenLaw} {n k:Nat} {q:ZB} {y:Y1} {XP:(Str->Option Value)->Heap->Prop} {S:World->Heap->Prop} {d:DefRec} {K:Params->Frag} {CX:World->rK} {x:Str} {A:YE}
 (hn:l.most=some n) (U:n≤sizeLine) (W:d.params.defaults=[]) (hr:eX k callerA)
 (hY:∀ (w:ZE) (h:ZI),S w h->(K w.params).In h) (X:∀ (w:ZE) (h:ZI),S w h->∀ T∈A,h.get? T=some (tabObj #[]))
 (F:∀ (w:ZE) (j:ZY) (C:Zl) (h:ZI),(K w.params).In h->h.Ns mainGlobals j->j d.name=some (.ref C)-> ∃ (N:ZA) (O:Sp),(∀ (s:Zp) (u:ZH),BindsTo s N ⟨[u],[]⟩ [(x,u)])/\(∀ T∈A,(K w.params).lookup T=none/\∃ c,tabIn (K w.params) c=some T)/\ (∀ (H:Hp) (a:Zl) (D:List Int),D.length≤n->(∀ T∈A,H T=some (.tbl #[]))->fM (K w.params) H a (D.map V.int)->O [.ref a] H (fun v _=>v=.bl true) fun _ _ _=>False)/\ ∀ b:Heap,(K w.params).In b->b.Ns mainGlobals j->(∀ T∈A,b.BuiltinsAt j T/\mainGlobals≠T)->dw l.prog w (K w.params) j b (CX w) k C N [x] O)
 (Z:∀ (w:ZE) (H:Hp) (s:Zp) (e:ZH) (M:Zp),CX w [] H s (fun _ _ _=>False) e M->False) :
 WalkO q y XP S l.row.toRowW d [] (fun f vs=>PySem.call f vs):=by
 refine Att.yX hn W fun w aa B j mb C o pm cd ab a vs D G Y ho hd ac J g p i hg=>?_;have P:=hY w _ Y;have Q:=X w _ Y;obtain ⟨N,O,hb,ht,R,hF⟩:=F w j C _ P G.T.g J;obtain ⟨E,ob,b1,b2,r,b4,b5,I⟩:=G.T.bmain;have gT:∀ T∈A,mainGlobals≠T:=fun T m q=>by obtain ⟨o,es,ep,e,hd,_⟩:=G.T.g;rw [q,Q T m] at e;cases e;cases hd
 have bT:E∉A:=fun m=>by rw [Q _ m] at r;cases r;cases b4
 have ba:E≠a:=fun q=>by rw [q,g] at r;cases r;cases I
 have bG:E≠mainGlobals:=fun q=>by obtain ⟨o,es,ep,e,hd,_⟩:=G.T.g;rw [q,e] at r;cases r;rw [hd] at I;cases I
 exact E_ P G.T.g G.T.b G.T.builtins G.T.nolimit hg g p (aaj i U) hr (fun T m=>⟨Q T m,(ht T m).1,let ⟨c,z⟩:=(ht T m).2;⟨c,Jj P z⟩⟩) (fun b kb nb L=>hF b kb nb fun T m=>⟨⟨E,ob,b1,b2,bG,fun q=>bT (q ▸ m),L _ _ r bT ba,b4,b5,I⟩,gT T m⟩) hb (fun H hH hS=>R H a D i hH hS) fun H e M=>Z w H B e M
end L2
namespace L2
open PySem PySem.Spec PyProof.Rows
def Gi (I:Inv X c i H s) (e:H a=some (.dK b)) (x:y=kV k) (l:b.length<sizeLine) (B:RelV y u) (C:RelV v r)
 (h:∀ g,Inv X c i (upd H a (.dK (putK b k v))) g->Q () g):wpAny (model X.prog X.w) A (dictSet a u r) Q E s:=by
 subst x;obtain ⟨z,hd,vs,f,dd⟩:=zE I.hok e;have n:vs.length≤sizeLine:=by rw [← f.length];exact z
 have o:(putK b k v).length≤sizeLine:=by have:=lF b k v;omega
 refine wpAny_dictSet_pairs (hsz:=n) (v_ B) dd fun j d m=>h _ ?_;have p:∃ q,j.get? a=some q:=let ⟨q,_,_,w,_⟩:=d;⟨q,w⟩
 exact sW I (by rw [e];exact aaF) m p (wV o hd (f.put k C) d)
def yr (J:It) (g:TG) (p:TT) (tk q:TE) (e:Zl) (F:Hp->Prop) (W:Nat->Nat->St->Hp->Prop):Prop:=
 ∀ i m j H,W i m j H->(J.stop i H/\F H)∨(J.go i H/\∀ x l,J.yld i H x l->g x j l fun a n=>p a n fun b f=> if b=true then tk a f fun y o=>q a o fun z h=>∃ c k,h e=some (.dK c)/\y=kV k/\c.length<sizeLine/\∃ d,d<m/\W (i+1) d a (upd h e (.dK (putK c k z))) else ∃ d,d<m/\W (i+1) d a f)
def Sd (e:TI) (g:TG) (f:TT) (tk h:TE) (k:Nat) (i:List Nat):TE:=fun b H Q=>e b H fun J c=>∀ a,c a=none->∃ W:Nat->Nat->St->Hp->Prop,(∃ m,W 0 m (jU k i b) (upd c a (.dK [])))/\
 yr J g f tk h a (fun d=>Q (.ref a) d) W
def Ca (W:Nat->Nat->St->Hp->Prop) (p:yr J g tt tk tv j F W) (T:Turn X.prog X.w X.K tg J fp N O)
 (hg:PG (eH X scope N' f C c d fp) tg g) (hc:p_ (eH X scope N' f C c d fp) ifs tt) (hk:PE (eH X scope N' f C c d fp) ke tk) (hv:PE (eH X scope N' f C c d fp) ve tv) (n:X.calm=true)
 (E:∀ b∈fp,∀ o:Hp,o b=none->nA (eH X scope N' f C c d fp) [] o b) (hR:∀ L A o,Inv (eH X scope N' f C c d fp) [] A o L->F o->R (.ok .next) L)
 (I : Inv (eH X scope N' f C c d fp) [] e H s) (st:O 0 s.heap) (fr:∀ b∈fp,H b=none) (w0:W 0 m e H) :
    codeAny (model X.prog X.w) X.A (.compLoop (.DictComp ke ve [⟨tg,iter,ifs,0⟩] scope pos) 0 (.ref N) (.ref j) (compEnvC scope f C X.env)) R s:=
  JS (Y:=eH X scope N' f C c d fp) (α:=Unit) (a:=()) (B:=fun k=>(do
   let D ← eval ke (compEnvC scope f C X.env)
   let M ← holding [D] (eval ve (compEnvC scope f C X.env))
   standAt { ke.pos with endLine:=ve.pos.endLine,endCol:=ve.pos.endCol }
   holding [D,M] (dictSet j D M)) >>= fun _=>k) (fun _=>[]) ⟨fun _=>rfl,fun _ _=>rfl⟩ T hg hc n (fun _ _ z=>z) (fun _=>E) (fun i m _=>W i m)
   (fun i m _ e H=>tk e H fun y P=>tv e P fun z G=>∃ l k,G j=some (.dK l)/\y=kV k/\l.length<sizeLine/\∃ r,r<m/\W (i+1) r e (upd G j (.dK (putK l k z)))) (fun _=>True) (fun _=>True)
   (fun i m _ e H _ w=>(p i m e H w).imp (fun z=>⟨z.1,fun s I=>hR s e H I z.2⟩) fun z=>⟨z.1,trivial,z.2⟩)
   (fun i m _ e H h s _ _ q _ I _ _ _ z=>aaa (aaa (aat (hk _ s e H _ I q) (fun y Q ⟨yv,S,U,Z,q8⟩=>aaa (aaS (aat (hv _ Q e S _ U q8) (fun y2 s9 ⟨zv,H9,I9,r9,l,k,e9,ek,hl,r,hm,w9⟩=> aaa (aa4 (aaS (Gi (X:=eH X scope N' f C c d fp) I9 e9 ek hl Z r9 fun v x=>z v ⟨r,hm,(),e,_,x,trivial,w9⟩)))) fun _ _ z=>z.elim))) fun _ _ z=>z.elim))) I st fr trivial w0
def Es {X:Cx} {scope:ZT} {own:Y1} {H:Hp} {s:Zp} {U:Nat->Heap->Prop} {n:YO} {F:Addr->Hp->Prop} {RR:Value->Addr->Result->Shared->Prop}
 (S:eN X scope own js N') (B:X.calm=true) (hg:∀ n C d f A,PG (eH X scope N' n C d f A) tg g) (hc:∀ n C d f A,p_ (eH X scope N' n C d f A) ifs tt) (hk:∀ n C d f A,PE (eH X scope N' n C d f A) ke tk) (hv:∀ n C d f A,PE (eH X scope N' n C d f A) ve tv)
 (P:∀ x c,n.lookup x=some c->X.env.cells.lookup x=some c) (Q:∀ x,(x,NameKind.free)∈scope.names->∃ c,n.lookup x=some c)
 (I:Inv X i O H s) (T:Turn X.prog X.w X.K tg J fp it U) (Y:U 0 s.heap) (Z:∀ b∈fp,nA X i H b)
 (hW:∀ h,H h=none->∃ W:Nat->Nat->St->Hp->Prop,(∃ m,W 0 m (jU own.length js O) (upd H h (.dK [])))/\yr J g tt tk tv h (F h) W)
 (R:∀ h C y L m,Inv X i O y L->L.heap.Ns C m->y C=none->C≠X.env.locals->X.s₀.heap.objs.size≤C->(∀ x c,X.env.cells.lookup x=some c->c≠C)->(∀ p∈X.pn++i,p.1≠C)->F h y->RR (.ref h) C (.ok .next) L) :
 wpAny (model X.prog X.w) X.A newDict (fun h D=>wpAny (model X.prog X.w) X.A (newFunctionEnv scope X.env.globals n [] X.env.qual none .none (some X.env)) (fun v r=> codeAny (model X.prog X.w) X.A (.compStart (.DictComp ke ve [⟨tg,iter,ifs,0⟩] scope pos) 0 (.ref it) h { v with scope:=relabel scope X.env }) (RR h v.locals) r) E D) E s:=by
 refine aaU ?_;have N:=I.laid (a:=s.heap.objs.size) (o:=.dK []) (t':=s.toks) (h':=s.heap.push { cls:=.type "dict",data:=.dict #[] }) (fun _ _ q=>aai _ q) (aae _) (tV s.heap I.big);obtain ⟨W,⟨m0,w0⟩,M⟩:=hW _ (I.hok.fresh (aae s.heap.objs.size));have l:∀ b∈fp,nA X i (upd H s.heap.objs.size (.dK [])) b:=fun b j=>by obtain ⟨o,e,_⟩:=T.obj _ _ Y b j;exact ⟨by rw [bK (aal (aaf e))];exact (Z b j).1,(Z b j).2⟩
 refine uZ (s:={ s with heap:=s.heap.push { cls:=.type "dict",data:=.dict #[] } }) (h1:=s.heap.push { cls:=.type "dict",data:=.dict #[] }) S N (fun _ _ e=>e) (aae _) P Q T (T.keep _ _ _ Y fun b j o e=>aai _ e) l fun e r e1 e2 up I1 G fs=>?_;rw [e1,e2];have w:codeAny (model X.prog X.w) X.A (.compLoop (.DictComp ke ve [⟨tg,iter,ifs,0⟩] scope pos) 0 (.ref it) (.ref s.heap.objs.size) (compEnvC scope n (s.heap.push { cls:=.type "dict",data:=.dict #[] }).objs.size X.env)) (RR (.ref s.heap.objs.size) (s.heap.push { cls:=.type "dict",data:=.dict #[] }).objs.size) r:=by refine Ca W M T (hg _ _ _ _ _) (hc _ _ _ _ _) (hk _ _ _ _ _) (hv _ _ _ _ _) B (fun b j=>(fs b j).2) (fun L aa y z q=>?_) I1 G (fun b j=>(l b j).1) w0;obtain ⟨m,hm,_⟩:=z.loc;obtain ⟨_,c1,_,_,c4,c5⟩:=N.fpOk (H':=y) (aae _) z.free;exact R _ _ y L m (N.call' z.os z.base z.hok z.bare fun b j=>⟨(l b j).2.2.2.1,(l b j).2.1,(l b j).2.2.2.2.1,(l b j).2.2.2.2.2⟩) hm z.free c1 N.sz c4 c5 q
 exact uW rfl rfl w (T.self _ 0 _ _ _ G w)
open PySem.SeqAt
def Rm {b:Type} {us:List b} (h:us.length=1):∃ a,us=[a]:=List.length_eq_one_iff.mp h
theorem t8 {c:Type} {us:List c} (h:us.length=2):∃ a b,us=[a,b]:=by
 cases us with
 |nil=>cases h
 | cons a r=>obtain ⟨b,rfl⟩:=Rm (us:=r) (by simpa using h);exact ⟨a,b,rfl⟩
theorem Mv {d:Type} {us:List d} (h:us.length=3):∃ a b c,us=[a,b,c]:=by
 cases us with
 |nil=>cases h
 | cons a r=>obtain ⟨b,c,rfl⟩:=t8 (us:=r) (by simpa using h);exact ⟨a,b,c,rfl⟩
theorem Y9 {f:Type} {e:List f} (h:e.length=4):∃ a b c d,e=[a,b,c,d]:=by
 cases e with
 |nil=>cases h
 | cons a r=>obtain ⟨b,c,d,rfl⟩:=Mv (us:=r) (by simpa using h);exact ⟨a,b,c,d,rfl⟩
end L2
namespace L2
open PySem PySem.Spec PyProof.Rows
theorem wA:∀ {b:List Int} {c:Y2},Vals (b.map V.int) c->∃ a:List (Int×Tok),c=a.map (fun p=>Value.int p.1 p.2)/\a.map (·.1)=b
 |[],_,r=>by rw [acr] at r;cases r;exact ⟨[],rfl,rfl⟩
 | n::b,_,r=>by
   rw [aaw] at r;cases r with
   | cons h t=>obtain ⟨tk,rfl⟩:=(show ∃ t,_=Value.int n t from h);obtain ⟨a,d,e⟩:=wA t;exact ⟨(n,tk)::a,by rw [d];rfl,by rw [aaw,e]⟩
def numAt_eq {b:List (Int×Tok)} {a:List Int} (e:b.map (·.1)=a) (h:i<a.length):numAt b.toArray i=a[i]:=by subst e;unfold numAt;simp at h ⊢;rw [aaC h];rfl
def GX {a:List (Int×Tok)}:(a.map (fun p=>Value.int p.1 p.2)).toArray=intItems a.toArray:=by unfold intItems;simp
open PySem.SeqAt
def j7 (t:TE) (a:St) (H:Hp) (v:V):Prop:=∀ Q:VK,Q v H->t a H Q
def oX (t:TT) (a:St) (H:Hp) (b:Bool):Prop:=∀ Q:Bool->Hp->Prop,Q b H->t a H Q
def rD (r:R2) (x y:V) (H:Hp) (v:V):Prop:=∀ Q:VK,Q v H->r x y H Q
def qy (t:TF) (b:St) (H:Hp) (m:Nat):Prop:=∀ (a:Str) (Q:VK),a.length+m≤sizeLine->(∀ y,Q (.str y) H)->t a b H Q
def j7.var (h:a[i]?=some (some v)):j7 (iU i) a H v:=fun Q q=>⟨v,h,q⟩
def j7.con:j7 (tC v) a H v:=fun Q q=>q
def j7.op (a:j7 f d H x) (b:j7 e d H y) (c:rD r x y H v):j7 (Ke r f e) d H v:=fun Q q=>a _ (b _ (c _ q))
def j7.neg (a:j7 c b H (.int i)):j7 (Zh (rU fun i=>.int (-i)) c) b H (.int (-i)):=fun Q q=>a _ ⟨i,rfl,q⟩
def rD.i0:rD (Ka g) (.int i) (.int j) H (g i j):=fun Q q=>⟨i,j,rfl,rfl,q⟩
def oX.test (a:j7 t b H (.bl k)):oX (yt t) b H k:=fun Q q=>a _ ⟨k,rfl,q⟩
theorem j7.chain (a:j7 l e H x) (b:j7 j e H y) (c:j7 f e H z) (h:rD r x y H (.bl k)) (d:rD g y z H (.bl i)):j7 (BV r g l j f) e H (.bl (k && i)):=fun Q q=>a _ (b _ (h _ ⟨k,rfl,by
 cases k with
 |false=>exact iK rfl q
 |true=>exact iY rfl (c _ (d _ q))⟩))
def oX.not (a:oX t b H k):oX (U0 t) b H (!k):=fun Q q=>a _ q
def oX.iff (h:oX t c H k) (q:if k=true then a D c H else b D c H):Vx t a b D c H:=h _ q
def qy.nil:qy (fun a _ H Q=>a.length≤sizeLine/\Q (.str a) H) b H 0:=fun a Q l q=>⟨l,q _⟩
def qy.txt (l:x.length≤m) (h:qy f b H n):qy (fun a b H Q=>(a++x).length≤sizeLine/\f (a++x) b H Q) b H (m+n):=fun a Q c q=>by have:=aaL a x;exact ⟨by omega,h _ Q (by omega) q⟩
noncomputable def qy.int (a:j7 d c H (.int i)) (e:i.natAbs.log2<1920/\(Str.ofString (toString i)).length≤1000) (h:qy f c H n):qy (fun b c H Q=>d c H fun x g=>∃ y,Ww x y/\(b++y).length≤sizeLine/\f (b++y) c g Q) c H (1000+n):=fun b Q j q=>by have:=aaL b (Str.ofString (toString i));have:=e.2;exact a _ ⟨_,.inr ⟨i,rfl,e.1,rfl⟩,by omega,h _ Q (by omega) q⟩
def Uk (K:Zs):R2:=fun x y H Q=>∃ d e,Rep K H x (.list d)/\Rep K H y (.list e)/\jy d≤60/\Q (.bl (!jz d e)) H
theorem Bw (G:X.A.units+64<cLine):oH X (compareOp .NotEq) (Uk X.K):=by
 intro z s F H x y v u Q I B C h;obtain ⟨d,e,n,o,hd,q⟩:=h;cases n with
 | lst D g=>
   cases o with
   | lst E i=>
     cases (show v=Value.ref _ from B);cases (show u=Value.ref _ from C);obtain ⟨a,b,r,_⟩:=I.list D;obtain ⟨c,f,w,_⟩:=I.list E;have p:=Hj (X:=X) (H:=H) (A:=X.A) g i b f;by_cases m:a.toArray.size=c.toArray.size
     ·have l:=RcNeAt.lists (A:=X.A) r.isList w.isList m (by omega)
       (e:=fun j=>mD (d.getD j .none) (e.getD j .none)) (fun j n o=>by simpa using wR I g i b f (A:=X.A.in1) (by show X.A.units+1+_<_;omega) j (by simpa using n) (by simpa using o));rw [← m,Nat.min_self,ab5,Bool.and_true] at p;rw [p] at l;exact l _ _ _ _ ⟨.bl _,H,I,rfl,q⟩
     ·have l:=RcNeAt.lists_lengths (A:=X.A) r.isList w.isList (by simpa using m) (by omega);have:jz d e=false:=by rw [← p,aby.mpr m,acq]
      rw [this] at q;exact l _ _ _ _ ⟨.bl _,H,I,rfl,q⟩
def rD.ne (h:PN x y=true):rD Zc x y H (.bl (!decide (x=y))):=fun Q q=>⟨h,q⟩
theorem nM {f:Nat->Int} {b:List Int} (h:∀ i (c:i<b.length),f i=b[i]):∀ k,k≤b.length->preSum f k=(b.take k).sum
 |0,_=>rfl
 | k+1,hk=>by have a:k<b.length:=hk;show preSum f k+f k=_;rw [nM h k (aa1 a),h k a,aaX,aaC a,List.sum_append];simp
theorem sum_bound:∀ {ns:List Int},(∀ x∈ns,-B≤x/\x≤B)->0≤B->-(B*ns.length)≤ns.sum/\ns.sum≤B*ns.length
 |[],_,_=>by simp
 | n::ns,h,hB=>by have b:=h n (aao ..);have c:=sum_bound (ns:=ns) (fun x a=>h x (aan _ a)) hB;rw [abO,aaA,Int.natCast_succ,Int.mul_add,Int.mul_one];omega
def Fb {X:Cx} (E:X.calm=true):jd X (.builtin "sum") (fun l H Q=>∃ (p:Zl) (a:List Int),l=[.ref p]/\fM X.K H p (a.map V.int)/\a.length≤1000/\(∀ x∈a,-10000000000000≤x/\x≤10000000000000)/\Q (.int a.sum) H):=by
 intro o s P H l R Q I r h;obtain ⟨p,a,rfl,y,N,n,q⟩:=h;obtain ⟨u,rfl,z⟩:=vals1 r;cases (show u=Value.ref p from z);obtain ⟨A,C,D,O⟩:=I.list y;obtain ⟨g,rfl,e⟩:=wA C;have b:g.length=a.length:=by rw [← e,aag]
 have f:=D.isList;rw [GX] at f;have c:∀ i (m:i<a.length),numAt g.toArray i=a[i]:=fun i m=>numAt_eq e m;refine sum_intList (I.ok.hd E) f (fun j v=>?_) fun F tk G k=>?_
 ·have d:j<a.length:=by simpa [b] using v
  rw [c j d,nM c (j+1) d];have J:=n _ (ac9 d);have L:=sum_bound (B:=10000000000000) (ns:=a.take (j+1)) (fun x w=>n x (List.mem_of_mem_take w)) (by decide);have M:(a.take (j+1)).length≤1000:=by rw [aaJ];omega
  refine ⟨⟨?_,?_⟩,?_,?_⟩ <;> omega
 ·have:preSum (numAt g.toArray) g.toArray.size=a.sum:=by rw [aap,b,nM c _ (aae _),ab7]
  rw [this];exact ⟨.int _,H,I.kept k,⟨_,rfl⟩,q⟩
end L2
namespace L2
open PySem PySem.Spec PyProof.Rows
end L2
namespace L2
open PySem
def J4 (c:X.K=K) (d:PE X l a):PI X b l (Js K a):=by subst c;exact jx d
open PySem.Spec PyProof.Rows PySem.SeqAt
end L2
namespace L2
open PySem PySem.Spec PyProof.Rows PySem.W PyProof.V
def Ga (K:Zs) (a:Zl) (D:List (Str×PyData)):Prop:=KTD.tabLook KTD.flatLooks (fun b=>K.lookup b) a D=true
noncomputable def WD:PyData->V
 |.int i=>.int i
 |.str x=>.str x
 |.bool b=>.bl b
 |_=>.non
noncomputable def qD (D:List (Str×PyData)) (k:Str):Option V:=(KTD.datumAt k D).map WD
def Nr {h:ZI}:∀ {d:PyData} {v:ZH},Flat v d->RelV (WD d) v:=by
 intro d v x;cases x ⟨#[],h.life⟩
 all_goals first|exact ⟨_,rfl⟩|rfl|exact absurd (aaf (by assumption)) (acw _)
noncomputable def Uv (D:List (Str×PyData)):List (Str×KTD.Dat):=D.map fun p=>(p.1,KTD.Dat.flat p.2)
theorem oK:∀ {D:List (Str×PyData)},KTD.datumAt k (Uv D)=(KTD.datumAt k D).map KTD.Dat.flat
 |[]=>rfl
 | (x,d)::D=>by show (if _ then _ else KTD.datumAt k (Uv D))=_;rw [oK (D:=D)];show _=(if _ then _ else KTD.datumAt k D).map _;split <;> rfl
def Ar:KTD.inKeys k (Uv D)=(qD D k).isSome:=by rw [← KTD.isSome_datumAt,oK];unfold qD;cases KTD.datumAt k D <;> rfl
def Ga.here (T:Ga X.K a D) (I:Inv X c d H s):KTD.Here s.heap s.heap a (Uv D):=⟨KTD.TabOf.text (KTD.tab_of_look (fun _ _ h=>KTD.flat_of_looks h) (fun b o e=>I.kIn b o e) T),fun _ _ h=>h⟩
def PJ (K:Zs) (neg:Bool):R2:=fun x y H Q=>∃ k a D,x=.str k/\y=.ref a/\Ga K a D/\Q (.bl (if neg then !(qD D k).isSome else (qD D k).isSome)) H
noncomputable def JC:oH X (compareOp .In) (PJ X.K false):=by intro b s e H x y v u Q I c d h;obtain ⟨k,a,D,rfl,rfl,T,q⟩:=h;obtain ⟨t,rfl⟩:=c;cases (show u=Value.ref a from d);refine KTD.in_text (T.here I) ⟨.bl _,H,I.tok _,rfl,?_⟩;rw [Ar];exact q
def NP (K:Zs) (e ty:TE):TE:=fun b H Q=>e b H fun x c=>∃ a D,x=.ref a/\Ga K a D/\ty b c fun y d=>∃ k,y=.str k/\Q ((qD D k).getD .non) d
def Ez (J:PE X o q) (L:PE X e ty) (m:M1 X o "get" c e f):PE X (.Call (.Attribute o "get" c) [e] [] f) (NP X.K q ty):=by
 intro b s p H Q I h;refine wpAny_Call_method m.base m.few m.line PySem.F.plainAttrs_dict PySem.F.slot_dict_get PySem.F.type_dict_get (gj (J b s p H _ I h) fun u r ⟨x,w,j,z,a,D,A,T,q1⟩=>?_);subst A;obtain rfl:u=Value.ref a:=z;refine ⟨(T.here j).typeIs,(T.here j).noDict,?_⟩;rw [m.trees];refine acp rfl (Calls.evalArgs_plain (Calls.spliced_cons (gj (L b r p w _ j q1) fun M B ⟨y,n,i,C,k,E,q2⟩=>Calls.spliced_nil ?_)));subst E;obtain ⟨t,rfl⟩:=C;refine call_meetsIn PySem.F.slot_dict_get (T.here i).typeIs PySem.F.entry_dict_get (PySem.F.args_dict_get_2 _ _) (KTD.meets_get1 (h₀:=B.heap) (D:=Uv D)) ⟨T.here i,fun d v g F=>?_,fun l=>?_⟩
 ·rw [oK] at g;unfold qD at q2;cases hd:KTD.datumAt k D with
  |none=>rw [hd] at g;cases g
  | some G=>rw [hd] at g q2;cases g;exact ⟨_,n,i.tok _,Nr (h:=s.heap) F,q2⟩
 ·rw [oK] at l;unfold qD at q2;cases hd:KTD.datumAt k D with
  |some G=>rw [hd] at l;cases l
  | none=>rw [hd] at q2;exact ⟨.non,n,i.tok _,rfl,q2⟩
end L2
namespace L2
open PySem PySem.Spec PyProof.Rows PySem.SeqAt PySem.Builtin PySem.Builtin.Str
end L2
namespace L2
open PySem PySem.Spec PyProof.Rows PySem.SeqAt
open PySem.Builtin PySem.Builtin.Str
end L2
namespace L2
open PySem PySem.Spec PyProof.Rows PySem.SeqAt
open PySem.Builtin PySem.Builtin.Str
end L2
namespace L2
open PySem PySem.Spec PyProof.Rows PySem.SeqAt PySem.Builtin
end L2
namespace L2
open PySem PySem.Spec PyProof.Rows PySem.SeqAt PySem.W Builtin.ObjectAttr
end L2
namespace L2
open PySem PySem.Spec PyProof.Rows PySem.SeqAt PySem.W
end L2
namespace L2
open PySem PySem.Spec PyProof.Rows
def zX (J:It) (g:TG) (y:TT) (h:TI) (z:TG) (j:TT) (A:TE) (F:List V->Hp->Prop) (W:Nat->Nat->List V->St->Hp->Prop):Prop:=
 ∀ i m d n H,W i m d n H->(J.stop i H/\F d H)∨(J.go i H/\∀ x o,J.yld i H x o->g x n o fun a q=>y a q fun b l=> if b=true then h a l fun r s=>∃ p:Nat->Nat->List V->St->Hp->Prop,(∃ w,p 0 w d a s)/\Ci r z j A (fun e f v=>∃ c,c<m/\W (i+1) c e f v) p else ∃ c,c<m/\W (i+1) c d a l)
def QG (h:TI) (g:TG) (i:TT) (a:TI) (j:TG) (b:TT) (l:TE) (k:Nat) (n:List Nat):TE:=fun c H Q=>h c H fun J f=>∃ W:Nat->Nat->List V->St->Hp->Prop,(∃ m,W 0 m [] (jU k n c) f)/\
 zX J g i a j b l (fun d e=>d.length≤sizeLine/\∀ p,e p=none->Q (.ref p) (upd e p (.lst d))) W
def Ao (A:X.calm=true) (hg:∀ e C c d r,PG (eH X scope N' e C c d r) tg g) (hc:∀ e C c d r,p_ (eH X scope N' e C c d r) ifs tt)
 (hi2:∀ e C c d r,PI (eH X scope N' e C c d r) tg2 iter2 wi2) (hs2:∀ env x,foldedSetIterable iter2 env x=pure x) (hg2:∀ e C c d r,PG (eH X scope N' e C c d r) tg2 g2) (hc2':∀ e C c d r,p_ (eH X scope N' e C c d r) ifs2 tt2) (he:∀ e C c d r,PE (eH X scope N' e C c d r) elt te)
 (T:Turn X.prog X.w X.K tg J fp it tn) (turn:zX J g tt wi2 g2 tt2 te F W):yE X scope N' fp tn it (.ListComp elt [⟨tg,iter,ifs,0⟩,⟨tg2,iter2,ifs2,0⟩] scope pos) W F e f j:=by
 intro C o R O ha hR s D H m I st fr w0;refine JS (Y:=eH X scope N' e C f j fp) (α:=List V×List Value×Nat) (iter:=iter) (B:=fun k=>do
  let x ← eval iter2 (compEnvC scope e C X.env)
  standAt iter2.pos
  let x ← foldedSetIterable iter2 (compEnvC scope e C X.env) x
  let _ ← runOwn (.compStart (.ListComp elt [⟨tg,iter,ifs,0⟩,⟨tg2,iter2,ifs2,0⟩] scope pos) 1 (← holding [x] (pyIter x)) (.ref o) (compEnvC scope e C X.env)) (compEnvC scope e C X.env)
  k) (fun a=>[(o,gZ a.2.1 a.2.2)]) ⟨fun _=>rfl,fun _ _=>rfl⟩ T (hg _ _ _ _ _) (hc _ _ _ _ _) A (fun _ _ z=>z) (fun a b P H hn=>?_) (fun i m a=>W i m a.1)
  (fun i m a D H=>wi2 D H fun J2 H4=>∃ W2:Nat->Nat->List V->St->Hp->Prop,(∃ m2,W2 0 m2 a.1 D H4)/\Ci J2 g2 tt2 te (fun L l S=>∃ M,M<m/\W (i+1) M L l S) W2)
  (fun a=>Vals a.1 a.2.1) (fun _=>True) (fun i m a D H rv w=>(turn i m a.1 D H w).imp (fun z=>⟨z.1,fun s I=>hR s D H _ _ _ I rv z.2⟩) fun z=>⟨z.1,trivial,z.2⟩) (fun i m a D H h s rv _ q ho I k Q E z=>?_) (a:=([],[],0)) I st fr .nil w0
 ·obtain ⟨f0,f1,f2,f3,f4,f5⟩:=(O b P).1 H hn;refine ⟨f0,f1,f2,f3,f4,fun p U=>?_⟩;obtain rfl:p=(o,gZ a.2.1 a.2.2):=by simpa using (show p∈([]:YI)++_ from U)
  exact aas (O b P).2
 ·refine aaa (aat (hi2 _ _ _ _ _ _ s D H _ I q) (fun v s8 h8=>?_) (fun _ _ z=>z.elim));refine aaa (aa4 ?_);rw [hs2 _ v];refine aaa (aad (aaa (aaS (aat h8 (fun ae s9 h9=>?_) (fun _ _ z=>z.elim)))));obtain ⟨ad,af,ag,J2,H9,e9,I9,T2,aa,f9,W2,⟨m2,w2⟩,N⟩:=h9;subst e9;have G:∀ R':Result->Shared->Prop,(∀ n,(∃ M,M<m/\∃ (Z:List V×List Value×Nat) (l:St) (S:Hp),Inv (eH X scope N' e C f j fp) ([(o,gZ Z.2.1 Z.2.2)]++lE fp h) l S n/\Vals Z.1 Z.2.1/\W (i+1) M Z.1 l S)->R' (.ok .next) n)->
   codeAny (model X.prog X.w) X.A (.compLoop (.ListComp elt [⟨tg,iter,ifs,0⟩,⟨tg2,iter2,ifs2,0⟩] scope pos) 1 (.ref ad) (.ref o) (compEnvC scope e C X.env)) R' s9:=fun R' hQ=>
   Pj (Y:=eH X scope N' e C f j fp) (ps:=lE fp h) W2 N T2 ⟨fun _=>rfl,fun _ _=>rfl⟩ (hg2 _ _ _ _ _) (hc2' _ _ _ _ _) (he _ _ _ _ _) A (fun _ _ z=>z)
    (fun b P=>by obtain ⟨_,a1,a2,a3,a4,a5⟩:=f9 b P;exact ⟨fun _ hn=>⟨hn,a1,a2,a3,a4,fun p U=>a5 p ((aam.mp U).elim (fun y=>aaG _ y) fun y=>aau _ (aan _ y))⟩,aas (a5 (o,gZ a.2.1 a.2.2) (aau _ aao))⟩)
    ⟨ha.1,ha.2.1,ha.2.2.1,ha.2.2.2.1,fun p U=>(O _ (qQ (show p∈lE fp h from U)).1).2⟩ (fun s' l S L ab k' I' ac ⟨M,hm,w'⟩=>hQ s' ⟨M,hm,(L,ab,k'),l,S,I',ac,w'⟩) rv I9 aa (fun b P=>(f9 b P).1) w2;exact aaa (wpAny_runOwn (uW rfl rfl (G _ fun n q=>z n q) (T2.self _ 0 _ _ _ aa (G _ fun n q=>z n q))))
def Jz (S:eN X r own js N') (e:X.calm=true) (m:PI X B v D) (n:∀ c C a b d,PG (eH X r N' c C a b d) B g) (o:∀ c C a b d,p_ (eH X r N' c C a b d) A tt)
 (i:∀ c C a b d,PI (eH X r N' c C a b d) y s wi2) (j:∀ env x,foldedSetIterable s env x=pure x) (l:∀ c C a b d,PG (eH X r N' c C a b d) y g2) (h:∀ c C a b d,p_ (eH X r N' c C a b d) w tt2) (p:∀ c C a b d,PE (eH X r N' c C a b d) z te) (q:∀ x,foldedSetIterable v X.env x=pure x:=by intro _;rfl):PE X (.ListComp z [⟨B,v,A,0⟩,⟨y,s,w,0⟩] r E) (QG D g tt wi2 g2 tt2 te own.length js):=
 zg (CT:=fun _ J F W=>zX J g tt wi2 g2 tt2 te F W) S m (fun _ _ T f=>Ao e n o i j l h p T f) q
open PySem.SeqAt
section
open PySem.F
end
noncomputable def zP (v d:Zl):HO:=.ext fun h=>h.IsItemsView v d
def HN (x:h.IsItemsView v d):gr P w H h v (zP v d):=by
 refine ⟨x,?_,fun a b z k=>?_⟩
 ·obtain ⟨o,e,_⟩:=x;exact ⟨o,e⟩
 ·obtain ⟨o,e,r⟩:=z;exact ⟨o,k _ e,r⟩
def Hm:typeLookup (.type "dict_items") "__len__" = pure (some (.builtin "dict_items.__len__")):=by rw [typeLookup_type,builtinLookup_eq_fast];kernel_rfl
section
variable {K:Type} [DecidableEq K]
end
open PySem.W
end L2
namespace L2
open PySem PySem.Spec PyProof.Rows
open PySem.SeqAt PySem.W
end L2
namespace L2
open PySem PySem.Spec PyProof.Rows PySem.SeqAt
def qw (h:ZI) (d:Zl) (a:Array DictEntry) (b:Nat):Prop:=∃ o,h.get? d=some o/\o.ExactDict/\o.data=.dict a b
def qw.ty {s:Zp} (x:qw s.heap d a b):s.TypeIs (.ref d) "dict":=let ⟨o,h,c,_⟩:=x;⟨o,h,c.1⟩
def qw.at (x:qw h d b c) (k:∀ o,h.get? d=some o->a.get? d=some o):qw a d b c:=let ⟨o,e,r⟩:=x;⟨o,k _ e,r⟩
noncomputable def p8 (d:Zl) (i n a:Nat):Obj:={ cls:=.type "dict_keyiterator",data:=.fields #[.ref d,.int i 0,.int n 0,.int a 0] }
noncomputable def vC {s:Zp} {e:Array DictEntry} {Q:ZU} (b:(d == sysModules)=false) (m:qw s.heap d e g) (q:Q (.ref s.heap.objs.size) { s with heap:=s.heap.push (p8 d 0 e.size g) }):wpAny (model f w) A (pyIter (.ref d)) Q E s:=by obtain ⟨o,a,c,hd⟩:=id m;refine wpAny_pyIter_slot m.ty PySem.F.slot_dict_iter (abh PySem.F.slot_dict_iter m.ty PySem.F.entry_dict_iter ?_ (PySem.F.args_dict_iter_1 _));unfold Builtin.«dict.__iter__» Builtin.Dict.dictSlotNone;refine aaa (aaa (wpAny_notOrdered_dict m.ty (aad ?_)));show wpAny _ _ (Builtin.Dict.showsAll d >>= _) _ _ s;unfold Builtin.Dict.showsAll;rw [b];refine aaa (aad (aaa (acB a hd (aaa (wpAny_dictEpoch a hd (aaa (aaU (aad ⟨_,rfl,"dict_keyiterator",_,⟨_,aav _ rfl,rfl⟩,ace.lookup,?_⟩))))))));simpa [rawInt,p8] using q
def yK {h:ZI} (e:h.get? a=some (p8 d i n b)):h.IsKeyIter a d i n b:=⟨_,e,rfl,rfl⟩
def wu (t:s.heap.IsKeyIter l d i n.size p) (m:qw s.heap d n p) (j:i<n.size)
 (q:∀ c,c.IsKeyIter l d (i+1) n.size p->Heap.SameBut l s.heap c->Q (some n[i].key) { s with heap:=c }):wpAny (model r w) A (pyNext (.ref l)) Q E s:=by
 obtain ⟨o,e,g,hd⟩:=id t;obtain ⟨od,a,h,b⟩:=id m;have own:Builtin.Dict_items.ownsTuple "dict_keyiterator" = false:=by decide
 unfold pyNext;refine aaa (wpAny_attempt (wpAny_callSpecial?_slot (name:=Str.ofString "__next__") t.typeIs ace (abh ace t.typeIs adl ?_ (adm _))));refine aaa (aad (aaa (aaa (aaa (acC t.typeIs (aad (aaa (wpAny_fieldsOf e hd ?_))))))));simp only [own,abd,if_false];show wpAny _ _ (if (Value.ref d == Value.none)=true then _ else _) _ _ s;rw [aab (show ¬ ((Value.ref d == Value.none)=true) from aay)];refine aaa (aad (aaa (acB a b ?_)));rw [aab (by simp)];refine aaa (aad (aaa (wpAny_dictEpoch a b ?_)));rw [aab (by simp)];refine aad ?_;simp only [show ¬ ((i:Int)<0) from by omega,if_false,abG,adk j];refine aaa (aaa (acC t.typeIs (aad (aaa (wpAny_isOneOf_keyiter t.typeIs ?_)))));show wpAny _ _ (setField (.ref l) 1 (rawInt ((i:Int)+1)) >>= _) _ _ s;refine aaa (abr e hd (by simp) ?_);have f:(s.heap.update l (Obj.mapFields (·.setIfInBounds 1 (rawInt ((i:Int)+1))))).IsKeyIter l d (i+1) n.size p:=⟨_,aaY _ e (acy (abC hd _)),(ac2 ..).trans g,by rw [abC hd];simp [rawInt]⟩;exact aaa (aaS (aaa (wpAny_isOneOf_keyiter (s:={ s with heap:=s.heap.update l (Obj.mapFields (·.setIfInBounds 1 (rawInt ((i:Int)+1)))) }) f.typeIs (aad (aad ⟨_,rfl,aad (q _ f (ac3 ..))⟩)))))
def M8 (h:A.handled=none) (q:∀ g,(∀ b o,s.heap.get? b=some o->g.get? b=some o)->Q none { s with heap:=g }) :
 wpAny (model d w) A.in1 (newExc (.type "StopIteration") [] >>= raiseNew) (fun c f=>∃ v,c=PySem.Fin.done (Flow.ret v)/\wpAny (model d w) A (pure (some v)) Q E f) (fun e f=>wpAny (model d w) A (do if (← isInstance e (.type "StopIteration"))=true then pure none else throw e) Q E f) s:=by
 refine aaa ?_;simp only [newExc,newTuple];refine aaa (aaU ?_ (by size_fits));refine aaa (m:=firstArgMember _ _) (wpAny_of_eq (a:=Value.none) (by first|rfl|(simp only [firstArgMember];rfl)) ?_);refine aaU ?_ (by size_fits);simp only [raiseNew];refine aaa (wpAny_handled ?_);rw [show A.in1.handled=none from h];refine aaa (aad (wpAny_throw ?_));refine aaa (wpAny_isInstance (T:="StopIteration") (b:=true) ⟨_,aav _ rfl,rfl⟩ isSubtype_stop ?_);exact aad (q _ fun b o e=>aai _ (aai _ e))
def zm (l:A.handled=none) (t:s.heap.IsKeyIter i d p.size p.size v) (m:qw s.heap d p v)
 (q:∀ f,(∀ b o,b≠i->s.heap.get? b=some o->f.get? b=some o)->Q none { s with heap:=f }):wpAny (model r w) A (pyNext (.ref i)) Q E s:=by
 obtain ⟨o,g,n,hd⟩:=id t;obtain ⟨od,a,j,c⟩:=id m;have own:Builtin.Dict_items.ownsTuple "dict_keyiterator" = false:=by decide
 unfold pyNext;refine aaa (wpAny_attempt (wpAny_callSpecial?_slot (name:=Str.ofString "__next__") t.typeIs ace (abh ace t.typeIs adl ?_ (adm _))));refine aaa (aad (aaa (aaa (aaa (acC t.typeIs (aad (aaa (wpAny_fieldsOf g hd ?_))))))));simp only [own,abd,if_false];show wpAny _ _ (if (Value.ref d == Value.none)=true then _ else _) _ _ s;rw [aab (show ¬ ((Value.ref d == Value.none)=true) from aay)];refine aaa (aad (aaa (acB a c ?_)));rw [aab (by simp)];refine aaa (aad (aaa (wpAny_dictEpoch a c ?_)));rw [aab (by simp)];refine aad ?_;simp only [show ¬ ((p.size:Int)<0) from by omega,if_false,abG,Array.getElem?_eq_none (aae _)];refine aaa (aaa (acC t.typeIs (aad ?_)));show wpAny _ _ (setField (.ref i) 0 .none >>= _) _ _ s;refine aaa (abr g hd (by simp) ?_);exact M8 (s:={ s with heap:=s.heap.update i _ }) l fun f k=>q f fun b o h e=>k b o ((aaK _ _ (aas h)).trans e)
noncomputable abbrev uI (a:Y3) (c:Nat):Obj:={ cls:=.type "list",dict:=none,data:=.seq a c,slots:=#[] }
theorem um (J:Nat->Array Value->Shared->Prop) (F:Array Value->Shared->Prop) (sz:n≤sizeLine) (o:∀ i a s,J i a s->a.size=i)
 (step:∀ i a s,i<n->J i a s->wpAny (model d w) A.in1 (pyNext (.ref I)) (fun r b=>∃ v c,r=some v/\b.heap.get? S=some (uI a c)/\J (i+1) (a.push v) { b with heap:=b.heap.update S (Obj.mapSeq (·.push v)) }) (fun _ _=>False) s)
 (f:∀ a s,J n a s->wpAny (model d w) A.in1 (pyNext (.ref I)) (fun r b=>r=none/\F a b) (fun _ _=>False) s) (h:∀ a s,F a s->R (.ok (.ret g)) s) :
 ∀ (k i:Nat) (a:Y3) (s:Zp),i+k=n->J i a s->codeAny (model d w) A (.builtin "list.extend.loop" ⟨[.ref S,.ref I,g],[]⟩) R s
 | 0,i,a,s,e,j=>by obtain rfl:i=n:=e;refine codeAny_builtin adn ?_;rw [ab8 acf _];refine aaa (m:=pyNext (.ref I)) (aat (f a s j) (fun r b q=>?_) fun _ _ z=>z.elim);obtain ⟨rfl,q⟩:=q;exact aad (h a b q)
 | k+1,i,a,s,e,j=>by refine codeAny_builtin adn ?_;rw [ab8 acf _];refine aaa (m:=pyNext (.ref I)) (aat (step i a s (by omega) j) (fun r b q=>?_) fun _ _ z=>z.elim);obtain ⟨v,c,rfl,p,q⟩:=q;have l:=o _ _ _ j;show wpAny _ A.in1 (updateSeq S (·.push v) >>= _) _ _ _;exact aaa (abP p rfl (aad ⟨plainId_quiet acf _,um J F sz o step f h k (i+1) _ _ (by omega) q⟩) (by rw [l];omega) (by show (a.push v).size≤sizeLine+1;rw [Array.size_push,l];omega))
def vD:typeLookup (.type "dict") "__len__" = pure (some (.builtin "dict.__len__")):=by rw [typeLookup_type,builtinLookup_eq_fast];kernel_rfl
def Up (s:Zp) (h:ZI):Prop:=∀ b o,s.heap.get? b=some o->h.get? b=some o
def Cj (X:T = "dict"∨T = "dict_items") (ty:∀ H,Up s H->Shared.TypeIs { s with heap:=H } (.ref x) T) (Y:x<s.heap.objs.size) (nf:io.isFreed=false) (sz:n≤sizeLine)
 (y:∀ g,Up s g->∀ (I:ZU) (P:ZU),I (.ref g.objs.size) { s with heap:=g.push io }->wpAny (model d w) A.in1 (pyIter (.ref x)) I P { s with heap:=g })
 (J:Nat->Array Value->Shared->Prop) (F:Array Value->Shared->Prop) (Z:∀ i a s,J i a s->a.size=i)
 (j0:∀ l c,Up s l->l.get? (s.heap.objs.size+1)=some io->l.get? s.heap.objs.size=some (uI #[] c)->s.heap.objs.size+2≤l.objs.size->J 0 #[] { s with heap:=l })
 (step:∀ i a j,i<n->J i a j->wpAny (model d w) A.in1 (pyNext (.ref (s.heap.objs.size+1))) (fun r h=>∃ v c,r=some v/\h.heap.get? s.heap.objs.size=some (uI a c)/\J (i+1) (a.push v) { h with heap:=h.heap.update s.heap.objs.size (Obj.mapSeq (·.push v)) }) (fun _ _=>False) j)
 (z:∀ a j,J n a j->wpAny (model d w) A.in1 (pyNext (.ref (s.heap.objs.size+1))) (fun r h=>r=none/\F a h) (fun _ _=>False) j) (D:∀ a j,F a j->(∃ c,j.heap.get? s.heap.objs.size=some (uI a c))/\Q a.toList j):wpAny (model d w) A (collect (.ref x)) Q E s:=by
 unfold collect;refine aaa (wpAny_runValue (codeAny_builtin PySem.F.entry_proto_collect ?_));rw [ab8 PySem.F.plain_proto_collect _];refine aaa (m:=newList []) (aaU (aad ⟨plainId_quiet PySem.F.plain_list_iadd _,codeAny_builtin PySem.F.entry_list_iadd ?_⟩));rw [ab8 PySem.F.plain_list_iadd _];show wpAny _ A.in1 (Builtin.List.listExtendWith (.ref s.heap.objs.size) (.ref x) (.ref s.heap.objs.size)) _ _ _;have L:(s.heap.push (uI ([]:Y2).toArray 0)).get? s.heap.objs.size=some (uI ([]:Y2).toArray 0):=aav _ rfl;have B:Up s (s.heap.push (uI ([]:Y2).toArray 0)):=fun b o e=>aai _ e;have z1:(s.heap.push (uI ([]:Y2).toArray 0)).objs.size=s.heap.objs.size+1:=by rw [abq]
 have R:({ cls:=.type "list",data:=.seq ([]:Y2).toArray }:Obj)=uI ([]:Y2).toArray 0:=rfl;rw [R];generalize s.heap.push (uI ([]:Y2).toArray 0)=g at L B z1 ⊢;have S:Builtin.List.listSameRef (.ref s.heap.objs.size) (.ref x)=false:=by simp [Builtin.List.listSameRef,abF Y]
 unfold Builtin.List.listExtendWith;have U:=ty g B;have k2:Up s (g.push io):=fun b o e=>aai _ (B b o e);have C:=ty _ k2;have M:(g.push io).get? s.heap.objs.size=some (uI ([]:Y2).toArray 0):=aai _ L;have N:(g.push io).get? g.objs.size=some io:=aav _ nf;have z2:(g.push io).objs.size=s.heap.objs.size+2:=by rw [abq,z1]
 have t1:((#[]:Y3).push Value.none).pop=#[]:=rfl;rcases X with rfl|rfl
 all_goals
  refine aaa (abI U ?_);simp only [S,show (Value.type "dict" == Value.type "list")=false by decide,show (Value.type "dict" == Value.type "tuple")=false by decide,show (Value.type "dict_items" == Value.type "list")=false by decide,show (Value.type "dict_items" == Value.type "tuple")=false by decide,Bool.or_false,abd,if_false];refine aaa (y g B _ _ (aaa (aaS ?_)));unfold Builtin.List.listLengthHint
  first|refine aaa (acs C vD ?_)|refine aaa (acs C Hm ?_)
  wp_delta
  refine aaa (wpAny_isInstance (b:=true) C (by rw [isSubtype_type];kernel_rfl) ?_);refine aaa (m:=typeOf (.ref x)) (abI C (aad ?_));refine aaa (m:=rule "list.extend.makes-room") (abB (aaa (m:=Builtin.List.listTouch (.ref s.heap.objs.size)) ?_));refine aaa (m:=updateSeq s.heap.objs.size (·.push .none)) (abP M rfl ?_);have O:=aaY (Obj.mapSeq (·.push Value.none)) M rfl;refine abP O rfl (aad ⟨plainId_quiet acf _,?_⟩);have W:=aaY (Obj.mapSeq (·.pop)) O rfl;have p:∀ b o,b≠s.heap.objs.size->(g.push io).get? b=some o->(((g.push io).update s.heap.objs.size (Obj.mapSeq (·.push Value.none))).update s.heap.objs.size (Obj.mapSeq (·.pop))).get? b=some o:=fun b o G e=>(aaK _ _ (aas G)).trans ((aaK _ _ (aas G)).trans e);rw [z1] at N ⊢;refine um J F sz Z step z (fun a j f=>?_) n 0 #[] _ (by omega) (j0 _ _ (fun b o e=>p b o (aal (aaf e)) (k2 b o e)) (p _ _ (Nat.succ_ne_self _) N) W (by rw [ab9,ab9,z2];exact aae _));obtain ⟨⟨c,e⟩,q⟩:=D a j f;exact aaa (m:=load s.heap.objs.size) (wpAny_load e (aad q))
def yZ {h:ZI} {a:Y3} (e:h.get? S=some (uI a c)):∃ b,(h.update S (Obj.mapSeq (·.push u))).get? S=some (uI (a.push u) b):=⟨_,aaY (Obj.mapSeq (·.push u)) e rfl⟩
noncomputable def Jt (O:A.handled=none) (P:(d == sysModules)=false) (m:qw s.heap d v U) (sz:v.size≤sizeLine) (q:∀ f,Up s f->s.heap.objs.size≤f.objs.size->Q (v.toList.map (·.key)) { s with heap:=f }):wpAny (model x w) A (collect (.ref d)) Q E s:=by
 have H:d<s.heap.objs.size:=let ⟨o,e,_⟩:=m;aaf e
 refine Cj (io:=p8 d 0 v.size U) (n:=v.size) (.inl rfl) (fun f k=>qw.ty (s:={ s with heap:=f }) (m.at fun o e=>k d o e)) H rfl sz (fun R k S T h=>vC P (m.at fun o e=>k d o e) h)
  (fun i a j=>(∃ f,j={ s with heap:=f }/\Up s f/\f.IsKeyIter (s.heap.objs.size+1) d i v.size U/\(∃ c,f.get? s.heap.objs.size=some (uI a c))/\s.heap.objs.size≤f.objs.size)/\a.toList=(v.toList.take i).map (·.key)/\i≤v.size)
  (fun a j=>(∃ f,j={ s with heap:=f }/\Up s f/\(∃ c,f.get? s.heap.objs.size=some (uI a c))/\s.heap.objs.size≤f.objs.size)/\a.toList=v.toList.map (·.key)) ?_ ?_ ?_ ?_ ?_
 ·rintro i a j ⟨_,e,l⟩;have:=aax List.length e;simp at this;omega
 ·intro L c k M N z;exact ⟨⟨L,rfl,k,yK M,⟨c,N⟩,by omega⟩,by simp,aaR _⟩
 ·rintro i a j C ⟨⟨f,rfl,k,t,⟨c,g⟩,z⟩,e,l⟩;refine wu t (m.at fun o e=>k d o e) C fun B F p=>?_;have D:B.get? s.heap.objs.size=some (uI a c):=p.extBut _ _ (aal (abt _)) g;have I:∀ b,b<s.heap.objs.size->b≠s.heap.objs.size+1:=fun b G=>aal (ada G);refine ⟨_,c,rfl,D,⟨_,rfl,fun b o y=>?_,?_,yZ D,?_⟩,?_,C⟩
  ·exact (aaK _ _ (abF (aaf y))).trans (p.extBut b o (I b (aaf y)) (k b o y))
  ·obtain ⟨o,J,r⟩:=F;exact ⟨o,(aaK _ _ (aal (abt _))).trans J,r⟩
  ·rw [ab9];exact aaj z (abA p.1.symm)
  ·rw [Array.toList_push,e,aaX,aaI,aaC (by simpa using C)];simp
 ·rintro a j ⟨⟨f,rfl,k,t,⟨c,g⟩,z⟩,e,l⟩;refine zm (by simp [O]) t (m.at fun o e=>k d o e) fun B p=>⟨rfl,⟨B,rfl,fun b o y=>p b o (aal (ada (aaf y))) (k b o y),⟨c,p _ _ (aal (abt _)) g⟩,?_⟩,by rw [e,abj (by simp)]⟩;exact aa1 (aaf (p _ _ (aal (abt _)) g))
 ·rintro a j ⟨⟨f,rfl,k,g,z⟩,e⟩;exact ⟨g,by rw [e];exact q f k z⟩
open PySem.W
def uo:entryFor table "dict_itemiterator.__iter__" = some Builtin.«dict_keyiterator.__iter__»:=entryFor_alias (id':="dict_keyiterator.__iter__") (by kernel_rfl) rfl (by ext) (by kernel_rfl)
def Inv.freeze (I:Inv X r v H s) (e:H d=some (.dK a)) (l:s.heap.get? d=some o):Inv X r v (upd H d (.frz o (.dK a))) s:=by
 have ne:∀ {b u},H b=some u->u≠.dK a->b≠d:=fun f n z=>by subst z;rw [e] at f;exact n (aaM f).symm
 have up:∀ {b u},H b=some u->u≠.dK a->upd H d (.frz o (.dK a)) b=some u:=fun f n=>by rw [bK (ne f n)];exact f
 have h:∀ b u,H b=some u->gr X.prog X.w (upd H d (.frz o (.dK a))) s.heap b u:=fun b u f=>(I.hok b u f).stay (fun _ _ _ q=>q) (fun c q=>up q nofun) (fun c i q=>up q nofun);refine I.step (g':=s.gens) (t':=s.toks) (d':=s.drawn) (ch:=[]) (fun b g=>nomatch g) (fun b u _ _ _ q _=>q) (fun b u _ _ _ q _=>⟨u.slots,q⟩) (fun b u _ _ n=>?_) (fun b u _ q=>⟨u,q⟩) (fun b i q=>up q nofun) (fun b u z q=>up q nofun) (fun b p q=>⟨#[],by rw [up q nofun];simp⟩) (fun m j=>j) (fun b u q=>?_) I.bare
 ·rw [bK (fun z=>by subst z;rw [e] at n;cases n)];exact n
 ·by_cases g:b=d
  ·subst g;rw [a_] at q;cases q;exact ⟨l,h _ _ e⟩
  ·rw [bK g] at q;exact h _ _ q
def Inv.thaw (I:Inv X C D H s) (e:H d=some (.frz o (.dK a))) (B:∀ o u,X.H₀ d≠some (.frz o u)):Inv X C D (upd H d (.dK a)) s:=by
 have ne:∀ {b u},H b=some u->u≠.frz o (.dK a)->b≠d:=fun f n z=>by subst z;rw [e] at f;exact n (aaM f).symm
 have up:∀ {b u},H b=some u->u≠.frz o (.dK a)->upd H d (.dK a) b=some u:=fun f n=>by rw [bK (ne f n)];exact f
 have fr:∀ {b},H b=none->upd H d (.dK a) b=none:=fun {b} n=>by rw [bK (fun z=>by subst z;rw [e] at n;cases n)];exact n
 have i:∀ b u,gr X.prog X.w H s.heap b u->gr X.prog X.w (upd H d (.dK a)) s.heap b u:=fun b u x=>x.stay (fun _ _ _ q=>q) (fun c q=>up q nofun) (fun c h q=>up q nofun);refine ⟨I.ok,I.os,I.bare,⟨I.base.keep,I.base.slot,fun b u q n x=>fr (I.base.free b u q n x),I.base.there,fun b h q=>up (I.base.tups b h q) nofun,fun b u z q=>?_,fun b l q=>?_⟩,I.loc,I.cell,fr I.free,fun x c q=>fr (I.freeC x c q),fun p r=>?_,fun b u q=>?_,I.len⟩
 ·rw [bK (fun y=>by subst y;exact B _ _ q)];exact I.base.frzs b u z q
 ·obtain ⟨g,m⟩:=I.base.tbls b l q;exact ⟨g,up m nofun⟩
 ·obtain ⟨v,w,A⟩:=I.pin p r;exact ⟨v,fr w,A⟩
 ·by_cases j:b=d
  ·subst j;rw [a_] at q;cases q;exact i _ _ (show gr X.prog X.w H s.heap b (.frz o (.dK a)) from I.hok _ _ e).2
  ·rw [bK j] at q;exact i _ _ (I.hok _ _ q)
def Xe (t:TE):TE:=fun c H Q=>∃ d a,H d=some (.dK a)/\∀ o,t c (upd H d (.frz o (.dK a))) fun v b=>b d=some (.frz o (.dK a))/\Q v (upd b d (.dK a))
def zY (h:PE X e t):PE X e (Xe t):=by
 intro a s l H Q I q;obtain ⟨d,i,b,q⟩:=q;obtain ⟨_,_,_,_,o,p,r,j,_⟩:=zE I.hok b;have g:∀ o u,X.H₀ d≠some (.frz o u):=fun o u z=>by have:=I.base.frzs d o u z;rw [b] at this;cases this
 refine gj (h a s l _ _ (I.freeze b j) (q o)) fun u m ⟨v,n,c,r1,f,q1⟩=>⟨v,_,c.thaw f g,r1,q1⟩
def Uw (r:(gW P w).is k u=true):RelV (kV k) u:=by
 rcases gO (show uv k u=true from r) with ⟨i,t,rfl,rfl⟩|⟨x,t,rfl,rfl⟩
 ·exact ⟨t,rfl⟩
 ·exact ⟨t,rfl⟩
theorem KV.at (r:KV a vs):∀ {i:Nat} {x:Key×V},a[i]?=some x->∃ u,vs[i]?=some (x.1,u)/\RelV x.2 u:=by
 induction r with
 |nil=>intro i x e;simp at e
 | cons h t b=>
   intro i x e;cases i with
   | zero=>simp at e;subst e;exact ⟨_,by simp [h.1],h.2⟩
   |succ i=>exact (b (i:=i) (by simpa using e)).imp fun u z=>⟨by simpa using z.1,z.2⟩
noncomputable def WY (o:Obj):Nat:=match o.data with|.dict _ a=>a|_=>0
noncomputable def mK (ok:nJ P w H h) (e:H d=some (.frz o (.dK a))):∃ vs,KV a vs/\h.DictAt (gW P w) d vs (WY o)/\(d == sysModules)=false:=by obtain ⟨c,_,f,vs,r,i,g,j,b,x,dd,z⟩:=(show gr P w H h d (.frz o (.dK a)) from ok _ _ e);rw [c] at b;cases b;exact ⟨vs,r,⟨o,g,c,x,by rw [dd];simp [WY,dd],z⟩,f⟩
def Itm (d:Zl) (o:Obj) (a:List (Key×V)):It:=
 ⟨fun i H=>H d=some (.frz o (.dK a))/\i<a.length,fun i H v b=>∃ p x,H p=none/\v=.ref p/\a[i]?=some x/\b=upd H p (.tup [kV x.1,x.2]),fun i H=>H d=some (.frz o (.dK a))/\a.length≤i⟩
set_option tactic.hygienic true in
def Br {P:ZB} {w:ZE} {K:Zs} {B:YR} {k1} {Y:Pos} (d c:Zl) (o:Obj) (a:List (Key×V)):Turn P w K (.Tuple B k1 Y) (Itm d o a) [c] c (fun i h=>∃ ok m,IsItemIter h c d i a.length (WY o) ok m) where
 mem:=by simp
 obj:=fun i h g b f=>by obtain ⟨ok,m,e⟩:=g;cases aak.mp f;exact ⟨_,e,fun v z=>by cases (show Data.fields _=Data.cell v from z)⟩
 keep:=fun i h D g k=>let ⟨ok,m,e⟩:=g;⟨ok,m,k c (by simp) _ e⟩
 item:=by
  intro X S T U hc i j s σ H E I C g W;subst S T U;obtain ⟨hd,hi⟩:=W;obtain ⟨vs,r,n,_⟩:=mK I.hok hd;obtain ⟨ok,m,e⟩:=g;have hx:a[i]?=some a[i]:=by simp [hi]
  obtain ⟨u,hu,ru⟩:=KV.at r hx;rw [KV.length r] at e;refine wpAny_pyNext_items_item e n hu fun G D hk Z p aa l=>?_;refine ⟨_,rfl,?_⟩;obtain ⟨M,N,f2,O,Q,R⟩:=C c (by simp);have x:c<s.heap.objs.size:=aaf e;have I1:Inv X j σ (upd H s.heap.objs.size (.tup [kV a[i].1,a[i].2])) { s with heap:=D,toks:=s.toks }:=by
   refine I.turnLaid (fp:=[c]) (fun b o f z=>l b o (fun q=>f (by simp [q])) z) (fun b f=>?_) C (aae _) ?_
   ·cases aak.mp f;exact ⟨_,Z⟩
   ·exact ⟨by show 2≤sizeLine;decide,[G,u],.cons (Uw hk) (.cons ru .nil),⟨_,p,rfl,_,rfl⟩⟩
  have y:∀ b∈[c],(upd H s.heap.objs.size (.tup [kV a[i].1,a[i].2])) b=none:=fun b f=>by cases aak.mp f;rw [bK (aal x)];exact M
  refine wpAny_letOwnedTupleGo_items Z fun g2 J L=>?_;refine ⟨.ref s.heap.objs.size,_,I1.turned (t':=s.toks) (fun b o f z=>(L.2 b f).trans z) (y c (by simp)) N O Q R,rfl,⟨s.heap.objs.size,a[i],I.hok.fresh (aae _),rfl,hx,rfl⟩,⟨_,_,by rw [KV.length r];exact J⟩,y⟩
 done:=by intro X S T U hc i j s σ H E I C g W;subst S T U;obtain ⟨hd,hi⟩:=W;obtain ⟨vs,r,n,_⟩:=mK I.hok hd;obtain ⟨ok,m,e⟩:=g;obtain ⟨M,N,f2,O,Q,R⟩:=C c (by simp);rw [KV.length r] at e;refine wpAny_pyNext_items_end (I.ok.hd hc) e n (by have:=KV.length r;simp;omega) fun D ex=>?_;exact ⟨rfl,I.turned (t':=s.toks) (fun b o f z=>ex b o f z) M N O Q R⟩
 self:=fun _ _ _ _ _ g h=>by obtain ⟨ok,m,e⟩:=g;rename_i A _ s _ _;have ty:Shared.TypeIs s (.ref c) "dict_itemiterator":=⟨_,e,rfl⟩;refine wpAny_pyIter_slot ty F.slot_dict_itemiterator_iter (abh F.slot_dict_itemiterator_iter ty uo ?_ (F.args_dict_itemiterator_iter_1 _));show wpAny _ _ (ret (.ref c)) _ _ s;exact aad ⟨_,rfl,"dict_itemiterator",_,ty,F.slot_dict_itemiterator_next.lookup,h⟩
def RV (e:TE):TI:=fun c H R=>e c H fun x b=>∃ v d o a,x=.ref v/\b v=some (zP v d)/\b d=some (.frz o (.dK a))/\R (Itm d o a) b
noncomputable def zq {f:YR} {k1} {pt:Pos} {e:ZO} {l:TE} (z:PE X e l):PI X (.Tuple f k1 pt) e (RV l):=by intro c s y H R I h;refine gj (z c s y H _ I h) fun u g ⟨x,m,a,r1,v,d,o,i,n,p,hd,q⟩=>?_;subst n;cases (show u=Value.ref v from r1);obtain ⟨vs,r,j,_⟩:=mK a.hok hd;refine wpAny_pyIter_items (a.hok v _ p).1 j ?_;refine ⟨g.heap.objs.size,[g.heap.objs.size],_,_,m,rfl,a.kept (t':=g.toks) (fun b u e=>aai _ e),Br d _ o i,⟨.none,.none,by rw [KV.length r];exact aav _ rfl⟩,fun b w=>?_,q⟩;cases aak.mp w;exact a.fpOk (aae _) (a.hok.fresh (aae _))
def O1:V->List V->Hp->VK->Prop:=fun x vs H Q=>∃ a o b,x=.ref a/\vs=[]/\H a=some (.frz o (.dK b))/\∀ v,H v=none->Q (.ref v) (upd H v (zP v a))
def uV:L_ X "dict.items" O1:=by
 intro f s n H x vs v p Q I l m h;obtain ⟨a,o,g,rfl,rfl,i,q⟩:=h;cases (show v=Value.ref a from l);cases m;obtain ⟨vs,_,c,j⟩:=mK I.hok i;have hd:=c.dictOf;exact call_meetsIn adb hd.typeIs PySem.F.entry_dict_items (PySem.F.args_dict_items_1 _) (meets_dict_items _ a j)
  ⟨⟨vs,hd⟩,.ref s.heap.objs.size,_,I.laid (t':=s.toks) (a:=s.heap.objs.size) (fun b o e=>aai _ e) (aae _) (HN (d:=a) ⟨_,aav _ rfl,rfl,rfl⟩),rfl,q _ (I.hok.fresh (aae _))⟩
noncomputable def vI (v d:Zl):HO:=.ext fun h=>h.IsValuesView v d
def Jb (x:h.IsValuesView v d):gr P w H h v (vI v d):=by
 refine ⟨x,?_,fun a b z k=>?_⟩
 ·obtain ⟨o,e,_⟩:=x;exact ⟨o,e⟩
 ·obtain ⟨o,e,r⟩:=z;exact ⟨o,k _ e,r⟩
def Lw:V->List V->Hp->VK->Prop:=fun x vs H Q=>∃ a o b,x=.ref a/\vs=[]/\H a=some (.frz o (.dK b))/\∀ v,H v=none->Q (.ref v) (upd H v (vI v a))
def Fo:L_ X "dict.values" Lw:=by
 intro f s n H x vs v p Q I l m h;obtain ⟨a,o,g,rfl,rfl,i,q⟩:=h;cases (show v=Value.ref a from l);cases m;obtain ⟨vs,_,c,j⟩:=mK I.hok i;have hd:=c.dictOf;exact call_meetsIn PySem.F.slot_dict_values hd.typeIs PySem.F.entry_dict_values (PySem.F.args_dict_values_1 _) (meets_dict_values _ a j)
  ⟨⟨vs,hd⟩,.ref s.heap.objs.size,_,I.laid (t':=s.toks) (a:=s.heap.objs.size) (fun b o e=>aai _ e) (aae _) (Jb (d:=a) ⟨_,aav _ rfl,rfl,rfl⟩),rfl,q _ (I.hok.fresh (aae _))⟩
def Xk (d:Zl) (o:Obj) (a:List (Key×V)):It:=
 ⟨fun i H=>H d=some (.frz o (.dK a))/\i<a.length,fun i H v b=>b=H/\∃ x,a[i]?=some x/\v=x.2,fun i H=>H d=some (.frz o (.dK a))/\a.length≤i⟩
def yN {P:ZB} {w:ZE} {K:Zs} {tg:ZO} (d j:Zl) (o:Obj) (c:List (Key×V)):Turn P w K tg (Xk d o c) [j] j (fun i h=>h.IsValIter j d i c.length (WY o)) where
 mem:=by simp
 obj:=fun i h a b f=>by obtain ⟨o,e,_,z⟩:=a;cases aak.mp f;exact ⟨_,e,fun v y=>by rw [z] at y;cases y⟩
 keep:=fun i h J a k=>a.at fun o e=>k j (by simp) _ e
 item:=by
  intro X C D F N i m s Z H E I n a G;subst C D F;obtain ⟨hd,M⟩:=G;obtain ⟨vs,r,g,_⟩:=mK I.hok hd;have L:c[i]?=some c[i]:=by simp [M]
  obtain ⟨u,R,S⟩:=KV.at r L;rw [KV.length r] at a;obtain ⟨p,q,T,x,A,B⟩:=n j (by simp);refine wpAny_pyNext_values_item a g R fun J l O=>?_;refine ⟨_,rfl,?_⟩;obtain ⟨o',U,W,Y⟩:=id l;refine Gz U W Y (by ext) ?_;exact ⟨c[i].2,H,I.turned (t':=s.toks) (fun b o f z=>O.extBut b o f z) p q x A B,S,⟨rfl,_,L,rfl⟩,by rw [KV.length r];exact l,fun b f=>(n b f).1⟩
 done:=by intro X C D F N i m s Z H E I n a G;subst C D F;obtain ⟨hd,M⟩:=G;obtain ⟨vs,r,g,_⟩:=mK I.hok hd;obtain ⟨p,q,T,x,A,B⟩:=n j (by simp);rw [KV.length r] at a;refine wpAny_pyNext_values_end (I.ok.hd N) a g (by have:=KV.length r;simp;omega) fun J Q=>?_;exact ⟨rfl,I.turned (t':=s.toks) (fun b o f z=>Q b o f z) p q x A B⟩
 self:=fun _ _ _ _ _ a h=>wpAny_pyIter_valiter a h
def Ls (e:TE):TI:=fun c H R=>e c H fun x b=>∃ v d o a,x=.ref v/\b v=some (vI v d)/\b d=some (.frz o (.dK a))/\R (Xk d o a) b
noncomputable def Eh {y e:ZO} {j:TE} (z:PE X e j):PI X y e (Ls j):=by intro c s w H R I h;refine gj (z c s w H _ I h) fun u f ⟨x,l,a,r1,v,d,o,g,m,n,hd,q⟩=>?_;subst m;cases (show u=Value.ref v from r1);obtain ⟨vs,r,i,_⟩:=mK a.hok hd;refine wpAny_pyIter_values (a.hok v _ n).1 i ?_;refine ⟨f.heap.objs.size,[f.heap.objs.size],_,_,l,rfl,a.kept (t':=f.toks) (fun b u e=>aai _ e),yN d _ o g,⟨_,aav _ rfl,rfl,by rw [KV.length r];rfl⟩,fun b p=>?_,q⟩;cases aak.mp p;exact a.fpOk (aae _) (a.hok.fresh (aae _))
def yG (S:eN X scope own js N') (l:X.calm=true) (hi:PI X tg iter wi) (hg:∀ d C a c j,PG (eH X scope N' d C a c j) tg g) (hc:∀ d C a c j,p_ (eH X scope N' d C a c j) ifs tt)
 (E:∀ d C a c j,PE (eH X scope N' d C a c j) ke tk) (F:∀ d C a c j,PE (eH X scope N' d C a c j) ve tv) (hs:∀ x,foldedSetIterable iter X.env x=pure x:=by intro _;rfl):PE X (.DictComp ke ve [⟨tg,iter,ifs,0⟩] scope pos) (Sd wi g tt tk tv own.length js):=by
 intro f s G H Q I h;obtain ⟨d,p,r,w⟩:=pL (env:=X.env) scope fun y L hk=>I.ok.has y.1 (S.free y L hk);show wpAny _ X.A (comprehension (.DictComp ke ve [⟨tg,iter,ifs,0⟩] scope pos) scope X.env _ newDict false (eval iter X.env)) _ _ s;refine acZ (use:=none) rfl hs p S.kind S.names (gj (hi f s G H _ I h) fun v s1 M=>gj M fun N s2 O=>?_);obtain ⟨R,fp,tn,J,H2,e,U,T,z,W,Y⟩:=O;subst e;refine Es (RR:=fun i C=>compPost (model X.prog X.w) X.A X.xe none (EP X f G Q) i C) S l hg hc E F r w U T z W Y ?_;intro i C H' Z m IX hm A hL hz B D q;refine ⟨m,hm,fun h' n=>⟨.ref i,_,?_,rfl,q⟩⟩;exact IX.turned (t':=Z.toks) (it:=C) (fun b o P e=>(n.2 b P).trans e) A hL (.inr hz) B D
def yI (h:Nat->St->Hp->Prop) (I:h 0 O P) (J:∀ i a H,i≤M.length->h i a H->H d=some (.frz o (.dK M)))
 (L:∀ i x a H p,M[i]?=some x->h i a H->H p=none->∀ N:St->Hp->Prop,(∀ b j,h (i+1) b j->N b j)->g (.ref p) a (upd H p (.tup [kV x.1,x.2])) fun c w=>tk c w fun y A=>v c A fun z r=>∃ n k,r f=some (.dK n)/\y=kV k/\n.length<sizeLine/\N c (upd r f (.dK (putK n k z))))
 (hd:∀ a H,h M.length a H->F H):∃ W:Nat->Nat->St->Hp->Prop,(∃ m,W 0 m O P)/\yr (Itm d o M) g uP tk v f F W:=by
 refine ⟨fun i m a H=>m=M.length-i/\i≤M.length/\h i a H,⟨M.length,by simp,aaR _,I⟩,?_⟩;rintro i m a H ⟨rfl,G,p⟩;have q:=J i a H G p;by_cases l:i<M.length
 ·refine .inr ⟨⟨q,l⟩,fun x j y=>?_⟩;obtain ⟨B,C,D,rfl,E,rfl⟩:=y;exact L i C a H B E p D (fun b j=>∃ s,s<M.length-i/\s=M.length-(i+1)/\i+1≤M.length/\h (i+1) b j) fun b j q=>⟨M.length-(i+1),by omega,rfl,l,q⟩
 ·have e:i=M.length:=by omega
  subst e;exact .inl ⟨⟨q,aae _⟩,hd a H p⟩
def zN (f:Nat->List V->St->Hp->Prop) (A:D.length≤sizeLine) (B:f 0 [] E G) (r:∀ i a b H,i≤D.length->f i a b H->H d=some (.frz o (.dK D)))
 (C:∀ i x a b H,D[i]?=some x->a.length=i->f i a b H->∀ N:List V->St->Hp->Prop,(∀ c m n,c.length=i+1->f (i+1) c m n->N c m n)->g x.2 b H fun j s=>q j s fun y w=>N (a++[y]) j w)
 (hd:∀ a b H,a.length=D.length->f D.length a b H->F a H):CW (Xk d o D) g uP q F E G:=
 oN f A B (fun a b H l p=>⟨⟨r _ a b H (aae _) p,aae _⟩,hd a b H l p⟩) fun i a b H h l p=>⟨⟨r i a b H (aa1 h) p,h⟩,fun v _ ⟨e,x,z,y⟩=>by subst e y;exact C i x a b _ z l p⟩
def Ea:bootBuiltins "dict" = some (.type "dict"):=by ext
noncomputable def rO:jd X (.type "dict") (fun c H Q=>∃ a b,c=[.ref a]/\H a=some (.dK b)/\∀ p,H p=none->Q (.ref p) (upd H p (.dK b))):=by intro d s l H c m Q I r h;obtain ⟨a,b,rfl,g,q⟩:=h;obtain ⟨u,rfl,i⟩:=vals1 r;cases (show u=Value.ref a from i);exact Hc I (.inl g) fun p j e f=>⟨.ref p,_,f,rfl,q p e⟩
def Yk (r:V->List V->Hp->VK->Prop) (e:TE):TE:=fun d H Q=>e d H fun x c=>(∃ a o b,x=.ref a/\c a=some (.frz o (.dK b)))/\r x [] c Q
def z_ {X:Cx} {o:ZO} {M:TE} {F:Str} {G J:Pos} {L:String} {r:V->List V->Hp->VK->Prop} (f:Slot "dict" F L) (g:typeOf (.builtin L)=pure (.type "method_descriptor")) (B:L_ X L r) (C:PE X o M)
 (d:attributeBase o F X.env (eval o X.env)=eval o X.env:=by rfl) (e:(G.endLine == J.line)=true:=by rfl):PE X (.Call (.Attribute o F G) [] [] J) (Yk r M):=by
 intro c s n H Q I h;refine wpAny_Call_method0_late d e (gj (C c s n H _ I h) fun v p ⟨x,q,i,r1,⟨a,D,w,y,A⟩,q1⟩=>?_);subst y;cases (show v=Value.ref a from r1);obtain ⟨vs,_,⟨j,E,l,m,_⟩,_⟩:=mK i.hok A;exact ⟨"dict",L,PySem.F.plainAttrs_dict,f,g,⟨j,l,m.1⟩,fun b z=>by cases z;exact ⟨j,l,m.2.1⟩,acp rfl (PySem.evalArgs_none (B c p n q (.ref a) [] _ [] Q i rfl .nil q1))⟩
end L2
namespace L2
open PySem PySem.Spec PyProof.Rows PySem.W PyProof.V
noncomputable def qd (a:Zl) (v:ZH):Bool:=match v with|.ref b=>a == b|_=>false
def ym (h:qd a v=true):v=.ref a:=by
 unfold qd at h;split at h
 ·rw [aaW.mp h]
 ·cases h
def Nu (K:Zs) (a:Zl) (D:YO):Prop:=KTD.tabLook qd (fun b=>K.lookup b) a D=true
section
variable {X:Cx} {dR:YI} {σ:St} {H:Hp} {s:Zp} {a:Zl} {D:YO}
def Nu.of (T:Nu X.K a D) (I:Inv X dR σ H s):KTD.TabOf (fun (d:Zl) v=>v=.ref d) s.heap a D:=KTD.tab_of_look (fun _ _ h=>ym h) (fun b o e=>I.kIn b o e) T
theorem zA (T:KTD.TabOf (fun (d:Zl) v=>v=.ref d) s.heap a D) (e:KTD.datumAt k D=some f) (q:Q (some (.ref f)) { s with toks:=s.toks+1 }) :
 wpAny (model g w) A (dictGet a (.str k tk)) Q E s:=by
 obtain ⟨_,o,b,r,j,x,hd,m⟩:=T;unfold dictGet
 try with_reducible refine aaS ?_
 refine aaa (wpAny_pyHash_str (aaa (KTD.kt_dictFind_strs (s:={ s with toks:=s.toks+1 }) j hd (by obtain ⟨l⟩:=b;simpa using m.exact) ?_)));have c:Q (findBy (fun k v=>v.isStr k) b k) { s with toks:=s.toks+1 }:=by
  have n:findBy (fun k v=>v.isStr k) b k=(b.toList.find? fun e=>e.key.isStr k).map (·.val):=by obtain ⟨l⟩:=b;simp [findBy]
  rw [n];obtain ⟨v,p,h⟩:=m.find_some e;rw [p,h];exact q
 rw [findBy_of_findIdx?] at c;cases hi:b.findIdx? fun e=>e.key.isStr k with
 |none=>rw [hi] at c;exact aad c
 |some i=>rw [hi] at c;exact aaa (acB (s:={ s with toks:=s.toks+1 }) j hd (aad c))
def Ku (K:Zs):R2:=fun x y H Q=>∃ a k D f,x=.ref a/\y=.str k/\Nu K a D/\KTD.datumAt k D=some f/\Q (.ref f) H
def MK:Kh X (Ku X.K):=by
 intro c d i s A H x y v u Q I m n h p;obtain ⟨a,k,D,f,rfl,rfl,T,e,q⟩:=h;cases (show v=Value.ref a from m);obtain ⟨t,rfl⟩:=n;have g:=T.of I;have b:s.TypeIs (.ref a) "dict":=by obtain ⟨_,o,r,w,j,l,hd,z⟩:=g;exact ⟨o,j,l.1⟩
 refine tail_any b slot_dict_getitem.lookup ?_ p;unfold getItem
 try with_reducible refine aaS ?_
 refine aaa (acW b (by decide) ?_);refine aaa (wpAny_callSpecial?_slot (name:=Str.ofString "__getitem__") b slot_dict_getitem (abh slot_dict_getitem b entry_dict_getitem ?_ (args_dict_getitem _ _)));show wpAny _ _ (dictGet a (.str k t) >>= _) _ _ s;exact aaa (zA g e (aad ⟨_,rfl,aad ⟨.ref f,H,I.tok _,rfl,q⟩⟩))
structure Callee (X:Cx) (f:Zl) (sp:Sp) (E:XK):Prop where
 ex:∃ CX k fd ps,dw X.prog X.w X.K X.mg X.base CX k f fd ps sp/\eX k X.A/\Binds X.K fd ps []/\gJ CX X E
 kp:keepIn X.K (.ref f)=true
def QW (X:Cx) (j:Nat) (t:TA):TE:=fun b H Q=>∃ f c E,b[j]?=some (some (.ref f))/\Callee X f c E/\t b H fun vs d=>c vs d Q E
def Im (R:X.N[j]?=some x) (S:Tq X.env.scope x) (T:PA X (e::n) t) (hd:(x == ("__debug__" : Str))=false:=by decide) (w:(x == ("__classdict__" : Str))=false:=by decide)
 (U:starEach (e::n) X.env=(false,eval e X.env)::starEach n X.env:=by rfl) (y:(backTo g (starEach n X.env)).any (·.1)=false:=by rfl):PE X (.Call (.Name x p) (e::n) [] g) (QW X j t):=by
 intro i s O H Q I h;obtain ⟨f,sp,E,B,C,h⟩:=h;obtain ⟨CX,k,fd,ps,F,G,J,L⟩:=C.ex;refine aa9 ?_;have d:∀ o:Value->Shared->Prop,o (.ref f) s->wpAny (model X.prog X.w) X.A (eval (.Name x p) X.env) o X.xe s:=fun o v=>by
  obtain ⟨m,M,N⟩:=I.loc;obtain ⟨u,r,l⟩:=N j x (.ref f) R B S;cases (show u=Value.ref f from r);rcases l with ⟨hk,P⟩|⟨hk,c,A,b⟩
  ·exact abo (acI I.ok.kind hk M P v) hd
  ·rcases hk with hk|hk
   ·exact abo (acJ I.ok.kind hk A b v) hd
   ·exact abo (acK I.ok.kind hk A b v w) hd
 refine d _ ?_;refine callWith_K (h₀:=X.base) I.ok.mod.kin C.kp (gj (T g i s O H _ I h) fun W Y ⟨vs,Z,z,r,q⟩=>⟨z.kIn,?_⟩) U y;exact uC F G J .nil L z r (by rw [aaO];exact q)
end
end L2
namespace L2
open PySem PySem.Spec PyProof.Rows PySem.SeqAt
noncomputable def G_ (C:Zl) (m:Str) (l:Sp) (n:List V->List V->List V) (E:XK) (p:TE) (t tk:TA):TE:=fun b H Q=>p b H fun x c=>∃ a j fs,x=.ref a/\c a=some (.ins C j fs)/\fs.lookup m=none/\t b c fun vs d=>tk b d fun h i=>l (n (.ref a::vs) h) i Q E
def JP (W:PE X o ta) (c:vy X.K C) (G:Meth X.K C m f) (F:dw X.prog X.w X.K X.mg X.base CX k f fd ps sp) (Y:eX k X.A) (Z:jF X.K fd ps ks g gV) (hx:gJ CX X E)
 (ha:PA X (e::es) t) (v:PK X kws tk) (i:(backToKw pos (keywordEach kws X.env)).all (·.1.isSome)=true:=by rfl) (w:(backToKw pos (keywordEach kws X.env)).filterMap (·.1)=ks:=by rfl)
 (y:starEach (e::es) X.env=(false,eval e X.env)::starEach es X.env:=by rfl)
 (z:((backTo pos (starEach (e::es) X.env)).any (·.1) || (backToKw pos (keywordEach kws X.env)).any (·.1.isNone))=false:=by rfl)
 (ht:eval (.Call (.Attribute o m apos) (e::es) kws pos) X.env=(do
  let D ← eval o X.env
  standAt apos.atName
  let (f,b) ← holding [D] (getMethod D m p)
  callWith pos f b (backTo pos (starEach (e::es) X.env)) (backToKw pos (keywordEach kws X.env))):=by rfl) :
 PE X (.Call (.Attribute o m apos) (e::es) kws pos) (G_ C m sp gV E ta t tk):=by
 intro d s n H Q I h;refine acm (pl:=p) (gj (W d s n H _ I h) fun u J ⟨x,L,j,M,a,dx,fs,N,O,l,q⟩=>?_) ht;subst N;obtain rfl:u=Value.ref a:=M;refine mU j O c G l ?_;refine PySem.W.callWith_KW (first:=[.ref a]) (h₀:=X.base) j.ok.mod.kin G.kp i (gj (ha pos d J n L _ j q) fun A P ⟨vs,R,S,r,q2⟩=>?_) z y;refine gj (v pos d P n R _ S q2) fun ws s3 ⟨zs,H3,B,T,U⟩=>⟨B.kIn,?_⟩;rw [w];exact N5 (us:=.ref a::A) (vs:=.ref a::vs) F Y Z hx B (.cons rfl r) T U
end L2
namespace L2
open PySem PySem.Spec PyProof.Rows
theorem jM:∀ {a:Y2} {b:Y1},PyProof.Rows.StrsAre a b->Vals (b.map V.str) a
 |_,_,.nil=>.nil
 |_,_,.cons _ _ h=>.cons ⟨_,rfl⟩ (jM h)
theorem p7:∀ {a:Y1} {b:Y2},Vals (a.map V.str) b->PyProof.Rows.StrsAre b a
 |[],_,h=>by cases h;exact .nil
 | s::a,_,h=>by
   cases h with
   | cons r t=>obtain ⟨c,rfl⟩:=r;exact .cons _ _ (p7 t)
def p6:jd X (.builtin "sorted") (fun j H Q=>∃ p g,j=[.ref p]/\fM X.K H p (g.map V.str)/\g.length<64/\∀ (d:Y1) l,d.Perm g->sortedS d=true->H l=none->Q (.ref l) (upd H l (.lst (d.map V.str)))):=by
 intro v s J H j L Q I r h;obtain ⟨p,g,rfl,B,F,q⟩:=h;obtain ⟨u,rfl,C⟩:=vals1 r;cases (show u=Value.ref p from C);obtain ⟨i,n,D,G⟩:=I.list B;have y:=p7 n;have z:i.length=g.length:=by rw [← n.length,aag]
 refine sorted_strs D.isList y (by omega) fun f d w m x=>?_;obtain ⟨c,E⟩:=sortedAll_at s.heap i f;have big:64≤sizeLine:=by decide
 have A:(d.map V.str).length≤sizeLine:=by rw [aag,m.length_eq];omega
 exact ⟨.ref (s.heap.objs.size+1),_,I.laid (t':=s.toks) (a:=s.heap.objs.size+1) (fun b o e=>sortedAll_old e) (abg _) (show gr X.prog X.w _ _ _ (.lst (d.map V.str)) from ⟨A,f.toList,c,jM w,by simpa using E⟩),rfl,q d _ m x (I.hok.fresh (abg _))⟩
theorem vX:∀ {a:Y1} {b:List DictEntry} {vs:List (Key×Value)},Pairs (gW P w) b vs->vs.map (·.1)=a.map Sum.inr->PyProof.Rows.StrsAre (b.map (·.key)) a
 |[],_,_,.nil,_=>.nil
 |_::_,_,_,.nil,e=>by simp at e
 |[],_,_,.cons _ _ _,e=>by simp at e
 | n::a,e::b,v::vs,.cons h _ t,q=>by simp only [aaw,List.cons.injEq] at q;obtain ⟨q1,q2⟩:=q;rw [q1] at h;obtain ⟨tk,hk⟩:=Value.isStrOf_shape (x:=n) (v:=e.key) h;rw [aaw,hk];exact .cons _ _ (vX t q2)
noncomputable def Dy (I:Inv X b x H s) (hd:H d=some (.dK c)) (i:c.map (·.1)=f.map Sum.inr):∃ e g,PyProof.Rows.StrsAre ((e:Array DictEntry).toList.map (·.key)) f/\(d == sysModules)=false/\f.length≤sizeLine/\qw s.heap d e g:=by
 obtain ⟨m,n,vs,p,o,e,g,q,r,a,y,j,v⟩:=zE I.hok hd;have kf:vs.map (·.1)=f.map Sum.inr:=by
  rw [← i];clear i hd j v m;induction p with
  |nil=>rfl
  |cons h _ w=>rw [aaw,aaw,w,h.1]
 have l:=aax List.length i;rw [aag,aag] at l;exact ⟨e,g,vX j kf,n,by omega,o,q,r,a⟩
noncomputable def o_ (W:X.calm=true):jd X (.builtin "sorted") (fun z H Q=>∃ d j v,z=[.ref d]/\H d=some (.dK j)/\j.map (·.1)=v.map Sum.inr/\v.length<64/\∀ (f:Y1) l,f.Perm v->sortedS f=true->H l=none->Q (.ref l) (upd H l (.lst (f.map V.str)))):=by
 intro E s σ H z us Q I r h;obtain ⟨d,j,v,rfl,hd,N,Y,q⟩:=h;obtain ⟨u,rfl,O⟩:=vals1 r;cases (show u=Value.ref d from O);obtain ⟨p,Z,x,P,sz,R⟩:=Dy I hd N;have g:(p.toList.map (·.key)).length=v.length:=by have:=aax List.length x.strs;simpa using this
 have L:p.size=v.length:=by simpa using g
 have big:64≤sizeLine:=by decide
 refine Calls.call_function_entry kind_sorted plain_sorted entry_sorted (args_sorted1 _) ?_;unfold Builtin.«sorted»;refine aaa (m:=checkCount "sorted" 1 1 _) (aad ?_);refine aaa (Jt (by simpa using I.ok.hd W) P R (by omega) fun i F A=>?_);refine aaa (wpAny_newList ?_ (by rw [g];omega));have n:(i.push (seqObj "list" (p.toList.map (·.key)).toArray 0)).get? i.objs.size=some (seqObj "list" (p.toList.map (·.key)).toArray 0):=aav _ rfl;show wpAny _ _ _ _ _ { s with heap:=i.push (seqObj "list" (p.toList.map (·.key)).toArray 0) };refine aaa (aaS (abh slot_list_sort ⟨_,n,rfl⟩ entry_list_sort (list_sort_treeK strKind_oneLt n x.keysOf (fun B C rest e=>keyKind_strs (by rw [← e];exact x)) (by omega) fun w G J=>⟨_,rfl,?_⟩) (args_list_sort _)));obtain ⟨f,S,D,T⟩:=sorted_out_str x G J;have M:(f.map V.str).length≤sizeLine:=by rw [aag,D.length_eq];omega
 obtain ⟨c,U⟩:=sortedHeap_at (out:=(arrOf w).map (·.2)) n;have up:∀ b o,s.heap.get? b=some o->(sortedHeap (i.push (seqObj "list" (p.toList.map (·.key)).toArray 0)) i.objs.size (p.toList.map (·.key)) ((arrOf w).map (·.2))).get? b=some o:=fun b o e=>by have y:=F b o e;rw [sortedHeap_old (aal (aaf y)) (by rw [size_push'];exact ada (aaf y))];exact aai _ y
 exact aad ⟨_,rfl,.ref i.objs.size,_,I.laid (t':=s.toks) (a:=i.objs.size) up A (show gr X.prog X.w _ _ _ (.lst (f.map V.str)) from ⟨M,_,c,jM S,by rw [U]⟩),rfl,q f _ D T (I.hok.fresh A)⟩
open PySem.SeqAt
def JR (U:A.handled=none) (W:(d == sysModules)=false) (m:qw s.heap d E Y) (sz:E.size≤sizeLine) (I:s.heap.get? S=some (uI #[] T)) (G:S≠d)
 (X:∀ h y,(∀ b o,b≠S->s.heap.get? b=some o->h.get? b=some o)->h.get? S=some (uI (E.toList.map (·.key)).toArray y)->R (.ok (.ret .none)) { s with heap:=h }) :
 wpAny (model Z w) A.in1 (Builtin.List.listExtendWith (.ref S) (.ref d) .none)
  (fun B j=>match B with|.done f=>R (.ok f) j|.again y=>y.quiet=true/\codeAny (model Z w) A y R j) (fun e j=>R (.error e) j) s:=by
 have L:Builtin.List.listSameRef (.ref S) (.ref d)=false:=by simp [Builtin.List.listSameRef,G]
 unfold Builtin.List.listExtendWith;have M:=m.ty;have k2:Up s (s.heap.push (p8 d 0 E.size Y)):=fun b o e=>aai _ e;have D:=qw.ty (s:={ s with heap:=s.heap.push (p8 d 0 E.size Y) }) (m.at fun o e=>k2 d o e);have v:=k2 _ _ I;have N:(s.heap.push (p8 d 0 E.size Y)).get? s.heap.objs.size=some (p8 d 0 E.size Y):=aav _ rfl;have z:S<s.heap.objs.size:=aaf I;refine aaa (abI M ?_);simp only [L,show (Value.type "dict" == Value.type "list")=false by decide,show (Value.type "dict" == Value.type "tuple")=false by decide,Bool.or_false,abd,if_false];refine aaa (vC W m (aaa (aaS ?_)));unfold Builtin.List.listLengthHint;refine aaa (acs D vD ?_)
 wp_delta
 refine aaa (wpAny_isInstance (b:=true) D (by rw [isSubtype_type];kernel_rfl) ?_);refine aaa (m:=typeOf (.ref d)) (abI D (aad ?_));refine aaa (m:=rule "list.extend.makes-room") (abB (aaa (m:=Builtin.List.listTouch (.ref S)) ?_));refine aaa (m:=updateSeq S (·.push .none)) (abP v rfl ?_);have H:=aaY (Obj.mapSeq (·.push Value.none)) v rfl;refine abP H rfl (aad ⟨plainId_quiet acf _,?_⟩);have O:=aaY (Obj.mapSeq (·.pop)) H rfl;have x:∀ b o,b≠S->(s.heap.push (p8 d 0 E.size Y)).get? b=some o->(((s.heap.push (p8 d 0 E.size Y)).update S (Obj.mapSeq (·.push Value.none))).update S (Obj.mapSeq (·.pop))).get? b=some o:=fun b o n e=>(aaK _ _ (aas n)).trans ((aaK _ _ (aas n)).trans e);have P:=x _ _ (abF z) N;have o4:∀ b o,b≠S->s.heap.get? b=some o->_:=fun b o n e=>x b o n (k2 b o e);refine um (fun i a j=>(∃ h,j={ s with heap:=h }/\(∀ b o,b≠S->s.heap.get? b=some o->h.get? b=some o)/\h.IsKeyIter s.heap.objs.size d i E.size Y/\∃ c,h.get? S=some (uI a c))/\a.toList=(E.toList.take i).map (·.key)/\i≤E.size)
  (fun a j=>(∃ h,j={ s with heap:=h }/\(∀ b o,b≠S->s.heap.get? b=some o->h.get? b=some o)/\∃ c,h.get? S=some (uI a c))/\a.toList=E.toList.map (·.key)) sz ?_ ?_ ?_ ?_ E.size 0 #[] _ (by omega) ⟨⟨_,rfl,o4,yK P,_,O⟩,by simp,aaR _⟩
 ·rintro i a j ⟨_,e,l⟩;have:=aax List.length e;simp at this;omega
 ·rintro i a j F ⟨⟨h,rfl,k,t,⟨c,g⟩⟩,e,l⟩;refine wu t (m.at fun o e=>k d o G.symm e) F fun C J p=>?_;have v:C.get? S=some (uI a c):=p.extBut _ _ (aal z) g;refine ⟨_,c,rfl,v,⟨_,rfl,fun b o n q=>?_,?_,yZ v⟩,?_,F⟩
  ·exact (aaK _ _ (aas n)).trans (p.extBut b o (aal (aaf q)) (k b o n q))
  ·obtain ⟨o,Q,r⟩:=J;exact ⟨o,(aaK _ _ (aal z)).trans Q,r⟩
  ·rw [Array.toList_push,e,aaX,aaI,aaC (by simpa using F)];simp
 ·rintro a j ⟨⟨h,rfl,k,t,⟨c,g⟩⟩,e,l⟩;refine zm (by simp [U]) t (m.at fun o e=>k d o G.symm e) fun C p=>⟨rfl,⟨C,rfl,fun b o n q=>p b o (aal (aaf q)) (k b o n q),⟨c,p _ _ (aal z) g⟩⟩,by rw [e,abj (by simp)]⟩
 ·rintro a j ⟨⟨h,rfl,k,⟨c,g⟩⟩,e⟩;refine X h c k ?_;rw [g,← e]
def tO (x:A.handled=none) (y:(d == sysModules)=false) (m:qw s.heap d D F) (sz:D.size≤sizeLine)
 (z:∀ g l,(∀ b o,s.heap.get? b=some o->g.get? b=some o)->g.get? s.heap.objs.size=some (uI (D.toList.map (·.key)).toArray l)->Q (.ref s.heap.objs.size) { s with heap:=g }) :
 wpAny (model C w) A (call (.type "list") [.ref d]) Q E s:=by
 refine callType_codes (Q₁:=fun obj a=>obj=.ref s.heap.objs.size/\a={ s with heap:=s.heap.push { cls:=.type "list",data:=.seq #[] } }) PySem.F.called_list (PySem.F.typeCall_list_1 _) PySem.F.entry_list_init
  (code_list_new _ ⟨rfl,rfl⟩) fun obj a f=>?_;obtain ⟨rfl,rfl⟩:=f;have v:d<s.heap.objs.size:=let ⟨o,e,_⟩:=m;aaf e
 have h:(s.heap.push { cls:=.type "list",data:=.seq #[] }).get? s.heap.objs.size=some { cls:=.type "list",data:=.seq #[] }:=aav _ rfl;refine ⟨⟨_,h,rfl⟩,PySem.F.args_list_init_2 _ _,?_⟩;have up:∀ b o,s.heap.get? b=some o->(s.heap.push { cls:=.type "list",data:=.seq #[] }).get? b=some o:=fun b o e=>aai _ e;generalize B:s.heap.push { cls:=.type "list",data:=.seq #[] }=j at h up ⊢;show wpAny _ _ (do let p ← Builtin.List.listItems (.ref s.heap.objs.size);Builtin.List.listUpdate (.ref s.heap.objs.size) (fun _=>#[]);letGo p.toList.reverse;Builtin.List.listExtendWith (.ref s.heap.objs.size) (.ref d) .none) _ _ { s with heap:=j };refine aaa ?_;unfold Builtin.List.listItems;refine aaa (wpAny_seqItems h rfl (aad ?_));show wpAny _ _ (updateSeq s.heap.objs.size (fun _=>#[]) >>= fun _=>letGo (#[]:Y3).toList.reverse >>= fun _=>Builtin.List.listExtendWith (.ref s.heap.objs.size) (.ref d) .none) _ _ { s with heap:=j };refine aaa (abP h rfl ?_);have c:=aaY (Obj.mapSeq (fun _=>(#[]:Y3))) h rfl;have i:∀ b o,b≠s.heap.objs.size->j.get? b=some o->(j.update s.heap.objs.size (Obj.mapSeq (fun _=>(#[]:Y3)))).get? b=some o:=
  fun b o r e=>(aaK _ _ (aas r)).trans e;refine aaa (wpAny_letGo ?_);have q:d≠s.heap.objs.size:=aal v;refine JR (s:={ s with heap:=j.update s.heap.objs.size (Obj.mapSeq (fun _=>(#[]:Y3))) }) (A:=A.in1) x y (m.at fun o e=>i d o q (up d o e)) sz c q.symm fun g l k e=>?_;exact ⟨rfl,z g l (fun b o n=>k b o (aal (aaf n)) (i b o (aal (aaf n)) (up b o n))) e⟩
def yO (x:X.calm=true):jd X (.type "list") (fun f H Q=>∃ (d:Zl) (a:List (Key×V)) (b:Y1),f=[.ref d]/\H d=some (.dK a)/\a.map (·.1)=b.map Sum.inr/\∀ l,H l=none->Q (.ref l) (upd H l (.lst (b.map V.str)))):=by
 intro j s A H f B Q I r h;obtain ⟨d,a,b,rfl,hd,o,q⟩:=h;obtain ⟨u,rfl,p⟩:=vals1 r;cases (show u=Value.ref d from p);obtain ⟨g,z,i,v,sz,w⟩:=Dy I hd o;have c:(g.toList.map (·.key)).length=b.length:=by have:=aax List.length i.strs;simpa using this
 have n:g.size=b.length:=by simpa using c
 refine tO (I.ok.hd x) v w (by omega) fun y m k e=>?_;exact ⟨.ref s.heap.objs.size,_,I.laid (t':=s.toks) k (aae _) (show gr X.prog X.w _ _ _ (.lst (b.map V.str)) from ⟨by rw [aag];exact sz,_,m,jM i,e⟩),rfl,q _ (I.hok.fresh (aae _))⟩
end L2
namespace L2
open PySem
noncomputable def jD (i:Nat) (d:X.N.Nodup) (f:PE X e c) (g:X.N[i]?=some x:=by rfl) (h:Loc X.env.scope x:=by first|exact .inl rfl|exact .inr rfl) (j:swapsWith e (some (.Name x a)) b.line X.env=pure false:=by rfl) (l:X.fn x=true∨X.env.scope.names.lookup x=some .local:=by first|exact .inl rfl|exact .inr rfl|assumption):PS X (.Assign [.Name x a] e b) (Ej c (fH i)):=SN d g h f j l
noncomputable def rZ (i:Nat) (b:X.N.Nodup) (c:X.N[i]?=some x:=by rfl) (d:Loc X.env.scope x:=by first|exact .inl rfl|exact .inr rfl) (e:X.fn x=true∨X.env.scope.names.lookup x=some .local:=by first|exact .inl rfl|exact .inr rfl|assumption):PG X (.Name x a) (fH i):=gn b c d e
noncomputable def n6 (D:gK X.K X.mg x j h f g) (F:dw X.prog X.w X.K X.mg X.base fG k f g h i) (l:eX k X.A) (m:PA X (e::a) t) (n:Gl X x:=by rfl) (c:(x == ("__debug__" : Str))=false:=by decide) (o:starEach (e::a) X.env=(false,eval e X.env)::starEach a X.env:=by rfl) (d:(backTo b (starEach a X.env)).any (·.1)=false:=by rfl):PE X (.Call (.Name x p) (e::a) [] b) (IV i [] E0 t):=eY F l n D.mg D.F.kp D.b .nil dU m c o d
end L2
namespace Cm
open PySem L2
def jX (h:∀ b:Ends,(∀ a c,u D a c->b.nx a c)->t b d H):Gy t u D d H:=h _ fun _ _ x=>x
noncomputable def top (i:Nat):Stmt:=PySem.Challenge.pw_lanescribe_k36_recorders_begun_and_full.main.body.getD i (.Pass ⟨0,0,0,0⟩)
noncomputable def Dv (c:Zl) (a r s:Int):List (Key×V):=[(.inr "cells",.ref c),(.inr "at",.int a),(.inr "rest",.int r),(.inr "seed",.int s)]
def pat:putK (Dv c a r s) (.inr "at") (.int x)=Dv c x r s:=by rfl
def O_:putK (Dv c a r s) (.inr "rest") (.int x)=Dv c a x s:=by rfl
def Oq:putK (Dv c a r s) (.inr "seed") (.int x)=Dv c a r x:=by rfl
def J8 (h:H p=some (.dK (Dv c a r s))):o6 H p (.str "cells") (some (.ref c)):=o6.k (k:=Sum.inr "cells") h
def Xa (h:H p=some (.dK (Dv c a r s))):o6 H p (.str "at") (some (.int a)):=o6.k (k:=Sum.inr "at") h
def CK (h:H p=some (.dK (Dv c a r s))):o6 H p (.str "rest") (some (.int r)):=o6.k (k:=Sum.inr "rest") h
def yQ (h:H p=some (.dK (Dv c a r s))):o6 H p (.str "seed") (some (.int s)):=o6.k (k:=Sum.inr "seed") h
abbrev Tu:Int:=2305843009213693951
structure Dr (H:Hp) (p c:Zl):Prop where
 ex:∃ (ns:List Int) (a r s:Int),H p=some (.dK (Dv c a r s))/\H c=some (.lst (ns.map V.int))/\ns.length≤63/\0≤a/\a≤ns.length/\0≤r/\0≤s/\s<Tu
def Dr.mono (d:Dr H p c) (h:du H b):Dr b p c:=by obtain ⟨e,a,r,s,f,g,k⟩:=d.ex;exact ⟨e,a,r,s,h _ _ f,h _ _ g,k⟩
def Dr.ne (d:Dr H p c) (h:H q=some o) (hd:∀ b,o≠.dK b):q≠p:=by obtain ⟨f,a,r,s,e,_⟩:=d.ex;exact iJ h e (hd _)
def Dr.put (d:Dr H p c) (g:q≠p) (h:q≠c):Dr (upd H q o) p c:=by obtain ⟨b,a,r,s,e,f,k⟩:=d.ex;exact ⟨b,a,r,s,by rw [bK g.symm];exact e,by rw [bK h.symm];exact f,k⟩
def Dr.cell (d:Dr H p c):∃ b,H c=some (.lst b):=by obtain ⟨f,a,r,s,g,e,k⟩:=d.ex;exact ⟨_,e⟩
def Dr.neN (d:Dr H p c) (h:H q=none):p≠q:=by obtain ⟨e,a,r,s,b,_⟩:=d.ex;exact di b h
structure Txt (K:Zs) (mg:ZY):Prop where
 len:mg "len" = none
 range:mg "range" = none
 list:mg "list" = none
 tuple:mg "tuple" = none
 str:mg "str" = none
 bool:mg "bool" = none
 int:mg "int" = none
 min:mg "min" = none
 repr:mg "repr" = none
 all:mg "all" = none
 any:mg "any" = none
 isinstance:mg "isinstance" = none
section
variable {P:ZB} {w:ZE} {K:Zs} {mg:ZY} {base:ZI}
inductive xN (K:Zs) (vs:List V) (H:Hp) (Q:VK) (E:XK):Prop
 |mk (a:Zl) (ns:List Int):vs=[.ref a]->fM K H a (ns.map V.int)->ns.length≤63->(∀ (p c:Zl) (H':Hp),Dr H' p c->du H H'->H p=none->Q (.ref p) H')->xN K vs H Q E
def WQ:dC ["_law_script","_law_seed","_law_cell"] ["_law_script"] (b_ (top 116)):=by ext
def JG (F:iM K "_law_begin" "_law_begin" (top 116) f O) (T:Txt K mg):dw P w K mg base fG 1 f O ["_law_script"] (xN K):=by
 refine F.ok WQ (by ext) fun R A C s H vs Q E X h=>?_;obtain ⟨a,d,rfl,I,m,k⟩:=h;refine ⟨_,(d7 (jD 1 WQ.nd dm) (d7 (lD abv rfl (jx (ie pQ (pv 0) iQ (iR dm))) (rZ 2 WQ.nd) (dj (jD 1 WQ.nd (fj o7 (fj j8 (fj j8 (fj pA (pv 1) dm) (fj pA (pv 2) dm)) dm) dm)))) (dj (dX (M_ (qj dD (gQ pU (by rfl) T.list qm (aK (ie pQ (pv 0) iQ (iR dm)) d9)) (qj dD dm (qj dD dm (qj dD (pv 1) O3)))) rfl rfl (List.cons_ne_nil _ _) (by show 4≤15;decide)))))),?_⟩;have c:jV (d.map V.int) none (some 63)=d.map V.int:=by show ((d.map V.int).drop (HT.je _ 0 none)).take (HT.je _ _ (some ((63:Nat):Int))-HT.je _ 0 none)=_;rw [HT.zL,HT.Cp,ac1,Nat.sub_zero,abj];rw [aag];omega
 refine ⟨_,rfl,_,rfl,a,_,rfl,I,fun q r=>⟨q,rfl,⟨_,fM.of a_⟩,?_⟩⟩;rw [c];have S:∀ o,fM K (upd H q o) a (d.map V.int):=fun o=>(show du H (upd H q o) from fun b u e=>by rw [bK (di e r)];exact e).seq I;refine lY (xs:=d.map V.int) (fun i x B=>∃ (z:Int) (v:Option V),x=[some (.ref a),some (.int z),v]/\0≤z/\z<Tu/\B=upd H q (.lst (d.map V.int)))
  ⟨20011,none,rfl,by decide,by decide,rfl⟩ (fun i x B _ ⟨_,_,_,_,_,e⟩=>by rw [e];exact fM.of a_) ?_ ?_
 ·rintro i y x B W ⟨z,v,rfl,N,J,rfl⟩;obtain ⟨n,-,rfl⟩:=aaB.mp (aaq W);refine ⟨_,rfl,_,_,rfl,rfl,.inl ⟨by omega,by simp only [Tu] at J;omega⟩,_,rfl,_,_,rfl,rfl,.inr ⟨by decide,by decide⟩,_,_,rfl,rfl,_,_,rfl,rfl,_,_,rfl,rfl,(by show (0:Int)<2305843009213693951;decide),?_⟩;exact ⟨_,_,rfl,abQ _ (by decide),abR _ (by decide),rfl⟩
 ·rintro x B ⟨z,v,rfl,N,J,rfl⟩;intro p L;have M:du H (upd (upd H q (.lst (d.map V.int))) p (.dK [])):=(du.new r).trans (du.new L);refine ⟨_,rfl,_,rfl,a,_,rfl,M.seq I,fun q2 g=>⟨q2,_,rfl,.inl (fM.of a_),fun l j=>⟨_,rfl,?_,Dv l 0 0 z,rfl,by show 4≤15;decide,?_⟩⟩⟩
  ·exact (du.new j) _ _ ((du.new g) _ _ a_)
  ·rw [c];have D:(upd (upd (upd (upd H q (.lst (d.map V.int))) p (.dK [])) q2 (.lst (d.map V.int))) l (.lst (d.map V.int))) p=some (.dK []):=(du.new (by rw [c] at j;exact j)) _ _ ((du.new g) _ _ a_);have G:l≠p:=iJ a_ D (by intro z;cases z);refine k p l _ ⟨d,0,0,z,a_,by rw [bK G];exact a_,m,by decide,by omega,by decide,N,J⟩ ?_ ((du.new r).free L);intro b u e;have U:=((du.new (q:=l) (o:=.lst (d.map V.int)) (by rw [c] at j;exact j)) _ _ ((du.new g) _ _ (M b u e)));rw [bK (di ((du.new r) b u e) L)];exact U
inductive pq (vs:List V) (H:Hp) (Q:VK) (E:XK):Prop
 |mk (p c:Zl) (m:Int):vs=[.ref p,.int m]->Dr H p c->0<m->m<340282366920938463463374607431768211456->(∀ (r:Int) (H':Hp),0≤r->r<m->Dr H' p c->iz p H H'->Q (.int r) H')->pq vs H Q E
def WW:dC ["_law_d","_law_many","_law_cell","_law_digit","_law_one"] ["_law_d","_law_many"] (b_ (top 117)):=by ext
def ql (F:iM K "_law_pick" "_law_pick" (top 117) f fd) (T:Txt K mg):dw P w K mg base fG 1 f fd ["_law_d","_law_many"] pq:=by
 refine F.ok WW (by ext) fun ab A S s H vs Q E hr h=>?_;obtain ⟨p,c,m,rfl,D,L,m1,k⟩:=h;have g:=tY hr;refine ⟨_,(d7 (fX (PW.pt (Be (d_ jq (iB g (pv 0) dD) dm (eV _)) (wX (d_ CP (iB g (pv 0) dD) (dJ dY (by rfl) T.len gB (aK (iB g (pv 0) dD) d9)) (eV _))))) (d7 (jD 2 WW.nd (fu eZ (iB g (pv 0) dD) (iB g (pv 0) dD))) (d7 (lH g (pv 0) dD (fj j8 (iB g (pv 0) dD) dm) rfl) (dj (fX (d_ Oj (pv 2) (fj zZ dm dm) (eV _)) (dj (lH g (pv 0) dD (pv 2) rfl)) (dj (lH g (pv 0) dD (fj o7 (fj j8 (fj j8 (fj pA (iB g (pv 0) dD) dm) (fj pA (pv 2) dm)) dm) dm) rfl)))))) eE) (d7 (fX (d_ uX (iB g (pv 0) dD) dm (eV _)) (d7 (jD 3 WW.nd (fj o7 (iB g (pv 0) dD) (pv 1))) (d7 (lH g (pv 0) dD (fj J_ (iB g (pv 0) dD) (pv 1)) rfl) (dj (dX (pv 3))))) eE) (d7 (jD 4 WW.nd (fj o7 (fj pA (iB g (pv 0) dD) (iB g (pv 0) dD)) dm)) (d7 (lH g (pv 0) dD (fj o7 (fj j8 (fj j8 (fj pA (pv 4) dm) (fj pA (iB g (pv 0) dD) dm)) dm) dm) rfl) (dj (dX (fj o7 (fj Dn (iB g (pv 0) dD) dm) (pv 1)))))))),?_⟩;obtain ⟨l,a,r,sd,i,O,hl,a0,a1,W,X,Y⟩:=D.ex;have I:c≠p:=iJ O i (by intro z;cases z);have d:∀ {x y z:Int},(Dv c x y z).length<sizeLine:=fun {x y z}=>lR (by show 4≤1000;decide);refine Ro (fun q H'=>∃ (n G b:Int) (v:Option V),q=[some (.ref p),some (.int m),v,none,none]/\H' p=some (.dK (Dv c n G b))/\iz p H H'/\0≤n/\n≤l.length/\0≤G/\0≤b/\b<Tu) ?_ ?_
 ·rintro q H1 ⟨n,G,b,v,rfl,j,bt,b0,b1,c0,d0,d1⟩;have J:∀ o,(upd H1 p o) c=some (.lst (l.map V.int)):=fun o=>by rw [bK I];exact bt c _ O I
  refine ⟨_,rfl,p,_,rfl,CK j,_,_,rfl,rfl,_,rfl,?_⟩;refine qW (fun aa=>?_) (fun _=>?_)
  ·refine ⟨_,rfl,p,_,rfl,CK j,_,rfl,_,_,rfl,rfl,L,?_⟩;refine ⟨_,rfl,p,_,rfl,CK j,_,rfl,_,_,rfl,rfl,⟨L,m1⟩,_,rfl,p,_,rfl,su.k (k:=Sum.inr "rest") j d,_,rfl,?_⟩;rw [O_];exact k _ _ (abQ _ (by omega)) (abR _ L) ⟨l,n,G / m,b,a_,J _,hl,b0,b1,Int.ediv_nonneg c0 (by omega),d0,d1⟩ (bt.trans iz.upd)
  ·have sq:Mq b b:=.inl ⟨by omega,by simp only [Tu] at d1;omega⟩;refine ⟨_,rfl,p,_,rfl,yQ j,_,rfl,p,_,rfl,yQ j,_,_,rfl,rfl,sq,_,_,rfl,rfl,(by show (0:Int)<2305843009213693951;decide),?_⟩;have u0:=abQ (b*b) (show (2305843009213693951:Int)≠0 by decide);have u1:=abR (b*b) (show (0:Int)<2305843009213693951 by decide);refine ⟨_,rfl,_,_,rfl,rfl,.inr ⟨by decide,by decide⟩,_,rfl,p,_,rfl,yQ j,_,_,rfl,rfl,.inr ⟨by decide,by decide⟩,_,_,rfl,rfl,_,_,rfl,rfl,_,_,rfl,rfl,(by show (0:Int)<2305843009213693951;decide),_,rfl,p,_,rfl,su.k (k:=Sum.inr "seed") j d,?_⟩;rw [Oq];generalize M:(b*b % 2305843009213693951*7+b*40503+12345) % 2305843009213693951=sn;have v0:0≤sn:=M ▸ abQ _ (by decide);have v1:sn<Tu:=M ▸ abR _ (by decide);refine ⟨_,rfl,p,_,rfl,yQ a_,_,_,rfl,rfl,⟨by decide,by decide⟩,_,rfl,_,_,rfl,rfl,L,?_⟩;exact k _ _ (abQ _ (by omega)) (abR _ L) ⟨l,n,G,sn,a_,J _,hl,b0,b1,c0,v0,v1⟩ (bt.trans iz.upd)
 ·intro N R;refine ⟨_,rfl,p,_,rfl,CK i,rfl,_,rfl,?_⟩;refine qW (fun hz=>?_) (fun _=>?_)
  ·refine ⟨_,rfl,p,_,rfl,Xa i,_,rfl,p,_,rfl,J8 i,c,_,rfl,.inl (fM.of O),_,_,rfl,rfl,_,rfl,?_⟩;rw [aag];refine qW (fun B=>?_) (fun _=>?_)
   ·have B:a<l.length:=adc B;obtain ⟨z,Z⟩:∃ z,l[a.toNat]?=some z:=⟨_,aaC (by omega)⟩;have U:yh (l.map V.int) a=some (.int z):=by
     have e:(a:Int)=((a.toNat:Nat):Int):=by omega
     rw [e];refine gw ?_;rw [aaz,Z];rfl
    refine ⟨_,rfl,p,_,rfl,J8 i,_,rfl,p,_,rfl,Xa i,c,_,_,_,rfl,rfl,fM.of O,U,?_⟩;refine ⟨_,rfl,p,_,rfl,Xa i,_,_,rfl,rfl,_,rfl,p,_,rfl,su.k (k:=Sum.inr "at") i d,?_⟩;rw [pat];refine ⟨_,rfl,_,_,rfl,rfl,⟨by decide,by decide,by decide⟩,_,_,rfl,rfl,_,rfl,?_⟩;refine qW (fun C=>?_) (fun _=>?_)
    ·refine ⟨_,rfl,_,rfl,p,_,rfl,su.k (k:=Sum.inr "rest") a_ d,?_⟩;rw [O_];have C:(10:Int) ^ 18≤z:=adc C;exact R _ _ ⟨a+1,z,sd,_,rfl,a_,iz.upd.trans iz.upd,by omega,by omega,by omega,X,Y⟩
    ·refine ⟨_,rfl,p,_,rfl,yQ a_,_,_,rfl,rfl,.inr ⟨by decide,by decide⟩,_,rfl,_,_,rfl,rfl,.inr ⟨by decide,by decide⟩,_,_,rfl,rfl,_,_,rfl,rfl,_,_,rfl,rfl,(by show (0:Int)<2305843009213693951;decide),_,rfl,p,_,rfl,su.k (k:=Sum.inr "seed") a_ d,?_⟩;rw [Oq];exact R _ _ ⟨a+1,r,_,_,rfl,a_,iz.upd.trans iz.upd,by omega,by omega,W,abQ _ (by decide),abR _ (by decide)⟩
   ·exact R _ _ ⟨a,r,sd,_,rfl,i,iz.refl,a0,a1,W,X,Y⟩
  ·exact R _ _ ⟨a,r,sd,_,rfl,i,iz.refl,a0,a1,W,X,Y⟩
def Dr.dk (d:Dr H p c):∃ b,H p=some (.dK b):=by obtain ⟨f,a,r,s,e,_⟩:=d.ex;exact ⟨_,e⟩
def Dr.seq (d:Dr H p c) (e:iz p H b) (h:fM K H a xs):fM K b a xs:=let ⟨_,f⟩:=d.dk;e.seq f h
def Dr.new (d:Dr H p c) (h:H q=none):Dr (upd H q o) p c:=d.mono (du.new h)
inductive A_ (K:Zs) (vs:List V) (H:Hp) (Q:VK) (E:XK):Prop
 |mk (p c q:Zl) (xs:List V):vs=[.ref p,.ref q]->Dr H p c->fM K H q xs->xs≠[]->xs.length≤1000->(∀ (x:V) (H':Hp),x∈xs->Dr H' p c->iz p H H'->Q x H')->A_ K vs H Q E
def scO:dC ["_law_d","_law_things"] ["_law_d","_law_things"] (b_ (top 118)):=by ext
def Dz (F:iM K "_law_of" "_law_of" (top 118) f n) (T:Txt K mg) (o:gK K mg "_law_pick" (top 117) ["_law_d","_law_many"] m b):dw P w K mg base fG 2 f n ["_law_d","_law_things"] (A_ K):=by
 have B:dw P w K mg base fG 1 m b ["_law_d","_law_many"] pq:=ql o.F T;refine F.ok scO (by ext) fun v A d s H vs Q E x h=>?_;obtain ⟨p,c,q,a,rfl,D,l,e,G,k⟩:=h;refine ⟨_,(dj (dX (fu eZ (pv 1) (n6 o B x (aK (pv 0) (aK (dJ dY (by rfl) T.len gB (aK (pv 1) d9)) d9)))))),?_⟩
 try dsimp only [i_]
 have g:0<a.length:=List.length_pos_iff.mpr e;refine ⟨_,rfl,_,rfl,_,rfl,q,a,rfl,(.inl l),p,c,_,rfl,D,by omega,by omega,fun r C y r1 z bt=>?_⟩;obtain ⟨j,rfl⟩:=acD y;have i:j<a.length:=by omega
 exact ⟨q,a,_,a[j],rfl,rfl,D.seq bt l,gw (aaC i),k _ _ (ac9 i) z bt⟩
def spS (K:Zs):Nat->Sp
 |0=>fun _ _ _ _=>False
 |n+1=>fun vs H Q _=>∃ (x y:V) (d:PyData),vs=[x,y]/\Rep K H x d/\Rep K H y d/\oU d≤n/\qb d≤100000/\∀ a:Hp,du H a->Q (.bl true) a
def Zw:dC ["_law_found","_law_due"] ["_law_found","_law_due"] (b_ (top 120)):=by ext
def yf {Q:VK} {v:V} {H:Hp} (h:Q (.bl true) H):Q (.bl (decide (v=v))) H:=by rw [aaH rfl];exact h
set_option tactic.hygienic true in
theorem KJ {f:Zl} {fd:ZA} (DS:gK K mg "_law_same" (top 120) ["_law_found","_law_due"] f fd) (T:Txt K mg) (n:Nat):dw P w K mg base fG n f fd ["_law_found","_law_due"] (spS K n):=by
 refine Nat.rec (motive:=fun n=>dw P w K mg base fG n f fd ["_law_found","_law_due"] (spS K n)) ⟨fun _ _ _ _ h=>h.elim,fun _ _ _ _ _ _ _ _ _ _ _ _ _ h=>h.elim⟩ (fun n GS=>?_) n;refine DS.F.ok Zw (by ext) fun ab A Z s H vs Q E hr h=>?_;obtain ⟨x,y,d,rfl,hx,O,X,Y,k⟩:=h;refine ⟨_,(d7 (fX (d_ Hx (pv 1) qz (eV _)) (dj (dX (ji Hx (pv 0) qz (eV _)))) eE) (d7 (fX (PW.pt (rJ (jY (dJ ig (by rfl) T.isinstance eQ (aK (pv 1) (aK (jA rfl T.bool ou) d9)))) (pG (jY (dJ ig (by rfl) T.isinstance eQ (aK (pv 0) (aK (jA rfl T.bool ou) d9))))))) (dj (dX (j5 (dJ ig (by rfl) T.isinstance eQ (aK (pv 1) (aK (jA rfl T.bool ou) d9))) (j5 (dJ ig (by rfl) T.isinstance eQ (aK (pv 0) (aK (jA rfl T.bool ou) d9))) (mF (ji jq (pv 0) (pv 1) (eV _))))))) eE) (d7 (fX (jY (dJ wg (by rfl) T.isinstance eQ (aK (pv 1) (aK (gA (aK (jA rfl T.int qN) (aK (jA rfl T.str wU) d9))) d9)))) (dj (dX (j5 (dJ wg (by rfl) T.isinstance eQ (aK (pv 0) (aK (gA (aK (jA rfl T.int qN) (aK (jA rfl T.str wU) d9))) d9))) (j5 (ji jq (dJ ig (by rfl) T.isinstance eQ (aK (pv 0) (aK (jA rfl T.int qN) d9))) (dJ ig (by rfl) T.isinstance eQ (aK (pv 1) (aK (jA rfl T.int qN) d9))) (eV _)) (mF (ji jq (pv 0) (pv 1) (eV _))))))) eE) (d7 (fX (PW.pt (rJ (d_ uA (dJ ig (by rfl) T.isinstance eQ (aK (pv 1) (aK (jA rfl T.list qm) d9))) (dJ ig (by rfl) T.isinstance eQ (aK (pv 0) (aK (jA rfl T.list qm) d9))) (eV _)) (pG (d_ uA (dJ ig (by rfl) T.isinstance eQ (aK (pv 1) (aK (jA rfl T.tuple jO) d9))) (dJ ig (by rfl) T.isinstance eQ (aK (pv 0) (aK (jA rfl T.tuple jO) d9))) (eV _))))) (dj (dX y_)) eE) (dj (dX (j5 (ji jq (dJ dY (by rfl) T.len gB (aK (pv 0) d9)) (dJ dY (by rfl) T.len gB (aK (pv 1) d9)) (eV _)) (mF (dJ (vP rfl) (by rfl) T.all Jm (aK (jf (own:=["_law_k"]) (js:=[0,1]) (N':=["_law_k","_law_found","_law_due"]) (eN.of (osc:=b_ (top 120)) (N:=["_law_found","_law_due"]) rfl rfl (by ext)) rfl (kY rfl T.range (aK (dJ dY (by rfl) T.len gB (aK (pv 1) d9)) d9)) (fun _ _ _ _ _=>(gn (i:=0) (show List.Nodup (["_law_k","_law_found","_law_due"]:Y1) by ext) rfl (.inl rfl) (.inr rfl))) (fun _ _ _ _ _=>gH) (fun _ _ _ _ _=>(n6 DS GS hr (aK (fu (r:=Yn K) GQ (pv 1) (pv 0)) (aK (fu (r:=Yn K) GQ (pv 2) (pv 0)) d9))))) d9)))))))))),?_⟩
 try dsimp only [i_]
 have z2:2≤sizeLine:=by decide
 cases hx with
 | non=>cases O;refine ⟨_,rfl,rfl,_,rfl,iY rfl ?_⟩;exact ⟨_,rfl,rfl,k _ (du.refl _)⟩
 | bl b=>cases O;refine ⟨_,rfl,rfl,_,rfl,iK rfl ?_⟩;refine ⟨_,rfl,_,_,_,_,rfl,(.bl b),rfl,_,rfl,iY rfl (iY rfl ?_)⟩;exact ⟨_,rfl,_,_,_,_,rfl,(.bl b),rfl,_,rfl,iY rfl ⟨_,rfl,_,_,_,_,rfl,(.bl b),rfl,_,rfl,iY rfl ⟨_,rfl,_,rfl,rfl,yf (k _ (du.refl _))⟩⟩⟩
 | int i=>cases O;refine ⟨_,rfl,rfl,_,rfl,iK rfl ?_⟩;refine ⟨_,rfl,_,_,_,_,rfl,(.int i),rfl,_,rfl,iK rfl ?_⟩;refine ⟨_,rfl,_,_,_,_,rfl,(.int i),rfl,_,rfl,iK rfl ?_⟩;refine ⟨_,rfl,z2,fun p D=>⟨_,p,_,_,_,_,rfl,a_,.int i,rfl,_,rfl,iY rfl ?_⟩⟩;refine ⟨_,rfl,z2,fun p2 F=>⟨_,p2,_,_,_,_,rfl,a_,.int i,rfl,_,rfl,iY rfl ?_⟩⟩;refine ⟨_,rfl,_,_,_,_,rfl,.int i,rfl,_,rfl,_,_,_,_,rfl,.int i,rfl,rfl,_,rfl,?_⟩;exact iY rfl ⟨_,rfl,_,rfl,rfl,yf (k _ ((du.new D).trans (du.new F)))⟩
 | str z=>cases O;refine ⟨_,rfl,rfl,_,rfl,iK rfl ?_⟩;refine ⟨_,rfl,_,_,_,_,rfl,(.str z),rfl,_,rfl,iK rfl ?_⟩;refine ⟨_,rfl,_,_,_,_,rfl,(.str z),rfl,_,rfl,iK rfl ?_⟩;refine ⟨_,rfl,z2,fun p D=>⟨_,p,_,_,_,_,rfl,a_,.str z,rfl,_,rfl,iY rfl ?_⟩⟩;refine ⟨_,rfl,z2,fun p2 F=>⟨_,p2,_,_,_,_,rfl,a_,.str z,rfl,_,rfl,iY rfl ?_⟩⟩;refine ⟨_,rfl,_,_,_,_,rfl,.str z,rfl,_,rfl,_,_,_,_,rfl,.str z,rfl,rfl,_,rfl,?_⟩;exact iY rfl ⟨_,rfl,_,rfl,rfl,yf (k _ ((du.new D).trans (du.new F)))⟩
 | tup g C=>
   cases O with
   | tup o e=>
     rename_i a1 j ds a2 a;refine ⟨_,rfl,rfl,_,rfl,iK rfl ?_⟩;refine ⟨_,rfl,_,_,_,_,rfl,(.tup o e),rfl,_,rfl,iK rfl ?_⟩;refine ⟨_,rfl,_,_,_,_,rfl,(.tup g C),rfl,_,rfl,iK rfl ?_⟩;refine ⟨_,rfl,z2,fun p D=>⟨_,p,_,_,_,_,rfl,a_,Rep.same (.tup o e) (du.new D),rfl,_,rfl,iK rfl ?_⟩⟩;have c:du H (upd H p (.tup [.ty "int",.ty "str"])):=du.new D;refine ⟨_,rfl,_,_,_,_,rfl,(Rep.same (.tup o e) c),rfl,_,rfl,_,_,_,_,rfl,(Rep.same (.tup g C) c),rfl,rfl,_,rfl,iK rfl ?_⟩;refine ⟨_,rfl,_,_,_,_,rfl,(Rep.same (.tup o e) c),rfl,_,rfl,_,_,_,_,rfl,(Rep.same (.tup g C) c),rfl,rfl,_,rfl,iK rfl ?_⟩;refine ⟨_,rfl,_,_,rfl,.inr (c.tup g),_,rfl,_,_,rfl,.inr (c.tup o),rfl,_,rfl,?_⟩;have l1:=C.length;have l2:=e.length;have B:a.length≤100000:=by simp only [qb] at Y;omega
     have hl:j.length=a.length:=by omega
     generalize upd H p (.tup [.ty "int",.ty "str"])=H1 at c ⊢;refine iY (by rw [hl];simp) ?_;obtain ⟨n,rfl⟩:∃ n',n=n'+1:=⟨n-1,by simp only [oU] at X;omega⟩;refine ⟨_,rfl,_,_,rfl,.inr (c.tup o),_,rfl,by omega,by omega,?_⟩;refine pD (n:=a.length) (fun i G l I=>∃ (v:Option V),G=(List.replicate i true).map V.bl/\l=[v,some _,some _]/\du H1 I) (by exact aaj B (by decide)) ⟨none,rfl,rfl,du.refl _⟩ ?_ ?_
     ·rintro i G l I W M ⟨v,rfl,rfl,m⟩ N hN;obtain ⟨d1,S,r1⟩:=C.get' (i:=i) (x:=j[i]) (aaC (by omega));obtain ⟨d2,U,r2⟩:=e.get' (i:=i) (x:=a[i]) (aaC W);rw [S] at U;cases U;have R:=aaq S;have q1:=uB R;have q2:=tK R;have J:yh j (0+(i:Int))=some j[i]:=by rw [acE];exact gw (aaC (by omega))
      have L:yh a (0+(i:Int))=some a[i]:=by rw [acE];exact gw (aaC W)
      refine ⟨_,rfl,_,rfl,.inr (.inl ⟨_,_,_,_,rfl,rfl,(c.trans m).tup g,J,?_⟩)⟩;refine ⟨_,rfl,_,rfl,.inr (.inl ⟨_,_,_,_,rfl,rfl,(c.trans m).tup o,L,?_⟩)⟩;refine ⟨_,_,d1,rfl,r1.same (c.trans m),r2.same (c.trans m),?_,?_,fun aa s3=>?_⟩
      ·simp only [oU] at X;omega
      ·simp only [qb] at Y;omega
      exact hN _ _ _ (by simp) ⟨_,by rw [List.replicate_succ',aaI];rfl,rfl,m.trans s3⟩
     ·rintro G l I M ⟨v,rfl,rfl,m⟩;refine ⟨by rw [aag,aco];exact aaj B (by decide),fun q hq=>⟨q,_,rfl,fM.of a_,?_⟩⟩;show Q (.bl ((List.replicate a.length true).all id)) _;rw [show (List.replicate a.length true).all id=true by simp];exact k _ ((c.trans m).trans (du.new hq))
 | lst g C=>
   cases O with
   | lst o e=>
     rename_i a1 j ds a2 a;refine ⟨_,rfl,rfl,_,rfl,iK rfl ?_⟩;refine ⟨_,rfl,_,_,_,_,rfl,(.lst o e),rfl,_,rfl,iK rfl ?_⟩;refine ⟨_,rfl,_,_,_,_,rfl,(.lst g C),rfl,_,rfl,iK rfl ?_⟩;refine ⟨_,rfl,z2,fun p D=>⟨_,p,_,_,_,_,rfl,a_,Rep.same (.lst o e) (du.new D),rfl,_,rfl,iK rfl ?_⟩⟩;have c:du H (upd H p (.tup [.ty "int",.ty "str"])):=du.new D;refine ⟨_,rfl,_,_,_,_,rfl,(Rep.same (.lst o e) c),rfl,_,rfl,_,_,_,_,rfl,(Rep.same (.lst g C) c),rfl,rfl,_,rfl,iK rfl ?_⟩;refine ⟨_,rfl,_,_,_,_,rfl,(Rep.same (.lst o e) c),rfl,_,rfl,_,_,_,_,rfl,(Rep.same (.lst g C) c),rfl,rfl,_,rfl,iK rfl ?_⟩;refine ⟨_,rfl,_,_,rfl,.inl (c.seq g),_,rfl,_,_,rfl,.inl (c.seq o),rfl,_,rfl,?_⟩;have l1:=C.length;have l2:=e.length;have B:a.length≤100000:=by simp only [qb] at Y;omega
     have hl:j.length=a.length:=by omega
     generalize upd H p (.tup [.ty "int",.ty "str"])=H1 at c ⊢;refine iY (by rw [hl];simp) ?_;obtain ⟨n,rfl⟩:∃ n',n=n'+1:=⟨n-1,by simp only [oU] at X;omega⟩;refine ⟨_,rfl,_,_,rfl,.inl (c.seq o),_,rfl,by omega,by omega,?_⟩;refine pD (n:=a.length) (fun i G l I=>∃ (v:Option V),G=(List.replicate i true).map V.bl/\l=[v,some _,some _]/\du H1 I) (by exact aaj B (by decide)) ⟨none,rfl,rfl,du.refl _⟩ ?_ ?_
     ·rintro i G l I W M ⟨v,rfl,rfl,m⟩ N hN;obtain ⟨d1,S,r1⟩:=C.get' (i:=i) (x:=j[i]) (aaC (by omega));obtain ⟨d2,U,r2⟩:=e.get' (i:=i) (x:=a[i]) (aaC W);rw [S] at U;cases U;have R:=aaq S;have q1:=uB R;have q2:=tK R;have J:yh j (0+(i:Int))=some j[i]:=by rw [acE];exact gw (aaC (by omega))
      have L:yh a (0+(i:Int))=some a[i]:=by rw [acE];exact gw (aaC W)
      refine ⟨_,rfl,_,rfl,.inl ⟨_,_,_,_,rfl,rfl,(c.trans m).seq g,J,?_⟩⟩;refine ⟨_,rfl,_,rfl,.inl ⟨_,_,_,_,rfl,rfl,(c.trans m).seq o,L,?_⟩⟩;refine ⟨_,_,d1,rfl,r1.same (c.trans m),r2.same (c.trans m),?_,?_,fun aa s3=>?_⟩
      ·simp only [oU] at X;omega
      ·simp only [qb] at Y;omega
      exact hN _ _ _ (by simp) ⟨_,by rw [List.replicate_succ',aaI];rfl,rfl,m.trans s3⟩
     ·rintro G l I M ⟨v,rfl,rfl,m⟩;refine ⟨by rw [aag,aco];exact aaj B (by decide),fun q hq=>⟨q,_,rfl,fM.of a_,?_⟩⟩;show Q (.bl ((List.replicate a.length true).all id)) _;rw [show (List.replicate a.length true).all id=true by simp];exact k _ ((c.trans m).trans (du.new hq))
end
def Lc (x:Str):Prop:=∀ c∈x.cps.toList,97≤c/\c≤122
structure Nm (x:Str):Prop where
 lo:1≤x.length
 hi:x.length≤8
 lc:Lc x
def Lc.app (a:Lc x) (b:Lc y):Lc (x++y):=fun c d=>by rw [Str.cps_append,acd,aam] at d;exact d.elim (a c) (b c)
theorem uF (a:Str) (c:a.cps.toList=[]):∀ b:List Str,(Str.join a b).cps.toList=(b.map (·.cps.toList)).flatten
 |[]=>rfl
 |[x]=>by show x.cps.toList=_;simp
 | x::y::r=>by show (x++a++Str.join a (y::r)).cps.toList=_;rw [Str.cps_append,acd,Str.cps_append,acd,c,aaO,uF a c (y::r),aaw (l:=y::r),List.flatten_cons]
def Hg (a:Str) (b:Y1):PySem.Txt.join a b=Str.join a b:=by show PySem.Builtin.Str.glued a b=_;rw [PySem.StrLaws.glued_eq_join]
def CZ (x:Str):x.length=x.cps.toList.length:=by simp [Str.length]
section
variable {P:ZB} {w:ZE} {K:Zs} {mg:ZY} {base:ZI}
inductive xF (vs:List V) (H:Hp) (Q:VK) (E:XK):Prop
 |mk (p dc:Zl):vs=[.ref p]->Dr H p dc->(∀ (x:Str) (H':Hp),Nm x->Dr H' p dc->iz p H H'->Q (.str x) H')->xF vs H Q E
def Ug:dC ["_law_d","_law_letters","_law_first","_law_size","_law_some"] ["_law_d"] (b_ (top 121)):=by ext
def Bq (h:yh ("abcdefghijklmnopqrstuvwxyz" : Str).cps.toList i=some c):97≤c/\c≤122:=by
 have:c∈("abcdefghijklmnopqrstuvwxyz" : Str).cps.toList:=by unfold yh at h;obtain ⟨j,_,e⟩:=Option.bind_eq_some_iff.mp h;exact aaq e
 have all:∀ c∈("abcdefghijklmnopqrstuvwxyz" : Str).cps.toList,97≤c/\c≤122:=by ext
 exact all c this
def DY (F:iM K "_law_word" "_law_word" (top 121) f fd) (T:Txt K mg) (U:gK K mg "_law_pick" (top 117) ["_law_d","_law_many"] fP R) (DO:gK K mg "_law_of" (top 118) ["_law_d","_law_things"] fO S) :
 dw P w K mg base fG 3 f fd ["_law_d"] xF:=by
 have GP:dw P w K mg base fG 1 fP R ["_law_d","_law_many"] pq:=ql U.F T;have GO:dw P w K mg base fG 2 fO S ["_law_d","_law_things"] (A_ K):=Dz DO.F T U;refine F.ok Ug (by ext) fun ag A Y s H vs Q E hr h=>?_;obtain ⟨p,C,rfl,D,k⟩:=h;have B:eX 1 _:=hr.mono (by decide);refine ⟨_,(d7 (jD 1 Ug.nd dD) (d7 (jD 2 Ug.nd (n6 DO GO hr (aK (pv 0) (aK (gb (aK dD (aK dD (aK dD (aK dD (aK dD d9)))))) d9)))) (d7 (jD 3 Ug.nd (fj j8 dm (n6 U GP B (aK (pv 0) (aK (fj wG dm (dJ mL (by rfl) T.len gB (aK (pv 2) d9))) d9))))) (d7 (jD 4 Ug.nd (lu acg PySem.F.slot_str_join PySem.F.type_str_join CV dD (aK (jf (own:=["_law_k"]) (js:=[1,0]) (N':=["_law_k","_law_letters","_law_d"]) (eN.of (osc:=b_ (top 121)) (N:=["_law_d","_law_letters","_law_first","_law_size","_law_some"]) rfl rfl (by ext)) rfl (kY rfl T.range (aK (pv 3) d9)) (fun _ _ _ _ _=>(gn (i:=0) (show List.Nodup (["_law_k","_law_letters","_law_d"]:Y1) by ext) rfl (.inl rfl) (.inr rfl))) (fun _ _ _ _ _=>gH) (fun _ _ _ _ _=>(fu (r:=Rh) wF (pv 1) (n6 U GP B (aK (pv 2) (aK dm d9)))))) d9))) (dj (dX (fu eZ (gb (aK (fj gU (pv 2) (pv 4)) (aK (fj gU (pv 4) (pv 2)) d9))) (n6 U GP B (aK (pv 0) (aK dm d9)))))))))),?_⟩
 try dsimp only [i_]
 refine ⟨_,rfl,(by ext),fun q hq=>?_⟩;refine ⟨p,C,q,_,rfl,D.new hq,fM.of a_,by simp,by simp,fun x H1 m D1 b1=>?_⟩;obtain ⟨z,rfl,hz,lz⟩:∃ z:Str,x=.str z/\z.length≤7/\Lc z:=by
  simp only [aah,aa2,or_false] at m;rcases m with rfl|rfl|rfl|rfl|rfl
  all_goals exact ⟨_,rfl,by ext,by unfold Lc;decide +kernel⟩
 refine ⟨_,rfl,_,rfl,z,rfl,aaj hz (by decide),_,_,rfl,rfl,p,C,_,rfl,D1,by omega,by omega,fun r H2 r0 r1 D2 b2=>?_⟩;refine ⟨_,_,rfl,rfl,?_⟩;refine ⟨rfl,_,rfl,_,rfl,by omega,by omega,?_⟩;refine pD (n:=(1+r).toNat) (fun i Z y W=>∃ (cs:Y1) (v:Option V),Z=cs.map V.str/\y=[v,some (.str "abcdefghijklmnopqrstuvwxyz"),some (.ref p)]/\Dr W p C/\iz p H2 W/\∀ c∈cs,c.length=1/\Lc c) (aaj (show (1+r).toNat≤8 by omega) (by decide)) ⟨[],none,rfl,rfl,D2,iz.refl,fun _ h=>nomatch h⟩ ?_ ?_
 ·rintro i Z y W hi b ⟨cs,v,rfl,rfl,D3,b3,O⟩ N hN;refine ⟨_,rfl,_,rfl,p,C,_,rfl,D3,by decide,by decide,fun r' H4 G aa X b4=>?_⟩;obtain ⟨j,rfl⟩:=acD G;obtain ⟨c,ad⟩:∃ c,("abcdefghijklmnopqrstuvwxyz" : Str).cps.toList[j]?=some c:=⟨_,aaC (by show j<26;omega)⟩;have L:yh ("abcdefghijklmnopqrstuvwxyz" : Str).cps.toList (j:Int)=some c:=gw ad;refine ⟨_,_,c,rfl,rfl,(by ext),L,?_⟩;refine hN _ _ _ (by simpa using b) ⟨cs++[⟨#[c]⟩],_,by simp,rfl,X,b3.trans b4,fun c' a=>?_⟩;rcases aam.mp a with a|a
  ·exact O c' a
  ·obtain rfl:c'=⟨#[c]⟩:=by simpa using a
   refine ⟨rfl,fun x m=>?_⟩;obtain rfl:x=c:=by simpa using m
   exact Bq L
 ·rintro Z y W b ⟨cs,v,rfl,rfl,D3,b3,O⟩;rw [aag] at b;refine ⟨by rw [aag,b];exact aaj (show (1+r).toNat≤8 by omega) (by decide),fun q2 I=>?_⟩;have g:(cs.map (·.length)).sum=cs.length:=by
   clear b;induction cs with
   |nil=>rfl
   |cons c t ih=>rw [aaw,abO,ih fun d hd=>O d (aan _ hd),(O c aao).1,aaA,Nat.add_comm]
  refine ⟨_,q2,cs,rfl,rfl,fM.of a_,by rw [g,show (Str.ofString "").length=0 from rfl];omega,?_⟩;rw [Hg];have jl:(Str.join (Str.ofString "") cs).length=cs.length:=by rw [CZ,uF _ rfl,List.length_flatten,ach,← g];congr 1
  have jc:Lc (Str.join (Str.ofString "") cs):=fun x m=>by rw [uF _ rfl] at m;obtain ⟨l,hl,ae⟩:=List.mem_flatten.mp m;obtain ⟨c,af,rfl⟩:=aaB.mp hl;exact (O c af).2 x ae
  generalize Str.join (Str.ofString "") cs=e at jl jc;have ah:e.length+z.length≤8/\1≤e.length:=by omega
  refine ⟨_,rfl,_,rfl,_,_,rfl,rfl,aaj (show z.length+e.length≤8 by omega) (by decide),_,rfl,_,rfl,_,_,rfl,rfl,aaj (show e.length+z.length≤8 by omega) (by decide),(by ext),fun q3 J=>?_⟩;have X:Dr _ p C:=(D3.new (o:=.lst (cs.map V.str)) I).new (o:=.lst [.str (z++e),.str (e++z)]) J;refine ⟨_,rfl,p,C,_,rfl,X,by decide,by decide,fun r' H5 G aa D5 b5=>?_⟩;have ab:Nm (z++e):=⟨by rw [aaL];omega,by rw [aaL];omega,lz.app jc⟩;have ac:Nm (e++z):=⟨by rw [aaL];omega,by rw [aaL];omega,jc.app lz⟩;have bt:iz p H H5:=((((iz.new hq).trans b1).trans b2).trans b3).trans (((iz.new I).trans (iz.new J)).trans b5);have M:fM K H5 q3 [.str (z++e),.str (e++z)]:=X.seq b5 (fM.of a_);by_cases h0:r'=0
  ·subst h0;exact ⟨_,_,_,_,rfl,rfl,M,rfl,k _ _ ab D5 bt⟩
  ·obtain rfl:r'=1:=by omega
   exact ⟨_,_,_,_,rfl,rfl,M,rfl,k _ _ ac D5 bt⟩
inductive sJ (K:Zs) (vs:List V) (H:Hp) (Q:VK) (E:XK):Prop
 |mk (p dc:Zl) (m:Int):vs=[.ref p,.int m]->Dr H p dc->0≤m->m≤60->(∀ (q:Zl) (ys:Y1) (H':Hp),H' q=some (.lst (ys.map V.str))->H q=none->(ys.length:Int)=m->(∀ y∈ys,Nm y)->ys.Nodup->Dr H' p dc->iz p H H'->Q (.ref q) H')->sJ K vs H Q E
def Gj:dC ["_law_d","_law_many","_law_found","_law_k","_law_word_here","_law_step"] ["_law_d","_law_many"] (b_ (top 122)):=by ext
noncomputable def wd (t:Nat):Str:=⟨#[97+t % 8,113+t / 8 % 8]⟩
def Ve (t:Nat):Nm (wd t):=⟨by show 1≤2;decide,by show 2≤8;decide,fun c a=>by
 have:c=97+t % 8∨c=113+t / 8 % 8:=by simpa [wd] using a
 omega⟩
def RD (h:wd (k+s)=wd (k+a)) (c:s<64) (d:a<64):s=a:=by
 have e:(#[97+(k+s) % 8,113+(k+s) / 8 % 8]:Array Nat)=#[97+(k+a) % 8,113+(k+a) / 8 % 8]:=aax Str.cps h;have b:97+(k+s) % 8=97+(k+a) % 8/\113+(k+s) / 8 % 8=113+(k+a) / 8 % 8:=by simpa using aax Array.toList e
 omega
theorem sub_len {d:Type} [DecidableEq d]:∀ {l ys:List d},l.Nodup->(∀ x∈l,x∈ys)->l.length≤ys.length
 |[],_,_,_=>aaR _
 | a::l,ys,nd,hs=>by obtain ⟨e,f⟩:=aba.mp nd;have c:=hs a aao;have q:=sub_len (ys:=ys.erase a) f fun x b=>(List.mem_erase_of_ne (by intro z;exact e (z ▸ b))).mpr (hs x (aan _ b));rw [List.length_erase_of_mem c] at q;have:=List.length_pos_of_mem c;rw [aaA];omega
theorem HX {d o:Type} {f:d->o}:∀ {l:List d},l.Nodup->(∀ a∈l,∀ b∈l,f a=f b->a=b)->(l.map f).Nodup
 |[],_,_=>abk
 | a::l,nd,h=>by obtain ⟨j,n⟩:=aba.mp nd;rw [aaw];refine aba.mpr ⟨fun m=>?_,HX n fun x g y i=>h x (aan _ g) y (aan _ i)⟩;obtain ⟨b,c,e⟩:=aaB.mp m;exact j (h b (aan _ c) a aao e ▸ c)
def Ss {c:Y1} (l:c.length<64) (h:∀ s,s<64->wd (k+s)∈c):False:=by
 have i:((List.range 64).map fun s=>wd (k+s)).Nodup:=HX List.nodup_range fun a d b f e=>RD e (ack.mp d) (ack.mp f);have q:=sub_len i fun x g=>by obtain ⟨s,j,rfl⟩:=aaB.mp g;exact h s (ack.mp j)
 rw [aag,List.length_range] at q;omega
def Ii (F:iM K "_law_words" "_law_words" (top 122) f fd) (T:Txt K mg) (DP:gK K mg "_law_pick" (top 117) ["_law_d","_law_many"] fP fdP) (DO:gK K mg "_law_of" (top 118) ["_law_d","_law_things"] fO fdO)
 (DW:gK K mg "_law_word" (top 121) ["_law_d"] fW I):dw P w K mg base fG 4 f fd ["_law_d","_law_many"] (sJ K):=by
 have GW:dw P w K mg base fG 3 fW I ["_law_d"] xF:=DY DW.F T DP DO;refine F.ok Gj (by ext) fun ae A N s H vs Q E hr h=>?_;obtain ⟨p,Z,m,rfl,D,m0,m1,k⟩:=h;refine ⟨_,(d7 (jD 2 Gj.nd (gb d9)) (d7 (lD abv rfl (kY rfl T.range (aK (pv 1) d9)) (rZ 3 Gj.nd) (d7 (jD 4 Gj.nd (n6 DW GW hr (aK (pv 0) d9))) (d7 (lD abv rfl (kY rfl T.range (aK dm d9)) (rZ 5 Gj.nd) (dj (fX (d_ kO (pv 4) (pv 2) rfl) (dj (jD 4 Gj.nd (fj gU (fu wF dD (fj o7 (fj j8 (pv 3) (pv 5)) dm)) (fu wF dD (fj o7 (fj Dn (fj j8 (pv 3) (pv 5)) dm) dm))))) eE))) (dj (dZ (lu aaZ aa5 abe ik (pv 2) (aK (pv 4) d9))))))) (dj (dX (pv 2))))),?_⟩
 try dsimp only [i_]
 refine ⟨(by ext),fun q B=>?_⟩;refine ⟨_,rfl,m,rfl,by omega,by omega,?_⟩;refine oF (n:=m.toNat) (fun i g r=>∃ (d:Y1) (a b c:Option V),g=[some (.ref p),some (.int m),some (.ref q),a,b,c]/\r q=some (.lst (d.map V.str))/\d.length=i/\(∀ y∈d,Nm y)/\d.Nodup/\Dr r p Z/\iz p H r)
  ⟨[],none,none,none,rfl,a_,rfl,(fun _ h=>by cases h),abk,D.new B,iz.new B⟩ ?_ ?_
 ·rintro i g r hi ⟨d,a,b,c,rfl,L,hl,hy,nd,M,b1⟩;refine ⟨_,rfl,p,Z,rfl,M,fun x H2 nx D2 b2=>?_⟩;have J:H2 q=some (.lst (d.map V.str)):=b2 q _ L (M.ne L (by intro aa z;cases z));refine ⟨_,rfl,by decide,by decide,?_⟩;refine oF (n:=64) (fun j g O=>∃ (z:Str) (c:Option V),g=[some (.ref p),some (.int m),some (.ref q),some (.int (0+(i:Int))),some (.str z),c]/\Nm z/\O=H2/\(z∉d∨∀ s,s<j->wd (i+s)∈d)) ⟨x,_,rfl,nx,rfl,.inr fun s hs=>absurd hs (acw _)⟩ ?_ ?_
  ·rintro j g O hj ⟨z,c,rfl,nz,rfl,hz⟩;refine ⟨_,rfl,_,rfl,q,_,rfl,.inl (fM.of J),rfl,?_,_,rfl,?_⟩
   ·rw [aaV];intro v hv;obtain ⟨y,_,rfl⟩:=aaB.mp hv;rfl
   ·have C:inV (.str z) (d.map V.str)=true↔z∈d:=by
     unfold inV;rw [abS,abT];constructor
     ·rintro ⟨y,ab,ac⟩;have:y=z:=by simpa [wD] using ac
      exact this ▸ ab
     ·intro l;exact ⟨z,l,by simp [wD]⟩
    refine qW (fun R=>?_) (fun R=>⟨z,_,rfl,nz,rfl,.inl fun l=>R (C.mpr l)⟩);have U:=C.mp R;have W:∀ s,s<j->wd (i+s)∈d:=hz.elim (fun n=>absurd U n) id;have u1:(0+(i:Int)+(0+(j:Int))) % 8=(((i+j) % 8:Nat):Int):=by omega
    have u2:(0+(i:Int)+(0+(j:Int))) / 8 % 8=(((i+j) / 8 % 8:Nat):Int):=by omega
    have h1:("abcdefgh" : Str).cps.toList[(i+j) % 8]?=some (97+(i+j) % 8):=by have:=Nat.mod_lt (i+j) (show 0<8 by decide);generalize (i+j) % 8=m8 at this;revert m8;decide +kernel
    have h2:("qrstuvwx" : Str).cps.toList[(i+j) / 8 % 8]?=some (113+(i+j) / 8 % 8):=by have:=Nat.mod_lt ((i+j) / 8) (show 0<8 by decide);generalize (i+j) / 8 % 8=m8 at this;revert m8;decide +kernel
    refine ⟨_,rfl,_,rfl,_,_,rfl,rfl,_,_,rfl,rfl,(by show (0:Int)<8;decide),_,_,_,rfl,rfl,(by ext),(by rw [u1];exact gw h1),?_⟩;refine ⟨_,rfl,_,rfl,_,_,rfl,rfl,_,_,rfl,rfl,⟨by decide,by decide⟩,_,_,rfl,rfl,(by show (0:Int)<8;decide),_,_,_,rfl,rfl,(by ext),(by rw [u2];exact gw h2),?_⟩;refine ⟨_,_,rfl,rfl,(show 1+1≤sizeLine by decide),wd (i+j),_,rfl,Ve _,rfl,?_⟩;by_cases hw:wd (i+j)∈d
    ·refine .inr fun s hs=>?_;by_cases ad:s=j
     ·rw [ad];exact hw
     ·exact W s (by omega)
    ·exact .inl hw
  ·rintro g O ⟨z,c,rfl,nz,rfl,hz⟩;have G:z∉d:=hz.elim id fun h=>(Ss (by omega) h).elim;refine ⟨_,rfl,.inl ⟨rfl,_,fM.of J⟩,_,rfl,q,_,_,rfl,rfl,J,by rw [aag];exact lR (by omega),?_⟩;have X:q≠Z:=by obtain ⟨xs,e⟩:=D.cell;exact (di e B).symm
   have Y:q≠p:=D2.ne J (by intro aa z;cases z);refine ⟨d++[z],_,_,_,rfl,by rw [a_];simp,by simp [hl],fun y S=>(aam.mp S).elim (hy y) (fun h=>by rw [aak.mp h];exact nz),Ck nd G,D2.put Y X,fun b o e hb=>?_⟩;rw [bK (di e B)];exact (b1.trans b2) b o e hb
 ·rintro g r ⟨d,a,b,c,rfl,L,hl,hy,nd,M,b1⟩;exact ⟨_,rfl,k q d r L B (by omega) hy nd M b1⟩
end
abbrev lU:=Str×Int×Int
structure vQ (f:lU):Prop where
 nm:Nm f.1
 lo:-999999≤f.2.1
 le:f.2.1≤f.2.2
 hi:f.2.2≤999999
def TK (H c:Hp):Prop:=∀ b a,H b=some (.tup a)->c b=some (.tup a)
def iG (H:Hp) (x:V) (f:lU):Prop:=∃ b,x=.ref b/\H b=some (.tup [.str f.1,.int f.2.1,.int f.2.2])
def iG.tk (h:iG H x f) (k:TK H a):iG a x f:=let ⟨b,e,q⟩:=h;⟨b,e,k _ _ q⟩
theorem gF:∀ {a:List V} {fs:List lU},Paired (iG H) a fs->TK H b->Paired (iG b) a fs
 |_,_,.nil,_=>.nil
 |_,_,.cons r t,k=>.cons (r.tk k) (gF t k)
def uni:∀ c<128,Unicode.isAlpha c=(decide (65≤c/\c≤90) || decide (97≤c/\c≤122))/\Unicode.isLower c=decide (97≤c/\c≤122)/\Unicode.isUpper c=decide (65≤c/\c≤90)/\Unicode.isTitle c=false:=by ext
noncomputable def nameB (x:Str):Bool:=decide (x.length≤8) && (x.cps.all (·<128) && ((x.length > 0 && x.cps.all Unicode.isAlpha) && (x.cps.any Unicode.isLower && !x.cps.any fun c=>Unicode.isUpper c || Unicode.isTitle c)))
def jH (x:Str):nameB x=true↔Nm x:=by
 unfold nameB;simp only [aaP,abu,ac5,← abw,← Array.any_toList,aaV,abT,abY];constructor
 ·rintro ⟨e,o,⟨d,f⟩,⟨v,p,q⟩,r⟩;refine ⟨d,e,fun c a=>?_⟩;have j:c<128:=o c a;obtain ⟨l,s,m,n⟩:=uni c j;have g:=f c a;have h:=r c a;rw [l] at g;rw [m,n] at h;simp at g h;omega
 ·rintro ⟨d,e,i⟩;have b:∀ c∈x.cps.toList,c<128/\97≤c/\c≤122:=fun c a=>⟨by have:=i c a;omega,i c a⟩;refine ⟨e,fun c a=>(b c a).1,⟨d,fun c a=>?_⟩,?_,fun c a=>?_⟩
  ·rw [(uni c (b c a).1).1];simp [(b c a).2]
  ·rw [CZ] at d;obtain ⟨c,a⟩:=List.exists_mem_of_length_pos (show 0<x.cps.toList.length by omega);exact ⟨c,a,by rw [(uni c (b c a).1).2.1];simp [(b c a).2]⟩
  ·rw [(uni c (b c a).1).2.2.1,(uni c (b c a).1).2.2.2];have:=(b c a).2;simp;omega
structure rA (mg:ZY):Prop where
 ml:∃ t,mg "MOST_LETTERS" = some (.int 8 t)
 mf:∃ t,mg "MOST_FIELDS" = some (.int 4 t)
 lim:∃ t,mg "LIMIT" = some (.int 999999 t)
section
variable {P:ZB} {w:ZE} {K:Zs} {mg:ZY} {base:ZI}
inductive lX (vs:List V) (H:Hp) (Q:VK) (E:XK):Prop
 |mk (x:Str):vs=[.str x]->x.length≤sizeLine->Q (.bl (nameB x)) H->lX vs H Q E
def Xv:dC ["text"] ["text"] (b_ (top 27)):=by ext
def oO (F:iM K "is_name" "is_name" (top 27) f c) (T:Txt K mg) (TK:rA mg):dw P w K mg base fG 1 f c ["text"] lX:=by
 refine F.ok Xv (by ext) fun d A a s H vs Q E i h=>?_;obtain ⟨x,rfl,e,k⟩:=h;obtain ⟨j,g⟩:=TK.ml;refine ⟨_,(dj (dX (j5 (ji gY (dJ mL (by rfl) T.len gB (aK (pv 0) d9)) (e_ (v:=.int 8) rfl g ⟨_,rfl⟩) (eV _)) (j5 (yd acg PySem.F.slot_str_isascii PySem.F.type_str_isascii Bs (pv 0)) (j5 (yd acg PySem.F.slot_str_isalpha PySem.F.type_str_isalpha BW (pv 0)) (mF (yd acg PySem.F.slot_str_islower PySem.F.type_str_islower BX (pv 0)))))))),?_⟩
 try dsimp only [i_]
 refine ⟨_,rfl,x,rfl,e,_,_,rfl,rfl,_,rfl,?_⟩;unfold nameB at k;by_cases b:x.length≤8
 ·refine iY (by simp;omega) ⟨_,rfl,rfl,x,rfl,rfl,_,rfl,?_⟩;rw [aaH b,abD] at k;cases h1:x.cps.all (·<128) with
  |false=>rw [h1] at k;exact iK h1 k
  | true=>
    rw [h1,abD] at k;refine iY h1 ⟨_,rfl,rfl,x,rfl,rfl,_,rfl,?_⟩;cases h2:(x.length > 0 && x.cps.all Unicode.isAlpha) with
    |false=>rw [h2] at k;exact iK h2 k
    | true=>rw [h2,abD] at k;exact iY h2 ⟨_,rfl,rfl,x,rfl,rfl,k⟩
 ·refine iK (by simp;omega) ?_;rw [aaE b,abz] at k;exact k
inductive mO (vs:List V) (H:Hp) (Q:VK) (E:XK):Prop
 |mk (x:Str):vs=[.str x]->Nm x->Q .non H->mO vs H Q E
def Wm:dC ["text"] ["text"] (b_ (top 28)):=by ext
def rE (F:iM K "need_name" "need_name" (top 28) f d) (T:Txt K mg) (TK:rA mg) (e:gK K mg "is_name" (top 27) ["text"] c a):dw P w K mg base fG 2 f d ["text"] mO:=by
 have j:dw P w K mg base fG 1 c a ["text"] lX:=oO e.F T TK;refine F.ok Wm (by ext) fun g A b s H vs Q E i h=>?_;obtain ⟨x,rfl,nm,k⟩:=h;refine ⟨_,(dj (fX (jn (jY (n6 e j i (aK (pv 0) d9)))) (dj iH) eE)),?_⟩
 try dsimp only [i_]
 refine ⟨_,rfl,x,rfl,aaj nm.hi (by decide),_,rfl,?_⟩;rw [(jH x).mpr nm];exact iK rfl k
inductive mH (vs:List V) (H:Hp) (Q:VK) (E:XK):Prop
 |mk (a:Zl) (xs:List V) (fs:List lU):vs=[.ref a]->H a=some (.tup xs)->Paired (iG H) xs fs->fs.length≤60->(∀ f∈fs,vQ f)->(fs.map (·.1)).Nodup->(∀ H',du H H'->Q .non H')->mH vs H Q E
theorem jG {a d:Type} {F:a->d->Prop}:∀ {b:List a} {c:List d} {i:Nat} {x:a},Paired F b c->b[i]?=some x->∃ y,c[i]?=some y/\F x y
 |_,_,_,_,.nil,e=>by simp at e
 |_,_,0,_,.cons r _,e=>by simp at e;subst e;exact ⟨_,rfl,r⟩
 | _,_,i+1,x,.cons _ t,e=>by obtain ⟨y,f,g⟩:=jG (i:=i) (x:=x) t (by simpa using e);exact ⟨y,by simpa using f,g⟩
def uR:dC ["fields","seen","name","low","high"] ["fields"] (b_ (top 29)):=by ext
noncomputable def uO (F:iM K "need_fields" "need_fields" (top 29) f W) (T:Txt K mg) (z:rA mg) (DI:gK K mg "is_name" (top 27) ["text"] fI N) (X:gK K mg "need_name" (top 28) ["text"] U r):dw P w K mg base fG 3 f W ["fields"] mH:=by
 have GN:dw P w K mg base fG 2 U r ["text"] mO:=rE X.F T z DI;refine F.ok uR (by ext) fun Y A I s H vs Q E Z h=>?_;obtain ⟨a,L,fs,rfl,ha,R,hl,hf,nd,k⟩:=h;obtain ⟨tl,S⟩:=z.lim;refine ⟨_,(d7 (jD 1 uR.nd (gb d9)) (dj (lD abv rfl (rn (pv 0)) (jT rfl (eU (rZ 2 uR.nd) (eU (rZ 3 uR.nd) (eU (rZ 4 uR.nd) jg)))) (d7 (dZ (n6 X GN Z (aK (pv 2) d9))) (d7 (fX (d_ kO (pv 2) (pv 1) rfl) (dj iH) eE) (d7 (fX (jn (qO gY gY gY (vg q_ (e_ (v:=.int 999999) rfl S ⟨_,rfl⟩)) (pv 3) (pv 4) (e_ (v:=.int 999999) rfl S ⟨_,rfl⟩))) (dj iH) eE) (dj (dZ (lu aaZ aa5 abe ik (pv 1) (aK (pv 2) d9)))))))))),?_⟩
 try dsimp only [i_]
 refine ⟨(by ext),fun q J=>?_⟩;have pl:=abf R;have m:∀ {O:Hp},du H O->O a=some (.tup L):=fun e=>e _ _ ha;refine ⟨_,rfl,a,rfl,⟨_,gC.of (m (du.new J))⟩,lY (xs:=L) (fun i B l=>∃ (b c d:Option V),B=[some (.ref a),some (.ref q),b,c,d]/\l q=some (.lst (((fs.map (·.1)).take i).map V.str))/\du H l) ⟨none,none,none,rfl,by rw [a_];simp,du.new J⟩ (fun i B l _ ⟨_,_,_,_,_,e⟩=>gC.of (m e)) ?_ ?_⟩
 ·rintro i x B l hi ⟨b,c,d,rfl,D,G⟩;obtain ⟨⟨n,lo,ab⟩,g,b',rfl,hb⟩:=jG R hi;have C:=hf _ (aaq g);have aa:i<fs.length:=(aaQ.mp g).1;refine ⟨b',_,rfl,gC.of (G _ _ hb),rfl,_,_,rfl,_,_,rfl,_,_,rfl,rfl,?_⟩;refine ⟨_,rfl,n,rfl,C.nm,?_⟩;have p:n∉(fs.map (·.1)).take i:=by
   intro hm;have h1:(fs.map (·.1))[i]?=some n:=by rw [aaz,g];rfl
   obtain ⟨j,hj,e⟩:=List.getElem_of_mem hm;rw [aaJ] at hj;rw [List.getElem_take] at e;have h2:(fs.map (·.1))[j]?=some n:=by rw [aaC (by omega),e]
   have:=pP nd h1 h2;omega
  refine ⟨_,rfl,_,rfl,q,_,rfl,.inl (fM.of D),rfl,?_,_,rfl,?_⟩
  ·rw [aaV];intro v hv;obtain ⟨y,_,rfl⟩:=aaB.mp hv;rfl
  refine iK ?_ ?_
  ·show inV (.str n) _=false;unfold inV;rw [abS,abY];intro y hy M;have:y=n:=by simpa [wD] using M
   exact p (this ▸ hy)
  have f1:=C.lo;have f2:=C.le;have f3:=C.hi;refine ⟨_,rfl,_,rfl,_,_,rfl,rfl,_,rfl,iY (by simpa using f1) ?_⟩;refine ⟨_,rfl,_,_,rfl,rfl,_,rfl,iY (by simpa using f2) ?_⟩;refine ⟨_,_,rfl,rfl,_,rfl,iK (by simpa using f3) ?_⟩;have lt:((fs.map (·.1)).take i).length≤60:=by rw [aaJ,aag];omega
  refine ⟨_,rfl,.inl ⟨rfl,_,fM.of D⟩,_,rfl,q,_,_,rfl,rfl,D,by rw [aag];exact lR (by omega),?_⟩;refine ⟨_,_,_,rfl,?_,fun c o e=>by rw [bK (di e J)];exact G c o e⟩;rw [a_,aaX,aaz,g];simp
 ·rintro B l ⟨b,c,d,rfl,D,G⟩;exact k l G
end
structure iT (K:Zs) (x qual:Str) (st:Stmt) (dV:ZH) (f:Zl) (fd:ZA):Prop where
 ex:∃ (oc:ZH) (od:YA) (kV doc pm:ZH) (an:YA) (cdv ct:ZH) (osl:YU),
  fd=PySem.W.fnOf x qual (dM st) (dI st) (b_ st) dV kV doc pm an cdv ct/\K.lookup f=some ⟨oc,od,.func fd,osl⟩/\PySem.W.codeIn K cdv qual=true
 kp:PySem.W.keepIn K (.ref f)=true
section
variable {P:ZB} {w:ZE} {K:Zs} {mg:ZY} {base:ZI}
def iT.ok (F:iT K x b e y f m) (S:dC N j (b_ e)) (len:∀ vs H Q E,l vs H Q E->vs.length=j.length)
 (d:∀ (c:ZH) (A:ZN) (a:List Env) (s:Zp) (H:Hp) (vs:List V) (Q:VK) (E:XK),eX k (A.deeper (PyProof.Rows.envOfC b (b_ e) s.heap.objs.size f c))->l vs H Q E-> ∃ t,wJ (i_ fG P w K mg base N b (b_ e) f c A a s H E).nox (dI e) t/\t { nx:=fun _ n=>Q .non n,rt:=Q } (L2.start N vs) H):dw P w K mg base fG (k+1) f m j l:=by
 obtain ⟨oc,od,kV,p,z,an,c,B,r,rfl,v,i⟩:=F.ex;refine uT v i S len fun A a s H vs Q E o g=>?_;obtain ⟨t,h,q⟩:=d c A a s H vs Q E o g;exact ⟨t,h.nox,q⟩
def iT.binds (F:iT K x a g (.ref T) f m) (r:K.lookup T=some l) (hd:l.data=.seq d n)
 (h:∀ (kV b i:ZH) (an:YA) (c j:ZH) (s:Zp) (e:Y2),s.heap.get? T=some l->(e++ds).length=ps.length->BindsTo s (PySem.W.fnOf x a (dM g) (dI g) (b_ g) (.ref T) kV b i an c j) ⟨e,[]⟩ (ps.zip (e++ds))):Binds K m ps ds:=by
 obtain ⟨oc,od,kV,b,i,an,c,j,p,rfl,v,q⟩:=F.ex;exact fun s e X o=>h kV b i an c j s e (X _ _ r) o
abbrev rP:Stmt:=inClass (top 31) 0
theorem Hw (hd:g.data=.seq #[i] n) (kV e j:ZH) (an:YA) (f l:ZH) (s:Zp) (d:Y2) (m:s.heap.get? T=some g) (h:(d++[]).length=(["self","name","fields"]:Y1).length) :
 BindsTo s (PySem.W.fnOf "__init__" "Kind.__init__" (dM rP) (dI rP) (b_ rP) (.ref T) kV e j an f l) ⟨d,[]⟩ ((["self","name","fields"]:Y1).zip (d++[])):=by
 rw [aaO] at h ⊢
 match d,h with
 |[a,b,c],_=>exact abl rfl m hd rfl rfl
structure KCls (K:Zs) (mg:ZY) (C:Zl):Prop where
 cl:vy K C
 nN:eO K C "name"
 nF:eO K C "fields"
 mg:mg "Kind" = some (.ref C)
def nf:¬ (("name" : Str) = "fields"):=by ext
noncomputable def kf (n:Str) (a:Zl):List (Str×V):=gG "fields" (.ref a) (gG "name" (.str n) [])
def KR (n:Str) (a:Zl):(kf n a).lookup ("name" : Str)=some (.str n):=by unfold kf;rw [h_,aab nf,h_,aac rfl]
def u_ (n:Str) (a:Zl):(kf n a).lookup ("fields" : Str)=some (.ref a):=by unfold kf;rw [h_,aac rfl]
def Ud (n:Str) (a:Zl) {m:Str} (b:¬ m = "fields") (c:¬ m = "name"):(kf n a).lookup m=none:=by unfold kf;rw [h_,aab b,h_,aab c];rfl
structure ii (C:Zl) (H:Hp) (o:Zl) (n:Str) (a:Zl) (fs:List lU):Prop where
 ob:∃ dx,H o=some (.ins C dx (kf n a))
 tp:∃ xs,H a=some (.tup xs)/\Paired (iG H) xs fs
inductive BP (C:Zl) (vs:List V) (H:Hp) (Q:VK) (E:XK):Prop
 |mk (o dx a:Zl) (n:Str) (xs:List V) (fs:List lU):vs=[.ref o,.str n,.ref a]->H o=some (.ins C dx [])->Nm n->H a=some (.tup xs)->Paired (iG H) xs fs->fs.length≤4->(∀ f∈fs,vQ f)->(fs.map (·.1)).Nodup->(∀ H',ii C H' o n a fs->(∀ b u,H b=some u->b≠o->H' b=some u)->Q .non H')->BP C vs H Q E
def VJ:dC ["self","name","fields"] ["self","name","fields"] (b_ rP):=by ext
def Ks (F:iT K "__init__" "Kind.__init__" rP dV f R) (T:Txt K mg) (c:rA mg) (p:KCls K mg C) (S:gK K mg "is_name" (top 27) ["text"] fI G) (I:gK K mg "need_name" (top 28) ["text"] N l)
 (U:gK K mg "need_fields" (top 29) ["fields"] O m):dw P w K mg base fG 4 f R ["self","name","fields"] (BP C):=by
 have X:dw P w K mg base fG 2 N l ["text"] mO:=rE I.F T c S;have Y:dw P w K mg base fG 3 O m ["fields"] mH:=uO U.F T c S I;refine F.ok VJ (by ext) fun W A q s H vs Q E J h=>?_;obtain ⟨o,g,a,n,i,fs,rfl,B,Z,j,D,hl,hf,nd,k⟩:=h;obtain ⟨tf,mf⟩:=c.mf;have x:eX 2 _:=J.mono (by decide);have pl:=abf D;refine ⟨_,(d7 (dZ (n6 I X x (aK (pv 1) d9))) (d7 (fX (d_ uX (dJ dY (by rfl) T.len gB (aK (pv 2) d9)) (e_ (v:=.int 4) rfl mf ⟨_,rfl⟩) (eV _)) (dj iH) eE) (d7 (dZ (n6 U Y J (aK (pv 2) d9))) (d7 (dO (pv 0) (pv 1) rfl) (dj (dO (pv 0) (gQ jb (by rfl) T.tuple jO (aK (pv 2) d9)) rfl)))))),?_⟩
 try dsimp only [i_]
 refine ⟨_,rfl,n,rfl,Z,?_⟩;refine ⟨_,rfl,a,i,rfl,.inr (gC.of j),_,_,rfl,rfl,_,rfl,iK (by simp;omega) ?_⟩;refine ⟨_,rfl,a,i,fs,rfl,j,D,by omega,hf,nd,fun L r=>?_⟩;refine ⟨_,rfl,_,rfl,o,C,g,[],rfl,r _ _ B,p.cl,p.nN,(show 0<1000 by decide),?_⟩;have d:a≠o:=iJ j B (by intro z;cases z);have y:∀ u,(upd L o u) a=some (.tup i):=fun u=>by rw [bK d];exact r _ _ j
 refine ⟨_,rfl,a,i,rfl,.inr ⟨gC.of (y _),?_⟩⟩;refine ⟨_,rfl,o,C,g,_,rfl,a_,p.cl,p.nF,(show 1<1000 by decide),?_⟩;have keep:∀ b u,H b=some u->b≠o->(upd (upd L o (.ins C g (gG "name" (.str n) []))) o (.ins C g (kf n a))) b=some u:=fun b u e M=>by rw [bK M,bK M];exact r _ _ e
 refine k _ ⟨⟨g,a_⟩,i,keep a _ j d,gF D fun b ys e=>keep b _ e (iJ e B (by intro z;cases z))⟩ keep
end
def ii.same (h:ii C H o n a fs) (e:du H c):ii C c o n a fs:=by obtain ⟨⟨d,f⟩,g,i,j⟩:=h;exact ⟨⟨d,e _ _ f⟩,g,e _ _ i,gF j fun b l z=>e _ _ z⟩
def QK (K:Zs):TG:=Fi K 3 (mV (fH 0) (mV (fH 1) (mV (fH 2) Ff)))
def vN (z:H a=some (.tup l)) (q:Paired (iG H) l fs) (D:fs.length≤60) (A:e=[none,none,none]) (c:lU->V)
 (n:∀ f∈fs,∀ Q:VK,Q (c f) H->p [some (.str f.1),some (.int f.2.1),some (.int f.2.2)] H Q) (B:F (fs.map c) H) :
 ∃ W:Nat->Nat->List V->St->Hp->Prop,(∃ m,W 0 m [] e H)/\vo (YF K a) (QK K) uP p F W:=by
 have C:=abf q;refine jr (xs:=l) (fun i g h j=>g=(fs.take i).map c/\(∃ u v w,h=[u,v,w])/\j=H) (aaj (by omega) (show 60≤sizeLine by decide)) ⟨by simp,⟨_,_,_,A⟩,rfl⟩ ?_ ?_ ?_
 ·rintro i g h j _ ⟨_,_,rfl⟩;exact gC.of z
 ·rintro i x g h j s d ⟨rfl,⟨u,v,w,rfl⟩,rfl⟩ N y;obtain ⟨f,o,b,rfl,r⟩:=jG q s;refine ⟨b,_,rfl,gC.of r,rfl,_,_,rfl,_,_,rfl,_,_,rfl,rfl,?_⟩;refine n f (aaq o) _ (y _ _ _ (by simpa using d) ⟨?_,⟨_,_,_,rfl⟩,rfl⟩);rw [aaX,o];simp
 ·rintro g h j d ⟨rfl,_,rfl⟩;rw [abj (by omega)];exact B
noncomputable def Em (f:lU):Str:=((((f.1++(" " : Str))++Str.ofString (toString f.2.1))++(".." : Str))++Str.ofString (toString f.2.2))
noncomputable def Kz (fs:List lU):Str:=Txt.join (", " : Str) (fs.map Em)
def sO (d:-999999≤i) (f:i≤999999):(Str.ofString (toString i)).length≤8/\i.natAbs.log2<1920:=by
 constructor
 ·have:=int_text_length_le10 (a:=i) (k:=6) (by decide) (by omega);have e:(Str.ofString (toString i)).length=(toString i).length:=ofString_length _;omega
 ·have c:i.natAbs<2 ^ 20:=by omega
  by_cases b:i.natAbs=0
  ·rw [b];decide
  ·exact ab3 ((acv b).mpr c) (by decide)
noncomputable def yx (h:vQ f):(Em f).length≤40:=by have c:=(sO h.lo (acF h.le h.hi)).1;have d:=(sO (acF h.lo h.le) h.hi).1;have e:=h.nm.hi;have a:((" " : Str)).length=1:=rfl;have b:((".." : Str)).length=2:=rfl;unfold Em;simp only [aaL,a,b];omega
section
variable {P:ZB} {w:ZE} {K:Zs} {mg:ZY} {base:ZI}
inductive zf (vs:List V) (H:Hp) (Q:VK) (E:XK):Prop
 |mk (a:Zl) (xs:List V) (fs:List lU):vs=[.ref a]->H a=some (.tup xs)->Paired (iG H) xs fs->fs.length≤4->(∀ f∈fs,vQ f)->(∀ H',du H H'->Q (.str (Kz fs)) H')->zf vs H Q E
def Yr:dC ["fields"] ["fields"] (b_ (top 30)):=by ext
def Tg:List.Nodup (["name","low","high"]:Y1):=by ext
def Ti (F:iM K "bounds_text" "bounds_text" (top 30) f v) (T:Txt K mg):dw P w K mg base fG 1 f v ["fields"] zf:=by
 refine F.ok Yr (by ext) fun x A d s H vs Q E J h=>?_;obtain ⟨a,G,fs,rfl,l,p,m,n,k⟩:=h;refine ⟨_,(dj (dX (lu acg PySem.F.slot_str_join PySem.F.type_str_join CV dD (aK (jf (g:=QK K) (own:=["name","low","high"]) (js:=[]) (N':=["name","low","high"]) (eN.of (osc:=b_ (top 30)) (N:=["fields"]) rfl rfl (by ext)) rfl (rn (pv 0)) (fun _ _ _ _ _=>(jT rfl (eU (gn (i:=0) Tg rfl (.inl rfl) (.inr rfl)) (eU (gn (i:=1) Tg rfl (.inl rfl) (.inr rfl)) (eU (gn (i:=2) Tg rfl (.inl rfl) (.inr rfl)) jg))))) (fun _ _ _ _ _=>gH) (fun _ _ _ _ _=>(jj (j4 (pv 0) (ir (j4 (pv 1) (ir (j4 (pv 2) jP)))))))) d9)))),?_⟩;refine ⟨rfl,_,rfl,a,rfl,⟨G,gC.of l⟩,vN l p (by omega) rfl (fun f=>.str (Em f)) (fun f e Q q=>?_) ?_⟩
 ·have b:=n f e;have B:=sO b.lo (acF b.le b.hi);have C:=sO (acF b.lo b.le) b.hi;have L:=b.nm.hi;have M:=yx b;have big:40≤sizeLine:=by decide
  have j:((" " : Str)).length=1:=rfl;have D:((".." : Str)).length=2:=rfl;refine ⟨_,rfl,f.1,.inl ⟨rfl,by omega⟩,?_,?_,_,rfl,_,.inr ⟨_,rfl,B.2,rfl⟩,?_,?_,_,rfl,_,.inr ⟨_,rfl,C.2,rfl⟩,?_,?_,?_⟩
  all_goals (try rw [abm])
  all_goals (try (first|lia|(simp only [aaL,j,D];lia)))
  try exact q
 ·have c:fs.length≤sizeLine:=aaj m (by decide);refine ⟨by rw [aag];exact c,fun q y=>?_⟩;have o:((fs.map Em).map (·.length)).sum≤fs.length*40:=by
   clear c p l k m;induction fs with
   |nil=>simp
   | cons f r I=>rw [aaw,aaw,abO,aaA,Nat.succ_mul];have:=yx (n f (by simp));have:=I fun g z=>n g (by simp [z]);omega
  have j:(", " : Str).length=2:=rfl;refine ⟨_,q,fs.map Em,rfl,rfl,fM.of (by rw [a_,ach];rfl),?_,k _ (du.new y)⟩;rw [aag,j];have:fs.length*40≤4*40:=Nat.mul_le_mul_right _ m;omega
abbrev kM (j:Nat):Stmt:=inClass (top 31) j
inductive ud (C:Zl) (vs:List V) (H:Hp) (Q:VK) (E:XK):Prop
 |mk (o a:Zl) (n:Str) (fs:List lU):vs=[.ref o]->ii C H o n a fs->fs.length≤4->(∀ p H',H' p=some (.tup (fs.map fun f=>.int f.2.1))->du H H'->Q (.ref p) H')->ud C vs H Q E
def scL:dC ["self"] ["self"] (b_ (kM 1)):=by ext
noncomputable def Eg (F:iM K "lowest" "Kind.lowest" (kM 1) f d) (T:Txt K mg) (e:KCls K mg C):dw P w K mg base fG 1 f d ["self"] (ud C):=by refine F.ok scL (by ext) fun j A b s H vs Q E B h=>?_;obtain ⟨o,a,n,fs,rfl,⟨⟨r,v⟩,x,c,y⟩,z,k⟩:=h;refine ⟨_,(dj (dX (gQ jb (by rfl) T.tuple jO (aK (jf (g:=QK K) (own:=["name","low","high"]) (js:=[]) (N':=["name","low","high"]) (eN.of (osc:=b_ (kM 1)) (N:=["self"]) rfl rfl (by ext)) rfl (rn (dN (pv 0) rfl)) (fun _ _ _ _ _=>(jT rfl (eU (gn (i:=0) Tg rfl (.inl rfl) (.inr rfl)) (eU (gn (i:=1) Tg rfl (.inl rfl) (.inr rfl)) (eU (gn (i:=2) Tg rfl (.inl rfl) (.inr rfl)) jg))))) (fun _ _ _ _ _=>gH) (fun _ _ _ _ _=>(pv 1))) d9)))),?_⟩;refine ⟨_,rfl,o,C,r,_,_,rfl,v,e.cl,e.nF,u_ n a,a,rfl,⟨x,gC.of c⟩,vN c y (by omega) rfl (fun f=>.int f.2.1) (fun f _ Q q=>⟨_,rfl,q⟩) ?_⟩;refine ⟨by rw [aag];exact aaj z (by decide),fun q m=>?_⟩;exact ⟨q,_,rfl,.inl ⟨fM.of a_,fun l p=>k l _ a_ ((du.new m).trans (du.new p))⟩⟩
end
open PySem.W
noncomputable def Ux (i:Nat):Stmt:=PySem.Challenge.pw_lanescribe_k36_recorders_begun_and_full.main.body.getD i (.Pass ⟨0,0,0,0⟩)
def Hk (K:Zs) (b c cM a:Zl) (fs:List (Str×V)) (wd:Str):Prop:=
 (mroIn K a (.ref b)=some true/\FZ K a "at"/\∃ n:Int,fs.lookup ("at" : Str)=some (.int n)/\n.natAbs.log2<1920/\("badvalue " : Str).length+(toString n:Str).length≤sizeLine/\wd=("badvalue " : Str)++(toString n:Str))∨
 (mroIn K a (.ref b)=some false/\mroIn K a (.ref c)=some true/\FZ K a "word"/\fs.lookup ("word" : Str)=some (.str wd))∨
 (mroIn K a (.ref b)=some false/\mroIn K a (.ref c)=some false/\mroIn K a (.ref cM)=some true/\FZ K a "word"/\fs.lookup ("word" : Str)=some (.str wd))
section
variable {P:ZB} {w:ZE} {K:Zs} {mg:ZY} {base:ZI}
def CG (P:ZB) (w:ZE) (K:Zs) (i:ZY) (c:ZI) (k:Nat) (j m cM:Zl):Shared->List Env->Sp:=fun s b vs H Q _=>∃ g e f,vs=[.ref g]/\Thunk P w K i c s.heap H (frs b) k g H e f/\
 (∀ v a,e v a->∀ l,a l=none->Q (.ref l) (upd a l (.lst [.str "",v])))/\
 ∀ cls dd a,f cls dd a->∃ h d fs wd,cls=.ref h/\dd=some d/\a d=some (uN d fs)/\Hk K j m cM h fs wd/\∀ l,a l=none->Q (.ref l) (upd a l (.lst [.str wd,.non]))
structure V5 (K:Zs) (mg:ZY) (cB cS cM:Zl):Prop where
 str:mg "str" = none
 bv:mg "BadValue" = some (.ref cB)
 se:mg "ScribeError" = some (.ref cS)
 mi:mg "Missing" = some (.ref cM)
 xb:∃ B n,nW K cB B n
 xs:∃ B n,nW K cS B n
 xm:∃ B n,nW K cM B n
def oY:dC ["_law_ask_here","_law_told","_law_word_here","e"] ["_law_ask_here"] (b_ (Ux 124)):=by ext
def Qw {CX:rK} {f N O cM:Zl} {Y:ZA} {k:Nat} (F:iM K "_law_ask" "_law_ask" (Ux 124) f Y) (T:V5 K mg N O cM):sZ P w K mg base CX (k+1) f Y ["_law_ask_here"] (CG P w K mg base k N O cM):=by
 obtain ⟨B1,n1,x1⟩:=T.xb;obtain ⟨B2,n2,U⟩:=T.xs;obtain ⟨B3,n3,x3⟩:=T.xm;refine F.okS oY (fun s d vs H Q E h=>?_) (fun Z A d s H vs Q E hr h=>?_)
 ·obtain ⟨g,W,X,rfl,_⟩:=h;rfl
 ·obtain ⟨g,W,X,rfl,Th,hv,he⟩:=h;refine ⟨_,(d7 (jD 1 oY.nd qz) (d7 (jD 2 oY.nd dD) (d7 (R0 rfl rfl rfl (Fw (k:=k) (i:=1) (j:=0) oY.nd rfl (.inl rfl) rfl (.inl rfl) rfl hr) (wY (i:=3) (C:=N) (B:=B1) (newId:=n1) oY.nd rfl rfl (fun c o=>e_ (by rfl) T.bv rfl) (fun c R o I dd r e hd b=>dj (jD 2 oY.nd (fj gU dD (gQ wL (by rfl) T.str wU (aK (xg r e hd b (pv 3)) d9))))) (wY (i:=3) (C:=O) (B:=B2) (newId:=n2) oY.nd rfl rfl (fun c o=>e_ (by rfl) T.se rfl) (fun c R o I dd r e hd b=>dj (jD 2 oY.nd (xg r e hd b (pv 3)))) (wY (i:=3) (C:=cM) (B:=B3) (newId:=n3) oY.nd rfl rfl (fun c o=>e_ (by rfl) T.mi rfl) (fun c R o I dd r e hd b=>dj (jD 2 oY.nd (xg r e hd b (pv 3)))) Ru)))) (dj (dX (gb (aK (pv 2) (aK (pv 1) d9)))))))),?_⟩;have a:∀ x y:V,[x,y].length≤sizeLine:=fun x y=>by rw [sizeLine_eq];show 2≤16777216;decide
  refine ⟨g,W,X,rfl,Th,fun v S q=>?_,fun cls dd S q=>?_⟩
  ·exact ⟨_,rfl,_,rfl,a _ _,fun p m=>hv v S q p m⟩
  ·obtain ⟨I,J,fs,wd,rfl,rfl,hd,e,L⟩:=he _ _ _ q;refine ⟨I,rfl,x1,?_⟩;rcases e with ⟨D,G,n,l,z,zz,rfl⟩|⟨D,M,G,l⟩|⟨D,M,m3,G,l⟩
   ·refine ⟨true,D,fun c=>?_⟩;exact ⟨_,rfl,J,fs,_,rfl,rfl,hd,G,l,n,rfl,z,_,_,rfl,rfl,zz,_,rfl,_,rfl,a _ _,fun p m=>L p m⟩
   ·refine ⟨false,D,U,true,M,fun c=>?_⟩;exact ⟨_,rfl,J,fs,_,rfl,rfl,hd,G,l,_,rfl,_,rfl,a _ _,fun p m=>L p m⟩
   ·refine ⟨false,D,U,false,M,x3,true,m3,fun c=>?_⟩;exact ⟨_,rfl,J,fs,_,rfl,rfl,hd,G,l,_,rfl,_,rfl,a _ _,fun p m=>L p m⟩
end
end Cm
namespace Cm
open PySem L2
open PySem.W
abbrev Do:Stmt:=inClass (top 2) 0
section
variable {P:ZB} {w:ZE} {K:Zs} {mg:ZY} {base:ZI}
def iT.ok1 (F:iT K x b e v f m) (S:dC N i (b_ e)) (len:∀ vs H Q E,j vs H Q E->vs.length=i.length)
 (d:∀ (c:ZH) (A:ZN) (a:List Env) (s:Zp) (H:Hp) (vs:List V) (Q:VK) (E:XK),eX k (A.deeper (PyProof.Rows.envOfC b (b_ e) s.heap.objs.size f c))->j vs H Q E-> ∃ t,wJ (i_ l P w K mg base N b (b_ e) f c A a s H E) (dI e) t/\t { nx:=fun _ n=>Q .non n,rt:=Q } (L2.start N vs) H):dw P w K mg base l (k+1) f m i j:=by
 obtain ⟨oc,od,kV,p,y,an,c,z,q,rfl,r,h⟩:=F.ex;exact uT r h S len fun A a s H vs Q E o g=>d c A a s H vs Q E o g
structure rY (K:Zs) (C:Zl):Prop where
 x:nW K C "ValueError" "ValueError.__new__"
 w:takerIn K C "word" = some none
inductive xZ (K:Zs) (vs:List V) (H:Hp) (Q:VK) (E:XK):Prop
 |mk (e C:Zl) (a:V) (b:V):vs=[.ref e,a,b]->rY K C->H e=some (jw e C none)->(∀ da,H da=none->Q .non (upd (upd H e (jw e C (some da))) da (uN da [("word",b)])))->xZ K vs H Q E
def Xq:dC ["self","words","word"] ["self","words","word"] (b_ Do):=by ext
structure uJ (K:Zs) (mg:ZY):Prop where
 ve:mg "ValueError" = none
 fc:findCls K (.type "ValueError") (.type "type") "__init__" = some (.val (.builtin "ValueError.__init__"))
noncomputable def uz (F:iT K "__init__" "ScribeError.__init__" Do m f i) (T:uJ K mg):dw P w K mg base l 1 f i ["self","words","word"] (xZ K):=by refine F.ok1 Xq (by ext) fun j A c s H vs Q E n h=>?_;obtain ⟨e,C,a,b,rfl,d,g,k⟩:=h;refine ⟨_,(d7 (dZ (zJ (by rfl) T.ve (by rfl) (by kernel_rfl) (by ext) T.fc (BZ aa3) (aK (pv 0) (aK (pv 1) d9)))) (dj (Mz (B:="ValueError") (newId:="ValueError.__new__") (pv 0) (pv 2) rfl))),?_⟩;exact ⟨_,rfl,_,rfl,e,C,_,_,rfl,g,d.x,_,rfl,_,rfl,e,C,rfl,d.x,d.w,.inl ⟨g,k⟩⟩
structure xf (K:Zs) (mg:ZY) (cn:Str) (C f:Zl):Prop where
 mg:mg cn=some (.ref C)
 sg:specialIn K (.ref C) "__getattribute__" = some (some (.builtin "type.__getattribute__"))
 rd:∃ mc,readsIn K C mc=true/\findCls K (.ref C) mc "__init__" = some (.val (.ref f))
 kp:keepIn K (.ref f)=true
inductive uK (K:Zs) (wd:Str) (vs:List V) (H:Hp) (Q:VK) (E:XK):Prop
 |mk (e C:Zl) (a:V):vs=[.ref e,a]->rY K C->H e=some (jw e C none)->(∀ da,H da=none->Q .non (upd (upd H e (jw e C (some da))) da (uN da [("word",.str wd)])))->uK K wd vs H Q E
abbrev lN:Stmt:=inClass (top 5) 0
def Eu:dC ["self","words"] ["self","words"] (b_ lN):=by ext
noncomputable def Ac (F:iT K "__init__" "BadTest.__init__" lN dW f g) (T:uJ K mg) (v:iT K "__init__" "ScribeError.__init__" Do r d b) (x:Binds K b ["self","words","word"] []) (MS:xf K mg "ScribeError" q d):dw P w K mg base CX 2 f g ["self","words"] (uK K "badtest"):=by have l:dw P w K mg base fG 1 d b ["self","words","word"] (xZ K):=uz v T;obtain ⟨y,m,n⟩:=MS.rd;refine F.ok1 Eu (by ext) fun i A c s H vs Q E j h=>?_;obtain ⟨e,C,a,rfl,o,p,k⟩:=h;refine ⟨_,(dj (dZ (jk (E:=E0) (by rfl) MS.mg MS.sg m n MS.kp l j x .nil dU (aK (pv 0) (aK (pv 1) (aK dD d9)))))),?_⟩;exact ⟨_,rfl,_,rfl,e,C,_,_,rfl,o,p,k⟩
def jE (H:Hp) (fs:List (Str×V)) (a:Zl) (b:Hp):Prop:=H a=none/\b=upd H a (uN a fs)
def iw (d:H e=none) (c:upd H e (jw e C none) a=none):jE H fs a (Ja (upd (upd (upd H e (jw e C none)) e (jw e C (some a))) a (uN a fs)) e):=by
 have ne:a≠e:=fun q=>by subst q;rw [a_] at c;cases c
 rw [bK ne] at c;refine ⟨c,funext fun b=>?_⟩;by_cases q:b=e
 ·subst q;rw [tR,bK (aas ne),d]
 ·rw [Al q];by_cases r:b=a
  ·subst r;rw [a_,a_]
  ·rw [bK r,bK q,bK q,bK r]
theorem jo (h:du H a) (n:a e=none):H e=none:=by
 cases z:H e with
 |none=>rfl
 |some o=>have:=h _ _ z;rw [n] at this;cases this
structure nH (K:Zs) (mg:ZY) (x:Str) (C f:Zl) (fd:ZA):Prop where
 b:Binds K fd ["self","words"] []
 mg:mg x=some (.ref C)
 e:rY K C
 i:findIn K (.ref C) "__init__" = some (some (.ref f))
 n:isFn K (.ref f)=true
end
abbrev ni:Int:=1000000000000000000000000000000
def ju (x:Str):Prop:=x.cps.all (·<128)=true
section
variable {P:ZB} {w:ZE} {K:Zs} {mg:ZY} {base:ZI}
inductive Cy (vs:List V) (H:Hp) (Q:VK) (E:XK):Prop
 |mk (p dc:Zl):vs=[.ref p]->Dr H p dc->(∀ (z:Int) (H':Hp),-ni≤z->z≤ni->Dr H' p dc->iz p H H'->Q (.int z) H')->Cy vs H Q E
def Ol:dC ["_law_d","_law_number"] ["_law_d"] (b_ (top 119)):=by ext
def Jq (F:iM K "_law_far" "_law_far" (top 119) f y) (T:Txt K mg) (d:gK K mg "_law_pick" (top 117) ["_law_d","_law_many"] x a):dw P w K mg base fG 2 f y ["_law_d"] Cy:=by
 have m:dw P w K mg base fG 1 x a ["_law_d","_law_many"] pq:=ql d.F T;refine F.ok Ol (by ext) fun z A b s H vs Q E e h=>?_;obtain ⟨p,v,rfl,D,k⟩:=h;refine ⟨_,(d7 (jD 1 Ol.nd (fj j8 (fj zZ dm dm) (n6 d m e (aK (pv 0) (aK (fj zZ dm dm) d9))))) (dj (dX (fu eZ (gb (aK (pv 1) (aK (fj wG dm (pv 1)) d9))) (n6 d m e (aK (pv 0) (aK dm d9))))))),?_⟩;have I:SJ 10 9:=⟨by decide,by decide,by decide⟩;have J:SJ 10 29:=⟨by decide,by decide,by decide⟩;have L:(10:Int) ^ (9:Int).toNat=1000000000:=by decide
 have c:(10:Int) ^ (29:Int).toNat=100000000000000000000000000000:=by ext
 refine ⟨_,_,rfl,rfl,I,_,rfl,_,_,rfl,rfl,J,p,v,_,rfl,D,by rw [c];decide,by rw [c];decide,fun r N O B C G=>⟨_,_,rfl,rfl,?_⟩⟩;rw [c] at B;rw [L];have z1:1000000000+r≤ni:=by simp only [ni];omega
 refine ⟨_,rfl,_,rfl,_,_,rfl,rfl,(by ext),fun q1 g=>?_⟩;have n:=C.new (o:=.lst [.int (1000000000+r),.int (0-(1000000000+r))]) g;refine ⟨_,rfl,p,v,_,rfl,n,by decide,by decide,fun r2 i R S j l=>?_⟩;have q:fM K i q1 [.int (1000000000+r),.int (0-(1000000000+r))]:=n.seq l (fM.of a_);have bt:iz p H i:=G.trans ((iz.new g).trans l);by_cases M:r2=0
 ·subst M;exact ⟨_,_,_,_,rfl,rfl,q,rfl,k _ _ (by simp only [ni] at *;omega) z1 j bt⟩
 ·obtain rfl:r2=1:=by omega
  exact ⟨_,_,_,_,rfl,rfl,q,rfl,k _ _ (by simp only [ni] at *;omega) (by simp only [ni] at *;omega) j bt⟩
end
def oh (d:-(ni+2)≤i) (f:i≤ni+2):i.natAbs.log2<1920/\(Str.ofString (toString i)).length≤1000:=by
 simp only [ni] at d f;constructor
 ·have c:i.natAbs<2 ^ 128:=by omega
  by_cases b:i.natAbs=0
  ·rw [b];decide
  ·exact ab3 ((acv b).mpr c) (by decide)
 ·have:=int_text_length_le10 (a:=i) (k:=31) (by decide) (by omega);have e:(Str.ofString (toString i)).length=(toString i).length:=ofString_length _;omega
def Yt:∀ c<128,(!(Builtin.Str.occurrences ("abcdefghijklmnopqrstuvwxyz" : Str) ⟨#[c]⟩ 0 ("abcdefghijklmnopqrstuvwxyz" : Str).length 1).isEmpty)=decide (97≤c/\c≤122):=by ext
section
variable {P:ZB} {w:ZE} {K:Zs} {mg:ZY} {base:ZI}
inductive Am (vs:List V) (H:Hp) (Q:VK) (E:XK):Prop
 |mk (x:Str):vs=[.str x]->x.length≤50000->ju x->(∀ H',du H H'->Q (.bl (nameB x)) H')->Am vs H Q E
def Xh:dC ["_law_text"] ["_law_text"] (b_ (top 123)):=by ext
theorem jL (x:Str):nameB x=(decide (1≤x.length) && (decide (x.length≤8) && x.cps.toList.all fun c=>decide (97≤c/\c≤122))):=by
 have h:nameB x=true↔(decide (1≤x.length) && (decide (x.length≤8) && x.cps.toList.all fun c=>decide (97≤c/\c≤122)))=true:=by rw [jH];simp only [aaP,abu,aaV];exact ⟨fun h=>⟨h.lo,h.hi,fun c a=>h.lc c a⟩,fun h=>⟨h.1,h.2.1,fun c a=>h.2.2 c a⟩⟩
 cases e1:nameB x with
 |true=>exact (h.mp e1).symm
 | false=>
   cases e2:(decide (1≤x.length) && (decide (x.length≤8) && x.cps.toList.all fun c=>decide (97≤c/\c≤122))) with
   |false=>rfl
   |true=>rw [h.mpr e2] at e1;cases e1
def KN (F:iM K "_law_is_name" "_law_is_name" (top 123) f r) (T:Txt K mg):dw P w K mg base fG 1 f r ["_law_text"] Am:=by
 refine F.ok Xh (by ext) fun y A g s H vs Q E I h=>?_;obtain ⟨x,rfl,L,m,k⟩:=h;have big:50000≤sizeLine:=by decide
 refine ⟨_,(dj (dX (j5 (uE gY gY dm (dJ mL (by rfl) T.len gB (aK (pv 0) d9)) dm) (mF (dJ (vP rfl) (by rfl) T.all Jm (aK (jf (own:=["_law_sign"]) (js:=[]) (N':=["_law_sign"]) (eN.of (osc:=b_ (top 123)) (N:=["_law_text"]) rfl rfl (by ext)) rfl (Qi (pv 0)) (fun _ _ _ _ _=>(gn (i:=0) (show List.Nodup (["_law_sign"]:Y1) by ext) rfl (.inl rfl) (.inr rfl))) (fun _ _ _ _ _=>gH) (fun _ _ _ _ _=>(ji Ei (pv 0) dD rfl))) d9)))))),?_⟩;rw [jL] at k;refine ⟨_,rfl,x,rfl,by omega,_,_,rfl,rfl,_,rfl,?_⟩;by_cases o:1≤x.length
 ·rw [aaH o,abD] at k;refine iY (by simp;omega) ⟨_,_,rfl,rfl,_,rfl,?_⟩;by_cases p:x.length≤8
  ·rw [aaH p,abD] at k;refine iY (by simp;omega) ⟨_,rfl,x,rfl,m,?_⟩;have J:x.cps.size=x.length:=rfl;refine Ij (x:=x) (fun i j b e=>∃ v,b=[v]/\e=H/\j=((x.cps.toList.take i).map fun c=>V.bl (decide (97≤c/\c≤122)))) (by omega) ⟨none,rfl,rfl,by simp⟩ ?_ ?_
   ·rintro i c j b e D n ⟨v,rfl,rfl,rfl⟩ N G;have d:x.cps.toList[i]?=some c:=by rw [ab1];exact D
    have C:c<128:=by have l:=m;unfold ju at l;rw [← abw,aaV] at l;simpa using l c (aaq d)
    refine ⟨_,rfl,_,_,rfl,rfl,?_⟩;rw [Yt c C];refine G _ _ _ (by simpa using n) ⟨_,rfl,rfl,?_⟩;rw [aaX,d];simp
   ·rintro j b e n ⟨v,rfl,rfl,rfl⟩;rw [abj (by simp)];refine ⟨by rw [aag];have:x.cps.toList.length=x.length:=rfl;omega,fun q B=>?_⟩;refine ⟨q,x.cps.toList.map fun c=>decide (97≤c/\c≤122),rfl,?_,?_⟩
    ·have:=fM.of (K:=K) (H:=upd e q (.lst (x.cps.toList.map fun c=>V.bl (decide (97≤c/\c≤122))))) (a:=q) (xs:=x.cps.toList.map fun c=>V.bl (decide (97≤c/\c≤122))) a_;rw [ach];exact this
    ·dsimp only;rw [List.all_map];exact k _ (du.new B)
  ·rw [aaE p,abz] at k;exact iK (by simp;omega) (k H fun _ _ z=>z)
 ·rw [aaE o,abz] at k;exact iK (by simp;omega) ⟨_,rfl,iK rfl (k H fun _ _ z=>z)⟩
end
def mG (a:ju x) (b:ju y):ju (x++y):=by
 unfold ju at *;rw [← abw,aaV] at *;intro c d;have:(x++y).cps.toList=x.cps.toList++y.cps.toList:=by show (x.cps++y.cps).toList=_;simp
 rw [this] at d;rcases aam.mp d with h|h
 ·exact a c h
 ·exact b c h
def mz (a:ju x) (l u:Option Int):ju (Txt.slice x l u):=by unfold ju at *;rw [← abw,aaV] at *;exact fun c b=>a c (FP x l u c b)
abbrev U6:Int:=ni+2
inductive TD:PyData->Prop
 |str {x:Str}:ju x->x.length≤40->TD (.str x)
 |int {i:Int}:-U6≤i->i≤U6->TD (.int i)
 |nil:TD (.tuple [])
 |node {f:Str} {r:List PyData}:ju f->f.length≤40->r.length≤20->(∀ d∈r,TD d)->TD (.tuple (.str f::r))
noncomputable def vM:PyData->Bool
 |.str x=>nameB x
 |_=>false
noncomputable def QC:PyData->Bool
 |.int i=>decide (-999999≤i) && decide (i≤999999)
 |_=>false
noncomputable def m9 (f:Str) (r:List PyData):Bool:=
 if f = "all" then r.isEmpty else if f = "is" then (match r with|[x]=>vM x|_=>false)
 else decide (f = "less"∨f = "same") && (match r with|[x,y]=>vM x && QC y|_=>false)
noncomputable def arity (f:Str):Option Nat:=if f = "not" then some 1 else if f = "and" then some 2 else if f = "or" then some 2 else none
noncomputable def cnt:Nat->PyData->Nat
 |0,_=>0
 |n+1,.tuple (.str f::r)=>if m9 f r=true then 1 else if arity f=some r.length then (if 0∈r.map (cnt n) then 0 else 1+(r.map (cnt n)).sum) else 0
 |_+1,_=>0
mutual
noncomputable def jB:PyData->Bool
 |.tuple (.str f::r)=>if f = "and"∨f = "or" then decide (r.length=2) && shapes r else if f = "not" then decide (r.length=1) && shapes r else m9 f r
 |_=>false
noncomputable def shapes:List PyData->Bool
 |[]=>true
 |d::r=>jB d && shapes r
end
mutual
noncomputable def mY:PyData->Nat
 |.tuple (.str f::r)=>if (arity f).isSome=true then 1+qu r else 1
 |_=>1
noncomputable def qu:List PyData->Nat
 |[]=>0
 |d::r=>max (mY d) (qu r)
end
mutual
noncomputable def lL:PyData->Nat
 |.tuple (.str f::r)=>if (arity f).isSome=true then 1+ph r else 1
 |_=>1
noncomputable def ph:List PyData->Nat
 |[]=>0
 |d::r=>lL d+ph r
end
noncomputable def lG (d:PyData):Bool:=jB d && (decide (mY d≤5) && decide (lL d≤15))
def vd:∀ d,1≤lL d:=by
 intro d;unfold lL;split
 ·split <;> omega
 ·omega
def Hz:∀ d,1≤mY d:=by
 intro d;unfold mY;split
 ·split <;> omega
 ·omega
def Bo (h:m9 f r=true):arity f=none:=by
 unfold m9 at h;unfold arity;by_cases a:f = "all"
 ·subst a;decide +kernel
 ·rw [aab a] at h;by_cases b:f = "is"
  ·subst b;decide +kernel
  ·rw [aab b,aaP,abu] at h;rcases h.1 with rfl|rfl <;> decide +kernel
def tE (k:Nat) (r:List PyData):decide (some k=some r.length)=decide (r.length=k):=by simp only [Option.some.injEq,decide_eq_decide];exact ⟨fun h=>h.symm,fun h=>h.symm⟩
def Bx:jB (.tuple (.str f::r))=if arity f=none then m9 f r else decide (arity f=some r.length) && shapes r:=by
 unfold jB;by_cases a:f = "and"
 ·subst a;rw [show arity "and" = some 2 from by ext,aac (.inl rfl),aab (show ¬ (some 2=(none:Option Nat)) from nofun),tE]
 ·by_cases b:f = "or"
  ·subst b;rw [show arity "or" = some 2 from by ext,aac (.inr rfl),aab (show ¬ (some 2=(none:Option Nat)) from nofun),tE]
  ·rw [aab (by simp [a,b])];by_cases c:f = "not"
   ·subst c;rw [show arity "not" = some 1 from by ext,aac rfl,aab (show ¬ (some 1=(none:Option Nat)) from nofun),tE]
   ·have d:arity f=none:=by unfold arity;rw [aab c,aab a,aab b]
    rw [d,aab c,aac rfl]
theorem Wn (g:∀ d,cnt n d=if jB d=true/\mY d≤n then lL d else 0):∀ r:List PyData,(if 0∈r.map (cnt n) then 0 else 1+(r.map (cnt n)).sum)=if shapes r=true/\qu r≤n then 1+ph r else 0
 |[]=>by simp [shapes,qu,ph]
 | d::r=>by
   have h:=Wn g r;have j:=vd d;rw [aaw,abO];have c:shapes (d::r)=(jB d && shapes r):=rfl;have f:qu (d::r)=max (mY d) (qu r):=rfl;have i:ph (d::r)=lL d+ph r:=rfl;by_cases hd:jB d=true/\mY d≤n
   ·have e:cnt n d=lL d:=by rw [g,aac hd]
    by_cases b:shapes r=true/\qu r≤n
    ·rw [aac b] at h;have a:¬ 0∈r.map (cnt n):=fun z=>by rw [aac z] at h;omega
     rw [aab a] at h;rw [aab (by rw [aah,not_or,e];exact ⟨by omega,a⟩),aac ⟨by rw [c,hd.1,b.1];rfl,by rw [f];omega⟩,e,i];omega
    ·rw [aab b] at h;have a:0∈r.map (cnt n):=by
      by_cases z:0∈r.map (cnt n)
      ·exact z
      ·rw [aab z] at h;omega
     rw [aac (aan _ a),aab];rintro ⟨z1,z2⟩;rw [c,aaP] at z1;rw [f] at z2;exact b ⟨z1.2,by omega⟩
   ·have e:cnt n d=0:=by rw [g,aab hd]
    rw [aac (by rw [e];exact aao ..),aab];rintro ⟨z1,z2⟩;rw [c,aaP] at z1;rw [f] at z2;exact hd ⟨z1.1,by omega⟩
theorem Jx:∀ (n:Nat) (d:PyData),cnt n d=if jB d=true/\mY d≤n then lL d else 0
 | 0,d=>by have:=Hz d;rw [aab (by omega)];rfl
 | n+1,d=>by
   have j:=Jx n;by_cases hd:∃ f r,d=.tuple (.str f::r)
   ·obtain ⟨f,r,rfl⟩:=hd;have h:cnt (n+1) (.tuple (.str f::r))=if m9 f r=true then 1 else if arity f=some r.length then (if 0∈r.map (cnt n) then 0 else 1+(r.map (cnt n)).sum) else 0:=rfl
    have b:mY (.tuple (.str f::r))=if (arity f).isSome=true then 1+qu r else 1:=rfl
    have i:lL (.tuple (.str f::r))=if (arity f).isSome=true then 1+ph r else 1:=rfl
    have a:=@Bx f r;by_cases g:m9 f r=true
    ·have e:=Bo g;rw [e] at b i a;rw [h,aac g,aac ⟨by rw [a,aac rfl];exact g,by rw [b];simp⟩,i];rfl
    ·rw [h,aab g];by_cases e:arity f=none
     ·rw [aab (by rw [e];nofun),aab];rintro ⟨q,_⟩;rw [a,aac e] at q;exact g q
     ·obtain ⟨k,hk⟩:=Option.ne_none_iff_exists'.mp e;rw [hk] at b i a ⊢;rw [aab (show ¬ (some k=(none:Option Nat)) from nofun)] at a;by_cases c:k=r.length
      ·subst c;rw [aac rfl,Wn j r];by_cases z:shapes r=true/\qu r≤n
       ·rw [aac z,aac ⟨by rw [a,z.1];simp,by rw [b];simp;omega⟩,i];rfl
       ·rw [aab z,aab];rintro ⟨q1,q2⟩;rw [a] at q1;rw [b] at q2;simp at q1 q2;exact z ⟨q1,by omega⟩
      ·rw [aab (by simpa using c),aab];rintro ⟨q,_⟩;rw [a] at q;simp [c] at q
   ·have h:cnt (n+1) d=0:=by
     unfold cnt;split
     ·omega
     ·exact absurd ⟨_,_,rfl⟩ hd
     ·rfl
    have b:jB d=false:=by
     unfold jB;split
     ·exact absurd ⟨_,_,rfl⟩ hd
     ·rfl
    rw [h,b,aab (by simp)]
def Nb (d:PyData):(decide (1≤cnt 5 d) && decide (cnt 5 d≤15))=lG d:=by
 have a:=vd d;rw [Jx];unfold lG;by_cases h:jB d=true/\mY d≤5
 ·rw [aac h,h.1,aaH h.2];simp [a]
 ·rw [aab h];have:(jB d && decide (mY d≤5))=false:=by rw [← ab4,aaP,abu];exact h
  rw [← ac0,this];rfl
section
variable {P:ZB} {w:ZE} {K:Zs} {mg:ZY} {base:ZI}
inductive Qa (K:Zs) (vs:List V) (H:Hp) (Q:VK) (E:XK):Prop
 |mk (x:V) (d:PyData):vs=[x]->Rep K H x d->TD d->Q (.bl (vM d)) H->Qa K vs H Q E
def YB:dC ["thing"] ["thing"] (b_ (top 73)):=by ext
theorem Uu (F:iM K "is_word" "is_word" (top 73) f m) (T:Txt K mg) (TK:rA mg) (o:gK K mg "is_name" (top 27) ["text"] j c):dw P w K mg base fG 2 f m ["thing"] (Qa K):=by
 have r:dw P w K mg base fG 1 j c ["text"] lX:=oO o.F T TK;refine F.ok YB (by ext) fun p A g s H vs Q E q h=>?_;obtain ⟨x,d,rfl,e,v,k⟩:=h;refine ⟨_,(dj (dX (j5 (dJ ig (by rfl) T.isinstance eQ (aK (pv 0) (aK (jA rfl T.str wU) d9))) (mF (n6 o r q (aK (pv 0) d9)))))),?_⟩
 try dsimp only [i_]
 cases v with
 | @str y a l=>cases e;exact ⟨_,rfl,_,_,_,_,rfl,.str y,rfl,_,rfl,iY rfl ⟨_,rfl,y,rfl,aaj l (by decide),k⟩⟩
 | @int i a b=>cases e;exact ⟨_,rfl,_,_,_,_,rfl,.int i,rfl,_,rfl,iK rfl k⟩
 |nil=>exact ⟨_,rfl,_,_,_,_,rfl,e,rfl,_,rfl,iK rfl k⟩
 |node a l n z=>exact ⟨_,rfl,_,_,_,_,rfl,e,rfl,_,rfl,iK rfl k⟩
inductive Qc (K:Zs) (vs:List V) (H:Hp) (Q:VK) (E:XK):Prop
 |mk (x:V) (d:PyData):vs=[x]->Rep K H x d->TD d->Q (.bl (QC d)) H->Qc K vs H Q E
def Ym:dC ["thing"] ["thing"] (b_ (top 74)):=by ext
theorem Wt (F:iM K "is_number" "is_number" (top 74) f j) (T:Txt K mg) (TK:rA mg):dw P w K mg base fG 1 f j ["thing"] (Qc K):=by
 refine F.ok Ym (by ext) fun m A e s H vs Q E p h=>?_;obtain ⟨x,d,rfl,c,o,k⟩:=h;obtain ⟨q,g⟩:=TK.lim;refine ⟨_,(dj (dX (j5 (dJ ig (by rfl) T.isinstance eQ (aK (pv 0) (aK (jA rfl T.int qN) d9))) (j5 (T8 (dJ ig (by rfl) T.isinstance eQ (aK (pv 0) (aK (jA rfl T.bool ou) d9)))) (mF (uE gY gY (vg q_ (e_ (v:=.int 999999) rfl g ⟨_,rfl⟩)) (pv 0) (e_ (v:=.int 999999) rfl g ⟨_,rfl⟩))))))),?_⟩
 try dsimp only [i_]
 cases o with
 | @int i a b=>cases c;refine ⟨_,rfl,_,_,_,_,rfl,.int i,rfl,_,rfl,iY rfl ⟨_,rfl,_,_,_,_,rfl,.int i,rfl,_,rfl,_,rfl,iY rfl ?_⟩⟩;exact j7.chain (j7.neg j7.con) (j7.var rfl) j7.con rD.i0 rD.i0 _ k
 | @str y a l=>cases c;exact ⟨_,rfl,_,_,_,_,rfl,.str y,rfl,_,rfl,iK rfl k⟩
 |nil=>exact ⟨_,rfl,_,_,_,_,rfl,c,rfl,_,rfl,iK rfl k⟩
 |node a l n z=>exact ⟨_,rfl,_,_,_,_,rfl,c,rfl,_,rfl,iK rfl k⟩
noncomputable abbrev dW:List (Str×PyData):=[("not",.int 1),("and",.int 2),("or",.int 2)]
noncomputable abbrev dS:List (Str×PyData):=[("less",.str "<"),("same",.str "=")]
structure Py (K:Zs) (mg:ZY) (aW aS:Zl):Prop where
 mw:mg "WITHIN" = some (.ref aW)
 ms:mg "SIGN_OF" = some (.ref aS)
 kw:Ga K aW dW
 ks:Ga K aS dS
def UG (f:Str):qD dW f=(arity f).map fun n=>V.int (n:Nat):=by
 unfold qD arity;show ((if _ then _ else if _ then _ else if _ then _ else none:Option PyData)).map WD=_;by_cases a:f = "not"
 ·subst a;rfl
 ·by_cases b:f = "and"
  ·subst b;rfl
  ·by_cases c:f = "or"
   ·subst c;rfl
   ·simp [a,b,c]
def VF (f:Str):qD dS f=if f = "less" then some (.str "<") else if f = "same" then some (.str "=") else none:=by
 unfold qD;show ((if _ then _ else if _ then _ else none:Option PyData)).map WD=_;by_cases a:f = "less"
 ·subst a;rfl
 ·by_cases b:f = "same"
  ·subst b;rfl
  ·simp [a,b]
inductive Qx (K:Zs) (vs:List V) (H:Hp) (Q:VK) (E:XK):Prop
 |mk (a:Zl) (f:Str) (r:List PyData):vs=[.ref a]->Rep K H (.ref a) (.tuple (.str f::r))->TD (.tuple (.str f::r))->Q (.bl (m9 f r)) H->Qx K vs H Q E
def Ub:dC ["test","form"] ["test"] (b_ (top 75)):=by ext
theorem Vp (F:iM K "is_leaf" "is_leaf" (top 75) f O) (T:Txt K mg) (TK:rA mg) (TB:Py K mg aW G) (DI:gK K mg "is_name" (top 27) ["text"] fI I) (J:gK K mg "is_word" (top 73) ["thing"] fW i) (R:gK K mg "is_number" (top 74) ["thing"] N l):dw P w K mg base fG 3 f O ["test"] (Qx K):=by
 have L:dw P w K mg base fG 2 fW i ["thing"] (Qa K):=Uu J.F T TK DI;have U:dw P w K mg base fG 1 N l ["thing"] (Qc K):=Wt R.F T TK;refine F.ok Ub (by ext) fun S A o s H vs Q E p h=>?_;obtain ⟨a,f,r,rfl,W,X,k⟩:=h;have x:eX 1 _:=p.mono (by decide);refine ⟨_,(d7 (jD 1 Ub.nd (fu j6 (pv 0) dm)) (d7 (fX (d_ jq (pv 1) dD (eV _)) (dj (dX (ji jq (dJ dY (by rfl) T.len gB (aK (pv 0) d9)) dm (eV _)))) eE) (d7 (fX (d_ jq (pv 1) dD (eV _)) (dj (dX (j5 (ji jq (dJ dY (by rfl) T.len gB (aK (pv 0) d9)) dm (eV _)) (mF (n6 J L p (aK (fu j6 (pv 0) dm) d9)))))) eE) (dj (dX (j5 (ji JC (pv 1) (e_ (v:=.ref G) rfl TB.ms rfl) rfl) (j5 (ji jq (dJ dY (by rfl) T.len gB (aK (pv 0) d9)) dm (eV _)) (j5 (n6 J L p (aK (fu j6 (pv 0) dm) d9)) (mF (n6 R U x (aK (fu j6 (pv 0) dm) d9))))))))))),?_⟩
 try dsimp only [i_]
 cases X with
 |node af lf nr D=>
 cases W with
 |@tup _ Z _ c M=>
 obtain ⟨q,g,rfl⟩:∃ q g,Z=q::g:=by cases M;exact ⟨_,_,rfl⟩
 obtain ⟨Y,z⟩:Rep K H q (.str f)/\iu K H g r:=by cases M with|cons a b=>exact ⟨a,b⟩
 cases Y;have m:=z.length;refine ⟨_,rfl,a,_,_,_,rfl,rfl,c,gw (j:=0) rfl,_,rfl,rfl,_,rfl,?_⟩;unfold m9 at k;by_cases B:f = "all"
 ·subst B;rw [aac rfl] at k;refine iY (by simp) ⟨_,rfl,a,_,rfl,.inr c,rfl,?_⟩;have e:decide (V.int ((V.str "all"::g).length:Nat)=V.int 1)=r.isEmpty:=by
   rw [abp,abu,List.isEmpty_iff,aaA,V.int.injEq];constructor
   ·intro h;exact add.mp (by omega)
   ·rintro rfl;simp at m;simp [m]
  rw [e];exact k
 ·rw [aab B] at k;refine iK (by simp [B]) ⟨_,rfl,rfl,_,rfl,?_⟩;by_cases C:f = "is"
  ·subst C;rw [aac rfl] at k;refine iY (by simp) ⟨_,rfl,a,_,rfl,.inr c,rfl,_,rfl,?_⟩
   match r,g,z,k,m with
   |[],[],_,k,_=>exact iK (by simp) k
   |[d],[y],.cons ry .nil,k,_=>exact iY (by simp) ⟨_,rfl,a,_,_,_,rfl,rfl,c,gw (j:=1) rfl,y,d,rfl,ry,D d (aao ..),k⟩
   |_::_::_,_::_::_,_,k,_=>exact iK (by simp;omega) k
  ·rw [aab C] at k;refine iK (by simp [C]) ⟨_,rfl,f,G,dS,rfl,rfl,TB.ks,_,rfl,?_⟩;have e:(if false=true then !(qD dS f).isSome else (qD dS f).isSome)=decide (f = "less"∨f = "same"):=by
    rw [VF];by_cases q1:f = "less"
    ·simp [q1]
    ·by_cases q2:f = "same"
     ·rw [aab q1,aac q2];simp [q2]
     ·simp [q1,q2]
   rw [e];by_cases n:f = "less"∨f = "same"
   ·rw [aaH n,abD] at k;refine iY (by simp [n]) ⟨_,rfl,a,_,rfl,.inr c,rfl,_,rfl,?_⟩
    match r,g,z,k,m with
    |[],[],_,k,_=>exact iK (by simp) k
    |[d],[y],_,k,_=>exact iK (by simp) k
    | [d,d2],[y,y2],.cons ry (.cons ry2 .nil),k,_=>
      refine iY (by simp) ⟨_,rfl,a,_,_,_,rfl,rfl,c,gw (j:=1) rfl,y,d,rfl,ry,D d (aao ..),_,rfl,?_⟩;have k:Q (.bl (vM d && QC d2)) H:=k;cases hw:vM d with
      |false=>rw [hw] at k;exact iK rfl k
      | true=>rw [hw] at k;exact iY rfl ⟨_,rfl,a,_,_,_,rfl,rfl,c,gw (j:=2) rfl,y2,d2,rfl,ry2,D d2 (aan _ (aao ..)),k⟩
    |_::_::_::_,_::_::_::_,_,k,_=>exact iK (by simp;omega) k
   ·rw [aaE n,abz] at k;exact iK (by simp [n]) k
end
def Ha (h:arity f=some k):1≤k/\k≤2:=by
 unfold arity at h;split at h
 ·cases h;omega
 ·split at h
  ·cases h;omega
  ·split at h
   ·cases h;omega
   ·cases h
set_option tactic.hygienic true in
theorem Hq:∀ (n:Nat) (d:PyData),cnt n d+1≤2 ^ n
 |0,_=>by simp [cnt]
 | n+1,d=>by
   have b:=Hq n;have p:1≤2 ^ n:=Nat.one_le_two_pow;rw [Nat.pow_succ];by_cases hd:∃ f r,d=.tuple (.str f::r)
   ·obtain ⟨f,r,rfl⟩:=hd;show (if m9 f r=true then 1 else if arity f=some r.length then (if 0∈r.map (cnt n) then 0 else 1+(r.map (cnt n)).sum) else 0)+1≤_;split
    ·omega
    ·split
     ·rename_i h;split
      ·omega
      ·have a:=Ha h
       match r,a with
       |[x],_=>have:=b x;simp;omega
       |[x,y],_=>have:=b x;have:=b y;simp;omega
       |_::_::_::_,a=>simp at a
       |[],a=>simp at a
     ·omega
   ·have e:cnt (n+1) d=0:=by
     unfold cnt;split
     ·omega
     ·exact absurd ⟨_,_,rfl⟩ hd
     ·rfl
    omega
theorem JN (g:PyData->Nat) (r:List PyData):(r.map fun d=>((g d:Nat):Int)).sum=(((r.map g).sum:Nat):Int):=by
 induction r with
 |nil=>rfl
 |cons d r a=>rw [aaw,aaw,abO,abO,a];omega
section
variable {P:ZB} {w:ZE} {K:Zs} {mg:ZY} {base:ZI}
inductive Gg (K:Zs) (n:Nat) (vs:List V) (H:Hp) (Q:VK) (E:XK):Prop
 |mk (x:V) (d:PyData):vs=[x,.int (n:Nat)]->Rep K H x d->TD d->(∀ H',du H H'->Q (.int (cnt n d:Nat)) H')->Gg K n vs H Q E
noncomputable abbrev Ze:List Str:=["thing","deep","counts"]
def Uq:dC Ze ["thing","deep"] (b_ (top 76)):=by ext
def Tw:jV (x::a) (some 1) none=a:=by simp [jV,HT.je]
theorem Vh (DC:gK K mg "count_parts" (top 76) ["thing","deep"] f O) (T:Txt K mg) (S:mg "sum" = none) (TK:rA mg) (TB:Py K mg aW aS) (DI:gK K mg "is_name" (top 27) ["text"] fI fdI) (DW:gK K mg "is_word" (top 73) ["thing"] fW fdW) (DN:gK K mg "is_number" (top 74) ["thing"] fN fdN)
 (DL:gK K mg "is_leaf" (top 75) ["test"] fL R) (n:Nat) (hn5:n≤20):dw P w K mg base fG (n+4) f O ["thing","deep"] (Gg K n):=by
 have GL:dw P w K mg base fG 3 fL R ["test"] (Qx K):=Vp DL.F T TK TB DI DW DN;have B:∀ m k:Nat,m≤20->(∀ n,n+1=m->dw P w K mg base fG (n+4) f O ["thing","deep"] (Gg K n))->dw P w K mg base fG (m+4) f O ["thing","deep"] (Gg K m):=by
  intro m k0 hm GC;refine DC.F.ok Uq (fun vs H Q E h=>?_) (fun aa A ab s H vs Q E hr h=>?_)
  ·obtain ⟨x,d,rfl,_⟩:=h;rfl
  ·obtain ⟨x,d,rfl,L,td,k⟩:=h;have ah:eX 3 _:=hr.mono (by omega);have ai:dw P w K mg base fG (m+3) f O ["thing","deep"] (fun vs H Q E=>∃ n,n+1=m/\Gg K n vs H Q E):=by
    match m,GC with
    |0,_=>exact ⟨fun _ _ _ _ ⟨n,e,_⟩=>by omega,fun _ _ _ _ _ _ _ _ _ _ _ _ _ ⟨n,e,_⟩=>by omega⟩
    | m+1,GC=>have G:=GC m rfl;exact ⟨fun vs H Q E ⟨n,e,h⟩=>by cases e;exact G.1 vs H Q E h,fun a1 a2 a3 a4 a5 a6 a7 a8 a9 ac ad ae ag ⟨n,e,h⟩=>by cases e;exact G.2 a1 a2 a3 a4 a5 a6 a7 a8 a9 ac ad ae ag h⟩
   refine ⟨_,(d7 (fX (PW.pt (rJ (d_ jq (pv 1) dm (eV _)) (rJ (jn (jY (dJ ig (by rfl) T.isinstance eQ (aK (pv 0) (aK (jA rfl T.tuple jO) d9))))) (pG (d_ jq (dJ dY (by rfl) T.len gB (aK (pv 0) d9)) dm (eV _)))))) (dj (dX dm)) eE) (d7 (fX (jY (n6 DL GL ah (aK (pv 0) d9))) (dj (dX dm)) eE) (d7 (fX (d_ uA (Ez (e_ (v:=.ref aW) rfl TB.mw rfl) (fu j6 (pv 0) dm) ⟨rfl,rfl,rfl,rfl⟩) (fj wG (dJ dY (by rfl) T.len gB (aK (pv 0) d9)) dm) (eV _)) (dj (dX dm)) eE) (d7 (Bm (g:=fH 0) (i:=2) (own:=["part"]) (js:=[1]) (N':=["part","deep"]) (eN.of (osc:=b_ (top 76)) (N:=Ze) rfl rfl (by ext)) rfl Uq.nd rfl rfl (rn (ie wB (pv 0) (iR dm) iQ)) (fun _ _ _ _ _=>(gn (i:=0) (show List.Nodup (["part","deep"]:Y1) by ext) rfl (.inl rfl) (.inr rfl))) (fun _ _ _ _ _=>gH) (fun _ _ _ _ _=>eY ai hr rfl DC.mg DC.F.kp DC.b .nil dU (aK (pv 0) (aK (fj wG (pv 1) dm) d9)))) (dj (dX (m6 (d_ kO dm (pv 2) rfl) dm (fj j8 dm (dJ (Fb rfl) (by rfl) S RW (aK (pv 2) d9)))))))))),?_⟩
   try dsimp only [i_]
   refine ⟨_,rfl,rfl,_,rfl,?_⟩;by_cases h0:m=0
   ·subst h0;exact iY (by simp) (iY rfl (k _ (du.refl _)))
   refine iK (by simp [h0]) ?_;obtain ⟨n,rfl⟩:∃ n,m=n+1:=⟨m-1,by omega⟩;cases td with
   |str a l=>cases L;exact ⟨_,rfl,_,_,_,_,rfl,.str _,rfl,_,rfl,iY rfl (iY rfl (k _ (du.refl _)))⟩
   |int a b=>cases L;exact ⟨_,rfl,_,_,_,_,rfl,.int _,rfl,_,rfl,iY rfl (iY rfl (k _ (du.refl _)))⟩
   | nil=>
     cases L with
     |@tup a xs _ D Z=>
     cases Z;exact ⟨_,rfl,_,_,_,_,rfl,.tup D .nil,rfl,_,rfl,iK rfl ⟨_,rfl,a,_,rfl,.inr D,rfl,_,rfl,iY (by simp) (k _ (du.refl _))⟩⟩
   |@node f r af lf nr tr=>
   have J:=L;cases L with
   |@tup a xs _ D Z=>
   obtain ⟨x0,o,rfl⟩:∃ x0 o,xs=x0::o:=by cases Z;exact ⟨_,_,rfl⟩
   obtain ⟨r0,rt⟩:Rep K H x0 (.str f)/\iu K H o r:=by cases Z with|cons a b=>exact ⟨a,b⟩
   cases r0;have hl:=rt.length;refine ⟨_,rfl,_,_,_,_,rfl,J,rfl,_,rfl,iK rfl ⟨_,rfl,a,_,rfl,.inr D,rfl,_,rfl,iK (by simp;omega) ?_⟩⟩;refine ⟨_,rfl,a,f,r,rfl,J,.node af lf nr tr,_,rfl,?_⟩;have e1:cnt (n+1) (.tuple (.str f::r))=if m9 f r=true then 1 else if arity f=some r.length then (if 0∈r.map (cnt n) then 0 else 1+(r.map (cnt n)).sum) else 0:=rfl
   rw [e1] at k;by_cases z:m9 f r=true
   ·rw [aac z] at k;rw [z];exact iY rfl (k _ (du.refl _))
   rw [aab z] at k;rw [Bool.eq_false_iff.mpr z];refine iK rfl ?_;refine ⟨aW,dW,rfl,TB.kw,_,rfl,a,_,_,_,rfl,rfl,D,gw (j:=0) rfl,f,rfl,_,rfl,a,_,rfl,.inr D,_,_,rfl,rfl,?_⟩;rw [UG];by_cases X:arity f=some r.length
   ·rw [aac X] at k;rw [X];refine ⟨rfl,_,rfl,iK (by simp;omega) ?_⟩;refine ⟨_,rfl,1,rfl,a,_,rfl,D,(fun e=>?_),fun p hp=>?_⟩
    ·rw [Tw] at e;have:=aax List.length e;simp at this
    ·rw [Tw];have sp:gC K (upd H p (.tup o)) p o:=gC.of a_;have s1:du H (upd H p (.tup o)):=du.new hp;generalize upd H p (.tup o)=H1 at sp s1 ⊢;refine ⟨p,rfl,⟨_,sp⟩,?_⟩;refine jr (xs:=o) (fun i U c H'=>(∃ v,c=[v,some (.int (n+1:Nat))])/\du H1 H'/\U=((r.take i).map fun d=>V.int (cnt n d:Nat))) (aaj (show o.length≤20 by omega) (by decide)) ⟨⟨none,rfl⟩,du.refl _,rfl⟩ (fun i U c H' _ ⟨_,F,_⟩=>F.tup sp) ?_ ?_
     ·rintro i y U c W hy M ⟨⟨v,rfl⟩,F,rfl⟩ N hN;obtain ⟨d,hd,ry⟩:=rt.get' hy;refine ⟨_,rfl,_,rfl,_,_,rfl,rfl,n,rfl,y,d,?_,ry.same (s1.trans F),tr d (aaq hd),fun H3 I=>?_⟩
      ·show [y,V.int ((n+1:Nat)-1)]=[y,V.int (n:Nat)];rw [show (((n+1:Nat):Int)-1)=(n:Nat) by omega]
      ·exact hN _ _ _ (by rw [aaD,M];rfl) ⟨⟨_,rfl⟩,F.trans I,by rw [aaX,hd];simp⟩
     ·rintro U c W M ⟨⟨v,rfl⟩,F,rfl⟩;rw [abj (by omega)];have lr:(r.map fun d=>V.int (cnt n d:Nat)).length≤20:=by rw [aag];omega
      refine ⟨aaj lr (by decide),fun q hq=>?_⟩;have I:du H (upd W q (.lst (r.map fun d=>V.int (cnt n d:Nat)))):=(s1.trans F).trans (du.new hq);have C:fM K (upd W q (.lst (r.map fun d=>V.int (cnt n d:Nat)))) q (r.map fun d=>V.int (cnt n d:Nat)):=fM.of a_;generalize upd W q (.lst (r.map fun d=>V.int (cnt n d:Nat)))=H3 at I C ⊢;refine ⟨_,rfl,q,_,rfl,.inl C,rfl,by simp [oZ],_,rfl,?_⟩;have aj:(if false=true then !inV (.int 0) (r.map fun d=>V.int (cnt n d:Nat)) else inV (.int 0) (r.map fun d=>V.int (cnt n d:Nat)))=decide (0∈r.map (cnt n)):=by
       show inV (.int 0) (r.map fun d=>V.int (cnt n d:Nat))=_;rw [abp,abu];unfold inV;simp only [abT,aaB];constructor
       ·rintro ⟨_,⟨d,hd,rfl⟩,he⟩;exact ⟨d,hd,by simpa [wD] using he⟩
       ·rintro ⟨d,hd,he⟩;exact ⟨_,⟨d,hd,rfl⟩,by simp [he,wD]⟩
      rw [aj];by_cases Y:0∈r.map (cnt n)
      ·rw [aac Y] at k;rw [aaH Y];exact iY rfl (k _ I)
      ·rw [aab Y] at k;rw [aaE Y];refine iK rfl ?_;refine ⟨_,rfl,q,r.map fun d=>((cnt n d:Nat):Int),rfl,by rw [ach];exact C,by rw [aag];omega,fun x hx=>?_,_,_,rfl,rfl,?_⟩
       ·obtain ⟨d,_,rfl⟩:=aaB.mp hx;have:=Hq n d;have ak:2 ^ n≤2 ^ 20:=Nat.pow_le_pow_right (by decide) (by omega);have:(2:Nat) ^ 20=1048576:=by decide
        omega
       ·have es:=JN (cnt n) r;rw [es];have:=k _ I;rw [show ((1+(r.map (cnt n)).sum:Nat):Int)=1+(((r.map (cnt n)).sum:Nat):Int) by omega] at this;exact this
   ·rw [aab X] at k;cases hb:arity f with
    |none=>exact ⟨rfl,_,rfl,iY rfl (k _ (du.refl _))⟩
    | some j=>refine ⟨rfl,_,rfl,iY ?_ (k _ (du.refl _))⟩;have:¬ j=r.length:=fun e=>X (by rw [hb,e]);simp;omega
 induction n with
 |zero=>exact B 0 0 (by omega) (fun n e=>by omega)
 |succ n ih=>exact B (n+1) 0 hn5 (fun n' e=>by cases e;exact ih (by omega))
structure UV (mg:ZY):Prop where
 mp:∃ t,mg "MOST_PARTS" = some (.int 15 t)
 md:∃ t,mg "MOST_DEEP" = some (.int 5 t)
inductive Rn (K:Zs) (vs:List V) (H:Hp) (Q:VK) (E:XK):Prop
 |mk (x:V) (d:PyData):vs=[x]->Rep K H x d->TD d->(∀ H',du H H'->Q (.bl (lG d)) H')->Rn K vs H Q E
def YG:dC ["test"] ["test"] (b_ (top 77)):=by ext
noncomputable def Vb (F:iM K "is_test" "is_test" (top 77) f i) (TT:UV mg) (y:gK K mg "count_parts" (top 76) ["thing","deep"] g a) (z:dw P w K mg base fG 9 g a ["thing","deep"] (Gg K 5)):dw P w K mg base fG 10 f i ["test"] (Rn K):=by
 refine F.ok YG (by ext) fun j A b s H vs Q E l h=>?_;obtain ⟨x,d,rfl,o,p,k⟩:=h;obtain ⟨B,q⟩:=TT.mp;obtain ⟨C,r⟩:=TT.md;refine ⟨_,(dj (dX (uE gY gY dm (n6 y z l (aK (pv 0) (aK (e_ (v:=.int 5) rfl r ⟨_,rfl⟩) d9))) (e_ (v:=.int 15) rfl q ⟨_,rfl⟩)))),?_⟩
 try dsimp only [i_]
 refine ⟨_,rfl,x,d,rfl,o,p,fun e m=>⟨_,_,rfl,rfl,_,rfl,?_⟩⟩;have k:=k e m;rw [← Nb] at k;refine qW (fun h=>?_) (fun h=>?_)
 ·refine ⟨_,_,rfl,rfl,?_⟩;have c:1≤cnt 5 d:=by simp at h;omega
  have n:decide (((cnt 5 d:Nat):Int)≤15)=decide (cnt 5 d≤15):=by rw [abp];simp;omega
  rw [aaH c,abD] at k;show Q (.bl (decide (((cnt 5 d:Nat):Int)≤15))) e;rw [n];exact k
 ·have c:¬ 1≤cnt 5 d:=by simp at h;omega
  rw [aaE c,abz] at k;exact k
abbrev btF:List (Str×V):=[("word",.str "badtest")]
inductive S_ (K:Zs) (cT:Zl) (vs:List V) (H:Hp) (Q:VK) (E:XK):Prop
 |mk (x:V) (d:PyData):vs=[x]->Rep K H x d->TD d->((lG d=true->∀ H',du H H'->Q .non H'))->((lG d=false->∀ H1 da H',du H H1->jE H1 btF da H'->E (.ref cT) (some da) H'))->S_ K cT vs H Q E
def Xc:dC ["test"] ["test"] (b_ (top 78)):=by ext
theorem Uy (F:iM K "need_test" "need_test" (top 78) f D) (M:gK K mg "is_test" (top 77) ["test"] z c) (N:dw P w K mg base fG 10 z c ["test"] (Rn K)) (b:nH K mg "BadTest" i C g) (O:dw P w K mg base fG 2 C g ["self","words"] (uK K "badtest")):dw P w K mg base (jt P w) 11 f D ["test"] (S_ K i):=by
 refine F.ok1 Xc (by ext) fun j A l s H vs Q E p h=>?_;obtain ⟨x,d,rfl,G,J,k,L⟩:=h;have o:eX 3 _:=p.mono (by decide);refine ⟨_,(dj (fX (jn (jY (n6 M N p (aK (pv 0) d9)))) (dj (iC (B:="ValueError") (newId:="ValueError.__new__") (W:=E) (iD (E:=E0) aa3 b.e.x b.i b.n O o (by rfl) b.mg b.b .nil dU (aK dD d9)) rfl rfl (fun r R S T e cls dd I x q=>Gd I x q))) eE)),?_⟩
 try dsimp only [i_]
 refine ⟨_,rfl,x,d,rfl,G,J,fun v m=>⟨_,rfl,?_⟩⟩;cases h:lG d with
 |true=>exact iK rfl (k h v m)
 | false=>
   refine iY rfl ?_;intro e y;refine ⟨e,i,_,rfl,b.e,a_,fun n a=>⟨rfl,e,i,some n,rfl,?_,jo m y,b.e.x,L h v n _ m (iw y a)⟩⟩;have ne:e≠n:=fun q=>by subst q;rw [a_] at a;cases a
   rw [bK ne,a_]
end
inductive Pd {α β:Type} (R:α->β->Prop):List α->List β->Prop
 |nil:Pd R [] []
 |cons {x:α} {y:β} {xs:List α} {ys:List β}:R x y->Pd R xs ys->Pd R (x::xs) (y::ys)
section
variable {α β:Type}
theorem Pd.map (h:∀ x y,R x y->c x y):∀ {a:List α} {b:List β},Pd R a b->Pd c a b
 |_,_,.nil=>.nil
 |_,_,.cons r t=>.cons (h _ _ r) (Pd.map h t)
theorem Pd.mapM:∀ {a:List α} {b:List β},(∀ x∈a,∀ y,R x y->c x y)->Pd R a b->Pd c a b
 |_,_,_,.nil=>.nil
 |_,_,h,.cons r t=>.cons (h _ (aao ..) _ r) (Pd.mapM (fun x m=>h x (aan _ m)) t)
theorem Pd.len:∀ {xs:List α} {ys:List β},Pd R xs ys->xs.length=ys.length
 |_,_,.nil=>rfl
 |_,_,.cons _ t=>by rw [aaA,aaA,t.len]
theorem Pd.at:∀ {xs:List α} {a:List β} {i:Nat} {x:α},Pd R xs a->xs[i]?=some x->∃ y,a[i]?=some y/\R x y
 |_,_,_,_,.nil,e=>by simp at e
 |_,_,0,_,.cons r _,e=>by simp at e;subst e;exact ⟨_,rfl,r⟩
 | _,_,i+1,_,.cons _ t,e=>by obtain ⟨y,b,c⟩:=Pd.at (i:=i) t (by simpa using e);exact ⟨y,by simpa using b,c⟩
theorem Pd.app (h:Pd R b vs):∀ {a:List α} {ys:List β},Pd R a ys->Pd R (a++b) (ys++vs)
 |_,_,.nil=>h
 |_,_,.cons r t=>.cons r (Pd.app h t)
end
structure Cl where
 tk:Int
 tm:Int
 nm:Str
 fi:List lU
 vs:List Int
 gv:Bool
structure Pg where
 cs:List Cl
 us:Int
 go:Int
structure Ln where
 pg:List Pg
 most:Int
 room:Int
 over:Bool
 held:Bool
 told:Int
 last:Option Int
 tks:Int
 giv:Int
 thr:Int
 los:Int
 mis:Int
structure LC where
 k:Addr
 c:Addr
 p:Addr
 l:Addr
structure LC.Ok (Z:LC):Prop where
 kc:Z.k≠Z.c
 kp:Z.k≠Z.p
 kl:Z.k≠Z.l
 cp:Z.c≠Z.p
 cl:Z.c≠Z.l
 pl:Z.p≠Z.l
structure PA where
 p:Addr
 l:Addr
 cs:List Addr
structure LA where
 a:Addr
 lp:Addr
 ps:List PA
noncomputable def LA.ls (k:LA):List Addr:=k.lp::k.ps.map (·.l)
noncomputable def LA.cs (k:LA):List Addr:=k.ps.flatMap (·.cs)
noncomputable def Tj (m:Cl) (k t:Zl):List (Str×V):=[("ticket",.int m.tk),("time",.int m.tm),("form",.ref k),("filled",.ref t),("given",.bl m.gv)]
noncomputable def Zb (l:Zl) (m:Pg):List (Str×V):=[("claims",.ref l),("used",.int m.us),("gone",.int m.go)]
noncomputable def ZZ:Option Int->V
 |none=>.non
 |some i=>.int i
noncomputable def Zi (a:Zl) (n:Ln):List (Str×V):=[("most",.int n.most),("room",.int n.room),("over",.bl n.over),("pages",.ref a),("held",.bl n.held),("told",.int n.told),("last_time",ZZ n.last),("tickets",.int n.tks),("given_in",.int n.giv),("thrown_back",.int n.thr),("lost",.int n.los),("missed",.int n.mis)]
structure oR (Z:LC) (H:Hp) (c:Zl) (m:Cl):Prop where
 ex:∃ dx k a t,H c=some (.ins Z.c dx (Tj m k t))/\ii Z.k H k m.nm a m.fi/\H t=some (.tup (m.vs.map V.int))
structure lW (Z:LC) (H:Hp) (s:PA) (m:Pg):Prop where
 ob:∃ dx,H s.p=some (.ins Z.p dx (Zb s.l m))
 ls:H s.l=some (.lst (s.cs.map V.ref))
 cs:Pd (oR Z H) s.cs m.cs
structure pB (Z:LC) (H:Hp) (k:LA) (n:Ln):Prop where
 ob:∃ dx,H k.a=some (.ins Z.l dx (Zi k.lp n))
 ls:H k.lp=some (.lst (k.ps.map fun s=>V.ref s.p))
 pg:Pd (lW Z H) k.ps n.pg
 n1:(k.ps.map (·.p)).Nodup
 n2:k.ls.Nodup
 n3:k.cs.Nodup
structure Kt (Z:LC) (H H':Hp):Prop where
 tk:TK H H'
 kd:∀ b dx fs,H b=some (.ins Z.k dx fs)->H' b=some (.ins Z.k dx fs)
def du.kt (s:du H d):Kt Z H d:=⟨fun b a e=>s _ _ e,fun b c fs e=>s _ _ e⟩
def Kt.ins (h:H q=some (.ins C d fs)) (ne:Z.k≠C):Kt Z H (upd H q o):=
 ⟨fun c f e=>by rw [bK (iJ e h (by intro z;cases z))];exact e,fun c a b e=>by rw [bK (fun z=>by subst z;rw [h] at e;cases e;exact ne rfl)];exact e⟩
def ii.kt (h:ii Z.k H k nm a b) (q:Kt Z H i):ii Z.k i k nm a b:=by obtain ⟨⟨c,e⟩,d,f,g⟩:=h;exact ⟨⟨c,q.kd _ _ _ e⟩,d,q.tk _ _ f,gF g q.tk⟩
def oR.kt (h:oR Z H c m) (q:Kt Z H g) (s:g c=H c):oR Z g c m:=by obtain ⟨b,k,a,t,d,e,f⟩:=h.ex;exact ⟨b,k,a,t,by rw [s];exact d,e.kt q,q.tk _ _ f⟩
def lW.kt (h:lW Z H s m) (q:Kt Z H f) (b:f s.p=H s.p) (d:f s.l=H s.l) (e:∀ c∈s.cs,f c=H c):lW Z f s m:=
 ⟨by rw [b];exact h.ob,by rw [d];exact h.ls,Pd.mapM (fun c a y r=>r.kt q (e c a)) h.cs⟩
def oR.same (h:oR Z H c m) (s:du H e):oR Z e c m:=by obtain ⟨d,k,a,t,b,_⟩:=h.ex;exact h.kt (du.kt s) (by rw [b];exact s _ _ b)
def lW.same (h:lW Z H s m) (e:du H c):lW Z c s m:=by obtain ⟨a,b⟩:=h.ob;exact ⟨⟨a,e _ _ b⟩,e _ _ h.ls,h.cs.map fun _ _ r=>r.same e⟩
def pB.same (h:pB Z H k n) (e:du H c):pB Z c k n:=by obtain ⟨a,b⟩:=h.ob;exact ⟨⟨a,e _ _ b⟩,e _ _ h.ls,h.pg.map fun _ _ r=>r.same e,h.n1,h.n2,h.n3⟩
noncomputable def LA.own (k:LA):List Addr:=k.a::(k.ps.map (·.p)++k.cs)
def LA.a_own {k:LA}:k.a∈k.own:=aao ..
def LA.p_own {k:LA} {i:Nat} {s:PA} (h:k.ps[i]?=some s):s.p∈k.own:=aan _ (aam.mpr (.inl (aaB.mpr ⟨s,aaq h,rfl⟩)))
def LA.c_own {k:LA} (h:c∈k.cs):c∈k.own:=aan _ (aam.mpr (.inr h))
theorem eG (s:du H a) (e:a b=none):H b=none:=by
 cases h:H b with
 |none=>rfl
 |some o=>rw [s _ _ h] at e;cases e
def Ec (c:X.K=K) (d:PE X e b) (g:attributeBase e f X.env (eval e X.env)=eval e X.env):PE X (.Attribute e f a) (Uh K b f):=by subst c;exact dN d g
structure MD (K:Zs) (C:Zl) (m qual:Str) (st:Stmt) (ps:Y1) (f:Zl) (fd:ZA):Prop where
 M:Meth K C m f
 F:iM K m qual st f fd
 b:Binds K fd ps []
abbrev cM (j:Nat):Stmt:=inClass (top 57) j
abbrev gM (j:Nat):Stmt:=inClass (top 58) j
abbrev lM (j:Nat):Stmt:=inClass (top 59) j
structure LZ (K:Zs) (mg:ZY) (Z:LC):Prop where
 ok:Z.Ok
 kc:KCls K mg Z.k
 cc:vy K Z.c
 cmg:mg "Claim" = some (.ref Z.c)
 c1:eO K Z.c "ticket"
 c2:eO K Z.c "time"
 c3:eO K Z.c "form"
 c4:eO K Z.c "filled"
 c5:eO K Z.c "given"
 pc:vy K Z.p
 pmg:mg "Page" = some (.ref Z.p)
 p1:eO K Z.p "claims"
 p2:eO K Z.p "used"
 p3:eO K Z.p "gone"
 lc:vy K Z.l
 lmg:mg "Lane" = some (.ref Z.l)
 l1:eO K Z.l "most"
 l2:eO K Z.l "room"
 l3:eO K Z.l "over"
 l4:eO K Z.l "pages"
 l5:eO K Z.l "held"
 l6:eO K Z.l "told"
 l7:eO K Z.l "last_time"
 l8:eO K Z.l "tickets"
 l9:eO K Z.l "given_in"
 l10:eO K Z.l "thrown_back"
 l11:eO K Z.l "lost"
 l12:eO K Z.l "missed"
def fQ (h:H x=none) (c:H a=none) (k:∀ b u,upd (upd H a (.own x)) x o b=some u->b≠x->f b=some u):du H f:=fun b u e=>by have d:b≠x:=di e h;have g:b≠a:=di e c;exact k b u (by rw [bK d,bK g];exact e) d
section
variable {P:ZB} {w:ZE} {K:Zs} {mg:ZY} {base:ZI} {Z:LC}
inductive N6 (Z:LC) (vs:List V) (H:Hp) (Q:VK) (E:XK):Prop
 |mk (o dx:Zl):vs=[.ref o]->H o=some (.ins Z.p dx [])->(∀ l H',H l=none->H' o=some (.ins Z.p dx (Zb l ⟨[],0,0⟩))->H' l=some (.lst [])->(∀ b u,H b=some u->b≠o->H' b=some u)->Q .non H')->N6 Z vs H Q E
def Xl:dC ["self"] ["self"] (b_ (gM 0)):=by ext
def Pr (F:iM K "__init__" "Page.__init__" (gM 0) f m) (L:LZ K mg Z):dw P w K mg base fG 1 f m ["self"] (N6 Z):=by
 refine F.ok Xl (by ext) fun n A c s H vs Q E p h=>?_;obtain ⟨o,g,rfl,j,k⟩:=h;refine ⟨_,(d7 (dO (pv 0) (gb d9) rfl) (d7 (dO (pv 0) dm rfl) (dj (dO (pv 0) dm rfl)))),?_⟩;refine ⟨(by ext),fun l d=>?_⟩;have a:o≠l:=di j d;refine ⟨_,rfl,o,Z.p,g,[],rfl,(by rw [bK a];exact j),L.pc,L.p1,(show 0<1000 by decide),?_⟩;refine ⟨_,rfl,o,Z.p,g,_,rfl,a_,L.pc,L.p2,(show 1<1000 by decide),?_⟩;refine ⟨_,rfl,o,Z.p,g,_,rfl,a_,L.pc,L.p3,(show 2<1000 by decide),?_⟩;refine k l _ d a_ ?_ ?_
 ·rw [bK a.symm,bK a.symm,bK a.symm,a_]
 ·intro b u e i;rw [bK i,bK i,bK i,bK (di e d)];exact e
structure MJ (nm:Str) (fs:List lU):Prop where
 nm:Nm nm
 le:fs.length≤4
 ok:∀ f∈fs,vQ f
 nd:(fs.map (·.1)).Nodup
def vO (tk a:Int) (nm:Str) (fs:List lU):Cl:=⟨tk,a,nm,fs,fs.map (·.2.1),false⟩
inductive QB (Z:LC) (vs:List V) (H:Hp) (Q:VK) (E:XK):Prop
 |mk (o dx kd a:Zl) (tk tm:Int) (nm:Str) (fs:List lU):vs=[.ref o,.int tk,.int tm,.ref kd]->H o=some (.ins Z.c dx [])->ii Z.k H kd nm a fs->MJ nm fs->(∀ H',oR Z H' o (vO tk tm nm fs)->(∀ b u,H b=some u->b≠o->H' b=some u)->Q .non H')->QB Z vs H Q E
def Yd:dC ["self","ticket","time","kind"] ["self","ticket","time","kind"] (b_ (cM 0)):=by ext
def ii.keep (h:ii Z.k H k nm a j) (e:H o=some (.ins C n d)) (ne:Z.k≠C) (kp:∀ b u,H b=some u->b≠o->i b=some u):ii Z.k i k nm a j:=by
 obtain ⟨⟨dk,c⟩,l,g,m⟩:=h;refine ⟨⟨dk,kp _ _ c fun z=>?_⟩,l,kp _ _ g (iJ g e (by intro z;cases z)),gF m fun b p f=>kp _ _ f (iJ f e (by intro z;cases z))⟩;rw [z,e] at c;injection c with c
 injection c with c
 exact ne c.symm
noncomputable def UW (F:iM K "__init__" "Claim.__init__" (cM 0) f fd) (L:LZ K mg Z) (M:Mk K Z.k fI) (GI:dw P w K mg base fG 4 fI B ["self","name","fields"] (BP Z.k)) (bI:Binds K B ["self","name","fields"] []) (ML:MD K Z.k "lowest" "Kind.lowest" (kM 1) ["self"] fL C) (GL:dw P w K mg base fG 1 fL C ["self"] (ud Z.k)):dw P w K mg base fG 6 f fd ["self","ticket","time","kind"] (QB Z):=by
 refine F.ok Yd (by ext) fun J A N s H vs Q E hr h=>?_;obtain ⟨o,c,kd,a,tk,l,nm,fs,rfl,ho,ka,v,k⟩:=h;have T:eX 1 _:=hr.mono (by decide);refine ⟨_,(d7 (dO (pv 0) (pv 1) rfl) (d7 (dO (pv 0) (pv 2) rfl) (d7 (dO (pv 0) (km M GI hr rfl L.kc.mg bI .nil dU (aK (dN (pv 3) rfl) (aK (dN (pv 3) rfl) d9))) rfl) (d7 (dO (pv 0) (gq (pv 3) L.kc.cl ML.M GL T ML.b .nil dU) rfl) (dj (dO (pv 0) y_ rfl)))))),?_⟩;have D:=L.ok.kc;refine ⟨_,rfl,_,rfl,o,Z.c,c,[],rfl,ho,L.cc,L.c1,(show 0<1000 by decide),?_⟩;refine ⟨_,rfl,_,rfl,o,Z.c,c,_,rfl,a_,L.cc,L.c2,(show 1<1000 by decide),?_⟩;generalize i:upd (upd H o (.ins Z.c c (gG "ticket" (.int tk) []))) o (.ins Z.c c (gG "time" (.int l) (gG "ticket" (.int tk) [])))=y;have k2:∀ b u,H b=some u->b≠o->y b=some u:=fun b u e d=>by rw [← i,bK d,bK d];exact e
 have e2:y o=some (.ins Z.c c [("ticket",.int tk),("time",.int l)]):=by rw [← i,a_];rfl
 clear i;have q:=ka.keep ho D k2;obtain ⟨⟨dk,ek⟩,xs,et,pf⟩:=id q;refine ⟨_,rfl,kd,Z.k,dk,_,_,rfl,ek,L.kc.cl,L.kc.nN,KR nm a,_,rfl,kd,Z.k,dk,_,_,rfl,ek,L.kc.cl,L.kc.nF,u_ nm a,fun x g hx m O=>?_⟩;have s3:du y (upd (upd y g (.own x)) x (.ins Z.k g [])):=(du.new m).trans (du.new (by rw [bK O.symm];exact hx));refine ⟨x,g,a,nm,xs,fs,rfl,a_,v.nm,s3 _ _ et,gF pf (fun b ys e=>s3 _ _ e),v.le,v.ok,v.nd,fun R S k4=>⟨rfl,?_⟩⟩;have G:du y R:=fQ hx m k4;refine ⟨_,rfl,o,Z.c,c,_,rfl,G _ _ e2,L.cc,L.c3,(show 2<1000 by decide),?_⟩;generalize j:upd R o (.ins Z.c c (gG "form" (.ref x) [("ticket",.int tk),("time",.int l)]))=I;have e4:=G _ _ e2;have U:∀ b u,R b=some u->b≠o->I b=some u:=fun b u e d=>by rw [← j,bK d];exact e
 have W:I o=some (.ins Z.c c [("ticket",.int tk),("time",.int l),("form",.ref x)]):=by rw [← j,a_];rfl
 clear j;have X:ii Z.k I x nm a fs:=S.keep e4 D U;have r:ii Z.k I kd nm a fs:=(q.kt (du.kt G)).keep e4 D U;obtain ⟨⟨aa,ab⟩,_⟩:=id r;refine ⟨_,rfl,kd,aa,_,rfl,ab,Ud nm a (by ext) (by ext),kd,a,nm,fs,rfl,r,v.le,fun p H6 hp n=>?_⟩;refine ⟨_,rfl,o,Z.c,c,_,rfl,n _ _ W,L.cc,L.c4,(show 3<1000 by decide),?_⟩;refine ⟨_,rfl,o,Z.c,c,_,rfl,a_,L.cc,L.c5,(show 4<1000 by decide),?_⟩;have Y:p≠o:=iJ hp (n _ _ W) (by intro z;cases z);have k7:∀ b u,H6 b=some u->b≠o->(upd (upd H6 o (.ins Z.c c (gG "filled" (.ref p) [("ticket",.int tk),("time",.int l),("form",.ref x)]))) o (.ins Z.c c (gG "given" (.bl false) (gG "filled" (.ref p) [("ticket",.int tk),("time",.int l),("form",.ref x)])))) b=some u:=fun b u e d=>by rw [bK d,bK d];exact e
 refine k _ ⟨c,x,a,p,a_,(X.kt (du.kt n)).keep (n _ _ W) D k7,?_⟩ ?_
 ·refine k7 _ _ (hp.trans ?_) Y;show some (HO.tup (fs.map fun f=>V.int f.2.1))=some (.tup ((fs.map (·.2.1)).map V.int));rw [ach];rfl
 ·exact fun b u e d=>k7 _ _ (n _ _ (U _ _ (G _ _ (k2 _ _ e d)) d)) d
end
structure Bf (mg:ZY):Prop where
 a:∃ t,mg "FEWEST_PAGES" = some (.int 2 t)
 b:∃ t,mg "MOST_PAGES" = some (.int 16 t)
 c:∃ t,mg "LEAST_ROOM" = some (.int 5 t)
 d:∃ t,mg "MOST_ROOM" = some (.int 12 t)
def JH (a b:Int) (c:Bool):Ln:=⟨[⟨[],0,0⟩],a,b,c,false,0,none,0,0,0,0,0⟩
section
variable {P:ZB} {w:ZE} {K:Zs} {mg:ZY} {base:ZI} {Z:LC}
inductive QL (vs:List V) (H:Hp) (Q:VK) (E:XK):Prop
 |mk (i:Int):vs=[.int i]->2≤i->i≤16->Q .non H->QL vs H Q E
def Wj:dC ["pages"] ["pages"] (b_ (top 53)):=by ext
noncomputable def W9 (F:iM K "need_pages" "need_pages" (top 53) f b) (c:Bf mg):dw P w K mg base fG 1 f b ["pages"] QL:=by refine F.ok Wj (by ext) fun d A a s H vs Q E j h=>?_;obtain ⟨i,rfl,l,m,q⟩:=h;obtain ⟨n,e⟩:=c.a;obtain ⟨o,g⟩:=c.b;refine ⟨_,(dj (fX (jn (kZ gY gY (e_ (v:=.int 2) rfl e ⟨_,rfl⟩) (pv 0) (e_ (v:=.int 16) rfl g ⟨_,rfl⟩))) (dj iH) eE)),?_⟩;refine oX.iff (oX.not (oX.test (j7.chain j7.con (j7.var rfl) j7.con rD.i0 rD.i0))) (qW (fun h=>?_) (fun h=>q));simp at h;omega
inductive Ra (vs:List V) (H:Hp) (Q:VK) (E:XK):Prop
 |mk (i:Int):vs=[.int i]->5≤i->i≤12->Q .non H->Ra vs H Q E
def Ut:dC ["room"] ["room"] (b_ (top 54)):=by ext
noncomputable def Ui (F:iM K "need_room" "need_room" (top 54) f b) (c:Bf mg):dw P w K mg base fG 1 f b ["room"] Ra:=by refine F.ok Ut (by ext) fun d A a s H vs Q E j h=>?_;obtain ⟨i,rfl,l,m,q⟩:=h;obtain ⟨n,e⟩:=c.c;obtain ⟨o,g⟩:=c.d;refine ⟨_,(dj (fX (jn (kZ gY gY (e_ (v:=.int 5) rfl e ⟨_,rfl⟩) (pv 0) (e_ (v:=.int 12) rfl g ⟨_,rfl⟩))) (dj iH) eE)),?_⟩;refine oX.iff (oX.not (oX.test (j7.chain j7.con (j7.var rfl) j7.con rD.i0 rD.i0))) (qW (fun h=>?_) (fun h=>q));simp at h;omega
inductive NB (Z:LC) (vs:List V) (H:Hp) (Q:VK) (E:XK):Prop
 |mk (o dx:Zl) (pages room:Int) (over:Bool):vs=[.ref o,.int pages,.int room,.bl over]->H o=some (.ins Z.l dx [])->2≤pages->pages≤16->5≤room->room≤12->(∀ k H',k.a=o->k.cs=[]->pB Z H' k (JH pages room over)->(∀ b u,H b=some u->b≠o->H' b=some u)->(∀ l∈k.ls,H l=none)->(∀ s∈k.ps,H s.p=none)->Q .non H')->NB Z vs H Q E
def Z2:dC ["self","pages","room","over"] ["self","pages","room","over"] (b_ (lM 0)):=by ext
noncomputable def Wl (F:iM K "__init__" "Lane.__init__" (lM 0) f fd) (L:LZ K mg Z) (TL:Bf mg) (DN:gK K mg "need_pages" (top 53) ["pages"] fN N) (DR:gK K mg "need_room" (top 54) ["room"] fR O) (MkP:Mk K Z.p fI) (FI:iM K "__init__" "Page.__init__" (gM 0) fI D) (bI:Binds K D ["self"] []):dw P w K mg base fG 3 f fd ["self","pages","room","over"] (NB Z):=by
 have GN:dw P w K mg base fG 1 fN N ["pages"] QL:=W9 DN.F TL;have GR:dw P w K mg base fG 1 fR O ["room"] Ra:=Ui DR.F TL;have GI:dw P w K mg base fG 1 fI D ["self"] (N6 Z):=Pr FI L;refine F.ok Z2 (by ext) fun aa A ab s H vs Q E hr h=>?_;obtain ⟨o,c,a,d,p,rfl,ho,p1,p2,r1,r2,q⟩:=h;have I:eX 1 _:=hr.mono (by decide);refine ⟨_,(d7 (dZ (n6 DN GN I (aK (pv 1) d9))) (d7 (dZ (n6 DR GR I (aK (pv 2) d9))) (d7 (dO (pv 0) (pv 1) rfl) (d7 (dO (pv 0) (pv 2) rfl) (d7 (dO (pv 0) (pv 3) rfl) (d7 (dO (pv 0) (gb (aK (pN (E:=E0) MkP GI hr rfl L.pmg bI .nil dU) d9)) rfl) (d7 (dO (pv 0) y_ rfl) (d7 (dO (pv 0) dm rfl) (d7 (dO (pv 0) qz rfl) (d7 (dO (pv 0) dm rfl) (d7 (dO (pv 0) dm rfl) (d7 (dO (pv 0) dm rfl) (d7 (dO (pv 0) dm rfl) (dj (dO (pv 0) dm rfl))))))))))))))),?_⟩;refine ⟨_,rfl,a,rfl,p1,p2,?_⟩;refine ⟨_,rfl,d,rfl,r1,r2,?_⟩;refine ⟨_,rfl,_,rfl,o,Z.l,c,[],rfl,ho,L.lc,L.l1,(show 0<1000 by decide),?_⟩;refine ⟨_,rfl,_,rfl,o,Z.l,c,_,rfl,a_,L.lc,L.l2,(show 1<1000 by decide),?_⟩;refine ⟨_,rfl,_,rfl,o,Z.l,c,_,rfl,a_,L.lc,L.l3,(show 2<1000 by decide),?_⟩;generalize C:upd (upd (upd H o (.ins Z.l c (gG "most" (.int a) []))) o (.ins Z.l c (gG "room" (.int d) (gG "most" (.int a) [])))) o (.ins Z.l c (gG "over" (.bl p) (gG "room" (.int d) (gG "most" (.int a) []))))=H3;have S:∀ b,b≠o->H3 b=H b:=fun b g=>by rw [← C,bK g,bK g,bK g]
 have T:H3 o=some (.ins Z.l c [("most",.int a),("room",.int d),("over",.bl p)]):=by rw [← C,a_];rfl
 clear C;refine fun x y R ac ad=>⟨x,y,rfl,a_,fun l G i ae r kp=>⟨rfl,?_⟩⟩;have U:du H3 G:=fQ R ac kp;have B:H3 l=none:=by
  have W:l≠x:=fun z=>by rw [z,a_] at i;cases i
  have X:l≠y:=fun z=>by rw [z,bK ad,a_] at i;cases i
  rw [bK W,bK X] at i;exact i
 refine ⟨(by ext),fun n j=>?_⟩;have J:du G (upd G n (.lst [.ref x])):=du.new j;have h5:(upd G n (.lst [.ref x])) n=some (.lst [.ref x]):=a_;generalize upd G n (.lst [.ref x])=H5 at J h5 ⊢;have e5:=J _ _ (U _ _ T);have W:x≠o:=fun z=>by rw [z,T] at R;cases R
 have X:l≠o:=fun z=>by rw [z,T] at B;cases B
 have n3:n≠o:=fun z=>by rw [z,U _ _ T] at j;cases j
 have af:n≠l:=fun z=>by rw [z,r] at j;cases j
 have ag:∀ v:Hp,v o=some (.ins Z.l c (Zi n (JH a d p)))->(∀ b,b≠o->v b=H5 b)->Q .non v:=by
  intro v eF Y;refine q ⟨o,n,[⟨x,l,[]⟩]⟩ v rfl rfl ⟨⟨c,eF⟩,?_,.cons ⟨⟨y,?_⟩,?_,.nil⟩ .nil,?_,?_,?_⟩ ?_ ?_ (fun s m=>by cases aak.mp m;show H x=none;rw [← S _ W];exact R)
  ·show v n=some (.lst [.ref x]);rw [Y _ n3];exact h5
  ·show v x=_;rw [Y _ W];exact J _ _ ae
  ·show v l=some (.lst []);rw [Y _ X];exact J _ _ r
  ·simp
  ·show [n,l].Nodup;simp [af]
  ·show ([]:YE).Nodup;simp
  ·intro b u e g;rw [Y _ g];refine J _ _ (U _ _ ?_);rw [S _ g];exact e
  ·intro b M;have M:b∈[n,l]:=M;rcases aah.mp M with rfl|M
   ·rw [← S _ n3];exact eG U j
   ·cases aak.mp M;rw [← S _ X];exact B
 refine ⟨_,rfl,o,Z.l,c,_,rfl,e5,L.lc,L.l4,(show 3<1000 by decide),?_⟩;refine ⟨_,rfl,o,Z.l,c,_,rfl,a_,L.lc,L.l5,(show 4<1000 by decide),?_⟩;refine ⟨_,rfl,o,Z.l,c,_,rfl,a_,L.lc,L.l6,(show 5<1000 by decide),?_⟩;refine ⟨_,rfl,o,Z.l,c,_,rfl,a_,L.lc,L.l7,(show 6<1000 by decide),?_⟩;refine ⟨_,rfl,o,Z.l,c,_,rfl,a_,L.lc,L.l8,(show 7<1000 by decide),?_⟩;refine ⟨_,rfl,o,Z.l,c,_,rfl,a_,L.lc,L.l9,(show 8<1000 by decide),?_⟩;refine ⟨_,rfl,o,Z.l,c,_,rfl,a_,L.lc,L.l10,(show 9<1000 by decide),?_⟩;refine ⟨_,rfl,o,Z.l,c,_,rfl,a_,L.lc,L.l11,(show 10<1000 by decide),?_⟩;refine ⟨_,rfl,o,Z.l,c,_,rfl,a_,L.lc,L.l12,(show 11<1000 by decide),?_⟩;exact ag _ a_ (fun b g=>by rw [bK g,bK g,bK g,bK g,bK g,bK g,bK g,bK g,bK g])
inductive Rk (Z:LC) (vs:List V) (H:Hp) (Q:VK) (E:XK):Prop
 |mk (c:Zl) (m:Cl):vs=[.ref c]->oR Z H c m->MJ m.nm m.fi->(∀ c' H',H c'=none->du H H'->oR Z H' c' m->Q (.ref c') H')->Rk Z vs H Q E
def Wf:dC ["self","other"] ["self"] (b_ (cM 2)):=by ext
noncomputable def Vm (F:iM K "twin" "Claim.twin" (cM 2) f S) (L:LZ K mg Z) (I:Mk K Z.c R) (GI:dw P w K mg base fG 6 R y ["self","ticket","time","kind"] (QB Z)) (bI:Binds K y ["self","ticket","time","kind"] []):dw P w K mg base fG 8 f S ["self"] (Rk Z):=by
 refine F.ok Wf (by ext) fun T A z s H vs Q E U h=>?_;obtain ⟨c,m,rfl,cl,ko,q⟩:=h;refine ⟨_,(d7 (jD 1 Wf.nd (km (E:=E0) I GI U rfl L.cmg bI .nil dU (aK (dN (pv 0) rfl) (aK (dN (pv 0) rfl) (aK (dN (pv 0) rfl) d9))))) (d7 (dO (pv 1) (dN (pv 0) rfl) rfl) (d7 (dO (pv 1) (dN (pv 0) rfl) rfl) (dj (dX (pv 1)))))),?_⟩;obtain ⟨r,k,a,t,e,ka,M⟩:=id cl.ex;refine ⟨_,rfl,c,Z.c,r,_,_,rfl,e,L.cc,L.c1,rfl,_,rfl,c,Z.c,r,_,_,rfl,e,L.cc,L.c2,rfl,_,rfl,c,Z.c,r,_,_,rfl,e,L.cc,L.c3,rfl,fun x i j l B=>?_⟩;have X:du H (upd (upd H i (.own x)) x (.ins Z.c i [])):=(du.new l).trans (du.new (by rw [bK B.symm];exact j));refine ⟨x,i,k,a,m.tk,m.tm,m.nm,m.fi,rfl,a_,ka.kt (du.kt X),ko,fun n C W=>⟨rfl,?_⟩⟩;have J:du H n:=fQ j l W;obtain ⟨d,kk,N,v,O,G,_⟩:=C.ex;have Y:=J _ _ e;refine ⟨_,rfl,c,Z.c,r,_,_,rfl,Y,L.cc,L.c4,rfl,_,rfl,x,Z.c,d,_,rfl,O,L.cc,L.c4,(show 5<1000 by decide),?_⟩;have ab:c≠x:=di e j;have g:∀ b u,H b=some u->(upd n x (.ins Z.c d (gG "filled" (.ref t) (Tj (vO m.tk m.tm m.nm m.fi) kk v)))) b=some u:=fun b u o=>by rw [bK (di o j)];exact J _ _ o
 have p:ii Z.k (upd n x (.ins Z.c d (gG "filled" (.ref t) (Tj (vO m.tk m.tm m.nm m.fi) kk v)))) kk m.nm N m.fi:=G.kt (Kt.ins O L.ok.kc);have D:(upd n x (.ins Z.c d (gG "filled" (.ref t) (Tj (vO m.tk m.tm m.nm m.fi) kk v)))) x=some (.ins Z.c d (gG "filled" (.ref t) (Tj (vO m.tk m.tm m.nm m.fi) kk v))):=a_;generalize upd n x (.ins Z.c d (gG "filled" (.ref t) (Tj (vO m.tk m.tm m.nm m.fi) kk v)))=H2 at g p D ⊢;refine ⟨_,rfl,c,Z.c,r,_,_,rfl,g _ _ e,L.cc,L.c5,rfl,_,rfl,x,Z.c,d,_,rfl,D,L.cc,L.c5,(show 5<1000 by decide),?_⟩;refine ⟨_,rfl,q x _ j (fun b u o=>by rw [bK (di o j)];exact g _ _ o) ⟨d,kk,N,t,a_,p.kt (Kt.ins D L.ok.kc),?_⟩⟩;rw [bK (di M j)];exact g _ _ M
structure Jg (H:Hp) (s:PA):Prop where
 p:H s.p=none
 l:H s.l=none
 cs:∀ c∈s.cs,H c=none
 nd:s.cs.Nodup
inductive QJ (Z:LC) (vs:List V) (H:Hp) (Q:VK) (E:XK):Prop
 |mk (s:PA) (m:Pg):vs=[.ref s.p]->lW Z H s m->s.cs.length≤900->(∀ c∈m.cs,MJ c.nm c.fi)->(∀ s' H',Jg H s'->du H H'->lW Z H' s' m->Q (.ref s'.p) H')->QJ Z vs H Q E
def UL:dC ["self","other"] ["self"] (b_ (gM 3)):=by ext
noncomputable def Wy (F:iM K "twin" "Page.twin" (gM 3) f fd) (L:LZ K mg Z) (MkP:Mk K Z.p fI) (FI:iM K "__init__" "Page.__init__" (gM 0) fI I) (bI:Binds K I ["self"] []) (MC:MD K Z.c "twin" "Claim.twin" (cM 2) ["self"] fC fdC) (GC:dw P w K mg base fG 8 fC fdC ["self"] (Rk Z)):dw P w K mg base fG 9 f fd ["self"] (QJ Z):=by
 have GI:dw P w K mg base fG 1 fI I ["self"] (N6 Z):=Pr FI L;refine F.ok UL (by ext) fun ad A ae s H vs Q E hr h=>?_;obtain ⟨J,m,rfl,Y,hl,ko,q⟩:=h;have ah:eX 2 _:=hr.mono (by decide);refine ⟨_,(d7 (jD 1 UL.nd (pN (E:=E0) MkP GI ah rfl L.pmg bI .nil dU)) (d7 (dO (pv 1) (jf (g:=fH 0) (own:=["claim"]) (js:=[]) (N':=["claim"]) (eN.of (osc:=b_ (gM 3)) (N:=["self","other"]) rfl rfl (by ext)) rfl (jx (dN (pv 0) (by rfl))) (fun _ _ _ _ _=>(gn (i:=0) (show List.Nodup (["claim"]:Y1) by ext) rfl (.inl rfl) (.inr rfl))) (fun _ _ _ _ _=>gH) (fun _ _ _ _ _=>gq (E:=E0) (pv 0) L.cc MC.M GC hr MC.b .nil dU)) rfl) (d7 (dO (pv 1) (dN (pv 0) rfl) rfl) (d7 (dO (pv 1) (dN (pv 0) rfl) rfl) (dj (dX (pv 1))))))),?_⟩;refine fun x l hx af ak=>?_;refine ⟨x,l,rfl,a_,fun l0 S am e1 ao k1=>⟨rfl,?_⟩⟩;have D:du H S:=fQ hx af k1;obtain ⟨dx,M⟩:=Y.ob;have ai:=D _ _ M;have pl:=Y.cs.len;refine ⟨_,rfl,J.p,Z.p,dx,_,_,rfl,ai,L.pc,L.p1,rfl,J.l,rfl,⟨_,fM.of (D _ _ Y.ls)⟩,?_⟩;refine jr (xs:=J.cs.map V.ref) (fun i ys n H'=>(∃ v,n=[v])/\du S H'/\∃ a:List Addr,ys=a.map V.ref/\Pd (oR Z H') a (m.cs.take i)/\(∀ c∈a,S c=none)/\a.Nodup) (by rw [aag];exact aaj hl (by decide)) ⟨⟨none,rfl⟩,du.refl _,[],rfl,.nil,(fun c h=>by cases h),abk⟩ (fun i ys n H' _ ⟨_,e,_⟩=>fM.of (e _ _ (D _ _ Y.ls))) ?_ ?_
 ·rintro i y ys n O hy ab ⟨⟨v,rfl⟩,R,a,rfl,B,nw,nd⟩;rw [aaz] at hy;obtain ⟨c,W,rfl⟩:=abE.mp hy;obtain ⟨mc,aa,rc⟩:=Y.cs.at W;obtain ⟨dc,kc,ac,tc,ec,_⟩:=rc.ex;have S2:=D.trans R;intro N hN;refine ⟨_,rfl,c,dc,_,rfl,S2 _ _ ec,rfl,c,mc,rfl,rc.same S2,ko mc (aaq aa),fun c' H3 T U ag=>hN _ _ _ (by rw [aaD,ab];rfl) ⟨⟨_,rfl⟩,R.trans U,a++[c'],by rw [aaI];rfl,?_,?_,?_⟩⟩
  ·rw [aaX,aa];exact Pd.app (.cons ag .nil) (B.map fun _ _ r=>r.same U)
  ·intro b C;rcases aam.mp C with C|C
   ·exact nw b C
   ·cases aak.mp C;exact eG R T
  ·refine abn.mpr ⟨nd,by simp,fun b C d hd=>?_⟩;cases aak.mp hd;obtain ⟨j,hj⟩:=aa6.mp C;obtain ⟨y,_,ry⟩:=B.at hj;obtain ⟨_,_,_,_,eb,_⟩:=ry.ex;exact di eb T
 ·rintro ys n O ab ⟨⟨v,rfl⟩,R,a,rfl,B,nw,nd⟩;have al:a.length=m.cs.length:=by rw [B.len,aaJ,aag];omega
  refine ⟨by rw [aag];exact aaj (show a.length≤900 by omega) (by decide),fun p hp=>?_⟩;have B:Pd (oR Z O) a m.cs:=by have:m.cs.take (J.cs.map V.ref).length=m.cs:=abj (by rw [aag];omega);rw [this] at B;exact B
  have U:=du.new (o:=.lst (a.map V.ref)) hp;have S3:du S (upd O p (.lst (a.map V.ref))):=R.trans U;have X:(upd O p (.lst (a.map V.ref))) p=some (.lst (a.map V.ref)):=a_;have JW:Pd (oR Z (upd O p (.lst (a.map V.ref)))) a m.cs:=B.map fun _ _ r=>r.same U;have G:S p=none:=eG R hp;generalize upd O p (.lst (a.map V.ref))=H3 at S3 X JW ⊢;have ex:=S3 _ _ e1;have nx:∀ {b u},H b=some u->b≠x:=fun e=>di e hx;have aj:p≠x:=fun z=>by rw [z,e1] at G;cases G
  refine ⟨_,rfl,x,Z.p,l,_,rfl,ex,L.pc,L.p1,(show 3<1000 by decide),?_⟩;have SH:=D.trans S3;refine ⟨_,rfl,J.p,Z.p,dx,_,_,rfl,(by rw [bK (nx M)];exact SH _ _ M),L.pc,L.p2,rfl,_,rfl,x,Z.p,l,_,rfl,a_,L.pc,L.p2,(show 3<1000 by decide),?_⟩;refine ⟨_,rfl,J.p,Z.p,dx,_,_,rfl,(by rw [bK (nx M),bK (nx M)];exact SH _ _ M),L.pc,L.p3,rfl,_,rfl,x,Z.p,l,_,rfl,a_,L.pc,L.p3,(show 3<1000 by decide),?_⟩;rw [g_,g_];refine ⟨_,rfl,q ⟨x,p,a⟩ _ ⟨hx,eG D G,fun c W=>eG D (nw c W),nd⟩ (fun b u eb=>by rw [bK (nx eb)];exact SH _ _ eb) ⟨⟨l,a_⟩,by rw [bK aj];exact X,Pd.mapM (fun c W y r=>r.kt (Kt.ins ex L.ok.kp) (bK fun z=>?_)) JW⟩⟩;have:=nw c W;rw [z,e1] at this;cases this
end
noncomputable def XQ:List V->List V->List V
 |[x],[a,b,c]=>[x,a,b,c]
 |_,_=>[]
noncomputable def gL:List Value->List Value->List Value
 |[x],[a,b,c]=>[x,a,b,c]
 |_,_=>[]
section
variable {P:ZB} {w:ZE} {K:Zs} {mg:ZY} {base:ZI} {Z:LC}
structure VG (n:Ln):Prop where
 p1:2≤n.most
 p2:n.most≤16
 r1:5≤n.room
 r2:n.room≤12
 kd:∀ p∈n.pg,∀ c∈p.cs,MJ c.nm c.fi
structure zj (H:Hp) (k:LA):Prop where
 o:∀ b∈k.own,H b=none
 l:∀ b∈k.ls,H b=none
def zj.back (s:du H a) (n:zj a k):zj H k:=⟨fun b m=>eG s (n.o b m),fun b m=>eG s (n.l b m)⟩
inductive R8 (Z:LC) (vs:List V) (H:Hp) (Q:VK) (E:XK):Prop
 |mk (k:LA) (n:Ln):vs=[.ref k.a]->pB Z H k n->k.cs.length≤900->n.pg.length≤900->VG n->(∀ k' H',zj H k'->k'.cs.length=k.cs.length->du H H'->pB Z H' k' n->Q (.ref k'.a) H')->R8 Z vs H Q E
def Vj:dC ["self","other"] ["self"] (b_ (lM 21)):=by ext
theorem Vq {a:List PA} {s:PA} (h:s∈a):s.cs.length≤(a.flatMap (·.cs)).length:=by
 induction a with
 |nil=>cases h
 | cons q a b=>
   rw [acG,aaD];rcases aah.mp h with rfl|h
   ·omega
   ·have:=b h;omega
theorem Ot:∀ {c d:List PA} {e:List Pg},Pd (lW Z H) c e->Pd (lW Z f) d e->(d.flatMap (·.cs)).length=(c.flatMap (·.cs)).length
 |_,_,_,.nil,.nil=>rfl
 | _,_,_,.cons a r,.cons b t=>by rw [acG,acG,aaD,aaD,Ot r t,a.cs.len,b.cs.len]
structure Eb (H:Hp) (ps:List PA):Prop where
 nw:∀ s∈ps,Jg H s
 n1:(ps.map (·.p)).Nodup
 n2:(ps.map (·.l)).Nodup
 n3:(ps.flatMap (·.cs)).Nodup
def Eb.snoc (h:Eb p l) (C:Pd (lW Z i) l B) (v:du p i) (n:Jg i s):Eb p (l++[s]):=by
 have f:∀ q∈l,∃ m,lW Z i q m:=fun q a=>by obtain ⟨j,o⟩:=aa6.mp a;obtain ⟨m,_,r⟩:=C.at o;exact ⟨m,r⟩
 refine ⟨fun q a=>?_,?_,?_,?_⟩
 ·rcases aam.mp a with a|a
  ·exact h.nw q a
  ·cases aak.mp a;exact ⟨eG v n.p,eG v n.l,fun c x=>eG v (n.cs c x),n.nd⟩
 ·rw [aaI];refine abn.mpr ⟨h.n1,by simp,fun b g d hd=>?_⟩;obtain ⟨q,a,rfl⟩:=aaB.mp g;obtain ⟨m,r⟩:=f q a;obtain ⟨D,e⟩:=r.ob;cases aak.mp hd;exact di e n.p
 ·rw [aaI];refine abn.mpr ⟨h.n2,by simp,fun b g d hd=>?_⟩;obtain ⟨q,a,rfl⟩:=aaB.mp g;obtain ⟨m,r⟩:=f q a;cases aak.mp hd;exact di r.ls n.l
 ·rw [List.flatMap_append,acG,List.flatMap_nil,aaO];refine abn.mpr ⟨h.n3,n.nd,fun b g d hd=>?_⟩;obtain ⟨q,a,z⟩:=aa0.mp g;obtain ⟨m,r⟩:=f q a;obtain ⟨j,o⟩:=aa6.mp z;obtain ⟨y,_,A⟩:=r.cs.at o;obtain ⟨_,_,_,_,e,_⟩:=A.ex;exact di e (n.cs d hd)
noncomputable def Vl (F:iM K "twin" "Lane.twin" (lM 21) f fd) (L:LZ K mg Z) (MkL:Mk K Z.l fI) (GI:dw P w K mg base fG 3 fI fdI ["self","pages","room","over"] (NB Z)) (kbL:jF K fdI ["self","pages","room","over"] ["pages","room","over"] gL XQ) (MP:MD K Z.p "twin" "Page.twin" (gM 3) ["self"] fP fdP) (GP:dw P w K mg base fG 9 fP fdP ["self"] (QJ Z)):dw P w K mg base fG 10 f fd ["self"] (R8 Z):=by
 refine F.ok Vj (by ext) fun ad A ae s H vs Q E hr h=>?_;obtain ⟨k,n,rfl,U,kc,pl,sz,q⟩:=h;have am:eX 4 _:=hr.mono (by decide);refine ⟨_,(d7 (jD 1 Vj.nd (qZ (E:=E0) MkL GI am rfl L.lmg kbL dU (jJ (dN (pv 0) rfl) (jJ (dN (pv 0) rfl) (jJ (dN (pv 0) rfl) uf))))) (d7 (dO (pv 1) (jf (g:=fH 0) (own:=["page"]) (js:=[]) (N':=["page"]) (eN.of (osc:=b_ (lM 21)) (N:=["self","other"]) rfl rfl (by ext)) rfl (jx (dN (pv 0) (by rfl))) (fun _ _ _ _ _=>(gn (i:=0) (show List.Nodup (["page"]:Y1) by ext) rfl (.inl rfl) (.inr rfl))) (fun _ _ _ _ _=>gH) (fun _ _ _ _ _=>gq (E:=E0) (pv 0) L.pc MP.M GP hr MP.b .nil dU)) rfl) (d7 (dO (pv 1) (dN (pv 0) rfl) rfl) (d7 (dO (pv 1) (dN (pv 0) rfl) rfl) (d7 (dO (pv 1) (dN (pv 0) rfl) rfl) (d7 (dO (pv 1) (dN (pv 0) rfl) rfl) (d7 (dO (pv 1) (dN (pv 0) rfl) rfl) (d7 (dO (pv 1) (dN (pv 0) rfl) rfl) (d7 (dO (pv 1) (dN (pv 0) rfl) rfl) (d7 (dO (pv 1) (dN (pv 0) rfl) rfl) (dj (dX (pv 1))))))))))))),?_⟩;obtain ⟨C,e⟩:=U.ob;refine ⟨_,rfl,k.a,Z.l,C,_,_,rfl,e,L.lc,L.l1,rfl,_,rfl,k.a,Z.l,C,_,_,rfl,e,L.lc,L.l2,rfl,_,rfl,k.a,Z.l,C,_,_,rfl,e,L.lc,L.l3,rfl,fun x af hx ag aq=>?_⟩;refine ⟨x,af,n.most,n.room,n.over,rfl,a_,sz.p1,sz.p2,sz.r1,sz.r2,fun k0 S ah _ ai k1 kf _=>⟨rfl,?_⟩⟩;have J:du H S:=fQ hx ag k1;obtain ⟨a,e1⟩:=ai.ob;rw [ah] at e1;have ar:=U.pg.len;refine ⟨_,rfl,k.a,Z.l,C,_,_,rfl,J _ _ e,L.lc,L.l4,rfl,k.lp,rfl,⟨_,fM.of (J _ _ U.ls)⟩,?_⟩;refine jr (xs:=k.ps.map fun s=>V.ref s.p) (fun i ys I H'=>(∃ v,I=[v])/\du S H'/\∃ d:List PA,(ys=d.map fun s=>V.ref s.p)/\Pd (lW Z H') d (n.pg.take i)/\Eb S d) (by rw [aag];exact aaj (show k.ps.length≤900 by omega) (by decide)) ⟨⟨none,rfl⟩,du.refl _,[],rfl,.nil,⟨(fun c h=>by cases h),abk,abk,abk⟩⟩ (fun i ys I H' _ ⟨_,e,_⟩=>fM.of (e _ _ (J _ _ U.ls))) ?_ ?_
 ·rintro i y ys I W hy ac ⟨⟨v,rfl⟩,X,d,rfl,M,G⟩;rw [aaz] at hy;obtain ⟨sp,T,rfl⟩:=abE.mp hy;obtain ⟨mp,ab,rp⟩:=U.pg.at T;obtain ⟨dp,ep⟩:=rp.ob;have S2:=J.trans X;have mm:=aaq ab;intro N hN;refine ⟨_,rfl,sp.p,dp,_,rfl,S2 _ _ ep,rfl,sp,mp,rfl,rp.same S2,aaj (Vq (aaq T)) kc,sz.kd mp mm,fun s' H3 aj Y ak=>hN _ _ _ (by rw [aaD,ac];rfl) ⟨⟨_,rfl⟩,X.trans Y,d++[s'],by rw [aaI];rfl,?_,G.snoc M X aj⟩⟩;rw [aaX,ab];exact Pd.app (.cons ak .nil) (M.map fun _ _ r=>r.same Y)
 ·rintro ys I W ac ⟨⟨v,rfl⟩,X,d,rfl,M,G⟩;have M:Pd (lW Z W) d n.pg:=by have:n.pg.take (k.ps.map fun s=>V.ref s.p).length=n.pg:=abj (by rw [aag];omega);rw [this] at M;exact M
  have al:=M.len;refine ⟨by rw [aag];exact aaj (show d.length≤900 by omega) (by decide),fun p hp=>?_⟩;have Y:=du.new (o:=.lst (d.map fun s=>V.ref s.p)) hp;have S3:du S (upd W p (.lst (d.map fun s=>V.ref s.p))):=X.trans Y;have aa:(upd W p (.lst (d.map fun s=>V.ref s.p))) p=some (.lst (d.map fun s=>V.ref s.p)):=a_;have JW:Pd (lW Z (upd W p (.lst (d.map fun s=>V.ref s.p)))) d n.pg:=M.map fun _ _ r=>r.same Y;have R:S p=none:=eG X hp;have ao:∀ s∈d,p≠s.l:=fun s B=>by obtain ⟨j,hj⟩:=aa6.mp B;obtain ⟨m,_,r⟩:=M.at hj;exact (di r.ls hp).symm
  generalize upd W p (.lst (d.map fun s=>V.ref s.p))=H3 at S3 aa JW ⊢;have ex:=S3 _ _ e1;have nx:∀ {b u},H b=some u->b≠x:=fun e=>di e hx;have l:k.a≠x:=nx e;have ap:p≠x:=fun z=>by rw [z,e1] at R;cases R
  have SH:=J.trans S3;have O:=SH _ _ e;refine ⟨_,rfl,x,Z.l,a,_,rfl,ex,L.lc,L.l4,(show 12<1000 by decide),?_⟩;refine ⟨_,rfl,k.a,Z.l,C,_,_,rfl,(bK l).trans O,L.lc,L.l5,rfl,_,rfl,x,Z.l,a,_,rfl,a_,L.lc,L.l5,(show 12<1000 by decide),?_⟩;rw [g_];refine ⟨_,rfl,k.a,Z.l,C,_,_,rfl,(bK l).trans O,L.lc,L.l6,rfl,_,rfl,x,Z.l,a,_,rfl,a_,L.lc,L.l6,(show 12<1000 by decide),?_⟩;rw [g_];refine ⟨_,rfl,k.a,Z.l,C,_,_,rfl,(bK l).trans O,L.lc,L.l7,rfl,_,rfl,x,Z.l,a,_,rfl,a_,L.lc,L.l7,(show 12<1000 by decide),?_⟩;rw [g_];refine ⟨_,rfl,k.a,Z.l,C,_,_,rfl,(bK l).trans O,L.lc,L.l8,rfl,_,rfl,x,Z.l,a,_,rfl,a_,L.lc,L.l8,(show 12<1000 by decide),?_⟩;rw [g_];refine ⟨_,rfl,k.a,Z.l,C,_,_,rfl,(bK l).trans O,L.lc,L.l9,rfl,_,rfl,x,Z.l,a,_,rfl,a_,L.lc,L.l9,(show 12<1000 by decide),?_⟩;rw [g_];refine ⟨_,rfl,k.a,Z.l,C,_,_,rfl,(bK l).trans O,L.lc,L.l10,rfl,_,rfl,x,Z.l,a,_,rfl,a_,L.lc,L.l10,(show 12<1000 by decide),?_⟩;rw [g_];refine ⟨_,rfl,k.a,Z.l,C,_,_,rfl,(bK l).trans O,L.lc,L.l11,rfl,_,rfl,x,Z.l,a,_,rfl,a_,L.lc,L.l11,(show 12<1000 by decide),?_⟩;rw [g_];refine ⟨_,rfl,k.a,Z.l,C,_,_,rfl,(bK l).trans O,L.lc,L.l12,rfl,_,rfl,x,Z.l,a,_,rfl,a_,L.lc,L.l12,(show 12<1000 by decide),?_⟩;rw [g_];have x1:∀ {b},S b=none->b≠x:=fun h z=>by rw [z,e1] at h;cases h
  refine ⟨_,rfl,q ⟨x,p,d⟩ _ ⟨fun b D=>?_,fun b D=>?_⟩ (Ot U.pg JW) (fun b u eb=>by rw [bK (nx eb)];exact SH _ _ eb) ⟨⟨a,a_⟩,by show upd _ x _ p=_;rw [bK ap];exact aa,Pd.mapM (fun s B y r=>?_) JW,G.n1,?_,G.n3⟩⟩
  ·rcases aah.mp D with rfl|D
   ·exact hx
   ·rcases aam.mp D with D|D
    ·obtain ⟨s,B,rfl⟩:=aaB.mp D;exact eG J (G.nw s B).p
    ·obtain ⟨s,B,T⟩:=aa0.mp D;exact eG J ((G.nw s B).cs b T)
  ·rcases aah.mp D with rfl|D
   ·exact eG J R
   ·obtain ⟨s,B,rfl⟩:=aaB.mp D;exact eG J (G.nw s B).l
  ·exact r.kt (Kt.ins ex L.ok.kl) (bK (x1 (G.nw s B).p)) (bK (x1 (G.nw s B).l)) fun c T=>bK (x1 ((G.nw s B).cs c T))
  ·show (p::d.map (·.l)).Nodup;refine aba.mpr ⟨fun m=>?_,G.n2⟩;obtain ⟨s,B,e⟩:=aaB.mp m;exact ao s B e.symm
end
abbrev tM (j:Nat):Stmt:=inClass (top 93) j
structure TZ (K:Zs) (mg:ZY) (C:Zl):Prop where
 c:vy K C
 mg:mg "Track" = some (.ref C)
 t1:eO K C "written"
 t2:eO K C "clock"
 t3:eO K C "test"
noncomputable def UJ (l:Zl) (a:Int) (t:V):List (Str×V):=[("written",.ref l),("clock",.int a),("test",t)]
structure Tk where
 ln:Ln
 ck:Int
 ts:PyData
structure TA where
 a:Addr
 k:LA
structure sy (Z:LC) (C:Zl) (K:Zs) (H:Hp) (s:TA) (t:Tk):Prop where
 ob:∃ dx v,H s.a=some (.ins C dx (UJ s.k.a t.ck v))/\Rep K H v t.ts
 ln:pB Z H s.k t.ln
structure qp (H:Hp) (s:TA):Prop where
 a:H s.a=none
 k:zj H s.k
section
variable {P:ZB} {w:ZE} {K:Zs} {mg:ZY} {base:ZI} {Z:LC} {C:Zl}
noncomputable def Vs:PyData:=.tuple [.str "all"]
inductive Nz (Z:LC) (C:Zl) (K:Zs) (vs:List V) (H:Hp) (Q:VK) (E:XK):Prop
 |mk (o dx l:Zl):vs=[.ref o,.ref l]->H o=some (.ins C dx [])->(∀ v H',H' o=some (.ins C dx (UJ l 0 v))->Rep K H' v Vs->(∀ b u,H b=some u->b≠o->H' b=some u)->Q .non H')->Nz Z C K vs H Q E
def Z3:dC ["self","written"] ["self","written"] (b_ (tM 0)):=by ext
def Oa (F:iM K "__init__" "Track.__init__" (tM 0) f i) (TZ:TZ K mg C):dw P w K mg base fG 1 f i ["self","written"] (Nz Z C K):=by
 refine F.ok Z3 (by ext) fun j A c s H vs Q E n h=>?_;obtain ⟨o,g,l,rfl,m,k⟩:=h;refine ⟨_,(d7 (dO (pv 0) (pv 1) rfl) (d7 (dO (pv 0) dm rfl) (dj (dO (pv 0) (gA (aK dD d9)) rfl)))),?_⟩;refine ⟨_,rfl,_,rfl,o,C,g,[],rfl,m,TZ.c,TZ.t1,(show 0<1000 by decide),?_⟩;refine ⟨_,rfl,o,C,g,_,rfl,a_,TZ.c,TZ.t2,(show 1<1000 by decide),?_⟩;rw [g_];refine ⟨(by ext),fun t a=>?_⟩;have not:o≠t:=fun z=>by rw [← z,a_] at a;cases a
 refine ⟨_,rfl,o,C,g,[("written",.ref l),("clock",.int 0)],rfl,(by rw [bK not];exact a_),TZ.c,TZ.t3,(show 2<1000 by decide),?_⟩;refine k (.ref t) _ a_ (.tup (gC.of (by rw [bK not.symm];exact a_)) (.cons (.str _) .nil)) fun b u e d=>?_;have nt:b≠t:=fun z=>by rw [← z,bK d,e] at a;cases a
 rw [bK d,bK nt,bK d];exact e
inductive Mf (Z:LC) (C:Zl) (K:Zs) (vs:List V) (H:Hp) (Q:VK) (E:XK):Prop
 |mk (s:TA) (t:Tk):vs=[.ref s.a]->sy Z C K H s t->s.k.cs.length≤900->t.ln.pg.length≤900->VG t.ln->(∀ s' H',qp H s'->s'.k.cs.length=s.k.cs.length->du H H'->sy Z C K H' s' t->Q (.ref s'.a) H')->Mf Z C K vs H Q E
def Wi:dC ["self","other"] ["self"] (b_ (tM 2)):=by ext
noncomputable def U3 (F:iM K "twin" "Track.twin" (tM 2) f W) (L:LZ K mg Z) (TZ:TZ K mg C) (nC:Z.l≠C/\Z.p≠C/\Z.c≠C/\Z.k≠C) (J:Mk K C I) (FI:iM K "__init__" "Track.__init__" (tM 0) I c) (bI:Binds K c ["self","written"] []) (X:MD K Z.l "twin" "Lane.twin" (lM 21) ["self"] U j) (GL:dw P w K mg base fG 10 U j ["self"] (R8 Z)):dw P w K mg base fG 11 f W ["self"] (Mf Z C K):=by
 have GI:dw P w K mg base fG 1 I c ["self","written"] (Nz Z C K):=Oa FI TZ;refine F.ok Wi (by ext) fun m A n s H vs Q E M h=>?_;obtain ⟨i,t,rfl,tk,kc,pl,sz,q⟩:=h;have z:eX 2 _:=M.mono (by decide);refine ⟨_,(d7 (jD 1 Wi.nd (km (E:=E0) J GI z rfl TZ.mg bI .nil dU (aK (gq (E:=E0) (dN (pv 0) rfl) L.lc X.M GL M X.b .nil dU) d9))) (d7 (dO (pv 1) (dN (pv 0) rfl) rfl) (d7 (dO (pv 1) (dN (pv 0) rfl) rfl) (dj (dX (pv 1)))))),?_⟩;obtain ⟨⟨G,v,e,rv⟩,T⟩:=tk;obtain ⟨dl,el⟩:=T.ob;refine ⟨_,rfl,i.a,C,G,_,_,rfl,e,TZ.c,TZ.t1,rfl,i.k.a,dl,_,rfl,el,rfl,i.k,t.ln,rfl,T,kc,pl,sz,fun l N Y c1 O o=>?_⟩;refine fun x a p r aa=>?_;refine ⟨x,a,l.a,rfl,a_,fun v2 y e2 r2 k2=>⟨rfl,?_⟩⟩;have R:du N y:=fQ p r k2;have B:=O.trans R;refine ⟨_,rfl,i.a,C,G,_,_,rfl,B _ _ e,TZ.c,TZ.t2,rfl,_,rfl,x,C,a,_,rfl,e2,TZ.c,TZ.t2,(show 3<1000 by decide),?_⟩;have g:H x=none:=eG O p;have S:∀ {b u},H b=some u->b≠x:=fun e=>di e g;refine ⟨_,rfl,i.a,C,G,_,_,rfl,(by rw [bK (S e)];exact B _ _ e),TZ.c,TZ.t3,rfl,_,rfl,x,C,a,_,rfl,a_,TZ.c,TZ.t3,(show 3<1000 by decide),?_⟩;rw [g_];have up:∀ b u,H b=some u->upd y x (.ins C a (UJ l.a t.ck v)) b=some u:=fun b u d=>by rw [bK (S d)];exact B _ _ d
 have D:∀ b u,N b=some u->upd y x (.ins C a (UJ l.a t.ck v)) b=some u:=fun b u d=>by rw [bK (di d p)];exact R _ _ d
 exact ⟨_,rfl,q ⟨x,l⟩ _ ⟨g,Y⟩ c1 up ⟨⟨a,v,a_,rv.same up⟩,o.same D⟩⟩
end
abbrev sM (j:Nat):Stmt:=inClass (top 94) j
structure SZ (K:Zs) (mg:ZY) (C:Zl):Prop where
 c:vy K C
 dict:mg "dict" = none
 mg:mg "Stand" = some (.ref C)
 s1:eO K C "pages"
 s2:eO K C "room"
 s3:eO K C "known"
 s4:eO K C "tracks"
 s5:eO K C "counters"
 s6:eO K C "still"
 s7:eO K C "halting"
noncomputable def yH (p r:Int) (dk a c:Zl) (b:Bool) (h:V):List (Str×V):=[("pages",.int p),("room",.int r),("known",.ref dk),("tracks",.ref a),("counters",.ref c),("still",.bl b),("halting",h)]
section
variable {P:ZB} {w:ZE} {K:Zs} {mg:ZY} {base:ZI} {Z:LC} {C S:Zl}
structure Z0 (H:Hp) (dk dt dc:Zl):Prop where
 k:H dk=none
 t:H dt=none
 c:H dc=none
def Z7:dC ["self","pages","room"] ["self","pages","room"] (b_ (sM 0)):=by ext
end
def Vg (S:Zl) (o:HO):Prop:=(∃ a,o=.dK a∨∃ b,o=.frz b (.dK a))∨∃ c fs,o=.ins S c fs
def iy (S:Zl) (H a:Hp):Prop:=∀ b u,H b=some u->¬ Vg S u->a b=some u
structure Hi (Z:LC) (C S:Zl):Prop where
 k:Z.k≠S
 c:Z.c≠S
 p:Z.p≠S
 l:Z.l≠S
 t:C≠S
section
variable {K:Zs} {Z:LC} {C S:Zl} {H H' H'':Hp}
def Hv:¬ Vg S (.tup a):=by rintro (⟨_,h|⟨_,h⟩⟩|⟨_,_,h⟩) <;> cases h
def Ax:¬ Vg S (.lst a):=by rintro (⟨_,h|⟨_,h⟩⟩|⟨_,_,h⟩) <;> cases h
def uG (ne:D≠S):¬ Vg S (.ins D a fs):=by
 rintro (⟨_,h|⟨_,h⟩⟩|⟨_,_,h⟩)
 ·cases h
 ·cases h
 ·cases h;exact ne rfl
def iy.trans (a:iy S H H') (b:iy S H' H''):iy S H H'':=fun c u e n=>b c u (a c u e n) n
def iy.put (e:H p=some o) (d:Vg S o):iy S H (upd H p a):=fun b u h n=>by rw [bK (fun z=>by subst z;rw [e] at h;cases h;exact n d)];exact h
def iy.kt (ne:Z.k≠S) (s:iy S H H'):Kt Z H H':=⟨fun b a e=>s _ _ e Hv,fun b c fs e=>s _ _ e (uG ne)⟩
def iy.rep (s:iy S H H') (h:Rep K H v d):Rep K H' v d:=by
 refine h.map (fun a b z=>?_) (fun a b z=>?_)
 ·rcases z with (z|⟨o,z⟩)|z
  ·exact .inl (.inl (s _ _ z Hv))
  ·exact .inl (.inr ⟨o,s _ _ z (by rintro (⟨_,h|⟨_,h⟩⟩|⟨_,_,h⟩) <;> cases h)⟩)
  ·exact .inr z
 ·rcases z with (z|⟨o,z⟩)|z
  ·exact .inl (.inl (s _ _ z Ax))
  ·exact .inl (.inr ⟨o,s _ _ z (by rintro (⟨_,h|⟨_,h⟩⟩|⟨_,_,h⟩) <;> cases h)⟩)
  ·exact .inr z
def oR.sd (h:oR Z H c m) (ne:Hi Z C S) (s:iy S H H'):oR Z H' c m:=by obtain ⟨d,k,a,t,b,_⟩:=h.ex;exact h.kt (s.kt ne.k) (by rw [b];exact s _ _ b (uG ne.c))
def lW.sd (h:lW Z H q m) (ne:Hi Z C S) (s:iy S H H'):lW Z H' q m:=by obtain ⟨a,b⟩:=h.ob;exact ⟨⟨a,s _ _ b (uG ne.p)⟩,s _ _ h.ls Ax,h.cs.map fun _ _ r=>r.sd ne s⟩
def pB.sd (h:pB Z H k n) (ne:Hi Z C S) (s:iy S H H'):pB Z H' k n:=by obtain ⟨a,b⟩:=h.ob;exact ⟨⟨a,s _ _ b (uG ne.l)⟩,s _ _ h.ls Ax,h.pg.map fun _ _ r=>r.sd ne s,h.n1,h.n2,h.n3⟩
def sy.sd (h:sy Z C K H q t) (ne:Hi Z C S) (s:iy S H H'):sy Z C K H' q t:=by obtain ⟨a,v,e,r⟩:=h.ob;exact ⟨⟨a,v,s _ _ e (uG ne.t),s.rep r⟩,h.ln.sd ne s⟩
def sy.same (h:sy Z C K H q t) (s:du H H'):sy Z C K H' q t:=by obtain ⟨a,v,e,r⟩:=h.ob;exact ⟨⟨a,v,s _ _ e,r.same s⟩,h.ln.same s⟩
mutual
noncomputable def zG:PyData->Bool
 |.tuple a=>tQ a
 |.list _=>false
 |_=>true
noncomputable def tQ:List PyData->Bool
 |[]=>true
 |d::ds=>zG d && tQ ds
end
mutual
theorem nZ (f:∀ a c,gC K H a c->gC K H' a c):∀ {v:V} {d:PyData},Rep K H v d->zG d=true->Rep K H' v d
 |_,_,.non,_=>.non
 |_,_,.bl b,_=>.bl b
 |_,_,.int i,_=>.int i
 |_,_,.str x,_=>.str x
 |_,_,.tup h r,n=>.tup (f _ _ h) (vp f r (by simpa [zG] using n))
 |_,_,.lst h r,n=>by simp [zG] at n
theorem vp (f:∀ a b,gC K H a b->gC K H' a b):∀ {v:List V} {d:List PyData},iu K H v d->tQ d=true->iu K H' v d
 |_,_,.nil,_=>.nil
 | _,_,.cons h r,n=>by simp [tQ] at n;exact .cons (nZ f h n.1) (vp f r n.2)
end
noncomputable def TA.all (t:TA):List Addr:=t.a::(t.k.own++t.k.ls)
def qp.all (n:qp H t):∀ b∈t.all,H b=none:=fun b m=>by
 rcases aah.mp m with rfl|m
 ·exact n.a
 ·rcases aam.mp m with m|m
  ·exact n.k.o b m
  ·exact n.k.l b m
def qp.back (s:du H H') (n:qp H' t):qp H t:=⟨eG s n.a,n.k.back s⟩
end
section
variable {P:ZB} {w:ZE} {K:Zs} {mg:ZY} {base:ZI}
abbrev lB:Stmt:=inClass (top 3) 0
def Ex:dC ["self","words"] ["self","words"] (b_ lB):=by ext
noncomputable def uy {CX:rK} {f q d:Zl} {g b:ZA} {r dW:ZH} (F:iT K "__init__" "BadName.__init__" lB dW f g) (T:uJ K mg) (v:iT K "__init__" "ScribeError.__init__" Do r d b) (x:Binds K b ["self","words","word"] []) (MS:xf K mg "ScribeError" q d):dw P w K mg base CX 2 f g ["self","words"] (uK K "badname"):=by have l:dw P w K mg base fG 1 d b ["self","words","word"] (xZ K):=uz v T;obtain ⟨y,m,n⟩:=MS.rd;refine F.ok1 Ex (by ext) fun i A c s H vs Q E j h=>?_;obtain ⟨e,C,a,rfl,o,p,k⟩:=h;refine ⟨_,(dj (dZ (jk (E:=E0) (by rfl) MS.mg MS.sg m n MS.kp l j x .nil dU (aK (pv 0) (aK (pv 1) (aK dD d9)))))),?_⟩;exact ⟨_,rfl,_,rfl,e,C,_,_,rfl,o,p,k⟩
abbrev jC:Stmt:=inClass (top 4) 0
def zO:dC ["self","words"] ["self","words"] (b_ jC):=by ext
noncomputable def xY {CX:rK} {f q d:Zl} {g b:ZA} {r dW:ZH} (F:iT K "__init__" "BadBounds.__init__" jC dW f g) (T:uJ K mg) (v:iT K "__init__" "ScribeError.__init__" Do r d b) (x:Binds K b ["self","words","word"] []) (MS:xf K mg "ScribeError" q d):dw P w K mg base CX 2 f g ["self","words"] (uK K "badbounds"):=by have l:dw P w K mg base fG 1 d b ["self","words","word"] (xZ K):=uz v T;obtain ⟨y,m,n⟩:=MS.rd;refine F.ok1 zO (by ext) fun i A c s H vs Q E j h=>?_;obtain ⟨e,C,a,rfl,o,p,k⟩:=h;refine ⟨_,(dj (dZ (jk (E:=E0) (by rfl) MS.mg MS.sg m n MS.kp l j x .nil dU (aK (pv 0) (aK (pv 1) (aK dD d9)))))),?_⟩;exact ⟨_,rfl,_,rfl,e,C,_,_,rfl,o,p,k⟩
abbrev qK:Stmt:=inClass (top 11) 0
def Lr:dC ["self","words"] ["self","words"] (b_ qK):=by ext
noncomputable def Jv {CX:rK} {f q d:Zl} {g b:ZA} {r dW:ZH} (F:iT K "__init__" "Taken.__init__" qK dW f g) (T:uJ K mg) (v:iT K "__init__" "ScribeError.__init__" Do r d b) (x:Binds K b ["self","words","word"] []) (MS:xf K mg "ScribeError" q d):dw P w K mg base CX 2 f g ["self","words"] (uK K "taken"):=by have l:dw P w K mg base fG 1 d b ["self","words","word"] (xZ K):=uz v T;obtain ⟨y,m,n⟩:=MS.rd;refine F.ok1 Lr (by ext) fun i A c s H vs Q E j h=>?_;obtain ⟨e,C,a,rfl,o,p,k⟩:=h;refine ⟨_,(dj (dZ (jk (E:=E0) (by rfl) MS.mg MS.sg m n MS.kp l j x .nil dU (aK (pv 0) (aK (pv 1) (aK dD d9)))))),?_⟩;exact ⟨_,rfl,_,rfl,e,C,_,_,rfl,o,p,k⟩
abbrev vZ:Stmt:=inClass (top 12) 0
def PP:dC ["self","words"] ["self","words"] (b_ vZ):=by ext
noncomputable def Nv {CX:rK} {f q d:Zl} {g b:ZA} {r dW:ZH} (F:iT K "__init__" "Full.__init__" vZ dW f g) (T:uJ K mg) (v:iT K "__init__" "ScribeError.__init__" Do r d b) (x:Binds K b ["self","words","word"] []) (MS:xf K mg "ScribeError" q d):dw P w K mg base CX 2 f g ["self","words"] (uK K "full"):=by have l:dw P w K mg base fG 1 d b ["self","words","word"] (xZ K):=uz v T;obtain ⟨y,m,n⟩:=MS.rd;refine F.ok1 PP (by ext) fun i A c s H vs Q E j h=>?_;obtain ⟨e,C,a,rfl,o,p,k⟩:=h;refine ⟨_,(dj (dZ (jk (E:=E0) (by rfl) MS.mg MS.sg m n MS.kp l j x .nil dU (aK (pv 0) (aK (pv 1) (aK dD d9)))))),?_⟩;exact ⟨_,rfl,_,rfl,e,C,_,_,rfl,o,p,k⟩
inductive yD (cN:Zl) (vs:List V) (H:Hp) (Q:VK) (E:XK):Prop
 |mk (x:Str):vs=[.str x]->x.length≤1000->vH (.str x)->(PyData.str x).shown.length≤100000->(if nameB x=true then Q .non H else ∀ da H',jE H [("word",.str "badname")] da H'->E (.ref cN) (some da) H')->yD cN vs H Q E
theorem Sq {f z c l N C:Zl} {D g b i:ZA} {O dW dv0:ZH} (F:iM K "need_name" "need_name" (top 28) f D) (T:Txt K mg) (TK:rA mg) (TE:uJ K mg) (G:gK K mg "is_name" (top 27) ["text"] z g)
 (FB:iT K "__init__" "BadName.__init__" lB dW l b) (R:Binds K b ["self","words"] []) (S:mg "BadName" = some (.ref c)) (r:rY K c) (U:findIn K (.ref c) "__init__" = some (some (.ref l))) (X:isFn K (.ref l)=true)
 (Y:iT K "__init__" "ScribeError.__init__" Do O C i) (Z:Binds K i ["self","words","word"] []) (MS:xf K mg "ScribeError" N C):dw P w K mg base (jt P w) 5 f D ["text"] (yD c):=by
 have J:dw P w K mg base fG 1 z g ["text"] lX:=oO G.F T TK;have L:dw P w K mg base fG 2 l b ["self","words"] (uK K "badname"):=uy FB TE Y Z MS;refine F.ok1 Wm (by ext) fun d A m s H vs Q E j h=>?_;obtain ⟨x,rfl,hl,sd,sl,k⟩:=h;have o:eX 1 _:=j.mono (by decide);have p:eX 3 _:=j.mono (by decide);refine ⟨_,(dj (fX (jn (jY (n6 G J o (aK (pv 0) d9)))) (dj (iC (B:="ValueError") (newId:="ValueError.__new__") (W:=E) (iD (E:=E0) aa3 r.x U X L p (by rfl) S R .nil dU (aK (jj (Dk j.units j.gd (pv 0) (ir jP))) d9)) rfl rfl (fun v σ H' s' e cls dd I x q=>Gd I x q))) eE)),?_⟩;have big:200000≤sizeLine:=by decide
 have M:((" is no name" : Str)).length=11:=by ext
 refine ⟨_,rfl,x,rfl,by omega,_,rfl,?_⟩;cases hb:nameB x with
 | true=>rw [hb] at k;exact iK rfl k
 | false=>
   rw [hb] at k;refine iY rfl ⟨_,rfl,.str x,rfl,.str x,sd,?_,?_,?_,fun e y=>⟨e,c,_,rfl,r,a_,fun n a=>⟨rfl,e,c,some n,rfl,?_,y,r.x,k n _ (iw y a)⟩⟩⟩
   all_goals (try rw [abm])
   all_goals (try (first|lia|(simp only [aaL,M];lia)))
   have ne:e≠n:=fun q=>by subst q;rw [a_] at a;cases a
   rw [bK ne,a_]
noncomputable def fW (a:Y1):List lU->Option Nat
 |[]=>none
 |(n,lo,hi)::r=>if nameB n=true then (if n∈a then some 1 else if -999999≤lo/\lo≤hi/\hi≤999999 then fW (a++[n]) r else some 2) else some 0
def x_:fW a ((n,b,c)::r)=if nameB n=true then (if n∈a then some 1 else if -999999≤b/\b≤c/\c≤999999 then fW (a++[n]) r else some 2) else some 0:=rfl
structure uM (f:lU):Prop where
 l:f.1.length≤1000
 s:vH (.str f.1)
 sl:(PyData.str f.1).shown.length≤100000
 lo:f.2.1.natAbs.log2<1920/\(Str.ofString (toString f.2.1)).length≤1000
 hi:f.2.2.natAbs.log2<1920/\(Str.ofString (toString f.2.2)).length≤1000
inductive K7 (cN cT cB:Zl) (vs:List V) (H:Hp) (Q:VK) (E:XK):Prop
 |mk a xs fs:vs=[.ref a]->H a=some (.tup xs)->Paired (iG H) xs fs->fs.length≤100->(∀ f∈fs,uM f)->(fW [] fs=none->∀ H',du H H'->Q .non H')->(fW [] fs=some 0->∀ H1 da H',du H H1->jE H1 [("word",.str "badname")] da H'->E (.ref cN) (some da) H')->(fW [] fs=some 1->∀ H1 da H',du H H1->jE H1 [("word",.str "taken")] da H'->E (.ref cT) (some da) H')->(fW [] fs=some 2->∀ H1 da H',du H H1->jE H1 [("word",.str "badbounds")] da H'->E (.ref cB) (some da) H')->K7 cN cT cB vs H Q E
def Q4 (F:iM K "need_fields" "need_fields" (top 29) f fd) (T:Txt K mg) (TK':rA mg) (DN:gK K mg "need_name" (top 28) ["text"] fN fdN)
 (GN:dw P w K mg base (jt P w) 5 fN fdN ["text"] (yD cN)) (R:nH K mg "Taken" cT fT fdT) (GT:dw P w K mg base fG 2 fT fdT ["self","words"] (uK K "taken")) (J:nH K mg "BadBounds" N fB fdB) (GB:dw P w K mg base fG 2 fB fdB ["self","words"] (uK K "badbounds")) :
 dw P w K mg base (jt P w) 6 f fd ["fields"] (K7 cN cT N):=by
 refine F.ok1 uR (by ext) fun ab A ac s H vs Q E hr h=>?_;obtain ⟨a,xs,fs,rfl,ha,pf,hl,ht,k,k0,k1,k2⟩:=h;obtain ⟨tl,ml⟩:=TK'.lim;have Z:eX 3 _:=hr.mono (by decide);refine ⟨_,(d7 (jD 1 uR.nd (gb d9)) (dj (lD ade rfl (rn (pv 0)) (jT rfl (eU (rZ 2 uR.nd) (eU (rZ 3 uR.nd) (eU (rZ 4 uR.nd) jg)))) (d7 (dZ (eY (E:=E) GN hr rfl DN.mg DN.F.kp DN.b .nil (iZ fun _ _ _ h=>h) (aK (pv 2) d9))) (d7 (fX (d_ kO (pv 2) (pv 1) rfl) (dj (iC (B:="ValueError") (newId:="ValueError.__new__") (W:=E) (iD (E:=E0) aa3 R.e.x R.i R.n GT Z (by rfl) R.mg R.b .nil dU (aK (jj (ir (j4 (pv 2) (ir jP)))) d9)) rfl rfl (fun Y S U s' e cls dd I x q=>Gd I x q))) eE) (d7 (fX (jn (qO gY gY gY (vg q_ (e_ (v:=.int 999999) rfl ml ⟨_,rfl⟩)) (pv 3) (pv 4) (e_ (v:=.int 999999) rfl ml ⟨_,rfl⟩))) (dj (iC (B:="ValueError") (newId:="ValueError.__new__") (W:=E) (iD (E:=E0) aa3 J.e.x J.i J.n GB Z (by rfl) J.mg J.b .nil dU (aK (jj (ir (j4 (pv 2) (ir (j4 (pv 3) (ir (j4 (pv 4) jP))))))) d9)) rfl rfl (fun Y S U s' e cls dd I x q=>Gd I x q))) eE) (dj (dZ (lu aaZ aa5 abe ik (pv 1) (aK (pv 2) d9)))))))))),?_⟩;refine ⟨(by ext),fun q hq=>?_⟩;have pl:=abf pf;have aa:∀ {U:Hp},du H U->U a=some (.tup xs):=fun e=>e _ _ ha;have big:200000≤sizeLine:=by decide
 refine ⟨_,rfl,a,rfl,⟨_,gC.of (aa (du.new hq))⟩,lY (xs:=xs) (fun i S z=>∃ (b c d:Option V),S=[some (.ref a),some (.ref q),b,c,d]/\z q=some (.lst (((fs.map (·.1)).take i).map V.str))/\du H z/\fW ((fs.map (·.1)).take i) (fs.drop i)=fW [] fs) ⟨none,none,none,rfl,by rw [a_];simp,du.new hq,rfl⟩ (fun i S z _ ⟨_,_,_,_,_,e,_⟩=>gC.of (aa e)) ?_ ?_⟩
 ·rintro i x S z hi ⟨b,c,d,rfl,e1,p,l⟩;obtain ⟨⟨n,X,m⟩,L,b',rfl,hb⟩:=jG pf hi;have r:=ht _ (aaq L);have ad:i<fs.length:=(aaQ.mp L).1;have dr:fs.drop i=(n,X,m)::fs.drop (i+1):=by rw [ado ad,(aaQ.mp L).2]
  rw [dr,x_] at l;have l1:=r.l;have l2:=r.lo.2;have l3:=r.hi.2;dsimp only at l1 l2 l3;refine ⟨b',_,rfl,gC.of (p _ _ hb),rfl,_,_,rfl,_,_,rfl,_,_,rfl,rfl,?_⟩;refine ⟨_,rfl,n,rfl,r.l,r.s,r.sl,?_⟩;by_cases hn:nameB n=true
  ·rw [aac hn] at l ⊢;refine ⟨_,rfl,_,rfl,q,_,rfl,.inl (fM.of e1),rfl,?_,_,rfl,?_⟩
   ·rw [aaV];intro v hv;obtain ⟨y,_,rfl⟩:=aaB.mp hv;rfl
   by_cases M:n∈(fs.map (·.1)).take i
   ·rw [aac M] at l;refine iY ?_ ?_
    ·show inV (.str n) _=true;unfold inV;rw [abS,abT];exact ⟨n,M,by simp [wD]⟩
    have D:(("the field " : Str)).length=10:=by ext
    have G:((" stands twice" : Str)).length=13:=by ext
    refine ⟨?_,_,rfl,n,.inl ⟨rfl,by omega⟩,?_,?_,?_,fun e C=>⟨e,cT,_,rfl,R.e,a_,fun j g=>⟨rfl,e,cT,some j,rfl,?_,jo p C,R.e.x,k1 l.symm z j _ p (iw C g)⟩⟩⟩
    all_goals (try rw [abm])
    all_goals (try (first|lia|(simp only [aaL,D,G];lia)))
    have ne:e≠j:=fun q=>by subst q;rw [a_] at g;cases g
    rw [bK ne,a_]
   ·rw [aab M] at l;refine iK ?_ ?_
    ·show inV (.str n) _=false;unfold inV;rw [abS,abY];intro y hy ae;have:y=n:=by simpa [wD] using ae
     exact M (this ▸ hy)
    have D:(("the field " : Str)).length=10:=by ext
    have G:((" can't go from " : Str)).length=15:=by ext
    have O:((" to " : Str)).length=4:=by ext
    by_cases h1:-999999≤X
    ·refine ⟨_,rfl,_,rfl,_,_,rfl,rfl,_,rfl,iY (by simpa using h1) ?_⟩;by_cases h2:X≤m
     ·refine ⟨_,rfl,_,_,rfl,rfl,_,rfl,iY (by simpa using h2) ?_⟩;by_cases h3:m≤999999
      ·refine ⟨_,_,rfl,rfl,_,rfl,iK (by simpa using h3) ?_⟩;rw [aac ⟨h1,h2,h3⟩] at l;have lt:((fs.map (·.1)).take i).length≤200:=by rw [aaJ,aag];omega
       refine ⟨_,rfl,.inl ⟨rfl,_,fM.of e1⟩,_,rfl,q,_,_,rfl,rfl,e1,by rw [aag];exact lR (by omega),?_⟩;have tk:(fs.map (·.1)).take (i+1)=(fs.map (·.1)).take i++[n]:=by rw [aaX,aaz,L];rfl
       refine ⟨_,_,_,rfl,?_,fun c o e=>by rw [bK (di e hq)];exact p c o e,by rw [tk];exact l⟩;rw [a_,tk];simp
      ·refine ⟨_,_,rfl,rfl,_,rfl,iY (by simpa using h3) ?_⟩;rw [aab (by omega)] at l;refine ⟨?_,_,rfl,n,.inl ⟨rfl,by omega⟩,?_,?_,_,rfl,_,.inr ⟨X,rfl,r.lo.1,rfl⟩,?_,?_,_,rfl,_,.inr ⟨m,rfl,r.hi.1,rfl⟩,?_,?_,fun e C=>⟨e,N,_,rfl,J.e,a_,fun j g=>⟨rfl,e,N,some j,rfl,?_,jo p C,J.e.x,k2 l.symm z j _ p (iw C g)⟩⟩⟩
       all_goals (try rw [abm])
       all_goals (try (first|lia|(simp only [aaL,D,G,O];lia)))
       have ne:e≠j:=fun q=>by subst q;rw [a_] at g;cases g
       rw [bK ne,a_]
     ·refine ⟨_,rfl,_,_,rfl,rfl,_,rfl,iK (by simpa using h2) ⟨_,rfl,iY rfl ?_⟩⟩;rw [aab (by omega)] at l;refine ⟨?_,_,rfl,n,.inl ⟨rfl,by omega⟩,?_,?_,_,rfl,_,.inr ⟨X,rfl,r.lo.1,rfl⟩,?_,?_,_,rfl,_,.inr ⟨m,rfl,r.hi.1,rfl⟩,?_,?_,fun e C=>⟨e,N,_,rfl,J.e,a_,fun j g=>⟨rfl,e,N,some j,rfl,?_,jo p C,J.e.x,k2 l.symm z j _ p (iw C g)⟩⟩⟩
      all_goals (try rw [abm])
      all_goals (try (first|lia|(simp only [aaL,D,G,O];lia)))
      have ne:e≠j:=fun q=>by subst q;rw [a_] at g;cases g
      rw [bK ne,a_]
    ·refine ⟨_,rfl,_,rfl,_,_,rfl,rfl,_,rfl,iK (by simpa using h1) ⟨_,rfl,iY rfl ?_⟩⟩;rw [aab (by omega)] at l;refine ⟨?_,_,rfl,n,.inl ⟨rfl,by omega⟩,?_,?_,_,rfl,_,.inr ⟨X,rfl,r.lo.1,rfl⟩,?_,?_,_,rfl,_,.inr ⟨m,rfl,r.hi.1,rfl⟩,?_,?_,fun e C=>⟨e,N,_,rfl,J.e,a_,fun j g=>⟨rfl,e,N,some j,rfl,?_,jo p C,J.e.x,k2 l.symm z j _ p (iw C g)⟩⟩⟩
     all_goals (try rw [abm])
     all_goals (try (first|lia|(simp only [aaL,D,G,O];lia)))
     have ne:e≠j:=fun q=>by subst q;rw [a_] at g;cases g
     rw [bK ne,a_]
  ·rw [aab hn] at l ⊢;exact fun j U th=>k0 l.symm z j U p th
 ·rintro S z ⟨b,c,d,rfl,e1,p,l⟩;refine k ?_ z p;rw [← l,pl,List.drop_length];rfl
noncomputable def kW (n:Str) (fs:List lU):Option Nat:=if nameB n=true then (if fs.length≤4 then fW [] fs else some 3) else some 0
noncomputable def uq:Nat->Str
 |0=>"badname"
 |1=>"taken"
 |2=>"badbounds"
 |_=>"full"
noncomputable def V4 (a b c d:Zl):Nat->Addr
 |0=>a
 |1=>b
 |2=>c
 |_=>d
inductive sH (C cN cT cB cF:Zl) (vs:List V) (H:Hp) (Q:VK) (E:XK):Prop
 |mk (o dx a:Zl) (n:Str) (xs:List V) (fs:List lU):vs=[.ref o,.str n,.ref a]->H o=some (.ins C dx [])->n.length≤1000->vH (.str n)->(PyData.str n).shown.length≤100000->H a=some (.tup xs)->Paired (iG H) xs fs->fs.length≤100->(∀ f∈fs,uM f)->(kW n fs=none->∀ H',ii C H' o n a fs->(∀ b u,H b=some u->b≠o->H' b=some u)->Q .non H')->(∀ i,kW n fs=some i->∀ H1 da H',du H H1->jE H1 [("word",.str (uq i))] da H'->E (.ref (V4 cN cT cB cF i)) (some da) H')->sH C cN cT cB cF vs H Q E
def K8 (F:iT K "__init__" "Kind.__init__" rP dV f fd) (T:Txt K mg) (TK':rA mg) (Y:KCls K mg C) (DN:gK K mg "need_name" (top 28) ["text"] fN R) (DF:gK K mg "need_fields" (top 29) ["fields"] fF S)
 (GN:dw P w K mg base (jt P w) 5 fN R ["text"] (yD cN)) (GF:dw P w K mg base (jt P w) 6 fF S ["fields"] (K7 cN cT cB)) (G:nH K mg "Full" X fU U) (GU:dw P w K mg base fG 2 fU U ["self","words"] (uK K "full")) :
 dw P w K mg base (jt P w) 7 f fd ["self","name","fields"] (sH C cN cT cB X):=by
 refine F.ok1 VJ (by ext) fun J A Z s H vs Q E hr h=>?_;obtain ⟨o,M,a,n,p,fs,rfl,ho,n1,n2,n3,D,pf,hl,ht,k,N⟩:=h;obtain ⟨tf,mf⟩:=TK'.mf;have aa:eX 5 _:=hr.mono (by decide);have ab:eX 3 _:=hr.mono (by decide);have pl:=abf pf;refine ⟨_,(d7 (dZ (eY (E:=E) GN aa rfl DN.mg DN.F.kp DN.b .nil (iZ fun _ _ _ h=>h) (aK (pv 1) d9))) (d7 (fX (d_ uX (dJ dY (by rfl) T.len gB (aK (pv 2) d9)) (e_ (v:=.int 4) rfl mf ⟨_,rfl⟩) (eV _)) (dj (iC (B:="ValueError") (newId:="ValueError.__new__") (W:=E) (iD (E:=E0) aa3 G.e.x G.i G.n GU ab (by rfl) G.mg G.b .nil dU (aK (jj (j4 (dJ dY (by rfl) T.len gB (aK (pv 2) d9)) (ir (j4 (e_ (v:=.int 4) rfl mf ⟨_,rfl⟩) jP)))) d9)) rfl rfl (fun ad σ i s' e cls dd I x q=>Gd I x q))) eE) (d7 (dZ (eY (E:=E) GF hr rfl DF.mg DF.F.kp DF.b .nil (iZ fun _ _ _ h=>h) (aK (pv 2) d9))) (d7 (dO (pv 0) (pv 1) rfl) (dj (dO (pv 0) (gQ jb (by rfl) T.tuple jO (aK (pv 2) d9)) rfl)))))),?_⟩;refine ⟨_,rfl,n,rfl,n1,n2,n3,?_⟩;by_cases O:nameB n=true
 ·rw [aac O];by_cases h4:fs.length≤4
  ·have l:kW n fs=fW [] fs:=by unfold kW;rw [aac O,aac h4]
   refine ⟨_,rfl,a,p,rfl,.inr (gC.of D),_,_,rfl,rfl,_,rfl,iK (by simp;omega) ?_⟩;refine ⟨_,rfl,a,p,fs,rfl,D,pf,hl,ht,fun d j g=>?_,fun d j c i g r=>N 0 (l.trans d) j c i g r,fun d j c i g r=>N 1 (l.trans d) j c i g r,fun d j c i g r=>N 2 (l.trans d) j c i g r⟩;refine ⟨_,rfl,_,rfl,o,C,M,[],rfl,g _ _ ho,Y.cl,Y.nN,(show 0<1000 by decide),?_⟩;have L:a≠o:=iJ D ho (by intro z;cases z);have ac:∀ u,(upd j o u) a=some (.tup p):=fun u=>by rw [bK L];exact g _ _ D
   refine ⟨_,rfl,a,p,rfl,.inr ⟨gC.of (ac _),?_⟩⟩;refine ⟨_,rfl,o,C,M,_,rfl,a_,Y.cl,Y.nF,(show 1<1000 by decide),?_⟩;have keep:∀ b u,H b=some u->b≠o->(upd (upd j o (.ins C M (gG "name" (.str n) []))) o (.ins C M (kf n a))) b=some u:=fun b u e hb=>by rw [bK hb,bK hb];exact g _ _ e
   refine k (l.trans d) _ ⟨⟨M,a_⟩,p,keep a _ D L,gF pf fun b ys e=>keep b _ e (iJ e ho (by intro z;cases z))⟩ keep
  ·have l:kW n fs=some 3:=by unfold kW;rw [aac O,aab h4]
   have big:200000≤sizeLine:=by decide
   have e1:((" fields are more than " : Str)).length=22:=by ext
   have ln:∀ m:Nat,m≤100->(Str.ofString (toString (m:Int))).length≤8/\(m:Int).natAbs.log2<1920:=fun m hm=>by
    constructor
    ·have:=int_text_length_le10 (a:=(m:Int)) (k:=6) (by decide) (by omega);have e:(Str.ofString (toString (m:Int))).length=(toString (m:Int)).length:=ofString_length _;omega
    ·by_cases d:(m:Int).natAbs=0
     ·rw [d];decide
     ·exact ab3 ((acv d).mpr (show (m:Int).natAbs<2 ^ 20 by omega)) (by decide)
   have l1:=ln p.length (by omega);have l2:=ln 4 (by decide);have ae:(Str.ofString (toString (4:Int))).length≤8:=l2.1;refine ⟨_,rfl,a,p,rfl,.inr (gC.of D),_,_,rfl,rfl,_,rfl,iY (by simp;omega) ?_⟩;refine ⟨_,rfl,a,p,rfl,.inr (gC.of D),_,.inr ⟨_,rfl,l1.2,rfl⟩,?_,?_,_,.inr ⟨_,rfl,by decide,rfl⟩,?_,?_,fun e he=>⟨e,X,_,rfl,G.e,a_,fun c y=>⟨rfl,e,X,some c,rfl,?_,he,G.e.x,N 3 l H c _ (fun _ _ z=>z) (iw he y)⟩⟩⟩
   all_goals (try rw [abm])
   all_goals (try (first|lia|(simp only [aaL,e1];lia)))
   have ne:e≠c:=fun q=>by subst q;rw [a_] at y;cases y
   rw [bK ne,a_]
 ·rw [aab O];have l:kW n fs=some 0:=by unfold kW;rw [aab O]
  exact fun c i r=>N 0 l H c i (fun _ _ z=>z) r
end
def Dt (y z:Str):(y++z).cps.toList=y.cps.toList++z.cps.toList:=by show (y.cps++z.cps).toList=_;simp
def zx (h:z.cps.toList.all (fun c=>decide (97≤c/\c≤122))=false):nameB (y++z)=false:=by rw [jL,Dt,List.all_append,h];simp
def V0 (h:z.cps.toList.all (fun c=>decide (97≤c/\c≤122))=false):nameB (z++y)=false:=by rw [jL,Dt,List.all_append,h];simp
section
variable {P:ZB} {w:ZE} {K:Zs} {mg:ZY} {base:ZI}
inductive ux (vs:List V) (H:Hp) (Q:VK) (E:XK):Prop
 |mk (p dc:Zl) (x:Str):vs=[.ref p,.str x]->Dr H p dc->x.length≤500->ju x->(∀ (y:Str) (H':Hp),ju y->y.length≤x.length+8->(1≤x.length->nameB y=false)->Dr H' p dc->iz p H H'->Q (.str y) H')->ux vs H Q E
def Oo:dC ["_law_d","_law_text","_law_odd"] ["_law_d","_law_text"] (b_ (top 125)):=by ext
def Df (F:iM K "_law_odd_name" "_law_odd_name" (top 125) f o) (T:Txt K mg) (Y:gK K mg "_law_pick" (top 117) ["_law_d","_law_many"] X g) (r:gK K mg "_law_of" (top 118) ["_law_d","_law_things"] n c) :
 dw P w K mg base fG 3 f o ["_law_d","_law_text"] ux:=by
 have N:dw P w K mg base fG 2 n c ["_law_d","_law_things"] (A_ K):=Dz r.F T Y;refine F.ok Oo (by ext) fun B A e s H vs Q E C h=>?_;obtain ⟨p,R,x,rfl,D,hl,b,k⟩:=h;refine ⟨_,(d7 (jD 2 Oo.nd (gb (aK dD (aK (fj gU (pv 1) dD) (aK (fj gU (ie ul (pv 1) iQ (iR dm)) dD) (aK (fj gU (ie ul (pv 1) iQ (iR dm)) dD) (aK (fj gU (ie ul (pv 1) iQ (iR dm)) dD) (aK (fj gU (ie ul (pv 1) iQ (iR dm)) dD) (aK (fj gU dD (ie ul (pv 1) iQ (iR dm))) d9))))))))) (dj (dX (n6 r N C (aK (pv 0) (aK (pv 2) d9)))))),?_⟩;have big:1000≤sizeLine:=by decide
 have l1:(("abcdefgh" : Str)).length=8:=by ext
 have a:∀ j:Int,(Txt.slice x none (some j)).length≤x.length:=fun j=>Txt.slice_le x none (some j);have m:∀ y z:Str,y.length≤x.length->z.length=1->y.length+z.length≤sizeLine:=fun y z G I=>by omega
 have O:∀ y z:Str,y.length≤x.length->z.length=1->z.length+y.length≤sizeLine:=fun y z G I=>by omega
 refine ⟨_,rfl,_,_,rfl,rfl,by omega,?_⟩;refine ⟨_,rfl,_,rfl,x,_,rfl,rfl,rfl,by omega,_,_,rfl,rfl,m _ ("A" : Str) (a _) (by ext),?_⟩;refine ⟨_,rfl,_,rfl,x,_,rfl,rfl,rfl,by omega,_,_,rfl,rfl,m _ (" " : Str) (a _) (by ext),?_⟩;refine ⟨_,rfl,_,rfl,x,_,rfl,rfl,rfl,by omega,_,_,rfl,rfl,m _ ("1" : Str) (a _) (by ext),?_⟩;refine ⟨_,rfl,_,rfl,x,_,rfl,rfl,rfl,by omega,_,_,rfl,rfl,m _ ("_" : Str) (a _) (by ext),?_⟩;refine ⟨_,rfl,_,rfl,x,_,rfl,rfl,rfl,by omega,_,_,rfl,rfl,O _ ("{" : Str) (a _) (by ext),?_⟩;refine ⟨(by ext),fun q i=>?_⟩;refine ⟨_,rfl,_,rfl,p,R,q,_,rfl,D.new i,fM.of a_,by simp,by simp,fun v J l L M=>?_⟩;have d:∀ y z:Str,(y++z).length=y.length+z.length:=fun y z=>aaL y z;have one:∀ z:Str,z.length=1->∀ j:Int,(Txt.slice x none (some j)++z).length≤x.length+8/\(z++Txt.slice x none (some j)).length≤x.length+8:=fun z Z j=>by have:=a j;rw [d,d];omega
 obtain ⟨y,rfl,S,U,W⟩:∃ y:Str,v=.str y/\ju y/\y.length≤x.length+8/\(1≤x.length->nameB y=false):=by
  simp only [aah,aa2,or_false] at l;rcases l with rfl|rfl|rfl|rfl|rfl|rfl|rfl
  ·exact ⟨_,rfl,by unfold ju;decide +kernel,aaR _,fun _=>by ext⟩
  ·exact ⟨_,rfl,mG b (by unfold ju;decide +kernel),by rw [d];omega,fun h=>by rw [jL,d,aaE (by omega:¬ x.length+("abcdefgh" : Str).length≤8)];simp⟩
  ·exact ⟨_,rfl,mG (mz b _ _) (by unfold ju;decide +kernel),(one _ (by ext) _).1,fun _=>zx (by ext)⟩
  ·exact ⟨_,rfl,mG (mz b _ _) (by unfold ju;decide +kernel),(one _ (by ext) _).1,fun _=>zx (by ext)⟩
  ·exact ⟨_,rfl,mG (mz b _ _) (by unfold ju;decide +kernel),(one _ (by ext) _).1,fun _=>zx (by ext)⟩
  ·exact ⟨_,rfl,mG (mz b _ _) (by unfold ju;decide +kernel),(one _ (by ext) _).1,fun _=>zx (by ext)⟩
  ·exact ⟨_,rfl,mG (by unfold ju;decide +kernel) (mz b _ _),(one _ (by ext) _).2,fun _=>V0 (by ext)⟩
 exact k y J S U W L ((iz.new i).trans M)
noncomputable def Ox:Option Nat->Str
 |none=>""
 |some i=>uq i
noncomputable def mW (fs:List lU):Str:=Ox (if fs.length≤4 then fW [] fs else some 3)
def pO (h:fs.length≤4) (e:fW [] fs=r):mW fs=Ox r:=by unfold mW;rw [aac h,e]
inductive N8 (vs:List V) (H:Hp) (Q:VK) (E:XK):Prop
 |mk a xs fs:vs=[.ref a]->H a=some (.tup xs)->Paired (iG H) xs fs->fs.length≤100->(∀ f∈fs,f.1.length≤1000/\ju f.1)->(∀ H',du H H'->Q (.str (mW fs)) H')->N8 vs H Q E
def JK:dC ["_law_fields","_law_names","_law_title","_law_low","_law_high"] ["_law_fields"] (b_ (top 126)):=by ext
def Vn (F:iM K "_law_fields_word" "_law_fields_word" (top 126) f fd) (T:Txt K mg) (DN:gK K mg "_law_is_name" (top 123) ["_law_text"] fN J):dw P w K mg base fG 2 f fd ["_law_fields"] N8:=by
 have GN:dw P w K mg base fG 1 fN J ["_law_text"] Am:=KN DN.F T;refine F.ok JK (by ext) fun aa A O s H vs Q E hr h=>?_;obtain ⟨a,M,fs,rfl,ha,pf,hl,ht,k⟩:=h;have pl:=abf pf;refine ⟨_,(d7 (fX (d_ uX (dJ dY (by rfl) T.len gB (aK (pv 0) d9)) dm (eV _)) (dj (dX dD)) eE) (d7 (jD 1 JK.nd (gb d9)) (d7 (lD abv rfl (rn (pv 0)) (jT rfl (eU (rZ 2 JK.nd) (eU (rZ 3 JK.nd) (eU (rZ 4 JK.nd) jg)))) (d7 (fX (jn (jY (n6 DN GN hr (aK (pv 2) d9)))) (dj (dX dD)) eE) (d7 (fX (d_ kO (pv 2) (pv 1) rfl) (dj (dX dD)) eE) (d7 (fX (jn (qO gY gY gY (vg q_ dm) (pv 3) (pv 4) dm)) (dj (dX dD)) eE) (dj (dZ (lu aaZ aa5 abe ik (pv 1) (aK (pv 2) d9)))))))) (dj (dX dD))))),?_⟩;refine ⟨_,rfl,a,M,rfl,.inr (gC.of ha),_,_,rfl,rfl,_,rfl,?_⟩;by_cases I:fs.length≤4
 ·refine iK (by simp;omega) ⟨(by ext),fun q R=>?_⟩;have D:∀ {H':Hp},du H H'->H' a=some (.tup M):=fun e=>e _ _ ha;refine ⟨_,rfl,a,rfl,⟨_,gC.of (D (du.new R))⟩,lY (xs:=M) (fun i L B=>∃ (b c d:Option V),L=[some (.ref a),some (.ref q),b,c,d]/\B q=some (.lst (((fs.map (·.1)).take i).map V.str))/\du H B/\fW ((fs.map (·.1)).take i) (fs.drop i)=fW [] fs) ⟨none,none,none,rfl,by rw [a_];simp,du.new R,rfl⟩ (fun i L B _ ⟨_,_,_,_,_,e,_⟩=>gC.of (D e)) ?_ ?_⟩
  ·rintro i x L B hi ⟨b,c,d,rfl,e1,N,g⟩;obtain ⟨⟨n,G,j⟩,m,b',rfl,hb⟩:=jG pf hi;have fo:=ht _ (aaq m);have S:i<fs.length:=(aaQ.mp m).1;have dr:fs.drop i=(n,G,j)::fs.drop (i+1):=by rw [ado S,(aaQ.mp m).2]
   rw [dr,x_] at g;refine ⟨b',_,rfl,gC.of (N _ _ hb),rfl,_,_,rfl,_,_,rfl,_,_,rfl,rfl,?_⟩;refine ⟨_,rfl,n,rfl,aaj fo.1 (by decide),fo.2,fun C s2=>⟨_,rfl,?_⟩⟩;have l:du H C:=fun c o e=>s2 _ _ (N _ _ e);have U:=s2 _ _ e1;cases hn:nameB n with
   | false=>rw [hn,aab (by decide)] at g;refine iY rfl ?_;have:=k C l;rw [pO I g.symm] at this;exact this
   | true=>
     rw [hn,aac rfl] at g;refine iK rfl ?_;refine ⟨_,rfl,_,rfl,q,_,rfl,.inl (fM.of U),rfl,?_,_,rfl,?_⟩
     ·rw [aaV];intro v hv;obtain ⟨y,_,rfl⟩:=aaB.mp hv;rfl
     by_cases p:n∈(fs.map (·.1)).take i
     ·rw [aac p] at g;refine iY ?_ ?_
      ·show inV (.str n) _=true;unfold inV;rw [abS,abT];exact ⟨n,p,by simp [wD]⟩
      have:=k C l;rw [pO I g.symm] at this;exact this
     ·rw [aab p] at g;refine iK ?_ ?_
      ·show inV (.str n) _=false;unfold inV;rw [abS,abY];intro y hy W;have:y=n:=by simpa [wD] using W
       exact p (this ▸ hy)
      have r:¬ (-999999≤G/\G≤j/\j≤999999)->Q (.str "badbounds") C:=fun hx=>by rw [aab hx] at g;have:=k C l;rw [pO I g.symm] at this;exact this
      by_cases X:-999999≤G
      ·refine ⟨_,rfl,_,rfl,_,_,rfl,rfl,_,rfl,iY (by simpa using X) ?_⟩;by_cases Y:G≤j
       ·refine ⟨_,rfl,_,_,rfl,rfl,_,rfl,iY (by simpa using Y) ?_⟩;by_cases Z:j≤999999
        ·refine ⟨_,_,rfl,rfl,_,rfl,iK (by simpa using Z) ?_⟩;rw [aac ⟨X,Y,Z⟩] at g;have lt:((fs.map (·.1)).take i).length≤200:=by rw [aaJ,aag];omega
         refine ⟨_,rfl,.inl ⟨rfl,_,fM.of U⟩,_,rfl,q,_,_,rfl,rfl,U,by rw [aag];exact lR (by omega),?_⟩;have tk:(fs.map (·.1)).take (i+1)=(fs.map (·.1)).take i++[n]:=by rw [aaX,aaz,m];rfl
         refine ⟨_,_,_,rfl,?_,fun c o e=>by rw [bK (di e R)];exact l c o e,by rw [tk];exact g⟩;rw [a_,tk];simp
        ·exact ⟨_,_,rfl,rfl,_,rfl,iY (by simpa using Z) (r (by omega))⟩
       ·exact ⟨_,rfl,_,_,rfl,rfl,_,rfl,iK (by simpa using Y) ⟨_,rfl,iY rfl (r (by omega))⟩⟩
      ·exact ⟨_,rfl,_,rfl,_,_,rfl,rfl,_,rfl,iK (by simpa using X) ⟨_,rfl,iY rfl (r (by omega))⟩⟩
  ·rintro L B ⟨b,c,d,rfl,e1,N,g⟩;have:=k B N;rw [pl,List.drop_length] at g;rw [pO I g.symm] at this;exact this
 ·have e:mW fs = "full":=by unfold mW;rw [aab I];rfl
  rw [e] at k;exact iY (by simp;omega) (k H fun _ _ z=>z)
structure FB (m:Nat) (f:lU):Prop where
 l:f.1.length≤8+8*m
 a:ju f.1
 lo:-(ni+m)≤f.2.1/\f.2.1≤ni+m
 hi:-(ni+m)≤f.2.2/\f.2.2≤ni+m
def FB.up (h:FB m f):FB (m+1) f:=⟨by have:=h.l;omega,h.a,by have:=h.lo;omega,by have:=h.hi;omega⟩
theorem tX (r:R x f):∀ {b:List V} {fs:List lU} (j:Nat),Paired R b fs->Paired R (b.set j x) (fs.set j f)
 |_,_,_,.nil=>.nil
 |_,_,0,.cons _ t=>.cons r t
 |_,_,j+1,.cons a t=>.cons a (tX r j t)
theorem pH (r:R x f):∀ {b:List V} {fs:List lU} (j:Nat),Paired R b fs->Paired R (b.take j++x::b.drop j) (fs.take j++f::fs.drop j)
 |_,_,j,.nil=>by rw [acz,acz,acA,acA];exact .cons r .nil
 |_,_,0,.cons a t=>.cons r (.cons a t)
 |_,_,j+1,.cons a t=>.cons a (pH r j t)
def Ms {fs:List lU} (h:g∈fs.take j++f::fs.drop j):g=f∨g∈fs:=by
 rcases aam.mp h with h|h
 ·exact .inr (List.mem_of_mem_take h)
 ·rcases aah.mp h with h|h
  ·exact .inl h
  ·exact .inr (List.mem_of_mem_drop h)
def Hh {fs:List lU} (h:g∈fs.set j f):g=f∨g∈fs:=by
 rcases List.mem_or_eq_of_mem_set h with h|h
 ·exact .inr h
 ·exact .inl h
inductive xQ (vs:List V) (H:Hp) (Q:VK) (E:XK):Prop
 |mk (p dc a:Zl) (xs:List V) (fs:List lU):vs=[.ref p,.ref a]->Dr H p dc->H a=some (.tup xs)->Paired (iG H) xs fs->fs.length≤4->(∀ f∈fs,FB 0 f)->(∀ (a':Zl) (xs':List V) (fs':List lU) (H':Hp),H' a'=some (.tup xs')->Paired (iG H') xs' fs'->fs'.length≤6->(∀ f∈fs',FB 2 f)->Dr H' p dc->iz p H H'->Q (.ref a') H')->xQ vs H Q E
def K1:dC ["_law_d","_law_fields","_law_some","_law_step","_law_at","_law_way"] ["_law_d","_law_fields"] (b_ (top 127)):=by ext
noncomputable def KD (F:iM K "_law_bent_fields" "_law_bent_fields" (top 127) f fd) (T:Txt K mg) (DP:gK K mg "_law_pick" (top 117) ["_law_d","_law_many"] fP fdP) (DO:gK K mg "_law_of" (top 118) ["_law_d","_law_things"] fO fdO)
 (DW:gK K mg "_law_word" (top 121) ["_law_d"] fW' fdW) (DF:gK K mg "_law_far" (top 119) ["_law_d"] fF fdF) (DD:gK K mg "_law_odd_name" (top 125) ["_law_d","_law_text"] fD' fdD):dw P w K mg base fG 4 f fd ["_law_d","_law_fields"] xQ:=by
 have GP:dw P w K mg base fG 1 fP fdP ["_law_d","_law_many"] pq:=ql DP.F T;have GO:dw P w K mg base fG 2 fO fdO ["_law_d","_law_things"] (A_ K):=Dz DO.F T DP;have GW:dw P w K mg base fG 3 fW' fdW ["_law_d"] xF:=DY DW.F T DP DO;have GF:dw P w K mg base fG 2 fF fdF ["_law_d"] Cy:=Jq DF.F T DP;have GD:dw P w K mg base fG 3 fD' fdD ["_law_d","_law_text"] ux:=Df DD.F T DP DO;refine F.ok K1 (by ext) fun cdv A outer s H vs Q E hr h=>?_;obtain ⟨p,dc,a,xs,fs,rfl,D,ha,pf,hl,hf,k⟩:=h;have hr1:eX 1 _:=hr.mono (by decide);have hr2:eX 2 _:=hr.mono (by decide);refine ⟨_,(d7 (jD 2 K1.nd (gQ pU (by rfl) T.list qm (aK (pv 1) d9))) (d7 (lD abv rfl (kY rfl T.range (aK (n6 DP GP hr1 (aK (pv 0) (aK dm d9))) d9)) (rZ 3 K1.nd) (d7 (jD 4 K1.nd (n6 DP GP hr1 (aK (pv 0) (aK (fj j8 (dJ dY (by rfl) T.len gB (aK (pv 2) d9)) dm) d9)))) (d7 (jD 5 K1.nd (n6 DP GP hr1 (aK (pv 0) (aK dm d9)))) (dj (fX (PW.pt (rJ (d_ jq (pv 5) dm (eV _)) (pG (d_ jq (pv 4) (dJ dY (by rfl) T.len gB (aK (pv 2) d9)) (eV _))))) (dj (dZ (lu aaZ PySem.F.slot_list_insert PySem.F.type_list_insert vm (pv 2) (aK (pv 4) (aK (gA (aK (n6 DW GW hr (aK (pv 0) d9)) (aK dm (aK (n6 DP GP hr1 (aK (pv 0) (aK dm d9))) d9)))) d9))))) (dj (fX (d_ jq (pv 5) dm (eV _)) (dj (pF (fj Nf (gA (aK (n6 DD GD hr (aK (pv 0) (aK (fu j6 (fu eZ (pv 2) (pv 4)) dm) d9))) d9)) (ie K5 (fu eZ (pv 2) (pv 4)) (iR dm) iQ)) (xG (pv 2) (pv 4) set_list))) (dj (fX (d_ jq (pv 5) dm (eV _)) (dj (pF (gA (aK (fu j6 (fu eZ (pv 2) (pv 4)) dm) (aK (fj j8 (fu j6 (fu eZ (pv 2) (pv 4)) dm) dm) (aK (fu j6 (fu eZ (pv 2) (pv 4)) dm) d9)))) (xG (pv 2) (pv 4) set_list))) (dj (fX (d_ jq (pv 5) dm (eV _)) (dj (pF (gA (aK (fu j6 (fu eZ (pv 2) (pv 4)) dm) (aK (n6 DO GO hr2 (aK (pv 0) (aK (gb (aK (vg q_ dm) (aK (vg q_ dm) (aK (n6 DF GF hr2 (aK (pv 0) d9)) d9)))) d9))) (aK (fu j6 (fu eZ (pv 2) (pv 4)) dm) d9)))) (xG (pv 2) (pv 4) set_list))) (dj (fX (d_ jq (pv 5) dm (eV _)) (dj (pF (gA (aK (fu j6 (fu eZ (pv 2) (pv 4)) dm) (aK (fu j6 (fu eZ (pv 2) (pv 4)) dm) (aK (n6 DO GO hr2 (aK (pv 0) (aK (gb (aK dm (aK dm (aK (n6 DF GF hr2 (aK (pv 0) d9)) d9)))) d9))) d9)))) (xG (pv 2) (pv 4) set_list))) (dj (dZ (lu aaZ PySem.F.slot_list_insert PySem.F.type_list_insert vm (pv 2) (aK (pv 4) (aK (fu eZ (pv 2) (n6 DP GP hr1 (aK (pv 0) (aK (dJ dY (by rfl) T.len gB (aK (pv 2) d9)) d9)))) d9)))))))))))))))))) (dj (dX (gQ jb (by rfl) T.tuple jO (aK (pv 2) d9)))))),?_⟩;have tkB:∀ {H1 H2:Hp},Dr H1 p dc->iz p H1 H2->TK H1 H2:=fun d b c ys e=>b _ _ e (d.ne e (by intro kvs z;cases z));refine ⟨_,rfl,a,xs,rfl,.inr (gC.of ha),fun q hq=>?_⟩;have D0:=D.new (o:=.lst xs) hq;have npq:q≠p:=(D.neN hq).symm;refine ⟨_,rfl,p,dc,_,rfl,D0,by decide,by decide,fun r H1 r0 r1 D1 t1=>?_⟩;have b1:iz p H H1:=(iz.new hq).trans t1;refine ⟨_,rfl,by omega,by omega,oF (n:=r.toNat) (fun i σ H2=>∃ (ys:List V) (gs:List lU) (b c d:Option V),σ=[some (.ref p),some (.ref a),some (.ref q),b,c,d]/\H2 q=some (.lst ys)/\Paired (iG H2) ys gs/\gs.length≤4+i/\(∀ f∈gs,FB i f)/\Dr H2 p dc/\iz p H H2)
  ⟨xs,fs,none,none,none,rfl,t1 _ _ a_ npq,gF pf (tkB D b1),by omega,hf,D1,b1⟩ ?_ ?_⟩
 ·rintro i σ H2 hi ⟨ys,gs,b,c,d,rfl,e2,pg,gl,gf,D2,b2⟩;have pgl:=abf pg;have nqd:q≠dc:=by obtain ⟨ws,e⟩:=D.cell;exact (di e hq).symm
  have put:∀ {H5:Hp} {zs:List V} {hs:List lU} {v1 v2 v3:Option V},H5 q=some (.lst ys)->Paired (iG H5) zs hs->hs.length≤4+(i+1)->(∀ g∈hs,FB (i+1) g)->Dr H5 p dc->iz p H H5->
   ∃ (ys':List V) (gs':List lU) (b c d:Option V),[some (V.ref p),some (V.ref a),some (V.ref q),v1,v2,v3]=[some (V.ref p),some (V.ref a),some (V.ref q),b,c,d]/\upd H5 q (.lst zs) q=some (.lst ys')/\Paired (iG (upd H5 q (.lst zs))) ys' gs'/\gs'.length≤4+(i+1)/\(∀ f∈gs',FB (i+1) f)/\Dr (upd H5 q (.lst zs)) p dc/\iz p H (upd H5 q (.lst zs)):=
   fun {H5 zs hs v1 v2 v3} e5 p5 l5 f5 D5 b5=>⟨zs,hs,v1,v2,v3,rfl,a_,gF p5 fun b xs e=>by rw [bK (iJ e e5 (by intro z;cases z))];exact e,l5,f5,D5.put npq nqd,fun b o e hb=>by rw [bK (di e hq)];exact b5 b o e hb⟩;have r2:i≤1:=by omega
  refine ⟨_,rfl,_,rfl,q,ys,rfl,.inl (fM.of e2),_,_,rfl,rfl,p,dc,_,rfl,D2,by lia,by lia,fun at' H3 a0 a1 D3 t3=>?_⟩;refine ⟨_,rfl,p,dc,_,rfl,D3,by decide,by decide,fun wy H4 w0 w1 D4 t4=>?_⟩;obtain ⟨at',rfl⟩:=acD a0;have t24:iz p H2 H4:=t3.trans t4;have e4:H4 q=some (.lst ys):=t24 _ _ e2 npq;have pg4:Paired (iG H4) ys gs:=gF pg (tkB D2 t24);have b4:iz p H H4:=b2.trans t24;have gup:∀ g∈gs,FB (i+1) g:=fun g hg=>(gf g hg).up;have insL:∀ (g:lU) (j:Nat),FB (i+1) g->(∀ g'∈gs.take j++g::gs.drop j,FB (i+1) g')/\(gs.take j++g::gs.drop j).length≤4+(i+1):=fun g j hg=>by
   refine ⟨fun g' h=>?_,?_⟩
   ·rcases Ms h with rfl|h
    ·exact hg
    ·exact gup _ h
   ·rw [aaD,aaA,aaJ,ab0];omega
  have setL:∀ (g:lU) (j:Nat),FB (i+1) g->(∀ g'∈gs.set j g,FB (i+1) g')/\(gs.set j g).length≤4+(i+1):=fun g j hg=>by
   refine ⟨fun g' h=>?_,by rw [List.length_set];omega⟩;rcases Hh h with rfl|h
   ·exact hg
   ·exact gup _ h
  have way1:∀ (x:Str) (H5:Hp),Nm x->Dr H5 p dc->iz p H4 H5->∀ (z:Int) (H6:Hp),0≤z->z<9->Dr H6 p dc->iz p H5 H6->∀ t,H6 t=none->∀ v1 v2 v3:Option V,
   ∃ (ys':List V) (gs':List lU) (b c d:Option V),[some (V.ref p),some (V.ref a),some (V.ref q),v1,v2,v3]=[some (V.ref p),some (V.ref a),some (V.ref q),b,c,d]/\upd (upd H6 t (.tup [.str x,.int 0,.int z])) q (.lst (ys.take at'++.ref t::ys.drop at')) q=some (.lst ys')/\Paired (iG (upd (upd H6 t (.tup [.str x,.int 0,.int z])) q (.lst (ys.take at'++.ref t::ys.drop at')))) ys' gs'/\gs'.length≤4+(i+1)/\(∀ f∈gs',FB (i+1) f)/\Dr (upd (upd H6 t (.tup [.str x,.int 0,.int z])) q (.lst (ys.take at'++.ref t::ys.drop at'))) p dc/\iz p H (upd (upd H6 t (.tup [.str x,.int 0,.int z])) q (.lst (ys.take at'++.ref t::ys.drop at'))):=by
   intro x H5 nx D5 t5 z H6 z0 z9 D6 t6 t ht v1 v2 v3;have t46:iz p H4 H6:=t5.trans t6;have e6:H6 q=some (.lst ys):=t46 _ _ e4 npq;have fb:FB (i+1) (x,(0:Int),z):=⟨by have:=nx.hi;show x.length≤_;omega,by unfold ju;rw [← abw,aaV];intro c hc;have:=nx.lc c hc;simp;omega,by simp only [ni];omega,by simp only [ni];omega⟩;obtain ⟨il,ll⟩:=insL _ at' fb;exact put ((du.new ht) _ _ e6) (pH (f:=(x,(0:Int),z)) ⟨t,rfl,a_⟩ at' (gF (gF pg4 (tkB D4 t46)) fun b xs e=>(du.new ht) _ _ e)) ll il (D6.new ht) ((b4.trans t46).trans (iz.new ht))
  have atl:at'≤ys.length:=by omega
  have ysl:ys.length<1000000:=by omega
  refine ⟨_,rfl,rfl,_,rfl,?_⟩;by_cases hw0:wy=0
  ·subst hw0;refine iY rfl (iY rfl ?_);refine ⟨_,rfl,.inl ⟨rfl,_,fM.of e4⟩,_,rfl,_,rfl,p,dc,rfl,D4,fun x H5 nx D5 t5=>?_⟩;refine ⟨_,rfl,p,dc,_,rfl,D5,by decide,by decide,fun z H6 z0 z9 D6 t6=>⟨(by ext),fun t ht=>?_⟩⟩;exact ⟨q,ys,at',.ref t,rfl,rfl,(du.new ht) _ _ ((t5.trans t6) _ _ e4 npq),atl,ysl,way1 x H5 nx D5 t5 z H6 z0 z9 D6 t6 t ht _ _ _⟩
  ·refine iK (by simpa using hw0) ?_;refine ⟨_,rfl,_,rfl,q,ys,rfl,.inl (fM.of e4),rfl,_,rfl,?_⟩;by_cases hal:at'=ys.length
   ·refine iY (by simp [hal]) ?_;refine ⟨_,rfl,.inl ⟨rfl,_,fM.of e4⟩,_,rfl,_,rfl,p,dc,rfl,D4,fun x H5 nx D5 t5=>?_⟩;refine ⟨_,rfl,p,dc,_,rfl,D5,by decide,by decide,fun z H6 z0 z9 D6 t6=>⟨(by ext),fun t ht=>?_⟩⟩;exact ⟨q,ys,at',.ref t,rfl,rfl,(du.new ht) _ _ ((t5.trans t6) _ _ e4 npq),atl,ysl,way1 x H5 nx D5 t5 z H6 z0 z9 D6 t6 t ht _ _ _⟩
   ·refine iK (by simp;omega) ?_;have atlt:at'<ys.length:=by omega
    have hye:ys[at']?=some (ys[at']'atlt):=aaC atlt;obtain ⟨⟨n,lo,hi'⟩,hgi,bb,hxb,hbb⟩:=jG pg4 hye;have fo:=gf _ (aaq hgi);have hat:yh ys (at':Int)=some (.ref bb):=by rw [← hxb];exact gw hye
    have hix:K9 ys.length (at':Int)=some at':=by unfold K9;rw [aac (by omega),aac (by omega)];rfl
    have fl:=fo.l;have fa:=fo.a;have f1:=fo.lo;have f2:=fo.hi;dsimp only at fl fa f1 f2 hbb;have setK:∀ {H5:Hp} {t:Zl} {y:Str} {u v:Int} {v1 v2 v3:Option V},iz p H4 H5->Dr H5 p dc->H5 t=some (.tup [.str y,.int u,.int v])->FB (i+1) (y,u,v)->
     ∃ (ys':List V) (gs':List lU) (b c d:Option V),[some (V.ref p),some (V.ref a),some (V.ref q),v1,v2,v3]=[some (V.ref p),some (V.ref a),some (V.ref q),b,c,d]/\upd H5 q (.lst (ys.set at' (.ref t))) q=some (.lst ys')/\Paired (iG (upd H5 q (.lst (ys.set at' (.ref t))))) ys' gs'/\gs'.length≤4+(i+1)/\(∀ f∈gs',FB (i+1) f)/\Dr (upd H5 q (.lst (ys.set at' (.ref t)))) p dc/\iz p H (upd H5 q (.lst (ys.set at' (.ref t)))):=fun {H5 t y u v v1 v2 v3} t5 D5 e fb=>by
     obtain ⟨il,ll⟩:=setL _ at' fb;exact put (t5 _ _ e4 npq) (tX (f:=(y,u,v)) ⟨t,rfl,e⟩ at' (gF pg4 (tkB D4 t5))) ll il D5 (b4.trans t5)
    refine ⟨_,rfl,rfl,_,rfl,?_⟩;by_cases hw1:wy=1
    ·subst hw1;refine iY rfl ?_;refine ⟨_,rfl,_,rfl,_,rfl,q,ys,_,_,rfl,rfl,fM.of e4,hat,bb,_,_,_,rfl,rfl,gC.of hbb,rfl,p,dc,n,rfl,D4,by omega,fa,fun y H5 ay ly _ D5 t5=>⟨(by ext),fun t1 h1=>?_⟩⟩;have t5':iz p H4 (upd H5 t1 (.tup [.str y])):=t5.trans (iz.new h1);have hbb5:upd H5 t1 (.tup [.str y]) bb=some (.tup [.str n,.int lo,.int hi']):=tkB D4 t5' _ _ hbb;refine ⟨_,rfl,_,rfl,q,ys,_,_,rfl,rfl,fM.of (t5' _ _ e4 npq),hat,_,rfl,bb,_,rfl,gC.of hbb5,(fun hh=>absurd hh.1 (by show ¬ HT.je 3 0 (some 1)=0;decide)),fun t2 h2=>?_⟩;refine ⟨t1,t2,[.str y],[.int lo,.int hi'],rfl,rfl,gC.of ((du.new h2) _ _ a_),gC.of a_,by simp,(show 1+2≤sizeLine by decide),(fun e=>by cases e),fun _ t3 h3=>?_⟩;have D6:=((D5.new (o:=.tup [.str y]) h1).new (o:=.tup [.int lo,.int hi']) h2).new (o:=.tup [.str y,.int lo,.int hi']) h3;have t6:iz p H4 _:=(t5'.trans (iz.new (o:=.tup [.int lo,.int hi']) h2)).trans (iz.new (o:=.tup [.str y,.int lo,.int hi']) h3);exact ⟨_,rfl,_,rfl,q,ys,_,at',rfl,rfl,t6 _ _ e4 npq,hix,setK t6 D6 a_ ⟨by show y.length≤_;omega,ay,by show _/\_;dsimp only;omega,by show _/\_;dsimp only;omega⟩⟩
    ·refine iK (by simpa using hw1) ?_;refine ⟨_,rfl,rfl,_,rfl,?_⟩;by_cases hw2:wy=2
     ·subst hw2;refine iY rfl ?_;refine ⟨_,rfl,_,rfl,q,ys,_,_,rfl,rfl,fM.of e4,hat,bb,_,_,_,rfl,rfl,gC.of hbb,rfl,_,rfl,_,rfl,q,ys,_,_,rfl,rfl,fM.of e4,hat,bb,_,_,_,rfl,rfl,gC.of hbb,rfl,_,_,rfl,rfl,_,rfl,_,rfl,q,ys,_,_,rfl,rfl,fM.of e4,hat,bb,_,_,_,rfl,rfl,gC.of hbb,rfl,(by ext),fun t3 h3=>?_⟩;have t6:iz p H4 (upd H4 t3 (.tup [.str n,.int (hi'+1),.int hi'])):=iz.new h3;exact ⟨_,rfl,_,rfl,q,ys,_,at',rfl,rfl,t6 _ _ e4 npq,hix,setK t6 (D4.new h3) a_ ⟨by show n.length≤_;omega,fa,by show _/\_;dsimp only;omega,by show _/\_;dsimp only;omega⟩⟩
     ·refine iK (by simpa using hw2) ?_;refine ⟨_,rfl,rfl,_,rfl,?_⟩;by_cases hw3:wy=3
      ·subst hw3;refine iY rfl ?_;refine ⟨_,rfl,_,rfl,q,ys,_,_,rfl,rfl,fM.of e4,hat,bb,_,_,_,rfl,rfl,gC.of hbb,rfl,_,rfl,_,rfl,_,rfl,_,rfl,p,dc,rfl,D4,fun z H5 z0 z1 D5 t5=>⟨(by ext),fun q1 h1=>?_⟩⟩;have D5':=D5.new (o:=.lst [.int (-1000000),.int (-999999),.int z]) h1;refine ⟨p,dc,q1,_,rfl,D5',fM.of a_,by simp,by simp,fun x H6 hx D6 t6=>?_⟩;obtain ⟨u,rfl,u0,u1⟩:∃ u:Int,x=.int u/\-ni≤u/\u≤ni:=by
        simp only [aah,aa2,or_false] at hx;rcases hx with rfl|rfl|rfl
        ·exact ⟨_,rfl,by decide,by decide⟩
        ·exact ⟨_,rfl,by decide,by decide⟩
        ·exact ⟨_,rfl,z0,z1⟩
       have t46:iz p H4 H6:=(t5.trans (iz.new h1)).trans t6;refine ⟨_,rfl,_,rfl,q,ys,_,_,rfl,rfl,fM.of (t46 _ _ e4 npq),hat,bb,_,_,_,rfl,rfl,gC.of (tkB D4 t46 _ _ hbb),rfl,(by ext),fun t3 h3=>?_⟩;have t7:iz p H4 (upd H6 t3 (.tup [.str n,.int u,.int hi'])):=t46.trans (iz.new h3);exact ⟨_,rfl,_,rfl,q,ys,_,at',rfl,rfl,t7 _ _ e4 npq,hix,setK t7 (D6.new h3) a_ ⟨by show n.length≤_;omega,fa,by show _/\_;dsimp only;omega,by show _/\_;dsimp only;omega⟩⟩
      ·refine iK (by simpa using hw3) ?_;refine ⟨_,rfl,rfl,_,rfl,?_⟩;by_cases hw4:wy=4
       ·subst hw4;refine iY rfl ?_;refine ⟨_,rfl,_,rfl,q,ys,_,_,rfl,rfl,fM.of e4,hat,bb,_,_,_,rfl,rfl,gC.of hbb,rfl,_,rfl,_,rfl,q,ys,_,_,rfl,rfl,fM.of e4,hat,bb,_,_,_,rfl,rfl,gC.of hbb,rfl,_,rfl,_,rfl,p,dc,rfl,D4,fun z H5 z0 z1 D5 t5=>⟨(by ext),fun q1 h1=>?_⟩⟩;have D5':=D5.new (o:=.lst [.int 1000000,.int 999999,.int z]) h1;refine ⟨p,dc,q1,_,rfl,D5',fM.of a_,by simp,by simp,fun x H6 hx D6 t6=>?_⟩;obtain ⟨u,rfl,u0,u1⟩:∃ u:Int,x=.int u/\-ni≤u/\u≤ni:=by
         simp only [aah,aa2,or_false] at hx;rcases hx with rfl|rfl|rfl
         ·exact ⟨_,rfl,by decide,by decide⟩
         ·exact ⟨_,rfl,by decide,by decide⟩
         ·exact ⟨_,rfl,z0,z1⟩
        have t46:iz p H4 H6:=(t5.trans (iz.new h1)).trans t6;refine ⟨(by ext),fun t3 h3=>?_⟩;have t7:iz p H4 (upd H6 t3 (.tup [.str n,.int lo,.int u])):=t46.trans (iz.new h3);exact ⟨_,rfl,_,rfl,q,ys,_,at',rfl,rfl,t7 _ _ e4 npq,hix,setK t7 (D6.new h3) a_ ⟨by show n.length≤_;omega,fa,by show _/\_;dsimp only;omega,by show _/\_;dsimp only;omega⟩⟩
       ·refine iK (by simpa using hw4) ?_;refine ⟨_,rfl,.inl ⟨rfl,_,fM.of e4⟩,_,rfl,_,rfl,_,rfl,_,rfl,q,ys,rfl,.inl (fM.of e4),p,dc,_,rfl,D4,by lia,by lia,fun z H5 z0 z1 D5 t5=>?_⟩;obtain ⟨z,rfl⟩:=acD z0;have zl:z<ys.length:=by omega
        have hze:ys[z]?=some (ys[z]'zl):=aaC zl;obtain ⟨g,hg,bz,hxz,hbz⟩:=jG pg4 hze;have hzt:yh ys (z:Int)=some (.ref bz):=by rw [← hxz];exact gw hze
        have e5:=t5 _ _ e4 npq;obtain ⟨il,ll⟩:=insL g at' (gup g (aaq hg));exact ⟨q,ys,_,_,rfl,rfl,fM.of e5,hzt,q,ys,at',.ref bz,rfl,rfl,e5,atl,ysl,put e5 (pH (f:=g) ⟨bz,rfl,tkB D4 t5 _ _ hbz⟩ at' (gF pg4 (tkB D4 t5))) ll il D5 (b4.trans t5)⟩
 ·rintro σ H2 ⟨ys,gs,b,c,d,rfl,e2,pg,gl,gf,D2,b2⟩;have r2:r.toNat≤2:=by omega
  refine ⟨_,rfl,q,ys,rfl,.inl ⟨fM.of e2,fun t ht=>?_⟩⟩;have up:∀ {g:lU} {m:Nat},m≤2->FB m g->FB 2 g:=fun {g m} hm h=>by
   match m,hm with
   |0,_=>exact h.up.up
   |1,_=>exact h.up
   |2,_=>exact h
  exact k t ys gs _ a_ (gF pg fun b xs e=>(du.new ht) _ _ e) (by omega) (fun g hg=>up r2 (gf g hg)) (D2.new ht) (b2.trans (iz.new ht))
end
def Qq (a:ju x):∀ c∈x.cps.toList,c<128:=by unfold ju at a;rw [← abw,aaV] at a;exact fun c b=>by simpa using a c b
def kJ (a:ju x) (h:x.length≤100):(PyData.str x).shown.length≤100000:=by show (reprText x).length≤100000;have d:=StrLaws.reprText_len x (fun c b=>ab3 (Qq a c b) (by decide));omega
def zK (a:ju x) (h:x.length≤100):vH (.str x):=⟨rfl,rfl,by simp [PyData.depth],aaj (kJ a h) (by decide)⟩
def Dw (h:FB 2 f):uM f:=⟨by have:=h.l;omega,zK h.a (by have:=h.l;omega),kJ h.a (by have:=h.l;omega),oh (by have:=h.lo;omega) (by have:=h.lo;omega),oh (by have:=h.hi;omega) (by have:=h.hi;omega)⟩
noncomputable def Og (h:vQ f):FB 0 f:=⟨by have:=h.nm.hi;omega,by unfold ju;rw [← abw,aaV];intro c a;have:=h.nm.lc c a;simp;omega,by have:=h.lo;have:=h.le;have:=h.hi;simp only [ni];omega,by have:=h.lo;have:=h.le;have:=h.hi;simp only [ni];omega⟩
theorem xP (x:Str):∀ a:List Str,inV (.str x) (a.map V.str)=decide (x∈a)
 |[]=>rfl
 | y::r=>by
   have b:=xP x r;unfold inV at b ⊢;rw [aaw,abK,b];by_cases h:x=y
   ·subst h;simp [wD]
   ·have:¬ y=x:=fun z=>h z.symm;simp [wD,h,this]
theorem yR:∀ a:List Str,(a.map V.str).all oZ=true
 |[]=>rfl
 |y::r=>by rw [aaw,abJ,yR r];rfl
def Cq {b:List V} (h:a≤b.length):jV b none (some (a:Int))=b.take a:=by show (b.drop (HT.je _ 0 none)).take (HT.je _ _ (some (a:Int))-HT.je _ 0 none)=_;rw [HT.zL,HT.Cp,ac1,Nat.sub_zero];congr 1;omega
noncomputable def slw (h:gC K H a c) (e:jV c f g=d) (k:∀ l b,du H b->gC K b l d->Q (.ref l) b):Wa K (.ref a) f g H Q:=by subst e;exact ⟨a,c,rfl,h,fun e=>k a H (du.refl _) (by rw [e];exact h),fun p i=>k p _ (du.new i) (gC.of a_)⟩
section
variable {P:ZB} {w:ZE} {K:Zs} {mg:ZY} {base:ZI}
def q9 {X:Cx} {W:XK} {C:Zl} {wd:Str} {f:TF} {m:Nat} {g:St} {H:Hp} {D:L2.Ends} {i:XK} (j:qy f g H m) (o:m≤sizeLine) (h:rY X.K C) (l:du X.H₀ H)
 (n:∀ b c,jE H [("word",.str wd)] b c->W (.ref C) (some b) c):Hu X "ValueError" "ValueError.__new__" W (J5 C (uK X.K wd) [] i (fV (Od f) iV)) D g H:=by
 refine j Str.empty _ (by rw [show Str.empty.length=0 from rfl];omega) fun y=>?_;intro e d;refine ⟨e,C,_,rfl,h,a_,fun b a=>⟨rfl,e,C,some b,rfl,?_,jo l d,h.x,n b _ (iw d a)⟩⟩;have ne:e≠b:=fun q=>by subst q;rw [a_] at a;cases a
 rw [bK ne,a_]
abbrev l_:Stmt:=inClass (top 8) 0
def FN:dC ["self","words"] ["self","words"] (b_ l_):=by ext
noncomputable def Cg {CX:rK} {f q d:Zl} {g b:ZA} {r dW:ZH} (F:iT K "__init__" "BadKeys.__init__" l_ dW f g) (T:uJ K mg) (v:iT K "__init__" "ScribeError.__init__" Do r d b) (x:Binds K b ["self","words","word"] []) (MS:xf K mg "ScribeError" q d):dw P w K mg base CX 2 f g ["self","words"] (uK K "badkeys"):=by have l:dw P w K mg base fG 1 d b ["self","words","word"] (xZ K):=uz v T;obtain ⟨y,m,n⟩:=MS.rd;refine F.ok1 FN (by ext) fun i A c s H vs Q E j h=>?_;obtain ⟨e,C,a,rfl,o,p,k⟩:=h;refine ⟨_,(dj (dZ (jk (E:=E0) (by rfl) MS.mg MS.sg m n MS.kp l j x .nil dU (aK (pv 0) (aK (pv 1) (aK dD d9)))))),?_⟩;exact ⟨_,rfl,_,rfl,e,C,_,_,rfl,o,p,k⟩
abbrev lZ:Stmt:=inClass (top 6) 0
def Eo:dC ["self","words"] ["self","words"] (b_ lZ):=by ext
noncomputable def Ad {CX:rK} {f q d:Zl} {g b:ZA} {r dW:ZH} (F:iT K "__init__" "BadSize.__init__" lZ dW f g) (T:uJ K mg) (v:iT K "__init__" "ScribeError.__init__" Do r d b) (x:Binds K b ["self","words","word"] []) (MS:xf K mg "ScribeError" q d):dw P w K mg base CX 2 f g ["self","words"] (uK K "badsize"):=by have l:dw P w K mg base fG 1 d b ["self","words","word"] (xZ K):=uz v T;obtain ⟨y,m,n⟩:=MS.rd;refine F.ok1 Eo (by ext) fun i A c s H vs Q E j h=>?_;obtain ⟨e,C,a,rfl,o,p,k⟩:=h;refine ⟨_,(dj (dZ (jk (E:=E0) (by rfl) MS.mg MS.sg m n MS.kp l j x .nil dU (aK (pv 0) (aK (pv 1) (aK dD d9)))))),?_⟩;exact ⟨_,rfl,_,rfl,e,C,_,_,rfl,o,p,k⟩
structure SM (mg:ZY):Prop where
 mn:∃ t,mg "MOST_NAMED" = some (.int 4 t)
 kl:∃ t,mg "KEYS_LIMIT" = some (.int 64 t)
 en:mg "enumerate" = none
noncomputable def kj (a:Y1):Bool:=decide (a.length≤4) && (a.all nameB && decide a.Nodup)
abbrev bkF:List (Str×V):=[("word",.str "badkeys")]
inductive Q9 (K:Zs) (cK:Zl) (vs:List V) (H:Hp) (Q:VK) (E:XK):Prop
 |mk (a:Zl) (ys:Y1):vs=[.ref a]->gC K H a (ys.map V.str)->ys.length≤20->(∀ y∈ys,ju y/\y.length≤40)->(kj ys=true->∀ H',du H H'->Q .non H')->(kj ys=false->∀ H1 da H',du H H1->jE H1 bkF da H'->E (.ref cK) (some da) H')->Q9 K cK vs H Q E
noncomputable abbrev ZS:List Str:=["keys","at","name"]
def Pu:dC ZS ["keys"] (b_ (top 85)):=by ext
noncomputable def V2 {f fI cK fK:Zl} {fd X Y:ZA} (F:iM K "need_keys" "need_keys" (top 85) f fd) (T:Txt K mg) (TK':rA mg) (TY:SM mg) (DI:gK K mg "is_name" (top 27) ["text"] fI X) (d:nH K mg "BadKeys" cK fK Y) (GB:dw P w K mg base fG 2 fK Y ["self","words"] (uK K "badkeys")):dw P w K mg base (jt P w) 5 f fd ["keys"] (Q9 K cK):=by
 have GI:dw P w K mg base fG 1 fI X ["text"] lX:=oO DI.F T TK';refine F.ok1 Pu (by ext) fun C A aa s H vs Q E Z h=>?_;obtain ⟨a,b,rfl,R,yl,tx,k,kx⟩:=h;obtain ⟨t4,m4⟩:=TY.mn;have ac:eX 1 _:=Z.mono (by decide);have M:eX 3 _:=Z.mono (by decide);refine ⟨_,(d7 (fX (d_ uX (dJ dY (by rfl) T.len gB (aK (pv 0) d9)) (e_ (v:=.int 4) rfl m4 ⟨_,rfl⟩) (eV _)) (dj (iC (B:="ValueError") (newId:="ValueError.__new__") (W:=E) (iD (E:=E0) aa3 d.e.x d.i d.n GB M (by rfl) d.mg d.b .nil dU (aK (jj (j4 (dJ dY (by rfl) T.len gB (aK (pv 0) d9)) (ir (j4 (e_ (v:=.int 4) rfl m4 ⟨_,rfl⟩) jP)))) d9)) rfl rfl (fun D σ o G e cls dd I x q=>Gd I x q))) eE) (dj (lD ade rfl (HH rfl TY.en xx (aK (pv 0) d9)) (jT rfl (eU (rZ 1 Pu.nd) (eU (rZ 2 Pu.nd) jg))) (dj (fX (PW.pt (rJ (jn (jY (n6 DI GI ac (aK (pv 2) d9)))) (pG (d_ kO (pv 2) (ie wB (pv 0) iQ (iR (pv 1))) rfl)))) (dj (iC (B:="ValueError") (newId:="ValueError.__new__") (W:=E) (iD (E:=E0) aa3 d.e.x d.i d.n GB M (by rfl) d.mg d.b .nil dU (aK (jj (Dk Z.units Z.gd (pv 2) (ir jP))) d9)) rfl rfl (fun D σ o G e cls dd I x q=>Gd I x q))) eE))))),?_⟩;have big:200000≤sizeLine:=by decide
 have lm:(b.map V.str).length=b.length:=aag ..;refine ⟨_,rfl,a,_,rfl,.inr R,_,_,rfl,rfl,_,rfl,qW (fun h=>?_) (fun h=>?_)⟩
 ·have h5:4<b.length:=by simp at h;omega
  have hl:=oh (i:=((b.map V.str).length:Nat)) (by simp only [ni];omega) (by simp only [ni];omega);have ad:=oh (i:=4) (by decide) (by decide);refine q9 (qy.int (i:=((b.map V.str).length:Nat)) (fun Q q=>⟨_,rfl,a,_,rfl,.inr R,q⟩) hl (qy.txt (m:=100) (by ext) (qy.int j7.con ad qy.nil))) (by decide) d.e (du.refl _) (fun g o th=>kx ?_ H g o (du.refl _) th);unfold kj;rw [aaE (by omega)];rfl
 ·have h5:b.length≤4:=by simp at h;omega
  refine ⟨_,rfl,a,rfl,⟨_,R⟩,?_⟩;refine Gs (xs:=b.map V.str) (fun i j o=>(∃ u1 u2,j=[some (.ref a),u1,u2])/\du H o/\(b.take i).Nodup/\∀ y∈b.take i,nameB y=true) ⟨⟨_,_,rfl⟩,du.refl _,by simp,by simp⟩ (fun i j o _ ⟨_,G,_⟩=>G.tup R) ?_ ?_
  ·rintro i v j H2 t S ⟨⟨u1,u2,rfl⟩,s2,nd,nm⟩ ht;rw [aaz] at S;obtain ⟨x,hx,rfl⟩:∃ x,b[i]?=some x/\V.str x=v:=by
    cases hj:b[i]? with
    |none=>rw [hj] at S;cases S
    |some x=>rw [hj] at S;exact ⟨x,rfl,by simpa using S⟩
   have s3:du H2 (upd H2 t (.tup [.int (i:Nat),.str x])):=du.new ht;refine ⟨t,_,rfl,gC.of a_,rfl,_,_,rfl,_,_,rfl,rfl,?_⟩;have N:=s2.trans s3;generalize upd H2 t (.tup [.int (i:Nat),.str x])=H3 at s3 N ⊢;have mx:=aaq hx;obtain ⟨ax,ae⟩:=tx x mx;have il:i<b.length:=(aaQ.mp hx).1;have ec:jV (b.map V.str) none (some (i:Int))=(b.take i).map V.str:=by rw [Cq (by rw [aag];omega),← List.map_take]
   have e1:((" is no name, or stands twice" : Str)).length=28:=by ext
   have sd:=zK ax (by omega);have sl:=kJ ax (by omega);have tk:b.take (i+1)=b.take i++[x]:=by rw [aaX,hx];rfl
   refine ⟨_,rfl,x,rfl,by omega,?_⟩;have O:∀ L,du H L->kj b=false->∀ e,L e=none->∀ g,(upd L e (jw e cK none)) g=none->True:=fun _ _ _ _ _ _ _=>trivial;clear O;cases hb:nameB x with
   | false=>
     have r:kj b=false:=by
      unfold kj;have:b.all nameB=false:=by rw [List.all_eq_false];exact ⟨x,mx,by rw [hb];decide⟩
      rw [this];simp
     refine ⟨_,rfl,iY rfl (iY rfl ?_)⟩;refine ⟨_,rfl,.str x,rfl,.str x,sd,?_,?_,?_,fun e J=>⟨e,cK,_,rfl,d.e,a_,fun g c=>⟨rfl,e,cK,some g,rfl,?_,jo N J,d.e.x,kx r H3 g _ N (iw J c)⟩⟩⟩
     all_goals (try rw [abm])
     all_goals (try (first|lia|(simp only [aaL,e1];lia)))
     have ne:e≠g:=fun q=>by subst q;rw [a_] at c;cases c
     rw [bK ne,a_]
   | true=>
     refine ⟨_,rfl,iK rfl ?_⟩;refine ⟨_,rfl,_,rfl,_,rfl,_,rfl,slw (N.tup R) ec fun l L s4 h4=>?_⟩;have S4:=N.trans s4;refine ⟨l,_,rfl,.inr h4,rfl,yR _,_,rfl,?_⟩;by_cases n:x∈b.take i
     ·have r:kj b=false:=by
       unfold kj;have:¬ b.Nodup:=fun ab=>by have:=ab.sublist (List.take_sublist (i+1) b);rw [tk,abn] at this;exact this.2.2 x n x (by simp) rfl
       rw [aaE this];simp
      refine iY (by show inV (.str x) _=true;rw [xP];exact aaH n) ?_;refine ⟨_,rfl,.str x,rfl,.str x,sd,?_,?_,?_,fun e J=>⟨e,cK,_,rfl,d.e,a_,fun g c=>⟨rfl,e,cK,some g,rfl,?_,jo S4 J,d.e.x,kx r L g _ S4 (iw J c)⟩⟩⟩
      all_goals (try rw [abm])
      all_goals (try (first|lia|(simp only [aaL,e1];lia)))
      have ne:e≠g:=fun q=>by subst q;rw [a_] at c;cases c
      rw [bK ne,a_]
     ·refine iK (by show inV (.str x) _=false;rw [xP];exact aaE n) ⟨⟨_,_,rfl⟩,S4,?_,?_⟩
      ·rw [tk,abn];refine ⟨nd,by simp,fun p hp q hq z=>?_⟩;rw [aak] at hq;subst hq;subst z;exact n hp
      ·rw [tk];intro y U;rcases aam.mp U with U|U
       ·exact nm y U
       ·rw [aak.mp U];exact hb
  ·rintro j o ⟨_,G,nd,nm⟩;rw [lm,ab7] at nd nm;refine k ?_ o G;unfold kj;rw [aaH h5,aaH nd,aaV.mpr nm];rfl
end
abbrev yM (j:Nat):Stmt:=inClass (top 86) j
noncomputable def pJ (d:PyData) (a:Y1) (m:Int):Option Nat:=if lG d=true then (if kj a=true then (if 1≤m/\m≤64 then none else some 2) else some 1) else some 0
noncomputable def X3:Nat->Str
 |0=>"badtest"
 |1=>"badkeys"
 |_=>"badsize"
noncomputable def Zj (a cK b:Zl):Nat->Addr
 |0=>a
 |1=>cK
 |_=>b
def xJ (i:Int):Prop:=-(ni+2)≤i/\i≤ni+2
def xJ.len (h:xJ i):i.natAbs.log2<1920/\(Str.ofString (toString i)).length≤1000:=oh h.1 h.2
noncomputable def WK (x:V) (a c:Zl) (m:Int):List (Str×V):=[("test",x),("named",.ref a),("most",.int m),("counted",.ref c),("beyond",.int 0)]
def Xi (d:Zl) (e H:Hp) (o:Zl) (x:V) (a:Zl) (m:Int):Prop:=∃ b c,e c=none/\H o=some (.ins d b (WK x a c m))/\H c=some (.dK [])
structure V8 (K:Zs) (mg:ZY) (cL:Zl):Prop where
 c:vy K cL
 mg:mg "Tally" = some (.ref cL)
 f1:eO K cL "test"
 f2:eO K cL "named"
 f3:eO K cL "most"
 f4:eO K cL "counted"
 f5:eO K cL "beyond"
section
variable {P:ZB} {w:ZE} {K:Zs} {mg:ZY} {base:ZI}
inductive Nq (K:Zs) (cL cT cK cZ:Zl) (vs:List V) (H:Hp) (Q:VK) (E:XK):Prop
 |mk (o dx a:Zl) (x:V) (d:PyData) (ys:Y1) (m:Int):vs=[.ref o,x,.ref a,.int m]->H o=some (.ins cL dx [])->Rep K H x d->TD d->gC K H a (ys.map V.str)->ys.length≤20->(∀ y∈ys,ju y/\y.length≤40)->xJ m->(pJ d ys m=none->∀ H',Xi cL H H' o x a m->(∀ b u,H b=some u->b≠o->H' b=some u)->Q .non H')->(∀ n,pJ d ys m=some n->∀ H1 da H',du H H1->jE H1 [("word",.str (X3 n))] da H'->E (.ref (Zj cT cK cZ n)) (some da) H')->Nq K cL cT cK cZ vs H Q E
noncomputable abbrev NYI:List Str:=["self","test","keys","most"]
def Ys:dC NYI NYI (b_ (yM 0)):=by ext
def W7 {f fT fK i cT cK cZ fZ:Zl} {fd R S U:ZA} (F:iM K "__init__" "Tally.__init__" (yM 0) f fd) (T:Txt K mg) (TY:SM mg) (Z:V8 K mg i)
 (DT:gK K mg "need_test" (top 78) ["test"] fT R) (GT:dw P w K mg base (jt P w) 11 fT R ["test"] (S_ K cT)) (DK:gK K mg "need_keys" (top 85) ["keys"] fK S) (GK:dw P w K mg base (jt P w) 5 fK S ["keys"] (Q9 K cK))
 (J:nH K mg "BadSize" cZ fZ U) (GZ:dw P w K mg base fG 2 fZ U ["self","words"] (uK K "badsize")):dw P w K mg base (jt P w) 12 f fd NYI (Nq K i cT cK cZ):=by
 refine F.ok1 Ys (by ext) fun L A X s H vs Q E Y h=>?_;obtain ⟨o,j,a,x,d,ys,m,rfl,ho,rx,td,ha,yl,tx,tm,k,l⟩:=h;obtain ⟨af,ad⟩:=TY.kl;have aa:eX 3 _:=Y.mono (by decide);have ab:eX 5 _:=Y.mono (by decide);refine ⟨_,(d7 (dZ (eY (E:=E) GT Y rfl DT.mg DT.F.kp DT.b .nil (iZ fun _ _ _ h=>h) (aK (pv 1) d9))) (d7 (dZ (eY (E:=E) GK ab rfl DK.mg DK.F.kp DK.b .nil (iZ fun _ _ _ h=>h) (aK (pv 2) d9))) (d7 (fX (jn (kZ gY gY dm (pv 3) (e_ (v:=.int 64) rfl ad ⟨_,rfl⟩))) (dj (iC (B:="ValueError") (newId:="ValueError.__new__") (W:=E) (iD (E:=E0) aa3 J.e.x J.i J.n GZ aa (by rfl) J.mg J.b .nil dU (aK (jj (ir (j4 (pv 3) (ir jP)))) d9)) rfl rfl (fun ae σ D s' e cls dd I x q=>Gd I x q))) eE) (d7 (dO (pv 0) (pv 1) rfl) (d7 (dO (pv 0) (gQ jb (by rfl) T.tuple jO (aK (pv 2) d9)) rfl) (d7 (dO (pv 0) (pv 3) rfl) (d7 (dO (pv 0) pW rfl) (dj (dO (pv 0) dm rfl))))))))),?_⟩;unfold pJ at k l;refine ⟨_,rfl,x,d,rfl,rx,td,fun h1 H1 M=>?_,fun h1 H1 N D M O=>?_⟩
 ·rw [aac h1] at k l;refine ⟨_,rfl,a,ys,rfl,M.tup ha,yl,tx,fun h2 n s2=>?_,fun h2 n N D s2 O=>?_⟩
  ·rw [aac h2] at k l;have p:=M.trans s2;refine oX.iff (oX.not (oX.test (j7.chain j7.con (j7.var rfl) j7.con rD.i0 rD.i0))) (qW (fun h=>?_) (fun h=>?_))
   ·have h3:¬ (1≤m/\m≤64):=fun z=>by simp [z.1,z.2] at h
    rw [aab h3] at l;exact q9 (wd:="badsize") (qy.txt (m:=100) (by ext) (qy.int (j7.var rfl) tm.len (qy.txt (m:=100) (by ext) qy.nil))) (by decide) J.e p (fun N D O=>l 2 rfl n N D p O)
   ·have h3:1≤m/\m≤64:=by simpa using h
    rw [aac h3] at k;have r:=p _ _ ho;refine ⟨_,rfl,_,rfl,o,i,j,[],rfl,r,Z.c,Z.f1,(show 0<1000 by decide),?_⟩;have no:∀ {b u},H b=some u->b≠o->(upd n o (.ins i j (gG "test" x []))) b=some u:=fun e g=>by rw [bK g];exact p _ _ e
    have ac:gC K (upd n o (.ins i j (gG "test" x []))) a (ys.map V.str):=by
     rcases p.tup ha with q|q
     ·rcases q with q|⟨o',q⟩
      ·have g:a≠o:=fun z=>by rw [z,r] at q;cases q
       exact .inl (.inl (by rw [bK g];exact q))
      ·have g:a≠o:=fun z=>by rw [z,r] at q;cases q
       exact .inl (.inr ⟨o',by rw [bK g];exact q⟩)
     ·exact .inr q
    refine ⟨_,rfl,a,_,rfl,.inr ⟨ac,?_⟩⟩;refine ⟨_,rfl,o,i,j,_,rfl,a_,Z.c,Z.f2,(show 1<1000 by decide),?_⟩;refine ⟨_,rfl,_,rfl,o,i,j,_,rfl,a_,Z.c,Z.f3,(show 2<1000 by decide),?_⟩;generalize C:upd (upd (upd n o _) o _) o _=H3;have k3:∀ b,b≠o->H3 b=n b:=fun b g=>by rw [← C,bK g,bK g,bK g]
    have e3:H3 o=some (.ins i j [("test",x),("named",.ref a),("most",.int m)]):=by rw [← C,a_];rfl
    clear C;refine fun c G=>⟨_,rfl,o,i,j,_,rfl,du.new G _ _ e3,Z.c,Z.f4,(show 3<1000 by decide),?_⟩;have y:c≠o:=fun z=>by rw [z,e3] at G;cases G
    refine ⟨_,rfl,o,i,j,_,rfl,a_,Z.c,Z.f5,(show 4<1000 by decide),?_⟩;refine k rfl _ ⟨j,c,eG p (by rw [← k3 _ y];exact G),by rw [a_];rfl,by rw [bK y,bK y,a_]⟩ fun b u e g=>?_;have e2:=p _ _ e;rw [bK g,bK g,bK (fun z=>by rw [← z,k3 _ g,e2] at G;cases G),k3 _ g];exact e2
  ·rw [aab (by rw [h2];decide)] at l;exact l 1 rfl n N D (M.trans s2) O
 ·rw [aab (by rw [h1];decide)] at l;exact l 0 rfl H1 N D M O
end
noncomputable def gT:List Value->List Value->List Value
 |[a,b,c],[d]=>[a,b,c,d]
 |_,_=>[]
noncomputable def WX:List V->List V->List V
 |[a,b,c],[d]=>[a,b,c,d]
 |_,_=>[]
structure BR (cL:Zl) (K:Zs) (H:Hp) (q:Addr×Addr):Prop where
 ex:∃ dx x a d,H q.1=some (.ins cL dx (WK x a q.2 16))/\H q.2=some (.dK [])/\Rep K H x d/\TD d/\lG d=true/\gC K H a []
structure FQ (H:Hp) (q:Addr×Addr):Prop where
 a:H q.1=none
 b:H q.2=none
section
variable {P:ZB} {w:ZE} {K:Zs} {mg:ZY} {base:ZI} {cL cT cK cZ:Zl}
def tu:gJ (jt P w) X (fun _ _ _=>False):=fun a b H s e c I h=>by obtain ⟨_,_,_,_,_,_,_,_,_,_,q⟩:=h;exact q.elim
inductive Ko (cL:Zl) (K:Zs) (vs:List V) (H:Hp) (Q:VK) (E:XK):Prop
 |mk (q:Addr×Addr):vs=[.ref q.1]->BR cL K H q->(∀ q' H',FQ H q'->du H H'->BR cL K H' q'->Q (.ref q'.1) H')->Ko cL K vs H Q E
def Wc:dC ["self","other"] ["self"] (b_ (yM 4)):=by ext
noncomputable def V_ (F:iM K "twin" "Tally.twin" (yM 4) f X) (Z:V8 K mg cL) (hd:mg "dict" = none) (M:Mk K cL W) (kb:jF K B NYI ["most"] gT WX) (GI:dw P w K mg base (jt P w) 12 W B NYI (Nq K cL cT cK cZ)):dw P w K mg base fG 14 f X ["self"] (Ko cL K):=by
 refine F.ok Wc (by ext) fun Y A D s H vs Q E hr h=>?_;obtain ⟨⟨o,c⟩,rfl,ty,q⟩:=h;refine ⟨_,(d7 (jD 1 Wc.nd (JQ (E:=fun _ _ _=>False) M GI hr rfl Z.mg kb tu (aK (dN (pv 0) rfl) (aK (dN (pv 0) rfl) d9)) (jJ (dN (pv 0) rfl) uf))) (d7 (dO (pv 1) (gQ rO (by rfl) hd Ea (aK (dN (pv 0) rfl) d9)) rfl) (d7 (dO (pv 1) (dN (pv 0) rfl) rfl) (dj (dX (pv 1)))))),?_⟩;obtain ⟨z,x,a,d,i,O,r,R,S,T⟩:=ty.ex;dsimp only at i O;refine ⟨_,rfl,o,cL,z,_,_,rfl,i,Z.c,Z.f1,rfl,_,rfl,o,cL,z,_,_,rfl,i,Z.c,Z.f2,rfl,_,rfl,o,cL,z,_,_,rfl,i,Z.c,Z.f3,rfl,fun y G l m aa=>?_⟩;have N:du H (upd (upd H G (.own y)) y (.ins cL G [])):=fQ l m (fun b u e _=>e);have I:pJ d [] 16=none:=by unfold pJ;rw [aac S];rfl
 refine ⟨y,G,a,x,d,[],16,rfl,a_,r.same N,R,N.tup T,by decide,(fun y h=>by cases h),by unfold xJ;decide,fun _ L ta k1=>⟨rfl,?_⟩,fun n h=>by rw [I] at h;cases h⟩;obtain ⟨g,c',_,U,t2⟩:=ta;have j:du H L:=fQ l m k1;refine ⟨_,rfl,o,cL,z,_,_,rfl,j _ _ i,Z.c,Z.f4,rfl,c,_,rfl,j _ _ O,fun p C=>?_⟩;have v:y≠p:=di U C;refine ⟨_,rfl,y,cL,g,WK x a c' 16,rfl,(by rw [bK v];exact U),Z.c,Z.f4,(show 5<1000 by decide),?_⟩;have no:o≠y:=di i l;have J:o≠p:=di (j _ _ i) C;refine ⟨_,rfl,o,cL,z,_,_,rfl,(by rw [bK no,bK J];exact j _ _ i),Z.c,Z.f5,rfl,_,rfl,y,cL,g,_,rfl,a_,Z.c,Z.f5,(show 5<1000 by decide),?_⟩;rw [g_];have up:∀ b u,H b=some u->upd (upd L p (.dK [])) y (.ins cL g (WK x a p 16)) b=some u:=fun b u e=>by rw [bK (di e l),bK (di (j _ _ e) C)];exact j _ _ e
 exact ⟨_,rfl,q (y,p) _ ⟨l,eG j C⟩ up ⟨g,x,a,d,a_,by rw [bK v.symm];exact a_,r.same up,R,S,du.tup up T⟩⟩
end
def Oh:PE X e (fun _ _ _=>False):=fun _ _ _ _ _ _ h=>h.elim
section
variable {P:ZB} {w:ZE} {K:Zs} {mg:ZY} {base:ZI} {Z:LC} {C S cL cZ:Zl}
abbrev Zm:List (Str×V):=[("word",.str "badsize")]
inductive yF (lo hi:Int) (cZ:Zl) (vs:List V) (H:Hp) (Q:VK) (E:XK):Prop
 |mk (i:Int):vs=[.int i]->xJ i->(lo≤i/\i≤hi->Q .non H)->(¬ (lo≤i/\i≤hi)->∀ da H',jE H Zm da H'->E (.ref cZ) (some da) H')->yF lo hi cZ vs H Q E
noncomputable def Qh (F:iM K "need_pages" "need_pages" (top 53) f l) (n:Bf mg) (a:nH K mg "BadSize" cZ j b) (M:dw P w K mg base fG 2 j b ["self","words"] (uK K "badsize")):dw P w K mg base (jt P w) 4 f l ["pages"] (yF 2 16 cZ):=by refine F.ok1 Wj (by ext) fun o A c s H vs Q E p h=>?_;obtain ⟨i,rfl,D,k,G⟩:=h;obtain ⟨R,J⟩:=n.a;obtain ⟨T,L⟩:=n.b;refine ⟨_,(dj (fX (jn (kZ gY gY (e_ (v:=.int 2) rfl J ⟨_,rfl⟩) (pv 0) (e_ (v:=.int 16) rfl L ⟨_,rfl⟩))) (dj (iC (B:="ValueError") (newId:="ValueError.__new__") (W:=E) (iD (E:=E0) aa3 a.e.x a.i a.n M p (by rfl) a.mg a.b .nil dU (aK (jj (ir (j4 (pv 0) (ir jP)))) d9)) rfl rfl (fun d N g O e cls dd I x q=>Gd I x q))) eE)),?_⟩;refine oX.iff (oX.not (oX.test (j7.chain j7.con (j7.var rfl) j7.con rD.i0 rD.i0))) (qW (fun h=>?_) (fun h=>k (by simpa using h)));exact q9 (wd:="badsize") (qy.txt (m:=100) (by ext) (qy.int (j7.var rfl) D.len (qy.txt (m:=100) (by ext) qy.nil))) (by decide) a.e (du.refl _) (fun r g y=>G (fun z=>by simp [z.1,z.2] at h) r g y)
noncomputable def Qt (F:iM K "need_room" "need_room" (top 54) f l) (n:Bf mg) (a:nH K mg "BadSize" cZ j b) (M:dw P w K mg base fG 2 j b ["self","words"] (uK K "badsize")):dw P w K mg base (jt P w) 4 f l ["room"] (yF 5 12 cZ):=by refine F.ok1 Ut (by ext) fun o A c s H vs Q E p h=>?_;obtain ⟨i,rfl,D,k,G⟩:=h;obtain ⟨R,J⟩:=n.c;obtain ⟨T,L⟩:=n.d;refine ⟨_,(dj (fX (jn (kZ gY gY (e_ (v:=.int 5) rfl J ⟨_,rfl⟩) (pv 0) (e_ (v:=.int 12) rfl L ⟨_,rfl⟩))) (dj (iC (B:="ValueError") (newId:="ValueError.__new__") (W:=E) (iD (E:=E0) aa3 a.e.x a.i a.n M p (by rfl) a.mg a.b .nil dU (aK (jj (ir (j4 (pv 0) (ir jP)))) d9)) rfl rfl (fun d N g O e cls dd I x q=>Gd I x q))) eE)),?_⟩;refine oX.iff (oX.not (oX.test (j7.chain j7.con (j7.var rfl) j7.con rD.i0 rD.i0))) (qW (fun h=>?_) (fun h=>k (by simpa using h)));exact q9 (wd:="badsize") (qy.txt (m:=100) (by ext) (qy.int (j7.var rfl) D.len (qy.txt (m:=100) (by ext) qy.nil))) (by decide) a.e (du.refl _) (fun r g y=>G (fun z=>by simp [z.1,z.2] at h) r g y)
abbrev pC (p r:Int):Prop:=(2≤p/\p≤16)/\5≤r/\r≤12
inductive Ed (S cZ:Zl) (vs:List V) (H:Hp) (Q:VK) (E:XK):Prop
 |mk (o dx:Zl) (p r:Int):vs=[.ref o,.int p,.int r]->H o=some (.ins S dx [])->xJ p->xJ r->(pC p r->∀ dk dt dc H',Z0 H dk dt dc->H' o=some (.ins S dx (yH p r dk dt dc false .non))->H' dk=some (.dK [])->H' dt=some (.dK [])->H' dc=some (.dK [])->dk≠dt->dk≠dc->dt≠dc->(∀ b u,H b=some u->b≠o->H' b=some u)->Q .non H')->(¬ pC p r->∀ da H',jE H Zm da H'->E (.ref cZ) (some da) H')->Ed S cZ vs H Q E
noncomputable def Rt (F:iM K "__init__" "Stand.__init__" (sM 0) f W) (SZ:SZ K mg S) (X:Bf mg) (I:gK K mg "need_pages" (top 53) ["pages"] R x) (J:gK K mg "need_room" (top 54) ["room"] T y) (Y:nH K mg "BadSize" cZ U B) (GZ:dw P w K mg base fG 2 U B ["self","words"] (uK K "badsize")):dw P w K mg base (jt P w) 5 f W ["self","pages","room"] (Ed S cZ):=by
 have GN:dw P w K mg base (jt P w) 4 R x ["pages"] (yF 2 16 cZ):=Qh I.F X Y GZ;have GR:dw P w K mg base (jt P w) 4 T y ["room"] (yF 5 12 cZ):=Qt J.F X Y GZ;refine F.ok1 Z7 (by ext) fun aa A L s H vs Q E O h=>?_;obtain ⟨o,j,p,r,rfl,ho,tp,tr,q,N⟩:=h;refine ⟨_,(d7 (dZ (eY (E:=E) GN O rfl I.mg I.F.kp I.b .nil (iZ fun _ _ _ h=>h) (aK (pv 1) d9))) (d7 (dZ (eY (E:=E) GR O rfl J.mg J.F.kp J.b .nil (iZ fun _ _ _ h=>h) (aK (pv 2) d9))) (d7 (dO (pv 0) (pv 1) rfl) (d7 (dO (pv 0) (pv 2) rfl) (d7 (dO (pv 0) pW rfl) (d7 (dO (pv 0) pW rfl) (d7 (dO (pv 0) pW rfl) (d7 (dO (pv 0) y_ rfl) (dj (dO (pv 0) qz rfl)))))))))),?_⟩;refine ⟨_,rfl,p,rfl,tp,fun M=>?_,fun M=>N fun z=>M z.1⟩;refine ⟨_,rfl,r,rfl,tr,fun r1=>?_,fun r1=>N fun z=>r1 z.2⟩
 replace q:=q ⟨M,r1⟩
 clear N;refine ⟨_,rfl,_,rfl,o,S,j,[],rfl,ho,SZ.c,SZ.s1,(show 0<1000 by decide),?_⟩;refine ⟨_,rfl,_,rfl,o,S,j,_,rfl,a_,SZ.c,SZ.s2,(show 1<1000 by decide),?_⟩;rw [g_];refine fun dk hk=>?_;have d:o≠dk:=di a_ hk;refine ⟨_,rfl,o,S,j,[("pages",.int p),("room",.int r)],rfl,(by rw [bK d];exact a_),SZ.c,SZ.s3,(show 2<1000 by decide),?_⟩;refine fun c m=>?_;have nt:o≠c:=di a_ m;refine ⟨_,rfl,o,S,j,[("pages",.int p),("room",.int r),("known",.ref dk)],rfl,(by rw [bK nt];exact a_),SZ.c,SZ.s4,(show 3<1000 by decide),?_⟩;refine fun D l=>?_;have n:o≠D:=di a_ l;refine ⟨_,rfl,o,S,j,[("pages",.int p),("room",.int r),("known",.ref dk),("tracks",.ref c)],rfl,(by rw [bK n];exact a_),SZ.c,SZ.s5,(show 4<1000 by decide),?_⟩;refine ⟨_,rfl,o,S,j,_,rfl,a_,SZ.c,SZ.s6,(show 5<1000 by decide),?_⟩;rw [g_];refine ⟨_,rfl,o,S,j,_,rfl,a_,SZ.c,SZ.s7,(show 6<1000 by decide),?_⟩;rw [g_];have v:H dk=none:=by rw [bK d.symm] at hk;exact hk
 have a:dk≠c:=di (show upd (upd _ dk _) o _ dk=some _ by rw [bK d.symm];exact a_) m;rw [bK nt.symm,bK a.symm,bK nt.symm] at m;have g:dk≠D:=di (show upd (upd (upd (upd _ dk _) o _) c _) o _ dk=some _ by rw [bK d.symm,bK a,bK d.symm];exact a_) l;have i:c≠D:=di (show upd (upd _ c _) o _ c=some _ by rw [bK nt.symm];exact a_) l;rw [bK n.symm,bK i.symm,bK n.symm,bK g.symm,bK n.symm] at l;refine q dk c D _ ⟨v,m,l⟩ a_ ?_ ?_ ?_ a g i fun b u e G=>?_
 ·rw [bK d.symm,bK g,bK d.symm,bK a,bK d.symm];exact a_
 ·rw [bK nt.symm,bK i,bK nt.symm];exact a_
 ·rw [bK n.symm];exact a_
 ·rw [bK G,bK (di e l),bK G,bK (di e m),bK G,bK (di e v),bK G];exact e
end
noncomputable def jW (b:YE) (c:Y1):List (Key×V):=List.zipWith (fun a n=>(Sum.inr n,V.ref a)) b c
def pR (h:b.length=a.length):(jW b a).length=a.length:=by simp [jW,h]
def sS (h:a.length=b.length):jW (a++bs) (b++c)=jW a b++jW bs c:=by unfold jW;rw [List.zipWith_append h]
theorem R1 {b:YE} {c:Y1} {i:Nat} {x:Key×V} (h:(jW b c)[i]?=some x):∃ a n,b[i]?=some a/\c[i]?=some n/\x=(Sum.inr n,V.ref a):=by
 unfold jW at h;rw [List.getElem?_zipWith] at h;cases h1:b[i]? with
 |none=>rw [h1] at h;cases h
 | some t=>
   cases h2:c[i]? with
   |none=>rw [h1,h2] at h;cases h
   |some p=>rw [h1,h2] at h;cases h;exact ⟨t,p,rfl,rfl,rfl⟩
theorem m7:∀ {as:YE} {ns:Y1},n∉ns->mR (jW as ns) (Sum.inr n)=none/\∀ q∈jW as ns,q.1≠Sum.inr n
 |[],ns,_=>by simp [jW,mR]
 |_::_,[],_=>by simp [jW,mR]
 | a::as,m::ns,h=>by
   have c:=m7 (as:=as) (ns:=ns) fun z=>h (aan _ z);have ne:¬ (Sum.inr m:Key)=Sum.inr n:=fun z=>h (by rw [acj z];exact aao ..);refine ⟨?_,fun q b=>?_⟩
   ·show mR ((Sum.inr m,V.ref a)::jW as ns) _=_;rw [mj ne];exact c.1
   ·have b:q∈(Sum.inr m,V.ref a)::jW as ns:=b;rcases aah.mp b with rfl|b
    ·exact ne
    ·exact c.2 q b
def oA {a:List (Key×V)} {k:Key} {v:V} (h:∀ p∈a,p.1≠k):putK a k v=a++[(k,v)]:=by unfold putK;rw [aab];intro z;obtain ⟨p,m,e⟩:=abT.mp z;exact h p m (adc e)
section
variable {K:Zs} {α:Type} {ad:α->Addr} {R Nw:Hp->α->Prop}
structure DQ (ad:α->Addr) (R Nw:Hp->α->Prop) (D:Zl) (sp:Sp):Prop where
 cl:∀ {H a},R H a->∃ dx fs,H (ad a)=some (.ins D dx fs)/\fs.lookup ("twin" : Str)=none
 same:∀ {H H' a},du H H'->R H a->R H' a
 back:∀ {H H' a},du H H'->Nw H' a->Nw H a
 put:∀ {H H1 a acc k k'},Nw H1 a->(∃ u,H1 acc=some u)->H acc=some (.dK k)->R H a->R (upd H acc (.dK k')) a
 tw:∀ {H a} {Q:VK},R H a->(∀ a' H',Nw H a'->du H H'->R H' a'->Q (.ref (ad a')) H')->sp [.ref (ad a)] H Q E0
noncomputable def DQ.walk {D d c:Zl} {o:Obj} {sp:Sp} {w:Hp} {l:List α} {e:Y1} {F:Hp->Prop} (T:DQ ad R Nw D sp) (ha:w c=none) (hd:w d=some (.frz o (.dK (jW (l.map ad) e)))) (hl:l.length=e.length) (h9:e.length≤900) (nd:e.Nodup)
 (hr:∀ a∈l,R w a) (he:∀ (f:Hp) (g:List α),f c=some (.dK (jW (g.map ad) e))->g.length=e.length->(∀ a∈g,R f a/\Nw w a/\∃ p,Nw p a/\∃ u,p c=some u)->(∀ b u,w b=some u->f b=some u)->F f) :
 ∃ W:Nat->Nat->St->Hp->Prop,(∃ m,W 0 m [none,none] (upd w c (.dK [])))/\yr (L2.Itm d o (jW (l.map ad) e)) (Fi K 2 (mV (fH 0) (mV (fH 1) Ff))) uP (iU 0) (m_ D "twin" sp [] E0 (iU 1) iV) c F W:=by
 have kl:(jW (l.map ad) e).length=e.length:=pR (by rw [aag];exact hl);refine yI (fun i s f=>∃ J L g,s=[J,L]/\g.length=i/\f c=some (.dK (jW (g.map ad) (e.take i)))/\(∀ b u,w b=some u->f b=some u)/\∀ a∈g,R f a/\∃ p,Nw p a/\(∃ u,p c=some u)/\∀ b u,w b=some u->p b=some u) ⟨none,none,[],rfl,rfl,a_,fun b u x=>by rw [bK (di x ha)];exact x,fun a h=>by cases h⟩ ?_ ?_ ?_
 ·rintro i s f hi ⟨J,L,g,rfl,A,v,up,C⟩;exact up _ _ hd
 ·rintro i y s f pp hy ⟨J,L,g,rfl,A,v,up,C⟩ Z N hN;obtain ⟨b,n,I,Q,rfl⟩:=R1 hy;rw [aaz] at I;obtain ⟨a,S,rfl⟩:∃ a,l[i]?=some a/\ad a=b:=by
   cases h:l[i]? with
   |none=>rw [h] at I;cases I
   |some a=>rw [h] at I;exact ⟨a,rfl,by simpa using I⟩
  have q:du f (upd f pp (.tup [kV (Sum.inr n),.ref (ad a)])):=du.new Z;have ra:=T.same q (T.same up (hr a (aaq S)));obtain ⟨dx,fs,U,fl⟩:=T.cl ra;refine ⟨pp,_,rfl,gC.of a_,rfl,_,_,rfl,_,_,rfl,rfl,?_⟩;refine ⟨_,rfl,_,rfl,ad a,dx,fs,rfl,U,fl,T.tw ra fun a' H3 E s3 O=>?_⟩;have H:du f H3:=q.trans s3;have il:i<e.length:=(aaQ.mp Q).1;have z:(e.take i).length=i:=by rw [aaJ];omega
  have tks:e.take (i+1)=e.take i++[n]:=by rw [aaX,Q];rfl
  have new:=m7 (as:=g.map ad) (n:=n) (ns:=e.take i) fun m=>by
   obtain ⟨j,X⟩:=aa6.mp m;have jl:j<i:=by have:=(aaQ.mp X).1;omega
   rw [List.getElem?_take_of_lt jl] at X;have:=(adf (i:=j) (j:=i) (by omega) nd).mp (by rw [X,Q]);omega
  have P:∀ b u,w b=some u->upd H3 c (.dK (putK (jW (g.map ad) (e.take i)) (Sum.inr n) (.ref (ad a')))) b=some u:=fun b u x=>by rw [bK (di x ha)];exact H _ _ (up _ _ x)
  refine ⟨_,Sum.inr n,H _ _ v,rfl,?_,hN _ _ ⟨_,_,g++[a'],rfl,by rw [aaD,A];rfl,?_,P,fun u G=>?_⟩⟩
  ·rw [pR (by rw [aag,A,z]),z];exact aar (show i<901 by omega) (by decide)
  ·rw [a_,oA new.2,tks,aaI,sS (by rw [aag,A,z])];rfl
  ·rcases aam.mp G with G|G
   ·obtain ⟨r,p,B,M,Y⟩:=C u G;exact ⟨T.put B M (H _ _ v) (T.same H r),p,B,M,Y⟩
   ·cases aak.mp G;exact ⟨T.put E ⟨_,q _ _ v⟩ (H _ _ v) O,_,E,⟨_,q _ _ v⟩,fun b u x=>q _ _ (up _ _ x)⟩
 ·rintro s f ⟨J,L,g,rfl,A,v,up,C⟩;rw [kl] at A;rw [kl,abj (aae _)] at v;exact he f g v A (fun a m=>⟨(C a m).1,by obtain ⟨_,p,B,_,Y⟩:=C a m;exact T.back Y B,by obtain ⟨_,p,B,M,_⟩:=C a m;exact ⟨p,B,M⟩⟩) up
end
theorem xu (h:TD d):zG d=true:=by
 induction h with
 |str _ _=>rfl
 |int _ _=>rfl
 |nil=>rfl
 | @node f r _ _ _ _ a=>
   have:∀ l:List PyData,(∀ e∈l,zG e=true)->tQ l=true:=fun l=>by
    induction l with
    |nil=>intro _;rfl
    |cons x t b=>intro h;show (zG x && tQ t)=true;rw [h x (aao ..),b fun e m=>h e (aan _ m)];rfl
   show (zG (.str f) && tQ r)=true;rw [this r a];rfl
def U5:List.Nodup (["name","track"]:Y1):=by ext
def V7:List.Nodup (["name","tally"]:Y1):=by ext
def Ob (a b:Int) (c:Bool):Tk:=⟨JH a b c,0,Vs⟩
structure DX where
 pg:Int
 rm:Int
 kn:List (Str×List lU)
 tr:List Str
 ct:List Str
structure SX where
 a:Addr
 dk:Addr
 dt:Addr
 dc:Addr
 ks:List Addr
 ts:List TA
 cs:List (Addr×Addr)
noncomputable def SX.all (s:SX):List Addr:=[s.a,s.dk,s.dt,s.dc]++(s.ts.flatMap TA.all++s.cs.flatMap fun q=>[q.1,q.2])
structure KZ (Z:LC) (C:Zl) (K:Zs) (pg rm:Int) (H:Hp) (t:TA):Prop where
 at_:∃ ov,sy Z C K H t (Ob pg rm ov)
 cs:t.k.cs.length≤900
structure sU (Z:LC) (C S cL:Zl) (K:Zs) (H:Hp) (s:SX) (d:DX):Prop where
 ob:∃ dx,H s.a=some (.ins S dx (yH d.pg d.rm s.dk s.dt s.dc false .non))
 ek:H s.dk=some (.dK (jW s.ks (d.kn.map (·.1))))
 et:H s.dt=some (.dK (jW (s.ts.map (·.a)) d.tr))
 ec:H s.dc=some (.dK (jW (s.cs.map (·.1)) d.ct))
 kn:Pd (fun a p=>(∃ t,ii Z.k H a p.1 t p.2)/\kW p.1 p.2=none/\∀ f∈p.2,uM f) s.ks d.kn
 tr:∀ t∈s.ts,KZ Z C K d.pg d.rm H t
 ct:∀ q∈s.cs,BR cL K H q
 lt:s.ts.length=d.tr.length
 lc:s.cs.length=d.ct.length
 nk:(d.kn.map (·.1)).Nodup/\d.kn.length≤8
 nt:d.tr.Nodup/\d.tr.length≤6
 nc:d.ct.Nodup/\d.ct.length≤4
 pr:pC d.pg d.rm
 n1:s.dk≠s.dt
 n2:s.dk≠s.dc
 n3:s.dt≠s.dc
 ap:∀ q∈s.cs,q.2≠s.dk/\q.2≠s.dt/\q.2≠s.dc
def KZ.same {d:DX} (s:du H b) (h:KZ Z C K d.pg d.rm H t):KZ Z C K d.pg d.rm b t:=by obtain ⟨⟨a,h⟩,c⟩:=h;exact ⟨⟨a,h.same s⟩,c⟩
def BR.same (s:du H l) (h:BR j K H q):BR j K l q:=by obtain ⟨b,x,a,d,c,e,r,f,g,i⟩:=h.ex;exact ⟨b,x,a,d,s _ _ c,s _ _ e,r.same s,f,g,s.tup i⟩
def BR.put (n:q.2≠b) (e:H b=some (.dK k)) (h:BR w K H q):BR w K (upd H b o) q:=by
 obtain ⟨s,x,a,d,l,v,r,m,y,A⟩:=h.ex;have g:∀ {c u},H c=some u->(∀ k,u≠.dK k)->c≠b:=fun i p z=>by rw [z,e] at i;cases i;exact p _ rfl
 have j:∀ a f,gC K H a f->gC K (upd H b o) a f:=fun a f z=>by
  rcases z with (z|⟨B,z⟩)|z
  ·exact .inl (.inl (by rw [bK (g z (by intro k h;cases h))];exact z))
  ·exact .inl (.inr ⟨B,by rw [bK (g z (by intro k h;cases h))];exact z⟩)
  ·exact .inr z
 exact ⟨s,x,a,d,by rw [bK (g l (by intro k h;cases h))];exact l,by rw [bK n];exact v,nZ j r (xu m),m,y,j _ _ A⟩
noncomputable def sU.same (h:sU Z C S g K H s d) (m:du H i):sU Z C S g K i s d:=by obtain ⟨f,e⟩:=h.ob;exact ⟨⟨f,m _ _ e⟩,m _ _ h.ek,m _ _ h.et,m _ _ h.ec,h.kn.map fun a p ⟨⟨t,k⟩,r⟩=>⟨⟨t,k.same m⟩,r⟩,fun t b=>(h.tr t b).same m,fun q c=>(h.ct q c).same m,h.lt,h.lc,h.nk,h.nt,h.nc,h.pr,h.n1,h.n2,h.n3,h.ap⟩
def twT {d:DX} (ne:Hi Z C S) (f:pC d.pg d.rm):DQ TA.a (KZ Z C K d.pg d.rm) qp C (Mf Z C K):=by
 refine ⟨fun {H a} h=>?_,fun s h=>h.same s,fun s n=>n.back s,fun {H y a g k z} _ _ e h=>?_,fun {H a Q} h k=>?_⟩
 ·obtain ⟨⟨b,⟨r,v,e,_⟩,_⟩,_⟩:=h;exact ⟨r,_,e,rfl⟩
 ·obtain ⟨⟨b,h⟩,c⟩:=h;exact ⟨⟨b,h.sd ne (iy.put e (.inl ⟨_,.inl rfl⟩))⟩,c⟩
 ·obtain ⟨⟨b,h⟩,c⟩:=h;exact ⟨a,_,rfl,h,c,by show 1≤900;decide,⟨f.1.1,f.1.2,f.2.1,f.2.2,fun p m=>by cases aak.mp m;intro c x;cases x⟩,fun i j n l s o=>k i j n s ⟨⟨b,o⟩,by rw [l];exact c⟩⟩
noncomputable def ZV:DQ (fun q:Addr×Addr=>q.1) (BR l K) FQ l (Ko l K):=by refine ⟨fun {H a} h=>?_,fun s h=>h.same s,fun s n=>⟨eG s n.a,eG s n.b⟩,fun {H i a b k j} n ⟨u,c⟩ e h=>h.put (di c n.b).symm e,fun {H a Q} h k=>⟨a,rfl,h,k⟩⟩;obtain ⟨f,x,a,d,g,_⟩:=h.ex;exact ⟨f,_,g,rfl⟩
def PQ (H:Hp) (s:SX):Prop:=∀ b∈s.all,H b=none
def PQ.of (a:H s.a=none) (k:H s.dk=none) (t:H s.dt=none) (c:H s.dc=none) (g:∀ t∈s.ts,qp H t) (cs:∀ q∈s.cs,FQ H q):PQ H s:=fun b m=>by
 rcases aam.mp m with m|m
 ·simp only [aah,aa2,or_false] at m;rcases m with rfl|rfl|rfl|rfl <;> assumption
 ·rcases aam.mp m with m|m
  ·obtain ⟨t,f,d⟩:=aa0.mp m;exact (g t f).all b d
  ·obtain ⟨q,e,d⟩:=aa0.mp m;simp only [aah,aa2,or_false] at d;rcases d with rfl|rfl
   ·exact (cs q e).a
   ·exact (cs q e).b
section
variable {P:ZB} {w:ZE} {K:Zs} {mg:ZY} {base:ZI} {Z:LC} {C S cL cT cK cZ:Zl}
inductive Rx (Z:LC) (C S cL:Zl) (K:Zs) (vs:List V) (H:Hp) (Q:VK) (E:XK):Prop
 |mk (s:SX) (d:DX):vs=[.ref s.a]->sU Z C S cL K H s d->(∀ s' H',PQ H s'->du H H'->sU Z C S cL K H' s' d->Q (.ref s'.a) H')->Rx Z C S cL K vs H Q E
def VP:dC ["self","other"] ["self"] (b_ (sM 5)):=by ext
noncomputable def Vc (F:iM K "twin" "Stand.twin" (sM 5) f fd) (SZ:SZ K mg S) (TZ:TZ K mg C) (YZ:V8 K mg cL) (ne:Hi Z C S) (nY:cL≠S) (MkS:Mk K S fI) (bI:Binds K fdI ["self","pages","room"] []) (GI:dw P w K mg base (jt P w) 5 fI fdI ["self","pages","room"] (Ed S cZ)) (MT:MD K C "twin" "Track.twin" (tM 2) ["self"] fT fdT) (GT:dw P w K mg base fG 11 fT fdT ["self"] (Mf Z C K))
 (MY:MD K cL "twin" "Tally.twin" (yM 4) ["self"] fY fdY) (GY:dw P w K mg base fG 14 fY fdY ["self"] (Ko cL K)):dw P w K mg base fG 15 f fd ["self"] (Rx Z C S cL K):=by
 refine F.ok VP (by ext) fun ao A ap s H vs Q E hr h=>?_;obtain ⟨j,d,rfl,D,q⟩:=h;have aw:eX 6 _:=hr.mono (by decide);refine ⟨_,(d7 (jD 1 VP.nd (km (E:=fun _ _ _=>False) MkS GI aw rfl SZ.mg bI .nil tu (aK (dN (pv 0) rfl) (aK (dN (pv 0) rfl) d9)))) (d7 (dO (pv 1) (gQ rO (by rfl) SZ.dict Ea (aK (dN (pv 0) rfl) d9)) rfl) (d7 (dO (pv 1) (zY (yG (g:=Fi K 2 (mV (fH 0) (mV (fH 1) Ff))) (own:=["name","track"]) (js:=[]) (N':=["name","track"]) (eN.of (osc:=b_ (sM 5)) (N:=["self","other"]) rfl rfl (by ext)) rfl (zq (z_ adb PySem.F.type_dict_items uV (dN (pv 0) (by rfl)))) (fun _ _ _ _ _=>(jT rfl (eU (gn (i:=0) U5 rfl (.inl rfl) (.inr rfl)) (eU (gn (i:=1) U5 rfl (.inl rfl) (.inr rfl)) jg)))) (fun _ _ _ _ _=>gH) (fun _ _ _ _ _=>pv 0) (fun _ _ _ _ _=>gq (E:=E0) (pv 1) TZ.c MT.M GT (hr.mono (by decide)) MT.b .nil dU))) rfl) (d7 (dO (pv 1) (zY (yG (g:=Fi K 2 (mV (fH 0) (mV (fH 1) Ff))) (own:=["name","tally"]) (js:=[]) (N':=["name","tally"]) (eN.of (osc:=b_ (sM 5)) (N:=["self","other"]) rfl rfl (by ext)) rfl (zq (z_ adb PySem.F.type_dict_items uV (dN (pv 0) (by rfl)))) (fun _ _ _ _ _=>(jT rfl (eU (gn (i:=0) V7 rfl (.inl rfl) (.inr rfl)) (eU (gn (i:=1) V7 rfl (.inl rfl) (.inr rfl)) jg)))) (fun _ _ _ _ _=>gH) (fun _ _ _ _ _=>pv 0) (fun _ _ _ _ _=>gq (E:=E0) (pv 1) YZ.c MY.M GY (hr.mono (by decide)) MY.b .nil dU))) rfl) (d7 (dO (pv 1) (dN (pv 0) rfl) rfl) (d7 (dO (pv 1) (dN (pv 0) rfl) rfl) (dj (dX (pv 1))))))))),?_⟩;obtain ⟨dx,e⟩:=D.ob;have ek:=D.ek;have et:=D.et;have X:=D.ec;have tx:∀ i:Int,2≤i->i≤16->xJ i:=fun i a b=>⟨by simp only [ni];omega,by simp only [ni];omega⟩;have pr:=D.pr;refine ⟨_,rfl,j.a,S,dx,_,_,rfl,e,SZ.c,SZ.s1,rfl,_,rfl,j.a,S,dx,_,_,rfl,e,SZ.c,SZ.s2,rfl,fun x l hx ar aA=>?_⟩;refine ⟨x,l,d.pg,d.rm,rfl,a_,tx _ pr.1.1 pr.1.2,tx _ (by have:=pr.2.1;omega) (by have:=pr.2.2;omega),fun _ nk nt J H1 nd e1 k1 t1 c1 m1 m2 m3 kp=>⟨rfl,?_⟩,fun z=>absurd pr z⟩;have s1:du H H1:=fQ hx ar kp;have nx:∀ {b u},H b=some u->b≠x:=fun B=>di B hx;refine ⟨_,rfl,j.a,S,dx,_,_,rfl,s1 _ _ e,SZ.c,SZ.s3,rfl,j.dk,_,rfl,s1 _ _ ek,fun p hp=>?_⟩;have af:x≠p:=di e1 hp;refine ⟨_,rfl,x,S,l,yH d.pg d.rm nk nt J false .non,rfl,(by rw [bK af];exact e1),SZ.c,SZ.s3,(show 7<1000 by decide),?_⟩;generalize h2:upd (upd H1 p (.dK (jW j.ks (d.kn.map (·.1))))) x (.ins S l (gG "known" (.ref p) (yH d.pg d.rm nk nt J false .non)))=H2;have s2:du H H2:=fun b u B=>by rw [← h2,bK (nx B),bK (di (s1 _ _ B) hp)];exact s1 _ _ B
 have x2:H2 x=some (.ins S l (yH d.pg d.rm p nt J false .non)):=by rw [← h2];exact a_
 have p2:H2 p=some (.dK (jW j.ks (d.kn.map (·.1)))):=by rw [← h2,bK af.symm];exact a_
 have ai:H p=none:=eG s1 hp;clear h2;have aj:∀ {G GF:Hp} {b:Zl} {o:Obj} {kv:List (Key×V)},G b=some (.dK kv)->GF=upd G b (.frz o (.dK kv))->GF b=some (.frz o (.dK kv))/\(∀ c u,G c=some u->c≠b->GF c=some u)/\∀ {c},GF c=none->G c=none:=fun {G GF b o kv} B h=>by
  refine ⟨by rw [h];exact a_,fun c u X Y=>by rw [h,bK Y];exact X,fun {c} hc=>?_⟩;by_cases z:c=b
  ·rw [h,z,a_] at hc;cases hc
  ·rw [h,bK z] at hc;exact hc
 refine ⟨j.dt,_,s2 _ _ et,fun o=>?_⟩;generalize hF:upd H2 j.dt (.frz o (.dK (jW (j.ts.map (·.a)) d.tr)))=HF;obtain ⟨dF,f2,nF⟩:=aj (s2 _ _ et) hF.symm;have eF:HF j.a=some (.ins S dx (yH d.pg d.rm j.dk j.dt j.dc false .non)):=f2 _ _ (s2 _ _ e) (iJ e et (by intro z;cases z));refine ⟨_,rfl,j.a,S,dx,_,_,rfl,eF,SZ.c,SZ.s4,rfl,⟨j.dt,o,_,rfl,dF⟩,j.dt,o,_,rfl,rfl,dF,fun vw hw=>?_⟩;refine ⟨vw,j.dt,o,_,rfl,a_,du.new hw _ _ dF,fun y ha=>?_⟩;generalize hV:upd HF vw (zP vw j.dt)=HV at ha ⊢;have O:du HF HV:=by rw [← hV];exact du.new hw
 have ag:H2 y=none:=nF (eG O ha);have ak:∀ t∈j.ts,KZ Z C K d.pg d.rm HV t:=fun t m=>by obtain ⟨⟨ov,h⟩,c⟩:=(D.tr t m).same s2;exact KZ.same O ⟨⟨ov,h.sd ne (by rw [← hF];exact iy.put (s2 _ _ et) (.inl ⟨_,.inl rfl⟩))⟩,c⟩
 refine (twT ne pr).walk ha (O _ _ dF) D.lt (aaj D.nt.2 (by decide)) D.nt.1 ak fun H' aa ea l' rt up=>?_;have dH:H' j.dt=some (.frz o (.dK (jW (j.ts.map (·.a)) d.tr))):=up _ _ (O _ _ dF);refine ⟨dH,?_⟩;have xT:x≠j.dt:=(nx et).symm;have xH:H' x=some (.ins S l (yH d.pg d.rm p nt J false .non)):=up _ _ (O _ _ (f2 _ _ x2 xT));refine ⟨_,rfl,x,S,l,yH d.pg d.rm p nt J false .non,rfl,(by rw [bK xT];exact xH),SZ.c,SZ.s4,(show 7<1000 by decide),?_⟩;generalize h4:upd (upd H' j.dt (.dK (jW (j.ts.map (·.a)) d.tr))) x (.ins S l (gG "tracks" (.ref y) (yH d.pg d.rm p nt J false .non)))=I;have L:du H I:=fun b u B=>by
  rw [← h4,bK (nx B)];by_cases z:b=j.dt
  ·subst z;rw [a_];rw [et] at B;exact B
  ·rw [bK z];exact up _ _ (O _ _ (f2 _ _ (s2 _ _ B) z))
 have x4:I x=some (.ins S l (yH d.pg d.rm p y J false .non)):=by rw [← h4];exact a_
 have px:p≠x:=af.symm;have pT:p≠j.dt:=(di et ai).symm;have p4:I p=some (.dK (jW j.ks (d.kn.map (·.1)))):=by rw [← h4,bK px,bK pT];exact up _ _ (O _ _ (f2 _ _ p2 pT))
 have ax:y≠x:=(di x2 ag).symm;have aT:y≠j.dt:=(di (O _ _ dF) ha).symm;have a4:I y=some (.dK (jW (aa.map (·.a)) d.tr)):=by rw [← h4,bK ax,bK aT];exact ea
 have d4:iy S H' I:=by rw [← h4];exact (iy.put dH (.inl ⟨_,.inr ⟨_,rfl⟩⟩)).trans (iy.put (show upd H' j.dt _ x=some _ by rw [bK xT];exact xH) (.inr ⟨_,_,rfl⟩))
 have al:∀ t∈aa,KZ Z C K d.pg d.rm I t/\qp H t:=fun t m=>by obtain ⟨⟨ov,h⟩,c⟩:=(rt t m).1;have n:=(rt t m).2.1;have up:∀ {b},HV b=none->H b=none:=fun h=>eG s2 (nF (eG O h));exact ⟨⟨⟨ov,h.sd ne d4⟩,c⟩,⟨up n.a,fun b h=>up (n.k.o b h),fun b h=>up (n.k.l b h)⟩⟩
 clear h4 d4 rt ak hF hV ha dH xH ea;refine ⟨j.dc,_,L _ _ X,fun o2=>?_⟩;generalize hG:upd I j.dc (.frz o2 (.dK (jW (j.cs.map (·.1)) d.ct)))=G;obtain ⟨dG,g4,nG⟩:=aj (L _ _ X) hG.symm;refine ⟨_,rfl,j.a,S,dx,_,_,rfl,g4 _ _ (L _ _ e) (iJ e X (by intro z;cases z)),SZ.c,SZ.s5,rfl,⟨j.dc,o2,_,rfl,dG⟩,j.dc,o2,_,rfl,rfl,dG,fun ab ah=>?_⟩;refine ⟨ab,j.dc,o2,_,rfl,a_,du.new ah _ _ dG,fun v hb=>?_⟩;generalize hW:upd G ab (zP ab j.dc)=W at hb ⊢;have R:du G W:=by rw [← hW];exact du.new ah
 have T:I v=none:=nG (eG R hb);have bC:v≠j.dc:=(di (R _ _ dG) hb).symm;have bx:v≠x:=(di x4 T).symm;have xC:x≠j.dc:=(nx X).symm;have ay:∀ q∈j.cs,BR cL K W q:=fun q m=>BR.same R (by rw [← hG];exact ((D.ct q m).same L).put (D.ap q m).2.2 (L _ _ X));refine ZV.walk (ad:=fun q:Addr×Addr=>q.1) hb (R _ _ dG) D.lc (aaj D.nc.2 (by decide)) D.nc.1 ay fun H5 ac au av rc ae=>?_;have xW:H5 x=some (.ins S l (yH d.pg d.rm p y J false .non)):=ae _ _ (R _ _ (g4 _ _ x4 xC));have dW:=ae _ _ (R _ _ dG);refine ⟨dW,?_⟩;refine ⟨_,rfl,x,S,l,yH d.pg d.rm p y J false .non,rfl,(by rw [bK xC];exact xW),SZ.c,SZ.s5,(show 7<1000 by decide),?_⟩;generalize h6:upd (upd H5 j.dc (.dK (jW (j.cs.map (·.1)) d.ct))) x (.ins S l (gG "counters" (.ref v) (yH d.pg d.rm p y J false .non)))=M;have U:∀ b u,I b=some u->b≠x->M b=some u:=fun b u B Y=>by
  rw [← h6,bK Y];by_cases z:b=j.dc
  ·subst z;rw [a_,← L _ _ X];exact B
  ·rw [bK z];exact ae _ _ (R _ _ (g4 _ _ B z))
 have s6:du H M:=fun b u B=>U b u (L _ _ B) (nx B);have x6:M x=some (.ins S l (yH d.pg d.rm p y v false .non)):=by rw [← h6];exact a_
 have b6:M v=some (.dK (jW (ac.map (·.1)) d.ct)):=by rw [← h6,bK bx,bK bC];exact au
 have c6:∀ q∈ac,BR cL K M q/\FQ I q/\q.2≠v:=fun q m=>by
  obtain ⟨r,n,H7,n7,u7,e7⟩:=rc q m;have n4:FQ I q:=⟨nG (eG R n.a),nG (eG R n.b)⟩;refine ⟨?_,n4,(di e7 n7.b).symm⟩;rw [← h6];obtain ⟨dq,xq,aq,az,q1,q2,rq,td,tb,sq⟩:=r.ex;have Y:∀ {c u},H5 c=some u->(∀ o k,u≠.frz o (.dK k))->(∀ fs,u≠.ins S l fs)->upd (upd H5 j.dc (.dK (jW (j.cs.map (·.1)) d.ct))) x (.ins S l (gG "counters" (.ref v) (yH d.pg d.rm p y J false .non))) c=some u:=fun {c u} B h1 h2=>by rw [bK (fun z=>by rw [z,xW] at B;cases B;exact h2 _ rfl),bK (fun z=>by rw [z,dW] at B;cases B;exact h1 _ _ rfl)];exact B
  have am:∀ a xs,gC K H5 a xs->gC K _ a xs:=fun a xs z=>by
   rcases z with (z|⟨o',z⟩)|z
   ·exact .inl (.inl (Y z (by intro o k h;cases h) (by intro fs h;cases h)))
   ·exact .inl (.inr ⟨o',Y z (by intro o k h;cases h) (by intro fs h;cases h)⟩)
   ·exact .inr z
  exact ⟨dq,xq,aq,az,Y q1 (by intro o k h;cases h) (by intro fs h;cases h;exact nY rfl),Y q2 (by intro o k h;cases h) (by intro fs h;cases h),nZ am rq (xu td),td,tb,am _ _ sq⟩
 refine ⟨_,rfl,j.a,S,dx,_,_,rfl,s6 _ _ e,SZ.c,SZ.s6,rfl,_,rfl,x,S,l,_,rfl,x6,SZ.c,SZ.s6,(show 7<1000 by decide),?_⟩;refine ⟨_,rfl,j.a,S,dx,_,_,rfl,(by rw [bK (nx e)];exact s6 _ _ e),SZ.c,SZ.s7,rfl,_,rfl,x,S,l,_,rfl,a_,SZ.c,SZ.s7,(show 7<1000 by decide),?_⟩;rw [g_];have h7:upd M x (.ins S l (yH d.pg d.rm p y v false .non))=M:=funext fun b=>by
  by_cases z:b=x
  ·rw [z,a_,x6]
  ·rw [bK z]
 refine ⟨_,rfl,?_⟩;show Q (.ref x) (upd M x (.ins S l (yH d.pg d.rm p y v false .non)));rw [h7];have d6:iy S I M:=fun b u B n=>U b u B (fun z=>n (by subst z;rw [x4] at B;cases B;exact .inr ⟨_,_,rfl⟩));refine q ⟨x,p,y,v,j.ks,aa,ac⟩ M (.of hx ai (eG s2 ag) (eG L T) (fun t m=>(al t m).2) fun q m=>⟨eG L (c6 q m).2.1.a,eG L (c6 q m).2.1.b⟩) s6 ⟨⟨l,x6⟩,U _ _ p4 px,U _ _ a4 ax,b6,D.kn.map fun _ _ ⟨⟨t,k⟩,r⟩=>⟨⟨t,k.same s6⟩,r⟩,fun t m=>?_,fun q m=>(c6 q m).1,l',av,D.nk,D.nt,D.nc,pr,di p2 ag,di p4 T,di a4 T,fun q m=>⟨(di p4 (c6 q m).2.1.b).symm,(di a4 (c6 q m).2.1.b).symm,(c6 q m).2.2⟩⟩;obtain ⟨⟨ov,h⟩,c⟩:=(al t m).1;exact ⟨⟨ov,h.sd ne d6⟩,c⟩
end
def Rf (d:Str->Addr) (E:XK) (H:Hp) (wd:Str):Prop:=∀ a b c,du H a->jE a [("word",.str wd)] b c->E (.ref (d wd)) (some b) c
def Rf.up {a:Str->Addr} {E:XK} {H b:Hp} {wd:Str} (s:du H b) (h:Rf a E H wd):Rf a E b wd:=fun c d e f t=>h c d e (s.trans f) t
noncomputable def lJ (nm:Str) (a:Y1):Option Str:=if nameB nm=true then (if nm∈a then some "taken" else none) else some "badname"
noncomputable def qg (nm:Str) (fs:List lU) (d:DX):Option Str:=(lJ nm (d.kn.map (·.1))).or (if d.kn.length<8 then (kW nm fs).map uq else some "full")
noncomputable def uL (nm:Str) (d:DX):Option Str:=(lJ nm d.tr).or (if d.tr.length<6 then none else some "full")
noncomputable def rR (nm:Str) (e:PyData) (a:Y1) (d:DX):Option Str:=(lJ nm d.ct).or (((pJ e a 16).map X3).or (if d.ct.length<4 then none else some "full"))
section
variable {P:ZB} {w:ZE} {K:Zs} {mg:ZY} {base:ZI} {Z:LC} {C S cL:Zl} {H H' H'':Hp} {cw:Str->Addr}
theorem Cw:∀ {c:YE} {b:Y1},c.length=b.length->nm∈b->∃ v,mR (jW c b) (Sum.inr nm)=some v
 |_::_,[],_,h=>by cases h
 |[],_::_,l,_=>by simp at l
 | a::c,n::b,l,h=>by
   show ∃ v,mR ((Sum.inr n,V.ref a)::jW c b) _=some v;by_cases e:n=nm
   ·subst e;exact ⟨_,nP rfl⟩
   ·rw [mj (fun z=>e (acj z))];exact Cw (by simpa using l) ((aah.mp h).resolve_left fun z=>e z.symm)
inductive ut (cw:Str->Addr) (vs:List V) (H:Hp) (Q:VK) (E:XK):Prop
 |mk (nm:Str) (a:Zl) (as:YE) (ns:Y1):vs=[.str nm,.ref a]->ju nm->nm.length≤40->H a=some (.dK (jW as ns))->as.length=ns.length->(lJ nm ns=none->Q .non H)->(∀ wd,lJ nm ns=some wd->Rf cw E H wd)->ut cw vs H Q E
def Wg:dC ["name","borne"] ["name","borne"] (b_ (top 91)):=by ext
noncomputable def NZ (F:iM K "need_new" "need_new" (top 91) f R) (y:gK K mg "need_name" (top 28) ["text"] N j) (GN:dw P w K mg base (jt P w) 5 N j ["text"] (yD (cw "badname"))) (c:nH K mg "Taken" (cw "taken") O l) (GT:dw P w K mg base fG 2 O l ["self","words"] (uK K "taken")):dw P w K mg base (jt P w) 6 f R ["name","borne"] (ut cw):=by
 refine F.ok1 Wg (by ext) fun n A o s H vs Q E p h=>?_;obtain ⟨nm,a,J,Y,rfl,L,nl,ha,al,q,d⟩:=h;have U:=tY p;have r:eX 3 _:=p.mono (by decide);refine ⟨_,(d7 (dZ (eY (E:=E) GN p rfl y.mg y.F.kp y.b .nil (iZ fun _ _ _ h=>h) (aK (pv 0) d9))) (dj (fX (PB (Qj U (pv 0) (pv 1))) (dj (iC (B:="ValueError") (newId:="ValueError.__new__") (W:=E) (iD (E:=E0) aa3 c.e.x c.i c.n GT r (by rfl) c.mg c.b .nil dU (aK (jj (j4 (pv 0) (ir jP))) d9)) rfl rfl (fun z σ D s' e cls dd I x q=>Gd I x q))) eE))),?_⟩;unfold lJ at q d;refine ⟨_,rfl,nm,rfl,by omega,zK L (by omega),kJ L (by omega),?_⟩;by_cases M:nameB nm=true
 ·rw [aac M] at q d ⊢;have g:=o6.k (k:=Sum.inr nm) ha;by_cases m:nm∈Y
  ·rw [aac m] at d;obtain ⟨v,hv⟩:=Cw al m;rw [hv] at g;have X:((" is borne already" : Str)).length=17:=by ext
   have big:200000≤sizeLine:=by decide
   refine ⟨_,rfl,_,rfl,a,_,rfl,g,_,rfl,iY rfl ?_⟩;refine ⟨_,rfl,nm,.inl ⟨rfl,by omega⟩,?_,?_,?_,fun e G=>⟨e,cw "taken",_,rfl,c.e,a_,fun i b=>⟨rfl,e,cw "taken",some i,rfl,?_,G,c.e.x,d _ rfl H i _ (du.refl _) (iw G b)⟩⟩⟩
   all_goals (try rw [abm])
   all_goals (try (first|lia|(simp only [aaL,X];lia)))
   have ne:e≠i:=fun q=>by subst q;rw [a_] at b;cases b
   rw [bK ne,a_]
  ·rw [aab m] at q;rw [(m7 (as:=J) m).1] at g;exact ⟨_,rfl,_,rfl,a,_,rfl,g,_,rfl,iK rfl (q rfl)⟩
 ·rw [aab M] at d ⊢;exact fun i D T=>d _ rfl H i D (du.refl _) T
inductive uh (cw:Str->Addr) (vs:List V) (H:Hp) (Q:VK) (E:XK):Prop
 |mk (a:Zl) (kvs:List (Key×V)) (m:Int):vs=[.ref a,.int m]->H a=some (.dK kvs)->0≤m->m≤100->((kvs.length:Int)<m->Q .non H)->(¬ (kvs.length:Int)<m->Rf cw E H "full")->uh cw vs H Q E
def Vr:dC ["things","most"] ["things","most"] (b_ (top 92)):=by ext
noncomputable def NT (F:iM K "need_fewer" "need_fewer" (top 92) f n) (T:Txt K mg) (b:nH K mg "Full" (cw "full") l c) (D:dw P w K mg base fG 2 l c ["self","words"] (uK K "full")):dw P w K mg base (jt P w) 4 f n ["things","most"] (uh cw):=by refine F.ok1 Vr (by ext) fun o A d s H vs Q E p h=>?_;obtain ⟨a,g,m,rfl,y,L,M,q,z⟩:=h;refine ⟨_,(dj (fX (d_ Oj (dJ Gh (by rfl) T.len gB (aK (pv 0) d9)) (pv 1) (eV _)) (dj (iC (B:="ValueError") (newId:="ValueError.__new__") (W:=E) (iD (E:=E0) aa3 b.e.x b.i b.n D p (by rfl) b.mg b.b .nil dU (aK (jj (ir (j4 (pv 1) (ir jP)))) d9)) rfl rfl (fun i G j J e cls dd I x q=>Gd I x q))) eE)),?_⟩;refine ⟨_,rfl,a,g,rfl,y,_,rfl,_,_,rfl,rfl,_,rfl,qW (fun h=>?_) (fun h=>q (by simpa using h))⟩;exact q9 (wd:="full") (qy.txt (m:=100) (by ext) (qy.int (j7.var rfl) (oh (by simp only [ni];omega) (by simp only [ni];omega)) (qy.txt (m:=100) (by ext) qy.nil))) (by decide) b.e (du.refl _) (fun r j v=>z (by simp at h;omega) H r j (du.refl _) v)
structure WR (s:SX) (H H':Hp) (s':SX):Prop where
 a:s'.a=s.a
 k:s'.dk=s.dk
 t:s'.dt=s.dt
 c:s'.dc=s.dc
 sub:∀ b∈s'.all,b∈s.all∨H b=none
 kp:∀ b u,H b=some u->b≠s.dk->b≠s.dt->b≠s.dc->H' b=some u
noncomputable def sU.na (h:sU Z C S cL K H s d):s.a≠s.dk/\s.a≠s.dt/\s.a≠s.dc:=by obtain ⟨a,e⟩:=h.ob;exact ⟨fun z=>by (have:=h.ek;rw [← z,e] at this;cases this),fun z=>by (have:=h.et;rw [← z,e] at this;cases this),fun z=>by (have:=h.ec;rw [← z,e] at this;cases this)⟩
def sU.upd (h:sU Z C S cL K H s d) (ne:Hi Z C S) (e:H b=some (.dK k)) (i:∀ q∈s.cs,q.2≠b) :
 Pd (fun a p=>(∃ t,ii Z.k (L2.upd H b (.dK k')) a p.1 t p.2)/\kW p.1 p.2=none/\∀ f∈p.2,uM f) s.ks d.kn/\(∀ t∈s.ts,KZ Z C K d.pg d.rm (L2.upd H b (.dK k')) t)/\∀ q∈s.cs,BR cL K (L2.upd H b (.dK k')) q:=by
 have sd:iy S H (L2.upd H b (.dK k')):=iy.put e (.inl ⟨_,.inl rfl⟩);refine ⟨h.kn.map fun a p ⟨⟨t,k⟩,r⟩=>⟨⟨t,k.kt (sd.kt ne.k)⟩,r⟩,fun t m=>?_,fun q m=>(h.ct q m).put (i q m) e⟩;obtain ⟨⟨g,h⟩,c⟩:=h.tr t m;exact ⟨⟨g,h.sd ne sd⟩,c⟩
set_option tactic.hygienic true in
def qP (h:lJ nm a=none):nameB nm=true/\nm∉a:=by
 unfold lJ at h;split at h
 ·rename_i b;split at h
  ·cases h
  ·rename_i c;exact ⟨b,c⟩
 ·cases h
def pK {c:Type} {l:List c} {a:c} (h:l.Nodup) (n:a∉l):(l++[a]).Nodup:=
 abn.mpr ⟨h,by simp,fun x m y b z=>by rw [aak] at b;subst b;subst z;exact n m⟩
def SX.all_of {s d:SX} (a:d.a=s.a) (k:d.dk=s.dk) (t:d.dt=s.dt) (c:d.dc=s.dc) (i:∀ t∈d.ts,t∈s.ts∨∀ b∈t.all,H b=none) (cs:∀ q∈d.cs,q∈s.cs∨FQ H q):∀ b∈d.all,b∈s.all∨H b=none:=fun b m=>by
 unfold SX.all at m ⊢;rw [a,k,t,c] at m;rcases aam.mp m with m|m
 ·exact .inl (aaG _ m)
 ·rcases aam.mp m with m|m
  ·obtain ⟨t,f,e⟩:=aa0.mp m;rcases i t f with h|h
   ·exact .inl (aau _ (aaG _ (aa0.mpr ⟨t,h,e⟩)))
   ·exact .inr (h b e)
  ·obtain ⟨q,g,e⟩:=aa0.mp m;rcases cs q g with h|h
   ·exact .inl (aau _ (aau _ (aa0.mpr ⟨q,h,e⟩)))
   ·simp only [aah,aa2,or_false] at e;rcases e with rfl|rfl
    ·exact .inr h.a
    ·exact .inr h.b
end
structure My (mg:ZY):Prop where
 k:∃ t,mg "MOST_KINDS" = some (.int 8 t)
 t:∃ t,mg "MOST_TRACKS" = some (.int 6 t)
 y:∃ t,mg "MOST_TALLIES" = some (.int 4 t)
section
variable {P:ZB} {w:ZE} {K:Zs} {mg:ZY} {base:ZI} {Z:LC} {C S cL:Zl} {H H' H'':Hp} {cw:Str->Addr}
theorem Lj:V4 (cw "badname") (cw "taken") (cw "badbounds") (cw "full") i=cw (uq i):=by
 match i with
 |0=>rfl
 |1=>rfl
 |2=>rfl
 |_+3=>rfl
inductive DG (Z:LC) (C S cL:Zl) (K:Zs) (cw:Str->Addr) (vs:List V) (H:Hp) (Q:VK) (E:XK):Prop
 |mk (s:SX) (d:DX) (h fa:Zl) (nm:Str) (xs:List V) (fs:List lU):vs=[.ref s.a,.ref h]->gC K H h [.str nm,.ref fa]->sU Z C S cL K H s d->ju nm->nm.length≤40->H fa=some (.tup xs)->Paired (iG H) xs fs->fs.length≤100->(∀ f∈fs,uM f)->(qg nm fs d=none->∀ s' H',sU Z C S cL K H' s' { d with kn:=d.kn++[(nm,fs)] }->WR s H H' s'->Q .non H')->(∀ wd,qg nm fs d=some wd->Rf cw E H wd)->DG Z C S cL K cw vs H Q E
def RB:dC ["stand","handed","name","fields"] ["stand","handed"] (b_ (top 95)):=by ext
def QS (F:iM K "do_kind" "do_kind" (top 95) f fd) (TS:My mg) (L:LZ K mg Z) (SZ:SZ K mg S) (ne:Hi Z C S)
 (X:gK K mg "need_new" (top 91) ["name","borne"] fN z) (GN:dw P w K mg base (jt P w) 6 fN z ["name","borne"] (ut cw)) (Y:gK K mg "need_fewer" (top 92) ["things","most"] fF B) (GF:dw P w K mg base (jt P w) 4 fF B ["things","most"] (uh cw))
 (MkK:Mk K Z.k fI) (GI:dw P w K mg base (jt P w) 7 fI D ["self","name","fields"] (sH Z.k (cw "badname") (cw "taken") (cw "badbounds") (cw "full"))) (bI:Binds K D ["self","name","fields"] []):dw P w K mg base (jt P w) 9 f fd ["stand","handed"] (DG Z C S cL K cw):=by
 refine F.ok1 RB (by ext) fun o A M s H vs Q E G h=>?_;obtain ⟨c,d,h,fa,nm,xs,fs,rfl,sq,g,U,nl,W,pf,fl,fo,q,n⟩:=h;have hu:=tY G;have N:eX 6 _:=G.mono (by decide);have O:eX 4 _:=G.mono (by decide);obtain ⟨tk,mk⟩:=TS.k;refine ⟨_,(d7 (pF (pv 1) (jT rfl (eU (rZ 2 RB.nd) (eU (rZ 3 RB.nd) jg)))) (d7 (dZ (eY (E:=E) GN N rfl X.mg X.F.kp X.b .nil (iZ fun _ _ _ h=>h) (aK (pv 2) (aK (dN (pv 0) rfl) d9)))) (d7 (dZ (eY (E:=E) GF O rfl Y.mg Y.F.kp Y.b .nil (iZ fun _ _ _ h=>h) (aK (dN (pv 0) rfl) (aK (e_ (v:=.int 8) rfl mk ⟨_,rfl⟩) d9)))) (dj (lH hu (dN (pv 0) rfl) (pv 2) (km (E:=E) MkK GI G rfl L.kc.mg bI .nil (iZ fun _ _ _ h=>h) (aK (pv 2) (aK (pv 3) d9))) rfl))))),?_⟩;obtain ⟨dx,e⟩:=g.ob;have R:c.ks.length=(d.kn.map (·.1)).length:=by rw [aag];exact g.kn.len
 have kl:(jW c.ks (d.kn.map (·.1))).length=d.kn.length:=by rw [pR R,aag]
 unfold qg at q n;refine ⟨_,rfl,h,_,rfl,sq,rfl,_,_,rfl,_,_,rfl,rfl,?_⟩;refine ⟨_,rfl,_,rfl,c.a,S,dx,_,_,rfl,e,SZ.c,SZ.s3,rfl,nm,c.dk,_,_,rfl,U,nl,g.ek,R,fun I=>?_,fun wd I=>n wd (by rw [I];rfl)⟩;rw [I,abx] at q n;refine ⟨_,rfl,c.a,S,dx,_,_,rfl,e,SZ.c,SZ.s3,rfl,c.dk,_,8,rfl,g.ek,by decide,by decide,fun h2=>?_,fun h2=>n _ (by rw [aab (by omega)])⟩;rw [aac (by omega)] at q n;obtain ⟨nn,y⟩:=qP I;refine ⟨_,rfl,_,rfl,fun x j hx p aa=>?_⟩;have T:du H (upd (upd H j (.own x)) x (.ins Z.k j [])):=fQ hx p (fun b u e _=>e);refine ⟨x,j,fa,nm,xs,fs,rfl,a_,by omega,zK U (by omega),kJ U (by omega),T _ _ W,gF pf (du.kt (Z:=Z) T).tk,fl,fo,fun J l ka k1=>⟨rfl,?_⟩,fun i J l da H' s3 th=>?_⟩
 rotate_left
 ·rw [Lj];exact n _ (by rw [J];rfl) l da H' (T.trans s3) th
 have s1:du H l:=fQ hx p k1;have a:=g.same s1;obtain ⟨d1,e1⟩:=a.ob;refine ⟨_,rfl,c.a,S,d1,_,_,rfl,e1,SZ.c,SZ.s3,rfl,_,rfl,c.dk,_,rfl,su.k (k:=Sum.inr nm) a.ek (by rw [kl];exact aar (show d.kn.length<8 by omega) (by decide)),?_⟩;rw [oA (m7 y).2];obtain ⟨pk,pt,pc⟩:=a.upd (k':=jW c.ks (d.kn.map (·.1))++[(Sum.inr nm,.ref x)]) ne a.ek fun q m=>(a.ap q m).1;have sd:iy S l (upd l c.dk (.dK (jW c.ks (d.kn.map (·.1))++[(Sum.inr nm,.ref x)]))):=iy.put a.ek (.inl ⟨_,.inl rfl⟩);have r:(d.kn++[(nm,fs)]).map (·.1)=d.kn.map (·.1)++[nm]:=by rw [aaI];rfl
 refine q (by rw [J];rfl) ⟨c.a,c.dk,c.dt,c.dc,c.ks++[x],c.ts,c.cs⟩ _ ⟨⟨d1,by rw [bK a.na.1];exact e1⟩,?_,by rw [bK a.n1.symm];exact a.et,by rw [bK a.n2.symm];exact a.ec,Pd.app (.cons ⟨⟨fa,ka.kt (sd.kt ne.k)⟩,J,fo⟩ .nil) pk,pt,pc,g.lt,g.lc,⟨by rw [r];exact pK g.nk.1 y,by rw [aaD];show d.kn.length+1≤8;omega⟩,g.nt,g.nc,g.pr,g.n1,g.n2,g.n3,g.ap⟩ ⟨rfl,rfl,rfl,rfl,fun b m=>.inl m,fun b u eb n1 _ _=>by rw [bK n1];exact s1 _ _ eb⟩;show upd l c.dk _ c.dk=some (.dK (jW (c.ks++[x]) ((d.kn++[(nm,fs)]).map (·.1))));rw [a_,r,sS R];rfl
inductive Cz (Z:LC) (C S cL:Zl) (K:Zs) (cw:Str->Addr) (vs:List V) (H:Hp) (Q:VK) (E:XK):Prop
 |mk (s:SX) (d:DX) (h:Zl) (nm:Str) (ov:Bool):vs=[.ref s.a,.ref h]->gC K H h [.str nm,.bl ov]->sU Z C S cL K H s d->ju nm->nm.length≤40->(uL nm d=none->∀ s' H',sU Z C S cL K H' s' { d with tr:=d.tr++[nm] }->WR s H H' s'->Q .non H')->(∀ wd,uL nm d=some wd->Rf cw E H wd)->Cz Z C S cL K cw vs H Q E
def QX:dC ["stand","handed","name","over"] ["stand","handed"] (b_ (top 96)):=by ext
def PX (F:iM K "do_lane" "do_lane" (top 96) f fd) (TS:My mg) (L:LZ K mg Z) (TZ:TZ K mg C) (SZ:SZ K mg S) (ne:Hi Z C S)
 (DN:gK K mg "need_new" (top 91) ["name","borne"] fN z) (GN:dw P w K mg base (jt P w) 6 fN z ["name","borne"] (ut cw)) (DF:gK K mg "need_fewer" (top 92) ["things","most"] fF B) (GF:dw P w K mg base (jt P w) 4 fF B ["things","most"] (uh cw))
 (MkL:Mk K Z.l fI) (GI:dw P w K mg base fG 3 fI D ["self","pages","room","over"] (NB Z)) (kbL:jF K D ["self","pages","room","over"] ["pages","room","over"] gL XQ)
 (MkT:Mk K C fJ) (FJ:iM K "__init__" "Track.__init__" (tM 0) fJ j) (bJ:Binds K j ["self","written"] []):dw P w K mg base (jt P w) 7 f fd ["stand","handed"] (Cz Z C S cL K cw):=by
 have GJ:dw P w K mg base fG 1 fJ j ["self","written"] (Nz Z C K):=Oa FJ TZ;refine F.ok1 QX (by ext) fun n A O s H vs Q E G h=>?_;obtain ⟨c,d,h,nm,ov,rfl,sq,g,ac,nl,q,M⟩:=h;have hu:=tY G;have p:eX 4 _:=G.mono (by decide);have W:eX 2 _:=G.mono (by decide);obtain ⟨tk,mk⟩:=TS.t;refine ⟨_,(d7 (pF (pv 1) (jT rfl (eU (rZ 2 QX.nd) (eU (rZ 3 QX.nd) jg)))) (d7 (dZ (eY (E:=E) GN G rfl DN.mg DN.F.kp DN.b .nil (iZ fun _ _ _ h=>h) (aK (pv 2) (aK (dN (pv 0) rfl) d9)))) (d7 (dZ (eY (E:=E) GF p rfl DF.mg DF.F.kp DF.b .nil (iZ fun _ _ _ h=>h) (aK (dN (pv 0) rfl) (aK (e_ (v:=.int 6) rfl mk ⟨_,rfl⟩) d9)))) (dj (lH hu (dN (pv 0) rfl) (pv 2) (km (E:=E0) MkT GJ W rfl TZ.mg bJ .nil dU (aK (qZ (E:=E0) MkL GI p rfl L.lmg kbL dU (jJ (dN (pv 0) rfl) (jJ (dN (pv 0) rfl) (jJ (pv 3) uf)))) d9)) rfl))))),?_⟩;obtain ⟨N,e⟩:=g.ob;have X:(c.ts.map (·.a)).length=d.tr.length:=by rw [aag];exact g.lt
 have kl:=pR X;have J:=g.pr;unfold uL at q M;refine ⟨_,rfl,h,_,rfl,sq,rfl,_,_,rfl,_,_,rfl,rfl,?_⟩;refine ⟨_,rfl,_,rfl,c.a,S,N,_,_,rfl,e,SZ.c,SZ.s4,rfl,nm,c.dt,_,_,rfl,ac,nl,g.et,X,fun I=>?_,fun wd I=>M wd (by rw [I];rfl)⟩;rw [I,abx] at q M;refine ⟨_,rfl,c.a,S,N,_,_,rfl,e,SZ.c,SZ.s4,rfl,c.dt,_,6,rfl,g.et,by decide,by decide,fun h2=>?_,fun h2=>M _ (by rw [aab (by omega)])⟩;rw [aac (by omega)] at q;obtain ⟨nn,r⟩:=qP I;refine ⟨_,rfl,c.a,S,N,_,_,rfl,e,SZ.c,SZ.s1,rfl,_,rfl,c.a,S,N,_,_,rfl,e,SZ.c,SZ.s2,rfl,_,rfl,fun x i R o aa=>?_⟩;refine ⟨x,i,d.pg,d.rm,ov,rfl,a_,J.1.1,J.1.2,J.2.1,J.2.2,fun k H1 ka kc ln k1 kf kp=>⟨rfl,?_⟩⟩;have s1:du H H1:=fQ R o k1;refine fun y T hy U ab=>?_;refine ⟨y,T,x,rfl,a_,fun vt l e2 r2 k2=>⟨rfl,?_⟩⟩;have s2:du H1 l:=fQ hy U k2;have S2:=s1.trans s2;have a:=g.same S2;obtain ⟨d1,e1⟩:=a.ob;have s0:du H (upd (upd H i (.own x)) x (.ins Z.l i [])):=fQ R o (fun b u e _=>e);have fresh:∀ b∈(⟨y,k⟩:TA).all,H b=none:=fun b m=>by
  rcases aah.mp m with h|m
  ·rw [h];exact eG s1 hy
  ·rcases aam.mp m with m|m
   ·rcases aah.mp m with h|m
    ·rw [h,ka];exact R
    ·rcases aam.mp m with m|m
     ·obtain ⟨s,ms,h⟩:=aaB.mp m;rw [← h];exact eG s0 (kp s ms)
     ·have m:b∈k.cs:=m;rw [kc] at m;cases m
   ·exact eG s0 (kf b m)
 refine ⟨_,rfl,c.a,S,d1,_,_,rfl,e1,SZ.c,SZ.s4,rfl,_,rfl,c.dt,_,rfl,su.k (k:=Sum.inr nm) a.et (by rw [kl];exact aar (show d.tr.length<6 by omega) (by decide)),?_⟩;rw [oA (m7 r).2];obtain ⟨pk,pt,pc⟩:=a.upd (k':=jW (c.ts.map (·.a)) d.tr++[(Sum.inr nm,.ref y)]) ne a.et fun q m=>(a.ap q m).2.1;have sd:iy S l (upd l c.dt (.dK (jW (c.ts.map (·.a)) d.tr++[(Sum.inr nm,.ref y)]))):=iy.put a.et (.inl ⟨_,.inl rfl⟩);have Y:sy Z C K l ⟨y,k⟩ (Ob d.pg d.rm ov):=⟨⟨T,vt,by show l y=some (.ins C T (UJ k.a 0 vt));rw [ka];exact e2,r2⟩,ln.same s2⟩;refine q rfl ⟨c.a,c.dk,c.dt,c.dc,c.ks,c.ts++[⟨y,k⟩],c.cs⟩ _ ⟨⟨d1,by rw [bK a.na.2.1];exact e1⟩,by rw [bK a.n1];exact a.ek,?_,by rw [bK a.n3.symm];exact a.ec,pk,fun t m=>?_,pc,by rw [aaD,aaD,g.lt];rfl,g.lc,g.nk,⟨pK g.nt.1 r,by rw [aaD];show d.tr.length+1≤6;omega⟩,g.nc,g.pr,g.n1,g.n2,g.n3,g.ap⟩ ⟨rfl,rfl,rfl,rfl,SX.all_of rfl rfl rfl rfl (fun t m=>(aam.mp m).imp id fun m=>by cases aak.mp m;exact fresh) fun q m=>.inl m,fun b u eb _ n1 _=>by rw [bK n1];exact S2 _ _ eb⟩
 ·show upd l c.dt _ c.dt=some (.dK (jW ((c.ts++[(⟨y,k⟩:TA)]).map (·.a)) (d.tr++[nm])));rw [a_,aaI,sS X];rfl
 ·rcases aam.mp m with m|m
  ·exact pt t m
  ·cases aak.mp m;exact ⟨⟨ov,Y.sd ne sd⟩,by show k.cs.length≤900;rw [kc];exact aaR _⟩
theorem S8:Zj (cw "badtest") (cw "badkeys") (cw "badsize") i=cw (X3 i):=by
 match i with
 |0=>rfl
 |1=>rfl
 |_+2=>rfl
inductive Ds (Z:LC) (C S cL:Zl) (K:Zs) (cw:Str->Addr) (vs:List V) (H:Hp) (Q:VK) (E:XK):Prop
 |mk (s:SX) (d:DX) (h ka:Zl) (nm:Str) (x:V) (e:PyData) (ys:Y1):vs=[.ref s.a,.ref h]->gC K H h [.str nm,x,.ref ka]->sU Z C S cL K H s d->ju nm->nm.length≤40->Rep K H x e->TD e->gC K H ka (ys.map V.str)->ys.length≤20->(∀ y∈ys,ju y/\y.length≤40)->(kj ys=true->ys=[])->(rR nm e ys d=none->∀ s' H',sU Z C S cL K H' s' { d with ct:=d.ct++[nm] }->WR s H H' s'->Q .non H')->(∀ wd,rR nm e ys d=some wd->Rf cw E H wd)->Ds Z C S cL K cw vs H Q E
def JT:dC ["stand","handed","name","test","keys","tally"] ["stand","handed"] (b_ (top 106)):=by ext
def P_ (F:iM K "do_tally" "do_tally" (top 106) f fd) (TS:My mg) (SZ:SZ K mg S) (YZ:V8 K mg cL) (ne:Hi Z C S)
 (DN:gK K mg "need_new" (top 91) ["name","borne"] fN I) (GN:dw P w K mg base (jt P w) 6 fN I ["name","borne"] (ut cw)) (DF:gK K mg "need_fewer" (top 92) ["things","most"] fF J) (GF:dw P w K mg base (jt P w) 4 fF J ["things","most"] (uh cw))
 (MkY:Mk K cL fI) (GI:dw P w K mg base (jt P w) 12 fI L NYI (Nq K cL (cw "badtest") (cw "badkeys") (cw "badsize"))) (bI:Binds K L NYI [M]) (r16:Vals [.int 16] [M]):dw P w K mg base (jt P w) 14 f fd ["stand","handed"] (Ds Z C S cL K cw):=by
 refine F.ok1 JT (by ext) fun o A T s H vs Q E N h=>?_;obtain ⟨g,d,h,ka,nm,x,e,ys,rfl,sq,i,ac,nl,rx,td,sk,yl,ya,yb,q,l⟩:=h;have hu:=tY N;have Y:eX 6 _:=N.mono (by decide);have aa:eX 4 _:=N.mono (by decide);obtain ⟨tk,mk⟩:=TS.y;refine ⟨_,(d7 (pF (pv 1) (jT rfl (eU (rZ 2 JT.nd) (eU (rZ 3 JT.nd) (eU (rZ 4 JT.nd) jg))))) (d7 (dZ (eY (E:=E) GN Y rfl DN.mg DN.F.kp DN.b .nil (iZ fun _ _ _ h=>h) (aK (pv 2) (aK (dN (pv 0) rfl) d9)))) (d7 (jD 5 JT.nd (km (E:=E) MkY GI N rfl YZ.mg bI r16 (iZ fun _ _ _ h=>h) (aK (pv 3) (aK (pv 4) d9)))) (d7 (dZ (eY (E:=E) GF aa rfl DF.mg DF.F.kp DF.b .nil (iZ fun _ _ _ h=>h) (aK (dN (pv 0) rfl) (aK (e_ (v:=.int 4) rfl mk ⟨_,rfl⟩) d9)))) (dj (lH hu (dN (pv 0) rfl) (pv 2) (pv 5) rfl)))))),?_⟩;obtain ⟨dx,eo⟩:=i.ob;have lk:(g.cs.map (·.1)).length=d.ct.length:=by rw [aag];exact i.lc
 have kl:=pR lk;unfold rR at q l;refine ⟨_,rfl,h,_,rfl,sq,rfl,_,_,rfl,_,_,rfl,_,_,rfl,rfl,?_⟩;refine ⟨_,rfl,_,rfl,g.a,S,dx,_,_,rfl,eo,SZ.c,SZ.s5,rfl,nm,g.dc,_,_,rfl,ac,nl,i.ec,lk,fun O=>?_,fun wd O=>l wd (by rw [O];rfl)⟩;rw [O,abx] at q l;obtain ⟨nn,G⟩:=qP O;refine ⟨_,rfl,_,rfl,fun y U W p ad=>?_⟩;have z:du H (upd (upd H U (.own y)) y (.ins cL U [])):=fQ W p (fun b u e _=>e);refine ⟨y,U,ka,x,e,ys,16,rfl,a_,rx.same z,td,z.tup sk,yl,ya,by unfold xJ;decide,fun j r ta k1=>⟨rfl,?_⟩,fun n j r da H' s3 th=>by
  rw [S8];exact l _ (by rw [j];rfl) r da H' (z.trans s3) th⟩;rw [j] at q l;have B:du H r:=fQ W p k1;have a:=i.same B;obtain ⟨d1,e1⟩:=a.ob;refine ⟨_,rfl,g.a,S,d1,_,_,rfl,e1,SZ.c,SZ.s5,rfl,g.dc,_,4,rfl,a.ec,by decide,by decide,fun h3=>?_,fun h3=>(l _ (by rw [aab (by omega)];rfl)).up B⟩;rw [aac (by omega)] at q;refine ⟨_,rfl,_,rfl,g.a,S,d1,_,_,rfl,e1,SZ.c,SZ.s5,rfl,_,rfl,g.dc,_,rfl,su.k (k:=Sum.inr nm) a.ec (by rw [kl];exact aar (show d.ct.length<4 by omega) (by decide)),?_⟩;rw [oA (m7 G).2];obtain ⟨pk,pt,pc⟩:=a.upd (k':=jW (g.cs.map (·.1)) d.ct++[(Sum.inr nm,.ref y)]) ne a.ec fun q m=>(a.ap q m).2.2;obtain ⟨dz,c,c0,t1,t2⟩:=ta;have R:∀ {b u},H b=some u->c≠b:=fun X=>(di X (eG z c0)).symm;have D:kj ys=true:=by
  unfold pJ at j;cases hk:kj ys with
  |true=>rfl
  | false=>rw [hk] at j;split at j <;> simp at j
 have ab:lG e=true:=by
  unfold pJ at j;cases hk:lG e with
  |true=>rfl
  |false=>rw [hk] at j;simp at j
 obtain rfl:=yb D;have ty:BR cL K r (y,c):=⟨dz,x,ka,e,t1,t2,rx.same B,td,ab,B.tup sk⟩;refine q rfl ⟨g.a,g.dk,g.dt,g.dc,g.ks,g.ts,g.cs++[(y,c)]⟩ _ ⟨⟨d1,by rw [bK a.na.2.2];exact e1⟩,by rw [bK a.n2];exact a.ek,by rw [bK a.n3];exact a.et,?_,pk,pt,fun q m=>?_,i.lt,by rw [aaD,aaD,i.lc];rfl,i.nk,i.nt,⟨pK i.nc.1 G,by rw [aaD];show d.ct.length+1≤4;omega⟩,i.pr,i.n1,i.n2,i.n3,fun q m=>?_⟩ ⟨rfl,rfl,rfl,rfl,SX.all_of rfl rfl rfl rfl (fun t m=>.inl m) fun q m=>(aam.mp m).imp id fun m=>by cases aak.mp m;exact ⟨W,eG z c0⟩,fun b u X _ _ n1=>by rw [bK n1];exact B _ _ X⟩
 ·show upd r g.dc _ g.dc=some (.dK (jW ((g.cs++[(y,c)]).map (·.1)) (d.ct++[nm])));rw [a_,aaI,sS lk];rfl
 ·rcases aam.mp m with m|m
  ·exact pc q m
  ·cases aak.mp m;exact ty.put (R i.ec) a.ec
 ·rcases aam.mp m with m|m
  ·exact i.ap q m
  ·cases aak.mp m;exact ⟨R i.ek,R i.et,R i.ec⟩
end
end Cm
namespace Cm
open PySem L2 PySem.W PyProof.V PySem.Spec PyProof.Rows
def Nt (u:HO):Prop:=∀ a,u≠.tbl a
section
variable {P:ZB} {w:ZE} {K:Zs} {mg:ZY} {base:ZI} {Z:LC} {C S cL R:Zl} {H H' H'':Hp} {cw:Str->Addr}
def pB.here (h:pB Z H k n):∀ b∈k.own++k.ls,∃ u,H b=some u/\Nt u:=fun b m=>by
 have f:∀ s∈k.ps,∃ y,lW Z H s y:=fun s d=>by obtain ⟨i,g⟩:=aa6.mp d;obtain ⟨y,_,r⟩:=h.pg.at g;exact ⟨y,r⟩
 rcases aam.mp m with m|m
 ·rcases aah.mp m with rfl|m
  ·obtain ⟨j,e⟩:=h.ob;exact ⟨_,e,by intro _ z;cases z⟩
  ·rcases aam.mp m with m|m
   ·obtain ⟨s,d,rfl⟩:=aaB.mp m;obtain ⟨y,r⟩:=f s d;obtain ⟨j,e⟩:=r.ob;exact ⟨_,e,by intro _ z;cases z⟩
   ·obtain ⟨s,d,l⟩:=aa0.mp m;obtain ⟨y,r⟩:=f s d;obtain ⟨i,g⟩:=aa6.mp l;obtain ⟨c,_,o⟩:=r.cs.at g;obtain ⟨j,k,a,t,e,_⟩:=o.ex;exact ⟨_,e,by intro _ z;cases z⟩
 ·rcases aah.mp m with rfl|m
  ·exact ⟨_,h.ls,by intro _ z;cases z⟩
  ·obtain ⟨s,d,rfl⟩:=aaB.mp m;obtain ⟨y,r⟩:=f s d;exact ⟨_,r.ls,by intro _ z;cases z⟩
def sy.here (h:sy Z C K H s t):∀ b∈s.all,∃ u,H b=some u/\Nt u:=fun b m=>by
 rcases aah.mp m with rfl|m
 ·obtain ⟨a,v,e,_⟩:=h.ob;exact ⟨_,e,by intro _ z;cases z⟩
 ·exact h.ln.here b m
noncomputable def pB.kt (h:pB Z H k n) (q:Kt Z H H') (d:∀ b∈k.own,H' b=H b) (f:∀ b∈k.ls,H' b=H b):pB Z H' k n:=by obtain ⟨j,e⟩:=h.ob;refine ⟨⟨j,by rw [d _ LA.a_own];exact e⟩,by rw [f _ (aao ..)];exact h.ls,Pd.mapM (fun s a m r=>?_) h.pg,h.n1,h.n2,h.n3⟩;obtain ⟨i,l⟩:=aa6.mp a;exact r.kt q (d _ (LA.p_own l)) (f _ (aan _ (aaB.mpr ⟨s,a,rfl⟩))) fun c g=>d _ (LA.c_own (aa0.mpr ⟨s,a,g⟩))
def R5 (Z:LC) (s:SX) (b:Zl) (u:HO):Prop:=b∈s.all∨(∃ a,u=.tup a)∨(∃ o a,u=.frz o (.tup a))∨∃ c fs,u=.ins Z.k c fs
def sU.keep (f:sU Z C S cL K H s d) (kp:∀ b u,H b=some u->R5 Z s b u->H' b=some u):sU Z C S cL K H' s d:=by
 have kt:Kt Z H H':=⟨fun b j e=>kp b _ e (.inr (.inl ⟨_,rfl⟩)),fun b l fs e=>kp b _ e (.inr (.inr (.inr ⟨_,_,rfl⟩)))⟩;have v:∀ a j,gC K H a j->gC K H' a j:=fun a j z=>by
  rcases z with (z|⟨o,z⟩)|z
  ·exact .inl (.inl (kt.tk _ _ z))
  ·exact .inl (.inr ⟨o,kp _ _ z (.inr (.inr (.inl ⟨_,_,rfl⟩)))⟩)
  ·exact .inr z
 have n:∀ b∈[s.a,s.dk,s.dt,s.dc],b∈s.all:=fun b m=>aaG _ m;obtain ⟨l,e⟩:=f.ob;refine ⟨⟨l,kp _ _ e (.inl (n _ (by simp)))⟩,kp _ _ f.ek (.inl (n _ (by simp))),kp _ _ f.et (.inl (n _ (by simp))),kp _ _ f.ec (.inl (n _ (by simp))),f.kn.map fun a p ⟨⟨t,k⟩,r⟩=>⟨⟨t,k.kt kt⟩,r⟩,fun t m=>?_,fun q m=>?_,f.lt,f.lc,f.nk,f.nt,f.nc,f.pr,f.n1,f.n2,f.n3,f.ap⟩
 ·obtain ⟨⟨A,h⟩,c⟩:=f.tr t m;have i:∀ b∈t.all,b∈s.all:=fun b g=>aau _ (aaG _ (aa0.mpr ⟨t,m,g⟩));have f:∀ b∈t.all,H' b=H b:=fun b g=>by obtain ⟨u,e,_⟩:=h.here b g;rw [e];exact kp _ _ e (.inl (i b g))
  obtain ⟨B,D,E,F⟩:=h.ob;exact ⟨⟨A,⟨B,D,by rw [f _ (aao ..)];exact E,nZ v F rfl⟩,h.ln.kt kt (fun b g=>f b (aan _ (aaG _ g))) fun b g=>f b (aan _ (aau _ g))⟩,c⟩
 ·obtain ⟨l,x,a,d,G,I,r,y,J,L⟩:=(f.ct q m).ex;have i:∀ b∈[q.1,q.2],b∈s.all:=fun b g=>aau _ (aau _ (aa0.mpr ⟨q,m,g⟩));exact ⟨l,x,a,d,kp _ _ G (.inl (i _ (by simp))),kp _ _ I (.inl (i _ (by simp))),nZ v r (xu y),y,J,v _ _ L⟩
def sU.here (c:sU Z C S cL K H s d):∀ b∈s.all,∃ u,H b=some u/\Nt u:=fun b m=>by
 rcases aam.mp m with m|m
 ·obtain ⟨g,e⟩:=c.ob;simp only [aah,aa2,or_false] at m;rcases m with rfl|rfl|rfl|rfl
  ·exact ⟨_,e,by intro _ z;cases z⟩
  ·exact ⟨_,c.ek,by intro _ z;cases z⟩
  ·exact ⟨_,c.et,by intro _ z;cases z⟩
  ·exact ⟨_,c.ec,by intro _ z;cases z⟩
 ·rcases aam.mp m with m|m
  ·obtain ⟨t,i,f⟩:=aa0.mp m;obtain ⟨⟨o,h⟩,_⟩:=c.tr t i;exact h.here b f
  ·obtain ⟨q,j,f⟩:=aa0.mp m;obtain ⟨g,x,a,d,l,n,_⟩:=(c.ct q j).ex;simp only [aah,aa2,or_false] at f;rcases f with rfl|rfl
   ·exact ⟨_,l,by intro _ z;cases z⟩
   ·exact ⟨_,n,by intro _ z;cases z⟩
def Np {a:Zl} {b:List V} (s:du H H') (z:gC K H a b):gC K H' a b:=by
 rcases z with (z|⟨o,z⟩)|z
 ·exact .inl (.inl (s _ _ z))
 ·exact .inl (.inr ⟨o,s _ _ z⟩)
 ·exact .inr z
structure Xb (K:Zs) (mg:ZY) (a:Zl) (D:YO):Prop where
 mg:mg "DEEDS" = some (.ref a)
 tb:Nu K a D
structure rB (P:ZB) (w:ZE) (K:Zs) (mg:ZY) (base:ZI) (f:Zl) (sp:Sp):Prop where
 ok:∃ fd k,Binds K fd ["stand","handed"] []/\k≤14/\dw P w K mg base (jt P w) k f fd ["stand","handed"] sp
 kp:keepIn K (.ref f)=true
def Kr {x:V} {a:List V}:yh (x::a) 0=some x:=by unfold yh K9;simp
def JM:jV (x::a) (some 1) none=a:=by unfold jV;simp [HT.je]
inductive Qf (P:ZB) (w:ZE) (K:Zs) (mg:ZY) (base:ZI) (D:YO) (vs:List V) (H:Hp) (Q:VK) (E:XK):Prop
 |mk (x:V) (h f:Zl) (nm:Str) (as:List V) (sp:Sp):vs=[x,.ref h]->gC K H h (.str nm::as)->KTD.datumAt nm D=some f->rB P w K mg base f sp->(∀ h' H1,du H H1->gC K H1 h' as->sp [x,.ref h'] H1 Q E)->Qf P w K mg base D vs H Q E
def TV:dC ["stand","deed","act"] ["stand","deed"] (b_ (top 112)):=by ext
def TJ (F:iM K "perform" "perform" (top 112) f g) (i:Xb K mg c D):dw P w K mg base (jt P w) 15 f g ["stand","deed"] (Qf P w K mg base D):=by
 refine F.ok1 TV (by ext) fun l A a s H vs Q E m h=>?_;obtain ⟨x,h,d,nm,G,o,rfl,e,r,de,q⟩:=h;refine ⟨_,(d7 (jD 2 TV.nd (fu MK (e_ (v:=.ref c) rfl i.mg rfl) (fu j6 (pv 1) dm))) (dj (dX (Im (j:=2) rfl (.inl rfl) (aK (pv 0) (aK (ie wB (pv 1) (iR dm) iQ) d9)))))),?_⟩;refine ⟨_,rfl,h,_,_,_,rfl,rfl,e,Kr,c,nm,D,d,rfl,rfl,i.tb,r,?_⟩;obtain ⟨b,k,y,B,ok⟩:=de.ok;refine ⟨d,o,_,rfl,⟨⟨_,k,b,_,ok,m.mono B,y,iZ fun _ _ _ h=>h⟩,de.kp⟩,_,rfl,_,rfl,_,rfl,h,_,rfl,e,fun z=>?_,fun p n=>?_⟩
 ·rw [JM] at z;exact absurd (aax List.length z) (by simp)
 ·rw [JM];exact q p _ (du.new n) (gC.of a_)
abbrev rM (j:Nat):Stmt:=inClass (top 114) j
structure RZ (K:Zs) (mg:ZY) (R:Zl):Prop where
 c:vy K R
 mg:mg "Recorder" = some (.ref R)
 r1:eO K R "stand"
 r2:eO K R "past"
 r3:eO K R "undone"
noncomputable def Qy (s p u:Zl):List (Str×V):=[("stand",.ref s),("past",.ref p),("undone",.ref u)]
structure RX where
 a:Addr
 pa:Addr
 un:Addr
 s:SX
structure pM (Z:LC) (C S cL R:Zl) (K:Zs) (H:Hp) (r:RX) (d:DX) (n:Nat):Prop where
 ob:∃ dx,H r.a=some (.ins R dx (Qy r.s.a r.pa r.un))
 ps:∃ xs:List V,H r.pa=some (.lst xs)/\xs.length=n
 un:H r.un=some (.lst [])
 st:sU Z C S cL K H r.s d
 ne:r.pa≠r.un
def ZF (r:RX) (H a:Hp):Prop:=∀ b u,H b=some u->b≠r.a->b≠r.pa->b≠r.un->a b=some u
def K6 (Z:LC) (C S e R:Zl) (K:Zs) (r:RX) (n:Nat) (H:Hp) (d:DX) (c:Hp):Prop:=∃ a:RX,a.a=r.a/\a.pa=r.pa/\a.un=r.un/\pM Z C S e R K c a d (n+1)/\ZF r H c/\∀ b u,H b=some u->b∉a.s.all
def RcQ (Z:LC) (C S e R:Zl) (K:Zs) (r:RX) (n:Nat) (H:Hp) (f:SX) (g:Hp) (Q:VK):VK:=fun v a=>∃ b c,sU Z C S e K a b c/\WR f g a b/\∀ d,K6 Z C S e R K r n H c d->Q v d
inductive J1 (Z:LC) (C S cL R:Zl) (P:ZB) (w:ZE) (K:Zs) (mg:ZY) (base:ZI) (D:YO) (vs:List V) (H:Hp) (Q:VK) (E:XK):Prop
 |mk (r:RX) (d:DX) (n:Nat) (h f:Zl) (nm:Str) (as:List V) (sp:Sp):vs=[.ref r.a,.ref h]->pM Z C S cL R K H r d n->n≤900->gC K H h (.str nm::as)->KTD.datumAt nm D=some f->rB P w K mg base f sp->(∀ s1 h' H2 (Q':VK),du H H2->sU Z C S cL K H2 s1 d->gC K H2 h' as->(∀ v H3,RcQ Z C S cL R K r n H s1 H2 Q v H3->Q' v H3)->sp [.ref s1.a,.ref h'] H2 Q' E)->J1 Z C S cL R P w K mg base D vs H Q E
def QZ:dC ["self","deed","later","told"] ["self","deed"] (b_ (rM 17)):=by ext
noncomputable def Tv {f fT fP aD:Zl} {fd I J:ZA} {D:YO} (F:iM K "do" "Recorder.do" (rM 17) f fd) (RZ:RZ K mg R) (SZ:SZ K mg S) (nR:Z.k≠R) (MT:MD K S "twin" "Stand.twin" (sM 5) ["self"] fT I) (GT:dw P w K mg base fG 15 fT I ["self"] (Rx Z C S cL K))
 (L:gK K mg "perform" (top 112) ["stand","deed"] fP J) (DT:Xb K mg aD D):dw P w K mg base (jt P w) 16 f fd ["self","deed"] (J1 Z C S cL R P w K mg base D):=by
 have GP:dw P w K mg base (jt P w) 15 fP J ["stand","deed"] (Qf P w K mg base D):=TJ L.F DT;refine F.ok1 QZ (by ext) fun aa A M s H vs Q E Y h=>?_;obtain ⟨r,d,n,h,f',nm,as,sp,rfl,g,nl,sq,ef,de,q⟩:=h;refine ⟨_,(d7 (jD 2 QZ.nd (gq (E:=E0) (dN (pv 0) rfl) SZ.c MT.M GT Y MT.b .nil dU)) (d7 (jD 3 QZ.nd (eY (E:=E) GP Y rfl L.mg L.F.kp L.b .nil (iZ fun _ _ _ h=>h) (aK (pv 2) (aK (pv 1) d9)))) (d7 (dZ (lu aaZ aa5 abe ik (dN (pv 0) rfl) (aK (gA (aK (pv 1) (aK (dN (pv 0) rfl) d9))) d9))) (d7 (dZ (yd aaZ PySem.F.slot_list_clear PySem.F.type_list_clear Jd (dN (pv 0) rfl))) (d7 (dO (pv 0) (pv 2) rfl) (dj (dX (pv 3)))))))),?_⟩;obtain ⟨x,e⟩:=g.ob;obtain ⟨ds,es⟩:=g.st.ob;refine ⟨_,rfl,r.a,R,x,_,_,rfl,e,RZ.c,RZ.r1,rfl,r.s.a,ds,_,rfl,es,rfl,r.s,d,rfl,g.st,fun j H1 fresh l N=>?_⟩;refine ⟨_,rfl,_,rfl,_,h,f',nm,as,sp,rfl,Np l sq,ef,de,fun h' H2 o O=>?_⟩;refine q j h' H2 _ (l.trans o) (N.same o) O fun v H3 hv=>?_;obtain ⟨U,d3,W,fr,k⟩:=hv;have S2:=l.trans o;have m4:∀ b∈[j.a,j.dk,j.dt,j.dc],b∈j.all:=fun b m=>aaG _ m;have T:∀ {b u},H b=some u->∀ c∈[j.a,j.dk,j.dt,j.dc],b≠c:=fun a c m=>di a (fresh c (m4 c m));have up:∀ b u,H b=some u->H3 b=some u:=fun b u a=>fr.kp b u (S2 _ _ a) (T a _ (by simp)) (T a _ (by simp)) (T a _ (by simp));obtain ⟨X,y,xl⟩:=g.ps;have p:r.a≠r.pa:=fun z=>by rw [z,y] at e;cases e
 have G:r.a≠r.un:=fun z=>by have:=g.un;rw [← z,e] at this;cases this
 have off:∀ b u,H b=some u->b∉U.all:=fun b u a m=>by
  rcases fr.sub b m with h|h
  ·rw [fresh b h] at a;cases a
  ·rw [S2 _ _ a] at h;cases h
 refine ⟨_,rfl,r.a,R,x,_,_,rfl,up _ _ e,RZ.c,RZ.r2,rfl,.inl ⟨rfl,_,fM.of (up _ _ y)⟩,_,rfl,_,rfl,r.a,R,x,_,_,rfl,up _ _ e,RZ.c,RZ.r1,rfl,(by ext),fun tp B=>?_⟩;have i:∀ b u,H b=some u->b≠tp:=fun b u a=>di (up _ _ a) B;refine ⟨r.pa,X,_,rfl,rfl,(by rw [bK (i _ _ y)];exact up _ _ y),acX (by omega:X.length≤900) (by decide),?_⟩;refine ⟨_,rfl,r.a,R,x,Qy r.s.a r.pa r.un,.ref r.un,rfl,(by rw [bK p,bK (i _ _ e)];exact up _ _ e),RZ.c,RZ.r3,rfl,.inl ⟨rfl,[],fM.of (by rw [bK g.ne.symm,bK (i _ _ g.un)];exact up _ _ g.un)⟩,r.un,[],rfl,rfl,(by rw [bK g.ne.symm,bK (i _ _ g.un)];exact up _ _ g.un),?_⟩;refine ⟨_,rfl,_,rfl,r.a,R,x,Qy r.s.a r.pa r.un,rfl,(by rw [bK G,bK p,bK (i _ _ e)];exact up _ _ e),RZ.c,RZ.r1,(show 3<1000 by decide),?_⟩;refine ⟨_,rfl,k _ ⟨⟨r.a,r.pa,r.un,U⟩,rfl,rfl,rfl,⟨⟨x,?_⟩,⟨X++[.ref tp],?_,by simp;omega⟩,?_,W.keep fun b u a h=>?_,g.ne⟩,fun b u a n1 n2 n3=>?_,off⟩⟩
 ·show upd _ r.a _ r.a=some (.ins R x (Qy U.a r.pa r.un));rw [a_,fr.a];rfl
 ·show upd _ r.a _ r.pa=_;rw [bK p.symm,bK g.ne,a_]
 ·show upd _ r.a _ r.un=_;rw [bK G.symm,a_]
 ·have nt:b≠tp:=di a B;have na:b≠r.a:=fun z=>by
   subst z;rcases h with h|⟨_,h⟩|⟨_,_,h⟩|⟨_,_,h⟩
   ·exact off _ _ e h
   all_goals (rw [up _ _ e,h] at a;cases a)
   exact nR rfl
  have np:b≠r.pa:=fun z=>by
   subst z;rcases h with h|⟨_,h⟩|⟨_,_,h⟩|⟨_,_,h⟩
   ·exact off _ _ y h
   all_goals (rw [up _ _ y,h] at a;cases a)
  have nu:b≠r.un:=fun z=>by
   subst z;rcases h with h|⟨_,h⟩|⟨_,_,h⟩|⟨_,_,h⟩
   ·exact off _ _ g.un h
   all_goals (rw [up _ _ g.un,h] at a;cases a)
  rw [bK na,bK nu,bK np,bK nt];exact a
 ·rw [bK n1,bK n3,bK n2,bK (i _ _ a)];exact up _ _ a
end
end Cm
namespace Cm
open PySem L2 PySem.W PySem.Spec PyProof.Rows
section
variable {P:ZB} {w:ZE} {K:Zs} {mg:ZY} {base:ZI} {Z:LC} {C S cL R cZ:Zl} {H H' H'':Hp} {cw:Str->Addr} {D:YO}
def jZ (p r:Int):DX:=⟨p,r,[],[],[]⟩
inductive tG (Z:LC) (C S cL R:Zl) (K:Zs) (cw:Str->Addr) (vs:List V) (H:Hp) (Q:VK) (E:XK):Prop
 |mk (o dx:Zl) (p r:Int):vs=[.ref o,.int p,.int r]->H o=some (.ins R dx [])->xJ p->xJ r->(pC p r->∀ (c:RX) H',c.a=o->H c.pa=none->H c.un=none->pM Z C S cL R K H' c (jZ p r) 0->(∀ b u,H b=some u->b≠o->H' b=some u)->(∀ b u,H b=some u->b∉c.s.all)->Q .non H')->(¬ pC p r->Rf cw E H "badsize")->tG Z C S cL R K cw vs H Q E
def XH:dC ["self","pages","room"] ["self","pages","room"] (b_ (rM 0)):=by ext
noncomputable def T6 (F:iM K "__init__" "Recorder.__init__" (rM 0) f fd) (RZ:RZ K mg R) (SZ:SZ K mg S) (nR:S≠R) (T:Mk K S fI) (bI:Binds K G ["self","pages","room"] []) (GI:dw P w K mg base (jt P w) 5 fI G ["self","pages","room"] (Ed S (cw "badsize"))):dw P w K mg base (jt P w) 7 f fd ["self","pages","room"] (tG Z C S cL R K cw):=by
 refine F.ok1 XH (by ext) fun aa A O s H vs Q E hr h=>?_;obtain ⟨o,n,p,r,rfl,ho,tp,tr,q,qx⟩:=h;refine ⟨_,(d7 (dO (pv 0) (km (E:=E) T GI hr rfl SZ.mg bI .nil (iZ fun _ _ _ h=>h) (aK (pv 1) (aK (pv 2) d9))) rfl) (d7 (dO (pv 0) (gb d9) rfl) (dj (dO (pv 0) (gb d9) rfl)))),?_⟩;refine ⟨_,rfl,_,rfl,fun x a I y ab=>?_⟩;have s0:du H (upd (upd H a (.own x)) x (.ins S a [])):=fQ I y (fun b u e _=>e);refine ⟨x,a,p,r,rfl,a_,tp,tr,fun J dk U W L v X Y et ec n1 n2 n3 k1=>⟨rfl,?_⟩,fun J da H' th=>qx J _ da H' s0 th⟩;have M:du H L:=fQ I y k1;refine ⟨_,rfl,o,R,n,_,rfl,M _ _ ho,RZ.c,RZ.r1,(show 0<1000 by decide),?_⟩;refine ⟨(by ext),fun g i=>?_⟩;have d:o≠g:=di a_ i;refine ⟨_,rfl,o,R,n,[("stand",.ref x)],rfl,(by rw [bK d];exact a_),RZ.c,RZ.r2,(show 1<1000 by decide),?_⟩;refine ⟨(by ext),fun un c=>?_⟩;have j:o≠un:=di a_ c;refine ⟨_,rfl,o,R,n,[("stand",.ref x),("past",.ref g)],rfl,(by rw [bK j];exact a_),RZ.c,RZ.r3,(show 2<1000 by decide),?_⟩;have l:g≠un:=di (show upd (upd _ g _) o _ g=some _ by rw [bK d.symm];exact a_) c;rw [bK d.symm] at i;rw [bK j.symm,bK l.symm,bK j.symm] at c;have up:∀ b u,L b=some u->b≠o->upd (upd (upd (upd (upd L o (.ins R n (gG "stand" (.ref x) []))) g (.lst [])) o (.ins R n (gG "past" (.ref g) [("stand",.ref x)]))) un (.lst [])) o (.ins R n (gG "undone" (.ref un) [("stand",.ref x),("past",.ref g)])) b=some u:=fun b u e B=>by rw [bK B,bK (di e c),bK B,bK (di e i),bK B];exact e
 have N:∀ {b u},L b=some u->H b=none->b≠o:=fun e h z=>by rw [z,ho] at h;cases h
 have bk:∀ {b},upd (upd H a (.own x)) x (.ins S a []) b=none->H b=none:=fun e=>eG s0 e;refine q J ⟨o,g,un,⟨x,dk,U,W,[],[],[]⟩⟩ _ rfl (eG M i) (eG M c) ⟨⟨n,a_⟩,⟨[],?_,rfl⟩,?_,⟨⟨a,up _ _ X (N X I)⟩,up _ _ Y (N Y (bk v.k)),up _ _ et (N et (bk v.t)),up _ _ ec (N ec (bk v.c)),.nil,(fun t m=>by cases m),(fun t m=>by cases m),rfl,rfl,⟨abk,aaR _⟩,⟨abk,aaR _⟩,⟨abk,aaR _⟩,J,n1,n2,n3,fun q m=>by cases m⟩,l⟩ (fun b u e B=>up _ _ (M _ _ e) B) fun b u e m=>?_
 ·show upd _ o _ g=_;rw [bK d.symm,bK l,bK d.symm];exact a_
 ·show upd _ o _ un=_;rw [bK j.symm];exact a_
 ·have:b=x∨b=dk∨b=U∨b=W:=by simpa [SX.all] using m
  rcases this with rfl|rfl|rfl|rfl
  ·rw [show H b=none from I] at e;cases e
  ·rw [bk v.k] at e;cases e
  ·rw [bk v.t] at e;cases e
  ·rw [bk v.c] at e;cases e
def pM.same (h:pM Z C S cL R K H r d n) (s:du H H'):pM Z C S cL R K H' r d n:=by obtain ⟨a,e⟩:=h.ob;obtain ⟨b,c,l⟩:=h.ps;exact ⟨⟨a,s _ _ e⟩,⟨b,s _ _ c,l⟩,s _ _ h.un,h.st.same s,h.ne⟩
noncomputable def K6.new (m:H a=none) (h:K6 Z C S cL R K r n (upd H a o) d H'):K6 Z C S cL R K r n H d H':=by obtain ⟨c,f,g,i,j,kk,l⟩:=h;have s:du H (upd H a o):=du.new m;exact ⟨c,f,g,i,j,fun b u e=>kk b u (s _ _ e),fun b u e=>l b u (s _ _ e)⟩
inductive mC (Z:LC) (C S cL R:Zl) (K:Zs) (cw:Str->Addr) (vs:List V) (H:Hp) (Q:VK) (E:XK):Prop
 |mk (r:RX) (d:DX) (n:Nat) (nm:Str) (ov:Bool):vs=[.ref r.a,.str nm,.bl ov]->pM Z C S cL R K H r d n->n≤900->ju nm->nm.length≤40->(uL nm d=none->∀ H',K6 Z C S cL R K r n H { d with tr:=d.tr++[nm] } H'->Q .non H')->(∀ wd,uL nm d=some wd->Rf cw E H wd)->mC Z C S cL R K cw vs H Q E
def N_:dC ["self","name","over"] ["self","name","over"] (b_ (rM 2)):=by ext
noncomputable def Jp {f fD o:Zl} {v b:ZA} (F:iM K "lane" "Recorder.lane" (rM 2) f v) (RZ:RZ K mg R) (MD:MD K R "do" "Recorder.do" (rM 17) ["self","deed"] fD b) (W:dw P w K mg base (jt P w) 16 fD b ["self","deed"] (J1 Z C S cL R P w K mg base D)) (X:KTD.datumAt ("lane" : Str) D=some o) (de:rB P w K mg base o (Cz Z C S cL K cw)):dw P w K mg base (jt P w) 17 f v ["self","name","over"] (mC Z C S cL R K cw):=by refine F.ok1 N_ (by ext) fun x A c s H vs Q E y h=>?_;obtain ⟨r,d,n,nm,p,rfl,q,nl,N,O,k,T⟩:=h;refine ⟨_,dj (dX (jh (E:=E) (pv 0) RZ.c MD.M W y MD.b .nil (iZ fun _ _ _ h=>h) (aK (gA (aK dD (aK (pv 1) (aK (pv 2) d9)))) d9))),?_⟩;obtain ⟨U,e⟩:=q.ob;refine ⟨_,rfl,r.a,U,_,rfl,e,rfl,_,rfl,_,rfl,(by ext),fun tp a=>?_⟩;refine ⟨r,d,n,tp,o,_,[.str nm,.bl p],_,rfl,q.same (du.new a),nl,gC.of a_,X,de,fun z B Y Q' g G i I=>?_⟩;exact ⟨z,d,B,nm,p,rfl,i,G,N,O,fun j J H3 l m=>I _ _ ⟨J,_,l,m,fun L M=>k j L (M.new a)⟩,fun wd j=>(T wd j).up ((du.new a).trans g)⟩
inductive jK (Z:LC) (C S cL R:Zl) (K:Zs) (cw:Str->Addr) (vs:List V) (H:Hp) (Q:VK) (E:XK):Prop
 |mk (r:RX) (d:DX) (n:Nat) (nm:Str) (fa:Zl) (xs:List V) (fs:List lU):vs=[.ref r.a,.str nm,.ref fa]->pM Z C S cL R K H r d n->n≤900->ju nm->nm.length≤40->H fa=some (.tup xs)->Paired (iG H) xs fs->fs.length≤100->(∀ f∈fs,uM f)->(qg nm fs d=none->∀ H',K6 Z C S cL R K r n H { d with kn:=d.kn++[(nm,fs)] } H'->Q .non H')->(∀ wd,qg nm fs d=some wd->Rf cw E H wd)->jK Z C S cL R K cw vs H Q E
def Kw:dC ["self","name","fields"] ["self","name","fields"] (b_ (rM 1)):=by ext
noncomputable def Ih {f fD x:Zl} {z c:ZA} {dV:ZH} (F:iT K "kind" "Recorder.kind" (rM 1) dV f z) (RZ:RZ K mg R) (MD:MD K R "do" "Recorder.do" (rM 17) ["self","deed"] fD c) (GD:dw P w K mg base (jt P w) 16 fD c ["self","deed"] (J1 Z C S cL R P w K mg base D)) (eA:KTD.datumAt ("kind" : Str) D=some x) (de:rB P w K mg base x (DG Z C S cL K cw)):dw P w K mg base (jt P w) 17 f z ["self","name","fields"] (jK Z C S cL R K cw):=by refine F.ok1 Kw (by ext) fun B A g s H vs Q E G h=>?_;obtain ⟨r,d,n,nm,q,U,fs,rfl,y,nl,W,X,v,Y,fl,fo,k,kx⟩:=h;refine ⟨_,dj (dX (jh (E:=E) (pv 0) RZ.c MD.M GD G MD.b .nil (iZ fun _ _ _ h=>h) (aK (gA (aK dD (aK (pv 1) (aK (pv 2) d9)))) d9))),?_⟩;obtain ⟨dx,e⟩:=y.ob;refine ⟨_,rfl,r.a,dx,_,rfl,e,rfl,_,rfl,_,rfl,(by ext),fun tp a=>?_⟩;refine ⟨r,d,n,tp,x,_,[.str nm,.ref q],_,rfl,y.same (du.new a),nl,gC.of a_,eA,de,fun I J H2 Q' i L j M=>?_⟩;have b:=(du.new (o:=.tup [.str "kind",.str nm,.ref q]) a).trans i;exact ⟨I,d,J,q,nm,U,fs,rfl,j,L,W,X,b _ _ v,gF Y (du.kt (Z:=Z) b).tk,fl,fo,fun l N H3 m p=>M _ _ ⟨N,_,m,p,fun O T=>k l O (T.new a)⟩,fun wd l=>(kx wd l).up b⟩
inductive j9 (Z:LC) (C S cL R:Zl) (K:Zs) (cw:Str->Addr) (vs:List V) (H:Hp) (Q:VK) (E:XK):Prop
 |mk (r:RX) (d:DX) (n:Nat) (nm:Str) (x:V) (ka:Zl) (e:PyData) (ys:Y1):vs=[.ref r.a,.str nm,x,.ref ka]->pM Z C S cL R K H r d n->n≤900->ju nm->nm.length≤40->Rep K H x e->TD e->gC K H ka (ys.map V.str)->ys.length≤20->(∀ y∈ys,ju y/\y.length≤40)->(kj ys=true->ys=[])->(rR nm e ys d=none->∀ H',K6 Z C S cL R K r n H { d with ct:=d.ct++[nm] } H'->Q .non H')->(∀ wd,rR nm e ys d=some wd->Rf cw E H wd)->j9 Z C S cL R K cw vs H Q E
def IW:dC ["self","name","test","keys"] ["self","name","test","keys"] (b_ (rM 12)):=by ext
noncomputable def Ek {f fD v:Zl} {z c:ZA} (F:iM K "tally" "Recorder.tally" (rM 12) f z) (RZ:RZ K mg R) (MD:MD K R "do" "Recorder.do" (rM 17) ["self","deed"] fD c) (GD:dw P w K mg base (jt P w) 16 fD c ["self","deed"] (J1 Z C S cL R P w K mg base D)) (eA:KTD.datumAt ("tally" : Str) D=some v) (de:rB P w K mg base v (Ds Z C S cL K cw)):dw P w K mg base (jt P w) 17 f z ["self","name","test","keys"] (j9 Z C S cL R K cw):=by refine F.ok1 IW (by ext) fun B A g s H vs Q E G h=>?_;obtain ⟨r,d,n,nm,x,q,e,U,rfl,y,nl,W,X,Y,td,sk,yl,ya,yb,k,kx⟩:=h;refine ⟨_,dj (dX (jh (E:=E) (pv 0) RZ.c MD.M GD G MD.b .nil (iZ fun _ _ _ h=>h) (aK (gA (aK dD (aK (pv 1) (aK (pv 2) (aK (pv 3) d9))))) d9))),?_⟩;obtain ⟨dx,eo⟩:=y.ob;refine ⟨_,rfl,r.a,dx,_,rfl,eo,rfl,_,rfl,_,rfl,_,rfl,(by ext),fun tp a=>?_⟩;refine ⟨r,d,n,tp,v,_,[.str nm,x,.ref q],_,rfl,y.same (du.new a),nl,gC.of a_,eA,de,fun I J H2 Q' i L j M=>?_⟩;have b:=(du.new (o:=.tup [.str "tally",.str nm,x,.ref q]) a).trans i;exact ⟨I,d,J,q,nm,x,e,U,rfl,j,L,W,X,Y.same b,td,b.tup sk,yl,ya,yb,fun l N H3 m p=>M _ _ ⟨N,_,m,p,fun O T=>k l O (T.new a)⟩,fun wd l=>(kx wd l).up b⟩
end
def nU (h:nameB x=true):ju x/\x.length≤8:=by have n:=(jH x).mp h;refine ⟨?_,n.hi⟩;unfold ju;rw [← abw,aaV];intro c a;have:=n.lc c a;simp;omega
def Le (h:kW n fs=none):nameB n=true:=by
 unfold kW at h;split at h
 ·assumption
 ·cases h
theorem tH (h:as.length=ns.length):(jW as ns).map (·.1)=ns.map Sum.inr:=by
 induction as generalizing ns with
 |nil=>cases ns <;> simp_all [jW]
 | cons a as ih=>
   cases ns with
   |nil=>simp at h
   | cons n ns=>have:=ih (ns:=ns) (by simpa using h);show (Sum.inr n)::(jW as ns).map (·.1)=_;rw [this];rfl
theorem O4 {e:YE} {c:Y1} {i:Nat} {a:Zl} {n:Str} (j:c.Nodup) (g:e[i]?=some a) (f:c[i]?=some n):mR (jW e c) (Sum.inr n)=some (.ref a):=by
 induction e generalizing c i with
 |nil=>simp at g
 | cons b e h=>
   cases c with
   |nil=>simp at f
   | cons m c=>
     show mR ((Sum.inr m,V.ref b)::jW e c) _=_;cases i with
     | zero=>simp at g f;subst g f;exact nP rfl
     | succ i=>have d:=aba.mp j;have ne:¬ (Sum.inr m:Key)=Sum.inr n:=fun z=>d.1 (by rw [acj z];exact aaq (by simpa using f));rw [mj ne];exact h d.2 (by simpa using g) (by simpa using f)
section
variable {P:ZB} {w:ZE} {K:Zs} {mg:ZY} {base:ZI} {Z:LC} {C S cL R:Zl} {H H' H'':Hp} {cw:Str->Addr}
inductive yp (Z:LC) (C S cL R:Zl) (K:Zs) (A:DX->Nat->V->Hp->Hp->Prop) (vs:List V) (H:Hp) (Q:VK) (E:XK):Prop
 |mk (r:RX) (d:DX) (n:Nat):vs=[.ref r.a]->pM Z C S cL R K H r d n->(∀ v H',du H H'->A d n v H H'->Q v H')->yp Z C S cL R K A vs H Q E
def Tr (f:DX->List Str) (b:Bool):DX->Nat->V->Hp->Hp->Prop:=fun d _ v _ c=>∃ l a,v=.ref l/\c l=some (.lst (a.map V.str))/\a.Perm (f d)/\if b=true then sortedS a=true else a=f d
def Z8:dC ["self"] ["self"] (b_ (rM 24)):=by ext
noncomputable def JL (F:iM K "lanes" "Recorder.lanes" (rM 24) f c) (T:Txt K mg) (RZ:RZ K mg R) (SZ:SZ K mg S):dw P w K mg base fG 1 f c ["self"] (yp Z C S cL R K (Tr (·.tr) false)):=by refine F.ok Z8 (by ext) fun g A b s H vs Q E p h=>?_;obtain ⟨r,d,n,rfl,a,q⟩:=h;refine ⟨_,dj (dX (gQ (yO rfl) (by rfl) T.list qm (aK (dN (dN (pv 0) rfl) rfl) d9))),?_⟩;obtain ⟨j,e⟩:=a.ob;obtain ⟨m,o⟩:=a.st.ob;refine ⟨_,rfl,r.a,R,j,_,_,rfl,e,RZ.c,RZ.r1,rfl,r.s.a,S,m,_,_,rfl,o,SZ.c,SZ.s4,rfl,r.s.dt,_,d.tr,rfl,a.st.et,tH (by rw [aag];exact a.st.lt),fun l i=>?_⟩;exact q _ _ (du.new i) ⟨l,d.tr,rfl,a_,.refl _,rfl⟩
def Uz:dC ["self"] ["self"] (b_ (rM 32)):=by ext
noncomputable def Aa (F:iM K "tallies" "Recorder.tallies" (rM 32) f c) (y:mg "sorted" = none) (RZ:RZ K mg R) (SZ:SZ K mg S):dw P w K mg base fG 1 f c ["self"] (yp Z C S cL R K (Tr (·.ct) true)):=by refine F.ok Uz (by ext) fun g A b s H vs Q E z h=>?_;obtain ⟨r,d,n,rfl,a,q⟩:=h;refine ⟨_,dj (dX (dJ (o_ rfl) (by rfl) y oM (aK (dN (dN (pv 0) rfl) rfl) d9))),?_⟩;obtain ⟨p,e⟩:=a.ob;obtain ⟨v,x⟩:=a.st.ob;refine ⟨_,rfl,r.a,R,p,_,_,rfl,e,RZ.c,RZ.r1,rfl,r.s.a,S,v,_,_,rfl,x,SZ.c,SZ.s5,rfl,r.s.dc,_,d.ct,rfl,a.st.ec,tH (by rw [aag];exact a.st.lc),by have:=a.st.nc.2;omega,fun i l j m o=>?_⟩;exact q _ _ (du.new o) ⟨l,i,rfl,a_,j,m⟩
def qV (a:V):DX->Nat->V->Hp->Hp->Prop:=fun _ _ v _ _=>v=a
def XN:dC ["self"] ["self"] (b_ (rM 33)):=by ext
noncomputable def Av (F:iM K "stopped" "Recorder.stopped" (rM 33) f c) (RZ:RZ K mg R) (SZ:SZ K mg S):dw P w K mg base fG 1 f c ["self"] (yp Z C S cL R K (qV (.bl false))):=by refine F.ok XN (by ext) fun g A a s H vs Q E m h=>?_;obtain ⟨r,d,n,rfl,b,q⟩:=h;refine ⟨_,dj (dX (dN (dN (pv 0) rfl) rfl)),?_⟩;obtain ⟨i,e⟩:=b.ob;obtain ⟨j,l⟩:=b.st.ob;exact ⟨_,rfl,r.a,R,i,_,_,rfl,e,RZ.c,RZ.r1,rfl,r.s.a,S,j,_,_,rfl,l,SZ.c,SZ.s6,rfl,q _ _ (du.refl _) rfl⟩
def X7:dC ["self"] ["self"] (b_ (rM 34)):=by ext
noncomputable def Gf (F:iM K "halted_by" "Recorder.halted_by" (rM 34) f c) (RZ:RZ K mg R) (SZ:SZ K mg S):dw P w K mg base fG 1 f c ["self"] (yp Z C S cL R K (qV .non)):=by refine F.ok X7 (by ext) fun g A a s H vs Q E m h=>?_;obtain ⟨r,d,n,rfl,b,q⟩:=h;refine ⟨_,dj (dX (dN (dN (pv 0) rfl) rfl)),?_⟩;obtain ⟨i,e⟩:=b.ob;obtain ⟨j,l⟩:=b.st.ob;exact ⟨_,rfl,r.a,R,i,_,_,rfl,e,RZ.c,RZ.r1,rfl,r.s.a,S,j,_,_,rfl,l,SZ.c,SZ.s7,rfl,q _ _ (du.refl _) rfl⟩
def Yj (Z:LC):DX->Nat->V->Hp->Hp->Prop:=fun d _ v _ c=>∃ l e b,v=.ref l/\c l=some (.lst e)/\b.Perm (d.kn.map (·.1))/\sortedS b=true/\Pd (fun x n=>∃ a t fs,x=.ref a/\ii Z.k c a n t fs) e b
def Vw:dC ["self","known"] ["self"] (b_ (rM 23)):=by ext
def J0 {f fI:Zl} {fd W:ZA} (F:iM K "kinds" "Recorder.kinds" (rM 23) f fd) (hs:mg "sorted" = none) (L:LZ K mg Z) (RZ:RZ K mg R) (SZ:SZ K mg S)
 (MkK:Mk K Z.k fI) (GI:dw P w K mg base (jt P w) 7 fI W ["self","name","fields"] (sH Z.k (cw "badname") (cw "taken") (cw "badbounds") (cw "full"))) (bI:Binds K W ["self","name","fields"] []):dw P w K mg base fG 9 f fd ["self"] (yp Z C S cL R K (Yj Z)):=by
 refine F.ok Vw (by ext) fun ad A aa s H vs Q E hr h=>?_;obtain ⟨r,d,n,rfl,m,q⟩:=h;have hu:=tY hr;refine ⟨_,d7 (jD 1 Vw.nd (dN (dN (pv 0) rfl) rfl)) (dj (dX (jf (g:=fH 0) (own:=["name"]) (js:=[1]) (N':=["name","known"]) (eN.of (osc:=b_ (rM 23)) (N:=["self","known"]) rfl rfl (by ext)) rfl (jx (dJ (o_ rfl) (by rfl) hs oM (aK (pv 1) d9))) (fun _ _ _ _ _=>(gn (i:=0) (show List.Nodup (["name","known"]:Y1) by ext) rfl (.inl rfl) (.inr rfl))) (fun _ _ _ _ _=>gH) (fun _ _ _ _ _=>km (E:=fun _ _ _=>False) MkK GI hr rfl L.kc.mg bI .nil tu (aK (pv 0) (aK (Ec (K:=K) rfl (iB hu (pv 1) (pv 0)) rfl) d9)))))),?_⟩;obtain ⟨dx,e⟩:=m.ob;obtain ⟨ds,es⟩:=m.st.ob;have lk:r.s.ks.length=(d.kn.map (·.1)).length:=by rw [aag];exact m.st.kn.len
 refine ⟨_,rfl,r.a,R,dx,_,_,rfl,e,RZ.c,RZ.r1,rfl,r.s.a,S,ds,_,_,rfl,es,SZ.c,SZ.s3,rfl,?_⟩;refine ⟨_,rfl,r.s.dk,_,d.kn.map (·.1),rfl,m.st.ek,tH lk,by have:=m.st.nk.2;rw [aag];omega,fun y l pm so hl=>?_⟩;have s0:du H (upd H l (.lst (y.map V.str))):=du.new hl;have sl:y.length≤8:=by rw [pm.length_eq,aag];exact m.st.nk.2
 refine ⟨l,rfl,⟨_,fM.of a_⟩,?_⟩;refine jr (xs:=y.map V.str) (fun i J o H'=>(∃ v,o=[v,some (.ref r.s.dk)])/\du (upd H l (.lst (y.map V.str))) H'/\Pd (fun x n=>∃ a t fs,x=.ref a/\ii Z.k H' a n t fs) J (y.take i)) (by rw [aag];exact aaj sl (by decide)) ⟨⟨none,rfl⟩,du.refl _,.nil⟩ (fun i J o H' _ z=>fM.of (z.2.1 _ _ a_)) ?_ ?_
 ·rintro i x J o M B X ⟨⟨v,rfl⟩,Y,pd⟩ N hN;rw [aaz] at B;obtain ⟨G,hn,rfl⟩:∃ G,y[i]?=some G/\V.str G=x:=by
   cases h:y[i]? with
   |none=>rw [h] at B;cases B
   |some G=>rw [h] at B;exact ⟨G,rfl,by simpa using B⟩
  have mn:G∈d.kn.map (·.1):=pm.mem_iff.mp (aaq hn);obtain ⟨j,hj⟩:=aa6.mp mn;have c:=hj;rw [aaz] at c;obtain ⟨p,hp,rfl⟩:∃ p,d.kn[j]?=some p/\p.1=G:=by
   cases h:d.kn[j]? with
   |none=>rw [h] at c;cases c
   |some p=>rw [h] at c;exact ⟨p,rfl,by simpa using c⟩
  have jl:j<r.s.ks.length:=by rw [m.st.kn.len];exact (aaQ.mp hp).1
  obtain ⟨p',U,⟨t,ka⟩,I,fo⟩:=m.st.kn.at (aaC jl);rw [hp] at U;cases U;have S1:=s0.trans Y;have ac:=ka.same S1;obtain ⟨⟨dk,ek⟩,xs,ht,pf⟩:=ac;have g:=o6.k (k:=Sum.inr p.1) (S1 _ _ m.st.ek);rw [O4 m.st.nk.1 (aaC jl) hj] at g;obtain ⟨na,nl⟩:=nU (Le I);dsimp only [fH,List.set];refine ⟨_,rfl,_,rfl,_,rfl,r.s.dk,_,rfl,g,_,Z.k,dk,_,_,rfl,ek,L.kc.cl,L.kc.nF,rfl,fun x D B O ae=>?_⟩;have T:du M (upd (upd M D (.own x)) x (.ins Z.k D [])):=fQ B O (fun b u e _=>e);have fl:p.2.length≤4:=by
   unfold kW at I;split at I
   ·split at I
    ·assumption
    ·cases I
   ·cases I
  refine ⟨x,D,t,p.1,xs,p.2,rfl,a_,by omega,zK na (by omega),kJ na (by omega),T _ _ ht,gF pf (du.kt (Z:=Z) T).tk,by omega,fo,fun _ H3 kk k3=>⟨rfl,?_⟩,fun i hi=>by rw [I] at hi;cases hi⟩;have s3:du M H3:=fQ B O k3;refine hN _ _ _ (by simpa using X) ⟨⟨_,rfl⟩,Y.trans s3,?_⟩;rw [aaX,hn];exact Pd.app (.cons ⟨x,t,p.2,rfl,kk⟩ .nil) (pd.map fun _ _ ⟨a,t,fs,e,k⟩=>⟨a,t,fs,e,k.same s3⟩)
 ·rintro J o M X ⟨_,Y,pd⟩;rw [aag] at X;rw [aag,ab7] at pd;refine ⟨by rw [X];exact aaj sl (by decide),fun l2 ab=>?_⟩;have T:du M (upd M l2 (.lst J)):=du.new ab;exact q _ _ ((s0.trans Y).trans T) ⟨l2,J,y,rfl,a_,pm,so,pd.map fun _ _ ⟨a,t,fs,e,k⟩=>⟨a,t,fs,e,k.same T⟩⟩
inductive Gu (Z:LC) (C S cL:Zl) (K:Zs) (vs:List V) (H:Hp) (Q:VK) (E:XK):Prop
 |mk (s:SX) (d:DX):vs=[.ref s.a]->sU Z C S cL K H s d->d.tr=[]->(∀ l H',du H H'->H' l=some (.lst [])->Q (.ref l) H')->Gu Z C S cL K vs H Q E
def W4:dC ["self"] ["self"] (b_ (sM 4)):=by ext
def RJ (F:iM K "looks" "Stand.looks" (sM 4) f O) (SZ:SZ K mg S):dw P w K mg base fG 1 f O ["self"] (Gu Z C S cL K):=by
 refine F.ok W4 (by ext) fun T A D s H vs Q E hr h=>?_;obtain ⟨a,d,rfl,B,M,q⟩:=h;refine ⟨_,dj (dX (zY (jf (g:=fH 0) (own:=["track"]) (js:=[]) (N':=["track"]) (eN.of (osc:=b_ (sM 4)) (N:=["self"]) rfl rfl (by ext)) rfl (Eh (z_ PySem.F.slot_dict_values PySem.F.type_dict_values Fo (dN (pv 0) (by rfl)))) (fun _ _ _ _ _=>(gn (i:=0) (show List.Nodup (["track"]:Y1) by ext) rfl (.inl rfl) (.inr rfl))) (fun _ _ _ _ _=>gH) (fun _ _ _ _ _=>Oh)))),?_⟩;obtain ⟨W,e⟩:=B.ob;have p:=B.et;rw [M,add.mp (by rw [B.lt,M];rfl:a.ts.length=0)] at p
 replace p:H a.dt=some (.dK []):=p
 refine ⟨a.dt,_,p,fun o=>?_⟩;have na:a.a≠a.dt:=B.na.2.1;refine ⟨_,rfl,a.a,S,W,_,_,rfl,(by rw [bK na];exact e),SZ.c,SZ.s4,rfl,⟨a.dt,o,_,rfl,a_⟩,a.dt,o,_,rfl,rfl,a_,fun vw j=>?_⟩;have G:a.dt≠vw:=di a_ j;have r:H vw=none:=by rw [bK G.symm] at j;exact j
 refine ⟨vw,a.dt,o,_,rfl,a_,(by rw [bK G];exact a_),?_⟩;have c:upd (upd H a.dt (.frz o (.dK []))) vw (vI vw a.dt) a.dt=some (.frz o (.dK [])):=by rw [bK G];exact a_
 have v:∀ b u,H b=some u->b≠a.dt->upd (upd H a.dt (.frz o (.dK []))) vw (vI vw a.dt) b=some u:=fun b u n U=>by rw [bK (di n r),bK U];exact n
 generalize upd (upd H a.dt (.frz o (.dK []))) vw (vI vw a.dt)=H0 at c v ⊢;refine zN (fun i y m I=>I=H0/\y=[]) (by decide) ⟨rfl,rfl⟩ (fun i y m I _ z=>by rw [z.1];exact c) ?_ ?_
 ·intro i x y m X Y;simp at Y
 ·rintro y m X hy ⟨rfl,rfl⟩;refine ⟨by decide,fun l J=>?_⟩;have nl:a.dt≠l:=di c J;refine ⟨by rw [bK nl];exact c,?_⟩;refine q l _ (fun b u n=>?_) (by rw [bK nl.symm];exact a_);by_cases z:b=a.dt
  ·subst z;rw [p] at n;cases n;exact a_
  ·have L:=v b u n z;rw [bK z,bK (di L J)];exact L
inductive yU (Z:LC) (C S cL R:Zl) (K:Zs) (vs:List V) (H:Hp) (Q:VK) (E:XK):Prop
 |mk (r:RX) (d:DX) (n:Nat):vs=[.ref r.a]->pM Z C S cL R K H r d n->d.tr=[]->(∀ H',du H H'->Q (.int 0) H')->yU Z C S cL R K vs H Q E
def Ye:dC ["self"] ["self"] (b_ (rM 37)):=by ext
noncomputable def R3 (F:iM K "__len__" "Recorder.__len__" (rM 37) f y) (T:Txt K mg) (RZ:RZ K mg R) (SZ:SZ K mg S) (o:MD K S "looks" "Stand.looks" (sM 4) ["self"] x a):dw P w K mg base fG 2 f y ["self"] (yU Z C S cL R K):=by have M:dw P w K mg base fG 1 x a ["self"] (Gu Z C S cL K):=RJ o.F SZ;refine F.ok Ye (by ext) fun z A b s H vs Q E B h=>?_;obtain ⟨r,d,n,rfl,j,O,q⟩:=h;refine ⟨_,dj (dX (dJ dY (by rfl) T.len gB (aK (Jz (g:=fH 0) (g2:=fH 1) (tt:=uP) (te:=iU 1) (wi2:=Js K (iU 0)) (own:=["told","thing"]) (js:=[]) (N':=["told","thing"]) (eN.of (osc:=b_ (rM 37)) (N:=["self"]) rfl rfl (by ext)) rfl (jx (gq (E:=E0) (dN (pv 0) rfl) SZ.c o.M M B o.b .nil dU)) (fun _ _ _ _ _=>(gn (i:=0) (show List.Nodup (["told","thing"]:Y1) by ext) rfl (.inl rfl) (.inr rfl))) (fun _ _ _ _ _=>gH) (fun _ _ _ _ _=>J4 rfl (pv 0)) (fun _ _=>rfl) (fun _ _ _ _ _=>(gn (i:=1) (show List.Nodup (["told","thing"]:Y1) by ext) rfl (.inl rfl) (.inr rfl))) (fun _ _ _ _ _=>Jr (d_ jq (fu (r:=Qo K) j6 (pv 1) dm) dD (eV _))) (fun _ _ _ _ _=>pv 1)) d9))),?_⟩;obtain ⟨U,e⟩:=j.ob;obtain ⟨W,X⟩:=j.st.ob;refine ⟨_,rfl,r.a,R,U,_,_,rfl,e,RZ.c,RZ.r1,rfl,r.s.a,W,_,rfl,X,rfl,r.s,d,rfl,j.st,O,fun l D G p=>?_⟩;refine ⟨l,rfl,⟨_,fM.of p⟩,?_⟩;refine ⟨fun i m v I J=>m=0-i/\J=D/\i=0/\v=[],⟨0,rfl,rfl,rfl,rfl⟩,?_⟩;rintro i m v I Y ⟨rfl,rfl,rfl,rfl⟩;refine .inl ⟨⟨_,fM.of p,aae _⟩,by decide,fun L c=>?_⟩;exact ⟨L,[],rfl,.inl (fM.of a_),q _ (G.trans (du.new c))⟩
def Xm:dC ["self"] ["self"] (b_ (rM 21)):=by ext
inductive Il (Z:LC) (C S cL R:Zl) (K:Zs) (vs:List V) (H:Hp) (Q:VK) (E:XK):Prop
 |mk (r:RX) (d:DX):vs=[.ref r.a]->pM Z C S cL R K H r d 0->(∀ l H',du H H'->H' l=some (.lst [])->Q (.ref l) H')->Il Z C S cL R K vs H Q E
def Lh (F:iM K "done" "Recorder.done" (rM 21) f p) (RZ:RZ K mg R):dw P w K mg base fG 1 f p ["self"] (Il Z C S cL R K):=by
 refine F.ok Xm (by ext) fun v A c s H vs Q E L h=>?_;obtain ⟨r,d,rfl,n,q⟩:=h;have m:List.Nodup (["deed","ahead"]:Y1):=by ext
 refine ⟨_,dj (dX (jf (g:=Fi K 2 (mV (fH 0) (mV (fH 1) Ff))) (own:=["deed","ahead"]) (js:=[]) (N':=["deed","ahead"]) (eN.of (osc:=b_ (rM 21)) (N:=["self"]) rfl rfl (by ext)) rfl (jx (dN (pv 0) rfl)) (fun _ _ _ _ _=>(jT rfl (eU (gn (i:=0) m rfl (.inl rfl) (.inr rfl)) (eU (gn (i:=1) m rfl (.inl rfl) (.inr rfl)) jg)))) (fun _ _ _ _ _=>gH) (fun _ _ _ _ _=>pv 0))),?_⟩;obtain ⟨G,e⟩:=n.ob;obtain ⟨I,o,J⟩:=n.ps;obtain rfl:=add.mp J;refine ⟨_,rfl,r.a,R,G,_,_,rfl,e,RZ.c,RZ.r2,rfl,r.pa,rfl,⟨_,fM.of o⟩,?_⟩;refine jr (xs:=[]) (fun i b a j=>j=H/\b=[]) (by decide) ⟨rfl,rfl⟩ (fun i b a j _ z=>by rw [z.1];exact fM.of o) (fun i x b a y B=>by simp at B) ?_;rintro b a y M ⟨rfl,rfl⟩;exact ⟨by decide,fun l D=>q l _ (du.new D) a_⟩
end
end Cm
namespace Cm
open PySem L2 PySem.W
noncomputable def Ma:Stmt->List Stmt
 |.For _ _ b _ _=>b
 |_=>[]
noncomputable def oG:Expr->Arguments
 |.Lambda p _ _ _=>p
 |_=>{ posonlyargs:=[],args:=[],vararg:=none,kwonlyargs:=[],kw_defaults:=[],kwarg:=none,defaults:=[] }
noncomputable def sY:Expr->Expr
 |.Lambda _ b _ _=>b
 |e=>e
noncomputable def jm:Expr->Scope
 |.Lambda _ _ s _=>s
 |_=>{ kind:=.function,names:=[],isGenerator:=false,isCoroutine:=false }
noncomputable def jR:Expr->Pos
 |.Lambda _ _ _ p=>p
 |_=>⟨0,0,0,0⟩
noncomputable def Zg:Expr:=.Constant .none 0 ⟨0,0,0,0⟩
noncomputable def Y0:Stmt:=.Pass ⟨0,0,0,0⟩
noncomputable def Km:Expr->Expr
 |.Subscript (.Call _ (e::_) _ _) _ _=>e
 |_=>Zg
noncomputable def uw:Stmt->Expr
 |.Assign _ (.List (e::_) _) _=>Km e
 |.Expr (.Call _ (e::_) _ _) _=>Km e
 |.If (.Compare e _ _ _) _ _ _=>Km e
 |.If (.BoolOp _ (.Compare e _ _ _::_) _) _ _ _=>Km e
 |_=>Zg
structure mZ (NL:Y1) (L:ZO):Prop where
 has:∀ q∈(jm L).names,(q.2=.cell∨q.2=.free)->q.1∈NL
 free:∀ x∈NL,(jm L).names.lookup x=some .free
 co:(jm L).isCoroutine=false
 gen:(jm L).isGenerator=false
 k:(jm L).kind=.function
 nc:∀ x∈(jm L).names,x.2≠.cell
structure Gw (K:Zs) (cT cV cS:Zl):Prop where
 nv:mroIn K cT (.ref cV)=some false
 se:mroIn K cT (.ref cS)=some true
 gt:FZ K cT "word"
def O8 (q:Str) (L:ZO) (c:YO) (d:ZH) (f:Zl) (H:Hp):Prop:=∃ a b,H f=some (lamO f (kla_obj "<lambda>" q (oG L) (sY L) (jm L) c d a b))/\H a=some (nO a q)
def YL (K:Zs) (d e cM:Zl) (Q:VK) (f:VK) (g:XK):Prop:=(∀ v a,f v a->∀ l,a l=none->Q (.ref l) (upd a l (.lst [.str "",v])))/\
 ∀ cls dd a,g cls dd a->∃ c b fs wd,cls=.ref c/\dd=some b/\a b=some (uN b fs)/\Hk K d e cM c fs wd/\∀ l,a l=none->Q (.ref l) (upd a l (.lst [.str wd,.non]))
def k_ (K:Zs) (d e cM:Zl) (q:Str) (L:ZO) (g:List Nat) (t:XK->TE) (h:YO) (i:ZH):St->List V->Hp->VK->Prop:=fun c vs H Q=>∃ f a b,vs=[.ref f]/\O8 q L h i f H/\t b (vK g c) H a/\YL K d e cM Q a b
def o8 {X:Cx} {S T:Zl} (_:o9 X S T) {q:Str} {b:Y1} {o:List Nat} {z B cM:Zl} {L:ZO} {e:YO} {C:ZH} {E:XK} {l:YI} {D:St} {H:Hp} {s:Zp} {vs:List V} {Q:VK} {t:XK->TE} (g:mZ b L)
 (c:∀ d i,bindArgs (kla_fn "<lambda>" q (oG L) (sY L) (jm L) e C (.ref d) i) ⟨[],[]⟩=pure [])
 (r:∀ p∈e,X.env.cells.lookup p.1=some p.2) (m:∀ x∈b,x∈e.map (·.1)) (v:∀ x,X.fn x=true) (n:∀ x∈b,X.env.scope.names.lookup x=some .cell) (U:o.map (fun j=>X.N[j]?)=b.map some) (w:X.stack=X.env::X.outer) (y:X.env.frame=some X.env.locals)
 (W:∀ (f d:Zl) (A:ZN) (a:List Env) (s:Zp) (H:Hp) (E:XK),eX 17 (A.deeper (envX q (jm L) s.heap.objs.size f (.ref d) e))->PE (rT X.prog X.w X.K X.mg X.base b q (jm L) f (.ref d) e A a s H E) (sY L) (t E))
 (I:Inv X l D H s) (h:k_ X.K z B cM q L o t e C D vs H Q):CG X.prog X.w X.K X.mg X.base 18 z B cM s X.stack vs H Q E:=by
 obtain ⟨f,J,M,rfl,⟨d,i,O,P⟩,h,R,k2⟩:=h;have Cl:=LR (scope:=jm L) (NL:=b) (js:=o) I r v (fun q F h=>m _ (g.has q F h)) g.free n (by rw [← U]) w y;exact ⟨f,J,M,rfl,Ge (N:=b) (k:=17) O P Cl (c _ _) g.co g.gen g.k g.nc (fun A a s G=>W f d A a s H _ G) h,R,k2⟩
def Kp (T:Zl) (H a:Hp):Prop:=∀ b u,H b=some u->b≠T->a b=some u
section
variable {H H' H1 H2:Hp} {T Tt Tm:Zl} {q q':Str} {LPS LPS':List Pos}
def Kp.trans (a:Kp T H H1) (b:Kp T H1 H2):Kp T H H2:=fun c u e n=>b c u (a c u e n) n
def du.kp (s:du H H'):Kp T H H':=fun b u e _=>s b u e
def Kp.nt (k:Kp T H H') (d:gD H T q LPS) (e:H b=some u) (n:∀ a,u≠.tbl a):H' b=some u:=by obtain ⟨f,c,_⟩:=d;exact k b u e (iJ e c (n _))
def gD.kp (h:gD H Tm q' LPS') (k:Kp T H H') (i:gD H T q LPS) (ne:Tm≠T):gD H' Tm q' LPS':=by
 obtain ⟨b,c,d,f⟩:=h;refine ⟨b,k _ _ c ne,d,fun a m=>?_⟩;rcases f a m with z|⟨g,z,e⟩
 ·exact .inl z
 ·exact .inr ⟨g,z,k.nt i e (by intro _ z;cases z)⟩
def gD.lst (h:gD H Tt q LPS) (e:H c=some (.lst a)):gD (upd H c o) Tt q LPS:=by
 obtain ⟨j,l,p,r⟩:=h;have f:∀ {b u},H b=some u->(∀ a,u≠.lst a)->upd H c o b=some u:=fun d n=>by rw [bK (iJ d e (n _))];exact d
 exact ⟨j,f l (by intro _ z;cases z),p,fun g m=>(r g m).imp id fun ⟨i,y,z⟩=>⟨i,y,f z (by intro _ z;cases z)⟩⟩
def _root_.L2.Tf.keepT (h:Tf H T d q c H1) (e:H b=some u) (ne:b≠T):H1 b=some u:=by
 obtain ⟨f,g,⟨_,a,_,rfl⟩|⟨_,a,rfl⟩⟩:=h
 ·rw [bK (di e a),bK ne];exact e
 ·exact e
def Ry {X:Cx} {L:ZO} {cl:YO} {m:St} {Q:VK} (i:X.env.qual++"<lambda>" = q) (j:gD H Tt q LPS) (g:jR L∈LPS)
 (k:∀ c d,Kp Tt H d->gD d Tt q LPS->O8 q L cl ((X.mg "__name__").getD .none) c d->Q (.ref c) d):JB X Tt (oG L) (sY L) (jm L) (jR L) cl m H Q:=by
 refine ⟨by rw [i];exact j.tab g,fun l n lm c f a=>?_⟩;rw [i] at lm ⊢;exact k c _ (fun b u e ne=>by have h:=lm.keepT e ne;rw [bK (di h a)];exact h) ((j.lam lm).same (du.new a)) ⟨l,f,a_,du.new a _ _ lm.code⟩
def Di (d:Str->Addr) (H:Hp) (b:Option Str):XK:=fun cls dd c=>∃ wd a,b=some wd/\cls=.ref (d wd)/\dd=some a/\c a=some (uN a [("word",.str wd)])/\du H c
def Di.rf:∀ wd,a=some wd->Rf b (Di b H a) H wd:=fun wd h e c f s t=>by obtain ⟨d,rfl⟩:=t;exact ⟨wd,c,h,rfl,rfl,a_,s.trans (du.new d)⟩
noncomputable def Nj {X:Cx} {C:Zl} (_:o9 X C Tt) {h i cM:Zl} {s:Str->Addr} {L:ZO} {g:YO} {j:List Nat} {t:XK->TE} {d:St} {Q:VK} {due:Option Str} {Af:V->Hp->Prop} (m:∀ wd,Gw X.K (s wd) h i) (D:X.env.qual++"<lambda>" = q) (E:gD H Tt q LPS) (n:jR L∈LPS)
 (F:∀ c,Kp Tt H c->gD c Tt q LPS->t (Di s c due) (vK j d) c fun v b=>due=none/\Af v b)
 (G:due=none->∀ v b l,Af v b->b l=none->Q (.str "") (upd b l (.lst [.str "",v])))
 (I:∀ wd,due=some wd->∀ b,Kp Tt H b->gD b Tt q LPS->Q (.str wd) b) :
 Ke (Bt X.K) (fun d H Q=>fV (JB X Tt (oG L) (sY L) (jm L) (jR L) g) iV d H fun vs c=>k_ X.K h i cM q L j t g ((X.mg "__name__").getD .none) d vs c Q) (tC (.int 0)) d H Q:=by
 show JB X Tt (oG L) (sY L) (jm L) (jR L) g d H fun x c=>k_ X.K h i cM q L j t g ((X.mg "__name__").getD .none) d [x] c fun y b=>Bt X.K y (.int 0) b Q;refine Ry D E n fun w c o p z=>?_;refine ⟨w,_,_,rfl,z,F c o p,fun v b a l f=>?_,fun cls dd b e=>?_⟩
 ·exact ⟨_,_,_,_,rfl,rfl,fM.of a_,rfl,G a.1 v b l a.2 f⟩
 ·obtain ⟨wd,A,hd,rfl,rfl,B,r⟩:=e;refine ⟨_,A,_,wd,rfl,rfl,B,.inr (.inl ⟨(m wd).nv,(m wd).se,(m wd).gt,?_⟩),fun l f=>?_⟩
  ·rw [abc,show (("word" : Str) == ("word" : Str))=true from by ext]
  ·exact ⟨_,_,_,_,rfl,rfl,fM.of a_,rfl,I wd hd _ (o.trans (du.kp (r.trans (du.new f)))) (p.same (r.trans (du.new f)))⟩
end
structure Cv (K:Zs) (C:Zl) (m:Str) (ps:Y1) (f:Zl) (fd:ZA):Prop where
 M:Meth K C m f
 b:Binds K fd ps []
section
variable {P:ZB} {w:ZE} {K:Zs} {mg:ZY} {base:ZI} {Z:LC} {C S cL R:Zl} {H H':Hp}
noncomputable def O5:PyData:=.list [.list [],.list [],.list [],.bool false,.none,.int 0,.list []]
inductive KY (Z:LC) (C S cL R:Zl) (K:Zs) (vs:List V) (H:Hp) (Q:VK) (E:XK):Prop
 |mk (r:RX) (p m:Int):vs=[.ref r.a]->pM Z C S cL R K H r (jZ p m) 0->(∀ v H',du H H'->Rep K H' v O5->Q v H')->KY Z C S cL R K vs H Q E
noncomputable abbrev Zd:List Str:=["_law_rec","_law_found","_law_lane","_law_some"]
def Gq:dC Zd ["_law_rec"] (b_ (top 128)):=by ext
def Lf (F:iM K "_law_tell" "_law_tell" (top 128) f fd) (T:Txt K mg) (RZ:RZ K mg R)
 (M1:Cv K R "lanes" ["self"] f1 fd1) (G1:dw P w K mg base fG 1 f1 fd1 ["self"] (yp Z C S cL R K (Tr (·.tr) false)))
 (M2:Cv K R "kinds" ["self"] f2 fd2) (G2:dw P w K mg base fG 9 f2 fd2 ["self"] (yp Z C S cL R K (Yj Z)))
 (M3:Cv K R "tallies" ["self"] f3 fd3) (G3:dw P w K mg base fG 1 f3 fd3 ["self"] (yp Z C S cL R K (Tr (·.ct) true)))
 (M4:Cv K R "stopped" ["self"] f4 fd4) (G4:dw P w K mg base fG 1 f4 fd4 ["self"] (yp Z C S cL R K (qV (.bl false))))
 (M5:Cv K R "halted_by" ["self"] f5 fd5) (G5:dw P w K mg base fG 1 f5 fd5 ["self"] (yp Z C S cL R K (qV .non)))
 (M6:Cv K R "__len__" ["self"] f6 fd6) (G6:dw P w K mg base fG 2 f6 fd6 ["self"] (yU Z C S cL R K))
 (M7:Cv K R "done" ["self"] f7 fd7) (G7:dw P w K mg base fG 1 f7 fd7 ["self"] (Il Z C S cL R K)):dw P w K mg base fG 11 f fd ["_law_rec"] (KY Z C S cL R K):=by
 refine F.ok Gq (by ext) fun J A ag s H vs Q E hr h=>?_;obtain ⟨r,p,m,rfl,j,q⟩:=h;have c:eX 1 _:=hr.mono (by decide);have ak:eX 9 _:=hr.mono (by decide);have al:eX 3 _:=hr.mono (by decide);refine ⟨_,d7 (jD 1 Gq.nd (gb (aK (gq (E:=E0) (pv 0) RZ.c M1.M G1 c M1.b .nil dU) (aK (jf (g:=fH 0) (own:=["_law_kind"]) (js:=[]) (N':=["_law_kind"]) (eN.of (osc:=b_ (top 128)) (N:=Zd) rfl rfl (by ext)) rfl (jx (gq (E:=E0) (pv 0) RZ.c M2.M G2 ak M2.b .nil dU)) (fun _ _ _ _ _=>(gn (i:=0) (show List.Nodup (["_law_kind"]:Y1) by ext) rfl (.inl rfl) (.inr rfl))) (fun _ _ _ _ _=>gH) (fun _ _ _ _ _=>Oh)) (aK (gq (E:=E0) (pv 0) RZ.c M3.M G3 c M3.b .nil dU) (aK (gq (E:=E0) (pv 0) RZ.c M4.M G4 c M4.b .nil dU) (aK (gq (E:=E0) (pv 0) RZ.c M5.M G5 c M5.b .nil dU) d9))))))) (d7 (jD 1 Gq.nd (fj Qu (pv 1) (gb (aK (dJ (G9 (E:=E0) ⟨M6.M.at_,M6.M.fn,G6,M6.b,dU⟩ al) (by rfl) T.len gB (aK (pv 0) d9)) (aK (gq (E:=E0) (pv 0) RZ.c M7.M G7 c M7.b .nil dU) d9))))) (d7 (lD abv rfl (jx (gq (E:=E0) (pv 0) RZ.c M1.M G1 c M1.b .nil dU)) (rZ 2 Gq.nd) uU) (d7 (lD abv rfl (jx (gq (E:=E0) (pv 0) RZ.c M3.M G3 c M3.b .nil dU)) (rZ 3 Gq.nd) uU) (dj (dX (pv 1)))))),?_⟩;obtain ⟨l,e⟩:=j.ob;have D:∀ {d},du H d->d r.a=some (.ins R l (Qy r.s.a r.pa r.un)):=fun s=>s _ _ e;refine ⟨_,rfl,r.a,l,_,rfl,e,rfl,r,_,0,rfl,j,fun v1 H1 s1 a1=>?_⟩;obtain ⟨G,aw,rfl,e1,ao,_⟩:=a1;obtain rfl:=aci ao;refine ⟨_,rfl,r.a,l,_,rfl,D s1,rfl,r,_,0,rfl,j.same s1,fun v2 H2 s2 a2=>?_⟩;obtain ⟨l2,ax,ay,rfl,e2,ap,_,aq⟩:=a2;obtain rfl:=aci ap;cases aq;refine ⟨l2,rfl,⟨_,fM.of e2⟩,jr (xs:=[]) (fun i ys a d=>d=H2/\ys=[]) (by decide) ⟨rfl,rfl⟩ (fun i ys a d _ z=>by rw [z.1];exact fM.of e2) (fun i x ys a H1 X=>by simp at X) ?_⟩;rintro ys a aC hy ⟨e9,rfl⟩;obtain rfl:=e9.symm;refine ⟨by decide,fun b B=>?_⟩;have v:=(s1.trans s2).trans (du.new (o:=.lst []) B);have aa:upd H2 b (.lst []) b=some (.lst []):=a_;have ab:=du.new (o:=.lst []) B _ _ (s2 _ _ e1);generalize upd H2 b (.lst [])=H3 at v aa ab ⊢;refine ⟨_,rfl,r.a,l,_,rfl,D v,rfl,r,_,0,rfl,j.same v,fun v3 H4 s4 a3=>?_⟩;obtain ⟨I,az,rfl,e3,ar,_⟩:=a3;obtain rfl:=aci ar;have S4:=v.trans s4;refine ⟨_,rfl,r.a,l,_,rfl,D S4,rfl,r,_,0,rfl,j.same S4,fun v4 H5 s5 a4=>?_⟩;obtain rfl:=a4;have S5:=S4.trans s5;refine ⟨_,rfl,r.a,l,_,rfl,D S5,rfl,r,_,0,rfl,j.same S5,fun v5 H6 s6 a5=>?_⟩;obtain rfl:=a5;have S6:=S5.trans s6;refine ⟨(by ext),fun Y ah=>?_⟩;have s7:du H6 (upd H6 Y (.lst [.ref G,.ref b,.ref I,.bl false,.non])):=du.new ah;have ef:upd H6 Y (.lst [.ref G,.ref b,.ref I,.bl false,.non]) Y=some (.lst [.ref G,.ref b,.ref I,.bl false,.non]):=a_;generalize upd H6 Y (.lst [.ref G,.ref b,.ref I,.bl false,.non])=H7 at s7 ef ⊢;have S7:=S6.trans s7;have ac:=((s4.trans s5).trans s6).trans s7;have E1:=ac _ _ ab;have E2:=ac _ _ aa;have E3:=((s5.trans s6).trans s7) _ _ e3;refine ⟨_,rfl,_,rfl,r.a,l,_,rfl,D S7,r,_,0,rfl,j.same S7,rfl,fun H8 s8=>⟨0,rfl,by decide,?_⟩⟩;refine ⟨_,rfl,r.a,l,_,rfl,D (S7.trans s8),rfl,r,_,rfl,j.same (S7.trans s8),fun n O s9 e4=>?_⟩;have S9:=(S7.trans s8).trans s9;have ad:=s8.trans s9;refine ⟨(by ext),fun U ai=>?_⟩;have ae:du O (upd O U (.lst [.int 0,.ref n])):=du.new ai;refine ⟨Y,U,_,_,rfl,rfl,ae _ _ (ad _ _ ef),a_,(by ext),fun W aj=>?_⟩;have af:du (upd O U (.lst [.int 0,.ref n])) (upd (upd O U (.lst [.int 0,.ref n])) W (.lst ([.ref G,.ref b,.ref I,.bl false,.non]++[.int 0,.ref n]))):=du.new aj;have eh:upd (upd O U (.lst [.int 0,.ref n])) W (.lst ([.ref G,.ref b,.ref I,.bl false,.non]++[.int 0,.ref n])) W=some (.lst [.ref G,.ref b,.ref I,.bl false,.non,.int 0,.ref n]):=a_;generalize upd (upd O U (.lst [.int 0,.ref n])) W (.lst ([.ref G,.ref b,.ref I,.bl false,.non]++[.int 0,.ref n]))=HA at af eh ⊢;have L:=ae.trans af;have SA:=S9.trans L;have am:=ad.trans L;refine ⟨_,rfl,r.a,l,_,rfl,D SA,rfl,r,_,0,rfl,j.same SA,fun v6 HB sB a6=>?_⟩;obtain ⟨l6,aA,rfl,e6,au,_⟩:=a6;obtain rfl:=aci au;have SB:=SA.trans sB;refine ⟨l6,rfl,⟨_,fM.of e6⟩,lY (xs:=[]) (fun i a d=>a=[some (.ref r.a),some (.ref W),none,none]/\d=HB) ⟨rfl,rfl⟩ (fun i a d _ z=>by rw [z.2];exact fM.of e6) (fun i x a H1 X=>by simp at X) ?_⟩;rintro a aD ⟨rfl,e9⟩;obtain rfl:=e9.symm;refine ⟨_,rfl,r.a,l,_,rfl,D SB,rfl,r,_,0,rfl,j.same SB,fun v7 HC sC a7=>?_⟩;obtain ⟨l7,aB,rfl,e7,av,_⟩:=a7;obtain rfl:=aci av;refine ⟨l7,rfl,⟨_,fM.of e7⟩,lY (xs:=[]) (fun i a d=>a=[some (.ref r.a),some (.ref W),none,none]/\d=HC) ⟨rfl,rfl⟩ (fun i a d _ z=>by rw [z.2];exact fM.of e7) (fun i x a H1 X=>by simp at X) ?_⟩;rintro a aE ⟨rfl,e9⟩;obtain rfl:=e9.symm;have y:=sB.trans sC;have M:=am.trans y;refine ⟨_,rfl,q _ _ (SA.trans y) (.lst (fM.of (y _ _ eh)) (.cons (.lst (fM.of (M _ _ E1)) .nil) (.cons (.lst (fM.of (M _ _ E2)) .nil) (.cons (.lst (fM.of (M _ _ E3)) .nil) (.cons (.bl _) (.cons .non (.cons (.int _) (.cons (.lst (fM.of ((L.trans y) _ _ e4)) .nil) .nil))))))))⟩
end
def Mt (u:HO):Prop:=(∃ b,u=.lst b)∨∃ a,u=.dK a
def Mt.nt (h:Mt u):Nt u:=by rcases h with ⟨_,rfl⟩|⟨_,rfl⟩ <;> (intro _ z;cases z)
abbrev qL:Str:="law.<locals>."++"<lambda>"
abbrev qF:Str:="_law_full_words.<locals>."++"<lambda>"
noncomputable def Rq (i:Nat):Stmt:=(dI (top 130)).getD i Y0
noncomputable def Fl (i:Nat):Stmt:=(Ma (Rq 8)).getD i Y0
noncomputable def QR (i:Nat):Stmt:=(dI (top 129)).getD i Y0
noncomputable def Nx:Expr:=uw (Rq 4)
noncomputable def lamO:Expr:=uw (Rq 12)
noncomputable def HQ:Expr:=uw (Fl 1)
noncomputable def Gv:Expr:=uw (Fl 2)
noncomputable def Jl:Expr:=uw (Fl 3)
noncomputable def Iv:Expr:=uw (Fl 8)
noncomputable def Ju:Expr:=uw (Fl 9)
noncomputable def Jk:Expr:=uw (Fl 10)
noncomputable def Lk:Expr:=uw (QR 0)
noncomputable def Mw:Expr:=uw (QR 1)
noncomputable def Li:Expr:=uw (QR 2)
noncomputable abbrev uH:List Pos:=[jR Nx,jR lamO,jR HQ,jR Gv,jR Jl,jR Iv,jR Ju,jR Jk]
noncomputable abbrev Gn:List Pos:=[jR Lk,jR Mw,jR Li]
structure L0 (Tt Tm:Zl) (H:Hp) (p dc:Zl):Prop where
 dr:Dr H p dc
 tb:gD H Tt qL uH
 tm:gD H Tm qF Gn
def L0.same (h:L0 a b H p c) (s:du H d):L0 a b d p c:=⟨h.dr.mono s,h.tb.same s,h.tm.same s⟩
def L0.but (h:L0 g i H p e) (B:iz p H b) (D:Dr b p e):L0 g i b p e:=
 have a:∀ c v,H c=some v->(∀ d,v≠.dK d)->b c=some v:=fun c v f a=>B c v f (h.dr.ne f a)
 ⟨D,h.tb.keep a,h.tm.keep a⟩
noncomputable def L0.kp (h:L0 a b H p d) (k:Cm.Kp a H c) (t:gD c a qL uH) (n:b≠a):L0 a b c p d:=by obtain ⟨e,ba,f,bs,g,i,rest⟩:=h.dr.ex;exact ⟨⟨e,ba,f,bs,k.nt h.tb g (by intro _ z;cases z),k.nt h.tb i (by intro _ z;cases z),rest⟩,t,gD.kp h.tm k h.tb n⟩
structure Wr (Z:LC) (C S cL R:Zl) (K:Zs) (Tt Tm:Zl) (H0 H:Hp) (p dc:Zl) (r:RX) (d:DX) (n:Nat) (M:List (Addr×HO)):Prop where
 rc:pM Z C S cL R K H r d n
 dr:Dr H p dc
 tb:gD H Tt qL uH
 tm:gD H Tm qF Gn
 old:∀ b u,H0 b=some u->b≠p->b≠Tt->b≠Tm->H b=some u
 zr:H0 r.a=none/\H0 r.pa=none/\H0 r.un=none
 hp:∃ u,H0 p=some u
 hd:∃ u,H0 dc=some u
 ht:(∃ u,H0 Tt=some u)/\∃ u,H0 Tm=some u
 ev:∀ q∈M,H q.1=some q.2/\Mt q.2/\H0 q.1=none/\q.1≠r.a/\q.1≠r.pa/\q.1≠r.un
 fr:∀ b∈p::M.map (·.1),b∉r.s.all
 nd:(M.map (·.1)).Nodup
def iz.upd:iz b H (upd H b o):=fun c v e n=>by rw [bK n];exact e
noncomputable def pM.keep (h:pM Z C S g R K H r d n) (k:∀ b u,H b=some u->(b=r.a∨b=r.pa∨b=r.un∨R5 Z r.s b u)->i b=some u):pM Z C S g R K i r d n:=by obtain ⟨a,e⟩:=h.ob;obtain ⟨c,f,l⟩:=h.ps;exact ⟨⟨a,k _ _ e (.inl rfl)⟩,⟨c,k _ _ f (.inr (.inl rfl)),l⟩,k _ _ h.un (.inr (.inr (.inl rfl))),h.st.keep fun b u e s=>k b u e (.inr (.inr (.inr s))),h.ne⟩
def pM.but (h:pM Z C S j R K H r d n) (a:b≠r.a) (f:b≠r.pa) (g:b≠r.un) (i:b∉r.s.all) (e:H b=some u) (m:Mt u) (B:iz b H l):pM Z C S j R K l r d n:=
 h.keep fun c v h s=>B c v h fun z=>by
  subst z;rw [e] at h;cases h;rcases s with s|s|s|s|⟨_,s⟩|⟨_,_,s⟩|⟨_,_,s⟩
  ·exact a s
  ·exact f s
  ·exact g s
  ·exact i s
  all_goals (rcases m with ⟨_,rfl⟩|⟨_,rfl⟩ <;> cases s)
def pM.nt (h:pM Z C S j R K H r d n) (k:∀ b u,H b=some u->Nt u->l b=some u):pM Z C S j R K l r d n:=by
 obtain ⟨g,c⟩:=h.ob;obtain ⟨i,f,_⟩:=h.ps;refine h.keep fun b u e s=>k b u e ?_;rcases s with rfl|rfl|rfl|s|⟨_,rfl⟩|⟨_,_,rfl⟩|⟨_,_,rfl⟩
 ·rw [c] at e;cases e;intro _ z;cases z
 ·rw [f] at e;cases e;intro _ z;cases z
 ·rw [h.un] at e;cases e;intro _ z;cases z
 ·obtain ⟨v,a,nt⟩:=h.st.here b s;rw [e] at a;cases a;exact nt
 all_goals (intro _ z;cases z)
def Wr.pne (h:Wr Z C S b R K f a g H p c r d n M):p≠r.a/\p≠r.pa/\p≠r.un:=by obtain ⟨u,e⟩:=h.hp;exact ⟨di e h.zr.1,di e h.zr.2.1,di e h.zr.2.2⟩
def Wr.same (h:Wr Z C S f R K j c l H p i r d n M) (s:du H g):Wr Z C S f R K j c l g p i r d n M:=
 ⟨h.rc.same s,h.dr.mono s,h.tb.same s,h.tm.same s,fun b u e n t a=>s _ _ (h.old b u e n t a),h.zr,h.hp,h.hd,h.ht,fun q m=>⟨s _ _ (h.ev q m).1,(h.ev q m).2⟩,h.fr,h.nd⟩
def Wr.kp (h:Wr Z C S A R K y x D H p B r d n M) (k:∀ b u,H b=some u->b≠y->b≠x->w b=some u) (o:gD w y qL uH) (s:gD w x qF Gn):Wr Z C S A R K y x D w p B r d n M:=by
 obtain ⟨c,ba,f,bs,g,i,rest⟩:=h.dr.ex;obtain ⟨pt,j,_⟩:=h.tb;obtain ⟨v,l,_⟩:=h.tm;have k0:=k
 replace k:∀ b u,H b=some u->Nt u->w b=some u:=fun b u e n=>k b u e (iJ e j (n _)) (iJ e l (n _))
 exact ⟨h.rc.nt k,⟨c,ba,f,bs,k _ _ g (by intro _ z;cases z),k _ _ i (by intro _ z;cases z),rest⟩,o,s,fun b u e n t a=>k0 _ _ (h.old b u e n t a) t a,h.zr,h.hp,h.hd,h.ht,fun q m=>⟨k _ _ (h.ev q m).1 (h.ev q m).2.1.nt,(h.ev q m).2⟩,h.fr,h.nd⟩
noncomputable def Wr.but (h:Wr Z C S w R K x s y H p o r d n M) (B:iz p H l) (D:Dr l p o):Wr Z C S w R K x s y l p o r d n M:=by obtain ⟨a,e⟩:=h.dr.dk;obtain ⟨u,j⟩:=h.hp;have f:∀ c v,H c=some v->(∀ a,v≠.dK a)->l c=some v:=fun c v g f=>B c v g (h.dr.ne g f);exact ⟨h.rc.but h.pne.1 h.pne.2.1 h.pne.2.2 (h.fr p (aao ..)) e (.inr ⟨_,rfl⟩) B,D,h.tb.keep f,h.tm.keep f,fun b u e n t i=>B _ _ (h.old b u e n t i) n,h.zr,h.hp,h.hd,h.ht,fun q m=>⟨B _ _ (h.ev q m).1 (di j (h.ev q m).2.2.1).symm,(h.ev q m).2⟩,h.fr,h.nd⟩
def Wr.upd (h:Wr Z C S cL R K Tt Tm H0 H p dc r d n M) (m:M[i]?=some (b,u)) (mo:Mt o):Wr Z C S cL R K Tt Tm H0 (upd H b o) p dc r d n (M.set i (b,o)):=by
 have s:=aaq m;obtain ⟨e,D,z,E,F,G⟩:=h.ev _ s;have B:iz b H (L2.upd H b o):=iz.upd;obtain ⟨x,P⟩:=h.hp;obtain ⟨y,Q⟩:=h.hd;have tk:∀ {T q g},gD H T q g->(∃ u,H0 T=some u)->gD (L2.upd H b o) T q g:=fun {T q g} t ⟨v,I⟩=>by
  obtain ⟨U,W,X,Y⟩:=t;refine ⟨U,B _ _ W (di I z),X,fun J m=>?_⟩;rcases Y J m with w|⟨c',w,l⟩
  ·exact .inl w
  ·exact .inr ⟨c',w,B _ _ l fun q=>by rw [q,e] at l;cases l;rcases D with ⟨_,w⟩|⟨_,w⟩ <;> cases w⟩
 have A:(M.set i (b,o)).map (·.1)=M.map (·.1):=by
  rw [List.map_set];refine List.ext_getElem? fun j=>?_;rw [ac8];by_cases f:i=j
  ·subst f;rw [aac rfl,aaz,m,aag,aac (aaQ.mp m).1];rfl
  ·rw [aab f]
 refine ⟨h.rc.but E F G (h.fr b (aan _ (aaB.mpr ⟨_,s,rfl⟩))) e D B,h.dr.put (di P z).symm (di Q z).symm,tk h.tb h.ht.1,tk h.tm h.ht.2,fun c v e n t L=>B _ _ (h.old c v e n t L) (di e z),h.zr,h.hp,h.hd,h.ht,fun q N=>?_,by rw [A];exact h.fr,by rw [A];exact h.nd⟩;obtain ⟨j,a⟩:=aa6.mp N;rw [ac8] at a;by_cases f:i=j
 ·rw [aac f] at a;split at a
  ·cases a;exact ⟨a_,mo,z,E,F,G⟩
  ·cases a
 ·rw [aab f] at a;have:=h.ev q (aaq a);refine ⟨B _ _ this.1 fun w=>f ?_,this.2⟩;have O:=(aaQ.mp m).1;exact (adf (by rw [aag];exact O) h.nd).mp (by rw [aaz,aaz,m,a];simp [w])
theorem Wr.fresh (h:Wr Z C S o R K m l j H p s r d n M) (e:H b=none):j b=none:=by
 cases z:j b with
 |none=>rfl
 | some u=>
   exfalso;obtain ⟨pt,a,_⟩:=h.tb;obtain ⟨i,c,_⟩:=h.tm;by_cases q:b=p
   ·obtain ⟨f,g⟩:=h.dr.dk;rw [q,g] at e;cases e
   ·by_cases q1:b=m
    ·rw [q1,a] at e;cases e
    ·by_cases q2:b=l
     ·rw [q2,c] at e;cases e
     ·rw [h.old b u z q q1 q2] at e;cases e
def Wr.new (h:Wr Z C S A R K D y E H p B r d n M) (e:H b=none) (m:Mt o):Wr Z C S A R K D y E (L2.upd H b o) p B r d n (M++[(b,o)]):=by
 obtain ⟨w,l⟩:=h.rc.ob;obtain ⟨x,s,_⟩:=h.rc.ps;have W:=h.same (du.new (o:=o) e);have i:∀ {c u},H c=some u->b≠c:=fun q=>(di q e).symm;refine ⟨W.rc,W.dr,W.tb,W.tm,W.old,W.zr,W.hp,W.hd,W.ht,fun q g=>?_,fun c f=>?_,?_⟩
 ·rcases aam.mp g with g|g
  ·exact W.ev q g
  ·cases aak.mp g;exact ⟨a_,m,h.fresh e,i l,i s,i h.rc.un⟩
 ·rw [aaI] at f;rcases aah.mp f with rfl|f
  ·exact h.fr _ (aao ..)
  ·rcases aam.mp f with f|f
   ·exact h.fr c (aan _ f)
   ·have:c=b:=by simpa using f
    subst this;intro z;obtain ⟨v,q,_⟩:=h.rc.st.here c z;exact i q rfl
 ·rw [aaI];refine abn.mpr ⟨h.nd,by simp,fun a j c f z=>?_⟩;obtain ⟨q,g,rfl⟩:=aaB.mp j;have:c=b:=by simpa using f
  exact i (h.ev q g).1 (this.symm.trans z.symm)
def Wr.drop (h:Wr Z C S c R K f a g H p e r d n (M++M')):Wr Z C S c R K f a g H p e r d n M:=
 ⟨h.rc,h.dr,h.tb,h.tm,h.old,h.zr,h.hp,h.hd,h.ht,fun q m=>h.ev q (aaG _ m),fun b m=>h.fr b (by
  rcases aah.mp m with rfl|m
  ·exact aao ..
  ·exact aan _ (by rw [aaI];exact aaG _ m)),by
  have:=h.nd;rw [aaI] at this;exact (abn.mp this).1⟩
def Wr.rcn (h:Wr Z C S cL R K Tt Tm H0 H p dc r d n M) (k:K6 Z C S cL R K r n H d' H'):∃ c,c.a=r.a/\Wr Z C S cL R K Tt Tm H0 H' p dc c d' (n+1) M:=by
 obtain ⟨c,i,l,o,G,kk,s⟩:=k;obtain ⟨x,ex⟩:=h.hp;obtain ⟨y,j⟩:=h.hd;have z1:∀ {b u},H0 b=some u->b≠r.a/\b≠r.pa/\b≠r.un:=fun e=>⟨di e h.zr.1,di e h.zr.2.1,di e h.zr.2.2⟩;have tk:∀ {T q f},gD H T q f->(∃ u,H0 T=some u)->gD H' T q f:=fun {T q f} t ⟨v,g⟩=>by
  obtain ⟨I,J,L,N⟩:=t;obtain ⟨dx,O⟩:=h.rc.ob;obtain ⟨xs,P,_⟩:=h.rc.ps;refine ⟨I,kk _ _ J (z1 g).1 (z1 g).2.1 (z1 g).2.2,L,fun E m=>?_⟩;rcases N E m with w|⟨c',w,a⟩
  ·exact .inl w
  ·refine .inr ⟨c',w,kk _ _ a (fun q=>?_) (fun q=>?_) fun q=>?_⟩
   ·rw [q,O] at a;cases a
   ·rw [q,P] at a;cases a
   ·rw [q,h.rc.un] at a;cases a
 refine ⟨c,i,G,?_,tk h.tb h.ht.1,tk h.tm h.ht.2,fun b u e n t F=>kk _ _ (h.old b u e n t F) (z1 e).1 (z1 e).2.1 (z1 e).2.2,by rw [i,l,o];exact h.zr,h.hp,h.hd,h.ht,fun q m=>?_,fun b m=>?_,h.nd⟩
 ·obtain ⟨Q,ba,U,bs,W,X,rest⟩:=h.dr.ex;exact ⟨Q,ba,U,bs,kk _ _ W h.pne.1 h.pne.2.1 h.pne.2.2,kk _ _ X (z1 j).1 (z1 j).2.1 (z1 j).2.2,rest⟩
 ·obtain ⟨e,Y,z,A,B,D⟩:=h.ev q m;exact ⟨kk _ _ e A B D,Y,z,by rw [i];exact A,by rw [l];exact B,by rw [o];exact D⟩
 ·rcases aah.mp m with rfl|m
  ·obtain ⟨aa,e⟩:=h.dr.dk;exact s _ _ e
  ·obtain ⟨q,mq,rfl⟩:=aaB.mp m;exact s _ _ (h.ev q mq).1
section
variable {P:ZB} {w:ZE} {K:Zs} {mg:ZY} {base:ZI} {Z:LC} {C S cL R:Zl} {H H' H1:Hp} {cw:Str->Addr} {r:RX} {d:DX} {n:Nat} {nm:Str} {due:Option Str}
noncomputable def Io (e:pM Z C S cL R K H r d n) (nl:n≤900) (f:ju nm) (g:nm.length≤40) (hd:uL nm d=due) (s:du H1 H) (q:due=none->∀ a,K6 Z C S cL R K r n H { d with tr:=d.tr++[nm] } a->Q .non a):mC Z C S cL R K cw [.ref r.a,.str nm,.bl b] H Q (Di cw H1 due):=
 ⟨r,d,n,nm,b,rfl,e,nl,f,g,fun h c k=>q (hd.symm.trans h) c k,fun wd h=>(Di.rf wd (hd.symm.trans h)).up s⟩
noncomputable def yw (i:pM Z C S cL R K H r d n) (nl:n≤900) (j:ju nm) (l:nm.length≤40) (c:H a=some (.tup b)) (m:Paired (iG H) b fs) (o:fs.length≤100) (p:∀ f∈fs,uM f) (hd:qg nm fs d=due) (s:du H1 H) (q:due=none->∀ e,K6 Z C S cL R K r n H { d with kn:=d.kn++[(nm,fs)] } e->Q .non e):jK Z C S cL R K cw [.ref r.a,.str nm,.ref a] H Q (Di cw H1 due):=
 ⟨r,d,n,nm,a,b,fs,rfl,i,nl,j,l,c,m,o,p,fun h g k=>q (hd.symm.trans h) g k,fun wd h=>(Di.rf wd (hd.symm.trans h)).up s⟩
noncomputable def rz (f:pM Z C S cL R K H r d n) (nl:n≤900) (g:ju nm) (i:nm.length≤40) (j:Rep K H x e) (l:TD e) (m:gC K H a (ys.map V.str)) (o:ys.length≤20) (p:∀ y∈ys,ju y/\y.length≤40) (v:kj ys=true->ys=[]) (hd:rR nm e ys d=due) (s:du H1 H) (q:due=none->∀ b,K6 Z C S cL R K r n H { d with ct:=d.ct++[nm] } b->Q .non b):j9 Z C S cL R K cw [.ref r.a,.str nm,x,.ref a] H Q (Di cw H1 due):=
 ⟨r,d,n,nm,x,a,e,ys,rfl,f,nl,g,i,j,l,m,o,p,v,fun h c k=>q (hd.symm.trans h) c k,fun wd h=>(Di.rf wd (hd.symm.trans h)).up s⟩
def m5 (h:nameB nm=true) (m:nm∉a):lJ nm a=none:=by unfold lJ;rw [aac h,aab m]
def qi (h:nameB nm=false):lJ nm a=some ("badname" : Str):=by unfold lJ;rw [aab (by rw [h];decide)]
def Hr (h:lJ nm d.ct=none) (t:lG e=false):rR nm e a d=some ("badtest" : Str):=by unfold rR pJ;rw [h,aab (by rw [t];decide)];rfl
def Hd (h:lJ nm d.ct=none) (t:lG e=true) (k:kj a=false):rR nm e a d=some ("badkeys" : Str):=by unfold rR pJ;rw [h,aac t,aab (by rw [k];decide)];rfl
def NQ {e:PyData} {a:Y1} {wd:Str} (h:lJ nm d.ct=some wd):rR nm e a d=some wd:=by unfold rR;rw [h];rfl
def C_ {fs:List lU} {wd:Str} (h:lJ nm (d.kn.map (·.1))=some wd):qg nm fs d=some wd:=by unfold qg;rw [h];rfl
def tZ (a:ju x) (l:x.length≤24) (e:-1000≤b/\b≤1000) (f:-1000≤c/\c≤1000):uM (x,b,c):=Dw ⟨l,a,by simp only [ni];omega,by simp only [ni];omega⟩
def La (h:t a H fun x b=>[x].length≤sizeLine/\∀ p,b p=none->g (.ref p) a (upd b p (.lst [x])) (u D)):Gy (Ej (U4 (fV t iV)) g) u D a H:=h
def CQ (j:a[i]?=some (some (.ref b))) (e:H b=some (.lst c)) (h:t a H fun y f=>xO (.ref b) [y] f fun _ g=>u D a g):Gy (Oe (Zu K "list" xO (iU i) (fV t iV))) u D a H:=⟨_,j,.inl ⟨rfl,c,fM.of e⟩,h⟩
structure Vo (K:Zs) (C:Zl) (m:Str) (ps:Y1) (dvs:List V) (f:Zl) (fd:ZA) (ds:Y2):Prop where
 M:Meth K C m f
 b:Binds K fd ps ds
 v:Vals dvs ds
noncomputable abbrev NF:List Str:=["_law_rec","_law_some","_law_words_here"]
abbrev Gm:List Str:=["_law_rec","_law_some"]
def Ur:dC NF ["_law_rec","_law_some"] (b_ (top 129)):=by ext
def Rc:mZ Gm Lk:=⟨by ext,by ext,rfl,rfl,rfl,by ext⟩
def Ql:mZ Gm Mw:=⟨by ext,by ext,rfl,rfl,rfl,by ext⟩
def RM:mZ Gm Li:=⟨by ext,by ext,rfl,rfl,rfl,by ext⟩
noncomputable def Ep (n:Nat):List (Str×Addr):=[("_law_some",n+1+1),("_law_rec",n+1)]
inductive Mj (Z:LC) (C S cL R:Zl) (K:Zs) (Tm:Zl) (vs:List V) (H:Hp) (Q:VK) (E:XK):Prop
 |mk (r:RX) (d:DX) (n:Nat) (nm:Str):vs=[.ref r.a,.str nm]->pM Z C S cL R K H r d n->n≤900->gD H Tm qF Gn->nameB nm=true->nm∉d.ct->(∀ l H',Kp Tm H H'->gD H' Tm qF Gn->H l=none->H' l=some (.lst [.str "badtest",.str "badkeys",.str "badname"])->Q (.ref l) H')->Mj Z C S cL R K Tm vs H Q E
def LQ {f c B fTy fKi fA cB cS cM ka:Zl} {F W fdA:ZA} {oc kV doc pm ct:ZH} {od an:YA} {osl:YU} {dsT:Y2}
 (lk:K.lookup f=some ⟨oc,od,.func (fnOf "_law_full_words" "_law_full_words" (dM (top 129)) (dI (top 129)) (b_ (top 129)) .none kV doc pm an (.ref c) ct),osl⟩) (hcd:codeIn K (.ref c) "_law_full_words" = true)
 (HT:CodeHd base c B) (HB:base.BuiltinsAt mg B) (HG:mainGlobals≠B) (RZ:RZ K mg R) (BT:∀ wd,Gw K (cw wd) cB cS)
 (N:Vo K R "tally" ["self","name","test","keys"] [.ref ka] fTy F dsT) (kbT:jF K F ["self","name","test","keys"] ["keys"] gT WX) (GTy:dw P w K mg base (jt P w) 17 fTy F ["self","name","test","keys"] (j9 Z C S cL R K cw)) (hka:∀ H,gC K H ka [])
 (MKi:Cv K R "kind" ["self","name","fields"] fKi W) (GKi:dw P w K mg base (jt P w) 17 fKi W ["self","name","fields"] (jK Z C S cL R K cw))
 (GA:sZ P w K mg base fG 19 fA fdA ["_law_ask_here"] (CG P w K mg base 18 cB cS cM)) (hA:mg "_law_ask" = some (.ref fA)) (kA:keepIn K (.ref fA)=true) (bA:Binds K fdA ["_law_ask_here"] []) :
 dw P w K mg base fG 20 f (fnOf "_law_full_words" "_law_full_words" (dM (top 129)) (dI (top 129)) (b_ (top 129)) .none kV doc pm an (.ref c) ct) ["_law_rec","_law_some"] (Mj Z C S cL R K B):=by
 refine uT lk hcd Ur (by ext) fun A g s H vs Q E J h=>?_;obtain ⟨r,d,n,nm,rfl,rc,nl,tb,hn,hc,q⟩:=h;have M:o9 (i_ fG P w K mg base NF "_law_full_words" (b_ (top 129)) f (.ref c) A g s H E) c B:=⟨rfl,HT,HB,HG⟩;have h1:∀ q∈Ep s.heap.objs.size,(PyProof.Rows.envOfC "_law_full_words" (b_ (top 129)) s.heap.objs.size f (.ref c)).cells.lookup q.1=some q.2:=by
  intro q hq;rcases aah.mp hq with rfl|hq
  ·rfl
  ·cases aak.mp hq;rfl
 have Y:∀ x∈Gm,x∈(Ep s.heap.objs.size).map (·.1):=(show ∀ x∈Gm,x∈(Ep 0).map (·.1) by ext);have h3:∀ x∈Gm,(b_ (top 129)).names.lookup x=some .cell:=by ext
 refine ⟨_,d7 (jD 2 Ur.nd (gb (aK (fu eZ (iW (E:=E0) (r:=k_ K cB cS cM qF Lk [0,1] (fun E=>m_ R "tally" (j9 Z C S cL R K cw) [.ref ka] E (iU 0) (fV (iU 1) (fV (sE (fV (tC (.str "none")) iV)) iV))) (Ep s.heap.objs.size) ((mg "__name__").getD .none)) GA J (by rfl) hA kA bA dU (fun O σ H s' vs Q I h=>o8 M Rc (fun _ _=>rfl) h1 Y (fun _=>rfl) h3 rfl rfl rfl (fun f c' A g s H E J=>jh (E:=E) (pv 0) RZ.c N.M GTy J N.b N.v (nQ fun _ _ _ h=>h) (aK (pv 1) (aK (gA (aK dD d9)) d9))) I h) (aK (lg M rfl rfl) d9)) dm) d9))) (d7 (dZ (lu aaZ aa5 abe ik (pv 2) (aK (fu eZ (iW (E:=E0) (r:=k_ K cB cS cM qF Mw [0,1] (fun E=>G_ R "tally" (j9 Z C S cL R K cw) WX E (iU 0) (fV (iU 1) (fV (sE (fV (tC (.str "all")) iV)) iV)) (fV (sE (fV (tC (.str "a")) (fV (tC (.str "a")) iV))) iV)) (Ep s.heap.objs.size) ((mg "__name__").getD .none)) GA J (by rfl) hA kA bA dU (fun O σ H s' vs Q I h=>o8 M Ql (fun _ _=>rfl) h1 Y (fun _=>rfl) h3 rfl rfl rfl (fun f c' A g s H E J=>JP (E:=E) (pv 0) RZ.c N.M GTy J kbT (nQ fun _ _ _ h=>h) (aK (pv 1) (aK (gA (aK dD d9)) d9)) (jJ (gA (aK dD (aK dD d9))) uf)) I h) (aK (lg M rfl rfl) d9)) dm) d9))) (d7 (dZ (lu aaZ aa5 abe ik (pv 2) (aK (fu eZ (iW (E:=E0) (r:=k_ K cB cS cM qF Li [0,1] (fun E=>m_ R "kind" (jK Z C S cL R K cw) [] E (iU 0) (fV (Ke (fun x y H Q=>∃ i j,x=.str i/\y=.str j/\i.length+j.length≤sizeLine/\Q (.str (i++j)) H) (iU 1) (tC (.str "A"))) (fV (sE (fV (sE (fV (tC (.str "a")) (fV (tC (.int 1)) (fV (tC (.int 0)) iV)))) iV)) iV))) (Ep s.heap.objs.size) ((mg "__name__").getD .none)) GA J (by rfl) hA kA bA dU (fun O σ H s' vs Q I h=>o8 M RM (fun _ _=>rfl) h1 Y (fun _=>rfl) h3 rfl rfl rfl (fun f c' A g s H E J=>jh (E:=E) (pv 0) RZ.c MKi.M GKi J MKi.b .nil (nQ fun _ _ _ h=>h) (aK (fj gU (pv 1) dD) (aK (gA (aK (gA (aK dD (aK dm (aK dm d9)))) d9)) d9))) I h) (aK (lg M rfl rfl) d9)) dm) d9))) (dj (dX (pv 2))))),?_⟩;obtain ⟨na,n8⟩:=nU hn;obtain ⟨dx,eo⟩:=rc.ob;have ob:∀ {T},Kp B H T->T r.a=some (.ins R dx (Qy r.s.a r.pa r.un)):=fun k=>k.nt tb eo (by intro _ z;cases z);have rk:∀ {T},Kp B H T->pM Z C S cL R K T r d n:=fun k=>rc.nt fun b u e t=>k.nt tb e t;have aa:∀ x:Str,ju x->x.length≤40->TD (.tuple [.str x]):=fun x a l=>TD.node a l (aaR _) (fun d m=>by cases m);refine La (Nj M (L:=Lk) (q:=qF) (LPS:=Gn) (due:=some ("badtest" : Str)) (Af:=fun _ _=>False) BT ?_ tb ?_ (fun T v t1=>?_) (fun h=>by cases h) fun wd e H2 k2 t2=>?_)
 ·rfl
 ·exact aao ..
 ·refine ⟨_,rfl,r.a,dx,_,rfl,ob v,rfl,_,rfl,(by ext),fun tp D=>?_⟩;have U:=du.new (o:=.tup [.str "none"]) D;exact rz (e:=.tuple [.str "none"]) (ys:=[]) ((rk v).same U) nl na (by omega) (.tup (gC.of a_) (.cons (.str _) .nil)) (aa _ (by unfold ju;decide +kernel) (by ext)) (hka _) (by decide) (fun y h=>by cases h) (fun _=>rfl) (Hr (m5 hn hc) (by ext)) U fun h=>by cases h
 cases e;refine ⟨(by ext),fun G p=>?_⟩;have kA:∀ o,Kp B H2 (upd H2 G o):=fun o=>du.kp (du.new p);have tA:∀ o,gD (upd H2 G o) B qF Gn:=fun o=>t2.same (du.new p);dsimp only [fH,List.set];refine CQ (i:=2) rfl a_ (Nj M (L:=Mw) (q:=qF) (LPS:=Gn) (due:=some ("badkeys" : Str)) (Af:=fun _ _=>False) BT ?_ (tA _) ?_ (fun T v t1=>?_) (fun h=>by cases h) fun wd e H3 k3 t3=>?_)
 ·rfl
 ·exact aan _ (aao ..)
 ·have v:=(k2.trans (kA _)).trans v;refine ⟨_,rfl,r.a,dx,_,rfl,ob v,rfl,_,rfl,(by ext),fun tp D=>⟨(by ext),fun tq X=>?_⟩⟩;have U:=du.new (o:=.tup [.str "all"]) D;have s2:=du.new (o:=.tup [.str "a",.str "a"]) X;have aA:ju ("a" : Str)/\("a" : Str).length≤40:=⟨by unfold ju;decide +kernel,by ext⟩;exact rz (e:=.tuple [.str "all"]) (ys:=["a","a"]) ((rk v).same (U.trans s2)) nl na (by omega) (.tup (gC.of (s2 _ _ a_)) (.cons (.str _) .nil)) (aa _ (by unfold ju;decide +kernel) (by ext)) (gC.of a_) (by decide) (fun y h=>by simp only [aah,aa2,or_false,or_self] at h;rw [h];exact aA) (fun h=>absurd h (by ext)) (Hd (m5 hn hc) (by ext) (by ext)) (U.trans s2) fun h=>by cases h
 cases e;have eA:=k3.nt (tA (.lst [.str "badtest"])) a_ (by intro _ z;cases z);have ac:=(k2.trans (kA _)).trans k3;refine ⟨G,_,_,rfl,rfl,eA,(show 1<sizeLine by decide),?_⟩;have kB:∀ o,Kp B H2 (upd H3 G o):=fun o b u e n=>by rw [bK (di e p)];exact k3 b u ((kA _) b u e n) n
 have ab:∀ o,gD (upd H3 G o) B qF Gn:=fun o=>gD.lst t3 eA;refine CQ (i:=2) rfl a_ (Nj M (L:=Li) (q:=qF) (LPS:=Gn) (due:=some ("badname" : Str)) (Af:=fun _ _=>False) BT ?_ (ab _) ?_ (fun T v t1=>?_) (fun h=>by cases h) fun wd e H4 k4 t4=>?_)
 ·rfl
 ·exact aan _ (aan _ (aao ..))
 ·have v:=(k2.trans (kB _)).trans v;have l1:("A" : Str).length=1:=by ext
  have lA:(nm++"A" : Str).length≤40:=by rw [aaL];omega
  refine ⟨_,rfl,r.a,dx,_,rfl,ob v,rfl,_,rfl,nm,_,rfl,rfl,aaj (show nm.length+("A" : Str).length≤40 by omega) (by decide),(by ext),fun tp D=>⟨(by ext),fun tq X=>?_⟩⟩;have U:=du.new (o:=.tup [.str "a",.int 1,.int 0]) D;have s2:=du.new (o:=.tup [.ref tp]) X;exact yw (fs:=[("a",1,0)]) ((rk v).same (U.trans s2)) nl (mG na (by unfold ju;decide +kernel)) lA a_ (.cons ⟨tp,rfl,s2 _ _ a_⟩ .nil) (by decide) (fun f m=>by cases aak.mp m;exact tZ (by unfold ju;decide +kernel) (by ext) (by decide) (by decide)) (C_ (qi (zx (by ext)))) (U.trans s2) fun h=>by cases h
 cases e;have eB:=k4.nt (ab (.lst [.str "badtest",.str "badkeys"])) a_ (by intro _ z;cases z);refine ⟨G,_,_,rfl,rfl,eB,(show 2<sizeLine by decide),?_⟩;refine ⟨_,rfl,q G _ (fun b u e n=>by rw [bK (di (k2 b u e n) p)];exact k4 b u ((k2.trans (kB _)) b u e n) n) ?_ ?_ a_⟩
 ·exact gD.lst t4 eB
 ·cases z:H G with
  |none=>rfl
  | some u=>
    exfalso;by_cases w:G=B
    ·obtain ⟨ps,x1,_⟩:=t2;rw [w,x1] at p;cases p
    ·rw [k2 G u z w] at p;cases p
end
noncomputable abbrev QV:List Str:=["_law_script","_law_d","_law_many","_law_wide","_law_due","_law_rec","_law_names","_law_turn","_law_some","_law_words_here","_law_odd","_law_word_here","_law_bad","_law_other"]
def jN:dC QV ["_law_script"] (b_ (top 130)):=by ext
abbrev X6:List Str:=["_law_many","_law_wide"]
noncomputable abbrev R4:List Str:=["_law_rec","_law_some","_law_turn"]
abbrev NRO:List Str:=["_law_rec","_law_odd"]
noncomputable abbrev Qz:List Str:=["_law_rec","_law_odd","_law_some"]
noncomputable abbrev QT:List Str:=["_law_other","_law_names","_law_bad"]
def Qk:mZ X6 Nx:=⟨by ext,by ext,rfl,rfl,rfl,by ext⟩
def RP:mZ QT lamO:=⟨by ext,by ext,rfl,rfl,rfl,by ext⟩
def Q_:mZ Gm HQ:=⟨by ext,by ext,rfl,rfl,rfl,by ext⟩
def Q3:mZ R4 Gv:=⟨by ext,by ext,rfl,rfl,rfl,by ext⟩
def Sv:mZ Gm Jl:=⟨by ext,by ext,rfl,rfl,rfl,by ext⟩
def Rv:mZ NRO Iv:=⟨by ext,by ext,rfl,rfl,rfl,by ext⟩
def Ri:mZ NRO Ju:=⟨by ext,by ext,rfl,rfl,rfl,by ext⟩
def Rw:mZ Qz Jk:=⟨by ext,by ext,rfl,rfl,rfl,by ext⟩
noncomputable def JZ (n:Nat):List (Str×Addr):=[("_law_bad",n+1),("_law_many",n+1+1),("_law_names",n+1+1+1),("_law_odd",n+1+1+1+1),("_law_other",n+1+1+1+1+1),("_law_rec",n+1+1+1+1+1+1),("_law_some",n+1+1+1+1+1+1+1),("_law_turn",n+1+1+1+1+1+1+1+1),("_law_wide",n+1+1+1+1+1+1+1+1+1)]
noncomputable def nD (n:Nat) (a:List Nat):List (Str×Addr):=a.map fun i=>(JZ n).getD i ("",0)
def Ld (h:∀ i∈a,i<9):∀ q∈nD n a,q∈JZ n:=fun q m=>by obtain ⟨i,b,rfl⟩:=aaB.mp m;have:i<(JZ n).length:=h i b;rw [acY,aaC this];exact ac9 this
noncomputable def YH:List V->List V->List V
 |[x],[a,b]=>[x,b,a]
 |_,_=>[]
noncomputable def gR:List Value->List Value->List Value
 |[x],[a,b]=>[x,b,a]
 |_,_=>[]
theorem _root_.L2.oX.and (a:oX t c H k) (b:oX u c H k'):oX (VH t u) c H (k && k'):=fun Q q=>a _ (by
 cases k with
 |false=>exact q
 |true=>exact b _ q)
section
variable {P:ZB} {w:ZE} {K:Zs} {mg:ZY} {base:ZI} {Z:LC} {C S cL R:Zl} {cw:Str->Addr}
inductive Hs (K:Zs) (Tt Tm:Zl) (vs:List V) (H:Hp) (Q:VK) (E:XK):Prop
 |mk (a:Zl) (ns:List Int):vs=[.ref a]->fM K H a (ns.map V.int)->ns.length≤63->gD H Tt qL uH->gD H Tm qF Gn->(∀ H',Q (.bl true) H')->Hs K Tt Tm vs H Q E
noncomputable def yV {X:Cx} {s d:Zl} (x:o9 X s d) {q:Str} {LPS:List Pos} {g i cM:Zl} {j:Str->Addr} {L:ZO} {m:YO} {n:List Nat} {t:XK->TE} {e:St} {H:Hp} {Q:VK} {due:Option Str} {St':Hp->Prop} (y:∀ wd,Gw X.K (j wd) g i) (z:X.env.qual++"<lambda>" = q) (A:gD H d q LPS) (f:jR L∈LPS)
 (B:∀ c b,St' c->du c b->St' b)
 (D:∀ c,Kp d H c->gD c d q LPS->t (Di j c due) (vK n e) c fun _ b=>due=none/\St' b)
 (hk:∀ b,due.isSome=true->Kp d H b->gD b d q LPS->St' b)
 (k:∀ b,St' b->Q (.str (due.getD "")) b) :
 Ke (Bt X.K) (fun e H Q=>fV (JB X d (oG L) (sY L) (jm L) (jR L) m) iV e H fun vs c=>k_ X.K g i cM q L n t m ((X.mg "__name__").getD .none) e vs c Q) (tC (.int 0)) e H Q:=
 Nj x y z A f (Af:=fun _=>St') D (fun h v b l a o=>by subst h;exact k _ (B _ _ a (du.new o))) fun wd h b p r=>by subst h;exact k _ (hk _ rfl p r)
def pX (h:upd H a o b=none):H b=none/\b≠a:=by
 by_cases e:b=a
 ·subst e;rw [a_] at h;cases h
 ·rw [bK e] at h;exact ⟨h,e⟩
def zU (h:L0 v y H p z) (o:H x=none) (g:H a=none) (E:c.a=x) (F:upd (upd H a (.own x)) x (.ins R a []) c.pa=none) (G:upd (upd H a (.own x)) x (.ins R a []) c.un=none) (I:pM Z C S r R K j c d n)
 (k:∀ b u,upd (upd H a (.own x)) x (.ins R a []) b=some u->b≠x->j b=some u) (f:∀ b u,upd (upd H a (.own x)) x (.ins R a []) b=some u->b∉c.s.all):Wr Z C S r R K v y H j p z c d n []:=by
 have s:du H j:=fQ o g k;have W:=h.same s;obtain ⟨l,i⟩:=h.dr.dk;obtain ⟨J,ba,L,bs,_,A,_⟩:=h.dr.ex;obtain ⟨pt,B,_⟩:=h.tb;obtain ⟨M,D,_⟩:=h.tm;refine ⟨I,W.dr,W.tb,W.tm,fun b u e _ _ _=>s b u e,⟨by rw [E];exact o,(pX (pX F).1).1,(pX (pX G).1).1⟩,⟨_,i⟩,⟨_,A⟩,⟨⟨_,B⟩,⟨_,D⟩⟩,(fun q m=>by cases m),(fun b m=>?_),abk⟩;cases aak.mp m;refine f p (.dK l) ?_;rw [bK (di i o),bK (di i g)];exact i
section
variable {Z:LC} {C S cL R Tt Tm:Zl} {K:Zs} {H0 H H1 H2:Hp} {p dc q ra:Zl} {r:RX} {d:DX} {n m:Nat} {M:List (Addr×HO)} {nm:Str} {cw:Str->Addr}
def Rj (h:Wr Z C S cL R K Tt Tm H0 H p dc r d n M) (B:iz p H H1) (D:Dr H1 p dc) (e:H1 q=some o) (z:H q=none) (m:Mt o):Wr Z C S cL R K Tt Tm H0 H1 p dc r d n (M++[(q,o)]):=by
 have W:=h.but B D;obtain ⟨y,j⟩:=h.rc.ob;obtain ⟨A,l,_⟩:=h.rc.ps;have g:∀ {c u},H c=some u->q≠c:=fun w=>(di w z).symm;refine ⟨W.rc,W.dr,W.tb,W.tm,W.old,W.zr,W.hp,W.hd,W.ht,(fun x f=>?_),(fun c b=>?_),?_⟩
 ·rcases aam.mp f with f|f
  ·exact W.ev x f
  ·cases aak.mp f;exact ⟨e,m,h.fresh z,g j,g l,g h.rc.un⟩
 ·rw [aaI] at b;rcases aah.mp b with rfl|b
  ·exact h.fr _ (aao ..)
  ·rcases aam.mp b with b|b
   ·exact h.fr c (aan _ b)
   ·have:c=q:=by simpa using b
    subst this;intro w;obtain ⟨v,w,_⟩:=h.rc.st.here c w;exact g w rfl
 ·rw [aaI];refine abn.mpr ⟨h.nd,by simp,fun a i c b w=>?_⟩;obtain ⟨x,s,rfl⟩:=aaB.mp i;have:c=q:=by simpa using b
  exact g (h.ev x s).1 (this.symm.trans w.symm)
def Ws (Z:LC) (C S a R:Zl) (K:Zs) (b c:Zl) (e:Hp) (p f g:Zl) (d:DX) (m:Nat) (M:List (Addr×HO)) (H:Hp):Prop:=∃ r n,r.a=g/\n≤m/\Wr Z C S a R K b c e H p f r d n M
def kI (h:Ws Z C S cL R K Tt Tm H0 p dc ra d m M H) (s:du H H1):Ws Z C S cL R K Tt Tm H0 p dc ra d m M H1:=by obtain ⟨r,n,e,l,W⟩:=h;exact ⟨r,n,e,l,W.same s⟩
def rH (W:Wr Z C S cL R K Tt Tm H0 H p dc r d n M) (k:Kp Tt H H1) (t:gD H1 Tt qL uH) (c:Tt≠Tm):Wr Z C S cL R K Tt Tm H0 H1 p dc r d n M:=W.kp (fun b u e a _=>k b u e a) t (gD.kp W.tm k W.tb c.symm)
noncomputable def mQ (b:Tt≠Tm) (W:Wr Z C S cL R K Tt Tm H0 H p dc r d n M) (c:r.a=ra) (l:n≤m) (e:a=d) (k:Kp Tt H H1) (t:gD H1 Tt qL uH):Ws Z C S cL R K Tt Tm H0 p dc ra a (m+1) M H1:=⟨r,n,c,Nat.le_succ_of_le l,by rw [e];exact rH W k t b⟩
def Kf (nm:Str) (d:DX):DX:=if uL nm d=none then { d with tr:=d.tr++[nm] } else d
def Gk (nm:Str) (fs:List lU) (d:DX):DX:=if qg nm fs d=none then { d with kn:=d.kn++[(nm,fs)] } else d
def Ae (nm:Str) (e:PyData) (d:DX):DX:=if rR nm e [] d=none then { d with ct:=d.ct++[nm] } else d
def rN (W:Wr Z C S cL R K Tt Tm H0 H p dc r d n M) (b:r.a=ra):∃ a,H ra=some (.ins R a (Qy r.s.a r.pa r.un)):=by subst b;exact W.rc.ob
noncomputable def Dl (W:Wr Z C S cL R K Tt Tm H0 H p dc r d n M) (f:r.a=ra) (l:n≤m) (s:du H1 H) (nl:m≤900) (g:ju nm) (i:nm.length≤40):mC Z C S cL R K cw [.ref ra,.str nm,.bl true] H (fun _ a=>uL nm d=none/\Ws Z C S cL R K Tt Tm H0 p dc ra (Kf nm d) (m+1) M a) (Di cw H1 (uL nm d)):=by subst f;exact Io W.rc (by omega) g i rfl s fun h a k=>⟨h,by obtain ⟨b,e,c⟩:=W.rcn k;unfold Kf;rw [aac h];exact ⟨b,n+1,e,adg l,c⟩⟩
noncomputable def xj (W:Wr Z C S cL R K Tt Tm H0 H p dc r d n M) (o:r.a=ra) (l:n≤m) (s:du H1 H) (nl:m≤900) (v:ju nm) (x:nm.length≤40) (a:H c=some (.tup g)) (y:Paired (iG H) g fs) (z:fs.length≤100) (A:∀ f∈fs,uM f):jK Z C S cL R K cw [.ref ra,.str nm,.ref c] H (fun _ b=>qg nm fs d=none/\Ws Z C S cL R K Tt Tm H0 p dc ra (Gk nm fs d) (m+1) M b) (Di cw H1 (qg nm fs d)):=by subst o;exact yw W.rc (by omega) v x a y z A rfl s fun h b k=>⟨h,by obtain ⟨i,e,j⟩:=W.rcn k;unfold Gk;rw [aac h];exact ⟨i,n+1,e,adg l,j⟩⟩
noncomputable def yz (W:Wr Z C S cL R K Tt Tm H0 H p dc r d n M) (g:r.a=ra) (l:n≤m) (s:du H1 H) (nl:m≤900) (i:ju nm) (j:nm.length≤40) (o:Rep K H x e) (v:TD e) (z:gC K H b []):j9 Z C S cL R K cw [.ref ra,.str nm,x,.ref b] H (fun _ a=>rR nm e [] d=none/\Ws Z C S cL R K Tt Tm H0 p dc ra (Ae nm e d) (m+1) M a) (Di cw H1 (rR nm e [] d)):=by subst g;exact rz (ys:=[]) W.rc (by omega) i j o v z (by decide) (fun y h=>by cases h) (fun _=>rfl) rfl s fun h a k=>⟨h,by obtain ⟨c,e,f⟩:=W.rcn k;unfold Ae;rw [aac h];exact ⟨c,n+1,e,adg l,f⟩⟩
def QM (W:Wr Z C S cL R K Tt Tm H0 H p dc r d n M) (k:Kp Tm H H1) (t:gD H1 Tm qF Gn) (c:Tt≠Tm):Wr Z C S cL R K Tt Tm H0 H1 p dc r d n M:=W.kp (fun b u e _ a=>k b u e a) (gD.kp W.tb k W.tm c) t
def Ie (h:Ws Z C S cL R K Tt Tm H0 p dc ra d m M H) (e:H q=none) (b:Mt o):Ws Z C S cL R K Tt Tm H0 p dc ra d m (M++[(q,o)]) (upd H q o):=by obtain ⟨r,n,a,l,W⟩:=h;exact ⟨r,n,a,l,W.new e b⟩
def wN (h:Ws Z C S cL R K Tt Tm H0 p dc ra d m [x,(q,u)] H) (b:Mt o):Ws Z C S cL R K Tt Tm H0 p dc ra d m [x,(q,o)] (upd H q o):=by obtain ⟨r,n,a,l,W⟩:=h;exact ⟨r,n,a,l,W.upd (i:=1) rfl b⟩
def oW (h:Ws Z C S cL R K Tt Tm H0 p dc ra d m [x,(q,o)] H):H q=some o:=by obtain ⟨r,n,a,l,W⟩:=h;exact (W.ev (q,o) (aan _ (aao ..))).1
def CJ (h:Ws Z C S cL R K Tt Tm H0 p dc ra d m [x,(q,o)] H):Ws Z C S cL R K Tt Tm H0 p dc ra d m [x] H:=by obtain ⟨r,n,a,l,W⟩:=h;exact ⟨r,n,a,l,Wr.drop (M:=[x]) (M':=[(q,o)]) W⟩
def Q7 (h:Ws Z C S cL R K Tt Tm H0 p dc ra d m ((q,.lst a)::M) H):fM K H q a:=by obtain ⟨r,n,b,l,W⟩:=h;exact fM.of (W.ev (q,.lst a) (aao ..)).1
structure Dx (ws:Y1) (i j k:Nat) (d:DX):Prop where
 tr:d.tr=ws.take (min i 6)
 kn:d.kn.map (·.1)=ws.take (min j 8)
 ct:d.ct=ws.take (min k 4)
variable {ws:Y1} {i j k:Nat}
def pY (g:ws.Nodup) (e:ws[i]?=some nm):nm∉ws.take (min i c):=fun h=>by
 obtain ⟨j,a⟩:=aa6.mp h;rw [List.getElem?_take] at a;split at a
 ·next b=>
  have b:j<i:=by omega
  have f:=(aaQ.mp e).1;have:=(adf f g).mp (e.trans a.symm);omega
 ·cases a
def qT (e:ws[i]?=some nm) (h:i<c):ws.take (min i c)++[nm]=ws.take (min (i+1) c):=by rw [Nat.min_eq_left (aa1 h),Nat.min_eq_left h,List.take_succ,e];rfl
def oE (h:¬ i<c):ws.take (min i c)=ws.take (min (i+1) c):=by rw [Nat.min_eq_right (by omega),Nat.min_eq_right (by omega)]
def yj (l:ws.length=9) (a:c<9) (b:i<9):((ws.take (min i c)).length<c)=(i<c):=by rw [aaJ,l];exact propext (by omega)
noncomputable def Dx.uL (D:Dx ws i j k d) (a:ws.Nodup) (l:ws.length=9) (b:i<9) (e:ws[i]?=some nm) (c:nameB nm=true):Cm.uL nm d=if i<6 then none else some ("full" : Str):=by unfold Cm.uL;rw [m5 c (by rw [D.tr];exact pY a e),abx,D.tr];simp only [yj l (show 6<9 by decide) b]
def Dx.Kf (D:Dx ws i j k d) (a:ws.Nodup) (l:ws.length=9) (b:i<9) (e:ws[i]?=some nm) (c:nameB nm=true):Dx ws (i+1) j k (Cm.Kf nm d):=by
 unfold Cm.Kf;rw [D.uL a l b e c];by_cases h:i<6
 ·rw [aac h,aac rfl];exact ⟨by rw [← qT e h,← D.tr],D.kn,D.ct⟩
 ·rw [aab h,aab (by decide)];exact ⟨by rw [← oE h,← D.tr],D.kn,D.ct⟩
def RQ (c:nameB nm=true) (h:-999999≤a/\a≤b/\b≤999999):kW nm [(nm,a,b)]=none:=by unfold kW;rw [aac c,aac (by simp),x_,aac c,aab (by simp),aac h];rfl
def Dx.qg (D:Dx ws i j k d) (o:ws.Nodup) (l:ws.length=9) (c:j<9) (e:ws[j]?=some nm) (f:nameB nm=true) (h:-999999≤a/\a≤b/\b≤999999):Cm.qg nm [(nm,a,b)] d=if j<8 then none else some ("full" : Str):=by
 unfold Cm.qg;have g:d.kn.length=(ws.take (min j 8)).length:=by rw [← D.kn,aag]
 rw [m5 f (by rw [D.kn];exact pY o e),abx,g,RQ f h];simp only [yj l (show 8<9 by decide) c,Option.map_none]
def Dx.Gk (D:Dx ws i j k d) (f:ws.Nodup) (l:ws.length=9) (c:j<9) (e:ws[j]?=some nm) (g:nameB nm=true) (h:-999999≤a/\a≤b/\b≤999999):Dx ws i (j+1) k (Cm.Gk nm [(nm,a,b)] d):=by
 unfold Cm.Gk;rw [D.qg f l c e g h];by_cases h:j<8
 ·rw [aac h,aac rfl];exact ⟨D.tr,by rw [aaI,← qT e h,← D.kn];rfl,D.ct⟩
 ·rw [aab h,aab (by decide)];exact ⟨D.tr,by rw [← oE h,← D.kn],D.ct⟩
noncomputable def Dx.rR (D:Dx ws i j k d) (a:ws.Nodup) (l:ws.length=9) (b:k<9) (e:ws[k]?=some nm) (c:nameB nm=true) (h:pJ t [] 16=none):Cm.rR nm t [] d=if k<4 then none else some ("full" : Str):=by unfold Cm.rR;rw [m5 c (by rw [D.ct];exact pY a e),abx,h,Option.map_none,abx,D.ct];simp only [yj l (show 4<9 by decide) b]
def Dx.Ae (D:Dx ws i j k d) (a:ws.Nodup) (l:ws.length=9) (b:k<9) (e:ws[k]?=some nm) (c:nameB nm=true) (h:pJ t [] 16=none):Dx ws i j (k+1) (Cm.Ae nm t d):=by
 unfold Cm.Ae;rw [D.rR a l b e c h];by_cases h:k<4
 ·rw [aac h,aac rfl];exact ⟨D.tr,D.kn,by rw [← qT e h,← D.ct]⟩
 ·rw [aab h,aab (by decide)];exact ⟨D.tr,D.kn,by rw [← oE h,← D.ct]⟩
noncomputable def xr {i c:Nat} {b:St} {H:Hp} {Q:VK} {a:Option Str} (e:a=if i<c then none else some ("full" : Str)) (f:b[7]?=some (some (.int (i:Int)))) (k:Q (.str (a.getD "")) H):Zo (yt (Ke (Ka fun i j=>V.bl (decide (i<j))) (iU 7) (tC (.int (c:Int))))) (tC (.str "")) (tC (.str "full")) b H Q:=by
 refine (oX.test (j7.op (j7.var f) j7.con rD.i0)) _ ?_;subst e;by_cases h:i<c
 ·rw [aaH (Int.ofNat_lt.mpr h),aac rfl];rw [aac h] at k;exact k
 ·rw [aaE (fun z=>h (Int.ofNat_lt.mp z)),aab aay];rw [aab h] at k;exact k
def JW:jz [.str x,.str y,.str z] [.str x,.str y,.str z]=true:=by simp [jz,mD]
def rep3 (h:H l=some (.lst [.str x,.str y,.str z])):Rep K H (.ref l) (.list [.str x,.str y,.str z]):=.lst (fM.of h) (.cons (.str _) (.cons (.str _) (.cons (.str _) .nil)))
def ne3 (h:H l=some (.lst [.str x,.str y,.str z])) (a:H m=some (.lst [.str x,.str y,.str z])) (k:Q (.bl false) H):Uk K (.ref l) (.ref m) H Q:=⟨_,_,rep3 h,rep3 a,by simp [jy,oU],by rw [JW];exact k⟩
def Mm {x y wd:Str} {Ph:V->Prop} (e:wd=if x=y then ("taken" : Str) else "badname") (k:Ph (.str wd)):if (!decide (V.str x=V.str y))=true then Ph (.str "badname") else Ph (.str "taken"):=by
 subst e;by_cases h:x=y
 ·rw [aac h] at k;rw [aaH (aax V.str h),Bool.not_true,aab aay];exact k
 ·rw [aab h] at k;rw [aaE (fun z=>h (V.str.inj z)),Bool.not_false,aac rfl];exact k
def pI (a:nameB x=true) (e:ws[0]?=some x) (b:0<i):lJ x (ws.take i)=some ("taken" : Str):=by unfold lJ;rw [aac a,aac (aa6.mpr ⟨0,by rw [List.getElem?_take,aac b,e]⟩)]
noncomputable def Dx.odd {x:Str} (D:Dx ws (i+1) (i+1) (i+1) d) (a:nameB x=true) (e:ws[0]?=some x) (b:y=x∨nameB y=false):∃ wd,wd=(if y=x then ("taken" : Str) else "badname")/\lJ y d.tr=some wd/\lJ y (d.kn.map (·.1))=some wd/\lJ y d.ct=some wd:=by
 rw [D.tr,D.kn,D.ct];rcases b with rfl|h
 ·exact ⟨_,rfl,by rw [aac rfl];exact pI a e (by omega),by rw [aac rfl];exact pI a e (by omega),by rw [aac rfl];exact pI a e (by omega)⟩
 ·have n:¬ y=x:=fun z=>by rw [z,a] at h;cases h
  rw [aab n];exact ⟨_,rfl,qi h,qi h,qi h⟩
def Ky (f:nameB x=true):lG (.tuple [.str "is",.str x])=true:=by
 have a:¬ (("is" : Str) = "and"∨("is" : Str) = "or"):=by ext
 have b:¬ ("is" : Str) = "not":=by ext
 have c:¬ ("is" : Str) = "all":=by ext
 have e:(arity "is").isSome=false:=by ext
 simp only [lG,jB,m9,mY,lL,aab a,aab b,aab c,aac,vM,f,e];rfl
def Rr {x:Str} (a:nameB x=true):pJ (.tuple [.str "is",.str x]) [] 16=none:=by unfold pJ;rw [aac (Ky a),aac (by ext),aac (by decide)]
def sV (V:Wr Z C S cL R K Tt Tm H0 H p dc r d n M) (T:L0 Tt Tm H0 p dc) (e:H0 b=some u) (l:(∃ a,u=.lst a)∨∃ a,u=.tup a):H b=some u:=by
 obtain ⟨h,c⟩:=T.dr.dk;obtain ⟨pt,f,_⟩:=T.tb;obtain ⟨o,g,_⟩:=T.tm;refine V.old b u e (fun z=>?_) (fun z=>?_) (fun z=>?_)
 all_goals
  subst z;rcases l with ⟨_,rfl⟩|⟨_,rfl⟩
 ·rw [c] at e;cases e
 ·rw [c] at e;cases e
 ·rw [f] at e;cases e
 ·rw [f] at e;cases e
 ·rw [g] at e;cases e
 ·rw [g] at e;cases e
def V9 (V:Wr Z C S cL R K Tt Tm H0 H p dc r d n M) (T:L0 Tt Tm H0 p dc):TK H0 H:=fun b a e=>sV V T e (.inr ⟨_,rfl⟩)
theorem Ly (a:nameB x=true):(qg x fs (jZ pg rm)).getD "" = mW fs/\(qg x fs (jZ pg rm)=none->mW fs = "")/\(qg x fs (jZ pg rm)≠none->mW fs ≠ ""):=by
 have e:qg x fs (jZ pg rm)=(if fs.length≤4 then fW [] fs else some 3).map uq:=by unfold qg;rw [m5 a (by simp [jZ]),abx,aac (by simp [jZ])];unfold kW;rw [aac a]
 rw [e];unfold mW;cases (if fs.length≤4 then fW [] fs else some 3) with
 |none=>exact ⟨rfl,fun _=>rfl,fun h=>absurd rfl h⟩
 |some i=>exact ⟨rfl,(fun h=>by cases h),fun _=>show uq i ≠ "" by unfold uq;split <;> decide +kernel⟩
def Qg (W:Wr Z C S cL R K Tt Tm H0 H p dc r d n M) (k:∀ b u,H b=some u->b≠p->b≠Tt->b≠Tm->c b=some u):pM Z C S cL R K c r d n:=by
 obtain ⟨f,g⟩:=W.dr.dk;obtain ⟨pt,h,_⟩:=W.tb;obtain ⟨y,l,_⟩:=W.tm;obtain ⟨A,o⟩:=W.rc.ob;obtain ⟨B,x,_⟩:=W.rc.ps;have nt:∀ b u,H b=some u->(b=r.a∨b=r.pa∨b=r.un∨R5 Z r.s b u)->Nt u:=fun b u e s=>by
  rcases s with rfl|rfl|rfl|s|⟨_,rfl⟩|⟨_,_,rfl⟩|⟨_,_,rfl⟩
  ·rw [o] at e;cases e;intro _ z;cases z
  ·rw [x] at e;cases e;intro _ z;cases z
  ·rw [W.rc.un] at e;cases e;intro _ z;cases z
  ·obtain ⟨v,a,nt⟩:=W.rc.st.here b s;rw [e] at a;cases a;exact nt
  all_goals (intro _ z;cases z)
 refine W.rc.keep fun b u e s=>k b u e (fun z=>?_) (iJ e h (nt b u e s _)) (iJ e l (nt b u e s _));subst z;rcases s with s|s|s|s|⟨_,s⟩|⟨_,_,s⟩|⟨_,_,s⟩
 ·exact W.pne.1 s
 ·exact W.pne.2.1 s
 ·exact W.pne.2.2 s
 ·exact W.fr _ (aao ..) s
 all_goals (rw [g] at e;cases e;cases s)
def Pk (x y:Nat) (r t:List Nat):Spec.ltCps (x::r) (y::t)=false↔¬ x<y/\(x=y->Spec.ltCps r t=false):=by
 simp only [Spec.ltCps,Bool.or_eq_false_iff,decide_eq_false_iff_not];refine and_congr Iff.rfl ⟨fun h e=>?_,fun h=>?_⟩
 ·subst e;simpa using h
 ·by_cases e:x=y
  ·rw [h e,acq]
  ·rw [show (x == y)=false from by simpa using e,abz]
theorem K3:∀ a b c:List Nat,Spec.ltCps b a=false->Spec.ltCps c b=false->Spec.ltCps c a=false
 |[],_,[],_,_=>rfl
 |[],_,_::_,_,_=>rfl
 |_::_,[],_,h,_=>by cases h
 |_::_,_::_,[],_,h=>by cases h
 | x::r,y::t,z::u,h,h'=>by rw [Pk] at h h' ⊢;exact ⟨by omega,fun q=>K3 r t u (h.2 (by omega)) (h'.2 (by omega))⟩
theorem Iz:∀ a b:List Nat,Spec.ltCps b a=false->Spec.ltCps a b=false->a=b
 |[],[],_,_=>rfl
 |[],_::_,_,h=>by cases h
 |_::_,[],h,_=>by cases h
 | x::r,y::t,h,h'=>by
   rw [Pk] at h h';have e:x=y:=by omega
   rw [e,Iz r t (h.2 e.symm) (h'.2 e)]
theorem uY:∀ (l:Y1) (p:Str),PyProof.Rows.risingS p l=true->(p::l).Pairwise (fun a b=>Spec.ltCps b.cps.toList a.cps.toList=false)
 |[],p,_=>by simp
 | x::r,p,h=>by
   simp only [PyProof.Rows.risingS,aaP,ac5] at h;have e:=uY r x h.2;refine List.Pairwise.cons (fun y c=>?_) e;rcases aah.mp c with rfl|c
   ·exact h.1
   ·exact K3 _ _ _ h.1 ((List.pairwise_cons.mp e).1 y c)
theorem wz:∀ l:List Str,PyProof.Rows.sortedS l=true->l.Pairwise (fun a b=>Spec.ltCps b.cps.toList a.cps.toList=false)
 |[],_=>List.Pairwise.nil
 |x::r,h=>uY r x h
def vL (f:a.Perm b) (g:PyProof.Rows.sortedS a=true) (l:PyProof.Rows.sortedS b=true):a=b:=
 List.Perm.eq_of_pairwise (fun x y _ _ h c=>by have e:=Iz _ _ h c;cases x;cases y;simpa using e) (wz a g) (wz b l) f
theorem yu:∀ a:List Str,iu K H (a.map V.str) (a.map PyData.str)
 |[]=>.nil
 |u::a=>.cons (.str u) (yu a)
def lO {a:Y1} (h:fM K H l (a.map V.str)):Rep K H (.ref l) (.list (a.map PyData.str)):=.lst h (yu a)
theorem zc:∀ a:List Str,jy (a.map PyData.str)=0
 |[]=>rfl
 |u::a=>by show max 0 (jy (a.map PyData.str))=0;rw [zc a];rfl
theorem zM:∀ a:List Str,lK (a.map PyData.str)=0
 |[]=>by simp [lK]
 |u::a=>by rw [aaw,lK,zM a];simp [qb]
def Ny {o:HO} (_:du H (upd H q o)):upd H q o q=some o:=a_
def Ml {p m:Int}:Dx ws 0 0 0 (jZ p m):=⟨by simp [jZ],by simp [jZ],by simp [jZ]⟩
end
noncomputable def Q5 {f c Tt Tm fB fP fO fF fS aA aB aC aD aE aq fA aF aG aH aI f1 f2 f3 f6 cB cS cM ka:Zl} {aJ aL aM aN aO af ag ah ai aj ak aP ab al am ao aQ aR aS aT:ZA} {oc kV aU pm ct:ZH} {od an:YA} {aZ:YU} {aV a0 a1:Y2}
 (lk:K.lookup f=some ⟨oc,od,.func (fnOf "law" "law" (dM (top 130)) (dI (top 130)) (b_ (top 130)) .none kV aU pm an (.ref c) ct),aZ⟩) (a2:codeIn K (.ref c) "law" = true)
 (HT:CodeHd base c Tt) (HB:base.BuiltinsAt mg Tt) (HG:mainGlobals≠Tt) (nT:Tt≠Tm) (T:Txt K mg) (aa:mg "sorted" = none) (L:LZ K mg Z) (RZ:RZ K mg R) (BT:∀ wd,Gw K (cw wd) cB cS)
 (DB:gK K mg "_law_begin" (top 116) ["_law_script"] fB aJ) (DP:gK K mg "_law_pick" (top 117) ["_law_d","_law_many"] fP aL) (DO:gK K mg "_law_of" (top 118) ["_law_d","_law_things"] fO aM) (DF:gK K mg "_law_far" (top 119) ["_law_d"] fF aN) (DS:gK K mg "_law_same" (top 120) ["_law_found","_law_due"] fS aO)
 (ar:gK K mg "_law_words" (top 122) ["_law_d","_law_many"] aA af) (a3:dw P w K mg base fG 4 aA af ["_law_d","_law_many"] (sJ K))
 (ap:gK K mg "_law_odd_name" (top 125) ["_law_d","_law_text"] aB ag) (au:gK K mg "_law_fields_word" (top 126) ["_law_fields"] aC ah) (a4:dw P w K mg base fG 2 aC ah ["_law_fields"] N8)
 (av:gK K mg "_law_bent_fields" (top 127) ["_law_d","_law_fields"] aD ai) (a5:dw P w K mg base fG 4 aD ai ["_law_d","_law_fields"] xQ)
 (aw:gK K mg "_law_tell" (top 128) ["_law_rec"] aE aj) (a6:dw P w K mg base fG 11 aE aj ["_law_rec"] (KY Z C S cL R K))
 (a7:mg "_law_full_words" = some (.ref aq)) (a8:keepIn K (.ref aq)=true) (a9:Binds K ak ["_law_rec","_law_some"] []) (bb:dw P w K mg base fG 20 aq ak ["_law_rec","_law_some"] (Mj Z C S cL R K Tm))
 (ax:Mk K R aF) (ay:dw P w K mg base (jt P w) 7 aF ab ["self","pages","room"] (tG Z C S cL R K cw)) (bc:jF K ab ["self","pages","room"] ["room","pages"] gR YH) (bR:Binds K ab ["self","pages","room"] aV) (vR:Vals [.int 4,.int 8] aV)
 (ac:Vo K R "lane" ["self","name","over"] [.bl true] aG al a0) (aW:dw P w K mg base (jt P w) 17 aG al ["self","name","over"] (mC Z C S cL R K cw))
 (ad:Cv K R "kind" ["self","name","fields"] aH am) (az:dw P w K mg base (jt P w) 17 aH am ["self","name","fields"] (jK Z C S cL R K cw))
 (ae:Vo K R "tally" ["self","name","test","keys"] [.ref ka] aI ao a1) (aX:dw P w K mg base (jt P w) 17 aI ao ["self","name","test","keys"] (j9 Z C S cL R K cw)) (aY:∀ H,gC K H ka [])
 (M1:Cv K R "lanes" ["self"] f1 aQ) (G1:dw P w K mg base fG 1 f1 aQ ["self"] (yp Z C S cL R K (Tr (·.tr) false)))
 (M2:Cv K R "kinds" ["self"] f2 aR) (G2:dw P w K mg base fG 9 f2 aR ["self"] (yp Z C S cL R K (Yj Z)))
 (M3:Cv K R "tallies" ["self"] f3 aS) (G3:dw P w K mg base fG 1 f3 aS ["self"] (yp Z C S cL R K (Tr (·.ct) true)))
 (M6:Cv K R "__len__" ["self"] f6 aT) (G6:dw P w K mg base fG 2 f6 aT ["self"] (yU Z C S cL R K)) (nb:findIn K (.ref R) "__bool__" = some none)
 (GA:sZ P w K mg base fG 19 fA aP ["_law_ask_here"] (CG P w K mg base 18 cB cS cM)) (hA:mg "_law_ask" = some (.ref fA)) (kA:keepIn K (.ref fA)=true) (bA:Binds K aP ["_law_ask_here"] []) :
 dw P w K mg base fG 21 f (fnOf "law" "law" (dM (top 130)) (dI (top 130)) (b_ (top 130)) .none kV aU pm an (.ref c) ct) ["_law_script"] (Hs K Tt Tm):=by
 have GB:dw P w K mg base fG 1 fB aJ ["_law_script"] (xN K):=JG DB.F T;have GP:dw P w K mg base fG 1 fP aL ["_law_d","_law_many"] pq:=ql DP.F T;have GO:dw P w K mg base fG 2 fO aM ["_law_d","_law_things"] (A_ K):=Dz DO.F T DP;have GF:dw P w K mg base fG 2 fF aN ["_law_d"] Cy:=Jq DF.F T DP;have GS:dw P w K mg base fG 5 fS aO ["_law_found","_law_due"] (spS K 5):=KJ DS T 5;have GOd:dw P w K mg base fG 3 aB ag ["_law_d","_law_text"] ux:=Df ap.F T DP DO;refine uT lk a2 jN (by ext) fun A outer s H vs Q E hr h=>?_;obtain ⟨sa,ns,rfl,hS,hlen,hTb,hTm,k⟩:=h;have hu:=tY hr;have rm:∀ k,k≤20->eX k (A.deeper (PyProof.Rows.envOfC "law" (b_ (top 130)) s.heap.objs.size f (.ref c))):=fun k h=>hr.mono h;have CT:o9 (i_ fG P w K mg base QV "law" (b_ (top 130)) f (.ref c) A outer s H E) c Tt:=⟨rfl,HT,HB,HG⟩;have hc:∀ q∈JZ s.heap.objs.size,(PyProof.Rows.envOfC "law" (b_ (top 130)) s.heap.objs.size f (.ref c)).cells.lookup q.1=some q.2:=by intro q hq;simp only [JZ,aah,aa2,or_false] at hq;rcases hq with rfl|rfl|rfl|rfl|rfl|rfl|rfl|rfl|rfl <;> rfl
 have hcs:∀ is:List Nat,(∀ i∈is,i<9)->∀ q∈nD s.heap.objs.size is,(PyProof.Rows.envOfC "law" (b_ (top 130)) s.heap.objs.size f (.ref c)).cells.lookup q.1=some q.2:=fun is h q m=>hc q (Ld h q m);refine ⟨_,(d7 (jD 1 jN.nd (eY (E:=E0) GB (rm 1 (by decide)) rfl DB.mg DB.F.kp DB.b .nil dU (aK (pv 0) d9))) (d7 (jD 2 jN.nd (eY (E:=E0) GO (rm 2 (by decide)) rfl DO.mg DO.F.kp DO.b .nil dU (aK (pv 1) (aK (gb (aK dm (aK (fj j8 dm (eY (E:=E0) GP (rm 1 (by decide)) rfl DP.mg DP.F.kp DP.b .nil dU (aK (pv 1) (aK dm d9)))) (aK dm (aK dm (aK (eY (E:=E0) GF (rm 2 (by decide)) rfl DF.mg DF.F.kp DF.b .nil dU (aK (pv 1) d9)) d9)))))) d9)))) (d7 (jD 3 jN.nd (eY (E:=E0) GO (rm 2 (by decide)) rfl DO.mg DO.F.kp DO.b .nil dU (aK (pv 1) (aK (gb (aK dm (aK (fj j8 dm (eY (E:=E0) GP (rm 1 (by decide)) rfl DP.mg DP.F.kp DP.b .nil dU (aK (pv 1) (aK dm d9)))) (aK dm (aK dm d9))))) d9)))) (d7 (jD 4 jN.nd (m6 (PW.pt (Be (kZ gY gY dm (pv 2) dm) (wX (kZ gY gY dm (pv 3) dm)))) dD dD)) (d7 (fX (d_ uA (fu eZ (iW (E:=E0) (r:=k_ K cB cS cM qL Nx [2,3] (fun E=>Aj R (tG Z C S cL R K cw) YH E iV (fV (iU 1) (fV (iU 0) iV))) (nD s.heap.objs.size [8,1]) ((mg "__name__").getD .none)) GA (rm 19 (by decide)) (by rfl) hA kA bA dU (fun dR σ H s' vs Q I h=>o8 CT Qk (fun _ _=>rfl) (hcs [8,1] (by decide)) (show ∀ x∈X6,x∈(nD 0 [8,1]).map (·.1) by ext) (fun _=>rfl) (show ∀ x∈X6,(b_ (top 130)).names.lookup x=some .cell by ext) rfl rfl rfl (fun f c' A outer s H E hr=>qZ (E:=E) ax ay (hr.mono (by decide)) rfl RZ.mg bc (nQ fun _ _ _ h=>h) (jJ (pv 1) (jJ (pv 0) uf))) I h) (aK (lg CT rfl rfl) d9)) dm) (pv 4) (eV _)) (dj iH) eE) (d7 (jD 5 jN.nd (pN (E:=fun _ _ _=>False) ax ay (rm 8 (by decide)) rfl RZ.mg bR vR tu)) (d7 (fX (PW.pt (rJ (jn (jY (eY (E:=E0) GS (rm 5 (by decide)) rfl DS.mg DS.F.kp DS.b .nil dU (aK (eY (E:=E0) a6 (rm 11 (by decide)) rfl aw.mg aw.F.kp aw.b .nil dU (aK (pv 5) d9)) (aK (gb (aK (gb d9) (aK (gb d9) (aK (gb d9) (aK y_ (aK qz (aK dm (aK (gb d9) d9)))))))) d9))))) (pG (jY (gQ (Aq (E:=E0) ⟨M6.M.at_,M6.M.fn,G6,M6.b,dU⟩ nb (rm 5 (by decide))) (by rfl) T.bool ou (aK (pv 5) d9)))))) (dj iH) eE) (d7 (jD 6 jN.nd (eY (E:=E0) a3 (rm 4 (by decide)) rfl ar.mg ar.F.kp ar.b .nil dU (aK (pv 1) (aK dm d9)))) (d7 (lD ade rfl (kY rfl T.range (aK dm d9)) (rZ 7 jN.nd) (d7 (jD 8 jN.nd (fu eZ (pv 6) (pv 7))) (d7 (jD 9 jN.nd (gb (aK (fu eZ (iW (E:=E0) (r:=k_ K cB cS cM qL HQ [5,8] (fun E=>m_ R "lane" (mC Z C S cL R K cw) [.bl true] E (iU 0) (fV (iU 1) iV)) (nD s.heap.objs.size [6,5]) ((mg "__name__").getD .none)) GA (rm 19 (by decide)) (by rfl) hA kA bA dU (fun dR σ H s' vs Q I h=>o8 CT Q_ (fun _ _=>rfl) (hcs [6,5] (by decide)) (show ∀ x∈Gm,x∈(nD 0 [6,5]).map (·.1) by ext) (fun _=>rfl) (show ∀ x∈Gm,(b_ (top 130)).names.lookup x=some .cell by ext) rfl rfl rfl (fun f c' A outer s H E hr=>jh (E:=E) (pv 0) RZ.c ac.M aW hr ac.b ac.v (nQ fun _ _ _ h=>h) (aK (pv 1) d9)) I h) (aK (lg CT rfl rfl) d9)) dm) d9))) (d7 (dZ (lu aaZ aa5 abe ik (pv 9) (aK (fu eZ (iW (E:=E0) (r:=k_ K cB cS cM qL Gv [5,8,7] (fun E=>m_ R "kind" (jK Z C S cL R K cw) [] E (iU 0) (fV (iU 1) (fV (sE (fV (sE (fV (iU 1) (fV (tC (.int 0)) (fV (iU 2) iV)))) iV)) iV))) (nD s.heap.objs.size [7,6,5]) ((mg "__name__").getD .none)) GA (rm 19 (by decide)) (by rfl) hA kA bA dU (fun dR σ H s' vs Q I h=>o8 CT Q3 (fun _ _=>rfl) (hcs [7,6,5] (by decide)) (show ∀ x∈R4,x∈(nD 0 [7,6,5]).map (·.1) by ext) (fun _=>rfl) (show ∀ x∈R4,(b_ (top 130)).names.lookup x=some .cell by ext) rfl rfl rfl (fun f c' A outer s H E hr=>jh (E:=E) (pv 0) RZ.c ad.M az hr ad.b .nil (nQ fun _ _ _ h=>h) (aK (pv 1) (aK (gA (aK (gA (aK (pv 1) (aK dm (aK (pv 2) d9)))) d9)) d9))) I h) (aK (lg CT rfl rfl) d9)) dm) d9))) (d7 (dZ (lu aaZ aa5 abe ik (pv 9) (aK (fu eZ (iW (E:=E0) (r:=k_ K cB cS cM qL Jl [5,8] (fun E=>m_ R "tally" (j9 Z C S cL R K cw) [.ref ka] E (iU 0) (fV (iU 1) (fV (sE (fV (tC (.str "is")) (fV (iU 1) iV))) iV))) (nD s.heap.objs.size [6,5]) ((mg "__name__").getD .none)) GA (rm 19 (by decide)) (by rfl) hA kA bA dU (fun dR σ H s' vs Q I h=>o8 CT Sv (fun _ _=>rfl) (hcs [6,5] (by decide)) (show ∀ x∈Gm,x∈(nD 0 [6,5]).map (·.1) by ext) (fun _=>rfl) (show ∀ x∈Gm,(b_ (top 130)).names.lookup x=some .cell by ext) rfl rfl rfl (fun f c' A outer s H E hr=>jh (E:=E) (pv 0) RZ.c ae.M aX hr ae.b ae.v (nQ fun _ _ _ h=>h) (aK (pv 1) (aK (gA (aK dD (aK (pv 1) d9))) d9))) I h) (aK (lg CT rfl rfl) d9)) dm) d9))) (d7 (fX (d_ (Bw hr.units) (pv 9) (gb (aK (m6 (d_ CP (pv 7) dm (eV _)) dD dD) (aK (m6 (d_ CP (pv 7) dm (eV _)) dD dD) (aK (m6 (d_ CP (pv 7) dm (eV _)) dD dD) d9)))) (eV _)) (dj iH) eE) (d7 (fX (PW.pt (Be (d_ uX (pv 7) dm (eV _)) (wX (d_ (Bw hr.units) (eY (E:=E0) bb (rm 20 (by decide)) rfl a7 a8 a9 .nil dU (aK (pv 5) (aK (pv 8) d9))) (gb (aK dD (aK dD (aK dD d9)))) (eV _))))) (dj iH) eE) (d7 (jD 10 jN.nd (eY (E:=E0) GO (rm 2 (by decide)) rfl DO.mg DO.F.kp DO.b .nil dU (aK (pv 1) (aK (gb (aK (eY (E:=E0) GOd (rm 3 (by decide)) rfl ap.mg ap.F.kp ap.b .nil dU (aK (pv 1) (aK (pv 8) d9))) (aK (fu eZ (pv 6) dm) d9))) d9)))) (d7 (jD 11 jN.nd (m6 (d_ uA (pv 10) (fu eZ (pv 6) dm) (eV _)) dD dD)) (d7 (jD 9 jN.nd (gb (aK (fu eZ (iW (E:=E0) (r:=k_ K cB cS cM qL Iv [5,10] (fun E=>m_ R "lane" (mC Z C S cL R K cw) [.bl true] E (iU 0) (fV (iU 1) iV)) (nD s.heap.objs.size [5,3]) ((mg "__name__").getD .none)) GA (rm 19 (by decide)) (by rfl) hA kA bA dU (fun dR σ H s' vs Q I h=>o8 CT Rv (fun _ _=>rfl) (hcs [5,3] (by decide)) (show ∀ x∈NRO,x∈(nD 0 [5,3]).map (·.1) by ext) (fun _=>rfl) (show ∀ x∈NRO,(b_ (top 130)).names.lookup x=some .cell by ext) rfl rfl rfl (fun f c' A outer s H E hr=>jh (E:=E) (pv 0) RZ.c ac.M aW hr ac.b ac.v (nQ fun _ _ _ h=>h) (aK (pv 1) d9)) I h) (aK (lg CT rfl rfl) d9)) dm) d9))) (d7 (dZ (lu aaZ aa5 abe ik (pv 9) (aK (fu eZ (iW (E:=E0) (r:=k_ K cB cS cM qL Ju [5,10] (fun E=>m_ R "tally" (j9 Z C S cL R K cw) [.ref ka] E (iU 0) (fV (iU 1) (fV (sE (fV (tC (.str "none")) iV)) iV))) (nD s.heap.objs.size [5,3]) ((mg "__name__").getD .none)) GA (rm 19 (by decide)) (by rfl) hA kA bA dU (fun dR σ H s' vs Q I h=>o8 CT Ri (fun _ _=>rfl) (hcs [5,3] (by decide)) (show ∀ x∈NRO,x∈(nD 0 [5,3]).map (·.1) by ext) (fun _=>rfl) (show ∀ x∈NRO,(b_ (top 130)).names.lookup x=some .cell by ext) rfl rfl rfl (fun f c' A outer s H E hr=>jh (E:=E) (pv 0) RZ.c ae.M aX hr ae.b ae.v (nQ fun _ _ _ h=>h) (aK (pv 1) (aK (gA (aK dD d9)) d9))) I h) (aK (lg CT rfl rfl) d9)) dm) d9))) (d7 (dZ (lu aaZ aa5 abe ik (pv 9) (aK (fu eZ (iW (E:=E0) (r:=k_ K cB cS cM qL Jk [5,10,8] (fun E=>m_ R "kind" (jK Z C S cL R K cw) [] E (iU 0) (fV (iU 1) (fV (sE (fV (sE (fV (iU 2) (fV (tC (.int 1)) (fV (tC (.int 0)) iV)))) iV)) iV))) (nD s.heap.objs.size [6,5,3]) ((mg "__name__").getD .none)) GA (rm 19 (by decide)) (by rfl) hA kA bA dU (fun dR σ H s' vs Q I h=>o8 CT Rw (fun _ _=>rfl) (hcs [6,5,3] (by decide)) (show ∀ x∈Qz,x∈(nD 0 [6,5,3]).map (·.1) by ext) (fun _=>rfl) (show ∀ x∈Qz,(b_ (top 130)).names.lookup x=some .cell by ext) rfl rfl rfl (fun f c' A outer s H E hr=>jh (E:=E) (pv 0) RZ.c ad.M az hr ad.b .nil (nQ fun _ _ _ h=>h) (aK (pv 1) (aK (gA (aK (gA (aK (pv 2) (aK dm (aK dm d9)))) d9)) d9))) I h) (aK (lg CT rfl rfl) d9)) dm) d9))) (dj (fX (d_ (Bw hr.units) (pv 9) (gb (aK (pv 11) (aK (pv 11) (aK (pv 11) d9)))) (eV _)) (dj iH) eE)))))))))))))) (d7 (jD 12 jN.nd (eY (E:=E0) a5 (rm 4 (by decide)) rfl av.mg av.F.kp av.b .nil dU (aK (pv 1) (aK (gA (aK (gA (aK (fu eZ (pv 6) dm) (aK dm (aK dm d9)))) (aK (gA (aK (fu eZ (pv 6) dm) (aK dm (aK dm d9)))) d9))) d9)))) (d7 (jD 13 jN.nd (pN (E:=fun _ _ _=>False) ax ay (rm 8 (by decide)) rfl RZ.mg bR vR tu)) (d7 (jD 11 jN.nd (eY (E:=E0) a4 (rm 2 (by decide)) rfl au.mg au.F.kp au.b .nil dU (aK (pv 12) d9))) (d7 (fX (PW.pt (rJ (d_ uA (fu eZ (iW (E:=E0) (r:=k_ K cB cS cM qL lamO [13,6,12] (fun E=>m_ R "kind" (jK Z C S cL R K cw) [] E (iU 0) (fV (Ke (Bt K) (iU 1) (tC (.int 0))) (fV (iU 2) iV))) (nD s.heap.objs.size [4,2,0]) ((mg "__name__").getD .none)) GA (rm 19 (by decide)) (by rfl) hA kA bA dU (fun dR σ H s' vs Q I h=>o8 CT RP (fun _ _=>rfl) (hcs [4,2,0] (by decide)) (show ∀ x∈QT,x∈(nD 0 [4,2,0]).map (·.1) by ext) (fun _=>rfl) (show ∀ x∈QT,(b_ (top 130)).names.lookup x=some .cell by ext) rfl rfl rfl (fun f c' A outer s H E hr=>jh (E:=E) (pv 0) RZ.c ad.M az hr ad.b .nil (nQ fun _ _ _ h=>h) (aK (fu (r:=Bt K) eZ (pv 1) dm) (aK (pv 2) d9))) I h) (aK (lg CT rfl rfl) d9)) dm) (pv 11) (eV _)) (pG (d_ uA (dJ dY (by rfl) T.len gB (aK (gq (E:=E0) (pv 13) RZ.c M2.M G2 (rm 9 (by decide)) M2.b .nil dU) d9)) (gQ Er (by rfl) T.int qN (aK (ji jq (pv 11) dD (eV _)) d9)) (eV _))))) (dj iH) eE) (d7 (jD 4 jN.nd (gb (aK (ie pQ (pv 6) iQ (iR dm)) (aK (dJ p6 (by rfl) aa oM (aK (ie pQ (pv 6) iQ (iR dm)) d9)) (aK (dJ p6 (by rfl) aa oM (aK (ie pQ (pv 6) iQ (iR dm)) d9)) d9))))) (dj (dX (eY (E:=E0) GS (rm 5 (by decide)) rfl DS.mg DS.F.kp DS.b .nil dU (aK (gb (aK (gq (E:=E0) (pv 5) RZ.c M1.M G1 (rm 1 (by decide)) M1.b .nil dU) (aK (jf (g:=fH 0) (own:=["_law_sort"]) (js:=[]) (N':=["_law_sort"]) (eN.of (osc:=b_ (top 130)) (N:=QV) rfl rfl (by ext)) rfl (jx (gq (E:=E0) (pv 5) RZ.c M2.M G2 (rm 9 (by decide)) M2.b .nil dU)) (fun _ _ _ _ _=>(gn (i:=0) (show List.Nodup (["_law_sort"]:Y1) by ext) rfl (.inl rfl) (.inr rfl))) (fun _ _ _ _ _=>gH) (fun _ _ _ _ _=>Ec (K:=K) rfl (pv 0) rfl)) (aK (gq (E:=E0) (pv 5) RZ.c M3.M G3 (rm 1 (by decide)) M3.b .nil dU) d9)))) (aK (pv 4) d9))))))))))))))))))),?_⟩;refine jX fun D0 c0=>⟨_,rfl,sa,ns,rfl,hS,hlen,fun p dc Hb D1 s0 hp0=>?_⟩;refine c0 _ _ ?_;dsimp only [fH,List.set,L2.start];have W0:L0 Tt Tm Hb p dc:=⟨D1,hTb.same s0,hTm.same s0⟩;clear c0 D0 hTb hTm hS D1 s0 hp0;refine jX fun D0 c0=>⟨_,rfl,_,rfl,p,dc,15,rfl,W0.dr,by decide,by decide,fun i1 H1 i1a i1b D1 B1=>⟨_,_,rfl,rfl,_,rfl,p,dc,rfl,D1,fun i2 H2 i2a i2b D2 B2=>⟨(by ext),fun l hl=>⟨p,dc,l,_,rfl,D2.new hl,fM.of a_,by simp,by simp,fun v1 H3 m1 D3 B3=>?_⟩⟩⟩⟩
 replace W0:=(((W0.but B1 D1).but B2 D2).same (du.new (o:=.lst [.int 4,.int (2+i1),.int 1,.int 17,.int i2]) hl)).but B3 D3
 obtain ⟨many,rfl,mx⟩:∃ i,v1=.int i/\xJ i:=by simp only [aah,aa2,or_false] at m1;unfold xJ;rcases m1 with rfl|rfl|rfl|rfl|rfl <;> exact ⟨_,rfl,by simp only [ni] at *;omega,by simp only [ni] at *;omega⟩
 refine c0 _ _ ?_
 try dsimp only [fH,List.set]
 clear c0 D0 D1 D2 D3 B1 B2 B3 m1 hl;refine jX fun D0 c0=>⟨_,rfl,_,rfl,p,dc,8,rfl,W0.dr,by decide,by decide,fun i1 H1 i1a i1b D1 B1=>⟨_,_,rfl,rfl,(by ext),fun l hl=>⟨p,dc,l,_,rfl,D1.new hl,fM.of a_,by simp,by simp,fun v1 H4 m1 D3 B3=>?_⟩⟩⟩
 replace W0:=((W0.but B1 D1).same (du.new (o:=.lst [.int 8,.int (5+i1),.int 4,.int 13]) hl)).but B3 D3
 obtain ⟨wide,rfl,wx⟩:∃ i,v1=.int i/\xJ i:=by simp only [aah,aa2,or_false] at m1;unfold xJ;rcases m1 with rfl|rfl|rfl|rfl <;> exact ⟨_,rfl,by simp only [ni] at *;omega,by simp only [ni] at *;omega⟩
 refine c0 _ _ ?_
 try dsimp only [fH,List.set]
 clear c0 D0 D1 D3 B1 B3 m1 hl;refine jX fun D0 c0=>?_;refine oX.and (k:=decide ((2:Int)≤many) && decide (many≤16)) (k':=decide ((5:Int)≤wide) && decide (wide≤12)) (oX.test (j7.chain j7.con (j7.var rfl) j7.con rD.i0 rD.i0)) (oX.test (j7.chain j7.con (j7.var rfl) j7.con rD.i0 rD.i0)) _ ?_;have hk:((decide ((2:Int)≤many) && decide (many≤16)) && (decide ((5:Int)≤wide) && decide (wide≤12)))=decide (pC many wide):=by unfold pC;simp [ac0,and_assoc]
 rw [hk];clear hk;obtain ⟨due,hd1,hd2,hif⟩:∃ due:Str,(pC many wide->due = "")/\(¬ pC many wide->due = "badsize")/\∀ Ph:V->Prop,Ph (.str due)->if decide (pC many wide)=true then Ph (.str "") else Ph (.str "badsize"):=by
  by_cases h:pC many wide
  ·exact ⟨"",fun _=>rfl,fun n=>absurd h n,fun Ph q=>by rw [aaH h,aac rfl];exact q⟩
  ·exact ⟨"badsize",fun n=>absurd n h,fun _=>rfl,fun Ph q=>by rw [aaE h,aab aay];exact q⟩
 refine hif (fun v=>fH 4 v _ _ _) ?_;refine c0 _ _ ?_
 try dsimp only [fH,List.set]
 clear c0 D0 hif;refine jX fun D0 c0=>?_;refine yV CT (L:=Nx) (q:=qL) (LPS:=uH) (due:=if pC many wide then none else some ("badsize" : Str)) (St':=fun H2=>L0 Tt Tm H2 p dc) BT ?_ W0.tb ?_ (fun _ _ a s=>a.same s) (fun H5 k1 t1=>?_) (fun H5 _ k1 t1=>W0.kp k1 t1 nT.symm) fun H5 W1=>?_
 ·rfl
 ·exact aao ..
 ·refine ⟨_,rfl,_,rfl,fun x dx hx hdx ndx=>?_⟩;have W1:=W0.kp k1 t1 nT.symm;refine tG.mk x dx many wide rfl a_ mx wx (fun pr c H6 e1 e2 e3 rc k2 _=>⟨rfl,aac pr,?_⟩) (fun npr=>?_)
  ·exact W1.same (fQ hx hdx k2)
  ·exact (Di.rf "badsize" (aab npr)).up ((du.new hdx).trans (du.new (by rw [bK ndx.symm];exact hx)))
 have hd:(if pC many wide then none else some ("badsize" : Str)).getD "" = due:=by
  by_cases h:pC many wide
  ·rw [aac h,hd1 h];rfl
  ·rw [aab h,hd2 h];rfl
 rw [hd];refine ⟨_,rfl,rfl,?_⟩;refine ⟨_,rfl,?_⟩;rw [aaH (rfl:V.str due=V.str due)];refine c0 _ _ ?_
 try dsimp only [fH,List.set]
 clear c0 D0 hd W0;refine jX fun D0 c0=>?_;refine fun x dx hx hdx ndx=>tG.mk x dx 4 8 rfl a_ (by unfold xJ;decide) (by unfold xJ;decide) (fun _ r H6 e1 e2 e3 rc k2 fr=>⟨rfl,?_⟩) (fun n=>absurd (by decide) n);have W:=zU W1 hx hdx e1 e2 e3 rc k2 fr;subst e1;refine c0 _ _ ?_
 try dsimp only [fH,List.set]
 clear c0 D0 e2 e3 rc k2 fr ndx;refine jX fun D0 c0=>?_;refine ⟨_,rfl,KY.mk r 4 8 rfl W.rc fun v H7 s7 rp=>?_⟩;refine ⟨(by ext),fun l1 z1=>⟨(by ext),fun l2 z2=>⟨(by ext),fun l3 z3=>?_⟩⟩⟩;refine ⟨(by ext),fun l4 z4=>⟨(by ext),fun l5 z5=>?_⟩⟩;have S1:=du.new (o:=.lst []) z1;have S2:=du.new (o:=.lst []) z2;have S3:=du.new (o:=.lst []) z3;have S4:=du.new (o:=.lst []) z4;have S5:=du.new (o:=.lst [.ref l1,.ref l2,.ref l3,.bl false,.non,.int 0,.ref l4]) z5;refine ⟨_,_,O5,rfl,rp.same (S1.trans (S2.trans (S3.trans (S4.trans S5)))),?_,by decide,by ext,fun H8 s8=>?_⟩
 ·exact .lst (fM.of a_) (.cons (.lst (fM.of (S5 _ _ (S4 _ _ (S3 _ _ (S2 _ _ a_))))) .nil) (.cons (.lst (fM.of (S5 _ _ (S4 _ _ (S3 _ _ a_)))) .nil) (.cons (.lst (fM.of (S5 _ _ (S4 _ _ a_))) .nil) (.cons (.bl _) (.cons .non (.cons (.int _) (.cons (.lst (fM.of (S5 _ _ a_)) .nil) .nil)))))))
 have W8:=W.same (s7.trans (S1.trans (S2.trans (S3.trans (S4.trans (S5.trans s8))))));obtain ⟨d8,e8⟩:=W8.rc.ob;refine ⟨true,rfl,_,rfl,r.a,d8,_,rfl,e8,yU.mk r _ 0 rfl W8.rc rfl fun H9 s9=>⟨0,rfl,by decide,_,rfl,?_⟩⟩
 replace W:=W8.same s9
 clear e8 d8 W8 s8 S1 S2 S3 S4 S5 z1 z2 z3 z4 z5 rp s7;refine c0 _ _ ?_
 try dsimp only [fH,List.set]
 clear c0 D0;refine jX fun D0 c0=>?_;refine ⟨_,rfl,sJ.mk p dc 9 rfl W.dr (by decide) (by decide) fun q ws H10 eq nq lq hnw nd D1 B1=>?_⟩;refine c0 _ _ ?_
 try dsimp only [fH,List.set]
 clear c0 D0;have W:=Rj W B1 D1 eq nq (.inl ⟨_,rfl⟩);dsimp only [List.nil_append] at W;obtain ⟨ra,era⟩:∃ ra,r.a=ra:=⟨_,rfl⟩;rw [era];have lw:ws.length=9:=by omega
 refine jX fun D0 c0=>?_;refine ⟨9,rfl,by decide,by decide,oF (n:=9) (fun i σ H'=>(∃ u7 u8 u9 u10 u11 u12 u13,σ=[some (.ref sa),some (.ref p),some (.int many),some (.int wide),some (.str due),some (.ref ra),some (.ref q),u7,u8,u9,u10,u11,u12,u13])/\∃ d,Dx ws i i i d/\Ws Z C S cL R K Tt Tm H5 p dc ra d (6*i) [(q,.lst (ws.map V.str))] H') ⟨⟨none,none,none,none,none,none,none,rfl⟩,jZ 4 8,Ml,r,0,era,aae _,W⟩ ?_ ?_⟩
 ·clear c0 W era;rintro i σ H1 hi ⟨⟨u7,u8,u9,u10,u11,u12,u13,rfl⟩,d,Dd,r,n,era,ln,W⟩;obtain ⟨nm,enm⟩:∃ nm,ws[i]?=some nm:=⟨_,aaC (by omega)⟩;have hnm:nameB nm=true:=(jH nm).mpr (hnw _ (aaq enm));have l8:nm.length≤8/\ju nm:=⟨(nU hnm).2,(nU hnm).1⟩;obtain ⟨na,n8⟩:=nU hnm;have hM:∀ {r d n H M},Wr Z C S cL R K Tt Tm H5 H p dc r d n ((q,.lst (ws.map V.str))::M)->fM K H q (ws.map V.str):=fun W=>fM.of (W.ev _ (aao ..)).1;have i0:(0:Int)+(i:Int)=(i:Int):=by omega
  rw [i0];dsimp only [fH,List.set];refine jX fun D0 c0=>?_;refine ⟨_,rfl,_,rfl,q,_,i,.str nm,rfl,rfl,hM W,gw (by rw [aaz,enm];rfl),?_⟩;refine c0 _ _ ?_;dsimp only [fH,List.set];clear c0 D0;refine jX fun D0 c0=>?_;refine yV CT (L:=HQ) (q:=qL) (LPS:=uH) (due:=uL nm d) (St':=Ws Z C S cL R K Tt Tm H5 p dc ra (Kf nm d) (6*i+1) [(q,.lst (ws.map V.str))]) BT ?_ W.tb ?_ (fun _ _=>kI) (fun H1 k1 t1=>?_) (fun H2 h k1 t1=>mQ nT W era ln (aab fun z=>by rw [z] at h;cases h) k1 t1) fun H2 W2=>?_
  ·rfl
  ·exact aaq (show uH[2]?=some (jR HQ) from rfl)
  ·have W1:=rH W k1 t1 nT;obtain ⟨dx,ob⟩:=rN W1 era;exact ⟨_,rfl,ra,dx,_,rfl,ob,rfl,_,rfl,Dl W1 era ln (du.refl _) (by omega) na (by omega)⟩
  clear era ln W r n;refine ⟨(by ext),fun la hla=>?_⟩;refine c0 _ _ ?_;dsimp only [fH,List.set];clear c0 D0;have e1:=Dd.uL nd lw hi enm hnm
  replace Dd:=Dd.Kf nd lw hi enm hnm
  have W:=Ie W2 hla (o:=.lst [.str ((uL nm d).getD "")]) (.inl ⟨_,rfl⟩);dsimp only [List.cons_append,List.nil_append] at W;clear W2 hla;generalize uL nm d=due1 at *;generalize Kf nm d=d1 at *;have hb:(-999999:Int)≤0/\(0:Int)≤(i:Int)/\(i:Int)≤999999:=by omega
  refine jX fun D0 c0=>?_;obtain ⟨r,n,era,ln,W'⟩:=W;refine ⟨_,rfl,.inl ⟨rfl,_,fM.of (oW ⟨r,n,era,ln,W'⟩)⟩,?_⟩;refine yV CT (L:=Gv) (q:=qL) (LPS:=uH) (due:=qg nm [(nm,0,(i:Int))] d1) (St':=Ws Z C S cL R K Tt Tm H5 p dc ra (Gk nm [(nm,0,(i:Int))] d1) (6*i+1+1) [(q,.lst (ws.map V.str)),(la,.lst [.str (due1.getD "")])]) BT ?_ W'.tb ?_ (fun _ _=>kI) (fun H1 k1 t1=>?_) (fun H2 h k1 t1=>mQ nT W' era ln (aab fun z=>by rw [z] at h;cases h) k1 t1) fun H2 W2=>?_
  ·rfl
  ·exact aaq (show uH[3]?=some (jR Gv) from rfl)
  ·have W1:=rH W' k1 t1 nT;obtain ⟨dx,ob⟩:=rN W1 era;refine ⟨_,rfl,ra,dx,_,rfl,ob,rfl,_,rfl,_,rfl,_,rfl,(by ext),fun tp htp=>⟨(by ext),fun tq htq=>?_⟩⟩;have s1:=du.new (o:=.tup [.str nm,.int 0,.int i]) htp;have s2:=du.new (o:=.tup [.ref tp]) htq;exact xj (W1.same (s1.trans s2)) era ln (s1.trans s2) (by omega) na (by omega) a_ (.cons ⟨tp,rfl,s2 _ _ a_⟩ .nil) (by simp) (fun f m=>by cases aak.mp m;exact tZ na (by omega) (by omega) (by omega))
  clear era ln W' r n;refine ⟨la,_,_,rfl,rfl,oW W2,(show 1<sizeLine by decide),?_⟩;have e2:=Dd.qg nd lw hi enm hnm hb
  replace Dd:=Dd.Gk nd lw hi enm hnm hb
  have W:=wN W2 (o:=.lst [.str (due1.getD ""),.str ((qg nm [(nm,0,(i:Int))] d1).getD "")]) (.inl ⟨_,rfl⟩);clear W2;refine c0 _ _ ?_;clear c0 D0;generalize qg nm [(nm,0,(i:Int))] d1=due2 at *;generalize Gk nm [(nm,0,(i:Int))] d1=d2 at *;refine jX fun D0 c0=>?_;obtain ⟨r,n,era,ln,W'⟩:=W;refine ⟨_,rfl,.inl ⟨rfl,_,fM.of (oW ⟨r,n,era,ln,W'⟩)⟩,?_⟩;have hdt:pJ (.tuple [.str "is",.str nm]) [] 16=none:=Rr hnm;refine yV CT (L:=Jl) (q:=qL) (LPS:=uH) (due:=rR nm (.tuple [.str "is",.str nm]) [] d2) (St':=Ws Z C S cL R K Tt Tm H5 p dc ra (Ae nm (.tuple [.str "is",.str nm]) d2) (6*i+1+1+1) [(q,.lst (ws.map V.str)),(la,.lst [.str (due1.getD ""),.str (due2.getD "")])]) BT ?_ W'.tb ?_ (fun _ _=>kI) (fun H1 k1 t1=>?_) (fun H2 h k1 t1=>mQ nT W' era ln (aab fun z=>by rw [z] at h;cases h) k1 t1) fun H2 W2=>?_
  ·rfl
  ·exact aaq (show uH[4]?=some (jR Jl) from rfl)
  ·have W1:=rH W' k1 t1 nT;obtain ⟨dx,ob⟩:=rN W1 era;refine ⟨_,rfl,ra,dx,_,rfl,ob,rfl,_,rfl,_,rfl,(by ext),fun tp htp=>?_⟩;have s1:=du.new (o:=.tup [.str "is",.str nm]) htp;exact yz (W1.same s1) era ln s1 (by omega) na (by omega) (.tup (gC.of a_) (.cons (.str _) (.cons (.str _) .nil))) (TD.node (by unfold ju;decide +kernel) (by ext) (show 1≤20 by decide) (fun d m=>by cases aak.mp m;exact TD.str na (by omega))) (aY _)
  clear era ln W' r n;refine ⟨la,_,_,rfl,rfl,oW W2,(show 2<sizeLine by decide),?_⟩;have e3:=Dd.rR nd lw hi enm hnm hdt
  replace Dd:=Dd.Ae nd lw hi enm hnm hdt
  have W:=wN W2 (o:=.lst [.str (due1.getD ""),.str (due2.getD ""),.str ((rR nm (.tuple [.str "is",.str nm]) [] d2).getD "")]) (.inl ⟨_,rfl⟩);clear W2 hdt;refine c0 _ _ ?_;clear c0 D0;generalize rR nm (.tuple [.str "is",.str nm]) [] d2=due3 at *;generalize Ae nm (.tuple [.str "is",.str nm]) d2=d3 at *;clear d1 d2 d;refine jX fun D0 c0=>?_;obtain ⟨r,n,era,ln,W'⟩:=W;refine ⟨_,rfl,?_⟩;refine xr (c:=6) e1 rfl (xr (c:=8) e2 rfl (xr (c:=4) e3 rfl ⟨(by ext),fun lb hlb=>?_⟩));have s1:=du.new (o:=.lst [.str (due1.getD ""),.str (due2.getD ""),.str (due3.getD "")]) hlb;refine ne3 (s1 _ _ (oW ⟨r,n,era,ln,W'⟩)) a_ ⟨_,rfl,?_⟩;refine c0 _ _ ?_;have W:=CJ (kI ⟨r,n,era,ln,W'⟩ s1);clear c0 D0 s1 hlb e1 e2 e3 era ln W' r n;refine jX fun D0 c0=>?_;have fin:∀ H',Ws Z C S cL R K Tt Tm H5 p dc ra d3 (6*i+1+1+1) [(q,.lst (ws.map V.str))] H'->D0.nx [some (.ref sa),some (.ref p),some (.int many),some (.int wide),some (.str due),some (.ref ra),some (.ref q),some (.int i),some (.str nm),some (.ref la),u10,u11,u12,u13] H':=by
   clear W;intro H6 W;refine c0 _ _ ?_;clear c0 D0;obtain ⟨n0,en0⟩:∃ n0,ws[0]?=some n0:=⟨_,aaC (by omega)⟩;have hn0:nameB n0=true:=(jH n0).mpr (hnw _ (aaq en0));refine jX fun D0 c0=>?_;obtain ⟨r,n,era,ln,W'⟩:=W;refine ⟨_,rfl,_,rfl,_,rfl,ux.mk p dc nm rfl W'.dr (by omega) na fun y H7 ya yl yo D7 B7=>?_⟩
   replace W':=W'.but B7 D7
   refine ⟨_,rfl,q,_,0,.str n0,rfl,rfl,hM W',gw (j:=0) (by rw [aaz,en0];rfl),(by ext),fun lb hlb=>?_⟩;refine A_.mk p dc lb _ rfl (D7.new hlb) (fM.of a_) (by simp) (by simp) fun v H8 mv D8 B8=>?_
   replace W':=(W'.same (du.new (o:=.lst [.str y,.str n0]) hlb)).but B8 D8
   clear hlb B7 B8 D7 D8;obtain ⟨od,rfl,oa,ol,oo⟩:∃ od:Str,v=.str od/\ju od/\od.length≤40/\(od=n0∨nameB od=false):=by
    rcases aah.mp mv with rfl|mv
    ·exact ⟨y,rfl,ya,by omega,.inr (yo ((jH nm).mp hnm).lo)⟩
    ·cases aak.mp mv;exact ⟨n0,rfl,(nU hn0).1,by have:=(nU hn0).2;omega,.inl rfl⟩
   obtain ⟨wd,ow,o1,o2,o3⟩:=Dd.odd hn0 en0 oo;refine c0 _ _ ?_;dsimp only [fH,List.set];clear c0 D0 mv yo ya yl;refine jX fun D0 c0=>?_;refine (oX.test (j7.op (j7.var rfl) (j7.op (j7.var rfl) j7.con (fun Q q'=>⟨_,_,_,_,rfl,rfl,hM W',gw (j:=0) (v:=.str n0) (by rw [aaz,en0];rfl),q'⟩)) (rD.ne rfl))) _ ?_;refine Mm (Ph:=fun v=>fH 11 v _ _ _) ow ?_;refine c0 _ _ ?_;dsimp only [fH,List.set];clear c0 D0 ow oo;have q1:uL od d3=some wd:=by unfold uL;rw [o1];rfl
   have q2:rR od (.tuple [.str "none"]) [] d3=some wd:=NQ o3;have q3:qg od [(nm,1,0)] d3=some wd:=C_ o2;clear o1 o2 o3;refine jX fun D0 c0=>?_;refine yV CT (L:=Iv) (q:=qL) (LPS:=uH) (due:=uL od d3) (St':=Ws Z C S cL R K Tt Tm H5 p dc ra (Kf od d3) (6*i+1+1+1+1) [(q,.lst (ws.map V.str))]) BT ?_ W'.tb ?_ (fun _ _=>kI) (fun H1 k1 t1=>?_) (fun H2 h k1 t1=>mQ nT W' era ln (aab fun z=>by rw [z] at h;cases h) k1 t1) fun H2 W2=>?_
   ·rfl
   ·exact aaq (show uH[5]?=some (jR Iv) from rfl)
   ·have W1:=rH W' k1 t1 nT;obtain ⟨dx,ob⟩:=rN W1 era;exact ⟨_,rfl,ra,dx,_,rfl,ob,rfl,_,rfl,Dl W1 era ln (du.refl _) (by omega) oa ol⟩
   clear era ln W' r n;refine ⟨(by ext),fun la hla=>?_⟩;refine c0 _ _ ?_;dsimp only [fH,List.set];clear c0 D0;have W:=Ie W2 hla (o:=.lst [.str ((uL od d3).getD "")]) (.inl ⟨_,rfl⟩);dsimp only [List.cons_append,List.nil_append] at W;rw [show Kf od d3=d3 from aab (by rw [q1];exact fun z=>by cases z),q1] at W;rw [q1];clear W2 hla q1;refine jX fun D0 c0=>?_;obtain ⟨r,n,era,ln,W'⟩:=W;refine ⟨_,rfl,.inl ⟨rfl,_,fM.of (oW ⟨r,n,era,ln,W'⟩)⟩,?_⟩;refine yV CT (L:=Ju) (q:=qL) (LPS:=uH) (due:=rR od (.tuple [.str "none"]) [] d3) (St':=Ws Z C S cL R K Tt Tm H5 p dc ra (Ae od (.tuple [.str "none"]) d3) (6*i+1+1+1+1+1) [(q,.lst (ws.map V.str)),(la,.lst [.str wd])]) BT ?_ W'.tb ?_ (fun _ _=>kI) (fun H1 k1 t1=>?_) (fun H2 h k1 t1=>mQ nT W' era ln (aab fun z=>by rw [z] at h;cases h) k1 t1) fun H2 W2=>?_
   ·rfl
   ·exact aaq (show uH[6]?=some (jR Ju) from rfl)
   ·have W1:=rH W' k1 t1 nT;obtain ⟨dx,ob⟩:=rN W1 era;refine ⟨_,rfl,ra,dx,_,rfl,ob,rfl,_,rfl,(by ext),fun tp htp=>?_⟩;have s1:=du.new (o:=.tup [.str "none"]) htp;exact yz (W1.same s1) era ln s1 (by omega) oa ol (.tup (gC.of a_) (.cons (.str _) .nil)) (TD.node (by unfold ju;decide +kernel) (by ext) (aaR _) (fun d m=>by cases m)) (aY _)
   clear era ln W' r n;refine ⟨la,_,_,rfl,rfl,oW W2,(show 1<sizeLine by decide),?_⟩;have W:=wN W2 (o:=.lst [.str wd,.str ((rR od (.tuple [.str "none"]) [] d3).getD "")]) (.inl ⟨_,rfl⟩);rw [show Ae od (.tuple [.str "none"]) d3=d3 from aab (by rw [q2];exact fun z=>by cases z),q2] at W;rw [q2];refine c0 _ _ ?_;clear c0 D0 W2 q2;refine jX fun D0 c0=>?_;obtain ⟨r,n,era,ln,W'⟩:=W;refine ⟨_,rfl,.inl ⟨rfl,_,fM.of (oW ⟨r,n,era,ln,W'⟩)⟩,?_⟩;refine yV CT (L:=Jk) (q:=qL) (LPS:=uH) (due:=qg od [(nm,1,0)] d3) (St':=Ws Z C S cL R K Tt Tm H5 p dc ra (Gk od [(nm,1,0)] d3) (6*i+1+1+1+1+1+1) [(q,.lst (ws.map V.str)),(la,.lst [.str wd,.str wd])]) BT ?_ W'.tb ?_ (fun _ _=>kI) (fun H1 k1 t1=>?_) (fun H2 h k1 t1=>mQ nT W' era ln (aab fun z=>by rw [z] at h;cases h) k1 t1) fun H2 W2=>?_
   ·rfl
   ·exact aaq (show uH[7]?=some (jR Jk) from rfl)
   ·have W1:=rH W' k1 t1 nT;obtain ⟨dx,ob⟩:=rN W1 era;refine ⟨_,rfl,ra,dx,_,rfl,ob,rfl,_,rfl,_,rfl,(by ext),fun tp htp=>⟨(by ext),fun tq htq=>?_⟩⟩;have s1:=du.new (o:=.tup [.str nm,.int 1,.int 0]) htp;have s2:=du.new (o:=.tup [.ref tp]) htq;exact xj (W1.same (s1.trans s2)) era ln (s1.trans s2) (by omega) oa ol a_ (.cons ⟨tp,rfl,s2 _ _ a_⟩ .nil) (by simp) (fun f m=>by cases aak.mp m;exact tZ na (by omega) (by decide) (by decide))
   clear era ln W' r n;refine ⟨la,_,_,rfl,rfl,oW W2,(show 2<sizeLine by decide),?_⟩;have W:=wN W2 (o:=.lst [.str wd,.str wd,.str ((qg od [(nm,1,0)] d3).getD "")]) (.inl ⟨_,rfl⟩);rw [show Gk od [(nm,1,0)] d3=d3 from aab (by rw [q3];exact fun z=>by cases z),q3] at W;rw [q3];refine c0 _ _ ?_;clear c0 D0 W2 q3;obtain ⟨r,n,era,ln,W'⟩:=W;refine ⟨_,rfl,_,rfl,_,rfl,_,rfl,(by ext),fun lb hlb=>?_⟩;have s1:=du.new (o:=.lst [.str wd,.str wd,.str wd]) hlb;refine ne3 (s1 _ _ (oW ⟨r,n,era,ln,W'⟩)) a_ ⟨_,rfl,?_⟩;have W:=CJ (kI ⟨r,n,era,ln,W'⟩ s1);rw [show 6*i+1+1+1+1+1+1=6*(i+1) by omega] at W;exact ⟨⟨_,_,_,_,_,_,_,rfl⟩,d3,Dd,W⟩
  refine (oX.test (j7.op (j7.var rfl) j7.con rD.i0)) _ ?_;by_cases h3:3<i
  ·rw [aaH (show (3:Int)<(i:Int) by omega),aac rfl];obtain ⟨r,n,era,ln,W'⟩:=W;subst era;exact ⟨_,rfl,_,rfl,Mj.mk r d3 n nm rfl W'.rc (by omega) W'.tm hnm (by rw [Dd.ct,← oE (by omega)];exact pY nd enm) fun l H6 k6 t6 _ e6=>⟨(by ext),fun lc hlc=>ne3 (du.new hlc _ _ e6) a_ ⟨_,rfl,fin _ ⟨r,n,rfl,ln,(QM W' k6 t6 nT).same (du.new hlc)⟩⟩⟩⟩
  ·rw [aaE (show ¬ (3:Int)<(i:Int) by omega),aab aay];exact fin _ W
 ·rintro σ H1 ⟨⟨u7,u8,u9,u10,u11,u12,u13,rfl⟩,d,Dd,Ws1⟩;refine c0 _ _ ?_;clear c0 D0 W era;obtain ⟨n0,en0⟩:∃ n0,ws[0]?=some n0:=⟨_,aaC (by omega)⟩;obtain ⟨n1,en1⟩:∃ n1,ws[1]?=some n1:=⟨_,aaC (by omega)⟩;have hn0:=hnw _ (aaq en0);have hn1:=hnw _ (aaq en1);refine jX fun D0 c0=>?_;obtain ⟨rr,n,era,ln,W⟩:=Ws1;have hq:=Q7 ⟨rr,n,era,ln,W⟩;refine ⟨_,rfl,_,rfl,q,_,0,.str n0,rfl,rfl,hq,gw (j:=0) (by rw [aaz,en0];rfl),(by ext),fun t1 z1=>?_⟩;have s1:=du.new (o:=.tup [.str n0,.int 0,.int 3]) z1;refine ⟨_,rfl,q,_,1,.str n1,rfl,rfl,s1.seq hq,gw (j:=1) (by rw [aaz,en1];rfl),(by ext),fun t2 z2=>⟨(by ext),fun t3 z3=>?_⟩⟩;have s2:=du.new (o:=.tup [.str n1,.int 0,.int 3]) z2;have s3:=du.new (o:=.tup [.ref t1,.ref t2]) z3;refine xQ.mk p dc t3 _ [(n0,0,3),(n1,0,3)] rfl (W.dr.mono (s1.trans (s2.trans s3))) a_ (.cons ⟨t1,rfl,s3 _ _ (s2 _ _ a_)⟩ (.cons ⟨t2,rfl,s3 _ _ a_⟩ .nil)) (by simp) (fun f m=>?_) fun ba xs fs H2 ea pf lf fb D2 B2=>?_
  ·rcases aah.mp m with rfl|m
   ·exact Og ⟨hn0,(show (-999999:Int)≤0 by decide),(show (0:Int)≤3 by decide),(show (3:Int)≤999999 by decide)⟩
   ·cases aak.mp m;exact Og ⟨hn1,(show (-999999:Int)≤0 by decide),(show (0:Int)≤3 by decide),(show (3:Int)≤999999 by decide)⟩
  replace W:=(W.same (s1.trans (s2.trans s3))).but B2 D2
  refine c0 _ _ ?_
  try dsimp only [fH,List.set]
  clear c0 D0 s1 s2 s3 z1 z2 z3 hq D2 B2;refine jX fun D0 c0=>?_;refine fun x dx hx hdx ndx=>tG.mk x dx 4 8 rfl a_ (by unfold xJ;decide) (by unfold xJ;decide) (fun _ r2 H3 e1 e2 e3 rc k2 fr=>⟨rfl,?_⟩) (fun n=>absurd (by decide) n);have T2:L0 Tt Tm H2 p dc:=⟨W.dr,W.tb,W.tm⟩;have W2:=zU T2 hx hdx e1 e2 e3 rc k2 fr;have S3:du H2 H3:=fQ hx hdx k2;refine c0 _ _ ?_
  try dsimp only [fH,List.set]
  clear c0 D0 e2 e3 rc k2 fr ndx hdx hx;refine jX fun D0 c0=>?_;refine ⟨_,rfl,N8.mk ba xs fs rfl (S3 _ _ ea) (gF pf fun b xs e=>S3 b _ e) (by omega) (fun f m=>⟨by have:=(fb f m).l;omega,(fb f m).a⟩) fun H4 s4=>?_⟩
  replace W2:=W2.same s4
  refine c0 _ _ ?_
  try dsimp only [fH,List.set]
  clear c0 D0 S3 s4;refine jX fun D0 c0=>?_;have hn0':nameB n0=true:=(jH n0).mpr hn0;obtain ⟨kw1,kw2,kw3⟩:=Ly (fs:=fs) (pg:=4) (rm:=8) hn0';have hq:=(W.ev (q,.lst (ws.map V.str)) (aao ..)).1;refine yV CT (L:=lamO) (q:=qL) (LPS:=uH) (due:=qg n0 fs (jZ 4 8)) (St':=Ws Z C S cL R K Tt Tm H2 p dc x (Gk n0 fs (jZ 4 8)) (0+1) []) BT ?_ W2.tb ?_ (fun _ _=>kI) (fun H1 k1 t1=>?_) (fun H2 h k1 t1=>mQ nT W2 e1 (aae _) (aab fun z=>by rw [z] at h;cases h) k1 t1) fun H6 W6=>?_
  ·rfl
  ·exact aaq (show uH[1]?=some (jR lamO) from rfl)
  ·have W1:=rH W2 k1 t1 nT;obtain ⟨dx,ob⟩:=rN W1 e1;exact ⟨_,rfl,x,dx,_,rfl,ob,rfl,_,rfl,q,_,0,.str n0,rfl,rfl,fM.of (sV W1 T2 hq (.inl ⟨_,rfl⟩)),gw (j:=0) (by rw [aaz,en0];rfl),_,rfl,xj W1 e1 (aae _) (du.refl _) (by decide) (nU hn0').1 (by have:=hn0.hi;omega) (sV W1 T2 ea (.inr ⟨_,rfl⟩)) (gF pf (V9 W1 T2)) (by omega) (fun f m=>Dw (fb f m))⟩
  rw [kw1];obtain ⟨r3,n3,e3,l3,W3⟩:=W6;refine ⟨_,rfl,rfl,_,rfl,?_⟩;rw [aaH (rfl:V.str (mW fs)=V.str (mW fs))];refine ⟨_,rfl,?_⟩;obtain ⟨dx3,ob3⟩:=rN W3 e3;refine ⟨x,dx3,_,rfl,ob3,rfl,yp.mk r3 _ _ (by rw [e3];rfl) W3.rc fun v H7 s7 hv=>?_⟩;obtain ⟨l,ys,ss,rfl,el,pm,so,pd⟩:=hv;refine ⟨l,ys,rfl,.inl (fM.of el),_,rfl,rfl,.inr ⟨_,rfl,rfl,?_⟩⟩;have hl:V.int ((ys.length:Nat):Int)=V.int (if decide (V.str (mW fs)=V.str "")=true then 1 else 0):=by
   rw [pd.len,pm.length_eq,aag];unfold Gk;by_cases h:qg n0 fs (jZ 4 8)=none
   ·rw [aac h,aac (aaH (aax V.str (kw2 h)))];rfl
   ·rw [aab h,aab (by rw [aaE (fun z=>kw3 h (V.str.inj z))];decide)];rfl
  refine ⟨_,rfl,?_⟩;rw [aaH hl];refine c0 _ _ ?_
  try dsimp only [fH,List.set]
  clear c0 D0 hl pd so pm el;have hdk:=Dd.kn;have rc1:=(Qg W W3.old).same s7;have hq7:fM K H7 q (ws.map V.str):=s7.seq (fM.of (sV W3 T2 hq (.inl ⟨_,rfl⟩)));clear W3 W2 W T2 ea pf fb lf kw1 kw2 kw3;have cut:∀ c:Nat,c≤9->jV (ws.map V.str) none (some ((c:Nat):Int))=(ws.take c).map V.str:=fun c hc=>by rw [Cq (by rw [aag];omega),List.map_take]
  have cut6:jV (ws.map V.str) none (some 6)=(ws.take 6).map V.str:=cut 6 (by decide);have cut8:jV (ws.map V.str) none (some 8)=(ws.take 8).map V.str:=cut 8 (by decide);have cut4:jV (ws.map V.str) none (some 4)=(ws.take 4).map V.str:=cut 4 (by decide);refine jX fun D0 c0=>?_;refine ⟨_,rfl,6,rfl,q,_,rfl,hq7,fun l1 z1=>?_⟩;have S1:=du.new (o:=.lst (jV (ws.map V.str) none (some 6))) z1;refine ⟨_,rfl,8,rfl,q,_,rfl,S1.seq hq7,fun l2 z2=>⟨l2,ws.take 8,rfl,by rw [cut8];exact fM.of a_,by rw [aaJ];omega,fun ss1 l3 pm1 so1 z3=>?_⟩⟩;have S2:=du.new (o:=.lst (jV (ws.map V.str) none (some 8))) z2;have S3:=du.new (o:=.lst (ss1.map V.str)) z3;refine ⟨_,rfl,4,rfl,q,_,rfl,(S1.trans (S2.trans S3)).seq hq7,fun l4 z4=>⟨l4,ws.take 4,rfl,by rw [cut4];exact fM.of a_,by rw [aaJ];omega,fun ss2 l5 pm2 so2 z5=>?_⟩⟩;have S4:=du.new (o:=.lst (jV (ws.map V.str) none (some 4))) z4;have S5:=du.new (o:=.lst (ss2.map V.str)) z5;refine ⟨(by ext),fun l6 z6=>?_⟩;have S6:=du.new (o:=.lst [.ref l1,.ref l3,.ref l5]) z6;have hS:=S1.trans (S2.trans (S3.trans (S4.trans (S5.trans S6))));refine c0 _ _ ?_
  try dsimp only [fH,List.set]
  clear c0 D0;have g1:=((S2.trans (S3.trans (S4.trans (S5.trans S6)))) l1 _ a_).trans (aax (fun z=>some (HO.lst z)) cut6);have g3:=(S4.trans (S5.trans S6)) l3 _ a_;have g5:=S6 l5 _ a_;have g6:=Ny S6
  replace rc1:=rc1.same hS
  clear S1 S2 S3 S4 S5 S6 hS z1 z2 z3 z4 z5 z6;obtain ⟨dx,ob⟩:=rc1.ob;refine ⟨_,rfl,ra,dx,_,rfl,era ▸ ob,rfl,yp.mk rr d n (by rw [era];rfl) rc1 fun v H9 s9 hv=>?_⟩;obtain ⟨la,ts,rfl,ela,_,ets⟩:=hv
  replace ets:ts=d.tr:=by simpa using ets
  refine ⟨_,rfl,ra,dx,_,rfl,s9 _ _ (era ▸ ob),rfl,yp.mk rr d n (by rw [era];rfl) (rc1.same s9) fun v H10 s10 hv=>?_⟩;obtain ⟨lk',ks,ss3,rfl,elk,pm3,so3,JW⟩:=hv;have l3':ks.length=ss3.length:=JW.len;have l8:ss3.length≤8:=by rw [pm3.length_eq,hdk,aaJ];omega
  refine ⟨lk',rfl,⟨_,fM.of elk⟩,?_⟩;refine jr (xs:=ks) (fun i ys σ' H'=>(∃ v,σ'=[v])/\H'=H10/\ys=(ss3.take i).map V.str) (by rw [l3'];exact aaj l8 (by decide)) ⟨⟨none,rfl⟩,rfl,rfl⟩ (fun i ys σ' H' _ z=>by rw [z.2.1];exact fM.of elk) ?_ ?_
  ·rintro i x ys σ' H1 hx hy ⟨⟨v,rfl⟩,rfl,rfl⟩ N hN;obtain ⟨nm,hm,ka',t,fs',rfl,kat⟩:=JW.at hx;obtain ⟨⟨dk,ek⟩,_⟩:=kat;refine ⟨_,rfl,_,Z.k,dk,_,_,rfl,ek,L.kc.cl,L.kc.nN,rfl,?_⟩;refine hN _ _ _ (by rw [aaD,hy];rfl) ⟨⟨_,rfl⟩,rfl,?_⟩;rw [aaX,hm,aaI];rfl
  ·rintro ys σ' H1 hy ⟨_,rfl,rfl⟩;refine ⟨by rw [aag,aaJ];exact aaj (Nat.min_le_right ..) (aaj l8 (by decide)),fun lb zb=>?_⟩;have sb:=du.new (o:=.lst ((ss3.take ks.length).map V.str)) zb;refine ⟨_,rfl,ra,dx,_,rfl,(s9.trans (s10.trans sb)) _ _ (era ▸ ob),rfl,yp.mk rr d n (by rw [era];rfl) (rc1.same (s9.trans (s10.trans sb))) fun v H11 s11 hv=>?_⟩;obtain ⟨lc,cs,rfl,elc,pm4,so4⟩:=hv
   replace so4:PyProof.Rows.sortedS cs=true:=by simpa using so4
   refine ⟨(by ext),fun ld zd=>⟨_,rfl,?_⟩⟩;have sd:=du.new (o:=.lst [.ref la,.ref lb,.ref lc]) zd;have sA:=s9.trans (s10.trans (sb.trans (s11.trans sd)));have q1:ts=ws.take 6:=ets.trans Dd.tr;have q2:ss3.take ks.length=ss1:=by rw [l3',ab7];exact vL (pm3.trans (by rw [hdk];exact pm1.symm)) so3 so1
   have q3:cs=ss2:=vL (pm4.trans (show d.ct.Perm ss2 by rw [Dd.ct];exact pm2.symm)) so4 so2;have m1:=pm1.length_eq;have m2:=pm2.length_eq;rw [aaJ] at m1 m2;refine ⟨_,_,.list [.list ((ws.take 6).map .str),.list (ss1.map .str),.list (ss2.map .str)],rfl,.lst (fM.of a_) (.cons ?_ (.cons ?_ (.cons ?_ .nil))),.lst (fM.of (sA _ _ g6)) (.cons ?_ (.cons ?_ (.cons ?_ .nil))),by simp only [oU,jy,zc];decide,by simp only [qb,lK,zM,aag,aaJ,aaA,ab2];omega,fun H12 _=>k H12⟩
   ·rw [← q1];exact lO (fM.of ((s10.trans (sb.trans (s11.trans sd))) _ _ ela))
   ·rw [← q2];exact lO (fM.of ((s11.trans sd) _ _ a_))
   ·rw [← q3];exact lO (fM.of (sd _ _ elc))
   ·exact lO (fM.of (sA _ _ g1))
   ·exact lO (fM.of (sA _ _ g3))
   ·exact lO (fM.of (sA _ _ g5))
end
noncomputable def N7 (h:∀ (S:Setting) (x a b c:ZH),peek K S (bindArgs f ⟨[x],[("pages",a),("room",b),("over",c)]⟩)=some ([("self",x),("pages",a),("room",b),("over",c)]:List (Str×Value))):jF K f ["self","pages","room","over"] ["pages","room","over"] gL XQ:=by
 refine ⟨fun s d e X g=>?_,fun {vs d j e} r i=>?_⟩
 ·match d,e,g with
  |[x],[a,b,c],_=>exact kp_binds X fun S=>h S x a b c
  |[],_,z=>simp [gL] at z
  |[_],[],z=>simp [gL] at z
  |[_],[_],z=>simp [gL] at z
  |[_],[_,_],z=>simp [gL] at z
  |[_],_::_::_::_::_,z=>simp [gL] at z
  |_::_::_,_,z=>simp [gL] at z
 ·cases r with
  |nil=>exact .nil
  | cons r1 r=>
    cases r with
    |cons r2 r=>exact .nil
    | nil=>
      cases i with
      |nil=>exact .nil
      | cons z1 z=>
        cases z with
        |nil=>exact .nil
        | cons z2 z=>
          cases z with
          |nil=>exact .nil
          | cons z3 z=>
            cases z with
            |cons z4 z=>exact .nil
            |nil=>exact .cons r1 (.cons z1 (.cons z2 (.cons z3 .nil)))
noncomputable def R6 (h:∀ (S:Setting) (x a b:ZH),peek K S (bindArgs e ⟨[x],[("room",a),("pages",b)]⟩)=some ([("self",x),("pages",b),("room",a)]:List (Str×Value))):jF K e ["self","pages","room"] ["room","pages"] gR YH:=by
 refine ⟨fun s c d X f=>?_,fun {vs c i d} r g=>?_⟩
 ·match c,d,f with
  |[x],[a,b],_=>exact kp_binds X fun S=>h S x a b
  |[],_,z=>simp [gR] at z
  |[_],[],z=>simp [gR] at z
  |[_],[_],z=>simp [gR] at z
  |[_],_::_::_::_,z=>simp [gR] at z
  |_::_::_,_,z=>simp [gR] at z
 ·cases r with
  |nil=>exact .nil
  | cons r1 r=>
    cases r with
    |cons r2 r=>exact .nil
    | nil=>
      cases g with
      |nil=>exact .nil
      | cons z1 z=>
        cases z with
        |nil=>exact .nil
        | cons z2 z=>
          cases z with
          |cons z4 z=>exact .nil
          |nil=>exact .cons r1 (.cons z2 (.cons z1 .nil))
def Du (p:g=[i,j,l,m]) (h:∀ (S:Setting) (x a b c:ZH),peek K S (bindArgs f ⟨[x,a,b],[(k,c)]⟩)=some ([(i,x),(j,a),(l,b),(m,c)]:List (Str×Value))):jF K f g [k] gT WX:=by
 subst p;refine ⟨fun s d e X n=>?_,fun {vs d q e} r o=>?_⟩
 ·match d,e,n with
  |[x,a,b],[c],_=>exact kp_binds X fun S=>h S x a b c
  |[],_,z=>simp [gT] at z
  |[_],_,z=>simp [gT] at z
  |[_,_],_,z=>simp [gT] at z
  |[_,_,_],[],z=>simp [gT] at z
  |[_,_,_],_::_::_,z=>simp [gT] at z
  |_::_::_::_::_,_,z=>simp [gT] at z
 ·cases r with
  |nil=>exact .nil
  | cons r1 r=>
    cases r with
    |nil=>exact .nil
    | cons r2 r=>
      cases r with
      |nil=>exact .nil
      | cons r3 r=>
        cases r with
        |cons r4 r=>exact .nil
        | nil=>
          cases o with
          |nil=>exact .nil
          | cons z1 z=>
            cases z with
            |cons z2 z=>exact .nil
            |nil=>exact .cons r1 (.cons r2 (.cons r3 (.cons z1 .nil)))
theorem Wd (h:∀ (S:Setting) (x:ZH),peek K S (bindArgs a ⟨[x],[]⟩)=some ([(b,x),(c,d),(f,e)]:List (Str×Value))):Binds K a [b,c,f] [d,e]:=fun s g X i=>by
 match g,i with
 |[x],_=>exact kp_binds X fun S=>h S x
 |[],z=>simp at z
 |_::_::_,z=>simp at z
theorem Vk (h:∀ (S:Setting) (x a:ZH),peek K S (bindArgs b ⟨[x,a],[]⟩)=some ([(c,x),(e,a),(f,d)]:List (Str×Value))):Binds K b [c,e,f] [d]:=fun s g X i=>by
 match g,i with
 |[x,a],_=>exact kp_binds X fun S=>h S x a
 |[],z=>simp at z
 |[_],z=>simp at z
 |_::_::_::_,z=>simp at z
theorem Dj (h:∀ (S:Setting) (x a b:ZH),peek K S (bindArgs c ⟨[x,a,b],[]⟩)=some ([(e,x),(f,a),(g,b),(i,d)]:List (Str×Value))):Binds K c [e,f,g,i] [d]:=fun s j X l=>by
 match j,l with
 |[x,a,b],_=>exact kp_binds X fun S=>h S x a b
 |[],z=>simp at z
 |[_],z=>simp at z
 |[_,_],z=>simp at z
 |_::_::_::_::_,z=>simp at z
def Dq (h:H T=some (.tbl #[])):gD H T q LPS:=by exact ⟨#[],h,trivial,fun _ _=>.inl rfl⟩
def M9 (h:K.lookup a=some ⟨.type "tuple",od,.seq #[] n,b⟩) (H:Hp):gC K H a []:=.inr ⟨_,#[],n,h,rfl,rfl,aaR _,.nil⟩
noncomputable def Ue (n b t f e k z:Zl):∃ a:Str->Addr,a "badname" = n/\a "badbounds" = b/\a "taken" = t/\a "full" = f/\a "badtest" = e/\a "badkeys" = k/\a "badsize" = z/\∀ wd,a wd=n∨a wd=b∨a wd=t∨a wd=f∨a wd=e∨a wd=k∨a wd=z:=by
 refine ⟨fun wd=>if wd = "badname" then n else if wd = "badbounds" then b else if wd = "taken" then t else if wd = "full" then f else if wd = "badtest" then e else if wd = "badkeys" then k else z,aac rfl,?_,?_,?_,?_,?_,?_,fun wd=>?_⟩
 ·exact (aab (by ext)).trans (aac rfl)
 ·exact (aab (by ext)).trans ((aab (by ext)).trans (aac rfl))
 ·exact (aab (by ext)).trans ((aab (by ext)).trans ((aab (by ext)).trans (aac rfl)))
 ·exact (aab (by ext)).trans ((aab (by ext)).trans ((aab (by ext)).trans ((aab (by ext)).trans (aac rfl))))
 ·exact (aab (by ext)).trans ((aab (by ext)).trans ((aab (by ext)).trans ((aab (by ext)).trans ((aab (by ext)).trans (aac rfl)))))
 ·exact (aab (by ext)).trans ((aab (by ext)).trans ((aab (by ext)).trans ((aab (by ext)).trans ((aab (by ext)).trans (aab (by ext))))))
 ·dsimp only;split <;> try exact .inl rfl
  split <;> try exact .inr (.inl rfl)
  split <;> try exact .inr (.inr (.inl rfl))
  split <;> try exact .inr (.inr (.inr (.inl rfl)))
  split <;> try exact .inr (.inr (.inr (.inr (.inl rfl))))
  split
  ·exact .inr (.inr (.inr (.inr (.inr (.inl rfl)))))
  ·exact .inr (.inr (.inr (.inr (.inr (.inr rfl)))))
def Wo (a:ZY):List Str->Prop
 |[]=>True
 |x::l=>a x=none/\Wo a l
def QH (K:Zs) (C:Zl):List Str->Prop
 |[]=>True
 |x::l=>findIn K (.ref C) x=some none/\QH K C l
structure CI (K:Zs) (mg:ZY) (C:Zl) (n:Str) (l:Y1):Prop where
 a:mg n=some (.ref C)
 c:vy K C
 ma:makesIn K C=true
 kc:keepIn K (.ref C)=true
 n:QH K C l
noncomputable def ci (X:K.In h) (G:h.Ns mainGlobals j) (a:nsIn K mainGlobals n=some (some (.ref C))) (b:plainGet K C Str.empty=true) (c:hasDictIn K C=true) (d:plainOver K C=true) (e:findIn K (.ref C) "__setattr__" = some (some (.builtin "object.__setattr__"))) (f:makesIn K C=true) (g:keepIn K (.ref C)=true) (i:QH K C l):CI K j C n l:=⟨mg_of X G a,⟨b,c,d,e⟩,f,g,i⟩
noncomputable def md1 (a:findIn K (.ref C) n=some (some (.ref f))) (i:isFn K (.ref f)=true) (l:K.lookup f=some ⟨oc,od,.func (fnOf n q (dM e) (dI e) (b_ e) .none g h j an d m),s⟩) (c:codeIn K d q=true) (k:keepIn K (.ref f)=true) (b:∀ (g h j:ZH) (an:YA) (d m o:ZH),bindArgs (fnOf n q (dM e) (dI e) (b_ e) .none g h j an d m) ⟨[o],[]⟩=pure ([p].zip [o])):MD K C n q e [p] f (fnOf n q (dM e) (dI e) (b_ e) .none g h j an d m):=
 ⟨⟨a,i,k⟩,iI l c k,(iI l c k).binds fun _ _ _ _ _ _ v r=>by obtain ⟨_,rfl⟩:=Rm r;exact b _ _ _ _ _ _ _⟩
noncomputable def ZD (X:K.In h) (G:h.Ns mainGlobals p) (a:nsIn K mainGlobals n=some (some (.ref f))) (l:K.lookup f=some ⟨oc,od,.func (fnOf n n (dM e) (dI e) (b_ e) .none g i j an d m),s⟩) (c:codeIn K d n=true) (k:keepIn K (.ref f)=true) (b:∀ (g i j:ZH) (an:YA) (d m o:ZH),bindArgs (fnOf n n (dM e) (dI e) (b_ e) .none g i j an d m) ⟨[o],[]⟩=pure ([q].zip [o])):gK K p n e [q] f (fnOf n n (dM e) (dI e) (b_ e) .none g i j an d m):=
 ⟨iI l c k,mg_of X G a,(iI l c k).binds fun _ _ _ _ _ _ v r=>by obtain ⟨_,rfl⟩:=Rm r;exact b _ _ _ _ _ _ _⟩
noncomputable def md2 (a:findIn K (.ref C) n=some (some (.ref f))) (i:isFn K (.ref f)=true) (l:K.lookup f=some ⟨oc,od,.func (fnOf n q (dM e) (dI e) (b_ e) .none g h j an d m),w⟩) (c:codeIn K d q=true) (k:keepIn K (.ref f)=true) (b:∀ (g h j:ZH) (an:YA) (d m o p:ZH),bindArgs (fnOf n q (dM e) (dI e) (b_ e) .none g h j an d m) ⟨[o,p],[]⟩=pure ([r,s].zip [o,p])):MD K C n q e [r,s] f (fnOf n q (dM e) (dI e) (b_ e) .none g h j an d m):=
 ⟨⟨a,i,k⟩,iI l c k,(iI l c k).binds fun _ _ _ _ _ _ x v=>by obtain ⟨_,_,rfl⟩:=t8 v;exact b _ _ _ _ _ _ _ _⟩
noncomputable def df2 (X:K.In h) (G:h.Ns mainGlobals q) (a:nsIn K mainGlobals n=some (some (.ref f))) (l:K.lookup f=some ⟨oc,od,.func (fnOf n n (dM e) (dI e) (b_ e) .none g i j an d m),w⟩) (c:codeIn K d n=true) (k:keepIn K (.ref f)=true) (b:∀ (g i j:ZH) (an:YA) (d m o p:ZH),bindArgs (fnOf n n (dM e) (dI e) (b_ e) .none g i j an d m) ⟨[o,p],[]⟩=pure ([r,s].zip [o,p])):gK K q n e [r,s] f (fnOf n n (dM e) (dI e) (b_ e) .none g i j an d m):=
 ⟨iI l c k,mg_of X G a,(iI l c k).binds fun _ _ _ _ _ _ x v=>by obtain ⟨_,_,rfl⟩:=t8 v;exact b _ _ _ _ _ _ _ _⟩
noncomputable def Zz (a:findIn K (.ref C) n=some (some (.ref f))) (i:isFn K (.ref f)=true) (l:K.lookup f=some ⟨oc,od,.func (fnOf n q (dM e) (dI e) (b_ e) .none g h j an d m),y⟩) (c:codeIn K d q=true) (k:keepIn K (.ref f)=true) (b:∀ (g h j:ZH) (an:YA) (d m o p r:ZH),bindArgs (fnOf n q (dM e) (dI e) (b_ e) .none g h j an d m) ⟨[o,p,r],[]⟩=pure ([s,v,w].zip [o,p,r])):MD K C n q e [s,v,w] f (fnOf n q (dM e) (dI e) (b_ e) .none g h j an d m):=
 ⟨⟨a,i,k⟩,iI l c k,(iI l c k).binds fun _ _ _ _ _ _ z x=>by obtain ⟨_,_,_,rfl⟩:=Mv x;exact b _ _ _ _ _ _ _ _ _⟩
noncomputable def ZG (a:findIn K (.ref C) n=some (some (.ref f))) (i:isFn K (.ref f)=true) (l:K.lookup f=some ⟨oc,od,.func (fnOf n q (dM e) (dI e) (b_ e) .none g h j an d m),A⟩) (c:codeIn K d q=true) (k:keepIn K (.ref f)=true) (b:∀ (g h j:ZH) (an:YA) (d m o p r s:ZH),bindArgs (fnOf n q (dM e) (dI e) (b_ e) .none g h j an d m) ⟨[o,p,r,s],[]⟩=pure ([v,w,x,y].zip [o,p,r,s])):MD K C n q e [v,w,x,y] f (fnOf n q (dM e) (dI e) (b_ e) .none g h j an d m):=
 ⟨⟨a,i,k⟩,iI l c k,(iI l c k).binds fun _ _ _ _ _ _ B z=>by obtain ⟨_,_,_,_,rfl⟩:=Y9 z;exact b _ _ _ _ _ _ _ _ _ _⟩
noncomputable def Lb (B:String):List Value:=[.type B,.type "Exception",.type "BaseException",.type "object"]
def qt (a:ZH):refuseLoop a "__setattr__" (Lb "ValueError")=pure ():=by kernel_rfl
def U9 (a:ZH):refuseLoop a "__setattr__" (Lb "LookupError")=pure ():=by kernel_rfl
noncomputable def Yy (K:Zs) (C:Zl) (a:YE) (b:Y2):Bool:=match clsIn K C with
 |some cd=>cd.hasDict && (cd.mro == a.map Value.ref++b)
 |none=>false
set_option tactic.hygienic true in
def Mh (e:ur K C B n=true) (f:findIn K (.ref C) "__setattr__" = some (some (.builtin "object.__setattr__"))) (a:Yy K C c (Lb B)=true) (g:keepIn K (.ref C)=true) (h:typeIn K (.ref C)=some (.type "type"))
 (i:∀ b,refuseLoop b "__setattr__" (Lb B)=pure ()):nW K C B n:=by
 refine ⟨e,f,?_,g,h⟩;unfold Yy at a;split at a
 ·rename_i cd d;rw [aaP,aaW] at a;refine ⟨cd,c,Lb B,d,a.1,a.2,by simp [Lb],i,?_⟩;unfold Lb;simp
 ·cases a
structure XS (K:Zs) (C:Zl) (rs:YE) (B n:String):Prop where
 a:ur K C B n=true
 b:findIn K (.ref C) "__setattr__" = some (some (.builtin "object.__setattr__"))
 c:Yy K C rs (Lb B)=true
 d:keepIn K (.ref C)=true
 e:typeIn K (.ref C)=some (.type "type")
def XS.ok (h:XS K C g B n) (i:∀ f,refuseLoop f "__setattr__" (Lb B)=pure ()):nW K C B n:=Mh h.a h.b h.c h.d h.e i
noncomputable def Sw {l:OpenLaw} {w:ZE} {K:Zs} {f:ZY} {fa lS Tt cc hj Tm eL lT Tn g9 fB fP fO mt fS fW mu mv mw mx my mz fA fI mA mB mC mD mE mF mG mH mI mJ mK mL mM ha hb hc mN tW tS Y eG hk mO hl qC lU mP qG lV mQ qL eM mR qY lW mS qX lX mT mU qU eN mV qR eO mW mX mY mZ m0 m1 m2 m3 eP eQ eH eb hm dK ka tD q i r y j n z g o A B X p qS qV qM eI TS D dA ec E dB ed F dC ee G dD ef I dE eg J dF eh M dG ei:Zl} (m4:f "law" = some (.ref fa))
 {m5 m6 m7 hn m8 m9 ho hp hq hr hs ht na nb hu hv hw hx hy hz hA hB hC hD hE hF hG hH hI hJ hK eR hL hM hN hO hP hQ hR hU hV hW hX hY hZ h0 h1 h2 h3 h4 h5:ZA} {h6 eS h7 h8 h9 eT ia ib eU ic ie ig ih eV ii ej ij ek ik eW il el im io eX eY ip iq ir it eZ e0 e1 e2 e3 e4 e5 e6 e7 e8 e9 fb fe ff fg fh fi fj fk fl fm:YA} {iu iv iw fn ix fo iy iz iA iB iC iD iE iF fp fq iG iH iJ fr fs ft fu fv fw fx fy fz fC fD fE fF fH:YU} {aK cd dL ba de di dv dj ci bk dk dx dl dm Q dH dJ nc iK fJ nd nf iL iM iN iO iP iQ iR:Nat} {fK:Int} {iS fL fN fQ fR w0 w1 w2 w3 w4 w5 w6 w7 w8 w9 ng nh ni nj nk nl nm nn Yt iU iV iW iX iY v0 v1 v2 v3 v4 v5 v6 v7 v8 v9 no np nq nr nt nu nv nw iZ i0 i1 i2 i3 i4 u0 u1 u2 u3 u4 u5 u6 u7 u8 u9 nx ny nz nA nB nC nD nE i5 i6 i7 i8 i9 fT ja jb jc fU fV fX em fY jd en eo ep dN er je es et eu dO ev jf fZ f0 f1 ew f2 jg ex ey dP ez jh ji jj jk f3 jl f4 f5 f6 jm jn jo jp f7 jq nF nG jr f8 f9 ga gb dT gc js gd gf gg gh gi dU gj jt gk gl gm gn gp dV gq ju gr gs gu gv gw dX gx jv gy gz gA gB gC dY gD jw gE gF gG gH gI dZ gJ jx gL gN gO gP gQ d0 gR jy gS:ZH}
 (nI:f "law" = some (.ref lS))
 (nJ:K.lookup lS=some ⟨iS,h6,.func (fnOf "law" "law" (dM (top 130)) (dI (top 130)) (b_ (top 130)) .none fL fN fQ eS (.ref cc) fR),iu⟩)
 (pa:K.lookup cc=some ⟨Yt,h7,.fields #[w0,w1,w2,w3,w4,w5,w6,w7,w8,w9,ng,.ref Tt,nh,ni,nj,nk,nl,nm,nn],iv⟩)
 (nK:K.lookup Tt=none)
 (tb:L2.tabIn K cc=some Tt)
 (nL:codeIn K (.ref cc) "law" = true)
 (nM:f "_law_full_words" = some (.ref hj))
 (lY:K.lookup hj=some ⟨iU,h8,.func (fnOf "_law_full_words" "_law_full_words" (dM (top 129)) (dI (top 129)) (b_ (top 129)) .none iV iW iX h9 (.ref eL) iY),iw⟩)
 (nN:K.lookup eL=some ⟨iZ,eT,.fields #[v0,v1,v2,v3,v4,v5,v6,v7,v8,v9,no,.ref Tm,np,nq,nr,nt,nu,nv,nw],fn⟩)
 (nO:K.lookup Tm=none)
 (l0:L2.tabIn K eL=some Tm)
 (l1:codeIn K (.ref eL) "_law_full_words" = true)
 (l2:keepIn K (.ref hj)=true)
 (pb:f "merged" = some (.ref lT))
 (pc:K.lookup lT=some ⟨i0,ia,.func (fnOf "merged" "merged" (dM (top 66)) (dI (top 66)) (b_ (top 66)) .none i1 i2 i3 ib (.ref g9) i4),ix⟩)
 (nP:K.lookup g9=some ⟨i5,eU,.fields #[u0,u1,u2,u3,u4,u5,u6,u7,u8,u9,nx,.ref Tn,ny,nz,nA,nB,nC,nD,nE],fo⟩)
 (nQ:K.lookup Tn=none)
 (nR:L2.tabIn K g9=some Tn)
 (DB:gK K f "_law_begin" (top 116) ["_law_script"] fB m5)
 (DP:gK K f "_law_pick" (top 117) ["_law_d","_law_many"] fP m6)
 (DO:gK K f "_law_of" (top 118) ["_law_d","_law_things"] fO m7)
 (l3:gK K f "_law_far" (top 119) ["_law_d"] mt hn)
 (DS:gK K f "_law_same" (top 120) ["_law_found","_law_due"] fS m8)
 (DW:gK K f "_law_word" (top 121) ["_law_d"] fW m9)
 (l4:gK K f "_law_words" (top 122) ["_law_d","_law_many"] mu ho)
 (nS:gK K f "_law_is_name" (top 123) ["_law_text"] mv hp)
 (l5:gK K f "_law_odd_name" (top 125) ["_law_d","_law_text"] mw hq)
 (l6:gK K f "_law_fields_word" (top 126) ["_law_fields"] mx hr)
 (l7:gK K f "_law_bent_fields" (top 127) ["_law_d","_law_fields"] my hs)
 (l8:gK K f "_law_tell" (top 128) ["_law_rec"] mz ht)
 (DA:gK K f "_law_ask" (top 124) ["_law_ask_here"] fA na)
 (DI:gK K f "is_name" (top 27) ["text"] fI nb)
 (gT:gK K f "need_name" (top 28) ["text"] mA hu)
 (jz:gK K f "need_fields" (top 29) ["fields"] mB hv)
 (l9:gK K f "need_pages" (top 53) ["pages"] mC hw)
 (mb:gK K f "need_room" (top 54) ["room"] mD hx)
 (nT:gK K f "is_word" (top 73) ["thing"] mE hy)
 (nU:gK K f "is_number" (top 74) ["thing"] mF hz)
 (nV:gK K f "is_leaf" (top 75) ["test"] mG hA)
 (mc:gK K f "count_parts" (top 76) ["thing","deep"] mH hB)
 (md:gK K f "is_test" (top 77) ["test"] mI hC)
 (me:gK K f "need_test" (top 78) ["test"] mJ hD)
 (mf:gK K f "need_keys" (top 85) ["keys"] mK hE)
 (hd:gK K f "need_new" (top 91) ["name","borne"] mL hF)
 (he:gK K f "need_fewer" (top 92) ["things","most"] mM hG)
 (jA:gK K f "do_kind" (top 95) ["stand","handed"] ha hH)
 (jB:gK K f "do_lane" (top 96) ["stand","handed"] hb hI)
 (jD:gK K f "do_tally" (top 106) ["stand","handed"] hc hJ)
 (nW:gK K f "perform" (top 112) ["stand","deed"] mN hK)
 (zz:Wo f ["len","range","list","tuple","str","bool","int","min","repr","all","any","isinstance","ValueError","LookupError","dict","enumerate","sum","sorted"])
 (bs:f "MOST_LETTERS" = some (.int 8 aK))
 (cs:f "MOST_FIELDS" = some (.int 4 cd))
 (dQ:f "LIMIT" = some (.int 999999 dL))
 (bt:f "FEWEST_PAGES" = some (.int 2 ba))
 (dn:f "MOST_PAGES" = some (.int 16 de))
 (dp:f "LEAST_ROOM" = some (.int 5 di))
 (dy:f "MOST_ROOM" = some (.int 12 dv))
 (dq:f "MOST_KINDS" = some (.int 8 dj))
 (dd:f "MOST_TRACKS" = some (.int 6 ci))
 (bK:f "MOST_TALLIES" = some (.int 4 bk))
 (dr:f "MOST_PARTS" = some (.int 15 dk))
 (dz:f "MOST_DEEP" = some (.int 5 dx))
 (dt:f "MOST_NAMED" = some (.int 4 dl))
 (du:f "KEYS_LIMIT" = some (.int 64 dm))
 (d4:f "MOST_KEYS" = some (.int 16 Q))
 (hf:f "PAGES" = some (.int 4 dH))
 (jE:f "ROOM" = some (.int 8 dJ))
 (jF:f "WITHIN" = some (.ref tW))
 (nX:PyProof.Rows.KTD.tabLook PyProof.Rows.KTD.flatLooks (fun b=>K.lookup b) tW dW=true)
 (jG:f "SIGN_OF" = some (.ref tS))
 (nY:PyProof.Rows.KTD.tabLook PyProof.Rows.KTD.flatLooks (fun b=>K.lookup b) tS dS=true)
 (cK:CI K f Y "Kind" ["name","fields"])
 (nZ:findIn K (.ref Y) "__init__" = some (some (.ref eG)))
 (n0:K.lookup eG=some ⟨i6,ic,.func (fnOf "__init__" "Kind.__init__" (dM (kM 0)) (dI (kM 0)) (b_ (kM 0)) (.ref hk) i7 i8 i9 ie fT ja),iy⟩)
 (n1:codeIn K fT "Kind.__init__" = true)
 (n2:keepIn K (.ref eG)=true)
 (n3:isFn K (.ref eG)=true)
 (n4:K.lookup hk=some ⟨jb,ig,.seq #[.ref mO] nc,iz⟩)
 (gU:MD K Y "lowest" "Kind.lowest" (kM 1) ["self"] hl eR)
 (cC:CI K f qC "Claim" ["ticket","time","form","filled","given"])
 (hh:MD K qC "__init__" "Claim.__init__" (cM 0) ["self","ticket","time","kind"] lU hL)
 (mh:MD K qC "twin" "Claim.twin" (cM 2) ["self"] mP hM)
 (cG:CI K f qG "Page" ["claims","used","gone"])
 (eJ:MD K qG "__init__" "Page.__init__" (gM 0) ["self"] lV hN)
 (mi:MD K qG "twin" "Page.twin" (gM 3) ["self"] mQ hO)
 (cL:CI K f qL "Lane" ["most","room","over","pages","held","told","last_time","tickets","given_in","thrown_back","lost","missed"])
 (n5:findIn K (.ref qL) "__init__" = some (some (.ref eM)))
 (n6:K.lookup eM=some ⟨jc,ih,.func (fnOf "__init__" "Lane.__init__" (dM (lM 0)) (dI (lM 0)) (b_ (lM 0)) .none fU fV fX eV em fY),iA⟩)
 (n7:codeIn K em "Lane.__init__" = true)
 (n8:keepIn K (.ref eM)=true)
 (n9:isFn K (.ref eM)=true)
 (oa:∀ (S:Setting) (x a b c:ZH),peek K S (bindArgs (fnOf "__init__" "Lane.__init__" (dM (lM 0)) (dI (lM 0)) (b_ (lM 0)) .none fU fV fX eV em fY) ⟨[x],[("pages",a),("room",b),("over",c)]⟩)=some ([("self",x),("pages",a),("room",b),("over",c)]:List (Str×Value)))
 (mj:MD K qL "twin" "Lane.twin" (lM 21) ["self"] mR hP)
 (cY:CI K f qY "Track" ["written","clock","test"])
 (eK:MD K qY "__init__" "Track.__init__" (tM 0) ["self","written"] lW hQ)
 (mk:MD K qY "twin" "Track.twin" (tM 2) ["self"] mS hR)
 (cX:CI K f qX "Stand" ["pages","room","known","tracks","counters","still","halting"])
 (gV:MD K qX "__init__" "Stand.__init__" (sM 0) ["self","pages","room"] lX hU)
 (ob:MD K qX "looks" "Stand.looks" (sM 4) ["self"] mT hV)
 (ml:MD K qX "twin" "Stand.twin" (sM 5) ["self"] mU hW)
 (cU:CI K f qU "Tally" ["test","named","most","counted","beyond"])
 (oc:findIn K (.ref qU) "__init__" = some (some (.ref eN)))
 (od:K.lookup eN=some ⟨jd,ii,.func (fnOf "__init__" "Tally.__init__" (dM (yM 0)) (dI (yM 0)) (b_ (yM 0)) .none en eo ep ej dN er),iB⟩)
 (oe:codeIn K dN "Tally.__init__" = true)
 (of:keepIn K (.ref eN)=true)
 (og:isFn K (.ref eN)=true)
 (oh:∀ (S:Setting) (x a b c:ZH),peek K S (bindArgs (fnOf "__init__" "Tally.__init__" (dM (yM 0)) (dI (yM 0)) (b_ (yM 0)) .none en eo ep ej dN er) ⟨[x,a,b],[("most",c)]⟩)=some ([("self",x),("test",a),("keys",b),("most",c)]:List (Str×Value)))
 (mm:MD K qU "twin" "Tally.twin" (yM 4) ["self"] mV hX)
 (cR:CI K f qR "Recorder" ["stand","past","undone","__bool__"])
 (oi:findIn K (.ref qR) "__init__" = some (some (.ref eO)))
 (oj:K.lookup eO=some ⟨je,ij,.func (fnOf "__init__" "Recorder.__init__" (dM (rM 0)) (dI (rM 0)) (b_ (rM 0)) .none es et eu ek dO ev),iC⟩)
 (ol:codeIn K dO "Recorder.__init__" = true)
 (om:keepIn K (.ref eO)=true)
 (on:isFn K (.ref eO)=true)
 (oo:∀ (S:Setting) (x a b:ZH),peek K S (bindArgs (fnOf "__init__" "Recorder.__init__" (dM (rM 0)) (dI (rM 0)) (b_ (rM 0)) .none es et eu ek dO ev) ⟨[x],[("room",a),("pages",b)]⟩)=some ([("self",x),("pages",b),("room",a)]:List (Str×Value)))
 (hi:MD K qR "do" "Recorder.do" (rM 17) ["self","deed"] mW hY)
 (gW:MD K qR "lanes" "Recorder.lanes" (rM 24) ["self"] mX hZ)
 (gX:MD K qR "kinds" "Recorder.kinds" (rM 23) ["self"] mY h0)
 (gY:MD K qR "tallies" "Recorder.tallies" (rM 32) ["self"] mZ h1)
 (jH:MD K qR "stopped" "Recorder.stopped" (rM 33) ["self"] m0 h2)
 (jI:MD K qR "halted_by" "Recorder.halted_by" (rM 34) ["self"] m1 h3)
 (gZ:MD K qR "__len__" "Recorder.__len__" (rM 37) ["self"] m2 h4)
 (jJ:MD K qR "done" "Recorder.done" (rM 21) ["self"] m3 h5)
 (op:findIn K (.ref qR) "lane" = some (some (.ref eP)))
 (oq:isFn K (.ref eP)=true)
 (os:K.lookup eP=some ⟨jf,ik,.func (fnOf "lane" "Recorder.lane" (dM (rM 2)) (dI (rM 2)) (b_ (rM 2)) .none fZ f0 f1 eW ew f2),iD⟩)
 (ot:codeIn K ew "Recorder.lane" = true)
 (mn:keepIn K (.ref eP)=true)
 (jK:∀ (S:Setting) (x a:ZH),peek K S (bindArgs (fnOf "lane" "Recorder.lane" (dM (rM 2)) (dI (rM 2)) (b_ (rM 2)) .none fZ f0 f1 eW ew f2) ⟨[x,a],[]⟩)=some ([("self",x),("name",a),("over",.bool true)]:List (Str×Value)))
 (ou:findIn K (.ref qR) "tally" = some (some (.ref eQ)))
 (ov:isFn K (.ref eQ)=true)
 (ow:K.lookup eQ=some ⟨jg,il,.func (fnOf "tally" "Recorder.tally" (dM (rM 12)) (dI (rM 12)) (b_ (rM 12)) .none (.ref dK) ex ey el dP ez),iE⟩)
 (ox:codeIn K dP "Recorder.tally" = true)
 (mo:keepIn K (.ref eQ)=true)
 (jL:∀ (S:Setting) (x a b c:ZH),peek K S (bindArgs (fnOf "tally" "Recorder.tally" (dM (rM 12)) (dI (rM 12)) (b_ (rM 12)) .none (.ref dK) ex ey el dP ez) ⟨[x,a,b],[("keys",c)]⟩)=some ([("self",x),("name",a),("test",b),("keys",c)]:List (Str×Value)))
 (oy:findIn K (.ref qR) "kind" = some (some (.ref eH)))
 (oz:isFn K (.ref eH)=true)
 (oA:K.lookup eH=some ⟨jh,im,.func (fnOf "kind" "Recorder.kind" (dM (rM 1)) (dI (rM 1)) (b_ (rM 1)) (.ref eb) ji jj jk io f3 jl),iF⟩)
 (oB:codeIn K f3 "Recorder.kind" = true)
 (mq:keepIn K (.ref eH)=true)
 (jM:K.lookup eb=some ⟨f4,eX,.seq #[.ref hm] iK,fp⟩)
 (oC:∀ (S:Setting) (x:ZH),peek K S (bindArgs (fnOf "__init__" "Recorder.__init__" (dM (rM 0)) (dI (rM 0)) (b_ (rM 0)) .none es et eu ek dO ev) ⟨[x],[]⟩)=some ([("self",x),("pages",.int 4 dH),("room",.int 8 dJ)]:List (Str×Value)))
 (oD:∀ (S:Setting) (x a b:ZH),peek K S (bindArgs (fnOf "__init__" "Tally.__init__" (dM (yM 0)) (dI (yM 0)) (b_ (yM 0)) .none en eo ep ej dN er) ⟨[x,a,b],[]⟩)=some ([("self",x),("test",a),("keys",b),("most",.int 16 Q)]:List (Str×Value)))
 (oE:∀ (S:Setting) (x a b:ZH),peek K S (bindArgs (fnOf "tally" "Recorder.tally" (dM (rM 12)) (dI (rM 12)) (b_ (rM 12)) .none (.ref dK) ex ey el dP ez) ⟨[x,a,b],[]⟩)=some ([("self",x),("name",a),("test",b),("keys",.ref ka)]:List (Str×Value)))
 (mr:K.lookup dK=some ⟨f5,eY,.dict #[⟨fK,f6,.ref ka⟩] fJ,fq⟩)
 (oF:K.lookup ka=some ⟨.type "tuple",ip,.seq #[] nd,iG⟩)
 (oG:Tt≠Tm)
 (jN:Y≠qC)
 (jO:Y≠qG)
 (jP:Y≠qL)
 (jQ:Y≠qY)
 (jR:Y≠qX)
 (oH:Y≠qU)
 (jS:Y≠qR)
 (jT:qC≠qG)
 (jU:qC≠qL)
 (jV:qC≠qY)
 (jW:qC≠qX)
 (oI:qC≠qU)
 (oJ:qC≠qR)
 (jX:qG≠qL)
 (jY:qG≠qY)
 (jZ:qG≠qX)
 (oK:qG≠qU)
 (oL:qG≠qR)
 (j0:qL≠qY)
 (j1:qL≠qX)
 (oM:qL≠qU)
 (oN:qL≠qR)
 (j2:qY≠qX)
 (oO:qY≠qU)
 (oP:qY≠qR)
 (j3:qX≠qU)
 (j4:qX≠qR)
 (oQ:qU≠qR)
 (j5:f "DEEDS" = some (.ref tD))
 (eA:f "do_tick" = some (.ref q))
 (d5:f "do_claim" = some (.ref i))
 (eB:f "do_fill" = some (.ref r))
 (eC:f "do_give" = some (.ref y))
 (d6:f "do_throw" = some (.ref j))
 (d7:f "do_write" = some (.ref n))
 (eD:f "do_take" = some (.ref z))
 (dR:f "do_resize" = some (.ref g))
 (d8:f "do_sieve" = some (.ref o))
 (eE:f "do_halt" = some (.ref A))
 (eF:f "do_stop" = some (.ref B))
 (g0:f "do_go" = some (.ref X))
 (d9:f "do_whole" = some (.ref p))
 (oR:PyProof.Rows.KTD.tabLook qd (fun b=>K.lookup b) tD [("kind",ha),("lane",hb),("tick",q),("claim",i),("fill",r),("give",y),("throw",j),("write",n),("take",z),("resize",g),("sieve",o),("tally",hc),("halt",A),("stop",B),("go",X),("whole",p)]=true)
 (g1:f "ScribeError" = some (.ref qS))
 (j6:f "BadValue" = some (.ref qV))
 (j7:f "Missing" = some (.ref qM))
 (xS:XS K qS [qS] "ValueError" "ValueError.__new__")
 (xV:XS K qV [qV,qS] "ValueError" "ValueError.__new__")
 (xM:XS K qM [qM] "LookupError" "LookupError.__new__")
 (pd:findIn K (.ref qS) "__init__" = some (some (.ref eI)))
 (oS:K.lookup eI=some ⟨jm,iq,.func (fnOf "__init__" "ScribeError.__init__" (dM Do) (dI Do) (b_ Do) (.ref TS) jn jo jp ir f7 jq),iH⟩)
 (oT:codeIn K f7 "ScribeError.__init__" = true)
 (ms:keepIn K (.ref eI)=true)
 (oU:K.lookup TS=some ⟨jr,it,.seq #[nF,nG] nf,iJ⟩)
 (fc:findCls K (.type "ValueError") (.type "type") "__init__" = some (.val (.builtin "ValueError.__init__")))
 (sg:specialIn K (.ref qS) "__getattribute__" = some (some (.builtin "type.__getattribute__")))
 (oV:readsIn K qS (.type "type")=true)
 (oW:findCls K (.ref qS) (.type "type") "__init__" = some (.val (.ref eI)))
 (ea:f "BadName" = some (.ref D))
 (oX:XS K D [D,qS] "ValueError" "ValueError.__new__")
 (j8:takerIn K D "word" = some none)
 (j9:findIn K (.ref D) "__init__" = some (some (.ref dA)))
 (kb:K.lookup dA=some ⟨f8,eZ,.func (fnOf "__init__" "BadName.__init__" (dM lB) (dI lB) (b_ lB) (.ref ec) f9 ga gb e0 dT gc),fr⟩)
 (kd:codeIn K dT "BadName.__init__" = true)
 (ke:keepIn K (.ref dA)=true)
 (kf:findIn K (.ref D) "__init__" = some (some (.ref dA)))
 (g2:isFn K (.ref dA)=true)
 (kg:K.lookup ec=some ⟨gd,e1,.seq #[js] iL,fs⟩)
 (kh:mroIn K D (.ref qV)=some false)
 (ki:mroIn K D (.ref qS)=some true)
 (kj:findIn K (.ref D) "__getattribute__" = some (some (.builtin "BaseException.__getattribute__")))
 (kk:findIn K (.ref D) "__getattr__" = some none)
 (kl:hasDictIn K D=true)
 (km:findIn K (.ref D) "word" = some none)
 (kn:mroIn K D (.type "BaseException")=some true)
 (g3:f "BadBounds" = some (.ref E))
 (oY:XS K E [E,qS] "ValueError" "ValueError.__new__")
 (ko:takerIn K E "word" = some none)
 (oZ:findIn K (.ref E) "__init__" = some (some (.ref dB)))
 (kq:K.lookup dB=some ⟨gf,e2,.func (fnOf "__init__" "BadBounds.__init__" (dM jC) (dI jC) (b_ jC) (.ref ed) gg gh gi e3 dU gj),ft⟩)
 (kr:codeIn K dU "BadBounds.__init__" = true)
 (ks:keepIn K (.ref dB)=true)
 (kt:findIn K (.ref E) "__init__" = some (some (.ref dB)))
 (ku:isFn K (.ref dB)=true)
 (kv:K.lookup ed=some ⟨gk,e4,.seq #[jt] iM,fu⟩)
 (kw:mroIn K E (.ref qV)=some false)
 (kx:mroIn K E (.ref qS)=some true)
 (ky:findIn K (.ref E) "__getattribute__" = some (some (.builtin "BaseException.__getattribute__")))
 (kz:findIn K (.ref E) "__getattr__" = some none)
 (kA:hasDictIn K E=true)
 (kB:findIn K (.ref E) "word" = some none)
 (kC:mroIn K E (.type "BaseException")=some true)
 (g4:f "Taken" = some (.ref F))
 (o0:XS K F [F,qS] "ValueError" "ValueError.__new__")
 (kD:takerIn K F "word" = some none)
 (o1:findIn K (.ref F) "__init__" = some (some (.ref dC)))
 (kE:K.lookup dC=some ⟨gl,e5,.func (fnOf "__init__" "Taken.__init__" (dM qK) (dI qK) (b_ qK) (.ref ee) gm gn gp e6 dV gq),fv⟩)
 (kF:codeIn K dV "Taken.__init__" = true)
 (kG:keepIn K (.ref dC)=true)
 (kH:findIn K (.ref F) "__init__" = some (some (.ref dC)))
 (kI:isFn K (.ref dC)=true)
 (kJ:K.lookup ee=some ⟨gr,e7,.seq #[ju] iN,fw⟩)
 (kK:mroIn K F (.ref qV)=some false)
 (kL:mroIn K F (.ref qS)=some true)
 (kN:findIn K (.ref F) "__getattribute__" = some (some (.builtin "BaseException.__getattribute__")))
 (kO:findIn K (.ref F) "__getattr__" = some none)
 (kP:hasDictIn K F=true)
 (kQ:findIn K (.ref F) "word" = some none)
 (kR:mroIn K F (.type "BaseException")=some true)
 (g5:f "Full" = some (.ref G))
 (o2:XS K G [G,qS] "ValueError" "ValueError.__new__")
 (kS:takerIn K G "word" = some none)
 (o3:findIn K (.ref G) "__init__" = some (some (.ref dD)))
 (kT:K.lookup dD=some ⟨gs,e8,.func (fnOf "__init__" "Full.__init__" (dM vZ) (dI vZ) (b_ vZ) (.ref ef) gu gv gw e9 dX gx),fx⟩)
 (kU:codeIn K dX "Full.__init__" = true)
 (kW:keepIn K (.ref dD)=true)
 (kX:findIn K (.ref G) "__init__" = some (some (.ref dD)))
 (kY:isFn K (.ref dD)=true)
 (kZ:K.lookup ef=some ⟨gy,fb,.seq #[jv] iO,fy⟩)
 (k0:mroIn K G (.ref qV)=some false)
 (k1:mroIn K G (.ref qS)=some true)
 (k2:findIn K (.ref G) "__getattribute__" = some (some (.builtin "BaseException.__getattribute__")))
 (k3:findIn K (.ref G) "__getattr__" = some none)
 (k4:hasDictIn K G=true)
 (k5:findIn K (.ref G) "word" = some none)
 (k6:mroIn K G (.type "BaseException")=some true)
 (g6:f "BadTest" = some (.ref I))
 (o4:XS K I [I,qS] "ValueError" "ValueError.__new__")
 (k7:takerIn K I "word" = some none)
 (o5:findIn K (.ref I) "__init__" = some (some (.ref dE)))
 (k8:K.lookup dE=some ⟨gz,fe,.func (fnOf "__init__" "BadTest.__init__" (dM lN) (dI lN) (b_ lN) (.ref eg) gA gB gC ff dY gD),fz⟩)
 (k9:codeIn K dY "BadTest.__init__" = true)
 (la:keepIn K (.ref dE)=true)
 (lb:findIn K (.ref I) "__init__" = some (some (.ref dE)))
 (lc:isFn K (.ref dE)=true)
 (ld:K.lookup eg=some ⟨gE,fg,.seq #[jw] iP,fC⟩)
 (lf:mroIn K I (.ref qV)=some false)
 (lg:mroIn K I (.ref qS)=some true)
 (lh:findIn K (.ref I) "__getattribute__" = some (some (.builtin "BaseException.__getattribute__")))
 (li:findIn K (.ref I) "__getattr__" = some none)
 (lj:hasDictIn K I=true)
 (lk:findIn K (.ref I) "word" = some none)
 (ll:mroIn K I (.type "BaseException")=some true)
 (g7:f "BadKeys" = some (.ref J))
 (o6:XS K J [J,qS] "ValueError" "ValueError.__new__")
 (lm:takerIn K J "word" = some none)
 (o7:findIn K (.ref J) "__init__" = some (some (.ref dF)))
 (ln:K.lookup dF=some ⟨gF,fh,.func (fnOf "__init__" "BadKeys.__init__" (dM l_) (dI l_) (b_ l_) (.ref eh) gG gH gI fi dZ gJ),fD⟩)
 (lo:codeIn K dZ "BadKeys.__init__" = true)
 (lp:keepIn K (.ref dF)=true)
 (lq:findIn K (.ref J) "__init__" = some (some (.ref dF)))
 (lr:isFn K (.ref dF)=true)
 (ls:K.lookup eh=some ⟨gL,fj,.seq #[jx] iQ,fE⟩)
 (lu:mroIn K J (.ref qV)=some false)
 (lv:mroIn K J (.ref qS)=some true)
 (lw:findIn K (.ref J) "__getattribute__" = some (some (.builtin "BaseException.__getattribute__")))
 (lx:findIn K (.ref J) "__getattr__" = some none)
 (ly:hasDictIn K J=true)
 (lz:findIn K (.ref J) "word" = some none)
 (lA:mroIn K J (.type "BaseException")=some true)
 (g8:f "BadSize" = some (.ref M))
 (o8:XS K M [M,qS] "ValueError" "ValueError.__new__")
 (lC:takerIn K M "word" = some none)
 (o9:findIn K (.ref M) "__init__" = some (some (.ref dG)))
 (lD:K.lookup dG=some ⟨gN,fk,.func (fnOf "__init__" "BadSize.__init__" (dM lZ) (dI lZ) (b_ lZ) (.ref ei) gO gP gQ fl d0 gR),fF⟩)
 (lE:codeIn K d0 "BadSize.__init__" = true)
 (lF:keepIn K (.ref dG)=true)
 (lG:findIn K (.ref M) "__init__" = some (some (.ref dG)))
 (lH:isFn K (.ref dG)=true)
 (lI:K.lookup ei=some ⟨gS,fm,.seq #[jy] iR,fH⟩)
 (lJ:mroIn K M (.ref qV)=some false)
 (lK:mroIn K M (.ref qS)=some true)
 (lL:findIn K (.ref M) "__getattribute__" = some (some (.builtin "BaseException.__getattribute__")))
 (lO:findIn K (.ref M) "__getattr__" = some none)
 (lP:hasDictIn K M=true)
 (lQ:findIn K (.ref M) "word" = some none)
 (lR:mroIn K M (.type "BaseException")=some true) :
 ∃ (fd:ZA) (sp:Sp),(∀ (s:Zp) (u:ZH),BindsTo s fd ⟨[u],[]⟩ [("_law_script",u)])/\(∀ T∈[Tm,Tn,Tt],K.lookup T=none/\∃ c,L2.tabIn K c=some T)/\
  (∀ (H:Hp) (a:Zl) (ns:List Int),ns.length≤63->(∀ T∈[Tm,Tn,Tt],H T=some (.tbl #[]))->fM K H a (ns.map V.int)->sp [.ref a] H (fun v _=>v=.bl true) fun _ _ _=>False)/\
  ∀ d:Heap,K.In d->d.Ns mainGlobals f->(∀ T∈[Tm,Tn,Tt],d.BuiltinsAt f T/\mainGlobals≠T)->dw l.prog w K f d fG 21 fa fd ["_law_script"] sp:=by
 cases m4.symm.trans nI;obtain ⟨bA,aN,a7,aO,aP,a8,bB,bC,a9,bD,bE,ad,ae,aQ,aB,ah,bF,W,_⟩:=zz;have T:Txt K f:=⟨bA,aN,a7,aO,aP,a8,bB,bC,a9,bD,bE,ad⟩;have TE:uJ K f:=⟨ae,fc⟩;have ag:iT K "__init__" "ScribeError.__init__" Do (.ref TS) eI _:=⟨⟨_,_,_,_,_,_,_,_,_,rfl,oS,oT⟩,ms⟩;have al:=ag.binds (ps:=["self","words","word"]) (ds:=[]) oU rfl fun kV ab pm an ac ct s us hT N=>(by rw [aaO] at N ⊢;obtain ⟨_,_,_,rfl⟩:=Mv N;exact abl rfl hT rfl rfl rfl);have MS:xf K f "ScribeError" qS eI:=⟨ g1,sg,⟨_,oV,oW⟩,ms⟩;have aM:iT K "__init__" "BadName.__init__" lB (.ref ec) dA _:=⟨⟨_,_,_,_,_,_,_,_,_,rfl,kb,kd⟩,ke⟩;have bc:=aM.binds (ps:=["self","words"]) (ds:=[]) kg rfl fun kV ab pm an ac ct s us hT N=>(by rw [aaO] at N ⊢;obtain ⟨_,_,rfl⟩:=t8 N;exact abl rfl hT rfl rfl rfl);have bd:rY K D:=⟨oX.ok qt,j8⟩;have df:nH K f "BadName" D dA _:=⟨bc,ea,bd,kf,g2⟩;have be:iT K "__init__" "BadBounds.__init__" jC (.ref ed) dB _:=⟨⟨_,_,_,_,_,_,_,_,_,rfl,kq,kr⟩,ks⟩;have bH:=be.binds (ps:=["self","words"]) (ds:=[]) kv rfl fun kV ab pm an ac ct s us hT N=>(by rw [aaO] at N ⊢;obtain ⟨_,_,rfl⟩:=t8 N;exact abl rfl hT rfl rfl rfl);have bI:rY K E:=⟨oY.ok qt,ko⟩;have bJ:nH K f "BadBounds" E dB _:=⟨bH,g3,bI,kt,ku⟩;have bf:iT K "__init__" "Taken.__init__" qK (.ref ee) dC _:=⟨⟨_,_,_,_,_,_,_,_,_,rfl,kE,kF⟩,kG⟩;have bL:=bf.binds (ps:=["self","words"]) (ds:=[]) kJ rfl fun kV ab pm an ac ct s us hT N=>(by rw [aaO] at N ⊢;obtain ⟨_,_,rfl⟩:=t8 N;exact abl rfl hT rfl rfl rfl);have bM:rY K F:=⟨o0.ok qt,kD⟩;have bg:nH K f "Taken" F dC _:=⟨bL,g4,bM,kH,kI⟩;have bh:iT K "__init__" "Full.__init__" vZ (.ref ef) dD _:=⟨⟨_,_,_,_,_,_,_,_,_,rfl,kT,kU⟩,kW⟩;have bN:=bh.binds (ps:=["self","words"]) (ds:=[]) kZ rfl fun kV ab pm an ac ct s us hT N=>(by rw [aaO] at N ⊢;obtain ⟨_,_,rfl⟩:=t8 N;exact abl rfl hT rfl rfl rfl);have bO:rY K G:=⟨o2.ok qt,kS⟩;have bi:nH K f "Full" G dD _:=⟨bN,g5,bO,kX,kY⟩;have bj:iT K "__init__" "BadTest.__init__" lN (.ref eg) dE _:=⟨⟨_,_,_,_,_,_,_,_,_,rfl,k8,k9⟩,la⟩;have bP:=bj.binds (ps:=["self","words"]) (ds:=[]) ld rfl fun kV ab pm an ac ct s us hT N=>(by rw [aaO] at N ⊢;obtain ⟨_,_,rfl⟩:=t8 N;exact abl rfl hT rfl rfl rfl);have bQ:rY K I:=⟨o4.ok qt,k7⟩;have bR:nH K f "BadTest" I dE _:=⟨bP,g6,bQ,lb,lc⟩;have bl:iT K "__init__" "BadKeys.__init__" l_ (.ref eh) dF _:=⟨⟨_,_,_,_,_,_,_,_,_,rfl,ln,lo⟩,lp⟩;have bS:=bl.binds (ps:=["self","words"]) (ds:=[]) ls rfl fun kV ab pm an ac ct s us hT N=>(by rw [aaO] at N ⊢;obtain ⟨_,_,rfl⟩:=t8 N;exact abl rfl hT rfl rfl rfl);have bT:rY K J:=⟨o6.ok qt,lm⟩;have bU:nH K f "BadKeys" J dF _:=⟨bS,g7,bT,lq,lr⟩;have bm:iT K "__init__" "BadSize.__init__" lZ (.ref ei) dG _:=⟨⟨_,_,_,_,_,_,_,_,_,rfl,lD,lE⟩,lF⟩;have bV:=bm.binds (ps:=["self","words"]) (ds:=[]) lI rfl fun kV ab pm an ac ct s us hT N=>(by rw [aaO] at N ⊢;obtain ⟨_,_,rfl⟩:=t8 N;exact abl rfl hT rfl rfl rfl);have bW:rY K M:=⟨o8.ok qt,lC⟩;have bn:nH K f "BadSize" M dG _:=⟨bV,g8,bW,lG,lH⟩;have TA:V5 K f qV qS qM:=⟨aP,j6,g1,j7,⟨_,_,xV.ok qt⟩,⟨_,_,xS.ok qt⟩,⟨_,_,xM.ok U9⟩⟩;have bo:iT K "__init__" "Kind.__init__" (kM 0) (.ref hk) eG _:=⟨⟨_,_,_,_,_,_,_,_,_,rfl,n0,n1⟩,n2⟩;have bp:=bo.binds (ps:=["self","name","fields"]) (ds:=[]) n4 rfl fun kV ab pm an ac ct s us hT N=>Hw rfl kV ab pm an ac ct s us hT N;have bq:Mk K Y eG:=⟨cK.ma,nZ,n3,cK.kc⟩;obtain ⟨aR,ar,_⟩:=cK.n;have ck:Mk K qC lU:=⟨cC.ma,hh.M.1,hh.M.2,cC.kc⟩;obtain ⟨au,aS,aT,av,aD,_⟩:=cC.n;have bX:Mk K qG lV:=⟨cG.ma,eJ.M.1,eJ.M.2,cG.kc⟩;obtain ⟨aw,aU,aV,_⟩:=cG.n;have cl:=iI (st:=lM 0) n6 n7 n8;have bY:Mk K qL eM:=⟨cL.ma,n5,n9,cL.kc⟩;obtain ⟨aW,aX,aY,aE,aZ,a0,af,am,ai,aa,a1,ax,_⟩:=cL.n;have bZ:Mk K qY lW:=⟨cY.ma,eK.M.1,eK.M.2,cY.kc⟩;obtain ⟨ao,aF,a2,_⟩:=cY.n;have b0:Mk K qX lX:=⟨cX.ma,gV.M.1,gV.M.2,cX.kc⟩;obtain ⟨aG,a3,aH,ay,aj,aI,ap,_⟩:=cX.n;have cm:=iI (st:=yM 0) od oe of;have b1:Mk K qU eN:=⟨cU.ma,oc,og,cU.kc⟩;obtain ⟨a4,aJ,a5,aq,az,_⟩:=cU.n;have cn:=iI (st:=rM 0) oj ol om;have co:Mk K qR eO:=⟨cR.ma,oi,on,cR.kc⟩;obtain ⟨aL,a6,aA,ak,_⟩:=cR.n;have cp:=iI (st:=rM 2) os ot mn;have cq:=iI (st:=rM 12) ow ox mo;have b2:iT K "kind" "Recorder.kind" (rM 1) (.ref eb) eH _:=⟨⟨_,_,_,_,_,_,_,_,_,rfl,oA,oB⟩,mq⟩;have cr:=b2.binds (ps:=["self","name","fields"]) (ds:=[]) jM rfl fun kV ab pm an ac ct s us hT N=>(by rw [aaO] at N ⊢;obtain ⟨_,_,_,rfl⟩:=Mv N;exact abl rfl hT rfl rfl rfl);refine ⟨fnOf "law" "law" (dM (top 130)) (dI (top 130)) (b_ (top 130)) .none fL fN fQ eS (.ref cc) fR,Hs K Tt Tm,fun s v=>.of_eq rfl,fun T m=>by (rcases aah.mp m with e|m);exact e ▸ ⟨nO,eL,l0⟩;(rcases aah.mp m with e|m);exact e ▸ ⟨nQ,g9,nR⟩;exact (aak.mp m) ▸ ⟨nK,cc,tb⟩,fun H a ns N hT hS=>⟨a,ns,rfl,hS,N,Dq (hT _ (aan _ (aan _ (aak.mpr rfl)))),Dq (hT _ (aao ..)),fun _=>rfl⟩,fun d bb dg bG=>?_⟩;obtain ⟨da,hg⟩:=bG Tt (aan _ (aan _ (aak.mpr rfl)));obtain ⟨cw,c1,c2,c3,c4,c5,c6,c7,cb⟩:=Ue D E F G I J M;subst c1 c2 c3 c4 c5 c6 c7;obtain ⟨db,dc⟩:=bG Tm (aao ..);have aC:rA f:=⟨⟨_,bs⟩,⟨_,cs⟩,⟨_,dQ⟩⟩;have TL:Bf f:=⟨⟨_,bt⟩,⟨_,dn⟩,⟨_,dp⟩,⟨_,dy⟩⟩;have br:My f:=⟨⟨_,dq⟩,⟨_,dd⟩,⟨_,bK⟩⟩;have TT:UV f:=⟨⟨_,dr⟩,⟨_,dz⟩⟩;have TY:SM f:=⟨⟨_,dt⟩,⟨_,du⟩,ah⟩;have TB:Py K f tW tS:=⟨jF,jG,nX,nY⟩;have KC:KCls K f Y:=⟨cK.c,aR,ar,cK.a⟩;have L:LZ K f ⟨Y,qC,qG,qL⟩:=⟨⟨jN,jO,jP,jT,jU,jX⟩,KC,cC.c,cC.a,au,aS,aT,av,aD,cG.c,cG.a,aw,aU,aV,cL.c,cL.a,aW,aX,aY,aE,aZ,a0,af,am,ai,aa,a1,ax⟩;have bu:TZ K f qY:=⟨cY.c,cY.a,ao,aF,a2⟩;have U:SZ K f qX:=⟨cX.c,aB,cX.a,aG,a3,aH,ay,aj,aI,ap⟩;have UZ:V8 K f qU:=⟨cU.c,cU.a,a4,aJ,a5,aq,az⟩;have O:RZ K f qR:=⟨cR.c,cR.a,aL,a6,aA⟩;have ne:Hi ⟨Y,qC,qG,qL⟩ qY qX:=⟨jR,jW,jZ,j1,j2⟩;have BT:∀ wd,Gw K (cw wd) qV qS:=fun wd=>by
  rcases cb wd with h|h|h|h|h|h|h <;> rw [h]
  ·exact ⟨kh,ki,kj,kk,kl,km,kn⟩
  ·exact ⟨kw,kx,ky,kz,kA,kB,kC⟩
  ·exact ⟨kK,kL,kN,kO,kP,kQ,kR⟩
  ·exact ⟨k0,k1,k2,k3,k4,k5,k6⟩
  ·exact ⟨lf,lg,lh,li,lj,lk,ll⟩
  ·exact ⟨lu,lv,lw,lx,ly,lz,lA⟩
  ·exact ⟨lJ,lK,lL,lO,lP,lQ,lR⟩
 have dh:=uy (P:=l.prog) (w:=w) (base:=d) (CX:=fG) aM TE ag al MS;have cu:=xY (P:=l.prog) (w:=w) (base:=d) (CX:=fG) be TE ag al MS;have b3:=Jv (P:=l.prog) (w:=w) (base:=d) (CX:=fG) bf TE ag al MS;have b4:=Nv (P:=l.prog) (w:=w) (base:=d) (CX:=fG) bh TE ag al MS;have cv:=Ac (P:=l.prog) (w:=w) (base:=d) (CX:=fG) bj TE ag al MS;have cx:=Cg (P:=l.prog) (w:=w) (base:=d) (CX:=fG) bl TE ag al MS;have b5:=Ad (P:=l.prog) (w:=w) (base:=d) (CX:=fG) bm TE ag al MS;have b6:=N7 oa;have cy:=Ks (P:=l.prog) (w:=w) (base:=d) bo T aC KC DI gT jz;have cz:=UW (P:=l.prog) (w:=w) (base:=d) hh.F L bq cy bp gU (Eg gU.F T KC);have b7:=Wl (P:=l.prog) (w:=w) (base:=d) cl L TL l9 mb bX eJ.F eJ.b;have cA:=Vl (P:=l.prog) (w:=w) (base:=d) mj.F L bY b7 b6 mi (Wy mi.F L bX eJ.F eJ.b mh (Vm mh.F L ck cz hh.b));have cB:=U3 (P:=l.prog) (w:=w) (base:=d) mk.F L bu ⟨j0,jY,jV,jQ⟩ bZ eK.F eK.b mj cA;have bv:=Sq (P:=l.prog) (w:=w) (base:=d) (dv0:=.none) gT.F T aC TE DI aM bc ea bd j9 g2 ag al MS;have cD:=Q4 (P:=l.prog) (w:=w) (base:=d) jz.F T aC gT bv bg b3 bJ cu;have b8:=K8 (P:=l.prog) (w:=w) (base:=d) bo T aC KC gT jz bv cD bi b4;have cE:=Vh (P:=l.prog) (w:=w) (base:=d) mc T bF aC TB DI nT nU nV 5 (by decide);have cF:=Vb (P:=l.prog) (w:=w) (base:=d) md.F TT mc cE;have cH:=Uy (P:=l.prog) (w:=w) (base:=d) me.F md cF bR cv;have cI:=V2 (P:=l.prog) (w:=w) (base:=d) mf.F T aC TY DI bU cx;have b9:=W7 (P:=l.prog) (w:=w) (base:=d) cm T TY UZ me cH mf cI bn b5;have cJ:=V_ (P:=l.prog) (w:=w) (base:=d) mm.F UZ aB b1 (Du rfl oh) b9;have ca:=Rt (P:=l.prog) (w:=w) (base:=d) gV.F U TL l9 mb bn b5;have cN:=Vc (P:=l.prog) (w:=w) (base:=d) (Z:=⟨Y,qC,qG,qL⟩) ml.F U bu UZ ne j3.symm b0 gV.b ca mk cB mm cJ;have bw:=NZ (P:=l.prog) (w:=w) (base:=d) hd.F gT bv bg b3;have bx:=NT (P:=l.prog) (w:=w) (base:=d) he.F T bi b4;have cO:=QS (P:=l.prog) (w:=w) (base:=d) (C:=qY) (cL:=qU) jA.F br L U ne hd bw he bx bq b8 bp;have cP:=PX (P:=l.prog) (w:=w) (base:=d) (cL:=qU) jB.F br L bu U ne hd bw he bx bY b7 b6 bZ eK.F eK.b;have cQ:=P_ (P:=l.prog) (w:=w) (base:=d) (Z:=⟨Y,qC,qG,qL⟩) (C:=qY) jD.F br U UZ ne hd bw he bx b1 b9 (Dj oD) (.cons ⟨_,rfl⟩ .nil);have cS:Xb K f tD [("kind",ha),("lane",hb),("tick",q),("claim",i),("fill",r),("give",y),("throw",j),("write",n),("take",z),("resize",g),("sieve",o),("tally",hc),("halt",A),("stop",B),("go",X),("whole",p)]:=⟨j5,oR⟩;have bz:=Tv (P:=l.prog) (w:=w) (base:=d) (R:=qR) hi.F O U jS ml cN nW cS;have d1:rB l.prog w K f d ha (DG ⟨Y,qC,qG,qL⟩ qY qX qU K cw):=⟨⟨_,9,jA.b,by decide,cO⟩,jA.F.kp⟩;have d2:rB l.prog w K f d hb (Cz ⟨Y,qC,qG,qL⟩ qY qX qU K cw):=⟨⟨_,7,jB.b,by decide,cP⟩,jB.F.kp⟩;have d3:rB l.prog w K f d hc (Ds ⟨Y,qC,qG,qL⟩ qY qX qU K cw):=⟨⟨_,14,jD.b,by decide,cQ⟩,jD.F.kp⟩;have cT:=T6 (P:=l.prog) (w:=w) (base:=d) (Z:=⟨Y,qC,qG,qL⟩) (C:=qY) (cL:=qU) cn O U j4 b0 gV.b ca;have cV:=Jp (P:=l.prog) (w:=w) (base:=d) cp O hi bz (by kernel_rfl) d2;have ce:=Ih (P:=l.prog) (w:=w) (base:=d) b2 O hi bz (by kernel_rfl) d1;have cf:=Ek (P:=l.prog) (w:=w) (base:=d) cq O hi bz (by kernel_rfl) d3;have G1:=JL (P:=l.prog) (w:=w) (base:=d) (Z:=⟨Y,qC,qG,qL⟩) (C:=qY) (cL:=qU) gW.F T O U;have G2:=J0 (P:=l.prog) (w:=w) (base:=d) (C:=qY) (cL:=qU) gX.F W L O U bq b8 bp;have G3:=Aa (P:=l.prog) (w:=w) (base:=d) (Z:=⟨Y,qC,qG,qL⟩) (C:=qY) (cL:=qU) gY.F W O U;have G4:=Av (P:=l.prog) (w:=w) (base:=d) (Z:=⟨Y,qC,qG,qL⟩) (C:=qY) (cL:=qU) jH.F O U;have G5:=Gf (P:=l.prog) (w:=w) (base:=d) (Z:=⟨Y,qC,qG,qL⟩) (C:=qY) (cL:=qU) jI.F O U;have G6:=R3 (P:=l.prog) (w:=w) (base:=d) (Z:=⟨Y,qC,qG,qL⟩) (C:=qY) (cL:=qU) gZ.F T O U ob;have G7:=Lh (P:=l.prog) (w:=w) (base:=d) (Z:=⟨Y,qC,qG,qL⟩) (C:=qY) (S:=qX) (cL:=qU) jJ.F O;have cW:=Lf (P:=l.prog) (w:=w) (base:=d) l8.F T O ⟨gW.M,gW.b⟩ G1 ⟨gX.M,gX.b⟩ G2 ⟨gY.M,gY.b⟩ G3 ⟨jH.M,jH.b⟩ G4 ⟨jI.M,jI.b⟩ G5 ⟨gZ.M,gZ.b⟩ G6 ⟨jJ.M,jJ.b⟩ G7;have GA:=Qw (P:=l.prog) (w:=w) (base:=d) (CX:=fG) (k:=18) DA.F TA;have cg:=M9 oF;have ch:Vo K qR "tally" ["self","name","test","keys"] [.ref ka] eQ _ _:=⟨⟨ou,ov,mo⟩,Dj oE,.cons rfl .nil⟩;have cZ:Vo K qR "lane" ["self","name","over"] [.bl true] eP _ _:=⟨⟨op,oq,mn⟩,Vk jK,.cons rfl .nil⟩;have cj:Cv K qR "kind" ["self","name","fields"] eH _:=⟨⟨oy,oz,mq⟩,cr⟩;have c0:=iI (st:=top 129) lY l1 l2;have c8:=c0.binds (ps:=["_law_rec","_law_some"]) fun _ _ _ _ _ _ us N=>by obtain ⟨_,_,rfl⟩:=t8 N;rfl
 have c9:=LQ (P:=l.prog) (w:=w) (base:=d) lY l1 (Jj bb l0) db dc O BT ch (Du rfl jL) cf cg cj ce GA DA.mg DA.F.kp DA.b;exact Q5 nJ nL (Jj bb tb) da hg oG T W L O BT DB DP DO l3 DS l4 (Ii l4.F T DP DO DW) l5 l6 (Vn l6.F T nS) l7 (KD l7.F T DP DO DW l3 l5) l8 cW nM l2 c8 c9 co cT (R6 oo) (Wd oC) (.cons ⟨_,rfl⟩ (.cons ⟨_,rfl⟩ .nil)) cZ cV cj ce ch cf cg ⟨gW.M,gW.b⟩ G1 ⟨gX.M,gX.b⟩ G2 ⟨gY.M,gY.b⟩ G3 ⟨gZ.M,gZ.b⟩ G6 ak GA DA.mg DA.F.kp DA.b
end Cm
open PySem PySem.W PyProof.Rows
set_option maxRecDepth 100000 in
set_option maxHeartbeats 0 in
theorem PySem.Challenge.cw_lanescribe_k36_recorders_begun_and_full_holds : PySem.Challenge.rw_lanescribe_k36_recorders_begun_and_full.Holds := by
 w_on
 refine Kd.head ?hw (by rfl) (by rfl) (by rfl) ?hc
 (case hw=>w_witness2)
 k_fill
 refine L2.HD (l:=PySem.Challenge.rw_lanescribe_k36_recorders_begun_and_full) (n:=63) (k:=21) (x:="_law_script") (CX:=fun _=>L2.fG) rfl (by decide) rfl ⟨rfl,by decide,by decide,rfl⟩ (fun w h Y=>km_in_of Y) (fun w h Y=>km_tabs_of Y) ?F (fun _ _ _ _ _ z=>z)
 case F=>
  intro w c d h a G b;apply Cm.Sw b
  any_goals first|k_is|((with_reducible refine mg_of a G ?_);k_is)|((with_reducible show Cm.MD _ _ _ _ _ [_] _ _);exact Cm.md1 (by k_is) (by k_is) (by k_is) (by k_is) (by k_is) fun _ _ _ _ _ _ _=>rfl)|((with_reducible show Cm.MD _ _ _ _ _ [_,_] _ _);exact Cm.md2 (by k_is) (by k_is) (by k_is) (by k_is) (by k_is) fun _ _ _ _ _ _ _ _=>rfl)|((with_reducible show Cm.MD _ _ _ _ _ [_,_,_] _ _);exact Cm.Zz (by k_is) (by k_is) (by k_is) (by k_is) (by k_is) fun _ _ _ _ _ _ _ _ _=>rfl)|((with_reducible show Cm.MD _ _ _ _ _ [_,_,_,_] _ _);exact Cm.ZG (by k_is) (by k_is) (by k_is) (by k_is) (by k_is) fun _ _ _ _ _ _ _ _ _ _=>rfl)|((with_reducible show L2.gK _ _ _ _ [_] _ _);exact Cm.ZD a G (by k_is) (by k_is) (by k_is) (by k_is) fun _ _ _ _ _ _ _=>rfl)|((with_reducible show L2.gK _ _ _ _ [_,_] _ _);exact Cm.df2 a G (by k_is) (by k_is) (by k_is) (by k_is) fun _ _ _ _ _ _ _ _=>rfl)|((with_reducible show Cm.CI _ _ _ _ _);exact Cm.ci a G (by k_is) (by k_is) (by k_is) (by k_is) (by k_is) (by k_is) (by k_is) (by repeat first|exact trivial|refine ⟨by k_is,?_⟩))|((with_reducible refine Cm.XS.mk ?_ ?_ ?_ ?_ ?_)<;>first|k_is|kernel_rfl)|(repeat first|exact trivial|refine ⟨mg_none_of a G (by k_is),?_⟩)|skip
  any_goals first|kernel_rfl|decide|(intros;kernel_rfl)|skip
