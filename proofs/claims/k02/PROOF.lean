import PyProof.Rows.All
import Wide.All
import OpenK.AllK
import Wide.FinOn
import Lean
import PyProof.EqAt
import PyProof.EqKinds
import PyProof.TupleCall
import KE.KSortTup
import OpenK.KRaise
import OpenK.KOwn
import PyProof.ExcBaseAll.ValueError
import KE.KIsAll
import PyProof.ExcAttrAll.ValueError
import PyProof.NsDelKeeps
import PyProof.RulesAs
import KE.KTryMore
import KE.KLam
import KE.KNestM
import OpenK.KEqL
import PyProof.Rows.EqDataRows
import PyProof.NeKinds
import PyProof.FactsAll.dict
import PyProof.FactsAll.subtypes
import PyProof.ListRange
import PyProof.TupleOfGen
import PyProof.TupleOfSeq
import KE.KTupSum
import PyProof.Rows.SumAny
import PyProof.Rows.SetFrom
import KE.KRevSl
import PyProof.WalksMore
import PyProof.SetRoads
import KE.KDictLaws
import KE.KTupDict
import PySem.Challenge.RW_tiechances_k02_lots_and_pieces
local macro_rules
|`(∅)=>`(by omega)
|`(-0)=>`(by decide)
local macro_rules
|`(tactic|omega)=>`(tactic|lia)
open PySem renaming wpAny_bind→À,Value→Ä,wpAny_pure→Å,Shared→Æ,Addr→Ç,wpAny→Ï,Expr→Ò,model→Õ,Program→Ý,mainGlobals→æ,World→ç,Heap→é,wpAny_newObj_type→ê,bootBuiltins→í,wpAny_holding→ï,sizeLine_eq→ò,Around→õ,Scope→ø,Builtin→û,starEach→ü,intKind→ý,wpAny_call_entry→ÿ,codeAny_builtin→À0,wpAny_callSpecial?_slot→À5,SetTable→À7,compareOp→Á2,wpAny_field→Á4,wpAny_setState_of→Á6,mem_of_lookup→Â0,wpAny_setField_rec→Â6,wpAny_mono→Â7,wpAny_truthy_bool→Ã2,rawInt→Ã3,Stmt→Ã8,Paired→Ä1,IsTupleKey→Ä5,swappedStores→Ä9,wpAny_seqItems→Å0,cLine→Å7,binaryOp→Å8,FuncData→Å9,codeAny_mono→Æ2,IsPair→Æ5,wpAny_typeOf→Ç1,wpAny_pyIter_tuple→È0,Env→È5,assignEach→É2,tupleKind→É4,plainId_quiet→Ê7,NameKind→Ê9,wpAny_rule→Ë4,wpAny_Call_Name_kw→Ë5,call_meets→Ë6,foldedSetIterable→Ì2,codeAny→Ì3,carriedByValue→Ì4,wpAny_askSetting→Í1,pyNext→Í2,builtinsNs→Í3,Arguments→Í7,wpAny_attempt→Í8,sliceBounds→Î0,codeAny_call_builtin→Î1,wpAny_passesOwn→Î7,importedModules→Î9,wpAny_runValue→Ð9,wpAny_call→Ñ0,wpAny_Name→Ñ1,sysModules→Ñ2,isSubtype_type→Ñ4,IsZip→Ñ7,wpAny_storeSet_of→Ò6,wpAny_pyIter_list→Ò7,getItem→Ò8,wpAny_newList→Ó2,wpAny_execs_cons→Ô4,swapsWith→Ô5,checkBuiltinCall→Ô7,backTo→Õ4,IsRange→Õ6,wpAny_execs_nil→Õ7,codeAny_of_tree→Ö2,wpAny_updateSeq_pair→Ø2,wpAny_loadName_local→Ø3,firstArgMember→Ø5,assign→Ø6,IsPart→Ø7,holding→Ø8,codeAmong→Ø9,wpAny_setEntries_of→Ù6,wpAny_standAt→Ú0,wpAny_onRaise→Ú1,foldedForSure→Ú3,typeIs_int→Ú6,intKind_is→Ú7,wpAny_sequenceKey→Û7,valueAt→Û8,setAddHashed→Û9,callerA→Ü0,GenState→Ü5,wpAny_isInstance→Ý3,pickOrder→Ý4,noFill_tuple_add→Ý5,TriplesOk→Ý7,wpAny_of_eq→Þ0,letOwnedTupleGo→Þ4,wpAny_newFunctionEnv_cells→ß0
open Bool renaming and_eq_true→Á,false_ne_true→Ñ,not_eq_true'→ú,false_eq_true→Â9,or_eq_true→Ä0,true_and→Å5,eq_iff_iff→Í0,and_true→Ð8,false_and→Õ2,not_eq_false'→Ø0,not_true→Þ3
open PySem.Heap renaming get?_push_of_some→Â,get?_push_size→É,lt_size→Û,get?_update_self→Æ3,SameBut→Ç8,size_push→È9,get?_update_other→Ë2,IsTuple→Ó0
open PySem.W renaming Frag→Ã,kas_desc→Â8,kas_place→Ä4,codeHdIn→Å3,kia_one→Ç5,kas_rev→È1,kas_asc→È2,tabObj→È3,boot_heap→É5,excIn→Ë8,kitOne→Í4,kas_descPart→Ð3,kas_sort→Ñ3,nsIn→Ñ5,keepIn→Ó3,kia_tup→Ö7,kas_count→Ý6
open List renaming mem_cons_of_mem→È,mem_cons_self→Ê,length_map→Ì,all_eq_true→Î,getD_eq_getElem?_getD→Ó,getElem?_map→Ö,size_toArray→Ø,getElem?_set_ne→Ù,mem_cons→Ü,mem_map→Þ,mem_singleton→ß,length_cons→à,getElem?_eq_getElem→á,getElem?_set_self→ã,getElem?_eq_some_iff→ä,mem_of_getElem?→å,map_map→ë,range→ì,replicate→î,mem_append_right→ñ,mem_range→ö,filterMap_cons→þ,not_mem_nil→À2,length_append→À6,lookup_cons→À9,length_set→Á3,mem_cons→Á7,map_cons→Â2,length_range→Â3,length_nil→Â5,idxOf_lt_length_of_mem→Ã0,mem_append→Ã1,pairwise_cons→Ã9,map_congr_left→Ä6,all_eq_true→Ä7,all_cons→Ä8,getElem?_append_right→Æ0,mem_append_left→Æ6,pairwise_lt_range→Æ8,getElem_mem→Æ9,replicate_succ→Ç3,filter_eq_nil_iff→Ç6,perm_ext_iff_of_nodup→È4,length_filter_le→É0,nodup_cons→É6,zip_cons_cons→É7,mem_filterMap→Ê2,getElem?_cons_zero→Ê4,map_append→Ê5,length_take→Ê8,take_of_length_le→Ë0,flatten_cons→Ë7,isEmpty_iff→Ì1,contains_iff_mem→Ì6,lookup→Ì7,mem_range→Î8,length_reverse→Ï7,forIn_cons→Ï8,getElem?_append_left→Ð0,drop_eq_getElem_cons→Ð1,getElem_idxOf→Ò0,getElem?_replicate→Ò2,reverse_cons→Ô0,nil_append→Ô1,mem_filter→Ô2,contains_iff_mem→Ô3,mem_of_mem_drop→Ô9,length_drop→Ö0,drop_length→Ö1,mem_map_of_mem→Ö4,getElem?_range→Ö5,zip_nil_left→Ù1,pairwise_map→Ù2,append_assoc→Ù3,eq_nil_of_length_eq_zero→Û2,pairwise_singleton→Þ6,length_replicate→ß2,getElem?_eq_none→ß3
open Nat renaming le_refl→Ë,ne_of_lt→Ô,lt_of_lt_of_le→Ú,le_trans→â,lt_irrefl→Á8,lt_succ_of_lt→Å6,zero_le→Æ7,ne_of_gt→Ç4,le_of_lt→Ç9,le_add_right→É1,lt_of_le_of_lt→Ê3,lt_succ_self→Î5,max→Ó6,succ_le_succ→Ó8,not_lt_zero→Õ8,min_eq_left→Õ9,mul_comm→Ù8,min_eq_right→Û1,max_le→Ý8,le_mul_of_pos_left→ß1
open Option renaming map_eq_some_iff→Í,bind_eq_some_iff→Ð,map→Í9,map_eq_some_iff→Ô6,ne_none_iff_exists'→Û5,isSome_iff_exists→Ý1
open PySem.Value renaming none→è,ref→ð,type→Ã7,int→Ç2,isInt→É9,bool→Î2,builtin→Ð4,notImplemented→Ô8
open PySem.NameKind renaming free→ó,cell→Æ4
open PyProof.Rows renaming slot_tuple_getitem→ô,callWith_type1→Á1,seqObj→Á9,IntsAre→Ë1,envOfC→Ï0,IsTup→Ñ8,AllBare→Ó1,listItems_at→Õ3,slicePart_none→Ø4,listUpdate_at→Ú2,assignInOrder_cons→Ú8,args_tuple_getitem→Ú9,get?_update_seq→Þ5
open PySem.Challenge renaming pw_tiechances_k02_lots_and_pieces→ù
open PySem.Obj renaming mapSeq→À1,putSet→Ó5
open False renaming elim→À3
open PySem.Around renaming under_plainId→À4,frames_deeper→Þ9
open Ne renaming symm→À8
open PySem.Str renaming ofString→Á0
open PySem.F renaming called_set→Á5,slot_tuple_iterator_next→È8,args_tuple_add_2→Ï1,entry_tuple_add→Ð5,slot_tuple_add→Ñ6,called_tuple→Ó4,slot_zip_next→Õ0,slot_int_rmul→Õ1,slot_dict_setdefault→Ù7,args_tuple_mul_2→Ù9,excBase_ValueError→Û0,entry_tuple_mul→Û3,type_list_append→Ü2,slot_list_append→Ü3,slot_dict_values→Ü4,slot_tuple_mul→Ü6,plain_tuple_new→Ü7,plain_list_iadd→Ü8,plainAttrs_list→Ü9,plainAttrs_dict→Ý0,args_tuple_iterator_next_1→Ý9,entry_tuple_iterator_next→Þ1
open Option.some renaming inj→Â1,injEq→É3
open PySem.Heap.SameBut renaming update→Â4
open List.Perm renaming eq_of_pairwise→Ã4
open PySem.Builtin.Range renaming rangeSize→Ã5,small→Ñ9
open PySem.AutoSeq1 renaming wpAny_loadPart'→Ã6,wpAny_loadPart'→Å1,idx_int→Ø1,sub_tuple_tuple→Û6
open Int renaming toNat_natCast→Ä2,eq_ofNat_of_zero_le→Ê6,eq_of_mul_eq_mul_right→Ï4,emod_eq_of_lt→Ð7
open PySem.Builtin.List renaming listExtendWith→Ä3,listTooLong→Ì9,listSameRef→Ù5
open PyProof.Rows.F renaming plain_set_update_loop→Å2,entry_set_update_loop→Ë3
open List.Pairwise renaming filter→Å4,sublist→Ú5
open Array renaming getElem?_toList→Æ1,getElem?_eq_getElem→È7,length_toList→É8,toList_inj→Ì0,getD_eq_getD_getElem?→Í6,toArray_toList→Ï6,toList_filterMap→Þ8
open PySem.Builtin.Tuple renaming tupleExact→Ç0
open PyProof.Rows.KeyOrd renaming kle_refl→Ç7,kle_of_klt→Ï3,kle_trans→Ù4
open PySem.Builtin.Slice renaming slicePlaces→È6,sliceAdjust→Ì8,sliceApplied→Ó9
open True renaming intro→Ê0
open PySem.SetTable renaming below→Ê1,insertAt→Î3,grown→Ò9
open Array.Perm renaming refl→Ë9
open PySem.Builtin.SmallTypes renaming ownedTupleIsFree→Ì5
open Classical renaming byContradiction→Í5
open PySem.Calls renaming Name_function_global→Î4,call_function_entry→Ï5,spliced_nil→Ð2,spliced_cons→Ö9,loadGlobal_global→Þ2,callWith_builtin→Þ7,evalArgs_plain→ß4
open PySem.Code renaming quiet_builtin→Î6
open Prod.mk renaming injEq→Ï2
open PySem.Paired renaming length→Ï9
open Sum renaming inl→Ð6,inr→Ö3
open Or renaming inl→Ò1,inr→Ù0
open PySem.W.KasT renaming ret→Ò3
open PySem.Heap.IsSliceOf renaming new→Ò4
open PySem.PyData renaming depthAll→Ò5,eqv→Û4
open PySem.Builtin.Frozenset renaming updateFrom→Ó7
open PySem.Shared renaming TypeIs→Õ5
open List.Nodup renaming length_le_of_subset→Ö6
open PySem.SeqAt renaming EqAt→Ö8
open PySem.W.Looks renaming of_pure→Ú4
open PySem.Walks renaming list→Ü1
open PySem.Builtin.Int renaming intBits→Ý2
local macro_rules
|`(command|def $i:declId $s:optDeclSig $v)=>`(noncomputable def $i:declId $s:optDeclSig $v)
|`(command|abbrev $i:declId $s:optDeclSig $v)=>`(noncomputable abbrev $i:declId $s:optDeclSig $v)
open PySem.W (methodObj hideAll hideAll_get of_hideAll callWith_K cellsFrom_some fnOf codeRec_of kitx_none kitx_bool kitx_int kitx_str kitx_tuple kitx_list kitx_dict kitAny kia_tup envX kla_fn codeHd_of_K kla_obj mg_none_of mg_of view)
open PySem.Heap (lt_size size_push)
open List (range filterMap_cons mem_cons_self mem_cons_of_mem mem_append_left mem_append_right append_nil of_mem_zip replicate length_take mem_of_getElem? length_append length_map size_toArray length_drop map_nil map_cons length_set reverse_cons replicate_succ flatten_cons foldl lookup_cons forIn_cons toArray forIn_nil mem_cons not_mem_nil zip_cons_cons length_cons length_nil length_reverse nil_append all_eq_true map_append getElem_mem mem_filter mem_range map_congr_left length_filter_le isEmpty_nil all_nil length_range pairwise_lt_range all_cons contains_iff_mem idxOf_lt_length_of_mem map_take drop_length map_id' getElem_idxOf)
open Array (length_toList toList getD toArray_toList)
open Nat (ne_of_gt zero_le le_add_right not_lt_zero lt_succ_of_lt le_succ lt_succ_self zero_add ble succ_le_succ min_eq_left)
open PyProof.Rows (lt_int)
open Int (toNat_natCast gcd emod_nonneg emod_lt_of_pos natAbs_mul mul_pos)
open PySem.Builtin.Slice (sliceAdjust slicePlaces sliceApplied sliceFields)
open PySem.Builtin.Tuple (tupleItemsOf tupleExact tupleCompareSizes tupleTooMany tupleIsExact)
open Bool (and_eq_true false_eq_true not_eq_true' or_eq_true)
open Option (getD_none map_some map_eq_some_iff)
open ForInStep (yield)
open PySem.Builtin.SmallTypes (nextOf ownedTupleIsFree ownedTupleHandOut)
set_option bootstrap.genMatcherCode false
set_option compiler.extract_closed false
set_option genInjectivity false
set_option genSizeOf false
set_option autoImplicit true
set_option relaxedAutoImplicit true
set_option Elab.async false
set_option linter.all false
set_option maxRecDepth 100000
namespace L2
open PySem PySem.Spec PyProof.Rows
abbrev Key:=Sum Int Str
def b02:Key->Ä->Bool
 |.inl k,v=>É9 k v|.inr x,v=>Ä.isStrOf x v
def D82(w:ç):Key->Int
 |.inl k=>hashInt k|.inr x=>hashStr w x
theorem d10:∀ {k:Key}{v:Ä},b02 k v=true->(∃ i t,k=Ð6 i/\v=Ç2 i t)∨(∃ x t,k=Ö3 x/\v=Ä.str x t)
 |.inl i,v,h=>by
  obtain⟨t,e⟩:=Ä.isInt_shape (k:=i) (v:=v) h;exact .inl ⟨i,t,rfl,e⟩
 |.inr x,v,h=>by
  obtain⟨t,e⟩:=Ä.isStrOf_shape (x:=x) (v:=v) h;exact .inr ⟨x,t,rfl,e⟩
theorem b12(a b:Int):decide ((Ð6 a:Key)=Ð6 b)=(a == b):=by
 by_cases e:a=b
 ·subst e;simp
 ·have h:¬ (Ð6 a:Key)=Ð6 b:=λq=>e (Ð6.inj q);rw[decide_eq_false h];exact(beq_eq_false_iff_ne.mpr e).symm
theorem b22(a b:Str):decide ((Ö3 a:Key)=Ö3 b)=decide (a=b):=by
 by_cases e:a=b
 ·subst e;simp
 ·have h:¬ (Ö3 a:Key)=Ö3 b:=λq=>e (Ö3.inj q);rw[decide_eq_false h,decide_eq_false e]
theorem b32(a:Int)(b:Str):decide ((Ð6 a:Key)=Ö3 b)=false:=decide_eq_false (λq=>nomatch q)
theorem b42(a:Str)(b:Int):decide ((Ö3 a:Key)=Ð6 b)=false:=decide_eq_false (λq=>nomatch q)
def g50(prog:Ý)(w:ç):PySem.KeyKind prog w Key where
 is:=b02
 hash:=D82 w
 inj:=λv a b ha hb=>by
  rcases d10 ha with ⟨i,t,rfl,rfl⟩ | ⟨x,t,rfl,rfl⟩
  ·rcases d10 hb with ⟨j,u,rfl,e⟩ | ⟨y,u,rfl,e⟩
   ·injection e with e1 _;rw[e1]
   ·exact nomatch e
  ·rcases d10 hb with ⟨j,u,rfl,e⟩ | ⟨y,u,rfl,e⟩
   ·exact nomatch e
   ·injection e with e1 _;rw[e1]
 byValue:=λk v h=>by
  rcases d10 h with ⟨i,t,rfl,rfl⟩ | ⟨x,t,rfl,rfl⟩ <;> rfl
 pyHash:=λhv h=>by
  rcases d10 hv with ⟨i,t,rfl,rfl⟩ | ⟨x,t,rfl,rfl⟩
  ·exact wpAny_pyHash_int h
  ·exact wpAny_pyHash_str h
 eqBool:=λhu hv h=>by
  rcases d10 hu with ⟨i,t,rfl,rfl⟩ | ⟨x,t,rfl,rfl⟩
  ·rcases d10 hv with ⟨j,u,rfl,rfl⟩ | ⟨y,u,rfl,rfl⟩
   ·rw[b12] at h;exact wpAny_eqBool_int h
   ·rw[b32] at h;exact Ö8.int_str i t y u _ _ _ _ h
  ·rcases d10 hv with ⟨j,u,rfl,rfl⟩ | ⟨y,u,rfl,rfl⟩
   ·rw[b42] at h;exact Ö8.str_int x t j u _ _ _ _ h
   ·rw[b22] at h;exact wpAny_eqBool_str h
 «strs»:=λk x t v h=>by
  rcases d10 h with ⟨i,u,rfl,e⟩ | ⟨y,u,rfl,e⟩
  ·exact nomatch e
  ·injection e with e1 _;subst e1;cases v <;> rfl
inductive V where
 |non | bl (b:Bool) | int (i:Int) | str (x:Str) | byt (b:Array UInt8) | flt (b:UInt64) | ref (a:Addr) | ty (n:String)
 deriving DecidableEq
def RelV:V->Ä->Prop
 |.non,u=>u=è|.bl b,u=>u=Î2 b|.int i,u=>∃ t,u=Ç2 i t|.str x,u=>∃ t,u=Ä.str x t|.byt b,u=>∃ t,u=Ä.bytes b t|.flt b,u=>∃ t,u=Ä.float b t|.ref a,u=>u=ð a|.ty n,u=>u=Ã7 n
abbrev Vals:List V->List Ä->Prop:=Ä1 RelV
theorem Vals.length{xs:List V}{us:List Ä}(r:Vals xs us):xs.length=us.length:=Ï9 r
theorem Vals.get:∀ {xs:List V}{us:List Ä}{i:Nat}{x:V},Vals xs us->xs[i]?=some x->∃ u,us[i]?=some u/\RelV x u
 |_,_,_,_,.nil,e=>by simp at e|_,_,0,_,.cons r _,e=>by simp at e;subst e;exact⟨_,rfl,r⟩
 |_,_,i + 1,x,.cons _ t,e=>by
  obtain⟨u,h1,h2⟩:=Vals.get (i:=i) (x:=x) t (by simpa using e)
  exact⟨u,by simpa using h1,h2⟩
theorem Vals.set{x:V}{u:Ä}(r:RelV x u):∀ {xs:List V}{us:List Ä} (i:Nat),Vals xs us->Vals (xs.set i x) (us.set i u)
 |_,_,_,.nil=>.nil|_,_,0,.cons _ t=>.cons r t|_,_,i + 1,.cons q t=>.cons q (Vals.set r i t)
theorem Vals.append:∀ {xs ys:List V}{us ws:List Ä},Vals xs us->Vals ys ws->Vals (xs++ys) (us++ws)
 |_,_,_,_,.nil,s=>s|_,_,_,_,.cons r t,s=>.cons r (Vals.append t s)
theorem Vals.take:∀ {xs:List V}{us:List Ä} (n:Nat),Vals xs us->Vals (xs.take n) (us.take n)
 |_,_,0,_=>.nil|_,_,_ + 1,.nil=>.nil|_,_,n + 1,.cons r t=>.cons r (Vals.take n t)
theorem Vals.drop:∀ {xs:List V}{us:List Ä} (n:Nat),Vals xs us->Vals (xs.drop n) (us.drop n)
 |_,_,0,r=>r|_,_,_ + 1,.nil=>.nil|_,_,n + 1,.cons _ t=>Vals.drop n t
def A52:Option V->Option Ä->Prop
 |some v,some u=>RelV v u|none,none=>True|_,_=>False
def KV{κ:Type}:List (κ × V)->List (κ × Ä)->Prop:=Ä1 λ(p:κ × V) (q:κ × Ä)=>p.1=q.1/\RelV p.2 q.2
def kV:Key->V
 |.inl i=>.int i|.inr x=>.str x
inductive HO where
 |lst (xs:List V)
 |tup (xs:List V)
 |dK (kvs:List (Key × V)) | dT (kvs:List (List Key × V))
 |set (S:Int->Bool) (n:Nat)
 |ins (C dx:Addr) (fs:List (Str × V))
 |own (x:Addr)
 |xd (fs:List (Str × V))
 |met (f x:Addr)
 |rng (lo hi:Int)
 |frz (o:Obj) (u:HO)
 |tbl (ps:Array Value)
 |ext (φ:Heap->Prop)
abbrev Hp:=Ç->Option HO
def upd(H:Hp)(a:Ç)(o:HO):Hp:=λb=>if b=a then some o else H b
theorem a60{H:Hp}{a:Ç}{o:HO}:upd H a o a=some o:=by unfold upd;rw[if_pos rfl]
theorem a10{H:Hp}{a b:Ç}{o:HO}(h:b≠a):upd H a o b=H b:=by unfold upd;rw[if_neg h]
theorem a80{H:Hp}{a b:Ç}{o:HO}(h:H a=some o)(h':H b=none):a≠b:=by
 intro e;subst e;rw[h] at h';cases h'
section
variable (P:Ý) (w:ç)
def g60(H:Hp)(h:é)(a:Ç):HO->Prop
 |.lst xs=>xs.length<=sizeLine/\∃ (its:List Ä) (n:Nat),Vals xs its/\h.get? a=some { cls:=.type "list",data:=.seq its.toArray n }|.tup xs=>xs.length<=sizeLine/\∃ its:List Ä,Vals xs its/\Ñ8 h a its.toArray|.dK kvs=>kvs.length<=sizeLine/\(a == Ñ2)=false/\∃ vs,KV kvs vs/\h.DictOf (g50 P w) a vs
 |.dT kvs=>kvs.length<=sizeLine/\(a == Ñ2)=false/\∃ xs:List (List Key × Ç × Ä),
   Ä1 (λ(p:List Key × V) (q:List Key × Ç × Ä)=>p.1=q.1/\H q.2.1=some (.tup (p.1.map kV))/\RelV p.2 q.2.2) kvs xs /\
   ∃ o es ep,h.get? a=some o/\o.ExactDict/\o.data=.dict es ep/\es.toList=xs.map (entryOfKey (É4 (g50 P w)))/\(xs.map (·.1)).Nodup
 |.set S n=>h.SetOf (ý P w) a S n
 |.ins C dx fs=>H dx=some (.own a)/\fs.length<=1000/\dx≠a/\h.get? a=some (PySem.W.instObj C dx) /\
   ∃ mA,h.Ns1 dx mA/\(∀ f,A52 (fs.lookup f) (mA f))/\PySem.Within mA (fs.map (·.1))
 |.own _=>∃ o,h.get? a=some o|.xd fs=>∃ mA,h.Ns1 a mA/\∀ f,A52 (fs.lookup f) (mA f)|.rng lo hi=>∃ t u v,h.get? a=some { cls:=.type "range",data:=.fields #[.int lo t,.int hi u,.int 1 v] }|.frz o u=>h.get? a=some o/\g60 H h a u|.tbl ps=>h.get? a=some { cls:=.none,data:=.fields ps }|.met f x=>h.get? a=some (methodObj (.ref f) (.ref x))|.ext φ=>φ h/\(∃ o,h.get? a=some o)/\∀ h1 h2:é,φ h1->(∀ o,h1.get? a=some o->h2.get? a=some o)->φ h2
def HOk(H:Hp)(h:é):Prop:=∀ a o,H a=some o->g60 P w H h a o
end
section
variable {P:Ý}{w:ç}{H H':Hp}{h h':é}{a:Ç}{o:HO}
theorem g60.lt(x:g60 P w H h a o):a < h.objs.size:=by
 cases o with
 |lst xs=>obtain⟨_,_,_,_,e⟩:=x;exact Û e
 |tup xs=>obtain⟨_,_,_,p⟩:=x;exact p.lt
 |dK kvs=>obtain⟨_,_,_,_,o,_,_,e,_⟩:=x;exact Û e
 |dT kvs=>obtain⟨_,_,_,_,o,_,_,e,_⟩:=x;exact Û e
 |set S n=>obtain⟨o,_,_,_,e,_⟩:=x;exact Û e
 |ins C dx fs=>obtain⟨_,_,_,e,_⟩:=x;exact Û e
 |own y=>obtain⟨_,e⟩:=x;exact Û e
 |xd fs=>obtain⟨_,⟨_,_,_,e,_⟩,_⟩:=x;exact Û e
 |rng lo hi=>obtain⟨_,_,_,e⟩:=x;exact Û e
 |frz ob u=>obtain⟨e,_⟩:=x;exact Û e
 |tbl ps=>exact Û (show h.get? a=some _ from x)|met f y=>exact Û (show h.get? a=some _ from x)|ext φ=>obtain⟨_,⟨_,e⟩,_⟩:=x;exact Û e
theorem Ä1.a12{α β:Type}{F G:α->β->Prop}:∀ {l₁:List α}{l₂:List β},Ä1 F l₁ l₂->(∀ a b,F a b->G a b)->Ä1 G l₁ l₂
 |_,_,.nil,_=>.nil|_,_,.cons r t,f=>.cons (f _ _ r) (Ä1.a12 t f)
theorem g60.e11(x:g60 P w H h a o)(k:∀ b u,(b=a∨H b=some (.own a))->h.get? b=some u->h'.get? b=some u)
  (ho:∀ b,H b=some (.own a)->H' b=some (.own a)) (ht:∀ b xs,H b=some (.tup xs)->H' b=some (.tup xs)):g60 P w H' h' a o:=by
 induction o with
 |lst xs=>obtain⟨z,its,n,r,e⟩:=x;exact⟨z,its,n,r,k _ _ (.inl rfl) e⟩
 |tup xs=>obtain⟨z,its,r,ob,e,c⟩:=x;exact⟨z,its,r,ob,k _ _ (.inl rfl) e,c⟩
 |dK kvs=>obtain⟨z,y,vs,r,ob,es,ep,e,c⟩:=x;exact⟨z,y,vs,r,ob,es,ep,k _ _ (.inl rfl) e,c⟩
 |dT kvs =>
  obtain⟨z,y,xs,r,ob,es,ep,e,c⟩:=x;exact⟨z,y,xs,Ä1.a12 r λp q z=>⟨z.1,ht _ _ z.2.1,z.2.2⟩,ob,es,ep,k _ _ (.inl rfl) e,c⟩
 |set S n=>obtain⟨ob,es,ep,t,e,c⟩:=x;exact⟨ob,es,ep,t,k _ _ (.inl rfl) e,c⟩
 |ins C dx fs =>
  obtain⟨d,z,ne,e,mA,⟨od,es,ep,e2,c⟩,r⟩:=x;exact⟨ho _ d,z,ne,k _ _ (.inl rfl) e,mA,⟨od,es,ep,k _ _ (.inr d) e2,c⟩,r⟩
 |own y=>obtain⟨ob,e⟩:=x;exact⟨ob,k _ _ (.inl rfl) e⟩
 |xd fs=>obtain⟨mA,⟨od,es,ep,e,c⟩,r⟩:=x;exact⟨mA,⟨od,es,ep,k _ _ (.inl rfl) e,c⟩,r⟩
 |rng lo hi=>obtain⟨t,u,v,e⟩:=x;exact⟨t,u,v,k _ _ (.inl rfl) e⟩
 |frz ob u ih=>obtain⟨e,q⟩:=x;exact⟨k _ _ (.inl rfl) e,ih q⟩
 |tbl ps =>
  have e:h.get? a=some { cls:=.none,data:=.fields ps }:=x;show h'.get? a=some { cls:=.none,data:=.fields ps };exact k a _ (.inl rfl) e
 |met f y =>
  have e:h.get? a=some (methodObj (.ref f) (.ref y)):=x;show h'.get? a=some (methodObj (.ref f) (.ref y));exact k a _ (.inl rfl) e
 |ext φ=>obtain⟨p,⟨o,e⟩,st⟩:=x;exact⟨st _ _ p λo q=>k _ _ (.inl rfl) q,⟨o,k _ _ (.inl rfl) e⟩,st⟩
theorem HOk.lt(x:HOk P w H h)(e:H a=some o):a < h.objs.size:=(x a o e).lt
theorem HOk.fresh(x:HOk P w H h)(e:h.objs.size<=a):H a=none:=by
 cases q:H a with
 |none=>rfl|some u=>exact absurd (Ú (x.lt q) e) (Á8 _)
theorem HOk.kept(x:HOk P w H h)(k:∀ b u,h.get? b=some u->h'.get? b=some u):HOk P w H h':=λa o e =>
 (x a o e).e11 (λb u _ q=>k b u q) (λ_ q=>q) λ_ _ q=>q
theorem HOk.laid(x:HOk P w H h)(k:∀ b u,h.get? b=some u->h'.get? b=some u)(hp:h.objs.size<=a)(new:g60 P w (upd H a o) h' a o):HOk P w (upd H a o) h':=λb u e=>by
 have hn:=x.fresh hp;by_cases hb:b=a
 ·subst hb;rw[a60] at e;cases e;exact new
 ·rw[a10 hb] at e;exact(x b u e).e11 (λc v _ q=>k c v q) (λc q=>by rw[a10 (a80 q hn)];exact q) λc xs q=>by rw[a10 (a80 q hn)];exact q
end
def Rd(H:Hp)(a:Ç)(u:HO):Prop:=H a=some u∨∃ o,H a=some (.frz o u)
theorem Rd.ok{P:Ý}{w:ç}{H:Hp}{h:é}{a:Ç}{u:HO}(r:Rd H a u)(x:HOk P w H h):g60 P w H h a u:=by
 rcases r with r | ⟨o,r⟩
 ·exact x a u r
 ·obtain⟨_,q⟩:=x a _ r;exact q
def Mut:Option HO->Prop
 |some (.lst _)=>True|some (.dK _)=>True|some (.dT _)=>True|some (.set _ _)=>True|some (.ins _ _ _)=>True|some (.ext _)=>True|_=>False
section
variable {P:Ý}{w:ç}{H:Hp}{h h':é}{x e:Ç}{o':HO}
theorem HOk.write(ok:HOk P w H h)(mu:Mut (H x))(he:e=x∨H e=some (.own x))(k:∀ b u,b≠e->h.get? b=some u->h'.get? b=some u)(heo:∃ u,h'.get? e=some u)
  (new:g60 P w (upd H x o') h' x o'):HOk P w (upd H x o') h':=λb u q=>by
 have nown:∀ c y,H c=some (.own y)->c≠x:=λc y r z=>by subst z;rw[r] at mu;exact mu
 have ntup:∀ c xs,H c=some (.tup xs)->c≠x:=λc xs r z=>by subst z;rw[r] at mu;exact mu
 by_cases hb:b=x
 ·subst hb;rw[a60] at q;cases q;exact new
 ·rw[a10 hb] at q;by_cases hbe:b=e
  ·have q':H b=some (.own x):=by
    rcases he with z | z
    ·exact absurd (hbe.trans z) hb
    ·rw[hbe];exact z
   rw[q] at q';cases q';obtain⟨v,hv⟩:=heo;exact⟨v,by rw[hbe];exact hv⟩
  ·refine(ok b u q).e11 (λc v hc r=>k c v ?_ r) (λc r=>by rw[a10 (nown c b r)];exact r) λc xs r=>by rw[a10 (ntup c xs r)];exact r
   rcases hc with rfl | hc
   ·exact hbe
   ·rintro rfl;rcases he with z | z
    ·exact nown c b hc z
    ·rw[hc] at z;cases z;exact hb rfl
end
structure Un(fs ex:List Addr)(H H':Hp)(h h':Heap):Prop where
 keep:∀ b o,h.get? b=some o->H b=none->b ∉ fs->b ∉ ex->h'.get? b=some o
 slot:∀ b o,h.get? b=some o->H b=none->b∈fs->b ∉ ex->∃ sl,h'.get? b=some { o with slots:=sl }
 free:∀ b o,h.get? b=some o->H b=none->b ∉ ex->H' b=none
 there:∀ b o,h.get? b=some o->b ∉ ex->∃ o',h'.get? b=some o'
 tups:∀ b xs,H b=some (.tup xs)->H' b=some (.tup xs)
 frzs:∀ b o u,H b=some (.frz o u)->H' b=some (.frz o u)
 tbls:∀ b ps,H b=some (.tbl ps)->∃ more,H' b=some (.tbl (ps++more))
section
variable {fs fs' ex ex':List Ç}{H H1 H2:Hp}{h h1 h2 h':é}{a x e:Ç}{o:HO}
theorem Un.any(u:Un fs ex H H1 h h1){b:Ç}{ob:Obj}(q:h.get? b=some ob)(n:H b=none)(hx:b ∉ ex):∃ sl,h1.get? b=some { ob with slots:=sl }:=by
 by_cases hb:b∈fs
 ·exact u.slot b ob q n hb hx
 ·exact⟨ob.slots,u.keep b ob q n hb hx⟩
theorem Un.trans(a:Un fs ex H H1 h h1)(b:Un fs ex H1 H2 h1 h2):Un fs ex H H2 h h2 where
 keep:=λc ob q n hc hx=>b.keep c ob (a.keep c ob q n hc hx) (a.free c ob q n hx) hc hx
 slot:=λc ob q n hc hx=>by
  obtain⟨sl,e1⟩:=a.slot c ob q n hc hx;obtain⟨sl',e2⟩:=b.slot c _ e1 (a.free c ob q n hx) hc hx;exact⟨sl',e2⟩
 free:=λc ob q n hx=>by
  obtain⟨o',e1⟩:=a.there c ob q hx;exact b.free c o' e1 (a.free c ob q n hx) hx
 there:=λc ob q hx=>by
  obtain⟨o',e1⟩:=a.there c ob q hx;exact b.there c o' e1 hx
 tups:=λc xs q=>b.tups c xs (a.tups c xs q)
 frzs:=λc ob xs q=>b.frzs c ob xs (a.frzs c ob xs q)
 tbls:=λc ps q=>by
  obtain⟨m1,e1⟩:=a.tbls c ps q;obtain⟨m2,e2⟩:=b.tbls c _ e1;exact⟨m1++m2,by rw[e2,Array.append_assoc]⟩
theorem Un.kept(k:∀ b u,h.get? b=some u->h'.get? b=some u):Un fs ex H H h h' :=
 ⟨λb ob q _ _ _=>k b ob q,λb ob q _ _ _=>⟨ob.slots,k b ob q⟩,λ_ _ _ n _=>n,λb ob q _=>⟨ob,k b ob q⟩,λ_ _ q=>q,λ_ _ _ q=>q,λ_ ps q=>⟨#[],by rw[q];simp⟩⟩
theorem Un.refl:Un fs ex H H h h:=Un.kept λ_ _ q=>q
theorem Un.laid(k:∀ b u,h.get? b=some u->h'.get? b=some u)(hp:h.objs.size<=a)(hn:H a=none):Un fs ex H (upd H a o) h h' where
 keep:=λb u q _ _ _=>k b u q
 slot:=λb u q _ _ _=>⟨u.slots,k b u q⟩
 free:=λb u q n _=>by rw[a10 (Ô (Ú (Û q) hp))];exact n
 there:=λb u q _=>⟨u,k b u q⟩
 tups:=λb xs q=>by rw[a10 (a80 q hn)];exact q
 frzs:=λb u xs q=>by rw[a10 (a80 q hn)];exact q
 tbls:=λb ps q=>⟨#[],by rw[a10 (a80 q hn),q];simp⟩
theorem Un.write(mu:Mut (H x))(he:e=x∨H e=some (.own x))(k:∀ b u,b≠e->h.get? b=some u->h'.get? b=some u)(heo:∃ u,h'.get? e=some u):Un fs ex H (upd H x o) h h':=by
 have hx:∀ b,H b=none->b≠x:=λb n z=>by subst z;rw[n] at mu;exact mu
 have hb:∀ b,H b=none->b≠e:=λb n z=>by
  subst z;rcases he with r | r
  ·exact hx b n r
  ·rw[n] at r;cases r
 have hm:∀ b u,H b=some u->¬ Mut (some u)->b≠x:=λb u q nm z=>by subst z;rw[q] at mu;exact nm mu
 refine⟨λb u q n _ _=>k b u (hb b n) q,λb u q n _ _=>⟨u.slots,k b u (hb b n) q⟩,λb u q n _=>by rw[a10 (hx b n)];exact n,λb u q _=>?_,
  λb xs q=>by rw[a10 (hm b _ q λz=>z)];exact q,λb u xs q=>by rw[a10 (hm b _ q λz=>z)];exact q,λb ps q=>⟨#[],by rw[a10 (hm b _ q λz=>z),q];simp⟩⟩
 by_cases hbe:b=e
 ·subst hbe;exact heo
 ·exact⟨u,k b u hbe q⟩
theorem Un.mono(u:Un fs ex H H1 h h1)(hs:∀ b∈fs,b∈fs')(hx:∀ b∈ex,b∈ex'):Un fs' ex' H H1 h h1 :=
 ⟨λb ob q n hb he=>u.keep b ob q n (λz=>hb (hs b z)) λz=>he (hx b z),λ_ _ q n _ he=>u.any q n λz=>he (hx _ z),λb ob q n he=>u.free b ob q n λz=>he (hx b z),λb ob q he=>u.there b ob q λz=>he (hx b z),u.tups,u.frzs,u.tbls⟩
end
def trk(h:é)(H:Hp):List Addr:=(ì h.objs.size).filter λa=>(H a).isSome
def A91(h:é)(H:Hp):Heap:=hideAll h (trk h H)
theorem j31(h:é)(H:Hp):(A91 h H).objs.size=h.objs.size:=PySem.W.hideAll_size _ _
theorem E30{h:é}{H:Hp}{b:Ç}{o:Obj}(e:h.get? b=some o)(n:H b=none):(A91 h H).get? b=some o :=
 hideAll_get _ e λhm=>by
  have q:(H b).isSome=true:=(List.mem_filter.mp hm).2;rw[n] at q;simp at q
theorem O61{h:é}{H:Hp}{b:Ç}{o:Obj}(e:(A91 h H).get? b=some o):h.get? b=some o/\H b=none:=by
 have e':h.get? b=some o:=of_hideAll (trk h H) e;refine⟨e',?_⟩;cases q:H b with
 |none=>rfl
 |some x =>
  have hm:b∈trk h H:=List.mem_filter.mpr ⟨ö.mpr (Û e'),by simp[q]⟩
  have z:(A91 h H).get? b=none:=PySem.W.hideAll_none (trk h H) hm;rw[z] at e;cases e
structure Mod(K:PySem.W.Frag)(mg:Str->Option Value)(base:Heap):Prop where
 kin:K.In base
 glob:base.Ns mainGlobals mg
 blt:∃ mb,base.Ns builtinsNs mb/\∀ x:Str,x≠"__name__"->mb x=bootBuiltins x
 nolimit:base.NoLimit
structure Cx where
 prog:Program
 w:World
 K:PySem.W.Frag
 mg:Str->Option Value
 base:Heap
 A:Around
 N:List Str
 s₀:Shared
 H₀:Hp
 env:Env
 outer:List Env
 stack:List Env
 ex:List Addr
 fn:Str->Bool
 calm:Bool
 pn:List (Addr × Obj)
 xe:Value->Shared->Prop
def frs(l:List Env):List Addr:=l.filterMap (·.frame)
abbrev Cx.fs(X:Cx):List Addr:=frs X.outer
def Vis(sc:ø)(x:Str):Prop:=sc.names.lookup x=some .local∨sc.names.lookup x=some .cell∨sc.names.lookup x=some .free
def Loc(sc:ø)(x:Str):Prop:=sc.names.lookup x=some .local∨sc.names.lookup x=some .cell
def Look(env:Env)(h:é)(m:Str->Option Ä)(x:Str)(u:Ä):Prop :=
 (env.kindOf x=some .local/\m x=some u)∨((env.kindOf x=some .cell∨env.kindOf x=some .free)/\∃ c,env.cells.lookup x=some c/\h.IsCell c (some u))
structure Cx.Ok(X:Cx):Prop where
 mod:Mod X.K X.mg X.base
 kind:X.env.scope.kind=.function
 glob:X.env.globals=mainGlobals
 blt:X.env.builtins=builtinsNs
 above:X.s₀.heap.objs.size<=X.env.locals
 inj:∀ x y c,X.env.cells.lookup x=some c->X.env.cells.lookup y=some c->x=y
 has:∀ x,(X.env.kindOf x=some .cell∨X.env.kindOf x=some .free)->∃ c,X.env.cells.lookup x=some c
 cab:∀ x c,X.fn x=true->X.env.cells.lookup x=some c->X.s₀.heap.objs.size<=c
 hd:X.calm=true->X.A.handled=none
 frames:X.A.frames=some X.stack
 stk:X.stack=X.outer∨(X.stack=X.env::X.outer/\X.env.frame=some X.env.locals)
 exf:∀ b∈X.ex,b≠X.env.locals/\∀ x c,X.env.cells.lookup x=some c->c≠b
 bs:∀ b o,X.base.get? b=some o->X.s₀.heap.get? b=some o/\X.H₀ b=none
 bsz:X.base.objs.size<=X.s₀.heap.objs.size
 noex:∀ b o,X.base.get? b=some o->b ∉ X.ex
 exfs:∀ b∈X.ex,b ∉ X.fs
 e21:X.s₀.heap.FunFrames X.base X.outer
 frf:∀ b∈X.fs,X.H₀ b=none
structure Inv(X:Cx)(pins:List (Addr × Obj))(σ:List (Option V))(H:Hp)(s:Shared):Prop where
 ok:X.Ok
 os:s.os=X.s₀.os
 bare:AllBare s.gens
 base:Un X.fs X.ex X.H₀ H X.s₀.heap s.heap
 loc:∃ m,s.heap.Ns X.env.locals m/\∀ (i:Nat) (x:Str) (v:V),X.N[i]?=some x->σ[i]?=some (some v)->Vis X.env.scope x->∃ u,RelV v u/\Look X.env s.heap m x u
 cell:∀ x c,X.env.cells.lookup x=some c->∃ v,s.heap.IsCell c v
 free:H X.env.locals=none
 freeC:∀ x c,X.env.cells.lookup x=some c->H c=none
 pin:∀ p∈X.pn++pins,s.heap.get? p.1=some p.2/\H p.1=none/\p.1≠X.env.locals/\p.1 ∉ X.fs/\∀ v,p.2.data≠.cell v
 hok:HOk X.prog X.w H s.heap
 len:σ.length=X.N.length
section
variable {X:Cx}{pins:List (Ç × Obj)}{σ:List (Option V)}{H H':Hp}{s:Æ}{h':é}
theorem Cx.Ok.D92(ok:X.Ok){b:Ç}{o:Obj}(e:X.base.get? b=some o):b ∉ X.fs:=λhb=>by
 have:=(ok.e21.mem hb).1;rw[e] at this;cases this
theorem Inv.bs(I:Inv X pins σ H s):∀ b o,X.base.get? b=some o->s.heap.get? b=some o/\H b=none:=λb o e =>
 ⟨I.base.keep b o (I.ok.bs b o e).1 (I.ok.bs b o e).2 (I.ok.D92 e) (I.ok.noex b o e),I.base.free b o (I.ok.bs b o e).1 (I.ok.bs b o e).2 (I.ok.noex b o e)⟩
theorem Inv.bk(I:Inv X pins σ H s):∀ b o,X.base.get? b=some o->s.heap.get? b=some o:=λb o e=>(I.bs b o e).1
theorem Inv.mod(I:Inv X pins σ H s):Mod X.K X.mg X.base:=I.ok.mod
theorem Inv.kIn(I:Inv X pins σ H s):X.K.In s.heap:=I.ok.mod.kin.keeps I.bk
theorem Inv.lt(I:Inv X pins σ H s):X.env.locals < s.heap.objs.size:=let ⟨_,hn,_⟩:=I.loc;hn.lt
theorem Inv.sz(I:Inv X pins σ H s):X.s₀.heap.objs.size<=s.heap.objs.size:=â I.ok.above (Ç9 I.lt)
theorem Inv.E02(I:Inv X pins σ H s){a:Ç}(h:s.heap.objs.size<=a):a ∉ X.fs:=λhb=>by
 obtain⟨_,o,ho,_⟩:=I.ok.e21.mem hb;exact absurd (Ú (Û ho) (â I.sz h)) (Á8 _)
theorem Inv.cne(I:Inv X pins σ H s):∀ x c,X.env.cells.lookup x=some c->c≠X.env.locals:=λx c e z=>by
 obtain⟨v,o,ho,hd⟩:=I.cell x c e;obtain⟨m,⟨o',es,ep,ho',hd',_⟩,_⟩:=I.loc;rw[z,ho'] at ho;cases ho;rw[hd'] at hd;cases hd
theorem Inv.e21(I:Inv X pins σ H s):s.heap.FunFrames X.base X.outer:=by
 have all:∀ (l:List Env),(∀ b∈frs l,b∈X.fs)->X.s₀.heap.FunFrames X.base l->s.heap.FunFrames X.base l:=by
  intro l
  induction l with
  |nil=>intro _ _;trivial
  |cons env r ih =>
   intro hs hl;obtain⟨hk,⟨L,o,hf,hn,ho,hd⟩,hr⟩:=hl;have hL:L∈X.fs:=hs L (by unfold frs;rw[þ,hf];exact Ê)
   obtain⟨sl,e⟩:=I.base.slot L o ho (I.ok.frf L hL) hL λz=>I.ok.exfs L z hL;exact⟨hk,⟨L,_,hf,hn,e,hd⟩,ih (λb hb=>hs b (by unfold frs;rw[þ,hf];exact È _ hb)) hr⟩
 exact all X.outer (λ_ hb=>hb) I.ok.e21
theorem Inv.stack(I:Inv X pins σ H s):s.heap.FunFrames X.base X.stack:=by
 rcases I.ok.stk with e | ⟨e,hf⟩
 ·rw[e];exact I.e21
 ·rw[e];obtain⟨m,hn,_⟩:=I.loc;refine .cons (by rw[I.ok.kind];decide) hf hn ?_ I.e21
  exact é.get?_none_of_le (â I.ok.bsz I.ok.above)
theorem Inv.j41(I:Inv X pins σ H s):∀ b∈frs X.stack,b∈X.env.locals::X.fs:=λb hb=>by
 rcases I.ok.stk with e | ⟨e,hf⟩
 ·rw[e] at hb;exact È _ hb
 ·rw[e] at hb;unfold frs at hb;rw[þ,hf] at hb;exact hb
theorem Inv.s80(I:Inv X pins σ H s):∀ b∈frs X.stack,H b=none:=λb hb=>by
 rcases Ü.mp (I.j41 b hb) with e | hb
 ·rw[e];exact I.free
 ·obtain⟨_,o,ho,_⟩:=I.ok.e21.mem hb;exact I.base.free b o ho (I.ok.frf b hb) λz=>I.ok.exfs b z hb
theorem Inv.step{g':Array Ü5}{t':Nat}{d':Drawn}{ch:List Ç}(I:Inv X pins σ H s)
  (hch:∀ b∈ch,(b∈X.ex∨X.s₀.heap.objs.size<=b)/\b≠X.env.locals/\(∀ x c,X.env.cells.lookup x=some c->c≠b)/\∀ p∈X.pn++pins,p.1≠b)
  (keep:∀ b o,b≠X.env.locals->b ∉ X.fs->b ∉ ch->s.heap.get? b=some o->H b=none->h'.get? b=some o)
  (slot:∀ b o,b≠X.env.locals->b∈X.fs->b ∉ ch->s.heap.get? b=some o->H b=none->∃ sl,h'.get? b=some { o with slots:=sl }) (free:∀ b o,b ∉ ch->s.heap.get? b=some o->H b=none->H' b=none)
  (there:∀ b o,b ∉ ch->s.heap.get? b=some o->∃ o',h'.get? b=some o')
  (tups:∀ b xs,H b=some (.tup xs)->H' b=some (.tup xs)) (frzs:∀ b o u,H b=some (.frz o u)->H' b=some (.frz o u)) (tbls:∀ b ps,H b=some (.tbl ps)->∃ more,H' b=some (.tbl (ps++more)))
  (ns:∀ m,s.heap.Ns X.env.locals m->h'.Ns X.env.locals m) (hok:HOk X.prog X.w H' h') (hg:Ó1 g') :
  Inv X pins σ H' { s with heap:=h',gens:=g',drawn:=d',toks:=t' }:=by
 have neL:∀ b o,X.s₀.heap.get? b=some o->b≠X.env.locals:=λb o e=>Ô (Ú (Û e) I.ok.above);have neC:∀ b o,X.s₀.heap.get? b=some o->b ∉ X.ex->b ∉ ch:=λb o e hx hb=>by
  rcases (hch b hb).1 with z | z
  ·exact hx z
  ·exact absurd (Ú (Û e) z) (Á8 _)
 have cellK:∀ x c,X.env.cells.lookup x=some c->∀ v,s.heap.IsCell c v->h'.IsCell c v:=λx c e v ⟨o,ho,hd⟩=>by
  have nch:c ∉ ch:=λz=>(hch c z).2.2.1 x c e rfl;by_cases hc:c∈X.fs
  ·obtain⟨sl,q⟩:=slot c o (I.cne x c e) hc nch ho (I.freeC x c e);exact⟨_,q,hd⟩
  ·exact⟨o,keep c o (I.cne x c e) hc nch ho (I.freeC x c e),hd⟩
 refine⟨I.ok,I.os,hg,⟨λb o e n hb hx=>?_,λb o e n hb hx=>?_,λb o e n hx=>?_,λb o e hx=>?_,λb xs e=>tups b xs (I.base.tups b xs e),λb o xs e=>frzs b o xs (I.base.frzs b o xs e),λb ps e=>?_⟩,?_,λx c e=>?_,?_,λx c e=>?_,λp hp=>?_,hok,I.len⟩
 ·exact keep b o (neL b o e) hb (neC b o e hx) (I.base.keep b o e n hb hx) (I.base.free b o e n hx)
 ·obtain⟨sl,e1⟩:=I.base.slot b o e n hb hx;obtain⟨sl',e2⟩:=slot b _ (neL b o e) hb (neC b o e hx) e1 (I.base.free b o e n hx);exact⟨sl',e2⟩
 ·obtain⟨o',e1⟩:=I.base.there b o e hx;exact free b o' (neC b o e hx) e1 (I.base.free b o e n hx)
 ·obtain⟨o',e1⟩:=I.base.there b o e hx;exact there b o' (neC b o e hx) e1
 ·obtain⟨m1,e1⟩:=I.base.tbls b ps e;obtain⟨m2,e2⟩:=tbls b _ e1;exact⟨m1++m2,by rw[e2,Array.append_assoc]⟩
 ·obtain⟨m,hn,hl⟩:=I.loc;refine⟨m,ns m hn,λi x v e1 e2 e3=>?_⟩;obtain⟨u,r,l⟩:=hl i x v e1 e2 e3;refine⟨u,r,?_⟩;rcases l with l | ⟨k,c,e,z⟩
  ·exact .inl l
  ·exact .inr ⟨k,c,e,cellK x c e _ z⟩
 ·obtain⟨v,z⟩:=I.cell x c e;exact⟨v,cellK x c e v z⟩
 ·obtain⟨m,⟨o,_,_,ho,_⟩,_⟩:=I.loc;exact free _ o (λz=>(hch _ z).2.1 rfl) ho I.free
 ·obtain⟨v,o,ho,hd⟩:=I.cell x c e;exact free c o (λz=>(hch c z).2.2.1 x c e rfl) ho (I.freeC x c e)
 ·obtain⟨e,n,ne,nf,d⟩:=I.pin p hp;have nch:p.1 ∉ ch:=λz=>(hch p.1 z).2.2.2 p hp rfl;exact⟨keep p.1 p.2 ne nf nch e n,free p.1 p.2 nch e n,ne,nf,d⟩
theorem Inv.un{t':Nat}(I:Inv X pins σ H s)(u:Un X.fs [] H H' s.heap h')(hok:HOk X.prog X.w H' h'):Inv X pins σ H' { s with heap:=h',toks:=t' }:=by
 obtain⟨m,⟨o,es,ep,ho,r⟩,_⟩:=id I.loc;obtain⟨sl,hL⟩:=u.any ho I.free (by simp)
 exact I.step (g':=s.gens) (d':=s.drawn) (ch:=[]) (λ_ z=>nomatch z) (λb o _ hb _ e n=>u.keep b o e n hb (by simp)) (λb o _ hb _ e n=>u.slot b o e n hb (by simp)) (λb o _ e n=>u.free b o e n (by simp)) (λb o _ e=>u.there b o e (by simp)) u.tups u.frzs u.tbls (λm' hm=>by
  obtain⟨o',es',ep',ho',r'⟩:=hm;rw[ho] at ho';cases ho';exact⟨_,es',ep',hL,r'⟩) hok I.bare
theorem Inv.call{g':Array Ü5}{t':Nat}{d':Drawn}{ch:List Ç}(I:Inv X pins σ H s)(u:Un (frs X.stack) ch H H' s.heap h')(hok:HOk X.prog X.w H' h')(hg:Ó1 g')
  (hch:∀ b∈ch,(b∈X.ex∨X.s₀.heap.objs.size<=b)/\b≠X.env.locals/\(∀ x c,X.env.cells.lookup x=some c->c≠b)/\∀ p∈X.pn++pins,p.1≠b) :
  Inv X pins σ H' { s with heap:=h',gens:=g',drawn:=d',toks:=t' }:=by
 obtain⟨m,⟨o,es,ep,ho,r⟩,_⟩:=id I.loc;obtain⟨sl,hL⟩:=u.any ho I.free λz=>(hch _ z).2.1 rfl;exact I.step (ch:=ch) hch (λb o hL hb hc e n=>u.keep b o e n (λz=>(Ü.mp (I.j41 b z)).elim hL hb) hc) (λb o _ _ hc e n=>u.any e n hc) (λb o hc e n=>u.free b o e n hc) (λb o hc e=>u.there b o e hc) u.tups u.frzs u.tbls (λm' hm=>by
  obtain⟨o',es',ep',ho',r'⟩:=hm;rw[ho] at ho';cases ho';exact⟨_,es',ep',hL,r'⟩) hok hg
theorem Inv.turned{t':Nat}{it:Ç}(I:Inv X pins σ H s)(k:∀ b o,b≠it->s.heap.get? b=some o->h'.get? b=some o)(hn:H it=none)(hL:it≠X.env.locals)
  (h1:it∈X.ex∨X.s₀.heap.objs.size<=it) (h2:∀ x c,X.env.cells.lookup x=some c->c≠it) (h3:∀ p∈X.pn++pins,p.1≠it):Inv X pins σ H { s with heap:=h',toks:=t' }:=by
 have nit:∀ b u,H b=some u->b≠it:=λb u e z=>by rw[z,hn] at e;cases e
 refine I.step (g':=s.gens) (d':=s.drawn) (ch:=[it]) (λb hb=>?_) (λb o _ _ hc e _=>k b o (λz=>hc (by simp[z])) e) (λb o _ _ hc e _=>⟨o.slots,k b o (λz=>hc (by simp[z])) e⟩) (λ_ _ _ _ n=>n)
  (λb o hc e=>⟨o,k b o (λz=>hc (by simp[z])) e⟩) (λ_ _ e=>e) (λ_ _ _ e=>e) (λb ps e=>⟨#[],by rw[e];simp⟩) (λm hm=>?_) (λb u e=>?_) I.bare
 ·have e:b=it:=by simpa using hb
  subst e;exact⟨h1,hL,h2,h3⟩
 ·obtain⟨o,es,ep,ho,r⟩:=hm;exact⟨o,es,ep,k _ o (À8 hL) ho,r⟩
 ·refine(I.hok b u e).e11 (λc v hc q=>k c v ?_ q) (λ_ q=>q) λ_ _ q=>q;rcases hc with z | z
  ·rw[z];exact nit b u e
  ·exact nit c _ z
theorem Inv.tok(I:Inv X pins σ H s)(t:Nat):Inv X pins σ H { s with toks:=t }:=I.un (h':=s.heap) (t':=t) Un.refl I.hok
theorem Inv.kept{t':Nat}(I:Inv X pins σ H s)(k:∀ b u,s.heap.get? b=some u->h'.get? b=some u):Inv X pins σ H { s with heap:=h',toks:=t' }:=I.un (Un.kept k) (I.hok.kept k)
theorem Inv.laid{a:Ç}{o:HO}{t':Nat}(I:Inv X pins σ H s)(k:∀ b u,s.heap.get? b=some u->h'.get? b=some u)(hp:s.heap.objs.size<=a)(new:g60 X.prog X.w (upd H a o) h' a o) :
  Inv X pins σ (upd H a o) { s with heap:=h',toks:=t' }:=I.un (Un.laid k hp (I.hok.fresh hp)) (I.hok.laid k hp new)
theorem Inv.write{x e:Ç}{o:HO}{t':Nat}(I:Inv X pins σ H s)(mu:Mut (H x))(he:e=x∨H e=some (.own x))(k:∀ b u,b≠e->s.heap.get? b=some u->h'.get? b=some u)(heo:∃ u,h'.get? e=some u)
  (new:g60 X.prog X.w (upd H x o) h' x o):Inv X pins σ (upd H x o) { s with heap:=h',toks:=t' }:=I.un (Un.write mu he k heo) (I.hok.write mu he k heo new)
theorem Inv.x20{pins':List (Ç × Obj)}(I:Inv X pins σ H s)(h:∀ p∈pins',s.heap.get? p.1=some p.2/\H p.1=none/\p.1≠X.env.locals/\p.1 ∉ X.fs/\∀ v,p.2.data≠.cell v):Inv X pins' σ H s :=
 ⟨I.ok,I.os,I.bare,I.base,I.loc,I.cell,I.free,I.freeC,λp hp=>(Ã1.mp hp).elim (λz=>I.pin p (Æ6 _ z)) (h p),I.hok,I.len⟩
theorem X70{N:List Str}(hN:N.Nodup){i j:Nat}{x:Str}(a:N[i]?=some x)(b:N[j]?=some x):i=j:=by
 obtain⟨h1,e1⟩:=ä.mp a;obtain⟨h2,e2⟩:=ä.mp b;exact(List.getElem_inj hN).mp (e1.trans e2.symm)
theorem x30{M:Model}{A:õ}{E:Ä->Æ->Prop}{i:Nat}{x:Str}{v:V}{u:Ä}{Q:Unit->Æ->Prop}(I:Inv X pins σ H s)(hN:X.N.Nodup)(hi:X.N[i]?=some x)(hx:Loc X.env.scope x)(r:RelV v u)
  (h:∀ s',Inv X pins (σ.set i (some v)) H s'->(∃ a,Ç8 a s.heap s'.heap/\(a=X.env.locals∨X.env.cells.lookup x=some a))->Q () s') (hf:X.fn x=true∨X.env.scope.names.lookup x=some .local:=by first | exact .inl rfl | exact .inr rfl | assumption):Ï M A (storeName X.env x u) Q E s:=by
 obtain⟨m,hn,hl⟩:=id I.loc;have hcls:(X.env.scope.kind == .class || (X.env.scope.kind == .module&&X.env.locals != X.env.globals))=false:=by rw[I.ok.kind];rfl
 have hiσ:i < σ.length:=by rw[I.len];exact(ä.mp hi).1
 have cne:=I.cne;have tracked:∀ {a:Ç}{h':é},(∃ o,s.heap.get? a=some o/\H a=none)->Ç8 a s.heap h'->HOk X.prog X.w H h':=λ{a h'} ha hs b ob e=>by
  obtain⟨_,_,hfree⟩:=ha;refine(I.hok b ob e).e11 (λc w' hc q=>(hs.2 c ?_).trans q) (λ_ q=>q) λ_ _ q=>q;rintro rfl;rcases hc with rfl | hc
  ·rw[hfree] at e;cases e
  ·rw[hfree] at hc;cases hc
 rcases hx with hk | hk
 ·refine wpAny_storeName_local hk hn (λh' hn' hs=>?_) hcls;obtain⟨oL,_,_,hoL,_⟩:=id hn;refine h _ ⟨I.ok,I.os,I.bare,⟨λb o e n hb hx=>?_,λb o e n hb hx=>?_,I.base.free,λb o e hx=>?_,I.base.tups,I.base.frzs,I.base.tbls⟩,⟨_,hn',λj y v' e1 e2 e3=>?_⟩,λy c e=>?_,I.free,I.freeC,λp hp=>?_,tracked ⟨oL,hoL,I.free⟩ hs,by simpa using I.len⟩ ⟨_,hs,.inl rfl⟩
  ·exact(hs.2 b (Ô (Ú (Û e) I.ok.above))).trans (I.base.keep b o e n hb hx)
  ·obtain⟨sl,e1⟩:=I.base.slot b o e n hb hx;exact⟨sl,(hs.2 b (Ô (Ú (Û e) I.ok.above))).trans e1⟩
  ·obtain⟨o',e1⟩:=I.base.there b o e hx;exact⟨o',(hs.2 b (Ô (Ú (Û e) I.ok.above))).trans e1⟩
  ·by_cases hj:j=i
   ·subst hj;rw[hi] at e1;cases e1;rw[ã hiσ] at e2;cases e2;exact⟨u,r,.inl ⟨hk,by simp⟩⟩
   ·rw[Ù (À8 hj)] at e2;obtain⟨u',r',q⟩:=hl j y v' e1 e2 e3;refine⟨u',r',?_⟩;rcases q with ⟨k,e⟩ | ⟨k,c,e,z⟩
    ·refine .inl ⟨k,?_⟩;have:y≠x:=λe=>hj (X70 hN e1 (e ▸ hi));simp[this,e]
    ·exact .inr ⟨k,c,e,z.sameBut hs (cne y c e)⟩
  ·obtain⟨w',z⟩:=I.cell y c e;exact⟨w',z.sameBut hs (cne y c e)⟩
  ·obtain⟨e,n,ne,nf,d⟩:=I.pin p hp;exact⟨(hs.2 p.1 ne).trans e,n,ne,nf,d⟩
 ·have hfn:X.fn x=true:=by
   rcases hf with z | z
   ·exact z
   ·rw[z] at hk;cases hk
  obtain⟨c,hc⟩:=I.ok.has x (.inl hk);obtain⟨w',z⟩:=I.cell x c hc;refine wpAny_storeName_cell I.ok.kind hk hc z (λh' hc' hs=>?_);obtain⟨oc,hoc,hocd⟩:=id z;refine h { s with heap:=h' } ⟨I.ok,I.os,I.bare,⟨λb o e n hb hx=>?_,λb o e n hb hx=>?_,I.base.free,λb o e hx=>?_,I.base.tups,I.base.frzs,I.base.tbls⟩,⟨m,hn.sameBut hs (À8 (cne x c hc)),λj y v' e1 e2 e3=>?_⟩,λy c' e=>?_,I.free,I.freeC,λp hp=>?_,tracked ⟨oc,hoc,I.freeC x c hc⟩ hs,by simpa using I.len⟩ ⟨c,hs,.inr hc⟩
  ·exact(hs.2 b (Ô (Ú (Û e) (I.ok.cab x c hfn hc)))).trans (I.base.keep b o e n hb hx)
  ·obtain⟨sl,e1⟩:=I.base.slot b o e n hb hx;exact⟨sl,(hs.2 b (Ô (Ú (Û e) (I.ok.cab x c hfn hc)))).trans e1⟩
  ·obtain⟨o',e1⟩:=I.base.there b o e hx;exact⟨o',(hs.2 b (Ô (Ú (Û e) (I.ok.cab x c hfn hc)))).trans e1⟩
  ·by_cases hj:j=i
   ·subst hj;rw[hi] at e1;cases e1;rw[ã hiσ] at e2;cases e2;exact⟨u,r,.inr ⟨.inl hk,c,hc,hc'⟩⟩
   ·rw[Ù (À8 hj)] at e2;obtain⟨u',r',q⟩:=hl j y v' e1 e2 e3;refine⟨u',r',?_⟩;rcases q with q | ⟨k,c',e,z'⟩
    ·exact .inl q
    ·refine .inr ⟨k,c',e,z'.sameBut hs ?_⟩;rintro rfl;exact hj (X70 hN e1 (I.ok.inj _ _ _ e hc ▸ hi))
  ·by_cases hcc:c'=c
   ·subst hcc;exact⟨_,hc'⟩
   ·obtain⟨w2,z2⟩:=I.cell y c' e;exact⟨w2,z2.sameBut hs hcc⟩
  ·obtain⟨e,n,ne,nf,d⟩:=I.pin p hp;refine⟨(hs.2 p.1 ?_).trans e,n,ne,nf,d⟩;intro q;rw[q,hoc] at e;have q':oc=p.2:=Â1 e;exact d w' (by rw[← q'];exact hocd)
theorem w20{M:Model}{A:õ}{E:Ä->Æ->Prop}{i:Nat}{x:Str}{v:V}{u:Ä}{Q:Unit->Æ->Prop}(I:Inv X pins σ H s)(hN:X.N.Nodup)(hi:X.N[i]?=some x)(hx:Loc X.env.scope x)(r:RelV v u)
  (h:∀ s',Inv X pins (σ.set i (some v)) H s'->Q () s') (hf:X.fn x=true∨X.env.scope.names.lookup x=some .local:=by first | exact .inl rfl | exact .inr rfl | assumption):Ï M A (storeName X.env x u) Q E s :=
 x30 I hN hi hx r (λs' I' _=>h s' I') hf
theorem Inv.b52{s':Æ}{ch:List Ç}(I:Inv X pins σ H s)(ho:s'.os=s.os)(u:Un (frs X.stack) ch H H' s.heap s'.heap)(hok:HOk X.prog X.w H' s'.heap)(hg:Ó1 s'.gens)
  (hch:∀ b∈ch,(b∈X.ex∨X.s₀.heap.objs.size<=b)/\b≠X.env.locals/\(∀ x c,X.env.cells.lookup x=some c->c≠b)/\∀ p∈X.pn++pins,p.1≠b):Inv X pins σ H' s':=by
 obtain⟨h',g',d',t',o'⟩:=s';have e:o'=s.os:=ho;subst e;exact I.call (g':=g') (t':=t') (d':=d') u hok hg hch
end
abbrev XK:=Ä->Option Ç->Hp->Prop
abbrev St:=List (Option V)
abbrev VK:=V->Hp->Prop
abbrev TE:=St->Hp->VK->Prop
abbrev TT:=St->Hp->(Bool->Hp->Prop)->Prop
abbrev TA:=St->Hp->(List V->Hp->Prop)->Prop
structure Ends where
 nx:St->Hp->Prop
 rt:VK
 bk:St->Hp->Prop:=λ_ _=>False
 ct:St->Hp->Prop:=λ_ _=>False
abbrev TS:=Ends->St->Hp->Prop
def EP(X:Cx)(pins:List (Ç × Obj))(σ:St)(Q:VK)(u:Ä)(s':Æ):Prop:=∃ v H',Inv X pins σ H' s'/\RelV v u/\Q v H'
def TP(X:Cx)(pins:List (Ç × Obj))(σ:St)(Q:Bool->Hp->Prop)(b:Bool)(s':Æ):Prop:=∃ H',Inv X pins σ H' s'/\Q b H'
def AP(X:Cx)(pins:List (Ç × Obj))(σ:St)(Q:List V->Hp->Prop)(us:List Ä)(s':Æ):Prop:=∃ vs H',Inv X pins σ H' s'/\Vals vs us/\Q vs H'
def SP(X:Cx)(pins:List (Ç × Obj))(D:Ends)(f:Flow)(s':Æ):Prop :=
 match f with
 |.next=>∃ σ' H',Inv X pins σ' H' s'/\D.nx σ' H'
 |.brk=>∃ σ' H',Inv X pins σ' H' s'/\D.bk σ' H'|.cont=>∃ σ' H',Inv X pins σ' H' s'/\D.ct σ' H'|.ret u=>∃ v σ' H',Inv X pins σ' H' s'/\RelV v u/\D.rt v H'
def PE(X:Cx)(e:Ò)(t:TE):Prop :=
 ∀ (pins:List (Ç × Obj)) (s:Æ) (σ:St) (H:Hp) (Q:VK),Inv X pins σ H s->t σ H Q->Ï (Õ X.prog X.w) X.A (eval e X.env) (EP X pins σ Q) X.xe s
def PT(X:Cx)(e:Ò)(t:TT):Prop :=
 ∀ (pins:List (Ç × Obj)) (s:Æ) (σ:St) (H:Hp) (Q:Bool->Hp->Prop),Inv X pins σ H s->t σ H Q->Ï (Õ X.prog X.w) X.A (isTrue e X.env (eval e X.env)) (TP X pins σ Q) X.xe s
def PW(X:Cx)(e:Ò)(t:TT):Prop :=
 ∀ (whole:Sem Ä) (pins:List (Ç × Obj)) (s:Æ) (σ:St) (H:Hp) (Q:Bool->Hp->Prop),Inv X pins σ H s->t σ H Q->Ï (Õ X.prog X.w) X.A (isTrue e X.env whole) (TP X pins σ Q) X.xe s
theorem PW.pt{X:Cx}{e:Ò}{t:TT}(h:PW X e t):PT X e t:=h _
def PA(X:Cx)(es:List Ò)(t:TA):Prop :=
 ∀ (pos:Pos) (pins:List (Ç × Obj)) (s:Æ) (σ:St) (H:Hp) (Q:List V->Hp->Prop),Inv X pins σ H s->t σ H Q->Ï (Õ X.prog X.w) X.A (spliced (Õ4 pos (ü es X.env))) (AP X pins σ Q) X.xe s
def PS(X:Cx)(st:Ã8)(t:TS):Prop :=
 ∀ (pins:List (Ç × Obj)) (s:Æ) (σ:St) (H:Hp) (D:Ends),Inv X pins σ H s->t D σ H->Ï (Õ X.prog X.w) X.A (exec st X.env) (SP X pins D) X.xe s
def PSs(X:Cx)(st:List Ã8)(t:TS):Prop :=
 ∀ (pins:List (Ç × Obj)) (s:Æ) (σ:St) (H:Hp) (D:Ends),Inv X pins σ H s->t D σ H->Ï (Õ X.prog X.w) X.A (execs st X.env) (SP X pins D) X.xe s
theorem thn{α:Type}{t:Sem α}{Q Q':α->Æ->Prop}{M:Model}{A:õ}{E:Ä->Æ->Prop}{s:Æ}(h:Ï M A t Q E s)(hQ:∀ a s,Q a s->Q' a s):Ï M A t Q' E s:=Â7 h hQ λ_ _ x=>x
section
variable {X:Cx}
def J91(i:Nat):TE:=λσ H Q=>∃ v,σ[i]?=some (some v)/\Q v H
def tC(v:V):TE:=λ_ H Q=>Q v H
theorem k20{i:Nat}{x:Str}{pos:Pos}(hN:X.N[i]?=some x)(hv:Vis X.env.scope x)(hd:(x == ("__debug__":Str))=false:=by decide)(hcd:(x == ("__classdict__":Str))=false:=by decide):PE X (.Name x pos) (J91 i):=by
 intro pins s σ H Q I h;obtain⟨v,e,h⟩:=h;obtain⟨m,hn,hl⟩:=I.loc;obtain⟨u,r,l⟩:=hl i x v hN e hv;have fin:EP X pins σ Q u s:=⟨v,H,I,r,h⟩;rcases l with ⟨hk,hm⟩ | ⟨hk,c,hc,hcell⟩
 ·exact Ñ1 (Ø3 I.ok.kind hk hn hm fin) hd
 ·rcases hk with hk | hk
  ·exact Ñ1 (wpAny_loadName_cell I.ok.kind hk hc hcell fin) hd
  ·exact Ñ1 (wpAny_loadName_free I.ok.kind hk hc hcell fin hcd) hd
theorem L10{i j pos}:PE X (.Constant (.int i) j pos) (tC (.int i)):=λ_ _ _ H _ I h=>wpAny_Constant_int ⟨.int i,H,I.tok _,⟨_,rfl⟩,h⟩
theorem q12{b j pos}:PE X (.Constant (.bool b) j pos) (tC (.bl b)):=λ_ _ _ H _ I h=>Constant_bool ⟨.bl b,H,I,rfl,h⟩
theorem j51{j pos}:PE X (.Constant .none j pos) (tC .non):=λ_ _ _ H _ I h=>Constant_none ⟨.non,H,I,rfl,h⟩
theorem K01{x j pos}:PE X (.Constant (.str x) j pos) (tC (.str x)):=λ_ _ _ H _ I h=>Calls.Constant_str ⟨.str x,H,I.tok _,⟨_,rfl⟩,h⟩
def Gl(X:Cx)(x:Str):Prop:=X.env.kindOf x=some .globalImplicit
theorem E40{E:Ä->Æ->Prop}{pins:List (Ç × Obj)}{s:Æ}{σ:St}{H:Hp}{x:Str}{u:Ä}{pos:Pos}{Q:Ä->Æ->Prop}(I:Inv X pins σ H s)(hg:Gl X x)(hm:X.mg x=some u)(h:Q u s)
  (hd:(x == ("__debug__":Str))=false:=by decide):Ï (Õ X.prog X.w) X.A (eval (.Name x pos) X.env) Q E s :=
 Î4 I.ok.kind hg (Þ2 (by rw[I.ok.glob];exact I.mod.glob.keeps I.bk) hm h) hd
theorem q20{E:Ä->Æ->Prop}{pins:List (Ç × Obj)}{s:Æ}{σ:St}{H:Hp}{x:Str}{u:Ä}{pos:Pos}{Q:Ä->Æ->Prop}(I:Inv X pins σ H s)(hg:Gl X x)(hm:X.mg x=none)(hv:í x=some u)(h:Q u s)
  (hn:x≠"__name__":=by decide) (hd:(x == ("__debug__":Str))=false:=by decide):Ï (Õ X.prog X.w) X.A (eval (.Name x pos) X.env) Q E s:=by
 obtain⟨mb,h1,h2⟩:=I.mod.blt;exact Î4 I.ok.kind hg (Calls.loadGlobal_builtin (by rw[I.ok.glob];exact I.mod.glob.keeps I.bk) hm (by rw[I.ok.blt];exact h1.keeps I.bk) ((h2 x hn).trans hv) h) hd
theorem f10{x:Str}{v:V}{u:Ä}{pos:Pos}(hg:Gl X x)(hm:X.mg x=some u)(r:RelV v u)(hd:(x == ("__debug__":Str))=false:=by decide):PE X (.Name x pos) (tC v) :=
 λ_ _ _ H _ I h=>E40 I hg hm ⟨v,H,I,r,h⟩ hd
theorem E50{x:Str}{v:V}{u:Ä}{pos:Pos}(hg:Gl X x)(hm:X.mg x=none)(hv:í x=some u)(r:RelV v u)(hn:x≠"__name__":=by decide)(hd:(x == ("__debug__":Str))=false:=by decide):PE X (.Name x pos) (tC v) :=
 λ_ _ _ H _ I h=>q20 I hg hm hv ⟨v,H,I,r,h⟩ hn hd
variable {a b:Ò}{ta tb:TE}{pos:Pos}
def tB(t:TE):TT:=λσ H Q=>t σ H λx H1=>∃ c,x=.bl c/\Q c H1
theorem j61{e:Ò}{t:TE}(h:PE X e t)(he:∀ whole,isTrue e X.env whole=(do let v ← whole;standAt e.pos;Ø8 [v] (truthy v)):=by intro _;rfl):PT X e (tB t):=by
 intro pins s σ H Q I hw;refine isTrue_plain (thn (h pins s σ H _ I hw) λv s1 ⟨x,H1,I1,r1,q1⟩=>?_) (he _);obtain⟨d,rfl,q⟩:=q1;cases r1;exact Ã2 ⟨H1,I1,q⟩
variable {tA tB':TT}{rest:List Ò}
def E12(t u:TT):TT:=λσ H Q=>t σ H λc H1=>if c=true then u σ H1 Q else Q false H1
def tOr(t u:TT):TT:=λσ H Q=>t σ H λc H1=>if c=true then Q true H1 else u σ H1 Q
def E22(t:TT):TT:=λσ H Q=>t σ H λc H1=>Q (!c) H1
theorem O71(ha:PT X a tA):PW X (.BoolOp .And [a] pos) tA:=by
 intro wh pins s σ H Q I h;refine isTrue_and (thn (ha pins s σ H Q I h) λc s1 e=>?_);cases c with
 |true=>exact isTrue_and_nil e|false=>exact e
theorem b62(ha:PT X a tA):PW X (.BoolOp .Or [a] pos) tA:=by
 intro wh pins s σ H Q I h;refine isTrue_or (thn (ha pins s σ H Q I h) λc s1 e=>?_);cases c with
 |false=>exact isTrue_or_nil e|true=>exact e
theorem b72(ha:PT X a tA)(hb:PW X (.BoolOp .And (b::rest) pos) tB'):PW X (.BoolOp .And (a::b::rest) pos) (E12 tA tB'):=by
 intro wh pins s σ H Q I h;refine isTrue_and (thn (ha pins s σ H _ I h) λc s1 ⟨H1,I1,q1⟩=>?_);cases c with
 |true=>exact hb wh pins s1 σ H1 Q I1 q1|false=>exact⟨H1,I1,q1⟩
theorem q22(ha:PT X a tA)(hb:PW X (.BoolOp .Or (b::rest) pos) tB'):PW X (.BoolOp .Or (a::b::rest) pos) (tOr tA tB'):=by
 intro wh pins s σ H Q I h;refine isTrue_or (thn (ha pins s σ H _ I h) λc s1 ⟨H1,I1,q1⟩=>?_);cases c with
 |true=>exact⟨H1,I1,q1⟩|false=>exact hb wh pins s1 σ H1 Q I1 q1
theorem K11(ha:PT X a tA):PT X (.UnaryOp .Not a pos) (E22 tA):=by
 intro pins s σ H Q I h;exact isTrue_not (ha pins s σ H (λc H1=>Q (!c) H1) I h)
def q32(ta tb:TE):TE:=λσ H Q=>ta σ H λx H1=>∃ c,x=.bl c/\if c=true then tb σ H1 Q else Q (.bl false) H1
def E32(ta tb:TE):TE:=λσ H Q=>ta σ H λx H1=>∃ c,x=.bl c/\if c=true then Q (.bl true) H1 else tb σ H1 Q
def q42(ta:TE):TE:=λσ H Q=>ta σ H λx H1=>∃ c,x=.bl c/\Q (.bl (!c)) H1
theorem b82{op}{t:TE}(h:PE X a t):PE X (.BoolOp op [a] pos) t:=λpins s σ H Q I hw=>BoolOp_one (h pins s σ H Q I hw)
theorem b92(ha:PE X a ta)(hb:PE X (.BoolOp .And (b::rest) pos) tb):PE X (.BoolOp .And (a::b::rest) pos) (q32 ta tb):=by
 intro pins s σ H Q I h;refine BoolOp_and (thn (ha pins s σ H _ I h) λv s1 ⟨x,H1,I1,r1,q1⟩=>?_);obtain⟨c,rfl,q1⟩:=q1;cases r1;refine Ã2 ?_;cases c with
 |true=>exact hb pins s1 σ H1 Q I1 q1|false=>exact⟨.bl false,H1,I1,rfl,q1⟩
theorem q52(ha:PE X a ta)(hb:PE X (.BoolOp .Or (b::rest) pos) tb):PE X (.BoolOp .Or (a::b::rest) pos) (E32 ta tb):=by
 intro pins s σ H Q I h;refine BoolOp_or (thn (ha pins s σ H _ I h) λv s1 ⟨x,H1,I1,r1,q1⟩=>?_);obtain⟨c,rfl,q1⟩:=q1;cases r1;refine Ã2 ?_;cases c with
 |false=>exact hb pins s1 σ H1 Q I1 q1|true=>exact⟨.bl true,H1,I1,rfl,q1⟩
theorem c02(ha:PE X a ta):PE X (.UnaryOp .Not a pos) (q42 ta):=by
 intro pins s σ H Q I h;refine UnaryOp_ (thn (ha pins s σ H _ I h) λv s1 ⟨x,H1,I1,r1,q1⟩=>?_);obtain⟨c,rfl,q1⟩:=q1;cases r1;exact not_of (Ã2 ⟨.bl (!c),H1,I1,rfl,q1⟩)
def tIf(t:TT)(ta tb:TE):TE:=λσ H Q=>t σ H λc H1=>if c=true then ta σ H1 Q else tb σ H1 Q
theorem B01{c:Ò}(hc:PT X c tA)(ha:PE X a ta)(hb:PE X b tb):PE X (.IfExp c a b pos) (tIf tA ta tb):=by
 intro pins s σ H Q I h;refine wpAny_IfExp (thn (hc pins s σ H _ I h) λd s1 ⟨H1,I1,q1⟩=>?_);cases d with
 |true=>exact ha pins s1 σ H1 Q I1 q1|false=>exact hb pins s1 σ H1 Q I1 q1
end
def SqL(K:Ã)(H:Hp)(a:Ç)(xs:List V):Prop :=
 Rd H a (.lst xs) ∨
  ∃ (o:Obj) (its:Array Ä) (n:Nat),K.lookup a=some o/\o.cls=.type "list"/\o.dict=none/\o.data=.seq its n/\its.size<=sizeLine/\Vals xs its.toList
def SqT(K:Ã)(H:Hp)(a:Ç)(xs:List V):Prop :=
 Rd H a (.tup xs) ∨
  ∃ (o:Obj) (its:Array Ä) (n:Nat),K.lookup a=some o/\o.cls=.type "tuple"/\o.data=.seq its n/\its.size<=sizeLine/\Vals xs its.toList
def E42:Ä->Option V
 |.none=>some .non|.bool b=>some (.bl b)|.int i _=>some (.int i)|.str x _=>some (.str x)|.bytes b _=>some (.byt b)|.float b _=>some (.flt b)|.ref a=>some (.ref a)|.type n=>some (.ty n)|_=>none
theorem RelV.abs{x:V}{u:Ä}(r:RelV x u):E42 u=some x:=by
 cases x with
 |non=>cases r;rfl
 |bl _=>cases r;rfl
 |int _=>obtain⟨t,rfl⟩:=r;rfl
 |str _=>obtain⟨t,rfl⟩:=r;rfl
 |byt _=>obtain⟨t,rfl⟩:=r;rfl
 |flt _=>obtain⟨t,rfl⟩:=r;rfl
 |ref _=>cases r;rfl
 |ty _=>cases r;rfl
theorem RelV.inj{x y:V}{u:Ä}(r:RelV x u)(q:RelV y u):x=y:=Â1 (r.abs.symm.trans q.abs)
theorem Vals.inj:∀ {xs ys:List V}{us:List Ä},Vals xs us->Vals ys us->xs=ys
 |_,_,_,.nil,.nil=>rfl|_,_,_,.cons r t,.cons r' t'=>by rw[r.inj r',Vals.inj t t']
section
variable {X:Cx}{pins:List (Ç × Obj)}{σ:St}{H:Hp}{s:Æ}{a:Ç}{xs ys:List V}
theorem SqL.of{K:Ã}(h:H a=some (.lst xs)):SqL K H a xs:=.inl (.inl h)
theorem SqT.of{K:Ã}(h:H a=some (.tup xs)):SqT K H a xs:=.inl (.inl h)
theorem Inv.list(I:Inv X pins σ H s)(h:SqL X.K H a xs):∃ its:List Ä,Vals xs its/\PlainL s.heap a its.toArray/\xs.length<=sizeLine:=by
 rcases h with h | ⟨o,its,n,hk,hc,hd,hs,hz,r⟩
 ·obtain⟨z,its,n,r,e⟩:=h.ok I.hok;exact⟨its,r,⟨_,n,e,rfl,rfl,rfl⟩,z⟩
 ·refine⟨its.toList,r,⟨o,n,I.kIn a o hk,hc,hd,by simpa using hs⟩,?_⟩
  have e:=r.length;simp only[É8] at e;omega
theorem Inv.tuple(I:Inv X pins σ H s)(h:SqT X.K H a xs):∃ its:List Ä,Vals xs its/\Ñ8 s.heap a its.toArray/\xs.length<=sizeLine:=by
 rcases h with h | ⟨o,its,n,hk,hc,hs,hz,r⟩
 ·obtain⟨z,its,r,p⟩:=h.ok I.hok;exact⟨its,r,p,z⟩
 ·refine⟨its.toList,r,⟨o,I.kIn a o hk,hc,n,by simpa using hs⟩,?_⟩
  have e:=r.length;simp only[É8] at e;omega
theorem Inv.X80(I:Inv X pins σ H s)(h:SqL X.K H a xs)(h':SqL X.K H a ys):xs=ys:=by
 obtain⟨its,r,⟨o,n,e,_,_,d⟩,_⟩:=I.list h;obtain⟨its',r',⟨o',n',e',_,_,d'⟩,_⟩:=I.list h';rw[e] at e';cases e';rw[d] at d';injection d' with d1 _;have:its=its':=by simpa using congrArg toList d1
 subst this;exact r.inj r'
theorem Inv.L20(I:Inv X pins σ H s)(h:SqT X.K H a xs)(h':SqT X.K H a ys):xs=ys:=by
 obtain⟨its,r,⟨o,e,_,n,d⟩,_⟩:=I.tuple h;obtain⟨its',r',⟨o',e',_,n',d'⟩,_⟩:=I.tuple h';rw[e] at e';cases e';rw[d] at d';injection d' with d1 _;have:its=its':=by simpa using congrArg toList d1
 subst this;exact r.inj r'
end
abbrev Cx.A31(X:Cx)(E:Ä->Æ->Prop):Cx:={ X with xe:=E }
abbrev Cx.nox(X:Cx):Cx:=X.A31 λ_ _=>False
theorem Cx.Ok.A31{X:Cx}(ok:X.Ok)(E:Ä->Æ->Prop):(X.A31 E).Ok :=
 ⟨ok.mod,ok.kind,ok.glob,ok.blt,ok.above,ok.inj,ok.has,ok.cab,ok.hd,ok.frames,ok.stk,ok.exf,ok.bs,ok.bsz,ok.noex,ok.exfs,ok.e21,ok.frf⟩
theorem Cx.Ok.u50{X:Cx}{E:Ä->Æ->Prop}(ok:(X.A31 E).Ok):X.Ok :=
 ⟨ok.mod,ok.kind,ok.glob,ok.blt,ok.above,ok.inj,ok.has,ok.cab,ok.hd,ok.frames,ok.stk,ok.exf,ok.bs,ok.bsz,ok.noex,ok.exfs,ok.e21,ok.frf⟩
section
variable {X:Cx}{pins:List (Ç × Obj)}{σ:St}{H:Hp}{s:Æ}{E:Ä->Æ->Prop}
theorem Inv.A31(I:Inv X pins σ H s)(E:Ä->Æ->Prop):Inv (X.A31 E) pins σ H s:=⟨I.ok.A31 E,I.os,I.bare,I.base,I.loc,I.cell,I.free,I.freeC,I.pin,I.hok,I.len⟩
theorem Inv.u50(I:Inv (X.A31 E) pins σ H s):Inv X pins σ H s:=⟨I.ok.u50,I.os,I.bare,I.base,I.loc,I.cell,I.free,I.freeC,I.pin,I.hok,I.len⟩
theorem SP.u50{D:Ends}{f:Flow}{s':Æ}(h:SP (X.A31 E) pins D f s'):SP X pins D f s':=by
 cases f with
 |next=>obtain⟨σ',H',I,q⟩:=h;exact⟨σ',H',I.u50,q⟩
 |brk=>obtain⟨σ',H',I,q⟩:=h;exact⟨σ',H',I.u50,q⟩
 |cont=>obtain⟨σ',H',I,q⟩:=h;exact⟨σ',H',I.u50,q⟩
 |ret u=>obtain⟨v,σ',H',I,r,q⟩:=h;exact⟨v,σ',H',I.u50,r,q⟩
theorem PSs.nox{st:List Ã8}{t:TS}(h:PSs X.nox st t):PSs X st t:=λpins s σ H D I hw =>
 Â7 (h pins s σ H D (I.A31 _) hw) (λ_ _ q=>q.u50) λ_ _ z=>À3 z
end
section
variable {X:Cx}{st:Ã8}{rest:List Ã8}{t u:TS}{e:Ò}{te:TE}{pos:Pos}
def q62:TS:=λD σ H=>D.nx σ H
def E52(t u:TS):TS:=λD σ H=>t { D with nx:=u D } σ H
theorem j71:PSs X [] q62:=λ_ _ σ H _ I h=>Õ7 ⟨σ,H,I,h⟩
theorem f90(h1:PS X st t)(h2:PSs X rest u):PSs X (st::rest) (E52 t u):=by
 intro pins s σ H D I h;refine Ô4 (thn (h1 pins s σ H { D with nx:=u D } I h) λf s1 q=>?_);cases f with
 |next =>
  obtain⟨σ',H',I',q⟩:=q;exact h2 pins s1 σ' H' D I' q
 |ret v=>exact q|brk=>exact q|cont=>exact q
theorem E60(h1:PS X st t):PSs X [st] t:=by
 intro pins s σ H D I h;refine Ô4 (thn (h1 pins s σ H D I h) λf s1 q=>?_);cases f with
 |next=>exact Õ7 q
 |ret v=>exact q|brk=>exact q|cont=>exact q
theorem Inv.quiet{pins:List (Ç × Obj)}{σ:St}{H:Hp}{s:Æ}(I:Inv X pins σ H s):interactive X.env=false:=by simp[interactive,I.ok.kind]
def q72(te:TE):TS:=λD σ H=>te σ H λ_ H1=>D.nx σ H1
theorem S70(he:PE X e te)(hs:Ô5 e none pos.line X.env=pure false:=by rfl):PS X (.Expr e pos) (q72 te):=by
 intro pins s σ H D I h;exact wpAny_Expr_any (thn (he pins s σ H _ I h) λv s1 ⟨x,H1,I1,r1,q1⟩=>⟨σ,H1,I1,q1⟩) I.quiet hs
def E62(te:TE):TS:=λD σ H=>te σ H D.rt
theorem L30(he:PE X e te):PS X (.Return (some e) pos) (E62 te):=by
 intro pins s σ H D I h;exact wpAny_Return_some (thn (he pins s σ H _ I h) λv s1 ⟨x,H1,I1,r1,q1⟩=>⟨x,σ,H1,I1,r1,q1⟩)
def q82:TS:=λD _ H=>D.rt .non H
theorem O81:PS X (.Return none pos) q82:=λ_ _ σ H _ I h=>wpAny_Return_none ⟨.non,σ,H,I,rfl,h⟩
def E72(c:TT)(t u:TS):TS:=λD σ H=>c σ H λb H1=>if b=true then t D σ H1 else u D σ H1
theorem c12{c:Ò}{a b:List Ã8}{tc:TT}(hc:PT X c tc)(ha:PSs X a t)(hb:PSs X b u):PS X (.If c a b pos) (E72 tc t u):=by
 intro pins s σ H D I h;refine wpAny_If (thn (hc pins s σ H _ I h) λd s1 ⟨H1,I1,q1⟩=>?_);cases d with
 |true=>exact ha pins s1 σ H1 D I1 q1|false=>exact hb pins s1 σ H1 D I1 q1
end
abbrev TG:=V->St->Hp->(St->Hp->Prop)->Prop
abbrev TGs:=List V->St->Hp->(St->Hp->Prop)->Prop
def PG(X:Cx)(target:Ò)(t:TG):Prop :=
 ∀ (pins:List (Ç × Obj)) (s:Æ) (σ:St) (H:Hp) (v:V) (u:Ä) (Q:St->Hp->Prop),Inv X pins σ H s->RelV v u->t v σ H Q ->
  Ï (Õ X.prog X.w) X.A (Ø6 target X.env u) (λ_ s'=>∃ σ' H',Inv X pins σ' H' s'/\Q σ' H') X.xe s
def PGs(X:Cx)(ts:List Ò)(t:TGs):Prop :=
 ∀ (pins:List (Ç × Obj)) (s:Æ) (σ:St) (H:Hp) (vs:List V) (us:List Ä) (Q:St->Hp->Prop),Inv X pins σ H s->Vals vs us->t vs σ H Q ->
  Ï (Õ X.prog X.w) X.A (assignInOrder ((É2 ts X.env).map (·.2)) us) (λ_ s'=>∃ σ' H',Inv X pins σ' H' s'/\Q σ' H') X.xe s
abbrev p12:=V->V->V->Hp->(Hp->Prop)->Prop
def A62(X:Cx)(t:p12):Prop :=
 ∀ (pins:List (Ç × Obj)) (s:Æ) (σ:St) (H:Hp) (o i v:V) (ov iv u:Ä) (Q:Hp->Prop),Inv X pins σ H s->RelV o ov->RelV i iv->RelV v u->t o i v H Q ->
  Ï (Õ X.prog X.w) X.A (setItem ov iv u) (λ_ s'=>∃ H',Inv X pins σ H' s'/\Q H') X.xe s
abbrev TIp:=V->V->Hp->VK->Prop
def PIp(X:Cx)(op:Operator)(t:TIp):Prop :=
 ∀ (pins:List (Ç × Obj)) (s:Æ) (σ:St) (H:Hp) (x y:V) (v u:Ä) (Q:VK),Inv X pins σ H s->RelV x v->RelV y u->t x y H Q ->
  Ï (Õ X.prog X.w) X.A (inplaceOp op v u) (EP X pins σ Q) X.xe s
section
variable {X:Cx}{pos:Pos}
def E70(i:Nat):TG:=λv σ H Q=>Q (σ.set i (some v)) H
theorem S80{i:Nat}{x:Str}(hN:X.N.Nodup)(hi:X.N[i]?=some x)(hx:Loc X.env.scope x)(hf:X.fn x=true∨X.env.scope.names.lookup x=some .local:=by first | exact .inl rfl | exact .inr rfl | assumption):PG X (.Name x pos) (E70 i):=by
 intro pins s σ H v u Q I r h;exact wpAny_assign_Name (w20 I hN hi hx r (λs' I'=>⟨_,H,I',h⟩) hf)
def A72:TGs:=λvs σ H Q=>vs=[]/\Q σ H
def c22(t:TG)(u:TGs):TGs:=λvs σ H Q=>∃ v r,vs=v::r/\t v σ H λσ' H'=>u r σ' H' Q
theorem O91:PGs X [] A72:=by
 intro pins s σ H vs us Q I r h;obtain⟨e,h⟩:=h;subst e;cases r;exact assignInOrder_nil ⟨σ,H,I,h⟩
theorem B11{e:Ò}{es:List Ò}{t:TG}{u:TGs}(h1:PG X e t)(h2:PGs X es u)
  (hs:(É2 (e::es) X.env).map (·.2)=Ø6 e X.env::(É2 es X.env).map (·.2):=by rfl):PGs X (e::es) (c22 t u):=by
 intro pins s σ H vs us Q I r h;obtain⟨v,vr,e1,h⟩:=h;subst e1;cases r with
 |cons r rr =>
  rw[hs];refine Ú8 (thn (h1 pins s σ H _ _ _ I r h) λ_ s1 ⟨σ1,H1,I1,q1⟩=>?_);exact h2 pins s1 σ1 H1 _ _ Q I1 rr q1
def A82(K:Ã)(n:Nat)(t:TGs):TG:=λv σ H Q=>∃ a xs,v=.ref a/\SqT K H a xs/\xs.length=n/\t xs σ H Q
theorem c32{es:List Ò}{k:Nat}{t:TGs}{n:Nat}(hc:X.calm=true)(h:PGs X es t)
  (hn:(É2 es X.env).length=n:=by rfl) (hst:(É2 es X.env).findIdx? (·.1)=none:=by rfl):PG X (.Tuple es k pos) (A82 X.K n t):=by
 intro pins s σ H v u Q I r hw;obtain⟨a,xs,e1,hq,hl,hw⟩:=hw;subst e1;cases r;obtain⟨its,rv,ht,hz⟩:=I.tuple hq;refine assign_Tuple_tuple (I.ok.hd hc) ht (by simp[hn,← hl,rv.length]) hst λh' hx=>?_
 have I1:Inv X pins σ H { s with heap:=h' }:=I.kept (t':=s.toks) λb o e=>hx b o (Ô (Û e)) e;exact h pins _ σ H xs _ Q I1 (by simpa using rv) hw
def E82(to ti:TE)(t:p12):TG:=λv σ H Q=>to σ H λo H1=>ti σ H1 λi H2=>t o i v H2 λH3=>Q σ H3
theorem c42{o i:Ò}{to ti:TE}{t:p12}(ho:PE X o to)(hi:PE X i ti)(hs:A62 X t)
  (ha:∀ v,Ø6 (.Subscript o i pos) X.env v=(do
   let ov ← Ø8 [v] (eval o X.env)
   let iv ← Ø8 [v,ov] (eval i X.env)
   standAt pos
   Ø8 [v,ov,iv] (setItem ov iv v)
   release [v,ov,iv] []):=by intro _;rfl):PG X (.Subscript o i pos) (E82 to ti t):=by
 intro pins s σ H v u Q I r h;rw[ha];refine À (ï (thn (ho pins s σ H _ I h) λov s1 ⟨x,H1,I1,r1,q1⟩=>?_));refine À (ï (thn (hi pins s1 σ H1 _ I1 q1) λiv s2 ⟨y,H2,I2,r2,q2⟩=>?_));refine À (Ú0 (À (ï (thn (hs pins s2 σ H2 x y v ov iv u _ I2 r1 r2 r q2) λ_ s3 ⟨H3,I3,q3⟩=>?_))));exact wpAny_release ⟨σ,H3,I3,q3⟩
def c52(te:TE)(g:TG):TS:=λD σ H=>te σ H λx H1=>g x σ H1 D.nx
theorem K21{tg e:Ò}{te:TE}{g:TG}(he:PE X e te)(hg:PG X tg g)(hs:swapsWithSole [tg] e pos.line X.env=pure false:=by rfl)(hw:Ä9 [tg] e X.env=pure none:=by rfl)
  (h1:(É2 [tg] X.env).map (·.2)=[Ø6 tg X.env]:=by rfl):PS X (.Assign [tg] e pos) (c52 te g):=by
 intro pins s σ H D I h;refine wpAny_Assign_stores (thn (he pins s σ H _ I h) λv s1 ⟨x,H1,I1,r1,q1⟩=>?_) hs hw;rw[h1];exact thn (hg pins s1 σ H1 x v _ I1 r1 q1) λ_ s2 q=>q
theorem q30{i:Nat}{x:Str}{e:Ò}{te:TE}{pos':Pos}(hN:X.N.Nodup)(hi:X.N[i]?=some x)(hx:Loc X.env.scope x)(he:PE X e te)(hs:Ô5 e (some (.Name x pos')) pos.line X.env=pure false:=by rfl)(hf:X.fn x=true∨X.env.scope.names.lookup x=some .local:=by first | exact .inl rfl | exact .inr rfl | assumption) :
  PS X (.Assign [.Name x pos'] e pos) (c52 te (E70 i)):=by
 intro pins s σ H D I h;refine wpAny_Assign_Name (thn (he pins s σ H _ I h) λv s1 ⟨y,H1,I1,r1,q1⟩=>?_) hs;exact w20 I1 hN hi hx r1 (λs2 I2=>⟨_,H1,I2,q1⟩) hf
def E92(i j:Nat)(ta:TA):TS:=λD σ H=>ta σ H λvs H1=>∃ v w,vs=[v,w]/\D.nx ((σ.set i (some v)).set j (some w)) H1
theorem c62{i j:Nat}{x y:Str}{a b:Ò}{ta:TA}{px py pt:Pos}{kt k2 pt2}(hc:X.calm=true)(hN:X.N.Nodup)(hi:X.N[i]?=some x)(hj:X.N[j]?=some y)(hij:i≠j)
  (hx:X.env.scope.names.lookup x=some .local) (hy:X.env.scope.names.lookup y=some .local) (ha:PA X [a,b] ta)
  (hw:Ä9 [.Tuple [.Name x px,.Name y py] kt pt] (.Tuple [a,b] k2 pt2) X.env=pure (some [x,y]))
  (hs:swapsWithSole [.Tuple [.Name x px,.Name y py] kt pt] (.Tuple [a,b] k2 pt2) pos.line X.env=pure false:=by rfl) :
  PS X (.Assign [.Tuple [.Name x px,.Name y py] kt pt] (.Tuple [a,b] k2 pt2) pos) (E92 i j ta):=by
 intro pins s σ H D I h;rw[exec_Assign_arm];refine À (Ú0 ?_);rw[hs];refine À (Å ?_);rw[if_neg (-0)]
 refine À (Tuple_ (thn (ha _ pins s σ H _ I h) λus s1 ⟨vs,H1,I1,r1,q1⟩=>?_));obtain⟨v,w,e1,q1⟩:=q1;subst e1;obtain⟨u1,u2,rfl,rv,rw'⟩:∃ u1 u2,us=[u1,u2]/\RelV v u1/\RelV w u2:=by
  cases r1 with
  |cons p q =>
   cases q with
   |cons p' q' =>
    cases q';exact⟨_,_,rfl,p,p'⟩
 refine ê ?_ (by show 2<=sizeLine;decide)
 have I2:Inv X pins σ H1 { s1 with heap:=s1.heap.push { cls:=.type "tuple",data:=.seq [u1,u2].toArray } }:=I1.kept (t':=s1.toks) λb o e=>Â _ e;rw[hw];refine À (Å ?_);show Ï (Õ X.prog X.w) X.A (do rule "assign.swapped-stores";let items ← unpackItems (.ref s1.heap.objs.size) 2 none;assignInOrder [λv=>bindName X.env y v,λv=>bindName X.env x v] items.reverse;pure Flow.next) _ _ _;refine À (Ë4 (À (unpackItems_tuple (items:=#[u1,u2]) (I.ok.hd hc) (Ñ8.new s1.heap _) λh' hx'=>?_)));have I3:=I2.kept (h':=h') (t':=s1.toks) λb o e=>hx' b o (Ô (Û e)) e;show Ï _ _ (assignInOrder [λv=>bindName X.env y v,λv=>bindName X.env x v] [u2,u1] >>= λ_=>pure Flow.next) _ _ _;refine À (Ú8 (wpAny_bindName (w20 I3 hN hj (.inl hy) rw' (λs2 I4=>?_) (.inr hy))));refine Ú8 (wpAny_bindName (w20 I4 hN hi (.inl hx) rv (λs3 I5=>assignInOrder_nil (Å ?_)) (.inr hx)));rw[List.set_comm _ _ (À8 hij)] at I5;exact⟨_,H1,I5,q1⟩
def L22(i:Nat)(te:TE)(ti:TIp):TS:=λD σ H=>∃ x,σ[i]?=some (some x)/\te σ H λy H1=>ti x y H1 λz H2=>D.nx (σ.set i (some z)) H2
def F02(to ti te:TE)(tget:V->V->Hp->VK->Prop)(tip:TIp)(tset:p12):TS:=λD σ H=>to σ H λo H1=>ti σ H1 λi H2=>tget o i H2 λx H3=>te σ H3 λy H4=>tip x y H4 λz H5=>tset o i z H5 λH6=>D.nx σ H6
def L32(X:Cx)(t:V->V->Hp->VK->Prop):Prop :=
 ∀ (pins:List (Ç × Obj)) (s:Æ) (σ:St) (H:Hp) (o i:V) (ov iv:Ä) (Q:VK),Inv X pins σ H s->RelV o ov->RelV i iv->t o i H Q ->
  Ï (Õ X.prog X.w) X.A (Ò8 ov iv) (EP X pins σ Q) X.xe s
def ipI(f:Int->Int->Int):TIp:=λx y H Q=>∃ i j,x=.int i/\y=.int j/\Q (.int (f i j)) H
def A92(c:TT)(tb:TS):TS:=λD σ H=>∃ W:Nat->St->Hp->Prop,(∃ m,W m σ H)/\∀ m σ H,W m σ H ->
 c σ H λb H1=>if b=true then ∃ N:St->Hp->Prop,(∀ σ' H',N σ' H'->∃ m',m' < m/\W m' σ' H')/\tb { D with nx:=N,ct:=N,bk:=D.nx } σ H1 else D.nx σ H1
end
structure It where
 go:Nat->Hp->Prop
 yld:Nat->Hp->V->Hp->Prop
 stop:Nat->Hp->Prop
def X90(X:Cx)(pins:List (Ç × Obj))(H:Hp)(b:Ç):Prop :=
 H b=none/\b≠X.env.locals/\b ∉ X.fs/\(b∈X.ex∨X.s₀.heap.objs.size<=b)/\(∀ x c,X.env.cells.lookup x=some c->c≠b)/\∀ p∈X.pn++pins,p.1≠b
theorem Inv.e31{X:Cx}{pins:List (Ç × Obj)}{σ:St}{H H':Hp}{s:Æ}{b:Ç}(I:Inv X pins σ H s)(hb:s.heap.objs.size<=b)(hn:H' b=none):X90 X pins H' b:=by
 refine⟨hn,Ç4 (Ú I.lt hb),I.E02 hb,.inr (â I.sz hb),λx c e z=>?_,λp hp z=>?_⟩
 ·obtain⟨v,q⟩:=I.cell x c e;exact absurd (Ú q.lt (by rw[z];exact hb)) (Á8 _)
 ·exact absurd (Ú (Û (I.pin p hp).1) (by rw[z];exact hb)) (Á8 _)
structure Turn(P:Program)(w:World)(K:PySem.W.Frag)(tg:Expr)(J:It)(fp:List Addr)(it:Addr)(tn:Nat->Heap->Prop):Prop where
 mem:it∈fp
 obj:∀ i h,tn i h->∀ b∈fp,∃ o,h.get? b=some o/\∀ v,o.data≠.cell v
 keep:∀ i h h',tn i h->(∀ b∈fp,∀ o,h.get? b=some o->h'.get? b=some o)->tn i h'
 item:∀ (X:Cx),X.prog=P->X.w=w->X.K=K->X.calm=true->∀ (i:Nat) (pins:List (Addr × Obj)) (s:Shared) (σ:St) (H:Hp) (E:Value->Shared->Prop),Inv X pins σ H s->(∀ b∈fp,X90 X pins H b)->tn i s.heap->J.go i H ->
  wpAny (model P w) X.A (pyNext (.ref it)) (λr s1=>∃ u,r=some u /\
   wpAny (model P w) X.A (letOwnedTupleGo tg (.ref it) u) (λ_ s2=>∃ x H',Inv X pins σ H' s2/\RelV x u/\J.yld i H x H'/\tn (i + 1) s2.heap/\∀ b∈fp,H' b=none) E s1) E s
 done:∀ (X:Cx),X.prog=P->X.w=w->X.K=K->X.calm=true->∀ (i:Nat) (pins:List (Addr × Obj)) (s:Shared) (σ:St) (H:Hp) (E:Value->Shared->Prop),Inv X pins σ H s->(∀ b∈fp,X90 X pins H b)->tn i s.heap->J.stop i H ->
  wpAny (model P w) X.A (pyNext (.ref it)) (λr s1=>r=none/\Inv X pins σ H s1) E s
 self:∀ (A:Around) (i:Nat) (s:Shared) (Q:Value->Shared->Prop) (E:Value->Shared->Prop),tn i s.heap->Q (.ref it) s->wpAny (model P w) A (pyIter (.ref it)) Q E s
abbrev TI:=St->Hp->(It->Hp->Prop)->Prop
def PIE(X:Cx)(pins:List (Ç × Obj))(σ:St)(tg:Ò)(R:It->Hp->Prop)(itv:Ä)(s2:Æ):Prop :=
 ∃ (it:Ç) (fp:List Ç) (tn:Nat->é->Prop) (J:It) (H':Hp),itv=.ref it/\Inv X pins σ H' s2/\Turn X.prog X.w X.K tg J fp it tn/\tn 0 s2.heap/\(∀ b∈fp,X90 X pins H' b)/\R J H'
def PI(X:Cx)(tg iter:Ò)(wi:TI):Prop :=
 ∀ (pins:List (Ç × Obj)) (s:Æ) (σ:St) (H:Hp) (R:It->Hp->Prop),Inv X pins σ H s->wi σ H R ->
  Ï (Õ X.prog X.w) X.A (eval iter X.env) (λv s1=>Ï (Õ X.prog X.w) X.A (pyIter v) (PIE X pins σ tg R) X.xe s1) X.xe s
theorem B21{M:Model}{A:õ}{E:Ä->Æ->Prop}{s:Æ}{tg:Ò}{it:Ç}{u:Ä}{o:Obj}{n:String}{vs:Array Ä}{Q:Unit->Æ->Prop}(ho:s.heap.get? it=some o)(hc:o.cls=.type n)(hd:o.data=.fields vs)
  (hn:["enumerate","zip","dict_itemiterator","dict_reverseitemiterator","odict_iterator","itertools.zip_longest","itertools.pairwise"].contains n=false) (hQ:Q () s):Ï M A (Þ4 tg (.ref it) u) Q E s:=by
 unfold Þ4;cases tg <;> first
  |exact Å hQ
  |(cases u <;> first
    |exact Å hQ
    |(refine À (wpAny_load ho ?_)
      rw[hc,hd];show Ï M A (if (["enumerate","zip","dict_itemiterator","dict_reverseitemiterator","odict_iterator","itertools.zip_longest","itertools.pairwise"].contains n&&vs[0]? == some (Ã3 _))=true then _ else _) Q E s;rw[if_neg (by intro h;rw[hn,Õ2] at h;cases h)]
      exact Å hQ))
def Itl(K:Ã)(a:Ç):It :=
 ⟨λi H=>∃ xs x,SqL K H a xs/\xs[i]?=some x,λi H x H'=>H'=H/\∀ xs,SqL K H a xs->xs[i]?=some x,λi H=>∃ xs,SqL K H a xs/\xs.length<=i⟩
def Itt(K:Ã)(a:Ç):It :=
 ⟨λi H=>∃ xs x,SqT K H a xs/\xs[i]?=some x,λi H x H'=>H'=H/\∀ xs,SqT K H a xs->xs[i]?=some x,λi H=>∃ xs,SqT K H a xs/\xs.length<=i⟩
def Itr(lo:Int)(n:Nat):It:=⟨λi _=>i < n,λi H x H'=>H'=H/\x=.int (lo + i),λi _=>n<=i⟩
theorem j81{P:Ý}{w:ç}{K:Ã}{tg:Ò}(a it:Ç):Turn P w K tg (Itl K a) [it] it (λi h=>h.IsListIter it a i) where
 mem:=by simp
 obj:=λi h st b hb=>by
  have e:b=it:=by simpa using hb
  subst e;obtain⟨o,e,c,d⟩:=st;exact⟨o,e,λv z=>by rw[d] at z;cases z⟩
 keep:=λi h h' st k=>st.at λo e=>k it (by simp) o e
 item:=by
  intro X hP hw hK hc i pins s σ H E I hf st hg;subst hP hw hK;obtain⟨xs,x,hq,hx⟩:=hg;obtain⟨its,rv,p,hz⟩:=I.list hq;obtain⟨u,hu,ru⟩:=rv.get hx;obtain⟨f0,f1,f2,f3,f4,f5⟩:=hf it (by simp)
  refine wpAny_pyNext_list_item st p.isList (x:=u) (by simpa using hu) λh' st' sb=>?_
  have I1:Inv X pins σ H { s with heap:=h' }:=I.turned (t':=s.toks) (λb o hb e=>(sb.2 b hb).trans e) f0 f1 f3 f4 f5;obtain⟨o,e,c,d⟩:=id st';exact⟨u,rfl,B21 (s:={ s with heap:=h' }) e c d (-0) ⟨x,H,I1,ru,⟨rfl,λys hy=>by rw[I.X80 hy hq];exact hx⟩,st',λb hb=>(hf b hb).1⟩⟩
 done:=by
  intro X hP hw hK hc i pins s σ H E I hf st hg;subst hP hw hK;obtain⟨xs,hq,hx⟩:=hg;obtain⟨its,rv,p,hz⟩:=I.list hq;obtain⟨f0,f1,f2,f3,f4,f5⟩:=hf it (by simp)
  have hl:=rv.length;exact wpAny_pyNext_list_end (I.ok.hd hc) st p.isList (by simp;omega) λh' eb=>⟨rfl,I.turned (t':=s.toks) (λb o hb e=>eb b o hb e) f0 f1 f3 f4 f5⟩
 self:=λ_ _ _ _ _ st h=>wpAny_pyIter_listiter st h
theorem e41{P:Ý}{w:ç}{K:Ã}{tg:Ò}(a it:Ç):Turn P w K tg (Itt K a) [it] it (λi h=>h.IsTupleIter it a i) where
 mem:=by simp
 obj:=λi h st b hb=>by
  have e:b=it:=by simpa using hb
  subst e;obtain⟨o,e,c,d⟩:=st;exact⟨o,e,λv z=>by rw[d] at z;cases z⟩
 keep:=λi h h' st k=>st.at λo e=>k it (by simp) o e
 item:=by
  intro X hP hw hK hc i pins s σ H E I hf st hg;subst hP hw hK;obtain⟨xs,x,hq,hx⟩:=hg;obtain⟨its,rv,p,hz⟩:=I.tuple hq;obtain⟨u,hu,ru⟩:=rv.get hx;obtain⟨f0,f1,f2,f3,f4,f5⟩:=hf it (by simp)
  refine wpAny_pyNext_tuple_item st (show s.heap.IsTuple a its.toArray from p) (x:=u) (by simpa using hu) λh' st' sb=>?_
  have I1:Inv X pins σ H { s with heap:=h' }:=I.turned (t':=s.toks) (λb o hb e=>(sb.2 b hb).trans e) f0 f1 f3 f4 f5;obtain⟨o,e,c,d⟩:=id st';exact⟨u,rfl,B21 (s:={ s with heap:=h' }) e c d (-0) ⟨x,H,I1,ru,⟨rfl,λys hy=>by rw[I.L20 hy hq];exact hx⟩,st',λb hb=>(hf b hb).1⟩⟩
 done:=by
  intro X hP hw hK hc i pins s σ H E I hf st hg;subst hP hw hK;obtain⟨xs,hq,hx⟩:=hg;obtain⟨its,rv,p,hz⟩:=I.tuple hq;obtain⟨f0,f1,f2,f3,f4,f5⟩:=hf it (by simp)
  have hl:=rv.length;exact wpAny_pyNext_tuple_end (I.ok.hd hc) st (show s.heap.IsTuple a its.toArray from p) (by simp;omega) λh' eb=>⟨rfl,I.turned (t':=s.toks) (λb o hb e=>eb b o hb e) f0 f1 f3 f4 f5⟩
 self:=λ_ _ _ _ _ st h=>wpAny_pyIter_tupleiter st h
theorem e51{P:Ý}{w:ç}{K:Ã}{tg:Ò}(it:Ç)(lo:Int)(n:Nat):Turn P w K tg (Itr lo n) [it] it (λi h=>IsRangeIter h it (lo + (i:Nat) * 1) ((n:Int) - (i:Nat)) 1) where
 mem:=by simp
 obj:=λi h st b hb=>by
  have e:b=it:=by simpa using hb
  subst e;exact⟨_,st,λv z=>by
   have z':Data.fields _=Data.cell v:=z;cases z'⟩
 keep:=λi h h' st k=>k it (by simp) _ st
 item:=by
  intro X hP hw hK hc i pins s σ H E I hf st hg;subst hP hw hK;obtain⟨f0,f1,f2,f3,f4,f5⟩:=hf it (by simp)
  have W:=Walks.range (prog:=X.prog) (w:=X.w) (I.ok.hd hc) it lo 1 n;refine W.item i s _ _ hg st λv h' tk hv st' kk=>?_;obtain⟨t,rfl⟩:=hv;have I1:Inv X pins σ H { s with heap:=h',toks:=tk }:=I.turned (λb o hb e=>kk b o (by simpa using hb) e) f0 f1 f3 f4 f5
  refine⟨_,rfl,B21 (s:={ s with heap:=h',toks:=tk }) (n:="range_iterator") st' rfl rfl (-0) ⟨.int (lo + i),H,I1,⟨t,?_⟩,⟨rfl,rfl⟩,st',λb hb=>(hf b hb).1⟩⟩
  rw[Int.mul_one]
 done:=by
  intro X hP hw hK hc i pins s σ H E I hf st hg;subst hP hw hK;obtain⟨f0,f1,f2,f3,f4,f5⟩:=hf it (by simp)
  exact wpAny_pyNext_range_end (I.ok.hd hc) st (by have:n<=i:=hg;omega) λh' eb=>⟨rfl,I.turned (t':=s.toks) (λb o hb e=>eb b o hb e) f0 f1 f3 f4 f5⟩
 self:=λ_ _ _ _ _ st h=>wpAny_pyIter_rangeiter st h
section
variable {X:Cx}{tg:Ò}
def q92(K:Ã)(tl:TE):TI:=λσ H R=>tl σ H λx H1=>∃ a,x=.ref a/\(∃ xs,SqL K H1 a xs)/\R (Itl K a) H1
def F12(K:Ã)(tl:TE):TI:=λσ H R=>tl σ H λx H1=>∃ a,x=.ref a/\(∃ xs,SqT K H1 a xs)/\R (Itt K a) H1
theorem S90{l:Ò}{tl:TE}(hl:PE X l tl):PI X tg l (q92 X.K tl):=by
 intro pins s σ H R I h;refine thn (hl pins s σ H _ I h) λv s1 ⟨x,H1,I1,r1,q1⟩=>?_;obtain⟨a,e,⟨xs,hq⟩,q⟩:=q1;subst e;cases r1;obtain⟨its,rv,p,hz⟩:=I1.list hq;refine Ò7 p.isList ?_;refine⟨s1.heap.objs.size,[s1.heap.objs.size],_,_,H1,rfl,I1.kept (t':=s1.toks) λb o e=>Â _ e,j81 a _,⟨_,É _ rfl,rfl,rfl⟩,λb hb=>?_,q⟩;have e:b=s1.heap.objs.size:=by simpa using hb
 subst e;exact I1.e31 (Ë _) (I1.hok.fresh (Ë _))
theorem K31{l:Ò}{tl:TE}(hl:PE X l tl):PI X tg l (F12 X.K tl):=by
 intro pins s σ H R I h;refine thn (hl pins s σ H _ I h) λv s1 ⟨x,H1,I1,r1,q1⟩=>?_;obtain⟨a,e,⟨xs,hq⟩,q⟩:=q1;subst e;cases r1;obtain⟨its,rv,p,hz⟩:=I1.tuple hq;refine È0 (show s1.heap.IsTuple a its.toArray from p) ?_;refine⟨s1.heap.objs.size,[s1.heap.objs.size],_,_,H1,rfl,I1.kept (t':=s1.toks) λb o e=>Â _ e,e41 a _,⟨_,É _ rfl,rfl,rfl⟩,λb hb=>?_,q⟩;have e:b=s1.heap.objs.size:=by simpa using hb
 subst e;exact I1.e31 (Ë _) (I1.hok.fresh (Ë _))
theorem Y00{pins:List (Ç × Obj)}{σ:St}{H:Hp}{s:Æ}{R:It->Hp->Prop}{E:Ä->Æ->Prop}{lo hi:Int}{t u v:Tok}{tk:Nat}(I:Inv X pins σ H s)(h1:-(2 ^ 62)<=lo)(h2:lo < 2 ^ 62)(h3:-(2 ^ 62)<=hi)(h4:hi < 2 ^ 62)
  (q:R (Itr lo (hi - lo).toNat) H):Ï (Õ X.prog X.w) X.A (pyIter (.ref s.heap.objs.size)) (PIE X pins σ tg R) E { s with heap:=s.heap.push { cls:=.type "range",data:=.fields #[.int lo t,.int hi u,.int 1 v] },toks:=tk }:=by
 refine wpAny_pyIter_range (Õ6.new ..) (small_one h1 h2 h3 h4) ?_;have I1:Inv X pins σ H { s with heap:=s.heap.push { cls:=.type "range",data:=.fields #[.int lo t,.int hi u,.int 1 v] },toks:=tk }:=I.kept λb o e=>Â _ e;refine⟨(s.heap.push { cls:=.type "range",data:=.fields #[.int lo t,.int hi u,.int 1 v] }).objs.size,[(s.heap.push { cls:=.type "range",data:=.fields #[.int lo t,.int hi u,.int 1 v] }).objs.size],_,_,H,rfl,
  I1.kept (t':=tk) λb o e=>Â _ e,e51 _ lo (hi - lo).toNat,?_,λb hb=>?_,q⟩
 ·have e1:lo + ((0:Nat):Int) * 1=lo:=by simp
  have e2:(((hi - lo).toNat:Nat):Int) - ((0:Nat):Int)=Ã5 lo hi 1:=by rw[rangeSize_one];split <;> omega
  show IsRangeIter _ _ (lo + ((0:Nat):Int) * 1) ((((hi - lo).toNat:Nat):Int) - ((0:Nat):Int)) 1;rw[e1,e2];exact É _ rfl
 ·have e:b=(s.heap.push { cls:=.type "range",data:=.fields #[.int lo t,.int hi u,.int 1 v] }).objs.size:=by simpa using hb
  subst e;exact I1.e31 (Ë _) (I1.hok.fresh (Ë _))
def r02(ta:TA):TI:=λσ H R=>ta σ H λvs H1=>∃ j:Int,vs=[.int j]/\-(2 ^ 62)<=j/\j < 2 ^ 62/\R (Itr 0 j.toNat) H1
def r12(ta:TA):TI:=λσ H R=>ta σ H λvs H1=>∃ i j:Int,vs=[.int i,.int j]/\(-(2 ^ 62)<=i/\i < 2 ^ 62/\-(2 ^ 62)<=j/\j < 2 ^ 62)/\R (Itr i (j - i).toNat) H1
theorem L40{a:Ò}{ta:TA}{p pos:Pos}(hg:Gl X "range")(hm:X.mg "range"=none)(ha:PA X [a] ta)(hs:ü [a] X.env=[(false,eval a X.env)]:=by rfl):PI X tg (.Call (.Name "range" p) [a] [] pos) (r02 ta):=by
 intro pins s σ H R I h;refine Call_ (q20 I hg hm boot_range (Á1 (thn (ha pos pins s σ H _ I h) λus s1 ⟨vs,H1,I1,r1,q1⟩=>?_) hs rfl));obtain⟨j,e,q1,q2,q⟩:=q1;subst e;cases r1 with
 |cons r rr =>
  cases rr;obtain⟨t,rfl⟩:=r;exact call_range_1 (Y00 I1 ∅ ∅ q1 q2 (by simpa using q))
theorem j91{a b:Ò}{ta:TA}{p pos:Pos}(hg:Gl X "range")(hm:X.mg "range"=none)(ha:PA X [a,b] ta)(hs:ü [a,b] X.env=[(false,eval a X.env),(false,eval b X.env)]:=by rfl)(hs2:ü [b] X.env=[(false,eval b X.env)]:=by rfl) :
  PI X tg (.Call (.Name "range" p) [a,b] [] pos) (r12 ta):=by
 intro pins s σ H R I h;refine Call_ (q20 I hg hm boot_range (Á1 (thn (ha pos pins s σ H _ I h) λus s1 ⟨vs,H1,I1,r1,q1⟩=>?_) (by rw[hs,hs2]) (by rw[hs2];rfl)))
 obtain⟨i,j,e,⟨q1,q2,q3,q4⟩,q⟩:=q1;subst e;cases r1 with
 |cons r rr =>
  cases rr with
  |cons r' rr =>
   cases rr;obtain⟨t,rfl⟩:=r;obtain⟨t',rfl⟩:=r';exact call_range_2 (Y00 I1 q1 q2 q3 q4 q)
def F22(wi:TI)(g:TG)(tb:TS):TS:=λD σ H=>wi σ H λJ H1=>∃ W:Nat->Nat->St->Hp->Prop,(∃ m,W 0 m σ H1)/\∀ i m σ H,W i m σ H ->
 (J.stop i H/\D.nx σ H)∨(J.go i H/\∃ N:St->Hp->Prop,(∀ σ' H',N σ' H'->∃ m',m' < m/\W (i + 1) m' σ' H')/\∀ x H',J.yld i H x H'->g x σ H' λσ2 H2=>tb { D with nx:=N,ct:=N,bk:=D.nx } σ2 H2)
def x40(fp:List Ç)(h:é):List (Ç × Obj):=fp.filterMap λb=>(h.get? b).map λo=>(b,o)
theorem k30{fp:List Ç}{h:é}{b:Ç}{o:Obj}(hb:b∈fp)(e:h.get? b=some o):(b,o)∈x40 fp h:=Ê2.mpr ⟨b,hb,by rw[e];rfl⟩
theorem L50{fp:List Ç}{h:é}{p:Ç × Obj}(hp:p∈x40 fp h):p.1∈fp/\h.get? p.1=some p.2:=by
 obtain⟨b,hb,e⟩:=Ê2.mp hp;cases q:h.get? b with
 |none=>rw[q] at e;cases e
 |some o =>
  rw[q] at e;have e':(b,o)=p:=Â1 e;subst e';exact⟨hb,q⟩
theorem Inv.pinned{pins:List (Ç × Obj)}{σ:St}{H:Hp}{s:Æ}{fp:List Ç}(I:Inv X pins σ H s)(hf:∀ b∈fp,X90 X pins H b)(ho:∀ b∈fp,∃ o,s.heap.get? b=some o/\∀ v,o.data≠.cell v):Inv X (pins++x40 fp s.heap) σ H s :=
 I.x20 λp hp=>(Ã1.mp hp).elim (λz=>I.pin p (ñ _ z)) λz=>by
  obtain⟨hb,e⟩:=L50 z;obtain⟨f0,f1,f2,_⟩:=hf p.1 hb;obtain⟨o,e',d⟩:=ho p.1 hb;rw[e] at e';cases e';exact⟨e,f0,f1,f2,d⟩
theorem Inv.E80{pins pl:List (Ç × Obj)}{σ:St}{H:Hp}{s:Æ}(I:Inv X (pins++pl) σ H s):Inv X pins σ H s:=I.x20 λp hp=>I.pin p (ñ _ (Æ6 _ hp))
theorem k01{iter:Ò}{body:List Ã8}{wi:TI}{g:TG}{tb:TS}{pos:Pos}(hp:PassesOwn (Õ X.prog X.w) X.A X.env X.xe)(hc:X.calm=true)(hi:PI X tg iter wi)(hg:PG X tg g)(hb:PSs X body tb)
  (hs:∀ x,Ì2 iter X.env x=pure x:=by intro _;rfl):PS X (.For tg iter body [] pos) (F22 wi g tb):=by
 intro pins s σ H D I h;refine wpAny_For (thn (hi pins s σ H _ I h) λv s1 h1=>thn h1 λitv s2 h2=>?_) hs;obtain⟨it,fp,tn,J,H2,e,I2,T,st2,f2,W,⟨m0,w0⟩,turn⟩:=h2;subst e;have stat:∀ {H':Hp},(∀ b∈fp,H' b=none)->∀ b∈fp,X90 X pins H' b:=λhn b hb=>⟨hn b hb,(f2 b hb).2⟩;refine codeAny_forLoop_any (λn s'=>∃ i σ' H',Inv X pins σ' H' s'/\tn i s'.heap/\(∀ b∈fp,H' b=none)/\W i n σ' H') ?_ m0 ⟨0,σ,H2,I2,st2,λb hb=>(f2 b hb).1,w0⟩;rintro n s3 ⟨i,σ3,H3,I3,st3,fr3,w3⟩;rcases turn i n σ3 H3 w3 with ⟨stop,qn⟩ | ⟨go,N,hN,step⟩
 ·refine Î7 hp (thn (T.done X rfl rfl rfl hc i pins s3 σ3 H3 X.xe I3 (stat fr3) st3 stop) λr s4 ⟨hr,I4⟩=>?_);subst hr;exact Õ7 ⟨σ3,H3,I4,qn⟩
 ·refine Î7 hp (thn (T.item X rfl rfl rfl hc i pins s3 σ3 H3 X.xe I3 (stat fr3) st3 go) λr s4 ⟨u,hr,h4⟩=>?_);subst hr;refine Î7 hp (thn h4 λ_ s5 ⟨x,H5,I5,r5,y5,st5,fr5⟩=>?_);have I5':=I5.pinned (stat fr5) (T.obj _ _ st5);refine Î7 hp (thn (hg _ s5 σ3 H5 x u _ I5' r5 (step x H5 y5)) λ_ s6 ⟨σ6,H6,I6,q6⟩=>?_);refine Î7 hp (thn (hb _ s6 σ6 H6 _ I6 q6) λf s7 q7=>?_);have again:∀ {σ7:St}{H7:Hp},Inv X (pins++x40 fp s5.heap) σ7 H7 s7->N σ7 H7->∃ m,m < n/\∃ i σ' H',Inv X pins σ' H' s7/\tn i s7.heap/\(∀ b∈fp,H' b=none)/\W i m σ' H':=λ{σ7 H7} I7 n7=>by
   obtain⟨m',hm,w7⟩:=hN σ7 H7 n7;refine⟨m',hm,i + 1,σ7,H7,I7.E80,T.keep _ _ _ st5 λb hb o e=>(I7.pin (b,o) (ñ _ (ñ _ (k30 hb e)))).1,λb hb=>?_,w7⟩;obtain⟨o,e,d⟩:=T.obj _ _ st5 b hb;exact(I7.pin (b,o) (ñ _ (ñ _ (k30 hb e)))).2.1
  cases f with
  |next=>obtain⟨σ7,H7,I7,n7⟩:=q7;exact again I7 n7
  |cont=>obtain⟨σ7,H7,I7,n7⟩:=q7;exact again I7 n7
  |brk=>obtain⟨σ7,H7,I7,q7⟩:=q7;exact⟨σ7,H7,I7.E80,q7⟩
  |ret v=>obtain⟨x7,σ7,H7,I7,r7,q7⟩:=q7;exact⟨x7,σ7,H7,I7.E80,r7,q7⟩
end
abbrev R2:=V->V->Hp->VK->Prop
def OpR(X:Cx)(f:Ä->Ä->Sem Ä)(r:R2):Prop :=
 ∀ (pins:List (Ç × Obj)) (s:Æ) (σ:St) (H:Hp) (x y:V) (v u:Ä) (Q:VK),Inv X pins σ H s->RelV x v->RelV y u->r x y H Q ->
  Ï (Õ X.prog X.w) X.A (f v u) (EP X pins σ Q) X.xe s
def UnR(X:Cx)(f:Ä->Sem Ä)(r:V->Hp->VK->Prop):Prop :=
 ∀ (pins:List (Ç × Obj)) (s:Æ) (σ:St) (H:Hp) (x:V) (v:Ä) (Q:VK),Inv X pins σ H s->RelV x v->r x H Q ->
  Ï (Õ X.prog X.w) X.A (f v) (EP X pins σ Q) X.xe s
def e30(X:Cx)(f:Ä)(r:List V->Hp->VK->Prop):Prop :=
 ∀ (pins:List (Ç × Obj)) (s:Æ) (σ:St) (H:Hp) (xs:List V) (us:List Ä) (Q:VK),Inv X pins σ H s->Vals xs us->r xs H Q ->
  Ï (Õ X.prog X.w) X.A (call f us) (EP X pins σ Q) X.xe s
def tOp(r:R2)(ta tb:TE):TE:=λσ H Q=>ta σ H λx H1=>tb σ H1 λy H2=>r x y H2 Q
def tUn(r:V->Hp->VK->Prop)(ta:TE):TE:=λσ H Q=>ta σ H λx H1=>r x H1 Q
def rI(C:Int->Int->Prop)(g:Int->Int->V):R2:=λx y H Q=>∃ i j,x=.int i/\y=.int j/\C i j/\Q (g i j) H
def rI0(g:Int->Int->V):R2:=λx y H Q=>∃ i j,x=.int i/\y=.int j/\Q (g i j) H
def rU(g:Int->V):V->Hp->VK->Prop:=λx H Q=>∃ i,x=.int i/\Q (g i) H
section
variable {X:Cx}{a b c:Ò}{ta tb tc:TE}{pos:Pos}
theorem r22(ha:PE X a ta)(hb:PE X b tb){pins:List (Ç × Obj)}{s:Æ}{σ:St}{H:Hp}{R:V->V->Hp->Prop}(I:Inv X pins σ H s)
  (h:ta σ H λx H1=>tb σ H1 λy H2=>R x y H2) {Q:Ä->Æ->Prop}{f:Ä->Ä->Sem Ä}
  (hf:∀ v u s2 x y H2,Inv X pins σ H2 s2->RelV x v->RelV y u->R x y H2->Ï (Õ X.prog X.w) X.A (f v u) Q X.xe s2) :
  Ï (Õ X.prog X.w) X.A (eval a X.env) (λv s₁=>Ï (Õ X.prog X.w) X.A (eval b X.env) (λu s₂=>Ï (Õ X.prog X.w) X.A (f v u) Q X.xe s₂) X.xe s₁) X.xe s:=by
 refine thn (ha pins s σ H _ I h) λv s1 ⟨x,H1,I1,r1,q1⟩=>?_;refine thn (hb pins s1 σ H1 _ I1 q1) λu s2 ⟨y,H2,I2,r2,q2⟩=>?_;exact hf v u s2 x y H2 I2 r1 r2 q2
theorem B31{op:Operator}{r:R2}(ho:OpR X (Å8 op) r)(ha:PE X a ta)(hb:PE X b tb):PE X (.BinOp a op b pos) (tOp r ta tb):=by
 intro pins s σ H Q I h;exact wpAny_BinOp (r22 ha hb I h λv u s2 x y H2 I2 rx ry q=>ho pins s2 σ H2 x y v u Q I2 rx ry q)
theorem c72{op:UnaryOp}{r:V->Hp->VK->Prop}(ho:UnR X (unaryOp op) r)(ha:PE X a ta):PE X (.UnaryOp op a pos) (tUn r ta):=by
 intro pins s σ H Q I h;exact UnaryOp_ (thn (ha pins s σ H _ I h) λv s1 ⟨x,H1,I1,r1,q1⟩=>ho pins s1 σ H1 x v Q I1 r1 q1)
theorem opI{f:Ä->Ä->Sem Ä}{C:Int->Int->Prop}{g:Int->Int->Int}
  (rule:∀ (i j:Int) (t u:Tok) (s:Æ) (Q:Ä->Æ->Prop) (E:Ä->Æ->Prop),C i j->Q (.int (g i j) s.toks) { s with toks:=s.toks + 1 }->Ï (Õ X.prog X.w) X.A (f (.int i t) (.int j u)) Q E s) :
  OpR X f (rI C λi j=>.int (g i j)):=by
 intro pins s σ H x y v u Q I rx ry h;obtain⟨i,j,rfl,rfl,hc,q⟩:=h;obtain⟨t,rfl⟩:=rx;obtain⟨t',rfl⟩:=ry;exact rule i j t t' s _ _ hc ⟨.int (g i j),H,I.tok _,⟨_,rfl⟩,q⟩
theorem B02{f:Ä->Ä->Sem Ä}{g:Int->Int->Int}
  (rule:∀ (i j:Int) (t u:Tok) (s:Æ) (Q:Ä->Æ->Prop) (E:Ä->Æ->Prop),Q (.int (g i j) s.toks) { s with toks:=s.toks + 1 }->Ï (Õ X.prog X.w) X.A (f (.int i t) (.int j u)) Q E s) :
  OpR X f (rI0 λi j=>.int (g i j)):=by
 intro pins s σ H x y v u Q I rx ry h;obtain⟨i,j,rfl,rfl,q⟩:=h;obtain⟨t,rfl⟩:=rx;obtain⟨t',rfl⟩:=ry;exact rule i j t t' s _ _ ⟨.int (g i j),H,I.tok _,⟨_,rfl⟩,q⟩
theorem r32{f:Ä->Ä->Sem Ä}{g:Int->Int->Bool}
  (rule:∀ (i j:Int) (t u:Tok) (s:Æ) (Q:Ä->Æ->Prop) (E:Ä->Æ->Prop),Q (.bool (g i j)) s->Ï (Õ X.prog X.w) X.A (f (.int i t) (.int j u)) Q E s) :
  OpR X f (rI0 λi j=>.bl (g i j)):=by
 intro pins s σ H x y v u Q I rx ry h;obtain⟨i,j,rfl,rfl,q⟩:=h;obtain⟨t,rfl⟩:=rx;obtain⟨t',rfl⟩:=ry;exact rule i j t t' s _ _ ⟨.bl (g i j),H,I,rfl,q⟩
def F32(i j:Int):Prop:=0<=j/\j<=1000000/\i.natAbs < 2 ^ 64
theorem c82:OpR X (Å8 .Add) (rI0 λi j=>.int (i + j)):=B02 λ_ _ _ _ _ _ _ q=>add_int q
theorem c92:OpR X (Å8 .Sub) (rI0 λi j=>.int (i - j)):=B02 λ_ _ _ _ _ _ _ q=>sub_int q
theorem d02:OpR X (binaryOp .Mod) (rI (λ_ j=>0 < j) λi j=>.int (i % j)):=opI λi j _ _ _ _ _ hc q=>by
 have h1:(0:Int) < j:=hc;exact mod_int' ∅ (by rw[Int.fmod_eq_emod_of_nonneg i ∅];exact q)
theorem d12:OpR X (Å8 .Pow) (rI F32 λi j=>.int (i ^ j.toNat)):=opI λ_ _ _ _ _ _ _ hc q=>pow_int_small hc.1 hc.2.1 hc.2.2 q
theorem unI{f:Ä->Sem Ä}{g:Int->Int}
  (rule:∀ (i:Int) (t:Tok) (s:Æ) (Q:Ä->Æ->Prop) (E:Ä->Æ->Prop),Q (.int (g i) s.toks) { s with toks:=s.toks + 1 }->Ï (Õ X.prog X.w) X.A (f (.int i t)) Q E s) :
  UnR X f (rU λi=>.int (g i)):=by
 intro pins s σ H x v Q I rx h;obtain⟨i,rfl,q⟩:=h;obtain⟨t,rfl⟩:=rx;exact rule i t s _ _ ⟨.int (g i),H,I.tok _,⟨_,rfl⟩,q⟩
theorem K41:UnR X (unaryOp .USub) (rU λi=>.int (-i)):=unI λ_ _ _ _ _ q=>neg_int q
theorem r42:OpR X (Á2 .LtE) (rI0 λi j=>.bl (decide (i<=j))):=r32 λ_ _ _ _ _ _ _ q=>le_int q
theorem r52:OpR X (Á2 .Gt) (rI0 λi j=>.bl (decide (j < i))):=r32 λ_ _ _ _ _ _ _ q=>gt_int q
theorem r62:OpR X (Á2 .GtE) (rI0 λi j=>.bl (decide (j<=i))):=r32 λ_ _ _ _ _ _ _ q=>ge_int q
theorem P01{op:CmpOp}{r:R2}(ho:OpR X (Á2 op) r)(ha:PE X a ta)(hb:PE X b tb)(hm:behindInMarks op b=false):PE X (.Compare a [op] [b] pos) (tOp r ta tb):=by
 intro pins s σ H Q I h;exact wpAny_Compare1 (r22 ha hb I h λv u s2 x y H2 I2 rx ry q=>ho pins s2 σ H2 x y v u Q I2 rx ry q) hm
def d22(t:TE):TT:=λσ H Q=>t σ H λx H'=>∃ k,x=.bl k/\Q k H'
theorem P11{op:CmpOp}{r:R2}(ho:OpR X (Á2 op) r)(ha:PE X a ta)(hb:PE X b tb)(hm:behindInMarks op b=false):PT X (.Compare a [op] [b] pos) (d22 (tOp r ta tb)):=by
 intro pins s σ H Q I h;refine wpAny_isTrue_Compare1 (thn (ha pins s σ H _ I h) λv s1 ⟨x,H1,I1,r1,q1⟩=>thn (hb pins s1 σ H1 _ I1 q1) λu s2 ⟨y,H2,I2,r2,q2⟩ =>
  thn (ho pins s2 σ H2 x y v u _ I2 r1 r2 q2) λc s3 ⟨z,H3,I3,r3,k,e,q3⟩=>?_) hm
 subst e;cases r3;exact Ã2 ⟨H3,I3,q3⟩
def k21(r r':R2)(ta tb tc:TE):TE:=λσ H Q=>ta σ H λx H1=>tb σ H1 λy H2=>r x y H2 λz H3=>∃ k,z=.bl k /\
 (if k=true then tc σ H3 λw' H4=>r' y w' H4 Q else Q (.bl false) H3)
theorem B41{op op':CmpOp}{r r':R2}(ho:OpR X (Á2 op) r)(ho':OpR X (Á2 op') r')(ha:PE X a ta)(hb:PE X b tb)(hc:PE X c tc)
  (hm:lastMarks [op,op'] [b,c]=false:=by with_unfolding_all rfl):PE X (.Compare a [op,op'] [b,c] pos) (k21 r r' ta tb tc):=by
 intro pins s σ H Q I h;refine Compare_chain (thn (ha pins s σ H _ I h) λv s1 ⟨x,H1,I1,r1,q1⟩=>chain_link (thn (hb pins s1 σ H1 _ I1 q1) λu s2 ⟨y,H2,I2,r2,q2⟩ =>
  thn (ho pins s2 σ H2 x y v u _ I2 r1 r2 q2) λd s3 ⟨z,H3,I3,r3,k,e,q3⟩=>?_)) hm
 subst e;cases r3;refine Ã2 ?_;cases k with
 |false=>exact ite_ff ⟨.bl false,H3,I3,rfl,q3⟩|true=>exact ite_tt (chain_last (thn (hc pins s3 σ H3 _ I3 q3) λw' s4 ⟨z',H4,I4,r4,q4⟩=>ho' pins s4 σ H4 y z' u w' Q I4 r2 r4 q4))
theorem B51{op op':CmpOp}{r r':R2}(ho:OpR X (Á2 op) r)(ho':OpR X (Á2 op') r')(ha:PE X a ta)(hb:PE X b tb)(hc:PE X c tc)
  (hm:lastMarks [op,op'] [b,c]=false:=by with_unfolding_all rfl):PT X (.Compare a [op,op'] [b,c] pos) (d22 (k21 r r' ta tb tc)):=by
 intro pins s σ H Q I h;refine isTrue_chain (thn (ha pins s σ H _ I h) λv s1 ⟨x,H1,I1,r1,q1⟩=>test_link (thn (hb pins s1 σ H1 _ I1 q1) λu s2 ⟨y,H2,I2,r2,q2⟩ =>
  thn (ho pins s2 σ H2 x y v u _ I2 r1 r2 q2) λd s3 ⟨z,H3,I3,r3,k,e,q3⟩=>?_)) hm
 subst e;cases r3;refine Ã2 ?_;cases k with
 |false =>
  obtain⟨k',e',q'⟩:=q3;cases e';exact ite_ff ⟨H3,I3,q'⟩
 |true =>
  refine ite_tt (test_last (thn (hc pins s3 σ H3 _ I3 q3) λw' s4 ⟨z',H4,I4,r4,q4⟩=>thn (ho' pins s4 σ H4 y z' u w' _ I4 r2 r4 q4) λd' s5 ⟨z2,H5,I5,r5,k2,e2,q5⟩=>?_));subst e2;cases r5;exact Ã2 ⟨H5,I5,q5⟩
theorem Y10:(sizeLine:Nat) < 2 ^ 63:=by rw[ò];decide
theorem vals1{x:V}{us:List Ä}(r:Vals [x] us):∃ u,us=[u]/\RelV x u:=by
 cases r with
 |cons r1 r2=>cases r2;exact⟨_,rfl,r1⟩
theorem vals2{x y:V}{us:List Ä}(r:Vals [x,y] us):∃ u w',us=[u,w']/\RelV x u/\RelV y w':=by
 cases r with
 |cons r1 r2 =>
  cases r2 with
  |cons r3 r4=>cases r4;exact⟨_,_,rfl,r1,r3⟩
theorem k31(hc:X.calm=true):e30 X (.builtin "max") (λxs H Q=>∃ i j,xs=[.int i,.int j]/\Q (.int (if j > i then j else i)) H):=by
 intro pins s σ H xs us Q I r h;obtain⟨i,j,rfl,q⟩:=h;obtain⟨u,w',rfl,⟨t,rfl⟩,⟨t',rfl⟩⟩:=vals2 r;refine max_two_ints (I.ok.hd hc) λh' tk k=>⟨_,H,I.kept k,?_,q⟩;by_cases hj:j > i
 ·rw[if_pos hj,if_pos hj];exact⟨_,rfl⟩
 ·rw[if_neg hj,if_neg hj];exact⟨_,rfl⟩
theorem k41(hc:X.calm=true):e30 X (.builtin "min") (λxs H Q=>∃ i j,xs=[.int i,.int j]/\Q (.int (if j < i then j else i)) H):=by
 intro pins s σ H xs us Q I r h;obtain⟨i,j,rfl,q⟩:=h;obtain⟨u,w',rfl,⟨t,rfl⟩,⟨t',rfl⟩⟩:=vals2 r;refine min_two_ints (I.ok.hd hc) λh' tk k=>⟨_,H,I.kept k,?_,q⟩;by_cases hj:j < i
 ·rw[if_pos hj,if_pos hj];exact⟨_,rfl⟩
 ·rw[if_neg hj,if_neg hj];exact⟨_,rfl⟩
theorem L60:e30 X (.type "int") (λxs H Q=>(∃ i,xs=[.int i]/\Q (.int i) H)∨∃ k,xs=[.bl k]/\Q (.int (if k then 1 else 0)) H):=by
 intro pins s σ H xs us Q I r h;rcases h with ⟨i,rfl,q⟩ | ⟨k,rfl,q⟩
 ·obtain⟨u,rfl,t,rfl⟩:=vals1 r;exact call_int_int ⟨.int i,H,I,⟨_,rfl⟩,q⟩
 ·obtain⟨u,rfl,r1⟩:=vals1 r;cases r1;exact call_int_bool ⟨.int (if k then 1 else 0),H,I.tok _,⟨_,rfl⟩,q⟩
end
structure w30(k:Nat)(A:Around):Prop where
 hd:A.handled=none
 dp:A.depth + 3 * k + 5 < recursionLimit
 un:A.units + 16 * k + 200 < cLine
theorem w30.deeper{k:Nat}{A:õ}(r:w30 (k + 1) A)(env:Env):w30 k (A.deeper env) :=
 ⟨r.hd,by have:=r.dp;show A.depth + 1 + 3 * k + 5 < _;omega,by have:=r.un;show A.units + 3 + 16 * k + 200 < _;omega⟩
theorem w30.depth{k:Nat}{A:õ}(r:w30 k A):A.depth < recursionLimit:=by have:=r.dp;omega
theorem w30.units{k:Nat}{A:õ}(r:w30 k A):A.units + 64 < cLine:=by have:=r.un;omega
def d32:TA:=λ_ H Q=>Q [] H
def k51(ta:TE)(tr:TA):TA:=λσ H Q=>ta σ H λx H1=>tr σ H1 λxs H2=>Q (x::xs) H2
section
variable {X:Cx}{e:Ò}{es:List Ò}{te:TE}{t:TA}{pos:Pos}
theorem k40:PA X [] d32:=λ_ _ _ _ H Q I h=>Ð2 ⟨[],H,I,.nil,h⟩
theorem d20(ha:PE X e te)(hr:PA X es t)(hs:ü (e::es) X.env=(false,eval e X.env)::ü es X.env:=by rfl):PA X (e::es) (k51 te t):=by
 intro pos pins s σ H Q I h;rw[hs];show Ï _ _ (spliced ((false,eval e X.env)::Õ4 pos (ü es X.env))) _ _ s;refine Ö9 (thn (ha pins s σ H _ I h) λu s1 ⟨x,H1,I1,r1,q1⟩=>?_);exact thn (hr pos pins s1 σ H1 _ I1 q1) λus s2 ⟨xs,H2,I2,r2,q2⟩=>⟨x::xs,H2,I2,.cons r1 r2,q2⟩
def F42(t:TA):TE:=λσ H Q=>t σ H λxs H1=>xs.length<=sizeLine/\∀ p,H1 p=none->Q (.ref p) (upd H1 p (.tup xs))
def B12(t:TA):TE:=λσ H Q=>t σ H λxs H1=>xs.length<=sizeLine/\∀ p,H1 p=none->Q (.ref p) (upd H1 p (.lst xs))
theorem K51{x1}(h:PA X es t):PE X (.Tuple es x1 pos) (F42 t):=by
 intro pins s σ H Q I hq;refine wpAny_Tuple_spliced (thn (h pos pins s σ H _ I hq) λus s1 ⟨xs,H1,I1,r,z,q⟩=>⟨by rw[← r.length];exact z,?_⟩)
 have hf:H1 s1.heap.objs.size=none:=I1.hok.fresh (Ë _);refine⟨.ref s1.heap.objs.size,upd H1 s1.heap.objs.size (.tup xs),I1.laid (t':=s1.toks) (λb u e=>Â _ e) (Ë _) ?_,rfl,q _ hf⟩;exact⟨z,us,r,⟨_,É _ rfl,rfl,_,rfl⟩⟩
theorem k61(h:PA X es t):PE X (.List es pos) (B12 t):=by
 intro pins s σ H Q I hq;refine wpAny_List_spliced (thn (h pos pins s σ H _ I hq) λus s1 ⟨xs,H1,I1,r,z,q⟩=>⟨by rw[← r.length];exact z,?_⟩)
 have hf:H1 s1.heap.objs.size=none:=I1.hok.fresh (Ë _);refine⟨.ref s1.heap.objs.size,upd H1 s1.heap.objs.size (.lst xs),I1.laid (t':=s1.toks) (λb u e=>Â _ e) (Ë _) ?_,rfl,q _ hf⟩;exact⟨z,us,0,r,É _ rfl⟩
end
abbrev Sp:=List V->Hp->VK->XK->Prop
abbrev CXT:=List Env->Hp->Æ->XK->Ä->Æ->Prop
structure P21(P:Program)(w:World)(K:PySem.W.Frag)(mg:Str->Option Value)(base:Heap)(A:Around)(outer:List Env)(s:Shared)(H:Hp):Prop where
 frames:A.frames=some outer
 mod:Mod K mg base
 bs:∀ b o,base.get? b=some o->s.heap.get? b=some o/\H b=none
 bsz:base.objs.size<=s.heap.objs.size
 e21:s.heap.FunFrames base outer
 frf:∀ b∈frs outer,H b=none
 hok:HOk P w H s.heap
 bare:AllBare s.gens
def CE(outer:List Env)(P:Ý)(w:ç)(H:Hp)(s:Æ)(Q:VK)(u:Ä)(s':Æ):Prop :=
 ∃ v H',s'.os=s.os/\Ó1 s'.gens/\Un (frs outer) [] H H' s.heap s'.heap/\HOk P w H' s'.heap/\RelV v u/\Q v H'
def CR(CX:CXT)(outer:List Env)(P:Ý)(w:ç)(H:Hp)(s:Æ)(Q:VK)(E:XK)(r:Result)(s':Æ):Prop :=
 match r with
 |.ok (.ret u)=>CE outer P w H s Q u s'|.ok _=>False|.error e=>CX outer H s E e s'
structure S40(P:Program)(w:World)(K:PySem.W.Frag)(mg:Str->Option Value)(base:Heap)(CX:CXT)(k:Nat)(f:Addr)(fd:FuncData)(ps:List Str)(sp:Sp):Prop where
 len:∀ vs H Q E,sp vs H Q E->vs.length=ps.length
 run:∀ (A:Around) (outer:List Env) (s:Shared) (H:Hp) (args:Args) (us:List Value) (vs:List V) (Q:VK) (E:XK),w30 k A->P21 P w K mg base A outer s H->BindsTo s fd args (ps.zip us)->Vals vs us->sp vs H Q E ->
  codeAny (model P w) A (.call (.ref f) args) (CR CX outer P w H s Q E) s
section
variable {X:Cx}{pins:List (Ç × Obj)}{σ:St}{H:Hp}{s s':Æ}
theorem Inv.r72(I:Inv X pins σ H s):P21 X.prog X.w X.K X.mg X.base X.A X.stack s H :=
 ⟨I.ok.frames,I.ok.mod,I.bs,â I.ok.bsz I.sz,I.stack,I.s80,I.hok,I.bare⟩
theorem Inv.after{Q:VK}{u:Ä}(I:Inv X pins σ H s)(h:CE X.stack X.prog X.w H s Q u s'):EP X pins σ Q u s':=by
 obtain⟨v,H',os,bare,un,hok,r,q⟩:=h;obtain⟨hh,g,d,t,os'⟩:=s';obtain rfl:os'=s.os:=os;exact⟨v,H',I.call (h':=hh) (g':=g) (d':=d) (t':=t) (ch:=[]) un hok bare (λb z=>absurd z (by simp)),r,q⟩
end
def r82(sp:Sp)(dvs:List V)(E:XK)(t:TA):TE:=λσ H Q=>t σ H λvs H1=>sp (vs++dvs) H1 Q E
def Binds(K:Ã)(fd:Å9)(ps:List Str)(ds:List Ä):Prop :=
 ∀ (s:Æ) (us:List Ä),K.In s.heap->(us++ds).length=ps.length->BindsTo s fd ⟨us,[]⟩ (ps.zip (us++ds))
theorem Binds.all{K:Ã}{fd:Å9}{ps:List Str}(h:∀ us:List Ä,us.length=ps.length->bindArgs fd ⟨us,[]⟩=pure (ps.zip us)):Binds K fd ps []:=λs us _ hl=>by
 rw[append_nil] at hl ⊢;exact .of_eq (h us hl)
def Passes(CX:CXT)(X:Cx)(E:XK):Prop:=∀ (pins:List (Ç × Obj)) (σ:St) (H:Hp) (s:Æ) (e:Ä) (s':Æ),Inv X pins σ H s->CX X.stack H s E e s'->X.xe e s'
section
variable {X:Cx}{CX:CXT}{k:Nat}{f C:Ç}{fd:Å9}{ps:List Str}{sp:Sp}{dvs:List V}{ds:List Ä}{E:XK}{x m:Str}{p pos apos:Pos}{e o:Ò}{es:List Ò}{ta:TE}{t:TA}
theorem d42{pins:List (Ç × Obj)}{σ:St}{H:Hp}{s:Æ}{Q:VK}{us:List Ä}{vs:List V}(F:S40 X.prog X.w X.K X.mg X.base CX k f fd ps sp)(hr:w30 k X.A)(hb:Binds X.K fd ps ds)(hd:Vals dvs ds)(hx:Passes CX X E)
  (I:Inv X pins σ H s) (r:Vals vs us) (h:sp (vs++dvs) H Q E):Ï (Õ X.prog X.w) X.A (call (.ref f) us) (EP X pins σ Q) X.xe s:=by
 have r2:Vals (vs++dvs) (us++ds):=r.append hd;have hl:(us++ds).length=ps.length:=by rw[← r2.length];exact F.len _ _ _ _ h
 refine Ñ0 (Æ2 (F.run X.A X.stack s H ⟨us,[]⟩ (us++ds) (vs++dvs) Q E hr I.r72 (hb s us I.kIn hl) r2 h) λr s' hq=>?_);cases r with
 |error e=>exact hx pins σ H s e s' I hq
 |ok fl =>
  cases fl with
  |ret u=>exact I.after hq|next=>exact À3 hq
  |brk=>exact À3 hq|cont=>exact À3 hq
theorem P31(F:S40 X.prog X.w X.K X.mg X.base CX k f fd ps sp)(hr:w30 k X.A)(hg:Gl X x)(hm:X.mg x=some (.ref f))(hk:Ó3 X.K (.ref f)=true)(hb:Binds X.K fd ps ds)(hd:Vals dvs ds)(hx:Passes CX X E)
  (ha:PA X (e::es) t) (hdb:(x == ("__debug__":Str))=false:=by decide) (he:ü (e::es) X.env=(false,eval e X.env)::ü es X.env:=by rfl) (hpl:(Õ4 pos (ü es X.env)).any (·.1)=false:=by rfl) :
  PE X (.Call (.Name x p) (e::es) [] pos) (r82 sp dvs E t):=by
 intro pins s σ H Q I h;refine Ë5 (E40 I hg hm ?_ hdb);refine callWith_K (h₀:=X.base) I.ok.mod.kin hk (thn (ha pos pins s σ H _ I h) λus s1 ⟨vs,H1,I1,r,q⟩=>⟨I1.kIn,?_⟩) he hpl;exact d42 F hr hb hd hx I1 r q
end
structure j60(N P:List Str)(sc:Scope):Prop where
 kind:sc.kind=.function
 co:sc.isCoroutine=false
 gen:sc.isGenerator=false
 nd:N.Nodup
 pre:N.take P.length=P
 par:∀ x∈P,sc.names.lookup x=some .local∨sc.names.lookup x=some .cell
 nofree:∀ y∈sc.names,y.2≠.free
theorem L70{kindOf:Str->Option Ê9}{x:Str}:∀ {binds:List (Str × Ä)}{m:Str->Option Ä},(∀ v,(x,v) ∉ binds)->bindL kindOf binds m x=m x
 |[],_,_=>rfl
 |(n,v)::r,m,h=>by
  unfold bindL;rw[L70 λw hw=>h w (È _ hw)];split
  ·have:x≠n:=by rintro rfl;exact h v Ê
   simp[this]
  ·rfl
theorem L80{kindOf:Str->Option Ê9}{x:Str}:∀ {binds:List (Str × Ä)}{m:Str->Option Ä},(∀ v,(x,v) ∉ binds)->bindC kindOf binds m x=m x
 |[],_,_=>rfl
 |(n,v)::r,m,h=>by
  unfold bindC;rw[L80 λw hw=>h w (È _ hw)];split
  ·rfl
  ·have:x≠n:=by rintro rfl;exact h v Ê
   simp[this]
theorem L90{kindOf:Str->Option Ê9}{x:Str}{v:Ä}:∀ {P:List Str}{vs:List Ä}{i:Nat}{m:Str->Option Ä},P.Nodup->P[i]?=some x->vs[i]?=some v->kindOf x=some .local ->
  bindL kindOf (P.zip vs) m x=some v
 |[],_,_,_,_,h,_,_=>by simp at h|_::_,[],_,_,_,_,h,_=>by simp at h
 |p::P,w::vs,0,m,nd,h1,h2,hk=>by
  simp at h1 h2;subst h1;subst h2;show bindL kindOf ((p,w)::P.zip vs) m p=_;unfold bindL;rw[L70 λv hv=>(É6.mp nd).1 (of_mem_zip hv).1,if_pos hk];simp
 |p::P,w::vs,i + 1,m,nd,h1,h2,hk=>by
  show bindL kindOf ((p,w)::P.zip vs) m x=_;unfold bindL;exact L90 (i:=i) (É6.mp nd).2 (by simpa using h1) (by simpa using h2) hk
theorem M00{kindOf:Str->Option Ê9}{x:Str}{v:Ä}:∀ {P:List Str}{vs:List Ä}{i:Nat}{m:Str->Option Ä},P.Nodup->P[i]?=some x->vs[i]?=some v->kindOf x≠some .local ->
  bindC kindOf (P.zip vs) m x=some v
 |[],_,_,_,_,h,_,_=>by simp at h|_::_,[],_,_,_,_,h,_=>by simp at h
 |p::P,w::vs,0,m,nd,h1,h2,hk=>by
  simp at h1 h2;subst h1;subst h2;show bindC kindOf ((p,w)::P.zip vs) m p=_;unfold bindC;rw[L80 λv hv=>(É6.mp nd).1 (of_mem_zip hv).1,if_neg hk];simp
 |p::P,w::vs,i + 1,m,nd,h1,h2,hk=>by
  show bindC kindOf ((p,w)::P.zip vs) m x=_;unfold bindC;exact M00 (i:=i) (É6.mp nd).2 (by simpa using h1) (by simpa using h2) hk
def start(N:List Str)(vs:List V):St:=vs.map some++î (N.length - vs.length) none
def B40(CX:CXT)(P:Ý)(w:ç)(K:Ã)(mg:Str->Option Ä)(base:é)(N:List Str)(qual:Str)(scope:ø)(f:Ç)(cd:Ä)(A:õ)(outer:List Env)(s:Æ)(H:Hp)(E:XK):Cx where
 prog:=P
 w:=w
 K:=K
 mg:=mg
 base:=base
 A:=A.deeper (Ï0 qual scope s.heap.objs.size f cd)
 N:=N
 s₀:=s
 H₀:=H
 env:=Ï0 qual scope s.heap.objs.size f cd
 outer:=outer
 stack:=Ï0 qual scope s.heap.objs.size f cd::outer
 ex:=[]
 calm:=true
 fn:=λ_=>true
 pn:=[]
 xe:=λe s'=>Ï (Õ P w) (A.deeper (Ï0 qual scope s.heap.objs.size f cd)) (leaving (Ï0 qual scope s.heap.objs.size f cd) e) (λ_ s''=>CX outer H s E e s'') (λe' s''=>CX outer H s E e' s'') s'
theorem Y20{sc:ø}{n:Nat}{x:Str}(h:sc.names.lookup x=some .cell):∃ c,(cellsFrom n sc.names []).lookup x=some c:=by
 have q:=cellsFrom_some sc.names n [] (.inl h);exact Ý1.mp q
theorem M10{CX:CXT}{P:Ý}{w:ç}{K:Ã}{mg:Str->Option Ä}{base:é}{N ps:List Str}{qual:Str}{scope:ø}{f:Ç}{cd:Ä}{A:õ}{outer:List Env}{s s1:Æ}{H:Hp}{E:XK}{us:List Ä}{vs:List V}
  (S:j60 N ps scope) (hd:A.handled=none) (e0:P21 P w K mg base A outer s H) (hl:vs.length=ps.length) (r:Vals vs us)
  (x:InCallC s s.heap.objs.size (bindL (Ï0 qual scope s.heap.objs.size f cd).kindOf (ps.zip us) λ_=>none) (cellsFrom (s.heap.objs.size + 1) scope.names []) (bindC (Ï0 qual scope s.heap.objs.size f cd).kindOf (ps.zip us) λ_=>none) s1) :
  Inv (B40 CX P w K mg base N qual scope f cd A outer s H E) [] (start N vs) H s1:=by
 have hpl:ps.length<=N.length:=by have:=congrArg List.length S.pre;rw[Ê8] at this;omega
 obtain⟨h1,tk,rfl,hk⟩:=x.done;have noA:∀ b:Ç,b ∉ (B40 CX P w K mg base N qual scope f cd A outer s H E).ex:=λb z=>absurd (show b∈([]:List Ç) from z) (by simp)
 refine⟨⟨e0.mod,S.kind,rfl,rfl,Ë _,λy z c h1 h2=>?_,λy hy=>?_,λy c _ h=>?_,λ_=>hd,Þ9 e0.frames,.inr ⟨rfl,rfl⟩,λb z=>absurd z (noA b),e0.bs,e0.bsz,λb _ _=>noA b,λb z=>absurd z (noA b),e0.e21,e0.frf⟩,
  rfl,e0.bare,Un.kept hk,⟨_,x.toInCall.ns,λi y v h1 h2 h3=>?_⟩,λy c h=>⟨_,x.cell y c h⟩,e0.hok.fresh (Ë _),λy c h=>?_,λp hp=>absurd (show p∈([]:List (Ç × Obj)) from hp) (by simp),e0.hok.kept hk,?_⟩
 ·exact name_of_addr x.apart (Â0 h1) (Â0 h2)
 ·have hy:scope.names.lookup y=some .cell∨scope.names.lookup y=some .free:=hy;rcases hy with hy | hy
  ·exact Y20 hy
  ·exact absurd rfl (S.nofree _ (Â0 hy))
 ·exact Ç9 (x.above y c (Â0 h))
 ·have hi:i < vs.length:=by
   unfold start at h2;by_cases hi:i < vs.length
   ·exact hi
   ·rw[Æ0 (by simpa using hi)] at h2
    rw[Ò2] at h2;split at h2 <;> cases h2
  have ha:vs[i]?=some v:=by
   unfold start at h2;rw[Ð0 (by simpa using hi),Ö] at h2
   cases e:vs[i]? with
   |none=>rw[e] at h2;cases h2
   |some a=>rw[e] at h2;cases h2;rfl
  obtain⟨u,hu,rv⟩:=r.get ha;have hp:ps[i]?=some y:=by
   rw[← S.pre,List.getElem?_take_of_lt ∅];exact h1
  have ndP:ps.Nodup:=by rw[← S.pre];exact S.nd.sublist (List.take_sublist _ _)
  refine⟨u,rv,?_⟩;rcases S.par y (å hp) with k | k
  ·exact .inl ⟨k,L90 ndP hp hu k⟩
  ·obtain⟨c,e⟩:=Y20 (n:=s.heap.objs.size + 1) k;refine .inr ⟨.inl k,c,e,?_⟩;have q:=x.cell y c e;rw[M00 ndP hp hu (by show scope.names.lookup y≠_;rw[k];decide)] at q
   exact q
 ·exact e0.hok.fresh (Ç9 (x.above y c (Â0 h)))
 ·unfold start;show _=N.length;rw[À6,Ì,ß2];omega
theorem r92{CX:CXT}{P:Ý}{w:ç}{K:Ã}{mg:Str->Option Ä}{base:é}{k:Nat}{f:Ç}{name qual:Str}{params:Í7}{body:List Ã8}{scope:ø}{dV kV doc pm cdv ct oc:Ä}{an od:Option Ç}
  {osl:Array (Option Ä)}{N ps:List Str}{sp:Sp} (lk:K.lookup f=some ⟨oc,od,.func (fnOf name qual params body scope dV kV doc pm an cdv ct),osl⟩) (hcd:PySem.W.codeIn K cdv qual=true) (S:j60 N ps scope)
  (len:∀ vs H Q E,sp vs H Q E->vs.length=ps.length)
  (hbody:∀ (A:õ) (outer:List Env) (s:Æ) (H:Hp) (vs:List V) (Q:VK) (E:XK),w30 k (A.deeper (Ï0 qual scope s.heap.objs.size f cdv))->sp vs H Q E ->
   ∃ t,PSs (B40 CX P w K mg base N qual scope f cdv A outer s H E) body t/\t { nx:=λ_ H'=>Q .non H',rt:=Q } (start N vs) H) :
  S40 P w K mg base CX (k + 1) f (fnOf name qual params body scope dV kV doc pm an cdv ct) ps sp:=by
 refine⟨len,λA outer s H args us vs Q E hr e0 hb r hsp=>?_⟩;have hl:=len _ _ _ _ hsp;have KX:K.In s.heap:=e0.mod.kin.keeps λb o e=>(e0.bs b o e).1;have lim:s.heap.NoLimit:=e0.mod.nolimit.keeps λb o e=>(e0.bs b o e).1;have hkind:∀ y∈ps.zip us,scope.names.lookup y.1=some .local∨(scope.names.lookup y.1=some .cell/\((cellsFrom (s.heap.objs.size + 1) scope.names []).lookup y.1).isSome=true):=λ⟨n,v⟩ hy=>by
  rcases S.par n (of_mem_zip hy).1 with q | q
  ·exact .inl q
  ·exact .inr ⟨q,cellsFrom_some _ _ _ (.inl q)⟩
 refine codeAny_call_function hr.depth (KX _ _ lk) rfl S.co S.gen rfl (codeRec_of KX hcd) (hb _ _ _ _ ?_);refine ß0 S.kind hkind λenv he s1 x=>?_;subst he;refine⟨lim.keeps x.toInCall.keep,codeAny_func ?_⟩;obtain⟨t,ht,hq⟩:=hbody A outer s H vs Q E (hr.deeper _) hsp;have I:Inv (B40 CX P w K mg base N qual scope f cdv A outer s H E) [] (start N vs) H s1:=M10 S hr.hd e0 hl r x;refine Â7 (ht [] s1 (start N vs) H _ I hq) (λfl s' hs=>?_) λe s' hs=>hs;have fin:∀ {σ':St}{H':Hp}{v:V}{u:Ä},Inv (B40 CX P w K mg base N qual scope f cdv A outer s H E) [] σ' H' s'->RelV v u->Q v H'->CE outer P w H s Q u s' :=
  λ{σ' H' v u} J rv q=>⟨v,H',J.os,J.bare,J.base,J.hok,rv,q⟩
 cases fl with
 |ret u =>
  obtain⟨v,σ',H',J,rv,q⟩:=hs;exact fin J rv q
 |next =>
  obtain⟨σ',H',J,q⟩:=hs;exact fin (v:=V.non) (u:=è) J rfl q
 |brk =>
  obtain⟨_,_,_,q⟩:=hs;exact À3 q
 |cont =>
  obtain⟨_,_,_,q⟩:=hs;exact À3 q
section
variable {X:Cx}{x:Str}{p pos:Pos}{e:Ò}{es:List Ò}{t:TA}{id T:String}{r:List V->Hp->VK->Prop}
def tCB(r:List V->Hp->VK->Prop)(t:TA):TE:=λσ H Q=>t σ H λvs H1=>r vs H1 Q
theorem q40(hc:e30 X (.builtin id) r)(hg:Gl X x)(hm:X.mg x=none)(hv:í x=some (.builtin id))(ha:PA X (e::es) t)(hn:x≠"__name__":=by decide)(hdb:(x == ("__debug__":Str))=false:=by decide)
  (he:ü (e::es) X.env=(false,eval e X.env)::ü es X.env:=by rfl) (hpl:(Õ4 pos (ü es X.env)).any (·.1)=false:=by rfl):PE X (.Call (.Name x p) (e::es) [] pos) (tCB r t):=by
 intro pins s σ H Q I h;refine Ë5 (q20 I hg hm hv ?_ hn hdb);exact PyProof.Rows.callWith_builtin1 (thn (ha pos pins s σ H _ I h) λus s1 ⟨vs,H1,I1,r1,q1⟩=>hc pins s1 σ H1 vs us Q I1 r1 q1) he hpl
theorem x50(hc:e30 X (.type T) r)(hg:Gl X x)(hm:X.mg x=none)(hv:í x=some (.type T))(ha:PA X (e::es) t)(hn:x≠"__name__":=by decide)(hdb:(x == ("__debug__":Str))=false:=by decide)
  (he:ü (e::es) X.env=(false,eval e X.env)::ü es X.env:=by rfl) (hpl:(Õ4 pos (ü es X.env)).any (·.1)=false:=by rfl):PE X (.Call (.Name x p) (e::es) [] pos) (tCB r t):=by
 intro pins s σ H Q I h;refine Ë5 (q20 I hg hm hv ?_ hn hdb);exact Á1 (thn (ha pos pins s σ H _ I h) λus s1 ⟨vs,H1,I1,r1,q1⟩=>hc pins s1 σ H1 vs us Q I1 r1 q1) he hpl
end
end L2
namespace HT
open PySem PyProof.Rows
theorem B61(A:õ)(s:Æ)(a:Int)(t:Tok)(c:Int)(u:Tok):∃ e,Ö8 A s (.int a t) (.int c u) e/\(e=true↔a=c) :=
 ⟨(a == c),Ö8.int_int a t c u,by simp⟩
theorem Y30(A:õ)(s:Æ)(a:Int)(t:Tok)(c:Int)(u:Tok)(prog:Ý)(w:ç)(E:Ä->Æ->Prop)(Q:Ä->Æ->Prop)(h:Q (.bool (decide (a < c))) s) :
  Ï (Õ prog w) A (richCompare .Lt (.int a t) (.int c u)) Q E s :=
 (lt_int h:Ï (Õ prog w) A (Á2 .Lt (.int a t) (.int c u)) Q E s)
section
variable {prog:Ý}{w:ç}{A:õ}{E:Ä->Æ->Prop}{s:Æ}
theorem P41{t b:Ç}{vs ws:List Ä}{Q:Ä->Æ->Prop}(ht:Ñ8 s.heap t vs.toArray)(hb:Ñ8 s.heap b ws.toArray)(hv:vs≠[])
  (h1:ws=[]->Q (.ref t) s) (h2:ws≠[]->Q (.ref s.heap.objs.size) { s with heap:=s.heap.push { cls:=.type "tuple",data:=.seq (vs++ws).toArray } })
  (hsz:vs.length + ws.length<=sizeLine):Ï (Õ prog w) A (Å8 .Add (.ref t) (.ref b)) Q E s:=by
 obtain⟨⟨cls,dd,data,sl⟩,ho,hc,n,hd⟩:=id ht;obtain⟨⟨cls2,dd2,data2,sl2⟩,ho2,hc2,n2,hd2⟩:=id hb;simp only at hc hd hc2 hd2;subst hc hd hc2 hd2;have e:vs.toArray++ws.toArray=(vs++ws).toArray:=by simp
 by_cases hw:ws=[]
 ·exact concat_meets ⟨_,ho,rfl⟩ ⟨_,ho2,rfl⟩ Ý5 seq_tuple_add Ñ6 Ð5 (Ï1 _ _)
   (tuple_addW1 t b vs.toArray ws.toArray n n2 dd dd2 sl sl2 (by simpa using hv) (by simp[hw])) ⟨ho,ho2,h1 hw⟩
 ·refine concat_meets ⟨_,ho,rfl⟩ ⟨_,ho2,rfl⟩ Ý5 seq_tuple_add Ñ6 Ð5 (Ï1 _ _)
   (tuple_addW2 t b vs.toArray ws.toArray n n2 dd dd2 sl sl2 (by simpa using hv) (by simpa using hw) (by rw[Ø,Ø];exact hsz)) ⟨ho,ho2,?_⟩
  rw[e];exact h2 hw
def sIx(n d:Nat):Option Int->Nat
 |none=>d|some v=>if v < 0 then(v + (n:Int)).toNat else min v.toNat n
theorem k71(n d k:Nat):sIx n d (some (k:Int))=min k n:=by
 show(if (k:Int) < 0 then((k:Int) + (n:Int)).toNat else min (k:Int).toNat n)=min k n;rw[if_neg ∅,Ä2]
theorem d52(n d:Nat)(hd:d<=n)(o:Option Int):sIx n d o<=n:=by
 cases o with
 |none=>exact hd
 |some v =>
  show(if v < 0 then(v + (n:Int)).toNat else min v.toNat n)<=n;by_cases hv:v < 0
  ·rw[if_pos hv];omega
  ·rw[if_neg hv];exact Nat.min_le_right _ _
theorem k81(v:Int)(n d:Nat):(if v < 0 then max (v + (n:Int)) 0 else min v (n:Int))=((sIx n d (some v):Nat):Int):=by
 show(if v < 0 then max (v + (n:Int)) 0 else min v (n:Int))=(((if v < 0 then(v + (n:Int)).toNat else min v.toNat n):Nat):Int);by_cases hv:v < 0
 ·simp only[if_pos hv];omega
 ·simp only[if_neg hv];omega
theorem e61(lo hi:Option Int)(n:Nat):Ì8 lo hi 1 (n:Int)=(((sIx n 0 lo:Nat):Int),((sIx n n hi:Nat):Int)):=by
 have h1:¬ ((1:Int) < 0):=by omega
 unfold Ì8;simp only[h1,if_false];refine Prod.ext ?_ ?_
 ·cases lo with
  |none=>rfl|some v=>exact k81 v n 0
 ·cases hi with
  |none=>rfl|some v=>exact k81 v n n
theorem e71(i j:Nat):È6 (i:Int) (j:Int) 1=j - i:=by
 unfold È6;have h1:(1:Int) > 0:=by omega
 simp only[h1,if_true,Int.ediv_one];split <;> omega
theorem C20{v:Ä}{o:Option Int}{Q:Option Int->Æ->Prop}(p:Ø7 v o)(h:Q o s):Ï (Õ prog w) A (û.Slice.slicePartIndex v) Q E s:=by
 cases p with
 |none=>exact Ø4 h|int i t=>exact slicePart_int h
theorem m20{sl:Ç}{vl vu:Ä}{lo hi:Option Int}{n:Nat}{Q:Int × Int × Nat->Æ->Prop}(hs:s.heap.IsSliceOf sl vl vu .none)(pl:Ø7 vl lo)(pu:Ø7 vu hi)
  (h:Q (((sIx n 0 lo:Nat):Int),1,sIx n n hi - sIx n 0 lo) s):Ï (Õ prog w) A (Ó9 (.ref sl) (pure (n:Int))) Q E s:=by
 obtain⟨os,hos,hcs,hds⟩:=id hs;unfold Ó9 sliceFields;refine À (À (Á4 hos hds (x:=vl) rfl (À (Á4 hos hds (x:=vu) rfl (À (Á4 hos hds (x:=.none) rfl (Å ?_)))))));refine À (Ø4 ?_);show Ï _ _ (if ((1:Int) == 0)=true then _ else _) _ _ s;rw[if_neg (-0)]
 refine À (C20 pl (À (C20 pu (À (Å ?_)))));show Ï _ _ (match Ì8 lo hi 1 (n:Int) with | (lo,hi)=>pure (lo,(1:Int),È6 lo hi 1)) _ _ s
 rw[e61 lo hi n];show Ï _ _ (pure (((sIx n 0 lo:Nat):Int),(1:Int),È6 ((sIx n 0 lo:Nat):Int) ((sIx n n hi:Nat):Int) 1)) _ _ s;rw[e71];exact Å h
theorem B71(xs:Array Ä)(i k:Nat):((ì k).filterMap λ(m:Nat)=>xs[((i:Int) + (m:Int) * 1).toNat]?).toArray=((xs.toList.drop i).take k).toArray:=by
 have e:(λ(m:Nat)=>xs[((i:Int) + (m:Int) * 1).toNat]?)=λm=>xs[i + m]?:=by
  funext m
  have:((i:Int) + (m:Int) * 1).toNat=i + m:=by omega
  rw[this]
 rw[e];have:=pick_run xs i k;rw[List.filterMap_map] at this;have e2:((λx=>xs[x]?) ∘ λx=>i + x)=λm=>xs[i + m]?:=rfl;rw[e2] at this;rw[this]
theorem s90{t sl:Ç}{items:Array Ä}{vl vu:Ä}{lo hi:Option Int}{Q:Ä->Æ->Prop}(ht:Ñ8 s.heap t items)(hs:s.heap.IsSliceOf sl vl vu .none)(pl:Ø7 vl lo)(pu:Ø7 vu hi)
  (hw:¬ (sIx items.size 0 lo=0/\sIx items.size items.size hi=items.size))
  (h:Q (.ref s.heap.objs.size) { s with heap:=s.heap.push { cls:=.type "tuple",data:=.seq ((items.toList.drop (sIx items.size 0 lo)).take (sIx items.size items.size hi - sIx items.size 0 lo)).toArray } })
  (hsz:items.size<=sizeLine):Ï (Õ prog w) A (Ò8 (.ref t) (.ref sl)) Q E s:=by
 have htake:sizeOk (.seq ((items.toList.drop (sIx items.size 0 lo)).take (sIx items.size items.size hi - sIx items.size 0 lo)).toArray):=by
  show((items.toList.drop (sIx items.size 0 lo)).take (sIx items.size items.size hi - sIx items.size 0 lo)).toArray.size<=sizeLine;rw[Ø,Ê8,Ö0,É8];omega
 have hj:sIx items.size items.size hi<=items.size:=d52 _ _ (Ë _) hi;obtain⟨os,hos,hcs,hds⟩:=id hs;have hTs:s.TypeIs (.ref sl) "slice":=⟨os,hos,hcs⟩;unfold Ò8
 try with_reducible refine ï ?_
 first | refine À (Å ?_) | skip
 refine À (Û7 ht.typeIs (-0) ?_)
 refine À (À5 (name:=Á0 "__getitem__") ht.typeIs ô
  (ÿ ô ht.typeIs entry_tuple_getitem ?_ (Ú9 _ _)))
 show Ï _ _ (tupleItemsOf (.ref t) >>= _) _ _ s;refine À (tupleItemsOf_ ht ?_);refine À (Ç1 hTs ?_);rw[if_pos (-0)]
 refine À (m20 hs pl pu ?_);have hno:¬ ((((sIx items.size 0 lo:Nat):Int) == 0&&(1:Int) == 1&&(sIx items.size items.size hi - sIx items.size 0 lo) == items.size)=true):=by
  intro q;rw[Á,Á] at q;have q1:((sIx items.size 0 lo:Nat):Int)=0:=eq_of_beq q.1.1;have q2:sIx items.size items.size hi - sIx items.size 0 lo=items.size:=eq_of_beq q.2;exact hw ⟨by omega,by omega⟩
 show Ï _ _ (if (((sIx items.size 0 lo:Nat):Int) == 0&&(1:Int) == 1&&(sIx items.size items.size hi - sIx items.size 0 lo) == items.size)=true then _ else _) _ _ s;rw[if_neg hno,B71]
 first
  |exact À (m:=Ç0 _) (ê (Å ⟨_,rfl,Å h⟩) htake)
  |exact À (m:=Ç0 _) (ê (À (Å (Å ⟨_,rfl,Å h⟩))) htake)
  |exact À (À (m:=Ç0 _) (ê (Å (Å ⟨_,rfl,Å h⟩)) htake))
  |exact À (À (m:=Ç0 _) (ê (Å ⟨_,rfl,Å h⟩) htake))
end
end HT
namespace L2
open PySem PySem.Spec PyProof.Rows
abbrev TO:=St->Hp->(Option Int->Hp->Prop)->Prop
def PO(X:Cx)(e:Option Ò)(t:TO):Prop :=
 ∀ (pins:List (Ç × Obj)) (s:Æ) (σ:St) (H:Hp) (Q:Option Int->Hp->Prop),Inv X pins σ H s->t σ H Q ->
  Ï (Õ X.prog X.w) X.A (evalPart e X.env) (λu s'=>∃ o H',Inv X pins σ H' s'/\Ø7 u o/\Q o H') X.xe s
def P51:TO:=λ_ H Q=>Q none H
def s02(t:TE):TO:=λσ H Q=>t σ H λx H1=>∃ i,x=.int i/\Q (some i) H1
theorem intsAre_of{ns:List Int}:∀ {us:List Ä},Vals (ns.map V.int) us->Ë1 us ns:=by
 induction ns with
 |nil=>intro us r;rw[map_nil] at r;cases r;exact .nil
 |cons n ns ih =>
  intro us r;rw[Â2] at r;cases r with
  |cons r1 r2 =>
   obtain⟨t,e⟩:=r1;subst e;exact .cons n t (ih r2)
section
variable {X:Cx}{e:Ò}{te:TE}{lo hi:Option Ò}{tl th:TO}{pos p2:Pos}
theorem P61:PO X none P51:=by
 intro pins s σ H Q I h;rw[evalPart_none];exact Å ⟨none,H,I,.none,h⟩
theorem P71(h:PE X e te):PO X (some e) (s02 te):=by
 intro pins s σ H Q I hw;rw[evalPart_some];refine thn (h pins s σ H _ I hw) λu s1 ⟨x,H1,I1,r1,q1⟩=>?_;obtain⟨i,rfl,q⟩:=q1;obtain⟨t,rfl⟩:=r1;exact⟨some i,H1,I1,.int i t,q⟩
def SlR(X:Cx)(r:V->Option Int->Option Int->Hp->VK->Prop):Prop :=
 ∀ (pins:List (Ç × Obj)) (s:Æ) (σ:St) (H:Hp) (x:V) (v vl vu:Ä) (lo hi:Option Int) (sl:Ç) (Q:VK),Inv X pins σ H s->RelV x v->s.heap.IsSliceOf sl vl vu .none->Ø7 vl lo->Ø7 vu hi->r x lo hi H Q ->
  ∃ T id,typeLookup (.type T) "__getitem__"=pure (some (.builtin id))/\s.TypeIs v T/\Ï (Õ X.prog X.w) X.A (Ò8 v (.ref sl)) (EP X pins σ Q) X.xe s
def tSl(r:V->Option Int->Option Int->Hp->VK->Prop)(te:TE)(tl th:TO):TE:=λσ H Q=>te σ H λx H1=>tl σ H1 λl H2=>th σ H2 λu H3=>r x l u H3 Q
theorem B81{r:V->Option Int->Option Int->Hp->VK->Prop}(hr:SlR X r)(he:PE X e te)(hl:PO X lo tl)(hu:PO X hi th):PE X (.Subscript e (.Slice lo hi none p2) pos) (tSl r te tl th):=by
 intro pins s σ H Q I h;refine Subscript_ (thn (he pins s σ H _ I h) λv s1 ⟨x,H1,I1,r1,q1⟩=>?_);refine wpAny_Slice (thn (hl pins s1 σ H1 _ I1 q1) λvl s2 ⟨l,H2,I2,pl,q2⟩=>thn (hu pins s2 σ H2 _ I2 q2) λvu s3 ⟨u,H3,I3,pu,q3⟩=>?_);rw[evalPart_none];refine Å ?_;have I4:Inv X pins σ H3 { s3 with heap:=s3.heap.push { cls:=.type "slice",data:=.fields #[vl,vu,.none] } }:=I3.kept (t':=s3.toks) λb ob q=>Â _ q;obtain⟨T,id,hT,ht,hg⟩:=hr pins { s3 with heap:=s3.heap.push { cls:=.type "slice",data:=.fields #[vl,vu,.none] } } σ H3 x v vl vu l u s3.heap.objs.size Q I4 r1 (Ò4 ..) pl pu q3;show Ï (Õ X.prog X.w) X.A (subscriptTail e (.Slice lo hi none p2) v (.ref s3.heap.objs.size)) (EP X pins σ Q) X.xe { s3 with heap:=s3.heap.push { cls:=.type "slice",data:=.fields #[vl,vu,.none] } };exact tail_any (ops:=[.ref s3.heap.objs.size,v]) ht hT hg (by with_unfolding_all rfl)
def B91(xs:List V)(lo hi:Option Int):List V:=(xs.drop (HT.sIx xs.length 0 lo)).take (HT.sIx xs.length xs.length hi - HT.sIx xs.length 0 lo)
theorem x60(xs:List V)(lo hi:Option Int):(B91 xs lo hi).length<=xs.length:=by
 unfold B91;rw[Ê8,Ö0];omega
theorem Vals.E90{xs:List V}{us:List Ä}(r:Vals xs us):us=[]↔xs=[]:=by
 cases r with
 |nil=>simp|cons _ _=>simp
end
def ixN(n:Nat)(i:Int):Option Nat:=if 0<=i then(if i < n then some i.toNat else none) else if -(n:Int)<=i then some (i + n).toNat else none
def atI{α:Type}(xs:List α)(i:Int):Option α:=(ixN xs.length i).bind λj=>xs[j]?
theorem k91{n:Nat}{i:Int}{j:Nat}(h:ixN n i=some j):seqIndex? i n=some j/\j < n/\-(n:Int)<=i/\i < n:=by
 unfold ixN at h;by_cases h0:0<=i
 ·rw[if_pos h0] at h;by_cases h1:i < n
  ·rw[if_pos h1] at h;have e:i.toNat=j:=Â1 h;exact⟨by rw[seqIndex_of h0 h1,e],by omega,by omega,h1⟩
  ·rw[if_neg h1] at h;cases h
 ·rw[if_neg h0] at h;by_cases h1:-(n:Int)<=i
  ·rw[if_pos h1] at h;have e:(i + n).toNat=j:=Â1 h;exact⟨by rw[seqIndex_neg ∅ h1,e],by omega,h1,by omega⟩
  ·rw[if_neg h1] at h;cases h
theorem l01{α:Type}{xs:List α}{i:Int}{v:α}(h:atI xs i=some v):∃ j,seqIndex? i xs.length=some j/\xs[j]?=some v/\j < xs.length/\-(xs.length:Int)<=i/\i < xs.length:=by
 unfold atI at h;cases e:ixN xs.length i with
 |none=>rw[e] at h;cases h
 |some j =>
  rw[e] at h;obtain⟨h1,h2,h3,h4⟩:=k91 e;exact⟨j,h1,h,h2,h3,h4⟩
theorem F00{α:Type}{xs:List α}{j:Nat}{v:α}(h:xs[j]?=some v):atI xs (j:Int)=some v:=by
 have hj:j < xs.length:=(ä.mp h).1;have e:ixN xs.length (j:Int)=some j:=by
  unfold ixN;rw[if_pos ∅,if_pos ∅];simp
 unfold atI;rw[e];exact h
def l11(b:Ò):Prop:=∀ o i,subscripted b false o i=operate [o,i] (Ò8 o i)
def IxR(X:Cx)(r:R2):Prop :=
 ∀ (value slice:Ò) (pins:List (Ç × Obj)) (s:Æ) (σ:St) (H:Hp) (x y:V) (v u:Ä) (Q:VK),Inv X pins σ H s->RelV x v->RelV y u->r x y H Q ->
  subscripted slice false v u=operate [v,u] (Ò8 v u)->Ï (Õ X.prog X.w) X.A (subscriptTail value slice v u) (EP X pins σ Q) X.xe s
def MtR(X:Cx)(id:String)(r:V->List V->Hp->VK->Prop):Prop :=
 ∀ (pins:List (Ç × Obj)) (s:Æ) (σ:St) (H:Hp) (x:V) (xs:List V) (v:Ä) (us:List Ä) (Q:VK),Inv X pins σ H s->RelV x v->Vals xs us->r x xs H Q ->
  Ï (Õ X.prog X.w) X.A (call (.builtin id) (v::us)) (EP X pins σ Q) X.xe s
section
variable {X:Cx}{a b:Ò}{ta tb:TE}{pos:Pos}
theorem P81{r:R2}(hr:IxR X r)(ha:PE X a ta)(hb:PE X b tb)(hs:l11 b):PE X (.Subscript a b pos) (tOp r ta tb):=by
 intro pins s σ H Q I h;exact Subscript_ (r22 ha hb I h λv u s2 x y H2 I2 rx ry q=>hr a b pins s2 σ H2 x y v u Q I2 rx ry q (hs _ _))
def B22(K:Ã):R2:=λx y H Q=>∃ p xs i v,x=.ref p/\y=.int i/\SqL K H p xs/\atI xs i=some v/\Q v H
def F52(K:Ã):R2:=λx y H Q=>∃ p xs i v,x=.ref p/\y=.int i/\SqT K H p xs/\atI xs i=some v/\Q v H
theorem T00:IxR X (B22 X.K):=by
 intro value slice pins s σ H x y v u Q I rx ry h hs;obtain⟨p,xs,i,z,rfl,rfl,hq,he,q⟩:=h;cases rx;obtain⟨t,rfl⟩:=ry;obtain⟨its,r,pl,hz⟩:=I.list hq;obtain⟨j,h1,h2,h3,h4,h5⟩:=l01 he;obtain⟨w,ew,rw'⟩:=r.get h2;have hl:=r.length;have hn:=Y10;have fin:EP X pins σ Q w s:=⟨z,H,I,rw',q⟩;by_cases h0:0<=i
 ·have hj:i.toNat=j:=by
   rw[seqIndex_of h0 h5] at h1;exact Â1 h1
  exact item_listR pl.isList h0 ∅ (by rw[hj];simpa using ew) fin hs
 ·have hj:(i + (its.toArray.size:Int)).toNat=j:=by
   rw[seqIndex_neg ∅ h4] at h1
   rw[Ø,← hl];exact Â1 h1
  exact subscriptTail_builtinR (x:=w) pl.isList.typeIs slot_list_getitem.lookup
   (wpAny_getItem_list_neg (Q:=λr s'=>r=w/\EP X pins σ Q r s') pl.isList ∅ (by rw[Ø] <;> omega) ∅ (by rw[hj];simpa using ew) ⟨rfl,fin⟩) hs
theorem d62:IxR X (F52 X.K):=by
 intro value slice pins s σ H x y v u Q I rx ry h hs;obtain⟨p,xs,i,z,rfl,rfl,hq,he,q⟩:=h;cases rx;obtain⟨t,rfl⟩:=ry;obtain⟨its,r,pl,hz⟩:=I.tuple hq;obtain⟨j,h1,h2,h3,h4,h5⟩:=l01 he;obtain⟨w,ew,rw'⟩:=r.get h2;have hl:=r.length;have hn:=Y10;have fin:EP X pins σ Q w s:=⟨z,H,I,rw',q⟩;exact subscriptTail_builtinR (x:=w) pl.typeIs slot_tuple_getitem.lookup
  (getItem_tuple (j:=j) (Q:=λr s'=>r=w/\EP X pins σ Q r s') pl ∅ ∅ (by rw[Ø,← hl];exact h1) (by simpa using ew) ⟨rfl,fin⟩) hs
theorem e81(its:List Ä)(n j:Nat)(u:Ä):À1 (·.setIfInBounds j u) { cls:=.type "list",data:=.seq its.toArray n }={ cls:=.type "list",data:=.seq (its.set j u).toArray n }:=by
 simp[À1]
theorem Inv.lst{pins:List (Ç × Obj)}{σ:St}{H:Hp}{s:Æ}{p:Ç}{xs:List V}(I:Inv X pins σ H s)(h:H p=some (.lst xs)) :
  ∃ (its:List Ä) (n:Nat),Vals xs its/\s.heap.get? p=some { cls:=.type "list",data:=.seq its.toArray n }/\xs.length<=sizeLine:=by
 obtain⟨z,its,n,r,e⟩:=I.hok p _ h;exact⟨its,n,r,e,z⟩
theorem Inv.d72{pins:List (Ç × Obj)}{σ:St}{H:Hp}{s:Æ}{p:Ç}{xs ys:List V}{its its':List Ä}{n n':Nat}{f:Obj->Obj}(I:Inv X pins σ H s)(h:H p=some (.lst xs))
  (ho:s.heap.get? p=some { cls:=.type "list",data:=.seq its.toArray n }) (hf:f { cls:=.type "list",data:=.seq its.toArray n }={ cls:=.type "list",data:=.seq its'.toArray n' }) (r:Vals ys its') (hz:ys.length<=sizeLine) (t:Nat) :
  Inv X pins σ (upd H p (.lst ys)) { s with heap:=s.heap.update p f,toks:=t }:=by
 have e:(s.heap.update p f).get? p=some { cls:=.type "list",data:=.seq its'.toArray n' }:=by
  rw[Æ3 f ho (by rw[hf] <;> rfl),hf]
 refine I.write (x:=p) (e:=p) (by rw[h];trivial) (.inl rfl) (λb u hb q=>(Ë2 _ _ (À8 hb)).trans q) ⟨_,e⟩ ?_
 exact⟨hz,its',n',r,e⟩
def s12:V->V->V->Hp->(Hp->Prop)->Prop:=λo i v H Q=>∃ p xs k j,o=.ref p/\i=.int k/\H p=some (.lst xs)/\ixN xs.length k=some j/\Q (upd H p (.lst (xs.set j v)))
theorem set_list:A62 X s12:=by
 intro pins s σ H o i v ov iv u Q I ro ri rv h;obtain⟨p,xs,k,j,rfl,rfl,hp,hj,q⟩:=h;cases ro;obtain⟨t,rfl⟩:=ri;obtain⟨its,n,r,ho,hz⟩:=I.lst hp;obtain⟨h1,h2,h3,h4⟩:=k91 hj;have hl:=r.length;have hn:=Y10;have I':Inv X pins σ (upd H p (.lst (xs.set j v))) { s with heap:=s.heap.update p (À1 (·.setIfInBounds j u)) } :=
  I.d72 hp ho (e81 its n j u) (r.set rv j) (by rw[Á3];exact hz) s.toks
 by_cases h0:0<=k
 ·have hk:k.toNat=j:=by
   rw[seqIndex_of h0 h4] at h1;exact Â1 h1
  exact PySem.W.ki_setAt ho h0 ∅ (by rw[Ø,← hl];exact h4) (by rw[hk];exact⟨_,I',q⟩)
 ·have hk:(k + (its.toArray.size:Int)).toNat=j:=by
   rw[seqIndex_neg ∅ h3] at h1
   rw[Ø,← hl];exact Â1 h1
  exact PySem.W.ki_setBack ho ∅ (by rw[Ø,← hl];exact h3) ∅ (by rw[hk];exact⟨_,I',q⟩)
theorem M20(lo hi:Option Int)(n:Nat):(Î0 lo hi none n).1=((HT.sIx n 0 lo:Nat):Int)/\(Î0 lo hi none n).2.1=((HT.sIx n n hi:Nat):Int)/\(Î0 lo hi none n).2.2=1:=by
 refine⟨?_,?_,rfl⟩
 ·cases lo with
  |none=>simp[Î0,HT.sIx]
  |some i =>
   simp only[Î0,HT.sIx,getD_none,show(1:Int) > 0 by decide,if_true]
   by_cases h:i < 0
   ·simp only[h,if_true] <;> omega
   ·simp only[h,if_false] <;> omega
 ·cases hi with
  |none=>simp[Î0,HT.sIx]
  |some i =>
   simp only[Î0,HT.sIx,getD_none,show(1:Int) > 0 by decide,if_true]
   by_cases h:i < 0
   ·simp only[h,if_true] <;> omega
   ·simp only[h,if_false] <;> omega
theorem F10(its:List Ä)(lo hi:Option Int):slicePick its.toArray lo hi none=((its.drop (HT.sIx its.length 0 lo)).take (HT.sIx its.length its.length hi - HT.sIx its.length 0 lo)).toArray:=by
 obtain⟨h1,h2,h3⟩:=M20 lo hi its.toArray.size;unfold slicePick;rw[h1,h2,h3];simp only[sliceRange_one,pick_run,Ø] <;> rfl
def F62(K:Ã):V->Option Int->Option Int->Hp->VK->Prop:=λx lo hi H Q=>∃ a xs,x=.ref a/\SqL K H a xs/\∀ p,H p=none->Q (.ref p) (upd H p (.lst (B91 xs lo hi)))
theorem P91:SlR X (F62 X.K):=by
 intro pins s σ H x v vl vu lo hi sl Q I rx hs pl pu h;obtain⟨a,xs,rfl,hx,q⟩:=h;cases rx;obtain⟨its,r,ht,hz⟩:=I.list hx;have hlen:=r.length;refine⟨"list",_,slot_list_getitem.lookup,ht.isList.typeIs,?_⟩;refine wpAny_getItem_list_slice ht.isList hs pl pu .none (by simp) ?_ (by rw[Ø] <;> omega)
 rw[F10,← hlen];refine⟨.ref s.heap.objs.size,_,I.laid (t':=s.toks) (o:=.lst (B91 xs lo hi)) (λb ob q=>Â _ q) (Ë _) ?_,rfl,q _ (I.hok.fresh (Ë _))⟩;exact⟨â (x60 xs lo hi) hz,_,0,(r.drop (HT.sIx xs.length 0 lo)).take (HT.sIx xs.length xs.length hi - HT.sIx xs.length 0 lo),É _ rfl⟩
theorem M30:e30 X (.builtin "len") (λxs H Q=>∃ p ys,xs=[.ref p]/\(SqL X.K H p ys∨SqT X.K H p ys)/\Q (.int ys.length) H):=by
 intro pins s σ H xs us Q I r h;obtain⟨p,ys,rfl,hq,q⟩:=h;obtain⟨u,rfl,rx⟩:=vals1 r;cases rx;have hn:=Y10;rcases hq with hq | hq
 ·obtain⟨its,r',pl,hz⟩:=I.list hq;have hlen:=r'.length;exact Calls.call_len_list pl.isList (by simp only[Ø] <;> omega) ⟨.int ys.length,H,I.tok _,⟨s.toks + 1,by rw[Ø,hlen]⟩,q⟩
 ·obtain⟨its,r',pl,hz⟩:=I.tuple hq;have hlen:=r'.length;exact len_tuple pl (by simp only[Ø] <;> omega) ⟨.int ys.length,H,I.tok _,⟨s.toks + 1,by rw[Ø,hlen]⟩,q⟩
theorem M40:e30 X (.type "list") (λxs H Q=>∃ p ys,xs=[.ref p]/\(SqL X.K H p ys∨SqT X.K H p ys)/\∀ l,H l=none->Q (.ref l) (upd H l (.lst ys))):=by
 intro pins s σ H xs us Q I r h;obtain⟨p,ys,rfl,hq,q⟩:=h;obtain⟨u,rfl,rx⟩:=vals1 r;cases rx;have fin:∀ (its:List Ä),Vals ys its->ys.length<=sizeLine->∀ (h':é) (c':Nat),(∀ b o',s.heap.get? b=some o'->h'.get? b=some o') ->
   h'.get? s.heap.objs.size=some { cls:=.type "list",dict:=none,data:=.seq its.toArray c',slots:=#[] }->EP X pins σ Q (.ref s.heap.objs.size) { s with heap:=h' }:=λits r' hz h' c' kp e =>
  ⟨.ref s.heap.objs.size,_,I.laid (t':=s.toks) kp (Ë _) (show g60 X.prog X.w _ h' _ (.lst ys) from⟨hz,its,c',r',e⟩),rfl,q _ (I.hok.fresh (Ë _))⟩
 rcases hq with hq | hq
 ·obtain⟨its,r',pl,hz⟩:=I.list hq;have hlen:=r'.length;obtain⟨o,ho,hc,n,hd⟩:=pl.isList;exact call_list_seq p (.inl rfl) ho hc hd (λh' c' kp e=>fin its r' hz h' c' kp e) (by simp only[Ø] <;> omega)
 ·obtain⟨its,r',pl,hz⟩:=I.tuple hq;have hlen:=r'.length;obtain⟨o,ho,hc,n,hd⟩:=pl;exact call_list_seq p (.inr rfl) ho hc hd (λh' c' kp e=>fin its r' hz h' c' kp e) (by simp only[Ø] <;> omega)
theorem q50:e30 X (.type "tuple") (λxs H Q=>∃ p ys,xs=[.ref p]/\((SqL X.K H p ys/\∀ l,H l=none->Q (.ref l) (upd H l (.tup ys)))∨(SqT X.K H p ys/\Q (.ref p) H))):=by
 intro pins s σ H xs us Q I r h;obtain⟨p,ys,rfl,h⟩:=h;obtain⟨u,rfl,rx⟩:=vals1 r;cases rx;rcases h with ⟨hq,q⟩ | ⟨hq,q⟩
 ·obtain⟨its,r',pl,hz⟩:=I.list hq;have hlen:=r'.length;refine call_tuple_list pl.isList (λh' kp=>?_) (by simp only[Ø] <;> omega)
  have I1:Inv X pins σ H { s with heap:=h' }:=I.kept (t':=s.toks) kp;have I2:Inv X pins σ (upd H h'.objs.size (.tup ys)) { s with heap:=h'.push { cls:=.type "tuple",data:=.seq its.toArray } } :=
   I1.laid (t':=s.toks) (λb o e=>Â _ e) (Ë _) (show g60 X.prog X.w _ _ _ (.tup ys) from⟨hz,its,r',Ñ8.new _ _⟩)
  exact⟨.ref h'.objs.size,_,I2,rfl,q _ (I1.hok.fresh (Ë _))⟩
 ·obtain⟨its,r',pl,hz⟩:=I.tuple hq;exact call_tuple_same pl ⟨.ref p,H,I,rfl,q⟩
def tyV(K:Ã)(T:String)(x:V)(H:Hp):Prop:=match x with
 |.str _=>T="str"|.int _=>T="int"
 |.ref p=>(T="list"/\∃ xs,SqL K H p xs)∨(T="tuple"/\∃ o,K.lookup p=some o/\o.cls=.type "tuple"/\o.dict=none) ∨
   (T="dict"/\((∃ kvs,H p=some (.dK kvs))∨∃ kvs,H p=some (.dT kvs)))∨(T="set"/\∃ S n,H p=some (.set S n))
 |_=>False
theorem K61{pins:List (Ç × Obj)}{σ:St}{H:Hp}{s:Æ}{T:String}{x:V}{v:Ä}(I:Inv X pins σ H s)(r:RelV x v)(ty:tyV X.K T x H) :
  s.TypeIs v T/\∀ a,v=.ref a->∃ ob,s.heap.get? a=some ob/\ob.dict=none:=by
 cases x with
 |str z =>
  obtain⟨t,rfl⟩:=r;cases (show T="str" from ty);exact⟨typeIs_str s z t,λ_ e=>nomatch e⟩
 |int i =>
  obtain⟨t,rfl⟩:=r;cases (show T="int" from ty);exact⟨Ú6 s i t,λ_ e=>nomatch e⟩
 |ref p =>
  cases r;rcases ty with ⟨rfl,xs,hq⟩ | ⟨rfl,o,hk,hc,hd⟩ | ⟨rfl,hk⟩ | ⟨rfl,S,n,hk⟩
  ·obtain⟨its,_,pl,_⟩:=I.list hq;refine⟨pl.isList.typeIs,λa e=>?_⟩;cases e;obtain⟨o,n,e,c,hd,_⟩:=pl;exact⟨o,e,hd⟩
  ·refine⟨⟨o,I.kIn p o hk,hc⟩,λa e=>?_⟩;cases e;exact⟨o,I.kIn _ o hk,hd⟩
  ·have z:∃ o,s.heap.get? p=some o/\o.ExactDict:=by
    rcases hk with ⟨kvs,hk⟩ | ⟨kvs,hk⟩
    ·obtain⟨_,_,_,_,o,_,_,e,ex,_⟩:=I.hok p _ hk;exact⟨o,e,ex⟩
    ·obtain⟨_,_,_,_,o,_,_,e,ex,_⟩:=I.hok p _ hk;exact⟨o,e,ex⟩
   obtain⟨o,e,ex⟩:=z;refine⟨⟨o,e,ex.1⟩,λa e2=>?_⟩;cases e2;exact⟨o,e,ex.2.1⟩
  ·obtain⟨o,_,_,_,e,ex,_⟩:=I.hok p _ hk;refine⟨⟨o,e,ex.1⟩,λa e2=>?_⟩;cases e2;exact⟨o,e,ex.2.1⟩
 |_=>exact À3 ty
def F72(K:Ã)(T:String)(r:V->List V->Hp->VK->Prop)(to:TE):TE:=λσ H Q=>to σ H λx H1=>tyV K T x H1/\r x [] H1 Q
def tBM(K:Ã)(T:String)(r:V->List V->Hp->VK->Prop)(to:TE)(t:TA):TE:=λσ H Q=>to σ H λx H1=>tyV K T x H1/\t σ H1 λxs H2=>r x xs H2 Q
variable {o e:Ò}{es:List Ò}{to:TE}{t:TA}{name:Str}{apos cpos:Pos}{T id:String}{r:V->List V->Hp->VK->Prop}
theorem d82(pa:PlainAttrs T)(slot:Slot T name id)(hty:typeOf (.builtin id)=pure (.type "method_descriptor"))(hm:MtR X id r)(ho:PE X o to)
  (hbase:attributeBase o name X.env (eval o X.env)=eval o X.env:=by rfl) (hline:(apos.endLine == cpos.line)=true:=by rfl):PE X (.Call (.Attribute o name apos) [] [] cpos) (F72 X.K T r to):=by
 intro pins s σ H Q I h;refine wpAny_Call_method0_late hbase hline (thn (ho pins s σ H _ I h) λv s1 ⟨x,H1,I1,r1,ty,q1⟩=>?_);obtain⟨h1,h2⟩:=K61 I1 r1 ty;exact⟨T,id,pa,slot,hty,h1,h2,Þ7 rfl (PySem.evalArgs_none (hm pins s1 σ H1 x [] v [] Q I1 r1 .nil q1))⟩
theorem Q01(pa:PlainAttrs T)(slot:Slot T name id)(hty:typeOf (.builtin id)=pure (.type "method_descriptor"))(hm:MtR X id r)(ho:PE X o to)(ha:PA X (e::es) t)
  (hbase:attributeBase o name X.env (eval o X.env)=eval o X.env:=by rfl)
  (hfew:((Õ4 cpos (ü (e::es) X.env)).all (λx=>!x.1)&&(backToKw cpos (keywordEach [] X.env)).all (λx=>x.1.isSome)
   &&decide ((e::es).length + ([]:List Keyword).length + (if ([]:List Keyword).isEmpty then 0 else 1) < 30))=true:=by rfl)
  (hline:(apos.endLine == cpos.line)=true:=by rfl) (hs:ü (e::es) X.env=(false,eval e X.env)::ü es X.env:=by rfl) (hplain:(Õ4 cpos (ü es X.env)).any (·.1)=false:=by rfl) :
  PE X (.Call (.Attribute o name apos) (e::es) [] cpos) (tBM X.K T r to t):=by
 intro pins s σ H Q I h;refine wpAny_Call_method_late hbase hfew hline rfl (thn (ho pins s σ H _ I h) λv s1 ⟨x,H1,I1,r1,ty,q1⟩=>?_);obtain⟨h1,h2⟩:=K61 I1 r1 ty;refine⟨T,id,pa,slot,hty,h1,h2,?_⟩;have hA:=ha cpos pins s1 σ H1 _ I1 q1;rw[hs] at hA ⊢;refine Þ7 (by show(false || (Õ4 cpos (ü es X.env)).any (·.1))=false;rw[hplain] <;> rfl) (ß4 ?_)
 exact thn hA λus s2 ⟨vs,H2,I2,r2,q2⟩=>hm pins s2 σ H2 x vs v us Q I2 r1 r2 q2
end
def MtM(X:Cx)(id:String)(r:V->List V->Hp->VK->Prop):Prop :=
 ∀ (pins:List (Ç × Obj)) (s:Æ) (σ:St) (H:Hp) (x:V) (xs:List V) (v:Ä) (us:List Ä) (Q:VK),Inv X pins σ H s->RelV x v->Vals xs us->r x xs H Q ->
  Ï (Õ X.prog X.w) X.A (call (.builtin id) (v::us)) (EP X pins σ Q) X.xe s
theorem Vals.one:∀ {x:V}{us:List Ä},Vals [x] us->∃ u,us=[u]/\RelV x u
 |_,_,.cons r .nil=>⟨_,rfl,r⟩
theorem Vals.eraseIdx:∀ {xs:List V}{us:List Ä} (i:Nat),Vals xs us->Vals (xs.eraseIdx i) (us.eraseIdx i)
 |_,_,_,.nil=>.nil|_,_,0,.cons _ t=>t|_,_,i + 1,.cons r t=>.cons r (Vals.eraseIdx i t)
theorem Vals.reverse{xs:List V}{us:List Ä}(h:Vals xs us):Vals xs.reverse us.reverse:=by
 induction h with
 |nil=>exact .nil|cons r t ih=>rw[Ô0,Ô0];exact Vals.append ih (.cons r .nil)
theorem Vals.rep{xs:List V}{us:List Ä}(h:Vals xs us):∀ k:Nat,Vals (î k xs).flatten (î k us).flatten
 |0=>.nil
 |k + 1=>by
  rw[Ç3,Ç3,Ë7,Ë7];exact Vals.append h (Vals.rep h k)
theorem foldl_rep(its:List Ä):∀ (k:Nat) (acc:List Ä),
  foldl (λx1 x2=>x1++x2) acc.toArray (î k its.toArray)=(acc++(î k its).flatten).toArray
 |0,acc=>by simp
 |k + 1,acc=>by
  have e:acc.toArray++its.toArray=(acc++its).toArray:=by simp
  have e2:(acc++its)++(î k its).flatten=acc++(î (k + 1) its).flatten:=by
   rw[Ç3,Ë7,Ù3]
  rw[← e2,← foldl_rep its k (acc++its),← e,Ç3,List.foldl_cons]
section
variable {X:Cx}{pins:List (Ç × Obj)}{σ:St}{H:Hp}{s:Æ}{l b:Ç}{xs ys zs:List V}
theorem Inv.s22{its its':List Ä}{n:Nat}{f:Array Ä->Array Ä}{t':Nat}(I:Inv X pins σ H s)(hH:H l=some (.lst xs))
  (e:s.heap.get? l=some { cls:=.type "list",data:=.seq its.toArray n }) (hf:f its.toArray=its'.toArray) (hv:Vals ys its') (hz:ys.length<=sizeLine) :
  Inv X pins σ (upd H l (.lst ys)) { s with heap:=s.heap.update l (À1 f),toks:=t' }:=by
 have q:=PySem.IsL.update e f;rw[hf] at q;refine I.write (x:=l) (e:=l) (by rw[hH];exact trivial) (.inl rfl) (λb' u hb hu=>(Ë2 s.heap (À1 f) (À8 hb)).trans hu) ⟨_,q⟩ ?_
 exact⟨hz,its',_,hv,q⟩
theorem Inv.s32{its:List Ä}{t':Nat}(I:Inv X pins σ H s)(hv:Vals ys its)(hz:ys.length<=sizeLine) :
  Inv X pins σ (upd H s.heap.objs.size (.lst ys)) { s with heap:=s.heap.push { cls:=.type "list",data:=.seq its.toArray },toks:=t' } :=
 I.laid (λ_ _ q=>Â _ q) (Ë _) ⟨hz,its,0,hv,É _ rfl⟩
theorem Inv.fresh(I:Inv X pins σ H s):H s.heap.objs.size=none:=I.hok.fresh (Ë _)
theorem Inv.p22(I:Inv X pins σ H s)(hH:H l=some (.lst xs)):xs.length<=sizeLine/\∃ (its:List Ä) (n:Nat),Vals xs its/\xs.length=its.length/\s.heap.get? l=some { cls:=.type "list",data:=.seq its.toArray n }:=by
 obtain⟨z,its,n,r,e⟩:=I.hok l _ hH;exact⟨z,its,n,r,r.length,e⟩
theorem C01{n:Nat}(h:n<=sizeLine):Ì9 n=false:=by
 unfold Ì9;exact decide_eq_false ∅
end
section
variable {X:Cx}
def l21:V->List V->Hp->VK->Prop:=λx vs H Q=>∃ l xs y,x=.ref l/\vs=[y]/\H l=some (.lst xs)/\xs.length < sizeLine/\Q .non (upd H l (.lst (xs++[y])))
theorem M50:MtM X "list.append" l21:=by
 intro pins s σ H x vs v us Q I rx rv h;obtain⟨l,xs,y,rfl,rfl,hH,hz,q⟩:=h;cases rx;obtain⟨u,rfl,ru⟩:=rv.one;obtain⟨z,its,n,r,hl,e⟩:=I.p22 hH;refine Ë6 F.slot_list_append ⟨_,e,rfl⟩ F.entry_list_append (F.args_list_append_2 _ _) (PySem.list_append l its.toArray n u (by rw[Ø];omega)) ⟨e,?_⟩
 refine⟨.non,_,I.s22 (its':=its++[u]) hH e (by simp) (r.append (.cons ru .nil)) ?_,rfl,q⟩
 rw[À6,List.length_singleton];omega
def B32:V->List V->Hp->VK->Prop:=λx vs H Q=>∃ l xs i k y,x=.ref l/\vs=[.int i]/\H l=some (.lst xs)/\-(2 ^ 63)<=i/\i < 2 ^ 63/\seqIndex? i xs.length=some k/\xs[k]?=some y/\Q y (upd H l (.lst (xs.eraseIdx k)))
def F82:R2:=λx y H Q=>∃ l b xs zs,x=.ref l/\y=.ref b/\H l=some (.lst xs)/\H b=some (.lst zs)/\xs.length + zs.length<=sizeLine/\∀ p,H p=none->Q (.ref p) (upd H p (.lst (xs++zs)))
theorem l31:OpR X (Å8 .Add) F82:=by
 intro pins s σ H x y v u Q I rx ry h;obtain⟨l,b,xs,zs,rfl,rfl,hH,hB,hz,q⟩:=h;cases rx;cases ry;obtain⟨z,its,n,r,hl,e⟩:=I.p22 hH;obtain⟨z2,its2,n2,r2,hl2,e2⟩:=I.p22 hB;refine PySem.P.add_list e e2 ?_ (by rw[Ø,Ø];omega)
 have ea:its.toArray++its2.toArray=(its++its2).toArray:=by simp
 rw[ea];exact⟨.ref _,_,I.s32 (t':=s.toks) (r.append r2) (by rw[À6];omega),rfl,q _ I.fresh⟩
theorem len_rep{α:Type}(xs:List α)(k:Nat):(î k xs).flatten.length=k * xs.length:=by
 induction k with
 |zero=>simp|succ k ih=>rw[Ç3,Ë7,À6,ih,Nat.succ_mul,Nat.add_comm]
end
end L2
namespace Att
open PySem PySem.W PySem.Calls PyProof.Rows
theorem x70{P:Params}{h:é}:∀ (ns:List Int) (vs:List Ä),WellAll P h vs (ns.map WData.int)->Ë1 vs ns:=by
 intro ns
 induction ns with
 |nil =>
  intro vs w;rw[map_nil] at w;cases w;exact .nil
 |cons n ns ih =>
  intro vs w;rw[Â2] at w;cases w with
  |cons a b =>
   cases a;exact .cons _ _ (ih _ b)
theorem l41{l:OpenLaw}{n:Nat}(hn:l.most=some n){P:Params}{h:é}{args:List WData}{vals:List Ä}
  (hpre:l.row.toRowW.claim.pre args=true) (hwl:WellAll P h vals args) :
  ∃ a vs ns,vals=[ð a]/\args=[WData.list (ns.map WData.int)]/\h.get? a=some { cls:=.type "list",data:=.seq vs.toArray }/\Ë1 vs ns/\ns.length<=n:=by
 have hsh:WShape.hasAll [] args [.list .int]=true:=(pre_splitW hpre).1;have hc:l.pre.holds [] { args:=args }=true:=(pre_splitW hpre).2;obtain⟨d,r,rfl,h1,h2⟩:=hasAllW_cons hsh;obtain rfl:=hasAllW_nil h2;obtain⟨xs,rfl,h3⟩:=hasW_list h1;obtain⟨ns,rfl⟩:=items_int h3;have hlen:ns.length<=n:=by
  unfold OpenLaw.pre at hc;have h4:(WTm.not (.lt (.lit (.int (n:Int))) (.len (.arg 0)))).holds [] { args:=[.list (ns.map .int)] }=true:=by
   have h4:=(holds_andW hc).1;rw[hn] at h4;exact h4
  have h5:=condW_of h4 (w_not (w_lt w_lit (w_len_list (w_arg rfl))));rw[Ì] at h5;refine Nat.le_of_not_lt λq=>?_;have q':(n:Int) < ((ns.length:Nat):Int):=by omega
  first
   |(rw[decide_eq_true q'] at h5;exact absurd h5 (-0))
   |(simp at h5;omega)
 cases hwl with
 |cons w1 w2 =>
  cases w2;cases w1 with
  |list ho hall=>exact⟨_,_,ns,rfl,rfl,ho,x70 ns _ hall,hlen⟩
theorem l51(l:OpenLaw)(args:List WData):l.row.toRowW.claim.post args (.bool true) args=true :=
 postW_of (r:=l.row.toRowW) (X:=(true == true))
  (show WShape.has [] (.bool true) .bool=true by first | rfl | decide | simp[WShape.has,WShape.arms,WShape.armsAll])
  (show(WTm.eq .res (.lit (.bool true))).value [] { args:=args,res:=some (.bool true),after:=args }=some (.bool (true == true)) from w_eq_bool (w_res rfl) w_lit) rfl
theorem T10{l:OpenLaw}{n:Nat}{q:Ý}{loose:List Str}{XP:(Str->Option Ä)->é->Prop}{YP:ç->é->Prop}{d:DefRec}
  (hn:l.most=some n) (hdf:d.params.defaults=[])
  (call:∀ (w:ç) (s₀ s₁:Æ) (mg mb:Str->Option Ä) (fa:Ç) (o:Obj) (pm cd doc:Ä) (a:Ç) (vs:List Ä) (ns:List Int),
   Ground q loose [] XP w s₀ mg mb s₁.heap->YP w s₁.heap ->
   s₁.heap.get? fa=some o->o.data=.func (docDef d.name d.params d.body d.scope pm cd doc)->s₁.heap.CodeRec cd d.name->mg d.name=some (.ref fa) ->
   s₁.heap.get? a=some { cls:=.type "list",data:=.seq vs.toArray }->Ë1 vs ns->ns.length<=n->s₁.gens=#[] ->
   Ì3 (Õ l.prog w) Ü0 (.call (.ref fa) ⟨[.ref a],[]⟩) (λr s'=>r=.ok (.ret (.bool true))/\OldK s₁.heap s'.heap/\s'.os=s₁.os/\Ó1 s'.gens) s₁) :
  WalkO q loose XP YP l.row.toRowW d [] (λf vs=>PySem.call f vs):=by
 intro w s₀ s₁ mg mb G Y fa o pm cd doc dV kV ho hd hcd hD hmg hg args vals as hpre hlay hrd hwl hlo;obtain rfl:dV=.none:=Dflts.none hD hdf;obtain rfl:kV=.none:=Dflts.noKw hD;obtain⟨a,vs,ns,rfl,rfl,hobj,hints,hlen⟩:=l41 hn hpre hwl;refine enter_call (Æ2 (call w s₀ s₁ mg mb fa o pm cd doc a vs ns G Y ho (fd_plain hd) hcd hmg hobj hints hlen hg) λr s' hq=>?_);obtain⟨rfl,h2,h3,h4⟩:=hq;exact⟨.inl ⟨.bool true,.bool true,[],rfl,λ_=>rfl,.bool true,l51 l _,λ_=>⟨List.Pairwise.nil,λ_ hm=>(nomatch hm)⟩⟩,h2,h3,h4⟩
end Att
namespace L2
open PySem PySem.Spec PyProof.Rows
theorem M60:∀ {vs:List Ä}{ns:List Int},Ë1 vs ns->Vals (ns.map V.int) vs
 |_,_,.nil=>.nil|_,_,.cons n t h=>.cons ⟨t,rfl⟩ (M60 h)
def F20(s:Ã8):Arguments:=match s with
 |.FunctionDef _ a _ _ _ _ _ _ _ _=>a|_=>{ posonlyargs:=[],args:=[],vararg:=none,kwonlyargs:=[],kw_defaults:=[],kwarg:=none,defaults:=[] }
def i10(s:Ã8):List Stmt:=match s with
 |.FunctionDef _ _ b _ _ _ _ _ _ _=>b|_=>[]
def b70(s:Ã8):Scope:=match s with
 |.FunctionDef _ _ _ _ _ _ sc _ _ _=>sc|_=>{ kind:=.function,names:=[],isGenerator:=false,isCoroutine:=false }
abbrev CX0:CXT:=λ_ _ _ _ _ _=>False
structure Fun(K:PySem.W.Frag)(x qual:Str)(st:Stmt)(f:Addr)(fd:FuncData):Prop where
 ex:∃ (oc:Value) (od:Option Addr) (kV doc pm:Value) (an:Option Addr) (cdv ct:Value) (osl:Array (Option Value)),
  fd=fnOf x qual (F20 st) (i10 st) (b70 st) .none kV doc pm an cdv ct/\K.lookup f=some ⟨oc,od,.func fd,osl⟩/\PySem.W.codeIn K cdv qual=true
 kp:PySem.W.keepIn K (.ref f)=true
section
variable {P:Ý}{w:ç}{K:Ã}{mg:Str->Option Ä}{base:é}
theorem Fun.binds{x qual:Str}{st:Ã8}{f:Ç}{fd:Å9}{ps:List Str}(F:Fun K x qual st f fd)
  (h:∀ (kV doc pm:Ä) (an:Option Ç) (cdv ct:Ä) (us:List Ä),us.length=ps.length->bindArgs (fnOf x qual (F20 st) (i10 st) (b70 st) .none kV doc pm an cdv ct) ⟨us,[]⟩=pure (ps.zip us)):Binds K fd ps []:=by
 obtain⟨oc,od,kV,doc,pm,an,cdv,ct,osl,rfl,lk,hcd⟩:=F.ex;exact .all (h kV doc pm an cdv ct)
end
section
variable {X:Cx}
theorem pv(i:Nat){x:Str}{pos:Pos}(hN:X.N[i]?=some x:=by rfl)(hv:Vis X.env.scope x:=by first | exact Ò1 rfl | exact Ù0 (Ò1 rfl) | exact Ù0 (Ù0 rfl))(hd:(x == ("__debug__":Str))=false:=by decide)
  (hcd:(x == ("__classdict__":Str))=false:=by decide):PE X (.Name x pos) (J91 i):=k20 hN hv hd hcd
end
theorem F92{A B:Prop}(h:B):if false=true then A else B:=by
 rw[if_neg Ñ];exact h
theorem G02{c A B:Prop}[Decidable c](h1:c->A)(h2:¬ c->B):if c then A else B:=by
 by_cases h:c
 ·rw[if_pos h];exact h1 h
 ·rw[if_neg h];exact h2 h
def a30(H H':Hp):Prop:=∀ b o,H b=some o->H' b=some o
theorem a30.refl(H:Hp):a30 H H:=λ_ _ h=>h
theorem a30.trans{H H1 H2:Hp}(a:a30 H H1)(b:a30 H1 H2):a30 H H2:=λc o h=>b c o (a c o h)
end L2
set_option maxHeartbeats 4000000
namespace L2
open PySem
abbrev NoX:Ä->Æ->Prop:=λ_ _=>False
theorem F30(env:Env):∀ (names:List (Str × Ê9)) (acc:List (Str × Ç)),(∀ y∈names,y.2=.free->∃ c,env.cells.lookup y.1=some c)->(∀ x c,acc.lookup x=some c->env.cells.lookup x=some c) ->
  ∃ cl:List (Str × Ç),(forIn names acc λ(x:Str × Ê9) (r:List (Str × Ç))=>(if (x.2 == .free)=true then do let c ← cellOf env x.1;pure (yield ((x.1,c)::r)) else pure (yield r):Sem (ForInStep (List (Str × Ç)))))=pure cl /\
   (∀ x c,cl.lookup x=some c->env.cells.lookup x=some c)/\(∀ x c,acc.lookup x=some c->∃ c',cl.lookup x=some c')/\(∀ y∈names,y.2=.free->∃ c,cl.lookup y.1=some c)
 |[],acc,_,ha=>⟨acc,by simp,ha,λx c e=>⟨c,e⟩,λy hy=>absurd hy (by simp)⟩
 |(n,k)::r,acc,hf,ha=>by
  by_cases hk:k=.free
  ·subst hk;obtain⟨c,hc⟩:=hf (n,.free) Ê rfl;have hcell:cellOf env n=pure c:=by unfold cellOf;rw[hc]
   obtain⟨cl,e,h1,h2,h3⟩:=F30 env r ((n,c)::acc) (λy hy=>hf y (È _ hy)) (λx c' e=>by
    rw[À9] at e;by_cases hx:(x == n)=true
    ·rw[hx] at e;have:x=n:=by simpa using hx
     subst this;cases e;exact hc
    ·rw[show(x == n)=false by simpa using hx] at e
     exact ha x c' e)
   refine⟨cl,?_,h1,λx c' e'=>?_,λy hy hyk=>?_⟩
   ·rw[Ï8];simp only[beq_self_eq_true,if_true,hcell,pure_bind];exact e
   ·by_cases hx:(x == n)=true
    ·exact h2 x c (by rw[À9,hx])
    ·exact h2 x c' (by rw[À9,show(x == n)=false by simpa using hx];exact e')
   ·rcases Ü.mp hy with rfl | hy
    ·exact h2 n c (by simp[À9])
    ·exact h3 y hy hyk
  ·obtain⟨cl,e,h1,h2,h3⟩:=F30 env r acc (λy hy=>hf y (È _ hy)) ha;refine⟨cl,?_,h1,h2,λy hy hyk=>?_⟩
   ·rw[Ï8];have hb:((k == ó)=true)=False:=by simpa using hk
    simp only[hb,if_false,pure_bind];exact e
   ·rcases Ü.mp hy with rfl | hy
    ·exact absurd hyk hk
    ·exact h3 y hy hyk
theorem l61(hf:∀ y∈scope.names,y.2=.free->∃ c,env.cells.lookup y.1=some c) :
  ∃ cl:List (Str × Ç),closureFor scope env=pure cl/\(∀ x c,cl.lookup x=some c->env.cells.lookup x=some c)/\(∀ y∈scope.names,y.2=.free->∃ c,cl.lookup y.1=some c):=by
 obtain⟨cl,e,h1,_,h3⟩:=F30 env scope.names [] hf (λx c e=>by simp at e)
 refine⟨cl,?_,h1,h3⟩;simp only[closureFor];exact(congrArg (λt=>t >>= λr=>(pure r:Sem _)) e).trans (by simp)
section
variable {P:Ý}{w:ç}{A:õ}{R:Result->Æ->Prop}{s:Æ}
theorem l71{el tg src:Ò}{tests:List Ò}{sc:ø}{ps:Pos}{itv av:Ä}{en:Env}(J:Nat->Æ->Prop)
  (turn:∀ n s,J n s->Ï (Õ P w) A (Í2 itv) (λr s1=>match r with
   |none=>R (.ok .next) s1
   |some v=>Ï (Õ P w) A (Þ4 tg itv v) (λ_ s2=>Ï (Õ P w) A (Ø6 tg en v) (λ_ s3 =>
     Ï (Õ P w) A (forIn tests true λc r=>if r=true then do let ok ← isTrue c en (eval c en);pure (yield ok) else pure (yield r)) (λok s4 =>
      if ok=true then Ï (Õ P w) A (eval el en) (λx s5 =>
       Ï (Õ P w) A (call (.builtin "list.append") [av,x]) (λ_ s6=>∃ m,m < n/\J m s6) NoX s5) NoX s4
      else ∃ m,m < n/\J m s4) NoX s3) NoX s2) NoX s1) NoX s)
  (n:Nat) (h:J n s) :
  Ì3 (Õ P w) A (.compLoop (.ListComp el [⟨tg,src,tests,0⟩] sc ps) 0 itv av en) R s:=by
 refine codeAny_loop rfl J (λn s hI=>?_) n h;show Ï _ A ((compTurn (.ListComp el [⟨tg,src,tests,0⟩] sc ps) 0 itv av en).onRaise (λx=>do noteFrame x en;theTreesLotGoes x)) _ _ s;refine wpAny_noted ?_;rw[compTurn_list];refine À (Ú0 (À (Â7 (turn n s hI) (λr s1 h1=>?_) λ_ _ x=>x.elim)));cases r with
 |none=>exact Å h1
 |some v =>
  refine À (Â7 h1 (λ_ s2 h2=>?_) λ_ _ x=>x.elim);refine À (Â7 h2 (λ_ s3 h3=>À (Â7 h3 (λok s4 h4=>?_) λ_ _ x=>x.elim)) λ_ _ x=>x.elim);cases ok with
  |false=>exact Å ⟨rfl,h4⟩|true=>exact À (À (Â7 h4 (λx s5 h5=>À (Â7 h5 (λ_ s6 h6=>Å (Å ⟨rfl,h6⟩)) λ_ _ x=>x.elim)) λ_ _ x=>x.elim))
end
open PySem PySem.Spec PyProof.Rows
abbrev c40(X:Cx)(N':List Str)(sc:ø)(cl:List (Str × Ç))(C:Ç)(s:Æ)(H:Hp)(fp:List Ç):Cx :=
 { X with N:=N',s₀:=s,H₀:=H,env:=compEnvC sc cl C X.env,outer:=X.stack,stack:=X.stack,ex:=fp,fn:=λ_=>false,pn:=[],xe:=NoX }
def d60(own:List Str)(capt:List (Str × Nat)):List Str:=own++capt.map (·.1)
def o80(own:List Str)(capt:List (Str × Nat))(σ:St):St:=own.map (λ_=>none)++capt.map λp=>(σ[p.2]?).getD none
structure q60(X:Cx)(sc:Scope)(own:List Str)(capt:List (Str × Nat)):Prop where
 kind:sc.kind=.function
 nocell:∀ y∈sc.names,y.2≠.cell
 locs:∀ y∈sc.names,y.2=.local->sc.names.lookup y.1=some .local
 frees:∀ y∈sc.names,y.2=.free->X.env.kindOf y.1=some .cell∨X.env.kindOf y.1=some .free
 captd:∀ p∈capt,X.N[p.2]?=some p.1/\sc.names.lookup p.1=some .free
theorem F40{env:Env}:∀ {names:List (Str × Ê9)}{x:Str}{k:Ê9},
  (names.map λ(n,k)=>if (k == ó&&env.scope.kind == .function&&env.kindOf n == some .cell) then(n,Æ4) else(n,k)).lookup x=some k->(k=.cell∨k=.free)->(∀ y∈names,y.2≠.cell)->(x,ó)∈names
 |[],_,_,h,_,_=>by simp at h
 |(n,k0)::r,x,k,h,hk,hn=>by
  have h:Ì7 x ((if (k0 == ó&&env.scope.kind == .function&&env.kindOf n == some .cell)=true then(n,Æ4) else(n,k0))::_)=some k:=h;have hn0:k0≠.cell:=hn (n,k0) Ê;cases hx:x == n with
  |true =>
   have e:x=n:=by simpa using hx
   subst e;by_cases hc:(k0 == ó&&env.scope.kind == .function&&env.kindOf x == some .cell)=true
   ·have:k0=.free:=by
     cases k0 <;> simp_all
    subst this;exact Ê
   ·rw[if_neg hc] at h;simp only[À9,hx] at h;cases h;rcases hk with hk | hk
    ·exact absurd hk hn0
    ·subst hk;exact Ê
  |false =>
   have h':(r.map λ(n,k)=>if (k == ó&&env.scope.kind == .function&&env.kindOf n == some .cell) then(n,Æ4) else(n,k)).lookup x=some k:=by
    by_cases hc:(k0 == ó&&env.scope.kind == .function&&env.kindOf n == some .cell)=true
    ·rw[if_pos hc] at h;simp only[À9,hx] at h;exact h
    ·rw[if_neg hc] at h;simp only[À9,hx] at h;exact h
   exact È _ (F40 h' hk λy hy=>hn y (È _ hy))
theorem n60{env:Env}:∀ {names:List (Str × Ê9)}{x:Str},names.lookup x=some .free ->
  (names.map λ(n,k)=>if (k == ó&&env.scope.kind == .function&&env.kindOf n == some .cell) then(n,Æ4) else(n,k)).lookup x=some .cell ∨
  (names.map λ(n,k)=>if (k == ó&&env.scope.kind == .function&&env.kindOf n == some .cell) then(n,Æ4) else(n,k)).lookup x=some .free
 |[],_,h=>by simp at h
 |(n,k)::r,x,h=>by
  have ih:=@n60 env r x;show Ì7 x ((if (k == ó&&env.scope.kind == .function&&env.kindOf n == some .cell)=true then(n,Æ4) else(n,k))::_)=_∨Ì7 x ((if (k == ó&&env.scope.kind == .function&&env.kindOf n == some .cell)=true then(n,Æ4) else(n,k))::_)=_;cases hx:x == n with
  |true =>
   simp only[À9,hx] at h;cases h;by_cases hc:(ó == ó&&env.scope.kind == .function&&env.kindOf n == some .cell)=true
   ·rw[if_pos hc];left;simp only[À9,hx]
   ·rw[if_neg hc];right;simp only[À9,hx]
  |false =>
   simp only[À9,hx] at h;by_cases hc:(k == ó&&env.scope.kind == .function&&env.kindOf n == some .cell)=true
   ·rw[if_pos hc];simp only[À9,hx];exact ih h
   ·rw[if_neg hc];simp only[À9,hx];exact ih h
theorem HOk.C11{P:Ý}{w:ç}{H:Hp}{h:é}{D:Ç}{ys:List V}{its:List Ä}{n:Nat}(x:HOk P w H h)(hn:H D=none)(hv:Vals ys its)(hz:ys.length<=sizeLine)
  (ho:h.get? D=some { cls:=.type "list",data:=.seq its.toArray n }):HOk P w (upd H D (.lst ys)) h:=λb u e=>by
 by_cases hb:b=D
 ·subst hb;rw[a60] at e;cases e;exact⟨hz,its,n,hv,ho⟩
 ·rw[a10 hb] at e;exact(x b u e).e11 (λc v _ q=>q) (λc q=>by rw[a10 (a80 q hn)];exact q) λc xs q=>by rw[a10 (a80 q hn)];exact q
def PTs(X:Cx)(tests:List Ò)(t:TT):Prop :=
 ∀ (pins:List (Ç × Obj)) (s:Æ) (σ:St) (H:Hp) (Q:Bool->Hp->Prop),Inv X pins σ H s->t σ H Q ->
  Ï (Õ X.prog X.w) X.A (forIn tests true λc r=>if r=true then do let ok ← isTrue c X.env (eval c X.env);pure (yield ok) else pure (yield r)) (TP X pins σ Q) X.xe s
def e91:TT:=λ_ H Q=>Q true H
theorem l81:PTs X [] e91:=λ_ _ _ H _ I h=>wpAny_tests_nil ⟨H,I,h⟩
theorem l91(hc:PT X c t):PTs X [c] t:=λpins s σ H Q I h=>wpAny_tests_one (hc pins s σ H Q I h)
section
variable {X:Cx}{pins:List (Ç × Obj)}{σ:St}{H2:Hp}{s2:Æ}{sc:ø}{own:List Str}{capt:List (Str × Nat)}{cl:List (Str × Ç)}{fp:List Ç}{C:Ç}
theorem M70(I:Inv X pins σ H2 s2)(S:q60 X sc own capt)(hcl:∀ x c,cl.lookup x=some c->X.env.cells.lookup x=some c)(hcf:∀ y∈sc.names,y.2=.free->∃ c,cl.lookup y.1=some c)
  (hx:∀ x c,X.env.cells.lookup x=some c->c ∉ fp) {h':é} (un:∀ c o,s2.heap.get? c=some o->H2 c=none->c ∉ fp->∃ sl,h'.get? c=some { o with slots:=sl }) (m:Str->Option Ä) :
  ∀ (i:Nat) (x:Str) (v:V),(d60 own capt)[i]?=some x->(o80 own capt σ)[i]?=some (some v)->∃ u,RelV v u/\Look (compEnvC sc cl C X.env) h' m x u:=by
 intro i x v e1 e2;unfold d60 at e1;unfold o80 at e2;by_cases hi:i < own.length
 ·rw[Ð0 (by simpa using hi),Ö] at e2
  cases q:own[i]? with
  |none=>rw[q] at e2;cases e2
  |some y=>rw[q] at e2;cases e2
 ·rw[Æ0 (by simpa using hi),Ì,Ö] at e2
  rw[Æ0 (by simpa using hi),Ö] at e1
  cases q:capt[i - own.length]? with
  |none=>rw[q] at e1;cases e1
  |some p =>
   rw[q] at e1 e2;obtain rfl:p.1=x:=Â1 e1;have e3:(σ[p.2]?).getD none=some v:=Â1 e2;have e4:σ[p.2]?=some (some v):=by
    cases z:σ[p.2]? with
    |none=>rw[z] at e3;cases e3
    |some w=>rw[z] at e3;exact congrArg some e3
   obtain⟨hN,hf⟩:=S.captd p (å q);have hmem:(p.1,ó)∈sc.names:=Â0 hf;have hk:=S.frees _ hmem rfl;obtain⟨m0,_,hl⟩:=I.loc;have vis:Vis X.env.scope p.1:=.inr hk;obtain⟨u,r,lk⟩:=hl p.2 p.1 v hN e4 vis;refine⟨u,r,.inr ⟨?_,?_⟩⟩
   ·exact n60 hf
   ·rcases lk with ⟨hl0,_⟩ | ⟨_,c,hc,o,ho,hd⟩
    ·rcases hk with hk | hk <;> (rw[hk] at hl0;cases hl0)
    ·obtain⟨c',hc'⟩:=hcf _ hmem rfl;have:=hcl _ _ hc';rw[hc] at this;cases this;obtain⟨sl,q'⟩:=un c o ho (I.freeC _ _ hc) (hx _ _ hc);exact⟨c,hc',_,q',hd⟩
end
def Q11(X:Cx)(pins:List (Ç × Obj))(σ:St)(R:V->Hp->Prop)(acc:Ä)(C:Ç)(s':Æ):Prop :=
 ∃ D H' m',acc=.ref D/\Inv X pins σ H' s'/\X90 X pins H' C/\s'.heap.Ns C m'/\R (.ref D) H'
def m01(J:It)(σ0:St)(H1:Hp)(g:TG)(tt:TT)(te:TE)(Q:VK):Prop:=∃ W:Nat->Nat->List V->Hp->Prop,(∃ m,W 0 m [] H1)/\∀ i m ys H,W i m ys H ->
 (J.stop i H/\∀ p,H p=none->Q (.ref p) (upd H p (.lst ys))) ∨
 (J.go i H/\ys.length < sizeLine/\∃ N:List V->Hp->Prop,(∀ zs H',N zs H'->∃ m',m' < m/\W (i + 1) m' zs H')/\∀ x H',J.yld i H x H'->g x σ0 H' λσ2 H2=>tt σ2 H2 λb H3 =>
  if b=true then te σ2 H3 (λy H4=>N (ys++[y]) H4) else N ys H3)
def Q21(own:List Str)(capt:List (Str × Nat))(wi:TI)(g:TG)(tt:TT)(te:TE):TE:=λσ H Q=>wi σ H λJ H1=>m01 J (o80 own capt σ) H1 g tt te Q
section
variable {X:Cx}{pins:List (Ç × Obj)}{σ:St}{H2:Hp}{s2:Æ}{sc:ø}{own:List Str}{capt:List (Str × Nat)}{cl:List (Str × Ç)}{el tg src:Ò}{tests:List Ò}{ps:Pos}{g:TG}{tt:TT}{te:TE}
theorem C30(hc:X.calm=true)(S:q60 X sc own capt)(hcl:∀ x c,cl.lookup x=some c->X.env.cells.lookup x=some c)(hcf:∀ y∈sc.names,y.2=.free->∃ c,cl.lookup y.1=some c)
  (hg:∀ C s H fp,PG (c40 X (d60 own capt) sc cl C s H fp) tg g) (ht:∀ C s H fp,PTs (c40 X (d60 own capt) sc cl C s H fp) tests tt) (he:∀ C fp,(∀ b∈fp,X90 X pins H2 b)->PE (c40 X (d60 own capt) sc cl C s2 H2 fp) el te)
  {it:Ç}{fp:List Ç}{tn:Nat->é->Prop}{J:It} (I2:Inv X pins σ H2 s2) (T:Turn X.prog X.w X.K tg J fp it tn) (st2:tn 0 s2.heap) (f2:∀ b∈fp,X90 X pins H2 b)
  {R:VK} (h:m01 J (o80 own capt σ) H2 g tt te R) {RR:Ä->Ç->Result->Æ->Prop} (hRR:∀ acc C s',Q11 X pins σ R acc C s'->RR acc C (.ok .next) s') {E:Ä->Æ->Prop} :
  Ï (Õ X.prog X.w) X.A (newList []) (λacc s3=>Ï (Õ X.prog X.w) X.A (newFunctionEnv sc X.env.globals cl [] X.env.qual none .none (some X.env)) (λce s4 =>
   Ì3 (Õ X.prog X.w) X.A (.compStart (.ListComp el [⟨tg,src,tests,0⟩] sc ps) 0 (.ref it) acc { ce with scope:=relabel sc X.env }) (RR acc ce.locals) s4) E s3) E s2:=by
 obtain⟨W,⟨m0,w0⟩,turn⟩:=h;refine ê (wpAny_newFunctionEnv S.nocell (by intro y hy;simp at hy) (λh1 hns1 hsb1=>?_) S.kind)
 dsimp only at hns1 hsb1 ⊢;generalize hH3:s2.heap.push { cls:=.type "list",dict:=none,data:=.seq ([]:List Ä).toArray }=h3 at hns1 hsb1 ⊢;have hC:h3.objs.size=s2.heap.objs.size + 1:=by rw[← hH3,È9]
 have below:∀ b,b < s2.heap.objs.size->b≠h3.objs.size/\b≠s2.heap.objs.size:=λb hb=>⟨by omega,by omega⟩
 have hDC:s2.heap.objs.size≠h3.objs.size:=by omega
 have old:∀ b o,s2.heap.get? b=some o->h1.get? b=some o:=λb o e=>hsb1.extBut b o (below b (Û e)).1 (Â _ (hH3 ▸ Â _ e));have hacc:h1.get? s2.heap.objs.size=some { cls:=.type "list",data:=.seq ([]:List Ä).toArray 0 }:=hsb1.extBut _ _ hDC (Â _ (hH3 ▸ É _ rfl));have fpLt:∀ b∈fp,b < s2.heap.objs.size:=λb hb=>by
  obtain⟨o,e,_⟩:=T.obj _ _ st2 b hb;exact Û e
 have celLt:∀ x c,X.env.cells.lookup x=some c->c < s2.heap.objs.size:=λx c e=>by
  obtain⟨v,o,q,_⟩:=I2.cell x c e;exact Û q
 have frLt:∀ b∈frs X.stack,b < s2.heap.objs.size:=λb hb=>by
  obtain⟨_,o,q,_⟩:=I2.stack.mem hb;exact Û q
 have celFp:∀ x c,X.env.cells.lookup x=some c->c ∉ fp:=λx c e hb=>(f2 c hb).2.2.2.2.1 x c e rfl;have fpFr:∀ b∈fp,b ∉ frs X.stack:=λb hb hf=>by
  rcases Ü.mp (I2.j41 b hf) with z | z
  ·exact(f2 b hb).2.1 z
  ·exact(f2 b hb).2.2.1 z
 have okX:(c40 X (d60 own capt) sc cl h3.objs.size s2 H2 fp).Ok:=by
  refine⟨I2.ok.mod,S.kind,I2.ok.glob,I2.ok.blt,(by show s2.heap.objs.size<=h3.objs.size;omega),λx y c e1 e2=>I2.ok.inj x y c (hcl x c e1) (hcl y c e2),λx hx=>?_,λx c hx=>(by cases hx),I2.ok.hd,I2.ok.frames,.inl rfl,
   λb hb=>⟨(below b (fpLt b hb)).1,λx c e z=>celFp x c (hcl x c e) (z ▸ hb)⟩,I2.bs,â I2.ok.bsz I2.sz,λb o e hb=>?_,fpFr,I2.stack,I2.s80⟩
  ·have hx':(x,ó)∈sc.names:=by
    rcases hx with hx | hx
    ·exact F40 hx (.inl rfl) S.nocell
    ·exact F40 hx (.inr rfl) S.nocell
   exact hcf _ hx' rfl
  ·rcases (f2 b hb).2.2.2.1 with z | z
   ·exact I2.ok.noex b o e z
   ·have l1:b < X.base.objs.size:=Û e;have l2:X.base.objs.size<=X.s₀.heap.objs.size:=I2.ok.bsz;have l3:X.s₀.heap.objs.size<=b:=z;exact absurd l1 (Nat.not_lt.mpr (â l2 l3))
 have reset:∀ {pl:List (Ç × Obj)}{σ':St}{H':Hp}{s':Æ},Inv (c40 X (d60 own capt) sc cl h3.objs.size s2 H2 fp) pl σ' H' s'->Inv (c40 X (d60 own capt) sc cl h3.objs.size s2 H2 fp) pl (o80 own capt σ) H' s':=λ{pl σ' H' s'} I'=>by
  obtain⟨m,hn,_⟩:=I'.loc;refine⟨I'.ok,I'.os,I'.bare,I'.base,⟨m,hn,λi x v e1 e2 _=>M70 I2 S hcl hcf celFp (λc o q n hx=>I'.base.any q n hx) m i x v e1 e2⟩,I'.cell,I'.free,I'.freeC,I'.pin,I'.hok,?_⟩;show(o80 own capt σ).length=(d60 own capt).length;simp[o80,d60]
 have start:Inv (c40 X (d60 own capt) sc cl h3.objs.size s2 H2 fp) [(s2.heap.objs.size,{ cls:=.type "list",data:=.seq ([]:List Ä).toArray 0 })] (o80 own capt σ) H2 { s2 with heap:=h1,toks:=s2.toks + ([]:List (Str × Ä)).length }:=by
  refine⟨okX,rfl,I2.bare,Un.kept old,⟨_,hns1,λi x v e1 e2 _=>M70 I2 S hcl hcf celFp (λc o q _ _=>⟨o.slots,old c o q⟩) _ i x v e1 e2⟩,λx c e=>?_,?_,λx c e=>I2.freeC x c (hcl x c e),λp hp=>?_,I2.hok.kept old,?_⟩
  ·obtain⟨v,q⟩:=I2.cell x c (hcl x c e);exact⟨v,q.keeps old⟩
  ·exact I2.hok.fresh (by show s2.heap.objs.size<=h3.objs.size;omega)
  ·have hp':p=(s2.heap.objs.size,{ cls:=.type "list",data:=.seq ([]:List Ä).toArray 0 }):=by simpa using hp
   subst hp';exact⟨hacc,I2.hok.fresh (Ë _),hDC,λz=>Á8 _ (frLt _ z),λv z=>by cases z⟩
  ·show(o80 own capt σ).length=(d60 own capt).length;simp[o80,d60]
 have e31:∀ {pl:List (Ç × Obj)}{H':Hp},(∀ p∈pl,p.1 ∉ fp)->(∀ b∈fp,H' b=none)->∀ b∈fp,X90 (c40 X (d60 own capt) sc cl h3.objs.size s2 H2 fp) pl H' b:=λ{pl H'} hp hn b hb =>
  ⟨hn b hb,(below b (fpLt b hb)).1,fpFr b hb,.inl hb,λx c e z=>celFp x c (hcl x c e) (z ▸ hb),λp hpp z=>hp p (by simpa using hpp) (z ▸ hb)⟩
 have hDfp:s2.heap.objs.size ∉ fp:=λz=>Á8 _ (fpLt _ z);have loop:∀ s3:Æ,s3={ s2 with heap:=h1,toks:=s2.toks + ([]:List (Str × Ä)).length } ->
   Ì3 (Õ X.prog X.w) X.A (.compLoop (.ListComp el [⟨tg,src,tests,0⟩] sc ps) 0 (.ref it) (.ref s2.heap.objs.size) (compEnvC sc cl h3.objs.size X.env)) (RR (.ref s2.heap.objs.size) h3.objs.size) s3:=by
  rintro s3 rfl;refine l71 (λn s'=>∃ i ys H' its k,Inv (c40 X (d60 own capt) sc cl h3.objs.size s2 H2 fp) [(s2.heap.objs.size,{ cls:=.type "list",data:=.seq (toArray its) k })] (o80 own capt σ) H' s'/\tn i s'.heap/\(∀ b∈fp,H' b=none)/\Vals ys its/\ys.length<=sizeLine/\W i n ys H') ?_ m0
   ⟨0,[],H2,[],0,start,T.keep _ _ _ st2 λb _ o e=>old b o e,λb hb=>(f2 b hb).1,.nil,Æ7 _,w0⟩
  rintro n s' ⟨i,ys,H',its,k,I',st',fr',hv,hz,w'⟩;have pinD:∀ p∈[((s2.heap.objs.size:Ç),({ cls:=.type "list",data:=.seq (toArray its) k }:Obj))],p.1 ∉ fp:=λp hp=>by
   have hp':p=(s2.heap.objs.size,{ cls:=.type "list",data:=.seq (toArray its) k }):=by simpa using hp
   subst hp';exact hDfp
  rcases turn i n ys H' w' with ⟨stop,q⟩ | ⟨go,hlt,N,hN,step⟩
  ·refine thn (T.done (c40 X (d60 own capt) sc cl h3.objs.size s2 H2 fp) rfl rfl rfl hc i _ s' _ H' NoX I' (e31 pinD fr') st' stop) λr s1 hr=>?_;obtain⟨hr,I1⟩:=hr;subst hr;obtain⟨gD,nD,_,_,_⟩:=I1.pin _ (ñ _ Ê);obtain⟨m',hn',_⟩:=id I1.loc;have un:Un (frs X.stack) fp H2 (upd H' s2.heap.objs.size (.lst ys)) s2.heap s1.heap:=by
    have u:=I1.base;have nD2:H2 s2.heap.objs.size=none:=I2.hok.fresh (Ë _);refine⟨u.keep,u.slot,λb o e n hx=>?_,u.there,λb xs e=>?_,λb o xs e=>?_,λb ps' e=>?_⟩
    ·rw[a10 (below b (Û e)).2];exact u.free b o e n hx
    ·rw[a10 (a80 e nD2)];exact u.tups b xs e
    ·rw[a10 (a80 e nD2)];exact u.frzs b o xs e
    ·obtain⟨more,e'⟩:=u.tbls b ps' e;exact⟨more,by rw[a10 (a80 e nD2)];exact e'⟩
   have IX:Inv X pins σ (upd H' s2.heap.objs.size (.lst ys)) s1:=I2.b52 I1.os un (I1.hok.C11 nD hv hz gD) I1.bare λb hb=>⟨(f2 b hb).2.2.2.1,(f2 b hb).2.1,(f2 b hb).2.2.2.2.1,(f2 b hb).2.2.2.2.2⟩;refine hRR _ _ _ ⟨_,_,m',rfl,IX,?_,hn',q _ nD⟩;exact I2.e31 ∅ (by rw[a10 hDC.symm];exact I1.free)
  ·refine thn (T.item (c40 X (d60 own capt) sc cl h3.objs.size s2 H2 fp) rfl rfl rfl hc i _ s' _ H' NoX I' (e31 pinD fr') st' go) λr s1 hr=>?_;obtain⟨u,hr,h4⟩:=hr;subst hr;refine thn h4 λ_ s5 hr5=>?_;obtain⟨x,H5,I5,r5,y5,st5,fr5⟩:=hr5;have I5p:=I5.pinned (e31 pinD fr5) (T.obj _ _ st5);refine thn (hg _ _ _ _ _ s5 _ H5 x u _ I5p r5 (step x H5 y5)) λ_ s6 hr6=>?_;obtain⟨σ6,H6,I6,q6⟩:=hr6;refine thn (ht _ _ _ _ _ s6 σ6 H6 _ I6 q6) λok s7 hr7=>?_;obtain⟨H7,I7,q7⟩:=hr7;have memFp:∀ {pl:List (Ç × Obj)}{b:Ç}{o:Obj},b∈fp->s5.heap.get? b=some o->(b,o)∈([]:List (Ç × Obj))++(pl++x40 fp s5.heap):=λhb e=>ñ _ (ñ _ (k30 hb e));cases ok with
   |false =>
    rw[if_neg Ñ] at q7 ⊢;obtain⟨m',hm,w7⟩:=hN _ _ q7;refine⟨m',hm,i + 1,ys,H7,its,k,reset (I7.x20 λp hp=>I7.pin p (ñ _ (Æ6 _ hp))),T.keep _ _ _ st5 λb hb o e=>(I7.pin (b,o) (memFp hb e)).1,λb hb=>?_,hv,hz,w7⟩;obtain⟨o,e,_⟩:=T.obj _ _ st5 b hb;exact(I7.pin (b,o) (memFp hb e)).2.1
   |true =>
    rw[if_pos rfl] at q7 ⊢;refine thn (he _ _ f2 _ s7 σ6 H7 _ I7 q7) λuv s8 hr8=>?_;obtain⟨y,H8,I8,r8,q8⟩:=hr8;obtain⟨m',hm,w8⟩:=hN _ _ q8;obtain⟨gD,nD,dC,dF,_⟩:=I8.pin _ (ñ _ (Æ6 _ Ê));refine append_at gD (λh9 sb hD9=>?_) (by show(toArray its).size<=sizeLine;rw[Ø,← hv.length];exact hz)
    have I8a:Inv (c40 X (d60 own capt) sc cl h3.objs.size s2 H2 fp) (x40 fp s5.heap) σ6 H8 s8:=I8.x20 λp hp=>I8.pin p (ñ _ (ñ _ hp));have I9:Inv (c40 X (d60 own capt) sc cl h3.objs.size s2 H2 fp) (x40 fp s5.heap) σ6 H8 { s8 with heap:=h9 }:=I8a.turned (t':=s8.toks) (λb o hb e=>(sb.2 b hb).trans e) nD dC (.inr (Ë _))
     (λx c e z=>Á8 s2.heap.objs.size (by have:=celLt x c (hcl x c e);rw[z] at this;exact this)) (λp hp z=>hDfp (z ▸ (L50 (by simpa using hp)).1))
    rw[List.push_toArray] at hD9;refine⟨m',hm,i + 1,ys++[y],H8,its++[uv],k + 1,(reset I9).x20 λp hp=>?_,T.keep _ _ _ st5 λb hb o e=>?_,λb hb=>?_,hv.append (.cons r8 .nil),by rw[À6];exact hlt,w8⟩
    ·have hp':p=(s2.heap.objs.size,{ cls:=.type "list",data:=.seq (toArray (its++[uv])) (k + 1) }):=by simpa using hp
     subst hp';exact⟨hD9,nD,dC,dF,λv z=>by cases z⟩
    ·exact(I9.pin (b,o) (ñ _ (k30 hb e))).1
    ·obtain⟨o,e,_⟩:=T.obj _ _ st5 b hb;exact(I9.pin (b,o) (ñ _ (k30 hb e))).2.1
 exact codeAny_compStart_list (loop _ rfl) (T.self _ 0 _ _ _ (T.keep _ _ _ st2 λb _ o e=>old b o e) (loop _ rfl))
end
section
variable {X:Cx}{sc:ø}{own:List Str}{capt:List (Str × Nat)}{el tg src:Ò}{tests:List Ò}{ps pos:Pos}{wi:TI}{g:TG}{tt:TT}{te:TE}
theorem T20(hc:X.calm=true)(S:q60 X sc own capt)(hi:PI X tg src wi)(hg:∀ cl C s H fp,PG (c40 X (d60 own capt) sc cl C s H fp) tg g)
  (ht:∀ cl C s H fp,PTs (c40 X (d60 own capt) sc cl C s H fp) tests tt) (he:∀ cl C s H fp,PE (c40 X (d60 own capt) sc cl C s H fp) el te)
  (hs:∀ x,Ì2 src X.env x=pure x:=by intro _;rfl):PE X (.ListComp el [⟨tg,src,tests,0⟩] sc ps) (Q21 own capt wi g tt te):=by
 intro pins s σ H Q I h;obtain⟨cl,hclos,hcl,hcf⟩:=l61 (scope:=sc) (env:=X.env) λy hy hk=>I.ok.has y.1 (S.frees y hy hk);rw[eval_ListComp];refine wpAny_comprehension_free (use:=none) rfl hs hclos S.kind S.locs (thn (hi pins s σ H _ I h) λv s1 h1=>thn h1 λitv s2 h2=>?_);obtain⟨it,fp,tn,J,H2,e,I2,T,st2,f2,hw⟩:=h2;subst e;refine C30 hc S hcl hcf (hg cl) (ht cl) (λC fp _=>he cl C _ _ fp) I2 T st2 f2 hw (RR:=λacc C=>compPost (Õ X.prog X.w) X.A X.xe none (EP X pins σ Q) acc C) λacc C s' hf=>?_;obtain⟨D,H',m',rfl,I',f',ns',r⟩:=hf;exact⟨m',ns',λh' sb=>⟨.ref D,H',I'.turned (t':=s'.toks) (λb o hb e=>(sb.2 b hb).trans e) f'.1 f'.2.1 f'.2.2.2.1 f'.2.2.2.2.1 f'.2.2.2.2.2,rfl,r⟩⟩
theorem Q31{i:Nat}{y:Str}{py:Pos}(hN:X.N.Nodup)(hiN:X.N[i]?=some y)(hy:Loc X.env.scope y)(hsw:Ô5 (.ListComp el [⟨tg,src,tests,0⟩] sc ps) (some (.Name y py)) pos.line X.env=pure true)
  (hc:X.calm=true) (S:q60 X sc own capt) (hi:PI X tg src wi) (hg:∀ cl C s H fp,PG (c40 X (d60 own capt) sc cl C s H fp) tg g)
  (ht:∀ cl C s H fp,PTs (c40 X (d60 own capt) sc cl C s H fp) tests tt) (he:∀ cl C s H fp,PE (c40 X (d60 own capt) sc cl C s H fp) el te)
  (hs:∀ x,Ì2 src X.env x=pure x:=by intro _;rfl) (hf:X.fn y=true∨X.env.scope.names.lookup y=some .local:=by first | exact .inl rfl | exact .inr rfl | assumption) :
  PS X (.Assign [.Name y py] (.ListComp el [⟨tg,src,tests,0⟩] sc ps) pos) (c52 (Q21 own capt wi g tt te) (E70 i)):=by
 intro pins s σ H D I h;obtain⟨cl,hclos,hcl,hcf⟩:=l61 (scope:=sc) (env:=X.env) λy hy hk=>I.ok.has y.1 (S.frees y hy hk);rw[exec_Assign_Name_used _ _ _ _ hsw];refine À (Ú0 (À ?_));show Ï _ X.A (do let _ ← comprehension (.ListComp el [⟨tg,src,tests,0⟩] sc ps) sc X.env _ (newList []) false (eval src X.env) (some (Ø6 (.Name y py) X.env))) _ _ s;refine À (Â7 (wpAny_comprehension_free (use:=some (Ø6 (.Name y py) X.env)) (Q:=λ_ s'=>SP X pins D .next s') rfl hs hclos S.kind S.locs
  (thn (hi pins s σ H _ I h) λv s1 h1=>thn h1 λitv s2 h2=>?_)) (λ_ s' hq=>Å (Å hq)) λ_ _ e=>e)
 obtain⟨it,fp,tn,J,H2,e,I2,T,st2,f2,hw⟩:=h2;subst e;refine C30 hc S hcl hcf (hg cl) (ht cl) (λC fp _=>he cl C _ _ fp) I2 T st2 f2 hw (RR:=λacc C=>compPost (Õ X.prog X.w) X.A X.xe (some (Ø6 (.Name y py) X.env)) (λ_ s'=>SP X pins D .next s') acc C) λacc C s' hfn=>?_;obtain⟨DA,H',m',rfl,I',f',ns',r⟩:=hfn;show Ï _ X.A (Ø6 (.Name y py) X.env (.ref DA)) _ _ _;refine wpAny_assign_Name (x30 (v:=.ref DA) I' hN hiN hy rfl (λs3 I3 ha=>?_) hf);obtain⟨a,sb,ha⟩:=ha;have hCa:C≠a:=λz=>by
  rcases ha with q | q
  ·exact f'.2.1 (z.trans q)
  ·exact f'.2.2.2.2.1 _ _ q z.symm
 exact⟨m',ns'.sameBut sb hCa,λh' sb'=>⟨_,H',I3.turned (t':=s3.toks) (λb o hb e=>(sb'.2 b hb).trans e) f'.1 f'.2.1 f'.2.2.2.1 f'.2.2.2.2.1 f'.2.2.2.2.2,r⟩⟩
end
end L2
namespace L2
open PySem
section
variable {P:Ý}{w:ç}{A:õ}{E:Ä->Æ->Prop}{s:Æ}
theorem n70(hr:s.heap.IsTupleIter r t k)(ht:s.heap.IsTuple t vs)(hx:vs[k]?=some x)
  (hQ:∀ h',h'.IsTupleIter r t (k + 1)->Ç8 r s.heap h'->Q x { s with heap:=h' }):Ï (Õ P w) A (nextOf (.ref r)) Q E s:=by
 obtain⟨o,ho,hc,hd⟩:=id hr;obtain⟨ot,hot,_,nt,hdt⟩:=ht;unfold nextOf;refine À (À5 (name:=Á0 "__next__") hr.typeIs È8 (ÿ È8 hr.typeIs Þ1 ?_ (Ý9 _)));show Ï _ _ (field (.ref r) 0 >>= _) _ _ s;refine À (Á4 ho hd (x:=.ref t) rfl ?_);show Ï _ _ (if (ð t == è)=true then _ else _) _ _ s;rw[if_neg (show ¬ ((ð t == è)=true) from Ñ)];show Ï _ _ (field (.ref r) 1 >>= _) _ _ s;refine À (Á4 ho hd (x:=.int k 0) rfl ?_);show Ï _ _ (seqItems? (.ref t) >>= _) _ _ s;refine À (Å0 hot hdt ?_);simp only[Ä2,hx];refine À (wpAny_setField ho hd (by simp) (Å ⟨x,rfl,Å (hQ _ ⟨_,Æ3 _ ho (Obj.isFreed_of_fields (Obj.data_mapFields hd _)),(Obj.cls_mapFields ..).trans hc,by rw[Obj.data_mapFields hd];simp[Ã3]⟩ (Â4 ..))⟩))
theorem l40(hh:A.handled=none)(hr:s.heap.IsTupleIter r t k)(ht:s.heap.IsTuple t vs)(hx:vs[k]?=none)
  (hE:∀ h' e,é.ExtBut r s.heap h'->(∃ o,h'.get? e=some o/\o.cls=.type "StopIteration")->E (.ref e) { s with heap:=h' }):Ï (Õ P w) A (nextOf (.ref r)) Q E s:=by
 obtain⟨o,ho,hc,hd⟩:=id hr;obtain⟨ot,hot,_,nt,hdt⟩:=ht;unfold nextOf;refine À (À5 (name:=Á0 "__next__") hr.typeIs È8 (ÿ È8 hr.typeIs Þ1 ?_ (Ý9 _)));show Ï _ _ (field (.ref r) 0 >>= _) _ _ s;refine À (Á4 ho hd (x:=.ref t) rfl ?_);show Ï _ _ (if (ð t == è)=true then _ else _) _ _ s;rw[if_neg (show ¬ ((ð t == è)=true) from Ñ)];show Ï _ _ (field (.ref r) 1 >>= _) _ _ s;refine À (Á4 ho hd (x:=.int k 0) rfl ?_);show Ï _ _ (seqItems? (.ref t) >>= _) _ _ s;refine À (Å0 hot hdt ?_);simp only[Ä2,hx];refine À (Ë4 (À (wpAny_setField ho hd (by simp) ?_)));show Ï _ _ (newExc (.type "StopIteration") [] >>= _) _ _ _
 refine À ?_;simp only[newExc,newTuple];refine À (ê ?_ (by size_fits));refine À (m:=Ø5 _ _) (Þ0 (a:=è) (by first | rfl | (simp only[Ø5];rfl)) ?_)
 refine ê ?_ (by size_fits);simp only[raiseNew];refine À (wpAny_handled ?_)
 first | rw[show A.in1.handled=none from hh] | rw[hh]
 refine À (Å (wpAny_throw (hE _ _ (((Â4 ..).extBut.push _).push _) ⟨_,É _ rfl,rfl⟩)))
theorem m21{z TI TO i1 i2 l1 l2:Ç}{k:Nat}{xs ys:Array Ä}{x y a b:Ä}{Q:Option Ä->Æ->Prop}(D:ZipApart z TI TO i1 i2 l1 l2)(hz:Ñ7 s.heap z TI TO .none)
  (hTI:Æ5 s.heap TI (.ref i1) (.ref i2)) (hTO:Æ5 s.heap TO a b) (h1:s.heap.IsTupleIter i1 l1 k) (h2:s.heap.IsTupleIter i2 l2 k) (hl1:s.heap.IsTuple l1 xs) (hl2:s.heap.IsTuple l2 ys)
  (hx:xs[k]?=some x) (hy:ys[k]?=some y)
  (hQ:∀ h',Ñ7 h' z TI TO (Ã3 s.heap.objs.size)->Æ5 h' TO x y->h'.IsTupleIter i1 l1 (k + 1)->h'.IsTupleIter i2 l2 (k + 1)->Æ5 h' s.heap.objs.size x y->h'.objs.size=s.heap.objs.size + 1 ->
   (∀ c o,c≠z->c≠TO->c≠i1->c≠i2->s.heap.get? c=some o->h'.get? c=some o)->Q (some (.ref s.heap.objs.size)) { s with heap:=h' }):Ï (Õ P w) A (Í2 (.ref z)) Q E s:=by
 have hT:s.TypeIs (.ref z) "zip":=⟨_,hz,rfl⟩;unfold Í2;refine À (Í8 (À5 (name:=Á0 "__next__") hT Õ0 (ÿ Õ0 hT F.entry_zip_next ?_ (F.args_zip_next_1 _))));show Ï _ _ (field (.ref z) 2 >>= _) _ _ _;refine À (Á4 hz rfl (x:=.bool false) rfl ?_);show Ï _ _ (field (.ref z) 3 >>= _) _ _ _;refine À (Á4 hz rfl (x:=.ref TI) rfl ?_);refine À (Å0 hTI rfl ?_);show Ï _ _ (Ì5 (.ref z) >>= _) _ _ _;refine À ?_;unfold Ì5;refine À (Á4 hz rfl (x:=.none) rfl (Å ?_));simp only[if_true];refine À (Ë4 (À (Á4 hz rfl (x:=.ref TO) rfl (À (Â6 hz (by simp) λg1 z1 e1=>?_)))))
 replace z1:Ñ7 g1 z TI TO .ellipsis:=z1
 refine À ?_;simp only[List.zipIdx_cons,List.zipIdx_nil,Ï8,forIn_nil];refine À (À (Ú1 ?_));show Ï _ _ (nextOf (.ref i1) >>= _) _ _ _;refine À (n70 (h1.extBut e1.extBut D.i1z) (hl1.extBut e1.extBut D.l1z) hx λg2 r2 e2=>Å ?_);have t2:Æ5 g2 TO a b:=e2.extBut _ _ D.TOi1 (e1.extBut _ _ D.TOz hTO);refine À (Å0 t2 rfl (À (Ø2 t2 λg3 t3 e3=>?_)))
 replace t3:Æ5 g3 TO x b:=t3
 refine À (wpAny_letGo (Å ?_));refine À (À (Ú1 ?_));show Ï _ _ (nextOf (.ref i2) >>= _) _ _ _;refine À (n70 (((h2.extBut e1.extBut D.i2z).extBut e2.extBut D.i12.symm).extBut e3.extBut D.TOi2.symm) (((hl2.extBut e1.extBut D.l2z).extBut e2.extBut D.l2i1).extBut e3.extBut D.l2TO) hy λg4 r4 e4=>Å ?_);have t4:Æ5 g4 TO x b:=e4.extBut _ _ D.TOi2 t3;refine À (Å0 t4 rfl (À (Ø2 t4 λg5 t5 e5=>?_)))
 replace t5:Æ5 g5 TO x y:=t5
 refine À (wpAny_letGo (Å (Å ?_)));refine À (Å0 t5 rfl (À (wpAny_newTuple ?_)));have sz:g5.objs.size=s.heap.objs.size:=by rw[e5.1,e4.1,e3.1,e2.1,e1.1]
 have z5:Ñ7 g5 z TI TO .ellipsis:=e5.extBut _ _ D.TOz.symm (e4.extBut _ _ D.i2z.symm (e3.extBut _ _ D.TOz.symm (e2.extBut _ _ D.i1z.symm z1)));have kp:∀ c o,c≠z->c≠TO->c≠i1->c≠i2->s.heap.get? c=some o->g5.get? c=some o:=λc o c1 c2 c3 c4 e=>e5.extBut _ _ c2 (e4.extBut _ _ c4 (e3.extBut _ _ c2 (e2.extBut _ _ c3 (e1.extBut _ _ c1 e))));have r1:g5.IsTupleIter i1 l1 (k + 1):=((r2.extBut e3.extBut D.TOi1.symm).extBut e4.extBut D.i12).extBut e5.extBut D.TOi1.symm;have r5:g5.IsTupleIter i2 l2 (k + 1):=r4.extBut e5.extBut D.TOi2.symm;have zl:z < g5.objs.size:=Û z5;show Ï _ _ (ownedTupleHandOut (.ref z) (.ref g5.objs.size) >>= _) _ _ _;refine À ?_;unfold ownedTupleHandOut;have z6:Ñ7 (g5.push { cls:=.type "tuple",data:=.seq #[x,y] }) z TI TO .ellipsis:=Â _ z5;refine À (Â6 z6 (by simp) λg7 z7 e7=>?_)
 replace z7:Ñ7 g7 z TI TO (Ã3 g5.objs.size):=z7
 refine Â6 z7 (by simp) λg8 z8 e8=>?_
 replace z8:Ñ7 g8 z TI TO (Ã3 g5.objs.size):=z8
 have up:∀ c o,c≠z->g5.get? c=some o->g8.get? c=some o:=λc o c1 e=>e8.extBut _ _ c1 (e7.extBut _ _ c1 (Â _ e));have t8:Æ5 g8 g5.objs.size x y:=e8.extBut _ _ (Ç4 zl) (e7.extBut _ _ (Ç4 zl) (É _ rfl));have s8:g8.objs.size=g5.objs.size + 1:=by rw[e8.1,e7.1,È9]
 rw[sz] at z8 t8 s8;refine Å ⟨_,rfl,?_⟩;refine Å ?_;show Q (some (.ref g5.objs.size)) _;rw[sz];exact hQ g8 z8 (up _ _ D.TOz t5) (by obtain⟨o,ho,q⟩:=r1;exact⟨o,up _ o D.i1z ho,q⟩) (by obtain⟨o,ho,q⟩:=r5;exact⟨o,up _ o D.i2z ho,q⟩) t8 s8 λc o c1 c2 c3 c4 e=>up c o c1 (kp c o c1 c2 c3 c4 e)
theorem C21{z TI TO i1 i2 l1 l2:Ç}{k:Nat}{xs ys:Array Ä}{a b:Ä}{Q:Option Ä->Æ->Prop}(hh:A.handled=none)(D:ZipApart z TI TO i1 i2 l1 l2)(hz:Ñ7 s.heap z TI TO .none)
  (hTI:Æ5 s.heap TI (.ref i1) (.ref i2)) (hTO:Æ5 s.heap TO a b) (h1:s.heap.IsTupleIter i1 l1 k) (h2:s.heap.IsTupleIter i2 l2 k) (hl1:s.heap.IsTuple l1 xs) (hl2:s.heap.IsTuple l2 ys)
  (hend:xs[k]?=none∨ys[k]?=none) (hQ:∀ h',(∀ c o,c≠z->c≠TO->c≠i1->c≠i2->s.heap.get? c=some o->h'.get? c=some o)->Q none { s with heap:=h' }):Ï (Õ P w) A (Í2 (.ref z)) Q E s:=by
 have hT:s.TypeIs (.ref z) "zip":=⟨_,hz,rfl⟩;have fin:∀ (h':é) (e:Ç),(∀ c o,c≠z->c≠TO->c≠i1->c≠i2->s.heap.get? c=some o->h'.get? c=some o)->(∃ o,h'.get? e=some o/\o.cls=.type "StopIteration") ->
   Ï (Õ P w) A (isInstance (.ref e) (.type "StopIteration") >>= λb=>if b=true then pure none else throw (.ref e)) Q E { s with heap:=h' }:=λh' e kp he=>by
  obtain⟨o,ho,hc⟩:=he;exact À (Ý3 (T:="StopIteration") (b:=true) ⟨o,ho,hc⟩ isSubtype_stop (Å (hQ _ kp)))
 unfold Í2;refine À (Í8 (À5 (name:=Á0 "__next__") hT Õ0 (ÿ Õ0 hT F.entry_zip_next ?_ (F.args_zip_next_1 _))));show Ï _ _ (field (.ref z) 2 >>= _) _ _ _;refine À (Á4 hz rfl (x:=.bool false) rfl ?_);show Ï _ _ (field (.ref z) 3 >>= _) _ _ _;refine À (Á4 hz rfl (x:=.ref TI) rfl ?_);refine À (Å0 hTI rfl ?_);show Ï _ _ (Ì5 (.ref z) >>= _) _ _ _;refine À ?_;unfold Ì5;refine À (Á4 hz rfl (x:=.none) rfl (Å ?_));simp only[if_true];refine À (Ë4 (À (Á4 hz rfl (x:=.ref TO) rfl (À (Â6 hz (by simp) λg1 z1 e1=>?_)))))
 replace z1:Ñ7 g1 z TI TO .ellipsis:=z1
 refine À ?_;simp only[List.zipIdx_cons,List.zipIdx_nil,Ï8,forIn_nil];refine À (À (Ú1 ?_));show Ï _ _ (nextOf (.ref i1) >>= _) _ _ _;cases hx:xs[k]? with
 |none =>
  refine À (l40 hh (h1.extBut e1.extBut D.i1z) (hl1.extBut e1.extBut D.l1z) hx λg2 e e2 he=>?_);obtain⟨oe,hoe,hce⟩:=he;have z2:Ñ7 g2 z TI TO .ellipsis:=e2 _ _ D.i1z.symm z1;have hez:e≠z:=λq=>by subst q;rw[z2] at hoe;cases hoe;simp at hce
  exact Â6 z2 (by simp) λg3 _ e3=>fin g3 e (λc o c1 _ c3 _ q=>e3.extBut _ _ c1 (e2 _ _ c3 (e1.extBut _ _ c1 q))) ⟨oe,e3.extBut _ _ hez hoe,hce⟩
 |some x =>
  have hy:ys[k]?=none:=by rcases hend with q | q;rw[hx] at q;cases q;exact q
  refine À (n70 (h1.extBut e1.extBut D.i1z) (hl1.extBut e1.extBut D.l1z) hx λg2 r2 e2=>Å ?_);have t2:Æ5 g2 TO a b:=e2.extBut _ _ D.TOi1 (e1.extBut _ _ D.TOz hTO);refine À (Å0 t2 rfl (À (Ø2 t2 λg3 t3 e3=>?_)));refine À (wpAny_letGo (Å ?_));refine À (À (Ú1 ?_));show Ï _ _ (nextOf (.ref i2) >>= _) _ _ _;refine À (l40 hh (((h2.extBut e1.extBut D.i2z).extBut e2.extBut D.i12.symm).extBut e3.extBut D.TOi2.symm) (((hl2.extBut e1.extBut D.l2z).extBut e2.extBut D.l2i1).extBut e3.extBut D.l2TO) hy λg4 e e4 he=>?_);obtain⟨oe,hoe,hce⟩:=he;have z4:Ñ7 g4 z TI TO .ellipsis:=e4 _ _ D.i2z.symm (e3.extBut _ _ D.TOz.symm (e2.extBut _ _ D.i1z.symm z1));have hez:e≠z:=λq=>by subst q;rw[z4] at hoe;cases hoe;simp at hce
  exact Â6 z4 (by simp) λg5 _ e5=>fin g5 e (λc o c1 c2 c3 c4 q=>e5.extBut _ _ c1 (e4 _ _ c4 (e3.extBut _ _ c2 (e2.extBut _ _ c3 (e1.extBut _ _ c1 q))))) ⟨oe,e5.extBut _ _ hez hoe,hce⟩
abbrev zT1(h:é)(l1:Ç):Heap:=h.push { cls:=.type "tuple_iterator",data:=.fields #[.ref l1,.int 0 0] }
abbrev zT2(h:é)(l1 l2:Ç):Heap:=(zT1 h l1).push { cls:=.type "tuple_iterator",data:=.fields #[.ref l2,.int 0 0] }
abbrev zT3(h:é)(l1 l2:Ç):Heap:=(zT2 h l1 l2).push { cls:=.type "tuple",data:=.seq #[.ref h.objs.size,.ref (zT1 h l1).objs.size] }
abbrev zT4(h:é)(l1 l2:Ç):Heap:=(zT3 h l1 l2).push { cls:=.type "tuple",data:=.seq #[.none,.none] }
abbrev zT5(h:é)(l1 l2:Ç):Heap:=(zT4 h l1 l2).push { cls:=.type "zip",data:=.fields #[.none,.bool false,.bool false,.ref (zT2 h l1 l2).objs.size,.ref (zT3 h l1 l2).objs.size] }
theorem f01(l1 l2:Ç)(xs ys:Array Ä) :
  Meets (û.«zip.__new__» ⟨[.type "zip",.ref l1,.ref l2],[]⟩) (λ_ R s=>s.heap.IsTuple l1 xs/\s.heap.IsTuple l2 ys/\R (.ok (.ret (.ref (zT4 s.heap l1 l2).objs.size))) { s with heap:=zT5 s.heap l1 l2 }) :=
 .of_wp λP w A R s h=>by
  obtain⟨hp,g,d,tk,os⟩:=s;obtain⟨hl1,hl2,h⟩:=h;have hsub:=sub_zip;have hL1:Ó0 (Æ.heap ⟨hp,g,d,tk,os⟩) l1 xs:=hl1;have hL2:Ó0 (Æ.heap ⟨hp.push { cls:=.type "tuple_iterator",data:=.fields #[.ref l1,.int 0 0] },g,d,tk,os⟩) l2 ys:=Ó0.push hl2 _
  wp_walk using È0 hL1,È0 hL2
  exact⟨_,rfl,h⟩
theorem m31(hl1:s.heap.IsTuple l1 xs)(hl2:s.heap.IsTuple l2 ys)
  (h:∀ h',Ñ7 h' (s.heap.objs.size + 4) (s.heap.objs.size + 2) (s.heap.objs.size + 3) .none->Æ5 h' (s.heap.objs.size + 2) (.ref s.heap.objs.size) (.ref (s.heap.objs.size + 1))->Æ5 h' (s.heap.objs.size + 3) .none .none ->
   h'.IsTupleIter s.heap.objs.size l1 0->h'.IsTupleIter (s.heap.objs.size + 1) l2 0->(∀ c o,s.heap.get? c=some o->h'.get? c=some o)->Q (.ref (s.heap.objs.size + 4)) { s with heap:=h' }) :
  Ï (Õ P w) A (call (.type "zip") [.ref l1,.ref l2]) Q E s:=by
 refine callType_new F.called_zip (-0) (F.typeCall_zip_2 _ _) (F.newCall_zip_2 _ _) (λobj=>F.args_object_init_3 obj _ _) F.entry_zip_new (f01 l1 l2 xs ys) ⟨hl1,hl2,?_⟩
 have n1:(zT1 s.heap l1).objs.size=s.heap.objs.size + 1:=È9 ..;have n2:(zT2 s.heap l1 l2).objs.size=s.heap.objs.size + 2:=by rw[È9,n1]
 have n3:(zT3 s.heap l1 l2).objs.size=s.heap.objs.size + 3:=by rw[È9,n2]
 have n4:(zT4 s.heap l1 l2).objs.size=s.heap.objs.size + 4:=by rw[È9,n3]
 have g5:(zT5 s.heap l1 l2).get? (zT4 s.heap l1 l2).objs.size=some _:=É _ rfl;have g4:(zT5 s.heap l1 l2).get? (zT3 s.heap l1 l2).objs.size=some _:=Â _ (É _ rfl);have g3:(zT5 s.heap l1 l2).get? (zT2 s.heap l1 l2).objs.size=some _:=Â _ (Â _ (É _ rfl));have g2:(zT5 s.heap l1 l2).get? (zT1 s.heap l1).objs.size=some _:=Â _ (Â _ (Â _ (É _ rfl)));have g1:(zT5 s.heap l1 l2).get? s.heap.objs.size=some _:=Â _ (Â _ (Â _ (Â _ (É _ rfl))));show _/\_;rw[n2,n3,n4] at g5;rw[n1,n2] at g3;rw[n3] at g4;rw[n1] at g2;rw[n4];exact⟨⟨_,g5,rfl⟩,h _ g5 g3 g4 ⟨_,g1,rfl,rfl⟩ ⟨_,g2,rfl,rfl⟩ λc o q=>Â _ (Â _ (Â _ (Â _ (Â _ q))))⟩
end
open PySem PySem.Spec PyProof.Rows
section
variable {X:Cx}{pins:List (Ç × Obj)}{σ:St}{H:Hp}{s:Æ}{h':é}
theorem Inv.F50{t':Nat}{ch:List Ç}(I:Inv X pins σ H s)(hf:∀ b∈ch,X90 X pins H b)(k:∀ b o,b ∉ ch->s.heap.get? b=some o->h'.get? b=some o):Inv X pins σ H { s with heap:=h',toks:=t' }:=by
 have nch:∀ b u,H b=some u->b ∉ ch:=λb u e z=>by rw[(hf b z).1] at e;cases e
 refine I.step (g':=s.gens) (d':=s.drawn) (ch:=ch) (λb hb=>⟨(hf b hb).2.2.2.1,(hf b hb).2.1,(hf b hb).2.2.2.2.1,(hf b hb).2.2.2.2.2⟩) (λb o _ _ hc e _=>k b o hc e) (λb o _ _ hc e _=>⟨o.slots,k b o hc e⟩) (λ_ _ _ _ n=>n)
  (λb o hc e=>⟨o,k b o hc e⟩) (λ_ _ e=>e) (λ_ _ _ e=>e) (λb ps e=>⟨#[],by rw[e];simp⟩) (λm hm=>?_) (λb u e=>?_) I.bare
 ·obtain⟨o,es,ep,ho,r⟩:=hm;exact⟨o,es,ep,k _ o (λz=>(hf _ z).2.1 rfl) ho,r⟩
 ·refine(I.hok b u e).e11 (λc v hc q=>k c v ?_ q) (λ_ q=>q) λ_ _ q=>q;rcases hc with z | z
  ·rw[z];exact nch b u e
  ·exact nch c _ z
theorem Inv.C11{T:Ç}{o:HO}(I:Inv X pins σ H s)(f:X90 X pins H T)(h0:X.s₀.heap.objs.size<=T)(hok:HOk X.prog X.w (upd H T o) s.heap):Inv X pins σ (upd H T o) s:=by
 have u:=I.base;refine⟨I.ok,I.os,I.bare,⟨u.keep,u.slot,λb ob e n hx=>?_,u.there,λb xs e=>?_,λb ob xs e=>?_,λb ps e=>?_⟩,I.loc,I.cell,?_,λx c e=>?_,λp hp=>?_,hok,I.len⟩
 ·rw[a10 (Ô (Ú (Û e) h0))];exact u.free b ob e n hx
 ·have z:=u.tups b xs e;rw[a10 (a80 z f.1)];exact z
 ·have z:=u.frzs b ob xs e;rw[a10 (a80 z f.1)];exact z
 ·obtain⟨more,z⟩:=u.tbls b ps e;exact⟨more,by rw[a10 (a80 z f.1)];exact z⟩
 ·rw[a10 f.2.1.symm];exact I.free
 ·rw[a10 (f.2.2.2.2.1 x c e)];exact I.freeC x c e
 ·obtain⟨e,n,r⟩:=I.pin p hp;exact⟨e,by rw[a10 (f.2.2.2.2.2 p hp)];exact n,r⟩
theorem HOk.K71{P:Ý}{w:ç}{H:Hp}{h:é}{D:Ç}{ys:List V}{its:List Ä}(x:HOk P w H h)(hn:H D=none)(hv:Vals ys its)(hz:ys.length<=sizeLine)(ho:Ñ8 h D its.toArray):HOk P w (upd H D (.tup ys)) h:=λb u e=>by
 by_cases hb:b=D
 ·subst hb;rw[a60] at e;cases e;exact⟨hz,its,hv,ho⟩
 ·rw[a10 hb] at e;exact(x b u e).e11 (λc v _ q=>q) (λc q=>by rw[a10 (a80 q hn)];exact q) λc xs q=>by rw[a10 (a80 q hn)];exact q
end
def SqB:Bool->Ã->Hp->Ç->List V->Prop
 |true=>SqL|false=>SqT
def M80:Bool->é->Ç->Ç->Nat->Prop
 |true=>é.IsListIter|false=>é.IsTupleIter
def C31:Bool->é->Ç->Array Ä->Prop
 |true=>é.IsList|false=>Ó0
theorem M80.obj{b:Bool}{h:é}{it a:Ç}{i:Nat}(st:M80 b h it a i):∃ o,h.get? it=some o/\(∀ v,o.data=.cell v->False)/\∀ h':é,h'.get? it=some o->M80 b h' it a i:=by
 cases b with
 |true=>obtain⟨o,g,c,d⟩:=st;exact⟨o,g,(λv e=>by rw[d] at e;cases e),λh' k=>⟨o,k,c,d⟩⟩
 |false=>obtain⟨o,g,c,d⟩:=st;exact⟨o,g,(λv e=>by rw[d] at e;cases e),λh' k=>⟨o,k,c,d⟩⟩
theorem Inv.C41(I:Inv X pins σ H s)(h:SqB b X.K H a xs):∃ its:List Ä,Vals xs its/\C31 b s.heap a its.toArray/\a < s.heap.objs.size/\∀ ys,SqB b X.K H a ys->ys=xs:=by
 cases b with
 |true=>obtain⟨its,r,p,_⟩:=I.list h;exact⟨its,r,p.isList,by obtain⟨o,e,_⟩:=p.isList;exact Û e,λys h'=>I.X80 h' h⟩
 |false=>obtain⟨its,r,p,_⟩:=I.tuple h;exact⟨its,r,p,by obtain⟨o,e,_⟩:=p;exact Û e,λys h'=>I.L20 h' h⟩
section
variable {P:Ý}{w:ç}{A:õ}{E:Ä->Æ->Prop}{s:Æ}{b:Bool}{z TI TO i1 i2 l1 l2:Ç}{k:Nat}{xs ys:Array Ä}{x y p q:Ä}
theorem m41{Q:Option Ä->Æ->Prop}(D:ZipApart z TI TO i1 i2 l1 l2)(hz:Ñ7 s.heap z TI TO .none)(hTI:Æ5 s.heap TI (.ref i1) (.ref i2))(hTO:Æ5 s.heap TO p q)(h1:M80 b s.heap i1 l1 k)(h2:M80 b s.heap i2 l2 k)(hl1:C31 b s.heap l1 xs)(hl2:C31 b s.heap l2 ys)(hx:xs[k]?=some x)(hy:ys[k]?=some y)
  (hQ:∀ h',Ñ7 h' z TI TO (Ã3 s.heap.objs.size)->Æ5 h' TO x y->M80 b h' i1 l1 (k + 1)->M80 b h' i2 l2 (k + 1)->Æ5 h' s.heap.objs.size x y->h'.objs.size=s.heap.objs.size + 1 ->
   (∀ c o,c≠z->c≠TO->c≠i1->c≠i2->s.heap.get? c=some o->h'.get? c=some o)->Q (some (.ref s.heap.objs.size)) { s with heap:=h' }):Ï (Õ P w) A (Í2 (.ref z)) Q E s:=match b,h1,h2,hl1,hl2,hQ with
 |true,h1,h2,hl1,hl2,hQ=>wpAny_pyNext_zip_item D hz hTI hTO h1 h2 hl1 hl2 hx hy hQ|false,h1,h2,hl1,hl2,hQ=>m21 D hz hTI hTO h1 h2 hl1 hl2 hx hy hQ
theorem C51{Q:Option Ä->Æ->Prop}(hh:A.handled=none)(D:ZipApart z TI TO i1 i2 l1 l2)(hz:Ñ7 s.heap z TI TO .none)(hTI:Æ5 s.heap TI (.ref i1) (.ref i2))(hTO:Æ5 s.heap TO p q)(h1:M80 b s.heap i1 l1 k)(h2:M80 b s.heap i2 l2 k)(hl1:C31 b s.heap l1 xs)(hl2:C31 b s.heap l2 ys)
  (hend:xs[k]?=none∨ys[k]?=none) (hQ:∀ h',(∀ c o,c≠z->c≠TO->c≠i1->c≠i2->s.heap.get? c=some o->h'.get? c=some o)->Q none { s with heap:=h' }):Ï (Õ P w) A (Í2 (.ref z)) Q E s:=match b,h1,h2,hl1,hl2 with
 |true,h1,h2,hl1,hl2=>wpAny_pyNext_zip_end hh D hz hTI hTO h1 h2 hl1 hl2 hend hQ|false,h1,h2,hl1,hl2=>C21 hh D hz hTI hTO h1 h2 hl1 hl2 hend hQ
theorem m51{Q:Ä->Æ->Prop}(hl1:C31 b s.heap l1 xs)(hl2:C31 b s.heap l2 ys)
  (h:∀ h',Ñ7 h' (s.heap.objs.size + 4) (s.heap.objs.size + 2) (s.heap.objs.size + 3) .none->Æ5 h' (s.heap.objs.size + 2) (.ref s.heap.objs.size) (.ref (s.heap.objs.size + 1))->Æ5 h' (s.heap.objs.size + 3) .none .none ->
   M80 b h' s.heap.objs.size l1 0->M80 b h' (s.heap.objs.size + 1) l2 0->(∀ c o,s.heap.get? c=some o->h'.get? c=some o)->Q (.ref (s.heap.objs.size + 4)) { s with heap:=h' }):Ï (Õ P w) A (call (.type "zip") [.ref l1,.ref l2]) Q E s:=match b,hl1,hl2,h with
 |true,hl1,hl2,h=>call_zip_2 hl1 hl2 λh' a1 a2 a3 a4 a5 _ a6=>h h' a1 a2 a3 a4 a5 a6|false,hl1,hl2,h=>m31 hl1 hl2 h
end
def Itz(b:Bool)(K:Ã)(a c:Ç):It :=
 ⟨λi H=>∃ xs ys x y,SqB b K H a xs/\SqB b K H c ys/\xs[i]?=some x/\ys[i]?=some y,
  λi H v H'=>∃ T,v=.ref T/\H T=none/\∀ xs ys x y,SqB b K H a xs->SqB b K H c ys->xs[i]?=some x->ys[i]?=some y->H'=upd H T (.tup [x,y]),
  λi H=>∃ xs ys,SqB b K H a xs/\SqB b K H c ys/\(xs.length<=i∨ys.length<=i)⟩
theorem C61{P:Ý}{w:ç}{K:Ã}{es:List Ò}{ek:Nat}{ep:Pos}{b:Bool}{a c z TI TO i1 i2:Ç}(D:ZipApart z TI TO i1 i2 a c) :
  Turn P w K (.Tuple es ek ep) (Itz b K a c) [z,TI,TO,i1,i2] z (λi h=>Ñ7 h z TI TO .none/\Æ5 h TI (.ref i1) (.ref i2)/\(∃ p q,Æ5 h TO p q)/\M80 b h i1 a i/\M80 b h i2 c i) where
 mem:=by simp
 obj:=λi h st c hc=>by
  obtain⟨hz,hTI,⟨p,q,hTO⟩,h1,h2⟩:=st;obtain⟨o1,h1,d1,_⟩:=h1.obj;obtain⟨o2,h2,d2,_⟩:=h2.obj;simp only[Á7,À2,or_false] at hc;rcases hc with rfl | rfl | rfl | rfl | rfl
  ·exact⟨_,hz,λv e=>by cases e⟩
  ·exact⟨_,hTI,λv e=>by cases e⟩
  ·exact⟨_,hTO,λv e=>by cases e⟩
  ·exact⟨_,h1,d1⟩
  ·exact⟨_,h2,d2⟩
 keep:=λi h h' st k=>by
  obtain⟨hz,hTI,⟨p,q,hTO⟩,h1,h2⟩:=st;obtain⟨o1,h1,_,r1⟩:=h1.obj;obtain⟨o2,h2,_,r2⟩:=h2.obj;exact⟨k z (by simp) _ hz,k TI (by simp) _ hTI,⟨p,q,k TO (by simp) _ hTO⟩,r1 _ (k i1 (by simp) _ h1),r2 _ (k i2 (by simp) _ h2)⟩
 item:=by
  intro X hP hw hK hc i pins s σ H E I hf st hg;subst hP hw hK;obtain⟨xs,ys,x,y,hq1,hq2,hx,hy⟩:=hg;obtain⟨v1,rv1,p1,_,z1⟩:=I.C41 hq1;obtain⟨v2,rv2,p2,_,z2⟩:=I.C41 hq2;obtain⟨u1,hu1,ru1⟩:=rv1.get hx;obtain⟨u2,hu2,ru2⟩:=rv2.get hy;obtain⟨hz,hTI,⟨p,q,hTO⟩,h1,h2⟩:=st;refine m41 D hz hTI hTO h1 h2 p1 p2 (x:=u1) (y:=u2) (by simpa using hu1) (by simpa using hu2) λg1 gz gTO g1' g2' gT gs kp=>⟨_,rfl,?_⟩
  refine wpAny_letOwnedTupleGo_zip (s:={ s with heap:=g1 }) gz λg2 gz2 sb=>?_;have hT:H s.heap.objs.size=none:=I.hok.fresh (Ë _);have kall:∀ c o,c ∉ [z,TI,TO,i1,i2]->s.heap.get? c=some o->g2.get? c=some o:=λc o hc e=>by
   simp only[Á7,À2,or_false,not_or] at hc;exact sb.extBut _ _ hc.1 (kp c o hc.1 hc.2.2.1 hc.2.2.2.1 hc.2.2.2.2 e)
  have I2:Inv X pins σ H { s with heap:=g2 }:=I.F50 (t':=s.toks) hf kall;have fT:X90 X pins H s.heap.objs.size:=I.e31 (Ë _) hT;have gT2:g2.get? s.heap.objs.size=some { cls:=.type "tuple",data:=.seq #[u1,u2] }:=sb.extBut _ _ (λe=>Á8 _ (by have:=Û hz;rw[← e] at this;exact this)) gT
  have I3:Inv X pins σ (upd H s.heap.objs.size (.tup [x,y])) { s with heap:=g2 }:=I2.C11 fT I.sz (I2.hok.K71 hT (its:=[u1,u2]) (.cons ru1 (.cons ru2 .nil)) (by show 2<=sizeLine;rw[ò];decide) ⟨_,gT2,rfl,_,rfl⟩)
  have TI0:Æ5 g2 TI (.ref i1) (.ref i2):=sb.extBut _ _ D.TIz (kp _ _ D.TIz D.TITO D.TIi1 D.TIi2 hTI);obtain⟨o1,w1,_,r1⟩:=g1'.obj;obtain⟨o2,w2,_,r2⟩:=g2'.obj;refine⟨.ref s.heap.objs.size,_,I3,rfl,⟨_,rfl,hT,λxs' ys' x' y' e1 e2 e3 e4=>?_⟩,⟨gz2,TI0,⟨_,_,sb.extBut _ _ D.TOz gTO⟩,r1 _ (sb.extBut _ _ D.i1z w1),r2 _ (sb.extBut _ _ D.i2z w2)⟩,λc hc=>?_⟩
  ·rw[z1 _ e1] at e3;rw[z2 _ e2] at e4;rw[hx] at e3;rw[hy] at e4;cases e3;cases e4;rfl
  ·rw[a10]
   ·exact(hf c hc).1
   ·intro e;obtain⟨o1,h1,_⟩:=h1.obj;obtain⟨o2,h2,_⟩:=h2.obj;have lt:c < s.heap.objs.size:=by
     simp only[Á7,À2,or_false] at hc;rcases hc with rfl | rfl | rfl | rfl | rfl
     ·exact Û hz
     ·exact Û hTI
     ·exact Û hTO
     ·exact Û h1
     ·exact Û h2
    rw[e] at lt;exact Á8 _ lt
 done:=by
  intro X hP hw hK hc i pins s σ H E I hf st hg;subst hP hw hK;obtain⟨xs,ys,hq1,hq2,hend⟩:=hg;obtain⟨v1,rv1,p1,_⟩:=I.C41 hq1;obtain⟨v2,rv2,p2,_⟩:=I.C41 hq2;obtain⟨hz,hTI,⟨p,q,hTO⟩,h1,h2⟩:=st;have l1:=rv1.length;have l2:=rv2.length;refine C51 (I.ok.hd hc) D hz hTI hTO h1 h2 p1 p2 (hend.elim (λe=>.inl (by simp;omega)) λe=>.inr (by simp;omega)) λg kp=>⟨rfl,I.F50 (t':=s.toks) hf λc o hcn e=>?_⟩
  simp only[Á7,À2,or_false,not_or] at hcn;exact kp c o hcn.1 hcn.2.2.1 hcn.2.2.2.1 hcn.2.2.2.2 e
 self:=λ_ _ _ _ _ st h=>wpAny_pyIter_zip st.1 h
def G12(K:Ã)(ta:TA):TI:=λσ H R=>ta σ H λvs H1=>∃ b a c,vs=[.ref a,.ref c]/\(∃ xs,SqB b K H1 a xs)/\(∃ ys,SqB b K H1 c ys)/\R (Itz b K a c) H1
theorem boot_zip:í "zip"=some (.type "zip"):=by decide +kernel
theorem d92{X:Cx}{a b:Ò}{es:List Ò}{ek:Nat}{ep:Pos}{ta:TA}{p pos:Pos}(hg:Gl X "zip")(hm:X.mg "zip"=none)(ha:PA X [a,b] ta)(hs:ü [a,b] X.env=[(false,eval a X.env),(false,eval b X.env)]:=by rfl)(hs2:ü [b] X.env=[(false,eval b X.env)]:=by rfl) :
  PI X (.Tuple es ek ep) (.Call (.Name "zip" p) [a,b] [] pos) (G12 X.K ta):=by
 intro pins s σ H R I h;refine Call_ (q20 I hg hm boot_zip (Á1 (thn (ha pos pins s σ H _ I h) λus s1 ⟨vs,H1,I1,r1,q1⟩=>?_) (by rw[hs,hs2]) (by rw[hs2];rfl)))
 obtain⟨b,l1,l2,e,⟨xs,hq1⟩,⟨ys,hq2⟩,q⟩:=q1;subst e;obtain⟨u,w',rfl,r,r'⟩:=vals2 r1;cases r;cases r';obtain⟨v1,rv1,p1,a1,_⟩:=I1.C41 hq1;obtain⟨v2,rv2,p2,a2,_⟩:=I1.C41 hq2;refine m51 p1 p2 λh' hz hTI hTO h1 h2 kp=>wpAny_pyIter_zip (s:={ s1 with heap:=h' }) hz ?_;refine⟨_,[s1.heap.objs.size + 4,s1.heap.objs.size + 2,s1.heap.objs.size + 3,s1.heap.objs.size,s1.heap.objs.size + 1],_,_,H1,rfl,I1.kept (t':=s1.toks) kp,C61 (PyProof.Rows.zipApart_new a1 a2),⟨hz,hTI,⟨_,_,hTO⟩,h1,h2⟩,λc hc=>?_,q⟩;have hc':s1.heap.objs.size<=c:=by
  simp only[Á7,À2,or_false] at hc;rcases hc with rfl | rfl | rfl | rfl | rfl
  ·exact É1 _ 4
  ·exact É1 _ 2
  ·exact É1 _ 3
  ·exact Ë _
  ·exact É1 _ 1
 exact I1.e31 hc' (I1.hok.fresh hc')
theorem C71(hc:X.calm=true):e30 X (.builtin "all") (λxs H Q=>∃ (a:Ç) (bs:List Bool),xs=[.ref a]/\SqL X.K H a (bs.map V.bl)/\Q (.bl (bs.all id)) H):=by
 intro pins s σ H xs us Q I r h;obtain⟨a,bs,rfl,hq,q⟩:=h;obtain⟨u,rfl,rx⟩:=vals1 r;cases rx;obtain⟨its,rv,pl,hz⟩:=I.list hq;have hlt:a < s.heap.objs.size:=by obtain⟨_,e,_⟩:=pl.isList;exact Û e
 have hlen:its.length=bs.length:=by have:=rv.length;simpa using this.symm
 refine call_all_walk (Ò7 pl.isList ⟨_,_,_,_,_,_,λi=>(bs[i]?).getD true,rfl,Ü1 (by exact I.ok.hd hc) s.heap.objs.size a (Ô hlt) its.toArray,⟨⟨_,É _ rfl,rfl,rfl⟩,pl.isList.push _⟩,?_,?_⟩)
 ·intro i v s' Q' E' hP hQ;have hP':its[i]?=some v:=by simpa using hP
  have hi:i < bs.length:=by rw[← hlen];exact(ä.mp hP').1
  obtain⟨v',hv',rv'⟩:=rv.get (i:=i) (x:=.bl bs[i]) (by simp[hi])
  rw[hP'] at hv';cases hv';cases (show v=Î2 _ from rv');exact Ã2 (by simpa [hi] using hQ)
 ·intro h' tk kp;refine⟨.bl (bs.all id),H,I.kept λb o e=>kp b o (by simpa using Ô (Û e)) (Â _ e),?_,q⟩
  show Î2 _=Î2 _;rw[Ø,hlen,PyProof.Rows.LSm.range_all]
end L2
namespace MySort
open PySem PySem.W PyProof.Rows
def run{α:Type}(cmp:Nat->Nat->Bool):KasT α->α
 |.ret a=>a|.ask i j k=>run cmp (k (cmp i j))
theorem run_bind(cmp:Nat->Nat->Bool)(f:α->KasT β):∀ t:KasT α,run cmp (t.bind f)=run cmp (f (run cmp t))
 |.ret _=>rfl|.ask i j k=>run_bind cmp f (k (cmp i j))
section
variable (O:KeyOrd) (key:Nat->O.α)
def kk(p:Array Nat)(i:Nat):O.α:=key (p.getD i 0)
abbrev k00:Nat->Nat->Bool:=λi j=>O.blt (key i) (key j)
def Up(p:Array Nat)(n:Nat):Prop:=∀ i j,i<=j->j < n->O.kle (kk O key p i) (kk O key p j)
def Dn(p:Array Nat)(n:Nat):Prop:=∀ i j,i<=j->j < n->O.kle (kk O key p j) (kk O key p i)
variable {O key}
theorem q70(h:p[i]?=q[j]?):kk O key p i=kk O key q j:=by
 unfold kk;rw[Í6,Í6,h]
theorem m61(hj:j<=p.size)(k:Nat):kk O key (È1 p i j) k=if i<=k/\k < j then kk O key p (i + j - 1 - k) else kk O key p k:=by
 have e:=getElem?_mirror_all (i:=i) hj k;unfold È1;by_cases h1:i<=k/\k < j
 ·rw[if_pos h1] at e ⊢;exact q70 e
 ·rw[if_neg h1] at e ⊢;exact q70 e
theorem e02(hs:k < p.size)(hd:d<=k)(i:Nat) :
  kk O key (bubble p k d) i=if i=k - d then kk O key p k else if k - d < i/\i<=k then kk O key p (i - 1) else kk O key p i:=by
 have e:=getElem?_bubble hs d hd i;by_cases h1:i=k - d
 ·rw[if_pos h1] at e ⊢;exact q70 e
 ·rw[if_neg h1] at e ⊢;by_cases h2:k - d < i/\i<=k
  ·rw[if_pos h2] at e ⊢;exact q70 e
  ·rw[if_neg h2] at e ⊢;exact q70 e
theorem Up.more(h:Up O key p n)(h1:1<=n)(hl:O.kle (kk O key p (n - 1)) (kk O key p n)):Up O key p (n + 1):=by
 intro i j hij hj;by_cases e:j=n
 ·subst e;by_cases e2:i=j
  ·subst e2;exact Ç7 _
  ·exact Ù4 (h i (j - 1) ∅ ∅) hl
 ·exact h i j hij ∅
theorem Dn.more(h:Dn O key p n)(h1:1<=n)(hl:O.kle (kk O key p n) (kk O key p (n - 1))):Dn O key p (n + 1):=by
 intro i j hij hj;by_cases e:j=n
 ·subst e;by_cases e2:i=j
  ·subst e2;exact Ç7 _
  ·exact Ù4 hl (h i (j - 1) ∅ ∅)
 ·exact h i j hij ∅
theorem m71:∀ (f n:Nat),1<=n->Up O key p n ->
  n<=run (k00 O key) (È2 p f n)/\run (k00 O key) (È2 p f n)<=n + f/\Up O key p (run (k00 O key) (È2 p f n)) /\
   (run (k00 O key) (È2 p f n) < n + f->O.klt (kk O key p (run (k00 O key) (È2 p f n))) (kk O key p (run (k00 O key) (È2 p f n) - 1)))
 |0,n,h1,hu=>⟨Ë _,Ë _,hu,λh=>absurd h (Á8 _)⟩
 |f + 1,n,h1,hu=>by
  show n<=run _ (if O.blt (kk O key p n) (kk O key p (n - 1))=true then Ò3 n else È2 p f (n + 1))/\run _ (if O.blt (kk O key p n) (kk O key p (n - 1))=true then Ò3 n else È2 p f (n + 1))<=n + (f + 1) /\
   Up O key p (run _ (if O.blt (kk O key p n) (kk O key p (n - 1))=true then Ò3 n else È2 p f (n + 1))) /\
   (run _ (if O.blt (kk O key p n) (kk O key p (n - 1))=true then Ò3 n else È2 p f (n + 1)) < n + (f + 1) ->
    O.klt (kk O key p (run _ (if O.blt (kk O key p n) (kk O key p (n - 1))=true then Ò3 n else È2 p f (n + 1)))) (kk O key p (run _ (if O.blt (kk O key p n) (kk O key p (n - 1))=true then Ò3 n else È2 p f (n + 1)) - 1)))
  cases hb:O.blt (kk O key p n) (kk O key p (n - 1)) with
  |true =>
   simp only[if_true];exact⟨Ë _,by show n<=n + (f + 1);omega,hu,λ_=>hb⟩
  |false =>
   simp only[Â9,if_false];have ih:=m71 f (n + 1) ∅ (hu.more h1 hb)
   refine⟨by omega,by omega,ih.2.2.1,λh=>ih.2.2.2 ∅⟩
theorem rev_eq(hj:j<=p.size)(he:∀ k,i<=k->k < j->kk O key p k=kk O key p (j - 1))(k:Nat):kk O key (È1 p i j) k=kk O key p k:=by
 rw[m61 hj];split
 ·rw[he _ ∅ ∅,he k ∅ ∅]
 ·rfl
theorem F60(p:Array Nat)(i j:Nat):(È1 p i j).Perm p:=mirror_perm _ _ _ _
theorem F70(p:Array Nat)(i j:Nat):(È1 p i j).size=p.size:=mirror_size _ _ _ _
structure DnR(O:KeyOrd)(key:Nat->O.α)(p0 p:Array Nat)(n q:Nat):Prop where
 perm:p.Perm p0
 size:p.size=p0.size
 pos:q + 1<=n
 dn:Dn O key p n
 eq:∀ k,n - (q + 1)<=k->k < n->kk O key p k=kk O key p (n - 1)
theorem DnR.rev(h:DnR O key p0 p n q)(hn:n<=p0.size):DnR O key p0 (È1 p (n - (q + 1)) n) n q:=by
 have hz:=h.size;have e:=rev_eq (O:=O) (key:=key) (i:=n - (q + 1)) (j:=n) (p:=p) ∅ h.eq
 exact⟨(F60 _ _ _).trans h.perm,(F70 _ _ _).trans hz,h.pos,λi j hij hj=>by rw[e,e];exact h.dn i j hij hj,λk h1 h2=>by rw[e,e];exact h.eq k h1 h2⟩
theorem T30:∀ (f:Nat) (p:Array Nat) (n q:Nat),DnR O key p0 p n q->n + f<=p0.size ->
  n<=(run (k00 O key) (Â8 f p n q)).2.1/\(run (k00 O key) (Â8 f p n q)).2.1<=n + f /\
   DnR O key p0 (run (k00 O key) (Â8 f p n q)).1 (run (k00 O key) (Â8 f p n q)).2.1 (run (k00 O key) (Â8 f p n q)).2.2
 |0,p,n,q,h,_=>⟨Ë _,Ë _,h⟩
 |f + 1,p,n,q,h,hn=>by
  have hp:=h.pos;have hz:=h.size;have unf:run (k00 O key) (Â8 (f + 1) p n q)=run (k00 O key) (if O.blt (kk O key p n) (kk O key p (n - 1))=true then(if q > 0 then Â8 f (È1 p (n - (q + 1)) n) (n + 1) 0 else Â8 f p (n + 1) 0)
   else .ask (p.getD (n - 1) 0) (p.getD n 0) λd=>if d=true then .ret (p,n,q) else Â8 f p (n + 1) (q + 1)):=rfl
  rw[unf];cases hb:O.blt (kk O key p n) (kk O key p (n - 1)) with
  |true =>
   simp only[if_true];have go:∀ p',DnR O key p0 p' n q->(∀ k,kk O key p' k=kk O key p k)->n<=(run (k00 O key) (Â8 f p' (n + 1) 0)).2.1/\(run (k00 O key) (Â8 f p' (n + 1) 0)).2.1<=n + (f + 1) /\
     DnR O key p0 (run (k00 O key) (Â8 f p' (n + 1) 0)).1 (run (k00 O key) (Â8 f p' (n + 1) 0)).2.1 (run (k00 O key) (Â8 f p' (n + 1) 0)).2.2:=λp' h' e=>by
    have ih:=T30 f p' (n + 1) 0 ⟨h'.perm,h'.size,by omega,h'.dn.more ∅ (by rw[e,e];exact Ï3 hb),λk h1 h2=>by
     have:k=n:=by omega
     subst this;rfl⟩ ∅
    exact⟨by omega,by omega,ih.2.2⟩
   split
   ·exact go _ (h.rev ∅) (rev_eq ∅ h.eq)
   ·exact go _ h λ_=>rfl
  |false =>
   simp only[Â9,if_false];have unf2:run (k00 O key) (KasT.ask (p.getD (n - 1) 0) (p.getD n 0) λd=>if d=true then .ret (p,n,q) else Â8 f p (n + 1) (q + 1)) =
    run (k00 O key) (if O.blt (kk O key p (n - 1)) (kk O key p n)=true then .ret (p,n,q) else Â8 f p (n + 1) (q + 1)):=rfl
   rw[unf2];cases hc:O.blt (kk O key p (n - 1)) (kk O key p n) with
   |true =>
    simp only[if_true];exact⟨Ë _,by show n<=n + (f + 1);omega,h⟩
   |false =>
    simp only[Â9,if_false];have e:kk O key p n=kk O key p (n - 1):=O.total _ _ hb hc;have ih:=T30 f p (n + 1) (q + 1) ⟨h.perm,h.size,by omega,h.dn.more ∅ (by rw[e];exact Ç7 _),λk h1 h2=>by
     show _=kk O key p n;by_cases hk:k=n
     ·rw[hk]
     ·rw[e];exact h.eq k ∅ ∅⟩ ∅
    exact⟨by omega,by omega,ih.2.2⟩
structure s42(O:KeyOrd)(key:Nat->O.α)(p0:Array Nat)(nrem:Nat)(r:Nat × Array Nat):Prop where
 perm:r.2.Perm p0
 size:r.2.size=p0.size
 lo:1<=r.1
 hi:r.1<=nrem
 up:Up O key r.2 r.1
theorem Y40(hp:p.Perm p0)(hz:p.size=p0.size)(hd:Dn O key p n)(h1:1<=n)(hn:n<=nrem)(hr:nrem<=p0.size):s42 O key p0 nrem (run (k00 O key) (kas_tail3 n nrem p)):=by
 unfold kas_tail3;rw[run_bind];have hu:Up O key (È1 p 0 n) n:=λi j hij hj=>by
  rw[m61 ∅,m61 ∅,if_pos ∅,if_pos ∅]
  exact hd _ _ ∅ ∅
 have a:=m71 (O:=O) (key:=key) (p:=È1 p 0 n) (nrem - n) n h1 hu;exact⟨(F60 _ _ _).trans hp,(F70 _ _ _).trans hz,by show 1<=run _ (È2 _ _ _);omega,by show run _ (È2 _ _ _)<=_;omega,a.2.2.1⟩
theorem x80(hp:p.Perm p0)(hz:p.size=p0.size)(hd:Dn O key p (n + 1))(hn:n + 1<=nrem)(hr:nrem<=p0.size):s42 O key p0 nrem (run (k00 O key) (Ð3 n nrem p)):=by
 unfold Ð3;rw[run_bind];have d:=T30 (O:=O) (key:=key) (p0:=p0) (nrem - (n + 1)) p (n + 1) 0 ⟨hp,hz,by omega,hd,λk h1 h2=>by
  have:k=n:=by omega
  subst this;rfl⟩ ∅
 obtain⟨d1,d2,d3⟩:=d;have hpos:=d3.pos;split
 ·have d4:=d3.rev ∅
  exact Y40 d4.perm d4.size d4.dn ∅ ∅ hr
 ·exact Y40 d3.perm d3.size d3.dn ∅ ∅ hr
theorem C81(h1:1<=nrem)(hr:nrem<=p.size):s42 O key p nrem (run (k00 O key) (Ý6 nrem p)):=by
 unfold Ý6;rw[run_bind];have a:=m71 (O:=O) (key:=key) (p:=p) (nrem - 1) 1 (Ë _) (λi j hij hj=>by
  have:i=j:=by omega
  subst this;exact Ç7 _)
 generalize run (k00 O key) (È2 p (nrem - 1) 1)=n at a ⊢;obtain⟨a1,a2,a3,a4⟩:=a;split
 ·exact⟨Ë9 _,rfl,a1,by show n<=nrem;omega,a3⟩
 ·rename_i hne;have hlt:n < nrem:=by
   have:n≠nrem:=by simpa using hne
   omega
  have hl:=a4 ∅
  split
  ·rename_i h2;have unf:run (k00 O key) (KasT.ask (p.getD 0 0) (p.getD (n - 1) 0) λc=>if c=true then .ret (n,p) else Ð3 n nrem (È1 p 0 n)) =
    run (k00 O key) (if O.blt (kk O key p 0) (kk O key p (n - 1))=true then .ret (n,p) else Ð3 n nrem (È1 p 0 n)):=rfl
   rw[unf];cases hb:O.blt (kk O key p 0) (kk O key p (n - 1)) with
   |true =>
    simp only[if_true];exact⟨Ë9 _,rfl,a1,by show n<=nrem;omega,a3⟩
   |false =>
    simp only[Â9,if_false];have e0:kk O key p 0=kk O key p (n - 1):=O.total _ _ hb (a3 0 (n - 1) ∅ ∅)
    have e:∀ k,0<=k->k < n->kk O key p k=kk O key p (n - 1):=λk _ hk=>by
     refine KeyOrd.kle_antisymm (a3 k (n - 1) ∅ ∅) ?_
     rw[← e0];exact a3 0 k ∅ hk
    have er:=rev_eq (O:=O) (key:=key) (i:=0) (j:=n) (p:=p) ∅ e
    refine x80 (F60 _ _ _) (F70 _ _ _) ?_ ∅ hr
    have dn:Dn O key (È1 p 0 n) n:=λi j hij hj=>by
     rw[er,er,e i ∅ ∅,e j ∅ ∅];exact Ç7 _
    refine dn.more a1 ?_;rw[er,er];exact Ï3 hl
  ·have h2:n=1:=by omega
   subst h2;refine x80 (Ë9 _) rfl ?_ ∅ hr
   have dn:Dn O key p 1:=λi j hij hj=>by
    have:i=j:=by omega
    subst this;exact Ç7 _
   exact dn.more (Ë _) (Ï3 hl)
theorem F80(hu:Up O key p k):∀ (f l r:Nat),l<=r->r<=k->r - l<=f->(∀ i,i < l->O.kle (kk O key p i) (kk O key p k))->(∀ i,r<=i->i < k->O.klt (kk O key p k) (kk O key p i)) ->
  run (k00 O key) (Ä4 p k f l r)<=k/\(∀ i,i < run (k00 O key) (Ä4 p k f l r)->O.kle (kk O key p i) (kk O key p k))/\(∀ i,run (k00 O key) (Ä4 p k f l r)<=i->i < k->O.klt (kk O key p k) (kk O key p i))
 |0,l,r,h1,h2,h3,h4,h5=>by
  have:l=r:=by omega
  subst this;exact⟨h2,h4,h5⟩
 |f + 1,l,r,h1,h2,h3,h4,h5=>by
  have unf:Ä4 p k (f + 1) l r=(if l ≥ r then .ret l else .ask (p.getD k 0) (p.getD ((l + r) / 2) 0) λc=>if c=true then Ä4 p k f l ((l + r) / 2) else Ä4 p k f ((l + r) / 2 + 1) r):=rfl;rw[unf];by_cases hlr:l ≥ r
  ·rw[if_pos hlr];have:l=r:=by omega
   subst this;exact⟨h2,h4,h5⟩
  ·rw[if_neg hlr];have unf2:run (k00 O key) (KasT.ask (p.getD k 0) (p.getD ((l + r) / 2) 0) λc=>if c=true then Ä4 p k f l ((l + r) / 2) else Ä4 p k f ((l + r) / 2 + 1) r) =
    run (k00 O key) (if O.blt (kk O key p k) (kk O key p ((l + r) / 2))=true then Ä4 p k f l ((l + r) / 2) else Ä4 p k f ((l + r) / 2 + 1) r):=rfl
   rw[unf2];cases hb:O.blt (kk O key p k) (kk O key p ((l + r) / 2)) with
   |true =>
    simp only[if_true];exact F80 hu f l ((l + r) / 2) ∅ ∅ ∅ h4 λi hi hk=>KeyOrd.klt_of_klt_of_kle hb (hu _ i hi hk)
   |false =>
    simp only[Â9,if_false];exact F80 hu f ((l + r) / 2 + 1) r ∅ ∅ ∅ (λi hi=>Ù4 (hu i ((l + r) / 2) ∅ ∅) hb) h5
theorem K81:∀ (f:Nat) (p:Array Nat) (k:Nat),p.Perm p0->p.size=p0.size->Up O key p k->k + f<=p0.size ->
  (run (k00 O key) (kas_bin f p k)).Perm p0/\Up O key (run (k00 O key) (kas_bin f p k)) (k + f)
 |0,p,k,hp,_,hu,_=>⟨hp,hu⟩
 |f + 1,p,k,hp,hz,hu,hk=>by
  have unf:kas_bin (f + 1) p k=(Ä4 p k k 0 k).bind λl=>kas_bin f (bubble p k (k - l)) (k + 1):=rfl;rw[unf,run_bind];have pl:=F80 (O:=O) (key:=key) hu k 0 k ∅ ∅ ∅ (λi hi=>absurd hi (Õ8 _)) (λi h1 h2=>absurd h2 ∅)
  generalize run (k00 O key) (Ä4 p k k 0 k)=l at pl ⊢;obtain⟨l1,l2,l3⟩:=pl;have hb:=e02 (O:=O) (key:=key) (p:=p) (k:=k) (d:=k - l) ∅ ∅
  have hu':Up O key (bubble p k (k - l)) (k + 1):=λi j hij hj=>by
   rw[hb,hb];have el:k - (k - l)=l:=by omega
   rw[el];by_cases ei:i=l
   ·rw[if_pos ei];by_cases ej:j=l
    ·rw[if_pos ej];exact Ç7 _
    ·rw[if_neg ej,if_pos ∅]
     exact Ï3 (l3 _ ∅ ∅)
   ·rw[if_neg ei];by_cases hi:l < i/\i<=k
    ·rw[if_pos hi,if_neg ∅,if_pos ∅]
     exact hu _ _ ∅ ∅
    ·rw[if_neg hi];by_cases ej:j=l
     ·rw[if_pos ej];exact l2 _ ∅
     ·rw[if_neg ej];by_cases hj':l < j/\j<=k
      ·rw[if_pos hj'];exact hu _ _ ∅ ∅
      ·rw[if_neg hj'];exact hu _ _ hij ∅
  have ih:=K81 (p0:=p0) f (bubble p k (k - l)) (k + 1) ((bubble_perm _ _ _).trans hp) ((bubble_size _ _ _).trans hz) hu' ∅
  exact⟨ih.1,by have:=ih.2;rwa [show k + 1 + f=k + (f + 1) by omega] at this⟩
theorem Q41(h1:1<=n):(run (k00 O key) (Ñ3 n)).Perm (ì n).toArray/\Up O key (run (k00 O key) (Ñ3 n)) n:=by
 unfold Ñ3;rw[run_bind];have c:=C81 (O:=O) (key:=key) (p:=(ì n).toArray) h1 (by simp)
 generalize run (k00 O key) (Ý6 n (ì n).toArray)=r at c ⊢;obtain⟨c1,c2,c3,c4,c5⟩:=c;split
 ·have b:=K81 (O:=O) (key:=key) (n - max r.1 1) r.2 (max r.1 1) c1 c2 (by rw[Nat.max_eq_left c3];exact c5) (by simp;omega)
  exact⟨b.1,by have:=b.2;rwa [show max r.1 1 + (n - max r.1 1)=n by omega] at this⟩
 ·have:r.1=n:=by omega
  rw[this] at c5;exact⟨c1,c5⟩
end
def m60{α:Type}(n:Nat):KasT α->Prop
 |.ret _=>True|.ask i j k=>(i < n/\j < n)/\∀ b,m60 n (k b)
def M90{α:Type}(G:α->Prop):KasT α->Prop
 |.ret a=>G a|.ask _ _ k=>∀ b,M90 G (k b)
theorem m60.bind{α β:Type}{n:Nat}{f:α->KasT β}{G:α->Prop}(hf:∀ a,G a->m60 n (f a)):∀ {t:KasT α},m60 n t->M90 G t->m60 n (t.bind f)
 |.ret a,_,g=>hf a g|.ask _ _ _,h,g=>⟨h.1,λb=>m60.bind hf (h.2 b) (g b)⟩
theorem M90.bind{α β:Type}{f:α->KasT β}{G:α->Prop}{G':β->Prop}(hf:∀ a,G a->M90 G' (f a)):∀ {t:KasT α},M90 G t->M90 G' (t.bind f)
 |.ret a,g=>hf a g|.ask _ _ _,g=>λb=>M90.bind hf (g b)
def Low(n:Nat)(p:Array Nat):Prop:=∀ i,p.getD i 0 < n
theorem m81(h1:1<=n)(hp:p.Perm q)(hq:∀ x∈q.toList,x < n):Low n p:=λi=>by
 by_cases hi:i < p.size
 ·have e:p.getD i 0=p[i]:=by simp[getD,hi]
  rw[e];exact hq _ (hp.toList.mem_iff.mp (by simp))
 ·have e:p.getD i 0=0:=by simp[getD,hi]
  rw[e];exact h1
structure Good(n:Nat)(q p:Array Nat):Prop where
 low:Low n p
 perm:p.Perm q
theorem Good.rev(h1:1<=n)(hq:∀ x∈q.toList,x < n)(g:Good n q p)(i j:Nat):Good n q (È1 p i j) :=
 have e:=(mirror_perm p i j ((j - i) / 2)).trans g.perm
 ⟨m81 h1 e hq,e⟩
theorem Good.bub(h1:1<=n)(hq:∀ x∈q.toList,x < n)(g:Good n q p)(i j:Nat):Good n q (bubble p i j) :=
 have e:=(bubble_perm p i j).trans g.perm
 ⟨m81 h1 e hq,e⟩
section
variable {n:Nat}{q:Array Nat}
theorem F90(g:Low n p):∀ (f k:Nat),m60 n (È2 p f k)
 |0,_=>trivial|f + 1,k=>⟨⟨g _,g _⟩,λb=>by cases b with | true=>exact trivial | false=>exact F90 g f (k + 1)⟩
theorem q80:∀ (f k:Nat),M90 (λ_=>True) (È2 p f k)
 |0,_=>trivial|f + 1,k=>λb=>by cases b with | true=>exact trivial | false=>exact q80 f (k + 1)
theorem x90(h1:1<=n)(hq:∀ x∈q.toList,x < n):∀ (f:Nat) (p:Array Nat) (k c:Nat),Good n q p->m60 n (Â8 f p k c)/\M90 (λr=>Good n q r.1) (Â8 f p k c)
 |0,p,k,c,g=>⟨trivial,g⟩
 |f + 1,p,k,c,g=>by
  have a:=λp' k' c' g'=>(x90 h1 hq f p' k' c' g').1;have r:=λp' k' c' g'=>(x90 h1 hq f p' k' c' g').2;refine⟨⟨⟨g.low _,g.low _⟩,λb=>?_⟩,λb=>?_⟩
  ·cases b with
   |true =>
    show m60 n (if c > 0 then Â8 f (È1 p (k - (c + 1)) k) (k + 1) 0 else Â8 f p (k + 1) 0);split
    ·exact a _ _ _ (g.rev h1 hq _ _)
    ·exact a _ _ _ g
   |false=>exact⟨⟨g.low _,g.low _⟩,λd=>by cases d with | true=>exact trivial | false=>exact a _ _ _ g⟩
  ·cases b with
   |true =>
    show M90 _ (if c > 0 then Â8 f (È1 p (k - (c + 1)) k) (k + 1) 0 else Â8 f p (k + 1) 0);split
    ·exact r _ _ _ (g.rev h1 hq _ _)
    ·exact r _ _ _ g
   |false=>exact λd=>by cases d with | true=>exact g | false=>exact r _ _ _ g
theorem n80(h1:1<=n)(hq:∀ x∈q.toList,x < n)(g:Good n q p)(k m:Nat):m60 n (kas_tail3 k m p)/\M90 (λr=>Good n q r.2) (kas_tail3 k m p) :=
 have g':=g.rev h1 hq 0 k
 And.intro (m60.bind (f:=λm'=>Ò3 (m',È1 p 0 k)) (λ_ _=>Ê0) (F90 g'.low (m - k) k) (q80 (m - k) k)) (M90.bind (f:=λm'=>Ò3 (m',È1 p 0 k)) (G':=λr=>Good n q r.2) (λ_ _=>g') (q80 (m - k) k))
theorem h60(h1:1<=n)(hq:∀ x∈q.toList,x < n)(g:Good n q p)(k m:Nat):m60 n (Ð3 k m p)/\M90 (λr=>Good n q r.2) (Ð3 k m p):=by
 have d:=x90 h1 hq (m - (k + 1)) p (k + 1) 0 g;refine⟨m60.bind (λr gr=>?_) d.1 d.2,M90.bind (λr gr=>?_) d.2⟩
 ·split
  ·exact(n80 h1 hq (gr.rev h1 hq _ _) _ _).1
  ·exact(n80 h1 hq gr _ _).1
 ·split
  ·exact(n80 h1 hq (gr.rev h1 hq _ _) _ _).2
  ·exact(n80 h1 hq gr _ _).2
theorem f11(h1:1<=n)(hq:∀ x∈q.toList,x < n)(g:Good n q p)(m:Nat):m60 n (Ý6 m p)/\M90 (λr=>Good n q r.2) (Ý6 m p):=by
 refine⟨m60.bind (λk _=>?_) (F90 g.low _ _) (q80 _ _),M90.bind (λk _=>?_) (q80 _ _)⟩
 ·split
  ·exact trivial
  ·split
   ·exact⟨⟨g.low _,g.low _⟩,λb=>by cases b with | true=>exact trivial | false=>exact(h60 h1 hq (g.rev h1 hq _ _) _ _).1⟩
   ·exact(h60 h1 hq g _ _).1
 ·split
  ·exact g
  ·split
   ·exact λb=>by cases b with | true=>exact g | false=>exact(h60 h1 hq (g.rev h1 hq _ _) _ _).2
   ·exact(h60 h1 hq g _ _).2
theorem h90(g:Low n p)(k:Nat):∀ (f l r:Nat),m60 n (Ä4 p k f l r)/\M90 (λ_=>True) (Ä4 p k f l r)
 |0,_,_=>⟨trivial,trivial⟩
 |f + 1,l,r=>by
  have e:Ä4 p k (f + 1) l r=(if l ≥ r then .ret l else .ask (p.getD k 0) (p.getD ((l + r) / 2) 0) λc=>if c=true then Ä4 p k f l ((l + r) / 2) else Ä4 p k f ((l + r) / 2 + 1) r):=rfl;rw[e];split
  ·exact⟨trivial,trivial⟩
  ·refine⟨⟨⟨g _,g _⟩,λb=>?_⟩,λb=>?_⟩
   ·cases b with
    |true=>exact(h90 g k f _ _).1|false=>exact(h90 g k f _ _).1
   ·cases b with
    |true=>exact(h90 g k f _ _).2|false=>exact(h90 g k f _ _).2
theorem Y50(h1:1<=n)(hq:∀ x∈q.toList,x < n):∀ (f:Nat) (p:Array Nat) (k:Nat),Good n q p->m60 n (kas_bin f p k)
 |0,_,_,_=>trivial|f + 1,p,k,g=>m60.bind (λl _=>Y50 h1 hq f _ _ (g.bub h1 hq _ _)) (h90 g.low k k 0 k).1 (h90 g.low k k 0 k).2
theorem m91(h1:1<=n):m60 n (Ñ3 n):=by
 have hq:∀ x∈((ì n).toArray).toList,x < n:=λx hx=>by simpa using hx
 have g:Good n (ì n).toArray (ì n).toArray:=⟨m81 h1 (Ë9 _) hq,Ë9 _⟩;have c:=f11 h1 hq g n;refine m60.bind (λr gr=>?_) c.1 c.2;split
 ·exact Y50 h1 hq _ _ _ gr
 ·exact trivial
end
theorem N00{α:Type}{n:Nat}{cmp:Nat->Nat->Bool}{ask:Nat->Nat->(Bool->Æ->Prop)->Æ->Prop}{s:Æ}(h:∀ i j (C:Bool->Æ->Prop),i < n->j < n->C (cmp i j) s->ask i j C s){Q:α->Æ->Prop} :
  ∀ (t:KasT α),m60 n t->Q (run cmp t) s->t.kasWp ask Q s
 |.ret _,_,q=>q|.ask i j k,a,q=>h i j _ a.1.1 a.1.2 (N00 h (k (cmp i j)) (a.2 _) q)
def g70:List Int->List Int->Bool
 |[],[]=>false|[],_::_=>true|_::_,[]=>false|x::r,y::q=>if x=y then g70 r q else decide (x < y)
theorem o90:∀ a,g70 a a=false
 |[]=>rfl|x::r=>by show(if x=x then g70 r r else _)=_;rw[if_pos rfl];exact o90 r
theorem n90:∀ a b c,g70 a b=true->g70 b c=true->g70 a c=true
 |[],[],_,h,_=>by cases h
 |[],_::_,[],_,h=>by cases h
 |[],_::_,_::_,_,_=>rfl|_::_,[],_,h,_=>by cases h
 |_::_,_::_,[],_,h=>by cases h
 |x::a,y::b,z::c,h1,h2=>by
  have h1:(if x=y then g70 a b else decide (x < y))=true:=h1;have h2:(if y=z then g70 b c else decide (y < z))=true:=h2;show(if x=z then g70 a c else decide (x < z))=true;by_cases e1:x=y
  ·rw[if_pos e1] at h1;by_cases e2:y=z
   ·rw[if_pos e2] at h2;rw[if_pos (e1.trans e2)];exact n90 a b c h1 h2
   ·rw[if_neg e2] at h2;rw[if_neg ∅]
    rw[e1];exact h2
  ·rw[if_neg e1] at h1;have l1:x < y:=by simpa using h1
   by_cases e2:y=z
   ·rw[if_neg ∅];exact decide_eq_true ∅
   ·rw[if_neg e2] at h2;have l2:y < z:=by simpa using h2
    rw[if_neg ∅];exact decide_eq_true ∅
theorem k50:∀ a b,g70 a b=false->g70 b a=false->a=b
 |[],[],_,_=>rfl|[],_::_,h,_=>by cases h
 |_::_,[],_,h=>by cases h
 |x::a,y::b,h1,h2=>by
  have h1:(if x=y then g70 a b else decide (x < y))=false:=h1;have h2:(if y=x then g70 b a else decide (y < x))=false:=h2;by_cases e:x=y
  ·subst e;rw[if_pos rfl] at h1 h2;rw[k50 a b h1 h2]
  ·rw[if_neg e] at h1;rw[if_neg (À8 e)] at h2;have l1:¬ x < y:=by simpa using h1
   have l2:¬ y < x:=by simpa using h2
   omega
theorem Y60(a b c:List Int)(h:g70 a c=true):g70 a b=true∨g70 b c=true:=by
 cases hab:g70 a b with
 |true=>exact .inl rfl
 |false =>
  right;cases hba:g70 b a with
  |true=>exact n90 b a c hba h|false=>rw[← k50 a b hab hba];exact h
def Q51:KeyOrd:=⟨List Int,g70,o90,n90,Y60,k50⟩
section
variable {P:Ý}{w:ç}{A:õ}{E:Ä->Æ->Prop}{s:Æ}
def sortedBy(ks:List (List Int))(p:List Nat):Prop:=p.Perm (ì ks.length)/\(p.map λi=>ks.getD i []).Pairwise λx y=>g70 y x=false
theorem range_getD(d:α):∀ (l:List α),(ì l.length).map (λi=>l.getD i d)=l:=λl=>by
 refine List.ext_getElem (by simp) λi h1 h2=>?_
 simp at h1;simp[h1]
def B42(P:Ý)(w:ç)(A:õ)(s:Æ)(vs:List Ä)(Pr:List Nat->Prop)(kd:SortKind):Prop:=∃ p:List Nat,Pr p/\∀ (E:Ä->Æ->Prop) (Q:Unit × SortSt->Æ->Prop),(∀ st',failedOf st'=none->arrOf st'=(p.toArray).map (kas_item (vs.toArray.zip vs.toArray))->Q ((),st') s)->Ï (Õ P w) A (sortRuns'.run (SortSt.mk' kd (vs.toArray.zip vs.toArray) #[] 7 none)) Q E s
structure a22(P:Program)(w:World)(A:Around)(s:Shared)(vs:List Value)(Pr:List Nat->Prop)(kd:SortKind):Prop where
 len:vs.length<=1000
 few:vs.length < 2->Pr (range vs.length)
 all:∀ p,Pr p->p.length=vs.length
 kind:2<=vs.length->∀ (E:Value->Shared->Prop) (Q:SortKind->Shared->Prop),Q kd s->wpAny (model P w) A (keyKind' vs.toArray) Q E s
 run:2<=vs.length->B42 P w A s vs Pr kd
theorem e12(hl:n=ks.length)(h2:n < 2):sortedBy ks (ì n):=by
 subst hl;refine⟨.refl _,?_⟩;rw[range_getD]
 match ks,h2 with
 |[],_=>exact .nil|[_],_=>simp|_::_::_,q=>simp at q;omega
theorem Q61{vs:List Ä}{ks:List (List Int)}{kd:SortKind}(hlen:vs.length=ks.length)(h64:vs.length < 64)(ask:∀ i j,i < vs.length->j < vs.length->∀ (E:Ä->Æ->Prop) (C:Bool->Æ->Prop),C (g70 (ks.getD i []) (ks.getD j [])) s->Ï (Õ P w) A (keyLt' kd (vs.getD i è) (vs.getD j è)) C E s)(h2':2<=vs.length):B42 P w A s vs (sortedBy ks) kd:=by
 have so:=Q41 (O:=Q51) (key:=λi=>ks.getD i []) (n:=vs.length) ∅
 refine⟨(run (k00 Q51 λi=>ks.getD i []) (Ñ3 vs.length)).toList,?_,λE Q q=>?_⟩
 ·generalize run (k00 Q51 λi=>ks.getD i []) (Ñ3 vs.length)=p at so;refine⟨?_,?_⟩
  ·have:=so.1.toList;rw[hlen] at this;simpa using this
  ·rw[List.pairwise_iff_getElem];intro i j hi hj hij;have hsz:p.size=vs.length:=by have:=so.1.size_eq;simpa using this
   have hi':i < p.size:=by simpa using hi
   have hj':j < p.size:=by simpa using hj
   have u:=so.2 i j (Ç9 hij) ∅
   have g:∀ k,k < p.size->kk Q51 (λi=>ks.getD i []) p k=ks.getD (p.toList.getD k 0) []:=λk hk=>by show ks.getD (p.getD k 0) []=_;rw[Í6,Ó (l:=p.toList),Æ1]
   have u':g70 (ks.getD (p.toList.getD j 0) []) (ks.getD (p.toList.getD i 0) [])=false:=by
    have:=u;unfold KeyOrd.kle at this;rw[g i hi',g j hj'] at this;exact this
   simpa [hi',hj'] using u'
 ·refine Â7 (kat_run (s:=s) (Q:=λst' s'=>s'=s/\failedOf st'=none/\arrOf st'=(run (k00 Q51 λi=>ks.getD i []) (Ñ3 vs.length)).map (kas_item (vs.toArray.zip vs.toArray)))
   (G:=λp s'=>s'=s/\p=run (k00 Q51 λi=>ks.getD i []) (Ñ3 vs.length)) rfl h2' h64 (λp st' s' a1 a2 a3 a4=>⟨a4.1,a3,by rw[a2,a4.2]⟩)
   (N00 (n:=vs.length) (cmp:=k00 Q51 λi=>ks.getD i []) (λi j C hi hj hC=>ask i j hi hj _ C hC) (Ñ3 vs.length) (m91 ∅) ⟨rfl,rfl⟩)) ?_ λ_ _ e=>e
  rintro ⟨⟨⟩,st'⟩ s' ⟨hs',hf,har⟩;subst hs';exact q st' hf har
def f21(h h':é):Prop:=∀ b o,h.get? b=some o->o.cls=.type "tuple"->h'.get? b=some o
theorem G00{a:Ç}{vs:List Ä}{Pr:List Nat->Prop}{kd:SortKind}{n:Nat}{R:PySem.Fin->Æ->Prop}(ho:s.heap.get? a=some (Á9 "list" vs.toArray n))(hk:∀ h',f21 s.heap h'->a22 P w A { s with heap:=h' } vs Pr kd)
  (h:∀ (p:List Nat) (h':é) (c:Nat),Pr p->(∀ b o,b≠a->s.heap.get? b=some o->h'.get? b=some o)->h'.get? a=some (Á9 "list" (p.map λi=>vs.getD i è).toArray c)->R (.done (.ret .none)) { s with heap:=h' }) :
  Ï (Õ P w) A (û.«list.sort» ⟨[.ref a],[]⟩) R E s:=by
 have ha:a < s.heap.objs.size:=Û ho;have h64:=(hk s.heap λ_ _ e _=>e).len;have s1:=Â4 s.heap a (À1 λ_=>(#[]:Array Ä));obtain⟨e1,ho1⟩:∃ e1,(s.heap.update a (À1 λ_=>(#[]:Array Ä))).get? a=some (Á9 "list" #[] e1):=⟨_,Þ5 ho λ_=>#[]⟩;have kp:∀ b o,b≠a->s.heap.get? b=some o->(((s.heap.update a (À1 λ_=>(#[]:Array Ä))).push (Á9 "tuple" vs.toArray 0)).push (Á9 "list" #[] 0)).get? b=some o:=λb o hb e=>Â _ (Â _ ((s1.2 b hb).trans e));have ho6:(((s.heap.update a (À1 λ_=>(#[]:Array Ä))).push (Á9 "tuple" vs.toArray 0)).push (Á9 "list" #[] 0)).get? a=some (Á9 "list" #[] e1):=Â _ (Â _ ho1);have hk6:=hk (((s.heap.update a (À1 λ_=>(#[]:Array Ä))).push (Á9 "tuple" vs.toArray 0)).push (Á9 "list" #[] 0)) (λb o e hc=>kp b o (λq=>by subst q;rw[ho] at e;cases e;have hc':Ã7 "list"=Ã7 "tuple":=hc;injection hc' with hc';exact absurd hc' (-0)) e)
 rw[list_sort_plain];refine À (Õ3 ho rfl (À (Ú2 ho rfl ?_ (by rw[Ø,ò];omega) (Æ7 _))))
 refine À (seqEpoch_at ho1 rfl (À (wpAny_newTuple ?_ (by show vs.length<=_;rw[ò];omega))));refine À (Ó2 (ï ?_) (Æ7 _))
 show Ï (Õ P w) A _ R E { s with heap:=((s.heap.update a (À1 λ_=>(#[]:Array Ä))).push (Á9 "tuple" vs.toArray 0)).push (Á9 "list" #[] 0) };generalize hH:((s.heap.update a (À1 λ_=>(#[]:Array Ä))).push (Á9 "tuple" vs.toArray 0)).push (Á9 "list" #[] 0)=h6 at kp ho6 hk6 ⊢;have fin:∀ (p:List Nat) (out:Array Ä),out=(p.map λi=>vs.getD i è).toArray->Pr p->Ï (Õ P w) A (do
   let touched:=(← seqEpoch a) != e1
   û.List.listUpdate (.ref a) λ_=>out
   if touched then rule "list.sort.modified";raiseError "ValueError" "list modified during sort"
   ret .none) R E { s with heap:=h6 }:=λp out eo hp=>by
  subst eo;have hsz:(p.map λi=>vs.getD i è).toArray.size=vs.length:=by rw[Ø,Ì,(hk s.heap λ_ _ e _=>e).all p hp]
  have s2:=Â4 h6 a (À1 λ_=>(p.map λi=>vs.getD i è).toArray);refine À (seqEpoch_at ho6 rfl (À (Ú2 ho6 rfl ?_ (Æ7 _) (â (Nat.le_of_eq hsz) (by rw[ò];omega)))))
  simp only[bne_self_eq_false,Â9,if_false];exact Å (h p _ _ hp (λb o hb e=>(s2.2 b hb).trans (kp b o hb e)) (Þ5 ho6 λ_=>(p.map λi=>vs.getD i è).toArray))
 dsimp only;by_cases h2:vs.toArray.size < 2
 ·rw[if_pos h2,if_pos h2];refine À (Å ?_);rw[StateT.run_pure];refine À (Å ?_);dsimp only;refine fin (ì vs.length) _ ?_ ((hk s.heap λ_ _ e _=>e).few (by simpa using h2))
  rw[range_getD];apply Ì0.mp;rw[Array.toList_map];show List.map _ (vs.toArray.zip vs.toArray).toList=vs;rw[ksk_zip];exact List.map_snd_zip (Ë _)
 ·rw[if_neg h2,if_neg h2];have h2':2<=vs.length:=by simpa using h2
  refine À (hk6.kind h2' _ _ ?_);obtain⟨p,hp,hr⟩:=hk6.run h2';refine À (hr _ _ λst' hf har=>?_);dsimp only;rw[hf];exact fin p _ (kat_snds rfl har) hp
end
end MySort
namespace HT
open PySem PyProof.Rows
section
open PySem.SeqAt
open PySem.AutoSeq1 (wpAny_loadPart')
open PySem.MeetsSeq PySem.MeetsSeq2 PySem.MeetsSeq3
open MySort (g70)
def leB(ns ms:List Int):Bool:=!g70 ms ns
theorem C91(x y:Int)(r q:List Int):leB (x::r) (y::q)=if x=y then leB r q else decide (x<=y):=by
 show(!(if y=x then g70 q r else decide (y < x)))=_;by_cases e:x=y
 ·rw[if_pos e,if_pos e.symm];rfl
 ·rw[if_neg e,if_neg (À8 e)];by_cases l:y < x
  ·rw[decide_eq_true l,decide_eq_false ∅];rfl
  ·rw[decide_eq_false l,decide_eq_true ∅];rfl
theorem D01(A:õ)(s:Æ)(a:Int)(t:Tok)(c:Int)(u:Tok)(P:Ý)(w:ç)(E:Ä->Æ->Prop)(Q:Ä->Æ->Prop)(h:Q (.bool (decide (a<=c))) s):Ï (Õ P w) A (richCompare .LtE (.int a t) (.int c u)) Q E s :=
 (PyProof.Rows.le_int h:Ï (Õ P w) A (Á2 .LtE (.int a t) (.int c u)) Q E s)
theorem G10(l b:Ç)(i1 i2:Array Ä)(n n2:Nat)(dd dd2:Option Ç)(sl sl2:Array (Option Ä))(ns ms:List Int)(hi:Ë1 i1.toList ns)(hj:Ë1 i2.toList ms) :
  Meets (û.«tuple.__le__» ⟨[.ref l,.ref b],[]⟩) (λ_ R s=>s.heap.get? l=some { cls:=.type "tuple",dict:=dd,data:=.seq i1 n,slots:=sl }/\s.heap.get? b=some { cls:=.type "tuple",dict:=dd2,data:=.seq i2 n2,slots:=sl2 }/\R (.ok (.ret (.bool (leB ns ms)))) s) :=
 .of_wp λP w A R s h=>by
  obtain⟨hp,g,d,tk,os⟩:=s;obtain⟨hl,hb,h⟩:=h;have f2:=Û6;have z1:i1.size=ns.length:=by rw[← hi.length];simp
  have z2:i2.size=ms.length:=by rw[← hj.length];simp
  wp_walk using Å1 hl,Å1 hb,wpAny_forIn_list _ (λrest b s'=>b.1=none/\s'=⟨hp,g,d,tk,os⟩/\∃ (vs ws:List Ä) (ns' ms':List Int),rest=vs.zip ws/\Ë1 vs ns'/\Ë1 ws ms'/\ns'.length + i2.size=ms'.length + i1.size/\R (.ok (.ret (.bool (leB ns' ms')))) ⟨hp,g,d,tk,os⟩) _
  case turn =>
   rintro ⟨y,x⟩ rest b s' ⟨hb',rfl,vs,ws,ns',ms',hz,hvi,hwi,hlen,hR⟩;cases hvi with
   |nil=>rw[Ù1] at hz;cases hz
   |cons a t hvi' =>
    cases hwi with
    |nil=>rw[List.zip_nil_right] at hz;cases hz
    |cons c u hwi' =>
     rw[É7] at hz;injection hz with hyx hrest;injection hyx with hy hx;subst hy hx;rw[C91] at hR;simp only[à] at hlen;obtain⟨e,he,hiff⟩:=B61 A.in1 ⟨hp,g,d,tk,os⟩ a t c u;refine À (he P w _ _ ?_);cases e with
     |true =>
      rw[if_pos (hiff.mp rfl)] at hR;wp_walk;exact⟨rfl,rfl,_,_,_,_,hrest,hvi',hwi',by omega,hR⟩
     |false =>
      rw[if_neg (λq=>absurd (hiff.mpr q) Ñ)] at hR;have hri:=D01 A.in1 ⟨hp,g,d,tk,os⟩ a t c u P w
      wp_walk using hri
      exact⟨_,rfl,by simpa using hR⟩
  case fin =>
   rintro ⟨b1,b2⟩ s' ⟨hb',rfl,vs,ws,ns',ms',hz,hvi,hwi,hlen,hR⟩;simp only at hb';subst hb';have hv:leB ns' ms'=decide (i1.size<=i2.size):=by
    cases hvi with
    |nil =>
     cases hwi with
     |nil=>simp only[Â5] at hlen;exact(decide_eq_true ∅).symm|cons c u hw=>simp only[Â5,à] at hlen;exact(decide_eq_true ∅).symm
    |cons a t hv =>
     cases hwi with
     |nil=>simp only[Â5,à] at hlen;exact(decide_eq_false ∅).symm|cons c u hw=>rw[É7] at hz;cases hz
   rw[hv] at hR;wp_walk;exact⟨_,rfl,by simpa [tupleCompareSizes] using hR⟩
  case h=>exact⟨rfl,rfl,i1.toList,i2.toList,ns,ms,rfl,hi,hj,by omega,h⟩
end
section
variable {P:Ý}{w:ç}{A:õ}{E:Ä->Æ->Prop}{s:Æ}
theorem f31(hl:Ñ8 s.heap l i1)(hb:Ñ8 s.heap b i2)(hi:Ë1 i1.toList ns)(hj:Ë1 i2.toList ms)
  (hu:A.units < Å7) (h:Q (.bool (leB ns ms)) s):Ï (Õ P w) A (Á2 .LtE (.ref l) (.ref b)) Q E s:=by
 obtain⟨⟨cls,dd,data,sl⟩,ho,hc,n,hd⟩:=id hl;obtain⟨⟨cls2,dd2,data2,sl2⟩,ho2,hc2,n2,hd2⟩:=id hb;simp only at hc hd hc2 hd2;subst hc hd hc2 hd2;exact richCompare_meets_room (op:=.LtE) ⟨_,ho,rfl⟩ ⟨_,ho2,rfl⟩ PySem.F.slot_tuple_le PySem.F.entry_tuple_le (PySem.F.args_tuple_le_2 _ _) (G10 l b i1 i2 n n2 dd dd2 sl sl2 ns ms hi hj)
  ⟨ho,ho2,show Î2 (leB ns ms)≠Ô8/\Q (.bool (leB ns ms)) s from⟨(λx=>nomatch x),h⟩⟩ hu
theorem Q71{t b:Ç}{ws:List Ä}{Q:Ä->Æ->Prop}(ht:Ñ8 s.heap t #[])(hb:Ñ8 s.heap b ws.toArray)(h:Q (.ref b) s):Ï (Õ P w) A (Å8 .Add (.ref t) (.ref b)) Q E s:=by
 obtain⟨⟨cls,dd,data,sl⟩,ho,hc,n,hd⟩:=id ht;obtain⟨⟨cls2,dd2,data2,sl2⟩,ho2,hc2,n2,hd2⟩:=id hb;simp only at hc hd hc2 hd2;subst hc hd hc2 hd2;exact concat_meets ⟨_,ho,rfl⟩ ⟨_,ho2,rfl⟩ Ý5 seq_tuple_add Ñ6 Ð5 (Ï1 _ _) (tuple_addW0 t b #[] ws.toArray n n2 dd dd2 sl sl2 (by simp)) ⟨ho,ho2,h⟩
theorem N10:seqRepeat? (.type "tuple")=pure (some (.builtin "tuple.__mul__")):=by
 first | kernel_rfl | rfl | (unfold seqRepeat?;kernel_rfl)
theorem v80:fillsNumberSlot (.type "tuple") "mul"=pure false:=by
 first | kernel_rfl | rfl
theorem f41(a:Int)(t:Tok)(l:Ç)(xs:Array Ä)(n:Nat)(dd:Option Ç)(sl:Array (Option Ä)) :
  Meets (û.«int.__rmul__» ⟨[.int a t,.ref l],[]⟩) (λ_ R s=>s.heap.get? l=some { cls:=.type "tuple",dict:=dd,data:=.seq xs n,slots:=sl }/\R (.ok (.ret Ô8)) s) :=
 .of_wp λP w A R s h=>by obtain⟨hp,g,d,tk,os⟩:=s;obtain⟨hl,h⟩:=h;wp_walk;exact⟨_,rfl,h⟩
theorem D11(l:Ç)(xs:Array Ä)(k:Int)(u:Tok)(n:Nat)(dd:Option Ç)(sl:Array (Option Ä))(h1:¬ (decide (k < -(2 ^ 63)) || decide (k ≥ 2 ^ 63))=true)(h2:(xs.isEmpty || k == 1)=true) :
  Meets (û.«tuple.__mul__» ⟨[.ref l,.int k u],[]⟩) (λ_ R s=>s.heap.get? l=some { cls:=.type "tuple",dict:=dd,data:=.seq xs n,slots:=sl }/\R (.ok (.ret (.ref l))) s) :=
 .of_wp λP w A R s h=>by
  obtain⟨hp,g,d,tk,os⟩:=s;obtain⟨hl,h⟩:=h;have f1:=Ø1
  wp_walk using Ã6 hl
  simp only[h1,if_false]
  wp_walk using Ã6 hl
  exact⟨_,rfl,h⟩
theorem mul_zero(l:Ç)(xs:Array Ä)(k:Int)(u:Tok)(n:Nat)(dd:Option Ç)(sl:Array (Option Ä))(h1:¬ (decide (k < -(2 ^ 63)) || decide (k ≥ 2 ^ 63))=true)(h2:¬ (xs.isEmpty || k == 1)=true)(h3:(decide (k<=0) || xs.isEmpty)=true) :
  Meets (û.«tuple.__mul__» ⟨[.ref l,.int k u],[]⟩) (λ_ R s=>s.heap.get? l=some { cls:=.type "tuple",dict:=dd,data:=.seq xs n,slots:=sl }/\R (.ok (.ret (.ref s.heap.objs.size))) { s with heap:=s.heap.push { cls:=.type "tuple",data:=.seq #[] } }) :=
 .of_wp λP w A R s h=>by
  obtain⟨hp,g,d,tk,os⟩:=s;obtain⟨hl,h⟩:=h;have f1:=Ø1
  wp_walk using Ã6 hl
  simp only[h1,if_false]
  wp_walk using Ã6 hl
  exact⟨_,rfl,h⟩
theorem D21(l:Ç)(xs:Array Ä)(k:Int)(u:Tok)(n:Nat)(dd:Option Ç)(sl:Array (Option Ä))(h1:¬ (decide (k < -(2 ^ 63)) || decide (k ≥ 2 ^ 63))=true)(h2:¬ (xs.isEmpty || k == 1)=true)(h3:¬ (decide (k<=0) || xs.isEmpty)=true)
  (h4:¬ (xs.size:Int) * k > (2 ^ 63 - 1) / 8) (h5:¬ tupleTooMany ((xs.size:Int) * k)=true) (h6:(foldl (λx y=>x++y) #[] (î k.toNat xs)).size<=sizeLine) :
  Meets (û.«tuple.__mul__» ⟨[.ref l,.int k u],[]⟩) (λ_ R s=>s.heap.get? l=some { cls:=.type "tuple",dict:=dd,data:=.seq xs n,slots:=sl }/\R (.ok (.ret (.ref s.heap.objs.size))) { s with heap:=s.heap.push { cls:=.type "tuple",data:=.seq (foldl (λx y=>x++y) #[] (î k.toNat xs)) } }) :=
 .of_wp λP w A R s h=>by
  obtain⟨hp,g,d,tk,os⟩:=s;obtain⟨hl,h⟩:=h;have f1:=Ø1
  wp_walk using Ã6 hl
  simp only[h1,if_false]
  wp_walk using Ã6 hl
  simp only[h4,h5,if_false];refine À (m:=Ç0 _) (ê (Å ?_) h6);exact⟨_,rfl,h⟩
end
theorem q90(f:α->Option β)(g:α->β):∀ (l:List α),(∀ k∈l,f k=some (g k))->l.filterMap f=l.map g
 |[],_=>rfl|x::r,h=>by rw[þ,h x Ê,Â2,q90 f g r λk hk=>h k (È _ hk)]
section
variable {P:Ý}{w:ç}{A:õ}{E:Ä->Æ->Prop}{s:Æ}
theorem p00{t sl:Ç}{xs:Array Ä}{vl vu:Ä}{lo hi:Option Int}{Q:Ä->Æ->Prop}(ht:Ñ8 s.heap t xs)(hs:s.heap.IsSliceOf sl vl vu .none)(pl:Ø7 vl lo)(pu:Ø7 vu hi)
  (hw:sIx xs.size 0 lo=0/\sIx xs.size xs.size hi=xs.size) (h:Q (.ref t) s):Ï (Õ P w) A (Ò8 (.ref t) (.ref sl)) Q E s:=by
 obtain⟨os,hos,hcs,hds⟩:=id hs;have hTs:s.TypeIs (.ref sl) "slice":=⟨os,hos,hcs⟩;unfold Ò8;try with_reducible refine ï ?_
 first | refine À (Å ?_) | skip
 refine À (Û7 ht.typeIs (-0) ?_);refine À (À5 (name:=Á0 "__getitem__") ht.typeIs ô (ÿ ô ht.typeIs entry_tuple_getitem ?_ (Ú9 _ _)))
 show Ï _ _ (tupleItemsOf (.ref t) >>= _) _ _ s;refine À (tupleItemsOf_ ht (À (Ç1 hTs ?_)));rw[if_pos (-0)];refine À (m20 hs pl pu ?_)
 rw[hw.1,hw.2];show Ï _ _ (if (((0:Nat):Int) == 0&&(1:Int) == 1&&(xs.size - 0) == xs.size)=true then _ else _) _ _ s;rw[if_pos (by simp)]
 refine À (m:=tupleIsExact _) ?_;unfold tupleIsExact;refine À (Ç1 ht.typeIs (Å ?_));rw[if_pos (-0)]
 first
  |exact À (Ë4 (Å ⟨_,rfl,Å h⟩))
  |exact À (Ë4 (À (Å (Å ⟨_,rfl,Å h⟩))))
theorem t00{t sl:Ç}{xs:List Ä}{u:Tok}{Q:Ä->Æ->Prop}(ht:Ñ8 s.heap t xs.toArray)(hs:s.heap.IsSliceOf sl .none .none (.int (-1) u))
  (h:Q (.ref s.heap.objs.size) { s with heap:=s.heap.push { cls:=.type "tuple",data:=.seq xs.reverse.toArray } }) (hz:xs.length<=sizeLine):Ï (Õ P w) A (Ò8 (.ref t) (.ref sl)) Q E s:=by
 obtain⟨os,hos,hcs,hds⟩:=id hs;have hTs:s.TypeIs (.ref sl) "slice":=⟨os,hos,hcs⟩;unfold Ò8;try with_reducible refine ï ?_
 first | refine À (Å ?_) | skip
 refine À (Û7 ht.typeIs (-0) ?_);refine À (À5 (name:=Á0 "__getitem__") ht.typeIs ô (ÿ ô ht.typeIs entry_tuple_getitem ?_ (Ú9 _ _)))
 show Ï _ _ (tupleItemsOf (.ref t) >>= _) _ _ s;refine À (tupleItemsOf_ ht (À (Ç1 hTs ?_)));rw[if_pos (-0)]
 have app:∀ {R:Int × Int × Nat->Æ->Prop},R ((xs.length:Int) - 1,-1,xs.length) s->Ï (Õ P w) A.in1 (Ó9 (.ref sl) (pure (xs.toArray.size:Int))) R E s:=λ{R} q=>by
  unfold Ó9 sliceFields;refine À (À (Á4 hos hds (x:=.none) rfl (À (Á4 hos hds (x:=.none) rfl (À (Á4 hos hds (x:=.int (-1) u) rfl (Å ?_)))))));refine À (slicePart_int ?_);show Ï _ _ (if ((-1:Int) == 0)=true then _ else _) _ _ s;rw[if_neg (-0)]
  refine À (Ø4 (À (Ø4 (À (Å ?_)))));have e1:Ì8 none none (-1) (xs.toArray.size:Int)=((xs.length:Int) - 1,-1):=by simp[Ì8]
  have e2:È6 ((xs.length:Int) - 1) (-1) (-1)=xs.length:=by
   unfold È6;rw[if_neg (-0)]
   split
   ·simp only[Int.neg_neg,Int.ediv_one];omega
   ·omega
  show Ï _ _ (match Ì8 none none (-1) (xs.toArray.size:Int) with | (lo,hi)=>pure (lo,(-1:Int),È6 lo hi (-1))) _ _ s
  rw[e1];show Ï _ _ (pure ((xs.length:Int) - 1,(-1:Int),È6 ((xs.length:Int) - 1) (-1) (-1))) _ _ s;rw[e2];exact Å q
 refine À (app ?_);show Ï _ _ (if (((xs.length:Int) - 1) == 0&&(-1:Int) == 1&&xs.length == xs.toArray.size)=true then _ else _) _ _ s;rw[if_neg (by simp)]
 have pick:((ì xs.length).filterMap λ(k:Nat)=>xs.toArray[((xs.length:Int) - 1 + (k:Int) * -1).toNat]?)=xs.reverse:=by
  refine List.ext_getElem? λi=>?_;have hall:∀ k∈ì xs.length,xs.toArray[((xs.length:Int) - 1 + (k:Int) * -1).toNat]?=some (xs.getD (xs.length - 1 - k) è):=λk hk=>by
   have hk':k < xs.length:=by simpa using hk
   have e:((xs.length:Int) - 1 + (k:Int) * -1).toNat=xs.length - 1 - k:=by omega
   rw[e];have:xs.length - 1 - k < xs.length:=by omega
   simp[this]
  rw[q90 _ _ _ hall,Ö];by_cases hi:i < xs.length
  ·have h2:xs.length - 1 - i < xs.length:=by omega
   rw[Ö5 hi,List.getElem?_reverse hi];simp[h2]
  ·rw[ß3 (by simpa using hi),ß3 (by simpa using hi)];rfl
 rw[pick];have hsz:sizeOk (.seq xs.reverse.toArray):=by show xs.reverse.toArray.size<=sizeLine;rw[Ø,Ï7];exact hz
 first
  |exact À (m:=Ç0 _) (ê (Å ⟨_,rfl,Å h⟩) hsz)
  |exact À (m:=Ç0 _) (ê (À (Å (Å ⟨_,rfl,Å h⟩))) hsz)
  |exact À (À (m:=Ç0 _) (ê (Å (Å ⟨_,rfl,Å h⟩)) hsz))
  |exact À (À (m:=Ç0 _) (ê (Å ⟨_,rfl,Å h⟩) hsz))
end
end HT
namespace L2
open PySem PySem.Spec PyProof.Rows
theorem a30.sqT{K:Ã}{H H':Hp}{a:Ç}{xs:List V}(e:a30 H H')(h:SqT K H a xs):SqT K H' a xs:=by
 rcases h with (h | ⟨o,h⟩) | h
 ·exact .inl (.inl (e _ _ h))
 ·exact .inl (.inr ⟨o,e _ _ h⟩)
 ·exact .inr h
theorem a30.new(o:HO)(n:H p=none):a30 H (upd H p o):=λb u e=>by rw[a10 (a80 e n)];exact e
def D31(K:Ã)(H:Hp)(zs:List V)(Q:VK):Prop:=∀ p H',a30 H H'->SqT K H' p zs->Q (.ref p) H'
section
variable {X:Cx}{pins:List (Ç × Obj)}{σ:St}{H:Hp}{s:Æ}
theorem D31.here(q:D31 X.K H zs Q)(I:Inv X pins σ H s)(h:SqT X.K H a zs):EP X pins σ Q (.ref a) s:=⟨.ref a,H,I,rfl,q a H (a30.refl H) h⟩
theorem D31.new(q:D31 X.K H zs Q)(I:Inv X pins σ H s)(r:Vals zs us)(hz:zs.length<=sizeLine) :
  EP X pins σ Q (.ref s.heap.objs.size) { s with heap:=s.heap.push { cls:=.type "tuple",data:=.seq us.toArray } } :=
 have hn:H s.heap.objs.size=none:=I.hok.fresh (Ë _)
 ⟨.ref s.heap.objs.size,_,I.laid (t':=s.toks) (o:=.tup zs) (λb ob q=>Â _ q) (Ë _) ⟨hz,_,r,Ñ8.new _ _⟩,rfl,q _ _ (a30.new _ hn) (SqT.of a60)⟩
end
section
variable {X:Cx}
def G22(K:Ã):R2:=λx y H Q=>∃ a b ns ms,x=.ref a/\y=.ref b/\SqT K H a (ns.map V.int)/\SqT K H b (ms.map V.int)/\Q (.bl (HT.leB ns ms)) H
theorem e22(hu:X.A.units < Å7):OpR X (Á2 .LtE) (G22 X.K):=by
 intro pins s σ H x y v u Q I rx ry h;obtain⟨a,b,ns,ms,rfl,rfl,ha,hb,q⟩:=h;cases rx;cases ry;obtain⟨v1,r1,p1,_⟩:=I.tuple ha;obtain⟨v2,r2,p2,_⟩:=I.tuple hb;exact HT.f31 p1 p2 (show Ë1 v1.toArray.toList ns from intsAre_of r1) (show Ë1 v2.toArray.toList ms from intsAre_of r2) hu ⟨.bl (HT.leB ns ms),H,I,rfl,q⟩
def s52(K:Ã):R2:=λx y H Q=>∃ a b xs ys,x=.ref a/\y=.ref b/\SqT K H a xs/\SqT K H b ys/\xs.length + ys.length<=sizeLine/\D31 K H (xs++ys) Q
theorem Q81:OpR X (Å8 .Add) (s52 X.K):=by
 intro pins s σ H x y v u Q I rx ry h;obtain⟨a,b,xs,ys,rfl,rfl,ha,hb,hz,q⟩:=h;cases rx;cases ry;obtain⟨v1,r1,p1,_⟩:=I.tuple ha;obtain⟨v2,r2,p2,_⟩:=I.tuple hb;by_cases hx:xs=[]
 ·subst hx;have e:=r1.E90.mpr rfl;subst e;exact HT.Q71 p1 p2 (q.here I hb)
 ·refine HT.P41 p1 p2 (λz=>hx (r1.E90.mp z)) (λz=>?_) (λz=>q.new I (r1.append r2) (by rw[À6];exact hz)) (by rw[← r1.length,← r2.length];exact hz)
  have e:=r2.E90.mp z;subst e;rw[append_nil] at q;exact q.here I ha
def s62(K:Ã):R2:=λx y H Q=>∃ a k xs,x=.ref a/\y=.int k/\SqT K H a xs/\0<=k/\k < 1000000/\k.toNat * xs.length<=sizeLine/\D31 K H (î k.toNat xs).flatten Q
theorem Q91:OpR X (Å8 .Mult) (s62 X.K):=by
 intro pins s σ H x y v u Q I rx ry h;obtain⟨a,k,xs,rfl,rfl,ha,hk,hk2,hz,q⟩:=h;cases rx;obtain⟨t,rfl⟩:=ry;obtain⟨v1,r1,p1,_⟩:=I.tuple ha;have hl:=r1.length;obtain⟨⟨cls,dd,data,sl⟩,ho,hc,n,hd⟩:=id p1;simp only at hc hd;subst hc hd;have h1:¬ (decide (k < -(2 ^ 63)) || decide (k ≥ 2 ^ 63))=true:=by simp;omega
 refine wpAny_binaryOp_repeat_ref (T:="tuple") (U:="int") (-0) ⟨_,ho,rfl⟩ (λs'=>Ú6 s' k t) HT.v80 F.fills_int_mul Õ1 HT.N10 F.slot_int_index.lookup
  (Ë6 Õ1 (Ú6 s k t) F.entry_int_rmul (F.args_int_rmul_2 _ _) (HT.f41 k t a v1.toArray n dd sl) ⟨ho,rfl,⟨_,ho,rfl⟩,?_⟩)
 by_cases hx:v1=[]∨k=1
 ·refine Ë6 Ü6 ⟨_,ho,rfl⟩ Û3 (Ù9 _ _) (HT.D11 a v1.toArray k t n dd sl h1 (by rcases hx with hx | hx <;> simp[hx])) ⟨ho,?_⟩
  have e2:(î k.toNat xs).flatten=xs:=by
   rcases hx with hx | hx
   ·rw[r1.E90.mp hx];simp
   ·rw[hx];simp
  rw[e2] at q;exact q.here I ha
 ·have hv:v1≠[]:=λz=>hx (.inl z);have h2:¬ (v1.toArray.isEmpty || k == 1)=true:=by simp[hv];exact λz=>hx (.inr z)
  by_cases hk0:k=0
  ·refine Ë6 Ü6 ⟨_,ho,rfl⟩ Û3 (Ù9 _ _) (HT.mul_zero a v1.toArray k t n dd sl h1 h2 (by simp[hk0])) ⟨ho,?_⟩
   rw[show(î k.toNat xs).flatten=[] by rw[hk0];rfl] at q
   exact q.new I .nil (Æ7 _)
  have hpos:0 < v1.length:=List.length_pos_iff.mpr hv;have hfl:foldl (λx y=>x++y) #[] (î k.toNat v1.toArray)=(î k.toNat v1).flatten.toArray:=by
   have:=foldl_rep v1 k.toNat [];rw[Ô1] at this;exact this
  have hsz:v1.length * k.toNat<=sizeLine:=by rw[← hl,Ù8];exact hz
  have hcast:((v1.toArray.size:Nat):Int) * k=((v1.length * k.toNat:Nat):Int):=by rw[Ø,Int.natCast_mul,Int.toNat_of_nonneg ∅]
  have hline:(sizeLine:Nat)<=(2 ^ 63 - 1) / 8:=by decide
  refine Ë6 Ü6 ⟨_,ho,rfl⟩ Û3 (Ù9 _ _) (HT.D21 a v1.toArray k t n dd sl h1 h2 (by simp[hv];omega) (by rw[hcast];generalize v1.length * k.toNat=m at hsz;omega) (by rw[hcast];generalize v1.length * k.toNat=m at hsz;unfold tupleTooMany;intro z;have z':=of_decide_eq_true z;omega)
   (by rw[hfl,Ø,len_rep,Ù8];exact hsz)) ⟨ho,?_⟩
  rw[hfl];exact q.new I (r1.rep k.toNat) (by rw[len_rep];exact hz)
def G32(K:Ã):V->Option Int->Option Int->Hp->VK->Prop:=λx lo hi H Q=>∃ a xs,x=.ref a/\SqT K H a xs/\D31 K H (B91 xs lo hi) Q
theorem R01:SlR X (G32 X.K):=by
 intro pins s σ H x v vl vu lo hi sl Q I rx hs pl pu h;obtain⟨a,xs,rfl,hx,q⟩:=h;cases rx;obtain⟨its,r,ht,hz⟩:=I.tuple hx;have hlen:its.toArray.size=xs.length:=by rw[Ø];exact r.length.symm
 refine⟨"tuple",_,ô.lookup,ht.typeIs,?_⟩;by_cases hw:HT.sIx xs.length 0 lo=0/\HT.sIx xs.length xs.length hi=xs.length
 ·refine HT.p00 ht hs pl pu (by rw[hlen];exact hw) ?_
  have e:B91 xs lo hi=xs:=by unfold B91;rw[hw.1,hw.2];simp
  rw[e] at q;exact q.here I hx
 ·refine HT.s90 ht hs pl pu (by rw[hlen];exact hw) ?_ (by rw[hlen];exact hz)
  rw[hlen];exact q.new I ((r.drop (HT.sIx xs.length 0 lo)).take (HT.sIx xs.length xs.length hi - HT.sIx xs.length 0 lo)) (â (x60 xs lo hi) hz)
def G42(K:Ã)(te ts:TE):TE:=λσ H Q=>te σ H λx H1=>ts σ H1 λy H2=>y=.int (-1)/\((∃ a xs,x=.ref a/\SqT K H2 a xs/\D31 K H2 xs.reverse Q)∨∃ a xs,x=.ref a/\SqL K H2 a xs/\∀ p,H2 p=none->Q (.ref p) (upd H2 p (.lst xs.reverse)))
theorem e32{e st:Ò}{te ts:TE}{p2 pos:Pos}(he:PE X e te)(hst:PE X st ts):PE X (.Subscript e (.Slice none none (some st) p2) pos) (G42 X.K te ts):=by
 intro pins s σ H Q I h;refine Subscript_ (thn (he pins s σ H _ I h) λv s1 ⟨x,H1,I1,r1,q1⟩=>?_);refine wpAny_Slice ?_;rw[evalPart_none];refine Å (Å ?_);rw[evalPart_some];refine thn (hst pins s1 σ H1 _ I1 q1) λw' s2 ⟨y,H2,I2,r2,q2⟩=>?_;obtain⟨rfl,q2⟩:=q2;obtain⟨t,rfl⟩:=r2;have I4:Inv X pins σ H2 { s2 with heap:=s2.heap.push { cls:=.type "slice",data:=.fields #[.none,.none,.int (-1) t] } }:=I2.kept (t':=s2.toks) λb ob q=>Â _ q;show Ï (Õ X.prog X.w) X.A (subscriptTail e (.Slice none none (some st) p2) v (.ref s2.heap.objs.size)) (EP X pins σ Q) X.xe { s2 with heap:=s2.heap.push { cls:=.type "slice",data:=.fields #[.none,.none,.int (-1) t] } };rcases q2 with ⟨a,xs,rfl,hq,q⟩ | ⟨a,xs,rfl,hq,q⟩
 ·cases r1;obtain⟨its,r,ht,hz⟩:=I4.tuple hq;exact tail_any (ops:=[.ref a,.ref s2.heap.objs.size]) ht.typeIs ô.lookup (HT.t00 ht (Ò4 ..) (q.new I4 r.reverse (by rw[Ï7];exact hz)) (by rw[← r.length];exact hz)) (by with_unfolding_all rfl)
 ·cases r1;obtain⟨its,r,ht,hz⟩:=I4.list hq;have hlen:=r.length;refine tail_any (ops:=[.ref a,.ref s2.heap.objs.size]) ht.isList.typeIs slot_list_getitem.lookup (wpAny_getItem_list_slice ht.isList (Ò4 ..) .none .none (.int (-1) t) (by simp) ?_ (by rw[Ø] <;> omega)) (by with_unfolding_all rfl)
  rw[PySem.W.krv_pick];refine⟨.ref _,_,I4.laid (t':=s2.toks) (o:=.lst xs.reverse) (λb ob q=>Â _ q) (Ë _) ?_,rfl,q _ (I4.hok.fresh (Ë _))⟩;exact⟨by rw[Ï7];exact hz,its.reverse,0,r.reverse,É _ rfl⟩
theorem Inv.big(I:Inv X pins σ H s):Ñ2 < s.heap.objs.size:=by
 have h:æ < s.heap.objs.size:=(I.mod.glob.keeps I.bk).lt;exact Nat.lt_trans (-0) h
def s72:TE:=λ_ H Q=>∀ p,H p=none->Q (.ref p) (upd H p (.dK []))
theorem n01{pos:Pos}:PE X (.Dict [] [] pos) s72:=λpins s σ H Q I h =>
 wpAny_Dict_empty ⟨.ref s.heap.objs.size,_,I.laid (a:=s.heap.objs.size) (o:=.dK []) (t':=s.toks) (λ_ _ q=>Â _ q) (Ë _) ⟨Æ7 _,beq_eq_false_iff_ne.mpr (À8 (Ô I.big)),[],.nil,é.DictOf.new _⟩,rfl,h _ (I.hok.fresh (Ë _))⟩
end
end L2
namespace MySort
open PySem PySem.W PyProof.Rows
section
variable {P:Ý}{w:ç}{A:õ}{E:Ä->Æ->Prop}{s:Æ}
theorem T40(ho:s.heap.get? l=some o)(hc:o.cls=.type "list"∨o.cls=.type "tuple")(hd:o.data=.seq vs.toArray n)
  (h:Q vs { s with heap:=(s.heap.push (Á9 "list" #[] 0)).update s.heap.objs.size (À1 (·++vs.toArray)) }) (hz:vs.length<=sizeLine):Ï (Õ P w) A (collect (.ref l)) Q E s:=by
 unfold collect;refine À (Ð9 (À0 entry_proto_collect' ?_));show Ï _ _ (do again (.builtin "list.__iadd__" ⟨[← newList [],.ref l],[]⟩)) _ _ s;refine À (Ó2 (Å ⟨Î6 _ (by decide +kernel),À0 entry_list_iadd' ?_⟩))
 show Ï _ _ (Ä3 (.ref s.heap.objs.size) (.ref l) (.ref s.heap.objs.size)) _ _ { s with heap:=s.heap.push (Á9 "list" #[] 0) };unfold Ä3;have ho':(s.heap.push (Á9 "list" #[] 0)).get? l=some o:=Â _ ho;have fin:Ï (Õ P w) A (do
   let o ← load s.heap.objs.size
   match o.data with
   |.seq xs _=>pure xs.toList
   |_=>unsupported "internal:collect") Q E { s with heap:=(s.heap.push (Á9 "list" #[] 0)).update s.heap.objs.size (À1 (·++vs.toArray)) }:=by
  refine À (wpAny_load (Þ5 (É _ rfl) _) ?_);show Ï _ _ (pure ((#[]:Array Ä)++vs.toArray).toList) Q E _;rw[show((#[]:Array Ä)++vs.toArray).toList=vs by simp];exact Å h
 rcases hc with hc | hc
 ·refine À (Ç1 (T:="list") ⟨o,ho',hc⟩ ?_);rw[if_pos (by rw[show(Ã7 "list" == Ã7 "list")=true by rfl];simp)]
  refine À (Õ3 ho' hd (À (Õ3 (xs:=#[]) (n:=0) (É _ rfl) rfl ?_)));rw[if_neg (by simp)]
  exact À (Ú2 (xs:=#[]) (n:=0) (É _ rfl) rfl (Å fin) (Æ7 _) (by show(#[]++vs.toArray).size<=sizeLine + 1;simp only[Array.size_append,Ø,Â5];omega))
 ·refine À (Ç1 (T:="tuple") ⟨o,ho',hc⟩ ?_);rw[if_pos (by rw[show(Ã7 "tuple" == Ã7 "tuple")=true by rfl];simp)]
  refine À (Õ3 ho' hd (À (Õ3 (xs:=#[]) (n:=0) (É _ rfl) rfl ?_)));rw[if_neg (by simp)]
  exact À (Ú2 (xs:=#[]) (n:=0) (É _ rfl) rfl (Å fin) (Æ7 _) (by show(#[]++vs.toArray).size<=sizeLine + 1;simp only[Array.size_append,Ø,Â5];omega))
theorem n11(ho:s.heap.get? l=some o)(hc:o.cls=.type "list"∨o.cls=.type "tuple")(hd:o.data=.seq vs.toArray n)
  (hk:∀ h',f21 s.heap h'->a22 P w A.in1.in1 { s with heap:=h' } vs Pr kd)
  (h:∀ (p:List Nat) (h':é) (c:Nat),Pr p->(∀ b o,s.heap.get? b=some o->h'.get? b=some o)->h'.get? (s.heap.objs.size + 1)=some (Á9 "list" (p.map λi=>vs.getD i è).toArray c)->Q (.ref (s.heap.objs.size + 1)) { s with heap:=h' }) :
  Ï (Õ P w) A (call (.builtin "sorted") [.ref l]) Q E s:=by
 have h64:=(hk s.heap λ_ _ e _=>e).len;refine Ï5 kind_sorted plain_sorted entry_sorted (args_sorted1 _) ?_;unfold û.«sorted»;refine À (m:=checkCount "sorted" 1 1 _) (Å ?_);refine À (T40 ho hc hd ?_ (by rw[ò];omega));refine À (Ó2 ?_ (by rw[ò];omega))
 have hsz:((s.heap.push (Á9 "list" #[] 0)).update s.heap.objs.size (À1 (·++vs.toArray))).objs.size=s.heap.objs.size + 1:=by rw[é.size_update,size_push']
 have hoL:(((s.heap.push (Á9 "list" #[] 0)).update s.heap.objs.size (À1 (·++vs.toArray))).push (Á9 "list" vs.toArray 0)).get? (s.heap.objs.size + 1)=some (Á9 "list" vs.toArray 0):=by rw[← hsz];exact É _ rfl
 have keep:∀ b o,s.heap.get? b=some o->(((s.heap.push (Á9 "list" #[] 0)).update s.heap.objs.size (À1 (·++vs.toArray))).push (Á9 "list" vs.toArray 0)).get? b=some o:=λb o q=>by
  have hlt:b < s.heap.objs.size:=Û q;rw[é.get?_push_ne _ _ _ (by rw[hsz];exact Ô (Å6 hlt)),é.get?_update_ne _ _ _ _ (Ô hlt),é.get?_push_ne _ _ _ (Ô hlt)];exact q
 show Ï _ _ _ _ _ { s with heap:=((s.heap.push (Á9 "list" #[] 0)).update s.heap.objs.size (À1 (·++vs.toArray))).push (Á9 "list" vs.toArray 0) };rw[hsz];refine À (ï (ÿ slot_list_sort ⟨_,hoL,rfl⟩ entry_list_sort (G00 hoL (λh' kp=>hk h' λb o e hc=>kp b o (keep b o e) hc) λp h' c hp kp hD=>⟨_,rfl,Å ⟨_,rfl,h p h' c hp (λb o e=>kp b o (Ô (Å6 (Û e))) (keep b o e)) hD⟩⟩) (args_list_sort _)))
end
end MySort
namespace L2
open PySem PySem.Spec PyProof.Rows
open MySort (sortedBy)
section
variable {X:Cx}
def e42(X:Cx)(H:Hp)(xs:List V)(Pr:List Nat->Prop):Prop:=∀ (pins:List (Ç × Obj)) (σ:St) (s:Æ) (us:List Ä),Inv X pins σ H s->Vals xs us->∃ kd,∀ h',MySort.f21 s.heap h'->MySort.a22 X.prog X.w X.A.in1.in1 { s with heap:=h' } us Pr kd
theorem N20:e30 X (.builtin "sorted") (λargs H Q=>∃ a xs,∃ Pr:List Nat->Prop,args=[.ref a]/\(SqL X.K H a xs∨SqT X.K H a xs)/\e42 X H xs Pr/\(∀ p,Pr p->∀ i∈p,i < xs.length)/\∀ p l,Pr p->H l=none->Q (.ref l) (upd H l (.lst (p.map λi=>xs.getD i .non)))):=by
 intro pins s σ H args us Q I r h;obtain⟨a,xs,Pr,rfl,hq,hk,hpr,q⟩:=h;obtain⟨u,rfl,rx⟩:=vals1 r;cases rx;have go:∀ (its:List Ä) (o:Obj) (n:Nat),Vals xs its->s.heap.get? a=some o->(o.cls=.type "list"∨o.cls=.type "tuple")->o.data=.seq its.toArray n->Ï (Õ X.prog X.w) X.A (call (.builtin "sorted") [.ref a]) (EP X pins σ Q) X.xe s:=λits o n rv ho hc hd=>by
  obtain⟨kd,kw⟩:=hk pins σ s its I rv;have k0:=kw s.heap λ_ _ e _=>e;refine MySort.n11 ho hc hd kw λp h' c hp kp hD=>?_;have hn:H (s.heap.objs.size + 1)=none:=I.hok.fresh (É1 _ 1);have hlen:(p.map λi=>xs.getD i .non).length<=sizeLine:=by rw[Ì,k0.all p hp,ò];have:=k0.len;omega
  have rv':Vals (p.map λi=>xs.getD i .non) (p.map λi=>its.getD i è):=by
   have hall:=hpr p hp;clear hp hD hlen
   induction p with
   |nil=>exact .nil
   |cons i r ih =>
    refine .cons ?_ (ih λj hj=>hall j (È _ hj));have hi:=hall i Ê;obtain⟨u,hu,ru⟩:=rv.get (i:=i) (x:=xs[i]) (by simp[hi])
    have e1:xs.getD i V.non=xs[i]:=by simp[hi]
    have e2:its.getD i è=u:=by rw[Ó,hu];rfl
    show RelV (xs.getD i V.non) (its.getD i è);rw[e1,e2];exact ru
  exact⟨.ref (s.heap.objs.size + 1),_,I.laid (t':=s.toks) kp (É1 _ 1) (show g60 X.prog X.w _ h' _ (.lst _) from⟨hlen,_,c,rv',hD⟩),rfl,q p _ hp hn⟩
 rcases hq with hq | hq
 ·obtain⟨its,rv,pl,_⟩:=I.list hq;obtain⟨o,ho,hc,n,hd⟩:=pl.isList;exact go its o n rv ho (.inl hc) hd
 ·obtain⟨its,rv,⟨o,ho,hc,n,hd⟩,_⟩:=I.tuple hq;exact go its o n rv ho (.inr hc) hd
end
section
variable {K:Ã}{g:TG}{tt:TT}{te:TE}{σ0:St}{H:Hp}{Q:VK}
theorem D41{lo:Int}{n:Nat}(Pv:Nat->List V->Hp->Prop)(hz:n<=sizeLine)(h0:Pv 0 [] H)(hl:∀ i ys H,Pv i ys H->ys.length<=i)
  (hs:∀ i ys H,i < n->Pv i ys H->g (.int (lo + i)) σ0 H λσ2 H2=>tt σ2 H2 λb H3=>if b=true then te σ2 H3 (λy H4=>Pv (i + 1) (ys++[y]) H4) else Pv (i + 1) ys H3)
  (hd:∀ ys H p,Pv n ys H->H p=none->Q (.ref p) (upd H p (.lst ys))):m01 (Itr lo n) σ0 H g tt te Q:=by
 refine⟨λi m ys H=>m=n - i/\i<=n/\Pv i ys H,⟨n,by simp,Æ7 _,h0⟩,?_⟩
 rintro i m ys H ⟨rfl,hi,p⟩;have hy:=hl i ys H p;by_cases hlt:i < n
 ·refine .inr ⟨hlt,by omega,Pv (i + 1),λzs H' p'=>⟨n - (i + 1),by omega,rfl,hlt,p'⟩,λx H' y=>?_⟩
  obtain⟨e,y⟩:=y;subst e y;exact hs i ys _ hlt p
 ·have e:i=n:=by omega
  subst e;exact .inl ⟨Ë _,λz hz=>hd ys H z p hz⟩
end
inductive D where
 |non | bl (b:Bool) | int (i:Int) | str (x:Str) | tup (ds:List D) | lst (ds:List D) | dct
def D.ty:D->String
 |.non=>"NoneType"|.bl _=>"bool"|.int _=>"int"|.str _=>"str"|.tup _=>"tuple"|.lst _=>"list"|.dct=>"dict"
mutual
def Has(K:Ã)(H:Hp):D->V->Prop
 |.non,v=>v=.non|.bl b,v=>v=.bl b|.int i,v=>v=.int i|.str x,v=>v=.str x|.tup ds,v=>∃ a xs,v=.ref a/\SqT K H a xs/\C40 K H ds xs|.lst ds,v=>∃ a xs,v=.ref a/\SqL K H a xs/\C40 K H ds xs|.dct,v=>∃ a kvs,v=.ref a/\H a=some (.dK kvs)
def C40(K:Ã)(H:Hp):List D->List V->Prop
 |[],xs=>xs=[]|d::ds,xs=>∃ x r,xs=x::r/\Has K H d x/\C40 K H ds r
end
def isB(T C:String):Bool:=T == C || (T == "bool"&&C == "int")
theorem R11(K:Ã)(d:D):∀ C∈["int","bool","tuple","list","str"],Í4 K (.type d.ty) (.type C)=some (isB d.ty C):=by
 intro C hC;simp only[Á7,À2,or_false] at hC;rcases hC with rfl | rfl | rfl | rfl | rfl <;> cases d <;> first | rfl | kernel_rfl | decide +kernel
section
variable {X:Cx}
theorem D51:e30 X (.builtin "isinstance") (λxs H Q=>∃ d x C,xs=[x,.ty C]/\Has X.K H d x/\C∈["int","bool","tuple","list","str"]/\Q (.bl (isB d.ty C)) H):=by
 intro pins s σ H xs us Q I r h;obtain⟨d,x,C,rfl,hd,hC,q⟩:=h;obtain⟨u,w',rfl,rx,rt⟩:=vals2 r;cases (show w'=Ã7 C from rt);have e:=R11 X.K d C hC;have fin:∀ tk,EP X pins σ Q (.bool (isB d.ty C)) { s with toks:=tk }:=λtk=>⟨.bl _,H,I.tok tk,rfl,q⟩;cases d with
 |non=>unfold Has at hd;subst hd;cases rx;exact Ç5 kitx_none I.kIn Ê0 e (λz=>nomatch z) fin
 |bl b=>unfold Has at hd;subst hd;cases rx;exact Ç5 kitx_bool I.kIn Ê0 e (λz=>nomatch z) fin
 |int i=>unfold Has at hd;subst hd;obtain⟨t,rfl⟩:=rx;exact Ç5 kitx_int I.kIn Ê0 e (λz=>nomatch z) fin
 |str y=>unfold Has at hd;subst hd;obtain⟨t,rfl⟩:=rx;exact Ç5 kitx_str I.kIn Ê0 e (λz=>nomatch z) fin
 |tup ds =>
  unfold Has at hd;obtain⟨a,ys,rfl,hq,_⟩:=hd;cases rx;obtain⟨its,_,⟨o,h1,h2,_⟩,_⟩:=I.tuple hq;exact Ç5 kitx_tuple I.kIn ⟨o,h1,h2⟩ e (λz=>nomatch z) fin
 |lst ds =>
  unfold Has at hd;obtain⟨a,ys,rfl,hq,_⟩:=hd;cases rx;obtain⟨its,_,pl,_⟩:=I.list hq;obtain⟨o,h1,h2,_⟩:=pl.isList;exact Ç5 kitx_list I.kIn ⟨o,h1,h2⟩ e (λz=>nomatch z) fin
 |dct =>
  unfold Has at hd;obtain⟨a,kvs,rfl,hq⟩:=hd;cases rx;obtain⟨_,_,vs,_,p⟩:=(show g60 X.prog X.w H s.heap a (.dK kvs) from I.hok a _ hq);obtain⟨o,es,ep,h1,h2,_⟩:=p;exact Ç5 kitx_dict I.kIn ⟨o,h1,h2.1⟩ e (λz=>nomatch z) fin
end
def hide(st:Ç)(H:Hp):Hp:=λb=>if b=st then none else H b
theorem d70(st:Ç)(H:Hp):a30 (hide st H) H:=λb o e=>by
 unfold hide at e;split at e
 ·cases e
 ·exact e
theorem y00{st:Ç}{H H':Hp}(e:∀ b o,b≠st->H b=some o->H' b=some o):a30 (hide st H) (hide st H'):=λb o h=>by
 unfold hide at h ⊢;by_cases q:b=st
 ·rw[if_pos q] at h;cases h
 ·rw[if_neg q] at h ⊢;exact e b o q h
theorem l50{st b:Ç}{H:Hp}{o:HO}(h:H b=some o)(n:b≠st):hide st H b=some o:=by
 unfold hide;rw[if_neg n];exact h
end L2
namespace L2
open PySem PySem.Spec PyProof.Rows
def n21(sc scX:ø)(N own:List Str)(capt:List (Str × Nat)):Bool :=
 sc.kind == .function&&sc.names.all (λy=>y.2 != .cell)&&sc.names.all (λy=>y.2 != .local || sc.names.lookup y.1 == some .local) &&
  sc.names.all (λy=>y.2 != .free || (scX.names.lookup y.1 == some .cell || scX.names.lookup y.1 == some .free))&&capt.all λp=>N[p.2]? == some p.1&&sc.names.lookup p.1 == some .free
theorem q60.of{X:Cx}{sc scX:ø}{N own:List Str}{capt:List (Str × Nat)}(e:X.env.scope=scX)(eN:X.N=N)(h:n21 sc scX N own capt=true):q60 X sc own capt:=by
 unfold n21 at h;simp only[Á] at h;obtain⟨⟨⟨⟨h1,h2⟩,h3⟩,h4⟩,h5⟩:=h;rw[Ä7] at h2 h3 h4 h5;refine⟨by simpa using h1,λy hy=>by simpa using h2 y hy,λy hy hl=>?_,λy hy hf=>?_,λp hp=>?_⟩
 ·have:=h3 y hy;rw[hl] at this;simpa using this
 ·have:=h4 y hy;rw[hf] at this;show X.env.scope.names.lookup y.1=_∨X.env.scope.names.lookup y.1=_;rw[e];simpa using this
 ·have:=h5 p hp;rw[eN];simpa using this
theorem gN{i:Nat}{v:V}{σ:St}{H:Hp}{R:St->Hp->Prop}(h:R (σ.set i (some v)) H):E70 i v σ H R:=h
theorem D61{σ:St}{H:Hp}{R:Bool->Hp->Prop}(h:R true H):e91 σ H R:=h
theorem y10{n:Nat}(h:n<=64):n<=sizeLine:=â h (-0)
section
variable {X:Cx}
theorem e52(K:Ã)(d:D):kitAny K (.type d.ty) [.type "tuple",.type "list"]=some (isB d.ty "tuple" || isB d.ty "list"):=by
 have e1:=R11 K d "tuple" (by simp)
 have e2:=R11 K d "list" (by simp)
 unfold kitAny;rw[e1];cases isB d.ty "tuple" with
 |true=>rfl
 |false =>
  show kitAny K (.type d.ty) [.type "list"]=_;unfold kitAny;rw[e2];cases isB d.ty "list" <;> rfl
theorem n31:e30 X (.builtin "isinstance") (λxs H Q=>∃ d x a,xs=[x,.ref a]/\Has X.K H d x/\SqT X.K H a [.ty "tuple",.ty "list"]/\Q (.bl (isB d.ty "tuple" || isB d.ty "list")) H):=by
 intro pins s σ H xs us Q I r h;obtain⟨d,x,a,rfl,hd,hq,q⟩:=h;obtain⟨u,w',rfl,rx,rt⟩:=vals2 r;cases (show w'=ð a from rt);obtain⟨its,rv,⟨⟨cls,dd,data,sl⟩,ho,hc,n,hdt⟩,_⟩:=I.tuple hq;simp only at hc hdt;subst hc hdt;have eits:its=[.type "tuple",.type "list"]:=by
  cases rv with
  |cons p r=>cases r with
   |cons p2 r2=>cases r2;rw[show _=Ã7 "tuple" from p,show _=Ã7 "list" from p2]
 subst eits;have e:=e52 X.K d;have fin:∀ tk,EP X pins σ Q (.bool (isB d.ty "tuple" || isB d.ty "list")) { s with toks:=tk }:=λtk=>⟨.bl _,H,I.tok tk,rfl,q⟩;cases d with
 |non=>unfold Has at hd;subst hd;cases rx;exact Ö7 kitx_none I.kIn Ê0 ho e (λz=>nomatch z) fin
 |bl b=>unfold Has at hd;subst hd;cases rx;exact Ö7 kitx_bool I.kIn Ê0 ho e (λz=>nomatch z) fin
 |int i=>unfold Has at hd;subst hd;obtain⟨t,rfl⟩:=rx;exact Ö7 kitx_int I.kIn Ê0 ho e (λz=>nomatch z) fin
 |str y=>unfold Has at hd;subst hd;obtain⟨t,rfl⟩:=rx;exact Ö7 kitx_str I.kIn Ê0 ho e (λz=>nomatch z) fin
 |tup ds =>
  unfold Has at hd;obtain⟨b,ys,rfl,hq',_⟩:=hd;cases rx;obtain⟨_,_,⟨o,h1,h2,_⟩,_⟩:=I.tuple hq';exact Ö7 kitx_tuple I.kIn ⟨o,h1,h2⟩ ho e (λz=>nomatch z) fin
 |lst ds =>
  unfold Has at hd;obtain⟨b,ys,rfl,hq',_⟩:=hd;cases rx;obtain⟨_,_,pl,_⟩:=I.list hq';obtain⟨o,h1,h2,_⟩:=pl.isList;exact Ö7 kitx_list I.kIn ⟨o,h1,h2⟩ ho e (λz=>nomatch z) fin
 |dct =>
  unfold Has at hd;obtain⟨b,kvs,rfl,hq'⟩:=hd;cases rx;obtain⟨_,_,vs,_,p⟩:=(show g60 X.prog X.w H s.heap b (.dK kvs) from I.hok b _ hq');obtain⟨o,es,ep,h1,h2,_⟩:=p;exact Ö7 kitx_dict I.kIn ⟨o,h1,h2.1⟩ ho e (λz=>nomatch z) fin
end
open PySem PySem.Spec PyProof.Rows PySem.SeqAt
theorem G20(l b:Ç)(es:Array DictEntry)(n:Nat)(it:Array Ä)(n2:Nat)(dd dd2:Option Ç)(sl sl2:Array (Option Ä)) :
  Meets (û.«dict.__ne__» ⟨[.ref l,.ref b],[]⟩) (λ_ R s=>s.heap.get? l=some { cls:=.type "dict",dict:=dd,data:=.dict es n,slots:=sl }/\s.heap.get? b=some { cls:=.type "tuple",dict:=dd2,data:=.seq it n2,slots:=sl2 }/\R (.ok (.ret .notImplemented)) s) :=
 .of_wp λprog w A R s h=>by
  obtain⟨hp,g,d,tk,os⟩:=s;obtain⟨hl,hb,h⟩:=h;have f1:=F.sub_tuple_dict
  wp_walk using Å1 hl,Å1 hb
  exact⟨_,rfl,h⟩
theorem G30(l b:Ç)(es:Array DictEntry)(n:Nat)(it:Array Ä)(n2:Nat)(dd dd2:Option Ç)(sl sl2:Array (Option Ä)) :
  Meets (û.«tuple.__ne__» ⟨[.ref b,.ref l],[]⟩) (λ_ R s=>s.heap.get? l=some { cls:=.type "dict",dict:=dd,data:=.dict es n,slots:=sl }/\s.heap.get? b=some { cls:=.type "tuple",dict:=dd2,data:=.seq it n2,slots:=sl2 }/\R (.ok (.ret .notImplemented)) s) :=
 .of_wp λprog w A R s h=>by
  obtain⟨hp,g,d,tk,os⟩:=s;obtain⟨hl,hb,h⟩:=h;have f1:=F.sub_dict_tuple
  wp_walk using Å1 hl,Å1 hb
  exact⟨_,rfl,h⟩
section
variable {X:Cx}
theorem R21(hu:X.A.units + 64 < Å7):OpR X (Á2 .NotEq) (λx y H Q=>∃ a b kvs xs,x=.ref a/\y=.ref b/\H a=some (.dK kvs)/\SqT X.K H b xs/\Q (.bl true) H):=by
 intro pins s σ H x y v u Q I rx ry h;obtain⟨a,b,kvs,xs,rfl,rfl,ha,hb,q⟩:=h;cases rx;cases ry;obtain⟨v2,r2,⟨o2,h2,c2,n2,d2⟩,_⟩:=I.tuple hb;obtain⟨_,_,vs,_,p⟩:=(show g60 X.prog X.w H s.heap a (.dK kvs) from I.hok a _ ha);obtain⟨o1,es,n1,h1,c1,d1,_⟩:=p;have c1:=c1.1;obtain⟨cls,dd,data,sl⟩:=o1;obtain⟨cls2,dd2,data2,sl2⟩:=o2;simp only at c1 d1 c2 d2;subst c1 d1 c2 d2;have hne:a≠b:=λe=>by
  subst e;rw[h1] at h2;simp at h2
 have hu':X.A.units < cLine:=by omega
 refine rc_ne_decline_or (k:=false) ⟨_,h1,rfl⟩ ⟨_,h2,rfl⟩ (-0) F.sub_tuple_dict F.slot_dict_ne F.slot_tuple_ne_refl
  (λ_ hq=>Ë6 F.slot_dict_ne ⟨_,h1,rfl⟩ F.entry_dict_ne (F.args_dict_ne_2 _ _) (G20 a b es n1 v2.toArray n2 dd dd2 sl sl2) ⟨h1,h2,hq⟩)
  (λ_ hq=>Ë6 F.slot_tuple_ne_refl ⟨_,h2,rfl⟩ F.entry_tuple_ne (F.args_tuple_ne_2 _ _) (G30 a b es n1 v2.toArray n2 dd dd2 sl sl2) ⟨h1,h2,hq⟩)
  (λ_ hq=>wpAny_isSame_ref_other hne h1 h2 (by simp) hq) (.inr hu') ⟨.bl true,H,I,rfl,q⟩
end
end L2
namespace L2
open PySem PySem.Spec PyProof.Rows
section
variable {P:Ý}{w:ç}{A:õ}{E:Ä->Æ->Prop}{s:Æ}
abbrev eT1(h:é)(l:Ç):Heap:=h.push { cls:=.type "tuple_iterator",data:=.fields #[.ref l,.int 0 0] }
abbrev eT2(h:é)(l:Ç):Heap:=(eT1 h l).push { cls:=.type "enumerate",data:=.fields #[.none,.bool false,.ref h.objs.size,Ã3 0,.none,.none] }
theorem T50(l:Ç)(xs:Array Ä) :
  Meets (û.«enumerate.__new__» ⟨[.type "enumerate",.ref l],[]⟩) (λ_ R s=>s.heap.IsTuple l xs/\R (.ok (.ret (.ref (eT1 s.heap l).objs.size))) { s with heap:=eT2 s.heap l }) :=
 .of_wp λP w A R s h=>by
  obtain⟨hp,g,d,tk,os⟩:=s;obtain⟨hl,h⟩:=h;have hsub:=sub_enumerate;have hL1:Ó0 (Æ.heap ⟨hp,g,d,tk,os⟩) l xs:=hl
  wp_walk;refine wpAny_stack_any λq=>Å ?_;split
  ·rename_i c _ _ _ _ _;cases (c == Ã7 "enumerate") <;> (wp_walk using È0 hL1) <;> exact⟨_,rfl,h⟩
  ·wp_walk using È0 hL1
   exact⟨_,rfl,h⟩
theorem f51(hl:s.heap.IsTuple l xs)
  (h:∀ h',IsEnum h' (s.heap.objs.size + 1) s.heap.objs.size 0 .none->h'.IsTupleIter s.heap.objs.size l 0->(∀ c o,s.heap.get? c=some o->h'.get? c=some o)->Q (.ref (s.heap.objs.size + 1)) { s with heap:=h' }) :
  Ï (Õ P w) A (call (.type "enumerate") [.ref l]) Q E s:=by
 refine callType_new F.called_enumerate (-0) (F.typeCall_enumerate_1 _) (F.newCall_enumerate_1 _) (λobj=>F.args_object_init_2 obj _) F.entry_enumerate_new (T50 l xs) ⟨hl,?_⟩
 have n1:(eT1 s.heap l).objs.size=s.heap.objs.size + 1:=È9 ..;have g2:(eT2 s.heap l).get? (eT1 s.heap l).objs.size=some _:=É _ rfl;have g1:(eT2 s.heap l).get? s.heap.objs.size=some _:=Â _ (É _ rfl);show _/\_;rw[n1] at g2;rw[n1];exact⟨⟨_,g2,rfl⟩,h _ g2 ⟨_,g1,rfl,rfl⟩ λc o q=>Â _ (Â _ q)⟩
theorem n41(hh:A.handled=none){it l:Ç}{xs:Array Ä}(n:l≠it):Draws P w A it [it,l] xs.size (λi x=>xs[i]?=some x) (λi h=>h.IsTupleIter it l i/\h.IsTuple l xs) where
 live:=λi h q=>by obtain⟨⟨o,e,_⟩,_⟩:=q;exact⟨o,e⟩
 frame:=λi h h' q k=>by
  obtain⟨⟨o,e,r⟩,⟨o',e',r'⟩⟩:=q;exact⟨⟨o,k it (by simp) _ e,r⟩,⟨o',k l (by simp) _ e',r'⟩⟩
 item:=λi s Q E hi q k=>n70 q.1 q.2 (x:=xs[i]) (by simp[hi]) λh' h1 h2=>k _ h' s.toks (by simp[hi]) ⟨h1,q.2.extBut h2.extBut n⟩ h2
 done:=λs Q E q k=>l40 hh q.1 q.2 (by simp) λh' e h1 h2=>k h' e h1 h2
end
theorem K91{P:Ý}{w:ç}{A:õ}(b:Bool)(hh:A.handled=none){it l:Ç}{xs:Array Ä}(n:l≠it):Draws P w A it [it,l] xs.size (λi x=>xs[i]?=some x) (λi h=>M80 b h it l i/\C31 b h l xs):=match b with
 |true=>Draws.list hh it l n xs|false=>n41 hh n
def Ite(b:Bool)(K:Ã)(a:Ç):It :=
 ⟨λi H=>∃ xs x,SqB b K H a xs/\xs[i]?=some x,
  λi H v H'=>∃ T,v=.ref T/\H T=none/\∀ xs x,SqB b K H a xs->xs[i]?=some x->H'=upd H T (.tup [.int i,x]),
  λi H=>∃ xs,SqB b K H a xs/\xs.length=i⟩
theorem n51{P:Ý}{w:ç}{K:Ã}{es:List Ò}{ek:Nat}{ep:Pos}{a e it:Ç}{b:Bool}(h1:e≠it)(h2:a≠e)(h3:a≠it) :
  Turn P w K (.Tuple es ek ep) (Ite b K a) [e,it] e (λi h=>(∃ old,IsEnum h e it i old)/\M80 b h it a i) where
 mem:=by simp
 obj:=λi h st c hc=>by
  obtain⟨⟨old,he⟩,st⟩:=st;obtain⟨o1,g1,d1,_⟩:=st.obj;simp only[Á7,À2,or_false] at hc;rcases hc with rfl | rfl
  ·exact⟨_,he,λv e=>by cases e⟩
  ·exact⟨_,g1,d1⟩
 keep:=λi h h' st k=>by
  obtain⟨⟨old,he⟩,st⟩:=st;obtain⟨o1,g1,_,r1⟩:=st.obj;exact⟨⟨old,k e (by simp) _ he⟩,r1 h' (k it (by simp) _ g1)⟩
 item:=by
  intro X hP hw hK hc i pins s σ H E I hf st hg;subst hP hw hK;obtain⟨xs,x,hq,hx⟩:=hg;obtain⟨v1,rv,p1,_,z1⟩:=I.C41 hq;obtain⟨u,hu,ru⟩:=rv.get hx;obtain⟨⟨old,he⟩,hi⟩:=st;have hl:i < v1.toArray.size:=by simpa using (ä.mp hu).1
  refine wpAny_pyNext_enum_itemD (K91 (A:=X.A.in1) b (by exact I.ok.hd hc) h3) he ⟨hi,p1⟩ hl h1 (by simp[h1,h2.symm]) λy g1 tk hy ge gs gT sz kp=>⟨_,rfl,?_⟩
  have hy':v1[i]?=some y:=by simpa using hy
  rw[hu] at hy';cases hy';refine wpAny_letOwnedTupleGo_enum (s:={ s with heap:=g1,toks:=tk + 1 }) ge λg2 ge2 sb=>?_;have hT:H s.heap.objs.size=none:=I.hok.fresh (Ë _);have kall:∀ c o,c ∉ [e,it]->s.heap.get? c=some o->g2.get? c=some o:=λc o hc q=>by
   simp only[Á7,À2,or_false,not_or] at hc;exact sb.extBut _ _ hc.1 (kp c o hc.1 hc.2 q)
  have I2:Inv X pins σ H { s with heap:=g2,toks:=tk + 1 }:=I.F50 (t':=tk + 1) hf kall;have fT:X90 X pins H s.heap.objs.size:=I.e31 (Ë _) hT;have gT2:g2.get? s.heap.objs.size=some { cls:=.type "tuple",data:=.seq #[.int i tk,u] }:=sb.extBut _ _ (λq=>Á8 _ (by have:=Û he;rw[← q] at this;exact this)) gT
  have I3:Inv X pins σ (upd H s.heap.objs.size (.tup [.int i,x])) { s with heap:=g2,toks:=tk + 1 }:=I2.C11 fT I.sz (I2.hok.K71 hT (its:=[.int i tk,u]) (.cons ⟨_,rfl⟩ (.cons ru .nil)) (by show 2<=sizeLine;rw[ò];decide) ⟨_,gT2,rfl,_,rfl⟩)
  refine⟨.ref s.heap.objs.size,_,I3,rfl,⟨_,rfl,hT,λxs' x' e1 e2=>?_⟩,⟨⟨_,ge2⟩,by obtain⟨o,q1,_,q2⟩:=gs.1.obj;exact q2 _ (sb.extBut _ _ h1.symm q1)⟩,λc hc=>?_⟩
  ·rw[z1 _ e1] at e2;rw[hx] at e2;cases e2;rfl
  ·rw[a10]
   ·exact(hf c hc).1
   ·intro q;simp only[Á7,À2,or_false] at hc;rcases hc with hc | hc
    ·exact Á8 _ (by have:=Û he;rw[← hc,q] at this;exact this)
    ·obtain⟨o,ho,_⟩:=M80.obj hi;exact Á8 _ (by have:=Û ho;rw[← hc,q] at this;exact this)
 done:=by
  intro X hP hw hK hc i pins s σ H E I hf st hg;subst hP hw hK;obtain⟨xs,hq,rfl⟩:=hg;obtain⟨v1,rv,p1,_,z1⟩:=I.C41 hq;obtain⟨⟨old,he⟩,hi⟩:=st;refine wpAny_pyNext_enum_endD (K91 (A:=X.A.in1) (xs:=v1.toArray) b (by exact I.ok.hd hc) h3) he ⟨by rw[show v1.toArray.size=xs.length by simpa using rv.length.symm];exact hi,p1⟩ λg kp=>⟨rfl,I.F50 (t':=s.toks) hf λc o hcn q=>?_⟩
  simp only[Á7,À2,or_false,not_or] at hcn;exact kp c o hcn.2 q
 self:=λ_ _ _ _ _ st h=>by obtain⟨⟨_,he⟩,_⟩:=st;exact wpAny_pyIter_enum he h
def s82(K:Ã)(ta:TA):TI:=λσ H R=>ta σ H λvs H1=>∃ b a,vs=[.ref a]/\(∃ xs,SqB b K H1 a xs)/\R (Ite b K a) H1
theorem f61(hl:C31 b s.heap l xs)
  (h:∀ h',IsEnum h' (s.heap.objs.size + 1) s.heap.objs.size 0 .none->M80 b h' s.heap.objs.size l 0->(∀ c o,s.heap.get? c=some o->h'.get? c=some o)->Q (.ref (s.heap.objs.size + 1)) { s with heap:=h' }) :
  Ï (Õ P w) A (call (.type "enumerate") [.ref l]) Q E s:=match b,hl,h with
 |true,hl,h=>call_enumerate_list hl λh' a b _ c=>h h' a b c|false,hl,h=>f51 hl h
theorem n61:í "enumerate"=some (.type "enumerate"):=by decide +kernel
theorem R31{X:Cx}{a:Ò}{es:List Ò}{ek:Nat}{ep:Pos}{ta:TA}{p pos:Pos}(hg:Gl X "enumerate")(hm:X.mg "enumerate"=none)(ha:PA X [a] ta)(hs:ü [a] X.env=[(false,eval a X.env)]:=by rfl) :
  PI X (.Tuple es ek ep) (.Call (.Name "enumerate" p) [a] [] pos) (s82 X.K ta):=by
 intro pins s σ H R I h;refine Call_ (q20 I hg hm n61 (Á1 (thn (ha pos pins s σ H _ I h) λus s1 ⟨vs,H1,I1,r1,q1⟩=>?_) (by rw[hs];rfl) (by rfl)))
 obtain⟨b,l1,e,⟨xs,hq1⟩,q⟩:=q1;subst e;obtain⟨u,rfl,r⟩:=vals1 r1;cases r;obtain⟨v1,rv1,p1,a1,_⟩:=I1.C41 hq1;refine f61 p1 λh' he h1 kp=>wpAny_pyIter_enum (s:={ s1 with heap:=h' }) he ?_;refine⟨_,[s1.heap.objs.size + 1,s1.heap.objs.size],_,_,H1,rfl,I1.kept (t':=s1.toks) kp,n51 (Nat.succ_ne_self _) (Ô (Å6 a1)) (Ô a1),⟨⟨_,he⟩,h1⟩,λc hc=>?_,q⟩;have hc':s1.heap.objs.size<=c:=by
  simp only[Á7,À2,or_false] at hc;rcases hc with rfl | rfl
  ·exact É1 _ 1
  ·exact Ë _
 exact I1.e31 hc' (I1.hok.fresh hc')
end L2
namespace HT
open PySem PySem.W PyProof.Rows
set_option maxRecDepth 100000
section
variable {P:Ý}{w:ç}{A:õ}{E:Ä->Æ->Prop}{s:Æ}
theorem G40{a b c:Int}{n:Nat}(hh:A.handled=none)(hr:Õ6 s.heap r a b c t u v)(hs:Ñ9 a b c=true)(hn:Ã5 a b c=n)(hl:n<=2 ^ 24)
  (hQ:∀ (h':é) (tk:Nat) (acc:Array Ä),(∀ b o,s.heap.get? b=some o->h'.get? b=some o)->s.heap.objs.size<=h'.objs.size->ItemsOf (λi v=>∃ t,v=.int (a + i * c) t) acc n->Q acc.toList { s with heap:=h',toks:=tk }):Ï (Õ P w) A (collect (.ref r)) Q E s:=by
 unfold collect;refine À (Ð9 (À0 PySem.F.entry_proto_collect ?_));rw[À4 PySem.F.plain_proto_collect _];show Ï _ A.in1 (newList [] >>= λl=>again (.builtin "list.__iadd__" ⟨[l,.ref r],[]⟩)) _ _ s;refine À (ê (Å ⟨Ê7 Ü8 _,À0 PySem.F.entry_list_iadd ?_⟩));rw[À4 Ü8 _];show Ï _ A.in1 (Ä3 (.ref s.heap.objs.size) (.ref r) (.ref s.heap.objs.size)) _ _ { s with heap:=s.heap.push (Á9 "list" #[] 0) };have hS:(s.heap.push (Á9 "list" #[] 0)).get? s.heap.objs.size=some { cls:=.type "list",data:=.seq #[] 0 }:=É _ rfl;refine Â7 (wpAny_extend_range (A:=A) (s:={ s with heap:=s.heap.push (Á9 "list" #[] 0) }) (R:=λx s'=>x=.ok (.ret (.ref s.heap.objs.size))/\∃ h' tk acc c',s'={ s with heap:=h',toks:=tk }/\(∀ b o,s.heap.get? b=some o->h'.get? b=some o)/\h'.get? s.heap.objs.size=some { cls:=.type "list",dict:=none,data:=.seq acc c',slots:=#[] }/\ItemsOf (λi v=>∃ t,v=.int (a + i * c) t) acc n) hh (Â _ hr) hs hn hl _ (.ref s.heap.objs.size) 0 hS λh' tk acc c' hk hS' hi=>⟨rfl,h',tk,acc,c',rfl,λb o e=>hk b o (Ô (Û e)) (Â _ e),hS',hi⟩) (λfin s' h=>?_) λe s' h=>?_
 ·have go:∀ s',(∃ h' tk acc c',s'={ s with heap:=h',toks:=tk }/\(∀ b o,s.heap.get? b=some o->h'.get? b=some o)/\h'.get? s.heap.objs.size=some { cls:=.type "list",dict:=none,data:=.seq acc c',slots:=#[] }/\ItemsOf (λi v=>∃ t,v=.int (a + i * c) t) acc n)->Ï (Õ P w) A (match ð s.heap.objs.size with
   |ð a=>do
    match (← load a).data with
     |Data.seq xs _=>pure xs.toList|_=>unsupported "internal:collect"
   |_=>unsupported "internal:collect") Q E s':=λs' ⟨h',tk,acc,c',e,hk,hS',hi⟩=>by
   subst e;show Ï _ A (load s.heap.objs.size >>= _) _ _ _;exact À (wpAny_load hS' (Å (hQ h' tk acc hk (Ç9 (Û hS')) hi)))
  cases fin with
  |done f =>
   obtain⟨e,h⟩:=h;cases e;exact go _ h
  |again c'=>exact⟨h.1,Æ2 h.2 λx s'' hx=>by obtain⟨rfl,hx⟩:=hx;exact go _ hx⟩
 ·exact absurd h.1 (by simp)
open AutoSeq1 (wpAny_loadPart')
theorem y20{a b c:Int}{n:Nat}(hh:A.handled=none)(hr:Õ6 s.heap r a b c t u v)(hs:Ñ9 a b c=true)(hn:Ã5 a b c=n)(hl:n<=200000)
  (hQ:∀ (h':é) (tk:Nat) (acc:Array Ä),(∀ b o,s.heap.get? b=some o->h'.get? b=some o)->s.heap.objs.size<=h'.objs.size->ItemsOf (λi v=>∃ t,v=.int (a + i * c) t) acc n->Q (.ref h'.objs.size) { s with heap:=h'.push { cls:=.type "tuple",data:=.seq acc },toks:=tk }) :
  Ì3 (Õ P w) A (.call (.builtin "tuple.__new__") ⟨[.type "tuple",.ref r],[]⟩) (wants Q E) s:=by
 refine Ö2 ?_;show Ï _ A.in1 (do Ô7 "tuple.__new__" ⟨[.type "tuple",.ref r],[]⟩;again (.builtin "tuple.__new__" ⟨[.type "tuple",.ref r],[]⟩)) _ _ s;refine À (Þ0 (PySem.F.newCall_tuple_1 _) (Å ⟨Ê7 Ü7 _,À0 PySem.F.entry_tuple_new ?_⟩));rw[À4 Ü7 _];have k1:=sub_tuple_self;have k2:=init_tuple_lookup;have k3:=madeHere_tuple;have k4:s.TypeIs (.ref r) "range":=⟨_,hr,rfl⟩
 wp_walk using Ç1 k4,G40 (n:=n) (show A.in1.handled=none from hh) hr hs hn ∅
 intro h' tk acc hk hz hi;show Ï _ _ (Ç0 acc.toList.toArray >>= λv=>ret v) _ _ _;unfold Ç0;rw[Ï6];refine À (ê (Å (hQ h' tk acc hk hz hi)) (by show acc.size<=_;rw[hi.1,ò];omega))
theorem tuple_range{a b c:Int}{n:Nat}(hh:A.handled=none)(hr:Õ6 s.heap r a b c t u v)(hs:Ñ9 a b c=true)(hn:Ã5 a b c=n)(hl:n<=200000)
  (hQ:∀ (h':é) (tk:Nat) (acc:Array Ä),(∀ b o,s.heap.get? b=some o->h'.get? b=some o)->s.heap.objs.size<=h'.objs.size->ItemsOf (λi v=>∃ t,v=.int (a + i * c) t) acc n->Q (.ref h'.objs.size) { s with heap:=h'.push { cls:=.type "tuple",data:=.seq acc },toks:=tk }):Ï (Õ P w) A (call (.type "tuple") [.ref r]) Q E s:=by
 refine callType_codes (Q₁:=λobj s₁=>s₁.TypeIs obj "tuple"/\Q obj s₁) Ó4 (PySem.F.typeCall_tuple_1 _) PySem.F.entry_object_init (y20 hh hr hs hn hl λh' tk acc hk hz hi=>⟨⟨_,É _ rfl,rfl⟩,hQ h' tk acc hk hz hi⟩) λobj s₁ h₁=>?_;exact⟨h₁.1,PySem.F.args_object_init_2 obj _,object_init_meets Ó4.init.lookup Ó4.made (-0) P w A.in1 _ s₁ ⟨h₁.1,rfl,h₁.2⟩⟩
end
end HT
namespace L2
open PySem PySem.Spec PyProof.Rows
theorem g60.there(x:g60 P w H h a o):∃ u,h.get? a=some u:=by
 cases o with
 |lst xs=>obtain⟨_,_,_,_,e⟩:=x;exact⟨_,e⟩
 |tup xs=>obtain⟨_,_,_,o,e,_⟩:=x;exact⟨_,e⟩
 |dK kvs=>obtain⟨_,_,_,_,o,_,_,e,_⟩:=x;exact⟨_,e⟩
 |dT kvs=>obtain⟨_,_,_,_,o,_,_,e,_⟩:=x;exact⟨_,e⟩
 |set S n=>obtain⟨o,_,_,_,e,_⟩:=x;exact⟨_,e⟩
 |ins C dx fs=>obtain⟨_,_,_,e,_⟩:=x;exact⟨_,e⟩
 |own y=>obtain⟨_,e⟩:=x;exact⟨_,e⟩
 |xd fs=>obtain⟨_,⟨_,_,_,e,_⟩,_⟩:=x;exact⟨_,e⟩
 |rng lo hi=>obtain⟨_,_,_,e⟩:=x;exact⟨_,e⟩
 |frz ob u=>obtain⟨e,_⟩:=x;exact⟨_,e⟩
 |tbl ps=>exact⟨_,(show h.get? a=some _ from x)⟩|met f y=>exact⟨_,(show h.get? a=some _ from x)⟩|ext φ=>obtain⟨_,⟨_,e⟩,_⟩:=x;exact⟨_,e⟩
def InB(B:é)(fs:List Ç)(H':Hp)(h h':é):Prop:=∀ b u,h'.get? b=some u->b ∉ fs->((∃ o,h.get? b=some o)∨H' b≠none)->B.get? b=some u
def CX1(P:Ý)(w:ç):CXT:=λouter H s E e s'=>∃ (a:Ç) (cls a0:Ä) (H':Hp) (B:é),e=.ref a/\s'.os=s.os/\Ó1 s'.gens/\Un (frs outer) [] H H' s.heap s'.heap/\HOk P w H' s'.heap /\
 é.FlyingW B outer a cls a0 s'.heap/\H' a=none/\InB B (frs outer) H' s.heap s'.heap/\E cls (some a) H'
section
variable {X:Cx}{pins:List (Ç × Obj)}{σ:St}{H H':Hp}{s s':Æ}{B h'':é}{a:Ç}{cls a0:Ä}{E:XK}
theorem T60(hS:X.stack=X.env::X.outer)(hx:X.ex=[])(hf:X.env.frame=some X.env.locals)(I:Inv X pins σ H s)(os:s'.os=s.os)(bare:Ó1 s'.gens)(un:Un (frs X.stack) [] H H' s.heap s'.heap)(hok:HOk X.prog X.w H' s'.heap)
  (bB:InB B (frs X.stack) H' s.heap s'.heap) (na:H' a=none) (fl:é.FlyingW B X.outer a cls a0 h'') (sm:s'.heap.UpToSlots h'') (he:E cls (some a) H'):CX1 X.prog X.w X.outer X.H₀ X.s₀ E (.ref a) { s' with heap:=h'' }:=by
 have hfs:frs X.stack=X.env.locals::frs X.outer:=by rw[hS];unfold frs;rw[þ,hf]
 have U1:=I.base;rw[hx] at U1;have U:Un (frs X.stack) [] X.H₀ H' X.s₀.heap s'.heap:=(U1.mono (λb hb=>by rw[hfs];exact È _ hb) λb hb=>hb).trans un
 have nL:∀ b o,X.s₀.heap.get? b=some o->b ∉ frs X.outer->b ∉ frs X.stack:=λb o e hn hm=>by
  rw[hfs] at hm;rcases Ü.mp hm with z | z
  ·exact absurd (Û e) (by rw[z];exact Nat.not_lt.mpr I.ok.above)
  ·exact hn z
 have frN:∀ b∈frs X.stack,H' b=none:=λb hb=>by
  obtain⟨_,o,ho,_⟩:=I.stack.mem hb;exact un.free b o ho (I.s80 b hb) (by simp)
 have old:∀ b o,X.s₀.heap.get? b=some o->b ∉ frs X.outer->∃ u,s'.heap.get? b=some u/\B.get? b=some u:=λb o e hn=>by
  obtain⟨o1,e1⟩:=U1.there b o e (by simp)
  obtain⟨o2,e2⟩:=un.there b o1 e1 (by simp)
  exact⟨o2,e2,bB b o2 e2 (nL b o e hn) (.inl ⟨o1,e1⟩)⟩
 have trk:∀ b,H' b≠none->∃ u,s'.heap.get? b=some u/\B.get? b=some u:=λb hb=>by
  obtain⟨o,e⟩:=Û5.mp hb;obtain⟨u,eu⟩:=(hok b o e).there;exact⟨u,eu,bB b u eu (λhm=>by rw[frN b hm] at e;cases e) (.inr hb)⟩
 refine⟨a,cls,a0,H',B,rfl,os.trans I.os,bare,⟨λb o e n hb _=>?_,λb o e n hb _=>?_,λb o e n hb=>U.free b o e n hb,λb o e _=>?_,U.tups,U.frzs,U.tbls⟩,λc o e=>?_,fl,na,λb u e hn hor=>?_,he⟩
 ·obtain⟨u,e1,e2⟩:=old b o e hb;have e3:=U.keep b o e n (nL b o e hb) (by simp)
  rw[e1] at e3;cases e3;exact fl.1 b _ e2
 ·obtain⟨sl,e1⟩:=U.slot b o e n (by rw[hfs];exact È _ hb) (by simp)
  obtain⟨_,o',ho',hd⟩:=I.ok.e21.mem hb;rw[e] at ho';cases ho';obtain⟨sl',e2⟩:=sm b _ e1 hd;exact⟨sl',e2⟩
 ·by_cases hb:b∈frs X.outer
  ·obtain⟨_,o',ho',_⟩:=fl.2.2.1.mem hb;exact⟨o',ho'⟩
  ·obtain⟨u,_,e2⟩:=old b o e hb;exact⟨u,fl.1 b _ e2⟩
 ·refine(hok c o e).e11 (λb u hb q=>?_) (λ_ q=>q) λ_ _ q=>q;have hbn:H' b≠none:=by
   rcases hb with rfl | hb
   ·rw[e];exact λz=>nomatch z
   ·rw[hb];exact λz=>nomatch z
  obtain⟨u',e1,e2⟩:=trk b hbn;rw[q] at e1;cases e1;exact fl.1 b _ e2
 ·have:∃ u',B.get? b=some u':=by
   rcases hor with ⟨o,ho⟩ | hor
   ·obtain⟨u',_,e2⟩:=old b o ho hn;exact⟨u',e2⟩
   ·obtain⟨u',_,e2⟩:=trk b hor;exact⟨u',e2⟩
  obtain⟨u',e2⟩:=this;have e3:=fl.1 b _ e2;rw[e] at e3;cases e3;exact e2
end
section
variable {P:Ý}{w:ç}{K:Ã}{mg:Str->Option Ä}{base:é}{N:List Str}{qual:Str}{scope:ø}{f:Ç}{cd:Ä}{A:õ}{outer:List Env}{s₀:Æ}{H₀:Hp}{E:XK}
theorem n71(I:Inv (B40 (CX1 P w) P w K mg base N qual scope f cd A outer s₀ H₀ E) pins σ H s)(hx:é.MadeExcOf s.heap h' e cls vs)(he:E cls (some e) H) :
  (B40 (CX1 P w) P w K mg base N qual scope f cd A outer s₀ H₀ E).xe (.ref e) { s with heap:=h' }:=by
 have hin:∀ env∈(B40 (CX1 P w) P w K mg base N qual scope f cd A outer s₀ H₀ E).stack,∀ a,env.frame=some a->a∈frs (B40 (CX1 P w) P w K mg base N qual scope f cd A outer s₀ H₀ E).stack:=λenv he a ha=>Ê2.mpr ⟨env,he,ha⟩;have kB:(hideAll s.heap (frs (B40 (CX1 P w) P w K mg base N qual scope f cd A outer s₀ H₀ E).stack)).StaysIn s.heap:=λb o q=>of_hideAll _ q;show Ï _ _ (leaving _ _) _ _ _;refine wpAny_leaves_madeW (base:=hideAll s.heap (frs (B40 (CX1 P w) P w K mg base N qual scope f cd A outer s₀ H₀ E).stack)) (h:=s.heap) I.ok.frames rfl kB (PySem.W.funFrames_hide I.stack hin) hx λh'' t fl _ _ sm=>?_;have na:H e=none:=by
  cases z:H e with
  |none=>rfl|some o=>obtain⟨u,eu⟩:=(I.hok e o z).there;rw[hx.new] at eu;cases eu
 refine T60 (X:=B40 (CX1 P w) P w K mg base N qual scope f cd A outer s₀ H₀ E) (s':={ s with heap:=h' }) rfl rfl rfl I rfl I.bare (Un.kept hx.keeps) (I.hok.kept hx.keeps) (λb u q hn hor=>?_) na fl sm he;have:∃ o,s.heap.get? b=some o:=by
  rcases hor with hor | hor
  ·exact hor
  ·obtain⟨o,z⟩:=Û5.mp hor;exact(I.hok b o z).there
 obtain⟨o,ho⟩:=this;have:=hx.keeps b o ho;have q':h'.get? b=some u:=q;rw[this] at q';cases q';exact hideAll_get _ ho hn
theorem s92:Passes (CX1 P w) (B40 (CX1 P w) P w K mg base N qual scope f cd A outer s₀ H₀ E) E:=by
 intro pins σ H s e s' I h;obtain⟨a,cls,a0,H',B,rfl,os,bare,un,hok,fl,na,bB,he⟩:=h;show Ï _ _ (leaving _ _) _ _ _;refine wpAny_leaves_onW I.ok.frames rfl fl λh'' fl' sm=>?_;exact T60 (X:=B40 (CX1 P w) P w K mg base N qual scope f cd A outer s₀ H₀ E) (s':=s') rfl rfl rfl I os bare un hok bB na fl' sm he
end
theorem R41{K:Ã}{h:é}{C:Ç}{bmB:List Ä}{newId:String}(KX:K.In h)(hq:Ë8 K C bmB newId=true) :
  ∃ bm N nm q bs hdct sn sub ab col dd k0 k1 k2 k3 k5 mN,h.get? C=some (excClassObj nm q C N bs bm hdct sn sub ab col dd k0 k1 k2 k3 k5 newId)/\h.Ns N mN/\mN "__init__"=none/\OwnTail h bmB bm:=by
 unfold Ë8 at hq;split at hq
 case h_2=>cases hq
 case h_1 dd cd sl ho =>
  split at hq
  case h_2=>cases hq
  case h_1 C' bm k0 k1 k2 k3 n k5 hm hs =>
   simp only[Á,beq_iff_eq,ú] at hq;obtain⟨⟨⟨⟨⟨z1,z2⟩,hdel⟩,ht⟩,hok⟩,hni⟩:=hq;subst z1 z2;cases cd with
   |mk nm bs mro ns qn hd sn sub ab col del =>
    dsimp only at hm hdel hok hni;subst hm hdel;have esl:sl=#[k0,k1,k2,k3,some (.builtin n),k5]:=by cases sl with | mk l=>simp only at hs;rw[hs]
    subst esl;refine⟨bm,ns,nm,qn,bs,hd,sn,sub,ab,col,dd,k0,k1,k2,k3,k5,h.nsMap ns,KX _ _ ho,?_,PySem.W.nsMap_none_of_in KX hok hni,PySem.W.tail_of_in KX ht⟩;exact .of_isNs (PySem.W.isNs_of_in KX hok)
def G50(X:Cx)(E:XK):Prop:=∀ (pins:List (Ç × Obj)) (σ:St) (H:Hp) (s:Æ) (h':é) (e:Ç) (cls:Ä) (vs:List Ä),Inv X pins σ H s->é.MadeExcOf s.heap h' e cls vs->E cls (some e) H->X.xe (.ref e) { s with heap:=h' }
theorem n81{P:Ý}{w:ç}{K:Ã}{mg:Str->Option Ä}{base:é}{N:List Str}{qual:Str}{scope:ø}{f:Ç}{cd:Ä}{A:õ}{outer:List Env}{s₀:Æ}{H₀:Hp}{E:XK} :
  G50 (B40 (CX1 P w) P w K mg base N qual scope f cd A outer s₀ H₀ E) E:=λ_ _ _ _ _ _ _ _ I hx he=>n71 I hx he
def e62(E:XK)(C:Ç)(t:TA):TS:=λ_ σ H=>t σ H λvs H1=>vs.length<=sizeLine/\∀ e,H1 e=none->E (.ref C) (some e) H1
section
variable {X:Cx}{x:Str}{C:Ç}{E:XK}{e₀:Ò}{rest:List Ò}{t:TA}{np cpos pos:Pos}
theorem D71(hE:G50 X E)(hc:X.calm=true)(hg:Gl X x)(hm:X.mg x=some (.ref C))(hq:Ë8 X.K C [.type "ValueError",.type "Exception",.type "BaseException",.type "object"] "ValueError.__new__"=true)(ha:PA X (e₀::rest) t)
  (hdb:(x == ("__debug__":Str))=false:=by decide) (he:ü (e₀::rest) X.env=(false,eval e₀ X.env)::ü rest X.env:=by rfl) (hpl:(Õ4 cpos (ü rest X.env)).any (·.1)=false:=by rfl) :
  PS X (.Raise (some (.Call (.Name x np) (e₀::rest) [] cpos)) none pos) (e62 E C t):=by
 intro pins s σ H D I h;obtain⟨bm,N,nm,q,bs,hdct,sn,sub,ab,col,dd,k0,k1,k2,k3,k5,mN,hC,hN,hni,T⟩:=R41 I.ok.mod.kin hq;refine wpAny_Raise_call_subT (C:=C) (nm:=nm) (q:=q) (N:=N) (bs:=bs) (bm:=bm) (hdct:=hdct) (sn:=sn) (sub:=sub) (ab:=ab) (col:=col) (dd:=dd) (k0:=k0) (k1:=k1) (k2:=k2) (k3:=k3) (k5:=k5)
  Û0 (mN:=mN) (T.hasType Û0.hasBase) (I.ok.hd hc) (by rw[he];exact hpl) hni (E40 I hg hm ⟨rfl,?_⟩ hdb)
 have k:=ha cpos pins s σ H _ I h;rw[he] at k ⊢;refine ß4 (thn k λus s2 ⟨vs,H2,I2,r,z,q⟩=>⟨rfl,by show us.length<=_;rw[← r.length];exact z,I2.bk _ _ hC,hN.keeps I2.bk,T.keeps I2.bk,λh' e hx=>?_⟩)
 refine hE pins σ H2 s2 h' e _ us I2 hx (q e ?_);cases z:H2 e with
 |none=>rfl|some o=>obtain⟨u,eu⟩:=(I2.hok e o z).there;rw[hx.new] at eu;cases eu
end
open PySem PySem.Spec PyProof.Rows PySem.W PySem.Builtin PySem.Builtin.ObjectAttr PySem.Builtin.Getset_descriptor
section
variable {prog:Ý}{w:ç}{A:õ}{E:Ä->Æ->Prop}{K:Ã}{h:é}{gg:Array Ü5}{d:Drawn}{t:Nat}{os:OsState}{x D:Ç}{ox:Obj}
structure i20(K:PySem.W.Frag)(D:Addr):Prop where
 ga:findIn K (.ref D) "__getattribute__"=some (some (.builtin "BaseException.__getattribute__"))
 gh:findIn K (.ref D) "__getattr__"=some none
 mb:mroIn K D (.type "BaseException")=some true
 mo:mroIn K D (.type "object")=some true
 fc:findIn K (.ref D) "__class__"=some (some (.builtin "object.__class__"))
 fg:specialIn K (.builtin "object.__class__") "__get__"=some (some (.builtin "getset_descriptor.__get__"))
 ft:takesIn K (.builtin "object.__class__")=some true
def excAt(a D:Ç)(h:é):Prop:=∃ ox,h.get? a=some ox/\ox.cls=.ref D
theorem excAt.ty{M:Model}{a D:Ç}{h:é}(p:excAt a D h):Looks M h (typeOf (.ref a)) (.ref D):=by
 obtain⟨ox,e,c⟩:=p;rw[← c];exact(Looks.ld e).andThen .now
theorem D81{M:Model}(KX:K.In h)(L:i20 K D):Looks M h (find (.ref x) (.ref D) "__class__") (.bind (.builtin "getset_descriptor.__get__") (.builtin "object.__class__")):=by
 have l1:=looks_takesIn (M:=M) KX L.ft;have l2:Looks M h (dataDescriptor? (some (.builtin "object.__class__")) (some (.builtin "getset_descriptor.__get__"))) (some (.builtin "getset_descriptor.__get__",.builtin "object.__class__")):=l1.andThen .now;exact(looks_findIn KX L.fc).andThen ((looks_specialIn KX L.fg).andThen (l2.andThen (Looks.tag .now)))
theorem R51{R:Result->Æ->Prop}{tp:Ä}(KX:K.In h)(I:excAt x D h)(hm:mroIn K D (.type "object")=some true)(hq:R (.ok (.ret (.ref D))) ⟨h,gg,d,t,os⟩) :
  Ì3 (Õ prog w) A (.call (.builtin "getset_descriptor.__get__") ⟨[.builtin "object.__class__",.ref x,tp],[]⟩) R ⟨h,gg,d,t,os⟩:=by
 have L0:=I.ty (M:=Õ prog w);have L1:=looks_mroIn (M:=Õ prog w) KX hm
 (refine Î1 KF.slot_gs.plain KF.entry_gs (KF.slot_gs.check _ _ _ _ _ _ _ _ KF.type_class (KF.args_gs _ _ _) ?_);unfold û.«getset_descriptor.__get__» descrGet;rw[dga_obj];refine À (Å ?_);unfold descrGetter descrCheckInstance descrNameAndClass isInstance;simp only[KF.owner_class];repeat lk)
 (refine⟨Î6 _ (by decide +kernel),À0 KF.entry_class ?_⟩;unfold û.«object.__class__» shownTypeOf;repeat lk)
 exact hq
theorem n91{M:Model}{nameV:Ä}{Q:Unit->Æ->Prop}(KX:K.In h)(I:excAt x D h)(L:i20 K D)(hq:Q () ⟨h,gg,d,t,os⟩) :
  Ï M A (Ô7 "BaseException.__getattribute__" ⟨[.ref x,nameV],[]⟩) Q E ⟨h,gg,d,t,os⟩:=by
 have hkd:builtinKind "BaseException.__getattribute__"=some .slot:=by decide +kernel
 have hsp:splitId "BaseException.__getattribute__"=some ("BaseException","__getattribute__"):=by decide +kernel
 have L0:=I.ty (M:=M);have L1:=looks_mroIn (M:=M) KX L.mb;have ha:=F.args_bexc_ga (.ref x) nameV;simp only[Ô7,hkd,hsp];unfold isInstance;refine À (À (L0.at (L1.at ?_)))
 repeat (first | assumption | wp_step)
theorem o01(KX:K.In h)(I:excAt x D h)(L:i20 K D)(hq:Q (.done (.ret (.ref D))) ⟨h,gg,d,t,os⟩) :
  Ï (Õ prog w) A (û.«object.__getattribute__» ⟨[.ref x,.str "__class__" tk],[]⟩) Q E ⟨h,gg,d,t,os⟩:=by
 have L0:=I.ty (M:=Õ prog w);have L1:=D81 (M:=Õ prog w) (x:=x) KX L
 (unfold û.«object.__getattribute__»);refine À (Å (À (Å (À (L0.at (À (L1.at ?_)))))))
 show Ï _ _ (Ø8 [Ð4 "object.__class__"] (call (.builtin "getset_descriptor.__get__") [.builtin "object.__class__",.ref x,.ref D]) >>= _) _ _ _;refine À (ï (Ñ0 (R51 KX I L.mo ?_)));exact Å hq
theorem D91{tk:Tok}{R:Result->Æ->Prop}(KX:K.In h)(I:excAt x D h)(L:i20 K D)(hq:R (.ok (.ret (.ref D))) ⟨h,gg,d,t,os⟩) :
  Ì3 (Õ prog w) A (.call (.builtin "BaseException.__getattribute__") ⟨[.ref x,.str "__class__" tk],[]⟩) R ⟨h,gg,d,t,os⟩ :=
 Î1 F.attr_ValueError.ga.plain F.entry_bexc_ga (n91 KX I L (o01 KX I L hq))
theorem e72{fill expr:Bool}(KX:K.In h)(I:excAt x D h)(L:i20 K D)(hq:Q (.ref D) ⟨h,gg,d,t,os⟩) :
  Ï (Õ prog w) A (getAttrBy (.ref x) (.str "__class__" tk) fill expr) Q E ⟨h,gg,d,t,os⟩:=by
 have L0:=I.ty (M:=Õ prog w);have L1:=looks_findIn (M:=Õ prog w) KX L.ga;have L2:=looks_findIn (M:=Õ prog w) KX L.gh;have f3:=F.attr_ValueError.ga.bind (.ref x);have hno:(expr&&onTheHeap (Ð4 "BaseException.__getattribute__"))=false:=by cases expr <;> rfl
 unfold getAttrBy
 (refine ï (À (L0.at (À (L1.at ?_)))));
 show Ï _ _ (getAttrByItsOwn _ _ _ _ _ _) _ _ _;unfold getAttrByItsOwn hookBefore;rw[if_pos (show onTheHeap (ð D)=true from rfl)];refine À (L2.at ?_);unfold callGetattribute;rw[hno,if_neg (-0)]
 unfold boundAndCalled
 (refine À (Í8 (ï ?_)))
 repeat (any_goals (first | assumption | (with_reducible refine Ñ0 (D91 KX I L ?_)) | wp_step))
theorem E01(KX:K.In s.heap)(I:excAt x D s.heap)(L:i20 K D)(hq:Q (some (.ref D)) { s with toks:=s.toks + 1 }):Ï (Õ prog w) A (getAttr? (.ref x) "__class__") Q E s:=by
 obtain⟨h,gg,d,t,os⟩:=s;unfold getAttr? getAttrBy?;refine À (wpAny_mkText (À (Í8 (e72 KX I L ?_))));exact Å hq
theorem E11(L:i20 K D)(hd:hasDictIn K D=true):KitX K (.ref x) (.ref D) (excAt x D) where
 ty:=λ_ _ _ I=>I.ty
 it:=λM h KX _=>by
  obtain⟨cdD,hcD,_⟩:=any_some hd;unfold clsIn at hcD;split at hcD
  case h_2=>cases hcD
  case h_1 ho =>
   intro A' Q' E' s' k q;unfold isType loadHead;exact À (wpAny_loadPart (k _ _ (KX _ _ ho)) (Å q))
 ne:=λh tp dd its n sl KX htp=>by
  obtain⟨cdD,hcD,_⟩:=any_some hd;refine Bool.eq_false_iff.mpr λsame=>?_;cases ð.inj (beq_iff_eq.mp same);unfold clsIn at hcD;split at hcD
  case h_2=>cases hcD
  case h_1 ho=>cases (KX _ _ ho).symm.trans htp
 ca:=λKX I k=>E01 KX I L k
end
def e82(H:Hp)(a D:Ç):Prop:=H a=some (.ext (excAt a D))
theorem f71{a D:Ç}{h1 h2:é}(h:excAt a D h1)(k:∀ o,h1.get? a=some o->h2.get? a=some o):excAt a D h2:=by
 obtain⟨ox,e,c⟩:=h;exact⟨ox,k _ e,c⟩
section
variable {X:Cx}
theorem f81:e30 X (.builtin "isinstance") (λxs H Q=>∃ (a D:Ç) (c:V) (cv:Ä) (b:Bool),xs=[.ref a,c]/\((∃ C,c=.ref C/\cv=.ref C)∨∃ T,c=.ty T/\cv=.type T)/\e82 H a D/\i20 X.K D/\hasDictIn X.K D=true/\kitOne X.K (.ref D) cv=some b/\Q (.bl b) H):=by
 intro pins s σ H xs us Q I r h;obtain⟨a,D,c,cv,b,rfl,hc,hx,L,hd,e,q⟩:=h;obtain⟨u,w',rfl,rx,rt⟩:=vals2 r;cases (show u=ð a from rx);obtain⟨hp,_,_⟩:=(show g60 X.prog X.w H s.heap a (.ext (excAt a D)) from I.hok a _ hx);have fin:∀ tk,EP X pins σ Q (.bool b) { s with toks:=tk }:=λtk=>⟨.bl b,H,I.tok tk,rfl,q⟩;have ew:w'=cv:=by
  rcases hc with ⟨C,rfl,rfl⟩ | ⟨T,rfl,rfl⟩
  ·exact rt
  ·exact rt
 subst ew;exact kia_one (E11 L hd) I.kIn hp e (λz=>by rcases hc with ⟨C,_,rfl⟩ | ⟨T,_,rfl⟩ <;> exact nomatch z) fin
end
end L2
namespace L2
open PySem PySem.Spec PyProof.Rows
section
variable {X:Cx}{pins:List (Ç × Obj)}{σ:St}{H H':Hp}{s s':Æ}{B h4:é}
theorem L01(I:Inv X pins σ H s)(os:s'.os=s.os)(bare:Ó1 s'.gens)(un:Un (frs X.stack) [] H H' s.heap s'.heap)(hok:HOk X.prog X.w H' s'.heap)(bB:InB B (frs X.stack) H' s.heap s'.heap)(kB:B.StaysIn h4)(sm:s'.heap.UpToSlots h4) :
  Inv X pins σ H' { s' with heap:=h4 }:=by
 have frN:∀ b∈frs X.stack,H' b=none:=λb hb=>by
  obtain⟨_,o,ho,_⟩:=I.stack.mem hb;exact un.free b o ho (I.s80 b hb) (by simp)
 have fr4:∀ b o,s.heap.get? b=some o->b∈frs X.stack->∃ sl,h4.get? b=some { o with slots:=sl }:=λb o e hb=>by
  obtain⟨sl,e1⟩:=un.slot b o e (I.s80 b hb) hb (by simp)
  obtain⟨_,o',ho',hd⟩:=I.stack.mem hb;rw[e] at ho';cases ho';obtain⟨sl',e2⟩:=sm b _ e1 hd;exact⟨sl',e2⟩
 have old:∀ b o,s.heap.get? b=some o->b ∉ frs X.stack->∃ u,s'.heap.get? b=some u/\h4.get? b=some u:=λb o e hn=>by
  obtain⟨o2,e2⟩:=un.there b o e (by simp)
  exact⟨o2,e2,kB b _ (bB b o2 e2 hn (.inl ⟨o,e⟩))⟩
 refine I.b52 (s':={ s' with heap:=h4 }) (ch:=[]) os ⟨λb o e n hb _=>?_,λb o e n hb _=>fr4 b o e hb,un.free,λb o e _=>?_,un.tups,un.frzs,un.tbls⟩ (λc o e=>?_) bare λb hb=>absurd hb (by simp)
 ·obtain⟨u,e1,e2⟩:=old b o e hb;have e3:=un.keep b o e n hb (by simp)
  rw[e1] at e3;cases e3;exact e2
 ·by_cases hb:b∈frs X.stack
  ·obtain⟨sl,e1⟩:=fr4 b o e hb;exact⟨_,e1⟩
  ·obtain⟨u,_,e2⟩:=old b o e hb;exact⟨u,e2⟩
 ·refine(hok c o e).e11 (λb u hb q=>?_) (λ_ q=>q) λ_ _ q=>q;have hbn:H' b≠none:=by
   rcases hb with rfl | hb
   ·rw[e];exact λz=>nomatch z
   ·rw[hb];exact λz=>nomatch z
  exact kB b _ (bB b u q (λhm=>hbn (frN b hm)) (.inr hbn))
theorem Inv.o11(I:Inv X pins σ H s)(hl:∀ (i:Nat) (x:Str) (v:V),X.N[i]?=some x->σ[i]?=some (some v)->Vis X.env.scope x->∃ u,RelV v u/\Look X.env s.heap m x u)
  (hn':h'.Ns X.env.locals m') (hs:Ç8 X.env.locals s.heap h') (hm:∀ (i:Nat) (x:Str),X.N[i]?=some x->m' x=m x):Inv X pins σ H { s with heap:=h',toks:=t' }:=by
 have oth:∀ b o,b≠X.env.locals->s.heap.get? b=some o->h'.get? b=some o:=λb o hb e=>(hs.2 b hb).trans e;have neL:∀ b o,X.s₀.heap.get? b=some o->b≠X.env.locals:=λb o e=>Ô (Ú (Û e) I.ok.above);have cel:∀ x c v,X.env.cells.lookup x=some c->s.heap.IsCell c v->h'.IsCell c v:=λx c v e ⟨o,ho,hd⟩=>⟨o,oth c o (I.cne x c e) ho,hd⟩;refine⟨I.ok,I.os,I.bare,⟨λb o e n hb hx=>oth b o (neL b o e) (I.base.keep b o e n hb hx),λb o e n hb hx=>?_,I.base.free,λb o e hx=>?_,I.base.tups,I.base.frzs,I.base.tbls⟩,⟨m',hn',λi x v e1 e2 e3=>?_⟩,λx c e=>?_,I.free,I.freeC,λp hp=>?_,λc o e=>?_,I.len⟩
 ·obtain⟨sl,e1⟩:=I.base.slot b o e n hb hx;exact⟨sl,oth b _ (neL b o e) e1⟩
 ·obtain⟨o',e1⟩:=I.base.there b o e hx;exact⟨o',oth b _ (neL b o e) e1⟩
 ·obtain⟨u,r,l⟩:=hl i x v e1 e2 e3;refine⟨u,r,?_⟩;rcases l with ⟨k,z⟩ | ⟨k,c,ec,z⟩
  ·exact .inl ⟨k,(hm i x e1).trans z⟩
  ·exact .inr ⟨k,c,ec,cel x c _ ec z⟩
 ·obtain⟨v,z⟩:=I.cell x c e;exact⟨v,cel x c v e z⟩
 ·obtain⟨e,n,ne,nf,d⟩:=I.pin p hp;exact⟨oth _ _ ne e,n,ne,nf,d⟩
 ·refine(I.hok c o e).e11 (λb u hb q=>oth b u (λz=>?_) q) (λ_ q=>q) λ_ _ q=>q;rcases hb with rfl | hb
  ·rw[z,I.free] at e;cases e
  ·rw[z,I.free] at hb;cases hb
theorem Inv.e92{T:Ç}{o:HO}(I:Inv X pins σ H s)(nT:H T=none)(n0:X.s₀.heap.get? T=none)(hL:T≠X.env.locals)(hc:∀ x c,X.env.cells.lookup x=some c->c≠T)(hp:∀ p∈X.pn++pins,p.1≠T)(new:g60 X.prog X.w (upd H T o) s.heap T o) :
  Inv X pins σ (upd H T o) s:=by
 have u:=I.base;refine⟨I.ok,I.os,I.bare,⟨u.keep,u.slot,λb ob e n hx=>?_,u.there,λb xs e=>?_,λb ob xs e=>?_,λb ps e=>?_⟩,I.loc,I.cell,?_,λx c e=>?_,λp hpp=>?_,λc v e=>?_,I.len⟩
 ·rw[a10 (λz=>by rw[z,n0] at e;cases e)];exact u.free b ob e n hx
 ·have z:=u.tups b xs e;rw[a10 (a80 z nT)];exact z
 ·have z:=u.frzs b ob xs e;rw[a10 (a80 z nT)];exact z
 ·obtain⟨more,z⟩:=u.tbls b ps e;exact⟨more,by rw[a10 (a80 z nT)];exact z⟩
 ·rw[a10 hL.symm];exact I.free
 ·rw[a10 (hc x c e)];exact I.freeC x c e
 ·obtain⟨e,n,r⟩:=I.pin p hpp;exact⟨e,by rw[a10 (hp p hpp)];exact n,r⟩
 ·by_cases hcT:c=T
  ·subst hcT;rw[a60] at e;cases e;exact new
  ·rw[a10 hcT] at e;exact(I.hok c v e).e11 (λ_ _ _ q=>q) (λb q=>by rw[a10 (a80 q nT)];exact q) λb xs q=>by rw[a10 (a80 q nT)];exact q
end
structure f91(P:Program)(w:World)(K:PySem.W.Frag)(mg:Str->Option Value)(base:Heap)(CX:CXT)(k:Nat)(f:Addr)(fd:FuncData)(ps:List Str)(sp:Shared->Sp):Prop where
 len:∀ s vs H Q E,sp s vs H Q E->vs.length=ps.length
 run:∀ (A:Around) (outer:List Env) (s:Shared) (H:Hp) (args:Args) (us:List Value) (vs:List V) (Q:VK) (E:XK),w30 k A->P21 P w K mg base A outer s H->BindsTo s fd args (ps.zip us)->Vals vs us->sp s vs H Q E ->
  codeAny (model P w) A (.call (.ref f) args) (CR CX outer P w H s Q E) s
theorem f02{CX:CXT}{P:Ý}{w:ç}{K:Ã}{mg:Str->Option Ä}{base:é}{k:Nat}{f:Ç}{name qual:Str}{params:Í7}{body:List Ã8}{scope:ø}{dV kV doc pm cdv ct oc:Ä}{an od:Option Ç}
  {osl:Array (Option Ä)}{N ps:List Str}{sp:Æ->Sp} (lk:K.lookup f=some ⟨oc,od,.func (fnOf name qual params body scope dV kV doc pm an cdv ct),osl⟩) (hcd:PySem.W.codeIn K cdv qual=true) (S:j60 N ps scope)
  (len:∀ s vs H Q E,sp s vs H Q E->vs.length=ps.length)
  (hbody:∀ (A:õ) (outer:List Env) (s:Æ) (H:Hp) (vs:List V) (Q:VK) (E:XK),w30 k (A.deeper (Ï0 qual scope s.heap.objs.size f cdv))->sp s vs H Q E ->
   ∃ t,PSs (B40 CX P w K mg base N qual scope f cdv A outer s H E) body t/\t { nx:=λ_ H'=>Q .non H',rt:=Q } (start N vs) H) :
  f91 P w K mg base CX (k + 1) f (fnOf name qual params body scope dV kV doc pm an cdv ct) ps sp:=by
 refine⟨len,λA outer s H args us vs Q E hr e0 hb r hsp=>?_⟩;have hl:=len _ _ _ _ _ hsp;have KX:K.In s.heap:=e0.mod.kin.keeps λb o e=>(e0.bs b o e).1;have lim:s.heap.NoLimit:=e0.mod.nolimit.keeps λb o e=>(e0.bs b o e).1;have hkind:∀ y∈ps.zip us,scope.names.lookup y.1=some .local∨(scope.names.lookup y.1=some .cell/\((cellsFrom (s.heap.objs.size + 1) scope.names []).lookup y.1).isSome=true):=λ⟨n,v⟩ hy=>by
  rcases S.par n (of_mem_zip hy).1 with q | q
  ·exact .inl q
  ·exact .inr ⟨q,cellsFrom_some _ _ _ (.inl q)⟩
 refine codeAny_call_function hr.depth (KX _ _ lk) rfl S.co S.gen rfl (codeRec_of KX hcd) (hb _ _ _ _ ?_);refine ß0 S.kind hkind λenv he s1 x=>?_;subst he;refine⟨lim.keeps x.toInCall.keep,codeAny_func ?_⟩;obtain⟨t,ht,hq⟩:=hbody A outer s H vs Q E (hr.deeper _) hsp;have I:Inv (B40 CX P w K mg base N qual scope f cdv A outer s H E) [] (start N vs) H s1:=M10 S hr.hd e0 hl r x;refine Â7 (ht [] s1 (start N vs) H _ I hq) (λfl s' hs=>?_) λe s' hs=>hs;have fin:∀ {σ':St}{H':Hp}{v:V}{u:Ä},Inv (B40 CX P w K mg base N qual scope f cdv A outer s H E) [] σ' H' s'->RelV v u->Q v H'->CE outer P w H s Q u s' :=
  λ{σ' H' v u} J rv q=>⟨v,H',J.os,J.bare,J.base,J.hok,rv,q⟩
 cases fl with
 |ret u =>
  obtain⟨v,σ',H',J,rv,q⟩:=hs;exact fin J rv q
 |next =>
  obtain⟨σ',H',J,q⟩:=hs;exact fin (v:=V.non) (u:=è) J rfl q
 |brk =>
  obtain⟨_,_,_,q⟩:=hs;exact À3 q
 |cont =>
  obtain⟨_,_,_,q⟩:=hs;exact À3 q
theorem Fun.okS{P:Ý}{w:ç}{K:Ã}{mg:Str->Option Ä}{base:é}{x qual:Str}{st:Ã8}{f:Ç}{fd:Å9}{N ps:List Str}{k:Nat}{sp:Æ->Sp}(F:Fun K x qual st f fd)(S:j60 N ps (b70 st))(len:∀ s vs H Q E,sp s vs H Q E->vs.length=ps.length)
  (hb:∀ (cdv:Ä) (A:õ) (outer:List Env) (s:Æ) (H:Hp) (vs:List V) (Q:VK) (E:XK),w30 k (A.deeper (Ï0 qual (b70 st) s.heap.objs.size f cdv))->sp s vs H Q E ->
   ∃ t,PSs (B40 CX0 P w K mg base N qual (b70 st) f cdv A outer s H E).nox (i10 st) t/\t { nx:=λ_ H'=>Q .non H',rt:=Q } (start N vs) H):f91 P w K mg base CX0 (k + 1) f fd ps sp:=by
 obtain⟨oc,od,kV,doc,pm,an,cdv,ct,osl,rfl,lk,hcd⟩:=F.ex;refine f02 lk hcd S len λA outer s H vs Q E hr hsp=>?_;obtain⟨t,h,q⟩:=hb cdv A outer s H vs Q E hr hsp;exact⟨t,h.nox,q⟩
def N30(P:Ý)(w:ç)(K:Ã)(mg:Str->Option Ä)(base:é)(N:List Str)(qual:Str)(scope:ø)(f:Ç)(cd:Ä)(cl:List (Str × Ç))(A:õ)(outer:List Env)(s:Æ)(H:Hp)(E:XK):Cx where
 prog:=P
 w:=w
 K:=K
 mg:=mg
 base:=base
 A:=A.deeper (envX qual scope s.heap.objs.size f cd cl)
 N:=N
 s₀:=s
 H₀:=H
 env:=envX qual scope s.heap.objs.size f cd cl
 outer:=outer
 stack:=envX qual scope s.heap.objs.size f cd cl::outer
 ex:=[]
 calm:=true
 fn:=λ_=>false
 pn:=[]
 xe:=λe s'=>Ï (Õ P w) (A.deeper (envX qual scope s.heap.objs.size f cd cl)) (leaving (envX qual scope s.heap.objs.size f cd cl) e) (λ_ s''=>CX1 P w outer H s E e s'') (λe' s''=>CX1 P w outer H s E e' s'') s'
section
variable {P:Ý}{w:ç}{K:Ã}{mg:Str->Option Ä}{base:é}{N:List Str}{qual:Str}{scope:ø}{f:Ç}{cd:Ä}{cl:List (Str × Ç)}{A:õ}{outer:List Env}{s₀:Æ}{H₀:Hp}{E:XK}
theorem R61:Passes (CX1 P w) (N30 P w K mg base N qual scope f cd cl A outer s₀ H₀ E) E:=by
 intro pins σ H s e s' I h;obtain⟨a,cls,a0,H',B,rfl,os,bare,un,hok,fl,na,bB,he⟩:=h;show Ï _ _ (leaving _ _) _ _ _;refine wpAny_leaves_onW I.ok.frames rfl fl λh'' fl' sm=>?_;exact T60 (X:=N30 P w K mg base N qual scope f cd cl A outer s₀ H₀ E) (s':=s') rfl rfl rfl I os bare un hok bB na fl' sm he
structure g01(scope:Scope)(cl:List (Str × Addr))(N:List Str)(vs:List V)(H:Hp)(h:Heap):Prop where
 inj:∀ x y c,cl.lookup x=some c->cl.lookup y=some c->x=y
 has:∀ x,(scope.names.lookup x=some .cell∨scope.names.lookup x=some .free)->∃ c,cl.lookup x=some c
 cell:∀ x c,cl.lookup x=some c->∃ v,h.IsCell c v
 free:∀ x c,cl.lookup x=some c->H c=none
 val:∀ (i:Nat) (x:Str) (v:V),N[i]?=some x->vs[i]?=some v->scope.names.lookup x=some .free/\∃ c u,cl.lookup x=some c/\RelV v u/\h.IsCell c (some u)
 len:vs.length=N.length
theorem R71(e0:P21 P w K mg base A outer s₀ H₀)(hd:A.handled=none)(hk:scope.kind=.function)(FR:g01 scope cl N vs H₀ s₀.heap)(hns:h₁.Ns s₀.heap.objs.size λ_=>none)
  (hkp:∀ b o,s₀.heap.get? b=some o->h₁.get? b=some o) :
  Inv (N30 P w K mg base N qual scope f cd cl A outer s₀ H₀ E) [] (vs.map some) H₀ { s₀ with heap:=h₁,toks:=t }:=by
 have noA:∀ b:Ç,b ∉ (N30 P w K mg base N qual scope f cd cl A outer s₀ H₀ E).ex:=λb z=>absurd (show b∈([]:List Ç) from z) (by simp)
 have cel:∀ c v,s₀.heap.IsCell c v->h₁.IsCell c v:=λc v ⟨o,ho,hd⟩=>⟨o,hkp c o ho,hd⟩;refine⟨⟨e0.mod,hk,rfl,rfl,Ë _,FR.inj,FR.has,(λ_ _ z=>nomatch z),(λ_=>hd),Þ9 e0.frames,.inr ⟨rfl,rfl⟩,λb z=>absurd z (noA b),e0.bs,e0.bsz,λb _ _=>noA b,λb z=>absurd z (noA b),e0.e21,e0.frf⟩,
  rfl,e0.bare,Un.kept hkp,⟨_,hns,λi x v h1 h2 h3=>?_⟩,λx c h=>?_,e0.hok.fresh (Ë _),FR.free,λp hp=>absurd (show p∈([]:List (Ç × Obj)) from hp) (by simp),e0.hok.kept hkp,?_⟩
 ·have hv:vs[i]?=some v:=by
   rw[Ö] at h2;cases e:vs[i]? with
   |none=>rw[e] at h2;cases h2
   |some a=>rw[e] at h2;cases h2;rfl
  obtain⟨k,c,u,ec,r,z⟩:=FR.val i x v h1 hv;exact⟨u,r,.inr ⟨.inr k,c,ec,cel c _ z⟩⟩
 ·obtain⟨v,z⟩:=FR.cell x c h;exact⟨v,cel c v z⟩
 ·rw[Ì];exact FR.len
end
def recAt(c:Ç)(qual:Str):é->Prop:=λh=>h.CodeRec (.ref c) qual
theorem C50{c:Ç}{qual:Str}{h1 h2:é}(h:recAt c qual h1)(k:∀ o,h1.get? c=some o->h2.get? c=some o):recAt c qual h2:=by
 obtain⟨c',oc,vs,tq,e,ho,hd,hq⟩:=h;cases e;exact⟨c,oc,vs,tq,rfl,k _ ho,hd,hq⟩
section
variable {P:Ý}{w:ç}{K:Ã}{mg:Str->Option Ä}{base:é}{N:List Str}{qual:Str}{scope:ø}{f c':Ç}{cl:List (Str × Ç)}{s₀:Æ}{H₀:Hp}{k:Nat}{pm ctv cls:Ä}{params:Í7}{body:Ò}{vs:List V}
theorem g01.later{outer:List Env}{H:Hp}{s:Æ}(FR:g01 scope cl N vs H₀ s₀.heap)(un:Un (frs outer) [] H₀ H s₀.heap s.heap):g01 scope cl N vs H s.heap:=by
 have cel:∀ x c v,cl.lookup x=some c->s₀.heap.IsCell c v->s.heap.IsCell c v:=λx c v e ⟨o,ho,hd⟩=>by
  obtain⟨sl,e1⟩:=un.any ho (FR.free x c e) (by simp)
  exact⟨_,e1,hd⟩
 refine⟨FR.inj,FR.has,λx c e=>?_,λx c e=>?_,λi x v h1 h2=>?_,FR.len⟩
 ·obtain⟨v,z⟩:=FR.cell x c e;exact⟨v,cel x c v e z⟩
 ·obtain⟨v,o,ho,_⟩:=FR.cell x c e;exact un.free c o ho (FR.free x c e) (by simp)
 ·obtain⟨k,c,u,ec,r,z⟩:=FR.val i x v h1 h2;exact⟨k,c,u,ec,r,cel x c _ ec z⟩
end
def Tab(H:Hp)(P:Ç)(qual:Str):Prop:=∃ ps:Array Ä,H P=some (.tbl ps)/\Ý7 ps.toList/\∀ pos c,Ø9 pos ps.toList=some c->∃ c',c=.ref c'/\H c'=some (.ext (recAt c' qual))
theorem g11{line col:Int}{pos':Pos}{c c2:Ä}(tl:List Ä)(h:Ý7 tl)(e:Ø9 pos' (tl++[Ã3 line,Ã3 col,c])=some c2):c2=c∨Ø9 pos' tl=some c2:=by
 fun_induction Ý7 tl with
 |case1 =>
  simp only[Ô1,Ø9,Ã3] at e;split at e
  ·cases e;exact .inl rfl
  ·cases e
 |case2 a t b u x rest ih =>
  simp only[List.cons_append,Ø9] at e ⊢;split at e
  ·rename_i hc;rw[if_pos hc];exact .inr e
  ·rename_i hc;rw[if_neg hc];exact ih h e
 |case3 tl h1 h2=>exact h.elim
theorem E21(hf:∀ y∈lsc.names,y.2=.free->∃ c,env.cells.lookup y.1=some c):∃ cl,closureFor lsc env=pure cl/\(∀ x c,cl.lookup x=some c->env.cells.lookup x=some c)/\∀ y∈lsc.names,y.2=.free->∃ c,cl.lookup y.1=some c:=by
 obtain⟨cl,e,h1,_,h3⟩:=F30 env lsc.names [] hf (λx c z=>by simp at z)
 refine⟨cl,?_,h1,h3⟩;unfold closureFor
 first
  |(rw[show(forIn lsc.names ([]:List (Str × Ç)) _:Sem _)=_ from e];rfl)
  |(simp only[bind_pure];exact e)
structure G60(P:Addr)(H H':Hp):Prop where
 same:∀ b o,b≠P->H b=some o->H' b=some o
section
variable {X:Cx}{pins:List (Ç × Obj)}{σ:St}{H:Hp}{s:Æ}{c P:Ç}{qual:Str}{params:Í7}{body:Ò}{lsc:ø}{lpos:Pos}{A:õ}{Q:Ä->Æ->Prop}{E:Ä->Æ->Prop}
theorem E31(I:Inv X pins σ H s)(hdef:defaultsOf params X.env=([],[]))(hcode:X.env.code=.ref c)(hhd:Å3 X.K c P=true)(TB:Tab H P qual)(hqu:X.env.qual++"<lambda>"=qual)
  (hbm:∃ bm ob,X.mg "__builtins__"=some (.ref bm)/\bm≠Í3/\X.base.get? bm=some ob/\ob.cls=.type "module"/\ob.dict=some Í3/\ob.data=.plain)
  (hfr:∀ y∈lsc.names,y.2=.free->∃ c,X.env.cells.lookup y.1=some c)
  (k:∀ (cl:List (Str × Ç)) (f c':Ç) (pm ctv:Ä) (h2:é) (tk:Tok) (H2:Hp),(∀ x c,cl.lookup x=some c->X.env.cells.lookup x=some c)->(∀ y∈lsc.names,y.2=.free->∃ c,cl.lookup y.1=some c) ->
   Inv X pins σ H2 { s with heap:=h2,toks:=tk }->Tab H2 P qual->G60 P H H2->(∃ o,h2.get? f=some o/\o.data=.func (kla_fn "<lambda>" qual params body lsc cl pm (.ref c') ctv))->H2 f=none->H2 c'=some (.ext (recAt c' qual))->s.heap.objs.size<=f ->
   Q (.ref f) { s with heap:=h2,toks:=tk }):Ï (Õ X.prog X.w) A (eval (.Lambda params body lsc lpos) X.env) Q E s:=by
 refine PySem.W.kla_eval hdef ?_;rw[hqu];obtain⟨cl,ecl,cl1,cl2⟩:=E21 hfr;obtain⟨ps,hP,ht,hall⟩:=TB;have hPt:s.heap.get? P=some (È3 ps):=I.hok P _ hP;have hg:=I.mod.glob.keeps I.bk;have bsN:∀ b o,X.base.get? b=some o->b≠P:=λb o e z=>by have:=(I.bs b o e).2;rw[z,hP] at this;cases this
 have hgP:æ≠P:=by obtain⟨o,_,_,e,_⟩:=I.mod.glob;exact bsN _ o e
 obtain⟨bm,ob,b1,b2,b3,b4,b5,b6⟩:=hbm;have hbGl:bm≠mainGlobals:=λq=>by
  obtain⟨o,es,ep,e,hd,_⟩:=I.mod.glob;rw[q,e] at b3;(cases b3;rw[hd] at b6;cases b6)
 have BA:s.heap.BuiltinsAt X.mg P:=⟨bm,ob,b1,b2,hbGl,bsN _ _ b3,I.bk _ _ b3,b4,b5,b6⟩;have CH:=codeHd_of_K I.kIn hhd;cases hca:Ø9 lpos ps.toList with
 |some cv =>
  obtain⟨c',rfl,hc'⟩:=hall lpos cv hca;refine PySem.W.kla_makeFunctionHit ecl I.ok.glob hg hcode CH hPt ht hca BA λctv h' tk hk hsz=>?_;have kp:∀ b o,s.heap.get? b=some o->(h'.push { cls:=.type "function",data:=.func (kla_fn "<lambda>" qual params body lsc cl ((X.mg "__name__").getD .none) (.ref c') ctv) }).get? b=some o:=λb o e=>Â _ (hk b o e);have nf:H h'.objs.size=none:=I.hok.fresh hsz;exact k cl h'.objs.size c' _ ctv _ tk H cl1 cl2 (I.kept (t':=tk) kp) ⟨ps,hP,ht,hall⟩ ⟨λ_ _ _ e=>e⟩ ⟨_,É _ rfl,rfl⟩ nf hc' hsz
 |none =>
  refine PySem.W.kla_makeFunction ecl I.ok.glob hg hcode CH hPt ht hca hgP BA λc' ctv h' tk hx hge hlt hrec htb=>?_;have lP:P < s.heap.objs.size:=Û hPt;have cP:c'≠P:=Ç4 (Ú lP hge);have nC:H c'=none:=I.hok.fresh hge;have kp:∀ b o,b≠P->s.heap.get? b=some o->(h'.push (kla_obj "<lambda>" qual params body lsc cl ((X.mg "__name__").getD .none) c' ctv)).get? b=some o:=λb o hb e=>Â _ (hx b o hb e);have tb:(h'.push (kla_obj "<lambda>" qual params body lsc cl ((X.mg "__name__").getD .none) c' ctv)).get? P=some (È3 (ps++#[Ã3 lpos.line,Ã3 lpos.col,.ref c'])):=Â _ htb;have rc:recAt c' qual (h'.push (kla_obj "<lambda>" qual params body lsc cl ((X.mg "__name__").getD .none) c' ctv)):=C50 hrec λo q=>Â _ q;have h2P:upd (upd H P (.tbl (ps++#[Ã3 lpos.line,Ã3 lpos.col,.ref c']))) c' (.ext (recAt c' qual)) P=some (.tbl (ps++#[Ã3 lpos.line,Ã3 lpos.col,.ref c'])):=by rw[a10 cP.symm];exact a60
  have oth:∀ b,b≠P->b≠c'->upd (upd H P (.tbl (ps++#[Ã3 lpos.line,Ã3 lpos.col,.ref c']))) c' (.ext (recAt c' qual)) b=H b:=λb h1 h2=>by rw[a10 h2,a10 h1]
  have neC:∀ b o,H b=some o->b≠c':=λb o e=>a80 e nC;have I2:Inv X pins σ (upd (upd H P (.tbl (ps++#[Ã3 lpos.line,Ã3 lpos.col,.ref c']))) c' (.ext (recAt c' qual))) { s with heap:=h'.push (kla_obj "<lambda>" qual params body lsc cl ((X.mg "__name__").getD .none) c' ctv),toks:=tk }:=by
   have nP:∀ b,H b=none->b≠P:=λb n z=>by rw[z,hP] at n;cases n
   refine I.step (g':=s.gens) (d':=s.drawn) (ch:=[]) (λb hb=>absurd hb (by simp)) (λb o _ _ _ e n=>kp b o (nP b n) e) (λb o _ _ _ e n=>⟨o.slots,kp b o (nP b n) e⟩) (λb o _ e n=>?_) (λb o _ e=>?_) (λb xs e=>?_) (λb o u e=>?_) (λb qs e=>?_) (λm hm=>?_) (λb u e=>?_) I.bare
   ·rw[oth b (nP b n) (Ô (Ú (Û e) hge))];exact n
   ·by_cases hb:b=P
    ·subst hb;exact⟨_,tb⟩
    ·exact⟨o,kp b o hb e⟩
   ·rw[oth b (λz=>by rw[z,hP] at e;cases e) (neC b _ e)];exact e
   ·rw[oth b (λz=>by rw[z,hP] at e;cases e) (neC b _ e)];exact e
   ·by_cases hb:b=P
    ·subst hb;rw[hP] at e;cases e;exact⟨_,h2P⟩
    ·exact⟨#[],by rw[oth b hb (neC b _ e),e];simp⟩
   ·obtain⟨o,es,ep,ho,r⟩:=hm;exact⟨o,es,ep,kp _ o (nP _ I.free) ho,r⟩
   ·by_cases hbc:b=c'
    ·subst hbc;rw[a60] at e;cases e;obtain⟨_,oc,_,_,e1,e2,_⟩:=id rc;cases e1;exact⟨rc,⟨oc,e2⟩,λh1 h2 p kk=>C50 p kk⟩
    ·by_cases hb:b=P
     ·subst hb;rw[h2P] at e;cases e;exact tb
     ·rw[oth b hb hbc] at e;refine(I.hok b u e).e11 (λb2 u2 hb2 q=>kp b2 u2 (λz=>?_) q) (λb2 q=>?_) λb2 xs q=>?_
      ·rcases hb2 with y | y
       ·exact hb (y.symm.trans z)
       ·rw[z,hP] at y;cases y
      ·rw[oth b2 (λz=>by rw[z,hP] at q;cases q) (neC b2 _ q)];exact q
      ·rw[oth b2 (λz=>by rw[z,hP] at q;cases q) (neC b2 _ q)];exact q
  have lf:s.heap.objs.size<=h'.objs.size:=Ç9 (Ê3 hge hlt);refine k cl h'.objs.size c' _ ctv _ tk _ cl1 cl2 I2 ⟨_,h2P,?_,λpos cc e=>?_⟩ ⟨λb o hb e=>by rw[oth b hb (neC b _ e)];exact e⟩ ⟨_,É _ rfl,rfl⟩ ?_ a60 lf
  ·rw[Array.toList_append];exact TriplesOk_snoc _ _ _ _ ht
  ·rw[Array.toList_append] at e;rcases g11 _ ht e with z | z
   ·exact⟨c',z,a60⟩
   ·obtain⟨c2,rfl,hc2⟩:=hall pos cc z;exact⟨c2,rfl,by rw[oth c2 (λy=>by rw[y,hP] at hc2;cases hc2) (neC c2 _ hc2)];exact hc2⟩
  ·rw[oth _ (Ç4 (Ú lP lf)) (Ç4 hlt)];exact I.hok.fresh lf
end
def BMain(mg:Str->Option Ä)(h:é):Prop:=∃ bm ob,mg "__builtins__"=some (.ref bm)/\bm≠Í3/\h.get? bm=some ob/\ob.cls=.type "module"/\ob.dict=some Í3/\ob.data=.plain
theorem f12{P:Ý}{w:ç}{X:Cx}:Passes (CX1 P w) X (λ_ _ _=>False):=λ_ _ _ _ _ _ _ h=>by
 obtain⟨_,_,_,_,_,_,_,_,_,_,_,_,_,e⟩:=h;exact e.elim
theorem Tab.same{H H':Hp}{P:Ç}{q:Str}(t:Tab H P q)(s:a30 H H'):Tab H' P q:=by
 obtain⟨ps,e,tr,h⟩:=t;refine⟨ps,s _ _ e,tr,λpos c hc=>?_⟩;obtain⟨c',e1,e2⟩:=h pos c hc;exact⟨c',e1,s _ _ e2⟩
def FnL(P:Ý)(w:ç)(H₀:Hp)(s₀:Æ)(f:Ç)(fd:Å9):Prop:=∀ (outer:List Env) (s:Æ) (H:Hp),Un (frs outer) [] H₀ H s₀.heap s.heap->a30 H₀ H->HOk P w H s.heap->∃ c d sl,s.heap.get? f=some ⟨c,d,.func fd,sl⟩
theorem FnL.new{P:Ý}{w:ç}{H₀:Hp}{s₀:Æ}{f:Ç}{fd:Å9}(ho:∃ o,s₀.heap.get? f=some o/\o.data=.func fd)(nf:H₀ f=none):FnL P w H₀ s₀ f fd:=λouter s H un _ _=>by
 obtain⟨⟨c,d,dt,sl⟩,e,hd⟩:=ho;have hd:dt=.func fd:=hd;subst hd;obtain⟨sl,h⟩:=un.any e nf (by simp)
 exact⟨_,_,sl,h⟩
structure N40(P:Program)(w:World)(K:PySem.W.Frag)(mg:Str->Option Value)(base:Heap)(k:Nat)(f:Addr)(H₀:Hp)(s₀:Shared)(cls:Value)(RR:Hp->Prop):Prop where
 fn:∃ fd,FnL P w H₀ s₀ f fd
 run:∀ (A:Around) (outer:List Env) (s:Shared) (H:Hp),w30 k A->P21 P w K mg base A outer s H->Un (frs outer) [] H₀ H s₀.heap s.heap->a30 H₀ H ->
  codeAny (model P w) A (.call (.ref f) ⟨[],[]⟩) (CR (CX1 P w) outer P w H s (λ_ _=>False) λc _ H'=>c=cls/\RR H') s
def t02(X:Cx)(i j:Nat)(f C:Ç)(RR:Hp->Prop):TS:=λD σ H=>σ[i]?=some (some (.ref f))/\a30 X.H₀ H/\∀ a H',RR H'->H' a=none->D.nx (σ.set j (some (.ref a))) (upd H' a (.ext (excAt a C)))
section
variable {X:Cx}{k i j:Nat}{f C D:Ç}{x y z n:Str}{p1 p2 p3 p4 p5 p6 p7 p8 p9:Pos}
theorem o21(hx0:X.ex=[])(hS:X.stack=X.env::X.outer)(hf:X.env.frame=some X.env.locals)(hr:w30 k X.A)(th:N40 X.prog X.w X.K X.mg X.base k f X.H₀ X.s₀ (.ref C) RR)
  (hy:X.N[i]?=some y) (vy:Vis X.env.scope y) (dy:(y == ("__debug__":Str))=false) (cy:(y == ("__classdict__":Str))=false)
  (hg:Gl X x) (hm:X.mg x=some (.ref D)) (dx:(x == ("__debug__":Str))=false) (he:PySem.W.exmOne X.K (.ref C) (.ref D)=some true)
  (hn:X.env.kindOf n=some .local) (nN:n ∉ X.N) (dn:(n == ("__debug__":Str))=false) (hN:X.N.Nodup) (hz:X.N[j]?=some z) (lz:Loc X.env.scope z) (hfn:X.fn z=true) :
  PS X (.Try [.Expr (.Call (.Name y p1) [] [] p2) p3] [.ExceptHandler (some (.Name x p4)) (some n) [.Assign [.Name z p5] (.Name n p6) p7] p8] [] [] p9) (t02 X i j f C RR):=by
 intro pins s σ H Dd I h;obtain⟨eσ,sH,q⟩:=h;have U0:Un (frs X.stack) [] X.H₀ H X.s₀.heap s.heap:=by
  have u:=I.base;rw[hx0] at u;exact u.mono (λb hb=>by rw[hS];unfold frs;rw[þ,hf];exact È _ hb) λb hb=>hb
 obtain⟨fd,hfd⟩:=th.fn;obtain⟨c0,d0,sl,hof⟩:=hfd X.stack s H U0 sH I.hok;have hkind:(X.env.scope.kind == .class || (X.env.scope.kind == .module&&X.env.locals != X.env.globals))=false:=by rw[I.ok.kind];rfl
 refine wpAny_Try_except (Ô4 ?_);refine wpAny_Expr_any ?_ I.quiet rfl;refine Ë5 ?_;have ld:∀ {Q:Ä->Æ->Prop}{E:Ä->Æ->Prop},Q (.ref f) s->Ï (Õ X.prog X.w) X.A (eval (.Name y p1) X.env) Q E s:=λ{Q E} hq=>by
  obtain⟨m,hnm,hl⟩:=I.loc;obtain⟨u,r,l⟩:=hl i y _ hy eσ vy;cases (show u=ð f from r);rcases l with ⟨hk,hv⟩ | ⟨hk,c,hc,hcell⟩
  ·exact Ñ1 (Ø3 I.ok.kind hk hnm hv hq) dy
  ·rcases hk with hk | hk
   ·exact Ñ1 (wpAny_loadName_cell I.ok.kind hk hc hcell hq) dy
   ·exact Ñ1 (wpAny_loadName_free I.ok.kind hk hc hcell hq cy) dy
 refine ld ?_;refine PySem.W.callWith_of (P:=λh=>h.get? f=some ⟨c0,d0,.func fd,sl⟩) rfl (λh e=>⟨.frame,.inl rfl,?_⟩) (evalArgs_nil3 ⟨hof,?_⟩)
 ·exact(PySem.W.Looks.ld (part:=none) e).andThen .now
 refine Ñ0 (Æ2 (th.run X.A X.stack s H hr I.r72 U0 sH) λr s1 hq=>?_);cases r with
 |ok fl =>
  cases fl with
  |ret u=>obtain⟨_,_,_,_,_,_,_,z⟩:=hq;exact z.elim
  |next=>exact À3 hq
  |brk=>exact À3 hq|cont=>exact À3 hq
 |error e =>
  obtain⟨a,cls,a0,H1,B,rfl,os1,bare1,un,hok,fl,na,bB,rfl,s1H⟩:=hq;have nA:s.heap.get? a=none:=by
   cases ea:s.heap.get? a with
   |none=>rfl
   |some o =>
    exfalso;obtain⟨oe,vs,hoe,_,hde,_⟩:=fl.first;by_cases hb:a∈frs X.stack
    ·obtain⟨sl',e1⟩:=un.slot a o ea (I.s80 a hb) hb (by simp)
     obtain⟨_,o',ho',hd'⟩:=I.stack.mem hb;rw[ea] at ho';cases ho';rw[hoe] at e1;cases e1;exact hd' vs hde
    ·have:=bB a oe hoe hb (.inl ⟨o,ea⟩);rw[fl.2.1] at this;cases this
  have n0:X.s₀.heap.get? a=none:=by
   cases ea:X.s₀.heap.get? a with
   |none=>rfl
   |some o =>
    obtain⟨o',e1⟩:=U0.there a o ea (by simp)
    rw[nA] at e1;cases e1
  have aL:a≠X.env.locals:=λz=>by
   obtain⟨m,⟨o,_,_,ho,_⟩,_⟩:=I.loc;rw[z,ho] at nA;cases nA
  have aC:∀ x c,X.env.cells.lookup x=some c->c≠a:=λx c e z=>by
   obtain⟨v,o,ho,_⟩:=I.cell x c e;rw[z,nA] at ho;cases ho
  have aP:∀ p∈X.pn++pins,p.1≠a:=λp hp z=>by
   have:=(I.pin p hp).1;rw[z,nA] at this;cases this
  refine wpAny_looks_onW (I.ok.frames.trans (by rw[hS])) hf (by rw[← hS];exact fl) λh2 held2 sm2=>?_
  refine wpAny_landsW held2 λh3 fl3 sm3=>?_;have I3:Inv X pins σ H1 { s1 with heap:=h3 }:=L01 I os1 bare1 un hok bB fl3.1 (sm2.trans sm3);have at3:excAt a C h3:=by obtain⟨oe,e1,e2⟩:=fl3.there;exact⟨oe,e1,e2⟩
  refine wpAny_handleBy_cons (codeAny_handlers_test ?_) (λz=>nomatch z);refine Î4 I3.ok.kind hg (Þ2 (by rw[I3.ok.glob];exact I3.mod.glob.keeps I3.bk) hm ?_) dx
  refine(PySem.W.exm_one (h:=h3) I3.kIn at3.ty he).here ?_;refine codeAny_handlers_suite_as (lands_againW fl3 λh4 fl4 sm4=>?_);have I4:Inv X pins σ H1 { s1 with heap:=h4 }:=L01 I os1 bare1 un hok bB fl4.1 ((sm2.trans sm3).trans sm4);have at4:excAt a C h4:=by obtain⟨oe,e1,e2⟩:=fl4.there;exact⟨oe,e1,e2⟩
  obtain⟨m4,hn4,hl4⟩:=id I4.loc;refine wpAny_storeName_local hn hn4 (λh5 hn5 hs5=>?_) hkind;have offN:∀ (i:Nat) (x:Str),X.N[i]?=some x->x≠n:=λi x e z=>nN (by rw[← z];exact å e)
  have I5:Inv X pins σ H1 { s1 with heap:=h5,toks:=s1.toks + 1 }:=Inv.o11 (s:={ s1 with heap:=h4 }) I4 hl4 hn5 hs5 λi x e=>if_neg (offN i x e);refine Ô4 (wpAny_Assign_Name ?_ rfl);refine Ñ1 (Ø3 I.ok.kind hn hn5 (if_pos rfl) ?_) dn;refine x30 (v:=.ref a) I5 hN hz lz rfl (λs6 I6 hsame=>?_) (.inl hfn);refine Õ7 ?_;show Ï _ _ (do bindName X.env n .none;unbindBehindTheSuite X.env n p8) _ _ _;obtain⟨m6,hn6,hl6⟩:=id I6.loc;refine wpAny_nameGoes_keeps hn hn6 hkind λh7 v7 hn7 hs7=>?_;have I7:=Inv.o11 (t':=s6.toks + 1) I6 hl6 hn7 hs7 λi x e=>if_neg (offN i x e);have at7:excAt a C h7:=by
   obtain⟨oe,e1,e2⟩:=at4;obtain⟨b6,hb6,hor⟩:=hsame;have e5:h5.get? a=some oe:=(hs5.2 a aL).trans e1;have e6:s6.heap.get? a=some oe:=(hb6.2 a (λz=>by
    rcases hor with y | y
    ·exact aL (z.trans y)
    ·exact aC _ _ y z.symm)).trans e5
   exact⟨oe,(hs7.2 a aL).trans e6,e2⟩
  have nT:H1 a=none:=na;have I8:=Inv.e92 (T:=a) (o:=.ext (excAt a C)) I7 nT n0 aL aC aP ⟨at7,by obtain⟨oe,e1,_⟩:=at7;exact⟨oe,e1⟩,λh1 h2 p kk=>f71 p kk⟩
  exact⟨_,_,I8,q a H1 s1H na⟩
end
section
variable {P:Ý}{w:ç}{K:Ã}{mg:Str->Option Ä}{base:é}{N:List Str}{qual:Str}{scope:ø}{f c':Ç}{cl:List (Str × Ç)}{s₀:Æ}{H₀:Hp}{k:Nat}{pm ctv cls:Ä}{params:Í7}{body:Ò}{vs:List V}
theorem g21{RR:Hp->Prop}(hf:FnL P w H₀ s₀ f (kla_fn "<lambda>" qual params body scope cl pm (.ref c') ctv))(hc:H₀ c'=some (.ext (recAt c' qual)))
  (hk:scope.kind=.function) (hco:scope.isCoroutine=false) (hgen:scope.isGenerator=false) (hcell:∀ x∈scope.names,x.2≠.cell)
  (hb:bindArgs (kla_fn "<lambda>" qual params body scope cl pm (.ref c') ctv) ⟨[],[]⟩=pure []) (FR:g01 scope cl N vs H₀ s₀.heap)
  (hbody:∀ (A:õ) (outer:List Env) (s:Æ) (H:Hp),w30 k (A.deeper (envX qual scope s.heap.objs.size f (.ref c') cl))->a30 H₀ H ->
   ∃ t,PE (N30 P w K mg base N qual scope f (.ref c') cl A outer s H λc _ H'=>c=cls/\RR H') body t/\t (vs.map some) H λ_ _=>False) :
  N40 P w K mg base (k + 1) f H₀ s₀ cls RR:=by
 refine⟨⟨_,hf⟩,λA outer s H hr e0 un sm=>?_⟩;obtain⟨c0,d0,sl,hof⟩:=hf outer s H un sm e0.hok;have hrec:s.heap.CodeRec (.ref c') qual:=(e0.hok c' _ (sm _ _ hc)).1;have lim:s.heap.NoLimit:=e0.mod.nolimit.keeps λb o e=>(e0.bs b o e).1;refine PySem.W.kla_callFunE hr.depth hof rfl hco hgen rfl hrec ?_;rw[hb];refine Å (wpAny_newFunctionEnv hcell (λy hy=>absurd hy (by simp)) (λh₁ hns hsb=>⟨lim.fresh _ hsb,?_⟩) hk)
 show Ì3 _ _ (.expr body (envX qual scope s.heap.objs.size f (.ref c') cl)) _ _;have hkeep1:∀ b o,s.heap.get? b=some o->h₁.get? b=some o:=λb o e=>hsb.extBut b o (Ô (Û e)) (Â _ e);obtain⟨t,ht,hq⟩:=hbody A outer s H (hr.deeper _) sm;have I:Inv (N30 P w K mg base N qual scope f (.ref c') cl A outer s H λc _ H'=>c=cls/\RR H') [] (vs.map some) H { s with heap:=h₁,toks:=s.toks + 0 }:=R71 e0 hr.hd hk (FR.later un) hns hkeep1;refine PySem.W.kla_codeExpr (Â7 (ht [] _ _ H _ I hq) (λv s' hv=>?_) λe s' he=>he);obtain⟨_,_,_,_,z⟩:=hv;exact z.elim
end
def t12(X:Cx)(P:Ç)(qual:Str)(N:List Str)(lsc:ø)(body:Ò)(k:Nat)(cls:Ä)(RR:Hp->Hp->Prop)(sp:Æ->Sp):TE:=λσ H Q=>Tab H P qual/\∃ vs:List V,vs.length=N.length /\
 (∀ (i:Nat) (x:Str) (v:V),N[i]?=some x->vs[i]?=some v->∃ j:Nat,X.N[j]?=some x/\σ[j]?=some (some v)) /\
 ∀ H2,G60 P H H2->Tab H2 P qual ->
  (∀ (f c':Ç) (cl:List (Str × Ç)) (A:õ) (outer:List Env) (s:Æ) (H3:Hp),w30 k (A.deeper (envX qual lsc s.heap.objs.size f (.ref c') cl))->a30 H2 H3 ->
   ∃ t,PE (N30 X.prog X.w X.K X.mg X.base N qual lsc f (.ref c') cl A outer s H3 λc _ H'=>c=cls/\RR H2 H') body t/\t (vs.map some) H3 λ_ _=>False) /\
  ∀ (s2:Æ) (f:Ç),N40 X.prog X.w X.K X.mg X.base (k + 1) f H2 s2 cls (RR H2)->sp s2 [.ref f] H2 Q λ_ _ _=>False
section
variable {X:Cx}{c P f:Ç}{fd:Å9}{qual g par:Str}{N:List Str}{params:Í7}{body:Ò}{lsc:ø}{lpos p pos:Pos}{k kr:Nat}{cls:Ä}{sp:Æ->Sp}
theorem T70{RR:Hp->Hp->Prop}(F:f91 X.prog X.w X.K X.mg X.base CX0 kr f fd [par] sp)(hr:w30 kr X.A)(hg:Gl X g)(hm:X.mg g=some (.ref f))(hk:Ó3 X.K (.ref f)=true)(hb:Binds X.K fd [par] [])
  (hcode:X.env.code=.ref c) (hhd:Å3 X.K c P=true) (hqu:X.env.qual++"<lambda>"=qual)
  (hbm:∃ bm ob,X.mg "__builtins__"=some (.ref bm)/\bm≠Í3/\X.base.get? bm=some ob/\ob.cls=.type "module"/\ob.dict=some Í3/\ob.data=.plain)
  (hfr:∀ y∈lsc.names,y.2=.free->X.env.kindOf y.1=some .cell) (hnc:∀ y∈lsc.names,y.2≠.cell) (hNf:∀ x∈N,lsc.names.lookup x=some .free)
  (lk:lsc.kind=.function) (lco:lsc.isCoroutine=false) (lge:lsc.isGenerator=false) (hdef:defaultsOf params X.env=([],[]))
  (hbd:∀ (cl:List (Str × Ç)) (pm ctv:Ä) (c':Ç),bindArgs (kla_fn "<lambda>" qual params body lsc cl pm (.ref c') ctv) ⟨[],[]⟩=pure [])
  (hdb:(g == ("__debug__":Str))=false:=by decide) (he:ü [.Lambda params body lsc lpos] X.env=[(false,eval (.Lambda params body lsc lpos) X.env)]:=by rfl) :
  PE X (.Call (.Name g p) [.Lambda params body lsc lpos] [] pos) (t12 X P qual N lsc body k cls RR sp):=by
 intro pins s σ H Q I h;obtain⟨TB,vs,hlen,hvs,q⟩:=h;refine Ë5 (E40 I hg hm ?_ hdb);refine callWith_K (h₀:=X.base) I.ok.mod.kin hk ?_ he rfl;rw[he];refine Ö9 (E31 I hdef hcode hhd TB hqu hbm (λy hy hf=>I.ok.has y.1 (.inl (hfr y hy hf))) λcl f' c' pm ctv h2 tk H2 cl1 cl2 I2 TB2 KB ho nf hc _=>?_);have FR:g01 lsc cl N vs H2 h2:=by
  refine⟨λx y c e1 e2=>I2.ok.inj x y c (cl1 x c e1) (cl1 y c e2),λx hx=>?_,λx c e=>I2.cell x c (cl1 x c e),λx c e=>I2.freeC x c (cl1 x c e),λi x v h1 h2=>?_,hlen⟩
  ·rcases hx with hx | hx
   ·exact absurd rfl (hnc _ (Â0 hx))
   ·exact cl2 _ (Â0 hx) rfl
  ·have hf:=hNf x (å h1);have mem:=Â0 hf;have kc:X.env.kindOf x=some .cell:=hfr _ mem rfl;obtain⟨j,e1,e2⟩:=hvs i x v h1 h2;obtain⟨m,_,hl⟩:=I2.loc;obtain⟨u,r,l⟩:=hl j x v e1 e2 (Ù0 (Ò1 kc));obtain⟨c2,ec2⟩:=cl2 _ mem rfl;refine⟨hf,c2,u,ec2,r,?_⟩;rcases l with ⟨kl,_⟩ | ⟨_,c3,ec3,z⟩
   ·rw[kc] at kl;cases kl
   ·have:=cl1 _ _ ec2;rw[ec3] at this;cases this;exact z
 obtain⟨q1,q2⟩:=q H2 KB TB2;have th:N40 X.prog X.w X.K X.mg X.base (k + 1) f' H2 { s with heap:=h2,toks:=tk } cls (RR H2):=g21 (s₀:={ s with heap:=h2,toks:=tk }) (.new ho nf) hc lk lco lge hnc (hbd cl pm ctv c') FR λA outer s H3 hr sm=>q1 f' c' cl A outer s H3 hr sm;refine Ð2 ⟨I2.kIn,?_⟩;have hsp:=q2 { s with heap:=h2,toks:=tk } f' th;refine Ñ0 (Æ2 (F.run X.A X.stack { s with heap:=h2,toks:=tk } H2 ⟨[.ref f'],[]⟩ [.ref f'] [.ref f'] Q _ hr I2.r72 (hb _ [.ref f'] I2.kIn rfl) (.cons rfl .nil) hsp) λr s' hq=>?_);cases r with
 |error e=>exact À3 hq
 |ok fl =>
  cases fl with
  |ret u=>exact I2.after hq|next=>exact À3 hq
  |brk=>exact À3 hq|cont=>exact À3 hq
end
abbrev p32:List Str:=["_law_call","_law_error","_law_marks"]
abbrev f22:Scope:={ kind:=.function,names:=[(".0",.local),("_law_k",.local),("_law_marks",.free)],isGenerator:=false,isCoroutine:=false,more:=[] }
abbrev r00:Scope:={ kind:=.function,names:=[("_law_call",.local),("_law_error",.local),("e",.local),("_law_marks",.cell),("ChanceError",.globalImplicit),("isinstance",.globalImplicit),("NoWeb",.globalImplicit),("NoLot",.globalImplicit),("NoPlaces",.globalImplicit),("NoPlace",.globalImplicit),("NoTie",.globalImplicit),("NoChance",.globalImplicit),("NoChances",.globalImplicit),("NoPaper",.globalImplicit),("TooMany",.globalImplicit),("NoText",.globalImplicit),("NoLine",.globalImplicit),("NoDeed",.globalImplicit),("ValueError",.globalImplicit),("range",.globalImplicit)],isGenerator:=false,isCoroutine:=false,more:=[("fast",.str "_law_call"),("fast",.str "_law_error"),("fast",.str "e"),("fast",.str "_law_marks"),("fast",.str "_law_k")] }
def T80(n:Nat):List Stmt:=[.Assign [(.Name "_law_error" ⟨n,4,n,14⟩)] (.Constant .none 0 ⟨n,17,n,21⟩) ⟨n,4,n,21⟩,
   .Try [.Expr (.Call (.Name "_law_call" ⟨n + 2,8,n + 2,17⟩) [] [] ⟨n + 2,8,n + 2,19⟩) ⟨n + 2,8,n + 2,19⟩] [.ExceptHandler (some (.Name "ChanceError" ⟨n + 3,11,n + 3,22⟩)) (some "e") [.Assign [(.Name "_law_error" ⟨n + 4,8,n + 4,18⟩)] (.Name "e" ⟨n + 4,21,n + 4,22⟩) ⟨n + 4,8,n + 4,22⟩] ⟨n + 3,4,n + 4,22⟩] [] [] ⟨n + 1,4,n + 4,22⟩,
   .Assign [(.Name "_law_marks" ⟨n + 5,4,n + 5,14⟩)] (.List [(.Call (.Name "isinstance" ⟨n + 5,18,n + 5,28⟩) [(.Name "_law_error" ⟨n + 5,29,n + 5,39⟩),(.Name "NoWeb" ⟨n + 5,41,n + 5,46⟩)] [] ⟨n + 5,18,n + 5,47⟩),(.Call (.Name "isinstance" ⟨n + 5,49,n + 5,59⟩) [(.Name "_law_error" ⟨n + 5,60,n + 5,70⟩),(.Name "NoLot" ⟨n + 5,72,n + 5,77⟩)] [] ⟨n + 5,49,n + 5,78⟩),(.Call (.Name "isinstance" ⟨n + 5,80,n + 5,90⟩) [(.Name "_law_error" ⟨n + 5,91,n + 5,101⟩),(.Name "NoPlaces" ⟨n + 5,103,n + 5,111⟩)] [] ⟨n + 5,80,n + 5,112⟩)] ⟨n + 5,17,n + 5,113⟩) ⟨n + 5,4,n + 5,113⟩,
   .Assign [(.Name "_law_marks" ⟨n + 6,4,n + 6,14⟩)] (.BinOp (.Name "_law_marks" ⟨n + 6,17,n + 6,27⟩) .Add (.List [(.Call (.Name "isinstance" ⟨n + 6,31,n + 6,41⟩) [(.Name "_law_error" ⟨n + 6,42,n + 6,52⟩),(.Name "NoPlace" ⟨n + 6,54,n + 6,61⟩)] [] ⟨n + 6,31,n + 6,62⟩),(.Call (.Name "isinstance" ⟨n + 6,64,n + 6,74⟩) [(.Name "_law_error" ⟨n + 6,75,n + 6,85⟩),(.Name "NoTie" ⟨n + 6,87,n + 6,92⟩)] [] ⟨n + 6,64,n + 6,93⟩),(.Call (.Name "isinstance" ⟨n + 6,95,n + 6,105⟩) [(.Name "_law_error" ⟨n + 6,106,n + 6,116⟩),(.Name "NoChance" ⟨n + 6,118,n + 6,126⟩)] [] ⟨n + 6,95,n + 6,127⟩)] ⟨n + 6,30,n + 6,128⟩) ⟨n + 6,17,n + 6,128⟩) ⟨n + 6,4,n + 6,128⟩,
   .Assign [(.Name "_law_marks" ⟨n + 7,4,n + 7,14⟩)] (.BinOp (.Name "_law_marks" ⟨n + 7,17,n + 7,27⟩) .Add (.List [(.Call (.Name "isinstance" ⟨n + 7,31,n + 7,41⟩) [(.Name "_law_error" ⟨n + 7,42,n + 7,52⟩),(.Name "NoChances" ⟨n + 7,54,n + 7,63⟩)] [] ⟨n + 7,31,n + 7,64⟩),(.Call (.Name "isinstance" ⟨n + 7,66,n + 7,76⟩) [(.Name "_law_error" ⟨n + 7,77,n + 7,87⟩),(.Name "NoPaper" ⟨n + 7,89,n + 7,96⟩)] [] ⟨n + 7,66,n + 7,97⟩),(.Call (.Name "isinstance" ⟨n + 7,99,n + 7,109⟩) [(.Name "_law_error" ⟨n + 7,110,n + 7,120⟩),(.Name "TooMany" ⟨n + 7,122,n + 7,129⟩)] [] ⟨n + 7,99,n + 7,130⟩)] ⟨n + 7,30,n + 7,131⟩) ⟨n + 7,17,n + 7,131⟩) ⟨n + 7,4,n + 7,131⟩,
   .Assign [(.Name "_law_marks" ⟨n + 8,4,n + 8,14⟩)] (.BinOp (.Name "_law_marks" ⟨n + 8,17,n + 8,27⟩) .Add (.List [(.Call (.Name "isinstance" ⟨n + 8,31,n + 8,41⟩) [(.Name "_law_error" ⟨n + 8,42,n + 8,52⟩),(.Name "NoText" ⟨n + 8,54,n + 8,60⟩)] [] ⟨n + 8,31,n + 8,61⟩),(.Call (.Name "isinstance" ⟨n + 8,63,n + 8,73⟩) [(.Name "_law_error" ⟨n + 8,74,n + 8,84⟩),(.Name "NoLine" ⟨n + 8,86,n + 8,92⟩)] [] ⟨n + 8,63,n + 8,93⟩),(.Call (.Name "isinstance" ⟨n + 8,95,n + 8,105⟩) [(.Name "_law_error" ⟨n + 8,106,n + 8,116⟩),(.Name "NoDeed" ⟨n + 8,118,n + 8,124⟩)] [] ⟨n + 8,95,n + 8,125⟩)] ⟨n + 8,30,n + 8,126⟩) ⟨n + 8,17,n + 8,126⟩) ⟨n + 8,4,n + 8,126⟩,
   .If (.UnaryOp .Not (.Call (.Name "isinstance" ⟨n + 9,11,n + 9,21⟩) [(.Name "_law_error" ⟨n + 9,22,n + 9,32⟩),(.Name "ValueError" ⟨n + 9,34,n + 9,44⟩)] [] ⟨n + 9,11,n + 9,45⟩) ⟨n + 9,7,n + 9,45⟩) [.Return (some (.Constant .none 0 ⟨n + 10,15,n + 10,19⟩)) ⟨n + 10,8,n + 10,19⟩] [] ⟨n + 9,4,n + 10,19⟩,
   .Return (some (.ListComp (.Name "_law_k" ⟨n + 11,12,n + 11,18⟩) [{ target:=(.Name "_law_k" ⟨n + 11,23,n + 11,29⟩),iter:=(.Call (.Name "range" ⟨n + 11,33,n + 11,38⟩) [(.Constant (.int 12) 0 ⟨n + 11,39,n + 11,41⟩)] [] ⟨n + 11,33,n + 11,42⟩),ifs:=[(.Subscript (.Name "_law_marks" ⟨n + 11,46,n + 11,56⟩) (.Name "_law_k" ⟨n + 11,57,n + 11,63⟩) ⟨n + 11,46,n + 11,64⟩)],is_async:=0 }] f22 ⟨n + 11,11,n + 11,65⟩)) ⟨n + 11,4,n + 11,65⟩]
theorem f32:n21 f22 r00 p32 ["_law_k"] [("_law_marks",2)]=true:=by decide +kernel
theorem E41(K:Ã)(hK:X.K=K:=by rfl):IxR X (B22 K):=by subst hK;exact T00
abbrev names12:List Str:=["NoWeb","NoLot","NoPlaces","NoPlace","NoTie","NoChance","NoChances","NoPaper","TooMany","NoText","NoLine","NoDeed"]
structure N50(K:PySem.W.Frag)(mg:Str->Option Value)(C:Addr)(j:Nat):Prop where
 cl:∀ (i:Nat) (x:Str),names12[i]?=some x->∃ Ci,mg x=some (.ref Ci)/\PySem.W.kitOne K (.ref C) (.ref Ci)=some (decide (i=j))
 lk:i20 K C
 hd:PySem.W.hasDictIn K C=true
 ve:PySem.W.kitOne K (.ref C) (.type "ValueError")=some true
 nv:mg "ValueError"=none
 ce:∃ D,mg "ChanceError"=some (.ref D)/\PySem.W.exmOne K (.ref C) (.ref D)=some true
 lt:j < 12
theorem N60:í "ValueError"=some (.type "ValueError"):=by decide +kernel
theorem G70:í "isinstance"=some (.builtin "isinstance"):=by decide +kernel
def R81(P:Ý)(w:ç)(K:Ã)(mg:Str->Option Ä)(base:é)(k:Nat):Æ->Sp:=λs vs H Q _=>∃ (f C:Ç) (j:Nat) (RR:Hp->Prop),vs=[.ref f]/\N40 P w K mg base k f H s (.ref C) RR/\N50 K mg C j/\∀ l H1 H',RR H1->a30 H1 H'->H' l=none->Q (.ref l) (upd H' l (.lst [.int j]))
abbrev y30(j:Nat):List V:=[V.bl (decide (0=j)),.bl (decide (1=j)),.bl (decide (2=j))]++[.bl (decide (3=j)),.bl (decide (4=j)),.bl (decide (5=j))]++[.bl (decide (6=j)),.bl (decide (7=j)),.bl (decide (8=j))]++[.bl (decide (9=j)),.bl (decide (10=j)),.bl (decide (11=j))]
theorem E51{i j:Nat}(h:i < 12):atI (y30 j) (0 + (i:Int))=some (.bl (decide (i=j))):=by
 rw[Int.zero_add];refine F00 ?_;rw[show y30 j=(ì 12).map λi=>V.bl (decide (i=j)) from rfl,Ö,Ö5 h];rfl
section
variable {P:Ý}{w:ç}{K:Ã}{mg:Str->Option Ä}{base:é}
theorem scR:j60 p32 ["_law_call"] r00:=⟨rfl,rfl,rfl,by decide +kernel,rfl,by decide +kernel,by decide +kernel⟩
theorem ndR:(d60 ["_law_k"] [("_law_marks",2)]).Nodup:=by decide +kernel
def tIs(K:Ã)(c:V)(cv:Ä):TE:=λσ H Q=>∃ (a C:Ç) (b:Bool),σ[1]?=some (some (.ref a))/\e82 H a C/\i20 K C/\PySem.W.hasDictIn K C=true/\Í4 K (.ref C) cv=some b/\Q (.bl b) H
def G52(K:Ã)(c0 c1 c2:Ç):TE:=λσ H Q=>∃ (a C:Ç) (b0 b1 b2:Bool),σ[1]?=some (some (.ref a))/\e82 H a C/\i20 K C/\PySem.W.hasDictIn K C=true/\Í4 K (.ref C) (.ref c0)=some b0/\Í4 K (.ref C) (.ref c1)=some b1/\Í4 K (.ref C) (.ref c2)=some b2/\∀ l,H l=none->Q (.ref l) (upd H l (.lst [.bl b0,.bl b1,.bl b2]))
section
variable {X:Cx}{c0 c1 c2:Ç}{x x0 x1 x2:Str}{p p0 p1 p2 p3 q0 q1 q2 q3 r0 r1 r2 r3:Pos}
theorem E61(hN:X.N[1]?=some ("_law_error":Str))(hv:Vis X.env.scope "_law_error")(hi:Gl X "isinstance")(Ti:X.mg "isinstance"=none)(hc:PE X (.Name x p2) (tC c))(hcv:(∃ C,c=.ref C/\cv=.ref C)∨∃ T,c=.ty T/\cv=.type T):PE X (.Call (.Name "isinstance" p0) [.Name "_law_error" p1,.Name x p2] [] p3) (tIs X.K c cv) :=
 λpins s σ H Q I q=>by
  obtain⟨a,C,b,e,h1,h2,h3,h4,h5⟩:=q;have g:=q40 (p:=p0) (pos:=p3) f81 hi Ti G70 (d20 (k20 (i:=1) (pos:=p1) hN hv) (d20 hc k40));exact g pins s σ H Q I ⟨_,e,a,C,_,_,b,rfl,hcv,h1,h2,h3,h4,h5⟩
theorem Y70(hN:X.N[1]?=some ("_law_error":Str))(hv:Vis X.env.scope "_law_error")(hi:Gl X "isinstance")(Ti:X.mg "isinstance"=none)(g0:PE X (.Name x0 p2) (tC (.ref c0)))(g1:PE X (.Name x1 q2) (tC (.ref c1)))(g2:PE X (.Name x2 r2) (tC (.ref c2))) :
  PE X (.List [.Call (.Name "isinstance" p0) [.Name "_law_error" p1,.Name x0 p2] [] p3,.Call (.Name "isinstance" q0) [.Name "_law_error" q1,.Name x1 q2] [] q3,.Call (.Name "isinstance" r0) [.Name "_law_error" r1,.Name x2 r2] [] r3] p) (G52 X.K c0 c1 c2) :=
 λpins s σ H Q I q=>by
  obtain⟨a,C,b0,b1,b2,e,h1,h2,h3,k0,k1,k2,h5⟩:=q;exact k61 (d20 (E61 hN hv hi Ti g0 (.inl ⟨c0,rfl,rfl⟩)) (d20 (E61 hN hv hi Ti g1 (.inl ⟨c1,rfl,rfl⟩)) (d20 (E61 hN hv hi Ti g2 (.inl ⟨c2,rfl,rfl⟩)) k40))) pins s σ H Q I
   ⟨a,C,b0,e,h1,h2,h3,k0,a,C,b1,e,h1,h2,h3,k1,a,C,b2,e,h1,h2,h3,k2,y10 (by show 3<=64;decide),h5⟩
end
theorem f42{st:Ã8}{f:Ç}{fd:Å9}{k n:Nat}(F:Fun K "_law_refused" "_law_refused" st f fd)(es:b70 st=r00)(eb:i10 st=T80 n)(Ti:mg "isinstance"=none)(Tr:mg "range"=none):f91 P w K mg base CX0 (k + 1) f fd ["_law_call"] (R81 P w K mg base k):=by
 refine F.okS (by rw[es];exact scR) (λs vs H Q E h=>?_) (λcdv A outer s H vs Q E hr h=>?_)
 ·obtain⟨f,C,j,RR,rfl,_⟩:=h;rfl
 ·obtain⟨g,C,j,RR,rfl,th,R,q⟩:=h;have hsc:=f32;rw[es] at hr;rw[es,eb];unfold T80;clear eb;obtain⟨c0,m0,k0⟩:=R.cl 0 _ rfl;obtain⟨c1,m1,k1⟩:=R.cl 1 _ rfl;obtain⟨c2,m2,k2⟩:=R.cl 2 _ rfl;obtain⟨c3,m3,k3⟩:=R.cl 3 _ rfl;obtain⟨c4,m4,k4⟩:=R.cl 4 _ rfl;obtain⟨c5,m5,k5⟩:=R.cl 5 _ rfl;obtain⟨c6,m6,k6⟩:=R.cl 6 _ rfl;obtain⟨c7,m7,k7⟩:=R.cl 7 _ rfl;obtain⟨c8,m8,k8⟩:=R.cl 8 _ rfl;obtain⟨c9,m9,k9⟩:=R.cl 9 _ rfl;obtain⟨c10,m10,k10⟩:=R.cl 10 _ rfl;obtain⟨c11,m11,k11⟩:=R.cl 11 _ rfl;obtain⟨D,mD,kD⟩:=R.ce;refine⟨_,f90 (q30 (i:=1) scR.nd rfl (Ò1 rfl) j51)
   (f90 (o21 (i:=0) (j:=1) (f:=g) (C:=C) (D:=D) (k:=k) rfl rfl rfl hr th rfl (Ò1 rfl) (-0) (-0) rfl mD (-0) kD rfl (by show ¬ (("e":Str)∈p32);decide +kernel) (-0) scR.nd rfl (Ò1 rfl) rfl)
   (f90 (q30 (i:=2) scR.nd rfl (Ù0 rfl) (Y70 rfl (Ò1 rfl) rfl Ti (f10 rfl m0 rfl) (f10 rfl m1 rfl) (f10 rfl m2 rfl)))
   (f90 (q30 (i:=2) scR.nd rfl (Ù0 rfl) (B31 l31 (pv 2) (Y70 rfl (Ò1 rfl) rfl Ti (f10 rfl m3 rfl) (f10 rfl m4 rfl) (f10 rfl m5 rfl))))
   (f90 (q30 (i:=2) scR.nd rfl (Ù0 rfl) (B31 l31 (pv 2) (Y70 rfl (Ò1 rfl) rfl Ti (f10 rfl m6 rfl) (f10 rfl m7 rfl) (f10 rfl m8 rfl))))
   (f90 (q30 (i:=2) scR.nd rfl (Ù0 rfl) (B31 l31 (pv 2) (Y70 rfl (Ò1 rfl) rfl Ti (f10 rfl m9 rfl) (f10 rfl m10 rfl) (f10 rfl m11 rfl))))
   (f90 (c12 (K11 (j61 (E61 (cv:=.type "ValueError") rfl (Ò1 rfl) rfl Ti (E50 (v:=.ty "ValueError") rfl R.nv N60 rfl) (.inr ⟨_,rfl,rfl⟩)))) (E60 (L30 j51)) j71)
   (E60 (L30 (T20 (own:=["_law_k"]) (capt:=[("_law_marks",2)]) rfl (by exact q60.of (scX:=r00) (N:=p32) rfl rfl hsc) (L40 rfl Tr (d20 L10 k40))
    (λcl C s H fp=>S80 (i:=0) ndR rfl (Ò1 rfl)) (λcl C s H fp=>l91 (j61 (P81 (E41 K) (pv 1) (pv 0) (λ_ _=>rfl)))) (λcl C s H fp=>pv 0)))))))))),?_⟩
  refine⟨rfl,a30.refl H,λa H1 s1 na=>?_⟩;have hX:e82 (upd H1 a (.ext (excAt a C))) a C:=a60;have keep:∀ {H'},a30 (upd H1 a (.ext (excAt a C))) H'->e82 H' a C:=λsm=>sm _ _ hX;refine⟨a,C,_,_,_,rfl,hX,R.lk,R.hd,k0,k1,k2,λl1 hl1=>?_⟩;have t1:=a30.new (.lst [.bl (decide (0=j)),.bl (decide (1=j)),.bl (decide (2=j))]) hl1;refine⟨_,rfl,a,C,_,_,_,rfl,keep t1,R.lk,R.hd,k3,k4,k5,λl2 hl2=>?_⟩;have t2:=a30.new (.lst [.bl (decide (3=j)),.bl (decide (4=j)),.bl (decide (5=j))]) hl2;refine⟨l1,l2,_,_,rfl,rfl,t2 _ _ a60,a60,y10 (by show 3 + 3<=64;decide),λl3 hl3=>?_⟩
  have t3:=t1.trans (t2.trans (a30.new (.lst ([.bl (decide (0=j)),.bl (decide (1=j)),.bl (decide (2=j))]++[.bl (decide (3=j)),.bl (decide (4=j)),.bl (decide (5=j))])) hl3));refine⟨_,rfl,a,C,_,_,_,rfl,keep t3,R.lk,R.hd,k6,k7,k8,λl4 hl4=>?_⟩;have t4:=a30.new (.lst [.bl (decide (6=j)),.bl (decide (7=j)),.bl (decide (8=j))]) hl4;refine⟨l3,l4,_,_,rfl,rfl,t4 _ _ a60,a60,y10 (by show 6 + 3<=64;decide),λl5 hl5=>?_⟩
  have t5:=t3.trans (t4.trans (a30.new (.lst ([.bl (decide (0=j)),.bl (decide (1=j)),.bl (decide (2=j))]++[.bl (decide (3=j)),.bl (decide (4=j)),.bl (decide (5=j))]++[.bl (decide (6=j)),.bl (decide (7=j)),.bl (decide (8=j))])) hl5));refine⟨_,rfl,a,C,_,_,_,rfl,keep t5,R.lk,R.hd,k9,k10,k11,λl6 hl6=>?_⟩;have t6:=a30.new (.lst [.bl (decide (9=j)),.bl (decide (10=j)),.bl (decide (11=j))]) hl6;refine⟨l5,l6,_,_,rfl,rfl,t6 _ _ a60,a60,y10 (by show 9 + 3<=64;decide),λl7 hl7=>?_⟩
  have t7:=t5.trans (t6.trans (a30.new (.lst (y30 j)) hl7));refine⟨a,C,_,rfl,keep t7,R.lk,R.hd,R.ve,_,rfl,F92 ?_⟩;refine⟨12,rfl,by decide,by decide,D41 (lo:=0) (n:=12) (λi ys H'=>a30 (upd H1 a (.ext (excAt a C))) H'/\H' l7=some (.lst (y30 j))/\ys=if j < i then [.int j] else []) (y10 (-0)) ⟨t7,a60,by rw[if_neg ∅]⟩ (λi ys H' p=>by rw[p.2.2];split <;> simp <;> omega) ?_ ?_⟩
  ·rintro i ys H' hi ⟨s8,h8,rfl⟩;refine gN ?_;refine⟨_,rfl,_,rfl,l7,y30 j,0 + (i:Int),.bl (decide (i=j)),rfl,rfl,SqL.of h8,E51 hi,_,rfl,?_⟩;refine G02 (λe=>?_) (λe=>?_)
   ·have ej:i=j:=of_decide_eq_true e;subst ej;refine⟨_,rfl,s8,h8,?_⟩;rw[if_neg ∅,if_pos ∅,Int.zero_add];rfl
   ·have ej:¬ i=j:=λz=>e (decide_eq_true z);refine⟨s8,h8,?_⟩;by_cases hj:j < i
    ·rw[if_pos hj,if_pos ∅]
    ·rw[if_neg hj,if_neg ∅]
  ·rintro ys H' p ⟨s8,_,rfl⟩ hp;rw[if_pos R.lt];exact q p H1 H' s1 ((a30.new _ na).trans s8) hp
end
def g31(kvs:List (Key × V))(k:Key):Option V:=(kvs.find? λkv=>decide (kv.1=k)).map (·.2)
theorem G80{a k:Key}{v:V}{r:List (Key × V)}:g31 ((a,v)::r) k=if a=k then some v else g31 r k:=by
 unfold g31;rw[List.find?_cons];by_cases h:a=k
 ·simp[h]
 ·simp[h]
theorem L11:∀ {kvs:List (Key × V)}{ws:List (Key × Ä)}{k:Key},KV kvs ws->(∀ v,g31 kvs k=some v->∃ u,Û8 ws k=some u/\RelV v u)/\(g31 kvs k=none->Û8 ws k=none)
 |_,_,_,.nil=>⟨λv h=>(by cases h),λ_=>rfl⟩
 |(a,v)::r,(b,u)::q,k,.cons ⟨e,hr⟩ t=>by
  have e:a=b:=e;subst e;have ih:=L11 (k:=k) t;rw[G80];have hv:Û8 ((a,u)::q) k=if a=k then some u else Û8 q k:=by
   unfold Û8;rw[List.find?_cons];by_cases h:a=k
   ·simp[h]
   ·simp[h]
  rw[hv];by_cases h:a=k
  ·rw[if_pos h,if_pos h];exact⟨λw e=>(by cases e;exact⟨u,rfl,hr⟩),λe=>(by cases e)⟩
  ·rw[if_neg h,if_neg h];exact ih
theorem Y80{α β:Type}{R:α->β->Prop}:∀ {a:List α}{b:List β}{c:List α}{d:List β},Ä1 R a b->Ä1 R c d->Ä1 R (a++c) (b++d)
 |_,_,_,_,.nil,h=>h|_,_,_,_,.cons r t,h=>.cons r (Y80 t h)
theorem stored_new{ws:List (Key × Ä)}{k:Key}{w:Ä}(h:Û8 ws k=none):stored ws k w=ws++[(k,w)]:=by
 unfold stored;rw[if_neg];intro hh;obtain⟨p,h1,h2⟩:=List.any_eq_true.mp hh;unfold Û8 at h;rw[Option.map_eq_none_iff,List.find?_eq_none] at h;exact h p h1 h2
section
variable {X:Cx}
def f52:V->List V->Hp->VK->Prop:=λx vs H Q=>∃ d kvs i y,x=.ref d/\vs=[.int i,y]/\H d=some (.dK kvs)/\kvs.length < sizeLine/\(∀ v,g31 kvs (.inl i)=some v->Q v H)/\(g31 kvs (.inl i)=none->Q y (upd H d (.dK (kvs++[(.inl i,y)]))))
theorem R91:MtR X "dict.setdefault" f52:=by
 intro pins s σ H x vs v us Q I rx rv h;obtain⟨d,kvs,i,y,rfl,rfl,hH,hz,q1,q2⟩:=h;cases rx;cases rv with
 |cons ru rv =>
  obtain⟨w,rfl,rw'⟩:=Vals.one rv;obtain⟨t,rfl⟩:=ru;obtain⟨z,hs,ws,kv,dd⟩:kvs.length<=sizeLine/\(d == Ñ2)=false/\∃ vs,KV kvs vs/\s.heap.DictOf (g50 X.prog X.w) d vs:=I.hok d _ hH;have hl:ws.length<=sizeLine:=by rw[← Ï9 kv];exact z
  obtain⟨v1,v2⟩:=L11 (k:=.inl i) kv;refine call_meetsIn Ù7 dd.typeIs PySem.F.entry_dict_setdefault (PySem.F.args_dict_setdefault_3 _ _ _) (kt_meets_setdefault (g50 X.prog X.w) (k:=.inl i) d (by show É9 i (.int i t)=true;simp[É9]) hs w) ⟨ws,dd,hl,λu hu=>?_,λhn h' dd' sb=>?_⟩
  ·cases e:g31 kvs (.inl i) with
   |none=>rw[v2 e] at hu;cases hu
   |some v =>
    obtain⟨u',h1,h2⟩:=v1 v e;rw[hu] at h1;cases h1;exact⟨v,H,I.tok _,h2,q1 v e⟩
  ·cases e:g31 kvs (.inl i) with
   |some v=>obtain⟨u',h1,_⟩:=v1 v e;rw[hn] at h1;cases h1
   |none =>
    rw[stored_new hn] at dd';have new:g60 X.prog X.w (upd H d (.dK (kvs++[(.inl i,y)]))) h' d (.dK (kvs++[(.inl i,y)])):=⟨by rw[À6];exact hz,hs,ws++[(.inl i,w)],Y80 kv (.cons ⟨rfl,rw'⟩ .nil),dd'⟩
    exact⟨y,_,I.write (x:=d) (e:=d) (t':=s.toks + 1) (by rw[hH];trivial) (.inl rfl) (λb u hb e=>(sb.2 b hb).trans e) (by obtain⟨o,_,_,e,_⟩:=dd';exact⟨o,e⟩) new,rw',q2 e⟩
def Itv(d:Ç)(o:Obj)(kvs:List (Key × V)):It :=
 ⟨λi H=>H d=some (.frz o (.dK kvs))/\i < kvs.length,λi H x H'=>H'=H/\∃ k,kvs[i]?=some (k,x),λi H=>H d=some (.frz o (.dK kvs))/\i=kvs.length⟩
theorem Y90{α β:Type}{R:α->β->Prop}:∀ {l:List α}{r:List β}{i:Nat}{b:β},Ä1 R l r->r[i]?=some b->∃ a,l[i]?=some a/\R a b
 |_,_,_,_,.nil,e=>by simp at e|_,_,0,_,.cons h _,e=>by cases e;exact⟨_,rfl,h⟩
 |_,_,i + 1,_,.cons _ t,e=>Y90 (i:=i) t e
theorem L21{pins:List (Ç × Obj)}{σ:St}{H:Hp}{s:Æ}{d:Ç}{o:Obj}{kvs:List (Key × V)}{es:Array DictEntry}{ep:Nat}(I:Inv X pins σ H s)(h:H d=some (.frz o (.dK kvs)))(ho:o.data=.dict es ep):∃ ws,KV kvs ws/\s.heap.DictAt (knd:=g50 X.prog X.w) d ws ep:=by
 obtain⟨e,_,_,ws,kv,o',es',ep',e1,e2,e3,e4⟩:s.heap.get? d=some o/\kvs.length<=sizeLine/\(d == Ñ2)=false/\∃ vs,KV kvs vs/\s.heap.DictOf (g50 X.prog X.w) d vs:=I.hok d _ h;rw[e] at e1;cases e1;rw[ho] at e3;cases e3;exact⟨ws,kv,o,es,e,e2,ho,e4⟩
theorem o31{P:Ý}{w:ç}{K:Ã}{tg:Ò}(d it:Ç)(o:Obj){es:Array DictEntry}{ep n:Nat}(ho:o.data=.dict es ep)(hne:d≠it)(kvs:List (Key × V))(hn:kvs.length=n):Turn P w K tg (Itv d o kvs) [it] it (λi h=>h.IsValIter it d i n ep) where
 mem:=by simp
 obj:=λi h st b hb=>by
  have e:b=it:=by simpa using hb
  subst e;obtain⟨o,e,c,dd⟩:=st;exact⟨o,e,λv z=>by rw[dd] at z;cases z⟩
 keep:=λi h h' ⟨ob,e,r⟩ k=>⟨ob,k it (by simp) ob e,r⟩
 item:=by
  intro X hP hw hK hc i pins s σ H E I hf st hg;subst hP hw hK;obtain⟨hg1,hg2⟩:=hg;obtain⟨ws,kv,da⟩:=L21 I hg1 ho;obtain⟨f0,f1,f2,f3,f4,f5⟩:=hf it (by simp)
  have hwl:ws.length=n:=by rw[← Ï9 kv];exact hn
  subst hwl;have W:=Walks.dictValues (prog:=X.prog) (w:=X.w) (knd:=g50 X.prog X.w) (I.ok.hd hc) it d hne ws ep;refine W.item i s _ _ (by rw[← hn];exact hg2) ⟨st,da⟩ λv h' tk hv st' kk=>?_
  obtain⟨k,hv⟩:=hv;obtain⟨⟨k',x⟩,hx,e1,rx⟩:=Y90 kv hv;have I1:Inv X pins σ H { s with heap:=h',toks:=tk }:=I.turned (λb o hb e=>kk b o (by simpa using hb) e) f0 f1 f3 f4 f5
  obtain⟨ob,e,c,dd⟩:=id st'.1;exact⟨v,rfl,B21 (s:={ s with heap:=h',toks:=tk }) e c dd (-0) ⟨x,H,I1,rx,⟨rfl,k',hx⟩,st'.1,λb hb=>(hf b hb).1⟩⟩
 done:=by
  intro X hP hw hK hc i pins s σ H E I hf st hg;subst hP hw hK;obtain⟨hg1,hg2⟩:=hg;obtain⟨ws,kv,da⟩:=L21 I hg1 ho;obtain⟨f0,f1,f2,f3,f4,f5⟩:=hf it (by simp)
  have hwl:ws.length=n:=by rw[← Ï9 kv];exact hn
  subst hwl;have W:=Walks.dictValues (prog:=X.prog) (w:=X.w) (knd:=g50 X.prog X.w) (I.ok.hd hc) it d hne ws ep;rw[hg2,hn] at st;exact W.done s _ _ ⟨st,da⟩ λh' tk kk=>⟨rfl,I.turned (λb o hb e=>kk b o (by simpa using hb) e) f0 f1 f3 f4 f5⟩
 self:=λA i s Q E st h=>wpAny_pyIter_valiter st h
def t22:V->List V->Hp->VK->Prop:=λx vs H Q=>∃ d kvs,x=.ref d/\vs=[]/\H d=some (.dK kvs)/\∀ a,H a=none->Q (.ref a) (upd H a (.ext λh=>h.IsValuesView a d))
theorem S01:MtR X "dict.values" t22:=by
 intro pins s σ H x vs v us Q I rx rv h;obtain⟨d,kvs,rfl,rfl,hH,q⟩:=h;cases rx;cases rv;obtain⟨z,hs,ws,kv,dd⟩:kvs.length<=sizeLine/\(d == Ñ2)=false/\∃ vs,KV kvs vs/\s.heap.DictOf (g50 X.prog X.w) d vs:=I.hok d _ hH;refine call_meetsIn Ü4 dd.typeIs PySem.F.entry_dict_values (PySem.F.args_dict_values_1 _) (meets_dict_values (g50 X.prog X.w) d hs) ⟨⟨ws,dd⟩,?_⟩;have hn:H s.heap.objs.size=none:=I.hok.fresh (Ë _);refine⟨.ref s.heap.objs.size,_,I.laid (t':=s.toks) (a:=s.heap.objs.size) (o:=.ext λh=>h.IsValuesView s.heap.objs.size d) (λb u e=>Â _ e) (Ë _) ⟨⟨_,É _ rfl,rfl,rfl⟩,⟨_,É _ rfl⟩,λh1 h2 ⟨o,e,r⟩ k=>⟨o,k o e,r⟩⟩,rfl,q _ hn⟩
def t32(i:Nat):TI:=λσ H R=>∃ d kvs,σ[i]?=some (some (.ref d))/\H d=some (.dK kvs)/\∀ o H2,(∀ b u,b≠d->H b=some u->H2 b=some u)->H2 d=some (.frz o (.dK kvs))->R (Itv d o kvs) H2
theorem S11{i:Nat}{g:Str}{p apos cpos:Pos}{tg:Ò}(hv:PE X (.Name g p) (J91 i))(hline:(apos.endLine == cpos.line)=true):PI X tg (.Call (.Attribute (.Name g p) "values" apos) [] [] cpos) (t32 i):=by
 intro pins s σ H R I h;obtain⟨d,kvs,h1,h2,q⟩:=h;refine thn ((d82 Ý0 Ü4 PySem.F.type_dict_values S01 hv rfl hline) pins s σ H (λv H1=>∃ a,v=.ref a/\H a=none/\H1=upd H a (.ext λh=>h.IsValuesView a d)) I ⟨.ref d,h1,.inr (.inr (.inl ⟨rfl,.inl ⟨kvs,h2⟩⟩)),d,kvs,rfl,rfl,h2,λa ha=>⟨a,rfl,ha,rfl⟩⟩) λv s1 ⟨x,H1,I1,r1,a,e1,e2,e3⟩=>?_;subst e1 e3;cases r1;have hda:d≠a:=λz=>by subst z;rw[h2] at e2;cases e2
 have hd1:upd H a (.ext λh=>h.IsValuesView a d) d=some (.dK kvs):=by rw[a10 hda];exact h2
 obtain⟨vw,_⟩:=I1.hok a _ a60;obtain⟨z,hs,ws,kv,o,es,ep,f1,f2,f3,f4⟩:kvs.length<=sizeLine/\(d == Ñ2)=false/\∃ vs,KV kvs vs/\s1.heap.DictOf (g50 X.prog X.w) d vs:=I1.hok d _ hd1;have da:s1.heap.DictAt (g50 X.prog X.w) d ws ep:=⟨o,es,f1,f2,f3,f4⟩;refine wpAny_pyIter_values vw da ?_;have I2:=I1.kept (t':=s1.toks) (h':=s1.heap.push { cls:=.type "dict_valueiterator",data:=.fields #[.ref d,.int 0 0,.int ws.length 0,.int ep 0] }) λb o e=>Â _ e;have I3:=I2.write (x:=d) (e:=d) (o:=.frz o (.dK kvs)) (t':=s1.toks) (h':=s1.heap.push { cls:=.type "dict_valueiterator",data:=.fields #[.ref d,.int 0 0,.int ws.length 0,.int ep 0] }) (by rw[hd1];trivial) (.inl rfl) (λb u _ e=>e) ⟨o,Â _ f1⟩ ⟨Â _ f1,z,hs,ws,kv,o,es,ep,Â _ f1,f2,f3,f4⟩
 have hdl:d < s1.heap.objs.size:=Û f1;refine⟨s1.heap.objs.size,[s1.heap.objs.size],_,Itv d o kvs,_,rfl,I3,o31 d _ o f3 (Ô hdl) kvs (Ï9 kv),⟨_,É _ rfl,rfl,rfl⟩,λb hb=>?_,q o _ (λb u hb e=>?_) a60⟩
 ·have e:b=s1.heap.objs.size:=by simpa using hb
  subst e;refine I1.e31 (Ë _) ?_;rw[a10 (Ç4 hdl)];exact I1.hok.fresh (Ë _)
 ·rw[a10 hb,a10 (λz=>by subst z;rw[e] at e2;cases e2)]
  exact e
end
abbrev GT:=Int × List Int × Ç
def kvG(ts:List GT):List (Key × V):=ts.map λt=>(.inl t.1,.ref t.2.2)
def K90:List (Int × List Int)->Int->Int->List (Int × List Int)
 |[],m,p=>[(m,[p])]|g::r,m,p=>if g.1=m then(g.1,g.2++[p])::r else g::K90 r m p
def N70:List GT->Int->Int->Ç->List GT
 |[],m,p,q=>[(m,[p],q)]|t::r,m,p,q=>if t.1=m then(t.1,t.2.1++[p],t.2.2)::r else t::N70 r m p q
def gsT(ts:List GT):List (Int × List Int):=ts.map λt=>(t.1,t.2.1)
theorem L31:∀ (ts:List GT) (m p:Int) (q:Ç),gsT (N70 ts m p q)=K90 (gsT ts) m p
 |[],_,_,_=>rfl
 |t::r,m,p,q=>by
  unfold N70;show _=K90 ((t.1,t.2.1)::gsT r) m p;unfold K90;by_cases h:t.1=m
  ·rw[if_pos h,if_pos h];rfl
  ·rw[if_neg h,if_neg h];show(t.1,t.2.1)::gsT (N70 r m p q)=_;rw[L31 r m p q]
structure GOk(H:Hp)(ts:List GT):Prop where
 nd:(ts.map λt=>t.2.2).Nodup
 at_:∀ t∈ts,H t.2.2=some (.lst (t.2.1.map V.int))
theorem o41:∀ {ts:List GT}{m p:Int}{q:Ç},g31 (kvG ts) (.inl m)=none->N70 ts m p q=ts++[(m,[p],q)]
 |[],_,_,_,_=>rfl
 |t::r,m,p,q,h=>by
  have h:g31 ((.inl t.1,V.ref t.2.2)::kvG r) (.inl m)=none:=h;rw[G80] at h;unfold N70;by_cases e:t.1=m
  ·rw[if_pos (by rw[e])] at h;cases h
  ·rw[if_neg (λz=>e (Ð6.inj z))] at h;rw[if_neg e,o41 h];rfl
theorem o51{H:Hp}:∀ {ts:List GT}{m p:Int}{q:Ç}{v:V},g31 (kvG ts) (.inl m)=some v->GOk H ts->∃ t∈ts,v=.ref t.2.2/\kvG (N70 ts m p q)=kvG ts/\(N70 ts m p q).map (λt=>t.2.2)=ts.map (λt=>t.2.2)/\GOk (upd H t.2.2 (.lst (t.2.1.map V.int++[.int p]))) (N70 ts m p q)
 |[],_,_,_,_,h,_=>by cases h
 |t::r,m,p,q,v,h,ok=>by
  have h:g31 ((.inl t.1,V.ref t.2.2)::kvG r) (.inl m)=some v:=h;rw[G80] at h;have nd:(t.2.2::r.map λt=>t.2.2).Nodup:=ok.nd;rw[É6] at nd;unfold N70;by_cases e:t.1=m
  ·rw[if_pos (by rw[e])] at h;cases h
   rw[if_pos e];refine⟨t,Ê,rfl,rfl,rfl,ok.nd,λu hu=>?_⟩;rcases Ü.mp hu with rfl | hu
   ·show upd H t.2.2 _ t.2.2=_;rw[a60,Ê5];rfl
   ·rw[a10 (λ(z:u.2.2=t.2.2)=>nd.1 (by rw[← z];exact Ö4 hu))]
    exact ok.at_ u (È _ hu)
  ·rw[if_neg (λz=>e (Ð6.inj z))] at h;rw[if_neg e];obtain⟨u,h1,h2,h3,h4,h5⟩:=o51 (p:=p) (q:=q) h ⟨nd.2,λu hu=>ok.at_ u (È _ hu)⟩;refine⟨u,È _ h1,h2,?_,?_,?_,λw hw=>?_⟩
   ·show _::kvG (N70 r m p q)=_;rw[h3];rfl
   ·rw[Â2,h4];rfl
   ·rw[Â2,h4];exact ok.nd
   ·rcases Ü.mp hw with rfl | hw
    ·rw[a10 (λ(z:w.2.2=u.2.2)=>nd.1 (by rw[z];exact Ö4 h1))]
     exact ok.at_ _ Ê
    ·exact h5.at_ w hw
structure GI(Hb:Hp)(d:Addr)(ts:List GT)(H:Hp):Prop where
 dic:H d=some (.dK (kvG ts))
 ok:GOk H ts
 new:∀ t∈ts,Hb t.2.2=none
 old:∀ b u,b≠d->Hb b=some u->H b=some u
section
variable {X:Cx}
abbrev t42(K:Ã)(i j k:Nat):TE:=tBM K "list" l21 (tBM K "dict" f52 (J91 i) (k51 (J91 k) (k51 (B12 d32) d32))) (k51 (J91 j) d32)
theorem S21{Hb H:Hp}{d:Ç}{ts:List GT}{σ:St}{i j k:Nat}{m p:Int}{Q:VK}(g:GI Hb d ts H)(hi:σ[i]?=some (some (.ref d)))(hj:σ[j]?=some (some (.int p)))(hk:σ[k]?=some (some (.int m)))
  (z1:ts.length < sizeLine) (z2:∀ t∈ts,t.2.1.length < sizeLine) (h:∀ q H',GI Hb d (N70 ts m p q) H'->Q .non H'):t42 X.K i j k σ H Q:=by
 refine⟨.ref d,hi,.inr (.inr (.inl ⟨rfl,.inl ⟨_,g.dic⟩⟩)),.int m,hk,by show 0<=sizeLine;exact Æ7 _,λq hq=>?_⟩
 have dq:d≠q:=λz=>by have:=g.dic;rw[z,hq] at this;cases this
 have d1:upd H q (.lst []) d=some (.dK (kvG ts)):=by rw[a10 dq];exact g.dic
 have tq:∀ t∈ts,t.2.2≠q:=λt ht z=>by have:=g.ok.at_ t ht;rw[z,hq] at this;cases this
 have td:∀ t∈ts,d≠t.2.2:=λt ht z=>by have:=g.ok.at_ t ht;rw[← z,g.dic] at this;cases this
 have bq:∀ b u,b≠d->Hb b=some u->b≠q:=λb u n e z=>by have:=g.old b u n e;rw[z,hq] at this;cases this
 have ok1:GOk (upd H q (.lst [])) ts:=⟨g.ok.nd,λt ht=>by rw[a10 (tq t ht)];exact g.ok.at_ t ht⟩
 refine⟨d,kvG ts,m,.ref q,rfl,rfl,d1,by unfold kvG;rw[Ì];exact z1,λv hv=>?_,λhv=>?_⟩
 ·obtain⟨t,ht,rfl,h3,h4,h5⟩:=o51 (p:=p) (q:=q) hv ok1;refine⟨.inl ⟨rfl,_,SqL.of (ok1.at_ t ht)⟩,.int p,hj,t.2.2,_,_,rfl,rfl,ok1.at_ t ht,by rw[Ì];exact z2 t ht,h q _ ⟨?_,h5,λw hw=>?_,λb u n e=>?_⟩⟩
  ·rw[a10 (td t ht),h3];exact d1
  ·have:w.2.2∈ts.map λt=>t.2.2:=by rw[← h4];exact Ö4 hw
   obtain⟨y,hy,e⟩:=Þ.mp this;rw[← e];exact g.new y hy
  ·rw[a10 (λz=>by have:=g.new t ht;rw[← z,e] at this;cases this),a10 (bq b u n e)]
   exact g.old b u n e
 ·have l1:upd (upd H q (.lst [])) d (.dK (kvG ts++[(.inl m,.ref q)])) q=some (.lst []):=by rw[a10 dq.symm,a60]
  refine⟨.inl ⟨rfl,_,SqL.of l1⟩,.int p,hj,q,[],_,rfl,rfl,l1,by show 0 < sizeLine;rw[ò];decide,h q _ ?_⟩
  rw[o41 hv];refine⟨?_,⟨?_,λt ht=>?_⟩,λt ht=>?_,λb u n e=>?_⟩
  ·rw[a10 dq,a60];unfold kvG;rw[Ê5];rfl
  ·rw[Ê5,List.nodup_append];refine⟨g.ok.nd,by simp,λa ha b hb=>?_⟩
   have e:b=q:=by simpa using hb
   obtain⟨t,ht,rfl⟩:=Þ.mp ha;rw[e];exact tq t ht
  ·rcases Ã1.mp ht with ht | ht
   ·rw[a10 (tq t ht),a10 (td t ht).symm];exact ok1.at_ t ht
   ·have e:t=(m,[p],q):=by simpa using ht
    subst e;exact a60
  ·rcases Ã1.mp ht with ht | ht
   ·exact g.new t ht
   ·have e:t=(m,[p],q):=by simpa using ht
    subst e;cases e:Hb q with
    |none=>rfl|some u=>have:=g.old q u dq.symm e;rw[hq] at this;cases this
  ·rw[a10 (bq b u n e),a10 n,a10 (bq b u n e)];exact g.old b u n e
structure GE(Hb:Hp)(d:Addr)(o:Obj)(ts:List GT)(n:Nat)(ys:List V)(H:Hp):Prop where
 dic:H d=some (.frz o (.dK (kvG ts)))
 ok:GOk H ts
 old:∀ b u,b≠d->Hb b=some u->H b=some u
 len:ys.length=n
 tup:∀ (i:Nat) (v:V),ys[i]?=some v->∃ a t,v=V.ref a/\ts[i]?=some t/\H a=some (.tup (t.2.1.map V.int))
abbrev B52(K:Ã)(n:Nat):TE:=tCB (λ(xs:List V) (H:Hp) (Q:VK)=>∃ p ys,xs=[V.ref p]/\((SqL K H p ys/\∀ l,H l=none->Q (.ref l) (upd H l (.tup ys)))∨(SqT K H p ys/\Q (.ref p) H))) (k51 (J91 n) d32)
theorem S31{K:Ã}{Hb H:Hp}{d:Ç}{o:Obj}{ts:List GT}{σ0:St}{n:Nat}{Q:VK}(hn:n < σ0.length)(z:ts.length<=sizeLine)(g:GE Hb d o ts 0 [] H)
  (h:∀ ys H1 p,GE Hb d o ts ts.length ys H1->H1 p=none->Q (.ref p) (upd H1 p (.lst ys))):m01 (Itv d o (kvG ts)) σ0 H (E70 n) e91 (B52 K n) Q:=by
 have kl:(kvG ts).length=ts.length:=by unfold kvG;rw[Ì]
 refine⟨λi m ys H=>m=ts.length - i/\i<=ts.length/\GE Hb d o ts i ys H,⟨_,rfl,Æ7 _,g⟩,?_⟩;rintro i m ys H ⟨rfl,hi,g⟩;by_cases e:i=ts.length
 ·subst e;exact .inl ⟨⟨g.dic,kl.symm⟩,λp hp=>h ys H p g hp⟩
 ·have hlt:i < ts.length:=Nat.lt_of_le_of_ne hi e;refine .inr ⟨⟨g.dic,by rw[kl];exact hlt⟩,by rw[g.len];exact Ú hlt z,λzs H'=>GE Hb d o ts (i + 1) zs H',λzs H' q=>⟨ts.length - (i + 1),by omega,rfl,hlt,q⟩,λx H' y=>?_⟩
  obtain⟨rfl,k,hk⟩:=y;have ht:ts[i]?=some ts[i]:=á hlt;have hx:x=.ref ts[i].2.2:=by
   unfold kvG at hk;rw[Ö,ht] at hk;cases hk;rfl
  subst hx;unfold E70 e91;dsimp only;rw[if_pos rfl];have hat:=g.ok.at_ ts[i] (Æ9 hlt);refine⟨_,ã hn,ts[i].2.2,_,rfl,.inl ⟨SqL.of hat,λl hl=>?_⟩⟩;have ne:∀ {b:Ç}{u:HO},H' b=some u->b≠l:=λq z=>by rw[z,hl] at q;cases q
  refine⟨by rw[a10 (ne g.dic)];exact g.dic,⟨g.ok.nd,λt ht=>by rw[a10 (ne (g.ok.at_ t ht))];exact g.ok.at_ t ht⟩,λb u n e=>by rw[a10 (ne (g.old b u n e))];exact g.old b u n e,by rw[À6,g.len];rfl,λj v hv=>?_⟩
  rw[List.getElem?_append] at hv;split at hv
  ·obtain⟨a,t,h1,h2,h3⟩:=g.tup j v hv;exact⟨a,t,h1,h2,by rw[a10 (ne h3)];exact h3⟩
  ·rename_i hj;have hj0:j - ys.length=0:=by
    cases q:j - ys.length with
    |zero=>rfl|succ q'=>rw[q] at hv;simp at hv
   rw[hj0] at hv;cases hv;have:j=i:=by have:=g.len;omega
   subst this;exact⟨l,ts[j],rfl,ht,a60⟩
end
end L2
namespace SS
open PySem
def bts(m:Nat):List Nat:=(ì 8).filter λi=>m.testBit i
def add(m v:Nat):Nat:=m ||| 2 ^ v
def tbl(led:Bool)(m:Nat):SetTable:=if (bts m).length < 5 then⟨7,(bts m).toArray,#[],0,led,0,true⟩ else⟨31,(bts m).toArray,#[],0,led,1,true⟩
def j01(led:Bool)(m v:Nat):SetTable:={ tbl led m with place:=(bts (add m v)).toArray }
def pos(m v:Nat):Nat:=((bts m).filter (· < v)).length
def hs(m:Nat):Array Int:=((bts m).map Int.ofNat).toArray
def full(led:Bool)(m v:Nat):Bool:=if (j01 led m v).tooFull then decide ((j01 led m v).relaid (hs (add m v)) (Ò9 ((bts m).length + 1))=some (tbl led (add m v),(ì ((bts m).length + 1)).toArray)) else decide (j01 led m v=tbl led (add m v))
def chk(led:Bool)(m v:Nat):Bool:=if m.testBit v then decide (add m v=m) else decide (add m v < 256)&&decide ((tbl led m).freeSlot (v:Int)=some (v,false))&&decide ((tbl led m).put v=(j01 led m v,pos m v))&&(j01 led m v).fits ((bts m).length + 1) &&
 decide ((bts m).take (pos m v)++v::(bts m).drop (pos m v)=bts (add m v))&&decide ((bts (add m v)).length=(bts m).length + 1)&&(tbl led (add m v)).fits ((bts m).length + 1)&&full led m v
theorem T90:([true,false].all λled=>(ì 256).all λm=>(tbl led m).fits (bts m).length&&(ì 8).all λv=>chk led m v)=true:=by decide +kernel
theorem y40(led:Bool)(hm:m < 256):(tbl led m).fits (bts m).length=true/\∀ v,v < 8->chk led m v=true:=by
 have h:=Î.mp (Î.mp T90 led (by cases led <;> simp)) m (ö.mpr hm)
 rw[Á] at h;exact⟨h.1,λv hv=>Î.mp h.2 v (ö.mpr hv)⟩
theorem y50:i∈bts m↔i < 8/\m.testBit i=true:=by unfold bts;rw[Ô2,Î8]
abbrev led(w:ç):Bool:=!(w.params.followText "set-order")
def ent(g:Nat->Tok)(m:Nat):Array (Int × Ä):=((bts m).map λ(i:Nat)=>((i:Int),Ç2 i (g i))).toArray
def v90(w:ç)(h:é)(a:Ç)(m:Nat):Prop:=∃ o ep g,h.get? a=some o/\o.ExactSet/\o.data=.set (ent g m) ep (tbl (led w) m)
theorem b40(g:Nat->Tok)(m:Nat):(ent g m).size=(bts m).length:=by unfold ent;simp
theorem S41(g:Nat->Tok)(u:Tok)(hv:m.testBit v=false)(h:(bts m).take (pos m v)++v::(bts m).drop (pos m v)=bts (add m v)):Î3 (ent g m) (pos m v) ((v:Int),Ç2 v u)=ent (λi=>if i=v then u else g i) (add m v):=by
 have hne:∀ i∈bts m,i≠v:=λi hi e=>by subst e;rw[(y50.mp hi).2] at hv;cases hv
 have e1:(bts m).map (λ(i:Nat)=>((i:Int),Ç2 i (g i)))=(bts m).map λ(i:Nat)=>((i:Int),Ç2 i (if i=v then u else g i)):=Ä6 λi hi=>by rw[if_neg (hne i hi)]
 unfold ent;rw[← h,e1];apply Ì0.mp;unfold Î3;simp;exact Ë0 (by simp)
theorem G90(g:Nat->Tok)(m:Nat):(ent g m).map (·.1)=hs m:=by
 unfold ent hs;rw[List.map_toArray,ë];rfl
theorem E71{α:Type}(xs:Array α):((ì xs.size).toArray).filterMap (xs[·]?)=xs:=by
 apply Ì0.mp;rw[Þ8];exact PySem.W.krv_all xs
section
variable {P:Ý}{w:ç}{A:õ}{E:Ä->Æ->Prop}{s:Æ}{a:Ç}{m:Nat}
theorem C60{v:Nat}(h:v < 8):(ý P w).hash (v:Int)=v:=by
 have:∀ v:Nat,v < 8->hashInt (v:Int)=v:=by decide
 exact this v h
theorem elems(g:Nat->Tok)(m:Nat):ElemsOf (ý P w) (ent g m).toList:=λe he=>by
 unfold ent at he;obtain⟨i,hi,rfl⟩:=Þ.mp he;exact⟨⟨i,Ú7 _ _ _ _,(C60 (y50.mp hi).1).symm⟩,rfl⟩
theorem t52(g:Nat->Tok){v:Nat}(u:Tok){led:Bool}(hm:m < 256)(hv:v < 8)(hb:m.testBit v=false):layNew (tbl led m) (ent g m) (v:Int) (.int v u)=(ent (λi=>if i=v then u else g i) (add m v),j01 led m v,false,false):=by
 have h:=(y40 led hm).2 v hv;unfold chk at h;rw[hb,if_neg Ñ] at h;simp only[Á,decide_eq_true_eq] at h;obtain⟨⟨⟨⟨⟨⟨⟨_,h1⟩,h2⟩,h3⟩,h4⟩,h5⟩,_⟩,_⟩:=h;unfold layNew;rw[h1];dsimp only;rw[h2];dsimp only;rw[S41 g u hb h4,b40,h5];unfold À7.orStandIn;rw[h3];rfl
theorem S51(g:Nat->Tok){v:Nat}{led:Bool}(hm:m < 256)(hv:v < 8)(hb:m.testBit v=false)(ht:(j01 led m v).tooFull=true):relayAll (j01 led m v) (ent g (add m v)) (Ò9 (ent g (add m v)).size)=(ent g (add m v),tbl led (add m v),false):=by
 have h:=(y40 led hm).2 v hv;unfold chk at h;rw[hb,if_neg Ñ] at h;simp only[Á,decide_eq_true_eq] at h;obtain⟨⟨⟨⟨⟨⟨⟨_,_⟩,_⟩,_⟩,_⟩,h5⟩,h6⟩,h7⟩:=h;unfold full at h7;rw[if_pos ht,decide_eq_true_eq] at h7;unfold relayAll;rw[G90,b40,h5,h7];dsimp only;have e:((ì ((bts m).length + 1)).toArray).filterMap ((ent g (add m v))[·]?)=ent g (add m v):=by
  have:=E71 (ent g (add m v));rw[b40,h5] at this;exact this
 rw[e,b40,h5,h6];have c:coversAll (ì ((bts m).length + 1)).toArray ((bts m).length + 1)=true:=by
  unfold coversAll;rw[List.isPerm_iff]
 rw[c];rfl
theorem L41(hm:m < 256)(hv:v < 8):add m v < 256:=by
 have h:=(y40 true hm).2 v hv;unfold chk at h;cases hb:m.testBit v with
 |true=>rw[hb,if_pos rfl,decide_eq_true_eq] at h;rw[h];exact hm
 |false =>
  rw[hb,if_neg Ñ] at h;simp only[Á,decide_eq_true_eq] at h;exact h.1.1.1.1.1.1.1
theorem add_same(hm:m < 256)(hv:v < 8)(hb:m.testBit v=true):add m v=m:=by
 have h:=(y40 true hm).2 v hv;unfold chk at h;rw[hb,if_pos rfl,decide_eq_true_eq] at h;exact h
theorem o61{v:Nat}(hm:m < 256)(hv:v < 8)(hS:v90 w s.heap a m)(h:∀ b h',Ç8 a s.heap h'->v90 w h' a (add m v)->Q b { s with heap:=h' }) :
  Ï (Õ P w) A (Û9 a (.int v u) ((ý P w).hash v)) Q E s:=by
 obtain⟨o,ep,g,ho,hex,hd⟩:=hS;have hf:(tbl (led w) m).fits (ent g m).size=true:=by rw[b40];exact(y40 _ hm).1
 have hsz:(bts m).length<=8:=â (É0 _ _) (by simp)
 have hb:(ent g m).size < scanBound:=by rw[b40];unfold scanBound;omega
 have hel:=elems (P:=P) (w:=w) g m;unfold Û9 setAddHashedIn;refine ï (À (Á6 ho hd hf ?_));dsimp only;rw[byScan_of (knd:=ý P w) rfl hb hel];simp only[↓reduceIte];unfold setAddByScan;refine À ?_;refine À (Ë4 ?_);refine À (wpAny_setScan_of (Ú7 _ _ _ _) ho hd hf hel ?_);cases hr:List.findIdx? (λe=>(ý P w).is (v:Int) e.2) (ent g m).toList with
 |some j =>
  dsimp only;obtain⟨hj,hpj,_⟩:=List.findIdx?_eq_some_iff_getElem.mp hr;have hmem:(ent g m).toList[j]∈(ent g m).toList:=Æ9 hj;unfold ent at hmem;obtain⟨i,hi,e⟩:=Þ.mp hmem;rw[show(ent g m).toList[j]=((i:Int),Ç2 i (g i)) from e.symm] at hpj;have hiv:i=v:=by
   have:=(ý P w).inj _ _ _ hpj (Ú7 P w i (g i));omega
  subst hiv;have q:=h false s.heap (Ç8.refl a s.heap) (by rw[add_same hm hv (y50.mp hi).2];exact⟨o,ep,g,ho,hex,hd⟩)
  exact Å (Å q)
 |none =>
  dsimp only;have hbt:m.testBit v=false:=by
   cases hk:m.testBit v with
   |false=>rfl
   |true =>
    have:((v:Int),Ç2 v (g v))∈(ent g m).toList:=Þ.mpr ⟨v,y50.mpr ⟨hv,hk⟩,rfl⟩;have:=List.findIdx?_eq_none_iff.mp hr _ this;rw[Ú7] at this;cases this
  rw[C60 hv,t52 g u hm hv hbt];have hgw:∀ (b:Bool) {s₁:Æ}{Q':Unit->Æ->Prop},Q' () s₁->Ï (Õ P w) A (match b with | true=>rule "set.scan.the-table-gave-way" | false=>pure ()) Q' E s₁:=λb s₁ Q' hq=>by cases b <;> first | exact Å hq | exact Ë4 hq
  dsimp only;refine À (Å ?_);have hpl:(j01 (led w) m v).plain=true:=by unfold j01 tbl;split <;> rfl
  rw[if_pos hpl,hashByValue_scannable 8 rfl];refine À (Å ?_);simp only[plainKind,↓reduceIte];have hk:=(y40 (led w) hm).2 v hv;unfold chk at hk;rw[hbt,if_neg Ñ] at hk;simp only[Á,decide_eq_true_eq] at hk;obtain⟨⟨_,h6⟩,h7⟩:=hk;have hlt:=L41 hm hv;have hsz2:(bts (add m v)).length<=8:=â (É0 _ _) (by simp)
  have hb2:∀ g,(ent g (add m v)).size<=sizeLine:=λg=>by rw[b40,ò];omega
  have get:∀ {h0:é}{o:Obj}{es ep t} (es':Array (Int × Ä)) (t':À7),h0.get? a=some o->o.data=.set es ep t->(h0.update a (Ó5 es' t')).get? a=some { o with data:=.set es' (ep + 1) t' }:=λ{h0 o es ep t} es' t' e1 e2=>by
   have:=Æ3 (Ó5 es' t') e1 (by rw[putSet_of es' t' e2];rfl)
   rw[putSet_of es' t' e2] at this;exact this
  refine À (Ò6 ho hd ?_ (hb2 _));have g1:=get (ent (λi=>if i=v then u else g i) (add m v)) (j01 (led w) m v) ho hd;have sb1:=Â4 s.heap a (Ó5 (ent (λi=>if i=v then u else g i) (add m v)) (j01 (led w) m v));simp only[Bool.not_false,Å5];unfold full at h7;split
  ·rename_i ht;rw[if_pos ht] at h7;rw[S51 _ hm hv hbt ht];dsimp only;refine À (Å ?_);refine À (Ò6 g1 rfl ?_ (hb2 _));exact Å (Å (h _ _ (sb1.trans (Â4 _ a _)) ⟨_,_,_,get _ _ g1 rfl,hex,rfl⟩))
  ·rename_i ht;rw[if_neg ht,decide_eq_true_eq] at h7;exact Å (Å (h _ _ sb1 ⟨_,ep + 1,_,g1,hex,congrArg _ h7⟩))
end
open PySem PySem.W PyProof.Rows
def met(val:Nat->Nat):Nat->Nat
 |0=>0|i + 1=>add (met val i) (val i)
theorem o71(h:∀ i,val i < 8):∀ i,met val i < 256
 |0=>by show(0:Nat) < 256;decide|i + 1=>L41 (o71 h i) (h i)
section
variable {P:Ý}{w:ç}{A:õ}
theorem v90.keep(x:v90 w h a m)(k:∀ o,h.get? a=some o->h'.get? a=some o):v90 w h' a m:=by
 obtain⟨o,ep,g,ho,r⟩:=x;exact⟨o,ep,g,k o ho,r⟩
theorem S61{R:Result->Æ->Prop}{I:Ç}{fp wr:List Ç}{G:Array Ü5->Array Ü5->Prop}{n:Nat}{Pv:Nat->Ä->Prop}{St:Nat->Æ->Prop}(W:WalksS P w A.in1 I fp wr G n Pv St)(S:Ç)(hf:S ∉ fp){val:Nat->Nat}(hv:∀ i,val i < 8)(hp:∀ i v,Pv i v->∃ t,v=.int (val i) t) :
  ∀ (k i:Nat) (s:Æ),i + k=n->St i s->v90 w s.heap S (met val i)->(∀ s',Moved (S::wr) G s s'->v90 w s'.heap S (met val n)->R (.ok (.ret .none)) s')->Ì3 (Õ P w) A (.builtin "set.update.loop" ⟨[.ref S,.ref I],[]⟩) R s:=by
 have hw:S ∉ wr:=λh=>hf (W.sub _ h);intro k
 induction k with
 |zero =>
  intro i s hk st x q;have hk:i=n:=hk;subst hk;refine À0 Ë3 ?_;rw[À4 Å2 _];refine À (m:=Í2 (.ref I)) (W.done s _ _ st λs1 mv=>?_);exact Å (q s1 (mv.mono λb hb=>È _ hb) (x.keep λo=>mv.heap S o hw))
 |succ k ih =>
  intro i s hk st x q;refine À0 Ë3 ?_;rw[À4 Å2 _];refine À (m:=Í2 (.ref I)) (W.item i s _ _ ∅ st λv s1 pv st1 mv=>?_)
  obtain⟨t,rfl⟩:=hp i v pv;refine À (m:=Ø8 _ (setAdd S (.int (val i) t))) (ï ?_);unfold setAdd;refine ï (À ((ý P w).pyHash (k:=(val i:Int)) (Ú7 _ _ _ _) ?_));refine o61 (s:={ s1 with toks:=s1.toks + 1 }) (o71 hv i) (hv i) (x.keep λo=>mv.heap S o hw) λb h2 sb x2=>?_;have off:∀ c o,c≠S->s1.heap.get? c=some o->h2.get? c=some o:=λc o hc e=>(sb.2 c hc).trans e;refine Å ⟨Ê7 Å2 _,ih (i + 1) _ ∅ (W.frame _ s1 _ _ st1 (le_succ _) λc hc o e=>off c o (λz=>hf (z ▸ hc)) e) x2 λs2 mv2 x3=>?_⟩
  exact q s2 (Moved.trans W.gtrans ((mv.mono λb hb=>È _ hb).then_heap (le_succ _) λc o hc e=>off c o (λz=>hc (z ▸ Ê)) e) mv2) x3
end
section
variable {P:Ý}{w:ç}{A:õ}{E:Ä->Æ->Prop}{s:Æ}
abbrev L00(w:ç):Obj:={ cls:=.type "set",dict:=none,data:=.set #[] 0 (.fresh 0 0 (led w)) }
theorem o81(a:Ä)(h:Q (.ref s.heap.objs.size) { s with heap:=s.heap.push (L00 w) }):Ì3 (Õ P w) A (.call (.builtin "set.__new__") ⟨[.type "set",a],[]⟩) (wants Q E) s:=by
 refine Ö2 ?_;refine À (m:=Ô7 _ _) (Þ0 (F.newCall_set_1 a) (Å ⟨Ê7 F.plain_set_new _,À0 F.entry_set_new ?_⟩));rw[À4 F.plain_set_new _];have hsub:=sub_set_self;obtain⟨hp,g,d,tk,os⟩:=s;unfold û.«set.__new__» û.Frozenset.newClass;dsimp only
 wp_walk
 refine Í1 (Å ?_);dsimp only;simp only[newObj];exact À (wpAny_alloc (Å (Å h)))
theorem S71{h:é}:v90 w (h.push (L00 w)) h.objs.size 0:=⟨_,0,λ_=>0,É _ rfl,⟨rfl,rfl,rfl⟩,rfl⟩
structure B62(P:Program)(w:World)(T:String)(l:Addr)(o it:Obj)(n:Nat)(Pv:Nat->Value->Prop)(St:Addr->Nat->Heap->Prop):Prop where
 ty:o.cls=.type T
 f1:isSubtype (.type T) (.type "set")=pure false
 f2:isSubtype (.type T) (.type "frozenset")=pure false
 f3:(Value.type T == Value.type "dict")=false
 iter:∀ (A:Around) (E:Value->Shared->Prop) (s:Shared) (Q:Value->Shared->Prop),s.heap.get? l=some o->Q (.ref s.heap.objs.size) { s with heap:=s.heap.push it }->wpAny (model P w) A (pyIter (.ref l)) Q E s
 walk:∀ (A:Around) (I:Addr),A.handled=none->l≠I->Walks P w A I [I,l] [I] n Pv (St I)
 zero:∀ h:Heap,h.get? l=some o->St h.objs.size 0 (h.push it)
set_option maxHeartbeats 3200000 in
theorem Z00{T:String}{l:Ç}{o it:Obj}{n:Nat}{Pv:Nat->Ä->Prop}{St:Ç->Nat->é->Prop}{val:Nat->Nat}{Q:Ä->Æ->Prop}(D:B62 P w T l o it n Pv St)(hh:A.handled=none)(ho:s.heap.get? l=some o)(hv:∀ i,val i < 8)(hp:∀ i v,Pv i v->∃ t,v=.int (val i) t)
  (h:∀ (h':é) (tk:Nat),v90 w h' s.heap.objs.size (met val n)->(∀ b u,s.heap.get? b=some u->h'.get? b=some u)->Q (.ref s.heap.objs.size) { s with heap:=h',toks:=tk }):Ï (Õ P w) A (call (.type "set") [.ref l]) Q E s:=by
 obtain⟨c,tl,hmro⟩:=Á5.mro;have hmade:=Á5.made;have hsub:=Á5.sub;have h1:=Á5.notType;have h2:=Á5.canCreate;have hct:=F.typeCall_set_1 (.ref l);refine Ñ0 (Ö2 ?_);show Ï _ _ (callAny (.type "set") _) _ _ _;refine Å ⟨Î6 _ (by decide +kernel),À0 F.entry_type_call ?_⟩
 rw[Around.under_plain (weight_type_call_type "set" [.ref l] []) rfl]
 repeat (any_goals (first | assumption | wp_step))
 refine Æ2 (o81 (.ref l) (E:=E) (Q:=λv s1=>v=.ref s.heap.objs.size/\s1={ s with heap:=s.heap.push (L00 w) }) ⟨rfl,rfl⟩) λr s1 hr=>?_;cases r with
 |error e=>exact hr
 |ok fl =>
  cases fl with
  |ret v =>
   obtain⟨rfl,rfl⟩:=hr;have hT:Õ5 { s with heap:=s.heap.push (L00 w) } (.ref s.heap.objs.size) "set":=⟨_,É _ rfl,rfl⟩;have hli:=Á5.init.lookup;have hbi:=Á5.init.bind (.ref s.heap.objs.size);have lS:l < s.heap.objs.size:=Û ho;have ho1:(s.heap.push (L00 w)).get? l=some o:=Â _ ho
   repeat (any_goals (first | assumption | wp_step))
   refine Æ2 (Î1 (R:=wants (λr s2=>r=.none/\∃ h' tk,s2={ s with heap:=h',toks:=tk }/\v90 w h' s.heap.objs.size (met val n)/\∀ b u,s.heap.get? b=some u->h'.get? b=some u) E) Á5.init.plain F.entry_set_init (check_set_init_1 hT ?_)) λr2 s2 hr2=>?_
   ·have f1:=D.f1;have f2:=D.f2;have f3:=D.f3;obtain⟨ocls,odict,odata,oslots⟩:=o;have hc:ocls=.type T:=D.ty;subst hc;unfold û.«set.__init__» noKeywords Ó7;generalize hPI:pyIter=PI
    wp_walk
    subst hPI;refine D.iter _ _ _ _ ho1 ?_;refine À (Ð9 ?_);have hI:(s.heap.push (L00 w)).objs.size=s.heap.objs.size + 1:=È9 ..;have nI:l≠(s.heap.push (L00 w)).objs.size:=by rw[hI];exact Ô (Å6 lS)
    have nS:s.heap.objs.size ∉ [(s.heap.push (L00 w)).objs.size,l]:=by
     rw[hI];simp only[Á7,À2,or_false,not_or];exact⟨Ô (Î5 _),Ç4 lS⟩
    refine S61 ((D.walk _ _ (by simp[hh]) nI).toS) s.heap.objs.size nS hv hp n 0 _ (zero_add _) (D.zero _ ho1) (S71.keep λu e=>Â _ e) λs' mv x=>?_
    obtain⟨h',g',d',tk',os'⟩:=s';have eg:g'=s.gens:=mv.gens;have ed:d'=s.drawn:=mv.drawn;have eo:os'=s.os:=mv.os;subst eg;subst ed;subst eo;refine Å (Å ⟨rfl,h',tk',rfl,x,λb u e=>?_⟩);have lb:=Û e;refine mv.heap b u (λz=>?_) (Â _ (Â _ e));simp only[Á7,À2,or_false] at z;rw[hI] at z;rcases z with z | z
    ·exact Ô lb z
    ·exact Ô (Å6 lb) z
   ·cases r2 with
    |error e=>exact hr2
    |ok fl2 =>
     cases fl2 with
     |ret r =>
      obtain⟨rfl,h',tk,rfl,x,kp⟩:=hr2
      repeat (any_goals (first | assumption | wp_step))
      exact h _ _ x kp
     |_=>exact hr2.elim
  |_=>exact hr.elim
end
def H00(t:À7):Nat->Nat
 |0=>0|i + 1=>t.place.getD i 0 + 1
structure A41(w:World)(t:SetTable)(es:Array (Int × Value)):Prop where
 fits:t.fits es.size=true
 plain:t.plain=true
 led:t.led=led w
 below:∀ i,i<=es.size->SetTable.below t.place (H00 t i)=i
 small:es.size<=100
theorem C70:∀ {l:List α}{i:Nat} (h:i < l.length),(l[i]::l.eraseIdx i).Perm l
 |x::r,0,_=>.refl _|x::r,i + 1,h=>(List.Perm.swap x _ _).trans ((C70 (l:=r) (i:=i) (Nat.lt_of_succ_lt_succ h)).cons x)
theorem o91(next:Nat->Nat):∀ (n k:Nat) (left:List α) (out:Array α),left.length=n->((Ý4.go next n k left out).toList).Perm (out.toList++left)
 |0,k,left,out,h=>by
  have:left=[]:=Û2 h;subst this;simp[Ý4.go]
 |n + 1,k,left,out,h=>by
  have hl:next k % left.length < left.length:=Nat.mod_lt _ ∅
  have e:left[next k % left.length]?=some left[next k % left.length]:=List.getElem?_eq_getElem hl;unfold Ý4.go;rw[e];refine(o91 next n (k + 1) _ _ (by rw[List.length_eraseIdx_of_lt hl];omega)).trans ?_
  rw[Array.toList_push,Ù3];exact List.Perm.append_left _ (C70 hl)
theorem p01(next:Nat->Nat)(xs:Array α):(Ý4 next xs).toList.Perm xs.toList:=by
 have:=o91 next xs.size 0 xs.toList #[] (by simp)
 rw[Ô1] at this;exact this
def ord(w:ç)(a ep:Nat)(es:Array (Int × Ä)):Array (Int × Ä):=if w.params.followText "set-order" then Ý4 (w.params.setOrder a ep) es else es
theorem H10(w:ç)(a ep:Nat)(es:Array (Int × Ä)):(ord w a ep es).toList.Perm es.toList:=by
 unfold ord;split
 ·exact p01 _ _
 ·exact .refl _
theorem H20(w:ç)(a ep:Nat)(es:Array (Int × Ä)):(ord w a ep es).size=es.size:=by
 have:=(H10 w a ep es).length_eq;simpa using this
def p11(w:ç)(t:À7)(i:Nat):Nat:=if w.params.followText "set-order" then 0 else H00 t i
def itO(w:ç)(S ep n:Nat)(t:À7)(i:Nat):Obj:={ cls:=.type "set_iterator",data:=.fields #[Ã3 (p11 w t i),Ã3 i,.ref S,Ã3 n,Ã3 ep] }
theorem c60:Slot "set_iterator" "__next__" "set_iterator.__next__":=.of (owner:="set_iterator") (n:="__next__") (by rw[typeLookup_type,builtinLookup_eq_fast];kernel_rfl) (by decide +kernel) (by decide +kernel) (by decide +kernel) (by first | exact .inl (by decide +kernel) | exact .inr (by decide +kernel)) (by rw[Ñ4];kernel_rfl)
theorem m80:Slot "set_iterator" "__iter__" "set_iterator.__iter__":=.of (owner:="set_iterator") (n:="__iter__") (by rw[typeLookup_type,builtinLookup_eq_fast];kernel_rfl) (by decide +kernel) (by decide +kernel) (by decide +kernel) (by first | exact .inl (by decide +kernel) | exact .inr (by decide +kernel)) (by rw[Ñ4];kernel_rfl)
theorem m30:entryFor table "set_iterator.__next__"=some û.«set_iterator.__next__»:=entryFor_of_tree (by kernel_rfl)
theorem B50:entryFor table "set.__iter__"=some û.«frozenset.__iter__»:=entryFor_alias (id':="frozenset.__iter__") (by kernel_rfl) rfl (by decide +kernel) (by kernel_rfl)
theorem w00:entryFor table "set_iterator.__iter__"=some û.«dict_keyiterator.__iter__»:=entryFor_alias (id':="dict_keyiterator.__iter__") (by kernel_rfl) rfl (by decide +kernel) (by kernel_rfl)
theorem y60:Manifest.owners.lookup (String.ofList "rotareti_tes".toList.reverse)=some Manifest.sig_set_iterator:=by kernel_rfl
theorem m90(a:Ä):argsOk "set_iterator.__next__" ⟨[a],[]⟩:=by
 unfold argsOk;rw[signature?_of (id:="set_iterator.__next__") (n:="__txen__".toList) (o:="rotareti_tes".toList) (by kernel_rfl) y60];kernel_rfl
theorem y70(a:Ä):argsOk "set_iterator.__iter__" ⟨[a],[]⟩:=by
 unfold argsOk;rw[signature?_of (id:="set_iterator.__iter__") (n:="__reti__".toList) (o:="rotareti_tes".toList) (by kernel_rfl) y60];kernel_rfl
section
variable {P:Ý}{w:ç}{A:õ}{E:Ä->Æ->Prop}{s:Æ}{S ep:Nat}{t:À7}{es:Array (Int × Ä)}{o:Obj}
theorem E81(hm:A41 w t es)(ho:s.heap.get? S=some o)(hx:o.ExactSet)(hd:o.data=.set (es) ep t){Q:Ä->Æ->Prop}(h:Q (.ref s.heap.objs.size) { s with heap:=s.heap.push (itO w S ep es.size t 0) }):Ï (Õ P w) A (pyIter (.ref S)) Q E s:=by
 have hT:s.TypeIs (.ref S) "set":=⟨o,ho,hx.1⟩;have hf:=hm.fits;have hp:=hm.plain;refine wpAny_pyIter_slot hT F.slot_set_iter (ÿ F.slot_set_iter hT B50 ?_ (F.args_set_iter_1 _));unfold û.«frozenset.__iter__» û.Frozenset.slot0 slotArgs;simp -iota only [isEmpty_nil,Þ3,Â9,↓reduceIte,bind_assoc,Â5,bne_self_eq_false];unfold û.Frozenset.addrOf û.Frozenset.sizeOf;refine À (Å (À (Å (À (À (Ù6 ho hd hf (Å ?_)))))));refine À ?_;have dr:Ï (Õ P w) A.in1 (setDrawn S) (λb s'=>b=false/\s'=s) E s:=by
  unfold setDrawn setsByText;refine À (Á6 ho hd hf (À (À (Í1 (Å (Å ⟨?_,rfl⟩))))));generalize t=t at hp;obtain⟨t1,t2,t3,t4,t5,t6,t7⟩:=t;cases hp;show(!w.params.followText "set-order"&&_)=false;cases w.params.followText "set-order" <;> rfl
 refine Â7 dr (λb s' hb=>?_) λ_ _ e=>e;obtain⟨rfl,rfl⟩:=hb;rw[if_neg Ñ];refine À (Å ?_);refine À (wpAny_setEpoch_of ho hd hf ?_);refine À (ê (Å ⟨_,rfl,"set_iterator",_,⟨_,É _ rfl,rfl⟩,c60.lookup,?_⟩));have e:itO w S ep es.size t 0={ cls:=.type "set_iterator",data:=.fields #[Ã3 0,Ã3 0,.ref S,Ã3 (es).size,Ã3 ep] }:=by
  unfold itO p11;split <;> rfl
 rw[e] at h;exact h
theorem p21{i:Nat}(hm:A41 w t es)(hi:i<=es.size)(ho:s.heap.get? S=some o)(hd:o.data=.set (es) ep t):Ï (Õ P w) A (setNext S (p11 w t i) i ep) (λr s'=>s'=s/\r=(ord w S ep (es))[i]?.map λe=>(e.2,p11 w t (i + 1))) E s:=by
 have hf:=hm.fits;have hp:=hm.plain;have hl:=hm.led;unfold setNext;refine À (Á6 ho hd hf ?_);unfold setsByText;refine À (À (Í1 (Å ?_)));dsimp only;unfold ord p11;show Ï _ _ (if w.params.followText "set-order"=true then _ else _) _ _ _;cases hb:w.params.followText "set-order" with
 |true =>
  rw[if_pos rfl];rw[if_neg (by simp)]
  refine À ?_;unfold setWalk setsByText;refine À (Á6 ho hd hf (À (À (Í1 (Å ?_)))));show Ï _ _ (if w.params.followText "set-order"=true then _ else _) _ _ _;rw[hb,if_pos rfl];refine À (Í1 (Å (Å ⟨rfl,?_⟩)));simp only[↓reduceIte];rfl
 |false =>
  simp only[Â9,↓reduceIte];have hl:t.led=true:=by rw[hl];show(!w.params.followText "set-order")=true;rw[hb];rfl
  have hbl:=hm.below i hi;have hsz:t.place.size=es.size:=by
   have:=hm.fits;unfold À7.fits at this;rw[Á,beq_iff_eq] at this;exact this.1
  have e3:H00 t (i + 1)=t.place.getD i 0 + 1:=rfl;rw[e3];generalize H00 t i=si at hbl;obtain⟨t1,t2,t3,t4,t5,t6,t7⟩:=t;cases hp;cases hl;have hbl:Ê1 t2 si=i:=hbl;have hsz:t2.size=es.size:=hsz;refine À (Å (Å ⟨rfl,?_⟩));rw[hbl];by_cases hi':i < es.size
  ·have e1:es[i]?=some es[i]:=by simp[hi']
   have e2:t2[i]?=some (t2.getD i 0):=by simp[getD,hsz,hi']
   rw[e1,e2];rfl
  ·have e1:es[i]?=none:=by simp;omega
   rw[e1];rfl
theorem E91{i:Nat}{I:Ç}(hm:A41 w t es)(hi:i < es.size)(ho:s.heap.get? S=some o)(hd:o.data=.set (es) ep t)(hI:s.heap.get? I=some (itO w S ep es.size t i)){Q:Option Ä->Æ->Prop}
  (h:∀ v h',(ord w S ep (es))[i]?.map (·.2)=some v->Ç8 I s.heap h'->h'.get? I=some (itO w S ep es.size t (i + 1))->Q (some v) { s with heap:=h' }):Ï (Õ P w) A (Í2 (.ref I)) Q E s:=by
 have hT:s.TypeIs (.ref I) "set_iterator":=⟨_,hI,rfl⟩;have hf:=hm.fits;unfold Í2;refine À (Í8 (À5 (name:=Á0 "__next__") hT c60 (ÿ c60 hT m30 ?_ (m90 _))));unfold û.«set_iterator.__next__» slotArgs;simp -iota only [isEmpty_nil,Þ3,Â9,↓reduceIte,bind_assoc,Â5,bne_self_eq_false];refine À (Å ?_);refine À (wpAny_fieldsOf hI rfl ?_);dsimp only [Ã3];refine À (Ù6 ho hd hf ?_);rw[if_neg (by simp)]
 refine À (Â7 (p21 (i:=i) hm (Ç9 hi) ho hd) (λr s' hr=>?_) λ_ _ e=>e);obtain⟨rfl,rfl⟩:=hr;have hsz:i < (ord w S ep (es)).size:=by rw[H20];exact hi
 have e1:(ord w S ep (es))[i]?=some (ord w S ep (es))[i]:=by simp[hsz]
 simp -iota only [Ä2,e1,map_some];unfold itO at hI;refine À (Â6 hI (by simp) λh1 hI1 sb1=>?_)
 refine À (Â6 hI1 (by simp) λh2 hI2 sb2=>?_)
 refine Å ⟨_,rfl,Å (h _ h2 (by rw[e1];rfl) (sb1.trans sb2) ?_)⟩
 unfold itO;simpa [Ã3] using hI2
theorem S81{I:Ç}(hh:A.handled=none)(hm:A41 w t es)(ho:s.heap.get? S=some o)(hd:o.data=.set (es) ep t)(hI:s.heap.get? I=some (itO w S ep es.size t es.size)){Q:Option Ä->Æ->Prop}
  (h:∀ h',é.ExtBut I s.heap h'->Q none { s with heap:=h' }):Ï (Õ P w) A (Í2 (.ref I)) Q E s:=by
 have hT:s.TypeIs (.ref I) "set_iterator":=⟨_,hI,rfl⟩;have hf:=hm.fits;unfold Í2;refine À (Í8 (À5 (name:=Á0 "__next__") hT c60 (ÿ c60 hT m30 ?_ (m90 _))));unfold û.«set_iterator.__next__» slotArgs;simp -iota only [isEmpty_nil,Þ3,Â9,↓reduceIte,bind_assoc,Â5,bne_self_eq_false];refine À (Å ?_);refine À (wpAny_fieldsOf hI rfl ?_);dsimp only [Ã3];refine À (Ù6 ho hd hf ?_);rw[if_neg (by simp)]
 refine À (Â7 (p21 (i:=es.size) hm (Ë _) ho hd) (λr s' hr=>?_) λ_ _ e=>e);obtain⟨rfl,rfl⟩:=hr;have e1:(ord w S ep (es))[es.size]?=none:=by simp[H20]
 simp -iota only [Ä2,e1,Option.map_none];unfold itO at hI;refine À (Â6 hI (by simp) λh1 hI1 sb1=>À ?_)
 simp only[newExc,newTuple];refine À (ê ?_ (by size_fits))
 refine À (m:=Ø5 _ _) (Þ0 (a:=è) (by first | rfl | (simp only[Ø5];rfl)) ?_)
 refine ê ?_ (by size_fits)
 unfold raiseNew;refine À (wpAny_handled ?_);rw[show A.in1.handled=none from hh];refine À (Å (wpAny_throw ?_));refine À (Ý3 (T:="StopIteration") (b:=true) ⟨_,É _ rfl,rfl⟩ isSubtype_stop ?_);exact Å (h _ ((sb1.extBut.push _).push _))
theorem p31{I:Ç}(hh:A.handled=none)(hm:A41 w t es)(hx:o.ExactSet)(hd:o.data=.set (es) ep t)(hn:S≠I):Walks P w A I [I,S] [I] es.size (λi v=>(ord w S ep (es))[i]?.map (·.2)=some v) (λi h=>h.get? S=some o/\h.get? I=some (itO w S ep es.size t i)) where
 sub:=λb hb=>by simp at hb;simp[hb]
 frame:=λ_ _ _ st hk=>⟨hk S (by simp) _ st.1,hk I (by simp) _ st.2⟩
 item:=λi s Q E hi st hQ=>E91 hm hi st.1 hd st.2 λv h' hv sb hI=>hQ v h' s.toks hv ⟨(sb.2 S hn).trans st.1,hI⟩ λb u hb e=>(sb.2 b λz=>hb (by simp[z])).trans e
 done:=λs Q E st hQ=>S81 hh hm st.1 hd st.2 λh' kp=>hQ h' s.toks λb u hb e=>kp b u (λz=>hb (by simp[z])) e
 self:=λi s Q E st hQ=>by
  have hT:s.TypeIs (.ref I) "set_iterator":=⟨_,st.2,rfl⟩;refine wpAny_pyIter_slot hT m80 (ÿ m80 hT w00 ?_ (y70 _));show Ï _ _ (ret (.ref I)) _ _ s;exact Å ⟨_,rfl,"set_iterator",_,hT,c60.lookup,hQ⟩
set_option maxHeartbeats 3200000 in
theorem y80{Q:List Ä->Æ->Prop}(hh:A.handled=none)(hm:A41 w t es)(ho:s.heap.get? S=some o)(hx:o.ExactSet)(hd:o.data=.set (es) ep t)
  (hQ:∀ h' tk,s.heap.objs.size < h'.objs.size->(∀ b u,s.heap.get? b=some u->h'.get? b=some u)->Q ((ord w S ep (es)).toList.map (·.2)) { s with heap:=h',toks:=tk }):Ï (Õ P w) A (collect (.ref S)) Q E s:=by
 have lS:S < s.heap.objs.size:=Û ho;have hsz:=hm.small;unfold collect;refine À (Ð9 (À0 F.entry_proto_collect ?_));rw[À4 F.plain_proto_collect _];refine À (m:=newList []) (ê (Å ⟨Ê7 F.plain_list_iadd _,À0 F.entry_list_iadd ?_⟩));rw[À4 F.plain_list_iadd _];show Ï _ A.in1 (Ä3 (.ref s.heap.objs.size) (.ref S) (.ref s.heap.objs.size)) _ _ _;have oS:(s.heap.push { cls:=.type "list",data:=.seq ([]:List Ä).toArray }).get? S=some o:=Â _ ho;have hL:(s.heap.push { cls:=.type "list",data:=.seq ([]:List Ä).toArray }).get? s.heap.objs.size=some { cls:=.type "list",data:=.seq ([]:List Ä).toArray }:=É _ rfl;have hT:Õ5 { s with heap:=s.heap.push { cls:=.type "list",data:=.seq ([]:List Ä).toArray } } (.ref S) "set":=⟨o,oS,hx.1⟩;unfold Ä3;refine À (Ç1 hT ?_);have c1:Ù5 (.ref s.heap.objs.size) (.ref S)=false:=by simp[Ù5];exact Ç4 lS
 have c2:(Ã7 "set" == Ã7 "list")=false:=by decide
 have c3:(Ã7 "set" == Ã7 "tuple")=false:=by decide
 simp only[c1,c2,c3,Bool.or_false,Â9,if_false];refine À (E81 hm oS hx hd (À (ï ?_)));have hT2:∀ u,Õ5 { s with heap:=(s.heap.push { cls:=.type "list",data:=.seq ([]:List Ä).toArray }).push u } (.ref S) "set":=λu=>⟨o,Â _ oS,hx.1⟩;unfold û.List.listLengthHint;refine À (wpAny_specialOf (hT2 _) F.slot_set_len.lookup ?_)
 wp_delta
 refine À (Ý3 (T:="set") (b:=true) (hT2 _) (by rw[Ñ4];kernel_rfl) ?_)
 show Ï _ A.in1 (typeOf (ð S) >>= _) _ _ _;refine À (Ç1 (hT2 _) (Å ?_));rw[if_pos (-0)]
 refine À (Ë4 ?_);generalize hI:s.heap.push { cls:=.type "list",data:=.seq ([]:List Ä).toArray }=h1 at oS hL hT2;have sz1:h1.objs.size=s.heap.objs.size + 1:=by rw[← hI];exact È9 ..
 have hL2:(h1.push (itO w S ep es.size t 0)).get? s.heap.objs.size=some { cls:=.type "list",data:=.seq ([]:List Ä).toArray }:=Â _ hL;refine À (m:=û.List.listTouch (.ref s.heap.objs.size)) ?_;show Ï _ A.in1 (updateSeq s.heap.objs.size (·.push .none) >>= λ_=>updateSeq s.heap.objs.size (·.pop)) _ _ _;refine À (wpAny_updateSeq hL2 rfl ?_);have hL3:=Æ3 (À1 (·.push è)) hL2 rfl;refine wpAny_updateSeq hL3 rfl ?_;have hL4:=Æ3 (À1 (·.pop)) hL3 rfl;have off:∀ b u,b≠s.heap.objs.size->(h1.push (itO w S ep es.size t 0)).get? b=some u->(((h1.push (itO w S ep es.size t 0)).update s.heap.objs.size (À1 (·.push è))).update s.heap.objs.size (À1 (·.pop))).get? b=some u :=
  λb u hb e=>(Ë2 _ _ (À8 hb)).trans ((Ë2 _ _ (À8 hb)).trans e)
 have nI:S≠h1.objs.size:=by rw[sz1];exact Ô (Å6 lS)
 have nS:s.heap.objs.size ∉ [h1.objs.size,S]:=by
  rw[sz1];simp only[Á7,À2,or_false,not_or];exact⟨Ô (Î5 _),Ç4 lS⟩
 refine Å ⟨Ê7 F.plain_extend_loop _,codeAny_extend_loopS (p31 (P:=P) (by simp[hh]) hm hx hd nI).toS (by rw[ò];omega) s.heap.objs.size nS _ es.size 0 _ _ _ rfl (Æ7 _) ⟨off _ _ (Ô lS) (Â _ oS),off _ _ (by rw[sz1];exact(Ô (Î5 _)).symm) (É _ rfl)⟩ hL4 (ItemsOf.nil _) λs' acc c mv hS' it=>?_⟩
 refine À (m:=load s.heap.objs.size) (wpAny_load hS' (Å ?_));have ea:acc.toList=(ord w S ep (es)).toList.map (·.2):=by
  refine List.ext_getElem? λj=>?_;rw[Ö,Æ1,Æ1];cases e:acc[j]? with
  |none =>
   have hj:es.size<=j:=by rw[← it.1];simpa using e
   have:(ord w S ep (es))[j]?=none:=by simp[H20,hj]
   rw[this];rfl
  |some v=>rw[it.2 j v e]
 rw[ea];obtain⟨h',g',d',tk',os'⟩:=s';have eg:g'=s.gens:=mv.gens;have ed:d'=s.drawn:=mv.drawn;have eo:os'=s.os:=mv.os;subst eg;subst ed;subst eo;refine hQ h' tk' (Û hS') λb u e=>mv.heap b u (λz=>?_) (off b u (Ô (Û e)) (Â _ (hI ▸ Â _ e)));have lb:=Û e;simp only[Á7,À2,or_false] at z;rw[sz1] at z;rcases z with z | z
 ·exact Ô lb z
 ·exact Ô (Å6 lb) z
end
end SS
namespace ST
def blocks(mk:List Nat):List (List Int):=mk.map λm=>((ì mk.length).filter λp=>mk.getD p 0 == m).map λ(n:Nat)=>(n:Int)
def s70{α:Type}[BEq α](l:List α):List Nat:=l.map (l.idxOf ·)
abbrev tD(ks:List Int):L2.D:=.tup (ks.map L2.D.int)
end ST
namespace Q
open PySem L2
abbrev Z:=Option (Int × Bool)
inductive S where
 |d (x:D) | fr (xs:List D) | z
inductive R (α:Type) where
 |ok (a:α) (z:Z) | er (c:Nat) (z:Z)
abbrev M(α:Type):=Z->Option (R α)
def M.ret{α:Type}(a:α):M α:=λz=>some (.ok a z)
def M.no{α:Type}:M α:=λ_=>none
def M.of{α:Type}:Option α->M α
 |some a=>M.ret a|none=>M.no
def M.bind{α β:Type}(m:M α)(f:α->M β):M β:=λz=>match m z with
 |some (.ok a z1)=>f a z1|some (.er c z1)=>some (.er c z1)|none=>none
def M.calm{α:Type}(m:M α):M α:=λz=>match m z with
 |some (.ok a z1)=>some (.ok a z1)|_=>none
abbrev Env:=List (Option S)
def pl:List S->Option D
 |[.d x]=>some x|[.fr xs]=>some (.lst xs)|_=>none
def one:List S->Option S
 |[s]=>some s|_=>none
def plS:S->S
 |.fr xs=>.d (.lst xs)|s=>s
def plD:S->Option D
 |.d x=>some x|.fr xs=>some (.lst xs)|_=>none
def plA:List S->Option (List D)
 |[]=>some []|.d x::r=>(plA r).map (x::·)|.fr xs::r=>(plA r).map (.lst xs::·)|_::_=>none
inductive Bi where
 |add | sub | mul | fdiv | mod | pow
inductive Cm where
 |eq | ne | lt | le | gt | ge | mem | nmem
inductive Bf where
 |len | sorted | tuple | list | min | max | all | int | sset | s22
inductive Ty where
 |int | bool | tuple | list | str | seq
inductive Pat where
 |v (i:Nat) | tup (ps:Pat) | nil | cons (p r:Pat)
inductive It where
 |seq | rng1 | rng2 | zip
 |enum
inductive Ex where
 |nil | cons (a r:Ex)
 |var (i:Nat) | con (x:D) | gint (g:Str) (i:Int)
 |tup (as:Ex) | lst (as:Ex)
 |bin (o:Bi) (a b:Ex) | cmp (o:Cm) (a b:Ex) | neg (a:Ex)
 |not (a:Ex) | and (a b:Ex) | or (a b:Ex) | orT (a b:Ex) | ite (c a b:Ex)
 |ch (o o':Cm) (a b c:Ex)
 |bf (f:Bf) (as:Ex) | isi (t:Ty) (a:Ex)
 |idx (a i:Ex) | sl (a lo hi:Ex) | rev (a:Ex)
 |call (f:Nat) (as:Ex)
 |comp (own:Nat) (capt:List Nat) (p:Pat) (it:It) (src cond el:Ex)
 |zget (i k:Nat) | lrng (b:Bool) (as:Ex)
 |refd (capt:List Nat) (a:Ex)
abbrev most:Nat:=100000
def p41:Nat:=2 ^ 4000
mutual
noncomputable def eqD:D->D->Bool
 |.non,.non=>true|.bl a,.bl b=>a == b|.int a,.int b=>a == b|.str a,.str b=>a == b|.bl a,.int b=>(if a then 1 else 0) == b|.int a,.bl b=>a == (if b then 1 else 0)|.tup a,.tup b=>F01 a b|.lst a,.lst b=>F01 a b|.dct,.dct=>true|_,_=>false
noncomputable def F01:List D->List D->Bool
 |[],[]=>true|a::r,b::q=>eqD a b&&F01 r q|_,_=>false
end
mutual
noncomputable def ltD:D->D->Option Bool
 |.int a,.int b=>some (decide (a < b))|.tup a,.tup b=>S91 a b|_,_=>none
noncomputable def S91:List D->List D->Option Bool
 |[],[]=>some false|[],_::_=>some true|_::_,[]=>some false|a::r,b::q=>if eqD a b then S91 r q else ltD a b
end
mutual
noncomputable def m40:D->Bool
 |.dct=>false|.tup l=>e10 l|.lst l=>e10 l|.str x=>PyData.strOk x|_=>true
noncomputable def e10:List D->Bool
 |[]=>true|x::r=>m40 x&&e10 r
end
mutual
noncomputable def deep:D->Nat
 |.tup l=>f20 l + 1|.lst l=>f20 l + 1|_=>0
noncomputable def f20:List D->Nat
 |[]=>0|x::r=>Ó6 (deep x) (f20 r)
end
def okD(d:D):Bool:=m40 d&&decide (deep d<=40)
def B60(l:List D):Bool:=e10 l&&decide (f20 l<=39)
theorem e50{c:Prop}[Decidable c]{α:Type}{a:Option α}{b:α}(h:(if c then a else none)=some b):c/\a=some b:=by
 by_cases k:c
 ·rw[if_pos k] at h;exact⟨k,h⟩
 ·rw[if_neg k] at h;cases h
def eqO(a b:D):Option Bool:=if okD a&&okD b then some (eqD a b) else none
def eqE:D->D->Option Bool
 |.tup l,.tup []=>some l.isEmpty|_,_=>none
def eqQ(a b:D):Option Bool:=if okD a&&okD b then some (eqD a b) else eqE a b
def ltO(a b:D):Option Bool:=if okD a&&okD b then ltD a b else none
def memD(x:D)(l:List D):Bool:=l.any λy=>eqD y x
def F11(x:D)(l:List D):Option Bool:=if okD x&&B60 l then some (memD x l) else none
def o30:List D->Option (List Int)
 |[]=>some []|.int i::r=>(o30 r).map (i::·)|_=>none
def H30:Bi->D->D->Option S
 |.add,.int i,.int j=>some (.d (.int (i + j)))|.add,.tup a,.tup b=>if a.length + b.length<=most then some (.d (.tup (a++b))) else none|.add,.lst a,.lst b=>if a.length + b.length<=most then some (.fr (a++b)) else none|.sub,.int i,.int j=>some (.d (.int (i - j)))|.mul,.int i,.int j=>if i.natAbs < p41/\j.natAbs < p41 then some (.d (.int (i * j))) else none|.mul,.tup a,.int j=>if 0<=j/\j.toNat * a.length<=most/\j < 1000000 then some (.d (.tup (î j.toNat a).flatten)) else none|.mul,.lst a,.int j=>if 0<=j/\j.toNat * a.length<=most/\j < 1000000 then some (.fr (î j.toNat a).flatten) else none|.fdiv,.int i,.int j=>if 0 < j/\j.natAbs < p41 then some (.d (.int (i / j))) else none|.mod,.int i,.int j=>if 0 < j then some (.d (.int (i % j))) else none|.pow,.int i,.int j=>if 0<=j/\j<=1000/\i.natAbs < 2 ^ 64 then some (.d (.int (i ^ j.toNat))) else none|_,_,_=>none
def B72:D->Bool
 |.non=>true|_=>false
def neO:D->D->Option Bool
 |.dct,.tup _=>some true|a,b=>(eqO a b).map (!·)
def y90:Cm->D->D->Option Bool
 |.eq,a,b=>eqQ a b|.ne,a,b=>neO a b|.lt,a,b=>ltO a b|.gt,.int a,.int b=>some (decide (b < a))|.le,.int a,.int b=>some (decide (a<=b))|.le,.tup a,.tup b=>(o30 a).bind λns=>(o30 b).map λms=>HT.leB ns ms|.ge,.int a,.int b=>some (decide (b<=a))|.mem,a,.tup l=>F11 a l|.mem,a,.lst l=>F11 a l|.nmem,a,.tup l=>(F11 a l).map (!·)|.nmem,a,.lst l=>(F11 a l).map (!·)|_,_,_=>none
def L51:Ty->D->Bool
 |.int,.int _=>true|.int,.bl _=>true|.bool,.bl _=>true|.tuple,.tup _=>true|.list,.lst _=>true|.str,.str _=>true|.seq,.tup _=>true|.seq,.lst _=>true|_,_=>false
def asB:D->Option Bool
 |.bl b=>some b|_=>none
def f62:D->Option (List D)
 |.tup l=>some l|_=>none
def asI:D->Option Int
 |.int i=>some i|_=>none
def j11:D->Option (List D)
 |.tup l=>some l|.lst l=>some l|_=>none
mutual
noncomputable def flt:D->List Int
 |.int i=>[i]|.tup l=>B82 l|_=>[]
noncomputable def B82:List D->List Int
 |[]=>[]|x::r=>flt x++B82 r
end
mutual
noncomputable def eqT:D->D->Bool
 |.int i,.int j=>i == j|.tup a,.tup b=>A51 a b|_,_=>false
noncomputable def A51:List D->List D->Bool
 |[],[]=>true|x::r,y::q=>eqT x y&&A51 r q|_,_=>false
end
def Z10:D->Nat
 |.int _=>0|.tup (.int _::_)=>1|.tup (.tup _::_)=>2|_=>3
def e60(x y:D):Bool:=Z10 y == Z10 x&&(ltD x y == some (MySort.g70 (flt x) (flt y))&&(eqT x y || !(flt x == flt y)))
def h00(l:List D):Bool:=l.all λx=>decide (Z10 x < 3)&&(okD x&&l.all (e60 x))
def j21(k:D):List D->List D
 |[]=>[k]|y::r=>if MySort.g70 (flt y) (flt k) then y::j21 k r else k::y::r
def j00:List D->List D
 |[]=>[]|k::r=>j21 k (j00 r)
def B92(_:List D):Option (List D):=none
def sortedS(x:D):Option S:=(j11 x).bind λl=>if l.length < 64/\h00 l=true then some (.fr (j00 l)) else(B92 l).map S.fr
def z00:List D->Option (List Nat)
 |[]=>some []|.int i::r=>if 0<=i/\i < 8 then(z00 r).map (i.toNat::·) else none|_=>none
def f72:List D->Option (List (List Int))
 |[]=>some []|.tup m::r=>(o30 m).bind λk=>(f72 r).map (k::·)|_=>none
def ded:List (List Int)->List (List Int)
 |[]=>[]|x::r=>if r.contains x then ded r else x::ded r
def p42(l:List D):Option (List D):=(f72 l).bind λks=>if ks.length<=6/\ST.blocks (ST.s70 ks)=ks/\h00 ((ded ks).map ST.tD)=true then some (j00 ((ded ks).map ST.tD)) else none
def g41(x:D)(l:List D):Option (List D):=match z00 l with
 |some ns=>some (((ì 8).filter λi=>ns.contains i).map λ(n:Nat)=>.int n)
 |none=>match x with
  |.lst _=>p42 l|_=>none
def bfD:Bf->List D->Option S
 |.len,[x]=>(j11 x).map λl=>.d (.int l.length)|.tuple,[x]=>(j11 x).map λl=>.d (.tup l)|.list,[x]=>(j11 x).map λl=>.fr l|.all,[.lst l]=>(l.mapM asB).map λbs=>.d (.bl (bs.all id))|.sorted,[x]=>sortedS x|.min,[.int i,.int j]=>some (.d (.int (if j < i then j else i)))|.max,[.int i,.int j]=>some (.d (.int (if j > i then j else i)))|.int,[.bl b]=>some (.d (.int (if b then 1 else 0)))|.int,[.int i]=>some (.d (.int i))|.sset,[x]=>(j11 x).bind λl=>(g41 x l).map S.fr|_,_=>none
def g51:D->D->Option D
 |.tup l,.int i=>atI l i|.lst l,.int i=>atI l i|_,_=>none
def cutD(l:List D)(lo hi:Option Int):List D:=(l.drop (HT.sIx l.length 0 lo)).take (HT.sIx l.length l.length hi - HT.sIx l.length 0 lo)
def slD:D->Option Int->Option Int->Option S
 |.tup l,lo,hi=>some (.d (.tup (cutD l lo hi)))|.lst l,lo,hi=>some (.fr (cutD l lo hi))|_,_,_=>none
def C02:D->Option S
 |.tup l=>some (.d (.tup l.reverse))|.lst l=>some (.fr l.reverse)|_=>none
def p51:List S->Option (Option Int)
 |[]=>some none|[.d (.int i)]=>some (some i)|_=>none
def t10:List D->Nat->List D
 |[],_=>[]|x::r,i=>.tup [.int i,x]::t10 r (i + 1)
def p10:List D->List D->List D
 |x::r,y::q=>.tup [x,y]::p10 r q|_,_=>[]
def inR:Int->Bool
 |.ofNat n=>Nat.blt n 100000|.negSucc n=>Nat.blt n 99999
theorem H40:inR j=true↔-100000 < j/\j < 100000:=by
 cases j with
 |ofNat n=>show ble (n + 1) 100000=true↔_;rw[Nat.ble_eq];show _↔-100000 < (n:Int)/\(n:Int) < 100000;omega|negSucc n=>show ble (n + 1) 99999=true↔_;rw[Nat.ble_eq,Int.negSucc_eq];omega
def itD:It->List D->Option (List D)
 |.seq,[x]=>j11 x|.rng1,[.int j]=>if inR j=true then some ((ì j.toNat).map λ(i:Nat)=>D.int i) else none|.rng2,[.int i,.int j]=>if inR i=true/\inR j=true then some ((ì (j - i).toNat).map λ(k:Nat)=>D.int (i + k)) else none|.zip,[.tup a,.tup b]=>some (p10 a b)|.zip,[.lst a,.lst b]=>some (p10 a b)|.enum,[.tup a]=>some (t10 a 0)|.enum,[.lst a]=>some (t10 a 0)|_,_=>none
def lrS:Bool->List D->S
 |true,xs=>.d (.tup xs)|false,xs=>.fr xs
def lrN:Bool->Str
 |true=>"tuple"|false=>"list"
def lrD:List D->Option (List D)
 |[x]=>itD .rng1 [x]|l=>itD .rng2 l
mutual
noncomputable def e70:Pat->D->Env->Option Env
 |.v i=>λx ρ=>some (ρ.set i (some (.d x)))
 |.tup ps=>λx ρ=>match x with
  |.tup l=>bindL ps l ρ|_=>none
 |.nil=>λ_ _=>none|.cons _ _=>λ_ _=>none
noncomputable def bindL:Pat->List D->Env->Option Env
 |.nil=>λl ρ=>match l with
  |[]=>some ρ|_=>none
 |.cons p r=>λl ρ=>match l with
  |x::l=>(e70 p x ρ).bind λρ=>bindL r l ρ|_=>none
 |.v _=>λ_ _=>none|.tup _=>λ_ _=>none
end
def turns(f:D->M (Option D)):List D->M (List D)
 |[]=>M.ret []|x::r=>M.bind (f x) λo=>M.bind (turns f r) λl=>M.ret (match o with | some y=>y::l | none=>l)
def o40(fc fe:Env->M (List S))(p:Pat)(ρ0:Env)(x:D):M (Option D):=M.bind (M.of (e70 p x ρ0)) λρ'=>M.bind (fc ρ') λc=>match c with
 |[]=>M.bind (fe ρ') λy=>M.bind (M.of (pl y)) λy=>M.ret (some y)|[.d (.bl true)]=>M.bind (fe ρ') λy=>M.bind (M.of (pl y)) λy=>M.ret (some y)|[.d (.bl false)]=>M.ret none|_=>M.no
def p61(k:Nat):Option (Option S)->Z->Option (R (List S))
 |some (some .z),some p=>if k=0 then some (.ok [.d (.int p.1)] (some p)) else if k=1 then some (.ok [.d (.bl p.2)] (some p)) else none|_,_=>none
abbrev FT:=Bool->Nat->List S->M S
abbrev z10(F:FT):FT:=λ_=>F true
def F21(ρ:Env):List Nat->Option (List S)
 |[]=>some []
 |i::r=>match ρ[i]? with
  |some (some s)=>(F21 ρ r).map (s::·)|_=>none
def f82(o:Option (List S))(m:Env->M (List S)):M (List S):=λz=>match o with
 |none=>none
 |some ss=>match m (ss.map some) z with
  |some (.er c z1)=>if c < 12 then some (.ok [.fr [.int c]] z1) else none|_=>none
def ev:FT->Ex->Env->M (List S)
 |F,.nil=>λ_=>M.ret []|F,.cons a r=>λρ=>M.bind (ev F a ρ) λx=>M.bind (M.of (one x)) λs=>M.bind (ev F r ρ) λy=>M.ret (s::y)
 |F,.var i=>λρ=>match ρ[i]? with
  |some (some s)=>M.ret [plS s]|_=>M.no
 |F,.con x=>λ_=>M.ret [.d x]|F,.gint _ i=>λ_=>M.ret [.d (.int i)]|F,.tup as=>λρ=>M.bind (ev F as ρ) λl=>M.bind (M.of (plA l)) λds=>if ds.length<=most then M.ret [.d (.tup ds)] else M.no|F,.lst as=>λρ=>M.bind (ev F as ρ) λl=>M.bind (M.of (plA l)) λds=>if ds.length<=most then M.ret [.fr ds] else M.no|F,.bin o a b=>λρ=>M.bind (ev F a ρ) λx=>M.bind (M.of (pl x)) λx=>M.bind (ev F b ρ) λy=>M.bind (M.of (pl y)) λy=>M.bind (M.of (H30 o x y)) λs=>M.ret [s]|F,.cmp o a b=>λρ=>M.bind (ev F a ρ) λx=>M.bind (M.of (pl x)) λx=>M.bind (ev F b ρ) λy=>M.bind (M.of (pl y)) λy=>M.bind (M.of (y90 o x y)) λb=>M.ret [.d (.bl b)]|F,.neg a=>λρ=>M.bind (ev F a ρ) λx=>M.bind (M.of ((pl x).bind asI)) λi=>M.ret [.d (.int (-i))]|F,.not a=>λρ=>M.bind (ev F a ρ) λx=>M.bind (M.of ((pl x).bind asB)) λb=>M.ret [.d (.bl !b)]|F,.and a b=>λρ=>M.bind (ev F a ρ) λx=>M.bind (M.of ((pl x).bind asB)) λc=>if c then M.bind (ev F b ρ) λy=>M.bind (M.of ((pl y).bind asB)) λc=>M.ret [.d (.bl c)] else M.ret [.d (.bl false)]|F,.or a b=>λρ=>M.bind (ev F a ρ) λx=>M.bind (M.of ((pl x).bind asB)) λc=>if c then M.ret [.d (.bl true)] else M.bind (ev F b ρ) λy=>M.bind (M.of ((pl y).bind asB)) λc=>M.ret [.d (.bl c)]|F,.orT a b=>λρ=>M.calm (M.bind (ev F a ρ) λx=>M.bind (M.of ((pl x).bind f62)) λl=>if l.isEmpty then M.bind (ev F b ρ) λy=>M.bind (M.of ((pl y).bind f62)) λl=>M.ret [.d (.tup l)] else M.ret [.d (.tup l)])|F,.ite c a b=>λρ=>M.bind (ev F c ρ) λx=>M.bind (M.of ((pl x).bind asB)) λc=>if c then ev F a ρ else ev F b ρ
 |F,.ch o o' a b c=>λρ=>M.bind (ev F a ρ) λx=>M.bind (M.of (pl x)) λx=>M.bind (ev F b ρ) λy=>M.bind (M.of (pl y)) λy=>M.bind (M.of (y90 o x y)) λk =>
   if k then M.bind (ev F c ρ) λw=>M.bind (M.of (pl w)) λw=>M.bind (M.of (y90 o' y w)) λk=>M.ret [.d (.bl k)] else M.ret [.d (.bl false)]
 |F,.bf f as=>λρ=>M.bind (ev F as ρ) λl=>M.bind (M.of (plA l)) λds=>M.bind (M.of (bfD f ds)) λs=>M.ret [s]|F,.isi t a=>λρ=>M.bind (ev F a ρ) λx=>M.bind (M.of (pl x)) λx=>M.ret [.d (.bl (L51 t x))]|F,.idx a i=>λρ=>M.bind (ev F a ρ) λx=>M.bind (M.of (pl x)) λx=>M.bind (ev F i ρ) λy=>M.bind (M.of (pl y)) λy=>M.bind (M.of (g51 x y)) λr=>M.ret [.d r]|F,.sl a lo hi=>λρ=>M.bind (ev F a ρ) λx=>M.bind (M.of (pl x)) λx=>M.bind (ev F lo ρ) λu=>M.bind (M.of (p51 u)) λu=>M.bind (ev F hi ρ) λv=>M.bind (M.of (p51 v)) λv=>M.bind (M.of (slD x u v)) λs=>M.ret [s]|F,.rev a=>λρ=>M.bind (ev F a ρ) λx=>M.bind (M.of ((pl x).bind C02)) λs=>M.ret [s]|F,.call f as=>λρ=>M.bind (ev F as ρ) λl=>M.bind (F false f (l.map plS)) λs=>M.ret [s]|F,.comp own capt p it src cond el=>λρ=>M.bind (ev F src ρ) λl=>M.bind (M.of ((plA l).bind (itD it))) λxs=>if xs.length<=most then M.bind (M.calm (turns (o40 (ev F cond) (ev F el) p (î own none++capt.map λi=>(ρ[i]?).getD none)) xs)) λys=>M.ret [.fr ys] else M.no|F,.zget i k=>λρ z=>p61 k ρ[i]? z|F,.lrng b as=>λρ=>M.bind (ev F as ρ) λl=>M.bind (M.of ((plA l).bind lrD)) λxs=>M.ret [lrS b xs]|F,.refd capt a=>λρ=>f82 (F21 ρ capt) λρ'=>ev (z10 F) a ρ'
def N80(ρ:Env):Env:=ρ.map λo=>match o with
 |some .z=>none|o=>o
inductive Sm where
 |nil | seq (s r:Sm)
 |set (p:Pat) (e:Ex) | ret (e:Ex) | iff (c:Ex) (t e:Sm)
 |fr (p:Pat) (it:It) (src:Ex) (b:Sm)
 |rais (c:Nat) | exp (e:Ex)
 |app (i:Nat) (e:Ex)
 |newz (i:Nat) (f:Nat) (as:Ex) | zset (i:Nat) (e:Ex)
 |grp (i j k:Nat) (src:Ex)
def Z20:List (Int × List Int)->Nat->List Int->List (Int × List Int)
 |gs,_,[]=>gs|gs,p,m::r=>Z20 (K90 gs m p) (p + 1) r
def u60(ns:List Int):List D:=(Z20 [] 0 ns).map λg=>.tup (g.2.map D.int)
def T01:List D->Option S
 |[.lst a]=>match o30 a with
  |some ns=>if ns.length < 1000 then some (.fr (u60 ns)) else none|none=>none
 |_=>none
inductive O where
 |nx (ρ:Env) | rt (s:S)
mutual
noncomputable def bare:D->Bool
 |.lst _=>false|.tup l=>r10 l|.dct=>false|_=>true
noncomputable def r10:List D->Bool
 |[]=>true|x::r=>bare x&&r10 r
end
def N90:S->Bool
 |.d x=>bare x|.fr xs=>r10 xs|_=>true
def U00(ρ:Env):Env:=ρ.map λo=>o.map plS
def O00(b:Bool):Option S->Option S
 |some (.fr xs)=>some (if b then .fr xs else .d (.lst xs))|o=>o
theorem O10(b:Bool)(ρ:Env):ρ.map (O00 b)=if b then ρ else U00 ρ:=by
 have h:∀ o:Option S,O00 b o=if b then o else o.map plS:=λo=>by
  match o with
  |some (.fr xs)=>cases b <;> rfl
  |some (.d _)=>cases b <;> rfl
  |some .z=>cases b <;> rfl
  |none=>cases b <;> rfl
 rw[show O00 b=λo=>if b then o else o.map plS from funext h];cases b with
 |true=>exact List.map_id ρ|false=>rfl
def i30(s:S)(ρ:Env):Env:=ρ.map (O00 (N90 s))
def z20:Pat->S->Env->Option Env
 |p,.d x,ρ=>e70 p x ρ|.v i,s,ρ=>if i < ρ.length then some (ρ.set i (some s)) else none|_,_,_=>none
def S50(f:D->Env->M O):List D->Env->M O
 |[],ρ=>M.ret (.nx ρ)
 |x::r,ρ=>M.bind (f x ρ) λo=>match o with
  |.nx ρ=>S50 f r ρ|.rt s=>M.ret (.rt s)
def ownAt(ρ:Env)(i:Nat):Option (List D):=match ρ[i]? with
 |some (some (.fr xs))=>some xs|_=>none
def C12(xs:List D)(i:Int)(y:D):Option (List D):=(ixN xs.length i).map λj=>xs.set j y
def T11:D->Bool
 |.tup l=>r10 l|.lst l=>r10 l|_=>true
def O20(l:List S):Bool:=match plA l with
 |some ds=>ds.all T11|none=>false
def noS:S->Option S
 |.z=>none|s=>some s
def T21:(it:It)->(e:Ex)->Option {i:Nat // it=.seq/\e=.cons (.var i) .nil}
 |.seq,.cons (.var i) .nil=>some ⟨i,rfl,rfl⟩|_,_=>none
def g61:List S->Bool
 |[]=>false|.d (.lst _)::_=>true|_::r=>g61 r
def O30(it:It)(e:Ex)(l:List S)(ρ:Env):Env:=match T21 it e with
 |some i=>ρ.set i.1 ((ρ[i.1]?.getD none).map plS)
 |none=>match g61 l with
  |true=>U00 ρ|false=>ρ
def p71(it:It)(e:Ex)(l:List S)(ρ:Env):Env:=(O30 it e l ρ).map (O00 (O20 l))
abbrev L42:Nat:=20000
def p81(tp:Bool)(ρ:Env)(i:Nat):List S->Option (R O)
 |[.fr [.int n,.bl b]]=>if tp then some (.ok (.nx ((N80 ρ).set i (some .z))) (some (n,b))) else none|_=>none
def p91(ρ:Env)(v:Int):Option (Option S)->Z->Option (R O)
 |some (some .z),some p=>some (.ok (.nx ρ) (some (v,p.2)))|_,_=>none
def ex(F:FT)(tp:Bool):Sm->Env->M O
 |.nil=>λρ=>M.ret (.nx ρ)
 |.seq s r=>λρ=>M.bind (ex F tp s ρ) λo=>match o with
  |.nx ρ=>ex F tp r ρ|.rt s=>M.ret (.rt s)
 |.set p e=>λρ=>M.bind (ev F e ρ) λl=>M.bind (M.of (one l)) λs=>M.bind (M.of (z20 p s (i30 s ρ))) λρ=>M.ret (.nx ρ)
 |.ret e=>λρ=>match e with
  |.var i=>(match ρ[i]? with
   |some (some s)=>M.bind (M.of (noS s)) λs=>M.ret (.rt s)
   |_=>M.no)
  |e=>M.bind (ev F e ρ) λl=>M.bind (M.of ((one l).bind noS)) λs=>M.ret (.rt s)
 |.iff c t e=>λρ=>M.bind (ev F c ρ) λx=>M.bind (M.of ((pl x).bind asB)) λc=>if c then ex F tp t ρ else ex F tp e ρ|.fr p it src b=>λρ=>M.bind (ev F src ρ) λl=>M.bind (M.of ((plA l).bind (itD it))) λxs=>S50 (λx ρ=>M.bind (M.of (e70 p x ρ)) λρ=>ex F tp b ρ) xs (p71 it src l ρ)|.rais c=>λ_ z=>some (.er c z)|.exp e=>λρ=>M.bind (ev F e ρ) λl=>M.bind (M.of (one l)) λ_=>M.ret (.nx ρ)|.app i e=>λρ=>M.bind (M.of (ownAt ρ i)) λxs=>M.bind (ev F e ρ) λl=>M.bind (M.of (pl l)) λx=>if bare x=true/\xs.length < most then M.ret (.nx (ρ.set i (some (.fr (xs++[x]))))) else M.no|.newz i f as=>λρ=>M.bind (ev F (.call f as) ρ) λl=>λ_=>p81 tp ρ i l|.zset i e=>λρ=>M.bind (ev F e ρ) λl=>M.bind (M.of ((pl l).bind asI)) λv=>λz=>p91 ρ v ρ[i]? z|.grp i j k src=>λρ=>if i < ρ.length/\j < ρ.length/\k < ρ.length then M.bind (ev F (.cons src .nil) (ρ.set i none)) λl=>M.bind (M.of ((plA l).bind T01)) λs=>M.ret (.rt s) else M.no
inductive Df where
 |code (ps ns:Nat) (b:Sm) | prim (f:List S->M S)
def H50:Z->Z->Z
 |none,_=>none|some _,z=>z
def start(ns:Nat)(l:List S):Env:=l.map some++î (ns - l.length) none
def run(F:FT):Df->List S->M S
 |.code ps ns b,l=>λz=>if l.length=ps/\ps<=ns then(match ex F z.isNone b (start ns (l.map plS)) z with
  |some (.ok (.nx _) z1)=>some (.ok (.d .non) (H50 z z1))|some (.ok (.rt s) z1)=>some (.ok s (H50 z z1))|some (.er c z1)=>some (.er c (H50 z z1))
  |none=>none) else none
 |.prim f,l=>f l
def b60(T:List Df):Nat->Nat->List S->M S
 |k + 3,f,l=>match T[f]? with
  |some d=>run (λb g m=>match b with | true=>b60 T k g m | false=>b60 T (k + 2) g m) d l
  |none=>M.no
 |_,_,_=>M.no
abbrev g71(T:List Df)(k:Nat):FT:=λb g m=>match b with | true=>b60 T (k - 2) g m | false=>b60 T k g m
theorem U10(T:List Df)(k f:Nat)(l:List S):b60 T (k + 3) f l=match T[f]? with
  |some d=>run (g71 T (k + 2)) d l|none=>M.no:=rfl
end Q
namespace Q
open PySem L2 PySem.Spec PyProof.Rows
def o00(K:Ã)(H:Hp)(a:Ç)(xs:List V):Prop:=Rd H a (.lst xs)∨∃ (its:Array Ä) (n:Nat),K.lookup a=some { cls:=.type "list",data:=.seq its n }/\its.size<=sizeLine/\Vals xs its.toList
theorem o00.of{K:Ã}{H:Hp}{a:Ç}{xs:List V}(h:H a=some (.lst xs)):o00 K H a xs:=.inl (.inl h)
theorem o00.sq{K:Ã}{H:Hp}{a:Ç}{xs:List V}(h:o00 K H a xs):SqL K H a xs:=by
 rcases h with h | ⟨its,n,h1,h2,h3⟩
 ·exact .inl h
 ·exact .inr ⟨_,its,n,h1,rfl,rfl,rfl,h2,h3⟩
theorem o00.same{K:Ã}{H H':Hp}{a:Ç}{xs:List V}(h:o00 K H a xs)(e:a30 H H'):o00 K H' a xs:=by
 rcases h with (h | ⟨o,h⟩) | h
 ·exact .inl (.inl (e _ _ h))
 ·exact .inl (.inr ⟨o,e _ _ h⟩)
 ·exact .inr h
theorem o00.mem(I:Inv X pins σ H s)(h:o00 X.K H a xs):xs.length<=sizeLine/\∃ (its:List Ä) (n:Nat),Vals xs its/\xs.length=its.length/\s.heap.get? a=some { cls:=.type "list",data:=.seq its.toArray n }:=by
 rcases h with (h | ⟨o,h⟩) | ⟨its,n,h1,h2,h3⟩
 ·exact I.p22 h
 ·obtain⟨e,z,its,n,r,e2⟩:=I.hok a _ h;exact⟨z,its,n,r,r.length,e2⟩
 ·refine⟨by rw[h3.length,É8];exact h2,its.toList,n,h3,h3.length,?_⟩
  have:=I.kIn a _ h1;rw[Ï6];exact this
mutual
def Hd(K:Ã)(H:Hp):D->V->Prop
 |.non,v=>v=.non|.bl b,v=>v=.bl b|.int i,v=>v=.int i|.str x,v=>v=.str x|.tup ds,v=>∃ a xs,v=.ref a/\SqT K H a xs/\HdA K H ds xs|.lst ds,v=>∃ a xs,v=.ref a/\o00 K H a xs/\HdA K H ds xs|.dct,v=>∃ a kvs,v=.ref a/\H a=some (.dK kvs)
def HdA(K:Ã)(H:Hp):List D->List V->Prop
 |[],xs=>xs=[]|d::ds,xs=>∃ x r,xs=x::r/\Hd K H d x/\HdA K H ds r
end
section
variable {K:Ã}{H H':Hp}
mutual
theorem Hd.same(e:a30 H H'):∀ {d:D}{v:V},Hd K H d v->Hd K H' d v
 |.non,_,h=>by unfold Hd at h ⊢;exact h|.bl _,_,h=>by unfold Hd at h ⊢;exact h|.int _,_,h=>by unfold Hd at h ⊢;exact h|.str _,_,h=>by unfold Hd at h ⊢;exact h
 |.tup ds,_,h=>by
  unfold Hd at h ⊢;obtain⟨a,xs,rfl,h1,h2⟩:=h;exact⟨a,xs,rfl,e.sqT h1,HdA.same e h2⟩
 |.lst ds,_,h=>by
  unfold Hd at h ⊢;obtain⟨a,xs,rfl,h1,h2⟩:=h;exact⟨a,xs,rfl,h1.same e,HdA.same e h2⟩
 |.dct,_,h=>by
  unfold Hd at h ⊢;obtain⟨a,kvs,rfl,h1⟩:=h;exact⟨a,kvs,rfl,e _ _ h1⟩
theorem HdA.same(e:a30 H H'):∀ {ds:List D}{xs:List V},HdA K H ds xs->HdA K H' ds xs
 |[],_,h=>by unfold HdA at h ⊢;exact h
 |d::ds,_,h=>by
  unfold HdA at h ⊢;obtain⟨x,r,rfl,h1,h2⟩:=h;exact⟨x,r,rfl,Hd.same e h1,HdA.same e h2⟩
end
mutual
theorem Hd.has:∀ {d:D}{v:V},Hd K H d v->Has K H d v
 |.non,_,h=>by unfold Hd at h;unfold Has;exact h|.bl _,_,h=>by unfold Hd at h;unfold Has;exact h|.int _,_,h=>by unfold Hd at h;unfold Has;exact h|.str _,_,h=>by unfold Hd at h;unfold Has;exact h
 |.tup ds,_,h=>by
  unfold Hd at h;unfold Has;obtain⟨a,xs,rfl,h1,h2⟩:=h;exact⟨a,xs,rfl,h1,HdA.has h2⟩
 |.lst ds,_,h=>by
  unfold Hd at h;unfold Has;obtain⟨a,xs,rfl,h1,h2⟩:=h;exact⟨a,xs,rfl,h1.sq,HdA.has h2⟩
 |.dct,_,h=>by unfold Hd at h;unfold Has;exact h
theorem HdA.has:∀ {ds:List D}{xs:List V},HdA K H ds xs->C40 K H ds xs
 |[],_,h=>by unfold HdA at h;unfold C40;exact h
 |d::ds,_,h=>by
  unfold HdA at h;unfold C40;obtain⟨x,r,rfl,h1,h2⟩:=h;exact⟨x,r,rfl,Hd.has h1,HdA.has h2⟩
end
theorem HdA.nil:HdA K H [] []:=by unfold HdA;rfl
theorem HdA.cons(h:Hd K H d x)(r:HdA K H ds xs):HdA K H (d::ds) (x::xs):=by unfold HdA;exact⟨x,xs,rfl,h,r⟩
theorem HdA.c00(h:HdA K H (d::ds) xs):∃ x r,xs=x::r/\Hd K H d x/\HdA K H ds r:=by unfold HdA at h;exact h
theorem HdA.e40(h:HdA K H [] xs):xs=[]:=by unfold HdA at h;exact h
theorem HdA.length:∀ {ds:List D}{xs:List V},HdA K H ds xs->xs.length=ds.length
 |[],_,h=>by rw[h.e40];rfl
 |d::ds,_,h=>by
  obtain⟨x,r,rfl,_,h2⟩:=h.c00;simp[h2.length]
theorem HdA.get:∀ {ds:List D}{xs:List V}{i:Nat}{d:D},HdA K H ds xs->ds[i]?=some d->∃ x,xs[i]?=some x/\Hd K H d x
 |[],_,_,_,_,e=>by simp at e
 |d::ds,_,i,d',h,e=>by
  obtain⟨y,r,rfl,h1,h2⟩:=h.c00;cases i with
  |zero=>simp at e;subst e;exact⟨y,rfl,h1⟩
  |succ i =>
   obtain⟨x',e1,e2⟩:=HdA.get (i:=i) h2 (by simpa using e)
   exact⟨x',by simpa using e1,e2⟩
theorem HdA.append:∀ {ds es:List D}{xs ys:List V},HdA K H ds xs->HdA K H es ys->HdA K H (ds++es) (xs++ys)
 |[],_,_,_,h,g=>by rw[h.e40];exact g
 |d::ds,_,_,_,h,g=>by
  obtain⟨x,r,rfl,h1,h2⟩:=h.c00;exact .cons h1 (HdA.append h2 g)
theorem HdA.take:∀ {ds:List D}{xs:List V} (n:Nat),HdA K H ds xs->HdA K H (ds.take n) (xs.take n)
 |ds,xs,0,_=>by simp;exact .nil|[],_,n + 1,h=>by rw[h.e40];simp;exact .nil
 |d::ds,_,n + 1,h=>by
  obtain⟨x,r,rfl,h1,h2⟩:=h.c00;exact .cons h1 (HdA.take n h2)
theorem HdA.drop:∀ {ds:List D}{xs:List V} (n:Nat),HdA K H ds xs->HdA K H (ds.drop n) (xs.drop n)
 |ds,xs,0,h=>by simpa using h|[],_,n + 1,h=>by rw[h.e40];simp;exact .nil
 |d::ds,_,n + 1,h=>by
  obtain⟨x,r,rfl,h1,h2⟩:=h.c00;exact HdA.drop n h2
theorem HdA.reverse:∀ {ds:List D}{xs:List V},HdA K H ds xs->HdA K H ds.reverse xs.reverse
 |[],_,h=>by rw[h.e40];simp;exact .nil
 |d::ds,_,h=>by
  obtain⟨x,r,rfl,h1,h2⟩:=h.c00;rw[Ô0,Ô0];exact(HdA.reverse h2).append (.cons h1 .nil)
theorem HdA.rep(h:HdA K H ds xs):∀ n:Nat,HdA K H (î n ds).flatten (î n xs).flatten
 |0=>by simp;exact .nil|n + 1=>by rw[Ç3,Ç3,Ë7,Ë7];exact h.append (h.rep n)
theorem HdA.set:∀ {ds:List D}{xs:List V}{d:D}{x:V} (i:Nat),HdA K H ds xs->Hd K H d x->HdA K H (ds.set i d) (xs.set i x)
 |[],_,_,_,_,h,_=>by rw[h.e40];simp;exact .nil
 |e::ds,_,d,x,i,h,g=>by
  obtain⟨y,r,rfl,h1,h2⟩:=h.c00;cases i with
  |zero=>exact .cons g h2|succ i=>exact .cons h1 (HdA.set i h2 g)
theorem HdA.ints:∀ ns:List Int,HdA K H (ns.map D.int) (ns.map V.int)
 |[]=>.nil|n::r=>.cons (by unfold Hd;rfl) (HdA.ints r)
theorem Hd.j10(h:Hd K H (.int i) v):v=.int i:=by unfold Hd at h;exact h
theorem Hd.bl_(h:Hd K H (.bl b) v):v=.bl b:=by unfold Hd at h;exact h
theorem Hd.C22(h:Hd K H .non v):v=.non:=by unfold Hd at h;exact h
theorem Hd.C32{x:Str}{v:V}(h:Hd K H (.str x) v):v=.str x:=by unfold Hd at h;exact h
theorem Hd.u70(h:Hd K H (.tup ds) v):∃ a xs,v=.ref a/\SqT K H a xs/\HdA K H ds xs:=by unfold Hd at h;exact h
theorem Hd.S60(h:Hd K H (.lst ds) v):∃ a xs,v=.ref a/\o00 K H a xs/\HdA K H ds xs:=by unfold Hd at h;exact h
theorem Hd.int:Hd K H (.int i) (.int i):=by unfold Hd;rfl
theorem Hd.bl:Hd K H (.bl b) (.bl b):=by unfold Hd;rfl
theorem Hd.non:Hd K H .non .non:=by unfold Hd;rfl
theorem Hd.str{x:Str}:Hd K H (.str x) (.str x):=by unfold Hd;rfl
theorem Hd.tup(h:SqT K H a xs)(r:HdA K H ds xs):Hd K H (.tup ds) (.ref a):=by unfold Hd;exact⟨a,xs,rfl,h,r⟩
theorem Hd.lst(h:H a=some (.lst xs))(r:HdA K H ds xs):Hd K H (.lst ds) (.ref a):=by unfold Hd;exact⟨a,xs,rfl,o00.of h,r⟩
end
def noT(H:Hp):Hp:=λb=>match H b with
 |some (.tbl _)=>none|o=>o
theorem O40(h:noT H b=some o):H b=some o/\∀ ps,o≠.tbl ps:=by
 unfold noT at h;split at h
 ·cases h
 ·rename_i n;exact⟨h,λps e=>n ps (by rw[h,e])⟩
theorem U20(h:H b=some o)(n:∀ ps,o≠.tbl ps):noT H b=some o:=by
 unfold noT;split
 ·rename_i ps e;rw[h] at e;cases e;exact absurd rfl (n ps)
 ·exact h
theorem w40(H:Hp):a30 (noT H) H:=λ_ _ h=>(O40 h).1
theorem Z30(e:a30 H H'):a30 (noT H) (noT H'):=λb o h=>U20 (e b o (O40 h).1) (O40 h).2
def hz(zA:Option Ç)(H:Hp):Hp:=match zA with
 |some a=>hide a (noT H)|none=>noT H
class Tb where
 tb:List (Addr × Str)
variable [TB:Tb]
def zAt(zA:Option Ç)(z:Z)(H:Hp):Prop:=match zA,z with
 |some a,some (n,b)=>H a=some (.lst [.int n,.bl b])|none,none=>True|_,_=>False
structure d80(zA:Option Addr)(z:Z)(H:Hp):Prop where
 zat:zAt zA z H
 tab:∀ p∈TB.tb,Tab H p.1 p.2
theorem a00(zA:Option Ç)(H:Hp):a30 (hz zA H) H:=by
 cases zA with
 |none=>exact w40 H|some a=>exact a30.trans (d70 a _) (w40 H)
theorem g80(e:a30 H H'):a30 (hz zA H) (hz zA H'):=by
 cases zA with
 |none=>exact Z30 e|some a=>exact y00 λb o _ h=>Z30 e b o h
theorem c70(h:H b=some o)(n:zA≠some b)(ht:∀ ps,o≠.tbl ps:=by exact λ_ h=>nomatch h):hz zA H b=some o:=by
 cases zA with
 |none=>exact U20 h ht|some a=>exact l50 (U20 h ht) λe=>n (by rw[e])
theorem m70(h:hz zA H b=some o):H b=some o/\zA≠some b:=by
 cases zA with
 |none=>exact⟨w40 H b o h,λe=>nomatch e⟩
 |some a =>
  refine⟨w40 H b o (d70 a _ b o h),λe=>?_⟩;cases e;have:hide b (noT H) b=some o:=h;unfold hide at this;rw[if_pos rfl] at this;cases this
theorem k60(h:hz zA H b=some o):∀ ps,o≠.tbl ps:=by
 cases zA with
 |none=>exact(O40 h).2|some a=>exact(O40 (d70 a _ b o h)).2
structure Ext(zA:Option Addr)(H H':Hp):Prop where
 same:a30 (hz zA H) (hz zA H')
 tbl:∀ b ps,H b=some (.tbl ps)->∃ qs,H' b=some (.tbl qs)
instance {zA:Option Ç}{H H':Hp}:CoeFun (Ext zA H H') (λ_=>∀ b o,hz zA H b=some o->hz zA H' b=some o):=⟨λx=>x.same⟩
instance {zA:Option Ç}{H H':Hp}:CoeOut (Ext zA H H') (a30 (hz zA H) (hz zA H')):=⟨λx=>x.same⟩
theorem Ext.refl:Ext zA H H:=⟨a30.refl _,λb ps h=>⟨ps,h⟩⟩
theorem Ext.trans(a:Ext zA H H1)(b:Ext zA H1 H2):Ext zA H H2:=⟨a30.trans a.same b.same,λc ps h=>let ⟨qs,h1⟩:=a.tbl c ps h;b.tbl c qs h1⟩
theorem Ext.of(e:a30 H H'):Ext zA H H':=⟨g80 e,λb ps h=>⟨ps,e b _ h⟩⟩
theorem Ext.at(e:Ext zA H H')(h:H a=some o)(n:zA≠some a)(ht:∀ ps,o≠.tbl ps:=by exact λ_ h=>nomatch h):H' a=some o:=(m70 (e.same a o (c70 h n ht))).1
theorem Ext.free(e:Ext zA H H')(h:H' a=none)(n:zA≠some a):H a=none:=by
 cases q:H a with
 |none=>rfl
 |some o =>
  by_cases ht:∃ ps,o=.tbl ps
  ·obtain⟨ps,rfl⟩:=ht;obtain⟨qs,q'⟩:=e.tbl a ps q;rw[q'] at h;cases h
  ·rw[e.at q n λps z=>ht ⟨ps,z⟩] at h;cases h
theorem zAt.same(h:zAt zA z H)(e:a30 H H'):zAt zA z H':=by
 cases zA with
 |none=>cases z with
  |none=>trivial|some _=>exact h.elim
 |some a=>cases z with
  |none=>exact h.elim|some p=>exact e _ _ h
theorem d80.same(h:d80 zA z H)(e:a30 H H'):d80 zA z H':=⟨h.zat.same e,λp hp=>(h.tab p hp).same e⟩
theorem Tab.upd{H:Hp}{P a:Ç}{q:Str}{xs:List V}{o:HO}(t:Tab H P q)(h:H a=some (.lst xs)):Tab (upd H a o) P q:=by
 obtain⟨ps,e,tr,k⟩:=t;have ne:∀ {b:Ç}{u:HO},H b=some u->(∀ l,u≠.lst l)->b≠a:=λ{b u} e1 e2 z=>by
  subst z;rw[h] at e1;cases e1;exact e2 _ rfl
 refine⟨ps,by rw[a10 (ne e λ_ z=>nomatch z)];exact e,tr,λpos c hc=>?_⟩
 obtain⟨c',e1,e2⟩:=k pos c hc;exact⟨c',e1,by rw[a10 (ne e2 λ_ z=>nomatch z)];exact e2⟩
theorem d80.L61{K:Ã}{zA:Option Ç}{z:Z}{H:Hp}(h:d80 zA z H){a:Ç}{xs:List V}(t:SqT K H a xs):SqT K (hz zA H) a xs:=by
 have h:=h.zat;rcases t with (t | ⟨o,t⟩) | t
 ·refine .inl (.inl (c70 t λe=>?_));subst e;cases z with
  |none=>exact h.elim
  |some p =>
   have h':H a=some (.lst [.int p.1,.bl p.2]):=h;rw[t] at h';cases h'
 ·refine .inl (.inr ⟨o,c70 t λe=>?_⟩);subst e;cases z with
  |none=>exact h.elim
  |some p =>
   have h':H a=some (.lst [.int p.1,.bl p.2]):=h;rw[t] at h';cases h'
 ·exact .inr t
theorem d80.Z40(h:d80 zA z H)(n:H a=none):zA≠some a:=λe=>by
 have h:=h.zat;subst e;cases z with
 |none=>exact h.elim
 |some p =>
  have h':H a=some (.lst [.int p.1,.bl p.2]):=h;rw[n] at h';cases h'
def RvS(K:Ã)(zA:Option Ç)(H0 H:Hp):S->V->Prop
 |.d x,v=>Hd K (hz zA H) x v|.fr xs,v=>∃ a ys,v=.ref a/\H0 a=none/\zA≠some a/\H a=some (.lst ys)/\HdA K (hide a (hz zA H)) xs ys|.z,v=>∃ a,zA=some a/\v=.ref a
def RvP(K:Ã)(zA:Option Ç)(H:Hp):S->V->Prop
 |.d x,v=>Hd K (hz zA H) x v|.fr xs,v=>Hd K (hz zA H) (.lst xs) v|.z,v=>∃ a,zA=some a/\v=.ref a
section
variable {K:Ã}{zA:Option Ç}{H0 H H':Hp}
theorem RvS.pl{s:S}{v:V}(h:RvS K zA H0 H s v):RvP K zA H s v:=by
 cases s with
 |d x=>exact h|z=>exact h
 |fr xs =>
  obtain⟨a,ys,rfl,_,h2,h3,h4⟩:=h;exact Hd.lst (c70 h3 h2) (h4.same (d70 a _))
theorem RvP.plS{s:S}{v:V}(h:RvP K zA H s v):RvP K zA H (plS s) v:=by cases s <;> exact h
theorem RvP.mono{s:S}{v:V}(h:RvP K zA H s v)(e:Ext zA H H'):RvP K zA H' s v:=by
 cases s with
 |d x=>exact Hd.same e h|z=>exact h|fr xs=>exact Hd.same e h
theorem RvS.mono{s:S}{v:V}(h:RvS K zA H0 H s v)(e:Ext zA H H'):RvS K zA H0 H' s v:=by
 cases s with
 |d x=>exact Hd.same e h|z=>exact h
 |fr xs =>
  obtain⟨a,ys,rfl,h1,h2,h3,h4⟩:=h;exact⟨a,ys,rfl,h1,h2,e.at h3 h2,h4.same (y00 λb o _ q=>e b o q)⟩
theorem RvS.from{H1:Hp}{s:S}{v:V}(h:RvS K zA H1 H s v)(e:Ext zA H0 H1):RvS K zA H0 H s v:=by
 cases s with
 |d x=>exact h|z=>exact h
 |fr xs =>
  obtain⟨a,ys,rfl,h1,h2,h3⟩:=h;exact⟨a,ys,rfl,e.free h1 h2,h2,h3⟩
theorem RvP.d_{s:S}{v:V}{x:D}(h:RvP K zA H s v)(e:plD s=some x):Hd K (hz zA H) x v:=by
 cases s with
 |d y=>cases e;exact h
 |fr xs=>cases e;exact h
 |_=>cases e
end
abbrev RvA(K:Ã)(zA:Option Ç)(H:Hp):List S->List V->Prop:=Ä1 (RvP K zA H)
theorem RvA.mono{K:Ã}{zA:Option Ç}{H H':Hp}{l:List S}{vs:List V}(h:RvA K zA H l vs)(e:Ext zA H H'):RvA K zA H' l vs:=Ä1.a12 h λ_ _ q=>q.mono e
theorem RvA.plS{K:Ã}{zA:Option Ç}{H:Hp}:∀ {l:List S}{vs:List V},RvA K zA H l vs->RvA K zA H (l.map plS) vs
 |_,_,.nil=>.nil|_,_,.cons r t=>.cons r.plS (RvA.plS t)
theorem RvA.ds{K:Ã}{zA:Option Ç}{H:Hp}:∀ {l:List S}{vs:List V}{ds:List D},RvA K zA H l vs->plA l=some ds->HdA K (hz zA H) ds vs
 |_,_,_,.nil,e=>by cases e;exact .nil
 |.d x::r,_,_,.cons h t,e=>by
  simp only[plA,Ô6] at e;obtain⟨l,e,rfl⟩:=e;exact .cons h (RvA.ds t e)
 |.fr x::r,_,_,.cons h t,e=>by
  simp only[plA,Ô6] at e;obtain⟨l,e,rfl⟩:=e;exact .cons h (RvA.ds t e)
 |.z::r,_,_,.cons h t,e=>by simp[plA] at e
theorem h40(h:pl l=some x):∃ s,l=[s]/\plD s=some x:=by
 unfold pl at h;split at h
 ·exact⟨_,rfl,h⟩
 ·exact⟨_,rfl,h⟩
 ·cases h
theorem M.bind_some{α β:Type}{m:M α}{f:α->M β}{z:Z}{r:R β}(h:M.bind m f z=some r):(∃ a z1,m z=some (.ok a z1)/\f a z1=some r)∨(∃ c z1,m z=some (.er c z1)/\r=.er c z1):=by
 unfold M.bind at h;split at h
 ·exact .inl ⟨_,_,by assumption,h⟩
 ·cases h;exact .inr ⟨_,_,by assumption,rfl⟩
 ·cases h
theorem M.a40{α β:Type}{o:Option α}{f:α->M β}{z:Z}{r:R β}(h:M.bind (M.of o) f z=some r):∃ a,o=some a/\f a z=some r:=by
 cases o with
 |none=>cases h
 |some a=>exact⟨a,rfl,h⟩
end Q
set_option exponentiation.threshold 5000
namespace Q
open PySem L2 PySem.Spec PyProof.Rows
variable [TB:Tb]
section
variable {K:Ã}{zA:Option Ç}{z:Z}{H:Hp}
theorem F31(hp:H p=none):a30 (hz zA H) (hide p (hz zA (upd H p o))):=λb u e=>by
 obtain⟨e1,e2⟩:=m70 e;have hb:b≠p:=λq=>by subst q;rw[hp] at e1;cases e1
 exact l50 (c70 (by rw[a10 hb];exact e1) e2 (k60 e)) hb
theorem j30:RvS K zA H0 H (.d (.int i)) (.int i):=Hd.int (K:=K) (H:=hz zA H)
theorem j20:RvS K zA H0 H (.d (.bl b)) (.bl b):=Hd.bl (K:=K) (H:=hz zA H)
theorem A61(h:Hd K (hz zA H) x v):RvS K zA H0 H (.d x) v:=h
theorem k70(st:d80 zA z H)(h:HdA K (hz zA H) xs ys)(hp:H p=none):RvS K zA H (upd H p (.lst ys)) (.fr xs) (.ref p) :=
 ⟨p,ys,rfl,hp,st.Z40 hp,a60,h.same (F31 hp)⟩
theorem tupQ(st:d80 zA z H)(h:HdA K (hz zA H) xs ys)(q:∀ v H',a30 H H'->RvS K zA H H' (.d (.tup xs)) v->Q v H'):D31 K H ys Q :=
 λp H' sm hq=>q _ _ sm (A61 (Hd.tup ((st.same sm).L61 hq) (h.same (g80 sm))))
end
def rD2(K:Ã)(f:D->D->Option S):R2:=λx y H Q=>∃ zA z dx dy s,d80 zA z H/\Hd K (hz zA H) dx x/\Hd K (hz zA H) dy y/\f dx dy=some s/\∀ v H',a30 H H'->RvS K zA H H' s v->Q v H'
def rDn(K:Ã)(f:List D->Option S):List V->Hp->VK->Prop:=λxs H Q=>∃ zA z ds s,d80 zA z H/\HdA K (hz zA H) ds xs/\f ds=some s/\∀ v H',a30 H H'->RvS K zA H H' s v->Q v H'
section
variable {X:Cx}
theorem bits_le(h:k.natAbs < p41):Ý2 k<=4000:=by
 unfold Ý2;split
 ·exact Æ7 _
 ·have hn:k.natAbs < 2 ^ 4000:=h;have:k.natAbs.log2 < 4000:=by
   rcases Nat.eq_zero_or_pos k.natAbs with h0 | hp
   ·rw[h0];decide
   ·exact(Nat.log2_lt (Ç4 hp)).mpr hn
  omega
theorem f92(hi:i.natAbs < p41)(hj:j.natAbs < p41):IntMulOk i j:=by
 have h1:=bits_le hi;have h2:=bits_le hj;unfold IntMulOk;intro h;rw[Á] at h;have h3:=h.2;unfold û.Int.intTooBig at h3;simp only[decide_eq_true_eq] at h3;have:(8000:Nat) < bitsLine:=by decide
 omega
theorem q01(hj:j.natAbs < p41):û.divisionGoesByPylong i j=false:=by
 refine PyProof.noPylong_of_log2 ?_;rcases Nat.eq_zero_or_pos j.natAbs with h0 | hp
 ·rw[h0];decide
 ·have:j.natAbs.log2 < 4000:=(Nat.log2_lt (Ç4 hp)).mpr hj;omega
theorem g20(h:n<=most):n<=sizeLine:=â h (by rw[ò];decide)
def t62(K:Ã):R2:=λx y H Q=>∃ l b xs zs,x=.ref l/\y=.ref b/\o00 K H l xs/\o00 K H b zs/\xs.length + zs.length<=sizeLine/\∀ p,H p=none->Q (.ref p) (upd H p (.lst (xs++zs)))
def t72(K:Ã):R2:=λx y H Q=>∃ l k xs,x=.ref l/\y=.int k/\o00 K H l xs/\-(2 ^ 63)<=k/\k < 2 ^ 63/\xs.length * k.toNat<=sizeLine/\∀ p,H p=none->Q (.ref p) (upd H p (.lst (î k.toNat xs).flatten))
theorem T31:OpR X (Å8 .Add) (t62 X.K):=by
 intro pins s σ H x y v u Q I rx ry h;obtain⟨l,b,xs,zs,rfl,rfl,hH,hB,hz,q⟩:=h;cases rx;cases ry;obtain⟨z,its,n,r,hl,e⟩:=hH.mem I;obtain⟨z2,its2,n2,r2,hl2,e2⟩:=hB.mem I;refine PySem.P.add_list e e2 ?_ (by rw[Ø,Ø];omega)
 have ea:its.toArray++its2.toArray=(its++its2).toArray:=by simp
 rw[ea];exact⟨.ref _,_,I.s32 (t':=s.toks) (r.append r2) (by rw[À6];omega),rfl,q _ I.fresh⟩
theorem T41:OpR X (Å8 .Mult) (t72 X.K):=by
 intro pins s σ H x y v u Q I rx ry h;obtain⟨l,k,xs,rfl,rfl,hH,h1,h2,hz,q⟩:=h;cases rx;obtain⟨t,rfl⟩:=ry;obtain⟨z,its,n,r,hl,e⟩:=hH.mem I;have hlen:its.toArray.size * k.toNat<=sizeLine:=by rw[Ø,← hl];exact hz
 have hcap:¬ its.toArray.size * k.toNat > (2 ^ 63 - 1) / 8:=by
  have:(sizeLine:Nat)<=(2 ^ 63 - 1) / 8:=by decide
  omega
 have hfit:¬ (!û.List.listFitsIndex k)=true:=by
  rw[fitsIndex_both h1 h2];exact Ñ
 have hlong:¬ Ì9 (its.toArray.size * k.toNat)=true:=by
  rw[C01 hlen];exact Ñ
 have hnew:foldl (λx1 x2=>x1++x2) #[] (î (if its.toArray.isEmpty=true then 0 else k.toNat) its.toArray)=(î k.toNat its).flatten.toArray:=by
  have f0:∀ m:Nat,foldl (λx1 x2=>x1++x2) #[] (î m its.toArray)=(î m its).flatten.toArray:=λm=>by
   have:=foldl_rep its m [];rw[Ô1] at this;exact this
  rw[f0];cases its with
  |nil=>simp|cons a r'=>rw[if_neg (by simp)]
 refine wpAny_binaryOp_repeat_ref (T:="list") (U:="int") (-0) ⟨_,e,rfl⟩ (λs'=>Ú6 s' k t) noFill_list_mul F.fills_int_mul Õ1 repeat_list F.slot_int_index.lookup
  (Ë6 Õ1 (Ú6 s k t) F.entry_int_rmul (F.args_int_rmul_2 _ _) (int___rmul___int_list k t l its.toArray n)
   ⟨e,rfl,⟨_,e,rfl⟩,Ë6 F.slot_list_mul ⟨_,e,rfl⟩ F.entry_list_mul (F.args_list_mul_2 _ _) (AutoListH.list___mul___list_int_3 l its.toArray n k t hfit hcap hlong) ⟨e,?_⟩⟩)
 rw[hnew];exact⟨.ref _,_,I.s32 (t':=s.toks) (r.rep k.toNat) (by rw[len_rep,Ù8];exact hz),rfl,q _ I.fresh⟩
theorem T51:OpR X (Å8 .Add) (rD2 X.K (H30 .add)):=by
 intro pins s σ H x y v u Q I rx ry h;obtain⟨zA,z,dx,dy,w,st,hx,hy,e,q⟩:=h;cases dx with
 |int i =>
  cases dy with
  |int j =>
   cases e;cases hx.j10;cases hy.j10;exact c82 pins s σ H _ _ v u Q I rx ry ⟨i,j,rfl,rfl,q _ _ (a30.refl H) j30⟩
  |_=>cases e
 |tup a =>
  cases dy with
  |tup b =>
   obtain⟨hl,e⟩:=e50 e;cases e;obtain⟨p,xs,rfl,h1,h2⟩:=hx.u70;obtain⟨p',ys,rfl,h3,h4⟩:=hy.u70;exact Q81 pins s σ H _ _ v u Q I rx ry ⟨p,p',xs,ys,rfl,rfl,(a00 zA H).sqT h1,(a00 zA H).sqT h3,g20 (by rw[h2.length,h4.length];exact hl),tupQ st (h2.append h4) q⟩
  |_=>cases e
 |lst a =>
  cases dy with
  |lst b =>
   obtain⟨hl,e⟩:=e50 e;cases e;obtain⟨p,xs,rfl,h1,h2⟩:=hx.S60;obtain⟨p',ys,rfl,h3,h4⟩:=hy.S60;exact T31 pins s σ H _ _ v u Q I rx ry ⟨p,p',xs,ys,rfl,rfl,h1.same (a00 zA H),h3.same (a00 zA H),g20 (by rw[h2.length,h4.length];exact hl),λr hr=>q _ _ (a30.new _ hr) (k70 st (h2.append h4) hr)⟩
  |_=>cases e
 |_=>cases e
theorem T61:OpR X (Å8 .Sub) (rD2 X.K (H30 .sub)):=by
 intro pins s σ H x y v u Q I rx ry h;obtain⟨zA,z,dx,dy,w,st,hx,hy,e,q⟩:=h;cases dx with
 |int i =>
  cases dy with
  |int j =>
   cases e;cases hx.j10;cases hy.j10;exact c92 pins s σ H _ _ v u Q I rx ry ⟨i,j,rfl,rfl,q _ _ (a30.refl H) j30⟩
  |_=>cases e
 |_=>cases e
theorem T71:OpR X (Å8 .Mult) (rD2 X.K (H30 .mul)):=by
 intro pins s σ H x y v u Q I rx ry h;obtain⟨zA,z,dx,dy,w,st,hx,hy,e,q⟩:=h;cases dx with
 |int i =>
  cases dy with
  |int j =>
   obtain⟨hl,e⟩:=e50 e;cases e;cases hx.j10;cases hy.j10;obtain⟨t,rfl⟩:=rx;obtain⟨t',rfl⟩:=ry;exact mul_int ⟨.int (i * j),H,I.tok _,⟨_,rfl⟩,q _ _ (a30.refl H) j30⟩ (f92 hl.1 hl.2)
  |_=>cases e
 |tup a =>
  cases dy with
  |int j =>
   obtain⟨hl,e⟩:=e50 e;cases e;cases hy.j10;obtain⟨p,xs,rfl,h1,h2⟩:=hx.u70;exact Q91 pins s σ H _ _ v u Q I rx ry ⟨p,j,xs,rfl,rfl,(a00 zA H).sqT h1,hl.1,hl.2.2,g20 (by rw[h2.length];exact hl.2.1),tupQ st (h2.rep _) q⟩
  |_=>cases e
 |lst a =>
  cases dy with
  |int j =>
   obtain⟨hl,e⟩:=e50 e;cases e;cases hy.j10;obtain⟨p,xs,rfl,h1,h2⟩:=hx.S60;exact T41 pins s σ H _ _ v u Q I rx ry ⟨p,j,xs,rfl,rfl,h1.same (a00 zA H),by omega,by omega,g20 (by rw[h2.length,Ù8];exact hl.2.1),λr hr=>q _ _ (a30.new _ hr) (k70 st (h2.rep _) hr)⟩
  |_=>cases e
 |_=>cases e
theorem F41:OpR X (Å8 .FloorDiv) (rD2 X.K (H30 .fdiv)):=by
 intro pins s σ H x y v u Q I rx ry h;obtain⟨zA,z,dx,dy,w,st,hx,hy,e,q⟩:=h;cases dx with
 |int i =>
  cases dy with
  |int j =>
   obtain⟨hl,e⟩:=e50 e;cases e;cases hx.j10;cases hy.j10;obtain⟨t,rfl⟩:=rx;obtain⟨t',rfl⟩:=ry;refine floordiv_int ∅ ⟨.int (i / j),H,I.tok _,⟨s.toks,?_⟩,q _ _ (a30.refl H) j30⟩ (.inl (q01 hl.2))
   rw[Int.fdiv_eq_ediv_of_nonneg _ ∅]
  |_=>cases e
 |_=>cases e
theorem T81:OpR X (Å8 .Mod) (rD2 X.K (H30 .mod)):=by
 intro pins s σ H x y v u Q I rx ry h;obtain⟨zA,z,dx,dy,w,st,hx,hy,e,q⟩:=h;cases dx with
 |int i =>
  cases dy with
  |int j =>
   obtain⟨hl,e⟩:=e50 e;cases e;cases hx.j10;cases hy.j10;exact d02 pins s σ H _ _ v u Q I rx ry ⟨i,j,rfl,rfl,hl,q _ _ (a30.refl H) j30⟩
  |_=>cases e
 |_=>cases e
theorem T91:OpR X (Å8 .Pow) (rD2 X.K (H30 .pow)):=by
 intro pins s σ H x y v u Q I rx ry h;obtain⟨zA,z,dx,dy,w,st,hx,hy,e,q⟩:=h;cases dx with
 |int i =>
  cases dy with
  |int j =>
   obtain⟨hl,e⟩:=e50 e;cases e;cases hx.j10;cases hy.j10;exact d12 pins s σ H _ _ v u Q I rx ry ⟨i,j,rfl,rfl,⟨hl.1,by omega,hl.2.2⟩,q _ _ (a30.refl H) j30⟩
  |_=>cases e
 |_=>cases e
def opB:Bi->Operator
 |.add=>.Add | .sub=>.Sub | .mul=>.Mult | .fdiv=>.FloorDiv | .mod=>.Mod | .pow=>.Pow
theorem opD(o:Bi):OpR X (Å8 (opB o)) (rD2 X.K (H30 o)):=by
 cases o
 ·exact T51
 ·exact T61
 ·exact T71
 ·exact F41
 ·exact T81
 ·exact T91
mutual
noncomputable def toP:D->PyData
 |.non=>.none|.bl b=>.bool b|.int i=>.int i|.str x=>.str x|.tup l=>.tuple (H60 l)|.lst l=>.list (H60 l)|.dct=>.none
noncomputable def H60:List D->List PyData
 |[]=>[]|x::r=>toP x::H60 r
end
end
end Q
namespace Q
open PySem L2 PySem.Spec PyProof.Rows
variable [TB:Tb]
mutual
theorem O50:∀ a b:D,m40 a=true->m40 b=true->Û4 (toP a) (toP b)=eqD a b
 |.non,b,_,h=>by cases b <;> first | rfl | (simp[m40] at h)
 |.bl _,b,_,h=>by cases b <;> first | rfl | (simp[m40] at h)
 |.int _,b,_,h=>by cases b <;> first | rfl | (simp[m40] at h)
 |.str _,b,_,h=>by cases b <;> first | rfl | (simp[m40] at h)
 |.tup l,b,ha,h=>by
  cases b with
  |tup q =>
   exact U30 l q (by simpa [m40] using ha) (by simpa [m40] using h)
  |dct=>simp[m40] at h|_=>rfl
 |.lst l,b,ha,h=>by
  cases b with
  |lst q =>
   exact U30 l q (by simpa [m40] using ha) (by simpa [m40] using h)
  |dct=>simp[m40] at h|_=>rfl
 |.dct,_,h,_=>by simp[m40] at h
theorem U30:∀ a b:List D,e10 a=true->e10 b=true->PyData.eqvAll (H60 a) (H60 b)=F01 a b
 |[],[],_,_=>rfl|[],_::_,_,_=>rfl|_::_,[],_,_=>rfl
 |x::r,y::q,ha,hb=>by
  simp only[e10,Á] at ha hb;simp only[H60,PyData.eqvAll,F01];rw[O50 x y ha.1 hb.1,U30 r q ha.2 hb.2]
end
mutual
theorem u80:∀ a:D,m40 a=true->(toP a).canLay0=true
 |.non,_=>rfl|.bl _,_=>rfl|.int _,_=>rfl|.str _,h=>h|.tup l,h=>p20 l h|.lst l,h=>p20 l h|.dct,h=>by cases h
theorem p20:∀ a:List D,e10 a=true->PyData.canLayAll0 (H60 a)=true
 |[],_=>rfl
 |x::r,h=>by
  simp only[e10,Á] at h;simp only[H60,PyData.canLayAll0,u80 x h.1,p20 r h.2,Bool.and_self]
end
mutual
theorem H70:∀ a:D,(toP a).depth=deep a
 |.non=>rfl|.bl _=>rfl|.int _=>rfl|.str _=>rfl|.tup l=>congrArg (· + 1) (H80 l)|.lst l=>congrArg (· + 1) (H80 l)|.dct=>rfl
theorem H80:∀ a:List D,Ò5 (H60 a)=f20 a
 |[]=>rfl
 |x::r=>by
  simp only[H60,Ò5,f20];rw[H70 x,H80 r]
end
def g81(h:é)(u:Ä)(d:D):Prop:=m40 d=true/\∃ as,Reads h u (toP d) as
def e20(h:é)(us:List Ä)(ds:List D):Prop:=e10 ds=true/\∃ as,ReadsAll h us (H60 ds) as
section
variable {X:Cx}{pins:List (Ç × Obj)}{σ:L2.St}{H:Hp}{s:Æ}
mutual
theorem i40(I:Inv X pins σ H s):∀ {d:D}{v:V}{u:Ä},Hd X.K H d v->RelV v u->m40 d=true->∃ as,Reads s.heap u (toP d) as
 |.non,_,_,h,r,_=>by cases h.C22;cases r;exact⟨_,.none⟩
 |.bl b,_,_,h,r,_=>by cases h.bl_;cases r;exact⟨_,.bool b⟩
 |.int i,_,_,h,r,_=>by cases h.j10;obtain⟨t,rfl⟩:=r;exact⟨_,.int i t⟩
 |.str x,_,_,h,r,_=>by cases h.C32;obtain⟨t,rfl⟩:=r;exact⟨_,.str x t⟩
 |.tup l,_,_,h,r,f=>by
  obtain⟨a,xs,rfl,h1,h2⟩:=h.u70;cases r;obtain⟨its,rv,⟨o,e1,e2,n,e3⟩,_⟩:=I.tuple h1;obtain⟨as,ra⟩:=H90 I h2 rv f;exact⟨_,.tuple e1 e2 e3 (by simpa using ra)⟩
 |.lst l,_,_,h,r,f=>by
  obtain⟨a,xs,rfl,h1,h2⟩:=h.S60;cases r;obtain⟨its,rv,⟨o,n,e1,e2,_,e3⟩,_⟩:=I.list h1.sq;obtain⟨as,ra⟩:=H90 I h2 rv f;exact⟨_,.list e1 e2 e3 (by simpa using ra)⟩
 |.dct,_,_,_,_,f=>by cases f
theorem H90(I:Inv X pins σ H s):∀ {ds:List D}{vs:List V}{us:List Ä},HdA X.K H ds vs->Vals vs us->e10 ds=true->∃ as,ReadsAll s.heap us (H60 ds) as
 |[],_,_,h,r,_=>by cases h.e40;cases r;exact⟨_,.nil⟩
 |d::ds,_,_,h,r,f=>by
  obtain⟨x,xs,rfl,h1,h2⟩:=h.c00;cases r with
  |cons r1 r2 =>
   simp only[e10,Á] at f;obtain⟨_,a1⟩:=i40 I h1 r1 f.1;obtain⟨_,a2⟩:=H90 I h2 r2 f.2;exact⟨_,.cons a1 a2⟩
end
end
theorem n00(h:okD d=true):m40 d=true/\SeqAt.shaped (toP d)=true:=by
 unfold okD at h;rw[Á,decide_eq_true_eq] at h;refine⟨h.1,?_⟩;unfold SeqAt.shaped;rw[u80 d h.1,H70,Å5,decide_eq_true_eq];omega
section
variable {X:Cx}
theorem g02(h:eqE a b=some c):∃ l,a=.tup l/\b=.tup []/\c=l.isEmpty:=by
 unfold eqE at h;split at h
 ·cases h;exact⟨_,rfl,rfl,rfl⟩
 ·cases h
theorem g12(hu:X.A.units + 64 < Å7):OpR X (Á2 .Eq) (rD2 X.K λa b=>(eqQ a b).map λc=>.d (.bl c)):=by
 intro pins s σ H x y v u Q I rx ry h;obtain⟨zA,z,dx,dy,w,st,hx,hy,e,q⟩:=h;unfold eqQ at e;dsimp only at e;split at e
 ·rename_i ok;cases e;rw[Á] at ok;obtain⟨f1,s1⟩:=n00 ok.1;obtain⟨f2,s2⟩:=n00 ok.2;obtain⟨as,r1⟩:=i40 I (hx.same (a00 zA H)) rx f1;obtain⟨bs,r2⟩:=i40 I (hy.same (a00 zA H)) ry f2;exact eq_dataH r1 r2 s1 s2 hu ⟨.bl _,H,I,rfl,by rw[O50 dx dy f1 f2];exact q _ _ (a30.refl H) j20⟩
 ·obtain⟨c,h1,h2⟩:=Í.mp e;obtain⟨l,rfl,rfl,rfl⟩:=g02 h1;subst h2;obtain⟨a,xs,rfl,k1,k2⟩:=hx.u70;obtain⟨b,ys,rfl,k3,k4⟩:=hy.u70;cases k4.e40;cases rx;cases ry;obtain⟨its,rv,ht,_⟩:=I.tuple ((a00 zA H).sqT k1);obtain⟨iu,ru,hu2,_⟩:=I.tuple ((a00 zA H).sqT k3);cases ru;have e1:its.length=l.length:=by rw[← rv.length,k2.length]
  refine SeqAt.eq_tupleAt (e:=λ_=>true) ht hu2 ∅ (λj _ h2=>absurd h2 (Õ8 j)) ⟨.bl _,H,I,rfl,?_⟩
  have e2:((ì (min its.toArray.size ([]:List Ä).toArray.size)).all (λ_=>true)&&its.toArray.size == ([]:List Ä).toArray.size)=l.isEmpty:=by
   simp only[Ø,Â5,Nat.min_zero,List.range_zero,all_nil,Å5,e1];cases l <;> rfl
  rw[e2];exact q _ _ (a30.refl H) j20
theorem g22(hu:X.A.units + 64 < Å7):OpR X (Á2 .NotEq) (rD2 X.K λa b=>(eqO a b).map λc=>.d (.bl !c)):=by
 intro pins s σ H x y v u Q I rx ry h;obtain⟨zA,z,dx,dy,w,st,hx,hy,e,q⟩:=h;unfold eqO at e;dsimp only at e;split at e
 ·rename_i ok;cases e;rw[Á] at ok;obtain⟨f1,s1⟩:=n00 ok.1;obtain⟨f2,s2⟩:=n00 ok.2;obtain⟨as,r1⟩:=i40 I (hx.same (a00 zA H)) rx f1;obtain⟨bs,r2⟩:=i40 I (hy.same (a00 zA H)) ry f2;exact ne_dataH r1 r2 s1 s2 hu ⟨.bl _,H,I,rfl,by rw[O50 dx dy f1 f2];exact q _ _ (a30.refl H) j20⟩
 ·cases e
theorem U01(hu:X.A.units + 64 < Å7):OpR X (Á2 .NotEq) (rD2 X.K λa b=>(neO a b).map λc=>.d (.bl c)):=by
 intro pins s σ H x y v u Q I rx ry h;obtain⟨zA,z,dx,dy,w,st,hx,hy,e,q⟩:=h;unfold neO at e;dsimp only at e;split at e
 ·cases e;unfold Hd at hx;obtain⟨a,kvs,rfl,h1⟩:=hx;obtain⟨b,xs,rfl,h2,_⟩:=hy.u70;exact R21 hu pins s σ H _ _ v u Q I rx ry ⟨a,b,kvs,xs,rfl,rfl,(m70 h1).1,(a00 zA H).sqT h2,q _ _ (a30.refl H) j20⟩
 ·refine g22 hu pins s σ H _ _ v u Q I rx ry ⟨zA,z,dx,dy,w,st,hx,hy,?_,q⟩;rw[← e,Option.map_map];rfl
end
theorem I00(h:B60 l=true):e10 l=true/\f20 l<=39:=by
 unfold B60 at h;rw[Á,decide_eq_true_eq] at h;exact h
theorem I10(h:okD d=true):deep d<=40:=by
 unfold okD at h;rw[Á,decide_eq_true_eq] at h;exact h.2
theorem z30(x:D)(fx:m40 x=true):∀ l:List D,e10 l=true->((H60 l).any λy=>Û4 y (toP x))=memD x l
 |[],_=>rfl
 |y::r,h=>by
  simp only[e10,Á] at h;show(Û4 (toP y) (toP x) || (H60 r).any λy=>Û4 y (toP x))=(eqD y x || memD x r);rw[O50 y x h.1 fx,z30 x fx r h.2]
section
variable {X:Cx}
theorem I20(h:F11 x l=some b):okD x=true/\B60 l=true/\b=memD x l:=by
 unfold F11 at h;split at h
 ·rename_i ok;rw[Á] at ok;cases h;exact⟨ok.1,ok.2,rfl⟩
 ·cases h
theorem room_in{A:õ}(hu:A.units + 64 < Å7){l:List D}{x:D}(h:okD x=true):A.units + 1 + min (Ò5 (H60 l)) (toP x).depth < cLine:=by
 have h1:=I10 h;have h2:min (Ò5 (H60 l)) (toP x).depth<=(toP x).depth:=Nat.min_le_right _ _;have h3:=H70 x;omega
theorem U11(hu:X.A.units + 64 < Å7):OpR X (Á2 .In) (rD2 X.K λa b=>(y90 .mem a b).map λc=>.d (.bl c)):=by
 intro pins s σ H x y v u Q I rx ry h;obtain⟨zA,z,dx,dy,w,st,hx,hy,e,q⟩:=h;cases dy with
 |tup l =>
  obtain⟨b,e1,e2⟩:=Í.mp e;subst e2;obtain⟨o1,o2,rfl⟩:=I20 e1;obtain⟨f2,_⟩:=I00 o2;obtain⟨f1,_⟩:=n00 o1;obtain⟨as,r1⟩:=i40 I (hx.same (a00 zA H)) rx f1;obtain⟨bs,r2⟩:=i40 I (hy.same (a00 zA H)) ry (by simpa [m40] using f2)
  exact SeqAt.in_tuple_reads r2 r1 (p20 l f2) (u80 dx f1) (room_in hu o1) ⟨.bl _,H,I,rfl,by rw[z30 dx f1 l f2];exact q _ _ (a30.refl H) j20⟩
 |lst l =>
  obtain⟨b,e1,e2⟩:=Í.mp e;subst e2;obtain⟨o1,o2,rfl⟩:=I20 e1;obtain⟨f2,_⟩:=I00 o2;obtain⟨f1,_⟩:=n00 o1;obtain⟨as,r1⟩:=i40 I (hx.same (a00 zA H)) rx f1;obtain⟨bs,r2⟩:=i40 I (hy.same (a00 zA H)) ry (by simpa [m40] using f2)
  exact SeqAt.in_list_reads r2 r1 (p20 l f2) (u80 dx f1) (room_in hu o1) ⟨.bl _,H,I,rfl,by rw[z30 dx f1 l f2];exact q _ _ (a30.refl H) j20⟩
 |_=>cases e
theorem F51(hu:X.A.units + 64 < Å7):OpR X (Á2 .NotIn) (rD2 X.K λa b=>(y90 .nmem a b).map λc=>.d (.bl c)):=by
 intro pins s σ H x y v u Q I rx ry h;obtain⟨zA,z,dx,dy,w,st,hx,hy,e,q⟩:=h;cases dy with
 |tup l =>
  obtain⟨b,e1,e2⟩:=Í.mp e;subst e2;obtain⟨b',e3,rfl⟩:=Í.mp e1;obtain⟨o1,o2,rfl⟩:=I20 e3;obtain⟨f2,_⟩:=I00 o2;obtain⟨f1,_⟩:=n00 o1;obtain⟨as,r1⟩:=i40 I (hx.same (a00 zA H)) rx f1;obtain⟨bs,r2⟩:=i40 I (hy.same (a00 zA H)) ry (by simpa [m40] using f2)
  exact SeqAt.notIn_tuple_reads r2 r1 (p20 l f2) (u80 dx f1) (room_in hu o1) ⟨.bl _,H,I,rfl,by rw[z30 dx f1 l f2];exact q _ _ (a30.refl H) j20⟩
 |lst l =>
  obtain⟨b,e1,e2⟩:=Í.mp e;subst e2;obtain⟨b',e3,rfl⟩:=Í.mp e1;obtain⟨o1,o2,rfl⟩:=I20 e3;obtain⟨f2,_⟩:=I00 o2;obtain⟨f1,_⟩:=n00 o1;obtain⟨as,r1⟩:=i40 I (hx.same (a00 zA H)) rx f1;obtain⟨bs,r2⟩:=i40 I (hy.same (a00 zA H)) ry (by simpa [m40] using f2)
  exact SeqAt.notIn_list_reads r2 r1 (p20 l f2) (u80 dx f1) (room_in hu o1) ⟨.bl _,H,I,rfl,by rw[z30 dx f1 l f2];exact q _ _ (a30.refl H) j20⟩
 |_=>cases e
end
end Q
namespace Q
open PySem L2 PySem.Spec PyProof.Rows
variable [TB:Tb]
def t82(A:õ)(s:Æ)(v u:Ä)(b:Bool):Prop:=∀ (P:Ý) (w:ç) (E:Ä->Æ->Prop) (Q:Ä->Æ->Prop),Q (.bool b) s->Ï (Õ P w) A (richCompare .Lt v u) Q E s
section
open PySem.SeqAt
open PySem.AutoSeq1 (wpAny_loadPart')
open PySem.MeetsSeq PySem.MeetsSeq2 PySem.MeetsSeq3
inductive Lx (A:Around) (s:Shared):List Value->List Value->Bool->Prop
 |nn:Lx A s [] [] false
 |nc {u us}:Lx A s [] (u::us) true
 |cn {v vs}:Lx A s (v::vs) [] false
 |eq {v u vs us b}:EqAt A s v u true->Lx A s vs us b->Lx A s (v::vs) (u::us) b
 |ne {v u vs us b}:EqAt A s v u false->t82 A s v u b->Lx A s (v::vs) (u::us) b
theorem U40(l b:Ç)(items items2:Array Ä)(n n2:Nat)(dd dd2:Option Ç)(sl sl2:Array (Option Ä))(c:Bool) :
  Meets (û.«tuple.__lt__» ⟨[.ref l,.ref b],[]⟩)
   (λA R s=>s.heap.get? l=some { cls:=.type "tuple",dict:=dd,data:=.seq items n,slots:=sl }/\s.heap.get? b=some { cls:=.type "tuple",dict:=dd2,data:=.seq items2 n2,slots:=sl2 } /\
    Lx A.in1 s items.toList items2.toList c/\R (.ok (.ret (.bool c))) s) :=
 .of_wp λprog w A R s h=>by
  obtain⟨hp,g,d,tk,os⟩:=s;obtain⟨hl,hb,hx,h⟩:=h;have f2:=Û6
  wp_walk using Å1 hl,Å1 hb,wpAny_forIn_list _ (λrest b s'=>b.1=none/\s'=⟨hp,g,d,tk,os⟩/\∃ (vs ws:List Ä),rest=vs.zip ws /\
   vs.length + items2.size=ws.length + items.size/\Lx A.in1 ⟨hp,g,d,tk,os⟩ vs ws c) _
  case turn =>
   rintro ⟨y,x⟩ rest b s' ⟨hb',rfl,vs,ws,hz,hlen,hR⟩;cases hR with
   |nn=>rw[Ù1] at hz;cases hz
   |nc=>rw[Ù1] at hz;cases hz
   |cn=>rw[List.zip_nil_right] at hz;cases hz
   |eq he hr =>
    rw[É7] at hz;injection hz with hyx hrest;injection hyx with hy hx';subst hy hx';simp only[à] at hlen;refine À (he prog w _ _ ?_)
    wp_walk
    exact⟨rfl,rfl,_,_,hrest,by omega,hr⟩
   |ne he hr =>
    rw[É7] at hz;injection hz with hyx hrest;injection hyx with hy hx';subst hy hx';refine À (he prog w _ _ ?_);have hri:=λE Q q=>hr prog w E Q q
    wp_walk using hri
    exact⟨_,rfl,by simpa using h⟩
  case fin =>
   rintro ⟨b1,b2⟩ s' ⟨hb',rfl,vs,ws,hz,hlen,hR⟩;simp only at hb';subst hb';have hv:c=decide (items.size < items2.size):=by
    cases hR with
    |nn=>simp only[Â5] at hlen;exact(decide_eq_false ∅).symm|nc=>simp only[Â5,à] at hlen;exact(decide_eq_true ∅).symm|cn=>simp only[Â5,à] at hlen;exact(decide_eq_false ∅).symm|eq he hr=>rw[É7] at hz;cases hz
    |ne he hr=>rw[É7] at hz;cases hz
   rw[hv] at h
   wp_walk
   exact⟨_,rfl,by simpa [tupleCompareSizes] using h⟩
  case h =>
   exact⟨rfl,rfl,items.toList,items2.toList,rfl,by simp;omega,hx⟩
end
theorem q11(hl:Ñ8 s.heap l i1)(hb:Ñ8 s.heap b i2)(hu:A.units < Å7)(hx:Lx A.in1 s i1.toList i2.toList c):t82 A s (.ref l) (.ref b) c:=by
 intro P w E Q h;obtain⟨⟨cls,dd,data,sl⟩,ho,hc,n,hd⟩:=id hl;obtain⟨⟨cls2,dd2,data2,sl2⟩,ho2,hc2,n2,hd2⟩:=id hb;simp only at hc hd hc2 hd2;subst hc hd hc2 hd2;exact richCompare_meets_room (op:=.Lt) ⟨_,ho,rfl⟩ ⟨_,ho2,rfl⟩ PySem.F.slot_tuple_lt PySem.F.entry_tuple_lt (PySem.F.args_tuple_lt_2 _ _) (U40 l b i1 i2 n n2 dd dd2 sl sl2 c)
  ⟨ho,ho2,hx,show Î2 c≠Ô8/\Q (.bool c) s from⟨(λx=>nomatch x),h⟩⟩ hu
theorem g32(ha:g81 s.heap v a)(hb:g81 s.heap u b)(hu:A.units + deep a < Å7):Ö8 A s v u (eqD a b):=by
 obtain⟨f1,as,r1⟩:=ha;obtain⟨f2,bs,r2⟩:=hb;rw[← O50 a b f1 f2];have h:=H70 a;have h2:min (toP a).depth (toP b).depth<=(toP a).depth:=Nat.min_le_left _ _;exact SeqAt.eqAt_reads (toP a) (toP b) A s v u as bs r1 r2 (u80 a f1) (u80 b f2) ∅
theorem e20.c00(x:e20 h us (d::ds)):∃ u r,us=u::r/\g81 h u d/\e20 h r ds:=by
 obtain⟨f,as,r⟩:=x;simp only[e10,Á] at f;cases r with
 |cons r1 r2=>exact⟨_,_,rfl,⟨f.1,_,r1⟩,f.2,_,r2⟩
theorem e20.e40(x:e20 h us []):us=[]:=by
 obtain⟨_,as,r⟩:=x;cases r;rfl
theorem in1_units(A:õ):A.in1.units=A.units + 1:=rfl
theorem g42:∀ (n:Nat) {A:õ}{s:Æ},
  (∀ (a b:D) (v u:Ä) (c:Bool),deep a<=n->g81 s.heap v a->g81 s.heap u b->ltD a b=some c->A.units + n < Å7->t82 A s v u c) /\
  (∀ (a b:List D) (vs us:List Ä) (c:Bool),f20 a < n->e20 s.heap vs a->e20 s.heap us b->S91 a b=some c->A.units + n < Å7->Lx A.in1 s vs us c):=by
 intro n
 induction n with
 |zero =>
  intro A s;refine⟨λa b v u c hd ha hb e hu=>?_,λa b vs us c hd=>absurd hd (Õ8 _)⟩;cases a with
  |int i =>
   cases b with
   |int j =>
    cases e;obtain⟨_,_,r1⟩:=ha;obtain⟨_,_,r2⟩:=hb;cases r1;cases r2;exact λP w E Q h=>HT.Y30 A s i _ j _ P w E Q h
   |_=>cases e
  |tup l=>simp[deep] at hd|_=>cases e
 |succ n ih =>
  have rows:∀ {A:õ}{s:Æ} (a b:List D) (vs us:List Ä) (c:Bool),f20 a < n + 1->e20 s.heap vs a->e20 s.heap us b->S91 a b=some c->A.units + (n + 1) < Å7->Lx A.in1 s vs us c:=by
   intro A s a
   induction a with
   |nil =>
    intro b vs us c _ ha hb e hu;cases ha.e40;cases b with
    |nil=>cases hb.e40;cases e;exact .nn
    |cons y q=>obtain⟨u,r,rfl,_⟩:=hb.c00;cases e;exact .nc
   |cons x r ihr =>
    intro b vs us c hd ha hb e hu;obtain⟨v,vs',rfl,a1,a2⟩:=ha.c00;cases b with
    |nil=>cases hb.e40;cases e;exact .cn
    |cons y q =>
     obtain⟨u,us',rfl,b1,b2⟩:=hb.c00;simp only[f20] at hd;have d1:deep x<=n:=Nat.le_of_lt_succ (Ê3 (Nat.le_max_left _ _) hd);have d2:f20 r < n + 1:=Ê3 (Nat.le_max_right _ _) hd;have hu1:A.in1.units + n < cLine:=by rw[in1_units];omega
     have he:=g32 (A:=A.in1) a1 b1 ∅
     simp only[S91] at e;cases hq:eqD x y with
     |true =>
      rw[hq] at he e;exact .eq he (ihr q vs' us' c d2 a2 b2 (by simpa using e) hu)
     |false =>
      rw[hq] at he e;exact .ne he ((ih (A:=A.in1) (s:=s)).1 x y v u c d1 a1 b1 (by simpa using e) hu1)
  intro A s;refine⟨λa b v u c hd ha hb e hu=>?_,rows⟩;cases a with
  |int i =>
   cases b with
   |int j =>
    cases e;obtain⟨_,_,r1⟩:=ha;obtain⟨_,_,r2⟩:=hb;cases r1;cases r2;exact λP w E Q h=>HT.Y30 A s i _ j _ P w E Q h
   |_=>cases e
  |tup l =>
   cases b with
   |tup q =>
    obtain⟨f1,as,r1⟩:=ha;obtain⟨f2,bs,r2⟩:=hb;simp only[deep] at hd;cases r1 with
    |tuple k1 k2 k3 k4 =>
     cases r2 with
     |tuple m1 m2 m3 m4 =>
      exact q11 ⟨_,k1,k2,_,k3⟩ ⟨_,m1,m2,_,m3⟩ ∅ (rows l q _ _ c ∅ ⟨by simpa [m40] using f1,_,k4⟩ ⟨by simpa [m40] using f2,_,m4⟩ e hu)
   |_=>cases e
  |_=>cases e
section
variable {X:Cx}
theorem g52(h:ltO a b=some c):okD a=true/\okD b=true/\ltD a b=some c:=by
 unfold ltO at h;split at h
 ·rename_i ok;rw[Á] at ok;exact⟨ok.1,ok.2,h⟩
 ·cases h
theorem g62(hu:X.A.units + 64 < Å7):OpR X (Á2 .Lt) (rD2 X.K λa b=>(y90 .lt a b).map λc=>.d (.bl c)):=by
 intro pins s σ H x y v u Q I rx ry h;obtain⟨zA,z,dx,dy,w,st,hx,hy,e,q⟩:=h;obtain⟨b,e1,e2⟩:=Í.mp e;subst e2;obtain⟨o1,o2,e3⟩:=g52 (show ltO dx dy=some b from e1);obtain⟨f1,_⟩:=n00 o1;obtain⟨f2,_⟩:=n00 o2;obtain⟨as,r1⟩:=i40 I (hx.same (a00 zA H)) rx f1;obtain⟨bs,r2⟩:=i40 I (hy.same (a00 zA H)) ry f2;exact(g42 40 (A:=X.A) (s:=s)).1 dx dy v u b (I10 o1) ⟨f1,as,r1⟩ ⟨f2,bs,r2⟩ e3 ∅ _ _ _ _ ⟨.bl b,H,I,rfl,q _ _ (a30.refl H) j20⟩
theorem t20{K:Ã}{H:Hp}:∀ {l:List D}{ns:List Int}{vs:List V},o30 l=some ns->HdA K H l vs->vs=ns.map V.int/\l=ns.map D.int
 |[],_,_,e,h=>by cases e;rw[h.e40];exact⟨rfl,rfl⟩
 |.int i::r,_,_,e,h=>by
  obtain⟨ms,e1,rfl⟩:=Í.mp e;obtain⟨x,xs,rfl,h1,h2⟩:=h.c00;cases h1.j10;obtain⟨rfl,rfl⟩:=t20 e1 h2;exact⟨rfl,rfl⟩
 |.non::_,_,_,e,_=>by cases e
 |.bl _::_,_,_,e,_=>by cases e
 |.str _::_,_,_,e,_=>by cases e
 |.tup _::_,_,_,e,_=>by cases e
 |.lst _::_,_,_,e,_=>by cases e
 |.dct::_,_,_,e,_=>by cases e
theorem g72(hu:X.A.units + 64 < Å7):OpR X (Á2 .LtE) (rD2 X.K λa b=>(y90 .le a b).map λc=>.d (.bl c)):=by
 intro pins s σ H x y v u Q I rx ry h;obtain⟨zA,z,dx,dy,w,st,hx,hy,e,q⟩:=h;cases dx with
 |int i =>
  cases dy with
  |int j =>
   cases e;cases hx.j10;cases hy.j10;exact r42 pins s σ H _ _ v u Q I rx ry ⟨i,j,rfl,rfl,q _ _ (a30.refl H) j20⟩
  |_=>cases e
 |tup a =>
  cases dy with
  |tup b =>
   obtain⟨c,e1,e2⟩:=Í.mp e;subst e2;obtain⟨ns,n1,e1⟩:=Ð.mp (show(o30 a).bind _=_ from e1);obtain⟨ms,n2,rfl⟩:=Í.mp e1;obtain⟨p,xs,rfl,h1,h2⟩:=hx.u70;obtain⟨p',ys,rfl,h3,h4⟩:=hy.u70;obtain⟨rfl,_⟩:=t20 n1 h2;obtain⟨rfl,_⟩:=t20 n2 h4;exact e22 ∅ pins s σ H _ _ v u Q I rx ry ⟨p,p',ns,ms,rfl,rfl,(a00 zA H).sqT h1,(a00 zA H).sqT h3,q _ _ (a30.refl H) j20⟩
  |_=>cases e
 |_=>cases e
theorem g82:OpR X (Á2 .Gt) (rD2 X.K λa b=>(y90 .gt a b).map λc=>.d (.bl c)):=by
 intro pins s σ H x y v u Q I rx ry h;obtain⟨zA,z,dx,dy,w,st,hx,hy,e,q⟩:=h;cases dx with
 |int i =>
  cases dy with
  |int j =>
   cases e;cases hx.j10;cases hy.j10;exact r52 pins s σ H _ _ v u Q I rx ry ⟨i,j,rfl,rfl,q _ _ (a30.refl H) j20⟩
  |_=>cases e
 |_=>cases e
theorem g92:OpR X (Á2 .GtE) (rD2 X.K λa b=>(y90 .ge a b).map λc=>.d (.bl c)):=by
 intro pins s σ H x y v u Q I rx ry h;obtain⟨zA,z,dx,dy,w,st,hx,hy,e,q⟩:=h;cases dx with
 |int i =>
  cases dy with
  |int j =>
   cases e;cases hx.j10;cases hy.j10;exact r62 pins s σ H _ _ v u Q I rx ry ⟨i,j,rfl,rfl,q _ _ (a30.refl H) j20⟩
  |_=>cases e
 |_=>cases e
def opC:Cm->CmpOp
 |.eq=>.Eq | .ne=>.NotEq | .lt=>.Lt | .le=>.LtE | .gt=>.Gt | .ge=>.GtE | .mem=>.In | .nmem=>.NotIn
theorem a32(hu:X.A.units + 64 < Å7)(o:Cm):OpR X (Á2 (opC o)) (rD2 X.K λa b=>(y90 o a b).map λc=>.d (.bl c)):=by
 cases o
 ·exact g12 hu
 ·exact U01 hu
 ·exact g62 hu
 ·exact g72 hu
 ·exact g82
 ·exact g92
 ·exact U11 hu
 ·exact F51 hu
theorem HdA.one{K:Ã}{H:Hp}{d:D}{xs:List V}(h:HdA K H [d] xs):∃ x,xs=[x]/\Hd K H d x:=by
 obtain⟨x,r,rfl,h1,h2⟩:=h.c00;rw[h2.e40];exact⟨x,rfl,h1⟩
theorem HdA.two{K:Ã}{H:Hp}{d e:D}{xs:List V}(h:HdA K H [d,e] xs):∃ x y,xs=[x,y]/\Hd K H d x/\Hd K H e y:=by
 obtain⟨x,r,rfl,h1,h2⟩:=h.c00;obtain⟨y,rfl,h3⟩:=h2.one;exact⟨x,y,rfl,h1,h3⟩
theorem q21{K:Ã}{zA:Option Ç}{H:Hp}{d:D}{l:List D}{v:V}(h:Hd K (hz zA H) d v)(e:j11 d=some l):∃ a xs,v=.ref a/\(SqL K H a xs∨SqT K H a xs)/\HdA K (hz zA H) l xs:=by
 cases d with
 |tup m =>
  cases e;obtain⟨a,xs,rfl,h1,h2⟩:=h.u70;exact⟨a,xs,rfl,.inr ((a00 zA H).sqT h1),h2⟩
 |lst m =>
  cases e;obtain⟨a,xs,rfl,h1,h2⟩:=h.S60;exact⟨a,xs,rfl,.inl (h1.same (a00 zA H)).sq,h2⟩
 |_=>cases e
theorem h02:e30 X (.builtin "len") (rDn X.K (bfD .len)):=by
 intro pins s σ H xs us Q I r h;obtain⟨zA,z,ds,w,st,hx,e,q⟩:=h
 match ds,e with
 |[d],e =>
  obtain⟨l,e1,rfl⟩:=Í.mp (show(j11 d).map _=some w from e);obtain⟨x,rfl,h1⟩:=hx.one;obtain⟨a,ys,rfl,h2,h3⟩:=q21 h1 e1;exact M30 pins s σ H _ us Q I r ⟨a,ys,rfl,h2,by rw[h3.length];exact q _ _ (a30.refl H) j30⟩
theorem F61:e30 X (.type "tuple") (rDn X.K (bfD .tuple)):=by
 intro pins s σ H xs us Q I r h;obtain⟨zA,z,ds,w,st,hx,e,q⟩:=h
 match ds,e with
 |[d],e =>
  obtain⟨l,e1,rfl⟩:=Í.mp (show(j11 d).map _=some w from e);obtain⟨x,rfl,h1⟩:=hx.one;obtain⟨a,ys,rfl,h2,h3⟩:=q21 h1 e1;refine q50 pins s σ H _ us Q I r ⟨a,ys,rfl,?_⟩;rcases h2 with h2 | h2
  ·refine .inl ⟨h2,λp hp=>q _ _ (a30.new _ hp) (A61 (Hd.tup ((st.same (a30.new _ hp)).L61 (SqT.of a60)) (h3.same (g80 (a30.new _ hp)))))⟩
  ·exact .inr ⟨h2,q _ _ (a30.refl H) (A61 (Hd.tup (st.L61 h2) h3))⟩
theorem U21:e30 X (.type "list") (rDn X.K (bfD .list)):=by
 intro pins s σ H xs us Q I r h;obtain⟨zA,z,ds,w,st,hx,e,q⟩:=h
 match ds,e with
 |[d],e =>
  obtain⟨l,e1,rfl⟩:=Í.mp (show(j11 d).map _=some w from e);obtain⟨x,rfl,h1⟩:=hx.one;obtain⟨a,ys,rfl,h2,h3⟩:=q21 h1 e1;exact M40 pins s σ H _ us Q I r ⟨a,ys,rfl,h2,λp hp=>q _ _ (a30.new _ hp) (k70 st h3 hp)⟩
theorem L71{K:Ã}{H:Hp}:∀ {l:List D}{bs:List Bool}{vs:List V},l.mapM asB=some bs->HdA K H l vs->vs=bs.map V.bl
 |[],_,_,e,h=>by simp at e;subst e;rw[h.e40];rfl
 |x::r,_,_,e,h=>by
  simp only[List.mapM_cons,bind,Ð] at e;obtain⟨b,e1,bs,e2,e3⟩:=e;cases e3;obtain⟨y,ys,rfl,h1,h2⟩:=h.c00;cases x with
  |bl c=>cases e1;cases h1.bl_;rw[L71 e2 h2];rfl
  |_=>cases e1
theorem h32(hc:X.calm=true):e30 X (.builtin "all") (rDn X.K (bfD .all)):=by
 intro pins s σ H xs us Q I r h;obtain⟨zA,z,ds,w,st,hx,e,q⟩:=h
 match ds,e with
 |[.lst l],e =>
  obtain⟨bs,e1,rfl⟩:=Í.mp (show(l.mapM asB).map _=some w from e);obtain⟨x,rfl,h1⟩:=hx.one;obtain⟨a,ys,rfl,h2,h3⟩:=h1.S60;rw[L71 e1 h3] at h2;exact C71 hc pins s σ H _ us Q I r ⟨a,bs,rfl,(h2.same (a00 zA H)).sq,q _ _ (a30.refl H) j20⟩
theorem h42(hc:X.calm=true):e30 X (.builtin "min") (rDn X.K (bfD .min)):=by
 intro pins s σ H xs us Q I r h;obtain⟨zA,z,ds,w,st,hx,e,q⟩:=h
 match ds,e with
 |[.int i,.int j],e =>
  cases e;obtain⟨x,y,rfl,h1,h2⟩:=hx.two;cases h1.j10;cases h2.j10;exact k41 hc pins s σ H _ us Q I r ⟨i,j,rfl,q _ _ (a30.refl H) j30⟩
theorem h52(hc:X.calm=true):e30 X (.builtin "max") (rDn X.K (bfD .max)):=by
 intro pins s σ H xs us Q I r h;obtain⟨zA,z,ds,w,st,hx,e,q⟩:=h
 match ds,e with
 |[.int i,.int j],e =>
  cases e;obtain⟨x,y,rfl,h1,h2⟩:=hx.two;cases h1.j10;cases h2.j10;exact k31 hc pins s σ H _ us Q I r ⟨i,j,rfl,q _ _ (a30.refl H) j30⟩
theorem h62:e30 X (.type "int") (rDn X.K (bfD .int)):=by
 intro pins s σ H xs us Q I r h;obtain⟨zA,z,ds,w,st,hx,e,q⟩:=h
 match ds,e with
 |[.int i],e =>
  cases e;obtain⟨x,rfl,h1⟩:=hx.one;cases h1.j10;exact L60 pins s σ H _ us Q I r (.inl ⟨i,rfl,q _ _ (a30.refl H) j30⟩)
 |[.bl b],e =>
  cases e;obtain⟨x,rfl,h1⟩:=hx.one;cases h1.bl_;exact L60 pins s σ H _ us Q I r (.inr ⟨b,rfl,q _ _ (a30.refl H) j30⟩)
def tyN:Ty->String
 |.int=>"int" | .bool=>"bool" | .tuple=>"tuple" | .list=>"list" | .str=>"str" | .seq=>""
theorem U31(t:Ty)(d:D)(h:t≠.seq):isB d.ty (tyN t)=L51 t d:=by
 cases t <;> cases d <;> first | rfl | (exact absurd rfl h) | decide
theorem F71(d:D):(isB d.ty "tuple" || isB d.ty "list")=L51 .seq d:=by cases d <;> rfl
theorem at_of{K:Ã}{H:Hp}{l:List D}{xs:List V}{i:Int}{d:D}(h:HdA K H l xs)(e:atI l i=some d):∃ v,atI xs i=some v/\Hd K H d v:=by
 unfold atI at e ⊢;obtain⟨j,e1,e2⟩:=Ð.mp e;rw[h.length,e1];exact h.get e2
theorem ixD:IxR X (rD2 X.K λa b=>(g51 a b).map S.d):=by
 intro value slice pins s σ H x y v u Q I rx ry h hs;obtain⟨zA,z,dx,dy,w,st,hx,hy,e,q⟩:=h;obtain⟨r,e1,rfl⟩:=Í.mp e;cases dx with
 |tup l =>
  cases dy with
  |int i =>
   cases hy.j10;obtain⟨a,xs,rfl,h1,h2⟩:=hx.u70;obtain⟨v',e2,h3⟩:=at_of h2 e1;exact d62 value slice pins s σ H _ _ v u Q I rx ry ⟨a,xs,i,v',rfl,rfl,(a00 zA H).sqT h1,e2,q _ _ (a30.refl H) (A61 h3)⟩ hs
  |_=>cases e1
 |lst l =>
  cases dy with
  |int i =>
   cases hy.j10;obtain⟨a,xs,rfl,h1,h2⟩:=hx.S60;obtain⟨v',e2,h3⟩:=at_of h2 e1;exact T00 value slice pins s σ H _ _ v u Q I rx ry ⟨a,xs,i,v',rfl,rfl,(h1.same (a00 zA H)).sq,e2,q _ _ (a30.refl H) (A61 h3)⟩ hs
  |_=>cases e1
 |_=>cases e1
theorem L81{K:Ã}{H:Hp}{l:List D}{xs:List V}(h:HdA K H l xs)(lo hi:Option Int):HdA K H (cutD l lo hi) (B91 xs lo hi):=by
 unfold cutD B91;rw[h.length];exact(h.drop _).take _
def G62(K:Ã):V->Option Int->Option Int->Hp->VK->Prop:=λx lo hi H Q=>∃ zA z dx s,d80 zA z H/\Hd K (hz zA H) dx x/\slD dx lo hi=some s/\∀ v H',a30 H H'->RvS K zA H H' s v->Q v H'
theorem G72:SlR X (G62 X.K):=by
 intro pins s σ H x v vl vu lo hi sl Q I rx hs pl pu h;obtain⟨zA,z,dx,w,st,hx,e,q⟩:=h;cases dx with
 |tup l =>
  cases e;obtain⟨a,xs,rfl,h1,h2⟩:=hx.u70;exact R01 pins s σ H _ v vl vu lo hi sl Q I rx hs pl pu ⟨a,xs,rfl,(a00 zA H).sqT h1,tupQ st (L81 h2 lo hi) q⟩
 |lst l =>
  cases e;obtain⟨a,xs,rfl,h1,h2⟩:=hx.S60;exact P91 pins s σ H _ v vl vu lo hi sl Q I rx hs pl pu ⟨a,xs,rfl,(h1.same (a00 zA H)).sq,λp hp=>q _ _ (a30.new _ hp) (k70 st (L81 h2 lo hi) hp)⟩
 |_=>cases e
end
end Q
namespace Q
open PySem L2 PySem.Spec PyProof.Rows
open PySem.W (KatLex KatTups kat_nil kat_cons kat_go kat_yes kat_no kat_one kat_lt kat_kind kas_kind kat_lt_int)
theorem z40(k:D):∀ l,(j21 k l).Perm (k::l)
 |[]=>.refl _
 |y::r=>by
  unfold j21;split
  ·exact((z40 k r).cons y).trans (.swap _ _ _)
  ·exact .refl _
theorem f30:∀ l,(j00 l).Perm l
 |[]=>.refl _|k::r=>(z40 k _).trans ((f30 r).cons k)
theorem q31(k:D):∀ l,l.Pairwise (λx y=>MySort.g70 (flt y) (flt x)=false)->(j21 k l).Pairwise (λx y=>MySort.g70 (flt y) (flt x)=false)
 |[],_=>Þ6 _ _
 |y::r,h=>by
  obtain⟨h1,h2⟩:=Ã9.mp h;unfold j21;split
  ·rename_i hy;refine Ã9.mpr ⟨λz hz=>?_,q31 k r h2⟩;rcases Ü.mp ((z40 k r).mem_iff.mp hz) with rfl | hz
   ·cases q:MySort.g70 (flt z) (flt y) with
    |false=>rfl|true=>have:=MySort.n90 _ _ _ hy q;rw[MySort.o90] at this;cases this
   ·exact h1 z hz
  ·rename_i hy;refine Ã9.mpr ⟨λz hz=>?_,h⟩;rcases Ü.mp hz with rfl | hz
   ·simpa using hy
   ·cases q:MySort.g70 (flt z) (flt k) with
    |false=>rfl
    |true =>
     rcases MySort.Y60 _ (flt y) _ q with q | q
     ·rw[h1 z hz] at q;cases q
     ·exact absurd q hy
theorem r20:∀ l,(j00 l).Pairwise (λx y=>MySort.g70 (flt y) (flt x)=false)
 |[]=>.nil|k::r=>q31 k _ (r20 r)
mutual
theorem Z50:∀ x y:D,eqT x y=true->x=y
 |.int i,y,h=>by
  cases y with
  |int j=>rw[eq_of_beq (show(i == j)=true from h)]|_=>cases h
 |.tup a,y,h=>by
  cases y with
  |tup b=>rw[U50 a b h]|_=>cases h
 |.non,y,h=>by cases y <;> cases h
 |.bl _,y,h=>by cases y <;> cases h
 |.str _,y,h=>by cases y <;> cases h
 |.lst _,y,h=>by cases y <;> cases h
 |.dct,y,h=>by cases y <;> cases h
theorem U50:∀ x y:List D,A51 x y=true->x=y
 |[],[],_=>rfl|[],_::_,h=>by cases h
 |_::_,[],h=>by cases h
 |x::r,y::q,h=>by
  have h:(eqT x y&&A51 r q)=true:=h;rw[Á] at h;rw[Z50 x y h.1,U50 r q h.2]
end
theorem Z60(hp:l'.Perm l)(hs:l'.Pairwise λx y=>MySort.g70 (flt y) (flt x)=false)(inj:∀ x∈l,∀ y∈l,flt x=flt y->x=y):j00 l=l' :=
 Ã4 (le:=λx y=>MySort.g70 (flt y) (flt x)=false) (λa b ha hb p q=>inj a ((f30 l).mem_iff.mp ha) b (hp.mem_iff.mp hb) (MySort.k50 _ _ q p)) (r20 l) hs ((f30 l).trans hp.symm)
variable [TB:Tb]
theorem q41(ok:∀ x∈l,∀ y∈l,flt x=flt y->x=y)(h:MySort.sortedBy (l.map flt) p):(p.map λi=>l.getD i .non)=j00 l:=by
 have h1:=h.1.map λi=>l.getD i .non;rw[Ì,MySort.range_getD] at h1;have e:((p.map λi=>l.getD i .non).map flt)=p.map λi=>(l.map flt).getD i []:=by
  rw[ë];refine Ä6 λi hi=>?_;have:i < l.length:=by have:=h.1.mem_iff.mp hi;simpa using this
  simp[this]
 have h2:(p.map λi=>l.getD i .non).Pairwise λx y=>MySort.g70 (flt y) (flt x)=false:=by
  have:=h.2;rw[← e,Ù2] at this;exact this
 refine Ã4 (le:=λx y=>MySort.g70 (flt y) (flt x)=false) (λa b ha hb p q=>?_) h2 (r20 l) (h1.trans (f30 l).symm);exact ok a (h1.mem_iff.mp ha) b ((f30 l).mem_iff.mp hb) (MySort.k50 _ _ q p)
mutual
theorem F81(kp:MySort.f21 h h'):∀ (d:D) {u:Ä}{as:List Ç},eqT d d=true->Reads h u (toP d) as->Reads h' u (toP d) as
 |.int i,_,_,_,r=>by cases r;exact .int _ _
 |.tup l,_,_,e,r=>by
  cases r with
  |tuple k1 k2 k3 k4=>exact .tuple (kp _ _ k1 k2) k2 k3 (r30 kp l e k4)
 |.non,_,_,e,_=>by cases e
 |.bl _,_,_,e,_=>by cases e
 |.str _,_,_,e,_=>by cases e
 |.lst _,_,_,e,_=>by cases e
 |.dct,_,_,e,_=>by cases e
theorem r30(kp:MySort.f21 h h'):∀ (l:List D) {us:List Ä}{as:List Ç},A51 l l=true->ReadsAll h us (H60 l) as->ReadsAll h' us (H60 l) as
 |[],_,_,_,r=>by cases r;exact .nil
 |x::q,_,_,e,r=>by
  have e:(eqT x x&&A51 q q)=true:=e;rw[Á] at e;cases r with
  |cons r1 r2=>exact .cons (F81 kp x e.1 r1) (r30 kp q e.2 r2)
end
theorem e20.get:∀ {us:List Ä}{l:List D}{i:Nat}{d:D},e20 h us l->l[i]?=some d->g81 h (us.getD i è) d
 |_,[],i,d,_,e=>by cases e
 |us,x::r,i,d,hd,e=>by
  obtain⟨u,q,rfl,h1,h2⟩:=hd.c00;cases i with
  |zero=>cases e;simpa using h1
  |succ i=>simpa using e20.get h2 (by simpa using e)
theorem e20.len:∀ {us:List Ä}{l:List D},e20 h us l->us.length=l.length
 |_,[],hd=>by rw[hd.e40];rfl
 |us,x::r,hd=>by
  obtain⟨u,q,rfl,h1,h2⟩:=hd.c00;simp[e20.len h2]
def L91(l:List D):Prop:=∀ x r,l=x::r->∃ i,x=.int i
theorem C42(hu:A.units + 40 < Å7):∀ (a c:List D) {vs us:List Ä}{r:Bool} (i:Nat),e20 s.heap vs a->e20 s.heap us c->S91 a c=some r->f20 a<=39 ->
  ((b&&i == 0)=true->L91 a/\L91 c)->fin=decide (vs.length < us.length)->Q r s->KatLex P w A b fin Q (vs.zip us) i s
 |[],[],_,_,r,i,ha,hc,e,_,_,hf,q=>by
  cases ha.e40;cases hc.e40;cases e;subst hf;exact kat_nil q
 |[],y::t,_,_,r,i,ha,hc,e,_,_,hf,q=>by
  cases ha.e40;obtain⟨u,us,rfl,_,_⟩:=hc.c00;cases e;subst hf;exact kat_nil q
 |x::l,[],_,_,r,i,ha,hc,e,_,_,hf,q=>by
  cases hc.e40;obtain⟨v,vs,rfl,_,_⟩:=ha.c00;cases e;subst hf;exact kat_nil q
 |x::l,y::t,_,_,r,i,ha,hc,e,hd,hi,hf,q=>by
  obtain⟨v,vs,rfl,a1,a2⟩:=ha.c00;obtain⟨u,us,rfl,c1,c2⟩:=hc.c00;have d1:deep x<=39:=â (Nat.le_max_left _ _) hd;have d2:f20 l<=39:=â (Nat.le_max_right _ _) hd;have e:(if eqD x y=true then S91 l t else ltD x y)=some r:=e;refine kat_cons (g32 (A:=A) a1 c1 ∅ P w _ _ ?_)
  refine kat_go (λz=>?_) λz=>?_
  ·rw[if_pos z] at e;refine kat_yes (C42 hu l t (i + 1) a2 c2 e d2 (λk=>?_) (by rw[hf];simp) q)
   simp at k
  ·rw[if_neg (by rw[z];exact Ñ)] at e
   refine kat_no ?_;cases hb:(b&&i == 0) with
   |true =>
    obtain⟨f1,f2⟩:=hi hb;obtain⟨m,rfl⟩:=f1 x l rfl;obtain⟨n,rfl⟩:=f2 y t rfl;cases e;obtain⟨_,_,r1⟩:=a1;obtain⟨_,_,r2⟩:=c1;cases r1;cases r2;exact oneLt_int q
   |false=>exact kat_one _ _ ((g42 39 (A:=A) (s:=s)).1 x y v u r d1 a1 c1 e ∅ P w _ _ q)
theorem U60(h:Z10 x=0):∃ i,x=.int i:=by
 cases x with
 |int i=>exact⟨i,rfl⟩
 |tup l =>
  cases l with
  |nil=>cases h
  |cons y r=>cases y <;> cases h
 |_=>cases h
theorem U70(h:Z10 x=k)(h1:1<=k)(h3:k < 3):∃ y r,x=.tup (y::r)/\(k=1->∃ i,y=.int i)/\(k=2->∃ l,y=.tup l):=by
 cases x with
 |tup l =>
  cases l with
  |nil=>have:k=3:=h.symm;omega
  |cons y r =>
   refine⟨y,r,rfl,λe=>?_,λe=>?_⟩ <;> subst e <;> cases y <;> first | exact⟨_,rfl⟩ | cases h
 |int i=>have:k=0:=h.symm;omega|_=>have:k=3:=h.symm;omega
theorem U41(h1:1<=k)(h3:k < 3):∀ {us:List Ä}{l:List D},e20 h us l->(∀ x∈l,Z10 x=k)->∃ fs,KatTups h us fs/\fs.length=us.length/\∀ v∈fs,(k=1->∃ i t,v=Ç2 i t)/\(k=2->∃ a o,v=ð a/\h.get? a=some o/\o.cls=.type "tuple")
 |_,[],hd,_=>by rw[hd.e40];exact⟨[],.nil,rfl,λv hv=>absurd hv (by simp)⟩
 |_,x::r,hd,hk=>by
  obtain⟨u,q,rfl,⟨_,as,r1⟩,h2⟩:=hd.c00;obtain⟨fs,t1,t2,t3⟩:=U41 h1 h3 h2 λy hy=>hk y (È _ hy);obtain⟨y,l,rfl,y1,y2⟩:=U70 (hk x Ê) h1 h3;cases r1 with
  | @tuple a o vs n xs as k1 k2 k3 k4 =>
   cases hv:vs.toList with
   |nil=>rw[hv] at k4;cases k4
   |cons f fr =>
    rw[hv] at k4;cases k4 with
    |cons f1 f2 =>
     refine⟨f::fs,.cons k1 k2 k3 (by rw[← Æ1,hv];rfl) t1,by simp[t2],λv hm=>?_⟩
     rcases Ü.mp hm with rfl | hm
     ·refine⟨λe=>?_,λe=>?_⟩
      ·obtain⟨i,rfl⟩:=y1 e;cases f1;exact⟨_,_,rfl⟩
      ·obtain⟨m,rfl⟩:=y2 e;cases f1 with
       |tuple g1 g2 g3 g4=>exact⟨_,_,rfl,g1,g2⟩
     ·exact t3 v hm
def kdOf:Nat->SortKind
 |0=>oneType'|1=>tuples' true|_=>tuples' false
theorem U80(h:e60 x y=true):Z10 y=Z10 x/\ltD x y=some (MySort.g70 (flt x) (flt y))/\(flt x=flt y->x=y):=by
 unfold e60 at h;rw[Á,Á,Ä0] at h;refine⟨eq_of_beq h.1,eq_of_beq h.2.1,λe=>?_⟩;rcases h.2.2 with k | k
 ·exact Z50 _ _ k
 ·rw[e] at k;simp at k
theorem Z70(h64:us.length < 64)(hd:e20 s.heap us l)(hu:A.units + 40 < Å7)(k3:k < 3)(hk:∀ x∈l,Z10 x=k)(ho:∀ x∈l,okD x=true)(hp:∀ x∈l,∀ y∈l,e60 x y=true):MySort.a22 P w A s us (MySort.sortedBy (l.map flt)) (kdOf k) where
 len:=by omega
 few h2:=MySort.e12 (by rw[Ì];exact hd.len) h2
 all p hp:=by rw[hp.1.length_eq,Â3,Ì,hd.len]
 kind h2 E Q q:=by
  match k,k3,hk,q with
  |0,_,hk,q =>
   refine kas_kind h2 (T:=.type "int") (λv hv=>?_) rfl rfl q;obtain⟨i,hi,rfl⟩:=List.mem_iff_getElem.mp hv;have hi':i < l.length:=by rw[← hd.len];exact hi
   obtain⟨_,as,r⟩:=hd.get (i:=i) (d:=l[i]) (by simp[hi'])
   obtain⟨n,hn⟩:=U60 (hk l[i] (Æ9 hi'));rw[hn] at r;have e:us.getD i è=us[i]:=by simp[hi]
   rw[e] at r;generalize us[i]=v at r;cases r;exact Ú4 rfl
  |1,_,hk,q =>
   obtain⟨fs,t1,t2,t3⟩:=U41 (-0) (-0) hd hk
   exact kat_kind (T:=.type "int") t1 ∅ (λv hv=>by obtain⟨i,t,rfl⟩:=(t3 v hv).1 rfl;exact Ú4 rfl) rfl q
  |2,_,hk,q =>
   obtain⟨fs,t1,t2,t3⟩:=U41 (-0) (-0) hd hk
   exact kat_kind (T:=.type "tuple") t1 ∅ (λv hv=>by
    obtain⟨a,o,rfl,g1,g2⟩:=(t3 v hv).2 rfl;rw[← g2];exact(PySem.W.Looks.ld g1).andThen .now) rfl q
 run:=MySort.Q61 (by rw[Ì];exact hd.len) h64 λi j hi hj E C hC=>by
  have hi':i < l.length:=by rw[← hd.len];exact hi
  have hj':j < l.length:=by rw[← hd.len];exact hj
  have mi:=Æ9 hi';have mj:=Æ9 hj';obtain⟨_,h2,_⟩:=U80 (hp _ mi _ mj);have a1:=hd.get (i:=i) (d:=l[i]) (by simp[hi'])
  have b1:=hd.get (i:=j) (d:=l[j]) (by simp[hj'])
  have e1:(l.map flt).getD i []=flt l[i]:=by simp[hi']
  have e2:(l.map flt).getD j []=flt l[j]:=by simp[hj']
  rw[e1,e2] at hC;generalize MySort.g70 (flt l[i]) (flt l[j])=c at h2 hC;have kx:=hk _ mi;have ky:=hk _ mj;have ox:=I10 (ho _ mi);generalize l[i]=x at *
  generalize l[j]=y at *
  have tup:∀ b:Bool,1<=k->(b=true->k=1)->Ï (Õ P w) A (keyLt' (tuples' b) (us.getD i è) (us.getD j è)) C E s:=λb h1 hb=>by
   obtain⟨x1,xr,rfl,x2,_⟩:=U70 kx h1 k3;obtain⟨y1,yr,rfl,y2,_⟩:=U70 ky h1 k3;obtain⟨f1,as,r1⟩:=a1;obtain⟨f2,bs,r2⟩:=b1;generalize us.getD i è=v at r1;generalize us.getD j è=u at r2;cases r1 with
   |tuple p1 p2 p3 p4 =>
    cases r2 with
    |tuple q1 q2 q3 q4 =>
     refine kat_lt p1 p3 q1 q3 (C42 hu (x1::xr) (y1::yr) 0 ⟨f1,_,p4⟩ ⟨f2,_,q4⟩ h2 (by have:deep (.tup (x1::xr))=f20 (x1::xr) + 1:=rfl;omega) (λz=>?_) (by simp) hC)
     have hb1:=hb (by simpa using z)
     exact⟨λa q e=>by cases e;exact x2 hb1,λa q e=>by cases e;exact y2 hb1⟩
  match k,k3,kx,ky,tup with
  |0,_,kx,ky,_ =>
   obtain⟨m,rfl⟩:=U60 kx;obtain⟨n,rfl⟩:=U60 ky;cases h2;obtain⟨_,_,r1⟩:=a1;obtain⟨_,_,r2⟩:=b1;generalize us.getD i è=v at r1;generalize us.getD j è=u at r2;cases r1;cases r2;exact kat_lt_int hC
  |1,_,_,_,tup=>exact tup true (-0) λ_=>rfl|2,_,_,_,tup=>exact tup false (-0) λh=>by cases h
theorem HdA.pick{K:Ã}{H:Hp}{l:List D}{vs:List V}(h:HdA K H l vs):∀ {p:List Nat},(∀ i∈p,i < l.length)->HdA K H (p.map λi=>l.getD i .non) (p.map λi=>vs.getD i .non)
 |[],_=>.nil
 |i::p,hp=>by
  have hi:=hp i Ê;refine .cons ?_ (HdA.pick h λj hj=>hp j (È _ hj));obtain⟨v,e1,e2⟩:=h.get (i:=i) (d:=l[i]) (by simp[hi])
  have g1:l.getD i .non=l[i]:=by simp[hi]
  have g2:vs.getD i .non=v:=by rw[Ó,e1];rfl
  show Hd K H (l.getD i .non) (vs.getD i .non);rw[g1,g2];exact e2
end Q
namespace Q
open PySem L2 PySem.Spec PyProof.Rows
variable [TB:Tb]
section
variable {X:Cx}
theorem U51{zA:Option Ç}{H:Hp}{l:List D}{xs:List V}(hu:X.A.units + 64 < Å7)(hd:HdA X.K H l xs)(h64:l.length < 64)(ok:h00 l=true):e42 X H xs (MySort.sortedBy (l.map flt)):=by
 intro pins σ s us I rv
 replace h64:us.length < 64:=by rw[← rv.length,hd.length];exact h64
 have all:∀ x∈l,Z10 x < 3/\okD x=true/\∀ y∈l,e60 x y=true:=λx hx=>by
  have:=Î.mp ok x hx;rw[Á,Á,decide_eq_true_eq,Ä7] at this;exact⟨this.1,this.2.1,this.2.2⟩
 have hf:e10 l=true:=by
  clear hd
  induction l with
  |nil=>rfl
  |cons x r ih =>
   have h1:=(n00 (all x Ê).2.1).1;show(m40 x&&e10 r)=true;rw[h1];have ok':h00 r=true:=Î.mpr λy hy=>by
    obtain⟨a,b,c⟩:=all y (È _ hy);rw[Á,Á,decide_eq_true_eq,Ä7];exact⟨a,b,λz hz=>c z (È _ hz)⟩
   exact ih ok' λy hy=>⟨(all y (È _ hy)).1,(all y (È _ hy)).2.1,λz hz=>(all y (È _ hy)).2.2 z (È _ hz)⟩
 obtain⟨as,ra⟩:=H90 I hd rv hf;have pure:A51 l l=true:=by
  clear hd ra hf ok;have:∀ q:List D,(∀ x∈q,eqT x x=true)->A51 q q=true:=λq=>by
   induction q with
   |nil=>intro _;rfl|cons x r ih=>intro h;show(eqT x x&&A51 r r)=true;rw[h x Ê,ih λy hy=>h y (È _ hy)];rfl
  refine this l λx hx=>?_;have h:=(all x hx).2.2 x hx;unfold e60 at h;rw[Á,Á,Ä0] at h;rcases h.2.2 with k | k
  ·exact k
  ·simp at k
 cases l with
 |nil=>exact⟨kdOf 0,λh' kp=>Z70 h64 ⟨hf,_,r30 kp _ pure ra⟩ (by show X.A.units + 1 + 1 + 40 < Å7;omega) (-0) (λx hx=>absurd hx (by simp)) (λx hx=>absurd hx (by simp)) λx hx=>absurd hx (by simp)⟩
 |cons x r =>
  have hx:=all x Ê;exact⟨kdOf (Z10 x),λh' kp=>Z70 h64 ⟨hf,_,r30 kp _ pure ra⟩ (by show X.A.units + 1 + 1 + 40 < Å7;omega) hx.1 (λy hy=>(U80 (hx.2.2 y hy)).1) (λy hy=>(all y hy).2.1) λy hy=>(all y hy).2.2⟩
theorem q51(hu:X.A.units + 64 < Å7):e30 X (.builtin "sorted") (rDn X.K (bfD .sorted)):=by
 intro pins s σ H xs us Q I r h;obtain⟨zA,z,ds,w,st,hx,e,q⟩:=h
 match ds,e with
 |[x],e =>
  have e:sortedS x=some w:=e;unfold sortedS at e;obtain⟨l,h1,e⟩:=Ð.mp e;obtain⟨v,rfl,hv⟩:=hx.one;have go:∀ (a:Ç) (ys:List V),v=.ref a->(SqL X.K H a ys∨SqT X.K H a ys)->HdA X.K (hz zA H) l ys->Ï (Õ X.prog X.w) X.A (call (.builtin "sorted") us) (EP X pins σ Q) X.xe s:=λa ys hva hq hd=>by
   subst hva;by_cases c:l.length < 64/\h00 l=true
   ·rw[if_pos c] at e;cases e;obtain⟨h64,ok⟩:=c;refine N20 pins s σ H _ us Q I r ⟨a,ys,MySort.sortedBy (l.map flt),rfl,hq,U51 (zA:=zA) hu (hd.same (a00 zA H)) h64 ok,λp hp i hi=>by have:=hp.1.mem_iff.mp hi;rw[hd.length];simpa using this,λp lA hp hn=>?_⟩
    have hd2:=hd.pick (p:=p) λi hi=>by have:=hp.1.mem_iff.mp hi;simpa using this
    rw[q41 (λx hx y hy=>?_) hp] at hd2
    ·exact q _ _ (a30.new _ hn) (k70 st hd2 hn)
    ·have:=Î.mp ok x hx;rw[Á,Á,Ä7] at this;exact(U80 (this.2.2 y hy)).2.2
   ·rw[if_neg c] at e;cases e
  cases x with
  |tup m =>
   cases h1;obtain⟨a,ys,rfl,k1,k2⟩:=hv.u70;exact go a ys rfl (.inr ((a00 zA H).sqT k1)) k2
  |lst m =>
   cases h1;obtain⟨a,ys,rfl,k1,k2⟩:=hv.S60;exact go a ys rfl (.inl (k1.same (a00 zA H)).sq) k2
  |_=>cases h1
end
end Q
namespace SS
open PySem PySem.W PyProof.Rows MySort
def M01(m:Nat):Nat->Nat
 |0=>0|i + 1=>(bts m).getD i 0 + 1
theorem q61:((ì 256).all λm=>(ì ((bts m).length + 1)).all λi=>Ê1 (bts m).toArray (M01 m i) == i)=true:=by decide +kernel
theorem q71(b:Bool)(m:Nat):(tbl b m).plain=true:=by unfold tbl;split <;> rfl
theorem U61(b:Bool)(m:Nat):(tbl b m).led=b:=by unfold tbl;split <;> rfl
theorem O60(b:Bool)(m:Nat):(tbl b m).place=(bts m).toArray:=by unfold tbl;split <;> rfl
theorem t92{w:ç}{m:Nat}{g:Nat->Tok}(hm:m < 256):A41 w (tbl (led w) m) (ent g m) where
 fits:=by rw[b40];exact(y40 _ hm).1
 plain:=q71 _ _
 led:=U61 _ _
 below:=λi hi=>by
  rw[b40] at hi;have h:=eq_of_beq (Î.mp (Î.mp q61 m (ö.mpr hm)) i (ö.mpr (Nat.lt_succ_of_le hi)));have e:H00 (tbl (led w) m) i=M01 m i:=by
   cases i with
   |zero=>rfl
   |succ i =>
    show(tbl (led w) m).place.getD i 0 + 1=(bts m).getD i 0 + 1;rw[O60];simp[getD,Ó];split <;> simp_all
  rw[e,O60];exact h
 small:=by
  rw[b40];exact â (É0 _ _) (by simp)
def key:Ä->Int
 |.int i _=>i|_=>0
theorem F91(m:Nat):(bts m).Pairwise (· < ·):=Å4 _ Æ8
theorem g91:∀ a:Nat,a < 8->∀ b:Nat,b < 8->Q.e60 (.int a) (.int b)=true:=by decide
section
variable {P:Ý}{w:ç}{A:õ}{E:Ä->Æ->Prop}{s:Æ}{S ep m:Nat}{g:Nat->Tok}{o:Obj}
def h01(w:ç)(S ep:Nat)(g:Nat->Tok)(m:Nat):List Value:=(ord w S ep (ent g m)).toList.map (·.2)
def U71(w:ç)(S ep:Nat)(g:Nat->Tok)(m:Nat):List L2.D:=(h01 w S ep g m).map λv=>.int (key v)
theorem U90:(h01 w S ep g m).Perm ((bts m).map λ(i:Nat)=>Ç2 i (g i)):=by
 have:=(H10 w S ep (ent g m)).map (·.2);unfold ent at this;rw[ë] at this;exact this
theorem M11(h:v∈h01 w S ep g m):∃ i,i < 8/\v=.int (i:Nat) (g i):=by
 obtain⟨i,hi,rfl⟩:=Þ.mp (U90.mem_iff.mp h);exact⟨i,(y50.mp hi).1,rfl⟩
theorem O70(h:é):∀ vs:List Ä,(∀ v∈vs,∃ (i:Nat) (t:Tok),v=.int i t)->Q.e20 h vs (vs.map λv=>.int (key v))
 |[],_=>⟨rfl,[],.nil⟩
 |v::r,k=>by
  obtain⟨i,t,rfl⟩:=k v Ê;obtain⟨h1,as,h2⟩:=O70 h r λv hv=>k v (È _ hv);exact⟨h1,_,.cons (.int _ _) h2⟩
theorem G01(hp:sortedBy ((U71 w S ep g m).map Q.flt) p):(p.map λi=>(h01 w S ep g m).getD i è)=(bts m).map λ(i:Nat)=>Ç2 i (g i):=by
 obtain⟨h1,h2⟩:=hp;have len:((U71 w S ep g m).map Q.flt).length=(h01 w S ep g m).length:=by unfold U71;simp
 rw[len] at h1;have h3:(p.map λi=>(h01 w S ep g m).getD i è).Perm ((bts m).map λ(i:Nat)=>Ç2 i (g i)):=by
  refine List.Perm.trans (h1.map _) ?_;rw[MySort.range_getD];exact U90
 refine Ã4 (le:=λu v=>key u<=key v) (λu v hu hv l1 l2=>?_) ?_ ?_ h3
 ·obtain⟨i,hi,rfl⟩:=Þ.mp (h3.mem_iff.mp hu);obtain⟨j,hj,rfl⟩:=Þ.mp hv;have l1:(i:Int)<=j:=l1;have l2:(j:Int)<=i:=l2;have:i=j:=by omega
  rw[this]
 ·have e:(p.map λi=>((U71 w S ep g m).map Q.flt).getD i [])=(p.map λi=>(h01 w S ep g m).getD i è).map λv=>[key v]:=by
   rw[ë];refine Ä6 λi hi=>?_;have hi:i < (h01 w S ep g m).length:=by simpa using h1.mem_iff.mp hi
   unfold U71;simp[hi,Q.flt]
  rw[e,Ù2] at h2;refine h2.imp λ{u v} h=>?_;have:g70 [key v] [key u]=false:=h;simp[g70] at this;omega
 ·rw[Ù2];exact(F91 m).imp λ{a b} h=>by show(a:Int)<=b;omega
theorem h31{R:Ä->Æ->Prop}(hh:A.handled=none)(hu:A.units + 64 < Å7)(hm:m < 256)(ho:s.heap.get? S=some o)(hx:o.ExactSet)(hd:o.data=.set (ent g m) ep (tbl (led w) m))
  (h:∀ lA h' tk c,s.heap.objs.size<=lA->(∀ b u,s.heap.get? b=some u->h'.get? b=some u)->h'.get? lA=some (Á9 "list" ((bts m).map λ(i:Nat)=>Ç2 i (g i)).toArray c)->R (.ref lA) { s with heap:=h',toks:=tk }):Ï (Õ P w) A (call (.builtin "sorted") [.ref S]) R E s:=by
 have h64:(h01 w S ep g m).length<=8:=by
  rw[U90.length_eq,Ì];exact â (É0 _ _) (by simp)
 refine Ï5 kind_sorted plain_sorted entry_sorted (args_sorted1 _) ?_;unfold û.«sorted»;refine À (m:=checkCount "sorted" 1 1 _) (Å ?_);refine À (y80 (by simp[hh]) (t92 hm) ho hx hd λh1 tk lS kp1=>?_)
 refine À (Ó2 ?_ (by show(h01 w S ep g m).length<=_;rw[ò];omega))
 have hoL:(h1.push (Á9 "list" (h01 w S ep g m).toArray 0)).get? h1.objs.size=some (Á9 "list" (h01 w S ep g m).toArray 0):=É _ rfl;have kw:∀ h',a22 P w A.in1.in1 { s with heap:=h',toks:=tk } (h01 w S ep g m) (sortedBy ((U71 w S ep g m).map Q.flt)) (Q.kdOf 0):=λh'=>by
  have dm:∀ d∈U71 w S ep g m,∃ i:Nat,i < 8/\d=.int i:=λd hd=>by
   obtain⟨v,hv,rfl⟩:=Þ.mp hd;obtain⟨i,hi,rfl⟩:=M11 hv;exact⟨i,hi,rfl⟩
  letI:Q.Tb:=⟨[]⟩
  refine Q.Z70 ∅ (O70 h' _ λv hv=>by obtain⟨i,_,rfl⟩:=M11 hv;exact⟨i,_,rfl⟩) (by show A.units + 1 + 1 + 40 < Å7;omega) (-0) (λd hd=>?_) (λd hd=>?_) λd hd e he=>?_
  ·obtain⟨i,_,rfl⟩:=dm d hd;rfl
  ·obtain⟨i,_,rfl⟩:=dm d hd;rfl
  ·obtain⟨i,hi,rfl⟩:=dm d hd;obtain⟨j,hj,rfl⟩:=dm e he;exact g91 i hi j hj
 refine À (ï (ÿ slot_list_sort ⟨_,hoL,rfl⟩ entry_list_sort (G00 hoL (λh' _=>kw h') λp h' c hp kp hD=>⟨_,rfl,Å ⟨_,rfl,?_⟩⟩) (args_list_sort _)));rw[G01 hp] at hD;exact h _ h' tk c (Ç9 lS) (λb u e=>kp b u (Ô (Û (kp1 b u e))) (Â _ (kp1 b u e))) hD
end
end SS
namespace Q
open PySem L2 PySem.Spec PyProof.Rows
variable [TB:Tb]
structure Gs where
 fns:List (Str × List Str)
 nums:List (Str × Int)
 F:FT
 cls:Nat->Addr
 lv:Nat
def EPost(G:Gs)(zA:Option Ç)(E:XK)(c:Nat)(z:Z)(H:Hp):Prop:=∀ e H',Ext zA H H'->d80 zA z H'->H' e=none->E (.ref (G.cls c)) (some e) H'
theorem EPost.mono(h:EPost G zA E c z H)(e:Ext zA H H1):EPost G zA E c z H1:=λa H' x s n=>h a H' (e.trans x) s n
def u02(K:Ã)(G:Gs)(zA:Option Ç)(E:XK)(H:Hp)(Q:VK):R S->Prop
 |.ok s z'=>∀ v H',Ext zA H H'->d80 zA z' H'->RvS K zA H H' s v->Q v H'|.er c z'=>EPost G zA E c z' H
def V00(K:Ã)(G:Gs)(zA:Option Ç)(E:XK)(H:Hp)(Q:VK):R (List S)->Prop
 |.ok l z'=>∃ s,l=[s]/\∀ v H',Ext zA H H'->d80 zA z' H'->RvS K zA H H' s v->Q v H'|.er c z'=>EPost G zA E c z' H
def u12(K:Ã)(G:Gs)(zA:Option Ç)(E:XK)(H:Hp)(Q:List V->Hp->Prop):R (List S)->Prop
 |.ok l z'=>∀ vs H',Ext zA H H'->d80 zA z' H'->Ä1 (RvS K zA H H') l vs->Q vs H'|.er c z'=>EPost G zA E c z' H
def G11(G:Gs)(zA:Option Ç)(E:XK)(H:Hp)(Q:Bool->Hp->Prop):R (List S)->Prop
 |.ok l z'=>∃ b,l=[.d (.bl b)]/\∀ H',Ext zA H H'->d80 zA z' H'->Q b H'|.er c z'=>EPost G zA E c z' H
def u90(K:Ã)(zA:Option Ç)(H:Hp)(ρ:Env)(σ:L2.St):Prop:=∀ (i:Nat) (s:S),ρ[i]?=some (some s)->∃ v,σ[i]?=some (some v)/\RvP K zA H s v
theorem u90.mono{K:Ã}{zA:Option Ç}{H H':Hp}{ρ:Env}{σ:L2.St}(h:u90 K zA H ρ σ)(e:Ext zA H H'):u90 K zA H' ρ σ:=λi s q=>let ⟨v,a,b⟩:=h i s q;⟨v,a,b.mono e⟩
def tI(K:Ã)(G:Gs)(E:XK)(x:Ex):TE:=λσ H Q=>∃ zA ρ z r,u90 K zA H ρ σ/\d80 zA z H/\ev G.F x ρ z=some r/\V00 K G zA E H Q r
def tA(K:Ã)(G:Gs)(E:XK)(x:Ex):TA:=λσ H Q=>∃ zA ρ z r,u90 K zA H ρ σ/\d80 zA z H/\ev G.F x ρ z=some r/\u12 K G zA E H Q r
def tT(K:Ã)(G:Gs)(E:XK)(x:Ex):TT:=λσ H Q=>∃ zA ρ z r,u90 K zA H ρ σ/\d80 zA z H/\ev G.F x ρ z=some r/\G11 G zA E H Q r
def spF(K:Ã)(G:Gs)(f n:Nat):Sp:=λvs H Q E=>vs.length=n/\∃ zA z ss r,RvA K zA H ss vs/\d80 zA z H/\G.F false f ss z=some r/\u02 K G zA E H Q r
section
variable {K:Ã}{G:Gs}{E:XK}{a x:Ex}{ρ:Env}{z:Z}{zA:Option Ç}{σ:L2.St}{H:Hp}
theorem k80{α:Type}{k:List S->M α}{r:R α}{Q':VK}(rel:u90 K zA H ρ σ)(st:d80 zA z H)(h:M.bind (ev G.F a ρ) k z=some r)(her:∀ c z1,r=.er c z1->EPost G zA E c z1 H)
  (hok:∀ l z1,k l z1=some r->∃ s,l=[s]/\∀ v H1,Ext zA H H1->d80 zA z1 H1->RvS K zA H H1 s v->Q' v H1):tI K G E a σ H Q':=by
 rcases M.bind_some h with ⟨l,z1,e1,e2⟩ | ⟨c,z1,e1,e2⟩
 ·exact⟨zA,ρ,z,_,rel,st,e1,hok l z1 e2⟩
 ·exact⟨zA,ρ,z,_,rel,st,e1,her c z1 e2⟩
theorem V10{α:Type}{k:List S->M α}{r:R α}{Q':List V->Hp->Prop}(rel:u90 K zA H ρ σ)(st:d80 zA z H)(h:M.bind (ev G.F a ρ) k z=some r)(her:∀ c z1,r=.er c z1->EPost G zA E c z1 H)
  (hok:∀ l z1,k l z1=some r->∀ vs H1,Ext zA H H1->d80 zA z1 H1->Ä1 (RvS K zA H H1) l vs->Q' vs H1):tA K G E a σ H Q':=by
 rcases M.bind_some h with ⟨l,z1,e1,e2⟩ | ⟨c,z1,e1,e2⟩
 ·exact⟨zA,ρ,z,_,rel,st,e1,hok l z1 e2⟩
 ·exact⟨zA,ρ,z,_,rel,st,e1,her c z1 e2⟩
theorem V20{α:Type}{k:Bool->M α}{r:R α}{Q':Bool->Hp->Prop}(rel:u90 K zA H ρ σ)(st:d80 zA z H)(h:M.bind (ev G.F a ρ) (λx=>M.bind (M.of ((pl x).bind asB)) k) z=some r)(her:∀ c z1,r=.er c z1->EPost G zA E c z1 H)
  (hok:∀ b z1,k b z1=some r->∀ H1,Ext zA H H1->d80 zA z1 H1->Q' b H1):tT K G E a σ H Q':=by
 rcases M.bind_some h with ⟨l,z1,e1,e2⟩ | ⟨c,z1,e1,e2⟩
 ·obtain⟨b,e3,e4⟩:=M.a40 e2;obtain⟨d,e5,e6⟩:=Ð.mp e3;have el:l=[.d (.bl b)]:=by
   obtain⟨s,rfl,hs⟩:=h40 e5;cases s with
   |d y=>cases hs;cases d <;> first | (cases e6;rfl) | cases e6
   |fr ys=>cases hs;cases e6
   |_=>cases hs
  exact⟨zA,ρ,z,_,rel,st,e1,b,el,hok b z1 e4⟩
 ·exact⟨zA,ρ,z,_,rel,st,e1,her c z1 e2⟩
theorem z50{l:List S}{s:S}(h:one l=some s):l=[s]:=by
 unfold one at h;split at h
 ·cases h;rfl
 ·cases h
end
theorem PE.imp(h:PE X e t)(i:∀ σ H Q,t' σ H Q->t σ H Q):PE X e t':=λpins s σ H Q I q=>h pins s σ H Q I (i _ _ _ q)
theorem PT.imp(h:PT X e t)(i:∀ σ H Q,t' σ H Q->t σ H Q):PT X e t':=λpins s σ H Q I q=>h pins s σ H Q I (i _ _ _ q)
theorem PW.imp(h:PW X e t)(i:∀ σ H Q,t' σ H Q->t σ H Q):PW X e t':=λw pins s σ H Q I q=>h w pins s σ H Q I (i _ _ _ q)
theorem PA.imp(h:PA X e t)(i:∀ σ H Q,t' σ H Q->t σ H Q):PA X e t':=λp pins s σ H Q I q=>h p pins s σ H Q I (i _ _ _ q)
def noStar:Ò->Bool
 |.Starred ..=>false|_=>true
theorem c80(h:noStar e=true)(es:List Ò)(env:È5):ü (e::es) env=(false,eval e env)::ü es env:=by
 cases e <;> first | rfl | cases h
theorem o10:∀ {es:List Ò} (env:È5) (pos:Pos),es.all noStar=true->(Õ4 pos (ü es env)).any (·.1)=false
 |[],_,_,_=>rfl
 |e::es,env,pos,h=>by
  rw[Ä8,Á] at h;rw[c80 h.1];show(false || (Õ4 pos (ü es env)).any (·.1))=false;rw[o10 env pos h.2];rfl
def plainT:Ò->Bool
 |.UnaryOp .Not _ _=>false|.BoolOp ..=>false|.IfExp ..=>false|.Compare ..=>false|_=>true
theorem q81(h:plainT e=true)(env:È5)(whole:Sem Ä):isTrue e env whole=(do let v ← whole;standAt e.pos;Ø8 [v] (truthy v)):=by
 cases e with
 |UnaryOp op _ _=>cases op <;> first | rfl | cases h
 |BoolOp _ _ _=>cases h
 |IfExp _ _ _ _=>cases h
 |Compare _ _ _ _=>cases h
 |_=>rfl
def V30:Ò->Bool
 |.Slice ..=>false|_=>true
theorem C80(h:V30 e=true):l11 e:=λo i=>by
 cases e with
 |Slice _ _ _ _=>cases h
 |_=>rfl
def w10:Ò->Bool
 |.Set ..=>false|_=>true
theorem q91(h:w10 e=true)(op:CmpOp):behindInMarks op e=false:=by
 cases e with
 |Set _ _ _=>cases h
 |_=>rfl
structure b00(X:Cx)(G:Gs)(E:XK)(x:Ex)(e:Expr):Prop where
 pe:PE X e (tI X.K G E x)
 pt:(∀ t a b p,e≠.IfExp t a b p)->PT X e (tT X.K G E x)
 pw:∀ op vs p,e=.BoolOp op vs p->PW X e (tT X.K G E x)
theorem a90(h:PE X e (tI X.K G E x))(hp:plainT e=true):b00 X G E x e:=by
 refine⟨h,λ_=>PT.imp (j61 h (q81 hp X.env)) λσ H Q q=>?_,λop vs p he=>?_⟩
 ·obtain⟨zA,ρ,z,r,rel,st,e,po⟩:=q;refine⟨zA,ρ,z,r,rel,st,e,?_⟩;cases r with
  |er c z1=>exact po
  |ok l z1 =>
   obtain⟨b,rfl,po⟩:=po;exact⟨_,rfl,λv H' ex st' rv=>⟨b,Hd.bl_ (show Hd X.K (hz zA H') (.bl b) v from rv),po H' ex st'⟩⟩
 ·subst he;cases hp
def isL:Ex->Bool
 |.nil=>true|.cons _ _=>true|_=>false
def Good(X:Cx)(G:Gs)(E:XK):Ex->List Ò->Prop
 |.nil,es=>es=[]|.cons a r,es=>∃ e es',es=e::es'/\noStar e=true/\b00 X G E a e/\isL r=true/\Good X G E r es'|x,es=>∃ e,es=[e]/\b00 X G E x e
theorem Good.args:∀ {x:Ex}{es:List Ò},isL x=true->Good X G E x es->PA X es (tA X.K G E x)/\es.all noStar=true:=by
 intro x
 induction x with
 |nil =>
  intro es _ h;have h:es=[]:=h;subst h;refine⟨PA.imp k40 λσ H Q q=>?_,rfl⟩;obtain⟨zA,ρ,z,r,rel,st,e,po⟩:=q;cases e;exact po [] H Ext.refl st .nil
 |cons a r _ ih =>
  intro es _ h;obtain⟨e,es',rfl,ns,g,lr,gr⟩:=h;obtain⟨h1,h2⟩:=ih lr gr;refine⟨PA.imp (d20 g.pe h1 (c80 ns es' X.env)) λσ H Q q=>?_,by rw[Ä8,ns,h2];rfl⟩
  obtain⟨zA,ρ,z,rr,rel,st,e,po⟩:=q;have her:∀ c z1,rr=.er c z1->EPost G zA E c z1 H:=λc z1 e=>by subst e;exact po
  refine k80 rel st e her λl z1 e1=>?_;obtain⟨s,hs,e2⟩:=M.a40 e1;refine⟨s,z50 hs,λv H1 x1 st1 rv=>?_⟩;refine V10 (rel.mono x1) st1 e2 (λc z2 q=>(her c z2 q).mono x1) λl2 z2 e3 vs H2 x2 st2 rvs=>?_;cases e3;exact po (v::vs) H2 (x1.trans x2) st2 (.cons (rv.mono x2) (Ä1.a12 rvs λ_ _ q=>q.from x1))
 |_=>intro es h;cases h
def U81:List Str:=["len","sorted","tuple","list","sum","min","max","abs","all","any","int","bool","str","isinstance","range","zip","enumerate","set"]
def lowG(G:Gs)(k:Nat):Gs:={ G with F:=z10 G.F,lv:=k }
structure u22(X:Cx)(G:Gs)(sc:Scope)(c P:Addr)(q:Str)(k:Nat)(fR:Addr)(fdR:FuncData):Prop where
 sco:X.env.scope=sc
 code:X.env.code=.ref c
 hd:PySem.W.codeHdIn X.K c P=true
 qual:X.env.qual++"<lambda>"=q
 tb:(P,q)∈TB.tb
 uq:∀ p∈TB.tb,p.1=P->p.2=q
 bm:BMain X.mg X.base
 lv:G.lv=k + 2
 cls:∀ j,j < 12->N50 X.K X.mg (G.cls j) j
 m:X.mg "_law_refused"=some (.ref fR)
 kp:PySem.W.keepIn X.K (.ref fR)=true
 bd:Binds X.K fdR ["_law_call"] []
 fn:f91 X.prog X.w X.K X.mg X.base CX0 (k + 2) fR fdR ["_law_call"] (R81 X.prog X.w X.K X.mg X.base (k + 1))
 low:∀ f nm ps,G.fns[f]?=some (nm,ps)->∃ fa fd,X.mg nm=some (.ref fa)/\PySem.W.keepIn X.K (.ref fa)=true/\Binds X.K fd ps []/\S40 X.prog X.w X.K X.mg X.base (CX1 X.prog X.w) k fa fd ps (spF X.K (lowG G k) f ps.length)
def u32(X:Cx)(G:Gs)(sc:ø):Prop:=∃ c P q k fR fdR,u22 X G sc c P q k fR fdR
structure XI(lm:Bool)(X:Cx)(G:Gs)(E:XK)(N:List Str)(sc:Scope):Prop where
 gok:∀ f nm ps,G.fns[f]?=some (nm,ps)->∃ fa fd,X.mg nm=some (.ref fa)/\PySem.W.keepIn X.K (.ref fa)=true/\Binds X.K fd ps []/\S40 X.prog X.w X.K X.mg X.base (CX1 X.prog X.w) G.lv fa fd ps (spF X.K G f ps.length)
 num:∀ p∈G.nums,∃ t,X.mg p.1=some (.int p.2 t)
 blt:∀ n∈U81,X.mg n=none
 hN:X.N=N
 nd:N.Nodup
 vis:∀ x∈N,Vis X.env.scope x
 glb:∀ x,sc.names.lookup x=some .globalImplicit->Gl X x
 cel:∀ x,(sc.names.lookup x=some .cell∨sc.names.lookup x=some .free)->(X.env.kindOf x=some .cell∨X.env.kindOf x=some .free)
 calm:X.calm=true
 room:w30 G.lv X.A
 pas:Passes (CX1 X.prog X.w) X E
 lam:lm=true->u32 X G sc
def glob(sc:ø)(x:Str):Bool:=sc.names.lookup x == some .globalImplicit&&!(x == ("__debug__":Str))&&!(x == ("__name__":Str))
def c50(x:Str):Bool:=!(x == ("__debug__":Str))&&!(x == ("__classdict__":Str))
def h72:Const->D->Bool
 |.int i,.int j=>i == j|.bool a,.bl b=>a == b|.str x,.str y=>x == y|.none,.non=>true|_,_=>false
def bfN:Bf->Str × Bool
 |.len=>("len",false) | .sorted=>("sorted",false) | .tuple=>("tuple",true) | .list=>("list",true) | .min=>("min",false) | .max=>("max",false)|.all=>("all",false) | .int=>("int",true) | .sset=>("sorted",false) | .s22=>("len",false)
def served:Bf->Bool
 |.len | .tuple | .list | .min | .max | .all | .int | .sorted=>true|_=>false
mutual
noncomputable def h70(N:List Str)(loc:Str->Bool):Pat->Ò->Bool
 |.v i=>λe=>match e with
  |.Name x _=>N[i]? == some x&&loc x|_=>false
 |.tup ps=>λe=>match e with
  |.Tuple es _ _=>Z80 N loc ps es|_=>false
 |.nil=>λ_=>false|.cons _ _=>λ_=>false
noncomputable def Z80(N:List Str)(loc:Str->Bool):Pat->List Ò->Bool
 |.nil=>λes=>es.isEmpty
 |.cons p r=>λes=>match es with
  |e::es=>noStar e&&h70 N loc p e&&Z80 N loc r es|[]=>false
 |.v _=>λ_=>false|.tup _=>λ_=>false
end
def k90:Ò->Bool
 |.Tuple ..=>true|_=>false
def d30:Ò->List Str
 |.Name x _=>[x]|.Tuple es _ _=>names es|_=>[]
where names:List Ò->List Str
 |[]=>[]|.Name x _::r=>x::names r|.Tuple [.Name a _,.Name b _] _ _::r=>a::b::names r|_::r=>names r
def O80(csc sc:ø)(N own:List Str)(capt:List (Str × Nat)):Bool :=
 csc.kind == .function&&csc.names.all (λy=>y.2 != .cell)&&csc.names.all (λy=>y.2 != .local || csc.names.lookup y.1 == some .local) &&
  csc.names.all (λy=>y.2 != .free || (sc.names.lookup y.1 == some .cell || sc.names.lookup y.1 == some .free))&&capt.all (λp=>N[p.2]? == some p.1&&csc.names.lookup p.1 == some .free) &&
  own.all (λx=>csc.names.lookup x == some .local)&&decide (own++capt.map (·.1)).Nodup
def b50(N:List Str):List Nat->List (Str × Nat)
 |[]=>[]
 |i::r=>match N[i]? with
  |some x=>(x,i)::b50 N r|none=>b50 N r
def opt{α:Type}(o:Option α)(f:α->Bool):Bool:=match o with
 |some a=>f a|none=>false
theorem a50{α:Type}{o:Option α}{f:α->Bool}(h:opt o f=true):∃ a,o=some a/\f a=true:=by
 cases o with
 |none=>cases h
 |some a=>exact⟨a,rfl,h⟩
def C52:(e:List Ò)->Option {q:Str × Pos // e=[.Name q.1 q.2]}
 |[.Name n p]=>some ⟨(n,p),rfl⟩|_=>none
def u42:(e:List Ò)->Option {q:Const × Nat × Pos // e=[.Constant q.1 q.2.1 q.2.2]}
 |[.Constant c k p]=>some ⟨(c,k,p),rfl⟩|_=>none
def u52:(e:List Ò)->Option {q:Pos // e=[.Dict [] [] q]}
 |[.Dict [] [] p]=>some ⟨p,rfl⟩|_=>none
def u62:(e:List Ò)->Option {q:List Ò × Nat × Pos // e=[.Tuple q.1 q.2.1 q.2.2]}
 |[.Tuple l k p]=>some ⟨(l,k,p),rfl⟩|_=>none
def u72:(e:List Ò)->Option {q:List Ò × Pos // e=[.List q.1 q.2]}
 |[.List l p]=>some ⟨(l,p),rfl⟩|_=>none
def u82:(e:List Ò)->Option {q:Ò × Operator × Ò × Pos // e=[.BinOp q.1 q.2.1 q.2.2.1 q.2.2.2]}
 |[.BinOp l o r p]=>some ⟨(l,o,r,p),rfl⟩|_=>none
def u92:(e:List Ò)->Option {q:Ò × CmpOp × Ò × Pos // e=[.Compare q.1 [q.2.1] [q.2.2.1] q.2.2.2]}
 |[.Compare l [o] [r] p]=>some ⟨(l,o,r,p),rfl⟩|_=>none
def v02:(e:List Ò)->Option {q:Ò × Pos // e=[.UnaryOp .USub q.1 q.2]}
 |[.UnaryOp .USub x p]=>some ⟨(x,p),rfl⟩|_=>none
def v12:(e:List Ò)->Option {q:Ò × Pos // e=[.UnaryOp .Not q.1 q.2]}
 |[.UnaryOp .Not x p]=>some ⟨(x,p),rfl⟩|_=>none
def v22:(e:List Ò)->Option {q:Ò × Ò × List Ò × Pos // e=[.BoolOp .And (q.1::q.2.1::q.2.2.1) q.2.2.2]}
 |[.BoolOp .And (l::r::v) p]=>some ⟨(l,r,v,p),rfl⟩|_=>none
def C62:(e:List Ò)->Option {q:Ò × Ò × List Ò × Pos // e=[.BoolOp .Or (q.1::q.2.1::q.2.2.1) q.2.2.2]}
 |[.BoolOp .Or (l::r::v) p]=>some ⟨(l,r,v,p),rfl⟩|_=>none
def v32:(e:List Ò)->Option {q:Ò × Ò × Ò × Pos // e=[.IfExp q.1 q.2.1 q.2.2.1 q.2.2.2]}
 |[.IfExp t x y p]=>some ⟨(t,x,y,p),rfl⟩|_=>none
def G82:(e:List Ò)->Option {q:Ò × CmpOp × CmpOp × Ò × Ò × Pos // e=[.Compare q.1 [q.2.1,q.2.2.1] [q.2.2.2.1,q.2.2.2.2.1] q.2.2.2.2.2]}
 |[.Compare l [o,o2] [r,s] p]=>some ⟨(l,o,o2,r,s,p),rfl⟩|_=>none
def C72:(e:List Ò)->Option {q:Str × Pos × Ò × List Ò × Pos // e=[.Call (.Name q.1 q.2.1) (q.2.2.1::q.2.2.2.1) [] q.2.2.2.2]}
 |[.Call (.Name n q1) (x::l) [] p]=>some ⟨(n,q1,x,l,p),rfl⟩|_=>none
def G92:(e:List Ò)->Option {q:Str × Pos × Str × Pos × Ò × Pos × Pos // e=[.Call (.Name q.1 q.2.1) [.Call (.Name q.2.2.1 q.2.2.2.1) [q.2.2.2.2.1] [] q.2.2.2.2.2.1] [] q.2.2.2.2.2.2]}
 |[.Call (.Name n p1) [.Call (.Name m p2) [x] [] p3] [] p4]=>some ⟨(n,p1,m,p2,x,p3,p4),rfl⟩|_=>none
def H02:Bf->Bool
 |.sset=>true|_=>false
def v42:(e:List Ò)->Option {q:Str × Pos × Ò × Ò × Pos // e=[.Call (.Name q.1 q.2.1) [q.2.2.1,q.2.2.2.1] [] q.2.2.2.2]}
 |[.Call (.Name n q1) [x,ty] [] p]=>some ⟨(n,q1,x,ty,p),rfl⟩|_=>none
def H12:(e:List Ò)->Option {q:Ò × Ò × Pos // e=[.Subscript q.1 q.2.1 q.2.2]}
 |[.Subscript v x p]=>some ⟨(v,x,p),rfl⟩|_=>none
def H22:(e:List Ò)->Option {q:Ò × Option Ò × Option Ò × Pos × Pos // e=[.Subscript q.1 (.Slice q.2.1 q.2.2.1 none q.2.2.2.1) q.2.2.2.2]}
 |[.Subscript v (.Slice l h none q1) p]=>some ⟨(v,l,h,q1,p),rfl⟩|_=>none
def v52:(e:List Ò)->Option {q:Ò × Nat × Pos × Pos × Pos × Pos // e=[.Subscript q.1 (.Slice none none (some (.UnaryOp .USub (.Constant (.int 1) q.2.1 q.2.2.1) q.2.2.2.1)) q.2.2.2.2.1) q.2.2.2.2.2]}
 |[.Subscript v (.Slice none none (some (.UnaryOp .USub (.Constant (.int 1) k q1) q2)) q3) p]=>some ⟨(v,k,q1,q2,q3,p),rfl⟩|_=>none
def h82:(e:List Ò)->Option {q:Ò × Ò × Ò × List Ò × ø × Pos // e=[.ListComp q.1 [⟨q.2.1,q.2.2.1,q.2.2.2.1,0⟩] q.2.2.2.2.1 q.2.2.2.2.2]}
 |[.ListComp elt [⟨tg,iter,ifs,0⟩] csc p]=>some ⟨(elt,tg,iter,ifs,csc,p),rfl⟩|_=>none
def a42:(e:Ò)->Option {q:Str × Pos × Ò × Pos // e=.Call (.Name q.1 q.2.1) [q.2.2.1] [] q.2.2.2}
 |.Call (.Name n q1) [a] [] p=>some ⟨(n,q1,a,p),rfl⟩|_=>none
def a52:(e:Ò)->Option {q:Str × Pos × Ò × Ò × Pos // e=.Call (.Name q.1 q.2.1) [q.2.2.1,q.2.2.2.1] [] q.2.2.2.2}
 |.Call (.Name n q1) [a,b] [] p=>some ⟨(n,q1,a,b,p),rfl⟩|_=>none
def shN:(e:Ò)->Option {q:Str × Pos // e=.Name q.1 q.2}
 |.Name n p=>some ⟨(n,p),rfl⟩|_=>none
def C82:(e:Ò)->Option {q:Str × Pos × Str × Pos × Nat × Pos // e=.Tuple [.Name q.1 q.2.1,.Name q.2.2.1 q.2.2.2.1] q.2.2.2.2.1 q.2.2.2.2.2}
 |.Tuple [.Name a q1,.Name b q2] k p=>some ⟨(a,q1,b,q2,k,p),rfl⟩|_=>none
def H32:(e:List Ò)->Option {q:Str × Pos × Int × Nat × Pos × Pos // e=[.Subscript (.Name q.1 q.2.1) (.Constant (.int q.2.2.1) q.2.2.2.1 q.2.2.2.2.1) q.2.2.2.2.2]}
 |[.Subscript (.Name n p) (.Constant (.int j) c q1) r]=>some ⟨(n,p,j,c,q1,r),rfl⟩|_=>none
def H42:(e:List Ò)->Option {q:Str × Pos × Str × Pos × List Ò × Pos × Pos // e=[.Call (.Name q.1 q.2.1) [.Call (.Name q.2.2.1 q.2.2.2.1) q.2.2.2.2.1 [] q.2.2.2.2.2.1] [] q.2.2.2.2.2.2]}
 |[.Call (.Name n p) [.Call (.Name m q1) l [] r] [] t]=>some ⟨(n,p,m,q1,l,r,t),rfl⟩|_=>none
def v62:(e:List Ò)->Option {q:Str × Pos × Ò × ø × Pos × Pos // e=[.Call (.Name q.1 q.2.1) [.Lambda ⟨[],[],none,[],[],none,[]⟩ q.2.2.1 q.2.2.2.1 q.2.2.2.2.1] [] q.2.2.2.2.2]}
 |[.Call (.Name n p) [.Lambda ⟨[],[],none,[],[],none,[]⟩ b c l] [] t]=>some ⟨(n,p,b,c,l,t),rfl⟩|_=>none
def tyE(sc:ø):Ty->Ò->Bool
 |.seq=>λe=>opt (C82 e) λq=>q.1.1 == ("tuple":Str)&&q.1.2.2.1 == ("list":Str)&&glob sc "tuple"&&glob sc "list"|t=>λe=>opt (shN e) λq=>q.1.1 == Á0 (tyN t)&&glob sc (Á0 (tyN t))
def h92:D->Bool
 |.dct=>true|_=>false
def ifB:Ò->Bool
 |.IfExp ..=>true|_=>false
def U91(lsc sc:ø)(cs:List (Str × Nat)):Bool :=
 lsc.kind == .function&&!lsc.isCoroutine&&!lsc.isGenerator&&lsc.names.all (λy=>y.2 != .cell)&&lsc.names.all (λy=>y.2 != .free || sc.names.lookup y.1 == some .cell)&&cs.all (λp=>lsc.names.lookup p.1 == some .free)&&decide (cs.map (·.1)).Nodup
def mt:Bool->List (Str × List Str)->List (Str × Int)->Ex->ø->List Str->List Ò->Bool
 |lm,fns,nums,.nil=>λ_ _ es=>es.isEmpty
 |lm,fns,nums,.cons a r=>λsc N es=>match es with
  |e::es=>noStar e&&!isL a&&isL r&&mt lm fns nums a sc N [e]&&mt lm fns nums r sc N es|[]=>false
 |lm,fns,nums,.var i=>λ_ N es=>opt (C52 es) λq=>N[i]? == some q.1.1&&c50 q.1.1|lm,fns,nums,.con d=>λ_ _ es=>(opt (u42 es) λq=>h72 q.1.1 d) || opt (u52 es) λ_=>h92 d|lm,fns,nums,.gint g i=>λsc _ es=>opt (C52 es) λq=>q.1.1 == g&&glob sc q.1.1&&nums.contains (g,i)|lm,fns,nums,.tup as=>λsc N es=>opt (u62 es) λq=>isL as&&mt lm fns nums as sc N q.1.1|lm,fns,nums,.lst as=>λsc N es=>opt (u72 es) λq=>isL as&&mt lm fns nums as sc N q.1.1|lm,fns,nums,.bin o a b=>λsc N es=>opt (u82 es) λq=>q.1.2.1 == opB o&&!isL a&&!isL b&&mt lm fns nums a sc N [q.1.1]&&mt lm fns nums b sc N [q.1.2.2.1]|lm,fns,nums,.cmp o a b=>λsc N es=>opt (u92 es) λq=>q.1.2.1 == opC o&&w10 q.1.2.2.1&&!isL a&&!isL b&&mt lm fns nums a sc N [q.1.1]&&mt lm fns nums b sc N [q.1.2.2.1]|lm,fns,nums,.neg a=>λsc N es=>opt (v02 es) λq=>!isL a&&mt lm fns nums a sc N [q.1.1]|lm,fns,nums,.not a=>λsc N es=>opt (v12 es) λq=>!isL a&&!ifB q.1.1&&mt lm fns nums a sc N [q.1.1]|lm,fns,nums,.and a b=>λsc N es=>opt (v22 es) λq=>!isL a&&!isL b&&!ifB q.1.1&&mt lm fns nums a sc N [q.1.1]&&(if q.1.2.2.1.isEmpty then !ifB q.1.2.1&&mt lm fns nums b sc N [q.1.2.1] else mt lm fns nums b sc N [.BoolOp .And (q.1.2.1::q.1.2.2.1) q.1.2.2.2])|lm,fns,nums,.or a b=>λsc N es=>opt (C62 es) λq=>!isL a&&!isL b&&!ifB q.1.1&&mt lm fns nums a sc N [q.1.1]&&(if q.1.2.2.1.isEmpty then !ifB q.1.2.1&&mt lm fns nums b sc N [q.1.2.1] else mt lm fns nums b sc N [.BoolOp .Or (q.1.2.1::q.1.2.2.1) q.1.2.2.2])|lm,fns,nums,.orT a b=>λsc N es=>opt (C62 es) λq=>!isL a&&!isL b&&q.1.2.2.1.isEmpty&&mt lm fns nums a sc N [q.1.1]&&mt lm fns nums b sc N [q.1.2.1]|lm,fns,nums,.ite c a b=>λsc N es=>opt (v32 es) λq=>!isL c&&!isL a&&!isL b&&!ifB q.1.1&&mt lm fns nums c sc N [q.1.1]&&mt lm fns nums a sc N [q.1.2.1]&&mt lm fns nums b sc N [q.1.2.2.1]|lm,fns,nums,.ch o o' a b c=>λsc N es=>opt (G82 es) λq=>q.1.2.1 == opC o&&q.1.2.2.1 == opC o'&&w10 q.1.2.2.2.2.1&&!isL a&&!isL b&&!isL c&&mt lm fns nums a sc N [q.1.1]&&mt lm fns nums b sc N [q.1.2.2.2.1]&&mt lm fns nums c sc N [q.1.2.2.2.2.1]|lm,fns,nums,.bf f as=>λsc N es=>(opt (C72 es) λq=>served f&&q.1.1 == (bfN f).1&&glob sc q.1.1&&isL as&&mt lm fns nums as sc N (q.1.2.2.1::q.1.2.2.2.1)) || (H02 f&&opt (G92 es) λq=>q.1.1 == ("sorted":Str)&&q.1.2.2.1 == ("set":Str)&&glob sc "sorted"&&glob sc "set"&&isL as&&mt lm fns nums as sc N [q.1.2.2.2.2.1])|lm,fns,nums,.isi t a=>λsc N es=>opt (v42 es) λq=>q.1.1 == ("isinstance":Str)&&glob sc q.1.1&&noStar q.1.2.2.1&&!isL a&&mt lm fns nums a sc N [q.1.2.2.1]&&tyE sc t q.1.2.2.2.1|lm,fns,nums,.idx a i=>λsc N es=>opt (H12 es) λq=>V30 q.1.2.1&&!isL a&&!isL i&&mt lm fns nums a sc N [q.1.1]&&mt lm fns nums i sc N [q.1.2.1]|lm,fns,nums,.sl a lo hi=>λsc N es=>opt (H22 es) λq=>!isL a&&isL lo&&isL hi&&mt lm fns nums a sc N [q.1.1]&&mt lm fns nums lo sc N q.1.2.1.toList&&mt lm fns nums hi sc N q.1.2.2.1.toList|lm,fns,nums,.rev a=>λsc N es=>opt (v52 es) λq=>!isL a&&mt lm fns nums a sc N [q.1.1]|lm,fns,nums,.call f as=>λsc N es=>opt (C72 es) λq=>(opt fns[f]? λp=>p.1 == q.1.1&&p.2.length == q.1.2.2.2.1.length + 1)&&glob sc q.1.1&&isL as&&mt lm fns nums as sc N (q.1.2.2.1::q.1.2.2.2.1)
 |lm,fns,nums,.comp own capt p it src cond el=>λsc N es=>opt (h82 es) λq =>
   (d30 q.1.2.1).length == own&&(b50 N capt).length == capt.length&&O80 q.1.2.2.2.2.1 sc N (d30 q.1.2.1) (b50 N capt)&&h70 (d30 q.1.2.1++(b50 N capt).map (·.1)) (λx=>(d30 q.1.2.1).contains x) p q.1.2.1&&isL src&&!isL el&&isL cond&&q.1.2.2.2.1.length<=1&&noStar q.1.1&&w10 q.1.2.2.1 &&
    q.1.2.2.2.1.all (λc=>!ifB c) &&
    (match it with
    |.seq=>mt lm fns nums src sc N [q.1.2.2.1]|.rng1=>opt (a42 q.1.2.2.1) λr=>r.1.1 == ("range":Str)&&glob sc r.1.1&&mt lm fns nums src sc N [r.1.2.2.1]|.rng2=>opt (a52 q.1.2.2.1) λr=>r.1.1 == ("range":Str)&&glob sc r.1.1&&mt lm fns nums src sc N [r.1.2.2.1,r.1.2.2.2.1]|.zip=>opt (a52 q.1.2.2.1) λr=>r.1.1 == ("zip":Str)&&glob sc r.1.1&&k90 q.1.2.1&&mt lm fns nums src sc N [r.1.2.2.1,r.1.2.2.2.1]|.enum=>opt (a42 q.1.2.2.1) λr=>r.1.1 == ("enumerate":Str)&&glob sc r.1.1&&k90 q.1.2.1&&mt lm fns nums src sc N [r.1.2.2.1]
    )&&mt false fns nums cond q.1.2.2.2.2.1 (d30 q.1.2.1++(b50 N capt).map (·.1)) q.1.2.2.2.1&&mt false fns nums el q.1.2.2.2.2.1 (d30 q.1.2.1++(b50 N capt).map (·.1)) [q.1.1]
 |lm,fns,nums,.lrng b as=>λsc N es=>opt (H42 es) λq=>q.1.1 == lrN b&&q.1.2.2.1 == ("range":Str)&&glob sc (lrN b)&&glob sc "range"&&isL as&&decide (1<=q.1.2.2.2.2.1.length/\q.1.2.2.2.2.1.length<=2)&&mt lm fns nums as sc N q.1.2.2.2.2.1|lm,fns,nums,.zget i k=>λ_ N es=>opt (H32 es) λq=>N[i]? == some q.1.1&&c50 q.1.1&&q.1.2.2.1 == (k:Int)|lm,fns,nums,.refd capt a=>λsc N es=>opt (v62 es) λq=>lm&&q.1.1 == ("_law_refused":Str)&&glob sc "_law_refused"&&(b50 N capt).length == capt.length&&U91 q.1.2.2.2.1 sc (b50 N capt)&&!isL a&&mt false fns nums a q.1.2.2.2.1 ((b50 N capt).map (·.1)) [q.1.2.2.1]
theorem c90{sc:ø}{x:Str}(h:glob sc x=true):sc.names.lookup x=some .globalImplicit/\(x == ("__debug__":Str))=false/\x≠"__name__":=by
 unfold glob at h;simp only[Á,ú,beq_iff_eq] at h;refine⟨h.1.1,h.1.2,λe=>?_⟩;subst e;simp at h
section
variable {lm:Bool}{X:Cx}{G:Gs}{E:XK}{N:List Str}{sc:ø}
theorem i02{K:Ã}{zA:Option Ç}{H0 H:Hp}{s:S}{v:V}(h:RvP K zA H s v):RvS K zA H0 H (plS s) v:=by cases s <;> exact h
theorem V01(h:(!ifB e)=true):∀ t a b p,e≠.IfExp t a b p:=by
 intro t a b p he;subst he;cases h
theorem b10(hL:isL x=false)(h:Good X G E x [e]):b00 X G E x e:=by
 cases x with
 |nil=>cases hL
 |cons _ _=>cases hL
 |_ =>
  obtain⟨e',h1,h2⟩:=(show ∃ e',[e]=[e']/\b00 X G E _ e' from h);cases h1;exact h2
theorem b80(hL:isL x=false)(h:b00 X G E x e):Good X G E x [e]:=by
 cases x with
 |nil=>cases hL
 |cons _ _=>cases hL
 |_=>exact⟨e,rfl,h⟩
theorem f00(po:V00 X.K G zA E H Q r):∀ c z1,r=.er c z1->EPost G zA E c z1 H:=λc z1 e=>by subst e;exact po
theorem O90(po:G11 G zA E H Q r):∀ c z1,r=.er c z1->EPost G zA E c z1 H:=λc z1 e=>by subst e;exact po
theorem v72(x:XI lm X G E N sc){i:Nat}{n:Str}{pos:Pos}(h1:N[i]?=some n)(h2:c50 n=true):b00 X G E (.var i) (.Name n pos):=by
 unfold c50 at h2;simp only[Á,ú] at h2;refine a90 (PE.imp (k20 (i:=i) (by rw[x.hN];exact h1) (x.vis n (å h1)) h2.1 h2.2) λσ H Q q=>?_) rfl
 obtain⟨zA,ρ,z,r,rel,st,e,po⟩:=q;have e':(match ρ[i]? with | some (some s)=>M.ret [plS s] | _=>M.no) z=some r:=e
 cases hs:ρ[i]? with
 |none=>rw[hs] at e';cases e'
 |some o =>
  cases o with
  |none=>rw[hs] at e';cases e'
  |some s =>
   rw[hs] at e';cases e';obtain⟨v,hv,rv⟩:=rel i s hs;obtain⟨s',e',po⟩:=po;cases e';exact⟨v,hv,po v H Ext.refl st (i02 rv)⟩
theorem v82{c:Const}{d:D}{j:Nat}{pos:Pos}(h:h72 c d=true):b00 X G E (.con d) (.Constant c j pos):=by
 refine a90 ?_ rfl;have fin:∀ {v:V},(∀ H,Hd X.K H d v)->∀ σ H Q,tI X.K G E (.con d) σ H Q->tC v σ H Q:=λ{v} hd σ H Q q=>by
  obtain⟨zA,ρ,z,r,rel,st,e,po⟩:=q;cases e;obtain⟨s',e',po⟩:=po;cases e';exact po v H Ext.refl st (A61 (hd _))
 cases c with
 |int i=>cases d <;> first | (simp only[h72,beq_iff_eq] at h;subst h;exact PE.imp L10 (fin λH=>Hd.int)) | (cases h)
 |bool b=>cases d <;> first | (simp only[h72,beq_iff_eq] at h;subst h;exact PE.imp q12 (fin λH=>Hd.bl)) | (cases h)
 |str y=>cases d <;> first | (simp only[h72,beq_iff_eq] at h;subst h;exact PE.imp K01 (fin λH=>Hd.str)) | (cases h)
 |none=>cases d <;> first | exact PE.imp j51 (fin λH=>Hd.non) | (cases h)
 |_=>cases h
theorem v92{pos:Pos}:b00 X G E (.con .dct) (.Dict [] [] pos):=by
 refine a90 (PE.imp n01 λσ H Q q=>?_) rfl;obtain⟨zA,ρ,z,r,rel,st,e,po⟩:=q;cases e;obtain⟨s',e',po⟩:=po;cases e';intro p hp;refine po _ _ (Ext.of (a30.new _ hp)) (st.same (a30.new _ hp)) (A61 ?_);unfold Hd;exact⟨p,[],rfl,c70 a60 (st.Z40 hp)⟩
theorem i22(x:XI lm X G E N sc){g:Str}{i:Int}{pos:Pos}(h1:glob sc g=true)(h2:(g,i)∈G.nums):b00 X G E (.gint g i) (.Name g pos):=by
 obtain⟨k1,k2,_⟩:=c90 h1;obtain⟨t,ht⟩:=x.num _ h2;refine a90 (PE.imp (f10 (v:=.int i) (x.glb g k1) ht ⟨t,rfl⟩ k2) λσ H Q q=>?_) rfl;obtain⟨zA,ρ,z,r,rel,st,e,po⟩:=q;cases e;obtain⟨s',e',po⟩:=po;cases e';exact po _ H Ext.refl st j30
theorem B70{K:Ã}{zA:Option Ç}{H0 H:Hp}{l:List S}{vs:List V}{ds:List D}(h:Ä1 (RvS K zA H0 H) l vs)(e:plA l=some ds):HdA K (hz zA H) ds vs:=RvA.ds (Ä1.a12 h λ_ _ q=>q.pl) e
theorem w02{as:Ex}{l:List Ò}{k:Nat}{pos:Pos}(hL:isL as=true)(g:Good X G E as l):b00 X G E (.tup as) (.Tuple l k pos):=by
 refine a90 (PE.imp (K51 (g.args hL).1) λσ H Q q=>?_) rfl;obtain⟨zA,ρ,z,r,rel,st,e,po⟩:=q;refine V10 rel st e (f00 po) λl z1 e1 vs H1 x1 st1 rvs=>?_;obtain⟨ds,hd,e2⟩:=M.a40 e1;split at e2
 ·rename_i hm;cases e2;obtain⟨s',e',po⟩:=po;cases e';have h:=B70 rvs hd;exact⟨g20 (by rw[h.length];exact hm),λp hp=>po _ _ (x1.trans (Ext.of (a30.new _ hp))) (st1.same (a30.new _ hp)) (A61 (Hd.tup ((st1.same (a30.new _ hp)).L61 (SqT.of a60)) (h.same (g80 (a30.new _ hp)))))⟩
 ·cases e2
theorem w12{as:Ex}{l:List Ò}{pos:Pos}(hL:isL as=true)(g:Good X G E as l):b00 X G E (.lst as) (.List l pos):=by
 refine a90 (PE.imp (k61 (g.args hL).1) λσ H Q q=>?_) rfl;obtain⟨zA,ρ,z,r,rel,st,e,po⟩:=q;refine V10 rel st e (f00 po) λl z1 e1 vs H1 x1 st1 rvs=>?_;obtain⟨ds,hd,e2⟩:=M.a40 e1;split at e2
 ·rename_i hm;cases e2;obtain⟨s',e',po⟩:=po;cases e';have h:=B70 rvs hd;exact⟨g20 (by rw[h.length];exact hm),λp hp=>po _ _ (x1.trans (Ext.of (a30.new _ hp))) (st1.same (a30.new _ hp)) ((k70 st1 h hp).from x1)⟩
 ·cases e2
theorem Z90{α:Type}{a b:Ex}{k:D->D->M α}{zA:Option Ç}{ρ:Env}{z:Z}{r:R α}{σ:L2.St}{H:Hp}{Q:V->V->Hp->Prop}(rel:u90 X.K zA H ρ σ)(st:d80 zA z H)
  (h:M.bind (ev G.F a ρ) (λx=>M.bind (M.of (pl x)) λx=>M.bind (ev G.F b ρ) λy=>M.bind (M.of (pl y)) λy=>k x y) z=some r) (her:∀ c z1,r=.er c z1->EPost G zA E c z1 H)
  (hk:∀ dx dy z2 v w H2,k dx dy z2=some r->Ext zA H H2->d80 zA z2 H2->Hd X.K (hz zA H2) dx v->Hd X.K (hz zA H2) dy w->Q v w H2) :
  tI X.K G E a σ H λv H1=>tI X.K G E b σ H1 λw H2=>Q v w H2:=by
 refine k80 rel st h her λl z1 e1=>?_;obtain⟨dx,p1,e2⟩:=M.a40 e1;obtain⟨s1,rfl,q1⟩:=h40 p1;refine⟨s1,rfl,λv H1 x1 st1 rv=>?_⟩;refine k80 (rel.mono x1) st1 e2 (λc z2 q=>(her c z2 q).mono x1) λm z2 e3=>?_;obtain⟨dy,p2,e4⟩:=M.a40 e3;obtain⟨s2,rfl,q2⟩:=h40 p2;exact⟨s2,rfl,λw H2 x2 st2 rw'=>hk dx dy z2 v w H2 e4 (x1.trans x2) st2 ((rv.pl.mono x2).d_ q1) (rw'.pl.d_ q2)⟩
theorem e00{zA:Option Ç}{H H2:Hp}{z2:Z}{s:S}{Q:VK}(po:V00 X.K G zA E H Q (.ok [s] z2))(x:Ext zA H H2)(st:d80 zA z2 H2):∀ v H',a30 H2 H'->RvS X.K zA H2 H' s v->Q v H':=λv H' sm rv=>by
 obtain⟨s',e',po⟩:=po;cases e';exact po v H' (x.trans (Ext.of sm)) (st.same sm) (rv.from x)
theorem w22{o:Bi}{a b:Ex}{l r:Ò}{pos:Pos}(ga:b00 X G E a l)(gb:b00 X G E b r):b00 X G E (.bin o a b) (.BinOp l (opB o) r pos):=by
 refine a90 (PE.imp (B31 (opD o) ga.pe gb.pe) λσ H Q q=>?_) rfl;obtain⟨zA,ρ,z,rr,rel,st,e,po⟩:=q;refine Z90 rel st e (f00 po) λdx dy z2 v w H2 e2 x2 st2 h1 h2=>?_;obtain⟨s,hs,e3⟩:=M.a40 e2;cases e3;exact⟨zA,z2,dx,dy,s,st2,h1,h2,hs,e00 po x2 st2⟩
theorem M21(po:G11 G zA E H Q r):V00 X.K G zA E H (λx H'=>∃ k,x=.bl k/\Q k H') r:=by
 cases r with
 |er c z1=>exact po
 |ok l z1 =>
  obtain⟨b,rfl,po⟩:=po;exact⟨_,rfl,λv H' ex st' rv=>⟨b,Hd.bl_ (show Hd X.K (hz zA H') (.bl b) v from rv),po H' ex st'⟩⟩
theorem w32(x:XI lm X G E N sc){o:Cm}{a b:Ex}{l r:Ò}{pos:Pos}(hs:w10 r=true)(ga:b00 X G E a l)(gb:b00 X G E b r):b00 X G E (.cmp o a b) (.Compare l [opC o] [r] pos):=by
 have key:∀ σ H Q,tI X.K G E (.cmp o a b) σ H Q->tOp (rD2 X.K λa b=>(y90 o a b).map λc=>.d (.bl c)) (tI X.K G E a) (tI X.K G E b) σ H Q:=λσ H Q q=>by
  obtain⟨zA,ρ,z,rr,rel,st,e,po⟩:=q;refine Z90 rel st e (f00 po) λdx dy z2 v w H2 e2 x2 st2 h1 h2=>?_;obtain⟨c,hc,e3⟩:=M.a40 e2;cases e3;exact⟨zA,z2,dx,dy,_,st2,h1,h2,by show Í9 _ (y90 o dx dy)=_;rw[hc];rfl,e00 po x2 st2⟩
 refine⟨PE.imp (P01 (a32 x.room.units o) ga.pe gb.pe (q91 hs _)) key,λ_=>PT.imp (P11 (a32 x.room.units o) ga.pe gb.pe (q91 hs _)) λσ H Q q=>?_,λop vs p h=>by cases h⟩
 obtain⟨zA,ρ,z,rr,rel,st,e,po⟩:=q;exact key σ H _ ⟨zA,ρ,z,rr,rel,st,e,M21 po⟩
theorem w42{a:Ex}{l:Ò}{pos:Pos}(ga:b00 X G E a l):b00 X G E (.neg a) (.UnaryOp .USub l pos):=by
 refine a90 (PE.imp (c72 K41 ga.pe) λσ H Q q=>?_) rfl;obtain⟨zA,ρ,z,rr,rel,st,e,po⟩:=q;refine k80 rel st e (f00 po) λm z1 e1=>?_;obtain⟨i,p1,e2⟩:=M.a40 e1;obtain⟨d,p2,p3⟩:=Ð.mp p1;obtain⟨s1,rfl,q1⟩:=h40 p2;cases e2;refine⟨s1,rfl,λv H1 x1 st1 rv=>?_⟩;have hd:=rv.pl.d_ q1;cases d with
 |int j =>
  cases p3;exact⟨i,hd.j10,e00 po x1 st1 _ _ (a30.refl H1) j30⟩
 |_=>cases p3
theorem w52{a:Ex}{l:Ò}{pos:Pos}(ga:b00 X G E a l)(hn:∀ t x y p,l≠.IfExp t x y p):b00 X G E (.not a) (.UnaryOp .Not l pos):=by
 refine⟨PE.imp (c02 ga.pe) λσ H Q q=>?_,λ_=>PT.imp (K11 (ga.pt hn)) λσ H Q q=>?_,λop vs p h=>by cases h⟩
 ·obtain⟨zA,ρ,z,rr,rel,st,e,po⟩:=q;refine k80 rel st e (f00 po) λm z1 e1=>?_;obtain⟨b,p1,e2⟩:=M.a40 e1;obtain⟨d,p2,p3⟩:=Ð.mp p1;obtain⟨s1,rfl,q1⟩:=h40 p2;cases e2;refine⟨s1,rfl,λv H1 x1 st1 rv=>?_⟩;have hd:=rv.pl.d_ q1;cases d with
  |bl c =>
   cases p3;exact⟨b,hd.bl_,e00 po x1 st1 _ _ (a30.refl H1) j20⟩
  |_=>cases p3
 ·obtain⟨zA,ρ,z,rr,rel,st,e,po⟩:=q;refine V20 rel st e (O90 po) λb z1 e1 H1 x1 st1=>?_;cases e1;obtain⟨b',e',po⟩:=po;cases e';exact po H1 x1 st1
end
end Q
namespace Q
open PySem L2 PySem.Spec PyProof.Rows
variable [TB:Tb]
section
variable {lm:Bool}{X:Cx}{G:Gs}{E:XK}{N:List Str}{sc:ø}
theorem I30(rel:u90 X.K zA H ρ σ)(st:d80 zA z H)
  (h:M.bind (ev G.F a ρ) (λx=>M.bind (M.of ((pl x).bind asB)) k) z=some r) (her:∀ c z1,r=.er c z1->EPost G zA E c z1 H)
  (hok:∀ b z1,k b z1=some r->∀ H1,Ext zA H H1->d80 zA z1 H1->Q' (.bl b) H1):tI X.K G E a σ H Q':=by
 refine k80 rel st h her λm z1 e1=>?_;obtain⟨b,p1,e2⟩:=M.a40 e1;obtain⟨d,p2,p3⟩:=Ð.mp p1;obtain⟨s1,rfl,q1⟩:=h40 p2;refine⟨s1,rfl,λv H1 x1 st1 rv=>?_⟩;have hd:=rv.pl.d_ q1;cases d with
 |bl c =>
  cases p3;rw[hd.bl_];exact hok b z1 e2 H1 x1 st1
 |_=>cases p3
theorem w62(ga:b00 X G E a l)(hl:∀ t x y p,l≠.IfExp t x y p)
  (gb:b00 X G E b (.BoolOp .And (r::vs) p)):b00 X G E (.and a b) (.BoolOp .And (l::r::vs) p):=by
 have pw:PW X (.BoolOp .And (l::r::vs) p) (tT X.K G E (.and a b)):=by
  refine PW.imp (b72 (ga.pt hl) (gb.pw _ _ _ rfl)) λσ H Q q=>?_;obtain⟨zA,ρ,z,rr,rel,st,e,po⟩:=q;refine V20 rel st e (O90 po) λc z1 e1 H1 x1 st1=>?_;cases c with
  |true =>
   rw[if_pos rfl];rw[if_pos rfl] at e1;refine V20 (rel.mono x1) st1 e1 (λc z2 q=>((O90 po) c z2 q).mono x1) λc z2 e2 H2 x2 st2=>?_;cases e2;obtain⟨b',e',po⟩:=po;cases e';exact po H2 (x1.trans x2) st2
  |false =>
   rw[if_neg Ñ];rw[if_neg Ñ] at e1;cases e1;obtain⟨b',e',po⟩:=po;cases e';exact po H1 x1 st1
 refine⟨PE.imp (b92 ga.pe gb.pe) λσ H Q q=>?_,λ_=>pw.pt,λop vs p h=>pw⟩;obtain⟨zA,ρ,z,rr,rel,st,e,po⟩:=q;refine I30 rel st e (f00 po) λc z1 e1 H1 x1 st1=>⟨c,rfl,?_⟩;cases c with
 |true =>
  rw[if_pos rfl];rw[if_pos rfl] at e1;refine I30 (rel.mono x1) st1 e1 (λc z2 q=>((f00 po) c z2 q).mono x1) λc z2 e2 H2 x2 st2=>?_;cases e2;exact e00 po (x1.trans x2) st2 _ _ (a30.refl H2) j20
 |false =>
  rw[if_neg Ñ];rw[if_neg Ñ] at e1;cases e1;exact e00 po x1 st1 _ _ (a30.refl H1) j20
theorem H52(ga:b00 X G E a l)(hl:∀ t x y p,l≠.IfExp t x y p)
  (gb:b00 X G E b (.BoolOp .Or (r::vs) p)):b00 X G E (.or a b) (.BoolOp .Or (l::r::vs) p):=by
 have pw:PW X (.BoolOp .Or (l::r::vs) p) (tT X.K G E (.or a b)):=by
  refine PW.imp (q22 (ga.pt hl) (gb.pw _ _ _ rfl)) λσ H Q q=>?_;obtain⟨zA,ρ,z,rr,rel,st,e,po⟩:=q;refine V20 rel st e (O90 po) λc z1 e1 H1 x1 st1=>?_;cases c with
  |false =>
   rw[if_neg Ñ];rw[if_neg Ñ] at e1;refine V20 (rel.mono x1) st1 e1 (λc z2 q=>((O90 po) c z2 q).mono x1) λc z2 e2 H2 x2 st2=>?_;cases e2;obtain⟨b',e',po⟩:=po;cases e';exact po H2 (x1.trans x2) st2
  |true =>
   rw[if_pos rfl];rw[if_pos rfl] at e1;cases e1;obtain⟨b',e',po⟩:=po;cases e';exact po H1 x1 st1
 refine⟨PE.imp (q52 ga.pe gb.pe) λσ H Q q=>?_,λ_=>pw.pt,λop vs p h=>pw⟩;obtain⟨zA,ρ,z,rr,rel,st,e,po⟩:=q;refine I30 rel st e (f00 po) λc z1 e1 H1 x1 st1=>⟨c,rfl,?_⟩;cases c with
 |false =>
  rw[if_neg Ñ];rw[if_neg Ñ] at e1;refine I30 (rel.mono x1) st1 e1 (λc z2 q=>((f00 po) c z2 q).mono x1) λc z2 e2 H2 x2 st2=>?_;cases e2;exact e00 po (x1.trans x2) st2 _ _ (a30.refl H2) j20
 |true =>
  rw[if_pos rfl];rw[if_pos rfl] at e1;cases e1;exact e00 po x1 st1 _ _ (a30.refl H1) j20
theorem i32(gb:b00 X G E b r)(hr:∀ t x y p,r≠.IfExp t x y p):b00 X G E b (.BoolOp op [r] p):=by
 have pw:PW X (.BoolOp op [r] p) (tT X.K G E b):=by
  cases op with
  |And=>exact O71 (gb.pt hr)|Or=>exact b62 (gb.pt hr)
 exact⟨b82 gb.pe,λ_=>pw.pt,λ_ _ _ _=>pw⟩
theorem V00.i42(po:V00 X.K G zA E H Q rr)(x1:Ext zA H H1):V00 X.K G zA E H1 Q rr:=by
 cases rr with
 |er c z1=>exact EPost.mono po x1
 |ok l z2 =>
  obtain⟨s,e',po⟩:=po;exact⟨s,e',λv H' x' st' rv=>po v H' (x1.trans x') st' (rv.from x1)⟩
theorem P00{α:Type}{m:M α}{z:Z}{r:R α}(h:M.calm m z=some r):m z=some r/\∃ a z1,r=.ok a z1:=by
 unfold M.calm at h;split at h
 ·rename_i a z1 e;cases h;exact⟨e,a,z1,rfl⟩
 ·cases h
theorem i52{a b:Ò}{ta tb:TE}{pos:Pos}(ha:PE X a ta)(hb:PE X b tb):PE X (.BoolOp .Or [a,b] pos) (λσ H Q=>ta σ H λx H1=>∃ t xs,x=.ref t/\SqT X.K H1 t xs/\if xs.isEmpty=true then tb σ H1 Q else Q x H1):=by
 intro pins s σ H Q I h;refine BoolOp_or (thn (ha pins s σ H _ I h) λv s1 ⟨x,H1,I1,r1,q1⟩=>?_);obtain⟨t,xs,rfl,hq,q1⟩:=q1;obtain⟨its,hv,ht,hl⟩:=I1.tuple hq;have hlen:xs.length=its.length:=hv.length;cases r1;refine truthy_tuple ht (by rw[Ø,← hlen];have:=ò;omega) ?_
 cases xs with
 |nil =>
  cases its with
  |nil=>exact BoolOp_one (hb pins _ σ H1 Q (I1.tok _) q1)|cons _ _=>cases hlen
 |cons y r =>
  cases its with
  |nil=>cases hlen
  |cons _ _=>exact⟨.ref t,H1,I1.tok _,rfl,q1⟩
theorem M31(h:(pl y).bind f62=some l):∃ s,y=[s]/\plD s=some (.tup l):=by
 obtain⟨d,p2,p3⟩:=Ð.mp h;obtain⟨s1,rfl,q1⟩:=h40 p2;cases d with
 |tup l=>cases p3;exact⟨s1,rfl,q1⟩
 |_=>cases p3
theorem w72(ga:b00 X G E a l)(gb:b00 X G E b r):b00 X G E (.orT a b) (.BoolOp .Or [l,r] p):=by
 have no:∀ {zA:Option Ç}{ρ:Env}{z:Z}{rr:R (List S)}{H:Hp}{Q:Bool->Hp->Prop},ev G.F (.orT a b) ρ z=some rr->G11 G zA E H Q rr->False:=λe po=>by
  obtain⟨e,u,z1,rfl⟩:=P00 e;obtain⟨c,rfl,_⟩:=po;rcases M.bind_some e with ⟨m,z2,_,e2⟩ | ⟨c,z2,_,e2⟩
  ·obtain⟨ds,_,e3⟩:=M.a40 e2;split at e3
   ·rcases M.bind_some e3 with ⟨m,z2,_,e2⟩ | ⟨c,z2,_,e2⟩
    ·obtain⟨ds,_,e3⟩:=M.a40 e2;cases e3
    ·cases e2
   ·cases e3
  ·cases e2
 refine⟨PE.imp (i52 ga.pe gb.pe) λσ H Q q=>?_,λ_ pins s σ H Q I ⟨_,_,_,_,_,_,e,po⟩=>(no e po).elim,λ_ _ _ _ wh pins s σ H Q I ⟨_,_,_,_,_,_,e,po⟩=>(no e po).elim⟩;obtain⟨zA,ρ,z,rr,rel,st,e,po⟩:=q;obtain⟨e,u,z1,rfl⟩:=P00 e;refine k80 rel st e (f00 po) λm z1 e1=>?_;obtain⟨ds,p1,e2⟩:=M.a40 e1;obtain⟨s1,rfl,q1⟩:=M31 p1;refine⟨s1,rfl,λv H1 x1 st1 rv=>?_⟩;have hd:=rv.pl.d_ q1;obtain⟨t,xs,rfl,h1,h2⟩:=hd.u70;refine⟨t,xs,rfl,(a00 zA H1).sqT h1,?_⟩;cases ds with
 |nil =>
  cases h2.e40;have po:=po.i42 x1;refine k80 (rel.mono x1) st1 e2 (f00 po) λm z1 e1=>?_;obtain⟨ds,p1,e2⟩:=M.a40 e1;obtain⟨s1,rfl,q1⟩:=M31 p1;cases e2;exact⟨s1,rfl,λv H2 x2 st2 rv=>e00 po x2 st2 _ _ (a30.refl H2) (rv.pl.d_ q1)⟩
 |cons y r =>
  obtain⟨u,w,rfl,_⟩:=h2.c00;cases e2;exact e00 po x1 st1 _ _ (a30.refl H1) hd
theorem w82(gc:b00 X G E c t)(ht:∀ a b d p,t≠.IfExp a b d p)(ga:b00 X G E a x)(gb:b00 X G E b y):b00 X G E (.ite c a b) (.IfExp t x y p):=by
 refine⟨PE.imp (B01 (gc.pt ht) ga.pe gb.pe) λσ H Q q=>?_,λh=>absurd rfl (h t x y p),λop vs p h=>by cases h⟩
 obtain⟨zA,ρ,z,rr,rel,st,e,po⟩:=q;refine V20 rel st e (f00 po) λk z1 e1 H1 x1 st1=>?_;have po1:=po.i42 x1;cases k with
 |true =>
  rw[if_pos rfl];rw[if_pos rfl] at e1;exact⟨zA,ρ,z1,rr,rel.mono x1,st1,e1,po1⟩
 |false =>
  rw[if_neg Ñ];rw[if_neg Ñ] at e1;exact⟨zA,ρ,z1,rr,rel.mono x1,st1,e1,po1⟩
theorem H62(x:XI lm X G E N sc){o o':Cm}{a b c:Ex}{l r s:Ò}{pos:Pos}(hs:w10 s=true)(ga:b00 X G E a l)(gb:b00 X G E b r)(gc:b00 X G E c s):b00 X G E (.ch o o' a b c) (.Compare l [opC o,opC o'] [r,s] pos):=by
 have hm:lastMarks [opC o,opC o'] [r,s]=false:=q91 hs _;have key:∀ σ H Q,tI X.K G E (.ch o o' a b c) σ H Q->k21 (rD2 X.K λa b=>(y90 o a b).map λc=>.d (.bl c)) (rD2 X.K λa b=>(y90 o' a b).map λc=>.d (.bl c)) (tI X.K G E a) (tI X.K G E b) (tI X.K G E c) σ H Q:=λσ H Q q=>by
  obtain⟨zA,ρ,z,rr,rel,st,e,po⟩:=q;refine Z90 rel st e (f00 po) λdx dy z2 v w H2 e2 x2 st2 h1 h2=>?_;obtain⟨k,hk,e3⟩:=M.a40 e2;refine⟨zA,z2,dx,dy,.d (.bl k),st2,h1,h2,by show Í9 _ (y90 o dx dy)=_;rw[hk];rfl,λv3 H3 sm rv=>⟨k,Hd.bl_ (show Hd X.K (hz zA H3) (.bl k) v3 from rv),?_⟩⟩
  have x3:=x2.trans (Ext.of sm);have st3:=st2.same sm;cases k with
  |true =>
   rw[if_pos rfl];rw[if_pos rfl] at e3;refine k80 (rel.mono x3) st3 e3 (λc z2 q=>((f00 po) c z2 q).mono x3) λm z4 e4=>?_;obtain⟨dw,p1,e5⟩:=M.a40 e4;obtain⟨k',hk',e6⟩:=M.a40 e5;obtain⟨s1,rfl,q1⟩:=h40 p1;cases e6;refine⟨s1,rfl,λv4 H4 x4 st4 rv4=>?_⟩;exact⟨zA,z4,dy,dw,_,st4,(h2.same (a30.trans (g80 sm) x4)),rv4.pl.d_ q1,by show Í9 _ (y90 o' dy dw)=_;rw[hk'];rfl,e00 po (x3.trans x4) st4⟩
  |false =>
   rw[if_neg Ñ];rw[if_neg Ñ] at e3;cases e3;exact e00 po x3 st3 _ _ (a30.refl H3) j20
 refine⟨PE.imp (B41 (a32 x.room.units o) (a32 x.room.units o') ga.pe gb.pe gc.pe hm) key,λ_=>PT.imp (B51 (a32 x.room.units o) (a32 x.room.units o') ga.pe gb.pe gc.pe hm) λσ H Q q=>?_,λop vs p h=>by cases h⟩
 obtain⟨zA,ρ,z,rr,rel,st,e,po⟩:=q;exact key σ H _ ⟨zA,ρ,z,rr,rel,st,e,M21 po⟩
theorem M41:∀ σ H Q,tI X.K G E (.bf f as) σ H Q->tCB (rDn X.K (bfD f)) (tA X.K G E as) σ H Q:=λσ H Q q=>by
 obtain⟨zA,ρ,z,rr,rel,st,e,po⟩:=q;refine V10 rel st e (f00 po) λl z1 e1 vs H1 x1 st1 rvs=>?_;obtain⟨ds,hd,e2⟩:=M.a40 e1;obtain⟨s,hs,e3⟩:=M.a40 e2;cases e3;exact⟨zA,z1,ds,s,st1,B70 rvs hd,hs,e00 po x1 st1⟩
theorem r01(x:XI lm X G E N sc){f:Bf}{as:Ex}{n:Str}{id:String}{e:Ò}{l:List Ò}{p pos:Pos}(hc:e30 X (.builtin id) (rDn X.K (bfD f)))(hb:n∈U81)(hv:í n=some (.builtin id))(hg:glob sc n=true)(hL:isL as=true)(g:Good X G E as (e::l)):b00 X G E (.bf f as) (.Call (.Name n p) (e::l) [] pos):=by
 obtain⟨k1,k2,k3⟩:=c90 hg;obtain⟨ha,hs⟩:=g.args hL;rw[Ä8,Á] at hs;exact a90 (PE.imp (q40 hc (x.glb n k1) (x.blt n hb) hv ha k3 k2 (c80 hs.1 l X.env) (o10 X.env pos hs.2)) M41) rfl
theorem V11(x:XI lm X G E N sc){f:Bf}{as:Ex}{n:Str}{T:String}{e:Ò}{l:List Ò}{p pos:Pos}(hc:e30 X (.type T) (rDn X.K (bfD f)))(hb:n∈U81)(hv:í n=some (.type T))(hg:glob sc n=true)(hL:isL as=true)(g:Good X G E as (e::l)):b00 X G E (.bf f as) (.Call (.Name n p) (e::l) [] pos):=by
 obtain⟨k1,k2,k3⟩:=c90 hg;obtain⟨ha,hs⟩:=g.args hL;rw[Ä8,Á] at hs;exact a90 (PE.imp (x50 hc (x.glb n k1) (x.blt n hb) hv ha k3 k2 (c80 hs.1 l X.env) (o10 X.env pos hs.2)) M41) rfl
theorem i62:í "len"=some (.builtin "len"):=by decide +kernel
theorem P10:í "sorted"=some (.builtin "sorted"):=by decide +kernel
theorem i72:í "all"=some (.builtin "all"):=by decide +kernel
theorem i82:í "min"=some (.builtin "min"):=by decide +kernel
theorem i92:í "max"=some (.builtin "max"):=by decide +kernel
theorem r40:í "isinstance"=some (.builtin "isinstance"):=by decide +kernel
theorem j02:í "int"=some (.type "int"):=by decide +kernel
theorem I40:í "tuple"=some (.type "tuple"):=by decide +kernel
theorem V40:í "list"=some (.type "list"):=by decide +kernel
theorem H72(x:XI lm X G E N sc){f:Bf}{as:Ex}{n:Str}{e:Ò}{l:List Ò}{p pos:Pos}(hf:served f=true)(hn:n=(bfN f).1)(hg:glob sc n=true)(hL:isL as=true)(g:Good X G E as (e::l)):b00 X G E (.bf f as) (.Call (.Name n p) (e::l) [] pos):=by
 subst hn;cases f with
 |len=>exact r01 x h02 (-0) i62 hg hL g|tuple=>exact V11 x F61 (-0) I40 hg hL g|list=>exact V11 x U21 (-0) V40 hg hL g|min=>exact r01 x (h42 x.calm) (-0) i82 hg hL g|max=>exact r01 x (h52 x.calm) (-0) i92 hg hL g|all=>exact r01 x (h32 x.calm) (-0) i72 hg hL g|int=>exact V11 x h62 (-0) j02 hg hL g|sorted=>exact r01 x (q51 x.room.units) (-0) P10 hg hL g|_=>cases hf
theorem w92(t:Ty)(h:t≠.seq):Á0 (tyN t)∈U81/\í (Á0 (tyN t))=some (.type (tyN t))/\tyN t∈["int","bool","tuple","list","str"]:=by
 cases t with
 |seq=>exact absurd rfl h|_=>decide +kernel
theorem j12(x:XI lm X G E N sc){t:Ty}{a:Ex}{n:Str}{e:Ò}{p pos p2:Pos}(hs:t≠.seq)
  (hg2:glob sc (Á0 (tyN t))=true) (hn:n="isinstance") (hg:glob sc n=true) (ns:noStar e=true) (ga:b00 X G E a e):b00 X G E (.isi t a) (.Call (.Name n p) [e,.Name (Á0 (tyN t)) p2] [] pos):=by
 obtain⟨hb,hv,ht⟩:=w92 t hs;subst hn;obtain⟨k1,k2,k3⟩:=c90 hg;obtain⟨m1,m2,m3⟩:=c90 hg2;refine a90 (PE.imp (q40 D51 (x.glb _ k1) (x.blt _ (-0)) r40 (d20 ga.pe (d20 (E50 (v:=.ty (tyN t)) (x.glb _ m1) (x.blt _ hb) hv rfl m3 m2) k40) (c80 ns _ _)) k3 k2 (c80 ns _ _) rfl) λσ H Q q=>?_) rfl
 obtain⟨zA,ρ,z,rr,rel,st,e,po⟩:=q;refine k80 rel st e (f00 po) λm z1 e1=>?_;obtain⟨d,p1,e2⟩:=M.a40 e1;obtain⟨s1,rfl,q1⟩:=h40 p1;cases e2;refine⟨s1,rfl,λv H1 x1 st1 rv=>⟨d,v,tyN t,rfl,((rv.pl.d_ q1).same (a00 zA H1)).has,ht,?_⟩⟩;rw[U31 t d hs];exact e00 po x1 st1 _ _ (a30.refl H1) j20
theorem j22(x:XI lm X G E N sc){a:Ex}{n:Str}{e:Ò}{p pos p1 p2 p3:Pos}{k:Nat}(hg2:glob sc "tuple"=true)(hg3:glob sc "list"=true)(hn:n="isinstance")(hg:glob sc n=true)(ns:noStar e=true)(ga:b00 X G E a e) :
  b00 X G E (.isi .seq a) (.Call (.Name n p) [e,.Tuple [.Name "tuple" p1,.Name "list" p2] k p3] [] pos):=by
 subst hn;obtain⟨k1,k2,k3⟩:=c90 hg;obtain⟨m1,m2,m3⟩:=c90 hg2;obtain⟨l1,l2,l3⟩:=c90 hg3;refine a90 (PE.imp (q40 n31 (x.glb _ k1) (x.blt _ (-0)) r40 (d20 ga.pe (d20 (K51 (d20 (E50 (v:=.ty "tuple") (x.glb _ m1) (x.blt _ (-0)) I40 rfl m3 m2)
  (d20 (E50 (v:=.ty "list") (x.glb _ l1) (x.blt _ (-0)) V40 rfl l3 l2) k40))) k40) (c80 ns _ _)) k3 k2 (c80 ns _ _) rfl) λσ H Q q=>?_) rfl
 obtain⟨zA,ρ,z,rr,rel,st,e,po⟩:=q;refine k80 rel st e (f00 po) λm z1 e1=>?_;obtain⟨d,p1,e2⟩:=M.a40 e1;obtain⟨s1,rfl,q1⟩:=h40 p1;cases e2;refine⟨s1,rfl,λv H1 x1 st1 rv=>⟨by show 2<=sizeLine;rw[ò];decide,λt ht=>?_⟩⟩
 have sm:a30 H1 (upd H1 t (.tup [.ty "tuple",.ty "list"])):=a30.new _ ht;refine⟨d,v,t,rfl,((rv.pl.d_ q1).same (a30.trans (a00 zA H1) sm)).has,SqT.of a60,?_⟩;rw[F71 d];exact e00 po x1 st1 _ _ sm j20
theorem x02{a i:Ex}{v x:Ò}{pos:Pos}(hs:V30 x=true)(ga:b00 X G E a v)(gi:b00 X G E i x):b00 X G E (.idx a i) (.Subscript v x pos):=by
 refine a90 (PE.imp (P81 ixD ga.pe gi.pe (C80 hs)) λσ H Q q=>?_) rfl;obtain⟨zA,ρ,z,rr,rel,st,e,po⟩:=q;refine Z90 rel st e (f00 po) λdx dy z2 v w H2 e2 x2 st2 h1 h2=>?_;obtain⟨c,hc,e3⟩:=M.a40 e2;cases e3;exact⟨zA,z2,dx,dy,_,st2,h1,h2,by show Í9 _ (g51 dx dy)=_;rw[hc];rfl,e00 po x2 st2⟩
theorem j32(x:XI lm X G E N sc){i k:Nat}{n:Str}{c:Nat}{p q pos:Pos}(h1:N[i]?=some n)(h2:c50 n=true):b00 X G E (.zget i k) (.Subscript (.Name n p) (.Constant (.int k) c q) pos):=by
 unfold c50 at h2;simp only[Á,ú] at h2;refine a90 (PE.imp (P81 T00 (k20 (i:=i) (by rw[x.hN];exact h1) (x.vis n (å h1)) h2.1 h2.2) L10 (C80 rfl)) λσ H Q qq=>?_) rfl
 obtain⟨zA,ρ,z,rr,rel,st,e,po⟩:=qq;have e0:p61 k ρ[i]? z=some rr:=e;unfold p61 at e0;split at e0
 ·rename_i p hs;obtain⟨v,hv,a,hz',rfl⟩:=rel i .z hs;subst hz';have st':H a=some (.lst [.int p.1,.bl p.2]):=st.zat;refine⟨_,hv,a,[.int p.1,.bl p.2],(k:Int),?_⟩;split at e0
  ·rename_i hk;subst hk;cases e0;obtain⟨s',e',po⟩:=po;cases e';exact⟨_,rfl,rfl,SqL.of st',rfl,po _ H Ext.refl st j30⟩
  ·split at e0
   ·rename_i hk;subst hk;cases e0;obtain⟨s',e',po⟩:=po;cases e';exact⟨_,rfl,rfl,SqL.of st',rfl,po _ H Ext.refl st (A61 Hd.bl)⟩
   ·cases e0
 ·cases e0
theorem a01(a:Int):∀ (n:Nat) {its:List Ä},its.length=n->(∀ i,i < n->∃ v t,its[i]?=some v/\v=.int (a + (i:Nat)) t)->Vals ((ì n).map λ(k:Nat)=>V.int (a + k)) its:=by
 intro n its hl h;have:∀ (m:Nat) (l:List Ä) (o:Nat),l.length=m->(∀ i,i < m->∃ v t,l[i]?=some v/\v=.int (a + (o + i:Nat)) t)->Vals ((List.range' o m 1).map λ(k:Nat)=>V.int (a + k)) l:=by
  intro m
  induction m with
  |zero =>
   intro l o hl _;rw[List.length_eq_zero_iff.mp hl];exact .nil
  |succ m ih =>
   intro l o hl h;cases l with
   |nil=>cases hl
   |cons x r =>
    obtain⟨v,t,e1,e2⟩:=h 0 (Nat.succ_pos m);simp only[Ê4,É3] at e1;subst e1;rw[List.range'_succ,Â2];refine .cons ⟨t,by rw[e2];simp⟩ (ih r (o + 1) (by simpa using hl) λi hi=>?_)
    obtain⟨v,t,e1,e2⟩:=h (i + 1) (Nat.succ_lt_succ hi);exact⟨v,t,by simpa using e1,by rw[e2];congr 1;omega⟩
 rw[List.range_eq_range'];exact this n its 0 hl λi hi=>by
  obtain⟨v,t,e1,e2⟩:=h i hi;exact⟨v,t,e1,by rw[e2];simp⟩
theorem r11:í "range"=some (.type "range"):=by decide +kernel
def lrV:List V->Option (Int × Int)
 |[.int j]=>some (0,j)|[.int i,.int j]=>some (i,j)|_=>none
def lrO:Bool->List V->HO
 |true=>HO.tup|false=>HO.lst
def lrT:Bool->String
 |true=>"tuple"|false=>"list"
def x12(b:Bool)(ta:TA):TE:=λσ H Q=>ta σ H λvs H1=>∃ i j:Int,lrV vs=some (i,j)/\-100000 < i/\i < 100000/\-100000 < j/\j < 100000/\∀ l,H1 l=none->Q (.ref l) (upd H1 l (lrO b ((ì (j - i).toNat).map λ(k:Nat)=>V.int (i + k))))
theorem j42{pins:List (Ç × Obj)}{σ:L2.St}{H1:Hp}{s1:Æ}{r:Ç}{i j:Int}{t u v:Tok}{Q:VK}(hc:X.calm=true)(I2:Inv X pins σ H1 s1)(hr:Õ6 s1.heap r i j 1 t u v)(i1:-100000 < i)(i2:i < 100000)(j1:-100000 < j)(j2:j < 100000)
  (q:∀ l,H1 l=none->Q (.ref l) (upd H1 l (.lst ((ì (j - i).toNat).map λ(k:Nat)=>V.int (i + k))))):Ï (Õ X.prog X.w) X.A (call (.type "list") [.ref r]) (EP X pins σ Q) X.xe s1:=by
 have hz:Ã5 i j 1=(((j - i).toNat:Nat):Int):=by rw[rangeSize_one];split <;> omega
 refine call_list_range (n:=(j - i).toNat) (I2.ok.hd hc) hr (small_one ∅ ∅ ∅ ∅) hz ∅ λh' tk acc' c' kp hS hacc=>?_
 have rv:Vals ((ì (j - i).toNat).map λ(k:Nat)=>V.int (i + k)) acc'.toList:=by
  refine a01 i (j - i).toNat ?_ λi hi=>?_
  ·rw[É8];exact hacc.1
  ·have hlt:i < acc'.size:=by rw[hacc.1];exact hi
   obtain⟨t,e⟩:=hacc.2 i acc'[i] (È7 hlt);exact⟨acc'[i],t,by rw[Æ1];exact È7 hlt,by rw[e];simp⟩
 have hlen:((ì (j - i).toNat).map λ(k:Nat)=>V.int (i + k)).length<=sizeLine:=by rw[Ì,Â3,ò];omega
 have hn:=I2.hok.fresh (Ë _);exact⟨.ref _,_,I2.laid (t':=tk) kp (Ë _) (show g60 X.prog X.w _ h' _ (.lst _) from⟨hlen,acc'.toList,c',rv,by rw[Ï6];exact hS⟩),rfl,q _ hn⟩
theorem V21{pins:List (Ç × Obj)}{σ:L2.St}{H1:Hp}{s1:Æ}{r:Ç}{i j:Int}{t u v:Tok}{Q:VK}(hc:X.calm=true)(I2:Inv X pins σ H1 s1)(hr:Õ6 s1.heap r i j 1 t u v)(i1:-100000 < i)(i2:i < 100000)(j1:-100000 < j)(j2:j < 100000)
  (q:∀ l,H1 l=none->Q (.ref l) (upd H1 l (.tup ((ì (j - i).toNat).map λ(k:Nat)=>V.int (i + k))))):Ï (Õ X.prog X.w) X.A (call (.type "tuple") [.ref r]) (EP X pins σ Q) X.xe s1:=by
 have hz:Ã5 i j 1=(((j - i).toNat:Nat):Int):=by rw[rangeSize_one];split <;> omega
 refine HT.tuple_range (n:=(j - i).toNat) (I2.ok.hd hc) hr (small_one ∅ ∅ ∅ ∅) hz ∅ λh' tk acc' kp hsz hacc=>?_
 have rv:Vals ((ì (j - i).toNat).map λ(k:Nat)=>V.int (i + k)) acc'.toList:=by
  refine a01 i (j - i).toNat ?_ λi hi=>?_
  ·rw[É8];exact hacc.1
  ·have hlt:i < acc'.size:=by rw[hacc.1];exact hi
   obtain⟨t,e⟩:=hacc.2 i acc'[i] (È7 hlt);exact⟨acc'[i],t,by rw[Æ1];exact È7 hlt,by rw[e];simp⟩
 have hlen:((ì (j - i).toNat).map λ(k:Nat)=>V.int (i + k)).length<=sizeLine:=by rw[Ì,Â3,ò];omega
 exact⟨.ref _,_,I2.laid (t':=tk) (λb o e=>Â _ (kp b o e)) hsz (show g60 X.prog X.w _ _ _ (.tup _) from⟨hlen,acc'.toList,rv,⟨_,É _ rfl,rfl,0,by rw[Ï6]⟩⟩),rfl,q _ (I2.hok.fresh hsz)⟩
theorem r21(b:Bool){pins:List (Ç × Obj)}{σ:L2.St}{H1:Hp}{s1:Æ}{r:Ç}{i j:Int}{t u v:Tok}{Q:VK}(hc:X.calm=true)(I2:Inv X pins σ H1 s1)(hr:Õ6 s1.heap r i j 1 t u v)(i1:-100000 < i)(i2:i < 100000)(j1:-100000 < j)(j2:j < 100000)
  (q:∀ l,H1 l=none->Q (.ref l) (upd H1 l (lrO b ((ì (j - i).toNat).map λ(k:Nat)=>V.int (i + k))))):Ï (Õ X.prog X.w) X.A (call (.type (lrT b)) [.ref r]) (EP X pins σ Q) X.xe s1:=by
 cases b with
 |true=>exact V21 hc I2 hr i1 i2 j1 j2 q|false=>exact j42 hc I2 hr i1 i2 j1 j2 q
theorem x22(b:Bool):í (lrN b)=some (.type (lrT b)):=by
 cases b with
 |true=>exact I40|false=>exact V40
theorem r31(b:Bool){e:Ò}{l:List Ò}{ta:TA}{p p2 pos pos2:Pos}(hc:X.calm=true)(hg:Gl X (lrN b))(hm:X.mg (lrN b)=none)(hg2:Gl X "range")(hm2:X.mg "range"=none)(ha:PA X (e::l) ta)(hs:noStar e=true)(hs2:l.all noStar=true) :
  PE X (.Call (.Name (lrN b) p) [.Call (.Name "range" p2) (e::l) [] pos2] [] pos) (x12 b ta):=by
 intro pins s σ H Q I h;refine Call_ (q20 I hg hm (x22 b) (Á1 (Ö9 ?_) rfl rfl) (by cases b <;> decide) (by cases b <;> decide))
 refine Call_ (q20 I hg2 hm2 r11 (Á1 (thn (ha pos2 pins s σ H _ I h) λus s1 ⟨vs,H1,I1,r1,q1⟩=>?_) (c80 hs l X.env) (o10 X.env pos2 hs2)));obtain⟨i,j,hv,i1,i2,j1,j2,q⟩:=q1
 match vs,hv with
 |[.int _],hv =>
  cases hv;obtain⟨u,rfl,r⟩:=vals1 r1;obtain⟨t,rfl⟩:=r;exact call_range_1 (Ð2 (r21 b hc (I1.kept λb o e=>Â _ e) (Õ6.new ..) i1 i2 j1 j2 q))
 |[.int _,.int _],hv =>
  cases hv;obtain⟨u,u',rfl,r,r'⟩:=vals2 r1;obtain⟨t,rfl⟩:=r;obtain⟨t',rfl⟩:=r';exact call_range_2 (Ð2 (r21 b hc (I1.kept λb o e=>Â _ e) (Õ6.new ..) i1 i2 j1 j2 q))
theorem G21:∀ {ds xs:List D},lrD ds=some xs->∃ i j:Int,((ds=[.int j]/\i=0)∨ds=[.int i,.int j])/\-100000 < i/\i < 100000/\-100000 < j/\j < 100000/\xs=(ì (j - i).toNat).map λ(k:Nat)=>D.int (i + k)
 |[],_,h=>by cases h
 |[x],xs,h=>by
  cases x with
  |int j =>
   obtain⟨hj,h⟩:=e50 h;have hj:=H40.mp hj;exact⟨0,j,.inl ⟨rfl,rfl⟩,by omega,by omega,hj.1,hj.2,by cases h;simp⟩
  |_=>cases h
 |[x,y],xs,h=>by
  cases x with
  |int i =>
   cases y with
   |int j =>
    obtain⟨hj,h⟩:=e50 h;have h1:=H40.mp hj.1;have h2:=H40.mp hj.2;exact⟨i,j,.inr rfl,h1.1,h1.2,h2.1,h2.2,by cases h;rfl⟩
   |_=>cases h
  |_=>cases h
 |x::y::_::_,_,h=>by
  cases x with
  |int i=>cases y <;> cases h
  |_=>cases h
theorem j52(x:XI lm X G E N sc){b:Bool}{as:Ex}{a:Ò}{l:List Ò}{p p2 pos pos2:Pos}(h1:glob sc (lrN b)=true)(h2:glob sc "range"=true)(hL:isL as=true)(g:Good X G E as (a::l)):b00 X G E (.lrng b as) (.Call (.Name (lrN b) p) [.Call (.Name "range" p2) (a::l) [] pos2] [] pos):=by
 obtain⟨k1,_,_⟩:=c90 h1;obtain⟨m1,_,_⟩:=c90 h2;obtain⟨ha,hs⟩:=g.args hL;rw[Ä8,Á] at hs;refine a90 (PE.imp (r31 b x.calm (x.glb _ k1) (x.blt _ (by cases b <;> decide)) (x.glb _ m1) (x.blt _ (-0)) ha hs.1 hs.2) λσ H Q q=>?_) rfl
 obtain⟨zA,ρ,z,rr,rel,st,e,po⟩:=q;refine V10 rel st e (f00 po) λl z1 e1 vs H1 x1 st1 rvs=>?_;obtain⟨xs,hx,e2⟩:=M.a40 e1;cases e2;obtain⟨s',e',po⟩:=po;cases e';obtain⟨ds,h3,h4⟩:=Ð.mp hx;have hd:=B70 rvs h3;have fin:∀ i j:Int,xs=(ì (j - i).toNat).map (λ(k:Nat)=>D.int (i + k))->∀ lA,H1 lA=none->Q (.ref lA) (upd H1 lA (lrO b ((ì (j - i).toNat).map λ(k:Nat)=>V.int (i + k)))):=λi j ex lA hn=>by
  subst ex;have hI:=HdA.ints (K:=X.K) (H:=hz zA H1) ((ì (j - i).toNat).map λ(k:Nat)=>i + (k:Int));rw[ë,ë] at hI;cases b with
  |false=>exact po _ _ (x1.trans (Ext.of (a30.new _ hn))) (st1.same (a30.new _ hn)) ((k70 st1 hI hn).from x1)|true=>exact po _ _ (x1.trans (Ext.of (a30.new _ hn))) (st1.same (a30.new _ hn)) (A61 (Hd.tup ((st1.same (a30.new _ hn)).L61 (SqT.of a60)) (hI.same (g80 (a30.new _ hn)))))
 obtain⟨i,j,hds,j1,j2,j3,j4,ex⟩:=G21 h4;refine⟨i,j,?_,j1,j2,j3,j4,fin i j ex⟩;rcases hds with ⟨rfl,rfl⟩ | rfl
 ·obtain⟨v,rfl,h5⟩:=hd.one;cases h5.j10;rfl
 ·obtain⟨v,w,rfl,h5,h6⟩:=hd.two;cases h5.j10;cases h6.j10;rfl
end
theorem r41(val:Nat->Nat)(i:Nat):∀ n,(SS.met val n).testBit i=(ì n).any λj=>val j == i
 |0=>Nat.zero_testBit i
 |n + 1=>by
  show(SS.met val n ||| 2 ^ val n).testBit i=_;rw[Nat.testBit_or,r41 val i n,Nat.testBit_two_pow,List.range_succ,List.any_append];simp;rfl
theorem a11:∀ {l:List D}{ns:List Nat},z00 l=some ns->l=ns.map (λ(n:Nat)=>D.int n)/\∀ n∈ns,n < 8
 |[],ns,h=>by cases h;exact⟨rfl,λn hn=>by cases hn⟩
 |x::r,ns,h=>by
  cases x with
  |int i =>
   obtain⟨hi,h⟩:=e50 h;obtain⟨ms,h1,rfl⟩:=Í.mp h;obtain⟨e,k⟩:=a11 h1;refine⟨?_,λn hn=>?_⟩
   ·rw[Â2,← e,show((i.toNat:Nat):Int)=i from Int.toNat_of_nonneg hi.1]
   ·rcases Ü.mp hn with rfl | hn
    ·omega
    ·exact k n hn
  |_=>cases h
theorem V31{ns:List Nat}:SS.bts (SS.met (λi=>ns.getD i 0) ns.length)=(ì 8).filter λi=>ns.contains i:=by
 unfold SS.bts;refine List.filter_congr λi _=>?_;rw[r41];rw[Í0,List.any_eq_true,Ì6];constructor
 ·rintro ⟨j,hj,e⟩;rw[Î8] at hj;rw[← eq_of_beq e,Ó,á hj];exact Æ9 hj
 ·intro h;obtain⟨j,hj,e⟩:=List.mem_iff_getElem.mp h;exact⟨j,ö.mpr hj,by rw[Ó,á hj,← e];exact beq_self_eq_true _⟩
theorem r51{K:Ã}{H:Hp}:∀ {ns:List Nat}{us:List V},HdA K H (ns.map λ(n:Nat)=>D.int n) us->us=ns.map λ(n:Nat)=>V.int n
 |[],_,h=>h.e40
 |n::r,_,h=>by
  obtain⟨y,q,rfl,h1,h2⟩:=HdA.c00 h;rw[h1.j10,r51 h2];rfl
theorem r61{K:Ã}{H:Hp}:∀ ns:List Nat,HdA K H (ns.map λ(n:Nat)=>D.int n) (ns.map λ(n:Nat)=>V.int n)
 |[]=>.nil|n::r=>.cons Hd.int (r61 r)
theorem r71{ns:List Nat}(h:∀ n∈ns,n < 8)(i:Nat):ns.getD i 0 < 8:=by
 rw[Ó];cases e:ns[i]? with
 |none=>decide|some n=>exact h n (å e)
section
variable {lm:Bool}{X:Cx}{G:Gs}{E:XK}{N:List Str}{sc:ø}
def G31(w:ç)(p m:Nat):é->Prop:=λh=>SS.v90 w h p m
theorem r81(hc:X.calm=true):e30 X (.type "set") (λxs H Q=>∃ (a:Ç) (ns:List Nat) (us:List V),xs=[.ref a]/\(SqL X.K H a us∨SqT X.K H a us)/\us=ns.map (λ(n:Nat)=>V.int n)/\(∀ n∈ns,n < 8)/\∀ p,H p=none->Q (.ref p) (upd H p (.ext (G31 X.w p (SS.met (λi=>ns.getD i 0) ns.length))))):=by
 intro pins s σ H xs us Q I r h;obtain⟨a,ns,vs,rfl,hq,rfl,h8,q⟩:=h;obtain⟨u,rfl,rx⟩:=vals1 r;cases rx;have hv:∀ i,(λi=>ns.getD i 0) i < 8:=r71 h8;have hp:∀ {its:List Ä},Vals (ns.map λ(n:Nat)=>V.int n) its->its.toArray.size=ns.length/\∀ (i:Nat) (v:Ä),its.toArray[i]?=some v->∃ t,v=.int ((λi=>ns.getD i 0) i:Nat) t:=λ{its} rv=>by
  refine⟨by rw[Ø,← rv.length,Ì],λi v e=>?_⟩
  have e:its[i]?=some v:=by simpa using e
  have hi:i < ns.length:=by have:=(ä.mp e).1;rw[← rv.length,Ì] at this;exact this
  obtain⟨w',e1,e2⟩:=rv.get (i:=i) (x:=V.int (ns[i]:Nat)) (by simp[hi])
  rw[e] at e1;cases e1;obtain⟨t,rfl⟩:=e2;exact⟨t,by simp[hi]⟩
 have fin:∀ (h':é) (tk:Nat),SS.v90 X.w h' s.heap.objs.size (SS.met (λi=>ns.getD i 0) ns.length)->(∀ b u,s.heap.get? b=some u->h'.get? b=some u)->EP X pins σ Q (.ref s.heap.objs.size) { s with heap:=h',toks:=tk }:=λh' tk hS kp=>by
  refine⟨.ref s.heap.objs.size,_,I.laid (t':=tk) (o:=.ext (G31 X.w s.heap.objs.size (SS.met (λi=>ns.getD i 0) ns.length))) kp (Ë _) ⟨hS,?_,λh1 h2 p k=>p.keep k⟩,rfl,q _ (I.hok.fresh (Ë _))⟩;obtain⟨o,_,_,ho,_⟩:=hS;exact⟨o,ho⟩
 rcases hq with hq | hq
 ·obtain⟨its,rv,pl,_⟩:=I.list hq;obtain⟨o,ho,hcl,n,hd⟩:=pl.isList;obtain⟨sz,pv⟩:=hp rv;refine SS.Z00 (o:=o) (it:={ cls:=.type "list_iterator",data:=.fields #[.ref a,.int 0 0] }) (n:=its.toArray.size) (St:=λI i h=>h.IsListIter I a i/\h.IsList a its.toArray) (Pv:=λi v=>its.toArray[i]?=some v) (val:=λi=>ns.getD i 0)
   ⟨hcl,F.sub_list_set,F.sub_list_frozenset,by decide,λA E s Q e q=>Ò7 ⟨o,e,hcl,n,hd⟩ q,λA I hh hn=>Ü1 hh I a hn _,λh e=>⟨⟨_,É _ rfl,rfl,rfl⟩,⟨o,Â _ e,hcl,n,hd⟩⟩⟩ (by exact I.ok.hd hc) ho hv pv λh' tk x kp=>?_
  rw[sz] at x;exact fin h' tk x kp
 ·obtain⟨its,rv,pl,_⟩:=I.tuple hq;obtain⟨o,ho,hcl,n,hd⟩:=pl;obtain⟨sz,pv⟩:=hp rv;refine SS.Z00 (o:=o) (it:={ cls:=.type "tuple_iterator",data:=.fields #[.ref a,.int 0 0] }) (n:=its.toArray.size) (St:=λI i h=>h.IsTupleIter I a i/\h.IsTuple a its.toArray) (Pv:=λi v=>its.toArray[i]?=some v) (val:=λi=>ns.getD i 0)
   ⟨hcl,by rw[Ñ4];kernel_rfl,by rw[Ñ4];kernel_rfl,by decide,λA E s Q e q=>È0 ⟨o,e,hcl,n,hd⟩ q,λA I hh hn=>Walks.tuple hh I a hn _,λh e=>⟨⟨_,É _ rfl,rfl,rfl⟩,⟨o,Â _ e,hcl,n,hd⟩⟩⟩ (by exact I.ok.hd hc) ho hv pv λh' tk x kp=>?_
  rw[sz] at x;exact fin h' tk x kp
theorem P20(hc:X.calm=true)(hu:X.A.units + 64 < Å7):e30 X (.builtin "sorted") (λxs H Q=>∃ (p:Ç) (m:Nat),xs=[.ref p]/\m < 256/\H p=some (.ext (G31 X.w p m))/\∀ l,H l=none->Q (.ref l) (upd H l (.lst ((SS.bts m).map λ(n:Nat)=>V.int n)))):=by
 intro pins s σ H xs us Q I r h;obtain⟨p,m,rfl,hm,hp,q⟩:=h;obtain⟨u,rfl,rx⟩:=vals1 r;cases rx;obtain⟨⟨o,ep,g,ho,hx,hd⟩,_⟩:=I.hok p _ hp;refine SS.h31 (by exact I.ok.hd hc) hu hm ho hx hd λl h' tk c hl kp hD=>?_
 refine⟨.ref l,_,I.laid (t':=tk) (o:=.lst ((SS.bts m).map λ(n:Nat)=>V.int n)) kp hl ⟨?_,_,c,?_,hD⟩,rfl,q _ (I.hok.fresh hl)⟩
 ·rw[Ì,ò];have:(SS.bts m).length<=8:=â (É0 _ _) (by simp)
  omega
 ·clear hD hd;generalize SS.bts m=l
  induction l with
  |nil=>exact .nil|cons n r ih=>exact .cons ⟨_,rfl⟩ ih
theorem j62:í "set"=some (.type "set"):=by decide +kernel
end
end Q
namespace ST
open PySem PySem.W PyProof.Rows
def hT(ks:List Int):Int:=reduceHash (û.Tuple.tupleHashOf (ks.map hashInt))
abbrev St:=List (List Int) × À7
def hAt(K:List (List Int))(i:Nat):Int:=(K[i]?.map hT).getD 0
def B80{α:Type}(l:List α)(p:Nat)(x:α):List α:=l.take p++x::l.drop p
def tOk(t:À7)(n:Nat):Bool:=t.plain&&!t.gaveWay&&t.fits n
def add(s:St)(ks:List Int):Option St:=match s.2.probe (hAt s.1) (hT ks) (s.2.probeStart (hT ks)) with
 |some (.empty j none) =>
  let r:=s.2.put j
  let K:=B80 s.1 r.2 ks
  if tOk r.1 K.length then if r.1.tooFull then(r.1.relaid (K.map hT).toArray (Ò9 (s.1.length + 1))).bind λq =>
   let K2:=q.2.toList.filterMap (K[·]?)
   if K2.length=K.length/\tOk q.1 K2.length=true/\À7.sizeAbove (Ò9 (s.1.length + 1))<=10000 then some (K2,q.1) else none
   else some (K,r.1) else none
 |some (.candidate _ i _)=>if s.1[i]?=some ks then some s else none|_=>none
def s0(led:Bool):St:=([],.fresh 0 0 led)
def run(led:Bool)(l:List (List Int)):Option St:=l.foldlM add (s0 led)
def p30:Nat->List (List Nat)
 |0=>[[]]|n + 1=>(p30 n).flatMap λl=>(ì (n + 1)).filterMap λc=>if c == n || l.getD c 0 == c then some (l++[c]) else none
def okG(led:Bool)(g:List Nat):Bool:=match run led (blocks g) with
 |some s=>(blocks g).all (s.1.contains ·)&&s.1.all ((blocks g).contains ·)&&decide s.1.Nodup&&s.2.led == led&&(ì (s.1.length + 1)).all λi=>Ê1 s.2.place (SS.H00 s.2 i) == i|none=>false
theorem T90:([true,false].all λled=>(ì 7).all λn=>(p30 n).all λg=>okG led g)=true:=by decide +kernel
theorem p40{α:Type}[BEq α][LawfulBEq α](l:List α):s70 l∈p30 l.length:=by
 induction hn:l.length generalizing l with
 |zero =>
  have:=Û2 hn;subst this;exact ß.mpr rfl
 |succ n ih =>
  have hne:l≠[]:=λh=>by rw[h] at hn;cases hn
  obtain⟨m,x,rfl⟩:∃ m x,l=m++[x]:=⟨_,_,(List.dropLast_concat_getLast hne).symm⟩;have hm:m.length=n:=by simpa using hn
  have e:s70 (m++[x])=s70 m++[(m++[x]).idxOf x]:=by
   unfold s70;rw[Ê5]
   congr 1
   exact Ä6 λy hy=>by rw[List.idxOf_append,if_pos hy]
  rw[e];refine List.mem_flatMap.mpr ⟨_,ih m hm,Ê2.mpr ⟨(m++[x]).idxOf x,?_,?_⟩⟩
  ·have:=Ã0 (show x∈m++[x] by simp)
   rw[Î8,← hn];exact this
  ·rw[if_pos];rw[List.idxOf_append];by_cases hx:x∈m
   ·rw[if_pos hx];have hlt:=Ã0 hx;unfold s70;simp[Ó,hlt]
   ·rw[if_neg hx];simp[hm]
def ent(L:List (List Int × Ç)):Array (Int × Ä):=(L.map λe=>(hT e.1,ð e.2)).toArray
def h41(h:é)(a:Ç)(L:List (List Int × Ç))(t:À7):Prop:=∃ o ep,h.get? a=some o/\o.ExactSet/\o.data=.set (ent L) ep t
section
variable {P:Ý}{w:ç}{A:õ}{E:Ä->Æ->Prop}{s:Æ}
theorem b40(L:List (List Int × Ç)):(ent L).size=L.length:=by unfold ent;simp
theorem a21{t:À7}{f:Nat->Int}{L:List (List Int × Ç)}{h:Int}{p:À7.Probe}(hf:∀ i,f i=((ent L)[i]?.map λx=>x.1).getD 0):t.probe f h p=t.probe (hAt (L.map (·.1))) h p:=by
 congr 1
 funext i
 rw[hf];unfold hAt ent;simp[Ö,Function.comp_def]
theorem V50{a b:Ç}{ks:List Int}{L:List (List Int × Ç)}{t:À7}{j:Nat}{Q:SetFound->Æ->Prop}(hS:h41 s.heap a L t)(hf:t.fits L.length=true)(hg:t.gaveWay=false)(hp:t.probe (hAt (L.map (·.1))) (hT ks) (t.probeStart (hT ks))=some (.empty j none))(q:Q (.free j false) s) :
  Ï (Õ P w) A (setSearch a (.ref b) (hT ks) true) Q E s:=by
 obtain⟨o,ep,ho,hx,hd⟩:=hS;unfold setSearch setSearchFrom;refine À (Á6 ho hd (by rw[b40];exact hf) ?_)
 dsimp only;rw[if_neg (by rw[hg];exact Ñ)]
 rw[a21 (L:=L)]
 ·show Ï _ _ (match t.probe (hAt (L.map (·.1))) (hT ks) (t.probeStart (hT ks)) with | some met=>_ | x=>_) _ _ _
  rw[hp];exact Å q
 ·exact λi=>rfl
theorem z60{body:Ä->Option Bool × Unit->Sem (ForInStep (Option Bool × Unit))}(hb:∀ i t,body (.int i t) (none,())=pure (.yield (none,()))):∀ (l:List Ä),(∀ v∈l,∃ i t,v=.int i t)->∀ {Q:Option Bool × Unit->Æ->Prop},Q (none,()) s->Ï (Õ P w) A (forIn l (none,()) body) Q E s
 |[],_,Q,q=>by rw[forIn_nil];exact Å q
 |v::r,h,Q,q=>by
  obtain⟨i,t,rfl⟩:=h v Ê;rw[Ï8,hb];exact À (Å (z60 hb r (λu hu=>h u (È _ hu)) q))
theorem a31{h:é}{ks:List Int}{b:Ç}(hk:Ä5 (ý P w) h ks b):∃ o its n,h.get? b=some o/\o.cls=.type "tuple"/\o.data=.seq its n/\∀ v∈its.toList,∃ i t,v=.int i t:=by
 obtain⟨o,its,n,h1,h2,h3,h4⟩:=hk;refine⟨o,its,n,h1,h2,h3,?_⟩;generalize its.toList=l at h4;clear h3
 induction h4 with
 |nil=>exact λv hv=>nomatch hv
 |cons e _ ih =>
  intro v hv;rcases Ü.mp hv with rfl | hv
  ·cases v with
   |int i t=>exact⟨i,t,rfl⟩|_=>simp[ý,É9] at e
  ·exact ih v hv
theorem M51{b:Ç}{ks:List Int}{Q:Bool->Æ->Prop}(hk:Ä5 (ý P w) s.heap ks b)(q:Q false s):Ï (Õ P w) A (ofAClassStatement 8 (.ref b)) Q E s:=by
 obtain⟨o,its,n,h1,h2,h3,h4⟩:=a31 hk;unfold ofAClassStatement;refine À (Ç1 (T:="tuple") ⟨o,h1,h2⟩ ?_);show Ï _ _ (do
  let __x ← seqItems? (ð b)
  _) _ _ _
 refine À (Å0 h1 h3 ?_);refine À ?_;rw[← Array.forIn_toList];exact z60 (λi t=>rfl) _ h4 (Å q)
theorem j72{b:Ç}{ks:List Int}{Q:Bool->Æ->Prop}(hk:Ä5 (ý P w) s.heap ks b)(q:Q true s):Ï (Õ P w) A (hashByValue 8 (.ref b)) Q E s:=by
 obtain⟨o,its,n,h1,h2,h3,h4⟩:=a31 hk;unfold hashByValue;refine À (wpAny_specialOf (T:="tuple") ⟨o,h1,h2⟩ F.slot_tuple_hash.lookup ?_);refine À (Å0 h1 h3 ?_);refine À ?_;show Ï _ _ (forIn its (none,()) _) _ _ _;rw[← Array.forIn_toList];exact z60 (λi t=>rfl) _ h4 (Å q)
theorem V41{b:Ç}{ks:List Int}(hk:Ä5 (ý P w) s.heap ks b):∀ (l:List Ä) {Q:Bool->Æ->Prop},(∀ v∈l,∃ c ks',v=.ref c/\Ä5 (ý P w) s.heap ks' c)->Q false s->Ï (Õ P w) A (searchCouldBeSeen (.ref b) l) Q E s:=by
 intro l Q hl q;unfold searchCouldBeSeen;refine À ?_
 induction l with
 |nil=>rw[forIn_nil];exact Å (Å q)
 |cons v r ih =>
  obtain⟨c,ks',rfl,hc⟩:=hl v Ê;rw[Ï8];have ih:=ih λu hu=>hl u (È _ hu);refine À ?_;by_cases hbc:((b == c) || Ì4 (.ref b)&&Ì4 (.ref c))=true
  ·show Ï _ _ (if ((b == c) || Ì4 (.ref b)&&Ì4 (.ref c))=true then _ else _) _ _ _;rw[if_pos hbc];exact Å ih
  ·show Ï _ _ (if ((b == c) || Ì4 (.ref b)&&Ì4 (.ref c))=true then _ else _) _ _ _;rw[if_neg hbc];refine À ((É4 (ý P w)).quiet hk ?_);refine À ((É4 (ý P w)).quiet hc ?_);refine À (M51 hk ?_);refine À (M51 hc ?_);exact Å ih
theorem P30{a b b':Ç}{ks:List Int}{L:List (List Int × Ç)}{t:À7}{j i:Nat}{nx:À7.Probe}{Q:SetFound->Æ->Prop}(hr:(É4 (ý P w)).room A)(hS:h41 s.heap a L t)(hf:t.fits L.length=true)(hg:t.gaveWay=false)(hk:∀ e∈L,Ä5 (ý P w) s.heap e.1 e.2)(hb:Ä5 (ý P w) s.heap ks b)(hp:t.probe (hAt (L.map (·.1))) (hT ks) (t.probeStart (hT ks))=some (.candidate j i nx))(hi:L[i]?=some (ks,b'))(q:Q (.there none) s) :
  Ï (Õ P w) A (setSearch a (.ref b) (hT ks) true) Q E s:=by
 obtain⟨o,ep,ho,hx,hd⟩:=hS;have hb':=hk _ (å hi);have he:(ent L)[i]?=some (hT ks,.ref b'):=by unfold ent;simp[hi]
 unfold setSearch setSearchFrom;refine À (Á6 ho hd (by rw[b40];exact hf) ?_)
 dsimp only;rw[if_neg (by rw[hg];exact Ñ)]
 rw[a21 (L:=L)]
 ·show Ï _ _ (match t.probe (hAt (L.map (·.1))) (hT ks) (t.probeStart (hT ks)) with | some met=>_ | x=>_) _ _ _
  rw[hp];dsimp only;rw[he];dsimp only;by_cases hl:(!t.led)=true
  ·rw[if_pos hl];refine À (V41 hb _ (λv hv=>?_) ?_)
   ·unfold ent at hv;simp only[List.filter_toArray,Þ,Ô2] at hv;obtain⟨x,⟨⟨e,he',rfl⟩,_⟩,rfl⟩:=hv;exact⟨e.2,e.1,rfl,hk e he'⟩
   ·rw[if_neg Ñ];refine À (ï ((É4 (ý P w)).eqBool hr hb' hb ?_));refine À (Á6 ho hd (by rw[b40];exact hf) ?_)
    rw[if_pos (by simp)]
    exact Å q
  ·rw[if_neg hl];refine À (ï ((É4 (ý P w)).eqBool hr hb' hb ?_));refine À (Á6 ho hd (by rw[b40];exact hf) ?_)
   rw[if_pos (by simp)]
   exact Å q
 ·exact λi=>rfl
theorem V51(L:List (List Int × Ç))(p:Nat)(ks:List Int)(b:Ç):Î3 (ent L) p (hT ks,ð b)=ent (B80 L p (ks,b)):=by
 apply Ì0.mp;unfold Î3 ent B80;simp;exact Ë0 (by simp)
theorem I50(L:List (List Int × Ç))(p:Nat)(ks:List Int)(b:Ç):(B80 L p (ks,b)).map (·.1)=B80 (L.map (·.1)) p ks:=by
 unfold B80;simp[map_take,List.map_drop]
theorem t30{α:Type}(l:List α)(p:Nat)(x:α):(B80 l p x).length=l.length + 1:=by
 unfold B80;simp;omega
theorem G90(L:List (List Int × Ç)):(ent L).map (·.1)=((L.map (·.1)).map hT).toArray:=by
 unfold ent;rw[List.map_toArray,ë,ë];rfl
theorem r91{α β:Type}(f:α->β)(L:List α):∀ o:List Nat,o.filterMap ((L.map f)[·]?)=(o.filterMap (L[·]?)).map f
 |[]=>rfl
 |i::r=>by
  rw[þ,þ,Ö,r91 f L r];cases L[i]? <;> rfl
theorem j82(L:List (List Int × Ç))(o:Array Nat):o.filterMap ((ent L)[·]?)=ent (o.toList.filterMap (L[·]?)):=by
 apply Ì0.mp;rw[Þ8];unfold ent;show o.toList.filterMap (λx=>(L.map λe=>(hT e.1,ð e.2)).toArray[x]?)=_;simp only[List.getElem?_toArray];exact r91 _ L o.toList
theorem o61{a b:Ç}{ks:List Int}{L:List (List Int × Ç)}{t t':À7}{K':List (List Int)}{Q:Bool->Æ->Prop}(hr:(É4 (ý P w)).room A)(hS:h41 s.heap a L t)(hk:∀ e∈L,Ä5 (ý P w) s.heap e.1 e.2)(hb:Ä5 (ý P w) s.heap ks b)(ht:tOk t L.length=true)(hl:L.length<=100)(hadd:add (L.map (·.1),t) ks=some (K',t'))
  (h:∀ r h' L',Ç8 a s.heap h'->h41 h' a L' t'->L'.map (·.1)=K'->tOk t' L'.length=true->L'.length<=L.length + 1->(∀ e∈L',e∈L∨e=(ks,b))->Q r { s with heap:=h' }):Ï (Õ P w) A (Û9 a (.ref b) (hT ks)) Q E s:=by
 have ht0:=ht;unfold tOk at ht;simp only[Á,ú] at ht;obtain⟨⟨tp,tg⟩,tf⟩:=ht;have hS0:=hS;obtain⟨o,ep,ho,hx,hd⟩:=hS;unfold Û9 setAddHashedIn;refine ï (À (Á6 ho hd (by rw[b40];exact tf) ?_))
 dsimp only;rw[if_neg (by show ¬ (false&&_&&_)=true;simp)]
 refine À ?_;unfold add at hadd;dsimp only at hadd;split at hadd
 ·rename_i j hp;refine V50 hS0 tf tg hp ?_;dsimp only;refine À (Á6 ho hd (by rw[b40];exact tf) ?_)
  dsimp only;generalize t.put j=r at hadd ⊢;obtain⟨r1,p⟩:=r;dsimp only at hadd ⊢;split at hadd
  rotate_left
  ·cases hadd
  rename_i h1;have h1':=h1;unfold tOk at h1';simp only[Á,ú] at h1';obtain⟨⟨rp,rg⟩,rf⟩:=h1';have hlen:(B80 (L.map (·.1)) p ks).length=L.length + 1:=by rw[t30,Ì]
  rw[hlen] at rf h1;have get:∀ {h0:é}{o:Obj}{es ep t} (es':Array (Int × Ä)) (t':À7),h0.get? a=some o->o.data=.set es ep t->(h0.update a (Ó5 es' t')).get? a=some { o with data:=.set es' (ep + 1) t' }:=λ{h0 o es ep t} es' t' e1 e2=>by
   have:=Æ3 (Ó5 es' t') e1 (by rw[putSet_of es' t' e2];rfl)
   rw[putSet_of es' t' e2] at this;exact this
  rw[if_pos rp];refine À (j72 hb ?_);rw[if_pos rfl];rw[V51];have sz1:(ent (B80 L p (ks,b))).size<=sizeLine:=by rw[b40,t30,ò];omega
  have g1:=get (ent (B80 L p (ks,b))) r1 ho hd;have sb1:=Â4 s.heap a (Ó5 (ent (B80 L p (ks,b))) r1);have mem1:∀ e∈B80 L p (ks,b),e∈L∨e=(ks,b):=λe he=>by
   unfold B80 at he;rcases Ã1.mp he with he | he
   ·exact .inl (List.mem_of_mem_take he)
   ·rcases Ü.mp he with he | he
    ·exact .inr he
    ·exact .inl (Ô9 he)
  refine À (Ò6 ho hd ?_ sz1);split at hadd
  ·rename_i hfull;rw[if_pos (by simpa using hfull)]
   obtain⟨⟨t2,ord⟩,hq,hadd⟩:=Ð.mp hadd;dsimp only at hadd;split at hadd
   rotate_left
   ·cases hadd
   rename_i hc;obtain⟨c1,c2,c3⟩:=hc;cases hadd;refine À ?_;unfold setRelay;refine À (Á6 g1 rfl (by rw[b40,t30];exact rf) ?_)
   dsimp only;rw[b40];rw[Ì] at c3 hq;rw[if_neg (by rw[ò];omega)]
   rw[G90,I50,hq];refine À ?_;show Ï _ _ (if ((ord.filterMap ((ent (B80 L p (ks,b)))[·]?)).size != (ent (B80 L p (ks,b))).size)=true then _ else _) _ _ _;have e2:(ord.toList.filterMap ((B80 L p (ks,b))[·]?)).map (·.1)=ord.toList.filterMap ((B80 (L.map (·.1)) p ks)[·]?):=by
    rw[← I50 L p ks b,r91]
   have c1':(ord.toList.filterMap ((B80 L p (ks,b))[·]?)).length=L.length + 1:=by
    rw[← hlen,← c1,← e2,Ì]
   rw[j82,b40,b40,c1',t30,if_neg (by simp)]
   refine Å (Ò6 g1 rfl ?_ (by rw[b40,c1',ò];omega))
   refine Å (h true _ (ord.toList.filterMap ((B80 L p (ks,b))[·]?)) (sb1.trans (Â4 _ a _)) ⟨_,_,get _ _ g1 rfl,hx,rfl⟩ e2 (by rw[c1',← hlen,← c1];exact c2) (by rw[c1'];exact Ë _) λe he=>?_)
   obtain⟨i,_,hi⟩:=Ê2.mp he;exact mem1 e (å hi)
  ·rename_i hfull;cases hadd;rw[if_neg (by simpa using hfull)]
   exact Å (h true _ (B80 L p (ks,b)) sb1 ⟨_,ep + 1,g1,hx,rfl⟩ (I50 L p ks b) (by rw[t30];exact h1) (by rw[t30];exact Ë _) mem1)
 ·rename_i j i nx hp;split at hadd
  ·rename_i hi;cases hadd;rw[Ö] at hi;obtain⟨⟨k1,b'⟩,e1,e2⟩:=Í.mp hi;cases e2;refine P30 hr hS0 tf tg hk hb hp e1 ?_;exact Å (h false s.heap L (Ç8.refl a s.heap) hS0 rfl ht0 (le_succ _) λe he=>.inl he)
  ·cases hadd
 ·cases hadd
end
section
variable {P:Ý}{w:ç}{A:õ}
theorem h41.keep{h h':é}{a:Ç}{L:List (List Int × Ç)}{t:À7}(x:h41 h a L t)(k:∀ o,h.get? a=some o->h'.get? a=some o):h41 h' a L t:=by
 obtain⟨o,ep,ho,r⟩:=x;exact⟨o,ep,k o ho,r⟩
theorem G41{R:Result->Æ->Prop}{I a S:Ç}{its:Array Ä}{vals:List (List Int × Ç)}{Kf:List (List Int)}{tf:À7}{s0:Æ}(hr:(É4 (ý P w)).room A.in1)(hh:A.handled=none)(hI:a≠I)(hSI:S≠I)(hSa:S≠a)(hl:vals.length=its.size)(hz:its.size<=50)(hv:∀ (i:Nat) (e:List Int × Ç),vals[i]?=some e->its[i]?=some (ð e.2))(hne:∀ e∈vals,e.2≠I/\e.2≠S)
  (hk0:∀ e∈vals,Ä5 (ý P w) s0.heap e.1 e.2)
  (hR:∀ h' tk L,h41 h' S L tf->L.map (·.1)=Kf->tOk tf L.length=true->(∀ e∈L,e∈vals)->(∀ b u,b≠I->b≠S->s0.heap.get? b=some u->h'.get? b=some u)->R (.ok (.ret .none)) { s0 with heap:=h',toks:=tk }) :
  ∀ (k i:Nat) (h:é) (tk:Nat) (L:List (List Int × Ç)) (t:À7),i + k=its.size->(h.IsListIter I a i/\h.IsList a its)->h41 h S L t->tOk t L.length=true->L.length<=i->(∀ e∈L,e∈vals)->((vals.drop i).map (·.1)).foldlM add (L.map (·.1),t)=some (Kf,tf)->(∀ b u,b≠I->b≠S->s0.heap.get? b=some u->h.get? b=some u) ->
   Ì3 (Õ P w) A (.builtin "set.update.loop" ⟨[.ref S,.ref I],[]⟩) R { s0 with heap:=h,toks:=tk }:=by
 have W:=Ü1 (prog:=P) (w:=w) (A:=A.in1) (by simp[hh]) I a hI its
 intro k
 induction k with
 |zero =>
  intro i h tk L t hk st x ht hLi hLv hf kp;have hk:i=its.size:=hk;subst hk;refine À0 Ë3 ?_;rw[À4 Å2 _];refine À (m:=Í2 (.ref I)) (W.done _ _ _ st λh1 tk1 k1=>?_);rw[← hl,Ö1] at hf;cases hf;exact Å (hR h1 tk1 L (x.keep λo e=>k1 _ _ (by simpa using hSI) e) rfl ht hLv λb u z1 z2 e=>k1 b u (by simpa using z1) (kp b u z1 z2 e))
 |succ k ih =>
  intro i h tk L t hk st x ht hLi hLv hf kp;refine À0 Ë3 ?_;rw[À4 Å2 _];have hi:i < vals.length:=by omega
  refine À (m:=Í2 (.ref I)) (W.item i _ _ _ ∅ st λv h1 tk1 hv1 st1 k1=>?_)
  have ev:=hv i _ (á hi);have hv0:its[i]?=some v:=hv1;rw[ev] at hv0;cases hv0;have hm:=Æ9 hi;have kall:∀ b u,b≠I->b≠S->s0.heap.get? b=some u->h1.get? b=some u:=λb u z1 z2 e=>k1 b u (by simpa using z1) (kp b u z1 z2 e)
  have key:∀ e∈vals,Ä5 (ý P w) h1 e.1 e.2:=λe he=>by
   obtain⟨o,it,n,g1,g2⟩:=hk0 e he;exact⟨o,it,n,kall _ _ (hne e he).1 (hne e he).2 g1,g2⟩
  rw[Ð1 hi,Â2,List.foldlM_cons] at hf;obtain⟨⟨K',t'⟩,ha,hf⟩:=Ð.mp (show(add (L.map (·.1),t) vals[i].1).bind _=_ from hf);refine À (m:=Ø8 _ (setAdd S (.ref vals[i].2))) (ï ?_);unfold setAdd;refine ï (À ((É4 (ý P w)).pyHash hr (key _ hm) ?_));refine o61 (s:={ s0 with heap:=h1,toks:=tk1 + (É4 (ý P w)).draws vals[i].1 }) hr (x.keep λo e=>k1 _ _ (by simpa using hSI) e) (λe he=>key e (hLv e he)) (key _ hm) ht ∅ ha λr h2 L' sb x2 eK ht' hl' mem=>?_
  have off:∀ c o,c≠S->h1.get? c=some o->h2.get? c=some o:=λc o hc e=>(sb.2 c hc).trans e;refine Å ⟨Ê7 Å2 _,ih (i + 1) h2 _ L' t' ∅ (W.frame _ h1 _ st1 λc hc o e=>off c o (λz=>?_) e) x2 ht' ∅ (λe he=>?_) (by rw[eK];exact hf) λb u z1 z2 e=>off b u z2 (kall b u z1 z2 e)⟩
  ·subst z;rcases Ü.mp hc with z | z
   ·exact hSI z
   ·exact hSa (by simpa using z)
  ·rcases mem e he with he | he
   ·exact hLv e he
   ·rw[he];exact hm
end
section
variable {P:Ý}{w:ç}{A:õ}{E:Ä->Æ->Prop}{s:Æ}
set_option maxHeartbeats 3200000 in
theorem G51{l:Ç}{o:Obj}{its:Array Ä}{m:Nat}{vals:List (List Int × Ç)}{Kf:List (List Int)}{tf:À7}{Q:Ä->Æ->Prop}(hr:∀ B:õ,B.units<=A.units + 10->(É4 (ý P w)).room B)(hh:A.handled=none)(ho:s.heap.get? l=some o)(hcl:o.cls=.type "list")(hdt:o.data=.seq its m)(hl:vals.length=its.size)(hz:its.size<=50)(hv:∀ (i:Nat) (e:List Int × Ç),vals[i]?=some e->its[i]?=some (ð e.2))(hk0:∀ e∈vals,Ä5 (ý P w) s.heap e.1 e.2)(hf:run (SS.led w) (vals.map (·.1))=some (Kf,tf))
  (h:∀ (h':é) (tk:Nat) (L:List (List Int × Ç)),h41 h' s.heap.objs.size L tf->L.map (·.1)=Kf->tOk tf L.length=true->(∀ e∈L,e∈vals)->(∀ b u,s.heap.get? b=some u->h'.get? b=some u)->Q (.ref s.heap.objs.size) { s with heap:=h',toks:=tk }):Ï (Õ P w) A (call (.type "set") [.ref l]) Q E s:=by
 have D:SS.B62 P w "list" l o { cls:=.type "list_iterator",data:=.fields #[.ref l,.int 0 0] } its.size (λi v=>its[i]?=some v) (λI i h=>h.IsListIter I l i/\h.IsList l its):=⟨hcl,F.sub_list_set,F.sub_list_frozenset,by decide,λA E s Q e q=>Ò7 ⟨o,e,hcl,m,hdt⟩ q,λA I hh hn=>Ü1 hh I l hn _,λh e=>⟨⟨_,É _ rfl,rfl,rfl⟩,⟨o,Â _ e,hcl,m,hdt⟩⟩⟩
 obtain⟨c,tl,hmro⟩:=Á5.mro;have hmade:=Á5.made;have hsub:=Á5.sub;have h1:=Á5.notType;have h2:=Á5.canCreate;have hct:=F.typeCall_set_1 (.ref l);refine Ñ0 (Ö2 ?_);show Ï _ _ (callAny (.type "set") _) _ _ _;refine Å ⟨Î6 _ (by decide +kernel),À0 F.entry_type_call ?_⟩
 rw[Around.under_plain (weight_type_call_type "set" [.ref l] []) rfl]
 repeat (any_goals (first | assumption | wp_step))
 refine Æ2 (SS.o81 (.ref l) (E:=E) (Q:=λv s1=>v=.ref s.heap.objs.size/\s1={ s with heap:=s.heap.push (SS.L00 w) }) ⟨rfl,rfl⟩) λr s1 hr=>?_;cases r with
 |error e=>exact hr
 |ok fl =>
  cases fl with
  |ret v =>
   obtain⟨rfl,rfl⟩:=hr;have hT:Õ5 { s with heap:=s.heap.push (SS.L00 w) } (.ref s.heap.objs.size) "set":=⟨_,É _ rfl,rfl⟩;have hli:=Á5.init.lookup;have hbi:=Á5.init.bind (.ref s.heap.objs.size);have lS:l < s.heap.objs.size:=Û ho;have ho1:(s.heap.push (SS.L00 w)).get? l=some o:=Â _ ho
   repeat (any_goals (first | assumption | wp_step))
   refine Æ2 (Î1 (R:=wants (λr s2=>r=.none/\∃ h' tk L,s2={ s with heap:=h',toks:=tk }/\h41 h' s.heap.objs.size L tf/\L.map (·.1)=Kf/\tOk tf L.length=true/\(∀ e∈L,e∈vals)/\∀ b u,s.heap.get? b=some u->h'.get? b=some u) E) Á5.init.plain F.entry_set_init (check_set_init_1 hT ?_)) λr2 s2 hr2=>?_
   ·have f1:=D.f1;have f2:=D.f2;have f3:=D.f3;obtain⟨ocls,odict,odata,oslots⟩:=o;have hc:ocls=.type "list":=D.ty;subst hc;unfold û.«set.__init__» noKeywords Ó7;generalize hPI:pyIter=PI
    wp_walk
    subst hPI;refine D.iter _ _ _ _ ho1 ?_;refine À (Ð9 ?_);have hI:(s.heap.push (SS.L00 w)).objs.size=s.heap.objs.size + 1:=È9 ..;have nI:l≠(s.heap.push (SS.L00 w)).objs.size:=by rw[hI];exact Ô (Å6 lS)
    have nS:s.heap.objs.size ∉ [(s.heap.push (SS.L00 w)).objs.size,l]:=by
     rw[hI];simp only[Á7,À2,or_false,not_or];exact⟨Ô (Î5 _),Ç4 lS⟩
    have old:∀ b u,s.heap.get? b=some u->((s.heap.push (SS.L00 w)).push { cls:=.type "list_iterator",data:=.fields #[.ref l,.int 0 0] }).get? b=some u:=λb u e=>Â _ (Â _ e);have lw:∀ {b:Ç},b < s.heap.objs.size->b≠(s.heap.push (SS.L00 w)).objs.size/\b≠s.heap.objs.size:=λ{b} hb=>⟨by rw[hI];exact Ô (Å6 hb),Ô hb⟩
    refine G41 (s0:={ s with heap:=(s.heap.push (SS.L00 w)).push { cls:=.type "list_iterator",data:=.fields #[.ref l,.int 0 0] } }) (I:=(s.heap.push (SS.L00 w)).objs.size) (a:=l) (S:=s.heap.objs.size) (its:=its) (vals:=vals) (Kf:=Kf) (tf:=tf) (hr _ (by show _<=A.units + 10;simp[õ.in1];try omega)) (by simp[hh]) nI (by rw[hI];exact Ô (Î5 _)) (Ç4 lS) hl hz hv (λe he=>by obtain⟨_,_,_,g1,_⟩:=hk0 e he;exact lw (Û g1)) (λe he=>by obtain⟨o1,it1,n1,g1,g2⟩:=hk0 e he;exact⟨o1,it1,n1,old _ _ g1,g2⟩) (λh' tk L x1 x2 x3 x4 kp=>?_) its.size 0 _ _ [] (.fresh 0 0 (SS.led w)) (zero_add _) (D.zero _ ho1) ⟨_,0,Â _ (É _ rfl),⟨rfl,rfl,rfl⟩,rfl⟩ ?_ (Ë _) (λe he=>nomatch he) hf λ_ _ _ _ e=>e
    ·refine Å (Å ⟨rfl,h',tk,L,rfl,x1,x2,x3,x4,λb u e=>?_⟩);exact kp b u (lw (Û e)).1 (lw (Û e)).2 (old b u e)
    ·cases SS.led w <;> decide
   ·cases r2 with
    |error e=>exact hr2
    |ok fl2 =>
     cases fl2 with
     |ret r =>
      obtain⟨rfl,h',tk,L,rfl,x1,x2,x3,x4,kp⟩:=hr2
      repeat (any_goals (first | assumption | wp_step))
      exact h _ _ L x1 x2 x3 x4 kp
     |_=>exact hr2.elim
  |_=>exact hr.elim
end
theorem G61{α β:Type}{f:α->β}:∀ {l m:List β},l.Perm m->∀ L:List α,m=L.map f->∃ L2:List α,L2.Perm L/\l=L2.map f:=by
 intro l m h
 induction h with
 |nil =>
  intro L e;cases L with
  |nil=>exact⟨[],.refl _,rfl⟩|cons _ _=>cases e
 |cons x _ ih =>
  intro L e;cases L with
  |nil=>cases e
  |cons y r =>
   cases e;obtain⟨L2,h1,rfl⟩:=ih r rfl;exact⟨y::L2,h1.cons y,rfl⟩
 |swap x y l =>
  intro L e;cases L with
  |nil=>cases e
  |cons a r =>
   cases r with
   |nil=>cases e
   |cons b r =>
    cases e;exact⟨b::a::r,.swap _ _ _,rfl⟩
 |trans _ _ ih1 ih2 =>
  intro L e;obtain⟨L2,h1,e2⟩:=ih2 L e;obtain⟨L3,h3,e3⟩:=ih1 L2 e2;exact⟨L3,h3.trans h1,e3⟩
section
variable {P:Ý}{w:ç}{A:õ}{E:Ä->Æ->Prop}{s:Æ}
theorem C90{h:é}:∀ {ks:List Int}{its:List Ä},ItemsAre (ý P w) ks its->ReadsAll h its (Q.H60 (ks.map L2.D.int)) []
 |[],_,.nil=>.nil
 |k::ks,v::_,.cons e t=>by
  have:∃ u,v=.int k u:=by
   cases v with
   |int i u =>
    have h:(i == k)=true:=by simpa [ý,É9] using e
    exact⟨u,by rw[eq_of_beq h]⟩
   |_=>simp[ý,É9] at e
  obtain⟨u,rfl⟩:=this;exact .cons (.int _ _) (C90 t)
theorem D00:∀ ks:List Int,Q.e10 (ks.map L2.D.int)=true
 |[]=>rfl|_::r=>D00 r
theorem P40{h:é}:∀ L:List (List Int × Ç),(∀ e∈L,Ä5 (ý P w) h e.1 e.2)->Q.e20 h (L.map λe=>ð e.2) (L.map λe=>tD e.1)
 |[],_=>⟨rfl,[],.nil⟩
 |e::r,k=>by
  obtain⟨o,its,n,h1,h2,h3,h4⟩:=k e Ê;obtain⟨g1,as,g2⟩:=P40 r λx hx=>k x (È _ hx);refine⟨?_,_,.cons (.tuple h1 h2 h3 (C90 h4)) g2⟩;show(Q.e10 (e.1.map L2.D.int)&&Q.e10 (r.map λe=>tD e.1))=true;rw[g1,D00];rfl
end
open PySem PySem.W PyProof.Rows MySort
theorem j92(led:Bool){g:List Nat}(h6:g.length<=6)(hg:g∈p30 g.length):okG led g=true:=by
 have h1:=Î.mp (Î.mp T90 led (by cases led <;> simp)) g.length (ö.mpr ∅)
 exact Î.mp h1 g hg
theorem V61{led:Bool}{g:List Nat}(h:okG led g=true):∃ s,run led (blocks g)=some s/\(∀ x∈blocks g,x∈s.1)/\(∀ x∈s.1,x∈blocks g)/\s.1.Nodup/\s.2.led=led/\∀ i,i<=s.1.length->Ê1 s.2.place (SS.H00 s.2 i)=i:=by
 unfold okG at h;cases e:run led (blocks g) with
 |none=>rw[e] at h;cases h
 |some s =>
  rw[e] at h;have h:((blocks g).all (s.1.contains ·)&&s.1.all ((blocks g).contains ·)&&decide s.1.Nodup&&s.2.led == led&&(ì (s.1.length + 1)).all λi=>Ê1 s.2.place (SS.H00 s.2 i) == i)=true:=h;simp only[Á,Ä7,decide_eq_true_eq,beq_iff_eq,Ì6,Î8] at h;obtain⟨⟨⟨⟨h1,h2⟩,h3⟩,h4⟩,h5⟩:=h;exact⟨s,rfl,h1,h2,h3,h4,λi hi=>h5 i ∅⟩
theorem x32{w:ç}{L:List (List Int × Ç)}{t:À7}(hl:t.led=SS.led w)(hb:∀ i,i<=L.length->Ê1 t.place (SS.H00 t i)=i)(ht:tOk t L.length=true)(hs:L.length<=50):SS.A41 w t (ent L):=by
 unfold tOk at ht;simp only[Á,ú] at ht;exact⟨by rw[b40];exact ht.2,ht.1.1,hl,by rw[b40];exact hb,by rw[b40];omega⟩
section
variable {P:Ý}{w:ç}{A:õ}{E:Ä->Æ->Prop}{s:Æ}{S ep:Nat}{L:List (List Int × Ç)}{t:À7}{o:Obj}
theorem h51{R:Ä->Æ->Prop}(hh:A.handled=none)(hu:A.units + 64 < Å7)(hG:SS.A41 w t (ent L))(hl:L.length<=50)(hk:∀ e∈L,Ä5 (ý P w) s.heap e.1 e.2)(hok:Q.h00 (L.map λe=>tD e.1)=true)(ho:s.heap.get? S=some o)(hx:o.ExactSet)(hd:o.data=.set (ent L) ep t)
  (h:∀ lA h' tk c (L3:List (List Int × Ç)),L3.Perm L->(L3.map λe=>tD e.1)=Q.j00 (L.map λe=>tD e.1)->s.heap.objs.size<=lA->(∀ b u,s.heap.get? b=some u->h'.get? b=some u)->h'.get? lA=some (Á9 "list" (L3.map λe=>ð e.2).toArray c)->R (.ref lA) { s with heap:=h',toks:=tk }):Ï (Õ P w) A (call (.builtin "sorted") [.ref S]) R E s:=by
 obtain⟨L2,hp2,e2⟩:∃ L2:List (List Int × Ç),L2.Perm L/\(SS.ord w S ep (ent L)).toList.map (·.2)=L2.map λe=>ð e.2:=by
  have:=(SS.H10 w S ep (ent L)).map (·.2);refine G61 this L ?_;unfold ent;rw[ë];rfl
 have hpD:(L2.map λe=>tD e.1).Perm (L.map λe=>tD e.1):=hp2.map _;have hok1:∀ x∈L2.map (λe=>tD e.1),∀ y∈L2.map (λe=>tD e.1),Q.Z10 x < 3/\Q.okD x=true/\Q.e60 x y=true:=λx hx y hy=>by
  have h1:=Î.mp hok x (hpD.mem_iff.mp hx);simp only[Á,decide_eq_true_eq] at h1;exact⟨h1.1,h1.2.1,Î.mp h1.2.2 y (hpD.mem_iff.mp hy)⟩
 have inj:∀ x∈L2.map (λe=>tD e.1),∀ y∈L2.map (λe=>tD e.1),Q.flt x=Q.flt y->x=y:=λx hx y hy e=>by
  have:=(hok1 x hx y hy).2.2;unfold Q.e60 at this;simp only[Á,Ä0,ú] at this;rcases this.2.2 with h | h
  ·exact Q.Z50 _ _ h
  ·rw[e] at h;simp at h
 obtain⟨k,k3,kk⟩:∃ k,k < 3/\∀ x∈L2.map (λe=>tD e.1),Q.Z10 x=k:=by
  cases hL:L2.map (λe=>tD e.1) with
  |nil=>exact⟨0,by decide,λx hx=>nomatch hx⟩
  |cons d r =>
   have hm:d∈L2.map (λe=>tD e.1):=by rw[hL];exact Ê
   refine⟨Q.Z10 d,(hok1 d hm d hm).1,λx hx=>?_⟩;have:=(hok1 d hm x (by rw[hL];exact hx)).2.2
   unfold Q.e60 at this;simp only[Á,beq_iff_eq] at this;exact this.1
 have len2:L2.length<=50:=by rw[hp2.length_eq];exact hl
 refine Ï5 kind_sorted plain_sorted entry_sorted (args_sorted1 _) ?_;unfold û.«sorted»;refine À (m:=checkCount "sorted" 1 1 _) (Å ?_);refine À (SS.y80 (by simp[hh]) hG ho hx hd λh1 tk lS kp1=>?_)
 rw[e2];refine À (Ó2 ?_ (by show(L2.map _).length<=_;rw[Ì,ò];omega))
 have hoL:(h1.push (Á9 "list" (L2.map λe=>ð e.2).toArray 0)).get? h1.objs.size=some (Á9 "list" (L2.map λe=>ð e.2).toArray 0):=É _ rfl;have kw:∀ h',f21 (h1.push (Á9 "list" (L2.map λe=>ð e.2).toArray 0)) h'->a22 P w A.in1.in1 { s with heap:=h',toks:=tk } (L2.map λe=>ð e.2) (sortedBy ((L2.map λe=>tD e.1).map Q.flt)) (Q.kdOf k):=λh' kp=>by
  letI:Q.Tb:=⟨[]⟩
  refine Q.Z70 (by rw[Ì];omega) (P40 (P:=P) (w:=w) L2 λe he=>?_) (by show A.units + 1 + 1 + 40 < Å7;omega) k3 kk (λd hd=>(hok1 d hd d hd).2.1) λd hd e he=>(hok1 d hd e he).2.2
  obtain⟨o,its,n,g1,g2,g3⟩:=hk e (hp2.mem_iff.mp he);exact⟨o,its,n,kp _ _ (Â _ (kp1 _ _ g1)) g2,g2,g3⟩
 refine À (ï (ÿ slot_list_sort ⟨_,hoL,rfl⟩ entry_list_sort (G00 hoL kw λp h' c hp kp hD=>⟨_,rfl,Å ⟨_,rfl,?_⟩⟩) (args_list_sort _)));have hlt:∀ i∈p,i < L2.length:=λi hi=>by
  have:=hp.1.mem_iff.mp hi;simpa using this
 have e3:(p.map λi=>(L2.map λe=>ð e.2).getD i è)=(p.map λi=>L2.getD i ([],0)).map λe=>ð e.2:=by
  rw[ë];refine Ä6 λi hi=>?_;have:=hlt i hi;simp[Ó,this]
 have e4:((p.map λi=>L2.getD i ([],0)).map λe=>tD e.1)=Q.j00 (L.map λe=>tD e.1):=by
  letI:Q.Tb:=⟨[]⟩
  have h1:=Q.q41 inj hp;rw[ë];have h2:Q.j00 (L2.map λe=>tD e.1)=Q.j00 (L.map λe=>tD e.1) :=
   (Q.Z60 ((Q.f30 _).trans hpD.symm) (Q.r20 _) inj)
  rw[← h2,← h1];refine Ä6 λi hi=>?_;have:=hlt i hi;simp[Ó,this]
 have e5:(p.map λi=>L2.getD i ([],0)).Perm L:=by
  have h1:=hp.1.map λi=>L2.getD i ([],0);rw[Ì,Ì] at h1;rw[MySort.range_getD] at h1;exact h1.trans hp2
 rw[e3] at hD;exact h _ h' tk c _ e5 e4 (Ç9 lS) (λb u e=>kp b u (Ô (Û (kp1 b u e))) (Â _ (kp1 b u e))) hD
end
end ST
namespace L2
open PySem PySem.Spec PyProof.Rows
theorem items_int{P:Ý}{w:ç}:∀ {ks:List Int}{its:List Ä},Vals (ks.map V.int) its->ItemsAre (ý P w) ks its
 |[],_,h=>by cases h;exact .nil
 |k::ks,_,h=>by
  cases h with
  |cons r t =>
   obtain⟨u,rfl⟩:=r;exact .cons (by show É9 k (.int k u)=true;simp[É9]) (items_int t)
section
variable {X:Cx}{pins:List (Ç × Obj)}{σ:St}{H:Hp}{s:Æ}
theorem key_is(I:Inv X pins σ H s){b:Ç}{ks:List Int}(h:SqT X.K H b (ks.map V.int)):Ä5 (ý X.prog X.w) s.heap ks b:=by
 obtain⟨its,rv,⟨o,e,c,n,d⟩,_⟩:=I.tuple h;exact⟨o,its.toArray,n,e,c,d,items_int rv⟩
end
end L2
namespace Q
open PySem L2 PySem.Spec PyProof.Rows
variable [TB:Tb]
def G71(p:Nat)(L:List (List Int × Ç))(t:À7):é->Prop:=λh=>ST.h41 h p L t
structure k02(K:PySem.W.Frag)(w:World)(H:Hp)(ks:List (List Int))(L:List (List Int × Addr))(t:SetTable):Prop where
 g:SS.A41 w t (ST.ent L)
 few:L.length<=50
 at_:∀ e∈L,SqT K H e.2 (e.1.map V.int)
 mem:∀ x,x∈L.map (·.1)↔x∈ks
 nodup:(L.map (·.1)).Nodup
theorem k02.same{K:Ã}{w:ç}{H H':Hp}{ks:List (List Int)}{L:List (List Int × Ç)}{t:À7}(x:k02 K w H ks L t)(e:a30 H H'):k02 K w H' ks L t:=⟨x.g,x.few,λy hy=>e.sqT (x.at_ y hy),x.mem,x.nodup⟩
def V71(K:Ã)(H:Hp)(P:List Int->Ç->Prop)(xs:List V)(ks:List (List Int)):Prop:=Ä1 (λx k=>∃ b,x=V.ref b/\SqT K H b (k.map V.int)/\P k b) xs ks
theorem P50{K:Ã}{H:Hp}{P:List Int->Ç->Prop}:∀ {us:List V}{ks:List (List Int)},V71 K H P us ks->∃ vals:List (List Int × Ç),vals.map (·.1)=ks/\us=vals.map (λe=>V.ref e.2)/\∀ e∈vals,SqT K H e.2 (e.1.map V.int)/\P e.1 e.2
 |_,_,.nil=>⟨[],rfl,rfl,λe he=>nomatch he⟩
 |_,_,.cons (b:=k) h r=>by
  obtain⟨b,rfl,hb⟩:=h;obtain⟨vals,h1,h2,h3⟩:=P50 r;refine⟨(k,b)::vals,by rw[Â2,h1],by rw[Â2,h2],λe he=>?_⟩
  rcases Ü.mp he with rfl | he
  ·exact hb
  ·exact h3 e he
theorem P60:∀ {vals:List (List Int × Ç)}{its:List Ä},Vals (vals.map λe=>V.ref e.2) its->its=vals.map λe=>ð e.2
 |[],_,.nil=>rfl
 |e::r,_,.cons h t=>by
  cases h;rw[Â2,← P60 t]
theorem P70:∀ vals:List (List Int × Ç),Vals (vals.map λe=>V.ref e.2) (vals.map λe=>ð e.2)
 |[]=>.nil|e::r=>.cons rfl (P70 r)
section
variable {lm:Bool}{X:Cx}{G:Gs}{E:XK}{N:List Str}{sc:ø}
theorem s01(hc:X.calm=true)(hu:X.A.units + 64 < Å7):e30 X (.type "set") (λxs H Q=>∃ (a:Ç) (ks:List (List Int)) (us:List V) (P:List Int->Ç->Prop),xs=[.ref a]/\SqL X.K H a us/\V71 X.K H P us ks/\ks.length<=6/\ST.blocks (ST.s70 ks)=ks/\∀ p L t,H p=none->k02 X.K X.w H ks L t->(∀ e∈L,P e.1 e.2)->Q (.ref p) (upd H p (.ext (G71 p L t)))):=by
 intro pins s σ H xs us Q I r h;obtain⟨a,ks,vs,P,rfl,hq,pk,h6,hb,q⟩:=h;obtain⟨u,rfl,rx⟩:=vals1 r;cases rx;obtain⟨vals,hv1,rfl,hv3⟩:=P50 pk;obtain⟨its,rv,pl,_⟩:=I.list hq;obtain⟨o,ho,hcl,n,hd⟩:=pl.isList;obtain rfl:=P60 rv;have hlen:vals.length=ks.length:=by rw[← hv1,Ì]
 have gl:(ST.s70 ks).length=ks.length:=by unfold ST.s70;rw[Ì]
 have hg:=ST.j92 (SS.led X.w) (g:=ST.s70 ks) ∅ (by rw[gl];exact ST.p40 ks)
 obtain⟨⟨Kf,tf⟩,hrun,m1,m2,nd,ld,bl⟩:=ST.V61 hg;rw[hb] at hrun m1 m2;refine ST.G51 (its:=(vals.map λe=>ð e.2).toArray) (vals:=vals) (Kf:=Kf) (tf:=tf) (λB hB=>by show B.units < Å7;omega) (I.ok.hd hc) ho hcl hd (by simp) (by simp;omega) (λi e he=>by simp[he]) (λe he=>key_is I (hv3 e he).1) (by rw[hv1];exact hrun) λh' tk L hS hK ht hL kp=>?_
 have hS':=hS;obtain⟨oS,ep,hoS,_⟩:=hS';have hl50:L.length<=50:=by
  have h1:(L.map (·.1)).length<=ks.length:=Ö6 (hK ▸ nd) λx hx=>m2 x (hK ▸ hx);rw[Ì] at h1;omega
 refine⟨.ref s.heap.objs.size,_,I.laid (t':=tk) (o:=.ext (G71 s.heap.objs.size L tf)) kp (Ë _) ⟨hS,⟨oS,hoS⟩,λh1 h2 p k=>ST.h41.keep p k⟩,rfl,q _ _ _ (I.hok.fresh (Ë _)) ⟨ST.x32 ld (λi hi=>bl i (by show i<=Kf.length;rw[← hK,Ì];exact hi)) ht hl50,hl50,λe he=>(hv3 e (hL e he)).1,λx=>?_,hK ▸ nd⟩ λe he=>(hv3 e (hL e he)).2⟩
 rw[hK];exact⟨m2 x,m1 x⟩
theorem P80(hc:X.calm=true)(hu:X.A.units + 64 < Å7):e30 X (.builtin "sorted") (λxs H Q=>∃ (p:Ç) (ks:List (List Int)) (L:List (List Int × Ç)) (t:À7),xs=[.ref p]/\H p=some (.ext (G71 p L t))/\k02 X.K X.w H ks L t/\h00 (L.map λe=>ST.tD e.1)=true/\∀ l (L3:List (List Int × Ç)),H l=none->L3.Perm L->(L3.map λe=>ST.tD e.1)=j00 (L.map λe=>ST.tD e.1)->Q (.ref l) (upd H l (.lst (L3.map λe=>V.ref e.2)))):=by
 intro pins s σ H xs us Q I r h;obtain⟨p,ks,L,t,rfl,hp,k,hok,q⟩:=h;obtain⟨u,rfl,rx⟩:=vals1 r;cases rx;obtain⟨⟨o,ep,ho,hx,hd⟩,_⟩:=I.hok p _ hp;refine ST.h51 (by exact I.ok.hd hc) hu k.g k.few (λe he=>key_is I (k.at_ e he)) hok ho hx hd λl h' tk c L3 hp3 e3 hl kp hD=>?_
 refine⟨.ref l,_,I.laid (t':=tk) (o:=.lst (L3.map λe=>V.ref e.2)) kp hl ⟨?_,_,c,P70 L3,hD⟩,rfl,q _ L3 (I.hok.fresh hl) hp3 e3⟩;rw[Ì,hp3.length_eq,ò];have:=k.few;omega
theorem a41{f:Ä}{T1 T2:List V->Hp->VK->Prop}(h1:e30 X f T1)(h2:e30 X f T2):e30 X f (λxs H Q=>T1 xs H Q∨T2 xs H Q):=by
 intro pins s σ H xs us Q I r h;rcases h with h | h
 ·exact h1 pins s σ H xs us Q I r h
 ·exact h2 pins s σ H xs us Q I r h
theorem M61:∀ {l:List D}{ks:List (List Int)},f72 l=some ks->l=ks.map ST.tD
 |[],_,h=>by cases h;rfl
 |x::r,ks,h=>by
  cases x with
  |tup m =>
   obtain⟨k,h1,h⟩:=Ð.mp h;obtain⟨q,h2,rfl⟩:=Í.mp h;rw[Â2,← M61 h2];have:∀ {m:List D}{k:List Int},o30 m=some k->m=k.map D.int:=by
    intro m
    induction m with
    |nil=>intro k h;cases h;rfl
    |cons y q ih =>
     intro k h;cases y with
     |int i =>
      obtain⟨k2,h3,rfl⟩:=Í.mp h;rw[Â2,← ih h3]
     |_=>cases h
   rw[this h1]
  |_=>cases h
theorem a51{K:Ã}{H:Hp}:∀ {ns:List Int}{us:List V},HdA K H (ns.map D.int) us->us=ns.map V.int
 |[],_,h=>h.e40
 |n::r,_,h=>by
  obtain⟨y,q,rfl,h1,h2⟩:=HdA.c00 h;rw[h1.j10,a51 h2];rfl
theorem s11{K:Ã}{H H1:Hp}(sm:a30 H H1):∀ {ks:List (List Int)}{us:List V},HdA K H (ks.map ST.tD) us->V71 K H1 (λk b=>SqT K H b (k.map V.int)) us ks
 |[],_,h=>by rw[h.e40];exact .nil
 |k::r,_,h=>by
  obtain⟨y,q,rfl,h1,h2⟩:=HdA.c00 h;obtain⟨a,xs,rfl,m1,m2⟩:=h1.u70;obtain rfl:=a51 m2;exact .cons ⟨a,rfl,sm.sqT m1,m1⟩ (s11 sm h2)
theorem s21{K:Ã}{H:Hp}:∀ {L:List (List Int × Ç)},(∀ e∈L,SqT K H e.2 (e.1.map V.int))->HdA K H (L.map λe=>ST.tD e.1) (L.map λe=>V.ref e.2)
 |[],_=>.nil|e::r,h=>.cons (.tup (h e Ê) (HdA.ints _)) (s21 λx hx=>h x (È _ hx))
theorem I60{x:List Int}:∀ {l:List (List Int)},x∈ded l↔x∈l
 |[]=>.rfl
 |y::r=>by
  unfold ded;by_cases h:r.contains y=true
  ·rw[if_pos h,I60,Á7];refine⟨.inr,λh1=>?_⟩;rcases h1 with rfl | h1
   ·exact Ô3.mp h
   ·exact h1
  ·rw[if_neg h,Á7,Á7,I60]
theorem z70:∀ l:List (List Int),(ded l).Nodup
 |[]=>.nil
 |y::r=>by
  unfold ded;by_cases h:r.contains y=true
  ·rw[if_pos h];exact z70 r
  ·rw[if_neg h];exact É6.mpr ⟨λh1=>h (Ô3.mpr (I60.mp h1)),z70 r⟩
theorem V81(x:XI lm X G E N sc){as:Ex}{e:Ò}{p1 p2 p3 p4:Pos}(h1:glob sc "sorted"=true)(h2:glob sc "set"=true)(hL:isL as=true)(g:Good X G E as [e]):b00 X G E (.bf .sset as) (.Call (.Name "sorted" p1) [.Call (.Name "set" p2) [e] [] p3] [] p4):=by
 obtain⟨k1,k2,k3⟩:=c90 h1;obtain⟨j1,j2,j3⟩:=c90 h2;obtain⟨ha,hs⟩:=g.args hL;rw[Ä8,Á] at hs;refine a90 (PE.imp (q40 (a41 (P20 x.calm x.room.units) (P80 x.calm x.room.units)) (x.glb _ k1) (x.blt _ (-0)) P10 (d20 (x50 (a41 (r81 x.calm) (s01 x.calm x.room.units)) (x.glb _ j1) (x.blt _ (-0)) j62 ha j3 j2 (c80 hs.1 [] X.env) (o10 X.env p3 hs.2)) k40) k3 k2) λσ H Q q=>?_) rfl
 obtain⟨zA,ρ,z,rr,rel,st,ee,po⟩:=q;refine V10 rel st ee (f00 po) λl z1 e1 vs H1 x1 st1 rvs=>?_;obtain⟨ds,hd,e2⟩:=M.a40 e1;obtain⟨s,hs',e3⟩:=M.a40 e2;cases e3;have hds:=B70 rvs hd
 match ds,hs' with
 |[d],hs' =>
  obtain⟨l,hl,hs'⟩:=Ð.mp hs';obtain⟨ms,hn,rfl⟩:=Í.mp hs';obtain⟨v,rfl,hv⟩:=hds.one;unfold g41 at hn;cases hsm:z00 l with
  |some ns =>
   rw[hsm] at hn;cases hn;obtain⟨rfl,h8⟩:=a11 hsm;obtain⟨a,us,rfl,hq,hd'⟩:∃ a us,v=.ref a/\(SqL X.K H1 a us∨SqT X.K H1 a us)/\HdA X.K (hz zA H1) (ns.map λ(n:Nat)=>D.int n) us:=by
    cases d with
    |tup m =>
     cases hl;obtain⟨a,xs,rfl,m1,m2⟩:=hv.u70;exact⟨a,xs,rfl,.inr ((a00 zA H1).sqT m1),m2⟩
    |lst m =>
     cases hl;obtain⟨a,xs,rfl,m1,m2⟩:=hv.S60;exact⟨a,xs,rfl,.inl (m1.same (a00 zA H1)).sq,m2⟩
    |_=>cases hl
   refine .inl ⟨a,ns,us,rfl,hq,r51 hd',h8,λp hp=>.inl ⟨p,_,rfl,SS.o71 (r71 h8) _,a60,λl hl=>?_⟩⟩;have sm:a30 H1 (upd H1 p (.ext (G31 X.w p (SS.met (λi=>ns.getD i 0) ns.length)))):=a30.new _ hp;rw[V31];exact e00 po x1 st1 _ _ (a30.trans sm (a30.new _ hl)) ((k70 (st1.same sm) (r61 _) hl).from (Ext.of sm))
  |none =>
   rw[hsm] at hn;cases d with
   |lst m =>
    cases hl;obtain⟨ks,hk,hn⟩:=Ð.mp (show p42 _=some ms from hn);obtain⟨⟨c6,cb,co⟩,hn⟩:=e50 hn;cases hn;obtain rfl:=M61 hk;obtain⟨a,us,rfl,m1,m2⟩:=hv.S60;refine .inr ⟨a,ks,us,_,rfl,(m1.same (a00 zA H1)).sq,s11 (a00 zA H1) m2,c6,cb,λp L t hp k hP=>?_⟩;have sm:a30 H1 (upd H1 p (.ext (G71 p L t))):=a30.new _ hp;have pm:(L.map (·.1)).Perm (ded ks):=(È4 k.nodup (z70 ks)).mpr λy=>by rw[k.mem,I60]
    have pmD:(L.map λe=>ST.tD e.1).Perm ((ded ks).map ST.tD):=by
     have:=pm.map ST.tD;rw[ë] at this;exact this
    have ok:h00 (L.map λe=>ST.tD e.1)=true:=by
     unfold h00 at co ⊢;refine Î.mpr λd hd=>?_;have:=Î.mp co d (pmD.mem_iff.mp hd);simp only[Á] at this ⊢;exact⟨this.1,this.2.1,Î.mpr λy hy=>Î.mp this.2.2 y (pmD.mem_iff.mp hy)⟩
    refine .inr ⟨p,ks,L,t,rfl,a60,k.same sm,ok,λl L3 hl p3 e3=>?_⟩;have inj:∀ y∈(ded ks).map ST.tD,∀ y'∈(ded ks).map ST.tD,flt y=flt y'->y=y':=λy hy y' hy' e=>by
     have h1:=Î.mp co y hy;simp only[Á] at h1;have h2:=Î.mp h1.2.2 y' hy';unfold e60 at h2;simp only[Á,Ä0,ú] at h2;rcases h2.2.2 with h | h
     ·exact Z50 _ _ h
     ·rw[e] at h;simp at h
    have ek:j00 ((ded ks).map ST.tD)=L3.map λe=>ST.tD e.1:=by
     rw[e3];exact Z60 ((f30 _).trans pmD) (r20 _) inj
    rw[ek] at po;refine e00 po x1 st1 _ _ (a30.trans sm (a30.new _ hl)) ((k70 (st1.same sm) (s21 λe he=>?_) hl).from (Ext.of sm));exact(g80 sm).sqT (hP e (p3.mem_iff.mp he))
   |_=>cases hn
def tPO(K:Ã)(G:Gs)(E:XK)(x:Ex):TO:=λσ H Q=>∃ zA ρ z r,u90 K zA H ρ σ/\d80 zA z H/\ev G.F x ρ z=some r/\(match r with
 |.ok l z'=>∃ o,p51 l=some o/\∀ H',Ext zA H H'->d80 zA z' H'->Q o H'
 |.er c z'=>EPost G zA E c z' H)
theorem k12(hL:isL x=true)(g:Good X G E x e.toList):PO X e (tPO X.K G E x):=by
 cases e with
 |none =>
  cases x with
  |nil =>
   refine λpins s σ H Q I q=>P61 pins s σ H Q I ?_;obtain⟨zA,ρ,z,r,rel,st,e,po⟩:=q;cases e;obtain⟨o,e',po⟩:=po;cases e';exact po H Ext.refl st
  |cons a r=>obtain⟨e,es,h,_⟩:=g;cases h
  |_=>cases hL
 |some e =>
  cases x with
  |nil=>cases (show [e]=[] from g)
  |cons a r =>
   obtain⟨e',es,h,ns,ga,lr,gr⟩:=g;cases h;refine λpins s σ H Q I q=>P71 ga.pe pins s σ H Q I ?_;obtain⟨zA,ρ,z,rr,rel,st,e,po⟩:=q;have her:∀ c z1,rr=.er c z1->EPost G zA E c z1 H:=λc z1 e=>by subst e;exact po
   have rn:r=.nil:=by
    cases r with
    |nil=>rfl|cons b q=>obtain⟨e,es,h,_⟩:=gr;cases h
    |_=>cases lr
   subst rn;refine k80 rel st e her λl z1 e1=>?_;obtain⟨s,hs,e2⟩:=M.a40 e1;cases e2;obtain⟨o,e',po⟩:=po;refine⟨s,z50 hs,λv H1 x1 st1 rv=>?_⟩;cases s with
   |d y =>
    cases y with
    |int i =>
     cases e';exact⟨i,Hd.j10 (show Hd X.K (hz zA H1) (.int i) v from rv),po H1 x1 st1⟩
    |_=>cases e'
   |_=>cases e'
  |_=>cases hL
theorem H82{a lo hi:Ex}{v:Ò}{l h:Option Ò}{p pos:Pos}(ga:b00 X G E a v)(hl:isL lo=true)(hh:isL hi=true)(gl:Good X G E lo l.toList)(gh:Good X G E hi h.toList):b00 X G E (.sl a lo hi) (.Subscript v (.Slice l h none p) pos):=by
 refine a90 (PE.imp (B81 G72 ga.pe (k12 hl gl) (k12 hh gh)) λσ H Q q=>?_) rfl;obtain⟨zA,ρ,z,rr,rel,st,e,po⟩:=q;refine k80 rel st e (f00 po) λm z1 e1=>?_;obtain⟨dx,p1,e2⟩:=M.a40 e1;obtain⟨s1,rfl,q1⟩:=h40 p1;refine⟨s1,rfl,λw H1 x1 st1 rv=>?_⟩;rcases M.bind_some e2 with ⟨u,z2,e3,e4⟩ | ⟨c,z2,e3,e4⟩
 ·obtain⟨o,ho,e5⟩:=M.a40 e4;refine⟨zA,ρ,z1,_,rel.mono x1,st1,e3,o,ho,λH2 x2 st2=>?_⟩;rcases M.bind_some e5 with ⟨u',z3,e6,e7⟩ | ⟨c,z3,e6,e7⟩
  ·obtain⟨o',ho',e8⟩:=M.a40 e7;refine⟨zA,ρ,z2,_,(rel.mono x1).mono x2,st2,e6,o',ho',λH3 x3 st3=>?_⟩;obtain⟨s,hs,e9⟩:=M.a40 e8;cases e9;exact⟨zA,z3,dx,s,st3,((rv.pl.mono (x2.trans x3)).d_ q1),hs,e00 po ((x1.trans x2).trans x3) st3⟩
  ·exact⟨zA,ρ,z2,_,(rel.mono x1).mono x2,st2,e6,((f00 po) c z3 e7).mono (x1.trans x2)⟩
 ·exact⟨zA,ρ,z1,_,rel.mono x1,st1,e3,((f00 po) c z2 e4).mono x1⟩
theorem x42{a:Ex}{v:Ò}{p1 p2 p3 pos:Pos}{k:Nat}(ga:b00 X G E a v):b00 X G E (.rev a) (.Subscript v (.Slice none none (some (.UnaryOp .USub (.Constant (.int 1) k p1) p2)) p3) pos):=by
 refine a90 (PE.imp (e32 ga.pe (c72 K41 L10)) λσ H Q q=>?_) rfl;obtain⟨zA,ρ,z,rr,rel,st,e,po⟩:=q;refine k80 rel st e (f00 po) λm z1 e1=>?_;obtain⟨s,p1,e2⟩:=M.a40 e1;obtain⟨d,p2,p3⟩:=Ð.mp p1;obtain⟨s1,rfl,q1⟩:=h40 p2;cases e2;refine⟨s1,rfl,λw H1 x1 st1 rv=>⟨1,rfl,rfl,?_⟩⟩;have hd:=rv.pl.d_ q1;cases d with
 |tup l =>
  cases p3;obtain⟨a,xs,rfl,h1,h2⟩:=hd.u70;exact .inl ⟨a,xs,rfl,(a00 zA H1).sqT h1,tupQ st1 h2.reverse (e00 po x1 st1)⟩
 |lst l =>
  cases p3;obtain⟨a,xs,rfl,h1,h2⟩:=hd.S60;exact .inr ⟨a,xs,rfl,(h1.same (a00 zA H1)).sq,λp hp=>e00 po x1 st1 _ _ (a30.new _ hp) (k70 st1 h2.reverse hp)⟩
 |_=>cases p3
theorem k22:∀ {x:Ex}{es:List Ò}{z z1:Z}{l:List S},isL x=true->Good X G E x es->ev G.F x ρ z=some (.ok l z1)->l.length=es.length:=by
 intro x
 induction x with
 |nil =>
  intro es z z1 l _ h e;have h:es=[]:=h;subst h;cases e;rfl
 |cons a r _ ih =>
  intro es z z1 l _ h e;obtain⟨e',es',rfl,ns,g,lr,gr⟩:=h;rcases M.bind_some e with ⟨m,z2,e1,e2⟩ | ⟨c,z2,e1,e2⟩
  ·obtain⟨s,hs,e3⟩:=M.a40 e2;rcases M.bind_some e3 with ⟨m',z3,e4,e5⟩ | ⟨c,z3,e4,e5⟩
   ·cases e5;rw[à,à,ih lr gr e4]
   ·cases e5
  ·cases e2
 |_=>intro es z z1 l h;cases h
theorem s_call(x:XI lm X G E N sc){f:Nat}{as:Ex}{n:Str}{ps:List Str}{e:Ò}{l:List Ò}{p pos:Pos}(hf:G.fns[f]?=some (n,ps))(hl:ps.length=l.length + 1)(hg:glob sc n=true)(hL:isL as=true)(g:Good X G E as (e::l)) :
  b00 X G E (.call f as) (.Call (.Name n p) (e::l) [] pos):=by
 obtain⟨k1,k2,k3⟩:=c90 hg;obtain⟨fa,fd,m1,m2,m3,F⟩:=x.gok f n ps hf;obtain⟨ha,hs⟩:=g.args hL;rw[Ä8,Á] at hs;refine a90 (PE.imp (P31 F x.room (x.glb n k1) m1 m2 m3 .nil x.pas ha k2 (c80 hs.1 l X.env) (o10 X.env pos hs.2)) λσ H Q q=>?_) rfl;obtain⟨zA,ρ,z,rr,rel,st,e,po⟩:=q;have e0:M.bind (ev G.F as ρ) (λl=>M.bind (G.F false f (l.map plS)) λs=>M.ret [s]) z=some rr:=e;rcases M.bind_some e0 with ⟨m,z1,e1,e2⟩ | ⟨c,z1,e1,e2⟩
 ·refine⟨zA,ρ,z,_,rel,st,e1,λvs H1 x1 st1 rvs=>?_⟩;have hv:vs.length=ps.length:=by rw[← rvs.length,k22 hL g e1,hl];rfl
  show spF X.K G f ps.length (vs++[]) H1 Q E;rw[append_nil];refine⟨hv,zA,z1,m.map plS,?_⟩;have ra:RvA X.K zA H1 (m.map plS) vs:=RvA.plS (Ä1.a12 rvs λ_ _ q=>q.pl);rcases M.bind_some e2 with ⟨s,z2,e3,e4⟩ | ⟨c,z2,e3,e4⟩
  ·cases e4;refine⟨_,ra,st1,e3,λv H2 x2 st2 rv=>?_⟩;obtain⟨s',e',po⟩:=po;cases e';exact po v H2 (x1.trans x2) st2 (rv.from x1)
  ·exact⟨_,ra,st1,e3,((f00 po) c z2 e4).mono x1⟩
 ·exact⟨zA,ρ,z,_,rel,st,e1,(f00 po) c z1 e2⟩
def p52:Pat->Nat
 |.nil=>0|.cons _ r=>p52 r + 1|_=>0
mutual
noncomputable def gP(K:Ã):Pat->TG
 |.v i=>E70 i|.tup ps=>A82 K (p52 ps) (gL K ps)|.nil=>λ_ _ _ _=>False|.cons _ _=>λ_ _ _ _=>False
noncomputable def gL(K:Ã):Pat->TGs
 |.nil=>A72|.cons p r=>c22 (gP K p) (gL K r)|.v _=>λ_ _ _ _=>False|.tup _=>λ_ _ _ _=>False
end
end
end Q
namespace Q
open PySem L2 PySem.Spec PyProof.Rows
variable [TB:Tb]
theorem M71(h:noStar e=true)(es:List Ò)(env:È5):É2 (e::es) env=(false,Ø6 e env)::É2 es env:=by
 cases e <;> first | rfl | cases h
structure G81(X:Cx)(N:List Str)(loc:Str->Bool):Prop where
 hN:X.N=N
 nd:N.Nodup
 lc:∀ x,loc x=true->Loc X.env.scope x
 fn:∀ x,loc x=true->(X.fn x=true∨X.env.scope.names.lookup x=some .local)
 calm:X.calm=true
theorem D10:∀ {es:List Ò} (env:È5),es.all noStar=true->(É2 es env).length=es.length/\(É2 es env).findIdx? (·.1)=none
 |[],_,_=>⟨rfl,rfl⟩
 |e::es,env,h=>by
  rw[Ä8,Á] at h;obtain⟨h1,h2⟩:=D10 env h.2;rw[M71 h.1];refine⟨by rw[à,à,h1],?_⟩
  rw[List.findIdx?_cons,h2];rfl
theorem a61:∀ {r:Pat}{es:List Ò},Z80 N loc r es=true->es.length=p52 r/\es.all noStar=true
 |.nil,es,h=>by
  unfold Z80 at h;have:es=[]:=Ì1.mp h;subst this;exact⟨rfl,rfl⟩
 |.cons p r,es,h=>by
  unfold Z80 at h;cases es with
  |nil=>cases h
  |cons e es =>
   rw[Á,Á] at h;obtain⟨h1,h2⟩:=a61 (r:=r) h.2;exact⟨by rw[à,h1];rfl,by rw[Ä8,h.1.1,h2];rfl⟩
 |.v _,_,h=>by unfold Z80 at h;cases h
 |.tup _,_,h=>by unfold Z80 at h;cases h
mutual
theorem h61(L:G81 X N loc):∀ {p:Pat}{e:Ò},h70 N loc p e=true->PG X e (gP X.K p)
 |.v i,e,h=>by
  unfold h70 at h;cases e with
  |Name x pos =>
   rw[Á,beq_iff_eq] at h;unfold gP;exact S80 (by rw[L.hN];exact L.nd) (by rw[L.hN];exact h.1) (L.lc x h.2) (L.fn x h.2)
  |_=>cases h
 |.tup ps,e,h=>by
  unfold h70 at h;cases e with
  |Tuple es k pos =>
   obtain⟨h1,h2⟩:=a61 h;obtain⟨h3,h4⟩:=D10 X.env h2;unfold gP;exact c32 L.calm (M81 L h) (by rw[h3,h1]) h4
  |_=>cases h
 |.nil,e,h=>by unfold h70 at h;cases h
 |.cons _ _,e,h=>by unfold h70 at h;cases h
theorem M81(L:G81 X N loc):∀ {r:Pat}{es:List Ò},Z80 N loc r es=true->PGs X es (gL X.K r)
 |.nil,es,h=>by
  unfold Z80 at h;have:es=[]:=Ì1.mp h;subst this;unfold gL;exact O91
 |.cons p r,es,h=>by
  unfold Z80 at h;cases es with
  |nil=>cases h
  |cons e es =>
   rw[Á,Á] at h;unfold gL;exact B11 (h61 L h.1.2) (M81 L h.2) (by rw[M71 h.1.1];rfl)
 |.v _,_,h=>by unfold Z80 at h;cases h
 |.tup _,_,h=>by unfold Z80 at h;cases h
end
section
variable {K:Ã}{zA:Option Ç}{H:Hp}
theorem u90.set{ρ:Env}{σ:L2.St}{i:Nat}{s:S}{v:V}(h:u90 K zA H ρ σ)(hl:ρ.length=σ.length)(r:RvP K zA H s v):u90 K zA H (ρ.set i (some s)) (σ.set i (some v)):=by
 intro j t e;by_cases hj:j=i
 ·subst hj;have hlt:j < ρ.length:=by
   have:=(ä.mp e).1;simpa using this
  rw[ã hlt] at e;cases e;exact⟨v,ã (by rw[← hl];exact hlt),r⟩
 ·rw[Ù (À8 hj)] at e;obtain⟨w,h1,h2⟩:=h j t e;exact⟨w,by rw[Ù (À8 hj)];exact h1,h2⟩
theorem z80:∀ {r:Pat}{l:List D}{ρ ρ':Env},bindL r l ρ=some ρ'->l.length=p52 r
 |.nil,l,ρ,ρ',e=>by
  unfold bindL at e;cases l with
  |nil=>rfl|cons x l=>cases e
 |.cons p r,l,ρ,ρ',e=>by
  unfold bindL at e;cases l with
  |nil=>cases e
  |cons x l =>
   obtain⟨ρ1,e1,e2⟩:=Ð.mp e;rw[à,z80 e2];rfl
 |.v _,_,_,_,e=>by unfold bindL at e;cases e
 |.tup _,_,_,_,e=>by unfold bindL at e;cases e
mutual
theorem s31:∀ {p:Pat}{d:D}{ρ ρ':Env},e70 p d ρ=some ρ'->∀ {σ:L2.St}{v:V}{R:L2.St->Hp->Prop},u90 K zA H ρ σ->ρ.length=σ.length->Hd K (hz zA H) d v ->
  (∀ σ',u90 K zA H ρ' σ'->ρ'.length=σ'.length->R σ' H)->gP K p v σ H R
 |.v i,d,ρ,ρ',e,σ,v,R,rel,hl,hd,k=>by
  unfold e70 at e;cases e;unfold gP;exact k _ (rel.set hl (show RvP K zA H (.d d) v from hd)) (by rw[Á3,Á3,hl])
 |.tup ps,d,ρ,ρ',e,σ,v,R,rel,hl,hd,k=>by
  unfold e70 at e;cases d with
  |tup l =>
   obtain⟨a,xs,rfl,h1,h2⟩:=hd.u70;unfold gP;exact⟨a,xs,rfl,(a00 zA H).sqT h1,by rw[h2.length];exact z80 e,a71 e rel hl h2 k⟩
  |_=>cases e
 |.nil,_,_,_,e,_,_,_,_,_,_,_=>by unfold e70 at e;cases e
 |.cons _ _,_,_,_,e,_,_,_,_,_,_,_=>by unfold e70 at e;cases e
theorem a71:∀ {r:Pat}{l:List D}{ρ ρ':Env},bindL r l ρ=some ρ'->∀ {σ:L2.St}{vs:List V}{R:L2.St->Hp->Prop},u90 K zA H ρ σ->ρ.length=σ.length->HdA K (hz zA H) l vs ->
  (∀ σ',u90 K zA H ρ' σ'->ρ'.length=σ'.length->R σ' H)->gL K r vs σ H R
 |.nil,l,ρ,ρ',e,σ,vs,R,rel,hl,hd,k=>by
  unfold bindL at e;cases l with
  |nil =>
   cases e;unfold gL;exact⟨hd.e40,k σ rel hl⟩
  |cons x l=>cases e
 |.cons p r,l,ρ,ρ',e,σ,vs,R,rel,hl,hd,k=>by
  unfold bindL at e;cases l with
  |nil=>cases e
  |cons x l =>
   obtain⟨ρ1,e1,e2⟩:=Ð.mp e;obtain⟨v,ws,rfl,h1,h2⟩:=hd.c00;unfold gL;exact⟨v,ws,rfl,s31 e1 rel hl h1 λσ' r' l'=>a71 e2 r' l' h2 k⟩
 |.v _,_,_,_,e,_,_,_,_,_,_,_=>by unfold bindL at e;cases e
 |.tup _,_,_,_,e,_,_,_,_,_,_,_=>by unfold bindL at e;cases e
end
end
end Q
namespace Q
open PySem L2 PySem.Spec PyProof.Rows
variable [TB:Tb]
structure x52(K:PySem.W.Frag)(zA:Option Addr)(J:L2.It)(xs:List D)(H1:Hp):Prop where
 go:∀ i H,Ext zA H1 H->i < xs.length->J.go i H
 yld:∀ i H x H' z d,Ext zA H1 H->d80 zA z H->J.yld i H x H'->xs[i]?=some d->a30 H H'/\Hd K (hz zA H') d x
 stop:∀ H,Ext zA H1 H->J.stop xs.length H
structure ItB(K:PySem.W.Frag)(J:L2.It)(xs:List D)(B:Hp):Prop where
 go:∀ i H,a30 B H->i < xs.length->J.go i H
 yld:∀ i H x H' zA z d,a30 B (hz zA H)->d80 zA z H->J.yld i H x H'->xs[i]?=some d->a30 H H'/\∀ C,a30 B C->(∀ a ys,SqT K (hz zA H') a ys->SqT K C a ys)->Hd K C d x
 stop:∀ H,a30 B H->J.stop xs.length H
section
variable {K:Ã}{B:Hp}
theorem ItB.ok(h:ItB K J xs (hz zA H1)):x52 K zA J xs H1 :=
 ⟨λi H x=>h.go i H (a30.trans x (a00 zA H)),λi H x H' z d e st y k=>let ⟨s,f⟩:=h.yld i H x H' zA z d e st y k;⟨s,f _ (a30.trans e (g80 s)) λ_ _ q=>q⟩,λH x=>h.stop H (a30.trans x (a00 zA H))⟩
theorem a81(h:o00 K B a ys)(r:HdA K B xs ys):ItB K (Itl K a) xs B where
 go:=λi H x hi=>⟨ys,ys[i]'(by rw[r.length];exact hi),(h.same x).sq,by simp⟩
 yld:=λi H v H' zA z d x st y e=>by
  obtain⟨rfl,y⟩:=y;have y1:=y ys ((h.same x).same (a00 zA _)).sq;obtain⟨w,e1,e2⟩:=r.get e;rw[y1] at e1;cases e1;exact⟨a30.refl _,λC c _=>e2.same c⟩
 stop:=λH x=>⟨ys,(h.same x).sq,by rw[r.length];exact Ë _⟩
theorem s41(h:SqT K B a ys)(r:HdA K B xs ys):ItB K (Itt K a) xs B where
 go:=λi H x hi=>⟨ys,ys[i]'(by rw[r.length];exact hi),a30.sqT x h,by simp⟩
 yld:=λi H v H' zA z d x st y e=>by
  obtain⟨rfl,y⟩:=y;have y1:=y ys ((a00 zA _).sqT (a30.sqT x h));obtain⟨w,e1,e2⟩:=r.get e;rw[y1] at e1;cases e1;exact⟨a30.refl _,λC c _=>e2.same c⟩
 stop:=λH x=>⟨ys,a30.sqT x h,by rw[r.length];exact Ë _⟩
theorem s51(lo:Int)(n:Nat):ItB K (Itr lo n) ((ì n).map λ(k:Nat)=>D.int (lo + k)) B where
 go:=λi H x hi=>by show i < n;simpa using hi
 yld:=λi H v H' zA z d x st y e=>by
  obtain⟨rfl,rfl⟩:=y;rw[Ö] at e;obtain⟨k,e1,rfl⟩:=Í.mp e;obtain⟨h1,h2⟩:=ä.mp e1;rw[List.getElem_range] at h2;subst h2;exact⟨a30.refl _,λ_ _ _=>Hd.int⟩
 stop:=λH x=>by show n<=_;simp
end
section
variable {K:Ã}{zA:Option Ç}{H1:Hp}
theorem zip_get:∀ {a b:List D}{i:Nat}{d:D},(p10 a b)[i]?=some d->∃ x y,a[i]?=some x/\b[i]?=some y/\d=.tup [x,y]
 |[],_,_,_,e=>by simp[p10] at e|_::_,[],_,_,e=>by simp[p10] at e|x::r,y::q,0,d,e=>by simp[p10] at e;exact⟨x,y,rfl,rfl,e.symm⟩
 |x::r,y::q,i + 1,d,e=>by
  obtain⟨u,v,h1,h2,h3⟩:=zip_get (a:=r) (b:=q) (i:=i) (by simpa [p10] using e)
  exact⟨u,v,by simpa using h1,by simpa using h2,h3⟩
theorem V60:∀ (a b:List D),(p10 a b).length=min a.length b.length
 |[],_=>by simp[p10]|_::_,[]=>by simp[p10]|x::r,y::q=>by simp only[p10,à,V60 r q];omega
theorem s61(h:∀ H,a30 B H->SqB bb K H a us)(r:HdA K B xs us)(h':∀ H,a30 B H->SqB bb K H b ws)(r':HdA K B ys ws):ItB K (Itz bb K a b) (p10 xs ys) B where
 go:=λi H x hi=>by
  rw[V60] at hi;exact⟨us,ws,us[i]'(by rw[r.length];omega),ws[i]'(by rw[r'.length];omega),h H x,h' H x,by simp,by simp⟩
 yld:=λi H v H' zA z d x st y e=>by
  obtain⟨T,rfl,hT,y⟩:=y;obtain⟨d1,d2,e1,e2,rfl⟩:=zip_get e;obtain⟨w1,f1,g1⟩:=r.get e1;obtain⟨w2,f2,g2⟩:=r'.get e2;have y1:=y us ws w1 w2 (h H (a30.trans x (a00 zA H))) (h' H (a30.trans x (a00 zA H))) f1 f2;subst y1;have sm:a30 H (upd H T (.tup [w1,w2])):=a30.new _ hT;exact⟨sm,λC c t=>Hd.tup (t _ _ ((st.same sm).L61 (SqT.of a60))) (.cons (g1.same c) (.cons (g2.same c) .nil))⟩
 stop:=λH x=>⟨us,ws,h H x,h' H x,by rw[V60,r.length,r'.length];omega⟩
end
def PX(P:D->Prop):D->Prop
 |.tup l=>∀ y∈l,P y|.lst l=>∀ y∈l,P y|_=>True
def ItX(K:Ã)(zA:Option Ç)(H H':Hp)(l:List S)(J:L2.It)(xs:List D):Prop :=
 ∀ (P:D->Prop) (B:Hp),a30 B (hz zA H')->(∀ a ys,SqT K (hz zA H') a ys->SqT K B a ys)->(∀ d v,P d->Hd K (hz zA H') d v->Hd K B d v)->(∀ ds,plA l=some ds->∀ d∈ds,PX P d) ->
  (∀ a ys,o00 K (hz zA H') a ys->((H a=none/\H' a=some (.lst ys))∨g61 l=true)->o00 K B a ys)->ItB K J xs B
theorem HdA.move{K:Ã}{H B:Hp}{P:D->Prop}(mv:∀ d v,P d->Hd K H d v->Hd K B d v):∀ {ds:List D}{vs:List V},(∀ y∈ds,P y)->HdA K H ds vs->HdA K B ds vs
 |[],_,_,h=>by rw[h.e40];exact .nil
 |d::ds,_,p,h=>by
  obtain⟨x,r,rfl,h1,h2⟩:=h.c00;exact .cons (mv d x (p d Ê) h1) (HdA.move mv (λy hy=>p y (È _ hy)) h2)
theorem ItX.ok{K:Ã}{zA:Option Ç}{H H':Hp}{l:List S}{J:L2.It}{xs:List D}(h:ItX K zA H H' l J xs):x52 K zA J xs H':=by
 refine(h (λ_=>True) (hz zA H') (a30.refl _) (λ_ _ q=>q) (λ_ _ _ q=>q) (λds _ d _=>?_) λ_ _ q _=>q).ok;cases d <;> first | trivial | exact λ_ _=>trivial
def tIt(K:Ã)(G:Gs)(E:XK)(it:It)(src:Ex):TI:=λσ H R=>∃ zA ρ z r,u90 K zA H ρ σ/\d80 zA z H/\ev G.F src ρ z=some r/\(match r with
 |.ok l z'=>∃ xs,(plA l).bind (itD it)=some xs/\∀ J H',Ext zA H H'->d80 zA z' H'->ItX K zA H H' l J xs->R J H'
 |.er c z'=>EPost G zA E c z' H)
section
variable {lm:Bool}{X:Cx}{G:Gs}{E:XK}{N:List Str}{sc:ø}
theorem k32{zA:Option Ç}{H:Hp}{it:It}{P:L2.It->Hp->Prop}{r:R (List S)}(po:(match r with | .ok l z'=>∃ xs,(plA l).bind (itD it)=some xs/\∀ J H',Ext zA H H'->d80 zA z' H'->ItX X.K zA H H' l J xs->P J H' | .er c z'=>EPost G zA E c z' H)):∀ c z1,r=.er c z1->EPost G zA E c z1 H:=λc z1 e=>by subst e;exact po
theorem s71{s:S}{ds:List D}(h:plA [s]=some ds):∃ d,ds=[d]/\plD s=some d:=by
 cases s with
 |d x=>cases h;exact⟨x,rfl,rfl⟩
 |fr xs=>cases h;exact⟨_,rfl,rfl⟩
 |_=>cases h
theorem M91{tg e:Ò}{a:Ex}(g:b00 X G E a e):PI X tg e (tIt X.K G E .seq (.cons a .nil)):=by
 intro pins s σ H R I q;obtain⟨zA,ρ,z,rr,rel,st,ee,po⟩:=q;have e0:M.bind (ev G.F a ρ) (λx=>M.bind (M.of (one x)) λs=>M.bind (ev G.F .nil ρ) λy=>M.ret (s::y)) z=some rr:=ee;rcases M.bind_some e0 with ⟨m,z1,e1,e2⟩ | ⟨c,z1,e1,e2⟩
 ·obtain⟨t,ht,e3⟩:=M.a40 e2;cases e3;have hm:=z50 ht;subst hm;obtain⟨xs,hx,po⟩:=po;obtain⟨ds,h1,h2⟩:=Ð.mp hx;obtain⟨d,rfl,h3⟩:=s71 h1;cases d with
  |tup l =>
   cases h2;refine K31 g.pe pins s σ H R I ⟨zA,ρ,z,_,rel,st,e1,t,rfl,λv H1 x1 st1 rv=>?_⟩;obtain⟨b,ys,rfl,k1,k2⟩:=(rv.pl.d_ h3).u70;exact⟨b,rfl,⟨ys,(a00 zA H1).sqT k1⟩,po _ H1 x1 st1 λP B sub tup mv pa sf=>s41 (tup _ _ k1) (HdA.move mv (show ∀ y∈xs,P y from pa _ h1 _ Ê) k2)⟩
  |lst l =>
   cases h2;refine S90 g.pe pins s σ H R I ⟨zA,ρ,z,_,rel,st,e1,t,rfl,λv H1 x1 st1 rv=>?_⟩;have fin:∀ {b:Ç}{ys:List V},o00 X.K (hz zA H1) b ys->HdA X.K (hz zA H1) xs ys->((H b=none/\H1 b=some (.lst ys))∨g61 [t]=true)->∃ a,V.ref b=.ref a/\(∃ xs,SqL X.K H1 a xs)/\R (Itl X.K a) H1:=λ{b ys} k1 k2 k5=>by
    exact⟨b,rfl,⟨ys,(k1.same (a00 zA H1)).sq⟩,po _ H1 x1 st1 λP B sub tup mv pa sf=>a81 (sf _ _ k1 k5) (HdA.move mv (show ∀ y∈xs,P y from pa _ h1 _ Ê) k2)⟩
   cases t with
   |d x =>
    cases h3;obtain⟨b,ys,rfl,k1,k2⟩:=Hd.S60 (show Hd X.K (hz zA H1) (.lst xs) v from rv);exact fin k1 k2 (.inr rfl)
   |fr x =>
    cases h3;obtain⟨b,ys,rfl,k0,k1,k2,k3⟩:=rv;exact fin (o00.of (c70 k2 k1)) (k3.same (d70 b _)) (.inl ⟨k0,k2⟩)
   |_=>cases h3
  |_=>cases h2
 ·exact S90 g.pe pins s σ H R I ⟨zA,ρ,z,_,rel,st,e1,(k32 po) c z1 e2⟩
theorem I70{l:List S}{it:It}{xs:List D}(h:(plA l).bind (itD it)=some xs):∃ ds,plA l=some ds/\itD it ds=some xs:=Ð.mp h
theorem s81(x:XI lm X G E N sc){tg a:Ò}{as:Ex}{n:Str}{p pos:Pos}(hn:n="range")(hg:glob sc n=true)(hL:isL as=true)(g:Good X G E as [a]):PI X tg (.Call (.Name n p) [a] [] pos) (tIt X.K G E .rng1 as):=by
 subst hn;obtain⟨k1,k2,k3⟩:=c90 hg;obtain⟨ha,hs⟩:=g.args hL;rw[Ä8,Á] at hs;intro pins s σ H R I q;refine L40 (x.glb _ k1) (x.blt _ (-0)) ha (c80 hs.1 [] X.env) pins s σ H R I ?_
 obtain⟨zA,ρ,z,rr,rel,st,ee,po⟩:=q;refine⟨zA,ρ,z,rr,rel,st,ee,?_⟩;cases rr with
 |er c z1=>exact po
 |ok l z1 =>
  obtain⟨xs,hx,po⟩:=po;intro vs H1 x1 st1 rvs;obtain⟨ds,h1,h2⟩:=I70 hx;have hd:=B70 rvs h1
  match ds,h2 with
  |[.int j],h2 =>
   obtain⟨hj,h2⟩:=e50 h2;have hj:=H40.mp hj;cases h2;obtain⟨v,rfl,h3⟩:=hd.one;cases h3.j10;refine⟨j,rfl,by omega,by omega,po _ H1 x1 st1 λP B sub tup mv pa sf=>?_⟩
   have:=s51 (K:=X.K) (B:=B) 0 j.toNat;simpa using this
theorem s91(x:XI lm X G E N sc){tg a b:Ò}{as:Ex}{n:Str}{p pos:Pos}(hn:n="range")(hg:glob sc n=true)(hL:isL as=true)(g:Good X G E as [a,b]):PI X tg (.Call (.Name n p) [a,b] [] pos) (tIt X.K G E .rng2 as):=by
 subst hn;obtain⟨k1,k2,k3⟩:=c90 hg;obtain⟨ha,hs⟩:=g.args hL;rw[Ä8,Ä8,Á,Á] at hs;intro pins s σ H R I q;refine j91 (x.glb _ k1) (x.blt _ (-0)) ha (by rw[c80 hs.1,c80 hs.2.1];rfl) (c80 hs.2.1 [] X.env) pins s σ H R I ?_
 obtain⟨zA,ρ,z,rr,rel,st,ee,po⟩:=q;refine⟨zA,ρ,z,rr,rel,st,ee,?_⟩;cases rr with
 |er c z1=>exact po
 |ok l z1 =>
  obtain⟨xs,hx,po⟩:=po;intro vs H1 x1 st1 rvs;obtain⟨ds,h1,h2⟩:=I70 hx;have hd:=B70 rvs h1
  match ds,h2 with
  |[.int i,.int j],h2 =>
   obtain⟨hj,h2⟩:=e50 h2;have hi:=H40.mp hj.1;have hj:=H40.mp hj.2;cases h2;obtain⟨v,w,rfl,h3,h4⟩:=hd.two;cases h3.j10;cases h4.j10;exact⟨i,j,rfl,by omega,po _ H1 x1 st1 λP B sub tup mv pa sf=>s51 i (j - i).toNat⟩
theorem t01{s:S}{r:List S}{ds:List D}(h:plA (s::r)=some ds):∃ x q,ds=x::q/\plD s=some x/\plA r=some q:=by
 cases s with
 |d y =>
  obtain⟨q,e,rfl⟩:=Í.mp h;exact⟨y,q,rfl,rfl,e⟩
 |fr y =>
  obtain⟨q,e,rfl⟩:=Í.mp h;exact⟨_,q,rfl,rfl,e⟩
 |_=>cases h
theorem V91(h:plA l=some [x,y]):∃ s t,l=[s,t]/\plD s=some x/\plD t=some y:=by
 cases l with
 |nil=>cases h
 |cons s r =>
  obtain⟨_,_,e,h1,h2⟩:=t01 h;cases e;cases r with
  |nil=>cases h2
  |cons t r =>
   obtain⟨_,_,e,h3,h4⟩:=t01 h2;cases e;cases r with
   |nil=>exact⟨s,t,rfl,h1,h3⟩
   |cons u r =>
    obtain⟨_,_,e,_⟩:=t01 h4;cases e
theorem G91{s t:S}(h:g61 [s]=true):g61 [s,t]=true:=by
 match s,h with
 |.d (.lst _),_=>rfl
theorem H01{s t:S}(h:g61 [t]=true):g61 [s,t]=true:=by
 match s with
 |.d (.lst _)=>rfl|.d .non | .d (.bl _) | .d (.int _) | .d (.str _) | .d (.tup _) | .d .dct | .fr _ | .z=>exact h
theorem t11{K:Ã}{zA:Option Ç}{H H1:Hp}{t:S}{v:V}{a:List D}(rv:RvS K zA H H1 t v)(h:plD t=some (.lst a)):∃ b ys,v=.ref b/\o00 K (hz zA H1) b ys/\HdA K (hz zA H1) a ys/\((H b=none/\H1 b=some (.lst ys))∨g61 [t]=true):=by
 cases t with
 |d x =>
  cases h;obtain⟨b,ys,rfl,k1,k2⟩:=Hd.S60 (show Hd K (hz zA H1) (.lst a) _ from rv);exact⟨b,ys,rfl,k1,k2,.inr rfl⟩
 |fr x =>
  cases h;obtain⟨b,ys,rfl,k0,k1,k2,k3⟩:=rv;exact⟨b,ys,rfl,o00.of (c70 k2 k1),k3.same (d70 b _),.inl ⟨k0,k2⟩⟩
 |_=>cases h
theorem t21(x:XI lm X G E N sc){tg a b:Ò}{as:Ex}{n:Str}{p pos:Pos}(ht:k90 tg=true)(hn:n="zip")(hg:glob sc n=true)(hL:isL as=true)(g:Good X G E as [a,b]):PI X tg (.Call (.Name n p) [a,b] [] pos) (tIt X.K G E .zip as):=by
 subst hn;obtain⟨k1,k2,k3⟩:=c90 hg;obtain⟨ha,hs⟩:=g.args hL;rw[Ä8,Ä8,Á,Á] at hs;cases tg with
 |Tuple es ek ep =>
  intro pins s σ H R I q;refine d92 (x.glb _ k1) (x.blt _ (-0)) ha (by rw[c80 hs.1,c80 hs.2.1];rfl) (c80 hs.2.1 [] X.env) pins s σ H R I ?_
  obtain⟨zA,ρ,z,rr,rel,st,ee,po⟩:=q;refine⟨zA,ρ,z,rr,rel,st,ee,?_⟩;cases rr with
  |er c z1=>exact po
  |ok l z1 =>
   obtain⟨xs,hx,po⟩:=po;intro vs H1 x1 st1 rvs;obtain⟨ds,h1,h2⟩:=I70 hx;have hd:=B70 rvs h1
   match ds,h2 with
   |[.tup a,.tup b],h2 =>
    cases h2;obtain⟨v,w,rfl,h3,h4⟩:=hd.two;obtain⟨p1,us,rfl,m1,m2⟩:=h3.u70;obtain⟨p2,ws,rfl,m3,m4⟩:=h4.u70;exact⟨false,p1,p2,rfl,⟨us,(a00 zA H1).sqT m1⟩,⟨ws,(a00 zA H1).sqT m3⟩,po _ H1 x1 st1 λP B sub tup mv pa sf=>s61 (λ_ x=>a30.sqT x (tup _ _ m1)) (HdA.move mv (show ∀ y∈a,P y from pa _ h1 _ Ê) m2) (λ_ x=>a30.sqT x (tup _ _ m3)) (HdA.move mv (show ∀ y∈b,P y from pa _ h1 _ (È _ Ê)) m4)⟩
   |[.lst a,.lst b],h2 =>
    cases h2;obtain⟨t1,t2,rfl,e1,e2⟩:=V91 h1;cases rvs with
    |cons rv1 rn =>
     cases rn with
     |cons rv2 rn =>
      cases rn;obtain⟨p1,us,rfl,m1,m2,m3⟩:=t11 rv1 e1;obtain⟨p2,ws,rfl,m4,m5,m6⟩:=t11 rv2 e2;refine⟨true,p1,p2,rfl,⟨us,(m1.same (a00 zA H1)).sq⟩,⟨ws,(m4.same (a00 zA H1)).sq⟩,po _ H1 x1 st1 λP B sub tup mv pa sf=>s61 (λ_ x=>((sf _ _ m1 (m3.imp id λq=>?_)).same x).sq) (HdA.move mv (show ∀ y∈a,P y from pa _ h1 _ Ê) m2) (λ_ x=>((sf _ _ m4 (m6.imp id λq=>?_)).same x).sq) (HdA.move mv (show ∀ y∈b,P y from pa _ h1 _ (È _ Ê)) m5)⟩
      ·exact G91 q
      ·exact H01 q
 |_=>cases ht
theorem a91:∀ {a:List D}{i n:Nat}{d:D},(t10 a n)[i]?=some d->∃ x,a[i]?=some x/\d=.tup [.int ((n + i:Nat):Int),x]
 |[],_,_,_,e=>by simp[t10] at e|x::r,0,n,d,e=>by simp[t10] at e;exact⟨x,rfl,e.symm⟩
 |x::r,i + 1,n,d,e=>by
  obtain⟨u,h1,h2⟩:=a91 (a:=r) (i:=i) (n:=n + 1) (by simpa [t10] using e)
  exact⟨u,by simpa using h1,by rw[h2,show n + 1 + i=n + (i + 1) by omega]⟩
theorem r50:∀ (a:List D) (n:Nat),(t10 a n).length=a.length
 |[],_=>rfl|x::r,n=>by simp only[t10,à,r50 r]
theorem b01(h:∀ H,a30 B H->SqB b X.K H a us)(r:HdA X.K B xs us):ItB X.K (Ite b X.K a) (t10 xs 0) B where
 go:=λi H x hi=>by
  rw[r50] at hi;exact⟨us,us[i]'(by rw[r.length];omega),h H x,by simp⟩
 yld:=λi H v H' zA z d x st y e=>by
  obtain⟨T,rfl,hT,y⟩:=y;obtain⟨d1,e1,rfl⟩:=a91 e;obtain⟨w1,f1,g1⟩:=r.get e1;have y1:=y us w1 (h H (a30.trans x (a00 zA H))) f1;subst y1;have sm:a30 H (upd H T (.tup [.int i,w1])):=a30.new _ hT;exact⟨sm,λC c t=>Hd.tup (t _ _ ((st.same sm).L61 (SqT.of a60))) (.cons (by rw[zero_add];exact Hd.int) (.cons (g1.same c) .nil))⟩
 stop:=λH x=>⟨us,h H x,by rw[r50,r.length]⟩
theorem W01(h:plA l=some [d]):∃ s,l=[s]:=by
 cases l with
 |nil=>cases h
 |cons s r =>
  cases r with
  |nil=>exact⟨s,rfl⟩|cons t q=>exfalso;cases s <;> cases t <;> first | (cases h;done) | (simp only[plA,Option.map_map,Ô6] at h;obtain⟨_,_,h⟩:=h;cases h)
theorem I80(x:XI lm X G E N sc){tg a:Ò}{as:Ex}{n:Str}{p pos:Pos}(ht:k90 tg=true)(hn:n="enumerate")(hg:glob sc n=true)(hL:isL as=true)(g:Good X G E as [a]):PI X tg (.Call (.Name n p) [a] [] pos) (tIt X.K G E .enum as):=by
 subst hn;obtain⟨k1,k2,k3⟩:=c90 hg;obtain⟨ha,hs⟩:=g.args hL;rw[Ä8,Á] at hs;cases tg with
 |Tuple es ek ep =>
  intro pins s σ H R I q;refine R31 (x.glb _ k1) (x.blt _ (-0)) ha (c80 hs.1 [] X.env) pins s σ H R I ?_
  obtain⟨zA,ρ,z,rr,rel,st,ee,po⟩:=q;refine⟨zA,ρ,z,rr,rel,st,ee,?_⟩;cases rr with
  |er c z1=>exact po
  |ok l z1 =>
   obtain⟨xs,hx,po⟩:=po;intro vs H1 x1 st1 rvs;obtain⟨ds,h1,h2⟩:=I70 hx;have hd:=B70 rvs h1
   match ds,h2 with
   |[.tup a],h2 =>
    cases h2;obtain⟨v,rfl,h3⟩:=hd.one;obtain⟨p1,us,rfl,m1,m2⟩:=h3.u70;exact⟨false,p1,rfl,⟨us,(a00 zA H1).sqT m1⟩,po _ H1 x1 st1 λP B sub tup mv pa sf=>b01 (λ_ x=>a30.sqT x (tup _ _ m1)) (HdA.move mv (show ∀ y∈a,P y from pa _ h1 _ Ê) m2)⟩
   |[.lst a],h2 =>
    cases h2;have fin:∀ (b:Ç) (ys:List V),o00 X.K (hz zA H1) b ys->HdA X.K (hz zA H1) a ys->((H b=none/\H1 b=some (.lst ys))∨g61 l=true)->∃ bb p,[V.ref b]=[.ref p]/\(∃ xs,SqB bb X.K H1 p xs)/\R (Ite bb X.K p) H1:=λb ys k1 k2 k5 =>
     ⟨true,b,rfl,⟨ys,(k1.same (a00 zA H1)).sq⟩,po _ H1 x1 st1 λP B sub tup mv pa sf=>b01 (λ_ x=>((sf _ _ k1 k5).same x).sq) (HdA.move mv (show ∀ y∈a,P y from pa _ h1 _ Ê) k2)⟩
    obtain⟨t,rfl⟩:=W01 h1;cases rvs with
    |cons rv rn =>
     cases rn;cases t with
     |d x =>
      cases h1;obtain⟨b,ys,rfl,k1,k2⟩:=Hd.S60 (show Hd X.K (hz zA H1) (.lst a) _ from rv);exact fin _ _ k1 k2 (.inr rfl)
     |fr x =>
      cases h1;obtain⟨b,ys,rfl,k0,k1,k2,k3⟩:=rv;exact fin _ _ (o00.of (c70 k2 k1)) (k3.same (d70 b _)) (.inl ⟨k0,k2⟩)
     |_=>cases h1
 |_=>cases ht
abbrev EF:XK:=λ_ _ _=>False
def ttC(K:Ã)(G:Gs):Ex->TT
 |.nil=>e91|.cons c _=>tT K G EF c|_=>λ_ _ _=>False
theorem h71(h:turns f (x::r) z=some (.ok ys z2)):∃ o z1 l,f x z=some (.ok o z1)/\turns f r z1=some (.ok l z2)/\ys=(match o with | some y=>y::l | none=>l):=by
 rcases M.bind_some (show M.bind (f x) _ z=_ from h) with ⟨o,z1,e1,e2⟩ | ⟨c,z1,e1,e2⟩
 ·rcases M.bind_some e2 with ⟨l,z3,e3,e4⟩ | ⟨c,z3,e3,e4⟩
  ·cases e4;exact⟨o,z1,l,e1,e3,rfl⟩
  ·cases e4
 ·cases e2
theorem W11{zA:Option Ç}{J:L2.It}{xs ys:List D}{H1:Hp}{z1 z2:Z}{p:Pat}{cond el:Ex}{ρ0:Env}{σ0:L2.St}{Q:VK}(IT:x52 X.K zA J xs H1)(hm:xs.length<=most)(rel0:u90 X.K zA H1 ρ0 σ0)(len:ρ0.length=σ0.length)(st1:d80 zA z1 H1)
  (hc:cond=.nil∨∃ c,cond=.cons c .nil) (e:turns (o40 (ev G.F cond) (ev G.F el) p ρ0) xs z1=some (.ok ys z2))
  (fin:∀ H2 vs l,Ext zA H1 H2->d80 zA z2 H2->HdA X.K (hz zA H2) ys vs->H2 l=none->Q (.ref l) (upd H2 l (.lst vs))):m01 J σ0 H1 (gP X.K p) (ttC X.K G cond) (tI X.K G EF el) Q:=by
 refine⟨λi m vs H=>m=xs.length - i/\i<=xs.length/\vs.length<=i/\∃ yd z rest,Ext zA H1 H/\d80 zA z H/\HdA X.K (hz zA H) yd vs/\turns (o40 (ev G.F cond) (ev G.F el) p ρ0) (xs.drop i) z=some (.ok rest z2)/\ys=yd++rest,
  ⟨xs.length,rfl,Æ7 _,Æ7 _,[],z1,ys,Ext.refl,st1,.nil,by simpa using e,rfl⟩,?_⟩
 rintro i m vs H ⟨rfl,hi,hv,yd,z,rest,x,st,hd,et,ey⟩;by_cases hlt:i < xs.length
 ·refine .inr ⟨IT.go i H x hlt,Ê3 hv (Ú hlt (g20 hm)),
   λws H'=>ws.length<=i + 1/\∃ yd z rest,Ext zA H1 H'/\d80 zA z H'/\HdA X.K (hz zA H') yd ws/\turns (o40 (ev G.F cond) (ev G.F el) p ρ0) (xs.drop (i + 1)) z=some (.ok rest z2)/\ys=yd++rest,
   λws H' q=>⟨xs.length - (i + 1),by omega,rfl,hlt,q.1,q.2⟩,λv H' y=>?_⟩
  obtain⟨sm,hx⟩:=IT.yld i H v H' z xs[i] x st y (by simp[hlt])
  rw[Ð1 hlt] at et;obtain⟨o,z3,l,f1,f2,f3⟩:=h71 et;obtain⟨ρ',b1,f4⟩:=M.a40 (show M.bind (M.of (e70 p xs[i] ρ0)) _ z=_ from f1);have x':Ext zA H1 H':=x.trans (Ext.of sm);have st':=st.same sm;refine s31 b1 (rel0.mono x') len hx λσ' rel' len'=>?_;have yes:∀ {za:Z}{Ha:Hp},Ext zA H' Ha->d80 zA za Ha->M.bind (ev G.F el ρ') (λy=>M.bind (M.of (pl y)) λy=>M.ret (some y)) za=some (.ok o z3)->tI X.K G EF el σ' Ha (λy H4=>(vs++[y]).length<=i + 1/\∃ yd z rest,Ext zA H1 H4/\d80 zA z H4/\HdA X.K (hz zA H4) yd (vs++[y])/\turns (o40 (ev G.F cond) (ev G.F el) p ρ0) (xs.drop (i + 1)) z=some (.ok rest z2)/\ys=yd++rest):=λ{za Ha} xa sta ea=>by
   refine k80 (rel'.mono xa) sta ea (λc z1 h=>by cases h) λm z4 e4=>?_
   obtain⟨d,p1,e5⟩:=M.a40 e4;obtain⟨s1,rfl,q1⟩:=h40 p1;cases e5;refine⟨s1,rfl,λw H4 x4 st4 rv=>⟨by rw[À6];simp;omega,yd++[d],z3,l,(x'.trans xa).trans x4,st4,?_,f2,by rw[ey,f3,Ù3];rfl⟩⟩
   exact(hd.same (a30.trans (g80 sm) (a30.trans xa.same x4.same))).append (.cons (rv.pl.d_ q1) .nil)
  rcases hc with rfl | ⟨c,rfl⟩
  ·have f5:M.bind (ev G.F el ρ') (λy=>M.bind (M.of (pl y)) λy=>M.ret (some y)) z=some (.ok o z3):=f4;have ty:ttC X.K G .nil=e91:=rfl;rw[ty];refine D61 ?_;dsimp only;rw[if_pos rfl];exact yes Ext.refl st' f5
  ·rcases M.bind_some (show M.bind (ev G.F (.cons c .nil) ρ') _ z=_ from f4) with ⟨m,za,e1,e2⟩ | ⟨q,za,e1,e2⟩
   ·rcases M.bind_some (show M.bind (ev G.F c ρ') _ z=_ from e1) with ⟨m',zb,e3,e4⟩ | ⟨q,zb,e3,e4⟩
    ·obtain⟨s,hs,e5⟩:=M.a40 e4;cases e5;have hm':=z50 hs;subst hm';show tT X.K G EF c σ' H' _;have tb:∃ b,s=.d (.bl b):=by
      cases s with
      |d y=>cases y with
       |bl b=>exact⟨b,rfl⟩|_=>cases e2
      |_=>cases e2
     obtain⟨b,rfl⟩:=tb;refine⟨zA,ρ',z,_,rel',st',e3,b,rfl,λHa xa sta=>?_⟩;cases b with
     |true =>
      rw[if_pos rfl];exact yes xa sta e2
     |false =>
      rw[if_neg Ñ];cases e2;exact⟨â hv (le_succ _),yd,z3,l,x'.trans xa,sta,hd.same (a30.trans (g80 sm) xa),f2,by rw[ey,f3]⟩
    ·cases e4
   ·cases e2
 ·have hi':i=xs.length:=by omega
  subst hi';rw[Ö1] at et;cases et;refine .inl ⟨IT.stop H x,λl hl=>fin H vs l x st (by rw[ey,append_nil];exact hd) hl⟩
end
section
variable {K:Ã}{zA:Option Ç}{z:Z}{H H2:Hp}{P:Ç}{q:Str}
theorem H11(KB:G60 P H H2)(t:Tab H P q)(t2:Tab H2 P q):Ext zA H H2:=by
 refine⟨λb o h=>?_,λb ps h=>?_⟩
 ·obtain⟨h1,h2⟩:=m70 h;have nt:=k60 h;obtain⟨ps,hp,_⟩:=t;have hb:b≠P:=λz=>by
   subst z;rw[hp] at h1;cases h1;exact nt _ rfl
  exact c70 (KB.same b o hb h1) h2 nt
 ·by_cases hb:b=P
  ·subst hb;obtain⟨qs,e,_⟩:=t2;exact⟨qs,e⟩
  ·exact⟨ps,KB.same b _ hb h⟩
theorem W21(KB:G60 P H H2)(t:Tab H P q)(t2:Tab H2 P q)(uq:∀ p∈TB.tb,p.1=P->p.2=q)(st:d80 zA z H):d80 zA z H2:=by
 obtain⟨ps,hp,_⟩:=t;have ne:∀ {b:Ç}{o:HO},H b=some o->(∀ l,o≠.tbl l)->b≠P:=λ{b o} e1 e2 z=>by
  subst z;rw[hp] at e1;cases e1;exact e2 _ rfl
 refine⟨?_,λp hq=>?_⟩
 ·have h:=st.zat;cases zA with
  |none=>cases z with
   |none=>trivial|some _=>exact h.elim
  |some a=>cases z with
   |none=>exact h.elim
   |some pr =>
    have h':H a=some (.lst [.int pr.1,.bl pr.2]):=h;exact KB.same _ _ (ne h' λ_ z=>nomatch z) h'
 ·by_cases hb:p.1=P
  ·rw[uq p hq hb,hb];exact t2
  ·obtain⟨qs,e,tr,k⟩:=st.tab p hq;refine⟨qs,KB.same _ _ hb e,tr,λpos c hc=>?_⟩;obtain⟨c',e1,e2⟩:=k pos c hc;exact⟨c',e1,KB.same _ _ (ne e2 λ_ z=>nomatch z) e2⟩
theorem t31:∀ l:List Nat,(b50 N l).length<=l.length
 |[]=>Ë _
 |j::q=>by
  have ih:=t31 (N:=N) q;unfold b50;split
  ·rw[à,à];omega
  ·rw[à];omega
theorem P90(rel:u90 K zA H ρ σ):∀ {capt:List Nat}{ss:List S},F21 ρ capt=some ss->(b50 N capt).length=capt.length ->
  ∃ vs,RvA K zA H ss vs/\vs.length=(b50 N capt).length/\∀ (i:Nat) (x:Str) (v:V),((b50 N capt).map (·.1))[i]?=some x->vs[i]?=some v->∃ j:Nat,N[j]?=some x/\σ[j]?=some (some v)
 |[],ss,h,_=>by
  cases h;exact⟨[],.nil,rfl,λi x v h=>by simp[b50] at h⟩
 |i::capt,ss,h,hl=>by
  have h:(match ρ[i]? with | some (some s)=>(F21 ρ capt).map (s::·) | _=>none)=some ss:=h
  have le:=t31 (N:=N) capt;obtain⟨s,r,e2,h3,rfl⟩:∃ s r,ρ[i]?=some (some s)/\F21 ρ capt=some r/\ss=s::r:=by
   split at h
   ·rename_i s e;obtain⟨r,h3,h4⟩:=Í.mp h;exact⟨s,r,e,h3,h4.symm⟩
   ·cases h
  obtain⟨v,k1,k2⟩:=rel i s e2;cases hN:N[i]? with
  |none =>
   unfold b50 at hl;rw[hN] at hl;simp only[à] at hl;omega
  |some y =>
   unfold b50 at hl ⊢;rw[hN] at hl ⊢;simp only[à] at hl;obtain⟨vs,a1,a2,a3⟩:=P90 rel (N:=N) (capt:=capt) h3 ∅
   refine⟨v::vs,.cons k2 a1,by simp[a2],λj x u b1 b2=>?_⟩
   cases j with
   |zero =>
    simp only[Â2,Ê4,É3] at b1 b2;subst b1;subst b2;exact⟨i,hN,k1⟩
   |succ j=>exact a3 j x u (by simpa using b1) (by simpa using b2)
theorem b11:∀ {ss:List S}{vs:List V},RvA K zA H ss vs->u90 K zA H (ss.map some) (vs.map some)
 |[],_,h,i,s,e=>by simp at e
 |a::ss,_,h,i,s,e=>by
  cases h with
  |cons h1 h2 =>
   cases i with
   |zero =>
    simp only[Â2,Ê4,É3] at e;subst e;exact⟨_,rfl,h1⟩
   |succ i =>
    obtain⟨v,k1,k2⟩:=b11 h2 i s (by simpa using e)
    exact⟨v,by simpa using k1,k2⟩
end
section
variable {lm:Bool}{X:Cx}{G:Gs}{E:XK}{N:List Str}{sc:ø}
theorem k42(x:XI lm X G E N sc)(hlm:lm=true){capt:List Nat}{a:Ex}{body:Ò}{lsc:ø}{p lpos pos:Pos}(hg:glob sc "_law_refused"=true)(hc:(b50 N capt).length=capt.length)(hs:U91 lsc sc (b50 N capt)=true)(hL:isL a=false)
  (ih:∀ (k:Nat) {X:Cx}{E:XK},XI false X (lowG G k) E ((b50 N capt).map (·.1)) lsc->Good X (lowG G k) E a [body]):b00 X G E (.refd capt a) (.Call (.Name "_law_refused" p) [.Lambda ⟨[],[],none,[],[],none,[]⟩ body lsc lpos] [] pos):=by
 obtain⟨c,P,q,k,fR,fdR,L⟩:=x.lam hlm;obtain⟨k1,k2,k3⟩:=c90 hg;unfold U91 at hs;simp only[Á,ú,beq_iff_eq,Ä7,decide_eq_true_eq] at hs;obtain⟨⟨⟨⟨⟨⟨s1,s2⟩,s3⟩,s4⟩,s5⟩,s6⟩,s7⟩:=hs;refine a90 (λpins s σ H Q I qq=>?_) rfl;obtain⟨zA,ρ,z,rr,rel,st,e,po⟩:=qq;have e0:f82 (F21 ρ capt) (λρ'=>ev (z10 G.F) a ρ') z=some rr:=e;unfold f82 at e0;split at e0
 ·cases e0
 ·rename_i ss hss;split at e0
  ·rename_i cc z1 he;split at e0
   ·rename_i hc12;cases e0;obtain⟨vs,ra,hvl,hvs⟩:=P90 rel hss hc;have tab:=st.tab _ L.tb;have hfree:∀ y∈(b50 N capt).map (·.1),lsc.names.lookup y=some .free:=λy hy=>by
     obtain⟨pr,h1,rfl⟩:=Þ.mp hy;exact s6 pr h1
    refine T70 (RR:=λH2 H'=>Ext zA H2 H'/\d80 zA z1 H') (cls:=.ref (G.cls cc)) (N:=(b50 N capt).map (·.1)) (k:=k) (P:=P) (qual:=q) L.fn (by rw[← L.lv];exact x.room) (x.glb _ k1) L.m L.kp L.bd L.code L.hd L.qual L.bm (λy hy hf=>?_) (λy hy=>by simpa using s4 y hy) hfree s1 s2 s3 rfl (λ_ _ _ _=>rfl) k2 rfl pins s σ H Q I ?_
    ·have:=s5 y hy;rw[hf] at this;unfold Env.kindOf;rw[L.sco];simpa using this
    ·refine⟨tab,vs,by rw[Ì];exact hvl,λi y v h1 h2=>by rw[x.hN];exact hvs i y v h1 h2,λH2 KB TB2=>?_⟩
     have x2:Ext zA H H2:=H11 KB tab TB2;have st2:d80 zA z H2:=W21 KB tab TB2 L.uq st;refine⟨λf c' cl A outer s3 H3 hr sm=>?_,λs2 f th=>?_⟩
     ·have XL:XI false (N30 X.prog X.w X.K X.mg X.base ((b50 N capt).map (·.1)) q lsc f (.ref c') cl A outer s3 H3 λc _ H'=>c=.ref (G.cls cc)/\Ext zA H2 H'/\d80 zA z1 H') (lowG G k) (λc _ H'=>c=.ref (G.cls cc)/\Ext zA H2 H'/\d80 zA z1 H') ((b50 N capt).map (·.1)) lsc :=
       { gok:=L.low,num:=x.num,blt:=x.blt,hN:=rfl,nd:=s7,vis:=λy hy=>.inr (.inr (hfree y hy)),glb:=λy h=>h,cel:=λy h=>h,calm:=rfl,room:=hr,pas:=R61,lam:=λh=>nomatch h }
      refine⟨_,(b10 hL (ih k XL)).pe,?_⟩;refine⟨zA,ss.map some,z,_,b11 (RvA.mono ra (x2.trans (Ext.of sm))),st2.same sm,he,λea H' xx stt hn=>?_⟩;exact⟨rfl,(Ext.of sm).trans xx,stt⟩
     ·refine⟨f,G.cls cc,cc,_,rfl,th,L.cls cc hc12,λl H1 H' hRR sm hl=>?_⟩;obtain⟨x1,st1⟩:=hRR;obtain⟨s',e',po⟩:=po;cases e';have xx:Ext zA H H':=(x2.trans x1).trans (Ext.of sm);have stt:=st1.same sm;exact po _ _ (xx.trans (Ext.of (a30.new _ hl))) (stt.same (a30.new _ hl)) ((k70 stt (HdA.cons Hd.int HdA.nil) hl).from xx)
   ·cases e0
  ·cases e0
end
theorem i00{env:È5}{k0:Ê9}(hk:k0≠.free):∀ {names:List (Str × Ê9)}{x:Str},names.lookup x=some k0 ->
  (names.map λ(n,k)=>if (k == ó&&env.scope.kind == .function&&env.kindOf n == some .cell) then(n,Æ4) else(n,k)).lookup x=some k0
 |[],_,h=>by simp at h
 |(n,k)::r,x,h=>by
  have ih:=@i00 env k0 hk r x;show Ì7 x ((if (k == ó&&env.scope.kind == .function&&env.kindOf n == some .cell)=true then(n,Æ4) else(n,k))::_)=_;cases hx:x == n with
  |true =>
   simp only[À9,hx] at h;cases h;have:(k0 == ó)=false:=by simpa using hk
   rw[this,Õ2,Õ2,if_neg Ñ];simp only[À9,hx]
  |false =>
   simp only[À9,hx] at h;by_cases hq:(k == ó&&env.scope.kind == .function&&env.kindOf n == some .cell)=true
   ·rw[if_pos hq];simp only[À9,hx];exact ih h
   ·rw[if_neg hq];simp only[À9,hx];exact ih h
section
variable {lm:Bool}{X:Cx}{G:Gs}{E:XK}{N:List Str}{sc csc:ø}{on:List Str}{cs:List (Str × Nat)}
structure a62(csc sc:Scope)(N on:List Str)(cs:List (Str × Nat)):Prop where
 kind:csc.kind=.function
 nocell:∀ y∈csc.names,y.2≠.cell
 locs:∀ y∈csc.names,y.2=.local->csc.names.lookup y.1=some .local
 frees:∀ y∈csc.names,y.2=.free->(sc.names.lookup y.1=some .cell∨sc.names.lookup y.1=some .free)
 captd:∀ p∈cs,N[p.2]?=some p.1/\csc.names.lookup p.1=some .free
 own:∀ x∈on,csc.names.lookup x=some .local
 nd:(on++cs.map (·.1)).Nodup
theorem k52(h:O80 csc sc N on cs=true):a62 csc sc N on cs:=by
 unfold O80 at h;simp only[Á] at h;obtain⟨⟨⟨⟨⟨⟨h1,h2⟩,h3⟩,h4⟩,h5⟩,h6⟩,h7⟩:=h;rw[Ä7] at h2 h3 h4 h5 h6;refine⟨by simpa using h1,λy hy=>by simpa using h2 y hy,λy hy hl=>?_,λy hy hf=>?_,λp hp=>by simpa using h5 p hp,λx hx=>by simpa using h6 x hx,of_decide_eq_true h7⟩
 ·have:=h3 y hy;rw[hl] at this;simpa using this
 ·have:=h4 y hy;rw[hf] at this;simpa using this
theorem t41(x:XI lm X G E N sc)(c:a62 csc sc N on cs):q60 X csc on cs:=⟨c.kind,c.nocell,c.locs,λy hy hf=>x.cel _ (c.frees y hy hf),λp hp=>by rw[x.hN];exact c.captd p hp⟩
theorem I90(x:XI lm X G E N sc)(c:a62 csc sc N on cs)(cl:List (Str × Ç))(C:Ç)(s:Æ)(H:Hp)(fp:List Ç):XI false (c40 X (d60 on cs) csc cl C s H fp) G EF (on++cs.map (·.1)) csc where
 gok:=x.gok
 num:=x.num
 blt:=x.blt
 hN:=rfl
 nd:=c.nd
 vis:=λy hy=>by
  rcases Ã1.mp hy with h | h
  ·exact .inl (i00 (-0) (c.own y h))
  ·obtain⟨p,hp,rfl⟩:=Þ.mp h;rcases n60 (env:=X.env) (c.captd p hp).2 with h | h
   ·exact .inr (.inl h)
   ·exact .inr (.inr h)
 glb:=λy hy=>i00 (-0) hy
 cel:=λy hy=>by
  rcases hy with h | h
  ·exact .inl (i00 (-0) h)
  ·exact n60 (env:=X.env) h
 calm:=x.calm
 room:=x.room
 pas:=f12
 lam:=λh=>nomatch h
theorem J00(x:XI lm X G E N sc)(c:a62 csc sc N on cs)(cl:List (Str × Ç))(C:Ç)(s:Æ)(H:Hp)(fp:List Ç):G81 (c40 X (d60 on cs) csc cl C s H fp) (on++cs.map (·.1)) (λy=>on.contains y) where
 hN:=rfl
 nd:=c.nd
 lc:=λy hy=>.inl (i00 (-0) (c.own y (by simpa using hy)))
 fn:=λy hy=>.inr (i00 (-0) (c.own y (by simpa using hy)))
 calm:=x.calm
theorem b21:∀ {capt:List Nat},(b50 N capt).length=capt.length->(b50 N capt).map (·.2)=capt
 |[],_=>rfl
 |i::r,h=>by
  have le:∀ l:List Nat,(b50 N l).length<=l.length:=by
   intro l
   induction l with
   |nil=>exact Ë _
   |cons j q ih =>
    unfold b50;split
    ·rw[à,à];omega
    ·rw[à];omega
  unfold b50 at h ⊢;split at h
  ·rename_i y hy;rw[à,à] at h;rw[Â2,b21 ∅]
  ·have:=le r;rw[à] at h;omega
theorem H21(rel:u90 X.K zA H ρ σ)(h:cs.map (·.2)=capt):u90 X.K zA H (î on.length none++capt.map λi=>(ρ[i]?).getD none) (o80 on cs σ) /\
  (î on.length (none:Option S)++capt.map λi=>(ρ[i]?).getD none).length=(o80 on cs σ).length:=by
 subst h;constructor
 ·intro j s e;unfold o80;by_cases hj:j < on.length
  ·rw[Ð0 (by simpa using hj)] at e
   simp[Ò2,hj] at e
  ·rw[Æ0 (by simpa using hj),ß2,Ö,Ö] at e
   rw[Æ0 (by simpa using hj),Ì,Ö]
   cases hp:cs[j - on.length]? with
   |none=>rw[hp] at e;simp at e
   |some p =>
    rw[hp] at e;simp only[map_some,É3] at e;have e2:ρ[p.2]?=some (some s):=by
     cases hr:ρ[p.2]? with
     |none=>rw[hr] at e;cases e
     |some o=>rw[hr] at e;exact congrArg some e
    obtain⟨v,h1,h2⟩:=rel p.2 s e2;exact⟨v,by simp[h1],h2⟩
 ·unfold o80;simp
theorem t51(h:w10 e=true)(env:È5)(x:Ä):Ì2 e env x=pure x:=by
 cases e with
 |Set _ _ _=>cases h
 |_=>rfl
def D20(X:Cx)(G:Gs)(E:XK)(x:Ex)(elt tg iter:Ò)(ifs:List Ò)(csc:ø):Prop:=∃ (own:List Str) (capt:List (Str × Nat)) (wi:TI) (g:TG) (tt:TT) (te:TE),q60 X csc own capt/\PI X tg iter wi /\
 (∀ cl C s H fp,PG (c40 X (d60 own capt) csc cl C s H fp) tg g)/\(∀ cl C s H fp,PTs (c40 X (d60 own capt) csc cl C s H fp) ifs tt)/\(∀ cl C s H fp,PE (c40 X (d60 own capt) csc cl C s H fp) elt te) /\
 (∀ x,Ì2 iter X.env x=pure x)/\∀ σ H Q,tI X.K G E x σ H Q->Q21 own capt wi g tt te σ H Q
theorem x62(x:XI lm X G E N sc){p:Pat}{it:It}{src cond el:Ex}{capt:List Nat}{elt tg iter:Ò}{ifs:List Ò}(c:a62 csc sc N on cs)(hcap:cs.map (·.2)=capt)(hp:h70 (on++cs.map (·.1)) (λy=>on.contains y) p tg=true)
  (hi:PI X tg iter (tIt X.K G E it src)) (hns:w10 iter=true) (hc:(cond=.nil/\ifs=[])∨∃ q f,cond=.cons q .nil/\ifs=[f]/\∀ cl C s H fp,PT (c40 X (d60 on cs) csc cl C s H fp) f (tT X.K G EF q))
  (he:∀ cl C s H fp,PE (c40 X (d60 on cs) csc cl C s H fp) elt (tI X.K G EF el)):D20 X G E (.comp on.length capt p it src cond el) elt tg iter ifs csc:=by
 have ht:∀ cl C s H fp,PTs (c40 X (d60 on cs) csc cl C s H fp) ifs (ttC X.K G cond):=by
  rcases hc with ⟨rfl,rfl⟩ | ⟨q,f,rfl,rfl,h⟩
  ·exact λcl C s H fp=>l81
  ·exact λcl C s H fp=>l91 (h cl C s H fp)
 refine⟨on,cs,tIt X.K G E it src,gP X.K p,ttC X.K G cond,tI X.K G EF el,t41 x c,hi,λcl C s H fp=>h61 (J00 x c cl C s H fp) hp,ht,he,t51 hns X.env,λσ H Q q=>?_⟩;obtain⟨zA,ρ,z,rr,rel,st,e,po⟩:=q;have e0:M.bind (ev G.F src ρ) (λl=>M.bind (M.of ((plA l).bind (itD it))) λxs=>if xs.length<=most then M.bind (M.calm (turns (o40 (ev G.F cond) (ev G.F el) p (î on.length none++capt.map λi=>(ρ[i]?).getD none)) xs)) λys=>M.ret [.fr ys] else M.no) z=some rr:=e;rcases M.bind_some e0 with ⟨m,z1,e1,e2⟩ | ⟨k,z1,e1,e2⟩
 ·obtain⟨xs,hx,e3⟩:=M.a40 e2;refine⟨zA,ρ,z,_,rel,st,e1,xs,hx,λJ H1 x1 st1 IT'=>?_⟩;have IT:=IT'.ok;split at e3
  ·rename_i hm;rcases M.bind_some e3 with ⟨ys,z2,e4,e5⟩ | ⟨k,z2,e4,e5⟩
   ·cases e5;have e6:turns (o40 (ev G.F cond) (ev G.F el) p (î on.length none++capt.map λi=>(ρ[i]?).getD none)) xs z1=some (.ok ys z2):=by
     unfold M.calm at e4;split at e4
     ·rename_i h;cases e4;exact h
     ·cases e4
    obtain⟨r1,r2⟩:=H21 (on:=on) (rel.mono x1) hcap;refine W11 IT hm r1 r2 st1 (by rcases hc with ⟨h,_⟩ | ⟨q,_,h,_⟩;exact .inl h;exact .inr ⟨q,h⟩) e6 λH2 vs l x2 st2 hd hl=>?_
    exact e00 po (x1.trans x2) st2 _ _ (a30.new _ hl) (k70 st2 hd hl)
   ·unfold M.calm at e4;split at e4 <;> cases e4
  ·cases e3
 ·exact⟨zA,ρ,z,_,rel,st,e1,(f00 po) k z1 e2⟩
theorem D20.good{x:Ex}{elt tg iter:Ò}{ifs:List Ò}{csc:ø}{pos:Pos}(hc:X.calm=true)(h:D20 X G E x elt tg iter ifs csc):b00 X G E x (.ListComp elt [⟨tg,iter,ifs,0⟩] csc pos):=by
 obtain⟨own,capt,wi,g,tt,te,h1,h2,h3,h4,h5,h6,h7⟩:=h;exact a90 (PE.imp (T20 hc h1 h2 h3 h4 h5 h6) h7) rfl
theorem b90(h:(!isL x)=true):isL x=false:=by simpa using h
theorem t61(hL:isL x=true)(g:Good X G E x [e]):∃ a,x=.cons a .nil/\b00 X G E a e:=by
 cases x with
 |nil=>cases (show [e]=[] from g)
 |cons a r =>
  obtain⟨e',es,h,ns,ga,lr,gr⟩:=g;cases h;cases r with
  |nil=>exact⟨a,rfl,ga⟩|cons b q=>obtain⟨e,es,h,_⟩:=gr;cases h
  |_=>cases lr
 |_=>cases hL
theorem Q00{lm:Bool}{G:Gs}{own:Nat}{capt:List Nat}{p:Pat}{it:It}{src cond el:Ex}(ihs:(∀ {X:Cx}{E:XK}{N:List Str}{sc:ø},XI lm X G E N sc->∀ {es:List Ò},mt lm G.fns G.nums src sc N es=true->Good X G E src es))(ihc:(∀ {X:Cx}{E:XK}{N:List Str}{sc:ø},XI false X G E N sc->∀ {es:List Ò},mt false G.fns G.nums cond sc N es=true->Good X G E cond es))(ihe:(∀ {X:Cx}{E:XK}{N:List Str}{sc:ø},XI false X G E N sc->∀ {es:List Ò},mt false G.fns G.nums el sc N es=true->Good X G E el es))
  {X:Cx}{E:XK}{N:List Str}{sc:ø} (x:XI lm X G E N sc) {elt tg iter:Ò}{ifs:List Ò}{csc:ø} (h:(d30 tg).length == own&&(b50 N capt).length == capt.length&&O80 csc sc N (d30 tg) (b50 N capt)&&h70 (d30 tg++(b50 N capt).map (·.1)) (λx=>(d30 tg).contains x) p tg&&isL src&&!isL el&&isL cond&&ifs.length<=1&&noStar elt&&w10 iter&&ifs.all (λc=>!ifB c) &&
    (match it with
    |.seq=>mt lm G.fns G.nums src sc N [iter]|.rng1=>opt (a42 iter) λr=>r.1.1 == ("range":Str)&&glob sc r.1.1&&mt lm G.fns G.nums src sc N [r.1.2.2.1]|.rng2=>opt (a52 iter) λr=>r.1.1 == ("range":Str)&&glob sc r.1.1&&mt lm G.fns G.nums src sc N [r.1.2.2.1,r.1.2.2.2.1]|.zip=>opt (a52 iter) λr=>r.1.1 == ("zip":Str)&&glob sc r.1.1&&k90 tg&&mt lm G.fns G.nums src sc N [r.1.2.2.1,r.1.2.2.2.1]|.enum=>opt (a42 iter) λr=>r.1.1 == ("enumerate":Str)&&glob sc r.1.1&&k90 tg&&mt lm G.fns G.nums src sc N [r.1.2.2.1]
    )&&mt false G.fns G.nums cond csc (d30 tg++(b50 N capt).map (·.1)) ifs&&mt false G.fns G.nums el csc (d30 tg++(b50 N capt).map (·.1)) [elt]):D20 X G E (.comp own capt p it src cond el) elt tg iter ifs csc:=by
 simp only[Á,beq_iff_eq,decide_eq_true_eq] at h;obtain⟨⟨⟨⟨⟨⟨⟨⟨⟨⟨⟨⟨⟨h1,h2⟩,h3⟩,h4⟩,h5⟩,h6⟩,h7⟩,h8⟩,h9⟩,h10⟩,h11⟩,h12⟩,h13⟩,h14⟩:=h;subst h1;have c:=k52 h3;have hi:PI X tg iter (tIt X.K G E it src):=by
  cases it with
  |seq =>
   obtain⟨a,rfl,ga⟩:=t61 h5 (ihs x h12);exact M91 ga
  |rng1 =>
   obtain⟨⟨⟨n,_,a,_⟩,rfl⟩,-,h12⟩:=a50 h12;simp only[Á,beq_iff_eq] at h12;exact s81 x h12.1.1 h12.1.2 h5 (ihs x h12.2)
  |rng2 =>
   obtain⟨⟨⟨n,_,a,b,_⟩,rfl⟩,-,h12⟩:=a50 h12;simp only[Á,beq_iff_eq] at h12;exact s91 x h12.1.1 h12.1.2 h5 (ihs x h12.2)
  |zip =>
   obtain⟨⟨⟨n,_,a,b,_⟩,rfl⟩,-,h12⟩:=a50 h12;simp only[Á,beq_iff_eq] at h12;exact t21 x h12.1.2 h12.1.1.1 h12.1.1.2 h5 (ihs x h12.2)
  |enum =>
   obtain⟨⟨⟨n,_,a,_⟩,rfl⟩,-,h12⟩:=a50 h12;simp only[Á,beq_iff_eq] at h12;exact I80 x h12.1.2 h12.1.1.1 h12.1.1.2 h5 (ihs x h12.2)
 have hc:(cond=.nil/\ifs=[])∨∃ q f,cond=.cons q .nil/\ifs=[f]/\∀ cl C s H fp,PT (c40 X (d60 (d30 tg) (b50 N capt)) csc cl C s H fp) f (tT X.K G EF q):=by
  match ifs,h8,h11,h13 with
  |[],_,_,h13 =>
   cases cond with
   |nil=>exact .inl ⟨rfl,rfl⟩|cons a r=>cases h13
   |_=>cases h7
  |[f],_,h11,h13 =>
   cases cond with
   |nil=>cases h13
   |cons a r =>
    have h13':(noStar f&&!isL a&&isL r&&mt false G.fns G.nums a csc (d30 tg++(b50 N capt).map (·.1)) [f]&&mt false G.fns G.nums r csc (d30 tg++(b50 N capt).map (·.1)) [])=true:=h13;simp only[Á] at h13';have rn:r=.nil:=by
     cases r with
     |nil=>rfl|cons b q=>cases h13'.2
     |_=>cases h13'.1.1.2
    subst rn;simp only[Ä8,all_nil,Ð8] at h11;refine .inr ⟨a,f,rfl,rfl,λcl C s H fp=>?_⟩;obtain⟨e',es,he,ns,ga,lr,gr⟩:=ihc (I90 x c cl C s H fp) h13;cases he;exact ga.pt (V01 h11)
   |_=>cases h7
 refine x62 x c (b21 h2) h4 hi h10 hc λcl C s H fp=>?_;exact(b10 (b90 h6) (ihe (I90 x c cl C s H fp) h14)).pe
theorem k62:∀ (t:Ex) {lm:Bool}{G:Gs}{X:Cx}{E:XK}{N:List Str}{sc:ø},XI lm X G E N sc->∀ {es:List Ò},mt lm G.fns G.nums t sc N es=true->Good X G E t es:=by
 intro t
 induction t with
 |nil =>
  intro lm G X E N sc x es h;exact Ì1.mp h
 |cons a r iha ihr =>
  intro lm G X E N sc x es h;cases es with
  |nil=>cases h
  |cons e es =>
   have h:(noStar e&&!isL a&&isL r&&mt lm G.fns G.nums a sc N [e]&&mt lm G.fns G.nums r sc N es)=true:=h;simp only[Á] at h;obtain⟨⟨⟨⟨h1,h2⟩,h3⟩,h4⟩,h5⟩:=h;exact⟨e,es,rfl,h1,b10 (b90 h2) (iha x h4),h3,ihr x h5⟩
 |var i =>
  intro lm G X E N sc x es h;obtain⟨⟨q,rfl⟩,-,h⟩:=a50 h;simp only[Á,beq_iff_eq] at h;exact b80 rfl (v72 x h.1 h.2)
 |con d =>
  intro lm G X E N sc x es h;rcases (Ä0 _ _).mp h with h | h
  ·obtain⟨⟨q,rfl⟩,-,h⟩:=a50 h;exact b80 rfl (v82 h)
  ·obtain⟨⟨p,rfl⟩,-,h⟩:=a50 h;cases d with
   |dct=>exact b80 rfl v92|_=>cases h
 |gint g i =>
  intro lm G X E N sc x es h;obtain⟨⟨⟨n,p⟩,rfl⟩,-,h⟩:=a50 h;simp only[Á,beq_iff_eq,Ì6] at h;obtain⟨⟨rfl,h2⟩,h3⟩:=h;exact b80 rfl (i22 x h2 h3)
 |tup as ih =>
  intro lm G X E N sc x es h;obtain⟨⟨q,rfl⟩,-,h⟩:=a50 h;simp only[Á] at h;exact b80 rfl (w02 h.1 (ih x h.2))
 |lst as ih =>
  intro lm G X E N sc x es h;obtain⟨⟨q,rfl⟩,-,h⟩:=a50 h;simp only[Á] at h;exact b80 rfl (w12 h.1 (ih x h.2))
 |bin o a b iha ihb =>
  intro lm G X E N sc x es h;obtain⟨⟨⟨l,op,r,p⟩,rfl⟩,-,h⟩:=a50 h;simp only[Á,beq_iff_eq] at h;obtain⟨⟨⟨⟨rfl,h2⟩,h3⟩,h4⟩,h5⟩:=h;exact b80 rfl (w22 (b10 (b90 h2) (iha x h4)) (b10 (b90 h3) (ihb x h5)))
 |cmp o a b iha ihb =>
  intro lm G X E N sc x es h;obtain⟨⟨⟨l,op,r,p⟩,rfl⟩,-,h⟩:=a50 h;simp only[Á,beq_iff_eq] at h;obtain⟨⟨⟨⟨⟨rfl,h1⟩,h2⟩,h3⟩,h4⟩,h5⟩:=h;exact b80 rfl (w32 x h1 (b10 (b90 h2) (iha x h4)) (b10 (b90 h3) (ihb x h5)))
 |neg a ih =>
  intro lm G X E N sc x es h;obtain⟨⟨q,rfl⟩,-,h⟩:=a50 h;simp only[Á] at h;exact b80 rfl (w42 (b10 (b90 h.1) (ih x h.2)))
 |not a ih =>
  intro lm G X E N sc x es h;obtain⟨⟨q,rfl⟩,-,h⟩:=a50 h;simp only[Á] at h;obtain⟨⟨h1,h2⟩,h3⟩:=h;exact b80 rfl (w52 (b10 (b90 h1) (ih x h3)) (V01 h2))
 |and a b iha ihb =>
  intro lm G X E N sc x es h;obtain⟨⟨⟨l,r,vs,p⟩,rfl⟩,-,h⟩:=a50 h;simp only[Á] at h;obtain⟨⟨⟨⟨h1,h2⟩,h3⟩,h4⟩,h5⟩:=h;refine b80 rfl (w62 (b10 (b90 h1) (iha x h4)) (V01 h3) ?_);cases vs with
  |nil =>
   rw[if_pos (show([]:List Ò).isEmpty=true from rfl),Á] at h5;exact i32 (b10 (b90 h2) (ihb x h5.2)) (V01 h5.1)
  |cons v vs =>
   rw[if_neg (by exact Ñ)] at h5
   exact b10 (b90 h2) (ihb x h5)
 |or a b iha ihb =>
  intro lm G X E N sc x es h;obtain⟨⟨⟨l,r,vs,p⟩,rfl⟩,-,h⟩:=a50 h;simp only[Á] at h;obtain⟨⟨⟨⟨h1,h2⟩,h3⟩,h4⟩,h5⟩:=h;refine b80 rfl (H52 (b10 (b90 h1) (iha x h4)) (V01 h3) ?_);cases vs with
  |nil =>
   rw[if_pos (show([]:List Ò).isEmpty=true from rfl),Á] at h5;exact i32 (b10 (b90 h2) (ihb x h5.2)) (V01 h5.1)
  |cons v vs =>
   rw[if_neg (by exact Ñ)] at h5
   exact b10 (b90 h2) (ihb x h5)
 |orT a b iha ihb =>
  intro lm G X E N sc x es h;obtain⟨⟨⟨l,r,vs,p⟩,rfl⟩,-,h⟩:=a50 h;simp only[Á] at h;obtain⟨⟨⟨⟨h1,h2⟩,h3⟩,h4⟩,h5⟩:=h;cases vs with
  |nil=>exact b80 rfl (w72 (b10 (b90 h1) (iha x h4)) (b10 (b90 h2) (ihb x h5)))|cons v vs=>cases h3
 |ite c a b ihc iha ihb =>
  intro lm G X E N sc x es h;obtain⟨⟨q,rfl⟩,-,h⟩:=a50 h;simp only[Á] at h;obtain⟨⟨⟨⟨⟨⟨h1,h2⟩,h3⟩,h4⟩,h5⟩,h6⟩,h7⟩:=h;exact b80 rfl (w82 (b10 (b90 h1) (ihc x h5)) (V01 h4) (b10 (b90 h2) (iha x h6)) (b10 (b90 h3) (ihb x h7)))
 |ch o o' a b c iha ihb ihc =>
  intro lm G X E N sc x es h;obtain⟨⟨⟨l,op,op',r,s,p⟩,rfl⟩,-,h⟩:=a50 h;simp only[Á,beq_iff_eq] at h;obtain⟨⟨⟨⟨⟨⟨⟨⟨rfl,rfl⟩,h1⟩,h2⟩,h3⟩,h4⟩,h5⟩,h6⟩,h7⟩:=h;exact b80 rfl (H62 x h1 (b10 (b90 h2) (iha x h5)) (b10 (b90 h3) (ihb x h6)) (b10 (b90 h4) (ihc x h7)))
 |bf f as ih =>
  intro lm G X E N sc x es h;rcases (Ä0 _ _).mp h with h | h
  rotate_left
  ·rw[Á] at h;obtain⟨hf,h⟩:=h;obtain⟨⟨⟨n,p1,m,p2,e,p3,p4⟩,rfl⟩,-,h⟩:=a50 h;simp only[Á,beq_iff_eq] at h;obtain⟨⟨⟨⟨⟨h1,h2⟩,h3⟩,h4⟩,h5⟩,h6⟩:=h;have h1:n="sorted":=h1;have h2:m="set":=h2;subst h1;subst h2;cases f with
   |sset=>exact b80 rfl (V81 x h3 h4 h5 (ih x h6))|_=>cases hf
  obtain⟨⟨q,rfl⟩,-,h⟩:=a50 h;simp only[Á,beq_iff_eq] at h;obtain⟨⟨⟨⟨h1,h2⟩,h3⟩,h4⟩,h5⟩:=h;exact b80 rfl (H72 x h1 h2 h3 h4 (ih x h5))
 |isi t a ih =>
  intro lm G X E N sc x es h;obtain⟨⟨⟨n,q,e,ty,p⟩,rfl⟩,-,h⟩:=a50 h;simp only[Á,beq_iff_eq] at h;obtain⟨⟨⟨⟨⟨h1,h2⟩,h3⟩,h4⟩,h5⟩,h6⟩:=h;have g:=b10 (b90 h4) (ih x h5);refine b80 rfl ?_;have one:∀ t:Ty,t≠.seq->(opt (shN ty) λq=>q.1.1 == Á0 (tyN t)&&glob sc (Á0 (tyN t)))=true->b00 X G E (.isi t a) (.Call (.Name n q) [e,ty] [] p):=λt hs h6=>by
   obtain⟨⟨⟨a,_⟩,rfl⟩,-,h6⟩:=a50 h6;simp only[Á,beq_iff_eq] at h6;obtain⟨rfl,k1⟩:=h6;exact j12 x hs k1 h1 h2 h3 g
  cases t with
  |seq =>
   obtain⟨⟨⟨a,_,b,_,_,_⟩,rfl⟩,-,h6⟩:=a50 h6;simp only[Á,beq_iff_eq] at h6;obtain⟨⟨⟨rfl,rfl⟩,k1⟩,k2⟩:=h6;exact j22 x k1 k2 h1 h2 h3 g
  |_=>exact one _ (λh=>by cases h) h6
 |idx a i iha ihi =>
  intro lm G X E N sc x es h;obtain⟨⟨q,rfl⟩,-,h⟩:=a50 h;simp only[Á] at h;obtain⟨⟨⟨⟨h1,h2⟩,h3⟩,h4⟩,h5⟩:=h;exact b80 rfl (x02 h1 (b10 (b90 h2) (iha x h4)) (b10 (b90 h3) (ihi x h5)))
 |sl a lo hi iha ihl ihh =>
  intro lm G X E N sc x es h;obtain⟨⟨q,rfl⟩,-,h⟩:=a50 h;simp only[Á] at h;obtain⟨⟨⟨⟨⟨h1,h2⟩,h3⟩,h4⟩,h5⟩,h6⟩:=h;exact b80 rfl (H82 (b10 (b90 h1) (iha x h4)) h2 h3 (ihl x h5) (ihh x h6))
 |rev a ih =>
  intro lm G X E N sc x es h;obtain⟨⟨q,rfl⟩,-,h⟩:=a50 h;simp only[Á] at h;exact b80 rfl (x42 (b10 (b90 h.1) (ih x h.2)))
 |call f as ih =>
  intro lm G X E N sc x es h;obtain⟨⟨⟨n,q,e,l,p⟩,rfl⟩,-,h⟩:=a50 h;simp only[Á] at h;obtain⟨⟨⟨h1,h2⟩,h3⟩,h4⟩:=h;obtain⟨pr,hf,h1'⟩:=a50 h1;simp only[Á,beq_iff_eq] at h1';obtain⟨rfl,h7⟩:=h1';exact b80 rfl (s_call x hf h7 h2 h3 (ih x h4))
 |comp own capt p it src cond el ihs ihc ihe =>
  intro lm G X E N sc x es h;obtain⟨⟨q,rfl⟩,-,h⟩:=a50 h;exact b80 rfl ((Q00 ihs ihc ihe x h).good x.calm)
 |lrng b as ih =>
  intro lm G X E N sc x es h;obtain⟨⟨⟨n,p,m,q,a,r,t⟩,rfl⟩,-,h⟩:=a50 h;simp only[Á,beq_iff_eq] at h;obtain⟨⟨⟨⟨⟨⟨h1,h2⟩,h3⟩,h4⟩,h5⟩,h7⟩,h6⟩:=h;subst h1;subst h2;cases a with
  |nil=>simp at h7|cons a l=>exact b80 rfl (j52 x h3 h4 h5 (ih x h6))
 |zget i k =>
  intro lm G X E N sc x es h;obtain⟨⟨⟨n,p,j,c,q,r⟩,rfl⟩,-,h⟩:=a50 h;simp only[Á,beq_iff_eq] at h;obtain⟨⟨h1,h2⟩,h3⟩:=h;have h3:j=(k:Int):=h3;subst h3;exact b80 rfl (j32 x h1 h2)
 |refd capt a ih =>
  intro lm G X E N sc x es h;obtain⟨⟨⟨n,p,body,lsc,lpos,pos⟩,rfl⟩,-,h⟩:=a50 h;simp only[Á,beq_iff_eq] at h;obtain⟨⟨⟨⟨⟨⟨h1,h2⟩,h3⟩,h4⟩,h5⟩,h6⟩,h7⟩:=h;have h2:n="_law_refused":=h2;subst h2;exact b80 rfl (k42 x h1 h3 h4 h5 (b90 h6) λk X E xl=>ih xl h7)
theorem sound(G:Gs)(t:Ex)(x:XI lm X G E N sc)(h:mt lm G.fns G.nums t sc N es=true):Good X G E t es:=k62 t x h
end
open Classical in
def hw(ow:Nat->Option Ç)(H:Hp):Hp:=λb=>if ∃ i,ow i=some b then none else H b
section
variable {K:Ã}{ow:Nat->Option Ç}{H H':Hp}
theorem j70:a30 (hw ow H) H:=λb o e=>by
 unfold hw at e;split at e
 ·cases e
 ·exact e
theorem i50(h:H b=some o)(n:∀ i,ow i≠some b):hw ow H b=some o:=by
 unfold hw;rw[if_neg (λ⟨i,e⟩=>n i e)];exact h
theorem z90(h:hw ow H b=some o):H b=some o/\∀ i,ow i≠some b:=by
 refine⟨j70 b o h,λi e=>?_⟩;unfold hw at h;rw[if_pos ⟨i,e⟩] at h;cases h
theorem f40(e:a30 H H'):a30 (hw ow H) (hw ow H'):=λb o h=>by
 obtain⟨h1,h2⟩:=z90 h;exact i50 (e b o h1) h2
theorem t40:hw (λ_=>none) H=H:=by
 funext b
 unfold hw;rw[if_neg (λ⟨i,e⟩=>by cases e)]
theorem t71(h:SqT K H a xs)(hl:∀ i b,ow i=some b->∃ ys,H b=some (.lst ys)):SqT K (hw ow H) a xs:=by
 rcases h with (h | ⟨o,h⟩) | h
 ·refine .inl (.inl (i50 h λi e=>?_));obtain⟨ys,q⟩:=hl i a e;rw[h] at q;cases q
 ·refine .inl (.inr ⟨o,i50 h λi e=>?_⟩);obtain⟨ys,q⟩:=hl i a e;rw[h] at q;cases q
 ·exact .inr h
mutual
theorem J10(hl:∀ i b,ow i=some b->∃ ys,H b=some (.lst ys)):∀ {d:D}{v:V},bare d=true->Hd K H d v->Hd K (hw ow H) d v
 |.non,_,_,h=>by rw[h.C22];exact Hd.non|.bl _,_,_,h=>by rw[h.bl_];exact Hd.bl|.int _,_,_,h=>by rw[h.j10];exact Hd.int|.str _,_,_,h=>by rw[h.C32];exact Hd.str
 |.tup l,_,b,h=>by
  obtain⟨a,xs,rfl,h1,h2⟩:=h.u70;exact Hd.tup (t71 h1 hl) (w50 hl (by simpa [bare] using b) h2)
 |.lst _,_,b,_=>by cases b
 |.dct,_,b,_=>by cases b
theorem w50(hl:∀ i b,ow i=some b->∃ ys,H b=some (.lst ys)):∀ {ds:List D}{vs:List V},r10 ds=true->HdA K H ds vs->HdA K (hw ow H) ds vs
 |[],_,_,h=>by rw[h.e40];exact .nil
 |d::ds,_,b,h=>by
  obtain⟨x,r,rfl,h1,h2⟩:=h.c00;simp only[r10,Á] at b;exact .cons (J10 hl b.1 h1) (w50 hl b.2 h2)
end
end
def RvW(K:Ã)(zA:Option Ç)(ow:Nat->Option Ç)(H:Hp)(i:Nat):S->V->Prop
 |.d x,v=>ow i=none/\Hd K (hw ow (hz zA H)) x v|.fr xs,v=>∃ a ys,ow i=some a/\v=.ref a/\H a=some (.lst ys)/\HdA K (hw ow (hz zA H)) xs ys|.z,v=>ow i=none/\∃ a,zA=some a/\v=.ref a
structure RW(K:PySem.W.Frag)(H0:Hp)(zE zA:Option Addr)(ow:Nat->Option Addr)(H:Hp)(ρ:Env)(σ:L2.St):Prop where
 len:ρ.length=σ.length
 inj:∀ i j a,ow i=some a->ow j=some a->i=j
 zne:∀ i a,ow i=some a->zA≠some a
 own:∀ i a,ow i=some a->∃ xs,ρ[i]?=some (some (.fr xs))
 wor:∀ i s,ρ[i]?=some (some s)->∃ v,σ[i]?=some (some v)/\RvW K zA ow H i s v
 ext:Ext zE H0 H
 zok:zA=zE∨(zE=none/\∀ a,zA=some a->H0 a=none)
 new:∀ i a,ow i=some a->H0 a=none
section
variable {K:Ã}{H0 H H':Hp}{zE zA:Option Ç}{ow:Nat->Option Ç}{ρ:Env}{σ:L2.St}
theorem RW.lst(r:RW K H0 zE zA ow H ρ σ):∀ i a,ow i=some a->∃ ys,H a=some (.lst ys):=λi a e=>by
 obtain⟨xs,h⟩:=r.own i a e;obtain⟨v,h1,a',ys,h2,h3,h4,h5⟩:=r.wor i _ h;rw[e] at h2;cases h2;exact⟨ys,h4⟩
theorem RW.W31(r:RW K H0 zE zA ow H ρ σ):∀ i a,ow i=some a->∃ ys,hz zA H a=some (.lst ys):=λi a e=>by
 obtain⟨ys,h⟩:=r.lst i a e;exact⟨ys,c70 h (r.zne i a e)⟩
theorem RvW.pl{i:Nat}{s:S}{v:V}(h:RvW K zA ow H i s v)(hz':∀ a,ow i=some a->zA≠some a):RvP K zA H s v:=by
 cases s with
 |d x=>exact h.2.same j70|z=>exact h.2
 |fr xs =>
  obtain⟨a,ys,h1,rfl,h3,h4⟩:=h;exact Hd.lst (c70 h3 (hz' a h1)) (h4.same j70)
theorem RW.V70(r:RW K H0 zE zA ow H ρ σ):u90 K zA H ρ σ:=λi s e=>by
 obtain⟨v,h1,h2⟩:=r.wor i s e;exact⟨v,h1,h2.pl λa q=>r.zne i a q⟩
theorem RvW.mono{i:Nat}{s:S}{v:V}(h:RvW K zA ow H i s v)(hz':∀ a,ow i=some a->zA≠some a)(x:Ext zA H H'):RvW K zA ow H' i s v:=by
 cases s with
 |d y=>exact⟨h.1,h.2.same (f40 x)⟩|z=>exact h
 |fr xs =>
  obtain⟨a,ys,h1,rfl,h3,h4⟩:=h;exact⟨a,ys,h1,rfl,x.at h3 (hz' a h1),h4.same (f40 x)⟩
theorem N01(zA:Option Ç)(H:Hp):a30 (hz zA H) (hz none H):=λ_ _ h=>c70 (m70 h).1 (λq=>nomatch q) (k60 h)
theorem b31(e:Ext zE H0 H)(zok:zA=zE∨(zE=none/\∀ a,zA=some a->H0 a=none))(x:Ext zA H H'):Ext zE H0 H':=by
 rcases zok with rfl | ⟨rfl,hn⟩
 ·exact e.trans x
 ·refine⟨λb o h=>?_,λb ps h=>let ⟨qs,q⟩:=e.tbl b ps h;x.tbl b qs q⟩;have h1:=e.same b o h;refine c70 (x.at (m70 h1).1 (λq=>?_) (k60 h1)) (λq=>nomatch q) (k60 h1);have h0:=(m70 h).1;rw[hn b q] at h0;cases h0
theorem RW.mono(r:RW K H0 zE zA ow H ρ σ)(x:Ext zA H H'):RW K H0 zE zA ow H' ρ σ :=
 ⟨r.len,r.inj,r.zne,r.own,λi s e=>let ⟨v,h1,h2⟩:=r.wor i s e;⟨v,h1,h2.mono (λa q=>r.zne i a q) x⟩,b31 r.ext r.zok x,r.zok,r.new⟩
theorem RW.young(r:RW K H0 zE zA ow H ρ σ)(h:H a=none)(n:zA≠some a):H0 a=none/\zE≠some a:=by
 have hE:zE≠some a:=λq=>by
  rcases r.zok with rfl | ⟨rfl,_⟩
  ·exact n q
  ·cases q
 exact⟨r.ext.free h hE,hE⟩
theorem RW.out(r:RW K H0 zE zA ow H ρ σ){s:S}{v:V}(hs:s≠.z)(x:Ext zA H H')(h:RvS K zA H H' s v):RvS K zE H0 H' s v:=by
 have sm:a30 (hz zA H') (hz zE H'):=by
  rcases r.zok with rfl | ⟨rfl,_⟩
  ·exact a30.refl _
  ·exact N01 _ _
 cases s with
 |d y=>exact Hd.same sm h|z=>exact absurd rfl hs
 |fr xs =>
  obtain⟨a,ys,rfl,h1,h2,h3,h4⟩:=h;obtain⟨k1,k2⟩:=r.young h1 h2;exact⟨a,ys,rfl,k1,k2,h3,h4.same (y00 λb o _ q=>sm b o q)⟩
theorem RW.H92(r:RW K H0 zE zA ow H ρ σ){i:Nat}{s:S}(hs:s≠.z)(e:ρ[i]?=some (some s)):∃ v,σ[i]?=some (some v)/\RvS K zE H0 H s v:=by
 obtain⟨v,h1,h2⟩:=r.wor i s e;have sm:a30 (hz zA H) (hz zE H):=by
  rcases r.zok with rfl | ⟨rfl,_⟩
  ·exact a30.refl _
  ·exact N01 _ _
 refine⟨v,h1,?_⟩;cases s with
 |d y=>exact Hd.same (a30.trans j70 sm) h2.2|z=>exact absurd rfl hs
 |fr xs =>
  obtain⟨a,ys,k1,rfl,k3,k4⟩:=h2;have n:=r.zne i a k1;have hE:zE≠some a:=λq=>by
   rcases r.zok with rfl | ⟨rfl,_⟩
   ·exact n q
   ·cases q
  refine⟨a,ys,rfl,r.new i a k1,hE,k3,k4.same λb o q=>?_⟩;obtain⟨q1,q2⟩:=z90 q;exact l50 (sm b o q1) λz=>q2 i (by rw[z];exact k1)
theorem RW.U00(r:RW K H0 zE zA ow H ρ σ):RW K H0 zE zA (λ_=>none) H (U00 ρ) σ:=by
 refine⟨by unfold Q.U00;rw[Ì];exact r.len,λi j a h=>(by cases h),λi a h=>(by cases h),λi a h=>(by cases h),λi s e=>?_,r.ext,r.zok,λi a h=>(by cases h)⟩
 unfold Q.U00 at e;rw[Ö] at e;obtain⟨o,e1,e2⟩:=Í.mp e;cases o with
 |none=>cases e2
 |some s0 =>
  cases e2;obtain⟨v,h1,h2⟩:=r.V70 i s0 e1;refine⟨v,h1,?_⟩;cases s0 with
  |d y=>exact⟨rfl,by rw[t40];exact h2⟩|fr xs=>exact⟨rfl,by rw[t40];exact h2⟩|z=>exact⟨rfl,h2⟩
def ow0(ow:Nat->Option Ç)(i:Nat):Nat->Option Addr:=λj=>if j=i then none else ow j
def ow1(ow:Nat->Option Ç)(i:Nat)(a:Ç):Nat->Option Addr:=λj=>if j=i then some a else ow j
theorem RvW.move{ow':Nat->Option Ç}{j:Nat}{s:S}{v:V}(h:RvW K zA ow H j s v)(e:ow' j=ow j)(sm:a30 (hw ow (hz zA H)) (hw ow' (hz zA H')))(hk:∀ a,ow j=some a->H' a=H a):RvW K zA ow' H' j s v:=by
 cases s with
 |d y=>exact⟨by rw[e];exact h.1,h.2.same sm⟩|z=>exact⟨by rw[e];exact h.1,h.2⟩
 |fr xs =>
  obtain⟨a,ys,h1,rfl,h3,h4⟩:=h;exact⟨a,ys,by rw[e];exact h1,rfl,by rw[hk a h1];exact h3,h4.same sm⟩
theorem getElem?_set'{α:Type}{l:List α}{i j:Nat}{x y:α}(h:(l.set i x)[j]?=some y):(j=i/\y=x/\i < l.length)∨(j≠i/\l[j]?=some y):=by
 by_cases hj:j=i
 ·subst hj;have hlt:j < l.length:=by
   have:=(ä.mp h).1;simpa using this
  rw[ã hlt] at h;cases h;exact .inl ⟨rfl,rfl,hlt⟩
 ·rw[Ù (À8 hj)] at h;exact .inr ⟨hj,h⟩
theorem RW.I02(r:RW K H0 zE zA ow H ρ σ){i:Nat}(h:Hd K (hw ow (hz zA H)) x v):RW K H0 zE zA (ow0 ow i) H (ρ.set i (some (.d x))) (σ.set i (some v)):=by
 have sub:∀ j a,ow0 ow i j=some a->j≠i/\ow j=some a:=λj a e=>by
  unfold ow0 at e;split at e
  ·cases e
  ·rename_i n;exact⟨n,e⟩
 have sm:a30 (hw ow (hz zA H)) (hw (ow0 ow i) (hz zA H)):=λb o e=>by
  obtain⟨e1,e2⟩:=z90 e;exact i50 e1 λj q=>e2 j (sub j b q).2
 refine⟨by rw[Á3,Á3];exact r.len,λj k a h1 h2=>r.inj j k a (sub j a h1).2 (sub k a h2).2,λj a h1=>r.zne j a (sub j a h1).2,λj a h1=>?_,λj s e=>?_,r.ext,r.zok,λj a h1=>r.new j a (sub j a h1).2⟩
 ·obtain⟨n,h2⟩:=sub j a h1;obtain⟨xs,h3⟩:=r.own j a h2;exact⟨xs,by rw[Ù (À8 n)];exact h3⟩
 ·rcases getElem?_set' e with ⟨rfl,e1,hlt⟩ | ⟨n,e1⟩
  ·cases e1;exact⟨v,ã (by rw[← r.len];exact hlt),by unfold ow0;exact if_pos rfl,h.same sm⟩
  ·obtain⟨w,h1,h2⟩:=r.wor j s e1;exact⟨w,by rw[Ù (À8 n)];exact h1,h2.move (by unfold ow0;exact if_neg n) sm λ_ _=>rfl⟩
theorem RW.I12(r:RW K H0 zE zA ow H ρ σ){i:Nat}{t:S}{v:V}(h:RvW K zA (ow0 ow i) H i t v):RW K H0 zE zA (ow0 ow i) H (ρ.set i (some t)) (σ.set i (some v)):=by
 have sub:∀ j a,ow0 ow i j=some a->j≠i/\ow j=some a:=λj a e=>by
  unfold ow0 at e;split at e
  ·cases e
  ·rename_i n;exact⟨n,e⟩
 have sm:a30 (hw ow (hz zA H)) (hw (ow0 ow i) (hz zA H)):=λb o e=>by
  obtain⟨e1,e2⟩:=z90 e;exact i50 e1 λj q=>e2 j (sub j b q).2
 refine⟨by rw[Á3,Á3];exact r.len,λj k a h1 h2=>r.inj j k a (sub j a h1).2 (sub k a h2).2,λj a h1=>r.zne j a (sub j a h1).2,λj a h1=>?_,λj s e=>?_,r.ext,r.zok,λj a h1=>r.new j a (sub j a h1).2⟩
 ·obtain⟨n,h2⟩:=sub j a h1;obtain⟨xs,h3⟩:=r.own j a h2;exact⟨xs,by rw[Ù (À8 n)];exact h3⟩
 ·rcases getElem?_set' e with ⟨rfl,e1,hlt⟩ | ⟨n,e1⟩
  ·cases e1;exact⟨v,ã (by rw[← r.len];exact hlt),h⟩
  ·obtain⟨w,h1,h2⟩:=r.wor j s e1;exact⟨w,by rw[Ù (À8 n)];exact h1,h2.move (by unfold ow0;exact if_neg n) sm λ_ _=>rfl⟩
theorem RW.I22(r:RW K H0 zE zA ow H ρ σ){i:Nat}(x:Ext zA H H')(hn:H a=none)(za:zA≠some a)(hl:H' a=some (.lst ys))(h:HdA K (hw (ow1 ow i a) (hz zA H')) xs ys)(hi:i < ρ.length) :
  RW K H0 zE zA (ow1 ow i a) H' (ρ.set i (some (.fr xs))) (σ.set i (some (.ref a))):=by
 have r':=r.mono x;have old:∀ j b,ow j=some b->b≠a:=λj b e q=>by
  obtain⟨zs,h1⟩:=r.lst j b e;rw[q,hn] at h1;cases h1
 have sub:∀ j b,ow1 ow i a j=some b->(j=i/\b=a)∨(j≠i/\ow j=some b):=λj b e=>by
  unfold ow1 at e;split at e
  ·rename_i n;cases e;exact .inl ⟨n,rfl⟩
  ·rename_i n;exact .inr ⟨n,e⟩
 have sm:a30 (hw ow (hz zA H)) (hw (ow1 ow i a) (hz zA H')):=λb o e=>by
  obtain⟨e1,e2⟩:=z90 e;have e3:=(m70 e1).1;have hb:b≠a:=λq=>by rw[q,hn] at e3;cases e3
  refine i50 (x b o e1) λj q=>?_;rcases sub j b q with ⟨_,q⟩ | ⟨_,q⟩
  ·exact hb q
  ·exact e2 j q
 refine⟨by rw[Á3,Á3];exact r.len,λj k b h1 h2=>?_,λj b h1=>?_,λj b h1=>?_,λj s e=>?_,r'.ext,r.zok,λj b h1=>?_⟩
 ·rcases sub j b h1 with ⟨q1,q2⟩ | ⟨q1,q2⟩
  ·rcases sub k b h2 with ⟨p1,p2⟩ | ⟨p1,p2⟩
   ·rw[q1,p1]
   ·exact absurd q2 (old k b p2)
  ·rcases sub k b h2 with ⟨p1,p2⟩ | ⟨p1,p2⟩
   ·exact absurd p2 (old j b q2)
   ·exact r.inj j k b q2 p2
 ·rcases sub j b h1 with ⟨_,q2⟩ | ⟨_,q2⟩
  ·rw[q2];exact za
  ·exact r.zne j b q2
 ·rcases sub j b h1 with ⟨q1,q2⟩ | ⟨q1,q2⟩
  ·rw[q1];exact⟨xs,ã hi⟩
  ·obtain⟨zs,h3⟩:=r.own j b q2;exact⟨zs,by rw[Ù (À8 q1)];exact h3⟩
 ·rcases getElem?_set' e with ⟨rfl,e1,hlt⟩ | ⟨n,e1⟩
  ·cases e1;exact⟨.ref a,ã (by rw[← r.len];exact hlt),a,ys,by unfold ow1;exact if_pos rfl,rfl,hl,h⟩
  ·obtain⟨w,h1,h2⟩:=r.wor j s e1;refine⟨w,by rw[Ù (À8 n)];exact h1,h2.move (by unfold ow1;exact if_neg n) sm λb q=>?_⟩
   obtain⟨zs,k⟩:=r.lst j b q;rw[k];exact x.at k (r.zne j b q)
 ·rcases sub j b h1 with ⟨_,q2⟩ | ⟨_,q2⟩
  ·rw[q2];exact(r.young hn za).1
  ·exact r.new j b q2
theorem RW.upd(r:RW K H0 zE zA ow H ρ σ){i:Nat}(e:ow i=some a)(h:HdA K (hw ow (hz zA H)) xs ys):RW K H0 zE zA ow (upd H a (.lst ys)) (ρ.set i (some (.fr xs))) σ:=by
 have za:=r.zne i a e;have sm:a30 (hw ow (hz zA H)) (hw ow (hz zA (L2.upd H a (.lst ys)))):=λb o q=>by
  obtain⟨e1,e2⟩:=z90 q;obtain⟨e3,e4⟩:=m70 e1;have hb:b≠a:=λz=>e2 i (by rw[z];exact e)
  exact i50 (c70 (by rw[a10 hb];exact e3) e4 (k60 e1)) e2
 obtain⟨xs0,h0⟩:=r.own i a e;have hi:i < ρ.length:=(ä.mp h0).1;obtain⟨v0,s0,a0,ys0,q1,q2,q3,q4⟩:=r.wor i _ h0;rw[e] at q1;cases q1;refine⟨by rw[Á3];exact r.len,r.inj,r.zne,λj b h1=>?_,λj s q=>?_,⟨λb o q=>?_,λb ps q=>?_⟩,r.zok,r.new⟩
 ·by_cases hj:j=i
  ·subst hj;exact⟨xs,ã hi⟩
  ·obtain⟨zs,h3⟩:=r.own j b h1;exact⟨zs,by rw[Ù (À8 hj)];exact h3⟩
 ·rcases getElem?_set' q with ⟨rfl,e1,hlt⟩ | ⟨n,e1⟩
  ·cases e1;exact⟨v0,s0,a,ys,e,q2,a60,h.same sm⟩
  ·obtain⟨w,h1,h2⟩:=r.wor j s e1;refine⟨w,h1,h2.move rfl sm λb q=>?_⟩;have hb:b≠a:=λz=>n (r.inj j i b q (by rw[z];exact e))
   exact a10 hb
 ·obtain⟨e1,e2⟩:=m70 (r.ext b o q);have hb:b≠a:=λz=>by
   have:=(m70 q).1;rw[z,r.new i a e] at this;cases this
  exact c70 (by rw[a10 hb];exact e1) e2 (k60 q)
 ·obtain⟨qs,e1⟩:=r.ext.tbl b ps q;have hb:b≠a:=λz=>by rw[z,q3] at e1;cases e1
  exact⟨qs,by rw[a10 hb];exact e1⟩
end
end Q
namespace Q
open PySem L2 PySem.Spec PyProof.Rows
variable [TB:Tb]
def p62:Option Ç->Z->Z
 |none,_=>none|some _,z=>z
def t50(K:Ã)(G:Gs)(E:XK)(H0:Hp)(zE:Option Ç)(B:Hp)(D:Ends):R O->Prop
 |.ok (.nx ρ) z=>∀ zA ow σ H,RW K H0 zE zA ow H ρ σ->d80 zA z H->a30 B (hw ow (hz zA H))->D.nx σ H|.ok (.rt s) z=>∀ v H,s≠.z->Ext zE H0 H->d80 zE (p62 zE z) H->RvS K zE H0 H s v->D.rt v H|.er c z=>∀ e H,Ext zE H0 H->d80 zE (p62 zE z) H->H e=none->E (.ref (G.cls c)) (some e) H
def tX(K:Ã)(G:Gs)(E:XK)(H0:Hp)(zE:Option Ç)(x:Sm):TS:=λD σ H=>∃ zA ow ρ z r,RW K H0 zE zA ow H ρ σ/\d80 zA z H/\ex G.F zE.isNone x ρ z=some r/\t50 K G E H0 zE (hw ow (hz zA H)) D r
section
variable {K:Ã}{G:Gs}{E:XK}{H0 H H':Hp}{zE zA:Option Ç}{ow:Nat->Option Ç}{ρ:Env}{σ:L2.St}{Dn:Ends}{z:Z}
theorem W41(zok:zA=zE∨(zE=none/\∀ a,zA=some a->H0 a=none))(st:d80 zA z H):d80 zE (p62 zE z) H:=by
 cases zE with
 |none=>exact⟨trivial,st.tab⟩
 |some a =>
  rcases zok with rfl | ⟨h,_⟩
  ·exact st
  ·cases h
theorem t50.er_(po:t50 K G E H0 zE B Dn (.er c z))(r:RW K H0 zE zA ow H ρ σ):EPost G zA E c z H:=λe H' x st n=>po e H' (b31 r.ext r.zok x) (W41 r.zok st) n
theorem t50.ers(po:t50 K G E H0 zE B Dn rr)(r:RW K H0 zE zA ow H ρ σ):∀ c z1,rr=.er c z1->EPost G zA E c z1 H:=λc z1 e=>by subst e;exact po.er_ r
theorem t50.mono(po:t50 K G E H0 zE B Dn rr)(h:a30 B B'):t50 K G E H0 zE B' Dn rr:=by
 match rr,po with
 |.ok (.nx _) _,po=>exact λzA ow σ H r st sm=>po zA ow σ H r st (a30.trans h sm)|.ok (.rt _) _,po=>exact po|.er _ _,po=>exact po
theorem r60(ow:Nat->Option Ç)(i:Nat):a30 (hw ow H) (hw (ow0 ow i) H):=λb o e=>by
 obtain⟨e1,e2⟩:=z90 e;refine i50 e1 λj q=>?_;unfold ow0 at q;split at q
 ·cases q
 ·exact e2 j q
theorem A00(ow:Nat->Option Ç):a30 (hw ow H) (hw (λ_=>none) H):=λb o e=>i50 (z90 e).1 λj q=>nomatch q
theorem H31(x:Ext zA H H')(hn:H a=none)(i:Nat):a30 (hw ow (hz zA H)) (hw (ow1 ow i a) (hz zA H')):=λb o e=>by
 obtain⟨e1,e2⟩:=z90 e;have e3:=(m70 e1).1;have hb:b≠a:=λq=>by rw[q,hn] at e3;cases e3
 refine i50 (x b o e1) λj q=>?_;unfold ow1 at q;split at q
 ·cases q;exact hb rfl
 ·exact e2 j q
theorem W51(e:ow i=some a):a30 (hw ow (hz zA H)) (hw ow (hz zA (upd H a o))):=λb u q=>by
 obtain⟨e1,e2⟩:=z90 q;obtain⟨e3,e4⟩:=m70 e1;have hb:b≠a:=λw=>e2 i (by rw[w];exact e)
 exact i50 (c70 (by rw[a10 hb];exact e3) e4 (k60 e1)) e2
mutual
theorem H41:∀ {p:Pat}{d:D}{ρ ρ':Env},e70 p d ρ=some ρ'->∀ {ow:Nat->Option Ç}{σ:L2.St}{v:V}{R:L2.St->Hp->Prop},RW K H0 zE zA ow H ρ σ->Hd K (hw ow (hz zA H)) d v ->
  (∀ ow' σ',RW K H0 zE zA ow' H ρ' σ'->a30 (hw ow (hz zA H)) (hw ow' (hz zA H))->R σ' H)->gP K p v σ H R
 |.v i,d,ρ,ρ',e,ow,σ,v,R,r,hd,k=>by
  unfold e70 at e;cases e;unfold gP;exact k _ _ (r.I02 hd) (r60 ow i)
 |.tup ps,d,ρ,ρ',e,ow,σ,v,R,r,hd,k=>by
  unfold e70 at e;cases d with
  |tup l =>
   obtain⟨a,xs,rfl,h1,h2⟩:=hd.u70;unfold gP;exact⟨a,xs,rfl,(a00 zA H).sqT (a30.sqT j70 h1),by rw[h2.length];exact z80 e,t81 e r h2 k⟩
  |_=>cases e
 |.nil,_,_,_,e,_,_,_,_,_,_,_=>by unfold e70 at e;cases e
 |.cons _ _,_,_,_,e,_,_,_,_,_,_,_=>by unfold e70 at e;cases e
theorem t81:∀ {r:Pat}{l:List D}{ρ ρ':Env},bindL r l ρ=some ρ'->∀ {ow:Nat->Option Ç}{σ:L2.St}{vs:List V}{R:L2.St->Hp->Prop},RW K H0 zE zA ow H ρ σ->HdA K (hw ow (hz zA H)) l vs ->
  (∀ ow' σ',RW K H0 zE zA ow' H ρ' σ'->a30 (hw ow (hz zA H)) (hw ow' (hz zA H))->R σ' H)->gL K r vs σ H R
 |.nil,l,ρ,ρ',e,ow,σ,vs,R,r,hd,k=>by
  unfold bindL at e;cases l with
  |nil =>
   cases e;unfold gL;exact⟨hd.e40,k ow σ r (a30.refl _)⟩
  |cons x l=>cases e
 |.cons p q,l,ρ,ρ',e,ow,σ,vs,R,r,hd,k=>by
  unfold bindL at e;cases l with
  |nil=>cases e
  |cons x l =>
   obtain⟨ρ1,e1,e2⟩:=Ð.mp e;obtain⟨v,ws,rfl,h1,h2⟩:=hd.c00;unfold gL;exact⟨v,ws,rfl,H41 e1 r h1 λow' σ' r' sm=>t81 e2 r' (h2.same sm) λow2 σ2 r2 sm2=>k ow2 σ2 r2 (a30.trans sm sm2)⟩
 |.v _,_,_,_,e,_,_,_,_,_,_,_=>by unfold bindL at e;cases e
 |.tup _,_,_,_,e,_,_,_,_,_,_,_=>by unfold bindL at e;cases e
end
theorem t91(r:RW K H0 zE zA ow H ρ σ)(s:S):∃ ow',RW K H0 zE zA ow' H (i30 s ρ) σ/\a30 (hw ow (hz zA H)) (hw ow' (hz zA H))/\(N90 s=true∨∀ i,ow' i=none):=by
 unfold i30;rw[O10];cases hb:N90 s with
 |true=>exact⟨ow,r,a30.refl _,.inl rfl⟩|false=>exact⟨_,r.U00,A00 ow,.inr λ_=>rfl⟩
theorem H51{p:Pat}{s:S}{v:V}{ρ':Env}{R:L2.St->Hp->Prop}(r:RW K H0 zE zA ow H ρ σ)(x:Ext zA H H')(rv:RvS K zA H H' s v)(e:z20 p s (i30 s ρ)=some ρ')
  (k:∀ ow' σ',RW K H0 zE zA ow' H' ρ' σ'->a30 (hw ow (hz zA H)) (hw ow' (hz zA H'))->R σ' H'):gP K p v σ H' R:=by
 obtain⟨owk,r1,s1,b1⟩:=t91 r s;have r2:=r1.mono x;have s2:a30 (hw ow (hz zA H)) (hw owk (hz zA H')):=a30.trans s1 (f40 x);cases s with
 |d y =>
  have e':e70 p y (i30 (.d y) ρ)=some ρ':=by cases p <;> exact e
  refine H41 e' r2 ?_ λow' σ' r3 s3=>k ow' σ' r3 (a30.trans s2 s3);rcases b1 with b1 | b1
  ·exact J10 r2.W31 b1 rv
  ·have:owk=λ_=>none:=funext b1;subst this;rw[t40];exact rv
 |z =>
  cases p with
  |v i =>
   simp only[z20] at e;split at e
   ·cases e;unfold gP;exact k _ _ (r2.I12 (t:=.z) ⟨if_pos rfl,rv⟩) (a30.trans s2 (r60 owk i))
   ·cases e
  |_=>cases e
 |fr xs =>
  cases p with
  |v i =>
   simp only[z20] at e;split at e
   ·rename_i hi;cases e;unfold gP;obtain⟨a,ys,rfl,h1,h2,h3,h4⟩:=rv;refine k _ _ (r1.I22 x h1 h2 h3 ?_ hi) (a30.trans s1 (H31 x h1 i));rcases b1 with b1 | b1
    ·refine w50 (λj b q=>?_) b1 (h4.same (d70 a _));unfold ow1 at q;split at q
     ·cases q;exact⟨ys,c70 h3 h2⟩
     ·exact r2.W31 j b q
    ·refine h4.same λb o q=>?_;have hb:b≠a:=λw=>by subst w;unfold hide at q;rw[if_pos rfl] at q;cases q
     refine i50 (d70 a _ b o q) λj w=>?_;unfold ow1 at w;split at w
     ·cases w;exact hb rfl
     ·rw[b1 j] at w;cases w
   ·cases e
  |_=>cases e
end
end Q
namespace Q
open PySem L2 PySem.Spec PyProof.Rows
variable [TB:Tb]
theorem W61(h:k90 v=false):Ä9 [tg] v env=pure none:=by
 cases tg <;> first | rfl | (cases v <;> first | (cases h;done) | rfl)
theorem W71(h:vs.all (Ú3 8)=true):Ä9 [.Tuple ts k p] (.Tuple vs k' p') env=pure none:=by
 unfold Ä9;simp only[h,if_true];split
 ·rfl
 ·split
  ·rfl
  ·split
   ·rfl
   ·rfl
def u01(look:Str->Option Ê9):Ò->Bool
 |.Name id _=>look id != some .local|_=>true
theorem W81(h:ts.any (u01 env.kindOf)=true):Ä9 [.Tuple ts k p] (.Tuple vs k' p') env=pure none:=by
 have hl:∀ (l:Nat) (ts:List Ò),ts.any (u01 env.kindOf)=true->(ts.filterMap fun
   |.Name id pos=>if env.kindOf id == some .local&&pos.line == l then some id else none
   |_=>none).length < ts.length:=by
  intro l ts
  induction ts with
  |nil=>intro h;cases h
  |cons e r ih =>
   intro h;have le:=List.length_filterMap_le (fun
    |.Name id pos=>if env.kindOf id == some .local&&pos.line == l then some id else none
    |_=>none:Ò->Option Str) r
   rw[List.any_cons,Ä0] at h;rw[þ];split
   ·rw[à];omega
   ·rename_i b hb;rcases h with h | h
    ·exfalso;cases e with
     |Name id pos =>
      have h':(env.kindOf id != some .local)=true:=h;simp only[bne_iff_ne,ne_eq] at h';simp[h'] at hb
     |_=>cases hb
    ·have:=ih h;rw[à,à];omega
 unfold Ä9;dsimp only;split
 ·rfl
 ·split
  ·rfl
  ·have:=hl ((ts.head?.map (·.pos.line)).getD 0) ts h;rw[if_pos];simp only[Ä0,bne_iff_ne,ne_eq];exact .inl (Ô this)
theorem k72{x y:Str}{a b:Ò}{px py pt pt2:Pos}{k k2:Nat}{env:È5}(hb:env.blockKind=.function)(hx:env.kindOf x=some .local)(hy:env.kindOf y=some .local)(hxy:(x == y)=false)(hl:(py.line == px.line)=true)
  (ha:noStar a=true) (hb':noStar b=true) (hf:[a,b].all (Ú3 8)=false) (hc:[a,b].all (constantsAlone 8)=false) :
  Ä9 [.Tuple [.Name x px,.Name y py] k pt] (.Tuple [a,b] k2 pt2) env=pure (some [x,y]):=by
 have hbk:(env.blockKind != .function)=false:=by rw[hb];rfl
 have e1:(x == x)=true:=beq_self_eq_true x;have hyx:(y == x)=false:=by
  cases h:y == x with
  |false=>rfl|true=>rw[beq_iff_eq] at h;subst h;rw[e1] at hxy;cases hxy
 have hl2:(Ò.Name x px).pos.line=px.line:=rfl;have hl3:(Ò.Name y py).pos.line=py.line:=rfl;have hl':py.line=px.line:=by simpa using hl
 unfold Ä9;simp only[List.filterMap,List.head?,Í9,Option.getD,hx,hy,hf,hc,hbk,hl2,hl'];simp[List.eraseDups,List.eraseDupsBy,List.eraseDupsBy.loop,hyx,hxy];intro h;rcases h with h | h
 ·cases a <;> first | (cases h;done) | (cases ha;done)
 ·cases b <;> first | (cases h;done) | (cases hb';done)
def Q10:Ò->Bool
 |.ListComp ..=>false|.SetComp ..=>false|.DictComp ..=>false|_=>true
theorem r70(h:Q10 v=true)(t:Option Ò):Ô5 v t n env=pure false:=by
 cases v <;> first | rfl | (cases h;done)
theorem Q20(h:(match tg with | .Name ..=>true | _=>false)=false):Ô5 v (some tg) n env=pure false:=by
 cases v <;> first | rfl | (cases tg <;> first | rfl | (cases h;done))
theorem H61{el:Ò}{gs:List Comprehension}{sc:ø}{p px:Pos}{t:Str}{n:Nat}{env:È5}:∃ b,Ô5 (.ListComp el gs sc p) (some (.Name t px)) n env=pure b:=⟨_,rfl⟩
structure XS(lm:Bool)(X:Cx)(G:Gs)(E:XK)(N:List Str)(sc:Scope)(cn:List Str):Prop extends XI lm X G E N sc where
 sco:X.env.scope=sc
 fnk:sc.kind=.function
 own:PassesOwn (model X.prog X.w) X.A X.env X.xe
 can:G50 X E
 fnx:∀ x,X.fn x=true
 cls:∀ c x,cn[c]?=some x->X.mg x=some (.ref (G.cls c))/\PySem.W.excIn X.K (G.cls c) [.type "ValueError",.type "Exception",.type "BaseException",.type "object"] "ValueError.__new__"=true
def w60(sc:ø)(x:Str):Bool:=sc.names.lookup x == some .local || sc.names.lookup x == some .cell
section
variable {lm:Bool}{X:Cx}{G:Gs}{E:XK}{N:List Str}{sc:ø}{cn:List Str}{H0:Hp}{zE:Option Ç}
theorem XS.loc(x:XS lm X G E N sc cn):G81 X N (w60 sc):=by
 refine⟨x.hN,x.nd,λy h=>?_,λy _=>.inl (x.fnx y),x.calm⟩;unfold w60 at h;rw[Ä0,beq_iff_eq,beq_iff_eq] at h;rw[x.sco];exact h
theorem XS.bk(x:XS lm X G E N sc cn):X.env.blockKind=.function:=by
 unfold Env.blockKind;rw[x.sco,x.fnk];rfl
theorem PS.imp{st:Ã8}{t t':TS}(h:PS X st t)(i:∀ D σ H,t' D σ H->t D σ H):PS X st t':=λpins s σ H D I q=>h pins s σ H D I (i _ _ _ q)
theorem PSs.imp{st:List Ã8}{t t':TS}(h:PSs X st t)(i:∀ D σ H,t' D σ H->t D σ H):PSs X st t':=λpins s σ H D I q=>h pins s σ H D I (i _ _ _ q)
theorem x72:PSs X [] (tX X.K G E H0 zE .nil):=PSs.imp j71 λD σ H q=>by
 obtain⟨zA,ow,ρ,z,r,rw,st,e,po⟩:=q;cases e;exact po zA ow σ H rw st (a30.refl _)
theorem x82{s r:Sm}{st:Ã8}{rest:List Ã8}(h1:PS X st (tX X.K G E H0 zE s))(h2:PSs X rest (tX X.K G E H0 zE r)):PSs X (st::rest) (tX X.K G E H0 zE (.seq s r)):=PSs.imp (f90 h1 h2) λD σ H q=>by
 obtain⟨zA,ow,ρ,z,rr,rw,st,e,po⟩:=q;have e0:M.bind (ex G.F zE.isNone s ρ) (λo=>match o with | .nx ρ=>ex G.F zE.isNone r ρ | .rt s=>M.ret (.rt s)) z=some rr:=e
 rcases M.bind_some e0 with ⟨o,z1,e1,e2⟩ | ⟨c,z1,e1,e2⟩
 ·refine⟨zA,ow,ρ,z,_,rw,st,e1,?_⟩;cases o with
  |nx ρ1=>exact λzA' ow' σ' H' rw' st' sm=>⟨zA',ow',ρ1,z1,rr,rw',st',e2,po.mono sm⟩|rt s=>cases e2;exact po
 ·subst e2;exact⟨zA,ow,ρ,z,_,rw,st,e1,po⟩
theorem N11{p:Pat}{e:Ex}{D:Ends}{σ:L2.St}{H:Hp}(q:tX X.K G E H0 zE (.set p e) D σ H):c52 (tI X.K G E e) (gP X.K p) D σ H:=by
 obtain⟨zA,ow,ρ,z,rr,rw,st,ee,po⟩:=q;refine k80 rw.V70 st ee (po.ers rw) λl z1 e1=>?_;obtain⟨s,hs,e2⟩:=M.a40 e1;refine⟨s,z50 hs,λv H1 x1 st1 rv=>?_⟩;obtain⟨ρ',hb,e3⟩:=M.a40 e2;cases e3;exact H51 rw x1 rv hb λow' σ' r' sm=>po zA ow' σ' H1 r' st1 sm
theorem I32{K:Ã}{i:Nat}:gP K (.v i)=E70 i:=by unfold gP;rfl
theorem x92(x:XS lm X G E N sc cn){i:Nat}{e:Ex}{y:Str}{v:Ò}{px pos:Pos}(hi:N[i]?=some y)(hl:w60 sc y=true)(g:b00 X G E e v)
  (hc:∀ elt gs csc q,v=.ListComp elt gs csc q->∃ tg iter ifs,gs=[⟨tg,iter,ifs,0⟩]/\D20 X G E e elt tg iter ifs csc) (hno:∀ a b c d,v≠.SetComp a b c d)
  (hnd:∀ a b c d f,v≠.DictComp a b c d f) :
  PS X (.Assign [.Name y px] v pos) (tX X.K G E H0 zE (.set (.v i) e)):=by
 have L:=x.loc;refine PS.imp (t:=c52 (tI X.K G E e) (E70 i)) ?_ λD σ H q=>by rw[← I32 (K:=X.K)];exact N11 q
 have h1:X.N.Nodup:=by rw[x.hN];exact x.nd
 have h2:X.N[i]?=some y:=by rw[x.hN];exact hi
 by_cases hv:∃ elt gs csc q,v=.ListComp elt gs csc q
 ·obtain⟨elt,gs,csc,q,rfl⟩:=hv;obtain⟨b,hb⟩:=H61 (el:=elt) (gs:=gs) (sc:=csc) (p:=q) (px:=px) (t:=y) (n:=pos.line) (env:=X.env);cases b with
  |false=>exact q30 h1 h2 (L.lc y hl) g.pe hb (L.fn y hl)
  |true =>
   obtain⟨tg,iter,ifs,rfl,own,capt,wi,gg,tt,te,k1,k2,k3,k4,k5,k6,k7⟩:=hc elt gs csc q rfl;refine PS.imp (Q31 h1 h2 (L.lc y hl) hb x.calm k1 k2 k3 k4 k5 k6 (L.fn y hl)) λD σ H q=>k7 _ _ _ q
 ·exact q30 h1 h2 (L.lc y hl) g.pe (r70 (by cases v <;> first | rfl | exact absurd rfl (hno _ _ _ _) | exact absurd rfl (hnd _ _ _ _ _) | exact absurd ⟨_,_,_,_,rfl⟩ hv) _) (L.fn y hl)
theorem u11(x:XS lm X G E N sc cn){p:Pat}{e:Ex}{tg v:Ò}{pos:Pos}(hp:h70 N (w60 sc) p tg=true)(g:b00 X G E e v)(ht:k90 tg=true)(hv:Ä9 [tg] v X.env=pure none) :
  PS X (.Assign [tg] v pos) (tX X.K G E H0 zE (.set p e)):=by
 refine PS.imp (K21 g.pe (h61 x.loc hp) ?_ hv ?_) λD σ H q=>N11 q
 ·exact Q20 (by cases tg <;> first | rfl | (cases ht;done))
 ·cases tg <;> first | rfl | (cases ht;done)
theorem y02(x:XS lm X G E N sc cn){i j:Nat}{ea eb:Ex}{a b:Ò}{y w:Str}{px py pt pt2 pos:Pos}{k k2:Nat}(hi:N[i]?=some y)(hj:N[j]?=some w)(hyw:(y == w)=false)(hy:sc.names.lookup y=some .local)(hw':sc.names.lookup w=some .local)
  (g:Good X G E (.cons ea (.cons eb .nil)) [a,b]) (hs:Ä9 [.Tuple [.Name y px,.Name w py] k pt] (.Tuple [a,b] k2 pt2) X.env=pure (some [y,w])) :
  PS X (.Assign [.Tuple [.Name y px,.Name w py] k pt] (.Tuple [a,b] k2 pt2) pos) (tX X.K G E H0 zE (.set (.tup (.cons (.v i) (.cons (.v j) .nil))) (.tup (.cons ea (.cons eb .nil))))):=by
 have hij:i≠j:=λh=>by
  subst h;rw[hi] at hj;cases hj;rw[beq_self_eq_true] at hyw;cases hyw
 refine PS.imp (c62 x.calm (by rw[x.hN];exact x.nd) (by rw[x.hN];exact hi) (by rw[x.hN];exact hj) hij (by rw[x.sco];exact hy) (by rw[x.sco];exact hw') (g.args rfl).1 hs rfl) λD σ H q=>?_
 obtain⟨zA,ow,ρ,z,rr,rw,st,ee,po⟩:=q;have e0:M.bind (M.bind (ev G.F (.cons ea (.cons eb .nil)) ρ) λl=>M.bind (M.of (plA l)) λds=>if ds.length<=most then M.ret [S.d (.tup ds)] else M.no) (λl=>M.bind (M.of (one l)) λs=>M.bind (M.of (z20 (.tup (.cons (.v i) (.cons (.v j) .nil))) s (i30 s ρ))) λρ=>M.ret (O.nx ρ)) z=some rr:=ee;rcases M.bind_some e0 with ⟨l0,z0,e1,e2⟩ | ⟨c,z1,e1,e2⟩
 ·rcases M.bind_some e1 with ⟨l,z1,e3,e4⟩ | ⟨c,z1,e3,e4⟩
  ·obtain⟨ds,hds,e5⟩:=M.a40 e4;split at e5
   ·cases e5;obtain⟨s,hs',e6⟩:=M.a40 e2;cases hs';obtain⟨ρ',hb,e7⟩:=M.a40 e6;cases e7;refine⟨zA,ρ,z,_,rw.V70,st,e3,λvs H1 x1 st1 rvs=>?_⟩;have hd:=B70 rvs hds;obtain⟨owk,r1,s1,b1⟩:=t91 rw (.d (.tup ds));have hb':bindL (.cons (.v i) (.cons (.v j) .nil)) ds (i30 (.d (.tup ds)) ρ)=some ρ':=by
     have:e70 (.tup (.cons (.v i) (.cons (.v j) .nil))) (.tup ds) (i30 (.d (.tup ds)) ρ)=some ρ':=hb;unfold e70 at this;exact this
    have r2:=r1.mono x1;have hd2:HdA X.K (hw owk (hz zA H1)) ds vs:=by
     rcases b1 with b1 | b1
     ·exact w50 r2.W31 (by simpa [N90,bare] using b1) hd
     ·have:owk=λ_=>none:=funext b1;subst this;rw[t40];exact hd
    have:=t81 hb' (R:=D.nx) r2 hd2 λow' σ' r' sm=>po zA ow' σ' H1 r' st1 (a30.trans s1 (a30.trans (f40 x1) sm));unfold gL at this;obtain⟨v,vr,rfl,this⟩:=this;unfold gP gL at this;obtain⟨u,ur,rfl,this⟩:=this;unfold gP gL at this;obtain⟨rfl,this⟩:=this;exact⟨v,u,rfl,this⟩
   ·cases e5
  ·cases e4
 ·subst e2;rcases M.bind_some e1 with ⟨l,z2,e3,e4⟩ | ⟨c,z2,e3,e4⟩
  ·obtain⟨ds,hds,e5⟩:=M.a40 e4;split at e5 <;> cases e5
  ·cases e4;exact⟨zA,ρ,z,_,rw.V70,st,e3,po.er_ rw⟩
theorem N21{s t:S}(h:noS s=some t):s=t/\t≠.z:=by
 cases s with
 |z=>cases h
 |d _=>cases h;exact⟨rfl,λh=>nomatch h⟩
 |fr _=>cases h;exact⟨rfl,λh=>nomatch h⟩
theorem k82(x:XS lm X G E N sc cn){i:Nat}{n:Str}{p pos:Pos}(h1:N[i]?=some n)(h2:c50 n=true):PS X (.Return (some (.Name n p)) pos) (tX X.K G E H0 zE (.ret (.var i))):=by
 unfold c50 at h2;simp only[Á,ú] at h2;refine PS.imp (L30 (k20 (i:=i) (by rw[x.hN];exact h1) (x.vis n (å h1)) h2.1 h2.2)) λD σ H q=>?_
 obtain⟨zA,ow,ρ,z,rr,rw,st,ee,po⟩:=q;have e0:(match ρ[i]? with | some (some s)=>M.bind (M.of (noS s)) λs=>M.ret (O.rt s) | _=>M.no) z=some rr:=ee
 cases hs:ρ[i]? with
 |none=>rw[hs] at e0;cases e0
 |some o =>
  cases o with
  |none=>rw[hs] at e0;cases e0
  |some s =>
   rw[hs] at e0;obtain⟨t,ht,e1⟩:=M.a40 e0;cases e1;obtain⟨rfl,nz⟩:=N21 ht;obtain⟨v,k1,k2⟩:=rw.H92 nz hs;exact⟨v,k1,po v H nz rw.ext (W41 rw.zok st) k2⟩
theorem y12{e:Ex}{v:Ò}{pos:Pos}(hv:∀ i,e≠.var i)(g:b00 X G E e v):PS X (.Return (some v) pos) (tX X.K G E H0 zE (.ret e)):=by
 refine PS.imp (L30 g.pe) λD σ H q=>?_;obtain⟨zA,ow,ρ,z,rr,rw,st,ee,po⟩:=q;have e0:M.bind (ev G.F e ρ) (λl=>M.bind (M.of ((one l).bind noS)) λs=>M.ret (O.rt s)) z=some rr:=by
  cases e <;> first | exact ee | exact absurd rfl (hv _)
 refine k80 rw.V70 st e0 (po.ers rw) λl z1 e1=>?_;obtain⟨t,ht,e2⟩:=M.a40 e1;cases e2;obtain⟨s,hs,hn⟩:=Ð.mp ht;obtain⟨rfl,nz⟩:=N21 hn;exact⟨s,z50 hs,λv H1 x1 st1 rv=>po v H1 nz (b31 rw.ext rw.zok x1) (W41 rw.zok st1) (rw.out nz x1 rv)⟩
theorem I42{c:Ex}{t u:Sm}{ce:Ò}{a b:List Ã8}{pos:Pos}(g:b00 X G E c ce)(hn:∀ t a b p,ce≠.IfExp t a b p)(ha:PSs X a (tX X.K G E H0 zE t))(hb:PSs X b (tX X.K G E H0 zE u)) :
  PS X (.If ce a b pos) (tX X.K G E H0 zE (.iff c t u)):=by
 refine PS.imp (c12 (g.pt hn) ha hb) λD σ H q=>?_;obtain⟨zA,ow,ρ,z,rr,rw,st,ee,po⟩:=q;refine V20 rw.V70 st ee (po.ers rw) λb z1 e1 H1 x1 st1=>?_;have r1:=rw.mono x1;have sm:a30 (hw ow (hz zA H)) (hw ow (hz zA H1)):=f40 x1;cases b with
 |true=>exact⟨zA,ow,ρ,z1,rr,r1,st1,e1,po.mono sm⟩|false=>exact⟨zA,ow,ρ,z1,rr,r1,st1,e1,po.mono sm⟩
theorem y22{e:Ex}{v:Ò}{pos:Pos}(g:b00 X G E e v)(h:Q10 v=true):PS X (.Expr v pos) (tX X.K G E H0 zE (.exp e)):=by
 refine PS.imp (S70 g.pe (r70 h none)) λD σ H q=>?_;obtain⟨zA,ow,ρ,z,rr,rw,st,ee,po⟩:=q;have e0:M.bind (ev G.F e ρ) (λl=>M.bind (M.of (one l)) λ_=>M.ret (O.nx ρ)) z=some rr:=ee;refine k80 rw.V70 st e0 (po.ers rw) λl z1 e1=>?_;obtain⟨s,hs,e2⟩:=M.a40 e1;cases e2;exact⟨s,z50 hs,λv H1 x1 st1 rv=>po zA ow σ H1 (rw.mono x1) st1 (f40 x1)⟩
theorem x_raise(x:XS lm X G E N sc cn){c:Nat}{n:Str}{y:Str}{k:Nat}{p1 p2 p3 p4:Pos}(hc:cn[c]?=some n)(hg:glob sc n=true):PS X (.Raise (some (.Call (.Name n p1) [.Constant (.str y) k p2] [] p3)) none p4) (tX X.K G E H0 zE (.rais c)):=by
 obtain⟨k1,k2,_⟩:=c90 hg;obtain⟨m1,m2⟩:=x.cls c n hc;refine PS.imp (D71 x.can x.calm (x.glb n k1) m1 m2 (d20 K01 k40) k2 rfl rfl) λD σ H q=>?_;obtain⟨zA,ow,ρ,z,rr,rw,st,ee,po⟩:=q;cases ee;exact⟨by show 1<=sizeLine;decide,λe hn=>po e H rw.ext (W41 rw.zok st) hn⟩
end
section
variable {K:Ã}{H0 H H':Hp}{zE zA:Option Ç}{ow:Nat->Option Ç}{ρ:Env}{σ:L2.St}
theorem g90(e:ow0 ow i j=some a):j≠i/\ow j=some a:=by
 unfold ow0 at e;split at e
 ·cases e
 ·rename_i n;exact⟨n,e⟩
theorem w70:ow0 ow i i=none:=if_pos rfl
theorem u21(h:j≠i):ow0 ow i j=ow j:=if_neg h
theorem H71{ρ:Env}{j:Nat}{s:S}(h:(N80 ρ)[j]?=some (some s)):ρ[j]?=some (some s)/\s≠.z:=by
 unfold N80 at h;rw[Ö] at h;obtain⟨o,e1,e2⟩:=Í.mp h;cases o with
 |none=>cases e2
 |some t =>
  cases t with
  |z=>cases e2
  |d x=>cases e2;exact⟨e1,λh=>nomatch h⟩
  |fr x=>cases e2;exact⟨e1,λh=>nomatch h⟩
theorem W91{j:Nat}(h:ρ[j]?=some (some (.fr xs))):(N80 ρ)[j]?=some (some (.fr xs)):=by
 unfold N80;rw[Ö,h];rfl
theorem RW.I52(r:RW K H0 none zA ow H ρ σ){i:Nat}(x:Ext zA H H')(hn:H a=none)(za:zA≠some a)(hl:H' a=some (.lst ys)) :
  RW K H0 none (some a) (ow0 ow i) H' ((N80 ρ).set i (some .z)) (σ.set i (some (.ref a)))/\a30 (hw ow (hz zA H)) (hw (ow0 ow i) (hz (some a) H')):=by
 have r':=r.mono x;have old:∀ j b,ow j=some b->b≠a:=λj b e q=>by
  obtain⟨zs,h1⟩:=r.lst j b e;rw[q,hn] at h1;cases h1
 have sm:a30 (hw ow (hz zA H)) (hw (ow0 ow i) (hz (some a) H')):=λb o e=>by
  obtain⟨e1,e2⟩:=z90 e;have hb:b≠a:=λq=>by
   have e3:H b=some o:=(m70 e1).1;rw[q,hn] at e3;cases e3
  exact i50 (c70 (m70 (x b o e1)).1 (λq=>by cases q;exact hb rfl) (k60 e1)) λj q=>e2 j (g90 q).2
 have dl:(N80 ρ).length=ρ.length:=by unfold N80;rw[Ì]
 refine⟨⟨by rw[Á3,Á3,dl];exact r.len,λj k b h1 h2=>r.inj j k b (g90 h1).2 (g90 h2).2,λj b h1 q=>?_,λj b h1=>?_,λj s e=>?_,r'.ext,.inr ⟨rfl,λb q=>?_⟩,λj b h1=>r.new j b (g90 h1).2⟩,sm⟩
 ·cases q;exact old j _ (g90 h1).2 rfl
 ·obtain⟨n,h2⟩:=g90 h1;obtain⟨xs,h3⟩:=r.own j b h2;exact⟨xs,by rw[Ù (À8 n)];exact W91 h3⟩
 ·rcases getElem?_set' e with ⟨rfl,e1,hlt⟩ | ⟨n,e1⟩
  ·cases e1;exact⟨.ref a,ã (by rw[← r.len,← dl];exact hlt),w70,a,rfl,rfl⟩
  ·obtain⟨e1,nz⟩:=H71 e1;obtain⟨w,h1,h2⟩:=r.wor j s e1;refine⟨w,by rw[Ù (À8 n)];exact h1,?_⟩
   cases s with
   |d y=>exact⟨by rw[u21 n];exact h2.1,h2.2.same sm⟩|z=>exact absurd rfl nz
   |fr xs =>
    obtain⟨b,zs,k1,rfl,k3,k4⟩:=h2;exact⟨b,zs,by rw[u21 n];exact k1,rfl,x.at k3 (r.zne j b k1),k4.same sm⟩
 ·cases q;exact(r.young hn za).1
theorem RW.plain(r:RW K H0 zE zA ow H ρ σ)(i:Nat):RW K H0 zE zA (ow0 ow i) H (ρ.set i ((ρ[i]?.getD none).map plS)) σ:=by
 have sm:=r60 (H:=hz zA H) ow i;refine⟨by rw[Á3];exact r.len,λj k b h1 h2=>r.inj j k b (g90 h1).2 (g90 h2).2,λj b h1=>r.zne j b (g90 h1).2,λj b h1=>?_,λj s e=>?_,r.ext,r.zok,λj b h1=>r.new j b (g90 h1).2⟩
 ·obtain⟨n,h2⟩:=g90 h1;obtain⟨xs,h3⟩:=r.own j b h2;exact⟨xs,by rw[Ù (À8 n)];exact h3⟩
 ·rcases getElem?_set' e with ⟨rfl,e1,hlt⟩ | ⟨n,e1⟩
  ·cases hs:ρ[j]? with
   |none=>rw[hs] at e1;cases e1
   |some o =>
    rw[hs] at e1;cases o with
    |none=>cases e1
    |some s0 =>
     cases e1;obtain⟨w,h1,h2⟩:=r.wor j s0 hs;refine⟨w,h1,?_⟩;cases s0 with
     |d y=>exact⟨w70,h2.2.same sm⟩|z=>exact⟨w70,h2.2⟩
     |fr xs =>
      obtain⟨b,zs,k1,rfl,k3,k4⟩:=h2;refine⟨w70,Hd.lst (i50 (c70 k3 (r.zne j b k1)) λk q=>?_) (k4.same sm)⟩;obtain⟨q1,q2⟩:=g90 q;exact q1 (r.inj k j b q2 k1)
  ·obtain⟨w,h1,h2⟩:=r.wor j s e1;exact⟨w,h1,h2.move (u21 n) sm λ_ _=>rfl⟩
end
theorem HdA.eraseIdx{K:Ã}{H:Hp}:∀ {ds:List D}{vs:List V} (n:Nat),HdA K H ds vs->HdA K H (ds.eraseIdx n) (vs.eraseIdx n)
 |[],_,n,h=>by rw[h.e40];exact .nil
 |d::ds,_,0,h=>by
  obtain⟨x,r,rfl,h1,h2⟩:=h.c00;exact h2
 |d::ds,_,n + 1,h=>by
  obtain⟨x,r,rfl,h1,h2⟩:=h.c00;exact .cons h1 (HdA.eraseIdx n h2)
section
variable {lm:Bool}{X:Cx}{G:Gs}{E:XK}{N:List Str}{sc:ø}{cn:List Str}{H0:Hp}{zE:Option Ç}
theorem X01{α β:Type}{R:α->β->Prop}{a:α}{vs:List β}(h:Ä1 R [a] vs):∃ v,vs=[v]/\R a v:=by
 cases h with
 |cons h1 h2=>cases h2;exact⟨_,rfl,h1⟩
theorem d80.a10(st:d80 zA z H)(n:zA≠some a)(h:H a=some (.lst xs)):d80 zA z (upd H a o):=by
 refine⟨?_,λp hp=>Tab.upd (st.tab p hp) h⟩;have st:=st.zat;cases zA with
 |none=>cases z <;> exact st
 |some b =>
  cases z with
  |none=>exact st
  |some p =>
   have hb:b≠a:=λq=>n (by rw[q])
   exact(L2.a10 hb).trans st
theorem k92(h:ownAt ρ i=some xs):ρ[i]?=some (some (.fr xs)):=by
 unfold ownAt at h;split at h
 ·rename_i h1;cases h;exact h1
 ·cases h
theorem l02{K:Ã}{zA:Option Ç}{H0 H:Hp}{s:S}{v:V}{x:D}(h:RvS K zA H0 H s v)(e:plD s=some x):Hd K (hz zA H) x v:=h.pl.d_ e
theorem y32(x:XS lm X G E N sc cn){i:Nat}{n:Str}{e:Ex}{v:Ò}{p apos cpos pos:Pos}(h1:N[i]?=some n)(h2:c50 n=true)(ns:noStar v=true)(g:b00 X G E e v)(hl:(apos.endLine == cpos.line)=true) :
  PS X (.Expr (.Call (.Attribute (.Name n p) "append" apos) [v] [] cpos) pos) (tX X.K G E H0 zE (.app i e)):=by
 unfold c50 at h2;simp only[Á,ú] at h2;have ga:Good X G E (.cons e .nil) [v]:=⟨v,[],rfl,ns,g,rfl,rfl⟩;have hs:=c80 ns [] X.env;refine PS.imp (S70 (Q01 Ü9 Ü3 Ü2 M50 (k20 (i:=i) (by rw[x.hN];exact h1) (x.vis n (å h1)) h2.1 h2.2) (ga.args rfl).1 rfl (by rw[hs];rfl) hl hs rfl) (r70 rfl none)) λD σ H q=>?_
 obtain⟨zA,ow,ρ,z,rr,rw,st,ee,po⟩:=q;obtain⟨xs,hx,e1⟩:=M.a40 ee;have ho:=k92 hx;obtain⟨w,k1,a,ys,k2,rfl,k3,k4⟩:=rw.wor i _ ho;refine⟨_,k1,.inl ⟨rfl,ys,SqL.of k3⟩,?_⟩;have e2:M.bind (ev G.F (.cons e .nil) ρ) (λm=>M.bind (M.of (pl m)) λx=>if bare x=true/\xs.length < most then M.ret (O.nx (ρ.set i (some (.fr (xs++[x]))))) else M.no) z=some rr∨∃ c z1,ev G.F e ρ z=some (.er c z1)/\rr=.er c z1:=by
  rcases M.bind_some e1 with ⟨l,z1,e3,e4⟩ | ⟨c,z1,e3,e4⟩
  ·obtain⟨y,hy,e5⟩:=M.a40 e4;obtain⟨s,rfl,hs⟩:=h40 hy;refine .inl ?_;show M.bind (M.bind (ev G.F e ρ) λx=>M.bind (M.of (one x)) λs=>M.bind (ev G.F .nil ρ) λy=>M.ret (s::y)) _ z=some rr;have b:∀ {α β:Type}{m:M α}{f:α->M β}{z:Z}{a:α}{z1:Z},m z=some (.ok a z1)->M.bind m f z=f a z1:=λh=>by unfold M.bind;rw[h]
   rw[b (a:=[s]) (z1:=z1) (by rw[b e3];rfl)]
   show M.bind (M.of (pl _)) _ _=_;rw[hy];exact e5
  ·exact .inr ⟨c,z1,e3,e4⟩
 rcases e2 with e2 | ⟨c,z1,e3,rfl⟩
 ·refine V10 rw.V70 st e2 (po.ers rw) λl z1 e3 vs H1 x1 st1 rvs=>?_;obtain⟨y,hy,e5⟩:=M.a40 e3;obtain⟨s,rfl,hs⟩:=h40 hy;split at e5
  ·rename_i hb;cases e5;obtain⟨u,rfl,ru⟩:=X01 rvs;have r1:=rw.mono x1;have k3':=x1.at k3 (rw.zne i a k2);have k4':HdA X.K (hw ow (hz zA H1)) xs ys:=k4.same (f40 x1);have hd:=J10 r1.W31 hb.1 (l02 ru hs);refine⟨a,ys,u,rfl,rfl,k3',Ú (by rw[k4.length];exact hb.2) (g20 (Ë _)),?_⟩
   refine po zA ow σ _ (r1.upd k2 (k4'.append (.cons hd .nil))) ?_ (a30.trans (f40 x1) (W51 k2));exact st1.a10 (rw.zne i a k2) k3'
  ·cases e5
 ·refine⟨zA,ρ,z,.er c z1,rw.V70,st,?_,po.er_ rw⟩;show M.bind (ev G.F e ρ) _ z=_;simp only[M.bind,e3]
theorem l12(x:XS lm X G E N sc cn){i f:Nat}{as:Ex}{y:Str}{v:Ò}{px pos:Pos}(hi:N[i]?=some y)(hl:w60 sc y=true)(g:b00 X G E (.call f as) v)(hv:Q10 v=true) :
  PS X (.Assign [.Name y px] v pos) (tX X.K G E H0 zE (.newz i f as)):=by
 have L:=x.loc;refine PS.imp (q30 (i:=i) (by rw[x.hN];exact x.nd) (by rw[x.hN];exact hi) (L.lc y hl) g.pe (r70 hv _) (L.fn y hl)) λD σ H q=>?_
 obtain⟨zA,ow,ρ,z,rr,rw,st,ee,po⟩:=q;refine k80 rw.V70 st ee (po.ers rw) λl z1 e1=>?_;have e2:p81 zE.isNone ρ i l=some rr:=e1;unfold p81 at e2;split at e2
 ·split at e2
  ·rename_i m b hz';cases e2;have zn:zE=none:=by
    cases zE with
    |none=>rfl|some _=>cases hz'
   subst zn;refine⟨_,rfl,λu H1 x1 st1 rv=>?_⟩;obtain⟨a,ys,rfl,k1,k2,k3,k4⟩:=rv;obtain⟨v1,v2,rfl,h3,h4⟩:=k4.two;cases h3.j10;cases h4.bl_;obtain⟨r1,sm⟩:=rw.I52 (i:=i) x1 k1 k2 k3;exact po (some a) _ _ H1 r1 ⟨k3,st1.tab⟩ sm
  ·cases e2
 ·cases e2
theorem l22(x:XS lm X G E N sc cn){i:Nat}{n:Str}{e:Ex}{v:Ò}{c:Nat}{p q tp pos:Pos}(h1:N[i]?=some n)(h2:c50 n=true)(g:b00 X G E e v) :
  PS X (.Assign [.Subscript (.Name n p) (.Constant (.int 0) c q) tp] v pos) (tX X.K G E H0 zE (.zset i e)):=by
 unfold c50 at h2;simp only[Á,ú] at h2;refine PS.imp (K21 g.pe (c42 (k20 (i:=i) (by rw[x.hN];exact h1) (x.vis n (å h1)) h2.1 h2.2) L10 set_list (by intro u;rfl)) (show Ô5 v (some (.Subscript (.Name n p) (.Constant (.int 0) c q) tp)) pos.line X.env=pure false from Q20 rfl) (by cases v <;> rfl)) λD σ H q=>?_
 obtain⟨zA,ow,ρ,z,rr,rw,st,ee,po⟩:=q;refine k80 rw.V70 st ee (po.ers rw) λl z1 e1=>?_;obtain⟨y,hy,e2⟩:=M.a40 e1;obtain⟨dy,hy1,hy2⟩:=Ð.mp hy;obtain⟨s,rfl,hs⟩:=h40 hy1;refine⟨s,rfl,λu H1 x1 st1 rv=>?_⟩;have e3:p91 ρ y ρ[i]? z1=some rr:=e2;unfold p91 at e3;split at e3
 ·rename_i p' hsl;cases e3;have r1:=rw.mono x1;obtain⟨w,k1,k2,a,rfl,rfl⟩:=r1.wor i .z hsl;have hu:u=.int y:=by
   have:=l02 rv hs;cases dy <;> first | (cases hy2;exact this.j10) | (cases hy2;done)
  subst hu;have st':H1 a=some (.lst [.int p'.1,.bl p'.2]):=st1.zat;refine⟨_,k1,a,[.int p'.1,.bl p'.2],0,0,rfl,rfl,st',rfl,?_⟩;have x2:Ext (some a) H1 (upd H1 a (.lst [.int y,.bl p'.2])):=by
   refine⟨λb o h=>?_,λb ps h=>⟨ps,by rw[a10 (λz=>by rw[z,st'] at h;cases h)];exact h⟩⟩
   obtain⟨h3,h4⟩:=m70 h;exact c70 (by rw[a10 (λz=>h4 (by rw[z]))];exact h3) h4 (k60 h)
  exact po (some a) ow σ _ (r1.mono x2) ⟨a60,λp hp=>Tab.upd (st1.tab p hp) st'⟩ (a30.trans (f40 x1.same) (f40 x2.same))
 ·cases e3
end
section
variable {K:Ã}{H0 H H':Hp}{zE zA:Option Ç}{ow:Nat->Option Ç}{ρ:Env}{σ:L2.St}
theorem RW.I62(r:RW K H0 zE zA ow H ρ σ):RW K H0 zE zA (ow0 ow i) H (ρ.set i none) (σ.set i (some v)):=by
 have sub:∀ j a,ow0 ow i j=some a->j≠i/\ow j=some a:=λj a e=>by
  unfold ow0 at e;split at e
  ·cases e
  ·rename_i n;exact⟨n,e⟩
 refine⟨by rw[Á3,Á3];exact r.len,λj k a h1 h2=>r.inj j k a (sub j a h1).2 (sub k a h2).2,λj a h1=>r.zne j a (sub j a h1).2,λj a h1=>?_,λj s e=>?_,r.ext,r.zok,λj a h1=>r.new j a (sub j a h1).2⟩
 ·obtain⟨n,h2⟩:=sub j a h1;obtain⟨xs,h3⟩:=r.own j a h2;exact⟨xs,by rw[Ù (À8 n)];exact h3⟩
 ·rcases getElem?_set' e with ⟨rfl,e1,hlt⟩ | ⟨n,e1⟩
  ·cases e1
  ·obtain⟨w,h1,h2⟩:=r.wor j s e1;exact⟨w,by rw[Ù (À8 n)];exact h1,h2.move (by unfold ow0;exact if_neg n) (r60 _ _) λ_ _=>rfl⟩
end
section
variable {K:Ã}
theorem u31{H:Hp}:∀ {xs:List D}{ys:List V},xs.length=ys.length->(∀ (i:Nat) (d:D) (v:V),xs[i]?=some d->ys[i]?=some v->Hd K H d v)->HdA K H xs ys
 |[],[],_,_=>.nil|[],_::_,h,_=>by simp at h|_::_,[],h,_=>by simp at h|x::xs,y::ys,h,g=>.cons (g 0 x y rfl rfl) (u31 (by simpa using h) λi d v h1 h2=>g (i + 1) d v (by simpa using h1) (by simpa using h2))
theorem b41{H:Hp}:∀ {l:List Int},HdA K H (l.map D.int) (l.map V.int)
 |[]=>.nil|_::_=>.cons Hd.int b41
theorem X11{zA:Option Ç}{H Hb H':Hp}{d:Ç}(hd:H d=none)(x:Ext zA (upd H d (.dK [])) Hb)(old:∀ b u,b≠d->Hb b=some u->H' b=some u):Ext zA H H':=by
 refine⟨λb o e=>?_,λb ps e=>?_⟩
 ·obtain⟨e1,e2⟩:=m70 e;have n:=a80 e1 hd;exact c70 (old b o n (x.at (by rw[a10 n];exact e1) e2 (k60 e))) e2 (k60 e)
 ·have n:=a80 e hd;obtain⟨qs,h⟩:=x.tbl b ps (by rw[a10 n];exact e)
  exact⟨qs,old b _ n h⟩
theorem N31{zA:Option Ç}{z:Z}{Hb H':Hp}{d:Ç}{kvs:List (Key × V)}(st:d80 zA z Hb)(hd:Hb d=some (.dK kvs))(old:∀ b u,b≠d->Hb b=some u->H' b=some u):d80 zA z H':=by
 have ne:∀ {b:Ç}{u:HO},Hb b=some u->(∀ l,u≠.dK l)->H' b=some u:=λ{b u} e n=>old b u (λq=>by rw[q,hd] at e;cases e;exact n _ rfl) e
 refine⟨?_,λp hp=>?_⟩
 ·have:=st.zat;cases zA with
  |none =>
   cases z with
   |none=>trivial|some pr=>exact this.elim
  |some a =>
   cases z with
   |none=>exact this.elim|some pr=>exact ne (show Hb a=some (.lst [.int pr.1,.bl pr.2]) from this) λ_ h=>nomatch h
 ·obtain⟨ps,e,tr,k⟩:=st.tab p hp;refine⟨ps,ne e (λ_ h=>nomatch h),tr,λpos c h=>?_⟩;obtain⟨c',e1,e2⟩:=k pos c h;exact⟨c',e1,ne e2 (λ_ h=>nomatch h)⟩
theorem GI.same{Hb H H':Hp}{d:Ç}{ts:List GT}(g:GI Hb d ts H)(s:a30 H H'):GI Hb d ts H':=⟨s _ _ g.dic,⟨g.ok.nd,λt ht=>s _ _ (g.ok.at_ t ht)⟩,g.new,λb u n e=>s _ _ (g.old b u n e)⟩
end
theorem u41:í "tuple"=some (.type "tuple"):=by decide +kernel
theorem Q30:∀ (l:List Int) (gs:List (Int × List Int)) (p:Nat) (m:Int),Z20 gs p (l++[m])=K90 (Z20 gs p l) m ((p + l.length:Nat):Int)
 |[],_,_,_=>rfl
 |x::r,gs,p,m=>by
  show Z20 (K90 gs x p) (p + 1) (r++[m])=K90 (Z20 (K90 gs x p) (p + 1) r) m _;rw[Q30 r,à,show p + 1 + r.length=p + (r.length + 1) by omega]
theorem ints_map:∀ {l:List D}{ns:List Int},o30 l=some ns->l=ns.map D.int
 |[],_,h=>by cases h;rfl
 |.int i::r,ns,h=>by
  obtain⟨ms,h1,rfl⟩:=Í.mp (show(o30 r).map (i::·)=some ns from h);rw[ints_map h1];rfl
 |.bl _::_,_,h=>by cases h
 |.non::_,_,h=>by cases h
 |.str _::_,_,h=>by cases h
 |.tup _::_,_,h=>by cases h
 |.lst _::_,_,h=>by cases h
theorem X21{ds:List D}{s:S}(h:T01 ds=some s):∃ ns:List Int,ds=[.lst (ns.map D.int)]/\ns.length < 1000/\s=.fr (u60 ns):=by
 unfold T01 at h;split at h
 ·split at h
  ·rename_i ns hn;split at h
   ·rename_i hl;cases h;exact⟨ns,by rw[ints_map hn],hl,rfl⟩
   ·cases h
  ·cases h
 ·cases h
theorem u51:∀ {l:List Int}{t n:Nat}{m:Int},l[t]?=some m->(t10 (l.map D.int) n)[t]?=some (.tup [.int ((n + t:Nat):Int),.int m])
 |[],_,_,_,h=>by simp at h|x::r,0,n,m,h=>by cases h;rfl
 |x::r,t + 1,n,m,h=>by
  show(t10 (r.map D.int) (n + 1))[t]?=_;rw[u51 (l:=r) (t:=t) (by simpa using h),show n + 1 + t=n + (t + 1) by omega]
theorem u61:∀ (ts:List GT) (m p:Int) (q:Ç),(N70 ts m p q).length<=ts.length + 1
 |[],_,_,_=>Ë _
 |t::r,m,p,q=>by
  unfold N70;split
  ·exact le_succ _
  ·rw[à,à];exact Ó8 (u61 r m p q)
theorem N41{c:Nat}:∀ {ts:List GT}{m p:Int}{q:Ç},(∀ t∈ts,t.2.1.length<=c)->∀ t∈N70 ts m p q,t.2.1.length<=c + 1
 |[],m,p,q,_,t,ht=>by
  have e:t=(m,[p],q):=by simpa [N70] using ht
  subst e;exact Nat.le_add_left 1 c
 |u::r,m,p,q,h,t,ht=>by
  unfold N70 at ht;split at ht
  ·rcases Ü.mp ht with rfl | ht
   ·show(u.2.1++[p]).length<=_;rw[À6];exact Ó8 (h u Ê)
   ·exact Nat.le_succ_of_le (h t (È _ ht))
  ·rcases Ü.mp ht with rfl | ht
   ·exact Nat.le_succ_of_le (h _ Ê)
   ·exact N41 (λt ht=>h t (È _ ht)) t ht
section
variable {lm:Bool}{X:Cx}{G:Gs}{E:XK}{N:List Str}{sc:ø}{cn:List Str}{H0:Hp}{zE:Option Ç}
theorem y42(x:XS lm X G E N sc cn){i j k:Nat}{y a b g:Str}{csc:ø}{src:Ex}{se:Ò}{p1 p2 p3 p4 p5 p6 p7 p8 p9 q1 q2 q3 q4 q5 q6 q7 q8 q9 r1 r2 r3 r4 r5 r6 r7 r8 r9:Pos}{ek:Nat}
  (hi:N[i]?=some y) (hj:N[j]?=some a) (hk:N[k]?=some b) (ly:w60 sc y=true) (la:w60 sc a=true) (lb:w60 sc b=true) (ny:c50 y=true) (na:c50 a=true) (nb:c50 b=true) (ng:c50 g=true)
  (hij:i≠j) (hik:i≠k) (hjk:j≠k) (he:glob sc "enumerate"=true) (ht:glob csc "tuple"=true) (ge:Good X G E (.cons src .nil) [se]) (cc:a62 csc sc N [g] [])
  (l1:(q1.endLine == q2.line)=true) (l2:(q3.endLine == q4.line)=true) (l3:(q5.endLine == q6.line)=true) :
  PSs X [.Assign [.Name y p1] (.Dict [] [] p2) p3,.For (.Tuple [.Name a p4,.Name b p5] ek p6) (.Call (.Name "enumerate" p7) [se] [] p8) [.Expr (.Call (.Attribute (.Call (.Attribute (.Name y p9) "setdefault" q1) [.Name b q7,.List [] q8] [] q2) "append" q3) [.Name a q9] [] q4) r1] [] r2,
   .Return (some (.ListComp (.Call (.Name "tuple" r3) [.Name g r4] [] r5) [⟨.Name g r6,.Call (.Attribute (.Name y r7) "values" q5) [] [] q6,[],0⟩] csc r8)) r9]
   (tX X.K G E H0 zE (.grp i j k src)):=by
 unfold c50 at ny na nb ng;simp only[Á,ú] at ny na nb ng;have Lc:=x.loc;obtain⟨k1,k2,k3⟩:=c90 ht;have hp:h70 N (w60 sc) (.tup (.cons (.v j) (.cons (.v k) .nil))) (.Tuple [.Name a p4,.Name b p5] ek p6)=true:=by
  simp[h70,Z80,noStar,hj,hk,la,lb]
 refine PSs.imp (f90 (q30 (by rw[x.hN];exact x.nd) (by rw[x.hN];exact hi) (Lc.lc y ly) n01 rfl (Lc.fn y ly))
  (f90 (k01 x.own x.calm (I80 x.toXI rfl rfl he rfl ge) (h61 x.loc hp)
   (E60 (S70 (Q01 Ü9 Ü3 Ü2 M50
    (Q01 Ý0 Ù7 PySem.F.type_dict_setdefault R91 (k20 (i:=i) (by rw[x.hN];exact hi) (x.vis y (å hi)) ny.1 ny.2)
     (d20 (k20 (i:=k) (by rw[x.hN];exact hk) (x.vis b (å hk)) nb.1 nb.2) (d20 (k61 k40) k40)) rfl rfl l1 rfl rfl)
    (d20 (k20 (i:=j) (by rw[x.hN];exact hj) (x.vis a (å hj)) na.1 na.2) k40) rfl rfl l2 rfl rfl) (r70 rfl none))) (λ_=>rfl))
  (E60 (L30 (T20 (te:=B52 X.K 0) x.calm (t41 x.toXI cc) (S11 (k20 (i:=i) (by rw[x.hN];exact hi) (x.vis y (å hi)) ny.1 ny.2) l3)
   (λcl C s H fp=>S80 (i:=0) (x:=g) (by simp[d60]) rfl ((J00 x.toXI cc cl C s H fp).lc g (by simp)) ((J00 x.toXI cc cl C s H fp).fn g (by simp)))
   (λcl C s H fp=>l81)
   (λcl C s H fp=>x50 (T:="tuple") q50 ((I90 x.toXI cc cl C s H fp).glb _ k1) (x.blt _ (-0)) u41 (d20 (k20 (i:=0) (x:=g) (by simp[d60]) ((I90 x.toXI cc cl C s H fp).vis g (by simp)) ng.1 ng.2) k40))
   (λ_=>rfl)))))) λD σ H q=>?_
 obtain⟨zA,ow,ρ,z,rr,rw,st,ee,po⟩:=q;have e0:(if i < ρ.length/\j < ρ.length/\k < ρ.length then M.bind (ev G.F (.cons src .nil) (ρ.set i none)) (λl=>M.bind (M.of ((plA l).bind T01)) λs=>M.ret (.rt s)) else M.no) z=some rr:=ee;by_cases il:i < ρ.length/\j < ρ.length/\k < ρ.length
 rotate_left
 ·rw[if_neg il] at e0;cases e0
 rw[if_pos il] at e0;refine λd hd=>?_;have s0:a30 H (upd H d (.dK [])):=a30.new _ hd;have rw1:=(rw.mono (Ext.of s0)).I62 (i:=i) (v:=.ref d);have st1:=st.same s0;have dz:zA≠some d:=st.Z40 hd;have hil:i < σ.length:=by rw[← rw.len];exact il.1
 have hjl:j < σ.length:=by rw[← rw.len];exact il.2.1
 have hkl:k < σ.length:=by rw[← rw.len];exact il.2.2
 rcases M.bind_some e0 with ⟨l,z1,e1,e2⟩ | ⟨c,z1,e1,e2⟩
 rotate_left
 ·subst e2;exact⟨zA,_,z,_,rw1.V70,st1,e1,po.er_ rw1⟩
 obtain⟨s,hs,e3⟩:=M.a40 e2;cases e3;obtain⟨ds,h1,h2⟩:=Ð.mp hs;obtain⟨ns,rfl,nl,rfl⟩:=X21 h2;refine⟨zA,_,z,_,rw1.V70,st1,e1,t10 (ns.map L2.D.int) 0,by rw[h1];rfl,λJ Hb x1 stb IT=>?_⟩
 have hbd:Hb d=some (.dK []):=x1.at a60 dz;have hzd:hz zA Hb d=some (.dK []):=c70 hbd dz;have IB:=IT (λy=>∃ n,y=.int n) (hide d (hz zA Hb)) (d70 _ _) (λa' ys h=>by
   rcases h with (h | ⟨o,h⟩) | h
   ·exact .inl (.inl (l50 h λz=>by rw[z,hzd] at h;cases h))
   ·exact .inl (.inr ⟨o,l50 h λz=>by rw[z,hzd] at h;cases h⟩)
   ·exact .inr h) (λd' v ⟨n,e⟩ h=>by subst e;rw[h.j10];exact Hd.int) (λds' e' d' hd'=>by
   rw[h1] at e';cases e';have e:d'=.lst (ns.map L2.D.int):=by simpa using hd'
   subst e;exact λy hy=>by obtain⟨n,_,e⟩:=Þ.mp hy;exact⟨n,e.symm⟩) (λa' ys h _=>by
   rcases h with (h | ⟨o,h⟩) | h
   ·exact .inl (.inl (l50 h λz=>by rw[z,hzd] at h;cases h))
   ·exact .inl (.inr ⟨o,l50 h λz=>by rw[z,hzd] at h;cases h⟩)
   ·exact .inr h)
 refine⟨λt m σ' H'=>m=ns.length - t/\t<=ns.length/\σ'[i]?=some (some (.ref d))/\σ'.length=σ.length/\∃ ts,GI Hb d ts H'/\gsT ts=Z20 [] 0 (ns.take t)/\ts.length<=t/\∀ u∈ts,u.2.1.length<=t,
  ⟨_,rfl,Æ7 _,ã hil,Á3,[],⟨hbd,⟨List.nodup_nil,λ_ h=>nomatch h⟩,λ_ h=>(nomatch h),λb u n e=>e⟩,rfl,Ë _,λ_ h=>nomatch h⟩,?_⟩
 rintro t m σ' H' ⟨rfl,tn,hs1,hs2,ts,gi,gs,tl,tb⟩;have sB:a30 (hide d (hz zA Hb)) (hz zA H'):=λb o e=>by
  have n:b≠d:=λz=>by rw[z] at e;unfold hide at e;rw[if_pos rfl] at e;cases e
  have e':=d70 _ _ b o e;obtain⟨e1,e2⟩:=m70 e';exact c70 (gi.old b o n e1) e2 (k60 e')
 have stH:d80 zA z1 H':=N31 stb hbd gi.old;have big:1000<=sizeLine:=by rw[ò];decide
 by_cases e:t=ns.length
 ·subst e;refine .inl ⟨by have:=IB.stop H' (a30.trans sB (a00 zA H'));rw[r50,Ì] at this;exact this,?_⟩
  refine⟨d,kvG ts,hs1,gi.dic,λo H2 hk2 hd2=>?_⟩;have nd:∀ u∈ts,u.2.2≠d:=λu hu q=>by have:=gi.ok.at_ u hu;rw[q,gi.dic] at this;cases this
  refine S31 (by show 0 < 1;decide) ∅ ⟨hd2,⟨gi.ok.nd,λu hu=>hk2 _ _ (nd u hu) (gi.ok.at_ u hu)⟩,λb u n e=>hk2 b u n (gi.old b u n e),rfl,λ_ _ h=>nomatch h⟩ λys H3 p ge3 hp3=>?_
  have x3:Ext zA H H3:=X11 hd x1 ge3.old;have st3:d80 zA z1 H3:=N31 stb hbd ge3.old;have gd:u60 ns=ts.map λu=>.tup (u.2.1.map L2.D.int):=by
   unfold u60;rw[List.take_length] at gs;rw[← gs];unfold gsT;rw[ë];rfl
  have hda:HdA X.K (hz zA H3) (u60 ns) ys:=by
   rw[gd];refine u31 (by rw[Ì,ge3.len]) λn d' v q1 q2=>?_
   obtain⟨a',u,rfl,q3,q4⟩:=ge3.tup n v q2;rw[Ö,q3] at q1;cases q1;exact Hd.tup (st3.L61 (SqT.of q4)) b41
  have x4:=x3.trans (Ext.of (a30.new (.lst ys) hp3));exact po _ _ (λh=>nomatch h) (b31 rw.ext rw.zok x4) (W41 rw.zok (st3.same (a30.new _ hp3))) (rw.out (λh=>nomatch h) x4 ((k70 st3 hda hp3).from x3))
 ·have hlt:t < ns.length:=Nat.lt_of_le_of_ne tn e;refine .inr ⟨IB.go t H' (a30.trans sB (a00 zA H')) (by rw[r50,Ì];exact hlt),λσ2 H2=>σ2[i]?=some (some (.ref d))/\σ2.length=σ.length/\∃ ts,GI Hb d ts H2/\gsT ts=Z20 [] 0 (ns.take (t + 1))/\ts.length<=t + 1/\∀ u∈ts,u.2.1.length<=t + 1,λσ2 H2 q=>⟨ns.length - (t + 1),by omega,rfl,hlt,q⟩,λx' H'' y'=>?_⟩
  obtain⟨s1,hdx⟩:=IB.yld t H' x' H'' zA z1 _ sB stH y' (u51 (á hlt));obtain⟨T,us,rfl,m1,m2⟩:=(hdx (hz zA H'') (a30.trans sB (g80 s1)) λ_ _ q=>q).u70;obtain⟨u1,r,rfl,w1,w2⟩:=m2.c00;obtain⟨u2,rfl,w3⟩:=w2.one;have f1:=w1.j10;have f2:=w3.j10;subst f1 f2;refine⟨T,_,rfl,(a00 zA H'').sqT m1,rfl,_,_,rfl,_,_,rfl,rfl,?_⟩;have jl:j < σ'.length:=by rw[hs2];exact hjl
  have kl:k < σ'.length:=by rw[hs2];exact hkl
  refine S21 (GI.same gi s1) (by rw[Ù (À8 hik),Ù (À8 hij)];exact hs1) (by rw[Ù (À8 hjk),ã jl]) (by rw[ã (by rw[Á3];exact kl)]) ∅ (λu hu=>by have:=tb u hu;omega) λq H3 g3=>?_
  refine⟨by rw[Ù (À8 hik),Ù (À8 hij)];exact hs1,by rw[Á3,Á3];exact hs2,_,g3,?_,â (u61 _ _ _ _) (Ó8 tl),N41 tb⟩
  rw[L31,gs,List.take_succ_eq_append_getElem hlt,Q30,Ê8,Õ9 tn]
def I72:(s:Ã8)->Option {u:Str × Pos × Pos × Pos // s=.Assign [.Name u.1 u.2.1] (.Dict [] [] u.2.2.1) u.2.2.2}
 |.Assign [.Name y p] (.Dict [] [] q) r=>some ⟨(y,p,q,r),rfl⟩|_=>none
def I82:(s:Ã8)->Option {u:Str × Pos × Str × Pos × Nat × Pos × Ò × Ã8 × Pos // s=.For (.Tuple [.Name u.1 u.2.1,.Name u.2.2.1 u.2.2.2.1] u.2.2.2.2.1 u.2.2.2.2.2.1) u.2.2.2.2.2.2.1 [u.2.2.2.2.2.2.2.1] [] u.2.2.2.2.2.2.2.2}
 |.For (.Tuple [.Name a p,.Name b q] k r) it [s] [] f=>some ⟨(a,p,b,q,k,r,it,s,f),rfl⟩|_=>none
def C92:(e:Ò)->Option {u:Str × Pos × Ò × Pos // e=.Call (.Name u.1 u.2.1) [u.2.2.1] [] u.2.2.2}
 |.Call (.Name n p) [v] [] q=>some ⟨(n,p,v,q),rfl⟩|_=>none
def I92:(s:Ã8)->Option {u:Ò × Str × Pos × Str × Pos × Pos × Pos // s=.Expr (.Call (.Attribute u.1 u.2.1 u.2.2.1) [.Name u.2.2.2.1 u.2.2.2.2.1] [] u.2.2.2.2.2.1) u.2.2.2.2.2.2}
 |.Expr (.Call (.Attribute o n p) [.Name a q] [] r) f=>some ⟨(o,n,p,a,q,r,f),rfl⟩|_=>none
def J02:(e:Ò)->Option {u:Str × Pos × Str × Pos × Str × Pos × Pos × Pos // e=.Call (.Attribute (.Name u.1 u.2.1) u.2.2.1 u.2.2.2.1) [.Name u.2.2.2.2.1 u.2.2.2.2.2.1,.List [] u.2.2.2.2.2.2.1] [] u.2.2.2.2.2.2.2}
 |.Call (.Attribute (.Name y p) n q) [.Name b r,.List [] f] [] g=>some ⟨(y,p,n,q,b,r,f,g),rfl⟩|_=>none
def J12:(s:Ã8)->Option {u:Ò × Str × Pos × Ò × ø × Pos × Pos // s=.Return (some (.ListComp u.1 [⟨.Name u.2.1 u.2.2.1,u.2.2.2.1,[],0⟩] u.2.2.2.2.1 u.2.2.2.2.2.1)) u.2.2.2.2.2.2}
 |.Return (some (.ListComp e [⟨.Name g p,it,[],0⟩] c q)) r=>some ⟨(e,g,p,it,c,q,r),rfl⟩|_=>none
def J22:(e:Ò)->Option {u:Str × Pos × Str × Pos × Pos // e=.Call (.Attribute (.Name u.1 u.2.1) u.2.2.1 u.2.2.2.1) [] [] u.2.2.2.2}
 |.Call (.Attribute (.Name y p) n q) [] [] r=>some ⟨(y,p,n,q,r),rfl⟩|_=>none
def J32:(e:Ò)->Option {u:Str × Pos // e=.Name u.1 u.2}
 |.Name y p=>some ⟨(y,p),rfl⟩|_=>none
def J42:(ss:List Ã8)->Option {u:Ã8 × Ã8 × Ã8 // ss=[u.1,u.2.1,u.2.2]}
 |[a,b,c]=>some ⟨(a,b,c),rfl⟩|_=>none
def D02(lm:Bool)(fns:List (Str × List Str))(nums:List (Str × Int))(sc:ø)(N:List Str)(i j k:Nat)(src:Ex)(ss:List Ã8):Bool:=opt (J42 ss) λt=>opt (I72 t.1.1) λd=>opt (I82 t.1.2.1) λf=>opt (C92 f.1.2.2.2.2.2.2.1) λn=>opt (I92 f.1.2.2.2.2.2.2.2.1) λb=>opt (J02 b.1.1) λs=>opt (J12 t.1.2.2) λr=>opt (J22 r.1.2.2.2.1) λv=>opt (C92 r.1.1) λe=>opt (J32 e.1.2.2.1) λg =>
 N[i]? == some d.1.1&&N[j]? == some f.1.1&&N[k]? == some f.1.2.2.1&&w60 sc d.1.1&&w60 sc f.1.1&&w60 sc f.1.2.2.1&&c50 d.1.1&&c50 f.1.1&&c50 f.1.2.2.1&&c50 g.1.1&&i != j&&i != k&&j != k&&glob sc "enumerate"&&glob r.1.2.2.2.2.1 "tuple"&&mt lm fns nums (.cons src .nil) sc N [n.1.2.2.1]&&O80 r.1.2.2.2.2.1 sc N [g.1.1] [] &&
 s.1.2.2.2.1.endLine == s.1.2.2.2.2.2.2.2.line&&b.1.2.2.1.endLine == b.1.2.2.2.2.2.1.line&&v.1.2.2.2.1.endLine == v.1.2.2.2.2.line&&s.1.1 == d.1.1&&v.1.1 == d.1.1&&b.1.2.2.2.1 == f.1.1&&s.1.2.2.2.2.1 == f.1.2.2.1&&r.1.2.1 == g.1.1&&n.1.1 == ("enumerate":Str)&&s.1.2.2.1 == ("setdefault":Str)&&b.1.2.1 == ("append":Str)&&e.1.1 == ("tuple":Str)&&v.1.2.2.1 == ("values":Str)
theorem y52(x:XS lm X G E N sc cn){i j k:Nat}{src:Ex}{ss:List Ã8}(h:D02 lm G.fns G.nums sc N i j k src ss=true):PSs X ss (tX X.K G E H0 zE (.grp i j k src)):=by
 obtain⟨⟨⟨s1,s2,s3⟩,rfl⟩,-,h⟩:=a50 h;dsimp only at h;obtain⟨⟨⟨y,p1,p2,p3⟩,rfl⟩,-,h⟩:=a50 h;obtain⟨⟨⟨a,p4,b,p5,ek,p6,it,st,r2⟩,rfl⟩,-,h⟩:=a50 h;dsimp only at h;obtain⟨⟨⟨en,p7,se,p8⟩,rfl⟩,-,h⟩:=a50 h;obtain⟨⟨⟨o,ap,q3,a2,q9,q4,r1⟩,rfl⟩,-,h⟩:=a50 h;dsimp only at h;obtain⟨⟨⟨y2,p9,sd,q1,b2,q7,q8,q2⟩,rfl⟩,-,h⟩:=a50 h;obtain⟨⟨⟨el,g2,r6,iv,csc,r8,r9⟩,rfl⟩,-,h⟩:=a50 h;dsimp only at h;obtain⟨⟨⟨y3,r7,va,q5,q6⟩,rfl⟩,-,h⟩:=a50 h;obtain⟨⟨⟨tu,r3,ev',r5⟩,rfl⟩,-,h⟩:=a50 h;dsimp only at h;obtain⟨⟨⟨g,r4⟩,rfl⟩,-,h⟩:=a50 h;dsimp only at h;rw[Á] at h;obtain⟨h,h30⟩:=h;rw[Á] at h;obtain⟨h,h29⟩:=h;rw[Á] at h;obtain⟨h,h28⟩:=h;rw[Á] at h;obtain⟨h,h27⟩:=h;rw[Á] at h;obtain⟨h,h26⟩:=h;rw[Á] at h;obtain⟨h,h25⟩:=h;rw[Á] at h;obtain⟨h,h24⟩:=h;rw[Á] at h;obtain⟨h,h23⟩:=h;rw[Á] at h;obtain⟨h,h22⟩:=h;rw[Á] at h;obtain⟨h,h21⟩:=h;rw[Á] at h;obtain⟨h,h20⟩:=h;rw[Á] at h;obtain⟨h,h19⟩:=h;rw[Á] at h;obtain⟨h,h18⟩:=h;rw[Á] at h;obtain⟨h,h17⟩:=h;rw[Á] at h;obtain⟨h,h16⟩:=h;rw[Á] at h;obtain⟨h,h15⟩:=h;rw[Á] at h;obtain⟨h,h14⟩:=h;rw[Á] at h;obtain⟨h,h13⟩:=h;rw[Á] at h;obtain⟨h,h12⟩:=h;rw[Á] at h;obtain⟨h,h11⟩:=h;rw[Á] at h;obtain⟨h,h10⟩:=h;rw[Á] at h;obtain⟨h,h9⟩:=h;rw[Á] at h;obtain⟨h,h8⟩:=h;rw[Á] at h;obtain⟨h,h7⟩:=h;rw[Á] at h;obtain⟨h,h6⟩:=h;rw[Á] at h;obtain⟨h,h5⟩:=h;rw[Á] at h;obtain⟨h,h4⟩:=h;rw[Á] at h;obtain⟨h,h3⟩:=h;rw[Á] at h;obtain⟨h1,h2⟩:=h;rw[beq_iff_eq] at h1 h2 h3;rw[bne_iff_ne] at h11 h12 h13;obtain rfl:y=y2:=(eq_of_beq h21).symm;obtain rfl:y=y3:=(eq_of_beq h22).symm;obtain rfl:a=a2:=(eq_of_beq h23).symm;obtain rfl:b=b2:=(eq_of_beq h24).symm;obtain rfl:g=g2:=(eq_of_beq h25).symm;obtain rfl:en="enumerate":=eq_of_beq h26;obtain rfl:sd="setdefault":=eq_of_beq h27;obtain rfl:ap="append":=eq_of_beq h28;obtain rfl:tu="tuple":=eq_of_beq h29;obtain rfl:va="values":=eq_of_beq h30;exact y42 x h1 h2 h3 h4 h5 h6 h7 h8 h9 h10 h11 h12 h13 h14 h15 (sound G (.cons src .nil) x.toXI h16) (k52 h17) h18 h19 h20
def y62(K:Ã)(i:Nat):TI:=λσ H R=>∃ a,σ[i]?=some (some (.ref a))/\((∃ ys,SqT K H a ys)/\R (Itt K a) H∨(∃ ys,SqL K H a ys)/\R (Itl K a) H)
theorem l32(x:XI lm X G E N sc){tg:Ò}{i:Nat}{n:Str}{pos:Pos}(h1:N[i]?=some n)(h2:c50 n=true):PI X tg (.Name n pos) (y62 X.K i):=by
 unfold c50 at h2;simp only[Á,ú] at h2;have hv:PE X (.Name n pos) (J91 i):=k20 (i:=i) (by rw[x.hN];exact h1) (x.vis n (å h1)) h2.1 h2.2
 intro pins s σ H R I q;obtain⟨a,k,q | q⟩:=q
 ·exact K31 hv pins s σ H R I ⟨_,k,a,rfl,q.1,q.2⟩
 ·exact S90 hv pins s σ H R I ⟨_,k,a,rfl,q.1,q.2⟩
def fBody(F:FT)(tp:Bool)(p:Pat)(b:Sm):D->Env->M O:=λx ρ=>M.bind (M.of (e70 p x ρ)) λρ=>ex F tp b ρ
theorem A10:∀ {l:List D}{d:D},r10 l=true->d∈l->bare d=true
 |x::r,d,h,hd=>by
  simp only[r10,Á] at h;rcases Ü.mp hd with rfl | hd
  ·exact h.1
  ·exact A10 h.2 hd
theorem b51{p:Pat}{b:Sm}{J:L2.It}{xs:List D}{B:Hp}{D:Ends}{σ:L2.St}{H:Hp}{zA:Option Ç}{ow:Nat->Option Ç}{ρ:Env}{z:Z}{rr:R O}(IT:ItB X.K J xs B)
  (rw:RW X.K H0 zE zA ow H ρ σ) (st:d80 zA z H) (sm:a30 B (hw ow (hz zA H))) (ee:S50 (fBody G.F zE.isNone p b) xs ρ z=some rr) (po:t50 X.K G E H0 zE (hw ow (hz zA H)) D rr) :
  ∃ W:Nat->Nat->L2.St->Hp->Prop,(∃ m,W 0 m σ H)/\∀ i m σ H,W i m σ H ->
   (J.stop i H/\D.nx σ H)∨(J.go i H/\∃ Nn:L2.St->Hp->Prop,(∀ σ' H',Nn σ' H'->∃ m',m' < m/\W (i + 1) m' σ' H')/\∀ x H',J.yld i H x H'->gP X.K p x σ H' λσ2 H2=>tX X.K G E H0 zE b { D with nx:=Nn,ct:=Nn,bk:=D.nx } σ2 H2):=by
 refine⟨λi m σ H=>m=xs.length - i/\i<=xs.length/\∃ zA ow ρ z r,RW X.K H0 zE zA ow H ρ σ/\d80 zA z H/\a30 B (hw ow (hz zA H))/\S50 (fBody G.F zE.isNone p b) (xs.drop i) ρ z=some r/\t50 X.K G E H0 zE (hw ow (hz zA H)) D r,
  ⟨xs.length,by simp,Æ7 _,zA,ow,ρ,z,rr,rw,st,sm,by simpa using ee,po⟩,?_⟩
 rintro i m σ H ⟨rfl,hi,zA,ow,ρ,z,rr,rw,st,sm,ee,po⟩;have sH:a30 B H:=a30.trans sm (a30.trans j70 (a00 zA H));by_cases hlt:i < xs.length
 ·refine .inr ⟨IT.go i H sH hlt,λσ' H'=>∃ zA ow ρ z r,RW X.K H0 zE zA ow H' ρ σ'/\d80 zA z H'/\a30 B (hw ow (hz zA H'))/\S50 (fBody G.F zE.isNone p b) (xs.drop (i + 1)) ρ z=some r/\t50 X.K G E H0 zE (hw ow (hz zA H')) D r,
   λσ' H' h=>⟨xs.length - (i + 1),by omega,rfl,hlt,h⟩,λx H' y=>?_⟩
  have hd0:xs[i]?=some xs[i]:=á hlt;obtain⟨s1,hd⟩:=IT.yld i H x H' zA z _ (a30.trans sm j70) st y hd0;rw[Ð1 hlt] at ee;have e0:M.bind (fBody G.F zE.isNone p b xs[i] ρ) (λo=>match o with | .nx ρ=>S50 (fBody G.F zE.isNone p b) (xs.drop (i + 1)) ρ | .rt s=>M.ret (.rt s)) z=some rr:=ee
  have r1:=rw.mono (Ext.of s1);have st1:=st.same s1;have sm1:a30 (hw ow (hz zA H)) (hw ow (hz zA H')):=f40 (g80 s1);have hd1:=hd (hw ow (hz zA H')) (a30.trans sm sm1) λ_ _ q=>t71 q r1.W31;have fin:∀ {ρ1:Env}{o:O}{z1:Z},e70 p xs[i] ρ=some ρ1->ex G.F zE.isNone b ρ1 z=some (.ok o z1)->(match o with | .nx ρ=>S50 (fBody G.F zE.isNone p b) (xs.drop (i + 1)) ρ | .rt s=>M.ret (.rt s)) z1=some rr->gP X.K p x σ H' λσ2 H2=>tX X.K G E H0 zE b { D with nx:=λσ' H'=>∃ zA ow ρ z r,RW X.K H0 zE zA ow H' ρ σ'/\d80 zA z H'/\a30 B (hw ow (hz zA H'))/\S50 (fBody G.F zE.isNone p b) (xs.drop (i + 1)) ρ z=some r/\t50 X.K G E H0 zE (hw ow (hz zA H')) D r,ct:=λσ' H'=>∃ zA ow ρ z r,RW X.K H0 zE zA ow H' ρ σ'/\d80 zA z H'/\a30 B (hw ow (hz zA H'))/\S50 (fBody G.F zE.isNone p b) (xs.drop (i + 1)) ρ z=some r/\t50 X.K G E H0 zE (hw ow (hz zA H')) D r,bk:=D.nx } σ2 H2:=λ{ρ1 o z1} hbp e1 e2=>by
   refine H41 hbp r1 hd1 λow' σ' r2 sm2=>⟨zA,ow',ρ1,z,_,r2,st1,e1,?_⟩;cases o with
   |nx ρ2=>exact λzA3 ow3 σ3 H3 r3 st3 sm3=>⟨zA3,ow3,ρ2,z1,rr,r3,st3,a30.trans sm (a30.trans sm1 (a30.trans sm2 sm3)),e2,po.mono (a30.trans sm1 (a30.trans sm2 sm3))⟩|rt s=>cases e2;exact po
  rcases M.bind_some e0 with ⟨o,z1,e1,e2⟩ | ⟨c,z1,e1,e2⟩
  ·obtain⟨ρ1,hbp,e3⟩:=M.a40 e1;exact fin hbp e3 e2
  ·subst e2;obtain⟨ρ1,hbp,e3⟩:=M.a40 e1;exact H41 hbp r1 hd1 λow' σ' r2 sm2=>⟨zA,ow',ρ1,z,_,r2,st1,e3,po⟩
 ·have e:i=xs.length:=by omega
  subst e;rw[Ö1] at ee;cases ee;exact .inl ⟨IT.stop H sH,po zA ow σ H rw st (a30.refl _)⟩
theorem l42(x:XS lm X G E N sc cn){p:Pat}{i:Nat}{n:Str}{b:Sm}{tg:Ò}{body:List Ã8}{np pos:Pos}(hp:h70 N (w60 sc) p tg=true)(h1:N[i]?=some n)(h2:c50 n=true)(hb:PSs X body (tX X.K G E H0 zE b)) :
  PS X (.For tg (.Name n np) body [] pos) (tX X.K G E H0 zE (.fr p .seq (.cons (.var i) .nil) b)):=by
 refine PS.imp (k01 x.own x.calm (l32 x.toXI h1 h2) (h61 x.loc hp) hb (λ_=>rfl)) λD σ H q=>?_;obtain⟨zA,ow,ρ,z,rr,rw,st,ee,po⟩:=q;have e0:M.bind (M.bind (match ρ[i]? with | some (some s)=>M.ret [plS s] | _=>M.no) λx=>M.bind (M.of (one x)) λs=>M.bind (ev G.F .nil ρ) λy=>M.ret (s::y)) (λl=>M.bind (M.of ((plA l).bind (itD .seq))) λxs=>S50 (fBody G.F zE.isNone p b) xs (p71 .seq (.cons (.var i) .nil) l ρ)) z=some rr:=ee
 cases hs:ρ[i]? with
 |none=>rw[hs] at e0;cases e0
 |some o =>
  cases o with
  |none=>rw[hs] at e0;cases e0
  |some s =>
   rw[hs] at e0;have e1:M.bind (M.of ((plA [plS s]).bind (itD .seq))) (λxs=>S50 (fBody G.F zE.isNone p b) xs ((ρ.set i ((ρ[i]?.getD none).map plS)).map (O00 (O20 [plS s])))) z=some rr:=e0;obtain⟨xs,hx,e2⟩:=M.a40 e1;have r1:=rw.plain i;have sm:=r60 (H:=hz zA H) ow i;have hi:i < ρ.length:=(ä.mp hs).1;have hsl:(ρ.set i ((ρ[i]?.getD none).map plS))[i]?=some (some (plS s)):=by rw[ã hi,hs];rfl
   obtain⟨w,k1,k2⟩:=r1.wor i _ hsl;obtain⟨ds,h3,h4⟩:=Ð.mp hx;obtain⟨d,rfl,h5⟩:=s71 h3;have hd:Hd X.K (hw (ow0 ow i) (hz zA H)) d w:=by
    cases s with
    |d y=>cases h5;exact k2.2
    |fr ys=>cases h5;exact k2.2
    |_=>cases h5
   obtain⟨ow',r2,sm2⟩:∃ ow',RW X.K H0 zE zA ow' H ((ρ.set i ((ρ[i]?.getD none).map plS)).map (O00 (O20 [plS s]))) σ/\a30 (hw (ow0 ow i) (hz zA H)) (hw ow' (hz zA H)):=by
    rw[O10];cases O20 [plS s] with
    |true=>exact⟨_,r1,a30.refl _⟩|false=>exact⟨_,r1.U00,A00 _⟩
   cases d with
   |tup l =>
    cases h4;obtain⟨a,ys,rfl,m1,m2⟩:=hd.u70;exact⟨a,k1,.inl ⟨⟨ys,(a00 zA H).sqT (a30.sqT j70 m1)⟩,b51 (s41 m1 m2) r2 st sm2 e2 (po.mono (a30.trans sm sm2))⟩⟩
   |lst l =>
    cases h4;obtain⟨a,ys,rfl,m1,m2⟩:=hd.S60;exact⟨a,k1,.inr ⟨⟨ys,((m1.same j70).same (a00 zA H)).sq⟩,b51 (a81 m1 m2) r2 st sm2 e2 (po.mono (a30.trans sm sm2))⟩⟩
   |_=>cases h4
theorem y72(x:XS lm X G E N sc cn){p:Pat}{it:It}{src:Ex}{b:Sm}{tg iter:Ò}{body:List Ã8}{pos:Pos}(hp:h70 N (w60 sc) p tg=true)(hi:PI X tg iter (tIt X.K G E it src))(hns:w10 iter=true)(hv:T21 it src=none)(hb:PSs X body (tX X.K G E H0 zE b)) :
  PS X (.For tg iter body [] pos) (tX X.K G E H0 zE (.fr p it src b)):=by
 refine PS.imp (k01 x.own x.calm hi (h61 x.loc hp) hb (t51 hns X.env)) λD σ H q=>?_;obtain⟨zA,ow,ρ,z,rr,rw,st,ee,po⟩:=q;have e0:M.bind (ev G.F src ρ) (λl=>M.bind (M.of ((plA l).bind (itD it))) λxs=>S50 (fBody G.F zE.isNone p b) xs ((O30 it src l ρ).map (O00 (O20 l)))) z=some rr:=ee;rcases M.bind_some e0 with ⟨l,z1,e1,e2⟩ | ⟨c,z1,e1,e2⟩
 ·obtain⟨xs,hx,e3⟩:=M.a40 e2;refine⟨zA,ρ,z,_,rw.V70,st,e1,xs,hx,λJ H1 x1 st1 IT=>?_⟩;have r1:=rw.mono x1;have frz:S50 (fBody G.F zE.isNone p b) xs (U00 ρ) z1=some rr->_:=λe3=>b51 (G:=G) (E:=E) (D:=D) (IT (λ_=>True) (hz zA H1) (a30.refl _) (λ_ _ q=>q) (λ_ _ _ q=>q) (λds hds d hd=>by cases d <;> first | trivial | exact λ_ _=>trivial) λ_ _ q _=>q) r1.U00 st1 (by rw[t40];exact a30.refl _) e3 (po.mono (a30.trans (f40 x1) (A00 ow)))
  rw[O10] at e3;have he:O30 it src l ρ=match g61 l with | true=>U00 ρ | false=>ρ:=by
   unfold O30;rw[hv] <;> cases g61 l <;> rfl
  have tt:U00 (U00 ρ)=U00 ρ:=by
   unfold U00;rw[ë];refine Ä6 λo _=>?_
   match o with
   |none=>rfl|some (.d _)=>rfl|some (.fr _)=>rfl|some .z=>rfl
  cases hl:g61 l with
  |true =>
   rw[hl] at he;rw[he] at e3;dsimp only at e3;rw[tt,ite_self] at e3;exact frz e3
  |false =>
   rw[hl] at he;rw[he] at e3;dsimp only at e3;split at e3
   ·rename_i hbb;refine b51 (IT (λy=>bare y=true) (hw ow (hz zA H1)) j70 (λa ys q=>t71 q r1.W31) (λd v hd q=>J10 r1.W31 hd q) (λds hds d hd=>?_) λa ys q hor=>?_) r1 st1 (a30.refl _) e3 (po.mono (f40 x1))
    ·have h:=hbb;unfold O20 at h;rw[hds] at h;have:=Î.mp h d hd;cases d with
     |tup m=>exact λy hy=>A10 this hy|lst m=>exact λy hy=>A10 this hy|_=>trivial
    ·rcases hor with ⟨hn,hm1⟩ | hm
     ·refine o00.of (i50 (c70 hm1 (st.Z40 hn)) λj w=>?_);obtain⟨zs,k⟩:=rw.lst j a w;rw[hn] at k;cases k
     ·rw[hl] at hm;cases hm
   ·exact frz e3
 ·subst e2;exact⟨zA,ρ,z,_,rw.V70,st,e1,po.er_ rw⟩
end
def isQ:Sm->Bool
 |.nil=>true|.seq _ _=>true|.grp ..=>true|_=>false
def l52:Ò->Bool
 |.IfExp ..=>false|_=>true
def J52:Ò->Bool
 |.SetComp ..=>false|.DictComp ..=>false|_=>true
def mtI(lm:Bool)(fns:List (Str × List Str))(nums:List (Str × Int))(it:It)(src:Ex)(sc:ø)(N:List Str)(tg iter:Ò):Bool:=match it with
 |.seq=>mt lm fns nums src sc N [iter]|.rng1=>opt (a42 iter) λr=>r.1.1 == ("range":Str)&&glob sc r.1.1&&mt lm fns nums src sc N [r.1.2.2.1]|.rng2=>opt (a52 iter) λr=>r.1.1 == ("range":Str)&&glob sc r.1.1&&mt lm fns nums src sc N [r.1.2.2.1,r.1.2.2.2.1]|.zip=>opt (a52 iter) λr=>r.1.1 == ("zip":Str)&&glob sc r.1.1&&k90 tg&&mt lm fns nums src sc N [r.1.2.2.1,r.1.2.2.2.1]|.enum=>opt (a42 iter) λr=>r.1.1 == ("enumerate":Str)&&glob sc r.1.1&&k90 tg&&mt lm fns nums src sc N [r.1.2.2.1]
def J62:(p:Pat)->Option {q:Nat × Nat // p=.tup (.cons (.v q.1) (.cons (.v q.2) .nil))}
 |.tup (.cons (.v i) (.cons (.v j) .nil))=>some ⟨(i,j),rfl⟩|_=>none
def J72:(e:Ex)->Option {q:Ex × Ex // e=.tup (.cons q.1 (.cons q.2 .nil))}
 |.tup (.cons a (.cons b .nil))=>some ⟨(a,b),rfl⟩|_=>none
def J82:(e:Ò)->Option {q:Ò × Ò × Nat × Pos // e=.Tuple [q.1,q.2.1] q.2.2.1 q.2.2.2}
 |.Tuple [a,b] k p=>some ⟨(a,b,k,p),rfl⟩|_=>none
def J92(sc:ø)(p:Pat)(e:Ex)(tg v:Ò):Bool:=opt (J62 p) λ_=>opt (J72 e) λ_=>opt (C82 tg) λt=>opt (J82 v) λu =>
  !(t.1.1 == t.1.2.2.1)&&sc.names.lookup t.1.1 == some .local&&sc.names.lookup t.1.2.2.1 == some .local&&t.1.2.2.2.1.line == t.1.2.1.line&&noStar u.1.1&&noStar u.1.2.1&&!([u.1.1,u.1.2.1].all (Ú3 8))&&!([u.1.1,u.1.2.1].all (constantsAlone 8))
def isNm:Ò->Bool
 |.Name ..=>true|_=>false
def dkB(_:ø)(_ _:Ò):Bool:=false
def setB(sc:ø)(p:Pat)(e:Ex)(tg v:Ò):Bool :=
 if isNm tg then(J52 v || dkB sc tg v) else if k90 tg then(if k90 v then(match v with | .Tuple vs _ _=>vs.all (Ú3 8) | _=>false) || (match tg with | .Tuple ts _ _=>ts.any (u01 λy=>sc.names.lookup y) | _=>false) || J92 sc p e tg v else true) else false
def X31:(e:List Ã8)->Option {q:Ò × Ò × Pos // e=[.Assign [q.1] q.2.1 q.2.2]}
 |[.Assign [tg] v p]=>some ⟨(tg,v,p),rfl⟩|_=>none
def y82:(e:List Ã8)->Option {q:Option Ò × Pos // e=[.Return q.1 q.2]}
 |[.Return v p]=>some ⟨(v,p),rfl⟩|_=>none
def K02:(e:List Ã8)->Option {q:Ò × List Ã8 × List Ã8 × Pos // e=[.If q.1 q.2.1 q.2.2.1 q.2.2.2]}
 |[.If c a b p]=>some ⟨(c,a,b,p),rfl⟩|_=>none
def y92:(e:List Ã8)->Option {q:Ò × Ò × List Ã8 × Pos // e=[.For q.1 q.2.1 q.2.2.1 [] q.2.2.2]}
 |[.For tg iter body [] p]=>some ⟨(tg,iter,body,p),rfl⟩|_=>none
def l62:(e:List Ã8)->Option {q:Ò × Pos // e=[.Raise (some q.1) none q.2]}
 |[.Raise (some x) none p]=>some ⟨(x,p),rfl⟩|_=>none
def l72:(e:List Ã8)->Option {q:Ò × Pos // e=[.Expr q.1 q.2]}
 |[.Expr v p]=>some ⟨(v,p),rfl⟩|_=>none
def z02:(e:Ò)->Option {q:Str × Pos × Str × Nat × Pos × Pos // e=.Call (.Name q.1 q.2.1) [.Constant (.str q.2.2.1) q.2.2.2.1 q.2.2.2.2.1] [] q.2.2.2.2.2}
 |.Call (.Name n p1) [.Constant (.str y) k p2] [] p3=>some ⟨(n,p1,y,k,p2,p3),rfl⟩|_=>none
def z12:(e:Ò)->Option {q:Str × Pos × Str × Pos × Ò × Pos // e=.Call (.Attribute (.Name q.1 q.2.1) q.2.2.1 q.2.2.2.1) [q.2.2.2.2.1] [] q.2.2.2.2.2}
 |.Call (.Attribute (.Name n p) a ap) [v] [] cp=>some ⟨(n,p,a,ap,v,cp),rfl⟩|_=>none
def K12:(e:Ò)->Option {q:Str × Pos × Nat × Pos × Pos // e=.Subscript (.Name q.1 q.2.1) (.Constant (.int 0) q.2.2.1 q.2.2.2.1) q.2.2.2.2}
 |.Subscript (.Name n p) (.Constant (.int 0) c q1) tp=>some ⟨(n,p,c,q1,tp),rfl⟩|_=>none
def K22:(e:Ò)->Option {q:Str × Pos × Ò × Pos // e=.Subscript (.Name q.1 q.2.1) q.2.2.1 q.2.2.2}
 |.Subscript (.Name n p) w tp=>some ⟨(n,p,w,tp),rfl⟩|_=>none
def K32:(e:Ò)->Option {q:Str × Pos // e=.Name q.1 q.2}
 |.Name n p=>some ⟨(n,p),rfl⟩|_=>none
def H81:Ex->Bool
 |.con .non=>true|_=>false
def mtS(lm:Bool)(fns:List (Str × List Str))(nums:List (Str × Int))(cn:List Str)(sc:ø)(N:List Str):Sm->List Ã8->Bool
 |.nil,ss=>ss.isEmpty|.seq s r,ss=>opt ss.head? λst=>!isQ s&&isQ r&&mtS lm fns nums cn sc N s [st]&&mtS lm fns nums cn sc N r ss.tail|.grp i j k src,ss=>D02 lm fns nums sc N i j k src ss|.set p e,ss=>opt (X31 ss) λq=>!isL e&&h70 N (w60 sc) p q.1.1&&mt lm fns nums e sc N [q.1.2.1]&&setB sc p e q.1.1 q.1.2.1
 |.ret e,ss=>opt (y82 ss) λq=>match q.1.1 with
  |some v=>!isL e&&mt lm fns nums e sc N [v]|none=>H81 e
 |.iff c t u,ss=>opt (K02 ss) λq=>!isL c&&l52 q.1.1&&isQ t&&isQ u&&mt lm fns nums c sc N [q.1.1]&&mtS lm fns nums cn sc N t q.1.2.1&&mtS lm fns nums cn sc N u q.1.2.2.1|.fr p it src b,ss=>opt (y92 ss) λq=>h70 N (w60 sc) p q.1.1&&isL src&&w10 q.1.2.1&&isQ b&&mtI lm fns nums it src sc N q.1.1 q.1.2.1&&mtS lm fns nums cn sc N b q.1.2.2.1|.rais c,ss=>opt (l62 ss) λq=>opt (z02 q.1.1) λr=>cn[c]? == some r.1.1&&glob sc r.1.1|.exp e,ss=>opt (l72 ss) λq=>Q10 q.1.1&&!isL e&&mt lm fns nums e sc N [q.1.1]|.app i e,ss=>opt (l72 ss) λq=>opt (z12 q.1.1) λr=>r.1.2.2.1 == ("append":Str)&&N[i]? == some r.1.1&&c50 r.1.1&&noStar r.1.2.2.2.2.1&&!isL e&&r.1.2.2.2.1.endLine == r.1.2.2.2.2.2.line&&mt lm fns nums e sc N [r.1.2.2.2.2.1]|.newz i f as,ss=>opt (X31 ss) λq=>opt (K32 q.1.1) λr=>N[i]? == some r.1.1&&w60 sc r.1.1&&Q10 q.1.2.1&&mt lm fns nums (.call f as) sc N [q.1.2.1]|.zset i e,ss=>opt (X31 ss) λq=>opt (K12 q.1.1) λr=>N[i]? == some r.1.1&&c50 r.1.1&&!isL e&&mt lm fns nums e sc N [q.1.2.1]
section
variable {lm:Bool}{X:Cx}{G:Gs}{E:XK}{N:List Str}{sc:ø}{cn:List Str}{H0:Hp}{zE:Option Ç}
theorem z22(x:XI lm X G E N sc){it:It}{src:Ex}{tg iter:Ò}(hL:isL src=true)(h:mtI lm G.fns G.nums it src sc N tg iter=true):PI X tg iter (tIt X.K G E it src):=by
 cases it with
 |seq =>
  obtain⟨a,rfl,ga⟩:=t61 hL (sound G src x h);exact M91 ga
 |rng1 =>
  obtain⟨⟨⟨n,_,a,_⟩,rfl⟩,-,h⟩:=a50 h;simp only[Á,beq_iff_eq] at h;exact s81 x h.1.1 h.1.2 hL (sound G src x h.2)
 |rng2 =>
  obtain⟨⟨⟨n,_,a,b,_⟩,rfl⟩,-,h⟩:=a50 h;simp only[Á,beq_iff_eq] at h;exact s91 x h.1.1 h.1.2 hL (sound G src x h.2)
 |zip =>
  obtain⟨⟨⟨n,_,a,b,_⟩,rfl⟩,-,h⟩:=a50 h;simp only[Á,beq_iff_eq] at h;exact t21 x h.1.2 h.1.1.1 h.1.1.2 hL (sound G src x h.2)
 |enum =>
  obtain⟨⟨⟨n,_,a,_⟩,rfl⟩,-,h⟩:=a50 h;simp only[Á,beq_iff_eq] at h;exact I80 x h.1.2 h.1.1.1 h.1.1.2 hL (sound G src x h.2)
theorem H91(h:l52 e=true):∀ t a b p,e≠.IfExp t a b p:=by
 intro t a b p he;subst he;cases h
def GS(X:Cx)(G:Gs)(E:XK)(H0:Hp)(zE:Option Ç)(s:Sm)(ss:List Ã8):Prop:=(isQ s=true->PSs X ss (tX X.K G E H0 zE s))/\(isQ s=false->∃ st,ss=[st]/\PS X st (tX X.K G E H0 zE s))
theorem r80{s:Sm}{st:Ã8}(hq:isQ s=false)(h:PS X st (tX X.K G E H0 zE s)):GS X G E H0 zE s [st]:=⟨λk=>(by rw[hq] at k;cases k),λ_=>⟨st,rfl,h⟩⟩
theorem X41{x:XI lm X G E N sc}{e:Ex}{elt:Ò}{gs:List Comprehension}{csc:ø}{q:Pos}(h:mt lm G.fns G.nums e sc N [.ListComp elt gs csc q]=true)(hL:isL e=false):∃ tg iter ifs,gs=[⟨tg,iter,ifs,0⟩]/\D20 X G E e elt tg iter ifs csc:=by
 cases e with
 |comp own capt p it src cond el =>
  match gs,h with
  |[⟨tg,iter,ifs,0⟩],h=>exact⟨tg,iter,ifs,rfl,Q00 (λx _=>sound G src x) (λx _=>sound G cond x) (λx _=>sound G el x) x h⟩
 |nil=>cases hL
 |cons _ _=>cases hL
 |bf f as=>cases f <;> cases h
 |_=>cases h
theorem X51(h:isNm e=true):∃ y p,e=.Name y p:=by
 cases e <;> first | exact⟨_,_,rfl⟩ | cases h
theorem r90(h:k90 e=true):∃ ts k p,e=.Tuple ts k p:=by
 cases e <;> first | exact⟨_,_,_,rfl⟩ | cases h
theorem z32(x:XS lm X G E N sc cn){p:Pat}{e:Ex}{tg v:Ò}{pos:Pos}(h1:(!isL e)=true)(h2:h70 N (w60 sc) p tg=true)(h3:mt lm G.fns G.nums e sc N [v]=true)(h4:setB sc p e tg v=true):PS X (.Assign [tg] v pos) (tX X.K G E H0 zE (.set p e)):=by
 have g:=b10 (b90 h1) (sound G e x.toXI h3);unfold setB at h4;split at h4
 ·rename_i hn;obtain⟨y,px,rfl⟩:=X51 hn;cases p with
  |v i =>
   unfold h70 at h2;rw[Á,beq_iff_eq] at h2;refine x92 x h2.1 h2.2 g (λelt gs csc q hv=>?_) (λa b c d hv=>?_) (λa b c d f hv=>?_)
   ·subst hv;exact X41 (x:=x.toXI) h3 (b90 h1)
   ·subst hv;cases h4
   ·subst hv;cases h4
  |tup _=>unfold h70 at h2;cases h2
  |nil=>unfold h70 at h2;cases h2
  |cons _ _=>unfold h70 at h2;cases h2
 ·split at h4
  ·rename_i ht;split at h4
   ·rename_i hv;rw[Ä0,Ä0] at h4;rcases h4 with (h4 | h4) | h4
    ·obtain⟨ts,k,tp,rfl⟩:=r90 ht;obtain⟨vs,k',vp,rfl⟩:=r90 hv;exact u11 x h2 g rfl (W71 h4)
    ·obtain⟨ts,k,tp,rfl⟩:=r90 ht;obtain⟨vs,k',vp,rfl⟩:=r90 hv;refine u11 x h2 g rfl (W81 ?_);have e:X.env.kindOf=λy=>sc.names.lookup y:=by funext y;unfold Env.kindOf;rw[x.sco]
     rw[e];exact h4
    ·clear g h1 ht hv;obtain⟨⟨⟨i,j⟩,rfl⟩,-,h4⟩:=a50 h4;obtain⟨⟨⟨ea,eb⟩,rfl⟩,-,h4⟩:=a50 h4;obtain⟨⟨⟨y,px,w,py,kt,tp⟩,rfl⟩,-,h4⟩:=a50 h4;obtain⟨⟨⟨a,b,kv,vp⟩,rfl⟩,-,h4⟩:=a50 h4;simp only[Á,ú,beq_iff_eq] at h4;obtain⟨⟨⟨⟨⟨⟨⟨k1,k2⟩,k3⟩,k4⟩,k5⟩,k6⟩,k7⟩,k8⟩:=h4;unfold h70 at h2;simp only[Z80,h70,Á,beq_iff_eq] at h2;obtain⟨⟨_,h21,_⟩,⟨_,h22,_⟩,_⟩:=h2;have h3':(isL (.cons ea (.cons eb .nil))&&mt lm G.fns G.nums (.cons ea (.cons eb .nil)) sc N [a,b])=true:=h3;rw[Á] at h3';have ga:Good X G E (.cons ea (.cons eb .nil)) [a,b]:=sound G (.cons ea (.cons eb .nil)) x.toXI h3'.2;refine y02 x h21 h22 (by simpa using k1) k2 k3 ga (k72 x.bk ?_ ?_ (by simpa using k1) (by rw[k4];exact beq_self_eq_true _) k5 k6 k7 k8)
     ·unfold Env.kindOf;rw[x.sco];exact k2
     ·unfold Env.kindOf;rw[x.sco];exact k3
   ·rename_i hv;exact u11 x h2 g ht (W61 (by simpa using hv))
  ·cases h4
theorem u71(h:H81 e=true):e=.con .non:=by
 unfold H81 at h;split at h
 ·rfl
 ·cases h
theorem z42(x:XS lm X G E N sc cn){e:Ex}{o:Option Ò}{pos:Pos}(h:(match o with | some v=>!isL e&&mt lm G.fns G.nums e sc N [v] | none=>H81 e)=true):PS X (.Return o pos) (tX X.K G E H0 zE (.ret e)):=by
 cases o with
 |some v =>
  have h:(!isL e&&mt lm G.fns G.nums e sc N [v])=true:=h;rw[Á] at h;by_cases hv:∃ i,e=.var i
  ·obtain⟨i,rfl⟩:=hv;have h2:=h.2;cases v with
   |Name n p =>
    have h2:(N[i]? == some n&&c50 n)=true:=h2;rw[Á,beq_iff_eq] at h2;exact k82 x h2.1 h2.2
   |_=>cases h2
  ·exact y12 (λi hi=>hv ⟨i,hi⟩) (b10 (b90 h.1) (sound G e x.toXI h.2))
 |none =>
  have he:=u71 h;subst he;refine PS.imp O81 λD σ H q=>?_;obtain⟨zA,ow,ρ,z,rr,rw,st,ee,po⟩:=q;cases ee;exact po .non H (λk=>nomatch k) rw.ext (W41 rw.zok st) (show Hd X.K (hz zE H) .non .non from Hd.non)
theorem K42(x:XS lm X G E N sc cn){p:Pat}{it:It}{src:Ex}{b:Sm}{tg iter:Ò}{body:List Ã8}{pos:Pos}(h1:h70 N (w60 sc) p tg=true)(h2:isL src=true)(h3:w10 iter=true)(h5:mtI lm G.fns G.nums it src sc N tg iter=true)(hb:PSs X body (tX X.K G E H0 zE b)) :
  PS X (.For tg iter body [] pos) (tX X.K G E H0 zE (.fr p it src b)):=by
 cases hv:T21 it src with
 |some q =>
  obtain⟨i,rfl,rfl⟩:=q;have h5':(noStar iter&&!isL (.var i)&&isL .nil&&mt lm G.fns G.nums (.var i) sc N [iter]&&mt lm G.fns G.nums .nil sc N [])=true:=h5;simp only[Á] at h5';have h7:=h5'.1.2;cases iter with
  |Name n np =>
   have h7:(N[i]? == some n&&c50 n)=true:=h7;rw[Á,beq_iff_eq] at h7;exact l42 x h1 h7.1 h7.2 hb
  |_=>cases h7
 |none=>exact y72 x h1 (z22 x.toXI h2 h5) h3 hv hb
theorem l82(x:XS lm X G E N sc cn):∀ (s:Sm) {ss:List Ã8},mtS lm G.fns G.nums cn sc N s ss=true->GS X G E H0 zE s ss:=by
 intro s
 induction s with
 |nil =>
  intro ss h;have:ss=[]:=Ì1.mp h;subst this;exact⟨λ_=>x72,λk=>by cases k⟩
 |seq s r ihs ihr =>
  intro ss h;obtain⟨st,h0,h⟩:=a50 h;cases ss with
  |nil=>cases h0
  |cons st' rest =>
   cases h0;simp only[Á,ú,List.tail_cons] at h;obtain⟨⟨⟨h1,h2⟩,h3⟩,h4⟩:=h;obtain⟨st',he,hs⟩:=(ihs h3).2 h1;cases he;exact⟨λ_=>x82 hs ((ihr h4).1 h2),λk=>by cases k⟩
 |grp i j k src =>
  intro ss h;exact⟨λ_=>y52 x h,λk=>by cases k⟩
 |set p e =>
  intro ss h;obtain⟨⟨q,rfl⟩,-,h⟩:=a50 h;simp only[Á] at h;exact r80 rfl (z32 x h.1.1.1 h.1.1.2 h.1.2 h.2)
 |ret e =>
  intro ss h;obtain⟨⟨q,rfl⟩,-,h⟩:=a50 h;exact r80 rfl (z42 x h)
 |iff c t u iht ihu =>
  intro ss h;obtain⟨⟨q,rfl⟩,-,h⟩:=a50 h;simp only[Á] at h;obtain⟨⟨⟨⟨⟨⟨h1,h2⟩,h3⟩,h4⟩,h5⟩,h6⟩,h7⟩:=h;exact r80 rfl (I42 (b10 (b90 h1) (sound G c x.toXI h5)) (H91 h2) ((iht h6).1 h3) ((ihu h7).1 h4))
 |fr p it src b ih =>
  intro ss h;obtain⟨⟨q,rfl⟩,-,h⟩:=a50 h;simp only[Á] at h;obtain⟨⟨⟨⟨⟨h1,h2⟩,h3⟩,h4⟩,h5⟩,h6⟩:=h;exact r80 rfl (K42 x h1 h2 h3 h5 ((ih h6).1 h4))
 |rais c =>
  intro ss h;obtain⟨⟨⟨e,pos⟩,rfl⟩,-,h⟩:=a50 h;dsimp only at h;obtain⟨⟨⟨n,p1,y,k,p2,p3⟩,rfl⟩,-,h⟩:=a50 h;simp only[Á,beq_iff_eq] at h;exact r80 rfl (x_raise x h.1 h.2)
 |exp e =>
  intro ss h;obtain⟨⟨q,rfl⟩,-,h⟩:=a50 h;simp only[Á] at h;exact r80 rfl (y22 (b10 (b90 h.1.2) (sound G e x.toXI h.2)) h.1.1)
 |app i e =>
  intro ss h;obtain⟨⟨⟨v0,pos⟩,rfl⟩,-,h⟩:=a50 h;dsimp only at h;obtain⟨⟨⟨n,p1,a,apos,v,cpos⟩,rfl⟩,-,h⟩:=a50 h;simp only[Á,beq_iff_eq] at h;obtain⟨⟨⟨⟨⟨⟨h7,h8⟩,h2⟩,h3⟩,h4⟩,h5⟩,h6⟩:=h;subst h7;exact r80 rfl (y32 x h8 h2 h3 (b10 (b90 h4) (sound G e x.toXI h6)) (by rw[h5];exact beq_self_eq_true _))
 |newz i f as =>
  intro ss h;obtain⟨⟨⟨tg,v,pos⟩,rfl⟩,-,h⟩:=a50 h;dsimp only at h;obtain⟨⟨⟨y,p1⟩,rfl⟩,-,h⟩:=a50 h;simp only[Á,beq_iff_eq] at h;obtain⟨⟨⟨h1,h2⟩,h3⟩,h4⟩:=h;exact r80 rfl (l12 x h1 h2 (b10 rfl (sound G (.call f as) x.toXI h4)) h3)
 |zset i e =>
  intro ss h;obtain⟨⟨⟨tg,v,pos⟩,rfl⟩,-,h⟩:=a50 h;dsimp only at h;obtain⟨⟨⟨n,p1,c,p2,p3⟩,rfl⟩,-,h⟩:=a50 h;simp only[Á,beq_iff_eq] at h;exact r80 rfl (l22 x h.1.1.1 h.1.1.2 (b10 (b90 h.1.2) (sound G e x.toXI h.2)))
end
structure GX(P:Program)(w:World)(K:PySem.W.Frag)(mg:Str->Option Value)(base:Heap)(G:Gs)(cn:List Str):Prop where
 gok:∀ f nm ps,G.fns[f]?=some (nm,ps)->∃ fa fd,mg nm=some (.ref fa)/\PySem.W.keepIn K (.ref fa)=true/\Binds K fd ps []/\S40 P w K mg base (CX1 P w) G.lv fa fd ps (spF K G f ps.length)
 num:∀ p∈G.nums,∃ t,mg p.1=some (.int p.2 t)
 blt:∀ n∈U81,mg n=none
 cls:∀ c x,cn[c]?=some x->mg x=some (.ref (G.cls c))/\PySem.W.excIn K (G.cls c) [.type "ValueError",.type "Exception",.type "BaseException",.type "object"] "ValueError.__new__"=true
section
variable {P:Ý}{w:ç}{K:Ã}{mg:Str->Option Ä}{base:é}{G:Gs}{cn:List Str}
structure p72(P:Program)(w:World)(K:PySem.W.Frag)(mg:Str->Option Value)(base:Heap)(cls:Nat->Addr)(fR:Addr)(fdR:FuncData):Prop where
 bm:BMain mg base
 cls:∀ j,j < 12->N50 K mg (cls j) j
 m:mg "_law_refused"=some (.ref fR)
 kp:PySem.W.keepIn K (.ref fR)=true
 bd:Binds K fdR ["_law_call"] []
 fn:∀ k,f91 P w K mg base CX0 (k + 2) fR fdR ["_law_call"] (R81 P w K mg base (k + 1))
def p82(K:Ã)(nm:Str)(fd:Å9):Prop:=∃ (c P:Ç) (q:Str),fd.code=.ref c/\Å3 K c P=true/\(∀ sc n f cd,(Ï0 nm sc n f cd).qual++"<lambda>"=q)/\(P,q)∈TB.tb/\∀ p∈TB.tb,p.1=P->p.2=q
def Low(P:Ý)(w:ç)(K:Ã)(mg:Str->Option Ä)(base:é)(G:Gs)(k:Nat):Prop:=∀ f nm ps,G.fns[f]?=some (nm,ps)->∃ fa fd,mg nm=some (.ref fa)/\Ó3 K (.ref fa)=true/\Binds K fd ps []/\S40 P w K mg base (CX1 P w) k fa fd ps (spF K (lowG G k) f ps.length)
theorem l92(g:GX P w K mg base G cn){lm:Bool}{N ps:List Str}{qual:Str}{sc:ø}{f:Ç}{fd:Å9}{cd:Ä}{A:õ}{outer:List È5}{s:Æ}{H:Hp}{E:XK}(S:j60 N ps sc)(hl:N.all (w60 sc)=true)
  (hr:w30 G.lv (A.deeper (Ï0 qual sc s.heap.objs.size f cd))) (hc:fd.code=cd) (hlam:lm=true->∃ k fR fdR,G.lv=k + 2/\p72 P w K mg base G.cls fR fdR/\p82 K qual fd/\Low P w K mg base G k):XS lm (B40 (CX1 P w) P w K mg base N qual sc f cd A outer s H E) G E N sc cn where
 gok:=g.gok
 num:=g.num
 blt:=g.blt
 hN:=rfl
 nd:=S.nd
 vis:=λx hx=>by
  have:=Î.mp hl x hx;unfold w60 at this;rw[Ä0,beq_iff_eq,beq_iff_eq] at this;rcases this with h | h
  ·exact .inl h
  ·exact .inr (.inl h)
 glb:=λx h=>h
 cel:=λx h=>h
 calm:=rfl
 room:=hr
 pas:=s92
 lam:=λh=>by
  obtain⟨k,fR,fdR,e1,L,⟨c,P',q,d1,d2,d3,d4,d5⟩,lo⟩:=hlam h;exact⟨c,P',q,k,fR,fdR,rfl,hc.symm.trans d1,d2,d3 _ _ _ _,d4,d5,L.bm,e1,L.cls,L.m,L.kp,L.bd,L.fn k,lo⟩
 sco:=rfl
 fnk:=S.kind
 own:=PassesOwn.leaving
 can:=n81
 fnx:=λ_=>rfl
 cls:=g.cls
theorem K52{x qual:Str}{st:Ã8}{f:Ç}{fd:Å9}{N ps:List Str}{k:Nat}{sp:Sp}(F:Fun K x qual st f fd)(S:j60 N ps (b70 st))(len:∀ vs H Q E,sp vs H Q E->vs.length=ps.length)
  (hb:∀ (cdv:Ä),fd.code=cdv->∀ (A:õ) (outer:List È5) (s:Æ) (H:Hp) (vs:List V) (Q:VK) (E:XK),w30 k (A.deeper (Ï0 qual (b70 st) s.heap.objs.size f cdv))->sp vs H Q E ->
   ∃ t,PSs (B40 (CX1 P w) P w K mg base N qual (b70 st) f cdv A outer s H E) (i10 st) t/\t { nx:=λ_ H'=>Q .non H',rt:=Q } (L2.start N vs) H):S40 P w K mg base (CX1 P w) (k + 1) f fd ps sp:=by
 obtain⟨oc,od,kV,doc,pm,an,cdv,ct,osl,rfl,lk,hcd⟩:=F.ex;exact r92 lk hcd S len λA outer s H vs Q E hr hsp=>hb cdv rfl A outer s H vs Q E hr hsp
theorem b61:∀ {ss:List S}{vs:List V}{i:Nat}{s:S}{n:Nat},RvA K zA H ss vs->(ss.map some++î n none)[i]?=some (some s)->∃ v,(vs.map some++î n none)[i]?=some (some v)/\RvP K zA H s v
 |[],_,i,s,n,h,e=>by
  cases h;simp only[map_nil,Ô1] at e;rw[Ò2] at e;split at e <;> cases e
 |a::ss,_,0,s,n,h,e=>by
  cases h with
  |cons h1 h2 =>
   simp only[Â2,List.cons_append,Ê4] at e;cases e;exact⟨_,rfl,h1⟩
 |a::ss,_,i + 1,s,n,h,e=>by
  cases h with
  |cons h1 h2 =>
   obtain⟨v,k1,k2⟩:=b61 (i:=i) (s:=s) (n:=n) h2 (by simpa using e)
   exact⟨v,by simpa using k1,k2⟩
theorem Ä1.len{α β:Type}{R:α->β->Prop}:∀ {l:List α}{m:List β},Ä1 R l m->l.length=m.length
 |[],_,h=>by cases h;rfl
 |_::_,_,h=>by
  cases h with
  |cons h1 h2=>simp[Ä1.len h2]
theorem I01(h:RvA K zA H ss vs)(hn:∀ s∈ss,∀ xs,s≠.fr xs):RW K H zA zA (λ_=>none) H (Q.start N.length ss) (L2.start N vs):=by
 have hl:ss.length=vs.length:=Ä1.len h;refine⟨?_,λi j a e=>(nomatch e),λi a e=>(nomatch e),λi a e=>(nomatch e),λi s e=>?_,Ext.refl,.inl rfl,λi a e=>(nomatch e)⟩
 ·unfold Q.start L2.start;simp[hl]
 ·unfold Q.start at e;obtain⟨v,k1,k2⟩:=b61 h e;refine⟨v,?_,?_⟩
  ·unfold L2.start;rw[← hl];exact k1
  ·cases s with
   |d x=>exact⟨rfl,by rw[t40];exact k2⟩|z=>exact⟨rfl,k2⟩
   |fr xs =>
    rcases Ã1.mp (å e) with q | q
    ·obtain⟨s',q1,q2⟩:=Þ.mp q;cases q2;exact absurd rfl (hn _ q1 xs)
    ·cases List.eq_of_mem_replicate q
theorem X61(st:d80 zA z H):p62 zA z1=H50 z z1:=by
 have st:=st.zat;cases zA with
 |none =>
  cases z with
  |none=>rfl|some p=>exact st.elim
 |some a =>
  cases z with
  |none=>exact st.elim|some p=>rfl
theorem u81(st:d80 zA z H):z.isNone=zA.isNone:=by
 have st:=st.zat;cases zA with
 |none =>
  cases z with
  |none=>rfl|some p=>exact st.elim
 |some a =>
  cases z with
  |none=>exact st.elim|some p=>rfl
theorem u91(g:GX P w K mg base G cn){lm:Bool}{N ps:List Str}{nm:Str}{st:Ã8}{fa:Ç}{fd:Å9}{b:Sm}{f:Nat}{F':FT}(Fn:Fun K nm nm st fa fd)(Sc:j60 N ps (b70 st))(hl:N.all (w60 (b70 st))=true)
  (ch:mtS lm G.fns G.nums cn (b70 st) N b (i10 st)=true) (hq:isQ b=true) (hlam:lm=true->∃ k fR fdR,G.lv=k + 2/\p72 P w K mg base G.cls fR fdR/\p82 K nm fd/\Low P w K mg base G k)
  (hF:∀ l z,F' false f l z=run G.F (.code ps.length N.length b) l z):S40 P w K mg base (CX1 P w) (G.lv + 1) fa fd ps (spF K { G with F:=F',lv:=G.lv + 1 } f ps.length):=by
 refine K52 Fn Sc (λvs H Q E h=>h.1) λcdv hcd A outer s H vs Qv E hr hsp=>?_;obtain⟨hlen,zA,z,ss,r,rv,st',e,po⟩:=hsp;refine⟨_,(l82 (H0:=H) (zE:=zA) (l92 g Sc hl hr hcd hlam) b ch).1 hq,?_⟩;have e0:(if ss.length=ps.length/\ps.length<=N.length then(match ex G.F z.isNone b (Q.start N.length (ss.map plS)) z with
  |some (.ok (.nx _) z1)=>some (R.ok (S.d .non) (H50 z z1))|some (.ok (.rt s) z1)=>some (R.ok s (H50 z z1))|some (.er c z1)=>some (R.er c (H50 z z1))
  |none=>none) else none)=some r:=by
  have:=hF ss z;exact this.symm.trans e
 rw[u81 st'] at e0;split at e0
 ·have rw0:RW K H zA zA (λ_=>none) H (Q.start N.length (ss.map plS)) (L2.start N vs):=I01 rv.plS λs hs xs=>by
   obtain⟨s',_,rfl⟩:=Þ.mp hs;cases s' <;> exact λh=>nomatch h
  split at e0
  ·rename_i ρ z1 e1;cases e0;refine⟨zA,_,_,z,_,rw0,st',e1,λzA' ow' σ' H' r' st1 _=>?_⟩;refine po .non H' r'.ext ?_ (show Hd K (hz zA H') .non .non from Hd.non);rw[← X61 st'];exact W41 r'.zok st1
  ·rename_i s1 z1 e1;cases e0;refine⟨zA,_,_,z,_,rw0,st',e1,λv H' nz x st1 rv'=>?_⟩;exact po v H' x (by rw[← X61 st'];exact st1) rv'
  ·rename_i c z1 e1;cases e0;refine⟨zA,_,_,z,_,rw0,st',e1,λe H' x st1 hn=>?_⟩;exact po e H' x (by rw[← X61 st'];exact st1) hn
  ·cases e0
 ·cases e0
def lev(G:Gs)(T:List Df)(k:Nat):Gs:={ G with F:=g71 T k,lv:=k }
theorem m02{T:List Df}
  (num:∀ p∈G.nums,∃ t,mg p.1=some (.int p.2 t)) (blt:∀ n∈U81,mg n=none)
  (cls:∀ c x,cn[c]?=some x->mg x=some (.ref (G.cls c))/\Ë8 K (G.cls c) [.type "ValueError",.type "Exception",.type "BaseException",.type "object"] "ValueError.__new__"=true)
  (hd:∀ (f:Nat) (nm:Str) (ps:List Str),G.fns[f]?=some (nm,ps)->∃ (fa:Ç) (fd:Å9),mg nm=some (.ref fa)/\Ó3 K (.ref fa)=true/\Binds K fd ps [] /\
   ((∃ (lm:Bool) (N:List Str) (st:Ã8) (b:Sm),T[f]?=some (Df.code ps.length N.length b)/\Fun K nm nm st fa fd/\j60 N ps (b70 st)/\N.all (w60 (b70 st))=true/\isQ b=true/\mtS lm G.fns G.nums cn (b70 st) N b (i10 st)=true/\(lm=true->∃ fR fdR,p72 P w K mg base G.cls fR fdR/\p82 K nm fd)) ∨
    T[f]?=none)):∀ k,GX P w K mg base (lev G T k) cn:=by
 have zero:∀ k,k < 3->GX P w K mg base (lev G T k) cn:=λk hk=>by
  refine⟨λf nm ps h=>?_,num,blt,cls⟩;obtain⟨fa,fd,h1,h2,h3,_⟩:=hd f nm ps h;refine⟨fa,fd,h1,h2,h3,λvs H Q E q=>q.1,λA outer s H args us vs Q E hr he hb hv hs=>?_⟩;obtain⟨_,zA,z,ss,r,_,_,e,_⟩:=hs
  match k,hk with
  |0,_=>cases e
  |1,_=>cases e
  |2,_=>cases e
 intro k
 induction k using Nat.strongRecOn with
 |ind k ih =>
  match k,ih with
  |0,_=>exact zero 0 (-0)|1,_=>exact zero 1 (-0)|2,_=>exact zero 2 (-0)
  |k + 3,ih =>
   refine⟨λf nm ps h=>?_,num,blt,cls⟩;obtain⟨fa,fd,h1,h2,h3,h4⟩:=hd f nm ps h;refine⟨fa,fd,h1,h2,h3,?_⟩;rcases h4 with ⟨lm,N,st,b,k1,k2,k3,k4,k5,k6,k7⟩ | h4
   ·refine u91 (G:=lev G T (k + 2)) (F':=g71 T (k + 3)) (ih (k + 2) ∅) k2 k3 k4 k6 k5 (λhlm=>?_) λl z=>?_
    ·obtain⟨fR,fdR,L,D⟩:=k7 hlm;exact⟨k,fR,fdR,rfl,L,D,λf nm ps h=>(ih k ∅).gok f nm ps h⟩
    ·show(match T[f]? with | some d=>run (g71 T (k + 2)) d l | none=>M.no) z=_
     rw[k1];rfl
   ·refine⟨λvs H Q E q=>q.1,λA outer s H args us vs Q E hr he hb hv hs=>?_⟩;obtain⟨_,zA,z,ss,r,_,_,e,_⟩:=hs;have e':(match T[f]? with | some d=>run (g71 T (k + 2)) d ss | none=>M.no) z=some r:=e
    rw[h4] at e';cases e'
end
end Q
namespace L2
open PySem PySem.W PySem.Calls PyProof.Rows
def A20(thr sok:Thread->Bool)(stp:SharedT->Thread->Option (SharedT × Thread)):Nat->SharedT->Thread->Option SharedT
 |0,_,_=>none
 |n + 1,s,t=>match thr t with
  |true=>some s
  |false=>match sok t with
   |false=>none
   |true=>match stp s t with
    |some (s',t')=>A20 thr sok stp n s' t'|none=>none
theorem Q40:∀ {n:Nat}{s s':SharedT}{t:Thread},A20 through (stepOk n₀ ann) (stepT (denote tb) p w) n s t=some s'->topRun tb p w n₀ ann n s.abs t=some s'.abs
 |0,_,_,_,h=>by cases h
 |n + 1,s,s',t,h=>by
  unfold A20 at h;unfold topRun;cases ht:through t with
  |true=>rw[ht] at h;cases h;rfl
  |false =>
   rw[ht] at h;cases hok:stepOk n₀ ann t with
   |false=>rw[hok] at h;cases h
   |true =>
    rw[hok] at h;cases hst:stepT (denote tb) p w s t with
    |none=>rw[hst] at h;cases h
    |some r=>obtain⟨s₂,t₂⟩:=r;rw[hst] at h;rw[stepT_spec hst];exact Q40 h
def grow:List Obj->Nat->BT->BT
 |[],_,t=>t|o::r,i,t=>grow r (i + 1) (t.ins i o)
def X71(w:ç)(os:OsState):SharedT:=⟨grow (É5 w.params).objs.toList 0 .nil,11,(É5 w.params).life,Array.mk [],boot_drawn,boot_toks,os⟩
theorem v01:∀ (w:ç) (os:OsState),(X71 w os).abs=⟨É5 w.params,Array.mk [],boot_drawn,boot_toks,os⟩:=λw os=>by kernel_rfl
theorem v21:∀ w:ç,((É5 w.params).isNs æ&&(Array.mk []:Array Ü5).size == 0,(É5 w.params).objs.size,(É5 w.params).nsMap æ "__annotations__")=(true,11,some (.ref 6)):=λw=>by kernel_rfl
theorem X81{p q:Ý}{loose:List Str}{Xt:Æ->Bool}{α:Type}{Yf:Æ->α}{Ya:ç->α}{N:Nat}
  (e:opening p=plainProg p.main.scope.names) (hN:ble 600 N=true) (f:∀ s,fenceModules? p s=some s)
  (run:∀ (w:ç) (os:OsState),(A20 through (stepOk 11 (some (.ref 6))) (stepT (denote treeTable) p w) N (X71 w os) (topStub p)).map (λs =>
   (staticsOk (Î9 p.main.body) (É5 w.params) s.abs.heap&&namesBound p s.abs.heap&&gensDone s.abs&&laidKept (É5 w.params) s.abs.heap,
    openSeen q loose (Î9 p.main.body) Xt true s.abs,Yf s.abs))=some (true,openGood q loose,Ya w)):LeftO p q loose Xt Yf Ya N:=λw=>by
 obtain⟨⟨h,gs,d,k,os⟩,e1,e2⟩:=Í.mp (boot_open (N:=N) e hN f w);obtain⟨rfl,rfl,rfl,rfl⟩:h=É5 w.params/\gs=Array.mk []/\d=boot_drawn/\k=boot_toks:=by simpa using e2
 obtain⟨z1,z2,z3⟩:_/\_/\_:=by simpa only [Ï2] using v21 w
 obtain⟨s1,r1,r2⟩:=Í.mp (run w os);obtain⟨l1,l2,l3⟩:_/\_/\_:=by simpa only [Ï2] using r2
 have r:=Q40 r1;rw[v01] at r;unfold openEnds;rw[e1];show Í9 _ (topFrom treeTable p w N _)=_;unfold topFrom;dsimp only;rw[z1,z2,z3,r];show Í9 _ (match staticsOk (Î9 p.main.body) (É5 w.params) s1.abs.heap&&namesBound p s1.abs.heap&&gensDone s1.abs&&laidKept (É5 w.params) s1.abs.heap with | true=>_ | false=>_)=_
 rw[l1];exact congrArg Option.some (Prod.ext l2 l3)
def Q50(o:Obj):Bool:=match o with
 |⟨.none,none,.fields vs,sl⟩=>vs.isEmpty&&sl.isEmpty|_=>false
def z52(h:é)(a:Ç):Option Obj:=match h.get? a with
 |some o=>if Q50 o then none else some o|none=>none
def fragOf(h:é):Frag:=(ì h.objs.size).filterMap λa=>(z52 h a).map λo=>(a,o)
theorem s00(g:Ç->Option Obj)(a:Ç):∀ l:List Ç,(l.filterMap λa=>(g a).map λo=>(a,o)).lookup a=if a∈l then g a else none
 |[]=>rfl
 |b::r=>by
  by_cases hb:a=b
  ·subst hb;rw[if_pos Ê];cases hg:g a with
   |none =>
    rw[þ,hg];show(r.filterMap λa=>(g a).map λo=>(a,o)).lookup a=none;rw[s00 g a r];split
    ·exact hg
    ·rfl
   |some o =>
    rw[þ,hg];show Ì7 a ((a,o)::_)=some o;rw[List.lookup_cons_self]
  ·have hm:(a∈b::r)↔a∈r:=by rw[Á7];exact⟨λh=>h.resolve_left hb,Ù0⟩
   have ih:=s00 g a r;have e:(if a∈b::r then g a else none)=if a∈r then g a else none:=by simp only[hm]
   rw[e,← ih];cases hg:g b with
   |none=>rw[þ,hg];rfl
   |some o =>
    rw[þ,hg];show Ì7 a ((b,o)::_)=_;have:(a == b)=false:=by simpa using hb
    simp only[Ì7,this]
theorem v31(h:é):(fragOf h).In h:=λa o e=>by
 unfold fragOf at e;rw[s00] at e;split at e
 ·unfold z52 at e;cases hg:h.get? a with
  |none=>rw[hg] at e;cases e
  |some u =>
   rw[hg] at e;dsimp only at e;split at e
   ·cases e
   ·exact e
 ·cases e
theorem X91(h:Q50 o=true):o=tabObj #[]:=by
 unfold Q50 at h;split at h
 ·rename_i vs sl;rw[Á,Array.isEmpty_iff,Array.isEmpty_iff] at h;obtain⟨rfl,rfl⟩:=h;rfl
 ·cases h
theorem h81(e:h.get? a=some o)(t:Q50 o=true):(fragOf h).lookup a=none:=by
 unfold fragOf;rw[s00];split
 ·unfold z52;rw[e];exact if_pos t
 ·rfl
def v41(K:Frag)(x:Str):Option (Str × Str × Í7 × FuncBody × ø × Ç × List (Str × Ç) × Ä × Ç × Bool):=match nsIn K æ x with
 |some (some (.ref at0))=>(match K.lookup at0 with
  |some ⟨_,_,.func fd,_⟩=>some (fd.name,fd.qualname,fd.params,fd.body,fd.scope,fd.globals,fd.closure,fd.defaults,fd.builtins,codeIn K fd.code x)
  |_=>none)
 |_=>none
def Y01(x:Str)(st:Ã8):Option (Str × Str × Í7 × FuncBody × ø × Ç × List (Str × Ç) × Ä × Ç × Bool):=some (x,x,F20 st,.stmts (i10 st),b70 st,æ,[],.none,Í3,true)
theorem V80{K:Frag}{x:Str}{st:Ã8}(e:v41 K x=Y01 x st):∃ f fd,nsIn K æ x=some (some (.ref f))/\Fun K x x st f fd/\∃ oc od sl,K.lookup f=some ⟨oc,od,.func fd,sl⟩:=by
 unfold v41 Y01 at e;split at e
 ·rename_i f hf;split at e
  ·rename_i oc od fd sl hl;obtain⟨nm,qn,pm,bd,sc,gl,cl,df,kd,dc,py,an,cd,ct,bl⟩:=fd;simp only[Ï2,É3] at e;obtain⟨rfl,rfl,rfl,rfl,rfl,rfl,rfl,rfl,rfl,hc⟩:=e;exact⟨f,_,hf,⟨⟨oc,od,kd,dc,py,an,cd,ct,sl,rfl,hl,hc⟩,by simp only[keepIn,hl]⟩,oc,od,sl,hl⟩
  ·cases e
 ·cases e
def tab0At(h:é)(T:Ç):Bool:=match h.get? T with
 |some o=>Q50 o|none=>false
theorem v51{h:é}{T:Ç}(e:tab0At h T=true):h.get? T=some (tabObj #[]):=by
 unfold tab0At at e;split at e
 ·rename_i o ho;rw[ho,X91 e]
 ·cases e
def v61(h:é)(K:Frag)(x:Str):Option Addr:=match nsIn K æ x with
 |some (some (.ref at0))=>(match K.lookup at0 with
  |some ⟨_,_,.func fn0,_⟩=>(match fn0.code with
   |.ref c=>(match K.lookup c with
    |some ⟨_,_,.fields vs,_⟩=>(match (vs[11]?:Option Ä) with
     |some (.ref T)=>if codeHdIn K c T&&tab0At h T then some T else none
     |_=>none)
    |_=>none)
   |_=>none)
  |_=>none)
 |_=>none
theorem h91{h:é}{K:Frag}{x:Str}{T:Ç}(e:v61 h K x=some T):h.get? T=some (tabObj #[])/\∃ f oc od fd sl c,nsIn K æ x=some (some (.ref f))/\K.lookup f=some ⟨oc,od,.func fd,sl⟩/\fd.code=.ref c/\codeHdIn K c T=true:=by
 unfold v61 at e;split at e
 ·rename_i f hf;split at e
  ·rename_i oc od fd sl hl;split at e
   ·rename_i c hc;split at e
    ·split at e
     ·rename_i T' _;split at e
      ·rename_i q;cases e;rw[Á] at q;obtain⟨q1,q2⟩:=q;exact⟨v51 q2,f,oc,od,fd,sl,c,hf,hl,hc,q1⟩
      ·cases e
     ·cases e
    ·cases e
   ·cases e
  ·cases e
 ·cases e
def h80:List Str:=["NoWeb","NoLot","NoPlaces","NoPlace","NoTie","NoChance","NoChances","NoPaper","TooMany","NoText","NoLine","NoDeed"]
def Q60(K:Frag)(x:Str):Option Addr:=match nsIn K æ x with
 |some (some (.ref f))=>some f|_=>none
theorem J20{K:Frag}{x:Str}{f:Ç}(e:Q60 K x=some f):nsIn K æ x=some (some (.ref f)):=by
 unfold Q60 at e;split at e
 ·cases e;assumption
 ·cases e
abbrev D12:=Option (Option Ä) × Option (Option Ä) × Option Bool × Option Bool × Option (Option Ä) × Bool × Option Bool × Option Bool × Bool × List (Option Bool)
def V90(K:Frag)(C:Ç):D12:=(findIn K (.ref C) "__getattribute__",findIn K (.ref C) "__getattr__",mroIn K C (.type "BaseException"),mroIn K C (.type "object"),findIn K (.ref C) "__class__",hasDictIn K C,kitOne K (.ref C) (.type "ValueError"),
 (Q60 K "ChanceError").bind λD=>exmOne K (.ref C) (.ref D),excIn K C [.type "ValueError",.type "Exception",.type "BaseException",.type "object"] "ValueError.__new__",h80.map λy=>(Q60 K y).bind λB=>kitOne K (.ref C) (.ref B))
def v71(x:Str):D12:=(some (some (Ð4 "BaseException.__getattribute__")),some (none:Option Ä),some true,some true,some (some (Ð4 "object.__class__")),true,some true,some true,true,h80.map λy=>some (decide (x=y)))
def W00(K:Frag)(x:Str):Option Int:=match nsIn K æ x with
 |some (some (.int i _))=>some i|_=>none
theorem W10{K:Frag}{x:Str}{i:Int}(e:W00 K x=some i):∃ t,nsIn K æ x=some (some (.int i t)):=by
 unfold W00 at e;split at e
 ·rename_i t h;cases e;exact⟨t,h⟩
 ·cases e
def W20(K:Frag)(x:Str):Bool:=match nsIn K æ x with
 |some none=>true|_=>false
theorem W30{K:Frag}{x:Str}(e:W20 K x=true):nsIn K æ x=some none:=by
 unfold W20 at e;split at e
 ·assumption
 ·cases e
structure m60 where
 ds:List (Str × Stmt)
 is:List (Str × Int)
 ns:List Str
 ms:List Str
 cs:List Str
def m60.obs(q:m60)(s:Æ) :=
 let K:=fragOf s.heap
 (q.ds.map λd=>v41 K d.1,q.is.map λd=>W00 K d.1,q.ns.map (W20 K),q.ms.map λx=>(v61 s.heap K x).isSome,q.cs.map λx=>(Q60 K x).map (V90 K),
  (specialIn K (.builtin "object.__class__") "__get__",takesIn K (.builtin "object.__class__")))
def m60.due(q:m60)(_:ç) :=
 (q.ds.map λd=>Y01 d.1 d.2,q.is.map λd=>some d.2,q.ns.map λ_=>true,q.ms.map λ_=>true,q.cs.map λx=>some (v71 x),
  (some (some (Ð4 "getset_descriptor.__get__")),some true))
structure Facts(q:m60)(K:Frag)(h:Heap):Prop where
 fn:∀ d∈q.ds,∃ f fd,nsIn K mainGlobals d.1=some (some (.ref f))/\Fun K d.1 d.1 d.2 f fd/\∃ oc od sl,K.lookup f=some ⟨oc,od,.func fd,sl⟩
 it:∀ d∈q.is,∃ t,nsIn K mainGlobals d.1=some (some (.int d.2 t))
 no:∀ x∈q.ns,nsIn K mainGlobals x=some none
 mt:∀ x∈q.ms,∃ T,h.get? T=some (tabObj #[])/\K.lookup T=none/\∃ f oc od fd sl c,nsIn K mainGlobals x=some (some (.ref f))/\K.lookup f=some ⟨oc,od,.func fd,sl⟩/\fd.code=.ref c/\codeHdIn K c T=true
 cl:∀ x∈q.cs,∃ C,nsIn K mainGlobals x=some (some (.ref C))/\V90 K C=v71 x
 sp:specialIn K (.builtin "object.__class__") "__get__"=some (some (Value.builtin "getset_descriptor.__get__"))
 tk:takesIn K (.builtin "object.__class__")=some true
theorem D30{α β:Type}{f g:α->β}:∀ {l:List α},l.map f=l.map g->∀ a∈l,f a=g a:=λ{l} h a ha=>List.map_inj_left.mp h a ha
theorem m60.facts(q:m60)(w:ç)(s:Æ)(e:q.obs s=q.due w):Facts q (fragOf s.heap) s.heap:=by
 unfold m60.obs m60.due at e;simp only[Ï2] at e;obtain⟨e1,e2,e3,e4,e5,e6,e7⟩:=e;refine⟨λd hd=>V80 (D30 e1 d hd),λd hd=>W10 (D30 e2 d hd),λx hx=>W30 (D30 e3 x hx),λx hx=>?_,λx hx=>?_,e6,e7⟩
 ·obtain⟨T,hT⟩:=Ý1.mp (D30 e4 x hx);obtain⟨h1,h2⟩:=h91 hT;exact⟨T,h1,h81 h1 rfl,h2⟩
 ·obtain⟨C,h1,h2⟩:=Í.mp (D30 e5 x hx);exact⟨C,J20 h1,h2⟩
def m60.hook(q:m60):Hook where
 α:=_
 obs:=q.obs
 val:=q.due
 says:=λ_ h=>∃ K:Frag,K.In h/\Facts q K h
 of:=λw s e=>⟨_,v31 _,q.facts w s e⟩
 keeps:=λ_ h h' ⟨K,X,F⟩ k=>⟨K,X.keeps k,⟨F.fn,F.it,F.no,λx hx=>let ⟨T,a,b⟩:=F.mt x hx;⟨T,k _ _ a,b⟩,F.cl,F.sp,F.tk⟩⟩
end L2
namespace Q
open PySem L2 PySem.Spec PyProof.Rows
structure Row where
 nm:Str
 ps:List Str
 st:Stmt
 N:List Str
 b:Sm
 lm:Bool
def v81(N ps:List Str)(sc:ø):Bool:=sc.kind == .function&&!sc.isCoroutine&&!sc.isGenerator&&decide N.Nodup&&N.take ps.length == ps&&ps.all (λx=>sc.names.lookup x == some .local || sc.names.lookup x == some .cell)&&sc.names.all λy=>y.2 != .free
theorem b71(h:v81 N ps sc=true):j60 N ps sc:=by
 unfold v81 at h;simp only[Á,ú,beq_iff_eq,Ä7,decide_eq_true_eq,Ä0] at h;obtain⟨⟨⟨⟨⟨⟨h1,h2⟩,h3⟩,h4⟩,h5⟩,h6⟩,h7⟩:=h;exact⟨h1,h2,h3,h4,h5,h6,λy hy=>by simpa using h7 y hy⟩
def v91(r:Row):Prop:=∀ (kV doc pm:Ä) (an:Option Ç) (cdv ct:Ä) (us:List Ä),us.length=r.ps.length->bindArgs (fnOf r.nm r.nm (F20 r.st) (i10 r.st) (b70 r.st) .none kV doc pm an cdv ct) ⟨us,[]⟩=pure (r.ps.zip us)
def n10:List Row->Prop
 |[]=>True|r::l=>v91 r/\n10 l
theorem n10.at:∀ {l:List Row}{r:Row},n10 l->r∈l->v91 r
 |_::_,_,h,.head _=>h.1|_::_,_,h,.tail _ m=>n10.at h.2 m
theorem us1(h:us.length=1):∃ a,us=[a]:=List.length_eq_one_iff.mp h
theorem us2(h:us.length=2):∃ a b,us=[a,b]:=by
 match us,h with
 |[a,b],_=>exact⟨a,b,rfl⟩
theorem us3(h:us.length=3):∃ a b c,us=[a,b,c]:=by
 match us,h with
 |[a,b,c],_=>exact⟨a,b,c,rfl⟩
theorem us4(h:us.length=4):∃ a b c d,us=[a,b,c,d]:=by
 match us,h with
 |[a,b,c,d],_=>exact⟨a,b,c,d,rfl⟩
def a72(fns:List (Str × List Str))(nums:List (Str × Int))(r:Row):Bool:=mtS r.lm fns nums h80 (b70 r.st) r.N r.b (i10 r.st)&&isQ r.b&&r.N.all (w60 (b70 r.st))&&v81 r.N r.ps (b70 r.st)
def B90(rows:List Row):List (Str × List Str):=rows.map λr=>(r.nm,r.ps)
def tabOf(rows:List Row):List Df:=rows.map λr=>Df.code r.ps.length r.N.length r.b
def D40(rows:List Row)(nums:List (Str × Int))(mn:List Str)(ex:List (Str × Ã8)):m60:=⟨rows.map (λr=>(r.nm,r.st))++ex,nums,"ValueError"::U81,mn,h80⟩
def clsAt(K:Ã)(c:Nat):Addr:=(Q60 K (h80.getD c "")).getD 0
theorem m12{K:Ã}{C:Ç}{c:Nat}{x:Str}(hc:h80[c]?=some x)(h:Ñ5 K æ x=some (some (.ref C))):clsAt K c=C:=by
 unfold clsAt;rw[Ó,hc];show(Q60 K x).getD 0=C;unfold Q60;rw[h];rfl
theorem m22{K:Ã}{h:é}{mg:Str->Option Ä}{q:m60}{x:Str}{j:Nat}(X:K.In h)(G:h.Ns æ mg)(F:Facts q K h)(hx:x∈q.cs)(hj:names12[j]?=some x)(hv:("ValueError":Str)∈q.ns):∃ C,Ñ5 K æ x=some (some (.ref C))/\N50 K mg C j/\Ë8 K C [.type "ValueError",.type "Exception",.type "BaseException",.type "object"] "ValueError.__new__"=true:=by
 obtain⟨C,hC,e⟩:=F.cl x hx;unfold V90 v71 at e;simp only[Ï2] at e;obtain⟨u1,u2,u3,u4,u5,hd,ve,ce,ex,ys⟩:=e;obtain⟨D,hD,ce⟩:=Ð.mp ce;have lt:j < 12:=(ä.mp hj).1;refine⟨C,hC,⟨λi y hy=>?_,⟨u1,u2,u3,u4,u5,F.sp,F.tk⟩,hd,ve,mg_none_of X G (F.no _ hv),⟨D,mg_of X G (J20 hD),ce⟩,lt⟩,ex⟩;have hm:=D30 ys y (å hy);obtain⟨B,hB,hk⟩:=Ð.mp hm;refine⟨B,mg_of X G (J20 hB),hk.trans (congrArg some (decide_eq_decide.mpr ⟨λq=>?_,λq=>?_⟩))⟩
 ·subst q;have nd:names12.Nodup:=by decide +kernel
  exact(List.getElem?_inj (ä.mp hy).1 nd).mp (hy.trans hj.symm)
 ·subst q;rw[hj] at hy;cases hy;rfl
section
variable {P:Ý}{w:ç}{K:Ã}{mg:Str->Option Ä}{base:é}
theorem ok0(F:S40 P w K mg base (CX1 P w) k f fd ps sp):S40 P w K mg base CX0 k f fd ps (λvs H Q _=>sp vs H Q λ_ _ _=>False) :=
 ⟨λvs H Q E h=>F.len _ _ _ _ h,λA outer s H args us vs Q E hr he hb hv hs=>Æ2 (F.run A outer s H args us vs Q _ hr he hb hv hs) λr s' h=>by
  cases r with
  |error e =>
   obtain⟨_,_,_,_,_,_,_,_,_,_,_,_,_,hE⟩:=h;exact hE.elim
  |ok fl=>cases fl <;> exact h⟩
theorem K62:Ý7 (#[]:Array Ä).toList:=by first | trivial | (unfold Ý7;trivial)
theorem o00.noT[TB:Tb](h:o00 K H a xs):o00 K (hz none H) a xs:=by
 rcases h with (h | ⟨o,h⟩) | h
 ·exact .inl (.inl (c70 h (λq=>nomatch q)))
 ·exact .inl (.inr ⟨o,c70 h (λq=>nomatch q)⟩)
 ·exact .inr h
theorem m32[TB:Tb]{G:Gs}{T:List Df}{k f:Nat}{H:Hp}{a:Ç}{ns:List Int}(pure:b60 T k f [.d (.lst (ns.map D.int))] none=some (.ok (.d (.bl true)) none))(hH:∀ p∈TB.tb,H p.1=some (.tbl #[]))(hS:o00 K H a (ns.map V.int)) :
  spF K (lev G T k) f 1 [.ref a] H (λv _=>v=.bl true) λ_ _ _=>False:=by
 refine⟨rfl,none,none,[.d (.lst (ns.map D.int))],_,.cons ?_ .nil,⟨trivial,λp hp=>⟨#[],hH p hp,K62,λpos c e=>nomatch e⟩⟩,pure,λv H' x st rv=>Hd.bl_ (show Hd K (hz none H') (.bl true) v from rv)⟩;show Hd K (hz none H) (.lst (ns.map D.int)) (.ref a);unfold Hd;exact⟨a,ns.map V.int,rfl,hS.noT,HdA.ints ns⟩
end
def D22(nm:Str):Str:=(Ï0 nm ⟨.function,[],false,false,[]⟩ 0 0 .none).qual++"<lambda>"
theorem m42{rows:List Row}{f:Nat}{nm:Str}{ps:List Str}(h:(B90 rows)[f]?=some (nm,ps)):∃ r∈rows,rows[f]?=some r/\r.nm=nm/\r.ps=ps:=by
 unfold B90 at h;rw[Ö] at h;obtain⟨r,h1,h2⟩:=Í.mp h;cases h2;exact⟨r,å h1,h1,rfl,rfl⟩
section
variable [TB:Tb] {P:Ý}{w:ç}{K:Ã}{h:é}{mg:Str->Option Ä}{base:é}{rows:List Row}{nums:List (Str × Int)}{mn:List Str}{ex:List (Str × Ã8)}
def m52(rows:List Row)(mn:List Str)(ex:List (Str × Ã8)):Prop:=∀ r∈rows,r.lm=true->r.nm∈mn/\∃ (sR:Ã8) (n:Nat),(("_law_refused":Str),sR)∈ex/\b70 sR=r00/\i10 sR=T80 n/\v91 ⟨"_law_refused",["_law_call"],sR,[],.nil,false⟩
def z62[TB:Tb](K:Ã)(rows:List Row):Prop:=∀ r∈rows,r.lm=true->∀ fd,(∃ f oc od sl,Ñ5 K æ r.nm=some (some (.ref f))/\K.lookup f=some ⟨oc,od,.func fd,sl⟩)->p82 K r.nm fd
theorem w01(X:K.In h)(Gn:h.Ns æ mg)(Q:Facts (D40 rows nums mn ex) K h):∀ c x,h80[c]?=some x->Ñ5 K æ x=some (some (.ref (clsAt K c)))/\N50 K mg (clsAt K c) c/\Ë8 K (clsAt K c) [.type "ValueError",.type "Exception",.type "BaseException",.type "object"] "ValueError.__new__"=true:=λc x hc=>by
 obtain⟨C,h1,h2,h3⟩:=m22 (x:=x) (j:=c) X Gn Q (å hc) hc Ê;rw[m12 hc h1];exact⟨h1,h2,h3⟩
theorem w11(X:K.In h)(Gn:h.Ns æ mg)(Q:Facts (D40 rows nums mn ex) K h)(bm:BMain mg base)(hR:m52 rows mn ex)(hr:r∈rows)(hlm:r.lm=true):∃ fR fdR,p72 P w K mg base (clsAt K) fR fdR:=by
 obtain⟨hmn,sR,n,g1,g2,g3,g4⟩:=hR r hr hlm;obtain⟨fR,fdR,a2,F2,oc2,od2,sl2,lk2⟩:=Q.fn ("_law_refused",sR) (ñ _ g1);refine⟨fR,fdR,bm,λj hj=>?_,mg_of X Gn a2,F2.kp,F2.binds g4,λk=>f42 F2 g2 g3 (mg_none_of X Gn (Q.no _ (È _ (-0)))) (mg_none_of X Gn (Q.no _ (È _ (-0))))⟩
 have hx:∃ x,h80[j]?=some x:=⟨_,á (by exact hj)⟩
 obtain⟨x,hx⟩:=hx;exact(w01 X Gn Q j x hx).2.1
theorem Y11(X:K.In h)(Gn:h.Ns æ mg)(Q:Facts (D40 rows nums mn ex) K h)(ok:rows.all (a72 (B90 rows) nums)=true)(bd:n10 rows)(bm:BMain mg base)(hR:m52 rows mn ex)(hT:z62 K rows)(F0:FT):∀ k,GX P w K mg base (lev ⟨B90 rows,nums,F0,clsAt K,0⟩ (tabOf rows) k) h80:=by
 refine m02 (λp hp=>?_) (λn hn=>?_) (λc x hc=>?_) λf nm ps hf=>?_
 ·obtain⟨t,e⟩:=Q.it p hp;exact⟨t,mg_of X Gn e⟩
 ·exact mg_none_of X Gn (Q.no n (È _ hn))
 ·obtain⟨h1,_,h3⟩:=w01 X Gn Q c x hc;exact⟨mg_of X Gn h1,h3⟩
 ·obtain⟨r,hr,hr2,rfl,rfl⟩:=m42 hf;obtain⟨fa,fd,a1,F1,oc,od,sl,lk⟩:=Q.fn (r.nm,r.st) (Æ6 _ (Þ.mpr ⟨r,hr,rfl⟩));have rb:=Î.mp ok r hr;unfold a72 at rb;simp only[Á] at rb;obtain⟨⟨⟨b1,b2⟩,b3⟩,b4⟩:=rb;refine⟨fa,fd,mg_of X Gn a1,F1.kp,F1.binds (bd.at hr),.inl ⟨r.lm,r.N,r.st,r.b,?_,F1,b71 b4,b3,b2,b1,λhlm=>?_⟩⟩
  ·unfold tabOf;rw[Ö,hr2];rfl
  ·obtain⟨fR,fdR,L⟩:=w11 (P:=P) (w:=w) X Gn Q bm hR hr hlm;exact⟨fR,fdR,L,hT r hr hlm fd ⟨fa,oc,od,sl,a1,lk⟩⟩
theorem m62(X:K.In h)(Gn:h.Ns æ mg)(Q:Facts (D40 rows nums mn ex) K h)(ok:rows.all (a72 (B90 rows) nums)=true)(bd:n10 rows)(bm:BMain mg base)(hR:m52 rows mn ex)(hT:z62 K rows)(F0:FT)(k:Nat)(hi:rows[i]?=some r)(F1:Fun K r.nm r.nm r.st fa fd)
  (hfd:∃ f oc od sl,Ñ5 K æ r.nm=some (some (.ref f))/\K.lookup f=some ⟨oc,od,.func fd,sl⟩):S40 P w K mg base (CX1 P w) (k + 3) fa fd r.ps (spF K (lev ⟨B90 rows,nums,F0,clsAt K,0⟩ (tabOf rows) (k + 3)) i r.ps.length):=by
 have hr:=å hi;have rb:=Î.mp ok r hr;unfold a72 at rb;simp only[Á] at rb;obtain⟨⟨⟨b1,b2⟩,b3⟩,b4⟩:=rb;have all:=Y11 (P:=P) (w:=w) X Gn Q ok bd bm hR hT F0;refine u91 (G:=lev ⟨B90 rows,nums,F0,clsAt K,0⟩ (tabOf rows) (k + 2)) (F':=g71 (tabOf rows) (k + 3)) (all (k + 2)) F1 (b71 b4) b3 b1 b2 (λhlm=>?_) λl z=>?_
 ·obtain⟨fR,fdR,L⟩:=w11 (P:=P) (w:=w) X Gn Q bm hR hr hlm;exact⟨k,fR,fdR,rfl,L,hT r hr hlm fd hfd,λf nm ps h=>(all k).gok f nm ps h⟩
 ·show(match (tabOf rows)[i]? with | some d=>run (g71 (tabOf rows) (k + 2)) d l | none=>M.no) z=_
  unfold tabOf;rw[Ö,hi];rfl
end
theorem w21{P:Ý}{w:ç}{K:Ã}{mg mb:Str->Option Ä}{k:Nat}{fa a:Ç}{fd:Å9}{x:Str}{sp:Sp}{s₁:Æ}{vs:List Ä}{ns:List Int}{ts:List Ç}
  (KX:K.In s₁.heap) (hns:s₁.heap.Ns æ mg) (hb:s₁.heap.Ns Í3 mb) (hbb:∀ x:Str,x≠"__name__"->mb x=í x) (hlim:s₁.heap.NoLimit) (hg:s₁.gens=#[])
  (ha:s₁.heap.get? a=some { cls:=.type "list",data:=.seq vs.toArray }) (hi:Ë1 vs ns) (hl:ns.length<=sizeLine) (hr:w30 k Ü0)
  (hT:∀ Pt∈ts,s₁.heap.get? Pt=some (È3 #[])/\K.lookup Pt=none/\∃ c,Å3 K c Pt=true) (bmn:BMain mg s₁.heap)
  (F:∀ base:é,K.In base->base.Ns æ mg->BMain mg base->S40 P w K mg base CX0 k fa fd [x] sp) (hbind:∀ (s:Æ) (u:Ä),BindsTo s fd ⟨[u],[]⟩ [(x,u)])
  (hsp:∀ H:Hp,(∀ Pt∈ts,H Pt=some (.tbl #[]))->o00 K H a (ns.map V.int)->sp [.ref a] H (λv _=>v=.bl true) λ_ _ _=>False) :
  Ì3 (Õ P w) Ü0 (.call (.ref fa) ⟨[.ref a],[]⟩) (λr s'=>r=.ok (.ret (.bool true))/\OldK s₁.heap s'.heap/\s'.os=s₁.os/\Ó1 s'.gens) s₁:=by
 have rv:=M60 hi;have lenV:=hi.length;have naT:a ∉ ts:=λh=>by have:=(hT a h).1;rw[ha] at this;cases this
 have core:∀ H:Hp,(∀ Pt∈ts,H Pt=some (.tbl #[]))->(∀ b,H b=none∨b∈ts∨(b=a/\∃ xs,H b=some (.frz { cls:=.type "list",data:=.seq vs.toArray } (.lst xs))))->o00 K H a (ns.map V.int)->HOk P w H s₁.heap->(H a≠none->K.lookup a=none) ->
   Ì3 (Õ P w) Ü0 (.call (.ref fa) ⟨[.ref a],[]⟩) (λr s'=>r=.ok (.ret (.bool true))/\OldK s₁.heap s'.heap/\s'.os=s₁.os/\Ó1 s'.gens) s₁:=by
  intro H hH hO hS hok hK;have plainN:∀ {b:Ç}{o:Obj},s₁.heap.get? b=some o->(∀ xs n,o.data≠.seq xs n)->(∀ xs,o.data≠.fields xs)->H b=none:=λ{b o} e d1 d2=>by
   rcases hO b with z | z | ⟨z,_⟩
   ·exact z
   ·have:=(hT b z).1;rw[e] at this;cases this;exact absurd rfl (d2 _)
   ·rw[z,ha] at e;cases e;exact absurd rfl (d1 _ _)
  have nsK:∀ {b:Ç}{m:Str->Option Ä},s₁.heap.Ns b m->(A91 s₁.heap H).Ns b m:=λ{b m} ⟨o,es,ep,e,d,r⟩=>⟨o,es,ep,E30 e (plainN e (λxs n z=>by rw[d] at z;cases z) λxs z=>by rw[d] at z;cases z),d,r⟩
  have hKb:K.In (A91 s₁.heap H):=λb o e=>E30 (KX b o e) (by
   rcases hO b with z | z | ⟨z,xs,z2⟩
   ·exact z
   ·rw[(hT b z).2.1] at e;cases e
   ·rw[z] at e z2;rw[hK (by rw[z2];exact λy=>nomatch y)] at e;cases e)
  have hM:Mod K mg (A91 s₁.heap H):=⟨hKb,nsK hns,⟨mb,nsK hb,hbb⟩,let ⟨mc,h1,h2⟩:=hlim;⟨mc,nsK h1,h2⟩⟩;have hBM:BMain mg (A91 s₁.heap H):=by
   obtain⟨bm,ob,b1,b2,b3,b4,b5,b6⟩:=bmn;exact⟨bm,ob,b1,b2,E30 b3 (plainN b3 (λxs n z=>by rw[b6] at z;cases z) λxs z=>by rw[b6] at z;cases z),b4,b5,b6⟩
  have e0:P21 P w K mg (A91 s₁.heap H) Ü0 [] s₁ H:=⟨rfl,hM,λb o e=>O61 e,Nat.le_of_eq (j31 _ _),trivial,λb hb=>absurd (show b∈([]:List Ç) from hb) (by simp),hok,.of_eq hg⟩
  refine Æ2 ((F _ hKb (nsK hns) hBM).run Ü0 [] s₁ H ⟨[.ref a],[]⟩ [.ref a] [.ref a] _ _ hr e0 (hbind s₁ (.ref a)) (.cons rfl .nil) (hsp H hH hS)) λr s' h=>?_;cases r with
  |error e=>exact À3 h
  |ok fl =>
   cases fl with
   |next=>exact À3 h
   |brk=>exact À3 h|cont=>exact À3 h
   |ret u =>
    obtain⟨v,H',os,bare,un,hok',r',q⟩:=h;have q':v=.bl true:=q;subst q';obtain rfl:u=Î2 true:=r';refine⟨rfl,⟨λb o e=>?_,λb o e=>un.there b o e (by simp)⟩,os,bare⟩
    rcases hO b with z | z | ⟨z,xs,z2⟩
    ·exact .inl (un.keep b o e z (by intro y;exact absurd (show b∈([]:List Ç) from y) (by simp)) (by simp))
    ·obtain⟨t1,_,c,t2⟩:=hT b z;rw[e] at t1;cases t1;obtain⟨more,m1⟩:=un.tbls b _ (hH b z);have m2:s'.heap.get? b=some { cls:=.none,data:=.fields (#[]++more) }:=hok' b _ m1;have CH:=codeHd_of_K KX t2;exact .inr (.inl ⟨(CH.tab e).isCodeTable,rfl,#[],more,rfl,m2⟩)
    ·have z3:=un.frzs b _ _ z2;obtain⟨e1,_⟩:=hok b _ z2;obtain⟨e2,_⟩:=hok' b _ z3;rw[e] at e1;cases e1;exact .inl e2
 cases hk:K.lookup a with
 |some o =>
  have e:=KX a o hk;rw[ha] at e;cases e;refine core (λb=>if b∈ts then some (.tbl #[]) else none) (λPt h=>if_pos h) (λb=>?_) (.inr ⟨vs.toArray,_,hk,by rw[Ø,lenV];exact hl,by simpa using rv⟩) (λb u z=>?_) λz=>absurd (if_neg naT) z
  ·by_cases h:b∈ts
   ·exact .inr (.inl h)
   ·exact .inl (if_neg h)
  ·by_cases h:b∈ts
   ·have z':=(if_pos h).symm.trans z;cases z';exact(hT b h).1
   ·have z':=(if_neg h).symm.trans z;cases z'
 |none =>
  refine core (λb=>if b=a then some (.frz { cls:=.type "list",data:=.seq vs.toArray } (.lst (ns.map V.int))) else if b∈ts then some (.tbl #[]) else none) (λPt h=>?_) (λb=>?_) (.inl (.inr ⟨{ cls:=.type "list",data:=.seq vs.toArray },if_pos rfl⟩)) (λb u z=>?_) λ_=>hk
  ·rw[if_neg (λy=>naT (by rw[← y];exact h)),if_pos h]
  ·by_cases hb:b=a
   ·exact .inr (.inr ⟨hb,_,if_pos hb⟩)
   ·by_cases h:b∈ts
    ·exact .inr (.inl h)
    ·exact .inl (by rw[if_neg hb,if_neg h])
  ·by_cases hb:b=a
   ·have z':=(if_pos hb).symm.trans z;cases z';subst hb;exact⟨ha,by rw[Ì];exact hl,vs,_,rv,ha⟩
   ·replace z:=(if_neg hb).symm.trans z
    by_cases h:b∈ts
    ·have z':=(if_pos h).symm.trans z;cases z';exact(hT b h).1
    ·have z':=(if_neg h).symm.trans z;cases z'
theorem I11{l:PySem.W.OpenLaw}{n k:Nat}{q:Ý}{loose:List Str}{XP:(Str->Option Ä)->é->Prop}{d:DefRec}{A:m60}{x:Str}
  (hn:l.most=some n) (hn2:n<=sizeLine) (hdf:d.params.defaults=[]) (hr:w30 k Ü0)
  (F:∀ (w:ç) (mg:Str->Option Ä) (fa:Ç) (h:é) (K:Ã),Facts A K h->K.In h->h.Ns æ mg->mg d.name=some (.ref fa) ->
   ∃ (fd:Å9) (ts:List Ç) (sp:Sp),(∀ Pt∈ts,h.get? Pt=some (È3 #[])/\K.lookup Pt=none/\∃ c,Å3 K c Pt=true)/\(∀ (s:Æ) (u:Ä),BindsTo s fd ⟨[u],[]⟩ [(x,u)]) /\
    (∀ base:é,K.In base->base.Ns æ mg->BMain mg base->S40 l.prog w K mg base CX0 k fa fd [x] sp) /\
    ∀ (H:Hp) (a:Ç) (ns:List Int),ns.length<=n->(∀ Pt∈ts,H Pt=some (.tbl #[]))->o00 K H a (ns.map V.int)->sp [.ref a] H (λv _=>v=.bl true) λ_ _ _=>False) :
  PySem.W.WalkO q loose XP A.hook.says l.row.toRowW d [] (λf vs=>PySem.call f vs):=by
 refine Att.T10 hn hdf λw s₀ s₁ mg mb fa o pm cd doc a vs ns G Y ho hd hcd hmg hobj hints hlen hg=>?_;obtain⟨K,KX,FX⟩:=Y;obtain⟨fd,ts,sp,hT,hb,hF,hsp⟩:=F w mg fa _ K FX KX G.T.g hmg;exact w21 KX G.T.g G.T.b G.T.builtins G.T.nolimit hg hobj hints (â hlen hn2) hr hT G.T.bmain hF hb λH hH hS=>hsp H a ns hlen hH hS
theorem Y21{l:PySem.W.OpenLaw}{rows:List Row}{nums:List (Str × Int)}{mn:List Str}{ex:List (Str × Ã8)}{k iL n:Nat}{rL:Row}(ok:rows.all (a72 (B90 rows) nums)=true)(bd:n10 rows)(hL:rows[iL]?=some rL)(hn:rL.nm="law")(hp:rL.ps=[("_law_script":Str)])(hmn:mn.length<=1)(hR:m52 rows mn ex)
  (pure:∀ ns:List Int,ns.length<=n->b60 (tabOf rows) (k + 3) iL [.d (.lst (ns.map D.int))] none=some (.ok (.d (.bl true)) none)) (w:ç) (mg:Str->Option Ä) (fa:Ç) (h:é) (K:Ã) (Q:Facts (D40 rows nums mn ex) K h) (X:K.In h) (Gn:h.Ns æ mg) (hfa:mg "law"=some (.ref fa)) :
   ∃ (fd:Å9) (ts:List Ç) (sp:Sp),(∀ Pt∈ts,h.get? Pt=some (È3 #[])/\K.lookup Pt=none/\∃ c,Å3 K c Pt=true)/\(∀ (s:Æ) (u:Ä),BindsTo s fd ⟨[u],[]⟩ [("_law_script",u)]) /\
    (∀ base:é,K.In base->base.Ns æ mg->BMain mg base->S40 l.prog w K mg base CX0 (k + 3) fa fd ["_law_script"] sp) /\
    ∀ (H:Hp) (a:Ç) (ns:List Int),ns.length<=n->(∀ Pt∈ts,H Pt=some (.tbl #[]))->o00 K H a (ns.map V.int)->sp [.ref a] H (λv _=>v=.bl true) λ_ _ _=>False:=by
 have hrL:rL∈rows:=å hL;obtain⟨fL,fdL,aL,FL,ocL,odL,slL,lkL⟩:=Q.fn (rL.nm,rL.st) (Æ6 _ (Þ.mpr ⟨rL,hrL,rfl⟩));have bL:=bd.at hrL;have e:=hfa.symm.trans (mg_of X Gn (by rw[← hn];exact aL))
 cases e;have bT:∀ (s:Æ) (u:Ä),BindsTo s fdL ⟨[u],[]⟩ [("_law_script",u)]:=by
  obtain⟨_,_,kV,doc,pm,an,cdv,ct,_,e,_,_⟩:=FL.ex;subst e;intro s u;have:=bL kV doc pm an cdv ct [u] (by rw[hp];rfl)
  rw[hp] at this;exact .of_eq this
 have fin:∀ (TB:Tb) (ts:List Ç),(∀ p∈TB.tb,p.1∈ts)->(∀ Pt∈ts,h.get? Pt=some (È3 #[])/\K.lookup Pt=none/\∃ c,Å3 K c Pt=true)->z62 K rows ->
   ∃ (fd:Å9) (ts:List Ç) (sp:Sp),(∀ Pt∈ts,h.get? Pt=some (È3 #[])/\K.lookup Pt=none/\∃ c,Å3 K c Pt=true)/\(∀ (s:Æ) (u:Ä),BindsTo s fd ⟨[u],[]⟩ [("_law_script",u)]) /\
    (∀ base:é,K.In base->base.Ns æ mg->BMain mg base->S40 l.prog w K mg base CX0 (k + 3) fa fd ["_law_script"] sp) /\
    ∀ (H:Hp) (a:Ç) (ns:List Int),ns.length<=n->(∀ Pt∈ts,H Pt=some (.tbl #[]))->o00 K H a (ns.map V.int)->sp [.ref a] H (λv _=>v=.bl true) λ_ _ _=>False:=λTB ts h1 h2 h3=>by
  refine⟨fdL,ts,λvs H Q _=>spF K (lev ⟨B90 rows,nums,λ_ _ _=>M.no,clsAt K,0⟩ (tabOf rows) (k + 3)) iL 1 vs H Q λ_ _ _=>False,h2,bT,λbase kb nb bm=>?_,λH a ns hl hH hS=>m32 (pure ns hl) (λp hp=>hH p.1 (h1 p hp)) hS⟩;have F:=ok0 (m62 (P:=l.prog) (w:=w) X Gn Q ok bd bm hR h3 (λ_ _ _=>M.no) k hL FL ⟨fa,ocL,odL,slL,aL,lkL⟩);rw[hp] at F;exact F
 match mn,hmn,Q with
 |[],_,Q =>
  exact fin ⟨[]⟩ [] (λp hp=>by cases hp) (λp hp=>by cases hp) λr hr hlm=>by
   have:=(hR r hr hlm).1;cases this
 |[m],_,Q =>
  obtain⟨T,t1,t2,f,oc,od,fd,sl,c,t3,t4,t5,t6⟩:=Q.mt m (.head _);refine fin ⟨[(T,D22 m)]⟩ [T] (λp hp=>?_) (λp hp=>?_) λr hr hlm fd' h'=>?_
  ·cases ß.mp hp;exact .head _
  ·cases ß.mp hp;exact⟨t1,t2,c,t6⟩
  ·have hm:r.nm=m:=ß.mp (hR r hr hlm).1;rw[hm] at h' ⊢;obtain⟨f',oc',od',sl',e1,e2⟩:=h';rw[t3] at e1;cases e1;rw[t4] at e2;cases e2;exact⟨c,T,D22 m,t5,t6,λ_ _ _ _=>rfl,.head _,λp hp _=>by cases ß.mp hp;rfl⟩
end Q
namespace Q
open L2 (D)
open PySem (Paired)
def b81:Ex->Bool
 |.var _=>false|_=>true
def K72:Ex->Env->Option (Option S)
 |.var i,ρ=>ρ[i]?|_,_=>none
def D32:Option (Option S)->Option S
 |some (some s)=>noS s|_=>none
def blS:S->Option Bool
 |.d (.bl b)=>some b|_=>none
abbrev Du{α:Type}(_:α->Z->Prop)(_:Nat->Z->Prop):Type:=Unit
abbrev Dv{α:Type}(_:α->Prop):Type:=Unit
structure W{α:Type}(m:M α)(z:Z)(Q:α->Z->Prop)(E:Nat->Z->Prop)(du:Du Q E:=()):Prop where
 ex:∃ r,m z=some r/\match r with
  |.ok a z1=>Q a z1|.er c z1=>E c z1
theorem W_e{α:Type}{m:M α}{Q:α->Z->Prop}:W m z Q E↔∃ r,m z=some r/\match r with
  |.ok a z1=>Q a z1|.er c z1=>E c z1:=⟨W.ex,W.mk⟩
abbrev NE:Nat->Z->Prop:=λ_ _=>False
def Get{α:Type}(o:Option α)(P:α->Prop)(_:Dv P:=()):Prop:=match o with
 |some a=>P a|none=>False
theorem m72{α:Type}{a:α}{P:α->Prop}:Get (some a) P↔P a:=Iff.rfl
theorem m50{α:Type}{o:Option α}{P:α->Prop}(h:Get o P):∃ a,o=some a/\P a:=by
 cases o with
 |none=>exact h.elim|some a=>exact⟨a,rfl,h⟩
theorem a20{α:Type}{o:Option α}{a:α}{P:α->Prop}(h:o=some a)(hp:P a):Get o P:=by rw[h];exact hp
theorem w31{α:Type}{o:Option α}{P P':α->Prop}(h:∀ a,P a↔P' a):Get o P↔Get o P':=by
 cases o with
 |none=>exact Iff.rfl|some a=>exact h a
section
variable {α β:Type}{m:M α}{z z1:Z}{Q Q':α->Z->Prop}{E E':Nat->Z->Prop}
theorem W.mono(h:W m z Q E)(hq:∀ a z,Q a z->Q' a z)(he:∀ c z,E c z->E' c z):W m z Q' E':=by
 obtain⟨r,e,h⟩:=h;refine⟨r,e,?_⟩;cases r with
 |ok a z1=>exact hq _ _ h|er c z1=>exact he _ _ h
theorem W.imp(h:W m z Q NE)(hq:∀ a z,Q a z->Q' a z):W m z Q' E':=h.mono hq λ_ _ h=>h.elim
theorem W.ok{a:α}(h:W m z (λb z2=>b=a/\z2=z1) NE):m z=some (.ok a z1):=by
 obtain⟨r,e,h⟩:=h;cases r with
 |ok b z2=>obtain⟨rfl,rfl⟩:=h;exact e
 |er c z2=>exact h.elim
theorem W.er(h:W m z (λ_ _=>False) (λd z2=>d=c/\z2=z1)):m z=some (.er c z1):=by
 obtain⟨r,e,h⟩:=h;cases r with
 |ok b z2=>exact h.elim|er d z2=>obtain⟨rfl,rfl⟩:=h;exact e
theorem D42{a:α}(h:m z=some (.ok a z1)):W m z Q E↔Q a z1:=by
 rw[W_e];constructor
 ·rintro ⟨r,e,q⟩;rw[h] at e;cases e;exact q
 ·exact λq=>⟨_,h,q⟩
theorem K82{c:Nat}(h:m z=some (.er c z1)):W m z Q E↔E c z1:=by
 rw[W_e];constructor
 ·rintro ⟨r,e,q⟩;rw[h] at e;cases e;exact q
 ·exact λq=>⟨_,h,q⟩
theorem C00{a:α}:W (M.ret a) z Q E↔Q a z:=D42 rfl
theorem m82:W (M.no:M α) z Q E↔False:=⟨λ⟨_,e,_⟩=>(by cases e),À3⟩
theorem s10{f:α->M β}{Q:β->Z->Prop}:W (M.bind m f) z Q E↔W m z (λa z1=>W (f a) z1 Q E) E:=by
 constructor
 ·rintro ⟨r,e,q⟩;unfold M.bind at e;split at e
  ·rename_i a z1 e1;exact⟨_,e1,r,e,q⟩
  ·rename_i c z1 e1;cases e;exact⟨_,e1,q⟩
  ·cases e
 ·rintro ⟨r,e,q⟩;cases r with
  |ok a z1 =>
   obtain⟨r,e2,q⟩:=q;refine⟨r,?_,q⟩;unfold M.bind;rw[e];exact e2
  |er c z1 =>
   refine⟨.er c z1,?_,q⟩;unfold M.bind;rw[e]
theorem N51:W (M.calm m) z Q E↔W m z Q NE:=by
 rw[W_e,W_e];unfold M.calm;constructor
 ·rintro ⟨r,e,q⟩;split at e
  ·rename_i a z1 e1;cases e;exact⟨_,e1,q⟩
  ·cases e
 ·rintro ⟨r,e,q⟩;cases r with
  |ok a z1=>exact⟨.ok a z1,by rw[e],q⟩|er c z1=>exact q.elim
theorem Y31(h:∀ a z,Q a z↔Q' a z):W m z Q E↔W m z Q' E:=⟨λx=>x.mono (λa z=>(h a z).mp) λ_ _ h=>h,λx=>x.mono (λa z=>(h a z).mpr) λ_ _ h=>h⟩
theorem wR{a:α}:Q a z↔W (M.ret a) z Q E:=C00.symm
theorem wN:False↔W (M.no:M α) z Q E:=m82.symm
theorem wT{c:Prop}[Decidable c]{a b:M α}{A B:Prop}(h1:A↔W a z Q E)(h2:B↔W b z Q E):(if c then A else B)↔W (if c then a else b) z Q E:=by
 split <;> assumption
theorem wG{o:Option β}{f:β->M α}{K:β->Prop}(h:∀ a,K a↔W (f a) z Q E):Get o K↔W (M.bind (M.of o) f) z Q E:=by
 cases o with
 |none=>exact m82.symm|some a=>exact h a
theorem wB{m:M β}{f:β->M α}{V:Prop}{K:β->Z->Prop}(h1:V↔W m z K E)(h2:∀ a z1,K a z1↔W (f a) z1 Q E):V↔W (M.bind m f) z Q E:=h1.trans ((Y31 h2).trans s10.symm)
end
def Wm{α:Type}(o:Option (R α))(Q:α->Z->Prop)(E:Nat->Z->Prop):Prop:=match o with
 |some (.ok a z1)=>Q a z1|some (.er c z1)=>E c z1|none=>False
theorem wM{α:Type}{m:M α}{z:Z}{Q:α->Z->Prop}{E:Nat->Z->Prop}:Wm (m z) Q E↔W m z Q E:=by
 rw[W_e];unfold Wm;cases h:m z with
 |none=>exact⟨À3,λ⟨_,e,_⟩=>by cases e⟩
 |some r =>
  refine⟨λq=>⟨r,rfl,?_⟩,λ⟨_,e,q⟩=>?_⟩
  ·cases r <;> exact q
  ·cases e;cases r <;> exact q
def Vr(o:Option (Option S))(z:Z)(Q:List S->Z->Prop)(_:Du Q NE:=()):Prop:=match o with
 |some (some s)=>Q [plS s] z|_=>False
def WV:FT->Ex->Env->Z->(List S->Z->Prop)->(Nat->Z->Prop)->Prop
 |F,.nil=>λρ z Q E=>Q [] z|F,.cons a r=>λρ z Q E=>WV F a ρ z (λx z1=>Get (one x) λs=>WV F r ρ z1 (λy z2=>Q (s::y) z2) E) E|F,.con x=>λρ z Q E=>Q [.d x] z|F,.gint g i=>λρ z Q E=>Q [.d (.int i)] z|F,.tup as=>λρ z Q E=>WV F as ρ z (λl z1=>Get (plA l) λds=>if ds.length<=most then Q [.d (.tup ds)] z1 else False) E|F,.lst as=>λρ z Q E=>WV F as ρ z (λl z1=>Get (plA l) λds=>if ds.length<=most then Q [.fr ds] z1 else False) E|F,.bin o a b=>λρ z Q E=>WV F a ρ z (λx z1=>Get (pl x) λdx=>WV F b ρ z1 (λy z2=>Get (pl y) λdy=>Get (H30 o dx dy) λs=>Q [s] z2) E) E|F,.cmp o a b=>λρ z Q E=>WV F a ρ z (λx z1=>Get (pl x) λdx=>WV F b ρ z1 (λy z2=>Get (pl y) λdy=>Get (y90 o dx dy) λt=>Q [.d (.bl t)] z2) E) E|F,.neg a=>λρ z Q E=>WV F a ρ z (λx z1=>Get ((pl x).bind asI) λi=>Q [.d (.int (-i))] z1) E|F,.not a=>λρ z Q E=>WV F a ρ z (λx z1=>Get ((pl x).bind asB) λb=>Q [.d (.bl !b)] z1) E|F,.and a b=>λρ z Q E=>WV F a ρ z (λx z1=>Get ((pl x).bind asB) λc=>if c then WV F b ρ z1 (λy z2=>Get ((pl y).bind asB) λc=>Q [.d (.bl c)] z2) E else Q [.d (.bl false)] z1) E|F,.or a b=>λρ z Q E=>WV F a ρ z (λx z1=>Get ((pl x).bind asB) λc=>if c then Q [.d (.bl true)] z1 else WV F b ρ z1 (λy z2=>Get ((pl y).bind asB) λc=>Q [.d (.bl c)] z2) E) E|F,.orT a b=>λρ z Q E=>WV F a ρ z (λx z1=>Get ((pl x).bind f62) λl=>if l.isEmpty then WV F b ρ z1 (λy z2=>Get ((pl y).bind f62) λl=>Q [.d (.tup l)] z2) NE else Q [.d (.tup l)] z1) NE|F,.ite c a b=>λρ z Q E=>WV F c ρ z (λx z1=>Get ((pl x).bind asB) λc=>if c then WV F a ρ z1 Q E else WV F b ρ z1 Q E) E|F,.ch o o' a b c=>λρ z Q E=>WV F a ρ z (λx z1=>Get (pl x) λdx=>WV F b ρ z1 (λy z2=>Get (pl y) λdy=>Get (y90 o dx dy) λt=>if t then WV F c ρ z2 (λw z3=>Get (pl w) λdw=>Get (y90 o' dy dw) λt=>Q [.d (.bl t)] z3) E else Q [.d (.bl false)] z2) E) E|F,.bf f as=>λρ z Q E=>WV F as ρ z (λl z1=>Get (plA l) λds=>Get (bfD f ds) λs=>Q [s] z1) E|F,.isi t a=>λρ z Q E=>WV F a ρ z (λx z1=>Get (pl x) λx=>Q [.d (.bl (L51 t x))] z1) E|F,.idx a i=>λρ z Q E=>WV F a ρ z (λx z1=>Get (pl x) λdx=>WV F i ρ z1 (λy z2=>Get (pl y) λdy=>Get (g51 dx dy) λr=>Q [.d r] z2) E) E|F,.sl a lo hi=>λρ z Q E=>WV F a ρ z (λx z1=>Get (pl x) λdx=>WV F lo ρ z1 (λu z2=>Get (p51 u) λu=>WV F hi ρ z2 (λv z3=>Get (p51 v) λv=>Get (slD dx u v) λs=>Q [s] z3) E) E) E|F,.rev a=>λρ z Q E=>WV F a ρ z (λx z1=>Get ((pl x).bind C02) λs=>Q [s] z1) E|F,.call f as=>λρ z Q E=>WV F as ρ z (λl z1=>W (F false f (l.map plS)) z1 (λs z2=>Q [s] z2) E) E|F,.comp own capt p it src cond el=>λρ z Q E=>WV F src ρ z (λl z1=>Get ((plA l).bind (itD it)) λxs=>if xs.length<=most then W (turns (o40 (ev F cond) (ev F el) p (î own none++capt.map λi=>(ρ[i]?).getD none)) xs) z1 (λys z2=>Q [.fr ys] z2) NE else False) E|F,.lrng b as=>λρ z Q E=>WV F as ρ z (λl z1=>Get ((plA l).bind lrD) λxs=>Q [lrS b xs] z1) E|F,.refd capt a=>λρ z Q E=>Get (F21 ρ capt) λss=>WV (λ_=>F true) a (ss.map some) z (λ_ _=>False) (λc z1=>if c < 12 then Q [.fr [.int c]] z1 else False)|F,.var i=>λρ z Q E=>Vr ρ[i]? z Q|F,.zget i k=>λρ z Q E=>Wm (p61 k ρ[i]? z) Q E
def WE(F:FT)(e:Ex)(ρ:Env)(z:Z)(Q:List S->Z->Prop)(E:Nat->Z->Prop)(_:Du Q E:=()):Prop:=WV F e ρ z Q E
def WX(F:FT)(tp:Bool):Sm->Env->Z->(O->Z->Prop)->(Nat->Z->Prop)->Prop
 |.nil=>λρ z Q E=>Q (.nx ρ) z
 |.seq s r=>λρ z Q E=>WX F tp s ρ z (λo z1=>match o with
  |.nx ρ=>WX F tp r ρ z1 Q E
  |.rt s=>Q (.rt s) z1) E
 |.set p e=>λρ z Q E=>WE F e ρ z (λl z1=>Get (one l) λs=>Get (z20 p s (i30 s ρ)) λρ'=>Q (.nx ρ') z1) E|.ret e=>λρ z Q E=>if b81 e then WE F e ρ z (λl z1=>Get ((one l).bind noS) λs=>Q (.rt s) z1) E else Get (D32 (K72 e ρ)) λs=>Q (.rt s) z|.iff c t e=>λρ z Q E=>WE F c ρ z (λx z1=>Get ((pl x).bind asB) λb=>if b then WX F tp t ρ z1 Q E else WX F tp e ρ z1 Q E) E|.exp e=>λρ z Q E=>WE F e ρ z (λl z1=>Get (one l) λ_=>Q (.nx ρ) z1) E|.rais c=>λρ z Q E=>E c z|.fr p it src b=>λρ z Q E=>WE F src ρ z (λl z1=>Get ((plA l).bind (itD it)) λxs=>W (S50 (λx ρ=>M.bind (M.of (e70 p x ρ)) λρ=>ex F tp b ρ) xs (p71 it src l ρ)) z1 Q E) E|.grp i j k src=>λρ z Q E=>if i < ρ.length/\j < ρ.length/\k < ρ.length then WE F (.cons src .nil) (ρ.set i none) z (λl z1=>Get ((plA l).bind T01) λs=>Q (.rt s) z1) E else False|.zset i e=>λρ z Q E=>WE F e ρ z (λl z1=>Get ((pl l).bind asI) λv=>Wm (p91 ρ v ρ[i]? z1) Q E) E|.app i e=>λρ z Q E=>Get (ownAt ρ i) λxs=>WE F e ρ z (λl z1=>Get (pl l) λx=>if bare x=true/\xs.length < most then Q (.nx (ρ.set i (some (.fr (xs++[x]))))) z1 else False) E|.newz i f as=>λρ z Q E=>WE F (.call f as) ρ z (λl z1=>Wm (p81 tp ρ i l) Q E) E
def WS(F:FT)(tp:Bool)(s:Sm)(ρ:Env)(z:Z)(Q:O->Z->Prop)(E:Nat->Z->Prop)(_:Du Q E:=()):Prop:=WX F tp s ρ z Q E
theorem m92:W (ev F (.refd capt a) ρ) z Q E↔Get (F21 ρ capt) λss=>W (ev (z10 F) a (ss.map some)) z (λ_ _=>False) (λc z1=>if c < 12 then Q [.fr [.int c]] z1 else False):=by
 show W (f82 (F21 ρ capt) λρ'=>ev (z10 F) a ρ') z Q E↔_;rw[W_e];unfold f82;constructor
 ·rintro ⟨r,e,q⟩;split at e
  ·cases e
  ·rename_i ss h1;split at e
   ·rename_i c z1 h2;split at e
    ·rename_i h3;cases e;refine a20 h1 ⟨_,h2,?_⟩;dsimp only;rw[if_pos h3];exact q
    ·cases e
   ·cases e
 ·intro h;obtain⟨ss,h1,r,h2,q⟩:=m50 h;cases r with
  |ok a z1=>exact q.elim
  |er c z1 =>
   dsimp only at q;split at q
   ·rename_i h3;refine⟨.ok [.fr [.int c]] z1,?_,q⟩;rw[h1];dsimp only;rw[h2];dsimp only;rw[if_pos h3]
   ·exact q.elim
theorem n02:∀ (e:Ex) {F:FT}{ρ:Env}{z:Z}{Q:List S->Z->Prop}{E:Nat->Z->Prop},WV F e ρ z Q E↔W (ev F e ρ) z Q E:=by
 intro e
 induction e with
 |nil=>intros;exact wR|cons a r ha hr=>intros;exact wB ha λx z1=>wG λs=>wB hr λy z2=>wR
 |var i =>
  intro F ρ z Q E;show Vr ρ[i]? z Q↔W (match ρ[i]? with | some (some s)=>M.ret [plS s] | _=>M.no) z Q E
  generalize ρ[i]?=o
  match o with
  |some (some s)=>exact wR|some none=>exact wN|none=>exact wN
 |con x=>intros;exact wR|gint g i=>intros;exact wR|tup a ha=>intros;exact wB ha λl z1=>wG λds=>wT wR wN|lst a ha=>intros;exact wB ha λl z1=>wG λds=>wT wR wN|bin o a b ha hb=>intros;exact wB ha λx z1=>wG λdx=>wB hb λy z2=>wG λdy=>wG λs=>wR|cmp o a b ha hb=>intros;exact wB ha λx z1=>wG λdx=>wB hb λy z2=>wG λdy=>wG λs=>wR|neg a ha=>intros;exact wB ha λx z1=>wG λi=>wR|not a ha=>intros;exact wB ha λx z1=>wG λi=>wR|and a b ha hb=>intros;exact wB ha λx z1=>wG λc=>wT (wB hb λy z2=>wG λc=>wR) wR|or a b ha hb=>intros;exact wB ha λx z1=>wG λc=>wT wR (wB hb λy z2=>wG λc=>wR)|orT a b ha hb=>intros;refine Iff.trans ?_ N51.symm;exact wB ha λx z1=>wG λl=>wT (wB hb λy z2=>wG λl=>wR) wR|ite c a b hc ha hb=>intros;exact wB hc λx z1=>wG λc=>wT ha hb|ch o o' a b c ha hb hc=>intros;exact wB ha λx z1=>wG λdx=>wB hb λy z2=>wG λdy=>wG λt=>wT (wB hc λw z3=>wG λdw=>wG λt=>wR) wR|bf f a ha=>intros;exact wB ha λl z1=>wG λds=>wG λs=>wR|isi t a ha=>intros;exact wB ha λx z1=>wG λx=>wR|idx a i ha hi=>intros;exact wB ha λx z1=>wG λdx=>wB hi λy z2=>wG λdy=>wG λr=>wR|sl a l h ha hl hh=>intros;exact wB ha λx z1=>wG λdx=>wB hl λu z2=>wG λu=>wB hh λv z3=>wG λv=>wG λs=>wR|rev a ha=>intros;exact wB ha λx z1=>wG λs=>wR|call f a ha=>intros;exact wB ha λl z1=>wB Iff.rfl λs z2=>wR|comp own capt p it src cond el hs hc he=>intros;exact wB hs λl z1=>wG λxs=>wT (wB N51.symm λys z2=>wR) wN|zget i k=>intros;exact wM (m:=p61 k _)|lrng b a ha=>intros;exact wB ha λl z1=>wG λxs=>wR|refd capt a ha=>intros;exact(w31 λss=>ha).trans m92.symm
theorem d00{e:Ex}{F:FT}{ρ:Env}{z:Z}{Q:List S->Z->Prop}{E:Nat->Z->Prop}:WE F e ρ z Q E↔W (ev F e ρ) z Q E:=n02 e
theorem z72{F:FT}{tp:Bool}{ρ:Env}{e:Ex}(h:b81 e=true):ex F tp (.ret e) ρ=M.bind (ev F e ρ) λl=>M.bind (M.of ((one l).bind noS)) λs=>M.ret (.rt s):=by
 cases e with
 |var i=>cases h
 |_=>rfl
theorem n12{F:FT}{tp:Bool}:∀ (s:Sm) {ρ:Env}{z:Z}{Q:O->Z->Prop}{E:Nat->Z->Prop},WX F tp s ρ z Q E↔W (ex F tp s ρ) z Q E:=by
 intro s
 induction s with
 |nil=>intros;exact wR
 |seq s r hs hr =>
  intros;refine wB hs λo z1=>?_;cases o with
  |nx ρ=>exact hr|rt s=>exact wR
 |set p e=>intros;exact wB d00 λl z1=>wG λs=>wG λρ'=>wR
 |ret e =>
  intro ρ z Q E;show(if b81 e then _ else _)↔_;cases h:b81 e with
  |true =>
   refine(iff_of_eq (if_pos rfl)).trans ?_;rw[z72 h];exact wB d00 λl z1=>wG λs=>wR
  |false =>
   cases e with
   |var i =>
    refine(iff_of_eq (if_neg Ñ)).trans ?_;show Get (D32 ρ[i]?) _↔W (match ρ[i]? with | some (some s)=>M.bind (M.of (noS s)) λs=>M.ret (O.rt s) | _=>M.no) z Q E
    generalize ρ[i]?=o
    match o with
    |some (some s)=>exact wG λs=>wR|some none=>exact wN|none=>exact wN
   |_=>cases h
 |iff c t u ht hu=>intros;exact wB d00 λx z1=>wG λc=>wT ht hu|exp e=>intros;exact wB d00 λl z1=>wG λs=>wR|rais c=>intros;exact(K82 rfl).symm|fr p it src b ih=>intros;exact wB d00 λl z1=>wG λxs=>Iff.rfl|grp i j k src=>intros;exact wT (wB d00 λl z1=>wG λs=>wR) wN|zset i e=>intros;exact wB d00 λl z1=>wG λv=>wM (m:=p91 _ v _)|app i e=>intros;exact wG λxs=>wB d00 λl z1=>wG λx=>wT wR wN|newz i f as=>intros;exact wB d00 λl z1=>wM (m:=λ_=>p81 tp _ i l)
theorem b91:WS F tp s ρ z Q E↔W (ex F tp s ρ) z Q E:=n12 s
theorem WS.mono{s:Sm}{F:FT}{tp:Bool}{ρ:Env}{z:Z}{Q Q':O->Z->Prop}{E E':Nat->Z->Prop}(h:WS F tp s ρ z Q E)(hq:∀ a z,Q a z->Q' a z)(he:∀ c z,E c z->E' c z):WS F tp s ρ z Q' E':=b91.mpr (W.mono (b91.mp h) hq he)
theorem Y41(Mid:Env->Z->Prop)(h:WS F tp s ρ z (λo z1=>match o with
  |.nx ρ=>Mid ρ z1
  |.rt s=>Q (.rt s) z1) E) (h2:∀ ρ z,Mid ρ z->WS F tp r ρ z Q E):WS F tp (.seq s r) ρ z Q E:=by
 refine WS.mono (s:=s) h (λo z1 h=>?_) λ_ _ h=>h;cases o with
 |nx ρ=>exact h2 ρ z1 h|rt s=>exact h
section
variable {T:List Df}{k f ps ns:Nat}{b:Sm}{l:List S}{z:Z}{Q:S->Z->Prop}{E:Nat->Z->Prop}
theorem n22(h:T[f]?=some (.code ps ns b))(hl:l.length=ps)(hn:ps<=ns):W (b60 T (k + 3) f l) z Q E↔WS (g71 T (k + 2)) z.isNone b (start ns (l.map plS)) z (λo z1=>match o with
  |.nx _=>Q (.d .non) (H50 z z1)
  |.rt s=>Q s (H50 z z1)) λc z1=>E c (H50 z z1):=by
 refine Iff.trans ?_ b91.symm;rw[U10,h];show W (λz=>if l.length=ps/\ps<=ns then(match ex (g71 T (k + 2)) z.isNone b (start ns (l.map plS)) z with
  |some (.ok (.nx _) z1)=>some (R.ok (S.d .non) (H50 z z1))|some (.ok (.rt s) z1)=>some (.ok s (H50 z z1))|some (.er c z1)=>some (.er c (H50 z z1))
  |none=>none) else none) z Q E↔_
 rw[W_e,W_e];constructor
 ·rintro ⟨r,e,q⟩;rw[if_pos ⟨hl,hn⟩] at e;split at e
  ·rename_i ρ z1 e1;cases e;exact⟨_,e1,q⟩
  ·rename_i s z1 e1;cases e;exact⟨_,e1,q⟩
  ·rename_i c z1 e1;cases e;exact⟨_,e1,q⟩
  ·cases e
 ·rintro ⟨r,e,q⟩;rw[if_pos ⟨hl,hn⟩,e]
  match r,q with
  |.ok (.nx ρ) z1,q=>exact⟨_,rfl,q⟩|.ok (.rt s) z1,q=>exact⟨_,rfl,q⟩|.er c z1,q=>exact⟨_,rfl,q⟩
end
section
variable {F:FT}{tp:Bool}{ρ:Env}{z:Z}{E:Nat->Z->Prop}
theorem W40{f:D->M (Option D)}{o:D->Option D}:∀ {xs:List D}{Q:List D->Z->Prop},(∀ x∈xs,f x z=some (.ok (o x) z))->(W (turns f xs) z Q E↔Q (xs.filterMap o) z)
 |[],Q,_=>C00
 |x::r,Q,h=>by
  show W (M.bind (f x) _) z Q E↔_;rw[s10,D42 (h x Ê),s10,W40 λy hy=>h y (È _ hy),C00];rw[þ];cases o x <;> rfl
theorem c01{f:D->M (Option D)}{I:Z->Prop}{P:D->D->Prop}:∀ {xs:List D}{z:Z}{Q:List D->Z->Prop},I z->(∀ x∈xs,∀ z,I z->W (f x) z (λo z1=>I z1/\∃ y,o=some y/\P x y) NE)->(∀ ys z1,I z1->Ä1 P xs ys->Q ys z1)->W (turns f xs) z Q E
 |[],z,Q,hi,_,q=>C00.mpr (q [] z hi .nil)
 |x::r,z,Q,hi,h,q=>by
  show W (M.bind (f x) _) z Q E;rw[s10];refine(h x Ê z hi).imp λo z1 ⟨hi1,y,e,hp⟩=>?_;subst e;rw[s10];refine c01 hi1 (λx' hx'=>h x' (È _ hx')) λys z2 hi2 hps=>?_;exact C00.mpr (q _ _ hi2 (.cons hp hps))
theorem N61(I:List D->Env->Z->Prop):∀ (xs:List D) {ρ:Env}{z:Z},I xs ρ z->(∀ x r ρ z,I (x::r) ρ z->W (f x ρ) z (λo z1=>match o with
  |.nx ρ=>I r ρ z1
  |.rt s=>Q (.rt s) z1) E)->(∀ ρ z,I [] ρ z->Q (.nx ρ) z)->W (S50 f xs ρ) z Q E
 |[],ρ,z,hi,_,q=>C00.mpr (q _ _ hi)
 |x::r,ρ,z,hi,h,q=>by
  show W (M.bind (f x ρ) _) z Q E;rw[s10];refine(h x r ρ z hi).mono (λo z1 ho=>?_) λ_ _ h=>h;cases o with
  |nx ρ1=>exact N61 I r ho h q|rt s=>exact C00.mpr ho
end
mutual
noncomputable def cE:D->Ex
 |.tup l=>.tup (cEs l)|.lst l=>.lst (cEs l)|.int i=>if i < 0 then .neg (.con (.int (-i))) else .con (.int i)|x=>.con x
noncomputable def cEs:List D->Ex
 |[]=>.nil|x::r=>.cons (cE x) (cEs r)
end
mutual
noncomputable def okC:D->Bool
 |.tup l=>decide (l.length<=most)&&z82 l|.lst l=>decide (l.length<=most)&&z82 l|_=>true
noncomputable def z82:List D->Bool
 |[]=>true|x::r=>okC x&&z82 r
end
def cX(d:D)(_:okC d=true):Ex:=cE d
section
variable {F:FT}{ρ:Env}{z:Z}{Q:List S->Z->Prop}{E:Nat->Z->Prop}{a b c as:Ex}{p:Pat}{ρ0:Env}{x:D}{Q1:Option D->Z->Prop}
theorem w41:W (o40 (ev F .nil) (ev F a) p ρ0 x) z Q1 E↔Get (e70 p x ρ0) λρ=>WE F a ρ z (λy z1=>Get (pl y) λd=>Q1 (some d) z1) E :=
 (wG λρ=>show _↔W (M.bind (ev F a ρ) λy=>M.bind (M.of (pl y)) λy=>M.ret (some y)) z Q1 E from wB d00 λy z1=>wG λd=>wR).symm
theorem n32{l:List S}{m:M (List S)}{V:Prop}(h:V↔W (M.bind m λy=>M.bind (M.of (pl y)) λy=>M.ret (some y)) z Q1 E):(match l with | [s]=>Get (blS s) λb=>if b then V else Q1 none z | _=>l=[]/\V)↔W (match l with
  |[]=>M.bind m λy=>M.bind (M.of (pl y)) λy=>M.ret (some y)|[.d (.bl true)]=>M.bind m λy=>M.bind (M.of (pl y)) λy=>M.ret (some y)|[.d (.bl false)]=>M.ret none
  |_=>M.no) z Q1 E:=by
 match l with
 |[]=>exact⟨λx=>h.mp x.2,λx=>⟨rfl,h.mpr x⟩⟩|[.d (.bl true)]=>exact m72.trans ((iff_of_eq (if_pos rfl)).trans h)|[.d (.bl false)]=>exact m72.trans ((iff_of_eq (if_neg Ñ)).trans wR)|[.d .non]=>exact wN|[.d (.int _)]=>exact wN|[.d (.str _)]=>exact wN|[.d (.tup _)]=>exact wN|[.d (.lst _)]=>exact wN|[.d .dct]=>exact wN|[.fr _]=>exact wN|[.z]=>exact wN
 |s::_::_ =>
  refine⟨λx=>(by cases x.1),λx=>?_⟩
  cases s with
  |d y =>
   cases y with
   |bl b=>cases b <;> exact(m82.mp x).elim
   |_=>exact(m82.mp x).elim
  |_=>exact(m82.mp x).elim
theorem w51:W (o40 (ev F (.cons c .nil)) (ev F a) p ρ0 x) z Q1 E↔Get (e70 p x ρ0) λρ=>WE F c ρ z (λy z1=>Get (one y) λs=>Get (blS s) λb=>if b then WE F a ρ z1 (λy z2=>Get (pl y) λd=>Q1 (some d) z2) E else Q1 none z1) E:=by
 refine Iff.symm (wG λρ=>?_);refine wB (d00 (F:=F) (e:=.cons c .nil) (ρ:=ρ) (Q:=λl z1=>match l with | [s]=>Get (blS s) λb=>if b then WE F a ρ z1 (λy z2=>Get (pl y) λd=>Q1 (some d) z2) E else Q1 none z1 | _=>l=[]/\WE F a ρ z1 (λy z2=>Get (pl y) λd=>Q1 (some d) z2) E)) λl z1=>?_
 exact n32 (wB d00 λy z1=>wG λd=>wR)
end
section
variable {α:Type}{m:M α}{z z1:Z}{Q Q':α->Z->Prop}{E:Nat->Z->Prop}
theorem Wo(h:m z=some (.ok a z1))(q:Q a z1):W m z Q E:=⟨_,h,q⟩
theorem We(h:m z=some (.er c z1))(q:E c z1):W m z Q E:=⟨_,h,q⟩
end
theorem l20{T:List Df}{k f ps ns:Nat}{b:Sm}{l:List S}{z:Z}{Q:S->Z->Prop}{E:Nat->Z->Prop}(h:T[f]?=some (.code ps ns b))(hl:l.length=ps)(hn:ps<=ns)(q:WS (g71 T (k + 2)) z.isNone b (start ns (l.map plS)) z (λo z1=>match o with
  |.nx _=>Q (.d .non) (H50 z z1)
  |.rt s=>Q s (H50 z z1)) λc z1=>E c (H50 z z1)):W (b60 T (k + 3) f l) z Q E:=(n22 h hl hn).mpr q
theorem ib{b:Bool}{A B:Prop}(ht:b=true->A)(hf:b=false->B):if b=true then A else B:=by
 cases b with
 |true=>exact ht rfl|false=>exact hf rfl
theorem it{b:Bool}{A B:Prop}(h:b=true)(a:A):if b=true then A else B:=by rw[if_pos h];exact a
theorem ie{b:Bool}{A B:Prop}(h:b=false)(a:B):if b=true then A else B:=by rw[h];exact a
theorem ip{c:Prop}[Decidable c]{A B:Prop}(h:c)(a:A):if c then A else B:=by rw[if_pos h];exact a
theorem d90(z:Z):H50 z z=z:=by cases z <;> rfl
theorem sd{s t:S}{z:Z}(h:s=t):s=t/\H50 z z=z:=⟨h,d90 z⟩
theorem sb(h:b=c):S.d (.bl b)=S.d (.bl c)/\H50 z z=z:=sd (by rw[h])
section
variable {F:FT}{tp:Bool}{z:Z}{E:Nat->Z->Prop}{p:Pat}
theorem W50(I:List D->Env->Z->Prop)(xs:List D)(hi:I xs ρ z)(h:∀ x r ρ z,I (x::r) ρ z->Get (e70 p x ρ) λρ=>WS F tp b ρ z (λo z1=>match o with
  |.nx ρ=>I r ρ z1
  |.rt s=>Q (.rt s) z1) E) (q:∀ ρ z,I [] ρ z->Q (.nx ρ) z):W (S50 (λx ρ=>M.bind (M.of (e70 p x ρ)) λρ=>ex F tp b ρ) xs ρ) z Q E :=
 N61 I xs hi (λx r ρ z hi=>(wG λρ=>b91).mp (h x r ρ z hi)) q
variable {ρ0:Env}{cond el:Ex}{xs:List D}{Q:List D->Z->Prop}
theorem I21(o:D->D)(h:∀ x∈xs,Get (e70 p x ρ0) λρ=>WE F el ρ z (λy z1=>Get (pl y) λd=>d=o x/\z1=z) NE)(q:Q (xs.map o) z):W (turns (o40 (ev F .nil) (ev F el) p ρ0) xs) z Q E:=by
 refine(W40 (o:=λx=>some (o x)) λx hx=>?_).mpr ?_
 ·refine W.ok (w41.mpr ?_);obtain⟨ρ,e,h⟩:=m50 (h x hx);refine a20 e (d00.mpr ((d00.mp h).imp λy z1 h=>?_));obtain⟨d,e,rfl,rfl⟩:=m50 h;exact a20 e ⟨rfl,rfl⟩
 ·rw[show xs.filterMap (λx=>some (o x))=xs.map o from congrFun (List.filterMap_eq_map (f:=o)) xs];exact q
theorem z92{c:D->Bool}{o:D->D}:∀ xs:List D,xs.filterMap (λx=>if c x then some (o x) else none)=(xs.filter c).map o
 |[]=>rfl
 |x::r=>by
  rw[þ,List.filter_cons];cases hc:c x with
  |false=>exact z92 r|true=>exact congrArg (o x::·) (z92 r)
theorem N71(c:D->Bool)(o:D->D)(h:∀ x∈xs,Get (e70 p x ρ0) λρ=>WE F cond ρ z (λy z1=>Get (one y) λs=>s=.d (.bl (c x))/\z1=z/\(c x=true->WE F el ρ z (λy z1=>Get (pl y) λd=>d=o x/\z1=z) NE)) NE)(q:Q ((xs.filter c).map o) z):W (turns (o40 (ev F (.cons cond .nil)) (ev F el) p ρ0) xs) z Q E:=by
 refine(W40 (o:=λx=>if c x then some (o x) else none) λx hx=>?_).mpr ?_
 ·refine W.ok (w51.mpr ?_);obtain⟨ρ,e,h⟩:=m50 (h x hx);refine a20 e (d00.mpr ((d00.mp h).imp λy z1 h=>?_));obtain⟨s,e,rfl,rfl,h⟩:=m50 h;refine a20 e ?_;show if c x=true then _ else _;cases hc:c x with
  |false=>exact⟨rfl,rfl⟩
  |true =>
   refine d00.mpr ((d00.mp (h hc)).imp λy z1 h=>?_);obtain⟨d,e,rfl,rfl⟩:=m50 h;exact a20 e ⟨rfl,rfl⟩
 ·rw[z92];exact q
theorem Y51{I:Z->Prop}(o:D->D):∀ {xs:List D}{z:Z}{Q:List D->Z->Prop},I z->(∀ x∈xs,∀ z,I z->Get (e70 p x ρ0) λρ=>WE F cond ρ z (λy z1=>Get (one y) λs=>I z1/\∃ b,s=.d (.bl b)/\(b=true->WE F el ρ z1 (λy z2=>Get (pl y) λd=>d=o x/\z2=z1) NE)) NE) ->
  (∀ ys z1,I z1->ys.Sublist (xs.map o)->Q ys z1)->W (turns (o40 (ev F (.cons cond .nil)) (ev F el) p ρ0) xs) z Q E
 |[],z,Q,hi,_,q=>C00.mpr (q [] z hi .slnil)
 |x::r,z,Q,hi,h,q=>by
  show W (M.bind (o40 _ _ p ρ0 x) _) z Q E;refine s10.mpr (w51.mpr ?_);obtain⟨ρ,e,h0⟩:=m50 (h x Ê z hi);refine a20 e (d00.mpr ((d00.mp h0).imp λy z1 h1=>?_));obtain⟨s,e,hi1,b,rfl,h2⟩:=m50 h1;refine a20 e ?_;show if b=true then _ else _;have hr:=λ{Q:List D->Z->Prop} (q:∀ ys z1,I z1->ys.Sublist (r.map o)->Q ys z1)=>Y51 o (z:=z1) hi1 (λy hy=>h y (È _ hy)) q;cases b with
  |false=>exact s10.mpr (hr λys z2 hi2 hs=>C00.mpr (q ys z2 hi2 (hs.cons _)))
  |true =>
   refine d00.mpr ((d00.mp (h2 rfl)).imp λy z2 h3=>?_);obtain⟨d,e,rfl,rfl⟩:=m50 h3;exact a20 e (s10.mpr (hr λys z2 hi2 hs=>C00.mpr (q _ z2 hi2 (hs.cons_cons _))))
theorem K92{I:Z->Prop}{P:D->D->Prop}(hi:I z)(h:∀ x∈xs,∀ z,I z->Get (e70 p x ρ0) λρ=>WE F el ρ z (λy z1=>Get (pl y) λd=>I z1/\P x d) NE)(q:∀ ys z1,I z1->Ä1 P xs ys->Q ys z1):W (turns (o40 (ev F .nil) (ev F el) p ρ0) xs) z Q E:=by
 refine c01 hi (λx hx z hz=>w41.mpr ?_) q;obtain⟨ρ,e,h⟩:=m50 (h x hx z hz);refine a20 e (d00.mpr ((d00.mp h).imp λy z1 h=>?_));obtain⟨d,e,h⟩:=m50 h;exact a20 e ⟨h.1,d,rfl,h.2⟩
end
theorem n42{s:S}{ρ:Env}(h:N90 s=true):i30 s ρ=ρ:=by
 unfold i30;rw[O10,h];rfl
theorem n52{F:FT}{tp:Bool}{p:Pat}{e:Ex}{r:Sm}{ρ:Env}{z:Z}{Q:O->Z->Prop}{E:Nat->Z->Prop}(s:S)(ρ':Env)(he:WE F e ρ z (λl z1=>Get (one l) λt=>t=s/\z1=z) NE)(hb:z20 p s (i30 s ρ)=some ρ')(q:WS F tp r ρ' z Q E):WS F tp (.seq (.set p e) r) ρ z Q E:=by
 show WE F e ρ z (λl z1=>Get (one l) λs=>Get (z20 p s (i30 s ρ)) λρ'=>WX F tp r ρ' z1 Q E) E;refine d00.mpr ((d00.mp he).imp λl z1 h=>?_);obtain⟨t,e,rfl,rfl⟩:=m50 h;exact a20 e (a20 hb q)
end Q
namespace K3
open PySem L2 Q
def top(i:Nat):Stmt:=ù.main.body.getD i (.Pass ⟨0,0,0,0⟩)
def nums:List (Str × Int):=[(("MOST_PLACES":Str),(6:Int)),(("MOST_TIES":Str),(8:Int))]
abbrev v0:Ex:=.var 0
abbrev v1:Ex:=.var 1
abbrev v2:Ex:=.var 2
abbrev v3:Ex:=.var 3
abbrev v4:Ex:=.var 4
abbrev v5:Ex:=.var 5
abbrev v6:Ex:=.var 6
abbrev v7:Ex:=.var 7
abbrev v9:Ex:=.var 9
abbrev n0:Ex:=.con (.int 0)
abbrev n1:Ex:=.con (.int 1)
abbrev n2:Ex:=.con (.int 2)
abbrev c1(a:Ex):Ex:=.cons a .nil
abbrev c2(a b:Ex):Ex:=.cons a (.cons b .nil)
abbrev c3(a b c:Ex):Ex:=.cons a (.cons b (.cons c .nil))
abbrev c4(a b c d:Ex):Ex:=.cons a (.cons b (.cons c (.cons d .nil)))
abbrev c5(a b c d e:Ex):Ex:=.cons a (.cons b (.cons c (.cons d (.cons e .nil))))
abbrev s1(a:Sm):Sm:=.seq a .nil
abbrev p2(a b:Pat):Pat:=.tup (.cons a (.cons b .nil))
abbrev t60:Nat:=0
abbrev o20:Nat:=1
abbrev c21:Nat:=2
abbrev D50:Nat:=3
abbrev c31:Nat:=4
abbrev w61:Nat:=5
abbrev f50:Nat:=6
abbrev J30:Nat:=7
abbrev l60:Nat:=8
abbrev l70:Nat:=9
abbrev j80:Nat:=10
abbrev t70:Nat:=11
abbrev f60:Nat:=12
abbrev v00:Nat:=13
abbrev n20:Nat:=14
abbrev o50:Nat:=15
abbrev v40:Nat:=16
abbrev b20:Nat:=17
abbrev D60:Nat:=18
abbrev s20:Nat:=19
abbrev p50:Nat:=20
abbrev A30:Nat:=21
abbrev v50:Nat:=22
abbrev d40:Nat:=23
abbrev e80:Nat:=24
abbrev o60:Nat:=25
abbrev f70:Nat:=26
abbrev g30:Nat:=27
abbrev n62:Nat:=28
def D70:Sm:=(s1 (.ret (.and (.isi .int v0) (.not (.isi .bool v0)))))
def t80:Sm:=(s1 (.ret (.and (.call t60 (c1 v0)) (.ch .le .lt n0 v0 v1))))
def J40:Sm:=(.seq (.iff (.or (.not (.isi .tuple v0)) (.cmp .ne (.bf .len (c1 v0)) n2)) (s1 (.ret (.con (.bl false)))) .nil) (.seq (.set (p2 (.v 2) (.v 3)) v0) (s1 (.ret (.and (.call o20 (c2 v2 v1)) (.and (.call o20 (c2 v3 v1)) (.cmp .lt v2 v3)))))))
def t90:Sm:=(.seq (.iff (.or (.not (.isi .tuple v0)) (.cmp .gt (.bf .len (c1 v0)) (.gint "MOST_TIES" 8))) (s1 (.ret (.con (.bl false)))) .nil) (.seq (.iff (.not (.bf .all (c1 (.comp 1 [1] (.v 0) .seq (c1 v0) .nil (.call c21 (c2 v0 v1)))))) (s1 (.ret (.con (.bl false)))) .nil) (s1 (.ret (.bf .all (c1 (.comp 2 [] (p2 (.v 0) (.v 1)) .zip (c2 v0 (.sl v0 (c1 n1) .nil)) .nil (.cmp .le v0 v1))))))))
def J50:Sm:=(.seq (.iff (.or (.not (.isi .tuple v0)) (.cmp .ne (.bf .len (c1 v0)) n2)) (s1 (.ret (.con (.bl false)))) .nil) (.seq (.set (p2 (.v 1) (.v 2)) v0) (s1 (.ret (.and (.call t60 (c1 v1)) (.and (.ch .le .le n1 v1 (.gint "MOST_PLACES" 6)) (.call D50 (c2 v2 v1))))))))
def W60:Sm:=(s1 (.ret (.bf .all (c1 (.comp 2 [] (p2 (.v 0) (.v 1)) .zip (c2 v0 (.sl v0 (c1 n1) .nil)) .nil (.cmp .lt v0 v1))))))
def f80:Sm:=(.seq (.iff (.not (.isi .tuple v0)) (s1 (.ret (.con (.bl false)))) .nil) (s1 (.ret (.and (.bf .all (c1 (.comp 1 [1] (.v 0) .seq (c1 v0) .nil (.call o20 (c2 v0 v1))))) (.call w61 (c1 v0))))))
def w80:Sm:=(s1 (.ret (.call f50 (c2 v1 (.bf .len (c1 (.idx v0 n1)))))))
def l80:Sm:=(s1 (.iff (.not (.call c31 (c1 v0))) (s1 (.rais 0)) .nil))
def l90:Sm:=(s1 (.iff (.not (.call J30 (c2 v0 v1))) (s1 (.rais 1)) .nil))
def g00:Sm:=(s1 (.iff (.or (.not (.call f50 (c2 v1 (.idx v0 n0)))) (.cmp .eq (.bf .len (c1 v1)) n0)) (s1 (.rais 2)) .nil))
def u00:Sm:=(.seq (.set (p2 (.v 2) (.v 3)) v0) (.seq (.set (.v 4) (.lrng false (c1 v2))) (.seq (.fr (.v 5) .seq (c1 v1) (.seq (.set (p2 (.v 6) (.v 7)) (.idx v3 v5)) (.seq (.set (.v 8) (.idx v4 v6)) (.seq (.set (.v 9) (.idx v4 v7)) (s1 (.set (.v 4) (.comp 1 [8,9] (.v 0) .seq (c1 v4) .nil (.ite (.cmp .eq v0 v2) v1 v0)))))))) (s1 (.ret v4)))))
def i60:Sm:=(.seq (.exp (.call l60 (c1 v0))) (.seq (.exp (.call l70 (c2 v0 v1))) (.grp 2 3 4 (.call t70 (c2 v0 v1)))))
def n30:Sm:=(.seq (.set (.v 3) (.call t70 (c2 v0 v1))) (s1 (.ret (.bf .all (c1 (.comp 1 [2,3] (.v 0) .seq (c1 v2) .nil (.cmp .eq (.idx v2 v0) (.idx v2 (.idx v1 n0)))))))))
def u10:Sm:=(.seq (.exp (.call l60 (c1 v0))) (.seq (.exp (.call l70 (c2 v0 v1))) (.seq (.exp (.call j80 (c2 v0 v2))) (s1 (.ret (.call v00 (c3 v0 v1 v2)))))))
def g10:Sm:=(.seq (.iff (.cmp .lt v1 (.bf .len (c1 v0))) (s1 (.ret (.idx v0 v1))) .nil) (s1 (.ret n0)))
def j40:Sm:=(.seq (.set (.v 2) (.call o50 (c2 v0 v1))) (.seq (.iff (.cmp .ge v2 (.bin .pow (.con (.int 10)) (.con (.int 18)))) (s1 (.ret (.lst (c2 (.bin .sub v2 (.bin .pow (.con (.int 10)) (.con (.int 18)))) (.con (.bl true)))))) .nil) (s1 (.ret (.lst (c2 (.bin .mod v2 (.con (.int 2147483647))) (.con (.bl false))))))))
def p60:Sm:=(.seq (.iff (.zget 0 1) (.seq (.set (.v 2) (.bin .mod (.zget 0 0) v1)) (.seq (.zset 0 (.bin .fdiv (.zget 0 0) v1)) (s1 (.ret v2)))) .nil) (.seq (.zset 0 (.bin .mod (.bin .add (.bin .mul (.zget 0 0) (.con (.int 48271))) (.con (.int 29))) (.con (.int 2147483647)))) (.seq (.set (.v 3) (.bin .mod (.bin .add (.bin .add (.bin .mul (.zget 0 0) (.zget 0 0)) (.bin .mul (.con (.int 39373)) (.zget 0 0))) (.con (.int 7))) (.con (.int 2147483629)))) (.seq (.set (.v 3) (.bin .mod (.bin .add (.bin .mul v3 v3) (.bin .mul (.con (.int 16807)) v3)) (.con (.int 2147483587)))) (s1 (.ret (.bin .mod (.bin .fdiv v3 (.con (.int 8))) v1)))))))
def u20:Sm:=(.seq (.set (.v 2) (.idx (cX (.lst [(.int 6),(.int 5),(.int 4),(.int 3),(.int 4),(.int 5),(.int 2),(.int 1)]) (-0)) (.call b20 (c2 v0 (.con (.int 8)))))) (.seq (.set (.v 3) (.lst .nil)) (.seq (.iff (.and (.cmp .gt v2 n1) (.cmp .gt (.call b20 (c2 v0 (.con (.int 5)))) n0)) (s1 (.set (.v 3) (.comp 1 [0] (.v 0) .rng2 (c2 n1 v2) .nil (.tup (c2 (.call b20 (c2 v1 v0)) v0))))) .nil) (.seq (.fr (.v 4) .rng1 (c1 (.bin .mul (.call b20 (c2 v0 (.bin .add v1 n1))) (.bf .int (c1 (.cmp .gt v2 n1))))) (.seq (.set (.v 5) (.call b20 (c2 v0 v2))) (.seq (.set (.v 6) (.bin .mod (.bin .add (.bin .add v5 n1) (.call b20 (c2 v0 (.bin .sub v2 n1)))) v2)) (s1 (.app 3 (.tup (c2 (.bf .min (c2 v5 v6)) (.bf .max (c2 v5 v6))))))))) (s1 (.ret (.tup (c2 v2 (.bf .tuple (c1 (.bf .sorted (c1 (.sl v3 .nil (c1 v1))))))))))))))
def m00:Sm:=(.seq (.set (.v 2) (.call b20 (c2 v0 (.con (.int 4))))) (.seq (.iff (.or (.cmp .lt v2 n2) (.cmp .eq (.idx v1 n0) n1)) (s1 (.ret (.lrng true (c1 (.idx v1 n0))))) .nil) (.seq (.iff (.cmp .eq v2 n2) (.seq (.set (.v 3) (.call b20 (c2 v0 (.idx v1 n0)))) (s1 (.ret (.bf .tuple (c1 (.bf .sorted (c1 (.lst (c2 v3 (.bin .mod (.bin .add (.bin .add v3 n1) (.call b20 (c2 v0 (.bin .sub (.idx v1 n0) n1)))) (.idx v1 n0))))))))))) .nil) (s1 (.ret (.orT (.bf .tuple (c1 (.comp 1 [0] (.v 0) .rng1 (c1 (.idx v1 n0)) (c1 (.cmp .eq (.call b20 (c2 v1 n2)) n1)) v0))) (.tup (c1 (.bin .sub (.idx v1 n0) n1)))))))))
def p70:Sm:=(.seq (.set (.v 3) (.lst (c1 v2))) (.seq (.fr (.v 4) .rng1 (c1 (.idx v0 n0)) (s1 (.fr (.v 5) .seq (c1 v1) (.seq (.set (p2 (.v 6) (.v 7)) (.idx (.idx v0 n1) v5)) (.seq (.iff (.and (.cmp .mem v6 v3) (.cmp .nmem v7 v3)) (s1 (.set (.v 3) (.bin .add v3 (.lst (c1 v7))))) .nil) (s1 (.iff (.and (.cmp .mem v7 v3) (.cmp .nmem v6 v3)) (s1 (.set (.v 3) (.bin .add v3 (.lst (c1 v6))))) .nil))))))) (s1 (.ret (.bf .tuple (c1 (.bf .sorted (c1 v3))))))))
def p80:Sm:=(.seq (.set (.v 3) (.call p50 (c3 v0 v1 (.idx v2 n0)))) (s1 (.ret (.cmp .eq (.comp 1 [3] (.v 0) .seq (c1 v2) (c1 (.cmp .nmem v0 v1)) v0) (.lst .nil)))))
def n40:Sm:=(s1 (.ret (.and (.isi .int v0) (.not (.isi .bool v0)))))
def d50:Sm:=(.seq (.iff (.or (.not (.isi .tuple v1)) (.cmp .ne (.comp 1 [] (.v 0) .seq (c1 v1) (c1 (.not (.call v50 (c1 v0)))) v0) (.lst .nil))) (s1 (.ret (.con (.bl false)))) .nil) (.seq (.iff (.cmp .ne (.comp 1 [0] (.v 0) .seq (c1 v1) (c1 (.not (.ch .le .lt n0 v0 v1))) v0) (.lst .nil)) (s1 (.ret (.con (.bl false)))) .nil) (s1 (.ret (.cmp .eq (.bf .list (c1 v1)) (.bf .sset (c1 v1)))))))
def e90:Sm:=(.seq (.set (.v 3) (.call b20 (c2 v0 (.bin .add (.bf .len (c1 v2)) n1)))) (.seq (.set (.v 4) (.idx (.lst (.cons (.call b20 (c2 v0 (.bin .add v1 n1))) (.cons v1 (.cons (.neg n1) (.cons (.con (.bl true)) (.cons (.con .non) (c5 (.con (.str "0")) (cX (.tup [(.int 0)]) (-0)) (.con (.bl false)) (.bin .pow (.con (.int 10)) (.con (.int 29))) n0))))))) (.call b20 (c2 v0 (.con (.int 10)))))) (.seq (.set (.v 5) (.lst (c4 (.bin .add (.bin .add (.sl v2 .nil (c1 v3)) (.tup (c1 v4))) (.sl v2 (c1 v3) .nil)) (.bin .add (.bin .add (.sl v2 .nil (c1 v3)) (.tup (c1 v4))) (.sl v2 (c1 (.bin .add v3 n1)) .nil)) (.bin .add (.sl v2 .nil (c1 v3)) (.sl v2 (c1 (.bin .add v3 n1)) .nil)) (.bf .list (c1 v2))))) (s1 (.ret (.idx (.bin .add v5 (.lst (.cons (.rev v2) (.cons (.bin .add v2 (.sl v2 (c1 (.neg n1)) .nil)) (c5 (.con .non) (.con .dct) n0 (.tup (c1 v2)) (.tup .nil)))))) (.call b20 (c2 v0 (.con (.int 11))))))))))
def j90:Sm:=(.seq (.set (.v 1) (cX (.lst [.non,(.int 0),(.tup []),(.tup [(.int 7),(.tup [])]),(.tup [(.int 0),(.tup [])]),(.tup [(.int (-1)),(.tup [])]),(.tup [(.bl true),(.tup [])]),(.tup [(.int 2),(.lst [])]),(.lst [(.int 2),(.tup [])]),(.tup [(.int 2),(.tup [(.tup [(.int 1),(.int 0)])])]),(.tup [(.int 2),(.tup [(.tup [(.int 0),(.int 0)])])]),.dct]) (-0))) (.seq (.set (.v 1) (.bin .add v1 (.lst (c5 (.tup (c2 n2 (.bin .mul (cX (.tup [(.tup [(.int 0),(.int 1)])]) (-0)) (.con (.int 9))))) (cX (.tup [(.int 3),(.tup [(.tup [(.int 0),(.int 2)]),(.tup [(.int 0),(.int 1)])])]) (-0)) (cX (.tup [(.int 2),(.tup [(.tup [(.int 0),(.int 2)])])]) (-0)) (cX (.tup [(.int 2),(.tup [(.tup [(.int 0),(.bl true)])])]) (-0)) (cX (.tup [(.int 2),(.tup [(.tup [(.int 0),(.int 1),(.int 1)])])]) (-0)))))) (.seq (.set (.v 1) (.bin .add v1 (cX (.lst [(.tup [(.int 2),(.tup [(.int 0),(.int 1)])]),(.tup [(.int 2),.non]),(.tup [(.int 2),(.tup []),(.tup [])]),(.tup [(.int 2)]),(.tup [(.int 2),(.tup [(.lst [(.int 0),(.int 1)])])]),(.tup [(.int 2),(.tup [.non])]),(.tup [(.str "2"),(.tup [])]),(.str "2:")]) (-0)))) (s1 (.ret (.idx v1 (.call b20 (c2 v0 (.con (.int 25))))))))))
def i70:Sm:=(.seq (.iff (.isi .seq v1) (.seq (.iff (.or (.cmp .ne (.isi .tuple v0) (.isi .tuple v1)) (.cmp .ne (.isi .list v0) (.isi .list v1))) (s1 (.ret (.con (.bl false)))) .nil) (.seq (.iff (.cmp .ne (.bf .len (c1 v0)) (.bf .len (c1 v1))) (s1 (.ret (.con (.bl false)))) .nil) (s1 (.ret (.bf .all (c1 (.comp 2 [] (p2 (.v 0) (.v 1)) .zip (c2 v0 v1) .nil (.call f70 (c2 v0 v1))))))))) .nil) (s1 (.ret (.and (.cmp .eq v0 v1) (.cmp .eq (.isi .bool v0) (.isi .bool v1))))))
def c30:Sm:=(.seq (.set (p2 (.v 4) (.v 5)) (.tup (c2 (.call e80 (c3 v0 (.bf .len (c1 (.idx v1 n1))) v2)) (.call e80 (c3 v0 (.idx v1 n0) v3))))) (.seq (.set (.v 6) (.call o60 (c1 v0))) (.seq (.iff (.cmp .ne (.refd [4,6] (.call f60 (c2 v1 v0))) (cX (.lst [(.int 0)]) (-0))) (s1 (.ret (.con (.bl false)))) .nil) (.seq (.iff (.cmp .ne (.refd [4,5,6] (.call n20 (c3 v2 v0 v1))) (cX (.lst [(.int 0)]) (-0))) (s1 (.ret (.con (.bl false)))) .nil) (.seq (.iff (.not (.call d40 (c2 (.bf .len (c1 (.idx v1 n1))) v4))) (.seq (.iff (.cmp .ne (.refd [1,4] (.call f60 (c2 v0 v1))) (cX (.lst [(.int 1)]) (-0))) (s1 (.ret (.con (.bl false)))) .nil) (s1 (.iff (.cmp .ne (.refd [1,4,5] (.call n20 (c3 v0 v1 v2))) (cX (.lst [(.int 1)]) (-0))) (s1 (.ret (.con (.bl false)))) .nil))) .nil) (.seq (.iff (.or (.not (.call d40 (c2 (.idx v1 n0) v5))) (.cmp .eq v5 (.tup .nil))) (s1 (.ret (.cmp .eq (.refd [1,2,5] (.call n20 (c3 v0 v1 v2))) (cX (.lst [(.int 2)]) (-0))))) .nil) (s1 (.ret (.con (.bl true))))))))))
def I31:Sm:=(.seq (.fr (.v 1) .rng1 (c1 (.bf .max (c2 n1 (.bf .min (c2 (.bf .len (c1 v0)) (.con (.int 8))))))) (.seq (.newz 2 v40 (c2 v0 v1)) (.seq (.set (.v 3) (.call D60 (c2 v2 (.con (.int 8))))) (s1 (.fr (.v 4) .rng1 (c1 (.con (.int 3))) (.seq (.set (.v 5) (.bf .tuple (c1 (.comp 1 [2] (.v 0) .rng1 (c1 (.bf .len (c1 (.idx v3 n1)))) (c1 (.cmp .gt (.call b20 (c2 v1 (.con (.int 3)))) n0)) v0)))) (.seq (.set (.v 6) (.call s20 (c2 v2 v3))) (.seq (.set (.v 7) (.bf .sset (c1 (.comp 1 [3,5] (.v 0) .rng1 (c1 (.idx v3 n0)) .nil (.call p50 (c3 v1 v2 v0)))))) (.seq (.fr (.v 8) .rng1 (c1 n2) (.seq (.set (.v 9) (.call f60 (c2 v3 v5))) (.seq (.iff (.not (.call f70 (c2 v9 v7))) (s1 (.ret (.con (.bl false)))) .nil) (s1 (.app 9 (.tup .nil)))))) (.seq (.iff (.not (.call f70 (c2 (.call n20 (c3 v3 v5 v6)) (.call A30 (c3 v3 v5 v6))))) (s1 (.ret (.con (.bl false)))) .nil) (s1 (.iff (.not (.call g30 (c4 v2 v3 v5 v6))) (s1 (.ret (.con (.bl false)))) .nil)))))))))))) (s1 (.ret (.con (.bl true)))))
def rows:List Row:=[(⟨"is_whole",["thing"],top 17,["thing"],D70,false⟩:Row),
 (⟨"is_below",["thing","many"],top 18,["thing","many"],t80,false⟩:Row),
 (⟨"is_tie",["thing","many"],top 19,["thing","many","a","b"],J40,false⟩:Row),
 (⟨"are_ties",["thing","many"],top 20,["thing","many"],t90,false⟩:Row),
 (⟨"is_web",["thing"],top 21,["thing","many","ties"],J50,false⟩:Row),
 (⟨"rises",["things"],top 22,["things"],W60,false⟩:Row),
 (⟨"is_rising_below",["thing","many"],top 23,["thing","many"],f80,false⟩:Row),
 (⟨"is_lot",["web","thing"],top 24,["web","thing"],w80,false⟩:Row),
 (⟨"check_web",["thing"],top 25,["thing"],l80,false⟩:Row),
 (⟨"check_lot",["web","thing"],top 26,["web","thing"],l90,false⟩:Row),
 (⟨"check_places",["web","thing"],top 27,["web","thing"],g00,false⟩:Row),
 (⟨"marks_by",["web","lot"],top 28,["web","lot","many","ties","marks","number","a","b","kept","gone"],u00,false⟩:Row),
 (⟨"pieces_by",["web","lot"],top 29,["web","lot","groups","place","mark"],i60,false⟩:Row),
 (⟨"are_joined",["web","lot","places"],top 30,["web","lot","places","marks"],n30,false⟩:Row),
 (⟨"hangs",["web","lot","places"],top 31,["web","lot","places"],u10,false⟩:Row),
 (⟨"_law_cell_at",["_law_script","_law_k"],top 33,["_law_script","_law_k"],g10,false⟩:Row),
 (⟨"_law_state",["_law_script","_law_k"],top 34,["_law_script","_law_k","_law_cell"],j40,false⟩:Row),
 (⟨"_law_take",["_law_state_here","_law_many"],top 35,["_law_state_here","_law_many","_law_found","_law_stirred"],p60,false⟩:Row),
 (⟨"_law_web",["_law_state_here","_law_most"],top 36,["_law_state_here","_law_most","_law_many","_law_ties","_law_turn","_law_one","_law_other"],u20,false⟩:Row),
 (⟨"_law_places",["_law_state_here","_law_web_here"],top 37,["_law_state_here","_law_web_here","_law_way","_law_one"],m00,false⟩:Row),
 (⟨"_law_with",["_law_web_here","_law_lot","_law_place"],top 38,["_law_web_here","_law_lot","_law_place","_law_found","_law_turn","_law_number","_law_one","_law_other"],p70,false⟩:Row),
 (⟨"_law_good",["_law_web_here","_law_lot","_law_places_here"],top 39,["_law_web_here","_law_lot","_law_places_here","_law_here"],p80,false⟩:Row),
 (⟨"_law_whole",["_law_thing"],top 40,["_law_thing"],n40,false⟩:Row),
 (⟨"_law_rising",["_law_many","_law_thing"],top 41,["_law_many","_law_thing"],d50,false⟩:Row),
 (⟨"_law_bent_rising",["_law_state_here","_law_many","_law_some"],top 42,["_law_state_here","_law_many","_law_some","_law_at","_law_odd","_law_found"],e90,false⟩:Row),
 (⟨"_law_bad_web",["_law_state_here"],top 43,["_law_state_here","_law_some"],j90,false⟩:Row),
 (⟨"_law_same",["_law_found","_law_due"],top 44,["_law_found","_law_due"],i70,false⟩:Row),
 (⟨"_law_refusals_right",["_law_state_here","_law_web_here","_law_lot","_law_places_here"],top 46,["_law_state_here","_law_web_here","_law_lot","_law_places_here","_law_bent","_law_odd","_law_bad"],c30,true⟩:Row),
 (⟨"law",["_law_script"],top 47,["_law_script","_law_k","_law_state_here","_law_web_here","_law_turn","_law_lot","_law_places_here","_law_due","_law_lap","_law_found"],I31,false⟩:Row)]
def T:List Df:=[(Df.code 1 1 D70:Df),(Df.code 2 2 t80:Df),(Df.code 2 4 J40:Df),(Df.code 2 2 t90:Df),(Df.code 1 3 J50:Df),(Df.code 1 1 W60:Df),(Df.code 2 2 f80:Df),(Df.code 2 2 w80:Df),(Df.code 1 1 l80:Df),(Df.code 2 2 l90:Df),(Df.code 2 2 g00:Df),(Df.code 2 10 u00:Df),(Df.code 2 5 i60:Df),(Df.code 3 4 n30:Df),(Df.code 3 3 u10:Df),(Df.code 2 2 g10:Df),(Df.code 2 3 j40:Df),(Df.code 2 4 p60:Df),(Df.code 2 7 u20:Df),(Df.code 2 4 m00:Df),(Df.code 3 8 p70:Df),(Df.code 3 4 p80:Df),(Df.code 1 1 n40:Df),(Df.code 2 2 d50:Df),(Df.code 3 6 e90:Df),(Df.code 1 2 j90:Df),(Df.code 2 2 i70:Df),(Df.code 4 7 c30:Df),(Df.code 1 10 I31:Df)]
theorem L02:tabOf rows=T:=rfl
end K3
namespace K3
open Q
open L2 (D)
def l00:D->Bool
 |.int _=>true|_=>false
theorem A40(k:Nat)(x:D)(z:Z):b60 T (k + 3) t60 [.d x] z=some (.ok (.d (.bl (l00 x))) z):=by
 cases z <;> cases x <;> rfl
def b30(x:D)(m:Int):Bool:=match x with
 |.int i=>decide (0<=i)&&decide (i < m)|_=>false
theorem p90(k:Nat)(x:D)(m:Int)(z:Z):b60 T (k + 4) o20 [.d x,.d (.int m)] z=some (.ok (.d (.bl (b30 x m))) z):=by
 refine W.ok (l20 (ps:=2) (ns:=2) (b:=t80) rfl rfl (-0) (Wo (A40 (k:=k) x z) ?_))
 cases x with
 |int i=>exact ib (b:=decide (0<=i)) (λh=>sb (show decide (i < m)=(decide (0<=i)&&decide (i < m)) by rw[h];rfl)) λh=>sb (show false=(decide (0<=i)&&decide (i < m)) by rw[h];rfl)|_=>exact sb rfl
def A71(x:D)(m:Int):Bool:=match x with
 |.tup [a,b]=>b30 a m&&(b30 b m&&(match a,b with
  |.int i,.int j=>decide (i < j)
  |_,_=>false))
 |_=>false
theorem i80(h:b30 x m=true):∃ i,x=.int i/\0<=i/\i < m:=by
 cases x with
 |int i =>
  unfold b30 at h;rw[Á,decide_eq_true_eq,decide_eq_true_eq] at h;exact⟨i,rfl,h⟩
 |_=>cases h
theorem w71(k:Nat)(x:D)(m:Int)(z:Z):b60 T (k + 5) c21 [.d x,.d (.int m)] z=some (.ok (.d (.bl (A71 x m))) z):=by
 refine W.ok (l20 (ps:=2) (ns:=4) (b:=J40) rfl rfl (-0) ?_)
 cases x with
 |tup l =>
  match l with
  |[a,b] =>
   refine Wo (p90 k a m z) (ib (b:=b30 a m) (λh1=>Wo (p90 k b m z) (ib (b:=b30 b m) (λh2=>?_) λh=>?_)) λh=>?_)
   ·obtain⟨i,rfl,_⟩:=i80 h1;obtain⟨j,rfl,_⟩:=i80 h2;exact sb (show decide (i < j)=(b30 (.int i) m&&(b30 (.int j) m&&decide (i < j))) by rw[h1,h2];rfl)
   ·exact sb (show false=(b30 a m&&(b30 b m&&_)) by rw[h1,h];rfl)
   ·exact sb (show false=(b30 a m&&_) by rw[h];rfl)
  |[]=>exact sb rfl|[_]=>exact sb rfl|_::_::_::_=>exact sb rfl
 |_=>exact sb rfl
theorem A50(l:List D)(p:D->Bool):bfD .all [.lst (l.map λx=>D.bl (p x))]=some (.d (.bl (l.all p))):=by
 have h:(l.map λx=>D.bl (p x)).mapM asB=some (l.map p):=by
  induction l with
  |nil=>rfl
  |cons x r ih =>
   rw[Â2,List.mapM_cons,ih];rfl
 show((l.map λx=>D.bl (p x)).mapM asB).map _=_;rw[h];simp[List.all_map]
theorem c41(l:List D)(n:Nat):cutD l (some (n:Int)) none=l.drop n:=by
 have h1:HT.sIx l.length 0 (some (n:Int))=min n l.length:=HT.k71 l.length 0 n;unfold cutD;rw[h1];show((l.drop (min n l.length)).take (l.length - min n l.length))=_;rcases Nat.le_total n l.length with h | h
 ·rw[Õ9 h,Ë0 (by rw[Ö0];omega)]
 ·rw[Û1 h,Ö1,List.take_nil,List.drop_of_length_le h]
theorem s30:∀ a b:List D,(p10 a b).length<=a.length
 |[],_=>Ë _|_::_,[]=>Æ7 _|_::r,_::q=>Ó8 (s30 r q)
theorem W70:∀ {a b:List D}{d:D},d∈p10 a b->∃ x∈a,∃ y∈b,d=.tup [x,y]
 |x::r,y::q,d,h=>by
  rcases Ü.mp h with h | h
  ·exact⟨x,Ê,y,Ê,h⟩
  ·obtain⟨u,hu,v,hv,e⟩:=W70 h;exact⟨u,È _ hu,v,È _ hv,e⟩
def leD:D->Bool
 |.tup [.tup a,.tup b]=>(match o30 a,o30 b with
  |some ns,some ms=>HT.leB ns ms
  |_,_=>false)
 |_=>false
def c51(l:List D):Bool:=(p10 l (l.drop 1)).all leD
def W80(x:D)(m:Int):Bool:=match x with
 |.tup l=>decide (l.length<=8)&&(l.all (λt=>A71 t m)&&c51 l)|_=>false
theorem Q70(h:A71 x m=true):∃ i j,x=.tup [.int i,.int j]/\0<=i/\i < j/\j < m:=by
 cases x with
 |tup l =>
  match l,h with
  |[a,b],h =>
   unfold A71 at h;rw[Á,Á] at h;obtain⟨h1,h2,h3⟩:=h;obtain⟨i,rfl,i1,i2⟩:=i80 h1;obtain⟨j,rfl,j1,j2⟩:=i80 h2;exact⟨i,j,rfl,i1,of_decide_eq_true h3,j2⟩
 |_=>cases h
theorem q00(h:n<=1000):n<=most:=â h (-0)
theorem W90(k:Nat)(x:D)(m:Int)(z:Z):b60 T (k + 6) D50 [.d x,.d (.int m)] z=some (.ok (.d (.bl (W80 x m))) z):=by
 refine W.ok (l20 (ps:=2) (ns:=2) (b:=t90) rfl rfl (-0) ?_)
 cases x with
 |tup l =>
  refine ib (b:=decide ((8:Int) < (l.length:Int))) (λh=>?_) λh=>?_
  ·refine sb (show false=(decide (l.length<=8)&&_) from ?_);rw[decide_eq_true_eq] at h;rw[decide_eq_false ∅];rfl
  ·rw[decide_eq_false_iff_not] at h;have h8:l.length<=8:=by omega
   refine ip (q00 ∅) (I21 (λx=>.bl (A71 x m)) (λx _=>Wo (w71 k x m z) ⟨rfl,rfl⟩) ?_)
   refine(a20 (A50 l λx=>A71 x m) ?_ :);refine ib (b:=!l.all λx=>A71 x m) (λh=>?_) λh2=>?_
   ·exact sb (show false=(decide (l.length<=8)&&(l.all (λt=>A71 t m)&&c51 l)) by rw[ú] at h;rw[h,Õ2,Bool.and_false])
   ·rw[Ø0] at h2;have ha:=Î.mp h2;have e1:cutD l (some 1) none=l.drop 1:=c41 l 1;refine ip (c:=(p10 l (cutD l (some 1) none)).length<=most) (â (s30 _ _) (q00 ∅)) (I21 (λx=>.bl (leD x)) (λx hx=>?_) (a20 (A50 _ leD) ?_ :))
    ·obtain⟨u,hu,v,hv,rfl⟩:=W70 hx;rw[e1] at hv;obtain⟨i,j,rfl,_⟩:=Q70 (ha u hu);obtain⟨i',j',rfl,_⟩:=Q70 (ha v (Ô9 hv));exact⟨rfl,rfl⟩
    ·refine sb (b:=(p10 l (cutD l (some 1) none)).all leD) ?_;show _=(decide (l.length<=8)&&(l.all (λt=>A71 t m)&&c51 l));rw[e1,h2,decide_eq_true h8,Å5,Å5];rfl
 |_=>exact sb rfl
def D52(a t:D):Bool:=match a with
 |.int m=>decide (1<=m)&&(decide (m<=6)&&W80 t m)|_=>false
def w81(x:D):Bool:=match x with
 |.tup [a,t]=>D52 a t|_=>false
theorem Q80(k:Nat)(x:D)(z:Z):b60 T (k + 7) c31 [.d x] z=some (.ok (.d (.bl (w81 x))) z):=by
 refine W.ok (l20 (ps:=1) (ns:=3) (b:=J50) rfl rfl (-0) ?_)
 cases x with
 |tup l =>
  match l with
  |[a,t] =>
   refine Wo (A40 (k + 3) a _) ?_;cases a with
   |int m =>
    refine ib (b:=decide (1<=m)) (λg1=>ib (b:=decide (m<=6)) (λg2=>Wo (W90 k t m _) ?_) λg2=>?_) λg1=>?_
    ·exact sb (show W80 t m=(decide (1<=m)&&(decide (m<=6)&&W80 t m)) by rw[g1,g2];rfl)
    ·exact sb (show false=(decide (1<=m)&&(decide (m<=6)&&W80 t m)) by rw[g1,g2];rfl)
    ·exact sb (show false=(decide (1<=m)&&(decide (m<=6)&&W80 t m)) by rw[g1];rfl)
   |_=>exact sb rfl
  |[]=>exact sb rfl|[_]=>exact sb rfl|_::_::_::_=>exact sb rfl
 |_=>exact sb rfl
theorem g40(k:Nat)(z:Z)(h:w81 x=true):b60 T (k + 8) l60 [.d x] z=some (.ok (.d .non) z) :=
 W.ok (l20 (ps:=1) (ns:=1) (b:=l80) rfl rfl (-0) (Wo (Q80 k x z) (ie (b:=!w81 x) (by rw[h];rfl) (sd rfl))))
theorem v60(k:Nat)(z:Z)(h:w81 x=false):b60 T (k + 8) l60 [.d x] z=some (.er 0 z) :=
 W.er (l20 (ps:=1) (ns:=1) (b:=l80) rfl rfl (-0) (Wo (Q80 k x z) (it (b:=!w81 x) (by rw[h];rfl) ⟨rfl,d90 z⟩)))
theorem I41(hj:0 < j):H30 .mod (.int i) (.int j)=some (.d (.int (i % j))):=by
 show(if 0 < j then some (S.d (.int (i % j))) else none)=_;rw[if_pos hj]
def GT(n:Nat)(a b:Int):Prop:=0<=b/\((∃ k:Nat,n=2 * k + 1/\b < 2 ^ k)∨∃ k:Nat,n=2 * k/\b < a/\a < 2 ^ k)
def big(b:Int):Prop:=b < 2 ^ 4000
def chI(t b:Int):Bool:=(decide (1<=b)&&decide (b<=1000))&&((decide (0<=t)&&decide (t<=b))&&(((gcd t b:Nat):Int) == 1))
def chP:D->D->Bool
 |.int t,.int b=>chI t b|_,_=>false
def chD:D->Bool
 |.tup [d,e]=>chP d e|_=>false
def ZI(z:Z):Prop:=∃ n b,z=some (n,b)/\0<=n/\(b=false->n < 2147483647)
theorem a82{T:List Df}{k f ps ns:Nat}{b:Sm}{l:List S}{z:Z}{Q:S->Z->Prop}{E:Nat->Z->Prop}(hz:ZI z)(h:T[f]?=some (.code ps ns b))(hl:l.length=ps)(hn:ps<=ns)(q:WS (g71 T (k + 2)) false b (start ns (l.map plS)) z (λo z1=>match o with
  |.nx _=>Q (.d .non) z1
  |.rt s=>Q s z1) E):W (b60 T (k + 3) f l) z Q E:=by
 obtain⟨n,c,rfl,_⟩:=hz;refine l20 h hl hn (q.mono (λo z1 h=>?_) λ_ _ h=>h);cases o <;> exact h
theorem w91{a:Int}{n:Nat}(h:a.natAbs < n)(hn:n<=2 ^ 64:=by decide):a.natAbs < p41:=Ú h (â hn (-0))
theorem i01{i j:Int}(hi:i.natAbs < 2 ^ 64)(hj:j.natAbs < 2 ^ 64):H30 .mul (.int i) (.int j)=some (.d (.int (i * j))):=by
 show(if i.natAbs < p41/\j.natAbs < p41 then some (S.d (.int (i * j))) else none)=_;rw[if_pos ⟨w91 hi,w91 hj⟩]
theorem A02{i j:Int}(hj:0 < j)(hb:j.natAbs < 2 ^ 64):H30 .fdiv (.int i) (.int j)=some (.d (.int (i / j))):=by
 show(if 0 < j/\j.natAbs < p41 then some (S.d (.int (i / j))) else none)=_;rw[if_pos ⟨hj,w91 hb⟩]
def Drawn(m:Int)(s:S)(z1:Z):Prop:=ZI z1/\∃ r:Nat,s=.d (.int r)/\(r:Int) < m
theorem h50(k:Nat)(m:Int)(hz:ZI z)(m0:0 < m)(m1:m < 2 ^ 32):W (b60 T (k + 3) b20 [.z,.d (.int m)]) z (Drawn m) NE:=by
 have fin:∀ (a:Int) (z1:Z),ZI z1->Drawn m (.d (.int (a % m))) z1:=λa z1 h=>by
  have h0:=emod_nonneg a (show m≠0 by omega)
  exact⟨h,(a % m).toNat,by rw[Int.toNat_of_nonneg h0],by rw[Int.toNat_of_nonneg h0];exact emod_lt_of_pos _ m0⟩
 refine a82 hz (ps:=2) (ns:=4) (b:=p60) rfl rfl (-0) ?_
 obtain⟨n,b,rfl,n0,n1⟩:=hz;cases b with
 |true =>
  refine(a20 (I41 (i:=n) m0) ?_ :);refine(a20 (A02 (i:=n) m0 ∅) ?_ :)
  exact fin n _ ⟨n / m,true,rfl,Int.ediv_nonneg n0 ∅,λh=>nomatch h⟩
 |false =>
  have n1:=n1 rfl;have e1:∀ a:Int,0<=a % 2147483647/\a % 2147483647 < 2147483647:=λa=>⟨emod_nonneg _ (-0),emod_lt_of_pos _ (-0)⟩
  have e2:∀ a:Int,0<=a % 2147483629/\a % 2147483629 < 2147483629:=λa=>⟨emod_nonneg _ (-0),emod_lt_of_pos _ (-0)⟩
  have s1:∀ a:Int,(a % 2147483647).natAbs < 2 ^ 64:=λa=>by have:=e1 a;omega
  have s2:∀ a:Int,(a % 2147483629).natAbs < 2 ^ 64:=λa=>by have:=e2 a;omega
  refine(a20 (i01 (i:=n) (j:=48271) ∅ (-0)) ?_ :)
  have a1:=e1 (n * 48271 + 29);refine(a20 (i01 (s1 (n * 48271 + 29)) (s1 (n * 48271 + 29))) ?_ :);refine(a20 (i01 (i:=39373) (-0) (s1 (n * 48271 + 29))) ?_ :)
  refine(a20 (i01 (s2 _) (s2 _)) ?_ :);refine(a20 (i01 (i:=16807) (-0) (s2 _)) ?_ :)
  refine(a20 (I41 m0) ?_ :);exact fin _ _ ⟨_,false,rfl,a1.1,λ_=>a1.2⟩
theorem i11(k:Nat)(ns:List Int)(j:Nat)(z:Z):∃ c:Int,b60 T (k + 3) o50 [.d (.lst (ns.map D.int)),.d (.int j)] z=some (.ok (.d (.int c)) z):=by
 by_cases h:j < ns.length
 ·refine⟨ns[j],W.ok (l20 (ps:=2) (ns:=2) (b:=g10) rfl rfl (-0) (it (b:=decide ((j:Int) < ((ns.map D.int).length:Int))) (by simp[h]) ?_))⟩
  refine(a20 (o:=g51 (.lst (ns.map D.int)) (.int j)) (L2.F00 (v:=.int ns[j]) (by simp[h])) ?_ :)
  exact sd rfl
 ·exact⟨0,W.ok (l20 (ps:=2) (ns:=2) (b:=g10) rfl rfl (-0) (ie (b:=decide ((j:Int) < ((ns.map D.int).length:Int))) (by simp;omega) (sd rfl)))⟩
theorem I51(k:Nat)(ns:List Int)(j:Nat)(z:Z):∃ (n:Int) (b:Bool),ZI (some (n,b))/\b60 T (k + 4) v40 [.d (.lst (ns.map D.int)),.d (.int j)] z=some (.ok (.fr [.int n,.bl b]) z):=by
 obtain⟨c,hc⟩:=i11 k ns j z;by_cases h:(10 ^ 18:Int)<=c
 ·exact⟨c - 10 ^ 18,true,⟨_,_,rfl,by omega,λh=>nomatch h⟩,W.ok (l20 (ps:=2) (ns:=3) (b:=j40) rfl rfl (-0) (Wo hc (it (b:=decide ((10 ^ 18:Int)<=c)) (decide_eq_true h) (sd rfl))))⟩
 ·refine⟨c % 2147483647,false,⟨_,_,rfl,emod_nonneg _ (-0),λ_=>emod_lt_of_pos _ (-0)⟩,W.ok (l20 (ps:=2) (ns:=3) (b:=j40) rfl rfl (-0) (Wo hc (ie (b:=decide ((10 ^ 18:Int)<=c)) (decide_eq_false h) (sd rfl))))⟩
theorem J60(h0:0<=m)(h1:m < 100000):itD .rng1 [.int m]=some ((ì m.toNat).map λ(i:Nat)=>D.int i):=by
 show(if inR m=true then _ else none)=_;rw[if_pos (H40.mpr ⟨by omega,h1⟩)]
theorem ne_nil(h:okD (.lst l)=true):y90 .ne (.lst l) (.lst [])=some (!l.isEmpty):=by
 show(eqO (.lst l) (.lst [])).map (!·)=_;unfold eqO;rw[h];cases l <;> rfl
theorem J70:∀ l:List Int,e10 (l.map D.int)=true/\f20 (l.map D.int)=0
 |[]=>⟨rfl,rfl⟩
 |x::r=>by
  obtain⟨h1,h2⟩:=J70 r;refine⟨h1,?_⟩;show Ó6 0 (f20 (r.map D.int))=0;rw[h2];rfl
theorem x01(l:List Int):okD (.lst (l.map D.int))=true:=by
 obtain⟨h1,h2⟩:=J70 l;show(e10 (l.map D.int)&&decide (f20 (l.map D.int) + 1<=40))=true;rw[h1,h2];rfl
theorem I61(n:Nat):(ì n).map (λ(i:Nat)=>D.int i)=((ì n).map λ(i:Nat)=>(i:Int)).map D.int:=by
 rw[ë];rfl
theorem Y61{l:List Int}{j:Nat}(h:j < l.length):(l.map D.int)[j]?=some (.int l[j]):=by rw[Ö,á h];rfl
theorem Y71{j:Nat}(h:l[j]?=some x):g51 (.lst l) (.int j)=some x:=L2.F00 h
theorem n72{j:Nat}(h:l[j]?=some x):g51 (.tup l) (.int j)=some x:=L2.F00 h
def pr(p:Int × Int):D:=.tup [.int p.1,.int p.2]
def ky(p:Int × Int):List Int:=[p.1,p.2]
theorem L12(a b c d:Int):MySort.g70 [a,b] [c,d]=if a=c then(if b=d then false else decide (b < d)) else decide (a < c):=rfl
def Ch:List (Int × Int)->Prop
 |a::b::r=>HT.leB (ky a) (ky b)=true/\Ch (b::r)|_=>True
theorem c61(h:MySort.g70 (ky p) (ky q)=true):HT.leB (ky p) (ky q)=true:=by
 unfold HT.leB;unfold ky at h ⊢;rw[L12] at h ⊢;by_cases h1:p.1=q.1
 ·rw[if_pos h1] at h;rw[if_pos h1.symm];by_cases h2:p.2=q.2
  ·rw[if_pos h2] at h;cases h
  ·rw[if_neg h2] at h;rw[if_neg (À8 h2)];simp only[decide_eq_true_eq] at h;simp;omega
 ·rw[if_neg h1] at h;rw[if_neg (À8 h1)];simp only[decide_eq_true_eq] at h;simp;omega
def A81(k:Int × Int):List (Int × Int)->List (Int × Int)
 |[]=>[k]|y::r=>if MySort.g70 (ky y) (ky k) then y::A81 k r else k::y::r
def i21:List (Int × Int)->List (Int × Int)
 |[]=>[]|k::r=>A81 k (i21 r)
theorem Q90(k:Int × Int):∀ l,(A81 k l).Perm (k::l)
 |[]=>.refl _
 |y::r=>by
  unfold A81;split
  ·exact((Q90 k r).cons y).trans (.swap _ _ _)
  ·exact .refl _
theorem D80:∀ l,(i21 l).Perm l
 |[]=>.refl _|k::r=>(Q90 k _).trans ((D80 r).cons k)
theorem x11(k:Int × Int):∀ l,Ch l->Ch (A81 k l)
 |[],_=>trivial
 |[y],_=>by
  unfold A81;split
  ·rename_i h;exact⟨c61 h,trivial⟩
  ·rename_i h;refine⟨?_,trivial⟩;unfold HT.leB;simpa using h
 |y::x::r,h=>by
  obtain⟨h1,h2⟩:=h;have ih:=x11 k (x::r) h2;unfold A81;split
  ·rename_i hy;unfold A81 at ih ⊢;split at ih
   ·rename_i hx;rw[if_pos hx];exact⟨h1,ih⟩
   ·rename_i hx;rw[if_neg hx];exact⟨c61 hy,ih⟩
  ·rename_i hy;refine⟨?_,h1,h2⟩;unfold HT.leB;simpa using hy
theorem c71:∀ l,Ch (i21 l)
 |[]=>trivial|k::r=>x11 k _ (c71 r)
theorem c81(k:Int × Int):∀ l:List (Int × Int),j21 (pr k) (l.map pr)=(A81 k l).map pr
 |[]=>rfl
 |y::r=>by
  unfold A81;show(if MySort.g70 (ky y) (ky k) then pr y::j21 (pr k) (r.map pr) else pr k::pr y::r.map pr)=_;split
  ·rw[c81 k r];rfl
  ·rfl
theorem R00:∀ l:List (Int × Int),j00 (l.map pr)=(i21 l).map pr
 |[]=>rfl
 |k::r=>by
  show j21 (pr k) (j00 (r.map pr))=_;rw[R00 r,c81];rfl
theorem A12(p q:Int × Int):ltD (pr p) (pr q)=some (MySort.g70 (ky p) (ky q)):=by
 show(if (p.1 == q.1)=true then(if (p.2 == q.2)=true then some false else some (decide (p.2 < q.2))) else some (decide (p.1 < q.1)))=some (if p.1=q.1 then(if p.2=q.2 then false else decide (p.2 < q.2)) else decide (p.1 < q.1));simp only[beq_iff_eq];split
 ·split <;> rfl
 ·rfl
theorem Y81(p q:Int × Int):e60 (pr p) (pr q)=true:=by
 unfold e60;rw[A12];show(true&&((some (MySort.g70 (ky p) (ky q)) == some (MySort.g70 (ky p) (ky q)))&&(((p.1 == q.1)&&((p.2 == q.2)&&true)) || !([p.1,p.2] == [q.1,q.2]))))=true;rw[beq_self_eq_true,Å5,Å5,Ð8];by_cases h1:p.1=q.1 <;> by_cases h2:p.2=q.2 <;> simp[h1,h2]
theorem x21(l:List (Int × Int)):h00 (l.map pr)=true:=by
 refine Î.mpr λx hx=>?_;obtain⟨p,_,rfl⟩:=Þ.mp hx;show(true&&(true&&(l.map pr).all (e60 (pr p))))=true;refine Î.mpr λy hy=>?_;obtain⟨q,_,rfl⟩:=Þ.mp hy;exact Y81 p q
theorem x31(h:l.length < 64):bfD .sorted [.lst (l.map pr)]=some (.fr ((i21 l).map pr)):=by
 show(if (l.map pr).length < 64/\h00 (l.map pr)=true then some (S.fr (j00 (l.map pr))) else(B92 (l.map pr)).map S.fr)=_;rw[if_pos ⟨by rw[Ì];exact h,x21 l⟩,R00]
theorem c91:∀ {l:List (Int × Int)},Ch l->c51 (l.map pr)=true
 |[],_=>rfl|[_],_=>rfl
 |a::b::r,h=>by
  have ih:=c91 h.2;show((p10 (pr a::pr b::r.map pr) (pr b::r.map pr)).all leD)=true;have e:p10 (pr a::pr b::r.map pr) (pr b::r.map pr)=.tup [pr a,pr b]::p10 (pr b::r.map pr) (r.map pr):=rfl;rw[e,Ä8,Á];exact⟨h.1,ih⟩
def C10(m:Int)(ps:List (Int × Int)):D:=.tup [.int m,.tup (ps.map pr)]
structure i90(m:Int)(ps:List (Int × Int)):Prop where
 m1:1<=m
 m6:m<=6
 len:ps.length<=8
 tie:∀ p∈ps,0<=p.1/\p.1 < p.2/\p.2 < m
 ch:Ch ps
theorem i90.web(g:i90 m ps):w81 (C10 m ps)=true:=by
 unfold C10 w81 D52 W80;simp only[Á,decide_eq_true_eq,Ä7,Ì];refine⟨g.m1,g.m6,g.len,λt ht=>?_,c91 g.ch⟩;obtain⟨p,hp,rfl⟩:=Þ.mp ht;obtain⟨h1,h2,h3⟩:=g.tie p hp;unfold pr A71 b30;simp only[Á,decide_eq_true_eq];omega
theorem n82(h1:0<=i)(hi:i < 100)(h0:-100 < m)(h:m < 100000):itD .rng2 [.int i,.int m]=some ((ì (m - i).toNat).map λ(k:Nat)=>D.int (i + k)):=by
 show(if inR i=true/\inR m=true then _ else none)=_;rw[if_pos ⟨H40.mpr ∅,H40.mpr ∅⟩]
theorem x41{L:List D}{n:Nat}(f:D->Bool)(h:n < L.length)(ha:L.all f=true):∃ x,L[n]?=some x/\f x=true :=
 ⟨L[n],á h,Î.mp ha _ (Æ9 h)⟩
def btw(a b:Int):D->Bool
 |.int i=>decide (a<=i)&&decide (i<=b)|_=>false
theorem n92(h:btw a b x=true):∃ i,x=.int i/\a<=i/\i<=b:=by
 cases x with
 |int i =>
  unfold btw at h;rw[Á,decide_eq_true_eq,decide_eq_true_eq] at h;exact⟨i,rfl,h⟩
 |_=>cases h
theorem o02(l:List D)(h:0<=n):cutD l none (some n)=l.take n.toNat:=by
 obtain⟨k,rfl⟩:=Ê6 h;have h1:HT.sIx l.length l.length (some (k:Int))=min k l.length:=HT.k71 _ _ k;unfold cutD;rw[h1];show(l.drop 0).take (min k l.length - 0)=_;rw[List.drop_zero,Nat.sub_zero,Ä2];rcases Nat.le_total k l.length with h | h
 ·rw[Õ9 h]
 ·rw[Û1 h,List.take_length,Ë0 h]
theorem Y91{α:Type}{l:List α}{a:α}:(l++[a]).length=l.length + 1:=by rw[À6];rfl
theorem N81(a b:Int):(if b < a then b else a)=min a b/\(if b > a then b else a)=max a b:=by
 constructor <;> (split <;> omega)
theorem R10{P:Int × Int->Prop}:∀ {xs ys:List D},PySem.Paired (λ_ y=>∃ c,y=pr c/\P c) xs ys->∃ cs:List (Int × Int),ys=cs.map pr/\cs.length=xs.length/\∀ c∈cs,P c
 |[],_,h=>by cases h;exact⟨[],rfl,rfl,λc hc=>nomatch hc⟩
 |x::r,_,h=>by
  cases h with
  |cons h1 h2 =>
   obtain⟨c,rfl,hc⟩:=h1;obtain⟨cs,rfl,hl,ha⟩:=R10 h2;refine⟨c::cs,rfl,by rw[à,hl];rfl,λd hd=>?_⟩
   rcases Ü.mp hd with rfl | hd
   ·exact hc
   ·exact ha d hd
def p92(m:Int)(p:Int × Int):Prop:=0<=p.1/\p.1 < p.2/\p.2 < m
abbrev o12(mo m:Int)(ps:List (Int × Int))(o4 o5 o6:Option S):Env:=[some .z,some (.d (.int mo)),some (.d (.int m)),some (.fr (ps.map pr)),o4,o5,o6]
theorem o22:o12 mo m (ps++[p]) o4 o5 o6=[some .z,some (.d (.int mo)),some (.d (.int m)),some (.fr (ps.map pr++[pr p])),o4,o5,o6]:=by rw[o12,Ê5];rfl
theorem I71{mo m:Int}{ps:List (Int × Int)}(m1:1<=m)(m6:m<=6)(h0:0<=mo)(h8:mo<=8)(hp:∀ p∈ps,p92 m p)(hl:ps.length < 64):∃ qs,bfD .sorted [.lst (cutD (ps.map pr) none (some mo))]=some (.fr (qs.map pr))/\i90 m qs/\(qs.length:Int)<=mo:=by
 have hl':(ps.take mo.toNat).length < 64:=by rw[Ê8];omega
 refine⟨i21 (ps.take mo.toNat),by rw[o02 _ h0,← map_take];exact x31 hl',?_⟩
 have hperm:=D80 (ps.take mo.toNat);have hlen:=hperm.length_eq;rw[Ê8] at hlen;exact⟨⟨m1,m6,by omega,λq hq=>hp q (List.mem_of_mem_take (hperm.mem_iff.mp hq)),c71 _⟩,by omega⟩
theorem x51(k:Nat){mo:Int}{z:Z}(hz:ZI z)(h0:0<=mo)(h8:mo<=8):W (b60 T (k + 5) D60 [.z,.d (.int mo)]) z (λs z1=>ZI z1/\∃ m ps,s=.d (C10 m ps)/\i90 m ps/\(ps.length:Int)<=mo) NE:=by
 refine a82 hz (ps:=2) (ns:=7) (b:=u20) rfl rfl (-0) ?_
 refine(h50 (k + 1) 8 hz (-0) (-0)).imp λs z1 ⟨hz1,n,e,hn⟩=>?_
 subst e;obtain⟨x,ex,hx⟩:=x41 (L:=[D.int 6,.int 5,.int 4,.int 3,.int 4,.int 5,.int 2,.int 1]) (n:=n) (btw 1 6) (by simp only[à,Â5];omega) (-0)
 obtain⟨m,rfl,m1,m6⟩:=n92 hx;refine(a20 (Y71 ex) ?_ :);refine(n52 (.fr []) (o12 mo m [] none none none) ?_ ?_ ?_ :)
 ·exact⟨rfl,rfl⟩
 ·rfl
 refine Y41 (λρ z2=>ZI z2/\∃ ps:List (Int × Int),ρ=o12 mo m ps none none none/\(∀ p∈ps,p92 m p)/\ps.length<=5) ?_ ?_
 ·refine ib (b:=decide (1 < m)) (λh=>?_) λh=>⟨hz1,[],rfl,(λp hp=>nomatch hp),by simp⟩
  have h:=of_decide_eq_true h;refine(h50 (k + 1) 5 hz1 (-0) (-0)).imp λs z2 ⟨hz2,v,e,hv⟩=>?_
  subst e;refine ib (b:=decide (0 < (v:Int))) (λh1=>?_) λh1=>⟨hz2,[],rfl,(λp hp=>nomatch hp),by simp⟩
  refine(a20 (n82 (i:=1) (m:=m) (-0) (-0) ∅ ∅) ?_ :)
  refine ip (by rw[Ì,Â3];simp only[most];omega) (K92 (I:=ZI) (P:=λ_ y=>∃ c,y=pr c/\p92 m c) hz2 (λx hx z3 hz3=>?_) λys z3 hz3 hys=>?_)
  ·obtain⟨i,hi,rfl⟩:=Þ.mp hx;have hi:=ö.mp hi;refine(h50 (k + 1) (1 + (i:Int)) hz3 ∅ ∅).imp λs z4 ⟨hz4,a,e,ha⟩=>?_
   subst e;exact⟨hz4,((a:Int),1 + (i:Int)),rfl,by show(0:Int)<=a;omega,ha,by show 1 + (i:Int) < m;omega⟩
  ·obtain⟨cs,rfl,hl,ha⟩:=R10 hys;rw[Ì,Â3] at hl;exact⟨hz3,cs,rfl,ha,by omega⟩
 ·rintro ρ z2 ⟨hz2,ps,rfl,hp,hl⟩;refine(h50 (k + 1) (mo + 1) hz2 ∅ ∅).imp λs z3 ⟨hz3,t,e,ht⟩=>?_
  subst e;have hj:(if decide (1 < m)=true then(1:Int) else 0)=0∨((if decide (1 < m)=true then(1:Int) else 0)=1/\1 < m):=by
   by_cases h:1 < m
   ·exact .inr ⟨by rw[decide_eq_true h];rfl,h⟩
   ·exact .inl (by rw[decide_eq_false h];rfl)
  refine(a20 (i01 (i:=(t:Int)) (j:=if decide (1 < m)=true then(1:Int) else 0) ∅ (by rcases hj with h | h <;> (first | rw[h] | rw[h.1]) <;> decide)) ?_ :)
  have hc:∃ c:Nat,(t:Int) * (if decide (1 < m)=true then(1:Int) else 0)=c/\c<=8/\(0 < c->1 < m):=by
   rcases hj with h | h
   ·exact⟨0,by rw[h,Int.mul_zero];rfl,by omega,λh=>absurd h ∅⟩
   ·exact⟨t,by rw[h.1,Int.mul_one],by omega,λ_=>h.2⟩
  obtain⟨c,ec,hc8,hcm⟩:=hc;refine(a20 (o:=itD .rng1 [.int ((t:Int) * (if decide (1 < m)=true then(1:Int) else 0))]) (a:=(ì c).map λ(i:Nat)=>D.int i) (by rw[ec,J60 ∅ ∅,Ä2]) ?_ :)
  refine W50 (λxs ρ z=>ZI z/\(0 < xs.length->1 < m)/\∃ (ps:List (Int × Int)) (o4 o5 o6:Option S),ρ=o12 mo m ps o4 o5 o6/\(∀ p∈ps,p92 m p)/\ps.length + xs.length<=13) _ ⟨hz3,λh=>hcm (by rw[Ì,Â3] at h;exact h),ps,_,_,_,rfl,hp,by rw[Ì,Â3];omega⟩ ?_ ?_
  ·rintro x r ρ z4 ⟨hz4,hm,ps,o4,o5,o6,rfl,hp,hl⟩;have hm:=hm (by simp)
   refine(h50 (k + 1) m hz4 ∅ ∅).imp λs z5 ⟨hz5,a,e,ha⟩=>?_
   subst e;refine(h50 (k + 1) (m - 1) hz5 ∅ ∅).imp λs z6 ⟨hz6,b,e,hb⟩=>?_
   subst e;refine(a20 (I41 (i:=(a:Int) + 1 + b) (j:=m) ∅) ?_ :)
   have hq:0<=((a:Int) + 1 + b) % m/\((a:Int) + 1 + b) % m < m/\((a:Int) + 1 + b) % m≠a:=by
    refine⟨emod_nonneg _ ∅,emod_lt_of_pos _ ∅,?_⟩
    by_cases h:(a:Int) + 1 + b < m
    ·rw[Ð7 ∅ h];omega
    ·rw[show(a:Int) + 1 + b=((a:Int) + 1 + b - m) + m from by omega,Int.add_emod_right,Ð7 ∅ ∅];omega
   generalize ((a:Int) + 1 + b) % m=q at hq ⊢;refine ip ⟨rfl,by rw[Ì];simp only[most,à] at hl ⊢;omega⟩ ?_
   refine⟨hz6,λ_=>hm,ps++[(min (a:Int) q,max (a:Int) q)],some (.d x),some (.d (.int a)),some (.d (.int q)),?_,λp hp'=>?_,by rw[Y91];simp only[à] at hl;omega⟩
   ·rw[o22,← (N81 (a:Int) q).1,← (N81 (a:Int) q).2];rfl
   ·rcases Ã1.mp hp' with h | h
    ·exact hp p h
    ·rw[ß.mp h];show 0<=min (a:Int) q/\min (a:Int) q < max (a:Int) q/\max (a:Int) q < m;omega
  ·rintro ρ z4 ⟨hz4,_,ps,o4,o5,o6,rfl,hp,hl⟩;obtain⟨qs,e,g,hq⟩:=I71 m1 m6 h0 h8 hp (by simp only[Â5] at hl;omega)
   refine(a20 e ?_ :);exact⟨hz4,m,qs,rfl,g,hq⟩
theorem x61(h:0 < b):0 < ((gcd t b:Nat):Int):=by
 have:=Int.gcd_pos_of_ne_zero_right (a:=t) (b:=b) ∅
 omega
def z10(t b:Int):Int × Int:=(t / gcd t b,b / gcd t b)
theorem X00(h0:0 < b):t=gcd t b * (z10 t b).1/\b=gcd t b * (z10 t b).2:=by
 constructor
 ·exact(Int.mul_ediv_cancel' (Int.gcd_dvd_left t b)).symm
 ·exact(Int.mul_ediv_cancel' (Int.gcd_dvd_right t b)).symm
theorem Z01(h0:0 < b):gcd (z10 t b).1 (z10 t b).2=1:=Int.gcd_ediv_gcd_ediv_gcd_of_ne_zero_right ∅
theorem x71(h0:0 < b):0 < (z10 t b).2:=by
 have g0:=x61 (t:=t) h0;obtain⟨_,e⟩:=X00 (t:=t) h0;refine Int.pos_of_mul_pos_right (a:=gcd t b) ?_ g0;omega
theorem N91(h:gcd a b=1)(hd:b∣a * d):b∣d:=by
 have h1:Nat.Coprime b.natAbs a.natAbs:=by rw[Nat.coprime_comm];exact h
 exact Int.natAbs_dvd_natAbs.mp (h1.dvd_of_dvd_mul_left (by rw[← natAbs_mul];exact Int.natAbs_dvd_natAbs.mpr hd))
theorem i31(hb:0 < b)(hd:0 < d)(h1:gcd a b=1)(h2:gcd c d=1)(h:a * d=c * b):a=c/\b=d:=by
 have k1:b∣d:=N91 h1 ⟨c,by rw[h,Int.mul_comm]⟩
 have k2:d∣b:=N91 h2 ⟨a,by rw[← h,Int.mul_comm]⟩
 have e:b=d:=Int.le_antisymm (Int.le_of_dvd hd k1) (Int.le_of_dvd hb k2);subst e;exact⟨Ï4 ∅ h,rfl⟩
def IsC(c:Int × Int):Prop:=1<=c.2/\c.2<=1000/\0<=c.1/\c.1<=c.2/\gcd c.1 c.2=1
theorem IsC.ch(h:IsC c):chD (pr c)=true:=by
 obtain⟨h1,h2,h3,h4,h5⟩:=h;show chI c.1 c.2=true;unfold chI;rw[h5,decide_eq_true h1,decide_eq_true h2,decide_eq_true h3,decide_eq_true h4];rfl
theorem Z11{n:Nat}(f:D->Bool)(h:n < L.length)(ha:L.all f=true)(hp:∀ x,f x=true->P x):Get (g51 (.lst L) (.int n)) P:=by
 obtain⟨x,e,hx⟩:=x41 f h ha;exact a20 (Y71 e) (hp x hx)
theorem x81(k:Nat)(hz:ZI z):W (b60 T (k + 4) o60 [.z]) z (λs z1=>ZI z1/\∃ x,s=.d x/\w81 x=false) NE:=by
 refine a82 hz (ps:=1) (ns:=2) (b:=j90) rfl rfl (-0) ?_
 refine(h50 k 25 hz (-0) (-0)).imp λs z1 ⟨hz1,v,e,v1⟩=>?_
 subst e;refine(Z11 (n:=v) (λx=>!w81 x) ?_ ?_ ?_ :)
 ·show v < 25;omega
 ·decide +kernel
 ·exact λx hx=>⟨hz1,x,rfl,by simpa using hx⟩
def ltP:D->Bool
 |.tup [.int a,.int b]=>decide (a < b)|_=>false
def D90(l:List D):Bool:=(p10 l (l.drop 1)).all ltP
def O01(m:Int):D->Bool
 |.tup l=>(l.all (λx=>b30 x m)&&D90 l)&&!l.isEmpty|_=>false
def short:D->Bool
 |.tup l=>decide (l.length<=1000)|_=>true
theorem I81(k:Nat)(h:∀ x∈l,b30 x m=true)(hl:l.length<=1000)(z:Z):b60 T (k + 3) w61 [.d (.tup l)] z=some (.ok (.d (.bl (D90 l))) z):=by
 have e1:cutD l (some 1) none=l.drop 1:=c41 l 1;refine W.ok (l20 (ps:=1) (ns:=1) (b:=W60) rfl rfl (-0) (ip (c:=(p10 l (cutD l (some 1) none)).length<=most) (â (s30 _ _) (q00 hl)) (I21 (λx=>.bl (ltP x)) (λx hx=>?_) (a20 (A50 _ ltP) ?_ :))))
 ·obtain⟨u,hu,v,hv,rfl⟩:=W70 hx;rw[e1] at hv;obtain⟨i,rfl,_⟩:=i80 (h u hu);obtain⟨j,rfl,_⟩:=i80 (h v (Ô9 hv));exact⟨rfl,rfl⟩
 ·exact sb (b:=(p10 l (cutD l (some 1) none)).all ltP) (by rw[e1];rfl)
theorem j50(k:Nat)(m:Int)(hs:short x=true)(z:Z):b60 T (k + 5) f50 [.d x,.d (.int m)] z=some (.ok (.d (.bl (match x with | .tup l=>l.all (λx=>b30 x m)&&D90 l | _=>false))) z):=by
 refine W.ok (l20 (ps:=2) (ns:=2) (b:=f80) rfl rfl (-0) ?_)
 cases x with
 |tup l =>
  have hl:l.length<=1000:=of_decide_eq_true hs;refine ip (q00 hl) (I21 (λx=>.bl (b30 x m)) (λx _=>Wo (p90 k x m z) ⟨rfl,rfl⟩) (a20 (A50 l λx=>b30 x m) ?_ :));refine ib (b:=l.all λx=>b30 x m) (λh=>?_) λh=>sb (show false=(l.all (λx=>b30 x m)&&D90 l) by rw[h];rfl)
  exact Wo (I81 (k + 1) (Î.mp h) hl z) (sb (show D90 l=(l.all (λx=>b30 x m)&&D90 l) by rw[h];rfl))
 |_=>exact sb rfl
theorem A60(k:Nat)(z:Z)(h:O01 m x=true)(hs:short x=true):b60 T (k + 6) j80 [.d (.tup [.int m,t]),.d x] z=some (.ok (.d .non) z):=by
 refine W.ok (l20 (ps:=2) (ns:=2) (b:=g00) rfl rfl (-0) (Wo (j50 k m hs z) ?_))
 cases x with
 |tup l =>
  have h:((l.all (λx=>b30 x m)&&D90 l)&&!l.isEmpty)=true:=h;rw[Á] at h;refine ie (b:=!(l.all (λx=>b30 x m)&&D90 l)) (by rw[h.1];rfl) ?_
  cases l with
  |nil=>cases h.2
  |cons y r=>exact sd rfl
 |_=>cases h
theorem A70(k:Nat)(z:Z)(h:O01 m x=false)(hs:short x=true):b60 T (k + 6) j80 [.d (.tup [.int m,t]),.d x] z=some (.er 2 z):=by
 refine W.er (l20 (ps:=2) (ns:=2) (b:=g00) rfl rfl (-0) (Wo (j50 k m hs z) ?_))
 cases x with
 |tup l =>
  have h:((l.all (λx=>b30 x m)&&D90 l)&&!l.isEmpty)=false:=h;refine ib (b:=!(l.all (λx=>b30 x m)&&D90 l)) (λ_=>⟨rfl,d90 z⟩) λh1=>?_;rw[Ø0] at h1;rw[h1,Å5,Ø0] at h;cases l with
  |nil=>exact⟨rfl,d90 z⟩|cons y r=>cases h
 |_=>exact⟨rfl,d90 z⟩
def a70(n:Nat):D:=.int n
structure u30(m:Int)(l:List Nat):Prop where
 ne:l≠[]
 up:l.Pairwise (· < ·)
 lt:∀ p∈l,(p:Int) < m
theorem x91:∀ {l:List Nat},l.Pairwise (· < ·)->D90 (l.map a70)=true
 |[],_=>rfl|[_],_=>rfl
 |a::b::r,h=>by
  have ih:=x91 (List.Pairwise.of_cons h);show(decide ((a:Int) < (b:Int))&&D90 ((b::r).map a70))=true;rw[ih,decide_eq_true (by have:=(Ã9.mp h).1 b Ê;omega)];rfl
theorem u30.pls(g:u30 m l):O01 m (.tup (l.map a70))=true:=by
 show(((l.map a70).all (λx=>b30 x m)&&D90 (l.map a70))&&!(l.map a70).isEmpty)=true;rw[x91 g.up,Ð8,Á];refine⟨Î.mpr λx hx=>?_,?_⟩
 ·obtain⟨p,hp,rfl⟩:=Þ.mp hx;have:=g.lt p hp;show(decide (0<=(p:Int))&&decide ((p:Int) < m))=true;rw[decide_eq_true this,decide_eq_true ∅];rfl
 ·cases l with
  |nil=>exact absurd rfl g.ne|cons _ _=>rfl
theorem u30.len(g:u30 m l)(h6:m<=6):l.length<=6:=by
 have:l.Sublist (ì 6):=by
  have e:l=(ì 6).filter λx=>l.contains x:=by
   refine Ã4 (le:=(· < ·)) ?_ g.up (Å4 _ Æ8) ?_
   ·intro a b _ _ h1 h2;omega
   ·refine(È4 (g.up.imp λh e=>by omega) (Å4 _ List.nodup_range)).mpr λa=>?_
    rw[Ô2,Î8,Ì6];exact⟨λh=>⟨by have:=g.lt a h;omega,h⟩,λh=>h.2⟩
  rw[e];exact List.filter_sublist
 simpa using this.length_le
theorem d01:∀ {ys:List D}{l:List Nat},ys.Sublist (l.map a70)->∃ l':List Nat,ys=l'.map a70/\l'.Sublist l:=λ{ys l} h=>by
 obtain⟨l',h1,h2⟩:=List.sublist_map_iff.mp h;exact⟨l',h2,h1⟩
theorem y01(n:Nat):((ì n).map λ(i:Nat)=>D.int i)=(ì n).map a70:=rfl
theorem A22(a b:Int):MySort.g70 [a] [b]=decide (a < b):=by
 show(if a=b then false else decide (a < b))=_;by_cases h:a=b
 ·rw[if_pos h,h];simp
 ·rw[if_neg h]
theorem J80(a b:Nat):e60 (a70 a) (a70 b)=true:=by
 show(true&&((some (decide ((a:Int) < b)) == some (MySort.g70 [(a:Int)] [(b:Int)]))&&(((a:Int) == b) || !([(a:Int)] == [(b:Int)]))))=true;rw[A22,beq_self_eq_true,Å5,Å5];by_cases h:(a:Int)=b <;> simp[h]
theorem i41(x y:Nat):bfD .sorted [.lst [a70 x,a70 y]]=some (.fr [a70 (min x y),a70 (max x y)]):=by
 have ok:h00 [a70 x,a70 y]=true:=by
  refine Î.mpr λu hu=>?_;have one:∀ a:Nat,(true&&(true&&[a70 x,a70 y].all (e60 (a70 a))))=true:=λa=>by
   show(e60 (a70 a) (a70 x)&&(e60 (a70 a) (a70 y)&&true))=true;rw[J80,J80];rfl
  simp only[Á7,À2,or_false] at hu;rcases hu with rfl | rfl
  ·exact one x
  ·exact one y
 have e:j00 [a70 x,a70 y]=[a70 (min x y),a70 (max x y)]:=by
  show(if MySort.g70 [(y:Int)] [(x:Int)] then [a70 y,a70 x] else [a70 x,a70 y])=_;rw[A22];by_cases h:(y:Int) < x
  ·rw[decide_eq_true h,if_pos rfl,Û1 ∅,Nat.max_eq_left ∅]
  ·rw[decide_eq_false h,if_neg (-0),Õ9 ∅,Nat.max_eq_right ∅]
 show(if [a70 x,a70 y].length < 64/\h00 [a70 x,a70 y]=true then some (S.fr (j00 [a70 x,a70 y])) else _)=_;rw[if_pos ⟨by show 2 < 64;decide,ok⟩,e]
theorem R20(k:Nat)(m1:1<=m)(m6:m<=6)(hz:ZI z):W (b60 T (k + 4) s20 [.z,.d (.tup [.int m,t])]) z (λs z1=>ZI z1/\∃ l,s=.d (.tup (l.map a70))/\u30 m l) NE:=by
 have g2:u30 m (ì m.toNat):=⟨by intro h;have:=congrArg List.length h;rw[Â3] at this;simp at this;omega,Æ8,λp hp=>by have:=ö.mp hp;omega⟩
 refine a82 hz (ps:=2) (ns:=4) (b:=m00) rfl rfl (-0) ?_
 refine(h50 k 4 hz (-0) (-0)).imp λs z1 ⟨hz1,v,e,v1⟩=>?_
 subst e;refine Y41 (λρ z2=>z2=z1/\1 < m/\ρ=[some .z,some (.d (.tup [.int m,t])),some (.d (.int v)),none]) ?_ ?_
 ·refine ib (b:=decide ((v:Int) < 2)) (λh=>?_) λh=>?_
  ·refine(a20 (J60 (m:=m) ∅ ∅) ?_ :)
   exact⟨hz1,_,rfl,g2⟩
  ·refine ib (b:=m == 1) (λh=>?_) λh=>?_
   ·refine(a20 (J60 (m:=m) ∅ ∅) ?_ :)
    exact⟨hz1,_,rfl,g2⟩
   ·have h:=ne_of_beq_false h;exact⟨rfl,by omega,rfl⟩
 ·rintro ρ z2 ⟨rfl,hm,rfl⟩;refine ib (b:=(v:Int) == 2) (λh=>?_) λh=>?_
  ·refine(h50 k m hz1 ∅ ∅).imp λs z3 ⟨hz3,a,e,ha⟩=>?_
   subst e;refine(h50 k (m - 1) hz3 ∅ ∅).imp λs z4 ⟨hz4,b,e,hb⟩=>?_
   subst e;refine(a20 (I41 (i:=(a:Int) + 1 + b) (j:=m) ∅) ?_ :)
   have hq:0<=((a:Int) + 1 + b) % m/\((a:Int) + 1 + b) % m < m/\((a:Int) + 1 + b) % m≠a:=by
    refine⟨emod_nonneg _ ∅,emod_lt_of_pos _ ∅,?_⟩
    by_cases h:(a:Int) + 1 + b < m
    ·rw[Ð7 ∅ h];omega
    ·rw[show(a:Int) + 1 + b=((a:Int) + 1 + b - m) + m from by omega,Int.add_emod_right,Ð7 ∅ ∅];omega
   generalize ((a:Int) + 1 + b) % m=q at hq ⊢;obtain⟨q,rfl⟩:=Ê6 hq.1;refine(a20 (i41 a q) ?_ :);refine⟨hz4,[min a q,max a q],rfl,by simp,?_,λp hp=>?_⟩
   ·refine .cons (λx hx=>?_) (.cons (λ_ h=>nomatch h) .nil);rw[ß.mp hx];omega
   ·simp only[Á7,À2,or_false] at hp;rcases hp with rfl | rfl <;> omega
  ·refine(a20 (J60 (m:=m) ∅ ∅) ?_ :)
   refine ip (by rw[Ì,Â3];simp only[most];omega) (Y51 (I:=ZI) (λx=>x) hz1 (λx hx z3 hz3=>?_) λys z3 hz3 hs=>?_)
   ·refine(h50 k 2 hz3 (-0) (-0)).imp λs z4 ⟨hz4,a,e,a1⟩=>?_
    subst e;exact⟨hz4,(a:Int) == 1,rfl,λ_=>⟨rfl,rfl⟩⟩
   ·rw[map_id',y01] at hs;obtain⟨l,rfl,hl⟩:=d01 hs;cases l with
    |nil =>
     refine⟨hz3,[m.toNat - 1],?_,by simp,.cons (λ_ h=>nomatch h) .nil,λq hq=>by rw[ß.mp hq];omega⟩
     show S.d (.tup [.int (m - 1)])=S.d (.tup [.int ((m.toNat - 1:Nat):Int)]);rw[show(m - 1)=((m.toNat - 1:Nat):Int) by omega]
    |cons p r=>exact⟨hz3,p::r,rfl,by simp,Ú5 hl Æ8,λq hq=>by have:=ö.mp (hl.mem hq);omega⟩
section
variable (ps:List (Int × Int))
abbrev tA(n:Nat):Nat:=(ps.getD n (0,0)).1.toNat
abbrev tB(n:Nat):Nat:=(ps.getD n (0,0)).2.toNat
def q10(mk:List Int)(n:Nat):List Int:=mk.map λx=>if x=mk.getD (tB ps n) 0 then mk.getD (tA ps n) 0 else x
def c20(m:Nat)(lot:List Nat):List Int:=lot.foldl (q10 ps) ((ì m).map λ(i:Nat)=>(i:Int))
def Z21(mk:List Int)(pl:List Nat):Bool:=pl.all λp=>mk.getD p 0 == mk.getD (pl.getD 0 0) 0
def J90(m:Nat)(pl lot:List Nat):Bool:=Z21 (c20 ps m lot) pl
variable {ps}
theorem K00(mk:List Int)(n:Nat):(q10 ps mk n).length=mk.length:=Ì _
theorem step_get(h:x < mk.length):(q10 ps mk n).getD x 0=if mk.getD x 0=mk.getD (tB ps n) 0 then mk.getD (tA ps n) 0 else mk.getD x 0:=by
 unfold q10;rw[Ó,Ö,á h];simp[Ó,á h]
theorem s40:(c20 ps m lot).length=m:=by
 unfold c20;have:∀ (l:List Nat) (mk:List Int),(l.foldl (q10 ps) mk).length=mk.length:=by
  intro l
  induction l with
  |nil=>intro mk;rfl|cons n r ih=>intro mk;rw[List.foldl_cons,ih,K00]
 rw[this];simp
theorem i51(hr:∀ n < ps.length,tA ps n < m/\tB ps n < m):∀ (lot:List Nat) (mk:List Int),mk.length=m->(∀ n∈lot,n < ps.length) ->
  (∀ x y,x < m->y < m->mk.getD x 0=mk.getD y 0->(lot.foldl (q10 ps) mk).getD x 0=(lot.foldl (q10 ps) mk).getD y 0)/\(∀ n∈lot,(lot.foldl (q10 ps) mk).getD (tA ps n) 0=(lot.foldl (q10 ps) mk).getD (tB ps n) 0) /\
  ∀ f:Nat->Int,(∀ x y,x < m->y < m->mk.getD x 0=mk.getD y 0->f x=f y)->(∀ n∈lot,f (tA ps n)=f (tB ps n))->∀ x y,x < m->y < m->(lot.foldl (q10 ps) mk).getD x 0=(lot.foldl (q10 ps) mk).getD y 0->f x=f y:=by
 intro lot
 induction lot with
 |nil=>exact λmk _ _=>⟨λ_ _ _ _ h=>h,(λ_ h=>nomatch h),λf h _=>h⟩
 |cons n r ih =>
  intro mk hl hn;obtain⟨ha,hb⟩:=hr n (hn n Ê);obtain⟨i1,i2,i3⟩:=ih (q10 ps mk n) (by rw[K00];exact hl) λk hk=>hn k (È _ hk)
  have st:∀ x,x < m->(q10 ps mk n).getD x 0=if mk.getD x 0=mk.getD (tB ps n) 0 then mk.getD (tA ps n) 0 else mk.getD x 0:=λx hx=>step_get ∅
  refine⟨λx y hx hy h=>i1 x y hx hy (by rw[st x hx,st y hy,h]),λk hk=>?_,λf h1 h2=>?_⟩
  ·rcases Ü.mp hk with rfl | hk
   ·refine i1 _ _ ha hb ?_;rw[st _ ha,st _ hb,if_pos rfl];split <;> rfl
   ·exact i2 k hk
  ·refine i3 f (λx y hx hy h=>?_) λk hk=>h2 k (È _ hk);have e:=h2 n Ê;rw[st x hx,st y hy] at h;split at h
   ·rename_i hxb;have fx:=h1 _ _ hx hb hxb;split at h
    ·rename_i hyb;rw[fx,h1 _ _ hy hb hyb]
    ·rw[fx,← e];exact h1 _ _ ha hy h
   ·split at h
    ·rename_i hyb;rw[h1 _ _ hy hb hyb,← e];exact h1 _ _ hx ha h
    ·exact h1 _ _ hx hy h
theorem R30(h:x < m):(((ì m).map λ(i:Nat)=>(i:Int))).getD x 0=(x:Int):=by
 rw[Ó,Ö,Ö5 h];rfl
theorem d11{m:Nat}(hr:∀ n < ps.length,tA ps n < m/\tB ps n < m){pl lot:List Nat}(hp:∀ p∈pl,p < m)(hl:∀ n∈lot,n < ps.length):J90 ps m pl lot=true↔∀ f:Nat->Int,(∀ n∈lot,f (tA ps n)=f (tB ps n))->∀ p∈pl,f p=f (pl.getD 0 0):=by
 obtain⟨_,h2,h3⟩:=i51 hr lot ((ì m).map λ(i:Nat)=>(i:Int)) (by simp) hl
 unfold J90 Z21;rw[Ä7];have h0:∀ p∈pl,pl.getD 0 0 < m:=λp hp'=>by
  cases pl with
  |nil=>cases hp'
  |cons q r=>exact hp q Ê
 constructor
 ·intro h f hf p hp';refine h3 f (λx y hx hy e=>?_) hf p _ (hp p hp') (h0 p hp') (beq_iff_eq.mp (h p hp'));rw[R30 hx,R30 hy] at e;rw[Int.ofNat_inj.mp e]
 ·intro h p hp';rw[beq_iff_eq];exact h (λx=>(c20 ps m lot).getD x 0) h2 p hp'
end
theorem itE{it:It}{e:Ex}{l:List S}{ρ:Env}(h:O20 l=true):p71 it e l ρ=O30 it e l ρ:=by unfold p71;rw[h,O10];rfl
theorem E00:∀ l:List Nat,r10 (l.map a70)=true
 |[]=>rfl|_::r=>E00 r
structure Row(x:D)(lot:List Nat):Prop where
 sq:j11 x=some (lot.map a70)
 br:T11 x=true
theorem Row.t(lot:List Nat):Row (.tup (lot.map a70)) lot:=⟨rfl,E00 lot⟩
theorem Row.ba(h:Row x lot):O20 [.d x]=true:=by
 show(T11 x&&true)=true;rw[h.br];rfl
theorem y11{mk:List Int}{a:Int}(h0:0<=a)(h:a.toNat < mk.length):g51 (.lst (mk.map D.int)) (.int a)=some (.int (mk.getD a.toNat 0)):=by
 obtain⟨n,rfl⟩:=Ê6 h0;rw[Ä2] at h ⊢;rw[Ó,á h];exact Y71 (Y61 h)
theorem O11{ps:List (Int × Int)}{n:Nat}(h:n < ps.length):g51 (.tup (ps.map pr)) (.int n)=some (pr (ps.getD n (0,0))):=by
 rw[Ó,á h];exact n72 (by rw[Ö,á h];rfl)
theorem getD_mem{ps:List (Int × Int)}{n:Nat}(h:n < ps.length):ps.getD n (0,0)∈ps:=by
 rw[Ó,á h];exact Æ9 h
theorem i90.rng{m:Int}{ps:List (Int × Int)}(g:i90 m ps):∀ n < ps.length,tA ps n < m.toNat/\tB ps n < m.toNat:=λn hn=>by
 have:=g.tie _ (getD_mem hn);unfold tA tB;omega
def D62(a b:Int):D->D
 |.int v=>.int (if v=b then a else v)|x=>x
theorem Z31{F:FT}{z:Z}{mk:List Int}(a b:Int){Q:List D->Z->Prop}{E:Nat->Z->Prop}(q:Q ((mk.map λx=>if x=b then a else x).map D.int) z):W (turns (o40 (ev F .nil) (ev F (.ite (.cmp .eq (.var 0) (.var 2)) (.var 1) (.var 0))) (.v 0) [none,some (.d (.int a)),some (.d (.int b))]) (mk.map D.int)) z Q E:=by
 refine I21 (D62 a b) (λx hx=>?_) ?_
 ·obtain⟨v,_,rfl⟩:=Þ.mp hx;refine ib (b:=v == b) (λh=>⟨?_,rfl⟩) λh=>⟨?_,rfl⟩
  ·show D.int a=.int (if v=b then a else v);rw[if_pos (beq_iff_eq.mp h)]
  ·show D.int v=.int (if v=b then a else v);rw[if_neg (by simpa using h)]
 ·have e:(mk.map D.int).map (D62 a b)=(mk.map λx=>if x=b then a else x).map D.int:=by rw[ë,ë];rfl
  rw[e];exact q
theorem A80(k:Nat){m:Int}{ps:List (Int × Int)}(g:i90 m ps){x:D}{lot:List Nat}(hx:Row x lot)(hl:∀ n∈lot,n < ps.length)(z:Z):b60 T (k + 3) t70 [.d (C10 m ps),.d x] z=some (.ok (.fr ((c20 ps m.toNat lot).map D.int)) z):=by
 have m6:=g.m6;have m1:=g.m1;refine W.ok (l20 (ps:=2) (ns:=10) (b:=u00) rfl rfl (-0) ?_)
 refine(a20 (o:=lrD [.int m]) (J60 ∅ ∅) ?_ :)
 refine a20 (o:=j11 x) hx.sq ?_;refine W50 (λxs ρ z1=>z1=z/\∃ (rest:List Nat) (mk:List Int) (o5 o6 o7 o8 o9:Option S),xs=rest.map a70/\(∀ n∈rest,n < ps.length)/\mk.length=m.toNat/\rest.foldl (q10 ps) mk=c20 ps m.toNat lot/\ρ=[some (.d (C10 m ps)),some (.d x),some (.d (.int m)),some (.d (.tup (ps.map pr))),some (.fr (mk.map D.int)),o5,o6,o7,o8,o9]) _ ⟨rfl,lot,(ì m.toNat).map λ(i:Nat)=>(i:Int),none,none,none,none,none,rfl,hl,by simp,rfl,(itE hx.ba).trans ?_⟩ ?_ ?_
 ·rw[← I61];rfl
 ·rintro y r ρ z1 ⟨rfl,rest,mk,o5,o6,o7,o8,o9,e,hr,hm,hf,rfl⟩;cases rest with
  |nil=>cases e
  |cons n rest =>
   cases e;have hn:=hr n Ê;have ht:=g.tie _ (getD_mem hn);refine(a20 (O11 hn) ?_ :);refine(a20 (y11 (mk:=mk) ht.1 ∅) ?_ :)
   refine(a20 (y11 (mk:=mk) (a:=(ps.getD n (0,0)).2) ∅ ∅) ?_ :)
   refine ip (by rw[Ì];simp only[most];omega) (Z31 _ _ ?_)
   exact⟨rfl,rest,q10 ps mk n,_,_,_,_,_,rfl,λk hk=>hr k (È _ hk),by rw[K00];exact hm,hf,rfl⟩
 ·rintro ρ z1 ⟨rfl,rest,mk,o5,o6,o7,o8,o9,e,hr,hm,hf,rfl⟩;cases rest with
  |nil=>exact sd (by rw[← hf];rfl)|cons _ _=>cases e
section
variable {m:Int}{ps:List (Int × Int)}{pl lot:List Nat}
theorem o32{mk:List Int}{p:Nat}(h:p < mk.length):g51 (.lst (mk.map D.int)) (.int p)=some (.int (mk.getD p 0)):=y11 (a:=(p:Int)) ∅ (by rw[Ä2];exact h)
theorem O21(h:pl≠[]):g51 (.tup (pl.map a70)) (.int 0)=some (a70 (pl.getD 0 0)):=by
 cases pl with
 |nil=>exact absurd rfl h|cons p r=>exact n72 (j:=0) rfl
theorem u30.p0(hp:u30 m pl):pl.getD 0 0 < m.toNat:=by
 have h:=hp.ne;have h2:=hp.lt;cases pl with
 |nil=>exact absurd rfl h|cons p r=>have:=h2 p Ê;show p < _;omega
def eqM(mk:List Int)(p0:Nat):D->Bool
 |.int p=>mk.getD p.toNat 0 == mk.getD p0 0|_=>false
theorem Z41(l:List Nat):(l.map a70).all (eqM mk p0)=l.all λp=>mk.getD p 0 == mk.getD p0 0:=by rw[List.all_map];rfl
theorem K10(k:Nat)(g:i90 m ps)(hp:u30 m pl){x:D}(hx:Row x lot)(hl:∀ n∈lot,n < ps.length)(z:Z):b60 T (k + 4) v00 [.d (C10 m ps),.d x,.d (.tup (pl.map a70))] z=some (.ok (.d (.bl (J90 ps m.toNat pl lot))) z):=by
 have hlen:=hp.len g.m6;refine W.ok (l20 (ps:=3) (ns:=4) (b:=n30) rfl rfl (-0) (Wo (A80 k g hx hl z) ?_))
 have ml:(c20 ps m.toNat lot).length=m.toNat:=s40;generalize hmk:c20 ps m.toNat lot=mk at ml;refine ip (by rw[Ì];simp only[most];omega) (I21 (λx=>.bl (eqM mk (pl.getD 0 0) x)) (λy hy=>?_) (a20 (A50 _ (eqM mk (pl.getD 0 0))) ?_ :))
 ·obtain⟨p,hp',rfl⟩:=Þ.mp hy;have:=hp.lt p hp';refine(a20 (o32 (mk:=mk) (p:=p) ∅) ?_ :)
  refine(a20 (O21 hp.ne) ?_ :);refine(a20 (o32 (mk:=mk) (by rw[ml];exact hp.p0)) ?_ :)
  exact⟨rfl,rfl⟩
 ·refine sb (b:=(pl.map a70).all (eqM mk (pl.getD 0 0))) ?_;rw[Z41,← hmk];rfl
theorem Z51(h:okD (.lst l)=true):y90 .eq (.lst l) (.lst [])=some l.isEmpty:=by
 show(if okD (.lst l)&&okD (.lst []) then some (eqD (.lst l) (.lst [])) else eqE (.lst l) (.lst []))=_;rw[h];cases l <;> rfl
theorem K20(l:List Nat):okD (.lst (l.map a70))=true:=by
 have e:l.map a70=(l.map λ(n:Nat)=>(n:Int)).map D.int:=by rw[ë];rfl
 rw[e];exact x01 _
end
def a92(l:List Nat):D:=.tup (l.map a70)
theorem add_l(h:a.length + b.length<=1000):H30 .add (.lst a) (.lst b)=some (.fr (a++b)):=by
 show(if a.length + b.length<=most then some (S.fr (a++b)) else none)=_;rw[if_pos (q00 h)]
theorem y21(h:a.length + b.length<=1000):H30 .add (.tup a) (.tup b)=some (.d (.tup (a++b))):=by
 show(if a.length + b.length<=most then some (S.d (.tup (a++b))) else none)=_;rw[if_pos (q00 h)]
theorem d21(n:Nat):∀ l:List Nat,memD (a70 n) (l.map a70)=decide (n∈l)
 |[]=>rfl
 |x::r=>by
  show((x:Int) == (n:Int) || memD (a70 n) (r.map a70))=_;rw[d21 n r,Í0,Ä0,beq_iff_eq,decide_eq_true_eq,decide_eq_true_eq,Á7];constructor
  ·rintro (h | h)
   ·exact .inl ∅
   ·exact .inr h
  ·rintro (h | h)
   ·exact .inl ∅
   ·exact .inr h
theorem s50(l:List Nat):B60 (l.map a70)=true:=by
 have e:l.map a70=(l.map λ(n:Nat)=>(n:Int)).map D.int:=by rw[ë];rfl
 obtain⟨h1,h2⟩:=J70 (l.map λ(n:Nat)=>(n:Int));unfold B60;rw[e,h1,h2];rfl
theorem X10{n:Nat}{l:List Nat}:F11 (a70 n) (l.map a70)=some (decide (n∈l)):=by
 unfold F11;rw[s50,d21];rfl
theorem y31(h0:0 < b):(z10 t b).1 * b=(z10 t b).2 * t:=by
 obtain⟨e1,e2⟩:=X00 (t:=t) h0;generalize (z10 t b).1=x at *
 generalize (z10 t b).2=y at *
 generalize ((gcd t b:Nat):Int)=k at *
 rw[e1,e2]
 grind
def tl:Sm->Sm
 |.seq _ r=>r|s=>s
structure Bs(n:Nat)(c:Int × Int):Prop where
 t:c.1.natAbs<=2 ^ n
 b0:0 < c.2
 b:c.2.natAbs<=2 ^ n
theorem y41{n m:Nat}{i j:Int}(hi:i.natAbs<=2 ^ n)(hj:j.natAbs<=2 ^ m):(i * j).natAbs<=2 ^ (n + m):=by
 rw[natAbs_mul,Nat.pow_add];exact Nat.mul_le_mul hi hj
theorem y51(h0:0 < b):(z10 t b).1.natAbs<=t.natAbs/\(z10 t b).2.natAbs<=b.natAbs:=by
 obtain⟨e1,e2⟩:=X00 (t:=t) h0;have g0:=x61 (t:=t) h0;generalize z10 t b=v at *
 generalize hg:gcd t b=g at *
 have g1:1<=g:=by omega
 constructor
 ·rw[e1,natAbs_mul,Int.natAbs_natCast];exact ß1 _ g1
 ·rw[e2,natAbs_mul,Int.natAbs_natCast];exact ß1 _ g1
theorem y61{n K:Nat}(h:n < K):b30 (.int n) K=true:=by
 show(decide (0<=(n:Int))&&decide ((n:Int) < (K:Int)))=true;rw[decide_eq_true ∅,decide_eq_true ∅];rfl
structure Rt(v:Int × Int)(t b:Int):Prop where
 b0:0 < v.2
 one:gcd v.1 v.2=1
 eq:v.1 * b=t * v.2
theorem Rt.low{t b:Int}(hb:0 < b):Rt (z10 t b) t b:=⟨x71 hb,Z01 hb,by rw[y31 hb,Int.mul_comm]⟩
theorem Rt.conv{v:Int × Int}{t b t' b':Int}(h:Rt v t b)(hb:0 < b)(e:t * b'=t' * b):Rt v t' b':=by
 refine⟨h.b0,h.one,Ï4 (a:=b) ∅ ?_⟩
 have:=h.eq
 calc v.1 * b' * b=(v.1 * b) * b':=by grind
  _=(t * b') * v.2:=by rw[this];grind
  _=t' * v.2 * b:=by rw[e];grind
theorem Rt.eqv{v w:Int × Int}{t b:Int}(hv:Rt v t b)(hw:Rt w t b)(hb:0 < b):v=w:=by
 have e:v.1 * w.2=w.1 * v.2:=by
  have h1:=hv.eq;have h2:=hw.eq;refine Ï4 (a:=b) ∅ ?_
  calc v.1 * w.2 * b=(v.1 * b) * w.2:=by grind
   _=(t * w.2) * v.2:=by rw[h1];grind
   _=w.1 * v.2 * b:=by rw[← h2];grind
 obtain⟨a,b'⟩:=i31 hv.b0 hw.b0 hv.one hw.one e;exact Prod.ext a b'
theorem Rt.add{v w:Int × Int}{t b t' b':Int}(hv:Rt v t b)(hw:Rt w t' b'):Rt (z10 (v.1 * w.2 + w.1 * v.2) (v.2 * w.2)) (t * b' + t' * b) (b * b'):=by
 have y:=mul_pos hv.b0 hw.b0;refine(Rt.low y).conv y ?_;have h1:=hv.eq;have h2:=hw.eq
 calc (v.1 * w.2 + w.1 * v.2) * (b * b')=(v.1 * b) * (w.2 * b') + (w.1 * b') * (v.2 * b):=by grind
  _=(t * b' + t' * b) * (v.2 * w.2):=by rw[h1,h2];grind
theorem Rt.mul{v w:Int × Int}{t b t' b':Int}(hv:Rt v t b)(hw:Rt w t' b'):Rt (z10 (v.1 * w.1) (v.2 * w.2)) (t * t') (b * b'):=by
 have y:=mul_pos hv.b0 hw.b0;refine(Rt.low y).conv y ?_;have h1:=hv.eq;have h2:=hw.eq
 calc v.1 * w.1 * (b * b')=(v.1 * b) * (w.1 * b'):=by grind
  _=t * t' * (v.2 * w.2):=by rw[h1,h2];grind
theorem IsC.rt{c:Int × Int}(h:IsC c):Rt c c.1 c.2:=⟨by have:=h.1;omega,h.2.2.2.2,rfl⟩
theorem Bs.up{n m:Nat}{c:Int × Int}(h:Bs n c)(hm:n<=m):Bs m c :=
 have e:=Nat.pow_le_pow_right (n:=2) (-0) hm
 ⟨â h.t e,h.b0,â h.b e⟩
theorem Bs.low{n:Nat}{t b:Int}(h0:0 < b)(ht:t.natAbs<=2 ^ n)(hb:b.natAbs<=2 ^ n):Bs n (z10 t b) :=
 ⟨â (y51 h0).1 ht,x71 h0,â (y51 h0).2 hb⟩
theorem Bs.mul{n:Nat}{c d:Int × Int}(hc:Bs n c)(hd:Bs n d):Bs (n + n) (z10 (c.1 * d.1) (c.2 * d.2)):=.low (mul_pos hc.b0 hd.b0) (y41 hc.t hd.t) (y41 hc.b hd.b)
theorem d31:∀ {K:Nat}{lot:List Nat},lot.Pairwise (· < ·)->(∀ n∈lot,n < K)->lot.length<=K:=λ{K lot} h1 h2=>by
 have:=(Ö6 (h1.imp λh=>Ô h) (λn hn=>ö.mpr (h2 n hn):lot ⊆ ì K))
 rwa [Â3] at this
theorem K30:∀ ns:List Int,o30 (ns.map D.int)=some ns
 |[]=>rfl
 |n::r=>by
  show(o30 (r.map D.int)).map (n::·)=_;rw[K30 r];rfl
theorem I91{ns:List Int}(h:ns.length < 1000):T01 [.lst (ns.map D.int)]=some (.fr (u60 ns)):=by
 show(match o30 (ns.map D.int) with | some ns=>if ns.length < 1000 then some (S.fr (u60 ns)) else none | none=>none)=_
 rw[K30];exact if_pos h
section
variable {m:Int}{ps cs:List (Int × Int)}{pl lot:List Nat}
theorem n50(k:Nat)(h8:ps.length<=8)(h1:lot.Pairwise (· < ·))(h2:∀ n∈lot,n < ps.length)(z:Z):b60 T (k + 7) l70 [.d (C10 m ps),.d (a92 lot)] z=some (.ok (.d .non) z):=by
 have hl:=d31 h1 h2;have hb:(lot.map a70).all (λx=>b30 x ((ps.map pr).length:Nat))=true:=by
  rw[Ä7];intro x hx;obtain⟨n,hn,rfl⟩:=Þ.mp hx;exact y61 (by rw[Ì];exact h2 n hn)
 refine W.ok (l20 (ps:=2) (ns:=2) (b:=l90) rfl rfl (-0) ?_)
 have e:b60 T (k + 6) J30 [.d (C10 m ps),.d (a92 lot)] z=some (.ok (.d (.bl true)) z):=by
  refine W.ok (l20 (ps:=2) (ns:=2) (b:=w80) rfl rfl (-0) (Wo (j50 k ((ps.map pr).length:Nat) (x:=a92 lot) (decide_eq_true (by rw[Ì];omega)) z) (sd ?_)))
  show S.d (.bl ((lot.map a70).all (λx=>b30 x ((ps.map pr).length:Nat))&&D90 (lot.map a70)))=_;rw[hb,x91 h1];rfl
 exact Wo e (sd rfl)
theorem R40(k:Nat)(g:i90 m ps)(h1:lot.Pairwise (· < ·))(h2:∀ n∈lot,n < ps.length)(z:Z):b60 T (k + 9) f60 [.d (C10 m ps),.d (a92 lot)] z=some (.ok (.fr (u60 (c20 ps m.toNat lot))) z):=by
 have h8:=g.len;refine W.ok (l20 (ps:=2) (ns:=5) (b:=i60) rfl rfl (-0) (Wo (g40 k z g.web) (Wo (n50 (k + 1) h8 h1 h2 z) ?_)))
 refine ip (B:=False) (c:=2 < 5/\3 < 5/\4 < 5) (-0) (Wo (A80 (k + 5) g (Row.t lot) h2 z) ?_)
 refine(a20 (o:=T01 [.lst ((c20 ps m.toNat lot).map D.int)]) (I91 (by rw[s40];have:=g.m6;omega)) ?_ :)
 exact sd rfl
end
abbrev pf(ps:List (Int × Int))(i:Nat):Int × Int:=ps.getD i (0,0)
section
variable {m:Int}{ps cs:List (Int × Int)}{pl:List Nat}
theorem o42{i:Nat}(h:i < ps.length):pf ps i∈ps:=by
 rw[pf,Ó,á h];exact Æ9 h
theorem i90.ab(g:i90 m ps){n:Nat}(hn:n < ps.length):tA ps n < tB ps n/\tB ps n < m.toNat/\pf ps n=((tA ps n:Int),(tB ps n:Int)):=by
 have:=g.tie _ (o42 hn);refine⟨by show(pf ps n).1.toNat < (pf ps n).2.toNat;omega,by show(pf ps n).2.toNat < _;omega,Prod.ext ?_ ?_⟩
 ·show(pf ps n).1=((pf ps n).1.toNat:Int);omega
 ·show(pf ps n).2=((pf ps n).2.toNat:Int);omega
end
def R50(F:List Nat)(a b:Nat):List Nat:=if a∈F/\b ∉ F then F++[b] else F
theorem d41(h:x∈F):x∈R50 F a b:=by
 unfold R50;split
 ·exact Æ6 _ h
 ·exact h
theorem X20(F:List Nat)(a b:Nat):(R50 F a b=F/\(a∈F->b∈F))∨F.length < (R50 F a b).length:=by
 unfold R50;split
 ·exact .inr (by rw[Y91];omega)
 ·rename_i h;exact .inl ⟨rfl,λha=>Í5 λhb=>h ⟨ha,hb⟩⟩
def Pls(m:Nat)(F:List Nat):Prop:=F.Nodup/\∀ x∈F,x < m
theorem l10:∀ {m:Nat}{F:List Nat},Pls m F->F.length<=m
 |0,[],_=>Ë _|0,x::_,h=>absurd (h.2 x Ê) (Õ8 _)
 |m + 1,F,h=>by
  have h1:(F.erase m).length<=m:=l10 ⟨h.1.erase m,λx hx=>by
   have h2:=h.2 x (List.mem_of_mem_erase hx);have h3:x≠m:=(List.Nodup.mem_erase_iff h.1).mp hx |>.1;omega⟩
  by_cases hm:m∈F
  ·rw[List.length_erase_of_mem hm] at h1;omega
  ·rw[List.erase_of_not_mem hm] at h1;omega
theorem w90(h:Pls m F)(hb:b < m):Pls m (R50 F a b):=by
 unfold R50;split
 ·rename_i hh;refine⟨List.nodup_append.mpr ⟨h.1,by simp,λx hx y hy=>?_⟩,λx hx=>?_⟩
  ·rw[ß.mp hy];exact λe=>hh.2 (e ▸ hx)
  ·rcases Ã1.mp hx with hx | hx
   ·exact h.2 x hx
   ·rw[ß.mp hx];exact hb
 ·exact h
theorem O31{F:List Nat}{a b:Nat}{f:Nat->Int}{v:Int}(h:∀ x∈F,f x=v)(e:f a=f b):∀ x∈R50 F a b,f x=v:=by
 unfold R50;split
 ·rename_i hh;intro x hx;rcases Ã1.mp hx with hx | hx
  ·exact h x hx
  ·rw[ß.mp hx,← e];exact h a hh.1
 ·exact h
section
variable (ps:List (Int × Int))
def spr(F:List Nat)(n:Nat):List Nat:=R50 (R50 F (tA ps n) (tB ps n)) (tB ps n) (tA ps n)
def rnd(lot:List Nat)(F:List Nat):List Nat:=lot.foldl (spr ps) F
def l30(lot:List Nat):Nat->List Nat->List Nat
 |0,F=>F|j + 1,F=>l30 lot j (rnd ps lot F)
variable {ps:List (Int × Int)}
theorem o52(F:List Nat)(n:Nat):(spr ps F n=F/\(tA ps n∈F↔tB ps n∈F))∨F.length < (spr ps F n).length:=by
 unfold spr;rcases X20 F (tA ps n) (tB ps n) with ⟨h1,h2⟩ | h1
 ·rw[h1];rcases X20 F (tB ps n) (tA ps n) with ⟨h3,h4⟩ | h3
  ·exact .inl ⟨h3,h2,h4⟩
  ·exact .inr h3
 ·rcases X20 (R50 F (tA ps n) (tB ps n)) (tB ps n) (tA ps n) with ⟨h3,_⟩ | h3
  ·rw[h3];exact .inr h1
  ·exact .inr (Nat.lt_trans h1 h3)
theorem y71:∀ (lot F:List Nat),(rnd ps lot F=F/\∀ n∈lot,(tA ps n∈F↔tB ps n∈F))∨F.length < (rnd ps lot F).length
 |[],F=>.inl ⟨rfl,λ_ h=>nomatch h⟩
 |n::r,F=>by
  show(rnd ps r (spr ps F n)=F/\_)∨F.length < (rnd ps r (spr ps F n)).length;rcases o52 (ps:=ps) F n with ⟨h1,h2⟩ | h1
  ·rw[h1];rcases y71 r F with ⟨h3,h4⟩ | h3
   ·refine .inl ⟨h3,λk hk=>?_⟩;rcases Ü.mp hk with rfl | hk
    ·exact h2
    ·exact h4 k hk
   ·exact .inr h3
  ·rcases y71 r (spr ps F n) with ⟨h3,_⟩ | h3
   ·rw[h3];exact .inr h1
   ·exact .inr (Nat.lt_trans h1 h3)
theorem y81:∀ {lot F:List Nat},Pls m F->(∀ n∈lot,tA ps n < m/\tB ps n < m)->Pls m (rnd ps lot F)
 |[],_,h,_=>h|n::r,F,h,hl=>y81 (lot:=r) (F:=spr ps F n) (w90 (w90 h (hl n Ê).2) (hl n Ê).1) λk hk=>hl k (È _ hk)
theorem o62{f:Nat->Int}{v:Int}:∀ {lot F:List Nat},(∀ x∈F,f x=v)->(∀ n∈lot,f (tA ps n)=f (tB ps n))->∀ x∈rnd ps lot F,f x=v
 |[],_,h,_=>h|n::r,F,h,hl=>o62 (lot:=r) (F:=spr ps F n) (O31 (O31 h (hl n Ê)) (hl n Ê).symm) λk hk=>hl k (È _ hk)
theorem y91:∀ {lot F:List Nat}{x:Nat},x∈F->x∈rnd ps lot F
 |[],_,_,h=>h|n::r,F,x,h=>y91 (lot:=r) (F:=spr ps F n) (d41 (d41 h))
theorem x00(hl:∀ n∈lot,tA ps n < m/\tB ps n < m):∀ {j:Nat}{F:List Nat},Pls m F->Pls m (l30 ps lot j F)
 |0,_,h=>h|j + 1,_,h=>x00 hl (j:=j) (y81 h hl)
theorem z01{f:Nat->Int}{v:Int}{lot:List Nat}(hl:∀ n∈lot,f (tA ps n)=f (tB ps n)):∀ {j:Nat}{F:List Nat},(∀ x∈F,f x=v)->∀ x∈l30 ps lot j F,f x=v
 |0,_,h=>h|j + 1,_,h=>z01 hl (j:=j) (o62 h hl)
theorem K40:∀ {j:Nat}{F:List Nat}{x:Nat},x∈F->x∈l30 ps lot j F
 |0,_,_,h=>h|j + 1,_,_,h=>K40 (j:=j) (y91 h)
theorem X30:∀ (j:Nat) (F:List Nat),(∀ n∈lot,(tA ps n∈l30 ps lot j F↔tB ps n∈l30 ps lot j F))∨F.length + j<=(l30 ps lot j F).length
 |0,F=>.inr (Ë _)
 |j + 1,F=>by
  show(∀ n∈lot,(tA ps n∈l30 ps lot j (rnd ps lot F)↔tB ps n∈l30 ps lot j (rnd ps lot F)))∨F.length + (j + 1)<=(l30 ps lot j (rnd ps lot F)).length;rcases y71 (ps:=ps) lot F with ⟨h1,h2⟩ | h1
  ·have e:∀ i,l30 ps lot i F=F:=λi=>by
    induction i with
    |zero=>rfl|succ i ih=>show l30 ps lot i (rnd ps lot F)=F;rw[h1];exact ih
   refine .inl ?_;rw[h1,e];exact h2
  ·rcases X30 (lot:=lot) j (rnd ps lot F) with h2 | h2
   ·exact .inl h2
   ·exact .inr ∅
theorem z11{m:Int}{pl lot:List Nat}(g:i90 m ps)(hp:u30 m pl)(hl:∀ n∈lot,n < ps.length):(∀ p∈pl,p∈l30 ps lot m.toNat [pl.getD 0 0])↔J90 ps m.toNat pl lot=true:=by
 have hr:∀ n∈lot,tA ps n < m.toNat/\tB ps n < m.toNat:=λn hn=>g.rng n (hl n hn);have hpm:∀ p∈pl,p < m.toNat:=λp h=>by have:=hp.lt p h;omega
 have p0:pl.getD 0 0 < m.toNat:=hp.p0;rw[d11 g.rng hpm hl];constructor
 ·exact λh f hf p hpp=>z01 hf (λx hx=>by rw[ß.mp hx]) p (h p hpp)
 ·intro h p hpp;have cl:∀ n∈lot,(tA ps n∈l30 ps lot m.toNat [pl.getD 0 0]↔tB ps n∈l30 ps lot m.toNat [pl.getD 0 0]):=by
   rcases X30 (ps:=ps) (lot:=lot) m.toNat [pl.getD 0 0] with h1 | h1
   ·exact h1
   ·have:=l10 (x00 hr (j:=m.toNat) (F:=[pl.getD 0 0]) ⟨by simp,λx hx=>by rw[ß.mp hx];exact p0⟩)
    simp only[à,Â5] at h1;omega
  have h2:=h (λx=>if x∈l30 ps lot m.toNat [pl.getD 0 0] then 1 else 0) (λn hn=>by
   by_cases hx:tA ps n∈l30 ps lot m.toNat [pl.getD 0 0]
   ·rw[if_pos hx,if_pos ((cl n hn).mp hx)]
   ·rw[if_neg hx,if_neg λhy=>hx ((cl n hn).mpr hy)]) p hpp
  rw[if_pos (K40 (ß.mpr rfl))] at h2;exact Í5 λhx=>by rw[if_neg hx] at h2;cases h2
end
def J01(k:Nat):List Nat->List Nat
 |[]=>[k]|y::r=>if y < k then y::J01 k r else k::y::r
def s60:List Nat->List Nat
 |[]=>[]|k::r=>J01 k (s60 r)
theorem A90(k:Nat):∀ l,(J01 k l).Perm (k::l)
 |[]=>.refl _
 |y::r=>by
  unfold J01;split
  ·exact((A90 k r).cons y).trans (.swap _ _ _)
  ·exact .refl _
theorem u40:∀ l,(s60 l).Perm l
 |[]=>.refl _|k::r=>(A90 k _).trans ((u40 r).cons k)
theorem d51(k:Nat):∀ l:List Nat,j21 (a70 k) (l.map a70)=(J01 k l).map a70
 |[]=>rfl
 |y::r=>by
  unfold J01;show(if MySort.g70 [(y:Int)] [(k:Int)] then a70 y::j21 (a70 k) (r.map a70) else a70 k::a70 y::r.map a70)=_;rw[A22,d51 k r];by_cases h:y < k
  ·rw[decide_eq_true (by omega:(y:Int) < k),if_pos rfl,if_pos h];rfl
  ·rw[decide_eq_false (by omega:¬ (y:Int) < k),if_neg (-0),if_neg h];rfl
theorem R60:∀ l:List Nat,j00 (l.map a70)=(s60 l).map a70
 |[]=>rfl
 |k::r=>by
  show j21 (a70 k) (j00 (r.map a70))=_;rw[R60 r,d51];rfl
theorem X40(h:l.length < 64):bfD .sorted [.lst (l.map a70)]=some (.fr ((s60 l).map a70)):=by
 have ok:h00 (l.map a70)=true:=by
  refine Î.mpr λx hx=>?_;obtain⟨p,_,rfl⟩:=Þ.mp hx;show(true&&(true&&(l.map a70).all (e60 (a70 p))))=true;refine Î.mpr λy hy=>?_;obtain⟨q,_,rfl⟩:=Þ.mp hy;exact J80 p q
 show(if (l.map a70).length < 64/\h00 (l.map a70)=true then some (S.fr (j00 (l.map a70))) else _)=_;rw[if_pos ⟨by rw[Ì];exact h,ok⟩,R60]
theorem K50{n:Nat}{l:List Nat}:(F11 (a70 n) (l.map a70)).map (!·)=some (!decide (n∈l)):=by rw[X10];rfl
def o72:D->Nat
 |.int i=>i.toNat|_=>0
section
variable {m:Int}{ps:List (Int × Int)}{pl lot:List Nat}
abbrev wiE(m:Int)(ps:List (Int × Int))(lot:List Nat)(p0:Nat)(F:List Nat)(o4 o5 o6 o7:Option S):Env:=[some (.d (C10 m ps)),some (.d (.tup (lot.map a70))),some (.d (a70 p0)),some (.fr (F.map a70)),o4,o5,o6,o7]
theorem d61:F.map a70++[a70 b]=(F++[b]).map a70:=by rw[Ê5];rfl
theorem B00(k:Nat)(g:i90 m ps)(hl:∀ n∈lot,n < ps.length){p0:Nat}(h0:p0 < m.toNat)(z:Z):b60 T (k + 3) p50 [.d (C10 m ps),.d (.tup (lot.map a70)),.d (a70 p0)] z=some (.ok (.d (.tup ((s60 (l30 ps lot m.toNat [p0])).map a70))) z):=by
 have m6:=g.m6;have m1:=g.m1;have hr:∀ n∈lot,tA ps n < m.toNat/\tB ps n < m.toNat:=λn hn=>g.rng n (hl n hn);refine W.ok (l20 (ps:=3) (ns:=8) (b:=p70) rfl rfl (-0) ?_)
 refine(n52 (.fr [a70 p0]) (wiE m ps lot p0 [p0] none none none none) ?_ ?_ ?_ :)
 ·exact⟨rfl,rfl⟩
 ·rfl
 refine(a20 (J60 (m:=m) ∅ ∅) ?_ :)
 refine W50 (λxs ρ z1=>z1=z/\∃ (F:List Nat) (o4 o5 o6 o7:Option S),Pls m.toNat F/\l30 ps lot xs.length F=l30 ps lot m.toNat [p0]/\ρ=wiE m ps lot p0 F o4 o5 o6 o7) _ ⟨rfl,[p0],none,none,none,none,⟨by simp,λx hx=>by rw[ß.mp hx];exact h0⟩,by rw[Ì,Â3],rfl⟩ ?_ ?_
 ·rintro x r ρ z1 ⟨rfl,F,o4,o5,o6,o7,hF,e,rfl⟩;refine W50 (λxs ρ z2=>z2=z1/\∃ (l G:List Nat) (o4 o5 o6 o7:Option S),xs=l.map a70/\(∀ n∈l,n < ps.length)/\Pls m.toNat G/\rnd ps l G=rnd ps lot F/\ρ=wiE m ps lot p0 G o4 o5 o6 o7) _ ⟨rfl,lot,F,some (.d x),o5,o6,o7,rfl,hl,hF,rfl,(itE (Row.t lot).ba).trans rfl⟩ ?_ ?_
  ·rintro y r' ρ z2 ⟨rfl,l,G,o4,o5,o6,o7,e1,hl1,hG,e2,rfl⟩;cases l with
   |nil=>cases e1
   |cons n l =>
    cases e1;have hn:=hl1 n Ê;have ab:=(g.ab hn).2.2;have rb:=g.rng n hn;have len:=l10 hG;refine(a20 (show g51 (.tup (ps.map pr)) (.int n)=some (pr ((tA ps n:Int),(tB ps n:Int))) from by rw[O11 hn];exact congrArg (λx=>some (pr x)) ab) ?_ :)
    refine Y41 (λρ z3=>z3=z2/\∃ (o4 o5:Option S),ρ=wiE m ps lot p0 (R50 G (tA ps n) (tB ps n)) o4 o5 (some (.d (a70 (tA ps n)))) (some (.d (a70 (tB ps n))))) ?_ ?_
    ·have no:∀ h:¬ (tA ps n∈G/\tB ps n ∉ G),R50 G (tA ps n) (tB ps n)=G:=λh=>if_neg h;refine(a20 (X10 (n:=tA ps n) (l:=G)) ?_ :);refine ib (b:=decide (tA ps n∈G)) (λh1=>?_) λh1=>⟨rfl,_,_,by rw[no λh=>of_decide_eq_false h1 h.1];rfl⟩
     refine(a20 (K50 (n:=tB ps n) (l:=G)) ?_ :);refine ib (b:=!decide (tB ps n∈G)) (λh2=>?_) λh2=>⟨rfl,_,_,by rw[no λh=>by rw[decide_eq_false h.2] at h2;cases h2];rfl⟩
     refine(a20 (add_l (a:=G.map a70) (b:=[a70 (tB ps n)]) (by rw[Ì];show G.length + 1<=1000;omega)) ?_ :)
     rw[d61,show R50 G (tA ps n) (tB ps n)=G++[tB ps n] from if_pos ⟨of_decide_eq_true h1,by simpa using h2⟩]
     exact⟨rfl,_,_,rfl⟩
    ·rintro ρ z3 ⟨rfl,o4,o5,rfl⟩;have hG1:=w90 (a:=tA ps n) (b:=tB ps n) hG rb.2;have Y91:=l10 hG1;have fin:∀ (ρ:Env) (G':List Nat) (o4 o5 o6 o7:Option S),G'=spr ps G n->ρ=wiE m ps lot p0 G' o4 o5 o6 o7->(z3=z3/\∃ (l' G:List Nat) (o4 o5 o6 o7:Option S),List.map a70 l=l'.map a70/\(∀ n∈l',n < ps.length)/\Pls m.toNat G/\rnd ps l' G=rnd ps lot F/\ρ=wiE m ps lot p0 G o4 o5 o6 o7):=λρ G' o4 o5 o6 o7 e he=>⟨rfl,l,G',o4,o5,o6,o7,rfl,λk hk=>hl1 k (È _ hk),by rw[e];exact w90 hG1 rb.1,by rw[e];exact e2,he⟩
     unfold spr at fin;generalize R50 G (tA ps n) (tB ps n)=G1 at fin hG1 Y91;have no:∀ h:¬ (tB ps n∈G1/\tA ps n ∉ G1),G1=R50 G1 (tB ps n) (tA ps n):=λh=>(if_neg h).symm;refine(a20 (X10 (n:=tB ps n) (l:=G1)) ?_ :);refine ib (b:=decide (tB ps n∈G1)) (λh1=>?_) λh1=>fin _ G1 _ _ _ _ (no λh=>of_decide_eq_false h1 h.1) rfl;refine(a20 (K50 (n:=tA ps n) (l:=G1)) ?_ :);refine ib (b:=!decide (tA ps n∈G1)) (λh2=>?_) λh2=>fin _ G1 _ _ _ _ (no λh=>by rw[decide_eq_false h.2] at h2;cases h2) rfl
     refine(a20 (add_l (a:=G1.map a70) (b:=[a70 (tA ps n)]) (by rw[Ì];show G1.length + 1<=1000;omega)) ?_ :)
     rw[d61];exact fin _ (G1++[tA ps n]) _ _ _ _ (if_pos ⟨of_decide_eq_true h1,by simpa using h2⟩).symm rfl
  ·rintro ρ z2 ⟨rfl,l,G,o4,o5,o6,o7,e1,hl1,hG,e2,rfl⟩;cases l with
   |cons n l=>cases e1
   |nil=>exact⟨rfl,G,_,_,_,_,hG,by rw[show G=rnd ps lot F from e2];exact e,rfl⟩
 ·rintro ρ z1 ⟨rfl,F,o4,o5,o6,o7,hF,e,rfl⟩;have len:=l10 hF;have e:F=l30 ps lot m.toNat [p0]:=e;refine(a20 (X40 (l:=F) ∅) ?_ :)
  rw[← e];exact sd rfl
theorem R70(k:Nat)(g:i90 m ps)(hp:u30 m pl)(hl:∀ n∈lot,n < ps.length)(z:Z):b60 T (k + 4) A30 [.d (C10 m ps),.d (.tup (lot.map a70)),.d (.tup (pl.map a70))] z=some (.ok (.d (.bl (J90 ps m.toNat pl lot))) z):=by
 have hlen:=hp.len g.m6;refine W.ok (l20 (ps:=3) (ns:=4) (b:=p80) rfl rfl (-0) ?_)
 refine(a20 (O21 hp.ne) ?_ :);refine Wo (B00 k g hl hp.p0 z) ?_;refine ip (by rw[Ì];simp only[most];omega) (N71 (λx=>!decide (o72 x∈l30 ps lot m.toNat [pl.getD 0 0])) (λx=>x) (λy hy=>?_) ?_)
 ·obtain⟨p,hp',rfl⟩:=Þ.mp hy;refine(a20 (K50 (n:=p) (l:=s60 (l30 ps lot m.toNat [pl.getD 0 0]))) ?_ :);refine⟨?_,rfl,λ_=>⟨rfl,rfl⟩⟩;rw[show decide (p∈s60 (l30 ps lot m.toNat [pl.getD 0 0]))=decide (o72 (a70 p)∈l30 ps lot m.toNat [pl.getD 0 0]) from by
   rw[Í0,decide_eq_true_eq,decide_eq_true_eq,(u40 _).mem_iff];rfl]
 ·rw[map_id',List.filter_map];refine(a20 (Z51 (K20 _)) ?_ :);refine sb ?_;rw[Í0,← z11 g hp hl,List.isEmpty_map,Ì1,Ç6];constructor
  ·intro h p hpp;have h1:¬ (!decide (p∈l30 ps lot m.toNat [pl.getD 0 0]))=true:=h p hpp;simpa using h1
  ·intro h p hpp;show ¬ (!decide (p∈l30 ps lot m.toNat [pl.getD 0 0]))=true;simpa using h p hpp
end
theorem eq_self(h:okD x=true)(hs:L51 .seq x=false):y90 .eq x x=some true:=by
 show(if okD x&&okD x then some (eqD x x) else eqE x x)=some true;rw[h];cases x with
 |non=>rfl|bl b=>show some (b == b)=_;rw[beq_self_eq_true]|int i=>show some (i == i)=_;rw[beq_self_eq_true]|str s=>show some (s == s)=_;rw[beq_self_eq_true]|tup l=>cases hs
 |lst l=>cases hs
 |dct=>rfl
theorem K60:∀ {l:List D}{d:D},d∈p10 l l->∃ x∈l,d=.tup [x,x]
 |x::r,d,h=>by
  rcases Ü.mp h with h | h
  ·exact⟨x,Ê,h⟩
  ·obtain⟨u,hu,e⟩:=K60 h;exact⟨u,È _ hu,e⟩
mutual
noncomputable def flat:Nat->D->Bool
 |_,.non=>true|_,.bl _=>true|_,.int _=>true|_,.str _=>false|0,.tup _=>false|d + 1,.tup l=>decide (l.length<=1000)&&J11 d l|_,.lst _=>false|_,.dct=>false
noncomputable def J11:Nat->List D->Bool
 |_,[]=>true|d,x::r=>flat d x&&J11 d r
end
theorem R80:∀ {d:Nat}{l:List D}{x:D},J11 d l=true->x∈l->flat d x=true
 |d,y::r,x,h,hx=>by
  unfold J11 at h;rw[Á] at h;rcases Ü.mp hx with rfl | hx
  ·exact h.1
  ·exact R80 h.2 hx
theorem z21:∀ (d k:Nat) (x:D) (z:Z),flat d x=true->b60 T (k + d + 3) f70 [.d x,.d x] z=some (.ok (.d (.bl true)) z):=by
 have one:∀ (k:Nat) (x:D) (z:Z),okD x=true->L51 .seq x=false->b60 T (k + 3) f70 [.d x,.d x] z=some (.ok (.d (.bl true)) z):=λk x z h hs=>by
  refine W.ok (l20 (ps:=2) (ns:=2) (b:=i70) rfl rfl (-0) (ie hs ?_))
  refine(a20 (eq_self h hs) ?_ :);cases x with
  |tup l=>cases hs
  |lst l=>cases hs
  |_=>exact sb rfl
 intro d
 induction d with
 |zero =>
  intro k x z h;cases x with
  |non=>exact one k _ z rfl rfl|bl b=>exact one k _ z rfl rfl|int i=>exact one k _ z rfl rfl|_=>unfold flat at h;cases h
 |succ d ih =>
  intro k x z h;cases x with
  |non=>exact one _ _ z rfl rfl|bl b=>exact one _ _ z rfl rfl|int i=>exact one _ _ z rfl rfl
  |tup l =>
   unfold flat at h;rw[Á,decide_eq_true_eq] at h;refine W.ok (l20 (ps:=2) (ns:=2) (b:=i70) rfl rfl (-0) ?_)
   refine ie (b:=!((l.length:Int) == (l.length:Int))) (by rw[beq_self_eq_true];rfl) ?_
   refine ip (c:=(p10 l l).length<=most) (â (s30 _ _) (q00 h.1)) (I21 (λ_=>.bl true) (λq hq=>?_) (a20 (A50 (p10 l l) λ_=>true) ?_ :))
   ·obtain⟨x,hx,rfl⟩:=K60 hq;exact Wo (ih k x z (R80 h.2 hx)) ⟨rfl,rfl⟩
   ·exact sb (b:=(p10 l l).all λ_=>true) (Î.mpr λ_ _=>rfl)
  |_=>unfold flat at h;cases h
open L2 (D K90)
section
variable {ps:List (Int × Int)}{m:Int}{lot:List Nat}
theorem d71(g:i90 m ps)(hl:∀ n∈lot,n < ps.length){p q:Nat}(hp:p < m.toNat)(hq:q < m.toNat):q∈l30 ps lot m.toNat [p]↔(c20 ps m.toNat lot).getD q 0=(c20 ps m.toNat lot).getD p 0:=by
 have hr:∀ n∈lot,tA ps n < m.toNat/\tB ps n < m.toNat:=λn hn=>g.rng n (hl n hn);have hpm:∀ x∈[p,q],x < m.toNat:=λx h=>by
  rcases Ü.mp h with rfl | h
  ·exact hp
  ·rw[ß.mp h];exact hq
 have e:J90 ps m.toNat [p,q] lot=true↔(c20 ps m.toNat lot).getD q 0=(c20 ps m.toNat lot).getD p 0:=by
  unfold J90 Z21;simp
 rw[← e,d11 g.rng hpm hl];constructor
 ·intro h f hf x hx;show f x=f p;rcases Ü.mp hx with rfl | hx
  ·rfl
  ·rw[ß.mp hx];exact z01 hf (λx hx=>by rw[ß.mp hx]) q h
 ·intro h;have cl:∀ n∈lot,(tA ps n∈l30 ps lot m.toNat [p]↔tB ps n∈l30 ps lot m.toNat [p]):=by
   rcases X30 (ps:=ps) (lot:=lot) m.toNat [p] with h1 | h1
   ·exact h1
   ·have:=l10 (x00 hr (j:=m.toNat) (F:=[p]) ⟨by simp,λx hx=>by rw[ß.mp hx];exact hp⟩)
    simp only[à,Â5] at h1;omega
  have h2:=h (λx=>if x∈l30 ps lot m.toNat [p] then 1 else 0) (λn hn=>by
   by_cases hx:tA ps n∈l30 ps lot m.toNat [p]
   ·rw[if_pos hx,if_pos ((cl n hn).mp hx)]
   ·rw[if_neg hx,if_neg λhy=>hx ((cl n hn).mpr hy)]) q (by simp)
  have h2:(if q∈l30 ps lot m.toNat [p] then(1:Int) else 0)=if p∈l30 ps lot m.toNat [p] then 1 else 0:=h2;rw[if_pos (K40 (ß.mpr rfl))] at h2;exact Í5 λhx=>by rw[if_neg hx] at h2;cases h2
theorem z31(k:Nat):∀ l:List Nat,l.Pairwise (·<=·)->(J01 k l).Pairwise (·<=·)
 |[],_=>by unfold J01;exact Þ6 _ _
 |y::r,h=>by
  obtain⟨h1,h2⟩:=Ã9.mp h;unfold J01;split
  ·refine Ã9.mpr ⟨λx hx=>?_,z31 k r h2⟩;rcases Ü.mp ((A90 k r).mem_iff.mp hx) with rfl | hx
   ·omega
   ·exact h1 x hx
  ·refine Ã9.mpr ⟨λx hx=>?_,h⟩;rcases Ü.mp hx with rfl | hx
   ·omega
   ·have:=h1 x hx;omega
theorem d81:∀ l:List Nat,(s60 l).Pairwise (·<=·)
 |[]=>.nil|k::r=>z31 k _ (d81 r)
theorem Z61(g:i90 m ps)(hl:∀ n∈lot,n < ps.length){p:Nat}(hp:p < m.toNat):s60 (l30 ps lot m.toNat [p])=(ì m.toNat).filter λq=>(c20 ps m.toNat lot).getD q 0 == (c20 ps m.toNat lot).getD p 0:=by
 have hr:∀ n∈lot,tA ps n < m.toNat/\tB ps n < m.toNat:=λn hn=>g.rng n (hl n hn);have pl:=x00 (ps:=ps) hr (j:=m.toNat) (F:=[p]) ⟨by simp,λx hx=>by rw[ß.mp hx];exact hp⟩
 have nd:((ì m.toNat).filter λq=>(c20 ps m.toNat lot).getD q 0 == (c20 ps m.toNat lot).getD p 0).Nodup:=Å4 _ List.nodup_range;refine Ã4 (le:=(·<=·)) (λa b _ _ h1 h2=>Nat.le_antisymm h1 h2) (d81 _) (Å4 _ List.pairwise_le_range) ((u40 _).trans ((È4 pl.1 nd).mpr λx=>?_));rw[Ô2,Î8,beq_iff_eq];constructor
 ·exact λh=>⟨pl.2 x h,(d71 g hl hp (pl.2 x h)).mp h⟩
 ·exact λ⟨h1,h2⟩=>(d71 g hl hp h1).mpr h2
end
def okK(g:List Nat):Bool:=decide (ST.blocks (ST.s70 (ST.blocks g))=ST.blocks g)&&h00 ((ded (ST.blocks g)).map ST.tD)&&A51 (j00 ((ded (ST.blocks g)).map ST.tD)) (u60 (g.map λ(n:Nat)=>(n:Int)))&&(u60 (g.map λ(n:Nat)=>(n:Int))).all (flat 1)&&decide ((u60 (g.map λ(n:Nat)=>(n:Int))).length<=6)
theorem z41:((ì 7).all λn=>(ST.p30 n).all okK)=true:=by decide +kernel
theorem z51{f:Int->Int}:∀ (gs:List (Int × List Int)) (m p:Int),(∀ g∈gs,f g.1=f m->g.1=m)->K90 (gs.map λg=>(f g.1,g.2)) (f m) p=(K90 gs m p).map λg=>(f g.1,g.2)
 |[],_,_,_=>rfl
 |g::r,m,p,h=>by
  show(if f g.1=f m then(f g.1,g.2++[p])::r.map (λg=>(f g.1,g.2)) else(f g.1,g.2)::K90 (r.map λg=>(f g.1,g.2)) (f m) p)=(if g.1=m then(g.1,g.2++[p])::r else g::K90 r m p).map λg=>(f g.1,g.2);by_cases e:g.1=m
  ·rw[if_pos e,if_pos (by rw[e]),Â2]
  ·rw[if_neg e,if_neg λq=>e (h g Ê q),Â2,z51 r m p λx hx=>h x (È _ hx)]
theorem Z71{gs:List (Int × List Int)}{m p:Int}:∀ {x},x∈K90 gs m p->x.1=m∨∃ g∈gs,g.1=x.1:=by
 induction gs with
 |nil=>intro x h;rw[ß.mp h];exact .inl rfl
 |cons g r ih =>
  intro x h;unfold K90 at h;split at h
  ·rcases Ü.mp h with rfl | h
   ·exact .inr ⟨g,Ê,rfl⟩
   ·exact .inr ⟨x,È _ h,rfl⟩
  ·rcases Ü.mp h with rfl | h
   ·exact .inr ⟨x,Ê,rfl⟩
   ·rcases ih h with h | ⟨g',h1,h2⟩
    ·exact .inl h
    ·exact .inr ⟨g',È _ h1,h2⟩
theorem z61{f:Int->Int}{A:Int->Prop}(inj:∀ a b,A a->A b->f a=f b->a=b):∀ (ns:List Int) (gs:List (Int × List Int)) (p:Nat),(∀ x∈ns,A x)->(∀ g∈gs,A g.1)->Z20 (gs.map λg=>(f g.1,g.2)) p (ns.map f)=(Z20 gs p ns).map λg=>(f g.1,g.2)
 |[],_,_,_,_=>rfl
 |n::r,gs,p,h1,h2=>by
  rw[Â2];show Z20 (K90 (gs.map λg=>(f g.1,g.2)) (f n) p) (p + 1) (r.map f)=(Z20 (K90 gs n p) (p + 1) r).map _;rw[z51 gs n p λg hg e=>inj _ _ (h2 g hg) (h1 n Ê) e];refine z61 inj r _ _ (λx hx=>h1 x (È _ hx)) λg hg=>?_;rcases Z71 hg with e | ⟨g',h3,e⟩
  ·rw[e];exact h1 n Ê
  ·rw[← e];exact h2 g' h3
theorem d91(mk:List Int):u60 mk=u60 ((ST.s70 mk).map λ(n:Nat)=>(n:Int)):=by
 have e:((ST.s70 mk).map λ(n:Nat)=>(n:Int))=mk.map λx=>((mk.idxOf x:Nat):Int):=by
  unfold ST.s70;rw[ë];rfl
 have h:=z61 (f:=λx=>((mk.idxOf x:Nat):Int)) (A:=λx=>x∈mk) (λa b ha hb q=>by
  have q:mk.idxOf a=mk.idxOf b:=by have:((mk.idxOf a:Nat):Int)=(mk.idxOf b:Nat):=q;omega
  have h1:=Ò0 (Ã0 ha);have h2:=Ò0 (Ã0 hb);rw[← h1,← h2]
  congr 1) mk [] 0 (λx hx=>hx) (λg hg=>nomatch hg)
 unfold u60;rw[e];have h:Z20 [] 0 (mk.map λx=>((mk.idxOf x:Nat):Int))=(Z20 [] 0 mk).map λg=>(((mk.idxOf g.1:Nat):Int),g.2):=h;rw[h,ë];rfl
theorem i61(mk:List Int):ST.blocks (ST.s70 mk)=(ì mk.length).map λp=>((ì mk.length).filter λq=>mk.getD q 0 == mk.getD p 0).map λ(n:Nat)=>(n:Int):=by
 have gl:(ST.s70 mk).length=mk.length:=by unfold ST.s70;rw[Ì]
 have gd:∀ q,q < mk.length->(ST.s70 mk).getD q 0=mk.idxOf (mk.getD q 0):=λq hq=>by
  unfold ST.s70;simp[Ó,hq]
 have gm:∀ q,q < mk.length->mk.getD q 0∈mk:=λq hq=>by
  simp[Ó,hq]
 have e:(ì mk.length).map (λp=>(ST.s70 mk).getD p 0)=ST.s70 mk:=by
  rw[← gl];exact MySort.range_getD _ _
 have e2:∀ F:Nat->List Int,(ST.s70 mk).map F=(ì mk.length).map λp=>F ((ST.s70 mk).getD p 0):=λF=>by
  have:=congrArg (List.map F) e;rw[ë] at this;exact this.symm
 unfold ST.blocks;rw[e2,gl];refine Ä6 λp hp=>?_;have hp:=ö.mp hp
 congr 1
 refine List.filter_congr λq hq=>?_;have hq:=ö.mp hq;rw[gd q hq,gd p hp,Í0,beq_iff_eq,beq_iff_eq];refine⟨λh=>?_,λh=>by rw[h]⟩
 have h1:=Ò0 (Ã0 (gm q hq));have h2:=Ò0 (Ã0 (gm p hp));rw[← h1,← h2]
 congr 1
theorem Z81{mk:List Int}(h6:mk.length<=6):p42 (((ì mk.length).map λp=>((ì mk.length).filter λq=>mk.getD q 0 == mk.getD p 0).map λ(n:Nat)=>(n:Int)).map ST.tD)=some (u60 mk):=by
 have gl:(ST.s70 mk).length=mk.length:=by unfold ST.s70;rw[Ì]
 have hg:ST.s70 mk∈ST.p30 mk.length:=ST.p40 mk;have hk:=Î.mp (Î.mp z41 mk.length (ö.mpr ∅)) _ hg
 unfold okK at hk;simp only[Á,decide_eq_true_eq] at hk;obtain⟨⟨⟨⟨k1,k2⟩,k3⟩,_⟩,_⟩:=hk;rw[← i61];have hks:∀ ks:List (List Int),f72 (ks.map ST.tD)=some ks:=λks=>by
  induction ks with
  |nil=>rfl
  |cons k r ih =>
   show(o30 (k.map D.int)).bind (λk=>(f72 (r.map ST.tD)).map (k::·))=_;rw[K30 k,ih];rfl
 unfold p42;rw[hks];have bl:(ST.blocks (ST.s70 mk)).length=mk.length:=by unfold ST.blocks;rw[Ì,gl]
 show(if _ then _ else _)=_;rw[if_pos ⟨by rw[bl];exact h6,k1,k2⟩,U50 _ _ k3,← d91]
theorem J21{mk:List Int}(h6:mk.length<=6):(u60 mk).length<=6/\∀ x∈u60 mk,flat 1 x=true:=by
 have hg:ST.s70 mk∈ST.p30 mk.length:=ST.p40 mk;have hk:=Î.mp (Î.mp z41 mk.length (ö.mpr ∅)) _ hg
 unfold okK at hk;simp only[Á,decide_eq_true_eq,Ä7] at hk;rw[d91];exact⟨hk.2,hk.1.2⟩
theorem J31{m:Int}{ps:List (Int × Int)}{lot:List Nat}(g:i90 m ps)(hl:∀ n∈lot,n < ps.length):bfD .sset [.lst ((ì m.toNat).map λp=>.tup ((s60 (l30 ps lot m.toNat [p])).map a70))]=some (.fr (u60 (c20 ps m.toNat lot))):=by
 have ml:(c20 ps m.toNat lot).length=m.toNat:=s40;have h6:m.toNat<=6:=by have:=g.m6;omega
 have e:((ì m.toNat).map λp=>D.tup ((s60 (l30 ps lot m.toNat [p])).map a70))=((ì m.toNat).map λp=>((ì m.toNat).filter λq=>(c20 ps m.toNat lot).getD q 0 == (c20 ps m.toNat lot).getD p 0).map λ(n:Nat)=>(n:Int)).map ST.tD:=by
  rw[ë];refine Ä6 λp hp=>?_;rw[Z61 g hl (ö.mp hp)];show D.tup _=D.tup _;rw[ë];rfl
 have s:=Z81 (mk:=c20 ps m.toNat lot) (by rw[ml];exact h6)
 rw[ml,← e] at s;show(g41 (.lst _) _).map S.fr=_;unfold g41;have sm:z00 ((ì m.toNat).map λp=>D.tup ((s60 (l30 ps lot m.toNat [p])).map a70))=none:=by
  have:∃ n,m.toNat=n + 1:=⟨m.toNat - 1,by have:=g.m1;omega⟩
  obtain⟨n,hn⟩:=this;rw[hn,List.range_succ_eq_map];rfl
 rw[sm,s];rfl
theorem R90:∀ {a b:List D},e10 (a++b)=(e10 a&&e10 b)
 |[],b=>rfl
 |x::a,b=>by
  show(m40 x&&e10 (a++b))=((m40 x&&e10 a)&&e10 b);rw[R90,Bool.and_assoc]
theorem S00:∀ {a b:List D},f20 (a++b)=Ó6 (f20 a) (f20 b)
 |[],b=>(Nat.zero_max _).symm
 |x::a,b=>by
  show Ó6 (deep x) (f20 (a++b))=Ó6 (Ó6 (deep x) (f20 a)) (f20 b);rw[S00];exact(Nat.max_assoc _ _ _).symm
theorem e01{a b:List D}(ha:B60 a=true)(hb:B60 b=true):B60 (a++b)=true:=by
 unfold B60 at ha hb ⊢;rw[Á,decide_eq_true_eq] at ha hb ⊢;rw[R90,S00,ha.1,hb.1];exact⟨rfl,Ý8.mpr ⟨ha.2,hb.2⟩⟩
theorem A32{l:List D}(h:B60 l=true):okD (.tup l)=true:=by
 unfold B60 at h;unfold okD;rw[Á,decide_eq_true_eq] at h ⊢;exact⟨h.1,by show f20 l + 1<=40;omega⟩
theorem J41{x:D}(h:m40 x=true)(h2:deep x<=39):B60 [x]=true:=by
 unfold B60;rw[Á,decide_eq_true_eq];refine⟨by show(m40 x&&true)=true;rw[h];rfl,?_⟩
 show Ó6 (deep x) 0<=39;exact Ý8.mpr ⟨h2,by omega⟩
theorem K70(k:Nat)(x:D)(z:Z):b60 T (k + 3) v50 [.d x] z=some (.ok (.d (.bl (l00 x))) z):=by
 refine W.ok (l20 (ps:=1) (ns:=1) (b:=n40) rfl rfl (-0) ?_)
 cases x with
 |_=>exact sd rfl
theorem z71(h:l00 x=true):∃ i,x=.int i:=by
 cases x with
 |int i=>exact⟨i,rfl⟩|_=>cases h
theorem B10(c:D->Bool):∀ {l:List D},B60 l=true->B60 (l.filter c)=true:=λ{l} h=>by
 unfold B60 at h ⊢;rw[Á,decide_eq_true_eq] at h ⊢
 induction l with
 |nil=>exact h
 |cons x r ih =>
  have h1:(m40 x&&e10 r)=true:=h.1;have h2:Ó6 (deep x) (f20 r)<=39:=h.2;rw[Á] at h1;rw[Ý8] at h2;have ih:=ih ⟨h1.2,h2.2⟩;rw[List.filter_cons];split
  ·refine⟨?_,?_⟩
   ·show(m40 x&&e10 (r.filter c))=true;rw[h1.1,ih.1];rfl
   ·show Ó6 (deep x) (f20 (r.filter c))<=39;exact Ý8.mpr ⟨h2.1,ih.2⟩
  ·exact ih
theorem o82(h:B60 l=true):okD (.lst l)=true:=A32 h
def J51:D->Bool
 |.tup l=>B60 l&&decide (l.length<=1000)|_=>true
theorem E10(h:J51 x=true):short x=true:=by
 cases x with
 |tup l =>
  unfold J51 at h;rw[Á] at h;exact h.2
 |_=>rfl
theorem t20:∀ {l:List D},(∀ x∈l,l00 x=true)->∃ ns:List Int,l=ns.map D.int
 |[],_=>⟨[],rfl⟩
 |x::r,h=>by
  obtain⟨i,rfl⟩:=z71 (h x Ê);obtain⟨ns,rfl⟩:=t20 λy hy=>h y (È _ hy);exact⟨i::ns,rfl⟩
theorem z81:∀ {ns:List Int},(∀ x∈ns,0<=x)->∃ l:List Nat,ns.map D.int=l.map a70
 |[],_=>⟨[],rfl⟩
 |x::r,h=>by
  obtain⟨i,rfl⟩:=Ê6 (h x Ê);obtain⟨l,e⟩:=z81 λy hy=>h y (È _ hy);exact⟨i::l,by rw[Â2,Â2,e];rfl⟩
theorem E20:∀ {l:List Nat},(∀ x∈l,x < 8)->z00 (l.map a70)=some l
 |[],_=>rfl
 |x::r,h=>by
  have hx:=h x Ê;show(if 0<=(x:Int)/\(x:Int) < 8 then(z00 (r.map a70)).map ((x:Int).toNat::·) else none)=_;rw[if_pos ∅,E20 λy hy=>h y (È _ hy),Ä2];rfl
def dedup(l:List Nat):List Nat:=(ì 8).filter λi=>l.contains i
theorem J61(h:∀ x∈l,x < 8)(hu:l.Pairwise (· < ·)):dedup l=l:=by
 have h2:(dedup l).Pairwise (· < ·):=Å4 _ Æ8;refine Ã4 (le:=λa b=>a < b) (λa b _ _ h1 h2=>by omega) h2 hu ?_
 refine(È4 (h2.imp λh=>by omega) (hu.imp λh=>by omega)).mpr λx=>?_
 unfold dedup;rw[Ô2,Î8];constructor
 ·exact λhx=>by simpa using hx.2
 ·exact λhx=>⟨h x hx,by simpa using hx⟩
theorem S10:∀ {l:List Nat},F01 (l.map a70) (l.map a70)=true
 |[]=>rfl
 |x::r=>by
  show((x:Int) == (x:Int)&&F01 (r.map a70) (r.map a70))=true;rw[beq_self_eq_true,S10];rfl
theorem O41:∀ {l:List Nat},D90 (l.map a70)=true->l.Pairwise (· < ·)
 |[],_=>.nil|[_],_=>.cons (λ_ h=>nomatch h) .nil
 |x::y::r,h=>by
  have h:(decide ((x:Int) < y)&&D90 ((y::r).map a70))=true:=h;rw[Á,decide_eq_true_eq] at h;have ih:=O41 (l:=y::r) h.2;refine .cons (λz hz=>?_) ih;rcases Ü.mp hz with rfl | hz
  ·omega
  ·have:=(Ã9.mp ih).1 z hz;omega
theorem S20{ps:List Nat}(hlt:∀ p∈ps,p < 8):bfD .sset [.tup (ps.map a70)]=some (.fr ((dedup ps).map a70)):=by
 show(g41 _ (ps.map a70)).map S.fr=_;unfold g41;rw[E20 hlt];rfl
theorem S30(k:Nat){m:Int}(m6:m<=8){x:D}(h:J51 x=true)(z:Z):∃ b,b60 T (k + 4) d40 [.d (.int m),.d x] z=some (.ok (.d (.bl b)) z)/\(b=false->O01 m x=false)/\(b=true->∃ l,x=.tup l):=by
 have no:∀ {x:D},(∀ l,x≠.tup l)->L51 .tuple x=false->∃ b,b60 T (k + 4) d40 [.d (.int m),.d x] z=some (.ok (.d (.bl b)) z)/\(b=false->O01 m x=false)/\(b=true->∃ l,x=.tup l):=λ{x} h1 h2=>by
  refine⟨false,W.ok (l20 (ps:=2) (ns:=2) (b:=d50) rfl rfl (-0) ?_),λ_=>?_,λh=>nomatch h⟩
  ·refine it (b:=!L51 .tuple x) (by rw[h2];rfl) ?_
   exact sd rfl
  ·cases x with
   |tup l=>exact absurd rfl (h1 l)|_=>rfl
 cases x with
 |tup l =>
  unfold J51 at h;rw[Á,decide_eq_true_eq] at h;by_cases hw:(l.filter λx=>!l00 x)=[]
  ·have hw':∀ x∈l,l00 x=true:=λx hx=>by
    have:=Ç6.mp hw x hx;simpa using this
   obtain⟨ns,rfl⟩:=t20 hw';by_cases hr:((ns.map D.int).filter λx=>!b30 x m)=[]
   ·have hr':∀ x∈ns,0<=x/\x < m:=λx hx=>by
     have:=Ç6.mp hr _ (Þ.mpr ⟨x,hx,rfl⟩);unfold b30 at this;simpa using this
    obtain⟨ps,e⟩:=z81 λx hx=>(hr' x hx).1;have hlt:∀ p∈ps,p < 8:=λp hp=>by
     have:a70 p∈ns.map D.int:=by rw[e];exact Þ.mpr ⟨p,hp,rfl⟩
     obtain⟨i,hi,e2⟩:=Þ.mp this;have h1:=hr' i hi;have e3:i=(p:Int):=by injection e2
     omega
    refine⟨F01 (ps.map a70) ((dedup ps).map a70),W.ok (l20 (ps:=2) (ns:=2) (b:=d50) rfl rfl (-0) ?_),λhb=>?_,λ_=>⟨_,rfl⟩⟩
    ·refine ip (q00 h.2) (N71 (λx=>!l00 x) (λx=>x) (λx hx=>?_) ?_)
     ·exact Wo (K70 k x z) ⟨rfl,rfl,λ_=>⟨rfl,rfl⟩⟩
     ·rw[hw];refine ip (q00 h.2) (N71 (λx=>!b30 x m) (λx=>x) (λx hx=>?_) ?_)
      ·obtain⟨i,hi,rfl⟩:=Þ.mp hx;have h1:=hr' i hi;refine it (b:=decide ((0:Int)<=i)) (decide_eq_true h1.1) ?_;refine⟨?_,rfl,λ_=>⟨rfl,rfl⟩⟩;show S.d (.bl (!decide (i < m)))=S.d (.bl (!(decide (0<=i)&&decide (i < m))));rw[decide_eq_true h1.1];rfl
      ·rw[hr,e];refine(a20 (o:=bfD .sset [.tup (ps.map a70)]) (S20 hlt) ?_ :);refine(a20 (o:=eqQ (.lst (ps.map a70)) (.lst ((dedup ps).map a70))) (a:=F01 (ps.map a70) ((dedup ps).map a70)) (by unfold eqQ;rw[K20,K20];rfl) ?_ :)
       exact sd rfl
    ·cases hp:O01 m (.tup (ns.map D.int)) with
     |false=>rfl
     |true =>
      exfalso;rw[e] at hp;unfold O01 at hp;rw[Á,Á] at hp;have up:=O41 hp.1.2;rw[J61 hlt up,S10] at hb;cases hb
   ·refine⟨false,W.ok (l20 (ps:=2) (ns:=2) (b:=d50) rfl rfl (-0) ?_),λ_=>?_,λh=>nomatch h⟩
    ·refine ip (q00 h.2) (N71 (λx=>!l00 x) (λx=>x) (λx hx=>?_) ?_)
     ·exact Wo (K70 k x z) ⟨rfl,rfl,λ_=>⟨rfl,rfl⟩⟩
     ·rw[hw];refine ip (q00 h.2) (N71 (λx=>!b30 x m) (λx=>x) (λx hx=>?_) ?_)
      ·obtain⟨i,hi,rfl⟩:=Þ.mp hx;refine ib (b:=decide ((0:Int)<=i)) (λh1=>?_) λh1=>?_
       ·refine⟨?_,rfl,λ_=>⟨rfl,rfl⟩⟩;show S.d (.bl (!decide (i < m)))=S.d (.bl (!(decide (0<=i)&&decide (i < m))));rw[h1];rfl
       ·refine⟨?_,rfl,λ_=>⟨rfl,rfl⟩⟩;show S.d (.bl (!false))=S.d (.bl (!(decide (0<=i)&&decide (i < m))));rw[h1];rfl
      ·rw[map_id'];refine(a20 (ne_nil (o82 (B10 _ h.1))) ?_ :);refine it (b:=!((ns.map D.int).filter λx=>!b30 x m).isEmpty) ?_ ?_
       ·cases hh:(ns.map D.int).filter λx=>!b30 x m with
        |nil=>exact absurd hh hr|cons _ _=>rfl
       ·exact sd rfl
    ·show((ns.map D.int).all (λx=>b30 x m)&&D90 (ns.map D.int)&&!(ns.map D.int).isEmpty)=false;have:(ns.map D.int).all (λx=>b30 x m)=false:=by
      cases ha:(ns.map D.int).all (λx=>b30 x m) with
      |false=>rfl|true=>exact absurd (Ç6.mpr λx hx=>by rw[Î.mp ha x hx];decide) hr
     rw[this];rfl
  ·refine⟨false,W.ok (l20 (ps:=2) (ns:=2) (b:=d50) rfl rfl (-0) ?_),λ_=>?_,λh=>nomatch h⟩
   ·refine ip (q00 h.2) (N71 (λx=>!l00 x) (λx=>x) (λx hx=>?_) ?_)
    ·exact Wo (K70 k x z) ⟨rfl,rfl,λ_=>⟨rfl,rfl⟩⟩
    ·rw[map_id'];refine(a20 (ne_nil (o82 (B10 _ h.1))) ?_ :);refine it (b:=!(l.filter λx=>!l00 x).isEmpty) ?_ ?_
     ·cases hh:l.filter λx=>!l00 x with
      |nil=>exact absurd hh hw|cons _ _=>rfl
     ·exact sd rfl
   ·show(l.all (λx=>b30 x m)&&D90 l&&!l.isEmpty)=false;have:l.all (λx=>b30 x m)=false:=by
     cases ha:l.all (λx=>b30 x m) with
     |false=>rfl
     |true=>exact absurd (Ç6.mpr λx hx=>by
       obtain⟨i,rfl,_⟩:=i80 (Î.mp ha x hx);exact λh=>nomatch h) hw
    rw[this];rfl
 |_=>exact no (λl h=>nomatch h) rfl
theorem x10(l:List Nat)(lo hi:Option Int):∃ l':List Nat,cutD (l.map a70) lo hi=l'.map a70/\l'.length<=l.length:=by
 unfold cutD;refine⟨(l.drop _).take _,by rw[← List.map_drop,← map_take],?_⟩
 rw[Ê8,Ö0];omega
theorem X50{a b:List Nat}(ha:a.length<=10)(hb:b.length<=10)(hx:(m40 x&&decide (deep x<=39))=true):J51 (.tup (a.map a70++[x]++b.map a70))=true:=by
 rw[Á,decide_eq_true_eq] at hx;show(B60 (a.map a70++[x]++b.map a70)&&decide ((a.map a70++[x]++b.map a70).length<=1000))=true;rw[e01 (e01 (s50 a) (J41 hx.1 hx.2)) (s50 b)];refine decide_eq_true ?_;rw[À6,Y91,Ì,Ì];omega
theorem K80{a:List Nat}(ha:a.length<=100):J51 (.tup (a.map a70))=true:=by
 show(B60 (a.map a70)&&decide ((a.map a70).length<=1000))=true;rw[s50 a];exact decide_eq_true (by rw[Ì];omega)
theorem z91(l:List Nat):(m40 (.tup (l.map a70))&&decide (deep (.tup (l.map a70))<=39))=true:=by
 have e:l.map a70=(l.map λ(n:Nat)=>(n:Int)).map D.int:=by rw[ë];rfl
 obtain⟨h1,h2⟩:=J70 (l.map λ(n:Nat)=>(n:Int));show(e10 (l.map a70)&&decide (f20 (l.map a70) + 1<=39))=true;rw[e,h1,h2];rfl
theorem o70(k:Nat){m:Int}(m1:0<=m)(m6:m<=8){pl:List Nat}(hl:pl.length<=8){z:Z}(hz:ZI z):W (b60 T (k + 4) e80 [.z,.d (.int m),.d (.tup (pl.map a70))]) z (λs z1=>ZI z1/\∃ x,s=.d x/\J51 x=true) NE:=by
 have hll:(pl.map a70).length=pl.length:=Ì _;refine a82 hz (ps:=3) (ns:=6) (b:=e90) rfl rfl (-0) ?_
 refine(h50 k (((pl.map a70).length:Int) + 1) hz ∅ ∅).imp λs z1 ⟨hz1,a,e,a1⟩=>?_
 subst e;refine(h50 k (m + 1) hz1 ∅ ∅).imp λs z2 ⟨hz2,w,e,w1⟩=>?_
 subst e;refine(h50 k 10 hz2 (-0) (-0)).imp λs z3 ⟨hz3,v,e,v1⟩=>?_
 subst e;refine(Z11 (n:=v) (λx=>m40 x&&decide (deep x<=39)) ?_ ?_ ?_ :)
 ·show v < 10;omega
 ·have hs:(m40 (.str "0")&&decide (deep (.str "0")<=39))=true:=by decide +kernel
  show List.all [D.int w,.int m,.int (-1),.bl true,.non,.str "0",.tup [.int 0],.bl false,.int ((10:Int) ^ (29:Int).toNat),.int 0] (λx=>m40 x&&decide (deep x<=39))=true;refine Î.mpr λy hy=>?_;simp only[Á7,À2,or_false] at hy;rcases hy with rfl | rfl | rfl | rfl | rfl | rfl | rfl | rfl | rfl | rfl
  ·rfl
  ·rfl
  ·rfl
  ·rfl
  ·rfl
  ·exact hs
  ·rfl
  ·rfl
  ·rfl
  ·rfl
 ·intro x hx;obtain⟨l1,e1,c1⟩:=x10 pl none (some (a:Int));obtain⟨l2,e2,c2⟩:=x10 pl (some (a:Int)) none;obtain⟨l3,e3,c3⟩:=x10 pl (some ((a:Int) + 1)) none;obtain⟨l4,e4,c4⟩:=x10 pl (some (-1)) none;have t1:H30 .add (.tup (cutD (pl.map a70) none (some (a:Int)))) (.tup [x])=some (.d (.tup (l1.map a70++[x]))):=by rw[e1];exact y21 (by rw[Ì];show _ + 1<=_;omega)
  refine(a20 t1 ?_ :);refine(a20 (show H30 .add (.tup (l1.map a70++[x])) (.tup (cutD (pl.map a70) (some (a:Int)) none))=some (.d (.tup (l1.map a70++[x]++l2.map a70))) from by rw[e2];exact y21 (by rw[Y91,Ì,Ì];omega)) ?_ :)
  refine(a20 t1 ?_ :);refine(a20 (show H30 .add (.tup (l1.map a70++[x])) (.tup (cutD (pl.map a70) (some ((a:Int) + 1)) none))=some (.d (.tup (l1.map a70++[x]++l3.map a70))) from by rw[e3];exact y21 (by rw[Y91,Ì,Ì];omega)) ?_ :)
  refine(a20 (show H30 .add (.tup (cutD (pl.map a70) none (some (a:Int)))) (.tup (cutD (pl.map a70) (some ((a:Int) + 1)) none))=some (.d (.tup (l1.map a70++l3.map a70))) from by rw[e1,e3];exact y21 (by rw[Ì,Ì];omega)) ?_ :)
  refine(a20 (show H30 .add (.tup (pl.map a70)) (.tup (cutD (pl.map a70) (some (-1)) none))=some (.d (.tup (pl.map a70++l4.map a70))) from by rw[e4];exact y21 (by rw[Ì,Ì];omega)) ?_ :)
  refine(h50 k 11 hz3 (-0) (-0)).imp λs z4 ⟨hz4,u,e,u1⟩=>?_
  subst e;refine(Z11 (L:=[.tup (l1.map a70++[x]++l2.map a70),.tup (l1.map a70++[x]++l3.map a70),.tup (l1.map a70++l3.map a70),.lst (pl.map a70),.tup (pl.map a70).reverse,.tup (pl.map a70++l4.map a70),.non,.dct,.int 0,.tup [.tup (pl.map a70)],.tup []]) (n:=u) J51 ?_ ?_ ?_ :)
  ·show u < 11;omega
  ·rw[← Ê5,← Ê5,← List.map_reverse];simp only[Ä8,all_nil,Ð8,Á];refine⟨X50 ∅ ∅ hx,X50 ∅ ∅ hx,K80 (by rw[À6];omega),rfl,K80 (by rw[Ï7];omega),K80 (by rw[À6];omega),rfl,rfl,rfl,X50 (a:=[]) (b:=[]) (-0) (-0) (z91 pl),rfl⟩
  ·exact λy hy=>⟨hz4,y,rfl,hy⟩
section
variable {m:Int}{ps:List (Int × Int)}{pl:List Nat}
def rsB(n:Int):D->Bool
 |.tup l=>l.all (λx=>b30 x n)&&D90 l|_=>false
theorem v70(k:Nat){x:D}(hx:rsB (ps.length:Nat) x=false)(hs:short x=true)(z:Z):b60 T (k + 7) l70 [.d (C10 m ps),.d x] z=some (.er 1 z):=by
 have e:b60 T (k + 6) J30 [.d (C10 m ps),.d x] z=some (.ok (.d (.bl false)) z):=by
  refine W.ok (l20 (ps:=2) (ns:=2) (b:=w80) rfl rfl (-0) (Wo (j50 k ((ps.map pr).length:Nat) hs z) (sb ?_)))
  rw[Ì];rw[← hx];cases x <;> rfl
 exact W.er (l20 (ps:=2) (ns:=2) (b:=l90) rfl rfl (-0) (Wo e ⟨rfl,d90 z⟩))
theorem J71(k:Nat){w x:D}(hw:w81 w=false)(z:Z):b60 T (k + 10) f60 [.d w,.d x] z=some (.er 0 z) :=
 W.er (l20 (ps:=2) (ns:=5) (b:=i60) rfl rfl (-0) (We (v60 (k + 1) z hw) ⟨rfl,d90 z⟩))
theorem J81(k:Nat)(g:i90 m ps){x:D}(hx:rsB (ps.length:Nat) x=false)(hs:short x=true)(z:Z):b60 T (k + 10) f60 [.d (C10 m ps),.d x] z=some (.er 1 z) :=
 W.er (l20 (ps:=2) (ns:=5) (b:=i60) rfl rfl (-0) (Wo (g40 (k + 1) z g.web) (We (v70 (k + 2) hx hs z) ⟨rfl,d90 z⟩)))
theorem Z91(k:Nat){w x y:D}(hw:w81 w=false)(z:Z):b60 T (k + 10) n20 [.d w,.d x,.d y] z=some (.er 0 z) :=
 W.er (l20 (ps:=3) (ns:=3) (b:=u10) rfl rfl (-0) (We (v60 (k + 1) z hw) ⟨rfl,d90 z⟩))
theorem a02(k:Nat)(g:i90 m ps){x y:D}(hx:rsB (ps.length:Nat) x=false)(hs:short x=true)(z:Z):b60 T (k + 10) n20 [.d (C10 m ps),.d x,.d y] z=some (.er 1 z) :=
 W.er (l20 (ps:=3) (ns:=3) (b:=u10) rfl rfl (-0) (Wo (g40 (k + 1) z g.web) (We (v70 (k + 2) hx hs z) ⟨rfl,d90 z⟩)))
theorem A01(k:Nat)(g:i90 m ps){lot:List Nat}(h1:lot.Pairwise (· < ·))(h2:∀ n∈lot,n < ps.length){y:D}(hy:O01 m y=false)(hs:short y=true)(z:Z):b60 T (k + 10) n20 [.d (C10 m ps),.d (a92 lot),.d y] z=some (.er 2 z) :=
 W.er (l20 (ps:=3) (ns:=3) (b:=u10) rfl rfl (-0) (Wo (g40 (k + 1) z g.web) (Wo (n50 (k + 2) g.len h1 h2 z) (We (A70 (k + 3) (t:=.tup (ps.map pr)) z hy hs) ⟨rfl,d90 z⟩))))
theorem X60(k:Nat)(m:Int){l:List D}(hl:l=[])(z:Z):b60 T (k + 4) d40 [.d (.int m),.d (.tup l)] z=some (.ok (.d (.bl true)) z):=by
 have hw:(l.filter λx=>!l00 x)=[]:=by rw[hl];rfl
 have hr:(l.filter λx=>!b30 x m)=[]:=by rw[hl];rfl
 have h0:l.length<=1000:=by rw[hl];decide
 refine W.ok (l20 (ps:=2) (ns:=2) (b:=d50) rfl rfl (-0) ?_)
 refine ip (q00 h0) (N71 (λx=>!l00 x) (λx=>x) (λx hx=>by rw[hl] at hx;cases hx) ?_)
 rw[hw];refine ip (q00 h0) (N71 (λx=>!b30 x m) (λx=>x) (λx hx=>by rw[hl] at hx;cases hx) ?_)
 rw[hr];refine(a20 (o:=bfD .sset [.tup l]) (a:=.fr []) (by rw[hl];exact S20 (ps:=[]) λp hp=>nomatch hp) ?_ :)
 refine(a20 (o:=eqQ (.lst l) (.lst [])) (a:=true) (by rw[hl];rfl) ?_ :)
 exact sd rfl
theorem i71(k:Nat)(m:Int)(z:Z):b60 T (k + 4) d40 [.d (.int m),.d (.tup [])] z=some (.ok (.d (.bl true)) z):=X60 k m rfl z
theorem A11(k:Nat){n:Int}(n8:n<=8){x:D}(h:J51 x=true)(z:Z):∃ b,b60 T (k + 4) d40 [.d (.int n),.d x] z=some (.ok (.d (.bl b)) z)/\(b=false->rsB n x=false):=by
 obtain⟨b,hb,h0,_⟩:=S30 k n8 h z;refine⟨b,hb,λe=>?_⟩;have h0:=h0 e;cases x with
 |tup l =>
  cases l with
  |nil =>
   rw[i71] at hb;subst e;cases hb
  |cons y r =>
   have h0:(((y::r).all (λx=>b30 x n)&&D90 (y::r))&&!(y::r).isEmpty)=false:=h0;rw[show(!(y::r).isEmpty)=true from rfl,Ð8] at h0;exact h0
 |_=>rfl
end
section
variable {m:Int}{ps:List (Int × Int)}{pl lot:List Nat}
theorem i81(k:Nat)(g:i90 m ps)(hp:u30 m pl)(h1:lot.Pairwise (· < ·))(h2:∀ n∈lot,n < ps.length){z:Z}(hz:ZI z):W (b60 T (k + 30) g30 [.z,.d (C10 m ps),.d (.tup (lot.map a70)),.d (.tup (pl.map a70))]) z (λs z1=>ZI z1/\s=.d (.bl true)) NE:=by
 have h8:=g.len;have l8:lot.length<=8:=â (d31 h1 h2) h8;have hl:(((ps.map pr).length:Nat):Int)=(ps.length:Nat):=by rw[Ì]
 have m1:=g.m1;have m6:=g.m6;refine a82 hz (k:=k + 27) (ps:=4) (ns:=7) (b:=c30) rfl rfl (-0) ?_
 refine(o70 (k + 25) (m:=((ps.map pr).length:Nat)) ∅ ∅ l8 hz).imp λs z2 ⟨hz2,x,e,hox⟩=>?_
 subst e;refine(o70 (k + 25) (m:=m) ∅ ∅ (by have:=hp.len g.m6;omega) hz2).imp λs z3 ⟨hz3,y,e,hoy⟩=>?_
 subst e;refine(x81 (k + 25) hz3).imp λs z4 ⟨hz4,bw,e,hbw⟩=>?_;subst e;refine We (J71 (k + 17) (x:=x) hbw z4) ?_;refine We (Z91 (k + 17) (x:=x) (y:=y) hbw z4) ?_;obtain⟨b,hb,b0⟩:=A11 (k + 25) (n:=((ps.map pr).length:Nat)) ∅ hox z4
 obtain⟨c,hc,c0,c1⟩:=S30 (k + 25) (m:=m) ∅ hoy z4
 have hsy:=E10 hoy;have hsx:=E10 hox;have b0:b=false->rsB (ps.length:Nat) x=false:=λh=>by have:=b0 h;rwa [hl] at this
 have last:∀ {o6:Option S}{Q:O->Z->Prop}{E:Nat->Z->Prop},Q (.rt (.d (.bl true))) z4->WS (g71 T (k + 27 + 2)) false (tl (tl (tl (tl (tl c30))))) [some .z,some (.d (C10 m ps)),some (.d (.tup (lot.map a70))),some (.d (.tup (pl.map a70))),some (.d x),some (.d y),o6] z4 Q E:=λ{o6 Q E} q=>by
  refine Wo hc ?_;cases c with
  |false =>
   refine We (A01 (k + 17) g h1 h2 (c0 rfl) hsy z4) ?_;exact q
  |true =>
   obtain⟨l,rfl⟩:=c1 rfl;have eq:y90 .eq (.tup l) (.tup [])=some l.isEmpty:=by
    show eqQ (.tup l) (.tup [])=_;unfold eqQ;split
    ·cases l <;> rfl
    ·rfl
   refine(a20 eq ?_ :);refine ib (b:=l.isEmpty) (λhe=>?_) λ_=>?_
   ·refine We (A01 (k + 17) g h1 h2 (by cases l with | nil=>rfl | cons _ _=>cases he) hsy z4) ?_
    exact q
   ·exact q
 refine Wo hb ?_;cases b with
 |false =>
  refine We (J81 (k + 17) g (b0 rfl) hsx z4) ?_;refine We (a02 (k + 17) (y:=y) g (b0 rfl) hsx z4) ?_;exact last ⟨hz4,rfl⟩
 |true=>exact last ⟨hz4,rfl⟩
theorem i91(d k:Nat){l:List D}(hl:l.length<=1000)(h:∀ x∈l,flat d x=true)(z:Z):b60 T (k + d + 4) f70 [.d (.lst l),.d (.lst l)] z=some (.ok (.d (.bl true)) z):=by
 refine W.ok (l20 (k:=k + d + 1) (ps:=2) (ns:=2) (b:=i70) rfl rfl (-0) ?_)
 refine ie (b:=!((l.length:Int) == (l.length:Int))) (by rw[beq_self_eq_true];rfl) ?_
 refine ip (c:=(p10 l l).length<=most) (â (s30 _ _) (q00 hl)) (I21 (λ_=>.bl true) (λq hq=>?_) (a20 (A50 (p10 l l) λ_=>true) ?_ :))
 ·obtain⟨x,hx,rfl⟩:=K60 hq;exact Wo (z21 d k x z (h x hx)) ⟨rfl,rfl⟩
 ·exact sb (b:=(p10 l l).all λ_=>true) (Î.mpr λ_ _=>rfl)
theorem A21(k:Nat)(g:i90 m ps)(hp:u30 m pl)(h1:lot.Pairwise (· < ·))(h2:∀ n∈lot,n < ps.length)(z:Z):b60 T (k + 9) n20 [.d (C10 m ps),.d (a92 lot),.d (.tup (pl.map a70))] z=some (.ok (.d (.bl (J90 ps m.toNat pl lot))) z):=by
 have h6:=hp.len g.m6;exact W.ok (l20 (ps:=3) (ns:=3) (b:=u10) rfl rfl (-0) (Wo (g40 k z g.web) (Wo (n50 (k + 1) g.len h1 h2 z) (Wo (A60 (k + 2) (t:=.tup (ps.map pr)) z hp.pls (decide_eq_true (by rw[Ì];omega))) (Wo (K10 (k + 4) g hp (Row.t lot) h2 z) (sd rfl))))))
theorem O51{p:Pat}{s:S}{ρ ρ':Env}{P:Env->Prop}(hk:N90 s=true)(hb:z20 p s ρ=some ρ')(q:P ρ'):Get (one [s]) λs=>Get (z20 p s (i30 s ρ)) P:=by
 show Get (z20 p s (i30 s ρ)) P;rw[n42 hk];exact a20 hb q
def D72:D->Nat
 |.int i=>i.toNat|_=>0
theorem B20:∀ l:List Int,r10 (l.map D.int)=true
 |[]=>rfl|_::r=>B20 r
theorem B30:∀ gs:List (Int × List Int),r10 (gs.map λg=>D.tup (g.2.map D.int))=true
 |[]=>rfl
 |g::r=>by
  show(r10 (g.2.map D.int)&&r10 (r.map λg=>D.tup (g.2.map D.int)))=true;rw[B20,B30 r];rfl
abbrev A42:Sm:=match I31 with
 |.seq (.fr _ _ _ b) _=>match tl (tl b) with
  |.seq (.fr _ _ _ c) _=>c|_=>.nil
 |_=>.nil
abbrev tE(ns:List Int)(j:Nat)(m:Int)(ps:List (Int × Int))(o4 o5 o6 o7 o8 o9:Option S):Env:=[some (.d (.lst (ns.map D.int))),some (.d (.int j)),some .z,some (.d (C10 m ps)),o4,o5,o6,o7,o8,o9]
inductive TL (ns:List Int) (j:Nat) (m:Int) (ps:List (Int × Int)) (lot pl:List Nat):Env->Prop
 |mk {s:S}{o4 o8 o9:Option S} (h:plS s=.d (.lst (u60 (c20 ps m.toNat lot)))):TL ns j m ps lot pl (tE ns j m ps o4 (some (.d (.tup (lot.map a70)))) (some (.d (.tup (pl.map a70)))) (some s) o8 o9)
inductive TA (ns:List Int) (j:Nat) (m:Int) (ps:List (Int × Int)):Env->Prop
 |mk {o4 o5 o6 o7 o8 o9:Option S}:TA ns j m ps (tE ns j m ps o4 o5 o6 o7 o8 o9)
theorem o92(k:Nat){ns:List Int}{j:Nat}(g:i90 m ps){z:Z}(hz:ZI z){o4 o5 o6 o7 o8 o9:Option S}{Q:O->Z->Prop}{E:Nat->Z->Prop}(q:∀ ρ z1,ZI z1->TA ns j m ps ρ->Q (.nx ρ) z1):WS (g71 T (k + 37 + 2)) true A42 (tE ns j m ps o4 o5 o6 o7 o8 o9) z Q E:=by
 have h8:=g.len;have m1:=g.m1;have m6:=g.m6;have hl:(((ps.map pr).length:Nat):Int)=(ps.length:Nat):=by rw[Ì]
 refine(a20 (J60 (m:=((ps.map pr).length:Nat)) ∅ ∅) ?_ :)
 refine ip (by rw[Ì,Â3];simp only[most];omega) (Y51 (I:=ZI) (λx=>x) hz (λx hx z1 hz1=>?_) λys z1 hz1 hs=>?_)
 ·refine(h50 (k + 36) 3 hz1 (-0) (-0)).imp λs z2 ⟨hz2,a,e,a1⟩=>?_
  subst e;exact⟨hz2,decide ((a:Int) > 0),rfl,λ_=>⟨rfl,rfl⟩⟩
 ·rw[map_id',y01] at hs;obtain⟨lot,rfl,hl2⟩:=d01 hs;have up:lot.Pairwise (· < ·):=Ú5 hl2 Æ8;have lt:∀ n∈lot,n < ps.length:=λn hn=>by have:=ö.mp (hl2.mem hn);omega
  refine(R20 (k + 35) (t:=.tup (ps.map pr)) g.m1 g.m6 hz1).imp λs z2 ⟨hz2,pl,e,hp⟩=>?_;subst e;refine(a20 (J60 (m:=m) ∅ ∅) ?_ :)
  refine ip (by rw[Ì,Â3];simp only[most];omega) (I21 (λx=>.tup ((s60 (l30 ps lot m.toNat [D72 x])).map a70)) (λx hx=>?_) ?_)
  ·obtain⟨p,hp0,rfl⟩:=Þ.mp hx;exact Wo (B00 (k + 36) g lt (ö.mp hp0) z2) ⟨rfl,rfl⟩
  ·have es:bfD .sset [.lst (((ì m.toNat).map λ(i:Nat)=>D.int i).map λx=>.tup ((s60 (l30 ps lot m.toNat [D72 x])).map a70))]=some (.fr (u60 (c20 ps m.toNat lot))):=by
    rw[ë];exact J31 g lt
   obtain⟨gl,gf⟩:=J21 (mk:=c20 ps m.toNat lot) (by rw[s40];omega)
   have sm:=i91 1 (k + 34) (l:=u60 (c20 ps m.toNat lot)) ∅ gf z2
   refine(a20 es ?_ :);refine(O51 (show N90 (.fr (u60 (c20 ps m.toNat lot)))=true from B30 _) rfl ?_);have key:∀ s:S,plS s=.d (.lst (u60 (c20 ps m.toNat lot)))->s=.d (.lst (u60 (c20 ps m.toNat lot)))∨s=.fr (u60 (c20 ps m.toNat lot)):=λs h=>by
    cases s with
    |d x=>exact .inl h|fr xs=>exact .inr (by cases h;rfl)
    |_=>cases h
   refine W50 (λxs ρ z3=>z3=z2/\TL ns j m ps lot pl ρ) _ ⟨rfl,.mk rfl⟩ ?_ ?_
   ·rintro x r ρ z3 ⟨rfl,@⟨s,o4,o8,o9,hs⟩⟩;rcases key s hs with rfl | rfl
    all_goals
     refine Wo (R40 (k + 30) g up lt z3) ?_;refine(O51 (show N90 (.fr (u60 (c20 ps m.toNat lot)))=true from B30 _) rfl ?_);refine Wo sm ?_;refine ip ⟨rfl,Ê3 gl (-0)⟩ ?_
     exact⟨rfl,.mk rfl⟩
   ·rintro ρ z3 ⟨rfl,@⟨s,o4,o8,o9,hs⟩⟩;refine Wo (A21 (k + 30) g hp up lt z3) ?_;refine Wo (R70 (k + 35) g hp lt z3) ?_;refine Wo (z21 0 (k + 36) (.bl (J90 ps m.toNat pl lot)) z3 rfl) ?_;refine(i81 (k + 9) g hp up lt hz2).imp λs z4 ⟨hz4,e⟩=>?_;subst e;exact q _ _ hz4 .mk
end
inductive LA (ns:List Int):Env->Prop
 |mk {o1 o2 o3 o4 o5 o6 o7 o8 o9:Option S}:LA ns [some (.d (.lst (ns.map D.int))),o1,o2,o3,o4,o5,o6,o7,o8,o9]
abbrev q02(L:Int):Int:=if (if (8:Int) < L then 8 else L) > 1 then(if (8:Int) < L then 8 else L) else 1
theorem p02(k:Nat)(ns:List Int):b60 T (k + 40) n62 [.d (.lst (ns.map D.int))] none=some (.ok (.d (.bl true)) none):=by
 refine W.ok (l20 (k:=k + 37) (ps:=1) (ns:=10) (b:=I31) rfl rfl (-0) ?_)
 have hN:0<=q02 ((ns.map D.int).length:Int)/\q02 ((ns.map D.int).length:Int) < 100000:=by
  unfold q02;split <;> (try split) <;> omega
 refine(a20 (J60 (m:=q02 ((ns.map D.int).length:Int)) hN.1 hN.2) ?_ :);refine W50 (λxs ρ z=>(∀ x∈xs,∃ j:Nat,x=.int j)/\LA ns ρ) _ ⟨λx hx=>?_,.mk⟩ ?_ ?_
 ·obtain⟨i,_,rfl⟩:=Þ.mp hx;exact⟨i,rfl⟩
 ·rintro x r ρ z1 ⟨hx,⟨⟩⟩;obtain⟨j,rfl⟩:=hx x Ê;obtain⟨sn,sb,hz1,hst⟩:=I51 (k + 35) ns j z1;refine Wo hst ?_;refine(x51 (k + 34) hz1 (-0) (-0)).imp λs z3 ⟨hz3,m,ps,e,g,_⟩=>?_
  subst e;refine W50 (λxs ρ z=>ZI z/\TA ns j m ps ρ) _ ⟨hz3,.mk⟩ ?_ ?_
  ·rintro x' r' ρ z4 ⟨hz4,⟨⟩⟩;exact o92 k g hz4 λρ z5 hz5 h=>⟨hz5,h⟩
  ·rintro ρ z4 ⟨hz4,⟨⟩⟩;exact⟨λx hx'=>hx x (È _ hx'),.mk⟩
 ·rintro ρ z1 ⟨_,⟨⟩⟩;exact⟨rfl,rfl⟩
theorem pure:∀ ns:List Int,ns.length<=63->b60 (tabOf rows) 40 n62 [.d (.lst (ns.map D.int))] none=some (.ok (.d (.bl true)) none):=λns _=>by
 rw[L02];exact p02 0 ns
end K3
namespace K3
open PySem L2 Q
theorem ok:rows.all (a72 (B90 rows) nums)=true:=by decide +kernel
theorem bd:n10 rows:=⟨λ_ _ _ _ _ _ us hl=>by obtain⟨_,rfl⟩:=us1 hl;rfl,
 λ_ _ _ _ _ _ us hl=>by obtain⟨_,_,rfl⟩:=us2 hl;rfl,
 λ_ _ _ _ _ _ us hl=>by obtain⟨_,_,rfl⟩:=us2 hl;rfl,
 λ_ _ _ _ _ _ us hl=>by obtain⟨_,_,rfl⟩:=us2 hl;rfl,
 λ_ _ _ _ _ _ us hl=>by obtain⟨_,rfl⟩:=us1 hl;rfl,
 λ_ _ _ _ _ _ us hl=>by obtain⟨_,rfl⟩:=us1 hl;rfl,
 λ_ _ _ _ _ _ us hl=>by obtain⟨_,_,rfl⟩:=us2 hl;rfl,
 λ_ _ _ _ _ _ us hl=>by obtain⟨_,_,rfl⟩:=us2 hl;rfl,
 λ_ _ _ _ _ _ us hl=>by obtain⟨_,rfl⟩:=us1 hl;rfl,
 λ_ _ _ _ _ _ us hl=>by obtain⟨_,_,rfl⟩:=us2 hl;rfl,
 λ_ _ _ _ _ _ us hl=>by obtain⟨_,_,rfl⟩:=us2 hl;rfl,
 λ_ _ _ _ _ _ us hl=>by obtain⟨_,_,rfl⟩:=us2 hl;rfl,
 λ_ _ _ _ _ _ us hl=>by obtain⟨_,_,rfl⟩:=us2 hl;rfl,
 λ_ _ _ _ _ _ us hl=>by obtain⟨_,_,_,rfl⟩:=us3 hl;rfl,
 λ_ _ _ _ _ _ us hl=>by obtain⟨_,_,_,rfl⟩:=us3 hl;rfl,
 λ_ _ _ _ _ _ us hl=>by obtain⟨_,_,rfl⟩:=us2 hl;rfl,
 λ_ _ _ _ _ _ us hl=>by obtain⟨_,_,rfl⟩:=us2 hl;rfl,
 λ_ _ _ _ _ _ us hl=>by obtain⟨_,_,rfl⟩:=us2 hl;rfl,
 λ_ _ _ _ _ _ us hl=>by obtain⟨_,_,rfl⟩:=us2 hl;rfl,
 λ_ _ _ _ _ _ us hl=>by obtain⟨_,_,rfl⟩:=us2 hl;rfl,
 λ_ _ _ _ _ _ us hl=>by obtain⟨_,_,_,rfl⟩:=us3 hl;rfl,
 λ_ _ _ _ _ _ us hl=>by obtain⟨_,_,_,rfl⟩:=us3 hl;rfl,
 λ_ _ _ _ _ _ us hl=>by obtain⟨_,rfl⟩:=us1 hl;rfl,
 λ_ _ _ _ _ _ us hl=>by obtain⟨_,_,rfl⟩:=us2 hl;rfl,
 λ_ _ _ _ _ _ us hl=>by obtain⟨_,_,_,rfl⟩:=us3 hl;rfl,
 λ_ _ _ _ _ _ us hl=>by obtain⟨_,rfl⟩:=us1 hl;rfl,
 λ_ _ _ _ _ _ us hl=>by obtain⟨_,_,rfl⟩:=us2 hl;rfl,
 λ_ _ _ _ _ _ us hl=>by obtain⟨_,_,_,_,rfl⟩:=us4 hl;rfl,
 λ_ _ _ _ _ _ us hl=>by obtain⟨_,rfl⟩:=us1 hl;rfl,trivial⟩
theorem hR:m52 rows ["_law_refusals_right"] [("_law_refused",top 45)]:=λr hr hlm=>by
 have h:=Î.mp (show rows.all (λr=>!r.lm || (["_law_refusals_right"]:List Str).contains r.nm)=true from by decide +kernel) r hr
 rw[hlm] at h;exact⟨Ô3.mp h,top 45,169,.head _,rfl,rfl,λ_ _ _ _ _ _ us hl=>by obtain⟨_,rfl⟩:=us1 hl;rfl⟩
def asks:m60:=D40 rows nums ["_law_refusals_right"] [("_law_refused",top 45)]
def prg:Program:=ù
def vq:Program:=view prg [47]
def loose:List Str:=prg.boundNames.filter λx=>!(x == ("law":Str))
def runL(w:ç)(os:OsState):=(A20 PySem.W.through (PySem.W.stepOk 11 (some (.ref 6))) (PySem.W.stepT (denote treeTable) prg w) 20000 (X71 w os) (PySem.W.topStub prg)).map (λs =>
   (PySem.W.staticsOk (Î9 prg.main.body) (PySem.W.boot_heap w.params) s.abs.heap&&PySem.W.namesBound prg s.abs.heap&&PySem.W.gensDone s.abs&&PySem.W.laidKept (PySem.W.boot_heap w.params) s.abs.heap,
    PySem.W.openSeen vq loose (Î9 prg.main.body) (λ_=>true) true s.abs,asks.obs s.abs))
def runR(w:ç):=some (true,PySem.W.openGood vq loose,asks.due w)
def _root_.PySem.W.Fast.tw6616317606999120756:PySem.Program:=ù
theorem _root_.PySem.W.Fast.te6616317606999120756:ù=PySem.W.Fast.tw6616317606999120756:=rfl
theorem twins:(λ(_:runL=runL/\runR=runR)=>true) ⟨rfl,rfl⟩=true:=by k_qdec
theorem run_eq:∀ (w:ç) (os:OsState),PySem.W.Fast.tw14075725262101462980 w os=PySem.W.Fast.tw18139657281711212703 w:=λw os=>by kernel_rfl
theorem left:PySem.W.LeftO ù vq loose (λ_=>true) asks.hook.obs asks.hook.val 20000:=X81 (by kernel_rfl) rfl (λ_=>by kernel_rfl) λw os =>
 (congrFun (congrFun PySem.W.Fast.te14075725262101462980 w) os).trans ((run_eq w os).trans (congrFun PySem.W.Fast.te18139657281711212703 w).symm)
end K3
open PySem PySem.W PyProof.Rows
set_option maxRecDepth 100000 in
set_option maxHeartbeats 0 in
theorem PySem.Challenge.cw_tiechances_k02_lots_and_pieces_holds : PySem.Challenge.rw_tiechances_k02_lots_and_pieces.Holds := by
 w_on;o_law
 refine holds_open (q:=K3.vq) (loose:=K3.loose) (Xt:=λ_=>true) (XP:=λ_ _=>True) (Yf:=K3.asks.hook.obs) (Ya:=K3.asks.hook.val) (YP:=K3.asks.hook.says) K3.left K3.asks.hook.of K3.asks.hook.keeps (λ_ _=>trivial) (λ_ _ _ _ _=>trivial) (by rfl) (by rfl) (by rfl) (λs _=>recFacts_of rfl) rfl (by first | assumption | decide +kernel) (by decide +kernel) ⟨rfl,rfl,rfl,rfl,rfl,by decide +kernel⟩ ?hw ?hc
 case hw=>w_witness2
 case hc=>exact Q.I11 (l:=PySem.Challenge.rw_tiechances_k02_lots_and_pieces) (n:=63) (k:=40) (x:="_law_script") rfl (-0) rfl ⟨rfl,by decide,by decide⟩ (Q.Y21 (k:=37) (iL:=28) K3.ok K3.bd rfl rfl rfl (-0) K3.hR K3.pure)