import PyProof.Rows.All
import Wide.All
import OpenK.AllK
import Wide.FinOn
import Lean
import PyProof.EqAt
import PyProof.EqKinds
import PyProof.TupleCall
import KE.KSortTup
import OpenK.KRaise
import OpenK.KOwn
import PyProof.ExcBaseAll.ValueError
import KE.KIsAll
import PyProof.ExcAttrAll.ValueError
import PyProof.NsDelKeeps
import PyProof.RulesAs
import KE.KTryMore
import KE.KLam
import KE.KNestM
import OpenK.KEqL
import PyProof.Rows.EqDataRows
import PyProof.NeKinds
import PyProof.FactsAll.dict
import PyProof.FactsAll.subtypes
import PyProof.ListRange
import PyProof.TupleOfGen
import PyProof.TupleOfSeq
import KE.KTupSum
import PyProof.Rows.SumAny
import PyProof.Rows.SetFrom
import KE.KRevSl
import PyProof.WalksMore
import PyProof.SetRoads
import PySem.Challenge.RW_tiechances_k04_good_lots_and_cuts
local macro_rules
|`(∅)=>`(by omega)
|`(-0)=>`(by decide)
|`(1e1)=>`(by decide)
local macro_rules
|`(tactic|omega)=>`(tactic|lia)
open PySem renaming wpAny_bind→À,Value→Ä,wpAny_pure→Å,Shared→Æ,Addr→Ç,Expr→Ð,wpAny→Ñ,model→Ø,Program→à,mainGlobals→ç,wpAny_newObj_type→é,Heap→ê,Scope→ë,World→í,bootBuiltins→ñ,Around→ó,starEach→ý,Builtin→ÿ,wpAny_call_entry→À2,wpAny_callSpecial?_slot→À3,compareOp→À4,Paired→À5,wpAny_holding→À6,sizeLine_eq→Á1,Stmt→Á5,wpAny_field→Á6,wpAny_truthy_bool→Á8,wpAny_mono→Á9,codeAny_builtin→Â1,mem_of_lookup→Â3,FuncData→Ã0,wpAny_setField_rec→Ã3,rawInt→Ã9,cLine→Ä5,swappedStores→Ä7,foldedSetIterable→Å3,binaryOp→Å6,IsPair→Æ4,wpAny_seqItems→Ç3,Env→Ç8,wpAny_typeOf→È1,intKind→È4,codeAny_mono→È5,wpAny_rule→É9,call_meets→Ê0,assignEach→Ê1,Arguments→Ê5,wpAny_comprehension_free→Ë4,wpAny_attempt→Ë5,NameKind→Ë7,codeAny→Ë8,wpAny_Call_Name_kw→Ì4,wpAny_pyIter_list→Í1,wpAny_askSetting→Î0,wpAny_Name→Î1,swapsWith→Î2,builtinsNs→Î3,plainId_quiet→Î9,wpAny_loadName_local→Ï0,sliceBounds→Ï1,SetTable→Ï2,wpAny_passesOwn→Ï9,importedModules→Ð0,wpAny_pyIter_tuple→Ò0,pyNext→Ò1,isSubtype_type→Ò5,IsZip→Ò8,wpAny_setState_of→Ó9,getItem→Ô0,wpAny_execs_cons→Õ0,checkBuiltinCall→Õ1,wpAny_call→Õ8,backTo→Õ9,IsRange→Ö1,wpAny_execs_nil→Ö2,wpAny_storeName_local→Ö5,wpAny_updateSeq_pair→Ù2,wpAny_runValue→Ù3,wpAny_newFunctionEnv→Ù4,firstArgMember→Ù7,codeAny_call_builtin→Ù8,assign→Ù9,IsPart→Ú1,codeAmong→Ú3,wpAny_setEntries_of→Û0,wpAny_standAt→Û6,wpAny_onRaise→Û7,wpAny_newList→Û8,foldedForSure→Ü0,typeIs_int→Ü2,intKind_is→Ü3,IsTupleKey→Ü8,wpAny_sequenceKey→Ý3,wpAny_assign_Name→Ý4,storedH→Ý5,holding→Ý6,callerA→Ý7,GenState→Þ1,wpAny_isInstance→ß1,pickOrder→ß2,noFill_tuple_add→ß3,TriplesOk→ß5,wpAny_of_eq→ß8,letOwnedTupleGo→à3,codeAny_of_tree→à5,wpAny_newFunctionEnv_cells→à9
open Bool renaming and_eq_true→Á,false_ne_true→Ï,not_eq_true'→î,eq_iff_iff→Â7,false_eq_true→Ã7,true_and→Ä2,or_eq_true→Å9,false_and→Ì3,and_true→Ø4,not_eq_false'→Ù0,not_true→à2
open PySem.W renaming Frag→Â,kas_item→ø,kas_desc→Ã5,kas_place→Ä4,codeHdIn→Å1,kia_one→Ç1,kas_rev→È2,kas_asc→È3,tabObj→È6,boot_heap→Ê4,excIn→Ì8,kitOne→Î4,keepIn→Î5,kas_descPart→Ñ5,kas_sort→Ò4,nsIn→Ò6,kia_tup→Ø0,kas_count→ß4
open PySem.Heap renaming get?_push_of_some→Ã,get?_push_size→Ê,lt_size→Þ,get?_update_self→È0,size_push→É6,get?_update_other→Ì1,SameBut→Ì2,IsTuple→Ú8
open List renaming length_map→È,mem_cons_of_mem→Ë,mem_cons_self→Ì,mem_map→Ò,size_toArray→Ö,mem_singleton→Ù,all_eq_true→Ú,getElem?_map→Û,getD_eq_getElem?_getD→Ü,getElem?_eq_some_iff→Ý,getElem?_set_ne→ß,getElem?_eq_getElem→á,length_cons→ã,getElem?_set_self→å,mem_of_getElem?→æ,mem_append_right→ì,mem_cons→ï,replicate→ð,range→ò,length_append→ù,length_range→û,mem_range→À1,lookup_cons→À7,length_set→À9,mem_append→Á2,map_append→Á3,filterMap_cons→Á4,length_filter_le→Â0,length_nil→Ã1,not_mem_nil→Ã2,filter_eq_nil_iff→Ã6,map_map→Ã8,all_eq_true→Ä6,range'→Ä9,mem_append_left→Å0,mem_cons→Å2,all_cons→Å4,length_take→Å5,getElem?_append_right→Å7,map_cons→Æ0,replicate_succ→Æ9,map_congr_left→Ç0,getElem_mem→Ç4,append_nil→Ç6,append_assoc→Ç7,range_eq_range'→Ç9,pairwise_lt_range→È8,mem_iff_getElem→É0,filter_map→É3,filter_congr→É7,contains_iff_mem→É8,zip_cons_cons→Ê6,pairwise_cons→Ë0,getElem?_cons_zero→Ë1,length_drop→Ë6,take_of_length_le→Ë9,flatten_cons→Ì6,nil_append→Í4,forIn_cons→Í5,lookup→Í6,filter_cons→Í8,getElem?_range→Î7,perm_ext_iff_of_nodup→Ï7,getElem?_drop→Ï8,mem_filter→Ð9,length_reverse→Ñ0,getElem?_append_left→Ñ1,drop_eq_getElem_cons→Ñ2,filter_append→Ó0,range'_succ→Ó2,isEmpty_iff→Ó3,getElem?_replicate→Ó4,nodup_cons→Ô3,mem_filter→Ô4,reverse_cons→Ô7,eraseIdx_sublist→Ô8,contains_iff_mem→Ô9,length→Õ3,getElem?_append→Õ4,contains_eq_mem→Õ5,mem_range→Ö6,map_nil→Ö7,map_id'→Ö8,mapM_cons→Ö9,forIn_nil→Ø1,mem_filterMap→Ø6,length_range'→Ø7,getElem?_take→Ø8,zip_nil_left→Ú5,pairwise_map→Ú6,length_eraseIdx_of_lt→Þ8,Pairwise→ß9,pairwise_singleton→à6,drop_eq_nil_of_le→à7,length_singleton→á1,length_replicate→á2,getElem?_eq_none→á3
open Option renaming map_eq_some_iff→É,bind_eq_some_iff→Í,map→Ì9,ne_none_iff_exists'→Ý1,isSome_iff_exists→Þ7
open Nat renaming le_refl→Î,le_trans→Ó,lt_of_lt_of_le→Ô,ne_of_lt→Õ,lt_irrefl→Â5,lt_of_le_of_lt→Å8,zero_le→Æ5,lt_succ_of_lt→Æ8,le_of_lt→Ç5,ne_of_gt→Ê7,le_add_right→Ì5,max→Ï3,lt_succ_self→Ï6,not_lt_zero→Ò2,pow_le_pow_right→Ö0,max_le→Ú0,mul_comm→Û1,le_of_eq→Û2,min_eq_right→Ü7,min_eq_left→Þ0,le_mul_of_pos_left→á0
open ForInStep renaming yield→â,done→è
open PySem.Value renaming none→ä,ref→Á7,type→Â2,int→Æ2,bool→È9,builtin→Ñ6,notImplemented→Õ2
open PySem.NameKind renaming free→ô,cell→Æ3
open PySem.Challenge renaming pw_tiechances_k04_good_lots_and_cuts→õ
open PyProof.Rows renaming slot_tuple_getitem→ö,callWith_type1→Â4,SortSt→Â9,seqObj→Ã4,IntsAre→Ì0,SortKind→Í2,IsTup→Ï4,envOfC→Ð1,listItems_at→Ñ4,AllBare→Ô1,slicePart_none→Ù5,oneType'→Ù6,pendingOf→Ú2,listUpdate_at→Û9,assignInOrder_cons→Ü4,args_tuple_getitem→Ü5,get?_update_seq→à4
open Array renaming getElem?_toList→ú,extract→Æ6,getElem?_eq_getElem→É4,length_toList→Ê8,getD_eq_getD_getElem?→Î8,toArray_toList→Ð8,map_extract→Ò3,size→Ø5,toList_inj→Û4,map_append→Û5
open Option.some renaming inj→ü,injEq→Ê2
open PySem.Obj renaming mapSeq→þ
open False renaming elim→À0
open PySem.Str renaming ofString→À8
open Ne renaming symm→Á0
open Int renaming toNat_natCast→Â6,eq_ofNat_of_zero_le→Ë3,eq_of_mul_eq_mul_right→Ð7,emod_eq_of_lt→Ñ9
open PySem.Around renaming under_plainId→Â8,frames_deeper→à8
open PySem.Builtin.Range renaming rangeSize→Ä0,small→Ò9
open PySem.AutoSeq1 renaming wpAny_loadPart'→Ä1,wpAny_loadPart'→Ä8,idx_int→Ù1,sub_tuple_tuple→Ý2
open PySem.Builtin.List renaming listExtendWith→Ä3,listTooLong→Í9,listSameRef→Ú9
open PySem.Heap.SameBut renaming update→Æ1
open PySem.Builtin.Tuple renaming tupleExact→Æ7
open PyProof.Rows.KeyOrd renaming kle_refl→Ç2,kle_of_klt→Ð6,kle_trans→Ú7
open Classical renaming byContradiction→È7
open List.Perm renaming eq_of_pairwise→É1
open PySem.Builtin.Slice renaming slicePlaces→É2,sliceAdjust→Í7,sliceApplied→Ô6
open PySem.F renaming slot_tuple_iterator_next→É5,called_set→Ê3,type_list_append→Ð2,slot_list_append→Ð3,args_tuple_add_2→Ð4,plainAttrs_list→Ñ7,entry_tuple_add→Ñ8,slot_tuple_add→Ò7,slot_tuple_lt→Ó7,called_tuple→Ô2,slot_zip_next→Õ6,slot_int_rmul→Õ7,args_tuple_mul_2→Û3,excBase_ValueError→Ü6,entry_tuple_mul→Ü9,slot_tuple_mul→Þ2,plain_tuple_new→Þ4,plain_list_iadd→Þ5,args_tuple_lt_2→Þ6,entry_tuple_lt→ß6,args_tuple_iterator_next_1→ß7,entry_tuple_iterator_next→à0
open True renaming intro→Ê9
open List.Pairwise renaming filter→Ë2
open PyProof.Rows.SortSt renaming mk'→Ì7
open Array.Perm renaming refl→Í0
open PySem.Builtin.SmallTypes renaming ownedTupleIsFree→Í3
open PySem.W.Looks renaming ld→Î6,of_pure→Ü1,here→Ý9
open PySem.Calls renaming Name_function_global→Ï5,spliced_nil→Ñ3,spliced_cons→Ø3,call_function_entry→Þ9,loadGlobal_global→à1,evalArgs_plain→á4
open Prod.mk renaming injEq→Ð5
open Or renaming inl→Ó1,inr→Ú4
open PySem.W.KasT renaming ret→Ó5
open PySem.Heap.IsSliceOf renaming new→Ó6
open PySem.PyData renaming depthAll→Ó8,eqv→Ý0
open PyProof.Rows.F renaming plain_set_update_loop→Ô5
open Sum renaming inr→Ö3,inl→Ö4
open PySem.SeqAt renaming EqAt→Ø2
open PySem.Code renaming quiet_builtin→Ø9
open PySem.Walks renaming list→Ý8
open PySem.Shared renaming TypeIs→Þ3
open PySem.Builtin.Int renaming intBits→ß0
local macro_rules
|`(command|def $i:declId $s:optDeclSig $v)=>`(noncomputable def $i:declId $s:optDeclSig $v)
|`(command|abbrev $i:declId $s:optDeclSig $v)=>`(noncomputable abbrev $i:declId $s:optDeclSig $v)
open PySem.W (methodObj hideAll hideAll_get of_hideAll callWith_K cellsFrom_some fnOf codeRec_of kitx_none kitx_bool kitx_int kitx_str kitx_tuple kitx_list kitx_dict kitAny kia_tup envX kla_fn codeHd_of_K kla_obj mg_none_of mg_of view)
open PySem.Heap (lt_size size_push)
open List (range filterMap_cons mem_cons_self mem_cons_of_mem mem_append_left mem_append_right append_nil of_mem_zip replicate length_take mem_of_getElem? length_append length_map size_toArray length_drop map_nil map_cons length_set reverse_cons replicate_succ flatten_cons foldl append_assoc lookup_cons forIn_cons toArray forIn_nil mem_cons not_mem_nil range' map_toArray length_nil nil_append length_range zip_cons_cons length_cons length_reverse all_eq_true map_map map_congr_left mem_filter mem_range length_filter_le getElem_mem isEmpty_nil map_id all_nil mapM_cons any_eq_true all_map pairwise_lt_range all_cons range_eq_range' filter_congr contains_iff_mem drop_length filter_cons map_take map_id' filter_map isEmpty_iff isEmpty_map filter_append)
open Array (length_toList toList getD size_map map_extract push extract setIfInBounds toArray_toList)
open Nat (ne_of_gt zero_le le_add_right not_lt_zero ble beq lt_succ_of_lt le_succ lt_succ_self)
open PyProof.Rows (lt_int)
open Int (toNat_natCast gcd emod_nonneg emod_lt_of_pos natAbs_mul mul_pos)
open PySem.Builtin.Slice (sliceAdjust slicePlaces sliceApplied sliceFields)
open PySem.Builtin.Tuple (tupleItemsOf tupleExact tupleCompareSizes tupleTooMany tupleIsExact)
open Bool (and_eq_true false_eq_true not_eq_true' or_eq_true)
open Option (getD_none map_some)
open PySem.Builtin.SmallTypes (nextOf ownedTupleIsFree ownedTupleHandOut)
set_option bootstrap.genMatcherCode false
set_option compiler.extract_closed false
set_option genInjectivity false
set_option genSizeOf false
set_option autoImplicit true
set_option relaxedAutoImplicit true
set_option Elab.async false
set_option linter.all false
set_option maxRecDepth 100000
namespace L2
open PySem PySem.Spec PyProof.Rows
abbrev Key:=Sum Int Str
def k22:Key->Ä->Bool
 |.inl k,v=>Ä.isInt k v|.inr x,v=>Ä.isStrOf x v
def P72(w:í):Key->Int
 |.inl k=>hashInt k|.inr x=>hashStr w x
theorem d30:∀ {k:Key}{v:Ä},k22 k v=true->(∃ i t,k=Ö4 i/\v=Æ2 i t)\/(∃ x t,k=Ö3 x/\v=Ä.str x t)
 |.inl i,v,h=>by
  obtain⟨t,e⟩:=Ä.isInt_shape (k:=i) (v:=v) h;exact .inl ⟨i,t,rfl,e⟩
 |.inr x,v,h=>by
  obtain⟨t,e⟩:=Ä.isStrOf_shape (x:=x) (v:=v) h;exact .inr ⟨x,t,rfl,e⟩
theorem k32(a b:Int):decide ((Ö4 a:Key)=Ö4 b)=(a == b):=by
 by_cases e:a=b
 ·subst e;simp
 ·have h:¬ (Ö4 a:Key)=Ö4 b:=λq=>e (Ö4.inj q);rw[decide_eq_false h];exact(beq_eq_false_iff_ne.mpr e).symm
theorem k42(a b:Str):decide ((Ö3 a:Key)=Ö3 b)=decide (a=b):=by
 by_cases e:a=b
 ·subst e;simp
 ·have h:¬ (Ö3 a:Key)=Ö3 b:=λq=>e (Ö3.inj q);rw[decide_eq_false h,decide_eq_false e]
theorem k52(a:Int)(b:Str):decide ((Ö4 a:Key)=Ö3 b)=false:=decide_eq_false (λq=>nomatch q)
theorem k62(a:Str)(b:Int):decide ((Ö3 a:Key)=Ö4 b)=false:=decide_eq_false (λq=>nomatch q)
def p21(prog:à)(w:í):PySem.KeyKind prog w Key where
 is:=k22
 hash:=P72 w
 inj:=λv a b ha hb=>by
  rcases d30 ha with ⟨i,t,rfl,rfl⟩ | ⟨x,t,rfl,rfl⟩
  ·rcases d30 hb with ⟨j,u,rfl,e⟩ | ⟨y,u,rfl,e⟩
   ·injection e with e1 _;rw[e1]
   ·exact nomatch e
  ·rcases d30 hb with ⟨j,u,rfl,e⟩ | ⟨y,u,rfl,e⟩
   ·exact nomatch e
   ·injection e with e1 _;rw[e1]
 byValue:=λk v h=>by
  rcases d30 h with ⟨i,t,rfl,rfl⟩ | ⟨x,t,rfl,rfl⟩ <;> rfl
 pyHash:=λhv h=>by
  rcases d30 hv with ⟨i,t,rfl,rfl⟩ | ⟨x,t,rfl,rfl⟩
  ·exact wpAny_pyHash_int h
  ·exact wpAny_pyHash_str h
 eqBool:=λhu hv h=>by
  rcases d30 hu with ⟨i,t,rfl,rfl⟩ | ⟨x,t,rfl,rfl⟩
  ·rcases d30 hv with ⟨j,u,rfl,rfl⟩ | ⟨y,u,rfl,rfl⟩
   ·rw[k32] at h;exact wpAny_eqBool_int h
   ·rw[k52] at h;exact Ø2.int_str i t y u _ _ _ _ h
  ·rcases d30 hv with ⟨j,u,rfl,rfl⟩ | ⟨y,u,rfl,rfl⟩
   ·rw[k62] at h;exact Ø2.str_int x t j u _ _ _ _ h
   ·rw[k42] at h;exact wpAny_eqBool_str h
 «strs»:=λk x t v h=>by
  rcases d30 h with ⟨i,u,rfl,e⟩ | ⟨y,u,rfl,e⟩
  ·exact nomatch e
  ·injection e with e1 _;subst e1;cases v <;> rfl
inductive V where
 |non | bl (b:Bool) | int (i:Int) | str (x:Str) | byt (b:Array UInt8) | flt (b:UInt64) | ref (a:Addr) | ty (n:String)
 deriving DecidableEq
def RelV:V->Ä->Prop
 |.non,u=>u=ä|.bl b,u=>u=È9 b|.int i,u=>∃ t,u=Æ2 i t|.str x,u=>∃ t,u=Ä.str x t|.byt b,u=>∃ t,u=Ä.bytes b t|.flt b,u=>∃ t,u=Ä.float b t|.ref a,u=>u=Á7 a|.ty n,u=>u=Â2 n
abbrev Vals:List V->List Ä->Prop:=À5 RelV
def Vals.length{xs:List V}{us:List Ä}(r:Vals xs us):xs.length=us.length:=À5.length r
theorem Vals.get:∀ {xs:List V}{us:List Ä}{i:Nat}{x:V},Vals xs us->xs[i]?=some x->∃ u,us[i]?=some u/\RelV x u
 |_,_,_,_,.nil,e=>by simp at e|_,_,0,_,.cons r _,e=>by simp at e;subst e;exact⟨_,rfl,r⟩
 |_,_,i + 1,x,.cons _ t,e=>by
  obtain⟨u,h1,h2⟩:=Vals.get (i:=i) (x:=x) t (by simpa using e)
  exact⟨u,by simpa using h1,h2⟩
theorem Vals.set{x:V}{u:Ä}(r:RelV x u):∀ {xs:List V}{us:List Ä} (i:Nat),Vals xs us->Vals (xs.set i x) (us.set i u)
 |_,_,_,.nil=>.nil|_,_,0,.cons _ t=>.cons r t|_,_,i + 1,.cons q t=>.cons q (Vals.set r i t)
theorem Vals.append:∀ {xs ys:List V}{us ws:List Ä},Vals xs us->Vals ys ws->Vals (xs++ys) (us++ws)
 |_,_,_,_,.nil,s=>s|_,_,_,_,.cons r t,s=>.cons r (Vals.append t s)
theorem Vals.take:∀ {xs:List V}{us:List Ä} (n:Nat),Vals xs us->Vals (xs.take n) (us.take n)
 |_,_,0,_=>.nil|_,_,_ + 1,.nil=>.nil|_,_,n + 1,.cons r t=>.cons r (Vals.take n t)
theorem Vals.drop:∀ {xs:List V}{us:List Ä} (n:Nat),Vals xs us->Vals (xs.drop n) (us.drop n)
 |_,_,0,r=>r|_,_,_ + 1,.nil=>.nil|_,_,n + 1,.cons _ t=>Vals.drop n t
def M22:Option V->Option Ä->Prop
 |some v,some u=>RelV v u|none,none=>True|_,_=>False
def KV{κ:Type}:List (κ × V)->List (κ × Ä)->Prop:=À5 λ(p:κ × V) (q:κ × Ä)=>p.1=q.1/\RelV p.2 q.2
def kV:Key->V
 |.inl i=>.int i|.inr x=>.str x
inductive HO where
 |lst (xs:List V)
 |tup (xs:List V)
 |dK (kvs:List (Key × V)) | dT (kvs:List (List Key × V))
 |set (S:Int->Bool) (n:Nat)
 |ins (C dx:Addr) (fs:List (Str × V))
 |own (x:Addr)
 |xd (fs:List (Str × V))
 |met (f x:Addr)
 |rng (lo hi:Int)
 |frz (o:Obj) (u:HO)
 |tbl (ps:Array Value)
 |ext (φ:Heap->Prop)
abbrev Hp:=Ç->Option HO
def upd(H:Hp)(a:Ç)(o:HO):Hp:=λb=>if b=a then some o else H b
theorem a70{H:Hp}{a:Ç}{o:HO}:upd H a o a=some o:=by unfold upd;rw[if_pos rfl]
theorem a50{H:Hp}{a b:Ç}{o:HO}(h:b≠a):upd H a o b=H b:=by unfold upd;rw[if_neg h]
theorem a80{H:Hp}{a b:Ç}{o:HO}(h:H a=some o)(h':H b=none):a≠b:=by
 intro e;subst e;rw[h] at h';cases h'
section
variable (P:à) (w:í)
def h70(H:Hp)(h:ê)(a:Ç):HO->Prop
 |.lst xs=>xs.length<=sizeLine/\∃ (its:List Ä) (n:Nat),Vals xs its/\h.get? a=some { cls:=.type "list",data:=.seq its.toArray n }|.tup xs=>xs.length<=sizeLine/\∃ its:List Ä,Vals xs its/\Ï4 h a its.toArray|.dK kvs=>kvs.length<=sizeLine/\(a == sysModules)=false/\∃ vs,KV kvs vs/\h.DictOf (p21 P w) a vs
 |.dT kvs=>kvs.length<=sizeLine/\(a == sysModules)=false/\∃ xs:List (List Key × Ç × Ä),
   À5 (λ(p:List Key × V) (q:List Key × Ç × Ä)=>p.1=q.1/\H q.2.1=some (.tup (p.1.map kV))/\RelV p.2 q.2.2) kvs xs /\
   ∃ o es ep,h.get? a=some o/\o.ExactDict/\o.data=.dict es ep/\es.toList=xs.map (entryOfKey (tupleKind (p21 P w)))/\(xs.map (·.1)).Nodup
 |.set S n=>h.SetOf (È4 P w) a S n
 |.ins C dx fs=>H dx=some (.own a)/\fs.length<=1000/\dx≠a/\h.get? a=some (PySem.W.instObj C dx) /\
   ∃ mA,h.Ns1 dx mA/\(∀ f,M22 (fs.lookup f) (mA f))/\PySem.Within mA (fs.map (·.1))
 |.own _=>∃ o,h.get? a=some o|.xd fs=>∃ mA,h.Ns1 a mA/\∀ f,M22 (fs.lookup f) (mA f)|.rng lo hi=>∃ t u v,h.get? a=some { cls:=.type "range",data:=.fields #[.int lo t,.int hi u,.int 1 v] }|.frz o u=>h.get? a=some o/\h70 H h a u|.tbl ps=>h.get? a=some { cls:=.none,data:=.fields ps }|.met f x=>h.get? a=some (methodObj (.ref f) (.ref x))|.ext φ=>φ h/\(∃ o,h.get? a=some o)/\∀ h1 h2:ê,φ h1->(∀ o,h1.get? a=some o->h2.get? a=some o)->φ h2
def HOk(H:Hp)(h:ê):Prop:=∀ a o,H a=some o->h70 P w H h a o
end
section
variable {P:à}{w:í}{H H':Hp}{h h':ê}{a:Ç}{o:HO}
theorem h70.lt(x:h70 P w H h a o):a < h.objs.size:=by
 cases o with
 |lst xs=>obtain⟨_,_,_,_,e⟩:=x;exact Þ e
 |tup xs=>obtain⟨_,_,_,p⟩:=x;exact p.lt
 |dK kvs=>obtain⟨_,_,_,_,o,_,_,e,_⟩:=x;exact Þ e
 |dT kvs=>obtain⟨_,_,_,_,o,_,_,e,_⟩:=x;exact Þ e
 |set S n=>obtain⟨o,_,_,_,e,_⟩:=x;exact Þ e
 |ins C dx fs=>obtain⟨_,_,_,e,_⟩:=x;exact Þ e
 |own y=>obtain⟨_,e⟩:=x;exact Þ e
 |xd fs=>obtain⟨_,⟨_,_,_,e,_⟩,_⟩:=x;exact Þ e
 |rng lo hi=>obtain⟨_,_,_,e⟩:=x;exact Þ e
 |frz ob u=>obtain⟨e,_⟩:=x;exact Þ e
 |tbl ps=>exact Þ (show h.get? a=some _ from x)|met f y=>exact Þ (show h.get? a=some _ from x)|ext φ=>obtain⟨_,⟨_,e⟩,_⟩:=x;exact Þ e
theorem À5.R11{α β:Type}{F G:α->β->Prop}:∀ {l₁:List α}{l₂:List β},À5 F l₁ l₂->(∀ a b,F a b->G a b)->À5 G l₁ l₂
 |_,_,.nil,_=>.nil|_,_,.cons r t,f=>.cons (f _ _ r) (À5.R11 t f)
theorem h70.j71(x:h70 P w H h a o)(k:∀ b u,(b=a\/H b=some (.own a))->h.get? b=some u->h'.get? b=some u)
 (ho:∀ b,H b=some (.own a)->H' b=some (.own a)) (ht:∀ b xs,H b=some (.tup xs)->H' b=some (.tup xs)):h70 P w H' h' a o:=by
 induction o with
 |lst xs=>obtain⟨z,its,n,r,e⟩:=x;exact⟨z,its,n,r,k _ _ (.inl rfl) e⟩
 |tup xs=>obtain⟨z,its,r,ob,e,c⟩:=x;exact⟨z,its,r,ob,k _ _ (.inl rfl) e,c⟩
 |dK kvs=>obtain⟨z,y,vs,r,ob,es,ep,e,c⟩:=x;exact⟨z,y,vs,r,ob,es,ep,k _ _ (.inl rfl) e,c⟩
 |dT kvs =>
  obtain⟨z,y,xs,r,ob,es,ep,e,c⟩:=x;exact⟨z,y,xs,À5.R11 r λp q z=>⟨z.1,ht _ _ z.2.1,z.2.2⟩,ob,es,ep,k _ _ (.inl rfl) e,c⟩
 |set S n=>obtain⟨ob,es,ep,t,e,c⟩:=x;exact⟨ob,es,ep,t,k _ _ (.inl rfl) e,c⟩
 |ins C dx fs =>
  obtain⟨d,z,ne,e,mA,⟨od,es,ep,e2,c⟩,r⟩:=x;exact⟨ho _ d,z,ne,k _ _ (.inl rfl) e,mA,⟨od,es,ep,k _ _ (.inr d) e2,c⟩,r⟩
 |own y=>obtain⟨ob,e⟩:=x;exact⟨ob,k _ _ (.inl rfl) e⟩
 |xd fs=>obtain⟨mA,⟨od,es,ep,e,c⟩,r⟩:=x;exact⟨mA,⟨od,es,ep,k _ _ (.inl rfl) e,c⟩,r⟩
 |rng lo hi=>obtain⟨t,u,v,e⟩:=x;exact⟨t,u,v,k _ _ (.inl rfl) e⟩
 |frz ob u ih=>obtain⟨e,q⟩:=x;exact⟨k _ _ (.inl rfl) e,ih q⟩
 |tbl ps =>
  have e:h.get? a=some { cls:=.none,data:=.fields ps }:=x;show h'.get? a=some { cls:=.none,data:=.fields ps };exact k a _ (.inl rfl) e
 |met f y =>
  have e:h.get? a=some (methodObj (.ref f) (.ref y)):=x;show h'.get? a=some (methodObj (.ref f) (.ref y));exact k a _ (.inl rfl) e
 |ext φ=>obtain⟨p,⟨o,e⟩,st⟩:=x;exact⟨st _ _ p λo q=>k _ _ (.inl rfl) q,⟨o,k _ _ (.inl rfl) e⟩,st⟩
def HOk.lt(x:HOk P w H h)(e:H a=some o):a < h.objs.size:=(x a o e).lt
theorem HOk.fresh(x:HOk P w H h)(e:h.objs.size<=a):H a=none:=by
 cases q:H a with
 |none=>rfl|some u=>exact absurd (Ô (x.lt q) e) (Â5 _)
def HOk.kept(x:HOk P w H h)(k:∀ b u,h.get? b=some u->h'.get? b=some u):HOk P w H h':=λa o e =>
 (x a o e).j71 (λb u _ q=>k b u q) (λ_ q=>q) λ_ _ q=>q
theorem HOk.laid(x:HOk P w H h)(k:∀ b u,h.get? b=some u->h'.get? b=some u)(hp:h.objs.size<=a)(new:h70 P w (upd H a o) h' a o):HOk P w (upd H a o) h':=λb u e=>by
 have hn:=x.fresh hp;by_cases hb:b=a
 ·subst hb;rw[a70] at e;cases e;exact new
 ·rw[a50 hb] at e;exact(x b u e).j71 (λc v _ q=>k c v q) (λc q=>by rw[a50 (a80 q hn)];exact q) λc xs q=>by rw[a50 (a80 q hn)];exact q
end
def Rd(H:Hp)(a:Ç)(u:HO):Prop:=H a=some u\/∃ o,H a=some (.frz o u)
theorem Rd.ok{P:à}{w:í}{H:Hp}{h:ê}{a:Ç}{u:HO}(r:Rd H a u)(x:HOk P w H h):h70 P w H h a u:=by
 rcases r with r | ⟨o,r⟩
 ·exact x a u r
 ·obtain⟨_,q⟩:=x a _ r;exact q
def Mut:Option HO->Prop
 |some (.lst _)=>True|some (.dK _)=>True|some (.dT _)=>True|some (.set _ _)=>True|some (.ins _ _ _)=>True|some (.ext _)=>True|_=>False
section
variable {P:à}{w:í}{H:Hp}{h h':ê}{x e:Ç}{o':HO}
theorem HOk.write(ok:HOk P w H h)(mu:Mut (H x))(he:e=x\/H e=some (.own x))(k:∀ b u,b≠e->h.get? b=some u->h'.get? b=some u)(heo:∃ u,h'.get? e=some u)
 (new:h70 P w (upd H x o') h' x o'):HOk P w (upd H x o') h':=λb u q=>by
 have nown:∀ c y,H c=some (.own y)->c≠x:=λc y r z=>by subst z;rw[r] at mu;exact mu
 have ntup:∀ c xs,H c=some (.tup xs)->c≠x:=λc xs r z=>by subst z;rw[r] at mu;exact mu
 by_cases hb:b=x
 ·subst hb;rw[a70] at q;cases q;exact new
 ·rw[a50 hb] at q;by_cases hbe:b=e
  ·have q':H b=some (.own x):=by
    rcases he with z | z
    ·exact absurd (hbe.trans z) hb
    ·rw[hbe];exact z
   rw[q] at q';cases q';obtain⟨v,hv⟩:=heo;exact⟨v,by rw[hbe];exact hv⟩
  ·refine(ok b u q).j71 (λc v hc r=>k c v ?_ r) (λc r=>by rw[a50 (nown c b r)];exact r) λc xs r=>by rw[a50 (ntup c xs r)];exact r
   rcases hc with rfl | hc
   ·exact hbe
   ·rintro rfl;rcases he with z | z
    ·exact nown c b hc z
    ·rw[hc] at z;cases z;exact hb rfl
end
structure Un(fs ex:List Addr)(H H':Hp)(h h':Heap):Prop where
 keep:∀ b o,h.get? b=some o->H b=none->b ∉ fs->b ∉ ex->h'.get? b=some o
 slot:∀ b o,h.get? b=some o->H b=none->b∈fs->b ∉ ex->∃ sl,h'.get? b=some { o with slots:=sl }
 free:∀ b o,h.get? b=some o->H b=none->b ∉ ex->H' b=none
 there:∀ b o,h.get? b=some o->b ∉ ex->∃ o',h'.get? b=some o'
 tups:∀ b xs,H b=some (.tup xs)->H' b=some (.tup xs)
 frzs:∀ b o u,H b=some (.frz o u)->H' b=some (.frz o u)
 tbls:∀ b ps,H b=some (.tbl ps)->∃ more,H' b=some (.tbl (ps++more))
section
variable {fs fs' ex ex':List Ç}{H H1 H2:Hp}{h h1 h2 h':ê}{a x e:Ç}{o:HO}
theorem Un.any(u:Un fs ex H H1 h h1){b:Ç}{ob:Obj}(q:h.get? b=some ob)(n:H b=none)(hx:b ∉ ex):∃ sl,h1.get? b=some { ob with slots:=sl }:=by
 by_cases hb:b∈fs
 ·exact u.slot b ob q n hb hx
 ·exact⟨ob.slots,u.keep b ob q n hb hx⟩
theorem Un.trans(a:Un fs ex H H1 h h1)(b:Un fs ex H1 H2 h1 h2):Un fs ex H H2 h h2 where
 keep:=λc ob q n hc hx=>b.keep c ob (a.keep c ob q n hc hx) (a.free c ob q n hx) hc hx
 slot:=λc ob q n hc hx=>by
  obtain⟨sl,e1⟩:=a.slot c ob q n hc hx;obtain⟨sl',e2⟩:=b.slot c _ e1 (a.free c ob q n hx) hc hx;exact⟨sl',e2⟩
 free:=λc ob q n hx=>by
  obtain⟨o',e1⟩:=a.there c ob q hx;exact b.free c o' e1 (a.free c ob q n hx) hx
 there:=λc ob q hx=>by
  obtain⟨o',e1⟩:=a.there c ob q hx;exact b.there c o' e1 hx
 tups:=λc xs q=>b.tups c xs (a.tups c xs q)
 frzs:=λc ob xs q=>b.frzs c ob xs (a.frzs c ob xs q)
 tbls:=λc ps q=>by
  obtain⟨m1,e1⟩:=a.tbls c ps q;obtain⟨m2,e2⟩:=b.tbls c _ e1;exact⟨m1++m2,by rw[e2,Array.append_assoc]⟩
def Un.kept(k:∀ b u,h.get? b=some u->h'.get? b=some u):Un fs ex H H h h':=
 ⟨λb ob q _ _ _=>k b ob q,λb ob q _ _ _=>⟨ob.slots,k b ob q⟩,λ_ _ _ n _=>n,λb ob q _=>⟨ob,k b ob q⟩,λ_ _ q=>q,λ_ _ _ q=>q,λ_ ps q=>⟨#[],by rw[q];simp⟩⟩
def Un.refl:Un fs ex H H h h:=Un.kept λ_ _ q=>q
theorem Un.laid(k:∀ b u,h.get? b=some u->h'.get? b=some u)(hp:h.objs.size<=a)(hn:H a=none):Un fs ex H (upd H a o) h h' where
 keep:=λb u q _ _ _=>k b u q
 slot:=λb u q _ _ _=>⟨u.slots,k b u q⟩
 free:=λb u q n _=>by rw[a50 (Õ (Ô (Þ q) hp))];exact n
 there:=λb u q _=>⟨u,k b u q⟩
 tups:=λb xs q=>by rw[a50 (a80 q hn)];exact q
 frzs:=λb u xs q=>by rw[a50 (a80 q hn)];exact q
 tbls:=λb ps q=>⟨#[],by rw[a50 (a80 q hn),q];simp⟩
theorem Un.write(mu:Mut (H x))(he:e=x\/H e=some (.own x))(k:∀ b u,b≠e->h.get? b=some u->h'.get? b=some u)(heo:∃ u,h'.get? e=some u):Un fs ex H (upd H x o) h h':=by
 have hx:∀ b,H b=none->b≠x:=λb n z=>by subst z;rw[n] at mu;exact mu
 have hb:∀ b,H b=none->b≠e:=λb n z=>by
  subst z;rcases he with r | r
  ·exact hx b n r
  ·rw[n] at r;cases r
 have hm:∀ b u,H b=some u->¬ Mut (some u)->b≠x:=λb u q nm z=>by subst z;rw[q] at mu;exact nm mu
 refine⟨λb u q n _ _=>k b u (hb b n) q,λb u q n _ _=>⟨u.slots,k b u (hb b n) q⟩,λb u q n _=>by rw[a50 (hx b n)];exact n,λb u q _=>?_,
  λb xs q=>by rw[a50 (hm b _ q λz=>z)];exact q,λb u xs q=>by rw[a50 (hm b _ q λz=>z)];exact q,λb ps q=>⟨#[],by rw[a50 (hm b _ q λz=>z),q];simp⟩⟩
 by_cases hbe:b=e
 ·subst hbe;exact heo
 ·exact⟨u,k b u hbe q⟩
def Un.mono(u:Un fs ex H H1 h h1)(hs:∀ b∈fs,b∈fs')(hx:∀ b∈ex,b∈ex'):Un fs' ex' H H1 h h1:=
 ⟨λb ob q n hb he=>u.keep b ob q n (λz=>hb (hs b z)) λz=>he (hx b z),λ_ _ q n _ he=>u.any q n λz=>he (hx _ z),λb ob q n he=>u.free b ob q n λz=>he (hx b z),λb ob q he=>u.there b ob q λz=>he (hx b z),u.tups,u.frzs,u.tbls⟩
end
def trk(h:ê)(H:Hp):List Addr:=(ò h.objs.size).filter λa=>(H a).isSome
def G41(h:ê)(H:Hp):Heap:=hideAll h (trk h H)
def p31(h:ê)(H:Hp):(G41 h H).objs.size=h.objs.size:=PySem.W.hideAll_size _ _
def J40{h:ê}{H:Hp}{b:Ç}{o:Obj}(e:h.get? b=some o)(n:H b=none):(G41 h H).get? b=some o:=
 hideAll_get _ e λhm=>by
  have q:(H b).isSome=true:=(Ô4.mp hm).2;rw[n] at q;simp at q
theorem W21{h:ê}{H:Hp}{b:Ç}{o:Obj}(e:(G41 h H).get? b=some o):h.get? b=some o/\H b=none:=by
 have e':h.get? b=some o:=of_hideAll (trk h H) e;refine⟨e',?_⟩;cases q:H b with
 |none=>rfl
 |some x =>
  have hm:b∈trk h H:=Ô4.mpr ⟨À1.mpr (Þ e'),by simp[q]⟩
  have z:(G41 h H).get? b=none:=PySem.W.hideAll_none (trk h H) hm;rw[z] at e;cases e
structure Mod(K:PySem.W.Frag)(mg:Str->Option Value)(base:Heap):Prop where
 kin:K.In base
 glob:base.Ns mainGlobals mg
 blt:∃ mb,base.Ns builtinsNs mb/\∀ x:Str,x≠"__name__"->mb x=bootBuiltins x
 nolimit:base.NoLimit
structure Cx where
 prog:Program
 w:World
 K:PySem.W.Frag
 mg:Str->Option Value
 base:Heap
 A:Around
 N:List Str
 s₀:Shared
 H₀:Hp
 env:Env
 outer:List Env
 stack:List Env
 ex:List Addr
 fn:Str->Bool
 calm:Bool
 pn:List (Addr × Obj)
 xe:Value->Shared->Prop
def frs(l:List Env):List Addr:=l.filterMap (·.frame)
abbrev Cx.fs(X:Cx):List Addr:=frs X.outer
def Vis(sc:ë)(x:Str):Prop:=sc.names.lookup x=some .local\/sc.names.lookup x=some .cell\/sc.names.lookup x=some .free
def Loc(sc:ë)(x:Str):Prop:=sc.names.lookup x=some .local\/sc.names.lookup x=some .cell
def Look(env:Env)(h:ê)(m:Str->Option Ä)(x:Str)(u:Ä):Prop:=
 (env.kindOf x=some .local/\m x=some u)\/((env.kindOf x=some .cell\/env.kindOf x=some .free)/\∃ c,env.cells.lookup x=some c/\h.IsCell c (some u))
structure Cx.Ok(X:Cx):Prop where
 mod:Mod X.K X.mg X.base
 kind:X.env.scope.kind=.function
 glob:X.env.globals=mainGlobals
 blt:X.env.builtins=builtinsNs
 above:X.s₀.heap.objs.size<=X.env.locals
 inj:∀ x y c,X.env.cells.lookup x=some c->X.env.cells.lookup y=some c->x=y
 has:∀ x,(X.env.kindOf x=some .cell\/X.env.kindOf x=some .free)->∃ c,X.env.cells.lookup x=some c
 cab:∀ x c,X.fn x=true->X.env.cells.lookup x=some c->X.s₀.heap.objs.size<=c
 hd:X.calm=true->X.A.handled=none
 frames:X.A.frames=some X.stack
 stk:X.stack=X.outer\/(X.stack=X.env::X.outer/\X.env.frame=some X.env.locals)
 exf:∀ b∈X.ex,b≠X.env.locals/\∀ x c,X.env.cells.lookup x=some c->c≠b
 bs:∀ b o,X.base.get? b=some o->X.s₀.heap.get? b=some o/\X.H₀ b=none
 bsz:X.base.objs.size<=X.s₀.heap.objs.size
 noex:∀ b o,X.base.get? b=some o->b ∉ X.ex
 exfs:∀ b∈X.ex,b ∉ X.fs
 j81:X.s₀.heap.FunFrames X.base X.outer
 frf:∀ b∈X.fs,X.H₀ b=none
structure Inv(X:Cx)(pins:List (Addr × Obj))(σ:List (Option V))(H:Hp)(s:Shared):Prop where
 ok:X.Ok
 os:s.os=X.s₀.os
 bare:AllBare s.gens
 base:Un X.fs X.ex X.H₀ H X.s₀.heap s.heap
 loc:∃ m,s.heap.Ns X.env.locals m/\∀ (i:Nat) (x:Str) (v:V),X.N[i]?=some x->σ[i]?=some (some v)->Vis X.env.scope x->∃ u,RelV v u/\Look X.env s.heap m x u
 cell:∀ x c,X.env.cells.lookup x=some c->∃ v,s.heap.IsCell c v
 free:H X.env.locals=none
 freeC:∀ x c,X.env.cells.lookup x=some c->H c=none
 pin:∀ p∈X.pn++pins,s.heap.get? p.1=some p.2/\H p.1=none/\p.1≠X.env.locals/\p.1 ∉ X.fs/\∀ v,p.2.data≠.cell v
 hok:HOk X.prog X.w H s.heap
 len:σ.length=X.N.length
section
variable {X:Cx}{pins:List (Ç × Obj)}{σ:List (Option V)}{H H':Hp}{s:Æ}{h':ê}
def Cx.Ok.P82(ok:X.Ok){b:Ç}{o:Obj}(e:X.base.get? b=some o):b ∉ X.fs:=λhb=>by
 have:=(ok.j81.mem hb).1;rw[e] at this;cases this
def Inv.bs(I:Inv X pins σ H s):∀ b o,X.base.get? b=some o->s.heap.get? b=some o/\H b=none:=λb o e =>
 ⟨I.base.keep b o (I.ok.bs b o e).1 (I.ok.bs b o e).2 (I.ok.P82 e) (I.ok.noex b o e),I.base.free b o (I.ok.bs b o e).1 (I.ok.bs b o e).2 (I.ok.noex b o e)⟩
def Inv.bk(I:Inv X pins σ H s):∀ b o,X.base.get? b=some o->s.heap.get? b=some o:=λb o e=>(I.bs b o e).1
def Inv.mod(I:Inv X pins σ H s):Mod X.K X.mg X.base:=I.ok.mod
def Inv.kIn(I:Inv X pins σ H s):X.K.In s.heap:=I.ok.mod.kin.keeps I.bk
def Inv.lt(I:Inv X pins σ H s):X.env.locals < s.heap.objs.size:=let ⟨_,hn,_⟩:=I.loc;hn.lt
def Inv.sz(I:Inv X pins σ H s):X.s₀.heap.objs.size<=s.heap.objs.size:=Ó I.ok.above (Ç5 I.lt)
def Inv.P92(I:Inv X pins σ H s){a:Ç}(h:s.heap.objs.size<=a):a ∉ X.fs:=λhb=>by
 obtain⟨_,o,ho,_⟩:=I.ok.j81.mem hb;exact absurd (Ô (Þ ho) (Ó I.sz h)) (Â5 _)
def Inv.cne(I:Inv X pins σ H s):∀ x c,X.env.cells.lookup x=some c->c≠X.env.locals:=λx c e z=>by
 obtain⟨v,o,ho,hd⟩:=I.cell x c e;obtain⟨m,⟨o',es,ep,ho',hd',_⟩,_⟩:=I.loc;rw[z,ho'] at ho;cases ho;rw[hd'] at hd;cases hd
theorem Inv.j81(I:Inv X pins σ H s):s.heap.FunFrames X.base X.outer:=by
 have all:∀ (l:List Env),(∀ b∈frs l,b∈X.fs)->X.s₀.heap.FunFrames X.base l->s.heap.FunFrames X.base l:=by
  intro l
  induction l with
  |nil=>intro _ _;trivial
  |cons env r ih =>
   intro hs hl;obtain⟨hk,⟨L,o,hf,hn,ho,hd⟩,hr⟩:=hl;have hL:L∈X.fs:=hs L (by unfold frs;rw[Á4,hf];exact Ì)
   obtain⟨sl,e⟩:=I.base.slot L o ho (I.ok.frf L hL) hL λz=>I.ok.exfs L z hL;exact⟨hk,⟨L,_,hf,hn,e,hd⟩,ih (λb hb=>hs b (by unfold frs;rw[Á4,hf];exact Ë _ hb)) hr⟩
 exact all X.outer (λ_ hb=>hb) I.ok.j81
theorem Inv.stack(I:Inv X pins σ H s):s.heap.FunFrames X.base X.stack:=by
 rcases I.ok.stk with e | ⟨e,hf⟩
 ·rw[e];exact I.j81
 ·rw[e];obtain⟨m,hn,_⟩:=I.loc;refine .cons (by rw[I.ok.kind];decide) hf hn ?_ I.j81
  exact ê.get?_none_of_le (Ó I.ok.bsz I.ok.above)
theorem Inv.p41(I:Inv X pins σ H s):∀ b∈frs X.stack,b∈X.env.locals::X.fs:=λb hb=>by
 rcases I.ok.stk with e | ⟨e,hf⟩
 ·rw[e] at hb;exact Ë _ hb
 ·rw[e] at hb;unfold frs at hb;rw[Á4,hf] at hb;exact hb
theorem Inv.w30(I:Inv X pins σ H s):∀ b∈frs X.stack,H b=none:=λb hb=>by
 rcases ï.mp (I.p41 b hb) with e | hb
 ·rw[e];exact I.free
 ·obtain⟨_,o,ho,_⟩:=I.ok.j81.mem hb;exact I.base.free b o ho (I.ok.frf b hb) λz=>I.ok.exfs b z hb
theorem Inv.step{g':Array Þ1}{t':Nat}{d':Drawn}{ch:List Ç}(I:Inv X pins σ H s)
 (hch:∀ b∈ch,(b∈X.ex\/X.s₀.heap.objs.size<=b)/\b≠X.env.locals/\(∀ x c,X.env.cells.lookup x=some c->c≠b)/\∀ p∈X.pn++pins,p.1≠b)
 (keep:∀ b o,b≠X.env.locals->b ∉ X.fs->b ∉ ch->s.heap.get? b=some o->H b=none->h'.get? b=some o)
 (slot:∀ b o,b≠X.env.locals->b∈X.fs->b ∉ ch->s.heap.get? b=some o->H b=none->∃ sl,h'.get? b=some { o with slots:=sl }) (free:∀ b o,b ∉ ch->s.heap.get? b=some o->H b=none->H' b=none)
 (there:∀ b o,b ∉ ch->s.heap.get? b=some o->∃ o',h'.get? b=some o')
 (tups:∀ b xs,H b=some (.tup xs)->H' b=some (.tup xs)) (frzs:∀ b o u,H b=some (.frz o u)->H' b=some (.frz o u)) (tbls:∀ b ps,H b=some (.tbl ps)->∃ more,H' b=some (.tbl (ps++more)))
 (ns:∀ m,s.heap.Ns X.env.locals m->h'.Ns X.env.locals m) (hok:HOk X.prog X.w H' h') (hg:Ô1 g') :
 Inv X pins σ H' { s with heap:=h',gens:=g',drawn:=d',toks:=t' }:=by
 have neL:∀ b o,X.s₀.heap.get? b=some o->b≠X.env.locals:=λb o e=>Õ (Ô (Þ e) I.ok.above);have neC:∀ b o,X.s₀.heap.get? b=some o->b ∉ X.ex->b ∉ ch:=λb o e hx hb=>by
  rcases (hch b hb).1 with z | z
  ·exact hx z
  ·exact absurd (Ô (Þ e) z) (Â5 _)
 have cellK:∀ x c,X.env.cells.lookup x=some c->∀ v,s.heap.IsCell c v->h'.IsCell c v:=λx c e v ⟨o,ho,hd⟩=>by
  have nch:c ∉ ch:=λz=>(hch c z).2.2.1 x c e rfl;by_cases hc:c∈X.fs
  ·obtain⟨sl,q⟩:=slot c o (I.cne x c e) hc nch ho (I.freeC x c e);exact⟨_,q,hd⟩
  ·exact⟨o,keep c o (I.cne x c e) hc nch ho (I.freeC x c e),hd⟩
 refine⟨I.ok,I.os,hg,⟨λb o e n hb hx=>?_,λb o e n hb hx=>?_,λb o e n hx=>?_,λb o e hx=>?_,λb xs e=>tups b xs (I.base.tups b xs e),λb o xs e=>frzs b o xs (I.base.frzs b o xs e),λb ps e=>?_⟩,?_,λx c e=>?_,?_,λx c e=>?_,λp hp=>?_,hok,I.len⟩
 ·exact keep b o (neL b o e) hb (neC b o e hx) (I.base.keep b o e n hb hx) (I.base.free b o e n hx)
 ·obtain⟨sl,e1⟩:=I.base.slot b o e n hb hx;obtain⟨sl',e2⟩:=slot b _ (neL b o e) hb (neC b o e hx) e1 (I.base.free b o e n hx);exact⟨sl',e2⟩
 ·obtain⟨o',e1⟩:=I.base.there b o e hx;exact free b o' (neC b o e hx) e1 (I.base.free b o e n hx)
 ·obtain⟨o',e1⟩:=I.base.there b o e hx;exact there b o' (neC b o e hx) e1
 ·obtain⟨m1,e1⟩:=I.base.tbls b ps e;obtain⟨m2,e2⟩:=tbls b _ e1;exact⟨m1++m2,by rw[e2,Array.append_assoc]⟩
 ·obtain⟨m,hn,hl⟩:=I.loc;refine⟨m,ns m hn,λi x v e1 e2 e3=>?_⟩;obtain⟨u,r,l⟩:=hl i x v e1 e2 e3;refine⟨u,r,?_⟩;rcases l with l | ⟨k,c,e,z⟩
  ·exact .inl l
  ·exact .inr ⟨k,c,e,cellK x c e _ z⟩
 ·obtain⟨v,z⟩:=I.cell x c e;exact⟨v,cellK x c e v z⟩
 ·obtain⟨m,⟨o,_,_,ho,_⟩,_⟩:=I.loc;exact free _ o (λz=>(hch _ z).2.1 rfl) ho I.free
 ·obtain⟨v,o,ho,hd⟩:=I.cell x c e;exact free c o (λz=>(hch c z).2.2.1 x c e rfl) ho (I.freeC x c e)
 ·obtain⟨e,n,ne,nf,d⟩:=I.pin p hp;have nch:p.1 ∉ ch:=λz=>(hch p.1 z).2.2.2 p hp rfl;exact⟨keep p.1 p.2 ne nf nch e n,free p.1 p.2 nch e n,ne,nf,d⟩
theorem Inv.un{t':Nat}(I:Inv X pins σ H s)(u:Un X.fs [] H H' s.heap h')(hok:HOk X.prog X.w H' h'):Inv X pins σ H' { s with heap:=h',toks:=t' }:=by
 obtain⟨m,⟨o,es,ep,ho,r⟩,_⟩:=id I.loc;obtain⟨sl,hL⟩:=u.any ho I.free (by simp)
 exact I.step (g':=s.gens) (d':=s.drawn) (ch:=[]) (λ_ z=>nomatch z) (λb o _ hb _ e n=>u.keep b o e n hb (by simp)) (λb o _ hb _ e n=>u.slot b o e n hb (by simp)) (λb o _ e n=>u.free b o e n (by simp)) (λb o _ e=>u.there b o e (by simp)) u.tups u.frzs u.tbls (λm' hm=>by
  obtain⟨o',es',ep',ho',r'⟩:=hm;rw[ho] at ho';cases ho';exact⟨_,es',ep',hL,r'⟩) hok I.bare
theorem Inv.call{g':Array Þ1}{t':Nat}{d':Drawn}{ch:List Ç}(I:Inv X pins σ H s)(u:Un (frs X.stack) ch H H' s.heap h')(hok:HOk X.prog X.w H' h')(hg:Ô1 g')
 (hch:∀ b∈ch,(b∈X.ex\/X.s₀.heap.objs.size<=b)/\b≠X.env.locals/\(∀ x c,X.env.cells.lookup x=some c->c≠b)/\∀ p∈X.pn++pins,p.1≠b) :
 Inv X pins σ H' { s with heap:=h',gens:=g',drawn:=d',toks:=t' }:=by
 obtain⟨m,⟨o,es,ep,ho,r⟩,_⟩:=id I.loc;obtain⟨sl,hL⟩:=u.any ho I.free λz=>(hch _ z).2.1 rfl;exact I.step (ch:=ch) hch (λb o hL hb hc e n=>u.keep b o e n (λz=>(ï.mp (I.p41 b z)).elim hL hb) hc) (λb o _ _ hc e n=>u.any e n hc) (λb o hc e n=>u.free b o e n hc) (λb o hc e=>u.there b o e hc) u.tups u.frzs u.tbls (λm' hm=>by
  obtain⟨o',es',ep',ho',r'⟩:=hm;rw[ho] at ho';cases ho';exact⟨_,es',ep',hL,r'⟩) hok hg
theorem Inv.turned{t':Nat}{it:Ç}(I:Inv X pins σ H s)(k:∀ b o,b≠it->s.heap.get? b=some o->h'.get? b=some o)(hn:H it=none)(hL:it≠X.env.locals)
 (h1:it∈X.ex\/X.s₀.heap.objs.size<=it) (h2:∀ x c,X.env.cells.lookup x=some c->c≠it) (h3:∀ p∈X.pn++pins,p.1≠it):Inv X pins σ H { s with heap:=h',toks:=t' }:=by
 have nit:∀ b u,H b=some u->b≠it:=λb u e z=>by rw[z,hn] at e;cases e
 refine I.step (g':=s.gens) (d':=s.drawn) (ch:=[it]) (λb hb=>?_) (λb o _ _ hc e _=>k b o (λz=>hc (by simp[z])) e) (λb o _ _ hc e _=>⟨o.slots,k b o (λz=>hc (by simp[z])) e⟩) (λ_ _ _ _ n=>n)
  (λb o hc e=>⟨o,k b o (λz=>hc (by simp[z])) e⟩) (λ_ _ e=>e) (λ_ _ _ e=>e) (λb ps e=>⟨#[],by rw[e];simp⟩) (λm hm=>?_) (λb u e=>?_) I.bare
 ·have e:b=it:=by simpa using hb
  subst e;exact⟨h1,hL,h2,h3⟩
 ·obtain⟨o,es,ep,ho,r⟩:=hm;exact⟨o,es,ep,k _ o (Á0 hL) ho,r⟩
 ·refine(I.hok b u e).j71 (λc v hc q=>k c v ?_ q) (λ_ q=>q) λ_ _ q=>q;rcases hc with z | z
  ·rw[z];exact nit b u e
  ·exact nit c _ z
def Inv.tok(I:Inv X pins σ H s)(t:Nat):Inv X pins σ H { s with toks:=t }:=I.un (h':=s.heap) (t':=t) Un.refl I.hok
def Inv.kept{t':Nat}(I:Inv X pins σ H s)(k:∀ b u,s.heap.get? b=some u->h'.get? b=some u):Inv X pins σ H { s with heap:=h',toks:=t' }:=I.un (Un.kept k) (I.hok.kept k)
def Inv.laid{a:Ç}{o:HO}{t':Nat}(I:Inv X pins σ H s)(k:∀ b u,s.heap.get? b=some u->h'.get? b=some u)(hp:s.heap.objs.size<=a)(new:h70 X.prog X.w (upd H a o) h' a o) :
 Inv X pins σ (upd H a o) { s with heap:=h',toks:=t' }:=I.un (Un.laid k hp (I.hok.fresh hp)) (I.hok.laid k hp new)
def Inv.write{x e:Ç}{o:HO}{t':Nat}(I:Inv X pins σ H s)(mu:Mut (H x))(he:e=x\/H e=some (.own x))(k:∀ b u,b≠e->s.heap.get? b=some u->h'.get? b=some u)(heo:∃ u,h'.get? e=some u)
 (new:h70 X.prog X.w (upd H x o) h' x o):Inv X pins σ (upd H x o) { s with heap:=h',toks:=t' }:=I.un (Un.write mu he k heo) (I.hok.write mu he k heo new)
def Inv.C10{pins':List (Ç × Obj)}(I:Inv X pins σ H s)(h:∀ p∈pins',s.heap.get? p.1=some p.2/\H p.1=none/\p.1≠X.env.locals/\p.1 ∉ X.fs/\∀ v,p.2.data≠.cell v):Inv X pins' σ H s:=
 ⟨I.ok,I.os,I.bare,I.base,I.loc,I.cell,I.free,I.freeC,λp hp=>(Á2.mp hp).elim (λz=>I.pin p (Å0 _ z)) (h p),I.hok,I.len⟩
theorem c81{N:List Str}(hN:N.Nodup){i j:Nat}{x:Str}(a:N[i]?=some x)(b:N[j]?=some x):i=j:=by
 obtain⟨h1,e1⟩:=Ý.mp a;obtain⟨h2,e2⟩:=Ý.mp b;exact(List.getElem_inj hN).mp (e1.trans e2.symm)
theorem C20{M:Model}{A:ó}{E:Ä->Æ->Prop}{i:Nat}{x:Str}{v:V}{u:Ä}{Q:Unit->Æ->Prop}(I:Inv X pins σ H s)(hN:X.N.Nodup)(hi:X.N[i]?=some x)(hx:Loc X.env.scope x)(r:RelV v u)
 (h:∀ s',Inv X pins (σ.set i (some v)) H s'->(∃ a,Ì2 a s.heap s'.heap/\(a=X.env.locals\/X.env.cells.lookup x=some a))->Q () s') (hf:X.fn x=true\/X.env.scope.names.lookup x=some .local:=by first | exact .inl rfl | exact .inr rfl | assumption):Ñ M A (storeName X.env x u) Q E s:=by
 obtain⟨m,hn,hl⟩:=id I.loc;have hcls:(X.env.scope.kind == .class || (X.env.scope.kind == .module&&X.env.locals != X.env.globals))=false:=by rw[I.ok.kind];rfl
 have hiσ:i < σ.length:=by rw[I.len];exact(Ý.mp hi).1
 have cne:=I.cne;have tracked:∀ {a:Ç}{h':ê},(∃ o,s.heap.get? a=some o/\H a=none)->Ì2 a s.heap h'->HOk X.prog X.w H h':=λ{a h'} ha hs b ob e=>by
  obtain⟨_,_,hfree⟩:=ha;refine(I.hok b ob e).j71 (λc w' hc q=>(hs.2 c ?_).trans q) (λ_ q=>q) λ_ _ q=>q;rintro rfl;rcases hc with rfl | hc
  ·rw[hfree] at e;cases e
  ·rw[hfree] at hc;cases hc
 rcases hx with hk | hk
 ·refine Ö5 hk hn (λh' hn' hs=>?_) hcls;obtain⟨oL,_,_,hoL,_⟩:=id hn;refine h _ ⟨I.ok,I.os,I.bare,⟨λb o e n hb hx=>?_,λb o e n hb hx=>?_,I.base.free,λb o e hx=>?_,I.base.tups,I.base.frzs,I.base.tbls⟩,⟨_,hn',λj y v' e1 e2 e3=>?_⟩,λy c e=>?_,I.free,I.freeC,λp hp=>?_,tracked ⟨oL,hoL,I.free⟩ hs,by simpa using I.len⟩ ⟨_,hs,.inl rfl⟩
  ·exact(hs.2 b (Õ (Ô (Þ e) I.ok.above))).trans (I.base.keep b o e n hb hx)
  ·obtain⟨sl,e1⟩:=I.base.slot b o e n hb hx;exact⟨sl,(hs.2 b (Õ (Ô (Þ e) I.ok.above))).trans e1⟩
  ·obtain⟨o',e1⟩:=I.base.there b o e hx;exact⟨o',(hs.2 b (Õ (Ô (Þ e) I.ok.above))).trans e1⟩
  ·by_cases hj:j=i
   ·subst hj;rw[hi] at e1;cases e1;rw[å hiσ] at e2;cases e2;exact⟨u,r,.inl ⟨hk,by simp⟩⟩
   ·rw[ß (Á0 hj)] at e2;obtain⟨u',r',q⟩:=hl j y v' e1 e2 e3;refine⟨u',r',?_⟩;rcases q with ⟨k,e⟩ | ⟨k,c,e,z⟩
    ·refine .inl ⟨k,?_⟩;have:y≠x:=λe=>hj (c81 hN e1 (e ▸ hi));simp[this,e]
    ·exact .inr ⟨k,c,e,z.sameBut hs (cne y c e)⟩
  ·obtain⟨w',z⟩:=I.cell y c e;exact⟨w',z.sameBut hs (cne y c e)⟩
  ·obtain⟨e,n,ne,nf,d⟩:=I.pin p hp;exact⟨(hs.2 p.1 ne).trans e,n,ne,nf,d⟩
 ·have hfn:X.fn x=true:=by
   rcases hf with z | z
   ·exact z
   ·rw[z] at hk;cases hk
  obtain⟨c,hc⟩:=I.ok.has x (.inl hk);obtain⟨w',z⟩:=I.cell x c hc;refine wpAny_storeName_cell I.ok.kind hk hc z (λh' hc' hs=>?_);obtain⟨oc,hoc,hocd⟩:=id z;refine h { s with heap:=h' } ⟨I.ok,I.os,I.bare,⟨λb o e n hb hx=>?_,λb o e n hb hx=>?_,I.base.free,λb o e hx=>?_,I.base.tups,I.base.frzs,I.base.tbls⟩,⟨m,hn.sameBut hs (Á0 (cne x c hc)),λj y v' e1 e2 e3=>?_⟩,λy c' e=>?_,I.free,I.freeC,λp hp=>?_,tracked ⟨oc,hoc,I.freeC x c hc⟩ hs,by simpa using I.len⟩ ⟨c,hs,.inr hc⟩
  ·exact(hs.2 b (Õ (Ô (Þ e) (I.ok.cab x c hfn hc)))).trans (I.base.keep b o e n hb hx)
  ·obtain⟨sl,e1⟩:=I.base.slot b o e n hb hx;exact⟨sl,(hs.2 b (Õ (Ô (Þ e) (I.ok.cab x c hfn hc)))).trans e1⟩
  ·obtain⟨o',e1⟩:=I.base.there b o e hx;exact⟨o',(hs.2 b (Õ (Ô (Þ e) (I.ok.cab x c hfn hc)))).trans e1⟩
  ·by_cases hj:j=i
   ·subst hj;rw[hi] at e1;cases e1;rw[å hiσ] at e2;cases e2;exact⟨u,r,.inr ⟨.inl hk,c,hc,hc'⟩⟩
   ·rw[ß (Á0 hj)] at e2;obtain⟨u',r',q⟩:=hl j y v' e1 e2 e3;refine⟨u',r',?_⟩;rcases q with q | ⟨k,c',e,z'⟩
    ·exact .inl q
    ·refine .inr ⟨k,c',e,z'.sameBut hs ?_⟩;rintro rfl;exact hj (c81 hN e1 (I.ok.inj _ _ _ e hc ▸ hi))
  ·by_cases hcc:c'=c
   ·subst hcc;exact⟨_,hc'⟩
   ·obtain⟨w2,z2⟩:=I.cell y c' e;exact⟨w2,z2.sameBut hs hcc⟩
  ·obtain⟨e,n,ne,nf,d⟩:=I.pin p hp;refine⟨(hs.2 p.1 ?_).trans e,n,ne,nf,d⟩;intro q;rw[q,hoc] at e;have q':oc=p.2:=ü e;exact d w' (by rw[← q'];exact hocd)
theorem B10{M:Model}{A:ó}{E:Ä->Æ->Prop}{i:Nat}{x:Str}{v:V}{u:Ä}{Q:Unit->Æ->Prop}(I:Inv X pins σ H s)(hN:X.N.Nodup)(hi:X.N[i]?=some x)(hx:Loc X.env.scope x)(r:RelV v u)
 (h:∀ s',Inv X pins (σ.set i (some v)) H s'->Q () s') (hf:X.fn x=true\/X.env.scope.names.lookup x=some .local:=by first | exact .inl rfl | exact .inr rfl | assumption):Ñ M A (storeName X.env x u) Q E s:=
 C20 I hN hi hx r (λs' I' _=>h s' I') hf
theorem Inv.k72{s':Æ}{ch:List Ç}(I:Inv X pins σ H s)(ho:s'.os=s.os)(u:Un (frs X.stack) ch H H' s.heap s'.heap)(hok:HOk X.prog X.w H' s'.heap)(hg:Ô1 s'.gens)
 (hch:∀ b∈ch,(b∈X.ex\/X.s₀.heap.objs.size<=b)/\b≠X.env.locals/\(∀ x c,X.env.cells.lookup x=some c->c≠b)/\∀ p∈X.pn++pins,p.1≠b):Inv X pins σ H' s':=by
 obtain⟨h',g',d',t',o'⟩:=s';have e:o'=s.os:=ho;subst e;exact I.call (g':=g') (t':=t') (d':=d') u hok hg hch
end
abbrev XK:=Ä->Option Ç->Hp->Prop
abbrev St:=List (Option V)
abbrev VK:=V->Hp->Prop
abbrev TE:=St->Hp->VK->Prop
abbrev TT:=St->Hp->(Bool->Hp->Prop)->Prop
abbrev TA:=St->Hp->(List V->Hp->Prop)->Prop
structure Ends where
 nx:St->Hp->Prop
 rt:VK
 bk:St->Hp->Prop:=λ_ _=>False
 ct:St->Hp->Prop:=λ_ _=>False
abbrev TS:=Ends->St->Hp->Prop
def EP(X:Cx)(pins:List (Ç × Obj))(σ:St)(Q:VK)(u:Ä)(s':Æ):Prop:=∃ v H',Inv X pins σ H' s'/\RelV v u/\Q v H'
def TP(X:Cx)(pins:List (Ç × Obj))(σ:St)(Q:Bool->Hp->Prop)(b:Bool)(s':Æ):Prop:=∃ H',Inv X pins σ H' s'/\Q b H'
def AP(X:Cx)(pins:List (Ç × Obj))(σ:St)(Q:List V->Hp->Prop)(us:List Ä)(s':Æ):Prop:=∃ vs H',Inv X pins σ H' s'/\Vals vs us/\Q vs H'
def SP(X:Cx)(pins:List (Ç × Obj))(D:Ends)(f:Flow)(s':Æ):Prop:=
 match f with
 |.next=>∃ σ' H',Inv X pins σ' H' s'/\D.nx σ' H'
 |.brk=>∃ σ' H',Inv X pins σ' H' s'/\D.bk σ' H'|.cont=>∃ σ' H',Inv X pins σ' H' s'/\D.ct σ' H'|.ret u=>∃ v σ' H',Inv X pins σ' H' s'/\RelV v u/\D.rt v H'
def PE(X:Cx)(e:Ð)(t:TE):Prop:=
 ∀ (pins:List (Ç × Obj)) (s:Æ) (σ:St) (H:Hp) (Q:VK),Inv X pins σ H s->t σ H Q->Ñ (Ø X.prog X.w) X.A (eval e X.env) (EP X pins σ Q) X.xe s
def PT(X:Cx)(e:Ð)(t:TT):Prop:=
 ∀ (pins:List (Ç × Obj)) (s:Æ) (σ:St) (H:Hp) (Q:Bool->Hp->Prop),Inv X pins σ H s->t σ H Q->Ñ (Ø X.prog X.w) X.A (isTrue e X.env (eval e X.env)) (TP X pins σ Q) X.xe s
def PW(X:Cx)(e:Ð)(t:TT):Prop:=
 ∀ (whole:Sem Ä) (pins:List (Ç × Obj)) (s:Æ) (σ:St) (H:Hp) (Q:Bool->Hp->Prop),Inv X pins σ H s->t σ H Q->Ñ (Ø X.prog X.w) X.A (isTrue e X.env whole) (TP X pins σ Q) X.xe s
def PW.pt{X:Cx}{e:Ð}{t:TT}(h:PW X e t):PT X e t:=h _
def PA(X:Cx)(es:List Ð)(t:TA):Prop:=
 ∀ (pos:Pos) (pins:List (Ç × Obj)) (s:Æ) (σ:St) (H:Hp) (Q:List V->Hp->Prop),Inv X pins σ H s->t σ H Q->Ñ (Ø X.prog X.w) X.A (spliced (Õ9 pos (ý es X.env))) (AP X pins σ Q) X.xe s
def PS(X:Cx)(st:Á5)(t:TS):Prop:=
 ∀ (pins:List (Ç × Obj)) (s:Æ) (σ:St) (H:Hp) (D:Ends),Inv X pins σ H s->t D σ H->Ñ (Ø X.prog X.w) X.A (exec st X.env) (SP X pins D) X.xe s
def PSs(X:Cx)(st:List Á5)(t:TS):Prop:=
 ∀ (pins:List (Ç × Obj)) (s:Æ) (σ:St) (H:Hp) (D:Ends),Inv X pins σ H s->t D σ H->Ñ (Ø X.prog X.w) X.A (execs st X.env) (SP X pins D) X.xe s
def thn{α:Type}{t:Sem α}{Q Q':α->Æ->Prop}{M:Model}{A:ó}{E:Ä->Æ->Prop}{s:Æ}(h:Ñ M A t Q E s)(hQ:∀ a s,Q a s->Q' a s):Ñ M A t Q' E s:=Á9 h hQ λ_ _ x=>x
section
variable {X:Cx}
def k82(i:Nat):TE:=λσ H Q=>∃ v,σ[i]?=some (some v)/\Q v H
def tC(v:V):TE:=λ_ H Q=>Q v H
theorem k20{i:Nat}{x:Str}{pos:Pos}(hN:X.N[i]?=some x)(hv:Vis X.env.scope x)(hd:(x == ("__debug__":Str))=false:=by decide)(hcd:(x == ("__classdict__":Str))=false:=by decide):PE X (.Name x pos) (k82 i):=by
 intro pins s σ H Q I h;obtain⟨v,e,h⟩:=h;obtain⟨m,hn,hl⟩:=I.loc;obtain⟨u,r,l⟩:=hl i x v hN e hv;have fin:EP X pins σ Q u s:=⟨v,H,I,r,h⟩;rcases l with ⟨hk,hm⟩ | ⟨hk,c,hc,hcell⟩
 ·exact Î1 (Ï0 I.ok.kind hk hn hm fin) hd
 ·rcases hk with hk | hk
  ·exact Î1 (wpAny_loadName_cell I.ok.kind hk hc hcell fin) hd
  ·exact Î1 (wpAny_loadName_free I.ok.kind hk hc hcell fin hcd) hd
def Q40{i j pos}:PE X (.Constant (.int i) j pos) (tC (.int i)):=λ_ _ _ H _ I h=>wpAny_Constant_int ⟨.int i,H,I.tok _,⟨_,rfl⟩,h⟩
def B42{b j pos}:PE X (.Constant (.bool b) j pos) (tC (.bl b)):=λ_ _ _ H _ I h=>Constant_bool ⟨.bl b,H,I,rfl,h⟩
def p51{j pos}:PE X (.Constant .none j pos) (tC .non):=λ_ _ _ H _ I h=>Constant_none ⟨.non,H,I,rfl,h⟩
def R21{x j pos}:PE X (.Constant (.str x) j pos) (tC (.str x)):=λ_ _ _ H _ I h=>Calls.Constant_str ⟨.str x,H,I.tok _,⟨_,rfl⟩,h⟩
def Gl(X:Cx)(x:Str):Prop:=X.env.kindOf x=some .globalImplicit
theorem J50{E:Ä->Æ->Prop}{pins:List (Ç × Obj)}{s:Æ}{σ:St}{H:Hp}{x:Str}{u:Ä}{pos:Pos}{Q:Ä->Æ->Prop}(I:Inv X pins σ H s)(hg:Gl X x)(hm:X.mg x=some u)(h:Q u s)
 (hd:(x == ("__debug__":Str))=false:=by decide):Ñ (Ø X.prog X.w) X.A (eval (.Name x pos) X.env) Q E s:=
 Ï5 I.ok.kind hg (à1 (by rw[I.ok.glob];exact I.mod.glob.keeps I.bk) hm h) hd
theorem y60{E:Ä->Æ->Prop}{pins:List (Ç × Obj)}{s:Æ}{σ:St}{H:Hp}{x:Str}{u:Ä}{pos:Pos}{Q:Ä->Æ->Prop}(I:Inv X pins σ H s)(hg:Gl X x)(hm:X.mg x=none)(hv:ñ x=some u)(h:Q u s)
 (hn:x≠"__name__":=by decide) (hd:(x == ("__debug__":Str))=false:=by decide):Ñ (Ø X.prog X.w) X.A (eval (.Name x pos) X.env) Q E s:=by
 obtain⟨mb,h1,h2⟩:=I.mod.blt;exact Ï5 I.ok.kind hg (Calls.loadGlobal_builtin (by rw[I.ok.glob];exact I.mod.glob.keeps I.bk) hm (by rw[I.ok.blt];exact h1.keeps I.bk) ((h2 x hn).trans hv) h) hd
theorem g00{x:Str}{v:V}{u:Ä}{pos:Pos}(hg:Gl X x)(hm:X.mg x=some u)(r:RelV v u)(hd:(x == ("__debug__":Str))=false:=by decide):PE X (.Name x pos) (tC v):=
 λ_ _ _ H _ I h=>J50 I hg hm ⟨v,H,I,r,h⟩ hd
theorem J60{x:Str}{v:V}{u:Ä}{pos:Pos}(hg:Gl X x)(hm:X.mg x=none)(hv:ñ x=some u)(r:RelV v u)(hn:x≠"__name__":=by decide)(hd:(x == ("__debug__":Str))=false:=by decide):PE X (.Name x pos) (tC v):=
 λ_ _ _ H _ I h=>y60 I hg hm hv ⟨v,H,I,r,h⟩ hn hd
variable {a b:Ð}{ta tb:TE}{pos:Pos}
def tB(t:TE):TT:=λσ H Q=>t σ H λx H1=>∃ c,x=.bl c/\Q c H1
theorem c91{e:Ð}{t:TE}(h:PE X e t)(he:∀ whole,isTrue e X.env whole=(do let v ← whole;standAt e.pos;Ý6 [v] (truthy v)):=by intro _;rfl):PT X e (tB t):=by
 intro pins s σ H Q I hw;refine isTrue_plain (thn (h pins s σ H _ I hw) λv s1 ⟨x,H1,I1,r1,q1⟩=>?_) (he _);obtain⟨d,rfl,q⟩:=q1;cases r1;exact Á8 ⟨H1,I1,q⟩
variable {tA tB':TT}{rest:List Ð}
def Q02(t u:TT):TT:=λσ H Q=>t σ H λc H1=>if c=true then u σ H1 Q else Q false H1
def tOr(t u:TT):TT:=λσ H Q=>t σ H λc H1=>if c=true then Q true H1 else u σ H1 Q
def Q12(t:TT):TT:=λσ H Q=>t σ H λc H1=>Q (!c) H1
theorem p61(ha:PT X a tA):PW X (.BoolOp .And [a] pos) tA:=by
 intro wh pins s σ H Q I h;refine isTrue_and (thn (ha pins s σ H Q I h) λc s1 e=>?_);cases c with
 |true=>exact isTrue_and_nil e|false=>exact e
theorem k92(ha:PT X a tA):PW X (.BoolOp .Or [a] pos) tA:=by
 intro wh pins s σ H Q I h;refine isTrue_or (thn (ha pins s σ H Q I h) λc s1 e=>?_);cases c with
 |false=>exact isTrue_or_nil e|true=>exact e
theorem R31(ha:PT X a tA)(hb:PW X (.BoolOp .And (b::rest) pos) tB'):PW X (.BoolOp .And (a::b::rest) pos) (Q02 tA tB'):=by
 intro wh pins s σ H Q I h;refine isTrue_and (thn (ha pins s σ H _ I h) λc s1 ⟨H1,I1,q1⟩=>?_);cases c with
 |true=>exact hb wh pins s1 σ H1 Q I1 q1|false=>exact⟨H1,I1,q1⟩
theorem B52(ha:PT X a tA)(hb:PW X (.BoolOp .Or (b::rest) pos) tB'):PW X (.BoolOp .Or (a::b::rest) pos) (tOr tA tB'):=by
 intro wh pins s σ H Q I h;refine isTrue_or (thn (ha pins s σ H _ I h) λc s1 ⟨H1,I1,q1⟩=>?_);cases c with
 |true=>exact⟨H1,I1,q1⟩|false=>exact hb wh pins s1 σ H1 Q I1 q1
theorem R41(ha:PT X a tA):PT X (.UnaryOp .Not a pos) (Q12 tA):=by
 intro pins s σ H Q I h;exact isTrue_not (ha pins s σ H (λc H1=>Q (!c) H1) I h)
def B62(ta tb:TE):TE:=λσ H Q=>ta σ H λx H1=>∃ c,x=.bl c/\if c=true then tb σ H1 Q else Q (.bl false) H1
def Q22(ta tb:TE):TE:=λσ H Q=>ta σ H λx H1=>∃ c,x=.bl c/\if c=true then Q (.bl true) H1 else tb σ H1 Q
def B72(ta:TE):TE:=λσ H Q=>ta σ H λx H1=>∃ c,x=.bl c/\Q (.bl (!c)) H1
def l02{op}{t:TE}(h:PE X a t):PE X (.BoolOp op [a] pos) t:=λpins s σ H Q I hw=>BoolOp_one (h pins s σ H Q I hw)
theorem l12(ha:PE X a ta)(hb:PE X (.BoolOp .And (b::rest) pos) tb):PE X (.BoolOp .And (a::b::rest) pos) (B62 ta tb):=by
 intro pins s σ H Q I h;refine BoolOp_and (thn (ha pins s σ H _ I h) λv s1 ⟨x,H1,I1,r1,q1⟩=>?_);obtain⟨c,rfl,q1⟩:=q1;cases r1;refine Á8 ?_;cases c with
 |true=>exact hb pins s1 σ H1 Q I1 q1|false=>exact⟨.bl false,H1,I1,rfl,q1⟩
theorem B82(ha:PE X a ta)(hb:PE X (.BoolOp .Or (b::rest) pos) tb):PE X (.BoolOp .Or (a::b::rest) pos) (Q22 ta tb):=by
 intro pins s σ H Q I h;refine BoolOp_or (thn (ha pins s σ H _ I h) λv s1 ⟨x,H1,I1,r1,q1⟩=>?_);obtain⟨c,rfl,q1⟩:=q1;cases r1;refine Á8 ?_;cases c with
 |false=>exact hb pins s1 σ H1 Q I1 q1|true=>exact⟨.bl true,H1,I1,rfl,q1⟩
theorem l22(ha:PE X a ta):PE X (.UnaryOp .Not a pos) (B72 ta):=by
 intro pins s σ H Q I h;refine UnaryOp_ (thn (ha pins s σ H _ I h) λv s1 ⟨x,H1,I1,r1,q1⟩=>?_);obtain⟨c,rfl,q1⟩:=q1;cases r1;exact not_of (Á8 ⟨.bl (!c),H1,I1,rfl,q1⟩)
def tIf(t:TT)(ta tb:TE):TE:=λσ H Q=>t σ H λc H1=>if c=true then ta σ H1 Q else tb σ H1 Q
theorem G51{c:Ð}(hc:PT X c tA)(ha:PE X a ta)(hb:PE X b tb):PE X (.IfExp c a b pos) (tIf tA ta tb):=by
 intro pins s σ H Q I h;refine wpAny_IfExp (thn (hc pins s σ H _ I h) λd s1 ⟨H1,I1,q1⟩=>?_);cases d with
 |true=>exact ha pins s1 σ H1 Q I1 q1|false=>exact hb pins s1 σ H1 Q I1 q1
end
def SqL(K:Â)(H:Hp)(a:Ç)(xs:List V):Prop:=
 Rd H a (.lst xs) \/
  ∃ (o:Obj) (its:Array Ä) (n:Nat),K.lookup a=some o/\o.cls=.type "list"/\o.dict=none/\o.data=.seq its n/\its.size<=sizeLine/\Vals xs its.toList
def SqT(K:Â)(H:Hp)(a:Ç)(xs:List V):Prop:=
 Rd H a (.tup xs) \/
  ∃ (o:Obj) (its:Array Ä) (n:Nat),K.lookup a=some o/\o.cls=.type "tuple"/\o.data=.seq its n/\its.size<=sizeLine/\Vals xs its.toList
def Q32:Ä->Option V
 |.none=>some .non|.bool b=>some (.bl b)|.int i _=>some (.int i)|.str x _=>some (.str x)|.bytes b _=>some (.byt b)|.float b _=>some (.flt b)|.ref a=>some (.ref a)|.type n=>some (.ty n)|_=>none
theorem RelV.abs{x:V}{u:Ä}(r:RelV x u):Q32 u=some x:=by
 cases x with
 |non=>cases r;rfl
 |bl _=>cases r;rfl
 |int _=>obtain⟨t,rfl⟩:=r;rfl
 |str _=>obtain⟨t,rfl⟩:=r;rfl
 |byt _=>obtain⟨t,rfl⟩:=r;rfl
 |flt _=>obtain⟨t,rfl⟩:=r;rfl
 |ref _=>cases r;rfl
 |ty _=>cases r;rfl
def RelV.inj{x y:V}{u:Ä}(r:RelV x u)(q:RelV y u):x=y:=ü (r.abs.symm.trans q.abs)
theorem Vals.inj:∀ {xs ys:List V}{us:List Ä},Vals xs us->Vals ys us->xs=ys
 |_,_,_,.nil,.nil=>rfl|_,_,_,.cons r t,.cons r' t'=>by rw[r.inj r',Vals.inj t t']
section
variable {X:Cx}{pins:List (Ç × Obj)}{σ:St}{H:Hp}{s:Æ}{a:Ç}{xs ys:List V}
def SqL.of{K:Â}(h:H a=some (.lst xs)):SqL K H a xs:=.inl (.inl h)
def SqT.of{K:Â}(h:H a=some (.tup xs)):SqT K H a xs:=.inl (.inl h)
theorem Inv.list(I:Inv X pins σ H s)(h:SqL X.K H a xs):∃ its:List Ä,Vals xs its/\PlainL s.heap a its.toArray/\xs.length<=sizeLine:=by
 rcases h with h | ⟨o,its,n,hk,hc,hd,hs,hz,r⟩
 ·obtain⟨z,its,n,r,e⟩:=h.ok I.hok;exact⟨its,r,⟨_,n,e,rfl,rfl,rfl⟩,z⟩
 ·refine⟨its.toList,r,⟨o,n,I.kIn a o hk,hc,hd,by simpa using hs⟩,?_⟩
  have e:=r.length;simp only[Ê8] at e;omega
theorem Inv.tuple(I:Inv X pins σ H s)(h:SqT X.K H a xs):∃ its:List Ä,Vals xs its/\Ï4 s.heap a its.toArray/\xs.length<=sizeLine:=by
 rcases h with h | ⟨o,its,n,hk,hc,hs,hz,r⟩
 ·obtain⟨z,its,r,p⟩:=h.ok I.hok;exact⟨its,r,p,z⟩
 ·refine⟨its.toList,r,⟨o,I.kIn a o hk,hc,n,by simpa using hs⟩,?_⟩
  have e:=r.length;simp only[Ê8] at e;omega
theorem Inv.d01(I:Inv X pins σ H s)(h:SqL X.K H a xs)(h':SqL X.K H a ys):xs=ys:=by
 obtain⟨its,r,⟨o,n,e,_,_,d⟩,_⟩:=I.list h;obtain⟨its',r',⟨o',n',e',_,_,d'⟩,_⟩:=I.list h';rw[e] at e';cases e';rw[d] at d';injection d' with d1 _;have:its=its':=by simpa using congrArg toList d1
 subst this;exact r.inj r'
theorem Inv.Q50(I:Inv X pins σ H s)(h:SqT X.K H a xs)(h':SqT X.K H a ys):xs=ys:=by
 obtain⟨its,r,⟨o,e,_,n,d⟩,_⟩:=I.tuple h;obtain⟨its',r',⟨o',e',_,n',d'⟩,_⟩:=I.tuple h';rw[e] at e';cases e';rw[d] at d';injection d' with d1 _;have:its=its':=by simpa using congrArg toList d1
 subst this;exact r.inj r'
end
abbrev Cx.F91(X:Cx)(E:Ä->Æ->Prop):Cx:={ X with xe:=E }
abbrev Cx.nox(X:Cx):Cx:=X.F91 λ_ _=>False
def Cx.Ok.F91{X:Cx}(ok:X.Ok)(E:Ä->Æ->Prop):(X.F91 E).Ok:=
 ⟨ok.mod,ok.kind,ok.glob,ok.blt,ok.above,ok.inj,ok.has,ok.cab,ok.hd,ok.frames,ok.stk,ok.exf,ok.bs,ok.bsz,ok.noex,ok.exfs,ok.j81,ok.frf⟩
def Cx.Ok.y70{X:Cx}{E:Ä->Æ->Prop}(ok:(X.F91 E).Ok):X.Ok:=
 ⟨ok.mod,ok.kind,ok.glob,ok.blt,ok.above,ok.inj,ok.has,ok.cab,ok.hd,ok.frames,ok.stk,ok.exf,ok.bs,ok.bsz,ok.noex,ok.exfs,ok.j81,ok.frf⟩
section
variable {X:Cx}{pins:List (Ç × Obj)}{σ:St}{H:Hp}{s:Æ}{E:Ä->Æ->Prop}
def Inv.F91(I:Inv X pins σ H s)(E:Ä->Æ->Prop):Inv (X.F91 E) pins σ H s:=⟨I.ok.F91 E,I.os,I.bare,I.base,I.loc,I.cell,I.free,I.freeC,I.pin,I.hok,I.len⟩
def Inv.y70(I:Inv (X.F91 E) pins σ H s):Inv X pins σ H s:=⟨I.ok.y70,I.os,I.bare,I.base,I.loc,I.cell,I.free,I.freeC,I.pin,I.hok,I.len⟩
theorem SP.y70{D:Ends}{f:Flow}{s':Æ}(h:SP (X.F91 E) pins D f s'):SP X pins D f s':=by
 cases f with
 |next=>obtain⟨σ',H',I,q⟩:=h;exact⟨σ',H',I.y70,q⟩
 |brk=>obtain⟨σ',H',I,q⟩:=h;exact⟨σ',H',I.y70,q⟩
 |cont=>obtain⟨σ',H',I,q⟩:=h;exact⟨σ',H',I.y70,q⟩
 |ret u=>obtain⟨v,σ',H',I,r,q⟩:=h;exact⟨v,σ',H',I.y70,r,q⟩
def PSs.nox{st:List Á5}{t:TS}(h:PSs X.nox st t):PSs X st t:=λpins s σ H D I hw =>
 Á9 (h pins s σ H D (I.F91 _) hw) (λ_ _ q=>q.y70) λ_ _ z=>À0 z
end
section
variable {X:Cx}{st:Á5}{rest:List Á5}{t u:TS}{e:Ð}{te:TE}{pos:Pos}
def B92:TS:=λD σ H=>D.nx σ H
def Q42(t u:TS):TS:=λD σ H=>t { D with nx:=u D } σ H
def C30:PSs X [] B92:=λ_ _ σ H _ I h=>Ö2 ⟨σ,H,I,h⟩
theorem d40(h1:PS X st t)(h2:PSs X rest u):PSs X (st::rest) (Q42 t u):=by
 intro pins s σ H D I h;refine Õ0 (thn (h1 pins s σ H { D with nx:=u D } I h) λf s1 q=>?_);cases f with
 |next =>
  obtain⟨σ',H',I',q⟩:=q;exact h2 pins s1 σ' H' D I' q
 |ret v=>exact q|brk=>exact q|cont=>exact q
theorem J70(h1:PS X st t):PSs X [st] t:=by
 intro pins s σ H D I h;refine Õ0 (thn (h1 pins s σ H D I h) λf s1 q=>?_);cases f with
 |next=>exact Ö2 q
 |ret v=>exact q|brk=>exact q|cont=>exact q
theorem Inv.quiet{pins:List (Ç × Obj)}{σ:St}{H:Hp}{s:Æ}(I:Inv X pins σ H s):interactive X.env=false:=by simp[interactive,I.ok.kind]
def C02(te:TE):TS:=λD σ H=>te σ H λ_ H1=>D.nx σ H1
theorem J80(he:PE X e te)(hs:Î2 e none pos.line X.env=pure false:=by rfl):PS X (.Expr e pos) (C02 te):=by
 intro pins s σ H D I h;exact wpAny_Expr_any (thn (he pins s σ H _ I h) λv s1 ⟨x,H1,I1,r1,q1⟩=>⟨σ,H1,I1,q1⟩) I.quiet hs
def Q52(te:TE):TS:=λD σ H=>te σ H D.rt
theorem d11(he:PE X e te):PS X (.Return (some e) pos) (Q52 te):=by
 intro pins s σ H D I h;exact wpAny_Return_some (thn (he pins s σ H _ I h) λv s1 ⟨x,H1,I1,r1,q1⟩=>⟨x,σ,H1,I1,r1,q1⟩)
def C12:TS:=λD _ H=>D.rt .non H
def W31:PS X (.Return none pos) C12:=λ_ _ σ H _ I h=>wpAny_Return_none ⟨.non,σ,H,I,rfl,h⟩
def Q62(c:TT)(t u:TS):TS:=λD σ H=>c σ H λb H1=>if b=true then t D σ H1 else u D σ H1
theorem p71{c:Ð}{a b:List Á5}{tc:TT}(hc:PT X c tc)(ha:PSs X a t)(hb:PSs X b u):PS X (.If c a b pos) (Q62 tc t u):=by
 intro pins s σ H D I h;refine wpAny_If (thn (hc pins s σ H _ I h) λd s1 ⟨H1,I1,q1⟩=>?_);cases d with
 |true=>exact ha pins s1 σ H1 D I1 q1|false=>exact hb pins s1 σ H1 D I1 q1
end
abbrev TG:=V->St->Hp->(St->Hp->Prop)->Prop
abbrev TGs:=List V->St->Hp->(St->Hp->Prop)->Prop
def PG(X:Cx)(target:Ð)(t:TG):Prop:=
 ∀ (pins:List (Ç × Obj)) (s:Æ) (σ:St) (H:Hp) (v:V) (u:Ä) (Q:St->Hp->Prop),Inv X pins σ H s->RelV v u->t v σ H Q ->
  Ñ (Ø X.prog X.w) X.A (Ù9 target X.env u) (λ_ s'=>∃ σ' H',Inv X pins σ' H' s'/\Q σ' H') X.xe s
def PGs(X:Cx)(ts:List Ð)(t:TGs):Prop:=
 ∀ (pins:List (Ç × Obj)) (s:Æ) (σ:St) (H:Hp) (vs:List V) (us:List Ä) (Q:St->Hp->Prop),Inv X pins σ H s->Vals vs us->t vs σ H Q ->
  Ñ (Ø X.prog X.w) X.A (assignInOrder ((Ê1 ts X.env).map (·.2)) us) (λ_ s'=>∃ σ' H',Inv X pins σ' H' s'/\Q σ' H') X.xe s
abbrev z92:=V->V->V->Hp->(Hp->Prop)->Prop
def M32(X:Cx)(t:z92):Prop:=
 ∀ (pins:List (Ç × Obj)) (s:Æ) (σ:St) (H:Hp) (o i v:V) (ov iv u:Ä) (Q:Hp->Prop),Inv X pins σ H s->RelV o ov->RelV i iv->RelV v u->t o i v H Q ->
  Ñ (Ø X.prog X.w) X.A (setItem ov iv u) (λ_ s'=>∃ H',Inv X pins σ H' s'/\Q H') X.xe s
section
variable {X:Cx}{pos:Pos}
def J90(i:Nat):TG:=λv σ H Q=>Q (σ.set i (some v)) H
theorem X60{i:Nat}{x:Str}(hN:X.N.Nodup)(hi:X.N[i]?=some x)(hx:Loc X.env.scope x)(hf:X.fn x=true\/X.env.scope.names.lookup x=some .local:=by first | exact .inl rfl | exact .inr rfl | assumption):PG X (.Name x pos) (J90 i):=by
 intro pins s σ H v u Q I r h;exact Ý4 (B10 I hN hi hx r (λs' I'=>⟨_,H,I',h⟩) hf)
def M42:TGs:=λvs σ H Q=>vs=[]/\Q σ H
def l32(t:TG)(u:TGs):TGs:=λvs σ H Q=>∃ v r,vs=v::r/\t v σ H λσ' H'=>u r σ' H' Q
theorem W41:PGs X [] M42:=by
 intro pins s σ H vs us Q I r h;obtain⟨e,h⟩:=h;subst e;cases r;exact assignInOrder_nil ⟨σ,H,I,h⟩
theorem G61{e:Ð}{es:List Ð}{t:TG}{u:TGs}(h1:PG X e t)(h2:PGs X es u)
 (hs:(Ê1 (e::es) X.env).map (·.2)=Ù9 e X.env::(Ê1 es X.env).map (·.2):=by rfl):PGs X (e::es) (l32 t u):=by
 intro pins s σ H vs us Q I r h;obtain⟨v,vr,e1,h⟩:=h;subst e1;cases r with
 |cons r rr =>
  rw[hs];refine Ü4 (thn (h1 pins s σ H _ _ _ I r h) λ_ s1 ⟨σ1,H1,I1,q1⟩=>?_);exact h2 pins s1 σ1 H1 _ _ Q I1 rr q1
def M52(K:Â)(n:Nat)(t:TGs):TG:=λv σ H Q=>∃ a xs,v=.ref a/\SqT K H a xs/\xs.length=n/\t xs σ H Q
theorem l42{es:List Ð}{k:Nat}{t:TGs}{n:Nat}(hc:X.calm=true)(h:PGs X es t)
 (hn:(Ê1 es X.env).length=n:=by rfl) (hst:(Ê1 es X.env).findIdx? (·.1)=none:=by rfl):PG X (.Tuple es k pos) (M52 X.K n t):=by
 intro pins s σ H v u Q I r hw;obtain⟨a,xs,e1,hq,hl,hw⟩:=hw;subst e1;cases r;obtain⟨its,rv,ht,hz⟩:=I.tuple hq;refine assign_Tuple_tuple (I.ok.hd hc) ht (by simp[hn,← hl,rv.length]) hst λh' hx=>?_
 have I1:Inv X pins σ H { s with heap:=h' }:=I.kept (t':=s.toks) λb o e=>hx b o (Õ (Þ e)) e;exact h pins _ σ H xs _ Q I1 (by simpa using rv) hw
def Q72(to ti:TE)(t:z92):TG:=λv σ H Q=>to σ H λo H1=>ti σ H1 λi H2=>t o i v H2 λH3=>Q σ H3
theorem l52{o i:Ð}{to ti:TE}{t:z92}(ho:PE X o to)(hi:PE X i ti)(hs:M32 X t)
 (ha:∀ v,Ù9 (.Subscript o i pos) X.env v=(do
   let ov ← Ý6 [v] (eval o X.env)
   let iv ← Ý6 [v,ov] (eval i X.env)
   standAt pos
   Ý6 [v,ov,iv] (setItem ov iv v)
   release [v,ov,iv] []):=by intro _;rfl):PG X (.Subscript o i pos) (Q72 to ti t):=by
 intro pins s σ H v u Q I r h;rw[ha];refine À (À6 (thn (ho pins s σ H _ I h) λov s1 ⟨x,H1,I1,r1,q1⟩=>?_));refine À (À6 (thn (hi pins s1 σ H1 _ I1 q1) λiv s2 ⟨y,H2,I2,r2,q2⟩=>?_));refine À (Û6 (À (À6 (thn (hs pins s2 σ H2 x y v ov iv u _ I2 r1 r2 r q2) λ_ s3 ⟨H3,I3,q3⟩=>?_))));exact wpAny_release ⟨σ,H3,I3,q3⟩
def l62(te:TE)(g:TG):TS:=λD σ H=>te σ H λx H1=>g x σ H1 D.nx
theorem R51{tg e:Ð}{te:TE}{g:TG}(he:PE X e te)(hg:PG X tg g)(hs:swapsWithSole [tg] e pos.line X.env=pure false:=by rfl)(hw:Ä7 [tg] e X.env=pure none:=by rfl)
 (h1:(Ê1 [tg] X.env).map (·.2)=[Ù9 tg X.env]:=by rfl):PS X (.Assign [tg] e pos) (l62 te g):=by
 intro pins s σ H D I h;refine wpAny_Assign_stores (thn (he pins s σ H _ I h) λv s1 ⟨x,H1,I1,r1,q1⟩=>?_) hs hw;rw[h1];exact thn (hg pins s1 σ H1 x v _ I1 r1 q1) λ_ s2 q=>q
theorem n20{i:Nat}{x:Str}{e:Ð}{te:TE}{pos':Pos}(hN:X.N.Nodup)(hi:X.N[i]?=some x)(hx:Loc X.env.scope x)(he:PE X e te)(hs:Î2 e (some (.Name x pos')) pos.line X.env=pure false:=by rfl)(hf:X.fn x=true\/X.env.scope.names.lookup x=some .local:=by first | exact .inl rfl | exact .inr rfl | assumption) :
  PS X (.Assign [.Name x pos'] e pos) (l62 te (J90 i)):=by
 intro pins s σ H D I h;refine wpAny_Assign_Name (thn (he pins s σ H _ I h) λv s1 ⟨y,H1,I1,r1,q1⟩=>?_) hs;exact B10 I1 hN hi hx r1 (λs2 I2=>⟨_,H1,I2,q1⟩) hf
def Q82(i j:Nat)(ta:TA):TS:=λD σ H=>ta σ H λvs H1=>∃ v w,vs=[v,w]/\D.nx ((σ.set i (some v)).set j (some w)) H1
theorem l72{i j:Nat}{x y:Str}{a b:Ð}{ta:TA}{px py pt:Pos}{kt k2 pt2}(hc:X.calm=true)(hN:X.N.Nodup)(hi:X.N[i]?=some x)(hj:X.N[j]?=some y)(hij:i≠j)
 (hx:X.env.scope.names.lookup x=some .local) (hy:X.env.scope.names.lookup y=some .local) (ha:PA X [a,b] ta)
 (hw:Ä7 [.Tuple [.Name x px,.Name y py] kt pt] (.Tuple [a,b] k2 pt2) X.env=pure (some [x,y]))
 (hs:swapsWithSole [.Tuple [.Name x px,.Name y py] kt pt] (.Tuple [a,b] k2 pt2) pos.line X.env=pure false:=by rfl) :
  PS X (.Assign [.Tuple [.Name x px,.Name y py] kt pt] (.Tuple [a,b] k2 pt2) pos) (Q82 i j ta):=by
 intro pins s σ H D I h;rw[exec_Assign_arm];refine À (Û6 ?_);rw[hs];refine À (Å ?_);rw[if_neg 1e1]
 refine À (Tuple_ (thn (ha _ pins s σ H _ I h) λus s1 ⟨vs,H1,I1,r1,q1⟩=>?_));obtain⟨v,w,e1,q1⟩:=q1;subst e1;obtain⟨u1,u2,rfl,rv,rw'⟩:∃ u1 u2,us=[u1,u2]/\RelV v u1/\RelV w u2:=by
  cases r1 with
  |cons p q =>
   cases q with
   |cons p' q' =>
    cases q';exact⟨_,_,rfl,p,p'⟩
 refine é ?_ (by show 2<=sizeLine;decide)
 have I2:Inv X pins σ H1 { s1 with heap:=s1.heap.push { cls:=.type "tuple",data:=.seq [u1,u2].toArray } }:=I1.kept (t':=s1.toks) λb o e=>Ã _ e;rw[hw];refine À (Å ?_);show Ñ (Ø X.prog X.w) X.A (do rule "assign.swapped-stores";let items ← unpackItems (.ref s1.heap.objs.size) 2 none;assignInOrder [λv=>bindName X.env y v,λv=>bindName X.env x v] items.reverse;pure Flow.next) _ _ _;refine À (É9 (À (unpackItems_tuple (items:=#[u1,u2]) (I.ok.hd hc) (Ï4.new s1.heap _) λh' hx'=>?_)));have I3:=I2.kept (h':=h') (t':=s1.toks) λb o e=>hx' b o (Õ (Þ e)) e;show Ñ _ _ (assignInOrder [λv=>bindName X.env y v,λv=>bindName X.env x v] [u2,u1] >>= λ_=>pure Flow.next) _ _ _;refine À (Ü4 (wpAny_bindName (B10 I3 hN hj (.inl hy) rw' (λs2 I4=>?_) (.inr hy))));refine Ü4 (wpAny_bindName (B10 I4 hN hi (.inl hx) rv (λs3 I5=>assignInOrder_nil (Å ?_)) (.inr hx)));rw[List.set_comm _ _ (Á0 hij)] at I5;exact⟨_,H1,I5,q1⟩
end
structure It where
 go:Nat->Hp->Prop
 yld:Nat->Hp->V->Hp->Prop
 stop:Nat->Hp->Prop
def d21(X:Cx)(pins:List (Ç × Obj))(H:Hp)(b:Ç):Prop:=
 H b=none/\b≠X.env.locals/\b ∉ X.fs/\(b∈X.ex\/X.s₀.heap.objs.size<=b)/\(∀ x c,X.env.cells.lookup x=some c->c≠b)/\∀ p∈X.pn++pins,p.1≠b
theorem Inv.G01{X:Cx}{pins:List (Ç × Obj)}{σ:St}{H H':Hp}{s:Æ}{b:Ç}(I:Inv X pins σ H s)(hb:s.heap.objs.size<=b)(hn:H' b=none):d21 X pins H' b:=by
 refine⟨hn,Ê7 (Ô I.lt hb),I.P92 hb,.inr (Ó I.sz hb),λx c e z=>?_,λp hp z=>?_⟩
 ·obtain⟨v,q⟩:=I.cell x c e;exact absurd (Ô q.lt (by rw[z];exact hb)) (Â5 _)
 ·exact absurd (Ô (Þ (I.pin p hp).1) (by rw[z];exact hb)) (Â5 _)
structure Turn(P:Program)(w:World)(K:PySem.W.Frag)(tg:Expr)(J:It)(fp:List Addr)(it:Addr)(tn:Nat->Heap->Prop):Prop where
 mem:it∈fp
 obj:∀ i h,tn i h->∀ b∈fp,∃ o,h.get? b=some o/\∀ v,o.data≠.cell v
 keep:∀ i h h',tn i h->(∀ b∈fp,∀ o,h.get? b=some o->h'.get? b=some o)->tn i h'
 item:∀ (X:Cx),X.prog=P->X.w=w->X.K=K->X.calm=true->∀ (i:Nat) (pins:List (Addr × Obj)) (s:Shared) (σ:St) (H:Hp) (E:Value->Shared->Prop),Inv X pins σ H s->(∀ b∈fp,d21 X pins H b)->tn i s.heap->J.go i H ->
  wpAny (model P w) X.A (pyNext (.ref it)) (λr s1=>∃ u,r=some u /\
   wpAny (model P w) X.A (letOwnedTupleGo tg (.ref it) u) (λ_ s2=>∃ x H',Inv X pins σ H' s2/\RelV x u/\J.yld i H x H'/\tn (i + 1) s2.heap/\∀ b∈fp,H' b=none) E s1) E s
 done:∀ (X:Cx),X.prog=P->X.w=w->X.K=K->X.calm=true->∀ (i:Nat) (pins:List (Addr × Obj)) (s:Shared) (σ:St) (H:Hp) (E:Value->Shared->Prop),Inv X pins σ H s->(∀ b∈fp,d21 X pins H b)->tn i s.heap->J.stop i H ->
  wpAny (model P w) X.A (pyNext (.ref it)) (λr s1=>r=none/\Inv X pins σ H s1) E s
 self:∀ (A:Around) (i:Nat) (s:Shared) (Q:Value->Shared->Prop) (E:Value->Shared->Prop),tn i s.heap->Q (.ref it) s->wpAny (model P w) A (pyIter (.ref it)) Q E s
abbrev TI:=St->Hp->(It->Hp->Prop)->Prop
def PIE(X:Cx)(pins:List (Ç × Obj))(σ:St)(tg:Ð)(R:It->Hp->Prop)(itv:Ä)(s2:Æ):Prop:=
 ∃ (it:Ç) (fp:List Ç) (tn:Nat->ê->Prop) (J:It) (H':Hp),itv=.ref it/\Inv X pins σ H' s2/\Turn X.prog X.w X.K tg J fp it tn/\tn 0 s2.heap/\(∀ b∈fp,d21 X pins H' b)/\R J H'
def PI(X:Cx)(tg iter:Ð)(wi:TI):Prop:=
 ∀ (pins:List (Ç × Obj)) (s:Æ) (σ:St) (H:Hp) (R:It->Hp->Prop),Inv X pins σ H s->wi σ H R ->
  Ñ (Ø X.prog X.w) X.A (eval iter X.env) (λv s1=>Ñ (Ø X.prog X.w) X.A (pyIter v) (PIE X pins σ tg R) X.xe s1) X.xe s
theorem W51{M:Model}{A:ó}{E:Ä->Æ->Prop}{s:Æ}{tg:Ð}{it:Ç}{u:Ä}{o:Obj}{n:String}{vs:Array Ä}{Q:Unit->Æ->Prop}(ho:s.heap.get? it=some o)(hc:o.cls=.type n)(hd:o.data=.fields vs)
 (hn:["enumerate","zip","dict_itemiterator","dict_reverseitemiterator","odict_iterator","itertools.zip_longest","itertools.pairwise"].contains n=false) (hQ:Q () s):Ñ M A (à3 tg (.ref it) u) Q E s:=by
 unfold à3;cases tg <;> first
  |exact Å hQ
  |(cases u <;> first
    |exact Å hQ
    |(refine À (wpAny_load ho ?_)
      rw[hc,hd];show Ñ M A (if (["enumerate","zip","dict_itemiterator","dict_reverseitemiterator","odict_iterator","itertools.zip_longest","itertools.pairwise"].contains n&&vs[0]? == some (Ã9 _))=true then _ else _) Q E s;rw[if_neg (by intro h;rw[hn,Ì3] at h;cases h)]
      exact Å hQ))
def Itl(K:Â)(a:Ç):It:=
 ⟨λi H=>∃ xs x,SqL K H a xs/\xs[i]?=some x,λi H x H'=>H'=H/\∀ xs,SqL K H a xs->xs[i]?=some x,λi H=>∃ xs,SqL K H a xs/\xs.length<=i⟩
def Itt(K:Â)(a:Ç):It:=
 ⟨λi H=>∃ xs x,SqT K H a xs/\xs[i]?=some x,λi H x H'=>H'=H/\∀ xs,SqT K H a xs->xs[i]?=some x,λi H=>∃ xs,SqT K H a xs/\xs.length<=i⟩
def Itr(lo:Int)(n:Nat):It:=⟨λi _=>i < n,λi H x H'=>H'=H/\x=.int (lo + i),λi _=>n<=i⟩
theorem p81{P:à}{w:í}{K:Â}{tg:Ð}(a it:Ç):Turn P w K tg (Itl K a) [it] it (λi h=>h.IsListIter it a i) where
 mem:=by simp
 obj:=λi h st b hb=>by
  have e:b=it:=by simpa using hb
  subst e;obtain⟨o,e,c,d⟩:=st;exact⟨o,e,λv z=>by rw[d] at z;cases z⟩
 keep:=λi h h' st k=>st.at λo e=>k it (by simp) o e
 item:=by
  intro X hP hw hK hc i pins s σ H E I hf st hg;subst hP hw hK;obtain⟨xs,x,hq,hx⟩:=hg;obtain⟨its,rv,p,hz⟩:=I.list hq;obtain⟨u,hu,ru⟩:=rv.get hx;obtain⟨f0,f1,f2,f3,f4,f5⟩:=hf it (by simp)
  refine wpAny_pyNext_list_item st p.isList (x:=u) (by simpa using hu) λh' st' sb=>?_
  have I1:Inv X pins σ H { s with heap:=h' }:=I.turned (t':=s.toks) (λb o hb e=>(sb.2 b hb).trans e) f0 f1 f3 f4 f5;obtain⟨o,e,c,d⟩:=id st';exact⟨u,rfl,W51 (s:={ s with heap:=h' }) e c d 1e1 ⟨x,H,I1,ru,⟨rfl,λys hy=>by rw[I.d01 hy hq];exact hx⟩,st',λb hb=>(hf b hb).1⟩⟩
 done:=by
  intro X hP hw hK hc i pins s σ H E I hf st hg;subst hP hw hK;obtain⟨xs,hq,hx⟩:=hg;obtain⟨its,rv,p,hz⟩:=I.list hq;obtain⟨f0,f1,f2,f3,f4,f5⟩:=hf it (by simp)
  have hl:=rv.length;exact wpAny_pyNext_list_end (I.ok.hd hc) st p.isList (by simp;omega) λh' eb=>⟨rfl,I.turned (t':=s.toks) (λb o hb e=>eb b o hb e) f0 f1 f3 f4 f5⟩
 self:=λ_ _ _ _ _ st h=>wpAny_pyIter_listiter st h
theorem j91{P:à}{w:í}{K:Â}{tg:Ð}(a it:Ç):Turn P w K tg (Itt K a) [it] it (λi h=>h.IsTupleIter it a i) where
 mem:=by simp
 obj:=λi h st b hb=>by
  have e:b=it:=by simpa using hb
  subst e;obtain⟨o,e,c,d⟩:=st;exact⟨o,e,λv z=>by rw[d] at z;cases z⟩
 keep:=λi h h' st k=>st.at λo e=>k it (by simp) o e
 item:=by
  intro X hP hw hK hc i pins s σ H E I hf st hg;subst hP hw hK;obtain⟨xs,x,hq,hx⟩:=hg;obtain⟨its,rv,p,hz⟩:=I.tuple hq;obtain⟨u,hu,ru⟩:=rv.get hx;obtain⟨f0,f1,f2,f3,f4,f5⟩:=hf it (by simp)
  refine wpAny_pyNext_tuple_item st (show s.heap.IsTuple a its.toArray from p) (x:=u) (by simpa using hu) λh' st' sb=>?_
  have I1:Inv X pins σ H { s with heap:=h' }:=I.turned (t':=s.toks) (λb o hb e=>(sb.2 b hb).trans e) f0 f1 f3 f4 f5;obtain⟨o,e,c,d⟩:=id st';exact⟨u,rfl,W51 (s:={ s with heap:=h' }) e c d 1e1 ⟨x,H,I1,ru,⟨rfl,λys hy=>by rw[I.Q50 hy hq];exact hx⟩,st',λb hb=>(hf b hb).1⟩⟩
 done:=by
  intro X hP hw hK hc i pins s σ H E I hf st hg;subst hP hw hK;obtain⟨xs,hq,hx⟩:=hg;obtain⟨its,rv,p,hz⟩:=I.tuple hq;obtain⟨f0,f1,f2,f3,f4,f5⟩:=hf it (by simp)
  have hl:=rv.length;exact wpAny_pyNext_tuple_end (I.ok.hd hc) st (show s.heap.IsTuple a its.toArray from p) (by simp;omega) λh' eb=>⟨rfl,I.turned (t':=s.toks) (λb o hb e=>eb b o hb e) f0 f1 f3 f4 f5⟩
 self:=λ_ _ _ _ _ st h=>wpAny_pyIter_tupleiter st h
theorem k01{P:à}{w:í}{K:Â}{tg:Ð}(it:Ç)(lo:Int)(n:Nat):Turn P w K tg (Itr lo n) [it] it (λi h=>IsRangeIter h it (lo + (i:Nat) * 1) ((n:Int) - (i:Nat)) 1) where
 mem:=by simp
 obj:=λi h st b hb=>by
  have e:b=it:=by simpa using hb
  subst e;exact⟨_,st,λv z=>by
   have z':Data.fields _=Data.cell v:=z;cases z'⟩
 keep:=λi h h' st k=>k it (by simp) _ st
 item:=by
  intro X hP hw hK hc i pins s σ H E I hf st hg;subst hP hw hK;obtain⟨f0,f1,f2,f3,f4,f5⟩:=hf it (by simp)
  have W:=Walks.range (prog:=X.prog) (w:=X.w) (I.ok.hd hc) it lo 1 n;refine W.item i s _ _ hg st λv h' tk hv st' kk=>?_;obtain⟨t,rfl⟩:=hv;have I1:Inv X pins σ H { s with heap:=h',toks:=tk }:=I.turned (λb o hb e=>kk b o (by simpa using hb) e) f0 f1 f3 f4 f5
  refine⟨_,rfl,W51 (s:={ s with heap:=h',toks:=tk }) (n:="range_iterator") st' rfl rfl 1e1 ⟨.int (lo + i),H,I1,⟨t,?_⟩,⟨rfl,rfl⟩,st',λb hb=>(hf b hb).1⟩⟩
  rw[Int.mul_one]
 done:=by
  intro X hP hw hK hc i pins s σ H E I hf st hg;subst hP hw hK;obtain⟨f0,f1,f2,f3,f4,f5⟩:=hf it (by simp)
  exact wpAny_pyNext_range_end (I.ok.hd hc) st (by have:n<=i:=hg;omega) λh' eb=>⟨rfl,I.turned (t':=s.toks) (λb o hb e=>eb b o hb e) f0 f1 f3 f4 f5⟩
 self:=λ_ _ _ _ _ st h=>wpAny_pyIter_rangeiter st h
section
variable {X:Cx}{tg:Ð}
def l82(K:Â)(tl:TE):TI:=λσ H R=>tl σ H λx H1=>∃ a,x=.ref a/\(∃ xs,SqL K H1 a xs)/\R (Itl K a) H1
def R02(K:Â)(tl:TE):TI:=λσ H R=>tl σ H λx H1=>∃ a,x=.ref a/\(∃ xs,SqT K H1 a xs)/\R (Itt K a) H1
theorem K00{l:Ð}{tl:TE}(hl:PE X l tl):PI X tg l (l82 X.K tl):=by
 intro pins s σ H R I h;refine thn (hl pins s σ H _ I h) λv s1 ⟨x,H1,I1,r1,q1⟩=>?_;obtain⟨a,e,⟨xs,hq⟩,q⟩:=q1;subst e;cases r1;obtain⟨its,rv,p,hz⟩:=I1.list hq;refine Í1 p.isList ?_;refine⟨s1.heap.objs.size,[s1.heap.objs.size],_,_,H1,rfl,I1.kept (t':=s1.toks) λb o e=>Ã _ e,p81 a _,⟨_,Ê _ rfl,rfl,rfl⟩,λb hb=>?_,q⟩;have e:b=s1.heap.objs.size:=by simpa using hb
 subst e;exact I1.G01 (Î _) (I1.hok.fresh (Î _))
theorem R61{l:Ð}{tl:TE}(hl:PE X l tl):PI X tg l (R02 X.K tl):=by
 intro pins s σ H R I h;refine thn (hl pins s σ H _ I h) λv s1 ⟨x,H1,I1,r1,q1⟩=>?_;obtain⟨a,e,⟨xs,hq⟩,q⟩:=q1;subst e;cases r1;obtain⟨its,rv,p,hz⟩:=I1.tuple hq;refine Ò0 (show s1.heap.IsTuple a its.toArray from p) ?_;refine⟨s1.heap.objs.size,[s1.heap.objs.size],_,_,H1,rfl,I1.kept (t':=s1.toks) λb o e=>Ã _ e,j91 a _,⟨_,Ê _ rfl,rfl,rfl⟩,λb hb=>?_,q⟩;have e:b=s1.heap.objs.size:=by simpa using hb
 subst e;exact I1.G01 (Î _) (I1.hok.fresh (Î _))
theorem d31{pins:List (Ç × Obj)}{σ:St}{H:Hp}{s:Æ}{R:It->Hp->Prop}{E:Ä->Æ->Prop}{lo hi:Int}{t u v:Tok}{tk:Nat}(I:Inv X pins σ H s)(h1:-(2 ^ 62)<=lo)(h2:lo < 2 ^ 62)(h3:-(2 ^ 62)<=hi)(h4:hi < 2 ^ 62)
 (q:R (Itr lo (hi - lo).toNat) H):Ñ (Ø X.prog X.w) X.A (pyIter (.ref s.heap.objs.size)) (PIE X pins σ tg R) E { s with heap:=s.heap.push { cls:=.type "range",data:=.fields #[.int lo t,.int hi u,.int 1 v] },toks:=tk }:=by
 refine wpAny_pyIter_range (Ö1.new ..) (small_one h1 h2 h3 h4) ?_;have I1:Inv X pins σ H { s with heap:=s.heap.push { cls:=.type "range",data:=.fields #[.int lo t,.int hi u,.int 1 v] },toks:=tk }:=I.kept λb o e=>Ã _ e;refine⟨(s.heap.push { cls:=.type "range",data:=.fields #[.int lo t,.int hi u,.int 1 v] }).objs.size,[(s.heap.push { cls:=.type "range",data:=.fields #[.int lo t,.int hi u,.int 1 v] }).objs.size],_,_,H,rfl,
  I1.kept (t':=tk) λb o e=>Ã _ e,k01 _ lo (hi - lo).toNat,?_,λb hb=>?_,q⟩
 ·have e1:lo + ((0:Nat):Int) * 1=lo:=by simp
  have e2:(((hi - lo).toNat:Nat):Int) - ((0:Nat):Int)=Ä0 lo hi 1:=by rw[rangeSize_one];split <;> omega
  show IsRangeIter _ _ (lo + ((0:Nat):Int) * 1) ((((hi - lo).toNat:Nat):Int) - ((0:Nat):Int)) 1;rw[e1,e2];exact Ê _ rfl
 ·have e:b=(s.heap.push { cls:=.type "range",data:=.fields #[.int lo t,.int hi u,.int 1 v] }).objs.size:=by simpa using hb
  subst e;exact I1.G01 (Î _) (I1.hok.fresh (Î _))
def C22(ta:TA):TI:=λσ H R=>ta σ H λvs H1=>∃ j:Int,vs=[.int j]/\-(2 ^ 62)<=j/\j < 2 ^ 62/\R (Itr 0 j.toNat) H1
def C32(ta:TA):TI:=λσ H R=>ta σ H λvs H1=>∃ i j:Int,vs=[.int i,.int j]/\(-(2 ^ 62)<=i/\i < 2 ^ 62/\-(2 ^ 62)<=j/\j < 2 ^ 62)/\R (Itr i (j - i).toNat) H1
theorem Q60{a:Ð}{ta:TA}{p pos:Pos}(hg:Gl X "range")(hm:X.mg "range"=none)(ha:PA X [a] ta)(hs:ý [a] X.env=[(false,eval a X.env)]:=by rfl):PI X tg (.Call (.Name "range" p) [a] [] pos) (C22 ta):=by
 intro pins s σ H R I h;refine Call_ (y60 I hg hm boot_range (Â4 (thn (ha pos pins s σ H _ I h) λus s1 ⟨vs,H1,I1,r1,q1⟩=>?_) hs rfl));obtain⟨j,e,q1,q2,q⟩:=q1;subst e;cases r1 with
 |cons r rr =>
  cases rr;obtain⟨t,rfl⟩:=r;exact call_range_1 (d31 I1 ∅ ∅ q1 q2 (by simpa using q))
theorem p91{a b:Ð}{ta:TA}{p pos:Pos}(hg:Gl X "range")(hm:X.mg "range"=none)(ha:PA X [a,b] ta)(hs:ý [a,b] X.env=[(false,eval a X.env),(false,eval b X.env)]:=by rfl)(hs2:ý [b] X.env=[(false,eval b X.env)]:=by rfl) :
  PI X tg (.Call (.Name "range" p) [a,b] [] pos) (C32 ta):=by
 intro pins s σ H R I h;refine Call_ (y60 I hg hm boot_range (Â4 (thn (ha pos pins s σ H _ I h) λus s1 ⟨vs,H1,I1,r1,q1⟩=>?_) (by rw[hs,hs2]) (by rw[hs2];rfl)))
 obtain⟨i,j,e,⟨q1,q2,q3,q4⟩,q⟩:=q1;subst e;cases r1 with
 |cons r rr =>
  cases rr with
  |cons r' rr =>
   cases rr;obtain⟨t,rfl⟩:=r;obtain⟨t',rfl⟩:=r';exact call_range_2 (d31 I1 q1 q2 q3 q4 q)
def R12(wi:TI)(g:TG)(tb:TS):TS:=λD σ H=>wi σ H λJ H1=>∃ W:Nat->Nat->St->Hp->Prop,(∃ m,W 0 m σ H1)/\∀ i m σ H,W i m σ H ->
 (J.stop i H/\D.nx σ H)\/(J.go i H/\∃ N:St->Hp->Prop,(∀ σ' H',N σ' H'->∃ m',m' < m/\W (i + 1) m' σ' H')/\∀ x H',J.yld i H x H'->g x σ H' λσ2 H2=>tb { D with nx:=N,ct:=N,bk:=D.nx } σ2 H2)
def C40(fp:List Ç)(h:ê):List (Ç × Obj):=fp.filterMap λb=>(h.get? b).map λo=>(b,o)
def l60{fp:List Ç}{h:ê}{b:Ç}{o:Obj}(hb:b∈fp)(e:h.get? b=some o):(b,o)∈C40 fp h:=Ø6.mpr ⟨b,hb,by rw[e];rfl⟩
theorem Q70{fp:List Ç}{h:ê}{p:Ç × Obj}(hp:p∈C40 fp h):p.1∈fp/\h.get? p.1=some p.2:=by
 obtain⟨b,hb,e⟩:=Ø6.mp hp;cases q:h.get? b with
 |none=>rw[q] at e;cases e
 |some o =>
  rw[q] at e;have e':(b,o)=p:=ü e;subst e';exact⟨hb,q⟩
def Inv.pinned{pins:List (Ç × Obj)}{σ:St}{H:Hp}{s:Æ}{fp:List Ç}(I:Inv X pins σ H s)(hf:∀ b∈fp,d21 X pins H b)(ho:∀ b∈fp,∃ o,s.heap.get? b=some o/\∀ v,o.data≠.cell v):Inv X (pins++C40 fp s.heap) σ H s:=
 I.C10 λp hp=>(Á2.mp hp).elim (λz=>I.pin p (ì _ z)) λz=>by
  obtain⟨hb,e⟩:=Q70 z;obtain⟨f0,f1,f2,_⟩:=hf p.1 hb;obtain⟨o,e',d⟩:=ho p.1 hb;rw[e] at e';cases e';exact⟨e,f0,f1,f2,d⟩
def Inv.K10{pins pl:List (Ç × Obj)}{σ:St}{H:Hp}{s:Æ}(I:Inv X (pins++pl) σ H s):Inv X pins σ H s:=I.C10 λp hp=>I.pin p (ì _ (Å0 _ hp))
theorem q01{iter:Ð}{body:List Á5}{wi:TI}{g:TG}{tb:TS}{pos:Pos}(hp:PassesOwn (Ø X.prog X.w) X.A X.env X.xe)(hc:X.calm=true)(hi:PI X tg iter wi)(hg:PG X tg g)(hb:PSs X body tb)
 (hs:∀ x,Å3 iter X.env x=pure x:=by intro _;rfl):PS X (.For tg iter body [] pos) (R12 wi g tb):=by
 intro pins s σ H D I h;refine wpAny_For (thn (hi pins s σ H _ I h) λv s1 h1=>thn h1 λitv s2 h2=>?_) hs;obtain⟨it,fp,tn,J,H2,e,I2,T,st2,f2,W,⟨m0,w0⟩,turn⟩:=h2;subst e;have stat:∀ {H':Hp},(∀ b∈fp,H' b=none)->∀ b∈fp,d21 X pins H' b:=λhn b hb=>⟨hn b hb,(f2 b hb).2⟩;refine codeAny_forLoop_any (λn s'=>∃ i σ' H',Inv X pins σ' H' s'/\tn i s'.heap/\(∀ b∈fp,H' b=none)/\W i n σ' H') ?_ m0 ⟨0,σ,H2,I2,st2,λb hb=>(f2 b hb).1,w0⟩;rintro n s3 ⟨i,σ3,H3,I3,st3,fr3,w3⟩;rcases turn i n σ3 H3 w3 with ⟨stop,qn⟩ | ⟨go,N,hN,step⟩
 ·refine Ï9 hp (thn (T.done X rfl rfl rfl hc i pins s3 σ3 H3 X.xe I3 (stat fr3) st3 stop) λr s4 ⟨hr,I4⟩=>?_);subst hr;exact Ö2 ⟨σ3,H3,I4,qn⟩
 ·refine Ï9 hp (thn (T.item X rfl rfl rfl hc i pins s3 σ3 H3 X.xe I3 (stat fr3) st3 go) λr s4 ⟨u,hr,h4⟩=>?_);subst hr;refine Ï9 hp (thn h4 λ_ s5 ⟨x,H5,I5,r5,y5,st5,fr5⟩=>?_);have I5':=I5.pinned (stat fr5) (T.obj _ _ st5);refine Ï9 hp (thn (hg _ s5 σ3 H5 x u _ I5' r5 (step x H5 y5)) λ_ s6 ⟨σ6,H6,I6,q6⟩=>?_);refine Ï9 hp (thn (hb _ s6 σ6 H6 _ I6 q6) λf s7 q7=>?_);have again:∀ {σ7:St}{H7:Hp},Inv X (pins++C40 fp s5.heap) σ7 H7 s7->N σ7 H7->∃ m,m < n/\∃ i σ' H',Inv X pins σ' H' s7/\tn i s7.heap/\(∀ b∈fp,H' b=none)/\W i m σ' H':=λ{σ7 H7} I7 n7=>by
   obtain⟨m',hm,w7⟩:=hN σ7 H7 n7;refine⟨m',hm,i + 1,σ7,H7,I7.K10,T.keep _ _ _ st5 λb hb o e=>(I7.pin (b,o) (ì _ (ì _ (l60 hb e)))).1,λb hb=>?_,w7⟩;obtain⟨o,e,d⟩:=T.obj _ _ st5 b hb;exact(I7.pin (b,o) (ì _ (ì _ (l60 hb e)))).2.1
  cases f with
  |next=>obtain⟨σ7,H7,I7,n7⟩:=q7;exact again I7 n7
  |cont=>obtain⟨σ7,H7,I7,n7⟩:=q7;exact again I7 n7
  |brk=>obtain⟨σ7,H7,I7,q7⟩:=q7;exact⟨σ7,H7,I7.K10,q7⟩
  |ret v=>obtain⟨x7,σ7,H7,I7,r7,q7⟩:=q7;exact⟨x7,σ7,H7,I7.K10,r7,q7⟩
end
theorem G71{K:Â}{a:Ç}{xs:List V}{g:TG}{tb:TS}{D:Ends}{σ:St}{H:Hp}(Pv:Nat->St->Hp->Prop)(h0:Pv 0 σ H)(hl:∀ i σ H,i<=xs.length->Pv i σ H->SqL K H a xs)
 (hs:∀ i x σ H,xs[i]?=some x->Pv i σ H->g x σ H λσ2 H2=>tb { D with nx:=Pv (i + 1),ct:=Pv (i + 1),bk:=D.nx } σ2 H2) (hd:∀ σ H,Pv xs.length σ H->D.nx σ H) :
  ∃ W:Nat->Nat->St->Hp->Prop,(∃ m,W 0 m σ H)/\∀ i m σ H,W i m σ H ->
   ((Itl K a).stop i H/\D.nx σ H)\/((Itl K a).go i H/\∃ N:St->Hp->Prop,(∀ σ' H',N σ' H'->∃ m',m' < m/\W (i + 1) m' σ' H')/\∀ x H',(Itl K a).yld i H x H'->g x σ H' λσ2 H2=>tb { D with nx:=N,ct:=N,bk:=D.nx } σ2 H2):=by
 refine⟨λi m σ H=>m=xs.length - i/\i<=xs.length/\Pv i σ H,⟨xs.length,by simp,Æ5 _,h0⟩,?_⟩
 rintro i m σ H ⟨rfl,hi,p⟩;have q:=hl i σ H hi p;by_cases hlt:i < xs.length
 ·refine .inr ⟨⟨xs,xs[i],q,by simp[hlt]⟩,Pv (i + 1),λσ' H' p'=>⟨xs.length - (i + 1),∅,rfl,hlt,p'⟩,λx H' y=>?_⟩
  obtain⟨e,y⟩:=y;subst e;exact hs i x σ _ (y xs q) p
 ·have e:i=xs.length:=∅
  subst e;exact .inl ⟨⟨xs,q,Î _⟩,hd σ H p⟩
abbrev R2:=V->V->Hp->VK->Prop
def OpR(X:Cx)(f:Ä->Ä->Sem Ä)(r:R2):Prop:=
 ∀ (pins:List (Ç × Obj)) (s:Æ) (σ:St) (H:Hp) (x y:V) (v u:Ä) (Q:VK),Inv X pins σ H s->RelV x v->RelV y u->r x y H Q ->
  Ñ (Ø X.prog X.w) X.A (f v u) (EP X pins σ Q) X.xe s
def UnR(X:Cx)(f:Ä->Sem Ä)(r:V->Hp->VK->Prop):Prop:=
 ∀ (pins:List (Ç × Obj)) (s:Æ) (σ:St) (H:Hp) (x:V) (v:Ä) (Q:VK),Inv X pins σ H s->RelV x v->r x H Q ->
  Ñ (Ø X.prog X.w) X.A (f v) (EP X pins σ Q) X.xe s
def g10(X:Cx)(f:Ä)(r:List V->Hp->VK->Prop):Prop:=
 ∀ (pins:List (Ç × Obj)) (s:Æ) (σ:St) (H:Hp) (xs:List V) (us:List Ä) (Q:VK),Inv X pins σ H s->Vals xs us->r xs H Q ->
  Ñ (Ø X.prog X.w) X.A (call f us) (EP X pins σ Q) X.xe s
def tOp(r:R2)(ta tb:TE):TE:=λσ H Q=>ta σ H λx H1=>tb σ H1 λy H2=>r x y H2 Q
def tUn(r:V->Hp->VK->Prop)(ta:TE):TE:=λσ H Q=>ta σ H λx H1=>r x H1 Q
def rI(C:Int->Int->Prop)(g:Int->Int->V):R2:=λx y H Q=>∃ i j,x=.int i/\y=.int j/\C i j/\Q (g i j) H
def rI0(g:Int->Int->V):R2:=λx y H Q=>∃ i j,x=.int i/\y=.int j/\Q (g i j) H
def rU(g:Int->V):V->Hp->VK->Prop:=λx H Q=>∃ i,x=.int i/\Q (g i) H
section
variable {X:Cx}{a b c:Ð}{ta tb tc:TE}{pos:Pos}
theorem C42(ha:PE X a ta)(hb:PE X b tb){pins:List (Ç × Obj)}{s:Æ}{σ:St}{H:Hp}{R:V->V->Hp->Prop}(I:Inv X pins σ H s)
 (h:ta σ H λx H1=>tb σ H1 λy H2=>R x y H2) {Q:Ä->Æ->Prop}{f:Ä->Ä->Sem Ä}
 (hf:∀ v u s2 x y H2,Inv X pins σ H2 s2->RelV x v->RelV y u->R x y H2->Ñ (Ø X.prog X.w) X.A (f v u) Q X.xe s2) :
  Ñ (Ø X.prog X.w) X.A (eval a X.env) (λv s₁=>Ñ (Ø X.prog X.w) X.A (eval b X.env) (λu s₂=>Ñ (Ø X.prog X.w) X.A (f v u) Q X.xe s₂) X.xe s₁) X.xe s:=by
 refine thn (ha pins s σ H _ I h) λv s1 ⟨x,H1,I1,r1,q1⟩=>?_;refine thn (hb pins s1 σ H1 _ I1 q1) λu s2 ⟨y,H2,I2,r2,q2⟩=>?_;exact hf v u s2 x y H2 I2 r1 r2 q2
theorem G81{op:Operator}{r:R2}(ho:OpR X (Å6 op) r)(ha:PE X a ta)(hb:PE X b tb):PE X (.BinOp a op b pos) (tOp r ta tb):=by
 intro pins s σ H Q I h;exact wpAny_BinOp (C42 ha hb I h λv u s2 x y H2 I2 rx ry q=>ho pins s2 σ H2 x y v u Q I2 rx ry q)
theorem l92{op:UnaryOp}{r:V->Hp->VK->Prop}(ho:UnR X (unaryOp op) r)(ha:PE X a ta):PE X (.UnaryOp op a pos) (tUn r ta):=by
 intro pins s σ H Q I h;exact UnaryOp_ (thn (ha pins s σ H _ I h) λv s1 ⟨x,H1,I1,r1,q1⟩=>ho pins s1 σ H1 x v Q I1 r1 q1)
theorem opI{f:Ä->Ä->Sem Ä}{C:Int->Int->Prop}{g:Int->Int->Int}
 (rule:∀ (i j:Int) (t u:Tok) (s:Æ) (Q:Ä->Æ->Prop) (E:Ä->Æ->Prop),C i j->Q (.int (g i j) s.toks) { s with toks:=s.toks + 1 }->Ñ (Ø X.prog X.w) X.A (f (.int i t) (.int j u)) Q E s) :
  OpR X f (rI C λi j=>.int (g i j)):=by
 intro pins s σ H x y v u Q I rx ry h;obtain⟨i,j,rfl,rfl,hc,q⟩:=h;obtain⟨t,rfl⟩:=rx;obtain⟨t',rfl⟩:=ry;exact rule i j t t' s _ _ hc ⟨.int (g i j),H,I.tok _,⟨_,rfl⟩,q⟩
theorem M72{f:Ä->Ä->Sem Ä}{g:Int->Int->Int}
 (rule:∀ (i j:Int) (t u:Tok) (s:Æ) (Q:Ä->Æ->Prop) (E:Ä->Æ->Prop),Q (.int (g i j) s.toks) { s with toks:=s.toks + 1 }->Ñ (Ø X.prog X.w) X.A (f (.int i t) (.int j u)) Q E s) :
  OpR X f (rI0 λi j=>.int (g i j)):=by
 intro pins s σ H x y v u Q I rx ry h;obtain⟨i,j,rfl,rfl,q⟩:=h;obtain⟨t,rfl⟩:=rx;obtain⟨t',rfl⟩:=ry;exact rule i j t t' s _ _ ⟨.int (g i j),H,I.tok _,⟨_,rfl⟩,q⟩
theorem C52{f:Ä->Ä->Sem Ä}{g:Int->Int->Bool}
 (rule:∀ (i j:Int) (t u:Tok) (s:Æ) (Q:Ä->Æ->Prop) (E:Ä->Æ->Prop),Q (.bool (g i j)) s->Ñ (Ø X.prog X.w) X.A (f (.int i t) (.int j u)) Q E s) :
 OpR X f (rI0 λi j=>.bl (g i j)):=by
 intro pins s σ H x y v u Q I rx ry h;obtain⟨i,j,rfl,rfl,q⟩:=h;obtain⟨t,rfl⟩:=rx;obtain⟨t',rfl⟩:=ry;exact rule i j t t' s _ _ ⟨.bl (g i j),H,I,rfl,q⟩
def R22(i j:Int):Prop:=0<=j/\j<=1000000/\i.natAbs < 2 ^ 64
def m02:OpR X (Å6 .Add) (rI0 λi j=>.int (i + j)):=M72 λ_ _ _ _ _ _ _ q=>add_int q
def m12:OpR X (Å6 .Sub) (rI0 λi j=>.int (i - j)):=M72 λ_ _ _ _ _ _ _ q=>sub_int q
theorem m22:OpR X (binaryOp .Mod) (rI (λ_ j=>0 < j) λi j=>.int (i % j)):=opI λi j _ _ _ _ _ hc q=>by
 have h1:(0:Int) < j:=hc;exact mod_int' ∅ (by rw[Int.fmod_eq_emod_of_nonneg i ∅];exact q)
def m32:OpR X (Å6 .Pow) (rI R22 λi j=>.int (i ^ j.toNat)):=opI λ_ _ _ _ _ _ _ hc q=>pow_int_small hc.1 hc.2.1 hc.2.2 q
theorem unI{f:Ä->Sem Ä}{g:Int->Int}
 (rule:∀ (i:Int) (t:Tok) (s:Æ) (Q:Ä->Æ->Prop) (E:Ä->Æ->Prop),Q (.int (g i) s.toks) { s with toks:=s.toks + 1 }->Ñ (Ø X.prog X.w) X.A (f (.int i t)) Q E s) :
  UnR X f (rU λi=>.int (g i)):=by
 intro pins s σ H x v Q I rx h;obtain⟨i,rfl,q⟩:=h;obtain⟨t,rfl⟩:=rx;exact rule i t s _ _ ⟨.int (g i),H,I.tok _,⟨_,rfl⟩,q⟩
def R71:UnR X (unaryOp .USub) (rU λi=>.int (-i)):=unI λ_ _ _ _ _ q=>neg_int q
theorem C62:OpR X (À4 .LtE) (rI0 λi j=>.bl (decide (i<=j))):=C52 λ_ _ _ _ _ _ _ q=>le_int q
theorem C72:OpR X (À4 .Gt) (rI0 λi j=>.bl (decide (j < i))):=C52 λ_ _ _ _ _ _ _ q=>gt_int q
theorem C82:OpR X (À4 .GtE) (rI0 λi j=>.bl (decide (j<=i))):=C52 λ_ _ _ _ _ _ _ q=>ge_int q
theorem q11{op:CmpOp}{r:R2}(ho:OpR X (À4 op) r)(ha:PE X a ta)(hb:PE X b tb)(hm:behindInMarks op b=false):PE X (.Compare a [op] [b] pos) (tOp r ta tb):=by
 intro pins s σ H Q I h;exact wpAny_Compare1 (C42 ha hb I h λv u s2 x y H2 I2 rx ry q=>ho pins s2 σ H2 x y v u Q I2 rx ry q) hm
def W61(t:TE):TT:=λσ H Q=>t σ H λx H'=>∃ k,x=.bl k/\Q k H'
theorem K20{op:CmpOp}{r:R2}(ho:OpR X (À4 op) r)(ha:PE X a ta)(hb:PE X b tb)(hm:behindInMarks op b=false):PT X (.Compare a [op] [b] pos) (W61 (tOp r ta tb)):=by
 intro pins s σ H Q I h;refine wpAny_isTrue_Compare1 (thn (ha pins s σ H _ I h) λv s1 ⟨x,H1,I1,r1,q1⟩=>thn (hb pins s1 σ H1 _ I1 q1) λu s2 ⟨y,H2,I2,r2,q2⟩ =>
  thn (ho pins s2 σ H2 x y v u _ I2 r1 r2 q2) λc s3 ⟨z,H3,I3,r3,k,e,q3⟩=>?_) hm
 subst e;cases r3;exact Á8 ⟨H3,I3,q3⟩
def q21(r r':R2)(ta tb tc:TE):TE:=λσ H Q=>ta σ H λx H1=>tb σ H1 λy H2=>r x y H2 λz H3=>∃ k,z=.bl k /\
 (if k=true then tc σ H3 λw' H4=>r' y w' H4 Q else Q (.bl false) H3)
theorem G91{op op':CmpOp}{r r':R2}(ho:OpR X (À4 op) r)(ho':OpR X (À4 op') r')(ha:PE X a ta)(hb:PE X b tb)(hc:PE X c tc)
 (hm:lastMarks [op,op'] [b,c]=false:=by with_unfolding_all rfl):PE X (.Compare a [op,op'] [b,c] pos) (q21 r r' ta tb tc):=by
 intro pins s σ H Q I h;refine Compare_chain (thn (ha pins s σ H _ I h) λv s1 ⟨x,H1,I1,r1,q1⟩=>chain_link (thn (hb pins s1 σ H1 _ I1 q1) λu s2 ⟨y,H2,I2,r2,q2⟩ =>
  thn (ho pins s2 σ H2 x y v u _ I2 r1 r2 q2) λd s3 ⟨z,H3,I3,r3,k,e,q3⟩=>?_)) hm
 subst e;cases r3;refine Á8 ?_;cases k with
 |false=>exact ite_ff ⟨.bl false,H3,I3,rfl,q3⟩|true=>exact ite_tt (chain_last (thn (hc pins s3 σ H3 _ I3 q3) λw' s4 ⟨z',H4,I4,r4,q4⟩=>ho' pins s4 σ H4 y z' u w' Q I4 r2 r4 q4))
theorem H01{op op':CmpOp}{r r':R2}(ho:OpR X (À4 op) r)(ho':OpR X (À4 op') r')(ha:PE X a ta)(hb:PE X b tb)(hc:PE X c tc)
 (hm:lastMarks [op,op'] [b,c]=false:=by with_unfolding_all rfl):PT X (.Compare a [op,op'] [b,c] pos) (W61 (q21 r r' ta tb tc)):=by
 intro pins s σ H Q I h;refine isTrue_chain (thn (ha pins s σ H _ I h) λv s1 ⟨x,H1,I1,r1,q1⟩=>test_link (thn (hb pins s1 σ H1 _ I1 q1) λu s2 ⟨y,H2,I2,r2,q2⟩ =>
  thn (ho pins s2 σ H2 x y v u _ I2 r1 r2 q2) λd s3 ⟨z,H3,I3,r3,k,e,q3⟩=>?_)) hm
 subst e;cases r3;refine Á8 ?_;cases k with
 |false =>
  obtain⟨k',e',q'⟩:=q3;cases e';exact ite_ff ⟨H3,I3,q'⟩
 |true =>
  refine ite_tt (test_last (thn (hc pins s3 σ H3 _ I3 q3) λw' s4 ⟨z',H4,I4,r4,q4⟩=>thn (ho' pins s4 σ H4 y z' u w' _ I4 r2 r4 q4) λd' s5 ⟨z2,H5,I5,r5,k2,e2,q5⟩=>?_));subst e2;cases r5;exact Á8 ⟨H5,I5,q5⟩
theorem d41:(sizeLine:Nat) < 2 ^ 63:=by rw[Á1];decide
theorem vals1{x:V}{us:List Ä}(r:Vals [x] us):∃ u,us=[u]/\RelV x u:=by
 cases r with
 |cons r1 r2=>cases r2;exact⟨_,rfl,r1⟩
theorem vals2{x y:V}{us:List Ä}(r:Vals [x,y] us):∃ u w',us=[u,w']/\RelV x u/\RelV y w':=by
 cases r with
 |cons r1 r2 =>
  cases r2 with
  |cons r3 r4=>cases r4;exact⟨_,_,rfl,r1,r3⟩
theorem q31(hc:X.calm=true):g10 X (.builtin "max") (λxs H Q=>∃ i j,xs=[.int i,.int j]/\Q (.int (if j > i then j else i)) H):=by
 intro pins s σ H xs us Q I r h;obtain⟨i,j,rfl,q⟩:=h;obtain⟨u,w',rfl,⟨t,rfl⟩,⟨t',rfl⟩⟩:=vals2 r;refine max_two_ints (I.ok.hd hc) λh' tk k=>⟨_,H,I.kept k,?_,q⟩;by_cases hj:j > i
 ·rw[if_pos hj,if_pos hj];exact⟨_,rfl⟩
 ·rw[if_neg hj,if_neg hj];exact⟨_,rfl⟩
theorem q41(hc:X.calm=true):g10 X (.builtin "min") (λxs H Q=>∃ i j,xs=[.int i,.int j]/\Q (.int (if j < i then j else i)) H):=by
 intro pins s σ H xs us Q I r h;obtain⟨i,j,rfl,q⟩:=h;obtain⟨u,w',rfl,⟨t,rfl⟩,⟨t',rfl⟩⟩:=vals2 r;refine min_two_ints (I.ok.hd hc) λh' tk k=>⟨_,H,I.kept k,?_,q⟩;by_cases hj:j < i
 ·rw[if_pos hj,if_pos hj];exact⟨_,rfl⟩
 ·rw[if_neg hj,if_neg hj];exact⟨_,rfl⟩
theorem Q80:g10 X (.type "int") (λxs H Q=>(∃ i,xs=[.int i]/\Q (.int i) H)\/∃ k,xs=[.bl k]/\Q (.int (if k then 1 else 0)) H):=by
 intro pins s σ H xs us Q I r h;rcases h with ⟨i,rfl,q⟩ | ⟨k,rfl,q⟩
 ·obtain⟨u,rfl,t,rfl⟩:=vals1 r;exact call_int_int ⟨.int i,H,I,⟨_,rfl⟩,q⟩
 ·obtain⟨u,rfl,r1⟩:=vals1 r;cases r1;exact call_int_bool ⟨.int (if k then 1 else 0),H,I.tok _,⟨_,rfl⟩,q⟩
end
structure w40(k:Nat)(A:Around):Prop where
 hd:A.handled=none
 dp:A.depth + 3 * k + 5 < recursionLimit
 un:A.units + 16 * k + 200 < cLine
theorem w40.deeper{k:Nat}{A:ó}(r:w40 (k + 1) A)(env:Env):w40 k (A.deeper env):=
 ⟨r.hd,by have:=r.dp;show A.depth + 1 + 3 * k + 5 < _;omega,by have:=r.un;show A.units + 3 + 16 * k + 200 < _;omega⟩
theorem w40.depth{k:Nat}{A:ó}(r:w40 k A):A.depth < recursionLimit:=by have:=r.dp;omega
theorem w40.units{k:Nat}{A:ó}(r:w40 k A):A.units + 64 < cLine:=by have:=r.un;omega
def R32:TA:=λ_ H Q=>Q [] H
def C92(ta:TE)(tr:TA):TA:=λσ H Q=>ta σ H λx H1=>tr σ H1 λxs H2=>Q (x::xs) H2
section
variable {X:Cx}{e:Ð}{es:List Ð}{te:TE}{t:TA}{pos:Pos}
def o30:PA X [] R32:=λ_ _ _ _ H Q I h=>Ñ3 ⟨[],H,I,.nil,h⟩
theorem e00(ha:PE X e te)(hr:PA X es t)(hs:ý (e::es) X.env=(false,eval e X.env)::ý es X.env:=by rfl):PA X (e::es) (C92 te t):=by
 intro pos pins s σ H Q I h;rw[hs];show Ñ _ _ (spliced ((false,eval e X.env)::Õ9 pos (ý es X.env))) _ _ s;refine Ø3 (thn (ha pins s σ H _ I h) λu s1 ⟨x,H1,I1,r1,q1⟩=>?_);exact thn (hr pos pins s1 σ H1 _ I1 q1) λus s2 ⟨xs,H2,I2,r2,q2⟩=>⟨x::xs,H2,I2,.cons r1 r2,q2⟩
def R42(t:TA):TE:=λσ H Q=>t σ H λxs H1=>xs.length<=sizeLine/\∀ p,H1 p=none->Q (.ref p) (upd H1 p (.tup xs))
def R52(t:TA):TE:=λσ H Q=>t σ H λxs H1=>xs.length<=sizeLine/\∀ p,H1 p=none->Q (.ref p) (upd H1 p (.lst xs))
theorem R81{x1}(h:PA X es t):PE X (.Tuple es x1 pos) (R42 t):=by
 intro pins s σ H Q I hq;refine wpAny_Tuple_spliced (thn (h pos pins s σ H _ I hq) λus s1 ⟨xs,H1,I1,r,z,q⟩=>⟨by rw[← r.length];exact z,?_⟩)
 have hf:H1 s1.heap.objs.size=none:=I1.hok.fresh (Î _);refine⟨.ref s1.heap.objs.size,upd H1 s1.heap.objs.size (.tup xs),I1.laid (t':=s1.toks) (λb u e=>Ã _ e) (Î _) ?_,rfl,q _ hf⟩;exact⟨z,us,r,⟨_,Ê _ rfl,rfl,_,rfl⟩⟩
theorem d51(h:PA X es t):PE X (.List es pos) (R52 t):=by
 intro pins s σ H Q I hq;refine wpAny_List_spliced (thn (h pos pins s σ H _ I hq) λus s1 ⟨xs,H1,I1,r,z,q⟩=>⟨by rw[← r.length];exact z,?_⟩)
 have hf:H1 s1.heap.objs.size=none:=I1.hok.fresh (Î _);refine⟨.ref s1.heap.objs.size,upd H1 s1.heap.objs.size (.lst xs),I1.laid (t':=s1.toks) (λb u e=>Ã _ e) (Î _) ?_,rfl,q _ hf⟩;exact⟨z,us,0,r,Ê _ rfl⟩
end
abbrev Sp:=List V->Hp->VK->XK->Prop
abbrev CXT:=List Env->Hp->Æ->XK->Ä->Æ->Prop
structure W71(P:Program)(w:World)(K:PySem.W.Frag)(mg:Str->Option Value)(base:Heap)(A:Around)(outer:List Env)(s:Shared)(H:Hp):Prop where
 frames:A.frames=some outer
 mod:Mod K mg base
 bs:∀ b o,base.get? b=some o->s.heap.get? b=some o/\H b=none
 bsz:base.objs.size<=s.heap.objs.size
 j81:s.heap.FunFrames base outer
 frf:∀ b∈frs outer,H b=none
 hok:HOk P w H s.heap
 bare:AllBare s.gens
def CE(outer:List Env)(P:à)(w:í)(H:Hp)(s:Æ)(Q:VK)(u:Ä)(s':Æ):Prop:=
 ∃ v H',s'.os=s.os/\Ô1 s'.gens/\Un (frs outer) [] H H' s.heap s'.heap/\HOk P w H' s'.heap/\RelV v u/\Q v H'
def CR(CX:CXT)(outer:List Env)(P:à)(w:í)(H:Hp)(s:Æ)(Q:VK)(E:XK)(r:Result)(s':Æ):Prop:=
 match r with
 |.ok (.ret u)=>CE outer P w H s Q u s'|.ok _=>False|.error e=>CX outer H s E e s'
structure X20(P:Program)(w:World)(K:PySem.W.Frag)(mg:Str->Option Value)(base:Heap)(CX:CXT)(k:Nat)(f:Addr)(fd:FuncData)(ps:List Str)(sp:Sp):Prop where
 len:∀ vs H Q E,sp vs H Q E->vs.length=ps.length
 run:∀ (A:Around) (outer:List Env) (s:Shared) (H:Hp) (args:Args) (us:List Value) (vs:List V) (Q:VK) (E:XK),w40 k A->W71 P w K mg base A outer s H->BindsTo s fd args (ps.zip us)->Vals vs us->sp vs H Q E ->
  codeAny (model P w) A (.call (.ref f) args) (CR CX outer P w H s Q E) s
section
variable {X:Cx}{pins:List (Ç × Obj)}{σ:St}{H:Hp}{s s':Æ}
def Inv.D02(I:Inv X pins σ H s):W71 X.prog X.w X.K X.mg X.base X.A X.stack s H:=
 ⟨I.ok.frames,I.ok.mod,I.bs,Ó I.ok.bsz I.sz,I.stack,I.w30,I.hok,I.bare⟩
theorem Inv.after{Q:VK}{u:Ä}(I:Inv X pins σ H s)(h:CE X.stack X.prog X.w H s Q u s'):EP X pins σ Q u s':=by
 obtain⟨v,H',os,bare,un,hok,r,q⟩:=h;obtain⟨hh,g,d,t,os'⟩:=s';obtain rfl:os'=s.os:=os;exact⟨v,H',I.call (h':=hh) (g':=g) (d':=d) (t':=t) (ch:=[]) un hok bare (λb z=>absurd z (by simp)),r,q⟩
end
def D12(sp:Sp)(dvs:List V)(E:XK)(t:TA):TE:=λσ H Q=>t σ H λvs H1=>sp (vs++dvs) H1 Q E
def Binds(K:Â)(fd:Ã0)(ps:List Str)(ds:List Ä):Prop:=
 ∀ (s:Æ) (us:List Ä),K.In s.heap->(us++ds).length=ps.length->BindsTo s fd ⟨us,[]⟩ (ps.zip (us++ds))
def Binds.all{K:Â}{fd:Ã0}{ps:List Str}(h:∀ us:List Ä,us.length=ps.length->bindArgs fd ⟨us,[]⟩=pure (ps.zip us)):Binds K fd ps []:=λs us _ hl=>by
 rw[Ç6] at hl ⊢;exact .of_eq (h us hl)
def Passes(CX:CXT)(X:Cx)(E:XK):Prop:=∀ (pins:List (Ç × Obj)) (σ:St) (H:Hp) (s:Æ) (e:Ä) (s':Æ),Inv X pins σ H s->CX X.stack H s E e s'->X.xe e s'
section
variable {X:Cx}{CX:CXT}{k:Nat}{f C:Ç}{fd:Ã0}{ps:List Str}{sp:Sp}{dvs:List V}{ds:List Ä}{E:XK}{x m:Str}{p pos apos:Pos}{e o:Ð}{es:List Ð}{ta:TE}{t:TA}
theorem m42{pins:List (Ç × Obj)}{σ:St}{H:Hp}{s:Æ}{Q:VK}{us:List Ä}{vs:List V}(F:X20 X.prog X.w X.K X.mg X.base CX k f fd ps sp)(hr:w40 k X.A)(hb:Binds X.K fd ps ds)(hd:Vals dvs ds)(hx:Passes CX X E)
 (I:Inv X pins σ H s) (r:Vals vs us) (h:sp (vs++dvs) H Q E):Ñ (Ø X.prog X.w) X.A (call (.ref f) us) (EP X pins σ Q) X.xe s:=by
 have r2:Vals (vs++dvs) (us++ds):=r.append hd;have hl:(us++ds).length=ps.length:=by rw[← r2.length];exact F.len _ _ _ _ h
 refine Õ8 (È5 (F.run X.A X.stack s H ⟨us,[]⟩ (us++ds) (vs++dvs) Q E hr I.D02 (hb s us I.kIn hl) r2 h) λr s' hq=>?_);cases r with
 |error e=>exact hx pins σ H s e s' I hq
 |ok fl =>
  cases fl with
  |ret u=>exact I.after hq|next=>exact À0 hq
  |brk=>exact À0 hq|cont=>exact À0 hq
theorem W81(F:X20 X.prog X.w X.K X.mg X.base CX k f fd ps sp)(hr:w40 k X.A)(hg:Gl X x)(hm:X.mg x=some (.ref f))(hk:Î5 X.K (.ref f)=true)(hb:Binds X.K fd ps ds)(hd:Vals dvs ds)(hx:Passes CX X E)
 (ha:PA X (e::es) t) (hdb:(x == ("__debug__":Str))=false:=by decide) (he:ý (e::es) X.env=(false,eval e X.env)::ý es X.env:=by rfl) (hpl:(Õ9 pos (ý es X.env)).any (·.1)=false:=by rfl) :
  PE X (.Call (.Name x p) (e::es) [] pos) (D12 sp dvs E t):=by
 intro pins s σ H Q I h;refine Ì4 (J50 I hg hm ?_ hdb);refine callWith_K (h₀:=X.base) I.ok.mod.kin hk (thn (ha pos pins s σ H _ I h) λus s1 ⟨vs,H1,I1,r,q⟩=>⟨I1.kIn,?_⟩) he hpl;exact m42 F hr hb hd hx I1 r q
end
structure l00(N P:List Str)(sc:Scope):Prop where
 kind:sc.kind=.function
 co:sc.isCoroutine=false
 gen:sc.isGenerator=false
 nd:N.Nodup
 pre:N.take P.length=P
 par:∀ x∈P,sc.names.lookup x=some .local\/sc.names.lookup x=some .cell
 nofree:∀ y∈sc.names,y.2≠.free
theorem Q90{kindOf:Str->Option Ë7}{x:Str}:∀ {binds:List (Str × Ä)}{m:Str->Option Ä},(∀ v,(x,v) ∉ binds)->bindL kindOf binds m x=m x
 |[],_,_=>rfl
 |(n,v)::r,m,h=>by
  unfold bindL;rw[Q90 λw hw=>h w (Ë _ hw)];split
  ·have:x≠n:=by rintro rfl;exact h v Ì
   simp[this]
  ·rfl
theorem R00{kindOf:Str->Option Ë7}{x:Str}:∀ {binds:List (Str × Ä)}{m:Str->Option Ä},(∀ v,(x,v) ∉ binds)->bindC kindOf binds m x=m x
 |[],_,_=>rfl
 |(n,v)::r,m,h=>by
  unfold bindC;rw[R00 λw hw=>h w (Ë _ hw)];split
  ·rfl
  ·have:x≠n:=by rintro rfl;exact h v Ì
   simp[this]
theorem R10{kindOf:Str->Option Ë7}{x:Str}{v:Ä}:∀ {P:List Str}{vs:List Ä}{i:Nat}{m:Str->Option Ä},P.Nodup->P[i]?=some x->vs[i]?=some v->kindOf x=some .local ->
 bindL kindOf (P.zip vs) m x=some v
 |[],_,_,_,_,h,_,_=>by simp at h|_::_,[],_,_,_,_,h,_=>by simp at h
 |p::P,w::vs,0,m,nd,h1,h2,hk=>by
  simp at h1 h2;subst h1;subst h2;show bindL kindOf ((p,w)::P.zip vs) m p=_;unfold bindL;rw[Q90 λv hv=>(Ô3.mp nd).1 (of_mem_zip hv).1,if_pos hk];simp
 |p::P,w::vs,i + 1,m,nd,h1,h2,hk=>by
  show bindL kindOf ((p,w)::P.zip vs) m x=_;unfold bindL;exact R10 (i:=i) (Ô3.mp nd).2 (by simpa using h1) (by simpa using h2) hk
theorem R20{kindOf:Str->Option Ë7}{x:Str}{v:Ä}:∀ {P:List Str}{vs:List Ä}{i:Nat}{m:Str->Option Ä},P.Nodup->P[i]?=some x->vs[i]?=some v->kindOf x≠some .local ->
 bindC kindOf (P.zip vs) m x=some v
 |[],_,_,_,_,h,_,_=>by simp at h|_::_,[],_,_,_,_,h,_=>by simp at h
 |p::P,w::vs,0,m,nd,h1,h2,hk=>by
  simp at h1 h2;subst h1;subst h2;show bindC kindOf ((p,w)::P.zip vs) m p=_;unfold bindC;rw[R00 λv hv=>(Ô3.mp nd).1 (of_mem_zip hv).1,if_neg hk];simp
 |p::P,w::vs,i + 1,m,nd,h1,h2,hk=>by
  show bindC kindOf ((p,w)::P.zip vs) m x=_;unfold bindC;exact R20 (i:=i) (Ô3.mp nd).2 (by simpa using h1) (by simpa using h2) hk
def start(N:List Str)(vs:List V):St:=vs.map some++ð (N.length - vs.length) none
def G60(CX:CXT)(P:à)(w:í)(K:Â)(mg:Str->Option Ä)(base:ê)(N:List Str)(qual:Str)(scope:ë)(f:Ç)(cd:Ä)(A:ó)(outer:List Env)(s:Æ)(H:Hp)(E:XK):Cx where
 prog:=P
 w:=w
 K:=K
 mg:=mg
 base:=base
 A:=A.deeper (Ð1 qual scope s.heap.objs.size f cd)
 N:=N
 s₀:=s
 H₀:=H
 env:=Ð1 qual scope s.heap.objs.size f cd
 outer:=outer
 stack:=Ð1 qual scope s.heap.objs.size f cd::outer
 ex:=[]
 calm:=true
 fn:=λ_=>true
 pn:=[]
 xe:=λe s'=>Ñ (Ø P w) (A.deeper (Ð1 qual scope s.heap.objs.size f cd)) (leaving (Ð1 qual scope s.heap.objs.size f cd) e) (λ_ s''=>CX outer H s E e s'') (λe' s''=>CX outer H s E e' s'') s'
theorem d61{sc:ë}{n:Nat}{x:Str}(h:sc.names.lookup x=some .cell):∃ c,(cellsFrom n sc.names []).lookup x=some c:=by
 have q:=cellsFrom_some sc.names n [] (.inl h);exact Þ7.mp q
theorem R30{CX:CXT}{P:à}{w:í}{K:Â}{mg:Str->Option Ä}{base:ê}{N ps:List Str}{qual:Str}{scope:ë}{f:Ç}{cd:Ä}{A:ó}{outer:List Env}{s s1:Æ}{H:Hp}{E:XK}{us:List Ä}{vs:List V}
 (S:l00 N ps scope) (hd:A.handled=none) (e0:W71 P w K mg base A outer s H) (hl:vs.length=ps.length) (r:Vals vs us)
 (x:InCallC s s.heap.objs.size (bindL (Ð1 qual scope s.heap.objs.size f cd).kindOf (ps.zip us) λ_=>none) (cellsFrom (s.heap.objs.size + 1) scope.names []) (bindC (Ð1 qual scope s.heap.objs.size f cd).kindOf (ps.zip us) λ_=>none) s1) :
 Inv (G60 CX P w K mg base N qual scope f cd A outer s H E) [] (start N vs) H s1:=by
 have hpl:ps.length<=N.length:=by have:=congrArg Õ3 S.pre;rw[Å5] at this;omega
 obtain⟨h1,tk,rfl,hk⟩:=x.done;have noA:∀ b:Ç,b ∉ (G60 CX P w K mg base N qual scope f cd A outer s H E).ex:=λb z=>absurd (show b∈([]:List Ç) from z) (by simp)
 refine⟨⟨e0.mod,S.kind,rfl,rfl,Î _,λy z c h1 h2=>?_,λy hy=>?_,λy c _ h=>?_,λ_=>hd,à8 e0.frames,.inr ⟨rfl,rfl⟩,λb z=>absurd z (noA b),e0.bs,e0.bsz,λb _ _=>noA b,λb z=>absurd z (noA b),e0.j81,e0.frf⟩,
  rfl,e0.bare,Un.kept hk,⟨_,x.toInCall.ns,λi y v h1 h2 h3=>?_⟩,λy c h=>⟨_,x.cell y c h⟩,e0.hok.fresh (Î _),λy c h=>?_,λp hp=>absurd (show p∈([]:List (Ç × Obj)) from hp) (by simp),e0.hok.kept hk,?_⟩
 ·exact name_of_addr x.apart (Â3 h1) (Â3 h2)
 ·have hy:scope.names.lookup y=some .cell\/scope.names.lookup y=some .free:=hy;rcases hy with hy | hy
  ·exact d61 hy
  ·exact absurd rfl (S.nofree _ (Â3 hy))
 ·exact Ç5 (x.above y c (Â3 h))
 ·have hi:i < vs.length:=by
   unfold start at h2;by_cases hi:i < vs.length
   ·exact hi
   ·rw[Å7 (by simpa using hi)] at h2
    rw[Ó4] at h2;split at h2 <;> cases h2
  have ha:vs[i]?=some v:=by
   unfold start at h2;rw[Ñ1 (by simpa using hi),Û] at h2
   cases e:vs[i]? with
   |none=>rw[e] at h2;cases h2
   |some a=>rw[e] at h2;cases h2;rfl
  obtain⟨u,hu,rv⟩:=r.get ha;have hp:ps[i]?=some y:=by
   rw[← S.pre,List.getElem?_take_of_lt ∅];exact h1
  have ndP:ps.Nodup:=by rw[← S.pre];exact S.nd.sublist (List.take_sublist _ _)
  refine⟨u,rv,?_⟩;rcases S.par y (æ hp) with k | k
  ·exact .inl ⟨k,R10 ndP hp hu k⟩
  ·obtain⟨c,e⟩:=d61 (n:=s.heap.objs.size + 1) k;refine .inr ⟨.inl k,c,e,?_⟩;have q:=x.cell y c e;rw[R20 ndP hp hu (by show scope.names.lookup y≠_;rw[k];decide)] at q
   exact q
 ·exact e0.hok.fresh (Ç5 (x.above y c (Â3 h)))
 ·unfold start;show _=N.length;rw[ù,È,á2];omega
theorem D22{CX:CXT}{P:à}{w:í}{K:Â}{mg:Str->Option Ä}{base:ê}{k:Nat}{f:Ç}{name qual:Str}{params:Ê5}{body:List Á5}{scope:ë}{dV kV doc pm cdv ct oc:Ä}{an od:Option Ç}
 {osl:Array (Option Ä)}{N ps:List Str}{sp:Sp} (lk:K.lookup f=some ⟨oc,od,.func (fnOf name qual params body scope dV kV doc pm an cdv ct),osl⟩) (hcd:PySem.W.codeIn K cdv qual=true) (S:l00 N ps scope)
 (len:∀ vs H Q E,sp vs H Q E->vs.length=ps.length)
 (hbody:∀ (A:ó) (outer:List Env) (s:Æ) (H:Hp) (vs:List V) (Q:VK) (E:XK),w40 k (A.deeper (Ð1 qual scope s.heap.objs.size f cdv))->sp vs H Q E ->
   ∃ t,PSs (G60 CX P w K mg base N qual scope f cdv A outer s H E) body t/\t { nx:=λ_ H'=>Q .non H',rt:=Q } (start N vs) H) :
  X20 P w K mg base CX (k + 1) f (fnOf name qual params body scope dV kV doc pm an cdv ct) ps sp:=by
 refine⟨len,λA outer s H args us vs Q E hr e0 hb r hsp=>?_⟩;have hl:=len _ _ _ _ hsp;have KX:K.In s.heap:=e0.mod.kin.keeps λb o e=>(e0.bs b o e).1;have lim:s.heap.NoLimit:=e0.mod.nolimit.keeps λb o e=>(e0.bs b o e).1;have hkind:∀ y∈ps.zip us,scope.names.lookup y.1=some .local\/(scope.names.lookup y.1=some .cell/\((cellsFrom (s.heap.objs.size + 1) scope.names []).lookup y.1).isSome=true):=λ⟨n,v⟩ hy=>by
  rcases S.par n (of_mem_zip hy).1 with q | q
  ·exact .inl q
  ·exact .inr ⟨q,cellsFrom_some _ _ _ (.inl q)⟩
 refine codeAny_call_function hr.depth (KX _ _ lk) rfl S.co S.gen rfl (codeRec_of KX hcd) (hb _ _ _ _ ?_);refine à9 S.kind hkind λenv he s1 x=>?_;subst he;refine⟨lim.keeps x.toInCall.keep,codeAny_func ?_⟩;obtain⟨t,ht,hq⟩:=hbody A outer s H vs Q E (hr.deeper _) hsp;have I:Inv (G60 CX P w K mg base N qual scope f cdv A outer s H E) [] (start N vs) H s1:=R30 S hr.hd e0 hl r x;refine Á9 (ht [] s1 (start N vs) H _ I hq) (λfl s' hs=>?_) λe s' hs=>hs;have fin:∀ {σ':St}{H':Hp}{v:V}{u:Ä},Inv (G60 CX P w K mg base N qual scope f cdv A outer s H E) [] σ' H' s'->RelV v u->Q v H'->CE outer P w H s Q u s':=
  λ{σ' H' v u} J rv q=>⟨v,H',J.os,J.bare,J.base,J.hok,rv,q⟩
 cases fl with
 |ret u =>
  obtain⟨v,σ',H',J,rv,q⟩:=hs;exact fin J rv q
 |next =>
  obtain⟨σ',H',J,q⟩:=hs;exact fin (v:=V.non) (u:=ä) J rfl q
 |brk =>
  obtain⟨_,_,_,q⟩:=hs;exact À0 q
 |cont =>
  obtain⟨_,_,_,q⟩:=hs;exact À0 q
section
variable {X:Cx}{x:Str}{p pos:Pos}{e:Ð}{es:List Ð}{t:TA}{id T:String}{r:List V->Hp->VK->Prop}
def tCB(r:List V->Hp->VK->Prop)(t:TA):TE:=λσ H Q=>t σ H λvs H1=>r vs H1 Q
theorem t90(hc:g10 X (.builtin id) r)(hg:Gl X x)(hm:X.mg x=none)(hv:ñ x=some (.builtin id))(ha:PA X (e::es) t)(hn:x≠"__name__":=by decide)(hdb:(x == ("__debug__":Str))=false:=by decide)
  (he:ý (e::es) X.env=(false,eval e X.env)::ý es X.env:=by rfl) (hpl:(Õ9 pos (ý es X.env)).any (·.1)=false:=by rfl):PE X (.Call (.Name x p) (e::es) [] pos) (tCB r t):=by
 intro pins s σ H Q I h;refine Ì4 (y60 I hg hm hv ?_ hn hdb);exact PyProof.Rows.callWith_builtin1 (thn (ha pos pins s σ H _ I h) λus s1 ⟨vs,H1,I1,r1,q1⟩=>hc pins s1 σ H1 vs us Q I1 r1 q1) he hpl
theorem R40(hc:g10 X (.type T) r)(hg:Gl X x)(hm:X.mg x=none)(hv:ñ x=some (.type T))(ha:PA X (e::es) t)(hn:x≠"__name__":=by decide)(hdb:(x == ("__debug__":Str))=false:=by decide)
  (he:ý (e::es) X.env=(false,eval e X.env)::ý es X.env:=by rfl) (hpl:(Õ9 pos (ý es X.env)).any (·.1)=false:=by rfl):PE X (.Call (.Name x p) (e::es) [] pos) (tCB r t):=by
 intro pins s σ H Q I h;refine Ì4 (y60 I hg hm hv ?_ hn hdb);exact Â4 (thn (ha pos pins s σ H _ I h) λus s1 ⟨vs,H1,I1,r1,q1⟩=>hc pins s1 σ H1 vs us Q I1 r1 q1) he hpl
end
end L2
namespace HT
open PySem PyProof.Rows
def H11(A:ó)(s:Æ)(a:Int)(t:Tok)(c:Int)(u:Tok):∃ e,Ø2 A s (.int a t) (.int c u) e/\(e=true↔a=c):=
 ⟨(a == c),Ø2.int_int a t c u,by simp⟩
theorem d71(A:ó)(s:Æ)(a:Int)(t:Tok)(c:Int)(u:Tok)(prog:à)(w:í)(E:Ä->Æ->Prop)(Q:Ä->Æ->Prop)(h:Q (.bool (decide (a < c))) s) :
  Ñ (Ø prog w) A (richCompare .Lt (.int a t) (.int c u)) Q E s:=
 (lt_int h:Ñ (Ø prog w) A (À4 .Lt (.int a t) (.int c u)) Q E s)
section
variable {prog:à}{w:í}{A:ó}{E:Ä->Æ->Prop}{s:Æ}
theorem W91{t b:Ç}{vs ws:List Ä}{Q:Ä->Æ->Prop}(ht:Ï4 s.heap t vs.toArray)(hb:Ï4 s.heap b ws.toArray)(hv:vs≠[])
 (h1:ws=[]->Q (.ref t) s) (h2:ws≠[]->Q (.ref s.heap.objs.size) { s with heap:=s.heap.push { cls:=.type "tuple",data:=.seq (vs++ws).toArray } })
  (hsz:vs.length + ws.length<=sizeLine):Ñ (Ø prog w) A (Å6 .Add (.ref t) (.ref b)) Q E s:=by
 obtain⟨⟨cls,dd,data,sl⟩,ho,hc,n,hd⟩:=id ht;obtain⟨⟨cls2,dd2,data2,sl2⟩,ho2,hc2,n2,hd2⟩:=id hb;simp only at hc hd hc2 hd2;subst hc hd hc2 hd2;have e:vs.toArray++ws.toArray=(vs++ws).toArray:=by simp
 by_cases hw:ws=[]
 ·exact concat_meets ⟨_,ho,rfl⟩ ⟨_,ho2,rfl⟩ ß3 seq_tuple_add Ò7 Ñ8 (Ð4 _ _)
   (tuple_addW1 t b vs.toArray ws.toArray n n2 dd dd2 sl sl2 (by simpa using hv) (by simp[hw])) ⟨ho,ho2,h1 hw⟩
 ·refine concat_meets ⟨_,ho,rfl⟩ ⟨_,ho2,rfl⟩ ß3 seq_tuple_add Ò7 Ñ8 (Ð4 _ _)
   (tuple_addW2 t b vs.toArray ws.toArray n n2 dd dd2 sl sl2 (by simpa using hv) (by simpa using hw) (by rw[Ö,Ö];exact hsz)) ⟨ho,ho2,?_⟩
  rw[e];exact h2 hw
def sIx(n d:Nat):Option Int->Nat
 |none=>d|some v=>if v < 0 then(v + (n:Int)).toNat else min v.toNat n
theorem q51(n d k:Nat):sIx n d (some (k:Int))=min k n:=by
 show(if (k:Int) < 0 then((k:Int) + (n:Int)).toNat else min (k:Int).toNat n)=min k n;rw[if_neg ∅,Â6]
theorem m52(n d:Nat)(hd:d<=n)(o:Option Int):sIx n d o<=n:=by
 cases o with
 |none=>exact hd
 |some v =>
  show(if v < 0 then(v + (n:Int)).toNat else min v.toNat n)<=n;by_cases hv:v < 0
  ·rw[if_pos hv];omega
  ·rw[if_neg hv];exact Nat.min_le_right _ _
theorem q61(v:Int)(n d:Nat):(if v < 0 then max (v + (n:Int)) 0 else min v (n:Int))=((sIx n d (some v):Nat):Int):=by
 show(if v < 0 then max (v + (n:Int)) 0 else min v (n:Int))=(((if v < 0 then(v + (n:Int)).toNat else min v.toNat n):Nat):Int);by_cases hv:v < 0
 ·simp only[if_pos hv];omega
 ·simp only[if_neg hv];omega
theorem k21(lo hi:Option Int)(n:Nat):Í7 lo hi 1 (n:Int)=(((sIx n 0 lo:Nat):Int),((sIx n n hi:Nat):Int)):=by
 have h1:¬ ((1:Int) < 0):=∅
 unfold Í7;simp only[h1,if_false];refine Prod.ext ?_ ?_
 ·cases lo with
  |none=>rfl|some v=>exact q61 v n 0
 ·cases hi with
  |none=>rfl|some v=>exact q61 v n n
theorem k31(i j:Nat):É2 (i:Int) (j:Int) 1=j - i:=by
 unfold É2;have h1:(1:Int) > 0:=∅
 simp only[h1,if_true,Int.ediv_one];split <;> omega
theorem H30{v:Ä}{o:Option Int}{Q:Option Int->Æ->Prop}(p:Ú1 v o)(h:Q o s):Ñ (Ø prog w) A (ÿ.Slice.slicePartIndex v) Q E s:=by
 cases p with
 |none=>exact Ù5 h|int i t=>exact slicePart_int h
theorem n30{sl:Ç}{vl vu:Ä}{lo hi:Option Int}{n:Nat}{Q:Int × Int × Nat->Æ->Prop}(hs:s.heap.IsSliceOf sl vl vu .none)(pl:Ú1 vl lo)(pu:Ú1 vu hi)
 (h:Q (((sIx n 0 lo:Nat):Int),1,sIx n n hi - sIx n 0 lo) s):Ñ (Ø prog w) A (Ô6 (.ref sl) (pure (n:Int))) Q E s:=by
 obtain⟨os,hos,hcs,hds⟩:=id hs;unfold Ô6 sliceFields;refine À (À (Á6 hos hds (x:=vl) rfl (À (Á6 hos hds (x:=vu) rfl (À (Á6 hos hds (x:=.none) rfl (Å ?_)))))));refine À (Ù5 ?_);show Ñ _ _ (if ((1:Int) == 0)=true then _ else _) _ _ s;rw[if_neg 1e1]
 refine À (H30 pl (À (H30 pu (À (Å ?_)))));show Ñ _ _ (match Í7 lo hi 1 (n:Int) with | (lo,hi)=>pure (lo,(1:Int),É2 lo hi 1)) _ _ s
 rw[k21 lo hi n];show Ñ _ _ (pure (((sIx n 0 lo:Nat):Int),(1:Int),É2 ((sIx n 0 lo:Nat):Int) ((sIx n n hi:Nat):Int) 1)) _ _ s;rw[k31];exact Å h
theorem H21(xs:Array Ä)(i k:Nat):((ò k).filterMap λ(m:Nat)=>xs[((i:Int) + (m:Int) * 1).toNat]?).toArray=((xs.toList.drop i).take k).toArray:=by
 have e:(λ(m:Nat)=>xs[((i:Int) + (m:Int) * 1).toNat]?)=λm=>xs[i + m]?:=by
  funext m
  have:((i:Int) + (m:Int) * 1).toNat=i + m:=∅
  rw[this]
 rw[e];have:=pick_run xs i k;rw[List.filterMap_map] at this;have e2:((λx=>xs[x]?) ∘ λx=>i + x)=λm=>xs[i + m]?:=rfl;rw[e2] at this;rw[this]
theorem w50{t sl:Ç}{items:Array Ä}{vl vu:Ä}{lo hi:Option Int}{Q:Ä->Æ->Prop}(ht:Ï4 s.heap t items)(hs:s.heap.IsSliceOf sl vl vu .none)(pl:Ú1 vl lo)(pu:Ú1 vu hi)
 (hw:¬ (sIx items.size 0 lo=0/\sIx items.size items.size hi=items.size))
 (h:Q (.ref s.heap.objs.size) { s with heap:=s.heap.push { cls:=.type "tuple",data:=.seq ((items.toList.drop (sIx items.size 0 lo)).take (sIx items.size items.size hi - sIx items.size 0 lo)).toArray } })
  (hsz:items.size<=sizeLine):Ñ (Ø prog w) A (Ô0 (.ref t) (.ref sl)) Q E s:=by
 have htake:sizeOk (.seq ((items.toList.drop (sIx items.size 0 lo)).take (sIx items.size items.size hi - sIx items.size 0 lo)).toArray):=by
  show((items.toList.drop (sIx items.size 0 lo)).take (sIx items.size items.size hi - sIx items.size 0 lo)).toArray.size<=sizeLine;rw[Ö,Å5,Ë6,Ê8];omega
 have hj:sIx items.size items.size hi<=items.size:=m52 _ _ (Î _) hi;obtain⟨os,hos,hcs,hds⟩:=id hs;have hTs:s.TypeIs (.ref sl) "slice":=⟨os,hos,hcs⟩;unfold Ô0
 try with_reducible refine À6 ?_
 first | refine À (Å ?_) | skip
 refine À (Ý3 ht.typeIs 1e1 ?_)
 refine À (À3 (name:=À8 "__getitem__") ht.typeIs ö
  (À2 ö ht.typeIs entry_tuple_getitem ?_ (Ü5 _ _)))
 show Ñ _ _ (tupleItemsOf (.ref t) >>= _) _ _ s;refine À (tupleItemsOf_ ht ?_);refine À (È1 hTs ?_);rw[if_pos 1e1]
 refine À (n30 hs pl pu ?_);have hno:¬ ((((sIx items.size 0 lo:Nat):Int) == 0&&(1:Int) == 1&&(sIx items.size items.size hi - sIx items.size 0 lo) == items.size)=true):=by
  intro q;rw[Á,Á] at q;have q1:((sIx items.size 0 lo:Nat):Int)=0:=eq_of_beq q.1.1;have q2:sIx items.size items.size hi - sIx items.size 0 lo=items.size:=eq_of_beq q.2;exact hw ⟨∅,∅⟩
 show Ñ _ _ (if (((sIx items.size 0 lo:Nat):Int) == 0&&(1:Int) == 1&&(sIx items.size items.size hi - sIx items.size 0 lo) == items.size)=true then _ else _) _ _ s;rw[if_neg hno,H21]
 first
  |exact À (m:=Æ7 _) (é (Å ⟨_,rfl,Å h⟩) htake)
  |exact À (m:=Æ7 _) (é (À (Å (Å ⟨_,rfl,Å h⟩))) htake)
  |exact À (À (m:=Æ7 _) (é (Å (Å ⟨_,rfl,Å h⟩)) htake))
  |exact À (À (m:=Æ7 _) (é (Å ⟨_,rfl,Å h⟩) htake))
end
end HT
namespace L2
open PySem PySem.Spec PyProof.Rows
abbrev TO:=St->Hp->(Option Int->Hp->Prop)->Prop
def PO(X:Cx)(e:Option Ð)(t:TO):Prop:=
 ∀ (pins:List (Ç × Obj)) (s:Æ) (σ:St) (H:Hp) (Q:Option Int->Hp->Prop),Inv X pins σ H s->t σ H Q ->
  Ñ (Ø X.prog X.w) X.A (evalPart e X.env) (λu s'=>∃ o H',Inv X pins σ H' s'/\Ú1 u o/\Q o H') X.xe s
def X01:TO:=λ_ H Q=>Q none H
def D32(t:TE):TO:=λσ H Q=>t σ H λx H1=>∃ i,x=.int i/\Q (some i) H1
theorem intsAre_of{ns:List Int}:∀ {us:List Ä},Vals (ns.map V.int) us->Ì0 us ns:=by
 induction ns with
 |nil=>intro us r;rw[Ö7] at r;cases r;exact .nil
 |cons n ns ih =>
  intro us r;rw[Æ0] at r;cases r with
  |cons r1 r2 =>
   obtain⟨t,e⟩:=r1;subst e;exact .cons n t (ih r2)
section
variable {X:Cx}{e:Ð}{te:TE}{lo hi:Option Ð}{tl th:TO}{pos p2:Pos}
theorem X11:PO X none X01:=by
 intro pins s σ H Q I h;rw[evalPart_none];exact Å ⟨none,H,I,.none,h⟩
theorem X21(h:PE X e te):PO X (some e) (D32 te):=by
 intro pins s σ H Q I hw;rw[evalPart_some];refine thn (h pins s σ H _ I hw) λu s1 ⟨x,H1,I1,r1,q1⟩=>?_;obtain⟨i,rfl,q⟩:=q1;obtain⟨t,rfl⟩:=r1;exact⟨some i,H1,I1,.int i t,q⟩
def SlR(X:Cx)(r:V->Option Int->Option Int->Hp->VK->Prop):Prop:=
 ∀ (pins:List (Ç × Obj)) (s:Æ) (σ:St) (H:Hp) (x:V) (v vl vu:Ä) (lo hi:Option Int) (sl:Ç) (Q:VK),Inv X pins σ H s->RelV x v->s.heap.IsSliceOf sl vl vu .none->Ú1 vl lo->Ú1 vu hi->r x lo hi H Q ->
  ∃ T id,typeLookup (.type T) "__getitem__"=pure (some (.builtin id))/\s.TypeIs v T/\Ñ (Ø X.prog X.w) X.A (Ô0 v (.ref sl)) (EP X pins σ Q) X.xe s
def tSl(r:V->Option Int->Option Int->Hp->VK->Prop)(te:TE)(tl th:TO):TE:=λσ H Q=>te σ H λx H1=>tl σ H1 λl H2=>th σ H2 λu H3=>r x l u H3 Q
theorem H31{r:V->Option Int->Option Int->Hp->VK->Prop}(hr:SlR X r)(he:PE X e te)(hl:PO X lo tl)(hu:PO X hi th):PE X (.Subscript e (.Slice lo hi none p2) pos) (tSl r te tl th):=by
 intro pins s σ H Q I h;refine Subscript_ (thn (he pins s σ H _ I h) λv s1 ⟨x,H1,I1,r1,q1⟩=>?_);refine wpAny_Slice (thn (hl pins s1 σ H1 _ I1 q1) λvl s2 ⟨l,H2,I2,pl,q2⟩=>thn (hu pins s2 σ H2 _ I2 q2) λvu s3 ⟨u,H3,I3,pu,q3⟩=>?_);rw[evalPart_none];refine Å ?_;have I4:Inv X pins σ H3 { s3 with heap:=s3.heap.push { cls:=.type "slice",data:=.fields #[vl,vu,.none] } }:=I3.kept (t':=s3.toks) λb ob q=>Ã _ q;obtain⟨T,id,hT,ht,hg⟩:=hr pins { s3 with heap:=s3.heap.push { cls:=.type "slice",data:=.fields #[vl,vu,.none] } } σ H3 x v vl vu l u s3.heap.objs.size Q I4 r1 (Ó6 ..) pl pu q3;show Ñ (Ø X.prog X.w) X.A (subscriptTail e (.Slice lo hi none p2) v (.ref s3.heap.objs.size)) (EP X pins σ Q) X.xe { s3 with heap:=s3.heap.push { cls:=.type "slice",data:=.fields #[vl,vu,.none] } };exact tail_any (ops:=[.ref s3.heap.objs.size,v]) ht hT hg (by with_unfolding_all rfl)
def H41(xs:List V)(lo hi:Option Int):List V:=(xs.drop (HT.sIx xs.length 0 lo)).take (HT.sIx xs.length xs.length hi - HT.sIx xs.length 0 lo)
theorem C50(xs:List V)(lo hi:Option Int):(H41 xs lo hi).length<=xs.length:=by
 unfold H41;rw[Å5,Ë6];omega
theorem Vals.K30{xs:List V}{us:List Ä}(r:Vals xs us):us=[]↔xs=[]:=by
 cases r with
 |nil=>simp|cons _ _=>simp
end
def ixN(n:Nat)(i:Int):Option Nat:=if 0<=i then(if i < n then some i.toNat else none) else if -(n:Int)<=i then some (i + n).toNat else none
def atI{α:Type}(xs:List α)(i:Int):Option α:=(ixN xs.length i).bind λj=>xs[j]?
theorem q71{n:Nat}{i:Int}{j:Nat}(h:ixN n i=some j):seqIndex? i n=some j/\j < n/\-(n:Int)<=i/\i < n:=by
 unfold ixN at h;by_cases h0:0<=i
 ·rw[if_pos h0] at h;by_cases h1:i < n
  ·rw[if_pos h1] at h;have e:i.toNat=j:=ü h;exact⟨by rw[seqIndex_of h0 h1,e],∅,∅,h1⟩
  ·rw[if_neg h1] at h;cases h
 ·rw[if_neg h0] at h;by_cases h1:-(n:Int)<=i
  ·rw[if_pos h1] at h;have e:(i + n).toNat=j:=ü h;exact⟨by rw[seqIndex_neg ∅ h1,e],∅,h1,∅⟩
  ·rw[if_neg h1] at h;cases h
theorem q81{α:Type}{xs:List α}{i:Int}{v:α}(h:atI xs i=some v):∃ j,seqIndex? i xs.length=some j/\xs[j]?=some v/\j < xs.length/\-(xs.length:Int)<=i/\i < xs.length:=by
 unfold atI at h;cases e:ixN xs.length i with
 |none=>rw[e] at h;cases h
 |some j =>
  rw[e] at h;obtain⟨h1,h2,h3,h4⟩:=q71 e;exact⟨j,h1,h,h2,h3,h4⟩
theorem K40{α:Type}{xs:List α}{j:Nat}{v:α}(h:xs[j]?=some v):atI xs (j:Int)=some v:=by
 have hj:j < xs.length:=(Ý.mp h).1;have e:ixN xs.length (j:Int)=some j:=by
  unfold ixN;rw[if_pos ∅,if_pos ∅];simp
 unfold atI;rw[e];exact h
def q91(b:Ð):Prop:=∀ o i,subscripted b false o i=operate [o,i] (Ô0 o i)
def IxR(X:Cx)(r:R2):Prop:=
 ∀ (value slice:Ð) (pins:List (Ç × Obj)) (s:Æ) (σ:St) (H:Hp) (x y:V) (v u:Ä) (Q:VK),Inv X pins σ H s->RelV x v->RelV y u->r x y H Q ->
  subscripted slice false v u=operate [v,u] (Ô0 v u)->Ñ (Ø X.prog X.w) X.A (subscriptTail value slice v u) (EP X pins σ Q) X.xe s
def MtR(X:Cx)(id:String)(r:V->List V->Hp->VK->Prop):Prop:=
 ∀ (pins:List (Ç × Obj)) (s:Æ) (σ:St) (H:Hp) (x:V) (xs:List V) (v:Ä) (us:List Ä) (Q:VK),Inv X pins σ H s->RelV x v->Vals xs us->r x xs H Q ->
  Ñ (Ø X.prog X.w) X.A (call (.builtin id) (v::us)) (EP X pins σ Q) X.xe s
section
variable {X:Cx}{a b:Ð}{ta tb:TE}{pos:Pos}
theorem X31{r:R2}(hr:IxR X r)(ha:PE X a ta)(hb:PE X b tb)(hs:q91 b):PE X (.Subscript a b pos) (tOp r ta tb):=by
 intro pins s σ H Q I h;exact Subscript_ (C42 ha hb I h λv u s2 x y H2 I2 rx ry q=>hr a b pins s2 σ H2 x y v u Q I2 rx ry q (hs _ _))
def M82(K:Â):R2:=λx y H Q=>∃ p xs i v,x=.ref p/\y=.int i/\SqL K H p xs/\atI xs i=some v/\Q v H
def R62(K:Â):R2:=λx y H Q=>∃ p xs i v,x=.ref p/\y=.int i/\SqT K H p xs/\atI xs i=some v/\Q v H
theorem X70:IxR X (M82 X.K):=by
 intro value slice pins s σ H x y v u Q I rx ry h hs;obtain⟨p,xs,i,z,rfl,rfl,hq,he,q⟩:=h;cases rx;obtain⟨t,rfl⟩:=ry;obtain⟨its,r,pl,hz⟩:=I.list hq;obtain⟨j,h1,h2,h3,h4,h5⟩:=q81 he;obtain⟨w,ew,rw'⟩:=r.get h2;have hl:=r.length;have hn:=d41;have fin:EP X pins σ Q w s:=⟨z,H,I,rw',q⟩;by_cases h0:0<=i
 ·have hj:i.toNat=j:=by
   rw[seqIndex_of h0 h5] at h1;exact ü h1
  exact item_listR pl.isList h0 ∅ (by rw[hj];simpa using ew) fin hs
 ·have hj:(i + (its.toArray.size:Int)).toNat=j:=by
   rw[seqIndex_neg ∅ h4] at h1
   rw[Ö,← hl];exact ü h1
  exact subscriptTail_builtinR (x:=w) pl.isList.typeIs slot_list_getitem.lookup
   (wpAny_getItem_list_neg (Q:=λr s'=>r=w/\EP X pins σ Q r s') pl.isList ∅ (by rw[Ö] <;> omega) ∅ (by rw[hj];simpa using ew) ⟨rfl,fin⟩) hs
theorem m62:IxR X (R62 X.K):=by
 intro value slice pins s σ H x y v u Q I rx ry h hs;obtain⟨p,xs,i,z,rfl,rfl,hq,he,q⟩:=h;cases rx;obtain⟨t,rfl⟩:=ry;obtain⟨its,r,pl,hz⟩:=I.tuple hq;obtain⟨j,h1,h2,h3,h4,h5⟩:=q81 he;obtain⟨w,ew,rw'⟩:=r.get h2;have hl:=r.length;have hn:=d41;have fin:EP X pins σ Q w s:=⟨z,H,I,rw',q⟩;exact subscriptTail_builtinR (x:=w) pl.typeIs slot_tuple_getitem.lookup
  (getItem_tuple (j:=j) (Q:=λr s'=>r=w/\EP X pins σ Q r s') pl ∅ ∅ (by rw[Ö,← hl];exact h1) (by simpa using ew) ⟨rfl,fin⟩) hs
theorem k41(its:List Ä)(n j:Nat)(u:Ä):þ (·.setIfInBounds j u) { cls:=.type "list",data:=.seq its.toArray n }={ cls:=.type "list",data:=.seq (its.set j u).toArray n }:=by
 simp[þ]
theorem Inv.lst{pins:List (Ç × Obj)}{σ:St}{H:Hp}{s:Æ}{p:Ç}{xs:List V}(I:Inv X pins σ H s)(h:H p=some (.lst xs)) :
 ∃ (its:List Ä) (n:Nat),Vals xs its/\s.heap.get? p=some { cls:=.type "list",data:=.seq its.toArray n }/\xs.length<=sizeLine:=by
 obtain⟨z,its,n,r,e⟩:=I.hok p _ h;exact⟨its,n,r,e,z⟩
theorem Inv.m72{pins:List (Ç × Obj)}{σ:St}{H:Hp}{s:Æ}{p:Ç}{xs ys:List V}{its its':List Ä}{n n':Nat}{f:Obj->Obj}(I:Inv X pins σ H s)(h:H p=some (.lst xs))
 (ho:s.heap.get? p=some { cls:=.type "list",data:=.seq its.toArray n }) (hf:f { cls:=.type "list",data:=.seq its.toArray n }={ cls:=.type "list",data:=.seq its'.toArray n' }) (r:Vals ys its') (hz:ys.length<=sizeLine) (t:Nat) :
 Inv X pins σ (upd H p (.lst ys)) { s with heap:=s.heap.update p f,toks:=t }:=by
 have e:(s.heap.update p f).get? p=some { cls:=.type "list",data:=.seq its'.toArray n' }:=by
  rw[È0 f ho (by rw[hf] <;> rfl),hf]
 refine I.write (x:=p) (e:=p) (by rw[h];trivial) (.inl rfl) (λb u hb q=>(Ì1 _ _ (Á0 hb)).trans q) ⟨_,e⟩ ?_
 exact⟨hz,its',n',r,e⟩
def D42:V->V->V->Hp->(Hp->Prop)->Prop:=λo i v H Q=>∃ p xs k j,o=.ref p/\i=.int k/\H p=some (.lst xs)/\ixN xs.length k=some j/\Q (upd H p (.lst (xs.set j v)))
theorem set_list:M32 X D42:=by
 intro pins s σ H o i v ov iv u Q I ro ri rv h;obtain⟨p,xs,k,j,rfl,rfl,hp,hj,q⟩:=h;cases ro;obtain⟨t,rfl⟩:=ri;obtain⟨its,n,r,ho,hz⟩:=I.lst hp;obtain⟨h1,h2,h3,h4⟩:=q71 hj;have hl:=r.length;have hn:=d41;have I':Inv X pins σ (upd H p (.lst (xs.set j v))) { s with heap:=s.heap.update p (þ (·.setIfInBounds j u)) }:=
  I.m72 hp ho (k41 its n j u) (r.set rv j) (by rw[À9];exact hz) s.toks
 by_cases h0:0<=k
 ·have hk:k.toNat=j:=by
   rw[seqIndex_of h0 h4] at h1;exact ü h1
  exact PySem.W.ki_setAt ho h0 ∅ (by rw[Ö,← hl];exact h4) (by rw[hk];exact⟨_,I',q⟩)
 ·have hk:(k + (its.toArray.size:Int)).toNat=j:=by
   rw[seqIndex_neg ∅ h3] at h1
   rw[Ö,← hl];exact ü h1
  exact PySem.W.ki_setBack ho ∅ (by rw[Ö,← hl];exact h3) ∅ (by rw[hk];exact⟨_,I',q⟩)
theorem R50(lo hi:Option Int)(n:Nat):(Ï1 lo hi none n).1=((HT.sIx n 0 lo:Nat):Int)/\(Ï1 lo hi none n).2.1=((HT.sIx n n hi:Nat):Int)/\(Ï1 lo hi none n).2.2=1:=by
 refine⟨?_,?_,rfl⟩
 ·cases lo with
  |none=>simp[Ï1,HT.sIx]
  |some i =>
   simp only[Ï1,HT.sIx,getD_none,show(1:Int) > 0 by decide,if_true]
   by_cases h:i < 0
   ·simp only[h,if_true] <;> omega
   ·simp only[h,if_false] <;> omega
 ·cases hi with
  |none=>simp[Ï1,HT.sIx]
  |some i =>
   simp only[Ï1,HT.sIx,getD_none,show(1:Int) > 0 by decide,if_true]
   by_cases h:i < 0
   ·simp only[h,if_true] <;> omega
   ·simp only[h,if_false] <;> omega
theorem K50(its:List Ä)(lo hi:Option Int):slicePick its.toArray lo hi none=((its.drop (HT.sIx its.length 0 lo)).take (HT.sIx its.length its.length hi - HT.sIx its.length 0 lo)).toArray:=by
 obtain⟨h1,h2,h3⟩:=R50 lo hi its.toArray.size;unfold slicePick;rw[h1,h2,h3];simp only[sliceRange_one,pick_run,Ö] <;> rfl
def R72(K:Â):V->Option Int->Option Int->Hp->VK->Prop:=λx lo hi H Q=>∃ a xs,x=.ref a/\SqL K H a xs/\∀ p,H p=none->Q (.ref p) (upd H p (.lst (H41 xs lo hi)))
theorem X41:SlR X (R72 X.K):=by
 intro pins s σ H x v vl vu lo hi sl Q I rx hs pl pu h;obtain⟨a,xs,rfl,hx,q⟩:=h;cases rx;obtain⟨its,r,ht,hz⟩:=I.list hx;have hlen:=r.length;refine⟨"list",_,slot_list_getitem.lookup,ht.isList.typeIs,?_⟩;refine wpAny_getItem_list_slice ht.isList hs pl pu .none (by simp) ?_ (by rw[Ö] <;> omega)
 rw[K50,← hlen];refine⟨.ref s.heap.objs.size,_,I.laid (t':=s.toks) (o:=.lst (H41 xs lo hi)) (λb ob q=>Ã _ q) (Î _) ?_,rfl,q _ (I.hok.fresh (Î _))⟩;exact⟨Ó (C50 xs lo hi) hz,_,0,(r.drop (HT.sIx xs.length 0 lo)).take (HT.sIx xs.length xs.length hi - HT.sIx xs.length 0 lo),Ê _ rfl⟩
theorem R60:g10 X (.builtin "len") (λxs H Q=>∃ p ys,xs=[.ref p]/\(SqL X.K H p ys\/SqT X.K H p ys)/\Q (.int ys.length) H):=by
 intro pins s σ H xs us Q I r h;obtain⟨p,ys,rfl,hq,q⟩:=h;obtain⟨u,rfl,rx⟩:=vals1 r;cases rx;have hn:=d41;rcases hq with hq | hq
 ·obtain⟨its,r',pl,hz⟩:=I.list hq;have hlen:=r'.length;exact Calls.call_len_list pl.isList (by simp only[Ö] <;> omega) ⟨.int ys.length,H,I.tok _,⟨s.toks + 1,by rw[Ö,hlen]⟩,q⟩
 ·obtain⟨its,r',pl,hz⟩:=I.tuple hq;have hlen:=r'.length;exact len_tuple pl (by simp only[Ö] <;> omega) ⟨.int ys.length,H,I.tok _,⟨s.toks + 1,by rw[Ö,hlen]⟩,q⟩
theorem R70:g10 X (.type "list") (λxs H Q=>∃ p ys,xs=[.ref p]/\(SqL X.K H p ys\/SqT X.K H p ys)/\∀ l,H l=none->Q (.ref l) (upd H l (.lst ys))):=by
 intro pins s σ H xs us Q I r h;obtain⟨p,ys,rfl,hq,q⟩:=h;obtain⟨u,rfl,rx⟩:=vals1 r;cases rx;have fin:∀ (its:List Ä),Vals ys its->ys.length<=sizeLine->∀ (h':ê) (c':Nat),(∀ b o',s.heap.get? b=some o'->h'.get? b=some o') ->
   h'.get? s.heap.objs.size=some { cls:=.type "list",dict:=none,data:=.seq its.toArray c',slots:=#[] }->EP X pins σ Q (.ref s.heap.objs.size) { s with heap:=h' }:=λits r' hz h' c' kp e =>
  ⟨.ref s.heap.objs.size,_,I.laid (t':=s.toks) kp (Î _) (show h70 X.prog X.w _ h' _ (.lst ys) from⟨hz,its,c',r',e⟩),rfl,q _ (I.hok.fresh (Î _))⟩
 rcases hq with hq | hq
 ·obtain⟨its,r',pl,hz⟩:=I.list hq;have hlen:=r'.length;obtain⟨o,ho,hc,n,hd⟩:=pl.isList;exact call_list_seq p (.inl rfl) ho hc hd (λh' c' kp e=>fin its r' hz h' c' kp e) (by simp only[Ö] <;> omega)
 ·obtain⟨its,r',pl,hz⟩:=I.tuple hq;have hlen:=r'.length;obtain⟨o,ho,hc,n,hd⟩:=pl;exact call_list_seq p (.inr rfl) ho hc hd (λh' c' kp e=>fin its r' hz h' c' kp e) (by simp only[Ö] <;> omega)
theorem K60:g10 X (.type "tuple") (λxs H Q=>∃ p ys,xs=[.ref p]/\((SqL X.K H p ys/\∀ l,H l=none->Q (.ref l) (upd H l (.tup ys)))\/(SqT X.K H p ys/\Q (.ref p) H))):=by
 intro pins s σ H xs us Q I r h;obtain⟨p,ys,rfl,h⟩:=h;obtain⟨u,rfl,rx⟩:=vals1 r;cases rx;rcases h with ⟨hq,q⟩ | ⟨hq,q⟩
 ·obtain⟨its,r',pl,hz⟩:=I.list hq;have hlen:=r'.length;refine call_tuple_list pl.isList (λh' kp=>?_) (by simp only[Ö] <;> omega)
  have I1:Inv X pins σ H { s with heap:=h' }:=I.kept (t':=s.toks) kp;have I2:Inv X pins σ (upd H h'.objs.size (.tup ys)) { s with heap:=h'.push { cls:=.type "tuple",data:=.seq its.toArray } }:=
   I1.laid (t':=s.toks) (λb o e=>Ã _ e) (Î _) (show h70 X.prog X.w _ _ _ (.tup ys) from⟨hz,its,r',Ï4.new _ _⟩)
  exact⟨.ref h'.objs.size,_,I2,rfl,q _ (I1.hok.fresh (Î _))⟩
 ·obtain⟨its,r',pl,hz⟩:=I.tuple hq;exact call_tuple_same pl ⟨.ref p,H,I,rfl,q⟩
def tyV(K:Â)(T:String)(x:V)(H:Hp):Prop:=match x with
 |.str _=>T="str"|.int _=>T="int"
 |.ref p=>(T="list"/\∃ xs,SqL K H p xs)\/(T="tuple"/\∃ o,K.lookup p=some o/\o.cls=.type "tuple"/\o.dict=none) \/
   (T="dict"/\((∃ kvs,H p=some (.dK kvs))\/∃ kvs,H p=some (.dT kvs)))\/(T="set"/\∃ S n,H p=some (.set S n))
 |_=>False
theorem m82{pins:List (Ç × Obj)}{σ:St}{H:Hp}{s:Æ}{T:String}{x:V}{v:Ä}(I:Inv X pins σ H s)(r:RelV x v)(ty:tyV X.K T x H) :
 s.TypeIs v T/\∀ a,v=.ref a->∃ ob,s.heap.get? a=some ob/\ob.dict=none:=by
 cases x with
 |str z =>
  obtain⟨t,rfl⟩:=r;cases (show T="str" from ty);exact⟨typeIs_str s z t,λ_ e=>nomatch e⟩
 |int i =>
  obtain⟨t,rfl⟩:=r;cases (show T="int" from ty);exact⟨Ü2 s i t,λ_ e=>nomatch e⟩
 |ref p =>
  cases r;rcases ty with ⟨rfl,xs,hq⟩ | ⟨rfl,o,hk,hc,hd⟩ | ⟨rfl,hk⟩ | ⟨rfl,S,n,hk⟩
  ·obtain⟨its,_,pl,_⟩:=I.list hq;refine⟨pl.isList.typeIs,λa e=>?_⟩;cases e;obtain⟨o,n,e,c,hd,_⟩:=pl;exact⟨o,e,hd⟩
  ·refine⟨⟨o,I.kIn p o hk,hc⟩,λa e=>?_⟩;cases e;exact⟨o,I.kIn _ o hk,hd⟩
  ·have z:∃ o,s.heap.get? p=some o/\o.ExactDict:=by
    rcases hk with ⟨kvs,hk⟩ | ⟨kvs,hk⟩
    ·obtain⟨_,_,_,_,o,_,_,e,ex,_⟩:=I.hok p _ hk;exact⟨o,e,ex⟩
    ·obtain⟨_,_,_,_,o,_,_,e,ex,_⟩:=I.hok p _ hk;exact⟨o,e,ex⟩
   obtain⟨o,e,ex⟩:=z;refine⟨⟨o,e,ex.1⟩,λa e2=>?_⟩;cases e2;exact⟨o,e,ex.2.1⟩
  ·obtain⟨o,_,_,_,e,ex,_⟩:=I.hok p _ hk;refine⟨⟨o,e,ex.1⟩,λa e2=>?_⟩;cases e2;exact⟨o,e,ex.2.1⟩
 |_=>exact À0 ty
def tBM(K:Â)(T:String)(r:V->List V->Hp->VK->Prop)(to:TE)(t:TA):TE:=λσ H Q=>to σ H λx H1=>tyV K T x H1/\t σ H1 λxs H2=>r x xs H2 Q
variable {o e:Ð}{es:List Ð}{to:TE}{t:TA}{name:Str}{apos cpos:Pos}{T id:String}{r:V->List V->Hp->VK->Prop}
theorem X51(pa:PlainAttrs T)(slot:Slot T name id)(hty:typeOf (.builtin id)=pure (.type "method_descriptor"))(hm:MtR X id r)(ho:PE X o to)(ha:PA X (e::es) t)
 (hbase:attributeBase o name X.env (eval o X.env)=eval o X.env:=by rfl)
  (hfew:((Õ9 cpos (ý (e::es) X.env)).all (λx=>!x.1)&&(backToKw cpos (keywordEach [] X.env)).all (λx=>x.1.isSome)
   &&decide ((e::es).length + ([]:List Keyword).length + (if ([]:List Keyword).isEmpty then 0 else 1) < 30))=true:=by rfl)
  (hline:(apos.endLine == cpos.line)=true:=by rfl) (hs:ý (e::es) X.env=(false,eval e X.env)::ý es X.env:=by rfl) (hplain:(Õ9 cpos (ý es X.env)).any (·.1)=false:=by rfl) :
  PE X (.Call (.Attribute o name apos) (e::es) [] cpos) (tBM X.K T r to t):=by
 intro pins s σ H Q I h;refine wpAny_Call_method_late hbase hfew hline rfl (thn (ho pins s σ H _ I h) λv s1 ⟨x,H1,I1,r1,ty,q1⟩=>?_);obtain⟨h1,h2⟩:=m82 I1 r1 ty;refine⟨T,id,pa,slot,hty,h1,h2,?_⟩;have hA:=ha cpos pins s1 σ H1 _ I1 q1;rw[hs] at hA ⊢;refine Calls.callWith_builtin (by show(false || (Õ9 cpos (ý es X.env)).any (·.1))=false;rw[hplain] <;> rfl) (á4 ?_)
 exact thn hA λus s2 ⟨vs,H2,I2,r2,q2⟩=>hm pins s2 σ H2 x vs v us Q I2 r1 r2 q2
end
def MtM(X:Cx)(id:String)(r:V->List V->Hp->VK->Prop):Prop:=
 ∀ (pins:List (Ç × Obj)) (s:Æ) (σ:St) (H:Hp) (x:V) (xs:List V) (v:Ä) (us:List Ä) (Q:VK),Inv X pins σ H s->RelV x v->Vals xs us->r x xs H Q ->
  Ñ (Ø X.prog X.w) X.A (call (.builtin id) (v::us)) (EP X pins σ Q) X.xe s
theorem Vals.one:∀ {x:V}{us:List Ä},Vals [x] us->∃ u,us=[u]/\RelV x u
 |_,_,.cons r .nil=>⟨_,rfl,r⟩
theorem Vals.eraseIdx:∀ {xs:List V}{us:List Ä} (i:Nat),Vals xs us->Vals (xs.eraseIdx i) (us.eraseIdx i)
 |_,_,_,.nil=>.nil|_,_,0,.cons _ t=>t|_,_,i + 1,.cons r t=>.cons r (Vals.eraseIdx i t)
theorem Vals.reverse{xs:List V}{us:List Ä}(h:Vals xs us):Vals xs.reverse us.reverse:=by
 induction h with
 |nil=>exact .nil|cons r t ih=>rw[Ô7,Ô7];exact Vals.append ih (.cons r .nil)
theorem Vals.rep{xs:List V}{us:List Ä}(h:Vals xs us):∀ k:Nat,Vals (ð k xs).flatten (ð k us).flatten
 |0=>.nil
 |k + 1=>by
  rw[Æ9,Æ9,Ì6,Ì6];exact Vals.append h (Vals.rep h k)
theorem foldl_rep(its:List Ä):∀ (k:Nat) (acc:List Ä),
 foldl (λx1 x2=>x1++x2) acc.toArray (ð k its.toArray)=(acc++(ð k its).flatten).toArray
 |0,acc=>by simp
 |k + 1,acc=>by
  have e:acc.toArray++its.toArray=(acc++its).toArray:=by simp
  have e2:(acc++its)++(ð k its).flatten=acc++(ð (k + 1) its).flatten:=by
   rw[Æ9,Ì6,Ç7]
  rw[← e2,← foldl_rep its k (acc++its),← e,Æ9,List.foldl_cons]
section
variable {X:Cx}{pins:List (Ç × Obj)}{σ:St}{H:Hp}{s:Æ}{l b:Ç}{xs ys zs:List V}
theorem Inv.D52{its its':List Ä}{n:Nat}{f:Array Ä->Array Ä}{t':Nat}(I:Inv X pins σ H s)(hH:H l=some (.lst xs))
 (e:s.heap.get? l=some { cls:=.type "list",data:=.seq its.toArray n }) (hf:f its.toArray=its'.toArray) (hv:Vals ys its') (hz:ys.length<=sizeLine) :
 Inv X pins σ (upd H l (.lst ys)) { s with heap:=s.heap.update l (þ f),toks:=t' }:=by
 have q:=PySem.IsL.update e f;rw[hf] at q;refine I.write (x:=l) (e:=l) (by rw[hH];exact trivial) (.inl rfl) (λb' u hb hu=>(Ì1 s.heap (þ f) (Á0 hb)).trans hu) ⟨_,q⟩ ?_
 exact⟨hz,its',_,hv,q⟩
def Inv.D62{its:List Ä}{t':Nat}(I:Inv X pins σ H s)(hv:Vals ys its)(hz:ys.length<=sizeLine) :
 Inv X pins σ (upd H s.heap.objs.size (.lst ys)) { s with heap:=s.heap.push { cls:=.type "list",data:=.seq its.toArray },toks:=t' }:=
 I.laid (λ_ _ q=>Ã _ q) (Î _) ⟨hz,its,0,hv,Ê _ rfl⟩
def Inv.fresh(I:Inv X pins σ H s):H s.heap.objs.size=none:=I.hok.fresh (Î _)
theorem Inv.A02(I:Inv X pins σ H s)(hH:H l=some (.lst xs)):xs.length<=sizeLine/\∃ (its:List Ä) (n:Nat),Vals xs its/\xs.length=its.length/\s.heap.get? l=some { cls:=.type "list",data:=.seq its.toArray n }:=by
 obtain⟨z,its,n,r,e⟩:=I.hok l _ hH;exact⟨z,its,n,r,r.length,e⟩
theorem H51{n:Nat}(h:n<=sizeLine):Í9 n=false:=by
 unfold Í9;exact decide_eq_false ∅
end
section
variable {X:Cx}
def X61:V->List V->Hp->VK->Prop:=λx vs H Q=>∃ l xs y,x=.ref l/\vs=[y]/\H l=some (.lst xs)/\xs.length < sizeLine/\Q .non (upd H l (.lst (xs++[y])))
theorem C60:MtM X "list.append" X61:=by
 intro pins s σ H x vs v us Q I rx rv h;obtain⟨l,xs,y,rfl,rfl,hH,hz,q⟩:=h;cases rx;obtain⟨u,rfl,ru⟩:=rv.one;obtain⟨z,its,n,r,hl,e⟩:=I.A02 hH;refine Ê0 F.slot_list_append ⟨_,e,rfl⟩ F.entry_list_append (F.args_list_append_2 _ _) (PySem.list_append l its.toArray n u (by rw[Ö];omega)) ⟨e,?_⟩
 refine⟨.non,_,I.D52 (its':=its++[u]) hH e (by simp) (r.append (.cons ru .nil)) ?_,rfl,q⟩
 rw[ù,á1];omega
def R82:R2:=λx y H Q=>∃ l b xs zs,x=.ref l/\y=.ref b/\H l=some (.lst xs)/\H b=some (.lst zs)/\xs.length + zs.length<=sizeLine/\∀ p,H p=none->Q (.ref p) (upd H p (.lst (xs++zs)))
theorem r01:OpR X (Å6 .Add) R82:=by
 intro pins s σ H x y v u Q I rx ry h;obtain⟨l,b,xs,zs,rfl,rfl,hH,hB,hz,q⟩:=h;cases rx;cases ry;obtain⟨z,its,n,r,hl,e⟩:=I.A02 hH;obtain⟨z2,its2,n2,r2,hl2,e2⟩:=I.A02 hB;refine PySem.P.add_list e e2 ?_ (by rw[Ö,Ö];omega)
 have ea:its.toArray++its2.toArray=(its++its2).toArray:=by simp
 rw[ea];exact⟨.ref _,_,I.D62 (t':=s.toks) (r.append r2) (by rw[ù];omega),rfl,q _ I.fresh⟩
theorem len_rep{α:Type}(xs:List α)(k:Nat):(ð k xs).flatten.length=k * xs.length:=by
 induction k with
 |zero=>simp|succ k ih=>rw[Æ9,Ì6,ù,ih,Nat.succ_mul,Nat.add_comm]
end
end L2
namespace Att
open PySem PySem.W PySem.Calls PyProof.Rows
theorem C70{P:Params}{h:ê}:∀ (ns:List Int) (vs:List Ä),WellAll P h vs (ns.map WData.int)->Ì0 vs ns:=by
 intro ns
 induction ns with
 |nil =>
  intro vs w;rw[Ö7] at w;cases w;exact .nil
 |cons n ns ih =>
  intro vs w;rw[Æ0] at w;cases w with
  |cons a b =>
   cases a;exact .cons _ _ (ih _ b)
theorem r11{l:OpenLaw}{n:Nat}(hn:l.most=some n){P:Params}{h:ê}{args:List WData}{vals:List Ä}
 (hpre:l.row.toRowW.claim.pre args=true) (hwl:WellAll P h vals args) :
 ∃ a vs ns,vals=[Á7 a]/\args=[WData.list (ns.map WData.int)]/\h.get? a=some { cls:=.type "list",data:=.seq vs.toArray }/\Ì0 vs ns/\ns.length<=n:=by
 have hsh:WShape.hasAll [] args [.list .int]=true:=(pre_splitW hpre).1;have hc:l.pre.holds [] { args:=args }=true:=(pre_splitW hpre).2;obtain⟨d,r,rfl,h1,h2⟩:=hasAllW_cons hsh;obtain rfl:=hasAllW_nil h2;obtain⟨xs,rfl,h3⟩:=hasW_list h1;obtain⟨ns,rfl⟩:=items_int h3;have hlen:ns.length<=n:=by
  unfold OpenLaw.pre at hc;have h4:(WTm.not (.lt (.lit (.int (n:Int))) (.len (.arg 0)))).holds [] { args:=[.list (ns.map .int)] }=true:=by
   have h4:=(holds_andW hc).1;rw[hn] at h4;exact h4
  have h5:=condW_of h4 (w_not (w_lt w_lit (w_len_list (w_arg rfl))));rw[È] at h5;refine Nat.le_of_not_lt λq=>?_;have q':(n:Int) < ((ns.length:Nat):Int):=∅
  first
   |(rw[decide_eq_true q'] at h5;exact absurd h5 1e1)
   |(simp at h5;omega)
 cases hwl with
 |cons w1 w2 =>
  cases w2;cases w1 with
  |list ho hall=>exact⟨_,_,ns,rfl,rfl,ho,C70 ns _ hall,hlen⟩
theorem r21(l:OpenLaw)(args:List WData):l.row.toRowW.claim.post args (.bool true) args=true:=
 postW_of (r:=l.row.toRowW) (X:=(true == true))
  (show WShape.has [] (.bool true) .bool=true by first | rfl | decide | simp[WShape.has,WShape.arms,WShape.armsAll])
  (show(WTm.eq .res (.lit (.bool true))).value [] { args:=args,res:=some (.bool true),after:=args }=some (.bool (true == true)) from w_eq_bool (w_res rfl) w_lit) rfl
theorem X80{l:OpenLaw}{n:Nat}{q:à}{loose:List Str}{XP:(Str->Option Ä)->ê->Prop}{YP:í->ê->Prop}{d:DefRec}
 (hn:l.most=some n) (hdf:d.params.defaults=[])
 (call:∀ (w:í) (s₀ s₁:Æ) (mg mb:Str->Option Ä) (fa:Ç) (o:Obj) (pm cd doc:Ä) (a:Ç) (vs:List Ä) (ns:List Int),
   Ground q loose [] XP w s₀ mg mb s₁.heap->YP w s₁.heap ->
   s₁.heap.get? fa=some o->o.data=.func (docDef d.name d.params d.body d.scope pm cd doc)->s₁.heap.CodeRec cd d.name->mg d.name=some (.ref fa) ->
   s₁.heap.get? a=some { cls:=.type "list",data:=.seq vs.toArray }->Ì0 vs ns->ns.length<=n->s₁.gens=#[] ->
   Ë8 (Ø l.prog w) Ý7 (.call (.ref fa) ⟨[.ref a],[]⟩) (λr s'=>r=.ok (.ret (.bool true))/\OldK s₁.heap s'.heap/\s'.os=s₁.os/\Ô1 s'.gens) s₁) :
  WalkO q loose XP YP l.row.toRowW d [] (λf vs=>PySem.call f vs):=by
 intro w s₀ s₁ mg mb G Y fa o pm cd doc dV kV ho hd hcd hD hmg hg args vals as hpre hlay hrd hwl hlo;obtain rfl:dV=.none:=Dflts.none hD hdf;obtain rfl:kV=.none:=Dflts.noKw hD;obtain⟨a,vs,ns,rfl,rfl,hobj,hints,hlen⟩:=r11 hn hpre hwl;refine enter_call (È5 (call w s₀ s₁ mg mb fa o pm cd doc a vs ns G Y ho (fd_plain hd) hcd hmg hobj hints hlen hg) λr s' hq=>?_);obtain⟨rfl,h2,h3,h4⟩:=hq;exact⟨.inl ⟨.bool true,.bool true,[],rfl,λ_=>rfl,.bool true,r21 l _,λ_=>⟨ß9.nil,λ_ hm=>(nomatch hm)⟩⟩,h2,h3,h4⟩
end Att
namespace L2
open PySem PySem.Spec PyProof.Rows
theorem R80:∀ {vs:List Ä}{ns:List Int},Ì0 vs ns->Vals (ns.map V.int) vs
 |_,_,.nil=>.nil|_,_,.cons n t h=>.cons ⟨t,rfl⟩ (R80 h)
def K70(s:Á5):Arguments:=match s with
 |.FunctionDef _ a _ _ _ _ _ _ _ _=>a|_=>{ posonlyargs:=[],args:=[],vararg:=none,kwonlyargs:=[],kw_defaults:=[],kwarg:=none,defaults:=[] }
def j10(s:Á5):List Stmt:=match s with
 |.FunctionDef _ _ b _ _ _ _ _ _ _=>b|_=>[]
def c20(s:Á5):Scope:=match s with
 |.FunctionDef _ _ _ _ _ _ sc _ _ _=>sc|_=>{ kind:=.function,names:=[],isGenerator:=false,isCoroutine:=false }
abbrev CX0:CXT:=λ_ _ _ _ _ _=>False
structure Fun(K:PySem.W.Frag)(x qual:Str)(st:Stmt)(f:Addr)(fd:FuncData):Prop where
 ex:∃ (oc:Value) (od:Option Addr) (kV doc pm:Value) (an:Option Addr) (cdv ct:Value) (osl:Array (Option Value)),
  fd=fnOf x qual (K70 st) (j10 st) (c20 st) .none kV doc pm an cdv ct/\K.lookup f=some ⟨oc,od,.func fd,osl⟩/\PySem.W.codeIn K cdv qual=true
 kp:PySem.W.keepIn K (.ref f)=true
section
variable {P:à}{w:í}{K:Â}{mg:Str->Option Ä}{base:ê}
theorem Fun.binds{x qual:Str}{st:Á5}{f:Ç}{fd:Ã0}{ps:List Str}(F:Fun K x qual st f fd)
 (h:∀ (kV doc pm:Ä) (an:Option Ç) (cdv ct:Ä) (us:List Ä),us.length=ps.length->bindArgs (fnOf x qual (K70 st) (j10 st) (c20 st) .none kV doc pm an cdv ct) ⟨us,[]⟩=pure (ps.zip us)):Binds K fd ps []:=by
 obtain⟨oc,od,kV,doc,pm,an,cdv,ct,osl,rfl,lk,hcd⟩:=F.ex;exact .all (h kV doc pm an cdv ct)
end
theorem X71{A:ó}{k:Nat}(hr:w40 k A):A.units + 1 < cLine:=Å8 (Nat.add_le_add_left (by decide:1<=64) _) hr.units
section
variable {X:Cx}
theorem pv(i:Nat){x:Str}{pos:Pos}(hN:X.N[i]?=some x:=by rfl)(hv:Vis X.env.scope x:=by first | exact Ó1 rfl | exact Ú4 (Ó1 rfl) | exact Ú4 (Ú4 rfl))(hd:(x == ("__debug__":Str))=false:=by decide)
  (hcd:(x == ("__classdict__":Str))=false:=by decide):PE X (.Name x pos) (k82 i):=k20 hN hv hd hcd
end
theorem R92{A B:Prop}(h:B):if false=true then A else B:=by
 rw[if_neg Ï];exact h
theorem S02{c A B:Prop}[Decidable c](h1:c->A)(h2:¬ c->B):if c then A else B:=by
 by_cases h:c
 ·rw[if_pos h];exact h1 h
 ·rw[if_neg h];exact h2 h
def a20(H H':Hp):Prop:=∀ b o,H b=some o->H' b=some o
def a20.refl(H:Hp):a20 H H:=λ_ _ h=>h
def a20.trans{H H1 H2:Hp}(a:a20 H H1)(b:a20 H1 H2):a20 H H2:=λc o h=>b c o (a c o h)
end L2
set_option maxHeartbeats 4000000
namespace L2
open PySem
abbrev NoX:Ä->Æ->Prop:=λ_ _=>False
theorem K80(env:Env):∀ (names:List (Str × Ë7)) (acc:List (Str × Ç)),(∀ y∈names,y.2=.free->∃ c,env.cells.lookup y.1=some c)->(∀ x c,acc.lookup x=some c->env.cells.lookup x=some c) ->
 ∃ cl:List (Str × Ç),(forIn names acc λ(x:Str × Ë7) (r:List (Str × Ç))=>(if (x.2 == .free)=true then do let c ← cellOf env x.1;pure (â ((x.1,c)::r)) else pure (â r):Sem (ForInStep (List (Str × Ç)))))=pure cl /\
   (∀ x c,cl.lookup x=some c->env.cells.lookup x=some c)/\(∀ x c,acc.lookup x=some c->∃ c',cl.lookup x=some c')/\(∀ y∈names,y.2=.free->∃ c,cl.lookup y.1=some c)
 |[],acc,_,ha=>⟨acc,by simp,ha,λx c e=>⟨c,e⟩,λy hy=>absurd hy (by simp)⟩
 |(n,k)::r,acc,hf,ha=>by
  by_cases hk:k=.free
  ·subst hk;obtain⟨c,hc⟩:=hf (n,.free) Ì rfl;have hcell:cellOf env n=pure c:=by unfold cellOf;rw[hc]
   obtain⟨cl,e,h1,h2,h3⟩:=K80 env r ((n,c)::acc) (λy hy=>hf y (Ë _ hy)) (λx c' e=>by
    rw[À7] at e;by_cases hx:(x == n)=true
    ·rw[hx] at e;have:x=n:=by simpa using hx
     subst this;cases e;exact hc
    ·rw[show(x == n)=false by simpa using hx] at e
     exact ha x c' e)
   refine⟨cl,?_,h1,λx c' e'=>?_,λy hy hyk=>?_⟩
   ·rw[Í5];simp only[beq_self_eq_true,if_true,hcell,pure_bind];exact e
   ·by_cases hx:(x == n)=true
    ·exact h2 x c (by rw[À7,hx])
    ·exact h2 x c' (by rw[À7,show(x == n)=false by simpa using hx];exact e')
   ·rcases ï.mp hy with rfl | hy
    ·exact h2 n c (by simp[À7])
    ·exact h3 y hy hyk
  ·obtain⟨cl,e,h1,h2,h3⟩:=K80 env r acc (λy hy=>hf y (Ë _ hy)) ha;refine⟨cl,?_,h1,h2,λy hy hyk=>?_⟩
   ·rw[Í5];have hb:((k == ô)=true)=False:=by simpa using hk
    simp only[hb,if_false,pure_bind];exact e
   ·rcases ï.mp hy with rfl | hy
    ·exact absurd hyk hk
    ·exact h3 y hy hyk
theorem K90(hf:∀ y∈scope.names,y.2=.free->∃ c,env.cells.lookup y.1=some c) :
 ∃ cl:List (Str × Ç),closureFor scope env=pure cl/\(∀ x c,cl.lookup x=some c->env.cells.lookup x=some c)/\(∀ y∈scope.names,y.2=.free->∃ c,cl.lookup y.1=some c):=by
 obtain⟨cl,e,h1,_,h3⟩:=K80 env scope.names [] hf (λx c e=>by simp at e)
 refine⟨cl,?_,h1,h3⟩;simp only[closureFor];exact(congrArg (λt=>t >>= λr=>(pure r:Sem _)) e).trans (by simp)
section
variable {P:à}{w:í}{A:ó}{R:Result->Æ->Prop}{s:Æ}
theorem r31{el tg src:Ð}{tests:List Ð}{sc:ë}{ps:Pos}{itv av:Ä}{en:Env}(J:Nat->Æ->Prop)
 (turn:∀ n s,J n s->Ñ (Ø P w) A (Ò1 itv) (λr s1=>match r with
   |none=>R (.ok .next) s1
   |some v=>Ñ (Ø P w) A (à3 tg itv v) (λ_ s2=>Ñ (Ø P w) A (Ù9 tg en v) (λ_ s3 =>
     Ñ (Ø P w) A (forIn tests true λc r=>if r=true then do let ok ← isTrue c en (eval c en);pure (â ok) else pure (â r)) (λok s4 =>
      if ok=true then Ñ (Ø P w) A (eval el en) (λx s5 =>
       Ñ (Ø P w) A (call (.builtin "list.append") [av,x]) (λ_ s6=>∃ m,m < n/\J m s6) NoX s5) NoX s4
      else ∃ m,m < n/\J m s4) NoX s3) NoX s2) NoX s1) NoX s)
  (n:Nat) (h:J n s) :
  Ë8 (Ø P w) A (.compLoop (.ListComp el [⟨tg,src,tests,0⟩] sc ps) 0 itv av en) R s:=by
 refine codeAny_loop rfl J (λn s hI=>?_) n h;show Ñ _ A ((compTurn (.ListComp el [⟨tg,src,tests,0⟩] sc ps) 0 itv av en).onRaise (λx=>do noteFrame x en;theTreesLotGoes x)) _ _ s;refine wpAny_noted ?_;rw[compTurn_list];refine À (Û6 (À (Á9 (turn n s hI) (λr s1 h1=>?_) λ_ _ x=>x.elim)));cases r with
 |none=>exact Å h1
 |some v =>
  refine À (Á9 h1 (λ_ s2 h2=>?_) λ_ _ x=>x.elim);refine À (Á9 h2 (λ_ s3 h3=>À (Á9 h3 (λok s4 h4=>?_) λ_ _ x=>x.elim)) λ_ _ x=>x.elim);cases ok with
  |false=>exact Å ⟨rfl,h4⟩|true=>exact À (À (Á9 h4 (λx s5 h5=>À (Á9 h5 (λ_ s6 h6=>Å (Å ⟨rfl,h6⟩)) λ_ _ x=>x.elim)) λ_ _ x=>x.elim))
end
open PySem PySem.Spec PyProof.Rows
abbrev c40(X:Cx)(N':List Str)(sc:ë)(cl:List (Str × Ç))(C:Ç)(s:Æ)(H:Hp)(fp:List Ç):Cx:=
 { X with N:=N',s₀:=s,H₀:=H,env:=compEnvC sc cl C X.env,outer:=X.stack,stack:=X.stack,ex:=fp,fn:=λ_=>false,pn:=[],xe:=NoX }
def c70(own:List Str)(capt:List (Str × Nat)):List Str:=own++capt.map (·.1)
def r40(own:List Str)(capt:List (Str × Nat))(σ:St):St:=own.map (λ_=>none)++capt.map λp=>(σ[p.2]?).getD none
structure n40(X:Cx)(sc:Scope)(own:List Str)(capt:List (Str × Nat)):Prop where
 kind:sc.kind=.function
 nocell:∀ y∈sc.names,y.2≠.cell
 locs:∀ y∈sc.names,y.2=.local->sc.names.lookup y.1=some .local
 frees:∀ y∈sc.names,y.2=.free->X.env.kindOf y.1=some .cell\/X.env.kindOf y.1=some .free
 captd:∀ p∈capt,X.N[p.2]?=some p.1/\sc.names.lookup p.1=some .free
theorem L00{env:Env}:∀ {names:List (Str × Ë7)}{x:Str}{k:Ë7},
 (names.map λ(n,k)=>if (k == ô&&env.scope.kind == .function&&env.kindOf n == some .cell) then(n,Æ3) else(n,k)).lookup x=some k->(k=.cell\/k=.free)->(∀ y∈names,y.2≠.cell)->(x,ô)∈names
 |[],_,_,h,_,_=>by simp at h
 |(n,k0)::r,x,k,h,hk,hn=>by
  have h:Í6 x ((if (k0 == ô&&env.scope.kind == .function&&env.kindOf n == some .cell)=true then(n,Æ3) else(n,k0))::_)=some k:=h;have hn0:k0≠.cell:=hn (n,k0) Ì;cases hx:x == n with
  |true =>
   have e:x=n:=by simpa using hx
   subst e;by_cases hc:(k0 == ô&&env.scope.kind == .function&&env.kindOf x == some .cell)=true
   ·have:k0=.free:=by
     cases k0 <;> simp_all
    subst this;exact Ì
   ·rw[if_neg hc] at h;simp only[À7,hx] at h;cases h;rcases hk with hk | hk
    ·exact absurd hk hn0
    ·subst hk;exact Ì
  |false =>
   have h':(r.map λ(n,k)=>if (k == ô&&env.scope.kind == .function&&env.kindOf n == some .cell) then(n,Æ3) else(n,k)).lookup x=some k:=by
    by_cases hc:(k0 == ô&&env.scope.kind == .function&&env.kindOf n == some .cell)=true
    ·rw[if_pos hc] at h;simp only[À7,hx] at h;exact h
    ·rw[if_neg hc] at h;simp only[À7,hx] at h;exact h
   exact Ë _ (L00 h' hk λy hy=>hn y (Ë _ hy))
theorem q30{env:Env}:∀ {names:List (Str × Ë7)}{x:Str},names.lookup x=some .free ->
 (names.map λ(n,k)=>if (k == ô&&env.scope.kind == .function&&env.kindOf n == some .cell) then(n,Æ3) else(n,k)).lookup x=some .cell \/
 (names.map λ(n,k)=>if (k == ô&&env.scope.kind == .function&&env.kindOf n == some .cell) then(n,Æ3) else(n,k)).lookup x=some .free
 |[],_,h=>by simp at h
 |(n,k)::r,x,h=>by
  have ih:=@q30 env r x;show Í6 x ((if (k == ô&&env.scope.kind == .function&&env.kindOf n == some .cell)=true then(n,Æ3) else(n,k))::_)=_\/Í6 x ((if (k == ô&&env.scope.kind == .function&&env.kindOf n == some .cell)=true then(n,Æ3) else(n,k))::_)=_;cases hx:x == n with
  |true =>
   simp only[À7,hx] at h;cases h;by_cases hc:(ô == ô&&env.scope.kind == .function&&env.kindOf n == some .cell)=true
   ·rw[if_pos hc];left;simp only[À7,hx]
   ·rw[if_neg hc];right;simp only[À7,hx]
  |false =>
   simp only[À7,hx] at h;by_cases hc:(k == ô&&env.scope.kind == .function&&env.kindOf n == some .cell)=true
   ·rw[if_pos hc];simp only[À7,hx];exact ih h
   ·rw[if_neg hc];simp only[À7,hx];exact ih h
theorem HOk.X81{P:à}{w:í}{H:Hp}{h:ê}{D:Ç}{ys:List V}{its:List Ä}{n:Nat}(x:HOk P w H h)(hn:H D=none)(hv:Vals ys its)(hz:ys.length<=sizeLine)
 (ho:h.get? D=some { cls:=.type "list",data:=.seq its.toArray n }):HOk P w (upd H D (.lst ys)) h:=λb u e=>by
 by_cases hb:b=D
 ·subst hb;rw[a70] at e;cases e;exact⟨hz,its,n,hv,ho⟩
 ·rw[a50 hb] at e;exact(x b u e).j71 (λc v _ q=>q) (λc q=>by rw[a50 (a80 q hn)];exact q) λc xs q=>by rw[a50 (a80 q hn)];exact q
def PTs(X:Cx)(tests:List Ð)(t:TT):Prop:=
 ∀ (pins:List (Ç × Obj)) (s:Æ) (σ:St) (H:Hp) (Q:Bool->Hp->Prop),Inv X pins σ H s->t σ H Q ->
  Ñ (Ø X.prog X.w) X.A (forIn tests true λc r=>if r=true then do let ok ← isTrue c X.env (eval c X.env);pure (â ok) else pure (â r)) (TP X pins σ Q) X.xe s
def r41:TT:=λ_ H Q=>Q true H
def r51:PTs X [] r41:=λ_ _ _ H _ I h=>wpAny_tests_nil ⟨H,I,h⟩
def r61(hc:PT X c t):PTs X [c] t:=λpins s σ H Q I h=>wpAny_tests_one (hc pins s σ H Q I h)
section
variable {X:Cx}{pins:List (Ç × Obj)}{σ:St}{H2:Hp}{s2:Æ}{sc:ë}{own:List Str}{capt:List (Str × Nat)}{cl:List (Str × Ç)}{fp:List Ç}{C:Ç}
theorem R90(I:Inv X pins σ H2 s2)(S:n40 X sc own capt)(hcl:∀ x c,cl.lookup x=some c->X.env.cells.lookup x=some c)(hcf:∀ y∈sc.names,y.2=.free->∃ c,cl.lookup y.1=some c)
 (hx:∀ x c,X.env.cells.lookup x=some c->c ∉ fp) {h':ê} (un:∀ c o,s2.heap.get? c=some o->H2 c=none->c ∉ fp->∃ sl,h'.get? c=some { o with slots:=sl }) (m:Str->Option Ä) :
 ∀ (i:Nat) (x:Str) (v:V),(c70 own capt)[i]?=some x->(r40 own capt σ)[i]?=some (some v)->∃ u,RelV v u/\Look (compEnvC sc cl C X.env) h' m x u:=by
 intro i x v e1 e2;unfold c70 at e1;unfold r40 at e2;by_cases hi:i < own.length
 ·rw[Ñ1 (by simpa using hi),Û] at e2
  cases q:own[i]? with
  |none=>rw[q] at e2;cases e2
  |some y=>rw[q] at e2;cases e2
 ·rw[Å7 (by simpa using hi),È,Û] at e2
  rw[Å7 (by simpa using hi),Û] at e1
  cases q:capt[i - own.length]? with
  |none=>rw[q] at e1;cases e1
  |some p =>
   rw[q] at e1 e2;obtain rfl:p.1=x:=ü e1;have e3:(σ[p.2]?).getD none=some v:=ü e2;have e4:σ[p.2]?=some (some v):=by
    cases z:σ[p.2]? with
    |none=>rw[z] at e3;cases e3
    |some w=>rw[z] at e3;exact congrArg some e3
   obtain⟨hN,hf⟩:=S.captd p (æ q);have hmem:(p.1,ô)∈sc.names:=Â3 hf;have hk:=S.frees _ hmem rfl;obtain⟨m0,_,hl⟩:=I.loc;have vis:Vis X.env.scope p.1:=.inr hk;obtain⟨u,r,lk⟩:=hl p.2 p.1 v hN e4 vis;refine⟨u,r,.inr ⟨?_,?_⟩⟩
   ·exact q30 hf
   ·rcases lk with ⟨hl0,_⟩ | ⟨_,c,hc,o,ho,hd⟩
    ·rcases hk with hk | hk <;> (rw[hk] at hl0;cases hl0)
    ·obtain⟨c',hc'⟩:=hcf _ hmem rfl;have:=hcl _ _ hc';rw[hc] at this;cases this;obtain⟨sl,q'⟩:=un c o ho (I.freeC _ _ hc) (hx _ _ hc);exact⟨c,hc',_,q',hd⟩
end
def X91(X:Cx)(pins:List (Ç × Obj))(σ:St)(R:V->Hp->Prop)(acc:Ä)(C:Ç)(s':Æ):Prop:=
 ∃ D H' m',acc=.ref D/\Inv X pins σ H' s'/\d21 X pins H' C/\s'.heap.Ns C m'/\R (.ref D) H'
def k51(J:It)(σ0:St)(H1:Hp)(g:TG)(tt:TT)(te:TE)(Q:VK):Prop:=∃ W:Nat->Nat->List V->Hp->Prop,(∃ m,W 0 m [] H1)/\∀ i m ys H,W i m ys H ->
 (J.stop i H/\∀ p,H p=none->Q (.ref p) (upd H p (.lst ys))) \/
 (J.go i H/\ys.length < sizeLine/\∃ N:List V->Hp->Prop,(∀ zs H',N zs H'->∃ m',m' < m/\W (i + 1) m' zs H')/\∀ x H',J.yld i H x H'->g x σ0 H' λσ2 H2=>tt σ2 H2 λb H3 =>
  if b=true then te σ2 H3 (λy H4=>N (ys++[y]) H4) else N ys H3)
def Y01(own:List Str)(capt:List (Str × Nat))(wi:TI)(g:TG)(tt:TT)(te:TE):TE:=λσ H Q=>wi σ H λJ H1=>k51 J (r40 own capt σ) H1 g tt te Q
section
variable {X:Cx}{pins:List (Ç × Obj)}{σ:St}{H2:Hp}{s2:Æ}{sc:ë}{own:List Str}{capt:List (Str × Nat)}{cl:List (Str × Ç)}{el tg src:Ð}{tests:List Ð}{ps:Pos}{g:TG}{tt:TT}{te:TE}
theorem w60(hc:X.calm=true)(S:n40 X sc own capt)(hcl:∀ x c,cl.lookup x=some c->X.env.cells.lookup x=some c)(hcf:∀ y∈sc.names,y.2=.free->∃ c,cl.lookup y.1=some c)
 (hg:∀ C s H fp,PG (c40 X (c70 own capt) sc cl C s H fp) tg g) (ht:∀ C s H fp,PTs (c40 X (c70 own capt) sc cl C s H fp) tests tt) (he:∀ C fp,(∀ b∈fp,d21 X pins H2 b)->PE (c40 X (c70 own capt) sc cl C s2 H2 fp) el te)
 {it:Ç}{fp:List Ç}{tn:Nat->ê->Prop}{J:It} (I2:Inv X pins σ H2 s2) (T:Turn X.prog X.w X.K tg J fp it tn) (st2:tn 0 s2.heap) (f2:∀ b∈fp,d21 X pins H2 b)
 {R:VK} (h:k51 J (r40 own capt σ) H2 g tt te R) {RR:Ä->Ç->Result->Æ->Prop} (hRR:∀ acc C s',X91 X pins σ R acc C s'->RR acc C (.ok .next) s') {E:Ä->Æ->Prop} :
  Ñ (Ø X.prog X.w) X.A (newList []) (λacc s3=>Ñ (Ø X.prog X.w) X.A (newFunctionEnv sc X.env.globals cl [] X.env.qual none .none (some X.env)) (λce s4 =>
   Ë8 (Ø X.prog X.w) X.A (.compStart (.ListComp el [⟨tg,src,tests,0⟩] sc ps) 0 (.ref it) acc { ce with scope:=relabel sc X.env }) (RR acc ce.locals) s4) E s3) E s2:=by
 obtain⟨W,⟨m0,w0⟩,turn⟩:=h;refine é (Ù4 S.nocell (by intro y hy;simp at hy) (λh1 hns1 hsb1=>?_) S.kind)
 dsimp only at hns1 hsb1 ⊢;generalize hH3:s2.heap.push { cls:=.type "list",dict:=none,data:=.seq ([]:List Ä).toArray }=h3 at hns1 hsb1 ⊢;have hC:h3.objs.size=s2.heap.objs.size + 1:=by rw[← hH3,É6]
 have below:∀ b,b < s2.heap.objs.size->b≠h3.objs.size/\b≠s2.heap.objs.size:=λb hb=>⟨∅,∅⟩
 have hDC:s2.heap.objs.size≠h3.objs.size:=∅
 have old:∀ b o,s2.heap.get? b=some o->h1.get? b=some o:=λb o e=>hsb1.extBut b o (below b (Þ e)).1 (Ã _ (hH3 ▸ Ã _ e));have hacc:h1.get? s2.heap.objs.size=some { cls:=.type "list",data:=.seq ([]:List Ä).toArray 0 }:=hsb1.extBut _ _ hDC (Ã _ (hH3 ▸ Ê _ rfl));have fpLt:∀ b∈fp,b < s2.heap.objs.size:=λb hb=>by
  obtain⟨o,e,_⟩:=T.obj _ _ st2 b hb;exact Þ e
 have celLt:∀ x c,X.env.cells.lookup x=some c->c < s2.heap.objs.size:=λx c e=>by
  obtain⟨v,o,q,_⟩:=I2.cell x c e;exact Þ q
 have frLt:∀ b∈frs X.stack,b < s2.heap.objs.size:=λb hb=>by
  obtain⟨_,o,q,_⟩:=I2.stack.mem hb;exact Þ q
 have celFp:∀ x c,X.env.cells.lookup x=some c->c ∉ fp:=λx c e hb=>(f2 c hb).2.2.2.2.1 x c e rfl;have fpFr:∀ b∈fp,b ∉ frs X.stack:=λb hb hf=>by
  rcases ï.mp (I2.p41 b hf) with z | z
  ·exact(f2 b hb).2.1 z
  ·exact(f2 b hb).2.2.1 z
 have okX:(c40 X (c70 own capt) sc cl h3.objs.size s2 H2 fp).Ok:=by
  refine⟨I2.ok.mod,S.kind,I2.ok.glob,I2.ok.blt,(by show s2.heap.objs.size<=h3.objs.size;omega),λx y c e1 e2=>I2.ok.inj x y c (hcl x c e1) (hcl y c e2),λx hx=>?_,λx c hx=>(by cases hx),I2.ok.hd,I2.ok.frames,.inl rfl,
   λb hb=>⟨(below b (fpLt b hb)).1,λx c e z=>celFp x c (hcl x c e) (z ▸ hb)⟩,I2.bs,Ó I2.ok.bsz I2.sz,λb o e hb=>?_,fpFr,I2.stack,I2.w30⟩
  ·have hx':(x,ô)∈sc.names:=by
    rcases hx with hx | hx
    ·exact L00 hx (.inl rfl) S.nocell
    ·exact L00 hx (.inr rfl) S.nocell
   exact hcf _ hx' rfl
  ·rcases (f2 b hb).2.2.2.1 with z | z
   ·exact I2.ok.noex b o e z
   ·have l1:b < X.base.objs.size:=Þ e;have l2:X.base.objs.size<=X.s₀.heap.objs.size:=I2.ok.bsz;have l3:X.s₀.heap.objs.size<=b:=z;exact absurd l1 (Nat.not_lt.mpr (Ó l2 l3))
 have reset:∀ {pl:List (Ç × Obj)}{σ':St}{H':Hp}{s':Æ},Inv (c40 X (c70 own capt) sc cl h3.objs.size s2 H2 fp) pl σ' H' s'->Inv (c40 X (c70 own capt) sc cl h3.objs.size s2 H2 fp) pl (r40 own capt σ) H' s':=λ{pl σ' H' s'} I'=>by
  obtain⟨m,hn,_⟩:=I'.loc;refine⟨I'.ok,I'.os,I'.bare,I'.base,⟨m,hn,λi x v e1 e2 _=>R90 I2 S hcl hcf celFp (λc o q n hx=>I'.base.any q n hx) m i x v e1 e2⟩,I'.cell,I'.free,I'.freeC,I'.pin,I'.hok,?_⟩;show(r40 own capt σ).length=(c70 own capt).length;simp[r40,c70]
 have start:Inv (c40 X (c70 own capt) sc cl h3.objs.size s2 H2 fp) [(s2.heap.objs.size,{ cls:=.type "list",data:=.seq ([]:List Ä).toArray 0 })] (r40 own capt σ) H2 { s2 with heap:=h1,toks:=s2.toks + ([]:List (Str × Ä)).length }:=by
  refine⟨okX,rfl,I2.bare,Un.kept old,⟨_,hns1,λi x v e1 e2 _=>R90 I2 S hcl hcf celFp (λc o q _ _=>⟨o.slots,old c o q⟩) _ i x v e1 e2⟩,λx c e=>?_,?_,λx c e=>I2.freeC x c (hcl x c e),λp hp=>?_,I2.hok.kept old,?_⟩
  ·obtain⟨v,q⟩:=I2.cell x c (hcl x c e);exact⟨v,q.keeps old⟩
  ·exact I2.hok.fresh (by show s2.heap.objs.size<=h3.objs.size;omega)
  ·have hp':p=(s2.heap.objs.size,{ cls:=.type "list",data:=.seq ([]:List Ä).toArray 0 }):=by simpa using hp
   subst hp';exact⟨hacc,I2.hok.fresh (Î _),hDC,λz=>Â5 _ (frLt _ z),λv z=>by cases z⟩
  ·show(r40 own capt σ).length=(c70 own capt).length;simp[r40,c70]
 have G01:∀ {pl:List (Ç × Obj)}{H':Hp},(∀ p∈pl,p.1 ∉ fp)->(∀ b∈fp,H' b=none)->∀ b∈fp,d21 (c40 X (c70 own capt) sc cl h3.objs.size s2 H2 fp) pl H' b:=λ{pl H'} hp hn b hb =>
  ⟨hn b hb,(below b (fpLt b hb)).1,fpFr b hb,.inl hb,λx c e z=>celFp x c (hcl x c e) (z ▸ hb),λp hpp z=>hp p (by simpa using hpp) (z ▸ hb)⟩
 have hDfp:s2.heap.objs.size ∉ fp:=λz=>Â5 _ (fpLt _ z);have loop:∀ s3:Æ,s3={ s2 with heap:=h1,toks:=s2.toks + ([]:List (Str × Ä)).length } ->
   Ë8 (Ø X.prog X.w) X.A (.compLoop (.ListComp el [⟨tg,src,tests,0⟩] sc ps) 0 (.ref it) (.ref s2.heap.objs.size) (compEnvC sc cl h3.objs.size X.env)) (RR (.ref s2.heap.objs.size) h3.objs.size) s3:=by
  rintro s3 rfl;refine r31 (λn s'=>∃ i ys H' its k,Inv (c40 X (c70 own capt) sc cl h3.objs.size s2 H2 fp) [(s2.heap.objs.size,{ cls:=.type "list",data:=.seq (toArray its) k })] (r40 own capt σ) H' s'/\tn i s'.heap/\(∀ b∈fp,H' b=none)/\Vals ys its/\ys.length<=sizeLine/\W i n ys H') ?_ m0
   ⟨0,[],H2,[],0,start,T.keep _ _ _ st2 λb _ o e=>old b o e,λb hb=>(f2 b hb).1,.nil,Æ5 _,w0⟩
  rintro n s' ⟨i,ys,H',its,k,I',st',fr',hv,hz,w'⟩;have pinD:∀ p∈[((s2.heap.objs.size:Ç),({ cls:=.type "list",data:=.seq (toArray its) k }:Obj))],p.1 ∉ fp:=λp hp=>by
   have hp':p=(s2.heap.objs.size,{ cls:=.type "list",data:=.seq (toArray its) k }):=by simpa using hp
   subst hp';exact hDfp
  rcases turn i n ys H' w' with ⟨stop,q⟩ | ⟨go,hlt,N,hN,step⟩
  ·refine thn (T.done (c40 X (c70 own capt) sc cl h3.objs.size s2 H2 fp) rfl rfl rfl hc i _ s' _ H' NoX I' (G01 pinD fr') st' stop) λr s1 hr=>?_;obtain⟨hr,I1⟩:=hr;subst hr;obtain⟨gD,nD,_,_,_⟩:=I1.pin _ (ì _ Ì);obtain⟨m',hn',_⟩:=id I1.loc;have un:Un (frs X.stack) fp H2 (upd H' s2.heap.objs.size (.lst ys)) s2.heap s1.heap:=by
    have u:=I1.base;have nD2:H2 s2.heap.objs.size=none:=I2.hok.fresh (Î _);refine⟨u.keep,u.slot,λb o e n hx=>?_,u.there,λb xs e=>?_,λb o xs e=>?_,λb ps' e=>?_⟩
    ·rw[a50 (below b (Þ e)).2];exact u.free b o e n hx
    ·rw[a50 (a80 e nD2)];exact u.tups b xs e
    ·rw[a50 (a80 e nD2)];exact u.frzs b o xs e
    ·obtain⟨more,e'⟩:=u.tbls b ps' e;exact⟨more,by rw[a50 (a80 e nD2)];exact e'⟩
   have IX:Inv X pins σ (upd H' s2.heap.objs.size (.lst ys)) s1:=I2.k72 I1.os un (I1.hok.X81 nD hv hz gD) I1.bare λb hb=>⟨(f2 b hb).2.2.2.1,(f2 b hb).2.1,(f2 b hb).2.2.2.2.1,(f2 b hb).2.2.2.2.2⟩;refine hRR _ _ _ ⟨_,_,m',rfl,IX,?_,hn',q _ nD⟩;exact I2.G01 ∅ (by rw[a50 hDC.symm];exact I1.free)
  ·refine thn (T.item (c40 X (c70 own capt) sc cl h3.objs.size s2 H2 fp) rfl rfl rfl hc i _ s' _ H' NoX I' (G01 pinD fr') st' go) λr s1 hr=>?_;obtain⟨u,hr,h4⟩:=hr;subst hr;refine thn h4 λ_ s5 hr5=>?_;obtain⟨x,H5,I5,r5,y5,st5,fr5⟩:=hr5;have I5p:=I5.pinned (G01 pinD fr5) (T.obj _ _ st5);refine thn (hg _ _ _ _ _ s5 _ H5 x u _ I5p r5 (step x H5 y5)) λ_ s6 hr6=>?_;obtain⟨σ6,H6,I6,q6⟩:=hr6;refine thn (ht _ _ _ _ _ s6 σ6 H6 _ I6 q6) λok s7 hr7=>?_;obtain⟨H7,I7,q7⟩:=hr7;have memFp:∀ {pl:List (Ç × Obj)}{b:Ç}{o:Obj},b∈fp->s5.heap.get? b=some o->(b,o)∈([]:List (Ç × Obj))++(pl++C40 fp s5.heap):=λhb e=>ì _ (ì _ (l60 hb e));cases ok with
   |false =>
    rw[if_neg Ï] at q7 ⊢;obtain⟨m',hm,w7⟩:=hN _ _ q7;refine⟨m',hm,i + 1,ys,H7,its,k,reset (I7.C10 λp hp=>I7.pin p (ì _ (Å0 _ hp))),T.keep _ _ _ st5 λb hb o e=>(I7.pin (b,o) (memFp hb e)).1,λb hb=>?_,hv,hz,w7⟩;obtain⟨o,e,_⟩:=T.obj _ _ st5 b hb;exact(I7.pin (b,o) (memFp hb e)).2.1
   |true =>
    rw[if_pos rfl] at q7 ⊢;refine thn (he _ _ f2 _ s7 σ6 H7 _ I7 q7) λuv s8 hr8=>?_;obtain⟨y,H8,I8,r8,q8⟩:=hr8;obtain⟨m',hm,w8⟩:=hN _ _ q8;obtain⟨gD,nD,dC,dF,_⟩:=I8.pin _ (ì _ (Å0 _ Ì));refine append_at gD (λh9 sb hD9=>?_) (by show(toArray its).size<=sizeLine;rw[Ö,← hv.length];exact hz)
    have I8a:Inv (c40 X (c70 own capt) sc cl h3.objs.size s2 H2 fp) (C40 fp s5.heap) σ6 H8 s8:=I8.C10 λp hp=>I8.pin p (ì _ (ì _ hp));have I9:Inv (c40 X (c70 own capt) sc cl h3.objs.size s2 H2 fp) (C40 fp s5.heap) σ6 H8 { s8 with heap:=h9 }:=I8a.turned (t':=s8.toks) (λb o hb e=>(sb.2 b hb).trans e) nD dC (.inr (Î _))
     (λx c e z=>Â5 s2.heap.objs.size (by have:=celLt x c (hcl x c e);rw[z] at this;exact this)) (λp hp z=>hDfp (z ▸ (Q70 (by simpa using hp)).1))
    rw[List.push_toArray] at hD9;refine⟨m',hm,i + 1,ys++[y],H8,its++[uv],k + 1,(reset I9).C10 λp hp=>?_,T.keep _ _ _ st5 λb hb o e=>?_,λb hb=>?_,hv.append (.cons r8 .nil),by rw[ù];exact hlt,w8⟩
    ·have hp':p=(s2.heap.objs.size,{ cls:=.type "list",data:=.seq (toArray (its++[uv])) (k + 1) }):=by simpa using hp
     subst hp';exact⟨hD9,nD,dC,dF,λv z=>by cases z⟩
    ·exact(I9.pin (b,o) (ì _ (l60 hb e))).1
    ·obtain⟨o,e,_⟩:=T.obj _ _ st5 b hb;exact(I9.pin (b,o) (ì _ (l60 hb e))).2.1
 exact codeAny_compStart_list (loop _ rfl) (T.self _ 0 _ _ _ (T.keep _ _ _ st2 λb _ o e=>old b o e) (loop _ rfl))
end
section
variable {X:Cx}{sc:ë}{own:List Str}{capt:List (Str × Nat)}{el tg src:Ð}{tests:List Ð}{ps pos:Pos}{wi:TI}{g:TG}{tt:TT}{te:TE}
theorem r71(hc:X.calm=true)(S:n40 X sc own capt)(hi:PI X tg src wi)(hg:∀ cl C s H fp,PG (c40 X (c70 own capt) sc cl C s H fp) tg g)
 (ht:∀ cl C s H fp,PTs (c40 X (c70 own capt) sc cl C s H fp) tests tt) (he:∀ cl C s H fp,PE (c40 X (c70 own capt) sc cl C s H fp) el te)
 (hs:∀ x,Å3 src X.env x=pure x:=by intro _;rfl):PE X (.ListComp el [⟨tg,src,tests,0⟩] sc ps) (Y01 own capt wi g tt te):=by
 intro pins s σ H Q I h;obtain⟨cl,hclos,hcl,hcf⟩:=K90 (scope:=sc) (env:=X.env) λy hy hk=>I.ok.has y.1 (S.frees y hy hk);rw[eval_ListComp];refine Ë4 (use:=none) rfl hs hclos S.kind S.locs (thn (hi pins s σ H _ I h) λv s1 h1=>thn h1 λitv s2 h2=>?_);obtain⟨it,fp,tn,J,H2,e,I2,T,st2,f2,hw⟩:=h2;subst e;refine w60 hc S hcl hcf (hg cl) (ht cl) (λC fp _=>he cl C _ _ fp) I2 T st2 f2 hw (RR:=λacc C=>compPost (Ø X.prog X.w) X.A X.xe none (EP X pins σ Q) acc C) λacc C s' hf=>?_;obtain⟨D,H',m',rfl,I',f',ns',r⟩:=hf;exact⟨m',ns',λh' sb=>⟨.ref D,H',I'.turned (t':=s'.toks) (λb o hb e=>(sb.2 b hb).trans e) f'.1 f'.2.1 f'.2.2.2.1 f'.2.2.2.2.1 f'.2.2.2.2.2,rfl,r⟩⟩
theorem H61{te:St->Hp->TE}{Cond:St->Hp->Prop}(hc:X.calm=true)(S:n40 X sc own capt)(hi:PI X tg src wi)(hg:∀ cl C s H fp,PG (c40 X (c70 own capt) sc cl C s H fp) tg g)
 (ht:∀ cl C s H fp,PTs (c40 X (c70 own capt) sc cl C s H fp) tests tt) (he:∀ cl pins σ H s,Inv X pins σ H s->(∀ x c,cl.lookup x=some c->X.env.cells.lookup x=some c)->Cond σ H->∀ C fp,(∀ b∈fp,d21 X pins H b)->PE (c40 X (c70 own capt) sc cl C s H fp) el (te σ H))
 (hs:∀ x,Å3 src X.env x=pure x:=by intro _;rfl):PE X (.ListComp el [⟨tg,src,tests,0⟩] sc ps) (λσ H Q=>wi σ H λJ H1=>Cond σ H1/\k51 J (r40 own capt σ) H1 g tt (te σ H1) Q):=by
 intro pins s σ H Q I h;obtain⟨cl,hclos,hcl,hcf⟩:=K90 (scope:=sc) (env:=X.env) λy hy hk=>I.ok.has y.1 (S.frees y hy hk);rw[eval_ListComp];refine Ë4 (use:=none) rfl hs hclos S.kind S.locs (thn (hi pins s σ H _ I h) λv s1 h1=>thn h1 λitv s2 h2=>?_);obtain⟨it,fp,tn,J,H2,e,I2,T,st2,f2,cd,hw⟩:=h2;subst e;refine w60 hc S hcl hcf (hg cl) (ht cl) (λC fp hf=>he cl _ _ _ _ I2 hcl cd C fp hf) I2 T st2 f2 hw (RR:=λacc C=>compPost (Ø X.prog X.w) X.A X.xe none (EP X pins σ Q) acc C) λacc C s' hf=>?_;obtain⟨D,H',m',rfl,I',f',ns',r⟩:=hf;exact⟨m',ns',λh' sb=>⟨.ref D,H',I'.turned (t':=s'.toks) (λb o hb e=>(sb.2 b hb).trans e) f'.1 f'.2.1 f'.2.2.2.1 f'.2.2.2.2.1 f'.2.2.2.2.2,rfl,r⟩⟩
theorem Y11{i:Nat}{y:Str}{py:Pos}(hN:X.N.Nodup)(hiN:X.N[i]?=some y)(hy:Loc X.env.scope y)(hsw:Î2 (.ListComp el [⟨tg,src,tests,0⟩] sc ps) (some (.Name y py)) pos.line X.env=pure true)
 (hc:X.calm=true) (S:n40 X sc own capt) (hi:PI X tg src wi) (hg:∀ cl C s H fp,PG (c40 X (c70 own capt) sc cl C s H fp) tg g)
 (ht:∀ cl C s H fp,PTs (c40 X (c70 own capt) sc cl C s H fp) tests tt) (he:∀ cl C s H fp,PE (c40 X (c70 own capt) sc cl C s H fp) el te)
 (hs:∀ x,Å3 src X.env x=pure x:=by intro _;rfl) (hf:X.fn y=true\/X.env.scope.names.lookup y=some .local:=by first | exact .inl rfl | exact .inr rfl | assumption) :
 PS X (.Assign [.Name y py] (.ListComp el [⟨tg,src,tests,0⟩] sc ps) pos) (l62 (Y01 own capt wi g tt te) (J90 i)):=by
 intro pins s σ H D I h;obtain⟨cl,hclos,hcl,hcf⟩:=K90 (scope:=sc) (env:=X.env) λy hy hk=>I.ok.has y.1 (S.frees y hy hk);rw[exec_Assign_Name_used _ _ _ _ hsw];refine À (Û6 (À ?_));show Ñ _ X.A (do let _ ← comprehension (.ListComp el [⟨tg,src,tests,0⟩] sc ps) sc X.env _ (newList []) false (eval src X.env) (some (Ù9 (.Name y py) X.env))) _ _ s;refine À (Á9 (Ë4 (use:=some (Ù9 (.Name y py) X.env)) (Q:=λ_ s'=>SP X pins D .next s') rfl hs hclos S.kind S.locs
  (thn (hi pins s σ H _ I h) λv s1 h1=>thn h1 λitv s2 h2=>?_)) (λ_ s' hq=>Å (Å hq)) λ_ _ e=>e)
 obtain⟨it,fp,tn,J,H2,e,I2,T,st2,f2,hw⟩:=h2;subst e;refine w60 hc S hcl hcf (hg cl) (ht cl) (λC fp _=>he cl C _ _ fp) I2 T st2 f2 hw (RR:=λacc C=>compPost (Ø X.prog X.w) X.A X.xe (some (Ù9 (.Name y py) X.env)) (λ_ s'=>SP X pins D .next s') acc C) λacc C s' hfn=>?_;obtain⟨DA,H',m',rfl,I',f',ns',r⟩:=hfn;show Ñ _ X.A (Ù9 (.Name y py) X.env (.ref DA)) _ _ _;refine Ý4 (C20 (v:=.ref DA) I' hN hiN hy rfl (λs3 I3 ha=>?_) hf);obtain⟨a,sb,ha⟩:=ha;have hCa:C≠a:=λz=>by
  rcases ha with q | q
  ·exact f'.2.1 (z.trans q)
  ·exact f'.2.2.2.2.1 _ _ q z.symm
 exact⟨m',ns'.sameBut sb hCa,λh' sb'=>⟨_,H',I3.turned (t':=s3.toks) (λb o hb e=>(sb'.2 b hb).trans e) f'.1 f'.2.1 f'.2.2.2.1 f'.2.2.2.2.1 f'.2.2.2.2.2,r⟩⟩
end
end L2
namespace L2
open PySem
section
variable {P:à}{w:í}{A:ó}{E:Ä->Æ->Prop}{s:Æ}
theorem w70{r t:Ç}{k:Nat}{vs:Array Ä}{x:Ä}{Q:Ä->Æ->Prop}(hr:s.heap.IsTupleIter r t k)(ht:s.heap.IsTuple t vs)(hx:vs[k]?=some x)
 (hQ:∀ h',h'.IsTupleIter r t (k + 1)->Ì2 r s.heap h'->Q x { s with heap:=h' }):Ñ (Ø P w) A (nextOf (.ref r)) Q E s:=by
 obtain⟨o,ho,hc,hd⟩:=id hr;obtain⟨ot,hot,_,nt,hdt⟩:=ht;unfold nextOf;refine À (À3 (name:=À8 "__next__") hr.typeIs É5 (À2 É5 hr.typeIs à0 ?_ (ß7 _)));show Ñ _ _ (field (.ref r) 0 >>= _) _ _ s;refine À (Á6 ho hd (x:=.ref t) rfl ?_);show Ñ _ _ (if (Á7 t == ä)=true then _ else _) _ _ s;rw[if_neg (show ¬ ((Á7 t == ä)=true) from Ï)];show Ñ _ _ (field (.ref r) 1 >>= _) _ _ s;refine À (Á6 ho hd (x:=.int k 0) rfl ?_);show Ñ _ _ (seqItems? (.ref t) >>= _) _ _ s;refine À (Ç3 hot hdt ?_);simp only[Â6,hx];refine À (wpAny_setField ho hd (by simp) (Å ⟨x,rfl,Å (hQ _ ⟨_,È0 _ ho (Obj.isFreed_of_fields (Obj.data_mapFields hd _)),(Obj.cls_mapFields ..).trans hc,by rw[Obj.data_mapFields hd];simp[Ã9]⟩ (Æ1 ..))⟩))
theorem u00{r t:Ç}{k:Nat}{vs:Array Ä}{Q:Ä->Æ->Prop}(hh:A.handled=none)(hr:s.heap.IsTupleIter r t k)(ht:s.heap.IsTuple t vs)(hx:vs[k]?=none)
 (hE:∀ h' e,ê.ExtBut r s.heap h'->(∃ o,h'.get? e=some o/\o.cls=.type "StopIteration")->E (.ref e) { s with heap:=h' }):Ñ (Ø P w) A (nextOf (.ref r)) Q E s:=by
 obtain⟨o,ho,hc,hd⟩:=id hr;obtain⟨ot,hot,_,nt,hdt⟩:=ht;unfold nextOf;refine À (À3 (name:=À8 "__next__") hr.typeIs É5 (À2 É5 hr.typeIs à0 ?_ (ß7 _)));show Ñ _ _ (field (.ref r) 0 >>= _) _ _ s;refine À (Á6 ho hd (x:=.ref t) rfl ?_);show Ñ _ _ (if (Á7 t == ä)=true then _ else _) _ _ s;rw[if_neg (show ¬ ((Á7 t == ä)=true) from Ï)];show Ñ _ _ (field (.ref r) 1 >>= _) _ _ s;refine À (Á6 ho hd (x:=.int k 0) rfl ?_);show Ñ _ _ (seqItems? (.ref t) >>= _) _ _ s;refine À (Ç3 hot hdt ?_);simp only[Â6,hx];refine À (É9 (À (wpAny_setField ho hd (by simp) ?_)));show Ñ _ _ (newExc (.type "StopIteration") [] >>= _) _ _ _
 refine À ?_;simp only[newExc,newTuple];refine À (é ?_ (by size_fits));refine À (m:=Ù7 _ _) (ß8 (a:=ä) (by first | rfl | (simp only[Ù7];rfl)) ?_)
 refine é ?_ (by size_fits);simp only[raiseNew];refine À (wpAny_handled ?_)
 first | rw[show A.in1.handled=none from hh] | rw[hh]
 refine À (Å (wpAny_throw (hE _ _ (((Æ1 ..).extBut.push _).push _) ⟨_,Ê _ rfl,rfl⟩)))
theorem r81{z TI TO i1 i2 l1 l2:Ç}{k:Nat}{xs ys:Array Ä}{x y a b:Ä}{Q:Option Ä->Æ->Prop}(D:ZipApart z TI TO i1 i2 l1 l2)(hz:Ò8 s.heap z TI TO .none)
 (hTI:Æ4 s.heap TI (.ref i1) (.ref i2)) (hTO:Æ4 s.heap TO a b) (h1:s.heap.IsTupleIter i1 l1 k) (h2:s.heap.IsTupleIter i2 l2 k) (hl1:s.heap.IsTuple l1 xs) (hl2:s.heap.IsTuple l2 ys)
 (hx:xs[k]?=some x) (hy:ys[k]?=some y)
 (hQ:∀ h',Ò8 h' z TI TO (Ã9 s.heap.objs.size)->Æ4 h' TO x y->h'.IsTupleIter i1 l1 (k + 1)->h'.IsTupleIter i2 l2 (k + 1)->Æ4 h' s.heap.objs.size x y->h'.objs.size=s.heap.objs.size + 1 ->
   (∀ c o,c≠z->c≠TO->c≠i1->c≠i2->s.heap.get? c=some o->h'.get? c=some o)->Q (some (.ref s.heap.objs.size)) { s with heap:=h' }):Ñ (Ø P w) A (Ò1 (.ref z)) Q E s:=by
 have hT:s.TypeIs (.ref z) "zip":=⟨_,hz,rfl⟩;unfold Ò1;refine À (Ë5 (À3 (name:=À8 "__next__") hT Õ6 (À2 Õ6 hT F.entry_zip_next ?_ (F.args_zip_next_1 _))));show Ñ _ _ (field (.ref z) 2 >>= _) _ _ _;refine À (Á6 hz rfl (x:=.bool false) rfl ?_);show Ñ _ _ (field (.ref z) 3 >>= _) _ _ _;refine À (Á6 hz rfl (x:=.ref TI) rfl ?_);refine À (Ç3 hTI rfl ?_);show Ñ _ _ (Í3 (.ref z) >>= _) _ _ _;refine À ?_;unfold Í3;refine À (Á6 hz rfl (x:=.none) rfl (Å ?_));simp only[if_true];refine À (É9 (À (Á6 hz rfl (x:=.ref TO) rfl (À (Ã3 hz (by simp) λg1 z1 e1=>?_)))))
 replace z1:Ò8 g1 z TI TO .ellipsis:=z1
 refine À ?_;simp only[List.zipIdx_cons,List.zipIdx_nil,Í5,Ø1];refine À (À (Û7 ?_));show Ñ _ _ (nextOf (.ref i1) >>= _) _ _ _;refine À (w70 (h1.extBut e1.extBut D.i1z) (hl1.extBut e1.extBut D.l1z) hx λg2 r2 e2=>Å ?_);have t2:Æ4 g2 TO a b:=e2.extBut _ _ D.TOi1 (e1.extBut _ _ D.TOz hTO);refine À (Ç3 t2 rfl (À (Ù2 t2 λg3 t3 e3=>?_)))
 replace t3:Æ4 g3 TO x b:=t3
 refine À (wpAny_letGo (Å ?_));refine À (À (Û7 ?_));show Ñ _ _ (nextOf (.ref i2) >>= _) _ _ _;refine À (w70 (((h2.extBut e1.extBut D.i2z).extBut e2.extBut D.i12.symm).extBut e3.extBut D.TOi2.symm) (((hl2.extBut e1.extBut D.l2z).extBut e2.extBut D.l2i1).extBut e3.extBut D.l2TO) hy λg4 r4 e4=>Å ?_);have t4:Æ4 g4 TO x b:=e4.extBut _ _ D.TOi2 t3;refine À (Ç3 t4 rfl (À (Ù2 t4 λg5 t5 e5=>?_)))
 replace t5:Æ4 g5 TO x y:=t5
 refine À (wpAny_letGo (Å (Å ?_)));refine À (Ç3 t5 rfl (À (wpAny_newTuple ?_)));have sz:g5.objs.size=s.heap.objs.size:=by rw[e5.1,e4.1,e3.1,e2.1,e1.1]
 have z5:Ò8 g5 z TI TO .ellipsis:=e5.extBut _ _ D.TOz.symm (e4.extBut _ _ D.i2z.symm (e3.extBut _ _ D.TOz.symm (e2.extBut _ _ D.i1z.symm z1)));have kp:∀ c o,c≠z->c≠TO->c≠i1->c≠i2->s.heap.get? c=some o->g5.get? c=some o:=λc o c1 c2 c3 c4 e=>e5.extBut _ _ c2 (e4.extBut _ _ c4 (e3.extBut _ _ c2 (e2.extBut _ _ c3 (e1.extBut _ _ c1 e))));have r1:g5.IsTupleIter i1 l1 (k + 1):=((r2.extBut e3.extBut D.TOi1.symm).extBut e4.extBut D.i12).extBut e5.extBut D.TOi1.symm;have r5:g5.IsTupleIter i2 l2 (k + 1):=r4.extBut e5.extBut D.TOi2.symm;have zl:z < g5.objs.size:=Þ z5;show Ñ _ _ (ownedTupleHandOut (.ref z) (.ref g5.objs.size) >>= _) _ _ _;refine À ?_;unfold ownedTupleHandOut;have z6:Ò8 (g5.push { cls:=.type "tuple",data:=.seq #[x,y] }) z TI TO .ellipsis:=Ã _ z5;refine À (Ã3 z6 (by simp) λg7 z7 e7=>?_)
 replace z7:Ò8 g7 z TI TO (Ã9 g5.objs.size):=z7
 refine Ã3 z7 (by simp) λg8 z8 e8=>?_
 replace z8:Ò8 g8 z TI TO (Ã9 g5.objs.size):=z8
 have up:∀ c o,c≠z->g5.get? c=some o->g8.get? c=some o:=λc o c1 e=>e8.extBut _ _ c1 (e7.extBut _ _ c1 (Ã _ e));have t8:Æ4 g8 g5.objs.size x y:=e8.extBut _ _ (Ê7 zl) (e7.extBut _ _ (Ê7 zl) (Ê _ rfl));have s8:g8.objs.size=g5.objs.size + 1:=by rw[e8.1,e7.1,É6]
 rw[sz] at z8 t8 s8;refine Å ⟨_,rfl,?_⟩;refine Å ?_;show Q (some (.ref g5.objs.size)) _;rw[sz];exact hQ g8 z8 (up _ _ D.TOz t5) (by obtain⟨o,ho,q⟩:=r1;exact⟨o,up _ o D.i1z ho,q⟩) (by obtain⟨o,ho,q⟩:=r5;exact⟨o,up _ o D.i2z ho,q⟩) t8 s8 λc o c1 c2 c3 c4 e=>up c o c1 (kp c o c1 c2 c3 c4 e)
theorem H71{z TI TO i1 i2 l1 l2:Ç}{k:Nat}{xs ys:Array Ä}{a b:Ä}{Q:Option Ä->Æ->Prop}(hh:A.handled=none)(D:ZipApart z TI TO i1 i2 l1 l2)(hz:Ò8 s.heap z TI TO .none)
 (hTI:Æ4 s.heap TI (.ref i1) (.ref i2)) (hTO:Æ4 s.heap TO a b) (h1:s.heap.IsTupleIter i1 l1 k) (h2:s.heap.IsTupleIter i2 l2 k) (hl1:s.heap.IsTuple l1 xs) (hl2:s.heap.IsTuple l2 ys)
 (hend:xs[k]?=none\/ys[k]?=none) (hQ:∀ h',(∀ c o,c≠z->c≠TO->c≠i1->c≠i2->s.heap.get? c=some o->h'.get? c=some o)->Q none { s with heap:=h' }):Ñ (Ø P w) A (Ò1 (.ref z)) Q E s:=by
 have hT:s.TypeIs (.ref z) "zip":=⟨_,hz,rfl⟩;have fin:∀ (h':ê) (e:Ç),(∀ c o,c≠z->c≠TO->c≠i1->c≠i2->s.heap.get? c=some o->h'.get? c=some o)->(∃ o,h'.get? e=some o/\o.cls=.type "StopIteration") ->
   Ñ (Ø P w) A (isInstance (.ref e) (.type "StopIteration") >>= λb=>if b=true then pure none else throw (.ref e)) Q E { s with heap:=h' }:=λh' e kp he=>by
  obtain⟨o,ho,hc⟩:=he;exact À (ß1 (T:="StopIteration") (b:=true) ⟨o,ho,hc⟩ isSubtype_stop (Å (hQ _ kp)))
 unfold Ò1;refine À (Ë5 (À3 (name:=À8 "__next__") hT Õ6 (À2 Õ6 hT F.entry_zip_next ?_ (F.args_zip_next_1 _))));show Ñ _ _ (field (.ref z) 2 >>= _) _ _ _;refine À (Á6 hz rfl (x:=.bool false) rfl ?_);show Ñ _ _ (field (.ref z) 3 >>= _) _ _ _;refine À (Á6 hz rfl (x:=.ref TI) rfl ?_);refine À (Ç3 hTI rfl ?_);show Ñ _ _ (Í3 (.ref z) >>= _) _ _ _;refine À ?_;unfold Í3;refine À (Á6 hz rfl (x:=.none) rfl (Å ?_));simp only[if_true];refine À (É9 (À (Á6 hz rfl (x:=.ref TO) rfl (À (Ã3 hz (by simp) λg1 z1 e1=>?_)))))
 replace z1:Ò8 g1 z TI TO .ellipsis:=z1
 refine À ?_;simp only[List.zipIdx_cons,List.zipIdx_nil,Í5,Ø1];refine À (À (Û7 ?_));show Ñ _ _ (nextOf (.ref i1) >>= _) _ _ _;cases hx:xs[k]? with
 |none =>
  refine À (u00 hh (h1.extBut e1.extBut D.i1z) (hl1.extBut e1.extBut D.l1z) hx λg2 e e2 he=>?_);obtain⟨oe,hoe,hce⟩:=he;have z2:Ò8 g2 z TI TO .ellipsis:=e2 _ _ D.i1z.symm z1;have hez:e≠z:=λq=>by subst q;rw[z2] at hoe;cases hoe;simp at hce
  exact Ã3 z2 (by simp) λg3 _ e3=>fin g3 e (λc o c1 _ c3 _ q=>e3.extBut _ _ c1 (e2 _ _ c3 (e1.extBut _ _ c1 q))) ⟨oe,e3.extBut _ _ hez hoe,hce⟩
 |some x =>
  have hy:ys[k]?=none:=by rcases hend with q | q;rw[hx] at q;cases q;exact q
  refine À (w70 (h1.extBut e1.extBut D.i1z) (hl1.extBut e1.extBut D.l1z) hx λg2 r2 e2=>Å ?_);have t2:Æ4 g2 TO a b:=e2.extBut _ _ D.TOi1 (e1.extBut _ _ D.TOz hTO);refine À (Ç3 t2 rfl (À (Ù2 t2 λg3 t3 e3=>?_)));refine À (wpAny_letGo (Å ?_));refine À (À (Û7 ?_));show Ñ _ _ (nextOf (.ref i2) >>= _) _ _ _;refine À (u00 hh (((h2.extBut e1.extBut D.i2z).extBut e2.extBut D.i12.symm).extBut e3.extBut D.TOi2.symm) (((hl2.extBut e1.extBut D.l2z).extBut e2.extBut D.l2i1).extBut e3.extBut D.l2TO) hy λg4 e e4 he=>?_);obtain⟨oe,hoe,hce⟩:=he;have z4:Ò8 g4 z TI TO .ellipsis:=e4 _ _ D.i2z.symm (e3.extBut _ _ D.TOz.symm (e2.extBut _ _ D.i1z.symm z1));have hez:e≠z:=λq=>by subst q;rw[z4] at hoe;cases hoe;simp at hce
  exact Ã3 z4 (by simp) λg5 _ e5=>fin g5 e (λc o c1 c2 c3 c4 q=>e5.extBut _ _ c1 (e4 _ _ c4 (e3.extBut _ _ c2 (e2.extBut _ _ c3 (e1.extBut _ _ c1 q))))) ⟨oe,e5.extBut _ _ hez hoe,hce⟩
abbrev zT1(h:ê)(l1:Ç):Heap:=h.push { cls:=.type "tuple_iterator",data:=.fields #[.ref l1,.int 0 0] }
abbrev zT2(h:ê)(l1 l2:Ç):Heap:=(zT1 h l1).push { cls:=.type "tuple_iterator",data:=.fields #[.ref l2,.int 0 0] }
abbrev zT3(h:ê)(l1 l2:Ç):Heap:=(zT2 h l1 l2).push { cls:=.type "tuple",data:=.seq #[.ref h.objs.size,.ref (zT1 h l1).objs.size] }
abbrev zT4(h:ê)(l1 l2:Ç):Heap:=(zT3 h l1 l2).push { cls:=.type "tuple",data:=.seq #[.none,.none] }
abbrev zT5(h:ê)(l1 l2:Ç):Heap:=(zT4 h l1 l2).push { cls:=.type "zip",data:=.fields #[.none,.bool false,.bool false,.ref (zT2 h l1 l2).objs.size,.ref (zT3 h l1 l2).objs.size] }
theorem k61(l1 l2:Ç)(xs ys:Array Ä) :
 Meets (ÿ.«zip.__new__» ⟨[.type "zip",.ref l1,.ref l2],[]⟩) (λ_ R s=>s.heap.IsTuple l1 xs/\s.heap.IsTuple l2 ys/\R (.ok (.ret (.ref (zT4 s.heap l1 l2).objs.size))) { s with heap:=zT5 s.heap l1 l2 }):=
 .of_wp λP w A R s h=>by
  obtain⟨hp,g,d,tk,os⟩:=s;obtain⟨hl1,hl2,h⟩:=h;have hsub:=sub_zip;have hL1:Ú8 (Æ.heap ⟨hp,g,d,tk,os⟩) l1 xs:=hl1;have hL2:Ú8 (Æ.heap ⟨hp.push { cls:=.type "tuple_iterator",data:=.fields #[.ref l1,.int 0 0] },g,d,tk,os⟩) l2 ys:=Ú8.push hl2 _
  wp_walk using Ò0 hL1,Ò0 hL2
  exact⟨_,rfl,h⟩
theorem r91{l1 l2:Ç}{xs ys:Array Ä}{Q:Ä->Æ->Prop}(hl1:s.heap.IsTuple l1 xs)(hl2:s.heap.IsTuple l2 ys)
 (h:∀ h',Ò8 h' (s.heap.objs.size + 4) (s.heap.objs.size + 2) (s.heap.objs.size + 3) .none->Æ4 h' (s.heap.objs.size + 2) (.ref s.heap.objs.size) (.ref (s.heap.objs.size + 1))->Æ4 h' (s.heap.objs.size + 3) .none .none ->
   h'.IsTupleIter s.heap.objs.size l1 0->h'.IsTupleIter (s.heap.objs.size + 1) l2 0->(∀ c o,s.heap.get? c=some o->h'.get? c=some o)->Q (.ref (s.heap.objs.size + 4)) { s with heap:=h' }) :
  Ñ (Ø P w) A (call (.type "zip") [.ref l1,.ref l2]) Q E s:=by
 refine callType_new F.called_zip 1e1 (F.typeCall_zip_2 _ _) (F.newCall_zip_2 _ _) (λobj=>F.args_object_init_3 obj _ _) F.entry_zip_new (k61 l1 l2 xs ys) ⟨hl1,hl2,?_⟩
 have n1:(zT1 s.heap l1).objs.size=s.heap.objs.size + 1:=É6 ..;have n2:(zT2 s.heap l1 l2).objs.size=s.heap.objs.size + 2:=by rw[É6,n1]
 have n3:(zT3 s.heap l1 l2).objs.size=s.heap.objs.size + 3:=by rw[É6,n2]
 have n4:(zT4 s.heap l1 l2).objs.size=s.heap.objs.size + 4:=by rw[É6,n3]
 have g5:(zT5 s.heap l1 l2).get? (zT4 s.heap l1 l2).objs.size=some _:=Ê _ rfl;have g4:(zT5 s.heap l1 l2).get? (zT3 s.heap l1 l2).objs.size=some _:=Ã _ (Ê _ rfl);have g3:(zT5 s.heap l1 l2).get? (zT2 s.heap l1 l2).objs.size=some _:=Ã _ (Ã _ (Ê _ rfl));have g2:(zT5 s.heap l1 l2).get? (zT1 s.heap l1).objs.size=some _:=Ã _ (Ã _ (Ã _ (Ê _ rfl)));have g1:(zT5 s.heap l1 l2).get? s.heap.objs.size=some _:=Ã _ (Ã _ (Ã _ (Ã _ (Ê _ rfl))));show _/\_;rw[n2,n3,n4] at g5;rw[n1,n2] at g3;rw[n3] at g4;rw[n1] at g2;rw[n4];exact⟨⟨_,g5,rfl⟩,h _ g5 g3 g4 ⟨_,g1,rfl,rfl⟩ ⟨_,g2,rfl,rfl⟩ λc o q=>Ã _ (Ã _ (Ã _ (Ã _ (Ã _ q))))⟩
end
open PySem PySem.Spec PyProof.Rows
section
variable {X:Cx}{pins:List (Ç × Obj)}{σ:St}{H:Hp}{s:Æ}{h':ê}
theorem Inv.s01{t':Nat}{ch:List Ç}(I:Inv X pins σ H s)(hf:∀ b∈ch,d21 X pins H b)(k:∀ b o,b ∉ ch->s.heap.get? b=some o->h'.get? b=some o):Inv X pins σ H { s with heap:=h',toks:=t' }:=by
 have nch:∀ b u,H b=some u->b ∉ ch:=λb u e z=>by rw[(hf b z).1] at e;cases e
 refine I.step (g':=s.gens) (d':=s.drawn) (ch:=ch) (λb hb=>⟨(hf b hb).2.2.2.1,(hf b hb).2.1,(hf b hb).2.2.2.2.1,(hf b hb).2.2.2.2.2⟩) (λb o _ _ hc e _=>k b o hc e) (λb o _ _ hc e _=>⟨o.slots,k b o hc e⟩) (λ_ _ _ _ n=>n)
  (λb o hc e=>⟨o,k b o hc e⟩) (λ_ _ e=>e) (λ_ _ _ e=>e) (λb ps e=>⟨#[],by rw[e];simp⟩) (λm hm=>?_) (λb u e=>?_) I.bare
 ·obtain⟨o,es,ep,ho,r⟩:=hm;exact⟨o,es,ep,k _ o (λz=>(hf _ z).2.1 rfl) ho,r⟩
 ·refine(I.hok b u e).j71 (λc v hc q=>k c v ?_ q) (λ_ q=>q) λ_ _ q=>q;rcases hc with z | z
  ·rw[z];exact nch b u e
  ·exact nch c _ z
theorem Inv.X81{T:Ç}{o:HO}(I:Inv X pins σ H s)(f:d21 X pins H T)(h0:X.s₀.heap.objs.size<=T)(hok:HOk X.prog X.w (upd H T o) s.heap):Inv X pins σ (upd H T o) s:=by
 have u:=I.base;refine⟨I.ok,I.os,I.bare,⟨u.keep,u.slot,λb ob e n hx=>?_,u.there,λb xs e=>?_,λb ob xs e=>?_,λb ps e=>?_⟩,I.loc,I.cell,?_,λx c e=>?_,λp hp=>?_,hok,I.len⟩
 ·rw[a50 (Õ (Ô (Þ e) h0))];exact u.free b ob e n hx
 ·have z:=u.tups b xs e;rw[a50 (a80 z f.1)];exact z
 ·have z:=u.frzs b ob xs e;rw[a50 (a80 z f.1)];exact z
 ·obtain⟨more,z⟩:=u.tbls b ps e;exact⟨more,by rw[a50 (a80 z f.1)];exact z⟩
 ·rw[a50 f.2.1.symm];exact I.free
 ·rw[a50 (f.2.2.2.2.1 x c e)];exact I.freeC x c e
 ·obtain⟨e,n,r⟩:=I.pin p hp;exact⟨e,by rw[a50 (f.2.2.2.2.2 p hp)];exact n,r⟩
theorem HOk.m92{P:à}{w:í}{H:Hp}{h:ê}{D:Ç}{ys:List V}{its:List Ä}(x:HOk P w H h)(hn:H D=none)(hv:Vals ys its)(hz:ys.length<=sizeLine)(ho:Ï4 h D its.toArray):HOk P w (upd H D (.tup ys)) h:=λb u e=>by
 by_cases hb:b=D
 ·subst hb;rw[a70] at e;cases e;exact⟨hz,its,hv,ho⟩
 ·rw[a50 hb] at e;exact(x b u e).j71 (λc v _ q=>q) (λc q=>by rw[a50 (a80 q hn)];exact q) λc xs q=>by rw[a50 (a80 q hn)];exact q
end
def SqB:Bool->Â->Hp->Ç->List V->Prop
 |true=>SqL|false=>SqT
def k71:Bool->ê->Ç->Ç->Nat->Prop
 |true=>ê.IsListIter|false=>ê.IsTupleIter
def Y21:Bool->ê->Ç->Array Ä->Prop
 |true=>ê.IsList|false=>Ú8
theorem k71.obj{b:Bool}{h:ê}{it a:Ç}{i:Nat}(st:k71 b h it a i):∃ o,h.get? it=some o/\(∀ v,o.data=.cell v->False)/\∀ h':ê,h'.get? it=some o->k71 b h' it a i:=by
 cases b with
 |true=>obtain⟨o,g,c,d⟩:=st;exact⟨o,g,(λv e=>by rw[d] at e;cases e),λh' k=>⟨o,k,c,d⟩⟩
 |false=>obtain⟨o,g,c,d⟩:=st;exact⟨o,g,(λv e=>by rw[d] at e;cases e),λh' k=>⟨o,k,c,d⟩⟩
theorem Inv.j42(I:Inv X pins σ H s)(h:SqB b X.K H a xs):∃ its:List Ä,Vals xs its/\Y21 b s.heap a its.toArray/\a < s.heap.objs.size/\∀ ys,SqB b X.K H a ys->ys=xs:=by
 cases b with
 |true=>obtain⟨its,r,p,_⟩:=I.list h;exact⟨its,r,p.isList,by obtain⟨o,e,_⟩:=p.isList;exact Þ e,λys h'=>I.d01 h' h⟩
 |false=>obtain⟨its,r,p,_⟩:=I.tuple h;exact⟨its,r,p,by obtain⟨o,e,_⟩:=p;exact Þ e,λys h'=>I.Q50 h' h⟩
section
variable {P:à}{w:í}{A:ó}{E:Ä->Æ->Prop}{s:Æ}{b:Bool}{z TI TO i1 i2 l1 l2:Ç}{k:Nat}{xs ys:Array Ä}{x y p q:Ä}
theorem s11{Q:Option Ä->Æ->Prop}(D:ZipApart z TI TO i1 i2 l1 l2)(hz:Ò8 s.heap z TI TO .none)(hTI:Æ4 s.heap TI (.ref i1) (.ref i2))(hTO:Æ4 s.heap TO p q)(h1:k71 b s.heap i1 l1 k)(h2:k71 b s.heap i2 l2 k)(hl1:Y21 b s.heap l1 xs)(hl2:Y21 b s.heap l2 ys)(hx:xs[k]?=some x)(hy:ys[k]?=some y)
 (hQ:∀ h',Ò8 h' z TI TO (Ã9 s.heap.objs.size)->Æ4 h' TO x y->k71 b h' i1 l1 (k + 1)->k71 b h' i2 l2 (k + 1)->Æ4 h' s.heap.objs.size x y->h'.objs.size=s.heap.objs.size + 1 ->
   (∀ c o,c≠z->c≠TO->c≠i1->c≠i2->s.heap.get? c=some o->h'.get? c=some o)->Q (some (.ref s.heap.objs.size)) { s with heap:=h' }):Ñ (Ø P w) A (Ò1 (.ref z)) Q E s:=match b,h1,h2,hl1,hl2,hQ with
 |true,h1,h2,hl1,hl2,hQ=>wpAny_pyNext_zip_item D hz hTI hTO h1 h2 hl1 hl2 hx hy hQ|false,h1,h2,hl1,hl2,hQ=>r81 D hz hTI hTO h1 h2 hl1 hl2 hx hy hQ
theorem H81{Q:Option Ä->Æ->Prop}(hh:A.handled=none)(D:ZipApart z TI TO i1 i2 l1 l2)(hz:Ò8 s.heap z TI TO .none)(hTI:Æ4 s.heap TI (.ref i1) (.ref i2))(hTO:Æ4 s.heap TO p q)(h1:k71 b s.heap i1 l1 k)(h2:k71 b s.heap i2 l2 k)(hl1:Y21 b s.heap l1 xs)(hl2:Y21 b s.heap l2 ys)
 (hend:xs[k]?=none\/ys[k]?=none) (hQ:∀ h',(∀ c o,c≠z->c≠TO->c≠i1->c≠i2->s.heap.get? c=some o->h'.get? c=some o)->Q none { s with heap:=h' }):Ñ (Ø P w) A (Ò1 (.ref z)) Q E s:=match b,h1,h2,hl1,hl2 with
 |true,h1,h2,hl1,hl2=>wpAny_pyNext_zip_end hh D hz hTI hTO h1 h2 hl1 hl2 hend hQ|false,h1,h2,hl1,hl2=>H71 hh D hz hTI hTO h1 h2 hl1 hl2 hend hQ
theorem s21{Q:Ä->Æ->Prop}(hl1:Y21 b s.heap l1 xs)(hl2:Y21 b s.heap l2 ys)
 (h:∀ h',Ò8 h' (s.heap.objs.size + 4) (s.heap.objs.size + 2) (s.heap.objs.size + 3) .none->Æ4 h' (s.heap.objs.size + 2) (.ref s.heap.objs.size) (.ref (s.heap.objs.size + 1))->Æ4 h' (s.heap.objs.size + 3) .none .none ->
   k71 b h' s.heap.objs.size l1 0->k71 b h' (s.heap.objs.size + 1) l2 0->(∀ c o,s.heap.get? c=some o->h'.get? c=some o)->Q (.ref (s.heap.objs.size + 4)) { s with heap:=h' }):Ñ (Ø P w) A (call (.type "zip") [.ref l1,.ref l2]) Q E s:=match b,hl1,hl2,h with
 |true,hl1,hl2,h=>call_zip_2 hl1 hl2 λh' a1 a2 a3 a4 a5 _ a6=>h h' a1 a2 a3 a4 a5 a6|false,hl1,hl2,h=>r91 hl1 hl2 h
end
def Itz(b:Bool)(K:Â)(a c:Ç):It:=
 ⟨λi H=>∃ xs ys x y,SqB b K H a xs/\SqB b K H c ys/\xs[i]?=some x/\ys[i]?=some y,
  λi H v H'=>∃ T,v=.ref T/\H T=none/\∀ xs ys x y,SqB b K H a xs->SqB b K H c ys->xs[i]?=some x->ys[i]?=some y->H'=upd H T (.tup [x,y]),
  λi H=>∃ xs ys,SqB b K H a xs/\SqB b K H c ys/\(xs.length<=i\/ys.length<=i)⟩
theorem H91{P:à}{w:í}{K:Â}{es:List Ð}{ek:Nat}{ep:Pos}{b:Bool}{a c z TI TO i1 i2:Ç}(D:ZipApart z TI TO i1 i2 a c) :
 Turn P w K (.Tuple es ek ep) (Itz b K a c) [z,TI,TO,i1,i2] z (λi h=>Ò8 h z TI TO .none/\Æ4 h TI (.ref i1) (.ref i2)/\(∃ p q,Æ4 h TO p q)/\k71 b h i1 a i/\k71 b h i2 c i) where
 mem:=by simp
 obj:=λi h st c hc=>by
  obtain⟨hz,hTI,⟨p,q,hTO⟩,h1,h2⟩:=st;obtain⟨o1,h1,d1,_⟩:=h1.obj;obtain⟨o2,h2,d2,_⟩:=h2.obj;simp only[Å2,Ã2,or_false] at hc;rcases hc with rfl | rfl | rfl | rfl | rfl
  ·exact⟨_,hz,λv e=>by cases e⟩
  ·exact⟨_,hTI,λv e=>by cases e⟩
  ·exact⟨_,hTO,λv e=>by cases e⟩
  ·exact⟨_,h1,d1⟩
  ·exact⟨_,h2,d2⟩
 keep:=λi h h' st k=>by
  obtain⟨hz,hTI,⟨p,q,hTO⟩,h1,h2⟩:=st;obtain⟨o1,h1,_,r1⟩:=h1.obj;obtain⟨o2,h2,_,r2⟩:=h2.obj;exact⟨k z (by simp) _ hz,k TI (by simp) _ hTI,⟨p,q,k TO (by simp) _ hTO⟩,r1 _ (k i1 (by simp) _ h1),r2 _ (k i2 (by simp) _ h2)⟩
 item:=by
  intro X hP hw hK hc i pins s σ H E I hf st hg;subst hP hw hK;obtain⟨xs,ys,x,y,hq1,hq2,hx,hy⟩:=hg;obtain⟨v1,rv1,p1,_,z1⟩:=I.j42 hq1;obtain⟨v2,rv2,p2,_,z2⟩:=I.j42 hq2;obtain⟨u1,hu1,ru1⟩:=rv1.get hx;obtain⟨u2,hu2,ru2⟩:=rv2.get hy;obtain⟨hz,hTI,⟨p,q,hTO⟩,h1,h2⟩:=st;refine s11 D hz hTI hTO h1 h2 p1 p2 (x:=u1) (y:=u2) (by simpa using hu1) (by simpa using hu2) λg1 gz gTO g1' g2' gT gs kp=>⟨_,rfl,?_⟩
  refine wpAny_letOwnedTupleGo_zip (s:={ s with heap:=g1 }) gz λg2 gz2 sb=>?_;have hT:H s.heap.objs.size=none:=I.hok.fresh (Î _);have kall:∀ c o,c ∉ [z,TI,TO,i1,i2]->s.heap.get? c=some o->g2.get? c=some o:=λc o hc e=>by
   simp only[Å2,Ã2,or_false,not_or] at hc;exact sb.extBut _ _ hc.1 (kp c o hc.1 hc.2.2.1 hc.2.2.2.1 hc.2.2.2.2 e)
  have I2:Inv X pins σ H { s with heap:=g2 }:=I.s01 (t':=s.toks) hf kall;have fT:d21 X pins H s.heap.objs.size:=I.G01 (Î _) hT;have gT2:g2.get? s.heap.objs.size=some { cls:=.type "tuple",data:=.seq #[u1,u2] }:=sb.extBut _ _ (λe=>Â5 _ (by have:=Þ hz;rw[← e] at this;exact this)) gT
  have I3:Inv X pins σ (upd H s.heap.objs.size (.tup [x,y])) { s with heap:=g2 }:=I2.X81 fT I.sz (I2.hok.m92 hT (its:=[u1,u2]) (.cons ru1 (.cons ru2 .nil)) (by show 2<=sizeLine;rw[Á1];decide) ⟨_,gT2,rfl,_,rfl⟩)
  have TI0:Æ4 g2 TI (.ref i1) (.ref i2):=sb.extBut _ _ D.TIz (kp _ _ D.TIz D.TITO D.TIi1 D.TIi2 hTI);obtain⟨o1,w1,_,r1⟩:=g1'.obj;obtain⟨o2,w2,_,r2⟩:=g2'.obj;refine⟨.ref s.heap.objs.size,_,I3,rfl,⟨_,rfl,hT,λxs' ys' x' y' e1 e2 e3 e4=>?_⟩,⟨gz2,TI0,⟨_,_,sb.extBut _ _ D.TOz gTO⟩,r1 _ (sb.extBut _ _ D.i1z w1),r2 _ (sb.extBut _ _ D.i2z w2)⟩,λc hc=>?_⟩
  ·rw[z1 _ e1] at e3;rw[z2 _ e2] at e4;rw[hx] at e3;rw[hy] at e4;cases e3;cases e4;rfl
  ·rw[a50]
   ·exact(hf c hc).1
   ·intro e;obtain⟨o1,h1,_⟩:=h1.obj;obtain⟨o2,h2,_⟩:=h2.obj;have lt:c < s.heap.objs.size:=by
     simp only[Å2,Ã2,or_false] at hc;rcases hc with rfl | rfl | rfl | rfl | rfl
     ·exact Þ hz
     ·exact Þ hTI
     ·exact Þ hTO
     ·exact Þ h1
     ·exact Þ h2
    rw[e] at lt;exact Â5 _ lt
 done:=by
  intro X hP hw hK hc i pins s σ H E I hf st hg;subst hP hw hK;obtain⟨xs,ys,hq1,hq2,hend⟩:=hg;obtain⟨v1,rv1,p1,_⟩:=I.j42 hq1;obtain⟨v2,rv2,p2,_⟩:=I.j42 hq2;obtain⟨hz,hTI,⟨p,q,hTO⟩,h1,h2⟩:=st;have l1:=rv1.length;have l2:=rv2.length;refine H81 (I.ok.hd hc) D hz hTI hTO h1 h2 p1 p2 (hend.elim (λe=>.inl (by simp;omega)) λe=>.inr (by simp;omega)) λg kp=>⟨rfl,I.s01 (t':=s.toks) hf λc o hcn e=>?_⟩
  simp only[Å2,Ã2,or_false,not_or] at hcn;exact kp c o hcn.1 hcn.2.2.1 hcn.2.2.2.1 hcn.2.2.2.2 e
 self:=λ_ _ _ _ _ st h=>wpAny_pyIter_zip st.1 h
def S12(K:Â)(ta:TA):TI:=λσ H R=>ta σ H λvs H1=>∃ b a c,vs=[.ref a,.ref c]/\(∃ xs,SqB b K H1 a xs)/\(∃ ys,SqB b K H1 c ys)/\R (Itz b K a c) H1
theorem boot_zip:ñ "zip"=some (.type "zip"):=by decide +kernel
theorem n22{X:Cx}{a b:Ð}{es:List Ð}{ek:Nat}{ep:Pos}{ta:TA}{p pos:Pos}(hg:Gl X "zip")(hm:X.mg "zip"=none)(ha:PA X [a,b] ta)(hs:ý [a,b] X.env=[(false,eval a X.env),(false,eval b X.env)]:=by rfl)(hs2:ý [b] X.env=[(false,eval b X.env)]:=by rfl) :
  PI X (.Tuple es ek ep) (.Call (.Name "zip" p) [a,b] [] pos) (S12 X.K ta):=by
 intro pins s σ H R I h;refine Call_ (y60 I hg hm boot_zip (Â4 (thn (ha pos pins s σ H _ I h) λus s1 ⟨vs,H1,I1,r1,q1⟩=>?_) (by rw[hs,hs2]) (by rw[hs2];rfl)))
 obtain⟨b,l1,l2,e,⟨xs,hq1⟩,⟨ys,hq2⟩,q⟩:=q1;subst e;obtain⟨u,w',rfl,r,r'⟩:=vals2 r1;cases r;cases r';obtain⟨v1,rv1,p1,a1,_⟩:=I1.j42 hq1;obtain⟨v2,rv2,p2,a2,_⟩:=I1.j42 hq2;refine s21 p1 p2 λh' hz hTI hTO h1 h2 kp=>wpAny_pyIter_zip (s:={ s1 with heap:=h' }) hz ?_;refine⟨_,[s1.heap.objs.size + 4,s1.heap.objs.size + 2,s1.heap.objs.size + 3,s1.heap.objs.size,s1.heap.objs.size + 1],_,_,H1,rfl,I1.kept (t':=s1.toks) kp,H91 (PyProof.Rows.zipApart_new a1 a2),⟨hz,hTI,⟨_,_,hTO⟩,h1,h2⟩,λc hc=>?_,q⟩;have hc':s1.heap.objs.size<=c:=by
  simp only[Å2,Ã2,or_false] at hc;rcases hc with rfl | rfl | rfl | rfl | rfl
  ·exact Ì5 _ 4
  ·exact Ì5 _ 2
  ·exact Ì5 _ 3
  ·exact Î _
  ·exact Ì5 _ 1
 exact I1.G01 hc' (I1.hok.fresh hc')
theorem I01(hc:X.calm=true):g10 X (.builtin "all") (λxs H Q=>∃ (a:Ç) (bs:List Bool),xs=[.ref a]/\SqL X.K H a (bs.map V.bl)/\Q (.bl (bs.all id)) H):=by
 intro pins s σ H xs us Q I r h;obtain⟨a,bs,rfl,hq,q⟩:=h;obtain⟨u,rfl,rx⟩:=vals1 r;cases rx;obtain⟨its,rv,pl,hz⟩:=I.list hq;have hlt:a < s.heap.objs.size:=by obtain⟨_,e,_⟩:=pl.isList;exact Þ e
 have hlen:its.length=bs.length:=by have:=rv.length;simpa using this.symm
 refine call_all_walk (Í1 pl.isList ⟨_,_,_,_,_,_,λi=>(bs[i]?).getD true,rfl,Ý8 (by exact I.ok.hd hc) s.heap.objs.size a (Õ hlt) its.toArray,⟨⟨_,Ê _ rfl,rfl,rfl⟩,pl.isList.push _⟩,?_,?_⟩)
 ·intro i v s' Q' E' hP hQ;have hP':its[i]?=some v:=by simpa using hP
  have hi:i < bs.length:=by rw[← hlen];exact(Ý.mp hP').1
  obtain⟨v',hv',rv'⟩:=rv.get (i:=i) (x:=.bl bs[i]) (by simp[hi])
  rw[hP'] at hv';cases hv';cases (show v=È9 _ from rv');exact Á8 (by simpa [hi] using hQ)
 ·intro h' tk kp;refine⟨.bl (bs.all id),H,I.kept λb o e=>kp b o (by simpa using Õ (Þ e)) (Ã _ e),?_,q⟩
  show È9 _=È9 _;rw[Ö,hlen,PyProof.Rows.LSm.range_all]
end L2
namespace MySort
open PySem PySem.W PyProof.Rows
def run{α:Type}(cmp:Nat->Nat->Bool):KasT α->α
 |.ret a=>a|.ask i j k=>run cmp (k (cmp i j))
theorem run_bind(cmp:Nat->Nat->Bool)(f:α->KasT β):∀ t:KasT α,run cmp (t.bind f)=run cmp (f (run cmp t))
 |.ret _=>rfl|.ask i j k=>run_bind cmp f (k (cmp i j))
section
variable (O:KeyOrd) (key:Nat->O.α)
def kk(p:Array Nat)(i:Nat):O.α:=key (p.getD i 0)
abbrev l50:Nat->Nat->Bool:=λi j=>O.blt (key i) (key j)
def Up(p:Array Nat)(n:Nat):Prop:=∀ i j,i<=j->j < n->O.kle (kk O key p i) (kk O key p j)
def Dn(p:Array Nat)(n:Nat):Prop:=∀ i j,i<=j->j < n->O.kle (kk O key p j) (kk O key p i)
variable {O key}
theorem u10(h:p[i]?=q[j]?):kk O key p i=kk O key q j:=by
 unfold kk;rw[Î8,Î8,h]
theorem s31(hj:j<=p.size)(k:Nat):kk O key (È2 p i j) k=if i<=k/\k < j then kk O key p (i + j - 1 - k) else kk O key p k:=by
 have e:=getElem?_mirror_all (i:=i) hj k;unfold È2;by_cases h1:i<=k/\k < j
 ·rw[if_pos h1] at e ⊢;exact u10 e
 ·rw[if_neg h1] at e ⊢;exact u10 e
theorem n32(hs:k < p.size)(hd:d<=k)(i:Nat) :
 kk O key (bubble p k d) i=if i=k - d then kk O key p k else if k - d < i/\i<=k then kk O key p (i - 1) else kk O key p i:=by
 have e:=getElem?_bubble hs d hd i;by_cases h1:i=k - d
 ·rw[if_pos h1] at e ⊢;exact u10 e
 ·rw[if_neg h1] at e ⊢;by_cases h2:k - d < i/\i<=k
  ·rw[if_pos h2] at e ⊢;exact u10 e
  ·rw[if_neg h2] at e ⊢;exact u10 e
theorem Up.more(h:Up O key p n)(h1:1<=n)(hl:O.kle (kk O key p (n - 1)) (kk O key p n)):Up O key p (n + 1):=by
 intro i j hij hj;by_cases e:j=n
 ·subst e;by_cases e2:i=j
  ·subst e2;exact Ç2 _
  ·exact Ú7 (h i (j - 1) ∅ ∅) hl
 ·exact h i j hij ∅
theorem Dn.more(h:Dn O key p n)(h1:1<=n)(hl:O.kle (kk O key p n) (kk O key p (n - 1))):Dn O key p (n + 1):=by
 intro i j hij hj;by_cases e:j=n
 ·subst e;by_cases e2:i=j
  ·subst e2;exact Ç2 _
  ·exact Ú7 hl (h i (j - 1) ∅ ∅)
 ·exact h i j hij ∅
theorem s41:∀ (f n:Nat),1<=n->Up O key p n ->
 n<=run (l50 O key) (È3 p f n)/\run (l50 O key) (È3 p f n)<=n + f/\Up O key p (run (l50 O key) (È3 p f n)) /\
   (run (l50 O key) (È3 p f n) < n + f->O.klt (kk O key p (run (l50 O key) (È3 p f n))) (kk O key p (run (l50 O key) (È3 p f n) - 1)))
 |0,n,h1,hu=>⟨Î _,Î _,hu,λh=>absurd h (Â5 _)⟩
 |f + 1,n,h1,hu=>by
  show n<=run _ (if O.blt (kk O key p n) (kk O key p (n - 1))=true then Ó5 n else È3 p f (n + 1))/\run _ (if O.blt (kk O key p n) (kk O key p (n - 1))=true then Ó5 n else È3 p f (n + 1))<=n + (f + 1) /\
   Up O key p (run _ (if O.blt (kk O key p n) (kk O key p (n - 1))=true then Ó5 n else È3 p f (n + 1))) /\
   (run _ (if O.blt (kk O key p n) (kk O key p (n - 1))=true then Ó5 n else È3 p f (n + 1)) < n + (f + 1) ->
    O.klt (kk O key p (run _ (if O.blt (kk O key p n) (kk O key p (n - 1))=true then Ó5 n else È3 p f (n + 1)))) (kk O key p (run _ (if O.blt (kk O key p n) (kk O key p (n - 1))=true then Ó5 n else È3 p f (n + 1)) - 1)))
  cases hb:O.blt (kk O key p n) (kk O key p (n - 1)) with
  |true =>
   simp only[if_true];exact⟨Î _,by show n<=n + (f + 1);omega,hu,λ_=>hb⟩
  |false =>
   simp only[Ã7,if_false];have ih:=s41 f (n + 1) ∅ (hu.more h1 hb)
   refine⟨∅,∅,ih.2.2.1,λh=>ih.2.2.2 ∅⟩
theorem rev_eq(hj:j<=p.size)(he:∀ k,i<=k->k < j->kk O key p k=kk O key p (j - 1))(k:Nat):kk O key (È2 p i j) k=kk O key p k:=by
 rw[s31 hj];split
 ·rw[he _ ∅ ∅,he k ∅ ∅]
 ·rfl
def L10(p:Array Nat)(i j:Nat):(È2 p i j).Perm p:=mirror_perm _ _ _ _
def L20(p:Array Nat)(i j:Nat):(È2 p i j).size=p.size:=mirror_size _ _ _ _
structure DnR(O:KeyOrd)(key:Nat->O.α)(p0 p:Array Nat)(n q:Nat):Prop where
 perm:p.Perm p0
 size:p.size=p0.size
 pos:q + 1<=n
 dn:Dn O key p n
 eq:∀ k,n - (q + 1)<=k->k < n->kk O key p k=kk O key p (n - 1)
theorem DnR.rev(h:DnR O key p0 p n q)(hn:n<=p0.size):DnR O key p0 (È2 p (n - (q + 1)) n) n q:=by
 have hz:=h.size;have e:=rev_eq (O:=O) (key:=key) (i:=n - (q + 1)) (j:=n) (p:=p) ∅ h.eq
 exact⟨(L10 _ _ _).trans h.perm,(L20 _ _ _).trans hz,h.pos,λi j hij hj=>by rw[e,e];exact h.dn i j hij hj,λk h1 h2=>by rw[e,e];exact h.eq k h1 h2⟩
theorem X90:∀ (f:Nat) (p:Array Nat) (n q:Nat),DnR O key p0 p n q->n + f<=p0.size ->
 n<=(run (l50 O key) (Ã5 f p n q)).2.1/\(run (l50 O key) (Ã5 f p n q)).2.1<=n + f /\
   DnR O key p0 (run (l50 O key) (Ã5 f p n q)).1 (run (l50 O key) (Ã5 f p n q)).2.1 (run (l50 O key) (Ã5 f p n q)).2.2
 |0,p,n,q,h,_=>⟨Î _,Î _,h⟩
 |f + 1,p,n,q,h,hn=>by
  have hp:=h.pos;have hz:=h.size;have unf:run (l50 O key) (Ã5 (f + 1) p n q)=run (l50 O key) (if O.blt (kk O key p n) (kk O key p (n - 1))=true then(if q > 0 then Ã5 f (È2 p (n - (q + 1)) n) (n + 1) 0 else Ã5 f p (n + 1) 0)
   else .ask (p.getD (n - 1) 0) (p.getD n 0) λd=>if d=true then .ret (p,n,q) else Ã5 f p (n + 1) (q + 1)):=rfl
  rw[unf];cases hb:O.blt (kk O key p n) (kk O key p (n - 1)) with
  |true =>
   simp only[if_true];have go:∀ p',DnR O key p0 p' n q->(∀ k,kk O key p' k=kk O key p k)->n<=(run (l50 O key) (Ã5 f p' (n + 1) 0)).2.1/\(run (l50 O key) (Ã5 f p' (n + 1) 0)).2.1<=n + (f + 1) /\
     DnR O key p0 (run (l50 O key) (Ã5 f p' (n + 1) 0)).1 (run (l50 O key) (Ã5 f p' (n + 1) 0)).2.1 (run (l50 O key) (Ã5 f p' (n + 1) 0)).2.2:=λp' h' e=>by
    have ih:=X90 f p' (n + 1) 0 ⟨h'.perm,h'.size,∅,h'.dn.more ∅ (by rw[e,e];exact Ð6 hb),λk h1 h2=>by
     have:k=n:=∅
     subst this;rfl⟩ ∅
    exact⟨∅,∅,ih.2.2⟩
   split
   ·exact go _ (h.rev ∅) (rev_eq ∅ h.eq)
   ·exact go _ h λ_=>rfl
  |false =>
   simp only[Ã7,if_false];have unf2:run (l50 O key) (KasT.ask (p.getD (n - 1) 0) (p.getD n 0) λd=>if d=true then .ret (p,n,q) else Ã5 f p (n + 1) (q + 1)) =
    run (l50 O key) (if O.blt (kk O key p (n - 1)) (kk O key p n)=true then .ret (p,n,q) else Ã5 f p (n + 1) (q + 1)):=rfl
   rw[unf2];cases hc:O.blt (kk O key p (n - 1)) (kk O key p n) with
   |true =>
    simp only[if_true];exact⟨Î _,by show n<=n + (f + 1);omega,h⟩
   |false =>
    simp only[Ã7,if_false];have e:kk O key p n=kk O key p (n - 1):=O.total _ _ hb hc;have ih:=X90 f p (n + 1) (q + 1) ⟨h.perm,h.size,∅,h.dn.more ∅ (by rw[e];exact Ç2 _),λk h1 h2=>by
     show _=kk O key p n;by_cases hk:k=n
     ·rw[hk]
     ·rw[e];exact h.eq k ∅ ∅⟩ ∅
    exact⟨∅,∅,ih.2.2⟩
structure D72(O:KeyOrd)(key:Nat->O.α)(p0:Array Nat)(nrem:Nat)(r:Nat × Array Nat):Prop where
 perm:r.2.Perm p0
 size:r.2.size=p0.size
 lo:1<=r.1
 hi:r.1<=nrem
 up:Up O key r.2 r.1
theorem d81(hp:p.Perm p0)(hz:p.size=p0.size)(hd:Dn O key p n)(h1:1<=n)(hn:n<=nrem)(hr:nrem<=p0.size):D72 O key p0 nrem (run (l50 O key) (kas_tail3 n nrem p)):=by
 unfold kas_tail3;rw[run_bind];have hu:Up O key (È2 p 0 n) n:=λi j hij hj=>by
  rw[s31 ∅,s31 ∅,if_pos ∅,if_pos ∅]
  exact hd _ _ ∅ ∅
 have a:=s41 (O:=O) (key:=key) (p:=È2 p 0 n) (nrem - n) n h1 hu;exact⟨(L10 _ _ _).trans hp,(L20 _ _ _).trans hz,by show 1<=run _ (È3 _ _ _);omega,by show run _ (È3 _ _ _)<=_;omega,a.2.2.1⟩
theorem C80(hp:p.Perm p0)(hz:p.size=p0.size)(hd:Dn O key p (n + 1))(hn:n + 1<=nrem)(hr:nrem<=p0.size):D72 O key p0 nrem (run (l50 O key) (Ñ5 n nrem p)):=by
 unfold Ñ5;rw[run_bind];have d:=X90 (O:=O) (key:=key) (p0:=p0) (nrem - (n + 1)) p (n + 1) 0 ⟨hp,hz,∅,hd,λk h1 h2=>by
  have:k=n:=∅
  subst this;rfl⟩ ∅
 obtain⟨d1,d2,d3⟩:=d;have hpos:=d3.pos;split
 ·have d4:=d3.rev ∅
  exact d81 d4.perm d4.size d4.dn ∅ ∅ hr
 ·exact d81 d3.perm d3.size d3.dn ∅ ∅ hr
theorem I11(h1:1<=nrem)(hr:nrem<=p.size):D72 O key p nrem (run (l50 O key) (ß4 nrem p)):=by
 unfold ß4;rw[run_bind];have a:=s41 (O:=O) (key:=key) (p:=p) (nrem - 1) 1 (Î _) (λi j hij hj=>by
  have:i=j:=∅
  subst this;exact Ç2 _)
 generalize run (l50 O key) (È3 p (nrem - 1) 1)=n at a ⊢;obtain⟨a1,a2,a3,a4⟩:=a;split
 ·exact⟨Í0 _,rfl,a1,by show n<=nrem;omega,a3⟩
 ·rename_i hne;have hlt:n < nrem:=by
   have:n≠nrem:=by simpa using hne
   omega
  have hl:=a4 ∅
  split
  ·rename_i h2;have unf:run (l50 O key) (KasT.ask (p.getD 0 0) (p.getD (n - 1) 0) λc=>if c=true then .ret (n,p) else Ñ5 n nrem (È2 p 0 n)) =
    run (l50 O key) (if O.blt (kk O key p 0) (kk O key p (n - 1))=true then .ret (n,p) else Ñ5 n nrem (È2 p 0 n)):=rfl
   rw[unf];cases hb:O.blt (kk O key p 0) (kk O key p (n - 1)) with
   |true =>
    simp only[if_true];exact⟨Í0 _,rfl,a1,by show n<=nrem;omega,a3⟩
   |false =>
    simp only[Ã7,if_false];have e0:kk O key p 0=kk O key p (n - 1):=O.total _ _ hb (a3 0 (n - 1) ∅ ∅)
    have e:∀ k,0<=k->k < n->kk O key p k=kk O key p (n - 1):=λk _ hk=>by
     refine KeyOrd.kle_antisymm (a3 k (n - 1) ∅ ∅) ?_
     rw[← e0];exact a3 0 k ∅ hk
    have er:=rev_eq (O:=O) (key:=key) (i:=0) (j:=n) (p:=p) ∅ e
    refine C80 (L10 _ _ _) (L20 _ _ _) ?_ ∅ hr
    have dn:Dn O key (È2 p 0 n) n:=λi j hij hj=>by
     rw[er,er,e i ∅ ∅,e j ∅ ∅];exact Ç2 _
    refine dn.more a1 ?_;rw[er,er];exact Ð6 hl
  ·have h2:n=1:=∅
   subst h2;refine C80 (Í0 _) rfl ?_ ∅ hr
   have dn:Dn O key p 1:=λi j hij hj=>by
    have:i=j:=∅
    subst this;exact Ç2 _
   exact dn.more (Î _) (Ð6 hl)
theorem L30(hu:Up O key p k):∀ (f l r:Nat),l<=r->r<=k->r - l<=f->(∀ i,i < l->O.kle (kk O key p i) (kk O key p k))->(∀ i,r<=i->i < k->O.klt (kk O key p k) (kk O key p i)) ->
 run (l50 O key) (Ä4 p k f l r)<=k/\(∀ i,i < run (l50 O key) (Ä4 p k f l r)->O.kle (kk O key p i) (kk O key p k))/\(∀ i,run (l50 O key) (Ä4 p k f l r)<=i->i < k->O.klt (kk O key p k) (kk O key p i))
 |0,l,r,h1,h2,h3,h4,h5=>by
  have:l=r:=∅
  subst this;exact⟨h2,h4,h5⟩
 |f + 1,l,r,h1,h2,h3,h4,h5=>by
  have unf:Ä4 p k (f + 1) l r=(if l ≥ r then .ret l else .ask (p.getD k 0) (p.getD ((l + r) / 2) 0) λc=>if c=true then Ä4 p k f l ((l + r) / 2) else Ä4 p k f ((l + r) / 2 + 1) r):=rfl;rw[unf];by_cases hlr:l ≥ r
  ·rw[if_pos hlr];have:l=r:=∅
   subst this;exact⟨h2,h4,h5⟩
  ·rw[if_neg hlr];have unf2:run (l50 O key) (KasT.ask (p.getD k 0) (p.getD ((l + r) / 2) 0) λc=>if c=true then Ä4 p k f l ((l + r) / 2) else Ä4 p k f ((l + r) / 2 + 1) r) =
    run (l50 O key) (if O.blt (kk O key p k) (kk O key p ((l + r) / 2))=true then Ä4 p k f l ((l + r) / 2) else Ä4 p k f ((l + r) / 2 + 1) r):=rfl
   rw[unf2];cases hb:O.blt (kk O key p k) (kk O key p ((l + r) / 2)) with
   |true =>
    simp only[if_true];exact L30 hu f l ((l + r) / 2) ∅ ∅ ∅ h4 λi hi hk=>KeyOrd.klt_of_klt_of_kle hb (hu _ i hi hk)
   |false =>
    simp only[Ã7,if_false];exact L30 hu f ((l + r) / 2 + 1) r ∅ ∅ ∅ (λi hi=>Ú7 (hu i ((l + r) / 2) ∅ ∅) hb) h5
theorem R91:∀ (f:Nat) (p:Array Nat) (k:Nat),p.Perm p0->p.size=p0.size->Up O key p k->k + f<=p0.size ->
 (run (l50 O key) (kas_bin f p k)).Perm p0/\Up O key (run (l50 O key) (kas_bin f p k)) (k + f)
 |0,p,k,hp,_,hu,_=>⟨hp,hu⟩
 |f + 1,p,k,hp,hz,hu,hk=>by
  have unf:kas_bin (f + 1) p k=(Ä4 p k k 0 k).bind λl=>kas_bin f (bubble p k (k - l)) (k + 1):=rfl;rw[unf,run_bind];have pl:=L30 (O:=O) (key:=key) hu k 0 k ∅ ∅ ∅ (λi hi=>absurd hi (Ò2 _)) (λi h1 h2=>absurd h2 ∅)
  generalize run (l50 O key) (Ä4 p k k 0 k)=l at pl ⊢;obtain⟨l1,l2,l3⟩:=pl;have hb:=n32 (O:=O) (key:=key) (p:=p) (k:=k) (d:=k - l) ∅ ∅
  have hu':Up O key (bubble p k (k - l)) (k + 1):=λi j hij hj=>by
   rw[hb,hb];have el:k - (k - l)=l:=∅
   rw[el];by_cases ei:i=l
   ·rw[if_pos ei];by_cases ej:j=l
    ·rw[if_pos ej];exact Ç2 _
    ·rw[if_neg ej,if_pos ∅]
     exact Ð6 (l3 _ ∅ ∅)
   ·rw[if_neg ei];by_cases hi:l < i/\i<=k
    ·rw[if_pos hi,if_neg ∅,if_pos ∅]
     exact hu _ _ ∅ ∅
    ·rw[if_neg hi];by_cases ej:j=l
     ·rw[if_pos ej];exact l2 _ ∅
     ·rw[if_neg ej];by_cases hj':l < j/\j<=k
      ·rw[if_pos hj'];exact hu _ _ ∅ ∅
      ·rw[if_neg hj'];exact hu _ _ hij ∅
  have ih:=R91 (p0:=p0) f (bubble p k (k - l)) (k + 1) ((bubble_perm _ _ _).trans hp) ((bubble_size _ _ _).trans hz) hu' ∅
  exact⟨ih.1,by have:=ih.2;rwa [show k + 1 + f=k + (f + 1) by omega] at this⟩
theorem Y31(h1:1<=n):(run (l50 O key) (Ò4 n)).Perm (ò n).toArray/\Up O key (run (l50 O key) (Ò4 n)) n:=by
 unfold Ò4;rw[run_bind];have c:=I11 (O:=O) (key:=key) (p:=(ò n).toArray) h1 (by simp)
 generalize run (l50 O key) (ß4 n (ò n).toArray)=r at c ⊢;obtain⟨c1,c2,c3,c4,c5⟩:=c;split
 ·have b:=R91 (O:=O) (key:=key) (n - max r.1 1) r.2 (max r.1 1) c1 c2 (by rw[Nat.max_eq_left c3];exact c5) (by simp;omega)
  exact⟨b.1,by have:=b.2;rwa [show max r.1 1 + (n - max r.1 1)=n by omega] at this⟩
 ·have:r.1=n:=∅
  rw[this] at c5;exact⟨c1,c5⟩
end
def n80{α:Type}(n:Nat):KasT α->Prop
 |.ret _=>True|.ask i j k=>(i < n/\j < n)/\∀ b,n80 n (k b)
def S00{α:Type}(G:α->Prop):KasT α->Prop
 |.ret a=>G a|.ask _ _ k=>∀ b,S00 G (k b)
theorem n80.bind{α β:Type}{n:Nat}{f:α->KasT β}{G:α->Prop}(hf:∀ a,G a->n80 n (f a)):∀ {t:KasT α},n80 n t->S00 G t->n80 n (t.bind f)
 |.ret a,_,g=>hf a g|.ask _ _ _,h,g=>⟨h.1,λb=>n80.bind hf (h.2 b) (g b)⟩
theorem S00.bind{α β:Type}{f:α->KasT β}{G:α->Prop}{G':β->Prop}(hf:∀ a,G a->S00 G' (f a)):∀ {t:KasT α},S00 G t->S00 G' (t.bind f)
 |.ret a,g=>hf a g|.ask _ _ _,g=>λb=>S00.bind hf (g b)
def Low(n:Nat)(p:Array Nat):Prop:=∀ i,p.getD i 0 < n
theorem s51(h1:1<=n)(hp:p.Perm q)(hq:∀ x∈q.toList,x < n):Low n p:=λi=>by
 by_cases hi:i < p.size
 ·have e:p.getD i 0=p[i]:=by simp[getD,hi]
  rw[e];exact hq _ (hp.toList.mem_iff.mp (by simp))
 ·have e:p.getD i 0=0:=by simp[getD,hi]
  rw[e];exact h1
structure Good(n:Nat)(q p:Array Nat):Prop where
 low:Low n p
 perm:p.Perm q
def Good.rev(h1:1<=n)(hq:∀ x∈q.toList,x < n)(g:Good n q p)(i j:Nat):Good n q (È2 p i j):=
 have e:=(mirror_perm p i j ((j - i) / 2)).trans g.perm
 ⟨s51 h1 e hq,e⟩
def Good.bub(h1:1<=n)(hq:∀ x∈q.toList,x < n)(g:Good n q p)(i j:Nat):Good n q (bubble p i j):=
 have e:=(bubble_perm p i j).trans g.perm
 ⟨s51 h1 e hq,e⟩
section
variable {n:Nat}{q:Array Nat}
theorem L40(g:Low n p):∀ (f k:Nat),n80 n (È3 p f k)
 |0,_=>trivial|f + 1,k=>⟨⟨g _,g _⟩,λb=>by cases b with | true=>exact trivial | false=>exact L40 g f (k + 1)⟩
theorem u20:∀ (f k:Nat),S00 (λ_=>True) (È3 p f k)
 |0,_=>trivial|f + 1,k=>λb=>by cases b with | true=>exact trivial | false=>exact u20 f (k + 1)
theorem C90(h1:1<=n)(hq:∀ x∈q.toList,x < n):∀ (f:Nat) (p:Array Nat) (k c:Nat),Good n q p->n80 n (Ã5 f p k c)/\S00 (λr=>Good n q r.1) (Ã5 f p k c)
 |0,p,k,c,g=>⟨trivial,g⟩
 |f + 1,p,k,c,g=>by
  have a:=λp' k' c' g'=>(C90 h1 hq f p' k' c' g').1;have r:=λp' k' c' g'=>(C90 h1 hq f p' k' c' g').2;refine⟨⟨⟨g.low _,g.low _⟩,λb=>?_⟩,λb=>?_⟩
  ·cases b with
   |true =>
    show n80 n (if c > 0 then Ã5 f (È2 p (k - (c + 1)) k) (k + 1) 0 else Ã5 f p (k + 1) 0);split
    ·exact a _ _ _ (g.rev h1 hq _ _)
    ·exact a _ _ _ g
   |false=>exact⟨⟨g.low _,g.low _⟩,λd=>by cases d with | true=>exact trivial | false=>exact a _ _ _ g⟩
  ·cases b with
   |true =>
    show S00 _ (if c > 0 then Ã5 f (È2 p (k - (c + 1)) k) (k + 1) 0 else Ã5 f p (k + 1) 0);split
    ·exact r _ _ _ (g.rev h1 hq _ _)
    ·exact r _ _ _ g
   |false=>exact λd=>by cases d with | true=>exact g | false=>exact r _ _ _ g
def q40(h1:1<=n)(hq:∀ x∈q.toList,x < n)(g:Good n q p)(k m:Nat):n80 n (kas_tail3 k m p)/\S00 (λr=>Good n q r.2) (kas_tail3 k m p):=
 have g':=g.rev h1 hq 0 k
 And.intro (n80.bind (f:=λm'=>Ó5 (m',È2 p 0 k)) (λ_ _=>Ê9) (L40 g'.low (m - k) k) (u20 (m - k) k)) (S00.bind (f:=λm'=>Ó5 (m',È2 p 0 k)) (G':=λr=>Good n q r.2) (λ_ _=>g') (u20 (m - k) k))
theorem h80(h1:1<=n)(hq:∀ x∈q.toList,x < n)(g:Good n q p)(k m:Nat):n80 n (Ñ5 k m p)/\S00 (λr=>Good n q r.2) (Ñ5 k m p):=by
 have d:=C90 h1 hq (m - (k + 1)) p (k + 1) 0 g;refine⟨n80.bind (λr gr=>?_) d.1 d.2,S00.bind (λr gr=>?_) d.2⟩
 ·split
  ·exact(q40 h1 hq (gr.rev h1 hq _ _) _ _).1
  ·exact(q40 h1 hq gr _ _).1
 ·split
  ·exact(q40 h1 hq (gr.rev h1 hq _ _) _ _).2
  ·exact(q40 h1 hq gr _ _).2
theorem k81(h1:1<=n)(hq:∀ x∈q.toList,x < n)(g:Good n q p)(m:Nat):n80 n (ß4 m p)/\S00 (λr=>Good n q r.2) (ß4 m p):=by
 refine⟨n80.bind (λk _=>?_) (L40 g.low _ _) (u20 _ _),S00.bind (λk _=>?_) (u20 _ _)⟩
 ·split
  ·exact trivial
  ·split
   ·exact⟨⟨g.low _,g.low _⟩,λb=>by cases b with | true=>exact trivial | false=>exact(h80 h1 hq (g.rev h1 hq _ _) _ _).1⟩
   ·exact(h80 h1 hq g _ _).1
 ·split
  ·exact g
  ·split
   ·exact λb=>by cases b with | true=>exact g | false=>exact(h80 h1 hq (g.rev h1 hq _ _) _ _).2
   ·exact(h80 h1 hq g _ _).2
theorem i60(g:Low n p)(k:Nat):∀ (f l r:Nat),n80 n (Ä4 p k f l r)/\S00 (λ_=>True) (Ä4 p k f l r)
 |0,_,_=>⟨trivial,trivial⟩
 |f + 1,l,r=>by
  have e:Ä4 p k (f + 1) l r=(if l ≥ r then .ret l else .ask (p.getD k 0) (p.getD ((l + r) / 2) 0) λc=>if c=true then Ä4 p k f l ((l + r) / 2) else Ä4 p k f ((l + r) / 2 + 1) r):=rfl;rw[e];split
  ·exact⟨trivial,trivial⟩
  ·refine⟨⟨⟨g _,g _⟩,λb=>?_⟩,λb=>?_⟩
   ·cases b with
    |true=>exact(i60 g k f _ _).1|false=>exact(i60 g k f _ _).1
   ·cases b with
    |true=>exact(i60 g k f _ _).2|false=>exact(i60 g k f _ _).2
theorem d91(h1:1<=n)(hq:∀ x∈q.toList,x < n):∀ (f:Nat) (p:Array Nat) (k:Nat),Good n q p->n80 n (kas_bin f p k)
 |0,_,_,_=>trivial|f + 1,p,k,g=>n80.bind (λl _=>d91 h1 hq f _ _ (g.bub h1 hq _ _)) (i60 g.low k k 0 k).1 (i60 g.low k k 0 k).2
theorem s61(h1:1<=n):n80 n (Ò4 n):=by
 have hq:∀ x∈((ò n).toArray).toList,x < n:=λx hx=>by simpa using hx
 have g:Good n (ò n).toArray (ò n).toArray:=⟨s51 h1 (Í0 _) hq,Í0 _⟩;have c:=k81 h1 hq g n;refine n80.bind (λr gr=>?_) c.1 c.2;split
 ·exact d91 h1 hq _ _ _ gr
 ·exact trivial
end
theorem S10{α:Type}{n:Nat}{cmp:Nat->Nat->Bool}{ask:Nat->Nat->(Bool->Æ->Prop)->Æ->Prop}{s:Æ}(h:∀ i j (C:Bool->Æ->Prop),i < n->j < n->C (cmp i j) s->ask i j C s){Q:α->Æ->Prop} :
 ∀ (t:KasT α),n80 n t->Q (run cmp t) s->t.kasWp ask Q s
 |.ret _,_,q=>q|.ask i j k,a,q=>h i j _ a.1.1 a.1.2 (S10 h (k (cmp i j)) (a.2 _) q)
def h90:List Int->List Int->Bool
 |[],[]=>false|[],_::_=>true|_::_,[]=>false|x::r,y::q=>if x=y then h90 r q else decide (x < y)
theorem s50:∀ a,h90 a a=false
 |[]=>rfl|x::r=>by show(if x=x then h90 r r else _)=_;rw[if_pos rfl];exact s50 r
theorem q50:∀ a b c,h90 a b=true->h90 b c=true->h90 a c=true
 |[],[],_,h,_=>by cases h
 |[],_::_,[],_,h=>by cases h
 |[],_::_,_::_,_,_=>rfl|_::_,[],_,h,_=>by cases h
 |_::_,_::_,[],_,h=>by cases h
 |x::a,y::b,z::c,h1,h2=>by
  have h1:(if x=y then h90 a b else decide (x < y))=true:=h1;have h2:(if y=z then h90 b c else decide (y < z))=true:=h2;show(if x=z then h90 a c else decide (x < z))=true;by_cases e1:x=y
  ·rw[if_pos e1] at h1;by_cases e2:y=z
   ·rw[if_pos e2] at h2;rw[if_pos (e1.trans e2)];exact q50 a b c h1 h2
   ·rw[if_neg e2] at h2;rw[if_neg ∅]
    rw[e1];exact h2
  ·rw[if_neg e1] at h1;have l1:x < y:=by simpa using h1
   by_cases e2:y=z
   ·rw[if_neg ∅];exact decide_eq_true ∅
   ·rw[if_neg e2] at h2;have l2:y < z:=by simpa using h2
    rw[if_neg ∅];exact decide_eq_true ∅
theorem q60:∀ a b,h90 a b=false->h90 b a=false->a=b
 |[],[],_,_=>rfl|[],_::_,h,_=>by cases h
 |_::_,[],_,h=>by cases h
 |x::a,y::b,h1,h2=>by
  have h1:(if x=y then h90 a b else decide (x < y))=false:=h1;have h2:(if y=x then h90 b a else decide (y < x))=false:=h2;by_cases e:x=y
  ·subst e;rw[if_pos rfl] at h1 h2;rw[q60 a b h1 h2]
  ·rw[if_neg e] at h1;rw[if_neg (Á0 e)] at h2;have l1:¬ x < y:=by simpa using h1
   have l2:¬ y < x:=by simpa using h2
   omega
theorem e01(a b c:List Int)(h:h90 a c=true):h90 a b=true\/h90 b c=true:=by
 cases hab:h90 a b with
 |true=>exact .inl rfl
 |false =>
  right;cases hba:h90 b a with
  |true=>exact q50 b a c hba h|false=>rw[← q60 a b hab hba];exact h
def Y41:KeyOrd:=⟨List Int,h90,s50,q50,e01,q60⟩
section
variable {P:à}{w:í}{A:ó}{E:Ä->Æ->Prop}{s:Æ}
def sortedBy(ks:List (List Int))(p:List Nat):Prop:=p.Perm (ò ks.length)/\(p.map λi=>ks.getD i []).Pairwise λx y=>h90 y x=false
def range_getD(d:α):∀ (l:List α),(ò l.length).map (λi=>l.getD i d)=l:=λl=>by
 refine List.ext_getElem (by simp) λi h1 h2=>?_
 simp at h1;simp[h1]
def D82(P:à)(w:í)(A:ó)(s:Æ)(vs:List Ä)(Pr:List Nat->Prop)(kd:Í2):Prop:=∃ p:List Nat,Pr p/\∀ (E:Ä->Æ->Prop) (Q:Unit × Â9->Æ->Prop),(∀ st',failedOf st'=none->arrOf st'=(p.toArray).map (ø (vs.toArray.zip vs.toArray))->Q ((),st') s)->Ñ (Ø P w) A (sortRuns'.run (Ì7 kd (vs.toArray.zip vs.toArray) #[] 7 none)) Q E s
structure j52(P:Program)(w:World)(A:Around)(s:Shared)(vs:List Value)(Pr:List Nat->Prop)(kd:SortKind):Prop where
 len:vs.length<=1000
 few:vs.length < 2->Pr (range vs.length)
 all:∀ p,Pr p->p.length=vs.length
 kind:2<=vs.length->∀ (E:Value->Shared->Prop) (Q:SortKind->Shared->Prop),Q kd s->wpAny (model P w) A (keyKind' vs.toArray) Q E s
 run:2<=vs.length->D82 P w A s vs Pr kd
theorem n42(hl:n=ks.length)(h2:n < 2):sortedBy ks (ò n):=by
 subst hl;refine⟨.refl _,?_⟩;rw[range_getD]
 match ks,h2 with
 |[],_=>exact .nil|[_],_=>simp|_::_::_,q=>simp at q;omega
theorem Y51{vs:List Ä}{ks:List (List Int)}{kd:Í2}(hlen:vs.length=ks.length)(h64:vs.length < 64)(ask:∀ i j,i < vs.length->j < vs.length->∀ (E:Ä->Æ->Prop) (C:Bool->Æ->Prop),C (h90 (ks.getD i []) (ks.getD j [])) s->Ñ (Ø P w) A (keyLt' kd (vs.getD i ä) (vs.getD j ä)) C E s)(h2':2<=vs.length):D82 P w A s vs (sortedBy ks) kd:=by
 have so:=Y31 (O:=Y41) (key:=λi=>ks.getD i []) (n:=vs.length) ∅
 refine⟨(run (l50 Y41 λi=>ks.getD i []) (Ò4 vs.length)).toList,?_,λE Q q=>?_⟩
 ·generalize run (l50 Y41 λi=>ks.getD i []) (Ò4 vs.length)=p at so;refine⟨?_,?_⟩
  ·have:=so.1.toList;rw[hlen] at this;simpa using this
  ·rw[List.pairwise_iff_getElem];intro i j hi hj hij;have hsz:p.size=vs.length:=by have:=so.1.size_eq;simpa using this
   have hi':i < p.size:=by simpa using hi
   have hj':j < p.size:=by simpa using hj
   have u:=so.2 i j (Ç5 hij) ∅
   have g:∀ k,k < p.size->kk Y41 (λi=>ks.getD i []) p k=ks.getD (p.toList.getD k 0) []:=λk hk=>by show ks.getD (p.getD k 0) []=_;rw[Î8,Ü (l:=p.toList),ú]
   have u':h90 (ks.getD (p.toList.getD j 0) []) (ks.getD (p.toList.getD i 0) [])=false:=by
    have:=u;unfold KeyOrd.kle at this;rw[g i hi',g j hj'] at this;exact this
   simpa [hi',hj'] using u'
 ·refine Á9 (kat_run (s:=s) (Q:=λst' s'=>s'=s/\failedOf st'=none/\arrOf st'=(run (l50 Y41 λi=>ks.getD i []) (Ò4 vs.length)).map (ø (vs.toArray.zip vs.toArray)))
   (G:=λp s'=>s'=s/\p=run (l50 Y41 λi=>ks.getD i []) (Ò4 vs.length)) rfl h2' h64 (λp st' s' a1 a2 a3 a4=>⟨a4.1,a3,by rw[a2,a4.2]⟩)
   (S10 (n:=vs.length) (cmp:=l50 Y41 λi=>ks.getD i []) (λi j C hi hj hC=>ask i j hi hj _ C hC) (Ò4 vs.length) (s61 ∅) ⟨rfl,rfl⟩)) ?_ λ_ _ e=>e
  rintro ⟨⟨⟩,st'⟩ s' ⟨hs',hf,har⟩;subst hs';exact q st' hf har
def s71(h h':ê):Prop:=∀ b o,h.get? b=some o->o.cls=.type "tuple"->h'.get? b=some o
theorem e11{a:Ç}{vs:List Ä}{Pr:List Nat->Prop}{kd:Í2}{n:Nat}{R:PySem.Fin->Æ->Prop}(ho:s.heap.get? a=some (Ã4 "list" vs.toArray n))(hk:∀ h',s71 s.heap h'->j52 P w A { s with heap:=h' } vs Pr kd)
 (h:∀ (p:List Nat) (h':ê) (c:Nat),Pr p->(∀ b o,b≠a->s.heap.get? b=some o->h'.get? b=some o)->h'.get? a=some (Ã4 "list" (p.map λi=>vs.getD i ä).toArray c)->R (.done (.ret .none)) { s with heap:=h' }) :
  Ñ (Ø P w) A (ÿ.«list.sort» ⟨[.ref a],[]⟩) R E s:=by
 have ha:a < s.heap.objs.size:=Þ ho;have h64:=(hk s.heap λ_ _ e _=>e).len;have s1:=Æ1 s.heap a (þ λ_=>(#[]:Array Ä));obtain⟨e1,ho1⟩:∃ e1,(s.heap.update a (þ λ_=>(#[]:Array Ä))).get? a=some (Ã4 "list" #[] e1):=⟨_,à4 ho λ_=>#[]⟩;have kp:∀ b o,b≠a->s.heap.get? b=some o->(((s.heap.update a (þ λ_=>(#[]:Array Ä))).push (Ã4 "tuple" vs.toArray 0)).push (Ã4 "list" #[] 0)).get? b=some o:=λb o hb e=>Ã _ (Ã _ ((s1.2 b hb).trans e));have ho6:(((s.heap.update a (þ λ_=>(#[]:Array Ä))).push (Ã4 "tuple" vs.toArray 0)).push (Ã4 "list" #[] 0)).get? a=some (Ã4 "list" #[] e1):=Ã _ (Ã _ ho1);have hk6:=hk (((s.heap.update a (þ λ_=>(#[]:Array Ä))).push (Ã4 "tuple" vs.toArray 0)).push (Ã4 "list" #[] 0)) (λb o e hc=>kp b o (λq=>by subst q;rw[ho] at e;cases e;have hc':Â2 "list"=Â2 "tuple":=hc;injection hc' with hc';exact absurd hc' 1e1) e)
 rw[list_sort_plain];refine À (Ñ4 ho rfl (À (Û9 ho rfl ?_ (by rw[Ö,Á1];omega) (Æ5 _))))
 refine À (seqEpoch_at ho1 rfl (À (wpAny_newTuple ?_ (by show vs.length<=_;rw[Á1];omega))));refine À (Û8 (À6 ?_) (Æ5 _))
 show Ñ (Ø P w) A _ R E { s with heap:=((s.heap.update a (þ λ_=>(#[]:Array Ä))).push (Ã4 "tuple" vs.toArray 0)).push (Ã4 "list" #[] 0) };generalize hH:((s.heap.update a (þ λ_=>(#[]:Array Ä))).push (Ã4 "tuple" vs.toArray 0)).push (Ã4 "list" #[] 0)=h6 at kp ho6 hk6 ⊢;have fin:∀ (p:List Nat) (out:Array Ä),out=(p.map λi=>vs.getD i ä).toArray->Pr p->Ñ (Ø P w) A (do
   let touched:=(← seqEpoch a) != e1
   ÿ.List.listUpdate (.ref a) λ_=>out
   if touched then rule "list.sort.modified";raiseError "ValueError" "list modified during sort"
   ret .none) R E { s with heap:=h6 }:=λp out eo hp=>by
  subst eo;have hsz:(p.map λi=>vs.getD i ä).toArray.size=vs.length:=by rw[Ö,È,(hk s.heap λ_ _ e _=>e).all p hp]
  have s2:=Æ1 h6 a (þ λ_=>(p.map λi=>vs.getD i ä).toArray);refine À (seqEpoch_at ho6 rfl (À (Û9 ho6 rfl ?_ (Æ5 _) (Ó (Û2 hsz) (by rw[Á1];omega)))))
  simp only[bne_self_eq_false,Ã7,if_false];exact Å (h p _ _ hp (λb o hb e=>(s2.2 b hb).trans (kp b o hb e)) (à4 ho6 λ_=>(p.map λi=>vs.getD i ä).toArray))
 dsimp only;by_cases h2:vs.toArray.size < 2
 ·rw[if_pos h2,if_pos h2];refine À (Å ?_);rw[StateT.run_pure];refine À (Å ?_);dsimp only;refine fin (ò vs.length) _ ?_ ((hk s.heap λ_ _ e _=>e).few (by simpa using h2))
  rw[range_getD];apply Û4.mp;rw[Array.toList_map];show List.map _ (vs.toArray.zip vs.toArray).toList=vs;rw[ksk_zip];exact List.map_snd_zip (Î _)
 ·rw[if_neg h2,if_neg h2];have h2':2<=vs.length:=by simpa using h2
  refine À (hk6.kind h2' _ _ ?_);obtain⟨p,hp,hr⟩:=hk6.run h2';refine À (hr _ _ λst' hf har=>?_);dsimp only;rw[hf];exact fin p _ (kat_snds rfl har) hp
end
end MySort
namespace TS
open PySem PySem.W PyProof.Rows
structure Tw where
 a:Array Nat
 pending:Array (Nat × Nat × Nat)
 minGallop:Nat
abbrev TM:=StateT Tw Option
section
variable (n:Nat) (cmp:Nat->Nat->Bool)
def ltT(x y:Nat):TM Bool:=if x < n/\y < n then pure (cmp x y) else λ_=>none
def s81(arr:Array Nat)(i:Nat):TM Nat:=match arr.toList[i]? with
 |some p=>pure p|none=>λ_=>none
def Y61(i j:Nat):TM Bool:=do
 let a:=(← get).a
 ltT n cmp (← s81 a i) (← s81 a j)
def N02(i j:Nat):TM Unit:=modify λs=>{ s with a:=mirror s.a i j ((j - i) / 2) }
def mvL(a:Array Nat)(src dst:Nat):Array Nat:=⟨a.toList.take dst++((a.toList.drop src).take 1++((a.toList.take src).drop dst++a.toList.drop (src + 1)))⟩
theorem n52(h:src < a.size)(h2:dst<=src):mvL a src dst=bubble a src (src - dst):=by
 apply Array.ext_getElem?;intro k;rw[getElem?_bubble h (src - dst) ∅ k,show src - (src - dst)=dst by omega]
 have hl:src < a.toList.length:=h;rw[← ú,← ú,← ú,← ú];show(a.toList.take dst++((a.toList.drop src).take 1++((a.toList.take src).drop dst++a.toList.drop (src + 1))))[k]?=_;generalize a.toList=l at hl;rw[Õ4,Õ4,Õ4,Å5,Å5,Ë6,Ë6,Å5,show min dst l.length=dst by omega,show min 1 (l.length - src)=1 by omega,show min src l.length - dst=src - dst by omega,Ø8,Ø8,Ï8,Ï8,Ï8,Ø8]
 by_cases c1:k < dst
 ·rw[if_pos c1,if_pos c1,if_neg ∅,if_neg ∅]
 ·rw[if_neg c1];by_cases c2:k=dst
  ·rw[if_pos ∅,if_pos ∅,if_pos c2,show src + (k - dst)=src by omega]
  ·rw[if_neg ∅,if_neg c2]
   by_cases c3:k<=src
   ·rw[if_pos ∅,if_pos ∅,if_pos ∅,show dst + (k - dst - 1)=k - 1 by omega]
   ·rw[if_neg ∅,if_neg ∅,show src + 1 + (k - dst - 1 - (src - dst))=k by omega]
def Y71(src dst:Nat):TM Unit:=λt=>if src < t.a.size/\dst<=src then some ((),{ t with a:=mvL t.a src dst }) else none
end
section
variable {prog:à}{w:í}{A:ó}{E:Ä->Æ->Prop}{s:Æ}{κ:Í2}{it:Array Keyed}{n:Nat}{cmp:Nat->Nat->Bool}
def co(κ:Í2)(it:Array Keyed)(t:Tw):SortSt:=Ì7 κ (t.a.map (ø it)) t.pending t.minGallop none
def Sim(prog:à)(w:í)(A:ó)(E:Ä->Æ->Prop)(s:Æ)(κ:Í2)(it:Array Keyed){α β:Type}(rel:β->α)(m:StateT Â9 Sem α)(f:TM β):Prop:=
 ∀ (t:Tw) (b:β) (t':Tw),f t=some (b,t')->∀ Q:α->Â9->Æ->Prop,Q (rel b) (co κ it t') s->kasC (Ø prog w) A E m Q (co κ it t) s
local macro_rules | `(tactic| trivial)=>`(tactic| skip)
section
variable {α β α' β':Type}{r:β->α}{r':β'->α'}
def B20(b:β)(e:a=r b):Sim prog w A E s κ it r (pure a) (pure b):=λt b' t' h Q q=>by
 cases h;subst e;exact kasC_pure q
def m30(h:Sim prog w A E s κ it r m f)(hk:∀ b,Sim prog w A E s κ it r' (k (r b)) (g b)):Sim prog w A E s κ it r' (m >>= k) (f >>= g):=λt b t' e Q q=>by
 have e:(f t).bind (λx=>g x.1 x.2)=some (b,t'):=e;obtain⟨⟨b1,t1⟩,e1,e2⟩:=Í.mp e;exact kasC_bind (h t b1 t1 e1 _ (hk b1 t1 b t' e2 Q q))
def Y00:Sim prog w A E s κ it (co κ it) (get:StateT Â9 Sem Â9) (get:TM Tw):=λt b t' e Q q=>by
 cases e;exact kasC_get q
def q70(h:∀ t,F (co κ it t)=co κ it (G t)):Sim prog w A E s κ it (λu:Unit=>u) (modify F:StateT Â9 Sem Unit) (modify G:TM Unit):=λt b t' e Q q=>by
 cases e;refine kasC_modify ?_;rw[h t];exact q
def I21:Sim prog w A E s κ it (λu:Unit=>u) (liftM (rule x):StateT Â9 Sem Unit) (pure ():TM Unit):=λt b t' e Q q=>by
 cases e;exact kasC_lift (É9 q)
theorem Y81[Decidable c](h1:c->Sim prog w A E s κ it r m f)(h2:¬ c->Sim prog w A E s κ it r m' f'):Sim prog w A E s κ it r (if c then m else m') (if c then f else f'):=by
 split
 ·exact h1 (by assumption)
 ·exact h2 (by assumption)
def A40(r:β->α):ForInStep β->ForInStep α
 |.done b=>.done (r b)|.yield b=>.yield (r b)
theorem e21(h:∀ x b,Sim prog w A E s κ it (A40 r) (body x (r b)) (body' x b)):∀ (l:List Nat) (b:β),Sim prog w A E s κ it r (forIn l (r b) body) (forIn l b body')
 |[],b=>by
  rw[Ø1,Ø1];exact B20 b rfl
 |x::l,b=>by
  rw[Í5,Í5];refine m30 (h x b) λst=>?_;cases st with
  |done b'=>exact B20 b' rfl|yield b'=>exact e21 h l b'
end
def Ora(prog:à)(w:í)(A:ó)(s:Æ)(κ:Í2)(it:Array Keyed)(n:Nat)(cmp:Nat->Nat->Bool):Prop:=∀ i j (C:Bool->Æ->Prop),i < n->j < n->C (cmp i j) s->kas_cmp prog w A κ it i j C s
theorem S01(O:Ora prog w A s κ it n cmp)(x y:Nat):Sim prog w A E s κ it (λo:Bool=>some o) (lt' (ø it x) (ø it y)) (ltT n cmp x y):=λt b t' e Q q=>by
 unfold ltT at e;split at e
 ·rename_i h;cases e;rw[lt'_eq];refine kasC_bind (kasC_get ?_);exact kasC_bind (kasC_lift (Ë5 (Á9 (O x y (λc s'=>s'=s/\c=cmp x y) h.1 h.2 ⟨rfl,rfl⟩) (λc s' hc=>by obtain⟨rfl,rfl⟩:=hc;exact kasC_pure q) λ_ _ hF=>hF.elim)))
 ·cases e
theorem L50(p:Array Nat)(i:Nat):Sim prog w A E s κ it (ø it) (elem' (p.map (ø it)) i) (s81 p i):=by
 rw[elem'_eq];unfold s81;rw[Array.getElem?_map,ú];cases p[i]? with
 |none=>exact λt b t' e=>by cases e
 |some x=>exact B20 x rfl
theorem I31(O:Ora prog w A s κ it n cmp)(i j:Nat):Sim prog w A E s κ it (λo:Bool=>some o) (ltAt' i j) (Y61 n cmp i j):=by
 rw[ltAt'_eq];unfold Y61;refine m30 Y00 λt=>?_;exact m30 (L50 t.a i) λx=>m30 (L50 t.a j) λy=>S01 O x y
theorem Y91(i j:Nat):Sim prog w A E s κ it (λu:Unit=>u) (reverseSlice' i j) (N02 i j):=by
 rw[reverseSlice'_eq];refine q70 λt=>?_;show Ì7 κ (mirror (t.a.map (ø it)) i j ((j - i) / 2)) t.pending t.minGallop none=Ì7 κ ((mirror t.a i j ((j - i) / 2)).map (ø it)) t.pending t.minGallop none;rw[show mirror (t.a.map (ø it)) i j ((j - i) / 2)=(mirror t.a i j ((j - i) / 2)).map (ø it) from kas_swaps_map (ø it) (λk=>i + k) (λk=>j - 1 - k) _ t.a]
theorem I41(k l:Nat):Sim prog w A E s κ it (λu:Unit=>u) (moveDown' k l) (Y71 k l):=λt b t' e Q q=>by
 rw[moveDown'_eq];unfold Y71 at e;split at e
 ·rename_i h;cases e;refine kasC_modify ?_;have e:bubble (t.a.map (ø it)) k (k - l)=(mvL t.a k l).map (ø it):=by
   rw[n52 h.1 h.2];exact kas_swaps_map (ø it) (λi=>k - i) (λi=>k - i - 1) _ t.a
  show Q () (Ì7 κ (bubble (t.a.map (ø it)) k (k - l)) t.pending t.minGallop none) s;rw[e];exact q
 ·cases e
def u30{β:Type}(f:Nat->β->TM (ForInStep β)):Nat->Nat->β->TM β
 |0,_,b=>pure b
 |n + 1,i,b=>f i b >>= λx=>match x with
  |.done b=>pure b|.yield b=>u30 f n (i + 1) b
theorem e31(f:Nat->β->TM (ForInStep β)):∀ (n i:Nat) (b:β),u30 f n i b=forIn (Ä9 i n 1) b f
 |0,_,_=>by rw[List.range'_zero,Ø1];rfl
 |n + 1,i,b=>by
  rw[Ó2,Í5];show(f i b >>= λx=>_)=_
  congr 1
  funext x
  cases x with
  |done b=>rfl|yield b=>exact e31 f n (i + 1) b
theorem L60{α β:Type}{r:β->α}{a b:Nat}{c:β}{body:Nat->α->StateT Â9 Sem (ForInStep α)}{body':Nat->β->TM (ForInStep β)}(h:∀ x b,Sim prog w A E s κ it (A40 r) (body x (r b)) (body' x b)):Sim prog w A E s κ it r (forIn [a:b] (r c) body) (u30 body' (b - a) a c):=by
 rw[Std.Legacy.Range.forIn_eq_forIn_range',e31];have e:[a:b].size=b - a:=by simp[Std.Legacy.Range.size]
 show Sim prog w A E s κ it r (forIn (Ä9 a [a:b].size 1) (r c) body) _;rw[e];exact e21 h _ c
def o20(prog:à)(w:í)(A:ó)(E:Ä->Æ->Prop)(s:Æ)(κ:Í2)(it:Array Keyed){α β:Type}(r:β->α)(m:StateT Â9 Sem α):Type:={f:TM β // Sim prog w A E s κ it r m f}
section
variable {α β α' β':Type}{r:β->α}{r':β'->α'}
def b80{a:α}(b:β)(e:a=r b):o20 prog w A E s κ it r (pure a):=⟨pure b,B20 b e⟩
def b20{m:StateT Â9 Sem α}{k:α->StateT Â9 Sem α'}(h:o20 prog w A E s κ it r m)(hk:∀ b,o20 prog w A E s κ it r' (k (r b))):o20 prog w A E s κ it r' (m >>= k):=⟨h.1 >>= λb=>(hk b).1,m30 h.2 λb=>(hk b).2⟩
def m40{c:Prop}[Decidable c]{m m':StateT Â9 Sem α}(h1:o20 prog w A E s κ it r m)(h2:o20 prog w A E s κ it r m'):o20 prog w A E s κ it r (if c then m else m'):=⟨if c then h1.1 else h2.1,Y81 (λ_=>h1.2) λ_=>h2.2⟩
def r70{m:StateT Â9 Sem α}:o20 prog w A E s κ it r m:=⟨λ_=>none,λ_ _ _ e=>by cases e⟩
def I51{m m':StateT Â9 Sem α}(e:m=m')(h:o20 prog w A E s κ it r m'):o20 prog w A E s κ it r m:=⟨h.1,by rw[e];exact h.2⟩
def r80{a b:Nat}(c:β){body:Nat->α->StateT Â9 Sem (ForInStep α)}(h:∀ x b,o20 prog w A E s κ it (A40 r) (body x (r b))):o20 prog w A E s κ it r (forIn [a:b] (r c) body):=⟨u30 (λx b=>(h x b).1) (b - a) a c,L60 λx b=>(h x b).2⟩
end
def k91(O:Ora prog w A s κ it n cmp)(i j:Nat):o20 prog w A E s κ it (λo:Bool=>some o) (ltAt' i j):=⟨Y61 n cmp i j,I31 O i j⟩
def A12(i j:Nat):o20 prog w A E s κ it (λu:Unit=>u) (reverseSlice' i j):=⟨N02 i j,Y91 i j⟩
def D92(i j:Nat):o20 prog w A E s κ it (λu:Unit=>u) (moveDown' i j):=⟨Y71 i j,I41 i j⟩
def I61(x:String):o20 prog w A E s κ it (λu:Unit=>u) (liftM (rule x):StateT Â9 Sem Unit):=⟨pure (),I21⟩
def S22(O:Ora prog w A s κ it n cmp)(lo n' ok:Nat):o20 prog w A E s κ it (λ_:Unit=>true) (binarySort' lo n' ok):=by
 refine I51 (binarySort'_eq lo n' ok) ?_;refine b20 (r:=λ_:Unit=>((none,()):Option Bool × Unit)) (r80 () λk _=>?_) λ_=>b80 () rfl;refine b20 (r:=λx:Nat × Nat=>((none,x):Option Bool × Nat × Nat)) (r80 (0,k) λ_ x=>?_) λx=>b20 (D92 _ _) λ_=>b80 (â ()) rfl;exact m40 (b80 (è x) rfl) (b20 (k91 O _ _) λo=>m40 (b80 (â (x.1,_)) rfl) (b80 (â (_,x.2)) rfl))
def n62(O:Ora prog w A s κ it n cmp)(lo z:Nat):o20 prog w A E s κ it (λm:Nat=>some m) (countRun' lo z):=by
 refine I51 (countRun'_eq lo z) ?_;refine b20 (r:=λm:Nat=>((none,m):Option (Option Nat) × Nat)) (r80 1 λ_ m=>b20 (k91 O _ _) λ_=>m40 (b80 (è m) rfl) (b80 (â (m + 1)) rfl)) λm=>?_;refine m40 (b80 m rfl) (m40 (b20 (k91 O _ _) λ_=>m40 (b80 m rfl) (b20 (A12 _ _) λ_=>?_)) ?_)
 all_goals
  refine b20 (I61 _) λ_=>b20 (r:=λm:Nat=>((none,m,0):Option (Option Nat) × Nat × Nat)) (r80 (m + 1) λ_ m=>b20 (k91 O _ _) λ_=>m40 (m40 r70 (b80 (â (m + 1)) rfl)) (b20 (k91 O _ _) λ_=>m40 (b80 (è m) rfl) r70)) λm=>?_;exact m40 r70 (b20 (A12 _ _) λ_=>b20 (r:=λm:Nat=>((none,m):Option (Option Nat) × Nat)) (r80 m λ_ m=>b20 (k91 O _ _) λ_=>m40 (b80 (è m) rfl) (b80 (â (m + 1)) rfl)) λm=>b80 m rfl)
def tLt(O:Ora prog w A s κ it n cmp)(x y:Nat):o20 prog w A E s κ it (λo:Bool=>some o) (lt' (ø it x) (ø it y)):=⟨ltT n cmp x y,S01 O x y⟩
def s60(p:Array Nat)(i:Nat):o20 prog w A E s κ it (ø it) (elem' (p.map (ø it)) i):=⟨s81 p i,L50 p i⟩
def s91:Bool->Keyed->Array Keyed->Nat->Nat->Nat->StateT SortSt Sem (Option Nat):=sortPriv% PySem.Builtin.gallop
def Y10(O:Ora prog w A s κ it n cmp)(left:Bool)(y:Nat)(p:Array Nat)(base z hint:Nat):o20 prog w A E s κ it (λm:Nat=>some m) (s91 left (ø it y) (p.map (ø it)) base z hint):=by
 refine b20 (r:=λb:Bool=>some b) (b20 (s60 p (base + hint)) λx=>m40 (tLt O x y) (b20 (tLt O y x) λb=>b80 (!b) rfl)) λb=>?_;refine m40 ?_ ?_ <;> refine b20 (r:=λx:Nat × Nat=>((none,x):Option (Option Nat) × Nat × Nat)) (r80 (0,1) λ_ x=>m40 (b80 (è x) rfl) (b20 (r:=λb:Bool=>some b) (b20 (s60 p _) λx=>m40 (tLt O x y) (b20 (tLt O y x) λb=>b80 (!b) rfl)) λb=>m40 (b80 (è x) rfl) (b80 (â (x.2,2 * x.2 + 1)) rfl))) λx=>?_
 ·exact b20 (r:=λx:Nat × Nat=>((none,x):Option (Option Nat) × Nat × Nat)) (r80 (hint + x.1 + 1,hint + min x.2 (z - hint)) λ_ x=>m40 (b80 (è x) rfl) (b20 (r:=λb:Bool=>some b) (b20 (s60 p _) λx=>m40 (tLt O x y) (b20 (tLt O y x) λb=>b80 (!b) rfl)) λb=>m40 (b80 (â (_,x.2)) rfl) (b80 (â (x.1,_)) rfl))) λx=>b80 x.2 rfl
 ·exact b20 (r:=λx:Nat × Nat=>((none,x):Option (Option Nat) × Nat × Nat)) (r80 (hint + 1 - min x.2 (hint + 1),hint - x.1) λ_ x=>m40 (b80 (è x) rfl) (b20 (r:=λb:Bool=>some b) (b20 (s60 p _) λx=>m40 (tLt O x y) (b20 (tLt O y x) λb=>b80 (!b) rfl)) λb=>m40 (b80 (â (_,x.2)) rfl) (b80 (â (x.1,_)) rfl))) λx=>b80 x.2 rfl
def Y20{α β:Type}{r:β->α}{a b:Nat}{i:α}(b':Nat)(eb:b=b')(c:β)(ec:i=r c){body:Nat->α->StateT Â9 Sem (ForInStep α)}(h:∀ x b,o20 prog w A E s κ it (A40 r) (body x (r b))):o20 prog w A E s κ it r (forIn [a:b] i body):=⟨u30 (λx b=>(h x b).1) (b' - a) a c,by subst eb;subst ec;exact L60 λx b=>(h x b).2⟩
def tIf{α β:Type}{r:β->α}{c:Prop}[Decidable c]{m m':StateT Â9 Sem α}(c':Bool)(e:c↔c'=true)(h1:o20 prog w A E s κ it r m)(h2:o20 prog w A E s κ it r m'):o20 prog w A E s κ it r (if c then m else m'):=⟨match c' with
 |true=>h1.1
 |false=>h2.1,by
 cases c' with
 |true=>rw[if_pos (e.mpr rfl)];exact h1.2
 |false=>rw[if_neg λh=>by cases e.mp h];exact h2.2⟩
def Z01:o20 prog w A E s κ it (co κ it) (get:StateT Â9 Sem Â9):=⟨get,Y00⟩
def E02:Nat->StateT SortSt Sem Unit:=sortPriv% PySem.Builtin.setMinGallop
def n72(g:Nat):o20 prog w A E s κ it (λu:Unit=>u) (E02 g):=⟨modify λt=>{ t with minGallop:=g },q70 λ_=>rfl⟩
def N12(O:Ora prog w A s κ it n cmp)(left:Bool)(y:Nat)(p:Array Nat)(base z z' hint:Nat)(e:z=z'):o20 prog w A E s κ it (λm:Nat=>some m) (s91 left (ø it y) (p.map (ø it)) base z hint):=I51 (by rw[e]) (Y10 O left y p base z' hint)
def I71:Array Keyed->Array Keyed->StateT SortSt Sem (Array Keyed):=sortPriv% PySem.Builtin.mergeLo
def rs{γ:Type}(it:Array Keyed)(x:Option (Array Nat) × Array Nat × γ):Option (Array Keyed) × Array Keyed × γ:=(x.1.map (Array.map (ø it)),x.2.1.map (ø it),x.2.2)
theorem sz(it:Array Keyed)(i:Nat)(p:Array Nat):(i == (p.map (ø it)).size)=true↔(i == p.size)=true:=by rw[size_map]
local macro_rules
 | `(tactic| ac_rfl)=>`(tactic| simp only[rs,A40,map_some,Option.map_none,Û5,Array.map_push,Ò3,size_map])| `(tactic| rwa [$O:term,$p:term,$q:term,$out:term,$ia:term,$ib:term,$mg:term,$ac:term,$bc:term])=>`(tactic| exact b20 (s60 $p $ia) λy=>tIf _ (sz _ _ _) (b80 (è (some (push $out y++Æ6 $q $ib++Æ6 $p ($ia + 1)),push $out y,$ia + 1,$ib,$mg,$ac,$bc)) (by ac_rfl)) (m40 (b80 (è (none,push $out y,$ia + 1,$ib,$mg,$ac,$bc)) (by ac_rfl)) (b80 (â (none,push $out y,$ia + 1,$ib,$mg,$ac,$bc)) (by ac_rfl))))| `(tactic| rwa [$O:term,$p:term,$q:term,$out:term,$ia:term,$ib:term,$mg:term,$ac:term,$bc:term,$_x0:term])=>`(tactic| exact b20 (s60 $q $ib) λy=>tIf _ (sz _ _ _) (b80 (è (some (push $out y++Æ6 $p $ia++Æ6 $q ($ib + 1)),push $out y,$ia,$ib + 1,$mg,$ac,$bc)) (by ac_rfl)) (b20 (s60 $p $ia) λz=>b20 (N12 $O true z $q ($ib + 1) _ (Ø5 $q - ($ib + 1)) 0 (by simp[rs])) λk=>m40 (tIf _ (sz _ _ _) (b80 (è (some (push $out y++Æ6 $q ($ib + 1) ($ib + 1 + k)++Æ6 $p $ia++Æ6 $q ($ib + 1 + k)),push $out y++Æ6 $q ($ib + 1) ($ib + 1 + k),$ia,$ib + 1 + k,$mg,$ac,k)) (by ac_rfl)) ((by rwa [$O:term,$p:term,$q:term,(push $out y++Æ6 $q ($ib + 1) ($ib + 1 + k)),$ia:term,($ib + 1 + k),$mg:term,$ac:term,k]))) ((by rwa [$O:term,$p:term,$q:term,(push $out y),$ia:term,($ib + 1),$mg:term,$ac:term,k]))))| `(tactic| rwa [$O:term,$p:term,$q:term,$out:term,$ia:term,$ib:term,$mg:term,$bc:term,$_x0:term,$_x1:term,$_x2:term])=>`(tactic| exact b20 (n72 $mg) λ_=>b20 (s60 $q $ib) λy=>b20 (N12 $O false y $p $ia _ (Ø5 $p - $ia) 0 (by simp[rs])) λk=>m40 (tIf _ (sz _ _ _) (b80 (è (some ($out++Æ6 $p $ia ($ia + k)++Æ6 $q $ib++Æ6 $p ($ia + k)),$out++Æ6 $p $ia ($ia + k),$ia + k,$ib,$mg,k,$bc)) (by ac_rfl)) (tIf _ (sz _ _ _) (b80 (è (some ($out++Æ6 $p $ia ($ia + k)++Æ6 $p ($ia + k)++Æ6 $q $ib),$out++Æ6 $p $ia ($ia + k),$ia + k,$ib,$mg,k,$bc)) (by ac_rfl)) ((by rwa [$O:term,$p:term,$q:term,($out++Æ6 $p $ia ($ia + k)),($ia + k),$ib:term,$mg:term,k,$bc:term,rfl])))) ((by rwa [$O:term,$p:term,$q:term,$out:term,$ia:term,$ib:term,$mg:term,k,$bc:term,rfl])))
def I81(O:Ora prog w A s κ it n cmp)(p q:Array Nat):o20 prog w A E s κ it (Array.map (ø it)) (I71 (p.map (ø it)) (q.map (ø it))):=by
 refine b20 (I61 _) λ_=>b20 (s60 q 0) λx=>?_;refine tIf _ (sz it _ _) (b80 (#[x]++p.extract 0++q.extract 1) (by simp only[Û5,Ò3,size_map,map_toArray,Æ0,Ö7])) ?_
 refine tIf _ (sz it _ _) (b80 (#[x]++q.extract 1++p.extract 0) (by simp only[Û5,Ò3,size_map,map_toArray,Æ0,Ö7])) ?_
 refine b20 Z01 λt=>?_;refine b20 (r:=rs it) (Y20 (p.size + q.size) (by simp) (none,#[x],0,1,t.minGallop) (by simp[rs];rfl) λ_ st=>?_) λst=>?_
 ·obtain⟨_,out,ia,ib,mg⟩:=st;refine b20 (r:=rs it) (Y20 (p.size + q.size) (by simp) (none,out,ia,ib,0,0) (by simp[rs]) λ_ st=>?_) λst=>?_
  ·obtain⟨_,out,ia,ib,ac,bc⟩:=st;refine b20 (s60 q ib) λy=>b20 (s60 p ia) λz=>b20 (tLt O y z) λo=>m40 (b20 (s60 q ib) λy=>?_) (b20 (s60 p ia) λy=>?_)
   ·exact tIf _ (sz it _ _) (b80 (è (some (out.push y++p.extract ia++q.extract (ib + 1)),out.push y,ia,ib + 1,0,bc + 1)) (by simp[rs,A40])) (m40 (b80 (è (none,out.push y,ia,ib + 1,0,bc + 1)) (by simp[rs,A40])) (b80 (â (none,out.push y,ia,ib + 1,0,bc + 1)) (by simp[rs,A40])))
   ·exact tIf _ (sz it _ _) (b80 (è (some (out.push y++q.extract ib++p.extract (ia + 1)),out.push y,ia + 1,ib,ac + 1,0)) (by simp[rs,A40])) (m40 (b80 (è (none,out.push y,ia + 1,ib,ac + 1,0)) (by simp[rs,A40])) (b80 (â (none,out.push y,ia + 1,ib,ac + 1,0)) (by simp[rs,A40])))
  ·obtain⟨o,out,ia,ib,ac,bc⟩:=st;cases o with
   |some v=>exact b80 (è (some v,out,ia,ib,mg)) rfl
   |none =>
    refine b20 (I61 _) λ_=>?_;refine b20 (r:=rs it) (Y20 (p.size + q.size) (by simp) (none,out,ia,ib,mg + 1,ac,bc) (by simp[rs]) λ_ st=>?_) λst=>?_
    ·obtain⟨_,out,ia,ib,mg,ac,bc⟩:=st;exact m40 ((by rwa [O,p,q,out,ia,ib,(mg - 1),bc,rfl,rfl,rfl])) ((by rwa [O,p,q,out,ia,ib,mg,bc,rfl,rfl,rfl]))
    ·obtain⟨o,out,ia,ib,mg,ac,bc⟩:=st;cases o with
     |some v=>exact b80 (è (some v,out,ia,ib,mg)) rfl|none=>exact b20 (n72 (mg + 1)) λ_=>b80 (â (none,out,ia,ib,mg + 1)) rfl
 ·obtain⟨o,_⟩:=st;cases o with
  |none=>exact r70|some v=>exact b80 v rfl
def S32(t':Tw){S:Â9}(e:S=co κ it t'):o20 prog w A E s κ it (λu:PUnit=>u) (set S:StateT Â9 Sem PUnit):=⟨modify λ_=>t',by subst e;exact q70 (F:=λ_=>co κ it t') λ_=>rfl⟩
def E12{F:Â9->Â9}(G:Tw->Tw)(h:∀ t,F (co κ it t)=co κ it (G t)):o20 prog w A E s κ it (λu:Unit=>u) (modify F:StateT Â9 Sem Unit):=⟨modify G,q70 h⟩
theorem fold_map(f:Nat->Keyed)(d:Nat):∀ (l:List Nat) (j:Nat) (a:Array Nat),((l.map f).zipIdx j).foldl (λa x=>setIfInBounds a (d + x.2) x.1) (a.map f)=((l.zipIdx j).foldl (λa x=>setIfInBounds a (d + x.2) x.1) a).map f
 |[],_,_=>rfl
 |x::l,j,a=>by
  have e:(a.map f).setIfInBounds (d + j) (f x)=(a.setIfInBounds (d + j) x).map f:=by simp
  show((l.map f).zipIdx (j + 1)).foldl _ ((a.map f).setIfInBounds (d + j) (f x))=_;rw[e];exact fold_map f d l (j + 1) _
def spl(a:Array Nat)(d:Nat)(l:List Nat):Array Nat:=⟨a.toList.take d++(l++a.toList.drop (d + l.length))⟩
theorem S11(d:Nat):∀ (l:List Nat) (j:Nat) (a:Array Nat),d + j + l.length<=a.size->(l.zipIdx j).foldl (λa x=>setIfInBounds a (d + x.2) x.1) a=spl a (d + j) l
 |[],j,a,_=>by
  show a=_;unfold spl;rw[Ã1,Nat.add_zero,Í4,List.take_append_drop]
 |x::l,j,a,h=>by
  have hl:d + j + (l.length + 1)<=a.toList.length:=h;show(l.zipIdx (j + 1)).foldl _ (a.setIfInBounds (d + j) x)=_;rw[S11 d l (j + 1) _ (by rw[Array.size_setIfInBounds];have:a.toList.length=a.size:=rfl;omega)]
  unfold spl;rw[Array.toList_setIfInBounds,List.set_eq_take_append_cons_drop,if_pos ∅]
  generalize a.toList=m at hl;have e1:(m.take (d + j)).length=d + j:=by rw[Å5];omega
  have e2:(m.take (d + j)++x::m.drop (d + j + 1)).take (d + (j + 1))=m.take (d + j)++[x]:=by
   rw[List.take_append,e1,show d + (j + 1) - (d + j)=1 by omega,Ë9 (Ó (Û2 e1) ∅)]
   rfl
  have e3:(m.take (d + j)++x::m.drop (d + j + 1)).drop (d + (j + 1) + l.length)=m.drop (d + j + (l.length + 1)):=by
   rw[List.drop_append,e1,show d + (j + 1) + l.length - (d + j)=l.length + 1 by omega,à7 (Ó (Û2 e1) ∅),List.drop_succ_cons,List.drop_drop,Í4,show d + j + 1 + l.length=d + j + (l.length + 1) by omega]
  rw[e2,e3,Ç7];rfl
def E22{F:Â9->Â9}(c:Tw->Bool)(G:Tw->Tw)(h:∀ t,c t=true->F (co κ it t)=co κ it (G t)):o20 prog w A E s κ it (λu:Unit=>u) (modify F:StateT Â9 Sem Unit):=⟨λt=>match c t with
 |true=>some ((),G t)
 |false=>none,λt b t' e Q q=>by
 dsimp only at e;cases hc:c t with
 |false=>rw[hc] at e;cases e
 |true =>
  rw[hc] at e;cases e;refine kasC_modify ?_;rw[h t hc];exact q⟩
def e41(O:Ora prog w A s κ it n cmp)(i:Nat):o20 prog w A E s κ it (λ_:Unit=>true) (mergeAt' i):=by
 refine b20 Z01 λt=>?_;generalize (Ú2 (co κ it t))[i]?=o1;generalize (Ú2 (co κ it t))[i + 1]?=o2;rcases o1 with _ | ⟨sa,na,pw⟩
 ·exact r70
 rcases o2 with _ | ⟨sb,nb,_⟩
 ·exact r70
 refine b20 (S32 { t with pending:=(t.pending.setIfInBounds i (sa,na + nb,pw)).eraseIdxIfInBounds (i + 1) } rfl) λ_=>?_;refine b20 (s60 t.a sb) λy=>b20 (Y10 O false y t.a sa na 0) λk=>?_;refine m40 (b80 () rfl) (b20 (s60 t.a _) λy=>b20 (Y10 O true y t.a sb nb (nb - 1)) λnb=>m40 (b80 () rfl) (m40 (b20 (I51 ?_ (I81 O (t.a.extract (sa + k) sb) (t.a.extract sb (sb + nb)))) λv=>?_) r70))
 ·rw[Ò3,Ò3];rfl
 ·refine b20 (E22 (λu=>ble (sa + k + v.toList.length) u.a.size) (λu=>{ u with a:=spl u.a (sa + k) v.toList }) λu hu=>?_) λ_=>b20 Z01 λ_=>b80 () rfl;have e:=fold_map (ø it) (sa + k) v.toList 0 u.a;rw[← Array.toList_map,S11 (sa + k) v.toList 0 u.a (Nat.le_of_ble_eq_true hu)] at e;exact congrArg (λa=>Ì7 κ a u.pending u.minGallop none) e
structure N22(prog:Program)(w:World)(A:Around)(E:Value->Shared->Prop)(s:Shared)(κ:SortKind)(it:Array Keyed)(z:Nat)(m:StateT SortSt Sem Unit) where
 body:Nat->Nat->TM (ForInStep Nat)
 tail:Nat->TM Unit
 sim:Sim prog w A E s κ it (λu:Unit=>u) m (u30 body z 0 0 >>= tail)
def mkH{α:Type}{r:Nat->α}{i:α}{z:Nat}(e0:i=r 0){B:Nat->α->StateT Â9 Sem (ForInStep α)}{k:α->StateT Â9 Sem Unit}(hb:∀ x lo,o20 prog w A E s κ it (A40 r) (B x (r lo)))(hk:∀ lo,o20 prog w A E s κ it (λu:Unit=>u) (k (r lo))) :
  N22 prog w A E s κ it z (forIn [0:z] i B >>= k) where
 body:=λx lo=>(hb x lo).1
 tail:=λlo=>(hk lo).1
 sim:=by
  subst e0;exact m30 (L60 λx b=>(hb x b).2) λb=>(hk b).2
structure l01(prog:Program)(w:World)(A:Around)(E:Value->Shared->Prop)(s:Shared)(κ:SortKind)(it:Array Keyed)(m:StateT SortSt Sem Unit) where
 body:Tw->Nat->Nat->TM (ForInStep Nat)
 tail:Tw->Nat->TM Unit
 sim:Sim prog w A E s κ it (λu:Unit=>u) m (get >>= λt=>u30 (body t) t.a.size 0 0 >>= tail t)
def mkW{F:Â9->StateT Â9 Sem Unit}(h:∀ t:Tw,N22 prog w A E s κ it t.a.size (F (co κ it t))):l01 prog w A E s κ it (get >>= F) where
 body:=λt=>(h t).body
 tail:=λt=>(h t).tail
 sim:=m30 Y00 λt=>(h t).sim
def l01.cast{m m':StateT Â9 Sem Unit}(e:m=m')(h:l01 prog w A E s κ it m'):l01 prog w A E s κ it m:=⟨h.body,h.tail,by rw[e];exact h.sim⟩
def j90(O:Ora prog w A s κ it n cmp):l01 prog w A E s κ it sortRuns':=by
 refine l01.cast sortRuns'_eq (mkW λt=>?_);generalize hz:Ø5 (arrOf (co κ it t))=z;have hz':t.a.size=z:=Array.size_map.symm.trans hz;clear hz;subst hz';refine mkH (r:=λm:Nat=>((none,m):Option Unit × Nat)) rfl (λ_ lo=>m40 (b80 (è lo) rfl) (b20 (n62 O _ _) λm=>?_)) (λ_=>?_)
 ·refine m40 (b20 (I61 _) λ_=>b20 (S22 O _ _ _) λ_=>m40 r70 (b20 Z01 λu=>?_)) (b20 Z01 λu=>?_)
  all_goals
   generalize Array.back? (Ú2 (co κ it u))=o1;rcases o1 with _ | ⟨s1,n1,_⟩
   ·exact b20 (E12 (λu=>{ u with pending:=u.pending.push (lo,_,0) }) λ_=>rfl) λ_=>b80 (â (lo + _)) rfl
   ·refine b20 (r:=λ_:Unit=>((none,()):Option Unit × Unit)) (r80 () λ_ _=>b20 Z01 λu=>?_) λ_=>b20 (E12 (λu=>{ u with pending:=u.pending.modify (u.pending.size - 1) λx=>(x.1,x.2.1,_) }) λ_=>rfl) λ_=>b20 (E12 (λu=>{ u with pending:=u.pending.push (lo,_,0) }) λ_=>rfl) λ_=>b80 (â (lo + _)) rfl;dsimp only;generalize (if Ø5 (Ú2 (co κ it u)) > 1 then(Ú2 (co κ it u))[Ø5 (Ú2 (co κ it u)) - 2]? else none)=o2;rcases o2 with _ | ⟨_,_,old⟩
    ·exact b80 (è ()) rfl
    ·exact m40 (b80 (è ()) rfl) (b20 (e41 O _) λ_=>m40 r70 (b80 (â ()) rfl))
 ·exact b20 (r:=λ_:Unit=>((none,()):Option Unit × Unit)) (r80 () λ_ _=>b20 Z01 λu=>m40 (b80 (è ()) rfl) (b20 (e41 O _) λ_=>m40 r70 (b80 (â ()) rfl))) λ_=>b80 () rfl
end
def upN:Nat->Nat->Nat->List Nat
 |0,_,h=>[h]|b + 1,v,h=>upN b (2 * v) (h + v)++upN b (2 * v) h
def neN:Nat->Nat->Nat->List Nat
 |0,_,_=>[]|b + 1,v,h=>(h + v)::(neN b (2 * v) (h + v)++neN b (2 * v) h)
def sN(b:Nat):List Nat:=0::neN b 1 0
def D00:Nat->Nat->Nat->List Nat
 |0,_,_=>[]|k + 1,i,m=>if Nat.testBit m 0 then i::D00 k (i + 1) (m / 2) else D00 k (i + 1) (m / 2)
def A22:List Nat->List Nat->Bool
 |[],[]=>false|[],_::_=>true|_::_,[]=>false|a::r,b::q=>if beq a b then A22 r q else Nat.blt a b
def w20(K i j:Nat):Bool:=A22 (D00 K 0 i) (D00 K 0 j)
section
variable {prog:à}{w:í}{A:ó}{E:Ä->Æ->Prop}{s:Æ}{κ:Í2}{it:Array Keyed}
def T0(K:Nat):Tw:=⟨⟨ò (2 ^ K)⟩,#[],7⟩
def TZ(K p:Nat):Tw:=⟨⟨sN K⟩,#[(0,2 ^ K,p)],7⟩
theorem A50{β:Type}{f:Nat->β->TM (ForInStep β)}{n i:Nat}{b b':β}{t t':Tw}{r:Option (β × Tw)}(h:f i b t=some (.yield b',t'))(h2:u30 f n (i + 1) b' t'=r):u30 f (n + 1) i b t=r:=by
 show Option.bind (f i b t) _=r;rw[h];exact h2
def goW{K:Nat}(O:Ora prog w A s κ it (2 ^ K) (w20 K)):TM Unit:=get >>= λt=>u30 ((j90 (E:=E) O).body t) t.a.size 0 0 >>= (j90 (E:=E) O).tail t
theorem two{K n:Nat}{t:Tw}{r:Option (Unit × Tw)}(O:Ora prog w A s κ it (2 ^ K) (w20 K))(h:u30 ((j90 (E:=E) O).body (T0 K)) (2 ^ K) 0 0 (T0 K)=some (n,t))(h2:(j90 (E:=E) O).tail (T0 K) n t=r):goW (E:=E) O (T0 K)=r:=by
 show Option.bind (u30 ((j90 (E:=E) O).body (T0 K)) (ò (2 ^ K)).length 0 0 (T0 K)) _=r;rw[û,h];exact h2
theorem w1(O:Ora prog w A s κ it (2 ^ 1) (w20 1)):goW (E:=E) O (T0 1)=some ((),TZ 1 0):=by kernel_rfl
theorem w2(O:Ora prog w A s κ it (2 ^ 2) (w20 2)):goW (E:=E) O (T0 2)=some ((),TZ 2 0):=by kernel_rfl
theorem w3(O:Ora prog w A s κ it (2 ^ 3) (w20 3)):goW (E:=E) O (T0 3)=some ((),TZ 3 0):=by kernel_rfl
theorem w4(O:Ora prog w A s κ it (2 ^ 4) (w20 4)):goW (E:=E) O (T0 4)=some ((),TZ 4 0):=by kernel_rfl
theorem w5(O:Ora prog w A s κ it (2 ^ 5) (w20 5)):goW (E:=E) O (T0 5)=some ((),TZ 5 0):=by kernel_rfl
theorem w6(O:Ora prog w A s κ it (2 ^ 6) (w20 6)):goW (E:=E) O (T0 6)=some ((),TZ 6 1):=by kernel_rfl
theorem S42(O:Ora prog w A s κ it (2 ^ 7) (w20 7)):(j90 (E:=E) O).body (T0 7) 0 0 (T0 7)=some (.yield 32,⟨⟨sN 5++Ä9 32 96⟩,#[(0,32,0)],7⟩):=by kernel_rfl
theorem S52(O:Ora prog w A s κ it (2 ^ 7) (w20 7)):(j90 (E:=E) O).body (T0 7) 1 32 ⟨⟨sN 5++Ä9 32 96⟩,#[(0,32,0)],7⟩=some (.yield 64,⟨⟨sN 5++(upN 5 1 32++Ä9 64 64)⟩,#[(0,32,2),(32,32,0)],7⟩):=by kernel_rfl
theorem S62(O:Ora prog w A s κ it (2 ^ 7) (w20 7)):(j90 (E:=E) O).body (T0 7) 2 64 ⟨⟨sN 5++(upN 5 1 32++Ä9 64 64)⟩,#[(0,32,2),(32,32,0)],7⟩=some (.yield 96,⟨⟨sN 6++(upN 5 1 64++Ä9 96 32)⟩,#[(0,64,1),(64,32,0)],7⟩):=by kernel_rfl
theorem S72(O:Ora prog w A s κ it (2 ^ 7) (w20 7)):(j90 (E:=E) O).body (T0 7) 3 96 ⟨⟨sN 6++(upN 5 1 64++Ä9 96 32)⟩,#[(0,64,1),(64,32,0)],7⟩=some (.yield 128,⟨⟨sN 6++(upN 5 1 64++upN 5 1 96)⟩,#[(0,64,1),(64,32,2),(96,32,0)],7⟩):=by kernel_rfl
theorem S82(O:Ora prog w A s κ it (2 ^ 7) (w20 7)):u30 ((j90 (E:=E) O).body (T0 7)) 124 4 128 ⟨⟨sN 6++(upN 5 1 64++upN 5 1 96)⟩,#[(0,64,1),(64,32,2),(96,32,0)],7⟩=some (128,⟨⟨sN 6++(upN 5 1 64++upN 5 1 96)⟩,#[(0,64,1),(64,32,2),(96,32,0)],7⟩):=by kernel_rfl
theorem S92(O:Ora prog w A s κ it (2 ^ 7) (w20 7)):(j90 (E:=E) O).tail (T0 7) 128 ⟨⟨sN 6++(upN 5 1 64++upN 5 1 96)⟩,#[(0,64,1),(64,32,2),(96,32,0)],7⟩=some ((),TZ 7 1):=by kernel_rfl
def w7(O:Ora prog w A s κ it (2 ^ 7) (w20 7)):goW (E:=E) O (T0 7)=some ((),TZ 7 1):=two O (A50 (S42 O) (A50 (S52 O) (A50 (S62 O) (A50 (S72 O) (S82 O))))) (S92 O)
theorem T02(O:Ora prog w A s κ it (2 ^ 8) (w20 8)):(j90 (E:=E) O).body (T0 8) 0 0 (T0 8)=some (.yield 32,⟨⟨sN 5++Ä9 32 224⟩,#[(0,32,0)],7⟩):=by kernel_rfl
theorem T12(O:Ora prog w A s κ it (2 ^ 8) (w20 8)):(j90 (E:=E) O).body (T0 8) 1 32 ⟨⟨sN 5++Ä9 32 224⟩,#[(0,32,0)],7⟩=some (.yield 64,⟨⟨sN 5++(upN 5 1 32++Ä9 64 192)⟩,#[(0,32,3),(32,32,0)],7⟩):=by kernel_rfl
theorem T22(O:Ora prog w A s κ it (2 ^ 8) (w20 8)):(j90 (E:=E) O).body (T0 8) 2 64 ⟨⟨sN 5++(upN 5 1 32++Ä9 64 192)⟩,#[(0,32,3),(32,32,0)],7⟩=some (.yield 96,⟨⟨sN 6++(upN 5 1 64++Ä9 96 160)⟩,#[(0,64,2),(64,32,0)],7⟩):=by kernel_rfl
theorem T32(O:Ora prog w A s κ it (2 ^ 8) (w20 8)):(j90 (E:=E) O).body (T0 8) 3 96 ⟨⟨sN 6++(upN 5 1 64++Ä9 96 160)⟩,#[(0,64,2),(64,32,0)],7⟩=some (.yield 128,⟨⟨sN 6++(upN 5 1 64++(upN 5 1 96++Ä9 128 128))⟩,#[(0,64,2),(64,32,3),(96,32,0)],7⟩):=by kernel_rfl
theorem T42(O:Ora prog w A s κ it (2 ^ 8) (w20 8)):(j90 (E:=E) O).body (T0 8) 4 128 ⟨⟨sN 6++(upN 5 1 64++(upN 5 1 96++Ä9 128 128))⟩,#[(0,64,2),(64,32,3),(96,32,0)],7⟩=some (.yield 160,⟨⟨sN 7++(upN 5 1 128++Ä9 160 96)⟩,#[(0,128,1),(128,32,0)],7⟩):=by kernel_rfl
theorem T52(O:Ora prog w A s κ it (2 ^ 8) (w20 8)):(j90 (E:=E) O).body (T0 8) 5 160 ⟨⟨sN 7++(upN 5 1 128++Ä9 160 96)⟩,#[(0,128,1),(128,32,0)],7⟩=some (.yield 192,⟨⟨sN 7++(upN 5 1 128++(upN 5 1 160++Ä9 192 64))⟩,#[(0,128,1),(128,32,3),(160,32,0)],7⟩):=by kernel_rfl
theorem T62(O:Ora prog w A s κ it (2 ^ 8) (w20 8)):(j90 (E:=E) O).body (T0 8) 6 192 ⟨⟨sN 7++(upN 5 1 128++(upN 5 1 160++Ä9 192 64))⟩,#[(0,128,1),(128,32,3),(160,32,0)],7⟩=some (.yield 224,⟨⟨sN 7++(upN 6 1 128++(upN 5 1 192++Ä9 224 32))⟩,#[(0,128,1),(128,64,2),(192,32,0)],7⟩):=by kernel_rfl
theorem T72(O:Ora prog w A s κ it (2 ^ 8) (w20 8)):(j90 (E:=E) O).body (T0 8) 7 224 ⟨⟨sN 7++(upN 6 1 128++(upN 5 1 192++Ä9 224 32))⟩,#[(0,128,1),(128,64,2),(192,32,0)],7⟩=some (.yield 256,⟨⟨sN 7++(upN 6 1 128++(upN 5 1 192++upN 5 1 224))⟩,#[(0,128,1),(128,64,2),(192,32,3),(224,32,0)],7⟩):=by kernel_rfl
theorem T82(O:Ora prog w A s κ it (2 ^ 8) (w20 8)):u30 ((j90 (E:=E) O).body (T0 8)) 248 8 256 ⟨⟨sN 7++(upN 6 1 128++(upN 5 1 192++upN 5 1 224))⟩,#[(0,128,1),(128,64,2),(192,32,3),(224,32,0)],7⟩=some (256,⟨⟨sN 7++(upN 6 1 128++(upN 5 1 192++upN 5 1 224))⟩,#[(0,128,1),(128,64,2),(192,32,3),(224,32,0)],7⟩):=by kernel_rfl
theorem T92(O:Ora prog w A s κ it (2 ^ 8) (w20 8)):(j90 (E:=E) O).tail (T0 8) 256 ⟨⟨sN 7++(upN 6 1 128++(upN 5 1 192++upN 5 1 224))⟩,#[(0,128,1),(128,64,2),(192,32,3),(224,32,0)],7⟩=some ((),TZ 8 1):=by kernel_rfl
def w8(O:Ora prog w A s κ it (2 ^ 8) (w20 8)):goW (E:=E) O (T0 8)=some ((),TZ 8 1):=two O (A50 (T02 O) (A50 (T12 O) (A50 (T22 O) (A50 (T32 O) (A50 (T42 O) (A50 (T52 O) (A50 (T62 O) (A50 (T72 O) (T82 O))))))))) (T92 O)
theorem U02{K:Nat}(h1:1<=K)(h8:K<=8)(O:Ora prog w A s κ it (2 ^ K) (w20 K)):∃ p,goW (E:=E) O (T0 K)=some ((),TZ K p):=by
 match K,h1,h8,O with
 |1,_,_,O=>exact⟨_,w1 O⟩|2,_,_,O=>exact⟨_,w2 O⟩|3,_,_,O=>exact⟨_,w3 O⟩|4,_,_,O=>exact⟨_,w4 O⟩|5,_,_,O=>exact⟨_,w5 O⟩|6,_,_,O=>exact⟨_,w6 O⟩|7,_,_,O=>exact⟨_,w7 O⟩|8,_,_,O=>exact⟨_,w8 O⟩
theorem runL{K:Nat}{vs:List Ä}(h1:1<=K)(h8:K<=8)(hv:vs.length=2 ^ K)(O:Ora prog w A s κ (vs.toArray.zip vs.toArray) (2 ^ K) (w20 K)):MySort.D82 prog w A s vs (λp=>p=sN K) κ:=by
 refine⟨sN K,rfl,λE Q q=>?_⟩;obtain⟨pp,e⟩:=U02 (E:=E) h1 h8 O;have r:=(j90 (E:=E) O).sim (T0 K) () (TZ K pp) e (λu st s'=>s'=s/\failedOf st=none/\arrOf st=((sN K).toArray).map (ø (vs.toArray.zip vs.toArray))) ⟨rfl,rfl,rfl⟩;have est:Ì7 κ (vs.toArray.zip vs.toArray) #[] 7 none=co κ (vs.toArray.zip vs.toArray) (T0 K):=by
  have e:=kas_range (vs.toArray.zip vs.toArray);rw[show(vs.toArray.zip vs.toArray).size=2 ^ K by simp[hv]] at e
  show _=Ì7 κ ((toArray (ò (2 ^ K))).map (ø (vs.toArray.zip vs.toArray))) #[] 7 none;rw[e]
 rw[est];refine Á9 r (λx s' h=>?_) λ_ _ e=>e;obtain⟨rfl,h2,h3⟩:=h;exact q x.2 h2 h3
end
end TS
namespace HT
open PySem PyProof.Rows
section
open PySem.SeqAt
open PySem.AutoSeq1 (wpAny_loadPart')
open PySem.MeetsSeq PySem.MeetsSeq2 PySem.MeetsSeq3
open MySort (h90)
def leB(ns ms:List Int):Bool:=!h90 ms ns
theorem I91(x y:Int)(r q:List Int):leB (x::r) (y::q)=if x=y then leB r q else decide (x<=y):=by
 show(!(if y=x then h90 q r else decide (y < x)))=_;by_cases e:x=y
 ·rw[if_pos e,if_pos e.symm];rfl
 ·rw[if_neg e,if_neg (Á0 e)];by_cases l:y < x
  ·rw[decide_eq_true l,decide_eq_false ∅];rfl
  ·rw[decide_eq_false l,decide_eq_true ∅];rfl
theorem J01(A:ó)(s:Æ)(a:Int)(t:Tok)(c:Int)(u:Tok)(P:à)(w:í)(E:Ä->Æ->Prop)(Q:Ä->Æ->Prop)(h:Q (.bool (decide (a<=c))) s):Ñ (Ø P w) A (richCompare .LtE (.int a t) (.int c u)) Q E s:=
 (PyProof.Rows.le_int h:Ñ (Ø P w) A (À4 .LtE (.int a t) (.int c u)) Q E s)
theorem L70(l b:Ç)(i1 i2:Array Ä)(n n2:Nat)(dd dd2:Option Ç)(sl sl2:Array (Option Ä))(ns ms:List Int)(hi:Ì0 i1.toList ns)(hj:Ì0 i2.toList ms) :
 Meets (ÿ.«tuple.__le__» ⟨[.ref l,.ref b],[]⟩) (λ_ R s=>s.heap.get? l=some { cls:=.type "tuple",dict:=dd,data:=.seq i1 n,slots:=sl }/\s.heap.get? b=some { cls:=.type "tuple",dict:=dd2,data:=.seq i2 n2,slots:=sl2 }/\R (.ok (.ret (.bool (leB ns ms)))) s):=
 .of_wp λP w A R s h=>by
  obtain⟨hp,g,d,tk,os⟩:=s;obtain⟨hl,hb,h⟩:=h;have f2:=Ý2;have z1:i1.size=ns.length:=by rw[← hi.length];simp
  have z2:i2.size=ms.length:=by rw[← hj.length];simp
  wp_walk using Ä8 hl,Ä8 hb,wpAny_forIn_list _ (λrest b s'=>b.1=none/\s'=⟨hp,g,d,tk,os⟩/\∃ (vs ws:List Ä) (ns' ms':List Int),rest=vs.zip ws/\Ì0 vs ns'/\Ì0 ws ms'/\ns'.length + i2.size=ms'.length + i1.size/\R (.ok (.ret (.bool (leB ns' ms')))) ⟨hp,g,d,tk,os⟩) _
  case turn =>
   rintro ⟨y,x⟩ rest b s' ⟨hb',rfl,vs,ws,ns',ms',hz,hvi,hwi,hlen,hR⟩;cases hvi with
   |nil=>rw[Ú5] at hz;cases hz
   |cons a t hvi' =>
    cases hwi with
    |nil=>rw[List.zip_nil_right] at hz;cases hz
    |cons c u hwi' =>
     rw[Ê6] at hz;injection hz with hyx hrest;injection hyx with hy hx;subst hy hx;rw[I91] at hR;simp only[ã] at hlen;obtain⟨e,he,hiff⟩:=H11 A.in1 ⟨hp,g,d,tk,os⟩ a t c u;refine À (he P w _ _ ?_);cases e with
     |true =>
      rw[if_pos (hiff.mp rfl)] at hR;wp_walk;exact⟨rfl,rfl,_,_,_,_,hrest,hvi',hwi',∅,hR⟩
     |false =>
      rw[if_neg (λq=>absurd (hiff.mpr q) Ï)] at hR;have hri:=J01 A.in1 ⟨hp,g,d,tk,os⟩ a t c u P w
      wp_walk using hri
      exact⟨_,rfl,by simpa using hR⟩
  case fin =>
   rintro ⟨b1,b2⟩ s' ⟨hb',rfl,vs,ws,ns',ms',hz,hvi,hwi,hlen,hR⟩;simp only at hb';subst hb';have hv:leB ns' ms'=decide (i1.size<=i2.size):=by
    cases hvi with
    |nil =>
     cases hwi with
     |nil=>simp only[Ã1] at hlen;exact(decide_eq_true ∅).symm|cons c u hw=>simp only[Ã1,ã] at hlen;exact(decide_eq_true ∅).symm
    |cons a t hv =>
     cases hwi with
     |nil=>simp only[Ã1,ã] at hlen;exact(decide_eq_false ∅).symm|cons c u hw=>rw[Ê6] at hz;cases hz
   rw[hv] at hR;wp_walk;exact⟨_,rfl,by simpa [tupleCompareSizes] using hR⟩
  case h=>exact⟨rfl,rfl,i1.toList,i2.toList,ns,ms,rfl,hi,hj,∅,h⟩
end
section
variable {P:à}{w:í}{A:ó}{E:Ä->Æ->Prop}{s:Æ}
theorem l11{l b:Ç}{i1 i2:Array Ä}{ns ms:List Int}{Q:Ä->Æ->Prop}(hl:Ï4 s.heap l i1)(hb:Ï4 s.heap b i2)(hi:Ì0 i1.toList ns)(hj:Ì0 i2.toList ms)
 (hu:A.units < Ä5) (h:Q (.bool (leB ns ms)) s):Ñ (Ø P w) A (À4 .LtE (.ref l) (.ref b)) Q E s:=by
 obtain⟨⟨cls,dd,data,sl⟩,ho,hc,n,hd⟩:=id hl;obtain⟨⟨cls2,dd2,data2,sl2⟩,ho2,hc2,n2,hd2⟩:=id hb;simp only at hc hd hc2 hd2;subst hc hd hc2 hd2;exact richCompare_meets_room (op:=.LtE) ⟨_,ho,rfl⟩ ⟨_,ho2,rfl⟩ PySem.F.slot_tuple_le PySem.F.entry_tuple_le (PySem.F.args_tuple_le_2 _ _) (L70 l b i1 i2 n n2 dd dd2 sl sl2 ns ms hi hj)
  ⟨ho,ho2,show È9 (leB ns ms)≠Õ2/\Q (.bool (leB ns ms)) s from⟨(λx=>nomatch x),h⟩⟩ hu
theorem Z11{t b:Ç}{ws:List Ä}{Q:Ä->Æ->Prop}(ht:Ï4 s.heap t #[])(hb:Ï4 s.heap b ws.toArray)(h:Q (.ref b) s):Ñ (Ø P w) A (Å6 .Add (.ref t) (.ref b)) Q E s:=by
 obtain⟨⟨cls,dd,data,sl⟩,ho,hc,n,hd⟩:=id ht;obtain⟨⟨cls2,dd2,data2,sl2⟩,ho2,hc2,n2,hd2⟩:=id hb;simp only at hc hd hc2 hd2;subst hc hd hc2 hd2;exact concat_meets ⟨_,ho,rfl⟩ ⟨_,ho2,rfl⟩ ß3 seq_tuple_add Ò7 Ñ8 (Ð4 _ _) (tuple_addW0 t b #[] ws.toArray n n2 dd dd2 sl sl2 (by simp)) ⟨ho,ho2,h⟩
theorem S20:seqRepeat? (.type "tuple")=pure (some (.builtin "tuple.__mul__")):=by
 first | kernel_rfl | rfl | (unfold seqRepeat?;kernel_rfl)
theorem A60:fillsNumberSlot (.type "tuple") "mul"=pure false:=by
 first | kernel_rfl | rfl
def l21(a:Int)(t:Tok)(l:Ç)(xs:Array Ä)(n:Nat)(dd:Option Ç)(sl:Array (Option Ä)) :
 Meets (ÿ.«int.__rmul__» ⟨[.int a t,.ref l],[]⟩) (λ_ R s=>s.heap.get? l=some { cls:=.type "tuple",dict:=dd,data:=.seq xs n,slots:=sl }/\R (.ok (.ret Õ2)) s):=
 .of_wp λP w A R s h=>by obtain⟨hp,g,d,tk,os⟩:=s;obtain⟨hl,h⟩:=h;wp_walk;exact⟨_,rfl,h⟩
theorem J11(l:Ç)(xs:Array Ä)(k:Int)(u:Tok)(n:Nat)(dd:Option Ç)(sl:Array (Option Ä))(h1:¬ (decide (k < -(2 ^ 63)) || decide (k ≥ 2 ^ 63))=true)(h2:(xs.isEmpty || k == 1)=true) :
  Meets (ÿ.«tuple.__mul__» ⟨[.ref l,.int k u],[]⟩) (λ_ R s=>s.heap.get? l=some { cls:=.type "tuple",dict:=dd,data:=.seq xs n,slots:=sl }/\R (.ok (.ret (.ref l))) s):=
 .of_wp λP w A R s h=>by
  obtain⟨hp,g,d,tk,os⟩:=s;obtain⟨hl,h⟩:=h;have f1:=Ù1
  wp_walk using Ä1 hl
  simp only[h1,if_false]
  wp_walk using Ä1 hl
  exact⟨_,rfl,h⟩
theorem mul_zero(l:Ç)(xs:Array Ä)(k:Int)(u:Tok)(n:Nat)(dd:Option Ç)(sl:Array (Option Ä))(h1:¬ (decide (k < -(2 ^ 63)) || decide (k ≥ 2 ^ 63))=true)(h2:¬ (xs.isEmpty || k == 1)=true)(h3:(decide (k<=0) || xs.isEmpty)=true) :
 Meets (ÿ.«tuple.__mul__» ⟨[.ref l,.int k u],[]⟩) (λ_ R s=>s.heap.get? l=some { cls:=.type "tuple",dict:=dd,data:=.seq xs n,slots:=sl }/\R (.ok (.ret (.ref s.heap.objs.size))) { s with heap:=s.heap.push { cls:=.type "tuple",data:=.seq #[] } }):=
 .of_wp λP w A R s h=>by
  obtain⟨hp,g,d,tk,os⟩:=s;obtain⟨hl,h⟩:=h;have f1:=Ù1
  wp_walk using Ä1 hl
  simp only[h1,if_false]
  wp_walk using Ä1 hl
  exact⟨_,rfl,h⟩
theorem J21(l:Ç)(xs:Array Ä)(k:Int)(u:Tok)(n:Nat)(dd:Option Ç)(sl:Array (Option Ä))(h1:¬ (decide (k < -(2 ^ 63)) || decide (k ≥ 2 ^ 63))=true)(h2:¬ (xs.isEmpty || k == 1)=true)(h3:¬ (decide (k<=0) || xs.isEmpty)=true)
 (h4:¬ (xs.size:Int) * k > (2 ^ 63 - 1) / 8) (h5:¬ tupleTooMany ((xs.size:Int) * k)=true) (h6:(foldl (λx y=>x++y) #[] (ð k.toNat xs)).size<=sizeLine) :
 Meets (ÿ.«tuple.__mul__» ⟨[.ref l,.int k u],[]⟩) (λ_ R s=>s.heap.get? l=some { cls:=.type "tuple",dict:=dd,data:=.seq xs n,slots:=sl }/\R (.ok (.ret (.ref s.heap.objs.size))) { s with heap:=s.heap.push { cls:=.type "tuple",data:=.seq (foldl (λx y=>x++y) #[] (ð k.toNat xs)) } }):=
 .of_wp λP w A R s h=>by
  obtain⟨hp,g,d,tk,os⟩:=s;obtain⟨hl,h⟩:=h;have f1:=Ù1
  wp_walk using Ä1 hl
  simp only[h1,if_false]
  wp_walk using Ä1 hl
  simp only[h4,h5,if_false];refine À (m:=Æ7 _) (é (Å ?_) h6);exact⟨_,rfl,h⟩
end
theorem u40(f:α->Option β)(g:α->β):∀ (l:List α),(∀ k∈l,f k=some (g k))->l.filterMap f=l.map g
 |[],_=>rfl|x::r,h=>by rw[Á4,h x Ì,Æ0,u40 f g r λk hk=>h k (Ë _ hk)]
section
variable {P:à}{w:í}{A:ó}{E:Ä->Æ->Prop}{s:Æ}
theorem s70{t sl:Ç}{xs:Array Ä}{vl vu:Ä}{lo hi:Option Int}{Q:Ä->Æ->Prop}(ht:Ï4 s.heap t xs)(hs:s.heap.IsSliceOf sl vl vu .none)(pl:Ú1 vl lo)(pu:Ú1 vu hi)
 (hw:sIx xs.size 0 lo=0/\sIx xs.size xs.size hi=xs.size) (h:Q (.ref t) s):Ñ (Ø P w) A (Ô0 (.ref t) (.ref sl)) Q E s:=by
 obtain⟨os,hos,hcs,hds⟩:=id hs;have hTs:s.TypeIs (.ref sl) "slice":=⟨os,hos,hcs⟩;unfold Ô0;try with_reducible refine À6 ?_
 first | refine À (Å ?_) | skip
 refine À (Ý3 ht.typeIs 1e1 ?_);refine À (À3 (name:=À8 "__getitem__") ht.typeIs ö (À2 ö ht.typeIs entry_tuple_getitem ?_ (Ü5 _ _)))
 show Ñ _ _ (tupleItemsOf (.ref t) >>= _) _ _ s;refine À (tupleItemsOf_ ht (À (È1 hTs ?_)));rw[if_pos 1e1];refine À (n30 hs pl pu ?_)
 rw[hw.1,hw.2];show Ñ _ _ (if (((0:Nat):Int) == 0&&(1:Int) == 1&&(xs.size - 0) == xs.size)=true then _ else _) _ _ s;rw[if_pos (by simp)]
 refine À (m:=tupleIsExact _) ?_;unfold tupleIsExact;refine À (È1 ht.typeIs (Å ?_));rw[if_pos 1e1]
 first
  |exact À (É9 (Å ⟨_,rfl,Å h⟩))
  |exact À (É9 (À (Å (Å ⟨_,rfl,Å h⟩))))
theorem w80{t sl:Ç}{xs:List Ä}{u:Tok}{Q:Ä->Æ->Prop}(ht:Ï4 s.heap t xs.toArray)(hs:s.heap.IsSliceOf sl .none .none (.int (-1) u))
 (h:Q (.ref s.heap.objs.size) { s with heap:=s.heap.push { cls:=.type "tuple",data:=.seq xs.reverse.toArray } }) (hz:xs.length<=sizeLine):Ñ (Ø P w) A (Ô0 (.ref t) (.ref sl)) Q E s:=by
 obtain⟨os,hos,hcs,hds⟩:=id hs;have hTs:s.TypeIs (.ref sl) "slice":=⟨os,hos,hcs⟩;unfold Ô0;try with_reducible refine À6 ?_
 first | refine À (Å ?_) | skip
 refine À (Ý3 ht.typeIs 1e1 ?_);refine À (À3 (name:=À8 "__getitem__") ht.typeIs ö (À2 ö ht.typeIs entry_tuple_getitem ?_ (Ü5 _ _)))
 show Ñ _ _ (tupleItemsOf (.ref t) >>= _) _ _ s;refine À (tupleItemsOf_ ht (À (È1 hTs ?_)));rw[if_pos 1e1]
 have app:∀ {R:Int × Int × Nat->Æ->Prop},R ((xs.length:Int) - 1,-1,xs.length) s->Ñ (Ø P w) A.in1 (Ô6 (.ref sl) (pure (xs.toArray.size:Int))) R E s:=λ{R} q=>by
  unfold Ô6 sliceFields;refine À (À (Á6 hos hds (x:=.none) rfl (À (Á6 hos hds (x:=.none) rfl (À (Á6 hos hds (x:=.int (-1) u) rfl (Å ?_)))))));refine À (slicePart_int ?_);show Ñ _ _ (if ((-1:Int) == 0)=true then _ else _) _ _ s;rw[if_neg 1e1]
  refine À (Ù5 (À (Ù5 (À (Å ?_)))));have e1:Í7 none none (-1) (xs.toArray.size:Int)=((xs.length:Int) - 1,-1):=by simp[Í7]
  have e2:É2 ((xs.length:Int) - 1) (-1) (-1)=xs.length:=by
   unfold É2;rw[if_neg 1e1]
   split
   ·simp only[Int.neg_neg,Int.ediv_one];omega
   ·omega
  show Ñ _ _ (match Í7 none none (-1) (xs.toArray.size:Int) with | (lo,hi)=>pure (lo,(-1:Int),É2 lo hi (-1))) _ _ s
  rw[e1];show Ñ _ _ (pure ((xs.length:Int) - 1,(-1:Int),É2 ((xs.length:Int) - 1) (-1) (-1))) _ _ s;rw[e2];exact Å q
 refine À (app ?_);show Ñ _ _ (if (((xs.length:Int) - 1) == 0&&(-1:Int) == 1&&xs.length == xs.toArray.size)=true then _ else _) _ _ s;rw[if_neg (by simp)]
 have pick:((ò xs.length).filterMap λ(k:Nat)=>xs.toArray[((xs.length:Int) - 1 + (k:Int) * -1).toNat]?)=xs.reverse:=by
  refine List.ext_getElem? λi=>?_;have hall:∀ k∈ò xs.length,xs.toArray[((xs.length:Int) - 1 + (k:Int) * -1).toNat]?=some (xs.getD (xs.length - 1 - k) ä):=λk hk=>by
   have hk':k < xs.length:=by simpa using hk
   have e:((xs.length:Int) - 1 + (k:Int) * -1).toNat=xs.length - 1 - k:=∅
   rw[e];have:xs.length - 1 - k < xs.length:=∅
   simp[this]
  rw[u40 _ _ _ hall,Û];by_cases hi:i < xs.length
  ·have h2:xs.length - 1 - i < xs.length:=∅
   rw[Î7 hi,List.getElem?_reverse hi];simp[h2]
  ·rw[á3 (by simpa using hi),á3 (by simpa using hi)];rfl
 rw[pick];have hsz:sizeOk (.seq xs.reverse.toArray):=by show xs.reverse.toArray.size<=sizeLine;rw[Ö,Ñ0];exact hz
 first
  |exact À (m:=Æ7 _) (é (Å ⟨_,rfl,Å h⟩) hsz)
  |exact À (m:=Æ7 _) (é (À (Å (Å ⟨_,rfl,Å h⟩))) hsz)
  |exact À (À (m:=Æ7 _) (é (Å (Å ⟨_,rfl,Å h⟩)) hsz))
  |exact À (À (m:=Æ7 _) (é (Å ⟨_,rfl,Å h⟩) hsz))
end
end HT
namespace L2
open PySem PySem.Spec PyProof.Rows
theorem a20.sqT{K:Â}{H H':Hp}{a:Ç}{xs:List V}(e:a20 H H')(h:SqT K H a xs):SqT K H' a xs:=by
 rcases h with (h | ⟨o,h⟩) | h
 ·exact .inl (.inl (e _ _ h))
 ·exact .inl (.inr ⟨o,e _ _ h⟩)
 ·exact .inr h
def a20.new(o:HO)(n:H p=none):a20 H (upd H p o):=λb u e=>by rw[a50 (a80 e n)];exact e
def J31(K:Â)(H:Hp)(zs:List V)(Q:VK):Prop:=∀ p H',a20 H H'->SqT K H' p zs->Q (.ref p) H'
section
variable {X:Cx}{pins:List (Ç × Obj)}{σ:St}{H:Hp}{s:Æ}
def J31.here(q:J31 X.K H zs Q)(I:Inv X pins σ H s)(h:SqT X.K H a zs):EP X pins σ Q (.ref a) s:=⟨.ref a,H,I,rfl,q a H (a20.refl H) h⟩
theorem J31.new(q:J31 X.K H zs Q)(I:Inv X pins σ H s)(r:Vals zs us)(hz:zs.length<=sizeLine) :
 EP X pins σ Q (.ref s.heap.objs.size) { s with heap:=s.heap.push { cls:=.type "tuple",data:=.seq us.toArray } }:=
 have hn:H s.heap.objs.size=none:=I.hok.fresh (Î _)
 ⟨.ref s.heap.objs.size,_,I.laid (t':=s.toks) (o:=.tup zs) (λb ob q=>Ã _ q) (Î _) ⟨hz,_,r,Ï4.new _ _⟩,rfl,q _ _ (a20.new _ hn) (SqT.of a70)⟩
end
section
variable {X:Cx}
def U12(K:Â):R2:=λx y H Q=>∃ a b ns ms,x=.ref a/\y=.ref b/\SqT K H a (ns.map V.int)/\SqT K H b (ms.map V.int)/\Q (.bl (HT.leB ns ms)) H
theorem n82(hu:X.A.units < Ä5):OpR X (À4 .LtE) (U12 X.K):=by
 intro pins s σ H x y v u Q I rx ry h;obtain⟨a,b,ns,ms,rfl,rfl,ha,hb,q⟩:=h;cases rx;cases ry;obtain⟨v1,r1,p1,_⟩:=I.tuple ha;obtain⟨v2,r2,p2,_⟩:=I.tuple hb;exact HT.l11 p1 p2 (show Ì0 v1.toArray.toList ns from intsAre_of r1) (show Ì0 v2.toArray.toList ms from intsAre_of r2) hu ⟨.bl (HT.leB ns ms),H,I,rfl,q⟩
def E32(K:Â):R2:=λx y H Q=>∃ a b xs ys,x=.ref a/\y=.ref b/\SqT K H a xs/\SqT K H b ys/\xs.length + ys.length<=sizeLine/\J31 K H (xs++ys) Q
theorem Z21:OpR X (Å6 .Add) (E32 X.K):=by
 intro pins s σ H x y v u Q I rx ry h;obtain⟨a,b,xs,ys,rfl,rfl,ha,hb,hz,q⟩:=h;cases rx;cases ry;obtain⟨v1,r1,p1,_⟩:=I.tuple ha;obtain⟨v2,r2,p2,_⟩:=I.tuple hb;by_cases hx:xs=[]
 ·subst hx;have e:=r1.K30.mpr rfl;subst e;exact HT.Z11 p1 p2 (q.here I hb)
 ·refine HT.W91 p1 p2 (λz=>hx (r1.K30.mp z)) (λz=>?_) (λz=>q.new I (r1.append r2) (by rw[ù];exact hz)) (by rw[← r1.length,← r2.length];exact hz)
  have e:=r2.K30.mp z;subst e;rw[Ç6] at q;exact q.here I ha
def E42(K:Â):R2:=λx y H Q=>∃ a k xs,x=.ref a/\y=.int k/\SqT K H a xs/\0<=k/\k < 1000000/\k.toNat * xs.length<=sizeLine/\J31 K H (ð k.toNat xs).flatten Q
theorem Z31:OpR X (Å6 .Mult) (E42 X.K):=by
 intro pins s σ H x y v u Q I rx ry h;obtain⟨a,k,xs,rfl,rfl,ha,hk,hk2,hz,q⟩:=h;cases rx;obtain⟨t,rfl⟩:=ry;obtain⟨v1,r1,p1,_⟩:=I.tuple ha;have hl:=r1.length;obtain⟨⟨cls,dd,data,sl⟩,ho,hc,n,hd⟩:=id p1;simp only at hc hd;subst hc hd;have h1:¬ (decide (k < -(2 ^ 63)) || decide (k ≥ 2 ^ 63))=true:=by simp;omega
 refine wpAny_binaryOp_repeat_ref (T:="tuple") (U:="int") 1e1 ⟨_,ho,rfl⟩ (λs'=>Ü2 s' k t) HT.A60 F.fills_int_mul Õ7 HT.S20 F.slot_int_index.lookup
  (Ê0 Õ7 (Ü2 s k t) F.entry_int_rmul (F.args_int_rmul_2 _ _) (HT.l21 k t a v1.toArray n dd sl) ⟨ho,rfl,⟨_,ho,rfl⟩,?_⟩)
 by_cases hx:v1=[]\/k=1
 ·refine Ê0 Þ2 ⟨_,ho,rfl⟩ Ü9 (Û3 _ _) (HT.J11 a v1.toArray k t n dd sl h1 (by rcases hx with hx | hx <;> simp[hx])) ⟨ho,?_⟩
  have e2:(ð k.toNat xs).flatten=xs:=by
   rcases hx with hx | hx
   ·rw[r1.K30.mp hx];simp
   ·rw[hx];simp
  rw[e2] at q;exact q.here I ha
 ·have hv:v1≠[]:=λz=>hx (.inl z);have h2:¬ (v1.toArray.isEmpty || k == 1)=true:=by simp[hv];exact λz=>hx (.inr z)
  by_cases hk0:k=0
  ·refine Ê0 Þ2 ⟨_,ho,rfl⟩ Ü9 (Û3 _ _) (HT.mul_zero a v1.toArray k t n dd sl h1 h2 (by simp[hk0])) ⟨ho,?_⟩
   rw[show(ð k.toNat xs).flatten=[] by rw[hk0];rfl] at q
   exact q.new I .nil (Æ5 _)
  have hpos:0 < v1.length:=List.length_pos_iff.mpr hv;have hfl:foldl (λx y=>x++y) #[] (ð k.toNat v1.toArray)=(ð k.toNat v1).flatten.toArray:=by
   have:=foldl_rep v1 k.toNat [];rw[Í4] at this;exact this
  have hsz:v1.length * k.toNat<=sizeLine:=by rw[← hl,Û1];exact hz
  have hcast:((v1.toArray.size:Nat):Int) * k=((v1.length * k.toNat:Nat):Int):=by rw[Ö,Int.natCast_mul,Int.toNat_of_nonneg ∅]
  have hline:(sizeLine:Nat)<=(2 ^ 63 - 1) / 8:=1e1
  refine Ê0 Þ2 ⟨_,ho,rfl⟩ Ü9 (Û3 _ _) (HT.J21 a v1.toArray k t n dd sl h1 h2 (by simp[hv];omega) (by rw[hcast];generalize v1.length * k.toNat=m at hsz;omega) (by rw[hcast];generalize v1.length * k.toNat=m at hsz;unfold tupleTooMany;intro z;have z':=of_decide_eq_true z;omega)
   (by rw[hfl,Ö,len_rep,Û1];exact hsz)) ⟨ho,?_⟩
  rw[hfl];exact q.new I (r1.rep k.toNat) (by rw[len_rep];exact hz)
def U22(K:Â):V->Option Int->Option Int->Hp->VK->Prop:=λx lo hi H Q=>∃ a xs,x=.ref a/\SqT K H a xs/\J31 K H (H41 xs lo hi) Q
theorem Z41:SlR X (U22 X.K):=by
 intro pins s σ H x v vl vu lo hi sl Q I rx hs pl pu h;obtain⟨a,xs,rfl,hx,q⟩:=h;cases rx;obtain⟨its,r,ht,hz⟩:=I.tuple hx;have hlen:its.toArray.size=xs.length:=by rw[Ö];exact r.length.symm
 refine⟨"tuple",_,ö.lookup,ht.typeIs,?_⟩;by_cases hw:HT.sIx xs.length 0 lo=0/\HT.sIx xs.length xs.length hi=xs.length
 ·refine HT.s70 ht hs pl pu (by rw[hlen];exact hw) ?_
  have e:H41 xs lo hi=xs:=by unfold H41;rw[hw.1,hw.2];simp
  rw[e] at q;exact q.here I hx
 ·refine HT.w50 ht hs pl pu (by rw[hlen];exact hw) ?_ (by rw[hlen];exact hz)
  rw[hlen];exact q.new I ((r.drop (HT.sIx xs.length 0 lo)).take (HT.sIx xs.length xs.length hi - HT.sIx xs.length 0 lo)) (Ó (C50 xs lo hi) hz)
def A12(K:Â)(te ts:TE):TE:=λσ H Q=>te σ H λx H1=>ts σ H1 λy H2=>y=.int (-1)/\((∃ a xs,x=.ref a/\SqT K H2 a xs/\J31 K H2 xs.reverse Q)\/∃ a xs,x=.ref a/\SqL K H2 a xs/\∀ p,H2 p=none->Q (.ref p) (upd H2 p (.lst xs.reverse)))
theorem n92{e st:Ð}{te ts:TE}{p2 pos:Pos}(he:PE X e te)(hst:PE X st ts):PE X (.Subscript e (.Slice none none (some st) p2) pos) (A12 X.K te ts):=by
 intro pins s σ H Q I h;refine Subscript_ (thn (he pins s σ H _ I h) λv s1 ⟨x,H1,I1,r1,q1⟩=>?_);refine wpAny_Slice ?_;rw[evalPart_none];refine Å (Å ?_);rw[evalPart_some];refine thn (hst pins s1 σ H1 _ I1 q1) λw' s2 ⟨y,H2,I2,r2,q2⟩=>?_;obtain⟨rfl,q2⟩:=q2;obtain⟨t,rfl⟩:=r2;have I4:Inv X pins σ H2 { s2 with heap:=s2.heap.push { cls:=.type "slice",data:=.fields #[.none,.none,.int (-1) t] } }:=I2.kept (t':=s2.toks) λb ob q=>Ã _ q;show Ñ (Ø X.prog X.w) X.A (subscriptTail e (.Slice none none (some st) p2) v (.ref s2.heap.objs.size)) (EP X pins σ Q) X.xe { s2 with heap:=s2.heap.push { cls:=.type "slice",data:=.fields #[.none,.none,.int (-1) t] } };rcases q2 with ⟨a,xs,rfl,hq,q⟩ | ⟨a,xs,rfl,hq,q⟩
 ·cases r1;obtain⟨its,r,ht,hz⟩:=I4.tuple hq;exact tail_any (ops:=[.ref a,.ref s2.heap.objs.size]) ht.typeIs ö.lookup (HT.w80 ht (Ó6 ..) (q.new I4 r.reverse (by rw[Ñ0];exact hz)) (by rw[← r.length];exact hz)) (by with_unfolding_all rfl)
 ·cases r1;obtain⟨its,r,ht,hz⟩:=I4.list hq;have hlen:=r.length;refine tail_any (ops:=[.ref a,.ref s2.heap.objs.size]) ht.isList.typeIs slot_list_getitem.lookup (wpAny_getItem_list_slice ht.isList (Ó6 ..) .none .none (.int (-1) t) (by simp) ?_ (by rw[Ö] <;> omega)) (by with_unfolding_all rfl)
  rw[PySem.W.krv_pick];refine⟨.ref _,_,I4.laid (t':=s2.toks) (o:=.lst xs.reverse) (λb ob q=>Ã _ q) (Î _) ?_,rfl,q _ (I4.hok.fresh (Î _))⟩;exact⟨by rw[Ñ0];exact hz,its.reverse,0,r.reverse,Ê _ rfl⟩
theorem Inv.big(I:Inv X pins σ H s):sysModules < s.heap.objs.size:=by
 have h:ç < s.heap.objs.size:=(I.mod.glob.keeps I.bk).lt;exact Nat.lt_trans 1e1 h
def E52:TE:=λ_ H Q=>∀ p,H p=none->Q (.ref p) (upd H p (.dK []))
def Z51{pos:Pos}:PE X (.Dict [] [] pos) E52:=λpins s σ H Q I h =>
 wpAny_Dict_empty ⟨.ref s.heap.objs.size,_,I.laid (a:=s.heap.objs.size) (o:=.dK []) (t':=s.toks) (λ_ _ q=>Ã _ q) (Î _) ⟨Æ5 _,beq_eq_false_iff_ne.mpr (Á0 (Õ I.big)),[],.nil,ê.DictOf.new _⟩,rfl,h _ (I.hok.fresh (Î _))⟩
end
end L2
namespace MySort
open PySem PySem.W PyProof.Rows
section
variable {P:à}{w:í}{A:ó}{E:Ä->Æ->Prop}{s:Æ}
theorem Y30{l:Ç}{o:Obj}{vs:List Ä}{n:Nat}{Q:List Ä->Æ->Prop}(ho:s.heap.get? l=some o)(hc:o.cls=.type "list"\/o.cls=.type "tuple")(hd:o.data=.seq vs.toArray n)
 (h:Q vs { s with heap:=(s.heap.push (Ã4 "list" #[] 0)).update s.heap.objs.size (þ (·++vs.toArray)) }) (hz:vs.length<=sizeLine):Ñ (Ø P w) A (collect (.ref l)) Q E s:=by
 unfold collect;refine À (Ù3 (Â1 entry_proto_collect' ?_));show Ñ _ _ (do again (.builtin "list.__iadd__" ⟨[← newList [],.ref l],[]⟩)) _ _ s;refine À (Û8 (Å ⟨Ø9 _ (by decide +kernel),Â1 entry_list_iadd' ?_⟩))
 show Ñ _ _ (Ä3 (.ref s.heap.objs.size) (.ref l) (.ref s.heap.objs.size)) _ _ { s with heap:=s.heap.push (Ã4 "list" #[] 0) };unfold Ä3;have ho':(s.heap.push (Ã4 "list" #[] 0)).get? l=some o:=Ã _ ho;have fin:Ñ (Ø P w) A (do
   let o ← load s.heap.objs.size
   match o.data with
   |.seq xs _=>pure xs.toList
   |_=>unsupported "internal:collect") Q E { s with heap:=(s.heap.push (Ã4 "list" #[] 0)).update s.heap.objs.size (þ (·++vs.toArray)) }:=by
  refine À (wpAny_load (à4 (Ê _ rfl) _) ?_);show Ñ _ _ (pure ((#[]:Array Ä)++vs.toArray).toList) Q E _;rw[show((#[]:Array Ä)++vs.toArray).toList=vs by simp];exact Å h
 rcases hc with hc | hc
 ·refine À (È1 (T:="list") ⟨o,ho',hc⟩ ?_);rw[if_pos (by rw[show(Â2 "list" == Â2 "list")=true by rfl];simp)]
  refine À (Ñ4 ho' hd (À (Ñ4 (xs:=#[]) (n:=0) (Ê _ rfl) rfl ?_)));rw[if_neg (by simp)]
  exact À (Û9 (xs:=#[]) (n:=0) (Ê _ rfl) rfl (Å fin) (Æ5 _) (by show(#[]++vs.toArray).size<=sizeLine + 1;simp only[Array.size_append,Ö,Ã1];omega))
 ·refine À (È1 (T:="tuple") ⟨o,ho',hc⟩ ?_);rw[if_pos (by rw[show(Â2 "tuple" == Â2 "tuple")=true by rfl];simp)]
  refine À (Ñ4 ho' hd (À (Ñ4 (xs:=#[]) (n:=0) (Ê _ rfl) rfl ?_)));rw[if_neg (by simp)]
  exact À (Û9 (xs:=#[]) (n:=0) (Ê _ rfl) rfl (Å fin) (Æ5 _) (by show(#[]++vs.toArray).size<=sizeLine + 1;simp only[Array.size_append,Ö,Ã1];omega))
theorem t01{l:Ç}{o:Obj}{vs:List Ä}{Pr:List Nat->Prop}{kd:Í2}{n:Nat}{Q:Ä->Æ->Prop}(ho:s.heap.get? l=some o)(hc:o.cls=.type "list"\/o.cls=.type "tuple")(hd:o.data=.seq vs.toArray n)
 (hk:∀ h',s71 s.heap h'->j52 P w A.in1.in1 { s with heap:=h' } vs Pr kd)
 (h:∀ (p:List Nat) (h':ê) (c:Nat),Pr p->(∀ b o,s.heap.get? b=some o->h'.get? b=some o)->h'.get? (s.heap.objs.size + 1)=some (Ã4 "list" (p.map λi=>vs.getD i ä).toArray c)->Q (.ref (s.heap.objs.size + 1)) { s with heap:=h' }) :
  Ñ (Ø P w) A (call (.builtin "sorted") [.ref l]) Q E s:=by
 have h64:=(hk s.heap λ_ _ e _=>e).len;refine Þ9 kind_sorted plain_sorted entry_sorted (args_sorted1 _) ?_;unfold ÿ.«sorted»;refine À (m:=checkCount "sorted" 1 1 _) (Å ?_);refine À (Y30 ho hc hd ?_ (by rw[Á1];omega));refine À (Û8 ?_ (by rw[Á1];omega))
 have hsz:((s.heap.push (Ã4 "list" #[] 0)).update s.heap.objs.size (þ (·++vs.toArray))).objs.size=s.heap.objs.size + 1:=by rw[ê.size_update,size_push']
 have hoL:(((s.heap.push (Ã4 "list" #[] 0)).update s.heap.objs.size (þ (·++vs.toArray))).push (Ã4 "list" vs.toArray 0)).get? (s.heap.objs.size + 1)=some (Ã4 "list" vs.toArray 0):=by rw[← hsz];exact Ê _ rfl
 have keep:∀ b o,s.heap.get? b=some o->(((s.heap.push (Ã4 "list" #[] 0)).update s.heap.objs.size (þ (·++vs.toArray))).push (Ã4 "list" vs.toArray 0)).get? b=some o:=λb o q=>by
  have hlt:b < s.heap.objs.size:=Þ q;rw[ê.get?_push_ne _ _ _ (by rw[hsz];exact Õ (Æ8 hlt)),ê.get?_update_ne _ _ _ _ (Õ hlt),ê.get?_push_ne _ _ _ (Õ hlt)];exact q
 show Ñ _ _ _ _ _ { s with heap:=((s.heap.push (Ã4 "list" #[] 0)).update s.heap.objs.size (þ (·++vs.toArray))).push (Ã4 "list" vs.toArray 0) };rw[hsz];refine À (À6 (À2 slot_list_sort ⟨_,hoL,rfl⟩ entry_list_sort (e11 hoL (λh' kp=>hk h' λb o e hc=>kp b o (keep b o e) hc) λp h' c hp kp hD=>⟨_,rfl,Å ⟨_,rfl,h p h' c hp (λb o e=>kp b o (Õ (Æ8 (Þ e))) (keep b o e)) hD⟩⟩) (args_list_sort _)))
end
end MySort
namespace L2
open PySem PySem.Spec PyProof.Rows
open MySort (sortedBy)
section
variable {X:Cx}
def Z61(X:Cx)(H:Hp)(xs:List V)(Pr:List Nat->Prop):Prop:=∀ (pins:List (Ç × Obj)) (σ:St) (s:Æ) (us:List Ä),Inv X pins σ H s->Vals xs us->∃ kd,∀ h',MySort.s71 s.heap h'->MySort.j52 X.prog X.w X.A.in1.in1 { s with heap:=h' } us Pr kd
theorem y80:g10 X (.builtin "sorted") (λargs H Q=>∃ a xs,∃ Pr:List Nat->Prop,args=[.ref a]/\(SqL X.K H a xs\/SqT X.K H a xs)/\Z61 X H xs Pr/\(∀ p,Pr p->∀ i∈p,i < xs.length)/\∀ p l,Pr p->H l=none->Q (.ref l) (upd H l (.lst (p.map λi=>xs.getD i .non)))):=by
 intro pins s σ H args us Q I r h;obtain⟨a,xs,Pr,rfl,hq,hk,hpr,q⟩:=h;obtain⟨u,rfl,rx⟩:=vals1 r;cases rx;have go:∀ (its:List Ä) (o:Obj) (n:Nat),Vals xs its->s.heap.get? a=some o->(o.cls=.type "list"\/o.cls=.type "tuple")->o.data=.seq its.toArray n->Ñ (Ø X.prog X.w) X.A (call (.builtin "sorted") [.ref a]) (EP X pins σ Q) X.xe s:=λits o n rv ho hc hd=>by
  obtain⟨kd,kw⟩:=hk pins σ s its I rv;have k0:=kw s.heap λ_ _ e _=>e;refine MySort.t01 ho hc hd kw λp h' c hp kp hD=>?_;have hn:H (s.heap.objs.size + 1)=none:=I.hok.fresh (Ì5 _ 1);have hlen:(p.map λi=>xs.getD i .non).length<=sizeLine:=by rw[È,k0.all p hp,Á1];have:=k0.len;omega
  have rv':Vals (p.map λi=>xs.getD i .non) (p.map λi=>its.getD i ä):=by
   have hall:=hpr p hp;clear hp hD hlen
   induction p with
   |nil=>exact .nil
   |cons i r ih =>
    refine .cons ?_ (ih λj hj=>hall j (Ë _ hj));have hi:=hall i Ì;obtain⟨u,hu,ru⟩:=rv.get (i:=i) (x:=xs[i]) (by simp[hi])
    have e1:xs.getD i V.non=xs[i]:=by simp[hi]
    have e2:its.getD i ä=u:=by rw[Ü,hu];rfl
    show RelV (xs.getD i V.non) (its.getD i ä);rw[e1,e2];exact ru
  exact⟨.ref (s.heap.objs.size + 1),_,I.laid (t':=s.toks) kp (Ì5 _ 1) (show h70 X.prog X.w _ h' _ (.lst _) from⟨hlen,_,c,rv',hD⟩),rfl,q p _ hp hn⟩
 rcases hq with hq | hq
 ·obtain⟨its,rv,pl,_⟩:=I.list hq;obtain⟨o,ho,hc,n,hd⟩:=pl.isList;exact go its o n rv ho (.inl hc) hd
 ·obtain⟨its,rv,⟨o,ho,hc,n,hd⟩,_⟩:=I.tuple hq;exact go its o n rv ho (.inr hc) hd
end
section
variable {K:Â}{g:TG}{tt:TT}{te:TE}{σ0:St}{H:Hp}{Q:VK}
theorem J41{lo:Int}{n:Nat}(Pv:Nat->List V->Hp->Prop)(hz:n<=sizeLine)(h0:Pv 0 [] H)(hl:∀ i ys H,Pv i ys H->ys.length<=i)
 (hs:∀ i ys H,i < n->Pv i ys H->g (.int (lo + i)) σ0 H λσ2 H2=>tt σ2 H2 λb H3=>if b=true then te σ2 H3 (λy H4=>Pv (i + 1) (ys++[y]) H4) else Pv (i + 1) ys H3)
 (hd:∀ ys H p,Pv n ys H->H p=none->Q (.ref p) (upd H p (.lst ys))):k51 (Itr lo n) σ0 H g tt te Q:=by
 refine⟨λi m ys H=>m=n - i/\i<=n/\Pv i ys H,⟨n,by simp,Æ5 _,h0⟩,?_⟩
 rintro i m ys H ⟨rfl,hi,p⟩;have hy:=hl i ys H p;by_cases hlt:i < n
 ·refine .inr ⟨hlt,∅,Pv (i + 1),λzs H' p'=>⟨n - (i + 1),∅,rfl,hlt,p'⟩,λx H' y=>?_⟩
  obtain⟨e,y⟩:=y;subst e y;exact hs i ys _ hlt p
 ·have e:i=n:=∅
  subst e;exact .inl ⟨Î _,λz hz=>hd ys H z p hz⟩
end
inductive D where
 |non | bl (b:Bool) | int (i:Int) | str (x:Str) | tup (ds:List D) | lst (ds:List D) | dct
def D.ty:D->String
 |.non=>"NoneType"|.bl _=>"bool"|.int _=>"int"|.str _=>"str"|.tup _=>"tuple"|.lst _=>"list"|.dct=>"dict"
mutual
def Has(K:Â)(H:Hp):D->V->Prop
 |.non,v=>v=.non|.bl b,v=>v=.bl b|.int i,v=>v=.int i|.str x,v=>v=.str x|.tup ds,v=>∃ a xs,v=.ref a/\SqT K H a xs/\H40 K H ds xs|.lst ds,v=>∃ a xs,v=.ref a/\SqL K H a xs/\H40 K H ds xs|.dct,v=>∃ a kvs,v=.ref a/\H a=some (.dK kvs)
def H40(K:Â)(H:Hp):List D->List V->Prop
 |[],xs=>xs=[]|d::ds,xs=>∃ x r,xs=x::r/\Has K H d x/\H40 K H ds r
end
def isB(T C:String):Bool:=T == C || (T == "bool"&&C == "int")
theorem Z71(K:Â)(d:D):∀ C∈["int","bool","tuple","list","str"],Î4 K (.type d.ty) (.type C)=some (isB d.ty C):=by
 intro C hC;simp only[Å2,Ã2,or_false] at hC;rcases hC with rfl | rfl | rfl | rfl | rfl <;> cases d <;> first | rfl | kernel_rfl | decide +kernel
section
variable {X:Cx}
theorem J51:g10 X (.builtin "isinstance") (λxs H Q=>∃ d x C,xs=[x,.ty C]/\Has X.K H d x/\C∈["int","bool","tuple","list","str"]/\Q (.bl (isB d.ty C)) H):=by
 intro pins s σ H xs us Q I r h;obtain⟨d,x,C,rfl,hd,hC,q⟩:=h;obtain⟨u,w',rfl,rx,rt⟩:=vals2 r;cases (show w'=Â2 C from rt);have e:=Z71 X.K d C hC;have fin:∀ tk,EP X pins σ Q (.bool (isB d.ty C)) { s with toks:=tk }:=λtk=>⟨.bl _,H,I.tok tk,rfl,q⟩;cases d with
 |non=>unfold Has at hd;subst hd;cases rx;exact Ç1 kitx_none I.kIn Ê9 e (λz=>nomatch z) fin
 |bl b=>unfold Has at hd;subst hd;cases rx;exact Ç1 kitx_bool I.kIn Ê9 e (λz=>nomatch z) fin
 |int i=>unfold Has at hd;subst hd;obtain⟨t,rfl⟩:=rx;exact Ç1 kitx_int I.kIn Ê9 e (λz=>nomatch z) fin
 |str y=>unfold Has at hd;subst hd;obtain⟨t,rfl⟩:=rx;exact Ç1 kitx_str I.kIn Ê9 e (λz=>nomatch z) fin
 |tup ds =>
  unfold Has at hd;obtain⟨a,ys,rfl,hq,_⟩:=hd;cases rx;obtain⟨its,_,⟨o,h1,h2,_⟩,_⟩:=I.tuple hq;exact Ç1 kitx_tuple I.kIn ⟨o,h1,h2⟩ e (λz=>nomatch z) fin
 |lst ds =>
  unfold Has at hd;obtain⟨a,ys,rfl,hq,_⟩:=hd;cases rx;obtain⟨its,_,pl,_⟩:=I.list hq;obtain⟨o,h1,h2,_⟩:=pl.isList;exact Ç1 kitx_list I.kIn ⟨o,h1,h2⟩ e (λz=>nomatch z) fin
 |dct =>
  unfold Has at hd;obtain⟨a,kvs,rfl,hq⟩:=hd;cases rx;obtain⟨_,_,vs,_,p⟩:=(show h70 X.prog X.w H s.heap a (.dK kvs) from I.hok a _ hq);obtain⟨o,es,ep,h1,h2,_⟩:=p;exact Ç1 kitx_dict I.kIn ⟨o,h1,h2.1⟩ e (λz=>nomatch z) fin
end
def hide(st:Ç)(H:Hp):Hp:=λb=>if b=st then none else H b
theorem g90(st:Ç)(H:Hp):a20 (hide st H) H:=λb o e=>by
 unfold hide at e;split at e
 ·cases e
 ·exact e
theorem D10{st:Ç}{H H':Hp}(e:∀ b o,b≠st->H b=some o->H' b=some o):a20 (hide st H) (hide st H'):=λb o h=>by
 unfold hide at h ⊢;by_cases q:b=st
 ·rw[if_pos q] at h;cases h
 ·rw[if_neg q] at h ⊢;exact e b o q h
theorem L80{st b:Ç}{H:Hp}{o:HO}(h:H b=some o)(n:b≠st):hide st H b=some o:=by
 unfold hide;rw[if_neg n];exact h
end L2
namespace L2
open PySem PySem.Spec PyProof.Rows
def t11(sc scX:ë)(N own:List Str)(capt:List (Str × Nat)):Bool:=
 sc.kind == .function&&sc.names.all (λy=>y.2 != .cell)&&sc.names.all (λy=>y.2 != .local || sc.names.lookup y.1 == some .local) &&
  sc.names.all (λy=>y.2 != .free || (scX.names.lookup y.1 == some .cell || scX.names.lookup y.1 == some .free))&&capt.all λp=>N[p.2]? == some p.1&&sc.names.lookup p.1 == some .free
theorem n40.of{X:Cx}{sc scX:ë}{N own:List Str}{capt:List (Str × Nat)}(e:X.env.scope=scX)(eN:X.N=N)(h:t11 sc scX N own capt=true):n40 X sc own capt:=by
 unfold t11 at h;simp only[Á] at h;obtain⟨⟨⟨⟨h1,h2⟩,h3⟩,h4⟩,h5⟩:=h;rw[Ä6] at h2 h3 h4 h5;refine⟨by simpa using h1,λy hy=>by simpa using h2 y hy,λy hy hl=>?_,λy hy hf=>?_,λp hp=>?_⟩
 ·have:=h3 y hy;rw[hl] at this;simpa using this
 ·have:=h4 y hy;rw[hf] at this;show X.env.scope.names.lookup y.1=_\/X.env.scope.names.lookup y.1=_;rw[e];simpa using this
 ·have:=h5 p hp;rw[eN];simpa using this
def gN{i:Nat}{v:V}{σ:St}{H:Hp}{R:St->Hp->Prop}(h:R (σ.set i (some v)) H):J90 i v σ H R:=h
def J61{σ:St}{H:Hp}{R:Bool->Hp->Prop}(h:R true H):r41 σ H R:=h
def D20{n:Nat}(h:n<=64):n<=sizeLine:=Ó h 1e1
section
variable {X:Cx}
theorem o02(K:Â)(d:D):kitAny K (.type d.ty) [.type "tuple",.type "list"]=some (isB d.ty "tuple" || isB d.ty "list"):=by
 have e1:=Z71 K d "tuple" (by simp)
 have e2:=Z71 K d "list" (by simp)
 unfold kitAny;rw[e1];cases isB d.ty "tuple" with
 |true=>rfl
 |false =>
  show kitAny K (.type d.ty) [.type "list"]=_;unfold kitAny;rw[e2];cases isB d.ty "list" <;> rfl
theorem t21:g10 X (.builtin "isinstance") (λxs H Q=>∃ d x a,xs=[x,.ref a]/\Has X.K H d x/\SqT X.K H a [.ty "tuple",.ty "list"]/\Q (.bl (isB d.ty "tuple" || isB d.ty "list")) H):=by
 intro pins s σ H xs us Q I r h;obtain⟨d,x,a,rfl,hd,hq,q⟩:=h;obtain⟨u,w',rfl,rx,rt⟩:=vals2 r;cases (show w'=Á7 a from rt);obtain⟨its,rv,⟨⟨cls,dd,data,sl⟩,ho,hc,n,hdt⟩,_⟩:=I.tuple hq;simp only at hc hdt;subst hc hdt;have eits:its=[.type "tuple",.type "list"]:=by
  cases rv with
  |cons p r=>cases r with
   |cons p2 r2=>cases r2;rw[show _=Â2 "tuple" from p,show _=Â2 "list" from p2]
 subst eits;have e:=o02 X.K d;have fin:∀ tk,EP X pins σ Q (.bool (isB d.ty "tuple" || isB d.ty "list")) { s with toks:=tk }:=λtk=>⟨.bl _,H,I.tok tk,rfl,q⟩;cases d with
 |non=>unfold Has at hd;subst hd;cases rx;exact Ø0 kitx_none I.kIn Ê9 ho e (λz=>nomatch z) fin
 |bl b=>unfold Has at hd;subst hd;cases rx;exact Ø0 kitx_bool I.kIn Ê9 ho e (λz=>nomatch z) fin
 |int i=>unfold Has at hd;subst hd;obtain⟨t,rfl⟩:=rx;exact Ø0 kitx_int I.kIn Ê9 ho e (λz=>nomatch z) fin
 |str y=>unfold Has at hd;subst hd;obtain⟨t,rfl⟩:=rx;exact Ø0 kitx_str I.kIn Ê9 ho e (λz=>nomatch z) fin
 |tup ds =>
  unfold Has at hd;obtain⟨b,ys,rfl,hq',_⟩:=hd;cases rx;obtain⟨_,_,⟨o,h1,h2,_⟩,_⟩:=I.tuple hq';exact Ø0 kitx_tuple I.kIn ⟨o,h1,h2⟩ ho e (λz=>nomatch z) fin
 |lst ds =>
  unfold Has at hd;obtain⟨b,ys,rfl,hq',_⟩:=hd;cases rx;obtain⟨_,_,pl,_⟩:=I.list hq';obtain⟨o,h1,h2,_⟩:=pl.isList;exact Ø0 kitx_list I.kIn ⟨o,h1,h2⟩ ho e (λz=>nomatch z) fin
 |dct =>
  unfold Has at hd;obtain⟨b,kvs,rfl,hq'⟩:=hd;cases rx;obtain⟨_,_,vs,_,p⟩:=(show h70 X.prog X.w H s.heap b (.dK kvs) from I.hok b _ hq');obtain⟨o,es,ep,h1,h2,_⟩:=p;exact Ø0 kitx_dict I.kIn ⟨o,h1,h2.1⟩ ho e (λz=>nomatch z) fin
end
open PySem PySem.Spec PyProof.Rows PySem.SeqAt
theorem L90(l b:Ç)(es:Array DictEntry)(n:Nat)(it:Array Ä)(n2:Nat)(dd dd2:Option Ç)(sl sl2:Array (Option Ä)) :
 Meets (ÿ.«dict.__ne__» ⟨[.ref l,.ref b],[]⟩) (λ_ R s=>s.heap.get? l=some { cls:=.type "dict",dict:=dd,data:=.dict es n,slots:=sl }/\s.heap.get? b=some { cls:=.type "tuple",dict:=dd2,data:=.seq it n2,slots:=sl2 }/\R (.ok (.ret .notImplemented)) s):=
 .of_wp λprog w A R s h=>by
  obtain⟨hp,g,d,tk,os⟩:=s;obtain⟨hl,hb,h⟩:=h;have f1:=F.sub_tuple_dict
  wp_walk using Ä8 hl,Ä8 hb
  exact⟨_,rfl,h⟩
theorem M00(l b:Ç)(es:Array DictEntry)(n:Nat)(it:Array Ä)(n2:Nat)(dd dd2:Option Ç)(sl sl2:Array (Option Ä)) :
 Meets (ÿ.«tuple.__ne__» ⟨[.ref b,.ref l],[]⟩) (λ_ R s=>s.heap.get? l=some { cls:=.type "dict",dict:=dd,data:=.dict es n,slots:=sl }/\s.heap.get? b=some { cls:=.type "tuple",dict:=dd2,data:=.seq it n2,slots:=sl2 }/\R (.ok (.ret .notImplemented)) s):=
 .of_wp λprog w A R s h=>by
  obtain⟨hp,g,d,tk,os⟩:=s;obtain⟨hl,hb,h⟩:=h;have f1:=F.sub_dict_tuple
  wp_walk using Ä8 hl,Ä8 hb
  exact⟨_,rfl,h⟩
section
variable {X:Cx}
theorem Z81(hu:X.A.units + 64 < Ä5):OpR X (À4 .NotEq) (λx y H Q=>∃ a b kvs xs,x=.ref a/\y=.ref b/\H a=some (.dK kvs)/\SqT X.K H b xs/\Q (.bl true) H):=by
 intro pins s σ H x y v u Q I rx ry h;obtain⟨a,b,kvs,xs,rfl,rfl,ha,hb,q⟩:=h;cases rx;cases ry;obtain⟨v2,r2,⟨o2,h2,c2,n2,d2⟩,_⟩:=I.tuple hb;obtain⟨_,_,vs,_,p⟩:=(show h70 X.prog X.w H s.heap a (.dK kvs) from I.hok a _ ha);obtain⟨o1,es,n1,h1,c1,d1,_⟩:=p;have c1:=c1.1;obtain⟨cls,dd,data,sl⟩:=o1;obtain⟨cls2,dd2,data2,sl2⟩:=o2;simp only at c1 d1 c2 d2;subst c1 d1 c2 d2;have hne:a≠b:=λe=>by
  subst e;rw[h1] at h2;simp at h2
 have hu':X.A.units < cLine:=∅
 refine rc_ne_decline_or (k:=false) ⟨_,h1,rfl⟩ ⟨_,h2,rfl⟩ 1e1 F.sub_tuple_dict F.slot_dict_ne F.slot_tuple_ne_refl
  (λ_ hq=>Ê0 F.slot_dict_ne ⟨_,h1,rfl⟩ F.entry_dict_ne (F.args_dict_ne_2 _ _) (L90 a b es n1 v2.toArray n2 dd dd2 sl sl2) ⟨h1,h2,hq⟩)
  (λ_ hq=>Ê0 F.slot_tuple_ne_refl ⟨_,h2,rfl⟩ F.entry_tuple_ne (F.args_tuple_ne_2 _ _) (M00 a b es n1 v2.toArray n2 dd dd2 sl sl2) ⟨h1,h2,hq⟩)
  (λ_ hq=>wpAny_isSame_ref_other hne h1 h2 (by simp) hq) (.inr hu') ⟨.bl true,H,I,rfl,q⟩
end
end L2
namespace L2
open PySem PySem.Spec PyProof.Rows
section
variable {P:à}{w:í}{A:ó}{E:Ä->Æ->Prop}{s:Æ}
end
end L2
namespace HT
open PySem PySem.W PyProof.Rows
set_option maxRecDepth 100000
section
variable {P:à}{w:í}{A:ó}{E:Ä->Æ->Prop}{s:Æ}
theorem M10{r:Ç}{a b c:Int}{t u v:Tok}{n:Nat}{Q:List Ä->Æ->Prop}(hh:A.handled=none)(hr:Ö1 s.heap r a b c t u v)(hs:Ò9 a b c=true)(hn:Ä0 a b c=n)(hl:n<=2 ^ 24)
 (hQ:∀ (h':ê) (tk:Nat) (acc:Array Ä),(∀ b o,s.heap.get? b=some o->h'.get? b=some o)->s.heap.objs.size<=h'.objs.size->ItemsOf (λi v=>∃ t,v=.int (a + i * c) t) acc n->Q acc.toList { s with heap:=h',toks:=tk }):Ñ (Ø P w) A (collect (.ref r)) Q E s:=by
 unfold collect;refine À (Ù3 (Â1 PySem.F.entry_proto_collect ?_));rw[Â8 PySem.F.plain_proto_collect _];show Ñ _ A.in1 (newList [] >>= λl=>again (.builtin "list.__iadd__" ⟨[l,.ref r],[]⟩)) _ _ s;refine À (é (Å ⟨Î9 Þ5 _,Â1 PySem.F.entry_list_iadd ?_⟩));rw[Â8 Þ5 _];show Ñ _ A.in1 (Ä3 (.ref s.heap.objs.size) (.ref r) (.ref s.heap.objs.size)) _ _ { s with heap:=s.heap.push (Ã4 "list" #[] 0) };have hS:(s.heap.push (Ã4 "list" #[] 0)).get? s.heap.objs.size=some { cls:=.type "list",data:=.seq #[] 0 }:=Ê _ rfl;refine Á9 (wpAny_extend_range (A:=A) (s:={ s with heap:=s.heap.push (Ã4 "list" #[] 0) }) (R:=λx s'=>x=.ok (.ret (.ref s.heap.objs.size))/\∃ h' tk acc c',s'={ s with heap:=h',toks:=tk }/\(∀ b o,s.heap.get? b=some o->h'.get? b=some o)/\h'.get? s.heap.objs.size=some { cls:=.type "list",dict:=none,data:=.seq acc c',slots:=#[] }/\ItemsOf (λi v=>∃ t,v=.int (a + i * c) t) acc n) hh (Ã _ hr) hs hn hl _ (.ref s.heap.objs.size) 0 hS λh' tk acc c' hk hS' hi=>⟨rfl,h',tk,acc,c',rfl,λb o e=>hk b o (Õ (Þ e)) (Ã _ e),hS',hi⟩) (λfin s' h=>?_) λe s' h=>?_
 ·have go:∀ s',(∃ h' tk acc c',s'={ s with heap:=h',toks:=tk }/\(∀ b o,s.heap.get? b=some o->h'.get? b=some o)/\h'.get? s.heap.objs.size=some { cls:=.type "list",dict:=none,data:=.seq acc c',slots:=#[] }/\ItemsOf (λi v=>∃ t,v=.int (a + i * c) t) acc n)->Ñ (Ø P w) A (match Á7 s.heap.objs.size with
   |Á7 a=>do
    match (← load a).data with
     |Data.seq xs _=>pure xs.toList|_=>unsupported "internal:collect"
   |_=>unsupported "internal:collect") Q E s':=λs' ⟨h',tk,acc,c',e,hk,hS',hi⟩=>by
   subst e;show Ñ _ A (load s.heap.objs.size >>= _) _ _ _;exact À (wpAny_load hS' (Å (hQ h' tk acc hk (Ç5 (Þ hS')) hi)))
  cases fin with
  |done f =>
   obtain⟨e,h⟩:=h;cases e;exact go _ h
  |again c'=>exact⟨h.1,È5 h.2 λx s'' hx=>by obtain⟨rfl,hx⟩:=hx;exact go _ hx⟩
 ·exact absurd h.1 (by simp)
open AutoSeq1 (wpAny_loadPart')
theorem D30{r:Ç}{a b c:Int}{t u v:Tok}{n:Nat}{Q:Ä->Æ->Prop}(hh:A.handled=none)(hr:Ö1 s.heap r a b c t u v)(hs:Ò9 a b c=true)(hn:Ä0 a b c=n)(hl:n<=200000)
 (hQ:∀ (h':ê) (tk:Nat) (acc:Array Ä),(∀ b o,s.heap.get? b=some o->h'.get? b=some o)->s.heap.objs.size<=h'.objs.size->ItemsOf (λi v=>∃ t,v=.int (a + i * c) t) acc n->Q (.ref h'.objs.size) { s with heap:=h'.push { cls:=.type "tuple",data:=.seq acc },toks:=tk }) :
  Ë8 (Ø P w) A (.call (.builtin "tuple.__new__") ⟨[.type "tuple",.ref r],[]⟩) (wants Q E) s:=by
 refine à5 ?_;show Ñ _ A.in1 (do Õ1 "tuple.__new__" ⟨[.type "tuple",.ref r],[]⟩;again (.builtin "tuple.__new__" ⟨[.type "tuple",.ref r],[]⟩)) _ _ s;refine À (ß8 (PySem.F.newCall_tuple_1 _) (Å ⟨Î9 Þ4 _,Â1 PySem.F.entry_tuple_new ?_⟩));rw[Â8 Þ4 _];have k1:=sub_tuple_self;have k2:=init_tuple_lookup;have k3:=madeHere_tuple;have k4:s.TypeIs (.ref r) "range":=⟨_,hr,rfl⟩
 wp_walk using È1 k4,M10 (n:=n) (show A.in1.handled=none from hh) hr hs hn ∅
 intro h' tk acc hk hz hi;show Ñ _ _ (Æ7 acc.toList.toArray >>= λv=>ret v) _ _ _;unfold Æ7;rw[Ð8];refine À (é (Å (hQ h' tk acc hk hz hi)) (by show acc.size<=_;rw[hi.1,Á1];omega))
theorem tuple_range{r:Ç}{a b c:Int}{t u v:Tok}{n:Nat}{Q:Ä->Æ->Prop}(hh:A.handled=none)(hr:Ö1 s.heap r a b c t u v)(hs:Ò9 a b c=true)(hn:Ä0 a b c=n)(hl:n<=200000)
 (hQ:∀ (h':ê) (tk:Nat) (acc:Array Ä),(∀ b o,s.heap.get? b=some o->h'.get? b=some o)->s.heap.objs.size<=h'.objs.size->ItemsOf (λi v=>∃ t,v=.int (a + i * c) t) acc n->Q (.ref h'.objs.size) { s with heap:=h'.push { cls:=.type "tuple",data:=.seq acc },toks:=tk }):Ñ (Ø P w) A (call (.type "tuple") [.ref r]) Q E s:=by
 refine callType_codes (Q₁:=λobj s₁=>s₁.TypeIs obj "tuple"/\Q obj s₁) Ô2 (PySem.F.typeCall_tuple_1 _) PySem.F.entry_object_init (D30 hh hr hs hn hl λh' tk acc hk hz hi=>⟨⟨_,Ê _ rfl,rfl⟩,hQ h' tk acc hk hz hi⟩) λobj s₁ h₁=>?_;exact⟨h₁.1,PySem.F.args_object_init_2 obj _,object_init_meets Ô2.init.lookup Ô2.made 1e1 P w A.in1 _ s₁ ⟨h₁.1,rfl,h₁.2⟩⟩
end
end HT
namespace L2
open PySem PySem.Spec PyProof.Rows
theorem h70.there(x:h70 P w H h a o):∃ u,h.get? a=some u:=by
 cases o with
 |lst xs=>obtain⟨_,_,_,_,e⟩:=x;exact⟨_,e⟩
 |tup xs=>obtain⟨_,_,_,o,e,_⟩:=x;exact⟨_,e⟩
 |dK kvs=>obtain⟨_,_,_,_,o,_,_,e,_⟩:=x;exact⟨_,e⟩
 |dT kvs=>obtain⟨_,_,_,_,o,_,_,e,_⟩:=x;exact⟨_,e⟩
 |set S n=>obtain⟨o,_,_,_,e,_⟩:=x;exact⟨_,e⟩
 |ins C dx fs=>obtain⟨_,_,_,e,_⟩:=x;exact⟨_,e⟩
 |own y=>obtain⟨_,e⟩:=x;exact⟨_,e⟩
 |xd fs=>obtain⟨_,⟨_,_,_,e,_⟩,_⟩:=x;exact⟨_,e⟩
 |rng lo hi=>obtain⟨_,_,_,e⟩:=x;exact⟨_,e⟩
 |frz ob u=>obtain⟨e,_⟩:=x;exact⟨_,e⟩
 |tbl ps=>exact⟨_,(show h.get? a=some _ from x)⟩|met f y=>exact⟨_,(show h.get? a=some _ from x)⟩|ext φ=>obtain⟨_,⟨_,e⟩,_⟩:=x;exact⟨_,e⟩
def InB(B:ê)(fs:List Ç)(H':Hp)(h h':ê):Prop:=∀ b u,h'.get? b=some u->b ∉ fs->((∃ o,h.get? b=some o)\/H' b≠none)->B.get? b=some u
def CX1(P:à)(w:í):CXT:=λouter H s E e s'=>∃ (a:Ç) (cls a0:Ä) (H':Hp) (B:ê),e=.ref a/\s'.os=s.os/\Ô1 s'.gens/\Un (frs outer) [] H H' s.heap s'.heap/\HOk P w H' s'.heap /\
 ê.FlyingW B outer a cls a0 s'.heap/\H' a=none/\InB B (frs outer) H' s.heap s'.heap/\E cls (some a) H'
section
variable {X:Cx}{pins:List (Ç × Obj)}{σ:St}{H H':Hp}{s s':Æ}{B h'':ê}{a:Ç}{cls a0:Ä}{E:XK}
theorem Y40(hS:X.stack=X.env::X.outer)(hx:X.ex=[])(hf:X.env.frame=some X.env.locals)(I:Inv X pins σ H s)(os:s'.os=s.os)(bare:Ô1 s'.gens)(un:Un (frs X.stack) [] H H' s.heap s'.heap)(hok:HOk X.prog X.w H' s'.heap)
 (bB:InB B (frs X.stack) H' s.heap s'.heap) (na:H' a=none) (fl:ê.FlyingW B X.outer a cls a0 h'') (sm:s'.heap.UpToSlots h'') (he:E cls (some a) H'):CX1 X.prog X.w X.outer X.H₀ X.s₀ E (.ref a) { s' with heap:=h'' }:=by
 have hfs:frs X.stack=X.env.locals::frs X.outer:=by rw[hS];unfold frs;rw[Á4,hf]
 have U1:=I.base;rw[hx] at U1;have U:Un (frs X.stack) [] X.H₀ H' X.s₀.heap s'.heap:=(U1.mono (λb hb=>by rw[hfs];exact Ë _ hb) λb hb=>hb).trans un
 have nL:∀ b o,X.s₀.heap.get? b=some o->b ∉ frs X.outer->b ∉ frs X.stack:=λb o e hn hm=>by
  rw[hfs] at hm;rcases ï.mp hm with z | z
  ·exact absurd (Þ e) (by rw[z];exact Nat.not_lt.mpr I.ok.above)
  ·exact hn z
 have frN:∀ b∈frs X.stack,H' b=none:=λb hb=>by
  obtain⟨_,o,ho,_⟩:=I.stack.mem hb;exact un.free b o ho (I.w30 b hb) (by simp)
 have old:∀ b o,X.s₀.heap.get? b=some o->b ∉ frs X.outer->∃ u,s'.heap.get? b=some u/\B.get? b=some u:=λb o e hn=>by
  obtain⟨o1,e1⟩:=U1.there b o e (by simp)
  obtain⟨o2,e2⟩:=un.there b o1 e1 (by simp)
  exact⟨o2,e2,bB b o2 e2 (nL b o e hn) (.inl ⟨o1,e1⟩)⟩
 have trk:∀ b,H' b≠none->∃ u,s'.heap.get? b=some u/\B.get? b=some u:=λb hb=>by
  obtain⟨o,e⟩:=Ý1.mp hb;obtain⟨u,eu⟩:=(hok b o e).there;exact⟨u,eu,bB b u eu (λhm=>by rw[frN b hm] at e;cases e) (.inr hb)⟩
 refine⟨a,cls,a0,H',B,rfl,os.trans I.os,bare,⟨λb o e n hb _=>?_,λb o e n hb _=>?_,λb o e n hb=>U.free b o e n hb,λb o e _=>?_,U.tups,U.frzs,U.tbls⟩,λc o e=>?_,fl,na,λb u e hn hor=>?_,he⟩
 ·obtain⟨u,e1,e2⟩:=old b o e hb;have e3:=U.keep b o e n (nL b o e hb) (by simp)
  rw[e1] at e3;cases e3;exact fl.1 b _ e2
 ·obtain⟨sl,e1⟩:=U.slot b o e n (by rw[hfs];exact Ë _ hb) (by simp)
  obtain⟨_,o',ho',hd⟩:=I.ok.j81.mem hb;rw[e] at ho';cases ho';obtain⟨sl',e2⟩:=sm b _ e1 hd;exact⟨sl',e2⟩
 ·by_cases hb:b∈frs X.outer
  ·obtain⟨_,o',ho',_⟩:=fl.2.2.1.mem hb;exact⟨o',ho'⟩
  ·obtain⟨u,_,e2⟩:=old b o e hb;exact⟨u,fl.1 b _ e2⟩
 ·refine(hok c o e).j71 (λb u hb q=>?_) (λ_ q=>q) λ_ _ q=>q;have hbn:H' b≠none:=by
   rcases hb with rfl | hb
   ·rw[e];exact λz=>nomatch z
   ·rw[hb];exact λz=>nomatch z
  obtain⟨u',e1,e2⟩:=trk b hbn;rw[q] at e1;cases e1;exact fl.1 b _ e2
 ·have:∃ u',B.get? b=some u':=by
   rcases hor with ⟨o,ho⟩ | hor
   ·obtain⟨u',_,e2⟩:=old b o ho hn;exact⟨u',e2⟩
   ·obtain⟨u',_,e2⟩:=trk b hor;exact⟨u',e2⟩
  obtain⟨u',e2⟩:=this;have e3:=fl.1 b _ e2;rw[e] at e3;cases e3;exact e2
end
section
variable {P:à}{w:í}{K:Â}{mg:Str->Option Ä}{base:ê}{N:List Str}{qual:Str}{scope:ë}{f:Ç}{cd:Ä}{A:ó}{outer:List Env}{s₀:Æ}{H₀:Hp}{E:XK}
theorem t31(I:Inv (G60 (CX1 P w) P w K mg base N qual scope f cd A outer s₀ H₀ E) pins σ H s)(hx:ê.MadeExcOf s.heap h' e cls vs)(he:E cls (some e) H) :
 (G60 (CX1 P w) P w K mg base N qual scope f cd A outer s₀ H₀ E).xe (.ref e) { s with heap:=h' }:=by
 have hin:∀ env∈(G60 (CX1 P w) P w K mg base N qual scope f cd A outer s₀ H₀ E).stack,∀ a,env.frame=some a->a∈frs (G60 (CX1 P w) P w K mg base N qual scope f cd A outer s₀ H₀ E).stack:=λenv he a ha=>Ø6.mpr ⟨env,he,ha⟩;have kB:(hideAll s.heap (frs (G60 (CX1 P w) P w K mg base N qual scope f cd A outer s₀ H₀ E).stack)).StaysIn s.heap:=λb o q=>of_hideAll _ q;show Ñ _ _ (leaving _ _) _ _ _;refine wpAny_leaves_madeW (base:=hideAll s.heap (frs (G60 (CX1 P w) P w K mg base N qual scope f cd A outer s₀ H₀ E).stack)) (h:=s.heap) I.ok.frames rfl kB (PySem.W.funFrames_hide I.stack hin) hx λh'' t fl _ _ sm=>?_;have na:H e=none:=by
  cases z:H e with
  |none=>rfl|some o=>obtain⟨u,eu⟩:=(I.hok e o z).there;rw[hx.new] at eu;cases eu
 refine Y40 (X:=G60 (CX1 P w) P w K mg base N qual scope f cd A outer s₀ H₀ E) (s':={ s with heap:=h' }) rfl rfl rfl I rfl I.bare (Un.kept hx.keeps) (I.hok.kept hx.keeps) (λb u q hn hor=>?_) na fl sm he;have:∃ o,s.heap.get? b=some o:=by
  rcases hor with hor | hor
  ·exact hor
  ·obtain⟨o,z⟩:=Ý1.mp hor;exact(I.hok b o z).there
 obtain⟨o,ho⟩:=this;have:=hx.keeps b o ho;have q':h'.get? b=some u:=q;rw[this] at q';cases q';exact hideAll_get _ ho hn
theorem E62:Passes (CX1 P w) (G60 (CX1 P w) P w K mg base N qual scope f cd A outer s₀ H₀ E) E:=by
 intro pins σ H s e s' I h;obtain⟨a,cls,a0,H',B,rfl,os,bare,un,hok,fl,na,bB,he⟩:=h;show Ñ _ _ (leaving _ _) _ _ _;refine wpAny_leaves_onW I.ok.frames rfl fl λh'' fl' sm=>?_;exact Y40 (X:=G60 (CX1 P w) P w K mg base N qual scope f cd A outer s₀ H₀ E) (s':=s') rfl rfl rfl I os bare un hok bB na fl' sm he
end
theorem Z91{K:Â}{h:ê}{C:Ç}{bmB:List Ä}{newId:String}(KX:K.In h)(hq:Ì8 K C bmB newId=true) :
 ∃ bm N nm q bs hdct sn sub ab col dd k0 k1 k2 k3 k5 mN,h.get? C=some (excClassObj nm q C N bs bm hdct sn sub ab col dd k0 k1 k2 k3 k5 newId)/\h.Ns N mN/\mN "__init__"=none/\OwnTail h bmB bm:=by
 unfold Ì8 at hq;split at hq
 case h_2=>cases hq
 case h_1 dd cd sl ho =>
  split at hq
  case h_2=>cases hq
  case h_1 C' bm k0 k1 k2 k3 n k5 hm hs =>
   simp only[Á,beq_iff_eq,î] at hq;obtain⟨⟨⟨⟨⟨z1,z2⟩,hdel⟩,ht⟩,hok⟩,hni⟩:=hq;subst z1 z2;cases cd with
   |mk nm bs mro ns qn hd sn sub ab col del =>
    dsimp only at hm hdel hok hni;subst hm hdel;have esl:sl=#[k0,k1,k2,k3,some (.builtin n),k5]:=by cases sl with | mk l=>simp only at hs;rw[hs]
    subst esl;refine⟨bm,ns,nm,qn,bs,hd,sn,sub,ab,col,dd,k0,k1,k2,k3,k5,h.nsMap ns,KX _ _ ho,?_,PySem.W.nsMap_none_of_in KX hok hni,PySem.W.tail_of_in KX ht⟩;exact .of_isNs (PySem.W.isNs_of_in KX hok)
def M20(X:Cx)(E:XK):Prop:=∀ (pins:List (Ç × Obj)) (σ:St) (H:Hp) (s:Æ) (h':ê) (e:Ç) (cls:Ä) (vs:List Ä),Inv X pins σ H s->ê.MadeExcOf s.heap h' e cls vs->E cls (some e) H->X.xe (.ref e) { s with heap:=h' }
def t41{P:à}{w:í}{K:Â}{mg:Str->Option Ä}{base:ê}{N:List Str}{qual:Str}{scope:ë}{f:Ç}{cd:Ä}{A:ó}{outer:List Env}{s₀:Æ}{H₀:Hp}{E:XK} :
 M20 (G60 (CX1 P w) P w K mg base N qual scope f cd A outer s₀ H₀ E) E:=λ_ _ _ _ _ _ _ _ I hx he=>t31 I hx he
def o22(E:XK)(C:Ç)(t:TA):TS:=λ_ σ H=>t σ H λvs H1=>vs.length<=sizeLine/\∀ e,H1 e=none->E (.ref C) (some e) H1
section
variable {X:Cx}{x:Str}{C:Ç}{E:XK}{e₀:Ð}{rest:List Ð}{t:TA}{np cpos pos:Pos}
theorem J71(hE:M20 X E)(hc:X.calm=true)(hg:Gl X x)(hm:X.mg x=some (.ref C))(hq:Ì8 X.K C [.type "ValueError",.type "Exception",.type "BaseException",.type "object"] "ValueError.__new__"=true)(ha:PA X (e₀::rest) t)
 (hdb:(x == ("__debug__":Str))=false:=by decide) (he:ý (e₀::rest) X.env=(false,eval e₀ X.env)::ý rest X.env:=by rfl) (hpl:(Õ9 cpos (ý rest X.env)).any (·.1)=false:=by rfl) :
  PS X (.Raise (some (.Call (.Name x np) (e₀::rest) [] cpos)) none pos) (o22 E C t):=by
 intro pins s σ H D I h;obtain⟨bm,N,nm,q,bs,hdct,sn,sub,ab,col,dd,k0,k1,k2,k3,k5,mN,hC,hN,hni,T⟩:=Z91 I.ok.mod.kin hq;refine wpAny_Raise_call_subT (C:=C) (nm:=nm) (q:=q) (N:=N) (bs:=bs) (bm:=bm) (hdct:=hdct) (sn:=sn) (sub:=sub) (ab:=ab) (col:=col) (dd:=dd) (k0:=k0) (k1:=k1) (k2:=k2) (k3:=k3) (k5:=k5)
  Ü6 (mN:=mN) (T.hasType Ü6.hasBase) (I.ok.hd hc) (by rw[he];exact hpl) hni (J50 I hg hm ⟨rfl,?_⟩ hdb)
 have k:=ha cpos pins s σ H _ I h;rw[he] at k ⊢;refine á4 (thn k λus s2 ⟨vs,H2,I2,r,z,q⟩=>⟨rfl,by show us.length<=_;rw[← r.length];exact z,I2.bk _ _ hC,hN.keeps I2.bk,T.keeps I2.bk,λh' e hx=>?_⟩)
 refine hE pins σ H2 s2 h' e _ us I2 hx (q e ?_);cases z:H2 e with
 |none=>rfl|some o=>obtain⟨u,eu⟩:=(I2.hok e o z).there;rw[hx.new] at eu;cases eu
end
open PySem PySem.Spec PyProof.Rows PySem.W PySem.Builtin PySem.Builtin.ObjectAttr PySem.Builtin.Getset_descriptor
section
variable {prog:à}{w:í}{A:ó}{E:Ä->Æ->Prop}{K:Â}{h:ê}{gg:Array Þ1}{d:Drawn}{t:Nat}{os:OsState}{x D:Ç}{ox:Obj}
structure j20(K:PySem.W.Frag)(D:Addr):Prop where
 ga:findIn K (.ref D) "__getattribute__"=some (some (.builtin "BaseException.__getattribute__"))
 gh:findIn K (.ref D) "__getattr__"=some none
 mb:mroIn K D (.type "BaseException")=some true
 mo:mroIn K D (.type "object")=some true
 fc:findIn K (.ref D) "__class__"=some (some (.builtin "object.__class__"))
 fg:specialIn K (.builtin "object.__class__") "__get__"=some (some (.builtin "getset_descriptor.__get__"))
 ft:takesIn K (.builtin "object.__class__")=some true
def excAt(a D:Ç)(h:ê):Prop:=∃ ox,h.get? a=some ox/\ox.cls=.ref D
theorem excAt.ty{M:Model}{a D:Ç}{h:ê}(p:excAt a D h):Looks M h (typeOf (.ref a)) (.ref D):=by
 obtain⟨ox,e,c⟩:=p;rw[← c];exact(Looks.ld e).andThen .now
theorem J81{M:Model}(KX:K.In h)(L:j20 K D):Looks M h (find (.ref x) (.ref D) "__class__") (.bind (.builtin "getset_descriptor.__get__") (.builtin "object.__class__")):=by
 have l1:=looks_takesIn (M:=M) KX L.ft;have l2:Looks M h (dataDescriptor? (some (.builtin "object.__class__")) (some (.builtin "getset_descriptor.__get__"))) (some (.builtin "getset_descriptor.__get__",.builtin "object.__class__")):=l1.andThen .now;exact(looks_findIn KX L.fc).andThen ((looks_specialIn KX L.fg).andThen (l2.andThen (Looks.tag .now)))
theorem a02{R:Result->Æ->Prop}{tp:Ä}(KX:K.In h)(I:excAt x D h)(hm:mroIn K D (.type "object")=some true)(hq:R (.ok (.ret (.ref D))) ⟨h,gg,d,t,os⟩) :
  Ë8 (Ø prog w) A (.call (.builtin "getset_descriptor.__get__") ⟨[.builtin "object.__class__",.ref x,tp],[]⟩) R ⟨h,gg,d,t,os⟩:=by
 have L0:=I.ty (M:=Ø prog w);have L1:=looks_mroIn (M:=Ø prog w) KX hm
 (refine Ù8 KF.slot_gs.plain KF.entry_gs (KF.slot_gs.check _ _ _ _ _ _ _ _ KF.type_class (KF.args_gs _ _ _) ?_);unfold ÿ.«getset_descriptor.__get__» descrGet;rw[dga_obj];refine À (Å ?_);unfold descrGetter descrCheckInstance descrNameAndClass isInstance;simp only[KF.owner_class];repeat lk)
 (refine⟨Ø9 _ (by decide +kernel),Â1 KF.entry_class ?_⟩;unfold ÿ.«object.__class__» shownTypeOf;repeat lk)
 exact hq
theorem t51{M:Model}{nameV:Ä}{Q:Unit->Æ->Prop}(KX:K.In h)(I:excAt x D h)(L:j20 K D)(hq:Q () ⟨h,gg,d,t,os⟩) :
  Ñ M A (Õ1 "BaseException.__getattribute__" ⟨[.ref x,nameV],[]⟩) Q E ⟨h,gg,d,t,os⟩:=by
 have hkd:builtinKind "BaseException.__getattribute__"=some .slot:=by decide +kernel
 have hsp:splitId "BaseException.__getattribute__"=some ("BaseException","__getattribute__"):=by decide +kernel
 have L0:=I.ty (M:=M);have L1:=looks_mroIn (M:=M) KX L.mb;have ha:=F.args_bexc_ga (.ref x) nameV;simp only[Õ1,hkd,hsp];unfold isInstance;refine À (À (L0.at (L1.at ?_)))
 repeat (first | assumption | wp_step)
theorem t61{tk:Tok}{Q:Fin->Æ->Prop}(KX:K.In h)(I:excAt x D h)(L:j20 K D)(hq:Q (.done (.ret (.ref D))) ⟨h,gg,d,t,os⟩) :
  Ñ (Ø prog w) A (ÿ.«object.__getattribute__» ⟨[.ref x,.str "__class__" tk],[]⟩) Q E ⟨h,gg,d,t,os⟩:=by
 have L0:=I.ty (M:=Ø prog w);have L1:=J81 (M:=Ø prog w) (x:=x) KX L
 (unfold ÿ.«object.__getattribute__»);refine À (Å (À (Å (À (L0.at (À (L1.at ?_)))))))
 show Ñ _ _ (Ý6 [Ñ6 "object.__class__"] (call (.builtin "getset_descriptor.__get__") [.builtin "object.__class__",.ref x,.ref D]) >>= _) _ _ _;refine À (À6 (Õ8 (a02 KX I L.mo ?_)));exact Å hq
def J91{tk:Tok}{R:Result->Æ->Prop}(KX:K.In h)(I:excAt x D h)(L:j20 K D)(hq:R (.ok (.ret (.ref D))) ⟨h,gg,d,t,os⟩) :
  Ë8 (Ø prog w) A (.call (.builtin "BaseException.__getattribute__") ⟨[.ref x,.str "__class__" tk],[]⟩) R ⟨h,gg,d,t,os⟩:=
 Ù8 F.attr_ValueError.ga.plain F.entry_bexc_ga (t51 KX I L (t61 KX I L hq))
theorem o32{tk:Tok}{fill expr:Bool}{Q:Ä->Æ->Prop}(KX:K.In h)(I:excAt x D h)(L:j20 K D)(hq:Q (.ref D) ⟨h,gg,d,t,os⟩) :
  Ñ (Ø prog w) A (getAttrBy (.ref x) (.str "__class__" tk) fill expr) Q E ⟨h,gg,d,t,os⟩:=by
 have L0:=I.ty (M:=Ø prog w);have L1:=looks_findIn (M:=Ø prog w) KX L.ga;have L2:=looks_findIn (M:=Ø prog w) KX L.gh;have f3:=F.attr_ValueError.ga.bind (.ref x);have hno:(expr&&onTheHeap (Ñ6 "BaseException.__getattribute__"))=false:=by cases expr <;> rfl
 unfold getAttrBy
 (refine À6 (À (L0.at (À (L1.at ?_)))));
 show Ñ _ _ (getAttrByItsOwn _ _ _ _ _ _) _ _ _;unfold getAttrByItsOwn hookBefore;rw[if_pos (show onTheHeap (Á7 D)=true from rfl)];refine À (L2.at ?_);unfold callGetattribute;rw[hno,if_neg 1e1]
 unfold boundAndCalled
 (refine À (Ë5 (À6 ?_)))
 repeat (any_goals (first | assumption | (with_reducible refine Õ8 (J91 KX I L ?_)) | wp_step))
theorem K01(KX:K.In s.heap)(I:excAt x D s.heap)(L:j20 K D)(hq:Q (some (.ref D)) { s with toks:=s.toks + 1 }):Ñ (Ø prog w) A (getAttr? (.ref x) "__class__") Q E s:=by
 obtain⟨h,gg,d,t,os⟩:=s;unfold getAttr? getAttrBy?;refine À (wpAny_mkText (À (Ë5 (o32 KX I L ?_))));exact Å hq
theorem K11(L:j20 K D)(hd:hasDictIn K D=true):KitX K (.ref x) (.ref D) (excAt x D) where
 ty:=λ_ _ _ I=>I.ty
 it:=λM h KX _=>by
  obtain⟨cdD,hcD,_⟩:=any_some hd;unfold clsIn at hcD;split at hcD
  case h_2=>cases hcD
  case h_1 ho =>
   intro A' Q' E' s' k q;unfold isType loadHead;exact À (wpAny_loadPart (k _ _ (KX _ _ ho)) (Å q))
 ne:=λh tp dd its n sl KX htp=>by
  obtain⟨cdD,hcD,_⟩:=any_some hd;refine Bool.eq_false_iff.mpr λsame=>?_;cases Á7.inj (beq_iff_eq.mp same);unfold clsIn at hcD;split at hcD
  case h_2=>cases hcD
  case h_1 ho=>cases (KX _ _ ho).symm.trans htp
 ca:=λKX I k=>K01 KX I L k
end
def o42(H:Hp)(a D:Ç):Prop:=H a=some (.ext (excAt a D))
theorem l31{a D:Ç}{h1 h2:ê}(h:excAt a D h1)(k:∀ o,h1.get? a=some o->h2.get? a=some o):excAt a D h2:=by
 obtain⟨ox,e,c⟩:=h;exact⟨ox,k _ e,c⟩
section
variable {X:Cx}
theorem l41:g10 X (.builtin "isinstance") (λxs H Q=>∃ (a D:Ç) (c:V) (cv:Ä) (b:Bool),xs=[.ref a,c]/\((∃ C,c=.ref C/\cv=.ref C)\/∃ T,c=.ty T/\cv=.type T)/\o42 H a D/\j20 X.K D/\hasDictIn X.K D=true/\kitOne X.K (.ref D) cv=some b/\Q (.bl b) H):=by
 intro pins s σ H xs us Q I r h;obtain⟨a,D,c,cv,b,rfl,hc,hx,L,hd,e,q⟩:=h;obtain⟨u,w',rfl,rx,rt⟩:=vals2 r;cases (show u=Á7 a from rx);obtain⟨hp,_,_⟩:=(show h70 X.prog X.w H s.heap a (.ext (excAt a D)) from I.hok a _ hx);have fin:∀ tk,EP X pins σ Q (.bool b) { s with toks:=tk }:=λtk=>⟨.bl b,H,I.tok tk,rfl,q⟩;have ew:w'=cv:=by
  rcases hc with ⟨C,rfl,rfl⟩ | ⟨T,rfl,rfl⟩
  ·exact rt
  ·exact rt
 subst ew;exact kia_one (K11 L hd) I.kIn hp e (λz=>by rcases hc with ⟨C,_,rfl⟩ | ⟨T,_,rfl⟩ <;> exact nomatch z) fin
end
end L2
namespace L2
open PySem PySem.Spec PyProof.Rows
section
variable {X:Cx}{pins:List (Ç × Obj)}{σ:St}{H H':Hp}{s s':Æ}{B h4:ê}
theorem S21(I:Inv X pins σ H s)(os:s'.os=s.os)(bare:Ô1 s'.gens)(un:Un (frs X.stack) [] H H' s.heap s'.heap)(hok:HOk X.prog X.w H' s'.heap)(bB:InB B (frs X.stack) H' s.heap s'.heap)(kB:B.StaysIn h4)(sm:s'.heap.UpToSlots h4) :
 Inv X pins σ H' { s' with heap:=h4 }:=by
 have frN:∀ b∈frs X.stack,H' b=none:=λb hb=>by
  obtain⟨_,o,ho,_⟩:=I.stack.mem hb;exact un.free b o ho (I.w30 b hb) (by simp)
 have fr4:∀ b o,s.heap.get? b=some o->b∈frs X.stack->∃ sl,h4.get? b=some { o with slots:=sl }:=λb o e hb=>by
  obtain⟨sl,e1⟩:=un.slot b o e (I.w30 b hb) hb (by simp)
  obtain⟨_,o',ho',hd⟩:=I.stack.mem hb;rw[e] at ho';cases ho';obtain⟨sl',e2⟩:=sm b _ e1 hd;exact⟨sl',e2⟩
 have old:∀ b o,s.heap.get? b=some o->b ∉ frs X.stack->∃ u,s'.heap.get? b=some u/\h4.get? b=some u:=λb o e hn=>by
  obtain⟨o2,e2⟩:=un.there b o e (by simp)
  exact⟨o2,e2,kB b _ (bB b o2 e2 hn (.inl ⟨o,e⟩))⟩
 refine I.k72 (s':={ s' with heap:=h4 }) (ch:=[]) os ⟨λb o e n hb _=>?_,λb o e n hb _=>fr4 b o e hb,un.free,λb o e _=>?_,un.tups,un.frzs,un.tbls⟩ (λc o e=>?_) bare λb hb=>absurd hb (by simp)
 ·obtain⟨u,e1,e2⟩:=old b o e hb;have e3:=un.keep b o e n hb (by simp)
  rw[e1] at e3;cases e3;exact e2
 ·by_cases hb:b∈frs X.stack
  ·obtain⟨sl,e1⟩:=fr4 b o e hb;exact⟨_,e1⟩
  ·obtain⟨u,_,e2⟩:=old b o e hb;exact⟨u,e2⟩
 ·refine(hok c o e).j71 (λb u hb q=>?_) (λ_ q=>q) λ_ _ q=>q;have hbn:H' b≠none:=by
   rcases hb with rfl | hb
   ·rw[e];exact λz=>nomatch z
   ·rw[hb];exact λz=>nomatch z
  exact kB b _ (bB b u q (λhm=>hbn (frN b hm)) (.inr hbn))
theorem Inv.t71{h':ê}{m m':Str->Option Ä}{t':Nat}(I:Inv X pins σ H s)(hl:∀ (i:Nat) (x:Str) (v:V),X.N[i]?=some x->σ[i]?=some (some v)->Vis X.env.scope x->∃ u,RelV v u/\Look X.env s.heap m x u)
 (hn':h'.Ns X.env.locals m') (hs:Ì2 X.env.locals s.heap h') (hm:∀ (i:Nat) (x:Str),X.N[i]?=some x->m' x=m x):Inv X pins σ H { s with heap:=h',toks:=t' }:=by
 have oth:∀ b o,b≠X.env.locals->s.heap.get? b=some o->h'.get? b=some o:=λb o hb e=>(hs.2 b hb).trans e;have neL:∀ b o,X.s₀.heap.get? b=some o->b≠X.env.locals:=λb o e=>Õ (Ô (Þ e) I.ok.above);have cel:∀ x c v,X.env.cells.lookup x=some c->s.heap.IsCell c v->h'.IsCell c v:=λx c v e ⟨o,ho,hd⟩=>⟨o,oth c o (I.cne x c e) ho,hd⟩;refine⟨I.ok,I.os,I.bare,⟨λb o e n hb hx=>oth b o (neL b o e) (I.base.keep b o e n hb hx),λb o e n hb hx=>?_,I.base.free,λb o e hx=>?_,I.base.tups,I.base.frzs,I.base.tbls⟩,⟨m',hn',λi x v e1 e2 e3=>?_⟩,λx c e=>?_,I.free,I.freeC,λp hp=>?_,λc o e=>?_,I.len⟩
 ·obtain⟨sl,e1⟩:=I.base.slot b o e n hb hx;exact⟨sl,oth b _ (neL b o e) e1⟩
 ·obtain⟨o',e1⟩:=I.base.there b o e hx;exact⟨o',oth b _ (neL b o e) e1⟩
 ·obtain⟨u,r,l⟩:=hl i x v e1 e2 e3;refine⟨u,r,?_⟩;rcases l with ⟨k,z⟩ | ⟨k,c,ec,z⟩
  ·exact .inl ⟨k,(hm i x e1).trans z⟩
  ·exact .inr ⟨k,c,ec,cel x c _ ec z⟩
 ·obtain⟨v,z⟩:=I.cell x c e;exact⟨v,cel x c v e z⟩
 ·obtain⟨e,n,ne,nf,d⟩:=I.pin p hp;exact⟨oth _ _ ne e,n,ne,nf,d⟩
 ·refine(I.hok c o e).j71 (λb u hb q=>oth b u (λz=>?_) q) (λ_ q=>q) λ_ _ q=>q;rcases hb with rfl | hb
  ·rw[z,I.free] at e;cases e
  ·rw[z,I.free] at hb;cases hb
theorem Inv.S31{T:Ç}{o:HO}(I:Inv X pins σ H s)(nT:H T=none)(n0:X.s₀.heap.get? T=none)(hL:T≠X.env.locals)(hc:∀ x c,X.env.cells.lookup x=some c->c≠T)(hp:∀ p∈X.pn++pins,p.1≠T)(new:h70 X.prog X.w (upd H T o) s.heap T o) :
 Inv X pins σ (upd H T o) s:=by
 have u:=I.base;refine⟨I.ok,I.os,I.bare,⟨u.keep,u.slot,λb ob e n hx=>?_,u.there,λb xs e=>?_,λb ob xs e=>?_,λb ps e=>?_⟩,I.loc,I.cell,?_,λx c e=>?_,λp hpp=>?_,λc v e=>?_,I.len⟩
 ·rw[a50 (λz=>by rw[z,n0] at e;cases e)];exact u.free b ob e n hx
 ·have z:=u.tups b xs e;rw[a50 (a80 z nT)];exact z
 ·have z:=u.frzs b ob xs e;rw[a50 (a80 z nT)];exact z
 ·obtain⟨more,z⟩:=u.tbls b ps e;exact⟨more,by rw[a50 (a80 z nT)];exact z⟩
 ·rw[a50 hL.symm];exact I.free
 ·rw[a50 (hc x c e)];exact I.freeC x c e
 ·obtain⟨e,n,r⟩:=I.pin p hpp;exact⟨e,by rw[a50 (hp p hpp)];exact n,r⟩
 ·by_cases hcT:c=T
  ·subst hcT;rw[a70] at e;cases e;exact new
  ·rw[a50 hcT] at e;exact(I.hok c v e).j71 (λ_ _ _ q=>q) (λb q=>by rw[a50 (a80 q nT)];exact q) λb xs q=>by rw[a50 (a80 q nT)];exact q
end
structure Y50(P:Program)(w:World)(K:PySem.W.Frag)(mg:Str->Option Value)(base:Heap)(CX:CXT)(k:Nat)(f:Addr)(fd:FuncData)(ps:List Str)(sp:Shared->Sp):Prop where
 len:∀ s vs H Q E,sp s vs H Q E->vs.length=ps.length
 run:∀ (A:Around) (outer:List Env) (s:Shared) (H:Hp) (args:Args) (us:List Value) (vs:List V) (Q:VK) (E:XK),w40 k A->W71 P w K mg base A outer s H->BindsTo s fd args (ps.zip us)->Vals vs us->sp s vs H Q E ->
  codeAny (model P w) A (.call (.ref f) args) (CR CX outer P w H s Q E) s
theorem o52{CX:CXT}{P:à}{w:í}{K:Â}{mg:Str->Option Ä}{base:ê}{k:Nat}{f:Ç}{name qual:Str}{params:Ê5}{body:List Á5}{scope:ë}{dV kV doc pm cdv ct oc:Ä}{an od:Option Ç}
 {osl:Array (Option Ä)}{N ps:List Str}{sp:Æ->Sp} (lk:K.lookup f=some ⟨oc,od,.func (fnOf name qual params body scope dV kV doc pm an cdv ct),osl⟩) (hcd:PySem.W.codeIn K cdv qual=true) (S:l00 N ps scope)
 (len:∀ s vs H Q E,sp s vs H Q E->vs.length=ps.length)
 (hbody:∀ (A:ó) (outer:List Env) (s:Æ) (H:Hp) (vs:List V) (Q:VK) (E:XK),w40 k (A.deeper (Ð1 qual scope s.heap.objs.size f cdv))->sp s vs H Q E ->
   ∃ t,PSs (G60 CX P w K mg base N qual scope f cdv A outer s H E) body t/\t { nx:=λ_ H'=>Q .non H',rt:=Q } (start N vs) H) :
  Y50 P w K mg base CX (k + 1) f (fnOf name qual params body scope dV kV doc pm an cdv ct) ps sp:=by
 refine⟨len,λA outer s H args us vs Q E hr e0 hb r hsp=>?_⟩;have hl:=len _ _ _ _ _ hsp;have KX:K.In s.heap:=e0.mod.kin.keeps λb o e=>(e0.bs b o e).1;have lim:s.heap.NoLimit:=e0.mod.nolimit.keeps λb o e=>(e0.bs b o e).1;have hkind:∀ y∈ps.zip us,scope.names.lookup y.1=some .local\/(scope.names.lookup y.1=some .cell/\((cellsFrom (s.heap.objs.size + 1) scope.names []).lookup y.1).isSome=true):=λ⟨n,v⟩ hy=>by
  rcases S.par n (of_mem_zip hy).1 with q | q
  ·exact .inl q
  ·exact .inr ⟨q,cellsFrom_some _ _ _ (.inl q)⟩
 refine codeAny_call_function hr.depth (KX _ _ lk) rfl S.co S.gen rfl (codeRec_of KX hcd) (hb _ _ _ _ ?_);refine à9 S.kind hkind λenv he s1 x=>?_;subst he;refine⟨lim.keeps x.toInCall.keep,codeAny_func ?_⟩;obtain⟨t,ht,hq⟩:=hbody A outer s H vs Q E (hr.deeper _) hsp;have I:Inv (G60 CX P w K mg base N qual scope f cdv A outer s H E) [] (start N vs) H s1:=R30 S hr.hd e0 hl r x;refine Á9 (ht [] s1 (start N vs) H _ I hq) (λfl s' hs=>?_) λe s' hs=>hs;have fin:∀ {σ':St}{H':Hp}{v:V}{u:Ä},Inv (G60 CX P w K mg base N qual scope f cdv A outer s H E) [] σ' H' s'->RelV v u->Q v H'->CE outer P w H s Q u s':=
  λ{σ' H' v u} J rv q=>⟨v,H',J.os,J.bare,J.base,J.hok,rv,q⟩
 cases fl with
 |ret u =>
  obtain⟨v,σ',H',J,rv,q⟩:=hs;exact fin J rv q
 |next =>
  obtain⟨σ',H',J,q⟩:=hs;exact fin (v:=V.non) (u:=ä) J rfl q
 |brk =>
  obtain⟨_,_,_,q⟩:=hs;exact À0 q
 |cont =>
  obtain⟨_,_,_,q⟩:=hs;exact À0 q
theorem Fun.okS{P:à}{w:í}{K:Â}{mg:Str->Option Ä}{base:ê}{x qual:Str}{st:Á5}{f:Ç}{fd:Ã0}{N ps:List Str}{k:Nat}{sp:Æ->Sp}(F:Fun K x qual st f fd)(S:l00 N ps (c20 st))(len:∀ s vs H Q E,sp s vs H Q E->vs.length=ps.length)
 (hb:∀ (cdv:Ä) (A:ó) (outer:List Env) (s:Æ) (H:Hp) (vs:List V) (Q:VK) (E:XK),w40 k (A.deeper (Ð1 qual (c20 st) s.heap.objs.size f cdv))->sp s vs H Q E ->
   ∃ t,PSs (G60 CX0 P w K mg base N qual (c20 st) f cdv A outer s H E).nox (j10 st) t/\t { nx:=λ_ H'=>Q .non H',rt:=Q } (start N vs) H):Y50 P w K mg base CX0 (k + 1) f fd ps sp:=by
 obtain⟨oc,od,kV,doc,pm,an,cdv,ct,osl,rfl,lk,hcd⟩:=F.ex;refine o52 lk hcd S len λA outer s H vs Q E hr hsp=>?_;obtain⟨t,h,q⟩:=hb cdv A outer s H vs Q E hr hsp;exact⟨t,h.nox,q⟩
def M30(P:à)(w:í)(K:Â)(mg:Str->Option Ä)(base:ê)(N:List Str)(qual:Str)(scope:ë)(f:Ç)(cd:Ä)(cl:List (Str × Ç))(A:ó)(outer:List Env)(s:Æ)(H:Hp)(E:XK):Cx where
 prog:=P
 w:=w
 K:=K
 mg:=mg
 base:=base
 A:=A.deeper (envX qual scope s.heap.objs.size f cd cl)
 N:=N
 s₀:=s
 H₀:=H
 env:=envX qual scope s.heap.objs.size f cd cl
 outer:=outer
 stack:=envX qual scope s.heap.objs.size f cd cl::outer
 ex:=[]
 calm:=true
 fn:=λ_=>false
 pn:=[]
 xe:=λe s'=>Ñ (Ø P w) (A.deeper (envX qual scope s.heap.objs.size f cd cl)) (leaving (envX qual scope s.heap.objs.size f cd cl) e) (λ_ s''=>CX1 P w outer H s E e s'') (λe' s''=>CX1 P w outer H s E e' s'') s'
section
variable {P:à}{w:í}{K:Â}{mg:Str->Option Ä}{base:ê}{N:List Str}{qual:Str}{scope:ë}{f:Ç}{cd:Ä}{cl:List (Str × Ç)}{A:ó}{outer:List Env}{s₀:Æ}{H₀:Hp}{E:XK}
theorem a12:Passes (CX1 P w) (M30 P w K mg base N qual scope f cd cl A outer s₀ H₀ E) E:=by
 intro pins σ H s e s' I h;obtain⟨a,cls,a0,H',B,rfl,os,bare,un,hok,fl,na,bB,he⟩:=h;show Ñ _ _ (leaving _ _) _ _ _;refine wpAny_leaves_onW I.ok.frames rfl fl λh'' fl' sm=>?_;exact Y40 (X:=M30 P w K mg base N qual scope f cd cl A outer s₀ H₀ E) (s':=s') rfl rfl rfl I os bare un hok bB na fl' sm he
structure G70(scope:Scope)(cl:List (Str × Addr))(N:List Str)(vs:List V)(H:Hp)(h:Heap):Prop where
 inj:∀ x y c,cl.lookup x=some c->cl.lookup y=some c->x=y
 has:∀ x,(scope.names.lookup x=some .cell\/scope.names.lookup x=some .free)->∃ c,cl.lookup x=some c
 cell:∀ x c,cl.lookup x=some c->∃ v,h.IsCell c v
 free:∀ x c,cl.lookup x=some c->H c=none
 val:∀ (i:Nat) (x:Str) (v:V),N[i]?=some x->vs[i]?=some v->scope.names.lookup x=some .free/\∃ c u,cl.lookup x=some c/\RelV v u/\h.IsCell c (some u)
 len:vs.length=N.length
theorem a22{vs:List V}{h₁:ê}{t:Nat}(e0:W71 P w K mg base A outer s₀ H₀)(hd:A.handled=none)(hk:scope.kind=.function)(FR:G70 scope cl N vs H₀ s₀.heap)(hns:h₁.Ns s₀.heap.objs.size λ_=>none)
  (hkp:∀ b o,s₀.heap.get? b=some o->h₁.get? b=some o) :
  Inv (M30 P w K mg base N qual scope f cd cl A outer s₀ H₀ E) [] (vs.map some) H₀ { s₀ with heap:=h₁,toks:=t }:=by
 have noA:∀ b:Ç,b ∉ (M30 P w K mg base N qual scope f cd cl A outer s₀ H₀ E).ex:=λb z=>absurd (show b∈([]:List Ç) from z) (by simp)
 have cel:∀ c v,s₀.heap.IsCell c v->h₁.IsCell c v:=λc v ⟨o,ho,hd⟩=>⟨o,hkp c o ho,hd⟩;refine⟨⟨e0.mod,hk,rfl,rfl,Î _,FR.inj,FR.has,(λ_ _ z=>nomatch z),(λ_=>hd),à8 e0.frames,.inr ⟨rfl,rfl⟩,λb z=>absurd z (noA b),e0.bs,e0.bsz,λb _ _=>noA b,λb z=>absurd z (noA b),e0.j81,e0.frf⟩,
  rfl,e0.bare,Un.kept hkp,⟨_,hns,λi x v h1 h2 h3=>?_⟩,λx c h=>?_,e0.hok.fresh (Î _),FR.free,λp hp=>absurd (show p∈([]:List (Ç × Obj)) from hp) (by simp),e0.hok.kept hkp,?_⟩
 ·have hv:vs[i]?=some v:=by
   rw[Û] at h2;cases e:vs[i]? with
   |none=>rw[e] at h2;cases h2
   |some a=>rw[e] at h2;cases h2;rfl
  obtain⟨k,c,u,ec,r,z⟩:=FR.val i x v h1 hv;exact⟨u,r,.inr ⟨.inr k,c,ec,cel c _ z⟩⟩
 ·obtain⟨v,z⟩:=FR.cell x c h;exact⟨v,cel c v z⟩
 ·rw[È];exact FR.len
end
def recAt(c:Ç)(qual:Str):ê->Prop:=λh=>h.CodeRec (.ref c) qual
theorem H50{c:Ç}{qual:Str}{h1 h2:ê}(h:recAt c qual h1)(k:∀ o,h1.get? c=some o->h2.get? c=some o):recAt c qual h2:=by
 obtain⟨c',oc,vs,tq,e,ho,hd,hq⟩:=h;cases e;exact⟨c,oc,vs,tq,rfl,k _ ho,hd,hq⟩
section
variable {P:à}{w:í}{K:Â}{mg:Str->Option Ä}{base:ê}{N:List Str}{qual:Str}{scope:ë}{f c':Ç}{cl:List (Str × Ç)}{s₀:Æ}{H₀:Hp}{k:Nat}{pm ctv cls:Ä}{params:Ê5}{body:Ð}{vs:List V}
theorem G70.later{outer:List Env}{H:Hp}{s:Æ}(FR:G70 scope cl N vs H₀ s₀.heap)(un:Un (frs outer) [] H₀ H s₀.heap s.heap):G70 scope cl N vs H s.heap:=by
 have cel:∀ x c v,cl.lookup x=some c->s₀.heap.IsCell c v->s.heap.IsCell c v:=λx c v e ⟨o,ho,hd⟩=>by
  obtain⟨sl,e1⟩:=un.any ho (FR.free x c e) (by simp)
  exact⟨_,e1,hd⟩
 refine⟨FR.inj,FR.has,λx c e=>?_,λx c e=>?_,λi x v h1 h2=>?_,FR.len⟩
 ·obtain⟨v,z⟩:=FR.cell x c e;exact⟨v,cel x c v e z⟩
 ·obtain⟨v,o,ho,_⟩:=FR.cell x c e;exact un.free c o ho (FR.free x c e) (by simp)
 ·obtain⟨k,c,u,ec,r,z⟩:=FR.val i x v h1 h2;exact⟨k,c,u,ec,r,cel x c _ ec z⟩
end
def Tab(H:Hp)(P:Ç)(qual:Str):Prop:=∃ ps:Array Ä,H P=some (.tbl ps)/\ß5 ps.toList/\∀ pos c,Ú3 pos ps.toList=some c->∃ c',c=.ref c'/\H c'=some (.ext (recAt c' qual))
theorem l51{line col:Int}{pos':Pos}{c c2:Ä}(tl:List Ä)(h:ß5 tl)(e:Ú3 pos' (tl++[Ã9 line,Ã9 col,c])=some c2):c2=c\/Ú3 pos' tl=some c2:=by
 fun_induction ß5 tl with
 |case1 =>
  simp only[Í4,Ú3,Ã9] at e;split at e
  ·cases e;exact .inl rfl
  ·cases e
 |case2 a t b u x rest ih =>
  simp only[List.cons_append,Ú3] at e ⊢;split at e
  ·rename_i hc;rw[if_pos hc];exact .inr e
  ·rename_i hc;rw[if_neg hc];exact ih h e
 |case3 tl h1 h2=>exact h.elim
theorem K21(hf:∀ y∈lsc.names,y.2=.free->∃ c,env.cells.lookup y.1=some c):∃ cl,closureFor lsc env=pure cl/\(∀ x c,cl.lookup x=some c->env.cells.lookup x=some c)/\∀ y∈lsc.names,y.2=.free->∃ c,cl.lookup y.1=some c:=by
 obtain⟨cl,e,h1,_,h3⟩:=K80 env lsc.names [] hf (λx c z=>by simp at z)
 refine⟨cl,?_,h1,h3⟩;unfold closureFor
 first
  |(rw[show(forIn lsc.names ([]:List (Str × Ç)) _:Sem _)=_ from e];rfl)
  |(simp only[bind_pure];exact e)
structure D40(P:Addr)(H H':Hp):Prop where
 same:∀ b o,b≠P->H b=some o->H' b=some o
section
variable {X:Cx}{pins:List (Ç × Obj)}{σ:St}{H:Hp}{s:Æ}{c P:Ç}{qual:Str}{params:Ê5}{body:Ð}{lsc:ë}{lpos:Pos}{A:ó}{Q:Ä->Æ->Prop}{E:Ä->Æ->Prop}
theorem K31(I:Inv X pins σ H s)(hdef:defaultsOf params X.env=([],[]))(hcode:X.env.code=.ref c)(hhd:Å1 X.K c P=true)(TB:Tab H P qual)(hqu:X.env.qual++"<lambda>"=qual)
 (hbm:∃ bm ob,X.mg "__builtins__"=some (.ref bm)/\bm≠Î3/\X.base.get? bm=some ob/\ob.cls=.type "module"/\ob.dict=some Î3/\ob.data=.plain)
 (hfr:∀ y∈lsc.names,y.2=.free->∃ c,X.env.cells.lookup y.1=some c)
 (k:∀ (cl:List (Str × Ç)) (f c':Ç) (pm ctv:Ä) (h2:ê) (tk:Tok) (H2:Hp),(∀ x c,cl.lookup x=some c->X.env.cells.lookup x=some c)->(∀ y∈lsc.names,y.2=.free->∃ c,cl.lookup y.1=some c) ->
   Inv X pins σ H2 { s with heap:=h2,toks:=tk }->Tab H2 P qual->D40 P H H2->(∃ o,h2.get? f=some o/\o.data=.func (kla_fn "<lambda>" qual params body lsc cl pm (.ref c') ctv))->H2 f=none->H2 c'=some (.ext (recAt c' qual))->s.heap.objs.size<=f ->
   Q (.ref f) { s with heap:=h2,toks:=tk }):Ñ (Ø X.prog X.w) A (eval (.Lambda params body lsc lpos) X.env) Q E s:=by
 refine PySem.W.kla_eval hdef ?_;rw[hqu];obtain⟨cl,ecl,cl1,cl2⟩:=K21 hfr;obtain⟨ps,hP,ht,hall⟩:=TB;have hPt:s.heap.get? P=some (È6 ps):=I.hok P _ hP;have hg:=I.mod.glob.keeps I.bk;have bsN:∀ b o,X.base.get? b=some o->b≠P:=λb o e z=>by have:=(I.bs b o e).2;rw[z,hP] at this;cases this
 have hgP:ç≠P:=by obtain⟨o,_,_,e,_⟩:=I.mod.glob;exact bsN _ o e
 obtain⟨bm,ob,b1,b2,b3,b4,b5,b6⟩:=hbm;have hbGl:bm≠mainGlobals:=λq=>by
  obtain⟨o,es,ep,e,hd,_⟩:=I.mod.glob;rw[q,e] at b3;(cases b3;rw[hd] at b6;cases b6)
 have BA:s.heap.BuiltinsAt X.mg P:=⟨bm,ob,b1,b2,hbGl,bsN _ _ b3,I.bk _ _ b3,b4,b5,b6⟩;have CH:=codeHd_of_K I.kIn hhd;cases hca:Ú3 lpos ps.toList with
 |some cv =>
  obtain⟨c',rfl,hc'⟩:=hall lpos cv hca;refine PySem.W.kla_makeFunctionHit ecl I.ok.glob hg hcode CH hPt ht hca BA λctv h' tk hk hsz=>?_;have kp:∀ b o,s.heap.get? b=some o->(h'.push { cls:=.type "function",data:=.func (kla_fn "<lambda>" qual params body lsc cl ((X.mg "__name__").getD .none) (.ref c') ctv) }).get? b=some o:=λb o e=>Ã _ (hk b o e);have nf:H h'.objs.size=none:=I.hok.fresh hsz;exact k cl h'.objs.size c' _ ctv _ tk H cl1 cl2 (I.kept (t':=tk) kp) ⟨ps,hP,ht,hall⟩ ⟨λ_ _ _ e=>e⟩ ⟨_,Ê _ rfl,rfl⟩ nf hc' hsz
 |none =>
  refine PySem.W.kla_makeFunction ecl I.ok.glob hg hcode CH hPt ht hca hgP BA λc' ctv h' tk hx hge hlt hrec htb=>?_;have lP:P < s.heap.objs.size:=Þ hPt;have cP:c'≠P:=Ê7 (Ô lP hge);have nC:H c'=none:=I.hok.fresh hge;have kp:∀ b o,b≠P->s.heap.get? b=some o->(h'.push (kla_obj "<lambda>" qual params body lsc cl ((X.mg "__name__").getD .none) c' ctv)).get? b=some o:=λb o hb e=>Ã _ (hx b o hb e);have tb:(h'.push (kla_obj "<lambda>" qual params body lsc cl ((X.mg "__name__").getD .none) c' ctv)).get? P=some (È6 (ps++#[Ã9 lpos.line,Ã9 lpos.col,.ref c'])):=Ã _ htb;have rc:recAt c' qual (h'.push (kla_obj "<lambda>" qual params body lsc cl ((X.mg "__name__").getD .none) c' ctv)):=H50 hrec λo q=>Ã _ q;have h2P:upd (upd H P (.tbl (ps++#[Ã9 lpos.line,Ã9 lpos.col,.ref c']))) c' (.ext (recAt c' qual)) P=some (.tbl (ps++#[Ã9 lpos.line,Ã9 lpos.col,.ref c'])):=by rw[a50 cP.symm];exact a70
  have oth:∀ b,b≠P->b≠c'->upd (upd H P (.tbl (ps++#[Ã9 lpos.line,Ã9 lpos.col,.ref c']))) c' (.ext (recAt c' qual)) b=H b:=λb h1 h2=>by rw[a50 h2,a50 h1]
  have neC:∀ b o,H b=some o->b≠c':=λb o e=>a80 e nC;have I2:Inv X pins σ (upd (upd H P (.tbl (ps++#[Ã9 lpos.line,Ã9 lpos.col,.ref c']))) c' (.ext (recAt c' qual))) { s with heap:=h'.push (kla_obj "<lambda>" qual params body lsc cl ((X.mg "__name__").getD .none) c' ctv),toks:=tk }:=by
   have nP:∀ b,H b=none->b≠P:=λb n z=>by rw[z,hP] at n;cases n
   refine I.step (g':=s.gens) (d':=s.drawn) (ch:=[]) (λb hb=>absurd hb (by simp)) (λb o _ _ _ e n=>kp b o (nP b n) e) (λb o _ _ _ e n=>⟨o.slots,kp b o (nP b n) e⟩) (λb o _ e n=>?_) (λb o _ e=>?_) (λb xs e=>?_) (λb o u e=>?_) (λb qs e=>?_) (λm hm=>?_) (λb u e=>?_) I.bare
   ·rw[oth b (nP b n) (Õ (Ô (Þ e) hge))];exact n
   ·by_cases hb:b=P
    ·subst hb;exact⟨_,tb⟩
    ·exact⟨o,kp b o hb e⟩
   ·rw[oth b (λz=>by rw[z,hP] at e;cases e) (neC b _ e)];exact e
   ·rw[oth b (λz=>by rw[z,hP] at e;cases e) (neC b _ e)];exact e
   ·by_cases hb:b=P
    ·subst hb;rw[hP] at e;cases e;exact⟨_,h2P⟩
    ·exact⟨#[],by rw[oth b hb (neC b _ e),e];simp⟩
   ·obtain⟨o,es,ep,ho,r⟩:=hm;exact⟨o,es,ep,kp _ o (nP _ I.free) ho,r⟩
   ·by_cases hbc:b=c'
    ·subst hbc;rw[a70] at e;cases e;obtain⟨_,oc,_,_,e1,e2,_⟩:=id rc;cases e1;exact⟨rc,⟨oc,e2⟩,λh1 h2 p kk=>H50 p kk⟩
    ·by_cases hb:b=P
     ·subst hb;rw[h2P] at e;cases e;exact tb
     ·rw[oth b hb hbc] at e;refine(I.hok b u e).j71 (λb2 u2 hb2 q=>kp b2 u2 (λz=>?_) q) (λb2 q=>?_) λb2 xs q=>?_
      ·rcases hb2 with y | y
       ·exact hb (y.symm.trans z)
       ·rw[z,hP] at y;cases y
      ·rw[oth b2 (λz=>by rw[z,hP] at q;cases q) (neC b2 _ q)];exact q
      ·rw[oth b2 (λz=>by rw[z,hP] at q;cases q) (neC b2 _ q)];exact q
  have lf:s.heap.objs.size<=h'.objs.size:=Ç5 (Å8 hge hlt);refine k cl h'.objs.size c' _ ctv _ tk _ cl1 cl2 I2 ⟨_,h2P,?_,λpos cc e=>?_⟩ ⟨λb o hb e=>by rw[oth b hb (neC b _ e)];exact e⟩ ⟨_,Ê _ rfl,rfl⟩ ?_ a70 lf
  ·rw[Array.toList_append];exact TriplesOk_snoc _ _ _ _ ht
  ·rw[Array.toList_append] at e;rcases l51 _ ht e with z | z
   ·exact⟨c',z,a70⟩
   ·obtain⟨c2,rfl,hc2⟩:=hall pos cc z;exact⟨c2,rfl,by rw[oth c2 (λy=>by rw[y,hP] at hc2;cases hc2) (neC c2 _ hc2)];exact hc2⟩
  ·rw[oth _ (Ê7 (Ô lP lf)) (Ê7 hlt)];exact I.hok.fresh lf
end
def BMain(mg:Str->Option Ä)(h:ê):Prop:=∃ bm ob,mg "__builtins__"=some (.ref bm)/\bm≠Î3/\h.get? bm=some ob/\ob.cls=.type "module"/\ob.dict=some Î3/\ob.data=.plain
def o62{P:à}{w:í}{X:Cx}:Passes (CX1 P w) X (λ_ _ _=>False):=λ_ _ _ _ _ _ _ h=>by
 obtain⟨_,_,_,_,_,_,_,_,_,_,_,_,_,e⟩:=h;exact e.elim
theorem Tab.same{H H':Hp}{P:Ç}{q:Str}(t:Tab H P q)(s:a20 H H'):Tab H' P q:=by
 obtain⟨ps,e,tr,h⟩:=t;refine⟨ps,s _ _ e,tr,λpos c hc=>?_⟩;obtain⟨c',e1,e2⟩:=h pos c hc;exact⟨c',e1,s _ _ e2⟩
def FnL(P:à)(w:í)(H₀:Hp)(s₀:Æ)(f:Ç)(fd:Ã0):Prop:=∀ (outer:List Env) (s:Æ) (H:Hp),Un (frs outer) [] H₀ H s₀.heap s.heap->a20 H₀ H->HOk P w H s.heap->∃ c d sl,s.heap.get? f=some ⟨c,d,.func fd,sl⟩
def FnL.new{P:à}{w:í}{H₀:Hp}{s₀:Æ}{f:Ç}{fd:Ã0}(ho:∃ o,s₀.heap.get? f=some o/\o.data=.func fd)(nf:H₀ f=none):FnL P w H₀ s₀ f fd:=λouter s H un _ _=>by
 obtain⟨⟨c,d,dt,sl⟩,e,hd⟩:=ho;have hd:dt=.func fd:=hd;subst hd;obtain⟨sl,h⟩:=un.any e nf (by simp)
 exact⟨_,_,sl,h⟩
structure y90(P:Program)(w:World)(K:PySem.W.Frag)(mg:Str->Option Value)(base:Heap)(k:Nat)(f:Addr)(H₀:Hp)(s₀:Shared)(cls:Value)(RR:Hp->Prop):Prop where
 fn:∃ fd,FnL P w H₀ s₀ f fd
 run:∀ (A:Around) (outer:List Env) (s:Shared) (H:Hp),w40 k A->W71 P w K mg base A outer s H->Un (frs outer) [] H₀ H s₀.heap s.heap->a20 H₀ H ->
  codeAny (model P w) A (.call (.ref f) ⟨[],[]⟩) (CR (CX1 P w) outer P w H s (λ_ _=>False) λc _ H'=>c=cls/\RR H') s
def E72(X:Cx)(i j:Nat)(f C:Ç)(RR:Hp->Prop):TS:=λD σ H=>σ[i]?=some (some (.ref f))/\a20 X.H₀ H/\∀ a H',RR H'->H' a=none->D.nx (σ.set j (some (.ref a))) (upd H' a (.ext (excAt a C)))
section
variable {X:Cx}{k i j:Nat}{f C D:Ç}{x y z n:Str}{p1 p2 p3 p4 p5 p6 p7 p8 p9:Pos}
theorem t81(hx0:X.ex=[])(hS:X.stack=X.env::X.outer)(hf:X.env.frame=some X.env.locals)(hr:w40 k X.A)(th:y90 X.prog X.w X.K X.mg X.base k f X.H₀ X.s₀ (.ref C) RR)
 (hy:X.N[i]?=some y) (vy:Vis X.env.scope y) (dy:(y == ("__debug__":Str))=false) (cy:(y == ("__classdict__":Str))=false)
 (hg:Gl X x) (hm:X.mg x=some (.ref D)) (dx:(x == ("__debug__":Str))=false) (he:PySem.W.exmOne X.K (.ref C) (.ref D)=some true)
 (hn:X.env.kindOf n=some .local) (nN:n ∉ X.N) (dn:(n == ("__debug__":Str))=false) (hN:X.N.Nodup) (hz:X.N[j]?=some z) (lz:Loc X.env.scope z) (hfn:X.fn z=true) :
 PS X (.Try [.Expr (.Call (.Name y p1) [] [] p2) p3] [.ExceptHandler (some (.Name x p4)) (some n) [.Assign [.Name z p5] (.Name n p6) p7] p8] [] [] p9) (E72 X i j f C RR):=by
 intro pins s σ H Dd I h;obtain⟨eσ,sH,q⟩:=h;have U0:Un (frs X.stack) [] X.H₀ H X.s₀.heap s.heap:=by
  have u:=I.base;rw[hx0] at u;exact u.mono (λb hb=>by rw[hS];unfold frs;rw[Á4,hf];exact Ë _ hb) λb hb=>hb
 obtain⟨fd,hfd⟩:=th.fn;obtain⟨c0,d0,sl,hof⟩:=hfd X.stack s H U0 sH I.hok;have hkind:(X.env.scope.kind == .class || (X.env.scope.kind == .module&&X.env.locals != X.env.globals))=false:=by rw[I.ok.kind];rfl
 refine wpAny_Try_except (Õ0 ?_);refine wpAny_Expr_any ?_ I.quiet rfl;refine Ì4 ?_;have ld:∀ {Q:Ä->Æ->Prop}{E:Ä->Æ->Prop},Q (.ref f) s->Ñ (Ø X.prog X.w) X.A (eval (.Name y p1) X.env) Q E s:=λ{Q E} hq=>by
  obtain⟨m,hnm,hl⟩:=I.loc;obtain⟨u,r,l⟩:=hl i y _ hy eσ vy;cases (show u=Á7 f from r);rcases l with ⟨hk,hv⟩ | ⟨hk,c,hc,hcell⟩
  ·exact Î1 (Ï0 I.ok.kind hk hnm hv hq) dy
  ·rcases hk with hk | hk
   ·exact Î1 (wpAny_loadName_cell I.ok.kind hk hc hcell hq) dy
   ·exact Î1 (wpAny_loadName_free I.ok.kind hk hc hcell hq cy) dy
 refine ld ?_;refine PySem.W.callWith_of (P:=λh=>h.get? f=some ⟨c0,d0,.func fd,sl⟩) rfl (λh e=>⟨.frame,.inl rfl,?_⟩) (evalArgs_nil3 ⟨hof,?_⟩)
 ·exact(Î6 (part:=none) e).andThen .now
 refine Õ8 (È5 (th.run X.A X.stack s H hr I.D02 U0 sH) λr s1 hq=>?_);cases r with
 |ok fl =>
  cases fl with
  |ret u=>obtain⟨_,_,_,_,_,_,_,z⟩:=hq;exact z.elim
  |next=>exact À0 hq
  |brk=>exact À0 hq|cont=>exact À0 hq
 |error e =>
  obtain⟨a,cls,a0,H1,B,rfl,os1,bare1,un,hok,fl,na,bB,rfl,s1H⟩:=hq;have nA:s.heap.get? a=none:=by
   cases ea:s.heap.get? a with
   |none=>rfl
   |some o =>
    exfalso;obtain⟨oe,vs,hoe,_,hde,_⟩:=fl.first;by_cases hb:a∈frs X.stack
    ·obtain⟨sl',e1⟩:=un.slot a o ea (I.w30 a hb) hb (by simp)
     obtain⟨_,o',ho',hd'⟩:=I.stack.mem hb;rw[ea] at ho';cases ho';rw[hoe] at e1;cases e1;exact hd' vs hde
    ·have:=bB a oe hoe hb (.inl ⟨o,ea⟩);rw[fl.2.1] at this;cases this
  have n0:X.s₀.heap.get? a=none:=by
   cases ea:X.s₀.heap.get? a with
   |none=>rfl
   |some o =>
    obtain⟨o',e1⟩:=U0.there a o ea (by simp)
    rw[nA] at e1;cases e1
  have aL:a≠X.env.locals:=λz=>by
   obtain⟨m,⟨o,_,_,ho,_⟩,_⟩:=I.loc;rw[z,ho] at nA;cases nA
  have aC:∀ x c,X.env.cells.lookup x=some c->c≠a:=λx c e z=>by
   obtain⟨v,o,ho,_⟩:=I.cell x c e;rw[z,nA] at ho;cases ho
  have aP:∀ p∈X.pn++pins,p.1≠a:=λp hp z=>by
   have:=(I.pin p hp).1;rw[z,nA] at this;cases this
  refine wpAny_looks_onW (I.ok.frames.trans (by rw[hS])) hf (by rw[← hS];exact fl) λh2 held2 sm2=>?_
  refine wpAny_landsW held2 λh3 fl3 sm3=>?_;have I3:Inv X pins σ H1 { s1 with heap:=h3 }:=S21 I os1 bare1 un hok bB fl3.1 (sm2.trans sm3);have at3:excAt a C h3:=by obtain⟨oe,e1,e2⟩:=fl3.there;exact⟨oe,e1,e2⟩
  refine wpAny_handleBy_cons (codeAny_handlers_test ?_) (λz=>nomatch z);refine Ï5 I3.ok.kind hg (à1 (by rw[I3.ok.glob];exact I3.mod.glob.keeps I3.bk) hm ?_) dx
  refine(PySem.W.exm_one (h:=h3) I3.kIn at3.ty he).here ?_;refine codeAny_handlers_suite_as (lands_againW fl3 λh4 fl4 sm4=>?_);have I4:Inv X pins σ H1 { s1 with heap:=h4 }:=S21 I os1 bare1 un hok bB fl4.1 ((sm2.trans sm3).trans sm4);have at4:excAt a C h4:=by obtain⟨oe,e1,e2⟩:=fl4.there;exact⟨oe,e1,e2⟩
  obtain⟨m4,hn4,hl4⟩:=id I4.loc;refine Ö5 hn hn4 (λh5 hn5 hs5=>?_) hkind;have offN:∀ (i:Nat) (x:Str),X.N[i]?=some x->x≠n:=λi x e z=>nN (by rw[← z];exact æ e)
  have I5:Inv X pins σ H1 { s1 with heap:=h5,toks:=s1.toks + 1 }:=Inv.t71 (s:={ s1 with heap:=h4 }) I4 hl4 hn5 hs5 λi x e=>if_neg (offN i x e);refine Õ0 (wpAny_Assign_Name ?_ rfl);refine Î1 (Ï0 I.ok.kind hn hn5 (if_pos rfl) ?_) dn;refine C20 (v:=.ref a) I5 hN hz lz rfl (λs6 I6 hsame=>?_) (.inl hfn);refine Ö2 ?_;show Ñ _ _ (do bindName X.env n .none;unbindBehindTheSuite X.env n p8) _ _ _;obtain⟨m6,hn6,hl6⟩:=id I6.loc;refine wpAny_nameGoes_keeps hn hn6 hkind λh7 v7 hn7 hs7=>?_;have I7:=Inv.t71 (t':=s6.toks + 1) I6 hl6 hn7 hs7 λi x e=>if_neg (offN i x e);have at7:excAt a C h7:=by
   obtain⟨oe,e1,e2⟩:=at4;obtain⟨b6,hb6,hor⟩:=hsame;have e5:h5.get? a=some oe:=(hs5.2 a aL).trans e1;have e6:s6.heap.get? a=some oe:=(hb6.2 a (λz=>by
    rcases hor with y | y
    ·exact aL (z.trans y)
    ·exact aC _ _ y z.symm)).trans e5
   exact⟨oe,(hs7.2 a aL).trans e6,e2⟩
  have nT:H1 a=none:=na;have I8:=Inv.S31 (T:=a) (o:=.ext (excAt a C)) I7 nT n0 aL aC aP ⟨at7,by obtain⟨oe,e1,_⟩:=at7;exact⟨oe,e1⟩,λh1 h2 p kk=>l31 p kk⟩
  exact⟨_,_,I8,q a H1 s1H na⟩
end
section
variable {P:à}{w:í}{K:Â}{mg:Str->Option Ä}{base:ê}{N:List Str}{qual:Str}{scope:ë}{f c':Ç}{cl:List (Str × Ç)}{s₀:Æ}{H₀:Hp}{k:Nat}{pm ctv cls:Ä}{params:Ê5}{body:Ð}{vs:List V}
theorem l61{RR:Hp->Prop}(hf:FnL P w H₀ s₀ f (kla_fn "<lambda>" qual params body scope cl pm (.ref c') ctv))(hc:H₀ c'=some (.ext (recAt c' qual)))
 (hk:scope.kind=.function) (hco:scope.isCoroutine=false) (hgen:scope.isGenerator=false) (hcell:∀ x∈scope.names,x.2≠.cell)
 (hb:bindArgs (kla_fn "<lambda>" qual params body scope cl pm (.ref c') ctv) ⟨[],[]⟩=pure []) (FR:G70 scope cl N vs H₀ s₀.heap)
 (hbody:∀ (A:ó) (outer:List Env) (s:Æ) (H:Hp),w40 k (A.deeper (envX qual scope s.heap.objs.size f (.ref c') cl))->a20 H₀ H ->
   ∃ t,PE (M30 P w K mg base N qual scope f (.ref c') cl A outer s H λc _ H'=>c=cls/\RR H') body t/\t (vs.map some) H λ_ _=>False) :
  y90 P w K mg base (k + 1) f H₀ s₀ cls RR:=by
 refine⟨⟨_,hf⟩,λA outer s H hr e0 un sm=>?_⟩;obtain⟨c0,d0,sl,hof⟩:=hf outer s H un sm e0.hok;have hrec:s.heap.CodeRec (.ref c') qual:=(e0.hok c' _ (sm _ _ hc)).1;have lim:s.heap.NoLimit:=e0.mod.nolimit.keeps λb o e=>(e0.bs b o e).1;refine PySem.W.kla_callFunE hr.depth hof rfl hco hgen rfl hrec ?_;rw[hb];refine Å (Ù4 hcell (λy hy=>absurd hy (by simp)) (λh₁ hns hsb=>⟨lim.fresh _ hsb,?_⟩) hk)
 show Ë8 _ _ (.expr body (envX qual scope s.heap.objs.size f (.ref c') cl)) _ _;have hkeep1:∀ b o,s.heap.get? b=some o->h₁.get? b=some o:=λb o e=>hsb.extBut b o (Õ (Þ e)) (Ã _ e);obtain⟨t,ht,hq⟩:=hbody A outer s H (hr.deeper _) sm;have I:Inv (M30 P w K mg base N qual scope f (.ref c') cl A outer s H λc _ H'=>c=cls/\RR H') [] (vs.map some) H { s with heap:=h₁,toks:=s.toks + 0 }:=a22 e0 hr.hd hk (FR.later un) hns hkeep1;refine PySem.W.kla_codeExpr (Á9 (ht [] _ _ H _ I hq) (λv s' hv=>?_) λe s' he=>he);obtain⟨_,_,_,_,z⟩:=hv;exact z.elim
end
def fnAt(f:Ç)(fd:Ã0):ê->Prop:=λh=>∃ o,h.get? f=some o/\o.data=.func fd
theorem t91(h:fnAt f fd h1)(k:∀ o,h1.get? f=some o->h2.get? f=some o):fnAt f fd h2:=by
 obtain⟨o,e,d⟩:=h;exact⟨o,k _ e,d⟩
def FnL.at(h:H₀ f=some (.ext (fnAt f fd))):FnL P w H₀ s₀ f fd:=λouter s H _ sm hok=>by
 obtain⟨⟨⟨c,d,dt,sl⟩,e,hd⟩,_⟩:=hok f _ (sm _ _ h);have hd:dt=.func fd:=hd;subst hd;exact⟨_,_,_,e⟩
def E82(X:Cx)(P:Ç)(qual:Str)(params:Ê5)(body:Ð)(lsc:ë):TE:=λσ H Q=>Tab H P qual/\∀ (cl:List (Str × Ç)) (f c':Ç) (pm ctv:Ä) (H2:Hp),(∀ x c,cl.lookup x=some c->X.env.cells.lookup x=some c)->(∀ y∈lsc.names,y.2=.free->∃ c,cl.lookup y.1=some c) ->
 Tab H2 P qual->D40 P H H2->H f=none->H2 f=some (.ext (fnAt f (kla_fn "<lambda>" qual params body lsc cl pm (.ref c') ctv)))->H2 c'=some (.ext (recAt c' qual))->Q (.ref f) H2
section
variable {X:Cx}{c P:Ç}{qual:Str}{params:Ê5}{body:Ð}{lsc:ë}{lpos:Pos}
theorem o72(hcode:X.env.code=.ref c)(hhd:Å1 X.K c P=true)(hqu:X.env.qual++"<lambda>"=qual)(hdef:defaultsOf params X.env=([],[]))
 (hbm:∃ bm ob,X.mg "__builtins__"=some (.ref bm)/\bm≠Î3/\X.base.get? bm=some ob/\ob.cls=.type "module"/\ob.dict=some Î3/\ob.data=.plain)
 (hfr:∀ y∈lsc.names,y.2=.free->X.env.kindOf y.1=some .cell):PE X (.Lambda params body lsc lpos) (E82 X P qual params body lsc):=by
 intro pins s σ H Q I h;obtain⟨TB,q⟩:=h;refine K31 I hdef hcode hhd TB hqu hbm (λy hy hf=>I.ok.has y.1 (.inl (hfr y hy hf))) λcl f c' pm ctv h2 tk H2 cl1 cl2 I2 TB2 KB ho nf hc hsz=>?_;have old:∀ {b:Ç}{o:Obj},s.heap.get? b=some o->b≠f:=λe z=>by subst z;exact Â5 _ (Ô (Þ e) hsz)
 have n0:X.s₀.heap.get? f=none:=by
  cases e:X.s₀.heap.get? f with
  |none=>rfl|some o=>exact absurd (Ô (Þ e) (Ó I.sz hsz)) (Â5 _)
 have hL:f≠X.env.locals:=λz=>by
  obtain⟨m,⟨o,_,_,e,_⟩,_⟩:=I.loc;exact old e z.symm
 have hC:∀ x c,X.env.cells.lookup x=some c->c≠f:=λx c e=>by
  obtain⟨v,o,e1,_⟩:=I.cell x c e;exact old e1
 have hP:∀ p∈X.pn++pins,p.1≠f:=λp hp=>old (I.pin p hp).1;have fP:f≠P:=λz=>by
  obtain⟨ps,e,_⟩:=TB;subst z;exact old (I.hok f _ e) rfl
 have fC:f≠c':=λz=>by subst z;rw[nf] at hc;cases hc
 have Hf:H f=none:=I.hok.fresh hsz;have I3:=Inv.S31 (T:=f) (o:=.ext (fnAt f (kla_fn "<lambda>" qual params body lsc cl pm (.ref c') ctv))) I2 nf n0 hL hC hP ⟨ho,by obtain⟨o,e,_⟩:=ho;exact⟨o,e⟩,λh1 h2 p kk=>t91 p kk⟩
 refine⟨.ref f,_,I3,rfl,q cl f c' pm ctv _ cl1 cl2 ?_ ⟨λb o hb e=>?_⟩ Hf a70 ?_⟩
 ·obtain⟨ps,e,tr,k⟩:=TB2;refine⟨ps,by rw[a50 fP.symm];exact e,tr,λpos cc h=>?_⟩
  obtain⟨c2,e1,e2⟩:=k pos cc h;exact⟨c2,e1,by rw[a50 (λz=>by rw[z,nf] at e2;cases e2)];exact e2⟩
 ·rw[a50 (λz=>by rw[z,Hf] at e;cases e)];exact KB.same b o hb e
 ·rw[a50 fC.symm];exact hc
end
section
variable {X:Cx}{f:Ç}{fd:Ã0}{g par n:Str}{p p2 pos:Pos}{i k kr:Nat}{sp:Æ->Sp}{Ok:Ç->Ä->(Hp->Prop)->Hp->Prop}
theorem S30(F:Y50 X.prog X.w X.K X.mg X.base CX0 kr f fd [par] sp)(hr:w40 kr X.A)(hg:Gl X g)(hm:X.mg g=some (.ref f))(hk:Î5 X.K (.ref f)=true)(hb:Binds X.K fd [par] [])
 (hi:X.N[i]?=some n) (hv:Vis X.env.scope n) (d1:(n == ("__debug__":Str))=false) (d2:(n == ("__classdict__":Str))=false)
 (th:∀ pins σ H s,Inv X pins σ H s->∀ a cls RR,Ok a cls RR H->y90 X.prog X.w X.K X.mg X.base (k + 1) a H s cls RR)
 (hdb:(g == ("__debug__":Str))=false:=by decide) :
  PE X (.Call (.Name g p) [.Name n p2] [] pos) (λσ H Q=>∃ a cls RR,σ[i]?=some (some (.ref a))/\Ok a cls RR H/\∀ s2:Æ,y90 X.prog X.w X.K X.mg X.base (k + 1) a H s2 cls RR->sp s2 [.ref a] H Q λ_ _ _=>False):=by
 intro pins s σ H Q I h;obtain⟨a,cls,RR,e,ok,q⟩:=h;have he:ý [.Name n p2] X.env=[(false,eval (.Name n p2) X.env)]:=rfl;refine Ì4 (J50 I hg hm ?_ hdb);refine callWith_K (h₀:=X.base) I.ok.mod.kin hk ?_ he rfl;rw[he];refine Ø3 (thn (k20 (i:=i) hi hv d1 d2 pins s σ H (λv H'=>v=.ref a/\H'=H) I ⟨_,e,rfl,rfl⟩) λv s1 hr1=>?_);obtain⟨y,H1,I1,r1,rfl,rfl⟩:=hr1;cases (show v=Á7 a from r1);refine Ñ3 ⟨I1.kIn,?_⟩;refine Õ8 (È5 (F.run X.A X.stack s1 H1 ⟨[.ref a],[]⟩ [.ref a] [.ref a] Q _ hr I1.D02 (hb _ [.ref a] I1.kIn rfl) (.cons rfl .nil) (q s1 (th _ _ _ _ I1 _ _ _ ok))) λr s' hq=>?_);cases r with
 |error e=>exact À0 hq
 |ok fl =>
  cases fl with
  |ret u=>exact I1.after hq|next=>exact À0 hq
  |brk=>exact À0 hq|cont=>exact À0 hq
end
def PE.mp(h:PE X e t)(i:∀ σ H Q,t' σ H Q->t σ H Q):PE X e t':=λpins s σ H Q I q=>h pins s σ H Q I (i _ _ _ q)
structure LT where
 f:Addr
 c':Addr
 cl:List (Str × Addr)
 pm:Value
 ctv:Value
 lsc:Scope
 body:Expr
 N:List Str
def noArgs:Arguments:=⟨[],[],none,[],[],none,[]⟩
def LT.fd(t:LT)(qual:Str):FuncData:=kla_fn "<lambda>" qual noArgs t.body t.lsc t.cl t.pm (.ref t.c') t.ctv
structure LTf(X:Cx)(lsc:Scope)(N:List Str):Prop where
 hfr:∀ y∈lsc.names,y.2=.free->X.env.kindOf y.1=some .cell
 hnc:∀ y∈lsc.names,y.2≠.cell
 hNf:∀ x∈N,lsc.names.lookup x=some .free
 lk:lsc.kind=.function
 lco:lsc.isCoroutine=false
 lge:lsc.isGenerator=false
structure K41(X:Cx)(qual:Str)(H:Hp)(t:LT):Prop where
 form:LTf X t.lsc t.N
 fn:H t.f=some (.ext (fnAt t.f (t.fd qual)))
 rc:H t.c'=some (.ext (recAt t.c' qual))
 cl1:∀ x c,t.cl.lookup x=some c->X.env.cells.lookup x=some c
 cl2:∀ y∈t.lsc.names,y.2=.free->∃ c,t.cl.lookup y.1=some c
structure LTv(X:Cx)(σ:St)(t:LT)(vs:List V):Prop where
 len:vs.length=t.N.length
 vals:∀ (i:Nat) (x:Str) (v:V),t.N[i]?=some x->vs[i]?=some v->∃ j:Nat,X.N[j]?=some x/\σ[j]?=some (some v)
theorem K41.frees{X:Cx}{qual:Str}{σ:St}{H:Hp}{t:LT}{vs:List V}{pins:List (Ç × Obj)}{s:Æ}(k:K41 X qual H t)(kv:LTv X σ t vs)(I:Inv X pins σ H s):G70 t.lsc t.cl t.N vs H s.heap:=by
 refine⟨λx y c e1 e2=>I.ok.inj x y c (k.cl1 x c e1) (k.cl1 y c e2),λx hx=>?_,λx c e=>I.cell x c (k.cl1 x c e),λx c e=>I.freeC x c (k.cl1 x c e),λi x v h1 h2=>?_,kv.len⟩
 ·rcases hx with hx | hx
  ·exact absurd rfl (k.form.hnc _ (Â3 hx))
  ·exact k.cl2 _ (Â3 hx) rfl
 ·have hf:=k.form.hNf x (æ h1);have mem:=Â3 hf;have kc:X.env.kindOf x=some .cell:=k.form.hfr _ mem rfl;obtain⟨j,e1,e2⟩:=kv.vals i x v h1 h2;obtain⟨m,_,hl⟩:=I.loc;obtain⟨u,r,l⟩:=hl j x v e1 e2 (Ú4 (Ó1 kc));obtain⟨c2,ec2⟩:=k.cl2 _ mem rfl;refine⟨hf,c2,u,ec2,r,?_⟩;rcases l with ⟨kl,_⟩ | ⟨_,c3,ec3,z⟩
  ·rw[kc] at kl;cases kl
  ·have:=k.cl1 _ _ ec2;rw[ec3] at this;cases this;exact z
theorem G70.o82{scope:ë}{cl:List (Str × Ç)}{N:List Str}{vs:List V}{H₀ H:Hp}{h₀ h:ê}{fs ex:List Ç}(FR:G70 scope cl N vs H₀ h₀)(un:Un fs ex H₀ H h₀ h)(hx:∀ x c,cl.lookup x=some c->c ∉ ex):G70 scope cl N vs H h:=by
 have cel:∀ x c v,cl.lookup x=some c->h₀.IsCell c v->h.IsCell c v:=λx c v e ⟨o,ho,hd⟩=>by
  obtain⟨sl,e1⟩:=un.any ho (FR.free x c e) (hx x c e);exact⟨_,e1,hd⟩
 refine⟨FR.inj,FR.has,λx c e=>?_,λx c e=>?_,λi x v h1 h2=>?_,FR.len⟩
 ·obtain⟨v,z⟩:=FR.cell x c e;exact⟨v,cel x c v e z⟩
 ·obtain⟨v,o,ho,_⟩:=FR.cell x c e;exact un.free c o ho (FR.free x c e) (hx x c e)
 ·obtain⟨k,c,u,ec,r,z⟩:=FR.val i x v h1 h2;exact⟨k,c,u,ec,r,cel x c _ ec z⟩
def Raises(X:Cx)(qual:Str)(k:Nat)(H:Hp)(t:LT)(vs:List V)(cls:Ä)(RR:Hp->Prop):Prop:=∀ (A:ó) (outer:List Env) (s:Æ) (H3:Hp),w40 k (A.deeper (envX qual t.lsc s.heap.objs.size t.f (.ref t.c') t.cl))->a20 H H3 ->
 ∃ u,PE (M30 X.prog X.w X.K X.mg X.base t.N qual t.lsc t.f (.ref t.c') t.cl A outer s H3 λc _ H'=>c=cls/\RR H') t.body u/\u (vs.map some) H3 λ_ _=>False
def A32(H:Hp)(qual:Str)(t:LT):Prop:=H t.f=some (.ext (fnAt t.f (t.fd qual)))/\H t.c'=some (.ext (recAt t.c' qual))
def K51{X:Cx}{qual:Str}{k:Nat}{H:Hp}{s:Æ}{t:LT}{vs:List V}{cls:Ä}{RR:Hp->Prop}(fm:LTf X t.lsc t.N)(h:A32 H qual t)(FR:G70 t.lsc t.cl t.N vs H s.heap)(r:Raises X qual k H t vs cls RR):y90 X.prog X.w X.K X.mg X.base (k + 1) t.f H s cls RR:=
 l61 (FnL.at h.1) h.2 fm.lk fm.lco fm.lge fm.hnc rfl FR r
section
variable {X:Cx}{f:Ç}{fd:Ã0}{g par n qual:Str}{p p2 p3 pos ps:Pos}{k kr:Nat}{sp:Æ->Sp}{src:Ð}{wi:TI}{sc:ë}
def teL(X:Cx)(qual:Str)(k:Nat)(sp:Æ->Sp)(σ1:St)(H1:Hp):TE:=λσ H Q=>∃ t vs cls RR,K41 X qual H1 t/\LTv X σ1 t vs/\σ[0]?=some (some (.ref t.f))/\A32 H qual t/\Raises X qual k H t vs cls RR/\∀ s2:Æ,y90 X.prog X.w X.K X.mg X.base (k + 1) t.f H s2 cls RR->sp s2 [.ref t.f] H Q λ_ _ _=>False
theorem l71(hc:X.calm=true)(S:n40 X sc [n] [])(hi:PI X (.Name n p3) src wi)(F:Y50 X.prog X.w X.K X.mg X.base CX0 kr f fd [par] sp)(hr:w40 kr X.A)(hg:∀ cl C s H fp,Gl (c40 X (c70 [n] []) sc cl C s H fp) g)(hm:X.mg g=some (.ref f))(hk:Î5 X.K (.ref f)=true)(hb:Binds X.K fd [par] [])
 (hp:∀ cl C s H fp,PG (c40 X (c70 [n] []) sc cl C s H fp) (.Name n p3) (J90 0)) (hv:∀ cl C s H fp,Vis (c40 X (c70 [n] []) sc cl C s H fp).env.scope n) (d1:(n == ("__debug__":Str))=false) (d2:(n == ("__classdict__":Str))=false) (hdb:(g == ("__debug__":Str))=false) (hs:∀ x,Å3 src X.env x=pure x) :
 PE X (.ListComp (.Call (.Name g p) [.Name n p2] [] pos) [⟨.Name n p3,src,[],0⟩] sc ps) (λσ H Q=>wi σ H λJ H1=>True/\k51 J [none] H1 (J90 0) r41 (teL X qual k sp σ H1) Q):=by
 refine H61 (te:=teL X qual k sp) (Cond:=λ_ _=>True) hc S hi hp (λ_ _ _ _ _=>r51) (λcl pins σ H s I hcl _ C fp hf=>?_) hs
 ·refine PE.mp (S30 (k:=k) (X:=c40 X (c70 [n] []) sc cl C s H fp) (Ok:=λa cls RR H'=>∃ t vs,K41 X qual H t/\LTv X σ t vs/\a=t.f/\A32 H' qual t/\Raises X qual k H' t vs cls RR) (i:=0) F hr (hg cl C s H fp) hm hk hb rfl (hv cl C s H fp) d1 d2 (λpins' σ' H' s' I' a cls RR ok=>?_) hdb) λσ' H' Q' q'=>?_
  ·obtain⟨t,vs,lt,lv,rfl,la,rs⟩:=ok;exact K51 (X:=X) lt.form la ((lt.frees lv I).o82 I'.base λx c e z=>(hf c z).2.2.2.2.1 x c (lt.cl1 x c e) rfl) rs
  ·obtain⟨t,vs,cls,RR,lt,lv,e,la,rs,q2⟩:=q';exact⟨t.f,cls,RR,e,⟨t,vs,lt,lv,rfl,la,rs⟩,q2⟩
end
abbrev A42:List Str:=["_law_call","_law_error","_law_marks"]
abbrev o92:Scope:={ kind:=.function,names:=[(".0",.local),("_law_k",.local),("_law_marks",.free)],isGenerator:=false,isCoroutine:=false,more:=[] }
abbrev u50:Scope:={ kind:=.function,names:=[("_law_call",.local),("_law_error",.local),("e",.local),("_law_marks",.cell),("ChanceError",.globalImplicit),("isinstance",.globalImplicit),("NoWeb",.globalImplicit),("NoLot",.globalImplicit),("NoPlaces",.globalImplicit),("NoPlace",.globalImplicit),("NoTie",.globalImplicit),("NoChance",.globalImplicit),("NoChances",.globalImplicit),("NoPaper",.globalImplicit),("TooMany",.globalImplicit),("NoText",.globalImplicit),("NoLine",.globalImplicit),("NoDeed",.globalImplicit),("ValueError",.globalImplicit),("range",.globalImplicit)],isGenerator:=false,isCoroutine:=false,more:=[("fast",.str "_law_call"),("fast",.str "_law_error"),("fast",.str "e"),("fast",.str "_law_marks"),("fast",.str "_law_k")] }
def Y60(n:Nat):List Stmt:=[.Assign [(.Name "_law_error" ⟨n,4,n,14⟩)] (.Constant .none 0 ⟨n,17,n,21⟩) ⟨n,4,n,21⟩,
   .Try [.Expr (.Call (.Name "_law_call" ⟨n + 2,8,n + 2,17⟩) [] [] ⟨n + 2,8,n + 2,19⟩) ⟨n + 2,8,n + 2,19⟩] [.ExceptHandler (some (.Name "ChanceError" ⟨n + 3,11,n + 3,22⟩)) (some "e") [.Assign [(.Name "_law_error" ⟨n + 4,8,n + 4,18⟩)] (.Name "e" ⟨n + 4,21,n + 4,22⟩) ⟨n + 4,8,n + 4,22⟩] ⟨n + 3,4,n + 4,22⟩] [] [] ⟨n + 1,4,n + 4,22⟩,
   .Assign [(.Name "_law_marks" ⟨n + 5,4,n + 5,14⟩)] (.List [(.Call (.Name "isinstance" ⟨n + 5,18,n + 5,28⟩) [(.Name "_law_error" ⟨n + 5,29,n + 5,39⟩),(.Name "NoWeb" ⟨n + 5,41,n + 5,46⟩)] [] ⟨n + 5,18,n + 5,47⟩),(.Call (.Name "isinstance" ⟨n + 5,49,n + 5,59⟩) [(.Name "_law_error" ⟨n + 5,60,n + 5,70⟩),(.Name "NoLot" ⟨n + 5,72,n + 5,77⟩)] [] ⟨n + 5,49,n + 5,78⟩),(.Call (.Name "isinstance" ⟨n + 5,80,n + 5,90⟩) [(.Name "_law_error" ⟨n + 5,91,n + 5,101⟩),(.Name "NoPlaces" ⟨n + 5,103,n + 5,111⟩)] [] ⟨n + 5,80,n + 5,112⟩)] ⟨n + 5,17,n + 5,113⟩) ⟨n + 5,4,n + 5,113⟩,
   .Assign [(.Name "_law_marks" ⟨n + 6,4,n + 6,14⟩)] (.BinOp (.Name "_law_marks" ⟨n + 6,17,n + 6,27⟩) .Add (.List [(.Call (.Name "isinstance" ⟨n + 6,31,n + 6,41⟩) [(.Name "_law_error" ⟨n + 6,42,n + 6,52⟩),(.Name "NoPlace" ⟨n + 6,54,n + 6,61⟩)] [] ⟨n + 6,31,n + 6,62⟩),(.Call (.Name "isinstance" ⟨n + 6,64,n + 6,74⟩) [(.Name "_law_error" ⟨n + 6,75,n + 6,85⟩),(.Name "NoTie" ⟨n + 6,87,n + 6,92⟩)] [] ⟨n + 6,64,n + 6,93⟩),(.Call (.Name "isinstance" ⟨n + 6,95,n + 6,105⟩) [(.Name "_law_error" ⟨n + 6,106,n + 6,116⟩),(.Name "NoChance" ⟨n + 6,118,n + 6,126⟩)] [] ⟨n + 6,95,n + 6,127⟩)] ⟨n + 6,30,n + 6,128⟩) ⟨n + 6,17,n + 6,128⟩) ⟨n + 6,4,n + 6,128⟩,
   .Assign [(.Name "_law_marks" ⟨n + 7,4,n + 7,14⟩)] (.BinOp (.Name "_law_marks" ⟨n + 7,17,n + 7,27⟩) .Add (.List [(.Call (.Name "isinstance" ⟨n + 7,31,n + 7,41⟩) [(.Name "_law_error" ⟨n + 7,42,n + 7,52⟩),(.Name "NoChances" ⟨n + 7,54,n + 7,63⟩)] [] ⟨n + 7,31,n + 7,64⟩),(.Call (.Name "isinstance" ⟨n + 7,66,n + 7,76⟩) [(.Name "_law_error" ⟨n + 7,77,n + 7,87⟩),(.Name "NoPaper" ⟨n + 7,89,n + 7,96⟩)] [] ⟨n + 7,66,n + 7,97⟩),(.Call (.Name "isinstance" ⟨n + 7,99,n + 7,109⟩) [(.Name "_law_error" ⟨n + 7,110,n + 7,120⟩),(.Name "TooMany" ⟨n + 7,122,n + 7,129⟩)] [] ⟨n + 7,99,n + 7,130⟩)] ⟨n + 7,30,n + 7,131⟩) ⟨n + 7,17,n + 7,131⟩) ⟨n + 7,4,n + 7,131⟩,
   .Assign [(.Name "_law_marks" ⟨n + 8,4,n + 8,14⟩)] (.BinOp (.Name "_law_marks" ⟨n + 8,17,n + 8,27⟩) .Add (.List [(.Call (.Name "isinstance" ⟨n + 8,31,n + 8,41⟩) [(.Name "_law_error" ⟨n + 8,42,n + 8,52⟩),(.Name "NoText" ⟨n + 8,54,n + 8,60⟩)] [] ⟨n + 8,31,n + 8,61⟩),(.Call (.Name "isinstance" ⟨n + 8,63,n + 8,73⟩) [(.Name "_law_error" ⟨n + 8,74,n + 8,84⟩),(.Name "NoLine" ⟨n + 8,86,n + 8,92⟩)] [] ⟨n + 8,63,n + 8,93⟩),(.Call (.Name "isinstance" ⟨n + 8,95,n + 8,105⟩) [(.Name "_law_error" ⟨n + 8,106,n + 8,116⟩),(.Name "NoDeed" ⟨n + 8,118,n + 8,124⟩)] [] ⟨n + 8,95,n + 8,125⟩)] ⟨n + 8,30,n + 8,126⟩) ⟨n + 8,17,n + 8,126⟩) ⟨n + 8,4,n + 8,126⟩,
   .If (.UnaryOp .Not (.Call (.Name "isinstance" ⟨n + 9,11,n + 9,21⟩) [(.Name "_law_error" ⟨n + 9,22,n + 9,32⟩),(.Name "ValueError" ⟨n + 9,34,n + 9,44⟩)] [] ⟨n + 9,11,n + 9,45⟩) ⟨n + 9,7,n + 9,45⟩) [.Return (some (.Constant .none 0 ⟨n + 10,15,n + 10,19⟩)) ⟨n + 10,8,n + 10,19⟩] [] ⟨n + 9,4,n + 10,19⟩,
   .Return (some (.ListComp (.Name "_law_k" ⟨n + 11,12,n + 11,18⟩) [{ target:=(.Name "_law_k" ⟨n + 11,23,n + 11,29⟩),iter:=(.Call (.Name "range" ⟨n + 11,33,n + 11,38⟩) [(.Constant (.int 12) 0 ⟨n + 11,39,n + 11,41⟩)] [] ⟨n + 11,33,n + 11,42⟩),ifs:=[(.Subscript (.Name "_law_marks" ⟨n + 11,46,n + 11,56⟩) (.Name "_law_k" ⟨n + 11,57,n + 11,63⟩) ⟨n + 11,46,n + 11,64⟩)],is_async:=0 }] o92 ⟨n + 11,11,n + 11,65⟩)) ⟨n + 11,4,n + 11,65⟩]
theorem p02:t11 o92 u50 A42 ["_law_k"] [("_law_marks",2)]=true:=by decide +kernel
theorem K61(K:Â)(hK:X.K=K:=by rfl):IxR X (M82 K):=by subst hK;exact X70
abbrev names12:List Str:=["NoWeb","NoLot","NoPlaces","NoPlace","NoTie","NoChance","NoChances","NoPaper","TooMany","NoText","NoLine","NoDeed"]
structure S40(K:PySem.W.Frag)(mg:Str->Option Value)(C:Addr)(j:Nat):Prop where
 cl:∀ (i:Nat) (x:Str),names12[i]?=some x->∃ Ci,mg x=some (.ref Ci)/\PySem.W.kitOne K (.ref C) (.ref Ci)=some (decide (i=j))
 lk:j20 K C
 hd:PySem.W.hasDictIn K C=true
 ve:PySem.W.kitOne K (.ref C) (.type "ValueError")=some true
 nv:mg "ValueError"=none
 ce:∃ D,mg "ChanceError"=some (.ref D)/\PySem.W.exmOne K (.ref C) (.ref D)=some true
 lt:j < 12
theorem S50:ñ "ValueError"=some (.type "ValueError"):=by decide +kernel
theorem M40:ñ "isinstance"=some (.builtin "isinstance"):=by decide +kernel
def a32(P:à)(w:í)(K:Â)(mg:Str->Option Ä)(base:ê)(k:Nat):Æ->Sp:=λs vs H Q _=>∃ (f C:Ç) (j:Nat) (RR:Hp->Prop),vs=[.ref f]/\y90 P w K mg base k f H s (.ref C) RR/\S40 K mg C j/\∀ l H1 H',RR H1->a20 H1 H'->H' l=none->Q (.ref l) (upd H' l (.lst [.int j]))
abbrev D50(j:Nat):List V:=[V.bl (decide (0=j)),.bl (decide (1=j)),.bl (decide (2=j))]++[.bl (decide (3=j)),.bl (decide (4=j)),.bl (decide (5=j))]++[.bl (decide (6=j)),.bl (decide (7=j)),.bl (decide (8=j))]++[.bl (decide (9=j)),.bl (decide (10=j)),.bl (decide (11=j))]
theorem K71{i j:Nat}(h:i < 12):atI (D50 j) (0 + (i:Int))=some (.bl (decide (i=j))):=by
 rw[Int.zero_add];refine K40 ?_;rw[show D50 j=(ò 12).map λi=>V.bl (decide (i=j)) from rfl,Û,Î7 h];rfl
section
variable {P:à}{w:í}{K:Â}{mg:Str->Option Ä}{base:ê}
theorem scR:l00 A42 ["_law_call"] u50:=⟨rfl,rfl,rfl,by decide +kernel,rfl,by decide +kernel,by decide +kernel⟩
theorem ndR:(c70 ["_law_k"] [("_law_marks",2)]).Nodup:=by decide +kernel
def tIs(K:Â)(c:V)(cv:Ä):TE:=λσ H Q=>∃ (a C:Ç) (b:Bool),σ[1]?=some (some (.ref a))/\o42 H a C/\j20 K C/\PySem.W.hasDictIn K C=true/\Î4 K (.ref C) cv=some b/\Q (.bl b) H
def U52(K:Â)(c0 c1 c2:Ç):TE:=λσ H Q=>∃ (a C:Ç) (b0 b1 b2:Bool),σ[1]?=some (some (.ref a))/\o42 H a C/\j20 K C/\PySem.W.hasDictIn K C=true/\Î4 K (.ref C) (.ref c0)=some b0/\Î4 K (.ref C) (.ref c1)=some b1/\Î4 K (.ref C) (.ref c2)=some b2/\∀ l,H l=none->Q (.ref l) (upd H l (.lst [.bl b0,.bl b1,.bl b2]))
section
variable {X:Cx}{c0 c1 c2:Ç}{x x0 x1 x2:Str}{p p0 p1 p2 p3 q0 q1 q2 q3 r0 r1 r2 r3:Pos}
def K81(hN:X.N[1]?=some ("_law_error":Str))(hv:Vis X.env.scope "_law_error")(hi:Gl X "isinstance")(Ti:X.mg "isinstance"=none)(hc:PE X (.Name x p2) (tC c))(hcv:(∃ C,c=.ref C/\cv=.ref C)\/∃ T,c=.ty T/\cv=.type T):PE X (.Call (.Name "isinstance" p0) [.Name "_law_error" p1,.Name x p2] [] p3) (tIs X.K c cv):=
 λpins s σ H Q I q=>by
  obtain⟨a,C,b,e,h1,h2,h3,h4,h5⟩:=q;have g:=t90 (p:=p0) (pos:=p3) l41 hi Ti M40 (e00 (k20 (i:=1) (pos:=p1) hN hv) (e00 hc o30));exact g pins s σ H Q I ⟨_,e,a,C,_,_,b,rfl,hcv,h1,h2,h3,h4,h5⟩
theorem e51(hN:X.N[1]?=some ("_law_error":Str))(hv:Vis X.env.scope "_law_error")(hi:Gl X "isinstance")(Ti:X.mg "isinstance"=none)(g0:PE X (.Name x0 p2) (tC (.ref c0)))(g1:PE X (.Name x1 q2) (tC (.ref c1)))(g2:PE X (.Name x2 r2) (tC (.ref c2))) :
 PE X (.List [.Call (.Name "isinstance" p0) [.Name "_law_error" p1,.Name x0 p2] [] p3,.Call (.Name "isinstance" q0) [.Name "_law_error" q1,.Name x1 q2] [] q3,.Call (.Name "isinstance" r0) [.Name "_law_error" r1,.Name x2 r2] [] r3] p) (U52 X.K c0 c1 c2):=
 λpins s σ H Q I q=>by
  obtain⟨a,C,b0,b1,b2,e,h1,h2,h3,k0,k1,k2,h5⟩:=q;exact d51 (e00 (K81 hN hv hi Ti g0 (.inl ⟨c0,rfl,rfl⟩)) (e00 (K81 hN hv hi Ti g1 (.inl ⟨c1,rfl,rfl⟩)) (e00 (K81 hN hv hi Ti g2 (.inl ⟨c2,rfl,rfl⟩)) o30))) pins s σ H Q I
   ⟨a,C,b0,e,h1,h2,h3,k0,a,C,b1,e,h1,h2,h3,k1,a,C,b2,e,h1,h2,h3,k2,D20 (by show 3<=64;decide),h5⟩
end
theorem p12{st:Á5}{f:Ç}{fd:Ã0}{k n:Nat}(F:Fun K "_law_refused" "_law_refused" st f fd)(es:c20 st=u50)(eb:j10 st=Y60 n)(Ti:mg "isinstance"=none)(Tr:mg "range"=none):Y50 P w K mg base CX0 (k + 1) f fd ["_law_call"] (a32 P w K mg base k):=by
 refine F.okS (by rw[es];exact scR) (λs vs H Q E h=>?_) (λcdv A outer s H vs Q E hr h=>?_)
 ·obtain⟨f,C,j,RR,rfl,_⟩:=h;rfl
 ·obtain⟨g,C,j,RR,rfl,th,R,q⟩:=h;have hsc:=p02;rw[es] at hr;rw[es,eb];unfold Y60;clear eb;obtain⟨c0,m0,k0⟩:=R.cl 0 _ rfl;obtain⟨c1,m1,k1⟩:=R.cl 1 _ rfl;obtain⟨c2,m2,k2⟩:=R.cl 2 _ rfl;obtain⟨c3,m3,k3⟩:=R.cl 3 _ rfl;obtain⟨c4,m4,k4⟩:=R.cl 4 _ rfl;obtain⟨c5,m5,k5⟩:=R.cl 5 _ rfl;obtain⟨c6,m6,k6⟩:=R.cl 6 _ rfl;obtain⟨c7,m7,k7⟩:=R.cl 7 _ rfl;obtain⟨c8,m8,k8⟩:=R.cl 8 _ rfl;obtain⟨c9,m9,k9⟩:=R.cl 9 _ rfl;obtain⟨c10,m10,k10⟩:=R.cl 10 _ rfl;obtain⟨c11,m11,k11⟩:=R.cl 11 _ rfl;obtain⟨D,mD,kD⟩:=R.ce;refine⟨_,d40 (n20 (i:=1) scR.nd rfl (Ó1 rfl) p51)
   (d40 (t81 (i:=0) (j:=1) (f:=g) (C:=C) (D:=D) (k:=k) rfl rfl rfl hr th rfl (Ó1 rfl) 1e1 1e1 rfl mD 1e1 kD rfl (by show ¬ (("e":Str)∈A42);decide +kernel) 1e1 scR.nd rfl (Ó1 rfl) rfl)
   (d40 (n20 (i:=2) scR.nd rfl (Ú4 rfl) (e51 rfl (Ó1 rfl) rfl Ti (g00 rfl m0 rfl) (g00 rfl m1 rfl) (g00 rfl m2 rfl)))
   (d40 (n20 (i:=2) scR.nd rfl (Ú4 rfl) (G81 r01 (pv 2) (e51 rfl (Ó1 rfl) rfl Ti (g00 rfl m3 rfl) (g00 rfl m4 rfl) (g00 rfl m5 rfl))))
   (d40 (n20 (i:=2) scR.nd rfl (Ú4 rfl) (G81 r01 (pv 2) (e51 rfl (Ó1 rfl) rfl Ti (g00 rfl m6 rfl) (g00 rfl m7 rfl) (g00 rfl m8 rfl))))
   (d40 (n20 (i:=2) scR.nd rfl (Ú4 rfl) (G81 r01 (pv 2) (e51 rfl (Ó1 rfl) rfl Ti (g00 rfl m9 rfl) (g00 rfl m10 rfl) (g00 rfl m11 rfl))))
   (d40 (p71 (R41 (c91 (K81 (cv:=.type "ValueError") rfl (Ó1 rfl) rfl Ti (J60 (v:=.ty "ValueError") rfl R.nv S50 rfl) (.inr ⟨_,rfl,rfl⟩)))) (J70 (d11 p51)) C30)
   (J70 (d11 (r71 (own:=["_law_k"]) (capt:=[("_law_marks",2)]) rfl (by exact n40.of (scX:=u50) (N:=A42) rfl rfl hsc) (Q60 rfl Tr (e00 Q40 o30))
    (λcl C s H fp=>X60 (i:=0) ndR rfl (Ó1 rfl)) (λcl C s H fp=>r61 (c91 (X31 (K61 K) (pv 1) (pv 0) (λ_ _=>rfl)))) (λcl C s H fp=>pv 0)))))))))),?_⟩
  refine⟨rfl,a20.refl H,λa H1 s1 na=>?_⟩;have hX:o42 (upd H1 a (.ext (excAt a C))) a C:=a70;have keep:∀ {H'},a20 (upd H1 a (.ext (excAt a C))) H'->o42 H' a C:=λsm=>sm _ _ hX;refine⟨a,C,_,_,_,rfl,hX,R.lk,R.hd,k0,k1,k2,λl1 hl1=>?_⟩;have t1:=a20.new (.lst [.bl (decide (0=j)),.bl (decide (1=j)),.bl (decide (2=j))]) hl1;refine⟨_,rfl,a,C,_,_,_,rfl,keep t1,R.lk,R.hd,k3,k4,k5,λl2 hl2=>?_⟩;have t2:=a20.new (.lst [.bl (decide (3=j)),.bl (decide (4=j)),.bl (decide (5=j))]) hl2;refine⟨l1,l2,_,_,rfl,rfl,t2 _ _ a70,a70,D20 (by show 3 + 3<=64;decide),λl3 hl3=>?_⟩
  have t3:=t1.trans (t2.trans (a20.new (.lst ([.bl (decide (0=j)),.bl (decide (1=j)),.bl (decide (2=j))]++[.bl (decide (3=j)),.bl (decide (4=j)),.bl (decide (5=j))])) hl3));refine⟨_,rfl,a,C,_,_,_,rfl,keep t3,R.lk,R.hd,k6,k7,k8,λl4 hl4=>?_⟩;have t4:=a20.new (.lst [.bl (decide (6=j)),.bl (decide (7=j)),.bl (decide (8=j))]) hl4;refine⟨l3,l4,_,_,rfl,rfl,t4 _ _ a70,a70,D20 (by show 6 + 3<=64;decide),λl5 hl5=>?_⟩
  have t5:=t3.trans (t4.trans (a20.new (.lst ([.bl (decide (0=j)),.bl (decide (1=j)),.bl (decide (2=j))]++[.bl (decide (3=j)),.bl (decide (4=j)),.bl (decide (5=j))]++[.bl (decide (6=j)),.bl (decide (7=j)),.bl (decide (8=j))])) hl5));refine⟨_,rfl,a,C,_,_,_,rfl,keep t5,R.lk,R.hd,k9,k10,k11,λl6 hl6=>?_⟩;have t6:=a20.new (.lst [.bl (decide (9=j)),.bl (decide (10=j)),.bl (decide (11=j))]) hl6;refine⟨l5,l6,_,_,rfl,rfl,t6 _ _ a70,a70,D20 (by show 9 + 3<=64;decide),λl7 hl7=>?_⟩
  have t7:=t5.trans (t6.trans (a20.new (.lst (D50 j)) hl7));refine⟨a,C,_,rfl,keep t7,R.lk,R.hd,R.ve,_,rfl,R92 ?_⟩;refine⟨12,rfl,-0,-0,J41 (lo:=0) (n:=12) (λi ys H'=>a20 (upd H1 a (.ext (excAt a C))) H'/\H' l7=some (.lst (D50 j))/\ys=if j < i then [.int j] else []) (D20 1e1) ⟨t7,a70,by rw[if_neg ∅]⟩ (λi ys H' p=>by rw[p.2.2];split <;> simp <;> omega) ?_ ?_⟩
  ·rintro i ys H' hi ⟨s8,h8,rfl⟩;refine gN ?_;refine⟨_,rfl,_,rfl,l7,D50 j,0 + (i:Int),.bl (decide (i=j)),rfl,rfl,SqL.of h8,K71 hi,_,rfl,?_⟩;refine S02 (λe=>?_) (λe=>?_)
   ·have ej:i=j:=of_decide_eq_true e;subst ej;refine⟨_,rfl,s8,h8,?_⟩;rw[if_neg ∅,if_pos ∅,Int.zero_add];rfl
   ·have ej:¬ i=j:=λz=>e (decide_eq_true z);refine⟨s8,h8,?_⟩;by_cases hj:j < i
    ·rw[if_pos hj,if_pos ∅]
    ·rw[if_neg hj,if_neg ∅]
  ·rintro ys H' p ⟨s8,_,rfl⟩ hp;rw[if_pos R.lt];exact q p H1 H' s1 ((a20.new _ na).trans s8) hp
end
abbrev Ke:=List Int × Ç × Ä
def U62(x:Ke):DictEntry:=⟨reduceHash (ÿ.Tuple.tupleHashOf (x.1.map hashInt)),.ref x.2.1,x.2.2⟩
def K91(d:Ç)(xs:List Ke)(h:ê):Prop:=∃ o es ep,h.get? d=some o/\o.ExactDict/\o.data=.dict es ep/\es.toList=xs.map U62/\(xs.map (·.1)).Nodup
def l81(K:Â)(H:Hp)(d:Ç)(kss:List (List Int)):Prop:=∃ xs:List Ke,H d=some (.ext (K91 d xs))/\(d == sysModules)=false/\(∀ x∈xs,SqT K H x.2.1 (x.1.map V.int))/\∀ ks,ks∈xs.map (·.1)↔ks∈kss
theorem l81.same{K:Â}{H H':Hp}{d:Ç}{kss:List (List Int)}(h:l81 K H d kss)(e:∀ b o,H b=some o->H' b=some o):l81 K H' d kss:=by
 obtain⟨xs,h1,h2,h3,h4⟩:=h;exact⟨xs,e _ _ h1,h2,λx hx=>a20.sqT e (h3 x hx),h4⟩
theorem items_int{P:à}{w:í}:∀ {ks:List Int}{its:List Ä},Vals (ks.map V.int) its->ItemsAre (È4 P w) ks its
 |[],_,h=>by cases h;exact .nil
 |k::ks,_,h=>by
  cases h with
  |cons r t =>
   obtain⟨u,rfl⟩:=r;exact .cons (by show Ä.isInt k (.int k u)=true;simp[Ä.isInt]) (items_int t)
section
variable {X:Cx}{pins:List (Ç × Obj)}{σ:St}{H:Hp}{s:Æ}
theorem key_is(I:Inv X pins σ H s){b:Ç}{ks:List Int}(h:SqT X.K H b (ks.map V.int)):Ü8 (È4 X.prog X.w) s.heap ks b:=by
 obtain⟨its,rv,⟨o,e,c,n,d⟩,_⟩:=I.tuple h;exact⟨o,its.toArray,n,e,c,d,items_int rv⟩
theorem M50:∀ {xs:List Ke}{ks:List Int},(atKey xs ks).isSome=decide (ks∈xs.map (·.1))
 |[],_=>rfl
 |x::r,ks=>by
  have ih:=@M50 r ks;unfold atKey at ih ⊢;rw[List.find?_cons];by_cases h:x.1=ks
  ·simp[h]
  ·have h':¬ ks=x.1:=λz=>h z.symm;simp only[h,decide_false,ih,Æ0,Å2,h',false_or]
def A52(o:Bool):CmpOp:=match o with
 |true=>.In|false=>.NotIn
def p22(K:Â)(o:Bool):R2:=λx y H Q=>∃ b ks d kss,x=.ref b/\y=.ref d/\SqT K H b (ks.map V.int)/\l81 K H d kss/\Q (.bl (decide (ks∈kss) == o)) H
theorem u01(o:Bool)(hu:X.A.units + 1 < Ä5):OpR X (À4 (A52 o)) (p22 X.K o):=by
 intro pins s σ H x y v u Q I rx ry h;obtain⟨b,ks,d,kss,rfl,rfl,hb,⟨xs,h1,h2,h3,h4⟩,q⟩:=h;cases rx;cases ry;obtain⟨⟨ob,es,ep,e1,e2,e3,e4,e5⟩,_,_⟩:=I.hok d _ h1;have ek:decide (ks∈xs.map (·.1))=decide (ks∈kss):=decide_eq_decide.mpr (h4 ks);cases o with
 |true =>
  refine wpAny_in_heap (knd:=tupleKind (È4 X.prog X.w)) (tupleKind_room_in1 hu) (key_is I hb) h2 ⟨ob,es,ep,e1,e2,e3,e4,λx hx=>key_is I (h3 x hx),e5⟩ ?_;rw[M50,ek];rw[show(decide (ks∈kss) == true)=decide (ks∈kss) by cases decide (ks∈kss) <;> rfl] at q
  exact⟨.bl _,H,I.tok _,rfl,q⟩
 |false =>
  refine wpAny_notIn_heap (knd:=tupleKind (È4 X.prog X.w)) (tupleKind_room_in1 hu) (key_is I hb) h2 ⟨ob,es,ep,e1,e2,e3,e4,λx hx=>key_is I (h3 x hx),e5⟩ ?_;rw[M50,ek];rw[show(decide (ks∈kss) == false)=!decide (ks∈kss) by cases decide (ks∈kss) <;> rfl] at q
  exact⟨.bl _,H,I.tok _,rfl,q⟩
end
theorem Y70{xs:List Ke}{k ks:List Int}{a:Ç}{v:Ä}:ks∈(Ý5 xs k a v).map (·.1)↔ks∈xs.map (·.1)\/ks=k:=by
 unfold Ý5;rw[M50];split
 ·rename_i h;have h:=of_decide_eq_true h;have e:(xs.map (putAt k v)).map (·.1)=xs.map (·.1):=by
   rw[Ã8];exact Ç0 λx _=>by show(putAt k v x).1=x.1;unfold putAt;split <;> rfl
  rw[e];exact⟨.inl,λz=>z.elim id λz=>z ▸ h⟩
 ·simp
theorem l91{xs:List Ke}{k:List Int}{a:Ç}{v:Ä}{x:Ke}(h:x∈Ý5 xs k a v):(∃ y∈xs,y.1=x.1/\y.2.1=x.2.1)\/(x.1=k/\x.2.1=a):=by
 unfold Ý5 at h;split at h
 ·obtain⟨y,hy,rfl⟩:=Ò.mp h;exact .inl ⟨y,hy,by unfold putAt;split <;> rfl,by unfold putAt;split <;> rfl⟩
 ·rcases Á2.mp h with h | h
  ·exact .inl ⟨x,h,rfl,rfl⟩
  ·cases Ù.mp h;exact .inr ⟨rfl,rfl⟩
theorem m01{xs:List Ke}{k:List Int}{a:Ç}{v:Ä}:(Ý5 xs k a v).length<=xs.length + 1:=by
 unfold Ý5;split <;> simp
section
variable {P:à}{w:í}{A:ó}{R:Result->Æ->Prop}{s:Æ}
theorem m21{x:Str}{p1 p2 px ps:Pos}{k2:Nat}{iter:Ð}{sc:ë}{I D a:Ç}{en:Env}{its:Array Ä}{m:Str->Option Ä}{kss:List (List Int)}(hu:A.units < Ä5)(hh:A.handled=none)(hI:a≠I)
 (hl:kss.length=its.size) (hz:its.size<=sizeLine) (ka:∀ (i:Nat) (ks:List Int),kss[i]?=some ks->∃ b:Ç,its[i]?=some (Á7 b)/\b≠I/\b≠D/\b≠en.locals/\Ü8 (È4 P w) s.heap ks b)
 (hx:en.kindOf x=some .local) (hk:en.scope.kind=.function) (hd:(x == ("__debug__":Str))=false) (hDC:D≠en.locals) (hDI:D≠I) (hDa:D≠a) (hCI:en.locals≠I) (hCa:en.locals≠a)
 (st:s.heap.IsListIter I a 0/\s.heap.IsList a its) (ac:K91 D [] s.heap) (hn:s.heap.Ns en.locals m)
 (hR:∀ (h':ê) (tk:Nat) m' (xs:List Ke),h'.Ns en.locals m'->K91 D xs h'->(∀ ks,ks∈xs.map (·.1)↔ks∈kss)->(∀ x∈xs,∃ i:Nat,kss[i]?=some x.1/\its[i]?=some (Á7 x.2.1))->(∀ b o,b≠en.locals->b≠I->b≠D->s.heap.get? b=some o->h'.get? b=some o)->R (.ok .next) { s with heap:=h',toks:=tk }) :
  Ë8 (Ø P w) A (.compLoop (.DictComp (.Name x p1) (.Constant (.bool true) k2 p2) [⟨.Name x px,iter,[],0⟩] sc ps) 0 (.ref I) (.ref D) en) R s:=by
 have W:=Ý8 (prog:=P) (w:=w) hh I a hI its;have keyS:∀ {h':ê}{ks:List Int}{b:Ç},(∀ b o,b≠en.locals->b≠I->b≠D->s.heap.get? b=some o->h'.get? b=some o)->b≠I->b≠D->b≠en.locals->Ü8 (È4 P w) s.heap ks b->Ü8 (È4 P w) h' ks b:=λk n1 n2 n3 ⟨o,i,n,e,r⟩=>⟨o,i,n,k _ o n3 n1 n2 e,r⟩;refine codeAny_compLoop_testsD (λn s'=>∃ (i:Nat) (h':ê) (tk:Nat) (m':Str->Option Ä) (xs:List Ke),s'={ s with heap:=h',toks:=tk }/\i<=its.size/\n=its.size + 1 - i/\(h'.IsListIter I a i/\h'.IsList a its)/\K91 D xs h'/\h'.Ns en.locals m'/\xs.length<=i/\(∀ ks,ks∈xs.map (·.1)↔ks∈kss.take i) /\
  (∀ x∈xs,∃ i:Nat,kss[i]?=some x.1/\its[i]?=some (Á7 x.2.1))/\∀ b o,b≠en.locals->b≠I->b≠D->s.heap.get? b=some o->h'.get? b=some o) ?_ (its.size + 1)
  ⟨0,s.heap,s.toks,m,[],rfl,Æ5 _,rfl,st,ac,hn,Æ5 _,λks=>(by simp),λx hx=>(by simp at hx),λ_ _ _ _ _ e=>e⟩
 rintro n s' ⟨i,h',tk,m',xs,rfl,hi,rfl,st',ac',hn',hxl,hks,had,hkp⟩;by_cases hlt:i < its.size
 ·refine W.item i _ _ _ hlt st' λv h1 tk1 hv st1 k1=>?_;have hv':kss[i]?=some kss[i]:=á ∅
  obtain⟨b,hb,bI,bD,bC,isb⟩:=ka i _ hv';have hv0:its[i]?=some v:=hv;rw[hb] at hv0;cases hv0;refine Ý4 (Ö5 hx (hn'.at' λo e=>k1 _ o (by simpa using hCI) e) (λh2 hn2 sb2=>?_) (by rw[hk];rfl))
  have k2:∀ b o,b≠en.locals->b≠I->h'.get? b=some o->h2.get? b=some o:=λb o z1 z2 e=>sb2.extBut b o z1 (k1 b o (by simpa using z2) e)
  refine wpAny_tests_nil ?_;rw[if_pos rfl];refine Î1 (Ï0 (v:=.ref b) hk hx hn2 (by simp) ?_) hd
  refine Constant_bool ?_;obtain⟨o,es,ep,e1,e2,e3,e4,e5⟩:=ac';have kall:∀ b o,b≠en.locals->b≠I->b≠D->s.heap.get? b=some o->h2.get? b=some o:=λb o z1 z2 z3 e=>k2 b o z1 z2 (hkp b o z1 z2 z3 e);have isK:∀ x∈xs,Ü8 (È4 P w) h2 x.1 x.2.1:=λx hx=>by
   obtain⟨j,q1,q2⟩:=had x hx;obtain⟨b',r1,r2,r3,r4,r5⟩:=ka j _ q1;rw[q2] at r1;cases r1;exact keyS kall r2 r3 r4 r5
  refine wpAny_dictSet_heap (hsz:=by omega) (knd:=tupleKind (È4 P w)) hu (keyS kall bI bD bC isb) ⟨o,es,ep,k2 D o hDC hDI e1,e2,e3,e4,isK,e5⟩ λh3 ⟨o3,es3,ep3,f1,f2,f3,f4,_,f6⟩ sb3=>?_
  refine⟨its.size + 1 - (i + 1),∅,i + 1,h3,_,_,Ý5 xs kss[i] b (.bool true),rfl,hlt,rfl,W.frame _ h2 _ ?_ λc hc o e=>sb3.extBut c o (λz=>?_) e,⟨o3,es3,ep3,f1,f2,f3,f4,f6⟩,hn2.sameBut sb3 (Á0 hDC),Ó m01 ∅,λks=>?_,λy hy=>?_,λc o z1 z2 z3 e=>sb3.extBut c o z3 (kall c o z1 z2 z3 e)⟩
  ·exact W.frame _ _ _ st1 λc hc o e=>sb2.extBut c o (λz=>by subst z;rcases ï.mp hc with z | z;exact hCI z;exact hCa (by simpa using z)) e
  ·subst z;rcases ï.mp hc with z | z
   ·exact hDI z
   ·exact hDa (by simpa using z)
  ·rw[Y70,hks,List.take_succ,Á2,hv'];exact or_congr Iff.rfl (Ù (a:=ks) (b:=kss[i])).symm
  ·rcases l91 hy with ⟨u,hu',e6,e7⟩ | ⟨e6,e7⟩
   ·rw[← e6,← e7];exact had u hu'
   ·exact⟨i,by rw[e6];exact hv',by rw[e7];exact hb⟩
 ·have hin:i=its.size:=∅
  subst hin;refine W.done _ _ _ st' λh1 tk1 k1=>?_;obtain⟨o,es,ep,e1,e2⟩:=ac';exact hR h1 tk1 m' xs (hn'.at' λo e=>k1 _ o (by simpa using hCI) e) ⟨o,es,ep,k1 _ _ (by simpa using hDI) e1,e2⟩ (λks=>by rw[hks,← hl,List.take_length]) had λb o z1 z2 z3 e=>k1 b o (by simpa using z2) (hkp b o z1 z2 z3 e)
end
theorem M60{α β:Type}{R:α->β->Prop}:∀ {l:List α}{r:List β}{i:Nat}{b:β},À5 R l r->r[i]?=some b->∃ a,l[i]?=some a/\R a b
 |_,_,_,_,.nil,e=>by simp at e|_,_,0,_,.cons h _,e=>by cases e;exact⟨_,rfl,h⟩
 |_,_,i + 1,_,.cons _ t,e=>M60 (i:=i) t e
section
variable {X:Cx}
def p32(K:Â)(ti:TE):TE:=λσ H Q=>ti σ H λv H1=>∃ a ys kss,v=.ref a/\SqL K H1 a ys/\À5 (λy ks=>∃ b,y=.ref b/\SqT K H1 b (ks.map V.int)) ys kss/\∀ d H2,a20 H1 H2->H1 d=none->l81 K H2 d kss->Q (.ref d) H2
theorem L01{x:Str}{p1 p2 px ps:Pos}{k2:Nat}{iter:Ð}{sc:ë}{ti:TE}(hc:X.calm=true)(hu:X.A.units < Ä5)(S:n40 X sc [x] [])(hx:sc.names.lookup x=some .local)(hd:(x == ("__debug__":Str))=false)(hi:PE X iter ti)
 (hs:∀ v,Å3 iter X.env v=pure v):PE X (.DictComp (.Name x p1) (.Constant (.bool true) k2 p2) [⟨.Name x px,iter,[],0⟩] sc ps) (p32 X.K ti):=by
 intro pins s σ H Q I h;obtain⟨cl,hclos,hcl,hcf⟩:=K90 (scope:=sc) (env:=X.env) λy hy hk=>I.ok.has y.1 (S.frees y hy hk);rw[arm_eval_DictComp];refine Ë4 (use:=none) rfl hs hclos S.kind S.locs (thn (hi pins s σ H _ I h) λv s1 h1=>?_);obtain⟨x1,H1,I1,r1,a,ys,kss,rfl,hq,pk,q⟩:=h1;cases r1;obtain⟨its,rv,p,hz⟩:=I1.list hq;have hal:a < s1.heap.objs.size:=by
  obtain⟨_,o,e,_⟩:=p;exact Þ e
 refine Í1 p.isList (é (Ù4 S.nocell (by intro y hy;simp at hy) (λh2 hns sb=>?_) S.kind))
 dsimp only at hns sb ⊢;generalize e0:s1.heap.push { cls:=.type "list_iterator",data:=.fields #[.ref a,.int 0 0] }=g0 at hns sb ⊢;generalize e1:g0.push { cls:=.type "dict",dict:=none,data:=.dict #[] }=g1 at hns sb ⊢;have z0:g0.objs.size=s1.heap.objs.size + 1:=by rw[← e0,É6]
 have z1:g1.objs.size=s1.heap.objs.size + 2:=by rw[← e1,É6,z0]
 have n01:s1.heap.objs.size≠g0.objs.size:=∅
 have n02:s1.heap.objs.size≠g1.objs.size:=∅
 have n12:g0.objs.size≠g1.objs.size:=∅
 have lw:∀ {b:Ç},b < s1.heap.objs.size->b≠s1.heap.objs.size/\b≠g0.objs.size/\b≠g1.objs.size:=λ{b} hb=>⟨Õ hb,Õ (Ô hb ∅),Õ (Ô hb ∅)⟩
 have old0:∀ b o,g0.get? b=some o->b≠g1.objs.size->h2.get? b=some o:=λb o e n=>sb.extBut b o n (Ã _ (e1 ▸ Ã _ e));have old:∀ b o,s1.heap.get? b=some o->h2.get? b=some o:=λb o e=>old0 b o (e0 ▸ Ã _ e) (lw (Þ e)).2.2;have hit:h2.IsListIter s1.heap.objs.size a 0:=⟨_,old0 _ _ (e0 ▸ Ê _ rfl) n02,rfl,rfl⟩;have hD:K91 g0.objs.size [] h2:=⟨_,#[],_,sb.extBut _ _ n12 (Ã _ (e1 ▸ Ê _ rfl)),⟨rfl,rfl,rfl⟩,rfl,rfl,by simp⟩
 have loop:∀ s3:Æ,s3={ s1 with heap:=h2,toks:=s1.toks + ([]:List (Str × Ä)).length }->Ë8 (Ø X.prog X.w) X.A (.compLoop (.DictComp (.Name x p1) (.Constant (.bool true) k2 p2) [⟨.Name x px,iter,[],0⟩] sc ps) 0 (.ref s1.heap.objs.size) (.ref g0.objs.size) (compEnvC sc cl g1.objs.size X.env))
   (compPost (Ø X.prog X.w) X.A X.xe none (EP X pins σ Q) (.ref g0.objs.size) g1.objs.size) s3:=by
  rintro s3 rfl;refine m21 (kss:=kss) (its:=its.toArray) (a:=a) hu (I1.ok.hd hc) (lw hal).1 (by rw[Ö,← rv.length];exact pk.length.symm) (by rw[Ö,← rv.length];exact hz) (λi ks e=>?_) (lookup_relabel_local hx) S.kind hd n12 n01.symm (lw hal).2.1.symm n02.symm (lw hal).2.2.symm
   ⟨hit,p.isList.at λo e=>old _ o e⟩ hD hns λh' tk m' xs hn' kd kk ka kp=>?_
  ·obtain⟨y,hy,b,rfl,hb⟩:=M60 pk e;obtain⟨u,hu1,hu2⟩:=rv.get hy;cases hu2;obtain⟨o,i2,n2,f1,f2⟩:=key_is I1 hb;obtain⟨l1,l2,l3⟩:=lw (Þ f1);exact⟨b,by simpa using hu1,l1,l2,l3,o,i2,n2,old _ _ f1,f2⟩
  ·refine⟨m',hn',λh3 sb3=>?_⟩;obtain⟨o,es,ep,f1,f2⟩:=kd;have kd3:K91 g0.objs.size xs h3:=⟨o,es,ep,sb3.extBut _ _ n12 f1,f2⟩;have kp3:∀ b o,s1.heap.get? b=some o->h3.get? b=some o:=λb o e=>by
    obtain⟨l1,l2,l3⟩:=lw (Þ e);exact sb3.extBut b o l3 (kp b o l3 l1 l2 (old b o e))
   have hDn:H1 g0.objs.size=none:=I1.hok.fresh ∅
   have hst:∀ h1 h2:ê,K91 g0.objs.size xs h1->(∀ o,h1.get? g0.objs.size=some o->h2.get? g0.objs.size=some o)->K91 g0.objs.size xs h2:=λ_ _ ⟨o,es,ep,f1,f2⟩ k=>⟨o,es,ep,k _ f1,f2⟩;refine⟨.ref g0.objs.size,upd H1 g0.objs.size (.ext (K91 g0.objs.size xs)),I1.laid (t':=tk) kp3 ∅ ⟨kd3,⟨o,sb3.extBut _ _ n12 f1⟩,hst⟩,rfl,q _ _ (a20.new _ hDn) hDn ⟨xs,a70,?_,λy hy=>?_,kk⟩⟩
   ·exact beq_eq_false_iff_ne.mpr (lw I1.big).2.1.symm
   ·obtain⟨i,g1',g2⟩:=ka y hy;obtain⟨u,hu0,b,rfl,hb⟩:=M60 pk g1';obtain⟨u',hu1,hu2⟩:=rv.get hu0;cases hu2;have g2':its[i]?=some (.ref y.2.1):=by simpa using g2
    rw[hu1] at g2';cases g2';exact a20.sqT (a20.new _ hDn) hb
 exact codeAny_compStart_dict (loop _ rfl) (wpAny_pyIter_listiter hit (loop _ rfl))
end
end L2
namespace SS
open PySem
def bts(m:Nat):List Nat:=(ò 8).filter λi=>m.testBit i
def add(m v:Nat):Nat:=m ||| 2 ^ v
def tbl(led:Bool)(m:Nat):SetTable:=if (bts m).length < 5 then⟨7,(bts m).toArray,#[],0,led,0,true⟩ else⟨31,(bts m).toArray,#[],0,led,1,true⟩
def o51(led:Bool)(m v:Nat):SetTable:={ tbl led m with place:=(bts (add m v)).toArray }
def pos(m v:Nat):Nat:=((bts m).filter (· < v)).length
def hs(m:Nat):Array Int:=((bts m).map Int.ofNat).toArray
def full(led:Bool)(m v:Nat):Bool:=if (o51 led m v).tooFull then decide ((o51 led m v).relaid (hs (add m v)) (Ï2.grown ((bts m).length + 1))=some (tbl led (add m v),(ò ((bts m).length + 1)).toArray)) else decide (o51 led m v=tbl led (add m v))
def chk(led:Bool)(m v:Nat):Bool:=if m.testBit v then decide (add m v=m) else decide (add m v < 256)&&decide ((tbl led m).freeSlot (v:Int)=some (v,false))&&decide ((tbl led m).put v=(o51 led m v,pos m v))&&(o51 led m v).fits ((bts m).length + 1) &&
 decide ((bts m).take (pos m v)++v::(bts m).drop (pos m v)=bts (add m v))&&decide ((bts (add m v)).length=(bts m).length + 1)&&(tbl led (add m v)).fits ((bts m).length + 1)&&full led m v
theorem a42:([true,false].all λled=>(ò 256).all λm=>(tbl led m).fits (bts m).length&&(ò 8).all λv=>chk led m v)=true:=by decide +kernel
theorem D60(led:Bool)(hm:m < 256):(tbl led m).fits (bts m).length=true/\∀ v,v < 8->chk led m v=true:=by
 have h:=Ú.mp (Ú.mp a42 led (by cases led <;> simp)) m (À1.mpr hm)
 rw[Á] at h;exact⟨h.1,λv hv=>Ú.mp h.2 v (À1.mpr hv)⟩
theorem D70:i∈bts m↔i < 8/\m.testBit i=true:=by unfold bts;rw[Ð9,Ö6]
abbrev led(w:í):Bool:=!(w.params.followText "set-order")
def ent(g:Nat->Tok)(m:Nat):Array (Int × Ä):=((bts m).map λ(i:Nat)=>((i:Int),Æ2 i (g i))).toArray
def A70(w:í)(h:ê)(a:Ç)(m:Nat):Prop:=∃ o ep g,h.get? a=some o/\o.ExactSet/\o.data=.set (ent g m) ep (tbl (led w) m)
theorem d80(g:Nat->Tok)(m:Nat):(ent g m).size=(bts m).length:=by unfold ent;simp
theorem a52(g:Nat->Tok)(u:Tok)(hv:m.testBit v=false)(h:(bts m).take (pos m v)++v::(bts m).drop (pos m v)=bts (add m v)):Ï2.insertAt (ent g m) (pos m v) ((v:Int),Æ2 v u)=ent (λi=>if i=v then u else g i) (add m v):=by
 have hne:∀ i∈bts m,i≠v:=λi hi e=>by subst e;rw[(D70.mp hi).2] at hv;cases hv
 have e1:(bts m).map (λ(i:Nat)=>((i:Int),Æ2 i (g i)))=(bts m).map λ(i:Nat)=>((i:Int),Æ2 i (if i=v then u else g i)):=Ç0 λi hi=>by rw[if_neg (hne i hi)]
 unfold ent;rw[← h,e1];apply Û4.mp;unfold Ï2.insertAt;simp;exact Ë9 (by simp)
theorem L11(g:Nat->Tok)(m:Nat):(ent g m).map (·.1)=hs m:=by
 unfold ent hs;rw[map_toArray,Ã8];rfl
theorem L21{α:Type}(xs:Array α):((ò xs.size).toArray).filterMap (xs[·]?)=xs:=by
 apply Û4.mp;rw[Array.toList_filterMap];exact PySem.W.krv_all xs
section
variable {P:à}{w:í}{A:ó}{E:Ä->Æ->Prop}{s:Æ}{a:Ç}{m:Nat}
theorem H60{v:Nat}(h:v < 8):(È4 P w).hash (v:Int)=v:=by
 have:∀ v:Nat,v < 8->hashInt (v:Int)=v:=1e1
 exact this v h
def elems(g:Nat->Tok)(m:Nat):ElemsOf (È4 P w) (ent g m).toList:=λe he=>by
 unfold ent at he;obtain⟨i,hi,rfl⟩:=Ò.mp he;exact⟨⟨i,Ü3 _ _ _ _,(H60 (D70.mp hi).1).symm⟩,rfl⟩
theorem E92(g:Nat->Tok){v:Nat}(u:Tok){led:Bool}(hm:m < 256)(hv:v < 8)(hb:m.testBit v=false):layNew (tbl led m) (ent g m) (v:Int) (.int v u)=(ent (λi=>if i=v then u else g i) (add m v),o51 led m v,false,false):=by
 have h:=(D60 led hm).2 v hv;unfold chk at h;rw[hb,if_neg Ï] at h;simp only[Á,decide_eq_true_eq] at h;obtain⟨⟨⟨⟨⟨⟨⟨_,h1⟩,h2⟩,h3⟩,h4⟩,h5⟩,_⟩,_⟩:=h;unfold layNew;rw[h1];dsimp only;rw[h2];dsimp only;rw[a52 g u hb h4,d80,h5];unfold Ï2.orStandIn;rw[h3];rfl
theorem a62(g:Nat->Tok){v:Nat}{led:Bool}(hm:m < 256)(hv:v < 8)(hb:m.testBit v=false)(ht:(o51 led m v).tooFull=true):relayAll (o51 led m v) (ent g (add m v)) (Ï2.grown (ent g (add m v)).size)=(ent g (add m v),tbl led (add m v),false):=by
 have h:=(D60 led hm).2 v hv;unfold chk at h;rw[hb,if_neg Ï] at h;simp only[Á,decide_eq_true_eq] at h;obtain⟨⟨⟨⟨⟨⟨⟨_,_⟩,_⟩,_⟩,_⟩,h5⟩,h6⟩,h7⟩:=h;unfold full at h7;rw[if_pos ht,decide_eq_true_eq] at h7;unfold relayAll;rw[L11,d80,h5,h7];dsimp only;have e:((ò ((bts m).length + 1)).toArray).filterMap ((ent g (add m v))[·]?)=ent g (add m v):=by
  have:=L21 (ent g (add m v));rw[d80,h5] at this;exact this
 rw[e,d80,h5,h6];have c:coversAll (ò ((bts m).length + 1)).toArray ((bts m).length + 1)=true:=by
  unfold coversAll;rw[List.isPerm_iff]
 rw[c];rfl
theorem S41(hm:m < 256)(hv:v < 8):add m v < 256:=by
 have h:=(D60 true hm).2 v hv;unfold chk at h;cases hb:m.testBit v with
 |true=>rw[hb,if_pos rfl,decide_eq_true_eq] at h;rw[h];exact hm
 |false =>
  rw[hb,if_neg Ï] at h;simp only[Á,decide_eq_true_eq] at h;exact h.1.1.1.1.1.1.1
theorem add_same(hm:m < 256)(hv:v < 8)(hb:m.testBit v=true):add m v=m:=by
 have h:=(D60 true hm).2 v hv;unfold chk at h;rw[hb,if_pos rfl,decide_eq_true_eq] at h;exact h
theorem p42{v:Nat}{u:Tok}{Q:Bool->Æ->Prop}(hm:m < 256)(hv:v < 8)(hS:A70 w s.heap a m)(h:∀ b h',Ì2 a s.heap h'->A70 w h' a (add m v)->Q b { s with heap:=h' }) :
  Ñ (Ø P w) A (setAddHashed a (.int v u) ((È4 P w).hash v)) Q E s:=by
 obtain⟨o,ep,g,ho,hex,hd⟩:=hS;have hf:(tbl (led w) m).fits (ent g m).size=true:=by rw[d80];exact(D60 _ hm).1
 have hsz:(bts m).length<=8:=Ó (Â0 _ _) (by simp)
 have hb:(ent g m).size < scanBound:=by rw[d80];unfold scanBound;omega
 have hel:=elems (P:=P) (w:=w) g m;unfold setAddHashed setAddHashedIn;refine À6 (À (Ó9 ho hd hf ?_));dsimp only;rw[byScan_of (knd:=È4 P w) rfl hb hel];simp only[↓reduceIte];unfold setAddByScan;refine À ?_;refine À (É9 ?_);refine À (wpAny_setScan_of (Ü3 _ _ _ _) ho hd hf hel ?_);cases hr:List.findIdx? (λe=>(È4 P w).is (v:Int) e.2) (ent g m).toList with
 |some j =>
  dsimp only;obtain⟨hj,hpj,_⟩:=List.findIdx?_eq_some_iff_getElem.mp hr;have hmem:(ent g m).toList[j]∈(ent g m).toList:=Ç4 hj;unfold ent at hmem;obtain⟨i,hi,e⟩:=Ò.mp hmem;rw[show(ent g m).toList[j]=((i:Int),Æ2 i (g i)) from e.symm] at hpj;have hiv:i=v:=by
   have:=(È4 P w).inj _ _ _ hpj (Ü3 P w i (g i));omega
  subst hiv;have q:=h false s.heap (Ì2.refl a s.heap) (by rw[add_same hm hv (D70.mp hi).2];exact⟨o,ep,g,ho,hex,hd⟩)
  exact Å (Å q)
 |none =>
  dsimp only;have hbt:m.testBit v=false:=by
   cases hk:m.testBit v with
   |false=>rfl
   |true =>
    have:((v:Int),Æ2 v (g v))∈(ent g m).toList:=Ò.mpr ⟨v,D70.mpr ⟨hv,hk⟩,rfl⟩;have:=List.findIdx?_eq_none_iff.mp hr _ this;rw[Ü3] at this;cases this
  rw[H60 hv,E92 g u hm hv hbt];have hgw:∀ (b:Bool) {s₁:Æ}{Q':Unit->Æ->Prop},Q' () s₁->Ñ (Ø P w) A (match b with | true=>rule "set.scan.the-table-gave-way" | false=>pure ()) Q' E s₁:=λb s₁ Q' hq=>by cases b <;> first | exact Å hq | exact É9 hq
  dsimp only;refine À (Å ?_);have hpl:(o51 (led w) m v).plain=true:=by unfold o51 tbl;split <;> rfl
  rw[if_pos hpl,hashByValue_scannable 8 rfl];refine À (Å ?_);simp only[plainKind,↓reduceIte];have hk:=(D60 (led w) hm).2 v hv;unfold chk at hk;rw[hbt,if_neg Ï] at hk;simp only[Á,decide_eq_true_eq] at hk;obtain⟨⟨_,h6⟩,h7⟩:=hk;have hlt:=S41 hm hv;have hsz2:(bts (add m v)).length<=8:=Ó (Â0 _ _) (by simp)
  have hb2:∀ g,(ent g (add m v)).size<=sizeLine:=λg=>by rw[d80,Á1];omega
  have get:∀ {h0:ê}{o:Obj}{es ep t} (es':Array (Int × Ä)) (t':Ï2),h0.get? a=some o->o.data=.set es ep t->(h0.update a (Obj.putSet es' t')).get? a=some { o with data:=.set es' (ep + 1) t' }:=λ{h0 o es ep t} es' t' e1 e2=>by
   have:=È0 (Obj.putSet es' t') e1 (by rw[putSet_of es' t' e2];rfl)
   rw[putSet_of es' t' e2] at this;exact this
  refine À (wpAny_storeSet_of ho hd ?_ (hb2 _));have g1:=get (ent (λi=>if i=v then u else g i) (add m v)) (o51 (led w) m v) ho hd;have sb1:=Æ1 s.heap a (Obj.putSet (ent (λi=>if i=v then u else g i) (add m v)) (o51 (led w) m v));simp only[Bool.not_false,Ä2];unfold full at h7;split
  ·rename_i ht;rw[if_pos ht] at h7;rw[a62 _ hm hv hbt ht];dsimp only;refine À (Å ?_);refine À (wpAny_storeSet_of g1 rfl ?_ (hb2 _));exact Å (Å (h _ _ (sb1.trans (Æ1 _ a _)) ⟨_,_,_,get _ _ g1 rfl,hex,rfl⟩))
  ·rename_i ht;rw[if_neg ht,decide_eq_true_eq] at h7;exact Å (Å (h _ _ sb1 ⟨_,ep + 1,_,g1,hex,congrArg _ h7⟩))
end
open PySem PySem.W PyProof.Rows
def met(val:Nat->Nat):Nat->Nat
 |0=>0|i + 1=>add (met val i) (val i)
theorem u11(h:∀ i,val i < 8):∀ i,met val i < 256
 |0=>by show(0:Nat) < 256;decide|i + 1=>S41 (u11 h i) (h i)
section
variable {P:à}{w:í}{A:ó}
theorem A70.keep(x:A70 w h a m)(k:∀ o,h.get? a=some o->h'.get? a=some o):A70 w h' a m:=by
 obtain⟨o,ep,g,ho,r⟩:=x;exact⟨o,ep,g,k o ho,r⟩
theorem a72{R:Result->Æ->Prop}{I:Ç}{fp wr:List Ç}{G:Array Þ1->Array Þ1->Prop}{n:Nat}{Pv:Nat->Ä->Prop}{St:Nat->Æ->Prop}(W:WalksS P w A.in1 I fp wr G n Pv St)(S:Ç)(hf:S ∉ fp){val:Nat->Nat}(hv:∀ i,val i < 8)(hp:∀ i v,Pv i v->∃ t,v=.int (val i) t) :
 ∀ (k i:Nat) (s:Æ),i + k=n->St i s->A70 w s.heap S (met val i)->(∀ s',Moved (S::wr) G s s'->A70 w s'.heap S (met val n)->R (.ok (.ret .none)) s')->Ë8 (Ø P w) A (.builtin "set.update.loop" ⟨[.ref S,.ref I],[]⟩) R s:=by
 have hw:S ∉ wr:=λh=>hf (W.sub _ h);intro k
 induction k with
 |zero =>
  intro i s hk st x q;have hk:i=n:=hk;subst hk;refine Â1 F.entry_set_update_loop ?_;rw[Â8 Ô5 _];refine À (m:=Ò1 (.ref I)) (W.done s _ _ st λs1 mv=>?_);exact Å (q s1 (mv.mono λb hb=>Ë _ hb) (x.keep λo=>mv.heap S o hw))
 |succ k ih =>
  intro i s hk st x q;refine Â1 F.entry_set_update_loop ?_;rw[Â8 Ô5 _];refine À (m:=Ò1 (.ref I)) (W.item i s _ _ ∅ st λv s1 pv st1 mv=>?_)
  obtain⟨t,rfl⟩:=hp i v pv;refine À (m:=Ý6 _ (setAdd S (.int (val i) t))) (À6 ?_);unfold setAdd;refine À6 (À ((È4 P w).pyHash (k:=(val i:Int)) (Ü3 _ _ _ _) ?_));refine p42 (s:={ s1 with toks:=s1.toks + 1 }) (u11 hv i) (hv i) (x.keep λo=>mv.heap S o hw) λb h2 sb x2=>?_;have off:∀ c o,c≠S->s1.heap.get? c=some o->h2.get? c=some o:=λc o hc e=>(sb.2 c hc).trans e;refine Å ⟨Î9 Ô5 _,ih (i + 1) _ ∅ (W.frame _ s1 _ _ st1 (le_succ _) λc hc o e=>off c o (λz=>hf (z ▸ hc)) e) x2 λs2 mv2 x3=>?_⟩
  exact q s2 (Moved.trans W.gtrans ((mv.mono λb hb=>Ë _ hb).then_heap (le_succ _) λc o hc e=>off c o (λz=>hc (z ▸ Ì)) e) mv2) x3
end
section
variable {P:à}{w:í}{A:ó}{E:Ä->Æ->Prop}{s:Æ}
abbrev S51(w:í):Obj:={ cls:=.type "set",dict:=none,data:=.set #[] 0 (.fresh 0 0 (led w)) }
theorem a82(a:Ä)(h:Q (.ref s.heap.objs.size) { s with heap:=s.heap.push (S51 w) }):Ë8 (Ø P w) A (.call (.builtin "set.__new__") ⟨[.type "set",a],[]⟩) (wants Q E) s:=by
 refine à5 ?_;refine À (m:=Õ1 _ _) (ß8 (F.newCall_set_1 a) (Å ⟨Î9 F.plain_set_new _,Â1 F.entry_set_new ?_⟩));rw[Â8 F.plain_set_new _];have hsub:=sub_set_self;obtain⟨hp,g,d,tk,os⟩:=s;unfold ÿ.«set.__new__» ÿ.Frozenset.newClass;dsimp only
 wp_walk
 refine Î0 (Å ?_);dsimp only;simp only[newObj];exact À (wpAny_alloc (Å (Å h)))
def a92{h:ê}:A70 w (h.push (S51 w)) h.objs.size 0:=⟨_,0,λ_=>0,Ê _ rfl,⟨rfl,rfl,rfl⟩,rfl⟩
structure U72(P:Program)(w:World)(T:String)(l:Addr)(o it:Obj)(n:Nat)(Pv:Nat->Value->Prop)(St:Addr->Nat->Heap->Prop):Prop where
 ty:o.cls=.type T
 f1:isSubtype (.type T) (.type "set")=pure false
 f2:isSubtype (.type T) (.type "frozenset")=pure false
 f3:(Value.type T == Value.type "dict")=false
 iter:∀ (A:Around) (E:Value->Shared->Prop) (s:Shared) (Q:Value->Shared->Prop),s.heap.get? l=some o->Q (.ref s.heap.objs.size) { s with heap:=s.heap.push it }->wpAny (model P w) A (pyIter (.ref l)) Q E s
 walk:∀ (A:Around) (I:Addr),A.handled=none->l≠I->Walks P w A I [I,l] [I] n Pv (St I)
 zero:∀ h:Heap,h.get? l=some o->St h.objs.size 0 (h.push it)
set_option maxHeartbeats 3200000 in
theorem e61{T:String}{l:Ç}{o it:Obj}{n:Nat}{Pv:Nat->Ä->Prop}{St:Ç->Nat->ê->Prop}{val:Nat->Nat}{Q:Ä->Æ->Prop}(D:U72 P w T l o it n Pv St)(hh:A.handled=none)(ho:s.heap.get? l=some o)(hv:∀ i,val i < 8)(hp:∀ i v,Pv i v->∃ t,v=.int (val i) t)
 (h:∀ (h':ê) (tk:Nat),A70 w h' s.heap.objs.size (met val n)->(∀ b u,s.heap.get? b=some u->h'.get? b=some u)->Q (.ref s.heap.objs.size) { s with heap:=h',toks:=tk }):Ñ (Ø P w) A (call (.type "set") [.ref l]) Q E s:=by
 obtain⟨c,tl,hmro⟩:=Ê3.mro;have hmade:=Ê3.made;have hsub:=Ê3.sub;have h1:=Ê3.notType;have h2:=Ê3.canCreate;have hct:=F.typeCall_set_1 (.ref l);refine Õ8 (à5 ?_);show Ñ _ _ (callAny (.type "set") _) _ _ _;refine Å ⟨Ø9 _ (by decide +kernel),Â1 F.entry_type_call ?_⟩
 rw[ó.under_plain (weight_type_call_type "set" [.ref l] []) rfl]
 repeat (any_goals (first | assumption | wp_step))
 refine È5 (a82 (.ref l) (E:=E) (Q:=λv s1=>v=.ref s.heap.objs.size/\s1={ s with heap:=s.heap.push (S51 w) }) ⟨rfl,rfl⟩) λr s1 hr=>?_;cases r with
 |error e=>exact hr
 |ok fl =>
  cases fl with
  |ret v =>
   obtain⟨rfl,rfl⟩:=hr;have hT:Þ3 { s with heap:=s.heap.push (S51 w) } (.ref s.heap.objs.size) "set":=⟨_,Ê _ rfl,rfl⟩;have hli:=Ê3.init.lookup;have hbi:=Ê3.init.bind (.ref s.heap.objs.size);have lS:l < s.heap.objs.size:=Þ ho;have ho1:(s.heap.push (S51 w)).get? l=some o:=Ã _ ho
   repeat (any_goals (first | assumption | wp_step))
   refine È5 (Ù8 (R:=wants (λr s2=>r=.none/\∃ h' tk,s2={ s with heap:=h',toks:=tk }/\A70 w h' s.heap.objs.size (met val n)/\∀ b u,s.heap.get? b=some u->h'.get? b=some u) E) Ê3.init.plain F.entry_set_init (check_set_init_1 hT ?_)) λr2 s2 hr2=>?_
   ·have f1:=D.f1;have f2:=D.f2;have f3:=D.f3;obtain⟨ocls,odict,odata,oslots⟩:=o;have hc:ocls=.type T:=D.ty;subst hc;unfold ÿ.«set.__init__» noKeywords ÿ.Frozenset.updateFrom;generalize hPI:pyIter=PI
    wp_walk
    subst hPI;refine D.iter _ _ _ _ ho1 ?_;refine À (Ù3 ?_);have hI:(s.heap.push (S51 w)).objs.size=s.heap.objs.size + 1:=É6 ..;have nI:l≠(s.heap.push (S51 w)).objs.size:=by rw[hI];exact Õ (Æ8 lS)
    have nS:s.heap.objs.size ∉ [(s.heap.push (S51 w)).objs.size,l]:=by
     rw[hI];simp only[Å2,Ã2,or_false,not_or];exact⟨Õ (Ï6 _),Ê7 lS⟩
    refine a72 ((D.walk _ _ (by simp[hh]) nI).toS) s.heap.objs.size nS hv hp n 0 _ (Nat.zero_add _) (D.zero _ ho1) (a92.keep λu e=>Ã _ e) λs' mv x=>?_
    obtain⟨h',g',d',tk',os'⟩:=s';have eg:g'=s.gens:=mv.gens;have ed:d'=s.drawn:=mv.drawn;have eo:os'=s.os:=mv.os;subst eg;subst ed;subst eo;refine Å (Å ⟨rfl,h',tk',rfl,x,λb u e=>?_⟩);have lb:=Þ e;refine mv.heap b u (λz=>?_) (Ã _ (Ã _ e));simp only[Å2,Ã2,or_false] at z;rw[hI] at z;rcases z with z | z
    ·exact Õ lb z
    ·exact Õ (Æ8 lb) z
   ·cases r2 with
    |error e=>exact hr2
    |ok fl2 =>
     cases fl2 with
     |ret r =>
      obtain⟨rfl,h',tk,rfl,x,kp⟩:=hr2
      repeat (any_goals (first | assumption | wp_step))
      exact h _ _ x kp
     |_=>exact hr2.elim
  |_=>exact hr.elim
end
def e71(m:Nat):Nat->Nat
 |0=>0|i + 1=>(bts m).getD i 0 + 1
theorem u21:((ò 256).all λm=>(ò ((bts m).length + 1)).all λi=>Ï2.below (bts m).toArray (e71 m i) == i)=true:=by decide +kernel
def below_at(hm:m < 256)(hi:i<=(bts m).length):Ï2.below (bts m).toArray (e71 m i)=i:=
 eq_of_beq (Ú.mp (Ú.mp u21 m (À1.mpr hm)) i (À1.mpr (Nat.lt_succ_of_le hi)))
theorem H70:∀ {l:List α}{i:Nat} (h:i < l.length),(l[i]::l.eraseIdx i).Perm l
 |x::r,0,_=>.refl _|x::r,i + 1,h=>(List.Perm.swap x _ _).trans ((H70 (l:=r) (i:=i) (Nat.lt_of_succ_lt_succ h)).cons x)
theorem u31(next:Nat->Nat):∀ (n k:Nat) (left:List α) (out:Array α),left.length=n->((ß2.go next n k left out).toList).Perm (out.toList++left)
 |0,k,left,out,h=>by
  have:left=[]:=List.eq_nil_of_length_eq_zero h;subst this;simp[ß2.go]
 |n + 1,k,left,out,h=>by
  have hl:next k % left.length < left.length:=Nat.mod_lt _ ∅
  have e:left[next k % left.length]?=some left[next k % left.length]:=List.getElem?_eq_getElem hl;unfold ß2.go;rw[e];refine(u31 next n (k + 1) _ _ (by rw[Þ8 hl];omega)).trans ?_
  rw[Array.toList_push,Ç7];exact List.Perm.append_left _ (H70 hl)
theorem u41(next:Nat->Nat)(xs:Array α):(ß2 next xs).toList.Perm xs.toList:=by
 have:=u31 next xs.size 0 xs.toList #[] (by simp)
 rw[Í4] at this;exact this
def ord(w:í)(a ep:Nat)(es:Array (Int × Ä)):Array (Int × Ä):=if w.params.followText "set-order" then ß2 (w.params.setOrder a ep) es else es
theorem e81(w:í)(a ep:Nat)(es:Array (Int × Ä)):(ord w a ep es).toList.Perm es.toList:=by
 unfold ord;split
 ·exact u41 _ _
 ·exact .refl _
theorem M70(w:í)(a ep:Nat)(es:Array (Int × Ä)):(ord w a ep es).size=es.size:=by
 have:=(e81 w a ep es).length_eq;simpa using this
def u51(w:í)(m i:Nat):Nat:=if w.params.followText "set-order" then 0 else e71 m i
def itO(w:í)(S ep n m i:Nat):Obj:={ cls:=.type "set_iterator",data:=.fields #[Ã9 (u51 w m i),Ã9 i,.ref S,Ã9 n,Ã9 ep] }
theorem c80:Slot "set_iterator" "__next__" "set_iterator.__next__":=.of (owner:="set_iterator") (n:="__next__") (by rw[typeLookup_type,builtinLookup_eq_fast];kernel_rfl) (by decide +kernel) (by decide +kernel) (by decide +kernel) (by first | exact .inl (by decide +kernel) | exact .inr (by decide +kernel)) (by rw[Ò5];kernel_rfl)
theorem o40:Slot "set_iterator" "__iter__" "set_iterator.__iter__":=.of (owner:="set_iterator") (n:="__iter__") (by rw[typeLookup_type,builtinLookup_eq_fast];kernel_rfl) (by decide +kernel) (by decide +kernel) (by decide +kernel) (by first | exact .inl (by decide +kernel) | exact .inr (by decide +kernel)) (by rw[Ò5];kernel_rfl)
def n50:entryFor table "set_iterator.__next__"=some ÿ.«set_iterator.__next__»:=entryFor_of_tree (by kernel_rfl)
theorem G80:entryFor table "set.__iter__"=some ÿ.«frozenset.__iter__»:=entryFor_alias (id':="frozenset.__iter__") (by kernel_rfl) rfl (by decide +kernel) (by kernel_rfl)
theorem A80:entryFor table "set_iterator.__iter__"=some ÿ.«dict_keyiterator.__iter__»:=entryFor_alias (id':="dict_keyiterator.__iter__") (by kernel_rfl) rfl (by decide +kernel) (by kernel_rfl)
theorem D80:Manifest.owners.lookup (String.ofList "rotareti_tes".toList.reverse)=some Manifest.sig_set_iterator:=by kernel_rfl
theorem o50(a:Ä):argsOk "set_iterator.__next__" ⟨[a],[]⟩:=by
 unfold argsOk;rw[signature?_of (id:="set_iterator.__next__") (n:="__txen__".toList) (o:="rotareti_tes".toList) (by kernel_rfl) D80];kernel_rfl
theorem D90(a:Ä):argsOk "set_iterator.__iter__" ⟨[a],[]⟩:=by
 unfold argsOk;rw[signature?_of (id:="set_iterator.__iter__") (n:="__reti__".toList) (o:="rotareti_tes".toList) (by kernel_rfl) D80];kernel_rfl
section
variable {P:à}{w:í}{A:ó}{E:Ä->Æ->Prop}{s:Æ}{S ep m:Nat}{g:Nat->Tok}{o:Obj}
theorem S60(b:Bool)(m:Nat):(tbl b m).plain=true:=by unfold tbl;split <;> rfl
theorem b02(b:Bool)(m:Nat):(tbl b m).led=b:=by unfold tbl;split <;> rfl
theorem u61(b:Bool)(m:Nat):(tbl b m).place=(bts m).toArray:=by unfold tbl;split <;> rfl
theorem M80(hm:m < 256):(tbl (led w) m).fits (ent g m).size=true:=by rw[d80];exact(D60 _ hm).1
theorem L31(hm:m < 256)(ho:s.heap.get? S=some o)(hx:o.ExactSet)(hd:o.data=.set (ent g m) ep (tbl (led w) m))(h:Q (.ref s.heap.objs.size) { s with heap:=s.heap.push (itO w S ep (bts m).length m 0) }):Ñ (Ø P w) A (pyIter (.ref S)) Q E s:=by
 have hT:s.TypeIs (.ref S) "set":=⟨o,ho,hx.1⟩;have hf:=M80 (w:=w) (g:=g) hm;have hp:=S60 (led w) m;refine wpAny_pyIter_slot hT F.slot_set_iter (À2 F.slot_set_iter hT G80 ?_ (F.args_set_iter_1 _));unfold ÿ.«frozenset.__iter__» ÿ.Frozenset.slot0 slotArgs;simp only[isEmpty_nil,à2,Ã7,↓reduceIte,bind_assoc,Ã1,bne_self_eq_false];unfold ÿ.Frozenset.addrOf ÿ.Frozenset.sizeOf;refine À (Å (À (Å (À (À (Û0 ho hd hf (Å ?_)))))));refine À ?_;have dr:Ñ (Ø P w) A.in1 (setDrawn S) (λb s'=>b=false/\s'=s) E s:=by
  unfold setDrawn setsByText;refine À (Ó9 ho hd hf (À (À (Î0 (Å (Å ⟨?_,rfl⟩))))));generalize tbl (led w) m=t at hp;obtain⟨t1,t2,t3,t4,t5,t6,t7⟩:=t;cases hp;show(!w.params.followText "set-order"&&_)=false;cases w.params.followText "set-order" <;> rfl
 refine Á9 dr (λb s' hb=>?_) λ_ _ e=>e;obtain⟨rfl,rfl⟩:=hb;rw[if_neg Ï];refine À (Å ?_);refine À (wpAny_setEpoch_of ho hd hf ?_);refine À (é (Å ⟨_,rfl,"set_iterator",_,⟨_,Ê _ rfl,rfl⟩,c80.lookup,?_⟩));have e:itO w S ep (bts m).length m 0={ cls:=.type "set_iterator",data:=.fields #[Ã9 0,Ã9 0,.ref S,Ã9 (ent g m).size,Ã9 ep] }:=by
  unfold itO u51;rw[d80];split <;> rfl
 rw[e] at h;exact h
theorem u71(hm:m < 256)(hi:i<=(bts m).length)(ho:s.heap.get? S=some o)(hd:o.data=.set (ent g m) ep (tbl (led w) m)):Ñ (Ø P w) A (setNext S (u51 w m i) i ep) (λr s'=>s'=s/\r=(ord w S ep (ent g m))[i]?.map λe=>(e.2,u51 w m (i + 1))) E s:=by
 have hf:=M80 (w:=w) (g:=g) hm;have hp:=S60 (led w) m;have hl:=b02 (led w) m;have hpl:=u61 (led w) m;unfold setNext;refine À (Ó9 ho hd hf ?_);unfold setsByText;refine À (À (Î0 (Å ?_)));dsimp only;unfold ord u51;show Ñ _ _ (if w.params.followText "set-order"=true then _ else _) _ _ _;cases hb:w.params.followText "set-order" with
 |true =>
  rw[if_pos rfl];rw[if_neg (by simp)]
  refine À ?_;unfold setWalk setsByText;refine À (Ó9 ho hd hf (À (À (Î0 (Å ?_)))));show Ñ _ _ (if w.params.followText "set-order"=true then _ else _) _ _ _;rw[hb,if_pos rfl];refine À (Î0 (Å (Å ⟨rfl,?_⟩)));simp only[↓reduceIte];rfl
 |false =>
  simp only[Ã7,↓reduceIte];have hl:(tbl (led w) m).led=true:=by rw[hl];show(!w.params.followText "set-order")=true;rw[hb];rfl
  generalize tbl (led w) m=t at hp hl hpl;obtain⟨t1,t2,t3,t4,t5,t6,t7⟩:=t;cases hp;cases hl;have hpl:t2=(bts m).toArray:=hpl;subst hpl;refine À (Å (Å ⟨rfl,?_⟩));rw[below_at hm hi];by_cases hi':i < (bts m).length
  ·have e1:(ent g m)[i]?=some (((bts m)[i]:Int),Æ2 ((bts m)[i]:Nat) (g (bts m)[i])):=by unfold ent;simp[hi']
   have e2:(bts m).toArray[i]?=some (bts m)[i]:=by simp[hi']
   rw[e1,e2];show some _=some _;have e3:e71 m (i + 1)=(bts m)[i] + 1:=by show(bts m).getD i 0 + 1=_;simp[hi']
   rw[e3]
  ·have e1:(ent g m)[i]?=none:=by unfold ent;simp;omega
   rw[e1];rfl
theorem L41{i:Nat}{I:Ç}(hm:m < 256)(hi:i < (bts m).length)(ho:s.heap.get? S=some o)(hd:o.data=.set (ent g m) ep (tbl (led w) m))(hI:s.heap.get? I=some (itO w S ep (bts m).length m i)){Q:Option Ä->Æ->Prop}
 (h:∀ v h',(ord w S ep (ent g m))[i]?.map (·.2)=some v->Ì2 I s.heap h'->h'.get? I=some (itO w S ep (bts m).length m (i + 1))->Q (some v) { s with heap:=h' }):Ñ (Ø P w) A (Ò1 (.ref I)) Q E s:=by
 have hT:s.TypeIs (.ref I) "set_iterator":=⟨_,hI,rfl⟩;have hf:=M80 (w:=w) (g:=g) hm;unfold Ò1;refine À (Ë5 (À3 (name:=À8 "__next__") hT c80 (À2 c80 hT n50 ?_ (o50 _))));unfold ÿ.«set_iterator.__next__» slotArgs;simp -iota only[isEmpty_nil,à2,Ã7,↓reduceIte,bind_assoc,Ã1,bne_self_eq_false];refine À (Å ?_);refine À (wpAny_fieldsOf hI rfl ?_);dsimp only [Ã9];refine À (Û0 ho hd hf ?_);rw[if_neg (by rw[d80];simp)]
 refine À (Á9 (u71 (i:=i) hm (Ç5 hi) ho hd) (λr s' hr=>?_) λ_ _ e=>e);obtain⟨rfl,rfl⟩:=hr;have hsz:i < (ord w S ep (ent g m)).size:=by rw[M70,d80];exact hi
 have e1:(ord w S ep (ent g m))[i]?=some (ord w S ep (ent g m))[i]:=by simp[hsz]
 simp -iota only[Â6,e1,map_some];unfold itO at hI;refine À (Ã3 hI (by simp) λh1 hI1 sb1=>?_)
 refine À (Ã3 hI1 (by simp) λh2 hI2 sb2=>?_)
 refine Å ⟨_,rfl,Å (h _ h2 (by rw[e1];rfl) (sb1.trans sb2) ?_)⟩
 unfold itO;simpa [Ã9] using hI2
theorem b12{I:Ç}(hh:A.handled=none)(hm:m < 256)(ho:s.heap.get? S=some o)(hd:o.data=.set (ent g m) ep (tbl (led w) m))(hI:s.heap.get? I=some (itO w S ep (bts m).length m (bts m).length)){Q:Option Ä->Æ->Prop}
 (h:∀ h',ê.ExtBut I s.heap h'->Q none { s with heap:=h' }):Ñ (Ø P w) A (Ò1 (.ref I)) Q E s:=by
 have hT:s.TypeIs (.ref I) "set_iterator":=⟨_,hI,rfl⟩;have hf:=M80 (w:=w) (g:=g) hm;unfold Ò1;refine À (Ë5 (À3 (name:=À8 "__next__") hT c80 (À2 c80 hT n50 ?_ (o50 _))));unfold ÿ.«set_iterator.__next__» slotArgs;simp -iota only[isEmpty_nil,à2,Ã7,↓reduceIte,bind_assoc,Ã1,bne_self_eq_false];refine À (Å ?_);refine À (wpAny_fieldsOf hI rfl ?_);dsimp only [Ã9];refine À (Û0 ho hd hf ?_);rw[if_neg (by rw[d80];simp)]
 refine À (Á9 (u71 (i:=(bts m).length) hm (Î _) ho hd) (λr s' hr=>?_) λ_ _ e=>e);obtain⟨rfl,rfl⟩:=hr;have e1:(ord w S ep (ent g m))[(bts m).length]?=none:=by simp[M70,d80]
 simp -iota only[Â6,e1,Option.map_none];unfold itO at hI;refine À (Ã3 hI (by simp) λh1 hI1 sb1=>À ?_)
 simp only[newExc,newTuple];refine À (é ?_ (by size_fits))
 refine À (m:=Ù7 _ _) (ß8 (a:=ä) (by first | rfl | (simp only[Ù7];rfl)) ?_)
 refine é ?_ (by size_fits)
 unfold raiseNew;refine À (wpAny_handled ?_);rw[show A.in1.handled=none from hh];refine À (Å (wpAny_throw ?_));refine À (ß1 (T:="StopIteration") (b:=true) ⟨_,Ê _ rfl,rfl⟩ isSubtype_stop ?_);exact Å (h _ ((sb1.extBut.push _).push _))
theorem u81(hh:A.handled=none)(hm:m < 256)(hx:o.ExactSet)(hd:o.data=.set (ent g m) ep (tbl (led w) m))(hn:S≠I):Walks P w A I [I,S] [I] (bts m).length (λi v=>(ord w S ep (ent g m))[i]?.map (·.2)=some v) (λi h=>h.get? S=some o/\h.get? I=some (itO w S ep (bts m).length m i)) where
 sub:=λb hb=>by simp at hb;simp[hb]
 frame:=λ_ _ _ st hk=>⟨hk S (by simp) _ st.1,hk I (by simp) _ st.2⟩
 item:=λi s Q E hi st hQ=>L41 hm hi st.1 hd st.2 λv h' hv sb hI=>hQ v h' s.toks hv ⟨(sb.2 S hn).trans st.1,hI⟩ λb u hb e=>(sb.2 b λz=>hb (by simp[z])).trans e
 done:=λs Q E st hQ=>b12 hh hm st.1 hd st.2 λh' kp=>hQ h' s.toks λb u hb e=>kp b u (λz=>hb (by simp[z])) e
 self:=λi s Q E st hQ=>by
  have hT:s.TypeIs (.ref I) "set_iterator":=⟨_,st.2,rfl⟩;refine wpAny_pyIter_slot hT o40 (À2 o40 hT A80 ?_ (D90 _));show Ñ _ _ (ret (.ref I)) _ _ s;exact Å ⟨_,rfl,"set_iterator",_,hT,c80.lookup,hQ⟩
set_option maxHeartbeats 3200000 in
theorem Y80{Q:List Ä->Æ->Prop}(hh:A.handled=none)(hm:m < 256)(ho:s.heap.get? S=some o)(hx:o.ExactSet)(hd:o.data=.set (ent g m) ep (tbl (led w) m))
 (hQ:∀ h' tk,s.heap.objs.size < h'.objs.size->(∀ b u,s.heap.get? b=some u->h'.get? b=some u)->Q ((ord w S ep (ent g m)).toList.map (·.2)) { s with heap:=h',toks:=tk }):Ñ (Ø P w) A (collect (.ref S)) Q E s:=by
 have lS:S < s.heap.objs.size:=Þ ho;have hsz:(bts m).length<=8:=Ó (Â0 _ _) (by simp)
 unfold collect;refine À (Ù3 (Â1 F.entry_proto_collect ?_));rw[Â8 F.plain_proto_collect _];refine À (m:=newList []) (é (Å ⟨Î9 F.plain_list_iadd _,Â1 F.entry_list_iadd ?_⟩));rw[Â8 F.plain_list_iadd _];show Ñ _ A.in1 (Ä3 (.ref s.heap.objs.size) (.ref S) (.ref s.heap.objs.size)) _ _ _;have oS:(s.heap.push { cls:=.type "list",data:=.seq ([]:List Ä).toArray }).get? S=some o:=Ã _ ho;have hL:(s.heap.push { cls:=.type "list",data:=.seq ([]:List Ä).toArray }).get? s.heap.objs.size=some { cls:=.type "list",data:=.seq ([]:List Ä).toArray }:=Ê _ rfl;have hT:Þ3 { s with heap:=s.heap.push { cls:=.type "list",data:=.seq ([]:List Ä).toArray } } (.ref S) "set":=⟨o,oS,hx.1⟩;unfold Ä3;refine À (È1 hT ?_);have c1:Ú9 (.ref s.heap.objs.size) (.ref S)=false:=by simp[Ú9];exact Ê7 lS
 have c2:(Â2 "set" == Â2 "list")=false:=1e1
 have c3:(Â2 "set" == Â2 "tuple")=false:=1e1
 simp only[c1,c2,c3,Bool.or_false,Ã7,if_false];refine À (L31 hm oS hx hd (À (À6 ?_)));have hT2:∀ u,Þ3 { s with heap:=(s.heap.push { cls:=.type "list",data:=.seq ([]:List Ä).toArray }).push u } (.ref S) "set":=λu=>⟨o,Ã _ oS,hx.1⟩;unfold ÿ.List.listLengthHint;refine À (wpAny_specialOf (hT2 _) F.slot_set_len.lookup ?_)
 wp_delta
 refine À (ß1 (T:="set") (b:=true) (hT2 _) (by rw[Ò5];kernel_rfl) ?_)
 show Ñ _ A.in1 (typeOf (Á7 S) >>= _) _ _ _;refine À (È1 (hT2 _) (Å ?_));rw[if_pos 1e1]
 refine À (É9 ?_);generalize hI:s.heap.push { cls:=.type "list",data:=.seq ([]:List Ä).toArray }=h1 at oS hL hT2;have sz1:h1.objs.size=s.heap.objs.size + 1:=by rw[← hI];exact É6 ..
 have hL2:(h1.push (itO w S ep (bts m).length m 0)).get? s.heap.objs.size=some { cls:=.type "list",data:=.seq ([]:List Ä).toArray }:=Ã _ hL;refine À (m:=ÿ.List.listTouch (.ref s.heap.objs.size)) ?_;show Ñ _ A.in1 (updateSeq s.heap.objs.size (·.push .none) >>= λ_=>updateSeq s.heap.objs.size (·.pop)) _ _ _;refine À (wpAny_updateSeq hL2 rfl ?_);have hL3:=È0 (þ (·.push ä)) hL2 rfl;refine wpAny_updateSeq hL3 rfl ?_;have hL4:=È0 (þ (·.pop)) hL3 rfl;have off:∀ b u,b≠s.heap.objs.size->(h1.push (itO w S ep (bts m).length m 0)).get? b=some u->(((h1.push (itO w S ep (bts m).length m 0)).update s.heap.objs.size (þ (·.push ä))).update s.heap.objs.size (þ (·.pop))).get? b=some u:=
  λb u hb e=>(Ì1 _ _ (Á0 hb)).trans ((Ì1 _ _ (Á0 hb)).trans e)
 have nI:S≠h1.objs.size:=by rw[sz1];exact Õ (Æ8 lS)
 have nS:s.heap.objs.size ∉ [h1.objs.size,S]:=by
  rw[sz1];simp only[Å2,Ã2,or_false,not_or];exact⟨Õ (Ï6 _),Ê7 lS⟩
 refine Å ⟨Î9 F.plain_extend_loop _,codeAny_extend_loopS (u81 (P:=P) (by simp[hh]) hm hx hd nI).toS (by rw[Á1];omega) s.heap.objs.size nS _ (bts m).length 0 _ _ _ rfl (Æ5 _) ⟨off _ _ (Õ lS) (Ã _ oS),off _ _ (by rw[sz1];exact(Õ (Ï6 _)).symm) (Ê _ rfl)⟩ hL4 (ItemsOf.nil _) λs' acc c mv hS' it=>?_⟩
 refine À (m:=load s.heap.objs.size) (wpAny_load hS' (Å ?_));have ea:acc.toList=(ord w S ep (ent g m)).toList.map (·.2):=by
  refine List.ext_getElem? λj=>?_;rw[Û,ú,ú];cases e:acc[j]? with
  |none =>
   have hj:(bts m).length<=j:=by rw[← it.1];simpa using e
   have:(ord w S ep (ent g m))[j]?=none:=by simp[M70,d80,hj]
   rw[this];rfl
  |some v=>rw[it.2 j v e]
 rw[ea];obtain⟨h',g',d',tk',os'⟩:=s';have eg:g'=s.gens:=mv.gens;have ed:d'=s.drawn:=mv.drawn;have eo:os'=s.os:=mv.os;subst eg;subst ed;subst eo;refine hQ h' tk' (Þ hS') λb u e=>mv.heap b u (λz=>?_) (off b u (Õ (Þ e)) (Ã _ (hI ▸ Ã _ e)));have lb:=Þ e;simp only[Å2,Ã2,or_false] at z;rw[sz1] at z;rcases z with z | z
 ·exact Õ lb z
 ·exact Õ (Æ8 lb) z
end
end SS
namespace Q
open PySem L2
abbrev Z:=Option (Int × Bool)
inductive S where
 |d (x:D) | fr (xs:List D) | z
 |ks (l:List (List Int))
inductive R (α:Type) where
 |ok (a:α) (z:Z) | er (c:Nat) (z:Z)
abbrev M(α:Type):=Z->Option (R α)
def M.ret{α:Type}(a:α):M α:=λz=>some (.ok a z)
def M.no{α:Type}:M α:=λ_=>none
def M.of{α:Type}:Option α->M α
 |some a=>M.ret a|none=>M.no
def M.bind{α β:Type}(m:M α)(f:α->M β):M β:=λz=>match m z with
 |some (.ok a z1)=>f a z1|some (.er c z1)=>some (.er c z1)|none=>none
def M.calm{α:Type}(m:M α):M α:=λz=>match m z with
 |some (.ok a z1)=>some (.ok a z1)|_=>none
abbrev Env:=List (Option S)
def pl:List S->Option D
 |[.d x]=>some x|[.fr xs]=>some (.lst xs)|_=>none
def one:List S->Option S
 |[s]=>some s|_=>none
def plS:S->S
 |.fr xs=>.d (.lst xs)|s=>s
def plD:S->Option D
 |.d x=>some x|.fr xs=>some (.lst xs)|_=>none
def plA:List S->Option (List D)
 |[]=>some []|.d x::r=>(plA r).map (x::·)|.fr xs::r=>(plA r).map (.lst xs::·)|_::_=>none
inductive Bi where
 |add | sub | mul | fdiv | mod | pow
inductive Cm where
 |eq | ne | lt | le | gt | ge | mem | nmem
inductive Bf where
 |len | sorted | tuple | list | min | max | all | any | int | sset | D52
inductive Ty where
 |int | bool | tuple | list | str | seq
inductive Pat where
 |v (i:Nat) | tup (ps:Pat) | nil | cons (p r:Pat)
inductive It where
 |seq | rng1 | rng2 | zip
inductive Ex where
 |nil | cons (a r:Ex)
 |var (i:Nat) | con (x:D) | gint (g:Str) (i:Int)
 |tup (as:Ex) | lst (as:Ex)
 |bin (o:Bi) (a b:Ex) | cmp (o:Cm) (a b:Ex) | neg (a:Ex)
 |not (a:Ex) | and (a b:Ex) | or (a b:Ex) | orT (a b:Ex) | ite (c a b:Ex)
 |ch (o o':Cm) (a b c:Ex)
 |bf (f:Bf) (as:Ex) | isi (t:Ty) (a:Ex)
 |idx (a i:Ex) | sl (a lo hi:Ex) | rev (a:Ex)
 |call (f:Nat) (as:Ex)
 |comp (own:Nat) (capt:List Nat) (p:Pat) (it:It) (src cond el:Ex)
 |zget (i k:Nat) | lrng (b:Bool) (as:Ex)
 |dkeys (a:Ex) | memk (o:Bool) (a:Ex) (i:Nat)
abbrev most:Nat:=100000
def u91:Nat:=2 ^ 4000
mutual
noncomputable def eqD:D->D->Bool
 |.non,.non=>true|.bl a,.bl b=>a == b|.int a,.int b=>a == b|.str a,.str b=>a == b|.bl a,.int b=>(if a then 1 else 0) == b|.int a,.bl b=>a == (if b then 1 else 0)|.tup a,.tup b=>o61 a b|.lst a,.lst b=>o61 a b|.dct,.dct=>true|_,_=>false
noncomputable def o61:List D->List D->Bool
 |[],[]=>true|a::r,b::q=>eqD a b&&o61 r q|_,_=>false
end
mutual
noncomputable def ltD:D->D->Option Bool
 |.int a,.int b=>some (decide (a < b))|.tup a,.tup b=>L51 a b|_,_=>none
noncomputable def L51:List D->List D->Option Bool
 |[],[]=>some false|[],_::_=>some true|_::_,[]=>some false|a::r,b::q=>if eqD a b then L51 r q else ltD a b
end
mutual
noncomputable def n60:D->Bool
 |.dct=>false|.tup l=>e10 l|.lst l=>e10 l|.str x=>PyData.strOk x|_=>true
noncomputable def e10:List D->Bool
 |[]=>true|x::r=>n60 x&&e10 r
end
mutual
noncomputable def deep:D->Nat
 |.tup l=>e70 l + 1|.lst l=>e70 l + 1|_=>0
noncomputable def e70:List D->Nat
 |[]=>0|x::r=>Ï3 (deep x) (e70 r)
end
def okD(d:D):Bool:=n60 d&&decide (deep d<=40)
def G90(l:List D):Bool:=e10 l&&decide (e70 l<=39)
theorem f00{c:Prop}[Decidable c]{α:Type}{a:Option α}{b:α}(h:(if c then a else none)=some b):c/\a=some b:=by
 by_cases k:c
 ·rw[if_pos k] at h;exact⟨k,h⟩
 ·rw[if_neg k] at h;cases h
def eqO(a b:D):Option Bool:=if okD a&&okD b then some (eqD a b) else none
def eqE:D->D->Option Bool
 |.tup l,.tup []=>some l.isEmpty|_,_=>none
def eqQ(a b:D):Option Bool:=if okD a&&okD b then some (eqD a b) else eqE a b
def ltO(a b:D):Option Bool:=if okD a&&okD b then ltD a b else none
def memD(x:D)(l:List D):Bool:=l.any λy=>eqD y x
def o71(x:D)(l:List D):Option Bool:=if okD x&&G90 l then some (memD x l) else none
def w90:List D->Option (List Int)
 |[]=>some []|.int i::r=>(w90 r).map (i::·)|_=>none
def H80:Bi->D->D->Option S
 |.add,.int i,.int j=>some (.d (.int (i + j)))|.add,.tup a,.tup b=>if a.length + b.length<=most then some (.d (.tup (a++b))) else none|.add,.lst a,.lst b=>if a.length + b.length<=most then some (.fr (a++b)) else none|.sub,.int i,.int j=>some (.d (.int (i - j)))|.mul,.int i,.int j=>if i.natAbs < u91/\j.natAbs < u91 then some (.d (.int (i * j))) else none|.mul,.tup a,.int j=>if 0<=j/\j.toNat * a.length<=most/\j < 1000000 then some (.d (.tup (ð j.toNat a).flatten)) else none|.mul,.lst a,.int j=>if 0<=j/\j.toNat * a.length<=most/\j < 1000000 then some (.fr (ð j.toNat a).flatten) else none|.fdiv,.int i,.int j=>if 0 < j/\j.natAbs < u91 then some (.d (.int (i / j))) else none|.mod,.int i,.int j=>if 0 < j then some (.d (.int (i % j))) else none|.pow,.int i,.int j=>if 0<=j/\j<=1000/\i.natAbs < 2 ^ 64 then some (.d (.int (i ^ j.toNat))) else none|_,_,_=>none
def neO:D->D->Option Bool
 |.dct,.tup _=>some true|a,b=>(eqO a b).map (!·)
def t80:Cm->D->D->Option Bool
 |.eq,a,b=>eqQ a b|.ne,a,b=>neO a b|.lt,a,b=>ltO a b|.gt,.int a,.int b=>some (decide (b < a))|.le,.int a,.int b=>some (decide (a<=b))|.le,.tup a,.tup b=>(w90 a).bind λns=>(w90 b).map λms=>HT.leB ns ms|.ge,.int a,.int b=>some (decide (b<=a))|.mem,a,.tup l=>o71 a l|.mem,a,.lst l=>o71 a l|.nmem,a,.tup l=>(o71 a l).map (!·)|.nmem,a,.lst l=>(o71 a l).map (!·)|_,_,_=>none
def S61:Ty->D->Bool
 |.int,.int _=>true|.int,.bl _=>true|.bool,.bl _=>true|.tuple,.tup _=>true|.list,.lst _=>true|.str,.str _=>true|.seq,.tup _=>true|.seq,.lst _=>true|_,_=>false
def asB:D->Option Bool
 |.bl b=>some b|_=>none
def p52:D->Option (List D)
 |.tup l=>some l|_=>none
def asI:D->Option Int
 |.int i=>some i|_=>none
def m31:D->Option (List D)
 |.tup l=>some l|.lst l=>some l|_=>none
mutual
noncomputable def flt:D->List Int
 |.int i=>[i]|.tup l=>N42 l|_=>[]
noncomputable def N42:List D->List Int
 |[]=>[]|x::r=>flt x++N42 r
end
mutual
noncomputable def eqT:D->D->Bool
 |.int i,.int j=>i == j|.tup a,.tup b=>X30 a b|_,_=>false
noncomputable def X30:List D->List D->Bool
 |[],[]=>true|x::r,y::q=>eqT x y&&X30 r q|_,_=>false
end
def v01:D->Nat
 |.int _=>0|.tup (.int _::_)=>1|.tup (.tup _::_)=>2|_=>3
def j30(x y:D):Bool:=v01 y == v01 x&&(ltD x y == some (MySort.h90 (flt x) (flt y))&&(eqT x y || !(flt x == flt y)))
def n70(l:List D):Bool:=l.all λx=>decide (v01 x < 3)&&(okD x&&l.all (j30 x))
def o81(k:D):List D->List D
 |[]=>[k]|y::r=>if MySort.h90 (flt y) (flt k) then y::o81 k r else k::y::r
def u60:List D->List D
 |[]=>[]|k::r=>o81 k (u60 r)
def c30(k m:Nat):D:=.tup ((TS.D00 k 0 m).map λ(i:Nat)=>.int i)
def i00(k:Nat):List D:=(ò (2 ^ k)).map (c30 k)
def L61(k:Nat):List D:=(TS.sN k).map (c30 k)
def N52(l:List D):Option (List D):=((ò 9).find? λk=>X30 l (i00 k)).map L61
def sortedS(x:D):Option S:=(m31 x).bind λl=>if l.length < 64/\n70 l=true then some (.fr (u60 l)) else(N52 l).map S.fr
def E00:List D->Option (List Nat)
 |[]=>some []|.int i::r=>if 0<=i/\i < 8 then(E00 r).map (i.toNat::·) else none|_=>none
def bfD:Bf->List D->Option S
 |.len,[x]=>(m31 x).map λl=>.d (.int l.length)|.tuple,[x]=>(m31 x).map λl=>.d (.tup l)|.list,[x]=>(m31 x).map λl=>.fr l|.all,[.lst l]=>(l.mapM asB).map λbs=>.d (.bl (bs.all id))|.any,[.lst l]=>(l.mapM asB).map λbs=>.d (.bl (bs.any id))|.sorted,[x]=>sortedS x|.min,[.int i,.int j]=>some (.d (.int (if j < i then j else i)))|.max,[.int i,.int j]=>some (.d (.int (if j > i then j else i)))|.int,[.bl b]=>some (.d (.int (if b then 1 else 0)))|.int,[.int i]=>some (.d (.int i))|.sset,[x]=>(m31 x).bind λl=>(E00 l).map λns=>.fr (((ò 8).filter λi=>ns.contains i).map λ(n:Nat)=>.int n)|_,_=>none
def e91:D->D->Option D
 |.tup l,.int i=>atI l i|.lst l,.int i=>atI l i|_,_=>none
def cutD(l:List D)(lo hi:Option Int):List D:=(l.drop (HT.sIx l.length 0 lo)).take (HT.sIx l.length l.length hi - HT.sIx l.length 0 lo)
def slD:D->Option Int->Option Int->Option S
 |.tup l,lo,hi=>some (.d (.tup (cutD l lo hi)))|.lst l,lo,hi=>some (.fr (cutD l lo hi))|_,_,_=>none
def N62:D->Option S
 |.tup l=>some (.d (.tup l.reverse))|.lst l=>some (.fr l.reverse)|_=>none
def v21:List S->Option (Option Int)
 |[]=>some none|[.d (.int i)]=>some (some i)|_=>none
def r90:List D->List D->List D
 |x::r,y::q=>.tup [x,y]::r90 r q|_,_=>[]
def inR:Int->Bool
 |.ofNat n=>Nat.blt n 100000|.negSucc n=>Nat.blt n 99999
theorem M90:inR j=true↔-100000 < j/\j < 100000:=by
 cases j with
 |ofNat n=>show ble (n + 1) 100000=true↔_;rw[Nat.ble_eq];show _↔-100000 < (n:Int)/\(n:Int) < 100000;omega|negSucc n=>show ble (n + 1) 99999=true↔_;rw[Nat.ble_eq,Int.negSucc_eq];omega
def itD:It->List D->Option (List D)
 |.seq,[x]=>m31 x|.rng1,[.int j]=>if inR j=true then some ((ò j.toNat).map λ(i:Nat)=>D.int i) else none|.rng2,[.int i,.int j]=>if inR i=true/\inR j=true then some ((ò (j - i).toNat).map λ(k:Nat)=>D.int (i + k)) else none|.zip,[.tup a,.tup b]=>some (r90 a b)|.zip,[.lst a,.lst b]=>some (r90 a b)|_,_=>none
def lrS:Bool->List D->S
 |true,xs=>.d (.tup xs)|false,xs=>.fr xs
def lrN:Bool->Str
 |true=>"tuple"|false=>"list"
def lrD:List D->Option (List D)
 |[x]=>itD .rng1 [x]|l=>itD .rng2 l
mutual
noncomputable def f30:Pat->D->Env->Option Env
 |.v i=>λx ρ=>some (ρ.set i (some (.d x)))
 |.tup ps=>λx ρ=>match x with
  |.tup l=>bindL ps l ρ|_=>none
 |.nil=>λ_ _=>none|.cons _ _=>λ_ _=>none
noncomputable def bindL:Pat->List D->Env->Option Env
 |.nil=>λl ρ=>match l with
  |[]=>some ρ|_=>none
 |.cons p r=>λl ρ=>match l with
  |x::l=>(f30 p x ρ).bind λρ=>bindL r l ρ|_=>none
 |.v _=>λ_ _=>none|.tup _=>λ_ _=>none
end
def turns(f:D->M (Option D)):List D->M (List D)
 |[]=>M.ret []|x::r=>M.bind (f x) λo=>M.bind (turns f r) λl=>M.ret (match o with | some y=>y::l | none=>l)
def r50(fc fe:Env->M (List S))(p:Pat)(ρ0:Env)(x:D):M (Option D):=M.bind (M.of (f30 p x ρ0)) λρ'=>M.bind (fc ρ') λc=>match c with
 |[]=>M.bind (fe ρ') λy=>M.bind (M.of (pl y)) λy=>M.ret (some y)|[.d (.bl true)]=>M.bind (fe ρ') λy=>M.bind (M.of (pl y)) λy=>M.ret (some y)|[.d (.bl false)]=>M.ret none|_=>M.no
def v31(k:Nat):Option (Option S)->Z->Option (R (List S))
 |some (some .z),some p=>if k=0 then some (.ok [.d (.int p.1)] (some p)) else if k=1 then some (.ok [.d (.bl p.2)] (some p)) else none|_,_=>none
abbrev FT:=Bool->Nat->List S->M S
abbrev E10(F:FT):FT:=λ_=>F true
def S71(ρ:Env):List Nat->Option (List S)
 |[]=>some []
 |i::r=>match ρ[i]? with
  |some (some s)=>(S71 ρ r).map (s::·)|_=>none
def j62:D->Option (List Int)
 |.tup l=>w90 l|_=>none
def v41:List D->Option (List (List Int))
 |[]=>some []|x::r=>(j62 x).bind λk=>(v41 r).map (k::·)
def b22:D->Option (List (List Int))
 |.lst l=>v41 l|_=>none
def F12:Option (Option S)->Option (List (List Int))
 |some (some (.ks l))=>some l|_=>none
def ev:FT->Ex->Env->M (List S)
 |F,.nil=>λ_=>M.ret []|F,.cons a r=>λρ=>M.bind (ev F a ρ) λx=>M.bind (M.of (one x)) λs=>M.bind (ev F r ρ) λy=>M.ret (s::y)
 |F,.var i=>λρ=>match ρ[i]? with
  |some (some s)=>M.ret [plS s]|_=>M.no
 |F,.con x=>λ_=>M.ret [.d x]|F,.gint _ i=>λ_=>M.ret [.d (.int i)]|F,.tup as=>λρ=>M.bind (ev F as ρ) λl=>M.bind (M.of (plA l)) λds=>if ds.length<=most then M.ret [.d (.tup ds)] else M.no|F,.lst as=>λρ=>M.bind (ev F as ρ) λl=>M.bind (M.of (plA l)) λds=>if ds.length<=most then M.ret [.fr ds] else M.no|F,.bin o a b=>λρ=>M.bind (ev F a ρ) λx=>M.bind (M.of (pl x)) λx=>M.bind (ev F b ρ) λy=>M.bind (M.of (pl y)) λy=>M.bind (M.of (H80 o x y)) λs=>M.ret [s]|F,.cmp o a b=>λρ=>M.bind (ev F a ρ) λx=>M.bind (M.of (pl x)) λx=>M.bind (ev F b ρ) λy=>M.bind (M.of (pl y)) λy=>M.bind (M.of (t80 o x y)) λb=>M.ret [.d (.bl b)]|F,.neg a=>λρ=>M.bind (ev F a ρ) λx=>M.bind (M.of ((pl x).bind asI)) λi=>M.ret [.d (.int (-i))]|F,.not a=>λρ=>M.bind (ev F a ρ) λx=>M.bind (M.of ((pl x).bind asB)) λb=>M.ret [.d (.bl !b)]|F,.and a b=>λρ=>M.bind (ev F a ρ) λx=>M.bind (M.of ((pl x).bind asB)) λc=>if c then M.bind (ev F b ρ) λy=>M.bind (M.of ((pl y).bind asB)) λc=>M.ret [.d (.bl c)] else M.ret [.d (.bl false)]|F,.or a b=>λρ=>M.bind (ev F a ρ) λx=>M.bind (M.of ((pl x).bind asB)) λc=>if c then M.ret [.d (.bl true)] else M.bind (ev F b ρ) λy=>M.bind (M.of ((pl y).bind asB)) λc=>M.ret [.d (.bl c)]|F,.orT a b=>λρ=>M.calm (M.bind (ev F a ρ) λx=>M.bind (M.of ((pl x).bind p52)) λl=>if l.isEmpty then M.bind (ev F b ρ) λy=>M.bind (M.of ((pl y).bind p52)) λl=>M.ret [.d (.tup l)] else M.ret [.d (.tup l)])|F,.ite c a b=>λρ=>M.bind (ev F c ρ) λx=>M.bind (M.of ((pl x).bind asB)) λc=>if c then ev F a ρ else ev F b ρ
 |F,.ch o o' a b c=>λρ=>M.bind (ev F a ρ) λx=>M.bind (M.of (pl x)) λx=>M.bind (ev F b ρ) λy=>M.bind (M.of (pl y)) λy=>M.bind (M.of (t80 o x y)) λk =>
   if k then M.bind (ev F c ρ) λw=>M.bind (M.of (pl w)) λw=>M.bind (M.of (t80 o' y w)) λk=>M.ret [.d (.bl k)] else M.ret [.d (.bl false)]
 |F,.bf f as=>λρ=>M.bind (ev F as ρ) λl=>M.bind (M.of (plA l)) λds=>M.bind (M.of (bfD f ds)) λs=>M.ret [s]|F,.isi t a=>λρ=>M.bind (ev F a ρ) λx=>M.bind (M.of (pl x)) λx=>M.ret [.d (.bl (S61 t x))]|F,.idx a i=>λρ=>M.bind (ev F a ρ) λx=>M.bind (M.of (pl x)) λx=>M.bind (ev F i ρ) λy=>M.bind (M.of (pl y)) λy=>M.bind (M.of (e91 x y)) λr=>M.ret [.d r]|F,.sl a lo hi=>λρ=>M.bind (ev F a ρ) λx=>M.bind (M.of (pl x)) λx=>M.bind (ev F lo ρ) λu=>M.bind (M.of (v21 u)) λu=>M.bind (ev F hi ρ) λv=>M.bind (M.of (v21 v)) λv=>M.bind (M.of (slD x u v)) λs=>M.ret [s]|F,.rev a=>λρ=>M.bind (ev F a ρ) λx=>M.bind (M.of ((pl x).bind N62)) λs=>M.ret [s]|F,.call f as=>λρ=>M.bind (ev F as ρ) λl=>M.bind (F false f (l.map plS)) λs=>M.ret [s]|F,.comp own capt p it src cond el=>λρ=>M.bind (ev F src ρ) λl=>M.bind (M.of ((plA l).bind (itD it))) λxs=>if xs.length<=most then M.bind (M.calm (turns (r50 (ev F cond) (ev F el) p (ð own none++capt.map λi=>(ρ[i]?).getD none)) xs)) λys=>M.ret [.fr ys] else M.no|F,.zget i k=>λρ z=>v31 k ρ[i]? z|F,.lrng b as=>λρ=>M.bind (ev F as ρ) λl=>M.bind (M.of ((plA l).bind lrD)) λxs=>M.ret [lrS b xs]|F,.dkeys a=>λρ=>M.bind (ev F a ρ) λl=>M.bind (M.of ((pl l).bind b22)) λkss=>M.ret [.ks kss]|F,.memk o a i=>λρ=>M.bind (ev F a ρ) λl=>M.bind (M.of ((pl l).bind j62)) λk=>M.bind (M.of (F12 ρ[i]?)) λkss=>M.ret [.d (.bl (kss.contains k == o))]
def S70(ρ:Env):Env:=ρ.map λo=>match o with
 |some .z=>none|o=>o
def L71(c:Nat):D:=.lst [.int c]
def o60(F:FT)(ρ:Env):List (List Nat × Ex)->Z->Option (List Nat × Z)
 |[],z=>some ([],z)
 |(capt,a)::r,z=>match S71 ρ capt with
  |none=>none
  |some ss=>match ev (E10 F) a (ss.map some) z with
   |some (.er c z1)=>if c < 12 then(o60 F ρ r z1).map λp=>(c::p.1,p.2) else none|_=>none
inductive Sm where
 |nil | seq (s r:Sm)
 |set (p:Pat) (e:Ex) | ret (e:Ex) | iff (c:Ex) (t e:Sm)
 |fr (p:Pat) (it:It) (src:Ex) (b:Sm)
 |rais (c:Nat) | exp (e:Ex)
 |app (i:Nat) (e:Ex)
 |newz (i:Nat) (f:Nat) (as:Ex) | zset (i:Nat) (e:Ex)
 |four (i j:Nat) (es c:Ex) (t:Sm)
 |lams (i:Nat) (ls:List (List Nat × Ex)) (g:Option (Nat × Ex)) (e:Ex) (t r:Sm)
inductive O where
 |nx (ρ:Env) | rt (s:S)
def E20(F:FT)(all:List (List Nat × Ex))(e:Ex)(kt kr:Env->M O)(ρ:Env):M O:=λz=>match o60 F ρ all z with
 |none=>none
 |some (cs,z1)=>M.bind (ev F e ρ) (λl=>M.bind (M.of (pl l)) λd=>M.bind (M.of (t80 .ne (.lst (cs.map L71)) d)) λb=>M.bind (if b then kt ρ else M.ret (.nx ρ)) λo=>match o with
  |.nx ρ=>kr ρ
  |.rt s=>M.ret (.rt s)) z1
def v51(F:FT)(all:List (List Nat × Ex))(g:Option (Nat × Ex))(e:Ex)(kt kr:Env->M O)(ρ:Env):M O:=match g with
 |none=>E20 F all e kt kr ρ|some (j,a)=>if j < ρ.length then M.bind (ev F a ρ) λl=>M.bind (M.of ((pl l).bind asB)) λb=>if b then E20 F all e kt kr (ρ.set j (some (.d (.bl b)))) else kr (ρ.set j (some (.d (.bl b)))) else M.no
mutual
noncomputable def bare:D->Bool
 |.lst _=>false|.tup l=>s80 l|.dct=>false|_=>true
noncomputable def s80:List D->Bool
 |[]=>true|x::r=>bare x&&s80 r
end
def H00:S->Bool
 |.d x=>bare x|.fr xs=>s80 xs|_=>true
def x00(ρ:Env):Env:=ρ.map λo=>o.map plS
def S80(b:Bool):Option S->Option S
 |some (.fr xs)=>some (if b then .fr xs else .d (.lst xs))|o=>o
theorem S90(b:Bool)(ρ:Env):ρ.map (S80 b)=if b then ρ else x00 ρ:=by
 have h:∀ o:Option S,S80 b o=if b then o else o.map plS:=λo=>by
  match o with
  |some (.fr xs)=>cases b <;> rfl
  |some (.d _)=>cases b <;> rfl
  |some .z=>cases b <;> rfl
  |some (.ks _)=>cases b <;> rfl
  |none=>cases b <;> rfl
 rw[show S80 b=λo=>if b then o else o.map plS from funext h];cases b with
 |true=>exact map_id ρ|false=>rfl
def j40(s:S)(ρ:Env):Env:=ρ.map (S80 (H00 s))
def A90:Pat->S->Env->Option Env
 |p,.d x,ρ=>f30 p x ρ|.v i,s,ρ=>if i < ρ.length then some (ρ.set i (some s)) else none|_,_,_=>none
def X40(f:D->Env->M O):List D->Env->M O
 |[],ρ=>M.ret (.nx ρ)
 |x::r,ρ=>M.bind (f x ρ) λo=>match o with
  |.nx ρ=>X40 f r ρ|.rt s=>M.ret (.rt s)
def ownAt(ρ:Env)(i:Nat):Option (List D):=match ρ[i]? with
 |some (some (.fr xs))=>some xs|_=>none
def b32:D->Bool
 |.tup l=>s80 l|.lst l=>s80 l|_=>true
def T00(l:List S):Bool:=match plA l with
 |some ds=>ds.all b32|none=>false
def noS:S->Option S
 |.z=>none|.ks _=>none|s=>some s
def b42:(it:It)->(e:Ex)->Option {i:Nat // it=.seq/\e=.cons (.var i) .nil}
 |.seq,.cons (.var i) .nil=>some ⟨i,rfl,rfl⟩|_,_=>none
def o91:List S->Bool
 |[]=>false|.d (.lst _)::_=>true|_::r=>o91 r
def T10(it:It)(e:Ex)(l:List S)(ρ:Env):Env:=match b42 it e with
 |some i=>ρ.set i.1 ((ρ[i.1]?.getD none).map plS)
 |none=>match o91 l with
  |true=>x00 ρ|false=>ρ
def v61(it:It)(e:Ex)(l:List S)(ρ:Env):Env:=(T10 it e l ρ).map (S80 (T00 l))
def v71(tp:Bool)(ρ:Env)(i:Nat):List S->Option (R O)
 |[.fr [.int n,.bl b]]=>if tp then some (.ok (.nx ((S70 ρ).set i (some .z))) (some (n,b))) else none|_=>none
def v81(ρ:Env)(v:Int):Option (Option S)->Z->Option (R O)
 |some (some .z),some p=>some (.ok (.nx ρ) (some (v,p.2)))|_,_=>none
def frL:List S->Option (List (List D))
 |[]=>some []|.fr xs::r=>if xs.length<=most then(frL r).map (xs::·) else none|_=>none
def b52(F:FT)(i j:Nat)(es c:Ex)(kt:Env->M O)(ρ:Env):M O:=if i < ρ.length/\j < ρ.length/\i≠j then M.bind (ev F es (x00 ρ)) λl=>M.bind (M.of (if l.length<=most then frL l else none)) λxss=>M.bind (ev F c ((x00 ρ).set i (some (.d (.lst (xss.map D.lst)))))) λx=>M.bind (M.of ((pl x).bind asB)) λb=>if b then M.bind (kt ((x00 ρ).set i none)) (λo=>match o with
 |.rt s=>M.ret (.rt s)
 |.nx _=>M.no) else M.ret (.nx (((x00 ρ).set i none).set j none)) else M.no
def ex(F:FT)(tp:Bool):Sm->Env->M O
 |.nil=>λρ=>M.ret (.nx ρ)
 |.seq s r=>λρ=>M.bind (ex F tp s ρ) λo=>match o with
  |.nx ρ=>ex F tp r ρ|.rt s=>M.ret (.rt s)
 |.set p e=>λρ=>M.bind (ev F e ρ) λl=>M.bind (M.of (one l)) λs=>M.bind (M.of (A90 p s (j40 s ρ))) λρ=>M.ret (.nx ρ)
 |.ret e=>λρ=>match e with
  |.var i=>(match ρ[i]? with
   |some (some s)=>M.bind (M.of (noS s)) λs=>M.ret (.rt s)
   |_=>M.no)
  |e=>M.bind (ev F e ρ) λl=>M.bind (M.of ((one l).bind noS)) λs=>M.ret (.rt s)
 |.iff c t e=>λρ=>M.bind (ev F c ρ) λx=>M.bind (M.of ((pl x).bind asB)) λc=>if c then ex F tp t ρ else ex F tp e ρ|.fr p it src b=>λρ=>M.bind (ev F src ρ) λl=>M.bind (M.of ((plA l).bind (itD it))) λxs=>X40 (λx ρ=>M.bind (M.of (f30 p x ρ)) λρ=>ex F tp b ρ) xs (v61 it src l ρ)|.lams i ls g e t r=>λρ=>if i < ρ.length then v51 F ls g e (ex F tp t) (ex F tp r) (ρ.set i none) else M.no|.rais c=>λ_ z=>some (.er c z)|.exp e=>λρ=>M.bind (ev F e ρ) λl=>M.bind (M.of (one l)) λ_=>M.ret (.nx ρ)|.app i e=>λρ=>M.bind (M.of (ownAt ρ i)) λxs=>M.bind (ev F e ρ) λl=>M.bind (M.of (pl l)) λx=>if bare x=true/\xs.length < most then M.ret (.nx (ρ.set i (some (.fr (xs++[x]))))) else M.no|.newz i f as=>λρ=>M.bind (ev F (.call f as) ρ) λl=>λ_=>v71 tp ρ i l|.zset i e=>λρ=>M.bind (ev F e ρ) λl=>M.bind (M.of ((pl l).bind asI)) λv=>λz=>v81 ρ v ρ[i]? z|.four i j es c t=>λρ=>b52 F i j es c (ex F tp t) ρ
inductive Df where
 |code (ps ns:Nat) (b:Sm) | prim (f:List S->M S)
def N00:Z->Z->Z
 |none,_=>none|some _,z=>z
def start(ns:Nat)(l:List S):Env:=l.map some++ð (ns - l.length) none
def run(F:FT):Df->List S->M S
 |.code ps ns b,l=>λz=>if l.length=ps/\ps<=ns then(match ex F z.isNone b (start ns (l.map plS)) z with
  |some (.ok (.nx _) z1)=>some (.ok (.d .non) (N00 z z1))|some (.ok (.rt s) z1)=>some (.ok s (N00 z z1))|some (.er c z1)=>some (.er c (N00 z z1))
  |none=>none) else none
 |.prim f,l=>f l
def b50(T:List Df):Nat->Nat->List S->M S
 |k + 3,f,l=>match T[f]? with
  |some d=>run (λb g m=>match b with | true=>b50 T k g m | false=>b50 T (k + 2) g m) d l
  |none=>M.no
 |_,_,_=>M.no
abbrev T20(T:List Df)(k:Nat):FT:=λb g m=>match b with | true=>b50 T (k - 2) g m | false=>b50 T k g m
def Y90(T:List Df)(k f:Nat)(l:List S):b50 T (k + 3) f l=match T[f]? with
  |some d=>run (T20 T (k + 2)) d l|none=>M.no:=rfl
end Q
namespace Q
open PySem L2 PySem.Spec PyProof.Rows
def s00(K:Â)(H:Hp)(a:Ç)(xs:List V):Prop:=Rd H a (.lst xs)\/∃ (its:Array Ä) (n:Nat),K.lookup a=some { cls:=.type "list",data:=.seq its n }/\its.size<=sizeLine/\Vals xs its.toList
def s00.of{K:Â}{H:Hp}{a:Ç}{xs:List V}(h:H a=some (.lst xs)):s00 K H a xs:=.inl (.inl h)
theorem s00.sq{K:Â}{H:Hp}{a:Ç}{xs:List V}(h:s00 K H a xs):SqL K H a xs:=by
 rcases h with h | ⟨its,n,h1,h2,h3⟩
 ·exact .inl h
 ·exact .inr ⟨_,its,n,h1,rfl,rfl,rfl,h2,h3⟩
theorem s00.same{K:Â}{H H':Hp}{a:Ç}{xs:List V}(h:s00 K H a xs)(e:a20 H H'):s00 K H' a xs:=by
 rcases h with (h | ⟨o,h⟩) | h
 ·exact .inl (.inl (e _ _ h))
 ·exact .inl (.inr ⟨o,e _ _ h⟩)
 ·exact .inr h
theorem s00.mem(I:Inv X pins σ H s)(h:s00 X.K H a xs):xs.length<=sizeLine/\∃ (its:List Ä) (n:Nat),Vals xs its/\xs.length=its.length/\s.heap.get? a=some { cls:=.type "list",data:=.seq its.toArray n }:=by
 rcases h with (h | ⟨o,h⟩) | ⟨its,n,h1,h2,h3⟩
 ·exact I.A02 h
 ·obtain⟨e,z,its,n,r,e2⟩:=I.hok a _ h;exact⟨z,its,n,r,r.length,e2⟩
 ·refine⟨by rw[h3.length,Ê8];exact h2,its.toList,n,h3,h3.length,?_⟩
  have:=I.kIn a _ h1;rw[Ð8];exact this
mutual
def Hd(K:Â)(H:Hp):D->V->Prop
 |.non,v=>v=.non|.bl b,v=>v=.bl b|.int i,v=>v=.int i|.str x,v=>v=.str x|.tup ds,v=>∃ a xs,v=.ref a/\SqT K H a xs/\HdA K H ds xs|.lst ds,v=>∃ a xs,v=.ref a/\s00 K H a xs/\HdA K H ds xs|.dct,v=>∃ a kvs,v=.ref a/\H a=some (.dK kvs)
def HdA(K:Â)(H:Hp):List D->List V->Prop
 |[],xs=>xs=[]|d::ds,xs=>∃ x r,xs=x::r/\Hd K H d x/\HdA K H ds r
end
section
variable {K:Â}{H H':Hp}
mutual
theorem Hd.same(e:a20 H H'):∀ {d:D}{v:V},Hd K H d v->Hd K H' d v
 |.non,_,h=>by unfold Hd at h ⊢;exact h|.bl _,_,h=>by unfold Hd at h ⊢;exact h|.int _,_,h=>by unfold Hd at h ⊢;exact h|.str _,_,h=>by unfold Hd at h ⊢;exact h
 |.tup ds,_,h=>by
  unfold Hd at h ⊢;obtain⟨a,xs,rfl,h1,h2⟩:=h;exact⟨a,xs,rfl,e.sqT h1,HdA.same e h2⟩
 |.lst ds,_,h=>by
  unfold Hd at h ⊢;obtain⟨a,xs,rfl,h1,h2⟩:=h;exact⟨a,xs,rfl,h1.same e,HdA.same e h2⟩
 |.dct,_,h=>by
  unfold Hd at h ⊢;obtain⟨a,kvs,rfl,h1⟩:=h;exact⟨a,kvs,rfl,e _ _ h1⟩
theorem HdA.same(e:a20 H H'):∀ {ds:List D}{xs:List V},HdA K H ds xs->HdA K H' ds xs
 |[],_,h=>by unfold HdA at h ⊢;exact h
 |d::ds,_,h=>by
  unfold HdA at h ⊢;obtain⟨x,r,rfl,h1,h2⟩:=h;exact⟨x,r,rfl,Hd.same e h1,HdA.same e h2⟩
end
mutual
theorem Hd.has:∀ {d:D}{v:V},Hd K H d v->Has K H d v
 |.non,_,h=>by unfold Hd at h;unfold Has;exact h|.bl _,_,h=>by unfold Hd at h;unfold Has;exact h|.int _,_,h=>by unfold Hd at h;unfold Has;exact h|.str _,_,h=>by unfold Hd at h;unfold Has;exact h
 |.tup ds,_,h=>by
  unfold Hd at h;unfold Has;obtain⟨a,xs,rfl,h1,h2⟩:=h;exact⟨a,xs,rfl,h1,HdA.has h2⟩
 |.lst ds,_,h=>by
  unfold Hd at h;unfold Has;obtain⟨a,xs,rfl,h1,h2⟩:=h;exact⟨a,xs,rfl,h1.sq,HdA.has h2⟩
 |.dct,_,h=>by unfold Hd at h;unfold Has;exact h
theorem HdA.has:∀ {ds:List D}{xs:List V},HdA K H ds xs->H40 K H ds xs
 |[],_,h=>by unfold HdA at h;unfold H40;exact h
 |d::ds,_,h=>by
  unfold HdA at h;unfold H40;obtain⟨x,r,rfl,h1,h2⟩:=h;exact⟨x,r,rfl,Hd.has h1,HdA.has h2⟩
end
theorem HdA.nil:HdA K H [] []:=by unfold HdA;rfl
theorem HdA.cons(h:Hd K H d x)(r:HdA K H ds xs):HdA K H (d::ds) (x::xs):=by unfold HdA;exact⟨x,xs,rfl,h,r⟩
theorem HdA.c50(h:HdA K H (d::ds) xs):∃ x r,xs=x::r/\Hd K H d x/\HdA K H ds r:=by unfold HdA at h;exact h
theorem HdA.f50(h:HdA K H [] xs):xs=[]:=by unfold HdA at h;exact h
theorem HdA.length:∀ {ds:List D}{xs:List V},HdA K H ds xs->xs.length=ds.length
 |[],_,h=>by rw[h.f50];rfl
 |d::ds,_,h=>by
  obtain⟨x,r,rfl,_,h2⟩:=h.c50;simp[h2.length]
theorem HdA.get:∀ {ds:List D}{xs:List V}{i:Nat}{d:D},HdA K H ds xs->ds[i]?=some d->∃ x,xs[i]?=some x/\Hd K H d x
 |[],_,_,_,_,e=>by simp at e
 |d::ds,_,i,d',h,e=>by
  obtain⟨y,r,rfl,h1,h2⟩:=h.c50;cases i with
  |zero=>simp at e;subst e;exact⟨y,rfl,h1⟩
  |succ i =>
   obtain⟨x',e1,e2⟩:=HdA.get (i:=i) h2 (by simpa using e)
   exact⟨x',by simpa using e1,e2⟩
theorem HdA.append:∀ {ds es:List D}{xs ys:List V},HdA K H ds xs->HdA K H es ys->HdA K H (ds++es) (xs++ys)
 |[],_,_,_,h,g=>by rw[h.f50];exact g
 |d::ds,_,_,_,h,g=>by
  obtain⟨x,r,rfl,h1,h2⟩:=h.c50;exact .cons h1 (HdA.append h2 g)
theorem HdA.take:∀ {ds:List D}{xs:List V} (n:Nat),HdA K H ds xs->HdA K H (ds.take n) (xs.take n)
 |ds,xs,0,_=>by simp;exact .nil|[],_,n + 1,h=>by rw[h.f50];simp;exact .nil
 |d::ds,_,n + 1,h=>by
  obtain⟨x,r,rfl,h1,h2⟩:=h.c50;exact .cons h1 (HdA.take n h2)
theorem HdA.drop:∀ {ds:List D}{xs:List V} (n:Nat),HdA K H ds xs->HdA K H (ds.drop n) (xs.drop n)
 |ds,xs,0,h=>by simpa using h|[],_,n + 1,h=>by rw[h.f50];simp;exact .nil
 |d::ds,_,n + 1,h=>by
  obtain⟨x,r,rfl,h1,h2⟩:=h.c50;exact HdA.drop n h2
theorem HdA.reverse:∀ {ds:List D}{xs:List V},HdA K H ds xs->HdA K H ds.reverse xs.reverse
 |[],_,h=>by rw[h.f50];simp;exact .nil
 |d::ds,_,h=>by
  obtain⟨x,r,rfl,h1,h2⟩:=h.c50;rw[Ô7,Ô7];exact(HdA.reverse h2).append (.cons h1 .nil)
theorem HdA.rep(h:HdA K H ds xs):∀ n:Nat,HdA K H (ð n ds).flatten (ð n xs).flatten
 |0=>by simp;exact .nil|n + 1=>by rw[Æ9,Æ9,Ì6,Ì6];exact h.append (h.rep n)
theorem HdA.set:∀ {ds:List D}{xs:List V}{d:D}{x:V} (i:Nat),HdA K H ds xs->Hd K H d x->HdA K H (ds.set i d) (xs.set i x)
 |[],_,_,_,_,h,_=>by rw[h.f50];simp;exact .nil
 |e::ds,_,d,x,i,h,g=>by
  obtain⟨y,r,rfl,h1,h2⟩:=h.c50;cases i with
  |zero=>exact .cons g h2|succ i=>exact .cons h1 (HdA.set i h2 g)
theorem HdA.ints:∀ ns:List Int,HdA K H (ns.map D.int) (ns.map V.int)
 |[]=>.nil|n::r=>.cons (by unfold Hd;rfl) (HdA.ints r)
theorem Hd.l70(h:Hd K H (.int i) v):v=.int i:=by unfold Hd at h;exact h
theorem Hd.bl_(h:Hd K H (.bl b) v):v=.bl b:=by unfold Hd at h;exact h
theorem Hd.N82(h:Hd K H .non v):v=.non:=by unfold Hd at h;exact h
theorem Hd.N92{x:Str}{v:V}(h:Hd K H (.str x) v):v=.str x:=by unfold Hd at h;exact h
theorem Hd.B00(h:Hd K H (.tup ds) v):∃ a xs,v=.ref a/\SqT K H a xs/\HdA K H ds xs:=by unfold Hd at h;exact h
theorem Hd.X50(h:Hd K H (.lst ds) v):∃ a xs,v=.ref a/\s00 K H a xs/\HdA K H ds xs:=by unfold Hd at h;exact h
theorem Hd.int:Hd K H (.int i) (.int i):=by unfold Hd;rfl
theorem Hd.bl:Hd K H (.bl b) (.bl b):=by unfold Hd;rfl
theorem Hd.non:Hd K H .non .non:=by unfold Hd;rfl
theorem Hd.str{x:Str}:Hd K H (.str x) (.str x):=by unfold Hd;rfl
theorem Hd.tup(h:SqT K H a xs)(r:HdA K H ds xs):Hd K H (.tup ds) (.ref a):=by unfold Hd;exact⟨a,xs,rfl,h,r⟩
theorem Hd.lst(h:H a=some (.lst xs))(r:HdA K H ds xs):Hd K H (.lst ds) (.ref a):=by unfold Hd;exact⟨a,xs,rfl,s00.of h,r⟩
end
def noT(H:Hp):Hp:=λb=>match H b with
 |some (.tbl _)=>none|o=>o
theorem T30(h:noT H b=some o):H b=some o/\∀ ps,o≠.tbl ps:=by
 unfold noT at h;split at h
 ·cases h
 ·rename_i n;exact⟨h,λps e=>n ps (by rw[h,e])⟩
theorem Z00(h:H b=some o)(n:∀ ps,o≠.tbl ps):noT H b=some o:=by
 unfold noT;split
 ·rename_i ps e;rw[h] at e;cases e;exact absurd rfl (n ps)
 ·exact h
def B30(H:Hp):a20 (noT H) H:=λ_ _ h=>(T30 h).1
def f01(e:a20 H H'):a20 (noT H) (noT H'):=λb o h=>Z00 (e b o (T30 h).1) (T30 h).2
def hz(zA:Option Ç)(H:Hp):Hp:=match zA with
 |some a=>hide a (noT H)|none=>noT H
class Tb where
 tb:List (Addr × Str)
variable [TB:Tb]
def zAt(zA:Option Ç)(z:Z)(H:Hp):Prop:=match zA,z with
 |some a,some (n,b)=>H a=some (.lst [.int n,.bl b])|none,none=>True|_,_=>False
structure c90(zA:Option Addr)(z:Z)(H:Hp):Prop where
 zat:zAt zA z H
 tab:∀ p∈TB.tb,Tab H p.1 p.2
theorem a10(zA:Option Ç)(H:Hp):a20 (hz zA H) H:=by
 cases zA with
 |none=>exact B30 H|some a=>exact a20.trans (g90 a _) (B30 H)
theorem j50(e:a20 H H'):a20 (hz zA H) (hz zA H'):=by
 cases zA with
 |none=>exact f01 e|some a=>exact D10 λb o _ h=>f01 e b o h
theorem d00(h:H b=some o)(n:zA≠some b)(ht:∀ ps,o≠.tbl ps:=by exact λ_ h=>nomatch h):hz zA H b=some o:=by
 cases zA with
 |none=>exact Z00 h ht|some a=>exact L80 (Z00 h ht) λe=>n (by rw[e])
theorem m50(h:hz zA H b=some o):H b=some o/\zA≠some b:=by
 cases zA with
 |none=>exact⟨B30 H b o h,λe=>nomatch e⟩
 |some a =>
  refine⟨B30 H b o (g90 a _ b o h),λe=>?_⟩;cases e;have:hide b (noT H) b=some o:=h;unfold hide at this;rw[if_pos rfl] at this;cases this
theorem l80(h:hz zA H b=some o):∀ ps,o≠.tbl ps:=by
 cases zA with
 |none=>exact(T30 h).2|some a=>exact(T30 (g90 a _ b o h)).2
structure Ext(zA:Option Addr)(H H':Hp):Prop where
 same:a20 (hz zA H) (hz zA H')
 tbl:∀ b ps,H b=some (.tbl ps)->∃ qs,H' b=some (.tbl qs)
instance {zA:Option Ç}{H H':Hp}:CoeFun (Ext zA H H') (λ_=>∀ b o,hz zA H b=some o->hz zA H' b=some o):=⟨λx=>x.same⟩
instance {zA:Option Ç}{H H':Hp}:CoeOut (Ext zA H H') (a20 (hz zA H) (hz zA H')):=⟨λx=>x.same⟩
def Ext.refl:Ext zA H H:=⟨a20.refl _,λb ps h=>⟨ps,h⟩⟩
def Ext.trans(a:Ext zA H H1)(b:Ext zA H1 H2):Ext zA H H2:=⟨a20.trans a.same b.same,λc ps h=>let ⟨qs,h1⟩:=a.tbl c ps h;b.tbl c qs h1⟩
def Ext.of(e:a20 H H'):Ext zA H H':=⟨j50 e,λb ps h=>⟨ps,e b _ h⟩⟩
theorem Ext.at(e:Ext zA H H')(h:H a=some o)(n:zA≠some a)(ht:∀ ps,o≠.tbl ps:=by exact λ_ h=>nomatch h):H' a=some o:=(m50 (e.same a o (d00 h n ht))).1
theorem Ext.free(e:Ext zA H H')(h:H' a=none)(n:zA≠some a):H a=none:=by
 cases q:H a with
 |none=>rfl
 |some o =>
  by_cases ht:∃ ps,o=.tbl ps
  ·obtain⟨ps,rfl⟩:=ht;obtain⟨qs,q'⟩:=e.tbl a ps q;rw[q'] at h;cases h
  ·rw[e.at q n λps z=>ht ⟨ps,z⟩] at h;cases h
theorem zAt.same(h:zAt zA z H)(e:a20 H H'):zAt zA z H':=by
 cases zA with
 |none=>cases z with
  |none=>trivial|some _=>exact h.elim
 |some a=>cases z with
  |none=>exact h.elim|some p=>exact e _ _ h
def c90.same(h:c90 zA z H)(e:a20 H H'):c90 zA z H':=⟨h.zat.same e,λp hp=>(h.tab p hp).same e⟩
theorem Tab.upd{H:Hp}{P a:Ç}{q:Str}{xs:List V}{o:HO}(t:Tab H P q)(h:H a=some (.lst xs)):Tab (upd H a o) P q:=by
 obtain⟨ps,e,tr,k⟩:=t;have ne:∀ {b:Ç}{u:HO},H b=some u->(∀ l,u≠.lst l)->b≠a:=λ{b u} e1 e2 z=>by
  subst z;rw[h] at e1;cases e1;exact e2 _ rfl
 refine⟨ps,by rw[a50 (ne e λ_ z=>nomatch z)];exact e,tr,λpos c hc=>?_⟩
 obtain⟨c',e1,e2⟩:=k pos c hc;exact⟨c',e1,by rw[a50 (ne e2 λ_ z=>nomatch z)];exact e2⟩
theorem c90.b62{K:Â}{zA:Option Ç}{z:Z}{H:Hp}(h:c90 zA z H){a:Ç}{xs:List V}(t:SqT K H a xs):SqT K (hz zA H) a xs:=by
 have h:=h.zat;rcases t with (t | ⟨o,t⟩) | t
 ·refine .inl (.inl (d00 t λe=>?_));subst e;cases z with
  |none=>exact h.elim
  |some p =>
   have h':H a=some (.lst [.int p.1,.bl p.2]):=h;rw[t] at h';cases h'
 ·refine .inl (.inr ⟨o,d00 t λe=>?_⟩);subst e;cases z with
  |none=>exact h.elim
  |some p =>
   have h':H a=some (.lst [.int p.1,.bl p.2]):=h;rw[t] at h';cases h'
 ·exact .inr t
theorem c90.E30(h:c90 zA z H)(n:H a=none):zA≠some a:=λe=>by
 have h:=h.zat;subst e;cases z with
 |none=>exact h.elim
 |some p =>
  have h':H a=some (.lst [.int p.1,.bl p.2]):=h;rw[n] at h';cases h'
def RvS(K:Â)(zA:Option Ç)(H0 H:Hp):S->V->Prop
 |.d x,v=>Hd K (hz zA H) x v|.fr xs,v=>∃ a ys,v=.ref a/\H0 a=none/\zA≠some a/\H a=some (.lst ys)/\HdA K (hide a (hz zA H)) xs ys|.z,v=>∃ a,zA=some a/\v=.ref a|.ks l,v=>∃ d,v=.ref d/\l81 K (hz zA H) d l
def RvP(K:Â)(zA:Option Ç)(H:Hp):S->V->Prop
 |.d x,v=>Hd K (hz zA H) x v|.fr xs,v=>Hd K (hz zA H) (.lst xs) v|.z,v=>∃ a,zA=some a/\v=.ref a|.ks l,v=>∃ d,v=.ref d/\l81 K (hz zA H) d l
section
variable {K:Â}{zA:Option Ç}{H0 H H':Hp}
theorem RvS.pl{s:S}{v:V}(h:RvS K zA H0 H s v):RvP K zA H s v:=by
 cases s with
 |d x=>exact h|z=>exact h|ks l=>exact h
 |fr xs =>
  obtain⟨a,ys,rfl,_,h2,h3,h4⟩:=h;exact Hd.lst (d00 h3 h2) (h4.same (g90 a _))
theorem RvP.plS{s:S}{v:V}(h:RvP K zA H s v):RvP K zA H (plS s) v:=by cases s <;> exact h
theorem RvP.mono{s:S}{v:V}(h:RvP K zA H s v)(e:Ext zA H H'):RvP K zA H' s v:=by
 cases s with
 |d x=>exact Hd.same e h|z=>exact h|ks l=>obtain⟨d,q,k⟩:=h;exact⟨d,q,k.same e.same⟩
 |fr xs=>exact Hd.same e h
theorem RvS.mono{s:S}{v:V}(h:RvS K zA H0 H s v)(e:Ext zA H H'):RvS K zA H0 H' s v:=by
 cases s with
 |d x=>exact Hd.same e h|z=>exact h|ks l=>obtain⟨d,q,k⟩:=h;exact⟨d,q,k.same e.same⟩
 |fr xs =>
  obtain⟨a,ys,rfl,h1,h2,h3,h4⟩:=h;exact⟨a,ys,rfl,h1,h2,e.at h3 h2,h4.same (D10 λb o _ q=>e b o q)⟩
theorem RvS.from{H1:Hp}{s:S}{v:V}(h:RvS K zA H1 H s v)(e:Ext zA H0 H1):RvS K zA H0 H s v:=by
 cases s with
 |d x=>exact h|z=>exact h|ks l=>exact h
 |fr xs =>
  obtain⟨a,ys,rfl,h1,h2,h3⟩:=h;exact⟨a,ys,rfl,e.free h1 h2,h2,h3⟩
theorem RvP.d_{s:S}{v:V}{x:D}(h:RvP K zA H s v)(e:plD s=some x):Hd K (hz zA H) x v:=by
 cases s with
 |d y=>cases e;exact h
 |fr xs=>cases e;exact h
 |_=>cases e
end
abbrev RvA(K:Â)(zA:Option Ç)(H:Hp):List S->List V->Prop:=À5 (RvP K zA H)
def RvA.mono{K:Â}{zA:Option Ç}{H H':Hp}{l:List S}{vs:List V}(h:RvA K zA H l vs)(e:Ext zA H H'):RvA K zA H' l vs:=À5.R11 h λ_ _ q=>q.mono e
theorem RvA.plS{K:Â}{zA:Option Ç}{H:Hp}:∀ {l:List S}{vs:List V},RvA K zA H l vs->RvA K zA H (l.map plS) vs
 |_,_,.nil=>.nil|_,_,.cons r t=>.cons r.plS (RvA.plS t)
theorem RvA.ds{K:Â}{zA:Option Ç}{H:Hp}:∀ {l:List S}{vs:List V}{ds:List D},RvA K zA H l vs->plA l=some ds->HdA K (hz zA H) ds vs
 |_,_,_,.nil,e=>by cases e;exact .nil
 |.d x::r,_,_,.cons h t,e=>by
  simp only[plA,É] at e;obtain⟨l,e,rfl⟩:=e;exact .cons h (RvA.ds t e)
 |.fr x::r,_,_,.cons h t,e=>by
  simp only[plA,É] at e;obtain⟨l,e,rfl⟩:=e;exact .cons h (RvA.ds t e)
 |.z::r,_,_,.cons h t,e=>by simp[plA] at e|.ks _::r,_,_,.cons h t,e=>by simp[plA] at e
theorem f20(h:pl l=some x):∃ s,l=[s]/\plD s=some x:=by
 unfold pl at h;split at h
 ·exact⟨_,rfl,h⟩
 ·exact⟨_,rfl,h⟩
 ·cases h
theorem M.bind_some{α β:Type}{m:M α}{f:α->M β}{z:Z}{r:R β}(h:M.bind m f z=some r):(∃ a z1,m z=some (.ok a z1)/\f a z1=some r)\/(∃ c z1,m z=some (.er c z1)/\r=.er c z1):=by
 unfold M.bind at h;split at h
 ·exact .inl ⟨_,_,by assumption,h⟩
 ·cases h;exact .inr ⟨_,_,by assumption,rfl⟩
 ·cases h
theorem M.a30{α β:Type}{o:Option α}{f:α->M β}{z:Z}{r:R β}(h:M.bind (M.of o) f z=some r):∃ a,o=some a/\f a z=some r:=by
 cases o with
 |none=>cases h
 |some a=>exact⟨a,rfl,h⟩
end Q
set_option exponentiation.threshold 5000
namespace Q
open PySem L2 PySem.Spec PyProof.Rows
variable [TB:Tb]
section
variable {K:Â}{zA:Option Ç}{z:Z}{H:Hp}
def L81(hp:H p=none):a20 (hz zA H) (hide p (hz zA (upd H p o))):=λb u e=>by
 obtain⟨e1,e2⟩:=m50 e;have hb:b≠p:=λq=>by subst q;rw[hp] at e1;cases e1
 exact L80 (d00 (by rw[a50 hb];exact e1) e2 (l80 e)) hb
def k30:RvS K zA H0 H (.d (.int i)) (.int i):=Hd.int (K:=K) (H:=hz zA H)
def i10:RvS K zA H0 H (.d (.bl b)) (.bl b):=Hd.bl (K:=K) (H:=hz zA H)
def G11(h:Hd K (hz zA H) x v):RvS K zA H0 H (.d x) v:=h
def l90(st:c90 zA z H)(h:HdA K (hz zA H) xs ys)(hp:H p=none):RvS K zA H (upd H p (.lst ys)) (.fr xs) (.ref p):=
 ⟨p,ys,rfl,hp,st.E30 hp,a70,h.same (L81 hp)⟩
def tupQ(st:c90 zA z H)(h:HdA K (hz zA H) xs ys)(q:∀ v H',a20 H H'->RvS K zA H H' (.d (.tup xs)) v->Q v H'):J31 K H ys Q:=
 λp H' sm hq=>q _ _ sm (G11 (Hd.tup ((st.same sm).b62 hq) (h.same (j50 sm))))
end
def rD2(K:Â)(f:D->D->Option S):R2:=λx y H Q=>∃ zA z dx dy s,c90 zA z H/\Hd K (hz zA H) dx x/\Hd K (hz zA H) dy y/\f dx dy=some s/\∀ v H',a20 H H'->RvS K zA H H' s v->Q v H'
def rDn(K:Â)(f:List D->Option S):List V->Hp->VK->Prop:=λxs H Q=>∃ zA z ds s,c90 zA z H/\HdA K (hz zA H) ds xs/\f ds=some s/\∀ v H',a20 H H'->RvS K zA H H' s v->Q v H'
section
variable {X:Cx}
theorem bits_le(h:k.natAbs < u91):ß0 k<=4000:=by
 unfold ß0;split
 ·exact Æ5 _
 ·have hn:k.natAbs < 2 ^ 4000:=h;have:k.natAbs.log2 < 4000:=by
   rcases Nat.eq_zero_or_pos k.natAbs with h0 | hp
   ·rw[h0];decide
   ·exact(Nat.log2_lt (Ê7 hp)).mpr hn
  omega
theorem p62(hi:i.natAbs < u91)(hj:j.natAbs < u91):IntMulOk i j:=by
 have h1:=bits_le hi;have h2:=bits_le hj;unfold IntMulOk;intro h;rw[Á] at h;have h3:=h.2;unfold ÿ.Int.intTooBig at h3;simp only[decide_eq_true_eq] at h3;have:(8000:Nat) < bitsLine:=1e1
 omega
theorem v91(hj:j.natAbs < u91):ÿ.divisionGoesByPylong i j=false:=by
 refine PyProof.noPylong_of_log2 ?_;rcases Nat.eq_zero_or_pos j.natAbs with h0 | hp
 ·rw[h0];decide
 ·have:j.natAbs.log2 < 4000:=(Nat.log2_lt (Ê7 hp)).mpr hj;omega
theorem f60(h:n<=most):n<=sizeLine:=Ó h (by rw[Á1];decide)
def F22(K:Â):R2:=λx y H Q=>∃ l b xs zs,x=.ref l/\y=.ref b/\s00 K H l xs/\s00 K H b zs/\xs.length + zs.length<=sizeLine/\∀ p,H p=none->Q (.ref p) (upd H p (.lst (xs++zs)))
def F32(K:Â):R2:=λx y H Q=>∃ l k xs,x=.ref l/\y=.int k/\s00 K H l xs/\-(2 ^ 63)<=k/\k < 2 ^ 63/\xs.length * k.toNat<=sizeLine/\∀ p,H p=none->Q (.ref p) (upd H p (.lst (ð k.toNat xs).flatten))
theorem b72:OpR X (Å6 .Add) (F22 X.K):=by
 intro pins s σ H x y v u Q I rx ry h;obtain⟨l,b,xs,zs,rfl,rfl,hH,hB,hz,q⟩:=h;cases rx;cases ry;obtain⟨z,its,n,r,hl,e⟩:=hH.mem I;obtain⟨z2,its2,n2,r2,hl2,e2⟩:=hB.mem I;refine PySem.P.add_list e e2 ?_ (by rw[Ö,Ö];omega)
 have ea:its.toArray++its2.toArray=(its++its2).toArray:=by simp
 rw[ea];exact⟨.ref _,_,I.D62 (t':=s.toks) (r.append r2) (by rw[ù];omega),rfl,q _ I.fresh⟩
theorem b82:OpR X (Å6 .Mult) (F32 X.K):=by
 intro pins s σ H x y v u Q I rx ry h;obtain⟨l,k,xs,rfl,rfl,hH,h1,h2,hz,q⟩:=h;cases rx;obtain⟨t,rfl⟩:=ry;obtain⟨z,its,n,r,hl,e⟩:=hH.mem I;have hlen:its.toArray.size * k.toNat<=sizeLine:=by rw[Ö,← hl];exact hz
 have hcap:¬ its.toArray.size * k.toNat > (2 ^ 63 - 1) / 8:=by
  have:(sizeLine:Nat)<=(2 ^ 63 - 1) / 8:=1e1
  omega
 have hfit:¬ (!ÿ.List.listFitsIndex k)=true:=by
  rw[fitsIndex_both h1 h2];exact Ï
 have hlong:¬ Í9 (its.toArray.size * k.toNat)=true:=by
  rw[H51 hlen];exact Ï
 have hnew:foldl (λx1 x2=>x1++x2) #[] (ð (if its.toArray.isEmpty=true then 0 else k.toNat) its.toArray)=(ð k.toNat its).flatten.toArray:=by
  have f0:∀ m:Nat,foldl (λx1 x2=>x1++x2) #[] (ð m its.toArray)=(ð m its).flatten.toArray:=λm=>by
   have:=foldl_rep its m [];rw[Í4] at this;exact this
  rw[f0];cases its with
  |nil=>simp|cons a r'=>rw[if_neg (by simp)]
 refine wpAny_binaryOp_repeat_ref (T:="list") (U:="int") 1e1 ⟨_,e,rfl⟩ (λs'=>Ü2 s' k t) noFill_list_mul F.fills_int_mul Õ7 repeat_list F.slot_int_index.lookup
  (Ê0 Õ7 (Ü2 s k t) F.entry_int_rmul (F.args_int_rmul_2 _ _) (int___rmul___int_list k t l its.toArray n)
   ⟨e,rfl,⟨_,e,rfl⟩,Ê0 F.slot_list_mul ⟨_,e,rfl⟩ F.entry_list_mul (F.args_list_mul_2 _ _) (AutoListH.list___mul___list_int_3 l its.toArray n k t hfit hcap hlong) ⟨e,?_⟩⟩)
 rw[hnew];exact⟨.ref _,_,I.D62 (t':=s.toks) (r.rep k.toNat) (by rw[len_rep,Û1];exact hz),rfl,q _ I.fresh⟩
theorem b92:OpR X (Å6 .Add) (rD2 X.K (H80 .add)):=by
 intro pins s σ H x y v u Q I rx ry h;obtain⟨zA,z,dx,dy,w,st,hx,hy,e,q⟩:=h;cases dx with
 |int i =>
  cases dy with
  |int j =>
   cases e;cases hx.l70;cases hy.l70;exact m02 pins s σ H _ _ v u Q I rx ry ⟨i,j,rfl,rfl,q _ _ (a20.refl H) k30⟩
  |_=>cases e
 |tup a =>
  cases dy with
  |tup b =>
   obtain⟨hl,e⟩:=f00 e;cases e;obtain⟨p,xs,rfl,h1,h2⟩:=hx.B00;obtain⟨p',ys,rfl,h3,h4⟩:=hy.B00;exact Z21 pins s σ H _ _ v u Q I rx ry ⟨p,p',xs,ys,rfl,rfl,(a10 zA H).sqT h1,(a10 zA H).sqT h3,f60 (by rw[h2.length,h4.length];exact hl),tupQ st (h2.append h4) q⟩
  |_=>cases e
 |lst a =>
  cases dy with
  |lst b =>
   obtain⟨hl,e⟩:=f00 e;cases e;obtain⟨p,xs,rfl,h1,h2⟩:=hx.X50;obtain⟨p',ys,rfl,h3,h4⟩:=hy.X50;exact b72 pins s σ H _ _ v u Q I rx ry ⟨p,p',xs,ys,rfl,rfl,h1.same (a10 zA H),h3.same (a10 zA H),f60 (by rw[h2.length,h4.length];exact hl),λr hr=>q _ _ (a20.new _ hr) (l90 st (h2.append h4) hr)⟩
  |_=>cases e
 |_=>cases e
theorem c02:OpR X (Å6 .Sub) (rD2 X.K (H80 .sub)):=by
 intro pins s σ H x y v u Q I rx ry h;obtain⟨zA,z,dx,dy,w,st,hx,hy,e,q⟩:=h;cases dx with
 |int i =>
  cases dy with
  |int j =>
   cases e;cases hx.l70;cases hy.l70;exact m12 pins s σ H _ _ v u Q I rx ry ⟨i,j,rfl,rfl,q _ _ (a20.refl H) k30⟩
  |_=>cases e
 |_=>cases e
theorem c12:OpR X (Å6 .Mult) (rD2 X.K (H80 .mul)):=by
 intro pins s σ H x y v u Q I rx ry h;obtain⟨zA,z,dx,dy,w,st,hx,hy,e,q⟩:=h;cases dx with
 |int i =>
  cases dy with
  |int j =>
   obtain⟨hl,e⟩:=f00 e;cases e;cases hx.l70;cases hy.l70;obtain⟨t,rfl⟩:=rx;obtain⟨t',rfl⟩:=ry;exact mul_int ⟨.int (i * j),H,I.tok _,⟨_,rfl⟩,q _ _ (a20.refl H) k30⟩ (p62 hl.1 hl.2)
  |_=>cases e
 |tup a =>
  cases dy with
  |int j =>
   obtain⟨hl,e⟩:=f00 e;cases e;cases hy.l70;obtain⟨p,xs,rfl,h1,h2⟩:=hx.B00;exact Z31 pins s σ H _ _ v u Q I rx ry ⟨p,j,xs,rfl,rfl,(a10 zA H).sqT h1,hl.1,hl.2.2,f60 (by rw[h2.length];exact hl.2.1),tupQ st (h2.rep _) q⟩
  |_=>cases e
 |lst a =>
  cases dy with
  |int j =>
   obtain⟨hl,e⟩:=f00 e;cases e;cases hy.l70;obtain⟨p,xs,rfl,h1,h2⟩:=hx.X50;exact b82 pins s σ H _ _ v u Q I rx ry ⟨p,j,xs,rfl,rfl,h1.same (a10 zA H),∅,∅,f60 (by rw[h2.length,Û1];exact hl.2.1),λr hr=>q _ _ (a20.new _ hr) (l90 st (h2.rep _) hr)⟩
  |_=>cases e
 |_=>cases e
theorem L91:OpR X (Å6 .FloorDiv) (rD2 X.K (H80 .fdiv)):=by
 intro pins s σ H x y v u Q I rx ry h;obtain⟨zA,z,dx,dy,w,st,hx,hy,e,q⟩:=h;cases dx with
 |int i =>
  cases dy with
  |int j =>
   obtain⟨hl,e⟩:=f00 e;cases e;cases hx.l70;cases hy.l70;obtain⟨t,rfl⟩:=rx;obtain⟨t',rfl⟩:=ry;refine floordiv_int ∅ ⟨.int (i / j),H,I.tok _,⟨s.toks,?_⟩,q _ _ (a20.refl H) k30⟩ (.inl (v91 hl.2))
   rw[Int.fdiv_eq_ediv_of_nonneg _ ∅]
  |_=>cases e
 |_=>cases e
theorem c22:OpR X (Å6 .Mod) (rD2 X.K (H80 .mod)):=by
 intro pins s σ H x y v u Q I rx ry h;obtain⟨zA,z,dx,dy,w,st,hx,hy,e,q⟩:=h;cases dx with
 |int i =>
  cases dy with
  |int j =>
   obtain⟨hl,e⟩:=f00 e;cases e;cases hx.l70;cases hy.l70;exact m22 pins s σ H _ _ v u Q I rx ry ⟨i,j,rfl,rfl,hl,q _ _ (a20.refl H) k30⟩
  |_=>cases e
 |_=>cases e
theorem c32:OpR X (Å6 .Pow) (rD2 X.K (H80 .pow)):=by
 intro pins s σ H x y v u Q I rx ry h;obtain⟨zA,z,dx,dy,w,st,hx,hy,e,q⟩:=h;cases dx with
 |int i =>
  cases dy with
  |int j =>
   obtain⟨hl,e⟩:=f00 e;cases e;cases hx.l70;cases hy.l70;exact m32 pins s σ H _ _ v u Q I rx ry ⟨i,j,rfl,rfl,⟨hl.1,∅,hl.2.2⟩,q _ _ (a20.refl H) k30⟩
  |_=>cases e
 |_=>cases e
def opB:Bi->Operator
 |.add=>.Add | .sub=>.Sub | .mul=>.Mult | .fdiv=>.FloorDiv | .mod=>.Mod | .pow=>.Pow
theorem opD(o:Bi):OpR X (Å6 (opB o)) (rD2 X.K (H80 o)):=by
 cases o
 ·exact b92
 ·exact c02
 ·exact c12
 ·exact L91
 ·exact c22
 ·exact c32
mutual
noncomputable def toP:D->PyData
 |.non=>.none|.bl b=>.bool b|.int i=>.int i|.str x=>.str x|.tup l=>.tuple (Q30 l)|.lst l=>.list (Q30 l)|.dct=>.none
noncomputable def Q30:List D->List PyData
 |[]=>[]|x::r=>toP x::Q30 r
end
end
end Q
namespace Q
open PySem L2 PySem.Spec PyProof.Rows
variable [TB:Tb]
mutual
theorem T40:∀ a b:D,n60 a=true->n60 b=true->Ý0 (toP a) (toP b)=eqD a b
 |.non,b,_,h=>by cases b <;> first | rfl | (simp[n60] at h)
 |.bl _,b,_,h=>by cases b <;> first | rfl | (simp[n60] at h)
 |.int _,b,_,h=>by cases b <;> first | rfl | (simp[n60] at h)
 |.str _,b,_,h=>by cases b <;> first | rfl | (simp[n60] at h)
 |.tup l,b,ha,h=>by
  cases b with
  |tup q =>
   exact Z10 l q (by simpa [n60] using ha) (by simpa [n60] using h)
  |dct=>simp[n60] at h|_=>rfl
 |.lst l,b,ha,h=>by
  cases b with
  |lst q =>
   exact Z10 l q (by simpa [n60] using ha) (by simpa [n60] using h)
  |dct=>simp[n60] at h|_=>rfl
 |.dct,_,h,_=>by simp[n60] at h
theorem Z10:∀ a b:List D,e10 a=true->e10 b=true->PyData.eqvAll (Q30 a) (Q30 b)=o61 a b
 |[],[],_,_=>rfl|[],_::_,_,_=>rfl|_::_,[],_,_=>rfl
 |x::r,y::q,ha,hb=>by
  simp only[e10,Á] at ha hb;simp only[Q30,PyData.eqvAll,o61];rw[T40 x y ha.1 hb.1,Z10 r q ha.2 hb.2]
end
mutual
theorem z00:∀ a:D,n60 a=true->(toP a).canLay0=true
 |.non,_=>rfl|.bl _,_=>rfl|.int _,_=>rfl|.str _,h=>h|.tup l,h=>s90 l h|.lst l,h=>s90 l h|.dct,h=>by cases h
theorem s90:∀ a:List D,e10 a=true->PyData.canLayAll0 (Q30 a)=true
 |[],_=>rfl
 |x::r,h=>by
  simp only[e10,Á] at h;simp only[Q30,PyData.canLayAll0,z00 x h.1,s90 r h.2,Bool.and_self]
end
mutual
theorem N10:∀ a:D,(toP a).depth=deep a
 |.non=>rfl|.bl _=>rfl|.int _=>rfl|.str _=>rfl|.tup l=>congrArg (· + 1) (N20 l)|.lst l=>congrArg (· + 1) (N20 l)|.dct=>rfl
theorem N20:∀ a:List D,Ó8 (Q30 a)=e70 a
 |[]=>rfl
 |x::r=>by
  simp only[Q30,Ó8,e70];rw[N10 x,N20 r]
end
def m41(h:ê)(u:Ä)(d:D):Prop:=n60 d=true/\∃ as,Reads h u (toP d) as
def e80(h:ê)(us:List Ä)(ds:List D):Prop:=e10 ds=true/\∃ as,ReadsAll h us (Q30 ds) as
section
variable {X:Cx}{pins:List (Ç × Obj)}{σ:L2.St}{H:Hp}{s:Æ}
mutual
theorem j60(I:Inv X pins σ H s):∀ {d:D}{v:V}{u:Ä},Hd X.K H d v->RelV v u->n60 d=true->∃ as,Reads s.heap u (toP d) as
 |.non,_,_,h,r,_=>by cases h.N82;cases r;exact⟨_,.none⟩
 |.bl b,_,_,h,r,_=>by cases h.bl_;cases r;exact⟨_,.bool b⟩
 |.int i,_,_,h,r,_=>by cases h.l70;obtain⟨t,rfl⟩:=r;exact⟨_,.int i t⟩
 |.str x,_,_,h,r,_=>by cases h.N92;obtain⟨t,rfl⟩:=r;exact⟨_,.str x t⟩
 |.tup l,_,_,h,r,f=>by
  obtain⟨a,xs,rfl,h1,h2⟩:=h.B00;cases r;obtain⟨its,rv,⟨o,e1,e2,n,e3⟩,_⟩:=I.tuple h1;obtain⟨as,ra⟩:=E40 I h2 rv f;exact⟨_,.tuple e1 e2 e3 (by simpa using ra)⟩
 |.lst l,_,_,h,r,f=>by
  obtain⟨a,xs,rfl,h1,h2⟩:=h.X50;cases r;obtain⟨its,rv,⟨o,n,e1,e2,_,e3⟩,_⟩:=I.list h1.sq;obtain⟨as,ra⟩:=E40 I h2 rv f;exact⟨_,.list e1 e2 e3 (by simpa using ra)⟩
 |.dct,_,_,_,_,f=>by cases f
theorem E40(I:Inv X pins σ H s):∀ {ds:List D}{vs:List V}{us:List Ä},HdA X.K H ds vs->Vals vs us->e10 ds=true->∃ as,ReadsAll s.heap us (Q30 ds) as
 |[],_,_,h,r,_=>by cases h.f50;cases r;exact⟨_,.nil⟩
 |d::ds,_,_,h,r,f=>by
  obtain⟨x,xs,rfl,h1,h2⟩:=h.c50;cases r with
  |cons r1 r2 =>
   simp only[e10,Á] at f;obtain⟨_,a1⟩:=j60 I h1 r1 f.1;obtain⟨_,a2⟩:=E40 I h2 r2 f.2;exact⟨_,.cons a1 a2⟩
end
end
theorem o70(h:okD d=true):n60 d=true/\SeqAt.shaped (toP d)=true:=by
 unfold okD at h;rw[Á,decide_eq_true_eq] at h;refine⟨h.1,?_⟩;unfold SeqAt.shaped;rw[z00 d h.1,N10,Ä2,decide_eq_true_eq];omega
section
variable {X:Cx}
theorem p72(h:eqE a b=some c):∃ l,a=.tup l/\b=.tup []/\c=l.isEmpty:=by
 unfold eqE at h;split at h
 ·cases h;exact⟨_,rfl,rfl,rfl⟩
 ·cases h
theorem p82(hu:X.A.units + 64 < Ä5):OpR X (À4 .Eq) (rD2 X.K λa b=>(eqQ a b).map λc=>.d (.bl c)):=by
 intro pins s σ H x y v u Q I rx ry h;obtain⟨zA,z,dx,dy,w,st,hx,hy,e,q⟩:=h;unfold eqQ at e;dsimp only at e;split at e
 ·rename_i ok;cases e;rw[Á] at ok;obtain⟨f1,s1⟩:=o70 ok.1;obtain⟨f2,s2⟩:=o70 ok.2;obtain⟨as,r1⟩:=j60 I (hx.same (a10 zA H)) rx f1;obtain⟨bs,r2⟩:=j60 I (hy.same (a10 zA H)) ry f2;exact eq_dataH r1 r2 s1 s2 hu ⟨.bl _,H,I,rfl,by rw[T40 dx dy f1 f2];exact q _ _ (a20.refl H) i10⟩
 ·obtain⟨c,h1,h2⟩:=É.mp e;obtain⟨l,rfl,rfl,rfl⟩:=p72 h1;subst h2;obtain⟨a,xs,rfl,k1,k2⟩:=hx.B00;obtain⟨b,ys,rfl,k3,k4⟩:=hy.B00;cases k4.f50;cases rx;cases ry;obtain⟨its,rv,ht,_⟩:=I.tuple ((a10 zA H).sqT k1);obtain⟨iu,ru,hu2,_⟩:=I.tuple ((a10 zA H).sqT k3);cases ru;have e1:its.length=l.length:=by rw[← rv.length,k2.length]
  refine SeqAt.eq_tupleAt (e:=λ_=>true) ht hu2 ∅ (λj _ h2=>absurd h2 (Ò2 j)) ⟨.bl _,H,I,rfl,?_⟩
  have e2:((ò (min its.toArray.size ([]:List Ä).toArray.size)).all (λ_=>true)&&its.toArray.size == ([]:List Ä).toArray.size)=l.isEmpty:=by
   simp only[Ö,Ã1,Nat.min_zero,List.range_zero,all_nil,Ä2,e1];cases l <;> rfl
  rw[e2];exact q _ _ (a20.refl H) i10
theorem p92(hu:X.A.units + 64 < Ä5):OpR X (À4 .NotEq) (rD2 X.K λa b=>(eqO a b).map λc=>.d (.bl !c)):=by
 intro pins s σ H x y v u Q I rx ry h;obtain⟨zA,z,dx,dy,w,st,hx,hy,e,q⟩:=h;unfold eqO at e;dsimp only at e;split at e
 ·rename_i ok;cases e;rw[Á] at ok;obtain⟨f1,s1⟩:=o70 ok.1;obtain⟨f2,s2⟩:=o70 ok.2;obtain⟨as,r1⟩:=j60 I (hx.same (a10 zA H)) rx f1;obtain⟨bs,r2⟩:=j60 I (hy.same (a10 zA H)) ry f2;exact ne_dataH r1 r2 s1 s2 hu ⟨.bl _,H,I,rfl,by rw[T40 dx dy f1 f2];exact q _ _ (a20.refl H) i10⟩
 ·cases e
theorem c42(hu:X.A.units + 64 < Ä5):OpR X (À4 .NotEq) (rD2 X.K λa b=>(neO a b).map λc=>.d (.bl c)):=by
 intro pins s σ H x y v u Q I rx ry h;obtain⟨zA,z,dx,dy,w,st,hx,hy,e,q⟩:=h;unfold neO at e;dsimp only at e;split at e
 ·cases e;unfold Hd at hx;obtain⟨a,kvs,rfl,h1⟩:=hx;obtain⟨b,xs,rfl,h2,_⟩:=hy.B00;exact Z81 hu pins s σ H _ _ v u Q I rx ry ⟨a,b,kvs,xs,rfl,rfl,(m50 h1).1,(a10 zA H).sqT h2,q _ _ (a20.refl H) i10⟩
 ·refine p92 hu pins s σ H _ _ v u Q I rx ry ⟨zA,z,dx,dy,w,st,hx,hy,?_,q⟩;rw[← e,Option.map_map];rfl
end
theorem N30(h:G90 l=true):e10 l=true/\e70 l<=39:=by
 unfold G90 at h;rw[Á,decide_eq_true_eq] at h;exact h
theorem N40(h:okD d=true):deep d<=40:=by
 unfold okD at h;rw[Á,decide_eq_true_eq] at h;exact h.2
theorem E50(x:D)(fx:n60 x=true):∀ l:List D,e10 l=true->((Q30 l).any λy=>Ý0 y (toP x))=memD x l
 |[],_=>rfl
 |y::r,h=>by
  simp only[e10,Á] at h;show(Ý0 (toP y) (toP x) || (Q30 r).any λy=>Ý0 y (toP x))=(eqD y x || memD x r);rw[T40 y x h.1 fx,E50 x fx r h.2]
section
variable {X:Cx}
theorem N50(h:o71 x l=some b):okD x=true/\G90 l=true/\b=memD x l:=by
 unfold o71 at h;split at h
 ·rename_i ok;rw[Á] at ok;cases h;exact⟨ok.1,ok.2,rfl⟩
 ·cases h
theorem room_in{A:ó}(hu:A.units + 64 < Ä5){l:List D}{x:D}(h:okD x=true):A.units + 1 + min (Ó8 (Q30 l)) (toP x).depth < cLine:=by
 have h1:=N40 h;have h2:min (Ó8 (Q30 l)) (toP x).depth<=(toP x).depth:=Nat.min_le_right _ _;have h3:=N10 x;omega
theorem c52(hu:X.A.units + 64 < Ä5):OpR X (À4 .In) (rD2 X.K λa b=>(t80 .mem a b).map λc=>.d (.bl c)):=by
 intro pins s σ H x y v u Q I rx ry h;obtain⟨zA,z,dx,dy,w,st,hx,hy,e,q⟩:=h;cases dy with
 |tup l =>
  obtain⟨b,e1,e2⟩:=É.mp e;subst e2;obtain⟨o1,o2,rfl⟩:=N50 e1;obtain⟨f2,_⟩:=N30 o2;obtain⟨f1,_⟩:=o70 o1;obtain⟨as,r1⟩:=j60 I (hx.same (a10 zA H)) rx f1;obtain⟨bs,r2⟩:=j60 I (hy.same (a10 zA H)) ry (by simpa [n60] using f2)
  exact SeqAt.in_tuple_reads r2 r1 (s90 l f2) (z00 dx f1) (room_in hu o1) ⟨.bl _,H,I,rfl,by rw[E50 dx f1 l f2];exact q _ _ (a20.refl H) i10⟩
 |lst l =>
  obtain⟨b,e1,e2⟩:=É.mp e;subst e2;obtain⟨o1,o2,rfl⟩:=N50 e1;obtain⟨f2,_⟩:=N30 o2;obtain⟨f1,_⟩:=o70 o1;obtain⟨as,r1⟩:=j60 I (hx.same (a10 zA H)) rx f1;obtain⟨bs,r2⟩:=j60 I (hy.same (a10 zA H)) ry (by simpa [n60] using f2)
  exact SeqAt.in_list_reads r2 r1 (s90 l f2) (z00 dx f1) (room_in hu o1) ⟨.bl _,H,I,rfl,by rw[E50 dx f1 l f2];exact q _ _ (a20.refl H) i10⟩
 |_=>cases e
theorem M01(hu:X.A.units + 64 < Ä5):OpR X (À4 .NotIn) (rD2 X.K λa b=>(t80 .nmem a b).map λc=>.d (.bl c)):=by
 intro pins s σ H x y v u Q I rx ry h;obtain⟨zA,z,dx,dy,w,st,hx,hy,e,q⟩:=h;cases dy with
 |tup l =>
  obtain⟨b,e1,e2⟩:=É.mp e;subst e2;obtain⟨b',e3,rfl⟩:=É.mp e1;obtain⟨o1,o2,rfl⟩:=N50 e3;obtain⟨f2,_⟩:=N30 o2;obtain⟨f1,_⟩:=o70 o1;obtain⟨as,r1⟩:=j60 I (hx.same (a10 zA H)) rx f1;obtain⟨bs,r2⟩:=j60 I (hy.same (a10 zA H)) ry (by simpa [n60] using f2)
  exact SeqAt.notIn_tuple_reads r2 r1 (s90 l f2) (z00 dx f1) (room_in hu o1) ⟨.bl _,H,I,rfl,by rw[E50 dx f1 l f2];exact q _ _ (a20.refl H) i10⟩
 |lst l =>
  obtain⟨b,e1,e2⟩:=É.mp e;subst e2;obtain⟨b',e3,rfl⟩:=É.mp e1;obtain⟨o1,o2,rfl⟩:=N50 e3;obtain⟨f2,_⟩:=N30 o2;obtain⟨f1,_⟩:=o70 o1;obtain⟨as,r1⟩:=j60 I (hx.same (a10 zA H)) rx f1;obtain⟨bs,r2⟩:=j60 I (hy.same (a10 zA H)) ry (by simpa [n60] using f2)
  exact SeqAt.notIn_list_reads r2 r1 (s90 l f2) (z00 dx f1) (room_in hu o1) ⟨.bl _,H,I,rfl,by rw[E50 dx f1 l f2];exact q _ _ (a20.refl H) i10⟩
 |_=>cases e
end
end Q
namespace Q
open PySem L2 PySem.Spec PyProof.Rows
variable [TB:Tb]
def F42(A:ó)(s:Æ)(v u:Ä)(b:Bool):Prop:=∀ (P:à) (w:í) (E:Ä->Æ->Prop) (Q:Ä->Æ->Prop),Q (.bool b) s->Ñ (Ø P w) A (richCompare .Lt v u) Q E s
section
open PySem.SeqAt
open PySem.AutoSeq1 (wpAny_loadPart')
open PySem.MeetsSeq PySem.MeetsSeq2 PySem.MeetsSeq3
inductive Lx (A:Around) (s:Shared):List Value->List Value->Bool->Prop
 |nn:Lx A s [] [] false
 |nc {u us}:Lx A s [] (u::us) true
 |cn {v vs}:Lx A s (v::vs) [] false
 |eq {v u vs us b}:EqAt A s v u true->Lx A s vs us b->Lx A s (v::vs) (u::us) b
 |ne {v u vs us b}:EqAt A s v u false->F42 A s v u b->Lx A s (v::vs) (u::us) b
theorem E60(l b:Ç)(items items2:Array Ä)(n n2:Nat)(dd dd2:Option Ç)(sl sl2:Array (Option Ä))(c:Bool) :
 Meets (ÿ.«tuple.__lt__» ⟨[.ref l,.ref b],[]⟩)
   (λA R s=>s.heap.get? l=some { cls:=.type "tuple",dict:=dd,data:=.seq items n,slots:=sl }/\s.heap.get? b=some { cls:=.type "tuple",dict:=dd2,data:=.seq items2 n2,slots:=sl2 } /\
    Lx A.in1 s items.toList items2.toList c/\R (.ok (.ret (.bool c))) s):=
 .of_wp λprog w A R s h=>by
  obtain⟨hp,g,d,tk,os⟩:=s;obtain⟨hl,hb,hx,h⟩:=h;have f2:=Ý2
  wp_walk using Ä8 hl,Ä8 hb,wpAny_forIn_list _ (λrest b s'=>b.1=none/\s'=⟨hp,g,d,tk,os⟩/\∃ (vs ws:List Ä),rest=vs.zip ws /\
   vs.length + items2.size=ws.length + items.size/\Lx A.in1 ⟨hp,g,d,tk,os⟩ vs ws c) _
  case turn =>
   rintro ⟨y,x⟩ rest b s' ⟨hb',rfl,vs,ws,hz,hlen,hR⟩;cases hR with
   |nn=>rw[Ú5] at hz;cases hz
   |nc=>rw[Ú5] at hz;cases hz
   |cn=>rw[List.zip_nil_right] at hz;cases hz
   |eq he hr =>
    rw[Ê6] at hz;injection hz with hyx hrest;injection hyx with hy hx';subst hy hx';simp only[ã] at hlen;refine À (he prog w _ _ ?_)
    wp_walk
    exact⟨rfl,rfl,_,_,hrest,∅,hr⟩
   |ne he hr =>
    rw[Ê6] at hz;injection hz with hyx hrest;injection hyx with hy hx';subst hy hx';refine À (he prog w _ _ ?_);have hri:=λE Q q=>hr prog w E Q q
    wp_walk using hri
    exact⟨_,rfl,by simpa using h⟩
  case fin =>
   rintro ⟨b1,b2⟩ s' ⟨hb',rfl,vs,ws,hz,hlen,hR⟩;simp only at hb';subst hb';have hv:c=decide (items.size < items2.size):=by
    cases hR with
    |nn=>simp only[Ã1] at hlen;exact(decide_eq_false ∅).symm|nc=>simp only[Ã1,ã] at hlen;exact(decide_eq_true ∅).symm|cn=>simp only[Ã1,ã] at hlen;exact(decide_eq_false ∅).symm|eq he hr=>rw[Ê6] at hz;cases hz
    |ne he hr=>rw[Ê6] at hz;cases hz
   rw[hv] at h
   wp_walk
   exact⟨_,rfl,by simpa [tupleCompareSizes] using h⟩
  case h =>
   exact⟨rfl,rfl,items.toList,items2.toList,rfl,by simp;omega,hx⟩
end
theorem w01(hl:Ï4 s.heap l i1)(hb:Ï4 s.heap b i2)(hu:A.units < Ä5)(hx:Lx A.in1 s i1.toList i2.toList c):F42 A s (.ref l) (.ref b) c:=by
 intro P w E Q h;obtain⟨⟨cls,dd,data,sl⟩,ho,hc,n,hd⟩:=id hl;obtain⟨⟨cls2,dd2,data2,sl2⟩,ho2,hc2,n2,hd2⟩:=id hb;simp only at hc hd hc2 hd2;subst hc hd hc2 hd2;exact richCompare_meets_room (op:=.Lt) ⟨_,ho,rfl⟩ ⟨_,ho2,rfl⟩ Ó7 ß6 (Þ6 _ _) (E60 l b i1 i2 n n2 dd dd2 sl sl2 c)
  ⟨ho,ho2,hx,show È9 c≠Õ2/\Q (.bool c) s from⟨(λx=>nomatch x),h⟩⟩ hu
theorem q02(ha:m41 s.heap v a)(hb:m41 s.heap u b)(hu:A.units + deep a < Ä5):Ø2 A s v u (eqD a b):=by
 obtain⟨f1,as,r1⟩:=ha;obtain⟨f2,bs,r2⟩:=hb;rw[← T40 a b f1 f2];have h:=N10 a;have h2:min (toP a).depth (toP b).depth<=(toP a).depth:=Nat.min_le_left _ _;exact SeqAt.eqAt_reads (toP a) (toP b) A s v u as bs r1 r2 (z00 a f1) (z00 b f2) ∅
theorem e80.c50(x:e80 h us (d::ds)):∃ u r,us=u::r/\m41 h u d/\e80 h r ds:=by
 obtain⟨f,as,r⟩:=x;simp only[e10,Á] at f;cases r with
 |cons r1 r2=>exact⟨_,_,rfl,⟨f.1,_,r1⟩,f.2,_,r2⟩
theorem e80.f50(x:e80 h us []):us=[]:=by
 obtain⟨_,as,r⟩:=x;cases r;rfl
def in1_units(A:ó):A.in1.units=A.units + 1:=rfl
theorem c62:∀ (n:Nat) {A:ó}{s:Æ},
 (∀ (a b:D) (v u:Ä) (c:Bool),deep a<=n->m41 s.heap v a->m41 s.heap u b->ltD a b=some c->A.units + n < Ä5->F42 A s v u c) /\
 (∀ (a b:List D) (vs us:List Ä) (c:Bool),e70 a < n->e80 s.heap vs a->e80 s.heap us b->L51 a b=some c->A.units + n < Ä5->Lx A.in1 s vs us c):=by
 intro n
 induction n with
 |zero =>
  intro A s;refine⟨λa b v u c hd ha hb e hu=>?_,λa b vs us c hd=>absurd hd (Ò2 _)⟩;cases a with
  |int i =>
   cases b with
   |int j =>
    cases e;obtain⟨_,_,r1⟩:=ha;obtain⟨_,_,r2⟩:=hb;cases r1;cases r2;exact λP w E Q h=>HT.d71 A s i _ j _ P w E Q h
   |_=>cases e
  |tup l=>simp[deep] at hd|_=>cases e
 |succ n ih =>
  have rows:∀ {A:ó}{s:Æ} (a b:List D) (vs us:List Ä) (c:Bool),e70 a < n + 1->e80 s.heap vs a->e80 s.heap us b->L51 a b=some c->A.units + (n + 1) < Ä5->Lx A.in1 s vs us c:=by
   intro A s a
   induction a with
   |nil =>
    intro b vs us c _ ha hb e hu;cases ha.f50;cases b with
    |nil=>cases hb.f50;cases e;exact .nn
    |cons y q=>obtain⟨u,r,rfl,_⟩:=hb.c50;cases e;exact .nc
   |cons x r ihr =>
    intro b vs us c hd ha hb e hu;obtain⟨v,vs',rfl,a1,a2⟩:=ha.c50;cases b with
    |nil=>cases hb.f50;cases e;exact .cn
    |cons y q =>
     obtain⟨u,us',rfl,b1,b2⟩:=hb.c50;simp only[e70] at hd;have d1:deep x<=n:=Nat.le_of_lt_succ (Å8 (Nat.le_max_left _ _) hd);have d2:e70 r < n + 1:=Å8 (Nat.le_max_right _ _) hd;have hu1:A.in1.units + n < cLine:=by rw[in1_units];omega
     have he:=q02 (A:=A.in1) a1 b1 ∅
     simp only[L51] at e;cases hq:eqD x y with
     |true =>
      rw[hq] at he e;exact .eq he (ihr q vs' us' c d2 a2 b2 (by simpa using e) hu)
     |false =>
      rw[hq] at he e;exact .ne he ((ih (A:=A.in1) (s:=s)).1 x y v u c d1 a1 b1 (by simpa using e) hu1)
  intro A s;refine⟨λa b v u c hd ha hb e hu=>?_,rows⟩;cases a with
  |int i =>
   cases b with
   |int j =>
    cases e;obtain⟨_,_,r1⟩:=ha;obtain⟨_,_,r2⟩:=hb;cases r1;cases r2;exact λP w E Q h=>HT.d71 A s i _ j _ P w E Q h
   |_=>cases e
  |tup l =>
   cases b with
   |tup q =>
    obtain⟨f1,as,r1⟩:=ha;obtain⟨f2,bs,r2⟩:=hb;simp only[deep] at hd;cases r1 with
    |tuple k1 k2 k3 k4 =>
     cases r2 with
     |tuple m1 m2 m3 m4 =>
      exact w01 ⟨_,k1,k2,_,k3⟩ ⟨_,m1,m2,_,m3⟩ ∅ (rows l q _ _ c ∅ ⟨by simpa [n60] using f1,_,k4⟩ ⟨by simpa [n60] using f2,_,m4⟩ e hu)
   |_=>cases e
  |_=>cases e
section
variable {X:Cx}
theorem q12(h:ltO a b=some c):okD a=true/\okD b=true/\ltD a b=some c:=by
 unfold ltO at h;split at h
 ·rename_i ok;rw[Á] at ok;exact⟨ok.1,ok.2,h⟩
 ·cases h
theorem q22(hu:X.A.units + 64 < Ä5):OpR X (À4 .Lt) (rD2 X.K λa b=>(t80 .lt a b).map λc=>.d (.bl c)):=by
 intro pins s σ H x y v u Q I rx ry h;obtain⟨zA,z,dx,dy,w,st,hx,hy,e,q⟩:=h;obtain⟨b,e1,e2⟩:=É.mp e;subst e2;obtain⟨o1,o2,e3⟩:=q12 (show ltO dx dy=some b from e1);obtain⟨f1,_⟩:=o70 o1;obtain⟨f2,_⟩:=o70 o2;obtain⟨as,r1⟩:=j60 I (hx.same (a10 zA H)) rx f1;obtain⟨bs,r2⟩:=j60 I (hy.same (a10 zA H)) ry f2;exact(c62 40 (A:=X.A) (s:=s)).1 dx dy v u b (N40 o1) ⟨f1,as,r1⟩ ⟨f2,bs,r2⟩ e3 ∅ _ _ _ _ ⟨.bl b,H,I,rfl,q _ _ (a20.refl H) i10⟩
theorem o80{K:Â}{H:Hp}:∀ {l:List D}{ns:List Int}{vs:List V},w90 l=some ns->HdA K H l vs->vs=ns.map V.int/\l=ns.map D.int
 |[],_,_,e,h=>by cases e;rw[h.f50];exact⟨rfl,rfl⟩
 |.int i::r,_,_,e,h=>by
  obtain⟨ms,e1,rfl⟩:=É.mp e;obtain⟨x,xs,rfl,h1,h2⟩:=h.c50;cases h1.l70;obtain⟨rfl,rfl⟩:=o80 e1 h2;exact⟨rfl,rfl⟩
 |.non::_,_,_,e,_=>by cases e
 |.bl _::_,_,_,e,_=>by cases e
 |.str _::_,_,_,e,_=>by cases e
 |.tup _::_,_,_,e,_=>by cases e
 |.lst _::_,_,_,e,_=>by cases e
 |.dct::_,_,_,e,_=>by cases e
theorem q32(hu:X.A.units + 64 < Ä5):OpR X (À4 .LtE) (rD2 X.K λa b=>(t80 .le a b).map λc=>.d (.bl c)):=by
 intro pins s σ H x y v u Q I rx ry h;obtain⟨zA,z,dx,dy,w,st,hx,hy,e,q⟩:=h;cases dx with
 |int i =>
  cases dy with
  |int j =>
   cases e;cases hx.l70;cases hy.l70;exact C62 pins s σ H _ _ v u Q I rx ry ⟨i,j,rfl,rfl,q _ _ (a20.refl H) i10⟩
  |_=>cases e
 |tup a =>
  cases dy with
  |tup b =>
   obtain⟨c,e1,e2⟩:=É.mp e;subst e2;obtain⟨ns,n1,e1⟩:=Í.mp (show(w90 a).bind _=_ from e1);obtain⟨ms,n2,rfl⟩:=É.mp e1;obtain⟨p,xs,rfl,h1,h2⟩:=hx.B00;obtain⟨p',ys,rfl,h3,h4⟩:=hy.B00;obtain⟨rfl,_⟩:=o80 n1 h2;obtain⟨rfl,_⟩:=o80 n2 h4;exact n82 ∅ pins s σ H _ _ v u Q I rx ry ⟨p,p',ns,ms,rfl,rfl,(a10 zA H).sqT h1,(a10 zA H).sqT h3,q _ _ (a20.refl H) i10⟩
  |_=>cases e
 |_=>cases e
theorem q42:OpR X (À4 .Gt) (rD2 X.K λa b=>(t80 .gt a b).map λc=>.d (.bl c)):=by
 intro pins s σ H x y v u Q I rx ry h;obtain⟨zA,z,dx,dy,w,st,hx,hy,e,q⟩:=h;cases dx with
 |int i =>
  cases dy with
  |int j =>
   cases e;cases hx.l70;cases hy.l70;exact C72 pins s σ H _ _ v u Q I rx ry ⟨i,j,rfl,rfl,q _ _ (a20.refl H) i10⟩
  |_=>cases e
 |_=>cases e
theorem q52:OpR X (À4 .GtE) (rD2 X.K λa b=>(t80 .ge a b).map λc=>.d (.bl c)):=by
 intro pins s σ H x y v u Q I rx ry h;obtain⟨zA,z,dx,dy,w,st,hx,hy,e,q⟩:=h;cases dx with
 |int i =>
  cases dy with
  |int j =>
   cases e;cases hx.l70;cases hy.l70;exact C82 pins s σ H _ _ v u Q I rx ry ⟨i,j,rfl,rfl,q _ _ (a20.refl H) i10⟩
  |_=>cases e
 |_=>cases e
def opC:Cm->CmpOp
 |.eq=>.Eq | .ne=>.NotEq | .lt=>.Lt | .le=>.LtE | .gt=>.Gt | .ge=>.GtE | .mem=>.In | .nmem=>.NotIn
theorem S81(hu:X.A.units + 64 < Ä5)(o:Cm):OpR X (À4 (opC o)) (rD2 X.K λa b=>(t80 o a b).map λc=>.d (.bl c)):=by
 cases o
 ·exact p82 hu
 ·exact c42 hu
 ·exact q22 hu
 ·exact q32 hu
 ·exact q42
 ·exact q52
 ·exact c52 hu
 ·exact M01 hu
theorem HdA.one{K:Â}{H:Hp}{d:D}{xs:List V}(h:HdA K H [d] xs):∃ x,xs=[x]/\Hd K H d x:=by
 obtain⟨x,r,rfl,h1,h2⟩:=h.c50;rw[h2.f50];exact⟨x,rfl,h1⟩
theorem HdA.two{K:Â}{H:Hp}{d e:D}{xs:List V}(h:HdA K H [d,e] xs):∃ x y,xs=[x,y]/\Hd K H d x/\Hd K H e y:=by
 obtain⟨x,r,rfl,h1,h2⟩:=h.c50;obtain⟨y,rfl,h3⟩:=h2.one;exact⟨x,y,rfl,h1,h3⟩
theorem w11{K:Â}{zA:Option Ç}{H:Hp}{d:D}{l:List D}{v:V}(h:Hd K (hz zA H) d v)(e:m31 d=some l):∃ a xs,v=.ref a/\(SqL K H a xs\/SqT K H a xs)/\HdA K (hz zA H) l xs:=by
 cases d with
 |tup m =>
  cases e;obtain⟨a,xs,rfl,h1,h2⟩:=h.B00;exact⟨a,xs,rfl,.inr ((a10 zA H).sqT h1),h2⟩
 |lst m =>
  cases e;obtain⟨a,xs,rfl,h1,h2⟩:=h.X50;exact⟨a,xs,rfl,.inl (h1.same (a10 zA H)).sq,h2⟩
 |_=>cases e
theorem q62:g10 X (.builtin "len") (rDn X.K (bfD .len)):=by
 intro pins s σ H xs us Q I r h;obtain⟨zA,z,ds,w,st,hx,e,q⟩:=h
 match ds,e with
 |[d],e =>
  obtain⟨l,e1,rfl⟩:=É.mp (show(m31 d).map _=some w from e);obtain⟨x,rfl,h1⟩:=hx.one;obtain⟨a,ys,rfl,h2,h3⟩:=w11 h1 e1;exact R60 pins s σ H _ us Q I r ⟨a,ys,rfl,h2,by rw[h3.length];exact q _ _ (a20.refl H) k30⟩
theorem M11:g10 X (.type "tuple") (rDn X.K (bfD .tuple)):=by
 intro pins s σ H xs us Q I r h;obtain⟨zA,z,ds,w,st,hx,e,q⟩:=h
 match ds,e with
 |[d],e =>
  obtain⟨l,e1,rfl⟩:=É.mp (show(m31 d).map _=some w from e);obtain⟨x,rfl,h1⟩:=hx.one;obtain⟨a,ys,rfl,h2,h3⟩:=w11 h1 e1;refine K60 pins s σ H _ us Q I r ⟨a,ys,rfl,?_⟩;rcases h2 with h2 | h2
  ·refine .inl ⟨h2,λp hp=>q _ _ (a20.new _ hp) (G11 (Hd.tup ((st.same (a20.new _ hp)).b62 (SqT.of a70)) (h3.same (j50 (a20.new _ hp)))))⟩
  ·exact .inr ⟨h2,q _ _ (a20.refl H) (G11 (Hd.tup (st.b62 h2) h3))⟩
theorem c72:g10 X (.type "list") (rDn X.K (bfD .list)):=by
 intro pins s σ H xs us Q I r h;obtain⟨zA,z,ds,w,st,hx,e,q⟩:=h
 match ds,e with
 |[d],e =>
  obtain⟨l,e1,rfl⟩:=É.mp (show(m31 d).map _=some w from e);obtain⟨x,rfl,h1⟩:=hx.one;obtain⟨a,ys,rfl,h2,h3⟩:=w11 h1 e1;exact R70 pins s σ H _ us Q I r ⟨a,ys,rfl,h2,λp hp=>q _ _ (a20.new _ hp) (l90 st h3 hp)⟩
theorem w21{K:Â}{H:Hp}:∀ {l:List D}{bs:List Bool}{vs:List V},l.mapM asB=some bs->HdA K H l vs->vs=bs.map V.bl
 |[],_,_,e,h=>by simp at e;subst e;rw[h.f50];rfl
 |x::r,_,_,e,h=>by
  simp only[Ö9,bind,Í] at e;obtain⟨b,e1,bs,e2,e3⟩:=e;cases e3;obtain⟨y,ys,rfl,h1,h2⟩:=h.c50;cases x with
  |bl c=>cases e1;cases h1.bl_;rw[w21 e2 h2];rfl
  |_=>cases e1
theorem q72(hc:X.calm=true):g10 X (.builtin "all") (rDn X.K (bfD .all)):=by
 intro pins s σ H xs us Q I r h;obtain⟨zA,z,ds,w,st,hx,e,q⟩:=h
 match ds,e with
 |[.lst l],e =>
  obtain⟨bs,e1,rfl⟩:=É.mp (show(l.mapM asB).map _=some w from e);obtain⟨x,rfl,h1⟩:=hx.one;obtain⟨a,ys,rfl,h2,h3⟩:=h1.X50;rw[w21 e1 h3] at h2;exact I01 hc pins s σ H _ us Q I r ⟨a,bs,rfl,(h2.same (a10 zA H)).sq,q _ _ (a20.refl H) i10⟩
theorem M21(hc:X.calm=true):g10 X (.builtin "any") (λxs H Q=>∃ (a:Ç) (bs:List Bool),xs=[.ref a]/\SqL X.K H a (bs.map V.bl)/\Q (.bl (bs.any id)) H):=by
 intro pins s σ H xs us Q I r h;obtain⟨a,bs,rfl,hq,q⟩:=h;obtain⟨u,rfl,rx⟩:=vals1 r;cases rx;obtain⟨its,rv,pl,hz⟩:=I.list hq;have hlt:a < s.heap.objs.size:=by obtain⟨_,e,_⟩:=pl.isList;exact Þ e
 have hlen:its.length=bs.length:=by have:=rv.length;simpa using this.symm
 refine call_any_walk (Í1 pl.isList ⟨_,_,_,_,_,_,λi=>(bs[i]?).getD false,rfl,Ý8 (by exact I.ok.hd hc) s.heap.objs.size a (Õ hlt) its.toArray,⟨⟨_,Ê _ rfl,rfl,rfl⟩,pl.isList.push _⟩,?_,?_⟩)
 ·intro i v s' Q' E' hP hQ;have hP':its[i]?=some v:=by simpa using hP
  have hi:i < bs.length:=by rw[← hlen];exact(Ý.mp hP').1
  obtain⟨v',hv',rv'⟩:=rv.get (i:=i) (x:=.bl bs[i]) (by simp[hi])
  rw[hP'] at hv';cases hv';cases (show v=È9 _ from rv');exact Á8 (by simpa [hi] using hQ)
 ·intro h' tk kp;refine⟨.bl (bs.any id),H,I.kept λb o e=>kp b o (by simpa using Õ (Þ e)) (Ã _ e),?_,q⟩
  show È9 _=È9 _;rw[Ö,hlen]
  congr 1
  rw[Â7,any_eq_true,any_eq_true];constructor
  ·rintro ⟨i,h1,h2⟩;have hi:i < bs.length:=À1.mp h1;exact⟨bs[i],Ç4 hi,by simpa [hi] using h2⟩
  ·rintro ⟨b,h1,h2⟩;obtain⟨i,hi,rfl⟩:=List.getElem_of_mem h1;exact⟨i,À1.mpr hi,by simpa [hi] using h2⟩
theorem q82(hc:X.calm=true):g10 X (.builtin "any") (rDn X.K (bfD .any)):=by
 intro pins s σ H xs us Q I r h;obtain⟨zA,z,ds,w,st,hx,e,q⟩:=h
 match ds,e with
 |[.lst l],e =>
  obtain⟨bs,e1,rfl⟩:=É.mp (show(l.mapM asB).map _=some w from e);obtain⟨x,rfl,h1⟩:=hx.one;obtain⟨a,ys,rfl,h2,h3⟩:=h1.X50;rw[w21 e1 h3] at h2;exact M21 hc pins s σ H _ us Q I r ⟨a,bs,rfl,(h2.same (a10 zA H)).sq,q _ _ (a20.refl H) i10⟩
theorem q92(hc:X.calm=true):g10 X (.builtin "min") (rDn X.K (bfD .min)):=by
 intro pins s σ H xs us Q I r h;obtain⟨zA,z,ds,w,st,hx,e,q⟩:=h
 match ds,e with
 |[.int i,.int j],e =>
  cases e;obtain⟨x,y,rfl,h1,h2⟩:=hx.two;cases h1.l70;cases h2.l70;exact q41 hc pins s σ H _ us Q I r ⟨i,j,rfl,q _ _ (a20.refl H) k30⟩
theorem r02(hc:X.calm=true):g10 X (.builtin "max") (rDn X.K (bfD .max)):=by
 intro pins s σ H xs us Q I r h;obtain⟨zA,z,ds,w,st,hx,e,q⟩:=h
 match ds,e with
 |[.int i,.int j],e =>
  cases e;obtain⟨x,y,rfl,h1,h2⟩:=hx.two;cases h1.l70;cases h2.l70;exact q31 hc pins s σ H _ us Q I r ⟨i,j,rfl,q _ _ (a20.refl H) k30⟩
theorem r12:g10 X (.type "int") (rDn X.K (bfD .int)):=by
 intro pins s σ H xs us Q I r h;obtain⟨zA,z,ds,w,st,hx,e,q⟩:=h
 match ds,e with
 |[.int i],e =>
  cases e;obtain⟨x,rfl,h1⟩:=hx.one;cases h1.l70;exact Q80 pins s σ H _ us Q I r (.inl ⟨i,rfl,q _ _ (a20.refl H) k30⟩)
 |[.bl b],e =>
  cases e;obtain⟨x,rfl,h1⟩:=hx.one;cases h1.bl_;exact Q80 pins s σ H _ us Q I r (.inr ⟨b,rfl,q _ _ (a20.refl H) k30⟩)
def tyN:Ty->String
 |.int=>"int" | .bool=>"bool" | .tuple=>"tuple" | .list=>"list" | .str=>"str" | .seq=>""
theorem c82(t:Ty)(d:D)(h:t≠.seq):isB d.ty (tyN t)=S61 t d:=by
 cases t <;> cases d <;> first | rfl | (exact absurd rfl h) | decide
theorem M31(d:D):(isB d.ty "tuple" || isB d.ty "list")=S61 .seq d:=by cases d <;> rfl
theorem at_of{K:Â}{H:Hp}{l:List D}{xs:List V}{i:Int}{d:D}(h:HdA K H l xs)(e:atI l i=some d):∃ v,atI xs i=some v/\Hd K H d v:=by
 unfold atI at e ⊢;obtain⟨j,e1,e2⟩:=Í.mp e;rw[h.length,e1];exact h.get e2
theorem ixD:IxR X (rD2 X.K λa b=>(e91 a b).map S.d):=by
 intro value slice pins s σ H x y v u Q I rx ry h hs;obtain⟨zA,z,dx,dy,w,st,hx,hy,e,q⟩:=h;obtain⟨r,e1,rfl⟩:=É.mp e;cases dx with
 |tup l =>
  cases dy with
  |int i =>
   cases hy.l70;obtain⟨a,xs,rfl,h1,h2⟩:=hx.B00;obtain⟨v',e2,h3⟩:=at_of h2 e1;exact m62 value slice pins s σ H _ _ v u Q I rx ry ⟨a,xs,i,v',rfl,rfl,(a10 zA H).sqT h1,e2,q _ _ (a20.refl H) (G11 h3)⟩ hs
  |_=>cases e1
 |lst l =>
  cases dy with
  |int i =>
   cases hy.l70;obtain⟨a,xs,rfl,h1,h2⟩:=hx.X50;obtain⟨v',e2,h3⟩:=at_of h2 e1;exact X70 value slice pins s σ H _ _ v u Q I rx ry ⟨a,xs,i,v',rfl,rfl,(h1.same (a10 zA H)).sq,e2,q _ _ (a20.refl H) (G11 h3)⟩ hs
  |_=>cases e1
 |_=>cases e1
theorem S91{K:Â}{H:Hp}{l:List D}{xs:List V}(h:HdA K H l xs)(lo hi:Option Int):HdA K H (cutD l lo hi) (H41 xs lo hi):=by
 unfold cutD H41;rw[h.length];exact(h.drop _).take _
def U82(K:Â):V->Option Int->Option Int->Hp->VK->Prop:=λx lo hi H Q=>∃ zA z dx s,c90 zA z H/\Hd K (hz zA H) dx x/\slD dx lo hi=some s/\∀ v H',a20 H H'->RvS K zA H H' s v->Q v H'
theorem U92:SlR X (U82 X.K):=by
 intro pins s σ H x v vl vu lo hi sl Q I rx hs pl pu h;obtain⟨zA,z,dx,w,st,hx,e,q⟩:=h;cases dx with
 |tup l =>
  cases e;obtain⟨a,xs,rfl,h1,h2⟩:=hx.B00;exact Z41 pins s σ H _ v vl vu lo hi sl Q I rx hs pl pu ⟨a,xs,rfl,(a10 zA H).sqT h1,tupQ st (S91 h2 lo hi) q⟩
 |lst l =>
  cases e;obtain⟨a,xs,rfl,h1,h2⟩:=hx.X50;exact X41 pins s σ H _ v vl vu lo hi sl Q I rx hs pl pu ⟨a,xs,rfl,(h1.same (a10 zA H)).sq,λp hp=>q _ _ (a20.new _ hp) (l90 st (S91 h2 lo hi) hp)⟩
 |_=>cases e
end
end Q
namespace Q
open PySem L2 PySem.Spec PyProof.Rows
open PySem.W (KatLex KatTups kat_nil kat_cons kat_go kat_yes kat_no kat_one kat_lt kat_kind kas_kind kat_lt_int)
theorem E70(k:D):∀ l,(o81 k l).Perm (k::l)
 |[]=>.refl _
 |y::r=>by
  unfold o81;split
  ·exact((E70 k r).cons y).trans (.swap _ _ _)
  ·exact .refl _
theorem x10:∀ l,(u60 l).Perm l
 |[]=>.refl _|k::r=>(E70 k _).trans ((x10 r).cons k)
theorem w31(k:D):∀ l,l.Pairwise (λx y=>MySort.h90 (flt y) (flt x)=false)->(o81 k l).Pairwise (λx y=>MySort.h90 (flt y) (flt x)=false)
 |[],_=>à6 _ _
 |y::r,h=>by
  obtain⟨h1,h2⟩:=Ë0.mp h;unfold o81;split
  ·rename_i hy;refine Ë0.mpr ⟨λz hz=>?_,w31 k r h2⟩;rcases ï.mp ((E70 k r).mem_iff.mp hz) with rfl | hz
   ·cases q:MySort.h90 (flt z) (flt y) with
    |false=>rfl|true=>have:=MySort.q50 _ _ _ hy q;rw[MySort.s50] at this;cases this
   ·exact h1 z hz
  ·rename_i hy;refine Ë0.mpr ⟨λz hz=>?_,h⟩;rcases ï.mp hz with rfl | hz
   ·simpa using hy
   ·cases q:MySort.h90 (flt z) (flt k) with
    |false=>rfl
    |true =>
     rcases MySort.e01 _ (flt y) _ q with q | q
     ·rw[h1 z hz] at q;cases q
     ·exact absurd q hy
theorem f11:∀ l,(u60 l).Pairwise (λx y=>MySort.h90 (flt y) (flt x)=false)
 |[]=>.nil|k::r=>w31 k _ (f11 r)
mutual
theorem T01:∀ x y:D,eqT x y=true->x=y
 |.int i,y,h=>by
  cases y with
  |int j=>rw[eq_of_beq (show(i == j)=true from h)]|_=>cases h
 |.tup a,y,h=>by
  cases y with
  |tup b=>rw[Z20 a b h]|_=>cases h
 |.non,y,h=>by cases y <;> cases h
 |.bl _,y,h=>by cases y <;> cases h
 |.str _,y,h=>by cases y <;> cases h
 |.lst _,y,h=>by cases y <;> cases h
 |.dct,y,h=>by cases y <;> cases h
theorem Z20:∀ x y:List D,X30 x y=true->x=y
 |[],[],_=>rfl|[],_::_,h=>by cases h
 |_::_,[],h=>by cases h
 |x::r,y::q,h=>by
  have h:(eqT x y&&X30 r q)=true:=h;rw[Á] at h;rw[T01 x y h.1,Z20 r q h.2]
end
variable [TB:Tb]
theorem c92(ok:∀ x∈l,∀ y∈l,flt x=flt y->x=y)(h:MySort.sortedBy (l.map flt) p):(p.map λi=>l.getD i .non)=u60 l:=by
 have h1:=h.1.map λi=>l.getD i .non;rw[È,MySort.range_getD] at h1;have e:((p.map λi=>l.getD i .non).map flt)=p.map λi=>(l.map flt).getD i []:=by
  rw[Ã8];refine Ç0 λi hi=>?_;have:i < l.length:=by have:=h.1.mem_iff.mp hi;simpa using this
  simp[this]
 have h2:(p.map λi=>l.getD i .non).Pairwise λx y=>MySort.h90 (flt y) (flt x)=false:=by
  have:=h.2;rw[← e,Ú6] at this;exact this
 refine É1 (le:=λx y=>MySort.h90 (flt y) (flt x)=false) (λa b ha hb p q=>?_) h2 (f11 l) (h1.trans (x10 l).symm);exact ok a (h1.mem_iff.mp ha) b ((x10 l).mem_iff.mp hb) (MySort.q60 _ _ q p)
mutual
theorem M41(kp:MySort.s71 h h'):∀ (d:D) {u:Ä}{as:List Ç},eqT d d=true->Reads h u (toP d) as->Reads h' u (toP d) as
 |.int i,_,_,_,r=>by cases r;exact .int _ _
 |.tup l,_,_,e,r=>by
  cases r with
  |tuple k1 k2 k3 k4=>exact .tuple (kp _ _ k1 k2) k2 k3 (o90 kp l e k4)
 |.non,_,_,e,_=>by cases e
 |.bl _,_,_,e,_=>by cases e
 |.str _,_,_,e,_=>by cases e
 |.lst _,_,_,e,_=>by cases e
 |.dct,_,_,e,_=>by cases e
theorem o90(kp:MySort.s71 h h'):∀ (l:List D) {us:List Ä}{as:List Ç},X30 l l=true->ReadsAll h us (Q30 l) as->ReadsAll h' us (Q30 l) as
 |[],_,_,_,r=>by cases r;exact .nil
 |x::q,_,_,e,r=>by
  have e:(eqT x x&&X30 q q)=true:=e;rw[Á] at e;cases r with
  |cons r1 r2=>exact .cons (M41 kp x e.1 r1) (o90 kp q e.2 r2)
end
theorem e80.get:∀ {us:List Ä}{l:List D}{i:Nat}{d:D},e80 h us l->l[i]?=some d->m41 h (us.getD i ä) d
 |_,[],i,d,_,e=>by cases e
 |us,x::r,i,d,hd,e=>by
  obtain⟨u,q,rfl,h1,h2⟩:=hd.c50;cases i with
  |zero=>cases e;simpa using h1
  |succ i=>simpa using e80.get h2 (by simpa using e)
theorem e80.len:∀ {us:List Ä}{l:List D},e80 h us l->us.length=l.length
 |_,[],hd=>by rw[hd.f50];rfl
 |us,x::r,hd=>by
  obtain⟨u,q,rfl,h1,h2⟩:=hd.c50;simp[e80.len h2]
def T11(l:List D):Prop:=∀ x r,l=x::r->∃ i,x=.int i
theorem O02(hu:A.units + 40 < Ä5):∀ (a c:List D) {vs us:List Ä}{r:Bool} (i:Nat),e80 s.heap vs a->e80 s.heap us c->L51 a c=some r->e70 a<=39 ->
 ((b&&i == 0)=true->T11 a/\T11 c)->fin=decide (vs.length < us.length)->Q r s->KatLex P w A b fin Q (vs.zip us) i s
 |[],[],_,_,r,i,ha,hc,e,_,_,hf,q=>by
  cases ha.f50;cases hc.f50;cases e;subst hf;exact kat_nil q
 |[],y::t,_,_,r,i,ha,hc,e,_,_,hf,q=>by
  cases ha.f50;obtain⟨u,us,rfl,_,_⟩:=hc.c50;cases e;subst hf;exact kat_nil q
 |x::l,[],_,_,r,i,ha,hc,e,_,_,hf,q=>by
  cases hc.f50;obtain⟨v,vs,rfl,_,_⟩:=ha.c50;cases e;subst hf;exact kat_nil q
 |x::l,y::t,_,_,r,i,ha,hc,e,hd,hi,hf,q=>by
  obtain⟨v,vs,rfl,a1,a2⟩:=ha.c50;obtain⟨u,us,rfl,c1,c2⟩:=hc.c50;have d1:deep x<=39:=Ó (Nat.le_max_left _ _) hd;have d2:e70 l<=39:=Ó (Nat.le_max_right _ _) hd;have e:(if eqD x y=true then L51 l t else ltD x y)=some r:=e;refine kat_cons (q02 (A:=A) a1 c1 ∅ P w _ _ ?_)
  refine kat_go (λz=>?_) λz=>?_
  ·rw[if_pos z] at e;refine kat_yes (O02 hu l t (i + 1) a2 c2 e d2 (λk=>?_) (by rw[hf];simp) q)
   simp at k
  ·rw[if_neg (by rw[z];exact Ï)] at e
   refine kat_no ?_;cases hb:(b&&i == 0) with
   |true =>
    obtain⟨f1,f2⟩:=hi hb;obtain⟨m,rfl⟩:=f1 x l rfl;obtain⟨n,rfl⟩:=f2 y t rfl;cases e;obtain⟨_,_,r1⟩:=a1;obtain⟨_,_,r2⟩:=c1;cases r1;cases r2;exact oneLt_int q
   |false=>exact kat_one _ _ ((c62 39 (A:=A) (s:=s)).1 x y v u r d1 a1 c1 e ∅ P w _ _ q)
theorem Z30(h:v01 x=0):∃ i,x=.int i:=by
 cases x with
 |int i=>exact⟨i,rfl⟩
 |tup l =>
  cases l with
  |nil=>cases h
  |cons y r=>cases y <;> cases h
 |_=>cases h
theorem Z40(h:v01 x=k)(h1:1<=k)(h3:k < 3):∃ y r,x=.tup (y::r)/\(k=1->∃ i,y=.int i)/\(k=2->∃ l,y=.tup l):=by
 cases x with
 |tup l =>
  cases l with
  |nil=>have:k=3:=h.symm;omega
  |cons y r =>
   refine⟨y,r,rfl,λe=>?_,λe=>?_⟩ <;> subst e <;> cases y <;> first | exact⟨_,rfl⟩ | cases h
 |int i=>have:k=0:=h.symm;omega|_=>have:k=3:=h.symm;omega
theorem d02(h1:1<=k)(h3:k < 3):∀ {us:List Ä}{l:List D},e80 h us l->(∀ x∈l,v01 x=k)->∃ fs,KatTups h us fs/\fs.length=us.length/\∀ v∈fs,(k=1->∃ i t,v=Æ2 i t)/\(k=2->∃ a o,v=Á7 a/\h.get? a=some o/\o.cls=.type "tuple")
 |_,[],hd,_=>by rw[hd.f50];exact⟨[],.nil,rfl,λv hv=>absurd hv (by simp)⟩
 |_,x::r,hd,hk=>by
  obtain⟨u,q,rfl,⟨_,as,r1⟩,h2⟩:=hd.c50;obtain⟨fs,t1,t2,t3⟩:=d02 h1 h3 h2 λy hy=>hk y (Ë _ hy);obtain⟨y,l,rfl,y1,y2⟩:=Z40 (hk x Ì) h1 h3;cases r1 with
  | @tuple a o vs n xs as k1 k2 k3 k4 =>
   cases hv:vs.toList with
   |nil=>rw[hv] at k4;cases k4
   |cons f fr =>
    rw[hv] at k4;cases k4 with
    |cons f1 f2 =>
     refine⟨f::fs,.cons k1 k2 k3 (by rw[← ú,hv];rfl) t1,by simp[t2],λv hm=>?_⟩
     rcases ï.mp hm with rfl | hm
     ·refine⟨λe=>?_,λe=>?_⟩
      ·obtain⟨i,rfl⟩:=y1 e;cases f1;exact⟨_,_,rfl⟩
      ·obtain⟨m,rfl⟩:=y2 e;cases f1 with
       |tuple g1 g2 g3 g4=>exact⟨_,_,rfl,g1,g2⟩
     ·exact t3 v hm
def kdOf:Nat->Í2
 |0=>Ù6|1=>tuples' true|_=>tuples' false
theorem Z50(h:j30 x y=true):v01 y=v01 x/\ltD x y=some (MySort.h90 (flt x) (flt y))/\(flt x=flt y->x=y):=by
 unfold j30 at h;rw[Á,Á,Å9] at h;refine⟨eq_of_beq h.1,eq_of_beq h.2.1,λe=>?_⟩;rcases h.2.2 with k | k
 ·exact T01 _ _ k
 ·rw[e] at k;simp at k
theorem w41(h64:us.length < 64)(hd:e80 s.heap us l)(hu:A.units + 40 < Ä5)(k3:k < 3)(hk:∀ x∈l,v01 x=k)(ho:∀ x∈l,okD x=true)(hp:∀ x∈l,∀ y∈l,j30 x y=true):MySort.j52 P w A s us (MySort.sortedBy (l.map flt)) (kdOf k) where
 len:=∅
 few h2:=MySort.n42 (by rw[È];exact hd.len) h2
 all p hp:=by rw[hp.1.length_eq,û,È,hd.len]
 kind h2 E Q q:=by
  match k,k3,hk,q with
  |0,_,hk,q =>
   refine kas_kind h2 (T:=.type "int") (λv hv=>?_) rfl rfl q;obtain⟨i,hi,rfl⟩:=É0.mp hv;have hi':i < l.length:=by rw[← hd.len];exact hi
   obtain⟨_,as,r⟩:=hd.get (i:=i) (d:=l[i]) (by simp[hi'])
   obtain⟨n,hn⟩:=Z30 (hk l[i] (Ç4 hi'));rw[hn] at r;have e:us.getD i ä=us[i]:=by simp[hi]
   rw[e] at r;generalize us[i]=v at r;cases r;exact Ü1 rfl
  |1,_,hk,q =>
   obtain⟨fs,t1,t2,t3⟩:=d02 1e1 1e1 hd hk
   exact kat_kind (T:=.type "int") t1 ∅ (λv hv=>by obtain⟨i,t,rfl⟩:=(t3 v hv).1 rfl;exact Ü1 rfl) rfl q
  |2,_,hk,q =>
   obtain⟨fs,t1,t2,t3⟩:=d02 1e1 1e1 hd hk
   exact kat_kind (T:=.type "tuple") t1 ∅ (λv hv=>by
    obtain⟨a,o,rfl,g1,g2⟩:=(t3 v hv).2 rfl;rw[← g2];exact(Î6 g1).andThen .now) rfl q
 run:=MySort.Y51 (by rw[È];exact hd.len) h64 λi j hi hj E C hC=>by
  have hi':i < l.length:=by rw[← hd.len];exact hi
  have hj':j < l.length:=by rw[← hd.len];exact hj
  have mi:=Ç4 hi';have mj:=Ç4 hj';obtain⟨_,h2,_⟩:=Z50 (hp _ mi _ mj);have a1:=hd.get (i:=i) (d:=l[i]) (by simp[hi'])
  have b1:=hd.get (i:=j) (d:=l[j]) (by simp[hj'])
  have e1:(l.map flt).getD i []=flt l[i]:=by simp[hi']
  have e2:(l.map flt).getD j []=flt l[j]:=by simp[hj']
  rw[e1,e2] at hC;generalize MySort.h90 (flt l[i]) (flt l[j])=c at h2 hC;have kx:=hk _ mi;have ky:=hk _ mj;have ox:=N40 (ho _ mi);generalize l[i]=x at *
  generalize l[j]=y at *
  have tup:∀ b:Bool,1<=k->(b=true->k=1)->Ñ (Ø P w) A (keyLt' (tuples' b) (us.getD i ä) (us.getD j ä)) C E s:=λb h1 hb=>by
   obtain⟨x1,xr,rfl,x2,_⟩:=Z40 kx h1 k3;obtain⟨y1,yr,rfl,y2,_⟩:=Z40 ky h1 k3;obtain⟨f1,as,r1⟩:=a1;obtain⟨f2,bs,r2⟩:=b1;generalize us.getD i ä=v at r1;generalize us.getD j ä=u at r2;cases r1 with
   |tuple p1 p2 p3 p4 =>
    cases r2 with
    |tuple q1 q2 q3 q4 =>
     refine kat_lt p1 p3 q1 q3 (O02 hu (x1::xr) (y1::yr) 0 ⟨f1,_,p4⟩ ⟨f2,_,q4⟩ h2 (by have:deep (.tup (x1::xr))=e70 (x1::xr) + 1:=rfl;omega) (λz=>?_) (by simp) hC)
     have hb1:=hb (by simpa using z)
     exact⟨λa q e=>by cases e;exact x2 hb1,λa q e=>by cases e;exact y2 hb1⟩
  match k,k3,kx,ky,tup with
  |0,_,kx,ky,_ =>
   obtain⟨m,rfl⟩:=Z30 kx;obtain⟨n,rfl⟩:=Z30 ky;cases h2;obtain⟨_,_,r1⟩:=a1;obtain⟨_,_,r2⟩:=b1;generalize us.getD i ä=v at r1;generalize us.getD j ä=u at r2;cases r1;cases r2;exact kat_lt_int hC
  |1,_,_,_,tup=>exact tup true 1e1 λ_=>rfl|2,_,_,_,tup=>exact tup false 1e1 λh=>by cases h
theorem HdA.pick{K:Â}{H:Hp}{l:List D}{vs:List V}(h:HdA K H l vs):∀ {p:List Nat},(∀ i∈p,i < l.length)->HdA K H (p.map λi=>l.getD i .non) (p.map λi=>vs.getD i .non)
 |[],_=>.nil
 |i::p,hp=>by
  have hi:=hp i Ì;refine .cons ?_ (HdA.pick h λj hj=>hp j (Ë _ hj));obtain⟨v,e1,e2⟩:=h.get (i:=i) (d:=l[i]) (by simp[hi])
  have g1:l.getD i .non=l[i]:=by simp[hi]
  have g2:vs.getD i .non=v:=by rw[Ü,e1];rfl
  show Hd K H (l.getD i .non) (vs.getD i .non);rw[g1,g2];exact e2
end Q
namespace Q
open PySem L2 PySem.Spec PyProof.Rows
open PySem.W (kas_mapM kas_first_eq kas_item kas_item_eq kas_cmp)
theorem d12(h:k<=8):∀ i∈TS.sN k,i < 2 ^ k:=by
 have:∀ k,k < 9->((TS.sN k).all λi=>Nat.blt i (2 ^ k))=true:=by decide +kernel
 intro i hi;exact Nat.blt_eq.mp (Ú.mp (this k ∅) i hi)
theorem r22(h:k<=8):(TS.sN k).length=2 ^ k:=by
 have:∀ k,k < 9->beq (TS.sN k).length (2 ^ k)=true:=by decide +kernel
 exact Nat.eq_of_beq_eq_true (this k ∅)
theorem u70(h:i < 2 ^ k):(i00 k)[i]?=some (c30 k i):=by
 unfold i00;rw[Û,Î7 h];rfl
def r32(h:k<=8):((TS.sN k).map λi=>(i00 k).getD i .non)=L61 k:=
 Ç0 λi hi=>by rw[Ü,u70 (d12 h i hi)];rfl
theorem w51:∀ a b:List Nat,L51 (a.map λ(i:Nat)=>.int i) (b.map λ(i:Nat)=>.int i)=some (TS.A22 a b)
 |[],[]=>rfl|[],_::_=>rfl|_::_,[]=>rfl
 |a::r,b::q=>by
  show(if ((a:Int) == (b:Int))=true then L51 (r.map λ(i:Nat)=>.int i) (q.map λ(i:Nat)=>.int i) else some (decide ((a:Int) < b)))=some (if beq a b=true then TS.A22 r q else Nat.blt a b);rw[w51 r q];by_cases h:a=b
  ·subst h;rw[if_pos (by simp),if_pos (Nat.beq_refl a)]
  ·rw[if_neg (by simp;omega),if_neg λe=>h (Nat.eq_of_beq_eq_true e)]
   congr 1
   rw[Â7,decide_eq_true_eq,Nat.blt_eq];omega
variable [TB:Tb]
section
variable {P:à}{w:í}{A:ó}{E:Ä->Æ->Prop}{s:Æ}
def TupAt(h:ê)(v:Ä):Prop:=∃ a o xs n,v=.ref a/\h.get? a=some o/\o.cls=.type "tuple"/\o.data=.seq xs n
theorem f21(ho:s.heap.get? a=some o)(hc:o.cls=.type "tuple")(hd:o.data=.seq xs n)(q:Q xs[0]? s):Ñ (Ø P w) A (firstOfTuple' (.ref a)) Q E s:=by
 rw[kas_first_eq];refine À (Ý9 (show PySem.W.Looks (Ø P w) s.heap (typeOf (.ref a)) o.cls from(Î6 ho).andThen .now) ?_);rw[hc,if_neg (by first | decide | simp)]
 exact À (Ñ4 ho hd (Å q))
theorem T50:∀ (vs:List Ä),(∀ v∈vs,TupAt s.heap v)->∃ fs:List (Option Ä),∀ Q,Q fs s->Ñ (Ø P w) A (vs.mapM firstOfTuple') Q E s
 |[],_=>⟨[],λQ q=>by rw[List.mapM_nil];exact Å q⟩
 |v::vs,h=>by
  obtain⟨fs,hf⟩:=T50 vs λu hu=>h u (Ë _ hu);obtain⟨a,o,xs,n,rfl,ho,hc,hd⟩:=h v Ì;refine⟨xs[0]?::fs,λQ q=>?_⟩;rw[Ö9];exact À (f21 ho hc hd (À (hf _ (Å q))))
theorem d22(ho:s.heap.get? a=some o)(hc:o.cls=.type "tuple")(hd:o.data=.seq #[] n)(h:∀ v∈vs,TupAt s.heap v)(q:Q Ù6 s):Ñ (Ø P w) A (keyKind' (Á7 a::vs).toArray) Q E s:=by
 obtain⟨fs,hf⟩:=T50 (P:=P) (w:=w) (A:=A) (E:=E) vs h;rw[keyKind'_eq,List.mapM_toArray,map_eq_pure_bind,Ö9];refine À (À (À (f21 ho hc hd (À (hf _ (Å (Å ?_)))))));rw[if_neg (by simp),if_neg (by simp)]
 rw[oneTypeOnly'_eq,List.mapM_toArray,map_eq_pure_bind];refine À (À (À (kas_mapM (r:=.type "tuple") _ (λv hv Q' hq=>?_) (Å ?_))))
 ·have:TupAt s.heap v:=by
   rcases ï.mp hv with rfl | hv
   ·exact⟨_,_,_,_,rfl,ho,hc,hd⟩
   ·exact h v hv
  obtain⟨b,o',xs,m,rfl,ho',hc',_⟩:=this;rw[← hc'] at hq;exact Ý9 (show PySem.W.Looks (Ø P w) s.heap (typeOf (.ref b)) o'.cls from(Î6 ho').andThen .now) hq
 ·have hall:((List.map (λ_=>Â2 "tuple") (Á7 a::vs)).toArray.all λx=>x == Â2 "tuple")=true:=by
   simp only[List.all_toArray,all_map,Ä6];intro _ _;rfl
  have h0:(List.map (λ_=>Â2 "tuple") (Á7 a::vs)).toArray[0]?=some (Â2 "tuple"):=by simp
  rw[h0];simp only[hall,if_true];exact Å (Å q)
theorem r42(hl:Ï4 s.heap l i1)(hb:Ï4 s.heap b i2)(hu:A.units < Ä5)(hx:Lx A.in1 s i1.toList i2.toList c)(q:Q c s):Ñ (Ø P w) A (keyLt' Ù6 (.ref l) (.ref b)) Q E s:=by
 obtain⟨⟨cls,dd,data,sl⟩,ho,hc,n,hd⟩:=id hl;obtain⟨⟨cls2,dd2,data2,sl2⟩,ho2,hc2,n2,hd2⟩:=id hb;simp only at hc hd hc2 hd2;subst hc hd hc2 hd2;rw[keyLt'_oneType,oneLt'_eq];simp only[if_true];refine À (wpAny_cRoomFor hu (À (wpAny_callSpecialIfBound?_slot ⟨_,ho,rfl⟩ Ó7 (Ê0 Ó7 ⟨_,ho,rfl⟩ ß6 (Þ6 _ _) (E60 l b i1 i2 n n2 dd dd2 sl sl2 c) ⟨ho,ho2,hx,?_⟩))));exact Á8 q
theorem r52(h8:k<=8)(hd:e80 s.heap us (i00 k))(hu:A.units + 40 < Ä5):MySort.j52 P w A s us (λp=>p=TS.sN k) Ù6 where
 len:=by rw[hd.len,i00,È,û];exact Ó (Ö0 1e1 h8) 1e1
 few h2:=by
  rw[hd.len,i00,È,û] at h2 ⊢;cases k with
  |zero=>rfl|succ k=>have:=Nat.one_le_two_pow (n:=k);rw[Nat.pow_succ] at h2;omega
 all p hp:=by subst hp;rw[hd.len,i00,È,û,r22 h8]
 kind h2 E Q q:=by
  have ht:∀ i v,us[i]?=some v->∃ xs n a o,v=.ref a/\s.heap.get? a=some o/\o.cls=.type "tuple"/\o.data=.seq xs n/\(i=0->xs=#[]):=λi v e=>by
   have hi:i < us.length:=(Ý.mp e).1;have hi':i < 2 ^ k:=by rw[hd.len,i00,È,û] at hi;exact hi
   obtain⟨_,as,r⟩:=hd.get (u70 hi');have e2:us.getD i ä=v:=by rw[Ü,e];rfl
   rw[e2] at r;have z0:∀ k,TS.D00 k 0 0=[]:=λk=>by
    have:∀ k i,TS.D00 k i 0=[]:=λk=>by
     induction k with
     |zero=>exact λ_=>rfl|succ k ih=>exact λi=>ih (i + 1)
    exact this k 0
   cases i with
   |zero =>
    have r:Reads s.heap v (toP (.tup ((TS.D00 k 0 0).map λ(i:Nat)=>.int i))) as:=r;rw[z0] at r;cases r with
    | @tuple a o vs n xs as k1 k2 k3 k4 =>
     have:vs.toList=[]:=by cases hv:vs.toList with | nil=>rfl | cons _ _=>rw[hv] at k4;cases k4
     exact⟨vs,n,a,o,rfl,k1,k2,k3,λ_=>Array.toList_eq_nil_iff.mp this⟩
   |succ i =>
    cases r with
    | @tuple a o vs n xs as k1 k2 k3 k4=>exact⟨vs,n,a,o,rfl,k1,k2,k3,λe=>by cases e⟩
  match us,ht with
  |[],_=>simp at h2
  |v::vs,ht =>
   obtain⟨xs,n,a,o,rfl,h1,h3,h4,h5⟩:=ht 0 v rfl;cases h5 rfl;refine d22 h1 h3 h4 (λu hu=>?_) q;obtain⟨i,hi,rfl⟩:=É0.mp hu;obtain⟨xs,n,a,o,e,h1,h3,h4,_⟩:=ht (i + 1) vs[i] (by simp[hi])
   exact⟨a,o,xs,n,e,h1,h3,h4⟩
 run h2:=by
  have hl:us.length=2 ^ k:=by rw[hd.len,i00,È,û]
  have h1:1<=k:=by
   cases k with
   |zero=>rw[hl] at h2;exact absurd h2 1e1|succ k=>omega
  refine TS.runL h1 h8 hl λi j C hi hj hC=>?_;have e1:=kas_item_eq us i;have e2:=kas_item_eq us j;show Ñ (Ø P w) A (keyLt' Ù6 (ø (pairsOf us) i).1 (ø (pairsOf us) j).1) C _ s;rw[e1,e2];obtain⟨f1,as,r1⟩:=hd.get (u70 hi);obtain⟨f2,bs,r2⟩:=hd.get (u70 hj);show Ñ (Ø P w) A (keyLt' Ù6 (us.getD i ä) (us.getD j ä)) C _ s;generalize us.getD i ä=v at r1;generalize us.getD j ä=u at r2;cases r1 with
  |tuple p1 p2 p3 p4 =>
   cases r2 with
   |tuple q1 q2 q3 q4 =>
    refine r42 ⟨_,p1,p2,_,p3⟩ ⟨_,q1,q2,_,q3⟩ ∅ ((c62 40).2 _ _ _ _ _ ?_ ⟨f1,_,p4⟩ ⟨f2,_,q4⟩ (w51 _ _) ∅) hC
    have:∀ l:List Nat,e70 (l.map λ(i:Nat)=>.int i)=0:=λl=>by
     induction l with
     |nil=>rfl|cons x r ih=>show Ï3 0 _=0;rw[ih];rfl
    rw[this];decide
end
section
variable {X:Cx}
theorem d32{zA:Option Ç}{H:Hp}{k:Nat}{xs:List V}(hu:X.A.units + 64 < Ä5)(hd:HdA X.K H (i00 k) xs)(h8:k<=8):Z61 X H xs (λp=>p=TS.sN k):=by
 intro pins σ s us I rv;have ci:∀ l:List Nat,e10 (l.map λ(i:Nat)=>.int i)=true/\X30 (l.map λ(i:Nat)=>.int i) (l.map λ(i:Nat)=>.int i)=true:=λl=>by
  induction l with
  |nil=>exact⟨rfl,rfl⟩|cons x r ih=>exact⟨ih.1,by show((x:Int) == (x:Int)&&_)=true;rw[ih.2];simp⟩
 have cl:∀ l:List Nat,e10 (l.map (c30 k))=true/\X30 (l.map (c30 k)) (l.map (c30 k))=true:=λl=>by
  induction l with
  |nil=>exact⟨rfl,rfl⟩
  |cons x r ih =>
   refine⟨?_,?_⟩
   ·show(e10 _&&_)=true;rw[(ci _).1,ih.1];rfl
   ·show(X30 _ _&&_)=true;rw[(ci _).2,ih.2];rfl
 obtain⟨as,ra⟩:=E40 I hd rv (cl _).1;exact⟨Ù6,λh' kp=>r52 h8 ⟨(cl _).1,_,o90 kp _ (cl _).2 ra⟩ (by show X.A.units + 1 + 1 + 40 < Ä5;omega)⟩
theorem d42{zA:Option Ç}{H:Hp}{l:List D}{xs:List V}(hu:X.A.units + 64 < Ä5)(hd:HdA X.K H l xs)(h64:l.length < 64)(ok:n70 l=true):Z61 X H xs (MySort.sortedBy (l.map flt)):=by
 intro pins σ s us I rv
 replace h64:us.length < 64:=by rw[← rv.length,hd.length];exact h64
 have all:∀ x∈l,v01 x < 3/\okD x=true/\∀ y∈l,j30 x y=true:=λx hx=>by
  have:=Ú.mp ok x hx;rw[Á,Á,decide_eq_true_eq,Ä6] at this;exact⟨this.1,this.2.1,this.2.2⟩
 have hf:e10 l=true:=by
  clear hd
  induction l with
  |nil=>rfl
  |cons x r ih =>
   have h1:=(o70 (all x Ì).2.1).1;show(n60 x&&e10 r)=true;rw[h1];have ok':n70 r=true:=Ú.mpr λy hy=>by
    obtain⟨a,b,c⟩:=all y (Ë _ hy);rw[Á,Á,decide_eq_true_eq,Ä6];exact⟨a,b,λz hz=>c z (Ë _ hz)⟩
   exact ih ok' λy hy=>⟨(all y (Ë _ hy)).1,(all y (Ë _ hy)).2.1,λz hz=>(all y (Ë _ hy)).2.2 z (Ë _ hz)⟩
 obtain⟨as,ra⟩:=E40 I hd rv hf;have pure:X30 l l=true:=by
  clear hd ra hf ok;have:∀ q:List D,(∀ x∈q,eqT x x=true)->X30 q q=true:=λq=>by
   induction q with
   |nil=>intro _;rfl|cons x r ih=>intro h;show(eqT x x&&X30 r r)=true;rw[h x Ì,ih λy hy=>h y (Ë _ hy)];rfl
  refine this l λx hx=>?_;have h:=(all x hx).2.2 x hx;unfold j30 at h;rw[Á,Á,Å9] at h;rcases h.2.2 with k | k
  ·exact k
  ·simp at k
 cases l with
 |nil=>exact⟨kdOf 0,λh' kp=>w41 h64 ⟨hf,_,o90 kp _ pure ra⟩ (by show X.A.units + 1 + 1 + 40 < Ä5;omega) 1e1 (λx hx=>absurd hx (by simp)) (λx hx=>absurd hx (by simp)) λx hx=>absurd hx (by simp)⟩
 |cons x r =>
  have hx:=all x Ì;exact⟨kdOf (v01 x),λh' kp=>w41 h64 ⟨hf,_,o90 kp _ pure ra⟩ (by show X.A.units + 1 + 1 + 40 < Ä5;omega) hx.1 (λy hy=>(Z50 (hx.2.2 y hy)).1) (λy hy=>(all y hy).2.1) λy hy=>(all y hy).2.2⟩
theorem w61(hu:X.A.units + 64 < Ä5):g10 X (.builtin "sorted") (rDn X.K (bfD .sorted)):=by
 intro pins s σ H xs us Q I r h;obtain⟨zA,z,ds,w,st,hx,e,q⟩:=h
 match ds,e with
 |[x],e =>
  have e:sortedS x=some w:=e;unfold sortedS at e;obtain⟨l,h1,e⟩:=Í.mp e;obtain⟨v,rfl,hv⟩:=hx.one;have go:∀ (a:Ç) (ys:List V),v=.ref a->(SqL X.K H a ys\/SqT X.K H a ys)->HdA X.K (hz zA H) l ys->Ñ (Ø X.prog X.w) X.A (call (.builtin "sorted") us) (EP X pins σ Q) X.xe s:=λa ys hva hq hd=>by
   subst hva;by_cases c:l.length < 64/\n70 l=true
   ·rw[if_pos c] at e;cases e;obtain⟨h64,ok⟩:=c;refine y80 pins s σ H _ us Q I r ⟨a,ys,MySort.sortedBy (l.map flt),rfl,hq,d42 (zA:=zA) hu (hd.same (a10 zA H)) h64 ok,λp hp i hi=>by have:=hp.1.mem_iff.mp hi;rw[hd.length];simpa using this,λp lA hp hn=>?_⟩
    have hd2:=hd.pick (p:=p) λi hi=>by have:=hp.1.mem_iff.mp hi;simpa using this
    rw[c92 (λx hx y hy=>?_) hp] at hd2
    ·exact q _ _ (a20.new _ hn) (l90 st hd2 hn)
    ·have:=Ú.mp ok x hx;rw[Á,Á,Ä6] at this;exact(Z50 (this.2.2 y hy)).2.2
   ·rw[if_neg c] at e;obtain⟨l',e1,rfl⟩:=É.mp e;obtain⟨k,e2,rfl⟩:=É.mp e1;have e3:=Z20 _ _ (List.find?_some (p:=λk=>X30 l (i00 k)) e2);have k8:k<=8:=by have:=List.mem_of_find?_eq_some e2;simp at this;omega
    subst e3;refine y80 pins s σ H _ us Q I r ⟨a,ys,λp=>p=TS.sN k,rfl,hq,d32 (zA:=zA) hu (hd.same (a10 zA H)) k8,λp hp i hi=>?_,λp lA hp hn=>?_⟩
    ·subst hp;rw[hd.length,i00,È,û];exact d12 k8 i hi
    ·subst hp;have hd2:=hd.pick (p:=TS.sN k) λi hi=>by rw[i00,È,û];exact d12 k8 i hi
     rw[r32 k8] at hd2;exact q _ _ (a20.new _ hn) (l90 st hd2 hn)
  cases x with
  |tup m =>
   cases h1;obtain⟨a,ys,rfl,k1,k2⟩:=hv.B00;exact go a ys rfl (.inr ((a10 zA H).sqT k1)) k2
  |lst m =>
   cases h1;obtain⟨a,ys,rfl,k1,k2⟩:=hv.X50;exact go a ys rfl (.inl (k1.same (a10 zA H)).sq) k2
  |_=>cases h1
end
end Q
namespace SS
open PySem PySem.W PyProof.Rows MySort
def key:Ä->Int
 |.int i _=>i|_=>0
def M51(m:Nat):(bts m).Pairwise (· < ·):=Ë2 _ È8
def m51:∀ a:Nat,a < 8->∀ b:Nat,b < 8->Q.j30 (.int a) (.int b)=true:=1e1
section
variable {P:à}{w:í}{A:ó}{E:Ä->Æ->Prop}{s:Æ}{S ep m:Nat}{g:Nat->Tok}{o:Obj}
def m61(w:í)(S ep:Nat)(g:Nat->Tok)(m:Nat):List Value:=(ord w S ep (ent g m)).toList.map (·.2)
def d52(w:í)(S ep:Nat)(g:Nat->Tok)(m:Nat):List L2.D:=(m61 w S ep g m).map λv=>.int (key v)
theorem Z60:(m61 w S ep g m).Perm ((bts m).map λ(i:Nat)=>Æ2 i (g i)):=by
 have:=(e81 w S ep (ent g m)).map (·.2);unfold ent at this;rw[Ã8] at this;exact this
theorem T21(h:v∈m61 w S ep g m):∃ i,i < 8/\v=.int (i:Nat) (g i):=by
 obtain⟨i,hi,rfl⟩:=Ò.mp (Z60.mem_iff.mp h);exact⟨i,(D70.mp hi).1,rfl⟩
theorem T60(h:ê):∀ vs:List Ä,(∀ v∈vs,∃ (i:Nat) (t:Tok),v=.int i t)->Q.e80 h vs (vs.map λv=>.int (key v))
 |[],_=>⟨rfl,[],.nil⟩
 |v::r,k=>by
  obtain⟨i,t,rfl⟩:=k v Ì;obtain⟨h1,as,h2⟩:=T60 h r λv hv=>k v (Ë _ hv);exact⟨h1,_,.cons (.int _ _) h2⟩
theorem M61(hp:sortedBy ((d52 w S ep g m).map Q.flt) p):(p.map λi=>(m61 w S ep g m).getD i ä)=(bts m).map λ(i:Nat)=>Æ2 i (g i):=by
 obtain⟨h1,h2⟩:=hp;have len:((d52 w S ep g m).map Q.flt).length=(m61 w S ep g m).length:=by unfold d52;simp
 rw[len] at h1;have h3:(p.map λi=>(m61 w S ep g m).getD i ä).Perm ((bts m).map λ(i:Nat)=>Æ2 i (g i)):=by
  refine List.Perm.trans (h1.map _) ?_;rw[MySort.range_getD];exact Z60
 refine É1 (le:=λu v=>key u<=key v) (λu v hu hv l1 l2=>?_) ?_ ?_ h3
 ·obtain⟨i,hi,rfl⟩:=Ò.mp (h3.mem_iff.mp hu);obtain⟨j,hj,rfl⟩:=Ò.mp hv;have l1:(i:Int)<=j:=l1;have l2:(j:Int)<=i:=l2;have:i=j:=∅
  rw[this]
 ·have e:(p.map λi=>((d52 w S ep g m).map Q.flt).getD i [])=(p.map λi=>(m61 w S ep g m).getD i ä).map λv=>[key v]:=by
   rw[Ã8];refine Ç0 λi hi=>?_;have hi:i < (m61 w S ep g m).length:=by simpa using h1.mem_iff.mp hi
   unfold d52;simp[hi,Q.flt]
  rw[e,Ú6] at h2;refine h2.imp λ{u v} h=>?_;have:h90 [key v] [key u]=false:=h;simp[h90] at this;omega
 ·rw[Ú6];exact(M51 m).imp λ{a b} h=>by show(a:Int)<=b;omega
theorem m71{R:Ä->Æ->Prop}(hh:A.handled=none)(hu:A.units + 64 < Ä5)(hm:m < 256)(ho:s.heap.get? S=some o)(hx:o.ExactSet)(hd:o.data=.set (ent g m) ep (tbl (led w) m))
 (h:∀ lA h' tk c,s.heap.objs.size<=lA->(∀ b u,s.heap.get? b=some u->h'.get? b=some u)->h'.get? lA=some (Ã4 "list" ((bts m).map λ(i:Nat)=>Æ2 i (g i)).toArray c)->R (.ref lA) { s with heap:=h',toks:=tk }):Ñ (Ø P w) A (call (.builtin "sorted") [.ref S]) R E s:=by
 have h64:(m61 w S ep g m).length<=8:=by
  rw[Z60.length_eq,È];exact Ó (Â0 _ _) (by simp)
 refine Þ9 kind_sorted plain_sorted entry_sorted (args_sorted1 _) ?_;unfold ÿ.«sorted»;refine À (m:=checkCount "sorted" 1 1 _) (Å ?_);refine À (Y80 (by simp[hh]) hm ho hx hd λh1 tk lS kp1=>?_)
 refine À (Û8 ?_ (by show(m61 w S ep g m).length<=_;rw[Á1];omega))
 have hoL:(h1.push (Ã4 "list" (m61 w S ep g m).toArray 0)).get? h1.objs.size=some (Ã4 "list" (m61 w S ep g m).toArray 0):=Ê _ rfl;have kw:∀ h',j52 P w A.in1.in1 { s with heap:=h',toks:=tk } (m61 w S ep g m) (sortedBy ((d52 w S ep g m).map Q.flt)) (Q.kdOf 0):=λh'=>by
  have dm:∀ d∈d52 w S ep g m,∃ i:Nat,i < 8/\d=.int i:=λd hd=>by
   obtain⟨v,hv,rfl⟩:=Ò.mp hd;obtain⟨i,hi,rfl⟩:=T21 hv;exact⟨i,hi,rfl⟩
  letI:Q.Tb:=⟨[]⟩
  refine Q.w41 ∅ (T60 h' _ λv hv=>by obtain⟨i,_,rfl⟩:=T21 hv;exact⟨i,_,rfl⟩) (by show A.units + 1 + 1 + 40 < Ä5;omega) 1e1 (λd hd=>?_) (λd hd=>?_) λd hd e he=>?_
  ·obtain⟨i,_,rfl⟩:=dm d hd;rfl
  ·obtain⟨i,_,rfl⟩:=dm d hd;rfl
  ·obtain⟨i,hi,rfl⟩:=dm d hd;obtain⟨j,hj,rfl⟩:=dm e he;exact m51 i hi j hj
 refine À (À6 (À2 slot_list_sort ⟨_,hoL,rfl⟩ entry_list_sort (e11 hoL (λh' _=>kw h') λp h' c hp kp hD=>⟨_,rfl,Å ⟨_,rfl,?_⟩⟩) (args_list_sort _)));rw[M61 hp] at hD;exact h _ h' tk c (Ç5 lS) (λb u e=>kp b u (Õ (Þ (kp1 b u e))) (Ã _ (kp1 b u e))) hD
end
end SS
namespace Q
open PySem L2 PySem.Spec PyProof.Rows
variable [TB:Tb]
structure Gs where
 fns:List (Str × List Str)
 nums:List (Str × Int)
 F:FT
 cls:Nat->Addr
 lv:Nat
def EPost(G:Gs)(zA:Option Ç)(E:XK)(c:Nat)(z:Z)(H:Hp):Prop:=∀ e H',Ext zA H H'->c90 zA z H'->H' e=none->E (.ref (G.cls c)) (some e) H'
def EPost.mono(h:EPost G zA E c z H)(e:Ext zA H H1):EPost G zA E c z H1:=λa H' x s n=>h a H' (e.trans x) s n
def F52(K:Â)(G:Gs)(zA:Option Ç)(E:XK)(H:Hp)(Q:VK):R S->Prop
 |.ok s z'=>∀ v H',Ext zA H H'->c90 zA z' H'->RvS K zA H H' s v->Q v H'|.er c z'=>EPost G zA E c z' H
def Z70(K:Â)(G:Gs)(zA:Option Ç)(E:XK)(H:Hp)(Q:VK):R (List S)->Prop
 |.ok l z'=>∃ s,l=[s]/\∀ v H',Ext zA H H'->c90 zA z' H'->RvS K zA H H' s v->Q v H'|.er c z'=>EPost G zA E c z' H
def F62(K:Â)(G:Gs)(zA:Option Ç)(E:XK)(H:Hp)(Q:List V->Hp->Prop):R (List S)->Prop
 |.ok l z'=>∀ vs H',Ext zA H H'->c90 zA z' H'->À5 (RvS K zA H H') l vs->Q vs H'|.er c z'=>EPost G zA E c z' H
def M71(G:Gs)(zA:Option Ç)(E:XK)(H:Hp)(Q:Bool->Hp->Prop):R (List S)->Prop
 |.ok l z'=>∃ b,l=[.d (.bl b)]/\∀ H',Ext zA H H'->c90 zA z' H'->Q b H'|.er c z'=>EPost G zA E c z' H
def x20(K:Â)(zA:Option Ç)(H:Hp)(ρ:Env)(σ:L2.St):Prop:=∀ (i:Nat) (s:S),ρ[i]?=some (some s)->∃ v,σ[i]?=some (some v)/\RvP K zA H s v
def x20.mono{K:Â}{zA:Option Ç}{H H':Hp}{ρ:Env}{σ:L2.St}(h:x20 K zA H ρ σ)(e:Ext zA H H'):x20 K zA H' ρ σ:=λi s q=>let ⟨v,a,b⟩:=h i s q;⟨v,a,b.mono e⟩
def tI(K:Â)(G:Gs)(E:XK)(x:Ex):TE:=λσ H Q=>∃ zA ρ z r,x20 K zA H ρ σ/\c90 zA z H/\ev G.F x ρ z=some r/\Z70 K G zA E H Q r
def tA(K:Â)(G:Gs)(E:XK)(x:Ex):TA:=λσ H Q=>∃ zA ρ z r,x20 K zA H ρ σ/\c90 zA z H/\ev G.F x ρ z=some r/\F62 K G zA E H Q r
def tT(K:Â)(G:Gs)(E:XK)(x:Ex):TT:=λσ H Q=>∃ zA ρ z r,x20 K zA H ρ σ/\c90 zA z H/\ev G.F x ρ z=some r/\M71 G zA E H Q r
def spF(K:Â)(G:Gs)(f n:Nat):Sp:=λvs H Q E=>vs.length=n/\∃ zA z ss r,RvA K zA H ss vs/\c90 zA z H/\G.F false f ss z=some r/\F52 K G zA E H Q r
section
variable {K:Â}{G:Gs}{E:XK}{a x:Ex}{ρ:Env}{z:Z}{zA:Option Ç}{σ:L2.St}{H:Hp}
theorem i20{α:Type}{k:List S->M α}{r:R α}{Q':VK}(rel:x20 K zA H ρ σ)(st:c90 zA z H)(h:M.bind (ev G.F a ρ) k z=some r)(her:∀ c z1,r=.er c z1->EPost G zA E c z1 H)
 (hok:∀ l z1,k l z1=some r->∃ s,l=[s]/\∀ v H1,Ext zA H H1->c90 zA z1 H1->RvS K zA H H1 s v->Q' v H1):tI K G E a σ H Q':=by
 rcases M.bind_some h with ⟨l,z1,e1,e2⟩ | ⟨c,z1,e1,e2⟩
 ·exact⟨zA,ρ,z,_,rel,st,e1,hok l z1 e2⟩
 ·exact⟨zA,ρ,z,_,rel,st,e1,her c z1 e2⟩
theorem T70{α:Type}{k:List S->M α}{r:R α}{Q':List V->Hp->Prop}(rel:x20 K zA H ρ σ)(st:c90 zA z H)(h:M.bind (ev G.F a ρ) k z=some r)(her:∀ c z1,r=.er c z1->EPost G zA E c z1 H)
 (hok:∀ l z1,k l z1=some r->∀ vs H1,Ext zA H H1->c90 zA z1 H1->À5 (RvS K zA H H1) l vs->Q' vs H1):tA K G E a σ H Q':=by
 rcases M.bind_some h with ⟨l,z1,e1,e2⟩ | ⟨c,z1,e1,e2⟩
 ·exact⟨zA,ρ,z,_,rel,st,e1,hok l z1 e2⟩
 ·exact⟨zA,ρ,z,_,rel,st,e1,her c z1 e2⟩
theorem T80{α:Type}{k:Bool->M α}{r:R α}{Q':Bool->Hp->Prop}(rel:x20 K zA H ρ σ)(st:c90 zA z H)(h:M.bind (ev G.F a ρ) (λx=>M.bind (M.of ((pl x).bind asB)) k) z=some r)(her:∀ c z1,r=.er c z1->EPost G zA E c z1 H)
  (hok:∀ b z1,k b z1=some r->∀ H1,Ext zA H H1->c90 zA z1 H1->Q' b H1):tT K G E a σ H Q':=by
 rcases M.bind_some h with ⟨l,z1,e1,e2⟩ | ⟨c,z1,e1,e2⟩
 ·obtain⟨b,e3,e4⟩:=M.a30 e2;obtain⟨d,e5,e6⟩:=Í.mp e3;have el:l=[.d (.bl b)]:=by
   obtain⟨s,rfl,hs⟩:=f20 e5;cases s with
   |d y=>cases hs;cases d <;> first | (cases e6;rfl) | cases e6
   |fr ys=>cases hs;cases e6
   |_=>cases hs
  exact⟨zA,ρ,z,_,rel,st,e1,b,el,hok b z1 e4⟩
 ·exact⟨zA,ρ,z,_,rel,st,e1,her c z1 e2⟩
theorem E80{l:List S}{s:S}(h:one l=some s):l=[s]:=by
 unfold one at h;split at h
 ·cases h;rfl
 ·cases h
end
def PE.imp(h:PE X e t)(i:∀ σ H Q,t' σ H Q->t σ H Q):PE X e t':=λpins s σ H Q I q=>h pins s σ H Q I (i _ _ _ q)
def PT.imp(h:PT X e t)(i:∀ σ H Q,t' σ H Q->t σ H Q):PT X e t':=λpins s σ H Q I q=>h pins s σ H Q I (i _ _ _ q)
def PW.imp(h:PW X e t)(i:∀ σ H Q,t' σ H Q->t σ H Q):PW X e t':=λw pins s σ H Q I q=>h w pins s σ H Q I (i _ _ _ q)
def PA.imp(h:PA X e t)(i:∀ σ H Q,t' σ H Q->t σ H Q):PA X e t':=λp pins s σ H Q I q=>h p pins s σ H Q I (i _ _ _ q)
def noStar:Ð->Bool
 |.Starred ..=>false|_=>true
theorem d10(h:noStar e=true)(es:List Ð)(env:Ç8):ý (e::es) env=(false,eval e env)::ý es env:=by
 cases e <;> first | rfl | cases h
theorem q80:∀ {es:List Ð} (env:Ç8) (pos:Pos),es.all noStar=true->(Õ9 pos (ý es env)).any (·.1)=false
 |[],_,_,_=>rfl
 |e::es,env,pos,h=>by
  rw[Å4,Á] at h;rw[d10 h.1];show(false || (Õ9 pos (ý es env)).any (·.1))=false;rw[q80 env pos h.2];rfl
def plainT:Ð->Bool
 |.UnaryOp .Not _ _=>false|.BoolOp ..=>false|.IfExp ..=>false|.Compare ..=>false|_=>true
theorem w71(h:plainT e=true)(env:Ç8)(whole:Sem Ä):isTrue e env whole=(do let v ← whole;standAt e.pos;Ý6 [v] (truthy v)):=by
 cases e with
 |UnaryOp op _ _=>cases op <;> first | rfl | cases h
 |BoolOp _ _ _=>cases h
 |IfExp _ _ _ _=>cases h
 |Compare _ _ _ _=>cases h
 |_=>rfl
def Z80:Ð->Bool
 |.Slice ..=>false|_=>true
theorem H90(h:Z80 e=true):q91 e:=λo i=>by
 cases e with
 |Slice _ _ _ _=>cases h
 |_=>rfl
def p00:Ð->Bool
 |.Set ..=>false|_=>true
theorem T90(h:p00 e=true)(op:CmpOp):behindInMarks op e=false:=by
 cases e with
 |Set _ _ _=>cases h
 |_=>rfl
structure b00(X:Cx)(G:Gs)(E:XK)(x:Ex)(e:Expr):Prop where
 pe:PE X e (tI X.K G E x)
 pt:(∀ t a b p,e≠.IfExp t a b p)->PT X e (tT X.K G E x)
 pw:∀ op vs p,e=.BoolOp op vs p->PW X e (tT X.K G E x)
theorem b10(h:PE X e (tI X.K G E x))(hp:plainT e=true):b00 X G E x e:=by
 refine⟨h,λ_=>PT.imp (c91 h (w71 hp X.env)) λσ H Q q=>?_,λop vs p he=>?_⟩
 ·obtain⟨zA,ρ,z,r,rel,st,e,po⟩:=q;refine⟨zA,ρ,z,r,rel,st,e,?_⟩;cases r with
  |er c z1=>exact po
  |ok l z1 =>
   obtain⟨b,rfl,po⟩:=po;exact⟨_,rfl,λv H' ex st' rv=>⟨b,Hd.bl_ (show Hd X.K (hz zA H') (.bl b) v from rv),po H' ex st'⟩⟩
 ·subst he;cases hp
def isL:Ex->Bool
 |.nil=>true|.cons _ _=>true|_=>false
def Good(X:Cx)(G:Gs)(E:XK):Ex->List Ð->Prop
 |.nil,es=>es=[]|.cons a r,es=>∃ e es',es=e::es'/\noStar e=true/\b00 X G E a e/\isL r=true/\Good X G E r es'|x,es=>∃ e,es=[e]/\b00 X G E x e
theorem Good.args:∀ {x:Ex}{es:List Ð},isL x=true->Good X G E x es->PA X es (tA X.K G E x)/\es.all noStar=true:=by
 intro x
 induction x with
 |nil =>
  intro es _ h;have h:es=[]:=h;subst h;refine⟨PA.imp o30 λσ H Q q=>?_,rfl⟩;obtain⟨zA,ρ,z,r,rel,st,e,po⟩:=q;cases e;exact po [] H Ext.refl st .nil
 |cons a r _ ih =>
  intro es _ h;obtain⟨e,es',rfl,ns,g,lr,gr⟩:=h;obtain⟨h1,h2⟩:=ih lr gr;refine⟨PA.imp (e00 g.pe h1 (d10 ns es' X.env)) λσ H Q q=>?_,by rw[Å4,ns,h2];rfl⟩
  obtain⟨zA,ρ,z,rr,rel,st,e,po⟩:=q;have her:∀ c z1,rr=.er c z1->EPost G zA E c z1 H:=λc z1 e=>by subst e;exact po
  refine i20 rel st e her λl z1 e1=>?_;obtain⟨s,hs,e2⟩:=M.a30 e1;refine⟨s,E80 hs,λv H1 x1 st1 rv=>?_⟩;refine T70 (rel.mono x1) st1 e2 (λc z2 q=>(her c z2 q).mono x1) λl2 z2 e3 vs H2 x2 st2 rvs=>?_;cases e3;exact po (v::vs) H2 (x1.trans x2) st2 (.cons (rv.mono x2) (À5.R11 rvs λ_ _ q=>q.from x1))
 |_=>intro es h;cases h
def d62:List Str:=["len","sorted","tuple","list","sum","min","max","abs","all","any","int","bool","str","isinstance","range","zip","enumerate","set"]
def lowG(G:Gs)(k:Nat):Gs:={ G with F:=E10 G.F,lv:=k }
structure E90(X:Cx)(G:Gs)(sc:Scope)(c P:Addr)(q:Str)(k:Nat)(fR:Addr)(fdR:FuncData):Prop where
 sco:X.env.scope=sc
 code:X.env.code=.ref c
 hd:PySem.W.codeHdIn X.K c P=true
 qual:X.env.qual++"<lambda>"=q
 tb:(P,q)∈TB.tb
 uq:∀ p∈TB.tb,p.1=P->p.2=q
 bm:BMain X.mg X.base
 lv:G.lv=k + 2
 cls:∀ j,j < 12->S40 X.K X.mg (G.cls j) j
 m:X.mg "_law_refused"=some (.ref fR)
 kp:PySem.W.keepIn X.K (.ref fR)=true
 bd:Binds X.K fdR ["_law_call"] []
 fn:Y50 X.prog X.w X.K X.mg X.base CX0 (k + 2) fR fdR ["_law_call"] (a32 X.prog X.w X.K X.mg X.base (k + 1))
 low:∀ f nm ps,G.fns[f]?=some (nm,ps)->∃ fa fd,X.mg nm=some (.ref fa)/\PySem.W.keepIn X.K (.ref fa)=true/\Binds X.K fd ps []/\X20 X.prog X.w X.K X.mg X.base (CX1 X.prog X.w) k fa fd ps (spF X.K (lowG G k) f ps.length)
def F72(X:Cx)(G:Gs)(sc:ë):Prop:=∃ c P q k fR fdR,E90 X G sc c P q k fR fdR
structure XI(lm:Bool)(X:Cx)(G:Gs)(E:XK)(N:List Str)(sc:Scope):Prop where
 gok:∀ f nm ps,G.fns[f]?=some (nm,ps)->∃ fa fd,X.mg nm=some (.ref fa)/\PySem.W.keepIn X.K (.ref fa)=true/\Binds X.K fd ps []/\X20 X.prog X.w X.K X.mg X.base (CX1 X.prog X.w) G.lv fa fd ps (spF X.K G f ps.length)
 num:∀ p∈G.nums,∃ t,X.mg p.1=some (.int p.2 t)
 blt:∀ n∈d62,X.mg n=none
 hN:X.N=N
 nd:N.Nodup
 vis:∀ x∈N,Vis X.env.scope x
 glb:∀ x,sc.names.lookup x=some .globalImplicit->Gl X x
 cel:∀ x,(sc.names.lookup x=some .cell\/sc.names.lookup x=some .free)->(X.env.kindOf x=some .cell\/X.env.kindOf x=some .free)
 calm:X.calm=true
 room:w40 G.lv X.A
 pas:Passes (CX1 X.prog X.w) X E
 lam:lm=true->F72 X G sc
def glob(sc:ë)(x:Str):Bool:=sc.names.lookup x == some .globalImplicit&&!(x == ("__debug__":Str))&&!(x == ("__name__":Str))
def b30(x:Str):Bool:=!(x == ("__debug__":Str))&&!(x == ("__classdict__":Str))
def r62:Const->D->Bool
 |.int i,.int j=>i == j|.bool a,.bl b=>a == b|.str x,.str y=>x == y|.none,.non=>true|_,_=>false
def bfN:Bf->Str × Bool
 |.len=>("len",false) | .sorted=>("sorted",false) | .tuple=>("tuple",true) | .list=>("list",true) | .min=>("min",false) | .max=>("max",false)|.all=>("all",false) | .any=>("any",false) | .int=>("int",true) | .sset=>("sorted",false) | .D52=>("len",false)
def served:Bf->Bool
 |.len | .tuple | .list | .min | .max | .all | .any | .int | .sorted=>true|_=>false
mutual
noncomputable def i30(N:List Str)(loc:Str->Bool):Pat->Ð->Bool
 |.v i=>λe=>match e with
  |.Name x _=>N[i]? == some x&&loc x|_=>false
 |.tup ps=>λe=>match e with
  |.Tuple es _ _=>m81 N loc ps es|_=>false
 |.nil=>λ_=>false|.cons _ _=>λ_=>false
noncomputable def m81(N:List Str)(loc:Str->Bool):Pat->List Ð->Bool
 |.nil=>λes=>es.isEmpty
 |.cons p r=>λes=>match es with
  |e::es=>noStar e&&i30 N loc p e&&m81 N loc r es|[]=>false
 |.v _=>λ_=>false|.tup _=>λ_=>false
end
def u80:Ð->Bool
 |.Tuple ..=>true|_=>false
def d50:Ð->List Str
 |.Name x _=>[x]|.Tuple es _ _=>names es|_=>[]
where names:List Ð->List Str
 |[]=>[]|.Name x _::r=>x::names r|.Tuple [.Name a _,.Name b _] _ _::r=>a::b::names r|_::r=>names r
def I00(csc sc:ë)(N own:List Str)(capt:List (Str × Nat)):Bool:=
 csc.kind == .function&&csc.names.all (λy=>y.2 != .cell)&&csc.names.all (λy=>y.2 != .local || csc.names.lookup y.1 == some .local) &&
  csc.names.all (λy=>y.2 != .free || (sc.names.lookup y.1 == some .cell || sc.names.lookup y.1 == some .free))&&capt.all (λp=>N[p.2]? == some p.1&&csc.names.lookup p.1 == some .free) &&
  own.all (λx=>csc.names.lookup x == some .local)&&decide (own++capt.map (·.1)).Nodup
def b60(N:List Str):List Nat->List (Str × Nat)
 |[]=>[]
 |i::r=>match N[i]? with
  |some x=>(x,i)::b60 N r|none=>b60 N r
def opt{α:Type}(o:Option α)(f:α->Bool):Bool:=match o with
 |some a=>f a|none=>false
theorem a60{α:Type}{o:Option α}{f:α->Bool}(h:opt o f=true):∃ a,o=some a/\f a=true:=by
 cases o with
 |none=>cases h
 |some a=>exact⟨a,rfl,h⟩
def O12:(e:List Ð)->Option {q:Str × Pos // e=[.Name q.1 q.2]}
 |[.Name n p]=>some ⟨(n,p),rfl⟩|_=>none
def F82:(e:List Ð)->Option {q:Const × Nat × Pos // e=[.Constant q.1 q.2.1 q.2.2]}
 |[.Constant c k p]=>some ⟨(c,k,p),rfl⟩|_=>none
def F92:(e:List Ð)->Option {q:Pos // e=[.Dict [] [] q]}
 |[.Dict [] [] p]=>some ⟨p,rfl⟩|_=>none
def G02:(e:List Ð)->Option {q:List Ð × Nat × Pos // e=[.Tuple q.1 q.2.1 q.2.2]}
 |[.Tuple l k p]=>some ⟨(l,k,p),rfl⟩|_=>none
def G12:(e:List Ð)->Option {q:List Ð × Pos // e=[.List q.1 q.2]}
 |[.List l p]=>some ⟨(l,p),rfl⟩|_=>none
def G22:(e:List Ð)->Option {q:Ð × Operator × Ð × Pos // e=[.BinOp q.1 q.2.1 q.2.2.1 q.2.2.2]}
 |[.BinOp l o r p]=>some ⟨(l,o,r,p),rfl⟩|_=>none
def G32:(e:List Ð)->Option {q:Ð × CmpOp × Ð × Pos // e=[.Compare q.1 [q.2.1] [q.2.2.1] q.2.2.2]}
 |[.Compare l [o] [r] p]=>some ⟨(l,o,r,p),rfl⟩|_=>none
def V02:(e:List Ð)->Option {q:Str × Pos × Nat × Pos × Pos × Ð × ë × Pos // e=[.DictComp (.Name q.1 q.2.1) (.Constant (.bool true) q.2.2.1 q.2.2.2.1) [⟨.Name q.1 q.2.2.2.2.1,q.2.2.2.2.2.1,[],0⟩] q.2.2.2.2.2.2.1 q.2.2.2.2.2.2.2]}
 |[.DictComp (.Name n p1) (.Constant (.bool true) k p2) [⟨.Name m px,iter,[],0⟩] sc ps]=>if h:m=n then some ⟨(n,p1,k,p2,px,iter,sc,ps),by rw[h]⟩ else none|_=>none
def V12(o:Bool):(e:List Ð)->Option {q:Ð × Str × Pos × Pos // e=[.Compare q.1 [A52 o] [.Name q.2.1 q.2.2.1] q.2.2.2]}
 |[.Compare l [c] [.Name n p] pos]=>if h:c=A52 o then some ⟨(l,n,p,pos),by rw[h]⟩ else none|_=>none
def G42:(e:List Ð)->Option {q:Ð × Pos // e=[.UnaryOp .USub q.1 q.2]}
 |[.UnaryOp .USub x p]=>some ⟨(x,p),rfl⟩|_=>none
def G52:(e:List Ð)->Option {q:Ð × Pos // e=[.UnaryOp .Not q.1 q.2]}
 |[.UnaryOp .Not x p]=>some ⟨(x,p),rfl⟩|_=>none
def G62:(e:List Ð)->Option {q:Ð × Ð × List Ð × Pos // e=[.BoolOp .And (q.1::q.2.1::q.2.2.1) q.2.2.2]}
 |[.BoolOp .And (l::r::v) p]=>some ⟨(l,r,v,p),rfl⟩|_=>none
def O22:(e:List Ð)->Option {q:Ð × Ð × List Ð × Pos // e=[.BoolOp .Or (q.1::q.2.1::q.2.2.1) q.2.2.2]}
 |[.BoolOp .Or (l::r::v) p]=>some ⟨(l,r,v,p),rfl⟩|_=>none
def G72:(e:List Ð)->Option {q:Ð × Ð × Ð × Pos // e=[.IfExp q.1 q.2.1 q.2.2.1 q.2.2.2]}
 |[.IfExp t x y p]=>some ⟨(t,x,y,p),rfl⟩|_=>none
def V22:(e:List Ð)->Option {q:Ð × CmpOp × CmpOp × Ð × Ð × Pos // e=[.Compare q.1 [q.2.1,q.2.2.1] [q.2.2.2.1,q.2.2.2.2.1] q.2.2.2.2.2]}
 |[.Compare l [o,o2] [r,s] p]=>some ⟨(l,o,o2,r,s,p),rfl⟩|_=>none
def O32:(e:List Ð)->Option {q:Str × Pos × Ð × List Ð × Pos // e=[.Call (.Name q.1 q.2.1) (q.2.2.1::q.2.2.2.1) [] q.2.2.2.2]}
 |[.Call (.Name n q1) (x::l) [] p]=>some ⟨(n,q1,x,l,p),rfl⟩|_=>none
def V32:(e:List Ð)->Option {q:Str × Pos × Str × Pos × Ð × Pos × Pos // e=[.Call (.Name q.1 q.2.1) [.Call (.Name q.2.2.1 q.2.2.2.1) [q.2.2.2.2.1] [] q.2.2.2.2.2.1] [] q.2.2.2.2.2.2]}
 |[.Call (.Name n p1) [.Call (.Name m p2) [x] [] p3] [] p4]=>some ⟨(n,p1,m,p2,x,p3,p4),rfl⟩|_=>none
def V42:Bf->Bool
 |.sset=>true|_=>false
def G82:(e:List Ð)->Option {q:Str × Pos × Ð × Ð × Pos // e=[.Call (.Name q.1 q.2.1) [q.2.2.1,q.2.2.2.1] [] q.2.2.2.2]}
 |[.Call (.Name n q1) [x,ty] [] p]=>some ⟨(n,q1,x,ty,p),rfl⟩|_=>none
def V52:(e:List Ð)->Option {q:Ð × Ð × Pos // e=[.Subscript q.1 q.2.1 q.2.2]}
 |[.Subscript v x p]=>some ⟨(v,x,p),rfl⟩|_=>none
def V62:(e:List Ð)->Option {q:Ð × Option Ð × Option Ð × Pos × Pos // e=[.Subscript q.1 (.Slice q.2.1 q.2.2.1 none q.2.2.2.1) q.2.2.2.2]}
 |[.Subscript v (.Slice l h none q1) p]=>some ⟨(v,l,h,q1,p),rfl⟩|_=>none
def G92:(e:List Ð)->Option {q:Ð × Nat × Pos × Pos × Pos × Pos // e=[.Subscript q.1 (.Slice none none (some (.UnaryOp .USub (.Constant (.int 1) q.2.1 q.2.2.1) q.2.2.2.1)) q.2.2.2.2.1) q.2.2.2.2.2]}
 |[.Subscript v (.Slice none none (some (.UnaryOp .USub (.Constant (.int 1) k q1) q2)) q3) p]=>some ⟨(v,k,q1,q2,q3,p),rfl⟩|_=>none
def r72:(e:List Ð)->Option {q:Ð × Ð × Ð × List Ð × ë × Pos // e=[.ListComp q.1 [⟨q.2.1,q.2.2.1,q.2.2.2.1,0⟩] q.2.2.2.2.1 q.2.2.2.2.2]}
 |[.ListComp elt [⟨tg,iter,ifs,0⟩] csc p]=>some ⟨(elt,tg,iter,ifs,csc,p),rfl⟩|_=>none
def H02:(e:Ð)->Option {q:Str × Pos × Ð × Pos // e=.Call (.Name q.1 q.2.1) [q.2.2.1] [] q.2.2.2}
 |.Call (.Name n q1) [a] [] p=>some ⟨(n,q1,a,p),rfl⟩|_=>none
def j72:(e:Ð)->Option {q:Str × Pos × Ð × Ð × Pos // e=.Call (.Name q.1 q.2.1) [q.2.2.1,q.2.2.2.1] [] q.2.2.2.2}
 |.Call (.Name n q1) [a,b] [] p=>some ⟨(n,q1,a,b,p),rfl⟩|_=>none
def shN:(e:Ð)->Option {q:Str × Pos // e=.Name q.1 q.2}
 |.Name n p=>some ⟨(n,p),rfl⟩|_=>none
def O42:(e:Ð)->Option {q:Str × Pos × Str × Pos × Nat × Pos // e=.Tuple [.Name q.1 q.2.1,.Name q.2.2.1 q.2.2.2.1] q.2.2.2.2.1 q.2.2.2.2.2}
 |.Tuple [.Name a q1,.Name b q2] k p=>some ⟨(a,q1,b,q2,k,p),rfl⟩|_=>none
def V72:(e:List Ð)->Option {q:Str × Pos × Int × Nat × Pos × Pos // e=[.Subscript (.Name q.1 q.2.1) (.Constant (.int q.2.2.1) q.2.2.2.1 q.2.2.2.2.1) q.2.2.2.2.2]}
 |[.Subscript (.Name n p) (.Constant (.int j) c q1) r]=>some ⟨(n,p,j,c,q1,r),rfl⟩|_=>none
def V82:(e:List Ð)->Option {q:Str × Pos × Str × Pos × List Ð × Pos × Pos // e=[.Call (.Name q.1 q.2.1) [.Call (.Name q.2.2.1 q.2.2.2.1) q.2.2.2.2.1 [] q.2.2.2.2.2.1] [] q.2.2.2.2.2.2]}
 |[.Call (.Name n p) [.Call (.Name m q1) l [] r] [] t]=>some ⟨(n,p,m,q1,l,r,t),rfl⟩|_=>none
def tyE(sc:ë):Ty->Ð->Bool
 |.seq=>λe=>opt (O42 e) λq=>q.1.1 == ("tuple":Str)&&q.1.2.2.1 == ("list":Str)&&glob sc "tuple"&&glob sc "list"|t=>λe=>opt (shN e) λq=>q.1.1 == À8 (tyN t)&&glob sc (À8 (tyN t))
def r82:D->Bool
 |.dct=>true|_=>false
def ifB:Ð->Bool
 |.IfExp ..=>true|_=>false
def w81(lsc sc:ë)(cs:List (Str × Nat)):Bool:=
 lsc.kind == .function&&!lsc.isCoroutine&&!lsc.isGenerator&&lsc.names.all (λy=>y.2 != .cell)&&lsc.names.all (λy=>y.2 != .free || sc.names.lookup y.1 == some .cell)&&cs.all (λp=>lsc.names.lookup p.1 == some .free)&&decide (cs.map (·.1)).Nodup
def mt:Bool->List (Str × List Str)->List (Str × Int)->Ex->ë->List Str->List Ð->Bool
 |lm,fns,nums,.nil=>λ_ _ es=>es.isEmpty
 |lm,fns,nums,.cons a r=>λsc N es=>match es with
  |e::es=>noStar e&&!isL a&&isL r&&mt lm fns nums a sc N [e]&&mt lm fns nums r sc N es|[]=>false
 |lm,fns,nums,.var i=>λ_ N es=>opt (O12 es) λq=>N[i]? == some q.1.1&&b30 q.1.1|lm,fns,nums,.con d=>λ_ _ es=>(opt (F82 es) λq=>r62 q.1.1 d) || opt (F92 es) λ_=>r82 d|lm,fns,nums,.gint g i=>λsc _ es=>opt (O12 es) λq=>q.1.1 == g&&glob sc q.1.1&&nums.contains (g,i)|lm,fns,nums,.tup as=>λsc N es=>opt (G02 es) λq=>isL as&&mt lm fns nums as sc N q.1.1|lm,fns,nums,.lst as=>λsc N es=>opt (G12 es) λq=>isL as&&mt lm fns nums as sc N q.1.1|lm,fns,nums,.bin o a b=>λsc N es=>opt (G22 es) λq=>q.1.2.1 == opB o&&!isL a&&!isL b&&mt lm fns nums a sc N [q.1.1]&&mt lm fns nums b sc N [q.1.2.2.1]|lm,fns,nums,.cmp o a b=>λsc N es=>opt (G32 es) λq=>q.1.2.1 == opC o&&p00 q.1.2.2.1&&!isL a&&!isL b&&mt lm fns nums a sc N [q.1.1]&&mt lm fns nums b sc N [q.1.2.2.1]|lm,fns,nums,.neg a=>λsc N es=>opt (G42 es) λq=>!isL a&&mt lm fns nums a sc N [q.1.1]|lm,fns,nums,.not a=>λsc N es=>opt (G52 es) λq=>!isL a&&!ifB q.1.1&&mt lm fns nums a sc N [q.1.1]|lm,fns,nums,.and a b=>λsc N es=>opt (G62 es) λq=>!isL a&&!isL b&&!ifB q.1.1&&mt lm fns nums a sc N [q.1.1]&&(if q.1.2.2.1.isEmpty then !ifB q.1.2.1&&mt lm fns nums b sc N [q.1.2.1] else mt lm fns nums b sc N [.BoolOp .And (q.1.2.1::q.1.2.2.1) q.1.2.2.2])|lm,fns,nums,.or a b=>λsc N es=>opt (O22 es) λq=>!isL a&&!isL b&&!ifB q.1.1&&mt lm fns nums a sc N [q.1.1]&&(if q.1.2.2.1.isEmpty then !ifB q.1.2.1&&mt lm fns nums b sc N [q.1.2.1] else mt lm fns nums b sc N [.BoolOp .Or (q.1.2.1::q.1.2.2.1) q.1.2.2.2])|lm,fns,nums,.orT a b=>λsc N es=>opt (O22 es) λq=>!isL a&&!isL b&&q.1.2.2.1.isEmpty&&mt lm fns nums a sc N [q.1.1]&&mt lm fns nums b sc N [q.1.2.1]|lm,fns,nums,.ite c a b=>λsc N es=>opt (G72 es) λq=>!isL c&&!isL a&&!isL b&&!ifB q.1.1&&mt lm fns nums c sc N [q.1.1]&&mt lm fns nums a sc N [q.1.2.1]&&mt lm fns nums b sc N [q.1.2.2.1]|lm,fns,nums,.ch o o' a b c=>λsc N es=>opt (V22 es) λq=>q.1.2.1 == opC o&&q.1.2.2.1 == opC o'&&p00 q.1.2.2.2.2.1&&!isL a&&!isL b&&!isL c&&mt lm fns nums a sc N [q.1.1]&&mt lm fns nums b sc N [q.1.2.2.2.1]&&mt lm fns nums c sc N [q.1.2.2.2.2.1]|lm,fns,nums,.bf f as=>λsc N es=>(opt (O32 es) λq=>served f&&q.1.1 == (bfN f).1&&glob sc q.1.1&&isL as&&mt lm fns nums as sc N (q.1.2.2.1::q.1.2.2.2.1)) || (V42 f&&opt (V32 es) λq=>q.1.1 == ("sorted":Str)&&q.1.2.2.1 == ("set":Str)&&glob sc "sorted"&&glob sc "set"&&isL as&&mt lm fns nums as sc N [q.1.2.2.2.2.1])|lm,fns,nums,.isi t a=>λsc N es=>opt (G82 es) λq=>q.1.1 == ("isinstance":Str)&&glob sc q.1.1&&noStar q.1.2.2.1&&!isL a&&mt lm fns nums a sc N [q.1.2.2.1]&&tyE sc t q.1.2.2.2.1|lm,fns,nums,.idx a i=>λsc N es=>opt (V52 es) λq=>Z80 q.1.2.1&&!isL a&&!isL i&&mt lm fns nums a sc N [q.1.1]&&mt lm fns nums i sc N [q.1.2.1]|lm,fns,nums,.sl a lo hi=>λsc N es=>opt (V62 es) λq=>!isL a&&isL lo&&isL hi&&mt lm fns nums a sc N [q.1.1]&&mt lm fns nums lo sc N q.1.2.1.toList&&mt lm fns nums hi sc N q.1.2.2.1.toList|lm,fns,nums,.rev a=>λsc N es=>opt (G92 es) λq=>!isL a&&mt lm fns nums a sc N [q.1.1]|lm,fns,nums,.call f as=>λsc N es=>opt (O32 es) λq=>(opt fns[f]? λp=>p.1 == q.1.1&&p.2.length == q.1.2.2.2.1.length + 1)&&glob sc q.1.1&&isL as&&mt lm fns nums as sc N (q.1.2.2.1::q.1.2.2.2.1)
 |lm,fns,nums,.comp own capt p it src cond el=>λsc N es=>opt (r72 es) λq =>
   (d50 q.1.2.1).length == own&&(b60 N capt).length == capt.length&&I00 q.1.2.2.2.2.1 sc N (d50 q.1.2.1) (b60 N capt)&&i30 (d50 q.1.2.1++(b60 N capt).map (·.1)) (λx=>(d50 q.1.2.1).contains x) p q.1.2.1&&isL src&&!isL el&&isL cond&&q.1.2.2.2.1.length<=1&&noStar q.1.1&&p00 q.1.2.2.1 &&
    q.1.2.2.2.1.all (λc=>!ifB c) &&
    (match it with
    |.seq=>mt lm fns nums src sc N [q.1.2.2.1]|.rng1=>opt (H02 q.1.2.2.1) λr=>r.1.1 == ("range":Str)&&glob sc r.1.1&&mt lm fns nums src sc N [r.1.2.2.1]|.rng2=>opt (j72 q.1.2.2.1) λr=>r.1.1 == ("range":Str)&&glob sc r.1.1&&mt lm fns nums src sc N [r.1.2.2.1,r.1.2.2.2.1]|.zip=>opt (j72 q.1.2.2.1) λr=>r.1.1 == ("zip":Str)&&glob sc r.1.1&&u80 q.1.2.1&&mt lm fns nums src sc N [r.1.2.2.1,r.1.2.2.2.1]
    )&&mt false fns nums cond q.1.2.2.2.2.1 (d50 q.1.2.1++(b60 N capt).map (·.1)) q.1.2.2.2.1&&mt false fns nums el q.1.2.2.2.2.1 (d50 q.1.2.1++(b60 N capt).map (·.1)) [q.1.1]
 |lm,fns,nums,.lrng b as=>λsc N es=>opt (V82 es) λq=>q.1.1 == lrN b&&q.1.2.2.1 == ("range":Str)&&glob sc (lrN b)&&glob sc "range"&&isL as&&decide (1<=q.1.2.2.2.2.1.length/\q.1.2.2.2.2.1.length<=2)&&mt lm fns nums as sc N q.1.2.2.2.2.1|lm,fns,nums,.zget i k=>λ_ N es=>opt (V72 es) λq=>N[i]? == some q.1.1&&b30 q.1.1&&q.1.2.2.1 == (k:Int)|lm,fns,nums,.dkeys a=>λsc N es=>opt (V02 es) λq=>I00 q.1.2.2.2.2.2.2.1 sc N [q.1.1] []&&b30 q.1.1&&p00 q.1.2.2.2.2.2.1&&!isL a&&mt lm fns nums a sc N [q.1.2.2.2.2.2.1]|lm,fns,nums,.memk o a i=>λsc N es=>opt (V12 o es) λq=>N[i]? == some q.1.2.1&&b30 q.1.2.1&&!isL a&&mt lm fns nums a sc N [q.1.1]
theorem d70{sc:ë}{x:Str}(h:glob sc x=true):sc.names.lookup x=some .globalImplicit/\(x == ("__debug__":Str))=false/\x≠"__name__":=by
 unfold glob at h;simp only[Á,î,beq_iff_eq] at h;refine⟨h.1.1,h.1.2,λe=>?_⟩;subst e;simp at h
section
variable {lm:Bool}{X:Cx}{G:Gs}{E:XK}{N:List Str}{sc:ë}
theorem r92{K:Â}{zA:Option Ç}{H0 H:Hp}{s:S}{v:V}(h:RvP K zA H s v):RvS K zA H0 H (plS s) v:=by cases s <;> exact h
theorem d72(h:(!ifB e)=true):∀ t a b p,e≠.IfExp t a b p:=by
 intro t a b p he;subst he;cases h
theorem a90(hL:isL x=false)(h:Good X G E x [e]):b00 X G E x e:=by
 cases x with
 |nil=>cases hL
 |cons _ _=>cases hL
 |_ =>
  obtain⟨e',h1,h2⟩:=(show ∃ e',[e]=[e']/\b00 X G E _ e' from h);cases h1;exact h2
theorem c00(hL:isL x=false)(h:b00 X G E x e):Good X G E x [e]:=by
 cases x with
 |nil=>cases hL
 |cons _ _=>cases hL
 |_=>exact⟨e,rfl,h⟩
def f40(po:Z70 X.K G zA E H Q r):∀ c z1,r=.er c z1->EPost G zA E c z1 H:=λc z1 e=>by subst e;exact po
def U00(po:M71 G zA E H Q r):∀ c z1,r=.er c z1->EPost G zA E c z1 H:=λc z1 e=>by subst e;exact po
theorem H12(x:XI lm X G E N sc){i:Nat}{n:Str}{pos:Pos}(h1:N[i]?=some n)(h2:b30 n=true):b00 X G E (.var i) (.Name n pos):=by
 unfold b30 at h2;simp only[Á,î] at h2;refine b10 (PE.imp (k20 (i:=i) (by rw[x.hN];exact h1) (x.vis n (æ h1)) h2.1 h2.2) λσ H Q q=>?_) rfl
 obtain⟨zA,ρ,z,r,rel,st,e,po⟩:=q;have e':(match ρ[i]? with | some (some s)=>M.ret [plS s] | _=>M.no) z=some r:=e
 cases hs:ρ[i]? with
 |none=>rw[hs] at e';cases e'
 |some o =>
  cases o with
  |none=>rw[hs] at e';cases e'
  |some s =>
   rw[hs] at e';cases e';obtain⟨v,hv,rv⟩:=rel i s hs;obtain⟨s',e',po⟩:=po;cases e';exact⟨v,hv,po v H Ext.refl st (r92 rv)⟩
theorem H22{c:Const}{d:D}{j:Nat}{pos:Pos}(h:r62 c d=true):b00 X G E (.con d) (.Constant c j pos):=by
 refine b10 ?_ rfl;have fin:∀ {v:V},(∀ H,Hd X.K H d v)->∀ σ H Q,tI X.K G E (.con d) σ H Q->tC v σ H Q:=λ{v} hd σ H Q q=>by
  obtain⟨zA,ρ,z,r,rel,st,e,po⟩:=q;cases e;obtain⟨s',e',po⟩:=po;cases e';exact po v H Ext.refl st (G11 (hd _))
 cases c with
 |int i=>cases d <;> first | (simp only[r62,beq_iff_eq] at h;subst h;exact PE.imp Q40 (fin λH=>Hd.int)) | (cases h)
 |bool b=>cases d <;> first | (simp only[r62,beq_iff_eq] at h;subst h;exact PE.imp B42 (fin λH=>Hd.bl)) | (cases h)
 |str y=>cases d <;> first | (simp only[r62,beq_iff_eq] at h;subst h;exact PE.imp R21 (fin λH=>Hd.str)) | (cases h)
 |none=>cases d <;> first | exact PE.imp p51 (fin λH=>Hd.non) | (cases h)
 |_=>cases h
theorem H32{pos:Pos}:b00 X G E (.con .dct) (.Dict [] [] pos):=by
 refine b10 (PE.imp Z51 λσ H Q q=>?_) rfl;obtain⟨zA,ρ,z,r,rel,st,e,po⟩:=q;cases e;obtain⟨s',e',po⟩:=po;cases e';intro p hp;refine po _ _ (Ext.of (a20.new _ hp)) (st.same (a20.new _ hp)) (G11 ?_);unfold Hd;exact⟨p,[],rfl,d00 a70 (st.E30 hp)⟩
theorem s02(x:XI lm X G E N sc){g:Str}{i:Int}{pos:Pos}(h1:glob sc g=true)(h2:(g,i)∈G.nums):b00 X G E (.gint g i) (.Name g pos):=by
 obtain⟨k1,k2,_⟩:=d70 h1;obtain⟨t,ht⟩:=x.num _ h2;refine b10 (PE.imp (g00 (v:=.int i) (x.glb g k1) ht ⟨t,rfl⟩ k2) λσ H Q q=>?_) rfl;obtain⟨zA,ρ,z,r,rel,st,e,po⟩:=q;cases e;obtain⟨s',e',po⟩:=po;cases e';exact po _ H Ext.refl st k30
def N60{K:Â}{zA:Option Ç}{H0 H:Hp}{l:List S}{vs:List V}{ds:List D}(h:À5 (RvS K zA H0 H) l vs)(e:plA l=some ds):HdA K (hz zA H) ds vs:=RvA.ds (À5.R11 h λ_ _ q=>q.pl) e
theorem H42{as:Ex}{l:List Ð}{k:Nat}{pos:Pos}(hL:isL as=true)(g:Good X G E as l):b00 X G E (.tup as) (.Tuple l k pos):=by
 refine b10 (PE.imp (R81 (g.args hL).1) λσ H Q q=>?_) rfl;obtain⟨zA,ρ,z,r,rel,st,e,po⟩:=q;refine T70 rel st e (f40 po) λl z1 e1 vs H1 x1 st1 rvs=>?_;obtain⟨ds,hd,e2⟩:=M.a30 e1;split at e2
 ·rename_i hm;cases e2;obtain⟨s',e',po⟩:=po;cases e';have h:=N60 rvs hd;exact⟨f60 (by rw[h.length];exact hm),λp hp=>po _ _ (x1.trans (Ext.of (a20.new _ hp))) (st1.same (a20.new _ hp)) (G11 (Hd.tup ((st1.same (a20.new _ hp)).b62 (SqT.of a70)) (h.same (j50 (a20.new _ hp)))))⟩
 ·cases e2
theorem H52{as:Ex}{l:List Ð}{pos:Pos}(hL:isL as=true)(g:Good X G E as l):b00 X G E (.lst as) (.List l pos):=by
 refine b10 (PE.imp (d51 (g.args hL).1) λσ H Q q=>?_) rfl;obtain⟨zA,ρ,z,r,rel,st,e,po⟩:=q;refine T70 rel st e (f40 po) λl z1 e1 vs H1 x1 st1 rvs=>?_;obtain⟨ds,hd,e2⟩:=M.a30 e1;split at e2
 ·rename_i hm;cases e2;obtain⟨s',e',po⟩:=po;cases e';have h:=N60 rvs hd;exact⟨f60 (by rw[h.length];exact hm),λp hp=>po _ _ (x1.trans (Ext.of (a20.new _ hp))) (st1.same (a20.new _ hp)) ((l90 st1 h hp).from x1)⟩
 ·cases e2
theorem f31{α:Type}{a b:Ex}{k:D->D->M α}{zA:Option Ç}{ρ:Env}{z:Z}{r:R α}{σ:L2.St}{H:Hp}{Q:V->V->Hp->Prop}(rel:x20 X.K zA H ρ σ)(st:c90 zA z H)
 (h:M.bind (ev G.F a ρ) (λx=>M.bind (M.of (pl x)) λx=>M.bind (ev G.F b ρ) λy=>M.bind (M.of (pl y)) λy=>k x y) z=some r) (her:∀ c z1,r=.er c z1->EPost G zA E c z1 H)
 (hk:∀ dx dy z2 v w H2,k dx dy z2=some r->Ext zA H H2->c90 zA z2 H2->Hd X.K (hz zA H2) dx v->Hd X.K (hz zA H2) dy w->Q v w H2) :
 tI X.K G E a σ H λv H1=>tI X.K G E b σ H1 λw H2=>Q v w H2:=by
 refine i20 rel st h her λl z1 e1=>?_;obtain⟨dx,p1,e2⟩:=M.a30 e1;obtain⟨s1,rfl,q1⟩:=f20 p1;refine⟨s1,rfl,λv H1 x1 st1 rv=>?_⟩;refine i20 (rel.mono x1) st1 e2 (λc z2 q=>(her c z2 q).mono x1) λm z2 e3=>?_;obtain⟨dy,p2,e4⟩:=M.a30 e3;obtain⟨s2,rfl,q2⟩:=f20 p2;exact⟨s2,rfl,λw H2 x2 st2 rw'=>hk dx dy z2 v w H2 e4 (x1.trans x2) st2 ((rv.pl.mono x2).d_ q1) (rw'.pl.d_ q2)⟩
def e20{zA:Option Ç}{H H2:Hp}{z2:Z}{s:S}{Q:VK}(po:Z70 X.K G zA E H Q (.ok [s] z2))(x:Ext zA H H2)(st:c90 zA z2 H2):∀ v H',a20 H2 H'->RvS X.K zA H2 H' s v->Q v H':=λv H' sm rv=>by
 obtain⟨s',e',po⟩:=po;cases e';exact po v H' (x.trans (Ext.of sm)) (st.same sm) (rv.from x)
theorem H62{o:Bi}{a b:Ex}{l r:Ð}{pos:Pos}(ga:b00 X G E a l)(gb:b00 X G E b r):b00 X G E (.bin o a b) (.BinOp l (opB o) r pos):=by
 refine b10 (PE.imp (G81 (opD o) ga.pe gb.pe) λσ H Q q=>?_) rfl;obtain⟨zA,ρ,z,rr,rel,st,e,po⟩:=q;refine f31 rel st e (f40 po) λdx dy z2 v w H2 e2 x2 st2 h1 h2=>?_;obtain⟨s,hs,e3⟩:=M.a30 e2;cases e3;exact⟨zA,z2,dx,dy,s,st2,h1,h2,hs,e20 po x2 st2⟩
theorem w91(po:M71 G zA E H Q r):Z70 X.K G zA E H (λx H'=>∃ k,x=.bl k/\Q k H') r:=by
 cases r with
 |er c z1=>exact po
 |ok l z1 =>
  obtain⟨b,rfl,po⟩:=po;exact⟨_,rfl,λv H' ex st' rv=>⟨b,Hd.bl_ (show Hd X.K (hz zA H') (.bl b) v from rv),po H' ex st'⟩⟩
theorem H72(x:XI lm X G E N sc){o:Cm}{a b:Ex}{l r:Ð}{pos:Pos}(hs:p00 r=true)(ga:b00 X G E a l)(gb:b00 X G E b r):b00 X G E (.cmp o a b) (.Compare l [opC o] [r] pos):=by
 have key:∀ σ H Q,tI X.K G E (.cmp o a b) σ H Q->tOp (rD2 X.K λa b=>(t80 o a b).map λc=>.d (.bl c)) (tI X.K G E a) (tI X.K G E b) σ H Q:=λσ H Q q=>by
  obtain⟨zA,ρ,z,rr,rel,st,e,po⟩:=q;refine f31 rel st e (f40 po) λdx dy z2 v w H2 e2 x2 st2 h1 h2=>?_;obtain⟨c,hc,e3⟩:=M.a30 e2;cases e3;exact⟨zA,z2,dx,dy,_,st2,h1,h2,by show Ì9 _ (t80 o dx dy)=_;rw[hc];rfl,e20 po x2 st2⟩
 refine⟨PE.imp (q11 (S81 x.room.units o) ga.pe gb.pe (T90 hs _)) key,λ_=>PT.imp (K20 (S81 x.room.units o) ga.pe gb.pe (T90 hs _)) λσ H Q q=>?_,λop vs p h=>by cases h⟩
 obtain⟨zA,ρ,z,rr,rel,st,e,po⟩:=q;exact key σ H _ ⟨zA,ρ,z,rr,rel,st,e,w91 po⟩
theorem H82{a:Ex}{l:Ð}{pos:Pos}(ga:b00 X G E a l):b00 X G E (.neg a) (.UnaryOp .USub l pos):=by
 refine b10 (PE.imp (l92 R71 ga.pe) λσ H Q q=>?_) rfl;obtain⟨zA,ρ,z,rr,rel,st,e,po⟩:=q;refine i20 rel st e (f40 po) λm z1 e1=>?_;obtain⟨i,p1,e2⟩:=M.a30 e1;obtain⟨d,p2,p3⟩:=Í.mp p1;obtain⟨s1,rfl,q1⟩:=f20 p2;cases e2;refine⟨s1,rfl,λv H1 x1 st1 rv=>?_⟩;have hd:=rv.pl.d_ q1;cases d with
 |int j =>
  cases p3;exact⟨i,hd.l70,e20 po x1 st1 _ _ (a20.refl H1) k30⟩
 |_=>cases p3
theorem H92{a:Ex}{l:Ð}{pos:Pos}(ga:b00 X G E a l)(hn:∀ t x y p,l≠.IfExp t x y p):b00 X G E (.not a) (.UnaryOp .Not l pos):=by
 refine⟨PE.imp (l22 ga.pe) λσ H Q q=>?_,λ_=>PT.imp (R41 (ga.pt hn)) λσ H Q q=>?_,λop vs p h=>by cases h⟩
 ·obtain⟨zA,ρ,z,rr,rel,st,e,po⟩:=q;refine i20 rel st e (f40 po) λm z1 e1=>?_;obtain⟨b,p1,e2⟩:=M.a30 e1;obtain⟨d,p2,p3⟩:=Í.mp p1;obtain⟨s1,rfl,q1⟩:=f20 p2;cases e2;refine⟨s1,rfl,λv H1 x1 st1 rv=>?_⟩;have hd:=rv.pl.d_ q1;cases d with
  |bl c =>
   cases p3;exact⟨b,hd.bl_,e20 po x1 st1 _ _ (a20.refl H1) i10⟩
  |_=>cases p3
 ·obtain⟨zA,ρ,z,rr,rel,st,e,po⟩:=q;refine T80 rel st e (U00 po) λb z1 e1 H1 x1 st1=>?_;cases e1;obtain⟨b',e',po⟩:=po;cases e';exact po H1 x1 st1
end
end Q
namespace Q
open PySem L2 PySem.Spec PyProof.Rows
variable [TB:Tb]
section
variable {lm:Bool}{X:Cx}{G:Gs}{E:XK}{N:List Str}{sc:ë}
theorem N70(rel:x20 X.K zA H ρ σ)(st:c90 zA z H)
 (h:M.bind (ev G.F a ρ) (λx=>M.bind (M.of ((pl x).bind asB)) k) z=some r) (her:∀ c z1,r=.er c z1->EPost G zA E c z1 H)
 (hok:∀ b z1,k b z1=some r->∀ H1,Ext zA H H1->c90 zA z1 H1->Q' (.bl b) H1):tI X.K G E a σ H Q':=by
 refine i20 rel st h her λm z1 e1=>?_;obtain⟨b,p1,e2⟩:=M.a30 e1;obtain⟨d,p2,p3⟩:=Í.mp p1;obtain⟨s1,rfl,q1⟩:=f20 p2;refine⟨s1,rfl,λv H1 x1 st1 rv=>?_⟩;have hd:=rv.pl.d_ q1;cases d with
 |bl c =>
  cases p3;rw[hd.bl_];exact hok b z1 e2 H1 x1 st1
 |_=>cases p3
theorem I02(ga:b00 X G E a l)(hl:∀ t x y p,l≠.IfExp t x y p)
 (gb:b00 X G E b (.BoolOp .And (r::vs) p)):b00 X G E (.and a b) (.BoolOp .And (l::r::vs) p):=by
 have pw:PW X (.BoolOp .And (l::r::vs) p) (tT X.K G E (.and a b)):=by
  refine PW.imp (R31 (ga.pt hl) (gb.pw _ _ _ rfl)) λσ H Q q=>?_;obtain⟨zA,ρ,z,rr,rel,st,e,po⟩:=q;refine T80 rel st e (U00 po) λc z1 e1 H1 x1 st1=>?_;cases c with
  |true =>
   rw[if_pos rfl];rw[if_pos rfl] at e1;refine T80 (rel.mono x1) st1 e1 (λc z2 q=>((U00 po) c z2 q).mono x1) λc z2 e2 H2 x2 st2=>?_;cases e2;obtain⟨b',e',po⟩:=po;cases e';exact po H2 (x1.trans x2) st2
  |false =>
   rw[if_neg Ï];rw[if_neg Ï] at e1;cases e1;obtain⟨b',e',po⟩:=po;cases e';exact po H1 x1 st1
 refine⟨PE.imp (l12 ga.pe gb.pe) λσ H Q q=>?_,λ_=>pw.pt,λop vs p h=>pw⟩;obtain⟨zA,ρ,z,rr,rel,st,e,po⟩:=q;refine N70 rel st e (f40 po) λc z1 e1 H1 x1 st1=>⟨c,rfl,?_⟩;cases c with
 |true =>
  rw[if_pos rfl];rw[if_pos rfl] at e1;refine N70 (rel.mono x1) st1 e1 (λc z2 q=>((f40 po) c z2 q).mono x1) λc z2 e2 H2 x2 st2=>?_;cases e2;exact e20 po (x1.trans x2) st2 _ _ (a20.refl H2) i10
 |false =>
  rw[if_neg Ï];rw[if_neg Ï] at e1;cases e1;exact e20 po x1 st1 _ _ (a20.refl H1) i10
theorem V92(ga:b00 X G E a l)(hl:∀ t x y p,l≠.IfExp t x y p)
 (gb:b00 X G E b (.BoolOp .Or (r::vs) p)):b00 X G E (.or a b) (.BoolOp .Or (l::r::vs) p):=by
 have pw:PW X (.BoolOp .Or (l::r::vs) p) (tT X.K G E (.or a b)):=by
  refine PW.imp (B52 (ga.pt hl) (gb.pw _ _ _ rfl)) λσ H Q q=>?_;obtain⟨zA,ρ,z,rr,rel,st,e,po⟩:=q;refine T80 rel st e (U00 po) λc z1 e1 H1 x1 st1=>?_;cases c with
  |false =>
   rw[if_neg Ï];rw[if_neg Ï] at e1;refine T80 (rel.mono x1) st1 e1 (λc z2 q=>((U00 po) c z2 q).mono x1) λc z2 e2 H2 x2 st2=>?_;cases e2;obtain⟨b',e',po⟩:=po;cases e';exact po H2 (x1.trans x2) st2
  |true =>
   rw[if_pos rfl];rw[if_pos rfl] at e1;cases e1;obtain⟨b',e',po⟩:=po;cases e';exact po H1 x1 st1
 refine⟨PE.imp (B82 ga.pe gb.pe) λσ H Q q=>?_,λ_=>pw.pt,λop vs p h=>pw⟩;obtain⟨zA,ρ,z,rr,rel,st,e,po⟩:=q;refine N70 rel st e (f40 po) λc z1 e1 H1 x1 st1=>⟨c,rfl,?_⟩;cases c with
 |false =>
  rw[if_neg Ï];rw[if_neg Ï] at e1;refine N70 (rel.mono x1) st1 e1 (λc z2 q=>((f40 po) c z2 q).mono x1) λc z2 e2 H2 x2 st2=>?_;cases e2;exact e20 po (x1.trans x2) st2 _ _ (a20.refl H2) i10
 |true =>
  rw[if_pos rfl];rw[if_pos rfl] at e1;cases e1;exact e20 po x1 st1 _ _ (a20.refl H1) i10
theorem s12(gb:b00 X G E b r)(hr:∀ t x y p,r≠.IfExp t x y p):b00 X G E b (.BoolOp op [r] p):=by
 have pw:PW X (.BoolOp op [r] p) (tT X.K G E b):=by
  cases op with
  |And=>exact p61 (gb.pt hr)|Or=>exact k92 (gb.pt hr)
 exact⟨l02 gb.pe,λ_=>pw.pt,λ_ _ _ _=>pw⟩
theorem Z70.s22(po:Z70 X.K G zA E H Q rr)(x1:Ext zA H H1):Z70 X.K G zA E H1 Q rr:=by
 cases rr with
 |er c z1=>exact EPost.mono po x1
 |ok l z2 =>
  obtain⟨s,e',po⟩:=po;exact⟨s,e',λv H' x' st' rv=>po v H' (x1.trans x') st' (rv.from x1)⟩
theorem U10{α:Type}{m:M α}{z:Z}{r:R α}(h:M.calm m z=some r):m z=some r/\∃ a z1,r=.ok a z1:=by
 unfold M.calm at h;split at h
 ·rename_i a z1 e;cases h;exact⟨e,a,z1,rfl⟩
 ·cases h
theorem s32{a b:Ð}{ta tb:TE}{pos:Pos}(ha:PE X a ta)(hb:PE X b tb):PE X (.BoolOp .Or [a,b] pos) (λσ H Q=>ta σ H λx H1=>∃ t xs,x=.ref t/\SqT X.K H1 t xs/\if xs.isEmpty=true then tb σ H1 Q else Q x H1):=by
 intro pins s σ H Q I h;refine BoolOp_or (thn (ha pins s σ H _ I h) λv s1 ⟨x,H1,I1,r1,q1⟩=>?_);obtain⟨t,xs,rfl,hq,q1⟩:=q1;obtain⟨its,hv,ht,hl⟩:=I1.tuple hq;have hlen:xs.length=its.length:=hv.length;cases r1;refine truthy_tuple ht (by rw[Ö,← hlen];have:=Á1;omega) ?_
 cases xs with
 |nil =>
  cases its with
  |nil=>exact BoolOp_one (hb pins _ σ H1 Q (I1.tok _) q1)|cons _ _=>cases hlen
 |cons y r =>
  cases its with
  |nil=>cases hlen
  |cons _ _=>exact⟨.ref t,H1,I1.tok _,rfl,q1⟩
theorem T31(h:(pl y).bind p52=some l):∃ s,y=[s]/\plD s=some (.tup l):=by
 obtain⟨d,p2,p3⟩:=Í.mp h;obtain⟨s1,rfl,q1⟩:=f20 p2;cases d with
 |tup l=>cases p3;exact⟨s1,rfl,q1⟩
 |_=>cases p3
theorem I12(ga:b00 X G E a l)(gb:b00 X G E b r):b00 X G E (.orT a b) (.BoolOp .Or [l,r] p):=by
 have no:∀ {zA:Option Ç}{ρ:Env}{z:Z}{rr:R (List S)}{H:Hp}{Q:Bool->Hp->Prop},ev G.F (.orT a b) ρ z=some rr->M71 G zA E H Q rr->False:=λe po=>by
  obtain⟨e,u,z1,rfl⟩:=U10 e;obtain⟨c,rfl,_⟩:=po;rcases M.bind_some e with ⟨m,z2,_,e2⟩ | ⟨c,z2,_,e2⟩
  ·obtain⟨ds,_,e3⟩:=M.a30 e2;split at e3
   ·rcases M.bind_some e3 with ⟨m,z2,_,e2⟩ | ⟨c,z2,_,e2⟩
    ·obtain⟨ds,_,e3⟩:=M.a30 e2;cases e3
    ·cases e2
   ·cases e3
  ·cases e2
 refine⟨PE.imp (s32 ga.pe gb.pe) λσ H Q q=>?_,λ_ pins s σ H Q I ⟨_,_,_,_,_,_,e,po⟩=>(no e po).elim,λ_ _ _ _ wh pins s σ H Q I ⟨_,_,_,_,_,_,e,po⟩=>(no e po).elim⟩;obtain⟨zA,ρ,z,rr,rel,st,e,po⟩:=q;obtain⟨e,u,z1,rfl⟩:=U10 e;refine i20 rel st e (f40 po) λm z1 e1=>?_;obtain⟨ds,p1,e2⟩:=M.a30 e1;obtain⟨s1,rfl,q1⟩:=T31 p1;refine⟨s1,rfl,λv H1 x1 st1 rv=>?_⟩;have hd:=rv.pl.d_ q1;obtain⟨t,xs,rfl,h1,h2⟩:=hd.B00;refine⟨t,xs,rfl,(a10 zA H1).sqT h1,?_⟩;cases ds with
 |nil =>
  cases h2.f50;have po:=po.s22 x1;refine i20 (rel.mono x1) st1 e2 (f40 po) λm z1 e1=>?_;obtain⟨ds,p1,e2⟩:=M.a30 e1;obtain⟨s1,rfl,q1⟩:=T31 p1;cases e2;exact⟨s1,rfl,λv H2 x2 st2 rv=>e20 po x2 st2 _ _ (a20.refl H2) (rv.pl.d_ q1)⟩
 |cons y r =>
  obtain⟨u,w,rfl,_⟩:=h2.c50;cases e2;exact e20 po x1 st1 _ _ (a20.refl H1) hd
theorem I22(gc:b00 X G E c t)(ht:∀ a b d p,t≠.IfExp a b d p)(ga:b00 X G E a x)(gb:b00 X G E b y):b00 X G E (.ite c a b) (.IfExp t x y p):=by
 refine⟨PE.imp (G51 (gc.pt ht) ga.pe gb.pe) λσ H Q q=>?_,λh=>absurd rfl (h t x y p),λop vs p h=>by cases h⟩
 obtain⟨zA,ρ,z,rr,rel,st,e,po⟩:=q;refine T80 rel st e (f40 po) λk z1 e1 H1 x1 st1=>?_;have po1:=po.s22 x1;cases k with
 |true =>
  rw[if_pos rfl];rw[if_pos rfl] at e1;exact⟨zA,ρ,z1,rr,rel.mono x1,st1,e1,po1⟩
 |false =>
  rw[if_neg Ï];rw[if_neg Ï] at e1;exact⟨zA,ρ,z1,rr,rel.mono x1,st1,e1,po1⟩
theorem W02(x:XI lm X G E N sc){o o':Cm}{a b c:Ex}{l r s:Ð}{pos:Pos}(hs:p00 s=true)(ga:b00 X G E a l)(gb:b00 X G E b r)(gc:b00 X G E c s):b00 X G E (.ch o o' a b c) (.Compare l [opC o,opC o'] [r,s] pos):=by
 have hm:lastMarks [opC o,opC o'] [r,s]=false:=T90 hs _;have key:∀ σ H Q,tI X.K G E (.ch o o' a b c) σ H Q->q21 (rD2 X.K λa b=>(t80 o a b).map λc=>.d (.bl c)) (rD2 X.K λa b=>(t80 o' a b).map λc=>.d (.bl c)) (tI X.K G E a) (tI X.K G E b) (tI X.K G E c) σ H Q:=λσ H Q q=>by
  obtain⟨zA,ρ,z,rr,rel,st,e,po⟩:=q;refine f31 rel st e (f40 po) λdx dy z2 v w H2 e2 x2 st2 h1 h2=>?_;obtain⟨k,hk,e3⟩:=M.a30 e2;refine⟨zA,z2,dx,dy,.d (.bl k),st2,h1,h2,by show Ì9 _ (t80 o dx dy)=_;rw[hk];rfl,λv3 H3 sm rv=>⟨k,Hd.bl_ (show Hd X.K (hz zA H3) (.bl k) v3 from rv),?_⟩⟩
  have x3:=x2.trans (Ext.of sm);have st3:=st2.same sm;cases k with
  |true =>
   rw[if_pos rfl];rw[if_pos rfl] at e3;refine i20 (rel.mono x3) st3 e3 (λc z2 q=>((f40 po) c z2 q).mono x3) λm z4 e4=>?_;obtain⟨dw,p1,e5⟩:=M.a30 e4;obtain⟨k',hk',e6⟩:=M.a30 e5;obtain⟨s1,rfl,q1⟩:=f20 p1;cases e6;refine⟨s1,rfl,λv4 H4 x4 st4 rv4=>?_⟩;exact⟨zA,z4,dy,dw,_,st4,(h2.same (a20.trans (j50 sm) x4)),rv4.pl.d_ q1,by show Ì9 _ (t80 o' dy dw)=_;rw[hk'];rfl,e20 po (x3.trans x4) st4⟩
  |false =>
   rw[if_neg Ï];rw[if_neg Ï] at e3;cases e3;exact e20 po x3 st3 _ _ (a20.refl H3) i10
 refine⟨PE.imp (G91 (S81 x.room.units o) (S81 x.room.units o') ga.pe gb.pe gc.pe hm) key,λ_=>PT.imp (H01 (S81 x.room.units o) (S81 x.room.units o') ga.pe gb.pe gc.pe hm) λσ H Q q=>?_,λop vs p h=>by cases h⟩
 obtain⟨zA,ρ,z,rr,rel,st,e,po⟩:=q;exact key σ H _ ⟨zA,ρ,z,rr,rel,st,e,w91 po⟩
def T41:∀ σ H Q,tI X.K G E (.bf f as) σ H Q->tCB (rDn X.K (bfD f)) (tA X.K G E as) σ H Q:=λσ H Q q=>by
 obtain⟨zA,ρ,z,rr,rel,st,e,po⟩:=q;refine T70 rel st e (f40 po) λl z1 e1 vs H1 x1 st1 rvs=>?_;obtain⟨ds,hd,e2⟩:=M.a30 e1;obtain⟨s,hs,e3⟩:=M.a30 e2;cases e3;exact⟨zA,z1,ds,s,st1,N60 rvs hd,hs,e20 po x1 st1⟩
theorem m91(x:XI lm X G E N sc){f:Bf}{as:Ex}{n:Str}{id:String}{e:Ð}{l:List Ð}{p pos:Pos}(hc:g10 X (.builtin id) (rDn X.K (bfD f)))(hb:n∈d62)(hv:ñ n=some (.builtin id))(hg:glob sc n=true)(hL:isL as=true)(g:Good X G E as (e::l)):b00 X G E (.bf f as) (.Call (.Name n p) (e::l) [] pos):=by
 obtain⟨k1,k2,k3⟩:=d70 hg;obtain⟨ha,hs⟩:=g.args hL;rw[Å4,Á] at hs;exact b10 (PE.imp (t90 hc (x.glb n k1) (x.blt n hb) hv ha k3 k2 (d10 hs.1 l X.env) (q80 X.env pos hs.2)) T41) rfl
theorem d82(x:XI lm X G E N sc){f:Bf}{as:Ex}{n:Str}{T:String}{e:Ð}{l:List Ð}{p pos:Pos}(hc:g10 X (.type T) (rDn X.K (bfD f)))(hb:n∈d62)(hv:ñ n=some (.type T))(hg:glob sc n=true)(hL:isL as=true)(g:Good X G E as (e::l)):b00 X G E (.bf f as) (.Call (.Name n p) (e::l) [] pos):=by
 obtain⟨k1,k2,k3⟩:=d70 hg;obtain⟨ha,hs⟩:=g.args hL;rw[Å4,Á] at hs;exact b10 (PE.imp (R40 hc (x.glb n k1) (x.blt n hb) hv ha k3 k2 (d10 hs.1 l X.env) (q80 X.env pos hs.2)) T41) rfl
theorem s42:ñ "len"=some (.builtin "len"):=by decide +kernel
theorem U20:ñ "sorted"=some (.builtin "sorted"):=by decide +kernel
theorem s52:ñ "all"=some (.builtin "all"):=by decide +kernel
theorem s62:ñ "any"=some (.builtin "any"):=by decide +kernel
theorem s72:ñ "min"=some (.builtin "min"):=by decide +kernel
theorem s82:ñ "max"=some (.builtin "max"):=by decide +kernel
theorem u90:ñ "isinstance"=some (.builtin "isinstance"):=by decide +kernel
theorem s92:ñ "int"=some (.type "int"):=by decide +kernel
theorem N80:ñ "tuple"=some (.type "tuple"):=by decide +kernel
theorem Z90:ñ "list"=some (.type "list"):=by decide +kernel
theorem W12(x:XI lm X G E N sc){f:Bf}{as:Ex}{n:Str}{e:Ð}{l:List Ð}{p pos:Pos}(hf:served f=true)(hn:n=(bfN f).1)(hg:glob sc n=true)(hL:isL as=true)(g:Good X G E as (e::l)):b00 X G E (.bf f as) (.Call (.Name n p) (e::l) [] pos):=by
 subst hn;cases f with
 |len=>exact m91 x q62 1e1 s42 hg hL g|tuple=>exact d82 x M11 1e1 N80 hg hL g|list=>exact d82 x c72 1e1 Z90 hg hL g|min=>exact m91 x (q92 x.calm) 1e1 s72 hg hL g|max=>exact m91 x (r02 x.calm) 1e1 s82 hg hL g|all=>exact m91 x (q72 x.calm) 1e1 s52 hg hL g|any=>exact m91 x (q82 x.calm) 1e1 s62 hg hL g|int=>exact d82 x r12 1e1 s92 hg hL g|sorted=>exact m91 x (w61 x.room.units) 1e1 U20 hg hL g|_=>cases hf
theorem I32(t:Ty)(h:t≠.seq):À8 (tyN t)∈d62/\ñ (À8 (tyN t))=some (.type (tyN t))/\tyN t∈["int","bool","tuple","list","str"]:=by
 cases t with
 |seq=>exact absurd rfl h|_=>decide +kernel
theorem t02(x:XI lm X G E N sc){t:Ty}{a:Ex}{n:Str}{e:Ð}{p pos p2:Pos}(hs:t≠.seq)
 (hg2:glob sc (À8 (tyN t))=true) (hn:n="isinstance") (hg:glob sc n=true) (ns:noStar e=true) (ga:b00 X G E a e):b00 X G E (.isi t a) (.Call (.Name n p) [e,.Name (À8 (tyN t)) p2] [] pos):=by
 obtain⟨hb,hv,ht⟩:=I32 t hs;subst hn;obtain⟨k1,k2,k3⟩:=d70 hg;obtain⟨m1,m2,m3⟩:=d70 hg2;refine b10 (PE.imp (t90 J51 (x.glb _ k1) (x.blt _ 1e1) u90 (e00 ga.pe (e00 (J60 (v:=.ty (tyN t)) (x.glb _ m1) (x.blt _ hb) hv rfl m3 m2) o30) (d10 ns _ _)) k3 k2 (d10 ns _ _) rfl) λσ H Q q=>?_) rfl
 obtain⟨zA,ρ,z,rr,rel,st,e,po⟩:=q;refine i20 rel st e (f40 po) λm z1 e1=>?_;obtain⟨d,p1,e2⟩:=M.a30 e1;obtain⟨s1,rfl,q1⟩:=f20 p1;cases e2;refine⟨s1,rfl,λv H1 x1 st1 rv=>⟨d,v,tyN t,rfl,((rv.pl.d_ q1).same (a10 zA H1)).has,ht,?_⟩⟩;rw[c82 t d hs];exact e20 po x1 st1 _ _ (a20.refl H1) i10
theorem t12(x:XI lm X G E N sc){a:Ex}{n:Str}{e:Ð}{p pos p1 p2 p3:Pos}{k:Nat}(hg2:glob sc "tuple"=true)(hg3:glob sc "list"=true)(hn:n="isinstance")(hg:glob sc n=true)(ns:noStar e=true)(ga:b00 X G E a e) :
 b00 X G E (.isi .seq a) (.Call (.Name n p) [e,.Tuple [.Name "tuple" p1,.Name "list" p2] k p3] [] pos):=by
 subst hn;obtain⟨k1,k2,k3⟩:=d70 hg;obtain⟨m1,m2,m3⟩:=d70 hg2;obtain⟨l1,l2,l3⟩:=d70 hg3;refine b10 (PE.imp (t90 t21 (x.glb _ k1) (x.blt _ 1e1) u90 (e00 ga.pe (e00 (R81 (e00 (J60 (v:=.ty "tuple") (x.glb _ m1) (x.blt _ 1e1) N80 rfl m3 m2)
  (e00 (J60 (v:=.ty "list") (x.glb _ l1) (x.blt _ 1e1) Z90 rfl l3 l2) o30))) o30) (d10 ns _ _)) k3 k2 (d10 ns _ _) rfl) λσ H Q q=>?_) rfl
 obtain⟨zA,ρ,z,rr,rel,st,e,po⟩:=q;refine i20 rel st e (f40 po) λm z1 e1=>?_;obtain⟨d,p1,e2⟩:=M.a30 e1;obtain⟨s1,rfl,q1⟩:=f20 p1;cases e2;refine⟨s1,rfl,λv H1 x1 st1 rv=>⟨by show 2<=sizeLine;rw[Á1];decide,λt ht=>?_⟩⟩
 have sm:a20 H1 (upd H1 t (.tup [.ty "tuple",.ty "list"])):=a20.new _ ht;refine⟨d,v,t,rfl,((rv.pl.d_ q1).same (a20.trans (a10 zA H1) sm)).has,SqT.of a70,?_⟩;rw[M31 d];exact e20 po x1 st1 _ _ sm i10
theorem I42{a i:Ex}{v x:Ð}{pos:Pos}(hs:Z80 x=true)(ga:b00 X G E a v)(gi:b00 X G E i x):b00 X G E (.idx a i) (.Subscript v x pos):=by
 refine b10 (PE.imp (X31 ixD ga.pe gi.pe (H90 hs)) λσ H Q q=>?_) rfl;obtain⟨zA,ρ,z,rr,rel,st,e,po⟩:=q;refine f31 rel st e (f40 po) λdx dy z2 v w H2 e2 x2 st2 h1 h2=>?_;obtain⟨c,hc,e3⟩:=M.a30 e2;cases e3;exact⟨zA,z2,dx,dy,_,st2,h1,h2,by show Ì9 _ (e91 dx dy)=_;rw[hc];rfl,e20 po x2 st2⟩
theorem t22(x:XI lm X G E N sc){i k:Nat}{n:Str}{c:Nat}{p q pos:Pos}(h1:N[i]?=some n)(h2:b30 n=true):b00 X G E (.zget i k) (.Subscript (.Name n p) (.Constant (.int k) c q) pos):=by
 unfold b30 at h2;simp only[Á,î] at h2;refine b10 (PE.imp (X31 X70 (k20 (i:=i) (by rw[x.hN];exact h1) (x.vis n (æ h1)) h2.1 h2.2) Q40 (H90 rfl)) λσ H Q qq=>?_) rfl
 obtain⟨zA,ρ,z,rr,rel,st,e,po⟩:=qq;have e0:v31 k ρ[i]? z=some rr:=e;unfold v31 at e0;split at e0
 ·rename_i p hs;obtain⟨v,hv,a,hz',rfl⟩:=rel i .z hs;subst hz';have st':H a=some (.lst [.int p.1,.bl p.2]):=st.zat;refine⟨_,hv,a,[.int p.1,.bl p.2],(k:Int),?_⟩;split at e0
  ·rename_i hk;subst hk;cases e0;obtain⟨s',e',po⟩:=po;cases e';exact⟨_,rfl,rfl,SqL.of st',rfl,po _ H Ext.refl st k30⟩
  ·split at e0
   ·rename_i hk;subst hk;cases e0;obtain⟨s',e',po⟩:=po;cases e';exact⟨_,rfl,rfl,SqL.of st',rfl,po _ H Ext.refl st (G11 Hd.bl)⟩
   ·cases e0
 ·cases e0
theorem f41(a:Int):∀ (n:Nat) {its:List Ä},its.length=n->(∀ i,i < n->∃ v t,its[i]?=some v/\v=.int (a + (i:Nat)) t)->Vals ((ò n).map λ(k:Nat)=>V.int (a + k)) its:=by
 intro n its hl h;have:∀ (m:Nat) (l:List Ä) (o:Nat),l.length=m->(∀ i,i < m->∃ v t,l[i]?=some v/\v=.int (a + (o + i:Nat)) t)->Vals ((Ä9 o m 1).map λ(k:Nat)=>V.int (a + k)) l:=by
  intro m
  induction m with
  |zero =>
   intro l o hl _;rw[List.length_eq_zero_iff.mp hl];exact .nil
  |succ m ih =>
   intro l o hl h;cases l with
   |nil=>cases hl
   |cons x r =>
    obtain⟨v,t,e1,e2⟩:=h 0 (Nat.succ_pos m);simp only[Ë1,Ê2] at e1;subst e1;rw[Ó2,Æ0];refine .cons ⟨t,by rw[e2];simp⟩ (ih r (o + 1) (by simpa using hl) λi hi=>?_)
    obtain⟨v,t,e1,e2⟩:=h (i + 1) (Nat.succ_lt_succ hi);exact⟨v,t,by simpa using e1,by rw[e2];congr 1;omega⟩
 rw[Ç9];exact this n its 0 hl λi hi=>by
  obtain⟨v,t,e1,e2⟩:=h i hi;exact⟨v,t,e1,by rw[e2];simp⟩
theorem x01:ñ "range"=some (.type "range"):=by decide +kernel
def lrV:List V->Option (Int × Int)
 |[.int j]=>some (0,j)|[.int i,.int j]=>some (i,j)|_=>none
def lrO:Bool->List V->HO
 |true=>HO.tup|false=>HO.lst
def lrT:Bool->String
 |true=>"tuple"|false=>"list"
def I52(b:Bool)(ta:TA):TE:=λσ H Q=>ta σ H λvs H1=>∃ i j:Int,lrV vs=some (i,j)/\-100000 < i/\i < 100000/\-100000 < j/\j < 100000/\∀ l,H1 l=none->Q (.ref l) (upd H1 l (lrO b ((ò (j - i).toNat).map λ(k:Nat)=>V.int (i + k))))
theorem t32{pins:List (Ç × Obj)}{σ:L2.St}{H1:Hp}{s1:Æ}{r:Ç}{i j:Int}{t u v:Tok}{Q:VK}(hc:X.calm=true)(I2:Inv X pins σ H1 s1)(hr:Ö1 s1.heap r i j 1 t u v)(i1:-100000 < i)(i2:i < 100000)(j1:-100000 < j)(j2:j < 100000)
 (q:∀ l,H1 l=none->Q (.ref l) (upd H1 l (.lst ((ò (j - i).toNat).map λ(k:Nat)=>V.int (i + k))))):Ñ (Ø X.prog X.w) X.A (call (.type "list") [.ref r]) (EP X pins σ Q) X.xe s1:=by
 have hz:Ä0 i j 1=(((j - i).toNat:Nat):Int):=by rw[rangeSize_one];split <;> omega
 refine call_list_range (n:=(j - i).toNat) (I2.ok.hd hc) hr (small_one ∅ ∅ ∅ ∅) hz ∅ λh' tk acc' c' kp hS hacc=>?_
 have rv:Vals ((ò (j - i).toNat).map λ(k:Nat)=>V.int (i + k)) acc'.toList:=by
  refine f41 i (j - i).toNat ?_ λi hi=>?_
  ·rw[Ê8];exact hacc.1
  ·have hlt:i < acc'.size:=by rw[hacc.1];exact hi
   obtain⟨t,e⟩:=hacc.2 i acc'[i] (É4 hlt);exact⟨acc'[i],t,by rw[ú];exact É4 hlt,by rw[e];simp⟩
 have hlen:((ò (j - i).toNat).map λ(k:Nat)=>V.int (i + k)).length<=sizeLine:=by rw[È,û,Á1];omega
 have hn:=I2.hok.fresh (Î _);exact⟨.ref _,_,I2.laid (t':=tk) kp (Î _) (show h70 X.prog X.w _ h' _ (.lst _) from⟨hlen,acc'.toList,c',rv,by rw[Ð8];exact hS⟩),rfl,q _ hn⟩
theorem d92{pins:List (Ç × Obj)}{σ:L2.St}{H1:Hp}{s1:Æ}{r:Ç}{i j:Int}{t u v:Tok}{Q:VK}(hc:X.calm=true)(I2:Inv X pins σ H1 s1)(hr:Ö1 s1.heap r i j 1 t u v)(i1:-100000 < i)(i2:i < 100000)(j1:-100000 < j)(j2:j < 100000)
 (q:∀ l,H1 l=none->Q (.ref l) (upd H1 l (.tup ((ò (j - i).toNat).map λ(k:Nat)=>V.int (i + k))))):Ñ (Ø X.prog X.w) X.A (call (.type "tuple") [.ref r]) (EP X pins σ Q) X.xe s1:=by
 have hz:Ä0 i j 1=(((j - i).toNat:Nat):Int):=by rw[rangeSize_one];split <;> omega
 refine HT.tuple_range (n:=(j - i).toNat) (I2.ok.hd hc) hr (small_one ∅ ∅ ∅ ∅) hz ∅ λh' tk acc' kp hsz hacc=>?_
 have rv:Vals ((ò (j - i).toNat).map λ(k:Nat)=>V.int (i + k)) acc'.toList:=by
  refine f41 i (j - i).toNat ?_ λi hi=>?_
  ·rw[Ê8];exact hacc.1
  ·have hlt:i < acc'.size:=by rw[hacc.1];exact hi
   obtain⟨t,e⟩:=hacc.2 i acc'[i] (É4 hlt);exact⟨acc'[i],t,by rw[ú];exact É4 hlt,by rw[e];simp⟩
 have hlen:((ò (j - i).toNat).map λ(k:Nat)=>V.int (i + k)).length<=sizeLine:=by rw[È,û,Á1];omega
 exact⟨.ref _,_,I2.laid (t':=tk) (λb o e=>Ã _ (kp b o e)) hsz (show h70 X.prog X.w _ _ _ (.tup _) from⟨hlen,acc'.toList,rv,⟨_,Ê _ rfl,rfl,0,by rw[Ð8]⟩⟩),rfl,q _ (I2.hok.fresh hsz)⟩
theorem x11(b:Bool){pins:List (Ç × Obj)}{σ:L2.St}{H1:Hp}{s1:Æ}{r:Ç}{i j:Int}{t u v:Tok}{Q:VK}(hc:X.calm=true)(I2:Inv X pins σ H1 s1)(hr:Ö1 s1.heap r i j 1 t u v)(i1:-100000 < i)(i2:i < 100000)(j1:-100000 < j)(j2:j < 100000)
 (q:∀ l,H1 l=none->Q (.ref l) (upd H1 l (lrO b ((ò (j - i).toNat).map λ(k:Nat)=>V.int (i + k))))):Ñ (Ø X.prog X.w) X.A (call (.type (lrT b)) [.ref r]) (EP X pins σ Q) X.xe s1:=by
 cases b with
 |true=>exact d92 hc I2 hr i1 i2 j1 j2 q|false=>exact t32 hc I2 hr i1 i2 j1 j2 q
theorem I62(b:Bool):ñ (lrN b)=some (.type (lrT b)):=by
 cases b with
 |true=>exact N80|false=>exact Z90
theorem x21(b:Bool){e:Ð}{l:List Ð}{ta:TA}{p p2 pos pos2:Pos}(hc:X.calm=true)(hg:Gl X (lrN b))(hm:X.mg (lrN b)=none)(hg2:Gl X "range")(hm2:X.mg "range"=none)(ha:PA X (e::l) ta)(hs:noStar e=true)(hs2:l.all noStar=true) :
 PE X (.Call (.Name (lrN b) p) [.Call (.Name "range" p2) (e::l) [] pos2] [] pos) (I52 b ta):=by
 intro pins s σ H Q I h;refine Call_ (y60 I hg hm (I62 b) (Â4 (Ø3 ?_) rfl rfl) (by cases b <;> decide) (by cases b <;> decide))
 refine Call_ (y60 I hg2 hm2 x01 (Â4 (thn (ha pos2 pins s σ H _ I h) λus s1 ⟨vs,H1,I1,r1,q1⟩=>?_) (d10 hs l X.env) (q80 X.env pos2 hs2)));obtain⟨i,j,hv,i1,i2,j1,j2,q⟩:=q1
 match vs,hv with
 |[.int _],hv =>
  cases hv;obtain⟨u,rfl,r⟩:=vals1 r1;obtain⟨t,rfl⟩:=r;exact call_range_1 (Ñ3 (x11 b hc (I1.kept λb o e=>Ã _ e) (Ö1.new ..) i1 i2 j1 j2 q))
 |[.int _,.int _],hv =>
  cases hv;obtain⟨u,u',rfl,r,r'⟩:=vals2 r1;obtain⟨t,rfl⟩:=r;obtain⟨t',rfl⟩:=r';exact call_range_2 (Ñ3 (x11 b hc (I1.kept λb o e=>Ã _ e) (Ö1.new ..) i1 i2 j1 j2 q))
theorem M81:∀ {ds xs:List D},lrD ds=some xs->∃ i j:Int,((ds=[.int j]/\i=0)\/ds=[.int i,.int j])/\-100000 < i/\i < 100000/\-100000 < j/\j < 100000/\xs=(ò (j - i).toNat).map λ(k:Nat)=>D.int (i + k)
 |[],_,h=>by cases h
 |[x],xs,h=>by
  cases x with
  |int j =>
   obtain⟨hj,h⟩:=f00 h;have hj:=M90.mp hj;exact⟨0,j,.inl ⟨rfl,rfl⟩,∅,∅,hj.1,hj.2,by cases h;simp⟩
  |_=>cases h
 |[x,y],xs,h=>by
  cases x with
  |int i =>
   cases y with
   |int j =>
    obtain⟨hj,h⟩:=f00 h;have h1:=M90.mp hj.1;have h2:=M90.mp hj.2;exact⟨i,j,.inr rfl,h1.1,h1.2,h2.1,h2.2,by cases h;rfl⟩
   |_=>cases h
  |_=>cases h
 |x::y::_::_,_,h=>by
  cases x with
  |int i=>cases y <;> cases h
  |_=>cases h
theorem t42(x:XI lm X G E N sc){b:Bool}{as:Ex}{a:Ð}{l:List Ð}{p p2 pos pos2:Pos}(h1:glob sc (lrN b)=true)(h2:glob sc "range"=true)(hL:isL as=true)(g:Good X G E as (a::l)):b00 X G E (.lrng b as) (.Call (.Name (lrN b) p) [.Call (.Name "range" p2) (a::l) [] pos2] [] pos):=by
 obtain⟨k1,_,_⟩:=d70 h1;obtain⟨m1,_,_⟩:=d70 h2;obtain⟨ha,hs⟩:=g.args hL;rw[Å4,Á] at hs;refine b10 (PE.imp (x21 b x.calm (x.glb _ k1) (x.blt _ (by cases b <;> decide)) (x.glb _ m1) (x.blt _ 1e1) ha hs.1 hs.2) λσ H Q q=>?_) rfl
 obtain⟨zA,ρ,z,rr,rel,st,e,po⟩:=q;refine T70 rel st e (f40 po) λl z1 e1 vs H1 x1 st1 rvs=>?_;obtain⟨xs,hx,e2⟩:=M.a30 e1;cases e2;obtain⟨s',e',po⟩:=po;cases e';obtain⟨ds,h3,h4⟩:=Í.mp hx;have hd:=N60 rvs h3;have fin:∀ i j:Int,xs=(ò (j - i).toNat).map (λ(k:Nat)=>D.int (i + k))->∀ lA,H1 lA=none->Q (.ref lA) (upd H1 lA (lrO b ((ò (j - i).toNat).map λ(k:Nat)=>V.int (i + k)))):=λi j ex lA hn=>by
  subst ex;have hI:=HdA.ints (K:=X.K) (H:=hz zA H1) ((ò (j - i).toNat).map λ(k:Nat)=>i + (k:Int));rw[Ã8,Ã8] at hI;cases b with
  |false=>exact po _ _ (x1.trans (Ext.of (a20.new _ hn))) (st1.same (a20.new _ hn)) ((l90 st1 hI hn).from x1)|true=>exact po _ _ (x1.trans (Ext.of (a20.new _ hn))) (st1.same (a20.new _ hn)) (G11 (Hd.tup ((st1.same (a20.new _ hn)).b62 (SqT.of a70)) (hI.same (j50 (a20.new _ hn)))))
 obtain⟨i,j,hds,j1,j2,j3,j4,ex⟩:=M81 h4;refine⟨i,j,?_,j1,j2,j3,j4,fin i j ex⟩;rcases hds with ⟨rfl,rfl⟩ | rfl
 ·obtain⟨v,rfl,h5⟩:=hd.one;cases h5.l70;rfl
 ·obtain⟨v,w,rfl,h5,h6⟩:=hd.two;cases h5.l70;cases h6.l70;rfl
end
theorem x31(val:Nat->Nat)(i:Nat):∀ n,(SS.met val n).testBit i=(ò n).any λj=>val j == i
 |0=>Nat.zero_testBit i
 |n + 1=>by
  show(SS.met val n ||| 2 ^ val n).testBit i=_;rw[Nat.testBit_or,x31 val i n,Nat.testBit_two_pow,List.range_succ,List.any_append];simp;rfl
theorem f51:∀ {l:List D}{ns:List Nat},E00 l=some ns->l=ns.map (λ(n:Nat)=>D.int n)/\∀ n∈ns,n < 8
 |[],ns,h=>by cases h;exact⟨rfl,λn hn=>by cases hn⟩
 |x::r,ns,h=>by
  cases x with
  |int i =>
   obtain⟨hi,h⟩:=f00 h;obtain⟨ms,h1,rfl⟩:=É.mp h;obtain⟨e,k⟩:=f51 h1;refine⟨?_,λn hn=>?_⟩
   ·rw[Æ0,← e,show((i.toNat:Nat):Int)=i from Int.toNat_of_nonneg hi.1]
   ·rcases ï.mp hn with rfl | hn
    ·omega
    ·exact k n hn
  |_=>cases h
theorem e02{ns:List Nat}:SS.bts (SS.met (λi=>ns.getD i 0) ns.length)=(ò 8).filter λi=>ns.contains i:=by
 unfold SS.bts;refine É7 λi _=>?_;rw[x31];rw[Â7,any_eq_true,É8];constructor
 ·rintro ⟨j,hj,e⟩;rw[Ö6] at hj;rw[← eq_of_beq e,Ü,á hj];exact Ç4 hj
 ·intro h;obtain⟨j,hj,e⟩:=É0.mp h;exact⟨j,À1.mpr hj,by rw[Ü,á hj,← e];exact beq_self_eq_true _⟩
theorem x41{K:Â}{H:Hp}:∀ {ns:List Nat}{us:List V},HdA K H (ns.map λ(n:Nat)=>D.int n) us->us=ns.map λ(n:Nat)=>V.int n
 |[],_,h=>h.f50
 |n::r,_,h=>by
  obtain⟨y,q,rfl,h1,h2⟩:=HdA.c50 h;rw[h1.l70,x41 h2];rfl
theorem x51{K:Â}{H:Hp}:∀ ns:List Nat,HdA K H (ns.map λ(n:Nat)=>D.int n) (ns.map λ(n:Nat)=>V.int n)
 |[]=>.nil|n::r=>.cons Hd.int (x51 r)
theorem x61{ns:List Nat}(h:∀ n∈ns,n < 8)(i:Nat):ns.getD i 0 < 8:=by
 rw[Ü];cases e:ns[i]? with
 |none=>decide|some n=>exact h n (æ e)
section
variable {lm:Bool}{X:Cx}{G:Gs}{E:XK}{N:List Str}{sc:ë}
def M91(w:í)(p m:Nat):ê->Prop:=λh=>SS.A70 w h p m
theorem x71(hc:X.calm=true):g10 X (.type "set") (λxs H Q=>∃ (a:Ç) (ns:List Nat) (us:List V),xs=[.ref a]/\(SqL X.K H a us\/SqT X.K H a us)/\us=ns.map (λ(n:Nat)=>V.int n)/\(∀ n∈ns,n < 8)/\∀ p,H p=none->Q (.ref p) (upd H p (.ext (M91 X.w p (SS.met (λi=>ns.getD i 0) ns.length))))):=by
 intro pins s σ H xs us Q I r h;obtain⟨a,ns,vs,rfl,hq,rfl,h8,q⟩:=h;obtain⟨u,rfl,rx⟩:=vals1 r;cases rx;have hv:∀ i,(λi=>ns.getD i 0) i < 8:=x61 h8;have hp:∀ {its:List Ä},Vals (ns.map λ(n:Nat)=>V.int n) its->its.toArray.size=ns.length/\∀ (i:Nat) (v:Ä),its.toArray[i]?=some v->∃ t,v=.int ((λi=>ns.getD i 0) i:Nat) t:=λ{its} rv=>by
  refine⟨by rw[Ö,← rv.length,È],λi v e=>?_⟩
  have e:its[i]?=some v:=by simpa using e
  have hi:i < ns.length:=by have:=(Ý.mp e).1;rw[← rv.length,È] at this;exact this
  obtain⟨w',e1,e2⟩:=rv.get (i:=i) (x:=V.int (ns[i]:Nat)) (by simp[hi])
  rw[e] at e1;cases e1;obtain⟨t,rfl⟩:=e2;exact⟨t,by simp[hi]⟩
 have fin:∀ (h':ê) (tk:Nat),SS.A70 X.w h' s.heap.objs.size (SS.met (λi=>ns.getD i 0) ns.length)->(∀ b u,s.heap.get? b=some u->h'.get? b=some u)->EP X pins σ Q (.ref s.heap.objs.size) { s with heap:=h',toks:=tk }:=λh' tk hS kp=>by
  refine⟨.ref s.heap.objs.size,_,I.laid (t':=tk) (o:=.ext (M91 X.w s.heap.objs.size (SS.met (λi=>ns.getD i 0) ns.length))) kp (Î _) ⟨hS,?_,λh1 h2 p k=>p.keep k⟩,rfl,q _ (I.hok.fresh (Î _))⟩;obtain⟨o,_,_,ho,_⟩:=hS;exact⟨o,ho⟩
 rcases hq with hq | hq
 ·obtain⟨its,rv,pl,_⟩:=I.list hq;obtain⟨o,ho,hcl,n,hd⟩:=pl.isList;obtain⟨sz,pv⟩:=hp rv;refine SS.e61 (o:=o) (it:={ cls:=.type "list_iterator",data:=.fields #[.ref a,.int 0 0] }) (n:=its.toArray.size) (St:=λI i h=>h.IsListIter I a i/\h.IsList a its.toArray) (Pv:=λi v=>its.toArray[i]?=some v) (val:=λi=>ns.getD i 0)
   ⟨hcl,F.sub_list_set,F.sub_list_frozenset,-0,λA E s Q e q=>Í1 ⟨o,e,hcl,n,hd⟩ q,λA I hh hn=>Ý8 hh I a hn _,λh e=>⟨⟨_,Ê _ rfl,rfl,rfl⟩,⟨o,Ã _ e,hcl,n,hd⟩⟩⟩ (by exact I.ok.hd hc) ho hv pv λh' tk x kp=>?_
  rw[sz] at x;exact fin h' tk x kp
 ·obtain⟨its,rv,pl,_⟩:=I.tuple hq;obtain⟨o,ho,hcl,n,hd⟩:=pl;obtain⟨sz,pv⟩:=hp rv;refine SS.e61 (o:=o) (it:={ cls:=.type "tuple_iterator",data:=.fields #[.ref a,.int 0 0] }) (n:=its.toArray.size) (St:=λI i h=>h.IsTupleIter I a i/\h.IsTuple a its.toArray) (Pv:=λi v=>its.toArray[i]?=some v) (val:=λi=>ns.getD i 0)
   ⟨hcl,by rw[Ò5];kernel_rfl,by rw[Ò5];kernel_rfl,-0,λA E s Q e q=>Ò0 ⟨o,e,hcl,n,hd⟩ q,λA I hh hn=>Walks.tuple hh I a hn _,λh e=>⟨⟨_,Ê _ rfl,rfl,rfl⟩,⟨o,Ã _ e,hcl,n,hd⟩⟩⟩ (by exact I.ok.hd hc) ho hv pv λh' tk x kp=>?_
  rw[sz] at x;exact fin h' tk x kp
theorem U30(hc:X.calm=true)(hu:X.A.units + 64 < Ä5):g10 X (.builtin "sorted") (λxs H Q=>∃ (p:Ç) (m:Nat),xs=[.ref p]/\m < 256/\H p=some (.ext (M91 X.w p m))/\∀ l,H l=none->Q (.ref l) (upd H l (.lst ((SS.bts m).map λ(n:Nat)=>V.int n)))):=by
 intro pins s σ H xs us Q I r h;obtain⟨p,m,rfl,hm,hp,q⟩:=h;obtain⟨u,rfl,rx⟩:=vals1 r;cases rx;obtain⟨⟨o,ep,g,ho,hx,hd⟩,_⟩:=I.hok p _ hp;refine SS.m71 (by exact I.ok.hd hc) hu hm ho hx hd λl h' tk c hl kp hD=>?_
 refine⟨.ref l,_,I.laid (t':=tk) (o:=.lst ((SS.bts m).map λ(n:Nat)=>V.int n)) kp hl ⟨?_,_,c,?_,hD⟩,rfl,q _ (I.hok.fresh hl)⟩
 ·rw[È,Á1];have:(SS.bts m).length<=8:=Ó (Â0 _ _) (by simp)
  omega
 ·clear hD hd;generalize SS.bts m=l
  induction l with
  |nil=>exact .nil|cons n r ih=>exact .cons ⟨_,rfl⟩ ih
theorem t52:ñ "set"=some (.type "set"):=by decide +kernel
theorem t62(x:XI lm X G E N sc){as:Ex}{e:Ð}{p1 p2 p3 p4:Pos}(h1:glob sc "sorted"=true)(h2:glob sc "set"=true)(hL:isL as=true)(g:Good X G E as [e]):b00 X G E (.bf .sset as) (.Call (.Name "sorted" p1) [.Call (.Name "set" p2) [e] [] p3] [] p4):=by
 obtain⟨k1,k2,k3⟩:=d70 h1;obtain⟨j1,j2,j3⟩:=d70 h2;obtain⟨ha,hs⟩:=g.args hL;rw[Å4,Á] at hs;refine b10 (PE.imp (t90 (U30 x.calm x.room.units) (x.glb _ k1) (x.blt _ 1e1) U20 (e00 (R40 (x71 x.calm) (x.glb _ j1) (x.blt _ 1e1) t52 ha j3 j2 (d10 hs.1 [] X.env) (q80 X.env p3 hs.2)) o30) k3 k2) λσ H Q q=>?_) rfl
 obtain⟨zA,ρ,z,rr,rel,st,ee,po⟩:=q;refine T70 rel st ee (f40 po) λl z1 e1 vs H1 x1 st1 rvs=>?_;obtain⟨ds,hd,e2⟩:=M.a30 e1;obtain⟨s,hs',e3⟩:=M.a30 e2;cases e3;have hds:=N60 rvs hd
 match ds,hs' with
 |[d],hs' =>
  obtain⟨l,hl,hs'⟩:=Í.mp hs';obtain⟨ns,hn,rfl⟩:=É.mp hs';obtain⟨rfl,h8⟩:=f51 hn;obtain⟨v,rfl,hv⟩:=hds.one;obtain⟨a,us,rfl,hq,hd'⟩:∃ a us,v=.ref a/\(SqL X.K H1 a us\/SqT X.K H1 a us)/\HdA X.K (hz zA H1) (ns.map λ(n:Nat)=>D.int n) us:=by
   cases d with
   |tup m =>
    cases hl;obtain⟨a,xs,rfl,m1,m2⟩:=hv.B00;exact⟨a,xs,rfl,.inr ((a10 zA H1).sqT m1),m2⟩
   |lst m =>
    cases hl;obtain⟨a,xs,rfl,m1,m2⟩:=hv.X50;exact⟨a,xs,rfl,.inl (m1.same (a10 zA H1)).sq,m2⟩
   |_=>cases hl
  refine⟨a,ns,us,rfl,hq,x41 hd',h8,λp hp=>⟨p,_,rfl,SS.u11 (x61 h8) _,a70,λl hl=>?_⟩⟩;have sm:a20 H1 (upd H1 p (.ext (M91 X.w p (SS.met (λi=>ns.getD i 0) ns.length)))):=a20.new _ hp;rw[e02];exact e20 po x1 st1 _ _ (a20.trans sm (a20.new _ hl)) ((l90 (st1.same sm) (x51 _) hl).from (Ext.of sm))
def tPO(K:Â)(G:Gs)(E:XK)(x:Ex):TO:=λσ H Q=>∃ zA ρ z r,x20 K zA H ρ σ/\c90 zA z H/\ev G.F x ρ z=some r/\(match r with
 |.ok l z'=>∃ o,v21 l=some o/\∀ H',Ext zA H H'->c90 zA z' H'->Q o H'
 |.er c z'=>EPost G zA E c z' H)
theorem t72(hL:isL x=true)(g:Good X G E x e.toList):PO X e (tPO X.K G E x):=by
 cases e with
 |none =>
  cases x with
  |nil =>
   refine λpins s σ H Q I q=>X11 pins s σ H Q I ?_;obtain⟨zA,ρ,z,r,rel,st,e,po⟩:=q;cases e;obtain⟨o,e',po⟩:=po;cases e';exact po H Ext.refl st
  |cons a r=>obtain⟨e,es,h,_⟩:=g;cases h
  |_=>cases hL
 |some e =>
  cases x with
  |nil=>cases (show [e]=[] from g)
  |cons a r =>
   obtain⟨e',es,h,ns,ga,lr,gr⟩:=g;cases h;refine λpins s σ H Q I q=>X21 ga.pe pins s σ H Q I ?_;obtain⟨zA,ρ,z,rr,rel,st,e,po⟩:=q;have her:∀ c z1,rr=.er c z1->EPost G zA E c z1 H:=λc z1 e=>by subst e;exact po
   have rn:r=.nil:=by
    cases r with
    |nil=>rfl|cons b q=>obtain⟨e,es,h,_⟩:=gr;cases h
    |_=>cases lr
   subst rn;refine i20 rel st e her λl z1 e1=>?_;obtain⟨s,hs,e2⟩:=M.a30 e1;cases e2;obtain⟨o,e',po⟩:=po;refine⟨s,E80 hs,λv H1 x1 st1 rv=>?_⟩;cases s with
   |d y =>
    cases y with
    |int i =>
     cases e';exact⟨i,Hd.l70 (show Hd X.K (hz zA H1) (.int i) v from rv),po H1 x1 st1⟩
    |_=>cases e'
   |_=>cases e'
  |_=>cases hL
theorem W22{a lo hi:Ex}{v:Ð}{l h:Option Ð}{p pos:Pos}(ga:b00 X G E a v)(hl:isL lo=true)(hh:isL hi=true)(gl:Good X G E lo l.toList)(gh:Good X G E hi h.toList):b00 X G E (.sl a lo hi) (.Subscript v (.Slice l h none p) pos):=by
 refine b10 (PE.imp (H31 U92 ga.pe (t72 hl gl) (t72 hh gh)) λσ H Q q=>?_) rfl;obtain⟨zA,ρ,z,rr,rel,st,e,po⟩:=q;refine i20 rel st e (f40 po) λm z1 e1=>?_;obtain⟨dx,p1,e2⟩:=M.a30 e1;obtain⟨s1,rfl,q1⟩:=f20 p1;refine⟨s1,rfl,λw H1 x1 st1 rv=>?_⟩;rcases M.bind_some e2 with ⟨u,z2,e3,e4⟩ | ⟨c,z2,e3,e4⟩
 ·obtain⟨o,ho,e5⟩:=M.a30 e4;refine⟨zA,ρ,z1,_,rel.mono x1,st1,e3,o,ho,λH2 x2 st2=>?_⟩;rcases M.bind_some e5 with ⟨u',z3,e6,e7⟩ | ⟨c,z3,e6,e7⟩
  ·obtain⟨o',ho',e8⟩:=M.a30 e7;refine⟨zA,ρ,z2,_,(rel.mono x1).mono x2,st2,e6,o',ho',λH3 x3 st3=>?_⟩;obtain⟨s,hs,e9⟩:=M.a30 e8;cases e9;exact⟨zA,z3,dx,s,st3,((rv.pl.mono (x2.trans x3)).d_ q1),hs,e20 po ((x1.trans x2).trans x3) st3⟩
  ·exact⟨zA,ρ,z2,_,(rel.mono x1).mono x2,st2,e6,((f40 po) c z3 e7).mono (x1.trans x2)⟩
 ·exact⟨zA,ρ,z1,_,rel.mono x1,st1,e3,((f40 po) c z2 e4).mono x1⟩
theorem I72{a:Ex}{v:Ð}{p1 p2 p3 pos:Pos}{k:Nat}(ga:b00 X G E a v):b00 X G E (.rev a) (.Subscript v (.Slice none none (some (.UnaryOp .USub (.Constant (.int 1) k p1) p2)) p3) pos):=by
 refine b10 (PE.imp (n92 ga.pe (l92 R71 Q40)) λσ H Q q=>?_) rfl;obtain⟨zA,ρ,z,rr,rel,st,e,po⟩:=q;refine i20 rel st e (f40 po) λm z1 e1=>?_;obtain⟨s,p1,e2⟩:=M.a30 e1;obtain⟨d,p2,p3⟩:=Í.mp p1;obtain⟨s1,rfl,q1⟩:=f20 p2;cases e2;refine⟨s1,rfl,λw H1 x1 st1 rv=>⟨1,rfl,rfl,?_⟩⟩;have hd:=rv.pl.d_ q1;cases d with
 |tup l =>
  cases p3;obtain⟨a,xs,rfl,h1,h2⟩:=hd.B00;exact .inl ⟨a,xs,rfl,(a10 zA H1).sqT h1,tupQ st1 h2.reverse (e20 po x1 st1)⟩
 |lst l =>
  cases p3;obtain⟨a,xs,rfl,h1,h2⟩:=hd.X50;exact .inr ⟨a,xs,rfl,(h1.same (a10 zA H1)).sq,λp hp=>e20 po x1 st1 _ _ (a20.new _ hp) (l90 st1 h2.reverse hp)⟩
 |_=>cases p3
theorem t82:∀ {x:Ex}{es:List Ð}{z z1:Z}{l:List S},isL x=true->Good X G E x es->ev G.F x ρ z=some (.ok l z1)->l.length=es.length:=by
 intro x
 induction x with
 |nil =>
  intro es z z1 l _ h e;have h:es=[]:=h;subst h;cases e;rfl
 |cons a r _ ih =>
  intro es z z1 l _ h e;obtain⟨e',es',rfl,ns,g,lr,gr⟩:=h;rcases M.bind_some e with ⟨m,z2,e1,e2⟩ | ⟨c,z2,e1,e2⟩
  ·obtain⟨s,hs,e3⟩:=M.a30 e2;rcases M.bind_some e3 with ⟨m',z3,e4,e5⟩ | ⟨c,z3,e4,e5⟩
   ·cases e5;rw[ã,ã,ih lr gr e4]
   ·cases e5
  ·cases e2
 |_=>intro es z z1 l h;cases h
theorem s_call(x:XI lm X G E N sc){f:Nat}{as:Ex}{n:Str}{ps:List Str}{e:Ð}{l:List Ð}{p pos:Pos}(hf:G.fns[f]?=some (n,ps))(hl:ps.length=l.length + 1)(hg:glob sc n=true)(hL:isL as=true)(g:Good X G E as (e::l)) :
 b00 X G E (.call f as) (.Call (.Name n p) (e::l) [] pos):=by
 obtain⟨k1,k2,k3⟩:=d70 hg;obtain⟨fa,fd,m1,m2,m3,F⟩:=x.gok f n ps hf;obtain⟨ha,hs⟩:=g.args hL;rw[Å4,Á] at hs;refine b10 (PE.imp (W81 F x.room (x.glb n k1) m1 m2 m3 .nil x.pas ha k2 (d10 hs.1 l X.env) (q80 X.env pos hs.2)) λσ H Q q=>?_) rfl;obtain⟨zA,ρ,z,rr,rel,st,e,po⟩:=q;have e0:M.bind (ev G.F as ρ) (λl=>M.bind (G.F false f (l.map plS)) λs=>M.ret [s]) z=some rr:=e;rcases M.bind_some e0 with ⟨m,z1,e1,e2⟩ | ⟨c,z1,e1,e2⟩
 ·refine⟨zA,ρ,z,_,rel,st,e1,λvs H1 x1 st1 rvs=>?_⟩;have hv:vs.length=ps.length:=by rw[← rvs.length,t82 hL g e1,hl];rfl
  show spF X.K G f ps.length (vs++[]) H1 Q E;rw[Ç6];refine⟨hv,zA,z1,m.map plS,?_⟩;have ra:RvA X.K zA H1 (m.map plS) vs:=RvA.plS (À5.R11 rvs λ_ _ q=>q.pl);rcases M.bind_some e2 with ⟨s,z2,e3,e4⟩ | ⟨c,z2,e3,e4⟩
  ·cases e4;refine⟨_,ra,st1,e3,λv H2 x2 st2 rv=>?_⟩;obtain⟨s',e',po⟩:=po;cases e';exact po v H2 (x1.trans x2) st2 (rv.from x1)
  ·exact⟨_,ra,st1,e3,((f40 po) c z2 e4).mono x1⟩
 ·exact⟨zA,ρ,z,_,rel,st,e1,(f40 po) c z1 e2⟩
def A62:Pat->Nat
 |.nil=>0|.cons _ r=>A62 r + 1|_=>0
mutual
noncomputable def gP(K:Â):Pat->TG
 |.v i=>J90 i|.tup ps=>M52 K (A62 ps) (gL K ps)|.nil=>λ_ _ _ _=>False|.cons _ _=>λ_ _ _ _=>False
noncomputable def gL(K:Â):Pat->TGs
 |.nil=>M42|.cons p r=>l32 (gP K p) (gL K r)|.v _=>λ_ _ _ _=>False|.tup _=>λ_ _ _ _=>False
end
end
end Q
namespace Q
open PySem L2 PySem.Spec PyProof.Rows
variable [TB:Tb]
theorem T51(h:noStar e=true)(es:List Ð)(env:Ç8):Ê1 (e::es) env=(false,Ù9 e env)::Ê1 es env:=by
 cases e <;> first | rfl | cases h
structure N01(X:Cx)(N:List Str)(loc:Str->Bool):Prop where
 hN:X.N=N
 nd:N.Nodup
 lc:∀ x,loc x=true->Loc X.env.scope x
 fn:∀ x,loc x=true->(X.fn x=true\/X.env.scope.names.lookup x=some .local)
 calm:X.calm=true
theorem I10:∀ {es:List Ð} (env:Ç8),es.all noStar=true->(Ê1 es env).length=es.length/\(Ê1 es env).findIdx? (·.1)=none
 |[],_,_=>⟨rfl,rfl⟩
 |e::es,env,h=>by
  rw[Å4,Á] at h;obtain⟨h1,h2⟩:=I10 env h.2;rw[T51 h.1];refine⟨by rw[ã,ã,h1],?_⟩
  rw[List.findIdx?_cons,h2];rfl
theorem f61:∀ {r:Pat}{es:List Ð},m81 N loc r es=true->es.length=A62 r/\es.all noStar=true
 |.nil,es,h=>by
  unfold m81 at h;have:es=[]:=Ó3.mp h;subst this;exact⟨rfl,rfl⟩
 |.cons p r,es,h=>by
  unfold m81 at h;cases es with
  |nil=>cases h
  |cons e es =>
   rw[Á,Á] at h;obtain⟨h1,h2⟩:=f61 (r:=r) h.2;exact⟨by rw[ã,h1];rfl,by rw[Å4,h.1.1,h2];rfl⟩
 |.v _,_,h=>by unfold m81 at h;cases h
 |.tup _,_,h=>by unfold m81 at h;cases h
mutual
theorem n11(L:N01 X N loc):∀ {p:Pat}{e:Ð},i30 N loc p e=true->PG X e (gP X.K p)
 |.v i,e,h=>by
  unfold i30 at h;cases e with
  |Name x pos =>
   rw[Á,beq_iff_eq] at h;unfold gP;exact X60 (by rw[L.hN];exact L.nd) (by rw[L.hN];exact h.1) (L.lc x h.2) (L.fn x h.2)
  |_=>cases h
 |.tup ps,e,h=>by
  unfold i30 at h;cases e with
  |Tuple es k pos =>
   obtain⟨h1,h2⟩:=f61 h;obtain⟨h3,h4⟩:=I10 X.env h2;unfold gP;exact l42 L.calm (T61 L h) (by rw[h3,h1]) h4
  |_=>cases h
 |.nil,e,h=>by unfold i30 at h;cases h
 |.cons _ _,e,h=>by unfold i30 at h;cases h
theorem T61(L:N01 X N loc):∀ {r:Pat}{es:List Ð},m81 N loc r es=true->PGs X es (gL X.K r)
 |.nil,es,h=>by
  unfold m81 at h;have:es=[]:=Ó3.mp h;subst this;unfold gL;exact W41
 |.cons p r,es,h=>by
  unfold m81 at h;cases es with
  |nil=>cases h
  |cons e es =>
   rw[Á,Á] at h;unfold gL;exact G61 (n11 L h.1.2) (T61 L h.2) (by rw[T51 h.1.1];rfl)
 |.v _,_,h=>by unfold m81 at h;cases h
 |.tup _,_,h=>by unfold m81 at h;cases h
end
section
variable {K:Â}{zA:Option Ç}{H:Hp}
theorem x20.set{ρ:Env}{σ:L2.St}{i:Nat}{s:S}{v:V}(h:x20 K zA H ρ σ)(hl:ρ.length=σ.length)(r:RvP K zA H s v):x20 K zA H (ρ.set i (some s)) (σ.set i (some v)):=by
 intro j t e;by_cases hj:j=i
 ·subst hj;have hlt:j < ρ.length:=by
   have:=(Ý.mp e).1;simpa using this
  rw[å hlt] at e;cases e;exact⟨v,å (by rw[← hl];exact hlt),r⟩
 ·rw[ß (Á0 hj)] at e;obtain⟨w,h1,h2⟩:=h j t e;exact⟨w,by rw[ß (Á0 hj)];exact h1,h2⟩
theorem F00:∀ {r:Pat}{l:List D}{ρ ρ':Env},bindL r l ρ=some ρ'->l.length=A62 r
 |.nil,l,ρ,ρ',e=>by
  unfold bindL at e;cases l with
  |nil=>rfl|cons x l=>cases e
 |.cons p r,l,ρ,ρ',e=>by
  unfold bindL at e;cases l with
  |nil=>cases e
  |cons x l =>
   obtain⟨ρ1,e1,e2⟩:=Í.mp e;rw[ã,F00 e2];rfl
 |.v _,_,_,_,e=>by unfold bindL at e;cases e
 |.tup _,_,_,_,e=>by unfold bindL at e;cases e
mutual
theorem x81:∀ {p:Pat}{d:D}{ρ ρ':Env},f30 p d ρ=some ρ'->∀ {σ:L2.St}{v:V}{R:L2.St->Hp->Prop},x20 K zA H ρ σ->ρ.length=σ.length->Hd K (hz zA H) d v ->
 (∀ σ',x20 K zA H ρ' σ'->ρ'.length=σ'.length->R σ' H)->gP K p v σ H R
 |.v i,d,ρ,ρ',e,σ,v,R,rel,hl,hd,k=>by
  unfold f30 at e;cases e;unfold gP;exact k _ (rel.set hl (show RvP K zA H (.d d) v from hd)) (by rw[À9,À9,hl])
 |.tup ps,d,ρ,ρ',e,σ,v,R,rel,hl,hd,k=>by
  unfold f30 at e;cases d with
  |tup l =>
   obtain⟨a,xs,rfl,h1,h2⟩:=hd.B00;unfold gP;exact⟨a,xs,rfl,(a10 zA H).sqT h1,by rw[h2.length];exact F00 e,f71 e rel hl h2 k⟩
  |_=>cases e
 |.nil,_,_,_,e,_,_,_,_,_,_,_=>by unfold f30 at e;cases e
 |.cons _ _,_,_,_,e,_,_,_,_,_,_,_=>by unfold f30 at e;cases e
theorem f71:∀ {r:Pat}{l:List D}{ρ ρ':Env},bindL r l ρ=some ρ'->∀ {σ:L2.St}{vs:List V}{R:L2.St->Hp->Prop},x20 K zA H ρ σ->ρ.length=σ.length->HdA K (hz zA H) l vs ->
 (∀ σ',x20 K zA H ρ' σ'->ρ'.length=σ'.length->R σ' H)->gL K r vs σ H R
 |.nil,l,ρ,ρ',e,σ,vs,R,rel,hl,hd,k=>by
  unfold bindL at e;cases l with
  |nil =>
   cases e;unfold gL;exact⟨hd.f50,k σ rel hl⟩
  |cons x l=>cases e
 |.cons p r,l,ρ,ρ',e,σ,vs,R,rel,hl,hd,k=>by
  unfold bindL at e;cases l with
  |nil=>cases e
  |cons x l =>
   obtain⟨ρ1,e1,e2⟩:=Í.mp e;obtain⟨v,ws,rfl,h1,h2⟩:=hd.c50;unfold gL;exact⟨v,ws,rfl,x81 e1 rel hl h1 λσ' r' l'=>f71 e2 r' l' h2 k⟩
 |.v _,_,_,_,e,_,_,_,_,_,_,_=>by unfold bindL at e;cases e
 |.tup _,_,_,_,e,_,_,_,_,_,_,_=>by unfold bindL at e;cases e
end
end
end Q
namespace Q
open PySem L2 PySem.Spec PyProof.Rows
variable [TB:Tb]
structure I82(K:PySem.W.Frag)(zA:Option Addr)(J:L2.It)(xs:List D)(H1:Hp):Prop where
 go:∀ i H,Ext zA H1 H->i < xs.length->J.go i H
 yld:∀ i H x H' z d,Ext zA H1 H->c90 zA z H->J.yld i H x H'->xs[i]?=some d->a20 H H'/\Hd K (hz zA H') d x
 stop:∀ H,Ext zA H1 H->J.stop xs.length H
structure ItB(K:PySem.W.Frag)(J:L2.It)(xs:List D)(B:Hp):Prop where
 go:∀ i H,a20 B H->i < xs.length->J.go i H
 yld:∀ i H x H' zA z d,a20 B (hz zA H)->c90 zA z H->J.yld i H x H'->xs[i]?=some d->a20 H H'/\∀ C,a20 B C->(∀ a ys,SqT K (hz zA H') a ys->SqT K C a ys)->Hd K C d x
 stop:∀ H,a20 B H->J.stop xs.length H
section
variable {K:Â}{B:Hp}
def ItB.ok(h:ItB K J xs (hz zA H1)):I82 K zA J xs H1:=
 ⟨λi H x=>h.go i H (a20.trans x (a10 zA H)),λi H x H' z d e st y k=>let ⟨s,f⟩:=h.yld i H x H' zA z d e st y k;⟨s,f _ (a20.trans e (j50 s)) λ_ _ q=>q⟩,λH x=>h.stop H (a20.trans x (a10 zA H))⟩
theorem f81(h:s00 K B a ys)(r:HdA K B xs ys):ItB K (Itl K a) xs B where
 go:=λi H x hi=>⟨ys,ys[i]'(by rw[r.length];exact hi),(h.same x).sq,by simp⟩
 yld:=λi H v H' zA z d x st y e=>by
  obtain⟨rfl,y⟩:=y;have y1:=y ys ((h.same x).same (a10 zA _)).sq;obtain⟨w,e1,e2⟩:=r.get e;rw[y1] at e1;cases e1;exact⟨a20.refl _,λC c _=>e2.same c⟩
 stop:=λH x=>⟨ys,(h.same x).sq,by rw[r.length];exact Î _⟩
theorem x91(h:SqT K B a ys)(r:HdA K B xs ys):ItB K (Itt K a) xs B where
 go:=λi H x hi=>⟨ys,ys[i]'(by rw[r.length];exact hi),a20.sqT x h,by simp⟩
 yld:=λi H v H' zA z d x st y e=>by
  obtain⟨rfl,y⟩:=y;have y1:=y ys ((a10 zA _).sqT (a20.sqT x h));obtain⟨w,e1,e2⟩:=r.get e;rw[y1] at e1;cases e1;exact⟨a20.refl _,λC c _=>e2.same c⟩
 stop:=λH x=>⟨ys,a20.sqT x h,by rw[r.length];exact Î _⟩
theorem y01(lo:Int)(n:Nat):ItB K (Itr lo n) ((ò n).map λ(k:Nat)=>D.int (lo + k)) B where
 go:=λi H x hi=>by show i < n;simpa using hi
 yld:=λi H v H' zA z d x st y e=>by
  obtain⟨rfl,rfl⟩:=y;rw[Û] at e;obtain⟨k,e1,rfl⟩:=É.mp e;obtain⟨h1,h2⟩:=Ý.mp e1;rw[List.getElem_range] at h2;subst h2;exact⟨a20.refl _,λ_ _ _=>Hd.int⟩
 stop:=λH x=>by show n<=_;simp
end
section
variable {K:Â}{zA:Option Ç}{H1:Hp}
theorem zip_get:∀ {a b:List D}{i:Nat}{d:D},(r90 a b)[i]?=some d->∃ x y,a[i]?=some x/\b[i]?=some y/\d=.tup [x,y]
 |[],_,_,_,e=>by simp[r90] at e|_::_,[],_,_,e=>by simp[r90] at e|x::r,y::q,0,d,e=>by simp[r90] at e;exact⟨x,y,rfl,rfl,e.symm⟩
 |x::r,y::q,i + 1,d,e=>by
  obtain⟨u,v,h1,h2,h3⟩:=zip_get (a:=r) (b:=q) (i:=i) (by simpa [r90] using e)
  exact⟨u,v,by simpa using h1,by simpa using h2,h3⟩
theorem a01:∀ (a b:List D),(r90 a b).length=min a.length b.length
 |[],_=>by simp[r90]|_::_,[]=>by simp[r90]|x::r,y::q=>by simp only[r90,ã,a01 r q];omega
theorem y11(h:∀ H,a20 B H->SqB bb K H a us)(r:HdA K B xs us)(h':∀ H,a20 B H->SqB bb K H b ws)(r':HdA K B ys ws):ItB K (Itz bb K a b) (r90 xs ys) B where
 go:=λi H x hi=>by
  rw[a01] at hi;exact⟨us,ws,us[i]'(by rw[r.length];omega),ws[i]'(by rw[r'.length];omega),h H x,h' H x,by simp,by simp⟩
 yld:=λi H v H' zA z d x st y e=>by
  obtain⟨T,rfl,hT,y⟩:=y;obtain⟨d1,d2,e1,e2,rfl⟩:=zip_get e;obtain⟨w1,f1,g1⟩:=r.get e1;obtain⟨w2,f2,g2⟩:=r'.get e2;have y1:=y us ws w1 w2 (h H (a20.trans x (a10 zA H))) (h' H (a20.trans x (a10 zA H))) f1 f2;subst y1;have sm:a20 H (upd H T (.tup [w1,w2])):=a20.new _ hT;exact⟨sm,λC c t=>Hd.tup (t _ _ ((st.same sm).b62 (SqT.of a70))) (.cons (g1.same c) (.cons (g2.same c) .nil))⟩
 stop:=λH x=>⟨us,ws,h H x,h' H x,by rw[a01,r.length,r'.length];omega⟩
end
def PX(P:D->Prop):D->Prop
 |.tup l=>∀ y∈l,P y|.lst l=>∀ y∈l,P y|_=>True
def ItX(K:Â)(zA:Option Ç)(H H':Hp)(l:List S)(J:L2.It)(xs:List D):Prop:=
 ∀ (P:D->Prop) (B:Hp),a20 B (hz zA H')->(∀ a ys,SqT K (hz zA H') a ys->SqT K B a ys)->(∀ d v,P d->Hd K (hz zA H') d v->Hd K B d v)->(∀ ds,plA l=some ds->∀ d∈ds,PX P d) ->
  (∀ a ys,s00 K (hz zA H') a ys->((H a=none/\H' a=some (.lst ys))\/o91 l=true)->s00 K B a ys)->ItB K J xs B
theorem HdA.move{K:Â}{H B:Hp}{P:D->Prop}(mv:∀ d v,P d->Hd K H d v->Hd K B d v):∀ {ds:List D}{vs:List V},(∀ y∈ds,P y)->HdA K H ds vs->HdA K B ds vs
 |[],_,_,h=>by rw[h.f50];exact .nil
 |d::ds,_,p,h=>by
  obtain⟨x,r,rfl,h1,h2⟩:=h.c50;exact .cons (mv d x (p d Ì) h1) (HdA.move mv (λy hy=>p y (Ë _ hy)) h2)
theorem ItX.ok{K:Â}{zA:Option Ç}{H H':Hp}{l:List S}{J:L2.It}{xs:List D}(h:ItX K zA H H' l J xs):I82 K zA J xs H':=by
 refine(h (λ_=>True) (hz zA H') (a20.refl _) (λ_ _ q=>q) (λ_ _ _ q=>q) (λds _ d _=>?_) λ_ _ q _=>q).ok;cases d <;> first | trivial | exact λ_ _=>trivial
def tIt(K:Â)(G:Gs)(E:XK)(it:It)(src:Ex):TI:=λσ H R=>∃ zA ρ z r,x20 K zA H ρ σ/\c90 zA z H/\ev G.F src ρ z=some r/\(match r with
 |.ok l z'=>∃ xs,(plA l).bind (itD it)=some xs/\∀ J H',Ext zA H H'->c90 zA z' H'->ItX K zA H H' l J xs->R J H'
 |.er c z'=>EPost G zA E c z' H)
section
variable {lm:Bool}{X:Cx}{G:Gs}{E:XK}{N:List Str}{sc:ë}
def t92{zA:Option Ç}{H:Hp}{it:It}{P:L2.It->Hp->Prop}{r:R (List S)}(po:(match r with | .ok l z'=>∃ xs,(plA l).bind (itD it)=some xs/\∀ J H',Ext zA H H'->c90 zA z' H'->ItX X.K zA H H' l J xs->P J H' | .er c z'=>EPost G zA E c z' H)):∀ c z1,r=.er c z1->EPost G zA E c z1 H:=λc z1 e=>by subst e;exact po
theorem y21{s:S}{ds:List D}(h:plA [s]=some ds):∃ d,ds=[d]/\plD s=some d:=by
 cases s with
 |d x=>cases h;exact⟨x,rfl,rfl⟩
 |fr xs=>cases h;exact⟨_,rfl,rfl⟩
 |_=>cases h
theorem T71{tg e:Ð}{a:Ex}(g:b00 X G E a e):PI X tg e (tIt X.K G E .seq (.cons a .nil)):=by
 intro pins s σ H R I q;obtain⟨zA,ρ,z,rr,rel,st,ee,po⟩:=q;have e0:M.bind (ev G.F a ρ) (λx=>M.bind (M.of (one x)) λs=>M.bind (ev G.F .nil ρ) λy=>M.ret (s::y)) z=some rr:=ee;rcases M.bind_some e0 with ⟨m,z1,e1,e2⟩ | ⟨c,z1,e1,e2⟩
 ·obtain⟨t,ht,e3⟩:=M.a30 e2;cases e3;have hm:=E80 ht;subst hm;obtain⟨xs,hx,po⟩:=po;obtain⟨ds,h1,h2⟩:=Í.mp hx;obtain⟨d,rfl,h3⟩:=y21 h1;cases d with
  |tup l =>
   cases h2;refine R61 g.pe pins s σ H R I ⟨zA,ρ,z,_,rel,st,e1,t,rfl,λv H1 x1 st1 rv=>?_⟩;obtain⟨b,ys,rfl,k1,k2⟩:=(rv.pl.d_ h3).B00;exact⟨b,rfl,⟨ys,(a10 zA H1).sqT k1⟩,po _ H1 x1 st1 λP B sub tup mv pa sf=>x91 (tup _ _ k1) (HdA.move mv (show ∀ y∈xs,P y from pa _ h1 _ Ì) k2)⟩
  |lst l =>
   cases h2;refine K00 g.pe pins s σ H R I ⟨zA,ρ,z,_,rel,st,e1,t,rfl,λv H1 x1 st1 rv=>?_⟩;have fin:∀ {b:Ç}{ys:List V},s00 X.K (hz zA H1) b ys->HdA X.K (hz zA H1) xs ys->((H b=none/\H1 b=some (.lst ys))\/o91 [t]=true)->∃ a,V.ref b=.ref a/\(∃ xs,SqL X.K H1 a xs)/\R (Itl X.K a) H1:=λ{b ys} k1 k2 k5=>by
    exact⟨b,rfl,⟨ys,(k1.same (a10 zA H1)).sq⟩,po _ H1 x1 st1 λP B sub tup mv pa sf=>f81 (sf _ _ k1 k5) (HdA.move mv (show ∀ y∈xs,P y from pa _ h1 _ Ì) k2)⟩
   cases t with
   |d x =>
    cases h3;obtain⟨b,ys,rfl,k1,k2⟩:=Hd.X50 (show Hd X.K (hz zA H1) (.lst xs) v from rv);exact fin k1 k2 (.inr rfl)
   |fr x =>
    cases h3;obtain⟨b,ys,rfl,k0,k1,k2,k3⟩:=rv;exact fin (s00.of (d00 k2 k1)) (k3.same (g90 b _)) (.inl ⟨k0,k2⟩)
   |_=>cases h3
  |_=>cases h2
 ·exact K00 g.pe pins s σ H R I ⟨zA,ρ,z,_,rel,st,e1,(t92 po) c z1 e2⟩
def a11{l:List S}{it:It}{xs:List D}(h:(plA l).bind (itD it)=some xs):∃ ds,plA l=some ds/\itD it ds=some xs:=Í.mp h
theorem y31(x:XI lm X G E N sc){tg a:Ð}{as:Ex}{n:Str}{p pos:Pos}(hn:n="range")(hg:glob sc n=true)(hL:isL as=true)(g:Good X G E as [a]):PI X tg (.Call (.Name n p) [a] [] pos) (tIt X.K G E .rng1 as):=by
 subst hn;obtain⟨k1,k2,k3⟩:=d70 hg;obtain⟨ha,hs⟩:=g.args hL;rw[Å4,Á] at hs;intro pins s σ H R I q;refine Q60 (x.glb _ k1) (x.blt _ 1e1) ha (d10 hs.1 [] X.env) pins s σ H R I ?_
 obtain⟨zA,ρ,z,rr,rel,st,ee,po⟩:=q;refine⟨zA,ρ,z,rr,rel,st,ee,?_⟩;cases rr with
 |er c z1=>exact po
 |ok l z1 =>
  obtain⟨xs,hx,po⟩:=po;intro vs H1 x1 st1 rvs;obtain⟨ds,h1,h2⟩:=a11 hx;have hd:=N60 rvs h1
  match ds,h2 with
  |[.int j],h2 =>
   obtain⟨hj,h2⟩:=f00 h2;have hj:=M90.mp hj;cases h2;obtain⟨v,rfl,h3⟩:=hd.one;cases h3.l70;refine⟨j,rfl,∅,∅,po _ H1 x1 st1 λP B sub tup mv pa sf=>?_⟩
   have:=y01 (K:=X.K) (B:=B) 0 j.toNat;simpa using this
theorem y41(x:XI lm X G E N sc){tg a b:Ð}{as:Ex}{n:Str}{p pos:Pos}(hn:n="range")(hg:glob sc n=true)(hL:isL as=true)(g:Good X G E as [a,b]):PI X tg (.Call (.Name n p) [a,b] [] pos) (tIt X.K G E .rng2 as):=by
 subst hn;obtain⟨k1,k2,k3⟩:=d70 hg;obtain⟨ha,hs⟩:=g.args hL;rw[Å4,Å4,Á,Á] at hs;intro pins s σ H R I q;refine p91 (x.glb _ k1) (x.blt _ 1e1) ha (by rw[d10 hs.1,d10 hs.2.1];rfl) (d10 hs.2.1 [] X.env) pins s σ H R I ?_
 obtain⟨zA,ρ,z,rr,rel,st,ee,po⟩:=q;refine⟨zA,ρ,z,rr,rel,st,ee,?_⟩;cases rr with
 |er c z1=>exact po
 |ok l z1 =>
  obtain⟨xs,hx,po⟩:=po;intro vs H1 x1 st1 rvs;obtain⟨ds,h1,h2⟩:=a11 hx;have hd:=N60 rvs h1
  match ds,h2 with
  |[.int i,.int j],h2 =>
   obtain⟨hj,h2⟩:=f00 h2;have hi:=M90.mp hj.1;have hj:=M90.mp hj.2;cases h2;obtain⟨v,w,rfl,h3,h4⟩:=hd.two;cases h3.l70;cases h4.l70;exact⟨i,j,rfl,∅,po _ H1 x1 st1 λP B sub tup mv pa sf=>y01 i (j - i).toNat⟩
theorem y51{s:S}{r:List S}{ds:List D}(h:plA (s::r)=some ds):∃ x q,ds=x::q/\plD s=some x/\plA r=some q:=by
 cases s with
 |d y =>
  obtain⟨q,e,rfl⟩:=É.mp h;exact⟨y,q,rfl,rfl,e⟩
 |fr y =>
  obtain⟨q,e,rfl⟩:=É.mp h;exact⟨_,q,rfl,rfl,e⟩
 |_=>cases h
theorem e12(h:plA l=some [x,y]):∃ s t,l=[s,t]/\plD s=some x/\plD t=some y:=by
 cases l with
 |nil=>cases h
 |cons s r =>
  obtain⟨_,_,e,h1,h2⟩:=y51 h;cases e;cases r with
  |nil=>cases h2
  |cons t r =>
   obtain⟨_,_,e,h3,h4⟩:=y51 h2;cases e;cases r with
   |nil=>exact⟨s,t,rfl,h1,h3⟩
   |cons u r =>
    obtain⟨_,_,e,_⟩:=y51 h4;cases e
theorem N11{s t:S}(h:o91 [s]=true):o91 [s,t]=true:=by
 match s,h with
 |.d (.lst _),_=>rfl
theorem N21{s t:S}(h:o91 [t]=true):o91 [s,t]=true:=by
 match s with
 |.d (.lst _)=>rfl|.d .non | .d (.bl _) | .d (.int _) | .d (.str _) | .d (.tup _) | .d .dct | .fr _ | .z=>exact h|.ks _=>exact h
theorem y61{K:Â}{zA:Option Ç}{H H1:Hp}{t:S}{v:V}{a:List D}(rv:RvS K zA H H1 t v)(h:plD t=some (.lst a)):∃ b ys,v=.ref b/\s00 K (hz zA H1) b ys/\HdA K (hz zA H1) a ys/\((H b=none/\H1 b=some (.lst ys))\/o91 [t]=true):=by
 cases t with
 |d x =>
  cases h;obtain⟨b,ys,rfl,k1,k2⟩:=Hd.X50 (show Hd K (hz zA H1) (.lst a) _ from rv);exact⟨b,ys,rfl,k1,k2,.inr rfl⟩
 |fr x =>
  cases h;obtain⟨b,ys,rfl,k0,k1,k2,k3⟩:=rv;exact⟨b,ys,rfl,s00.of (d00 k2 k1),k3.same (g90 b _),.inl ⟨k0,k2⟩⟩
 |_=>cases h
theorem y71(x:XI lm X G E N sc){tg a b:Ð}{as:Ex}{n:Str}{p pos:Pos}(ht:u80 tg=true)(hn:n="zip")(hg:glob sc n=true)(hL:isL as=true)(g:Good X G E as [a,b]):PI X tg (.Call (.Name n p) [a,b] [] pos) (tIt X.K G E .zip as):=by
 subst hn;obtain⟨k1,k2,k3⟩:=d70 hg;obtain⟨ha,hs⟩:=g.args hL;rw[Å4,Å4,Á,Á] at hs;cases tg with
 |Tuple es ek ep =>
  intro pins s σ H R I q;refine n22 (x.glb _ k1) (x.blt _ 1e1) ha (by rw[d10 hs.1,d10 hs.2.1];rfl) (d10 hs.2.1 [] X.env) pins s σ H R I ?_
  obtain⟨zA,ρ,z,rr,rel,st,ee,po⟩:=q;refine⟨zA,ρ,z,rr,rel,st,ee,?_⟩;cases rr with
  |er c z1=>exact po
  |ok l z1 =>
   obtain⟨xs,hx,po⟩:=po;intro vs H1 x1 st1 rvs;obtain⟨ds,h1,h2⟩:=a11 hx;have hd:=N60 rvs h1
   match ds,h2 with
   |[.tup a,.tup b],h2 =>
    cases h2;obtain⟨v,w,rfl,h3,h4⟩:=hd.two;obtain⟨p1,us,rfl,m1,m2⟩:=h3.B00;obtain⟨p2,ws,rfl,m3,m4⟩:=h4.B00;exact⟨false,p1,p2,rfl,⟨us,(a10 zA H1).sqT m1⟩,⟨ws,(a10 zA H1).sqT m3⟩,po _ H1 x1 st1 λP B sub tup mv pa sf=>y11 (λ_ x=>a20.sqT x (tup _ _ m1)) (HdA.move mv (show ∀ y∈a,P y from pa _ h1 _ Ì) m2) (λ_ x=>a20.sqT x (tup _ _ m3)) (HdA.move mv (show ∀ y∈b,P y from pa _ h1 _ (Ë _ Ì)) m4)⟩
   |[.lst a,.lst b],h2 =>
    cases h2;obtain⟨t1,t2,rfl,e1,e2⟩:=e12 h1;cases rvs with
    |cons rv1 rn =>
     cases rn with
     |cons rv2 rn =>
      cases rn;obtain⟨p1,us,rfl,m1,m2,m3⟩:=y61 rv1 e1;obtain⟨p2,ws,rfl,m4,m5,m6⟩:=y61 rv2 e2;refine⟨true,p1,p2,rfl,⟨us,(m1.same (a10 zA H1)).sq⟩,⟨ws,(m4.same (a10 zA H1)).sq⟩,po _ H1 x1 st1 λP B sub tup mv pa sf=>y11 (λ_ x=>((sf _ _ m1 (m3.imp id λq=>?_)).same x).sq) (HdA.move mv (show ∀ y∈a,P y from pa _ h1 _ Ì) m2) (λ_ x=>((sf _ _ m4 (m6.imp id λq=>?_)).same x).sq) (HdA.move mv (show ∀ y∈b,P y from pa _ h1 _ (Ë _ Ì)) m5)⟩
      ·exact N11 q
      ·exact N21 q
 |_=>cases ht
abbrev EF:XK:=λ_ _ _=>False
def ttC(K:Â)(G:Gs):Ex->TT
 |.nil=>r41|.cons c _=>tT K G EF c|_=>λ_ _ _=>False
theorem n21(h:turns f (x::r) z=some (.ok ys z2)):∃ o z1 l,f x z=some (.ok o z1)/\turns f r z1=some (.ok l z2)/\ys=(match o with | some y=>y::l | none=>l):=by
 rcases M.bind_some (show M.bind (f x) _ z=_ from h) with ⟨o,z1,e1,e2⟩ | ⟨c,z1,e1,e2⟩
 ·rcases M.bind_some e2 with ⟨l,z3,e3,e4⟩ | ⟨c,z3,e3,e4⟩
  ·cases e4;exact⟨o,z1,l,e1,e3,rfl⟩
  ·cases e4
 ·cases e2
theorem e22{zA:Option Ç}{J:L2.It}{xs ys:List D}{H1:Hp}{z1 z2:Z}{p:Pat}{cond el:Ex}{ρ0:Env}{σ0:L2.St}{Q:VK}(IT:I82 X.K zA J xs H1)(hm:xs.length<=most)(rel0:x20 X.K zA H1 ρ0 σ0)(len:ρ0.length=σ0.length)(st1:c90 zA z1 H1)
 (hc:cond=.nil\/∃ c,cond=.cons c .nil) (e:turns (r50 (ev G.F cond) (ev G.F el) p ρ0) xs z1=some (.ok ys z2))
 (fin:∀ H2 vs l,Ext zA H1 H2->c90 zA z2 H2->HdA X.K (hz zA H2) ys vs->H2 l=none->Q (.ref l) (upd H2 l (.lst vs))):k51 J σ0 H1 (gP X.K p) (ttC X.K G cond) (tI X.K G EF el) Q:=by
 refine⟨λi m vs H=>m=xs.length - i/\i<=xs.length/\vs.length<=i/\∃ yd z rest,Ext zA H1 H/\c90 zA z H/\HdA X.K (hz zA H) yd vs/\turns (r50 (ev G.F cond) (ev G.F el) p ρ0) (xs.drop i) z=some (.ok rest z2)/\ys=yd++rest,
  ⟨xs.length,rfl,Æ5 _,Æ5 _,[],z1,ys,Ext.refl,st1,.nil,by simpa using e,rfl⟩,?_⟩
 rintro i m vs H ⟨rfl,hi,hv,yd,z,rest,x,st,hd,et,ey⟩;by_cases hlt:i < xs.length
 ·refine .inr ⟨IT.go i H x hlt,Å8 hv (Ô hlt (f60 hm)),
   λws H'=>ws.length<=i + 1/\∃ yd z rest,Ext zA H1 H'/\c90 zA z H'/\HdA X.K (hz zA H') yd ws/\turns (r50 (ev G.F cond) (ev G.F el) p ρ0) (xs.drop (i + 1)) z=some (.ok rest z2)/\ys=yd++rest,
   λws H' q=>⟨xs.length - (i + 1),∅,rfl,hlt,q.1,q.2⟩,λv H' y=>?_⟩
  obtain⟨sm,hx⟩:=IT.yld i H v H' z xs[i] x st y (by simp[hlt])
  rw[Ñ2 hlt] at et;obtain⟨o,z3,l,f1,f2,f3⟩:=n21 et;obtain⟨ρ',b1,f4⟩:=M.a30 (show M.bind (M.of (f30 p xs[i] ρ0)) _ z=_ from f1);have x':Ext zA H1 H':=x.trans (Ext.of sm);have st':=st.same sm;refine x81 b1 (rel0.mono x') len hx λσ' rel' len'=>?_;have yes:∀ {za:Z}{Ha:Hp},Ext zA H' Ha->c90 zA za Ha->M.bind (ev G.F el ρ') (λy=>M.bind (M.of (pl y)) λy=>M.ret (some y)) za=some (.ok o z3)->tI X.K G EF el σ' Ha (λy H4=>(vs++[y]).length<=i + 1/\∃ yd z rest,Ext zA H1 H4/\c90 zA z H4/\HdA X.K (hz zA H4) yd (vs++[y])/\turns (r50 (ev G.F cond) (ev G.F el) p ρ0) (xs.drop (i + 1)) z=some (.ok rest z2)/\ys=yd++rest):=λ{za Ha} xa sta ea=>by
   refine i20 (rel'.mono xa) sta ea (λc z1 h=>by cases h) λm z4 e4=>?_
   obtain⟨d,p1,e5⟩:=M.a30 e4;obtain⟨s1,rfl,q1⟩:=f20 p1;cases e5;refine⟨s1,rfl,λw H4 x4 st4 rv=>⟨by rw[ù];simp;omega,yd++[d],z3,l,(x'.trans xa).trans x4,st4,?_,f2,by rw[ey,f3,Ç7];rfl⟩⟩
   exact(hd.same (a20.trans (j50 sm) (a20.trans xa.same x4.same))).append (.cons (rv.pl.d_ q1) .nil)
  rcases hc with rfl | ⟨c,rfl⟩
  ·have f5:M.bind (ev G.F el ρ') (λy=>M.bind (M.of (pl y)) λy=>M.ret (some y)) z=some (.ok o z3):=f4;have ty:ttC X.K G .nil=r41:=rfl;rw[ty];refine J61 ?_;dsimp only;rw[if_pos rfl];exact yes Ext.refl st' f5
  ·rcases M.bind_some (show M.bind (ev G.F (.cons c .nil) ρ') _ z=_ from f4) with ⟨m,za,e1,e2⟩ | ⟨q,za,e1,e2⟩
   ·rcases M.bind_some (show M.bind (ev G.F c ρ') _ z=_ from e1) with ⟨m',zb,e3,e4⟩ | ⟨q,zb,e3,e4⟩
    ·obtain⟨s,hs,e5⟩:=M.a30 e4;cases e5;have hm':=E80 hs;subst hm';show tT X.K G EF c σ' H' _;have tb:∃ b,s=.d (.bl b):=by
      cases s with
      |d y=>cases y with
       |bl b=>exact⟨b,rfl⟩|_=>cases e2
      |_=>cases e2
     obtain⟨b,rfl⟩:=tb;refine⟨zA,ρ',z,_,rel',st',e3,b,rfl,λHa xa sta=>?_⟩;cases b with
     |true =>
      rw[if_pos rfl];exact yes xa sta e2
     |false =>
      rw[if_neg Ï];cases e2;exact⟨Ó hv (le_succ _),yd,z3,l,x'.trans xa,sta,hd.same (a20.trans (j50 sm) xa),f2,by rw[ey,f3]⟩
    ·cases e4
   ·cases e2
 ·have hi':i=xs.length:=∅
  subst hi';rw[drop_length] at et;cases et;refine .inl ⟨IT.stop H x,λl hl=>fin H vs l x st (by rw[ey,Ç6];exact hd) hl⟩
end
section
variable {K:Â}{zA:Option Ç}{z:Z}{H H2:Hp}{P:Ç}{q:Str}
theorem N31(KB:D40 P H H2)(t:Tab H P q)(t2:Tab H2 P q):Ext zA H H2:=by
 refine⟨λb o h=>?_,λb ps h=>?_⟩
 ·obtain⟨h1,h2⟩:=m50 h;have nt:=l80 h;obtain⟨ps,hp,_⟩:=t;have hb:b≠P:=λz=>by
   subst z;rw[hp] at h1;cases h1;exact nt _ rfl
  exact d00 (KB.same b o hb h1) h2 nt
 ·by_cases hb:b=P
  ·subst hb;obtain⟨qs,e,_⟩:=t2;exact⟨qs,e⟩
  ·exact⟨ps,KB.same b _ hb h⟩
theorem e32(KB:D40 P H H2)(t:Tab H P q)(t2:Tab H2 P q)(uq:∀ p∈TB.tb,p.1=P->p.2=q)(st:c90 zA z H):c90 zA z H2:=by
 obtain⟨ps,hp,_⟩:=t;have ne:∀ {b:Ç}{o:HO},H b=some o->(∀ l,o≠.tbl l)->b≠P:=λ{b o} e1 e2 z=>by
  subst z;rw[hp] at e1;cases e1;exact e2 _ rfl
 refine⟨?_,λp hq=>?_⟩
 ·have h:=st.zat;cases zA with
  |none=>cases z with
   |none=>trivial|some _=>exact h.elim
  |some a=>cases z with
   |none=>exact h.elim
   |some pr =>
    have h':H a=some (.lst [.int pr.1,.bl pr.2]):=h;exact KB.same _ _ (ne h' λ_ z=>nomatch z) h'
 ·by_cases hb:p.1=P
  ·rw[uq p hq hb,hb];exact t2
  ·obtain⟨qs,e,tr,k⟩:=st.tab p hq;refine⟨qs,KB.same _ _ hb e,tr,λpos c hc=>?_⟩;obtain⟨c',e1,e2⟩:=k pos c hc;exact⟨c',e1,KB.same _ _ (ne e2 λ_ z=>nomatch z) e2⟩
theorem y81:∀ l:List Nat,(b60 N l).length<=l.length
 |[]=>Î _
 |j::q=>by
  have ih:=y81 (N:=N) q;unfold b60;split
  ·rw[ã,ã];omega
  ·rw[ã];omega
theorem U40(rel:x20 K zA H ρ σ):∀ {capt:List Nat}{ss:List S},S71 ρ capt=some ss->(b60 N capt).length=capt.length ->
 ∃ vs,RvA K zA H ss vs/\vs.length=(b60 N capt).length/\∀ (i:Nat) (x:Str) (v:V),((b60 N capt).map (·.1))[i]?=some x->vs[i]?=some v->∃ j:Nat,N[j]?=some x/\σ[j]?=some (some v)
 |[],ss,h,_=>by
  cases h;exact⟨[],.nil,rfl,λi x v h=>by simp[b60] at h⟩
 |i::capt,ss,h,hl=>by
  have h:(match ρ[i]? with | some (some s)=>(S71 ρ capt).map (s::·) | _=>none)=some ss:=h
  have le:=y81 (N:=N) capt;obtain⟨s,r,e2,h3,rfl⟩:∃ s r,ρ[i]?=some (some s)/\S71 ρ capt=some r/\ss=s::r:=by
   split at h
   ·rename_i s e;obtain⟨r,h3,h4⟩:=É.mp h;exact⟨s,r,e,h3,h4.symm⟩
   ·cases h
  obtain⟨v,k1,k2⟩:=rel i s e2;cases hN:N[i]? with
  |none =>
   unfold b60 at hl;rw[hN] at hl;simp only[ã] at hl;omega
  |some y =>
   unfold b60 at hl ⊢;rw[hN] at hl ⊢;simp only[ã] at hl;obtain⟨vs,a1,a2,a3⟩:=U40 rel (N:=N) (capt:=capt) h3 ∅
   refine⟨v::vs,.cons k2 a1,by simp[a2],λj x u b1 b2=>?_⟩
   cases j with
   |zero =>
    simp only[Æ0,Ë1,Ê2] at b1 b2;subst b1;subst b2;exact⟨i,hN,k1⟩
   |succ j=>exact a3 j x u (by simpa using b1) (by simpa using b2)
theorem f91:∀ {ss:List S}{vs:List V},RvA K zA H ss vs->x20 K zA H (ss.map some) (vs.map some)
 |[],_,h,i,s,e=>by simp at e
 |a::ss,_,h,i,s,e=>by
  cases h with
  |cons h1 h2 =>
   cases i with
   |zero =>
    simp only[Æ0,Ë1,Ê2] at e;subst e;exact⟨_,rfl,h1⟩
   |succ i =>
    obtain⟨v,k1,k2⟩:=f91 h2 i s (by simpa using e)
    exact⟨v,by simpa using k1,k2⟩
end
theorem i70{env:Ç8}{k0:Ë7}(hk:k0≠.free):∀ {names:List (Str × Ë7)}{x:Str},names.lookup x=some k0 ->
 (names.map λ(n,k)=>if (k == ô&&env.scope.kind == .function&&env.kindOf n == some .cell) then(n,Æ3) else(n,k)).lookup x=some k0
 |[],_,h=>by simp at h
 |(n,k)::r,x,h=>by
  have ih:=@i70 env k0 hk r x;show Í6 x ((if (k == ô&&env.scope.kind == .function&&env.kindOf n == some .cell)=true then(n,Æ3) else(n,k))::_)=_;cases hx:x == n with
  |true =>
   simp only[À7,hx] at h;cases h;have:(k0 == ô)=false:=by simpa using hk
   rw[this,Ì3,Ì3,if_neg Ï];simp only[À7,hx]
  |false =>
   simp only[À7,hx] at h;by_cases hq:(k == ô&&env.scope.kind == .function&&env.kindOf n == some .cell)=true
   ·rw[if_pos hq];simp only[À7,hx];exact ih h
   ·rw[if_neg hq];simp only[À7,hx];exact ih h
section
variable {lm:Bool}{X:Cx}{G:Gs}{E:XK}{N:List Str}{sc csc:ë}{on:List Str}{cs:List (Str × Nat)}
structure N41(csc sc:Scope)(N on:List Str)(cs:List (Str × Nat)):Prop where
 kind:csc.kind=.function
 nocell:∀ y∈csc.names,y.2≠.cell
 locs:∀ y∈csc.names,y.2=.local->csc.names.lookup y.1=some .local
 frees:∀ y∈csc.names,y.2=.free->(sc.names.lookup y.1=some .cell\/sc.names.lookup y.1=some .free)
 captd:∀ p∈cs,N[p.2]?=some p.1/\csc.names.lookup p.1=some .free
 own:∀ x∈on,csc.names.lookup x=some .local
 nd:(on++cs.map (·.1)).Nodup
theorem N51(h:I00 csc sc N on cs=true):N41 csc sc N on cs:=by
 unfold I00 at h;simp only[Á] at h;obtain⟨⟨⟨⟨⟨⟨h1,h2⟩,h3⟩,h4⟩,h5⟩,h6⟩,h7⟩:=h;rw[Ä6] at h2 h3 h4 h5 h6;refine⟨by simpa using h1,λy hy=>by simpa using h2 y hy,λy hy hl=>?_,λy hy hf=>?_,λp hp=>by simpa using h5 p hp,λx hx=>by simpa using h6 x hx,of_decide_eq_true h7⟩
 ·have:=h3 y hy;rw[hl] at this;simpa using this
 ·have:=h4 y hy;rw[hf] at this;simpa using this
def a21(x:XI lm X G E N sc)(c:N41 csc sc N on cs):n40 X csc on cs:=⟨c.kind,c.nocell,c.locs,λy hy hf=>x.cel _ (c.frees y hy hf),λp hp=>by rw[x.hN];exact c.captd p hp⟩
theorem N90(x:XI lm X G E N sc)(c:N41 csc sc N on cs)(cl:List (Str × Ç))(C:Ç)(s:Æ)(H:Hp)(fp:List Ç):XI false (c40 X (c70 on cs) csc cl C s H fp) G EF (on++cs.map (·.1)) csc where
 gok:=x.gok
 num:=x.num
 blt:=x.blt
 hN:=rfl
 nd:=c.nd
 vis:=λy hy=>by
  rcases Á2.mp hy with h | h
  ·exact .inl (i70 1e1 (c.own y h))
  ·obtain⟨p,hp,rfl⟩:=Ò.mp h;rcases q30 (env:=X.env) (c.captd p hp).2 with h | h
   ·exact .inr (.inl h)
   ·exact .inr (.inr h)
 glb:=λy hy=>i70 1e1 hy
 cel:=λy hy=>by
  rcases hy with h | h
  ·exact .inl (i70 1e1 h)
  ·exact q30 (env:=X.env) h
 calm:=x.calm
 room:=x.room
 pas:=o62
 lam:=λh=>nomatch h
theorem O00(x:XI lm X G E N sc)(c:N41 csc sc N on cs)(cl:List (Str × Ç))(C:Ç)(s:Æ)(H:Hp)(fp:List Ç):N01 (c40 X (c70 on cs) csc cl C s H fp) (on++cs.map (·.1)) (λy=>on.contains y) where
 hN:=rfl
 nd:=c.nd
 lc:=λy hy=>.inl (i70 1e1 (c.own y (by simpa using hy)))
 fn:=λy hy=>.inr (i70 1e1 (c.own y (by simpa using hy)))
 calm:=x.calm
theorem g01:∀ {capt:List Nat},(b60 N capt).length=capt.length->(b60 N capt).map (·.2)=capt
 |[],_=>rfl
 |i::r,h=>by
  have le:∀ l:List Nat,(b60 N l).length<=l.length:=by
   intro l
   induction l with
   |nil=>exact Î _
   |cons j q ih =>
    unfold b60;split
    ·rw[ã,ã];omega
    ·rw[ã];omega
  unfold b60 at h ⊢;split at h
  ·rename_i y hy;rw[ã,ã] at h;rw[Æ0,g01 ∅]
  ·have:=le r;rw[ã] at h;omega
theorem N61(rel:x20 X.K zA H ρ σ)(h:cs.map (·.2)=capt):x20 X.K zA H (ð on.length none++capt.map λi=>(ρ[i]?).getD none) (r40 on cs σ) /\
  (ð on.length (none:Option S)++capt.map λi=>(ρ[i]?).getD none).length=(r40 on cs σ).length:=by
 subst h;constructor
 ·intro j s e;unfold r40;by_cases hj:j < on.length
  ·rw[Ñ1 (by simpa using hj)] at e
   simp[Ó4,hj] at e
  ·rw[Å7 (by simpa using hj),á2,Û,Û] at e
   rw[Å7 (by simpa using hj),È,Û]
   cases hp:cs[j - on.length]? with
   |none=>rw[hp] at e;simp at e
   |some p =>
    rw[hp] at e;simp only[map_some,Ê2] at e;have e2:ρ[p.2]?=some (some s):=by
     cases hr:ρ[p.2]? with
     |none=>rw[hr] at e;cases e
     |some o=>rw[hr] at e;exact congrArg some e
    obtain⟨v,h1,h2⟩:=rel p.2 s e2;exact⟨v,by simp[h1],h2⟩
 ·unfold r40;simp
theorem a31(h:p00 e=true)(env:Ç8)(x:Ä):Å3 e env x=pure x:=by
 cases e with
 |Set _ _ _=>cases h
 |_=>rfl
def I20(X:Cx)(G:Gs)(E:XK)(x:Ex)(elt tg iter:Ð)(ifs:List Ð)(csc:ë):Prop:=∃ (own:List Str) (capt:List (Str × Nat)) (wi:TI) (g:TG) (tt:TT) (te:TE),n40 X csc own capt/\PI X tg iter wi /\
 (∀ cl C s H fp,PG (c40 X (c70 own capt) csc cl C s H fp) tg g)/\(∀ cl C s H fp,PTs (c40 X (c70 own capt) csc cl C s H fp) ifs tt)/\(∀ cl C s H fp,PE (c40 X (c70 own capt) csc cl C s H fp) elt te) /\
 (∀ x,Å3 iter X.env x=pure x)/\∀ σ H Q,tI X.K G E x σ H Q->Y01 own capt wi g tt te σ H Q
theorem I92(x:XI lm X G E N sc){p:Pat}{it:It}{src cond el:Ex}{capt:List Nat}{elt tg iter:Ð}{ifs:List Ð}(c:N41 csc sc N on cs)(hcap:cs.map (·.2)=capt)(hp:i30 (on++cs.map (·.1)) (λy=>on.contains y) p tg=true)
  (hi:PI X tg iter (tIt X.K G E it src)) (hns:p00 iter=true) (hc:(cond=.nil/\ifs=[])\/∃ q f,cond=.cons q .nil/\ifs=[f]/\∀ cl C s H fp,PT (c40 X (c70 on cs) csc cl C s H fp) f (tT X.K G EF q))
  (he:∀ cl C s H fp,PE (c40 X (c70 on cs) csc cl C s H fp) elt (tI X.K G EF el)):I20 X G E (.comp on.length capt p it src cond el) elt tg iter ifs csc:=by
 have ht:∀ cl C s H fp,PTs (c40 X (c70 on cs) csc cl C s H fp) ifs (ttC X.K G cond):=by
  rcases hc with ⟨rfl,rfl⟩ | ⟨q,f,rfl,rfl,h⟩
  ·exact λcl C s H fp=>r51
  ·exact λcl C s H fp=>r61 (h cl C s H fp)
 refine⟨on,cs,tIt X.K G E it src,gP X.K p,ttC X.K G cond,tI X.K G EF el,a21 x c,hi,λcl C s H fp=>n11 (O00 x c cl C s H fp) hp,ht,he,a31 hns X.env,λσ H Q q=>?_⟩;obtain⟨zA,ρ,z,rr,rel,st,e,po⟩:=q;have e0:M.bind (ev G.F src ρ) (λl=>M.bind (M.of ((plA l).bind (itD it))) λxs=>if xs.length<=most then M.bind (M.calm (turns (r50 (ev G.F cond) (ev G.F el) p (ð on.length none++capt.map λi=>(ρ[i]?).getD none)) xs)) λys=>M.ret [.fr ys] else M.no) z=some rr:=e;rcases M.bind_some e0 with ⟨m,z1,e1,e2⟩ | ⟨k,z1,e1,e2⟩
 ·obtain⟨xs,hx,e3⟩:=M.a30 e2;refine⟨zA,ρ,z,_,rel,st,e1,xs,hx,λJ H1 x1 st1 IT'=>?_⟩;have IT:=IT'.ok;split at e3
  ·rename_i hm;rcases M.bind_some e3 with ⟨ys,z2,e4,e5⟩ | ⟨k,z2,e4,e5⟩
   ·cases e5;have e6:turns (r50 (ev G.F cond) (ev G.F el) p (ð on.length none++capt.map λi=>(ρ[i]?).getD none)) xs z1=some (.ok ys z2):=by
     unfold M.calm at e4;split at e4
     ·rename_i h;cases e4;exact h
     ·cases e4
    obtain⟨r1,r2⟩:=N61 (on:=on) (rel.mono x1) hcap;refine e22 IT hm r1 r2 st1 (by rcases hc with ⟨h,_⟩ | ⟨q,_,h,_⟩;exact .inl h;exact .inr ⟨q,h⟩) e6 λH2 vs l x2 st2 hd hl=>?_
    exact e20 po (x1.trans x2) st2 _ _ (a20.new _ hl) (l90 st2 hd hl)
   ·unfold M.calm at e4;split at e4 <;> cases e4
  ·cases e3
 ·exact⟨zA,ρ,z,_,rel,st,e1,(f40 po) k z1 e2⟩
theorem I20.good{x:Ex}{elt tg iter:Ð}{ifs:List Ð}{csc:ë}{pos:Pos}(hc:X.calm=true)(h:I20 X G E x elt tg iter ifs csc):b00 X G E x (.ListComp elt [⟨tg,iter,ifs,0⟩] csc pos):=by
 obtain⟨own,capt,wi,g,tt,te,h1,h2,h3,h4,h5,h6,h7⟩:=h;exact b10 (PE.imp (r71 hc h1 h2 h3 h4 h5 h6) h7) rfl
theorem b70(h:(!isL x)=true):isL x=false:=by simpa using h
theorem y91(hL:isL x=true)(g:Good X G E x [e]):∃ a,x=.cons a .nil/\b00 X G E a e:=by
 cases x with
 |nil=>cases (show [e]=[] from g)
 |cons a r =>
  obtain⟨e',es,h,ns,ga,lr,gr⟩:=g;cases h;cases r with
  |nil=>exact⟨a,rfl,ga⟩|cons b q=>obtain⟨e,es,h,_⟩:=gr;cases h
  |_=>cases lr
 |_=>cases hL
theorem U50{lm:Bool}{G:Gs}{own:Nat}{capt:List Nat}{p:Pat}{it:It}{src cond el:Ex}(ihs:(∀ {X:Cx}{E:XK}{N:List Str}{sc:ë},XI lm X G E N sc->∀ {es:List Ð},mt lm G.fns G.nums src sc N es=true->Good X G E src es))(ihc:(∀ {X:Cx}{E:XK}{N:List Str}{sc:ë},XI false X G E N sc->∀ {es:List Ð},mt false G.fns G.nums cond sc N es=true->Good X G E cond es))(ihe:(∀ {X:Cx}{E:XK}{N:List Str}{sc:ë},XI false X G E N sc->∀ {es:List Ð},mt false G.fns G.nums el sc N es=true->Good X G E el es))
 {X:Cx}{E:XK}{N:List Str}{sc:ë} (x:XI lm X G E N sc) {elt tg iter:Ð}{ifs:List Ð}{csc:ë} (h:(d50 tg).length == own&&(b60 N capt).length == capt.length&&I00 csc sc N (d50 tg) (b60 N capt)&&i30 (d50 tg++(b60 N capt).map (·.1)) (λx=>(d50 tg).contains x) p tg&&isL src&&!isL el&&isL cond&&ifs.length<=1&&noStar elt&&p00 iter&&ifs.all (λc=>!ifB c) &&
    (match it with
    |.seq=>mt lm G.fns G.nums src sc N [iter]|.rng1=>opt (H02 iter) λr=>r.1.1 == ("range":Str)&&glob sc r.1.1&&mt lm G.fns G.nums src sc N [r.1.2.2.1]|.rng2=>opt (j72 iter) λr=>r.1.1 == ("range":Str)&&glob sc r.1.1&&mt lm G.fns G.nums src sc N [r.1.2.2.1,r.1.2.2.2.1]|.zip=>opt (j72 iter) λr=>r.1.1 == ("zip":Str)&&glob sc r.1.1&&u80 tg&&mt lm G.fns G.nums src sc N [r.1.2.2.1,r.1.2.2.2.1]
    )&&mt false G.fns G.nums cond csc (d50 tg++(b60 N capt).map (·.1)) ifs&&mt false G.fns G.nums el csc (d50 tg++(b60 N capt).map (·.1)) [elt]):I20 X G E (.comp own capt p it src cond el) elt tg iter ifs csc:=by
 simp only[Á,beq_iff_eq,decide_eq_true_eq] at h;obtain⟨⟨⟨⟨⟨⟨⟨⟨⟨⟨⟨⟨⟨h1,h2⟩,h3⟩,h4⟩,h5⟩,h6⟩,h7⟩,h8⟩,h9⟩,h10⟩,h11⟩,h12⟩,h13⟩,h14⟩:=h;subst h1;have c:=N51 h3;have hi:PI X tg iter (tIt X.K G E it src):=by
  cases it with
  |seq =>
   obtain⟨a,rfl,ga⟩:=y91 h5 (ihs x h12);exact T71 ga
  |rng1 =>
   obtain⟨⟨⟨n,_,a,_⟩,rfl⟩,-,h12⟩:=a60 h12;simp only[Á,beq_iff_eq] at h12;exact y31 x h12.1.1 h12.1.2 h5 (ihs x h12.2)
  |rng2 =>
   obtain⟨⟨⟨n,_,a,b,_⟩,rfl⟩,-,h12⟩:=a60 h12;simp only[Á,beq_iff_eq] at h12;exact y41 x h12.1.1 h12.1.2 h5 (ihs x h12.2)
  |zip =>
   obtain⟨⟨⟨n,_,a,b,_⟩,rfl⟩,-,h12⟩:=a60 h12;simp only[Á,beq_iff_eq] at h12;exact y71 x h12.1.2 h12.1.1.1 h12.1.1.2 h5 (ihs x h12.2)
 have hc:(cond=.nil/\ifs=[])\/∃ q f,cond=.cons q .nil/\ifs=[f]/\∀ cl C s H fp,PT (c40 X (c70 (d50 tg) (b60 N capt)) csc cl C s H fp) f (tT X.K G EF q):=by
  match ifs,h8,h11,h13 with
  |[],_,_,h13 =>
   cases cond with
   |nil=>exact .inl ⟨rfl,rfl⟩|cons a r=>cases h13
   |_=>cases h7
  |[f],_,h11,h13 =>
   cases cond with
   |nil=>cases h13
   |cons a r =>
    have h13':(noStar f&&!isL a&&isL r&&mt false G.fns G.nums a csc (d50 tg++(b60 N capt).map (·.1)) [f]&&mt false G.fns G.nums r csc (d50 tg++(b60 N capt).map (·.1)) [])=true:=h13;simp only[Á] at h13';have rn:r=.nil:=by
     cases r with
     |nil=>rfl|cons b q=>cases h13'.2
     |_=>cases h13'.1.1.2
    subst rn;simp only[Å4,all_nil,Ø4] at h11;refine .inr ⟨a,f,rfl,rfl,λcl C s H fp=>?_⟩;obtain⟨e',es,he,ns,ga,lr,gr⟩:=ihc (N90 x c cl C s H fp) h13;cases he;exact ga.pt (d72 h11)
   |_=>cases h7
 refine I92 x c (g01 h2) h4 hi h10 hc λcl C s H fp=>?_;exact(a90 (b70 h6) (ihe (N90 x c cl C s H fp) h14)).pe
theorem F10{K:Â}{H H1:Hp}(sm:a20 H H1):∀ {l:List D}{ys:List V}{kss:List (List Int)},HdA K H l ys->v41 l=some kss->À5 (λy ks=>∃ b,y=V.ref b/\SqT K H1 b (ks.map V.int)) ys kss
 |[],_,_,h,e=>by rw[h.f50];cases e;exact .nil
 |d::l,_,_,h,e=>by
  obtain⟨v,r,rfl,h1,h2⟩:=h.c50;obtain⟨k,e1,e2⟩:=Í.mp (show(j62 d).bind _=_ from e);obtain⟨q,e3,rfl⟩:=É.mp e2;refine .cons ?_ (F10 sm h2 e3);cases d with
  |tup t =>
   obtain⟨b,xs,rfl,k1,k2⟩:=h1.B00;obtain⟨rfl,_⟩:=o80 (show w90 t=some k from e1) k2;exact⟨b,rfl,sm.sqT k1⟩
  |_=>cases e1
theorem J02{K:Â}{zA:Option Ç}{z:Z}{H:Hp}{d:Ç}{kss:List (List Int)}(st:c90 zA z H)(hd:zA≠some d)(h:l81 K H d kss):l81 K (hz zA H) d kss:=by
 obtain⟨xs,h1,h2,h3,h4⟩:=h;exact⟨xs,d00 h1 hd,h2,λx hx=>st.b62 (h3 x hx),h4⟩
theorem J12{n:Str}(h:b30 n=true):(n == ("__debug__":Str))=false:=by
 unfold b30 at h;simp only[Á,î] at h;exact h.1
theorem e42(x:XI lm X G E N sc){a:Ex}{n:Str}{p1 p2 px ps:Pos}{k:Nat}{iter:Ð}(c:N41 csc sc N [n] [])(hd:b30 n=true)(hns:p00 iter=true)(ga:b00 X G E a iter):b00 X G E (.dkeys a) (.DictComp (.Name n p1) (.Constant (.bool true) k p2) [⟨.Name n px,iter,[],0⟩] csc ps):=by
 refine b10 (PE.imp (L01 x.calm (Nat.lt_of_succ_lt (X71 x.room)) (a21 x c) (c.own n Ì) (J12 hd) ga.pe (a31 hns X.env)) λσ H Q q=>?_) rfl;obtain⟨zA,ρ,z,rr,rel,st,e,po⟩:=q;refine i20 rel st e (f40 po) λm z1 e1=>?_;obtain⟨kss,g1,e2⟩:=M.a30 e1;obtain⟨d,h1,h2⟩:=Í.mp g1;obtain⟨s1,rfl,q1⟩:=f20 h1;cases e2;refine⟨s1,rfl,λv H1 x1 st1 rv=>?_⟩;cases d with
 |lst l =>
  obtain⟨b,ys,rfl,k1,k2⟩:=(rv.pl.d_ q1).X50;exact⟨b,ys,kss,rfl,(k1.same (a10 zA H1)).sq,F10 (a10 zA H1) k2 h2,λd H2 sm hn ok=>e20 po x1 st1 _ _ sm ⟨d,rfl,J02 (st1.same sm) (st1.E30 hn) ok⟩⟩
 |_=>cases h2
theorem u02(o:Bool)(x:XI lm X G E N sc){a:Ex}{i:Nat}{e:Ð}{n:Str}{p pos:Pos}(h1:N[i]?=some n)(h2:b30 n=true)(ga:b00 X G E a e):b00 X G E (.memk o a i) (.Compare e [A52 o] [.Name n p] pos):=by
 have h2':=h2;unfold b30 at h2';simp only[Á,î] at h2';have pv:=k20 (X:=X) (i:=i) (pos:=p) (by rw[x.hN];exact h1) (x.vis n (æ h1)) h2'.1 h2'.2
 suffices key:∀ σ H Q,tI X.K G E (.memk o a i) σ H Q->tOp (p22 X.K o) (tI X.K G E a) (k82 i) σ H Q by
  refine⟨PE.imp (q11 (u01 o (X71 x.room)) ga.pe pv rfl) key,λ_=>PT.imp (K20 (u01 o (X71 x.room)) ga.pe pv rfl) λσ H Q q=>?_,λop vs p h=>by cases h⟩
  obtain⟨zA,ρ,z,rr,rel,st,e,po⟩:=q;exact key σ H _ ⟨zA,ρ,z,rr,rel,st,e,w91 po⟩
 intro σ H Q q;obtain⟨zA,ρ,z,rr,rel,st,e,po⟩:=q;refine i20 rel st e (f40 po) λm z1 e1=>?_;obtain⟨k,g1,e2⟩:=M.a30 e1;obtain⟨d,h3,h4⟩:=Í.mp g1;obtain⟨s1,rfl,q1⟩:=f20 h3;obtain⟨kss,g2,e3⟩:=M.a30 e2;cases e3;refine⟨s1,rfl,λv H1 x1 st1 rv=>?_⟩;have hr:ρ[i]?=some (some (.ks kss)):=by
  unfold F12 at g2;split at g2
  ·cases g2;assumption
  ·cases g2
 obtain⟨w,w1,w2⟩:=(rel.mono x1) i _ hr;obtain⟨b,rfl,ok⟩:=w2;cases d with
 |tup t =>
  obtain⟨c,xs,rfl,k1,k2⟩:=(rv.pl.d_ q1).B00;obtain⟨rfl,_⟩:=o80 (show w90 t=some k from h4) k2;have ok':l81 X.K H1 b kss:=ok.same (a10 zA H1);refine⟨_,w1,c,k,b,kss,rfl,rfl,(a10 zA H1).sqT k1,ok',?_⟩;have eq:kss.contains k=decide (k∈kss):=by rw[Â7];simp
  have:=e20 po x1 st1 _ _ (a20.refl H1) (i10 (b:=kss.contains k == o));rw[eq] at this;exact this
 |_=>cases h4
theorem u12:∀ (t:Ex) {lm:Bool}{G:Gs}{X:Cx}{E:XK}{N:List Str}{sc:ë},XI lm X G E N sc->∀ {es:List Ð},mt lm G.fns G.nums t sc N es=true->Good X G E t es:=by
 intro t
 induction t with
 |nil =>
  intro lm G X E N sc x es h;exact Ó3.mp h
 |cons a r iha ihr =>
  intro lm G X E N sc x es h;cases es with
  |nil=>cases h
  |cons e es =>
   have h:(noStar e&&!isL a&&isL r&&mt lm G.fns G.nums a sc N [e]&&mt lm G.fns G.nums r sc N es)=true:=h;simp only[Á] at h;obtain⟨⟨⟨⟨h1,h2⟩,h3⟩,h4⟩,h5⟩:=h;exact⟨e,es,rfl,h1,a90 (b70 h2) (iha x h4),h3,ihr x h5⟩
 |var i =>
  intro lm G X E N sc x es h;obtain⟨⟨q,rfl⟩,-,h⟩:=a60 h;simp only[Á,beq_iff_eq] at h;exact c00 rfl (H12 x h.1 h.2)
 |con d =>
  intro lm G X E N sc x es h;rcases (Å9 _ _).mp h with h | h
  ·obtain⟨⟨q,rfl⟩,-,h⟩:=a60 h;exact c00 rfl (H22 h)
  ·obtain⟨⟨p,rfl⟩,-,h⟩:=a60 h;cases d with
   |dct=>exact c00 rfl H32|_=>cases h
 |gint g i =>
  intro lm G X E N sc x es h;obtain⟨⟨⟨n,p⟩,rfl⟩,-,h⟩:=a60 h;simp only[Á,beq_iff_eq,É8] at h;obtain⟨⟨rfl,h2⟩,h3⟩:=h;exact c00 rfl (s02 x h2 h3)
 |tup as ih =>
  intro lm G X E N sc x es h;obtain⟨⟨q,rfl⟩,-,h⟩:=a60 h;simp only[Á] at h;exact c00 rfl (H42 h.1 (ih x h.2))
 |lst as ih =>
  intro lm G X E N sc x es h;obtain⟨⟨q,rfl⟩,-,h⟩:=a60 h;simp only[Á] at h;exact c00 rfl (H52 h.1 (ih x h.2))
 |bin o a b iha ihb =>
  intro lm G X E N sc x es h;obtain⟨⟨⟨l,op,r,p⟩,rfl⟩,-,h⟩:=a60 h;simp only[Á,beq_iff_eq] at h;obtain⟨⟨⟨⟨rfl,h2⟩,h3⟩,h4⟩,h5⟩:=h;exact c00 rfl (H62 (a90 (b70 h2) (iha x h4)) (a90 (b70 h3) (ihb x h5)))
 |cmp o a b iha ihb =>
  intro lm G X E N sc x es h;obtain⟨⟨⟨l,op,r,p⟩,rfl⟩,-,h⟩:=a60 h;simp only[Á,beq_iff_eq] at h;obtain⟨⟨⟨⟨⟨rfl,h1⟩,h2⟩,h3⟩,h4⟩,h5⟩:=h;exact c00 rfl (H72 x h1 (a90 (b70 h2) (iha x h4)) (a90 (b70 h3) (ihb x h5)))
 |neg a ih =>
  intro lm G X E N sc x es h;obtain⟨⟨q,rfl⟩,-,h⟩:=a60 h;simp only[Á] at h;exact c00 rfl (H82 (a90 (b70 h.1) (ih x h.2)))
 |not a ih =>
  intro lm G X E N sc x es h;obtain⟨⟨q,rfl⟩,-,h⟩:=a60 h;simp only[Á] at h;obtain⟨⟨h1,h2⟩,h3⟩:=h;exact c00 rfl (H92 (a90 (b70 h1) (ih x h3)) (d72 h2))
 |and a b iha ihb =>
  intro lm G X E N sc x es h;obtain⟨⟨⟨l,r,vs,p⟩,rfl⟩,-,h⟩:=a60 h;simp only[Á] at h;obtain⟨⟨⟨⟨h1,h2⟩,h3⟩,h4⟩,h5⟩:=h;refine c00 rfl (I02 (a90 (b70 h1) (iha x h4)) (d72 h3) ?_);cases vs with
  |nil =>
   rw[if_pos (show([]:List Ð).isEmpty=true from rfl),Á] at h5;exact s12 (a90 (b70 h2) (ihb x h5.2)) (d72 h5.1)
  |cons v vs =>
   rw[if_neg (by exact Ï)] at h5
   exact a90 (b70 h2) (ihb x h5)
 |or a b iha ihb =>
  intro lm G X E N sc x es h;obtain⟨⟨⟨l,r,vs,p⟩,rfl⟩,-,h⟩:=a60 h;simp only[Á] at h;obtain⟨⟨⟨⟨h1,h2⟩,h3⟩,h4⟩,h5⟩:=h;refine c00 rfl (V92 (a90 (b70 h1) (iha x h4)) (d72 h3) ?_);cases vs with
  |nil =>
   rw[if_pos (show([]:List Ð).isEmpty=true from rfl),Á] at h5;exact s12 (a90 (b70 h2) (ihb x h5.2)) (d72 h5.1)
  |cons v vs =>
   rw[if_neg (by exact Ï)] at h5
   exact a90 (b70 h2) (ihb x h5)
 |orT a b iha ihb =>
  intro lm G X E N sc x es h;obtain⟨⟨⟨l,r,vs,p⟩,rfl⟩,-,h⟩:=a60 h;simp only[Á] at h;obtain⟨⟨⟨⟨h1,h2⟩,h3⟩,h4⟩,h5⟩:=h;cases vs with
  |nil=>exact c00 rfl (I12 (a90 (b70 h1) (iha x h4)) (a90 (b70 h2) (ihb x h5)))|cons v vs=>cases h3
 |ite c a b ihc iha ihb =>
  intro lm G X E N sc x es h;obtain⟨⟨q,rfl⟩,-,h⟩:=a60 h;simp only[Á] at h;obtain⟨⟨⟨⟨⟨⟨h1,h2⟩,h3⟩,h4⟩,h5⟩,h6⟩,h7⟩:=h;exact c00 rfl (I22 (a90 (b70 h1) (ihc x h5)) (d72 h4) (a90 (b70 h2) (iha x h6)) (a90 (b70 h3) (ihb x h7)))
 |ch o o' a b c iha ihb ihc =>
  intro lm G X E N sc x es h;obtain⟨⟨⟨l,op,op',r,s,p⟩,rfl⟩,-,h⟩:=a60 h;simp only[Á,beq_iff_eq] at h;obtain⟨⟨⟨⟨⟨⟨⟨⟨rfl,rfl⟩,h1⟩,h2⟩,h3⟩,h4⟩,h5⟩,h6⟩,h7⟩:=h;exact c00 rfl (W02 x h1 (a90 (b70 h2) (iha x h5)) (a90 (b70 h3) (ihb x h6)) (a90 (b70 h4) (ihc x h7)))
 |bf f as ih =>
  intro lm G X E N sc x es h;rcases (Å9 _ _).mp h with h | h
  rotate_left
  ·rw[Á] at h;obtain⟨hf,h⟩:=h;obtain⟨⟨⟨n,p1,m,p2,e,p3,p4⟩,rfl⟩,-,h⟩:=a60 h;simp only[Á,beq_iff_eq] at h;obtain⟨⟨⟨⟨⟨h1,h2⟩,h3⟩,h4⟩,h5⟩,h6⟩:=h;have h1:n="sorted":=h1;have h2:m="set":=h2;subst h1;subst h2;cases f with
   |sset=>exact c00 rfl (t62 x h3 h4 h5 (ih x h6))|_=>cases hf
  obtain⟨⟨q,rfl⟩,-,h⟩:=a60 h;simp only[Á,beq_iff_eq] at h;obtain⟨⟨⟨⟨h1,h2⟩,h3⟩,h4⟩,h5⟩:=h;exact c00 rfl (W12 x h1 h2 h3 h4 (ih x h5))
 |isi t a ih =>
  intro lm G X E N sc x es h;obtain⟨⟨⟨n,q,e,ty,p⟩,rfl⟩,-,h⟩:=a60 h;simp only[Á,beq_iff_eq] at h;obtain⟨⟨⟨⟨⟨h1,h2⟩,h3⟩,h4⟩,h5⟩,h6⟩:=h;have g:=a90 (b70 h4) (ih x h5);refine c00 rfl ?_;have one:∀ t:Ty,t≠.seq->(opt (shN ty) λq=>q.1.1 == À8 (tyN t)&&glob sc (À8 (tyN t)))=true->b00 X G E (.isi t a) (.Call (.Name n q) [e,ty] [] p):=λt hs h6=>by
   obtain⟨⟨⟨a,_⟩,rfl⟩,-,h6⟩:=a60 h6;simp only[Á,beq_iff_eq] at h6;obtain⟨rfl,k1⟩:=h6;exact t02 x hs k1 h1 h2 h3 g
  cases t with
  |seq =>
   obtain⟨⟨⟨a,_,b,_,_,_⟩,rfl⟩,-,h6⟩:=a60 h6;simp only[Á,beq_iff_eq] at h6;obtain⟨⟨⟨rfl,rfl⟩,k1⟩,k2⟩:=h6;exact t12 x k1 k2 h1 h2 h3 g
  |_=>exact one _ (λh=>by cases h) h6
 |idx a i iha ihi =>
  intro lm G X E N sc x es h;obtain⟨⟨q,rfl⟩,-,h⟩:=a60 h;simp only[Á] at h;obtain⟨⟨⟨⟨h1,h2⟩,h3⟩,h4⟩,h5⟩:=h;exact c00 rfl (I42 h1 (a90 (b70 h2) (iha x h4)) (a90 (b70 h3) (ihi x h5)))
 |sl a lo hi iha ihl ihh =>
  intro lm G X E N sc x es h;obtain⟨⟨q,rfl⟩,-,h⟩:=a60 h;simp only[Á] at h;obtain⟨⟨⟨⟨⟨h1,h2⟩,h3⟩,h4⟩,h5⟩,h6⟩:=h;exact c00 rfl (W22 (a90 (b70 h1) (iha x h4)) h2 h3 (ihl x h5) (ihh x h6))
 |rev a ih =>
  intro lm G X E N sc x es h;obtain⟨⟨q,rfl⟩,-,h⟩:=a60 h;simp only[Á] at h;exact c00 rfl (I72 (a90 (b70 h.1) (ih x h.2)))
 |call f as ih =>
  intro lm G X E N sc x es h;obtain⟨⟨⟨n,q,e,l,p⟩,rfl⟩,-,h⟩:=a60 h;simp only[Á] at h;obtain⟨⟨⟨h1,h2⟩,h3⟩,h4⟩:=h;obtain⟨pr,hf,h1'⟩:=a60 h1;simp only[Á,beq_iff_eq] at h1';obtain⟨rfl,h7⟩:=h1';exact c00 rfl (s_call x hf h7 h2 h3 (ih x h4))
 |comp own capt p it src cond el ihs ihc ihe =>
  intro lm G X E N sc x es h;obtain⟨⟨q,rfl⟩,-,h⟩:=a60 h;exact c00 rfl ((U50 ihs ihc ihe x h).good x.calm)
 |lrng b as ih =>
  intro lm G X E N sc x es h;obtain⟨⟨⟨n,p,m,q,a,r,t⟩,rfl⟩,-,h⟩:=a60 h;simp only[Á,beq_iff_eq] at h;obtain⟨⟨⟨⟨⟨⟨h1,h2⟩,h3⟩,h4⟩,h5⟩,h7⟩,h6⟩:=h;subst h1;subst h2;cases a with
  |nil=>simp at h7|cons a l=>exact c00 rfl (t42 x h3 h4 h5 (ih x h6))
 |dkeys a ih =>
  intro lm G X E N sc x es h;obtain⟨⟨q,rfl⟩,-,h⟩:=a60 h;simp only[Á] at h;obtain⟨⟨⟨⟨h1,h2⟩,h3⟩,h4⟩,h5⟩:=h;exact c00 rfl (e42 x (N51 h1) h2 h3 (a90 (b70 h4) (ih x h5)))
 |memk o a i ih =>
  intro lm G X E N sc x es h;obtain⟨⟨q,rfl⟩,-,h⟩:=a60 h;simp only[Á,beq_iff_eq] at h;obtain⟨⟨⟨h1,h2⟩,h3⟩,h4⟩:=h;exact c00 rfl (u02 o x h1 h2 (a90 (b70 h3) (ih x h4)))
 |zget i k =>
  intro lm G X E N sc x es h;obtain⟨⟨⟨n,p,j,c,q,r⟩,rfl⟩,-,h⟩:=a60 h;simp only[Á,beq_iff_eq] at h;obtain⟨⟨h1,h2⟩,h3⟩:=h;have h3:j=(k:Int):=h3;subst h3;exact c00 rfl (t22 x h1 h2)
def sound(G:Gs)(t:Ex)(x:XI lm X G E N sc)(h:mt lm G.fns G.nums t sc N es=true):Good X G E t es:=u12 t x h
end
section
variable {lm:Bool}{X:Cx}{G:Gs}{E:XK}{N:List Str}{sc:ë}
structure u22(G:Gs)(N:List Str)(sc:Scope)(capt:List Nat)(a:Ex)(lsc:Scope)(body:Expr):Prop where
 hc:(b60 N capt).length=capt.length
 hs:w81 lsc sc (b60 N capt)=true
 hL:isL a=false
 ih:∀ (k:Nat) {X:Cx}{E:XK},XI false X (lowG G k) E ((b60 N capt).map (·.1)) lsc->Good X (lowG G k) E a [body]
def n31(X:Cx)(G:Gs)(N:List Str)(sc:ë)(q:Str)(H:Hp)(t:LT)(p:List Nat × Ex):Prop:=K41 X q H t/\t.N=(b60 N p.1).map (·.1)/\u22 G N sc p.1 p.2 t.lsc t.body
theorem z01(h:o60 F ρ ((capt,a)::r) z=some (cs,z1)):∃ ss c zm cs',S71 ρ capt=some ss/\ev (E10 F) a (ss.map some) z=some (.er c zm)/\c < 12/\o60 F ρ r zm=some (cs',z1)/\cs=c::cs':=by
 unfold o60 at h;split at h
 ·cases h
 ·rename_i ss hss;split at h
  ·rename_i c zm he;split at h
   ·rename_i hc;obtain⟨⟨cs',z'⟩,h1,h2⟩:=É.mp h;cases h2;exact⟨ss,c,zm,cs',hss,he,hc,h1,rfl⟩
   ·cases h
  ·cases h
theorem J22{α:Type}{l:List α}{a:α}:(l++[a]).length=l.length + 1:=by rw[ù];rfl
theorem À5.get{α β:Type}{R:α->β->Prop}:∀ {xs:List α}{ys:List β},À5 R xs ys->∀ {i:Nat}{x:α}{y:β},xs[i]?=some x->ys[i]?=some y->R x y
 |_,_,.nil,i,x,y,h,_=>by simp at h|_,_,.cons r t,0,x,y,h1,h2=>by simp at h1 h2;subst h1;subst h2;exact r|_,_,.cons r t,i + 1,x,y,h1,h2=>À5.get t (by simpa using h1) (by simpa using h2)
def tLL(X:Cx)(G:Gs)(N:List Str)(sc:ë)(q:Str)(i:Nat)(ls:List (List Nat × Ex)):TE:=λσ H Q=>∃ zA ρ z cs z1 L ts,x20 X.K zA H ρ σ/\c90 zA z H/\o60 G.F ρ ls z=some (cs,z1)/\σ[i]?=some (some (.ref L))/\H L=some (.lst (ts.map λt=>.ref t.f))/\zA≠some L/\À5 (n31 X G N sc q H) ts ls /\
 ∀ v H',Ext zA H H'->c90 zA z1 H'->RvS X.K zA H H' (.fr (cs.map L71)) v->Q v H'
theorem z11(x:XI lm X G E N sc){c P:Ç}{q:Str}{k:Nat}{fR:Ç}{fdR:Ã0}(L:E90 X G sc c P q k fR fdR){i:Nat}{n y:Str}{ls:List (List Nat × Ex)}{csc:ë}{p p2 p3 p4 pos ps:Pos}(hi:N[i]?=some y)(ny:b30 y=true)(nn:b30 n=true)(cc:N41 csc sc N [n] [])(hg:glob csc "_law_refused"=true)(hls:ls.length<=1000) :
 PE X (.ListComp (.Call (.Name "_law_refused" p) [.Name n p2] [] pos) [⟨.Name n p3,.Name y p4,[],0⟩] csc ps) (tLL X G N sc q i ls):=by
 unfold b30 at ny nn;simp only[Á,î] at ny nn;obtain⟨k1,k2,k3⟩:=d70 hg;refine PE.imp (l71 (wi:=l82 X.K (k82 i)) (qual:=q) (k:=k) x.calm (a21 x cc) (K00 (k20 (i:=i) (by rw[x.hN];exact hi) (x.vis y (æ hi)) ny.1 ny.2)) L.fn (by rw[← L.lv];exact x.room) (λcl C s H fp=>(N90 x cc cl C s H fp).glb _ k1) L.m L.kp L.bd (λcl C s H fp=>X60 (x:=n) (by simp[c70]) rfl ((O00 x cc cl C s H fp).lc n (by simp)) ((O00 x cc cl C s H fp).fn n (by simp))) (λcl C s H fp=>(N90 x cc cl C s H fp).vis n (by simp)) nn.1 nn.2 k2 (λ_=>rfl)) λσ H Q qq=>?_
 obtain⟨zA,ρ,z,cs,z1,Ld,ts,rel,st,run,eL,hL,zL,pr,po⟩:=qq;refine⟨_,eL,Ld,rfl,⟨_,.of hL⟩,trivial,?_⟩;have nz:∀ {a:Ç}{p:ê->Prop},H a=some (.ext p)->zA≠some a:=λ{a p} h e=>by
  subst e;have:=st.zat;cases z with
  |none=>exact this.elim
  |some pr =>
   have h':H a=some (.lst [.int pr.1,.bl pr.2]):=this;rw[h] at h';cases h'
 have len:=pr.length;refine⟨λj m ys H'=>∃ zj ds cs',m=(ls.drop j).length/\Ext zA H H'/\c90 zA zj H'/\o60 G.F ρ (ls.drop j) zj=some (cs',z1)/\cs=ds++cs'/\HdA X.K (hz zA H') (ds.map L71) ys/\ds.length=j,⟨_,z,[],cs,rfl,.refl,st,run,rfl,.nil,rfl⟩,?_⟩;rintro j m ys H' ⟨zj,ds,cs',rfl,xx,stj,rj,rfl,hd,rfl⟩;have hL':=xx.at hL zL;cases hdr:ls.drop ds.length with
 |nil =>
  rw[hdr] at rj;cases rj;have hle:ls.length<=ds.length:=List.drop_eq_nil_iff.mp hdr;refine .inl ⟨⟨_,.of hL',by rw[È,len];exact hle⟩,λp hp=>?_⟩
  rw[Ç6] at po;exact po _ _ (xx.trans (Ext.of (a20.new _ hp))) (stj.same (a20.new _ hp)) ((l90 stj hd hp).from xx)
 |cons pa r =>
  obtain⟨capt,a⟩:=pa;rw[hdr] at rj;obtain⟨ss,ce,zm,cs2,hss,he,hc12,rj2,rfl⟩:=z01 rj;have hlt:ds.length < ls.length:=by
   rcases Nat.lt_or_ge ds.length ls.length with h | h
   ·exact h
   ·rw[à7 h] at hdr;cases hdr
  have hls':ls[ds.length]?=some (capt,a):=by
   have:=Ï8 (xs:=ls) (i:=ds.length) (j:=0);rw[hdr] at this;exact this.symm
  have hdr2:ls.drop (ds.length + 1)=r:=by
   have:=Ñ2 hlt;rw[hdr] at this;exact(List.cons.inj this).2.symm
  have hlt':ds.length < ts.length:=by rw[len];exact hlt
  obtain⟨lt,tN,lf⟩:=À5.get pr (á hlt') hls';generalize et:ts[ds.length]=t at lt tN lf;have ht:(ts.map λt=>V.ref t.f)[ds.length]?=some (.ref t.f):=by rw[Û,á hlt',et];rfl
  refine .inr ⟨⟨_,_,.of hL',ht⟩,?_,λzs H2=>∃ m',m' < ((capt,a)::r).length/\∃ zj ds2 cs',m'=(ls.drop (ds.length + 1)).length/\Ext zA H H2/\c90 zA zj H2/\o60 G.F ρ (ls.drop (ds.length + 1)) zj=some (cs',z1)/\ds++ce::cs2=ds2++cs'/\HdA X.K (hz zA H2) (ds2.map L71) zs/\ds2.length=ds.length + 1,λ_ _ h=>h,λy H2 hy=>?_⟩
  ·have:=hd.length;rw[È] at this;exact Ô (show ys.length < 1000 by omega) 1e1
  obtain⟨rfl,hy⟩:=hy;cases (ü ((hy _ (.of hL')).symm.trans ht));obtain⟨vs,ra,hvl,hvs⟩:=U40 rel hss lf.hc;have la:A32 H2 q t:=⟨xx.at lt.fn (nz lt.fn),xx.at lt.rc (nz lt.rc)⟩;have hsc:=lf.hs;unfold w81 at hsc;simp only[Á,î,beq_iff_eq,Ä6,decide_eq_true_eq] at hsc;obtain⟨⟨⟨⟨⟨⟨s1,s2⟩,s3⟩,s4⟩,s5⟩,s6⟩,s7⟩:=hsc;have hfree:∀ y∈(b60 N capt).map (·.1),t.lsc.names.lookup y=some .free:=λy hy=>by
   obtain⟨pr,h1,rfl⟩:=Ò.mp hy;exact s6 pr h1
  show teL X q k _ σ H [some (.ref t.f)] H2 _;refine⟨t,vs,.ref (G.cls ce),λH3=>Ext zA H2 H3/\c90 zA zm H3,lt,⟨by rw[tN,È];exact hvl,λi y v h1 h2=>by rw[tN] at h1;rw[x.hN];exact hvs i y v h1 h2⟩,rfl,la,λA outer s H3 hr sm=>?_,λs2 th=>?_⟩
  ·have XL:XI false (M30 X.prog X.w X.K X.mg X.base t.N q t.lsc t.f (.ref t.c') t.cl A outer s H3 λc _ H'=>c=.ref (G.cls ce)/\Ext zA H2 H'/\c90 zA zm H') (lowG G k) (λc _ H'=>c=.ref (G.cls ce)/\Ext zA H2 H'/\c90 zA zm H') ((b60 N capt).map (·.1)) t.lsc:=
    { gok:=L.low,num:=x.num,blt:=x.blt,hN:=tN,nd:=s7,vis:=λy hy=>.inr (.inr (hfree y hy)),glb:=λy h=>h,cel:=λy h=>h,calm:=rfl,room:=hr,pas:=a12,lam:=λh=>nomatch h }
   refine⟨_,(a90 lf.hL (lf.ih k XL)).pe,?_⟩;exact⟨zA,ss.map some,zj,_,f91 (RvA.mono ra (xx.trans (Ext.of sm))),stj.same sm,he,λea H' x3 stt hn=>⟨rfl,(Ext.of sm).trans x3,stt⟩⟩
  ·refine⟨t.f,G.cls ce,ce,_,rfl,th,L.cls ce hc12,λl H3 H4 hRR sm hl=>?_⟩;obtain⟨x3,st3⟩:=hRR;have x4:Ext zA H2 (upd H4 l (.lst [.int ce])):=(x3.trans (Ext.of sm)).trans (Ext.of (a20.new _ hl));have st4:=st3.same sm;refine⟨r.length,Ï6 _,zm,ds++[ce],cs2,by rw[hdr2],xx.trans x4,st4.same (a20.new _ hl),by rw[hdr2];exact rj2,by rw[Ç7];rfl,?_,J22⟩
   rw[Á3];exact(hd.same x4.same).append (.cons (l90 st4 (HdA.cons Hd.int HdA.nil) hl).pl .nil)
end
open Classical in
def hw(ow:Nat->Option Ç)(H:Hp):Hp:=λb=>if ∃ i,ow i=some b then none else H b
section
variable {K:Â}{ow:Nat->Option Ç}{H H':Hp}
theorem f70:a20 (hw ow H) H:=λb o e=>by
 unfold hw at e;split at e
 ·cases e
 ·exact e
theorem h40(h:H b=some o)(n:∀ i,ow i≠some b):hw ow H b=some o:=by
 unfold hw;rw[if_neg (λ⟨i,e⟩=>n i e)];exact h
theorem F20(h:hw ow H b=some o):H b=some o/\∀ i,ow i≠some b:=by
 refine⟨f70 b o h,λi e=>?_⟩;unfold hw at h;rw[if_pos ⟨i,e⟩] at h;cases h
def d60(e:a20 H H'):a20 (hw ow H) (hw ow H'):=λb o h=>by
 obtain⟨h1,h2⟩:=F20 h;exact h40 (e b o h1) h2
theorem l10:hw (λ_=>none) H=H:=by
 funext b
 unfold hw;rw[if_neg (λ⟨i,e⟩=>by cases e)]
theorem g11(h:SqT K H a xs)(hl:∀ i b,ow i=some b->∃ ys,H b=some (.lst ys)):SqT K (hw ow H) a xs:=by
 rcases h with (h | ⟨o,h⟩) | h
 ·refine .inl (.inl (h40 h λi e=>?_));obtain⟨ys,q⟩:=hl i a e;rw[h] at q;cases q
 ·refine .inl (.inr ⟨o,h40 h λi e=>?_⟩);obtain⟨ys,q⟩:=hl i a e;rw[h] at q;cases q
 ·exact .inr h
mutual
theorem O10(hl:∀ i b,ow i=some b->∃ ys,H b=some (.lst ys)):∀ {d:D}{v:V},bare d=true->Hd K H d v->Hd K (hw ow H) d v
 |.non,_,_,h=>by rw[h.N82];exact Hd.non|.bl _,_,_,h=>by rw[h.bl_];exact Hd.bl|.int _,_,_,h=>by rw[h.l70];exact Hd.int|.str _,_,_,h=>by rw[h.N92];exact Hd.str
 |.tup l,_,b,h=>by
  obtain⟨a,xs,rfl,h1,h2⟩:=h.B00;exact Hd.tup (g11 h1 hl) (B40 hl (by simpa [bare] using b) h2)
 |.lst _,_,b,_=>by cases b
 |.dct,_,b,_=>by cases b
theorem B40(hl:∀ i b,ow i=some b->∃ ys,H b=some (.lst ys)):∀ {ds:List D}{vs:List V},s80 ds=true->HdA K H ds vs->HdA K (hw ow H) ds vs
 |[],_,_,h=>by rw[h.f50];exact .nil
 |d::ds,_,b,h=>by
  obtain⟨x,r,rfl,h1,h2⟩:=h.c50;simp only[s80,Á] at b;exact .cons (O10 hl b.1 h1) (B40 hl b.2 h2)
end
theorem J32(hl:∀ i b,ow i=some b->∃ ys,H b=some (.lst ys)){d:Ç}{kss:List (List Int)}(h:l81 K H d kss):l81 K (hw ow H) d kss:=by
 obtain⟨xs,h1,h2,h3,h4⟩:=h;refine⟨xs,h40 h1 λi e=>?_,h2,λx hx=>g11 (h3 x hx) hl,h4⟩;obtain⟨ys,q⟩:=hl i d e;rw[h1] at q;cases q
end
def RvW(K:Â)(zA:Option Ç)(ow:Nat->Option Ç)(H:Hp)(i:Nat):S->V->Prop
 |.d x,v=>ow i=none/\Hd K (hw ow (hz zA H)) x v|.fr xs,v=>∃ a ys,ow i=some a/\v=.ref a/\H a=some (.lst ys)/\HdA K (hw ow (hz zA H)) xs ys|.z,v=>ow i=none/\∃ a,zA=some a/\v=.ref a|.ks l,v=>ow i=none/\∃ d,v=.ref d/\l81 K (hw ow (hz zA H)) d l
structure RW(K:PySem.W.Frag)(H0:Hp)(zE zA:Option Addr)(ow:Nat->Option Addr)(H:Hp)(ρ:Env)(σ:L2.St):Prop where
 len:ρ.length=σ.length
 inj:∀ i j a,ow i=some a->ow j=some a->i=j
 zne:∀ i a,ow i=some a->zA≠some a
 own:∀ i a,ow i=some a->∃ xs,ρ[i]?=some (some (.fr xs))
 wor:∀ i s,ρ[i]?=some (some s)->∃ v,σ[i]?=some (some v)/\RvW K zA ow H i s v
 ext:Ext zE H0 H
 zok:zA=zE\/(zE=none/\∀ a,zA=some a->H0 a=none)
 new:∀ i a,ow i=some a->H0 a=none
section
variable {K:Â}{H0 H H':Hp}{zE zA:Option Ç}{ow:Nat->Option Ç}{ρ:Env}{σ:L2.St}
def RW.lst(r:RW K H0 zE zA ow H ρ σ):∀ i a,ow i=some a->∃ ys,H a=some (.lst ys):=λi a e=>by
 obtain⟨xs,h⟩:=r.own i a e;obtain⟨v,h1,a',ys,h2,h3,h4,h5⟩:=r.wor i _ h;rw[e] at h2;cases h2;exact⟨ys,h4⟩
def RW.T81(r:RW K H0 zE zA ow H ρ σ):∀ i a,ow i=some a->∃ ys,hz zA H a=some (.lst ys):=λi a e=>by
 obtain⟨ys,h⟩:=r.lst i a e;exact⟨ys,d00 h (r.zne i a e)⟩
theorem RvW.pl{i:Nat}{s:S}{v:V}(h:RvW K zA ow H i s v)(hz':∀ a,ow i=some a->zA≠some a):RvP K zA H s v:=by
 cases s with
 |d x=>exact h.2.same f70|z=>exact h.2|ks l=>obtain⟨_,d,q,k⟩:=h;exact⟨d,q,k.same f70⟩
 |fr xs =>
  obtain⟨a,ys,h1,rfl,h3,h4⟩:=h;exact Hd.lst (d00 h3 (hz' a h1)) (h4.same f70)
def RW.O20(r:RW K H0 zE zA ow H ρ σ):x20 K zA H ρ σ:=λi s e=>by
 obtain⟨v,h1,h2⟩:=r.wor i s e;exact⟨v,h1,h2.pl λa q=>r.zne i a q⟩
theorem RvW.mono{i:Nat}{s:S}{v:V}(h:RvW K zA ow H i s v)(hz':∀ a,ow i=some a->zA≠some a)(x:Ext zA H H'):RvW K zA ow H' i s v:=by
 cases s with
 |d y=>exact⟨h.1,h.2.same (d60 x)⟩|z=>exact h|ks l=>obtain⟨n,d,q,k⟩:=h;exact⟨n,d,q,k.same (d60 x)⟩
 |fr xs =>
  obtain⟨a,ys,h1,rfl,h3,h4⟩:=h;exact⟨a,ys,h1,rfl,x.at h3 (hz' a h1),h4.same (d60 x)⟩
def T91(zA:Option Ç)(H:Hp):a20 (hz zA H) (hz none H):=λ_ _ h=>d00 (m50 h).1 (λq=>nomatch q) (l80 h)
theorem z21(e:Ext zE H0 H)(zok:zA=zE\/(zE=none/\∀ a,zA=some a->H0 a=none))(x:Ext zA H H'):Ext zE H0 H':=by
 rcases zok with rfl | ⟨rfl,hn⟩
 ·exact e.trans x
 ·refine⟨λb o h=>?_,λb ps h=>let ⟨qs,q⟩:=e.tbl b ps h;x.tbl b qs q⟩;have h1:=e.same b o h;refine d00 (x.at (m50 h1).1 (λq=>?_) (l80 h1)) (λq=>nomatch q) (l80 h1);have h0:=(m50 h).1;rw[hn b q] at h0;cases h0
def RW.mono(r:RW K H0 zE zA ow H ρ σ)(x:Ext zA H H'):RW K H0 zE zA ow H' ρ σ:=
 ⟨r.len,r.inj,r.zne,r.own,λi s e=>let ⟨v,h1,h2⟩:=r.wor i s e;⟨v,h1,h2.mono (λa q=>r.zne i a q) x⟩,z21 r.ext r.zok x,r.zok,r.new⟩
theorem RW.young(r:RW K H0 zE zA ow H ρ σ)(h:H a=none)(n:zA≠some a):H0 a=none/\zE≠some a:=by
 have hE:zE≠some a:=λq=>by
  rcases r.zok with rfl | ⟨rfl,_⟩
  ·exact n q
  ·cases q
 exact⟨r.ext.free h hE,hE⟩
theorem RW.out(r:RW K H0 zE zA ow H ρ σ){s:S}{v:V}(hs:s≠.z)(x:Ext zA H H')(h:RvS K zA H H' s v):RvS K zE H0 H' s v:=by
 have sm:a20 (hz zA H') (hz zE H'):=by
  rcases r.zok with rfl | ⟨rfl,_⟩
  ·exact a20.refl _
  ·exact T91 _ _
 cases s with
 |d y=>exact Hd.same sm h|z=>exact absurd rfl hs|ks l=>obtain⟨d,q,k⟩:=h;exact⟨d,q,k.same sm⟩
 |fr xs =>
  obtain⟨a,ys,rfl,h1,h2,h3,h4⟩:=h;obtain⟨k1,k2⟩:=r.young h1 h2;exact⟨a,ys,rfl,k1,k2,h3,h4.same (D10 λb o _ q=>sm b o q)⟩
theorem RW.W32(r:RW K H0 zE zA ow H ρ σ){i:Nat}{s:S}(hs:s≠.z)(e:ρ[i]?=some (some s)):∃ v,σ[i]?=some (some v)/\RvS K zE H0 H s v:=by
 obtain⟨v,h1,h2⟩:=r.wor i s e;have sm:a20 (hz zA H) (hz zE H):=by
  rcases r.zok with rfl | ⟨rfl,_⟩
  ·exact a20.refl _
  ·exact T91 _ _
 refine⟨v,h1,?_⟩;cases s with
 |d y=>exact Hd.same (a20.trans f70 sm) h2.2|z=>exact absurd rfl hs|ks l=>obtain⟨_,d,q,k⟩:=h2;exact⟨d,q,k.same (a20.trans f70 sm)⟩
 |fr xs =>
  obtain⟨a,ys,k1,rfl,k3,k4⟩:=h2;have n:=r.zne i a k1;have hE:zE≠some a:=λq=>by
   rcases r.zok with rfl | ⟨rfl,_⟩
   ·exact n q
   ·cases q
  refine⟨a,ys,rfl,r.new i a k1,hE,k3,k4.same λb o q=>?_⟩;obtain⟨q1,q2⟩:=F20 q;exact L80 (sm b o q1) λz=>q2 i (by rw[z];exact k1)
theorem RW.x00(r:RW K H0 zE zA ow H ρ σ):RW K H0 zE zA (λ_=>none) H (x00 ρ) σ:=by
 refine⟨by unfold Q.x00;rw[È];exact r.len,λi j a h=>(by cases h),λi a h=>(by cases h),λi a h=>(by cases h),λi s e=>?_,r.ext,r.zok,λi a h=>(by cases h)⟩
 unfold Q.x00 at e;rw[Û] at e;obtain⟨o,e1,e2⟩:=É.mp e;cases o with
 |none=>cases e2
 |some s0 =>
  cases e2;obtain⟨v,h1,h2⟩:=r.O20 i s0 e1;refine⟨v,h1,?_⟩;cases s0 with
  |d y=>exact⟨rfl,by rw[l10];exact h2⟩|fr xs=>exact⟨rfl,by rw[l10];exact h2⟩|z=>exact⟨rfl,h2⟩|ks l=>exact⟨rfl,by rw[l10];exact h2⟩
def ow0(ow:Nat->Option Ç)(i:Nat):Nat->Option Addr:=λj=>if j=i then none else ow j
def ow1(ow:Nat->Option Ç)(i:Nat)(a:Ç):Nat->Option Addr:=λj=>if j=i then some a else ow j
theorem RvW.move{ow':Nat->Option Ç}{j:Nat}{s:S}{v:V}(h:RvW K zA ow H j s v)(e:ow' j=ow j)(sm:a20 (hw ow (hz zA H)) (hw ow' (hz zA H')))(hk:∀ a,ow j=some a->H' a=H a):RvW K zA ow' H' j s v:=by
 cases s with
 |d y=>exact⟨by rw[e];exact h.1,h.2.same sm⟩|z=>exact⟨by rw[e];exact h.1,h.2⟩|ks l=>obtain⟨n,d,q,k⟩:=h;exact⟨by rw[e];exact n,d,q,k.same sm⟩
 |fr xs =>
  obtain⟨a,ys,h1,rfl,h3,h4⟩:=h;exact⟨a,ys,by rw[e];exact h1,rfl,by rw[hk a h1];exact h3,h4.same sm⟩
theorem getElem?_set'{α:Type}{l:List α}{i j:Nat}{x y:α}(h:(l.set i x)[j]?=some y):(j=i/\y=x/\i < l.length)\/(j≠i/\l[j]?=some y):=by
 by_cases hj:j=i
 ·subst hj;have hlt:j < l.length:=by
   have:=(Ý.mp h).1;simpa using this
  rw[å hlt] at h;cases h;exact .inl ⟨rfl,rfl,hlt⟩
 ·rw[ß (Á0 hj)] at h;exact .inr ⟨hj,h⟩
theorem RW.O52(r:RW K H0 zE zA ow H ρ σ){i:Nat}(h:Hd K (hw ow (hz zA H)) x v):RW K H0 zE zA (ow0 ow i) H (ρ.set i (some (.d x))) (σ.set i (some v)):=by
 have sub:∀ j a,ow0 ow i j=some a->j≠i/\ow j=some a:=λj a e=>by
  unfold ow0 at e;split at e
  ·cases e
  ·rename_i n;exact⟨n,e⟩
 have sm:a20 (hw ow (hz zA H)) (hw (ow0 ow i) (hz zA H)):=λb o e=>by
  obtain⟨e1,e2⟩:=F20 e;exact h40 e1 λj q=>e2 j (sub j b q).2
 refine⟨by rw[À9,À9];exact r.len,λj k a h1 h2=>r.inj j k a (sub j a h1).2 (sub k a h2).2,λj a h1=>r.zne j a (sub j a h1).2,λj a h1=>?_,λj s e=>?_,r.ext,r.zok,λj a h1=>r.new j a (sub j a h1).2⟩
 ·obtain⟨n,h2⟩:=sub j a h1;obtain⟨xs,h3⟩:=r.own j a h2;exact⟨xs,by rw[ß (Á0 n)];exact h3⟩
 ·rcases getElem?_set' e with ⟨rfl,e1,hlt⟩ | ⟨n,e1⟩
  ·cases e1;exact⟨v,å (by rw[← r.len];exact hlt),by unfold ow0;exact if_pos rfl,h.same sm⟩
  ·obtain⟨w,h1,h2⟩:=r.wor j s e1;exact⟨w,by rw[ß (Á0 n)];exact h1,h2.move (by unfold ow0;exact if_neg n) sm λ_ _=>rfl⟩
theorem RW.J42(r:RW K H0 zE zA ow H ρ σ){i:Nat}{t:S}{v:V}(h:RvW K zA (ow0 ow i) H i t v):RW K H0 zE zA (ow0 ow i) H (ρ.set i (some t)) (σ.set i (some v)):=by
 have sub:∀ j a,ow0 ow i j=some a->j≠i/\ow j=some a:=λj a e=>by
  unfold ow0 at e;split at e
  ·cases e
  ·rename_i n;exact⟨n,e⟩
 have sm:a20 (hw ow (hz zA H)) (hw (ow0 ow i) (hz zA H)):=λb o e=>by
  obtain⟨e1,e2⟩:=F20 e;exact h40 e1 λj q=>e2 j (sub j b q).2
 refine⟨by rw[À9,À9];exact r.len,λj k a h1 h2=>r.inj j k a (sub j a h1).2 (sub k a h2).2,λj a h1=>r.zne j a (sub j a h1).2,λj a h1=>?_,λj s e=>?_,r.ext,r.zok,λj a h1=>r.new j a (sub j a h1).2⟩
 ·obtain⟨n,h2⟩:=sub j a h1;obtain⟨xs,h3⟩:=r.own j a h2;exact⟨xs,by rw[ß (Á0 n)];exact h3⟩
 ·rcases getElem?_set' e with ⟨rfl,e1,hlt⟩ | ⟨n,e1⟩
  ·cases e1;exact⟨v,å (by rw[← r.len];exact hlt),h⟩
  ·obtain⟨w,h1,h2⟩:=r.wor j s e1;exact⟨w,by rw[ß (Á0 n)];exact h1,h2.move (by unfold ow0;exact if_neg n) sm λ_ _=>rfl⟩
theorem RW.W42(r:RW K H0 zE zA ow H ρ σ){i:Nat}(x:Ext zA H H')(hn:H a=none)(za:zA≠some a)(hl:H' a=some (.lst ys))(h:HdA K (hw (ow1 ow i a) (hz zA H')) xs ys)(hi:i < ρ.length) :
 RW K H0 zE zA (ow1 ow i a) H' (ρ.set i (some (.fr xs))) (σ.set i (some (.ref a))):=by
 have r':=r.mono x;have old:∀ j b,ow j=some b->b≠a:=λj b e q=>by
  obtain⟨zs,h1⟩:=r.lst j b e;rw[q,hn] at h1;cases h1
 have sub:∀ j b,ow1 ow i a j=some b->(j=i/\b=a)\/(j≠i/\ow j=some b):=λj b e=>by
  unfold ow1 at e;split at e
  ·rename_i n;cases e;exact .inl ⟨n,rfl⟩
  ·rename_i n;exact .inr ⟨n,e⟩
 have sm:a20 (hw ow (hz zA H)) (hw (ow1 ow i a) (hz zA H')):=λb o e=>by
  obtain⟨e1,e2⟩:=F20 e;have e3:=(m50 e1).1;have hb:b≠a:=λq=>by rw[q,hn] at e3;cases e3
  refine h40 (x b o e1) λj q=>?_;rcases sub j b q with ⟨_,q⟩ | ⟨_,q⟩
  ·exact hb q
  ·exact e2 j q
 refine⟨by rw[À9,À9];exact r.len,λj k b h1 h2=>?_,λj b h1=>?_,λj b h1=>?_,λj s e=>?_,r'.ext,r.zok,λj b h1=>?_⟩
 ·rcases sub j b h1 with ⟨q1,q2⟩ | ⟨q1,q2⟩
  ·rcases sub k b h2 with ⟨p1,p2⟩ | ⟨p1,p2⟩
   ·rw[q1,p1]
   ·exact absurd q2 (old k b p2)
  ·rcases sub k b h2 with ⟨p1,p2⟩ | ⟨p1,p2⟩
   ·exact absurd p2 (old j b q2)
   ·exact r.inj j k b q2 p2
 ·rcases sub j b h1 with ⟨_,q2⟩ | ⟨_,q2⟩
  ·rw[q2];exact za
  ·exact r.zne j b q2
 ·rcases sub j b h1 with ⟨q1,q2⟩ | ⟨q1,q2⟩
  ·rw[q1];exact⟨xs,å hi⟩
  ·obtain⟨zs,h3⟩:=r.own j b q2;exact⟨zs,by rw[ß (Á0 q1)];exact h3⟩
 ·rcases getElem?_set' e with ⟨rfl,e1,hlt⟩ | ⟨n,e1⟩
  ·cases e1;exact⟨.ref a,å (by rw[← r.len];exact hlt),a,ys,by unfold ow1;exact if_pos rfl,rfl,hl,h⟩
  ·obtain⟨w,h1,h2⟩:=r.wor j s e1;refine⟨w,by rw[ß (Á0 n)];exact h1,h2.move (by unfold ow1;exact if_neg n) sm λb q=>?_⟩
   obtain⟨zs,k⟩:=r.lst j b q;rw[k];exact x.at k (r.zne j b q)
 ·rcases sub j b h1 with ⟨_,q2⟩ | ⟨_,q2⟩
  ·rw[q2];exact(r.young hn za).1
  ·exact r.new j b q2
theorem RW.upd(r:RW K H0 zE zA ow H ρ σ){i:Nat}(e:ow i=some a)(h:HdA K (hw ow (hz zA H)) xs ys):RW K H0 zE zA ow (upd H a (.lst ys)) (ρ.set i (some (.fr xs))) σ:=by
 have za:=r.zne i a e;have sm:a20 (hw ow (hz zA H)) (hw ow (hz zA (L2.upd H a (.lst ys)))):=λb o q=>by
  obtain⟨e1,e2⟩:=F20 q;obtain⟨e3,e4⟩:=m50 e1;have hb:b≠a:=λz=>e2 i (by rw[z];exact e)
  exact h40 (d00 (by rw[a50 hb];exact e3) e4 (l80 e1)) e2
 obtain⟨xs0,h0⟩:=r.own i a e;have hi:i < ρ.length:=(Ý.mp h0).1;obtain⟨v0,s0,a0,ys0,q1,q2,q3,q4⟩:=r.wor i _ h0;rw[e] at q1;cases q1;refine⟨by rw[À9];exact r.len,r.inj,r.zne,λj b h1=>?_,λj s q=>?_,⟨λb o q=>?_,λb ps q=>?_⟩,r.zok,r.new⟩
 ·by_cases hj:j=i
  ·subst hj;exact⟨xs,å hi⟩
  ·obtain⟨zs,h3⟩:=r.own j b h1;exact⟨zs,by rw[ß (Á0 hj)];exact h3⟩
 ·rcases getElem?_set' q with ⟨rfl,e1,hlt⟩ | ⟨n,e1⟩
  ·cases e1;exact⟨v0,s0,a,ys,e,q2,a70,h.same sm⟩
  ·obtain⟨w,h1,h2⟩:=r.wor j s e1;refine⟨w,h1,h2.move rfl sm λb q=>?_⟩;have hb:b≠a:=λz=>n (r.inj j i b q (by rw[z];exact e))
   exact a50 hb
 ·obtain⟨e1,e2⟩:=m50 (r.ext b o q);have hb:b≠a:=λz=>by
   have:=(m50 q).1;rw[z,r.new i a e] at this;cases this
  exact d00 (by rw[a50 hb];exact e1) e2 (l80 q)
 ·obtain⟨qs,e1⟩:=r.ext.tbl b ps q;have hb:b≠a:=λz=>by rw[z,q3] at e1;cases e1
  exact⟨qs,by rw[a50 hb];exact e1⟩
end
end Q
namespace Q
open PySem L2 PySem.Spec PyProof.Rows
variable [TB:Tb]
def A72:Option Ç->Z->Z
 |none,_=>none|some _,z=>z
def n90(K:Â)(G:Gs)(E:XK)(H0:Hp)(zE:Option Ç)(B:Hp)(D:Ends):R O->Prop
 |.ok (.nx ρ) z=>∀ zA ow σ H,RW K H0 zE zA ow H ρ σ->c90 zA z H->a20 B (hw ow (hz zA H))->D.nx σ H|.ok (.rt s) z=>∀ v H,s≠.z->Ext zE H0 H->c90 zE (A72 zE z) H->RvS K zE H0 H s v->D.rt v H|.er c z=>∀ e H,Ext zE H0 H->c90 zE (A72 zE z) H->H e=none->E (.ref (G.cls c)) (some e) H
def tX(K:Â)(G:Gs)(E:XK)(H0:Hp)(zE:Option Ç)(x:Sm):TS:=λD σ H=>∃ zA ow ρ z r,RW K H0 zE zA ow H ρ σ/\c90 zA z H/\ex G.F zE.isNone x ρ z=some r/\n90 K G E H0 zE (hw ow (hz zA H)) D r
section
variable {K:Â}{G:Gs}{E:XK}{H0 H H':Hp}{zE zA:Option Ç}{ow:Nat->Option Ç}{ρ:Env}{σ:L2.St}{Dn:Ends}{z:Z}
theorem j82(zok:zA=zE\/(zE=none/\∀ a,zA=some a->H0 a=none))(st:c90 zA z H):c90 zE (A72 zE z) H:=by
 cases zE with
 |none=>exact⟨trivial,st.tab⟩
 |some a =>
  rcases zok with rfl | ⟨h,_⟩
  ·exact st
  ·cases h
def n90.er_(po:n90 K G E H0 zE B Dn (.er c z))(r:RW K H0 zE zA ow H ρ σ):EPost G zA E c z H:=λe H' x st n=>po e H' (z21 r.ext r.zok x) (j82 r.zok st) n
def n90.ers(po:n90 K G E H0 zE B Dn rr)(r:RW K H0 zE zA ow H ρ σ):∀ c z1,rr=.er c z1->EPost G zA E c z1 H:=λc z1 e=>by subst e;exact po.er_ r
theorem n90.mono(po:n90 K G E H0 zE B Dn rr)(h:a20 B B'):n90 K G E H0 zE B' Dn rr:=by
 match rr,po with
 |.ok (.nx _) _,po=>exact λzA ow σ H r st sm=>po zA ow σ H r st (a20.trans h sm)|.ok (.rt _) _,po=>exact po|.er _ _,po=>exact po
theorem i40(ow:Nat->Option Ç)(i:Nat):a20 (hw ow H) (hw (ow0 ow i) H):=λb o e=>by
 obtain⟨e1,e2⟩:=F20 e;refine h40 e1 λj q=>?_;unfold ow0 at q;split at q
 ·cases q
 ·exact e2 j q
def F30(ow:Nat->Option Ç):a20 (hw ow H) (hw (λ_=>none) H):=λb o e=>h40 (F20 e).1 λj q=>nomatch q
theorem N71(x:Ext zA H H')(hn:H a=none)(i:Nat):a20 (hw ow (hz zA H)) (hw (ow1 ow i a) (hz zA H')):=λb o e=>by
 obtain⟨e1,e2⟩:=F20 e;have e3:=(m50 e1).1;have hb:b≠a:=λq=>by rw[q,hn] at e3;cases e3
 refine h40 (x b o e1) λj q=>?_;unfold ow1 at q;split at q
 ·cases q;exact hb rfl
 ·exact e2 j q
theorem e52(e:ow i=some a):a20 (hw ow (hz zA H)) (hw ow (hz zA (upd H a o))):=λb u q=>by
 obtain⟨e1,e2⟩:=F20 q;obtain⟨e3,e4⟩:=m50 e1;have hb:b≠a:=λw=>e2 i (by rw[w];exact e)
 exact h40 (d00 (by rw[a50 hb];exact e3) e4 (l80 e1)) e2
mutual
theorem N81:∀ {p:Pat}{d:D}{ρ ρ':Env},f30 p d ρ=some ρ'->∀ {ow:Nat->Option Ç}{σ:L2.St}{v:V}{R:L2.St->Hp->Prop},RW K H0 zE zA ow H ρ σ->Hd K (hw ow (hz zA H)) d v ->
 (∀ ow' σ',RW K H0 zE zA ow' H ρ' σ'->a20 (hw ow (hz zA H)) (hw ow' (hz zA H))->R σ' H)->gP K p v σ H R
 |.v i,d,ρ,ρ',e,ow,σ,v,R,r,hd,k=>by
  unfold f30 at e;cases e;unfold gP;exact k _ _ (r.O52 hd) (i40 ow i)
 |.tup ps,d,ρ,ρ',e,ow,σ,v,R,r,hd,k=>by
  unfold f30 at e;cases d with
  |tup l =>
   obtain⟨a,xs,rfl,h1,h2⟩:=hd.B00;unfold gP;exact⟨a,xs,rfl,(a10 zA H).sqT (a20.sqT f70 h1),by rw[h2.length];exact F00 e,z31 e r h2 k⟩
  |_=>cases e
 |.nil,_,_,_,e,_,_,_,_,_,_,_=>by unfold f30 at e;cases e
 |.cons _ _,_,_,_,e,_,_,_,_,_,_,_=>by unfold f30 at e;cases e
theorem z31:∀ {r:Pat}{l:List D}{ρ ρ':Env},bindL r l ρ=some ρ'->∀ {ow:Nat->Option Ç}{σ:L2.St}{vs:List V}{R:L2.St->Hp->Prop},RW K H0 zE zA ow H ρ σ->HdA K (hw ow (hz zA H)) l vs ->
 (∀ ow' σ',RW K H0 zE zA ow' H ρ' σ'->a20 (hw ow (hz zA H)) (hw ow' (hz zA H))->R σ' H)->gL K r vs σ H R
 |.nil,l,ρ,ρ',e,ow,σ,vs,R,r,hd,k=>by
  unfold bindL at e;cases l with
  |nil =>
   cases e;unfold gL;exact⟨hd.f50,k ow σ r (a20.refl _)⟩
  |cons x l=>cases e
 |.cons p q,l,ρ,ρ',e,ow,σ,vs,R,r,hd,k=>by
  unfold bindL at e;cases l with
  |nil=>cases e
  |cons x l =>
   obtain⟨ρ1,e1,e2⟩:=Í.mp e;obtain⟨v,ws,rfl,h1,h2⟩:=hd.c50;unfold gL;exact⟨v,ws,rfl,N81 e1 r h1 λow' σ' r' sm=>z31 e2 r' (h2.same sm) λow2 σ2 r2 sm2=>k ow2 σ2 r2 (a20.trans sm sm2)⟩
 |.v _,_,_,_,e,_,_,_,_,_,_,_=>by unfold bindL at e;cases e
 |.tup _,_,_,_,e,_,_,_,_,_,_,_=>by unfold bindL at e;cases e
end
theorem z41(r:RW K H0 zE zA ow H ρ σ)(s:S):∃ ow',RW K H0 zE zA ow' H (j40 s ρ) σ/\a20 (hw ow (hz zA H)) (hw ow' (hz zA H))/\(H00 s=true\/∀ i,ow' i=none):=by
 unfold j40;rw[S90];cases hb:H00 s with
 |true=>exact⟨ow,r,a20.refl _,.inl rfl⟩|false=>exact⟨_,r.x00,F30 ow,.inr λ_=>rfl⟩
theorem N91{p:Pat}{s:S}{v:V}{ρ':Env}{R:L2.St->Hp->Prop}(r:RW K H0 zE zA ow H ρ σ)(x:Ext zA H H')(rv:RvS K zA H H' s v)(e:A90 p s (j40 s ρ)=some ρ')
 (k:∀ ow' σ',RW K H0 zE zA ow' H' ρ' σ'->a20 (hw ow (hz zA H)) (hw ow' (hz zA H'))->R σ' H'):gP K p v σ H' R:=by
 obtain⟨owk,r1,s1,b1⟩:=z41 r s;have r2:=r1.mono x;have s2:a20 (hw ow (hz zA H)) (hw owk (hz zA H')):=a20.trans s1 (d60 x);cases s with
 |d y =>
  have e':f30 p y (j40 (.d y) ρ)=some ρ':=by cases p <;> exact e
  refine N81 e' r2 ?_ λow' σ' r3 s3=>k ow' σ' r3 (a20.trans s2 s3);rcases b1 with b1 | b1
  ·exact O10 r2.T81 b1 rv
  ·have:owk=λ_=>none:=funext b1;subst this;rw[l10];exact rv
 |z =>
  cases p with
  |v i =>
   simp only[A90] at e;split at e
   ·cases e;unfold gP;exact k _ _ (r2.J42 (t:=.z) ⟨if_pos rfl,rv⟩) (a20.trans s2 (i40 owk i))
   ·cases e
  |_=>cases e
 |ks l =>
  cases p with
  |v i =>
   simp only[A90] at e;split at e
   ·cases e;unfold gP;obtain⟨d,rfl,h1⟩:=rv;exact k _ _ (r2.J42 (t:=.ks l) ⟨if_pos rfl,d,rfl,(J32 r2.T81 h1).same (i40 owk i)⟩) (a20.trans s2 (i40 owk i))
   ·cases e
  |_=>cases e
 |fr xs =>
  cases p with
  |v i =>
   simp only[A90] at e;split at e
   ·rename_i hi;cases e;unfold gP;obtain⟨a,ys,rfl,h1,h2,h3,h4⟩:=rv;refine k _ _ (r1.W42 x h1 h2 h3 ?_ hi) (a20.trans s1 (N71 x h1 i));rcases b1 with b1 | b1
    ·refine B40 (λj b q=>?_) b1 (h4.same (g90 a _));unfold ow1 at q;split at q
     ·cases q;exact⟨ys,d00 h3 h2⟩
     ·exact r2.T81 j b q
    ·refine h4.same λb o q=>?_;have hb:b≠a:=λw=>by subst w;unfold hide at q;rw[if_pos rfl] at q;cases q
     refine h40 (g90 a _ b o q) λj w=>?_;unfold ow1 at w;split at w
     ·cases w;exact hb rfl
     ·rw[b1 j] at w;cases w
   ·cases e
  |_=>cases e
end
end Q
namespace Q
open PySem L2 PySem.Spec PyProof.Rows
variable [TB:Tb]
theorem e62(h:u80 v=false):Ä7 [tg] v env=pure none:=by
 cases tg <;> first | rfl | (cases v <;> first | (cases h;done) | rfl)
theorem e72(h:vs.all (Ü0 8)=true):Ä7 [.Tuple ts k p] (.Tuple vs k' p') env=pure none:=by
 unfold Ä7;simp only[h,if_true];split
 ·rfl
 ·split
  ·rfl
  ·split
   ·rfl
   ·rfl
def z51(look:Str->Option Ë7):Ð->Bool
 |.Name id _=>look id != some .local|_=>true
theorem e82(h:ts.any (z51 env.kindOf)=true):Ä7 [.Tuple ts k p] (.Tuple vs k' p') env=pure none:=by
 have hl:∀ (l:Nat) (ts:List Ð),ts.any (z51 env.kindOf)=true->(ts.filterMap fun
   |.Name id pos=>if env.kindOf id == some .local&&pos.line == l then some id else none
   |_=>none).length < ts.length:=by
  intro l ts
  induction ts with
  |nil=>intro h;cases h
  |cons e r ih =>
   intro h;have le:=List.length_filterMap_le (fun
    |.Name id pos=>if env.kindOf id == some .local&&pos.line == l then some id else none
    |_=>none:Ð->Option Str) r
   rw[List.any_cons,Å9] at h;rw[Á4];split
   ·rw[ã];omega
   ·rename_i b hb;rcases h with h | h
    ·exfalso;cases e with
     |Name id pos =>
      have h':(env.kindOf id != some .local)=true:=h;simp only[bne_iff_ne,ne_eq] at h';simp[h'] at hb
     |_=>cases hb
    ·have:=ih h;rw[ã,ã];omega
 unfold Ä7;dsimp only;split
 ·rfl
 ·split
  ·rfl
  ·have:=hl ((ts.head?.map (·.pos.line)).getD 0) ts h;rw[if_pos];simp only[Å9,bne_iff_ne,ne_eq];exact .inl (Õ this)
theorem u32{x y:Str}{a b:Ð}{px py pt pt2:Pos}{k k2:Nat}{env:Ç8}(hb:env.blockKind=.function)(hx:env.kindOf x=some .local)(hy:env.kindOf y=some .local)(hxy:(x == y)=false)(hl:(py.line == px.line)=true)
  (ha:noStar a=true) (hb':noStar b=true) (hf:[a,b].all (Ü0 8)=false) (hc:[a,b].all (constantsAlone 8)=false) :
  Ä7 [.Tuple [.Name x px,.Name y py] k pt] (.Tuple [a,b] k2 pt2) env=pure (some [x,y]):=by
 have hbk:(env.blockKind != .function)=false:=by rw[hb];rfl
 have e1:(x == x)=true:=beq_self_eq_true x;have hyx:(y == x)=false:=by
  cases h:y == x with
  |false=>rfl|true=>rw[beq_iff_eq] at h;subst h;rw[e1] at hxy;cases hxy
 have hl2:(Ð.Name x px).pos.line=px.line:=rfl;have hl3:(Ð.Name y py).pos.line=py.line:=rfl;have hl':py.line=px.line:=by simpa using hl
 unfold Ä7;simp only[List.filterMap,List.head?,Ì9,Option.getD,hx,hy,hf,hc,hbk,hl2,hl'];simp[List.eraseDups,List.eraseDupsBy,List.eraseDupsBy.loop,hyx,hxy];intro h;rcases h with h | h
 ·cases a <;> first | (cases h;done) | (cases ha;done)
 ·cases b <;> first | (cases h;done) | (cases hb';done)
def U60:Ð->Bool
 |.ListComp ..=>false|.SetComp ..=>false|.DictComp ..=>false|_=>true
theorem k40(h:U60 v=true)(t:Option Ð):Î2 v t n env=pure false:=by
 cases v <;> first | rfl | (cases h;done)
theorem U70(h:(match tg with | .Name ..=>true | _=>false)=false):Î2 v (some tg) n env=pure false:=by
 cases v <;> first | rfl | (cases tg <;> first | rfl | (cases h;done))
theorem O01{a b:Ð}{c:List Comprehension}{d:ë}{f px:Pos}{t:Str}{n:Nat}{env:Ç8}(h:env.kindOf t=some .cell\/env.kindOf t=some .free):Î2 (.DictComp a b c d f) (some (.Name t px)) n env=pure false:=by
 show(pure (env.blockKind == .function&&env.kindOf t == some .local&&_&&_):Sem Bool)=_;have e:(env.kindOf t == some .local)=false:=by rcases h with h | h <;> rw[h] <;> rfl
 rw[e,Bool.and_false,Ì3,Ì3]
def O11{el:Ð}{gs:List Comprehension}{sc:ë}{p px:Pos}{t:Str}{n:Nat}{env:Ç8}:∃ b,Î2 (.ListComp el gs sc p) (some (.Name t px)) n env=pure b:=⟨_,rfl⟩
structure XS(lm:Bool)(X:Cx)(G:Gs)(E:XK)(N:List Str)(sc:Scope)(cn:List Str):Prop extends XI lm X G E N sc where
 sco:X.env.scope=sc
 fnk:sc.kind=.function
 own:PassesOwn (model X.prog X.w) X.A X.env X.xe
 can:M20 X E
 fnx:∀ x,X.fn x=true
 cls:∀ c x,cn[c]?=some x->X.mg x=some (.ref (G.cls c))/\PySem.W.excIn X.K (G.cls c) [.type "ValueError",.type "Exception",.type "BaseException",.type "object"] "ValueError.__new__"=true
def x30(sc:ë)(x:Str):Bool:=sc.names.lookup x == some .local || sc.names.lookup x == some .cell
section
variable {lm:Bool}{X:Cx}{G:Gs}{E:XK}{N:List Str}{sc:ë}{cn:List Str}{H0:Hp}{zE:Option Ç}
theorem XS.loc(x:XS lm X G E N sc cn):N01 X N (x30 sc):=by
 refine⟨x.hN,x.nd,λy h=>?_,λy _=>.inl (x.fnx y),x.calm⟩;unfold x30 at h;rw[Å9,beq_iff_eq,beq_iff_eq] at h;rw[x.sco];exact h
theorem XS.bk(x:XS lm X G E N sc cn):X.env.blockKind=.function:=by
 unfold Env.blockKind;rw[x.sco,x.fnk];rfl
def PS.imp{st:Á5}{t t':TS}(h:PS X st t)(i:∀ D σ H,t' D σ H->t D σ H):PS X st t':=λpins s σ H D I q=>h pins s σ H D I (i _ _ _ q)
def PSs.imp{st:List Á5}{t t':TS}(h:PSs X st t)(i:∀ D σ H,t' D σ H->t D σ H):PSs X st t':=λpins s σ H D I q=>h pins s σ H D I (i _ _ _ q)
def J52:PSs X [] (tX X.K G E H0 zE .nil):=PSs.imp C30 λD σ H q=>by
 obtain⟨zA,ow,ρ,z,r,rw,st,e,po⟩:=q;cases e;exact po zA ow σ H rw st (a20.refl _)
theorem J62{s r:Sm}{st:Á5}{rest:List Á5}(h1:PS X st (tX X.K G E H0 zE s))(h2:PSs X rest (tX X.K G E H0 zE r)):PSs X (st::rest) (tX X.K G E H0 zE (.seq s r)):=PSs.imp (d40 h1 h2) λD σ H q=>by
 obtain⟨zA,ow,ρ,z,rr,rw,st,e,po⟩:=q;have e0:M.bind (ex G.F zE.isNone s ρ) (λo=>match o with | .nx ρ=>ex G.F zE.isNone r ρ | .rt s=>M.ret (.rt s)) z=some rr:=e
 rcases M.bind_some e0 with ⟨o,z1,e1,e2⟩ | ⟨c,z1,e1,e2⟩
 ·refine⟨zA,ow,ρ,z,_,rw,st,e1,?_⟩;cases o with
  |nx ρ1=>exact λzA' ow' σ' H' rw' st' sm=>⟨zA',ow',ρ1,z1,rr,rw',st',e2,po.mono sm⟩|rt s=>cases e2;exact po
 ·subst e2;exact⟨zA,ow,ρ,z,_,rw,st,e1,po⟩
theorem U01{p:Pat}{e:Ex}{D:Ends}{σ:L2.St}{H:Hp}(q:tX X.K G E H0 zE (.set p e) D σ H):l62 (tI X.K G E e) (gP X.K p) D σ H:=by
 obtain⟨zA,ow,ρ,z,rr,rw,st,ee,po⟩:=q;refine i20 rw.O20 st ee (po.ers rw) λl z1 e1=>?_;obtain⟨s,hs,e2⟩:=M.a30 e1;refine⟨s,E80 hs,λv H1 x1 st1 rv=>?_⟩;obtain⟨ρ',hb,e3⟩:=M.a30 e2;cases e3;exact N91 rw x1 rv hb λow' σ' r' sm=>po zA ow' σ' H1 r' st1 sm
theorem W52{K:Â}{i:Nat}:gP K (.v i)=J90 i:=by unfold gP;rfl
theorem J72(x:XS lm X G E N sc cn){i:Nat}{e:Ex}{y:Str}{v:Ð}{px pos:Pos}(hi:N[i]?=some y)(hl:x30 sc y=true)(g:b00 X G E e v)
 (hc:∀ elt gs csc q,v=.ListComp elt gs csc q->∃ tg iter ifs,gs=[⟨tg,iter,ifs,0⟩]/\I20 X G E e elt tg iter ifs csc) (hno:∀ a b c d,v≠.SetComp a b c d)
 (hnd:∀ a b c d f,v=.DictComp a b c d f->sc.names.lookup y=some .cell) :
 PS X (.Assign [.Name y px] v pos) (tX X.K G E H0 zE (.set (.v i) e)):=by
 have L:=x.loc;refine PS.imp (t:=l62 (tI X.K G E e) (J90 i)) ?_ λD σ H q=>by rw[← W52 (K:=X.K)];exact U01 q
 have h1:X.N.Nodup:=by rw[x.hN];exact x.nd
 have h2:X.N[i]?=some y:=by rw[x.hN];exact hi
 by_cases hv:∃ elt gs csc q,v=.ListComp elt gs csc q
 ·obtain⟨elt,gs,csc,q,rfl⟩:=hv;obtain⟨b,hb⟩:=O11 (el:=elt) (gs:=gs) (sc:=csc) (p:=q) (px:=px) (t:=y) (n:=pos.line) (env:=X.env);cases b with
  |false=>exact n20 h1 h2 (L.lc y hl) g.pe hb (L.fn y hl)
  |true =>
   obtain⟨tg,iter,ifs,rfl,own,capt,wi,gg,tt,te,k1,k2,k3,k4,k5,k6,k7⟩:=hc elt gs csc q rfl;refine PS.imp (Y11 h1 h2 (L.lc y hl) hb x.calm k1 k2 k3 k4 k5 k6 (L.fn y hl)) λD σ H q=>k7 _ _ _ q
 ·by_cases hd:∃ a b c d f,v=.DictComp a b c d f
  ·obtain⟨a,b,c,d,f,rfl⟩:=hd;exact n20 h1 h2 (L.lc y hl) g.pe (O01 (x.cel y (.inl (hnd _ _ _ _ _ rfl)))) (L.fn y hl)
  ·exact n20 h1 h2 (L.lc y hl) g.pe (k40 (by cases v <;> first | rfl | exact absurd rfl (hno _ _ _ _) | exact absurd ⟨_,_,_,_,_,rfl⟩ hd | exact absurd ⟨_,_,_,_,rfl⟩ hv) _) (L.fn y hl)
theorem z61(x:XS lm X G E N sc cn){p:Pat}{e:Ex}{tg v:Ð}{pos:Pos}(hp:i30 N (x30 sc) p tg=true)(g:b00 X G E e v)(ht:u80 tg=true)(hv:Ä7 [tg] v X.env=pure none) :
 PS X (.Assign [tg] v pos) (tX X.K G E H0 zE (.set p e)):=by
 refine PS.imp (R51 g.pe (n11 x.loc hp) ?_ hv ?_) λD σ H q=>U01 q
 ·exact U70 (by cases tg <;> first | rfl | (cases ht;done))
 ·cases tg <;> first | rfl | (cases ht;done)
theorem J82(x:XS lm X G E N sc cn){i j:Nat}{ea eb:Ex}{a b:Ð}{y w:Str}{px py pt pt2 pos:Pos}{k k2:Nat}(hi:N[i]?=some y)(hj:N[j]?=some w)(hyw:(y == w)=false)(hy:sc.names.lookup y=some .local)(hw':sc.names.lookup w=some .local)
  (g:Good X G E (.cons ea (.cons eb .nil)) [a,b]) (hs:Ä7 [.Tuple [.Name y px,.Name w py] k pt] (.Tuple [a,b] k2 pt2) X.env=pure (some [y,w])) :
  PS X (.Assign [.Tuple [.Name y px,.Name w py] k pt] (.Tuple [a,b] k2 pt2) pos) (tX X.K G E H0 zE (.set (.tup (.cons (.v i) (.cons (.v j) .nil))) (.tup (.cons ea (.cons eb .nil))))):=by
 have hij:i≠j:=λh=>by
  subst h;rw[hi] at hj;cases hj;rw[beq_self_eq_true] at hyw;cases hyw
 refine PS.imp (l72 x.calm (by rw[x.hN];exact x.nd) (by rw[x.hN];exact hi) (by rw[x.hN];exact hj) hij (by rw[x.sco];exact hy) (by rw[x.sco];exact hw') (g.args rfl).1 hs rfl) λD σ H q=>?_
 obtain⟨zA,ow,ρ,z,rr,rw,st,ee,po⟩:=q;have e0:M.bind (M.bind (ev G.F (.cons ea (.cons eb .nil)) ρ) λl=>M.bind (M.of (plA l)) λds=>if ds.length<=most then M.ret [S.d (.tup ds)] else M.no) (λl=>M.bind (M.of (one l)) λs=>M.bind (M.of (A90 (.tup (.cons (.v i) (.cons (.v j) .nil))) s (j40 s ρ))) λρ=>M.ret (O.nx ρ)) z=some rr:=ee;rcases M.bind_some e0 with ⟨l0,z0,e1,e2⟩ | ⟨c,z1,e1,e2⟩
 ·rcases M.bind_some e1 with ⟨l,z1,e3,e4⟩ | ⟨c,z1,e3,e4⟩
  ·obtain⟨ds,hds,e5⟩:=M.a30 e4;split at e5
   ·cases e5;obtain⟨s,hs',e6⟩:=M.a30 e2;cases hs';obtain⟨ρ',hb,e7⟩:=M.a30 e6;cases e7;refine⟨zA,ρ,z,_,rw.O20,st,e3,λvs H1 x1 st1 rvs=>?_⟩;have hd:=N60 rvs hds;obtain⟨owk,r1,s1,b1⟩:=z41 rw (.d (.tup ds));have hb':bindL (.cons (.v i) (.cons (.v j) .nil)) ds (j40 (.d (.tup ds)) ρ)=some ρ':=by
     have:f30 (.tup (.cons (.v i) (.cons (.v j) .nil))) (.tup ds) (j40 (.d (.tup ds)) ρ)=some ρ':=hb;unfold f30 at this;exact this
    have r2:=r1.mono x1;have hd2:HdA X.K (hw owk (hz zA H1)) ds vs:=by
     rcases b1 with b1 | b1
     ·exact B40 r2.T81 (by simpa [H00,bare] using b1) hd
     ·have:owk=λ_=>none:=funext b1;subst this;rw[l10];exact hd
    have:=z31 hb' (R:=D.nx) r2 hd2 λow' σ' r' sm=>po zA ow' σ' H1 r' st1 (a20.trans s1 (a20.trans (d60 x1) sm));unfold gL at this;obtain⟨v,vr,rfl,this⟩:=this;unfold gP gL at this;obtain⟨u,ur,rfl,this⟩:=this;unfold gP gL at this;obtain⟨rfl,this⟩:=this;exact⟨v,u,rfl,this⟩
   ·cases e5
  ·cases e4
 ·subst e2;rcases M.bind_some e1 with ⟨l,z2,e3,e4⟩ | ⟨c,z2,e3,e4⟩
  ·obtain⟨ds,hds,e5⟩:=M.a30 e4;split at e5 <;> cases e5
  ·cases e4;exact⟨zA,ρ,z,_,rw.O20,st,e3,po.er_ rw⟩
theorem U11{s t:S}(h:noS s=some t):s=t/\t≠.z:=by
 cases s with
 |z=>cases h
 |ks _=>cases h
 |d _=>cases h;exact⟨rfl,λh=>nomatch h⟩
 |fr _=>cases h;exact⟨rfl,λh=>nomatch h⟩
theorem u42(x:XS lm X G E N sc cn){i:Nat}{n:Str}{p pos:Pos}(h1:N[i]?=some n)(h2:b30 n=true):PS X (.Return (some (.Name n p)) pos) (tX X.K G E H0 zE (.ret (.var i))):=by
 unfold b30 at h2;simp only[Á,î] at h2;refine PS.imp (d11 (k20 (i:=i) (by rw[x.hN];exact h1) (x.vis n (æ h1)) h2.1 h2.2)) λD σ H q=>?_
 obtain⟨zA,ow,ρ,z,rr,rw,st,ee,po⟩:=q;have e0:(match ρ[i]? with | some (some s)=>M.bind (M.of (noS s)) λs=>M.ret (O.rt s) | _=>M.no) z=some rr:=ee
 cases hs:ρ[i]? with
 |none=>rw[hs] at e0;cases e0
 |some o =>
  cases o with
  |none=>rw[hs] at e0;cases e0
  |some s =>
   rw[hs] at e0;obtain⟨t,ht,e1⟩:=M.a30 e0;cases e1;obtain⟨rfl,nz⟩:=U11 ht;obtain⟨v,k1,k2⟩:=rw.W32 nz hs;exact⟨v,k1,po v H nz rw.ext (j82 rw.zok st) k2⟩
theorem J92{e:Ex}{v:Ð}{pos:Pos}(hv:∀ i,e≠.var i)(g:b00 X G E e v):PS X (.Return (some v) pos) (tX X.K G E H0 zE (.ret e)):=by
 refine PS.imp (d11 g.pe) λD σ H q=>?_;obtain⟨zA,ow,ρ,z,rr,rw,st,ee,po⟩:=q;have e0:M.bind (ev G.F e ρ) (λl=>M.bind (M.of ((one l).bind noS)) λs=>M.ret (O.rt s)) z=some rr:=by
  cases e <;> first | exact ee | exact absurd rfl (hv _)
 refine i20 rw.O20 st e0 (po.ers rw) λl z1 e1=>?_;obtain⟨t,ht,e2⟩:=M.a30 e1;cases e2;obtain⟨s,hs,hn⟩:=Í.mp ht;obtain⟨rfl,nz⟩:=U11 hn;exact⟨s,E80 hs,λv H1 x1 st1 rv=>po v H1 nz (z21 rw.ext rw.zok x1) (j82 rw.zok st1) (rw.out nz x1 rv)⟩
theorem W62{c:Ex}{t u:Sm}{ce:Ð}{a b:List Á5}{pos:Pos}(g:b00 X G E c ce)(hn:∀ t a b p,ce≠.IfExp t a b p)(ha:PSs X a (tX X.K G E H0 zE t))(hb:PSs X b (tX X.K G E H0 zE u)) :
 PS X (.If ce a b pos) (tX X.K G E H0 zE (.iff c t u)):=by
 refine PS.imp (p71 (g.pt hn) ha hb) λD σ H q=>?_;obtain⟨zA,ow,ρ,z,rr,rw,st,ee,po⟩:=q;refine T80 rw.O20 st ee (po.ers rw) λb z1 e1 H1 x1 st1=>?_;have r1:=rw.mono x1;have sm:a20 (hw ow (hz zA H)) (hw ow (hz zA H1)):=d60 x1;cases b with
 |true=>exact⟨zA,ow,ρ,z1,rr,r1,st1,e1,po.mono sm⟩|false=>exact⟨zA,ow,ρ,z1,rr,r1,st1,e1,po.mono sm⟩
theorem K02{e:Ex}{v:Ð}{pos:Pos}(g:b00 X G E e v)(h:U60 v=true):PS X (.Expr v pos) (tX X.K G E H0 zE (.exp e)):=by
 refine PS.imp (J80 g.pe (k40 h none)) λD σ H q=>?_;obtain⟨zA,ow,ρ,z,rr,rw,st,ee,po⟩:=q;have e0:M.bind (ev G.F e ρ) (λl=>M.bind (M.of (one l)) λ_=>M.ret (O.nx ρ)) z=some rr:=ee;refine i20 rw.O20 st e0 (po.ers rw) λl z1 e1=>?_;obtain⟨s,hs,e2⟩:=M.a30 e1;cases e2;exact⟨s,E80 hs,λv H1 x1 st1 rv=>po zA ow σ H1 (rw.mono x1) st1 (d60 x1)⟩
theorem x_raise(x:XS lm X G E N sc cn){c:Nat}{n:Str}{y:Str}{k:Nat}{p1 p2 p3 p4:Pos}(hc:cn[c]?=some n)(hg:glob sc n=true):PS X (.Raise (some (.Call (.Name n p1) [.Constant (.str y) k p2] [] p3)) none p4) (tX X.K G E H0 zE (.rais c)):=by
 obtain⟨k1,k2,_⟩:=d70 hg;obtain⟨m1,m2⟩:=x.cls c n hc;refine PS.imp (J71 x.can x.calm (x.glb n k1) m1 m2 (e00 R21 o30) k2 rfl rfl) λD σ H q=>?_;obtain⟨zA,ow,ρ,z,rr,rw,st,ee,po⟩:=q;cases ee;exact⟨by show 1<=sizeLine;decide,λe hn=>po e H rw.ext (j82 rw.zok st) hn⟩
end
section
variable {K:Â}{H0 H H':Hp}{zE zA:Option Ç}{ow:Nat->Option Ç}{ρ:Env}{σ:L2.St}
theorem h30(e:ow0 ow i j=some a):j≠i/\ow j=some a:=by
 unfold ow0 at e;split at e
 ·cases e
 ·rename_i n;exact⟨n,e⟩
def v00:ow0 ow i i=none:=if_pos rfl
def g21(h:j≠i):ow0 ow i j=ow j:=if_neg h
theorem O21{ρ:Env}{j:Nat}{s:S}(h:(S70 ρ)[j]?=some (some s)):ρ[j]?=some (some s)/\s≠.z:=by
 unfold S70 at h;rw[Û] at h;obtain⟨o,e1,e2⟩:=É.mp h;cases o with
 |none=>cases e2
 |some t =>
  cases t with
  |z=>cases e2
  |d x=>cases e2;exact⟨e1,λh=>nomatch h⟩
  |fr x=>cases e2;exact⟨e1,λh=>nomatch h⟩
  |ks x=>cases e2;exact⟨e1,λh=>nomatch h⟩
theorem e92{j:Nat}(h:ρ[j]?=some (some (.fr xs))):(S70 ρ)[j]?=some (some (.fr xs)):=by
 unfold S70;rw[Û,h];rfl
theorem RW.W72(r:RW K H0 none zA ow H ρ σ){i:Nat}(x:Ext zA H H')(hn:H a=none)(za:zA≠some a)(hl:H' a=some (.lst ys)) :
 RW K H0 none (some a) (ow0 ow i) H' ((S70 ρ).set i (some .z)) (σ.set i (some (.ref a)))/\a20 (hw ow (hz zA H)) (hw (ow0 ow i) (hz (some a) H')):=by
 have r':=r.mono x;have old:∀ j b,ow j=some b->b≠a:=λj b e q=>by
  obtain⟨zs,h1⟩:=r.lst j b e;rw[q,hn] at h1;cases h1
 have sm:a20 (hw ow (hz zA H)) (hw (ow0 ow i) (hz (some a) H')):=λb o e=>by
  obtain⟨e1,e2⟩:=F20 e;have hb:b≠a:=λq=>by
   have e3:H b=some o:=(m50 e1).1;rw[q,hn] at e3;cases e3
  exact h40 (d00 (m50 (x b o e1)).1 (λq=>by cases q;exact hb rfl) (l80 e1)) λj q=>e2 j (h30 q).2
 have dl:(S70 ρ).length=ρ.length:=by unfold S70;rw[È]
 refine⟨⟨by rw[À9,À9,dl];exact r.len,λj k b h1 h2=>r.inj j k b (h30 h1).2 (h30 h2).2,λj b h1 q=>?_,λj b h1=>?_,λj s e=>?_,r'.ext,.inr ⟨rfl,λb q=>?_⟩,λj b h1=>r.new j b (h30 h1).2⟩,sm⟩
 ·cases q;exact old j _ (h30 h1).2 rfl
 ·obtain⟨n,h2⟩:=h30 h1;obtain⟨xs,h3⟩:=r.own j b h2;exact⟨xs,by rw[ß (Á0 n)];exact e92 h3⟩
 ·rcases getElem?_set' e with ⟨rfl,e1,hlt⟩ | ⟨n,e1⟩
  ·cases e1;exact⟨.ref a,å (by rw[← r.len,← dl];exact hlt),v00,a,rfl,rfl⟩
  ·obtain⟨e1,nz⟩:=O21 e1;obtain⟨w,h1,h2⟩:=r.wor j s e1;refine⟨w,by rw[ß (Á0 n)];exact h1,?_⟩
   cases s with
   |d y=>exact⟨by rw[g21 n];exact h2.1,h2.2.same sm⟩|z=>exact absurd rfl nz|ks l=>obtain⟨n0,d,q,k⟩:=h2;exact⟨by rw[g21 n];exact n0,d,q,k.same sm⟩
   |fr xs =>
    obtain⟨b,zs,k1,rfl,k3,k4⟩:=h2;exact⟨b,zs,by rw[g21 n];exact k1,rfl,x.at k3 (r.zne j b k1),k4.same sm⟩
 ·cases q;exact(r.young hn za).1
theorem RW.plain(r:RW K H0 zE zA ow H ρ σ)(i:Nat):RW K H0 zE zA (ow0 ow i) H (ρ.set i ((ρ[i]?.getD none).map plS)) σ:=by
 have sm:=i40 (H:=hz zA H) ow i;refine⟨by rw[À9];exact r.len,λj k b h1 h2=>r.inj j k b (h30 h1).2 (h30 h2).2,λj b h1=>r.zne j b (h30 h1).2,λj b h1=>?_,λj s e=>?_,r.ext,r.zok,λj b h1=>r.new j b (h30 h1).2⟩
 ·obtain⟨n,h2⟩:=h30 h1;obtain⟨xs,h3⟩:=r.own j b h2;exact⟨xs,by rw[ß (Á0 n)];exact h3⟩
 ·rcases getElem?_set' e with ⟨rfl,e1,hlt⟩ | ⟨n,e1⟩
  ·cases hs:ρ[j]? with
   |none=>rw[hs] at e1;cases e1
   |some o =>
    rw[hs] at e1;cases o with
    |none=>cases e1
    |some s0 =>
     cases e1;obtain⟨w,h1,h2⟩:=r.wor j s0 hs;refine⟨w,h1,?_⟩;cases s0 with
     |d y=>exact⟨v00,h2.2.same sm⟩|z=>exact⟨v00,h2.2⟩|ks l=>obtain⟨_,d,q,k⟩:=h2;exact⟨v00,d,q,k.same sm⟩
     |fr xs =>
      obtain⟨b,zs,k1,rfl,k3,k4⟩:=h2;refine⟨v00,Hd.lst (h40 (d00 k3 (r.zne j b k1)) λk q=>?_) (k4.same sm)⟩;obtain⟨q1,q2⟩:=h30 q;exact q1 (r.inj k j b q2 k1)
  ·obtain⟨w,h1,h2⟩:=r.wor j s e1;exact⟨w,h1,h2.move (g21 n) sm λ_ _=>rfl⟩
end
theorem HdA.eraseIdx{K:Â}{H:Hp}:∀ {ds:List D}{vs:List V} (n:Nat),HdA K H ds vs->HdA K H (ds.eraseIdx n) (vs.eraseIdx n)
 |[],_,n,h=>by rw[h.f50];exact .nil
 |d::ds,_,0,h=>by
  obtain⟨x,r,rfl,h1,h2⟩:=h.c50;exact h2
 |d::ds,_,n + 1,h=>by
  obtain⟨x,r,rfl,h1,h2⟩:=h.c50;exact .cons h1 (HdA.eraseIdx n h2)
section
variable {lm:Bool}{X:Cx}{G:Gs}{E:XK}{N:List Str}{sc:ë}{cn:List Str}{H0:Hp}{zE:Option Ç}
theorem z71{α β:Type}{R:α->β->Prop}{a:α}{vs:List β}(h:À5 R [a] vs):∃ v,vs=[v]/\R a v:=by
 cases h with
 |cons h1 h2=>cases h2;exact⟨_,rfl,h1⟩
theorem c90.a50(st:c90 zA z H)(n:zA≠some a)(h:H a=some (.lst xs)):c90 zA z (upd H a o):=by
 refine⟨?_,λp hp=>Tab.upd (st.tab p hp) h⟩;have st:=st.zat;cases zA with
 |none=>cases z <;> exact st
 |some b =>
  cases z with
  |none=>exact st
  |some p =>
   have hb:b≠a:=λq=>n (by rw[q])
   exact(L2.a50 hb).trans st
theorem u52(h:ownAt ρ i=some xs):ρ[i]?=some (some (.fr xs)):=by
 unfold ownAt at h;split at h
 ·rename_i h1;cases h;exact h1
 ·cases h
def f02{K:Â}{zA:Option Ç}{H0 H:Hp}{s:S}{v:V}{x:D}(h:RvS K zA H0 H s v)(e:plD s=some x):Hd K (hz zA H) x v:=h.pl.d_ e
theorem K12(x:XS lm X G E N sc cn){i:Nat}{n:Str}{e:Ex}{v:Ð}{p apos cpos pos:Pos}(h1:N[i]?=some n)(h2:b30 n=true)(ns:noStar v=true)(g:b00 X G E e v)(hl:(apos.endLine == cpos.line)=true) :
  PS X (.Expr (.Call (.Attribute (.Name n p) "append" apos) [v] [] cpos) pos) (tX X.K G E H0 zE (.app i e)):=by
 unfold b30 at h2;simp only[Á,î] at h2;have ga:Good X G E (.cons e .nil) [v]:=⟨v,[],rfl,ns,g,rfl,rfl⟩;have hs:=d10 ns [] X.env;refine PS.imp (J80 (X51 Ñ7 Ð3 Ð2 C60 (k20 (i:=i) (by rw[x.hN];exact h1) (x.vis n (æ h1)) h2.1 h2.2) (ga.args rfl).1 rfl (by rw[hs];rfl) hl hs rfl) (k40 rfl none)) λD σ H q=>?_
 obtain⟨zA,ow,ρ,z,rr,rw,st,ee,po⟩:=q;obtain⟨xs,hx,e1⟩:=M.a30 ee;have ho:=u52 hx;obtain⟨w,k1,a,ys,k2,rfl,k3,k4⟩:=rw.wor i _ ho;refine⟨_,k1,.inl ⟨rfl,ys,SqL.of k3⟩,?_⟩;have e2:M.bind (ev G.F (.cons e .nil) ρ) (λm=>M.bind (M.of (pl m)) λx=>if bare x=true/\xs.length < most then M.ret (O.nx (ρ.set i (some (.fr (xs++[x]))))) else M.no) z=some rr\/∃ c z1,ev G.F e ρ z=some (.er c z1)/\rr=.er c z1:=by
  rcases M.bind_some e1 with ⟨l,z1,e3,e4⟩ | ⟨c,z1,e3,e4⟩
  ·obtain⟨y,hy,e5⟩:=M.a30 e4;obtain⟨s,rfl,hs⟩:=f20 hy;refine .inl ?_;show M.bind (M.bind (ev G.F e ρ) λx=>M.bind (M.of (one x)) λs=>M.bind (ev G.F .nil ρ) λy=>M.ret (s::y)) _ z=some rr;have b:∀ {α β:Type}{m:M α}{f:α->M β}{z a z1},m z=some (.ok a z1)->M.bind m f z=f a z1:=λh=>by unfold M.bind;rw[h]
   rw[b (a:=[s]) (z1:=z1) (by rw[b e3];rfl)];show M.bind (M.of (pl _)) _ _=_;rw[hy];exact e5
  ·exact .inr ⟨c,z1,e3,e4⟩
 rcases e2 with e2 | ⟨c,z1,e3,rfl⟩
 ·refine T70 rw.O20 st e2 (po.ers rw) λl z1 e3 vs H1 x1 st1 rvs=>?_;obtain⟨y,hy,e5⟩:=M.a30 e3;obtain⟨s,rfl,hs⟩:=f20 hy;split at e5
  ·rename_i hb;cases e5;obtain⟨u,rfl,ru⟩:=z71 rvs;have r1:=rw.mono x1;have k3':=x1.at k3 (rw.zne i a k2);have k4':HdA X.K (hw ow (hz zA H1)) xs ys:=k4.same (d60 x1);have hd:=O10 r1.T81 hb.1 (f02 ru hs);refine⟨a,ys,u,rfl,rfl,k3',Ô (by rw[k4.length];exact hb.2) (f60 (Î _)),?_⟩
   refine po zA ow σ _ (r1.upd k2 (k4'.append (.cons hd .nil))) ?_ (a20.trans (d60 x1) (e52 k2));exact st1.a50 (rw.zne i a k2) k3'
  ·cases e5
 ·refine⟨zA,ρ,z,.er c z1,rw.O20,st,?_,po.er_ rw⟩;show M.bind (ev G.F e ρ) _ z=_;simp only[M.bind,e3]
theorem u62(x:XS lm X G E N sc cn){i f:Nat}{as:Ex}{y:Str}{v:Ð}{px pos:Pos}(hi:N[i]?=some y)(hl:x30 sc y=true)(g:b00 X G E (.call f as) v)(hv:U60 v=true) :
 PS X (.Assign [.Name y px] v pos) (tX X.K G E H0 zE (.newz i f as)):=by
 have L:=x.loc;refine PS.imp (n20 (i:=i) (by rw[x.hN];exact x.nd) (by rw[x.hN];exact hi) (L.lc y hl) g.pe (k40 hv _) (L.fn y hl)) λD σ H q=>?_
 obtain⟨zA,ow,ρ,z,rr,rw,st,ee,po⟩:=q;refine i20 rw.O20 st ee (po.ers rw) λl z1 e1=>?_;have e2:v71 zE.isNone ρ i l=some rr:=e1;unfold v71 at e2;split at e2
 ·split at e2
  ·rename_i m b hz';cases e2;have zn:zE=none:=by
    cases zE with
    |none=>rfl|some _=>cases hz'
   subst zn;refine⟨_,rfl,λu H1 x1 st1 rv=>?_⟩;obtain⟨a,ys,rfl,k1,k2,k3,k4⟩:=rv;obtain⟨v1,v2,rfl,h3,h4⟩:=k4.two;cases h3.l70;cases h4.bl_;obtain⟨r1,sm⟩:=rw.W72 (i:=i) x1 k1 k2 k3;exact po (some a) _ _ H1 r1 ⟨k3,st1.tab⟩ sm
  ·cases e2
 ·cases e2
theorem u72(x:XS lm X G E N sc cn){i:Nat}{n:Str}{e:Ex}{v:Ð}{c:Nat}{p q tp pos:Pos}(h1:N[i]?=some n)(h2:b30 n=true)(g:b00 X G E e v) :
 PS X (.Assign [.Subscript (.Name n p) (.Constant (.int 0) c q) tp] v pos) (tX X.K G E H0 zE (.zset i e)):=by
 unfold b30 at h2;simp only[Á,î] at h2;refine PS.imp (R51 g.pe (l52 (k20 (i:=i) (by rw[x.hN];exact h1) (x.vis n (æ h1)) h2.1 h2.2) Q40 set_list (by intro u;rfl)) (show Î2 v (some (.Subscript (.Name n p) (.Constant (.int 0) c q) tp)) pos.line X.env=pure false from U70 rfl) (by cases v <;> rfl)) λD σ H q=>?_
 obtain⟨zA,ow,ρ,z,rr,rw,st,ee,po⟩:=q;refine i20 rw.O20 st ee (po.ers rw) λl z1 e1=>?_;obtain⟨y,hy,e2⟩:=M.a30 e1;obtain⟨dy,hy1,hy2⟩:=Í.mp hy;obtain⟨s,rfl,hs⟩:=f20 hy1;refine⟨s,rfl,λu H1 x1 st1 rv=>?_⟩;have e3:v81 ρ y ρ[i]? z1=some rr:=e2;unfold v81 at e3;split at e3
 ·rename_i p' hsl;cases e3;have r1:=rw.mono x1;obtain⟨w,k1,k2,a,rfl,rfl⟩:=r1.wor i .z hsl;have hu:u=.int y:=by
   have:=f02 rv hs;cases dy <;> first | (cases hy2;exact this.l70) | (cases hy2;done)
  subst hu;have st':H1 a=some (.lst [.int p'.1,.bl p'.2]):=st1.zat;refine⟨_,k1,a,[.int p'.1,.bl p'.2],0,0,rfl,rfl,st',rfl,?_⟩;have x2:Ext (some a) H1 (upd H1 a (.lst [.int y,.bl p'.2])):=by
   refine⟨λb o h=>?_,λb ps h=>⟨ps,by rw[a50 (λz=>by rw[z,st'] at h;cases h)];exact h⟩⟩
   obtain⟨h3,h4⟩:=m50 h;exact d00 (by rw[a50 (λz=>h4 (by rw[z]))];exact h3) h4 (l80 h)
  exact po (some a) ow σ _ (r1.mono x2) ⟨a70,λp hp=>Tab.upd (st1.tab p hp) st'⟩ (a20.trans (d60 x1.same) (d60 x2.same))
 ·cases e3
end
section
variable {K:Â}{H0 H H':Hp}{zE zA:Option Ç}{ow:Nat->Option Ç}{ρ:Env}{σ:L2.St}
theorem RW.O62(r:RW K H0 zE zA ow H ρ σ):RW K H0 zE zA (ow0 ow i) H (ρ.set i none) (σ.set i (some v)):=by
 have sub:∀ j a,ow0 ow i j=some a->j≠i/\ow j=some a:=λj a e=>by
  unfold ow0 at e;split at e
  ·cases e
  ·rename_i n;exact⟨n,e⟩
 refine⟨by rw[À9,À9];exact r.len,λj k a h1 h2=>r.inj j k a (sub j a h1).2 (sub k a h2).2,λj a h1=>r.zne j a (sub j a h1).2,λj a h1=>?_,λj s e=>?_,r.ext,r.zok,λj a h1=>r.new j a (sub j a h1).2⟩
 ·obtain⟨n,h2⟩:=sub j a h1;obtain⟨xs,h3⟩:=r.own j a h2;exact⟨xs,by rw[ß (Á0 n)];exact h3⟩
 ·rcases getElem?_set' e with ⟨rfl,e1,hlt⟩ | ⟨n,e1⟩
  ·cases e1
  ·obtain⟨w,h1,h2⟩:=r.wor j s e1;exact⟨w,by rw[ß (Á0 n)];exact h1,h2.move (by unfold ow0;exact if_neg n) (i40 _ _) λ_ _=>rfl⟩
end
section
variable {lm:Bool}{X:Cx}{G:Gs}{E:XK}{N:List Str}{sc:ë}{cn:List Str}{H0:Hp}{zE:Option Ç}{c P:Ç}{q:Str}{k:Nat}{fR:Ç}{fdR:Ã0}
def LB(X:Cx)(G:Gs)(N:List Str)(sc:ë)(H0:Hp)(zE:Option Ç)(q:Str)(i:Nat)(done:List (List Nat × Ex))(Rn:Env->Z->Prop)(B:Hp)(σ:L2.St)(H:Hp):Prop:=∃ zA ow ρ z Ld ts Hb,RW X.K H0 zE zA ow Hb ρ σ/\Hb Ld=none/\Ext zA Hb H/\a20 B (hw ow (hz zA Hb))/\c90 zA z H/\σ[i]?=some (some (.ref Ld))/\H Ld=some (.lst (ts.map λt=>.ref t.f))/\zA≠some Ld/\À5 (n31 X G N sc q H) ts done/\Rn ρ z
def LC(X:Cx)(G:Gs)(N:List Str)(sc:ë)(H0:Hp)(zE:Option Ç)(q:Str)(i:Nat)(all:List (List Nat × Ex))(Rn:Env->Z->Prop)(B:Hp)(σ:L2.St)(H:Hp):Prop:=∃ zA ow ρ z Ld ts,RW X.K H0 zE zA ow H ρ σ/\a20 B (hw ow (hz zA H))/\c90 zA z H/\σ[i]?=some (some (.ref Ld))/\H Ld=some (.lst (ts.map λt=>.ref t.f))/\zA≠some Ld/\À5 (n31 X G N sc q H) ts all/\Rn ρ z
theorem LB.lc(h:LB X G N sc H0 zE q i all Rn B σ H):LC X G N sc H0 zE q i all Rn B σ H:=by
 obtain⟨zA,ow,ρ,z,Ld,ts,Hb,rw,nb,xb,sb,st,eL,hL,zL,pr,run⟩:=h;exact⟨zA,ow,ρ,z,Ld,ts,rw.mono xb,a20.trans sb (d60 xb.same),st,eL,hL,zL,pr,run⟩
def g31(h:K41 X q H t)(hL:H Ld=some (.lst ys)):K41 X q (upd H Ld o) t:=
 ⟨h.form,by rw[a50 (λz=>by have:=h.fn;rw[z,hL] at this;cases this)];exact h.fn,by rw[a50 (λz=>by have:=h.rc;rw[z,hL] at this;cases this)];exact h.rc,h.cl1,h.cl2⟩
theorem f12(x:Ext zA Hb H)(n:Hb Ld=none):Ext zA Hb (upd H Ld o):=by
 refine⟨λb u e=>?_,λb ps e=>?_⟩
 ·obtain⟨e1,e2⟩:=m50 e;have ne:b≠Ld:=a80 e1 n;refine d00 ?_ e2 (l80 e);rw[a50 ne];exact(m50 (x.same b u e)).1
 ·obtain⟨qs,h⟩:=x.tbl b ps e;exact⟨qs,by rw[a50 (a80 e n)];exact h⟩
theorem u82(L:E90 X G sc c P q k fR fdR)(hs:w81 lsc sc (b60 N capt)=true):LTf X lsc ((b60 N capt).map (·.1)):=by
 unfold w81 at hs;simp only[Á,î,beq_iff_eq,Ä6,decide_eq_true_eq] at hs;obtain⟨⟨⟨⟨⟨⟨s1,s2⟩,s3⟩,s4⟩,s5⟩,s6⟩,s7⟩:=hs;refine⟨λy hy hf=>?_,λy hy=>by simpa using s4 y hy,λy hy=>?_,s1,s2,s3⟩
 ·have:=s5 y hy;rw[hf] at this;unfold Env.kindOf;rw[L.sco];simpa using this
 ·obtain⟨pr,h1,rfl⟩:=Ò.mp hy;exact s6 pr h1
def z81(h:K41 X q H t)(x:Ext zA H H')(nz:∀ {a:Ç}{p:ê->Prop},H a=some (.ext p)->zA≠some a):K41 X q H' t:=⟨h.form,x.at h.fn (nz h.fn),x.at h.rc (nz h.rc),h.cl1,h.cl2⟩
theorem U21(st:c90 zA z H)(h:H a=some (.ext p)):zA≠some a:=λe=>by
 subst e;have:=st.zat;cases z with
 |none=>exact this.elim
 |some pr =>
  have h':H a=some (.lst [.int pr.1,.bl pr.2]):=this;rw[h] at h';cases h'
theorem g41(L:E90 X G sc c P q k fR fdR)(f:u22 G N sc capt a lsc body):PE X (.Lambda noArgs body lsc lpos) (λσ H Q=>∃ zA z,c90 zA z H/\∀ t H2,t.lsc=lsc->t.body=body->n31 X G N sc q H2 t (capt,a)->Ext zA H H2->c90 zA z H2->H t.f=none->Q (.ref t.f) H2):=by
 have fm:=u82 (N:=N) L f.hs;refine PE.imp (o72 (lpos:=lpos) L.code L.hd L.qual rfl L.bm fm.hfr) λσ H Q qq=>?_;obtain⟨zA,z,st,po⟩:=qq;have tab:=st.tab _ L.tb;refine⟨tab,λcl fa c' pm ctv H2 h1 h2 t2 kb nf e1 e2=>?_⟩;exact po ⟨fa,c',cl,pm,ctv,lsc,body,(b60 N capt).map (·.1)⟩ H2 rfl rfl ⟨⟨fm,e1,e2,h1,h2⟩,rfl,f⟩ (N31 kb tab t2) (e32 kb tab t2 L.uq st) nf
theorem g51{α β:Type}{R:α->β->Prop}{x:α}{y:β}(r:R x y):∀ {xs:List α}{ys:List β},À5 R xs ys->À5 R (xs++[x]) (ys++[y])
 |_,_,.nil=>.cons r .nil|_,_,.cons h t=>.cons h (g51 r t)
def U31(st:c90 zA z H)(x:Ext zA H H')(h:À5 (n31 X G N sc q H) ts ls):À5 (n31 X G N sc q H') ts ls:=À5.R11 h λ_ _ ⟨a,b,d⟩=>⟨z81 a x λh=>U21 st h,b,d⟩
theorem u92(x:XS lm X G E N sc cn)(L:E90 X G sc c P q k fR fdR){i:Nat}{y:Str}{capt:List Nat}{a:Ex}{lsc:ë}{body:Ð}{lpos lp p pos:Pos}(hi:N[i]?=some y)(hy:x30 sc y=true)(f:u22 G N sc capt a lsc body){Rn:Env->Z->R O->Prop} :
 PS X (.Assign [.Name y p] (.List [.Lambda noArgs body lsc lpos] lp) pos) (λD σ H=>∃ zA ow ρ z rr,RW X.K H0 zE zA ow H ρ σ/\c90 zA z H/\i < ρ.length/\Rn (ρ.set i none) z rr/\∀ σ' H',LB X G N sc H0 zE q i [(capt,a)] (λρ z=>Rn ρ z rr) (hw ow (hz zA H)) σ' H'->D.nx σ' H'):=by
 have Lc:=x.loc;refine PS.imp (n20 (by rw[x.hN];exact x.nd) (by rw[x.hN];exact hi) (Lc.lc y hy) (d51 (e00 (g41 L f) o30)) rfl (Lc.fn y hy)) λD σ H qq=>?_
 obtain⟨zA,ow,ρ,z,rr,rw,st,il,run,po⟩:=qq;refine⟨zA,z,st,λt H2 _ _ lt xx st2 nf=>⟨by show 1<=sizeLine;decide,λp hp=>?_⟩⟩
 have hil:i < σ.length:=by rw[← rw.len];exact il
 exact po _ _ ⟨zA,_,_,z,p,[t],H2,(rw.mono xx).O62 (v:=.ref p),hp,Ext.of (a20.new _ hp),a20.trans (d60 xx) (i40 _ _),st2.same (a20.new _ hp),å hil,a70,st2.E30 hp,.cons ⟨z81 lt.1 (Ext.of (a20.new _ hp)) λh=>U21 st2 h,lt.2⟩ .nil,run⟩
theorem v02(x:XS lm X G E N sc cn)(L:E90 X G sc c P q k fR fdR){i:Nat}{y:Str}{capt:List Nat}{a:Ex}{lsc:ë}{body:Ð}{lpos p apos cpos pos:Pos}(hi:N[i]?=some y)(h2:b30 y=true)(hl:(apos.endLine == cpos.line)=true)(f:u22 G N sc capt a lsc body){done:List (List Nat × Ex)}{Rn:Env->Z->R O->Prop}(hd:done.length < 1000) :
  PS X (.Expr (.Call (.Attribute (.Name y p) "append" apos) [.Lambda noArgs body lsc lpos] [] cpos) pos) (λD σ H=>∃ B rr,LB X G N sc H0 zE q i done (λρ z=>Rn ρ z rr) B σ H/\∀ σ' H',LB X G N sc H0 zE q i (done++[(capt,a)]) (λρ z=>Rn ρ z rr) B σ' H'->D.nx σ' H'):=by
 unfold b30 at h2;simp only[Á,î] at h2;refine PS.imp (J80 (X51 Ñ7 Ð3 Ð2 C60 (k20 (i:=i) (by rw[x.hN];exact hi) (x.vis y (æ hi)) h2.1 h2.2) (e00 (g41 L f) o30) rfl rfl hl rfl rfl) (k40 rfl none)) λD σ H qq=>?_
 obtain⟨B,rr,⟨zA,ow,ρ,z,Ld,ts,Hb,rw,nb,xb,sb,st,eL,hL,zL,pr,run⟩,po⟩:=qq;refine⟨_,eL,.inl ⟨rfl,_,SqL.of hL⟩,zA,z,st,λt H2 _ _ lt xx st2 nf=>?_⟩;have hL2:=xx.at hL zL;refine⟨Ld,_,_,rfl,rfl,hL2,?_,?_⟩
 ·rw[È,pr.length];exact Ô hd 1e1
 ·refine po _ _ ⟨zA,ow,ρ,z,Ld,ts++[t],Hb,rw,nb,f12 (xb.trans xx) nb,sb,st2.a50 zL hL2,eL,?_,zL,g51 ⟨g31 lt.1 hL2,lt.2⟩ (À5.R11 (U31 st xx pr) λ_ _ ⟨u,v⟩=>⟨g31 u hL2,v⟩),run⟩;rw[Á3];exact a70
def tLC(X:Cx)(G:Gs)(E:XK)(N:List Str)(sc:ë)(H0:Hp)(zE:Option Ç)(q:Str)(i:Nat)(all:List (List Nat × Ex))(Rn:Env->Z->R O->Prop):TS:=λD σ H=>∃ B rr,LC X G N sc H0 zE q i all (λρ z=>Rn ρ z rr) B σ H/\n90 X.K G E H0 zE B D rr
abbrev K22(F:FT)(tp:Bool)(all:List (List Nat × Ex))(e:Ex)(t r:Sm)(ρ:Env)(z:Z)(rr:R O):Prop:=E20 F all e (ex F tp t) (ex F tp r) ρ z=some rr
theorem U41(L:E90 X G sc c P q k fR fdR){i:Nat}{all:List (List Nat × Ex)}{e:Ex}{t r:Sm}{σ:L2.St}{H:Hp}{D:Ends}{B:Hp}{rr:R O}{Q:Bool->Hp->Prop}(lb:LC X G N sc H0 zE q i all (λρ z=>K22 G.F zE.isNone all e t r ρ z rr) B σ H)(po:n90 X.K G E H0 zE B D rr)
  (hQ:∀ b zA ow ρ z H3,RW X.K H0 zE zA ow H3 ρ σ->c90 zA z H3->M.bind (if b=true then ex G.F zE.isNone t ρ else M.ret (.nx ρ)) (λo=>match o with
   |.nx ρ=>ex G.F zE.isNone r ρ
   |.rt s=>M.ret (.rt s)) z=some rr->n90 X.K G E H0 zE (hw ow (hz zA H3)) D rr->Q b H3) :
  W61 (tOp (rD2 X.K λa b=>(t80 .ne a b).map λc=>.d (.bl c)) (tLL X G N sc q i all) (tI X.K G E e)) σ H Q:=by
 obtain⟨zA,ow,ρ,z,Ld,ts,rw,sb,st,eL,hL,zL,pr,run⟩:=lb;unfold K22 E20 at run;split at run
 ·cases run
 ·rename_i cs z1 hlv;refine⟨zA,ρ,z,cs,z1,Ld,ts,rw.O20,st,hlv,eL,hL,zL,pr,λv H1 x1 st1 rv=>?_⟩;have rw1:=rw.mono x1;refine i20 rw1.O20 st1 run ((po.mono (a20.trans sb (d60 x1.same))).ers rw1) λl z2 e1=>?_;obtain⟨d,hd,e2⟩:=M.a30 e1;obtain⟨s,rfl,hs'⟩:=f20 hd;refine⟨s,rfl,λw H2 x2 st2 rv2=>?_⟩;obtain⟨b,hb,e3⟩:=M.a30 e2;refine⟨zA,z2,.lst (cs.map L71),d,.d (.bl b),st2,(show RvP X.K zA H1 (.fr (cs.map L71)) v from rv.pl).mono x2,f02 rv2 hs',by show Ì9 _ (t80 .ne _ d)=_;rw[hb];rfl,λv' H3 sm rv3=>⟨b,Hd.bl_ (show Hd X.K (hz zA H3) (.bl b) v' from rv3),?_⟩⟩
  have x3:=x1.trans (x2.trans (Ext.of sm));exact hQ b zA ow ρ z2 H3 (rw.mono x3) (st2.same sm) e3 (po.mono (a20.trans sb (d60 x3.same)))
theorem z91{D:Ends}{σ:L2.St}{t r:Sm}{rr:R O}{b:Bool}{zA:Option Ç}{ow:Nat->Option Ç}{ρ:Env}{z:Z}{H:Hp}(rw:RW X.K H0 zE zA ow H ρ σ)(st:c90 zA z H)(e:M.bind (if b=true then ex G.F zE.isNone t ρ else M.ret (.nx ρ)) (λo=>match o with
   |.nx ρ=>ex G.F zE.isNone r ρ
   |.rt s=>M.ret (.rt s)) z=some rr) (po:n90 X.K G E H0 zE (hw ow (hz zA H)) D rr):if b=true then tX X.K G E H0 zE t { D with nx:=tX X.K G E H0 zE r D } σ H else tX X.K G E H0 zE r D σ H:=by
 cases b with
 |true =>
  show tX X.K G E H0 zE t _ σ H;rcases M.bind_some e with ⟨o,z4,e4,e5⟩ | ⟨c,z4,e4,e5⟩
  ·refine⟨zA,ow,ρ,z,_,rw,st,e4,?_⟩;cases o with
   |nx ρ1=>exact λzA' ow' σ' H' rw' st' sm'=>⟨zA',ow',ρ1,z4,rr,rw',st',e5,po.mono sm'⟩|rt s=>cases e5;exact po
  ·subst e5;exact⟨zA,ow,ρ,z,_,rw,st,e4,po⟩
 |false=>exact⟨zA,ow,ρ,z,rr,rw,st,e,po⟩
theorem K32(x:XS lm X G E N sc cn)(L:E90 X G sc c P q k fR fdR){i:Nat}{n y:Str}{csc:ë}{p p2 p3 p4 pos ps cp ip:Pos}{rhs:Ð}{body rest:List Á5}{all:List (List Nat × Ex)}{e:Ex}{t r:Sm}(hi:N[i]?=some y)(ny:b30 y=true)(nn:b30 n=true)(cc:N41 csc sc N [n] [])(hg:glob csc "_law_refused"=true)(hls:all.length<=1000)(hs:p00 rhs=true)(ge:b00 X G E e rhs)(ht:PSs X body (tX X.K G E H0 zE t))(hr:PSs X rest (tX X.K G E H0 zE r)) :
 PSs X (.If (.Compare (.ListComp (.Call (.Name "_law_refused" p) [.Name n p2] [] pos) [⟨.Name n p3,.Name y p4,[],0⟩] csc ps) [.NotEq] [rhs] cp) body [] ip::rest) (tLC X G E N sc H0 zE q i all (K22 G.F zE.isNone all e t r)):=by
 refine PSs.imp (d40 (p71 (K20 (S81 x.room.units .ne) (z11 x.toXI L hi ny nn cc hg hls) ge.pe (T90 hs _)) ht C30) hr) λD σ H qq=>?_;obtain⟨B,rr,lb,po⟩:=qq;exact U41 L lb po λb zA ow ρ z H3 rw st e po=>z91 rw st e po
def O72(F:FT)(tp:Bool)(all:List (List Nat × Ex))(j:Nat)(e:Ex)(t r:Sm)(ρ:Env)(z:Z)(rr:R O):Prop:=∃ b,ρ[j]?=some (some (.d (.bl b)))/\(if b=true then E20 F all e (ex F tp t) (ex F tp r) ρ else ex F tp r ρ) z=some rr
theorem v12(x:XS lm X G E N sc cn)(L:E90 X G sc c P q k fR fdR){i j:Nat}{n y w:Str}{csc:ë}{p p2 p3 p4 pos ps cp ip pw bp:Pos}{rhs:Ð}{body rest:List Á5}{all:List (List Nat × Ex)}{e:Ex}{t r:Sm}(hi:N[i]?=some y)(hj:N[j]?=some w)(nw:b30 w=true)(ny:b30 y=true)(nn:b30 n=true)(cc:N41 csc sc N [n] [])(hg:glob csc "_law_refused"=true)(hls:all.length<=1000)(hs:p00 rhs=true)(ge:b00 X G E e rhs)(ht:PSs X body (tX X.K G E H0 zE t))(hr:PSs X rest (tX X.K G E H0 zE r)) :
 PSs X (.If (.BoolOp .And [.Name w pw,.Compare (.ListComp (.Call (.Name "_law_refused" p) [.Name n p2] [] pos) [⟨.Name n p3,.Name y p4,[],0⟩] csc ps) [.NotEq] [rhs] cp] bp) body [] ip::rest) (tLC X G E N sc H0 zE q i all (O72 G.F zE.isNone all j e t r)):=by
 unfold b30 at nw;simp only[Á,î] at nw;refine PSs.imp (d40 (p71 (R31 (c91 (k20 (i:=j) (by rw[x.hN];exact hj) (x.vis w (æ hj)) nw.1 nw.2)) (p61 (K20 (S81 x.room.units .ne) (z11 x.toXI L hi ny nn cc hg hls) ge.pe (T90 hs _)))).pt ht C30) hr) λD σ H qq=>?_
 obtain⟨B,rr,⟨zA,ow,ρ,z,Ld,ts,rw,sb,st,eL,hL,zL,pr,b,eb,run⟩,po⟩:=qq;obtain⟨v,e1,e2⟩:=rw.O20 j _ eb;refine⟨v,e1,b,Hd.bl_ (show Hd X.K (hz zA H) (.bl b) v from e2),?_⟩;cases b with
 |true =>
  show(if true=true then _ else _);rw[if_pos rfl] at run ⊢;exact U41 L ⟨zA,ow,ρ,z,Ld,ts,rw,sb,st,eL,hL,zL,pr,run⟩ po λb zA ow ρ z H3 rw st e po=>z91 rw st e po
 |false =>
  show(if false=true then _ else _);rw[if_neg Ï] at run ⊢;exact⟨zA,ow,ρ,z,rr,rw,st,run,po.mono sb⟩
theorem v22(x:XS lm X G E N sc cn){i j:Nat}{w:Str}{v:Ð}{px pos:Pos}{a:Ex}{all:List (List Nat × Ex)}{e:Ex}{t r:Sm}(hj:N[j]?=some w)(hij:i≠j)(hl:x30 sc w=true)(ga:b00 X G E a v)(hv:∀ o,Î2 v o pos.line X.env=pure false){rest:List Á5}(hr:PSs X rest (tLC X G E N sc H0 zE q i all (O72 G.F zE.isNone all j e t r))) :
 PSs X (.Assign [.Name w px] v pos::rest) (tLC X G E N sc H0 zE q i all λρ z rr=>v51 G.F all (some (j,a)) e (ex G.F zE.isNone t) (ex G.F zE.isNone r) ρ z=some rr):=by
 have Lc:=x.loc;refine PSs.imp (d40 (n20 (by rw[x.hN];exact x.nd) (by rw[x.hN];exact hj) (Lc.lc w hl) ga.pe (hv _) (Lc.fn w hl)) hr) λD σ H qq=>?_
 obtain⟨B,rr,⟨zA,ow,ρ,z,Ld,ts,rw,sb,st,eL,hL,zL,pr,run⟩,po⟩:=qq;have run:(if j < ρ.length then M.bind (ev G.F a ρ) (λl=>M.bind (M.of ((pl l).bind asB)) λb=>if b then E20 G.F all e (ex G.F zE.isNone t) (ex G.F zE.isNone r) (ρ.set j (some (.d (.bl b)))) else ex G.F zE.isNone r (ρ.set j (some (.d (.bl b))))) else M.no) z=some rr:=run;by_cases jl:j < ρ.length
 rotate_left
 ·rw[if_neg jl] at run;cases run
 rw[if_pos jl] at run;refine i20 rw.O20 st run ((po.mono sb).ers rw) λl z1 e1=>?_;obtain⟨b,p1,e2⟩:=M.a30 e1;obtain⟨d,p2,p3⟩:=Í.mp p1;obtain⟨s1,rfl,q1⟩:=f20 p2;refine⟨s1,rfl,λu H1 x1 st1 rv=>?_⟩;have hd:=rv.pl.d_ q1;cases d with
 |bl c' =>
  cases p3;have hu:=hd.bl_;subst hu;have rw1:=(rw.mono x1).O52 (i:=j) (x:=.bl b) (v:=.bl b) (by constructor)
  refine⟨B,rr,⟨zA,_,_,z1,Ld,ts,rw1,a20.trans sb (a20.trans (d60 x1.same) (i40 _ _)),st1,by rw[ß (Á0 hij)];exact eL,x1.at hL zL,zL,U31 st x1 pr,b,?_,?_⟩,po⟩
  ·exact å jl
  ·cases b <;> exact e2
 |_=>cases p3
def v32:(ss:List Á5)->Option {u:Str × Pos × Ð × ë × Pos × Pos × Pos × List Á5 // ss=.Assign [.Name u.1 u.2.1] (.List [.Lambda ⟨[],[],none,[],[],none,[]⟩ u.2.2.1 u.2.2.2.1 u.2.2.2.2.1] u.2.2.2.2.2.1) u.2.2.2.2.2.2.1::u.2.2.2.2.2.2.2}
 |.Assign [.Name y p] (.List [.Lambda ⟨[],[],none,[],[],none,[]⟩ b l lp] q) pos::rest=>some ⟨(y,p,b,l,lp,q,pos,rest),rfl⟩|_=>none
def v42:(ss:List Á5)->Option {u:Str × Pos × Str × Pos × Ð × ë × Pos × Pos × Pos × List Á5 // ss=.Expr (.Call (.Attribute (.Name u.1 u.2.1) u.2.2.1 u.2.2.2.1) [.Lambda ⟨[],[],none,[],[],none,[]⟩ u.2.2.2.2.1 u.2.2.2.2.2.1 u.2.2.2.2.2.2.1] [] u.2.2.2.2.2.2.2.1) u.2.2.2.2.2.2.2.2.1::u.2.2.2.2.2.2.2.2.2}
 |.Expr (.Call (.Attribute (.Name y p) at' ap) [.Lambda ⟨[],[],none,[],[],none,[]⟩ b l lp] [] cp) pos::rest=>some ⟨(y,p,at',ap,b,l,lp,cp,pos,rest),rfl⟩|_=>none
structure LIf where
 g:Str
 p:Pos
 n:Str
 p2:Pos
 pos:Pos
 n3:Str
 p3:Pos
 y:Str
 p4:Pos
 csc:Scope
 ps:Pos
 rhs:Expr
 cp:Pos
 body:List Stmt
 ip:Pos
 rest:List Stmt
def K42:(ss:List Á5)->Option {u:LIf // ss=.If (.Compare (.ListComp (.Call (.Name u.g u.p) [.Name u.n u.p2] [] u.pos) [⟨.Name u.n3 u.p3,.Name u.y u.p4,[],0⟩] u.csc u.ps) [.NotEq] [u.rhs] u.cp) u.body [] u.ip::u.rest}
 |.If (.Compare (.ListComp (.Call (.Name g p) [.Name n p2] [] pos) [⟨.Name n3 p3,.Name y p4,[],0⟩] csc ps) [.NotEq] [rhs] cp) body [] ip::rest=>some ⟨⟨g,p,n,p2,pos,n3,p3,y,p4,csc,ps,rhs,cp,body,ip,rest⟩,rfl⟩|_=>none
def v52:(ss:List Á5)->Option {u:(Str × Pos × Pos) × LIf // ss=.If (.BoolOp .And [.Name u.1.1 u.1.2.1,.Compare (.ListComp (.Call (.Name u.2.g u.2.p) [.Name u.2.n u.2.p2] [] u.2.pos) [⟨.Name u.2.n3 u.2.p3,.Name u.2.y u.2.p4,[],0⟩] u.2.csc u.2.ps) [.NotEq] [u.2.rhs] u.2.cp] u.1.2.2) u.2.body [] u.2.ip::u.2.rest}
 |.If (.BoolOp .And [.Name w pw,.Compare (.ListComp (.Call (.Name g p) [.Name n p2] [] pos) [⟨.Name n3 p3,.Name y p4,[],0⟩] csc ps) [.NotEq] [rhs] cp] bp) body [] ip::rest=>some ⟨((w,pw,bp),⟨g,p,n,p2,pos,n3,p3,y,p4,csc,ps,rhs,cp,body,ip,rest⟩),rfl⟩|_=>none
def v62:(ss:List Á5)->Option {u:Str × Pos × Ð × Pos × List Á5 // ss=.Assign [.Name u.1 u.2.1] u.2.2.1 u.2.2.2.1::u.2.2.2.2}
 |.Assign [.Name w p] v pos::rest=>some ⟨(w,p,v,pos,rest),rfl⟩|_=>none
def A82(fns:List (Str × List Str))(nums:List (Str × Int))(sc:ë)(N:List Str)(u:List Nat × Ex)(lsc:ë)(body:Ð):Bool:=(b60 N u.1).length == u.1.length&&w81 lsc sc (b60 N u.1)&&!isL u.2&&mt false fns nums u.2 lsc ((b60 N u.1).map (·.1)) [body]
theorem A01(h:A82 G.fns G.nums sc N u lsc body=true):u22 G N sc u.1 u.2 lsc body:=by
 unfold A82 at h;simp only[Á,beq_iff_eq] at h;obtain⟨⟨⟨h1,h2⟩,h3⟩,h4⟩:=h;exact⟨h1,h2,b70 h3,λk {X E} xl=>sound (lowG G k) u.2 xl h4⟩
def O31(fns:List (Str × List Str))(nums:List (Str × Int))(sc:ë)(N:List Str)(i:Nat):List (List Nat × Ex)->List Á5->Option (List Á5)
 |[],ss=>some ss
 |u::r,ss=>match v42 ss with
  |none=>none|some v=>if v.1.2.2.1 == ("append":Str)&&N[i]? == some v.1.1&&b30 v.1.1&&v.1.2.2.2.1.endLine == v.1.2.2.2.2.2.2.2.1.line&&A82 fns nums sc N u v.1.2.2.2.2.2.1 v.1.2.2.2.2.1 then O31 fns nums sc N i r v.1.2.2.2.2.2.2.2.2.2 else none
def tLB(X:Cx)(G:Gs)(E:XK)(N:List Str)(sc:ë)(H0:Hp)(zE:Option Ç)(q:Str)(i:Nat)(done:List (List Nat × Ex))(Rn:Env->Z->R O->Prop):TS:=λD σ H=>∃ B rr,LB X G N sc H0 zE q i done (λρ z=>Rn ρ z rr) B σ H/\n90 X.K G E H0 zE B D rr
theorem v72(x:XS lm X G E N sc cn)(L:E90 X G sc c P q k fR fdR){i:Nat}{Rn:Env->Z->R O->Prop}{rest:List Á5}:∀ (us done:List (List Nat × Ex)) (ss:List Á5),O31 G.fns G.nums sc N i us ss=some rest->done.length + us.length<=1000->PSs X rest (tLB X G E N sc H0 zE q i (done++us) Rn)->PSs X ss (tLB X G E N sc H0 zE q i done Rn)
 |[],done,ss,h,_,hr=>by
  cases h;rw[Ç6] at hr;exact hr
 |u::us,done,ss,h,hl,hr=>by
  unfold O31 at h;split at h
  ·cases h
  ·rename_i v hv;split at h
   ·rename_i hb;simp only[Á,beq_iff_eq] at hb;obtain⟨⟨⟨⟨b1,b2⟩,b3⟩,b4⟩,b5⟩:=hb;obtain⟨v,e⟩:=v
    replace b1:v.2.2.1="append":=b1
    rw[e,b1];rw[ã] at hl;have ih:=v72 x L us (done++[u]) v.2.2.2.2.2.2.2.2.2 h (by rw[ù];show done.length + 1 + us.length<=1000;omega) (by rw[Ç7];exact hr)
    refine PSs.imp (d40 (v02 (done:=done) (H0:=H0) (zE:=zE) (Rn:=Rn) x L b2 b3 (by rw[beq_iff_eq];exact b4) (A01 b5) ∅) ih) λD σ H qq=>?_
    obtain⟨B,rr,lb,po⟩:=qq;exact⟨B,rr,lb,λσ' H' lb'=>⟨B,rr,lb',po⟩⟩
   ·cases h
def A92(lm:Bool)(fns:List (Str × List Str))(nums:List (Str × Int))(sc:ë)(N:List Str)(i:Nat)(e:Ex)(w:LIf):Bool:=w.g == ("_law_refused":Str)&&N[i]? == some w.y&&b30 w.n&&w.n == w.n3&&I00 w.csc sc N [w.n] []&&glob w.csc "_law_refused"&&p00 w.rhs&&!isL e&&mt lm fns nums e sc N [w.rhs]
def O82:Ð->Bool
 |.ListComp ..=>false|.SetComp ..=>false|.DictComp ..=>false|_=>true
def f22(lm:Bool)(fns:List (Str × List Str))(nums:List (Str × Int))(sc:ë)(N:List Str)(i:Nat)(g:Option (Nat × Ex))(e:Ex)(ss:List Á5):Option LIf:=match g with
 |none=>match K42 ss with
  |none=>none|some w=>if A92 lm fns nums sc N i e w.1 then some w.1 else none
 |some (j,a)=>match v62 ss with
  |none=>none
  |some v=>match v52 v.1.2.2.2.2 with
   |none=>none|some w=>if A92 lm fns nums sc N i e w.1.2&&i != j&&N[j]? == some v.1.1&&v.1.1 == w.1.1.1&&x30 sc v.1.1&&b30 v.1.1&&O82 v.1.2.2.1&&!isL a&&mt lm fns nums a sc N [v.1.2.2.1] then some w.1.2 else none
theorem f32(x:XS lm X G E N sc cn)(L:E90 X G sc c P q k fR fdR){i:Nat}{y:Str}(hi:N[i]?=some y)(ny:b30 y=true){all:List (List Nat × Ex)}{g:Option (Nat × Ex)}{e:Ex}{t r:Sm}{ss:List Á5}{w:LIf}(hls:all.length<=1000)(h:f22 lm G.fns G.nums sc N i g e ss=some w)(ht:PSs X w.body (tX X.K G E H0 zE t))(hr:PSs X w.rest (tX X.K G E H0 zE r)):PSs X ss (tLC X G E N sc H0 zE q i all λρ z rr=>v51 G.F all g e (ex G.F zE.isNone t) (ex G.F zE.isNone r) ρ z=some rr):=by
 unfold f22 at h;split at h
 ·split at h
  ·cases h
  ·rename_i w' hw';split at h
   ·rename_i hc;cases h;unfold A92 at hc;simp only[Á,beq_iff_eq] at hc;obtain⟨⟨⟨⟨⟨⟨⟨⟨c1,c2⟩,c3⟩,c4⟩,c5⟩,c6⟩,c7⟩,c8⟩,c9⟩:=hc;obtain⟨w,ew⟩:=w'
    replace c1:w.g="_law_refused":=c1
    replace c4:w.n3=w.n:=Eq.symm c4
    replace c2:w.y=y:=by rw[hi] at c2;exact(ü c2).symm
    rw[ew,c1,c2,c4];exact K32 (H0:=H0) (zE:=zE) (all:=all) x L hi ny c3 (N51 c5) c6 hls c7 (a90 (b70 c8) (sound G e x.toXI c9)) ht hr
   ·cases h
 ·rename_i j a;split at h
  ·cases h
  ·rename_i v hv;split at h
   ·cases h
   ·rename_i w' hw';split at h
    ·rename_i hc;cases h;simp only[Á,beq_iff_eq,bne_iff_ne] at hc;obtain⟨⟨⟨⟨⟨⟨⟨⟨hc,d1⟩,d2⟩,d3⟩,d4⟩,d5⟩,d6⟩,d7⟩,d8⟩:=hc;unfold A92 at hc;simp only[Á,beq_iff_eq] at hc;obtain⟨⟨⟨⟨⟨⟨⟨⟨c1,c2⟩,c3⟩,c4⟩,c5⟩,c6⟩,c7⟩,c8⟩,c9⟩:=hc;obtain⟨v,ev'⟩:=v;obtain⟨w,ew⟩:=w'
     replace c1:w.2.g="_law_refused":=c1
     replace c4:w.2.n3=w.2.n:=Eq.symm c4
     replace c2:w.2.y=y:=by rw[hi] at c2;exact(ü c2).symm
     replace d3:w.1.1=v.1:=Eq.symm d3
     replace ew:v.2.2.2.2=_:=ew
     rw[ev',ew,c1,c2,c4,d3];refine v22 (H0:=H0) (zE:=zE) x d2 d1 d4 (a90 (b70 d7) (sound G a x.toXI d8)) (λo=>k40 (by
      replace d6:O82 v.2.2.1=true:=d6
      generalize v.2.2.1=vv at d6 ⊢;cases vv <;> first | rfl | cases d6) o) ?_
     exact v12 (H0:=H0) (zE:=zE) (all:=all) x L hi d2 d5 ny c3 (N51 c5) c6 hls c7 (a90 (b70 c8) (sound G e x.toXI c9)) ht hr
    ·cases h
def A11(lm:Bool)(fns:List (Str × List Str))(nums:List (Str × Int))(sc:ë)(N:List Str)(i:Nat)(ls:List (List Nat × Ex))(g:Option (Nat × Ex))(e:Ex)(ss:List Á5):Option LIf:=match ls with
 |[]=>none
 |u::us=>match v32 ss with
  |none=>none
  |some v=>if lm&&N[i]? == some v.1.1&&x30 sc v.1.1&&b30 v.1.1&&decide (us.length < 900)&&A82 fns nums sc N u v.1.2.2.2.1 v.1.2.2.1 then match O31 fns nums sc N i us v.1.2.2.2.2.2.2.2 with
   |none=>none|some rest=>f22 lm fns nums sc N i g e rest
   else none
theorem v82(x:XS lm X G E N sc cn){i:Nat}{ls:List (List Nat × Ex)}{g:Option (Nat × Ex)}{e:Ex}{t r:Sm}{ss:List Á5}{w:LIf}(h:A11 lm G.fns G.nums sc N i ls g e ss=some w)(ht:PSs X w.body (tX X.K G E H0 zE t))(hr:PSs X w.rest (tX X.K G E H0 zE r)):PSs X ss (tX X.K G E H0 zE (.lams i ls g e t r)):=by
 unfold A11 at h;split at h
 ·cases h
 ·rename_i u us;split at h
  ·cases h
  ·rename_i v hv;split at h
   ·rename_i hb;simp only[Á,beq_iff_eq,decide_eq_true_eq] at hb;obtain⟨⟨⟨⟨⟨b1,b2⟩,b3⟩,b4⟩,b5⟩,b6⟩:=hb;split at h
    ·cases h
    ·rename_i rest hrest;obtain⟨c,P,q,k,fR,fdR,L⟩:=x.lam b1;obtain⟨v,ev'⟩:=v
     replace b2:N[i]?=some v.1:=b2
     rw[ev'];have last:=f32 (H0:=H0) (zE:=zE) (all:=u::us) x L b2 b4 (by rw[ã];omega) h ht hr
     have mid:=v72 (H0:=H0) (zE:=zE) x L us [u] v.2.2.2.2.2.2.2 hrest (by rw[á1];omega) (PSs.imp last λD σ H ⟨B,rr,lb,po⟩=>⟨B,rr,lb.lc,po⟩)
     refine PSs.imp (d40 (u92 (H0:=H0) (zE:=zE) (Rn:=λρ z rr=>v51 G.F (u::us) g e (ex G.F zE.isNone t) (ex G.F zE.isNone r) ρ z=some rr) x L b2 b3 (A01 b6)) mid) λD σ H qq=>?_;obtain⟨zA,ow,ρ,z,rr,rw,st,ee,po⟩:=qq;have e0:(if i < ρ.length then v51 G.F (u::us) g e (ex G.F zE.isNone t) (ex G.F zE.isNone r) (ρ.set i none) else M.no) z=some rr:=ee;split at e0
     ·rename_i il;exact⟨zA,ow,ρ,z,rr,rw,st,il,e0,λσ' H' lb=>⟨_,rr,lb,po⟩⟩
     ·cases e0
   ·cases h
end
section
variable {lm:Bool}{X:Cx}{G:Gs}{E:XK}{N:List Str}{sc:ë}{cn:List Str}{H0:Hp}{zE:Option Ç}
def K52(K:Â)(i:Nat):TI:=λσ H R=>∃ a,σ[i]?=some (some (.ref a))/\((∃ ys,SqT K H a ys)/\R (Itt K a) H\/(∃ ys,SqL K H a ys)/\R (Itl K a) H)
theorem U51(x:XI lm X G E N sc){tg:Ð}{i:Nat}{n:Str}{pos:Pos}(h1:N[i]?=some n)(h2:b30 n=true):PI X tg (.Name n pos) (K52 X.K i):=by
 unfold b30 at h2;simp only[Á,î] at h2;have hv:PE X (.Name n pos) (k82 i):=k20 (i:=i) (by rw[x.hN];exact h1) (x.vis n (æ h1)) h2.1 h2.2
 intro pins s σ H R I q;obtain⟨a,k,q | q⟩:=q
 ·exact R61 hv pins s σ H R I ⟨_,k,a,rfl,q.1,q.2⟩
 ·exact K00 hv pins s σ H R I ⟨_,k,a,rfl,q.1,q.2⟩
def fBody(F:FT)(tp:Bool)(p:Pat)(b:Sm):D->Env->M O:=λx ρ=>M.bind (M.of (f30 p x ρ)) λρ=>ex F tp b ρ
theorem F40:∀ {l:List D}{d:D},s80 l=true->d∈l->bare d=true
 |x::r,d,h,hd=>by
  simp only[s80,Á] at h;rcases ï.mp hd with rfl | hd
  ·exact h.1
  ·exact F40 h.2 hd
theorem g61{p:Pat}{b:Sm}{J:L2.It}{xs:List D}{B:Hp}{D:Ends}{σ:L2.St}{H:Hp}{zA:Option Ç}{ow:Nat->Option Ç}{ρ:Env}{z:Z}{rr:R O}(IT:ItB X.K J xs B)
 (rw:RW X.K H0 zE zA ow H ρ σ) (st:c90 zA z H) (sm:a20 B (hw ow (hz zA H))) (ee:X40 (fBody G.F zE.isNone p b) xs ρ z=some rr) (po:n90 X.K G E H0 zE (hw ow (hz zA H)) D rr) :
 ∃ W:Nat->Nat->L2.St->Hp->Prop,(∃ m,W 0 m σ H)/\∀ i m σ H,W i m σ H ->
   (J.stop i H/\D.nx σ H)\/(J.go i H/\∃ Nn:L2.St->Hp->Prop,(∀ σ' H',Nn σ' H'->∃ m',m' < m/\W (i + 1) m' σ' H')/\∀ x H',J.yld i H x H'->gP X.K p x σ H' λσ2 H2=>tX X.K G E H0 zE b { D with nx:=Nn,ct:=Nn,bk:=D.nx } σ2 H2):=by
 refine⟨λi m σ H=>m=xs.length - i/\i<=xs.length/\∃ zA ow ρ z r,RW X.K H0 zE zA ow H ρ σ/\c90 zA z H/\a20 B (hw ow (hz zA H))/\X40 (fBody G.F zE.isNone p b) (xs.drop i) ρ z=some r/\n90 X.K G E H0 zE (hw ow (hz zA H)) D r,
  ⟨xs.length,by simp,Æ5 _,zA,ow,ρ,z,rr,rw,st,sm,by simpa using ee,po⟩,?_⟩
 rintro i m σ H ⟨rfl,hi,zA,ow,ρ,z,rr,rw,st,sm,ee,po⟩;have sH:a20 B H:=a20.trans sm (a20.trans f70 (a10 zA H));by_cases hlt:i < xs.length
 ·refine .inr ⟨IT.go i H sH hlt,λσ' H'=>∃ zA ow ρ z r,RW X.K H0 zE zA ow H' ρ σ'/\c90 zA z H'/\a20 B (hw ow (hz zA H'))/\X40 (fBody G.F zE.isNone p b) (xs.drop (i + 1)) ρ z=some r/\n90 X.K G E H0 zE (hw ow (hz zA H')) D r,
   λσ' H' h=>⟨xs.length - (i + 1),∅,rfl,hlt,h⟩,λx H' y=>?_⟩
  have hd0:xs[i]?=some xs[i]:=á hlt;obtain⟨s1,hd⟩:=IT.yld i H x H' zA z _ (a20.trans sm f70) st y hd0;rw[Ñ2 hlt] at ee;have e0:M.bind (fBody G.F zE.isNone p b xs[i] ρ) (λo=>match o with | .nx ρ=>X40 (fBody G.F zE.isNone p b) (xs.drop (i + 1)) ρ | .rt s=>M.ret (.rt s)) z=some rr:=ee
  have r1:=rw.mono (Ext.of s1);have st1:=st.same s1;have sm1:a20 (hw ow (hz zA H)) (hw ow (hz zA H')):=d60 (j50 s1);have hd1:=hd (hw ow (hz zA H')) (a20.trans sm sm1) λ_ _ q=>g11 q r1.T81;have fin:∀ {ρ1:Env}{o:O}{z1:Z},f30 p xs[i] ρ=some ρ1->ex G.F zE.isNone b ρ1 z=some (.ok o z1)->(match o with | .nx ρ=>X40 (fBody G.F zE.isNone p b) (xs.drop (i + 1)) ρ | .rt s=>M.ret (.rt s)) z1=some rr->gP X.K p x σ H' λσ2 H2=>tX X.K G E H0 zE b { D with nx:=λσ' H'=>∃ zA ow ρ z r,RW X.K H0 zE zA ow H' ρ σ'/\c90 zA z H'/\a20 B (hw ow (hz zA H'))/\X40 (fBody G.F zE.isNone p b) (xs.drop (i + 1)) ρ z=some r/\n90 X.K G E H0 zE (hw ow (hz zA H')) D r,ct:=λσ' H'=>∃ zA ow ρ z r,RW X.K H0 zE zA ow H' ρ σ'/\c90 zA z H'/\a20 B (hw ow (hz zA H'))/\X40 (fBody G.F zE.isNone p b) (xs.drop (i + 1)) ρ z=some r/\n90 X.K G E H0 zE (hw ow (hz zA H')) D r,bk:=D.nx } σ2 H2:=λ{ρ1 o z1} hbp e1 e2=>by
   refine N81 hbp r1 hd1 λow' σ' r2 sm2=>⟨zA,ow',ρ1,z,_,r2,st1,e1,?_⟩;cases o with
   |nx ρ2=>exact λzA3 ow3 σ3 H3 r3 st3 sm3=>⟨zA3,ow3,ρ2,z1,rr,r3,st3,a20.trans sm (a20.trans sm1 (a20.trans sm2 sm3)),e2,po.mono (a20.trans sm1 (a20.trans sm2 sm3))⟩|rt s=>cases e2;exact po
  rcases M.bind_some e0 with ⟨o,z1,e1,e2⟩ | ⟨c,z1,e1,e2⟩
  ·obtain⟨ρ1,hbp,e3⟩:=M.a30 e1;exact fin hbp e3 e2
  ·subst e2;obtain⟨ρ1,hbp,e3⟩:=M.a30 e1;exact N81 hbp r1 hd1 λow' σ' r2 sm2=>⟨zA,ow',ρ1,z,_,r2,st1,e3,po⟩
 ·have e:i=xs.length:=∅
  subst e;rw[drop_length] at ee;cases ee;exact .inl ⟨IT.stop H sH,po zA ow σ H rw st (a20.refl _)⟩
theorem v92(x:XS lm X G E N sc cn){p:Pat}{i:Nat}{n:Str}{b:Sm}{tg:Ð}{body:List Á5}{np pos:Pos}(hp:i30 N (x30 sc) p tg=true)(h1:N[i]?=some n)(h2:b30 n=true)(hb:PSs X body (tX X.K G E H0 zE b)) :
 PS X (.For tg (.Name n np) body [] pos) (tX X.K G E H0 zE (.fr p .seq (.cons (.var i) .nil) b)):=by
 refine PS.imp (q01 x.own x.calm (U51 x.toXI h1 h2) (n11 x.loc hp) hb (λ_=>rfl)) λD σ H q=>?_;obtain⟨zA,ow,ρ,z,rr,rw,st,ee,po⟩:=q;have e0:M.bind (M.bind (match ρ[i]? with | some (some s)=>M.ret [plS s] | _=>M.no) λx=>M.bind (M.of (one x)) λs=>M.bind (ev G.F .nil ρ) λy=>M.ret (s::y)) (λl=>M.bind (M.of ((plA l).bind (itD .seq))) λxs=>X40 (fBody G.F zE.isNone p b) xs (v61 .seq (.cons (.var i) .nil) l ρ)) z=some rr:=ee
 cases hs:ρ[i]? with
 |none=>rw[hs] at e0;cases e0
 |some o =>
  cases o with
  |none=>rw[hs] at e0;cases e0
  |some s =>
   rw[hs] at e0;have e1:M.bind (M.of ((plA [plS s]).bind (itD .seq))) (λxs=>X40 (fBody G.F zE.isNone p b) xs ((ρ.set i ((ρ[i]?.getD none).map plS)).map (S80 (T00 [plS s])))) z=some rr:=e0;obtain⟨xs,hx,e2⟩:=M.a30 e1;have r1:=rw.plain i;have sm:=i40 (H:=hz zA H) ow i;have hi:i < ρ.length:=(Ý.mp hs).1;have hsl:(ρ.set i ((ρ[i]?.getD none).map plS))[i]?=some (some (plS s)):=by rw[å hi,hs];rfl
   obtain⟨w,k1,k2⟩:=r1.wor i _ hsl;obtain⟨ds,h3,h4⟩:=Í.mp hx;obtain⟨d,rfl,h5⟩:=y21 h3;have hd:Hd X.K (hw (ow0 ow i) (hz zA H)) d w:=by
    cases s with
    |d y=>cases h5;exact k2.2
    |fr ys=>cases h5;exact k2.2
    |_=>cases h5
   obtain⟨ow',r2,sm2⟩:∃ ow',RW X.K H0 zE zA ow' H ((ρ.set i ((ρ[i]?.getD none).map plS)).map (S80 (T00 [plS s]))) σ/\a20 (hw (ow0 ow i) (hz zA H)) (hw ow' (hz zA H)):=by
    rw[S90];cases T00 [plS s] with
    |true=>exact⟨_,r1,a20.refl _⟩|false=>exact⟨_,r1.x00,F30 _⟩
   cases d with
   |tup l =>
    cases h4;obtain⟨a,ys,rfl,m1,m2⟩:=hd.B00;exact⟨a,k1,.inl ⟨⟨ys,(a10 zA H).sqT (a20.sqT f70 m1)⟩,g61 (x91 m1 m2) r2 st sm2 e2 (po.mono (a20.trans sm sm2))⟩⟩
   |lst l =>
    cases h4;obtain⟨a,ys,rfl,m1,m2⟩:=hd.X50;exact⟨a,k1,.inr ⟨⟨ys,((m1.same f70).same (a10 zA H)).sq⟩,g61 (f81 m1 m2) r2 st sm2 e2 (po.mono (a20.trans sm sm2))⟩⟩
   |_=>cases h4
theorem K62(x:XS lm X G E N sc cn){p:Pat}{it:It}{src:Ex}{b:Sm}{tg iter:Ð}{body:List Á5}{pos:Pos}(hp:i30 N (x30 sc) p tg=true)(hi:PI X tg iter (tIt X.K G E it src))(hns:p00 iter=true)(hv:b42 it src=none)(hb:PSs X body (tX X.K G E H0 zE b)) :
 PS X (.For tg iter body [] pos) (tX X.K G E H0 zE (.fr p it src b)):=by
 refine PS.imp (q01 x.own x.calm hi (n11 x.loc hp) hb (a31 hns X.env)) λD σ H q=>?_;obtain⟨zA,ow,ρ,z,rr,rw,st,ee,po⟩:=q;have e0:M.bind (ev G.F src ρ) (λl=>M.bind (M.of ((plA l).bind (itD it))) λxs=>X40 (fBody G.F zE.isNone p b) xs ((T10 it src l ρ).map (S80 (T00 l)))) z=some rr:=ee;rcases M.bind_some e0 with ⟨l,z1,e1,e2⟩ | ⟨c,z1,e1,e2⟩
 ·obtain⟨xs,hx,e3⟩:=M.a30 e2;refine⟨zA,ρ,z,_,rw.O20,st,e1,xs,hx,λJ H1 x1 st1 IT=>?_⟩;have r1:=rw.mono x1;have frz:X40 (fBody G.F zE.isNone p b) xs (x00 ρ) z1=some rr->_:=λe3=>g61 (G:=G) (E:=E) (D:=D) (IT (λ_=>True) (hz zA H1) (a20.refl _) (λ_ _ q=>q) (λ_ _ _ q=>q) (λds hds d hd=>by cases d <;> first | trivial | exact λ_ _=>trivial) λ_ _ q _=>q) r1.x00 st1 (by rw[l10];exact a20.refl _) e3 (po.mono (a20.trans (d60 x1) (F30 ow)))
  rw[S90] at e3;have he:T10 it src l ρ=match o91 l with | true=>x00 ρ | false=>ρ:=by
   unfold T10;rw[hv] <;> cases o91 l <;> rfl
  have tt:x00 (x00 ρ)=x00 ρ:=by
   unfold x00;rw[Ã8];refine Ç0 λo _=>?_
   match o with
   |none=>rfl|some (.d _)=>rfl|some (.fr _)=>rfl|some .z=>rfl|some (.ks _)=>rfl
  cases hl:o91 l with
  |true =>
   rw[hl] at he;rw[he] at e3;dsimp only at e3;rw[tt,ite_self] at e3;exact frz e3
  |false =>
   rw[hl] at he;rw[he] at e3;dsimp only at e3;split at e3
   ·rename_i hbb;refine g61 (IT (λy=>bare y=true) (hw ow (hz zA H1)) f70 (λa ys q=>g11 q r1.T81) (λd v hd q=>O10 r1.T81 hd q) (λds hds d hd=>?_) λa ys q hor=>?_) r1 st1 (a20.refl _) e3 (po.mono (d60 x1))
    ·have h:=hbb;unfold T00 at h;rw[hds] at h;have:=Ú.mp h d hd;cases d with
     |tup m=>exact λy hy=>F40 this hy|lst m=>exact λy hy=>F40 this hy|_=>trivial
    ·rcases hor with ⟨hn,hm1⟩ | hm
     ·refine s00.of (h40 (d00 hm1 (st.E30 hn)) λj w=>?_);obtain⟨zs,k⟩:=rw.lst j a w;rw[hn] at k;cases k
     ·rw[hl] at hm;cases hm
   ·exact frz e3
 ·subst e2;exact⟨zA,ρ,z,_,rw.O20,st,e1,po.er_ rw⟩
end
section
variable {K:Â}{zA:Option Ç}{z:Z}{H Hb H':Hp}{as:List Ç}
theorem O41(fresh:∀ a∈as,H a=none)(x:Ext zA H Hb)(old:∀ b u,b ∉ as->Hb b=some u->H' b=some u):Ext zA H H':=by
 refine⟨λb o e=>?_,λb ps e=>?_⟩
 ·obtain⟨e1,e2⟩:=m50 e;have n:b ∉ as:=λq=>by rw[fresh b q] at e1;cases e1
  exact d00 (old b o n (x.at e1 e2 (l80 e))) e2 (l80 e)
 ·have n:b ∉ as:=λq=>by rw[fresh b q] at e;cases e
  obtain⟨qs,h⟩:=x.tbl b ps e;exact⟨qs,old b _ n h⟩
theorem f42(st:c90 zA z Hb)(nz:∀ a∈as,zA≠some a)(ls:∀ a∈as,∃ ys,Hb a=some (.lst ys))(old:∀ b u,b ∉ as->Hb b=some u->H' b=some u):c90 zA z H':=by
 have ne:∀ {b:Ç}{u:HO},Hb b=some u->(∀ l,u≠.lst l)->H' b=some u:=λ{b u} e n=>old b u (λq=>by obtain⟨ys,h⟩:=ls b q;rw[h] at e;cases e;exact n _ rfl) e
 refine⟨?_,λp hp=>?_⟩
 ·have:=st.zat;cases zA with
  |none =>
   cases z with
   |none=>trivial|some pr=>exact this.elim
  |some a =>
   cases z with
   |none=>exact this.elim|some pr=>exact old a _ (λq=>nz a q rfl) (show Hb a=some (.lst [.int pr.1,.bl pr.2]) from this)
 ·obtain⟨ps,e,tr,k⟩:=st.tab p hp;refine⟨ps,ne e (λ_ h=>nomatch h),tr,λpos c h=>?_⟩;obtain⟨c',e1,e2⟩:=k pos c h;exact⟨c',e1,ne e2 (λ_ h=>nomatch h)⟩
theorem g71{H1:Hp}:∀ {l:List S}{vs:List V}{xss:List (List D)},frL l=some xss->À5 (RvS K zA H H1) l vs->∃ as:List Ç,vs=as.map V.ref/\(∀ a∈as,H a=none/\zA≠some a/\∃ ys,H1 a=some (.lst ys)/\ys.length<=most)/\HdA K (hz zA H1) (xss.map D.lst) vs/\vs.length=l.length
 |[],_,_,e,h=>by
  cases h;cases e;exact⟨[],rfl,(λ_ h=>nomatch h),.nil,rfl⟩
 |s::l,_,_,e,h=>by
  cases h with
  |cons h1 h2 =>
   cases s with
   |fr xs =>
    obtain⟨hl,e⟩:=f00 (show(if xs.length<=most then(frL l).map (xs::·) else none)=some _ from e);obtain⟨q,e1,rfl⟩:=É.mp e;obtain⟨as,rfl,k1,k2,k3⟩:=g71 e1 h2;have hp:=h1.pl;obtain⟨a,ys,rfl,n1,n2,n3,n4⟩:=h1;refine⟨a::as,rfl,λb hb=>?_,.cons hp k2,by rw[ã,k3];rfl⟩
    rcases ï.mp hb with rfl | hb
    ·exact⟨n1,n2,ys,n3,by rw[n4.length];exact hl⟩
    ·exact k1 b hb
   |_=>cases e
end
theorem g81{i:Nat}:ow0 (λ_=>none) i=λ_=>none:=by
 funext k
 unfold ow0;split <;> rfl
theorem RW.off{K:Â}{H0 H:Hp}{zE zA:Option Ç}{ρ:Env}{σ σ':L2.St}(r:RW K H0 zE zA (λ_=>none) H ρ σ){i j:Nat}(hl:σ'.length=σ.length)(h:∀ k,k≠i->k≠j->σ'[k]?=σ[k]?):RW K H0 zE zA (λ_=>none) H ((ρ.set i none).set j none) σ':=by
 refine⟨by rw[À9,À9,hl];exact r.len,λi j a h=>(by cases h),λi a h=>(by cases h),λi a h=>(by cases h),λk s e=>?_,r.ext,r.zok,λi a h=>(by cases h)⟩
 rcases getElem?_set' e with ⟨rfl,e1,_⟩ | ⟨n1,e1⟩
 ·cases e1
 ·rcases getElem?_set' e1 with ⟨rfl,e2,_⟩ | ⟨n2,e2⟩
  ·cases e2
  ·rw[h k n2 n1];exact r.wor k s e2
section
variable {lm:Bool}{X:Cx}{G:Gs}{E:XK}{N:List Str}{sc:ë}{cn:List Str}{H0:Hp}{zE:Option Ç}
theorem w02(x:XS lm X G E N sc cn){i j:Nat}{y w:Str}{es c:Ex}{t:Sm}{el:List Ð}{ce v:Ð}{tb:List Á5}{p1 p2 p3 p4 p5 p6 p7 p8 p9 apos cpos:Pos}
 (hi:N[i]?=some y) (hj:N[j]?=some w) (ly:x30 sc y=true) (lw:x30 sc w=true) (ny:b30 y=true) (nw:b30 w=true) (hL:isL es=true) (ge:Good X G E es el) (gc:b00 X G E c ce) (hn:∀ t a b p,ce≠.IfExp t a b p)
 (ht:PSs X tb (tX X.K G E H0 zE t)) (gv:Good X G E (.cons (.tup .nil) .nil) [v]) (hl:(apos.endLine == cpos.line)=true) :
  PSs X [.Assign [.Name y p1] (.List el p2) p3,.If ce tb [] p4,.For (.Name w p5) (.Name y p6) [.Expr (.Call (.Attribute (.Name w p7) "append" apos) [v] [] cpos) p8] [] p9]
   (tX X.K G E H0 zE (.four i j es c t)):=by
 have ny':=ny;have nw':=nw;unfold b30 at ny' nw';simp only[Á,î] at ny' nw';have Lc:=x.loc;have hp:i30 N (x30 sc) (.v j) (.Name w p5)=true:=by
  unfold i30;show(N[j]? == some w&&x30 sc w)=true;rw[hj,lw];simp
 obtain⟨ga,hs0⟩:=gv.args rfl;have ns:noStar v=true:=by simpa using hs0
 have hs:=d10 ns [] X.env;refine PSs.imp (d40 (n20 (by rw[x.hN];exact x.nd) (by rw[x.hN];exact hi) (Lc.lc y ly) (d51 (ge.args hL).1) (k40 rfl _) (Lc.fn y ly))
  (d40 (p71 (gc.pt hn) ht C30)
   (J70 (q01 x.own x.calm (U51 x.toXI hi ny) (n11 x.loc hp)
    (J70 (J80 (X51 Ñ7 Ð3 Ð2 C60 (k20 (i:=j) (by rw[x.hN];exact hj) (x.vis w (æ hj)) nw'.1 nw'.2) ga rfl (by rw[hs];rfl) hl hs rfl) (k40 rfl none))) (λ_=>rfl))))) λDn σ H q=>?_
 obtain⟨zA,ow,ρ,z,rr,rw,st,ee,po⟩:=q;have ee:b52 G.F i j es c (ex G.F zE.isNone t) ρ z=some rr:=ee;unfold b52 at ee;by_cases il:i < ρ.length/\j < ρ.length/\i≠j
 rotate_left
 ·rw[if_neg il] at ee;cases ee
 rw[if_pos il] at ee;obtain⟨il1,il2,ij⟩:=il;have hil:i < σ.length:=by rw[← rw.len];exact il1
 have hjl:j < σ.length:=by rw[← rw.len];exact il2
 have r0:=rw.x00;refine T70 r0.O20 st ee (po.ers rw) λl z1 e1 vs H1 x1 st1 rvs=>?_;obtain⟨xss,hx,e2⟩:=M.a30 e1;obtain⟨hlen,hx⟩:=f00 hx;obtain⟨as,ev,fa,hda,vl⟩:=g71 hx rvs;refine⟨Ó (by rw[vl];exact hlen) (f60 (Î _)),λp hp1=>?_⟩
 generalize eH2:upd H1 p (HO.lst vs)=H2;have s0:a20 H1 H2:=eH2 ▸ a20.new _ hp1;have hp2:H2 p=some (.lst vs):=eH2 ▸ a70;have x2:Ext zA H H2:=x1.trans (Ext.of s0);have st2:=st1.same s0;have r1:=r0.mono x2;have hda2:Hd X.K (hz zA H2) (.lst (xss.map L2.D.lst)) (.ref p):=Hd.lst (d00 hp2 (st1.E30 hp1)) (hda.same (j50 s0));have r2:RW X.K H0 zE zA (λ_=>none) H2 ((Q.x00 ρ).set i (some (.d (.lst (xss.map L2.D.lst))))) (σ.set i (some (.ref p))):=by
  have:=r1.J42 (i:=i) (t:=.d (.lst (xss.map L2.D.lst))) (v:=.ref p) (by rw[g81];exact⟨rfl,by rw[l10];exact hda2⟩)
  rw[g81] at this;exact this
 have sm2:a20 (hw ow (hz zA H)) (hz zA H2):=a20.trans f70 x2.same;refine T80 r2.O20 st2 e2 (po.ers r2) λb z3 e3 H3 x3 st3=>?_;cases b with
 |true =>
  have r3:RW X.K H0 zE zA (ow0 (λ_=>none) i) H3 ((Q.x00 ρ).set i none) (σ.set i (some (.ref p))):=(r1.O62 (i:=i) (v:=.ref p)).mono x3;rcases M.bind_some (show M.bind (ex G.F zE.isNone t ((Q.x00 ρ).set i none)) _ z3=some rr from e3) with ⟨o,z4,e4,e5⟩ | ⟨cc,z4,e4,rfl⟩
  ·cases o with
   |nx _=>cases e5
   |rt s =>
    cases e5;exact⟨zA,_,_,z3,_,r3,st3,e4,po⟩
  ·exact⟨zA,_,_,z3,_,r3,st3,e4,po⟩
 |false =>
  cases e3;have npz:=st1.E30 hp1;have hp3:H3 p=some (.lst vs):=x3.at hp2 npz;have fa3:∀ a∈as,H a=none/\zA≠some a/\∃ ys,H3 a=some (.lst ys)/\ys.length<=most:=λa ha=>by
   obtain⟨k1,k2,ys,k3,k4⟩:=fa a ha;exact⟨k1,k2,ys,x3.at (s0 _ _ k3) k2,k4⟩
  have pas:p ∉ as:=λq=>by
   obtain⟨_,_,ys,k3,_⟩:=fa p q;rw[hp1] at k3;cases k3
  refine⟨p,å hil,.inr ⟨⟨vs,SqL.of hp3⟩,?_⟩⟩;refine G71 (xs:=vs) (λn σ' H'=>σ'.length=σ.length/\(∀ k,k≠i->k≠j->σ'[k]?=σ[k]?)/\H' p=some (.lst vs)/\(∀ a∈as,∃ ys,H' a=some (.lst ys)/\ys.length<=most + n)/\Ext zA H H'/\c90 zA z3 H')
   ⟨by rw[À9],λk h1 h2=>ß (Á0 h1),hp3,λa ha=>by obtain⟨_,_,ys,k1,k2⟩:=fa3 a ha;exact⟨ys,k1,k2⟩,x2.trans x3,st3⟩ (λn σ' H' _ h=>SqL.of h.2.2.1) (λn v' σ' H' en ⟨q1,q2,q3,q4,q5,q6⟩=>?_) λσ' H' ⟨q1,q2,q3,q4,q5,q6⟩=>?_
  ·obtain⟨a,ea,rfl⟩:∃ a,as[n]?=some a/\v'=.ref a:=by
    rw[ev,Û] at en;obtain⟨a,e1,e2⟩:=É.mp en;exact⟨a,e1,e2.symm⟩
   have ha:a∈as:=æ ea;obtain⟨ys,k3,k4⟩:=q4 a ha;have nz:=(fa3 a ha).2.1;have nb:n < most:=by
    have:=(Ý.mp ea).1;have h2:vs.length=as.length:=by rw[ev,È]
    omega
   unfold gP;refine⟨_,å (by rw[q1];exact hjl),.inl ⟨rfl,ys,SqL.of k3⟩,?_⟩
   refine⟨zA,[],z3,.ok [.d (.tup [])] z3,λk s e=>(by simp at e),q6,rfl,λvs1 H4 x4 st4 rvs4=>?_⟩
   obtain⟨u,rfl,ru⟩:=z71 rvs4;refine⟨a,ys,u,rfl,rfl,x4.at k3 nz,?_,?_⟩
   ·have:most + most < sizeLine:=by rw[Á1];decide
    omega
   ·refine⟨by rw[À9];exact q1,λk h1 h2=>by rw[ß (Á0 h2)];exact q2 k h1 h2,?_,λb hb=>?_,?_,?_⟩
    ·rw[a50 (λq:p=a=>pas (by rw[q];exact ha))]
     exact x4.at q3 npz
    ·by_cases hba:b=a
     ·subst hba;exact⟨ys++[u],a70,by rw[ù];show ys.length + 1<=_;omega⟩
     ·obtain⟨zs,m1,m2⟩:=q4 b hb;exact⟨zs,by rw[a50 hba];exact x4.at m1 (fa3 b hb).2.1,∅⟩
    ·exact O41 (as:=[a]) (λb hb=>by rw[Ù.mp hb];exact(fa3 a ha).1) (q5.trans x4) λb u hb e=>by rw[a50 (λq=>hb (Ù.mpr q))];exact e
    ·exact f42 (as:=[a]) st4 (λb hb=>by rw[Ù.mp hb];exact nz) (λb hb=>by rw[Ù.mp hb];exact⟨ys,x4.at k3 nz⟩) λb u hb e=>by rw[a50 (λq=>hb (Ù.mpr q))];exact e
  ·refine po zA (λ_=>none) σ' H' ((r0.mono q5).off q1 q2) q6 ?_;rw[l10];exact a20.trans f70 q5.same
end
def isQ:Sm->Bool
 |.nil=>true|.seq _ _=>true|.four ..=>true|.lams ..=>true|_=>false
def f52:Ð->Bool
 |.IfExp ..=>false|_=>true
def W82:Ð->Bool
 |.SetComp ..=>false|.DictComp ..=>false|_=>true
def mtI(lm:Bool)(fns:List (Str × List Str))(nums:List (Str × Int))(it:It)(src:Ex)(sc:ë)(N:List Str)(tg iter:Ð):Bool:=match it with
 |.seq=>mt lm fns nums src sc N [iter]|.rng1=>opt (H02 iter) λr=>r.1.1 == ("range":Str)&&glob sc r.1.1&&mt lm fns nums src sc N [r.1.2.2.1]|.rng2=>opt (j72 iter) λr=>r.1.1 == ("range":Str)&&glob sc r.1.1&&mt lm fns nums src sc N [r.1.2.2.1,r.1.2.2.2.1]|.zip=>opt (j72 iter) λr=>r.1.1 == ("zip":Str)&&glob sc r.1.1&&u80 tg&&mt lm fns nums src sc N [r.1.2.2.1,r.1.2.2.2.1]
def W92:(p:Pat)->Option {q:Nat × Nat // p=.tup (.cons (.v q.1) (.cons (.v q.2) .nil))}
 |.tup (.cons (.v i) (.cons (.v j) .nil))=>some ⟨(i,j),rfl⟩|_=>none
def X02:(e:Ex)->Option {q:Ex × Ex // e=.tup (.cons q.1 (.cons q.2 .nil))}
 |.tup (.cons a (.cons b .nil))=>some ⟨(a,b),rfl⟩|_=>none
def X12:(e:Ð)->Option {q:Ð × Ð × Nat × Pos // e=.Tuple [q.1,q.2.1] q.2.2.1 q.2.2.2}
 |.Tuple [a,b] k p=>some ⟨(a,b,k,p),rfl⟩|_=>none
def X22(sc:ë)(p:Pat)(e:Ex)(tg v:Ð):Bool:=opt (W92 p) λ_=>opt (X02 e) λ_=>opt (O42 tg) λt=>opt (X12 v) λu =>
  !(t.1.1 == t.1.2.2.1)&&sc.names.lookup t.1.1 == some .local&&sc.names.lookup t.1.2.2.1 == some .local&&t.1.2.2.2.1.line == t.1.2.1.line&&noStar u.1.1&&noStar u.1.2.1&&!([u.1.1,u.1.2.1].all (Ü0 8))&&!([u.1.1,u.1.2.1].all (constantsAlone 8))
def isNm:Ð->Bool
 |.Name ..=>true|_=>false
def dkB(sc:ë):Ð->Ð->Bool
 |.Name y _,.DictComp ..=>sc.names.lookup y == some .cell|_,_=>false
def setB(sc:ë)(p:Pat)(e:Ex)(tg v:Ð):Bool:=
 if isNm tg then(W82 v || dkB sc tg v) else if u80 tg then(if u80 v then(match v with | .Tuple vs _ _=>vs.all (Ü0 8) | _=>false) || (match tg with | .Tuple ts _ _=>ts.any (z51 λy=>sc.names.lookup y) | _=>false) || X22 sc p e tg v else true) else false
def f62:(e:List Á5)->Option {q:Ð × Ð × Pos // e=[.Assign [q.1] q.2.1 q.2.2]}
 |[.Assign [tg] v p]=>some ⟨(tg,v,p),rfl⟩|_=>none
def K72:(e:List Á5)->Option {q:Option Ð × Pos // e=[.Return q.1 q.2]}
 |[.Return v p]=>some ⟨(v,p),rfl⟩|_=>none
def X32:(e:List Á5)->Option {q:Ð × List Á5 × List Á5 × Pos // e=[.If q.1 q.2.1 q.2.2.1 q.2.2.2]}
 |[.If c a b p]=>some ⟨(c,a,b,p),rfl⟩|_=>none
def K82:(e:List Á5)->Option {q:Ð × Ð × List Á5 × Pos // e=[.For q.1 q.2.1 q.2.2.1 [] q.2.2.2]}
 |[.For tg iter body [] p]=>some ⟨(tg,iter,body,p),rfl⟩|_=>none
def w12:(e:List Á5)->Option {q:Ð × Pos // e=[.Raise (some q.1) none q.2]}
 |[.Raise (some x) none p]=>some ⟨(x,p),rfl⟩|_=>none
def w22:(e:List Á5)->Option {q:Ð × Pos // e=[.Expr q.1 q.2]}
 |[.Expr v p]=>some ⟨(v,p),rfl⟩|_=>none
def K92:(e:Ð)->Option {q:Str × Pos × Str × Nat × Pos × Pos // e=.Call (.Name q.1 q.2.1) [.Constant (.str q.2.2.1) q.2.2.2.1 q.2.2.2.2.1] [] q.2.2.2.2.2}
 |.Call (.Name n p1) [.Constant (.str y) k p2] [] p3=>some ⟨(n,p1,y,k,p2,p3),rfl⟩|_=>none
def w32:(e:Ð)->Option {q:Str × Pos × Str × Pos × Ð × Pos // e=.Call (.Attribute (.Name q.1 q.2.1) q.2.2.1 q.2.2.2.1) [q.2.2.2.2.1] [] q.2.2.2.2.2}
 |.Call (.Attribute (.Name n p) a ap) [v] [] cp=>some ⟨(n,p,a,ap,v,cp),rfl⟩|_=>none
def X42:(e:Ð)->Option {q:Str × Pos × Nat × Pos × Pos // e=.Subscript (.Name q.1 q.2.1) (.Constant (.int 0) q.2.2.1 q.2.2.2.1) q.2.2.2.2}
 |.Subscript (.Name n p) (.Constant (.int 0) c q1) tp=>some ⟨(n,p,c,q1,tp),rfl⟩|_=>none
def X62:(e:Ð)->Option {q:Str × Pos // e=.Name q.1 q.2}
 |.Name n p=>some ⟨(n,p),rfl⟩|_=>none
def O51:Ex->Bool
 |.con .non=>true|_=>false
def X72:(ss:List Á5)->Option {u:Á5 × Á5 × Á5 // ss=[u.1,u.2.1,u.2.2]}
 |[a,b,c]=>some ⟨(a,b,c),rfl⟩|_=>none
def X82:(s:Á5)->Option {u:Str × Pos × List Ð × Pos × Pos // s=.Assign [.Name u.1 u.2.1] (.List u.2.2.1 u.2.2.2.1) u.2.2.2.2}
 |.Assign [.Name y p] (.List l q) r=>some ⟨(y,p,l,q,r),rfl⟩|_=>none
def X92:(s:Á5)->Option {u:Ð × List Á5 × Pos // s=.If u.1 u.2.1 [] u.2.2}
 |.If c b [] p=>some ⟨(c,b,p),rfl⟩|_=>none
def Y02:(s:Á5)->Option {u:Str × Pos × Str × Pos × Á5 × Pos // s=.For (.Name u.1 u.2.1) (.Name u.2.2.1 u.2.2.2.1) [u.2.2.2.2.1] [] u.2.2.2.2.2}
 |.For (.Name a p) (.Name b q) [s] [] r=>some ⟨(a,p,b,q,s,r),rfl⟩|_=>none
def Y12:(s:Á5)->Option {u:Ð × Pos // s=.Expr u.1 u.2}
 |.Expr e p=>some ⟨(e,p),rfl⟩|_=>none
def mtS(lm:Bool)(fns:List (Str × List Str))(nums:List (Str × Int))(cn:List Str)(sc:ë)(N:List Str):Sm->List Á5->Bool
 |.nil,ss=>ss.isEmpty|.seq s r,ss=>opt ss.head? λst=>!isQ s&&isQ r&&mtS lm fns nums cn sc N s [st]&&mtS lm fns nums cn sc N r ss.tail
 |.four i j es c t,ss=>opt (X72 ss) λu=>opt (X82 u.1.1) λa=>opt (X92 u.1.2.1) λf=>opt (Y02 u.1.2.2) λr=>opt (Y12 r.1.2.2.2.2.1) λe=>opt (w32 e.1.1) λg =>
  N[i]? == some a.1.1&&N[j]? == some r.1.1&&x30 sc a.1.1&&x30 sc r.1.1&&b30 a.1.1&&b30 r.1.1&&isL es&&!isL c&&f52 f.1.1&&mt lm fns nums es sc N a.1.2.2.1&&mt lm fns nums c sc N [f.1.1]&&mt lm fns nums (.cons (.tup .nil) .nil) sc N [g.1.2.2.2.2.1]&&g.1.2.2.2.1.endLine == g.1.2.2.2.2.2.line&&r.1.2.2.1 == a.1.1&&g.1.1 == r.1.1&&g.1.2.2.1 == ("append":Str)&&isQ t&&mtS lm fns nums cn sc N t f.1.2.1
 |.lams i ls g e t r,ss=>match A11 lm fns nums sc N i ls g e ss with
  |some w=>isQ t&&isQ r&&mtS lm fns nums cn sc N t w.body&&mtS lm fns nums cn sc N r w.rest|none=>false
 |.set p e,ss=>opt (f62 ss) λq=>!isL e&&i30 N (x30 sc) p q.1.1&&mt lm fns nums e sc N [q.1.2.1]&&setB sc p e q.1.1 q.1.2.1
 |.ret e,ss=>opt (K72 ss) λq=>match q.1.1 with
  |some v=>!isL e&&mt lm fns nums e sc N [v]|none=>O51 e
 |.iff c t u,ss=>opt (X32 ss) λq=>!isL c&&f52 q.1.1&&isQ t&&isQ u&&mt lm fns nums c sc N [q.1.1]&&mtS lm fns nums cn sc N t q.1.2.1&&mtS lm fns nums cn sc N u q.1.2.2.1|.fr p it src b,ss=>opt (K82 ss) λq=>i30 N (x30 sc) p q.1.1&&isL src&&p00 q.1.2.1&&isQ b&&mtI lm fns nums it src sc N q.1.1 q.1.2.1&&mtS lm fns nums cn sc N b q.1.2.2.1|.rais c,ss=>opt (w12 ss) λq=>opt (K92 q.1.1) λr=>cn[c]? == some r.1.1&&glob sc r.1.1|.exp e,ss=>opt (w22 ss) λq=>U60 q.1.1&&!isL e&&mt lm fns nums e sc N [q.1.1]|.app i e,ss=>opt (w22 ss) λq=>opt (w32 q.1.1) λr=>r.1.2.2.1 == ("append":Str)&&N[i]? == some r.1.1&&b30 r.1.1&&noStar r.1.2.2.2.2.1&&!isL e&&r.1.2.2.2.1.endLine == r.1.2.2.2.2.2.line&&mt lm fns nums e sc N [r.1.2.2.2.2.1]|.newz i f as,ss=>opt (f62 ss) λq=>opt (X62 q.1.1) λr=>N[i]? == some r.1.1&&x30 sc r.1.1&&U60 q.1.2.1&&mt lm fns nums (.call f as) sc N [q.1.2.1]|.zset i e,ss=>opt (f62 ss) λq=>opt (X42 q.1.1) λr=>N[i]? == some r.1.1&&b30 r.1.1&&!isL e&&mt lm fns nums e sc N [q.1.2.1]
section
variable {lm:Bool}{X:Cx}{G:Gs}{E:XK}{N:List Str}{sc:ë}{cn:List Str}{H0:Hp}{zE:Option Ç}
theorem L02(x:XI lm X G E N sc){it:It}{src:Ex}{tg iter:Ð}(hL:isL src=true)(h:mtI lm G.fns G.nums it src sc N tg iter=true):PI X tg iter (tIt X.K G E it src):=by
 cases it with
 |seq =>
  obtain⟨a,rfl,ga⟩:=y91 hL (sound G src x h);exact T71 ga
 |rng1 =>
  obtain⟨⟨⟨n,_,a,_⟩,rfl⟩,-,h⟩:=a60 h;simp only[Á,beq_iff_eq] at h;exact y31 x h.1.1 h.1.2 hL (sound G src x h.2)
 |rng2 =>
  obtain⟨⟨⟨n,_,a,b,_⟩,rfl⟩,-,h⟩:=a60 h;simp only[Á,beq_iff_eq] at h;exact y41 x h.1.1 h.1.2 hL (sound G src x h.2)
 |zip =>
  obtain⟨⟨⟨n,_,a,b,_⟩,rfl⟩,-,h⟩:=a60 h;simp only[Á,beq_iff_eq] at h;exact y71 x h.1.2 h.1.1.1 h.1.1.2 hL (sound G src x h.2)
theorem g91(h:f52 e=true):∀ t a b p,e≠.IfExp t a b p:=by
 intro t a b p he;subst he;cases h
def GS(X:Cx)(G:Gs)(E:XK)(H0:Hp)(zE:Option Ç)(s:Sm)(ss:List Á5):Prop:=(isQ s=true->PSs X ss (tX X.K G E H0 zE s))/\(isQ s=false->∃ st,ss=[st]/\PS X st (tX X.K G E H0 zE s))
def v40{s:Sm}{st:Á5}(hq:isQ s=false)(h:PS X st (tX X.K G E H0 zE s)):GS X G E H0 zE s [st]:=⟨λk=>(by rw[hq] at k;cases k),λ_=>⟨st,rfl,h⟩⟩
theorem f72{x:XI lm X G E N sc}{e:Ex}{elt:Ð}{gs:List Comprehension}{csc:ë}{q:Pos}(h:mt lm G.fns G.nums e sc N [.ListComp elt gs csc q]=true)(hL:isL e=false):∃ tg iter ifs,gs=[⟨tg,iter,ifs,0⟩]/\I20 X G E e elt tg iter ifs csc:=by
 cases e with
 |comp own capt p it src cond el =>
  match gs,h with
  |[⟨tg,iter,ifs,0⟩],h=>exact⟨tg,iter,ifs,rfl,U50 (λx _=>sound G src x) (λx _=>sound G cond x) (λx _=>sound G el x) x h⟩
 |nil=>cases hL
 |cons _ _=>cases hL
 |bf f as=>cases f <;> cases h
 |_=>cases h
theorem f82(h:isNm e=true):∃ y p,e=.Name y p:=by
 cases e <;> first | exact⟨_,_,rfl⟩ | cases h
theorem v50(h:u80 e=true):∃ ts k p,e=.Tuple ts k p:=by
 cases e <;> first | exact⟨_,_,_,rfl⟩ | cases h
theorem L12(x:XS lm X G E N sc cn){p:Pat}{e:Ex}{tg v:Ð}{pos:Pos}(h1:(!isL e)=true)(h2:i30 N (x30 sc) p tg=true)(h3:mt lm G.fns G.nums e sc N [v]=true)(h4:setB sc p e tg v=true):PS X (.Assign [tg] v pos) (tX X.K G E H0 zE (.set p e)):=by
 have g:=a90 (b70 h1) (sound G e x.toXI h3);unfold setB at h4;split at h4
 ·rename_i hn;obtain⟨y,px,rfl⟩:=f82 hn;cases p with
  |v i =>
   unfold i30 at h2;rw[Á,beq_iff_eq] at h2;refine J72 x h2.1 h2.2 g (λelt gs csc q hv=>?_) (λa b c d hv=>?_) (λa b c d f hv=>?_)
   ·subst hv;exact f72 (x:=x.toXI) h3 (b70 h1)
   ·subst hv;cases h4
   ·subst hv;exact eq_of_beq h4
  |tup _=>unfold i30 at h2;cases h2
  |nil=>unfold i30 at h2;cases h2
  |cons _ _=>unfold i30 at h2;cases h2
 ·split at h4
  ·rename_i ht;split at h4
   ·rename_i hv;rw[Å9,Å9] at h4;rcases h4 with (h4 | h4) | h4
    ·obtain⟨ts,k,tp,rfl⟩:=v50 ht;obtain⟨vs,k',vp,rfl⟩:=v50 hv;exact z61 x h2 g rfl (e72 h4)
    ·obtain⟨ts,k,tp,rfl⟩:=v50 ht;obtain⟨vs,k',vp,rfl⟩:=v50 hv;refine z61 x h2 g rfl (e82 ?_);have e:X.env.kindOf=λy=>sc.names.lookup y:=by funext y;unfold Env.kindOf;rw[x.sco]
     rw[e];exact h4
    ·clear g h1 ht hv;obtain⟨⟨⟨i,j⟩,rfl⟩,-,h4⟩:=a60 h4;obtain⟨⟨⟨ea,eb⟩,rfl⟩,-,h4⟩:=a60 h4;obtain⟨⟨⟨y,px,w,py,kt,tp⟩,rfl⟩,-,h4⟩:=a60 h4;obtain⟨⟨⟨a,b,kv,vp⟩,rfl⟩,-,h4⟩:=a60 h4;simp only[Á,î,beq_iff_eq] at h4;obtain⟨⟨⟨⟨⟨⟨⟨k1,k2⟩,k3⟩,k4⟩,k5⟩,k6⟩,k7⟩,k8⟩:=h4;unfold i30 at h2;simp only[m81,i30,Á,beq_iff_eq] at h2;obtain⟨⟨_,h21,_⟩,⟨_,h22,_⟩,_⟩:=h2;have h3':(isL (.cons ea (.cons eb .nil))&&mt lm G.fns G.nums (.cons ea (.cons eb .nil)) sc N [a,b])=true:=h3;rw[Á] at h3';have ga:Good X G E (.cons ea (.cons eb .nil)) [a,b]:=sound G (.cons ea (.cons eb .nil)) x.toXI h3'.2;refine J82 x h21 h22 (by simpa using k1) k2 k3 ga (u32 x.bk ?_ ?_ (by simpa using k1) (by rw[k4];exact beq_self_eq_true _) k5 k6 k7 k8)
     ·unfold Env.kindOf;rw[x.sco];exact k2
     ·unfold Env.kindOf;rw[x.sco];exact k3
   ·rename_i hv;exact z61 x h2 g ht (e62 (by simpa using hv))
  ·cases h4
theorem A21(h:O51 e=true):e=.con .non:=by
 unfold O51 at h;split at h
 ·rfl
 ·cases h
theorem L22(x:XS lm X G E N sc cn){e:Ex}{o:Option Ð}{pos:Pos}(h:(match o with | some v=>!isL e&&mt lm G.fns G.nums e sc N [v] | none=>O51 e)=true):PS X (.Return o pos) (tX X.K G E H0 zE (.ret e)):=by
 cases o with
 |some v =>
  have h:(!isL e&&mt lm G.fns G.nums e sc N [v])=true:=h;rw[Á] at h;by_cases hv:∃ i,e=.var i
  ·obtain⟨i,rfl⟩:=hv;have h2:=h.2;cases v with
   |Name n p =>
    have h2:(N[i]? == some n&&b30 n)=true:=h2;rw[Á,beq_iff_eq] at h2;exact u42 x h2.1 h2.2
   |_=>cases h2
  ·exact J92 (λi hi=>hv ⟨i,hi⟩) (a90 (b70 h.1) (sound G e x.toXI h.2))
 |none =>
  have he:=A21 h;subst he;refine PS.imp W31 λD σ H q=>?_;obtain⟨zA,ow,ρ,z,rr,rw,st,ee,po⟩:=q;cases ee;exact po .non H (λk=>nomatch k) rw.ext (j82 rw.zok st) (show Hd X.K (hz zE H) .non .non from Hd.non)
theorem Y22(x:XS lm X G E N sc cn){p:Pat}{it:It}{src:Ex}{b:Sm}{tg iter:Ð}{body:List Á5}{pos:Pos}(h1:i30 N (x30 sc) p tg=true)(h2:isL src=true)(h3:p00 iter=true)(h5:mtI lm G.fns G.nums it src sc N tg iter=true)(hb:PSs X body (tX X.K G E H0 zE b)) :
 PS X (.For tg iter body [] pos) (tX X.K G E H0 zE (.fr p it src b)):=by
 cases hv:b42 it src with
 |some q =>
  obtain⟨i,rfl,rfl⟩:=q;have h5':(noStar iter&&!isL (.var i)&&isL .nil&&mt lm G.fns G.nums (.var i) sc N [iter]&&mt lm G.fns G.nums .nil sc N [])=true:=h5;simp only[Á] at h5';have h7:=h5'.1.2;cases iter with
  |Name n np =>
   have h7:(N[i]? == some n&&b30 n)=true:=h7;rw[Á,beq_iff_eq] at h7;exact v92 x h1 h7.1 h7.2 hb
  |_=>cases h7
 |none=>exact K62 x h1 (L02 x.toXI h2 h5) h3 hv hb
theorem w42(x:XS lm X G E N sc cn):∀ (s:Sm) {ss:List Á5},mtS lm G.fns G.nums cn sc N s ss=true->GS X G E H0 zE s ss:=by
 intro s
 induction s with
 |nil =>
  intro ss h;have:ss=[]:=Ó3.mp h;subst this;exact⟨λ_=>J52,λk=>by cases k⟩
 |seq s r ihs ihr =>
  intro ss h;obtain⟨st,h0,h⟩:=a60 h;cases ss with
  |nil=>cases h0
  |cons st' rest =>
   cases h0;simp only[Á,î,List.tail_cons] at h;obtain⟨⟨⟨h1,h2⟩,h3⟩,h4⟩:=h;obtain⟨st',he,hs⟩:=(ihs h3).2 h1;cases he;exact⟨λ_=>J62 hs ((ihr h4).1 h2),λk=>by cases k⟩
 |four i j es c t iht =>
  intro ss h;obtain⟨⟨⟨s1,s2,s3⟩,rfl⟩,-,h⟩:=a60 h;dsimp only at h;obtain⟨⟨⟨y,p1,el,p2,p3⟩,rfl⟩,-,h⟩:=a60 h;obtain⟨⟨⟨ce,tb,p4⟩,rfl⟩,-,h⟩:=a60 h;obtain⟨⟨⟨w,p5,y2,p6,s4,p9⟩,rfl⟩,-,h⟩:=a60 h;dsimp only at h;obtain⟨⟨⟨e4,p8⟩,rfl⟩,-,h⟩:=a60 h;dsimp only at h;obtain⟨⟨⟨w2,p7,ap,apos,v,cpos⟩,rfl⟩,-,h⟩:=a60 h;dsimp only at h;simp only[Á,î] at h;obtain⟨⟨⟨⟨⟨⟨⟨⟨⟨⟨⟨⟨⟨⟨⟨⟨⟨h1,h2⟩,h3⟩,h4⟩,h5⟩,h6⟩,h7⟩,h8⟩,h9⟩,h10⟩,h11⟩,h12⟩,h13⟩,h14⟩,h15⟩,h16⟩,h17⟩,h18⟩:=h;obtain rfl:y2=y:=eq_of_beq h14;obtain rfl:w2=w:=eq_of_beq h15;obtain rfl:ap="append":=eq_of_beq h16;exact⟨λ_=>w02 x (eq_of_beq h1) (eq_of_beq h2) h3 h4 h5 h6 h7 (sound G es x.toXI h10) (a90 h8 (sound G c x.toXI h11)) (g91 h9) ((iht h18).1 h17) (sound G (.cons (.tup .nil) .nil) x.toXI h12) h13,λk=>by cases k⟩
 |lams i ls g e t r iht ihr =>
  intro ss h;have h:(match A11 lm G.fns G.nums sc N i ls g e ss with
   |some w=>isQ t&&isQ r&&mtS lm G.fns G.nums cn sc N t w.body&&mtS lm G.fns G.nums cn sc N r w.rest
   |none=>false)=true:=h
  cases hw:A11 lm G.fns G.nums sc N i ls g e ss with
  |none=>rw[hw] at h;cases h
  |some w =>
   rw[hw] at h;have h:(isQ t&&isQ r&&mtS lm G.fns G.nums cn sc N t w.body&&mtS lm G.fns G.nums cn sc N r w.rest)=true:=h;simp only[Á] at h;obtain⟨⟨⟨h1,h2⟩,h3⟩,h4⟩:=h;exact⟨λ_=>v82 x hw ((iht h3).1 h1) ((ihr h4).1 h2),λk=>by cases k⟩
 |set p e =>
  intro ss h;obtain⟨⟨q,rfl⟩,-,h⟩:=a60 h;simp only[Á] at h;exact v40 rfl (L12 x h.1.1.1 h.1.1.2 h.1.2 h.2)
 |ret e =>
  intro ss h;obtain⟨⟨q,rfl⟩,-,h⟩:=a60 h;exact v40 rfl (L22 x h)
 |iff c t u iht ihu =>
  intro ss h;obtain⟨⟨q,rfl⟩,-,h⟩:=a60 h;simp only[Á] at h;obtain⟨⟨⟨⟨⟨⟨h1,h2⟩,h3⟩,h4⟩,h5⟩,h6⟩,h7⟩:=h;exact v40 rfl (W62 (a90 (b70 h1) (sound G c x.toXI h5)) (g91 h2) ((iht h6).1 h3) ((ihu h7).1 h4))
 |fr p it src b ih =>
  intro ss h;obtain⟨⟨q,rfl⟩,-,h⟩:=a60 h;simp only[Á] at h;obtain⟨⟨⟨⟨⟨h1,h2⟩,h3⟩,h4⟩,h5⟩,h6⟩:=h;exact v40 rfl (Y22 x h1 h2 h3 h5 ((ih h6).1 h4))
 |rais c =>
  intro ss h;obtain⟨⟨⟨e,pos⟩,rfl⟩,-,h⟩:=a60 h;dsimp only at h;obtain⟨⟨⟨n,p1,y,k,p2,p3⟩,rfl⟩,-,h⟩:=a60 h;simp only[Á,beq_iff_eq] at h;exact v40 rfl (x_raise x h.1 h.2)
 |exp e =>
  intro ss h;obtain⟨⟨q,rfl⟩,-,h⟩:=a60 h;simp only[Á] at h;exact v40 rfl (K02 (a90 (b70 h.1.2) (sound G e x.toXI h.2)) h.1.1)
 |app i e =>
  intro ss h;obtain⟨⟨⟨v0,pos⟩,rfl⟩,-,h⟩:=a60 h;dsimp only at h;obtain⟨⟨⟨n,p1,a,apos,v,cpos⟩,rfl⟩,-,h⟩:=a60 h;simp only[Á,beq_iff_eq] at h;obtain⟨⟨⟨⟨⟨⟨h7,h8⟩,h2⟩,h3⟩,h4⟩,h5⟩,h6⟩:=h;subst h7;exact v40 rfl (K12 x h8 h2 h3 (a90 (b70 h4) (sound G e x.toXI h6)) (by rw[h5];exact beq_self_eq_true _))
 |newz i f as =>
  intro ss h;obtain⟨⟨⟨tg,v,pos⟩,rfl⟩,-,h⟩:=a60 h;dsimp only at h;obtain⟨⟨⟨y,p1⟩,rfl⟩,-,h⟩:=a60 h;simp only[Á,beq_iff_eq] at h;obtain⟨⟨⟨h1,h2⟩,h3⟩,h4⟩:=h;exact v40 rfl (u62 x h1 h2 (a90 rfl (sound G (.call f as) x.toXI h4)) h3)
 |zset i e =>
  intro ss h;obtain⟨⟨⟨tg,v,pos⟩,rfl⟩,-,h⟩:=a60 h;dsimp only at h;obtain⟨⟨⟨n,p1,c,p2,p3⟩,rfl⟩,-,h⟩:=a60 h;simp only[Á,beq_iff_eq] at h;exact v40 rfl (u72 x h.1.1.1 h.1.1.2 (a90 (b70 h.1.2) (sound G e x.toXI h.2)))
end
structure GX(P:Program)(w:World)(K:PySem.W.Frag)(mg:Str->Option Value)(base:Heap)(G:Gs)(cn:List Str):Prop where
 gok:∀ f nm ps,G.fns[f]?=some (nm,ps)->∃ fa fd,mg nm=some (.ref fa)/\PySem.W.keepIn K (.ref fa)=true/\Binds K fd ps []/\X20 P w K mg base (CX1 P w) G.lv fa fd ps (spF K G f ps.length)
 num:∀ p∈G.nums,∃ t,mg p.1=some (.int p.2 t)
 blt:∀ n∈d62,mg n=none
 cls:∀ c x,cn[c]?=some x->mg x=some (.ref (G.cls c))/\PySem.W.excIn K (G.cls c) [.type "ValueError",.type "Exception",.type "BaseException",.type "object"] "ValueError.__new__"=true
section
variable {P:à}{w:í}{K:Â}{mg:Str->Option Ä}{base:ê}{G:Gs}{cn:List Str}
structure B02(P:Program)(w:World)(K:PySem.W.Frag)(mg:Str->Option Value)(base:Heap)(cls:Nat->Addr)(fR:Addr)(fdR:FuncData):Prop where
 bm:BMain mg base
 cls:∀ j,j < 12->S40 K mg (cls j) j
 m:mg "_law_refused"=some (.ref fR)
 kp:PySem.W.keepIn K (.ref fR)=true
 bd:Binds K fdR ["_law_call"] []
 fn:∀ k,Y50 P w K mg base CX0 (k + 2) fR fdR ["_law_call"] (a32 P w K mg base (k + 1))
def B12(K:Â)(nm:Str)(fd:Ã0):Prop:=∃ (c P:Ç) (q:Str),fd.code=.ref c/\Å1 K c P=true/\(∀ sc n f cd,(Ð1 nm sc n f cd).qual++"<lambda>"=q)/\(P,q)∈TB.tb/\∀ p∈TB.tb,p.1=P->p.2=q
def Low(P:à)(w:í)(K:Â)(mg:Str->Option Ä)(base:ê)(G:Gs)(k:Nat):Prop:=∀ f nm ps,G.fns[f]?=some (nm,ps)->∃ fa fd,mg nm=some (.ref fa)/\Î5 K (.ref fa)=true/\Binds K fd ps []/\X20 P w K mg base (CX1 P w) k fa fd ps (spF K (lowG G k) f ps.length)
theorem w52(g:GX P w K mg base G cn){lm:Bool}{N ps:List Str}{qual:Str}{sc:ë}{f:Ç}{fd:Ã0}{cd:Ä}{A:ó}{outer:List Ç8}{s:Æ}{H:Hp}{E:XK}(S:l00 N ps sc)(hl:N.all (x30 sc)=true)
 (hr:w40 G.lv (A.deeper (Ð1 qual sc s.heap.objs.size f cd))) (hc:fd.code=cd) (hlam:lm=true->∃ k fR fdR,G.lv=k + 2/\B02 P w K mg base G.cls fR fdR/\B12 K qual fd/\Low P w K mg base G k):XS lm (G60 (CX1 P w) P w K mg base N qual sc f cd A outer s H E) G E N sc cn where
 gok:=g.gok
 num:=g.num
 blt:=g.blt
 hN:=rfl
 nd:=S.nd
 vis:=λx hx=>by
  have:=Ú.mp hl x hx;unfold x30 at this;rw[Å9,beq_iff_eq,beq_iff_eq] at this;rcases this with h | h
  ·exact .inl h
  ·exact .inr (.inl h)
 glb:=λx h=>h
 cel:=λx h=>h
 calm:=rfl
 room:=hr
 pas:=E62
 lam:=λh=>by
  obtain⟨k,fR,fdR,e1,L,⟨c,P',q,d1,d2,d3,d4,d5⟩,lo⟩:=hlam h;exact⟨c,P',q,k,fR,fdR,rfl,hc.symm.trans d1,d2,d3 _ _ _ _,d4,d5,L.bm,e1,L.cls,L.m,L.kp,L.bd,L.fn k,lo⟩
 sco:=rfl
 fnk:=S.kind
 own:=PassesOwn.leaving
 can:=t41
 fnx:=λ_=>rfl
 cls:=g.cls
theorem Y32{x qual:Str}{st:Á5}{f:Ç}{fd:Ã0}{N ps:List Str}{k:Nat}{sp:Sp}(F:Fun K x qual st f fd)(S:l00 N ps (c20 st))(len:∀ vs H Q E,sp vs H Q E->vs.length=ps.length)
 (hb:∀ (cdv:Ä),fd.code=cdv->∀ (A:ó) (outer:List Ç8) (s:Æ) (H:Hp) (vs:List V) (Q:VK) (E:XK),w40 k (A.deeper (Ð1 qual (c20 st) s.heap.objs.size f cdv))->sp vs H Q E ->
   ∃ t,PSs (G60 (CX1 P w) P w K mg base N qual (c20 st) f cdv A outer s H E) (j10 st) t/\t { nx:=λ_ H'=>Q .non H',rt:=Q } (L2.start N vs) H):X20 P w K mg base (CX1 P w) (k + 1) f fd ps sp:=by
 obtain⟨oc,od,kV,doc,pm,an,cdv,ct,osl,rfl,lk,hcd⟩:=F.ex;exact D22 lk hcd S len λA outer s H vs Q E hr hsp=>hb cdv rfl A outer s H vs Q E hr hsp
theorem h01:∀ {ss:List S}{vs:List V}{i:Nat}{s:S}{n:Nat},RvA K zA H ss vs->(ss.map some++ð n none)[i]?=some (some s)->∃ v,(vs.map some++ð n none)[i]?=some (some v)/\RvP K zA H s v
 |[],_,i,s,n,h,e=>by
  cases h;simp only[Ö7,Í4] at e;rw[Ó4] at e;split at e <;> cases e
 |a::ss,_,0,s,n,h,e=>by
  cases h with
  |cons h1 h2 =>
   simp only[Æ0,List.cons_append,Ë1] at e;cases e;exact⟨_,rfl,h1⟩
 |a::ss,_,i + 1,s,n,h,e=>by
  cases h with
  |cons h1 h2 =>
   obtain⟨v,k1,k2⟩:=h01 (i:=i) (s:=s) (n:=n) h2 (by simpa using e)
   exact⟨v,by simpa using k1,k2⟩
theorem À5.len{α β:Type}{R:α->β->Prop}:∀ {l:List α}{m:List β},À5 R l m->l.length=m.length
 |[],_,h=>by cases h;rfl
 |_::_,_,h=>by
  cases h with
  |cons h1 h2=>simp[À5.len h2]
theorem O61(h:RvA K zA H ss vs)(hn:∀ s∈ss,∀ xs,s≠.fr xs):RW K H zA zA (λ_=>none) H (Q.start N.length ss) (L2.start N vs):=by
 have hl:ss.length=vs.length:=À5.len h;refine⟨?_,λi j a e=>(nomatch e),λi a e=>(nomatch e),λi a e=>(nomatch e),λi s e=>?_,Ext.refl,.inl rfl,λi a e=>(nomatch e)⟩
 ·unfold Q.start L2.start;simp[hl]
 ·unfold Q.start at e;obtain⟨v,k1,k2⟩:=h01 h e;refine⟨v,?_,?_⟩
  ·unfold L2.start;rw[← hl];exact k1
  ·cases s with
   |d x=>exact⟨rfl,by rw[l10];exact k2⟩|z=>exact⟨rfl,k2⟩|ks l=>exact⟨rfl,by rw[l10];exact k2⟩
   |fr xs =>
    rcases Á2.mp (æ e) with q | q
    ·obtain⟨s',q1,q2⟩:=Ò.mp q;cases q2;exact absurd rfl (hn _ q1 xs)
    ·cases List.eq_of_mem_replicate q
theorem f92(st:c90 zA z H):A72 zA z1=N00 z z1:=by
 have st:=st.zat;cases zA with
 |none =>
  cases z with
  |none=>rfl|some p=>exact st.elim
 |some a =>
  cases z with
  |none=>exact st.elim|some p=>rfl
theorem A31(st:c90 zA z H):z.isNone=zA.isNone:=by
 have st:=st.zat;cases zA with
 |none =>
  cases z with
  |none=>rfl|some p=>exact st.elim
 |some a =>
  cases z with
  |none=>exact st.elim|some p=>rfl
theorem A41(g:GX P w K mg base G cn){lm:Bool}{N ps:List Str}{nm:Str}{st:Á5}{fa:Ç}{fd:Ã0}{b:Sm}{f:Nat}{F':FT}(Fn:Fun K nm nm st fa fd)(Sc:l00 N ps (c20 st))(hl:N.all (x30 (c20 st))=true)
 (ch:mtS lm G.fns G.nums cn (c20 st) N b (j10 st)=true) (hq:isQ b=true) (hlam:lm=true->∃ k fR fdR,G.lv=k + 2/\B02 P w K mg base G.cls fR fdR/\B12 K nm fd/\Low P w K mg base G k)
 (hF:∀ l z,F' false f l z=run G.F (.code ps.length N.length b) l z):X20 P w K mg base (CX1 P w) (G.lv + 1) fa fd ps (spF K { G with F:=F',lv:=G.lv + 1 } f ps.length):=by
 refine Y32 Fn Sc (λvs H Q E h=>h.1) λcdv hcd A outer s H vs Qv E hr hsp=>?_;obtain⟨hlen,zA,z,ss,r,rv,st',e,po⟩:=hsp;refine⟨_,(w42 (H0:=H) (zE:=zA) (w52 g Sc hl hr hcd hlam) b ch).1 hq,?_⟩;have e0:(if ss.length=ps.length/\ps.length<=N.length then(match ex G.F z.isNone b (Q.start N.length (ss.map plS)) z with
  |some (.ok (.nx _) z1)=>some (R.ok (S.d .non) (N00 z z1))|some (.ok (.rt s) z1)=>some (R.ok s (N00 z z1))|some (.er c z1)=>some (R.er c (N00 z z1))
  |none=>none) else none)=some r:=by
  have:=hF ss z;exact this.symm.trans e
 rw[A31 st'] at e0;split at e0
 ·have rw0:RW K H zA zA (λ_=>none) H (Q.start N.length (ss.map plS)) (L2.start N vs):=O61 rv.plS λs hs xs=>by
   obtain⟨s',_,rfl⟩:=Ò.mp hs;cases s' <;> exact λh=>nomatch h
  split at e0
  ·rename_i ρ z1 e1;cases e0;refine⟨zA,_,_,z,_,rw0,st',e1,λzA' ow' σ' H' r' st1 _=>?_⟩;refine po .non H' r'.ext ?_ (show Hd K (hz zA H') .non .non from Hd.non);rw[← f92 st'];exact j82 r'.zok st1
  ·rename_i s1 z1 e1;cases e0;refine⟨zA,_,_,z,_,rw0,st',e1,λv H' nz x st1 rv'=>?_⟩;exact po v H' x (by rw[← f92 st'];exact st1) rv'
  ·rename_i c z1 e1;cases e0;refine⟨zA,_,_,z,_,rw0,st',e1,λe H' x st1 hn=>?_⟩;exact po e H' x (by rw[← f92 st'];exact st1) hn
  ·cases e0
 ·cases e0
def lev(G:Gs)(T:List Df)(k:Nat):Gs:={ G with F:=T20 T k,lv:=k }
theorem w62{T:List Df}
 (num:∀ p∈G.nums,∃ t,mg p.1=some (.int p.2 t)) (blt:∀ n∈d62,mg n=none)
 (cls:∀ c x,cn[c]?=some x->mg x=some (.ref (G.cls c))/\Ì8 K (G.cls c) [.type "ValueError",.type "Exception",.type "BaseException",.type "object"] "ValueError.__new__"=true)
 (hd:∀ (f:Nat) (nm:Str) (ps:List Str),G.fns[f]?=some (nm,ps)->∃ (fa:Ç) (fd:Ã0),mg nm=some (.ref fa)/\Î5 K (.ref fa)=true/\Binds K fd ps [] /\
   ((∃ (lm:Bool) (N:List Str) (st:Á5) (b:Sm),T[f]?=some (Df.code ps.length N.length b)/\Fun K nm nm st fa fd/\l00 N ps (c20 st)/\N.all (x30 (c20 st))=true/\isQ b=true/\mtS lm G.fns G.nums cn (c20 st) N b (j10 st)=true/\(lm=true->∃ fR fdR,B02 P w K mg base G.cls fR fdR/\B12 K nm fd)) \/
    T[f]?=none)):∀ k,GX P w K mg base (lev G T k) cn:=by
 have zero:∀ k,k < 3->GX P w K mg base (lev G T k) cn:=λk hk=>by
  refine⟨λf nm ps h=>?_,num,blt,cls⟩;obtain⟨fa,fd,h1,h2,h3,_⟩:=hd f nm ps h;refine⟨fa,fd,h1,h2,h3,λvs H Q E q=>q.1,λA outer s H args us vs Q E hr he hb hv hs=>?_⟩;obtain⟨_,zA,z,ss,r,_,_,e,_⟩:=hs
  match k,hk with
  |0,_=>cases e
  |1,_=>cases e
  |2,_=>cases e
 intro k
 induction k using Nat.strongRecOn with
 |ind k ih =>
  match k,ih with
  |0,_=>exact zero 0 1e1|1,_=>exact zero 1 1e1|2,_=>exact zero 2 1e1
  |k + 3,ih =>
   refine⟨λf nm ps h=>?_,num,blt,cls⟩;obtain⟨fa,fd,h1,h2,h3,h4⟩:=hd f nm ps h;refine⟨fa,fd,h1,h2,h3,?_⟩;rcases h4 with ⟨lm,N,st,b,k1,k2,k3,k4,k5,k6,k7⟩ | h4
   ·refine A41 (G:=lev G T (k + 2)) (F':=T20 T (k + 3)) (ih (k + 2) ∅) k2 k3 k4 k6 k5 (λhlm=>?_) λl z=>?_
    ·obtain⟨fR,fdR,L,D⟩:=k7 hlm;exact⟨k,fR,fdR,rfl,L,D,λf nm ps h=>(ih k ∅).gok f nm ps h⟩
    ·show(match T[f]? with | some d=>run (T20 T (k + 2)) d l | none=>M.no) z=_
     rw[k1];rfl
   ·refine⟨λvs H Q E q=>q.1,λA outer s H args us vs Q E hr he hb hv hs=>?_⟩;obtain⟨_,zA,z,ss,r,_,_,e,_⟩:=hs;have e':(match T[f]? with | some d=>run (T20 T (k + 2)) d ss | none=>M.no) z=some r:=e
    rw[h4] at e';cases e'
end
end Q
namespace L2
open PySem PySem.W PySem.Calls PyProof.Rows
def F50(thr sok:Thread->Bool)(stp:SharedT->Thread->Option (SharedT × Thread)):Nat->SharedT->Thread->Option SharedT
 |0,_,_=>none
 |n + 1,s,t=>match thr t with
  |true=>some s
  |false=>match sok t with
   |false=>none
   |true=>match stp s t with
    |some (s',t')=>F50 thr sok stp n s' t'|none=>none
theorem U80:∀ {n:Nat}{s s':SharedT}{t:Thread},F50 through (stepOk n₀ ann) (stepT (denote tb) p w) n s t=some s'->topRun tb p w n₀ ann n s.abs t=some s'.abs
 |0,_,_,_,h=>by cases h
 |n + 1,s,s',t,h=>by
  unfold F50 at h;unfold topRun;cases ht:through t with
  |true=>rw[ht] at h;cases h;rfl
  |false =>
   rw[ht] at h;cases hok:stepOk n₀ ann t with
   |false=>rw[hok] at h;cases h
   |true =>
    rw[hok] at h;cases hst:stepT (denote tb) p w s t with
    |none=>rw[hst] at h;cases h
    |some r=>obtain⟨s₂,t₂⟩:=r;rw[hst] at h;rw[stepT_spec hst];exact U80 h
def grow:List Obj->Nat->BT->BT
 |[],_,t=>t|o::r,i,t=>grow r (i + 1) (t.ins i o)
def g02(w:í)(os:OsState):SharedT:=⟨grow (Ê4 w.params).objs.toList 0 .nil,11,(Ê4 w.params).life,Array.mk [],boot_drawn,boot_toks,os⟩
def A51:∀ (w:í) (os:OsState),(g02 w os).abs=⟨Ê4 w.params,Array.mk [],boot_drawn,boot_toks,os⟩:=λw os=>by kernel_rfl
def A61:∀ w:í,((Ê4 w.params).isNs ç&&(Array.mk []:Array Þ1).size == 0,(Ê4 w.params).objs.size,(Ê4 w.params).nsMap ç "__annotations__")=(true,11,some (.ref 6)):=λw=>by kernel_rfl
theorem g12{p q:à}{loose:List Str}{Xt:Æ->Bool}{α:Type}{Yf:Æ->α}{Ya:í->α}{N:Nat}
 (e:opening p=plainProg p.main.scope.names) (hN:ble 600 N=true) (f:∀ s,fenceModules? p s=some s)
 (run:∀ (w:í) (os:OsState),(F50 through (stepOk 11 (some (.ref 6))) (stepT (denote treeTable) p w) N (g02 w os) (topStub p)).map (λs =>
   (staticsOk (Ð0 p.main.body) (Ê4 w.params) s.abs.heap&&namesBound p s.abs.heap&&gensDone s.abs&&laidKept (Ê4 w.params) s.abs.heap,
    openSeen q loose (Ð0 p.main.body) Xt true s.abs,Yf s.abs))=some (true,openGood q loose,Ya w)):LeftO p q loose Xt Yf Ya N:=λw=>by
 obtain⟨⟨h,gs,d,k,os⟩,e1,e2⟩:=É.mp (boot_open (N:=N) e hN f w);obtain⟨rfl,rfl,rfl,rfl⟩:h=Ê4 w.params/\gs=Array.mk []/\d=boot_drawn/\k=boot_toks:=by simpa using e2
 obtain⟨z1,z2,z3⟩:_/\_/\_:=by simpa only [Ð5] using A61 w
 obtain⟨s1,r1,r2⟩:=É.mp (run w os);obtain⟨l1,l2,l3⟩:_/\_/\_:=by simpa only [Ð5] using r2
 have r:=U80 r1;rw[A51] at r;unfold openEnds;rw[e1];show Ì9 _ (topFrom treeTable p w N _)=_;unfold topFrom;dsimp only;rw[z1,z2,z3,r];show Ì9 _ (match staticsOk (Ð0 p.main.body) (Ê4 w.params) s1.abs.heap&&namesBound p s1.abs.heap&&gensDone s1.abs&&laidKept (Ê4 w.params) s1.abs.heap with | true=>_ | false=>_)=_
 rw[l1];exact congrArg Option.some (Prod.ext l2 l3)
def U90(o:Obj):Bool:=match o with
 |⟨.none,none,.fields vs,sl⟩=>vs.isEmpty&&sl.isEmpty|_=>false
def L32(h:ê)(a:Ç):Option Obj:=match h.get? a with
 |some o=>if U90 o then none else some o|none=>none
def fragOf(h:ê):Frag:=(ò h.objs.size).filterMap λa=>(L32 h a).map λo=>(a,o)
theorem v60(g:Ç->Option Obj)(a:Ç):∀ l:List Ç,(l.filterMap λa=>(g a).map λo=>(a,o)).lookup a=if a∈l then g a else none
 |[]=>rfl
 |b::r=>by
  by_cases hb:a=b
  ·subst hb;rw[if_pos Ì];cases hg:g a with
   |none =>
    rw[Á4,hg];show(r.filterMap λa=>(g a).map λo=>(a,o)).lookup a=none;rw[v60 g a r];split
    ·exact hg
    ·rfl
   |some o =>
    rw[Á4,hg];show Í6 a ((a,o)::_)=some o;rw[List.lookup_cons_self]
  ·have hm:(a∈b::r)↔a∈r:=by rw[Å2];exact⟨λh=>h.resolve_left hb,Ú4⟩
   have ih:=v60 g a r;have e:(if a∈b::r then g a else none)=if a∈r then g a else none:=by simp only[hm]
   rw[e,← ih];cases hg:g b with
   |none=>rw[Á4,hg];rfl
   |some o =>
    rw[Á4,hg];show Í6 a ((b,o)::_)=_;have:(a == b)=false:=by simpa using hb
    simp only[Í6,this]
theorem A71(h:ê):(fragOf h).In h:=λa o e=>by
 unfold fragOf at e;rw[v60] at e;split at e
 ·unfold L32 at e;cases hg:h.get? a with
  |none=>rw[hg] at e;cases e
  |some u =>
   rw[hg] at e;dsimp only at e;split at e
   ·cases e
   ·exact e
 ·cases e
theorem g22(h:U90 o=true):o=tabObj #[]:=by
 unfold U90 at h;split at h
 ·rename_i vs sl;rw[Á,Array.isEmpty_iff,Array.isEmpty_iff] at h;obtain⟨rfl,rfl⟩:=h;rfl
 ·cases h
theorem n41(e:h.get? a=some o)(t:U90 o=true):(fragOf h).lookup a=none:=by
 unfold fragOf;rw[v60];split
 ·unfold L32;rw[e];exact if_pos t
 ·rfl
def A81(K:Frag)(x:Str):Option (Str × Str × Ê5 × FuncBody × ë × Ç × List (Str × Ç) × Ä × Ç × Bool):=match nsIn K ç x with
 |some (some (.ref at0))=>(match K.lookup at0 with
  |some ⟨_,_,.func fd,_⟩=>some (fd.name,fd.qualname,fd.params,fd.body,fd.scope,fd.globals,fd.closure,fd.defaults,fd.builtins,codeIn K fd.code x)
  |_=>none)
 |_=>none
def g32(x:Str)(st:Á5):Option (Str × Str × Ê5 × FuncBody × ë × Ç × List (Str × Ç) × Ä × Ç × Bool):=some (x,x,K70 st,.stmts (j10 st),c20 st,ç,[],.none,Î3,true)
theorem a41{K:Frag}{x:Str}{st:Á5}(e:A81 K x=g32 x st):∃ f fd,nsIn K ç x=some (some (.ref f))/\Fun K x x st f fd/\∃ oc od sl,K.lookup f=some ⟨oc,od,.func fd,sl⟩:=by
 unfold A81 g32 at e;split at e
 ·rename_i f hf;split at e
  ·rename_i oc od fd sl hl;obtain⟨nm,qn,pm,bd,sc,gl,cl,df,kd,dc,py,an,cd,ct,bl⟩:=fd;simp only[Ð5,Ê2] at e;obtain⟨rfl,rfl,rfl,rfl,rfl,rfl,rfl,rfl,rfl,hc⟩:=e;exact⟨f,_,hf,⟨⟨oc,od,kd,dc,py,an,cd,ct,sl,rfl,hl,hc⟩,by simp only[keepIn,hl]⟩,oc,od,sl,hl⟩
  ·cases e
 ·cases e
def tab0At(h:ê)(T:Ç):Bool:=match h.get? T with
 |some o=>U90 o|none=>false
theorem A91{h:ê}{T:Ç}(e:tab0At h T=true):h.get? T=some (tabObj #[]):=by
 unfold tab0At at e;split at e
 ·rename_i o ho;rw[ho,g22 e]
 ·cases e
def B01(h:ê)(K:Frag)(x:Str):Option Addr:=match nsIn K ç x with
 |some (some (.ref at0))=>(match K.lookup at0 with
  |some ⟨_,_,.func fn0,_⟩=>(match fn0.code with
   |.ref c=>(match K.lookup c with
    |some ⟨_,_,.fields vs,_⟩=>(match (vs[11]?:Option Ä) with
     |some (.ref T)=>if codeHdIn K c T&&tab0At h T then some T else none
     |_=>none)
    |_=>none)
   |_=>none)
  |_=>none)
 |_=>none
theorem n51{h:ê}{K:Frag}{x:Str}{T:Ç}(e:B01 h K x=some T):h.get? T=some (tabObj #[])/\∃ f oc od fd sl c,nsIn K ç x=some (some (.ref f))/\K.lookup f=some ⟨oc,od,.func fd,sl⟩/\fd.code=.ref c/\codeHdIn K c T=true:=by
 unfold B01 at e;split at e
 ·rename_i f hf;split at e
  ·rename_i oc od fd sl hl;split at e
   ·rename_i c hc;split at e
    ·split at e
     ·rename_i T' _;split at e
      ·rename_i q;cases e;rw[Á] at q;obtain⟨q1,q2⟩:=q;exact⟨A91 q2,f,oc,od,fd,sl,c,hf,hl,hc,q1⟩
      ·cases e
     ·cases e
    ·cases e
   ·cases e
  ·cases e
 ·cases e
def i50:List Str:=["NoWeb","NoLot","NoPlaces","NoPlace","NoTie","NoChance","NoChances","NoPaper","TooMany","NoText","NoLine","NoDeed"]
def V00(K:Frag)(x:Str):Option Addr:=match nsIn K ç x with
 |some (some (.ref f))=>some f|_=>none
theorem O30{K:Frag}{x:Str}{f:Ç}(e:V00 K x=some f):nsIn K ç x=some (some (.ref f)):=by
 unfold V00 at e;split at e
 ·cases e;assumption
 ·cases e
abbrev O92:=Option (Option Ä) × Option (Option Ä) × Option Bool × Option Bool × Option (Option Ä) × Bool × Option Bool × Option Bool × Bool × List (Option Bool)
def a51(K:Frag)(C:Ç):O92:=(findIn K (.ref C) "__getattribute__",findIn K (.ref C) "__getattr__",mroIn K C (.type "BaseException"),mroIn K C (.type "object"),findIn K (.ref C) "__class__",hasDictIn K C,kitOne K (.ref C) (.type "ValueError"),
 (V00 K "ChanceError").bind λD=>exmOne K (.ref C) (.ref D),excIn K C [.type "ValueError",.type "Exception",.type "BaseException",.type "object"] "ValueError.__new__",i50.map λy=>(V00 K y).bind λB=>kitOne K (.ref C) (.ref B))
def B11(x:Str):O92:=(some (some (Ñ6 "BaseException.__getattribute__")),some (none:Option Ä),some true,some true,some (some (Ñ6 "object.__class__")),true,some true,some true,true,i50.map λy=>some (decide (x=y)))
def a61(K:Frag)(x:Str):Option Int:=match nsIn K ç x with
 |some (some (.int i _))=>some i|_=>none
theorem a71{K:Frag}{x:Str}{i:Int}(e:a61 K x=some i):∃ t,nsIn K ç x=some (some (.int i t)):=by
 unfold a61 at e;split at e
 ·rename_i t h;cases e;exact⟨t,h⟩
 ·cases e
def a81(K:Frag)(x:Str):Bool:=match nsIn K ç x with
 |some none=>true|_=>false
theorem a91{K:Frag}{x:Str}(e:a81 K x=true):nsIn K ç x=some none:=by
 unfold a81 at e;split at e
 ·assumption
 ·cases e
structure n80 where
 ds:List (Str × Stmt)
 is:List (Str × Int)
 ns:List Str
 ms:List Str
 cs:List Str
def n80.obs(q:n80)(s:Æ):=
 let K:=fragOf s.heap
 (q.ds.map λd=>A81 K d.1,q.is.map λd=>a61 K d.1,q.ns.map (a81 K),q.ms.map λx=>(B01 s.heap K x).isSome,q.cs.map λx=>(V00 K x).map (a51 K),
  (specialIn K (.builtin "object.__class__") "__get__",takesIn K (.builtin "object.__class__")))
def n80.due(q:n80)(_:í):=
 (q.ds.map λd=>g32 d.1 d.2,q.is.map λd=>some d.2,q.ns.map λ_=>true,q.ms.map λ_=>true,q.cs.map λx=>some (B11 x),
  (some (some (Ñ6 "getset_descriptor.__get__")),some true))
structure Facts(q:n80)(K:Frag)(h:Heap):Prop where
 fn:∀ d∈q.ds,∃ f fd,nsIn K mainGlobals d.1=some (some (.ref f))/\Fun K d.1 d.1 d.2 f fd/\∃ oc od sl,K.lookup f=some ⟨oc,od,.func fd,sl⟩
 it:∀ d∈q.is,∃ t,nsIn K mainGlobals d.1=some (some (.int d.2 t))
 no:∀ x∈q.ns,nsIn K mainGlobals x=some none
 mt:∀ x∈q.ms,∃ T,h.get? T=some (tabObj #[])/\K.lookup T=none/\∃ f oc od fd sl c,nsIn K mainGlobals x=some (some (.ref f))/\K.lookup f=some ⟨oc,od,.func fd,sl⟩/\fd.code=.ref c/\codeHdIn K c T=true
 cl:∀ x∈q.cs,∃ C,nsIn K mainGlobals x=some (some (.ref C))/\a51 K C=B11 x
 sp:specialIn K (.builtin "object.__class__") "__get__"=some (some (Value.builtin "getset_descriptor.__get__"))
 tk:takesIn K (.builtin "object.__class__")=some true
def I30{α β:Type}{f g:α->β}:∀ {l:List α},l.map f=l.map g->∀ a∈l,f a=g a:=λ{l} h a ha=>List.map_inj_left.mp h a ha
theorem n80.facts(q:n80)(w:í)(s:Æ)(e:q.obs s=q.due w):Facts q (fragOf s.heap) s.heap:=by
 unfold n80.obs n80.due at e;simp only[Ð5] at e;obtain⟨e1,e2,e3,e4,e5,e6,e7⟩:=e;refine⟨λd hd=>a41 (I30 e1 d hd),λd hd=>a71 (I30 e2 d hd),λx hx=>a91 (I30 e3 x hx),λx hx=>?_,λx hx=>?_,e6,e7⟩
 ·obtain⟨T,hT⟩:=Þ7.mp (I30 e4 x hx);obtain⟨h1,h2⟩:=n51 hT;exact⟨T,h1,n41 h1 rfl,h2⟩
 ·obtain⟨C,h1,h2⟩:=É.mp (I30 e5 x hx);exact⟨C,O30 h1,h2⟩
def n80.hook(q:n80):Hook where
 α:=_
 obs:=q.obs
 val:=q.due
 says:=λ_ h=>∃ K:Frag,K.In h/\Facts q K h
 of:=λw s e=>⟨_,A71 _,q.facts w s e⟩
 keeps:=λ_ h h' ⟨K,X,F⟩ k=>⟨K,X.keeps k,⟨F.fn,F.it,F.no,λx hx=>let ⟨T,a,b⟩:=F.mt x hx;⟨T,k _ _ a,b⟩,F.cl,F.sp,F.tk⟩⟩
end L2
namespace Q
open PySem L2 PySem.Spec PyProof.Rows
structure Row where
 nm:Str
 ps:List Str
 st:Stmt
 N:List Str
 b:Sm
 lm:Bool
def B21(N ps:List Str)(sc:ë):Bool:=sc.kind == .function&&!sc.isCoroutine&&!sc.isGenerator&&decide N.Nodup&&N.take ps.length == ps&&ps.all (λx=>sc.names.lookup x == some .local || sc.names.lookup x == some .cell)&&sc.names.all λy=>y.2 != .free
theorem h31(h:B21 N ps sc=true):l00 N ps sc:=by
 unfold B21 at h;simp only[Á,î,beq_iff_eq,Ä6,decide_eq_true_eq,Å9] at h;obtain⟨⟨⟨⟨⟨⟨h1,h2⟩,h3⟩,h4⟩,h5⟩,h6⟩,h7⟩:=h;exact⟨h1,h2,h3,h4,h5,h6,λy hy=>by simpa using h7 y hy⟩
def B31(r:Row):Prop:=∀ (kV doc pm:Ä) (an:Option Ç) (cdv ct:Ä) (us:List Ä),us.length=r.ps.length->bindArgs (fnOf r.nm r.nm (K70 r.st) (j10 r.st) (c20 r.st) .none kV doc pm an cdv ct) ⟨us,[]⟩=pure (r.ps.zip us)
def p10:List Row->Prop
 |[]=>True|r::l=>B31 r/\p10 l
theorem p10.at:∀ {l:List Row}{r:Row},p10 l->r∈l->B31 r
 |_::_,_,h,.head _=>h.1|_::_,_,h,.tail _ m=>p10.at h.2 m
def us1(h:us.length=1):∃ a,us=[a]:=List.length_eq_one_iff.mp h
theorem us2(h:us.length=2):∃ a b,us=[a,b]:=by
 match us,h with
 |[a,b],_=>exact⟨a,b,rfl⟩
theorem us3(h:us.length=3):∃ a b c,us=[a,b,c]:=by
 match us,h with
 |[a,b,c],_=>exact⟨a,b,c,rfl⟩
def j92(fns:List (Str × List Str))(nums:List (Str × Int))(r:Row):Bool:=mtS r.lm fns nums i50 (c20 r.st) r.N r.b (j10 r.st)&&isQ r.b&&r.N.all (x30 (c20 r.st))&&B21 r.N r.ps (c20 r.st)
def H10(rows:List Row):List (Str × List Str):=rows.map λr=>(r.nm,r.ps)
def tabOf(rows:List Row):List Df:=rows.map λr=>Df.code r.ps.length r.N.length r.b
def I40(rows:List Row)(nums:List (Str × Int))(mn:List Str)(ex:List (Str × Á5)):n80:=⟨rows.map (λr=>(r.nm,r.st))++ex,nums,"ValueError"::d62,mn,i50⟩
def clsAt(K:Â)(c:Nat):Addr:=(V00 K (i50.getD c "")).getD 0
theorem w72{K:Â}{C:Ç}{c:Nat}{x:Str}(hc:i50[c]?=some x)(h:Ò6 K ç x=some (some (.ref C))):clsAt K c=C:=by
 unfold clsAt;rw[Ü,hc];show(V00 K x).getD 0=C;unfold V00;rw[h];rfl
theorem w82{K:Â}{h:ê}{mg:Str->Option Ä}{q:n80}{x:Str}{j:Nat}(X:K.In h)(G:h.Ns ç mg)(F:Facts q K h)(hx:x∈q.cs)(hj:names12[j]?=some x)(hv:("ValueError":Str)∈q.ns):∃ C,Ò6 K ç x=some (some (.ref C))/\S40 K mg C j/\Ì8 K C [.type "ValueError",.type "Exception",.type "BaseException",.type "object"] "ValueError.__new__"=true:=by
 obtain⟨C,hC,e⟩:=F.cl x hx;unfold a51 B11 at e;simp only[Ð5] at e;obtain⟨u1,u2,u3,u4,u5,hd,ve,ce,ex,ys⟩:=e;obtain⟨D,hD,ce⟩:=Í.mp ce;have lt:j < 12:=(Ý.mp hj).1;refine⟨C,hC,⟨λi y hy=>?_,⟨u1,u2,u3,u4,u5,F.sp,F.tk⟩,hd,ve,mg_none_of X G (F.no _ hv),⟨D,mg_of X G (O30 hD),ce⟩,lt⟩,ex⟩;have hm:=I30 ys y (æ hy);obtain⟨B,hB,hk⟩:=Í.mp hm;refine⟨B,mg_of X G (O30 hB),hk.trans (congrArg some (decide_eq_decide.mpr ⟨λq=>?_,λq=>?_⟩))⟩
 ·subst q;have nd:names12.Nodup:=by decide +kernel
  exact(List.getElem?_inj (Ý.mp hy).1 nd).mp (hy.trans hj.symm)
 ·subst q;rw[hj] at hy;cases hy;rfl
section
variable {P:à}{w:í}{K:Â}{mg:Str->Option Ä}{base:ê}
theorem ok0(F:X20 P w K mg base (CX1 P w) k f fd ps sp):X20 P w K mg base CX0 k f fd ps (λvs H Q _=>sp vs H Q λ_ _ _=>False):=
 ⟨λvs H Q E h=>F.len _ _ _ _ h,λA outer s H args us vs Q E hr he hb hv hs=>È5 (F.run A outer s H args us vs Q _ hr he hb hv hs) λr s' h=>by
  cases r with
  |error e =>
   obtain⟨_,_,_,_,_,_,_,_,_,_,_,_,_,hE⟩:=h;exact hE.elim
  |ok fl=>cases fl <;> exact h⟩
theorem Y42:ß5 (#[]:Array Ä).toList:=by first | trivial | (unfold ß5;trivial)
theorem s00.noT[TB:Tb](h:s00 K H a xs):s00 K (hz none H) a xs:=by
 rcases h with (h | ⟨o,h⟩) | h
 ·exact .inl (.inl (d00 h (λq=>nomatch q)))
 ·exact .inl (.inr ⟨o,d00 h (λq=>nomatch q)⟩)
 ·exact .inr h
theorem w92[TB:Tb]{G:Gs}{T:List Df}{k f:Nat}{H:Hp}{a:Ç}{ns:List Int}(pure:b50 T k f [.d (.lst (ns.map D.int))] none=some (.ok (.d (.bl true)) none))(hH:∀ p∈TB.tb,H p.1=some (.tbl #[]))(hS:s00 K H a (ns.map V.int)) :
 spF K (lev G T k) f 1 [.ref a] H (λv _=>v=.bl true) λ_ _ _=>False:=by
 refine⟨rfl,none,none,[.d (.lst (ns.map D.int))],_,.cons ?_ .nil,⟨trivial,λp hp=>⟨#[],hH p hp,Y42,λpos c e=>nomatch e⟩⟩,pure,λv H' x st rv=>Hd.bl_ (show Hd K (hz none H') (.bl true) v from rv)⟩;show Hd K (hz none H) (.lst (ns.map D.int)) (.ref a);unfold Hd;exact⟨a,ns.map V.int,rfl,hS.noT,HdA.ints ns⟩
end
def P02(nm:Str):Str:=(Ð1 nm ⟨.function,[],false,false,[]⟩ 0 0 .none).qual++"<lambda>"
theorem x02{rows:List Row}{f:Nat}{nm:Str}{ps:List Str}(h:(H10 rows)[f]?=some (nm,ps)):∃ r∈rows,rows[f]?=some r/\r.nm=nm/\r.ps=ps:=by
 unfold H10 at h;rw[Û] at h;obtain⟨r,h1,h2⟩:=É.mp h;cases h2;exact⟨r,æ h1,h1,rfl,rfl⟩
section
variable [TB:Tb] {P:à}{w:í}{K:Â}{h:ê}{mg:Str->Option Ä}{base:ê}{rows:List Row}{nums:List (Str × Int)}{mn:List Str}{ex:List (Str × Á5)}
def x12(rows:List Row)(mn:List Str)(ex:List (Str × Á5)):Prop:=∀ r∈rows,r.lm=true->r.nm∈mn/\∃ (sR:Á5) (n:Nat),(("_law_refused":Str),sR)∈ex/\c20 sR=u50/\j10 sR=Y60 n/\B31 ⟨"_law_refused",["_law_call"],sR,[],.nil,false⟩
def L42[TB:Tb](K:Â)(rows:List Row):Prop:=∀ r∈rows,r.lm=true->∀ fd,(∃ f oc od sl,Ò6 K ç r.nm=some (some (.ref f))/\K.lookup f=some ⟨oc,od,.func fd,sl⟩)->B12 K r.nm fd
def B41(X:K.In h)(Gn:h.Ns ç mg)(Q:Facts (I40 rows nums mn ex) K h):∀ c x,i50[c]?=some x->Ò6 K ç x=some (some (.ref (clsAt K c)))/\S40 K mg (clsAt K c) c/\Ì8 K (clsAt K c) [.type "ValueError",.type "Exception",.type "BaseException",.type "object"] "ValueError.__new__"=true:=λc x hc=>by
 obtain⟨C,h1,h2,h3⟩:=w82 (x:=x) (j:=c) X Gn Q (æ hc) hc Ì;rw[w72 hc h1];exact⟨h1,h2,h3⟩
theorem B51(X:K.In h)(Gn:h.Ns ç mg)(Q:Facts (I40 rows nums mn ex) K h)(bm:BMain mg base)(hR:x12 rows mn ex)(hr:r∈rows)(hlm:r.lm=true):∃ fR fdR,B02 P w K mg base (clsAt K) fR fdR:=by
 obtain⟨hmn,sR,n,g1,g2,g3,g4⟩:=hR r hr hlm;obtain⟨fR,fdR,a2,F2,oc2,od2,sl2,lk2⟩:=Q.fn ("_law_refused",sR) (ì _ g1);refine⟨fR,fdR,bm,λj hj=>?_,mg_of X Gn a2,F2.kp,F2.binds g4,λk=>p12 F2 g2 g3 (mg_none_of X Gn (Q.no _ (Ë _ 1e1))) (mg_none_of X Gn (Q.no _ (Ë _ 1e1)))⟩
 have hx:∃ x,i50[j]?=some x:=⟨_,á (by exact hj)⟩
 obtain⟨x,hx⟩:=hx;exact(B41 X Gn Q j x hx).2.1
theorem g42(X:K.In h)(Gn:h.Ns ç mg)(Q:Facts (I40 rows nums mn ex) K h)(ok:rows.all (j92 (H10 rows) nums)=true)(bd:p10 rows)(bm:BMain mg base)(hR:x12 rows mn ex)(hT:L42 K rows)(F0:FT):∀ k,GX P w K mg base (lev ⟨H10 rows,nums,F0,clsAt K,0⟩ (tabOf rows) k) i50:=by
 refine w62 (λp hp=>?_) (λn hn=>?_) (λc x hc=>?_) λf nm ps hf=>?_
 ·obtain⟨t,e⟩:=Q.it p hp;exact⟨t,mg_of X Gn e⟩
 ·exact mg_none_of X Gn (Q.no n (Ë _ hn))
 ·obtain⟨h1,_,h3⟩:=B41 X Gn Q c x hc;exact⟨mg_of X Gn h1,h3⟩
 ·obtain⟨r,hr,hr2,rfl,rfl⟩:=x02 hf;obtain⟨fa,fd,a1,F1,oc,od,sl,lk⟩:=Q.fn (r.nm,r.st) (Å0 _ (Ò.mpr ⟨r,hr,rfl⟩));have rb:=Ú.mp ok r hr;unfold j92 at rb;simp only[Á] at rb;obtain⟨⟨⟨b1,b2⟩,b3⟩,b4⟩:=rb;refine⟨fa,fd,mg_of X Gn a1,F1.kp,F1.binds (bd.at hr),.inl ⟨r.lm,r.N,r.st,r.b,?_,F1,h31 b4,b3,b2,b1,λhlm=>?_⟩⟩
  ·unfold tabOf;rw[Û,hr2];rfl
  ·obtain⟨fR,fdR,L⟩:=B51 (P:=P) (w:=w) X Gn Q bm hR hr hlm;exact⟨fR,fdR,L,hT r hr hlm fd ⟨fa,oc,od,sl,a1,lk⟩⟩
theorem x22(X:K.In h)(Gn:h.Ns ç mg)(Q:Facts (I40 rows nums mn ex) K h)(ok:rows.all (j92 (H10 rows) nums)=true)(bd:p10 rows)(bm:BMain mg base)(hR:x12 rows mn ex)(hT:L42 K rows)(F0:FT)(k:Nat)(hi:rows[i]?=some r)(F1:Fun K r.nm r.nm r.st fa fd)
 (hfd:∃ f oc od sl,Ò6 K ç r.nm=some (some (.ref f))/\K.lookup f=some ⟨oc,od,.func fd,sl⟩):X20 P w K mg base (CX1 P w) (k + 3) fa fd r.ps (spF K (lev ⟨H10 rows,nums,F0,clsAt K,0⟩ (tabOf rows) (k + 3)) i r.ps.length):=by
 have hr:=æ hi;have rb:=Ú.mp ok r hr;unfold j92 at rb;simp only[Á] at rb;obtain⟨⟨⟨b1,b2⟩,b3⟩,b4⟩:=rb;have all:=g42 (P:=P) (w:=w) X Gn Q ok bd bm hR hT F0;refine A41 (G:=lev ⟨H10 rows,nums,F0,clsAt K,0⟩ (tabOf rows) (k + 2)) (F':=T20 (tabOf rows) (k + 3)) (all (k + 2)) F1 (h31 b4) b3 b1 b2 (λhlm=>?_) λl z=>?_
 ·obtain⟨fR,fdR,L⟩:=B51 (P:=P) (w:=w) X Gn Q bm hR hr hlm;exact⟨k,fR,fdR,rfl,L,hT r hr hlm fd hfd,λf nm ps h=>(all k).gok f nm ps h⟩
 ·show(match (tabOf rows)[i]? with | some d=>run (T20 (tabOf rows) (k + 2)) d l | none=>M.no) z=_
  unfold tabOf;rw[Û,hi];rfl
end
theorem B61{P:à}{w:í}{K:Â}{mg mb:Str->Option Ä}{k:Nat}{fa a:Ç}{fd:Ã0}{x:Str}{sp:Sp}{s₁:Æ}{vs:List Ä}{ns:List Int}{ts:List Ç}
 (KX:K.In s₁.heap) (hns:s₁.heap.Ns ç mg) (hb:s₁.heap.Ns Î3 mb) (hbb:∀ x:Str,x≠"__name__"->mb x=ñ x) (hlim:s₁.heap.NoLimit) (hg:s₁.gens=#[])
 (ha:s₁.heap.get? a=some { cls:=.type "list",data:=.seq vs.toArray }) (hi:Ì0 vs ns) (hl:ns.length<=sizeLine) (hr:w40 k Ý7)
 (hT:∀ Pt∈ts,s₁.heap.get? Pt=some (È6 #[])/\K.lookup Pt=none/\∃ c,Å1 K c Pt=true) (bmn:BMain mg s₁.heap)
 (F:∀ base:ê,K.In base->base.Ns ç mg->BMain mg base->X20 P w K mg base CX0 k fa fd [x] sp) (hbind:∀ (s:Æ) (u:Ä),BindsTo s fd ⟨[u],[]⟩ [(x,u)])
 (hsp:∀ H:Hp,(∀ Pt∈ts,H Pt=some (.tbl #[]))->s00 K H a (ns.map V.int)->sp [.ref a] H (λv _=>v=.bl true) λ_ _ _=>False) :
  Ë8 (Ø P w) Ý7 (.call (.ref fa) ⟨[.ref a],[]⟩) (λr s'=>r=.ok (.ret (.bool true))/\OldK s₁.heap s'.heap/\s'.os=s₁.os/\Ô1 s'.gens) s₁:=by
 have rv:=R80 hi;have lenV:=hi.length;have naT:a ∉ ts:=λh=>by have:=(hT a h).1;rw[ha] at this;cases this
 have core:∀ H:Hp,(∀ Pt∈ts,H Pt=some (.tbl #[]))->(∀ b,H b=none\/b∈ts\/(b=a/\∃ xs,H b=some (.frz { cls:=.type "list",data:=.seq vs.toArray } (.lst xs))))->s00 K H a (ns.map V.int)->HOk P w H s₁.heap->(H a≠none->K.lookup a=none) ->
   Ë8 (Ø P w) Ý7 (.call (.ref fa) ⟨[.ref a],[]⟩) (λr s'=>r=.ok (.ret (.bool true))/\OldK s₁.heap s'.heap/\s'.os=s₁.os/\Ô1 s'.gens) s₁:=by
  intro H hH hO hS hok hK;have plainN:∀ {b:Ç}{o:Obj},s₁.heap.get? b=some o->(∀ xs n,o.data≠.seq xs n)->(∀ xs,o.data≠.fields xs)->H b=none:=λ{b o} e d1 d2=>by
   rcases hO b with z | z | ⟨z,_⟩
   ·exact z
   ·have:=(hT b z).1;rw[e] at this;cases this;exact absurd rfl (d2 _)
   ·rw[z,ha] at e;cases e;exact absurd rfl (d1 _ _)
  have nsK:∀ {b:Ç}{m:Str->Option Ä},s₁.heap.Ns b m->(G41 s₁.heap H).Ns b m:=λ{b m} ⟨o,es,ep,e,d,r⟩=>⟨o,es,ep,J40 e (plainN e (λxs n z=>by rw[d] at z;cases z) λxs z=>by rw[d] at z;cases z),d,r⟩
  have hKb:K.In (G41 s₁.heap H):=λb o e=>J40 (KX b o e) (by
   rcases hO b with z | z | ⟨z,xs,z2⟩
   ·exact z
   ·rw[(hT b z).2.1] at e;cases e
   ·rw[z] at e z2;rw[hK (by rw[z2];exact λy=>nomatch y)] at e;cases e)
  have hM:Mod K mg (G41 s₁.heap H):=⟨hKb,nsK hns,⟨mb,nsK hb,hbb⟩,let ⟨mc,h1,h2⟩:=hlim;⟨mc,nsK h1,h2⟩⟩;have hBM:BMain mg (G41 s₁.heap H):=by
   obtain⟨bm,ob,b1,b2,b3,b4,b5,b6⟩:=bmn;exact⟨bm,ob,b1,b2,J40 b3 (plainN b3 (λxs n z=>by rw[b6] at z;cases z) λxs z=>by rw[b6] at z;cases z),b4,b5,b6⟩
  have e0:W71 P w K mg (G41 s₁.heap H) Ý7 [] s₁ H:=⟨rfl,hM,λb o e=>W21 e,Û2 (p31 _ _),trivial,λb hb=>absurd (show b∈([]:List Ç) from hb) (by simp),hok,.of_eq hg⟩
  refine È5 ((F _ hKb (nsK hns) hBM).run Ý7 [] s₁ H ⟨[.ref a],[]⟩ [.ref a] [.ref a] _ _ hr e0 (hbind s₁ (.ref a)) (.cons rfl .nil) (hsp H hH hS)) λr s' h=>?_;cases r with
  |error e=>exact À0 h
  |ok fl =>
   cases fl with
   |next=>exact À0 h
   |brk=>exact À0 h|cont=>exact À0 h
   |ret u =>
    obtain⟨v,H',os,bare,un,hok',r',q⟩:=h;have q':v=.bl true:=q;subst q';obtain rfl:u=È9 true:=r';refine⟨rfl,⟨λb o e=>?_,λb o e=>un.there b o e (by simp)⟩,os,bare⟩
    rcases hO b with z | z | ⟨z,xs,z2⟩
    ·exact .inl (un.keep b o e z (by intro y;exact absurd (show b∈([]:List Ç) from y) (by simp)) (by simp))
    ·obtain⟨t1,_,c,t2⟩:=hT b z;rw[e] at t1;cases t1;obtain⟨more,m1⟩:=un.tbls b _ (hH b z);have m2:s'.heap.get? b=some { cls:=.none,data:=.fields (#[]++more) }:=hok' b _ m1;have CH:=codeHd_of_K KX t2;exact .inr (.inl ⟨(CH.tab e).isCodeTable,rfl,#[],more,rfl,m2⟩)
    ·have z3:=un.frzs b _ _ z2;obtain⟨e1,_⟩:=hok b _ z2;obtain⟨e2,_⟩:=hok' b _ z3;rw[e] at e1;cases e1;exact .inl e2
 cases hk:K.lookup a with
 |some o =>
  have e:=KX a o hk;rw[ha] at e;cases e;refine core (λb=>if b∈ts then some (.tbl #[]) else none) (λPt h=>if_pos h) (λb=>?_) (.inr ⟨vs.toArray,_,hk,by rw[Ö,lenV];exact hl,by simpa using rv⟩) (λb u z=>?_) λz=>absurd (if_neg naT) z
  ·by_cases h:b∈ts
   ·exact .inr (.inl h)
   ·exact .inl (if_neg h)
  ·by_cases h:b∈ts
   ·have z':=(if_pos h).symm.trans z;cases z';exact(hT b h).1
   ·have z':=(if_neg h).symm.trans z;cases z'
 |none =>
  refine core (λb=>if b=a then some (.frz { cls:=.type "list",data:=.seq vs.toArray } (.lst (ns.map V.int))) else if b∈ts then some (.tbl #[]) else none) (λPt h=>?_) (λb=>?_) (.inl (.inr ⟨{ cls:=.type "list",data:=.seq vs.toArray },if_pos rfl⟩)) (λb u z=>?_) λ_=>hk
  ·rw[if_neg (λy=>naT (by rw[← y];exact h)),if_pos h]
  ·by_cases hb:b=a
   ·exact .inr (.inr ⟨hb,_,if_pos hb⟩)
   ·by_cases h:b∈ts
    ·exact .inr (.inl h)
    ·exact .inl (by rw[if_neg hb,if_neg h])
  ·by_cases hb:b=a
   ·have z':=(if_pos hb).symm.trans z;cases z';subst hb;exact⟨ha,by rw[È];exact hl,vs,_,rv,ha⟩
   ·replace z:=(if_neg hb).symm.trans z
    by_cases h:b∈ts
    ·have z':=(if_pos h).symm.trans z;cases z';exact(hT b h).1
    ·have z':=(if_neg h).symm.trans z;cases z'
theorem O71{l:PySem.W.OpenLaw}{n k:Nat}{q:à}{loose:List Str}{XP:(Str->Option Ä)->ê->Prop}{d:DefRec}{A:n80}{x:Str}
 (hn:l.most=some n) (hn2:n<=sizeLine) (hdf:d.params.defaults=[]) (hr:w40 k Ý7)
 (F:∀ (w:í) (mg:Str->Option Ä) (fa:Ç) (h:ê) (K:Â),Facts A K h->K.In h->h.Ns ç mg->mg d.name=some (.ref fa) ->
   ∃ (fd:Ã0) (ts:List Ç) (sp:Sp),(∀ Pt∈ts,h.get? Pt=some (È6 #[])/\K.lookup Pt=none/\∃ c,Å1 K c Pt=true)/\(∀ (s:Æ) (u:Ä),BindsTo s fd ⟨[u],[]⟩ [(x,u)]) /\
    (∀ base:ê,K.In base->base.Ns ç mg->BMain mg base->X20 l.prog w K mg base CX0 k fa fd [x] sp) /\
    ∀ (H:Hp) (a:Ç) (ns:List Int),ns.length<=n->(∀ Pt∈ts,H Pt=some (.tbl #[]))->s00 K H a (ns.map V.int)->sp [.ref a] H (λv _=>v=.bl true) λ_ _ _=>False) :
  PySem.W.WalkO q loose XP A.hook.says l.row.toRowW d [] (λf vs=>PySem.call f vs):=by
 refine Att.X80 hn hdf λw s₀ s₁ mg mb fa o pm cd doc a vs ns G Y ho hd hcd hmg hobj hints hlen hg=>?_;obtain⟨K,KX,FX⟩:=Y;obtain⟨fd,ts,sp,hT,hb,hF,hsp⟩:=F w mg fa _ K FX KX G.T.g hmg;exact B61 KX G.T.g G.T.b G.T.builtins G.T.nolimit hg hobj hints (Ó hlen hn2) hr hT G.T.bmain hF hb λH hH hS=>hsp H a ns hlen hH hS
theorem g52{l:PySem.W.OpenLaw}{rows:List Row}{nums:List (Str × Int)}{mn:List Str}{ex:List (Str × Á5)}{k iL n:Nat}{rL:Row}(ok:rows.all (j92 (H10 rows) nums)=true)(bd:p10 rows)(hL:rows[iL]?=some rL)(hn:rL.nm="law")(hp:rL.ps=[("_law_script":Str)])(hmn:mn.length<=1)(hR:x12 rows mn ex)
 (pure:∀ ns:List Int,ns.length<=n->b50 (tabOf rows) (k + 3) iL [.d (.lst (ns.map D.int))] none=some (.ok (.d (.bl true)) none)) (w:í) (mg:Str->Option Ä) (fa:Ç) (h:ê) (K:Â) (Q:Facts (I40 rows nums mn ex) K h) (X:K.In h) (Gn:h.Ns ç mg) (hfa:mg "law"=some (.ref fa)) :
   ∃ (fd:Ã0) (ts:List Ç) (sp:Sp),(∀ Pt∈ts,h.get? Pt=some (È6 #[])/\K.lookup Pt=none/\∃ c,Å1 K c Pt=true)/\(∀ (s:Æ) (u:Ä),BindsTo s fd ⟨[u],[]⟩ [("_law_script",u)]) /\
    (∀ base:ê,K.In base->base.Ns ç mg->BMain mg base->X20 l.prog w K mg base CX0 (k + 3) fa fd ["_law_script"] sp) /\
    ∀ (H:Hp) (a:Ç) (ns:List Int),ns.length<=n->(∀ Pt∈ts,H Pt=some (.tbl #[]))->s00 K H a (ns.map V.int)->sp [.ref a] H (λv _=>v=.bl true) λ_ _ _=>False:=by
 have hrL:rL∈rows:=æ hL;obtain⟨fL,fdL,aL,FL,ocL,odL,slL,lkL⟩:=Q.fn (rL.nm,rL.st) (Å0 _ (Ò.mpr ⟨rL,hrL,rfl⟩));have bL:=bd.at hrL;have e:=hfa.symm.trans (mg_of X Gn (by rw[← hn];exact aL))
 cases e;have bT:∀ (s:Æ) (u:Ä),BindsTo s fdL ⟨[u],[]⟩ [("_law_script",u)]:=by
  obtain⟨_,_,kV,doc,pm,an,cdv,ct,_,e,_,_⟩:=FL.ex;subst e;intro s u;have:=bL kV doc pm an cdv ct [u] (by rw[hp];rfl)
  rw[hp] at this;exact .of_eq this
 have fin:∀ (TB:Tb) (ts:List Ç),(∀ p∈TB.tb,p.1∈ts)->(∀ Pt∈ts,h.get? Pt=some (È6 #[])/\K.lookup Pt=none/\∃ c,Å1 K c Pt=true)->L42 K rows ->
   ∃ (fd:Ã0) (ts:List Ç) (sp:Sp),(∀ Pt∈ts,h.get? Pt=some (È6 #[])/\K.lookup Pt=none/\∃ c,Å1 K c Pt=true)/\(∀ (s:Æ) (u:Ä),BindsTo s fd ⟨[u],[]⟩ [("_law_script",u)]) /\
    (∀ base:ê,K.In base->base.Ns ç mg->BMain mg base->X20 l.prog w K mg base CX0 (k + 3) fa fd ["_law_script"] sp) /\
    ∀ (H:Hp) (a:Ç) (ns:List Int),ns.length<=n->(∀ Pt∈ts,H Pt=some (.tbl #[]))->s00 K H a (ns.map V.int)->sp [.ref a] H (λv _=>v=.bl true) λ_ _ _=>False:=λTB ts h1 h2 h3=>by
  refine⟨fdL,ts,λvs H Q _=>spF K (lev ⟨H10 rows,nums,λ_ _ _=>M.no,clsAt K,0⟩ (tabOf rows) (k + 3)) iL 1 vs H Q λ_ _ _=>False,h2,bT,λbase kb nb bm=>?_,λH a ns hl hH hS=>w92 (pure ns hl) (λp hp=>hH p.1 (h1 p hp)) hS⟩;have F:=ok0 (x22 (P:=l.prog) (w:=w) X Gn Q ok bd bm hR h3 (λ_ _ _=>M.no) k hL FL ⟨fa,ocL,odL,slL,aL,lkL⟩);rw[hp] at F;exact F
 match mn,hmn,Q with
 |[],_,Q =>
  exact fin ⟨[]⟩ [] (λp hp=>by cases hp) (λp hp=>by cases hp) λr hr hlm=>by
   have:=(hR r hr hlm).1;cases this
 |[m],_,Q =>
  obtain⟨T,t1,t2,f,oc,od,fd,sl,c,t3,t4,t5,t6⟩:=Q.mt m (.head _);refine fin ⟨[(T,P02 m)]⟩ [T] (λp hp=>?_) (λp hp=>?_) λr hr hlm fd' h'=>?_
  ·cases Ù.mp hp;exact .head _
  ·cases Ù.mp hp;exact⟨t1,t2,c,t6⟩
  ·have hm:r.nm=m:=Ù.mp (hR r hr hlm).1;rw[hm] at h' ⊢;obtain⟨f',oc',od',sl',e1,e2⟩:=h';rw[t3] at e1;cases e1;rw[t4] at e2;cases e2;exact⟨c,T,P02 m,t5,t6,λ_ _ _ _=>rfl,.head _,λp hp _=>by cases Ù.mp hp;rfl⟩
end Q
namespace Q
open L2 (D)
open PySem (Paired)
def h41:Ex->Bool
 |.var _=>false|_=>true
def Y52:Ex->Env->Option (Option S)
 |.var i,ρ=>ρ[i]?|_,_=>none
def P12:Option (Option S)->Option S
 |some (some s)=>noS s|_=>none
def blS:S->Option Bool
 |.d (.bl b)=>some b|_=>none
abbrev Du{α:Type}(_:α->Z->Prop)(_:Nat->Z->Prop):Type:=Unit
abbrev Dv{α:Type}(_:α->Prop):Type:=Unit
structure W{α:Type}(m:M α)(z:Z)(Q:α->Z->Prop)(E:Nat->Z->Prop)(du:Du Q E:=()):Prop where
 ex:∃ r,m z=some r/\match r with
  |.ok a z1=>Q a z1|.er c z1=>E c z1
def W_e{α:Type}{m:M α}{Q:α->Z->Prop}:W m z Q E↔∃ r,m z=some r/\match r with
  |.ok a z1=>Q a z1|.er c z1=>E c z1:=⟨W.ex,W.mk⟩
abbrev NE:Nat->Z->Prop:=λ_ _=>False
def Get{α:Type}(o:Option α)(P:α->Prop)(_:Dv P:=()):Prop:=match o with
 |some a=>P a|none=>False
def x32{α:Type}{a:α}{P:α->Prop}:Get (some a) P↔P a:=Iff.rfl
theorem m00{α:Type}{o:Option α}{P:α->Prop}(h:Get o P):∃ a,o=some a/\P a:=by
 cases o with
 |none=>exact h.elim|some a=>exact⟨a,rfl,h⟩
theorem a00{α:Type}{o:Option α}{a:α}{P:α->Prop}(h:o=some a)(hp:P a):Get o P:=by rw[h];exact hp
section
variable {α β:Type}{m:M α}{z z1:Z}{Q Q':α->Z->Prop}{E E':Nat->Z->Prop}
theorem W.mono(h:W m z Q E)(hq:∀ a z,Q a z->Q' a z)(he:∀ c z,E c z->E' c z):W m z Q' E':=by
 obtain⟨r,e,h⟩:=h;refine⟨r,e,?_⟩;cases r with
 |ok a z1=>exact hq _ _ h|er c z1=>exact he _ _ h
def W.imp(h:W m z Q NE)(hq:∀ a z,Q a z->Q' a z):W m z Q' E':=h.mono hq λ_ _ h=>h.elim
theorem W.ok{a:α}(h:W m z (λb z2=>b=a/\z2=z1) NE):m z=some (.ok a z1):=by
 obtain⟨r,e,h⟩:=h;cases r with
 |ok b z2=>obtain⟨rfl,rfl⟩:=h;exact e
 |er c z2=>exact h.elim
theorem W.er(h:W m z (λ_ _=>False) (λd z2=>d=c/\z2=z1)):m z=some (.er c z1):=by
 obtain⟨r,e,h⟩:=h;cases r with
 |ok b z2=>exact h.elim|er d z2=>obtain⟨rfl,rfl⟩:=h;exact e
theorem P22{a:α}(h:m z=some (.ok a z1)):W m z Q E↔Q a z1:=by
 rw[W_e];constructor
 ·rintro ⟨r,e,q⟩;rw[h] at e;cases e;exact q
 ·exact λq=>⟨_,h,q⟩
theorem Y62{c:Nat}(h:m z=some (.er c z1)):W m z Q E↔E c z1:=by
 rw[W_e];constructor
 ·rintro ⟨r,e,q⟩;rw[h] at e;cases e;exact q
 ·exact λq=>⟨_,h,q⟩
def H20{a:α}:W (M.ret a) z Q E↔Q a z:=P22 rfl
def x42:W (M.no:M α) z Q E↔False:=⟨λ⟨_,e,_⟩=>(by cases e),À0⟩
theorem s10{f:α->M β}{Q:β->Z->Prop}:W (M.bind m f) z Q E↔W m z (λa z1=>W (f a) z1 Q E) E:=by
 constructor
 ·rintro ⟨r,e,q⟩;unfold M.bind at e;split at e
  ·rename_i a z1 e1;exact⟨_,e1,r,e,q⟩
  ·rename_i c z1 e1;cases e;exact⟨_,e1,q⟩
  ·cases e
 ·rintro ⟨r,e,q⟩;cases r with
  |ok a z1 =>
   obtain⟨r,e2,q⟩:=q;refine⟨r,?_,q⟩;unfold M.bind;rw[e];exact e2
  |er c z1 =>
   refine⟨.er c z1,?_,q⟩;unfold M.bind;rw[e]
theorem U61:W (M.calm m) z Q E↔W m z Q NE:=by
 rw[W_e,W_e];unfold M.calm;constructor
 ·rintro ⟨r,e,q⟩;split at e
  ·rename_i a z1 e1;cases e;exact⟨_,e1,q⟩
  ·cases e
 ·rintro ⟨r,e,q⟩;cases r with
  |ok a z1=>exact⟨.ok a z1,by rw[e],q⟩|er c z1=>exact q.elim
def g62(h:∀ a z,Q a z↔Q' a z):W m z Q E↔W m z Q' E:=⟨λx=>x.mono (λa z=>(h a z).mp) λ_ _ h=>h,λx=>x.mono (λa z=>(h a z).mpr) λ_ _ h=>h⟩
def wR{a:α}:Q a z↔W (M.ret a) z Q E:=H20.symm
def wN:False↔W (M.no:M α) z Q E:=x42.symm
theorem wT{c:Prop}[Decidable c]{a b:M α}{A B:Prop}(h1:A↔W a z Q E)(h2:B↔W b z Q E):(if c then A else B)↔W (if c then a else b) z Q E:=by
 split <;> assumption
theorem wG{o:Option β}{f:β->M α}{K:β->Prop}(h:∀ a,K a↔W (f a) z Q E):Get o K↔W (M.bind (M.of o) f) z Q E:=by
 cases o with
 |none=>exact x42.symm|some a=>exact h a
def wB{m:M β}{f:β->M α}{V:Prop}{K:β->Z->Prop}(h1:V↔W m z K E)(h2:∀ a z1,K a z1↔W (f a) z1 Q E):V↔W (M.bind m f) z Q E:=h1.trans ((g62 h2).trans s10.symm)
end
def Wm{α:Type}(o:Option (R α))(Q:α->Z->Prop)(E:Nat->Z->Prop):Prop:=match o with
 |some (.ok a z1)=>Q a z1|some (.er c z1)=>E c z1|none=>False
theorem wM{α:Type}{m:M α}{z:Z}{Q:α->Z->Prop}{E:Nat->Z->Prop}:Wm (m z) Q E↔W m z Q E:=by
 rw[W_e];unfold Wm;cases h:m z with
 |none=>exact⟨À0,λ⟨_,e,_⟩=>by cases e⟩
 |some r =>
  refine⟨λq=>⟨r,rfl,?_⟩,λ⟨_,e,q⟩=>?_⟩
  ·cases r <;> exact q
  ·cases e;cases r <;> exact q
def Vr(o:Option (Option S))(z:Z)(Q:List S->Z->Prop)(_:Du Q NE:=()):Prop:=match o with
 |some (some s)=>Q [plS s] z|_=>False
def WV:FT->Ex->Env->Z->(List S->Z->Prop)->(Nat->Z->Prop)->Prop
 |F,.nil=>λρ z Q E=>Q [] z|F,.cons a r=>λρ z Q E=>WV F a ρ z (λx z1=>Get (one x) λs=>WV F r ρ z1 (λy z2=>Q (s::y) z2) E) E|F,.con x=>λρ z Q E=>Q [.d x] z|F,.gint g i=>λρ z Q E=>Q [.d (.int i)] z|F,.tup as=>λρ z Q E=>WV F as ρ z (λl z1=>Get (plA l) λds=>if ds.length<=most then Q [.d (.tup ds)] z1 else False) E|F,.lst as=>λρ z Q E=>WV F as ρ z (λl z1=>Get (plA l) λds=>if ds.length<=most then Q [.fr ds] z1 else False) E|F,.bin o a b=>λρ z Q E=>WV F a ρ z (λx z1=>Get (pl x) λdx=>WV F b ρ z1 (λy z2=>Get (pl y) λdy=>Get (H80 o dx dy) λs=>Q [s] z2) E) E|F,.cmp o a b=>λρ z Q E=>WV F a ρ z (λx z1=>Get (pl x) λdx=>WV F b ρ z1 (λy z2=>Get (pl y) λdy=>Get (t80 o dx dy) λt=>Q [.d (.bl t)] z2) E) E|F,.neg a=>λρ z Q E=>WV F a ρ z (λx z1=>Get ((pl x).bind asI) λi=>Q [.d (.int (-i))] z1) E|F,.not a=>λρ z Q E=>WV F a ρ z (λx z1=>Get ((pl x).bind asB) λb=>Q [.d (.bl !b)] z1) E|F,.and a b=>λρ z Q E=>WV F a ρ z (λx z1=>Get ((pl x).bind asB) λc=>if c then WV F b ρ z1 (λy z2=>Get ((pl y).bind asB) λc=>Q [.d (.bl c)] z2) E else Q [.d (.bl false)] z1) E|F,.or a b=>λρ z Q E=>WV F a ρ z (λx z1=>Get ((pl x).bind asB) λc=>if c then Q [.d (.bl true)] z1 else WV F b ρ z1 (λy z2=>Get ((pl y).bind asB) λc=>Q [.d (.bl c)] z2) E) E|F,.orT a b=>λρ z Q E=>WV F a ρ z (λx z1=>Get ((pl x).bind p52) λl=>if l.isEmpty then WV F b ρ z1 (λy z2=>Get ((pl y).bind p52) λl=>Q [.d (.tup l)] z2) NE else Q [.d (.tup l)] z1) NE|F,.ite c a b=>λρ z Q E=>WV F c ρ z (λx z1=>Get ((pl x).bind asB) λc=>if c then WV F a ρ z1 Q E else WV F b ρ z1 Q E) E|F,.ch o o' a b c=>λρ z Q E=>WV F a ρ z (λx z1=>Get (pl x) λdx=>WV F b ρ z1 (λy z2=>Get (pl y) λdy=>Get (t80 o dx dy) λt=>if t then WV F c ρ z2 (λw z3=>Get (pl w) λdw=>Get (t80 o' dy dw) λt=>Q [.d (.bl t)] z3) E else Q [.d (.bl false)] z2) E) E|F,.bf f as=>λρ z Q E=>WV F as ρ z (λl z1=>Get (plA l) λds=>Get (bfD f ds) λs=>Q [s] z1) E|F,.isi t a=>λρ z Q E=>WV F a ρ z (λx z1=>Get (pl x) λx=>Q [.d (.bl (S61 t x))] z1) E|F,.idx a i=>λρ z Q E=>WV F a ρ z (λx z1=>Get (pl x) λdx=>WV F i ρ z1 (λy z2=>Get (pl y) λdy=>Get (e91 dx dy) λr=>Q [.d r] z2) E) E|F,.sl a lo hi=>λρ z Q E=>WV F a ρ z (λx z1=>Get (pl x) λdx=>WV F lo ρ z1 (λu z2=>Get (v21 u) λu=>WV F hi ρ z2 (λv z3=>Get (v21 v) λv=>Get (slD dx u v) λs=>Q [s] z3) E) E) E|F,.rev a=>λρ z Q E=>WV F a ρ z (λx z1=>Get ((pl x).bind N62) λs=>Q [s] z1) E|F,.call f as=>λρ z Q E=>WV F as ρ z (λl z1=>W (F false f (l.map plS)) z1 (λs z2=>Q [s] z2) E) E|F,.comp own capt p it src cond el=>λρ z Q E=>WV F src ρ z (λl z1=>Get ((plA l).bind (itD it)) λxs=>if xs.length<=most then W (turns (r50 (ev F cond) (ev F el) p (ð own none++capt.map λi=>(ρ[i]?).getD none)) xs) z1 (λys z2=>Q [.fr ys] z2) NE else False) E|F,.lrng b as=>λρ z Q E=>WV F as ρ z (λl z1=>Get ((plA l).bind lrD) λxs=>Q [lrS b xs] z1) E|F,.dkeys a=>λρ z Q E=>WV F a ρ z (λl z1=>Get ((pl l).bind b22) λkss=>Q [.ks kss] z1) E|F,.memk o a i=>λρ z Q E=>WV F a ρ z (λl z1=>Get ((pl l).bind j62) λk=>Get (F12 ρ[i]?) λkss=>Q [.d (.bl (kss.contains k == o))] z1) E|F,.var i=>λρ z Q E=>Vr ρ[i]? z Q|F,.zget i k=>λρ z Q E=>Wm (v31 k ρ[i]? z) Q E
def WE(F:FT)(e:Ex)(ρ:Env)(z:Z)(Q:List S->Z->Prop)(E:Nat->Z->Prop)(_:Du Q E:=()):Prop:=WV F e ρ z Q E
def WX(F:FT)(tp:Bool):Sm->Env->Z->(O->Z->Prop)->(Nat->Z->Prop)->Prop
 |.nil=>λρ z Q E=>Q (.nx ρ) z
 |.seq s r=>λρ z Q E=>WX F tp s ρ z (λo z1=>match o with
  |.nx ρ=>WX F tp r ρ z1 Q E
  |.rt s=>Q (.rt s) z1) E
 |.set p e=>λρ z Q E=>WE F e ρ z (λl z1=>Get (one l) λs=>Get (A90 p s (j40 s ρ)) λρ'=>Q (.nx ρ') z1) E|.ret e=>λρ z Q E=>if h41 e then WE F e ρ z (λl z1=>Get ((one l).bind noS) λs=>Q (.rt s) z1) E else Get (P12 (Y52 e ρ)) λs=>Q (.rt s) z|.iff c t e=>λρ z Q E=>WE F c ρ z (λx z1=>Get ((pl x).bind asB) λb=>if b then WX F tp t ρ z1 Q E else WX F tp e ρ z1 Q E) E|.exp e=>λρ z Q E=>WE F e ρ z (λl z1=>Get (one l) λ_=>Q (.nx ρ) z1) E|.rais c=>λρ z Q E=>E c z|.fr p it src b=>λρ z Q E=>WE F src ρ z (λl z1=>Get ((plA l).bind (itD it)) λxs=>W (X40 (λx ρ=>M.bind (M.of (f30 p x ρ)) λρ=>ex F tp b ρ) xs (v61 it src l ρ)) z1 Q E) E
 |.four i j es c t=>λρ z Q E=>if i < ρ.length/\j < ρ.length/\i≠j then WE F es (x00 ρ) z (λl z1=>Get (if l.length<=most then frL l else none) λxss=>WE F c ((x00 ρ).set i (some (.d (.lst (xss.map D.lst))))) z1 (λx z2=>Get ((pl x).bind asB) λb=>if b then WX F tp t ((x00 ρ).set i none) z2 (λo z3=>match o with
  |.rt s=>Q (.rt s) z3
  |.nx _=>False) E else Q (.nx (((x00 ρ).set i none).set j none)) z2) E) E else False
 |.lams i ls g e t r=>λρ z Q E=>W (ex F tp (.lams i ls g e t r) ρ) z Q E|.zset i e=>λρ z Q E=>WE F e ρ z (λl z1=>Get ((pl l).bind asI) λv=>Wm (v81 ρ v ρ[i]? z1) Q E) E|.app i e=>λρ z Q E=>Get (ownAt ρ i) λxs=>WE F e ρ z (λl z1=>Get (pl l) λx=>if bare x=true/\xs.length < most then Q (.nx (ρ.set i (some (.fr (xs++[x]))))) z1 else False) E|.newz i f as=>λρ z Q E=>WE F (.call f as) ρ z (λl z1=>Wm (v71 tp ρ i l) Q E) E
def WS(F:FT)(tp:Bool)(s:Sm)(ρ:Env)(z:Z)(Q:O->Z->Prop)(E:Nat->Z->Prop)(_:Du Q E:=()):Prop:=WX F tp s ρ z Q E
theorem x52:∀ (e:Ex) {F:FT}{ρ:Env}{z:Z}{Q:List S->Z->Prop}{E:Nat->Z->Prop},WV F e ρ z Q E↔W (ev F e ρ) z Q E:=by
 intro e
 induction e with
 |nil=>intros;exact wR|cons a r ha hr=>intros;exact wB ha λx z1=>wG λs=>wB hr λy z2=>wR
 |var i =>
  intro F ρ z Q E;show Vr ρ[i]? z Q↔W (match ρ[i]? with | some (some s)=>M.ret [plS s] | _=>M.no) z Q E
  generalize ρ[i]?=o
  match o with
  |some (some s)=>exact wR|some none=>exact wN|none=>exact wN
 |con x=>intros;exact wR|gint g i=>intros;exact wR|tup a ha=>intros;exact wB ha λl z1=>wG λds=>wT wR wN|lst a ha=>intros;exact wB ha λl z1=>wG λds=>wT wR wN|bin o a b ha hb=>intros;exact wB ha λx z1=>wG λdx=>wB hb λy z2=>wG λdy=>wG λs=>wR|cmp o a b ha hb=>intros;exact wB ha λx z1=>wG λdx=>wB hb λy z2=>wG λdy=>wG λs=>wR|neg a ha=>intros;exact wB ha λx z1=>wG λi=>wR|not a ha=>intros;exact wB ha λx z1=>wG λi=>wR|and a b ha hb=>intros;exact wB ha λx z1=>wG λc=>wT (wB hb λy z2=>wG λc=>wR) wR|or a b ha hb=>intros;exact wB ha λx z1=>wG λc=>wT wR (wB hb λy z2=>wG λc=>wR)|orT a b ha hb=>intros;refine Iff.trans ?_ U61.symm;exact wB ha λx z1=>wG λl=>wT (wB hb λy z2=>wG λl=>wR) wR|ite c a b hc ha hb=>intros;exact wB hc λx z1=>wG λc=>wT ha hb|ch o o' a b c ha hb hc=>intros;exact wB ha λx z1=>wG λdx=>wB hb λy z2=>wG λdy=>wG λt=>wT (wB hc λw z3=>wG λdw=>wG λt=>wR) wR|bf f a ha=>intros;exact wB ha λl z1=>wG λds=>wG λs=>wR|isi t a ha=>intros;exact wB ha λx z1=>wG λx=>wR|idx a i ha hi=>intros;exact wB ha λx z1=>wG λdx=>wB hi λy z2=>wG λdy=>wG λr=>wR|sl a l h ha hl hh=>intros;exact wB ha λx z1=>wG λdx=>wB hl λu z2=>wG λu=>wB hh λv z3=>wG λv=>wG λs=>wR|rev a ha=>intros;exact wB ha λx z1=>wG λs=>wR|call f a ha=>intros;exact wB ha λl z1=>wB Iff.rfl λs z2=>wR|comp own capt p it src cond el hs hc he=>intros;exact wB hs λl z1=>wG λxs=>wT (wB U61.symm λys z2=>wR) wN|zget i k=>intros;exact wM (m:=v31 k _)|lrng b a ha=>intros;exact wB ha λl z1=>wG λxs=>wR|dkeys a ha=>intros;exact wB ha λl z1=>wG λxs=>wR|memk o a i ha=>intros;exact wB ha λl z1=>wG λk=>wG λxs=>wR
def c60{e:Ex}{F:FT}{ρ:Env}{z:Z}{Q:List S->Z->Prop}{E:Nat->Z->Prop}:WE F e ρ z Q E↔W (ev F e ρ) z Q E:=x52 e
theorem L52{F:FT}{tp:Bool}{ρ:Env}{e:Ex}(h:h41 e=true):ex F tp (.ret e) ρ=M.bind (ev F e ρ) λl=>M.bind (M.of ((one l).bind noS)) λs=>M.ret (.rt s):=by
 cases e with
 |var i=>cases h
 |_=>rfl
theorem x62{F:FT}{tp:Bool}:∀ (s:Sm) {ρ:Env}{z:Z}{Q:O->Z->Prop}{E:Nat->Z->Prop},WX F tp s ρ z Q E↔W (ex F tp s ρ) z Q E:=by
 intro s
 induction s with
 |nil=>intros;exact wR
 |seq s r hs hr =>
  intros;refine wB hs λo z1=>?_;cases o with
  |nx ρ=>exact hr|rt s=>exact wR
 |set p e=>intros;exact wB c60 λl z1=>wG λs=>wG λρ'=>wR
 |ret e =>
  intro ρ z Q E;show(if h41 e then _ else _)↔_;cases h:h41 e with
  |true =>
   refine(iff_of_eq (if_pos rfl)).trans ?_;rw[L52 h];exact wB c60 λl z1=>wG λs=>wR
  |false =>
   cases e with
   |var i =>
    refine(iff_of_eq (if_neg Ï)).trans ?_;show Get (P12 ρ[i]?) _↔W (match ρ[i]? with | some (some s)=>M.bind (M.of (noS s)) λs=>M.ret (O.rt s) | _=>M.no) z Q E
    generalize ρ[i]?=o
    match o with
    |some (some s)=>exact wG λs=>wR|some none=>exact wN|none=>exact wN
   |_=>cases h
 |iff c t u ht hu=>intros;exact wB c60 λx z1=>wG λc=>wT ht hu|exp e=>intros;exact wB c60 λl z1=>wG λs=>wR|rais c=>intros;exact(Y62 rfl).symm|fr p it src b ih=>intros;exact wB c60 λl z1=>wG λxs=>Iff.rfl
 |four i j es c t iht =>
  intros;refine wT (wB c60 λl z1=>wG λxss=>wB c60 λx z2=>wG λb=>wT (wB iht λo z3=>?_) wR) wN;cases o with
  |nx ρ=>exact wN|rt s=>exact wR
 |lams i ls g e t r iht ihr=>intros;exact Iff.rfl|zset i e=>intros;exact wB c60 λl z1=>wG λv=>wM (m:=v81 _ v _)|app i e=>intros;exact wG λxs=>wB c60 λl z1=>wG λx=>wT wR wN|newz i f as=>intros;exact wB c60 λl z1=>wM (m:=λ_=>v71 tp _ i l)
def I50:WS F tp s ρ z Q E↔W (ex F tp s ρ) z Q E:=x62 s
def WS.mono{s:Sm}{F:FT}{tp:Bool}{ρ:Env}{z:Z}{Q Q':O->Z->Prop}{E E':Nat->Z->Prop}(h:WS F tp s ρ z Q E)(hq:∀ a z,Q a z->Q' a z)(he:∀ c z,E c z->E' c z):WS F tp s ρ z Q' E':=I50.mpr (W.mono (I50.mp h) hq he)
theorem g72(Mid:Env->Z->Prop)(h:WS F tp s ρ z (λo z1=>match o with
  |.nx ρ=>Mid ρ z1
  |.rt s=>Q (.rt s) z1) E) (h2:∀ ρ z,Mid ρ z->WS F tp r ρ z Q E):WS F tp (.seq s r) ρ z Q E:=by
 refine WS.mono (s:=s) h (λo z1 h=>?_) λ_ _ h=>h;cases o with
 |nx ρ=>exact h2 ρ z1 h|rt s=>exact h
section
variable {T:List Df}{k f ps ns:Nat}{b:Sm}{l:List S}{z:Z}{Q:S->Z->Prop}{E:Nat->Z->Prop}
theorem x72(h:T[f]?=some (.code ps ns b))(hl:l.length=ps)(hn:ps<=ns):W (b50 T (k + 3) f l) z Q E↔WS (T20 T (k + 2)) z.isNone b (start ns (l.map plS)) z (λo z1=>match o with
  |.nx _=>Q (.d .non) (N00 z z1)
  |.rt s=>Q s (N00 z z1)) λc z1=>E c (N00 z z1):=by
 refine Iff.trans ?_ I50.symm;rw[Y90,h];show W (λz=>if l.length=ps/\ps<=ns then(match ex (T20 T (k + 2)) z.isNone b (start ns (l.map plS)) z with
  |some (.ok (.nx _) z1)=>some (R.ok (S.d .non) (N00 z z1))|some (.ok (.rt s) z1)=>some (.ok s (N00 z z1))|some (.er c z1)=>some (.er c (N00 z z1))
  |none=>none) else none) z Q E↔_
 rw[W_e,W_e];constructor
 ·rintro ⟨r,e,q⟩;rw[if_pos ⟨hl,hn⟩] at e;split at e
  ·rename_i ρ z1 e1;cases e;exact⟨_,e1,q⟩
  ·rename_i s z1 e1;cases e;exact⟨_,e1,q⟩
  ·rename_i c z1 e1;cases e;exact⟨_,e1,q⟩
  ·cases e
 ·rintro ⟨r,e,q⟩;rw[if_pos ⟨hl,hn⟩,e]
  match r,q with
  |.ok (.nx ρ) z1,q=>exact⟨_,rfl,q⟩|.ok (.rt s) z1,q=>exact⟨_,rfl,q⟩|.er c z1,q=>exact⟨_,rfl,q⟩
end
section
variable {F:FT}{tp:Bool}{ρ:Env}{z:Z}{E:Nat->Z->Prop}
theorem b01{f:D->M (Option D)}{o:D->Option D}:∀ {xs:List D}{Q:List D->Z->Prop},(∀ x∈xs,f x z=some (.ok (o x) z))->(W (turns f xs) z Q E↔Q (xs.filterMap o) z)
 |[],Q,_=>H20
 |x::r,Q,h=>by
  show W (M.bind (f x) _) z Q E↔_;rw[s10,P22 (h x Ì),s10,b01 λy hy=>h y (Ë _ hy),H20];rw[Á4];cases o x <;> rfl
theorem h51{f:D->M (Option D)}{I:Z->Prop}{P:D->D->Prop}:∀ {xs:List D}{z:Z}{Q:List D->Z->Prop},I z->(∀ x∈xs,∀ z,I z->W (f x) z (λo z1=>I z1/\∃ y,o=some y/\P x y) NE)->(∀ ys z1,I z1->À5 P xs ys->Q ys z1)->W (turns f xs) z Q E
 |[],z,Q,hi,_,q=>H20.mpr (q [] z hi .nil)
 |x::r,z,Q,hi,h,q=>by
  show W (M.bind (f x) _) z Q E;rw[s10];refine(h x Ì z hi).imp λo z1 ⟨hi1,y,e,hp⟩=>?_;subst e;rw[s10];refine h51 hi1 (λx' hx'=>h x' (Ë _ hx')) λys z2 hi2 hps=>?_;exact H20.mpr (q _ _ hi2 (.cons hp hps))
theorem U71(I:List D->Env->Z->Prop):∀ (xs:List D) {ρ:Env}{z:Z},I xs ρ z->(∀ x r ρ z,I (x::r) ρ z->W (f x ρ) z (λo z1=>match o with
  |.nx ρ=>I r ρ z1
  |.rt s=>Q (.rt s) z1) E)->(∀ ρ z,I [] ρ z->Q (.nx ρ) z)->W (X40 f xs ρ) z Q E
 |[],ρ,z,hi,_,q=>H20.mpr (q _ _ hi)
 |x::r,ρ,z,hi,h,q=>by
  show W (M.bind (f x ρ) _) z Q E;rw[s10];refine(h x r ρ z hi).mono (λo z1 ho=>?_) λ_ _ h=>h;cases o with
  |nx ρ1=>exact U71 I r ho h q|rt s=>exact H20.mpr ho
end
mutual
noncomputable def cE:D->Ex
 |.tup l=>.tup (cEs l)|.lst l=>.lst (cEs l)|.int i=>if i < 0 then .neg (.con (.int (-i))) else .con (.int i)|x=>.con x
noncomputable def cEs:List D->Ex
 |[]=>.nil|x::r=>.cons (cE x) (cEs r)
end
mutual
noncomputable def okC:D->Bool
 |.tup l=>decide (l.length<=most)&&L62 l|.lst l=>decide (l.length<=most)&&L62 l|_=>true
noncomputable def L62:List D->Bool
 |[]=>true|x::r=>okC x&&L62 r
end
def cX(d:D)(_:okC d=true):Ex:=cE d
section
variable {F:FT}{ρ:Env}{z:Z}{Q:List S->Z->Prop}{E:Nat->Z->Prop}{a b c as:Ex}{p:Pat}{ρ0:Env}{x:D}{Q1:Option D->Z->Prop}
def B71:W (r50 (ev F .nil) (ev F a) p ρ0 x) z Q1 E↔Get (f30 p x ρ0) λρ=>WE F a ρ z (λy z1=>Get (pl y) λd=>Q1 (some d) z1) E:=
 (wG λρ=>show _↔W (M.bind (ev F a ρ) λy=>M.bind (M.of (pl y)) λy=>M.ret (some y)) z Q1 E from wB c60 λy z1=>wG λd=>wR).symm
theorem x82{l:List S}{m:M (List S)}{V:Prop}(h:V↔W (M.bind m λy=>M.bind (M.of (pl y)) λy=>M.ret (some y)) z Q1 E):(match l with | [s]=>Get (blS s) λb=>if b then V else Q1 none z | _=>l=[]/\V)↔W (match l with
  |[]=>M.bind m λy=>M.bind (M.of (pl y)) λy=>M.ret (some y)|[.d (.bl true)]=>M.bind m λy=>M.bind (M.of (pl y)) λy=>M.ret (some y)|[.d (.bl false)]=>M.ret none
  |_=>M.no) z Q1 E:=by
 match l with
 |[]=>exact⟨λx=>h.mp x.2,λx=>⟨rfl,h.mpr x⟩⟩|[.d (.bl true)]=>exact x32.trans ((iff_of_eq (if_pos rfl)).trans h)|[.d (.bl false)]=>exact x32.trans ((iff_of_eq (if_neg Ï)).trans wR)|[.d .non]=>exact wN|[.d (.int _)]=>exact wN|[.d (.str _)]=>exact wN|[.d (.tup _)]=>exact wN|[.d (.lst _)]=>exact wN|[.d .dct]=>exact wN|[.fr _]=>exact wN|[.z]=>exact wN|[.ks _]=>exact wN
 |s::_::_ =>
  refine⟨λx=>(by cases x.1),λx=>?_⟩
  cases s with
  |d y =>
   cases y with
   |bl b=>cases b <;> exact(x42.mp x).elim
   |_=>exact(x42.mp x).elim
  |_=>exact(x42.mp x).elim
theorem B81:W (r50 (ev F (.cons c .nil)) (ev F a) p ρ0 x) z Q1 E↔Get (f30 p x ρ0) λρ=>WE F c ρ z (λy z1=>Get (one y) λs=>Get (blS s) λb=>if b then WE F a ρ z1 (λy z2=>Get (pl y) λd=>Q1 (some d) z2) E else Q1 none z1) E:=by
 refine Iff.symm (wG λρ=>?_);refine wB (c60 (F:=F) (e:=.cons c .nil) (ρ:=ρ) (Q:=λl z1=>match l with | [s]=>Get (blS s) λb=>if b then WE F a ρ z1 (λy z2=>Get (pl y) λd=>Q1 (some d) z2) E else Q1 none z1 | _=>l=[]/\WE F a ρ z1 (λy z2=>Get (pl y) λd=>Q1 (some d) z2) E)) λl z1=>?_
 exact x82 (wB c60 λy z1=>wG λd=>wR)
end
section
variable {α:Type}{m:M α}{z z1:Z}{Q Q':α->Z->Prop}{E:Nat->Z->Prop}
def Wo(h:m z=some (.ok a z1))(q:Q a z1):W m z Q E:=⟨_,h,q⟩
def We(h:m z=some (.er c z1))(q:E c z1):W m z Q E:=⟨_,h,q⟩
end
def i80{T:List Df}{k f ps ns:Nat}{b:Sm}{l:List S}{z:Z}{Q:S->Z->Prop}{E:Nat->Z->Prop}(h:T[f]?=some (.code ps ns b))(hl:l.length=ps)(hn:ps<=ns)(q:WS (T20 T (k + 2)) z.isNone b (start ns (l.map plS)) z (λo z1=>match o with
  |.nx _=>Q (.d .non) (N00 z z1)
  |.rt s=>Q s (N00 z z1)) λc z1=>E c (N00 z z1)):W (b50 T (k + 3) f l) z Q E:=(x72 h hl hn).mpr q
theorem ib{b:Bool}{A B:Prop}(ht:b=true->A)(hf:b=false->B):if b=true then A else B:=by
 cases b with
 |true=>exact ht rfl|false=>exact hf rfl
theorem it{b:Bool}{A B:Prop}(h:b=true)(a:A):if b=true then A else B:=by rw[if_pos h];exact a
theorem ie{b:Bool}{A B:Prop}(h:b=false)(a:B):if b=true then A else B:=by rw[h];exact a
theorem ip{c:Prop}[Decidable c]{A B:Prop}(h:c)(a:A):if c then A else B:=by rw[if_pos h];exact a
theorem d20(z:Z):N00 z z=z:=by cases z <;> rfl
def sd{s t:S}{z:Z}(h:s=t):s=t/\N00 z z=z:=⟨h,d20 z⟩
def sb(h:b=c):S.d (.bl b)=S.d (.bl c)/\N00 z z=z:=sd (by rw[h])
section
variable {F:FT}{tp:Bool}{z:Z}{E:Nat->Z->Prop}{p:Pat}
theorem O40(I:List D->Env->Z->Prop)(xs:List D)(hi:I xs ρ z)(h:∀ x r ρ z,I (x::r) ρ z->Get (f30 p x ρ) λρ=>WS F tp b ρ z (λo z1=>match o with
  |.nx ρ=>I r ρ z1
  |.rt s=>Q (.rt s) z1) E) (q:∀ ρ z,I [] ρ z->Q (.nx ρ) z):W (X40 (λx ρ=>M.bind (M.of (f30 p x ρ)) λρ=>ex F tp b ρ) xs ρ) z Q E:=
 U71 I xs hi (λx r ρ z hi=>(wG λρ=>I50).mp (h x r ρ z hi)) q
variable {ρ0:Env}{cond el:Ex}{xs:List D}{Q:List D->Z->Prop}
theorem p01(o:D->D)(h:∀ x∈xs,Get (f30 p x ρ0) λρ=>WE F el ρ z (λy z1=>Get (pl y) λd=>d=o x/\z1=z) NE)(q:Q (xs.map o) z):W (turns (r50 (ev F .nil) (ev F el) p ρ0) xs) z Q E:=by
 refine(b01 (o:=λx=>some (o x)) λx hx=>?_).mpr ?_
 ·refine W.ok (B71.mpr ?_);obtain⟨ρ,e,h⟩:=m00 (h x hx);refine a00 e (c60.mpr ((c60.mp h).imp λy z1 h=>?_));obtain⟨d,e,rfl,rfl⟩:=m00 h;exact a00 e ⟨rfl,rfl⟩
 ·rw[show xs.filterMap (λx=>some (o x))=xs.map o from congrFun (List.filterMap_eq_map (f:=o)) xs];exact q
theorem L72{c:D->Bool}{o:D->D}:∀ xs:List D,xs.filterMap (λx=>if c x then some (o x) else none)=(xs.filter c).map o
 |[]=>rfl
 |x::r=>by
  rw[Á4,Í8];cases hc:c x with
  |false=>exact L72 r|true=>exact congrArg (o x::·) (L72 r)
theorem h61(c:D->Bool)(o:D->D)(h:∀ x∈xs,Get (f30 p x ρ0) λρ=>WE F cond ρ z (λy z1=>Get (one y) λs=>s=.d (.bl (c x))/\z1=z/\(c x=true->WE F el ρ z (λy z1=>Get (pl y) λd=>d=o x/\z1=z) NE)) NE)(q:Q ((xs.filter c).map o) z):W (turns (r50 (ev F (.cons cond .nil)) (ev F el) p ρ0) xs) z Q E:=by
 refine(b01 (o:=λx=>if c x then some (o x) else none) λx hx=>?_).mpr ?_
 ·refine W.ok (B81.mpr ?_);obtain⟨ρ,e,h⟩:=m00 (h x hx);refine a00 e (c60.mpr ((c60.mp h).imp λy z1 h=>?_));obtain⟨s,e,rfl,rfl,h⟩:=m00 h;refine a00 e ?_;show if c x=true then _ else _;cases hc:c x with
  |false=>exact⟨rfl,rfl⟩
  |true =>
   refine c60.mpr ((c60.mp (h hc)).imp λy z1 h=>?_);obtain⟨d,e,rfl,rfl⟩:=m00 h;exact a00 e ⟨rfl,rfl⟩
 ·rw[L72];exact q
theorem x92{I:Z->Prop}(o:D->D):∀ {xs:List D}{z:Z}{Q:List D->Z->Prop},I z->(∀ x∈xs,∀ z,I z->Get (f30 p x ρ0) λρ=>WE F cond ρ z (λy z1=>Get (one y) λs=>I z1/\∃ b,s=.d (.bl b)/\(b=true->WE F el ρ z1 (λy z2=>Get (pl y) λd=>d=o x/\z2=z1) NE)) NE) ->
  (∀ ys z1,I z1->ys.Sublist (xs.map o)->Q ys z1)->W (turns (r50 (ev F (.cons cond .nil)) (ev F el) p ρ0) xs) z Q E
 |[],z,Q,hi,_,q=>H20.mpr (q [] z hi .slnil)
 |x::r,z,Q,hi,h,q=>by
  show W (M.bind (r50 _ _ p ρ0 x) _) z Q E;refine s10.mpr (B81.mpr ?_);obtain⟨ρ,e,h0⟩:=m00 (h x Ì z hi);refine a00 e (c60.mpr ((c60.mp h0).imp λy z1 h1=>?_));obtain⟨s,e,hi1,b,rfl,h2⟩:=m00 h1;refine a00 e ?_;show if b=true then _ else _;have hr:=λ{Q:List D->Z->Prop} (q:∀ ys z1,I z1->ys.Sublist (r.map o)->Q ys z1)=>x92 o (z:=z1) hi1 (λy hy=>h y (Ë _ hy)) q;cases b with
  |false=>exact s10.mpr (hr λys z2 hi2 hs=>H20.mpr (q ys z2 hi2 (hs.cons _)))
  |true =>
   refine c60.mpr ((c60.mp (h2 rfl)).imp λy z2 h3=>?_);obtain⟨d,e,rfl,rfl⟩:=m00 h3;exact a00 e (s10.mpr (hr λys z2 hi2 hs=>H20.mpr (q _ z2 hi2 (hs.cons_cons _))))
theorem Y72{I:Z->Prop}{P:D->D->Prop}(hi:I z)(h:∀ x∈xs,∀ z,I z->Get (f30 p x ρ0) λρ=>WE F el ρ z (λy z1=>Get (pl y) λd=>I z1/\P x d) NE)(q:∀ ys z1,I z1->À5 P xs ys->Q ys z1):W (turns (r50 (ev F .nil) (ev F el) p ρ0) xs) z Q E:=by
 refine h51 hi (λx hx z hz=>B71.mpr ?_) q;obtain⟨ρ,e,h⟩:=m00 (h x hx z hz);refine a00 e (c60.mpr ((c60.mp h).imp λy z1 h=>?_));obtain⟨d,e,h⟩:=m00 h;exact a00 e ⟨h.1,d,rfl,h.2⟩
end
theorem U81{s:S}{ρ:Env}(h:H00 s=true):j40 s ρ=ρ:=by
 unfold j40;rw[S90,h];rfl
theorem O81{F:FT}{tp:Bool}{p:Pat}{e:Ex}{r:Sm}{ρ:Env}{z:Z}{Q:O->Z->Prop}{E:Nat->Z->Prop}(s:S)(ρ':Env)(he:WE F e ρ z (λl z1=>Get (one l) λt=>t=s/\z1=z) NE)(hb:A90 p s (j40 s ρ)=some ρ')(q:WS F tp r ρ' z Q E):WS F tp (.seq (.set p e) r) ρ z Q E:=by
 show WE F e ρ z (λl z1=>Get (one l) λs=>Get (A90 p s (j40 s ρ)) λρ'=>WX F tp r ρ' z1 Q E) E;refine c60.mpr ((c60.mp he).imp λl z1 h=>?_);obtain⟨t,e,rfl,rfl⟩:=m00 h;exact a00 e (a00 hb q)
end Q
namespace K3
open PySem L2 Q
def top(i:Nat):Stmt:=õ.main.body.getD i (.Pass ⟨0,0,0,0⟩)
def nums:List (Str × Int):=[(("MOST_PLACES":Str),(6:Int)),(("MOST_TIES":Str),(8:Int))]
abbrev v0:Ex:=.var 0
abbrev v1:Ex:=.var 1
abbrev v2:Ex:=.var 2
abbrev v3:Ex:=.var 3
abbrev v4:Ex:=.var 4
abbrev v5:Ex:=.var 5
abbrev v6:Ex:=.var 6
abbrev v7:Ex:=.var 7
abbrev v8:Ex:=.var 8
abbrev v11:Ex:=.var 11
abbrev n0:Ex:=.con (.int 0)
abbrev n1:Ex:=.con (.int 1)
abbrev n2:Ex:=.con (.int 2)
abbrev c1(a:Ex):Ex:=.cons a .nil
abbrev c2(a b:Ex):Ex:=.cons a (.cons b .nil)
abbrev c3(a b c:Ex):Ex:=.cons a (.cons b (.cons c .nil))
abbrev c4(a b c d:Ex):Ex:=.cons a (.cons b (.cons c (.cons d .nil)))
abbrev c5(a b c d e:Ex):Ex:=.cons a (.cons b (.cons c (.cons d (.cons e .nil))))
abbrev s1(a:Sm):Sm:=.seq a .nil
abbrev p2(a b:Pat):Pat:=.tup (.cons a (.cons b .nil))
abbrev x40:Nat:=0
abbrev q90:Nat:=1
abbrev h71:Nat:=2
abbrev I60:Nat:=3
abbrev h81:Nat:=4
abbrev B91:Nat:=5
abbrev m20:Nat:=6
abbrev m60:Nat:=7
abbrev g60:Nat:=8
abbrev I70:Nat:=9
abbrev p20:Nat:=10
abbrev x50:Nat:=11
abbrev z20:Nat:=12
abbrev s20:Nat:=13
abbrev x60:Nat:=14
abbrev h91:Nat:=15
abbrev e30:Nat:=16
abbrev e40:Nat:=17
abbrev z30:Nat:=18
abbrev e50:Nat:=19
abbrev s30:Nat:=20
abbrev z40:Nat:=21
abbrev b40:Nat:=22
abbrev I80:Nat:=23
abbrev v70:Nat:=24
abbrev F60:Nat:=25
abbrev t00:Nat:=26
abbrev m70:Nat:=27
abbrev p30:Nat:=28
abbrev z50:Nat:=29
abbrev m80:Nat:=30
abbrev k50:Nat:=31
abbrev s40:Nat:=32
abbrev g20:Nat:=33
abbrev F70:Nat:=34
abbrev y02:Nat:=35
def I90:Sm:=(s1 (.ret (.and (.isi .int v0) (.not (.isi .bool v0)))))
def x70:Sm:=(s1 (.ret (.and (.call x40 (c1 v0)) (.ch .le .lt n0 v0 v1))))
def O50:Sm:=(.seq (.iff (.or (.not (.isi .tuple v0)) (.cmp .ne (.bf .len (c1 v0)) n2)) (s1 (.ret (.con (.bl false)))) .nil) (.seq (.set (p2 (.v 2) (.v 3)) v0) (s1 (.ret (.and (.call q90 (c2 v2 v1)) (.and (.call q90 (c2 v3 v1)) (.cmp .lt v2 v3)))))))
def x80:Sm:=(.seq (.iff (.or (.not (.isi .tuple v0)) (.cmp .gt (.bf .len (c1 v0)) (.gint "MOST_TIES" 8))) (s1 (.ret (.con (.bl false)))) .nil) (.seq (.iff (.not (.bf .all (c1 (.comp 1 [1] (.v 0) .seq (c1 v0) .nil (.call h71 (c2 v0 v1)))))) (s1 (.ret (.con (.bl false)))) .nil) (s1 (.ret (.bf .all (c1 (.comp 2 [] (p2 (.v 0) (.v 1)) .zip (c2 v0 (.sl v0 (c1 n1) .nil)) .nil (.cmp .le v0 v1))))))))
def O60:Sm:=(.seq (.iff (.or (.not (.isi .tuple v0)) (.cmp .ne (.bf .len (c1 v0)) n2)) (s1 (.ret (.con (.bl false)))) .nil) (.seq (.set (p2 (.v 1) (.v 2)) v0) (s1 (.ret (.and (.call x40 (c1 v1)) (.and (.ch .le .le n1 v1 (.gint "MOST_PLACES" 6)) (.call I60 (c2 v2 v1))))))))
def b11:Sm:=(s1 (.ret (.bf .all (c1 (.comp 2 [] (p2 (.v 0) (.v 1)) .zip (c2 v0 (.sl v0 (c1 n1) .nil)) .nil (.cmp .lt v0 v1))))))
def g30:Sm:=(.seq (.iff (.not (.isi .tuple v0)) (s1 (.ret (.con (.bl false)))) .nil) (s1 (.ret (.and (.bf .all (c1 (.comp 1 [1] (.v 0) .seq (c1 v0) .nil (.call q90 (c2 v0 v1))))) (.call B91 (c1 v0))))))
def m90:Sm:=(s1 (.iff (.not (.call h81 (c1 v0))) (s1 (.rais 0)) .nil))
def g70:Sm:=(s1 (.iff (.or (.not (.call m20 (c2 v1 (.idx v0 n0)))) (.cmp .eq (.bf .len (c1 v1)) n0)) (s1 (.rais 2)) .nil))
def x90:Sm:=(.seq (.set (p2 (.v 2) (.v 3)) v0) (.seq (.set (.v 4) (.lrng false (c1 v2))) (.seq (.fr (.v 5) .seq (c1 v1) (.seq (.set (p2 (.v 6) (.v 7)) (.idx v3 v5)) (.seq (.set (.v 8) (.idx v4 v6)) (.seq (.set (.v 9) (.idx v4 v7)) (s1 (.set (.v 4) (.comp 1 [8,9] (.v 0) .seq (c1 v4) .nil (.ite (.cmp .eq v0 v2) v1 v0)))))))) (s1 (.ret v4)))))
def p40:Sm:=(.seq (.set (.v 3) (.call I70 (c2 v0 v1))) (s1 (.ret (.bf .all (c1 (.comp 1 [2,3] (.v 0) .seq (c1 v2) .nil (.cmp .eq (.idx v2 v0) (.idx v2 (.idx v1 n0)))))))))
def r00:Sm:=(.seq (.set (.v 1) (cX (.lst [(.tup [])]) 1e1)) (.seq (.fr (.v 2) .rng1 (c1 (.bf .len (c1 (.idx v0 n1)))) (s1 (.set (.v 1) (.bin .add v1 (.comp 1 [2] (.v 0) .seq (c1 v1) .nil (.bin .add v0 (.tup (c1 v1)))))))) (s1 (.ret (.bf .sorted (c1 v1))))))
def p50:Sm:=(s1 (.ret (.bf .tuple (c1 (.comp 1 [1] (.v 0) .rng1 (c1 (.bf .len (c1 (.idx v0 n1)))) (c1 (.cmp .nmem v0 v1)) v0)))))
def l20:Sm:=(s1 (.ret (.comp 1 [0] (.v 0) .rng1 (c1 (.bf .len (c1 v0))) .nil (.bin .add (.sl v1 .nil (c1 v0)) (.sl v1 (c1 (.bin .add v0 n1)) .nil)))))
def y00:Sm:=(.seq (.set (.v 1) (.dkeys v0)) (s1 (.ret (.comp 1 [1] (.v 0) .seq (c1 v0) (c1 (.not (.bf .any (c1 (.comp 1 [1] (.v 0) .seq (c1 (.call s20 (c1 v0))) .nil (.memk true v0 1)))))) v0))))
def O70:Sm:=(s1 (.ret (.not (.call p20 (c3 v0 (.call z20 (c2 v0 v1)) v2)))))
def j70:Sm:=(.seq (.exp (.call m60 (c1 v0))) (.seq (.exp (.call g60 (c2 v0 v1))) (s1 (.ret (.comp 1 [0,1] (.v 0) .seq (c1 (.call x50 (c1 v0))) (c1 (.call p20 (c3 v1 v0 v2))) v0)))))
def h00:Sm:=(s1 (.ret (.call x60 (c1 (.call e30 (c2 v0 v1))))))
def V10:Sm:=(.seq (.exp (.call m60 (c1 v0))) (.seq (.exp (.call g60 (c2 v0 v1))) (s1 (.ret (.comp 1 [0,1] (.v 0) .seq (c1 (.call x50 (c1 v0))) (c1 (.call h91 (c3 v1 v0 v2))) v0)))))
def h20:Sm:=(s1 (.ret (.call x60 (c1 (.call z30 (c2 v0 v1))))))
def g80:Sm:=(.seq (.iff (.cmp .lt v1 (.bf .len (c1 v0))) (s1 (.ret (.idx v0 v1))) .nil) (s1 (.ret n0)))
def k60:Sm:=(.seq (.set (.v 2) (.call s30 (c2 v0 v1))) (.seq (.iff (.cmp .ge v2 (.bin .pow (.con (.int 10)) (.con (.int 18)))) (s1 (.ret (.lst (c2 (.bin .sub v2 (.bin .pow (.con (.int 10)) (.con (.int 18)))) (.con (.bl true)))))) .nil) (s1 (.ret (.lst (c2 (.bin .mod v2 (.con (.int 2147483647))) (.con (.bl false))))))))
def t10:Sm:=(.seq (.iff (.zget 0 1) (.seq (.set (.v 2) (.bin .mod (.zget 0 0) v1)) (.seq (.zset 0 (.bin .fdiv (.zget 0 0) v1)) (s1 (.ret v2)))) .nil) (.seq (.zset 0 (.bin .mod (.bin .add (.bin .mul (.zget 0 0) (.con (.int 48271))) (.con (.int 29))) (.con (.int 2147483647)))) (.seq (.set (.v 3) (.bin .mod (.bin .add (.bin .add (.bin .mul (.zget 0 0) (.zget 0 0)) (.bin .mul (.con (.int 39373)) (.zget 0 0))) (.con (.int 7))) (.con (.int 2147483629)))) (.seq (.set (.v 3) (.bin .mod (.bin .add (.bin .mul v3 v3) (.bin .mul (.con (.int 16807)) v3)) (.con (.int 2147483587)))) (s1 (.ret (.bin .mod (.bin .fdiv v3 (.con (.int 8))) v1)))))))
def y10:Sm:=(.seq (.set (.v 2) (.idx (cX (.lst [(.int 6),(.int 5),(.int 4),(.int 3),(.int 4),(.int 5),(.int 2),(.int 1)]) 1e1) (.call b40 (c2 v0 (.con (.int 8)))))) (.seq (.set (.v 3) (.lst .nil)) (.seq (.iff (.and (.cmp .gt v2 n1) (.cmp .gt (.call b40 (c2 v0 (.con (.int 5)))) n0)) (s1 (.set (.v 3) (.comp 1 [0] (.v 0) .rng2 (c2 n1 v2) .nil (.tup (c2 (.call b40 (c2 v1 v0)) v0))))) .nil) (.seq (.fr (.v 4) .rng1 (c1 (.bin .mul (.call b40 (c2 v0 (.bin .add v1 n1))) (.bf .int (c1 (.cmp .gt v2 n1))))) (.seq (.set (.v 5) (.call b40 (c2 v0 v2))) (.seq (.set (.v 6) (.bin .mod (.bin .add (.bin .add v5 n1) (.call b40 (c2 v0 (.bin .sub v2 n1)))) v2)) (s1 (.app 3 (.tup (c2 (.bf .min (c2 v5 v6)) (.bf .max (c2 v5 v6))))))))) (s1 (.ret (.tup (c2 v2 (.bf .tuple (c1 (.bf .sorted (c1 (.sl v3 .nil (c1 v1))))))))))))))
def n00:Sm:=(.seq (.set (.v 2) (.call b40 (c2 v0 (.con (.int 4))))) (.seq (.iff (.or (.cmp .lt v2 n2) (.cmp .eq (.idx v1 n0) n1)) (s1 (.ret (.lrng true (c1 (.idx v1 n0))))) .nil) (.seq (.iff (.cmp .eq v2 n2) (.seq (.set (.v 3) (.call b40 (c2 v0 (.idx v1 n0)))) (s1 (.ret (.bf .tuple (c1 (.bf .sorted (c1 (.lst (c2 v3 (.bin .mod (.bin .add (.bin .add v3 n1) (.call b40 (c2 v0 (.bin .sub (.idx v1 n0) n1)))) (.idx v1 n0))))))))))) .nil) (s1 (.ret (.orT (.bf .tuple (c1 (.comp 1 [0] (.v 0) .rng1 (c1 (.idx v1 n0)) (c1 (.cmp .eq (.call b40 (c2 v1 n2)) n1)) v0))) (.tup (c1 (.bin .sub (.idx v1 n0) n1)))))))))
def t20:Sm:=(.seq (.set (.v 3) (.lst (c1 v2))) (.seq (.fr (.v 4) .rng1 (c1 (.idx v0 n0)) (s1 (.fr (.v 5) .seq (c1 v1) (.seq (.set (p2 (.v 6) (.v 7)) (.idx (.idx v0 n1) v5)) (.seq (.iff (.and (.cmp .mem v6 v3) (.cmp .nmem v7 v3)) (s1 (.set (.v 3) (.bin .add v3 (.lst (c1 v7))))) .nil) (s1 (.iff (.and (.cmp .mem v7 v3) (.cmp .nmem v6 v3)) (s1 (.set (.v 3) (.bin .add v3 (.lst (c1 v6))))) .nil))))))) (s1 (.ret (.bf .tuple (c1 (.bf .sorted (c1 v3))))))))
def t30:Sm:=(.seq (.set (.v 3) (.call F60 (c3 v0 v1 (.idx v2 n0)))) (s1 (.ret (.cmp .eq (.comp 1 [3] (.v 0) .seq (c1 v2) (c1 (.cmp .nmem v0 v1)) v0) (.lst .nil)))))
def F80:Sm:=(.seq (.set (.v 1) (cX (.lst [(.tup [])]) 1e1)) (.seq (.fr (.v 2) .rng1 (c1 (.bf .len (c1 (.idx v0 n1)))) (s1 (.set (.v 1) (.bin .add v1 (.comp 1 [2] (.v 0) .seq (c1 v1) .nil (.bin .add v0 (.tup (c1 v1)))))))) (s1 (.ret (.bf .sorted (c1 v1))))))
def p60:Sm:=(.seq (.set (.v 1) (.lst .nil)) (.seq (.fr (.v 2) .seq (c1 v0) (.seq (.set (.v 3) (.comp 1 [2] (.v 0) .seq (c1 v0) (c1 (.and (.cmp .ne v0 v1) (.cmp .eq (.comp 1 [1] (.v 0) .seq (c1 v0) (c1 (.cmp .nmem v0 v1)) v0) (.lst .nil)))) v0)) (s1 (.iff (.cmp .eq v3 (.lst .nil)) (s1 (.app 1 v2)) .nil)))) (s1 (.ret v1))))
def p70:Sm:=(s1 (.ret (.and (.isi .int v0) (.not (.isi .bool v0)))))
def e60:Sm:=(.seq (.iff (.or (.not (.isi .tuple v1)) (.cmp .ne (.comp 1 [] (.v 0) .seq (c1 v1) (c1 (.not (.call z50 (c1 v0)))) v0) (.lst .nil))) (s1 (.ret (.con (.bl false)))) .nil) (.seq (.iff (.cmp .ne (.comp 1 [0] (.v 0) .seq (c1 v1) (c1 (.not (.ch .le .lt n0 v0 v1))) v0) (.lst .nil)) (s1 (.ret (.con (.bl false)))) .nil) (s1 (.ret (.cmp .eq (.bf .list (c1 v1)) (.bf .sset (c1 v1)))))))
def f80:Sm:=(.seq (.set (.v 3) (.call b40 (c2 v0 (.bin .add (.bf .len (c1 v2)) n1)))) (.seq (.set (.v 4) (.idx (.lst (.cons (.call b40 (c2 v0 (.bin .add v1 n1))) (.cons v1 (.cons (.neg n1) (.cons (.con (.bl true)) (.cons (.con .non) (c5 (.con (.str "0")) (cX (.tup [(.int 0)]) 1e1) (.con (.bl false)) (.bin .pow (.con (.int 10)) (.con (.int 29))) n0))))))) (.call b40 (c2 v0 (.con (.int 10)))))) (.seq (.set (.v 5) (.lst (c4 (.bin .add (.bin .add (.sl v2 .nil (c1 v3)) (.tup (c1 v4))) (.sl v2 (c1 v3) .nil)) (.bin .add (.bin .add (.sl v2 .nil (c1 v3)) (.tup (c1 v4))) (.sl v2 (c1 (.bin .add v3 n1)) .nil)) (.bin .add (.sl v2 .nil (c1 v3)) (.sl v2 (c1 (.bin .add v3 n1)) .nil)) (.bf .list (c1 v2))))) (s1 (.ret (.idx (.bin .add v5 (.lst (.cons (.rev v2) (.cons (.bin .add v2 (.sl v2 (c1 (.neg n1)) .nil)) (c5 (.con .non) (.con .dct) n0 (.tup (c1 v2)) (.tup .nil)))))) (.call b40 (c2 v0 (.con (.int 11))))))))))
def l30:Sm:=(.seq (.set (.v 1) (cX (.lst [.non,(.int 0),(.tup []),(.tup [(.int 7),(.tup [])]),(.tup [(.int 0),(.tup [])]),(.tup [(.int (-1)),(.tup [])]),(.tup [(.bl true),(.tup [])]),(.tup [(.int 2),(.lst [])]),(.lst [(.int 2),(.tup [])]),(.tup [(.int 2),(.tup [(.tup [(.int 1),(.int 0)])])]),(.tup [(.int 2),(.tup [(.tup [(.int 0),(.int 0)])])]),.dct]) 1e1)) (.seq (.set (.v 1) (.bin .add v1 (.lst (c5 (.tup (c2 n2 (.bin .mul (cX (.tup [(.tup [(.int 0),(.int 1)])]) 1e1) (.con (.int 9))))) (cX (.tup [(.int 3),(.tup [(.tup [(.int 0),(.int 2)]),(.tup [(.int 0),(.int 1)])])]) 1e1) (cX (.tup [(.int 2),(.tup [(.tup [(.int 0),(.int 2)])])]) 1e1) (cX (.tup [(.int 2),(.tup [(.tup [(.int 0),(.bl true)])])]) 1e1) (cX (.tup [(.int 2),(.tup [(.tup [(.int 0),(.int 1),(.int 1)])])]) 1e1))))) (.seq (.set (.v 1) (.bin .add v1 (cX (.lst [(.tup [(.int 2),(.tup [(.int 0),(.int 1)])]),(.tup [(.int 2),.non]),(.tup [(.int 2),(.tup []),(.tup [])]),(.tup [(.int 2)]),(.tup [(.int 2),(.tup [(.lst [(.int 0),(.int 1)])])]),(.tup [(.int 2),(.tup [.non])]),(.tup [(.str "2"),(.tup [])]),(.str "2:")]) 1e1))) (s1 (.ret (.idx v1 (.call b40 (c2 v0 (.con (.int 25))))))))))
def g40:Sm:=(.seq (.iff (.isi .seq v1) (.seq (.iff (.or (.cmp .ne (.isi .tuple v0) (.isi .tuple v1)) (.cmp .ne (.isi .list v0) (.isi .list v1))) (s1 (.ret (.con (.bl false)))) .nil) (.seq (.iff (.cmp .ne (.bf .len (c1 v0)) (.bf .len (c1 v1))) (s1 (.ret (.con (.bl false)))) .nil) (s1 (.ret (.bf .all (c1 (.comp 2 [] (p2 (.v 0) (.v 1)) .zip (c2 v0 v1) .nil (.call g20 (c2 v0 v1))))))))) .nil) (s1 (.ret (.and (.cmp .eq v0 v1) (.cmp .eq (.isi .bool v0) (.isi .bool v1))))))
def t40:Sm:=(.seq (.set (.v 2) (.lst .nil)) (.seq (.fr (.v 3) .seq (c1 (.call m70 (c1 v0))) (.seq (.set (.v 4) (.bf .tuple (c1 (.comp 1 [3] (.v 0) .rng1 (c1 (.bf .len (c1 (.idx v0 n1)))) (c1 (.cmp .nmem v0 v1)) v0)))) (s1 (.iff (.not (.call t00 (c3 v0 v4 v1))) (s1 (.app 2 v3)) .nil)))) (s1 (.ret v2))))
def O91:Sm:=(.seq (.fr (.v 1) .rng1 (c1 (.bf .max (c2 n1 (.bf .min (c2 (.bf .len (c1 v0)) (.con (.int 3))))))) (.seq (.newz 2 z40 (c2 v0 v1)) (.seq (.set (.v 3) (.call I80 (c2 v2 (.idx (.lst (c2 (.con (.int 7)) (.bin .add (.con (.int 7)) (.bf .int (c1 (.cmp .eq v1 n0)))))) (.call b40 (c2 v2 n2)))))) (.seq (.set (.v 4) (.call v70 (c2 v2 v3))) (.seq (.set (.v 5) (.comp 1 [3,4] (.v 0) .seq (c1 (.call m70 (c1 v3))) (c1 (.call t00 (c3 v1 v0 v2))) v0)) (.seq (.set (.v 6) (.call F70 (c2 v3 v4))) (.seq (.set (.v 5) (.lst (c4 v5 (.call p30 (c1 v5)) v6 (.call p30 (c1 v6))))) (.seq (.fr (.v 7) .rng1 (c1 n2) (.four 8 9 (c4 (.call e30 (c2 v3 v4)) (.call e40 (c2 v3 v4)) (.call z30 (c2 v3 v4)) (.call e50 (c2 v3 v4))) (.not (.call g20 (c2 v8 v5))) (s1 (.ret (.con (.bl false)))))) (.seq (.set (p2 (.v 10) (.v 11)) (.tup (c2 (.call s40 (c1 v2)) (.call k50 (c3 v2 (.idx v3 n0) v4))))) (.lams 12 [([3,11] ,(.call e30 (c2 v0 v1))),([3,11] ,(.call e40 (c2 v0 v1))),([3,11] ,(.call z30 (c2 v0 v1))),([3,11] ,(.call e50 (c2 v0 v1)))] (some (13 ,(.or (.not (.call m80 (c2 (.idx v3 n0) v11))) (.cmp .eq v11 (.tup .nil))))) (.bin .mul (cX (.lst [(.lst [(.int 2)])]) 1e1) (.con (.int 4))) (s1 (.ret (.con (.bl false)))) (.lams 12 [([10,11] ,(.call e30 (c2 v0 v1))),([10,11] ,(.call e40 (c2 v0 v1))),([10,11] ,(.call z30 (c2 v0 v1))),([10,11] ,(.call e50 (c2 v0 v1)))] none (.bin .mul (cX (.lst [(.lst [(.int 0)])]) 1e1) (.con (.int 4))) (s1 (.ret (.con (.bl false)))) .nil))))))))))) (s1 (.ret (.con (.bl true)))))
def rows:List Row:=[(⟨"is_whole",["thing"],top 17,["thing"],I90,false⟩:Row),
 (⟨"is_below",["thing","many"],top 18,["thing","many"],x70,false⟩:Row),
 (⟨"is_tie",["thing","many"],top 19,["thing","many","a","b"],O50,false⟩:Row),
 (⟨"are_ties",["thing","many"],top 20,["thing","many"],x80,false⟩:Row),
 (⟨"is_web",["thing"],top 21,["thing","many","ties"],O60,false⟩:Row),
 (⟨"rises",["things"],top 22,["things"],b11,false⟩:Row),
 (⟨"is_rising_below",["thing","many"],top 23,["thing","many"],g30,false⟩:Row),
 (⟨"check_web",["thing"],top 24,["thing"],m90,false⟩:Row),
 (⟨"check_places",["web","thing"],top 25,["web","thing"],g70,false⟩:Row),
 (⟨"marks_by",["web","lot"],top 26,["web","lot","many","ties","marks","number","a","b","kept","gone"],x90,false⟩:Row),
 (⟨"are_joined",["web","lot","places"],top 27,["web","lot","places","marks"],p40,false⟩:Row),
 (⟨"all_lots",["web"],top 29,["web","lots","number"],r00,false⟩:Row),
 (⟨"other_ties",["web","lot"],top 30,["web","lot"],p50,false⟩:Row),
 (⟨"one_left_out",["lot"],top 31,["lot"],l20,false⟩:Row),
 (⟨"least_of",["lots"],top 32,["lots","known"],y00,false⟩:Row),
 (⟨"is_cut",["web","lot","places"],top 33,["web","lot","places"],O70,false⟩:Row),
 (⟨"good_lots",["web","places"],top 34,["web","places"],j70,false⟩:Row),
 (⟨"least_good",["web","places"],top 35,["web","places"],h00,false⟩:Row),
 (⟨"cuts",["web","places"],top 36,["web","places"],V10,false⟩:Row),
 (⟨"least_cuts",["web","places"],top 37,["web","places"],h20,false⟩:Row),
 (⟨"_law_cell_at",["_law_script","_law_k"],top 39,["_law_script","_law_k"],g80,false⟩:Row),
 (⟨"_law_state",["_law_script","_law_k"],top 40,["_law_script","_law_k","_law_cell"],k60,false⟩:Row),
 (⟨"_law_take",["_law_state_here","_law_many"],top 41,["_law_state_here","_law_many","_law_found","_law_stirred"],t10,false⟩:Row),
 (⟨"_law_web",["_law_state_here","_law_most"],top 42,["_law_state_here","_law_most","_law_many","_law_ties","_law_turn","_law_one","_law_other"],y10,false⟩:Row),
 (⟨"_law_places",["_law_state_here","_law_web_here"],top 43,["_law_state_here","_law_web_here","_law_way","_law_one"],n00,false⟩:Row),
 (⟨"_law_with",["_law_web_here","_law_lot","_law_place"],top 44,["_law_web_here","_law_lot","_law_place","_law_found","_law_turn","_law_number","_law_one","_law_other"],t20,false⟩:Row),
 (⟨"_law_good",["_law_web_here","_law_lot","_law_places_here"],top 45,["_law_web_here","_law_lot","_law_places_here","_law_here"],t30,false⟩:Row),
 (⟨"_law_lots",["_law_web_here"],top 46,["_law_web_here","_law_found","_law_number"],F80,false⟩:Row),
 (⟨"_law_least",["_law_lots_here"],top 47,["_law_lots_here","_law_found","_law_lot","_law_within"],p60,false⟩:Row),
 (⟨"_law_whole",["_law_thing"],top 48,["_law_thing"],p70,false⟩:Row),
 (⟨"_law_rising",["_law_many","_law_thing"],top 49,["_law_many","_law_thing"],e60,false⟩:Row),
 (⟨"_law_bent_rising",["_law_state_here","_law_many","_law_some"],top 50,["_law_state_here","_law_many","_law_some","_law_at","_law_odd","_law_found"],f80,false⟩:Row),
 (⟨"_law_bad_web",["_law_state_here"],top 51,["_law_state_here","_law_some"],l30,false⟩:Row),
 (⟨"_law_same",["_law_found","_law_due"],top 52,["_law_found","_law_due"],g40,false⟩:Row),
 (⟨"_law_cuts",["_law_web_here","_law_places_here"],top 54,["_law_web_here","_law_places_here","_law_found","_law_lot","_law_rest"],t40,false⟩:Row),
 (⟨"law",["_law_script"],top 55,["_law_script","_law_k","_law_state_here","_law_web_here","_law_places_here","_law_due","_law_gone","_law_lap","_law_found","_law_some","_law_bad","_law_odd","_law_calls","_law_none"],O91,true⟩:Row)]
def T:List Df:=[(Df.code 1 1 I90:Df),(Df.code 2 2 x70:Df),(Df.code 2 4 O50:Df),(Df.code 2 2 x80:Df),(Df.code 1 3 O60:Df),(Df.code 1 1 b11:Df),(Df.code 2 2 g30:Df),(Df.code 1 1 m90:Df),(Df.code 2 2 g70:Df),(Df.code 2 10 x90:Df),(Df.code 3 4 p40:Df),(Df.code 1 3 r00:Df),(Df.code 2 2 p50:Df),(Df.code 1 1 l20:Df),(Df.code 1 2 y00:Df),(Df.code 3 3 O70:Df),(Df.code 2 2 j70:Df),(Df.code 2 2 h00:Df),(Df.code 2 2 V10:Df),(Df.code 2 2 h20:Df),(Df.code 2 2 g80:Df),(Df.code 2 3 k60:Df),(Df.code 2 4 t10:Df),(Df.code 2 7 y10:Df),(Df.code 2 4 n00:Df),(Df.code 3 8 t20:Df),(Df.code 3 4 t30:Df),(Df.code 1 3 F80:Df),(Df.code 1 4 p60:Df),(Df.code 1 1 p70:Df),(Df.code 2 2 e60:Df),(Df.code 3 6 f80:Df),(Df.code 1 2 l30:Df),(Df.code 2 2 g40:Df),(Df.code 2 5 t40:Df),(Df.code 1 14 O91:Df)]
def Y82:tabOf rows=T:=rfl
end K3
namespace K3
open Q
open L2 (D)
def p80:D->Bool
 |.int _=>true|_=>false
def F90(k:Nat)(x:D)(z:Z):b50 T (k + 3) x40 [.d x] z=some (.ok (.d (.bl (p80 x))) z):=by
 cases z <;> cases x <;> rfl
def b90(x:D)(m:Int):Bool:=match x with
 |.int i=>decide (0<=i)&&decide (i < m)|_=>false
def t50(k:Nat)(x:D)(m:Int)(z:Z):b50 T (k + 4) q90 [.d x,.d (.int m)] z=some (.ok (.d (.bl (b90 x m))) z):=by
 refine W.ok (i80 (ps:=2) (ns:=2) (b:=x70) rfl rfl 1e1 (Wo (F90 (k:=k) x z) ?_))
 cases x with
 |int i=>exact ib (b:=decide (0<=i)) (λh=>sb (show decide (i < m)=(decide (0<=i)&&decide (i < m)) by rw[h];rfl)) λh=>sb (show false=(decide (0<=i)&&decide (i < m)) by rw[h];rfl)|_=>exact sb rfl
def G21(x:D)(m:Int):Bool:=match x with
 |.tup [a,b]=>b90 a m&&(b90 b m&&(match a,b with
  |.int i,.int j=>decide (i < j)
  |_,_=>false))
 |_=>false
def j80(h:b90 x m=true):∃ i,x=.int i/\0<=i/\i < m:=by
 cases x with
 |int i =>
  unfold b90 at h;rw[Á,decide_eq_true_eq,decide_eq_true_eq] at h;exact⟨i,rfl,h⟩
 |_=>cases h
def C01(k:Nat)(x:D)(m:Int)(z:Z):b50 T (k + 5) h71 [.d x,.d (.int m)] z=some (.ok (.d (.bl (G21 x m))) z):=by
 refine W.ok (i80 (ps:=2) (ns:=4) (b:=O50) rfl rfl 1e1 ?_)
 cases x with
 |tup l =>
  match l with
  |[a,b] =>
   refine Wo (t50 k a m z) (ib (b:=b90 a m) (λh1=>Wo (t50 k b m z) (ib (b:=b90 b m) (λh2=>?_) λh=>?_)) λh=>?_)
   ·obtain⟨i,rfl,_⟩:=j80 h1;obtain⟨j,rfl,_⟩:=j80 h2;exact sb (show decide (i < j)=(b90 (.int i) m&&(b90 (.int j) m&&decide (i < j))) by rw[h1,h2];rfl)
   ·exact sb (show false=(b90 a m&&(b90 b m&&_)) by rw[h1,h];rfl)
   ·exact sb (show false=(b90 a m&&_) by rw[h];rfl)
  |[]=>exact sb rfl|[_]=>exact sb rfl|_::_::_::_=>exact sb rfl
 |_=>exact sb rfl
def z60(l:List D)(p:D->Bool):bfD .all [.lst (l.map λx=>D.bl (p x))]=some (.d (.bl (l.all p))):=by
 have h:(l.map λx=>D.bl (p x)).mapM asB=some (l.map p):=by
  induction l with
  |nil=>rfl
  |cons x r ih =>
   rw[Æ0,Ö9,ih];rfl
 show((l.map λx=>D.bl (p x)).mapM asB).map _=_;rw[h];simp[all_map]
def B50(l:List D)(n:Nat):cutD l (some (n:Int)) none=l.drop n:=by
 have h1:HT.sIx l.length 0 (some (n:Int))=min n l.length:=HT.q51 l.length 0 n;unfold cutD;rw[h1];show((l.drop (min n l.length)).take (l.length - min n l.length))=_;rcases Nat.le_total n l.length with h | h
 ·rw[Þ0 h,Ë9 (by rw[Ë6];omega)]
 ·rw[Ü7 h,drop_length,List.take_nil,List.drop_of_length_le h]
theorem r10:∀ a b:List D,(r90 a b).length<=a.length
 |[],_=>Î _|_::_,[]=>Æ5 _|_::r,_::q=>Nat.succ_le_succ (r10 r q)
theorem b21:∀ {a b:List D}{d:D},d∈r90 a b->∃ x∈a,∃ y∈b,d=.tup [x,y]
 |x::r,y::q,d,h=>by
  rcases ï.mp h with h | h
  ·exact⟨x,Ì,y,Ì,h⟩
  ·obtain⟨u,hu,v,hv,e⟩:=b21 h;exact⟨u,Ë _ hu,v,Ë _ hv,e⟩
def leD:D->Bool
 |.tup [.tup a,.tup b]=>(match w90 a,w90 b with
  |some ns,some ms=>HT.leB ns ms
  |_,_=>false)
 |_=>false
def i01(l:List D):Bool:=(r90 l (l.drop 1)).all leD
def b31(x:D)(m:Int):Bool:=match x with
 |.tup l=>decide (l.length<=8)&&(l.all (λt=>G21 t m)&&i01 l)|_=>false
def V20(h:G21 x m=true):∃ i j,x=.tup [.int i,.int j]/\0<=i/\i < j/\j < m:=by
 cases x with
 |tup l =>
  match l,h with
  |[a,b],h =>
   unfold G21 at h;rw[Á,Á] at h;obtain⟨h1,h2,h3⟩:=h;obtain⟨i,rfl,i1,i2⟩:=j80 h1;obtain⟨j,rfl,j1,j2⟩:=j80 h2;exact⟨i,j,rfl,i1,of_decide_eq_true h3,j2⟩
 |_=>cases h
def f90(h:n<=1000):n<=most:=Ó h 1e1
def b41(k:Nat)(x:D)(m:Int)(z:Z):b50 T (k + 6) I60 [.d x,.d (.int m)] z=some (.ok (.d (.bl (b31 x m))) z):=by
 refine W.ok (i80 (ps:=2) (ns:=2) (b:=x80) rfl rfl 1e1 ?_)
 cases x with
 |tup l =>
  refine ib (b:=decide ((8:Int) < (l.length:Int))) (λh=>?_) λh=>?_
  ·refine sb (show false=(decide (l.length<=8)&&_) from ?_);rw[decide_eq_true_eq] at h;rw[decide_eq_false ∅];rfl
  ·rw[decide_eq_false_iff_not] at h;have h8:l.length<=8:=∅
   refine ip (f90 ∅) (p01 (λx=>.bl (G21 x m)) (λx _=>Wo (C01 k x m z) ⟨rfl,rfl⟩) ?_)
   refine(a00 (z60 l λx=>G21 x m) ?_ :);refine ib (b:=!l.all λx=>G21 x m) (λh=>?_) λh2=>?_
   ·exact sb (show false=(decide (l.length<=8)&&(l.all (λt=>G21 t m)&&i01 l)) by rw[î] at h;rw[h,Ì3,Bool.and_false])
   ·rw[Ù0] at h2;have ha:=Ú.mp h2;have e1:cutD l (some 1) none=l.drop 1:=B50 l 1;refine ip (c:=(r90 l (cutD l (some 1) none)).length<=most) (Ó (r10 _ _) (f90 ∅)) (p01 (λx=>.bl (leD x)) (λx hx=>?_) (a00 (z60 _ leD) ?_ :))
    ·obtain⟨u,hu,v,hv,rfl⟩:=b21 hx;rw[e1] at hv;obtain⟨i,j,rfl,_⟩:=V20 (ha u hu);obtain⟨i',j',rfl,_⟩:=V20 (ha v (List.mem_of_mem_drop hv));exact⟨rfl,rfl⟩
    ·refine sb (b:=(r90 l (cutD l (some 1) none)).all leD) ?_;show _=(decide (l.length<=8)&&(l.all (λt=>G21 t m)&&i01 l));rw[e1,h2,decide_eq_true h8,Ä2,Ä2];rfl
 |_=>exact sb rfl
def P32(a t:D):Bool:=match a with
 |.int m=>decide (1<=m)&&(decide (m<=6)&&b31 t m)|_=>false
def i11(x:D):Bool:=match x with
 |.tup [a,t]=>P32 a t|_=>false
def V30(k:Nat)(x:D)(z:Z):b50 T (k + 7) h81 [.d x] z=some (.ok (.d (.bl (i11 x))) z):=by
 refine W.ok (i80 (ps:=1) (ns:=3) (b:=O60) rfl rfl 1e1 ?_)
 cases x with
 |tup l =>
  match l with
  |[a,t] =>
   refine Wo (F90 (k + 3) a _) ?_;cases a with
   |int m =>
    refine ib (b:=decide (1<=m)) (λg1=>ib (b:=decide (m<=6)) (λg2=>Wo (b41 k t m _) ?_) λg2=>?_) λg1=>?_
    ·exact sb (show b31 t m=(decide (1<=m)&&(decide (m<=6)&&b31 t m)) by rw[g1,g2];rfl)
    ·exact sb (show false=(decide (1<=m)&&(decide (m<=6)&&b31 t m)) by rw[g1,g2];rfl)
    ·exact sb (show false=(decide (1<=m)&&(decide (m<=6)&&b31 t m)) by rw[g1];rfl)
   |_=>exact sb rfl
  |[]=>exact sb rfl|[_]=>exact sb rfl|_::_::_::_=>exact sb rfl
 |_=>exact sb rfl
def k70(k:Nat)(z:Z)(h:i11 x=true):b50 T (k + 8) m60 [.d x] z=some (.ok (.d .non) z):=
 W.ok (i80 (ps:=1) (ns:=1) (b:=m90) rfl rfl 1e1 (Wo (V30 k x z) (ie (b:=!i11 x) (by rw[h];rfl) (sd rfl))))
def z70(k:Nat)(z:Z)(h:i11 x=false):b50 T (k + 8) m60 [.d x] z=some (.er 0 z):=
 W.er (i80 (ps:=1) (ns:=1) (b:=m90) rfl rfl 1e1 (Wo (V30 k x z) (it (b:=!i11 x) (by rw[h];rfl) ⟨rfl,d20 z⟩)))
def P01(hj:0 < j):H80 .mod (.int i) (.int j)=some (.d (.int (i % j))):=by
 show(if 0 < j then some (S.d (.int (i % j))) else none)=_;rw[if_pos hj]
def big(b:Int):Prop:=b < 2 ^ 4000
def ZI(z:Z):Prop:=∃ n b,z=some (n,b)/\0<=n/\(b=false->n < 2147483647)
def y12{T:List Df}{k f ps ns:Nat}{b:Sm}{l:List S}{z:Z}{Q:S->Z->Prop}{E:Nat->Z->Prop}(hz:ZI z)(h:T[f]?=some (.code ps ns b))(hl:l.length=ps)(hn:ps<=ns)(q:WS (T20 T (k + 2)) false b (start ns (l.map plS)) z (λo z1=>match o with
  |.nx _=>Q (.d .non) z1
  |.rt s=>Q s z1) E):W (b50 T (k + 3) f l) z Q E:=by
 obtain⟨n,c,rfl,_⟩:=hz;refine i80 h hl hn (q.mono (λo z1 h=>?_) λ_ _ h=>h);cases o <;> exact h
def C11{a:Int}{n:Nat}(h:a.natAbs < n)(hn:n<=2 ^ 64:=by decide):a.natAbs < u91:=Ô h (Ó hn 1e1)
def n61{i j:Int}(hi:i.natAbs < 2 ^ 64)(hj:j.natAbs < 2 ^ 64):H80 .mul (.int i) (.int j)=some (.d (.int (i * j))):=by
 show(if i.natAbs < u91/\j.natAbs < u91 then some (S.d (.int (i * j))) else none)=_;rw[if_pos ⟨C11 hi,C11 hj⟩]
def L82{i j:Int}(hj:0 < j)(hb:j.natAbs < 2 ^ 64):H80 .fdiv (.int i) (.int j)=some (.d (.int (i / j))):=by
 show(if 0 < j/\j.natAbs < u91 then some (S.d (.int (i / j))) else none)=_;rw[if_pos ⟨hj,C11 hb⟩]
def Drawn(m:Int)(s:S)(z1:Z):Prop:=ZI z1/\∃ r:Nat,s=.d (.int r)/\(r:Int) < m
def h50(k:Nat)(m:Int)(hz:ZI z)(m0:0 < m)(m1:m < 2 ^ 32):W (b50 T (k + 3) b40 [.z,.d (.int m)]) z (Drawn m) NE:=by
 have fin:∀ (a:Int) (z1:Z),ZI z1->Drawn m (.d (.int (a % m))) z1:=λa z1 h=>by
  have h0:=emod_nonneg a (show m≠0 by omega)
  exact⟨h,(a % m).toNat,by rw[Int.toNat_of_nonneg h0],by rw[Int.toNat_of_nonneg h0];exact emod_lt_of_pos _ m0⟩
 refine y12 hz (ps:=2) (ns:=4) (b:=t10) rfl rfl 1e1 ?_
 obtain⟨n,b,rfl,n0,n1⟩:=hz;cases b with
 |true =>
  refine(a00 (P01 (i:=n) m0) ?_ :);refine(a00 (L82 (i:=n) m0 ∅) ?_ :)
  exact fin n _ ⟨n / m,true,rfl,Int.ediv_nonneg n0 ∅,λh=>nomatch h⟩
 |false =>
  have n1:=n1 rfl;have e1:∀ a:Int,0<=a % 2147483647/\a % 2147483647 < 2147483647:=λa=>⟨emod_nonneg _ 1e1,emod_lt_of_pos _ 1e1⟩
  have e2:∀ a:Int,0<=a % 2147483629/\a % 2147483629 < 2147483629:=λa=>⟨emod_nonneg _ 1e1,emod_lt_of_pos _ 1e1⟩
  have s1:∀ a:Int,(a % 2147483647).natAbs < 2 ^ 64:=λa=>by have:=e1 a;omega
  have s2:∀ a:Int,(a % 2147483629).natAbs < 2 ^ 64:=λa=>by have:=e2 a;omega
  refine(a00 (n61 (i:=n) (j:=48271) ∅ 1e1) ?_ :)
  have a1:=e1 (n * 48271 + 29);refine(a00 (n61 (s1 (n * 48271 + 29)) (s1 (n * 48271 + 29))) ?_ :);refine(a00 (n61 (i:=39373) 1e1 (s1 (n * 48271 + 29))) ?_ :)
  refine(a00 (n61 (s2 _) (s2 _)) ?_ :);refine(a00 (n61 (i:=16807) 1e1 (s2 _)) ?_ :)
  refine(a00 (P01 m0) ?_ :);exact fin _ _ ⟨_,false,rfl,a1.1,λ_=>a1.2⟩
def n71(k:Nat)(ns:List Int)(j:Nat)(z:Z):∃ c:Int,b50 T (k + 3) s30 [.d (.lst (ns.map D.int)),.d (.int j)] z=some (.ok (.d (.int c)) z):=by
 by_cases h:j < ns.length
 ·refine⟨ns[j],W.ok (i80 (ps:=2) (ns:=2) (b:=g80) rfl rfl 1e1 (it (b:=decide ((j:Int) < ((ns.map D.int).length:Int))) (by simp[h]) ?_))⟩
  refine(a00 (o:=e91 (.lst (ns.map D.int)) (.int j)) (L2.K40 (v:=.int ns[j]) (by simp[h])) ?_ :)
  exact sd rfl
 ·exact⟨0,W.ok (i80 (ps:=2) (ns:=2) (b:=g80) rfl rfl 1e1 (ie (b:=decide ((j:Int) < ((ns.map D.int).length:Int))) (by simp;omega) (sd rfl)))⟩
def P11(k:Nat)(ns:List Int)(j:Nat)(z:Z):∃ (n:Int) (b:Bool),ZI (some (n,b))/\b50 T (k + 4) z40 [.d (.lst (ns.map D.int)),.d (.int j)] z=some (.ok (.fr [.int n,.bl b]) z):=by
 obtain⟨c,hc⟩:=n71 k ns j z;by_cases h:(10 ^ 18:Int)<=c
 ·exact⟨c - 10 ^ 18,true,⟨_,_,rfl,∅,λh=>nomatch h⟩,W.ok (i80 (ps:=2) (ns:=3) (b:=k60) rfl rfl 1e1 (Wo hc (it (b:=decide ((10 ^ 18:Int)<=c)) (decide_eq_true h) (sd rfl))))⟩
 ·refine⟨c % 2147483647,false,⟨_,_,rfl,emod_nonneg _ 1e1,λ_=>emod_lt_of_pos _ 1e1⟩,W.ok (i80 (ps:=2) (ns:=3) (b:=k60) rfl rfl 1e1 (Wo hc (ie (b:=decide ((10 ^ 18:Int)<=c)) (decide_eq_false h) (sd rfl))))⟩
def V40(h0:0<=m)(h1:m < 100000):itD .rng1 [.int m]=some ((ò m.toNat).map λ(i:Nat)=>D.int i):=by
 show(if inR m=true then _ else none)=_;rw[if_pos (M90.mpr ⟨∅,h1⟩)]
def ne_nil(h:okD (.lst l)=true):t80 .ne (.lst l) (.lst [])=some (!l.isEmpty):=by
 show(eqO (.lst l) (.lst [])).map (!·)=_;unfold eqO;rw[h];cases l <;> rfl
theorem G00:∀ l:List Int,e10 (l.map D.int)=true/\e70 (l.map D.int)=0
 |[]=>⟨rfl,rfl⟩
 |x::r=>by
  obtain⟨h1,h2⟩:=G00 r;refine⟨h1,?_⟩;show Ï3 0 (e70 (r.map D.int))=0;rw[h2];rfl
def C21(l:List Int):okD (.lst (l.map D.int))=true:=by
 obtain⟨h1,h2⟩:=G00 l;show(e10 (l.map D.int)&&decide (e70 (l.map D.int) + 1<=40))=true;rw[h1,h2];rfl
def P21(n:Nat):(ò n).map (λ(i:Nat)=>D.int i)=((ò n).map λ(i:Nat)=>(i:Int)).map D.int:=by
 rw[Ã8];rfl
def g82{l:List Int}{j:Nat}(h:j < l.length):(l.map D.int)[j]?=some (.int l[j]):=by rw[Û,á h];rfl
def g92{j:Nat}(h:l[j]?=some x):e91 (.lst l) (.int j)=some x:=L2.K40 h
def y22{j:Nat}(h:l[j]?=some x):e91 (.tup l) (.int j)=some x:=L2.K40 h
def pr(p:Int × Int):D:=.tup [.int p.1,.int p.2]
def ky(p:Int × Int):List Int:=[p.1,p.2]
def Y92(a b c d:Int):MySort.h90 [a,b] [c,d]=if a=c then(if b=d then false else decide (b < d)) else decide (a < c):=rfl
def Ch:List (Int × Int)->Prop
 |a::b::r=>HT.leB (ky a) (ky b)=true/\Ch (b::r)|_=>True
def i21(h:MySort.h90 (ky p) (ky q)=true):HT.leB (ky p) (ky q)=true:=by
 unfold HT.leB;unfold ky at h ⊢;rw[Y92] at h ⊢;by_cases h1:p.1=q.1
 ·rw[if_pos h1] at h;rw[if_pos h1.symm];by_cases h2:p.2=q.2
  ·rw[if_pos h2] at h;cases h
  ·rw[if_neg h2] at h;rw[if_neg (Á0 h2)];simp only[decide_eq_true_eq] at h;simp;omega
 ·rw[if_neg h1] at h;rw[if_neg (Á0 h1)];simp only[decide_eq_true_eq] at h;simp;omega
def G31(k:Int × Int):List (Int × Int)->List (Int × Int)
 |[]=>[k]|y::r=>if MySort.h90 (ky y) (ky k) then y::G31 k r else k::y::r
def n81:List (Int × Int)->List (Int × Int)
 |[]=>[]|k::r=>G31 k (n81 r)
theorem V50(k:Int × Int):∀ l,(G31 k l).Perm (k::l)
 |[]=>.refl _
 |y::r=>by
  unfold G31;split
  ·exact((V50 k r).cons y).trans (.swap _ _ _)
  ·exact .refl _
theorem J00:∀ l,(n81 l).Perm l
 |[]=>.refl _|k::r=>(V50 k _).trans ((J00 r).cons k)
theorem C31(k:Int × Int):∀ l,Ch l->Ch (G31 k l)
 |[],_=>trivial
 |[y],_=>by
  unfold G31;split
  ·rename_i h;exact⟨i21 h,trivial⟩
  ·rename_i h;refine⟨?_,trivial⟩;unfold HT.leB;simpa using h
 |y::x::r,h=>by
  obtain⟨h1,h2⟩:=h;have ih:=C31 k (x::r) h2;unfold G31;split
  ·rename_i hy;unfold G31 at ih ⊢;split at ih
   ·rename_i hx;rw[if_pos hx];exact⟨h1,ih⟩
   ·rename_i hx;rw[if_neg hx];exact⟨i21 hy,ih⟩
  ·rename_i hy;refine⟨?_,h1,h2⟩;unfold HT.leB;simpa using hy
theorem i31:∀ l,Ch (n81 l)
 |[]=>trivial|k::r=>C31 k _ (i31 r)
theorem i41(k:Int × Int):∀ l:List (Int × Int),o81 (pr k) (l.map pr)=(G31 k l).map pr
 |[]=>rfl
 |y::r=>by
  unfold G31;show(if MySort.h90 (ky y) (ky k) then pr y::o81 (pr k) (r.map pr) else pr k::pr y::r.map pr)=_;split
  ·rw[i41 k r];rfl
  ·rfl
theorem V60:∀ l:List (Int × Int),u60 (l.map pr)=(n81 l).map pr
 |[]=>rfl
 |k::r=>by
  show o81 (pr k) (u60 (r.map pr))=_;rw[V60 r,i41];rfl
def L92(p q:Int × Int):ltD (pr p) (pr q)=some (MySort.h90 (ky p) (ky q)):=by
 show(if (p.1 == q.1)=true then(if (p.2 == q.2)=true then some false else some (decide (p.2 < q.2))) else some (decide (p.1 < q.1)))=some (if p.1=q.1 then(if p.2=q.2 then false else decide (p.2 < q.2)) else decide (p.1 < q.1));simp only[beq_iff_eq];split
 ·split <;> rfl
 ·rfl
def h02(p q:Int × Int):j30 (pr p) (pr q)=true:=by
 unfold j30;rw[L92];show(true&&((some (MySort.h90 (ky p) (ky q)) == some (MySort.h90 (ky p) (ky q)))&&(((p.1 == q.1)&&((p.2 == q.2)&&true)) || !([p.1,p.2] == [q.1,q.2]))))=true;rw[beq_self_eq_true,Ä2,Ä2,Ø4];by_cases h1:p.1=q.1 <;> by_cases h2:p.2=q.2 <;> simp[h1,h2]
def C41(l:List (Int × Int)):n70 (l.map pr)=true:=by
 refine Ú.mpr λx hx=>?_;obtain⟨p,_,rfl⟩:=Ò.mp hx;show(true&&(true&&(l.map pr).all (j30 (pr p))))=true;refine Ú.mpr λy hy=>?_;obtain⟨q,_,rfl⟩:=Ò.mp hy;exact h02 p q
def C51(h:l.length < 64):bfD .sorted [.lst (l.map pr)]=some (.fr ((n81 l).map pr)):=by
 show(if (l.map pr).length < 64/\n70 (l.map pr)=true then some (S.fr (u60 (l.map pr))) else(N52 (l.map pr)).map S.fr)=_;rw[if_pos ⟨by rw[È];exact h,C41 l⟩,V60]
theorem i51:∀ {l:List (Int × Int)},Ch l->i01 (l.map pr)=true
 |[],_=>rfl|[_],_=>rfl
 |a::b::r,h=>by
  have ih:=i51 h.2;show((r90 (pr a::pr b::r.map pr) (pr b::r.map pr)).all leD)=true;have e:r90 (pr a::pr b::r.map pr) (pr b::r.map pr)=.tup [pr a,pr b]::r90 (pr b::r.map pr) (r.map pr):=rfl;rw[e,Å4,Á];exact⟨h.1,ih⟩
def y20(m:Int)(ps:List (Int × Int)):D:=.tup [.int m,.tup (ps.map pr)]
structure d90(m:Int)(ps:List (Int × Int)):Prop where
 m1:1<=m
 m6:m<=6
 len:ps.length<=8
 tie:∀ p∈ps,0<=p.1/\p.1 < p.2/\p.2 < m
 ch:Ch ps
def d90.web(g:d90 m ps):i11 (y20 m ps)=true:=by
 unfold y20 i11 P32 b31;simp only[Á,decide_eq_true_eq,Ä6,È];refine⟨g.m1,g.m6,g.len,λt ht=>?_,i51 g.ch⟩;obtain⟨p,hp,rfl⟩:=Ò.mp ht;obtain⟨h1,h2,h3⟩:=g.tie p hp;unfold pr G21 b90;simp only[Á,decide_eq_true_eq];omega
def y32(h1:0<=i)(hi:i < 100)(h0:-100 < m)(h:m < 100000):itD .rng2 [.int i,.int m]=some ((ò (m - i).toNat).map λ(k:Nat)=>D.int (i + k)):=by
 show(if inR i=true/\inR m=true then _ else none)=_;rw[if_pos ⟨M90.mpr ∅,M90.mpr ∅⟩]
def C61{L:List D}{n:Nat}(f:D->Bool)(h:n < L.length)(ha:L.all f=true):∃ x,L[n]?=some x/\f x=true:=
 ⟨L[n],á h,Ú.mp ha _ (Ç4 h)⟩
def btw(a b:Int):D->Bool
 |.int i=>decide (a<=i)&&decide (i<=b)|_=>false
def y42(h:btw a b x=true):∃ i,x=.int i/\a<=i/\i<=b:=by
 cases x with
 |int i =>
  unfold btw at h;rw[Á,decide_eq_true_eq,decide_eq_true_eq] at h;exact⟨i,rfl,h⟩
 |_=>cases h
def C71(l:List D)(h:0<=n):cutD l none (some n)=l.take n.toNat:=by
 obtain⟨k,rfl⟩:=Ë3 h;have h1:HT.sIx l.length l.length (some (k:Int))=min k l.length:=HT.q51 _ _ k;unfold cutD;rw[h1];show(l.drop 0).take (min k l.length - 0)=_;rw[List.drop_zero,Nat.sub_zero,Â6];rcases Nat.le_total k l.length with h | h
 ·rw[Þ0 h]
 ·rw[Ü7 h,List.take_length,Ë9 h]
def U91{α:Type}{l:List α}{a:α}:(l++[a]).length=l.length + 1:=by rw[ù];rfl
def V01(a b:Int):(if b < a then b else a)=min a b/\(if b > a then b else a)=max a b:=by
 constructor <;> (split <;> omega)
theorem V70{P:Int × Int->Prop}:∀ {xs ys:List D},PySem.Paired (λ_ y=>∃ c,y=pr c/\P c) xs ys->∃ cs:List (Int × Int),ys=cs.map pr/\cs.length=xs.length/\∀ c∈cs,P c
 |[],_,h=>by cases h;exact⟨[],rfl,rfl,λc hc=>nomatch hc⟩
 |x::r,_,h=>by
  cases h with
  |cons h1 h2 =>
   obtain⟨c,rfl,hc⟩:=h1;obtain⟨cs,rfl,hl,ha⟩:=V70 h2;refine⟨c::cs,rfl,by rw[ã,hl];rfl,λd hd=>?_⟩
   rcases ï.mp hd with rfl | hd
   ·exact hc
   ·exact ha d hd
def B22(m:Int)(p:Int × Int):Prop:=0<=p.1/\p.1 < p.2/\p.2 < m
abbrev y52(mo m:Int)(ps:List (Int × Int))(o4 o5 o6:Option S):Env:=[some .z,some (.d (.int mo)),some (.d (.int m)),some (.fr (ps.map pr)),o4,o5,o6]
def y62:y52 mo m (ps++[p]) o4 o5 o6=[some .z,some (.d (.int mo)),some (.d (.int m)),some (.fr (ps.map pr++[pr p])),o4,o5,o6]:=by rw[y52,Á3];rfl
def P31{mo m:Int}{ps:List (Int × Int)}(m1:1<=m)(m6:m<=6)(h0:0<=mo)(h8:mo<=8)(hp:∀ p∈ps,B22 m p)(hl:ps.length < 64):∃ qs,bfD .sorted [.lst (cutD (ps.map pr) none (some mo))]=some (.fr (qs.map pr))/\d90 m qs/\(qs.length:Int)<=mo:=by
 have hl':(ps.take mo.toNat).length < 64:=by rw[Å5];omega
 refine⟨n81 (ps.take mo.toNat),by rw[C71 _ h0,← map_take];exact C51 hl',?_⟩
 have hperm:=J00 (ps.take mo.toNat);have hlen:=hperm.length_eq;rw[Å5] at hlen;exact⟨⟨m1,m6,∅,λq hq=>hp q (List.mem_of_mem_take (hperm.mem_iff.mp hq)),i31 _⟩,∅⟩
def C81(k:Nat){mo:Int}{z:Z}(hz:ZI z)(h0:0<=mo)(h8:mo<=8):W (b50 T (k + 5) I80 [.z,.d (.int mo)]) z (λs z1=>ZI z1/\∃ m ps,s=.d (y20 m ps)/\d90 m ps/\(ps.length:Int)<=mo) NE:=by
 refine y12 hz (ps:=2) (ns:=7) (b:=y10) rfl rfl 1e1 ?_
 refine(h50 (k + 1) 8 hz 1e1 1e1).imp λs z1 ⟨hz1,n,e,hn⟩=>?_
 subst e;obtain⟨x,ex,hx⟩:=C61 (L:=[D.int 6,.int 5,.int 4,.int 3,.int 4,.int 5,.int 2,.int 1]) (n:=n) (btw 1 6) (by simp only[ã,Ã1];omega) 1e1
 obtain⟨m,rfl,m1,m6⟩:=y42 hx;refine(a00 (g92 ex) ?_ :);refine(O81 (.fr []) (y52 mo m [] none none none) ?_ ?_ ?_ :)
 ·exact⟨rfl,rfl⟩
 ·rfl
 refine g72 (λρ z2=>ZI z2/\∃ ps:List (Int × Int),ρ=y52 mo m ps none none none/\(∀ p∈ps,B22 m p)/\ps.length<=5) ?_ ?_
 ·refine ib (b:=decide (1 < m)) (λh=>?_) λh=>⟨hz1,[],rfl,(λp hp=>nomatch hp),by simp⟩
  have h:=of_decide_eq_true h;refine(h50 (k + 1) 5 hz1 1e1 1e1).imp λs z2 ⟨hz2,v,e,hv⟩=>?_
  subst e;refine ib (b:=decide (0 < (v:Int))) (λh1=>?_) λh1=>⟨hz2,[],rfl,(λp hp=>nomatch hp),by simp⟩
  refine(a00 (y32 (i:=1) (m:=m) 1e1 1e1 ∅ ∅) ?_ :)
  refine ip (by rw[È,û];simp only[most];omega) (Y72 (I:=ZI) (P:=λ_ y=>∃ c,y=pr c/\B22 m c) hz2 (λx hx z3 hz3=>?_) λys z3 hz3 hys=>?_)
  ·obtain⟨i,hi,rfl⟩:=Ò.mp hx;have hi:=À1.mp hi;refine(h50 (k + 1) (1 + (i:Int)) hz3 ∅ ∅).imp λs z4 ⟨hz4,a,e,ha⟩=>?_
   subst e;exact⟨hz4,((a:Int),1 + (i:Int)),rfl,by show(0:Int)<=a;omega,ha,by show 1 + (i:Int) < m;omega⟩
  ·obtain⟨cs,rfl,hl,ha⟩:=V70 hys;rw[È,û] at hl;exact⟨hz3,cs,rfl,ha,∅⟩
 ·rintro ρ z2 ⟨hz2,ps,rfl,hp,hl⟩;refine(h50 (k + 1) (mo + 1) hz2 ∅ ∅).imp λs z3 ⟨hz3,t,e,ht⟩=>?_
  subst e;have hj:(if decide (1 < m)=true then(1:Int) else 0)=0\/((if decide (1 < m)=true then(1:Int) else 0)=1/\1 < m):=by
   by_cases h:1 < m
   ·exact .inr ⟨by rw[decide_eq_true h];rfl,h⟩
   ·exact .inl (by rw[decide_eq_false h];rfl)
  refine(a00 (n61 (i:=(t:Int)) (j:=if decide (1 < m)=true then(1:Int) else 0) ∅ (by rcases hj with h | h <;> (first | rw[h] | rw[h.1]) <;> decide)) ?_ :)
  have hc:∃ c:Nat,(t:Int) * (if decide (1 < m)=true then(1:Int) else 0)=c/\c<=8/\(0 < c->1 < m):=by
   rcases hj with h | h
   ·exact⟨0,by rw[h,Int.mul_zero];rfl,∅,λh=>absurd h ∅⟩
   ·exact⟨t,by rw[h.1,Int.mul_one],∅,λ_=>h.2⟩
  obtain⟨c,ec,hc8,hcm⟩:=hc;refine(a00 (o:=itD .rng1 [.int ((t:Int) * (if decide (1 < m)=true then(1:Int) else 0))]) (a:=(ò c).map λ(i:Nat)=>D.int i) (by rw[ec,V40 ∅ ∅,Â6]) ?_ :)
  refine O40 (λxs ρ z=>ZI z/\(0 < xs.length->1 < m)/\∃ (ps:List (Int × Int)) (o4 o5 o6:Option S),ρ=y52 mo m ps o4 o5 o6/\(∀ p∈ps,B22 m p)/\ps.length + xs.length<=13) _ ⟨hz3,λh=>hcm (by rw[È,û] at h;exact h),ps,_,_,_,rfl,hp,by rw[È,û];omega⟩ ?_ ?_
  ·rintro x r ρ z4 ⟨hz4,hm,ps,o4,o5,o6,rfl,hp,hl⟩;have hm:=hm (by simp)
   refine(h50 (k + 1) m hz4 ∅ ∅).imp λs z5 ⟨hz5,a,e,ha⟩=>?_
   subst e;refine(h50 (k + 1) (m - 1) hz5 ∅ ∅).imp λs z6 ⟨hz6,b,e,hb⟩=>?_
   subst e;refine(a00 (P01 (i:=(a:Int) + 1 + b) (j:=m) ∅) ?_ :)
   have hq:0<=((a:Int) + 1 + b) % m/\((a:Int) + 1 + b) % m < m/\((a:Int) + 1 + b) % m≠a:=by
    refine⟨emod_nonneg _ ∅,emod_lt_of_pos _ ∅,?_⟩
    by_cases h:(a:Int) + 1 + b < m
    ·rw[Ñ9 ∅ h];omega
    ·rw[show(a:Int) + 1 + b=((a:Int) + 1 + b - m) + m from by omega,Int.add_emod_right,Ñ9 ∅ ∅];omega
   generalize ((a:Int) + 1 + b) % m=q at hq ⊢;refine ip ⟨rfl,by rw[È];simp only[most,ã] at hl ⊢;omega⟩ ?_
   refine⟨hz6,λ_=>hm,ps++[(min (a:Int) q,max (a:Int) q)],some (.d x),some (.d (.int a)),some (.d (.int q)),?_,λp hp'=>?_,by rw[U91];simp only[ã] at hl;omega⟩
   ·rw[y62,← (V01 (a:Int) q).1,← (V01 (a:Int) q).2];rfl
   ·rcases Á2.mp hp' with h | h
    ·exact hp p h
    ·rw[Ù.mp h];show 0<=min (a:Int) q/\min (a:Int) q < max (a:Int) q/\max (a:Int) q < m;omega
  ·rintro ρ z4 ⟨hz4,_,ps,o4,o5,o6,rfl,hp,hl⟩;obtain⟨qs,e,g,hq⟩:=P31 m1 m6 h0 h8 hp (by simp only[Ã1] at hl;omega)
   refine(a00 e ?_ :);exact⟨hz4,m,qs,rfl,g,hq⟩
def C91(h:0 < b):0 < ((gcd t b:Nat):Int):=by
 have:=Int.gcd_pos_of_ne_zero_right (a:=t) (b:=b) ∅
 omega
def E10(t b:Int):Int × Int:=(t / gcd t b,b / gcd t b)
def b51(h0:0 < b):t=gcd t b * (E10 t b).1/\b=gcd t b * (E10 t b).2:=by
 constructor
 ·exact(Int.mul_ediv_cancel' (Int.gcd_dvd_left t b)).symm
 ·exact(Int.mul_ediv_cancel' (Int.gcd_dvd_right t b)).symm
def h32(h0:0 < b):gcd (E10 t b).1 (E10 t b).2=1:=Int.gcd_ediv_gcd_ediv_gcd_of_ne_zero_right ∅
def D01(h0:0 < b):0 < (E10 t b).2:=by
 have g0:=C91 (t:=t) h0;obtain⟨_,e⟩:=b51 (t:=t) h0;refine Int.pos_of_mul_pos_right (a:=gcd t b) ?_ g0;omega
def V11(h:gcd a b=1)(hd:b∣a * d):b∣d:=by
 have h1:Nat.Coprime b.natAbs a.natAbs:=by rw[Nat.coprime_comm];exact h
 exact Int.natAbs_dvd_natAbs.mp (h1.dvd_of_dvd_mul_left (by rw[← natAbs_mul];exact Int.natAbs_dvd_natAbs.mpr hd))
def n91(hb:0 < b)(hd:0 < d)(h1:gcd a b=1)(h2:gcd c d=1)(h:a * d=c * b):a=c/\b=d:=by
 have k1:b∣d:=V11 h1 ⟨c,by rw[h,Int.mul_comm]⟩
 have k2:d∣b:=V11 h2 ⟨a,by rw[← h,Int.mul_comm]⟩
 have e:b=d:=Int.le_antisymm (Int.le_of_dvd hd k1) (Int.le_of_dvd hb k2);subst e;exact⟨Ð7 ∅ h,rfl⟩
def h42{n:Nat}(f:D->Bool)(h:n < L.length)(ha:L.all f=true)(hp:∀ x,f x=true->P x):Get (e91 (.lst L) (.int n)) P:=by
 obtain⟨x,e,hx⟩:=C61 f h ha;exact a00 (g92 e) (hp x hx)
def D11(k:Nat)(hz:ZI z):W (b50 T (k + 4) s40 [.z]) z (λs z1=>ZI z1/\∃ x,s=.d x/\i11 x=false) NE:=by
 refine y12 hz (ps:=1) (ns:=2) (b:=l30) rfl rfl 1e1 ?_
 refine(h50 k 25 hz 1e1 1e1).imp λs z1 ⟨hz1,v,e,v1⟩=>?_
 subst e;refine(h42 (n:=v) (λx=>!i11 x) ?_ ?_ ?_ :)
 ·show v < 25;omega
 ·decide +kernel
 ·exact λx hx=>⟨hz1,x,rfl,by simpa using hx⟩
def ltP:D->Bool
 |.tup [.int a,.int b]=>decide (a < b)|_=>false
def V80(l:List D):Bool:=(r90 l (l.drop 1)).all ltP
def p11(m:Int):D->Bool
 |.tup l=>(l.all (λx=>b90 x m)&&V80 l)&&!l.isEmpty|_=>false
def short:D->Bool
 |.tup l=>decide (l.length<=1000)|_=>true
def P41(k:Nat)(h:∀ x∈l,b90 x m=true)(hl:l.length<=1000)(z:Z):b50 T (k + 3) B91 [.d (.tup l)] z=some (.ok (.d (.bl (V80 l))) z):=by
 have e1:cutD l (some 1) none=l.drop 1:=B50 l 1;refine W.ok (i80 (ps:=1) (ns:=1) (b:=b11) rfl rfl 1e1 (ip (c:=(r90 l (cutD l (some 1) none)).length<=most) (Ó (r10 _ _) (f90 hl)) (p01 (λx=>.bl (ltP x)) (λx hx=>?_) (a00 (z60 _ ltP) ?_ :))))
 ·obtain⟨u,hu,v,hv,rfl⟩:=b21 hx;rw[e1] at hv;obtain⟨i,rfl,_⟩:=j80 (h u hu);obtain⟨j,rfl,_⟩:=j80 (h v (List.mem_of_mem_drop hv));exact⟨rfl,rfl⟩
 ·exact sb (b:=(r90 l (cutD l (some 1) none)).all ltP) (by rw[e1];rfl)
def z80(k:Nat)(m:Int)(hs:short x=true)(z:Z):b50 T (k + 5) m20 [.d x,.d (.int m)] z=some (.ok (.d (.bl (match x with | .tup l=>l.all (λx=>b90 x m)&&V80 l | _=>false))) z):=by
 refine W.ok (i80 (ps:=2) (ns:=2) (b:=g30) rfl rfl 1e1 ?_)
 cases x with
 |tup l =>
  have hl:l.length<=1000:=of_decide_eq_true hs;refine ip (f90 hl) (p01 (λx=>.bl (b90 x m)) (λx _=>Wo (t50 k x m z) ⟨rfl,rfl⟩) (a00 (z60 l λx=>b90 x m) ?_ :));refine ib (b:=l.all λx=>b90 x m) (λh=>?_) λh=>sb (show false=(l.all (λx=>b90 x m)&&V80 l) by rw[h];rfl)
  exact Wo (P41 (k + 1) (Ú.mp h) hl z) (sb (show V80 l=(l.all (λx=>b90 x m)&&V80 l) by rw[h];rfl))
 |_=>exact sb rfl
def p90(k:Nat)(z:Z)(h:p11 m x=true)(hs:short x=true):b50 T (k + 6) g60 [.d (.tup [.int m,t]),.d x] z=some (.ok (.d .non) z):=by
 refine W.ok (i80 (ps:=2) (ns:=2) (b:=g70) rfl rfl 1e1 (Wo (z80 k m hs z) ?_))
 cases x with
 |tup l =>
  have h:((l.all (λx=>b90 x m)&&V80 l)&&!l.isEmpty)=true:=h;rw[Á] at h;refine ie (b:=!(l.all (λx=>b90 x m)&&V80 l)) (by rw[h.1];rfl) ?_
  cases l with
  |nil=>cases h.2
  |cons y r=>exact sd rfl
 |_=>cases h
def q00(k:Nat)(z:Z)(h:p11 m x=false)(hs:short x=true):b50 T (k + 6) g60 [.d (.tup [.int m,t]),.d x] z=some (.er 2 z):=by
 refine W.er (i80 (ps:=2) (ns:=2) (b:=g70) rfl rfl 1e1 (Wo (z80 k m hs z) ?_))
 cases x with
 |tup l =>
  have h:((l.all (λx=>b90 x m)&&V80 l)&&!l.isEmpty)=false:=h;refine ib (b:=!(l.all (λx=>b90 x m)&&V80 l)) (λ_=>⟨rfl,d20 z⟩) λh1=>?_;rw[Ù0] at h1;rw[h1,Ä2,Ù0] at h;cases l with
  |nil=>exact⟨rfl,d20 z⟩|cons y r=>cases h
 |_=>exact⟨rfl,d20 z⟩
def a40(n:Nat):D:=.int n
structure l40(m:Int)(l:List Nat):Prop where
 ne:l≠[]
 up:l.Pairwise (· < ·)
 lt:∀ p∈l,(p:Int) < m
theorem V21:∀ {l:List Nat},l.Pairwise (· < ·)->V80 (l.map a40)=true
 |[],_=>rfl|[_],_=>rfl
 |a::b::r,h=>by
  have ih:=V21 (ß9.of_cons h);show(decide ((a:Int) < (b:Int))&&V80 ((b::r).map a40))=true;rw[ih,decide_eq_true (by have:=(Ë0.mp h).1 b Ì;omega)];rfl
def l40.pls(g:l40 m l):p11 m (.tup (l.map a40))=true:=by
 show(((l.map a40).all (λx=>b90 x m)&&V80 (l.map a40))&&!(l.map a40).isEmpty)=true;rw[V21 g.up,Ø4,Á];refine⟨Ú.mpr λx hx=>?_,?_⟩
 ·obtain⟨p,hp,rfl⟩:=Ò.mp hx;have:=g.lt p hp;show(decide (0<=(p:Int))&&decide ((p:Int) < m))=true;rw[decide_eq_true this,decide_eq_true ∅];rfl
 ·cases l with
  |nil=>exact absurd rfl g.ne|cons _ _=>rfl
def l40.len(g:l40 m l)(h6:m<=6):l.length<=6:=by
 have:l.Sublist (ò 6):=by
  have e:l=(ò 6).filter λx=>l.contains x:=by
   refine É1 (le:=(· < ·)) ?_ g.up (Ë2 _ È8) ?_
   ·intro a b _ _ h1 h2;omega
   ·refine(Ï7 (g.up.imp λh e=>by omega) (Ë2 _ List.nodup_range)).mpr λa=>?_
    rw[Ð9,Ö6,É8];exact⟨λh=>⟨by have:=g.lt a h;omega,h⟩,λh=>h.2⟩
  rw[e];exact List.filter_sublist
 simpa using this.length_le
def P51:∀ {ys:List D}{l:List Nat},ys.Sublist (l.map a40)->∃ l':List Nat,ys=l'.map a40/\l'.Sublist l:=λ{ys l} h=>by
 obtain⟨l',h1,h2⟩:=List.sublist_map_iff.mp h;exact⟨l',h2,h1⟩
def h52(n:Nat):((ò n).map λ(i:Nat)=>D.int i)=(ò n).map a40:=rfl
def M02(a b:Int):MySort.h90 [a] [b]=decide (a < b):=by
 show(if a=b then false else decide (a < b))=_;by_cases h:a=b
 ·rw[if_pos h,h];simp
 ·rw[if_neg h]
def O80(a b:Nat):j30 (a40 a) (a40 b)=true:=by
 show(true&&((some (decide ((a:Int) < b)) == some (MySort.h90 [(a:Int)] [(b:Int)]))&&(((a:Int) == b) || !([(a:Int)] == [(b:Int)]))))=true;rw[M02,beq_self_eq_true,Ä2,Ä2];by_cases h:(a:Int)=b <;> simp[h]
def o01(x y:Nat):bfD .sorted [.lst [a40 x,a40 y]]=some (.fr [a40 (min x y),a40 (max x y)]):=by
 have ok:n70 [a40 x,a40 y]=true:=by
  refine Ú.mpr λu hu=>?_;have one:∀ a:Nat,(true&&(true&&[a40 x,a40 y].all (j30 (a40 a))))=true:=λa=>by
   show(j30 (a40 a) (a40 x)&&(j30 (a40 a) (a40 y)&&true))=true;rw[O80,O80];rfl
  simp only[Å2,Ã2,or_false] at hu;rcases hu with rfl | rfl
  ·exact one x
  ·exact one y
 have e:u60 [a40 x,a40 y]=[a40 (min x y),a40 (max x y)]:=by
  show(if MySort.h90 [(y:Int)] [(x:Int)] then [a40 y,a40 x] else [a40 x,a40 y])=_;rw[M02];by_cases h:(y:Int) < x
  ·rw[decide_eq_true h,if_pos rfl,Ü7 ∅,Nat.max_eq_left ∅]
  ·rw[decide_eq_false h,if_neg 1e1,Þ0 ∅,Nat.max_eq_right ∅]
 show(if [a40 x,a40 y].length < 64/\n70 [a40 x,a40 y]=true then some (S.fr (u60 [a40 x,a40 y])) else _)=_;rw[if_pos ⟨by show 2 < 64;decide,ok⟩,e]
def V90(k:Nat)(m1:1<=m)(m6:m<=6)(hz:ZI z):W (b50 T (k + 4) v70 [.z,.d (.tup [.int m,t])]) z (λs z1=>ZI z1/\∃ l,s=.d (.tup (l.map a40))/\l40 m l) NE:=by
 have g2:l40 m (ò m.toNat):=⟨by intro h;have:=congrArg Õ3 h;rw[û] at this;simp at this;omega,È8,λp hp=>by have:=À1.mp hp;omega⟩
 refine y12 hz (ps:=2) (ns:=4) (b:=n00) rfl rfl 1e1 ?_
 refine(h50 k 4 hz 1e1 1e1).imp λs z1 ⟨hz1,v,e,v1⟩=>?_
 subst e;refine g72 (λρ z2=>z2=z1/\1 < m/\ρ=[some .z,some (.d (.tup [.int m,t])),some (.d (.int v)),none]) ?_ ?_
 ·refine ib (b:=decide ((v:Int) < 2)) (λh=>?_) λh=>?_
  ·refine(a00 (V40 (m:=m) ∅ ∅) ?_ :)
   exact⟨hz1,_,rfl,g2⟩
  ·refine ib (b:=m == 1) (λh=>?_) λh=>?_
   ·refine(a00 (V40 (m:=m) ∅ ∅) ?_ :)
    exact⟨hz1,_,rfl,g2⟩
   ·have h:=ne_of_beq_false h;exact⟨rfl,∅,rfl⟩
 ·rintro ρ z2 ⟨rfl,hm,rfl⟩;refine ib (b:=(v:Int) == 2) (λh=>?_) λh=>?_
  ·refine(h50 k m hz1 ∅ ∅).imp λs z3 ⟨hz3,a,e,ha⟩=>?_
   subst e;refine(h50 k (m - 1) hz3 ∅ ∅).imp λs z4 ⟨hz4,b,e,hb⟩=>?_
   subst e;refine(a00 (P01 (i:=(a:Int) + 1 + b) (j:=m) ∅) ?_ :)
   have hq:0<=((a:Int) + 1 + b) % m/\((a:Int) + 1 + b) % m < m/\((a:Int) + 1 + b) % m≠a:=by
    refine⟨emod_nonneg _ ∅,emod_lt_of_pos _ ∅,?_⟩
    by_cases h:(a:Int) + 1 + b < m
    ·rw[Ñ9 ∅ h];omega
    ·rw[show(a:Int) + 1 + b=((a:Int) + 1 + b - m) + m from by omega,Int.add_emod_right,Ñ9 ∅ ∅];omega
   generalize ((a:Int) + 1 + b) % m=q at hq ⊢;obtain⟨q,rfl⟩:=Ë3 hq.1;refine(a00 (o01 a q) ?_ :);refine⟨hz4,[min a q,max a q],rfl,by simp,?_,λp hp=>?_⟩
   ·refine .cons (λx hx=>?_) (.cons (λ_ h=>nomatch h) .nil);rw[Ù.mp hx];omega
   ·simp only[Å2,Ã2,or_false] at hp;rcases hp with rfl | rfl <;> omega
  ·refine(a00 (V40 (m:=m) ∅ ∅) ?_ :)
   refine ip (by rw[È,û];simp only[most];omega) (x92 (I:=ZI) (λx=>x) hz1 (λx hx z3 hz3=>?_) λys z3 hz3 hs=>?_)
   ·refine(h50 k 2 hz3 1e1 1e1).imp λs z4 ⟨hz4,a,e,a1⟩=>?_
    subst e;exact⟨hz4,(a:Int) == 1,rfl,λ_=>⟨rfl,rfl⟩⟩
   ·rw[Ö8,h52] at hs;obtain⟨l,rfl,hl⟩:=P51 hs;cases l with
    |nil =>
     refine⟨hz3,[m.toNat - 1],?_,by simp,.cons (λ_ h=>nomatch h) .nil,λq hq=>by rw[Ù.mp hq];omega⟩
     show S.d (.tup [.int (m - 1)])=S.d (.tup [.int ((m.toNat - 1:Nat):Int)]);rw[show(m - 1)=((m.toNat - 1:Nat):Int) by omega]
    |cons p r=>exact⟨hz3,p::r,rfl,by simp,ß9.sublist hl È8,λq hq=>by have:=À1.mp (hl.mem hq);omega⟩
section
variable (ps:List (Int × Int))
abbrev tA(n:Nat):Nat:=(ps.getD n (0,0)).1.toNat
abbrev tB(n:Nat):Nat:=(ps.getD n (0,0)).2.toNat
def t60(mk:List Int)(n:Nat):List Int:=mk.map λx=>if x=mk.getD (tB ps n) 0 then mk.getD (tA ps n) 0 else x
def z90(m:Nat)(lot:List Nat):List Int:=lot.foldl (t60 ps) ((ò m).map λ(i:Nat)=>(i:Int))
def y72(mk:List Int)(pl:List Nat):Bool:=pl.all λp=>mk.getD p 0 == mk.getD (pl.getD 0 0) 0
def g50(m:Nat)(pl lot:List Nat):Bool:=y72 (z90 ps m lot) pl
variable {ps}
def O90(mk:List Int)(n:Nat):(t60 ps mk n).length=mk.length:=È _
def step_get(h:x < mk.length):(t60 ps mk n).getD x 0=if mk.getD x 0=mk.getD (tB ps n) 0 then mk.getD (tA ps n) 0 else mk.getD x 0:=by
 unfold t60;rw[Ü,Û,á h];simp[Ü,á h]
def D21:(z90 ps m lot).length=m:=by
 unfold z90;have:∀ (l:List Nat) (mk:List Int),(l.foldl (t60 ps) mk).length=mk.length:=by
  intro l
  induction l with
  |nil=>intro mk;rfl|cons n r ih=>intro mk;rw[List.foldl_cons,ih,O90]
 rw[this];simp
theorem o21(hr:∀ n < ps.length,tA ps n < m/\tB ps n < m):∀ (lot:List Nat) (mk:List Int),mk.length=m->(∀ n∈lot,n < ps.length) ->
 (∀ x y,x < m->y < m->mk.getD x 0=mk.getD y 0->(lot.foldl (t60 ps) mk).getD x 0=(lot.foldl (t60 ps) mk).getD y 0)/\(∀ n∈lot,(lot.foldl (t60 ps) mk).getD (tA ps n) 0=(lot.foldl (t60 ps) mk).getD (tB ps n) 0) /\
 ∀ f:Nat->Int,(∀ x y,x < m->y < m->mk.getD x 0=mk.getD y 0->f x=f y)->(∀ n∈lot,f (tA ps n)=f (tB ps n))->∀ x y,x < m->y < m->(lot.foldl (t60 ps) mk).getD x 0=(lot.foldl (t60 ps) mk).getD y 0->f x=f y:=by
 intro lot
 induction lot with
 |nil=>exact λmk _ _=>⟨λ_ _ _ _ h=>h,(λ_ h=>nomatch h),λf h _=>h⟩
 |cons n r ih =>
  intro mk hl hn;obtain⟨ha,hb⟩:=hr n (hn n Ì);obtain⟨i1,i2,i3⟩:=ih (t60 ps mk n) (by rw[O90];exact hl) λk hk=>hn k (Ë _ hk)
  have st:∀ x,x < m->(t60 ps mk n).getD x 0=if mk.getD x 0=mk.getD (tB ps n) 0 then mk.getD (tA ps n) 0 else mk.getD x 0:=λx hx=>step_get ∅
  refine⟨λx y hx hy h=>i1 x y hx hy (by rw[st x hx,st y hy,h]),λk hk=>?_,λf h1 h2=>?_⟩
  ·rcases ï.mp hk with rfl | hk
   ·refine i1 _ _ ha hb ?_;rw[st _ ha,st _ hb,if_pos rfl];split <;> rfl
   ·exact i2 k hk
  ·refine i3 f (λx y hx hy h=>?_) λk hk=>h2 k (Ë _ hk);have e:=h2 n Ì;rw[st x hx,st y hy] at h;split at h
   ·rename_i hxb;have fx:=h1 _ _ hx hb hxb;split at h
    ·rename_i hyb;rw[fx,h1 _ _ hy hb hyb]
    ·rw[fx,← e];exact h1 _ _ ha hy h
   ·split at h
    ·rename_i hyb;rw[h1 _ _ hy hb hyb,← e];exact h1 _ _ hx ha h
    ·exact h1 _ _ hx hy h
def W00(h:x < m):(((ò m).map λ(i:Nat)=>(i:Int))).getD x 0=(x:Int):=by
 rw[Ü,Û,Î7 h];rfl
def P00{m:Nat}(hr:∀ n < ps.length,tA ps n < m/\tB ps n < m){pl lot:List Nat}(hp:∀ p∈pl,p < m)(hl:∀ n∈lot,n < ps.length):g50 ps m pl lot=true↔∀ f:Nat->Int,(∀ n∈lot,f (tA ps n)=f (tB ps n))->∀ p∈pl,f p=f (pl.getD 0 0):=by
 obtain⟨_,h2,h3⟩:=o21 hr lot ((ò m).map λ(i:Nat)=>(i:Int)) (by simp) hl
 unfold g50 y72;rw[Ä6];have h0:∀ p∈pl,pl.getD 0 0 < m:=λp hp'=>by
  cases pl with
  |nil=>cases hp'
  |cons q r=>exact hp q Ì
 constructor
 ·intro h f hf p hp';refine h3 f (λx y hx hy e=>?_) hf p _ (hp p hp') (h0 p hp') (beq_iff_eq.mp (h p hp'));rw[W00 hx,W00 hy] at e;rw[Int.ofNat_inj.mp e]
 ·intro h p hp';rw[beq_iff_eq];exact h (λx=>(z90 ps m lot).getD x 0) h2 p hp'
def good_mono{m:Nat}(hr:∀ n < ps.length,tA ps n < m/\tB ps n < m){pl a b:List Nat}(hp:∀ p∈pl,p < m)(hb:∀ n∈b,n < ps.length)(hab:∀ n∈a,n∈b)(h:g50 ps m pl a=true):g50 ps m pl b=true:=
 (P00 hr hp hb).mpr λf hf=>(P00 hr hp λn hn=>hb n (hab n hn)).mp h f λn hn=>hf n (hab n hn)
end
section
variable (g:List Nat->Bool) (c:Nat->Int × Int)
variable {g c}
def f10:Nat->List (List Nat)
 |0=>[[]]|j + 1=>f10 j++(f10 j).map (·++[j])
theorem y30:∀ {j:Nat}{lot:List Nat},lot∈f10 j->∀ n∈lot,n < j
 |0,lot,h,n,hn=>by rw[Ù.mp h] at hn;cases hn
 |j + 1,lot,h,n,hn=>by
  rcases Á2.mp h with h | h
  ·exact Æ8 (y30 h n hn)
  ·obtain⟨l,hl,rfl⟩:=Ò.mp h;rcases Á2.mp hn with hn | hn
   ·exact Æ8 (y30 hl n hn)
   ·rw[Ù.mp hn];exact Ï6 j
end
def itE{it:It}{e:Ex}{l:List S}{ρ:Env}(h:T00 l=true):v61 it e l ρ=T10 it e l ρ:=by unfold v61;rw[h,S90];rfl
theorem i90:∀ l:List Nat,s80 (l.map a40)=true
 |[]=>rfl|_::r=>i90 r
structure Row(x:D)(lot:List Nat):Prop where
 sq:m31 x=some (lot.map a40)
 br:b32 x=true
def Row.t(lot:List Nat):Row (.tup (lot.map a40)) lot:=⟨rfl,i90 lot⟩
def Row.ba(h:Row x lot):T00 [.d x]=true:=by
 show(b32 x&&true)=true;rw[h.br];rfl
def D31{mk:List Int}{a:Int}(h0:0<=a)(h:a.toNat < mk.length):e91 (.lst (mk.map D.int)) (.int a)=some (.int (mk.getD a.toNat 0)):=by
 obtain⟨n,rfl⟩:=Ë3 h0;rw[Â6] at h ⊢;rw[Ü,á h];exact g92 (g82 h)
def V31{ps:List (Int × Int)}{n:Nat}(h:n < ps.length):e91 (.tup (ps.map pr)) (.int n)=some (pr (ps.getD n (0,0))):=by
 rw[Ü,á h];exact y22 (by rw[Û,á h];rfl)
def getD_mem{ps:List (Int × Int)}{n:Nat}(h:n < ps.length):ps.getD n (0,0)∈ps:=by
 rw[Ü,á h];exact Ç4 h
def d90.rng{m:Int}{ps:List (Int × Int)}(g:d90 m ps):∀ n < ps.length,tA ps n < m.toNat/\tB ps n < m.toNat:=λn hn=>by
 have:=g.tie _ (getD_mem hn);unfold tA tB;omega
def P42(a b:Int):D->D
 |.int v=>.int (if v=b then a else v)|x=>x
def h62{F:FT}{z:Z}{mk:List Int}(a b:Int){Q:List D->Z->Prop}{E:Nat->Z->Prop}(q:Q ((mk.map λx=>if x=b then a else x).map D.int) z):W (turns (r50 (ev F .nil) (ev F (.ite (.cmp .eq (.var 0) (.var 2)) (.var 1) (.var 0))) (.v 0) [none,some (.d (.int a)),some (.d (.int b))]) (mk.map D.int)) z Q E:=by
 refine p01 (P42 a b) (λx hx=>?_) ?_
 ·obtain⟨v,_,rfl⟩:=Ò.mp hx;refine ib (b:=v == b) (λh=>⟨?_,rfl⟩) λh=>⟨?_,rfl⟩
  ·show D.int a=.int (if v=b then a else v);rw[if_pos (beq_iff_eq.mp h)]
  ·show D.int v=.int (if v=b then a else v);rw[if_neg (by simpa using h)]
 ·have e:(mk.map D.int).map (P42 a b)=(mk.map λx=>if x=b then a else x).map D.int:=by rw[Ã8,Ã8];rfl
  rw[e];exact q
def b61(k:Nat){m:Int}{ps:List (Int × Int)}(g:d90 m ps){x:D}{lot:List Nat}(hx:Row x lot)(hl:∀ n∈lot,n < ps.length)(z:Z):b50 T (k + 3) I70 [.d (y20 m ps),.d x] z=some (.ok (.fr ((z90 ps m.toNat lot).map D.int)) z):=by
 have m6:=g.m6;have m1:=g.m1;refine W.ok (i80 (ps:=2) (ns:=10) (b:=x90) rfl rfl 1e1 ?_)
 refine(a00 (o:=lrD [.int m]) (V40 ∅ ∅) ?_ :)
 refine a00 (o:=m31 x) hx.sq ?_;refine O40 (λxs ρ z1=>z1=z/\∃ (rest:List Nat) (mk:List Int) (o5 o6 o7 o8 o9:Option S),xs=rest.map a40/\(∀ n∈rest,n < ps.length)/\mk.length=m.toNat/\rest.foldl (t60 ps) mk=z90 ps m.toNat lot/\ρ=[some (.d (y20 m ps)),some (.d x),some (.d (.int m)),some (.d (.tup (ps.map pr))),some (.fr (mk.map D.int)),o5,o6,o7,o8,o9]) _ ⟨rfl,lot,(ò m.toNat).map λ(i:Nat)=>(i:Int),none,none,none,none,none,rfl,hl,by simp,rfl,(itE hx.ba).trans ?_⟩ ?_ ?_
 ·rw[← P21];rfl
 ·rintro y r ρ z1 ⟨rfl,rest,mk,o5,o6,o7,o8,o9,e,hr,hm,hf,rfl⟩;cases rest with
  |nil=>cases e
  |cons n rest =>
   cases e;have hn:=hr n Ì;have ht:=g.tie _ (getD_mem hn);refine(a00 (V31 hn) ?_ :);refine(a00 (D31 (mk:=mk) ht.1 ∅) ?_ :)
   refine(a00 (D31 (mk:=mk) (a:=(ps.getD n (0,0)).2) ∅ ∅) ?_ :)
   refine ip (by rw[È];simp only[most];omega) (h62 _ _ ?_)
   exact⟨rfl,rest,t60 ps mk n,_,_,_,_,_,rfl,λk hk=>hr k (Ë _ hk),by rw[O90];exact hm,hf,rfl⟩
 ·rintro ρ z1 ⟨rfl,rest,mk,o5,o6,o7,o8,o9,e,hr,hm,hf,rfl⟩;cases rest with
  |nil=>exact sd (by rw[← hf];rfl)|cons _ _=>cases e
section
variable {m:Int}{ps:List (Int × Int)}{pl lot:List Nat}
def y82{mk:List Int}{p:Nat}(h:p < mk.length):e91 (.lst (mk.map D.int)) (.int p)=some (.int (mk.getD p 0)):=D31 (a:=(p:Int)) ∅ (by rw[Â6];exact h)
def V41(h:pl≠[]):e91 (.tup (pl.map a40)) (.int 0)=some (a40 (pl.getD 0 0)):=by
 cases pl with
 |nil=>exact absurd rfl h|cons p r=>exact y22 (j:=0) rfl
def l40.p0(hp:l40 m pl):pl.getD 0 0 < m.toNat:=by
 have h:=hp.ne;have h2:=hp.lt;cases pl with
 |nil=>exact absurd rfl h|cons p r=>have:=h2 p Ì;show p < _;omega
def eqM(mk:List Int)(p0:Nat):D->Bool
 |.int p=>mk.getD p.toNat 0 == mk.getD p0 0|_=>false
def h72(l:List Nat):(l.map a40).all (eqM mk p0)=l.all λp=>mk.getD p 0 == mk.getD p0 0:=by rw[all_map];rfl
def v80(k:Nat)(g:d90 m ps)(hp:l40 m pl){x:D}(hx:Row x lot)(hl:∀ n∈lot,n < ps.length)(z:Z):b50 T (k + 4) p20 [.d (y20 m ps),.d x,.d (.tup (pl.map a40))] z=some (.ok (.d (.bl (g50 ps m.toNat pl lot))) z):=by
 have hlen:=hp.len g.m6;refine W.ok (i80 (ps:=3) (ns:=4) (b:=p40) rfl rfl 1e1 (Wo (b61 k g hx hl z) ?_))
 have ml:(z90 ps m.toNat lot).length=m.toNat:=D21;generalize hmk:z90 ps m.toNat lot=mk at ml;refine ip (by rw[È];simp only[most];omega) (p01 (λx=>.bl (eqM mk (pl.getD 0 0) x)) (λy hy=>?_) (a00 (z60 _ (eqM mk (pl.getD 0 0))) ?_ :))
 ·obtain⟨p,hp',rfl⟩:=Ò.mp hy;have:=hp.lt p hp';refine(a00 (y82 (mk:=mk) (p:=p) ∅) ?_ :)
  refine(a00 (V41 hp.ne) ?_ :);refine(a00 (y82 (mk:=mk) (by rw[ml];exact hp.p0)) ?_ :)
  exact⟨rfl,rfl⟩
 ·refine sb (b:=(pl.map a40).all (eqM mk (pl.getD 0 0))) ?_;rw[h72,← hmk];rfl
def b71(h:okD (.lst l)=true):t80 .eq (.lst l) (.lst [])=some l.isEmpty:=by
 show(if okD (.lst l)&&okD (.lst []) then some (eqD (.lst l) (.lst [])) else eqE (.lst l) (.lst []))=_;rw[h];cases l <;> rfl
def r20(l:List Nat):okD (.lst (l.map a40))=true:=by
 have e:l.map a40=(l.map λ(n:Nat)=>(n:Int)).map D.int:=by rw[Ã8];rfl
 rw[e];exact C21 _
end
def c30(l:List Nat):D:=.tup (l.map a40)
theorem B60:∀ {j:Nat}{lot:List Nat},lot∈f10 j->lot.length<=j
 |0,lot,h=>by rw[Ù.mp h];exact Î _
 |j + 1,lot,h=>by
  rcases Á2.mp h with h | h
  ·exact Nat.le_succ_of_le (B60 h)
  ·obtain⟨l,hl,rfl⟩:=Ò.mp h;rw[U91];exact Nat.succ_le_succ (B60 hl)
theorem B70:∀ j:Nat,(f10 j).length=2 ^ j
 |0=>rfl
 |j + 1=>by
  show(f10 j++(f10 j).map (·++[j])).length=_;rw[ù,È,B70 j,Nat.pow_succ];omega
def D41(h:j<=8):2 ^ j<=256:=Ö0 (n:=2) 1e1 h
def add_l(h:a.length + b.length<=1000):H80 .add (.lst a) (.lst b)=some (.fr (a++b)):=by
 show(if a.length + b.length<=most then some (S.fr (a++b)) else none)=_;rw[if_pos (f90 h)]
def b81(h:a.length + b.length<=1000):H80 .add (.tup a) (.tup b)=some (.d (.tup (a++b))):=by
 show(if a.length + b.length<=most then some (S.d (.tup (a++b))) else none)=_;rw[if_pos (f90 h)]
def P52(j:Nat):D->D
 |.tup l=>.tup (l++[a40 j])|x=>x
def P61:((f10 j).map c30).map (P52 j)=((f10 j).map (·++[j])).map c30:=by
 rw[Ã8,Ã8];refine Ç0 λl _=>?_;show D.tup (l.map a40++[a40 j])=.tup ((l++[j]).map a40);rw[Á3];rfl
def P10{n:Nat}(h:n < 100000):itD .rng1 [.int n]=some ((Ä9 0 n).map a40):=by
 rw[V40 ∅ ∅,Â6,Ç9];rfl
theorem i61(n:Nat):∀ l:List Nat,memD (a40 n) (l.map a40)=decide (n∈l)
 |[]=>rfl
 |x::r=>by
  show((x:Int) == (n:Int) || memD (a40 n) (r.map a40))=_;rw[i61 n r,Â7,Å9,beq_iff_eq,decide_eq_true_eq,decide_eq_true_eq,Å2];constructor
  ·rintro (h | h)
   ·exact .inl ∅
   ·exact .inr h
  ·rintro (h | h)
   ·exact .inl ∅
   ·exact .inr h
def v90(l:List Nat):G90 (l.map a40)=true:=by
 have e:l.map a40=(l.map λ(n:Nat)=>(n:Int)).map D.int:=by rw[Ã8];rfl
 obtain⟨h1,h2⟩:=G00 (l.map λ(n:Nat)=>(n:Int));unfold G90;rw[e,h1,h2];rfl
def y40{n:Nat}{l:List Nat}:o71 (a40 n) (l.map a40)=some (decide (n∈l)):=by
 unfold o71;rw[v90,i61];rfl
section
variable {m:Int}{ps cs:List (Int × Int)}{pl:List Nat}
def D51(g:d90 m ps)(hp:l40 m pl):∀ a b:List Nat,(∀ n∈b,n < ps.length)->(∀ n∈a,n∈b)->g50 ps m.toNat pl a=true->g50 ps m.toNat pl b=true:=λ_ _ hb hab h=>good_mono g.rng (λp q=>by have:=hp.lt p q;omega) hb hab h
end
def D61(h0:0 < b):(E10 t b).1 * b=(E10 t b).2 * t:=by
 obtain⟨e1,e2⟩:=b51 (t:=t) h0;generalize (E10 t b).1=x at *
 generalize (E10 t b).2=y at *
 generalize ((gcd t b:Nat):Int)=k at *
 rw[e1,e2]
 grind
def r60(k:Nat):List (List Nat):=(TS.sN k).map (TS.D00 k 0)
def W10(h:k<=8):f10 k=(ò (2 ^ k)).map (TS.D00 k 0):=by
 have:∀ k,k < 9->f10 k=(ò (2 ^ k)).map (TS.D00 k 0):=by decide +kernel
 exact this k ∅
def w00(h:k<=8):(r60 k).Perm (f10 k):=by
 have:∀ k,k < 9->(TS.sN k).isPerm (ò (2 ^ k))=true:=by decide +kernel
 rw[W10 h];exact(List.isPerm_iff.mp (this k ∅)).map _
def y92(h:k<=8):(f10 k).map c30=i00 k:=by
 rw[W10 h];unfold i00;rw[Ã8];rfl
def b91(h:k<=8):bfD .sorted [.lst ((f10 k).map c30)]=some (.fr ((r60 k).map c30)):=by
 have h1:∀ k,k < 9->n70 (i00 k)=false:=by decide +kernel
 have h2:∀ k,k < 9->((ò 9).find? λj=>X30 (i00 k) (i00 j))=some k:=by decide +kernel
 rw[y92 h];show(if (i00 k).length < 64/\n70 (i00 k)=true then some (S.fr (u60 (i00 k))) else((((ò 9).find? λj=>X30 (i00 k) (i00 j)).map L61).map S.fr))=_;rw[if_neg (λq=>by rw[h1 k ∅] at q;cases q.2),h2 k ∅]
 show some (S.fr (L61 k))=some (S.fr ((r60 k).map c30));rw[r60,Ã8];rfl
def P20{i:Nat}(hi:T[i]?=some (.code 1 3 r00))(k:Nat){m:Int}{ts:List D}(h8:ts.length<=8)(z:Z):b50 T (k + 3) i [.d (.tup [.int m,.tup ts])] z=some (.ok (.fr ((r60 ts.length).map c30)) z):=by
 refine W.ok (i80 (ps:=1) (ns:=3) (b:=r00) hi rfl 1e1 ?_)
 refine(a00 (P10 (n:=ts.length) ∅) ?_ :)
 refine O40 (λxs ρ z1=>z1=z/\∃ (j r:Nat) (o2:Option S),j + r=ts.length/\xs=(Ä9 j r).map a40/\ρ=[some (.d (.tup [.int m,.tup ts])),some (.fr ((f10 j).map c30)),o2]) _ ⟨rfl,0,ts.length,none,Nat.zero_add _,rfl,rfl⟩ ?_ ?_
 ·rintro x r ρ z1 ⟨rfl,j,r',o2,hj,e,rfl⟩;cases r' with
  |zero=>cases e
  |succ r' =>
   rw[Ó2] at e;cases e;have hp:=D41 (j:=j) ∅
   refine ip (by rw[È,B70];simp only[most];omega) (p01 (P52 j) (λy hy=>?_) ?_)
   ·obtain⟨l,hl,rfl⟩:=Ò.mp hy;have:=B60 hl;refine(a00 (b81 (a:=l.map a40) (b:=[a40 j]) (by rw[È];show _ + 1<=_;omega)) ?_ :)
    exact⟨rfl,rfl⟩
   ·rw[P61];refine(a00 (add_l (a:=(f10 j).map c30) (b:=((f10 j).map (·++[j])).map c30) (by rw[È,È,È,B70];omega)) ?_ :)
    refine⟨rfl,j + 1,r',some (.d (a40 j)),∅,rfl,?_⟩
    exact congrArg (λl=>[some (S.d (.tup [.int m,.tup ts])),some (.fr l),some (.d (a40 j))]) Á3.symm
 ·rintro ρ z1 ⟨rfl,j,r',o2,hj,e,rfl⟩;cases r' with
  |zero =>
   have hj:j=ts.length:=hj;subst hj;refine(a00 (b91 h8) ?_ :);exact sd rfl
  |succ r'=>rw[Ó2] at e;cases e
def G10(k:Nat){m:Int}{ts:List D}(h8:ts.length<=8)(z:Z):b50 T (k + 3) x50 [.d (.tup [.int m,.tup ts])] z=some (.ok (.fr ((r60 ts.length).map c30)) z):=P20 rfl k h8 z
def o00:D->List Nat
 |.tup l=>l.map λx=>match x with | .int i=>i.toNat | _=>0
 |_=>[]
def e90(l:List Nat):o00 (c30 l)=l:=by
 show(l.map a40).map _=l;rw[Ã8];exact map_id l
def D71(h:k<=8)(hl:lot∈r60 k):∀ n∈lot,n < k:=y30 ((w00 h).mem_iff.mp hl)
def r30(h:k<=8):(r60 k).length<=256:=by rw[(w00 h).length_eq,B70];exact D41 h
section
variable {m:Int}{ps cs:List (Int × Int)}{pl:List Nat}
abbrev k80(m:Int)(ps:List (Int × Int))(pl:List Nat):List (List Nat):=(r60 ps.length).filter (g50 ps m.toNat pl)
def A00(k:Nat)(g:d90 m ps)(hp:l40 m pl)(z:Z):b50 T (k + 9) e30 [.d (y20 m ps),.d (.tup (pl.map a40))] z=some (.ok (.fr ((k80 m ps pl).map c30)) z):=by
 have h8:=g.len;have h6:=hp.len g.m6;refine W.ok (i80 (ps:=2) (ns:=2) (b:=j70) rfl rfl 1e1 (Wo (k70 k z g.web) (Wo (p90 (k + 2) (t:=.tup (ps.map pr)) z hp.pls (decide_eq_true (by rw[È];omega))) (Wo (G10 (k + 5) (m:=m) (ts:=ps.map pr) (by rw[È];exact h8) z) ?_))))
 rw[È];refine ip (by rw[È];exact f90 (Ó (r30 h8) 1e1)) (h61 (λx=>g50 ps m.toNat pl (o00 x)) id (λx hx=>?_) ?_)
 ·obtain⟨l,hl,rfl⟩:=Ò.mp hx;refine Wo (v80 (k + 4) g hp (Row.t l) (D71 h8 hl) z) ⟨?_,rfl,λ_=>⟨rfl,rfl⟩⟩;rw[e90]
 ·refine sd ?_;rw[map_id,É3];have:(r60 ps.length).filter ((λx=>g50 ps m.toNat pl (o00 x)) ∘ c30)=k80 m ps pl:=É7 λl _=>by show g50 ps m.toNat pl (o00 (c30 l))=_;rw[e90]
  rw[this]
end
def k00(j:Nat)(lot:List Nat):List Nat:=(ò j).filter λn=>!lot.contains n
def tl:Sm->Sm
 |.seq _ r=>r|s=>s
structure Bs(n:Nat)(c:Int × Int):Prop where
 t:c.1.natAbs<=2 ^ n
 b0:0 < c.2
 b:c.2.natAbs<=2 ^ n
def D81{n m:Nat}{i j:Int}(hi:i.natAbs<=2 ^ n)(hj:j.natAbs<=2 ^ m):(i * j).natAbs<=2 ^ (n + m):=by
 rw[natAbs_mul,Nat.pow_add];exact Nat.mul_le_mul hi hj
def D91(h0:0 < b):(E10 t b).1.natAbs<=t.natAbs/\(E10 t b).2.natAbs<=b.natAbs:=by
 obtain⟨e1,e2⟩:=b51 (t:=t) h0;have g0:=C91 (t:=t) h0;generalize E10 t b=v at *
 generalize hg:gcd t b=g at *
 have g1:1<=g:=∅
 constructor
 ·rw[e1,natAbs_mul,Int.natAbs_natCast];exact á0 _ g1
 ·rw[e2,natAbs_mul,Int.natAbs_natCast];exact á0 _ g1
structure Rt(v:Int × Int)(t b:Int):Prop where
 b0:0 < v.2
 one:gcd v.1 v.2=1
 eq:v.1 * b=t * v.2
def Rt.low{t b:Int}(hb:0 < b):Rt (E10 t b) t b:=⟨D01 hb,h32 hb,by rw[D61 hb,Int.mul_comm]⟩
def Rt.conv{v:Int × Int}{t b t' b':Int}(h:Rt v t b)(hb:0 < b)(e:t * b'=t' * b):Rt v t' b':=by
 refine⟨h.b0,h.one,Ð7 (a:=b) ∅ ?_⟩
 have:=h.eq
 calc v.1 * b' * b=(v.1 * b) * b':=by grind
  _=(t * b') * v.2:=by rw[this];grind
  _=t' * v.2 * b:=by rw[e];grind
def Rt.eqv{v w:Int × Int}{t b:Int}(hv:Rt v t b)(hw:Rt w t b)(hb:0 < b):v=w:=by
 have e:v.1 * w.2=w.1 * v.2:=by
  have h1:=hv.eq;have h2:=hw.eq;refine Ð7 (a:=b) ∅ ?_
  calc v.1 * w.2 * b=(v.1 * b) * w.2:=by grind
   _=(t * w.2) * v.2:=by rw[h1];grind
   _=w.1 * v.2 * b:=by rw[← h2];grind
 obtain⟨a,b'⟩:=n91 hv.b0 hw.b0 hv.one hw.one e;exact Prod.ext a b'
def Rt.add{v w:Int × Int}{t b t' b':Int}(hv:Rt v t b)(hw:Rt w t' b'):Rt (E10 (v.1 * w.2 + w.1 * v.2) (v.2 * w.2)) (t * b' + t' * b) (b * b'):=by
 have y:=mul_pos hv.b0 hw.b0;refine(Rt.low y).conv y ?_;have h1:=hv.eq;have h2:=hw.eq
 calc (v.1 * w.2 + w.1 * v.2) * (b * b')=(v.1 * b) * (w.2 * b') + (w.1 * b') * (v.2 * b):=by grind
  _=(t * b' + t' * b) * (v.2 * w.2):=by rw[h1,h2];grind
def Rt.mul{v w:Int × Int}{t b t' b':Int}(hv:Rt v t b)(hw:Rt w t' b'):Rt (E10 (v.1 * w.1) (v.2 * w.2)) (t * t') (b * b'):=by
 have y:=mul_pos hv.b0 hw.b0;refine(Rt.low y).conv y ?_;have h1:=hv.eq;have h2:=hw.eq
 calc v.1 * w.1 * (b * b')=(v.1 * b) * (w.1 * b'):=by grind
  _=t * t' * (v.2 * w.2):=by rw[h1,h2];grind
def Bs.low{n:Nat}{t b:Int}(h0:0 < b)(ht:t.natAbs<=2 ^ n)(hb:b.natAbs<=2 ^ n):Bs n (E10 t b):=
 ⟨Ó (D91 h0).1 ht,D01 h0,Ó (D91 h0).2 hb⟩
def Bs.mul{n:Nat}{c d:Int × Int}(hc:Bs n c)(hd:Bs n d):Bs (n + n) (E10 (c.1 * d.1) (c.2 * d.2)):=.low (mul_pos hc.b0 hd.b0) (D81 hc.t hd.t) (D81 hc.b hd.b)
section
variable {m:Int}{ps cs:List (Int × Int)}{pl:List Nat}
def P30{j n:Nat}{lot:List Nat}(h:n∈k00 j lot):n < j:=À1.mp (Ô4.mp h).1
def P40(k:Nat)(h8:ps.length<=8)(lot:List Nat)(z:Z):b50 T (k + 3) z20 [.d (y20 m ps),.d (c30 lot)] z=some (.ok (.d (c30 (k00 ps.length lot))) z):=by
 refine W.ok (i80 (ps:=2) (ns:=2) (b:=p50) rfl rfl 1e1 ?_)
 refine(a00 (o:=itD .rng1 [.int ((ps.map pr).length:Nat)]) (P10 (n:=(ps.map pr).length) (by rw[È];omega)) ?_ :)
 rw[È];refine ip (by rw[È,Ø7];exact f90 ∅) (h61 (λx=>match x with | .int i=>!lot.contains i.toNat | _=>false) id (λx hx=>?_) ?_)
 ·obtain⟨n,hn,rfl⟩:=Ò.mp hx;refine(a00 (o:=(o71 (a40 n) (lot.map a40)).map (!·)) (a:=!lot.contains n) (by rw[y40,Õ5];rfl) ?_ :)
  exact⟨rfl,rfl,λ_=>⟨rfl,rfl⟩⟩
 ·rw[map_id,É3];refine sd ?_;rw[È,← Ç9];rfl
def E01(k:Nat)(g:d90 m ps)(hp:l40 m pl)(lot:List Nat)(z:Z):b50 T (k + 5) h91 [.d (y20 m ps),.d (c30 lot),.d (.tup (pl.map a40))] z=some (.ok (.d (.bl (!g50 ps m.toNat pl (k00 ps.length lot)))) z):=by
 refine W.ok (i80 (ps:=3) (ns:=3) (b:=O70) rfl rfl 1e1 (Wo (P40 (k + 1) g.len lot z) (Wo (v80 k g hp (Row.t _) (λn hn=>P30 hn) z) ?_)))
 exact sd rfl
abbrev w10(m:Int)(ps:List (Int × Int))(pl:List Nat):List (List Nat):=(r60 ps.length).filter λl=>!g50 ps m.toNat pl (k00 ps.length l)
def E11(k:Nat)(g:d90 m ps)(hp:l40 m pl)(z:Z):b50 T (k + 9) z30 [.d (y20 m ps),.d (.tup (pl.map a40))] z=some (.ok (.fr ((w10 m ps pl).map c30)) z):=by
 have h8:=g.len;have h6:=hp.len g.m6;refine W.ok (i80 (ps:=2) (ns:=2) (b:=V10) rfl rfl 1e1 (Wo (k70 k z g.web) (Wo (p90 (k + 2) (t:=.tup (ps.map pr)) z hp.pls (decide_eq_true (by rw[È];omega))) (Wo (G10 (k + 5) (m:=m) (ts:=ps.map pr) (by rw[È];exact h8) z) ?_))))
 rw[È];refine ip (by rw[È];exact f90 (Ó (r30 h8) 1e1)) (h61 (λx=>!g50 ps m.toNat pl (k00 ps.length (o00 x))) id (λx hx=>?_) ?_)
 ·obtain⟨l,hl,rfl⟩:=Ò.mp hx;refine Wo (E01 (k + 3) g hp l z) ⟨?_,rfl,λ_=>⟨rfl,rfl⟩⟩;rw[e90]
 ·refine sd ?_;rw[map_id,É3];have:(r60 ps.length).filter ((λx=>!g50 ps m.toNat pl (k00 ps.length (o00 x))) ∘ c30)=w10 m ps pl:=É7 λl _=>by show(!g50 ps m.toNat pl (k00 ps.length (o00 (c30 l))))=_;rw[e90]
  rw[this]
end
theorem q10:∀ {j:Nat}{lot:List Nat},lot∈f10 j->lot.Pairwise (· < ·)
 |0,lot,h=>by
  have:lot=[]:=by simpa [f10] using h
  subst this;exact .nil
 |j + 1,lot,h=>by
  rcases Á2.mp (show lot∈f10 j++(f10 j).map (·++[j]) from h) with h | h
  ·exact q10 h
  ·obtain⟨x,hx,rfl⟩:=Ò.mp h;rw[List.pairwise_append];refine⟨q10 hx,à6 _ _,λa ha b hb=>?_⟩;rw[Ù] at hb;subst hb;exact y30 hx a ha
theorem i71:∀ ns:List Int,w90 (ns.map D.int)=some ns
 |[]=>rfl
 |n::r=>by
  show(w90 (r.map D.int)).map (n::·)=_;rw[i71 r];rfl
section
variable {m:Int}{ps cs:List (Int × Int)}
theorem j00:∀ ls:List (List Nat),s80 (ls.map c30)=true
 |[]=>rfl
 |l::r=>by
  show(s80 (l.map a40)&&s80 (r.map c30))=true;rw[j00 r,i90 l];rfl
end
theorem P50:∀ {K:Nat}{l:List Nat},l.Pairwise (· < ·)->(∀ n∈l,n < K)->l∈f10 K
 |0,l,_,h=>by
  cases l with
  |nil=>exact Ù.mpr rfl|cons a r=>exact absurd (h a Ì) (Ò2 _)
 |K + 1,l,hp,h=>by
  show l∈f10 K++(f10 K).map (·++[K]);by_cases hk:K∈l
  ·obtain⟨s,t,rfl⟩:=List.append_of_mem hk;rw[List.pairwise_append] at hp;obtain⟨p1,p2,p3⟩:=hp;have ht:t=[]:=by
    cases t with
    |nil=>rfl
    |cons b r =>
     have h1:=List.rel_of_pairwise_cons p2 Ì;have h2:=h b (ì _ (Ë _ Ì));omega
   subst ht;refine ì _ (Ò.mpr ⟨s,P50 p1 λn hn=>p3 n hn K Ì,rfl⟩)
  ·refine Å0 _ (P50 hp λn hn=>?_);have:=h n hn;have:n≠K:=λe=>hk (e ▸ hn);omega
def P71{K:Nat}{l:List Nat}(h:l∈f10 K)(i:Nat):l.eraseIdx i∈f10 K:=
 P50 ((q10 h).sublist (Ô8 ..)) λn hn=>y30 h n ((Ô8 ..).mem hn)
def h82(l:List Nat):List (List Nat):=(ò l.length).map l.eraseIdx
def h60(ls:List (List Nat)):List (List Nat):=ls.filter λl=>!(h82 l).any λx=>ls.contains x
def W20{ls:List (List Nat)}{x:List Nat}(h:x∈h60 ls):x∈ls:=(Ô4.mp h).1
section
variable {m:Int}{ps cs:List (Int × Int)}{pl:List Nat}
def n10(g:d90 m ps){l:List Nat}:l∈k80 m ps pl↔l∈f10 ps.length/\g50 ps m.toNat pl l=true:=by
 rw[Ð9,(w00 g.len).mem_iff]
def t70(g:d90 m ps){l:List Nat}:l∈w10 m ps pl↔l∈f10 ps.length/\g50 ps m.toNat pl (k00 ps.length l)=false:=by
 rw[Ð9,(w00 g.len).mem_iff,î]
def E21{K n:Nat}{l:List Nat}:n∈k00 K l↔n < K/\n ∉ l:=by
 unfold k00;rw[Ð9,Ö6,î,Õ5,decide_eq_false_iff_not]
end
def P62:D->Nat
 |.int i=>i.toNat|_=>0
def z02(l:List D)(p:D->Bool):bfD .any [.lst (l.map λx=>D.bl (p x))]=some (.d (.bl (l.any p))):=by
 have:∀ l:List D,(l.map λx=>D.bl (p x)).mapM asB=some (l.map p):=λl=>by
  induction l with
  |nil=>rfl
  |cons x r ih =>
   rw[Æ0,Ö9,ih];rfl
 show((l.map λx=>D.bl (p x)).mapM asB).map _=_;rw[this];show some (S.d (.bl ((l.map p).any id)))=_;rw[List.any_map];rfl
def h92{l:List Nat}{i:Nat}(h:i < l.length):cutD (l.map a40) none (some (i:Int))++cutD (l.map a40) (some ((i:Int) + 1)) none=(l.eraseIdx i).map a40:=by
 rw[C71 _ ∅,Â6,show((i:Int) + 1)=((i + 1:Nat):Int) by omega,B50,List.eraseIdx_eq_take_drop_succ,Á3,map_take,List.map_drop]
def i02{l:List Nat}{i:Nat}(hl:l.length<=8)(h:i < l.length):H80 .add (.tup (cutD (l.map a40) none (some (i:Int)))) (.tup (cutD (l.map a40) (some ((i:Int) + 1)) none))=some (.d (c30 (l.eraseIdx i))):=by
 have e1:(cutD (l.map a40) none (some (i:Int))).length<=8:=by rw[C71 _ ∅,Å5,È];omega
 have e2:(cutD (l.map a40) (some ((i:Int) + 1)) none).length<=8:=by rw[show((i:Int) + 1)=((i + 1:Nat):Int) by omega,B50,Ë6,È];omega
 rw[b81 ∅,h92 h];rfl
def G20(k:Nat){l:List Nat}(hl:l.length<=8)(z:Z):b50 T (k + 3) s20 [.d (c30 l)] z=some (.ok (.fr ((h82 l).map c30)) z):=by
 refine W.ok (i80 (ps:=1) (ns:=1) (b:=l20) rfl rfl 1e1 ?_)
 refine(a00 (o:=itD .rng1 [.int ((l.map a40).length:Nat)]) (P10 (n:=(l.map a40).length) (by rw[È];omega)) ?_ :)
 rw[show(l.map a40).length=l.length from È _];refine ip (by rw[È,Ø7];exact f90 ∅) (p01 (λx=>c30 (l.eraseIdx (P62 x))) (λx hx=>?_) ?_)
 ·obtain⟨i,hi,rfl⟩:=Ò.mp hx;have hi:i < l.length:=by rw[← Ç9] at hi;exact À1.mp hi
  refine(a00 (i02 hl hi) ?_ :);exact⟨rfl,rfl⟩
 ·refine sd ?_;rw[Ã8,← Ç9];unfold h82;rw[Ã8];rfl
def G30(l:List Nat):List Int:=l.map λ(n:Nat)=>(n:Int)
def i81(l:List Nat):j62 (c30 l)=some (G30 l):=by
 show w90 (l.map a40)=_;have e:l.map a40=(G30 l).map D.int:=by unfold G30;rw[Ã8];rfl
 rw[e,i71]
theorem W30:∀ ls:List (List Nat),v41 (ls.map c30)=some (ls.map G30)
 |[]=>rfl
 |l::r=>by
  show(j62 (c30 l)).bind (λk=>(v41 (r.map c30)).map (k::·))=_;rw[i81,W30 r];rfl
def P81{a b:List Nat}(h:G30 a=G30 b):a=b:=by
 have:∀ l:List Nat,(G30 l).map Int.toNat=l:=λl=>by
  unfold G30;rw[Ã8];exact map_id l
 rw[← this a,h,this b]
def P91(ls:List (List Nat))(l:List Nat):(ls.map G30).contains (G30 l)=ls.contains l:=by
 rw[Â7,É8,É8,Ò];exact⟨λ⟨x,hx,e⟩=>P81 e ▸ hx,λh=>⟨l,h,rfl⟩⟩
def G40(k:Nat){ls:List (List Nat)}(hn:ls.length<=256)(h8:∀ l∈ls,l.length<=8)(z:Z):b50 T (k + 4) x60 [.d (.lst (ls.map c30))] z=some (.ok (.fr ((h60 ls).map c30)) z):=by
 refine W.ok (i80 (ps:=1) (ns:=2) (b:=y00) rfl rfl 1e1 ?_)
 refine(a00 (o:=b22 (.lst (ls.map c30))) (a:=ls.map G30) (W30 ls) ?_ :);refine ip (by rw[È];exact f90 ∅) (h61 (λx=>!(h82 (o00 x)).any λy=>ls.contains y) id (λx hx=>?_) ?_)
 ·obtain⟨l,hl,rfl⟩:=Ò.mp hx;have hl8:=h8 l hl;refine Wo (G20 k hl8 z) ?_;refine ip (by rw[È];unfold h82;rw[È,û];exact f90 ∅) (p01 (λy=>.bl (ls.contains (o00 y))) (λy hy=>?_) ?_)
  ·obtain⟨x,_,rfl⟩:=Ò.mp hy;refine(a00 (i81 x) ?_ :);refine⟨?_,rfl⟩;rw[P91,e90];cases ls.contains x <;> rfl
  ·refine(a00 (z02 _ λy=>ls.contains (o00 y)) ?_ :);refine⟨?_,rfl,λ_=>⟨rfl,rfl⟩⟩;rw[List.any_map,e90]
   congr 4
   funext y
   show ls.contains (o00 (c30 y))=_;rw[e90]
 ·refine sd ?_;rw[map_id,É3];have:ls.filter ((λx=>!(h82 (o00 x)).any λy=>ls.contains y) ∘ c30)=h60 ls:=É7 λl _=>by show(!(h82 (o00 (c30 l))).any λy=>ls.contains y)=_;rw[e90]
  rw[this]
section
variable {m:Int}{ps:List (Int × Int)}{pl lot:List Nat}
def i91(g:d90 m ps):(k80 m ps pl).length<=256:=Ó (Â0 _ _) (r30 g.len)
def Q01(g:d90 m ps):(w10 m ps pl).length<=256:=Ó (Â0 _ _) (r30 g.len)
def A10(g:d90 m ps){l:List Nat}(h:l∈f10 ps.length):l.length<=8:=Ó (B60 h) g.len
def P60(k:Nat)(g:d90 m ps)(hp:l40 m pl)(z:Z):b50 T (k + 10) e40 [.d (y20 m ps),.d (.tup (pl.map a40))] z=some (.ok (.fr ((h60 (k80 m ps pl)).map c30)) z):=
 W.ok (i80 (ps:=2) (ns:=2) (b:=h00) rfl rfl 1e1 (Wo (A00 k g hp z) (Wo (G40 (k + 5) (i91 g) (λl hl=>A10 g ((n10 g).mp hl).1) z) (sd rfl))))
def P70(k:Nat)(g:d90 m ps)(hp:l40 m pl)(z:Z):b50 T (k + 10) e50 [.d (y20 m ps),.d (.tup (pl.map a40))] z=some (.ok (.fr ((h60 (w10 m ps pl)).map c30)) z):=
 W.ok (i80 (ps:=2) (ns:=2) (b:=h20) rfl rfl 1e1 (Wo (E11 k g hp z) (Wo (G40 (k + 5) (Q01 g) (λl hl=>A10 g ((t70 g).mp hl).1) z) (sd rfl))))
end
theorem E31:∀ ls:List (List Nat),e10 (ls.map c30)=true/\e70 (ls.map c30)<=1
 |[]=>⟨rfl,-0⟩
 |l::r=>by
  obtain⟨h1,h2⟩:=E31 r;have e:l.map a40=(l.map λ(n:Nat)=>(n:Int)).map D.int:=by rw[Ã8];rfl
  obtain⟨g1,g2⟩:=G00 (l.map λ(n:Nat)=>(n:Int));rw[← e] at g1 g2;refine⟨?_,?_⟩
  ·show(e10 (l.map a40)&&e10 (r.map c30))=true;rw[h1,g1];rfl
  ·show Ï3 (e70 (l.map a40) + 1) (e70 (r.map c30))<=1;rw[g2];exact Ú0.mpr ⟨Î _,h2⟩
def Q11(ls:List (List Nat)):okD (.lst (ls.map c30))=true:=by
 obtain⟨h1,h2⟩:=E31 ls;unfold okD;rw[Á,decide_eq_true_eq];refine⟨h1,?_⟩;show e70 (ls.map c30) + 1<=40;omega
section
variable {m:Int}{ps:List (Int × Int)}{pl:List Nat}
def P80{ls:List (List Nat)}:(h60 ls).length<=ls.length:=Â0 _ _
def Z02(g:d90 m ps){l:List Nat}(h:l∈h60 (k80 m ps pl)):l.length<=8:=A10 g ((n10 g).mp (W20 h)).1
def Z12(g:d90 m ps){l:List Nat}(h:l∈h60 (w10 m ps pl)):l.length<=8:=A10 g ((t70 g).mp (W20 h)).1
end
def subB(o l:List Nat):Bool:=o.all λn=>decide (n∈l)
def W40(ls:List (List Nat)):List (List Nat):=ls.filter λl=>(ls.filter λo=>decide (o≠l)&&subB o l).isEmpty
def E41{o l:List Nat}:subB o l=true↔∀ n∈o,n∈l:=by
 unfold subB;rw[Ä6];exact forall_congr' λn=>forall_congr' λ_=>decide_eq_true_iff
def i22{a b:List Nat}(ha:a.Pairwise (· < ·))(hb:b.Pairwise (· < ·))(h1:∀ n∈a,n∈b)(h2:∀ n∈b,n∈a):a=b:=by
 have na:a.Nodup:=ha.imp λh=>Õ h;have nb:b.Nodup:=hb.imp λh=>Õ h;have p:=(Ï7 na nb).mpr λn=>⟨h1 n,h2 n⟩;exact p.eq_of_pairwise (le:=(· < ·)) (λx y _ _ h1 h2=>absurd h1 (Nat.not_lt.mpr (Ç5 h2))) ha hb
def J10{ls:List (List Nat)}{K:Nat}(hl:∀ l∈ls,l∈f10 K)(up:∀ a b,b∈f10 K->a∈ls->(∀ n∈a,n∈b)->b∈ls):W40 ls=h60 ls:=by
 unfold W40 h60;refine É7 λl h=>?_;have hr:=q10 (hl l h);have nd:l.Nodup:=hr.imp λh=>Õ h;rw[Â7,isEmpty_iff,Ã6,î,List.any_eq_false];constructor
 ·intro q x hx hc;obtain⟨i,hi,rfl⟩:=Ò.mp hx;have hi:=À1.mp hi;refine q _ (Ô9.mp hc) ?_;rw[Á,decide_eq_true_eq];refine⟨λe=>?_,E41.mpr λn hn=>(Ô8 ..).mem hn⟩;have:=congrArg Õ3 e;rw[Þ8 hi] at this;omega
 ·intro q o ho hb;rw[Á,decide_eq_true_eq] at hb;obtain⟨ne,hs⟩:=hb;have hs:=E41.mp hs;have:∃ n∈l,n ∉ o:=by
   apply È7;intro no;refine ne (i22 (q10 (hl o ho)) hr hs λn hn=>?_);apply È7;exact λz=>no ⟨n,hn,z⟩
  obtain⟨n,hn,hno⟩:=this;obtain⟨i,hi,rfl⟩:=É0.mp hn;refine q (l.eraseIdx i) (Ò.mpr ⟨i,À1.mpr hi,rfl⟩) (Ô9.mpr (up o _ (P71 (hl l h) i) ho λk hk=>?_));obtain⟨j,hj,e⟩:=É0.mp (hs k hk);rw[List.mem_eraseIdx_iff_getElem];exact⟨j,hj,λz=>hno (by subst z;rw[e];exact hk),e⟩
section
variable {m:Int}{ps:List (Int × Int)}{pl:List Nat}
def i32(g:d90 m ps)(hp:l40 m pl):W40 (k80 m ps pl)=h60 (k80 m ps pl):=
 J10 (λl h=>((n10 g).mp h).1) λa b hb ha h=>(n10 g).mpr ⟨hb,D51 g hp a b (y30 hb) h ((n10 g).mp ha).2⟩
def i42(g:d90 m ps)(hp:l40 m pl):W40 (w10 m ps pl)=h60 (w10 m ps pl):=
 J10 (λl h=>((t70 g).mp h).1) λa b hb ha h=>(t70 g).mpr ⟨hb,by
  have h2:=((t70 g).mp ha).2;cases e:g50 ps m.toNat pl (k00 ps.length b) with
  |false=>rfl
  |true =>
   have:=D51 g hp (k00 ps.length b) (k00 ps.length a) (λn hn=>P30 hn) (λn hn=>E21.mpr ⟨P30 hn,λz=>(E21.mp hn).2 (h n z)⟩) e;rw[h2] at this;cases this⟩
end
def eq_self(h:okD x=true)(hs:S61 .seq x=false):t80 .eq x x=some true:=by
 show(if okD x&&okD x then some (eqD x x) else eqE x x)=some true;rw[h];cases x with
 |non=>rfl|bl b=>show some (b == b)=_;rw[beq_self_eq_true]|int i=>show some (i == i)=_;rw[beq_self_eq_true]|str s=>show some (s == s)=_;rw[beq_self_eq_true]|tup l=>cases hs
 |lst l=>cases hs
 |dct=>rfl
theorem B80:∀ {l:List D}{d:D},d∈r90 l l->∃ x∈l,d=.tup [x,x]
 |x::r,d,h=>by
  rcases ï.mp h with h | h
  ·exact⟨x,Ì,h⟩
  ·obtain⟨u,hu,e⟩:=B80 h;exact⟨u,Ë _ hu,e⟩
mutual
noncomputable def flat:Nat->D->Bool
 |_,.non=>true|_,.bl _=>true|_,.int _=>true|_,.str _=>false|0,.tup _=>false|d + 1,.tup l=>decide (l.length<=1000)&&c01 d l|_,.lst _=>false|_,.dct=>false
noncomputable def c01:Nat->List D->Bool
 |_,[]=>true|d,x::r=>flat d x&&c01 d r
end
theorem W50:∀ {d:Nat}{l:List D}{x:D},c01 d l=true->x∈l->flat d x=true
 |d,y::r,x,h,hx=>by
  unfold c01 at h;rw[Á] at h;rcases ï.mp hx with rfl | hx
  ·exact h.1
  ·exact W50 h.2 hx
theorem i52:∀ (d k:Nat) (x:D) (z:Z),flat d x=true->b50 T (k + d + 3) g20 [.d x,.d x] z=some (.ok (.d (.bl true)) z):=by
 have one:∀ (k:Nat) (x:D) (z:Z),okD x=true->S61 .seq x=false->b50 T (k + 3) g20 [.d x,.d x] z=some (.ok (.d (.bl true)) z):=λk x z h hs=>by
  refine W.ok (i80 (ps:=2) (ns:=2) (b:=g40) rfl rfl 1e1 (ie hs ?_))
  refine(a00 (eq_self h hs) ?_ :);cases x with
  |tup l=>cases hs
  |lst l=>cases hs
  |_=>exact sb rfl
 intro d
 induction d with
 |zero =>
  intro k x z h;cases x with
  |non=>exact one k _ z rfl rfl|bl b=>exact one k _ z rfl rfl|int i=>exact one k _ z rfl rfl|_=>unfold flat at h;cases h
 |succ d ih =>
  intro k x z h;cases x with
  |non=>exact one _ _ z rfl rfl|bl b=>exact one _ _ z rfl rfl|int i=>exact one _ _ z rfl rfl
  |tup l =>
   unfold flat at h;rw[Á,decide_eq_true_eq] at h;refine W.ok (i80 (ps:=2) (ns:=2) (b:=g40) rfl rfl 1e1 ?_)
   refine ie (b:=!((l.length:Int) == (l.length:Int))) (by rw[beq_self_eq_true];rfl) ?_
   refine ip (c:=(r90 l l).length<=most) (Ó (r10 _ _) (f90 h.1)) (p01 (λ_=>.bl true) (λq hq=>?_) (a00 (z60 (r90 l l) λ_=>true) ?_ :))
   ·obtain⟨x,hx,rfl⟩:=B80 hq;exact Wo (ih k x z (W50 h.2 hx)) ⟨rfl,rfl⟩
   ·exact sb (b:=(r90 l l).all λ_=>true) (Ú.mpr λ_ _=>rfl)
  |_=>unfold flat at h;cases h
theorem j01{d:Nat}:∀ {l:List D},(∀ x∈l,flat d x=true)->c01 d l=true
 |[],_=>by unfold c01;rfl
 |x::r,h=>by
  unfold c01;rw[h x Ì,j01 λy hy=>h y (Ë _ hy)];rfl
def Q21{d:Nat}{l:List D}(h:l.length<=1000)(ha:∀ x∈l,flat d x=true):flat (d + 1) (.tup l)=true:=by
 unfold flat;rw[decide_eq_true h,j01 ha];rfl
def Q31{d:Nat}{i:Int}:flat d (.int i)=true:=by unfold flat;rfl
def E51{d:Nat}{l:List Nat}(h:l.length<=1000):flat (d + 1) (.tup (l.map a40))=true:=
 Q21 (by rw[È];exact h) λx hx=>by
  obtain⟨i,_,rfl⟩:=Ò.mp hx;exact Q31
abbrev pf(ps:List (Int × Int))(i:Nat):Int × Int:=ps.getD i (0,0)
section
variable {m:Int}{ps cs:List (Int × Int)}{pl:List Nat}
def z12{i:Nat}(h:i < ps.length):pf ps i∈ps:=by
 rw[pf,Ü,á h];exact Ç4 h
def d90.ab(g:d90 m ps){n:Nat}(hn:n < ps.length):tA ps n < tB ps n/\tB ps n < m.toNat/\pf ps n=((tA ps n:Int),(tB ps n:Int)):=by
 have:=g.tie _ (z12 hn);refine⟨by show(pf ps n).1.toNat < (pf ps n).2.toNat;omega,by show(pf ps n).2.toNat < _;omega,Prod.ext ?_ ?_⟩
 ·show(pf ps n).1=((pf ps n).1.toNat:Int);omega
 ·show(pf ps n).2=((pf ps n).2.toNat:Int);omega
end
def W60(F:List Nat)(a b:Nat):List Nat:=if a∈F/\b ∉ F then F++[b] else F
def j11(h:x∈F):x∈W60 F a b:=by
 unfold W60;split
 ·exact Å0 _ h
 ·exact h
def c21(F:List Nat)(a b:Nat):(W60 F a b=F/\(a∈F->b∈F))\/F.length < (W60 F a b).length:=by
 unfold W60;split
 ·exact .inr (by rw[U91];omega)
 ·rename_i h;exact .inl ⟨rfl,λha=>È7 λhb=>h ⟨ha,hb⟩⟩
def Pls(m:Nat)(F:List Nat):Prop:=F.Nodup/\∀ x∈F,x < m
theorem q20:∀ {m:Nat}{F:List Nat},Pls m F->F.length<=m
 |0,[],_=>Î _|0,x::_,h=>absurd (h.2 x Ì) (Ò2 _)
 |m + 1,F,h=>by
  have h1:(F.erase m).length<=m:=q20 ⟨h.1.erase m,λx hx=>by
   have h2:=h.2 x (List.mem_of_mem_erase hx);have h3:x≠m:=(List.Nodup.mem_erase_iff h.1).mp hx |>.1;omega⟩
  by_cases hm:m∈F
  ·rw[List.length_erase_of_mem hm] at h1;omega
  ·rw[List.erase_of_not_mem hm] at h1;omega
def B90(h:Pls m F)(hb:b < m):Pls m (W60 F a b):=by
 unfold W60;split
 ·rename_i hh;refine⟨List.nodup_append.mpr ⟨h.1,by simp,λx hx y hy=>?_⟩,λx hx=>?_⟩
  ·rw[Ù.mp hy];exact λe=>hh.2 (e ▸ hx)
  ·rcases Á2.mp hx with hx | hx
   ·exact h.2 x hx
   ·rw[Ù.mp hx];exact hb
 ·exact h
def V51{F:List Nat}{a b:Nat}{f:Nat->Int}{v:Int}(h:∀ x∈F,f x=v)(e:f a=f b):∀ x∈W60 F a b,f x=v:=by
 unfold W60;split
 ·rename_i hh;intro x hx;rcases Á2.mp hx with hx | hx
  ·exact h x hx
  ·rw[Ù.mp hx,← e];exact h a hh.1
 ·exact h
section
variable (ps:List (Int × Int))
def spr(F:List Nat)(n:Nat):List Nat:=W60 (W60 F (tA ps n) (tB ps n)) (tB ps n) (tA ps n)
def rnd(lot:List Nat)(F:List Nat):List Nat:=lot.foldl (spr ps) F
def y50(lot:List Nat):Nat->List Nat->List Nat
 |0,F=>F|j + 1,F=>y50 lot j (rnd ps lot F)
variable {ps:List (Int × Int)}
def z22(F:List Nat)(n:Nat):(spr ps F n=F/\(tA ps n∈F↔tB ps n∈F))\/F.length < (spr ps F n).length:=by
 unfold spr;rcases c21 F (tA ps n) (tB ps n) with ⟨h1,h2⟩ | h1
 ·rw[h1];rcases c21 F (tB ps n) (tA ps n) with ⟨h3,h4⟩ | h3
  ·exact .inl ⟨h3,h2,h4⟩
  ·exact .inr h3
 ·rcases c21 (W60 F (tA ps n) (tB ps n)) (tB ps n) (tA ps n) with ⟨h3,_⟩ | h3
  ·rw[h3];exact .inr h1
  ·exact .inr (Nat.lt_trans h1 h3)
theorem E61:∀ (lot F:List Nat),(rnd ps lot F=F/\∀ n∈lot,(tA ps n∈F↔tB ps n∈F))\/F.length < (rnd ps lot F).length
 |[],F=>.inl ⟨rfl,λ_ h=>nomatch h⟩
 |n::r,F=>by
  show(rnd ps r (spr ps F n)=F/\_)\/F.length < (rnd ps r (spr ps F n)).length;rcases z22 (ps:=ps) F n with ⟨h1,h2⟩ | h1
  ·rw[h1];rcases E61 r F with ⟨h3,h4⟩ | h3
   ·refine .inl ⟨h3,λk hk=>?_⟩;rcases ï.mp hk with rfl | hk
    ·exact h2
    ·exact h4 k hk
   ·exact .inr h3
  ·rcases E61 r (spr ps F n) with ⟨h3,_⟩ | h3
   ·rw[h3];exact .inr h1
   ·exact .inr (Nat.lt_trans h1 h3)
theorem E71:∀ {lot F:List Nat},Pls m F->(∀ n∈lot,tA ps n < m/\tB ps n < m)->Pls m (rnd ps lot F)
 |[],_,h,_=>h|n::r,F,h,hl=>E71 (lot:=r) (F:=spr ps F n) (B90 (B90 h (hl n Ì).2) (hl n Ì).1) λk hk=>hl k (Ë _ hk)
theorem z32{f:Nat->Int}{v:Int}:∀ {lot F:List Nat},(∀ x∈F,f x=v)->(∀ n∈lot,f (tA ps n)=f (tB ps n))->∀ x∈rnd ps lot F,f x=v
 |[],_,h,_=>h|n::r,F,h,hl=>z32 (lot:=r) (F:=spr ps F n) (V51 (V51 h (hl n Ì)) (hl n Ì).symm) λk hk=>hl k (Ë _ hk)
theorem E81:∀ {lot F:List Nat}{x:Nat},x∈F->x∈rnd ps lot F
 |[],_,_,h=>h|n::r,F,x,h=>E81 (lot:=r) (F:=spr ps F n) (j11 (j11 h))
theorem j21(hl:∀ n∈lot,tA ps n < m/\tB ps n < m):∀ {j:Nat}{F:List Nat},Pls m F->Pls m (y50 ps lot j F)
 |0,_,h=>h|j + 1,_,h=>j21 hl (j:=j) (E71 h hl)
theorem V61{f:Nat->Int}{v:Int}{lot:List Nat}(hl:∀ n∈lot,f (tA ps n)=f (tB ps n)):∀ {j:Nat}{F:List Nat},(∀ x∈F,f x=v)->∀ x∈y50 ps lot j F,f x=v
 |0,_,h=>h|j + 1,_,h=>V61 hl (j:=j) (z32 h hl)
theorem j31:∀ {j:Nat}{F:List Nat}{x:Nat},x∈F->x∈y50 ps lot j F
 |0,_,_,h=>h|j + 1,_,_,h=>j31 (j:=j) (E81 h)
theorem E91:∀ (j:Nat) (F:List Nat),(∀ n∈lot,(tA ps n∈y50 ps lot j F↔tB ps n∈y50 ps lot j F))\/F.length + j<=(y50 ps lot j F).length
 |0,F=>.inr (Î _)
 |j + 1,F=>by
  show(∀ n∈lot,(tA ps n∈y50 ps lot j (rnd ps lot F)↔tB ps n∈y50 ps lot j (rnd ps lot F)))\/F.length + (j + 1)<=(y50 ps lot j (rnd ps lot F)).length;rcases E61 (ps:=ps) lot F with ⟨h1,h2⟩ | h1
  ·have e:∀ i,y50 ps lot i F=F:=λi=>by
    induction i with
    |zero=>rfl|succ i ih=>show y50 ps lot i (rnd ps lot F)=F;rw[h1];exact ih
   refine .inl ?_;rw[h1,e];exact h2
  ·rcases E91 (lot:=lot) j (rnd ps lot F) with h2 | h2
   ·exact .inl h2
   ·exact .inr ∅
def F01{m:Int}{pl lot:List Nat}(g:d90 m ps)(hp:l40 m pl)(hl:∀ n∈lot,n < ps.length):(∀ p∈pl,p∈y50 ps lot m.toNat [pl.getD 0 0])↔g50 ps m.toNat pl lot=true:=by
 have hr:∀ n∈lot,tA ps n < m.toNat/\tB ps n < m.toNat:=λn hn=>g.rng n (hl n hn);have hpm:∀ p∈pl,p < m.toNat:=λp h=>by have:=hp.lt p h;omega
 have p0:pl.getD 0 0 < m.toNat:=hp.p0;rw[P00 g.rng hpm hl];constructor
 ·exact λh f hf p hpp=>V61 hf (λx hx=>by rw[Ù.mp hx]) p (h p hpp)
 ·intro h p hpp;have cl:∀ n∈lot,(tA ps n∈y50 ps lot m.toNat [pl.getD 0 0]↔tB ps n∈y50 ps lot m.toNat [pl.getD 0 0]):=by
   rcases E91 (ps:=ps) (lot:=lot) m.toNat [pl.getD 0 0] with h1 | h1
   ·exact h1
   ·have:=q20 (j21 hr (j:=m.toNat) (F:=[pl.getD 0 0]) ⟨by simp,λx hx=>by rw[Ù.mp hx];exact p0⟩)
    simp only[ã,Ã1] at h1;omega
  have h2:=h (λx=>if x∈y50 ps lot m.toNat [pl.getD 0 0] then 1 else 0) (λn hn=>by
   by_cases hx:tA ps n∈y50 ps lot m.toNat [pl.getD 0 0]
   ·rw[if_pos hx,if_pos ((cl n hn).mp hx)]
   ·rw[if_neg hx,if_neg λhy=>hx ((cl n hn).mpr hy)]) p hpp
  rw[if_pos (j31 (Ù.mpr rfl))] at h2;exact È7 λhx=>by rw[if_neg hx] at h2;cases h2
end
def k02(k:Nat):List Nat->List Nat
 |[]=>[k]|y::r=>if y < k then y::k02 k r else k::y::r
def c31:List Nat->List Nat
 |[]=>[]|k::r=>k02 k (c31 r)
theorem W70(k:Nat):∀ l,(k02 k l).Perm (k::l)
 |[]=>.refl _
 |y::r=>by
  unfold k02;split
  ·exact((W70 k r).cons y).trans (.swap _ _ _)
  ·exact .refl _
theorem J20:∀ l,(c31 l).Perm l
 |[]=>.refl _|k::r=>(W70 k _).trans ((J20 r).cons k)
theorem j41(k:Nat):∀ l:List Nat,o81 (a40 k) (l.map a40)=(k02 k l).map a40
 |[]=>rfl
 |y::r=>by
  unfold k02;show(if MySort.h90 [(y:Int)] [(k:Int)] then a40 y::o81 (a40 k) (r.map a40) else a40 k::a40 y::r.map a40)=_;rw[M02,j41 k r];by_cases h:y < k
  ·rw[decide_eq_true (by omega:(y:Int) < k),if_pos rfl,if_pos h];rfl
  ·rw[decide_eq_false (by omega:¬ (y:Int) < k),if_neg 1e1,if_neg h];rfl
theorem W80:∀ l:List Nat,u60 (l.map a40)=(c31 l).map a40
 |[]=>rfl
 |k::r=>by
  show o81 (a40 k) (u60 (r.map a40))=_;rw[W80 r,j41];rfl
def c41(h:l.length < 64):bfD .sorted [.lst (l.map a40)]=some (.fr ((c31 l).map a40)):=by
 have ok:n70 (l.map a40)=true:=by
  refine Ú.mpr λx hx=>?_;obtain⟨p,_,rfl⟩:=Ò.mp hx;show(true&&(true&&(l.map a40).all (j30 (a40 p))))=true;refine Ú.mpr λy hy=>?_;obtain⟨q,_,rfl⟩:=Ò.mp hy;exact O80 p q
 show(if (l.map a40).length < 64/\n70 (l.map a40)=true then some (S.fr (u60 (l.map a40))) else _)=_;rw[if_pos ⟨by rw[È];exact h,ok⟩,W80]
def P90{n:Nat}{l:List Nat}:(o71 (a40 n) (l.map a40)).map (!·)=some (!decide (n∈l)):=by rw[y40];rfl
def z42:D->Nat
 |.int i=>i.toNat|_=>0
section
variable {m:Int}{ps:List (Int × Int)}{pl lot:List Nat}
abbrev wiE(m:Int)(ps:List (Int × Int))(lot:List Nat)(p0:Nat)(F:List Nat)(o4 o5 o6 o7:Option S):Env:=[some (.d (y20 m ps)),some (.d (.tup (lot.map a40))),some (.d (a40 p0)),some (.fr (F.map a40)),o4,o5,o6,o7]
def j51:F.map a40++[a40 b]=(F++[b]).map a40:=by rw[Á3];rfl
def c51(k:Nat)(g:d90 m ps)(hl:∀ n∈lot,n < ps.length){p0:Nat}(h0:p0 < m.toNat)(z:Z):b50 T (k + 3) F60 [.d (y20 m ps),.d (.tup (lot.map a40)),.d (a40 p0)] z=some (.ok (.d (.tup ((c31 (y50 ps lot m.toNat [p0])).map a40))) z):=by
 have m6:=g.m6;have m1:=g.m1;have hr:∀ n∈lot,tA ps n < m.toNat/\tB ps n < m.toNat:=λn hn=>g.rng n (hl n hn);refine W.ok (i80 (ps:=3) (ns:=8) (b:=t20) rfl rfl 1e1 ?_)
 refine(O81 (.fr [a40 p0]) (wiE m ps lot p0 [p0] none none none none) ?_ ?_ ?_ :)
 ·exact⟨rfl,rfl⟩
 ·rfl
 refine(a00 (V40 (m:=m) ∅ ∅) ?_ :)
 refine O40 (λxs ρ z1=>z1=z/\∃ (F:List Nat) (o4 o5 o6 o7:Option S),Pls m.toNat F/\y50 ps lot xs.length F=y50 ps lot m.toNat [p0]/\ρ=wiE m ps lot p0 F o4 o5 o6 o7) _ ⟨rfl,[p0],none,none,none,none,⟨by simp,λx hx=>by rw[Ù.mp hx];exact h0⟩,by rw[È,û],rfl⟩ ?_ ?_
 ·rintro x r ρ z1 ⟨rfl,F,o4,o5,o6,o7,hF,e,rfl⟩;refine O40 (λxs ρ z2=>z2=z1/\∃ (l G:List Nat) (o4 o5 o6 o7:Option S),xs=l.map a40/\(∀ n∈l,n < ps.length)/\Pls m.toNat G/\rnd ps l G=rnd ps lot F/\ρ=wiE m ps lot p0 G o4 o5 o6 o7) _ ⟨rfl,lot,F,some (.d x),o5,o6,o7,rfl,hl,hF,rfl,(itE (Row.t lot).ba).trans rfl⟩ ?_ ?_
  ·rintro y r' ρ z2 ⟨rfl,l,G,o4,o5,o6,o7,e1,hl1,hG,e2,rfl⟩;cases l with
   |nil=>cases e1
   |cons n l =>
    cases e1;have hn:=hl1 n Ì;have ab:=(g.ab hn).2.2;have rb:=g.rng n hn;have len:=q20 hG;refine(a00 (show e91 (.tup (ps.map pr)) (.int n)=some (pr ((tA ps n:Int),(tB ps n:Int))) from by rw[V31 hn];exact congrArg (λx=>some (pr x)) ab) ?_ :)
    refine g72 (λρ z3=>z3=z2/\∃ (o4 o5:Option S),ρ=wiE m ps lot p0 (W60 G (tA ps n) (tB ps n)) o4 o5 (some (.d (a40 (tA ps n)))) (some (.d (a40 (tB ps n))))) ?_ ?_
    ·have no:∀ h:¬ (tA ps n∈G/\tB ps n ∉ G),W60 G (tA ps n) (tB ps n)=G:=λh=>if_neg h;refine(a00 (y40 (n:=tA ps n) (l:=G)) ?_ :);refine ib (b:=decide (tA ps n∈G)) (λh1=>?_) λh1=>⟨rfl,_,_,by rw[no λh=>of_decide_eq_false h1 h.1];rfl⟩
     refine(a00 (P90 (n:=tB ps n) (l:=G)) ?_ :);refine ib (b:=!decide (tB ps n∈G)) (λh2=>?_) λh2=>⟨rfl,_,_,by rw[no λh=>by rw[decide_eq_false h.2] at h2;cases h2];rfl⟩
     refine(a00 (add_l (a:=G.map a40) (b:=[a40 (tB ps n)]) (by rw[È];show G.length + 1<=1000;omega)) ?_ :)
     rw[j51,show W60 G (tA ps n) (tB ps n)=G++[tB ps n] from if_pos ⟨of_decide_eq_true h1,by simpa using h2⟩]
     exact⟨rfl,_,_,rfl⟩
    ·rintro ρ z3 ⟨rfl,o4,o5,rfl⟩;have hG1:=B90 (a:=tA ps n) (b:=tB ps n) hG rb.2;have U91:=q20 hG1;have fin:∀ (ρ:Env) (G':List Nat) (o4 o5 o6 o7:Option S),G'=spr ps G n->ρ=wiE m ps lot p0 G' o4 o5 o6 o7->(z3=z3/\∃ (l' G:List Nat) (o4 o5 o6 o7:Option S),List.map a40 l=l'.map a40/\(∀ n∈l',n < ps.length)/\Pls m.toNat G/\rnd ps l' G=rnd ps lot F/\ρ=wiE m ps lot p0 G o4 o5 o6 o7):=λρ G' o4 o5 o6 o7 e he=>⟨rfl,l,G',o4,o5,o6,o7,rfl,λk hk=>hl1 k (Ë _ hk),by rw[e];exact B90 hG1 rb.1,by rw[e];exact e2,he⟩
     unfold spr at fin;generalize W60 G (tA ps n) (tB ps n)=G1 at fin hG1 U91;have no:∀ h:¬ (tB ps n∈G1/\tA ps n ∉ G1),G1=W60 G1 (tB ps n) (tA ps n):=λh=>(if_neg h).symm;refine(a00 (y40 (n:=tB ps n) (l:=G1)) ?_ :);refine ib (b:=decide (tB ps n∈G1)) (λh1=>?_) λh1=>fin _ G1 _ _ _ _ (no λh=>of_decide_eq_false h1 h.1) rfl;refine(a00 (P90 (n:=tA ps n) (l:=G1)) ?_ :);refine ib (b:=!decide (tA ps n∈G1)) (λh2=>?_) λh2=>fin _ G1 _ _ _ _ (no λh=>by rw[decide_eq_false h.2] at h2;cases h2) rfl
     refine(a00 (add_l (a:=G1.map a40) (b:=[a40 (tA ps n)]) (by rw[È];show G1.length + 1<=1000;omega)) ?_ :)
     rw[j51];exact fin _ (G1++[tA ps n]) _ _ _ _ (if_pos ⟨of_decide_eq_true h1,by simpa using h2⟩).symm rfl
  ·rintro ρ z2 ⟨rfl,l,G,o4,o5,o6,o7,e1,hl1,hG,e2,rfl⟩;cases l with
   |cons n l=>cases e1
   |nil=>exact⟨rfl,G,_,_,_,_,hG,by rw[show G=rnd ps lot F from e2];exact e,rfl⟩
 ·rintro ρ z1 ⟨rfl,F,o4,o5,o6,o7,hF,e,rfl⟩;have len:=q20 hF;have e:F=y50 ps lot m.toNat [p0]:=e;refine(a00 (c41 (l:=F) ∅) ?_ :)
  rw[← e];exact sd rfl
def A20(k:Nat)(g:d90 m ps)(hp:l40 m pl)(hl:∀ n∈lot,n < ps.length)(z:Z):b50 T (k + 4) t00 [.d (y20 m ps),.d (.tup (lot.map a40)),.d (.tup (pl.map a40))] z=some (.ok (.d (.bl (g50 ps m.toNat pl lot))) z):=by
 have hlen:=hp.len g.m6;refine W.ok (i80 (ps:=3) (ns:=4) (b:=t30) rfl rfl 1e1 ?_)
 refine(a00 (V41 hp.ne) ?_ :);refine Wo (c51 k g hl hp.p0 z) ?_;refine ip (by rw[È];simp only[most];omega) (h61 (λx=>!decide (z42 x∈y50 ps lot m.toNat [pl.getD 0 0])) (λx=>x) (λy hy=>?_) ?_)
 ·obtain⟨p,hp',rfl⟩:=Ò.mp hy;refine(a00 (P90 (n:=p) (l:=c31 (y50 ps lot m.toNat [pl.getD 0 0]))) ?_ :);refine⟨?_,rfl,λ_=>⟨rfl,rfl⟩⟩;rw[show decide (p∈c31 (y50 ps lot m.toNat [pl.getD 0 0]))=decide (z42 (a40 p)∈y50 ps lot m.toNat [pl.getD 0 0]) from by
   rw[Â7,decide_eq_true_eq,decide_eq_true_eq,(J20 _).mem_iff];rfl]
 ·rw[Ö8,É3];refine(a00 (b71 (r20 _)) ?_ :);refine sb ?_;rw[Â7,← F01 g hp hl,isEmpty_map,isEmpty_iff,Ã6];constructor
  ·intro h p hpp;have h1:¬ (!decide (p∈y50 ps lot m.toNat [pl.getD 0 0]))=true:=h p hpp;simpa using h1
  ·intro h p hpp;show ¬ (!decide (p∈y50 ps lot m.toNat [pl.getD 0 0]))=true;simpa using h p hpp
end
theorem F11:∀ a b:List Nat,o61 (a.map a40) (b.map a40)=decide (a=b)
 |[],[]=>rfl|[],_::_=>rfl|_::_,[]=>rfl
 |x::r,y::q=>by
  show((x:Int) == (y:Int)&&o61 (r.map a40) (q.map a40))=_;rw[F11 r q,Â7,Á,beq_iff_eq,decide_eq_true_eq,decide_eq_true_eq,List.cons.injEq];exact and_congr_left λ_=>by omega
def i62(a b:List Nat):t80 .ne (c30 a) (c30 b)=some (decide (a≠b)):=by
 have o1:okD (c30 a)=true:=r20 a;have o2:okD (c30 b)=true:=r20 b;show(eqO (c30 a) (c30 b)).map (!·)=_;unfold eqO;rw[o1,o2];show some (!o61 (a.map a40) (b.map a40))=_;rw[F11,decide_not]
def i72{p:Pat}{s:S}{ρ ρ':Env}{P:Env->Prop}(hk:H00 s=true)(hb:A90 p s ρ=some ρ')(q:P ρ'):Get (one [s]) λs=>Get (A90 p s (j40 s ρ)) P:=by
 show Get (A90 p s (j40 s ρ)) P;rw[U81 hk];exact a00 hb q
def k12(l:List Nat)(x:D):Bool:=decide (o00 x≠l)&&subB (o00 x) l
def A30(k:Nat){ls:List (List Nat)}(hn:ls.length<=256)(h8:∀ l∈ls,l.length<=8)(z:Z):b50 T (k + 3) p30 [.d (.lst (ls.map c30))] z=some (.ok (.fr ((W40 ls).map c30)) z):=by
 refine W.ok (i80 (ps:=1) (ns:=4) (b:=p60) rfl rfl 1e1 ?_)
 have fin:∀ dn l rest,dn++l::rest=ls->l∈ls:=λdn l rest e=>by rw[← e];exact ì _ Ì
 refine O40 (λxs ρ z2=>z2=z/\∃ (dn rest:List (List Nat)) (o2 o3:Option S),dn++rest=ls/\xs=rest.map c30/\ρ=[some (.d (.lst (ls.map c30))),some (.fr ((dn.filter λl=>(ls.filter λo=>decide (o≠l)&&subB o l).isEmpty).map c30)),o2,o3]) _ ⟨rfl,[],ls,none,none,rfl,rfl,(itE (by show(s80 _&&true)=true;rw[j00];rfl)).trans rfl⟩ ?_ ?_
 ·rintro x r ρ z2 ⟨rfl,dn,rest,o2,o3,hd,e,rfl⟩;cases rest with
  |nil=>cases e
  |cons l rest =>
   cases e;have hl:=fin _ _ _ hd;have hdl:dn.length<=256:=by have:=congrArg Õ3 hd;rw[ù] at this;omega
   refine ip (by rw[È];exact f90 ∅) (h61 (k12 l) (λx=>x) (λx hx=>?_) ?_)
   ·obtain⟨o,ho,rfl⟩:=Ò.mp hx;have ho8:=h8 o ho;refine(a00 (i62 o l) ?_ :);have eo:k12 l (c30 o)=(decide (o≠l)&&subB o l):=by unfold k12;rw[e90]
    refine ib (b:=decide (o≠l)) (λhb=>?_) λhb=>⟨by rw[eo,hb];rfl,rfl,λ_=>⟨rfl,rfl⟩⟩
    refine ip (by rw[È];exact f90 ∅) (h61 (λx=>!decide (P62 x∈l)) (λx=>x) (λx hx=>?_) ?_)
    ·obtain⟨n,_,rfl⟩:=Ò.mp hx;refine(a00 (o:=(o71 (a40 n) (l.map a40)).map (!·)) (a:=!decide (n∈l)) (by rw[y40];rfl) ?_ :)
     exact⟨rfl,rfl,λ_=>⟨rfl,rfl⟩⟩
    ·rw[Ö8,É3];refine(a00 (b71 (r20 _)) ?_ :);refine⟨?_,rfl,λ_=>⟨rfl,rfl⟩⟩;rw[eo,hb,Ä2]
     congr 2
     rw[Â7,isEmpty_map,isEmpty_iff,Ã6,E41];refine forall_congr' λn=>forall_congr' λ_=>?_;show ¬ (!decide (n∈l))=true↔_;cases h:decide (n∈l) <;> simp_all
   ·rw[Ö8];have ef:((ls.map c30).filter (k12 l))=(ls.filter λo=>decide (o≠l)&&subB o l).map c30:=by
     rw[É3]
     congr 1
     refine É7 λo _=>?_;show k12 l (c30 o)=_;unfold k12;rw[e90]
    rw[ef];refine(i72 (ρ':=[some (.d (.lst (ls.map c30))),some (.fr ((dn.filter λl=>(ls.filter λo=>decide (o≠l)&&subB o l).isEmpty).map c30)),some (.d (c30 l)),some (.fr ((ls.filter λo=>decide (o≠l)&&subB o l).map c30))]) (show H00 (.fr ((ls.filter λo=>decide (o≠l)&&subB o l).map c30))=true from j00 _) ?_ ?_ :)
    ·rfl
    refine(a00 (b71 (Q11 _)) ?_ :);have hd':(dn++[l])++rest=ls:=by rw[Ç7];exact hd
    have ei:((ls.filter λo=>decide (o≠l)&&subB o l).map c30).isEmpty=(ls.filter λo=>decide (o≠l)&&subB o l).isEmpty:=isEmpty_map;refine ib (b:=((ls.filter λo=>decide (o≠l)&&subB o l).map c30).isEmpty) (λhb=>?_) λhb=>?_
    ·rw[ei] at hb;refine ip ⟨i90 _,by rw[È];exact Å8 (Ó (Â0 _ _) hdl) 1e1⟩ ?_
     refine⟨rfl,dn++[l],rest,some (.d (c30 l)),some (.fr ((ls.filter λo=>decide (o≠l)&&subB o l).map c30)),hd',rfl,?_⟩;rw[Ó0,Á3,Í8,if_pos hb];rfl
    ·rw[ei] at hb;refine⟨rfl,dn++[l],rest,some (.d (c30 l)),some (.fr ((ls.filter λo=>decide (o≠l)&&subB o l).map c30)),hd',rfl,?_⟩;rw[Ó0,Á3,Í8,if_neg (by rw[hb];exact Ï),List.filter_nil,Ö7,Ç6]
 ·rintro ρ z2 ⟨rfl,dn,rest,o2,o3,hd,e,rfl⟩;cases rest with
  |cons _ _=>cases e
  |nil =>
   rw[Ç6] at hd;subst hd;exact sd rfl
section
variable {m:Int}{ps:List (Int × Int)}{pl:List Nat}
def c61(k:Nat)(g:d90 m ps)(hp:l40 m pl)(z:Z):b50 T (k + 5) F70 [.d (y20 m ps),.d (.tup (pl.map a40))] z=some (.ok (.fr ((w10 m ps pl).map c30)) z):=by
 have h8:=g.len;have hn:=r30 h8;refine W.ok (i80 (ps:=2) (ns:=5) (b:=t40) rfl rfl 1e1 ?_)
 refine(O81 (.fr []) [some (.d (y20 m ps)),some (.d (.tup (pl.map a40))),some (.fr []),none,none] ?_ ?_ ?_ :)
 ·exact⟨rfl,rfl⟩
 ·rfl
 refine Wo (P20 (i:=m70) rfl (k + 1) (m:=m) (ts:=ps.map pr) (by rw[È];exact h8) z) ?_
 rw[È];refine O40 (λxs ρ z2=>z2=z/\∃ (dn rest:List (List Nat)) (o3 o4:Option S),dn++rest=r60 ps.length/\xs=rest.map c30/\ρ=[some (.d (y20 m ps)),some (.d (.tup (pl.map a40))),some (.fr ((dn.filter λl=>!g50 ps m.toNat pl (k00 ps.length l)).map c30)),o3,o4]) _ ⟨rfl,[],r60 ps.length,none,none,rfl,rfl,(itE (by show(s80 _&&true)=true;rw[j00];rfl)).trans rfl⟩ ?_ ?_
 ·rintro x r ρ z2 ⟨rfl,dn,rest,o3,o4,hd,e,rfl⟩;cases rest with
  |nil=>cases e
  |cons l rest =>
   cases e;have hdl:dn.length<=256:=by have:=congrArg Õ3 hd;rw[ù] at this;omega
   refine(O81 (.d (c30 (k00 ps.length l))) [some (.d (y20 m ps)),some (.d (.tup (pl.map a40))),some (.fr ((dn.filter λl=>!g50 ps m.toNat pl (k00 ps.length l)).map c30)),some (.d (c30 l)),some (.d (c30 (k00 ps.length l)))] ?_ ?_ ?_ :)
   ·refine(a00 (o:=itD .rng1 [.int ((ps.map pr).length:Nat)]) (P10 (n:=(ps.map pr).length) (by rw[È];omega)) ?_ :)
    rw[show(ps.map pr).length=ps.length from È _];refine ip (by rw[È,Ø7];exact f90 ∅) (h61 (λx=>match x with | .int i=>!l.contains i.toNat | _=>false) id (λx hx=>?_) ?_)
    ·obtain⟨n,hn,rfl⟩:=Ò.mp hx;refine(a00 (o:=(o71 (a40 n) (l.map a40)).map (!·)) (a:=!l.contains n) (by rw[y40,Õ5];rfl) ?_ :)
     exact⟨rfl,rfl,λ_=>⟨rfl,rfl⟩⟩
    ·have e1:List.map id (List.filter (λx=>match x with | .int i=>!l.contains i.toNat | _=>false) ((Ä9 0 ps.length).map a40))=(k00 ps.length l).map a40:=by
      rw[map_id,É3,← Ç9];rfl
     rw[e1];exact⟨rfl,rfl⟩
   ·rw[U81 (show H00 (.d (c30 (k00 ps.length l)))=true from i90 _)];rfl
   refine Wo (A20 k g hp (λn hn=>P30 hn) z2) ?_;have hd':(dn++[l])++rest=r60 ps.length:=by rw[Ç7];exact hd
   refine ib (b:=!g50 ps m.toNat pl (k00 ps.length l)) (λhb=>?_) λhb=>?_
   ·refine ip ⟨i90 _,by rw[È];exact Å8 (Ó (Â0 _ _) hdl) 1e1⟩ ?_
    refine⟨rfl,dn++[l],rest,some (.d (c30 l)),some (.d (c30 (k00 ps.length l))),hd',rfl,?_⟩;rw[Ó0,Á3,Í8,if_pos hb];rfl
   ·refine⟨rfl,dn++[l],rest,some (.d (c30 l)),some (.d (c30 (k00 ps.length l))),hd',rfl,?_⟩;rw[Ó0,Á3,Í8,if_neg (by rw[hb];exact Ï),List.filter_nil,Ö7,Ç6]
 ·rintro ρ z2 ⟨rfl,dn,rest,o3,o4,hd,e,rfl⟩;cases rest with
  |cons _ _=>cases e
  |nil =>
   rw[Ç6] at hd;subst hd;exact sd rfl
end
def F21(d k:Nat){l:List D}(hl:l.length<=1000)(h:∀ x∈l,flat d x=true)(z:Z):b50 T (k + d + 4) g20 [.d (.lst l),.d (.lst l)] z=some (.ok (.d (.bl true)) z):=by
 refine W.ok (i80 (k:=k + d + 1) (ps:=2) (ns:=2) (b:=g40) rfl rfl 1e1 ?_)
 refine ie (b:=!((l.length:Int) == (l.length:Int))) (by rw[beq_self_eq_true];rfl) ?_
 refine ip (c:=(r90 l l).length<=most) (Ó (r10 _ _) (f90 hl)) (p01 (λ_=>.bl true) (λq hq=>?_) (a00 (z60 (r90 l l) λ_=>true) ?_ :))
 ·obtain⟨x,hx,rfl⟩:=B80 hq;exact Wo (i52 d k x z (h x hx)) ⟨rfl,rfl⟩
 ·exact sb (b:=(r90 l l).all λ_=>true) (Ú.mpr λ_ _=>rfl)
def o31(k:Nat){ls:List (List (List Nat))}(hl:ls.length<=1000)(h:∀ l∈ls,l.length<=1000/\∀ x∈l,x.length<=8)(z:Z):b50 T (k + 6) g20 [.d (.lst (ls.map λl=>.lst (l.map c30))),.d (.lst (ls.map λl=>.lst (l.map c30)))] z=some (.ok (.d (.bl true)) z):=by
 refine W.ok (i80 (k:=k + 3) (ps:=2) (ns:=2) (b:=g40) rfl rfl 1e1 ?_)
 refine ie (b:=!(((ls.map λl=>D.lst (l.map c30)).length:Int) == ((ls.map λl=>D.lst (l.map c30)).length:Int))) (by rw[beq_self_eq_true];rfl) ?_
 refine ip (c:=(r90 (ls.map λl=>D.lst (l.map c30)) (ls.map λl=>D.lst (l.map c30))).length<=most) (Ó (r10 _ _) (f90 (by rw[È];exact hl))) (p01 (λ_=>.bl true) (λq hq=>?_) (a00 (z60 _ λ_=>true) ?_ :))
 ·obtain⟨x,hx,rfl⟩:=B80 hq;obtain⟨l,hl',rfl⟩:=Ò.mp hx;obtain⟨h1,h2⟩:=h l hl';exact Wo (F21 1 k (by rw[È];exact h1) (λx hx=>by obtain⟨y,hy,rfl⟩:=Ò.mp hx;exact E51 (by have:=h2 y hy;omega)) z) ⟨rfl,rfl⟩
 ·exact sb (b:=List.all _ λ_=>true) (Ú.mpr λ_ _=>rfl)
theorem W90:∀ {a b:List D},e10 (a++b)=(e10 a&&e10 b)
 |[],b=>rfl
 |x::a,b=>by
  show(n60 x&&e10 (a++b))=((n60 x&&e10 a)&&e10 b);rw[W90,Bool.and_assoc]
theorem X00:∀ {a b:List D},e70 (a++b)=Ï3 (e70 a) (e70 b)
 |[],b=>(Nat.zero_max _).symm
 |x::a,b=>by
  show Ï3 (deep x) (e70 (a++b))=Ï3 (Ï3 (deep x) (e70 a)) (e70 b);rw[X00];exact(Nat.max_assoc _ _ _).symm
def j61{a b:List D}(ha:G90 a=true)(hb:G90 b=true):G90 (a++b)=true:=by
 unfold G90 at ha hb ⊢;rw[Á,decide_eq_true_eq] at ha hb ⊢;rw[W90,X00,ha.1,hb.1];exact⟨rfl,Ú0.mpr ⟨ha.2,hb.2⟩⟩
def M12{l:List D}(h:G90 l=true):okD (.tup l)=true:=by
 unfold G90 at h;unfold okD;rw[Á,decide_eq_true_eq] at h ⊢;exact⟨h.1,by show e70 l + 1<=40;omega⟩
def Q41{x:D}(h:n60 x=true)(h2:deep x<=39):G90 [x]=true:=by
 unfold G90;rw[Á,decide_eq_true_eq];refine⟨by show(n60 x&&true)=true;rw[h];rfl,?_⟩
 show Ï3 (deep x) 0<=39;exact Ú0.mpr ⟨h2,∅⟩
def Q00(k:Nat)(x:D)(z:Z):b50 T (k + 3) z50 [.d x] z=some (.ok (.d (.bl (p80 x))) z):=by
 refine W.ok (i80 (ps:=1) (ns:=1) (b:=p70) rfl rfl 1e1 ?_)
 cases x with
 |_=>exact sd rfl
def F31(h:p80 x=true):∃ i,x=.int i:=by
 cases x with
 |int i=>exact⟨i,rfl⟩|_=>cases h
theorem G50(c:D->Bool):∀ {l:List D},G90 l=true->G90 (l.filter c)=true:=λ{l} h=>by
 unfold G90 at h ⊢;rw[Á,decide_eq_true_eq] at h ⊢
 induction l with
 |nil=>exact h
 |cons x r ih =>
  have h1:(n60 x&&e10 r)=true:=h.1;have h2:Ï3 (deep x) (e70 r)<=39:=h.2;rw[Á] at h1;rw[Ú0] at h2;have ih:=ih ⟨h1.2,h2.2⟩;rw[Í8];split
  ·refine⟨?_,?_⟩
   ·show(n60 x&&e10 (r.filter c))=true;rw[h1.1,ih.1];rfl
   ·show Ï3 (deep x) (e70 (r.filter c))<=39;exact Ú0.mpr ⟨h2.1,ih.2⟩
  ·exact ih
def z52(h:G90 l=true):okD (.lst l)=true:=M12 h
def Q51:D->Bool
 |.tup l=>G90 l&&decide (l.length<=1000)|_=>true
def o41(h:Q51 x=true):short x=true:=by
 cases x with
 |tup l =>
  unfold Q51 at h;rw[Á] at h;exact h.2
 |_=>rfl
theorem o80:∀ {l:List D},(∀ x∈l,p80 x=true)->∃ ns:List Int,l=ns.map D.int
 |[],_=>⟨[],rfl⟩
 |x::r,h=>by
  obtain⟨i,rfl⟩:=F31 (h x Ì);obtain⟨ns,rfl⟩:=o80 λy hy=>h y (Ë _ hy);exact⟨i::ns,rfl⟩
theorem F41:∀ {ns:List Int},(∀ x∈ns,0<=x)->∃ l:List Nat,ns.map D.int=l.map a40
 |[],_=>⟨[],rfl⟩
 |x::r,h=>by
  obtain⟨i,rfl⟩:=Ë3 (h x Ì);obtain⟨l,e⟩:=F41 λy hy=>h y (Ë _ hy);exact⟨i::l,by rw[Æ0,Æ0,e];rfl⟩
theorem J30:∀ {l:List Nat},(∀ x∈l,x < 8)->E00 (l.map a40)=some l
 |[],_=>rfl
 |x::r,h=>by
  have hx:=h x Ì;show(if 0<=(x:Int)/\(x:Int) < 8 then(E00 (r.map a40)).map ((x:Int).toNat::·) else none)=_;rw[if_pos ∅,J30 λy hy=>h y (Ë _ hy),Â6];rfl
def dedup(l:List Nat):List Nat:=(ò 8).filter λi=>l.contains i
def Q61(h:∀ x∈l,x < 8)(hu:l.Pairwise (· < ·)):dedup l=l:=by
 have h2:(dedup l).Pairwise (· < ·):=Ë2 _ È8;refine É1 (le:=λa b=>a < b) (λa b _ _ h1 h2=>by omega) h2 hu ?_
 refine(Ï7 (h2.imp λh=>by omega) (hu.imp λh=>by omega)).mpr λx=>?_
 unfold dedup;rw[Ð9,Ö6];constructor
 ·exact λhx=>by simpa using hx.2
 ·exact λhx=>⟨h x hx,by simpa using hx⟩
theorem X10:∀ {l:List Nat},o61 (l.map a40) (l.map a40)=true
 |[]=>rfl
 |x::r=>by
  show((x:Int) == (x:Int)&&o61 (r.map a40) (r.map a40))=true;rw[beq_self_eq_true,X10];rfl
theorem V71:∀ {l:List Nat},V80 (l.map a40)=true->l.Pairwise (· < ·)
 |[],_=>.nil|[_],_=>.cons (λ_ h=>nomatch h) .nil
 |x::y::r,h=>by
  have h:(decide ((x:Int) < y)&&V80 ((y::r).map a40))=true:=h;rw[Á,decide_eq_true_eq] at h;have ih:=V71 (l:=y::r) h.2;refine .cons (λz hz=>?_) ih;rcases ï.mp hz with rfl | hz
  ·omega
  ·have:=(Ë0.mp ih).1 z hz;omega
def Q71(k:Nat)(m6:m<=6)(h:Q51 x=true)(z:Z):∃ b,b50 T (k + 4) m80 [.d (.int m),.d x] z=some (.ok (.d (.bl b)) z)/\(b=false->p11 m x=false)/\(b=true->∃ l,x=.tup l):=by
 have no:∀ {x:D},(∀ l,x≠.tup l)->S61 .tuple x=false->∃ b,b50 T (k + 4) m80 [.d (.int m),.d x] z=some (.ok (.d (.bl b)) z)/\(b=false->p11 m x=false)/\(b=true->∃ l,x=.tup l):=λ{x} h1 h2=>by
  refine⟨false,W.ok (i80 (ps:=2) (ns:=2) (b:=e60) rfl rfl 1e1 ?_),λ_=>?_,λh=>nomatch h⟩
  ·refine it (b:=!S61 .tuple x) (by rw[h2];rfl) ?_
   exact sd rfl
  ·cases x with
   |tup l=>exact absurd rfl (h1 l)|_=>rfl
 cases x with
 |tup l =>
  unfold Q51 at h;rw[Á,decide_eq_true_eq] at h;by_cases hw:(l.filter λx=>!p80 x)=[]
  ·have hw':∀ x∈l,p80 x=true:=λx hx=>by
    have:=Ã6.mp hw x hx;simpa using this
   obtain⟨ns,rfl⟩:=o80 hw';by_cases hr:((ns.map D.int).filter λx=>!b90 x m)=[]
   ·have hr':∀ x∈ns,0<=x/\x < m:=λx hx=>by
     have:=Ã6.mp hr _ (Ò.mpr ⟨x,hx,rfl⟩);unfold b90 at this;simpa using this
    obtain⟨ps,e⟩:=F41 λx hx=>(hr' x hx).1;have hlt:∀ p∈ps,p < 8:=λp hp=>by
     have:a40 p∈ns.map D.int:=by rw[e];exact Ò.mpr ⟨p,hp,rfl⟩
     obtain⟨i,hi,e2⟩:=Ò.mp this;have h1:=hr' i hi;have e3:i=(p:Int):=by injection e2
     omega
    refine⟨o61 (ps.map a40) ((dedup ps).map a40),W.ok (i80 (ps:=2) (ns:=2) (b:=e60) rfl rfl 1e1 ?_),λhb=>?_,λ_=>⟨_,rfl⟩⟩
    ·refine ip (f90 h.2) (h61 (λx=>!p80 x) (λx=>x) (λx hx=>?_) ?_)
     ·exact Wo (Q00 k x z) ⟨rfl,rfl,λ_=>⟨rfl,rfl⟩⟩
     ·rw[hw];refine ip (f90 h.2) (h61 (λx=>!b90 x m) (λx=>x) (λx hx=>?_) ?_)
      ·obtain⟨i,hi,rfl⟩:=Ò.mp hx;have h1:=hr' i hi;refine it (b:=decide ((0:Int)<=i)) (decide_eq_true h1.1) ?_;refine⟨?_,rfl,λ_=>⟨rfl,rfl⟩⟩;show S.d (.bl (!decide (i < m)))=S.d (.bl (!(decide (0<=i)&&decide (i < m))));rw[decide_eq_true h1.1];rfl
      ·rw[hr,e];refine(a00 (o:=Option.bind (m31 (.tup (ps.map a40))) λl=>(E00 l).map λns=>S.fr (((ò 8).filter λi=>ns.contains i).map λ(n:Nat)=>.int n)) (a:=.fr ((dedup ps).map a40)) (by show(E00 (ps.map a40)).map _=_;rw[J30 hlt];rfl) ?_ :)
       refine(a00 (o:=eqQ (.lst (ps.map a40)) (.lst ((dedup ps).map a40))) (a:=o61 (ps.map a40) ((dedup ps).map a40)) (by unfold eqQ;rw[r20,r20];rfl) ?_ :)
       exact sd rfl
    ·cases hp:p11 m (.tup (ns.map D.int)) with
     |false=>rfl
     |true =>
      exfalso;rw[e] at hp;unfold p11 at hp;rw[Á,Á] at hp;have up:=V71 hp.1.2;rw[Q61 hlt up,X10] at hb;cases hb
   ·refine⟨false,W.ok (i80 (ps:=2) (ns:=2) (b:=e60) rfl rfl 1e1 ?_),λ_=>?_,λh=>nomatch h⟩
    ·refine ip (f90 h.2) (h61 (λx=>!p80 x) (λx=>x) (λx hx=>?_) ?_)
     ·exact Wo (Q00 k x z) ⟨rfl,rfl,λ_=>⟨rfl,rfl⟩⟩
     ·rw[hw];refine ip (f90 h.2) (h61 (λx=>!b90 x m) (λx=>x) (λx hx=>?_) ?_)
      ·obtain⟨i,hi,rfl⟩:=Ò.mp hx;refine ib (b:=decide ((0:Int)<=i)) (λh1=>?_) λh1=>?_
       ·refine⟨?_,rfl,λ_=>⟨rfl,rfl⟩⟩;show S.d (.bl (!decide (i < m)))=S.d (.bl (!(decide (0<=i)&&decide (i < m))));rw[h1];rfl
       ·refine⟨?_,rfl,λ_=>⟨rfl,rfl⟩⟩;show S.d (.bl (!false))=S.d (.bl (!(decide (0<=i)&&decide (i < m))));rw[h1];rfl
      ·rw[Ö8];refine(a00 (ne_nil (z52 (G50 _ h.1))) ?_ :);refine it (b:=!((ns.map D.int).filter λx=>!b90 x m).isEmpty) ?_ ?_
       ·cases hh:(ns.map D.int).filter λx=>!b90 x m with
        |nil=>exact absurd hh hr|cons _ _=>rfl
       ·exact sd rfl
    ·show((ns.map D.int).all (λx=>b90 x m)&&V80 (ns.map D.int)&&!(ns.map D.int).isEmpty)=false;have:(ns.map D.int).all (λx=>b90 x m)=false:=by
      cases ha:(ns.map D.int).all (λx=>b90 x m) with
      |false=>rfl|true=>exact absurd (Ã6.mpr λx hx=>by rw[Ú.mp ha x hx];decide) hr
     rw[this];rfl
  ·refine⟨false,W.ok (i80 (ps:=2) (ns:=2) (b:=e60) rfl rfl 1e1 ?_),λ_=>?_,λh=>nomatch h⟩
   ·refine ip (f90 h.2) (h61 (λx=>!p80 x) (λx=>x) (λx hx=>?_) ?_)
    ·exact Wo (Q00 k x z) ⟨rfl,rfl,λ_=>⟨rfl,rfl⟩⟩
    ·rw[Ö8];refine(a00 (ne_nil (z52 (G50 _ h.1))) ?_ :);refine it (b:=!(l.filter λx=>!p80 x).isEmpty) ?_ ?_
     ·cases hh:l.filter λx=>!p80 x with
      |nil=>exact absurd hh hw|cons _ _=>rfl
     ·exact sd rfl
   ·show(l.all (λx=>b90 x m)&&V80 l&&!l.isEmpty)=false;have:l.all (λx=>b90 x m)=false:=by
     cases ha:l.all (λx=>b90 x m) with
     |false=>rfl
     |true=>exact absurd (Ã6.mpr λx hx=>by
       obtain⟨i,rfl,_⟩:=j80 (Ú.mp ha x hx);exact λh=>nomatch h) hw
    rw[this];rfl
 |_=>exact no (λl h=>nomatch h) rfl
def C00(l:List Nat)(lo hi:Option Int):∃ l':List Nat,cutD (l.map a40) lo hi=l'.map a40/\l'.length<=l.length:=by
 unfold cutD;refine⟨(l.drop _).take _,by rw[← List.map_drop,← map_take],?_⟩
 rw[Å5,Ë6];omega
def c71{a b:List Nat}(ha:a.length<=10)(hb:b.length<=10)(hx:(n60 x&&decide (deep x<=39))=true):Q51 (.tup (a.map a40++[x]++b.map a40))=true:=by
 rw[Á,decide_eq_true_eq] at hx;show(G90 (a.map a40++[x]++b.map a40)&&decide ((a.map a40++[x]++b.map a40).length<=1000))=true;rw[j61 (j61 (v90 a) (Q41 hx.1 hx.2)) (v90 b)];refine decide_eq_true ?_;rw[ù,U91,È,È];omega
def Q10{a:List Nat}(ha:a.length<=100):Q51 (.tup (a.map a40))=true:=by
 show(G90 (a.map a40)&&decide ((a.map a40).length<=1000))=true;rw[v90 a];exact decide_eq_true (by rw[È];omega)
def F51(l:List Nat):(n60 (.tup (l.map a40))&&decide (deep (.tup (l.map a40))<=39))=true:=by
 have e:l.map a40=(l.map λ(n:Nat)=>(n:Int)).map D.int:=by rw[Ã8];rfl
 obtain⟨h1,h2⟩:=G00 (l.map λ(n:Nat)=>(n:Int));show(e10 (l.map a40)&&decide (e70 (l.map a40) + 1<=39))=true;rw[e,h1,h2];rfl
def Q20(k:Nat){m:Int}(m1:1<=m)(m6:m<=6){pl:List Nat}(hl:pl.length<=6)(hz:ZI z):W (b50 T (k + 4) k50 [.z,.d (.int m),.d (.tup (pl.map a40))]) z (λs z1=>ZI z1/\∃ x,s=.d x/\Q51 x=true) NE:=by
 have hll:(pl.map a40).length=pl.length:=È _;refine y12 hz (ps:=3) (ns:=6) (b:=f80) rfl rfl 1e1 ?_
 refine(h50 k (((pl.map a40).length:Int) + 1) hz ∅ ∅).imp λs z1 ⟨hz1,a,e,a1⟩=>?_
 subst e;refine(h50 k (m + 1) hz1 ∅ ∅).imp λs z2 ⟨hz2,w,e,w1⟩=>?_
 subst e;refine(h50 k 10 hz2 1e1 1e1).imp λs z3 ⟨hz3,v,e,v1⟩=>?_
 subst e;refine(h42 (n:=v) (λx=>n60 x&&decide (deep x<=39)) ?_ ?_ ?_ :)
 ·show v < 10;omega
 ·have hs:(n60 (.str "0")&&decide (deep (.str "0")<=39))=true:=by decide +kernel
  show List.all [D.int w,.int m,.int (-1),.bl true,.non,.str "0",.tup [.int 0],.bl false,.int ((10:Int) ^ (29:Int).toNat),.int 0] (λx=>n60 x&&decide (deep x<=39))=true;refine Ú.mpr λy hy=>?_;simp only[Å2,Ã2,or_false] at hy;rcases hy with rfl | rfl | rfl | rfl | rfl | rfl | rfl | rfl | rfl | rfl
  ·rfl
  ·rfl
  ·rfl
  ·rfl
  ·rfl
  ·exact hs
  ·rfl
  ·rfl
  ·rfl
  ·rfl
 ·intro x hx;obtain⟨l1,e1,c1⟩:=C00 pl none (some (a:Int));obtain⟨l2,e2,c2⟩:=C00 pl (some (a:Int)) none;obtain⟨l3,e3,c3⟩:=C00 pl (some ((a:Int) + 1)) none;obtain⟨l4,e4,c4⟩:=C00 pl (some (-1)) none;have t1:H80 .add (.tup (cutD (pl.map a40) none (some (a:Int)))) (.tup [x])=some (.d (.tup (l1.map a40++[x]))):=by rw[e1];exact b81 (by rw[È];show _ + 1<=_;omega)
  refine(a00 t1 ?_ :);refine(a00 (show H80 .add (.tup (l1.map a40++[x])) (.tup (cutD (pl.map a40) (some (a:Int)) none))=some (.d (.tup (l1.map a40++[x]++l2.map a40))) from by rw[e2];exact b81 (by rw[U91,È,È];omega)) ?_ :)
  refine(a00 t1 ?_ :);refine(a00 (show H80 .add (.tup (l1.map a40++[x])) (.tup (cutD (pl.map a40) (some ((a:Int) + 1)) none))=some (.d (.tup (l1.map a40++[x]++l3.map a40))) from by rw[e3];exact b81 (by rw[U91,È,È];omega)) ?_ :)
  refine(a00 (show H80 .add (.tup (cutD (pl.map a40) none (some (a:Int)))) (.tup (cutD (pl.map a40) (some ((a:Int) + 1)) none))=some (.d (.tup (l1.map a40++l3.map a40))) from by rw[e1,e3];exact b81 (by rw[È,È];omega)) ?_ :)
  refine(a00 (show H80 .add (.tup (pl.map a40)) (.tup (cutD (pl.map a40) (some (-1)) none))=some (.d (.tup (pl.map a40++l4.map a40))) from by rw[e4];exact b81 (by rw[È,È];omega)) ?_ :)
  refine(h50 k 11 hz3 1e1 1e1).imp λs z4 ⟨hz4,u,e,u1⟩=>?_
  subst e;refine(h42 (L:=[.tup (l1.map a40++[x]++l2.map a40),.tup (l1.map a40++[x]++l3.map a40),.tup (l1.map a40++l3.map a40),.lst (pl.map a40),.tup (pl.map a40).reverse,.tup (pl.map a40++l4.map a40),.non,.dct,.int 0,.tup [.tup (pl.map a40)],.tup []]) (n:=u) Q51 ?_ ?_ ?_ :)
  ·show u < 11;omega
  ·rw[← Á3,← Á3,← List.map_reverse];simp only[Å4,all_nil,Ø4,Á];refine⟨c71 ∅ ∅ hx,c71 ∅ ∅ hx,Q10 (by rw[ù];omega),rfl,Q10 (by rw[Ñ0];omega),Q10 (by rw[ù];omega),rfl,rfl,rfl,c71 (a:=[]) (b:=[]) 1e1 1e1 (F51 pl),rfl⟩
  ·exact λy hy=>⟨hz4,y,rfl,hy⟩
def k90(h:S71 ρ capt=some ss)(he:WE (Q.E10 F) a (ss.map some) z (λ_ _=>False) (λd z2=>d=c/\z2=z))(hc:c < 12)(hr:o60 F ρ r z=some (cs,z)):o60 F ρ ((capt,a)::r) z=some (c::cs,z):=by
 have e:=W.er (c60.mp he);unfold o60;rw[h];show(match ev (Q.E10 F) a (ss.map some) z with | some (.er c z1)=>if c < 12 then(o60 F ρ r z1).map λ(p:List Nat × Z)=>(c::p.1,p.2) else none | _=>none)=_
 rw[e];show(if c < 12 then(o60 F ρ r z).map λ(p:List Nat × Z)=>(c::p.1,p.2) else none)=_;rw[if_pos hc,hr];rfl
def F61(h:o60 F ρ ls z=some (cs,z))(he:WE F e ρ z (λl z1=>Get (pl l) λd=>z1=z/\t80 .ne (.lst (cs.map L71)) d=some false) NE)(hr:WS F tp r ρ z Q E):W (E20 F ls e (ex F tp t) (ex F tp r) ρ) z Q E:=by
 obtain⟨l,e1,e2⟩:=c60.mp he;cases l with
 |er c z1=>exact e2.elim
 |ok l z1 =>
  obtain⟨d,e3,rfl,e4⟩:=m00 (show Get (pl l) _ from e2);obtain⟨o,e5,e6⟩:=I50.mp hr;refine⟨o,?_,e6⟩;unfold E20;rw[h];show M.bind (ev F e ρ) _ z1=some o;simp only[M.bind,e1,M.of,e3,M.ret,e4];exact e5
def z62(il:i < ρ.length)(h:o60 F (ρ.set i none) ls z=some (cs,z))(he:WE F e (ρ.set i none) z (λl z1=>Get (pl l) λd=>z1=z/\t80 .ne (.lst (cs.map L71)) d=some false) NE)(hr:WS F tp r (ρ.set i none) z Q E):WS F tp (.lams i ls none e t r) ρ z Q E:=by
 show W (if i < ρ.length then E20 F ls e (ex F tp t) (ex F tp r) (ρ.set i none) else M.no) z Q E;rw[if_pos il];exact F61 h he hr
def F71(b:Bool)(il:i < ρ.length)(jl:j < ρ.length)(ha:WE F a (ρ.set i none) z (λl z1=>Get ((pl l).bind asB) λc=>c=b/\z1=z) NE)
  (ht:b=true->∃ cs,o60 F ((ρ.set i none).set j (some (.d (.bl true)))) ls z=some (cs,z)/\WE F e ((ρ.set i none).set j (some (.d (.bl true)))) z (λl z1=>Get (pl l) λd=>z1=z/\t80 .ne (.lst (cs.map L71)) d=some false) NE) (hr:WS F tp r ((ρ.set i none).set j (some (.d (.bl b)))) z Q E):WS F tp (.lams i ls (some (j,a)) e t r) ρ z Q E:=by
 show W (if i < ρ.length then(if j < (ρ.set i none).length then M.bind (ev F a (ρ.set i none)) (λl=>M.bind (M.of ((pl l).bind asB)) λb=>if b then E20 F ls e (ex F tp t) (ex F tp r) ((ρ.set i none).set j (some (.d (.bl b)))) else ex F tp r ((ρ.set i none).set j (some (.d (.bl b))))) else M.no) else M.no) z Q E;rw[if_pos il,if_pos (by rw[À9];exact jl),s10]
 refine(c60.mp ha).imp λl z1 h=>?_;obtain⟨c,e1,rfl,rfl⟩:=m00 h;refine(wG (K:=λb=>W (if b=true then E20 F ls e (ex F tp t) (ex F tp r) ((ρ.set i none).set j (some (.d (.bl b)))) else ex F tp r ((ρ.set i none).set j (some (.d (.bl b))))) z1 Q E) λb=>Iff.rfl).mp (a00 e1 ?_);cases c with
 |true =>
  rw[if_pos rfl];obtain⟨cs,h1,h2⟩:=ht rfl;exact F61 h1 h2 hr
 |false =>
  rw[if_neg Ï];exact I50.mp hr
section
variable {m:Int}{ps:List (Int × Int)}{pl:List Nat}
section
variable (k:Nat){w x:D}(hw:i11 w=false)(z:Z)
include hw
def V81:b50 T (k + 10) e30 [.d w,.d x] z=some (.er 0 z):=W.er (i80 (ps:=2) (ns:=2) (b:=j70) rfl rfl 1e1 (We (z70 (k + 1) z hw) ⟨rfl,d20 z⟩))
def W01:b50 T (k + 10) z30 [.d w,.d x] z=some (.er 0 z):=W.er (i80 (ps:=2) (ns:=2) (b:=V10) rfl rfl 1e1 (We (z70 (k + 1) z hw) ⟨rfl,d20 z⟩))
def i82:b50 T (k + 11) e40 [.d w,.d x] z=some (.er 0 z):=W.er (i80 (ps:=2) (ns:=2) (b:=h00) rfl rfl 1e1 (We (V81 k hw z) ⟨rfl,d20 z⟩))
def j02:b50 T (k + 11) e50 [.d w,.d x] z=some (.er 0 z):=W.er (i80 (ps:=2) (ns:=2) (b:=h20) rfl rfl 1e1 (We (W01 k hw z) ⟨rfl,d20 z⟩))
end
section
variable (k:Nat)(g:d90 m ps){x:D}(hx:p11 m x=false)(hs:short x=true)(z:Z)
include g hx hs
def V91:b50 T (k + 10) e30 [.d (y20 m ps),.d x] z=some (.er 2 z):=W.er (i80 (ps:=2) (ns:=2) (b:=j70) rfl rfl 1e1 (Wo (k70 (k + 1) z g.web) (We (q00 (k + 3) (t:=.tup (ps.map pr)) z hx hs) ⟨rfl,d20 z⟩)))
def W11:b50 T (k + 10) z30 [.d (y20 m ps),.d x] z=some (.er 2 z):=W.er (i80 (ps:=2) (ns:=2) (b:=V10) rfl rfl 1e1 (Wo (k70 (k + 1) z g.web) (We (q00 (k + 3) (t:=.tup (ps.map pr)) z hx hs) ⟨rfl,d20 z⟩)))
def i92:b50 T (k + 11) e40 [.d (y20 m ps),.d x] z=some (.er 2 z):=W.er (i80 (ps:=2) (ns:=2) (b:=h00) rfl rfl 1e1 (We (V91 k g hx hs z) ⟨rfl,d20 z⟩))
def j12:b50 T (k + 11) e50 [.d (y20 m ps),.d x] z=some (.er 2 z):=W.er (i80 (ps:=2) (ns:=2) (b:=h20) rfl rfl 1e1 (We (W11 k g hx hs z) ⟨rfl,d20 z⟩))
end
abbrev F81(m:Int)(ps:List (Int × Int))(pl:List Nat):List (List (List Nat)):=[k80 m ps pl,h60 (k80 m ps pl),w10 m ps pl,h60 (w10 m ps pl)]
abbrev Q81(m:Int)(ps:List (Int × Int))(pl:List Nat):D:=.lst ((F81 m ps pl).map λl=>.lst (l.map c30))
def j22(g:d90 m ps):∀ l∈F81 m ps pl,l.length<=1000/\∀ x∈l,x.length<=8:=λl hl=>by
 have h1:=i91 (pl:=pl) g;have h2:=Q01 (pl:=pl) g;simp only[Å2,Ã2,or_false] at hl;rcases hl with rfl | rfl | rfl | rfl
 ·exact⟨∅,λx hx=>A10 g ((n10 g).mp hx).1⟩
 ·exact⟨Ó P80 ∅,λx hx=>Z02 g hx⟩
 ·exact⟨∅,λx hx=>A10 g ((t70 g).mp hx).1⟩
 ·exact⟨Ó P80 ∅,λx hx=>Z12 g hx⟩
def j32{a b c d:List D}(ha:a.length<=most)(hb:b.length<=most)(hc:c.length<=most)(hd:d.length<=most):(if [S.fr a,.fr b,.fr c,.fr d].length<=most then frL [S.fr a,.fr b,.fr c,.fr d] else none)=some [a,b,c,d]:=by
 rw[if_pos (show [S.fr a,S.fr b,S.fr c,S.fr d].length<=most from(by decide:4<=most))]
 unfold frL;rw[if_pos ha];unfold frL;rw[if_pos hb];unfold frL;rw[if_pos hc];unfold frL;rw[if_pos hd];rfl
abbrev f4E(ns:List Int)(j:Nat)(m:Int)(ps:List (Int × Int))(pl:List Nat)(s:S)(o6 o7 o8 o9 o10 o11 o12 o13:Option S):Env:=[some (.d (.lst (ns.map D.int))),some (.d (.int j)),some .z,some (.d (y20 m ps)),some (.d (.tup (pl.map a40))),some s,o6,o7,o8,o9,o10,o11,o12,o13]
abbrev bIn(n:Nat):Sm:=match O91 with
 |.seq (.fr _ _ _ b) _=>Nat.rec b (λ_ r=>tl r) n|_=>.nil
inductive LA (ns:List Int):Env->Prop
 |mk {o1 o2 o3 o4 o5 o6 o7 o8 o9 o10 o11 o12 o13:Option S}:LA ns [some (.d (.lst (ns.map D.int))),o1,o2,o3,o4,o5,o6,o7,o8,o9,o10,o11,o12,o13]
inductive LF (ns:List Int) (j:Nat) (m:Int) (ps:List (Int × Int)) (pl:List Nat):Env->Prop
 |mk {s:S}{o6 o7 o8 o9 o10 o11 o12 o13:Option S} (h:plS s=.d (Q81 m ps pl)):LF ns j m ps pl (f4E ns j m ps pl s o6 o7 o8 o9 o10 o11 o12 o13)
def Q91(k:Nat){ns:List Int}{j:Nat}{z:Z}(g:d90 m ps)(hp:l40 m pl){ρ:Env}(hρ:LF ns j m ps pl ρ){Q:O->Z->Prop}{E:Nat->Z->Prop}
 (q:∀ ρ,LF ns j m ps pl ρ->WS (T20 T (k + 37 + 2)) true (bIn 7) ρ z Q E):WS (T20 T (k + 37 + 2)) true (bIn 6) ρ z Q E:=by
 have h1:=i91 (pl:=pl) g;have h2:=Q01 (pl:=pl) g;have c1:=o31 (k + 33) (ls:=F81 m ps pl) (show 4<=1000 by decide) (j22 g) z
 have fr:=j32 (a:=(k80 m ps pl).map c30) (b:=(h60 (k80 m ps pl)).map c30) (c:=(w10 m ps pl).map c30) (d:=(h60 (w10 m ps pl)).map c30) (by rw[È];exact f90 ∅) (by rw[È];exact f90 (Ó P80 ∅)) (by rw[È];exact f90 ∅) (by rw[È];exact f90 (Ó P80 ∅))
 have key:∀ s:S,plS s=.d (Q81 m ps pl)->s=.d (Q81 m ps pl)\/s=.fr ((F81 m ps pl).map λl=>.lst (l.map c30)):=λs h=>by
  cases s with
  |d x=>exact .inl h|fr xs=>exact .inr (by cases h;rfl)
  |_=>cases h
 have step:∀ (s:S) (o6 o7 o8 o9 o10 o11 o12 o13:Option S) (Q:O->Z->Prop) (E:Nat->Z->Prop) (r:List D) (x:D),plS s=.d (Q81 m ps pl)->(∀ ρ,LF ns j m ps pl ρ->Q (.nx ρ) z)->Get (f30 (.v 7) x (f4E ns j m ps pl s o6 o7 o8 o9 o10 o11 o12 o13)) λρ=>WS (T20 T (k + 37 + 2)) true (match bIn 6 with | .seq (.fr _ _ _ b) _=>b | _=>.nil) ρ z Q E:=λs o6 o7 o8 o9 o10 o11 o12 o13 Q E r x hs fin=>by
  rcases key s hs with rfl | rfl
  all_goals
   refine ip (B:=False) (c:=8 < 14/\9 < 14/\8≠9) 1e1 ?_
   refine Wo (A00 (k + 30) g hp z) (Wo (P60 (k + 29) g hp z) (Wo (E11 (k + 30) g hp z) (Wo (P70 (k + 29) g hp z) ?_)));refine(a00 fr ?_ :);refine Wo c1 ?_;exact fin _ (.mk rfl)
 obtain @⟨s,o6,o7,o8,o9,o10,o11,o12,o13,hs⟩:=hρ;refine O40 (λxs ρ z2=>z2=z/\LF ns j m ps pl ρ) _ ⟨rfl,?_⟩ ?_ ?_
 ·rcases key s hs with rfl | rfl
  ·exact .mk rfl
  ·exact .mk rfl
 ·rintro x r ρ z2 ⟨rfl,@⟨s,o6,o7,o8,o9,o10,o11,o12,o13,hs⟩⟩;exact step s o6 o7 o8 o9 o10 o11 o12 o13 _ _ r x hs λρ h=>⟨rfl,h⟩
 ·rintro ρ z2 ⟨rfl,h⟩;exact q ρ h
def R01(k:Nat){ns:List Int}{j:Nat}{z:Z}(g:d90 m ps){bw x:D}(hw:i11 bw=false)(hx:Q51 x=true){o5 o6 o7 o8 o9 o12 o13:Option S}{Q:O->Z->Prop}{E:Nat->Z->Prop}
 (q:∀ (z:Z) (ρ:Env),LA ns ρ->Q (.nx ρ) z) :
 WS (T20 T (k + 37 + 2)) true (bIn 8) [some (.d (.lst (ns.map D.int))),some (.d (.int j)),some .z,some (.d (y20 m ps)),some (.d (.tup (pl.map a40))),o5,o6,o7,o8,o9,some (.d bw),some (.d x),o12,o13] z Q E:=by
 have hs:=o41 hx;obtain⟨b,hb,b0,b1⟩:=Q71 (k + 35) g.m6 hx z;have bad:p11 m x=false->∀ ρ:Env,S71 ρ [3,11]=some [.d (y20 m ps),.d x]->o60 (T20 T (k + 37 + 2)) ρ [([3,11],.call e30 (c2 v0 v1)),([3,11],.call e40 (c2 v0 v1)),([3,11],.call z30 (c2 v0 v1)),([3,11],.call e50 (c2 v0 v1))] z=some ([2,2,2,2],z):=λhpl ρ c1 =>
  k90 c1 (We (V91 (k + 27) g hpl hs z) ⟨rfl,rfl⟩) 1e1 (k90 c1 (We (i92 (k + 26) g hpl hs z) ⟨rfl,rfl⟩) 1e1 (k90 c1 (We (W11 (k + 27) g hpl hs z) ⟨rfl,rfl⟩) 1e1 (k90 c1 (We (j12 (k + 26) g hpl hs z) ⟨rfl,rfl⟩) 1e1 rfl)))
 have last:∀ o12 o13:Option S,WS (T20 T (k + 37 + 2)) true (match bIn 8 with | .lams _ _ _ _ _ r=>r | _=>.nil) [some (.d (.lst (ns.map D.int))),some (.d (.int j)),some .z,some (.d (y20 m ps)),some (.d (.tup (pl.map a40))),o5,o6,o7,o8,o9,some (.d bw),some (.d x),o12,o13] z Q E:=λo12 o13=>by
  refine z62 (cs:=[0,0,0,0]) (by show 12 < 14;decide) (k90 (ss:=[.d bw,.d x]) rfl (We (V81 (k + 27) hw z) ⟨rfl,rfl⟩) 1e1 (k90 (ss:=[.d bw,.d x]) rfl (We (i82 (k + 26) hw z) ⟨rfl,rfl⟩) 1e1 (k90 (ss:=[.d bw,.d x]) rfl (We (W01 (k + 27) hw z) ⟨rfl,rfl⟩) 1e1 (k90 (ss:=[.d bw,.d x]) rfl (We (j02 (k + 26) hw z) ⟨rfl,rfl⟩) 1e1 rfl)))) ⟨rfl,rfl⟩ ?_
  exact q _ _ .mk
 cases b with
 |false =>
  refine F71 true (by show 12 < 14;decide) (by show 13 < 14;decide) (Wo hb ⟨rfl,rfl⟩) (λ_=>⟨[2,2,2,2],bad (b0 rfl) _ rfl,rfl,rfl⟩) ?_
  exact last _ _
 |true =>
  obtain⟨l,rfl⟩:=b1 rfl;have eq:t80 .eq (.tup l) (.tup [])=some l.isEmpty:=by
   show eqQ (.tup l) (.tup [])=_;unfold eqQ;split
   ·cases l <;> rfl
   ·rfl
  refine F71 l.isEmpty (by show 12 < 14;decide) (by show 13 < 14;decide) (Wo hb ?_) (λh=>⟨[2,2,2,2],bad (by cases l with | nil=>rfl | cons _ _=>cases h) _ rfl,rfl,rfl⟩) ?_
  ·refine(a00 eq ?_ :);exact⟨rfl,rfl⟩
  ·exact last _ _
end
abbrev B32(L:Int):Int:=if (if (3:Int) < L then 3 else L) > 1 then(if (3:Int) < L then 3 else L) else 1
def z72(b:Bool)(v:Nat)(h:v < 2):∃ mo:Int,e91 (.lst [.int 7,.int (7 + (if b=true then 1 else 0))]) (.int v)=some (.int mo)/\0<=mo/\mo<=8:=by
 have:v=0\/v=1:=∅
 rcases this with rfl | rfl
 ·exact⟨7,rfl,-0,-0⟩
 ·cases b with
  |true=>exact⟨8,rfl,-0,-0⟩|false=>exact⟨7,rfl,-0,-0⟩
def z82(k:Nat)(ns:List Int):b50 T (k + 40) y02 [.d (.lst (ns.map D.int))] none=some (.ok (.d (.bl true)) none):=by
 refine W.ok (i80 (k:=k + 37) (ps:=1) (ns:=14) (b:=O91) rfl rfl 1e1 ?_)
 have hN:0<=B32 ((ns.map D.int).length:Int)/\B32 ((ns.map D.int).length:Int) < 100000:=by
  unfold B32;split <;> (try split) <;> omega
 refine(a00 (V40 (m:=B32 ((ns.map D.int).length:Int)) hN.1 hN.2) ?_ :);refine O40 (λxs ρ z=>(∀ x∈xs,∃ j:Nat,x=.int j)/\LA ns ρ) _ ⟨λx hx=>?_,.mk⟩ ?_ ?_
 ·obtain⟨i,_,rfl⟩:=Ò.mp hx;exact⟨i,rfl⟩
 ·rintro x r ρ z1 ⟨hx,⟨⟩⟩;obtain⟨j,rfl⟩:=hx x Ì;obtain⟨sn,sb,hz1,hst⟩:=P11 (k + 35) ns j z1;refine Wo hst ?_;refine(h50 (k + 36) 2 hz1 1e1 1e1).imp λs z2 ⟨hz2,v,e,v1⟩=>?_
  subst e;obtain⟨mo,emo,mo0,mo8⟩:=z72 ((j:Int) == 0) v ∅
  refine(a00 emo ?_ :);refine(C81 (k + 34) hz2 mo0 mo8).imp λs z3 ⟨hz3,m,ps,e,g,_⟩=>?_;subst e;refine(V90 (k + 35) (t:=.tup (ps.map pr)) g.m1 g.m6 hz3).imp λs z5 ⟨hz5,pl,e,hp⟩=>?_;subst e;have h8:=g.len;have n1:=i91 (pl:=pl) g;have n2:=Q01 (pl:=pl) g;refine Wo (P20 (i:=m70) rfl (k + 36) (m:=m) (ts:=ps.map pr) (by rw[È];exact h8) z5) ?_
  rw[È];refine ip (by rw[È];exact f90 (Ó (r30 h8) 1e1)) (h61 (λx=>g50 ps m.toNat pl (o00 x)) (λx=>x) (λx hx=>?_) ?_)
  ·obtain⟨l,hl,rfl⟩:=Ò.mp hx;refine Wo (A20 (k + 35) g hp (D71 h8 hl) z5) ⟨?_,rfl,λ_=>⟨rfl,rfl⟩⟩;rw[e90]
  ·have eg:((r60 ps.length).map c30).filter (λx=>g50 ps m.toNat pl (o00 x))=(k80 m ps pl).map c30:=by
    rw[É3]
    congr 1
    refine É7 λl _=>?_;show g50 ps m.toNat pl (o00 (c30 l))=_;rw[e90]
   rw[Ö8,eg];refine(i72 (show H00 (.fr ((k80 m ps pl).map c30))=true from j00 _) rfl ?_);refine Wo (c61 (k + 34) g hp z5) ?_;refine(i72 (show H00 (.fr ((w10 m ps pl).map c30))=true from j00 _) rfl ?_);refine Wo (A30 (k + 36) n1 (λl hl=>A10 g ((n10 g).mp hl).1) z5) ?_;refine Wo (A30 (k + 36) n2 (λl hl=>A10 g ((t70 g).mp hl).1) z5) ?_;rw[i32 g hp,i42 g hp];refine(Q91 k g hp (.mk (s:=.fr ((F81 m ps pl).map λl=>.lst (l.map c30))) rfl) λρ hρ=>?_ :);obtain @⟨s,o6,o7,o8,o9,o10,o11,o12,o13,hs⟩:=hρ;refine(D11 (k + 35) hz5).imp λs z9 ⟨hz9,bw,e,hbw⟩=>?_;subst e;refine(Q20 (k + 35) g.m1 g.m6 (hp.len g.m6) hz9).imp λs z10 ⟨hz10,x,e,hox⟩=>?_;subst e;exact R01 k g hbw hox λ_ _ h=>⟨λx hx'=>hx x (Ë _ hx'),h⟩
 ·rintro ρ z1 ⟨_,⟨⟩⟩;exact⟨rfl,rfl⟩
theorem pure:∀ ns:List Int,ns.length<=63->b50 (tabOf rows) 40 y02 [.d (.lst (ns.map D.int))] none=some (.ok (.d (.bl true)) none):=λns _=>by
 rw[Y82];exact z82 0 ns
end K3
namespace K3
open PySem L2 Q
theorem ok:rows.all (j92 (H10 rows) nums)=true:=by decide +kernel
theorem bd:p10 rows:=⟨λ_ _ _ _ _ _ us hl=>by obtain⟨_,rfl⟩:=us1 hl;rfl,
 λ_ _ _ _ _ _ us hl=>by obtain⟨_,_,rfl⟩:=us2 hl;rfl,
 λ_ _ _ _ _ _ us hl=>by obtain⟨_,_,rfl⟩:=us2 hl;rfl,
 λ_ _ _ _ _ _ us hl=>by obtain⟨_,_,rfl⟩:=us2 hl;rfl,
 λ_ _ _ _ _ _ us hl=>by obtain⟨_,rfl⟩:=us1 hl;rfl,
 λ_ _ _ _ _ _ us hl=>by obtain⟨_,rfl⟩:=us1 hl;rfl,
 λ_ _ _ _ _ _ us hl=>by obtain⟨_,_,rfl⟩:=us2 hl;rfl,
 λ_ _ _ _ _ _ us hl=>by obtain⟨_,rfl⟩:=us1 hl;rfl,
 λ_ _ _ _ _ _ us hl=>by obtain⟨_,_,rfl⟩:=us2 hl;rfl,
 λ_ _ _ _ _ _ us hl=>by obtain⟨_,_,rfl⟩:=us2 hl;rfl,
 λ_ _ _ _ _ _ us hl=>by obtain⟨_,_,_,rfl⟩:=us3 hl;rfl,
 λ_ _ _ _ _ _ us hl=>by obtain⟨_,rfl⟩:=us1 hl;rfl,
 λ_ _ _ _ _ _ us hl=>by obtain⟨_,_,rfl⟩:=us2 hl;rfl,
 λ_ _ _ _ _ _ us hl=>by obtain⟨_,rfl⟩:=us1 hl;rfl,
 λ_ _ _ _ _ _ us hl=>by obtain⟨_,rfl⟩:=us1 hl;rfl,
 λ_ _ _ _ _ _ us hl=>by obtain⟨_,_,_,rfl⟩:=us3 hl;rfl,
 λ_ _ _ _ _ _ us hl=>by obtain⟨_,_,rfl⟩:=us2 hl;rfl,
 λ_ _ _ _ _ _ us hl=>by obtain⟨_,_,rfl⟩:=us2 hl;rfl,
 λ_ _ _ _ _ _ us hl=>by obtain⟨_,_,rfl⟩:=us2 hl;rfl,
 λ_ _ _ _ _ _ us hl=>by obtain⟨_,_,rfl⟩:=us2 hl;rfl,
 λ_ _ _ _ _ _ us hl=>by obtain⟨_,_,rfl⟩:=us2 hl;rfl,
 λ_ _ _ _ _ _ us hl=>by obtain⟨_,_,rfl⟩:=us2 hl;rfl,
 λ_ _ _ _ _ _ us hl=>by obtain⟨_,_,rfl⟩:=us2 hl;rfl,
 λ_ _ _ _ _ _ us hl=>by obtain⟨_,_,rfl⟩:=us2 hl;rfl,
 λ_ _ _ _ _ _ us hl=>by obtain⟨_,_,rfl⟩:=us2 hl;rfl,
 λ_ _ _ _ _ _ us hl=>by obtain⟨_,_,_,rfl⟩:=us3 hl;rfl,
 λ_ _ _ _ _ _ us hl=>by obtain⟨_,_,_,rfl⟩:=us3 hl;rfl,
 λ_ _ _ _ _ _ us hl=>by obtain⟨_,rfl⟩:=us1 hl;rfl,
 λ_ _ _ _ _ _ us hl=>by obtain⟨_,rfl⟩:=us1 hl;rfl,
 λ_ _ _ _ _ _ us hl=>by obtain⟨_,rfl⟩:=us1 hl;rfl,
 λ_ _ _ _ _ _ us hl=>by obtain⟨_,_,rfl⟩:=us2 hl;rfl,
 λ_ _ _ _ _ _ us hl=>by obtain⟨_,_,_,rfl⟩:=us3 hl;rfl,
 λ_ _ _ _ _ _ us hl=>by obtain⟨_,rfl⟩:=us1 hl;rfl,
 λ_ _ _ _ _ _ us hl=>by obtain⟨_,_,rfl⟩:=us2 hl;rfl,
 λ_ _ _ _ _ _ us hl=>by obtain⟨_,_,rfl⟩:=us2 hl;rfl,
 λ_ _ _ _ _ _ us hl=>by obtain⟨_,rfl⟩:=us1 hl;rfl,trivial⟩
theorem hR:x12 rows ["law"] [("_law_refused",top 53)]:=λr hr hlm=>by
 have h:=Ú.mp (show rows.all (λr=>!r.lm || (["law"]:List Str).contains r.nm)=true from by decide +kernel) r hr
 rw[hlm] at h;exact⟨Ô9.mp h,top 53,191,.head _,rfl,rfl,λ_ _ _ _ _ _ us hl=>by obtain⟨_,rfl⟩:=us1 hl;rfl⟩
def asks:n80:=I40 rows nums ["law"] [("_law_refused",top 53)]
def prg:Program:=õ
def vq:Program:=view prg [55]
def loose:List Str:=prg.boundNames.filter λx=>!(x == ("law":Str))
def runL(w:í)(os:OsState):=(F50 PySem.W.through (PySem.W.stepOk 11 (some (.ref 6))) (PySem.W.stepT (denote treeTable) prg w) 20000 (g02 w os) (PySem.W.topStub prg)).map (λs =>
   (PySem.W.staticsOk (Ð0 prg.main.body) (PySem.W.boot_heap w.params) s.abs.heap&&PySem.W.namesBound prg s.abs.heap&&PySem.W.gensDone s.abs&&PySem.W.laidKept (PySem.W.boot_heap w.params) s.abs.heap,
    PySem.W.openSeen vq loose (Ð0 prg.main.body) (λ_=>true) true s.abs,asks.obs s.abs))
def runR(w:í):=some (true,PySem.W.openGood vq loose,asks.due w)
def _root_.PySem.W.Fast.tw16882524718420213578:PySem.Program:=õ
def _root_.PySem.W.Fast.te16882524718420213578:õ=PySem.W.Fast.tw16882524718420213578:=rfl
theorem twins:(λ(_:runL=runL/\runR=runR)=>true) ⟨rfl,rfl⟩=true:=by k_qdec
theorem run_eq:∀ (w:í) (os:OsState),PySem.W.Fast.tw14075725262101462980 w os=PySem.W.Fast.tw18139657281711212703 w:=λw os=>by kernel_rfl
theorem left:PySem.W.LeftO õ vq loose (λ_=>true) asks.hook.obs asks.hook.val 20000:=g12 (by kernel_rfl) rfl (λ_=>by kernel_rfl) λw os =>
 (congrFun (congrFun PySem.W.Fast.te14075725262101462980 w) os).trans ((run_eq w os).trans (congrFun PySem.W.Fast.te18139657281711212703 w).symm)
end K3
open PySem PySem.W PyProof.Rows
set_option maxRecDepth 100000 in
set_option maxHeartbeats 0 in
theorem PySem.Challenge.cw_tiechances_k04_good_lots_and_cuts_holds : PySem.Challenge.rw_tiechances_k04_good_lots_and_cuts.Holds := by
 w_on;o_law
 refine holds_open (q:=K3.vq) (loose:=K3.loose) (Xt:=λ_=>true) (XP:=λ_ _=>True) (Yf:=K3.asks.hook.obs) (Ya:=K3.asks.hook.val) (YP:=K3.asks.hook.says) K3.left K3.asks.hook.of K3.asks.hook.keeps (λ_ _=>trivial) (λ_ _ _ _ _=>trivial) (by rfl) (by rfl) (by rfl) (λs _=>recFacts_of rfl) rfl (by first | assumption | decide +kernel) (by decide +kernel) ⟨rfl,rfl,rfl,rfl,rfl,by decide +kernel⟩ ?hw ?hc
 case hw=>w_witness2
 case hc=>exact Q.O71 (l:=PySem.Challenge.rw_tiechances_k04_good_lots_and_cuts) (n:=63) (k:=40) (x:="_law_script") rfl 1e1 rfl ⟨rfl,-0,-0⟩ (Q.g52 (k:=37) (iL:=35) K3.ok K3.bd rfl rfl rfl 1e1 K3.hR K3.pure)