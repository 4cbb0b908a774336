import PyProof.Rows.All
import Wide.All
import OpenK.AllK
import Wide.FinOn
import Lean
import PyProof.EqAt
import PyProof.EqKinds
import PyProof.TupleCall
import KE.KSortTup
import OpenK.KRaise
import OpenK.KOwn
import PyProof.ExcBaseAll.ValueError
import KE.KIsAll
import PyProof.ExcAttrAll.ValueError
import PyProof.NsDelKeeps
import PyProof.RulesAs
import KE.KTryMore
import KE.KLam
import KE.KNestM
import OpenK.KEqL
import PyProof.Rows.EqDataRows
import PyProof.NeKinds
import PyProof.FactsAll.dict
import PyProof.FactsAll.subtypes
import PyProof.ListRange
import PyProof.TupleOfGen
import PyProof.TupleOfSeq
import KE.KTupSum
import PyProof.Rows.SumAny
import PyProof.Rows.SetFrom
import KE.KRevSl
import PyProof.WalksMore
import PyProof.SetRoads
import PySem.Challenge.RW_tiechances_k82_which_is_greater
local macro_rules
|`(∅)=>`(by omega)
|`(-0)=>`(by decide)
local macro_rules
|`(tactic|omega)=>`(tactic|lia)
open PySem renaming wpAny_bind→À,Value→Ä,wpAny_pure→Å,Shared→Æ,Addr→Ç,wpAny→Î,Expr→Ï,model→Ô,sizeLine→Ú,Program→Ý,mainGlobals→ä,wpAny_newObj_type→æ,World→è,Heap→é,bootBuiltins→ï,Around→ö,compareOp→ü,Scope→ý,starEach→þ,Builtin→ÿ,wpAny_call_entry→À4,wpAny_callSpecial?_slot→À5,wpAny_holding→À7,sizeLine_eq→Á2,wpAny_field→Á5,wpAny_mono→Â1,codeAny_builtin→Â2,mem_of_lookup→Â4,wpAny_truthy_bool→Â5,wpAny_setField_rec→Ã0,rawInt→Ã6,binaryOp→Ä2,swappedStores→Ä6,Stmt→Ä8,FuncData→Å2,cLine→Å9,Paired→Æ0,IsPair→Æ5,wpAny_seqItems→Ç4,wpAny_typeOf→Ç7,wpAny_pyIter_tuple→Ç8,codeAny_mono→È1,call_meets→È2,wpAny_passesOwn→È4,Env→È6,foldedSetIterable→É0,wpAny_rule→É7,assignEach→É8,wpAny_attempt→Ë1,NameKind→Ë3,wpAny_Call_Name_kw→Ë8,wpAny_askSetting→Í5,builtinsNs→Í6,Arguments→Î0,plainId_quiet→Î1,codeAny→Î2,wpAny_loadName_local→Î4,sliceBounds→Î5,SetTable→Î8,wpAny_execs_nil→Ï3,importedModules→Ï4,wpAny_Name→Ñ2,pyNext→Ñ3,isSubtype_type→Ñ6,IsZip→Ò1,wpAny_setState_of→Ó1,getItem→Ó2,wpAny_comprehension_free→Ó5,wpAny_execs_cons→Ô7,swapsWith→Ô8,checkBuiltinCall→Õ0,wpAny_call→Õ8,backTo→Õ9,IsRange→Ö0,wpAny_updateSeq_pair→Ø5,wpAny_runValue→Ø6,firstArgMember→Ø9,codeAny_call_builtin→Ù0,assign→Ù1,IsPart→Ù2,intKind→Ù4,holding→Ù5,codeAmong→Ù6,wpAny_setEntries_of→Ú2,wpAny_loadName_cell→Ú3,wpAny_standAt→Û2,wpAny_onRaise→Û3,wpAny_newList→Û4,foldedForSure→Û6,typeIs_int→Û9,intKind_is→Ü0,wpAny_sequenceKey→Ý1,wpAny_pyIter_list→Ý2,callerA→Ý3,Operator→Ý5,GenState→Ý7,wpAny_isInstance→Þ8,pickOrder→Þ9,noFill_tuple_add→ß0,TriplesOk→ß2,wpAny_of_eq→ß9,seqIndex_of→à0,letOwnedTupleGo→à5,codeAny_of_tree→à7,wpAny_newFunctionEnv_cells→á0
open Bool renaming and_eq_true→Á,false_ne_true→Ð,not_eq_true'→À3,false_eq_true→Ã4,true_and→Å0,or_eq_true→Å6,not_eq_false'→Í0,eq_iff_iff→Í4,and_true→Ñ1,false_and→Õ7,not_true→à4
open PySem.W renaming Frag→Â,kas_item→õ,kas_desc→Ã2,kas_place→Ä5,codeHdIn→Ä9,kia_one→Ç1,kas_rev→Ç9,kas_asc→È0,tabObj→È3,boot_heap→Ê1,excIn→Ì2,kitOne→Í7,kas_descPart→Ð6,kas_sort→Ñ5,nsIn→Ñ9,keepIn→Ó6,kia_tup→Ö5,kas_count→ß1
open PySem.Heap renaming get?_push_of_some→Ã,get?_push_size→Ê,lt_size→à,get?_update_self→Ç6,size_push→Ë2,get?_update_other→Ë6,SameBut→Ë7,IsTuple→Ó3
open List renaming mem_cons_of_mem→È,length_map→É,mem_cons_self→Ì,size_toArray→Ó,all_eq_true→Õ,getD_eq_getElem?_getD→Ö,mem_map→Ù,length_cons→Û,getElem?_map→Ü,getElem?_eq_some_iff→ß,mem_singleton→ã,getElem?_eq_getElem→ç,getElem?_set_ne→ê,range→ë,replicate→ì,mem_append_right→í,mem_of_getElem?→î,getElem?_set_self→ð,map_map→ó,length_range→ù,mem_cons→ú,not_mem_nil→À1,lookup_cons→À8,length_nil→Á0,filterMap_cons→Á3,mem_append→Á7,length_append→Á9,range'_succ→Â0,range'→Â8,mem_cons→Â9,all_cons→Ã9,length_set→Ä1,mem_range→Ä3,length_filter_le→Å3,getElem?_append_right→Å4,replicate_succ→Å5,map_cons→Å7,map_congr_left→Å8,mem_append_left→Æ6,length_take→Æ7,all_eq_true→Æ9,filter_eq_nil_iff→Ç2,map_append→Ç5,pairwise_lt_range→È5,getElem_mem→È9,flatten_cons→É5,getElem?_range→É6,zip_cons_cons→Ê2,pairwise_cons→Ê6,getElem?_cons_zero→Ê8,take_of_length_le→Ë4,length_reverse→Ì0,contains_iff_mem→Ì4,isEmpty_iff→Ì5,nil_append→Ì7,forIn_cons→Ì8,lookup→Ì9,length_drop→Í2,getElem?_append_left→Ð3,getElem_map→Ñ7,filter_cons→Ñ8,getElem_range→Ò3,getElem?_replicate→Ò5,nodup_cons→Ó9,reverse_cons→Ô5,append_assoc→Ô6,range_eq_range'→Õ2,mem_iff_getElem→Õ3,getElem?_append→Õ4,forIn_nil→Ö6,mem_filterMap→Ø0,getElem?_take→Ø1,getElem?_drop→Ø2,zip_nil_left→Ù8,pairwise_map→Ù9,mem_filter→Ü9,perm_ext_iff_of_nodup→Þ4,drop_eq_getElem_cons→ß6,Pairwise→à1,length_replicate→á2,getElem?_eq_none→á3
open Option renaming map_eq_some_iff→Ë,bind_eq_some_iff→Ò,map→Î3,map_eq_some_iff→Ô9,ne_none_iff_exists'→Ü8,isSome_iff_exists→Þ3
open Nat renaming le_refl→Í,le_trans→Ñ,ne_of_lt→Ø,lt_of_lt_of_le→Þ,pow_le_pow_right→û,lt_irrefl→Á4,lt_succ_of_lt→Å1,zero_le→Æ1,le_of_lt→É2,le_add_right→É4,ne_of_gt→Ê3,lt_of_le_of_lt→Ê7,lt_succ_self→Ë9,zero_add→Î9,add_sub_cancel→Ï8,max→Ð9,mul_comm→Ó8,not_lt_zero→Ö1,pow_succ→Ú4,lt_succ_of_le→Ú5,le_of_eq→Ú6,succ_le_succ→Ü4,min_eq_right→Ü5,min_eq_left→Ý6,max_le→ß4,add_le_add→ß5,le_mul_of_pos_left→á1
open ForInStep renaming yield→á,done→å
open PySem.Value renaming none→â,type→Á6,ref→Ã3,int→Æ3,bool→Î6,builtin→Ð7,notImplemented→Õ1
open PySem.NameKind renaming free→ñ,cell→Æ4
open PyProof.Rows renaming slot_tuple_getitem→ò,callWith_type1→Á1,SortSt→Â7,seqObj→Ã1,IntsAre→Ë5,SortKind→Î7,IsTup→Ï0,envOfC→Ï5,listItems_at→Ð5,AllBare→Ó4,slicePart_none→Ø7,oneType'→Ø8,pendingOf→Ù3,listUpdate_at→Û5,assignInOrder_cons→Ü1,args_tuple_getitem→Ü2,get?_update_seq→à6
open Array renaming getElem?_toList→ô,extract→Æ8,getElem?_eq_getElem→É1,length_toList→Ê4,getD_eq_getD_getElem?→Í9,toArray_toList→Ð1,map_extract→Ñ4,size→Ö9,toList_inj→Û0,map_append→Û1
open PySem.Challenge renaming pw_tiechances_k82_which_is_greater→ø
open PySem.Obj renaming mapSeq→À0
open False renaming elim→À2
open Option.some renaming inj→À6,injEq→É9
open PySem.Str renaming ofString→À9
open Int renaming toNat_natCast→Á8,pow_succ→Ã5,eq_ofNat_of_zero_le→Ë0,mul_pos→Ï2,eq_of_mul_eq_mul_right→Ð0,pow_zero→Ð2,emod_eq_of_lt→Ñ0,zero_mul→Ó0,zero_add→Ô0,mul_zero→Ô1,le_of_lt→Ô2,emod_nonneg→Ö2,mul_comm→Ú7,mul_lt_mul_of_pos_right→Þ5,lt_of_mul_lt_mul_right→ß7,le_of_dvd→à8
open Ne renaming symm→Â3
open PySem.Around renaming under_plainId→Â6,frames_deeper→à9
open PySem.Builtin.Range renaming rangeSize→Ã7,small→Ò2
open PySem.AutoSeq1 renaming wpAny_loadPart'→Ã8,wpAny_loadPart'→Ä7,idx_int→Ø4,sub_tuple_tuple→Ý0
open PySem.Builtin renaming iter→Ä0
open PySem.Builtin.List renaming listExtendWith→Ä4,listTooLong→Í3,listSameRef→Ú1
open PySem.Heap.SameBut renaming update→Æ2
open PySem.Builtin.Tuple renaming tupleExact→Ç0
open PyProof.Rows.KeyOrd renaming kle_refl→Ç3,kle_of_klt→Ï9,kle_trans→Ú0
open List.Perm renaming eq_of_pairwise→È7
open PySem.Builtin.Slice renaming slicePlaces→È8,sliceAdjust→Í1,sliceApplied→Ô4
open PySem.F renaming slot_tuple_iterator_next→É3,called_set→Ê0,args_tuple_add_2→Ï6,entry_tuple_add→Ð8,slot_tuple_add→Ò0,slot_tuple_lt→Ò8,called_tuple→Ó7,slot_zip_next→Õ5,slot_int_rmul→Õ6,args_tuple_mul_2→Ú9,excBase_ValueError→Ü3,entry_tuple_mul→Ü6,slot_tuple_mul→Ý8,plain_tuple_new→Þ0,plain_list_iadd→Þ1,args_tuple_lt_2→Þ2,entry_tuple_lt→ß3,args_tuple_iterator_next_1→ß8,entry_tuple_iterator_next→à2
open True renaming intro→Ê5
open List.Pairwise renaming filter→Ê9
open PyProof.Rows.SortSt renaming mk'→Ì1
open Array.Perm renaming refl→Ì3
open PySem.Builtin.SmallTypes renaming ownedTupleIsFree→Ì6
open PySem.W.Looks renaming ld→Í8,of_pure→Û7,here→Ý4
open PySem.Calls renaming Name_function_global→Ï1,spliced_nil→Ð4,spliced_cons→Ö8,call_function_entry→Þ6,loadGlobal_global→à3,evalArgs_plain→á4
open Prod.mk renaming injEq→Ï7
open Or renaming inl→Ò4,inr→Ù7
open PySem.W.KasT renaming ret→Ò6
open PySem.Heap.IsSliceOf renaming new→Ò7
open PySem.PyData renaming depthAll→Ò9,eqv→Ü7
open PyProof.Rows.F renaming plain_set_update_loop→Ô3
open Sum renaming inr→Ö3,inl→Ö4
open PySem.SeqAt renaming EqAt→Ö7
open PySem.Code renaming quiet_builtin→Ø3
open Iff renaming rfl→Ú8
open Classical renaming byContradiction→Û8
open PySem.Shared renaming TypeIs→Ý9
open PySem.Builtin.Int renaming intBits→Þ7
local macro_rules
|`(command|def $i:declId $s:optDeclSig $v)=>`(noncomputable def $i:declId $s:optDeclSig $v)
|`(command|abbrev $i:declId $s:optDeclSig $v)=>`(noncomputable abbrev $i:declId $s:optDeclSig $v)
open PySem.W (methodObj hideAll hideAll_get of_hideAll callWith_K cellsFrom_some fnOf codeRec_of kitx_none kitx_bool kitx_int kitx_str kitx_tuple kitx_list kitx_dict kitAny kia_tup envX kla_fn codeHd_of_K kla_obj mg_none_of mg_of view)
open PySem.Heap (lt_size size_push)
open List (range filterMap_cons mem_cons_self mem_cons_of_mem mem_append_left mem_append_right append_nil of_mem_zip replicate length_take mem_of_getElem? length_append length_map size_toArray length_drop map_nil map_cons length_set reverse_cons replicate_succ flatten_cons foldl append_assoc lookup_cons forIn_cons toArray forIn_nil mem_cons not_mem_nil ext_getElem range' map_toArray length_nil nil_append length_range zip_cons_cons length_cons length_reverse all_eq_true mem_filter mem_range map_congr_left length_filter_le getElem_mem isEmpty_nil map_id all_nil mapM_cons all_map pairwise_lt_range all_cons range_succ getElem_range drop_length filter_cons map_id' getElem_map)
open Array (length_toList toList getD size_map map_extract push extract setIfInBounds toArray_toList)
open Nat (ne_of_gt le_succ zero_le le_add_right not_lt_zero ble beq lt_succ_of_lt lt_succ_self pow_le_pow_right sub_self)
open Int (mul_one toNat_natCast emod_nonneg emod_lt_of_pos gcd natAbs_mul mul_pos mul_add zero_mul one_mul pow_zero add_zero)
open PyProof.Rows (lt_int)
open PySem.Builtin.Slice (sliceAdjust slicePlaces sliceApplied sliceFields)
open PySem.Builtin.Tuple (tupleItemsOf tupleExact tupleCompareSizes tupleTooMany tupleIsExact)
open Bool (and_eq_true false_eq_true not_eq_true' or_eq_true not_eq_false')
open Option (getD_none map_some map_eq_some_iff)
open PySem.Builtin.SmallTypes (nextOf ownedTupleIsFree ownedTupleHandOut)
set_option bootstrap.genMatcherCode false
set_option compiler.extract_closed false
set_option genInjectivity false
set_option genSizeOf false
set_option autoImplicit true
set_option relaxedAutoImplicit true
set_option Elab.async false
set_option linter.all false
set_option maxRecDepth 100000
namespace L2
open PySem PySem.Spec PyProof.Rows
abbrev Key:=Sum Int Str
def k62:Key->Ä->Bool
 |.inl k,v=>Ä.isInt k v|.inr x,v=>Ä.isStrOf x v
def P42(w:è):Key->Int
 |.inl k=>hashInt k|.inr x=>hashStr w x
theorem d30:∀ {k:Key}{v:Ä},k62 k v=true->(∃ i t,k=Ö4 i/\v=Æ3 i t)∨(∃ x t,k=Ö3 x/\v=Ä.str x t)
 |.inl i,v,h=>by
  obtain⟨t,e⟩:=Ä.isInt_shape (k:=i) (v:=v) h;exact .inl ⟨i,t,rfl,e⟩
 |.inr x,v,h=>by
  obtain⟨t,e⟩:=Ä.isStrOf_shape (x:=x) (v:=v) h;exact .inr ⟨x,t,rfl,e⟩
theorem k72(a b:Int):decide ((Ö4 a:Key)=Ö4 b)=(a == b):=by
 by_cases e:a=b
 ·subst e;simp
 ·have h:¬ (Ö4 a:Key)=Ö4 b:=λq=>e (Ö4.inj q);rw[decide_eq_false h];exact(beq_eq_false_iff_ne.mpr e).symm
theorem k82(a b:Str):decide ((Ö3 a:Key)=Ö3 b)=decide (a=b):=by
 by_cases e:a=b
 ·subst e;simp
 ·have h:¬ (Ö3 a:Key)=Ö3 b:=λq=>e (Ö3.inj q);rw[decide_eq_false h,decide_eq_false e]
theorem k92(a:Int)(b:Str):decide ((Ö4 a:Key)=Ö3 b)=false:=decide_eq_false (λq=>nomatch q)
theorem l02(a:Str)(b:Int):decide ((Ö3 a:Key)=Ö4 b)=false:=decide_eq_false (λq=>nomatch q)
def p61(prog:Ý)(w:è):PySem.KeyKind prog w Key where
 is:=k62
 hash:=P42 w
 inj:=λv a b ha hb=>by
  rcases d30 ha with ⟨i,t,rfl,rfl⟩ | ⟨x,t,rfl,rfl⟩
  ·rcases d30 hb with ⟨j,u,rfl,e⟩ | ⟨y,u,rfl,e⟩
   ·injection e with e1 _;rw[e1]
   ·exact nomatch e
  ·rcases d30 hb with ⟨j,u,rfl,e⟩ | ⟨y,u,rfl,e⟩
   ·exact nomatch e
   ·injection e with e1 _;rw[e1]
 byValue:=λk v h=>by
  rcases d30 h with ⟨i,t,rfl,rfl⟩ | ⟨x,t,rfl,rfl⟩ <;> rfl
 pyHash:=λhv h=>by
  rcases d30 hv with ⟨i,t,rfl,rfl⟩ | ⟨x,t,rfl,rfl⟩
  ·exact wpAny_pyHash_int h
  ·exact wpAny_pyHash_str h
 eqBool:=λhu hv h=>by
  rcases d30 hu with ⟨i,t,rfl,rfl⟩ | ⟨x,t,rfl,rfl⟩
  ·rcases d30 hv with ⟨j,u,rfl,rfl⟩ | ⟨y,u,rfl,rfl⟩
   ·rw[k72] at h;exact wpAny_eqBool_int h
   ·rw[k92] at h;exact Ö7.int_str i t y u _ _ _ _ h
  ·rcases d30 hv with ⟨j,u,rfl,rfl⟩ | ⟨y,u,rfl,rfl⟩
   ·rw[l02] at h;exact Ö7.str_int x t j u _ _ _ _ h
   ·rw[k82] at h;exact wpAny_eqBool_str h
 «strs»:=λk x t v h=>by
  rcases d30 h with ⟨i,u,rfl,e⟩ | ⟨y,u,rfl,e⟩
  ·exact nomatch e
  ·injection e with e1 _;subst e1;cases v <;> rfl
inductive V where
 |non | bl (b:Bool) | int (i:Int) | str (x:Str) | byt (b:Array UInt8) | flt (b:UInt64) | ref (a:Addr) | ty (n:String)
 deriving DecidableEq
def RelV:V->Ä->Prop
 |.non,u=>u=â|.bl b,u=>u=Î6 b|.int i,u=>∃ t,u=Æ3 i t|.str x,u=>∃ t,u=Ä.str x t|.byt b,u=>∃ t,u=Ä.bytes b t|.flt b,u=>∃ t,u=Ä.float b t|.ref a,u=>u=Ã3 a|.ty n,u=>u=Á6 n
abbrev Vals:List V->List Ä->Prop:=Æ0 RelV
theorem Vals.length{xs:List V}{us:List Ä}(r:Vals xs us):xs.length=us.length:=Æ0.length r
theorem Vals.get:∀ {xs:List V}{us:List Ä}{i:Nat}{x:V},Vals xs us->xs[i]?=some x->∃ u,us[i]?=some u/\RelV x u
 |_,_,_,_,.nil,e=>by simp at e|_,_,0,_,.cons r _,e=>by simp at e;subst e;exact⟨_,rfl,r⟩
 |_,_,i + 1,x,.cons _ t,e=>by
  obtain⟨u,h1,h2⟩:=Vals.get (i:=i) (x:=x) t (by simpa using e)
  exact⟨u,by simpa using h1,h2⟩
theorem Vals.set{x:V}{u:Ä}(r:RelV x u):∀ {xs:List V}{us:List Ä} (i:Nat),Vals xs us->Vals (xs.set i x) (us.set i u)
 |_,_,_,.nil=>.nil|_,_,0,.cons _ t=>.cons r t|_,_,i + 1,.cons q t=>.cons q (Vals.set r i t)
theorem Vals.append:∀ {xs ys:List V}{us ws:List Ä},Vals xs us->Vals ys ws->Vals (xs++ys) (us++ws)
 |_,_,_,_,.nil,s=>s|_,_,_,_,.cons r t,s=>.cons r (Vals.append t s)
theorem Vals.take:∀ {xs:List V}{us:List Ä} (n:Nat),Vals xs us->Vals (xs.take n) (us.take n)
 |_,_,0,_=>.nil|_,_,_ + 1,.nil=>.nil|_,_,n + 1,.cons r t=>.cons r (Vals.take n t)
theorem Vals.drop:∀ {xs:List V}{us:List Ä} (n:Nat),Vals xs us->Vals (xs.drop n) (us.drop n)
 |_,_,0,r=>r|_,_,_ + 1,.nil=>.nil|_,_,n + 1,.cons _ t=>Vals.drop n t
def M62:Option V->Option Ä->Prop
 |some v,some u=>RelV v u|none,none=>True|_,_=>False
def KV{κ:Type}:List (κ × V)->List (κ × Ä)->Prop:=Æ0 λ(p:κ × V) (q:κ × Ä)=>p.1=q.1/\RelV p.2 q.2
def kV:Key->V
 |.inl i=>.int i|.inr x=>.str x
inductive HO where
 |lst (xs:List V)
 |tup (xs:List V)
 |dK (kvs:List (Key × V)) | dT (kvs:List (List Key × V))
 |set (S:Int->Bool) (n:Nat)
 |ins (C dx:Addr) (fs:List (Str × V))
 |own (x:Addr)
 |xd (fs:List (Str × V))
 |met (f x:Addr)
 |rng (lo hi:Int)
 |frz (o:Obj) (u:HO)
 |tbl (ps:Array Value)
 |ext (φ:Heap->Prop)
abbrev Hp:=Ç->Option HO
def upd(H:Hp)(a:Ç)(o:HO):Hp:=λb=>if b=a then some o else H b
theorem b20{H:Hp}{a:Ç}{o:HO}:upd H a o a=some o:=by unfold upd;rw[if_pos rfl]
theorem a60{H:Hp}{a b:Ç}{o:HO}(h:b≠a):upd H a o b=H b:=by unfold upd;rw[if_neg h]
theorem a80{H:Hp}{a b:Ç}{o:HO}(h:H a=some o)(h':H b=none):a≠b:=by
 intro e;subst e;rw[h] at h';cases h'
section
variable (P:Ý) (w:è)
def h40(H:Hp)(h:é)(a:Ç):HO->Prop
 |.lst xs=>xs.length<=Ú/\∃ (its:List Ä) (n:Nat),Vals xs its/\h.get? a=some { cls:=.type "list",data:=.seq its.toArray n }|.tup xs=>xs.length<=Ú/\∃ its:List Ä,Vals xs its/\Ï0 h a its.toArray|.dK kvs=>kvs.length<=Ú/\(a == sysModules)=false/\∃ vs,KV kvs vs/\h.DictOf (p61 P w) a vs
 |.dT kvs=>kvs.length<=Ú/\(a == sysModules)=false/\∃ xs:List (List Key × Ç × Ä),
   Æ0 (λ(p:List Key × V) (q:List Key × Ç × Ä)=>p.1=q.1/\H q.2.1=some (.tup (p.1.map kV))/\RelV p.2 q.2.2) kvs xs /\
   ∃ o es ep,h.get? a=some o/\o.ExactDict/\o.data=.dict es ep/\es.toList=xs.map (entryOfKey (tupleKind (p61 P w)))/\(xs.map (·.1)).Nodup
 |.set S n=>h.SetOf (Ù4 P w) a S n
 |.ins C dx fs=>H dx=some (.own a)/\fs.length<=1000/\dx≠a/\h.get? a=some (PySem.W.instObj C dx) /\
   ∃ mA,h.Ns1 dx mA/\(∀ f,M62 (fs.lookup f) (mA f))/\PySem.Within mA (fs.map (·.1))
 |.own _=>∃ o,h.get? a=some o|.xd fs=>∃ mA,h.Ns1 a mA/\∀ f,M62 (fs.lookup f) (mA f)|.rng lo hi=>∃ t u v,h.get? a=some { cls:=.type "range",data:=.fields #[.int lo t,.int hi u,.int 1 v] }|.frz o u=>h.get? a=some o/\h40 H h a u|.tbl ps=>h.get? a=some { cls:=.none,data:=.fields ps }|.met f x=>h.get? a=some (methodObj (.ref f) (.ref x))|.ext φ=>φ h/\(∃ o,h.get? a=some o)/\∀ h1 h2:é,φ h1->(∀ o,h1.get? a=some o->h2.get? a=some o)->φ h2
def HOk(H:Hp)(h:é):Prop:=∀ a o,H a=some o->h40 P w H h a o
end
section
variable {P:Ý}{w:è}{H H':Hp}{h h':é}{a:Ç}{o:HO}
theorem h40.lt(x:h40 P w H h a o):a < h.objs.size:=by
 cases o with
 |lst xs=>obtain⟨_,_,_,_,e⟩:=x;exact à e
 |tup xs=>obtain⟨_,_,_,p⟩:=x;exact p.lt
 |dK kvs=>obtain⟨_,_,_,_,o,_,_,e,_⟩:=x;exact à e
 |dT kvs=>obtain⟨_,_,_,_,o,_,_,e,_⟩:=x;exact à e
 |set S n=>obtain⟨o,_,_,_,e,_⟩:=x;exact à e
 |ins C dx fs=>obtain⟨_,_,_,e,_⟩:=x;exact à e
 |own y=>obtain⟨_,e⟩:=x;exact à e
 |xd fs=>obtain⟨_,⟨_,_,_,e,_⟩,_⟩:=x;exact à e
 |rng lo hi=>obtain⟨_,_,_,e⟩:=x;exact à e
 |frz ob u=>obtain⟨e,_⟩:=x;exact à e
 |tbl ps=>exact à (show h.get? a=some _ from x)|met f y=>exact à (show h.get? a=some _ from x)|ext φ=>obtain⟨_,⟨_,e⟩,_⟩:=x;exact à e
theorem Æ0.j72{α β:Type}{F G:α->β->Prop}:∀ {l₁:List α}{l₂:List β},Æ0 F l₁ l₂->(∀ a b,F a b->G a b)->Æ0 G l₁ l₂
 |_,_,.nil,_=>.nil|_,_,.cons r t,f=>.cons (f _ _ r) (Æ0.j72 t f)
theorem h40.k51(x:h40 P w H h a o)(k:∀ b u,(b=a∨H b=some (.own a))->h.get? b=some u->h'.get? b=some u)
  (ho:∀ b,H b=some (.own a)->H' b=some (.own a)) (ht:∀ b xs,H b=some (.tup xs)->H' b=some (.tup xs)):h40 P w H' h' a o:=by
 induction o with
 |lst xs=>obtain⟨z,its,n,r,e⟩:=x;exact⟨z,its,n,r,k _ _ (.inl rfl) e⟩
 |tup xs=>obtain⟨z,its,r,ob,e,c⟩:=x;exact⟨z,its,r,ob,k _ _ (.inl rfl) e,c⟩
 |dK kvs=>obtain⟨z,y,vs,r,ob,es,ep,e,c⟩:=x;exact⟨z,y,vs,r,ob,es,ep,k _ _ (.inl rfl) e,c⟩
 |dT kvs =>
  obtain⟨z,y,xs,r,ob,es,ep,e,c⟩:=x;exact⟨z,y,xs,Æ0.j72 r λp q z=>⟨z.1,ht _ _ z.2.1,z.2.2⟩,ob,es,ep,k _ _ (.inl rfl) e,c⟩
 |set S n=>obtain⟨ob,es,ep,t,e,c⟩:=x;exact⟨ob,es,ep,t,k _ _ (.inl rfl) e,c⟩
 |ins C dx fs =>
  obtain⟨d,z,ne,e,mA,⟨od,es,ep,e2,c⟩,r⟩:=x;exact⟨ho _ d,z,ne,k _ _ (.inl rfl) e,mA,⟨od,es,ep,k _ _ (.inr d) e2,c⟩,r⟩
 |own y=>obtain⟨ob,e⟩:=x;exact⟨ob,k _ _ (.inl rfl) e⟩
 |xd fs=>obtain⟨mA,⟨od,es,ep,e,c⟩,r⟩:=x;exact⟨mA,⟨od,es,ep,k _ _ (.inl rfl) e,c⟩,r⟩
 |rng lo hi=>obtain⟨t,u,v,e⟩:=x;exact⟨t,u,v,k _ _ (.inl rfl) e⟩
 |frz ob u ih=>obtain⟨e,q⟩:=x;exact⟨k _ _ (.inl rfl) e,ih q⟩
 |tbl ps =>
  have e:h.get? a=some { cls:=.none,data:=.fields ps }:=x;show h'.get? a=some { cls:=.none,data:=.fields ps };exact k a _ (.inl rfl) e
 |met f y =>
  have e:h.get? a=some (methodObj (.ref f) (.ref y)):=x;show h'.get? a=some (methodObj (.ref f) (.ref y));exact k a _ (.inl rfl) e
 |ext φ=>obtain⟨p,⟨o,e⟩,st⟩:=x;exact⟨st _ _ p λo q=>k _ _ (.inl rfl) q,⟨o,k _ _ (.inl rfl) e⟩,st⟩
theorem HOk.lt(x:HOk P w H h)(e:H a=some o):a < h.objs.size:=(x a o e).lt
theorem HOk.fresh(x:HOk P w H h)(e:h.objs.size<=a):H a=none:=by
 cases q:H a with
 |none=>rfl|some u=>exact absurd (Þ (x.lt q) e) (Á4 _)
theorem HOk.kept(x:HOk P w H h)(k:∀ b u,h.get? b=some u->h'.get? b=some u):HOk P w H h':=λa o e =>
 (x a o e).k51 (λb u _ q=>k b u q) (λ_ q=>q) λ_ _ q=>q
theorem HOk.laid(x:HOk P w H h)(k:∀ b u,h.get? b=some u->h'.get? b=some u)(hp:h.objs.size<=a)(new:h40 P w (upd H a o) h' a o):HOk P w (upd H a o) h':=λb u e=>by
 have hn:=x.fresh hp;by_cases hb:b=a
 ·subst hb;rw[b20] at e;cases e;exact new
 ·rw[a60 hb] at e;exact(x b u e).k51 (λc v _ q=>k c v q) (λc q=>by rw[a60 (a80 q hn)];exact q) λc xs q=>by rw[a60 (a80 q hn)];exact q
end
def Rd(H:Hp)(a:Ç)(u:HO):Prop:=H a=some u∨∃ o,H a=some (.frz o u)
theorem Rd.ok{P:Ý}{w:è}{H:Hp}{h:é}{a:Ç}{u:HO}(r:Rd H a u)(x:HOk P w H h):h40 P w H h a u:=by
 rcases r with r | ⟨o,r⟩
 ·exact x a u r
 ·obtain⟨_,q⟩:=x a _ r;exact q
def Mut:Option HO->Prop
 |some (.lst _)=>True|some (.dK _)=>True|some (.dT _)=>True|some (.set _ _)=>True|some (.ins _ _ _)=>True|some (.ext _)=>True|_=>False
section
variable {P:Ý}{w:è}{H:Hp}{h h':é}{x e:Ç}{o':HO}
theorem HOk.write(ok:HOk P w H h)(mu:Mut (H x))(he:e=x∨H e=some (.own x))(k:∀ b u,b≠e->h.get? b=some u->h'.get? b=some u)(heo:∃ u,h'.get? e=some u)
  (new:h40 P w (upd H x o') h' x o'):HOk P w (upd H x o') h':=λb u q=>by
 have nown:∀ c y,H c=some (.own y)->c≠x:=λc y r z=>by subst z;rw[r] at mu;exact mu
 have ntup:∀ c xs,H c=some (.tup xs)->c≠x:=λc xs r z=>by subst z;rw[r] at mu;exact mu
 by_cases hb:b=x
 ·subst hb;rw[b20] at q;cases q;exact new
 ·rw[a60 hb] at q;by_cases hbe:b=e
  ·have q':H b=some (.own x):=by
    rcases he with z | z
    ·exact absurd (hbe.trans z) hb
    ·rw[hbe];exact z
   rw[q] at q';cases q';obtain⟨v,hv⟩:=heo;exact⟨v,by rw[hbe];exact hv⟩
  ·refine(ok b u q).k51 (λc v hc r=>k c v ?_ r) (λc r=>by rw[a60 (nown c b r)];exact r) λc xs r=>by rw[a60 (ntup c xs r)];exact r
   rcases hc with rfl | hc
   ·exact hbe
   ·rintro rfl;rcases he with z | z
    ·exact nown c b hc z
    ·rw[hc] at z;cases z;exact hb rfl
end
structure Un(fs ex:List Addr)(H H':Hp)(h h':Heap):Prop where
 keep:∀ b o,h.get? b=some o->H b=none->b ∉ fs->b ∉ ex->h'.get? b=some o
 slot:∀ b o,h.get? b=some o->H b=none->b∈fs->b ∉ ex->∃ sl,h'.get? b=some { o with slots:=sl }
 free:∀ b o,h.get? b=some o->H b=none->b ∉ ex->H' b=none
 there:∀ b o,h.get? b=some o->b ∉ ex->∃ o',h'.get? b=some o'
 tups:∀ b xs,H b=some (.tup xs)->H' b=some (.tup xs)
 frzs:∀ b o u,H b=some (.frz o u)->H' b=some (.frz o u)
 tbls:∀ b ps,H b=some (.tbl ps)->∃ more,H' b=some (.tbl (ps++more))
section
variable {fs fs' ex ex':List Ç}{H H1 H2:Hp}{h h1 h2 h':é}{a x e:Ç}{o:HO}
theorem Un.any(u:Un fs ex H H1 h h1){b:Ç}{ob:Obj}(q:h.get? b=some ob)(n:H b=none)(hx:b ∉ ex):∃ sl,h1.get? b=some { ob with slots:=sl }:=by
 by_cases hb:b∈fs
 ·exact u.slot b ob q n hb hx
 ·exact⟨ob.slots,u.keep b ob q n hb hx⟩
theorem Un.trans(a:Un fs ex H H1 h h1)(b:Un fs ex H1 H2 h1 h2):Un fs ex H H2 h h2 where
 keep:=λc ob q n hc hx=>b.keep c ob (a.keep c ob q n hc hx) (a.free c ob q n hx) hc hx
 slot:=λc ob q n hc hx=>by
  obtain⟨sl,e1⟩:=a.slot c ob q n hc hx;obtain⟨sl',e2⟩:=b.slot c _ e1 (a.free c ob q n hx) hc hx;exact⟨sl',e2⟩
 free:=λc ob q n hx=>by
  obtain⟨o',e1⟩:=a.there c ob q hx;exact b.free c o' e1 (a.free c ob q n hx) hx
 there:=λc ob q hx=>by
  obtain⟨o',e1⟩:=a.there c ob q hx;exact b.there c o' e1 hx
 tups:=λc xs q=>b.tups c xs (a.tups c xs q)
 frzs:=λc ob xs q=>b.frzs c ob xs (a.frzs c ob xs q)
 tbls:=λc ps q=>by
  obtain⟨m1,e1⟩:=a.tbls c ps q;obtain⟨m2,e2⟩:=b.tbls c _ e1;exact⟨m1++m2,by rw[e2,Array.append_assoc]⟩
theorem Un.kept(k:∀ b u,h.get? b=some u->h'.get? b=some u):Un fs ex H H h h' :=
 ⟨λb ob q _ _ _=>k b ob q,λb ob q _ _ _=>⟨ob.slots,k b ob q⟩,λ_ _ _ n _=>n,λb ob q _=>⟨ob,k b ob q⟩,λ_ _ q=>q,λ_ _ _ q=>q,λ_ ps q=>⟨#[],by rw[q];simp⟩⟩
theorem Un.refl:Un fs ex H H h h:=Un.kept λ_ _ q=>q
theorem Un.laid(k:∀ b u,h.get? b=some u->h'.get? b=some u)(hp:h.objs.size<=a)(hn:H a=none):Un fs ex H (upd H a o) h h' where
 keep:=λb u q _ _ _=>k b u q
 slot:=λb u q _ _ _=>⟨u.slots,k b u q⟩
 free:=λb u q n _=>by rw[a60 (Ø (Þ (à q) hp))];exact n
 there:=λb u q _=>⟨u,k b u q⟩
 tups:=λb xs q=>by rw[a60 (a80 q hn)];exact q
 frzs:=λb u xs q=>by rw[a60 (a80 q hn)];exact q
 tbls:=λb ps q=>⟨#[],by rw[a60 (a80 q hn),q];simp⟩
theorem Un.write(mu:Mut (H x))(he:e=x∨H e=some (.own x))(k:∀ b u,b≠e->h.get? b=some u->h'.get? b=some u)(heo:∃ u,h'.get? e=some u):Un fs ex H (upd H x o) h h':=by
 have hx:∀ b,H b=none->b≠x:=λb n z=>by subst z;rw[n] at mu;exact mu
 have hb:∀ b,H b=none->b≠e:=λb n z=>by
  subst z;rcases he with r | r
  ·exact hx b n r
  ·rw[n] at r;cases r
 have hm:∀ b u,H b=some u->¬ Mut (some u)->b≠x:=λb u q nm z=>by subst z;rw[q] at mu;exact nm mu
 refine⟨λb u q n _ _=>k b u (hb b n) q,λb u q n _ _=>⟨u.slots,k b u (hb b n) q⟩,λb u q n _=>by rw[a60 (hx b n)];exact n,λb u q _=>?_,
  λb xs q=>by rw[a60 (hm b _ q λz=>z)];exact q,λb u xs q=>by rw[a60 (hm b _ q λz=>z)];exact q,λb ps q=>⟨#[],by rw[a60 (hm b _ q λz=>z),q];simp⟩⟩
 by_cases hbe:b=e
 ·subst hbe;exact heo
 ·exact⟨u,k b u hbe q⟩
theorem Un.mono(u:Un fs ex H H1 h h1)(hs:∀ b∈fs,b∈fs')(hx:∀ b∈ex,b∈ex'):Un fs' ex' H H1 h h1 :=
 ⟨λb ob q n hb he=>u.keep b ob q n (λz=>hb (hs b z)) λz=>he (hx b z),λ_ _ q n _ he=>u.any q n λz=>he (hx _ z),λb ob q n he=>u.free b ob q n λz=>he (hx b z),λb ob q he=>u.there b ob q λz=>he (hx b z),u.tups,u.frzs,u.tbls⟩
end
def trk(h:é)(H:Hp):List Addr:=(ë h.objs.size).filter λa=>(H a).isSome
def H41(h:é)(H:Hp):Heap:=hideAll h (trk h H)
theorem p71(h:é)(H:Hp):(H41 h H).objs.size=h.objs.size:=PySem.W.hideAll_size _ _
theorem I80{h:é}{H:Hp}{b:Ç}{o:Obj}(e:h.get? b=some o)(n:H b=none):(H41 h H).get? b=some o :=
 hideAll_get _ e λhm=>by
  have q:(H b).isSome=true:=(Ü9.mp hm).2;rw[n] at q;simp at q
theorem X21{h:é}{H:Hp}{b:Ç}{o:Obj}(e:(H41 h H).get? b=some o):h.get? b=some o/\H b=none:=by
 have e':h.get? b=some o:=of_hideAll (trk h H) e;refine⟨e',?_⟩;cases q:H b with
 |none=>rfl
 |some x =>
  have hm:b∈trk h H:=Ü9.mpr ⟨Ä3.mpr (à e'),by simp[q]⟩
  have z:(H41 h H).get? b=none:=PySem.W.hideAll_none (trk h H) hm;rw[z] at e;cases e
structure Mod(K:PySem.W.Frag)(mg:Str->Option Value)(base:Heap):Prop where
 kin:K.In base
 glob:base.Ns mainGlobals mg
 blt:∃ mb,base.Ns builtinsNs mb/\∀ x:Str,x≠"__name__"->mb x=bootBuiltins x
 nolimit:base.NoLimit
structure Cx where
 prog:Program
 w:World
 K:PySem.W.Frag
 mg:Str->Option Value
 base:Heap
 A:Around
 N:List Str
 s₀:Shared
 H₀:Hp
 env:Env
 outer:List Env
 stack:List Env
 ex:List Addr
 fn:Str->Bool
 calm:Bool
 pn:List (Addr × Obj)
 xe:Value->Shared->Prop
def frs(l:List Env):List Addr:=l.filterMap (·.frame)
abbrev Cx.fs(X:Cx):List Addr:=frs X.outer
def Vis(sc:ý)(x:Str):Prop:=sc.names.lookup x=some .local∨sc.names.lookup x=some .cell∨sc.names.lookup x=some .free
def Loc(sc:ý)(x:Str):Prop:=sc.names.lookup x=some .local∨sc.names.lookup x=some .cell
def Look(env:Env)(h:é)(m:Str->Option Ä)(x:Str)(u:Ä):Prop :=
 (env.kindOf x=some .local/\m x=some u)∨((env.kindOf x=some .cell∨env.kindOf x=some .free)/\∃ c,env.cells.lookup x=some c/\h.IsCell c (some u))
structure Cx.Ok(X:Cx):Prop where
 mod:Mod X.K X.mg X.base
 kind:X.env.scope.kind=.function
 glob:X.env.globals=mainGlobals
 blt:X.env.builtins=builtinsNs
 above:X.s₀.heap.objs.size<=X.env.locals
 inj:∀ x y c,X.env.cells.lookup x=some c->X.env.cells.lookup y=some c->x=y
 has:∀ x,(X.env.kindOf x=some .cell∨X.env.kindOf x=some .free)->∃ c,X.env.cells.lookup x=some c
 cab:∀ x c,X.fn x=true->X.env.cells.lookup x=some c->X.s₀.heap.objs.size<=c
 hd:X.calm=true->X.A.handled=none
 frames:X.A.frames=some X.stack
 stk:X.stack=X.outer∨(X.stack=X.env::X.outer/\X.env.frame=some X.env.locals)
 exf:∀ b∈X.ex,b≠X.env.locals/\∀ x c,X.env.cells.lookup x=some c->c≠b
 bs:∀ b o,X.base.get? b=some o->X.s₀.heap.get? b=some o/\X.H₀ b=none
 bsz:X.base.objs.size<=X.s₀.heap.objs.size
 noex:∀ b o,X.base.get? b=some o->b ∉ X.ex
 exfs:∀ b∈X.ex,b ∉ X.fs
 k61:X.s₀.heap.FunFrames X.base X.outer
 frf:∀ b∈X.fs,X.H₀ b=none
structure Inv(X:Cx)(pins:List (Addr × Obj))(σ:List (Option V))(H:Hp)(s:Shared):Prop where
 ok:X.Ok
 os:s.os=X.s₀.os
 bare:AllBare s.gens
 base:Un X.fs X.ex X.H₀ H X.s₀.heap s.heap
 loc:∃ m,s.heap.Ns X.env.locals m/\∀ (i:Nat) (x:Str) (v:V),X.N[i]?=some x->σ[i]?=some (some v)->Vis X.env.scope x->∃ u,RelV v u/\Look X.env s.heap m x u
 cell:∀ x c,X.env.cells.lookup x=some c->∃ v,s.heap.IsCell c v
 free:H X.env.locals=none
 freeC:∀ x c,X.env.cells.lookup x=some c->H c=none
 pin:∀ p∈X.pn++pins,s.heap.get? p.1=some p.2/\H p.1=none/\p.1≠X.env.locals/\p.1 ∉ X.fs/\∀ v,p.2.data≠.cell v
 hok:HOk X.prog X.w H s.heap
 len:σ.length=X.N.length
section
variable {X:Cx}{pins:List (Ç × Obj)}{σ:List (Option V)}{H H':Hp}{s:Æ}{h':é}
theorem Cx.Ok.P52(ok:X.Ok){b:Ç}{o:Obj}(e:X.base.get? b=some o):b ∉ X.fs:=λhb=>by
 have:=(ok.k61.mem hb).1;rw[e] at this;cases this
theorem Inv.bs(I:Inv X pins σ H s):∀ b o,X.base.get? b=some o->s.heap.get? b=some o/\H b=none:=λb o e =>
 ⟨I.base.keep b o (I.ok.bs b o e).1 (I.ok.bs b o e).2 (I.ok.P52 e) (I.ok.noex b o e),I.base.free b o (I.ok.bs b o e).1 (I.ok.bs b o e).2 (I.ok.noex b o e)⟩
theorem Inv.bk(I:Inv X pins σ H s):∀ b o,X.base.get? b=some o->s.heap.get? b=some o:=λb o e=>(I.bs b o e).1
theorem Inv.mod(I:Inv X pins σ H s):Mod X.K X.mg X.base:=I.ok.mod
theorem Inv.kIn(I:Inv X pins σ H s):X.K.In s.heap:=I.ok.mod.kin.keeps I.bk
theorem Inv.lt(I:Inv X pins σ H s):X.env.locals < s.heap.objs.size:=let ⟨_,hn,_⟩:=I.loc;hn.lt
theorem Inv.sz(I:Inv X pins σ H s):X.s₀.heap.objs.size<=s.heap.objs.size:=Ñ I.ok.above (É2 I.lt)
theorem Inv.P62(I:Inv X pins σ H s){a:Ç}(h:s.heap.objs.size<=a):a ∉ X.fs:=λhb=>by
 obtain⟨_,o,ho,_⟩:=I.ok.k61.mem hb;exact absurd (Þ (à ho) (Ñ I.sz h)) (Á4 _)
theorem Inv.cne(I:Inv X pins σ H s):∀ x c,X.env.cells.lookup x=some c->c≠X.env.locals:=λx c e z=>by
 obtain⟨v,o,ho,hd⟩:=I.cell x c e;obtain⟨m,⟨o',es,ep,ho',hd',_⟩,_⟩:=I.loc;rw[z,ho'] at ho;cases ho;rw[hd'] at hd;cases hd
theorem Inv.k61(I:Inv X pins σ H s):s.heap.FunFrames X.base X.outer:=by
 have all:∀ (l:List Env),(∀ b∈frs l,b∈X.fs)->X.s₀.heap.FunFrames X.base l->s.heap.FunFrames X.base l:=by
  intro l
  induction l with
  |nil=>intro _ _;trivial
  |cons env r ih =>
   intro hs hl;obtain⟨hk,⟨L,o,hf,hn,ho,hd⟩,hr⟩:=hl;have hL:L∈X.fs:=hs L (by unfold frs;rw[Á3,hf];exact Ì)
   obtain⟨sl,e⟩:=I.base.slot L o ho (I.ok.frf L hL) hL λz=>I.ok.exfs L z hL;exact⟨hk,⟨L,_,hf,hn,e,hd⟩,ih (λb hb=>hs b (by unfold frs;rw[Á3,hf];exact È _ hb)) hr⟩
 exact all X.outer (λ_ hb=>hb) I.ok.k61
theorem Inv.stack(I:Inv X pins σ H s):s.heap.FunFrames X.base X.stack:=by
 rcases I.ok.stk with e | ⟨e,hf⟩
 ·rw[e];exact I.k61
 ·rw[e];obtain⟨m,hn,_⟩:=I.loc;refine .cons (by rw[I.ok.kind];decide) hf hn ?_ I.k61
  exact é.get?_none_of_le (Ñ I.ok.bsz I.ok.above)
theorem Inv.p81(I:Inv X pins σ H s):∀ b∈frs X.stack,b∈X.env.locals::X.fs:=λb hb=>by
 rcases I.ok.stk with e | ⟨e,hf⟩
 ·rw[e] at hb;exact È _ hb
 ·rw[e] at hb;unfold frs at hb;rw[Á3,hf] at hb;exact hb
theorem Inv.v80(I:Inv X pins σ H s):∀ b∈frs X.stack,H b=none:=λb hb=>by
 rcases ú.mp (I.p81 b hb) with e | hb
 ·rw[e];exact I.free
 ·obtain⟨_,o,ho,_⟩:=I.ok.k61.mem hb;exact I.base.free b o ho (I.ok.frf b hb) λz=>I.ok.exfs b z hb
theorem Inv.step{g':Array Ý7}{t':Nat}{d':Drawn}{ch:List Ç}(I:Inv X pins σ H s)
  (hch:∀ b∈ch,(b∈X.ex∨X.s₀.heap.objs.size<=b)/\b≠X.env.locals/\(∀ x c,X.env.cells.lookup x=some c->c≠b)/\∀ p∈X.pn++pins,p.1≠b)
  (keep:∀ b o,b≠X.env.locals->b ∉ X.fs->b ∉ ch->s.heap.get? b=some o->H b=none->h'.get? b=some o)
  (slot:∀ b o,b≠X.env.locals->b∈X.fs->b ∉ ch->s.heap.get? b=some o->H b=none->∃ sl,h'.get? b=some { o with slots:=sl }) (free:∀ b o,b ∉ ch->s.heap.get? b=some o->H b=none->H' b=none)
  (there:∀ b o,b ∉ ch->s.heap.get? b=some o->∃ o',h'.get? b=some o')
  (tups:∀ b xs,H b=some (.tup xs)->H' b=some (.tup xs)) (frzs:∀ b o u,H b=some (.frz o u)->H' b=some (.frz o u)) (tbls:∀ b ps,H b=some (.tbl ps)->∃ more,H' b=some (.tbl (ps++more)))
  (ns:∀ m,s.heap.Ns X.env.locals m->h'.Ns X.env.locals m) (hok:HOk X.prog X.w H' h') (hg:Ó4 g') :
  Inv X pins σ H' { s with heap:=h',gens:=g',drawn:=d',toks:=t' }:=by
 have neL:∀ b o,X.s₀.heap.get? b=some o->b≠X.env.locals:=λb o e=>Ø (Þ (à e) I.ok.above);have neC:∀ b o,X.s₀.heap.get? b=some o->b ∉ X.ex->b ∉ ch:=λb o e hx hb=>by
  rcases (hch b hb).1 with z | z
  ·exact hx z
  ·exact absurd (Þ (à e) z) (Á4 _)
 have cellK:∀ x c,X.env.cells.lookup x=some c->∀ v,s.heap.IsCell c v->h'.IsCell c v:=λx c e v ⟨o,ho,hd⟩=>by
  have nch:c ∉ ch:=λz=>(hch c z).2.2.1 x c e rfl;by_cases hc:c∈X.fs
  ·obtain⟨sl,q⟩:=slot c o (I.cne x c e) hc nch ho (I.freeC x c e);exact⟨_,q,hd⟩
  ·exact⟨o,keep c o (I.cne x c e) hc nch ho (I.freeC x c e),hd⟩
 refine⟨I.ok,I.os,hg,⟨λb o e n hb hx=>?_,λb o e n hb hx=>?_,λb o e n hx=>?_,λb o e hx=>?_,λb xs e=>tups b xs (I.base.tups b xs e),λb o xs e=>frzs b o xs (I.base.frzs b o xs e),λb ps e=>?_⟩,?_,λx c e=>?_,?_,λx c e=>?_,λp hp=>?_,hok,I.len⟩
 ·exact keep b o (neL b o e) hb (neC b o e hx) (I.base.keep b o e n hb hx) (I.base.free b o e n hx)
 ·obtain⟨sl,e1⟩:=I.base.slot b o e n hb hx;obtain⟨sl',e2⟩:=slot b _ (neL b o e) hb (neC b o e hx) e1 (I.base.free b o e n hx);exact⟨sl',e2⟩
 ·obtain⟨o',e1⟩:=I.base.there b o e hx;exact free b o' (neC b o e hx) e1 (I.base.free b o e n hx)
 ·obtain⟨o',e1⟩:=I.base.there b o e hx;exact there b o' (neC b o e hx) e1
 ·obtain⟨m1,e1⟩:=I.base.tbls b ps e;obtain⟨m2,e2⟩:=tbls b _ e1;exact⟨m1++m2,by rw[e2,Array.append_assoc]⟩
 ·obtain⟨m,hn,hl⟩:=I.loc;refine⟨m,ns m hn,λi x v e1 e2 e3=>?_⟩;obtain⟨u,r,l⟩:=hl i x v e1 e2 e3;refine⟨u,r,?_⟩;rcases l with l | ⟨k,c,e,z⟩
  ·exact .inl l
  ·exact .inr ⟨k,c,e,cellK x c e _ z⟩
 ·obtain⟨v,z⟩:=I.cell x c e;exact⟨v,cellK x c e v z⟩
 ·obtain⟨m,⟨o,_,_,ho,_⟩,_⟩:=I.loc;exact free _ o (λz=>(hch _ z).2.1 rfl) ho I.free
 ·obtain⟨v,o,ho,hd⟩:=I.cell x c e;exact free c o (λz=>(hch c z).2.2.1 x c e rfl) ho (I.freeC x c e)
 ·obtain⟨e,n,ne,nf,d⟩:=I.pin p hp;have nch:p.1 ∉ ch:=λz=>(hch p.1 z).2.2.2 p hp rfl;exact⟨keep p.1 p.2 ne nf nch e n,free p.1 p.2 nch e n,ne,nf,d⟩
theorem Inv.un{t':Nat}(I:Inv X pins σ H s)(u:Un X.fs [] H H' s.heap h')(hok:HOk X.prog X.w H' h'):Inv X pins σ H' { s with heap:=h',toks:=t' }:=by
 obtain⟨m,⟨o,es,ep,ho,r⟩,_⟩:=id I.loc;obtain⟨sl,hL⟩:=u.any ho I.free (by simp)
 exact I.step (g':=s.gens) (d':=s.drawn) (ch:=[]) (λ_ z=>nomatch z) (λb o _ hb _ e n=>u.keep b o e n hb (by simp)) (λb o _ hb _ e n=>u.slot b o e n hb (by simp)) (λb o _ e n=>u.free b o e n (by simp)) (λb o _ e=>u.there b o e (by simp)) u.tups u.frzs u.tbls (λm' hm=>by
  obtain⟨o',es',ep',ho',r'⟩:=hm;rw[ho] at ho';cases ho';exact⟨_,es',ep',hL,r'⟩) hok I.bare
theorem Inv.call{g':Array Ý7}{t':Nat}{d':Drawn}{ch:List Ç}(I:Inv X pins σ H s)(u:Un (frs X.stack) ch H H' s.heap h')(hok:HOk X.prog X.w H' h')(hg:Ó4 g')
  (hch:∀ b∈ch,(b∈X.ex∨X.s₀.heap.objs.size<=b)/\b≠X.env.locals/\(∀ x c,X.env.cells.lookup x=some c->c≠b)/\∀ p∈X.pn++pins,p.1≠b) :
  Inv X pins σ H' { s with heap:=h',gens:=g',drawn:=d',toks:=t' }:=by
 obtain⟨m,⟨o,es,ep,ho,r⟩,_⟩:=id I.loc;obtain⟨sl,hL⟩:=u.any ho I.free λz=>(hch _ z).2.1 rfl;exact I.step (ch:=ch) hch (λb o hL hb hc e n=>u.keep b o e n (λz=>(ú.mp (I.p81 b z)).elim hL hb) hc) (λb o _ _ hc e n=>u.any e n hc) (λb o hc e n=>u.free b o e n hc) (λb o hc e=>u.there b o e hc) u.tups u.frzs u.tbls (λm' hm=>by
  obtain⟨o',es',ep',ho',r'⟩:=hm;rw[ho] at ho';cases ho';exact⟨_,es',ep',hL,r'⟩) hok hg
theorem Inv.turned{t':Nat}{it:Ç}(I:Inv X pins σ H s)(k:∀ b o,b≠it->s.heap.get? b=some o->h'.get? b=some o)(hn:H it=none)(hL:it≠X.env.locals)
  (h1:it∈X.ex∨X.s₀.heap.objs.size<=it) (h2:∀ x c,X.env.cells.lookup x=some c->c≠it) (h3:∀ p∈X.pn++pins,p.1≠it):Inv X pins σ H { s with heap:=h',toks:=t' }:=by
 have nit:∀ b u,H b=some u->b≠it:=λb u e z=>by rw[z,hn] at e;cases e
 refine I.step (g':=s.gens) (d':=s.drawn) (ch:=[it]) (λb hb=>?_) (λb o _ _ hc e _=>k b o (λz=>hc (by simp[z])) e) (λb o _ _ hc e _=>⟨o.slots,k b o (λz=>hc (by simp[z])) e⟩) (λ_ _ _ _ n=>n)
  (λb o hc e=>⟨o,k b o (λz=>hc (by simp[z])) e⟩) (λ_ _ e=>e) (λ_ _ _ e=>e) (λb ps e=>⟨#[],by rw[e];simp⟩) (λm hm=>?_) (λb u e=>?_) I.bare
 ·have e:b=it:=by simpa using hb
  subst e;exact⟨h1,hL,h2,h3⟩
 ·obtain⟨o,es,ep,ho,r⟩:=hm;exact⟨o,es,ep,k _ o (Â3 hL) ho,r⟩
 ·refine(I.hok b u e).k51 (λc v hc q=>k c v ?_ q) (λ_ q=>q) λ_ _ q=>q;rcases hc with z | z
  ·rw[z];exact nit b u e
  ·exact nit c _ z
theorem Inv.tok(I:Inv X pins σ H s)(t:Nat):Inv X pins σ H { s with toks:=t }:=I.un (h':=s.heap) (t':=t) Un.refl I.hok
theorem Inv.kept{t':Nat}(I:Inv X pins σ H s)(k:∀ b u,s.heap.get? b=some u->h'.get? b=some u):Inv X pins σ H { s with heap:=h',toks:=t' }:=I.un (Un.kept k) (I.hok.kept k)
theorem Inv.laid{a:Ç}{o:HO}{t':Nat}(I:Inv X pins σ H s)(k:∀ b u,s.heap.get? b=some u->h'.get? b=some u)(hp:s.heap.objs.size<=a)(new:h40 X.prog X.w (upd H a o) h' a o) :
  Inv X pins σ (upd H a o) { s with heap:=h',toks:=t' }:=I.un (Un.laid k hp (I.hok.fresh hp)) (I.hok.laid k hp new)
theorem Inv.write{x e:Ç}{o:HO}{t':Nat}(I:Inv X pins σ H s)(mu:Mut (H x))(he:e=x∨H e=some (.own x))(k:∀ b u,b≠e->s.heap.get? b=some u->h'.get? b=some u)(heo:∃ u,h'.get? e=some u)
  (new:h40 X.prog X.w (upd H x o) h' x o):Inv X pins σ (upd H x o) { s with heap:=h',toks:=t' }:=I.un (Un.write mu he k heo) (I.hok.write mu he k heo new)
theorem Inv.B00{pins':List (Ç × Obj)}(I:Inv X pins σ H s)(h:∀ p∈pins',s.heap.get? p.1=some p.2/\H p.1=none/\p.1≠X.env.locals/\p.1 ∉ X.fs/\∀ v,p.2.data≠.cell v):Inv X pins' σ H s :=
 ⟨I.ok,I.os,I.bare,I.base,I.loc,I.cell,I.free,I.freeC,λp hp=>(Á7.mp hp).elim (λz=>I.pin p (Æ6 _ z)) (h p),I.hok,I.len⟩
theorem d61{N:List Str}(hN:N.Nodup){i j:Nat}{x:Str}(a:N[i]?=some x)(b:N[j]?=some x):i=j:=by
 obtain⟨h1,e1⟩:=ß.mp a;obtain⟨h2,e2⟩:=ß.mp b;exact(List.getElem_inj hN).mp (e1.trans e2.symm)
theorem B10{M:Model}{A:ö}{E:Ä->Æ->Prop}{i:Nat}{x:Str}{v:V}{u:Ä}{Q:Unit->Æ->Prop}(I:Inv X pins σ H s)(hN:X.N.Nodup)(hi:X.N[i]?=some x)(hx:Loc X.env.scope x)(r:RelV v u)
  (h:∀ s',Inv X pins (σ.set i (some v)) H s'->(∃ a,Ë7 a s.heap s'.heap/\(a=X.env.locals∨X.env.cells.lookup x=some a))->Q () s') (hf:X.fn x=true∨X.env.scope.names.lookup x=some .local:=by first | exact .inl rfl | exact .inr rfl | assumption):Î M A (storeName X.env x u) Q E s:=by
 obtain⟨m,hn,hl⟩:=id I.loc;have hcls:(X.env.scope.kind == .class || (X.env.scope.kind == .module&&X.env.locals != X.env.globals))=false:=by rw[I.ok.kind];rfl
 have hiσ:i < σ.length:=by rw[I.len];exact(ß.mp hi).1
 have cne:=I.cne;have tracked:∀ {a:Ç}{h':é},(∃ o,s.heap.get? a=some o/\H a=none)->Ë7 a s.heap h'->HOk X.prog X.w H h':=λ{a h'} ha hs b ob e=>by
  obtain⟨_,_,hfree⟩:=ha;refine(I.hok b ob e).k51 (λc w' hc q=>(hs.2 c ?_).trans q) (λ_ q=>q) λ_ _ q=>q;rintro rfl;rcases hc with rfl | hc
  ·rw[hfree] at e;cases e
  ·rw[hfree] at hc;cases hc
 rcases hx with hk | hk
 ·refine wpAny_storeName_local hk hn (λh' hn' hs=>?_) hcls;obtain⟨oL,_,_,hoL,_⟩:=id hn;refine h _ ⟨I.ok,I.os,I.bare,⟨λb o e n hb hx=>?_,λb o e n hb hx=>?_,I.base.free,λb o e hx=>?_,I.base.tups,I.base.frzs,I.base.tbls⟩,⟨_,hn',λj y v' e1 e2 e3=>?_⟩,λy c e=>?_,I.free,I.freeC,λp hp=>?_,tracked ⟨oL,hoL,I.free⟩ hs,by simpa using I.len⟩ ⟨_,hs,.inl rfl⟩
  ·exact(hs.2 b (Ø (Þ (à e) I.ok.above))).trans (I.base.keep b o e n hb hx)
  ·obtain⟨sl,e1⟩:=I.base.slot b o e n hb hx;exact⟨sl,(hs.2 b (Ø (Þ (à e) I.ok.above))).trans e1⟩
  ·obtain⟨o',e1⟩:=I.base.there b o e hx;exact⟨o',(hs.2 b (Ø (Þ (à e) I.ok.above))).trans e1⟩
  ·by_cases hj:j=i
   ·subst hj;rw[hi] at e1;cases e1;rw[ð hiσ] at e2;cases e2;exact⟨u,r,.inl ⟨hk,by simp⟩⟩
   ·rw[ê (Â3 hj)] at e2;obtain⟨u',r',q⟩:=hl j y v' e1 e2 e3;refine⟨u',r',?_⟩;rcases q with ⟨k,e⟩ | ⟨k,c,e,z⟩
    ·refine .inl ⟨k,?_⟩;have:y≠x:=λe=>hj (d61 hN e1 (e ▸ hi));simp[this,e]
    ·exact .inr ⟨k,c,e,z.sameBut hs (cne y c e)⟩
  ·obtain⟨w',z⟩:=I.cell y c e;exact⟨w',z.sameBut hs (cne y c e)⟩
  ·obtain⟨e,n,ne,nf,d⟩:=I.pin p hp;exact⟨(hs.2 p.1 ne).trans e,n,ne,nf,d⟩
 ·have hfn:X.fn x=true:=by
   rcases hf with z | z
   ·exact z
   ·rw[z] at hk;cases hk
  obtain⟨c,hc⟩:=I.ok.has x (.inl hk);obtain⟨w',z⟩:=I.cell x c hc;refine wpAny_storeName_cell I.ok.kind hk hc z (λh' hc' hs=>?_);obtain⟨oc,hoc,hocd⟩:=id z;refine h { s with heap:=h' } ⟨I.ok,I.os,I.bare,⟨λb o e n hb hx=>?_,λb o e n hb hx=>?_,I.base.free,λb o e hx=>?_,I.base.tups,I.base.frzs,I.base.tbls⟩,⟨m,hn.sameBut hs (Â3 (cne x c hc)),λj y v' e1 e2 e3=>?_⟩,λy c' e=>?_,I.free,I.freeC,λp hp=>?_,tracked ⟨oc,hoc,I.freeC x c hc⟩ hs,by simpa using I.len⟩ ⟨c,hs,.inr hc⟩
  ·exact(hs.2 b (Ø (Þ (à e) (I.ok.cab x c hfn hc)))).trans (I.base.keep b o e n hb hx)
  ·obtain⟨sl,e1⟩:=I.base.slot b o e n hb hx;exact⟨sl,(hs.2 b (Ø (Þ (à e) (I.ok.cab x c hfn hc)))).trans e1⟩
  ·obtain⟨o',e1⟩:=I.base.there b o e hx;exact⟨o',(hs.2 b (Ø (Þ (à e) (I.ok.cab x c hfn hc)))).trans e1⟩
  ·by_cases hj:j=i
   ·subst hj;rw[hi] at e1;cases e1;rw[ð hiσ] at e2;cases e2;exact⟨u,r,.inr ⟨.inl hk,c,hc,hc'⟩⟩
   ·rw[ê (Â3 hj)] at e2;obtain⟨u',r',q⟩:=hl j y v' e1 e2 e3;refine⟨u',r',?_⟩;rcases q with q | ⟨k,c',e,z'⟩
    ·exact .inl q
    ·refine .inr ⟨k,c',e,z'.sameBut hs ?_⟩;rintro rfl;exact hj (d61 hN e1 (I.ok.inj _ _ _ e hc ▸ hi))
  ·by_cases hcc:c'=c
   ·subst hcc;exact⟨_,hc'⟩
   ·obtain⟨w2,z2⟩:=I.cell y c' e;exact⟨w2,z2.sameBut hs hcc⟩
  ·obtain⟨e,n,ne,nf,d⟩:=I.pin p hp;refine⟨(hs.2 p.1 ?_).trans e,n,ne,nf,d⟩;intro q;rw[q,hoc] at e;have q':oc=p.2:=À6 e;exact d w' (by rw[← q'];exact hocd)
theorem t10{M:Model}{A:ö}{E:Ä->Æ->Prop}{i:Nat}{x:Str}{v:V}{u:Ä}{Q:Unit->Æ->Prop}(I:Inv X pins σ H s)(hN:X.N.Nodup)(hi:X.N[i]?=some x)(hx:Loc X.env.scope x)(r:RelV v u)
  (h:∀ s',Inv X pins (σ.set i (some v)) H s'->Q () s') (hf:X.fn x=true∨X.env.scope.names.lookup x=some .local:=by first | exact .inl rfl | exact .inr rfl | assumption):Î M A (storeName X.env x u) Q E s :=
 B10 I hN hi hx r (λs' I' _=>h s' I') hf
theorem Inv.l12{s':Æ}{ch:List Ç}(I:Inv X pins σ H s)(ho:s'.os=s.os)(u:Un (frs X.stack) ch H H' s.heap s'.heap)(hok:HOk X.prog X.w H' s'.heap)(hg:Ó4 s'.gens)
  (hch:∀ b∈ch,(b∈X.ex∨X.s₀.heap.objs.size<=b)/\b≠X.env.locals/\(∀ x c,X.env.cells.lookup x=some c->c≠b)/\∀ p∈X.pn++pins,p.1≠b):Inv X pins σ H' s':=by
 obtain⟨h',g',d',t',o'⟩:=s';have e:o'=s.os:=ho;subst e;exact I.call (g':=g') (t':=t') (d':=d') u hok hg hch
end
abbrev XK:=Ä->Option Ç->Hp->Prop
abbrev St:=List (Option V)
abbrev VK:=V->Hp->Prop
abbrev TE:=St->Hp->VK->Prop
abbrev TT:=St->Hp->(Bool->Hp->Prop)->Prop
abbrev TA:=St->Hp->(List V->Hp->Prop)->Prop
structure Ends where
 nx:St->Hp->Prop
 rt:VK
 bk:St->Hp->Prop:=λ_ _=>False
 ct:St->Hp->Prop:=λ_ _=>False
abbrev TS:=Ends->St->Hp->Prop
def EP(X:Cx)(pins:List (Ç × Obj))(σ:St)(Q:VK)(u:Ä)(s':Æ):Prop:=∃ v H',Inv X pins σ H' s'/\RelV v u/\Q v H'
def TP(X:Cx)(pins:List (Ç × Obj))(σ:St)(Q:Bool->Hp->Prop)(b:Bool)(s':Æ):Prop:=∃ H',Inv X pins σ H' s'/\Q b H'
def AP(X:Cx)(pins:List (Ç × Obj))(σ:St)(Q:List V->Hp->Prop)(us:List Ä)(s':Æ):Prop:=∃ vs H',Inv X pins σ H' s'/\Vals vs us/\Q vs H'
def SP(X:Cx)(pins:List (Ç × Obj))(D:Ends)(f:Flow)(s':Æ):Prop :=
 match f with
 |.next=>∃ σ' H',Inv X pins σ' H' s'/\D.nx σ' H'
 |.brk=>∃ σ' H',Inv X pins σ' H' s'/\D.bk σ' H'|.cont=>∃ σ' H',Inv X pins σ' H' s'/\D.ct σ' H'|.ret u=>∃ v σ' H',Inv X pins σ' H' s'/\RelV v u/\D.rt v H'
def PE(X:Cx)(e:Ï)(t:TE):Prop :=
 ∀ (pins:List (Ç × Obj)) (s:Æ) (σ:St) (H:Hp) (Q:VK),Inv X pins σ H s->t σ H Q->Î (Ô X.prog X.w) X.A (eval e X.env) (EP X pins σ Q) X.xe s
def PT(X:Cx)(e:Ï)(t:TT):Prop :=
 ∀ (pins:List (Ç × Obj)) (s:Æ) (σ:St) (H:Hp) (Q:Bool->Hp->Prop),Inv X pins σ H s->t σ H Q->Î (Ô X.prog X.w) X.A (isTrue e X.env (eval e X.env)) (TP X pins σ Q) X.xe s
def PW(X:Cx)(e:Ï)(t:TT):Prop :=
 ∀ (whole:Sem Ä) (pins:List (Ç × Obj)) (s:Æ) (σ:St) (H:Hp) (Q:Bool->Hp->Prop),Inv X pins σ H s->t σ H Q->Î (Ô X.prog X.w) X.A (isTrue e X.env whole) (TP X pins σ Q) X.xe s
theorem PW.pt{X:Cx}{e:Ï}{t:TT}(h:PW X e t):PT X e t:=h _
def PA(X:Cx)(es:List Ï)(t:TA):Prop :=
 ∀ (pos:Pos) (pins:List (Ç × Obj)) (s:Æ) (σ:St) (H:Hp) (Q:List V->Hp->Prop),Inv X pins σ H s->t σ H Q->Î (Ô X.prog X.w) X.A (spliced (Õ9 pos (þ es X.env))) (AP X pins σ Q) X.xe s
def PS(X:Cx)(st:Ä8)(t:TS):Prop :=
 ∀ (pins:List (Ç × Obj)) (s:Æ) (σ:St) (H:Hp) (D:Ends),Inv X pins σ H s->t D σ H->Î (Ô X.prog X.w) X.A (exec st X.env) (SP X pins D) X.xe s
def PSs(X:Cx)(st:List Ä8)(t:TS):Prop :=
 ∀ (pins:List (Ç × Obj)) (s:Æ) (σ:St) (H:Hp) (D:Ends),Inv X pins σ H s->t D σ H->Î (Ô X.prog X.w) X.A (execs st X.env) (SP X pins D) X.xe s
theorem thn{α:Type}{t:Sem α}{Q Q':α->Æ->Prop}{M:Model}{A:ö}{E:Ä->Æ->Prop}{s:Æ}(h:Î M A t Q E s)(hQ:∀ a s,Q a s->Q' a s):Î M A t Q' E s:=Â1 h hQ λ_ _ x=>x
section
variable {X:Cx}
def B02(i:Nat):TE:=λσ H Q=>∃ v,σ[i]?=some (some v)/\Q v H
def tC(v:V):TE:=λ_ H Q=>Q v H
theorem t20{i:Nat}{x:Str}{pos:Pos}(hN:X.N[i]?=some x)(hv:Vis X.env.scope x)(hd:(x == ("__debug__":Str))=false:=by decide)(hcd:(x == ("__classdict__":Str))=false:=by decide):PE X (.Name x pos) (B02 i):=by
 intro pins s σ H Q I h;obtain⟨v,e,h⟩:=h;obtain⟨m,hn,hl⟩:=I.loc;obtain⟨u,r,l⟩:=hl i x v hN e hv;have fin:EP X pins σ Q u s:=⟨v,H,I,r,h⟩;rcases l with ⟨hk,hm⟩ | ⟨hk,c,hc,hcell⟩
 ·exact Ñ2 (Î4 I.ok.kind hk hn hm fin) hd
 ·rcases hk with hk | hk
  ·exact Ñ2 (Ú3 I.ok.kind hk hc hcell fin) hd
  ·exact Ñ2 (wpAny_loadName_free I.ok.kind hk hc hcell fin hcd) hd
theorem P60{i j pos}:PE X (.Constant (.int i) j pos) (tC (.int i)):=λ_ _ _ H _ I h=>wpAny_Constant_int ⟨.int i,H,I.tok _,⟨_,rfl⟩,h⟩
theorem B12{b j pos}:PE X (.Constant (.bool b) j pos) (tC (.bl b)):=λ_ _ _ H _ I h=>Constant_bool ⟨.bl b,H,I,rfl,h⟩
theorem p91{j pos}:PE X (.Constant .none j pos) (tC .non):=λ_ _ _ H _ I h=>Constant_none ⟨.non,H,I,rfl,h⟩
theorem S01{x j pos}:PE X (.Constant (.str x) j pos) (tC (.str x)):=λ_ _ _ H _ I h=>Calls.Constant_str ⟨.str x,H,I.tok _,⟨_,rfl⟩,h⟩
def Gl(X:Cx)(x:Str):Prop:=X.env.kindOf x=some .globalImplicit
theorem I90{E:Ä->Æ->Prop}{pins:List (Ç × Obj)}{s:Æ}{σ:St}{H:Hp}{x:Str}{u:Ä}{pos:Pos}{Q:Ä->Æ->Prop}(I:Inv X pins σ H s)(hg:Gl X x)(hm:X.mg x=some u)(h:Q u s)
  (hd:(x == ("__debug__":Str))=false:=by decide):Î (Ô X.prog X.w) X.A (eval (.Name x pos) X.env) Q E s :=
 Ï1 I.ok.kind hg (à3 (by rw[I.ok.glob];exact I.mod.glob.keeps I.bk) hm h) hd
theorem t30{E:Ä->Æ->Prop}{pins:List (Ç × Obj)}{s:Æ}{σ:St}{H:Hp}{x:Str}{u:Ä}{pos:Pos}{Q:Ä->Æ->Prop}(I:Inv X pins σ H s)(hg:Gl X x)(hm:X.mg x=none)(hv:ï x=some u)(h:Q u s)
  (hn:x≠"__name__":=by decide) (hd:(x == ("__debug__":Str))=false:=by decide):Î (Ô X.prog X.w) X.A (eval (.Name x pos) X.env) Q E s:=by
 obtain⟨mb,h1,h2⟩:=I.mod.blt;exact Ï1 I.ok.kind hg (Calls.loadGlobal_builtin (by rw[I.ok.glob];exact I.mod.glob.keeps I.bk) hm (by rw[I.ok.blt];exact h1.keeps I.bk) ((h2 x hn).trans hv) h) hd
theorem f90{x:Str}{v:V}{u:Ä}{pos:Pos}(hg:Gl X x)(hm:X.mg x=some u)(r:RelV v u)(hd:(x == ("__debug__":Str))=false:=by decide):PE X (.Name x pos) (tC v) :=
 λ_ _ _ H _ I h=>I90 I hg hm ⟨v,H,I,r,h⟩ hd
theorem J00{x:Str}{v:V}{u:Ä}{pos:Pos}(hg:Gl X x)(hm:X.mg x=none)(hv:ï x=some u)(r:RelV v u)(hn:x≠"__name__":=by decide)(hd:(x == ("__debug__":Str))=false:=by decide):PE X (.Name x pos) (tC v) :=
 λ_ _ _ H _ I h=>t30 I hg hm hv ⟨v,H,I,r,h⟩ hn hd
variable {a b:Ï}{ta tb:TE}{pos:Pos}
def tB(t:TE):TT:=λσ H Q=>t σ H λx H1=>∃ c,x=.bl c/\Q c H1
theorem q01{e:Ï}{t:TE}(h:PE X e t)(he:∀ whole,isTrue e X.env whole=(do let v ← whole;standAt e.pos;Ù5 [v] (truthy v)):=by intro _;rfl):PT X e (tB t):=by
 intro pins s σ H Q I hw;refine isTrue_plain (thn (h pins s σ H _ I hw) λv s1 ⟨x,H1,I1,r1,q1⟩=>?_) (he _);obtain⟨d,rfl,q⟩:=q1;cases r1;exact Â5 ⟨H1,I1,q⟩
variable {tA tB':TT}{rest:List Ï}
def P72(t u:TT):TT:=λσ H Q=>t σ H λc H1=>if c=true then u σ H1 Q else Q false H1
def tOr(t u:TT):TT:=λσ H Q=>t σ H λc H1=>if c=true then Q true H1 else u σ H1 Q
def P82(t:TT):TT:=λσ H Q=>t σ H λc H1=>Q (!c) H1
theorem X31(ha:PT X a tA):PW X (.BoolOp .And [a] pos) tA:=by
 intro wh pins s σ H Q I h;refine isTrue_and (thn (ha pins s σ H Q I h) λc s1 e=>?_);cases c with
 |true=>exact isTrue_and_nil e|false=>exact e
theorem l22(ha:PT X a tA):PW X (.BoolOp .Or [a] pos) tA:=by
 intro wh pins s σ H Q I h;refine isTrue_or (thn (ha pins s σ H Q I h) λc s1 e=>?_);cases c with
 |false=>exact isTrue_or_nil e|true=>exact e
theorem l32(ha:PT X a tA)(hb:PW X (.BoolOp .And (b::rest) pos) tB'):PW X (.BoolOp .And (a::b::rest) pos) (P72 tA tB'):=by
 intro wh pins s σ H Q I h;refine isTrue_and (thn (ha pins s σ H _ I h) λc s1 ⟨H1,I1,q1⟩=>?_);cases c with
 |true=>exact hb wh pins s1 σ H1 Q I1 q1|false=>exact⟨H1,I1,q1⟩
theorem B22(ha:PT X a tA)(hb:PW X (.BoolOp .Or (b::rest) pos) tB'):PW X (.BoolOp .Or (a::b::rest) pos) (tOr tA tB'):=by
 intro wh pins s σ H Q I h;refine isTrue_or (thn (ha pins s σ H _ I h) λc s1 ⟨H1,I1,q1⟩=>?_);cases c with
 |true=>exact⟨H1,I1,q1⟩|false=>exact hb wh pins s1 σ H1 Q I1 q1
theorem S11(ha:PT X a tA):PT X (.UnaryOp .Not a pos) (P82 tA):=by
 intro pins s σ H Q I h;exact isTrue_not (ha pins s σ H (λc H1=>Q (!c) H1) I h)
def B32(ta tb:TE):TE:=λσ H Q=>ta σ H λx H1=>∃ c,x=.bl c/\if c=true then tb σ H1 Q else Q (.bl false) H1
def P92(ta tb:TE):TE:=λσ H Q=>ta σ H λx H1=>∃ c,x=.bl c/\if c=true then Q (.bl true) H1 else tb σ H1 Q
def B42(ta:TE):TE:=λσ H Q=>ta σ H λx H1=>∃ c,x=.bl c/\Q (.bl (!c)) H1
theorem l42{op}{t:TE}(h:PE X a t):PE X (.BoolOp op [a] pos) t:=λpins s σ H Q I hw=>BoolOp_one (h pins s σ H Q I hw)
theorem l52(ha:PE X a ta)(hb:PE X (.BoolOp .And (b::rest) pos) tb):PE X (.BoolOp .And (a::b::rest) pos) (B32 ta tb):=by
 intro pins s σ H Q I h;refine BoolOp_and (thn (ha pins s σ H _ I h) λv s1 ⟨x,H1,I1,r1,q1⟩=>?_);obtain⟨c,rfl,q1⟩:=q1;cases r1;refine Â5 ?_;cases c with
 |true=>exact hb pins s1 σ H1 Q I1 q1|false=>exact⟨.bl false,H1,I1,rfl,q1⟩
theorem B52(ha:PE X a ta)(hb:PE X (.BoolOp .Or (b::rest) pos) tb):PE X (.BoolOp .Or (a::b::rest) pos) (P92 ta tb):=by
 intro pins s σ H Q I h;refine BoolOp_or (thn (ha pins s σ H _ I h) λv s1 ⟨x,H1,I1,r1,q1⟩=>?_);obtain⟨c,rfl,q1⟩:=q1;cases r1;refine Â5 ?_;cases c with
 |false=>exact hb pins s1 σ H1 Q I1 q1|true=>exact⟨.bl true,H1,I1,rfl,q1⟩
theorem l62(ha:PE X a ta):PE X (.UnaryOp .Not a pos) (B42 ta):=by
 intro pins s σ H Q I h;refine UnaryOp_ (thn (ha pins s σ H _ I h) λv s1 ⟨x,H1,I1,r1,q1⟩=>?_);obtain⟨c,rfl,q1⟩:=q1;cases r1;exact not_of (Â5 ⟨.bl (!c),H1,I1,rfl,q1⟩)
def tIf(t:TT)(ta tb:TE):TE:=λσ H Q=>t σ H λc H1=>if c=true then ta σ H1 Q else tb σ H1 Q
theorem H51{c:Ï}(hc:PT X c tA)(ha:PE X a ta)(hb:PE X b tb):PE X (.IfExp c a b pos) (tIf tA ta tb):=by
 intro pins s σ H Q I h;refine wpAny_IfExp (thn (hc pins s σ H _ I h) λd s1 ⟨H1,I1,q1⟩=>?_);cases d with
 |true=>exact ha pins s1 σ H1 Q I1 q1|false=>exact hb pins s1 σ H1 Q I1 q1
end
def SqL(K:Â)(H:Hp)(a:Ç)(xs:List V):Prop :=
 Rd H a (.lst xs) ∨
  ∃ (o:Obj) (its:Array Ä) (n:Nat),K.lookup a=some o/\o.cls=.type "list"/\o.dict=none/\o.data=.seq its n/\its.size<=Ú/\Vals xs its.toList
def SqT(K:Â)(H:Hp)(a:Ç)(xs:List V):Prop :=
 Rd H a (.tup xs) ∨
  ∃ (o:Obj) (its:Array Ä) (n:Nat),K.lookup a=some o/\o.cls=.type "tuple"/\o.data=.seq its n/\its.size<=Ú/\Vals xs its.toList
def Q02:Ä->Option V
 |.none=>some .non|.bool b=>some (.bl b)|.int i _=>some (.int i)|.str x _=>some (.str x)|.bytes b _=>some (.byt b)|.float b _=>some (.flt b)|.ref a=>some (.ref a)|.type n=>some (.ty n)|_=>none
theorem RelV.abs{x:V}{u:Ä}(r:RelV x u):Q02 u=some x:=by
 cases x with
 |non=>cases r;rfl
 |bl _=>cases r;rfl
 |int _=>obtain⟨t,rfl⟩:=r;rfl
 |str _=>obtain⟨t,rfl⟩:=r;rfl
 |byt _=>obtain⟨t,rfl⟩:=r;rfl
 |flt _=>obtain⟨t,rfl⟩:=r;rfl
 |ref _=>cases r;rfl
 |ty _=>cases r;rfl
theorem RelV.inj{x y:V}{u:Ä}(r:RelV x u)(q:RelV y u):x=y:=À6 (r.abs.symm.trans q.abs)
theorem Vals.inj:∀ {xs ys:List V}{us:List Ä},Vals xs us->Vals ys us->xs=ys
 |_,_,_,.nil,.nil=>rfl|_,_,_,.cons r t,.cons r' t'=>by rw[r.inj r',Vals.inj t t']
section
variable {X:Cx}{pins:List (Ç × Obj)}{σ:St}{H:Hp}{s:Æ}{a:Ç}{xs ys:List V}
theorem SqL.of{K:Â}(h:H a=some (.lst xs)):SqL K H a xs:=.inl (.inl h)
theorem SqT.of{K:Â}(h:H a=some (.tup xs)):SqT K H a xs:=.inl (.inl h)
theorem Inv.list(I:Inv X pins σ H s)(h:SqL X.K H a xs):∃ its:List Ä,Vals xs its/\PlainL s.heap a its.toArray/\xs.length<=sizeLine:=by
 rcases h with h | ⟨o,its,n,hk,hc,hd,hs,hz,r⟩
 ·obtain⟨z,its,n,r,e⟩:=h.ok I.hok;exact⟨its,r,⟨_,n,e,rfl,rfl,rfl⟩,z⟩
 ·refine⟨its.toList,r,⟨o,n,I.kIn a o hk,hc,hd,by simpa using hs⟩,?_⟩
  have e:=r.length;simp only[Ê4] at e;omega
theorem Inv.tuple(I:Inv X pins σ H s)(h:SqT X.K H a xs):∃ its:List Ä,Vals xs its/\Ï0 s.heap a its.toArray/\xs.length<=sizeLine:=by
 rcases h with h | ⟨o,its,n,hk,hc,hs,hz,r⟩
 ·obtain⟨z,its,r,p⟩:=h.ok I.hok;exact⟨its,r,p,z⟩
 ·refine⟨its.toList,r,⟨o,I.kIn a o hk,hc,n,by simpa using hs⟩,?_⟩
  have e:=r.length;simp only[Ê4] at e;omega
theorem Inv.d71(I:Inv X pins σ H s)(h:SqL X.K H a xs)(h':SqL X.K H a ys):xs=ys:=by
 obtain⟨its,r,⟨o,n,e,_,_,d⟩,_⟩:=I.list h;obtain⟨its',r',⟨o',n',e',_,_,d'⟩,_⟩:=I.list h';rw[e] at e';cases e';rw[d] at d';injection d' with d1 _;have:its=its':=by simpa using congrArg toList d1
 subst this;exact r.inj r'
theorem Inv.P70(I:Inv X pins σ H s)(h:SqT X.K H a xs)(h':SqT X.K H a ys):xs=ys:=by
 obtain⟨its,r,⟨o,e,_,n,d⟩,_⟩:=I.tuple h;obtain⟨its',r',⟨o',e',_,n',d'⟩,_⟩:=I.tuple h';rw[e] at e';cases e';rw[d] at d';injection d' with d1 _;have:its=its':=by simpa using congrArg toList d1
 subst this;exact r.inj r'
end
abbrev Cx.G81(X:Cx)(E:Ä->Æ->Prop):Cx:={ X with xe:=E }
abbrev Cx.nox(X:Cx):Cx:=X.G81 λ_ _=>False
theorem Cx.Ok.G81{X:Cx}(ok:X.Ok)(E:Ä->Æ->Prop):(X.G81 E).Ok :=
 ⟨ok.mod,ok.kind,ok.glob,ok.blt,ok.above,ok.inj,ok.has,ok.cab,ok.hd,ok.frames,ok.stk,ok.exf,ok.bs,ok.bsz,ok.noex,ok.exfs,ok.k61,ok.frf⟩
theorem Cx.Ok.x50{X:Cx}{E:Ä->Æ->Prop}(ok:(X.G81 E).Ok):X.Ok :=
 ⟨ok.mod,ok.kind,ok.glob,ok.blt,ok.above,ok.inj,ok.has,ok.cab,ok.hd,ok.frames,ok.stk,ok.exf,ok.bs,ok.bsz,ok.noex,ok.exfs,ok.k61,ok.frf⟩
section
variable {X:Cx}{pins:List (Ç × Obj)}{σ:St}{H:Hp}{s:Æ}{E:Ä->Æ->Prop}
theorem Inv.G81(I:Inv X pins σ H s)(E:Ä->Æ->Prop):Inv (X.G81 E) pins σ H s:=⟨I.ok.G81 E,I.os,I.bare,I.base,I.loc,I.cell,I.free,I.freeC,I.pin,I.hok,I.len⟩
theorem Inv.x50(I:Inv (X.G81 E) pins σ H s):Inv X pins σ H s:=⟨I.ok.x50,I.os,I.bare,I.base,I.loc,I.cell,I.free,I.freeC,I.pin,I.hok,I.len⟩
theorem SP.x50{D:Ends}{f:Flow}{s':Æ}(h:SP (X.G81 E) pins D f s'):SP X pins D f s':=by
 cases f with
 |next=>obtain⟨σ',H',I,q⟩:=h;exact⟨σ',H',I.x50,q⟩
 |brk=>obtain⟨σ',H',I,q⟩:=h;exact⟨σ',H',I.x50,q⟩
 |cont=>obtain⟨σ',H',I,q⟩:=h;exact⟨σ',H',I.x50,q⟩
 |ret u=>obtain⟨v,σ',H',I,r,q⟩:=h;exact⟨v,σ',H',I.x50,r,q⟩
theorem PSs.nox{st:List Ä8}{t:TS}(h:PSs X.nox st t):PSs X st t:=λpins s σ H D I hw =>
 Â1 (h pins s σ H D (I.G81 _) hw) (λ_ _ q=>q.x50) λ_ _ z=>À2 z
end
section
variable {X:Cx}{st:Ä8}{rest:List Ä8}{t u:TS}{e:Ï}{te:TE}{pos:Pos}
def B62:TS:=λD σ H=>D.nx σ H
def Q12(t u:TS):TS:=λD σ H=>t { D with nx:=u D } σ H
theorem q11:PSs X [] B62:=λ_ _ σ H _ I h=>Ï3 ⟨σ,H,I,h⟩
theorem j40(h1:PS X st t)(h2:PSs X rest u):PSs X (st::rest) (Q12 t u):=by
 intro pins s σ H D I h;refine Ô7 (thn (h1 pins s σ H { D with nx:=u D } I h) λf s1 q=>?_);cases f with
 |next =>
  obtain⟨σ',H',I',q⟩:=q;exact h2 pins s1 σ' H' D I' q
 |ret v=>exact q|brk=>exact q|cont=>exact q
theorem q21(h1:PS X st t):PSs X [st] t:=by
 intro pins s σ H D I h;refine Ô7 (thn (h1 pins s σ H D I h) λf s1 q=>?_);cases f with
 |next=>exact Ï3 q
 |ret v=>exact q|brk=>exact q|cont=>exact q
theorem Inv.quiet{pins:List (Ç × Obj)}{σ:St}{H:Hp}{s:Æ}(I:Inv X pins σ H s):interactive X.env=false:=by simp[interactive,I.ok.kind]
def B72(te:TE):TS:=λD σ H=>te σ H λ_ H1=>D.nx σ H1
theorem q31(he:PE X e te)(hs:Ô8 e none pos.line X.env=pure false:=by rfl):PS X (.Expr e pos) (B72 te):=by
 intro pins s σ H D I h;exact wpAny_Expr_any (thn (he pins s σ H _ I h) λv s1 ⟨x,H1,I1,r1,q1⟩=>⟨σ,H1,I1,q1⟩) I.quiet hs
def Q22(te:TE):TS:=λD σ H=>te σ H D.rt
theorem d81(he:PE X e te):PS X (.Return (some e) pos) (Q22 te):=by
 intro pins s σ H D I h;exact wpAny_Return_some (thn (he pins s σ H _ I h) λv s1 ⟨x,H1,I1,r1,q1⟩=>⟨x,σ,H1,I1,r1,q1⟩)
def B82:TS:=λD _ H=>D.rt .non H
theorem X41:PS X (.Return none pos) B82:=λ_ _ σ H _ I h=>wpAny_Return_none ⟨.non,σ,H,I,rfl,h⟩
def Q32(c:TT)(t u:TS):TS:=λD σ H=>c σ H λb H1=>if b=true then t D σ H1 else u D σ H1
theorem l72{c:Ï}{a b:List Ä8}{tc:TT}(hc:PT X c tc)(ha:PSs X a t)(hb:PSs X b u):PS X (.If c a b pos) (Q32 tc t u):=by
 intro pins s σ H D I h;refine wpAny_If (thn (hc pins s σ H _ I h) λd s1 ⟨H1,I1,q1⟩=>?_);cases d with
 |true=>exact ha pins s1 σ H1 D I1 q1|false=>exact hb pins s1 σ H1 D I1 q1
end
abbrev TG:=V->St->Hp->(St->Hp->Prop)->Prop
abbrev TGs:=List V->St->Hp->(St->Hp->Prop)->Prop
def PG(X:Cx)(target:Ï)(t:TG):Prop :=
 ∀ (pins:List (Ç × Obj)) (s:Æ) (σ:St) (H:Hp) (v:V) (u:Ä) (Q:St->Hp->Prop),Inv X pins σ H s->RelV v u->t v σ H Q ->
  Î (Ô X.prog X.w) X.A (Ù1 target X.env u) (λ_ s'=>∃ σ' H',Inv X pins σ' H' s'/\Q σ' H') X.xe s
def PGs(X:Cx)(ts:List Ï)(t:TGs):Prop :=
 ∀ (pins:List (Ç × Obj)) (s:Æ) (σ:St) (H:Hp) (vs:List V) (us:List Ä) (Q:St->Hp->Prop),Inv X pins σ H s->Vals vs us->t vs σ H Q ->
  Î (Ô X.prog X.w) X.A (assignInOrder ((É8 ts X.env).map (·.2)) us) (λ_ s'=>∃ σ' H',Inv X pins σ' H' s'/\Q σ' H') X.xe s
abbrev l82:=V->V->V->Hp->(Hp->Prop)->Prop
def B92(X:Cx)(t:l82):Prop :=
 ∀ (pins:List (Ç × Obj)) (s:Æ) (σ:St) (H:Hp) (o i v:V) (ov iv u:Ä) (Q:Hp->Prop),Inv X pins σ H s->RelV o ov->RelV i iv->RelV v u->t o i v H Q ->
  Î (Ô X.prog X.w) X.A (setItem ov iv u) (λ_ s'=>∃ H',Inv X pins σ H' s'/\Q H') X.xe s
abbrev TIp:=V->V->Hp->VK->Prop
def PIp(X:Cx)(op:Ý5)(t:TIp):Prop :=
 ∀ (pins:List (Ç × Obj)) (s:Æ) (σ:St) (H:Hp) (x y:V) (v u:Ä) (Q:VK),Inv X pins σ H s->RelV x v->RelV y u->t x y H Q ->
  Î (Ô X.prog X.w) X.A (inplaceOp op v u) (EP X pins σ Q) X.xe s
section
variable {X:Cx}{pos:Pos}
def Y00(i:Nat):TG:=λv σ H Q=>Q (σ.set i (some v)) H
theorem q41{i:Nat}{x:Str}(hN:X.N.Nodup)(hi:X.N[i]?=some x)(hx:Loc X.env.scope x)(hf:X.fn x=true∨X.env.scope.names.lookup x=some .local:=by first | exact .inl rfl | exact .inr rfl | assumption):PG X (.Name x pos) (Y00 i):=by
 intro pins s σ H v u Q I r h;exact wpAny_assign_Name (t10 I hN hi hx r (λs' I'=>⟨_,H,I',h⟩) hf)
def M72:TGs:=λvs σ H Q=>vs=[]/\Q σ H
def l92(t:TG)(u:TGs):TGs:=λvs σ H Q=>∃ v r,vs=v::r/\t v σ H λσ' H'=>u r σ' H' Q
theorem X51:PGs X [] M72:=by
 intro pins s σ H vs us Q I r h;obtain⟨e,h⟩:=h;subst e;cases r;exact assignInOrder_nil ⟨σ,H,I,h⟩
theorem H61{e:Ï}{es:List Ï}{t:TG}{u:TGs}(h1:PG X e t)(h2:PGs X es u)
  (hs:(É8 (e::es) X.env).map (·.2)=Ù1 e X.env::(É8 es X.env).map (·.2):=by rfl):PGs X (e::es) (l92 t u):=by
 intro pins s σ H vs us Q I r h;obtain⟨v,vr,e1,h⟩:=h;subst e1;cases r with
 |cons r rr =>
  rw[hs];refine Ü1 (thn (h1 pins s σ H _ _ _ I r h) λ_ s1 ⟨σ1,H1,I1,q1⟩=>?_);exact h2 pins s1 σ1 H1 _ _ Q I1 rr q1
def M82(K:Â)(n:Nat)(t:TGs):TG:=λv σ H Q=>∃ a xs,v=.ref a/\SqT K H a xs/\xs.length=n/\t xs σ H Q
theorem m02{es:List Ï}{k:Nat}{t:TGs}{n:Nat}(hc:X.calm=true)(h:PGs X es t)
  (hn:(É8 es X.env).length=n:=by rfl) (hst:(É8 es X.env).findIdx? (·.1)=none:=by rfl):PG X (.Tuple es k pos) (M82 X.K n t):=by
 intro pins s σ H v u Q I r hw;obtain⟨a,xs,e1,hq,hl,hw⟩:=hw;subst e1;cases r;obtain⟨its,rv,ht,hz⟩:=I.tuple hq;refine assign_Tuple_tuple (I.ok.hd hc) ht (by simp[hn,← hl,rv.length]) hst λh' hx=>?_
 have I1:Inv X pins σ H { s with heap:=h' }:=I.kept (t':=s.toks) λb o e=>hx b o (Ø (à e)) e;exact h pins _ σ H xs _ Q I1 (by simpa using rv) hw
def Q42(to ti:TE)(t:l82):TG:=λv σ H Q=>to σ H λo H1=>ti σ H1 λi H2=>t o i v H2 λH3=>Q σ H3
theorem m12{o i:Ï}{to ti:TE}{t:l82}(ho:PE X o to)(hi:PE X i ti)(hs:B92 X t)
  (ha:∀ v,Ù1 (.Subscript o i pos) X.env v=(do
   let ov ← Ù5 [v] (eval o X.env)
   let iv ← Ù5 [v,ov] (eval i X.env)
   standAt pos
   Ù5 [v,ov,iv] (setItem ov iv v)
   release [v,ov,iv] []):=by intro _;rfl):PG X (.Subscript o i pos) (Q42 to ti t):=by
 intro pins s σ H v u Q I r h;rw[ha];refine À (À7 (thn (ho pins s σ H _ I h) λov s1 ⟨x,H1,I1,r1,q1⟩=>?_));refine À (À7 (thn (hi pins s1 σ H1 _ I1 q1) λiv s2 ⟨y,H2,I2,r2,q2⟩=>?_));refine À (Û2 (À (À7 (thn (hs pins s2 σ H2 x y v ov iv u _ I2 r1 r2 r q2) λ_ s3 ⟨H3,I3,q3⟩=>?_))));exact wpAny_release ⟨σ,H3,I3,q3⟩
def m22(te:TE)(g:TG):TS:=λD σ H=>te σ H λx H1=>g x σ H1 D.nx
theorem S21{tg e:Ï}{te:TE}{g:TG}(he:PE X e te)(hg:PG X tg g)(hs:swapsWithSole [tg] e pos.line X.env=pure false:=by rfl)(hw:Ä6 [tg] e X.env=pure none:=by rfl)
  (h1:(É8 [tg] X.env).map (·.2)=[Ù1 tg X.env]:=by rfl):PS X (.Assign [tg] e pos) (m22 te g):=by
 intro pins s σ H D I h;refine wpAny_Assign_stores (thn (he pins s σ H _ I h) λv s1 ⟨x,H1,I1,r1,q1⟩=>?_) hs hw;rw[h1];exact thn (hg pins s1 σ H1 x v _ I1 r1 q1) λ_ s2 q=>q
theorem x60{i:Nat}{x:Str}{e:Ï}{te:TE}{pos':Pos}(hN:X.N.Nodup)(hi:X.N[i]?=some x)(hx:Loc X.env.scope x)(he:PE X e te)(hs:Ô8 e (some (.Name x pos')) pos.line X.env=pure false:=by rfl)(hf:X.fn x=true∨X.env.scope.names.lookup x=some .local:=by first | exact .inl rfl | exact .inr rfl | assumption) :
  PS X (.Assign [.Name x pos'] e pos) (m22 te (Y00 i)):=by
 intro pins s σ H D I h;refine wpAny_Assign_Name (thn (he pins s σ H _ I h) λv s1 ⟨y,H1,I1,r1,q1⟩=>?_) hs;exact t10 I1 hN hi hx r1 (λs2 I2=>⟨_,H1,I2,q1⟩) hf
def Q52(i j:Nat)(ta:TA):TS:=λD σ H=>ta σ H λvs H1=>∃ v w,vs=[v,w]/\D.nx ((σ.set i (some v)).set j (some w)) H1
theorem m32{i j:Nat}{x y:Str}{a b:Ï}{ta:TA}{px py pt:Pos}{kt k2 pt2}(hc:X.calm=true)(hN:X.N.Nodup)(hi:X.N[i]?=some x)(hj:X.N[j]?=some y)(hij:i≠j)
  (hx:X.env.scope.names.lookup x=some .local) (hy:X.env.scope.names.lookup y=some .local) (ha:PA X [a,b] ta)
  (hw:Ä6 [.Tuple [.Name x px,.Name y py] kt pt] (.Tuple [a,b] k2 pt2) X.env=pure (some [x,y]))
  (hs:swapsWithSole [.Tuple [.Name x px,.Name y py] kt pt] (.Tuple [a,b] k2 pt2) pos.line X.env=pure false:=by rfl) :
  PS X (.Assign [.Tuple [.Name x px,.Name y py] kt pt] (.Tuple [a,b] k2 pt2) pos) (Q52 i j ta):=by
 intro pins s σ H D I h;rw[exec_Assign_arm];refine À (Û2 ?_);rw[hs];refine À (Å ?_);rw[if_neg (-0)]
 refine À (Tuple_ (thn (ha _ pins s σ H _ I h) λus s1 ⟨vs,H1,I1,r1,q1⟩=>?_));obtain⟨v,w,e1,q1⟩:=q1;subst e1;obtain⟨u1,u2,rfl,rv,rw'⟩:∃ u1 u2,us=[u1,u2]/\RelV v u1/\RelV w u2:=by
  cases r1 with
  |cons p q =>
   cases q with
   |cons p' q' =>
    cases q';exact⟨_,_,rfl,p,p'⟩
 refine æ ?_ (by show 2<=Ú;decide)
 have I2:Inv X pins σ H1 { s1 with heap:=s1.heap.push { cls:=.type "tuple",data:=.seq [u1,u2].toArray } }:=I1.kept (t':=s1.toks) λb o e=>Ã _ e;rw[hw];refine À (Å ?_);show Î (Ô X.prog X.w) X.A (do rule "assign.swapped-stores";let items ← unpackItems (.ref s1.heap.objs.size) 2 none;assignInOrder [λv=>bindName X.env y v,λv=>bindName X.env x v] items.reverse;pure Flow.next) _ _ _;refine À (É7 (À (unpackItems_tuple (items:=#[u1,u2]) (I.ok.hd hc) (Ï0.new s1.heap _) λh' hx'=>?_)));have I3:=I2.kept (h':=h') (t':=s1.toks) λb o e=>hx' b o (Ø (à e)) e;show Î _ _ (assignInOrder [λv=>bindName X.env y v,λv=>bindName X.env x v] [u2,u1] >>= λ_=>pure Flow.next) _ _ _;refine À (Ü1 (wpAny_bindName (t10 I3 hN hj (.inl hy) rw' (λs2 I4=>?_) (.inr hy))));refine Ü1 (wpAny_bindName (t10 I4 hN hi (.inl hx) rv (λs3 I5=>assignInOrder_nil (Å ?_)) (.inr hx)));rw[List.set_comm _ _ (Â3 hij)] at I5;exact⟨_,H1,I5,q1⟩
def Q62(i:Nat)(te:TE)(ti:TIp):TS:=λD σ H=>∃ x,σ[i]?=some (some x)/\te σ H λy H1=>ti x y H1 λz H2=>D.nx (σ.set i (some z)) H2
theorem M92{i:Nat}{x:Str}{e:Ï}{te:TE}{op:Ý5}{ti:TIp}{pos':Pos}(hN:X.N.Nodup)(hi:X.N[i]?=some x)(hx:Loc X.env.scope x)(he:PE X e te)(ho:PIp X op ti)(hf:X.fn x=true∨X.env.scope.names.lookup x=some .local:=by first | exact .inl rfl | exact .inr rfl | assumption) :
  PS X (.AugAssign (.Name x pos') op e pos) (Q62 i te ti):=by
 intro pins s σ H D I h;obtain⟨v,e1,h⟩:=h;obtain⟨m,hn,hl⟩:=I.loc;have vis:Vis X.env.scope x:=by rcases hx with k | k;exact .inl k;exact .inr (.inl k)
 obtain⟨u,r,l⟩:=hl i x v hi e1 vis;refine wpAny_AugAssign_Name ?_;have go:Î (Ô X.prog X.w) X.A (eval e X.env) (λw s₂=>Î (Ô X.prog X.w) X.A (inplaceOp op u w) (λr s₃=>Î (Ô X.prog X.w) X.A (storeName X.env x r) (λ_=>SP X pins D .next) X.xe s₃) X.xe s₂) X.xe s:=by
  refine thn (he pins s σ H _ I h) λw s1 ⟨y,H1,I1,r1,q1⟩=>?_;refine thn (ho pins s1 σ H1 v y u w _ I1 r r1 q1) λz s2 ⟨zv,H2,I2,r2,q2⟩=>?_;exact t10 I2 hN hi hx r2 (λs3 I3=>⟨_,H2,I3,q2⟩) hf
 rcases l with ⟨hk,hm⟩ | ⟨hk,c,hc,hcell⟩
 ·exact Î4 I.ok.kind hk hn hm go
 ·rcases hk with hk | hk
  ·exact Ú3 I.ok.kind hk hc hcell go
  ·rcases hx with k | k
   ·have:X.env.scope.names.lookup x=some .free:=hk;rw[k] at this;cases this
   ·have:X.env.scope.names.lookup x=some .free:=hk;rw[k] at this;cases this
def C02(to ti te:TE)(tget:V->V->Hp->VK->Prop)(tip:TIp)(tset:l82):TS:=λD σ H=>to σ H λo H1=>ti σ H1 λi H2=>tget o i H2 λx H3=>te σ H3 λy H4=>tip x y H4 λz H5=>tset o i z H5 λH6=>D.nx σ H6
def N02(X:Cx)(t:V->V->Hp->VK->Prop):Prop :=
 ∀ (pins:List (Ç × Obj)) (s:Æ) (σ:St) (H:Hp) (o i:V) (ov iv:Ä) (Q:VK),Inv X pins σ H s->RelV o ov->RelV i iv->t o i H Q ->
  Î (Ô X.prog X.w) X.A (Ó2 ov iv) (EP X pins σ Q) X.xe s
theorem X61{o i e:Ï}{to ti te:TE}{tget:V->V->Hp->VK->Prop}{tip:TIp}{tset:l82}{op:Ý5}{tpos:Pos}(ho:PE X o to)(hi:PE X i ti)(hg:N02 X tget)(he:PE X e te)(hp:PIp X op tip)(hs:B92 X tset)
  (ha:∀ ov iv new,augStore i ov iv new=(do Ù5 [new,ov,iv] (setItem ov iv new);release [new,ov,iv] [];pure .next):=by intros;rfl):PS X (.AugAssign (.Subscript o i tpos) op e pos) (C02 to ti te tget tip tset):=by
 intro pins s σ H D I h;refine wpAny_AugAssign_SubscriptAny (thn (ho pins s σ H _ I h) λov s1 ⟨x1,H1,I1,r1,q1⟩=>?_) ha;refine thn (hi pins s1 σ H1 _ I1 q1) λiv s2 ⟨x2,H2,I2,r2,q2⟩=>?_;refine thn (hg pins s2 σ H2 x1 x2 ov iv _ I2 r1 r2 q2) λold s3 ⟨x3,H3,I3,r3,q3⟩=>?_;refine thn (he pins s3 σ H3 _ I3 q3) λv s4 ⟨x4,H4,I4,r4,q4⟩=>?_;refine thn (hp pins s4 σ H4 x3 x4 old v _ I4 r3 r4 q4) λnew s5 ⟨x5,H5,I5,r5,q5⟩=>?_;exact thn (hs pins s5 σ H5 x1 x2 x5 ov iv new _ I5 r1 r2 r5 q5) λ_ s6 ⟨H6,I6,q6⟩=>⟨σ,H6,I6,q6⟩
def ipI(f:Int->Int->Int):TIp:=λx y H Q=>∃ i j,x=.int i/\y=.int j/\Q (.int (f i j)) H
theorem m42:PIp X .Add (ipI λi j=>i + j):=by
 intro pins s σ H x y v u Q I r1 r2 h;obtain⟨i,j,e1,e2,q⟩:=h;subst e1;subst e2;obtain⟨t,rfl⟩:=r1;obtain⟨t',rfl⟩:=r2;exact iadd_int ⟨.int _,H,I.tok _,⟨_,rfl⟩,q⟩
def m52(c:TT)(tb:TS):TS:=λD σ H=>∃ W:Nat->St->Hp->Prop,(∃ m,W m σ H)/\∀ m σ H,W m σ H ->
 c σ H λb H1=>if b=true then ∃ N:St->Hp->Prop,(∀ σ' H',N σ' H'->∃ m',m' < m/\W m' σ' H')/\tb { D with nx:=N,ct:=N,bk:=D.nx } σ H1 else D.nx σ H1
theorem H71{c:Ï}{body:List Ä8}{tc:TT}{tb:TS}(hp:PassesOwn (Ô X.prog X.w) X.A X.env X.xe)(hc:PT X c tc)(hb:PSs X body tb):PS X (.While c body [] pos) (m52 tc tb):=by
 intro pins s σ H D I h;obtain⟨W,⟨m0,w0⟩,turn⟩:=h;refine wpAny_While (codeAny_whileLoop (λn s'=>∃ σ' H',Inv X pins σ' H' s'/\W n σ' H') ?_ m0 ⟨σ,H,I,w0⟩);rintro n s1 ⟨σ1,H1,I1,w1⟩;refine È4 hp (thn (hc pins s1 σ1 H1 _ I1 (turn n σ1 H1 w1)) λb s2 ⟨H2,I2,q2⟩=>?_);cases b with
 |true =>
  obtain⟨N,hN,q2⟩:=q2;rw[if_pos rfl];refine È4 hp (thn (hb pins s2 σ1 H2 _ I2 q2) λf s3 q3=>?_);cases f with
  |next =>
   obtain⟨σ3,H3,I3,n3⟩:=q3;obtain⟨m',hm,w3⟩:=hN σ3 H3 n3;exact⟨m',hm,σ3,H3,I3,w3⟩
  |cont =>
   obtain⟨σ3,H3,I3,n3⟩:=q3;obtain⟨m',hm,w3⟩:=hN σ3 H3 n3;exact⟨m',hm,σ3,H3,I3,w3⟩
  |brk=>exact q3|ret v=>exact q3
 |false =>
  rw[if_neg Ð];exact Ï3 ⟨σ1,H2,I2,q2⟩
end
structure It where
 go:Nat->Hp->Prop
 yld:Nat->Hp->V->Hp->Prop
 stop:Nat->Hp->Prop
def Y10(X:Cx)(pins:List (Ç × Obj))(H:Hp)(b:Ç):Prop :=
 H b=none/\b≠X.env.locals/\b ∉ X.fs/\(b∈X.ex∨X.s₀.heap.objs.size<=b)/\(∀ x c,X.env.cells.lookup x=some c->c≠b)/\∀ p∈X.pn++pins,p.1≠b
theorem Inv.p21{X:Cx}{pins:List (Ç × Obj)}{σ:St}{H H':Hp}{s:Æ}{b:Ç}(I:Inv X pins σ H s)(hb:s.heap.objs.size<=b)(hn:H' b=none):Y10 X pins H' b:=by
 refine⟨hn,Ê3 (Þ I.lt hb),I.P62 hb,.inr (Ñ I.sz hb),λx c e z=>?_,λp hp z=>?_⟩
 ·obtain⟨v,q⟩:=I.cell x c e;exact absurd (Þ q.lt (by rw[z];exact hb)) (Á4 _)
 ·exact absurd (Þ (à (I.pin p hp).1) (by rw[z];exact hb)) (Á4 _)
structure Turn(P:Program)(w:World)(K:PySem.W.Frag)(tg:Expr)(J:It)(fp:List Addr)(it:Addr)(tn:Nat->Heap->Prop):Prop where
 mem:it∈fp
 obj:∀ i h,tn i h->∀ b∈fp,∃ o,h.get? b=some o/\∀ v,o.data≠.cell v
 keep:∀ i h h',tn i h->(∀ b∈fp,∀ o,h.get? b=some o->h'.get? b=some o)->tn i h'
 item:∀ (X:Cx),X.prog=P->X.w=w->X.K=K->X.calm=true->∀ (i:Nat) (pins:List (Addr × Obj)) (s:Shared) (σ:St) (H:Hp) (E:Value->Shared->Prop),Inv X pins σ H s->(∀ b∈fp,Y10 X pins H b)->tn i s.heap->J.go i H ->
  wpAny (model P w) X.A (pyNext (.ref it)) (λr s1=>∃ u,r=some u /\
   wpAny (model P w) X.A (letOwnedTupleGo tg (.ref it) u) (λ_ s2=>∃ x H',Inv X pins σ H' s2/\RelV x u/\J.yld i H x H'/\tn (i + 1) s2.heap/\∀ b∈fp,H' b=none) E s1) E s
 done:∀ (X:Cx),X.prog=P->X.w=w->X.K=K->X.calm=true->∀ (i:Nat) (pins:List (Addr × Obj)) (s:Shared) (σ:St) (H:Hp) (E:Value->Shared->Prop),Inv X pins σ H s->(∀ b∈fp,Y10 X pins H b)->tn i s.heap->J.stop i H ->
  wpAny (model P w) X.A (pyNext (.ref it)) (λr s1=>r=none/\Inv X pins σ H s1) E s
 self:∀ (A:Around) (i:Nat) (s:Shared) (Q:Value->Shared->Prop) (E:Value->Shared->Prop),tn i s.heap->Q (.ref it) s->wpAny (model P w) A (pyIter (.ref it)) Q E s
abbrev TI:=St->Hp->(It->Hp->Prop)->Prop
def PIE(X:Cx)(pins:List (Ç × Obj))(σ:St)(tg:Ï)(R:It->Hp->Prop)(itv:Ä)(s2:Æ):Prop :=
 ∃ (it:Ç) (fp:List Ç) (tn:Nat->é->Prop) (J:It) (H':Hp),itv=.ref it/\Inv X pins σ H' s2/\Turn X.prog X.w X.K tg J fp it tn/\tn 0 s2.heap/\(∀ b∈fp,Y10 X pins H' b)/\R J H'
def PI(X:Cx)(tg Ä0:Ï)(wi:TI):Prop :=
 ∀ (pins:List (Ç × Obj)) (s:Æ) (σ:St) (H:Hp) (R:It->Hp->Prop),Inv X pins σ H s->wi σ H R ->
  Î (Ô X.prog X.w) X.A (eval Ä0 X.env) (λv s1=>Î (Ô X.prog X.w) X.A (pyIter v) (PIE X pins σ tg R) X.xe s1) X.xe s
theorem X71{M:Model}{A:ö}{E:Ä->Æ->Prop}{s:Æ}{tg:Ï}{it:Ç}{u:Ä}{o:Obj}{n:String}{vs:Array Ä}{Q:Unit->Æ->Prop}(ho:s.heap.get? it=some o)(hc:o.cls=.type n)(hd:o.data=.fields vs)
  (hn:["enumerate","zip","dict_itemiterator","dict_reverseitemiterator","odict_iterator","itertools.zip_longest","itertools.pairwise"].contains n=false) (hQ:Q () s):Î M A (à5 tg (.ref it) u) Q E s:=by
 unfold à5;cases tg <;> first
  |exact Å hQ
  |(cases u <;> first
    |exact Å hQ
    |(refine À (wpAny_load ho ?_)
      rw[hc,hd];show Î M A (if (["enumerate","zip","dict_itemiterator","dict_reverseitemiterator","odict_iterator","itertools.zip_longest","itertools.pairwise"].contains n&&vs[0]? == some (Ã6 _))=true then _ else _) Q E s;rw[if_neg (by intro h;rw[hn,Õ7] at h;cases h)]
      exact Å hQ))
def Itl(K:Â)(a:Ç):It :=
 ⟨λi H=>∃ xs x,SqL K H a xs/\xs[i]?=some x,λi H x H'=>H'=H/\∀ xs,SqL K H a xs->xs[i]?=some x,λi H=>∃ xs,SqL K H a xs/\xs.length<=i⟩
def Itt(K:Â)(a:Ç):It :=
 ⟨λi H=>∃ xs x,SqT K H a xs/\xs[i]?=some x,λi H x H'=>H'=H/\∀ xs,SqT K H a xs->xs[i]?=some x,λi H=>∃ xs,SqT K H a xs/\xs.length<=i⟩
def Itr(lo:Int)(n:Nat):It:=⟨λi _=>i < n,λi H x H'=>H'=H/\x=.int (lo + i),λi _=>n<=i⟩
theorem q51{P:Ý}{w:è}{K:Â}{tg:Ï}(a it:Ç):Turn P w K tg (Itl K a) [it] it (λi h=>h.IsListIter it a i) where
 mem:=by simp
 obj:=λi h st b hb=>by
  have e:b=it:=by simpa using hb
  subst e;obtain⟨o,e,c,d⟩:=st;exact⟨o,e,λv z=>by rw[d] at z;cases z⟩
 keep:=λi h h' st k=>st.at λo e=>k it (by simp) o e
 item:=by
  intro X hP hw hK hc i pins s σ H E I hf st hg;subst hP hw hK;obtain⟨xs,x,hq,hx⟩:=hg;obtain⟨its,rv,p,hz⟩:=I.list hq;obtain⟨u,hu,ru⟩:=rv.get hx;obtain⟨f0,f1,f2,f3,f4,f5⟩:=hf it (by simp)
  refine wpAny_pyNext_list_item st p.isList (x:=u) (by simpa using hu) λh' st' sb=>?_
  have I1:Inv X pins σ H { s with heap:=h' }:=I.turned (t':=s.toks) (λb o hb e=>(sb.2 b hb).trans e) f0 f1 f3 f4 f5;obtain⟨o,e,c,d⟩:=id st';exact⟨u,rfl,X71 (s:={ s with heap:=h' }) e c d (-0) ⟨x,H,I1,ru,⟨rfl,λys hy=>by rw[I.d71 hy hq];exact hx⟩,st',λb hb=>(hf b hb).1⟩⟩
 done:=by
  intro X hP hw hK hc i pins s σ H E I hf st hg;subst hP hw hK;obtain⟨xs,hq,hx⟩:=hg;obtain⟨its,rv,p,hz⟩:=I.list hq;obtain⟨f0,f1,f2,f3,f4,f5⟩:=hf it (by simp)
  have hl:=rv.length;exact wpAny_pyNext_list_end (I.ok.hd hc) st p.isList (by simp;omega) λh' eb=>⟨rfl,I.turned (t':=s.toks) (λb o hb e=>eb b o hb e) f0 f1 f3 f4 f5⟩
 self:=λ_ _ _ _ _ st h=>wpAny_pyIter_listiter st h
theorem k71{P:Ý}{w:è}{K:Â}{tg:Ï}(a it:Ç):Turn P w K tg (Itt K a) [it] it (λi h=>h.IsTupleIter it a i) where
 mem:=by simp
 obj:=λi h st b hb=>by
  have e:b=it:=by simpa using hb
  subst e;obtain⟨o,e,c,d⟩:=st;exact⟨o,e,λv z=>by rw[d] at z;cases z⟩
 keep:=λi h h' st k=>st.at λo e=>k it (by simp) o e
 item:=by
  intro X hP hw hK hc i pins s σ H E I hf st hg;subst hP hw hK;obtain⟨xs,x,hq,hx⟩:=hg;obtain⟨its,rv,p,hz⟩:=I.tuple hq;obtain⟨u,hu,ru⟩:=rv.get hx;obtain⟨f0,f1,f2,f3,f4,f5⟩:=hf it (by simp)
  refine wpAny_pyNext_tuple_item st (show s.heap.IsTuple a its.toArray from p) (x:=u) (by simpa using hu) λh' st' sb=>?_
  have I1:Inv X pins σ H { s with heap:=h' }:=I.turned (t':=s.toks) (λb o hb e=>(sb.2 b hb).trans e) f0 f1 f3 f4 f5;obtain⟨o,e,c,d⟩:=id st';exact⟨u,rfl,X71 (s:={ s with heap:=h' }) e c d (-0) ⟨x,H,I1,ru,⟨rfl,λys hy=>by rw[I.P70 hy hq];exact hx⟩,st',λb hb=>(hf b hb).1⟩⟩
 done:=by
  intro X hP hw hK hc i pins s σ H E I hf st hg;subst hP hw hK;obtain⟨xs,hq,hx⟩:=hg;obtain⟨its,rv,p,hz⟩:=I.tuple hq;obtain⟨f0,f1,f2,f3,f4,f5⟩:=hf it (by simp)
  have hl:=rv.length;exact wpAny_pyNext_tuple_end (I.ok.hd hc) st (show s.heap.IsTuple a its.toArray from p) (by simp;omega) λh' eb=>⟨rfl,I.turned (t':=s.toks) (λb o hb e=>eb b o hb e) f0 f1 f3 f4 f5⟩
 self:=λ_ _ _ _ _ st h=>wpAny_pyIter_tupleiter st h
theorem k81{P:Ý}{w:è}{K:Â}{tg:Ï}(it:Ç)(lo:Int)(n:Nat):Turn P w K tg (Itr lo n) [it] it (λi h=>IsRangeIter h it (lo + (i:Nat) * 1) ((n:Int) - (i:Nat)) 1) where
 mem:=by simp
 obj:=λi h st b hb=>by
  have e:b=it:=by simpa using hb
  subst e;exact⟨_,st,λv z=>by
   have z':Data.fields _=Data.cell v:=z;cases z'⟩
 keep:=λi h h' st k=>k it (by simp) _ st
 item:=by
  intro X hP hw hK hc i pins s σ H E I hf st hg;subst hP hw hK;obtain⟨f0,f1,f2,f3,f4,f5⟩:=hf it (by simp)
  have W:=Walks.range (prog:=X.prog) (w:=X.w) (I.ok.hd hc) it lo 1 n;refine W.item i s _ _ hg st λv h' tk hv st' kk=>?_;obtain⟨t,rfl⟩:=hv;have I1:Inv X pins σ H { s with heap:=h',toks:=tk }:=I.turned (λb o hb e=>kk b o (by simpa using hb) e) f0 f1 f3 f4 f5
  refine⟨_,rfl,X71 (s:={ s with heap:=h',toks:=tk }) (n:="range_iterator") st' rfl rfl (-0) ⟨.int (lo + i),H,I1,⟨t,?_⟩,⟨rfl,rfl⟩,st',λb hb=>(hf b hb).1⟩⟩
  rw[mul_one]
 done:=by
  intro X hP hw hK hc i pins s σ H E I hf st hg;subst hP hw hK;obtain⟨f0,f1,f2,f3,f4,f5⟩:=hf it (by simp)
  exact wpAny_pyNext_range_end (I.ok.hd hc) st (by have:n<=i:=hg;omega) λh' eb=>⟨rfl,I.turned (t':=s.toks) (λb o hb e=>eb b o hb e) f0 f1 f3 f4 f5⟩
 self:=λ_ _ _ _ _ st h=>wpAny_pyIter_rangeiter st h
section
variable {X:Cx}{tg:Ï}
def C12(K:Â)(tl:TE):TI:=λσ H R=>tl σ H λx H1=>∃ a,x=.ref a/\(∃ xs,SqL K H1 a xs)/\R (Itl K a) H1
def Q72(K:Â)(tl:TE):TI:=λσ H R=>tl σ H λx H1=>∃ a,x=.ref a/\(∃ xs,SqT K H1 a xs)/\R (Itt K a) H1
theorem Y20{l:Ï}{tl:TE}(hl:PE X l tl):PI X tg l (C12 X.K tl):=by
 intro pins s σ H R I h;refine thn (hl pins s σ H _ I h) λv s1 ⟨x,H1,I1,r1,q1⟩=>?_;obtain⟨a,e,⟨xs,hq⟩,q⟩:=q1;subst e;cases r1;obtain⟨its,rv,p,hz⟩:=I1.list hq;refine Ý2 p.isList ?_;refine⟨s1.heap.objs.size,[s1.heap.objs.size],_,_,H1,rfl,I1.kept (t':=s1.toks) λb o e=>Ã _ e,q51 a _,⟨_,Ê _ rfl,rfl,rfl⟩,λb hb=>?_,q⟩;have e:b=s1.heap.objs.size:=by simpa using hb
 subst e;exact I1.p21 (Í _) (I1.hok.fresh (Í _))
theorem S31{l:Ï}{tl:TE}(hl:PE X l tl):PI X tg l (Q72 X.K tl):=by
 intro pins s σ H R I h;refine thn (hl pins s σ H _ I h) λv s1 ⟨x,H1,I1,r1,q1⟩=>?_;obtain⟨a,e,⟨xs,hq⟩,q⟩:=q1;subst e;cases r1;obtain⟨its,rv,p,hz⟩:=I1.tuple hq;refine Ç8 (show s1.heap.IsTuple a its.toArray from p) ?_;refine⟨s1.heap.objs.size,[s1.heap.objs.size],_,_,H1,rfl,I1.kept (t':=s1.toks) λb o e=>Ã _ e,k71 a _,⟨_,Ê _ rfl,rfl,rfl⟩,λb hb=>?_,q⟩;have e:b=s1.heap.objs.size:=by simpa using hb
 subst e;exact I1.p21 (Í _) (I1.hok.fresh (Í _))
theorem d91{pins:List (Ç × Obj)}{σ:St}{H:Hp}{s:Æ}{R:It->Hp->Prop}{E:Ä->Æ->Prop}{lo hi:Int}{t u v:Tok}{tk:Nat}(I:Inv X pins σ H s)(h1:-(2 ^ 62)<=lo)(h2:lo < 2 ^ 62)(h3:-(2 ^ 62)<=hi)(h4:hi < 2 ^ 62)
  (q:R (Itr lo (hi - lo).toNat) H):Î (Ô X.prog X.w) X.A (pyIter (.ref s.heap.objs.size)) (PIE X pins σ tg R) E { s with heap:=s.heap.push { cls:=.type "range",data:=.fields #[.int lo t,.int hi u,.int 1 v] },toks:=tk }:=by
 refine wpAny_pyIter_range (Ö0.new ..) (small_one h1 h2 h3 h4) ?_;have I1:Inv X pins σ H { s with heap:=s.heap.push { cls:=.type "range",data:=.fields #[.int lo t,.int hi u,.int 1 v] },toks:=tk }:=I.kept λb o e=>Ã _ e;refine⟨(s.heap.push { cls:=.type "range",data:=.fields #[.int lo t,.int hi u,.int 1 v] }).objs.size,[(s.heap.push { cls:=.type "range",data:=.fields #[.int lo t,.int hi u,.int 1 v] }).objs.size],_,_,H,rfl,
  I1.kept (t':=tk) λb o e=>Ã _ e,k81 _ lo (hi - lo).toNat,?_,λb hb=>?_,q⟩
 ·have e1:lo + ((0:Nat):Int) * 1=lo:=by simp
  have e2:(((hi - lo).toNat:Nat):Int) - ((0:Nat):Int)=Ã7 lo hi 1:=by rw[rangeSize_one];split <;> omega
  show IsRangeIter _ _ (lo + ((0:Nat):Int) * 1) ((((hi - lo).toNat:Nat):Int) - ((0:Nat):Int)) 1;rw[e1,e2];exact Ê _ rfl
 ·have e:b=(s.heap.push { cls:=.type "range",data:=.fields #[.int lo t,.int hi u,.int 1 v] }).objs.size:=by simpa using hb
  subst e;exact I1.p21 (Í _) (I1.hok.fresh (Í _))
def C22(ta:TA):TI:=λσ H R=>ta σ H λvs H1=>∃ j:Int,vs=[.int j]/\-(2 ^ 62)<=j/\j < 2 ^ 62/\R (Itr 0 j.toNat) H1
def C32(ta:TA):TI:=λσ H R=>ta σ H λvs H1=>∃ i j:Int,vs=[.int i,.int j]/\(-(2 ^ 62)<=i/\i < 2 ^ 62/\-(2 ^ 62)<=j/\j < 2 ^ 62)/\R (Itr i (j - i).toNat) H1
theorem P80{a:Ï}{ta:TA}{p pos:Pos}(hg:Gl X "range")(hm:X.mg "range"=none)(ha:PA X [a] ta)(hs:þ [a] X.env=[(false,eval a X.env)]:=by rfl):PI X tg (.Call (.Name "range" p) [a] [] pos) (C22 ta):=by
 intro pins s σ H R I h;refine Call_ (t30 I hg hm boot_range (Á1 (thn (ha pos pins s σ H _ I h) λus s1 ⟨vs,H1,I1,r1,q1⟩=>?_) hs rfl));obtain⟨j,e,q1,q2,q⟩:=q1;subst e;cases r1 with
 |cons r rr =>
  cases rr;obtain⟨t,rfl⟩:=r;exact call_range_1 (d91 I1 ∅ ∅ q1 q2 (by simpa using q))
theorem q61{a b:Ï}{ta:TA}{p pos:Pos}(hg:Gl X "range")(hm:X.mg "range"=none)(ha:PA X [a,b] ta)(hs:þ [a,b] X.env=[(false,eval a X.env),(false,eval b X.env)]:=by rfl)(hs2:þ [b] X.env=[(false,eval b X.env)]:=by rfl) :
  PI X tg (.Call (.Name "range" p) [a,b] [] pos) (C32 ta):=by
 intro pins s σ H R I h;refine Call_ (t30 I hg hm boot_range (Á1 (thn (ha pos pins s σ H _ I h) λus s1 ⟨vs,H1,I1,r1,q1⟩=>?_) (by rw[hs,hs2]) (by rw[hs2];rfl)))
 obtain⟨i,j,e,⟨q1,q2,q3,q4⟩,q⟩:=q1;subst e;cases r1 with
 |cons r rr =>
  cases rr with
  |cons r' rr =>
   cases rr;obtain⟨t,rfl⟩:=r;obtain⟨t',rfl⟩:=r';exact call_range_2 (d91 I1 q1 q2 q3 q4 q)
def Q82(wi:TI)(g:TG)(tb:TS):TS:=λD σ H=>wi σ H λJ H1=>∃ W:Nat->Nat->St->Hp->Prop,(∃ m,W 0 m σ H1)/\∀ i m σ H,W i m σ H ->
 (J.stop i H/\D.nx σ H)∨(J.go i H/\∃ N:St->Hp->Prop,(∀ σ' H',N σ' H'->∃ m',m' < m/\W (i + 1) m' σ' H')/\∀ x H',J.yld i H x H'->g x σ H' λσ2 H2=>tb { D with nx:=N,ct:=N,bk:=D.nx } σ2 H2)
def B20(fp:List Ç)(h:é):List (Ç × Obj):=fp.filterMap λb=>(h.get? b).map λo=>(b,o)
theorem k80{fp:List Ç}{h:é}{b:Ç}{o:Obj}(hb:b∈fp)(e:h.get? b=some o):(b,o)∈B20 fp h:=Ø0.mpr ⟨b,hb,by rw[e];rfl⟩
theorem P90{fp:List Ç}{h:é}{p:Ç × Obj}(hp:p∈B20 fp h):p.1∈fp/\h.get? p.1=some p.2:=by
 obtain⟨b,hb,e⟩:=Ø0.mp hp;cases q:h.get? b with
 |none=>rw[q] at e;cases e
 |some o =>
  rw[q] at e;have e':(b,o)=p:=À6 e;subst e';exact⟨hb,q⟩
theorem Inv.pinned{pins:List (Ç × Obj)}{σ:St}{H:Hp}{s:Æ}{fp:List Ç}(I:Inv X pins σ H s)(hf:∀ b∈fp,Y10 X pins H b)(ho:∀ b∈fp,∃ o,s.heap.get? b=some o/\∀ v,o.data≠.cell v):Inv X (pins++B20 fp s.heap) σ H s :=
 I.B00 λp hp=>(Á7.mp hp).elim (λz=>I.pin p (í _ z)) λz=>by
  obtain⟨hb,e⟩:=P90 z;obtain⟨f0,f1,f2,_⟩:=hf p.1 hb;obtain⟨o,e',d⟩:=ho p.1 hb;rw[e] at e';cases e';exact⟨e,f0,f1,f2,d⟩
theorem Inv.J10{pins pl:List (Ç × Obj)}{σ:St}{H:Hp}{s:Æ}(I:Inv X (pins++pl) σ H s):Inv X pins σ H s:=I.B00 λp hp=>I.pin p (í _ (Æ6 _ hp))
theorem S41{Ä0:Ï}{body:List Ä8}{wi:TI}{g:TG}{tb:TS}{pos:Pos}(hp:PassesOwn (Ô X.prog X.w) X.A X.env X.xe)(hc:X.calm=true)(hi:PI X tg Ä0 wi)(hg:PG X tg g)(hb:PSs X body tb)
  (hs:∀ x,É0 Ä0 X.env x=pure x:=by intro _;rfl):PS X (.For tg Ä0 body [] pos) (Q82 wi g tb):=by
 intro pins s σ H D I h;refine wpAny_For (thn (hi pins s σ H _ I h) λv s1 h1=>thn h1 λitv s2 h2=>?_) hs;obtain⟨it,fp,tn,J,H2,e,I2,T,st2,f2,W,⟨m0,w0⟩,turn⟩:=h2;subst e;have stat:∀ {H':Hp},(∀ b∈fp,H' b=none)->∀ b∈fp,Y10 X pins H' b:=λhn b hb=>⟨hn b hb,(f2 b hb).2⟩;refine codeAny_forLoop_any (λn s'=>∃ i σ' H',Inv X pins σ' H' s'/\tn i s'.heap/\(∀ b∈fp,H' b=none)/\W i n σ' H') ?_ m0 ⟨0,σ,H2,I2,st2,λb hb=>(f2 b hb).1,w0⟩;rintro n s3 ⟨i,σ3,H3,I3,st3,fr3,w3⟩;rcases turn i n σ3 H3 w3 with ⟨stop,qn⟩ | ⟨go,N,hN,step⟩
 ·refine È4 hp (thn (T.done X rfl rfl rfl hc i pins s3 σ3 H3 X.xe I3 (stat fr3) st3 stop) λr s4 ⟨hr,I4⟩=>?_);subst hr;exact Ï3 ⟨σ3,H3,I4,qn⟩
 ·refine È4 hp (thn (T.item X rfl rfl rfl hc i pins s3 σ3 H3 X.xe I3 (stat fr3) st3 go) λr s4 ⟨u,hr,h4⟩=>?_);subst hr;refine È4 hp (thn h4 λ_ s5 ⟨x,H5,I5,r5,y5,st5,fr5⟩=>?_);have I5':=I5.pinned (stat fr5) (T.obj _ _ st5);refine È4 hp (thn (hg _ s5 σ3 H5 x u _ I5' r5 (step x H5 y5)) λ_ s6 ⟨σ6,H6,I6,q6⟩=>?_);refine È4 hp (thn (hb _ s6 σ6 H6 _ I6 q6) λf s7 q7=>?_);have again:∀ {σ7:St}{H7:Hp},Inv X (pins++B20 fp s5.heap) σ7 H7 s7->N σ7 H7->∃ m,m < n/\∃ i σ' H',Inv X pins σ' H' s7/\tn i s7.heap/\(∀ b∈fp,H' b=none)/\W i m σ' H':=λ{σ7 H7} I7 n7=>by
   obtain⟨m',hm,w7⟩:=hN σ7 H7 n7;refine⟨m',hm,i + 1,σ7,H7,I7.J10,T.keep _ _ _ st5 λb hb o e=>(I7.pin (b,o) (í _ (í _ (k80 hb e)))).1,λb hb=>?_,w7⟩;obtain⟨o,e,d⟩:=T.obj _ _ st5 b hb;exact(I7.pin (b,o) (í _ (í _ (k80 hb e)))).2.1
  cases f with
  |next=>obtain⟨σ7,H7,I7,n7⟩:=q7;exact again I7 n7
  |cont=>obtain⟨σ7,H7,I7,n7⟩:=q7;exact again I7 n7
  |brk=>obtain⟨σ7,H7,I7,q7⟩:=q7;exact⟨σ7,H7,I7.J10,q7⟩
  |ret v=>obtain⟨x7,σ7,H7,I7,r7,q7⟩:=q7;exact⟨x7,σ7,H7,I7.J10,r7,q7⟩
end
abbrev R2:=V->V->Hp->VK->Prop
def OpR(X:Cx)(f:Ä->Ä->Sem Ä)(r:R2):Prop :=
 ∀ (pins:List (Ç × Obj)) (s:Æ) (σ:St) (H:Hp) (x y:V) (v u:Ä) (Q:VK),Inv X pins σ H s->RelV x v->RelV y u->r x y H Q ->
  Î (Ô X.prog X.w) X.A (f v u) (EP X pins σ Q) X.xe s
def UnR(X:Cx)(f:Ä->Sem Ä)(r:V->Hp->VK->Prop):Prop :=
 ∀ (pins:List (Ç × Obj)) (s:Æ) (σ:St) (H:Hp) (x:V) (v:Ä) (Q:VK),Inv X pins σ H s->RelV x v->r x H Q ->
  Î (Ô X.prog X.w) X.A (f v) (EP X pins σ Q) X.xe s
def g70(X:Cx)(f:Ä)(r:List V->Hp->VK->Prop):Prop :=
 ∀ (pins:List (Ç × Obj)) (s:Æ) (σ:St) (H:Hp) (xs:List V) (us:List Ä) (Q:VK),Inv X pins σ H s->Vals xs us->r xs H Q ->
  Î (Ô X.prog X.w) X.A (call f us) (EP X pins σ Q) X.xe s
def tOp(r:R2)(ta tb:TE):TE:=λσ H Q=>ta σ H λx H1=>tb σ H1 λy H2=>r x y H2 Q
def tUn(r:V->Hp->VK->Prop)(ta:TE):TE:=λσ H Q=>ta σ H λx H1=>r x H1 Q
def rI(C:Int->Int->Prop)(g:Int->Int->V):R2:=λx y H Q=>∃ i j,x=.int i/\y=.int j/\C i j/\Q (g i j) H
def rI0(g:Int->Int->V):R2:=λx y H Q=>∃ i j,x=.int i/\y=.int j/\Q (g i j) H
def rU(g:Int->V):V->Hp->VK->Prop:=λx H Q=>∃ i,x=.int i/\Q (g i) H
section
variable {X:Cx}{a b c:Ï}{ta tb tc:TE}{pos:Pos}
theorem C42(ha:PE X a ta)(hb:PE X b tb){pins:List (Ç × Obj)}{s:Æ}{σ:St}{H:Hp}{R:V->V->Hp->Prop}(I:Inv X pins σ H s)
  (h:ta σ H λx H1=>tb σ H1 λy H2=>R x y H2) {Q:Ä->Æ->Prop}{f:Ä->Ä->Sem Ä}
  (hf:∀ v u s2 x y H2,Inv X pins σ H2 s2->RelV x v->RelV y u->R x y H2->Î (Ô X.prog X.w) X.A (f v u) Q X.xe s2) :
  Î (Ô X.prog X.w) X.A (eval a X.env) (λv s₁=>Î (Ô X.prog X.w) X.A (eval b X.env) (λu s₂=>Î (Ô X.prog X.w) X.A (f v u) Q X.xe s₂) X.xe s₁) X.xe s:=by
 refine thn (ha pins s σ H _ I h) λv s1 ⟨x,H1,I1,r1,q1⟩=>?_;refine thn (hb pins s1 σ H1 _ I1 q1) λu s2 ⟨y,H2,I2,r2,q2⟩=>?_;exact hf v u s2 x y H2 I2 r1 r2 q2
theorem H81{op:Ý5}{r:R2}(ho:OpR X (Ä2 op) r)(ha:PE X a ta)(hb:PE X b tb):PE X (.BinOp a op b pos) (tOp r ta tb):=by
 intro pins s σ H Q I h;exact wpAny_BinOp (C42 ha hb I h λv u s2 x y H2 I2 rx ry q=>ho pins s2 σ H2 x y v u Q I2 rx ry q)
theorem m62{op:UnaryOp}{r:V->Hp->VK->Prop}(ho:UnR X (unaryOp op) r)(ha:PE X a ta):PE X (.UnaryOp op a pos) (tUn r ta):=by
 intro pins s σ H Q I h;exact UnaryOp_ (thn (ha pins s σ H _ I h) λv s1 ⟨x,H1,I1,r1,q1⟩=>ho pins s1 σ H1 x v Q I1 r1 q1)
theorem opI{f:Ä->Ä->Sem Ä}{C:Int->Int->Prop}{g:Int->Int->Int}
  (rule:∀ (i j:Int) (t u:Tok) (s:Æ) (Q:Ä->Æ->Prop) (E:Ä->Æ->Prop),C i j->Q (.int (g i j) s.toks) { s with toks:=s.toks + 1 }->Î (Ô X.prog X.w) X.A (f (.int i t) (.int j u)) Q E s) :
  OpR X f (rI C λi j=>.int (g i j)):=by
 intro pins s σ H x y v u Q I rx ry h;obtain⟨i,j,rfl,rfl,hc,q⟩:=h;obtain⟨t,rfl⟩:=rx;obtain⟨t',rfl⟩:=ry;exact rule i j t t' s _ _ hc ⟨.int (g i j),H,I.tok _,⟨_,rfl⟩,q⟩
theorem C52{f:Ä->Ä->Sem Ä}{g:Int->Int->Int}
  (rule:∀ (i j:Int) (t u:Tok) (s:Æ) (Q:Ä->Æ->Prop) (E:Ä->Æ->Prop),Q (.int (g i j) s.toks) { s with toks:=s.toks + 1 }->Î (Ô X.prog X.w) X.A (f (.int i t) (.int j u)) Q E s) :
  OpR X f (rI0 λi j=>.int (g i j)):=by
 intro pins s σ H x y v u Q I rx ry h;obtain⟨i,j,rfl,rfl,q⟩:=h;obtain⟨t,rfl⟩:=rx;obtain⟨t',rfl⟩:=ry;exact rule i j t t' s _ _ ⟨.int (g i j),H,I.tok _,⟨_,rfl⟩,q⟩
theorem C62{f:Ä->Ä->Sem Ä}{g:Int->Int->Bool}
  (rule:∀ (i j:Int) (t u:Tok) (s:Æ) (Q:Ä->Æ->Prop) (E:Ä->Æ->Prop),Q (.bool (g i j)) s->Î (Ô X.prog X.w) X.A (f (.int i t) (.int j u)) Q E s) :
  OpR X f (rI0 λi j=>.bl (g i j)):=by
 intro pins s σ H x y v u Q I rx ry h;obtain⟨i,j,rfl,rfl,q⟩:=h;obtain⟨t,rfl⟩:=rx;obtain⟨t',rfl⟩:=ry;exact rule i j t t' s _ _ ⟨.bl (g i j),H,I,rfl,q⟩
def N12(i j:Int):Prop:=0<=j/\j<=1000000/\i.natAbs < 2 ^ 64
theorem m72:OpR X (Ä2 .Add) (rI0 λi j=>.int (i + j)):=C52 λ_ _ _ _ _ _ _ q=>add_int q
theorem m82:OpR X (Ä2 .Sub) (rI0 λi j=>.int (i - j)):=C52 λ_ _ _ _ _ _ _ q=>sub_int q
theorem m92:OpR X (binaryOp .Mod) (rI (λ_ j=>0 < j) λi j=>.int (i % j)):=opI λi j _ _ _ _ _ hc q=>by
 have h1:(0:Int) < j:=hc;exact mod_int' ∅ (by rw[Int.fmod_eq_emod_of_nonneg i ∅];exact q)
theorem n02:OpR X (Ä2 .Pow) (rI N12 λi j=>.int (i ^ j.toNat)):=opI λ_ _ _ _ _ _ _ hc q=>pow_int_small hc.1 hc.2.1 hc.2.2 q
theorem N22:OpR X (Ä2 .LShift) (rI N12 λi j=>.int (i * 2 ^ j.toNat)):=opI λ_ _ _ _ _ _ _ hc q=>lshift_int_small hc.1 hc.2.1 hc.2.2 q
theorem N32:OpR X (Ä2 .BitAnd) (rI0 λi j=>.int (ÿ.bitAnd i j)):=C52 λ_ _ _ _ _ _ _ q=>and_int q
theorem unI{f:Ä->Sem Ä}{g:Int->Int}
  (rule:∀ (i:Int) (t:Tok) (s:Æ) (Q:Ä->Æ->Prop) (E:Ä->Æ->Prop),Q (.int (g i) s.toks) { s with toks:=s.toks + 1 }->Î (Ô X.prog X.w) X.A (f (.int i t)) Q E s) :
  UnR X f (rU λi=>.int (g i)):=by
 intro pins s σ H x v Q I rx h;obtain⟨i,rfl,q⟩:=h;obtain⟨t,rfl⟩:=rx;exact rule i t s _ _ ⟨.int (g i),H,I.tok _,⟨_,rfl⟩,q⟩
theorem S51:UnR X (unaryOp .USub) (rU λi=>.int (-i)):=unI λ_ _ _ _ _ q=>neg_int q
theorem e01{pins:List (Ç × Obj)}{σ:St}{H:Hp}{s:Æ}{Q:VK}{k k':Bool}(I:Inv X pins σ H s)(q:Q (.bl k) H)(e:k=k'):EP X pins σ Q (.bool k') s:=by
 subst e;exact⟨.bl k,H,I,rfl,q⟩
theorem C72:OpR X (ü .LtE) (rI0 λi j=>.bl (decide (i<=j))):=C62 λ_ _ _ _ _ _ _ q=>le_int q
theorem C82:OpR X (ü .Gt) (rI0 λi j=>.bl (decide (j < i))):=C62 λ_ _ _ _ _ _ _ q=>gt_int q
theorem C92:OpR X (ü .GtE) (rI0 λi j=>.bl (decide (j<=i))):=C62 λ_ _ _ _ _ _ _ q=>ge_int q
theorem N42:OpR X (ü .Is) (λx y H Q=>y=.non/\Q (.bl (decide (x=.non))) H):=by
 intro pins s σ H x y v u Q I rx ry h;obtain⟨rfl,q⟩:=h;cases ry;refine is_none_gen (e01 I q ?_);cases x <;> first
  |(cases rx;rfl)
  |(obtain⟨t,rfl⟩:=rx;rfl)
theorem D02:OpR X (ü .IsNot) (λx y H Q=>y=.non/\Q (.bl (!decide (x=.non))) H):=by
 intro pins s σ H x y v u Q I rx ry h;obtain⟨rfl,q⟩:=h;cases ry;refine isnot_none_gen (e01 I q ?_);cases x <;> first
  |(cases rx;rfl)
  |(obtain⟨t,rfl⟩:=rx;rfl)
theorem X81{op:CmpOp}{r:R2}(ho:OpR X (ü op) r)(ha:PE X a ta)(hb:PE X b tb)(hm:behindInMarks op b=false):PE X (.Compare a [op] [b] pos) (tOp r ta tb):=by
 intro pins s σ H Q I h;exact wpAny_Compare1 (C42 ha hb I h λv u s2 x y H2 I2 rx ry q=>ho pins s2 σ H2 x y v u Q I2 rx ry q) hm
def n12(t:TE):TT:=λσ H Q=>t σ H λx H'=>∃ k,x=.bl k/\Q k H'
theorem X91{op:CmpOp}{r:R2}(ho:OpR X (ü op) r)(ha:PE X a ta)(hb:PE X b tb)(hm:behindInMarks op b=false):PT X (.Compare a [op] [b] pos) (n12 (tOp r ta tb)):=by
 intro pins s σ H Q I h;refine wpAny_isTrue_Compare1 (thn (ha pins s σ H _ I h) λv s1 ⟨x,H1,I1,r1,q1⟩=>thn (hb pins s1 σ H1 _ I1 q1) λu s2 ⟨y,H2,I2,r2,q2⟩ =>
  thn (ho pins s2 σ H2 x y v u _ I2 r1 r2 q2) λc s3 ⟨z,H3,I3,r3,k,e,q3⟩=>?_) hm
 subst e;cases r3;exact Â5 ⟨H3,I3,q3⟩
def q71(r r':R2)(ta tb tc:TE):TE:=λσ H Q=>ta σ H λx H1=>tb σ H1 λy H2=>r x y H2 λz H3=>∃ k,z=.bl k /\
 (if k=true then tc σ H3 λw' H4=>r' y w' H4 Q else Q (.bl false) H3)
theorem H91{op op':CmpOp}{r r':R2}(ho:OpR X (ü op) r)(ho':OpR X (ü op') r')(ha:PE X a ta)(hb:PE X b tb)(hc:PE X c tc)
  (hm:lastMarks [op,op'] [b,c]=false:=by with_unfolding_all rfl):PE X (.Compare a [op,op'] [b,c] pos) (q71 r r' ta tb tc):=by
 intro pins s σ H Q I h;refine Compare_chain (thn (ha pins s σ H _ I h) λv s1 ⟨x,H1,I1,r1,q1⟩=>chain_link (thn (hb pins s1 σ H1 _ I1 q1) λu s2 ⟨y,H2,I2,r2,q2⟩ =>
  thn (ho pins s2 σ H2 x y v u _ I2 r1 r2 q2) λd s3 ⟨z,H3,I3,r3,k,e,q3⟩=>?_)) hm
 subst e;cases r3;refine Â5 ?_;cases k with
 |false=>exact ite_ff ⟨.bl false,H3,I3,rfl,q3⟩|true=>exact ite_tt (chain_last (thn (hc pins s3 σ H3 _ I3 q3) λw' s4 ⟨z',H4,I4,r4,q4⟩=>ho' pins s4 σ H4 y z' u w' Q I4 r2 r4 q4))
theorem I01{op op':CmpOp}{r r':R2}(ho:OpR X (ü op) r)(ho':OpR X (ü op') r')(ha:PE X a ta)(hb:PE X b tb)(hc:PE X c tc)
  (hm:lastMarks [op,op'] [b,c]=false:=by with_unfolding_all rfl):PT X (.Compare a [op,op'] [b,c] pos) (n12 (q71 r r' ta tb tc)):=by
 intro pins s σ H Q I h;refine isTrue_chain (thn (ha pins s σ H _ I h) λv s1 ⟨x,H1,I1,r1,q1⟩=>test_link (thn (hb pins s1 σ H1 _ I1 q1) λu s2 ⟨y,H2,I2,r2,q2⟩ =>
  thn (ho pins s2 σ H2 x y v u _ I2 r1 r2 q2) λd s3 ⟨z,H3,I3,r3,k,e,q3⟩=>?_)) hm
 subst e;cases r3;refine Â5 ?_;cases k with
 |false =>
  obtain⟨k',e',q'⟩:=q3;cases e';exact ite_ff ⟨H3,I3,q'⟩
 |true =>
  refine ite_tt (test_last (thn (hc pins s3 σ H3 _ I3 q3) λw' s4 ⟨z',H4,I4,r4,q4⟩=>thn (ho' pins s4 σ H4 y z' u w' _ I4 r2 r4 q4) λd' s5 ⟨z2,H5,I5,r5,k2,e2,q5⟩=>?_));subst e2;cases r5;exact Â5 ⟨H5,I5,q5⟩
theorem Q00:(Ú:Nat) < 2 ^ 63:=by rw[Á2];decide
theorem vals1{x:V}{us:List Ä}(r:Vals [x] us):∃ u,us=[u]/\RelV x u:=by
 cases r with
 |cons r1 r2=>cases r2;exact⟨_,rfl,r1⟩
theorem vals2{x y:V}{us:List Ä}(r:Vals [x,y] us):∃ u w',us=[u,w']/\RelV x u/\RelV y w':=by
 cases r with
 |cons r1 r2 =>
  cases r2 with
  |cons r3 r4=>cases r4;exact⟨_,_,rfl,r1,r3⟩
theorem z42:g70 X (.builtin "abs") (λxs H Q=>∃ i,xs=[.int i]/\Q (.int (if i < 0 then -i else i)) H):=by
 intro pins s σ H xs us Q I r h;obtain⟨i,rfl,q⟩:=h;obtain⟨u,rfl,t,rfl⟩:=vals1 r;exact call_abs_int λu tk=>⟨.int (if i < 0 then -i else i),H,I.tok _,⟨_,rfl⟩,q⟩
theorem q81(hc:X.calm=true):g70 X (.builtin "max") (λxs H Q=>∃ i j,xs=[.int i,.int j]/\Q (.int (if j > i then j else i)) H):=by
 intro pins s σ H xs us Q I r h;obtain⟨i,j,rfl,q⟩:=h;obtain⟨u,w',rfl,⟨t,rfl⟩,⟨t',rfl⟩⟩:=vals2 r;refine max_two_ints (I.ok.hd hc) λh' tk k=>⟨_,H,I.kept k,?_,q⟩;by_cases hj:j > i
 ·rw[if_pos hj,if_pos hj];exact⟨_,rfl⟩
 ·rw[if_neg hj,if_neg hj];exact⟨_,rfl⟩
theorem q91(hc:X.calm=true):g70 X (.builtin "min") (λxs H Q=>∃ i j,xs=[.int i,.int j]/\Q (.int (if j < i then j else i)) H):=by
 intro pins s σ H xs us Q I r h;obtain⟨i,j,rfl,q⟩:=h;obtain⟨u,w',rfl,⟨t,rfl⟩,⟨t',rfl⟩⟩:=vals2 r;refine min_two_ints (I.ok.hd hc) λh' tk k=>⟨_,H,I.kept k,?_,q⟩;by_cases hj:j < i
 ·rw[if_pos hj,if_pos hj];exact⟨_,rfl⟩
 ·rw[if_neg hj,if_neg hj];exact⟨_,rfl⟩
theorem Q10:g70 X (.type "int") (λxs H Q=>(∃ i,xs=[.int i]/\Q (.int i) H)∨∃ k,xs=[.bl k]/\Q (.int (if k then 1 else 0)) H):=by
 intro pins s σ H xs us Q I r h;rcases h with ⟨i,rfl,q⟩ | ⟨k,rfl,q⟩
 ·obtain⟨u,rfl,t,rfl⟩:=vals1 r;exact call_int_int ⟨.int i,H,I,⟨_,rfl⟩,q⟩
 ·obtain⟨u,rfl,r1⟩:=vals1 r;cases r1;exact call_int_bool ⟨.int (if k then 1 else 0),H,I.tok _,⟨_,rfl⟩,q⟩
end
structure z90(k:Nat)(A:Around):Prop where
 hd:A.handled=none
 dp:A.depth + 3 * k + 5 < recursionLimit
 un:A.units + 16 * k + 200 < cLine
theorem z90.deeper{k:Nat}{A:ö}(r:z90 (k + 1) A)(env:Env):z90 k (A.deeper env) :=
 ⟨r.hd,by have:=r.dp;show A.depth + 1 + 3 * k + 5 < _;omega,by have:=r.un;show A.units + 3 + 16 * k + 200 < _;omega⟩
theorem z90.depth{k:Nat}{A:ö}(r:z90 k A):A.depth < recursionLimit:=by have:=r.dp;omega
theorem z90.units{k:Nat}{A:ö}(r:z90 k A):A.units + 64 < cLine:=by have:=r.un;omega
def Q92:TA:=λ_ H Q=>Q [] H
def D12(ta:TE)(tr:TA):TA:=λσ H Q=>ta σ H λx H1=>tr σ H1 λxs H2=>Q (x::xs) H2
section
variable {X:Cx}{e:Ï}{es:List Ï}{te:TE}{t:TA}{pos:Pos}
theorem t40:PA X [] Q92:=λ_ _ _ _ H Q I h=>Ð4 ⟨[],H,I,.nil,h⟩
theorem e90(ha:PE X e te)(hr:PA X es t)(hs:þ (e::es) X.env=(false,eval e X.env)::þ es X.env:=by rfl):PA X (e::es) (D12 te t):=by
 intro pos pins s σ H Q I h;rw[hs];show Î _ _ (spliced ((false,eval e X.env)::Õ9 pos (þ es X.env))) _ _ s;refine Ö8 (thn (ha pins s σ H _ I h) λu s1 ⟨x,H1,I1,r1,q1⟩=>?_);exact thn (hr pos pins s1 σ H1 _ I1 q1) λus s2 ⟨xs,H2,I2,r2,q2⟩=>⟨x::xs,H2,I2,.cons r1 r2,q2⟩
def R02(t:TA):TE:=λσ H Q=>t σ H λxs H1=>xs.length<=Ú/\∀ p,H1 p=none->Q (.ref p) (upd H1 p (.tup xs))
def R12(t:TA):TE:=λσ H Q=>t σ H λxs H1=>xs.length<=Ú/\∀ p,H1 p=none->Q (.ref p) (upd H1 p (.lst xs))
theorem S61{x1}(h:PA X es t):PE X (.Tuple es x1 pos) (R02 t):=by
 intro pins s σ H Q I hq;refine wpAny_Tuple_spliced (thn (h pos pins s σ H _ I hq) λus s1 ⟨xs,H1,I1,r,z,q⟩=>⟨by rw[← r.length];exact z,?_⟩)
 have hf:H1 s1.heap.objs.size=none:=I1.hok.fresh (Í _);refine⟨.ref s1.heap.objs.size,upd H1 s1.heap.objs.size (.tup xs),I1.laid (t':=s1.toks) (λb u e=>Ã _ e) (Í _) ?_,rfl,q _ hf⟩;exact⟨z,us,r,⟨_,Ê _ rfl,rfl,_,rfl⟩⟩
theorem S71(h:PA X es t):PE X (.List es pos) (R12 t):=by
 intro pins s σ H Q I hq;refine wpAny_List_spliced (thn (h pos pins s σ H _ I hq) λus s1 ⟨xs,H1,I1,r,z,q⟩=>⟨by rw[← r.length];exact z,?_⟩)
 have hf:H1 s1.heap.objs.size=none:=I1.hok.fresh (Í _);refine⟨.ref s1.heap.objs.size,upd H1 s1.heap.objs.size (.lst xs),I1.laid (t':=s1.toks) (λb u e=>Ã _ e) (Í _) ?_,rfl,q _ hf⟩;exact⟨z,us,0,r,Ê _ rfl⟩
end
abbrev Sp:=List V->Hp->VK->XK->Prop
abbrev CXT:=List Env->Hp->Æ->XK->Ä->Æ->Prop
structure Y01(P:Program)(w:World)(K:PySem.W.Frag)(mg:Str->Option Value)(base:Heap)(A:Around)(outer:List Env)(s:Shared)(H:Hp):Prop where
 frames:A.frames=some outer
 mod:Mod K mg base
 bs:∀ b o,base.get? b=some o->s.heap.get? b=some o/\H b=none
 bsz:base.objs.size<=s.heap.objs.size
 k61:s.heap.FunFrames base outer
 frf:∀ b∈frs outer,H b=none
 hok:HOk P w H s.heap
 bare:AllBare s.gens
def CE(outer:List Env)(P:Ý)(w:è)(H:Hp)(s:Æ)(Q:VK)(u:Ä)(s':Æ):Prop :=
 ∃ v H',s'.os=s.os/\Ó4 s'.gens/\Un (frs outer) [] H H' s.heap s'.heap/\HOk P w H' s'.heap/\RelV v u/\Q v H'
def CR(CX:CXT)(outer:List Env)(P:Ý)(w:è)(H:Hp)(s:Æ)(Q:VK)(E:XK)(r:Result)(s':Æ):Prop :=
 match r with
 |.ok (.ret u)=>CE outer P w H s Q u s'|.ok _=>False|.error e=>CX outer H s E e s'
structure X50(P:Program)(w:World)(K:PySem.W.Frag)(mg:Str->Option Value)(base:Heap)(CX:CXT)(k:Nat)(f:Addr)(fd:FuncData)(ps:List Str)(sp:Sp):Prop where
 len:∀ vs H Q E,sp vs H Q E->vs.length=ps.length
 run:∀ (A:Around) (outer:List Env) (s:Shared) (H:Hp) (args:Args) (us:List Value) (vs:List V) (Q:VK) (E:XK),z90 k A->Y01 P w K mg base A outer s H->BindsTo s fd args (ps.zip us)->Vals vs us->sp vs H Q E ->
  codeAny (model P w) A (.call (.ref f) args) (CR CX outer P w H s Q E) s
section
variable {X:Cx}{pins:List (Ç × Obj)}{σ:St}{H:Hp}{s s':Æ}
theorem Inv.D22(I:Inv X pins σ H s):Y01 X.prog X.w X.K X.mg X.base X.A X.stack s H :=
 ⟨I.ok.frames,I.ok.mod,I.bs,Ñ I.ok.bsz I.sz,I.stack,I.v80,I.hok,I.bare⟩
theorem Inv.after{Q:VK}{u:Ä}(I:Inv X pins σ H s)(h:CE X.stack X.prog X.w H s Q u s'):EP X pins σ Q u s':=by
 obtain⟨v,H',os,bare,un,hok,r,q⟩:=h;obtain⟨hh,g,d,t,os'⟩:=s';obtain rfl:os'=s.os:=os;exact⟨v,H',I.call (h':=hh) (g':=g) (d':=d) (t':=t) (ch:=[]) un hok bare (λb z=>absurd z (by simp)),r,q⟩
end
def D32(sp:Sp)(dvs:List V)(E:XK)(t:TA):TE:=λσ H Q=>t σ H λvs H1=>sp (vs++dvs) H1 Q E
def Binds(K:Â)(fd:Å2)(ps:List Str)(ds:List Ä):Prop :=
 ∀ (s:Æ) (us:List Ä),K.In s.heap->(us++ds).length=ps.length->BindsTo s fd ⟨us,[]⟩ (ps.zip (us++ds))
theorem Binds.all{K:Â}{fd:Å2}{ps:List Str}(h:∀ us:List Ä,us.length=ps.length->bindArgs fd ⟨us,[]⟩=pure (ps.zip us)):Binds K fd ps []:=λs us _ hl=>by
 rw[append_nil] at hl ⊢;exact .of_eq (h us hl)
def Passes(CX:CXT)(X:Cx)(E:XK):Prop:=∀ (pins:List (Ç × Obj)) (σ:St) (H:Hp) (s:Æ) (e:Ä) (s':Æ),Inv X pins σ H s->CX X.stack H s E e s'->X.xe e s'
section
variable {X:Cx}{CX:CXT}{k:Nat}{f C:Ç}{fd:Å2}{ps:List Str}{sp:Sp}{dvs:List V}{ds:List Ä}{E:XK}{x m:Str}{p pos apos:Pos}{e o:Ï}{es:List Ï}{ta:TE}{t:TA}
theorem n22{pins:List (Ç × Obj)}{σ:St}{H:Hp}{s:Æ}{Q:VK}{us:List Ä}{vs:List V}(F:X50 X.prog X.w X.K X.mg X.base CX k f fd ps sp)(hr:z90 k X.A)(hb:Binds X.K fd ps ds)(hd:Vals dvs ds)(hx:Passes CX X E)
  (I:Inv X pins σ H s) (r:Vals vs us) (h:sp (vs++dvs) H Q E):Î (Ô X.prog X.w) X.A (call (.ref f) us) (EP X pins σ Q) X.xe s:=by
 have r2:Vals (vs++dvs) (us++ds):=r.append hd;have hl:(us++ds).length=ps.length:=by rw[← r2.length];exact F.len _ _ _ _ h
 refine Õ8 (È1 (F.run X.A X.stack s H ⟨us,[]⟩ (us++ds) (vs++dvs) Q E hr I.D22 (hb s us I.kIn hl) r2 h) λr s' hq=>?_);cases r with
 |error e=>exact hx pins σ H s e s' I hq
 |ok fl =>
  cases fl with
  |ret u=>exact I.after hq|next=>exact À2 hq
  |brk=>exact À2 hq|cont=>exact À2 hq
theorem Y11(F:X50 X.prog X.w X.K X.mg X.base CX k f fd ps sp)(hr:z90 k X.A)(hg:Gl X x)(hm:X.mg x=some (.ref f))(hk:Ó6 X.K (.ref f)=true)(hb:Binds X.K fd ps ds)(hd:Vals dvs ds)(hx:Passes CX X E)
  (ha:PA X (e::es) t) (hdb:(x == ("__debug__":Str))=false:=by decide) (he:þ (e::es) X.env=(false,eval e X.env)::þ es X.env:=by rfl) (hpl:(Õ9 pos (þ es X.env)).any (·.1)=false:=by rfl) :
  PE X (.Call (.Name x p) (e::es) [] pos) (D32 sp dvs E t):=by
 intro pins s σ H Q I h;refine Ë8 (I90 I hg hm ?_ hdb);refine callWith_K (h₀:=X.base) I.ok.mod.kin hk (thn (ha pos pins s σ H _ I h) λus s1 ⟨vs,H1,I1,r,q⟩=>⟨I1.kIn,?_⟩) he hpl;exact n22 F hr hb hd hx I1 r q
end
structure k20(N P:List Str)(sc:Scope):Prop where
 kind:sc.kind=.function
 co:sc.isCoroutine=false
 gen:sc.isGenerator=false
 nd:N.Nodup
 pre:N.take P.length=P
 par:∀ x∈P,sc.names.lookup x=some .local∨sc.names.lookup x=some .cell
 nofree:∀ y∈sc.names,y.2≠.free
theorem Q20{kindOf:Str->Option Ë3}{x:Str}:∀ {binds:List (Str × Ä)}{m:Str->Option Ä},(∀ v,(x,v) ∉ binds)->bindL kindOf binds m x=m x
 |[],_,_=>rfl
 |(n,v)::r,m,h=>by
  unfold bindL;rw[Q20 λw hw=>h w (È _ hw)];split
  ·have:x≠n:=by rintro rfl;exact h v Ì
   simp[this]
  ·rfl
theorem Q30{kindOf:Str->Option Ë3}{x:Str}:∀ {binds:List (Str × Ä)}{m:Str->Option Ä},(∀ v,(x,v) ∉ binds)->bindC kindOf binds m x=m x
 |[],_,_=>rfl
 |(n,v)::r,m,h=>by
  unfold bindC;rw[Q30 λw hw=>h w (È _ hw)];split
  ·rfl
  ·have:x≠n:=by rintro rfl;exact h v Ì
   simp[this]
theorem Q40{kindOf:Str->Option Ë3}{x:Str}{v:Ä}:∀ {P:List Str}{vs:List Ä}{i:Nat}{m:Str->Option Ä},P.Nodup->P[i]?=some x->vs[i]?=some v->kindOf x=some .local ->
  bindL kindOf (P.zip vs) m x=some v
 |[],_,_,_,_,h,_,_=>by simp at h|_::_,[],_,_,_,_,h,_=>by simp at h
 |p::P,w::vs,0,m,nd,h1,h2,hk=>by
  simp at h1 h2;subst h1;subst h2;show bindL kindOf ((p,w)::P.zip vs) m p=_;unfold bindL;rw[Q20 λv hv=>(Ó9.mp nd).1 (of_mem_zip hv).1,if_pos hk];simp
 |p::P,w::vs,i + 1,m,nd,h1,h2,hk=>by
  show bindL kindOf ((p,w)::P.zip vs) m x=_;unfold bindL;exact Q40 (i:=i) (Ó9.mp nd).2 (by simpa using h1) (by simpa using h2) hk
theorem Q50{kindOf:Str->Option Ë3}{x:Str}{v:Ä}:∀ {P:List Str}{vs:List Ä}{i:Nat}{m:Str->Option Ä},P.Nodup->P[i]?=some x->vs[i]?=some v->kindOf x≠some .local ->
  bindC kindOf (P.zip vs) m x=some v
 |[],_,_,_,_,h,_,_=>by simp at h|_::_,[],_,_,_,_,h,_=>by simp at h
 |p::P,w::vs,0,m,nd,h1,h2,hk=>by
  simp at h1 h2;subst h1;subst h2;show bindC kindOf ((p,w)::P.zip vs) m p=_;unfold bindC;rw[Q30 λv hv=>(Ó9.mp nd).1 (of_mem_zip hv).1,if_neg hk];simp
 |p::P,w::vs,i + 1,m,nd,h1,h2,hk=>by
  show bindC kindOf ((p,w)::P.zip vs) m x=_;unfold bindC;exact Q50 (i:=i) (Ó9.mp nd).2 (by simpa using h1) (by simpa using h2) hk
def start(N:List Str)(vs:List V):St:=vs.map some++ì (N.length - vs.length) none
def F90(CX:CXT)(P:Ý)(w:è)(K:Â)(mg:Str->Option Ä)(base:é)(N:List Str)(qual:Str)(scope:ý)(f:Ç)(cd:Ä)(A:ö)(outer:List Env)(s:Æ)(H:Hp)(E:XK):Cx where
 prog:=P
 w:=w
 K:=K
 mg:=mg
 base:=base
 A:=A.deeper (Ï5 qual scope s.heap.objs.size f cd)
 N:=N
 s₀:=s
 H₀:=H
 env:=Ï5 qual scope s.heap.objs.size f cd
 outer:=outer
 stack:=Ï5 qual scope s.heap.objs.size f cd::outer
 ex:=[]
 calm:=true
 fn:=λ_=>true
 pn:=[]
 xe:=λe s'=>Î (Ô P w) (A.deeper (Ï5 qual scope s.heap.objs.size f cd)) (leaving (Ï5 qual scope s.heap.objs.size f cd) e) (λ_ s''=>CX outer H s E e s'') (λe' s''=>CX outer H s E e' s'') s'
theorem e11{sc:ý}{n:Nat}{x:Str}(h:sc.names.lookup x=some .cell):∃ c,(cellsFrom n sc.names []).lookup x=some c:=by
 have q:=cellsFrom_some sc.names n [] (.inl h);exact Þ3.mp q
theorem Q60{CX:CXT}{P:Ý}{w:è}{K:Â}{mg:Str->Option Ä}{base:é}{N ps:List Str}{qual:Str}{scope:ý}{f:Ç}{cd:Ä}{A:ö}{outer:List Env}{s s1:Æ}{H:Hp}{E:XK}{us:List Ä}{vs:List V}
  (S:k20 N ps scope) (hd:A.handled=none) (e0:Y01 P w K mg base A outer s H) (hl:vs.length=ps.length) (r:Vals vs us)
  (x:InCallC s s.heap.objs.size (bindL (Ï5 qual scope s.heap.objs.size f cd).kindOf (ps.zip us) λ_=>none) (cellsFrom (s.heap.objs.size + 1) scope.names []) (bindC (Ï5 qual scope s.heap.objs.size f cd).kindOf (ps.zip us) λ_=>none) s1) :
  Inv (F90 CX P w K mg base N qual scope f cd A outer s H E) [] (start N vs) H s1:=by
 have hpl:ps.length<=N.length:=by have:=congrArg List.length S.pre;rw[Æ7] at this;omega
 obtain⟨h1,tk,rfl,hk⟩:=x.done;have noA:∀ b:Ç,b ∉ (F90 CX P w K mg base N qual scope f cd A outer s H E).ex:=λb z=>absurd (show b∈([]:List Ç) from z) (by simp)
 refine⟨⟨e0.mod,S.kind,rfl,rfl,Í _,λy z c h1 h2=>?_,λy hy=>?_,λy c _ h=>?_,λ_=>hd,à9 e0.frames,.inr ⟨rfl,rfl⟩,λb z=>absurd z (noA b),e0.bs,e0.bsz,λb _ _=>noA b,λb z=>absurd z (noA b),e0.k61,e0.frf⟩,
  rfl,e0.bare,Un.kept hk,⟨_,x.toInCall.ns,λi y v h1 h2 h3=>?_⟩,λy c h=>⟨_,x.cell y c h⟩,e0.hok.fresh (Í _),λy c h=>?_,λp hp=>absurd (show p∈([]:List (Ç × Obj)) from hp) (by simp),e0.hok.kept hk,?_⟩
 ·exact name_of_addr x.apart (Â4 h1) (Â4 h2)
 ·have hy:scope.names.lookup y=some .cell∨scope.names.lookup y=some .free:=hy;rcases hy with hy | hy
  ·exact e11 hy
  ·exact absurd rfl (S.nofree _ (Â4 hy))
 ·exact É2 (x.above y c (Â4 h))
 ·have hi:i < vs.length:=by
   unfold start at h2;by_cases hi:i < vs.length
   ·exact hi
   ·rw[Å4 (by simpa using hi)] at h2
    rw[Ò5] at h2;split at h2 <;> cases h2
  have ha:vs[i]?=some v:=by
   unfold start at h2;rw[Ð3 (by simpa using hi),Ü] at h2
   cases e:vs[i]? with
   |none=>rw[e] at h2;cases h2
   |some a=>rw[e] at h2;cases h2;rfl
  obtain⟨u,hu,rv⟩:=r.get ha;have hp:ps[i]?=some y:=by
   rw[← S.pre,List.getElem?_take_of_lt ∅];exact h1
  have ndP:ps.Nodup:=by rw[← S.pre];exact S.nd.sublist (List.take_sublist _ _)
  refine⟨u,rv,?_⟩;rcases S.par y (î hp) with k | k
  ·exact .inl ⟨k,Q40 ndP hp hu k⟩
  ·obtain⟨c,e⟩:=e11 (n:=s.heap.objs.size + 1) k;refine .inr ⟨.inl k,c,e,?_⟩;have q:=x.cell y c e;rw[Q50 ndP hp hu (by show scope.names.lookup y≠_;rw[k];decide)] at q
   exact q
 ·exact e0.hok.fresh (É2 (x.above y c (Â4 h)))
 ·unfold start;show _=N.length;rw[Á9,É,á2];omega
theorem D42{CX:CXT}{P:Ý}{w:è}{K:Â}{mg:Str->Option Ä}{base:é}{k:Nat}{f:Ç}{name qual:Str}{params:Î0}{body:List Ä8}{scope:ý}{dV kV doc pm cdv ct oc:Ä}{an od:Option Ç}
  {osl:Array (Option Ä)}{N ps:List Str}{sp:Sp} (lk:K.lookup f=some ⟨oc,od,.func (fnOf name qual params body scope dV kV doc pm an cdv ct),osl⟩) (hcd:PySem.W.codeIn K cdv qual=true) (S:k20 N ps scope)
  (len:∀ vs H Q E,sp vs H Q E->vs.length=ps.length)
  (hbody:∀ (A:ö) (outer:List Env) (s:Æ) (H:Hp) (vs:List V) (Q:VK) (E:XK),z90 k (A.deeper (Ï5 qual scope s.heap.objs.size f cdv))->sp vs H Q E ->
   ∃ t,PSs (F90 CX P w K mg base N qual scope f cdv A outer s H E) body t/\t { nx:=λ_ H'=>Q .non H',rt:=Q } (start N vs) H) :
  X50 P w K mg base CX (k + 1) f (fnOf name qual params body scope dV kV doc pm an cdv ct) ps sp:=by
 refine⟨len,λA outer s H args us vs Q E hr e0 hb r hsp=>?_⟩;have hl:=len _ _ _ _ hsp;have KX:K.In s.heap:=e0.mod.kin.keeps λb o e=>(e0.bs b o e).1;have lim:s.heap.NoLimit:=e0.mod.nolimit.keeps λb o e=>(e0.bs b o e).1;have hkind:∀ y∈ps.zip us,scope.names.lookup y.1=some .local∨(scope.names.lookup y.1=some .cell/\((cellsFrom (s.heap.objs.size + 1) scope.names []).lookup y.1).isSome=true):=λ⟨n,v⟩ hy=>by
  rcases S.par n (of_mem_zip hy).1 with q | q
  ·exact .inl q
  ·exact .inr ⟨q,cellsFrom_some _ _ _ (.inl q)⟩
 refine codeAny_call_function hr.depth (KX _ _ lk) rfl S.co S.gen rfl (codeRec_of KX hcd) (hb _ _ _ _ ?_);refine á0 S.kind hkind λenv he s1 x=>?_;subst he;refine⟨lim.keeps x.toInCall.keep,codeAny_func ?_⟩;obtain⟨t,ht,hq⟩:=hbody A outer s H vs Q E (hr.deeper _) hsp;have I:Inv (F90 CX P w K mg base N qual scope f cdv A outer s H E) [] (start N vs) H s1:=Q60 S hr.hd e0 hl r x;refine Â1 (ht [] s1 (start N vs) H _ I hq) (λfl s' hs=>?_) λe s' hs=>hs;have fin:∀ {σ':St}{H':Hp}{v:V}{u:Ä},Inv (F90 CX P w K mg base N qual scope f cdv A outer s H E) [] σ' H' s'->RelV v u->Q v H'->CE outer P w H s Q u s' :=
  λ{σ' H' v u} J rv q=>⟨v,H',J.os,J.bare,J.base,J.hok,rv,q⟩
 cases fl with
 |ret u =>
  obtain⟨v,σ',H',J,rv,q⟩:=hs;exact fin J rv q
 |next =>
  obtain⟨σ',H',J,q⟩:=hs;exact fin (v:=V.non) (u:=â) J rfl q
 |brk =>
  obtain⟨_,_,_,q⟩:=hs;exact À2 q
 |cont =>
  obtain⟨_,_,_,q⟩:=hs;exact À2 q
section
variable {X:Cx}{x:Str}{p pos:Pos}{e:Ï}{es:List Ï}{t:TA}{id T:String}{r:List V->Hp->VK->Prop}
def tCB(r:List V->Hp->VK->Prop)(t:TA):TE:=λσ H Q=>t σ H λvs H1=>r vs H1 Q
theorem t50(hc:g70 X (.builtin id) r)(hg:Gl X x)(hm:X.mg x=none)(hv:ï x=some (.builtin id))(ha:PA X (e::es) t)(hn:x≠"__name__":=by decide)(hdb:(x == ("__debug__":Str))=false:=by decide)
  (he:þ (e::es) X.env=(false,eval e X.env)::þ es X.env:=by rfl) (hpl:(Õ9 pos (þ es X.env)).any (·.1)=false:=by rfl):PE X (.Call (.Name x p) (e::es) [] pos) (tCB r t):=by
 intro pins s σ H Q I h;refine Ë8 (t30 I hg hm hv ?_ hn hdb);exact PyProof.Rows.callWith_builtin1 (thn (ha pos pins s σ H _ I h) λus s1 ⟨vs,H1,I1,r1,q1⟩=>hc pins s1 σ H1 vs us Q I1 r1 q1) he hpl
theorem Q70(hc:g70 X (.type T) r)(hg:Gl X x)(hm:X.mg x=none)(hv:ï x=some (.type T))(ha:PA X (e::es) t)(hn:x≠"__name__":=by decide)(hdb:(x == ("__debug__":Str))=false:=by decide)
  (he:þ (e::es) X.env=(false,eval e X.env)::þ es X.env:=by rfl) (hpl:(Õ9 pos (þ es X.env)).any (·.1)=false:=by rfl):PE X (.Call (.Name x p) (e::es) [] pos) (tCB r t):=by
 intro pins s σ H Q I h;refine Ë8 (t30 I hg hm hv ?_ hn hdb);exact Á1 (thn (ha pos pins s σ H _ I h) λus s1 ⟨vs,H1,I1,r1,q1⟩=>hc pins s1 σ H1 vs us Q I1 r1 q1) he hpl
end
end L2
namespace HT
open PySem PyProof.Rows
theorem I11(A:ö)(s:Æ)(a:Int)(t:Tok)(c:Int)(u:Tok):∃ e,Ö7 A s (.int a t) (.int c u) e/\(e=true↔a=c) :=
 ⟨(a == c),Ö7.int_int a t c u,by simp⟩
theorem e21(A:ö)(s:Æ)(a:Int)(t:Tok)(c:Int)(u:Tok)(prog:Ý)(w:è)(E:Ä->Æ->Prop)(Q:Ä->Æ->Prop)(h:Q (.bool (decide (a < c))) s) :
  Î (Ô prog w) A (richCompare .Lt (.int a t) (.int c u)) Q E s :=
 (lt_int h:Î (Ô prog w) A (ü .Lt (.int a t) (.int c u)) Q E s)
section
variable {prog:Ý}{w:è}{A:ö}{E:Ä->Æ->Prop}{s:Æ}
theorem Y21{t b:Ç}{vs ws:List Ä}{Q:Ä->Æ->Prop}(ht:Ï0 s.heap t vs.toArray)(hb:Ï0 s.heap b ws.toArray)(hv:vs≠[])
  (h1:ws=[]->Q (.ref t) s) (h2:ws≠[]->Q (.ref s.heap.objs.size) { s with heap:=s.heap.push { cls:=.type "tuple",data:=.seq (vs++ws).toArray } })
  (hsz:vs.length + ws.length<=Ú):Î (Ô prog w) A (Ä2 .Add (.ref t) (.ref b)) Q E s:=by
 obtain⟨⟨cls,dd,data,sl⟩,ho,hc,n,hd⟩:=id ht;obtain⟨⟨cls2,dd2,data2,sl2⟩,ho2,hc2,n2,hd2⟩:=id hb;simp only at hc hd hc2 hd2;subst hc hd hc2 hd2;have e:vs.toArray++ws.toArray=(vs++ws).toArray:=by simp
 by_cases hw:ws=[]
 ·exact concat_meets ⟨_,ho,rfl⟩ ⟨_,ho2,rfl⟩ ß0 seq_tuple_add Ò0 Ð8 (Ï6 _ _)
   (tuple_addW1 t b vs.toArray ws.toArray n n2 dd dd2 sl sl2 (by simpa using hv) (by simp[hw])) ⟨ho,ho2,h1 hw⟩
 ·refine concat_meets ⟨_,ho,rfl⟩ ⟨_,ho2,rfl⟩ ß0 seq_tuple_add Ò0 Ð8 (Ï6 _ _)
   (tuple_addW2 t b vs.toArray ws.toArray n n2 dd dd2 sl sl2 (by simpa using hv) (by simpa using hw) (by rw[Ó,Ó];exact hsz)) ⟨ho,ho2,?_⟩
  rw[e];exact h2 hw
def sIx(n d:Nat):Option Int->Nat
 |none=>d|some v=>if v < 0 then(v + (n:Int)).toNat else min v.toNat n
theorem r01(n d k:Nat):sIx n d (some (k:Int))=min k n:=by
 show(if (k:Int) < 0 then((k:Int) + (n:Int)).toNat else min (k:Int).toNat n)=min k n;rw[if_neg ∅,Á8]
theorem n32(n d:Nat)(hd:d<=n)(o:Option Int):sIx n d o<=n:=by
 cases o with
 |none=>exact hd
 |some v =>
  show(if v < 0 then(v + (n:Int)).toNat else min v.toNat n)<=n;by_cases hv:v < 0
  ·rw[if_pos hv];omega
  ·rw[if_neg hv];exact Nat.min_le_right _ _
theorem r11(v:Int)(n d:Nat):(if v < 0 then max (v + (n:Int)) 0 else min v (n:Int))=((sIx n d (some v):Nat):Int):=by
 show(if v < 0 then max (v + (n:Int)) 0 else min v (n:Int))=(((if v < 0 then(v + (n:Int)).toNat else min v.toNat n):Nat):Int);by_cases hv:v < 0
 ·simp only[if_pos hv];omega
 ·simp only[if_neg hv];omega
theorem k91(lo hi:Option Int)(n:Nat):Í1 lo hi 1 (n:Int)=(((sIx n 0 lo:Nat):Int),((sIx n n hi:Nat):Int)):=by
 have h1:¬ ((1:Int) < 0):=by omega
 unfold Í1;simp only[h1,if_false];refine Prod.ext ?_ ?_
 ·cases lo with
  |none=>rfl|some v=>exact r11 v n 0
 ·cases hi with
  |none=>rfl|some v=>exact r11 v n n
theorem l01(i j:Nat):È8 (i:Int) (j:Int) 1=j - i:=by
 unfold È8;have h1:(1:Int) > 0:=by omega
 simp only[h1,if_true,Int.ediv_one];split <;> omega
theorem G40{v:Ä}{o:Option Int}{Q:Option Int->Æ->Prop}(p:Ù2 v o)(h:Q o s):Î (Ô prog w) A (ÿ.Slice.slicePartIndex v) Q E s:=by
 cases p with
 |none=>exact Ø7 h|int i t=>exact slicePart_int h
theorem m80{sl:Ç}{vl vu:Ä}{lo hi:Option Int}{n:Nat}{Q:Int × Int × Nat->Æ->Prop}(hs:s.heap.IsSliceOf sl vl vu .none)(pl:Ù2 vl lo)(pu:Ù2 vu hi)
  (h:Q (((sIx n 0 lo:Nat):Int),1,sIx n n hi - sIx n 0 lo) s):Î (Ô prog w) A (Ô4 (.ref sl) (pure (n:Int))) Q E s:=by
 obtain⟨os,hos,hcs,hds⟩:=id hs;unfold Ô4 sliceFields;refine À (À (Á5 hos hds (x:=vl) rfl (À (Á5 hos hds (x:=vu) rfl (À (Á5 hos hds (x:=.none) rfl (Å ?_)))))));refine À (Ø7 ?_);show Î _ _ (if ((1:Int) == 0)=true then _ else _) _ _ s;rw[if_neg (-0)]
 refine À (G40 pl (À (G40 pu (À (Å ?_)))));show Î _ _ (match Í1 lo hi 1 (n:Int) with | (lo,hi)=>pure (lo,(1:Int),È8 lo hi 1)) _ _ s
 rw[k91 lo hi n];show Î _ _ (pure (((sIx n 0 lo:Nat):Int),(1:Int),È8 ((sIx n 0 lo:Nat):Int) ((sIx n n hi:Nat):Int) 1)) _ _ s;rw[l01];exact Å h
theorem I21(xs:Array Ä)(i k:Nat):((ë k).filterMap λ(m:Nat)=>xs[((i:Int) + (m:Int) * 1).toNat]?).toArray=((xs.toList.drop i).take k).toArray:=by
 have e:(λ(m:Nat)=>xs[((i:Int) + (m:Int) * 1).toNat]?)=λm=>xs[i + m]?:=by
  funext m
  have:((i:Int) + (m:Int) * 1).toNat=i + m:=by omega
  rw[this]
 rw[e];have:=pick_run xs i k;rw[List.filterMap_map] at this;have e2:((λx=>xs[x]?) ∘ λx=>i + x)=λm=>xs[i + m]?:=rfl;rw[e2] at this;rw[this]
theorem v90{t sl:Ç}{items:Array Ä}{vl vu:Ä}{lo hi:Option Int}{Q:Ä->Æ->Prop}(ht:Ï0 s.heap t items)(hs:s.heap.IsSliceOf sl vl vu .none)(pl:Ù2 vl lo)(pu:Ù2 vu hi)
  (hw:¬ (sIx items.size 0 lo=0/\sIx items.size items.size hi=items.size))
  (h:Q (.ref s.heap.objs.size) { s with heap:=s.heap.push { cls:=.type "tuple",data:=.seq ((items.toList.drop (sIx items.size 0 lo)).take (sIx items.size items.size hi - sIx items.size 0 lo)).toArray } })
  (hsz:items.size<=Ú):Î (Ô prog w) A (Ó2 (.ref t) (.ref sl)) Q E s:=by
 have htake:sizeOk (.seq ((items.toList.drop (sIx items.size 0 lo)).take (sIx items.size items.size hi - sIx items.size 0 lo)).toArray):=by
  show((items.toList.drop (sIx items.size 0 lo)).take (sIx items.size items.size hi - sIx items.size 0 lo)).toArray.size<=Ú;rw[Ó,Æ7,Í2,Ê4];omega
 have hj:sIx items.size items.size hi<=items.size:=n32 _ _ (Í _) hi;obtain⟨os,hos,hcs,hds⟩:=id hs;have hTs:s.TypeIs (.ref sl) "slice":=⟨os,hos,hcs⟩;unfold Ó2
 try with_reducible refine À7 ?_
 first | refine À (Å ?_) | skip
 refine À (Ý1 ht.typeIs (-0) ?_)
 refine À (À5 (name:=À9 "__getitem__") ht.typeIs ò
  (À4 ò ht.typeIs entry_tuple_getitem ?_ (Ü2 _ _)))
 show Î _ _ (tupleItemsOf (.ref t) >>= _) _ _ s;refine À (tupleItemsOf_ ht ?_);refine À (Ç7 hTs ?_);rw[if_pos (-0)]
 refine À (m80 hs pl pu ?_);have hno:¬ ((((sIx items.size 0 lo:Nat):Int) == 0&&(1:Int) == 1&&(sIx items.size items.size hi - sIx items.size 0 lo) == items.size)=true):=by
  intro q;rw[Á,Á] at q;have q1:((sIx items.size 0 lo:Nat):Int)=0:=eq_of_beq q.1.1;have q2:sIx items.size items.size hi - sIx items.size 0 lo=items.size:=eq_of_beq q.2;exact hw ⟨by omega,by omega⟩
 show Î _ _ (if (((sIx items.size 0 lo:Nat):Int) == 0&&(1:Int) == 1&&(sIx items.size items.size hi - sIx items.size 0 lo) == items.size)=true then _ else _) _ _ s;rw[if_neg hno,I21]
 first
  |exact À (m:=Ç0 _) (æ (Å ⟨_,rfl,Å h⟩) htake)
  |exact À (m:=Ç0 _) (æ (À (Å (Å ⟨_,rfl,Å h⟩))) htake)
  |exact À (À (m:=Ç0 _) (æ (Å (Å ⟨_,rfl,Å h⟩)) htake))
  |exact À (À (m:=Ç0 _) (æ (Å ⟨_,rfl,Å h⟩) htake))
end
end HT
namespace L2
open PySem PySem.Spec PyProof.Rows
abbrev TO:=St->Hp->(Option Int->Hp->Prop)->Prop
def PO(X:Cx)(e:Option Ï)(t:TO):Prop :=
 ∀ (pins:List (Ç × Obj)) (s:Æ) (σ:St) (H:Hp) (Q:Option Int->Hp->Prop),Inv X pins σ H s->t σ H Q ->
  Î (Ô X.prog X.w) X.A (evalPart e X.env) (λu s'=>∃ o H',Inv X pins σ H' s'/\Ù2 u o/\Q o H') X.xe s
def Y31:TO:=λ_ H Q=>Q none H
def D52(t:TE):TO:=λσ H Q=>t σ H λx H1=>∃ i,x=.int i/\Q (some i) H1
theorem intsAre_of{ns:List Int}:∀ {us:List Ä},Vals (ns.map V.int) us->Ë5 us ns:=by
 induction ns with
 |nil=>intro us r;rw[map_nil] at r;cases r;exact .nil
 |cons n ns ih =>
  intro us r;rw[Å7] at r;cases r with
  |cons r1 r2 =>
   obtain⟨t,e⟩:=r1;subst e;exact .cons n t (ih r2)
section
variable {X:Cx}{e:Ï}{te:TE}{lo hi:Option Ï}{tl th:TO}{pos p2:Pos}
theorem Y41:PO X none Y31:=by
 intro pins s σ H Q I h;rw[evalPart_none];exact Å ⟨none,H,I,.none,h⟩
theorem Y51(h:PE X e te):PO X (some e) (D52 te):=by
 intro pins s σ H Q I hw;rw[evalPart_some];refine thn (h pins s σ H _ I hw) λu s1 ⟨x,H1,I1,r1,q1⟩=>?_;obtain⟨i,rfl,q⟩:=q1;obtain⟨t,rfl⟩:=r1;exact⟨some i,H1,I1,.int i t,q⟩
def SlR(X:Cx)(r:V->Option Int->Option Int->Hp->VK->Prop):Prop :=
 ∀ (pins:List (Ç × Obj)) (s:Æ) (σ:St) (H:Hp) (x:V) (v vl vu:Ä) (lo hi:Option Int) (sl:Ç) (Q:VK),Inv X pins σ H s->RelV x v->s.heap.IsSliceOf sl vl vu .none->Ù2 vl lo->Ù2 vu hi->r x lo hi H Q ->
  ∃ T id,typeLookup (.type T) "__getitem__"=pure (some (.builtin id))/\s.TypeIs v T/\Î (Ô X.prog X.w) X.A (Ó2 v (.ref sl)) (EP X pins σ Q) X.xe s
def tSl(r:V->Option Int->Option Int->Hp->VK->Prop)(te:TE)(tl th:TO):TE:=λσ H Q=>te σ H λx H1=>tl σ H1 λl H2=>th σ H2 λu H3=>r x l u H3 Q
theorem I31{r:V->Option Int->Option Int->Hp->VK->Prop}(hr:SlR X r)(he:PE X e te)(hl:PO X lo tl)(hu:PO X hi th):PE X (.Subscript e (.Slice lo hi none p2) pos) (tSl r te tl th):=by
 intro pins s σ H Q I h;refine Subscript_ (thn (he pins s σ H _ I h) λv s1 ⟨x,H1,I1,r1,q1⟩=>?_);refine wpAny_Slice (thn (hl pins s1 σ H1 _ I1 q1) λvl s2 ⟨l,H2,I2,pl,q2⟩=>thn (hu pins s2 σ H2 _ I2 q2) λvu s3 ⟨u,H3,I3,pu,q3⟩=>?_);rw[evalPart_none];refine Å ?_;have I4:Inv X pins σ H3 { s3 with heap:=s3.heap.push { cls:=.type "slice",data:=.fields #[vl,vu,.none] } }:=I3.kept (t':=s3.toks) λb ob q=>Ã _ q;obtain⟨T,id,hT,ht,hg⟩:=hr pins { s3 with heap:=s3.heap.push { cls:=.type "slice",data:=.fields #[vl,vu,.none] } } σ H3 x v vl vu l u s3.heap.objs.size Q I4 r1 (Ò7 ..) pl pu q3;show Î (Ô X.prog X.w) X.A (subscriptTail e (.Slice lo hi none p2) v (.ref s3.heap.objs.size)) (EP X pins σ Q) X.xe { s3 with heap:=s3.heap.push { cls:=.type "slice",data:=.fields #[vl,vu,.none] } };exact tail_any (ops:=[.ref s3.heap.objs.size,v]) ht hT hg (by with_unfolding_all rfl)
def I41(xs:List V)(lo hi:Option Int):List V:=(xs.drop (HT.sIx xs.length 0 lo)).take (HT.sIx xs.length xs.length hi - HT.sIx xs.length 0 lo)
theorem B30(xs:List V)(lo hi:Option Int):(I41 xs lo hi).length<=xs.length:=by
 unfold I41;rw[Æ7,Í2];omega
theorem Vals.J20{xs:List V}{us:List Ä}(r:Vals xs us):us=[]↔xs=[]:=by
 cases r with
 |nil=>simp|cons _ _=>simp
end
def ixN(n:Nat)(i:Int):Option Nat:=if 0<=i then(if i < n then some i.toNat else none) else if -(n:Int)<=i then some (i + n).toNat else none
def atI{α:Type}(xs:List α)(i:Int):Option α:=(ixN xs.length i).bind λj=>xs[j]?
theorem r21{n:Nat}{i:Int}{j:Nat}(h:ixN n i=some j):seqIndex? i n=some j/\j < n/\-(n:Int)<=i/\i < n:=by
 unfold ixN at h;by_cases h0:0<=i
 ·rw[if_pos h0] at h;by_cases h1:i < n
  ·rw[if_pos h1] at h;have e:i.toNat=j:=À6 h;exact⟨by rw[à0 h0 h1,e],by omega,by omega,h1⟩
  ·rw[if_neg h1] at h;cases h
 ·rw[if_neg h0] at h;by_cases h1:-(n:Int)<=i
  ·rw[if_pos h1] at h;have e:(i + n).toNat=j:=À6 h;exact⟨by rw[seqIndex_neg ∅ h1,e],by omega,h1,by omega⟩
  ·rw[if_neg h1] at h;cases h
theorem Y30{α:Type}{xs:List α}{i:Int}{v:α}(h:atI xs i=some v):∃ j,seqIndex? i xs.length=some j/\xs[j]?=some v/\j < xs.length/\-(xs.length:Int)<=i/\i < xs.length:=by
 unfold atI at h;cases e:ixN xs.length i with
 |none=>rw[e] at h;cases h
 |some j =>
  rw[e] at h;obtain⟨h1,h2,h3,h4⟩:=r21 e;exact⟨j,h1,h,h2,h3,h4⟩
theorem B40{α:Type}{xs:List α}{j:Nat}{v:α}(h:xs[j]?=some v):atI xs (j:Int)=some v:=by
 have hj:j < xs.length:=(ß.mp h).1;have e:ixN xs.length (j:Int)=some j:=by
  unfold ixN;rw[if_pos ∅,if_pos ∅];simp
 unfold atI;rw[e];exact h
def r31(b:Ï):Prop:=∀ o i,subscripted b false o i=operate [o,i] (Ó2 o i)
def IxR(X:Cx)(r:R2):Prop :=
 ∀ (value slice:Ï) (pins:List (Ç × Obj)) (s:Æ) (σ:St) (H:Hp) (x y:V) (v u:Ä) (Q:VK),Inv X pins σ H s->RelV x v->RelV y u->r x y H Q ->
  subscripted slice false v u=operate [v,u] (Ó2 v u)->Î (Ô X.prog X.w) X.A (subscriptTail value slice v u) (EP X pins σ Q) X.xe s
def MtR(X:Cx)(id:String)(r:V->List V->Hp->VK->Prop):Prop :=
 ∀ (pins:List (Ç × Obj)) (s:Æ) (σ:St) (H:Hp) (x:V) (xs:List V) (v:Ä) (us:List Ä) (Q:VK),Inv X pins σ H s->RelV x v->Vals xs us->r x xs H Q ->
  Î (Ô X.prog X.w) X.A (call (.builtin id) (v::us)) (EP X pins σ Q) X.xe s
section
variable {X:Cx}{a b:Ï}{ta tb:TE}{pos:Pos}
theorem Y61{r:R2}(hr:IxR X r)(ha:PE X a ta)(hb:PE X b tb)(hs:r31 b):PE X (.Subscript a b pos) (tOp r ta tb):=by
 intro pins s σ H Q I h;exact Subscript_ (C42 ha hb I h λv u s2 x y H2 I2 rx ry q=>hr a b pins s2 σ H2 x y v u Q I2 rx ry q (hs _ _))
def D62(K:Â):R2:=λx y H Q=>∃ p xs i v,x=.ref p/\y=.int i/\SqL K H p xs/\atI xs i=some v/\Q v H
def R22(K:Â):R2:=λx y H Q=>∃ p xs i v,x=.ref p/\y=.int i/\SqT K H p xs/\atI xs i=some v/\Q v H
theorem Y40:IxR X (D62 X.K):=by
 intro value slice pins s σ H x y v u Q I rx ry h hs;obtain⟨p,xs,i,z,rfl,rfl,hq,he,q⟩:=h;cases rx;obtain⟨t,rfl⟩:=ry;obtain⟨its,r,pl,hz⟩:=I.list hq;obtain⟨j,h1,h2,h3,h4,h5⟩:=Y30 he;obtain⟨w,ew,rw'⟩:=r.get h2;have hl:=r.length;have hn:=Q00;have fin:EP X pins σ Q w s:=⟨z,H,I,rw',q⟩;by_cases h0:0<=i
 ·have hj:i.toNat=j:=by
   rw[à0 h0 h5] at h1;exact À6 h1
  exact item_listR pl.isList h0 ∅ (by rw[hj];simpa using ew) fin hs
 ·have hj:(i + (its.toArray.size:Int)).toNat=j:=by
   rw[seqIndex_neg ∅ h4] at h1
   rw[Ó,← hl];exact À6 h1
  exact subscriptTail_builtinR (x:=w) pl.isList.typeIs slot_list_getitem.lookup
   (wpAny_getItem_list_neg (Q:=λr s'=>r=w/\EP X pins σ Q r s') pl.isList ∅ (by rw[Ó] <;> omega) ∅ (by rw[hj];simpa using ew) ⟨rfl,fin⟩) hs
theorem n42:IxR X (R22 X.K):=by
 intro value slice pins s σ H x y v u Q I rx ry h hs;obtain⟨p,xs,i,z,rfl,rfl,hq,he,q⟩:=h;cases rx;obtain⟨t,rfl⟩:=ry;obtain⟨its,r,pl,hz⟩:=I.tuple hq;obtain⟨j,h1,h2,h3,h4,h5⟩:=Y30 he;obtain⟨w,ew,rw'⟩:=r.get h2;have hl:=r.length;have hn:=Q00;have fin:EP X pins σ Q w s:=⟨z,H,I,rw',q⟩;exact subscriptTail_builtinR (x:=w) pl.typeIs slot_tuple_getitem.lookup
  (getItem_tuple (j:=j) (Q:=λr s'=>r=w/\EP X pins σ Q r s') pl ∅ ∅ (by rw[Ó,← hl];exact h1) (by simpa using ew) ⟨rfl,fin⟩) hs
theorem l11(its:List Ä)(n j:Nat)(u:Ä):À0 (·.setIfInBounds j u) { cls:=.type "list",data:=.seq its.toArray n }={ cls:=.type "list",data:=.seq (its.set j u).toArray n }:=by
 simp[À0]
theorem Inv.lst{pins:List (Ç × Obj)}{σ:St}{H:Hp}{s:Æ}{p:Ç}{xs:List V}(I:Inv X pins σ H s)(h:H p=some (.lst xs)) :
  ∃ (its:List Ä) (n:Nat),Vals xs its/\s.heap.get? p=some { cls:=.type "list",data:=.seq its.toArray n }/\xs.length<=sizeLine:=by
 obtain⟨z,its,n,r,e⟩:=I.hok p _ h;exact⟨its,n,r,e,z⟩
theorem Inv.n52{pins:List (Ç × Obj)}{σ:St}{H:Hp}{s:Æ}{p:Ç}{xs ys:List V}{its its':List Ä}{n n':Nat}{f:Obj->Obj}(I:Inv X pins σ H s)(h:H p=some (.lst xs))
  (ho:s.heap.get? p=some { cls:=.type "list",data:=.seq its.toArray n }) (hf:f { cls:=.type "list",data:=.seq its.toArray n }={ cls:=.type "list",data:=.seq its'.toArray n' }) (r:Vals ys its') (hz:ys.length<=Ú) (t:Nat) :
  Inv X pins σ (upd H p (.lst ys)) { s with heap:=s.heap.update p f,toks:=t }:=by
 have e:(s.heap.update p f).get? p=some { cls:=.type "list",data:=.seq its'.toArray n' }:=by
  rw[Ç6 f ho (by rw[hf] <;> rfl),hf]
 refine I.write (x:=p) (e:=p) (by rw[h];trivial) (.inl rfl) (λb u hb q=>(Ë6 _ _ (Â3 hb)).trans q) ⟨_,e⟩ ?_
 exact⟨hz,its',n',r,e⟩
def D72:V->V->V->Hp->(Hp->Prop)->Prop:=λo i v H Q=>∃ p xs k j,o=.ref p/\i=.int k/\H p=some (.lst xs)/\ixN xs.length k=some j/\Q (upd H p (.lst (xs.set j v)))
theorem set_list:B92 X D72:=by
 intro pins s σ H o i v ov iv u Q I ro ri rv h;obtain⟨p,xs,k,j,rfl,rfl,hp,hj,q⟩:=h;cases ro;obtain⟨t,rfl⟩:=ri;obtain⟨its,n,r,ho,hz⟩:=I.lst hp;obtain⟨h1,h2,h3,h4⟩:=r21 hj;have hl:=r.length;have hn:=Q00;have I':Inv X pins σ (upd H p (.lst (xs.set j v))) { s with heap:=s.heap.update p (À0 (·.setIfInBounds j u)) } :=
  I.n52 hp ho (l11 its n j u) (r.set rv j) (by rw[Ä1];exact hz) s.toks
 by_cases h0:0<=k
 ·have hk:k.toNat=j:=by
   rw[à0 h0 h4] at h1;exact À6 h1
  exact PySem.W.ki_setAt ho h0 ∅ (by rw[Ó,← hl];exact h4) (by rw[hk];exact⟨_,I',q⟩)
 ·have hk:(k + (its.toArray.size:Int)).toNat=j:=by
   rw[seqIndex_neg ∅ h3] at h1
   rw[Ó,← hl];exact À6 h1
  exact PySem.W.ki_setBack ho ∅ (by rw[Ó,← hl];exact h3) ∅ (by rw[hk];exact⟨_,I',q⟩)
theorem Q80(lo hi:Option Int)(n:Nat):(Î5 lo hi none n).1=((HT.sIx n 0 lo:Nat):Int)/\(Î5 lo hi none n).2.1=((HT.sIx n n hi:Nat):Int)/\(Î5 lo hi none n).2.2=1:=by
 refine⟨?_,?_,rfl⟩
 ·cases lo with
  |none=>simp[Î5,HT.sIx]
  |some i =>
   simp only[Î5,HT.sIx,getD_none,show(1:Int) > 0 by decide,if_true]
   by_cases h:i < 0
   ·simp only[h,if_true] <;> omega
   ·simp only[h,if_false] <;> omega
 ·cases hi with
  |none=>simp[Î5,HT.sIx]
  |some i =>
   simp only[Î5,HT.sIx,getD_none,show(1:Int) > 0 by decide,if_true]
   by_cases h:i < 0
   ·simp only[h,if_true] <;> omega
   ·simp only[h,if_false] <;> omega
theorem J30(its:List Ä)(lo hi:Option Int):slicePick its.toArray lo hi none=((its.drop (HT.sIx its.length 0 lo)).take (HT.sIx its.length its.length hi - HT.sIx its.length 0 lo)).toArray:=by
 obtain⟨h1,h2,h3⟩:=Q80 lo hi its.toArray.size;unfold slicePick;rw[h1,h2,h3];simp only[sliceRange_one,pick_run,Ó] <;> rfl
def R32(K:Â):V->Option Int->Option Int->Hp->VK->Prop:=λx lo hi H Q=>∃ a xs,x=.ref a/\SqL K H a xs/\∀ p,H p=none->Q (.ref p) (upd H p (.lst (I41 xs lo hi)))
theorem Y71:SlR X (R32 X.K):=by
 intro pins s σ H x v vl vu lo hi sl Q I rx hs pl pu h;obtain⟨a,xs,rfl,hx,q⟩:=h;cases rx;obtain⟨its,r,ht,hz⟩:=I.list hx;have hlen:=r.length;refine⟨"list",_,slot_list_getitem.lookup,ht.isList.typeIs,?_⟩;refine wpAny_getItem_list_slice ht.isList hs pl pu .none (by simp) ?_ (by rw[Ó] <;> omega)
 rw[J30,← hlen];refine⟨.ref s.heap.objs.size,_,I.laid (t':=s.toks) (o:=.lst (I41 xs lo hi)) (λb ob q=>Ã _ q) (Í _) ?_,rfl,q _ (I.hok.fresh (Í _))⟩;exact⟨Ñ (B30 xs lo hi) hz,_,0,(r.drop (HT.sIx xs.length 0 lo)).take (HT.sIx xs.length xs.length hi - HT.sIx xs.length 0 lo),Ê _ rfl⟩
theorem Q90:g70 X (.builtin "len") (λxs H Q=>∃ p ys,xs=[.ref p]/\(SqL X.K H p ys∨SqT X.K H p ys)/\Q (.int ys.length) H):=by
 intro pins s σ H xs us Q I r h;obtain⟨p,ys,rfl,hq,q⟩:=h;obtain⟨u,rfl,rx⟩:=vals1 r;cases rx;have hn:=Q00;rcases hq with hq | hq
 ·obtain⟨its,r',pl,hz⟩:=I.list hq;have hlen:=r'.length;exact Calls.call_len_list pl.isList (by simp only[Ó] <;> omega) ⟨.int ys.length,H,I.tok _,⟨s.toks + 1,by rw[Ó,hlen]⟩,q⟩
 ·obtain⟨its,r',pl,hz⟩:=I.tuple hq;have hlen:=r'.length;exact len_tuple pl (by simp only[Ó] <;> omega) ⟨.int ys.length,H,I.tok _,⟨s.toks + 1,by rw[Ó,hlen]⟩,q⟩
theorem R00:g70 X (.type "list") (λxs H Q=>∃ p ys,xs=[.ref p]/\(SqL X.K H p ys∨SqT X.K H p ys)/\∀ l,H l=none->Q (.ref l) (upd H l (.lst ys))):=by
 intro pins s σ H xs us Q I r h;obtain⟨p,ys,rfl,hq,q⟩:=h;obtain⟨u,rfl,rx⟩:=vals1 r;cases rx;have fin:∀ (its:List Ä),Vals ys its->ys.length<=Ú->∀ (h':é) (c':Nat),(∀ b o',s.heap.get? b=some o'->h'.get? b=some o') ->
   h'.get? s.heap.objs.size=some { cls:=.type "list",dict:=none,data:=.seq its.toArray c',slots:=#[] }->EP X pins σ Q (.ref s.heap.objs.size) { s with heap:=h' }:=λits r' hz h' c' kp e =>
  ⟨.ref s.heap.objs.size,_,I.laid (t':=s.toks) kp (Í _) (show h40 X.prog X.w _ h' _ (.lst ys) from⟨hz,its,c',r',e⟩),rfl,q _ (I.hok.fresh (Í _))⟩
 rcases hq with hq | hq
 ·obtain⟨its,r',pl,hz⟩:=I.list hq;have hlen:=r'.length;obtain⟨o,ho,hc,n,hd⟩:=pl.isList;exact call_list_seq p (.inl rfl) ho hc hd (λh' c' kp e=>fin its r' hz h' c' kp e) (by simp only[Ó] <;> omega)
 ·obtain⟨its,r',pl,hz⟩:=I.tuple hq;have hlen:=r'.length;obtain⟨o,ho,hc,n,hd⟩:=pl;exact call_list_seq p (.inr rfl) ho hc hd (λh' c' kp e=>fin its r' hz h' c' kp e) (by simp only[Ó] <;> omega)
theorem J40:g70 X (.type "tuple") (λxs H Q=>∃ p ys,xs=[.ref p]/\((SqL X.K H p ys/\∀ l,H l=none->Q (.ref l) (upd H l (.tup ys)))∨(SqT X.K H p ys/\Q (.ref p) H))):=by
 intro pins s σ H xs us Q I r h;obtain⟨p,ys,rfl,h⟩:=h;obtain⟨u,rfl,rx⟩:=vals1 r;cases rx;rcases h with ⟨hq,q⟩ | ⟨hq,q⟩
 ·obtain⟨its,r',pl,hz⟩:=I.list hq;have hlen:=r'.length;refine call_tuple_list pl.isList (λh' kp=>?_) (by simp only[Ó] <;> omega)
  have I1:Inv X pins σ H { s with heap:=h' }:=I.kept (t':=s.toks) kp;have I2:Inv X pins σ (upd H h'.objs.size (.tup ys)) { s with heap:=h'.push { cls:=.type "tuple",data:=.seq its.toArray } } :=
   I1.laid (t':=s.toks) (λb o e=>Ã _ e) (Í _) (show h40 X.prog X.w _ _ _ (.tup ys) from⟨hz,its,r',Ï0.new _ _⟩)
  exact⟨.ref h'.objs.size,_,I2,rfl,q _ (I1.hok.fresh (Í _))⟩
 ·obtain⟨its,r',pl,hz⟩:=I.tuple hq;exact call_tuple_same pl ⟨.ref p,H,I,rfl,q⟩
def tyV(K:Â)(T:String)(x:V)(H:Hp):Prop:=match x with
 |.str _=>T="str"|.int _=>T="int"
 |.ref p=>(T="list"/\∃ xs,SqL K H p xs)∨(T="tuple"/\∃ o,K.lookup p=some o/\o.cls=.type "tuple"/\o.dict=none) ∨
   (T="dict"/\((∃ kvs,H p=some (.dK kvs))∨∃ kvs,H p=some (.dT kvs)))∨(T="set"/\∃ S n,H p=some (.set S n))
 |_=>False
theorem n62{pins:List (Ç × Obj)}{σ:St}{H:Hp}{s:Æ}{T:String}{x:V}{v:Ä}(I:Inv X pins σ H s)(r:RelV x v)(ty:tyV X.K T x H) :
  s.TypeIs v T/\∀ a,v=.ref a->∃ ob,s.heap.get? a=some ob/\ob.dict=none:=by
 cases x with
 |str z =>
  obtain⟨t,rfl⟩:=r;cases (show T="str" from ty);exact⟨typeIs_str s z t,λ_ e=>nomatch e⟩
 |int i =>
  obtain⟨t,rfl⟩:=r;cases (show T="int" from ty);exact⟨Û9 s i t,λ_ e=>nomatch e⟩
 |ref p =>
  cases r;rcases ty with ⟨rfl,xs,hq⟩ | ⟨rfl,o,hk,hc,hd⟩ | ⟨rfl,hk⟩ | ⟨rfl,S,n,hk⟩
  ·obtain⟨its,_,pl,_⟩:=I.list hq;refine⟨pl.isList.typeIs,λa e=>?_⟩;cases e;obtain⟨o,n,e,c,hd,_⟩:=pl;exact⟨o,e,hd⟩
  ·refine⟨⟨o,I.kIn p o hk,hc⟩,λa e=>?_⟩;cases e;exact⟨o,I.kIn _ o hk,hd⟩
  ·have z:∃ o,s.heap.get? p=some o/\o.ExactDict:=by
    rcases hk with ⟨kvs,hk⟩ | ⟨kvs,hk⟩
    ·obtain⟨_,_,_,_,o,_,_,e,ex,_⟩:=I.hok p _ hk;exact⟨o,e,ex⟩
    ·obtain⟨_,_,_,_,o,_,_,e,ex,_⟩:=I.hok p _ hk;exact⟨o,e,ex⟩
   obtain⟨o,e,ex⟩:=z;refine⟨⟨o,e,ex.1⟩,λa e2=>?_⟩;cases e2;exact⟨o,e,ex.2.1⟩
  ·obtain⟨o,_,_,_,e,ex,_⟩:=I.hok p _ hk;refine⟨⟨o,e,ex.1⟩,λa e2=>?_⟩;cases e2;exact⟨o,e,ex.2.1⟩
 |_=>exact À2 ty
def tBM(K:Â)(T:String)(r:V->List V->Hp->VK->Prop)(to:TE)(t:TA):TE:=λσ H Q=>to σ H λx H1=>tyV K T x H1/\t σ H1 λxs H2=>r x xs H2 Q
variable {o e:Ï}{es:List Ï}{to:TE}{t:TA}{name:Str}{apos cpos:Pos}{T id:String}{r:V->List V->Hp->VK->Prop}
theorem D82(pa:PlainAttrs T)(slot:Slot T name id)(hty:typeOf (.builtin id)=pure (.type "method_descriptor"))(hm:MtR X id r)(ho:PE X o to)(ha:PA X (e::es) t)
  (hbase:attributeBase o name X.env (eval o X.env)=eval o X.env:=by rfl)
  (hfew:((Õ9 cpos (þ (e::es) X.env)).all (λx=>!x.1)&&(backToKw cpos (keywordEach [] X.env)).all (λx=>x.1.isSome)
   &&decide ((e::es).length + ([]:List Keyword).length + (if ([]:List Keyword).isEmpty then 0 else 1) < 30))=true:=by rfl)
  (hline:(apos.endLine == cpos.line)=true:=by rfl) (hs:þ (e::es) X.env=(false,eval e X.env)::þ es X.env:=by rfl) (hplain:(Õ9 cpos (þ es X.env)).any (·.1)=false:=by rfl) :
  PE X (.Call (.Attribute o name apos) (e::es) [] cpos) (tBM X.K T r to t):=by
 intro pins s σ H Q I h;refine wpAny_Call_method_late hbase hfew hline rfl (thn (ho pins s σ H _ I h) λv s1 ⟨x,H1,I1,r1,ty,q1⟩=>?_);obtain⟨h1,h2⟩:=n62 I1 r1 ty;refine⟨T,id,pa,slot,hty,h1,h2,?_⟩;have hA:=ha cpos pins s1 σ H1 _ I1 q1;rw[hs] at hA ⊢;refine Calls.callWith_builtin (by show(false || (Õ9 cpos (þ es X.env)).any (·.1))=false;rw[hplain] <;> rfl) (á4 ?_)
 exact thn hA λus s2 ⟨vs,H2,I2,r2,q2⟩=>hm pins s2 σ H2 x vs v us Q I2 r1 r2 q2
end
def MtM(X:Cx)(id:String)(r:V->List V->Hp->VK->Prop):Prop :=
 ∀ (pins:List (Ç × Obj)) (s:Æ) (σ:St) (H:Hp) (x:V) (xs:List V) (v:Ä) (us:List Ä) (Q:VK),Inv X pins σ H s->RelV x v->Vals xs us->r x xs H Q ->
  Î (Ô X.prog X.w) X.A (call (.builtin id) (v::us)) (EP X pins σ Q) X.xe s
theorem Vals.one:∀ {x:V}{us:List Ä},Vals [x] us->∃ u,us=[u]/\RelV x u
 |_,_,.cons r .nil=>⟨_,rfl,r⟩
theorem Vals.eraseIdx:∀ {xs:List V}{us:List Ä} (i:Nat),Vals xs us->Vals (xs.eraseIdx i) (us.eraseIdx i)
 |_,_,_,.nil=>.nil|_,_,0,.cons _ t=>t|_,_,i + 1,.cons r t=>.cons r (Vals.eraseIdx i t)
theorem Vals.reverse{xs:List V}{us:List Ä}(h:Vals xs us):Vals xs.reverse us.reverse:=by
 induction h with
 |nil=>exact .nil|cons r t ih=>rw[Ô5,Ô5];exact Vals.append ih (.cons r .nil)
theorem Vals.rep{xs:List V}{us:List Ä}(h:Vals xs us):∀ k:Nat,Vals (ì k xs).flatten (ì k us).flatten
 |0=>.nil
 |k + 1=>by
  rw[Å5,Å5,É5,É5];exact Vals.append h (Vals.rep h k)
theorem R10{α:Type}:∀ (l:List α) (i:Nat),(l.eraseIdx i).length<=l.length
 |[],_=>Í _|_::_,0=>le_succ _|_::r,i + 1=>Ü4 (R10 r i)
theorem foldl_rep(its:List Ä):∀ (k:Nat) (acc:List Ä),
  foldl (λx1 x2=>x1++x2) acc.toArray (ì k its.toArray)=(acc++(ì k its).flatten).toArray
 |0,acc=>by simp
 |k + 1,acc=>by
  have e:acc.toArray++its.toArray=(acc++its).toArray:=by simp
  have e2:(acc++its)++(ì k its).flatten=acc++(ì (k + 1) its).flatten:=by
   rw[Å5,É5,Ô6]
  rw[← e2,← foldl_rep its k (acc++its),← e,Å5,List.foldl_cons]
section
variable {X:Cx}{pins:List (Ç × Obj)}{σ:St}{H:Hp}{s:Æ}{l b:Ç}{xs ys zs:List V}
theorem Inv.z52{its its':List Ä}{n:Nat}{f:Array Ä->Array Ä}{t':Nat}(I:Inv X pins σ H s)(hH:H l=some (.lst xs))
  (e:s.heap.get? l=some { cls:=.type "list",data:=.seq its.toArray n }) (hf:f its.toArray=its'.toArray) (hv:Vals ys its') (hz:ys.length<=Ú) :
  Inv X pins σ (upd H l (.lst ys)) { s with heap:=s.heap.update l (À0 f),toks:=t' }:=by
 have q:=PySem.IsL.update e f;rw[hf] at q;refine I.write (x:=l) (e:=l) (by rw[hH];exact trivial) (.inl rfl) (λb' u hb hu=>(Ë6 s.heap (À0 f) (Â3 hb)).trans hu) ⟨_,q⟩ ?_
 exact⟨hz,its',_,hv,q⟩
theorem Inv.D92{its:List Ä}{t':Nat}(I:Inv X pins σ H s)(hv:Vals ys its)(hz:ys.length<=Ú) :
  Inv X pins σ (upd H s.heap.objs.size (.lst ys)) { s with heap:=s.heap.push { cls:=.type "list",data:=.seq its.toArray },toks:=t' } :=
 I.laid (λ_ _ q=>Ã _ q) (Í _) ⟨hz,its,0,hv,Ê _ rfl⟩
theorem Inv.fresh(I:Inv X pins σ H s):H s.heap.objs.size=none:=I.hok.fresh (Í _)
theorem Inv.n72(I:Inv X pins σ H s)(hH:H l=some (.lst xs)):xs.length<=Ú/\∃ (its:List Ä) (n:Nat),Vals xs its/\xs.length=its.length/\s.heap.get? l=some { cls:=.type "list",data:=.seq its.toArray n }:=by
 obtain⟨z,its,n,r,e⟩:=I.hok l _ hH;exact⟨z,its,n,r,r.length,e⟩
theorem I51{n:Nat}(h:n<=Ú):Í3 n=false:=by
 unfold Í3;exact decide_eq_false ∅
end
section
variable {X:Cx}
def Y81:V->List V->Hp->VK->Prop:=λx vs H Q=>∃ l xs y,x=.ref l/\vs=[y]/\H l=some (.lst xs)/\xs.length < Ú/\Q .non (upd H l (.lst (xs++[y])))
theorem r41:MtM X "list.append" Y81:=by
 intro pins s σ H x vs v us Q I rx rv h;obtain⟨l,xs,y,rfl,rfl,hH,hz,q⟩:=h;cases rx;obtain⟨u,rfl,ru⟩:=rv.one;obtain⟨z,its,n,r,hl,e⟩:=I.n72 hH;refine È2 F.slot_list_append ⟨_,e,rfl⟩ F.entry_list_append (F.args_list_append_2 _ _) (PySem.list_append l its.toArray n u (by rw[Ó];omega)) ⟨e,?_⟩
 refine⟨.non,_,I.z52 (its':=its++[u]) hH e (by simp) (r.append (.cons ru .nil)) ?_,rfl,q⟩
 rw[Á9,List.length_singleton];omega
def n82:V->List V->Hp->VK->Prop:=λx vs H Q=>∃ l xs i k y,x=.ref l/\vs=[.int i]/\H l=some (.lst xs)/\-(2 ^ 63)<=i/\i < 2 ^ 63/\seqIndex? i xs.length=some k/\xs[k]?=some y/\Q y (upd H l (.lst (xs.eraseIdx k)))
theorem z62:MtM X "list.pop" n82:=by
 intro pins s σ H x vs v us Q I rx rv h;obtain⟨l,xs,i,k,y,rfl,rfl,hH,h1,h2,hk,hy,q⟩:=h;cases rx;obtain⟨u,rfl,ru⟩:=rv.one;obtain⟨t,rfl⟩:=ru;obtain⟨z,its,n,r,hl,e⟩:=I.n72 hH;obtain⟨w,hw,rw'⟩:=r.get hy;refine È2 F.slot_list_pop ⟨_,e,rfl⟩ F.entry_list_pop (F.args_list_pop_2 _ _)
  (MeetsSeq.list_pop_at l its.toArray n i t k w (fitsIndex_both h1 h2) (by rw[Ó,← hl];exact hk) (by rw[← ô];exact hw) (by rw[Ó];omega)) ⟨e,?_⟩
 refine⟨y,_,I.z52 (its':=its.eraseIdx k) hH e ?_ (r.eraseIdx k) ?_,rw',q⟩
 ·show its.toArray.eraseIdxIfInBounds k=(its.eraseIdx k).toArray;rw[List.eraseIdxIfInBounds_toArray]
 ·have:=R10 xs k;omega
def R42:R2:=λx y H Q=>∃ l b xs zs,x=.ref l/\y=.ref b/\H l=some (.lst xs)/\H b=some (.lst zs)/\xs.length + zs.length<=Ú/\∀ p,H p=none->Q (.ref p) (upd H p (.lst (xs++zs)))
theorem r51:OpR X (Ä2 .Add) R42:=by
 intro pins s σ H x y v u Q I rx ry h;obtain⟨l,b,xs,zs,rfl,rfl,hH,hB,hz,q⟩:=h;cases rx;cases ry;obtain⟨z,its,n,r,hl,e⟩:=I.n72 hH;obtain⟨z2,its2,n2,r2,hl2,e2⟩:=I.n72 hB;refine PySem.P.add_list e e2 ?_ (by rw[Ó,Ó];omega)
 have ea:its.toArray++its2.toArray=(its++its2).toArray:=by simp
 rw[ea];exact⟨.ref _,_,I.D92 (t':=s.toks) (r.append r2) (by rw[Á9];omega),rfl,q _ I.fresh⟩
theorem len_rep{α:Type}(xs:List α)(k:Nat):(ì k xs).flatten.length=k * xs.length:=by
 induction k with
 |zero=>simp|succ k ih=>rw[Å5,É5,Á9,ih,Nat.succ_mul,Nat.add_comm]
end
end L2
namespace Att
open PySem PySem.W PySem.Calls PyProof.Rows
theorem B50{P:Params}{h:é}:∀ (ns:List Int) (vs:List Ä),WellAll P h vs (ns.map WData.int)->Ë5 vs ns:=by
 intro ns
 induction ns with
 |nil =>
  intro vs w;rw[map_nil] at w;cases w;exact .nil
 |cons n ns ih =>
  intro vs w;rw[Å7] at w;cases w with
  |cons a b =>
   cases a;exact .cons _ _ (ih _ b)
theorem r61{l:OpenLaw}{n:Nat}(hn:l.most=some n){P:Params}{h:é}{args:List WData}{vals:List Ä}
  (hpre:l.row.toRowW.claim.pre args=true) (hwl:WellAll P h vals args) :
  ∃ a vs ns,vals=[Ã3 a]/\args=[WData.list (ns.map WData.int)]/\h.get? a=some { cls:=.type "list",data:=.seq vs.toArray }/\Ë5 vs ns/\ns.length<=n:=by
 have hsh:WShape.hasAll [] args [.list .int]=true:=(pre_splitW hpre).1;have hc:l.pre.holds [] { args:=args }=true:=(pre_splitW hpre).2;obtain⟨d,r,rfl,h1,h2⟩:=hasAllW_cons hsh;obtain rfl:=hasAllW_nil h2;obtain⟨xs,rfl,h3⟩:=hasW_list h1;obtain⟨ns,rfl⟩:=items_int h3;have hlen:ns.length<=n:=by
  unfold OpenLaw.pre at hc;have h4:(WTm.not (.lt (.lit (.int (n:Int))) (.len (.arg 0)))).holds [] { args:=[.list (ns.map .int)] }=true:=by
   have h4:=(holds_andW hc).1;rw[hn] at h4;exact h4
  have h5:=condW_of h4 (w_not (w_lt w_lit (w_len_list (w_arg rfl))));rw[É] at h5;refine Nat.le_of_not_lt λq=>?_;have q':(n:Int) < ((ns.length:Nat):Int):=by omega
  first
   |(rw[decide_eq_true q'] at h5;exact absurd h5 (-0))
   |(simp at h5;omega)
 cases hwl with
 |cons w1 w2 =>
  cases w2;cases w1 with
  |list ho hall=>exact⟨_,_,ns,rfl,rfl,ho,B50 ns _ hall,hlen⟩
theorem r71(l:OpenLaw)(args:List WData):l.row.toRowW.claim.post args (.bool true) args=true :=
 postW_of (r:=l.row.toRowW) (X:=(true == true))
  (show WShape.has [] (.bool true) .bool=true by first | rfl | decide | simp[WShape.has,WShape.arms,WShape.armsAll])
  (show(WTm.eq .res (.lit (.bool true))).value [] { args:=args,res:=some (.bool true),after:=args }=some (.bool (true == true)) from w_eq_bool (w_res rfl) w_lit) rfl
theorem Y50{l:OpenLaw}{n:Nat}{q:Ý}{loose:List Str}{XP:(Str->Option Ä)->é->Prop}{YP:è->é->Prop}{d:DefRec}
  (hn:l.most=some n) (hdf:d.params.defaults=[])
  (call:∀ (w:è) (s₀ s₁:Æ) (mg mb:Str->Option Ä) (fa:Ç) (o:Obj) (pm cd doc:Ä) (a:Ç) (vs:List Ä) (ns:List Int),
   Ground q loose [] XP w s₀ mg mb s₁.heap->YP w s₁.heap ->
   s₁.heap.get? fa=some o->o.data=.func (docDef d.name d.params d.body d.scope pm cd doc)->s₁.heap.CodeRec cd d.name->mg d.name=some (.ref fa) ->
   s₁.heap.get? a=some { cls:=.type "list",data:=.seq vs.toArray }->Ë5 vs ns->ns.length<=n->s₁.gens=#[] ->
   Î2 (Ô l.prog w) Ý3 (.call (.ref fa) ⟨[.ref a],[]⟩) (λr s'=>r=.ok (.ret (.bool true))/\OldK s₁.heap s'.heap/\s'.os=s₁.os/\Ó4 s'.gens) s₁) :
  WalkO q loose XP YP l.row.toRowW d [] (λf vs=>PySem.call f vs):=by
 intro w s₀ s₁ mg mb G Y fa o pm cd doc dV kV ho hd hcd hD hmg hg args vals as hpre hlay hrd hwl hlo;obtain rfl:dV=.none:=Dflts.none hD hdf;obtain rfl:kV=.none:=Dflts.noKw hD;obtain⟨a,vs,ns,rfl,rfl,hobj,hints,hlen⟩:=r61 hn hpre hwl;refine enter_call (È1 (call w s₀ s₁ mg mb fa o pm cd doc a vs ns G Y ho (fd_plain hd) hcd hmg hobj hints hlen hg) λr s' hq=>?_);obtain⟨rfl,h2,h3,h4⟩:=hq;exact⟨.inl ⟨.bool true,.bool true,[],rfl,λ_=>rfl,.bool true,r71 l _,λ_=>⟨à1.nil,λ_ hm=>(nomatch hm)⟩⟩,h2,h3,h4⟩
end Att
namespace L2
open PySem PySem.Spec PyProof.Rows
theorem R20:∀ {vs:List Ä}{ns:List Int},Ë5 vs ns->Vals (ns.map V.int) vs
 |_,_,.nil=>.nil|_,_,.cons n t h=>.cons ⟨t,rfl⟩ (R20 h)
def J50(s:Ä8):Arguments:=match s with
 |.FunctionDef _ a _ _ _ _ _ _ _ _=>a|_=>{ posonlyargs:=[],args:=[],vararg:=none,kwonlyargs:=[],kw_defaults:=[],kwarg:=none,defaults:=[] }
def i10(s:Ä8):List Stmt:=match s with
 |.FunctionDef _ _ b _ _ _ _ _ _ _=>b|_=>[]
def c00(s:Ä8):Scope:=match s with
 |.FunctionDef _ _ _ _ _ _ sc _ _ _=>sc|_=>{ kind:=.function,names:=[],isGenerator:=false,isCoroutine:=false }
abbrev CX0:CXT:=λ_ _ _ _ _ _=>False
structure Fun(K:PySem.W.Frag)(x qual:Str)(st:Stmt)(f:Addr)(fd:FuncData):Prop where
 ex:∃ (oc:Value) (od:Option Addr) (kV doc pm:Value) (an:Option Addr) (cdv ct:Value) (osl:Array (Option Value)),
  fd=fnOf x qual (J50 st) (i10 st) (c00 st) .none kV doc pm an cdv ct/\K.lookup f=some ⟨oc,od,.func fd,osl⟩/\PySem.W.codeIn K cdv qual=true
 kp:PySem.W.keepIn K (.ref f)=true
section
variable {P:Ý}{w:è}{K:Â}{mg:Str->Option Ä}{base:é}
theorem Fun.binds{x qual:Str}{st:Ä8}{f:Ç}{fd:Å2}{ps:List Str}(F:Fun K x qual st f fd)
  (h:∀ (kV doc pm:Ä) (an:Option Ç) (cdv ct:Ä) (us:List Ä),us.length=ps.length->bindArgs (fnOf x qual (J50 st) (i10 st) (c00 st) .none kV doc pm an cdv ct) ⟨us,[]⟩=pure (ps.zip us)):Binds K fd ps []:=by
 obtain⟨oc,od,kV,doc,pm,an,cdv,ct,osl,rfl,lk,hcd⟩:=F.ex;exact .all (h kV doc pm an cdv ct)
end
section
variable {X:Cx}
theorem pv(i:Nat){x:Str}{pos:Pos}(hN:X.N[i]?=some x:=by rfl)(hv:Vis X.env.scope x:=by first | exact Ò4 rfl | exact Ù7 (Ò4 rfl) | exact Ù7 (Ù7 rfl))(hd:(x == ("__debug__":Str))=false:=by decide)
  (hcd:(x == ("__classdict__":Str))=false:=by decide):PE X (.Name x pos) (B02 i):=t20 hN hv hd hcd
end
theorem R52{A B:Prop}(h:B):if false=true then A else B:=by
 rw[if_neg Ð];exact h
theorem R62{c A B:Prop}[Decidable c](h1:c->A)(h2:¬ c->B):if c then A else B:=by
 by_cases h:c
 ·rw[if_pos h];exact h1 h
 ·rw[if_neg h];exact h2 h
def a30(H H':Hp):Prop:=∀ b o,H b=some o->H' b=some o
theorem a30.refl(H:Hp):a30 H H:=λ_ _ h=>h
theorem a30.trans{H H1 H2:Hp}(a:a30 H H1)(b:a30 H1 H2):a30 H H2:=λc o h=>b c o (a c o h)
end L2
set_option maxHeartbeats 4000000
namespace L2
open PySem
abbrev NoX:Ä->Æ->Prop:=λ_ _=>False
theorem J60(env:Env):∀ (names:List (Str × Ë3)) (acc:List (Str × Ç)),(∀ y∈names,y.2=.free->∃ c,env.cells.lookup y.1=some c)->(∀ x c,acc.lookup x=some c->env.cells.lookup x=some c) ->
  ∃ cl:List (Str × Ç),(forIn names acc λ(x:Str × Ë3) (r:List (Str × Ç))=>(if (x.2 == .free)=true then do let c ← cellOf env x.1;pure (á ((x.1,c)::r)) else pure (á r):Sem (ForInStep (List (Str × Ç)))))=pure cl /\
   (∀ x c,cl.lookup x=some c->env.cells.lookup x=some c)/\(∀ x c,acc.lookup x=some c->∃ c',cl.lookup x=some c')/\(∀ y∈names,y.2=.free->∃ c,cl.lookup y.1=some c)
 |[],acc,_,ha=>⟨acc,by simp,ha,λx c e=>⟨c,e⟩,λy hy=>absurd hy (by simp)⟩
 |(n,k)::r,acc,hf,ha=>by
  by_cases hk:k=.free
  ·subst hk;obtain⟨c,hc⟩:=hf (n,.free) Ì rfl;have hcell:cellOf env n=pure c:=by unfold cellOf;rw[hc]
   obtain⟨cl,e,h1,h2,h3⟩:=J60 env r ((n,c)::acc) (λy hy=>hf y (È _ hy)) (λx c' e=>by
    rw[À8] at e;by_cases hx:(x == n)=true
    ·rw[hx] at e;have:x=n:=by simpa using hx
     subst this;cases e;exact hc
    ·rw[show(x == n)=false by simpa using hx] at e
     exact ha x c' e)
   refine⟨cl,?_,h1,λx c' e'=>?_,λy hy hyk=>?_⟩
   ·rw[Ì8];simp only[beq_self_eq_true,if_true,hcell,pure_bind];exact e
   ·by_cases hx:(x == n)=true
    ·exact h2 x c (by rw[À8,hx])
    ·exact h2 x c' (by rw[À8,show(x == n)=false by simpa using hx];exact e')
   ·rcases ú.mp hy with rfl | hy
    ·exact h2 n c (by simp[À8])
    ·exact h3 y hy hyk
  ·obtain⟨cl,e,h1,h2,h3⟩:=J60 env r acc (λy hy=>hf y (È _ hy)) ha;refine⟨cl,?_,h1,h2,λy hy hyk=>?_⟩
   ·rw[Ì8];have hb:((k == ñ)=true)=False:=by simpa using hk
    simp only[hb,if_false,pure_bind];exact e
   ·rcases ú.mp hy with rfl | hy
    ·exact absurd hyk hk
    ·exact h3 y hy hyk
theorem Y60(hf:∀ y∈scope.names,y.2=.free->∃ c,env.cells.lookup y.1=some c) :
  ∃ cl:List (Str × Ç),closureFor scope env=pure cl/\(∀ x c,cl.lookup x=some c->env.cells.lookup x=some c)/\(∀ y∈scope.names,y.2=.free->∃ c,cl.lookup y.1=some c):=by
 obtain⟨cl,e,h1,_,h3⟩:=J60 env scope.names [] hf (λx c e=>by simp at e)
 refine⟨cl,?_,h1,h3⟩;simp only[closureFor];exact(congrArg (λt=>t >>= λr=>(pure r:Sem _)) e).trans (by simp)
section
variable {P:Ý}{w:è}{A:ö}{R:Result->Æ->Prop}{s:Æ}
theorem r81{el tg src:Ï}{tests:List Ï}{sc:ý}{ps:Pos}{itv av:Ä}{en:Env}(J:Nat->Æ->Prop)
  (turn:∀ n s,J n s->Î (Ô P w) A (Ñ3 itv) (λr s1=>match r with
   |none=>R (.ok .next) s1
   |some v=>Î (Ô P w) A (à5 tg itv v) (λ_ s2=>Î (Ô P w) A (Ù1 tg en v) (λ_ s3 =>
     Î (Ô P w) A (forIn tests true λc r=>if r=true then do let ok ← isTrue c en (eval c en);pure (á ok) else pure (á r)) (λok s4 =>
      if ok=true then Î (Ô P w) A (eval el en) (λx s5 =>
       Î (Ô P w) A (call (.builtin "list.append") [av,x]) (λ_ s6=>∃ m,m < n/\J m s6) NoX s5) NoX s4
      else ∃ m,m < n/\J m s4) NoX s3) NoX s2) NoX s1) NoX s)
  (n:Nat) (h:J n s) :
  Î2 (Ô P w) A (.compLoop (.ListComp el [⟨tg,src,tests,0⟩] sc ps) 0 itv av en) R s:=by
 refine codeAny_loop rfl J (λn s hI=>?_) n h;show Î _ A ((compTurn (.ListComp el [⟨tg,src,tests,0⟩] sc ps) 0 itv av en).onRaise (λx=>do noteFrame x en;theTreesLotGoes x)) _ _ s;refine wpAny_noted ?_;rw[compTurn_list];refine À (Û2 (À (Â1 (turn n s hI) (λr s1 h1=>?_) λ_ _ x=>x.elim)));cases r with
 |none=>exact Å h1
 |some v =>
  refine À (Â1 h1 (λ_ s2 h2=>?_) λ_ _ x=>x.elim);refine À (Â1 h2 (λ_ s3 h3=>À (Â1 h3 (λok s4 h4=>?_) λ_ _ x=>x.elim)) λ_ _ x=>x.elim);cases ok with
  |false=>exact Å ⟨rfl,h4⟩|true=>exact À (À (Â1 h4 (λx s5 h5=>À (Â1 h5 (λ_ s6 h6=>Å (Å ⟨rfl,h6⟩)) λ_ _ x=>x.elim)) λ_ _ x=>x.elim))
end
open PySem PySem.Spec PyProof.Rows
abbrev c50(X:Cx)(N':List Str)(sc:ý)(cl:List (Str × Ç))(C:Ç)(s:Æ)(H:Hp)(fp:List Ç):Cx :=
 { X with N:=N',s₀:=s,H₀:=H,env:=compEnvC sc cl C X.env,outer:=X.stack,stack:=X.stack,ex:=fp,fn:=λ_=>false,pn:=[],xe:=NoX }
def d60(own:List Str)(capt:List (Str × Nat)):List Str:=own++capt.map (·.1)
def q30(own:List Str)(capt:List (Str × Nat))(σ:St):St:=own.map (λ_=>none)++capt.map λp=>(σ[p.2]?).getD none
structure q70(X:Cx)(sc:Scope)(own:List Str)(capt:List (Str × Nat)):Prop where
 kind:sc.kind=.function
 nocell:∀ y∈sc.names,y.2≠.cell
 locs:∀ y∈sc.names,y.2=.local->sc.names.lookup y.1=some .local
 frees:∀ y∈sc.names,y.2=.free->X.env.kindOf y.1=some .cell∨X.env.kindOf y.1=some .free
 captd:∀ p∈capt,X.N[p.2]?=some p.1/\sc.names.lookup p.1=some .free
theorem J70{env:Env}:∀ {names:List (Str × Ë3)}{x:Str}{k:Ë3},
  (names.map λ(n,k)=>if (k == ñ&&env.scope.kind == .function&&env.kindOf n == some .cell) then(n,Æ4) else(n,k)).lookup x=some k->(k=.cell∨k=.free)->(∀ y∈names,y.2≠.cell)->(x,ñ)∈names
 |[],_,_,h,_,_=>by simp at h
 |(n,k0)::r,x,k,h,hk,hn=>by
  have h:Ì9 x ((if (k0 == ñ&&env.scope.kind == .function&&env.kindOf n == some .cell)=true then(n,Æ4) else(n,k0))::_)=some k:=h;have hn0:k0≠.cell:=hn (n,k0) Ì;cases hx:x == n with
  |true =>
   have e:x=n:=by simpa using hx
   subst e;by_cases hc:(k0 == ñ&&env.scope.kind == .function&&env.kindOf x == some .cell)=true
   ·have:k0=.free:=by
     cases k0 <;> simp_all
    subst this;exact Ì
   ·rw[if_neg hc] at h;simp only[À8,hx] at h;cases h;rcases hk with hk | hk
    ·exact absurd hk hn0
    ·subst hk;exact Ì
  |false =>
   have h':(r.map λ(n,k)=>if (k == ñ&&env.scope.kind == .function&&env.kindOf n == some .cell) then(n,Æ4) else(n,k)).lookup x=some k:=by
    by_cases hc:(k0 == ñ&&env.scope.kind == .function&&env.kindOf n == some .cell)=true
    ·rw[if_pos hc] at h;simp only[À8,hx] at h;exact h
    ·rw[if_neg hc] at h;simp only[À8,hx] at h;exact h
   exact È _ (J70 h' hk λy hy=>hn y (È _ hy))
theorem p10{env:Env}:∀ {names:List (Str × Ë3)}{x:Str},names.lookup x=some .free ->
  (names.map λ(n,k)=>if (k == ñ&&env.scope.kind == .function&&env.kindOf n == some .cell) then(n,Æ4) else(n,k)).lookup x=some .cell ∨
  (names.map λ(n,k)=>if (k == ñ&&env.scope.kind == .function&&env.kindOf n == some .cell) then(n,Æ4) else(n,k)).lookup x=some .free
 |[],_,h=>by simp at h
 |(n,k)::r,x,h=>by
  have ih:=@p10 env r x;show Ì9 x ((if (k == ñ&&env.scope.kind == .function&&env.kindOf n == some .cell)=true then(n,Æ4) else(n,k))::_)=_∨Ì9 x ((if (k == ñ&&env.scope.kind == .function&&env.kindOf n == some .cell)=true then(n,Æ4) else(n,k))::_)=_;cases hx:x == n with
  |true =>
   simp only[À8,hx] at h;cases h;by_cases hc:(ñ == ñ&&env.scope.kind == .function&&env.kindOf n == some .cell)=true
   ·rw[if_pos hc];left;simp only[À8,hx]
   ·rw[if_neg hc];right;simp only[À8,hx]
  |false =>
   simp only[À8,hx] at h;by_cases hc:(k == ñ&&env.scope.kind == .function&&env.kindOf n == some .cell)=true
   ·rw[if_pos hc];simp only[À8,hx];exact ih h
   ·rw[if_neg hc];simp only[À8,hx];exact ih h
theorem HOk.I61{P:Ý}{w:è}{H:Hp}{h:é}{D:Ç}{ys:List V}{its:List Ä}{n:Nat}(x:HOk P w H h)(hn:H D=none)(hv:Vals ys its)(hz:ys.length<=Ú)
  (ho:h.get? D=some { cls:=.type "list",data:=.seq its.toArray n }):HOk P w (upd H D (.lst ys)) h:=λb u e=>by
 by_cases hb:b=D
 ·subst hb;rw[b20] at e;cases e;exact⟨hz,its,n,hv,ho⟩
 ·rw[a60 hb] at e;exact(x b u e).k51 (λc v _ q=>q) (λc q=>by rw[a60 (a80 q hn)];exact q) λc xs q=>by rw[a60 (a80 q hn)];exact q
def PTs(X:Cx)(tests:List Ï)(t:TT):Prop :=
 ∀ (pins:List (Ç × Obj)) (s:Æ) (σ:St) (H:Hp) (Q:Bool->Hp->Prop),Inv X pins σ H s->t σ H Q ->
  Î (Ô X.prog X.w) X.A (forIn tests true λc r=>if r=true then do let ok ← isTrue c X.env (eval c X.env);pure (á ok) else pure (á r)) (TP X pins σ Q) X.xe s
def I71:TT:=λ_ H Q=>Q true H
theorem Y91:PTs X [] I71:=λ_ _ _ H _ I h=>wpAny_tests_nil ⟨H,I,h⟩
theorem r91(hc:PT X c t):PTs X [c] t:=λpins s σ H Q I h=>wpAny_tests_one (hc pins s σ H Q I h)
section
variable {X:Cx}{pins:List (Ç × Obj)}{σ:St}{H2:Hp}{s2:Æ}{sc:ý}{own:List Str}{capt:List (Str × Nat)}{cl:List (Str × Ç)}{fp:List Ç}{C:Ç}
theorem R30(I:Inv X pins σ H2 s2)(S:q70 X sc own capt)(hcl:∀ x c,cl.lookup x=some c->X.env.cells.lookup x=some c)(hcf:∀ y∈sc.names,y.2=.free->∃ c,cl.lookup y.1=some c)
  (hx:∀ x c,X.env.cells.lookup x=some c->c ∉ fp) {h':é} (un:∀ c o,s2.heap.get? c=some o->H2 c=none->c ∉ fp->∃ sl,h'.get? c=some { o with slots:=sl }) (m:Str->Option Ä) :
  ∀ (i:Nat) (x:Str) (v:V),(d60 own capt)[i]?=some x->(q30 own capt σ)[i]?=some (some v)->∃ u,RelV v u/\Look (compEnvC sc cl C X.env) h' m x u:=by
 intro i x v e1 e2;unfold d60 at e1;unfold q30 at e2;by_cases hi:i < own.length
 ·rw[Ð3 (by simpa using hi),Ü] at e2
  cases q:own[i]? with
  |none=>rw[q] at e2;cases e2
  |some y=>rw[q] at e2;cases e2
 ·rw[Å4 (by simpa using hi),É,Ü] at e2
  rw[Å4 (by simpa using hi),Ü] at e1
  cases q:capt[i - own.length]? with
  |none=>rw[q] at e1;cases e1
  |some p =>
   rw[q] at e1 e2;obtain rfl:p.1=x:=À6 e1;have e3:(σ[p.2]?).getD none=some v:=À6 e2;have e4:σ[p.2]?=some (some v):=by
    cases z:σ[p.2]? with
    |none=>rw[z] at e3;cases e3
    |some w=>rw[z] at e3;exact congrArg some e3
   obtain⟨hN,hf⟩:=S.captd p (î q);have hmem:(p.1,ñ)∈sc.names:=Â4 hf;have hk:=S.frees _ hmem rfl;obtain⟨m0,_,hl⟩:=I.loc;have vis:Vis X.env.scope p.1:=.inr hk;obtain⟨u,r,lk⟩:=hl p.2 p.1 v hN e4 vis;refine⟨u,r,.inr ⟨?_,?_⟩⟩
   ·exact p10 hf
   ·rcases lk with ⟨hl0,_⟩ | ⟨_,c,hc,o,ho,hd⟩
    ·rcases hk with hk | hk <;> (rw[hk] at hl0;cases hl0)
    ·obtain⟨c',hc'⟩:=hcf _ hmem rfl;have:=hcl _ _ hc';rw[hc] at this;cases this;obtain⟨sl,q'⟩:=un c o ho (I.freeC _ _ hc) (hx _ _ hc);exact⟨c,hc',_,q',hd⟩
end
def Z01(X:Cx)(pins:List (Ç × Obj))(σ:St)(R:V->Hp->Prop)(acc:Ä)(C:Ç)(s':Æ):Prop :=
 ∃ D H' m',acc=.ref D/\Inv X pins σ H' s'/\Y10 X pins H' C/\s'.heap.Ns C m'/\R (.ref D) H'
def s01(J:It)(σ0:St)(H1:Hp)(g:TG)(tt:TT)(te:TE)(Q:VK):Prop:=∃ W:Nat->Nat->List V->Hp->Prop,(∃ m,W 0 m [] H1)/\∀ i m ys H,W i m ys H ->
 (J.stop i H/\∀ p,H p=none->Q (.ref p) (upd H p (.lst ys))) ∨
 (J.go i H/\ys.length < Ú/\∃ N:List V->Hp->Prop,(∀ zs H',N zs H'->∃ m',m' < m/\W (i + 1) m' zs H')/\∀ x H',J.yld i H x H'->g x σ0 H' λσ2 H2=>tt σ2 H2 λb H3 =>
  if b=true then te σ2 H3 (λy H4=>N (ys++[y]) H4) else N ys H3)
def Z11(own:List Str)(capt:List (Str × Nat))(wi:TI)(g:TG)(tt:TT)(te:TE):TE:=λσ H Q=>wi σ H λJ H1=>s01 J (q30 own capt σ) H1 g tt te Q
section
variable {X:Cx}{pins:List (Ç × Obj)}{σ:St}{H2:Hp}{s2:Æ}{sc:ý}{own:List Str}{capt:List (Str × Nat)}{cl:List (Str × Ç)}{el tg src:Ï}{tests:List Ï}{ps:Pos}{g:TG}{tt:TT}{te:TE}
theorem w00(hc:X.calm=true)(S:q70 X sc own capt)(hcl:∀ x c,cl.lookup x=some c->X.env.cells.lookup x=some c)(hcf:∀ y∈sc.names,y.2=.free->∃ c,cl.lookup y.1=some c)
  (hg:∀ C s H fp,PG (c50 X (d60 own capt) sc cl C s H fp) tg g) (ht:∀ C s H fp,PTs (c50 X (d60 own capt) sc cl C s H fp) tests tt) (he:∀ C fp,(∀ b∈fp,Y10 X pins H2 b)->PE (c50 X (d60 own capt) sc cl C s2 H2 fp) el te)
  {it:Ç}{fp:List Ç}{tn:Nat->é->Prop}{J:It} (I2:Inv X pins σ H2 s2) (T:Turn X.prog X.w X.K tg J fp it tn) (st2:tn 0 s2.heap) (f2:∀ b∈fp,Y10 X pins H2 b)
  {R:VK} (h:s01 J (q30 own capt σ) H2 g tt te R) {RR:Ä->Ç->Result->Æ->Prop} (hRR:∀ acc C s',Z01 X pins σ R acc C s'->RR acc C (.ok .next) s') {E:Ä->Æ->Prop} :
  Î (Ô X.prog X.w) X.A (newList []) (λacc s3=>Î (Ô X.prog X.w) X.A (newFunctionEnv sc X.env.globals cl [] X.env.qual none .none (some X.env)) (λce s4 =>
   Î2 (Ô X.prog X.w) X.A (.compStart (.ListComp el [⟨tg,src,tests,0⟩] sc ps) 0 (.ref it) acc { ce with scope:=relabel sc X.env }) (RR acc ce.locals) s4) E s3) E s2:=by
 obtain⟨W,⟨m0,w0⟩,turn⟩:=h;refine æ (wpAny_newFunctionEnv S.nocell (by intro y hy;simp at hy) (λh1 hns1 hsb1=>?_) S.kind)
 dsimp only at hns1 hsb1 ⊢;generalize hH3:s2.heap.push { cls:=.type "list",dict:=none,data:=.seq ([]:List Ä).toArray }=h3 at hns1 hsb1 ⊢;have hC:h3.objs.size=s2.heap.objs.size + 1:=by rw[← hH3,Ë2]
 have below:∀ b,b < s2.heap.objs.size->b≠h3.objs.size/\b≠s2.heap.objs.size:=λb hb=>⟨by omega,by omega⟩
 have hDC:s2.heap.objs.size≠h3.objs.size:=by omega
 have old:∀ b o,s2.heap.get? b=some o->h1.get? b=some o:=λb o e=>hsb1.extBut b o (below b (à e)).1 (Ã _ (hH3 ▸ Ã _ e));have hacc:h1.get? s2.heap.objs.size=some { cls:=.type "list",data:=.seq ([]:List Ä).toArray 0 }:=hsb1.extBut _ _ hDC (Ã _ (hH3 ▸ Ê _ rfl));have fpLt:∀ b∈fp,b < s2.heap.objs.size:=λb hb=>by
  obtain⟨o,e,_⟩:=T.obj _ _ st2 b hb;exact à e
 have celLt:∀ x c,X.env.cells.lookup x=some c->c < s2.heap.objs.size:=λx c e=>by
  obtain⟨v,o,q,_⟩:=I2.cell x c e;exact à q
 have frLt:∀ b∈frs X.stack,b < s2.heap.objs.size:=λb hb=>by
  obtain⟨_,o,q,_⟩:=I2.stack.mem hb;exact à q
 have celFp:∀ x c,X.env.cells.lookup x=some c->c ∉ fp:=λx c e hb=>(f2 c hb).2.2.2.2.1 x c e rfl;have fpFr:∀ b∈fp,b ∉ frs X.stack:=λb hb hf=>by
  rcases ú.mp (I2.p81 b hf) with z | z
  ·exact(f2 b hb).2.1 z
  ·exact(f2 b hb).2.2.1 z
 have okX:(c50 X (d60 own capt) sc cl h3.objs.size s2 H2 fp).Ok:=by
  refine⟨I2.ok.mod,S.kind,I2.ok.glob,I2.ok.blt,(by show s2.heap.objs.size<=h3.objs.size;omega),λx y c e1 e2=>I2.ok.inj x y c (hcl x c e1) (hcl y c e2),λx hx=>?_,λx c hx=>(by cases hx),I2.ok.hd,I2.ok.frames,.inl rfl,
   λb hb=>⟨(below b (fpLt b hb)).1,λx c e z=>celFp x c (hcl x c e) (z ▸ hb)⟩,I2.bs,Ñ I2.ok.bsz I2.sz,λb o e hb=>?_,fpFr,I2.stack,I2.v80⟩
  ·have hx':(x,ñ)∈sc.names:=by
    rcases hx with hx | hx
    ·exact J70 hx (.inl rfl) S.nocell
    ·exact J70 hx (.inr rfl) S.nocell
   exact hcf _ hx' rfl
  ·rcases (f2 b hb).2.2.2.1 with z | z
   ·exact I2.ok.noex b o e z
   ·have l1:b < X.base.objs.size:=à e;have l2:X.base.objs.size<=X.s₀.heap.objs.size:=I2.ok.bsz;have l3:X.s₀.heap.objs.size<=b:=z;exact absurd l1 (Nat.not_lt.mpr (Ñ l2 l3))
 have reset:∀ {pl:List (Ç × Obj)}{σ':St}{H':Hp}{s':Æ},Inv (c50 X (d60 own capt) sc cl h3.objs.size s2 H2 fp) pl σ' H' s'->Inv (c50 X (d60 own capt) sc cl h3.objs.size s2 H2 fp) pl (q30 own capt σ) H' s':=λ{pl σ' H' s'} I'=>by
  obtain⟨m,hn,_⟩:=I'.loc;refine⟨I'.ok,I'.os,I'.bare,I'.base,⟨m,hn,λi x v e1 e2 _=>R30 I2 S hcl hcf celFp (λc o q n hx=>I'.base.any q n hx) m i x v e1 e2⟩,I'.cell,I'.free,I'.freeC,I'.pin,I'.hok,?_⟩;show(q30 own capt σ).length=(d60 own capt).length;simp[q30,d60]
 have start:Inv (c50 X (d60 own capt) sc cl h3.objs.size s2 H2 fp) [(s2.heap.objs.size,{ cls:=.type "list",data:=.seq ([]:List Ä).toArray 0 })] (q30 own capt σ) H2 { s2 with heap:=h1,toks:=s2.toks + ([]:List (Str × Ä)).length }:=by
  refine⟨okX,rfl,I2.bare,Un.kept old,⟨_,hns1,λi x v e1 e2 _=>R30 I2 S hcl hcf celFp (λc o q _ _=>⟨o.slots,old c o q⟩) _ i x v e1 e2⟩,λx c e=>?_,?_,λx c e=>I2.freeC x c (hcl x c e),λp hp=>?_,I2.hok.kept old,?_⟩
  ·obtain⟨v,q⟩:=I2.cell x c (hcl x c e);exact⟨v,q.keeps old⟩
  ·exact I2.hok.fresh (by show s2.heap.objs.size<=h3.objs.size;omega)
  ·have hp':p=(s2.heap.objs.size,{ cls:=.type "list",data:=.seq ([]:List Ä).toArray 0 }):=by simpa using hp
   subst hp';exact⟨hacc,I2.hok.fresh (Í _),hDC,λz=>Á4 _ (frLt _ z),λv z=>by cases z⟩
  ·show(q30 own capt σ).length=(d60 own capt).length;simp[q30,d60]
 have p21:∀ {pl:List (Ç × Obj)}{H':Hp},(∀ p∈pl,p.1 ∉ fp)->(∀ b∈fp,H' b=none)->∀ b∈fp,Y10 (c50 X (d60 own capt) sc cl h3.objs.size s2 H2 fp) pl H' b:=λ{pl H'} hp hn b hb =>
  ⟨hn b hb,(below b (fpLt b hb)).1,fpFr b hb,.inl hb,λx c e z=>celFp x c (hcl x c e) (z ▸ hb),λp hpp z=>hp p (by simpa using hpp) (z ▸ hb)⟩
 have hDfp:s2.heap.objs.size ∉ fp:=λz=>Á4 _ (fpLt _ z);have loop:∀ s3:Æ,s3={ s2 with heap:=h1,toks:=s2.toks + ([]:List (Str × Ä)).length } ->
   Î2 (Ô X.prog X.w) X.A (.compLoop (.ListComp el [⟨tg,src,tests,0⟩] sc ps) 0 (.ref it) (.ref s2.heap.objs.size) (compEnvC sc cl h3.objs.size X.env)) (RR (.ref s2.heap.objs.size) h3.objs.size) s3:=by
  rintro s3 rfl;refine r81 (λn s'=>∃ i ys H' its k,Inv (c50 X (d60 own capt) sc cl h3.objs.size s2 H2 fp) [(s2.heap.objs.size,{ cls:=.type "list",data:=.seq (toArray its) k })] (q30 own capt σ) H' s'/\tn i s'.heap/\(∀ b∈fp,H' b=none)/\Vals ys its/\ys.length<=Ú/\W i n ys H') ?_ m0
   ⟨0,[],H2,[],0,start,T.keep _ _ _ st2 λb _ o e=>old b o e,λb hb=>(f2 b hb).1,.nil,Æ1 _,w0⟩
  rintro n s' ⟨i,ys,H',its,k,I',st',fr',hv,hz,w'⟩;have pinD:∀ p∈[((s2.heap.objs.size:Ç),({ cls:=.type "list",data:=.seq (toArray its) k }:Obj))],p.1 ∉ fp:=λp hp=>by
   have hp':p=(s2.heap.objs.size,{ cls:=.type "list",data:=.seq (toArray its) k }):=by simpa using hp
   subst hp';exact hDfp
  rcases turn i n ys H' w' with ⟨stop,q⟩ | ⟨go,hlt,N,hN,step⟩
  ·refine thn (T.done (c50 X (d60 own capt) sc cl h3.objs.size s2 H2 fp) rfl rfl rfl hc i _ s' _ H' NoX I' (p21 pinD fr') st' stop) λr s1 hr=>?_;obtain⟨hr,I1⟩:=hr;subst hr;obtain⟨gD,nD,_,_,_⟩:=I1.pin _ (í _ Ì);obtain⟨m',hn',_⟩:=id I1.loc;have un:Un (frs X.stack) fp H2 (upd H' s2.heap.objs.size (.lst ys)) s2.heap s1.heap:=by
    have u:=I1.base;have nD2:H2 s2.heap.objs.size=none:=I2.hok.fresh (Í _);refine⟨u.keep,u.slot,λb o e n hx=>?_,u.there,λb xs e=>?_,λb o xs e=>?_,λb ps' e=>?_⟩
    ·rw[a60 (below b (à e)).2];exact u.free b o e n hx
    ·rw[a60 (a80 e nD2)];exact u.tups b xs e
    ·rw[a60 (a80 e nD2)];exact u.frzs b o xs e
    ·obtain⟨more,e'⟩:=u.tbls b ps' e;exact⟨more,by rw[a60 (a80 e nD2)];exact e'⟩
   have IX:Inv X pins σ (upd H' s2.heap.objs.size (.lst ys)) s1:=I2.l12 I1.os un (I1.hok.I61 nD hv hz gD) I1.bare λb hb=>⟨(f2 b hb).2.2.2.1,(f2 b hb).2.1,(f2 b hb).2.2.2.2.1,(f2 b hb).2.2.2.2.2⟩;refine hRR _ _ _ ⟨_,_,m',rfl,IX,?_,hn',q _ nD⟩;exact I2.p21 ∅ (by rw[a60 hDC.symm];exact I1.free)
  ·refine thn (T.item (c50 X (d60 own capt) sc cl h3.objs.size s2 H2 fp) rfl rfl rfl hc i _ s' _ H' NoX I' (p21 pinD fr') st' go) λr s1 hr=>?_;obtain⟨u,hr,h4⟩:=hr;subst hr;refine thn h4 λ_ s5 hr5=>?_;obtain⟨x,H5,I5,r5,y5,st5,fr5⟩:=hr5;have I5p:=I5.pinned (p21 pinD fr5) (T.obj _ _ st5);refine thn (hg _ _ _ _ _ s5 _ H5 x u _ I5p r5 (step x H5 y5)) λ_ s6 hr6=>?_;obtain⟨σ6,H6,I6,q6⟩:=hr6;refine thn (ht _ _ _ _ _ s6 σ6 H6 _ I6 q6) λok s7 hr7=>?_;obtain⟨H7,I7,q7⟩:=hr7;have memFp:∀ {pl:List (Ç × Obj)}{b:Ç}{o:Obj},b∈fp->s5.heap.get? b=some o->(b,o)∈([]:List (Ç × Obj))++(pl++B20 fp s5.heap):=λhb e=>í _ (í _ (k80 hb e));cases ok with
   |false =>
    rw[if_neg Ð] at q7 ⊢;obtain⟨m',hm,w7⟩:=hN _ _ q7;refine⟨m',hm,i + 1,ys,H7,its,k,reset (I7.B00 λp hp=>I7.pin p (í _ (Æ6 _ hp))),T.keep _ _ _ st5 λb hb o e=>(I7.pin (b,o) (memFp hb e)).1,λb hb=>?_,hv,hz,w7⟩;obtain⟨o,e,_⟩:=T.obj _ _ st5 b hb;exact(I7.pin (b,o) (memFp hb e)).2.1
   |true =>
    rw[if_pos rfl] at q7 ⊢;refine thn (he _ _ f2 _ s7 σ6 H7 _ I7 q7) λuv s8 hr8=>?_;obtain⟨y,H8,I8,r8,q8⟩:=hr8;obtain⟨m',hm,w8⟩:=hN _ _ q8;obtain⟨gD,nD,dC,dF,_⟩:=I8.pin _ (í _ (Æ6 _ Ì));refine append_at gD (λh9 sb hD9=>?_) (by show(toArray its).size<=Ú;rw[Ó,← hv.length];exact hz)
    have I8a:Inv (c50 X (d60 own capt) sc cl h3.objs.size s2 H2 fp) (B20 fp s5.heap) σ6 H8 s8:=I8.B00 λp hp=>I8.pin p (í _ (í _ hp));have I9:Inv (c50 X (d60 own capt) sc cl h3.objs.size s2 H2 fp) (B20 fp s5.heap) σ6 H8 { s8 with heap:=h9 }:=I8a.turned (t':=s8.toks) (λb o hb e=>(sb.2 b hb).trans e) nD dC (.inr (Í _))
     (λx c e z=>Á4 s2.heap.objs.size (by have:=celLt x c (hcl x c e);rw[z] at this;exact this)) (λp hp z=>hDfp (z ▸ (P90 (by simpa using hp)).1))
    rw[List.push_toArray] at hD9;refine⟨m',hm,i + 1,ys++[y],H8,its++[uv],k + 1,(reset I9).B00 λp hp=>?_,T.keep _ _ _ st5 λb hb o e=>?_,λb hb=>?_,hv.append (.cons r8 .nil),by rw[Á9];exact hlt,w8⟩
    ·have hp':p=(s2.heap.objs.size,{ cls:=.type "list",data:=.seq (toArray (its++[uv])) (k + 1) }):=by simpa using hp
     subst hp';exact⟨hD9,nD,dC,dF,λv z=>by cases z⟩
    ·exact(I9.pin (b,o) (í _ (k80 hb e))).1
    ·obtain⟨o,e,_⟩:=T.obj _ _ st5 b hb;exact(I9.pin (b,o) (í _ (k80 hb e))).2.1
 exact codeAny_compStart_list (loop _ rfl) (T.self _ 0 _ _ _ (T.keep _ _ _ st2 λb _ o e=>old b o e) (loop _ rfl))
end
section
variable {X:Cx}{sc:ý}{own:List Str}{capt:List (Str × Nat)}{el tg src:Ï}{tests:List Ï}{ps pos:Pos}{wi:TI}{g:TG}{tt:TT}{te:TE}
theorem s11(hc:X.calm=true)(S:q70 X sc own capt)(hi:PI X tg src wi)(hg:∀ cl C s H fp,PG (c50 X (d60 own capt) sc cl C s H fp) tg g)
  (ht:∀ cl C s H fp,PTs (c50 X (d60 own capt) sc cl C s H fp) tests tt) (he:∀ cl C s H fp,PE (c50 X (d60 own capt) sc cl C s H fp) el te)
  (hs:∀ x,É0 src X.env x=pure x:=by intro _;rfl):PE X (.ListComp el [⟨tg,src,tests,0⟩] sc ps) (Z11 own capt wi g tt te):=by
 intro pins s σ H Q I h;obtain⟨cl,hclos,hcl,hcf⟩:=Y60 (scope:=sc) (env:=X.env) λy hy hk=>I.ok.has y.1 (S.frees y hy hk);rw[eval_ListComp];refine Ó5 (use:=none) rfl hs hclos S.kind S.locs (thn (hi pins s σ H _ I h) λv s1 h1=>thn h1 λitv s2 h2=>?_);obtain⟨it,fp,tn,J,H2,e,I2,T,st2,f2,hw⟩:=h2;subst e;refine w00 hc S hcl hcf (hg cl) (ht cl) (λC fp _=>he cl C _ _ fp) I2 T st2 f2 hw (RR:=λacc C=>compPost (Ô X.prog X.w) X.A X.xe none (EP X pins σ Q) acc C) λacc C s' hf=>?_;obtain⟨D,H',m',rfl,I',f',ns',r⟩:=hf;exact⟨m',ns',λh' sb=>⟨.ref D,H',I'.turned (t':=s'.toks) (λb o hb e=>(sb.2 b hb).trans e) f'.1 f'.2.1 f'.2.2.2.1 f'.2.2.2.2.1 f'.2.2.2.2.2,rfl,r⟩⟩
theorem z72{te:St->Hp->TE}{Cond:St->Hp->Prop}(hc:X.calm=true)(S:q70 X sc own capt)(hi:PI X tg src wi)(hg:∀ cl C s H fp,PG (c50 X (d60 own capt) sc cl C s H fp) tg g)
  (ht:∀ cl C s H fp,PTs (c50 X (d60 own capt) sc cl C s H fp) tests tt) (he:∀ cl pins σ H s,Inv X pins σ H s->(∀ x c,cl.lookup x=some c->X.env.cells.lookup x=some c)->Cond σ H->∀ C fp,(∀ b∈fp,Y10 X pins H b)->PE (c50 X (d60 own capt) sc cl C s H fp) el (te σ H))
  (hs:∀ x,É0 src X.env x=pure x:=by intro _;rfl):PE X (.ListComp el [⟨tg,src,tests,0⟩] sc ps) (λσ H Q=>wi σ H λJ H1=>Cond σ H1/\s01 J (q30 own capt σ) H1 g tt (te σ H1) Q):=by
 intro pins s σ H Q I h;obtain⟨cl,hclos,hcl,hcf⟩:=Y60 (scope:=sc) (env:=X.env) λy hy hk=>I.ok.has y.1 (S.frees y hy hk);rw[eval_ListComp];refine Ó5 (use:=none) rfl hs hclos S.kind S.locs (thn (hi pins s σ H _ I h) λv s1 h1=>thn h1 λitv s2 h2=>?_);obtain⟨it,fp,tn,J,H2,e,I2,T,st2,f2,cd,hw⟩:=h2;subst e;refine w00 hc S hcl hcf (hg cl) (ht cl) (λC fp hf=>he cl _ _ _ _ I2 hcl cd C fp hf) I2 T st2 f2 hw (RR:=λacc C=>compPost (Ô X.prog X.w) X.A X.xe none (EP X pins σ Q) acc C) λacc C s' hf=>?_;obtain⟨D,H',m',rfl,I',f',ns',r⟩:=hf;exact⟨m',ns',λh' sb=>⟨.ref D,H',I'.turned (t':=s'.toks) (λb o hb e=>(sb.2 b hb).trans e) f'.1 f'.2.1 f'.2.2.2.1 f'.2.2.2.2.1 f'.2.2.2.2.2,rfl,r⟩⟩
theorem Z21{i:Nat}{y:Str}{py:Pos}(hN:X.N.Nodup)(hiN:X.N[i]?=some y)(hy:Loc X.env.scope y)(hsw:Ô8 (.ListComp el [⟨tg,src,tests,0⟩] sc ps) (some (.Name y py)) pos.line X.env=pure true)
  (hc:X.calm=true) (S:q70 X sc own capt) (hi:PI X tg src wi) (hg:∀ cl C s H fp,PG (c50 X (d60 own capt) sc cl C s H fp) tg g)
  (ht:∀ cl C s H fp,PTs (c50 X (d60 own capt) sc cl C s H fp) tests tt) (he:∀ cl C s H fp,PE (c50 X (d60 own capt) sc cl C s H fp) el te)
  (hs:∀ x,É0 src X.env x=pure x:=by intro _;rfl) (hf:X.fn y=true∨X.env.scope.names.lookup y=some .local:=by first | exact .inl rfl | exact .inr rfl | assumption) :
  PS X (.Assign [.Name y py] (.ListComp el [⟨tg,src,tests,0⟩] sc ps) pos) (m22 (Z11 own capt wi g tt te) (Y00 i)):=by
 intro pins s σ H D I h;obtain⟨cl,hclos,hcl,hcf⟩:=Y60 (scope:=sc) (env:=X.env) λy hy hk=>I.ok.has y.1 (S.frees y hy hk);rw[exec_Assign_Name_used _ _ _ _ hsw];refine À (Û2 (À ?_));show Î _ X.A (do let _ ← comprehension (.ListComp el [⟨tg,src,tests,0⟩] sc ps) sc X.env _ (newList []) false (eval src X.env) (some (Ù1 (.Name y py) X.env))) _ _ s;refine À (Â1 (Ó5 (use:=some (Ù1 (.Name y py) X.env)) (Q:=λ_ s'=>SP X pins D .next s') rfl hs hclos S.kind S.locs
  (thn (hi pins s σ H _ I h) λv s1 h1=>thn h1 λitv s2 h2=>?_)) (λ_ s' hq=>Å (Å hq)) λ_ _ e=>e)
 obtain⟨it,fp,tn,J,H2,e,I2,T,st2,f2,hw⟩:=h2;subst e;refine w00 hc S hcl hcf (hg cl) (ht cl) (λC fp _=>he cl C _ _ fp) I2 T st2 f2 hw (RR:=λacc C=>compPost (Ô X.prog X.w) X.A X.xe (some (Ù1 (.Name y py) X.env)) (λ_ s'=>SP X pins D .next s') acc C) λacc C s' hfn=>?_;obtain⟨DA,H',m',rfl,I',f',ns',r⟩:=hfn;show Î _ X.A (Ù1 (.Name y py) X.env (.ref DA)) _ _ _;refine wpAny_assign_Name (B10 (v:=.ref DA) I' hN hiN hy rfl (λs3 I3 ha=>?_) hf);obtain⟨a,sb,ha⟩:=ha;have hCa:C≠a:=λz=>by
  rcases ha with q | q
  ·exact f'.2.1 (z.trans q)
  ·exact f'.2.2.2.2.1 _ _ q z.symm
 exact⟨m',ns'.sameBut sb hCa,λh' sb'=>⟨_,H',I3.turned (t':=s3.toks) (λb o hb e=>(sb'.2 b hb).trans e) f'.1 f'.2.1 f'.2.2.2.1 f'.2.2.2.2.1 f'.2.2.2.2.2,r⟩⟩
end
end L2
namespace L2
open PySem
section
variable {P:Ý}{w:è}{A:ö}{E:Ä->Æ->Prop}{s:Æ}
theorem p20(hr:s.heap.IsTupleIter r t k)(ht:s.heap.IsTuple t vs)(hx:vs[k]?=some x)
  (hQ:∀ h',h'.IsTupleIter r t (k + 1)->Ë7 r s.heap h'->Q x { s with heap:=h' }):Î (Ô P w) A (nextOf (.ref r)) Q E s:=by
 obtain⟨o,ho,hc,hd⟩:=id hr;obtain⟨ot,hot,_,nt,hdt⟩:=ht;unfold nextOf;refine À (À5 (name:=À9 "__next__") hr.typeIs É3 (À4 É3 hr.typeIs à2 ?_ (ß8 _)));show Î _ _ (field (.ref r) 0 >>= _) _ _ s;refine À (Á5 ho hd (x:=.ref t) rfl ?_);show Î _ _ (if (Ã3 t == â)=true then _ else _) _ _ s;rw[if_neg (show ¬ ((Ã3 t == â)=true) from Ð)];show Î _ _ (field (.ref r) 1 >>= _) _ _ s;refine À (Á5 ho hd (x:=.int k 0) rfl ?_);show Î _ _ (seqItems? (.ref t) >>= _) _ _ s;refine À (Ç4 hot hdt ?_);simp only[Á8,hx];refine À (wpAny_setField ho hd (by simp) (Å ⟨x,rfl,Å (hQ _ ⟨_,Ç6 _ ho (Obj.isFreed_of_fields (Obj.data_mapFields hd _)),(Obj.cls_mapFields ..).trans hc,by rw[Obj.data_mapFields hd];simp[Ã6]⟩ (Æ2 ..))⟩))
theorem l60(hh:A.handled=none)(hr:s.heap.IsTupleIter r t k)(ht:s.heap.IsTuple t vs)(hx:vs[k]?=none)
  (hE:∀ h' e,é.ExtBut r s.heap h'->(∃ o,h'.get? e=some o/\o.cls=.type "StopIteration")->E (.ref e) { s with heap:=h' }):Î (Ô P w) A (nextOf (.ref r)) Q E s:=by
 obtain⟨o,ho,hc,hd⟩:=id hr;obtain⟨ot,hot,_,nt,hdt⟩:=ht;unfold nextOf;refine À (À5 (name:=À9 "__next__") hr.typeIs É3 (À4 É3 hr.typeIs à2 ?_ (ß8 _)));show Î _ _ (field (.ref r) 0 >>= _) _ _ s;refine À (Á5 ho hd (x:=.ref t) rfl ?_);show Î _ _ (if (Ã3 t == â)=true then _ else _) _ _ s;rw[if_neg (show ¬ ((Ã3 t == â)=true) from Ð)];show Î _ _ (field (.ref r) 1 >>= _) _ _ s;refine À (Á5 ho hd (x:=.int k 0) rfl ?_);show Î _ _ (seqItems? (.ref t) >>= _) _ _ s;refine À (Ç4 hot hdt ?_);simp only[Á8,hx];refine À (É7 (À (wpAny_setField ho hd (by simp) ?_)));show Î _ _ (newExc (.type "StopIteration") [] >>= _) _ _ _
 refine À ?_;simp only[newExc,newTuple];refine À (æ ?_ (by size_fits));refine À (m:=Ø9 _ _) (ß9 (a:=â) (by first | rfl | (simp only[Ø9];rfl)) ?_)
 refine æ ?_ (by size_fits);simp only[raiseNew];refine À (wpAny_handled ?_)
 first | rw[show A.in1.handled=none from hh] | rw[hh]
 refine À (Å (wpAny_throw (hE _ _ (((Æ2 ..).extBut.push _).push _) ⟨_,Ê _ rfl,rfl⟩)))
theorem s21{z TI TO i1 i2 l1 l2:Ç}{k:Nat}{xs ys:Array Ä}{x y a b:Ä}{Q:Option Ä->Æ->Prop}(D:ZipApart z TI TO i1 i2 l1 l2)(hz:Ò1 s.heap z TI TO .none)
  (hTI:Æ5 s.heap TI (.ref i1) (.ref i2)) (hTO:Æ5 s.heap TO a b) (h1:s.heap.IsTupleIter i1 l1 k) (h2:s.heap.IsTupleIter i2 l2 k) (hl1:s.heap.IsTuple l1 xs) (hl2:s.heap.IsTuple l2 ys)
  (hx:xs[k]?=some x) (hy:ys[k]?=some y)
  (hQ:∀ h',Ò1 h' z TI TO (Ã6 s.heap.objs.size)->Æ5 h' TO x y->h'.IsTupleIter i1 l1 (k + 1)->h'.IsTupleIter i2 l2 (k + 1)->Æ5 h' s.heap.objs.size x y->h'.objs.size=s.heap.objs.size + 1 ->
   (∀ c o,c≠z->c≠TO->c≠i1->c≠i2->s.heap.get? c=some o->h'.get? c=some o)->Q (some (.ref s.heap.objs.size)) { s with heap:=h' }):Î (Ô P w) A (Ñ3 (.ref z)) Q E s:=by
 have hT:s.TypeIs (.ref z) "zip":=⟨_,hz,rfl⟩;unfold Ñ3;refine À (Ë1 (À5 (name:=À9 "__next__") hT Õ5 (À4 Õ5 hT F.entry_zip_next ?_ (F.args_zip_next_1 _))));show Î _ _ (field (.ref z) 2 >>= _) _ _ _;refine À (Á5 hz rfl (x:=.bool false) rfl ?_);show Î _ _ (field (.ref z) 3 >>= _) _ _ _;refine À (Á5 hz rfl (x:=.ref TI) rfl ?_);refine À (Ç4 hTI rfl ?_);show Î _ _ (Ì6 (.ref z) >>= _) _ _ _;refine À ?_;unfold Ì6;refine À (Á5 hz rfl (x:=.none) rfl (Å ?_));simp only[if_true];refine À (É7 (À (Á5 hz rfl (x:=.ref TO) rfl (À (Ã0 hz (by simp) λg1 z1 e1=>?_)))))
 replace z1:Ò1 g1 z TI TO .ellipsis:=z1
 refine À ?_;simp only[List.zipIdx_cons,List.zipIdx_nil,Ì8,Ö6];refine À (À (Û3 ?_));show Î _ _ (nextOf (.ref i1) >>= _) _ _ _;refine À (p20 (h1.extBut e1.extBut D.i1z) (hl1.extBut e1.extBut D.l1z) hx λg2 r2 e2=>Å ?_);have t2:Æ5 g2 TO a b:=e2.extBut _ _ D.TOi1 (e1.extBut _ _ D.TOz hTO);refine À (Ç4 t2 rfl (À (Ø5 t2 λg3 t3 e3=>?_)))
 replace t3:Æ5 g3 TO x b:=t3
 refine À (wpAny_letGo (Å ?_));refine À (À (Û3 ?_));show Î _ _ (nextOf (.ref i2) >>= _) _ _ _;refine À (p20 (((h2.extBut e1.extBut D.i2z).extBut e2.extBut D.i12.symm).extBut e3.extBut D.TOi2.symm) (((hl2.extBut e1.extBut D.l2z).extBut e2.extBut D.l2i1).extBut e3.extBut D.l2TO) hy λg4 r4 e4=>Å ?_);have t4:Æ5 g4 TO x b:=e4.extBut _ _ D.TOi2 t3;refine À (Ç4 t4 rfl (À (Ø5 t4 λg5 t5 e5=>?_)))
 replace t5:Æ5 g5 TO x y:=t5
 refine À (wpAny_letGo (Å (Å ?_)));refine À (Ç4 t5 rfl (À (wpAny_newTuple ?_)));have sz:g5.objs.size=s.heap.objs.size:=by rw[e5.1,e4.1,e3.1,e2.1,e1.1]
 have z5:Ò1 g5 z TI TO .ellipsis:=e5.extBut _ _ D.TOz.symm (e4.extBut _ _ D.i2z.symm (e3.extBut _ _ D.TOz.symm (e2.extBut _ _ D.i1z.symm z1)));have kp:∀ c o,c≠z->c≠TO->c≠i1->c≠i2->s.heap.get? c=some o->g5.get? c=some o:=λc o c1 c2 c3 c4 e=>e5.extBut _ _ c2 (e4.extBut _ _ c4 (e3.extBut _ _ c2 (e2.extBut _ _ c3 (e1.extBut _ _ c1 e))));have r1:g5.IsTupleIter i1 l1 (k + 1):=((r2.extBut e3.extBut D.TOi1.symm).extBut e4.extBut D.i12).extBut e5.extBut D.TOi1.symm;have r5:g5.IsTupleIter i2 l2 (k + 1):=r4.extBut e5.extBut D.TOi2.symm;have zl:z < g5.objs.size:=à z5;show Î _ _ (ownedTupleHandOut (.ref z) (.ref g5.objs.size) >>= _) _ _ _;refine À ?_;unfold ownedTupleHandOut;have z6:Ò1 (g5.push { cls:=.type "tuple",data:=.seq #[x,y] }) z TI TO .ellipsis:=Ã _ z5;refine À (Ã0 z6 (by simp) λg7 z7 e7=>?_)
 replace z7:Ò1 g7 z TI TO (Ã6 g5.objs.size):=z7
 refine Ã0 z7 (by simp) λg8 z8 e8=>?_
 replace z8:Ò1 g8 z TI TO (Ã6 g5.objs.size):=z8
 have up:∀ c o,c≠z->g5.get? c=some o->g8.get? c=some o:=λc o c1 e=>e8.extBut _ _ c1 (e7.extBut _ _ c1 (Ã _ e));have t8:Æ5 g8 g5.objs.size x y:=e8.extBut _ _ (Ê3 zl) (e7.extBut _ _ (Ê3 zl) (Ê _ rfl));have s8:g8.objs.size=g5.objs.size + 1:=by rw[e8.1,e7.1,Ë2]
 rw[sz] at z8 t8 s8;refine Å ⟨_,rfl,?_⟩;refine Å ?_;show Q (some (.ref g5.objs.size)) _;rw[sz];exact hQ g8 z8 (up _ _ D.TOz t5) (by obtain⟨o,ho,q⟩:=r1;exact⟨o,up _ o D.i1z ho,q⟩) (by obtain⟨o,ho,q⟩:=r5;exact⟨o,up _ o D.i2z ho,q⟩) t8 s8 λc o c1 c2 c3 c4 e=>up c o c1 (kp c o c1 c2 c3 c4 e)
theorem I81{z TI TO i1 i2 l1 l2:Ç}{k:Nat}{xs ys:Array Ä}{a b:Ä}{Q:Option Ä->Æ->Prop}(hh:A.handled=none)(D:ZipApart z TI TO i1 i2 l1 l2)(hz:Ò1 s.heap z TI TO .none)
  (hTI:Æ5 s.heap TI (.ref i1) (.ref i2)) (hTO:Æ5 s.heap TO a b) (h1:s.heap.IsTupleIter i1 l1 k) (h2:s.heap.IsTupleIter i2 l2 k) (hl1:s.heap.IsTuple l1 xs) (hl2:s.heap.IsTuple l2 ys)
  (hend:xs[k]?=none∨ys[k]?=none) (hQ:∀ h',(∀ c o,c≠z->c≠TO->c≠i1->c≠i2->s.heap.get? c=some o->h'.get? c=some o)->Q none { s with heap:=h' }):Î (Ô P w) A (Ñ3 (.ref z)) Q E s:=by
 have hT:s.TypeIs (.ref z) "zip":=⟨_,hz,rfl⟩;have fin:∀ (h':é) (e:Ç),(∀ c o,c≠z->c≠TO->c≠i1->c≠i2->s.heap.get? c=some o->h'.get? c=some o)->(∃ o,h'.get? e=some o/\o.cls=.type "StopIteration") ->
   Î (Ô P w) A (isInstance (.ref e) (.type "StopIteration") >>= λb=>if b=true then pure none else throw (.ref e)) Q E { s with heap:=h' }:=λh' e kp he=>by
  obtain⟨o,ho,hc⟩:=he;exact À (Þ8 (T:="StopIteration") (b:=true) ⟨o,ho,hc⟩ isSubtype_stop (Å (hQ _ kp)))
 unfold Ñ3;refine À (Ë1 (À5 (name:=À9 "__next__") hT Õ5 (À4 Õ5 hT F.entry_zip_next ?_ (F.args_zip_next_1 _))));show Î _ _ (field (.ref z) 2 >>= _) _ _ _;refine À (Á5 hz rfl (x:=.bool false) rfl ?_);show Î _ _ (field (.ref z) 3 >>= _) _ _ _;refine À (Á5 hz rfl (x:=.ref TI) rfl ?_);refine À (Ç4 hTI rfl ?_);show Î _ _ (Ì6 (.ref z) >>= _) _ _ _;refine À ?_;unfold Ì6;refine À (Á5 hz rfl (x:=.none) rfl (Å ?_));simp only[if_true];refine À (É7 (À (Á5 hz rfl (x:=.ref TO) rfl (À (Ã0 hz (by simp) λg1 z1 e1=>?_)))))
 replace z1:Ò1 g1 z TI TO .ellipsis:=z1
 refine À ?_;simp only[List.zipIdx_cons,List.zipIdx_nil,Ì8,Ö6];refine À (À (Û3 ?_));show Î _ _ (nextOf (.ref i1) >>= _) _ _ _;cases hx:xs[k]? with
 |none =>
  refine À (l60 hh (h1.extBut e1.extBut D.i1z) (hl1.extBut e1.extBut D.l1z) hx λg2 e e2 he=>?_);obtain⟨oe,hoe,hce⟩:=he;have z2:Ò1 g2 z TI TO .ellipsis:=e2 _ _ D.i1z.symm z1;have hez:e≠z:=λq=>by subst q;rw[z2] at hoe;cases hoe;simp at hce
  exact Ã0 z2 (by simp) λg3 _ e3=>fin g3 e (λc o c1 _ c3 _ q=>e3.extBut _ _ c1 (e2 _ _ c3 (e1.extBut _ _ c1 q))) ⟨oe,e3.extBut _ _ hez hoe,hce⟩
 |some x =>
  have hy:ys[k]?=none:=by rcases hend with q | q;rw[hx] at q;cases q;exact q
  refine À (p20 (h1.extBut e1.extBut D.i1z) (hl1.extBut e1.extBut D.l1z) hx λg2 r2 e2=>Å ?_);have t2:Æ5 g2 TO a b:=e2.extBut _ _ D.TOi1 (e1.extBut _ _ D.TOz hTO);refine À (Ç4 t2 rfl (À (Ø5 t2 λg3 t3 e3=>?_)));refine À (wpAny_letGo (Å ?_));refine À (À (Û3 ?_));show Î _ _ (nextOf (.ref i2) >>= _) _ _ _;refine À (l60 hh (((h2.extBut e1.extBut D.i2z).extBut e2.extBut D.i12.symm).extBut e3.extBut D.TOi2.symm) (((hl2.extBut e1.extBut D.l2z).extBut e2.extBut D.l2i1).extBut e3.extBut D.l2TO) hy λg4 e e4 he=>?_);obtain⟨oe,hoe,hce⟩:=he;have z4:Ò1 g4 z TI TO .ellipsis:=e4 _ _ D.i2z.symm (e3.extBut _ _ D.TOz.symm (e2.extBut _ _ D.i1z.symm z1));have hez:e≠z:=λq=>by subst q;rw[z4] at hoe;cases hoe;simp at hce
  exact Ã0 z4 (by simp) λg5 _ e5=>fin g5 e (λc o c1 c2 c3 c4 q=>e5.extBut _ _ c1 (e4 _ _ c4 (e3.extBut _ _ c2 (e2.extBut _ _ c3 (e1.extBut _ _ c1 q))))) ⟨oe,e5.extBut _ _ hez hoe,hce⟩
abbrev zT1(h:é)(l1:Ç):Heap:=h.push { cls:=.type "tuple_iterator",data:=.fields #[.ref l1,.int 0 0] }
abbrev zT2(h:é)(l1 l2:Ç):Heap:=(zT1 h l1).push { cls:=.type "tuple_iterator",data:=.fields #[.ref l2,.int 0 0] }
abbrev zT3(h:é)(l1 l2:Ç):Heap:=(zT2 h l1 l2).push { cls:=.type "tuple",data:=.seq #[.ref h.objs.size,.ref (zT1 h l1).objs.size] }
abbrev zT4(h:é)(l1 l2:Ç):Heap:=(zT3 h l1 l2).push { cls:=.type "tuple",data:=.seq #[.none,.none] }
abbrev zT5(h:é)(l1 l2:Ç):Heap:=(zT4 h l1 l2).push { cls:=.type "zip",data:=.fields #[.none,.bool false,.bool false,.ref (zT2 h l1 l2).objs.size,.ref (zT3 h l1 l2).objs.size] }
theorem l21(l1 l2:Ç)(xs ys:Array Ä) :
  Meets (ÿ.«zip.__new__» ⟨[.type "zip",.ref l1,.ref l2],[]⟩) (λ_ R s=>s.heap.IsTuple l1 xs/\s.heap.IsTuple l2 ys/\R (.ok (.ret (.ref (zT4 s.heap l1 l2).objs.size))) { s with heap:=zT5 s.heap l1 l2 }) :=
 .of_wp λP w A R s h=>by
  obtain⟨hp,g,d,tk,os⟩:=s;obtain⟨hl1,hl2,h⟩:=h;have hsub:=sub_zip;have hL1:Ó3 (Æ.heap ⟨hp,g,d,tk,os⟩) l1 xs:=hl1;have hL2:Ó3 (Æ.heap ⟨hp.push { cls:=.type "tuple_iterator",data:=.fields #[.ref l1,.int 0 0] },g,d,tk,os⟩) l2 ys:=Ó3.push hl2 _
  wp_walk using Ç8 hL1,Ç8 hL2
  exact⟨_,rfl,h⟩
theorem s31(hl1:s.heap.IsTuple l1 xs)(hl2:s.heap.IsTuple l2 ys)
  (h:∀ h',Ò1 h' (s.heap.objs.size + 4) (s.heap.objs.size + 2) (s.heap.objs.size + 3) .none->Æ5 h' (s.heap.objs.size + 2) (.ref s.heap.objs.size) (.ref (s.heap.objs.size + 1))->Æ5 h' (s.heap.objs.size + 3) .none .none ->
   h'.IsTupleIter s.heap.objs.size l1 0->h'.IsTupleIter (s.heap.objs.size + 1) l2 0->(∀ c o,s.heap.get? c=some o->h'.get? c=some o)->Q (.ref (s.heap.objs.size + 4)) { s with heap:=h' }) :
  Î (Ô P w) A (call (.type "zip") [.ref l1,.ref l2]) Q E s:=by
 refine callType_new F.called_zip (-0) (F.typeCall_zip_2 _ _) (F.newCall_zip_2 _ _) (λobj=>F.args_object_init_3 obj _ _) F.entry_zip_new (l21 l1 l2 xs ys) ⟨hl1,hl2,?_⟩
 have n1:(zT1 s.heap l1).objs.size=s.heap.objs.size + 1:=Ë2 ..;have n2:(zT2 s.heap l1 l2).objs.size=s.heap.objs.size + 2:=by rw[Ë2,n1]
 have n3:(zT3 s.heap l1 l2).objs.size=s.heap.objs.size + 3:=by rw[Ë2,n2]
 have n4:(zT4 s.heap l1 l2).objs.size=s.heap.objs.size + 4:=by rw[Ë2,n3]
 have g5:(zT5 s.heap l1 l2).get? (zT4 s.heap l1 l2).objs.size=some _:=Ê _ rfl;have g4:(zT5 s.heap l1 l2).get? (zT3 s.heap l1 l2).objs.size=some _:=Ã _ (Ê _ rfl);have g3:(zT5 s.heap l1 l2).get? (zT2 s.heap l1 l2).objs.size=some _:=Ã _ (Ã _ (Ê _ rfl));have g2:(zT5 s.heap l1 l2).get? (zT1 s.heap l1).objs.size=some _:=Ã _ (Ã _ (Ã _ (Ê _ rfl)));have g1:(zT5 s.heap l1 l2).get? s.heap.objs.size=some _:=Ã _ (Ã _ (Ã _ (Ã _ (Ê _ rfl))));show _/\_;rw[n2,n3,n4] at g5;rw[n1,n2] at g3;rw[n3] at g4;rw[n1] at g2;rw[n4];exact⟨⟨_,g5,rfl⟩,h _ g5 g3 g4 ⟨_,g1,rfl,rfl⟩ ⟨_,g2,rfl,rfl⟩ λc o q=>Ã _ (Ã _ (Ã _ (Ã _ (Ã _ q))))⟩
end
open PySem PySem.Spec PyProof.Rows
section
variable {X:Cx}{pins:List (Ç × Obj)}{σ:St}{H:Hp}{s:Æ}{h':é}
theorem Inv.J80{t':Nat}{ch:List Ç}(I:Inv X pins σ H s)(hf:∀ b∈ch,Y10 X pins H b)(k:∀ b o,b ∉ ch->s.heap.get? b=some o->h'.get? b=some o):Inv X pins σ H { s with heap:=h',toks:=t' }:=by
 have nch:∀ b u,H b=some u->b ∉ ch:=λb u e z=>by rw[(hf b z).1] at e;cases e
 refine I.step (g':=s.gens) (d':=s.drawn) (ch:=ch) (λb hb=>⟨(hf b hb).2.2.2.1,(hf b hb).2.1,(hf b hb).2.2.2.2.1,(hf b hb).2.2.2.2.2⟩) (λb o _ _ hc e _=>k b o hc e) (λb o _ _ hc e _=>⟨o.slots,k b o hc e⟩) (λ_ _ _ _ n=>n)
  (λb o hc e=>⟨o,k b o hc e⟩) (λ_ _ e=>e) (λ_ _ _ e=>e) (λb ps e=>⟨#[],by rw[e];simp⟩) (λm hm=>?_) (λb u e=>?_) I.bare
 ·obtain⟨o,es,ep,ho,r⟩:=hm;exact⟨o,es,ep,k _ o (λz=>(hf _ z).2.1 rfl) ho,r⟩
 ·refine(I.hok b u e).k51 (λc v hc q=>k c v ?_ q) (λ_ q=>q) λ_ _ q=>q;rcases hc with z | z
  ·rw[z];exact nch b u e
  ·exact nch c _ z
theorem Inv.I61{T:Ç}{o:HO}(I:Inv X pins σ H s)(f:Y10 X pins H T)(h0:X.s₀.heap.objs.size<=T)(hok:HOk X.prog X.w (upd H T o) s.heap):Inv X pins σ (upd H T o) s:=by
 have u:=I.base;refine⟨I.ok,I.os,I.bare,⟨u.keep,u.slot,λb ob e n hx=>?_,u.there,λb xs e=>?_,λb ob xs e=>?_,λb ps e=>?_⟩,I.loc,I.cell,?_,λx c e=>?_,λp hp=>?_,hok,I.len⟩
 ·rw[a60 (Ø (Þ (à e) h0))];exact u.free b ob e n hx
 ·have z:=u.tups b xs e;rw[a60 (a80 z f.1)];exact z
 ·have z:=u.frzs b ob xs e;rw[a60 (a80 z f.1)];exact z
 ·obtain⟨more,z⟩:=u.tbls b ps e;exact⟨more,by rw[a60 (a80 z f.1)];exact z⟩
 ·rw[a60 f.2.1.symm];exact I.free
 ·rw[a60 (f.2.2.2.2.1 x c e)];exact I.freeC x c e
 ·obtain⟨e,n,r⟩:=I.pin p hp;exact⟨e,by rw[a60 (f.2.2.2.2.2 p hp)];exact n,r⟩
theorem HOk.S81{P:Ý}{w:è}{H:Hp}{h:é}{D:Ç}{ys:List V}{its:List Ä}(x:HOk P w H h)(hn:H D=none)(hv:Vals ys its)(hz:ys.length<=Ú)(ho:Ï0 h D its.toArray):HOk P w (upd H D (.tup ys)) h:=λb u e=>by
 by_cases hb:b=D
 ·subst hb;rw[b20] at e;cases e;exact⟨hz,its,hv,ho⟩
 ·rw[a60 hb] at e;exact(x b u e).k51 (λc v _ q=>q) (λc q=>by rw[a60 (a80 q hn)];exact q) λc xs q=>by rw[a60 (a80 q hn)];exact q
end
def SqB:Bool->Â->Hp->Ç->List V->Prop
 |true=>SqL|false=>SqT
def R40:Bool->é->Ç->Ç->Nat->Prop
 |true=>é.IsListIter|false=>é.IsTupleIter
def I91:Bool->é->Ç->Array Ä->Prop
 |true=>é.IsList|false=>Ó3
theorem R40.obj{b:Bool}{h:é}{it a:Ç}{i:Nat}(st:R40 b h it a i):∃ o,h.get? it=some o/\(∀ v,o.data=.cell v->False)/\∀ h':é,h'.get? it=some o->R40 b h' it a i:=by
 cases b with
 |true=>obtain⟨o,g,c,d⟩:=st;exact⟨o,g,(λv e=>by rw[d] at e;cases e),λh' k=>⟨o,k,c,d⟩⟩
 |false=>obtain⟨o,g,c,d⟩:=st;exact⟨o,g,(λv e=>by rw[d] at e;cases e),λh' k=>⟨o,k,c,d⟩⟩
theorem Inv.J01(I:Inv X pins σ H s)(h:SqB b X.K H a xs):∃ its:List Ä,Vals xs its/\I91 b s.heap a its.toArray/\a < s.heap.objs.size/\∀ ys,SqB b X.K H a ys->ys=xs:=by
 cases b with
 |true=>obtain⟨its,r,p,_⟩:=I.list h;exact⟨its,r,p.isList,by obtain⟨o,e,_⟩:=p.isList;exact à e,λys h'=>I.d71 h' h⟩
 |false=>obtain⟨its,r,p,_⟩:=I.tuple h;exact⟨its,r,p,by obtain⟨o,e,_⟩:=p;exact à e,λys h'=>I.P70 h' h⟩
section
variable {P:Ý}{w:è}{A:ö}{E:Ä->Æ->Prop}{s:Æ}{b:Bool}{z TI TO i1 i2 l1 l2:Ç}{k:Nat}{xs ys:Array Ä}{x y p q:Ä}
theorem s41{Q:Option Ä->Æ->Prop}(D:ZipApart z TI TO i1 i2 l1 l2)(hz:Ò1 s.heap z TI TO .none)(hTI:Æ5 s.heap TI (.ref i1) (.ref i2))(hTO:Æ5 s.heap TO p q)(h1:R40 b s.heap i1 l1 k)(h2:R40 b s.heap i2 l2 k)(hl1:I91 b s.heap l1 xs)(hl2:I91 b s.heap l2 ys)(hx:xs[k]?=some x)(hy:ys[k]?=some y)
  (hQ:∀ h',Ò1 h' z TI TO (Ã6 s.heap.objs.size)->Æ5 h' TO x y->R40 b h' i1 l1 (k + 1)->R40 b h' i2 l2 (k + 1)->Æ5 h' s.heap.objs.size x y->h'.objs.size=s.heap.objs.size + 1 ->
   (∀ c o,c≠z->c≠TO->c≠i1->c≠i2->s.heap.get? c=some o->h'.get? c=some o)->Q (some (.ref s.heap.objs.size)) { s with heap:=h' }):Î (Ô P w) A (Ñ3 (.ref z)) Q E s:=match b,h1,h2,hl1,hl2,hQ with
 |true,h1,h2,hl1,hl2,hQ=>wpAny_pyNext_zip_item D hz hTI hTO h1 h2 hl1 hl2 hx hy hQ|false,h1,h2,hl1,hl2,hQ=>s21 D hz hTI hTO h1 h2 hl1 hl2 hx hy hQ
theorem J11{Q:Option Ä->Æ->Prop}(hh:A.handled=none)(D:ZipApart z TI TO i1 i2 l1 l2)(hz:Ò1 s.heap z TI TO .none)(hTI:Æ5 s.heap TI (.ref i1) (.ref i2))(hTO:Æ5 s.heap TO p q)(h1:R40 b s.heap i1 l1 k)(h2:R40 b s.heap i2 l2 k)(hl1:I91 b s.heap l1 xs)(hl2:I91 b s.heap l2 ys)
  (hend:xs[k]?=none∨ys[k]?=none) (hQ:∀ h',(∀ c o,c≠z->c≠TO->c≠i1->c≠i2->s.heap.get? c=some o->h'.get? c=some o)->Q none { s with heap:=h' }):Î (Ô P w) A (Ñ3 (.ref z)) Q E s:=match b,h1,h2,hl1,hl2 with
 |true,h1,h2,hl1,hl2=>wpAny_pyNext_zip_end hh D hz hTI hTO h1 h2 hl1 hl2 hend hQ|false,h1,h2,hl1,hl2=>I81 hh D hz hTI hTO h1 h2 hl1 hl2 hend hQ
theorem s51{Q:Ä->Æ->Prop}(hl1:I91 b s.heap l1 xs)(hl2:I91 b s.heap l2 ys)
  (h:∀ h',Ò1 h' (s.heap.objs.size + 4) (s.heap.objs.size + 2) (s.heap.objs.size + 3) .none->Æ5 h' (s.heap.objs.size + 2) (.ref s.heap.objs.size) (.ref (s.heap.objs.size + 1))->Æ5 h' (s.heap.objs.size + 3) .none .none ->
   R40 b h' s.heap.objs.size l1 0->R40 b h' (s.heap.objs.size + 1) l2 0->(∀ c o,s.heap.get? c=some o->h'.get? c=some o)->Q (.ref (s.heap.objs.size + 4)) { s with heap:=h' }):Î (Ô P w) A (call (.type "zip") [.ref l1,.ref l2]) Q E s:=match b,hl1,hl2,h with
 |true,hl1,hl2,h=>call_zip_2 hl1 hl2 λh' a1 a2 a3 a4 a5 _ a6=>h h' a1 a2 a3 a4 a5 a6|false,hl1,hl2,h=>s31 hl1 hl2 h
end
def Itz(b:Bool)(K:Â)(a c:Ç):It :=
 ⟨λi H=>∃ xs ys x y,SqB b K H a xs/\SqB b K H c ys/\xs[i]?=some x/\ys[i]?=some y,
  λi H v H'=>∃ T,v=.ref T/\H T=none/\∀ xs ys x y,SqB b K H a xs->SqB b K H c ys->xs[i]?=some x->ys[i]?=some y->H'=upd H T (.tup [x,y]),
  λi H=>∃ xs ys,SqB b K H a xs/\SqB b K H c ys/\(xs.length<=i∨ys.length<=i)⟩
theorem J21{P:Ý}{w:è}{K:Â}{es:List Ï}{ek:Nat}{ep:Pos}{b:Bool}{a c z TI TO i1 i2:Ç}(D:ZipApart z TI TO i1 i2 a c) :
  Turn P w K (.Tuple es ek ep) (Itz b K a c) [z,TI,TO,i1,i2] z (λi h=>Ò1 h z TI TO .none/\Æ5 h TI (.ref i1) (.ref i2)/\(∃ p q,Æ5 h TO p q)/\R40 b h i1 a i/\R40 b h i2 c i) where
 mem:=by simp
 obj:=λi h st c hc=>by
  obtain⟨hz,hTI,⟨p,q,hTO⟩,h1,h2⟩:=st;obtain⟨o1,h1,d1,_⟩:=h1.obj;obtain⟨o2,h2,d2,_⟩:=h2.obj;simp only[Â9,À1,or_false] at hc;rcases hc with rfl | rfl | rfl | rfl | rfl
  ·exact⟨_,hz,λv e=>by cases e⟩
  ·exact⟨_,hTI,λv e=>by cases e⟩
  ·exact⟨_,hTO,λv e=>by cases e⟩
  ·exact⟨_,h1,d1⟩
  ·exact⟨_,h2,d2⟩
 keep:=λi h h' st k=>by
  obtain⟨hz,hTI,⟨p,q,hTO⟩,h1,h2⟩:=st;obtain⟨o1,h1,_,r1⟩:=h1.obj;obtain⟨o2,h2,_,r2⟩:=h2.obj;exact⟨k z (by simp) _ hz,k TI (by simp) _ hTI,⟨p,q,k TO (by simp) _ hTO⟩,r1 _ (k i1 (by simp) _ h1),r2 _ (k i2 (by simp) _ h2)⟩
 item:=by
  intro X hP hw hK hc i pins s σ H E I hf st hg;subst hP hw hK;obtain⟨xs,ys,x,y,hq1,hq2,hx,hy⟩:=hg;obtain⟨v1,rv1,p1,_,z1⟩:=I.J01 hq1;obtain⟨v2,rv2,p2,_,z2⟩:=I.J01 hq2;obtain⟨u1,hu1,ru1⟩:=rv1.get hx;obtain⟨u2,hu2,ru2⟩:=rv2.get hy;obtain⟨hz,hTI,⟨p,q,hTO⟩,h1,h2⟩:=st;refine s41 D hz hTI hTO h1 h2 p1 p2 (x:=u1) (y:=u2) (by simpa using hu1) (by simpa using hu2) λg1 gz gTO g1' g2' gT gs kp=>⟨_,rfl,?_⟩
  refine wpAny_letOwnedTupleGo_zip (s:={ s with heap:=g1 }) gz λg2 gz2 sb=>?_;have hT:H s.heap.objs.size=none:=I.hok.fresh (Í _);have kall:∀ c o,c ∉ [z,TI,TO,i1,i2]->s.heap.get? c=some o->g2.get? c=some o:=λc o hc e=>by
   simp only[Â9,À1,or_false,not_or] at hc;exact sb.extBut _ _ hc.1 (kp c o hc.1 hc.2.2.1 hc.2.2.2.1 hc.2.2.2.2 e)
  have I2:Inv X pins σ H { s with heap:=g2 }:=I.J80 (t':=s.toks) hf kall;have fT:Y10 X pins H s.heap.objs.size:=I.p21 (Í _) hT;have gT2:g2.get? s.heap.objs.size=some { cls:=.type "tuple",data:=.seq #[u1,u2] }:=sb.extBut _ _ (λe=>Á4 _ (by have:=à hz;rw[← e] at this;exact this)) gT
  have I3:Inv X pins σ (upd H s.heap.objs.size (.tup [x,y])) { s with heap:=g2 }:=I2.I61 fT I.sz (I2.hok.S81 hT (its:=[u1,u2]) (.cons ru1 (.cons ru2 .nil)) (by show 2<=Ú;rw[Á2];decide) ⟨_,gT2,rfl,_,rfl⟩)
  have TI0:Æ5 g2 TI (.ref i1) (.ref i2):=sb.extBut _ _ D.TIz (kp _ _ D.TIz D.TITO D.TIi1 D.TIi2 hTI);obtain⟨o1,w1,_,r1⟩:=g1'.obj;obtain⟨o2,w2,_,r2⟩:=g2'.obj;refine⟨.ref s.heap.objs.size,_,I3,rfl,⟨_,rfl,hT,λxs' ys' x' y' e1 e2 e3 e4=>?_⟩,⟨gz2,TI0,⟨_,_,sb.extBut _ _ D.TOz gTO⟩,r1 _ (sb.extBut _ _ D.i1z w1),r2 _ (sb.extBut _ _ D.i2z w2)⟩,λc hc=>?_⟩
  ·rw[z1 _ e1] at e3;rw[z2 _ e2] at e4;rw[hx] at e3;rw[hy] at e4;cases e3;cases e4;rfl
  ·rw[a60]
   ·exact(hf c hc).1
   ·intro e;obtain⟨o1,h1,_⟩:=h1.obj;obtain⟨o2,h2,_⟩:=h2.obj;have lt:c < s.heap.objs.size:=by
     simp only[Â9,À1,or_false] at hc;rcases hc with rfl | rfl | rfl | rfl | rfl
     ·exact à hz
     ·exact à hTI
     ·exact à hTO
     ·exact à h1
     ·exact à h2
    rw[e] at lt;exact Á4 _ lt
 done:=by
  intro X hP hw hK hc i pins s σ H E I hf st hg;subst hP hw hK;obtain⟨xs,ys,hq1,hq2,hend⟩:=hg;obtain⟨v1,rv1,p1,_⟩:=I.J01 hq1;obtain⟨v2,rv2,p2,_⟩:=I.J01 hq2;obtain⟨hz,hTI,⟨p,q,hTO⟩,h1,h2⟩:=st;have l1:=rv1.length;have l2:=rv2.length;refine J11 (I.ok.hd hc) D hz hTI hTO h1 h2 p1 p2 (hend.elim (λe=>.inl (by simp;omega)) λe=>.inr (by simp;omega)) λg kp=>⟨rfl,I.J80 (t':=s.toks) hf λc o hcn e=>?_⟩
  simp only[Â9,À1,or_false,not_or] at hcn;exact kp c o hcn.1 hcn.2.2.1 hcn.2.2.2.1 hcn.2.2.2.2 e
 self:=λ_ _ _ _ _ st h=>wpAny_pyIter_zip st.1 h
def R72(K:Â)(ta:TA):TI:=λσ H R=>ta σ H λvs H1=>∃ b a c,vs=[.ref a,.ref c]/\(∃ xs,SqB b K H1 a xs)/\(∃ ys,SqB b K H1 c ys)/\R (Itz b K a c) H1
theorem boot_zip:ï "zip"=some (.type "zip"):=by decide +kernel
theorem n92{X:Cx}{a b:Ï}{es:List Ï}{ek:Nat}{ep:Pos}{ta:TA}{p pos:Pos}(hg:Gl X "zip")(hm:X.mg "zip"=none)(ha:PA X [a,b] ta)(hs:þ [a,b] X.env=[(false,eval a X.env),(false,eval b X.env)]:=by rfl)(hs2:þ [b] X.env=[(false,eval b X.env)]:=by rfl) :
  PI X (.Tuple es ek ep) (.Call (.Name "zip" p) [a,b] [] pos) (R72 X.K ta):=by
 intro pins s σ H R I h;refine Call_ (t30 I hg hm boot_zip (Á1 (thn (ha pos pins s σ H _ I h) λus s1 ⟨vs,H1,I1,r1,q1⟩=>?_) (by rw[hs,hs2]) (by rw[hs2];rfl)))
 obtain⟨b,l1,l2,e,⟨xs,hq1⟩,⟨ys,hq2⟩,q⟩:=q1;subst e;obtain⟨u,w',rfl,r,r'⟩:=vals2 r1;cases r;cases r';obtain⟨v1,rv1,p1,a1,_⟩:=I1.J01 hq1;obtain⟨v2,rv2,p2,a2,_⟩:=I1.J01 hq2;refine s51 p1 p2 λh' hz hTI hTO h1 h2 kp=>wpAny_pyIter_zip (s:={ s1 with heap:=h' }) hz ?_;refine⟨_,[s1.heap.objs.size + 4,s1.heap.objs.size + 2,s1.heap.objs.size + 3,s1.heap.objs.size,s1.heap.objs.size + 1],_,_,H1,rfl,I1.kept (t':=s1.toks) kp,J21 (PyProof.Rows.zipApart_new a1 a2),⟨hz,hTI,⟨_,_,hTO⟩,h1,h2⟩,λc hc=>?_,q⟩;have hc':s1.heap.objs.size<=c:=by
  simp only[Â9,À1,or_false] at hc;rcases hc with rfl | rfl | rfl | rfl | rfl
  ·exact É4 _ 4
  ·exact É4 _ 2
  ·exact É4 _ 3
  ·exact Í _
  ·exact É4 _ 1
 exact I1.p21 hc' (I1.hok.fresh hc')
theorem J31(hc:X.calm=true):g70 X (.builtin "all") (λxs H Q=>∃ (a:Ç) (bs:List Bool),xs=[.ref a]/\SqL X.K H a (bs.map V.bl)/\Q (.bl (bs.all id)) H):=by
 intro pins s σ H xs us Q I r h;obtain⟨a,bs,rfl,hq,q⟩:=h;obtain⟨u,rfl,rx⟩:=vals1 r;cases rx;obtain⟨its,rv,pl,hz⟩:=I.list hq;have hlt:a < s.heap.objs.size:=by obtain⟨_,e,_⟩:=pl.isList;exact à e
 have hlen:its.length=bs.length:=by have:=rv.length;simpa using this.symm
 refine call_all_walk (Ý2 pl.isList ⟨_,_,_,_,_,_,λi=>(bs[i]?).getD true,rfl,Walks.list (by exact I.ok.hd hc) s.heap.objs.size a (Ø hlt) its.toArray,⟨⟨_,Ê _ rfl,rfl,rfl⟩,pl.isList.push _⟩,?_,?_⟩)
 ·intro i v s' Q' E' hP hQ;have hP':its[i]?=some v:=by simpa using hP
  have hi:i < bs.length:=by rw[← hlen];exact(ß.mp hP').1
  obtain⟨v',hv',rv'⟩:=rv.get (i:=i) (x:=.bl bs[i]) (by simp[hi])
  rw[hP'] at hv';cases hv';cases (show v=Î6 _ from rv');exact Â5 (by simpa [hi] using hQ)
 ·intro h' tk kp;refine⟨.bl (bs.all id),H,I.kept λb o e=>kp b o (by simpa using Ø (à e)) (Ã _ e),?_,q⟩
  show Î6 _=Î6 _;rw[Ó,hlen,PyProof.Rows.LSm.range_all]
end L2
namespace MySort
open PySem PySem.W PyProof.Rows
def run{α:Type}(cmp:Nat->Nat->Bool):KasT α->α
 |.ret a=>a|.ask i j k=>run cmp (k (cmp i j))
theorem run_bind(cmp:Nat->Nat->Bool)(f:α->KasT β):∀ t:KasT α,run cmp (t.bind f)=run cmp (f (run cmp t))
 |.ret _=>rfl|.ask i j k=>run_bind cmp f (k (cmp i j))
section
variable (O:KeyOrd) (key:Nat->O.α)
def kk(p:Array Nat)(i:Nat):O.α:=key (p.getD i 0)
abbrev k70:Nat->Nat->Bool:=λi j=>O.blt (key i) (key j)
def Up(p:Array Nat)(n:Nat):Prop:=∀ i j,i<=j->j < n->O.kle (kk O key p i) (kk O key p j)
def Dn(p:Array Nat)(n:Nat):Prop:=∀ i j,i<=j->j < n->O.kle (kk O key p j) (kk O key p i)
variable {O key}
theorem t60(h:p[i]?=q[j]?):kk O key p i=kk O key q j:=by
 unfold kk;rw[Í9,Í9,h]
theorem s61(hj:j<=p.size)(k:Nat):kk O key (Ç9 p i j) k=if i<=k/\k < j then kk O key p (i + j - 1 - k) else kk O key p k:=by
 have e:=getElem?_mirror_all (i:=i) hj k;unfold Ç9;by_cases h1:i<=k/\k < j
 ·rw[if_pos h1] at e ⊢;exact t60 e
 ·rw[if_neg h1] at e ⊢;exact t60 e
theorem o02(hs:k < p.size)(hd:d<=k)(i:Nat) :
  kk O key (bubble p k d) i=if i=k - d then kk O key p k else if k - d < i/\i<=k then kk O key p (i - 1) else kk O key p i:=by
 have e:=getElem?_bubble hs d hd i;by_cases h1:i=k - d
 ·rw[if_pos h1] at e ⊢;exact t60 e
 ·rw[if_neg h1] at e ⊢;by_cases h2:k - d < i/\i<=k
  ·rw[if_pos h2] at e ⊢;exact t60 e
  ·rw[if_neg h2] at e ⊢;exact t60 e
theorem Up.more(h:Up O key p n)(h1:1<=n)(hl:O.kle (kk O key p (n - 1)) (kk O key p n)):Up O key p (n + 1):=by
 intro i j hij hj;by_cases e:j=n
 ·subst e;by_cases e2:i=j
  ·subst e2;exact Ç3 _
  ·exact Ú0 (h i (j - 1) ∅ ∅) hl
 ·exact h i j hij ∅
theorem Dn.more(h:Dn O key p n)(h1:1<=n)(hl:O.kle (kk O key p n) (kk O key p (n - 1))):Dn O key p (n + 1):=by
 intro i j hij hj;by_cases e:j=n
 ·subst e;by_cases e2:i=j
  ·subst e2;exact Ç3 _
  ·exact Ú0 hl (h i (j - 1) ∅ ∅)
 ·exact h i j hij ∅
theorem s71:∀ (f n:Nat),1<=n->Up O key p n ->
  n<=run (k70 O key) (È0 p f n)/\run (k70 O key) (È0 p f n)<=n + f/\Up O key p (run (k70 O key) (È0 p f n)) /\
   (run (k70 O key) (È0 p f n) < n + f->O.klt (kk O key p (run (k70 O key) (È0 p f n))) (kk O key p (run (k70 O key) (È0 p f n) - 1)))
 |0,n,h1,hu=>⟨Í _,Í _,hu,λh=>absurd h (Á4 _)⟩
 |f + 1,n,h1,hu=>by
  show n<=run _ (if O.blt (kk O key p n) (kk O key p (n - 1))=true then Ò6 n else È0 p f (n + 1))/\run _ (if O.blt (kk O key p n) (kk O key p (n - 1))=true then Ò6 n else È0 p f (n + 1))<=n + (f + 1) /\
   Up O key p (run _ (if O.blt (kk O key p n) (kk O key p (n - 1))=true then Ò6 n else È0 p f (n + 1))) /\
   (run _ (if O.blt (kk O key p n) (kk O key p (n - 1))=true then Ò6 n else È0 p f (n + 1)) < n + (f + 1) ->
    O.klt (kk O key p (run _ (if O.blt (kk O key p n) (kk O key p (n - 1))=true then Ò6 n else È0 p f (n + 1)))) (kk O key p (run _ (if O.blt (kk O key p n) (kk O key p (n - 1))=true then Ò6 n else È0 p f (n + 1)) - 1)))
  cases hb:O.blt (kk O key p n) (kk O key p (n - 1)) with
  |true =>
   simp only[if_true];exact⟨Í _,by show n<=n + (f + 1);omega,hu,λ_=>hb⟩
  |false =>
   simp only[Ã4,if_false];have ih:=s71 f (n + 1) ∅ (hu.more h1 hb)
   refine⟨by omega,by omega,ih.2.2.1,λh=>ih.2.2.2 ∅⟩
theorem rev_eq(hj:j<=p.size)(he:∀ k,i<=k->k < j->kk O key p k=kk O key p (j - 1))(k:Nat):kk O key (Ç9 p i j) k=kk O key p k:=by
 rw[s61 hj];split
 ·rw[he _ ∅ ∅,he k ∅ ∅]
 ·rfl
theorem J90(p:Array Nat)(i j:Nat):(Ç9 p i j).Perm p:=mirror_perm _ _ _ _
theorem K00(p:Array Nat)(i j:Nat):(Ç9 p i j).size=p.size:=mirror_size _ _ _ _
structure DnR(O:KeyOrd)(key:Nat->O.α)(p0 p:Array Nat)(n q:Nat):Prop where
 perm:p.Perm p0
 size:p.size=p0.size
 pos:q + 1<=n
 dn:Dn O key p n
 eq:∀ k,n - (q + 1)<=k->k < n->kk O key p k=kk O key p (n - 1)
theorem DnR.rev(h:DnR O key p0 p n q)(hn:n<=p0.size):DnR O key p0 (Ç9 p (n - (q + 1)) n) n q:=by
 have hz:=h.size;have e:=rev_eq (O:=O) (key:=key) (i:=n - (q + 1)) (j:=n) (p:=p) ∅ h.eq
 exact⟨(J90 _ _ _).trans h.perm,(K00 _ _ _).trans hz,h.pos,λi j hij hj=>by rw[e,e];exact h.dn i j hij hj,λk h1 h2=>by rw[e,e];exact h.eq k h1 h2⟩
theorem Y70:∀ (f:Nat) (p:Array Nat) (n q:Nat),DnR O key p0 p n q->n + f<=p0.size ->
  n<=(run (k70 O key) (Ã2 f p n q)).2.1/\(run (k70 O key) (Ã2 f p n q)).2.1<=n + f /\
   DnR O key p0 (run (k70 O key) (Ã2 f p n q)).1 (run (k70 O key) (Ã2 f p n q)).2.1 (run (k70 O key) (Ã2 f p n q)).2.2
 |0,p,n,q,h,_=>⟨Í _,Í _,h⟩
 |f + 1,p,n,q,h,hn=>by
  have hp:=h.pos;have hz:=h.size;have unf:run (k70 O key) (Ã2 (f + 1) p n q)=run (k70 O key) (if O.blt (kk O key p n) (kk O key p (n - 1))=true then(if q > 0 then Ã2 f (Ç9 p (n - (q + 1)) n) (n + 1) 0 else Ã2 f p (n + 1) 0)
   else .ask (p.getD (n - 1) 0) (p.getD n 0) λd=>if d=true then .ret (p,n,q) else Ã2 f p (n + 1) (q + 1)):=rfl
  rw[unf];cases hb:O.blt (kk O key p n) (kk O key p (n - 1)) with
  |true =>
   simp only[if_true];have go:∀ p',DnR O key p0 p' n q->(∀ k,kk O key p' k=kk O key p k)->n<=(run (k70 O key) (Ã2 f p' (n + 1) 0)).2.1/\(run (k70 O key) (Ã2 f p' (n + 1) 0)).2.1<=n + (f + 1) /\
     DnR O key p0 (run (k70 O key) (Ã2 f p' (n + 1) 0)).1 (run (k70 O key) (Ã2 f p' (n + 1) 0)).2.1 (run (k70 O key) (Ã2 f p' (n + 1) 0)).2.2:=λp' h' e=>by
    have ih:=Y70 f p' (n + 1) 0 ⟨h'.perm,h'.size,by omega,h'.dn.more ∅ (by rw[e,e];exact Ï9 hb),λk h1 h2=>by
     have:k=n:=by omega
     subst this;rfl⟩ ∅
    exact⟨by omega,by omega,ih.2.2⟩
   split
   ·exact go _ (h.rev ∅) (rev_eq ∅ h.eq)
   ·exact go _ h λ_=>rfl
  |false =>
   simp only[Ã4,if_false];have unf2:run (k70 O key) (KasT.ask (p.getD (n - 1) 0) (p.getD n 0) λd=>if d=true then .ret (p,n,q) else Ã2 f p (n + 1) (q + 1)) =
    run (k70 O key) (if O.blt (kk O key p (n - 1)) (kk O key p n)=true then .ret (p,n,q) else Ã2 f p (n + 1) (q + 1)):=rfl
   rw[unf2];cases hc:O.blt (kk O key p (n - 1)) (kk O key p n) with
   |true =>
    simp only[if_true];exact⟨Í _,by show n<=n + (f + 1);omega,h⟩
   |false =>
    simp only[Ã4,if_false];have e:kk O key p n=kk O key p (n - 1):=O.total _ _ hb hc;have ih:=Y70 f p (n + 1) (q + 1) ⟨h.perm,h.size,by omega,h.dn.more ∅ (by rw[e];exact Ç3 _),λk h1 h2=>by
     show _=kk O key p n;by_cases hk:k=n
     ·rw[hk]
     ·rw[e];exact h.eq k ∅ ∅⟩ ∅
    exact⟨by omega,by omega,ih.2.2⟩
structure E02(O:KeyOrd)(key:Nat->O.α)(p0:Array Nat)(nrem:Nat)(r:Nat × Array Nat):Prop where
 perm:r.2.Perm p0
 size:r.2.size=p0.size
 lo:1<=r.1
 hi:r.1<=nrem
 up:Up O key r.2 r.1
theorem e31(hp:p.Perm p0)(hz:p.size=p0.size)(hd:Dn O key p n)(h1:1<=n)(hn:n<=nrem)(hr:nrem<=p0.size):E02 O key p0 nrem (run (k70 O key) (kas_tail3 n nrem p)):=by
 unfold kas_tail3;rw[run_bind];have hu:Up O key (Ç9 p 0 n) n:=λi j hij hj=>by
  rw[s61 ∅,s61 ∅,if_pos ∅,if_pos ∅]
  exact hd _ _ ∅ ∅
 have a:=s71 (O:=O) (key:=key) (p:=Ç9 p 0 n) (nrem - n) n h1 hu;exact⟨(J90 _ _ _).trans hp,(K00 _ _ _).trans hz,by show 1<=run _ (È0 _ _ _);omega,by show run _ (È0 _ _ _)<=_;omega,a.2.2.1⟩
theorem B60(hp:p.Perm p0)(hz:p.size=p0.size)(hd:Dn O key p (n + 1))(hn:n + 1<=nrem)(hr:nrem<=p0.size):E02 O key p0 nrem (run (k70 O key) (Ð6 n nrem p)):=by
 unfold Ð6;rw[run_bind];have d:=Y70 (O:=O) (key:=key) (p0:=p0) (nrem - (n + 1)) p (n + 1) 0 ⟨hp,hz,by omega,hd,λk h1 h2=>by
  have:k=n:=by omega
  subst this;rfl⟩ ∅
 obtain⟨d1,d2,d3⟩:=d;have hpos:=d3.pos;split
 ·have d4:=d3.rev ∅
  exact e31 d4.perm d4.size d4.dn ∅ ∅ hr
 ·exact e31 d3.perm d3.size d3.dn ∅ ∅ hr
theorem J41(h1:1<=nrem)(hr:nrem<=p.size):E02 O key p nrem (run (k70 O key) (ß1 nrem p)):=by
 unfold ß1;rw[run_bind];have a:=s71 (O:=O) (key:=key) (p:=p) (nrem - 1) 1 (Í _) (λi j hij hj=>by
  have:i=j:=by omega
  subst this;exact Ç3 _)
 generalize run (k70 O key) (È0 p (nrem - 1) 1)=n at a ⊢;obtain⟨a1,a2,a3,a4⟩:=a;split
 ·exact⟨Ì3 _,rfl,a1,by show n<=nrem;omega,a3⟩
 ·rename_i hne;have hlt:n < nrem:=by
   have:n≠nrem:=by simpa using hne
   omega
  have hl:=a4 ∅
  split
  ·rename_i h2;have unf:run (k70 O key) (KasT.ask (p.getD 0 0) (p.getD (n - 1) 0) λc=>if c=true then .ret (n,p) else Ð6 n nrem (Ç9 p 0 n)) =
    run (k70 O key) (if O.blt (kk O key p 0) (kk O key p (n - 1))=true then .ret (n,p) else Ð6 n nrem (Ç9 p 0 n)):=rfl
   rw[unf];cases hb:O.blt (kk O key p 0) (kk O key p (n - 1)) with
   |true =>
    simp only[if_true];exact⟨Ì3 _,rfl,a1,by show n<=nrem;omega,a3⟩
   |false =>
    simp only[Ã4,if_false];have e0:kk O key p 0=kk O key p (n - 1):=O.total _ _ hb (a3 0 (n - 1) ∅ ∅)
    have e:∀ k,0<=k->k < n->kk O key p k=kk O key p (n - 1):=λk _ hk=>by
     refine KeyOrd.kle_antisymm (a3 k (n - 1) ∅ ∅) ?_
     rw[← e0];exact a3 0 k ∅ hk
    have er:=rev_eq (O:=O) (key:=key) (i:=0) (j:=n) (p:=p) ∅ e
    refine B60 (J90 _ _ _) (K00 _ _ _) ?_ ∅ hr
    have dn:Dn O key (Ç9 p 0 n) n:=λi j hij hj=>by
     rw[er,er,e i ∅ ∅,e j ∅ ∅];exact Ç3 _
    refine dn.more a1 ?_;rw[er,er];exact Ï9 hl
  ·have h2:n=1:=by omega
   subst h2;refine B60 (Ì3 _) rfl ?_ ∅ hr
   have dn:Dn O key p 1:=λi j hij hj=>by
    have:i=j:=by omega
    subst this;exact Ç3 _
   exact dn.more (Í _) (Ï9 hl)
theorem K10(hu:Up O key p k):∀ (f l r:Nat),l<=r->r<=k->r - l<=f->(∀ i,i < l->O.kle (kk O key p i) (kk O key p k))->(∀ i,r<=i->i < k->O.klt (kk O key p k) (kk O key p i)) ->
  run (k70 O key) (Ä5 p k f l r)<=k/\(∀ i,i < run (k70 O key) (Ä5 p k f l r)->O.kle (kk O key p i) (kk O key p k))/\(∀ i,run (k70 O key) (Ä5 p k f l r)<=i->i < k->O.klt (kk O key p k) (kk O key p i))
 |0,l,r,h1,h2,h3,h4,h5=>by
  have:l=r:=by omega
  subst this;exact⟨h2,h4,h5⟩
 |f + 1,l,r,h1,h2,h3,h4,h5=>by
  have unf:Ä5 p k (f + 1) l r=(if l ≥ r then .ret l else .ask (p.getD k 0) (p.getD ((l + r) / 2) 0) λc=>if c=true then Ä5 p k f l ((l + r) / 2) else Ä5 p k f ((l + r) / 2 + 1) r):=rfl;rw[unf];by_cases hlr:l ≥ r
  ·rw[if_pos hlr];have:l=r:=by omega
   subst this;exact⟨h2,h4,h5⟩
  ·rw[if_neg hlr];have unf2:run (k70 O key) (KasT.ask (p.getD k 0) (p.getD ((l + r) / 2) 0) λc=>if c=true then Ä5 p k f l ((l + r) / 2) else Ä5 p k f ((l + r) / 2 + 1) r) =
    run (k70 O key) (if O.blt (kk O key p k) (kk O key p ((l + r) / 2))=true then Ä5 p k f l ((l + r) / 2) else Ä5 p k f ((l + r) / 2 + 1) r):=rfl
   rw[unf2];cases hb:O.blt (kk O key p k) (kk O key p ((l + r) / 2)) with
   |true =>
    simp only[if_true];exact K10 hu f l ((l + r) / 2) ∅ ∅ ∅ h4 λi hi hk=>KeyOrd.klt_of_klt_of_kle hb (hu _ i hi hk)
   |false =>
    simp only[Ã4,if_false];exact K10 hu f ((l + r) / 2 + 1) r ∅ ∅ ∅ (λi hi=>Ú0 (hu i ((l + r) / 2) ∅ ∅) hb) h5
theorem S91:∀ (f:Nat) (p:Array Nat) (k:Nat),p.Perm p0->p.size=p0.size->Up O key p k->k + f<=p0.size ->
  (run (k70 O key) (kas_bin f p k)).Perm p0/\Up O key (run (k70 O key) (kas_bin f p k)) (k + f)
 |0,p,k,hp,_,hu,_=>⟨hp,hu⟩
 |f + 1,p,k,hp,hz,hu,hk=>by
  have unf:kas_bin (f + 1) p k=(Ä5 p k k 0 k).bind λl=>kas_bin f (bubble p k (k - l)) (k + 1):=rfl;rw[unf,run_bind];have pl:=K10 (O:=O) (key:=key) hu k 0 k ∅ ∅ ∅ (λi hi=>absurd hi (Ö1 _)) (λi h1 h2=>absurd h2 ∅)
  generalize run (k70 O key) (Ä5 p k k 0 k)=l at pl ⊢;obtain⟨l1,l2,l3⟩:=pl;have hb:=o02 (O:=O) (key:=key) (p:=p) (k:=k) (d:=k - l) ∅ ∅
  have hu':Up O key (bubble p k (k - l)) (k + 1):=λi j hij hj=>by
   rw[hb,hb];have el:k - (k - l)=l:=by omega
   rw[el];by_cases ei:i=l
   ·rw[if_pos ei];by_cases ej:j=l
    ·rw[if_pos ej];exact Ç3 _
    ·rw[if_neg ej,if_pos ∅]
     exact Ï9 (l3 _ ∅ ∅)
   ·rw[if_neg ei];by_cases hi:l < i/\i<=k
    ·rw[if_pos hi,if_neg ∅,if_pos ∅]
     exact hu _ _ ∅ ∅
    ·rw[if_neg hi];by_cases ej:j=l
     ·rw[if_pos ej];exact l2 _ ∅
     ·rw[if_neg ej];by_cases hj':l < j/\j<=k
      ·rw[if_pos hj'];exact hu _ _ ∅ ∅
      ·rw[if_neg hj'];exact hu _ _ hij ∅
  have ih:=S91 (p0:=p0) f (bubble p k (k - l)) (k + 1) ((bubble_perm _ _ _).trans hp) ((bubble_size _ _ _).trans hz) hu' ∅
  exact⟨ih.1,by have:=ih.2;rwa [show k + 1 + f=k + (f + 1) by omega] at this⟩
theorem Z31(h1:1<=n):(run (k70 O key) (Ñ5 n)).Perm (ë n).toArray/\Up O key (run (k70 O key) (Ñ5 n)) n:=by
 unfold Ñ5;rw[run_bind];have c:=J41 (O:=O) (key:=key) (p:=(ë n).toArray) h1 (by simp)
 generalize run (k70 O key) (ß1 n (ë n).toArray)=r at c ⊢;obtain⟨c1,c2,c3,c4,c5⟩:=c;split
 ·have b:=S91 (O:=O) (key:=key) (n - max r.1 1) r.2 (max r.1 1) c1 c2 (by rw[Nat.max_eq_left c3];exact c5) (by simp;omega)
  exact⟨b.1,by have:=b.2;rwa [show max r.1 1 + (n - max r.1 1)=n by omega] at this⟩
 ·have:r.1=n:=by omega
  rw[this] at c5;exact⟨c1,c5⟩
end
def n30{α:Type}(n:Nat):KasT α->Prop
 |.ret _=>True|.ask i j k=>(i < n/\j < n)/\∀ b,n30 n (k b)
def R50{α:Type}(G:α->Prop):KasT α->Prop
 |.ret a=>G a|.ask _ _ k=>∀ b,R50 G (k b)
theorem n30.bind{α β:Type}{n:Nat}{f:α->KasT β}{G:α->Prop}(hf:∀ a,G a->n30 n (f a)):∀ {t:KasT α},n30 n t->R50 G t->n30 n (t.bind f)
 |.ret a,_,g=>hf a g|.ask _ _ _,h,g=>⟨h.1,λb=>n30.bind hf (h.2 b) (g b)⟩
theorem R50.bind{α β:Type}{f:α->KasT β}{G:α->Prop}{G':β->Prop}(hf:∀ a,G a->R50 G' (f a)):∀ {t:KasT α},R50 G t->R50 G' (t.bind f)
 |.ret a,g=>hf a g|.ask _ _ _,g=>λb=>R50.bind hf (g b)
def Low(n:Nat)(p:Array Nat):Prop:=∀ i,p.getD i 0 < n
theorem s81(h1:1<=n)(hp:p.Perm q)(hq:∀ x∈q.toList,x < n):Low n p:=λi=>by
 by_cases hi:i < p.size
 ·have e:p.getD i 0=p[i]:=by simp[getD,hi]
  rw[e];exact hq _ (hp.toList.mem_iff.mp (by simp))
 ·have e:p.getD i 0=0:=by simp[getD,hi]
  rw[e];exact h1
structure Good(n:Nat)(q p:Array Nat):Prop where
 low:Low n p
 perm:p.Perm q
theorem Good.rev(h1:1<=n)(hq:∀ x∈q.toList,x < n)(g:Good n q p)(i j:Nat):Good n q (Ç9 p i j) :=
 have e:=(mirror_perm p i j ((j - i) / 2)).trans g.perm
 ⟨s81 h1 e hq,e⟩
theorem Good.bub(h1:1<=n)(hq:∀ x∈q.toList,x < n)(g:Good n q p)(i j:Nat):Good n q (bubble p i j) :=
 have e:=(bubble_perm p i j).trans g.perm
 ⟨s81 h1 e hq,e⟩
section
variable {n:Nat}{q:Array Nat}
theorem K20(g:Low n p):∀ (f k:Nat),n30 n (È0 p f k)
 |0,_=>trivial|f + 1,k=>⟨⟨g _,g _⟩,λb=>by cases b with | true=>exact trivial | false=>exact K20 g f (k + 1)⟩
theorem t70:∀ (f k:Nat),R50 (λ_=>True) (È0 p f k)
 |0,_=>trivial|f + 1,k=>λb=>by cases b with | true=>exact trivial | false=>exact t70 f (k + 1)
theorem B70(h1:1<=n)(hq:∀ x∈q.toList,x < n):∀ (f:Nat) (p:Array Nat) (k c:Nat),Good n q p->n30 n (Ã2 f p k c)/\R50 (λr=>Good n q r.1) (Ã2 f p k c)
 |0,p,k,c,g=>⟨trivial,g⟩
 |f + 1,p,k,c,g=>by
  have a:=λp' k' c' g'=>(B70 h1 hq f p' k' c' g').1;have r:=λp' k' c' g'=>(B70 h1 hq f p' k' c' g').2;refine⟨⟨⟨g.low _,g.low _⟩,λb=>?_⟩,λb=>?_⟩
  ·cases b with
   |true =>
    show n30 n (if c > 0 then Ã2 f (Ç9 p (k - (c + 1)) k) (k + 1) 0 else Ã2 f p (k + 1) 0);split
    ·exact a _ _ _ (g.rev h1 hq _ _)
    ·exact a _ _ _ g
   |false=>exact⟨⟨g.low _,g.low _⟩,λd=>by cases d with | true=>exact trivial | false=>exact a _ _ _ g⟩
  ·cases b with
   |true =>
    show R50 _ (if c > 0 then Ã2 f (Ç9 p (k - (c + 1)) k) (k + 1) 0 else Ã2 f p (k + 1) 0);split
    ·exact r _ _ _ (g.rev h1 hq _ _)
    ·exact r _ _ _ g
   |false=>exact λd=>by cases d with | true=>exact g | false=>exact r _ _ _ g
theorem p30(h1:1<=n)(hq:∀ x∈q.toList,x < n)(g:Good n q p)(k m:Nat):n30 n (kas_tail3 k m p)/\R50 (λr=>Good n q r.2) (kas_tail3 k m p) :=
 have g':=g.rev h1 hq 0 k
 And.intro (n30.bind (f:=λm'=>Ò6 (m',Ç9 p 0 k)) (λ_ _=>Ê5) (K20 g'.low (m - k) k) (t70 (m - k) k)) (R50.bind (f:=λm'=>Ò6 (m',Ç9 p 0 k)) (G':=λr=>Good n q r.2) (λ_ _=>g') (t70 (m - k) k))
theorem h50(h1:1<=n)(hq:∀ x∈q.toList,x < n)(g:Good n q p)(k m:Nat):n30 n (Ð6 k m p)/\R50 (λr=>Good n q r.2) (Ð6 k m p):=by
 have d:=B70 h1 hq (m - (k + 1)) p (k + 1) 0 g;refine⟨n30.bind (λr gr=>?_) d.1 d.2,R50.bind (λr gr=>?_) d.2⟩
 ·split
  ·exact(p30 h1 hq (gr.rev h1 hq _ _) _ _).1
  ·exact(p30 h1 hq gr _ _).1
 ·split
  ·exact(p30 h1 hq (gr.rev h1 hq _ _) _ _).2
  ·exact(p30 h1 hq gr _ _).2
theorem l31(h1:1<=n)(hq:∀ x∈q.toList,x < n)(g:Good n q p)(m:Nat):n30 n (ß1 m p)/\R50 (λr=>Good n q r.2) (ß1 m p):=by
 refine⟨n30.bind (λk _=>?_) (K20 g.low _ _) (t70 _ _),R50.bind (λk _=>?_) (t70 _ _)⟩
 ·split
  ·exact trivial
  ·split
   ·exact⟨⟨g.low _,g.low _⟩,λb=>by cases b with | true=>exact trivial | false=>exact(h50 h1 hq (g.rev h1 hq _ _) _ _).1⟩
   ·exact(h50 h1 hq g _ _).1
 ·split
  ·exact g
  ·split
   ·exact λb=>by cases b with | true=>exact g | false=>exact(h50 h1 hq (g.rev h1 hq _ _) _ _).2
   ·exact(h50 h1 hq g _ _).2
theorem h90(g:Low n p)(k:Nat):∀ (f l r:Nat),n30 n (Ä5 p k f l r)/\R50 (λ_=>True) (Ä5 p k f l r)
 |0,_,_=>⟨trivial,trivial⟩
 |f + 1,l,r=>by
  have e:Ä5 p k (f + 1) l r=(if l ≥ r then .ret l else .ask (p.getD k 0) (p.getD ((l + r) / 2) 0) λc=>if c=true then Ä5 p k f l ((l + r) / 2) else Ä5 p k f ((l + r) / 2 + 1) r):=rfl;rw[e];split
  ·exact⟨trivial,trivial⟩
  ·refine⟨⟨⟨g _,g _⟩,λb=>?_⟩,λb=>?_⟩
   ·cases b with
    |true=>exact(h90 g k f _ _).1|false=>exact(h90 g k f _ _).1
   ·cases b with
    |true=>exact(h90 g k f _ _).2|false=>exact(h90 g k f _ _).2
theorem e41(h1:1<=n)(hq:∀ x∈q.toList,x < n):∀ (f:Nat) (p:Array Nat) (k:Nat),Good n q p->n30 n (kas_bin f p k)
 |0,_,_,_=>trivial|f + 1,p,k,g=>n30.bind (λl _=>e41 h1 hq f _ _ (g.bub h1 hq _ _)) (h90 g.low k k 0 k).1 (h90 g.low k k 0 k).2
theorem s91(h1:1<=n):n30 n (Ñ5 n):=by
 have hq:∀ x∈((ë n).toArray).toList,x < n:=λx hx=>by simpa using hx
 have g:Good n (ë n).toArray (ë n).toArray:=⟨s81 h1 (Ì3 _) hq,Ì3 _⟩;have c:=l31 h1 hq g n;refine n30.bind (λr gr=>?_) c.1 c.2;split
 ·exact e41 h1 hq _ _ _ gr
 ·exact trivial
end
theorem R60{α:Type}{n:Nat}{cmp:Nat->Nat->Bool}{ask:Nat->Nat->(Bool->Æ->Prop)->Æ->Prop}{s:Æ}(h:∀ i j (C:Bool->Æ->Prop),i < n->j < n->C (cmp i j) s->ask i j C s){Q:α->Æ->Prop} :
  ∀ (t:KasT α),n30 n t->Q (run cmp t) s->t.kasWp ask Q s
 |.ret _,_,q=>q|.ask i j k,a,q=>h i j _ a.1.1 a.1.2 (R60 h (k (cmp i j)) (a.2 _) q)
def h60:List Int->List Int->Bool
 |[],[]=>false|[],_::_=>true|_::_,[]=>false|x::r,y::q=>if x=y then h60 r q else decide (x < y)
theorem r40:∀ a,h60 a a=false
 |[]=>rfl|x::r=>by show(if x=x then h60 r r else _)=_;rw[if_pos rfl];exact r40 r
theorem p40:∀ a b c,h60 a b=true->h60 b c=true->h60 a c=true
 |[],[],_,h,_=>by cases h
 |[],_::_,[],_,h=>by cases h
 |[],_::_,_::_,_,_=>rfl|_::_,[],_,h,_=>by cases h
 |_::_,_::_,[],_,h=>by cases h
 |x::a,y::b,z::c,h1,h2=>by
  have h1:(if x=y then h60 a b else decide (x < y))=true:=h1;have h2:(if y=z then h60 b c else decide (y < z))=true:=h2;show(if x=z then h60 a c else decide (x < z))=true;by_cases e1:x=y
  ·rw[if_pos e1] at h1;by_cases e2:y=z
   ·rw[if_pos e2] at h2;rw[if_pos (e1.trans e2)];exact p40 a b c h1 h2
   ·rw[if_neg e2] at h2;rw[if_neg ∅]
    rw[e1];exact h2
  ·rw[if_neg e1] at h1;have l1:x < y:=by simpa using h1
   by_cases e2:y=z
   ·rw[if_neg ∅];exact decide_eq_true ∅
   ·rw[if_neg e2] at h2;have l2:y < z:=by simpa using h2
    rw[if_neg ∅];exact decide_eq_true ∅
theorem p50:∀ a b,h60 a b=false->h60 b a=false->a=b
 |[],[],_,_=>rfl|[],_::_,h,_=>by cases h
 |_::_,[],_,h=>by cases h
 |x::a,y::b,h1,h2=>by
  have h1:(if x=y then h60 a b else decide (x < y))=false:=h1;have h2:(if y=x then h60 b a else decide (y < x))=false:=h2;by_cases e:x=y
  ·subst e;rw[if_pos rfl] at h1 h2;rw[p50 a b h1 h2]
  ·rw[if_neg e] at h1;rw[if_neg (Â3 e)] at h2;have l1:¬ x < y:=by simpa using h1
   have l2:¬ y < x:=by simpa using h2
   omega
theorem e51(a b c:List Int)(h:h60 a c=true):h60 a b=true∨h60 b c=true:=by
 cases hab:h60 a b with
 |true=>exact .inl rfl
 |false =>
  right;cases hba:h60 b a with
  |true=>exact p40 b a c hba h|false=>rw[← p50 a b hab hba];exact h
def Z41:KeyOrd:=⟨List Int,h60,r40,p40,e51,p50⟩
section
variable {P:Ý}{w:è}{A:ö}{E:Ä->Æ->Prop}{s:Æ}
def sortedBy(ks:List (List Int))(p:List Nat):Prop:=p.Perm (ë ks.length)/\(p.map λi=>ks.getD i []).Pairwise λx y=>h60 y x=false
theorem range_getD(d:α):∀ (l:List α),(ë l.length).map (λi=>l.getD i d)=l:=λl=>by
 refine ext_getElem (by simp) λi h1 h2=>?_
 simp at h1;simp[h1]
def E12(P:Ý)(w:è)(A:ö)(s:Æ)(vs:List Ä)(Pr:List Nat->Prop)(kd:Î7):Prop:=∃ p:List Nat,Pr p/\∀ (E:Ä->Æ->Prop) (Q:Unit × Â7->Æ->Prop),(∀ st',failedOf st'=none->arrOf st'=(p.toArray).map (õ (vs.toArray.zip vs.toArray))->Q ((),st') s)->Î (Ô P w) A (sortRuns'.run (Ì1 kd (vs.toArray.zip vs.toArray) #[] 7 none)) Q E s
structure j82(P:Program)(w:World)(A:Around)(s:Shared)(vs:List Value)(Pr:List Nat->Prop)(kd:SortKind):Prop where
 len:vs.length<=1000
 few:vs.length < 2->Pr (range vs.length)
 all:∀ p,Pr p->p.length=vs.length
 kind:2<=vs.length->∀ (E:Value->Shared->Prop) (Q:SortKind->Shared->Prop),Q kd s->wpAny (model P w) A (keyKind' vs.toArray) Q E s
 run:2<=vs.length->E12 P w A s vs Pr kd
theorem o22(hl:n=ks.length)(h2:n < 2):sortedBy ks (ë n):=by
 subst hl;refine⟨.refl _,?_⟩;rw[range_getD]
 match ks,h2 with
 |[],_=>exact .nil|[_],_=>simp|_::_::_,q=>simp at q;omega
theorem Z51{vs:List Ä}{ks:List (List Int)}{kd:Î7}(hlen:vs.length=ks.length)(h64:vs.length < 64)(ask:∀ i j,i < vs.length->j < vs.length->∀ (E:Ä->Æ->Prop) (C:Bool->Æ->Prop),C (h60 (ks.getD i []) (ks.getD j [])) s->Î (Ô P w) A (keyLt' kd (vs.getD i â) (vs.getD j â)) C E s)(h2':2<=vs.length):E12 P w A s vs (sortedBy ks) kd:=by
 have so:=Z31 (O:=Z41) (key:=λi=>ks.getD i []) (n:=vs.length) ∅
 refine⟨(run (k70 Z41 λi=>ks.getD i []) (Ñ5 vs.length)).toList,?_,λE Q q=>?_⟩
 ·generalize run (k70 Z41 λi=>ks.getD i []) (Ñ5 vs.length)=p at so;refine⟨?_,?_⟩
  ·have:=so.1.toList;rw[hlen] at this;simpa using this
  ·rw[List.pairwise_iff_getElem];intro i j hi hj hij;have hsz:p.size=vs.length:=by have:=so.1.size_eq;simpa using this
   have hi':i < p.size:=by simpa using hi
   have hj':j < p.size:=by simpa using hj
   have u:=so.2 i j (É2 hij) ∅
   have g:∀ k,k < p.size->kk Z41 (λi=>ks.getD i []) p k=ks.getD (p.toList.getD k 0) []:=λk hk=>by show ks.getD (p.getD k 0) []=_;rw[Í9,Ö (l:=p.toList),ô]
   have u':h60 (ks.getD (p.toList.getD j 0) []) (ks.getD (p.toList.getD i 0) [])=false:=by
    have:=u;unfold KeyOrd.kle at this;rw[g i hi',g j hj'] at this;exact this
   simpa [hi',hj'] using u'
 ·refine Â1 (kat_run (s:=s) (Q:=λst' s'=>s'=s/\failedOf st'=none/\arrOf st'=(run (k70 Z41 λi=>ks.getD i []) (Ñ5 vs.length)).map (õ (vs.toArray.zip vs.toArray)))
   (G:=λp s'=>s'=s/\p=run (k70 Z41 λi=>ks.getD i []) (Ñ5 vs.length)) rfl h2' h64 (λp st' s' a1 a2 a3 a4=>⟨a4.1,a3,by rw[a2,a4.2]⟩)
   (R60 (n:=vs.length) (cmp:=k70 Z41 λi=>ks.getD i []) (λi j C hi hj hC=>ask i j hi hj _ C hC) (Ñ5 vs.length) (s91 ∅) ⟨rfl,rfl⟩)) ?_ λ_ _ e=>e
  rintro ⟨⟨⟩,st'⟩ s' ⟨hs',hf,har⟩;subst hs';exact q st' hf har
def t01(h h':é):Prop:=∀ b o,h.get? b=some o->o.cls=.type "tuple"->h'.get? b=some o
theorem e61{a:Ç}{vs:List Ä}{Pr:List Nat->Prop}{kd:Î7}{n:Nat}{R:PySem.Fin->Æ->Prop}(ho:s.heap.get? a=some (Ã1 "list" vs.toArray n))(hk:∀ h',t01 s.heap h'->j82 P w A { s with heap:=h' } vs Pr kd)
  (h:∀ (p:List Nat) (h':é) (c:Nat),Pr p->(∀ b o,b≠a->s.heap.get? b=some o->h'.get? b=some o)->h'.get? a=some (Ã1 "list" (p.map λi=>vs.getD i â).toArray c)->R (.done (.ret .none)) { s with heap:=h' }) :
  Î (Ô P w) A (ÿ.«list.sort» ⟨[.ref a],[]⟩) R E s:=by
 have ha:a < s.heap.objs.size:=à ho;have h64:=(hk s.heap λ_ _ e _=>e).len;have s1:=Æ2 s.heap a (À0 λ_=>(#[]:Array Ä));obtain⟨e1,ho1⟩:∃ e1,(s.heap.update a (À0 λ_=>(#[]:Array Ä))).get? a=some (Ã1 "list" #[] e1):=⟨_,à6 ho λ_=>#[]⟩;have kp:∀ b o,b≠a->s.heap.get? b=some o->(((s.heap.update a (À0 λ_=>(#[]:Array Ä))).push (Ã1 "tuple" vs.toArray 0)).push (Ã1 "list" #[] 0)).get? b=some o:=λb o hb e=>Ã _ (Ã _ ((s1.2 b hb).trans e));have ho6:(((s.heap.update a (À0 λ_=>(#[]:Array Ä))).push (Ã1 "tuple" vs.toArray 0)).push (Ã1 "list" #[] 0)).get? a=some (Ã1 "list" #[] e1):=Ã _ (Ã _ ho1);have hk6:=hk (((s.heap.update a (À0 λ_=>(#[]:Array Ä))).push (Ã1 "tuple" vs.toArray 0)).push (Ã1 "list" #[] 0)) (λb o e hc=>kp b o (λq=>by subst q;rw[ho] at e;cases e;have hc':Á6 "list"=Á6 "tuple":=hc;injection hc' with hc';exact absurd hc' (-0)) e)
 rw[list_sort_plain];refine À (Ð5 ho rfl (À (Û5 ho rfl ?_ (by rw[Ó,Á2];omega) (Æ1 _))))
 refine À (seqEpoch_at ho1 rfl (À (wpAny_newTuple ?_ (by show vs.length<=_;rw[Á2];omega))));refine À (Û4 (À7 ?_) (Æ1 _))
 show Î (Ô P w) A _ R E { s with heap:=((s.heap.update a (À0 λ_=>(#[]:Array Ä))).push (Ã1 "tuple" vs.toArray 0)).push (Ã1 "list" #[] 0) };generalize hH:((s.heap.update a (À0 λ_=>(#[]:Array Ä))).push (Ã1 "tuple" vs.toArray 0)).push (Ã1 "list" #[] 0)=h6 at kp ho6 hk6 ⊢;have fin:∀ (p:List Nat) (out:Array Ä),out=(p.map λi=>vs.getD i â).toArray->Pr p->Î (Ô P w) A (do
   let touched:=(← seqEpoch a) != e1
   ÿ.List.listUpdate (.ref a) λ_=>out
   if touched then rule "list.sort.modified";raiseError "ValueError" "list modified during sort"
   ret .none) R E { s with heap:=h6 }:=λp out eo hp=>by
  subst eo;have hsz:(p.map λi=>vs.getD i â).toArray.size=vs.length:=by rw[Ó,É,(hk s.heap λ_ _ e _=>e).all p hp]
  have s2:=Æ2 h6 a (À0 λ_=>(p.map λi=>vs.getD i â).toArray);refine À (seqEpoch_at ho6 rfl (À (Û5 ho6 rfl ?_ (Æ1 _) (Ñ (Ú6 hsz) (by rw[Á2];omega)))))
  simp only[bne_self_eq_false,Ã4,if_false];exact Å (h p _ _ hp (λb o hb e=>(s2.2 b hb).trans (kp b o hb e)) (à6 ho6 λ_=>(p.map λi=>vs.getD i â).toArray))
 dsimp only;by_cases h2:vs.toArray.size < 2
 ·rw[if_pos h2,if_pos h2];refine À (Å ?_);rw[StateT.run_pure];refine À (Å ?_);dsimp only;refine fin (ë vs.length) _ ?_ ((hk s.heap λ_ _ e _=>e).few (by simpa using h2))
  rw[range_getD];apply Û0.mp;rw[Array.toList_map];show List.map _ (vs.toArray.zip vs.toArray).toList=vs;rw[ksk_zip];exact List.map_snd_zip (Í _)
 ·rw[if_neg h2,if_neg h2];have h2':2<=vs.length:=by simpa using h2
  refine À (hk6.kind h2' _ _ ?_);obtain⟨p,hp,hr⟩:=hk6.run h2';refine À (hr _ _ λst' hf har=>?_);dsimp only;rw[hf];exact fin p _ (kat_snds rfl har) hp
end
end MySort
namespace TS
open PySem PySem.W PyProof.Rows
structure Tw where
 a:Array Nat
 pending:Array (Nat × Nat × Nat)
 minGallop:Nat
abbrev TM:=StateT Tw Option
section
variable (n:Nat) (cmp:Nat->Nat->Bool)
def ltT(x y:Nat):TM Bool:=if x < n/\y < n then pure (cmp x y) else λ_=>none
def t11(arr:Array Nat)(i:Nat):TM Nat:=match arr.toList[i]? with
 |some p=>pure p|none=>λ_=>none
def Z61(i j:Nat):TM Bool:=do
 let a:=(← get).a
 ltT n cmp (← t11 a i) (← t11 a j)
def N52(i j:Nat):TM Unit:=modify λs=>{ s with a:=mirror s.a i j ((j - i) / 2) }
def mvL(a:Array Nat)(src dst:Nat):Array Nat:=⟨a.toList.take dst++((a.toList.drop src).take 1++((a.toList.take src).drop dst++a.toList.drop (src + 1)))⟩
theorem o32(h:src < a.size)(h2:dst<=src):mvL a src dst=bubble a src (src - dst):=by
 apply Array.ext_getElem?;intro k;rw[getElem?_bubble h (src - dst) ∅ k,show src - (src - dst)=dst by omega]
 have hl:src < a.toList.length:=h;rw[← ô,← ô,← ô,← ô];show(a.toList.take dst++((a.toList.drop src).take 1++((a.toList.take src).drop dst++a.toList.drop (src + 1))))[k]?=_;generalize a.toList=l at hl;rw[Õ4,Õ4,Õ4,Æ7,Æ7,Í2,Í2,Æ7,show min dst l.length=dst by omega,show min 1 (l.length - src)=1 by omega,show min src l.length - dst=src - dst by omega,Ø1,Ø1,Ø2,Ø2,Ø2,Ø1]
 by_cases c1:k < dst
 ·rw[if_pos c1,if_pos c1,if_neg ∅,if_neg ∅]
 ·rw[if_neg c1];by_cases c2:k=dst
  ·rw[if_pos ∅,if_pos ∅,if_pos c2,show src + (k - dst)=src by omega]
  ·rw[if_neg ∅,if_neg c2]
   by_cases c3:k<=src
   ·rw[if_pos ∅,if_pos ∅,if_pos ∅,show dst + (k - dst - 1)=k - 1 by omega]
   ·rw[if_neg ∅,if_neg ∅,show src + 1 + (k - dst - 1 - (src - dst))=k by omega]
def Z71(src dst:Nat):TM Unit:=λt=>if src < t.a.size/\dst<=src then some ((),{ t with a:=mvL t.a src dst }) else none
end
section
variable {prog:Ý}{w:è}{A:ö}{E:Ä->Æ->Prop}{s:Æ}{κ:Î7}{it:Array Keyed}{n:Nat}{cmp:Nat->Nat->Bool}
def co(κ:Î7)(it:Array Keyed)(t:Tw):SortSt:=Ì1 κ (t.a.map (õ it)) t.pending t.minGallop none
def Sim(prog:Ý)(w:è)(A:ö)(E:Ä->Æ->Prop)(s:Æ)(κ:Î7)(it:Array Keyed){α β:Type}(rel:β->α)(m:StateT Â7 Sem α)(f:TM β):Prop :=
 ∀ (t:Tw) (b:β) (t':Tw),f t=some (b,t')->∀ Q:α->Â7->Æ->Prop,Q (rel b) (co κ it t') s->kasC (Ô prog w) A E m Q (co κ it t) s
local macro_rules | `(tactic| trivial)=>`(tactic| skip)
section
variable {α β α' β':Type}{r:β->α}{r':β'->α'}
theorem A00(b:β)(e:a=r b):Sim prog w A E s κ it r (pure a) (pure b):=λt b' t' h Q q=>by
 cases h;subst e;exact kasC_pure q
theorem l70(h:Sim prog w A E s κ it r m f)(hk:∀ b,Sim prog w A E s κ it r' (k (r b)) (g b)):Sim prog w A E s κ it r' (m >>= k) (f >>= g):=λt b t' e Q q=>by
 have e:(f t).bind (λx=>g x.1 x.2)=some (b,t'):=e;obtain⟨⟨b1,t1⟩,e1,e2⟩:=Ò.mp e;exact kasC_bind (h t b1 t1 e1 _ (hk b1 t1 b t' e2 Q q))
theorem Y80:Sim prog w A E s κ it (co κ it) (get:StateT Â7 Sem Â7) (get:TM Tw):=λt b t' e Q q=>by
 cases e;exact kasC_get q
theorem p60(h:∀ t,F (co κ it t)=co κ it (G t)):Sim prog w A E s κ it (λu:Unit=>u) (modify F:StateT Â7 Sem Unit) (modify G:TM Unit):=λt b t' e Q q=>by
 cases e;refine kasC_modify ?_;rw[h t];exact q
theorem J51:Sim prog w A E s κ it (λu:Unit=>u) (liftM (rule x):StateT Â7 Sem Unit) (pure ():TM Unit):=λt b t' e Q q=>by
 cases e;exact kasC_lift (É7 q)
theorem Z81[Decidable c](h1:c->Sim prog w A E s κ it r m f)(h2:¬ c->Sim prog w A E s κ it r m' f'):Sim prog w A E s κ it r (if c then m else m') (if c then f else f'):=by
 split
 ·exact h1 (by assumption)
 ·exact h2 (by assumption)
def y90(r:β->α):ForInStep β->ForInStep α
 |.done b=>.done (r b)|.yield b=>.yield (r b)
theorem e71(h:∀ x b,Sim prog w A E s κ it (y90 r) (body x (r b)) (body' x b)):∀ (l:List Nat) (b:β),Sim prog w A E s κ it r (forIn l (r b) body) (forIn l b body')
 |[],b=>by
  rw[Ö6,Ö6];exact A00 b rfl
 |x::l,b=>by
  rw[Ì8,Ì8];refine l70 (h x b) λst=>?_;cases st with
  |done b'=>exact A00 b' rfl|yield b'=>exact e71 h l b'
end
def Ora(prog:Ý)(w:è)(A:ö)(s:Æ)(κ:Î7)(it:Array Keyed)(n:Nat)(cmp:Nat->Nat->Bool):Prop:=∀ i j (C:Bool->Æ->Prop),i < n->j < n->C (cmp i j) s->kas_cmp prog w A κ it i j C s
theorem T01(O:Ora prog w A s κ it n cmp)(x y:Nat):Sim prog w A E s κ it (λo:Bool=>some o) (lt' (õ it x) (õ it y)) (ltT n cmp x y):=λt b t' e Q q=>by
 unfold ltT at e;split at e
 ·rename_i h;cases e;rw[lt'_eq];refine kasC_bind (kasC_get ?_);exact kasC_bind (kasC_lift (Ë1 (Â1 (O x y (λc s'=>s'=s/\c=cmp x y) h.1 h.2 ⟨rfl,rfl⟩) (λc s' hc=>by obtain⟨rfl,rfl⟩:=hc;exact kasC_pure q) λ_ _ hF=>hF.elim)))
 ·cases e
theorem K30(p:Array Nat)(i:Nat):Sim prog w A E s κ it (õ it) (elem' (p.map (õ it)) i) (t11 p i):=by
 rw[elem'_eq];unfold t11;rw[Array.getElem?_map,ô];cases p[i]? with
 |none=>exact λt b t' e=>by cases e
 |some x=>exact A00 x rfl
theorem J61(O:Ora prog w A s κ it n cmp)(i j:Nat):Sim prog w A E s κ it (λo:Bool=>some o) (ltAt' i j) (Z61 n cmp i j):=by
 rw[ltAt'_eq];unfold Z61;refine l70 Y80 λt=>?_;exact l70 (K30 t.a i) λx=>l70 (K30 t.a j) λy=>T01 O x y
theorem Z91(i j:Nat):Sim prog w A E s κ it (λu:Unit=>u) (reverseSlice' i j) (N52 i j):=by
 rw[reverseSlice'_eq];refine p60 λt=>?_;show Ì1 κ (mirror (t.a.map (õ it)) i j ((j - i) / 2)) t.pending t.minGallop none=Ì1 κ ((mirror t.a i j ((j - i) / 2)).map (õ it)) t.pending t.minGallop none;rw[show mirror (t.a.map (õ it)) i j ((j - i) / 2)=(mirror t.a i j ((j - i) / 2)).map (õ it) from kas_swaps_map (õ it) (λk=>i + k) (λk=>j - 1 - k) _ t.a]
theorem J71(k l:Nat):Sim prog w A E s κ it (λu:Unit=>u) (moveDown' k l) (Z71 k l):=λt b t' e Q q=>by
 rw[moveDown'_eq];unfold Z71 at e;split at e
 ·rename_i h;cases e;refine kasC_modify ?_;have e:bubble (t.a.map (õ it)) k (k - l)=(mvL t.a k l).map (õ it):=by
   rw[o32 h.1 h.2];exact kas_swaps_map (õ it) (λi=>k - i) (λi=>k - i - 1) _ t.a
  show Q () (Ì1 κ (bubble (t.a.map (õ it)) k (k - l)) t.pending t.minGallop none) s;rw[e];exact q
 ·cases e
def t80{β:Type}(f:Nat->β->TM (ForInStep β)):Nat->Nat->β->TM β
 |0,_,b=>pure b
 |n + 1,i,b=>f i b >>= λx=>match x with
  |.done b=>pure b|.yield b=>t80 f n (i + 1) b
theorem e81(f:Nat->β->TM (ForInStep β)):∀ (n i:Nat) (b:β),t80 f n i b=forIn (Â8 i n 1) b f
 |0,_,_=>by rw[List.range'_zero,Ö6];rfl
 |n + 1,i,b=>by
  rw[Â0,Ì8];show(f i b >>= λx=>_)=_
  congr 1
  funext x
  cases x with
  |done b=>rfl|yield b=>exact e81 f n (i + 1) b
theorem K40{α β:Type}{r:β->α}{a b:Nat}{c:β}{body:Nat->α->StateT Â7 Sem (ForInStep α)}{body':Nat->β->TM (ForInStep β)}(h:∀ x b,Sim prog w A E s κ it (y90 r) (body x (r b)) (body' x b)):Sim prog w A E s κ it r (forIn [a:b] (r c) body) (t80 body' (b - a) a c):=by
 rw[Std.Legacy.Range.forIn_eq_forIn_range',e81];have e:[a:b].size=b - a:=by simp[Std.Legacy.Range.size]
 show Sim prog w A E s κ it r (forIn (Â8 a [a:b].size 1) (r c) body) _;rw[e];exact e71 h _ c
def n40(prog:Ý)(w:è)(A:ö)(E:Ä->Æ->Prop)(s:Æ)(κ:Î7)(it:Array Keyed){α β:Type}(r:β->α)(m:StateT Â7 Sem α):Type:={f:TM β // Sim prog w A E s κ it r m f}
section
variable {α β α' β':Type}{r:β->α}{r':β'->α'}
def b60{a:α}(b:β)(e:a=r b):n40 prog w A E s κ it r (pure a):=⟨pure b,A00 b e⟩
def b30{m:StateT Â7 Sem α}{k:α->StateT Â7 Sem α'}(h:n40 prog w A E s κ it r m)(hk:∀ b,n40 prog w A E s κ it r' (k (r b))):n40 prog w A E s κ it r' (m >>= k):=⟨h.1 >>= λb=>(hk b).1,l70 h.2 λb=>(hk b).2⟩
def l80{c:Prop}[Decidable c]{m m':StateT Â7 Sem α}(h1:n40 prog w A E s κ it r m)(h2:n40 prog w A E s κ it r m'):n40 prog w A E s κ it r (if c then m else m'):=⟨if c then h1.1 else h2.1,Z81 (λ_=>h1.2) λ_=>h2.2⟩
def q80{m:StateT Â7 Sem α}:n40 prog w A E s κ it r m:=⟨λ_=>none,λ_ _ _ e=>by cases e⟩
def J81{m m':StateT Â7 Sem α}(e:m=m')(h:n40 prog w A E s κ it r m'):n40 prog w A E s κ it r m:=⟨h.1,by rw[e];exact h.2⟩
def q90{a b:Nat}(c:β){body:Nat->α->StateT Â7 Sem (ForInStep α)}(h:∀ x b,n40 prog w A E s κ it (y90 r) (body x (r b))):n40 prog w A E s κ it r (forIn [a:b] (r c) body):=⟨t80 (λx b=>(h x b).1) (b - a) a c,K40 λx b=>(h x b).2⟩
end
def l41(O:Ora prog w A s κ it n cmp)(i j:Nat):n40 prog w A E s κ it (λo:Bool=>some o) (ltAt' i j):=⟨Z61 n cmp i j,J61 O i j⟩
def z82(i j:Nat):n40 prog w A E s κ it (λu:Unit=>u) (reverseSlice' i j):=⟨N52 i j,Z91 i j⟩
def E22(i j:Nat):n40 prog w A E s κ it (λu:Unit=>u) (moveDown' i j):=⟨Z71 i j,J71 i j⟩
def J91(x:String):n40 prog w A E s κ it (λu:Unit=>u) (liftM (rule x):StateT Â7 Sem Unit):=⟨pure (),J51⟩
def R82(O:Ora prog w A s κ it n cmp)(lo n' ok:Nat):n40 prog w A E s κ it (λ_:Unit=>true) (binarySort' lo n' ok):=by
 refine J81 (binarySort'_eq lo n' ok) ?_;refine b30 (r:=λ_:Unit=>((none,()):Option Bool × Unit)) (q90 () λk _=>?_) λ_=>b60 () rfl;refine b30 (r:=λx:Nat × Nat=>((none,x):Option Bool × Nat × Nat)) (q90 (0,k) λ_ x=>?_) λx=>b30 (E22 _ _) λ_=>b60 (á ()) rfl;exact l80 (b60 (å x) rfl) (b30 (l41 O _ _) λo=>l80 (b60 (á (x.1,_)) rfl) (b60 (á (_,x.2)) rfl))
def o42(O:Ora prog w A s κ it n cmp)(lo z:Nat):n40 prog w A E s κ it (λm:Nat=>some m) (countRun' lo z):=by
 refine J81 (countRun'_eq lo z) ?_;refine b30 (r:=λm:Nat=>((none,m):Option (Option Nat) × Nat)) (q90 1 λ_ m=>b30 (l41 O _ _) λ_=>l80 (b60 (å m) rfl) (b60 (á (m + 1)) rfl)) λm=>?_;refine l80 (b60 m rfl) (l80 (b30 (l41 O _ _) λ_=>l80 (b60 m rfl) (b30 (z82 _ _) λ_=>?_)) ?_)
 all_goals
  refine b30 (J91 _) λ_=>b30 (r:=λm:Nat=>((none,m,0):Option (Option Nat) × Nat × Nat)) (q90 (m + 1) λ_ m=>b30 (l41 O _ _) λ_=>l80 (l80 q80 (b60 (á (m + 1)) rfl)) (b30 (l41 O _ _) λ_=>l80 (b60 (å m) rfl) q80)) λm=>?_;exact l80 q80 (b30 (z82 _ _) λ_=>b30 (r:=λm:Nat=>((none,m):Option (Option Nat) × Nat)) (q90 m λ_ m=>b30 (l41 O _ _) λ_=>l80 (b60 (å m) rfl) (b60 (á (m + 1)) rfl)) λm=>b60 m rfl)
def tLt(O:Ora prog w A s κ it n cmp)(x y:Nat):n40 prog w A E s κ it (λo:Bool=>some o) (lt' (õ it x) (õ it y)):=⟨ltT n cmp x y,T01 O x y⟩
def r50(p:Array Nat)(i:Nat):n40 prog w A E s κ it (õ it) (elem' (p.map (õ it)) i):=⟨t11 p i,K30 p i⟩
def t21:Bool->Keyed->Array Keyed->Nat->Nat->Nat->StateT SortSt Sem (Option Nat):=sortPriv% PySem.Builtin.gallop
def Y90(O:Ora prog w A s κ it n cmp)(left:Bool)(y:Nat)(p:Array Nat)(base z hint:Nat):n40 prog w A E s κ it (λm:Nat=>some m) (t21 left (õ it y) (p.map (õ it)) base z hint):=by
 refine b30 (r:=λb:Bool=>some b) (b30 (r50 p (base + hint)) λx=>l80 (tLt O x y) (b30 (tLt O y x) λb=>b60 (!b) rfl)) λb=>?_;refine l80 ?_ ?_ <;> refine b30 (r:=λx:Nat × Nat=>((none,x):Option (Option Nat) × Nat × Nat)) (q90 (0,1) λ_ x=>l80 (b60 (å x) rfl) (b30 (r:=λb:Bool=>some b) (b30 (r50 p _) λx=>l80 (tLt O x y) (b30 (tLt O y x) λb=>b60 (!b) rfl)) λb=>l80 (b60 (å x) rfl) (b60 (á (x.2,2 * x.2 + 1)) rfl))) λx=>?_
 ·exact b30 (r:=λx:Nat × Nat=>((none,x):Option (Option Nat) × Nat × Nat)) (q90 (hint + x.1 + 1,hint + min x.2 (z - hint)) λ_ x=>l80 (b60 (å x) rfl) (b30 (r:=λb:Bool=>some b) (b30 (r50 p _) λx=>l80 (tLt O x y) (b30 (tLt O y x) λb=>b60 (!b) rfl)) λb=>l80 (b60 (á (_,x.2)) rfl) (b60 (á (x.1,_)) rfl))) λx=>b60 x.2 rfl
 ·exact b30 (r:=λx:Nat × Nat=>((none,x):Option (Option Nat) × Nat × Nat)) (q90 (hint + 1 - min x.2 (hint + 1),hint - x.1) λ_ x=>l80 (b60 (å x) rfl) (b30 (r:=λb:Bool=>some b) (b30 (r50 p _) λx=>l80 (tLt O x y) (b30 (tLt O y x) λb=>b60 (!b) rfl)) λb=>l80 (b60 (á (_,x.2)) rfl) (b60 (á (x.1,_)) rfl))) λx=>b60 x.2 rfl
def Z00{α β:Type}{r:β->α}{a b:Nat}{i:α}(b':Nat)(eb:b=b')(c:β)(ec:i=r c){body:Nat->α->StateT Â7 Sem (ForInStep α)}(h:∀ x b,n40 prog w A E s κ it (y90 r) (body x (r b))):n40 prog w A E s κ it r (forIn [a:b] i body):=⟨t80 (λx b=>(h x b).1) (b' - a) a c,by subst eb;subst ec;exact K40 λx b=>(h x b).2⟩
def tIf{α β:Type}{r:β->α}{c:Prop}[Decidable c]{m m':StateT Â7 Sem α}(c':Bool)(e:c↔c'=true)(h1:n40 prog w A E s κ it r m)(h2:n40 prog w A E s κ it r m'):n40 prog w A E s κ it r (if c then m else m'):=⟨match c' with
 |true=>h1.1
 |false=>h2.1,by
 cases c' with
 |true=>rw[if_pos (e.mpr rfl)];exact h1.2
 |false=>rw[if_neg λh=>by cases e.mp h];exact h2.2⟩
def a02:n40 prog w A E s κ it (co κ it) (get:StateT Â7 Sem Â7):=⟨get,Y80⟩
def E32:Nat->StateT SortSt Sem Unit:=sortPriv% PySem.Builtin.setMinGallop
def o52(g:Nat):n40 prog w A E s κ it (λu:Unit=>u) (E32 g):=⟨modify λt=>{ t with minGallop:=g },p60 λ_=>rfl⟩
def N62(O:Ora prog w A s κ it n cmp)(left:Bool)(y:Nat)(p:Array Nat)(base z z' hint:Nat)(e:z=z'):n40 prog w A E s κ it (λm:Nat=>some m) (t21 left (õ it y) (p.map (õ it)) base z hint):=J81 (by rw[e]) (Y90 O left y p base z' hint)
def K01:Array Keyed->Array Keyed->StateT SortSt Sem (Array Keyed):=sortPriv% PySem.Builtin.mergeLo
def rs{γ:Type}(it:Array Keyed)(x:Option (Array Nat) × Array Nat × γ):Option (Array Keyed) × Array Keyed × γ:=(x.1.map (Array.map (õ it)),x.2.1.map (õ it),x.2.2)
theorem sz(it:Array Keyed)(i:Nat)(p:Array Nat):(i == (p.map (õ it)).size)=true↔(i == p.size)=true:=by rw[size_map]
local macro_rules
 | `(tactic| ac_rfl)=>`(tactic| simp only[rs,y90,map_some,Option.map_none,Û1,Array.map_push,Ñ4,size_map])| `(tactic| rwa [$O:term,$p:term,$q:term,$out:term,$ia:term,$ib:term,$mg:term,$ac:term,$bc:term])=>`(tactic| exact b30 (r50 $p $ia) λy=>tIf _ (sz _ _ _) (b60 (å (some (push $out y++Æ8 $q $ib++Æ8 $p ($ia + 1)),push $out y,$ia + 1,$ib,$mg,$ac,$bc)) (by ac_rfl)) (l80 (b60 (å (none,push $out y,$ia + 1,$ib,$mg,$ac,$bc)) (by ac_rfl)) (b60 (á (none,push $out y,$ia + 1,$ib,$mg,$ac,$bc)) (by ac_rfl))))| `(tactic| rwa [$O:term,$p:term,$q:term,$out:term,$ia:term,$ib:term,$mg:term,$ac:term,$bc:term,$_x0:term])=>`(tactic| exact b30 (r50 $q $ib) λy=>tIf _ (sz _ _ _) (b60 (å (some (push $out y++Æ8 $p $ia++Æ8 $q ($ib + 1)),push $out y,$ia,$ib + 1,$mg,$ac,$bc)) (by ac_rfl)) (b30 (r50 $p $ia) λz=>b30 (N62 $O true z $q ($ib + 1) _ (Ö9 $q - ($ib + 1)) 0 (by simp[rs])) λk=>l80 (tIf _ (sz _ _ _) (b60 (å (some (push $out y++Æ8 $q ($ib + 1) ($ib + 1 + k)++Æ8 $p $ia++Æ8 $q ($ib + 1 + k)),push $out y++Æ8 $q ($ib + 1) ($ib + 1 + k),$ia,$ib + 1 + k,$mg,$ac,k)) (by ac_rfl)) ((by rwa [$O:term,$p:term,$q:term,(push $out y++Æ8 $q ($ib + 1) ($ib + 1 + k)),$ia:term,($ib + 1 + k),$mg:term,$ac:term,k]))) ((by rwa [$O:term,$p:term,$q:term,(push $out y),$ia:term,($ib + 1),$mg:term,$ac:term,k]))))| `(tactic| rwa [$O:term,$p:term,$q:term,$out:term,$ia:term,$ib:term,$mg:term,$bc:term,$_x0:term,$_x1:term,$_x2:term])=>`(tactic| exact b30 (o52 $mg) λ_=>b30 (r50 $q $ib) λy=>b30 (N62 $O false y $p $ia _ (Ö9 $p - $ia) 0 (by simp[rs])) λk=>l80 (tIf _ (sz _ _ _) (b60 (å (some ($out++Æ8 $p $ia ($ia + k)++Æ8 $q $ib++Æ8 $p ($ia + k)),$out++Æ8 $p $ia ($ia + k),$ia + k,$ib,$mg,k,$bc)) (by ac_rfl)) (tIf _ (sz _ _ _) (b60 (å (some ($out++Æ8 $p $ia ($ia + k)++Æ8 $p ($ia + k)++Æ8 $q $ib),$out++Æ8 $p $ia ($ia + k),$ia + k,$ib,$mg,k,$bc)) (by ac_rfl)) ((by rwa [$O:term,$p:term,$q:term,($out++Æ8 $p $ia ($ia + k)),($ia + k),$ib:term,$mg:term,k,$bc:term,rfl])))) ((by rwa [$O:term,$p:term,$q:term,$out:term,$ia:term,$ib:term,$mg:term,k,$bc:term,rfl])))
def K11(O:Ora prog w A s κ it n cmp)(p q:Array Nat):n40 prog w A E s κ it (Array.map (õ it)) (K01 (p.map (õ it)) (q.map (õ it))):=by
 refine b30 (J91 _) λ_=>b30 (r50 q 0) λx=>?_;refine tIf _ (sz it _ _) (b60 (#[x]++p.extract 0++q.extract 1) (by simp only[Û1,Ñ4,size_map,map_toArray,Å7,map_nil])) ?_
 refine tIf _ (sz it _ _) (b60 (#[x]++q.extract 1++p.extract 0) (by simp only[Û1,Ñ4,size_map,map_toArray,Å7,map_nil])) ?_
 refine b30 a02 λt=>?_;refine b30 (r:=rs it) (Z00 (p.size + q.size) (by simp) (none,#[x],0,1,t.minGallop) (by simp[rs];rfl) λ_ st=>?_) λst=>?_
 ·obtain⟨_,out,ia,ib,mg⟩:=st;refine b30 (r:=rs it) (Z00 (p.size + q.size) (by simp) (none,out,ia,ib,0,0) (by simp[rs]) λ_ st=>?_) λst=>?_
  ·obtain⟨_,out,ia,ib,ac,bc⟩:=st;refine b30 (r50 q ib) λy=>b30 (r50 p ia) λz=>b30 (tLt O y z) λo=>l80 (b30 (r50 q ib) λy=>?_) (b30 (r50 p ia) λy=>?_)
   ·exact tIf _ (sz it _ _) (b60 (å (some (out.push y++p.extract ia++q.extract (ib + 1)),out.push y,ia,ib + 1,0,bc + 1)) (by simp[rs,y90])) (l80 (b60 (å (none,out.push y,ia,ib + 1,0,bc + 1)) (by simp[rs,y90])) (b60 (á (none,out.push y,ia,ib + 1,0,bc + 1)) (by simp[rs,y90])))
   ·exact tIf _ (sz it _ _) (b60 (å (some (out.push y++q.extract ib++p.extract (ia + 1)),out.push y,ia + 1,ib,ac + 1,0)) (by simp[rs,y90])) (l80 (b60 (å (none,out.push y,ia + 1,ib,ac + 1,0)) (by simp[rs,y90])) (b60 (á (none,out.push y,ia + 1,ib,ac + 1,0)) (by simp[rs,y90])))
  ·obtain⟨o,out,ia,ib,ac,bc⟩:=st;cases o with
   |some v=>exact b60 (å (some v,out,ia,ib,mg)) rfl
   |none =>
    refine b30 (J91 _) λ_=>?_;refine b30 (r:=rs it) (Z00 (p.size + q.size) (by simp) (none,out,ia,ib,mg + 1,ac,bc) (by simp[rs]) λ_ st=>?_) λst=>?_
    ·obtain⟨_,out,ia,ib,mg,ac,bc⟩:=st;exact l80 ((by rwa [O,p,q,out,ia,ib,(mg - 1),bc,rfl,rfl,rfl])) ((by rwa [O,p,q,out,ia,ib,mg,bc,rfl,rfl,rfl]))
    ·obtain⟨o,out,ia,ib,mg,ac,bc⟩:=st;cases o with
     |some v=>exact b60 (å (some v,out,ia,ib,mg)) rfl|none=>exact b30 (o52 (mg + 1)) λ_=>b60 (á (none,out,ia,ib,mg + 1)) rfl
 ·obtain⟨o,_⟩:=st;cases o with
  |none=>exact q80|some v=>exact b60 v rfl
def R92(t':Tw){S:Â7}(e:S=co κ it t'):n40 prog w A E s κ it (λu:PUnit=>u) (set S:StateT Â7 Sem PUnit):=⟨modify λ_=>t',by subst e;exact p60 (F:=λ_=>co κ it t') λ_=>rfl⟩
def E42{F:Â7->Â7}(G:Tw->Tw)(h:∀ t,F (co κ it t)=co κ it (G t)):n40 prog w A E s κ it (λu:Unit=>u) (modify F:StateT Â7 Sem Unit):=⟨modify G,p60 h⟩
theorem fold_map(f:Nat->Keyed)(d:Nat):∀ (l:List Nat) (j:Nat) (a:Array Nat),((l.map f).zipIdx j).foldl (λa x=>setIfInBounds a (d + x.2) x.1) (a.map f)=((l.zipIdx j).foldl (λa x=>setIfInBounds a (d + x.2) x.1) a).map f
 |[],_,_=>rfl
 |x::l,j,a=>by
  have e:(a.map f).setIfInBounds (d + j) (f x)=(a.setIfInBounds (d + j) x).map f:=by simp
  show((l.map f).zipIdx (j + 1)).foldl _ ((a.map f).setIfInBounds (d + j) (f x))=_;rw[e];exact fold_map f d l (j + 1) _
def spl(a:Array Nat)(d:Nat)(l:List Nat):Array Nat:=⟨a.toList.take d++(l++a.toList.drop (d + l.length))⟩
theorem T11(d:Nat):∀ (l:List Nat) (j:Nat) (a:Array Nat),d + j + l.length<=a.size->(l.zipIdx j).foldl (λa x=>setIfInBounds a (d + x.2) x.1) a=spl a (d + j) l
 |[],j,a,_=>by
  show a=_;unfold spl;rw[Á0,Nat.add_zero,Ì7,List.take_append_drop]
 |x::l,j,a,h=>by
  have hl:d + j + (l.length + 1)<=a.toList.length:=h;show(l.zipIdx (j + 1)).foldl _ (a.setIfInBounds (d + j) x)=_;rw[T11 d l (j + 1) _ (by rw[Array.size_setIfInBounds];have:a.toList.length=a.size:=rfl;omega)]
  unfold spl;rw[Array.toList_setIfInBounds,List.set_eq_take_append_cons_drop,if_pos ∅]
  generalize a.toList=m at hl;have e1:(m.take (d + j)).length=d + j:=by rw[Æ7];omega
  have e2:(m.take (d + j)++x::m.drop (d + j + 1)).take (d + (j + 1))=m.take (d + j)++[x]:=by
   rw[List.take_append,e1,show d + (j + 1) - (d + j)=1 by omega,Ë4 (Ñ (Ú6 e1) ∅)]
   rfl
  have e3:(m.take (d + j)++x::m.drop (d + j + 1)).drop (d + (j + 1) + l.length)=m.drop (d + j + (l.length + 1)):=by
   rw[List.drop_append,e1,show d + (j + 1) + l.length - (d + j)=l.length + 1 by omega,List.drop_eq_nil_of_le (Ñ (Ú6 e1) ∅),List.drop_succ_cons,List.drop_drop,Ì7,show d + j + 1 + l.length=d + j + (l.length + 1) by omega]
  rw[e2,e3,Ô6];rfl
def E52{F:Â7->Â7}(c:Tw->Bool)(G:Tw->Tw)(h:∀ t,c t=true->F (co κ it t)=co κ it (G t)):n40 prog w A E s κ it (λu:Unit=>u) (modify F:StateT Â7 Sem Unit):=⟨λt=>match c t with
 |true=>some ((),G t)
 |false=>none,λt b t' e Q q=>by
 dsimp only at e;cases hc:c t with
 |false=>rw[hc] at e;cases e
 |true =>
  rw[hc] at e;cases e;refine kasC_modify ?_;rw[h t hc];exact q⟩
def e91(O:Ora prog w A s κ it n cmp)(i:Nat):n40 prog w A E s κ it (λ_:Unit=>true) (mergeAt' i):=by
 refine b30 a02 λt=>?_;generalize (Ù3 (co κ it t))[i]?=o1;generalize (Ù3 (co κ it t))[i + 1]?=o2;rcases o1 with _ | ⟨sa,na,pw⟩
 ·exact q80
 rcases o2 with _ | ⟨sb,nb,_⟩
 ·exact q80
 refine b30 (R92 { t with pending:=(t.pending.setIfInBounds i (sa,na + nb,pw)).eraseIdxIfInBounds (i + 1) } rfl) λ_=>?_;refine b30 (r50 t.a sb) λy=>b30 (Y90 O false y t.a sa na 0) λk=>?_;refine l80 (b60 () rfl) (b30 (r50 t.a _) λy=>b30 (Y90 O true y t.a sb nb (nb - 1)) λnb=>l80 (b60 () rfl) (l80 (b30 (J81 ?_ (K11 O (t.a.extract (sa + k) sb) (t.a.extract sb (sb + nb)))) λv=>?_) q80))
 ·rw[Ñ4,Ñ4];rfl
 ·refine b30 (E52 (λu=>ble (sa + k + v.toList.length) u.a.size) (λu=>{ u with a:=spl u.a (sa + k) v.toList }) λu hu=>?_) λ_=>b30 a02 λ_=>b60 () rfl;have e:=fold_map (õ it) (sa + k) v.toList 0 u.a;rw[← Array.toList_map,T11 (sa + k) v.toList 0 u.a (Nat.le_of_ble_eq_true hu)] at e;exact congrArg (λa=>Ì1 κ a u.pending u.minGallop none) e
structure N72(prog:Program)(w:World)(A:Around)(E:Value->Shared->Prop)(s:Shared)(κ:SortKind)(it:Array Keyed)(z:Nat)(m:StateT SortSt Sem Unit) where
 body:Nat->Nat->TM (ForInStep Nat)
 tail:Nat->TM Unit
 sim:Sim prog w A E s κ it (λu:Unit=>u) m (t80 body z 0 0 >>= tail)
def mkH{α:Type}{r:Nat->α}{i:α}{z:Nat}(e0:i=r 0){B:Nat->α->StateT Â7 Sem (ForInStep α)}{k:α->StateT Â7 Sem Unit}(hb:∀ x lo,n40 prog w A E s κ it (y90 r) (B x (r lo)))(hk:∀ lo,n40 prog w A E s κ it (λu:Unit=>u) (k (r lo))) :
  N72 prog w A E s κ it z (forIn [0:z] i B >>= k) where
 body:=λx lo=>(hb x lo).1
 tail:=λlo=>(hk lo).1
 sim:=by
  subst e0;exact l70 (K40 λx b=>(hb x b).2) λb=>(hk b).2
structure l51(prog:Program)(w:World)(A:Around)(E:Value->Shared->Prop)(s:Shared)(κ:SortKind)(it:Array Keyed)(m:StateT SortSt Sem Unit) where
 body:Tw->Nat->Nat->TM (ForInStep Nat)
 tail:Tw->Nat->TM Unit
 sim:Sim prog w A E s κ it (λu:Unit=>u) m (get >>= λt=>t80 (body t) t.a.size 0 0 >>= tail t)
def mkW{F:Â7->StateT Â7 Sem Unit}(h:∀ t:Tw,N72 prog w A E s κ it t.a.size (F (co κ it t))):l51 prog w A E s κ it (get >>= F) where
 body:=λt=>(h t).body
 tail:=λt=>(h t).tail
 sim:=l70 Y80 λt=>(h t).sim
def l51.cast{m m':StateT Â7 Sem Unit}(e:m=m')(h:l51 prog w A E s κ it m'):l51 prog w A E s κ it m:=⟨h.body,h.tail,by rw[e];exact h.sim⟩
def i90(O:Ora prog w A s κ it n cmp):l51 prog w A E s κ it sortRuns':=by
 refine l51.cast sortRuns'_eq (mkW λt=>?_);generalize hz:Ö9 (arrOf (co κ it t))=z;have hz':t.a.size=z:=Array.size_map.symm.trans hz;clear hz;subst hz';refine mkH (r:=λm:Nat=>((none,m):Option Unit × Nat)) rfl (λ_ lo=>l80 (b60 (å lo) rfl) (b30 (o42 O _ _) λm=>?_)) (λ_=>?_)
 ·refine l80 (b30 (J91 _) λ_=>b30 (R82 O _ _ _) λ_=>l80 q80 (b30 a02 λu=>?_)) (b30 a02 λu=>?_)
  all_goals
   generalize Array.back? (Ù3 (co κ it u))=o1;rcases o1 with _ | ⟨s1,n1,_⟩
   ·exact b30 (E42 (λu=>{ u with pending:=u.pending.push (lo,_,0) }) λ_=>rfl) λ_=>b60 (á (lo + _)) rfl
   ·refine b30 (r:=λ_:Unit=>((none,()):Option Unit × Unit)) (q90 () λ_ _=>b30 a02 λu=>?_) λ_=>b30 (E42 (λu=>{ u with pending:=u.pending.modify (u.pending.size - 1) λx=>(x.1,x.2.1,_) }) λ_=>rfl) λ_=>b30 (E42 (λu=>{ u with pending:=u.pending.push (lo,_,0) }) λ_=>rfl) λ_=>b60 (á (lo + _)) rfl;dsimp only;generalize (if Ö9 (Ù3 (co κ it u)) > 1 then(Ù3 (co κ it u))[Ö9 (Ù3 (co κ it u)) - 2]? else none)=o2;rcases o2 with _ | ⟨_,_,old⟩
    ·exact b60 (å ()) rfl
    ·exact l80 (b60 (å ()) rfl) (b30 (e91 O _) λ_=>l80 q80 (b60 (á ()) rfl))
 ·exact b30 (r:=λ_:Unit=>((none,()):Option Unit × Unit)) (q90 () λ_ _=>b30 a02 λu=>l80 (b60 (å ()) rfl) (b30 (e91 O _) λ_=>l80 q80 (b60 (á ()) rfl))) λ_=>b60 () rfl
end
def upN:Nat->Nat->Nat->List Nat
 |0,_,h=>[h]|b + 1,v,h=>upN b (2 * v) (h + v)++upN b (2 * v) h
def neN:Nat->Nat->Nat->List Nat
 |0,_,_=>[]|b + 1,v,h=>(h + v)::(neN b (2 * v) (h + v)++neN b (2 * v) h)
def sN(b:Nat):List Nat:=0::neN b 1 0
def B80:Nat->Nat->Nat->List Nat
 |0,_,_=>[]|k + 1,i,m=>if Nat.testBit m 0 then i::B80 k (i + 1) (m / 2) else B80 k (i + 1) (m / 2)
def z92:List Nat->List Nat->Bool
 |[],[]=>false|[],_::_=>true|_::_,[]=>false|a::r,b::q=>if beq a b then z92 r q else Nat.blt a b
def v70(K i j:Nat):Bool:=z92 (B80 K 0 i) (B80 K 0 j)
section
variable {prog:Ý}{w:è}{A:ö}{E:Ä->Æ->Prop}{s:Æ}{κ:Î7}{it:Array Keyed}
def T0(K:Nat):Tw:=⟨⟨ë (2 ^ K)⟩,#[],7⟩
def TZ(K p:Nat):Tw:=⟨⟨sN K⟩,#[(0,2 ^ K,p)],7⟩
theorem z00{β:Type}{f:Nat->β->TM (ForInStep β)}{n i:Nat}{b b':β}{t t':Tw}{r:Option (β × Tw)}(h:f i b t=some (.yield b',t'))(h2:t80 f n (i + 1) b' t'=r):t80 f (n + 1) i b t=r:=by
 show Option.bind (f i b t) _=r;rw[h];exact h2
def goW{K:Nat}(O:Ora prog w A s κ it (2 ^ K) (v70 K)):TM Unit:=get >>= λt=>t80 ((i90 (E:=E) O).body t) t.a.size 0 0 >>= (i90 (E:=E) O).tail t
theorem two{K n:Nat}{t:Tw}{r:Option (Unit × Tw)}(O:Ora prog w A s κ it (2 ^ K) (v70 K))(h:t80 ((i90 (E:=E) O).body (T0 K)) (2 ^ K) 0 0 (T0 K)=some (n,t))(h2:(i90 (E:=E) O).tail (T0 K) n t=r):goW (E:=E) O (T0 K)=r:=by
 show Option.bind (t80 ((i90 (E:=E) O).body (T0 K)) (ë (2 ^ K)).length 0 0 (T0 K)) _=r;rw[ù,h];exact h2
theorem w1(O:Ora prog w A s κ it (2 ^ 1) (v70 1)):goW (E:=E) O (T0 1)=some ((),TZ 1 0):=by kernel_rfl
theorem w2(O:Ora prog w A s κ it (2 ^ 2) (v70 2)):goW (E:=E) O (T0 2)=some ((),TZ 2 0):=by kernel_rfl
theorem w3(O:Ora prog w A s κ it (2 ^ 3) (v70 3)):goW (E:=E) O (T0 3)=some ((),TZ 3 0):=by kernel_rfl
theorem w4(O:Ora prog w A s κ it (2 ^ 4) (v70 4)):goW (E:=E) O (T0 4)=some ((),TZ 4 0):=by kernel_rfl
theorem w5(O:Ora prog w A s κ it (2 ^ 5) (v70 5)):goW (E:=E) O (T0 5)=some ((),TZ 5 0):=by kernel_rfl
theorem w6(O:Ora prog w A s κ it (2 ^ 6) (v70 6)):goW (E:=E) O (T0 6)=some ((),TZ 6 1):=by kernel_rfl
theorem S02(O:Ora prog w A s κ it (2 ^ 7) (v70 7)):(i90 (E:=E) O).body (T0 7) 0 0 (T0 7)=some (.yield 32,⟨⟨sN 5++Â8 32 96⟩,#[(0,32,0)],7⟩):=by kernel_rfl
theorem S12(O:Ora prog w A s κ it (2 ^ 7) (v70 7)):(i90 (E:=E) O).body (T0 7) 1 32 ⟨⟨sN 5++Â8 32 96⟩,#[(0,32,0)],7⟩=some (.yield 64,⟨⟨sN 5++(upN 5 1 32++Â8 64 64)⟩,#[(0,32,2),(32,32,0)],7⟩):=by kernel_rfl
theorem S22(O:Ora prog w A s κ it (2 ^ 7) (v70 7)):(i90 (E:=E) O).body (T0 7) 2 64 ⟨⟨sN 5++(upN 5 1 32++Â8 64 64)⟩,#[(0,32,2),(32,32,0)],7⟩=some (.yield 96,⟨⟨sN 6++(upN 5 1 64++Â8 96 32)⟩,#[(0,64,1),(64,32,0)],7⟩):=by kernel_rfl
theorem S32(O:Ora prog w A s κ it (2 ^ 7) (v70 7)):(i90 (E:=E) O).body (T0 7) 3 96 ⟨⟨sN 6++(upN 5 1 64++Â8 96 32)⟩,#[(0,64,1),(64,32,0)],7⟩=some (.yield 128,⟨⟨sN 6++(upN 5 1 64++upN 5 1 96)⟩,#[(0,64,1),(64,32,2),(96,32,0)],7⟩):=by kernel_rfl
theorem S42(O:Ora prog w A s κ it (2 ^ 7) (v70 7)):t80 ((i90 (E:=E) O).body (T0 7)) 124 4 128 ⟨⟨sN 6++(upN 5 1 64++upN 5 1 96)⟩,#[(0,64,1),(64,32,2),(96,32,0)],7⟩=some (128,⟨⟨sN 6++(upN 5 1 64++upN 5 1 96)⟩,#[(0,64,1),(64,32,2),(96,32,0)],7⟩):=by kernel_rfl
theorem S52(O:Ora prog w A s κ it (2 ^ 7) (v70 7)):(i90 (E:=E) O).tail (T0 7) 128 ⟨⟨sN 6++(upN 5 1 64++upN 5 1 96)⟩,#[(0,64,1),(64,32,2),(96,32,0)],7⟩=some ((),TZ 7 1):=by kernel_rfl
theorem w7(O:Ora prog w A s κ it (2 ^ 7) (v70 7)):goW (E:=E) O (T0 7)=some ((),TZ 7 1):=two O (z00 (S02 O) (z00 (S12 O) (z00 (S22 O) (z00 (S32 O) (S42 O))))) (S52 O)
theorem S62(O:Ora prog w A s κ it (2 ^ 8) (v70 8)):(i90 (E:=E) O).body (T0 8) 0 0 (T0 8)=some (.yield 32,⟨⟨sN 5++Â8 32 224⟩,#[(0,32,0)],7⟩):=by kernel_rfl
theorem S72(O:Ora prog w A s κ it (2 ^ 8) (v70 8)):(i90 (E:=E) O).body (T0 8) 1 32 ⟨⟨sN 5++Â8 32 224⟩,#[(0,32,0)],7⟩=some (.yield 64,⟨⟨sN 5++(upN 5 1 32++Â8 64 192)⟩,#[(0,32,3),(32,32,0)],7⟩):=by kernel_rfl
theorem S82(O:Ora prog w A s κ it (2 ^ 8) (v70 8)):(i90 (E:=E) O).body (T0 8) 2 64 ⟨⟨sN 5++(upN 5 1 32++Â8 64 192)⟩,#[(0,32,3),(32,32,0)],7⟩=some (.yield 96,⟨⟨sN 6++(upN 5 1 64++Â8 96 160)⟩,#[(0,64,2),(64,32,0)],7⟩):=by kernel_rfl
theorem S92(O:Ora prog w A s κ it (2 ^ 8) (v70 8)):(i90 (E:=E) O).body (T0 8) 3 96 ⟨⟨sN 6++(upN 5 1 64++Â8 96 160)⟩,#[(0,64,2),(64,32,0)],7⟩=some (.yield 128,⟨⟨sN 6++(upN 5 1 64++(upN 5 1 96++Â8 128 128))⟩,#[(0,64,2),(64,32,3),(96,32,0)],7⟩):=by kernel_rfl
theorem T02(O:Ora prog w A s κ it (2 ^ 8) (v70 8)):(i90 (E:=E) O).body (T0 8) 4 128 ⟨⟨sN 6++(upN 5 1 64++(upN 5 1 96++Â8 128 128))⟩,#[(0,64,2),(64,32,3),(96,32,0)],7⟩=some (.yield 160,⟨⟨sN 7++(upN 5 1 128++Â8 160 96)⟩,#[(0,128,1),(128,32,0)],7⟩):=by kernel_rfl
theorem T12(O:Ora prog w A s κ it (2 ^ 8) (v70 8)):(i90 (E:=E) O).body (T0 8) 5 160 ⟨⟨sN 7++(upN 5 1 128++Â8 160 96)⟩,#[(0,128,1),(128,32,0)],7⟩=some (.yield 192,⟨⟨sN 7++(upN 5 1 128++(upN 5 1 160++Â8 192 64))⟩,#[(0,128,1),(128,32,3),(160,32,0)],7⟩):=by kernel_rfl
theorem T22(O:Ora prog w A s κ it (2 ^ 8) (v70 8)):(i90 (E:=E) O).body (T0 8) 6 192 ⟨⟨sN 7++(upN 5 1 128++(upN 5 1 160++Â8 192 64))⟩,#[(0,128,1),(128,32,3),(160,32,0)],7⟩=some (.yield 224,⟨⟨sN 7++(upN 6 1 128++(upN 5 1 192++Â8 224 32))⟩,#[(0,128,1),(128,64,2),(192,32,0)],7⟩):=by kernel_rfl
theorem T32(O:Ora prog w A s κ it (2 ^ 8) (v70 8)):(i90 (E:=E) O).body (T0 8) 7 224 ⟨⟨sN 7++(upN 6 1 128++(upN 5 1 192++Â8 224 32))⟩,#[(0,128,1),(128,64,2),(192,32,0)],7⟩=some (.yield 256,⟨⟨sN 7++(upN 6 1 128++(upN 5 1 192++upN 5 1 224))⟩,#[(0,128,1),(128,64,2),(192,32,3),(224,32,0)],7⟩):=by kernel_rfl
theorem T42(O:Ora prog w A s κ it (2 ^ 8) (v70 8)):t80 ((i90 (E:=E) O).body (T0 8)) 248 8 256 ⟨⟨sN 7++(upN 6 1 128++(upN 5 1 192++upN 5 1 224))⟩,#[(0,128,1),(128,64,2),(192,32,3),(224,32,0)],7⟩=some (256,⟨⟨sN 7++(upN 6 1 128++(upN 5 1 192++upN 5 1 224))⟩,#[(0,128,1),(128,64,2),(192,32,3),(224,32,0)],7⟩):=by kernel_rfl
theorem T52(O:Ora prog w A s κ it (2 ^ 8) (v70 8)):(i90 (E:=E) O).tail (T0 8) 256 ⟨⟨sN 7++(upN 6 1 128++(upN 5 1 192++upN 5 1 224))⟩,#[(0,128,1),(128,64,2),(192,32,3),(224,32,0)],7⟩=some ((),TZ 8 1):=by kernel_rfl
theorem w8(O:Ora prog w A s κ it (2 ^ 8) (v70 8)):goW (E:=E) O (T0 8)=some ((),TZ 8 1):=two O (z00 (S62 O) (z00 (S72 O) (z00 (S82 O) (z00 (S92 O) (z00 (T02 O) (z00 (T12 O) (z00 (T22 O) (z00 (T32 O) (T42 O))))))))) (T52 O)
theorem T62{K:Nat}(h1:1<=K)(h8:K<=8)(O:Ora prog w A s κ it (2 ^ K) (v70 K)):∃ p,goW (E:=E) O (T0 K)=some ((),TZ K p):=by
 match K,h1,h8,O with
 |1,_,_,O=>exact⟨_,w1 O⟩|2,_,_,O=>exact⟨_,w2 O⟩|3,_,_,O=>exact⟨_,w3 O⟩|4,_,_,O=>exact⟨_,w4 O⟩|5,_,_,O=>exact⟨_,w5 O⟩|6,_,_,O=>exact⟨_,w6 O⟩|7,_,_,O=>exact⟨_,w7 O⟩|8,_,_,O=>exact⟨_,w8 O⟩
theorem runL{K:Nat}{vs:List Ä}(h1:1<=K)(h8:K<=8)(hv:vs.length=2 ^ K)(O:Ora prog w A s κ (vs.toArray.zip vs.toArray) (2 ^ K) (v70 K)):MySort.E12 prog w A s vs (λp=>p=sN K) κ:=by
 refine⟨sN K,rfl,λE Q q=>?_⟩;obtain⟨pp,e⟩:=T62 (E:=E) h1 h8 O;have r:=(i90 (E:=E) O).sim (T0 K) () (TZ K pp) e (λu st s'=>s'=s/\failedOf st=none/\arrOf st=((sN K).toArray).map (õ (vs.toArray.zip vs.toArray))) ⟨rfl,rfl,rfl⟩;have est:Ì1 κ (vs.toArray.zip vs.toArray) #[] 7 none=co κ (vs.toArray.zip vs.toArray) (T0 K):=by
  have e:=kas_range (vs.toArray.zip vs.toArray);rw[show(vs.toArray.zip vs.toArray).size=2 ^ K by simp[hv]] at e
  show _=Ì1 κ ((toArray (ë (2 ^ K))).map (õ (vs.toArray.zip vs.toArray))) #[] 7 none;rw[e]
 rw[est];refine Â1 r (λx s' h=>?_) λ_ _ e=>e;obtain⟨rfl,h2,h3⟩:=h;exact q x.2 h2 h3
end
end TS
namespace HT
open PySem PyProof.Rows
section
open PySem.SeqAt
open PySem.AutoSeq1 (wpAny_loadPart')
open PySem.MeetsSeq PySem.MeetsSeq2 PySem.MeetsSeq3
open MySort (h60)
def leB(ns ms:List Int):Bool:=!h60 ms ns
theorem K21(x y:Int)(r q:List Int):leB (x::r) (y::q)=if x=y then leB r q else decide (x<=y):=by
 show(!(if y=x then h60 q r else decide (y < x)))=_;by_cases e:x=y
 ·rw[if_pos e,if_pos e.symm];rfl
 ·rw[if_neg e,if_neg (Â3 e)];by_cases l:y < x
  ·rw[decide_eq_true l,decide_eq_false ∅];rfl
  ·rw[decide_eq_false l,decide_eq_true ∅];rfl
theorem K31(A:ö)(s:Æ)(a:Int)(t:Tok)(c:Int)(u:Tok)(P:Ý)(w:è)(E:Ä->Æ->Prop)(Q:Ä->Æ->Prop)(h:Q (.bool (decide (a<=c))) s):Î (Ô P w) A (richCompare .LtE (.int a t) (.int c u)) Q E s :=
 (PyProof.Rows.le_int h:Î (Ô P w) A (ü .LtE (.int a t) (.int c u)) Q E s)
theorem K50(l b:Ç)(i1 i2:Array Ä)(n n2:Nat)(dd dd2:Option Ç)(sl sl2:Array (Option Ä))(ns ms:List Int)(hi:Ë5 i1.toList ns)(hj:Ë5 i2.toList ms) :
  Meets (ÿ.«tuple.__le__» ⟨[.ref l,.ref b],[]⟩) (λ_ R s=>s.heap.get? l=some { cls:=.type "tuple",dict:=dd,data:=.seq i1 n,slots:=sl }/\s.heap.get? b=some { cls:=.type "tuple",dict:=dd2,data:=.seq i2 n2,slots:=sl2 }/\R (.ok (.ret (.bool (leB ns ms)))) s) :=
 .of_wp λP w A R s h=>by
  obtain⟨hp,g,d,tk,os⟩:=s;obtain⟨hl,hb,h⟩:=h;have f2:=Ý0;have z1:i1.size=ns.length:=by rw[← hi.length];simp
  have z2:i2.size=ms.length:=by rw[← hj.length];simp
  wp_walk using Ä7 hl,Ä7 hb,wpAny_forIn_list _ (λrest b s'=>b.1=none/\s'=⟨hp,g,d,tk,os⟩/\∃ (vs ws:List Ä) (ns' ms':List Int),rest=vs.zip ws/\Ë5 vs ns'/\Ë5 ws ms'/\ns'.length + i2.size=ms'.length + i1.size/\R (.ok (.ret (.bool (leB ns' ms')))) ⟨hp,g,d,tk,os⟩) _
  case turn =>
   rintro ⟨y,x⟩ rest b s' ⟨hb',rfl,vs,ws,ns',ms',hz,hvi,hwi,hlen,hR⟩;cases hvi with
   |nil=>rw[Ù8] at hz;cases hz
   |cons a t hvi' =>
    cases hwi with
    |nil=>rw[List.zip_nil_right] at hz;cases hz
    |cons c u hwi' =>
     rw[Ê2] at hz;injection hz with hyx hrest;injection hyx with hy hx;subst hy hx;rw[K21] at hR;simp only[Û] at hlen;obtain⟨e,he,hiff⟩:=I11 A.in1 ⟨hp,g,d,tk,os⟩ a t c u;refine À (he P w _ _ ?_);cases e with
     |true =>
      rw[if_pos (hiff.mp rfl)] at hR;wp_walk;exact⟨rfl,rfl,_,_,_,_,hrest,hvi',hwi',by omega,hR⟩
     |false =>
      rw[if_neg (λq=>absurd (hiff.mpr q) Ð)] at hR;have hri:=K31 A.in1 ⟨hp,g,d,tk,os⟩ a t c u P w
      wp_walk using hri
      exact⟨_,rfl,by simpa using hR⟩
  case fin =>
   rintro ⟨b1,b2⟩ s' ⟨hb',rfl,vs,ws,ns',ms',hz,hvi,hwi,hlen,hR⟩;simp only at hb';subst hb';have hv:leB ns' ms'=decide (i1.size<=i2.size):=by
    cases hvi with
    |nil =>
     cases hwi with
     |nil=>simp only[Á0] at hlen;exact(decide_eq_true ∅).symm|cons c u hw=>simp only[Á0,Û] at hlen;exact(decide_eq_true ∅).symm
    |cons a t hv =>
     cases hwi with
     |nil=>simp only[Á0,Û] at hlen;exact(decide_eq_false ∅).symm|cons c u hw=>rw[Ê2] at hz;cases hz
   rw[hv] at hR;wp_walk;exact⟨_,rfl,by simpa [tupleCompareSizes] using hR⟩
  case h=>exact⟨rfl,rfl,i1.toList,i2.toList,ns,ms,rfl,hi,hj,by omega,h⟩
end
section
variable {P:Ý}{w:è}{A:ö}{E:Ä->Æ->Prop}{s:Æ}
theorem l61(hl:Ï0 s.heap l i1)(hb:Ï0 s.heap b i2)(hi:Ë5 i1.toList ns)(hj:Ë5 i2.toList ms)
  (hu:A.units < Å9) (h:Q (.bool (leB ns ms)) s):Î (Ô P w) A (ü .LtE (.ref l) (.ref b)) Q E s:=by
 obtain⟨⟨cls,dd,data,sl⟩,ho,hc,n,hd⟩:=id hl;obtain⟨⟨cls2,dd2,data2,sl2⟩,ho2,hc2,n2,hd2⟩:=id hb;simp only at hc hd hc2 hd2;subst hc hd hc2 hd2;exact richCompare_meets_room (op:=.LtE) ⟨_,ho,rfl⟩ ⟨_,ho2,rfl⟩ PySem.F.slot_tuple_le PySem.F.entry_tuple_le (PySem.F.args_tuple_le_2 _ _) (K50 l b i1 i2 n n2 dd dd2 sl sl2 ns ms hi hj)
  ⟨ho,ho2,show Î6 (leB ns ms)≠Õ1/\Q (.bool (leB ns ms)) s from⟨(λx=>nomatch x),h⟩⟩ hu
theorem a12{t b:Ç}{ws:List Ä}{Q:Ä->Æ->Prop}(ht:Ï0 s.heap t #[])(hb:Ï0 s.heap b ws.toArray)(h:Q (.ref b) s):Î (Ô P w) A (Ä2 .Add (.ref t) (.ref b)) Q E s:=by
 obtain⟨⟨cls,dd,data,sl⟩,ho,hc,n,hd⟩:=id ht;obtain⟨⟨cls2,dd2,data2,sl2⟩,ho2,hc2,n2,hd2⟩:=id hb;simp only at hc hd hc2 hd2;subst hc hd hc2 hd2;exact concat_meets ⟨_,ho,rfl⟩ ⟨_,ho2,rfl⟩ ß0 seq_tuple_add Ò0 Ð8 (Ï6 _ _) (tuple_addW0 t b #[] ws.toArray n n2 dd dd2 sl sl2 (by simp)) ⟨ho,ho2,h⟩
theorem R70:seqRepeat? (.type "tuple")=pure (some (.builtin "tuple.__mul__")):=by
 first | kernel_rfl | rfl | (unfold seqRepeat?;kernel_rfl)
theorem z20:fillsNumberSlot (.type "tuple") "mul"=pure false:=by
 first | kernel_rfl | rfl
theorem l71(a:Int)(t:Tok)(l:Ç)(xs:Array Ä)(n:Nat)(dd:Option Ç)(sl:Array (Option Ä)) :
  Meets (ÿ.«int.__rmul__» ⟨[.int a t,.ref l],[]⟩) (λ_ R s=>s.heap.get? l=some { cls:=.type "tuple",dict:=dd,data:=.seq xs n,slots:=sl }/\R (.ok (.ret Õ1)) s) :=
 .of_wp λP w A R s h=>by obtain⟨hp,g,d,tk,os⟩:=s;obtain⟨hl,h⟩:=h;wp_walk;exact⟨_,rfl,h⟩
theorem K41(l:Ç)(xs:Array Ä)(k:Int)(u:Tok)(n:Nat)(dd:Option Ç)(sl:Array (Option Ä))(h1:¬ (decide (k < -(2 ^ 63)) || decide (k ≥ 2 ^ 63))=true)(h2:(xs.isEmpty || k == 1)=true) :
  Meets (ÿ.«tuple.__mul__» ⟨[.ref l,.int k u],[]⟩) (λ_ R s=>s.heap.get? l=some { cls:=.type "tuple",dict:=dd,data:=.seq xs n,slots:=sl }/\R (.ok (.ret (.ref l))) s) :=
 .of_wp λP w A R s h=>by
  obtain⟨hp,g,d,tk,os⟩:=s;obtain⟨hl,h⟩:=h;have f1:=Ø4
  wp_walk using Ã8 hl
  simp only[h1,if_false]
  wp_walk using Ã8 hl
  exact⟨_,rfl,h⟩
theorem mul_zero(l:Ç)(xs:Array Ä)(k:Int)(u:Tok)(n:Nat)(dd:Option Ç)(sl:Array (Option Ä))(h1:¬ (decide (k < -(2 ^ 63)) || decide (k ≥ 2 ^ 63))=true)(h2:¬ (xs.isEmpty || k == 1)=true)(h3:(decide (k<=0) || xs.isEmpty)=true) :
  Meets (ÿ.«tuple.__mul__» ⟨[.ref l,.int k u],[]⟩) (λ_ R s=>s.heap.get? l=some { cls:=.type "tuple",dict:=dd,data:=.seq xs n,slots:=sl }/\R (.ok (.ret (.ref s.heap.objs.size))) { s with heap:=s.heap.push { cls:=.type "tuple",data:=.seq #[] } }) :=
 .of_wp λP w A R s h=>by
  obtain⟨hp,g,d,tk,os⟩:=s;obtain⟨hl,h⟩:=h;have f1:=Ø4
  wp_walk using Ã8 hl
  simp only[h1,if_false]
  wp_walk using Ã8 hl
  exact⟨_,rfl,h⟩
theorem K51(l:Ç)(xs:Array Ä)(k:Int)(u:Tok)(n:Nat)(dd:Option Ç)(sl:Array (Option Ä))(h1:¬ (decide (k < -(2 ^ 63)) || decide (k ≥ 2 ^ 63))=true)(h2:¬ (xs.isEmpty || k == 1)=true)(h3:¬ (decide (k<=0) || xs.isEmpty)=true)
  (h4:¬ (xs.size:Int) * k > (2 ^ 63 - 1) / 8) (h5:¬ tupleTooMany ((xs.size:Int) * k)=true) (h6:(foldl (λx y=>x++y) #[] (ì k.toNat xs)).size<=Ú) :
  Meets (ÿ.«tuple.__mul__» ⟨[.ref l,.int k u],[]⟩) (λ_ R s=>s.heap.get? l=some { cls:=.type "tuple",dict:=dd,data:=.seq xs n,slots:=sl }/\R (.ok (.ret (.ref s.heap.objs.size))) { s with heap:=s.heap.push { cls:=.type "tuple",data:=.seq (foldl (λx y=>x++y) #[] (ì k.toNat xs)) } }) :=
 .of_wp λP w A R s h=>by
  obtain⟨hp,g,d,tk,os⟩:=s;obtain⟨hl,h⟩:=h;have f1:=Ø4
  wp_walk using Ã8 hl
  simp only[h1,if_false]
  wp_walk using Ã8 hl
  simp only[h4,h5,if_false];refine À (m:=Ç0 _) (æ (Å ?_) h6);exact⟨_,rfl,h⟩
end
theorem t90(f:α->Option β)(g:α->β):∀ (l:List α),(∀ k∈l,f k=some (g k))->l.filterMap f=l.map g
 |[],_=>rfl|x::r,h=>by rw[Á3,h x Ì,Å7,t90 f g r λk hk=>h k (È _ hk)]
section
variable {P:Ý}{w:è}{A:ö}{E:Ä->Æ->Prop}{s:Æ}
theorem r60{t sl:Ç}{xs:Array Ä}{vl vu:Ä}{lo hi:Option Int}{Q:Ä->Æ->Prop}(ht:Ï0 s.heap t xs)(hs:s.heap.IsSliceOf sl vl vu .none)(pl:Ù2 vl lo)(pu:Ù2 vu hi)
  (hw:sIx xs.size 0 lo=0/\sIx xs.size xs.size hi=xs.size) (h:Q (.ref t) s):Î (Ô P w) A (Ó2 (.ref t) (.ref sl)) Q E s:=by
 obtain⟨os,hos,hcs,hds⟩:=id hs;have hTs:s.TypeIs (.ref sl) "slice":=⟨os,hos,hcs⟩;unfold Ó2;try with_reducible refine À7 ?_
 first | refine À (Å ?_) | skip
 refine À (Ý1 ht.typeIs (-0) ?_);refine À (À5 (name:=À9 "__getitem__") ht.typeIs ò (À4 ò ht.typeIs entry_tuple_getitem ?_ (Ü2 _ _)))
 show Î _ _ (tupleItemsOf (.ref t) >>= _) _ _ s;refine À (tupleItemsOf_ ht (À (Ç7 hTs ?_)));rw[if_pos (-0)];refine À (m80 hs pl pu ?_)
 rw[hw.1,hw.2];show Î _ _ (if (((0:Nat):Int) == 0&&(1:Int) == 1&&(xs.size - 0) == xs.size)=true then _ else _) _ _ s;rw[if_pos (by simp)]
 refine À (m:=tupleIsExact _) ?_;unfold tupleIsExact;refine À (Ç7 ht.typeIs (Å ?_));rw[if_pos (-0)]
 first
  |exact À (É7 (Å ⟨_,rfl,Å h⟩))
  |exact À (É7 (À (Å (Å ⟨_,rfl,Å h⟩))))
theorem w10{t sl:Ç}{xs:List Ä}{u:Tok}{Q:Ä->Æ->Prop}(ht:Ï0 s.heap t xs.toArray)(hs:s.heap.IsSliceOf sl .none .none (.int (-1) u))
  (h:Q (.ref s.heap.objs.size) { s with heap:=s.heap.push { cls:=.type "tuple",data:=.seq xs.reverse.toArray } }) (hz:xs.length<=Ú):Î (Ô P w) A (Ó2 (.ref t) (.ref sl)) Q E s:=by
 obtain⟨os,hos,hcs,hds⟩:=id hs;have hTs:s.TypeIs (.ref sl) "slice":=⟨os,hos,hcs⟩;unfold Ó2;try with_reducible refine À7 ?_
 first | refine À (Å ?_) | skip
 refine À (Ý1 ht.typeIs (-0) ?_);refine À (À5 (name:=À9 "__getitem__") ht.typeIs ò (À4 ò ht.typeIs entry_tuple_getitem ?_ (Ü2 _ _)))
 show Î _ _ (tupleItemsOf (.ref t) >>= _) _ _ s;refine À (tupleItemsOf_ ht (À (Ç7 hTs ?_)));rw[if_pos (-0)]
 have app:∀ {R:Int × Int × Nat->Æ->Prop},R ((xs.length:Int) - 1,-1,xs.length) s->Î (Ô P w) A.in1 (Ô4 (.ref sl) (pure (xs.toArray.size:Int))) R E s:=λ{R} q=>by
  unfold Ô4 sliceFields;refine À (À (Á5 hos hds (x:=.none) rfl (À (Á5 hos hds (x:=.none) rfl (À (Á5 hos hds (x:=.int (-1) u) rfl (Å ?_)))))));refine À (slicePart_int ?_);show Î _ _ (if ((-1:Int) == 0)=true then _ else _) _ _ s;rw[if_neg (-0)]
  refine À (Ø7 (À (Ø7 (À (Å ?_)))));have e1:Í1 none none (-1) (xs.toArray.size:Int)=((xs.length:Int) - 1,-1):=by simp[Í1]
  have e2:È8 ((xs.length:Int) - 1) (-1) (-1)=xs.length:=by
   unfold È8;rw[if_neg (-0)]
   split
   ·simp only[Int.neg_neg,Int.ediv_one];omega
   ·omega
  show Î _ _ (match Í1 none none (-1) (xs.toArray.size:Int) with | (lo,hi)=>pure (lo,(-1:Int),È8 lo hi (-1))) _ _ s
  rw[e1];show Î _ _ (pure ((xs.length:Int) - 1,(-1:Int),È8 ((xs.length:Int) - 1) (-1) (-1))) _ _ s;rw[e2];exact Å q
 refine À (app ?_);show Î _ _ (if (((xs.length:Int) - 1) == 0&&(-1:Int) == 1&&xs.length == xs.toArray.size)=true then _ else _) _ _ s;rw[if_neg (by simp)]
 have pick:((ë xs.length).filterMap λ(k:Nat)=>xs.toArray[((xs.length:Int) - 1 + (k:Int) * -1).toNat]?)=xs.reverse:=by
  refine List.ext_getElem? λi=>?_;have hall:∀ k∈ë xs.length,xs.toArray[((xs.length:Int) - 1 + (k:Int) * -1).toNat]?=some (xs.getD (xs.length - 1 - k) â):=λk hk=>by
   have hk':k < xs.length:=by simpa using hk
   have e:((xs.length:Int) - 1 + (k:Int) * -1).toNat=xs.length - 1 - k:=by omega
   rw[e];have:xs.length - 1 - k < xs.length:=by omega
   simp[this]
  rw[t90 _ _ _ hall,Ü];by_cases hi:i < xs.length
  ·have h2:xs.length - 1 - i < xs.length:=by omega
   rw[É6 hi,List.getElem?_reverse hi];simp[h2]
  ·rw[á3 (by simpa using hi),á3 (by simpa using hi)];rfl
 rw[pick];have hsz:sizeOk (.seq xs.reverse.toArray):=by show xs.reverse.toArray.size<=Ú;rw[Ó,Ì0];exact hz
 first
  |exact À (m:=Ç0 _) (æ (Å ⟨_,rfl,Å h⟩) hsz)
  |exact À (m:=Ç0 _) (æ (À (Å (Å ⟨_,rfl,Å h⟩))) hsz)
  |exact À (À (m:=Ç0 _) (æ (Å (Å ⟨_,rfl,Å h⟩)) hsz))
  |exact À (À (m:=Ç0 _) (æ (Å ⟨_,rfl,Å h⟩) hsz))
end
end HT
namespace L2
open PySem PySem.Spec PyProof.Rows
theorem a30.sqT{K:Â}{H H':Hp}{a:Ç}{xs:List V}(e:a30 H H')(h:SqT K H a xs):SqT K H' a xs:=by
 rcases h with (h | ⟨o,h⟩) | h
 ·exact .inl (.inl (e _ _ h))
 ·exact .inl (.inr ⟨o,e _ _ h⟩)
 ·exact .inr h
theorem a30.new(o:HO)(n:H p=none):a30 H (upd H p o):=λb u e=>by rw[a60 (a80 e n)];exact e
def K61(K:Â)(H:Hp)(zs:List V)(Q:VK):Prop:=∀ p H',a30 H H'->SqT K H' p zs->Q (.ref p) H'
section
variable {X:Cx}{pins:List (Ç × Obj)}{σ:St}{H:Hp}{s:Æ}
theorem K61.here(q:K61 X.K H zs Q)(I:Inv X pins σ H s)(h:SqT X.K H a zs):EP X pins σ Q (.ref a) s:=⟨.ref a,H,I,rfl,q a H (a30.refl H) h⟩
theorem K61.new(q:K61 X.K H zs Q)(I:Inv X pins σ H s)(r:Vals zs us)(hz:zs.length<=Ú) :
  EP X pins σ Q (.ref s.heap.objs.size) { s with heap:=s.heap.push { cls:=.type "tuple",data:=.seq us.toArray } } :=
 have hn:H s.heap.objs.size=none:=I.hok.fresh (Í _)
 ⟨.ref s.heap.objs.size,_,I.laid (t':=s.toks) (o:=.tup zs) (λb ob q=>Ã _ q) (Í _) ⟨hz,_,r,Ï0.new _ _⟩,rfl,q _ _ (a30.new _ hn) (SqT.of b20)⟩
end
section
variable {X:Cx}
def T72(K:Â):R2:=λx y H Q=>∃ a b ns ms,x=.ref a/\y=.ref b/\SqT K H a (ns.map V.int)/\SqT K H b (ms.map V.int)/\Q (.bl (HT.leB ns ms)) H
theorem o62(hu:X.A.units < Å9):OpR X (ü .LtE) (T72 X.K):=by
 intro pins s σ H x y v u Q I rx ry h;obtain⟨a,b,ns,ms,rfl,rfl,ha,hb,q⟩:=h;cases rx;cases ry;obtain⟨v1,r1,p1,_⟩:=I.tuple ha;obtain⟨v2,r2,p2,_⟩:=I.tuple hb;exact HT.l61 p1 p2 (show Ë5 v1.toArray.toList ns from intsAre_of r1) (show Ë5 v2.toArray.toList ms from intsAre_of r2) hu ⟨.bl (HT.leB ns ms),H,I,rfl,q⟩
def E62(K:Â):R2:=λx y H Q=>∃ a b xs ys,x=.ref a/\y=.ref b/\SqT K H a xs/\SqT K H b ys/\xs.length + ys.length<=Ú/\K61 K H (xs++ys) Q
theorem a22:OpR X (Ä2 .Add) (E62 X.K):=by
 intro pins s σ H x y v u Q I rx ry h;obtain⟨a,b,xs,ys,rfl,rfl,ha,hb,hz,q⟩:=h;cases rx;cases ry;obtain⟨v1,r1,p1,_⟩:=I.tuple ha;obtain⟨v2,r2,p2,_⟩:=I.tuple hb;by_cases hx:xs=[]
 ·subst hx;have e:=r1.J20.mpr rfl;subst e;exact HT.a12 p1 p2 (q.here I hb)
 ·refine HT.Y21 p1 p2 (λz=>hx (r1.J20.mp z)) (λz=>?_) (λz=>q.new I (r1.append r2) (by rw[Á9];exact hz)) (by rw[← r1.length,← r2.length];exact hz)
  have e:=r2.J20.mp z;subst e;rw[append_nil] at q;exact q.here I ha
def E72(K:Â):R2:=λx y H Q=>∃ a k xs,x=.ref a/\y=.int k/\SqT K H a xs/\0<=k/\k < 1000000/\k.toNat * xs.length<=Ú/\K61 K H (ì k.toNat xs).flatten Q
theorem a32:OpR X (Ä2 .Mult) (E72 X.K):=by
 intro pins s σ H x y v u Q I rx ry h;obtain⟨a,k,xs,rfl,rfl,ha,hk,hk2,hz,q⟩:=h;cases rx;obtain⟨t,rfl⟩:=ry;obtain⟨v1,r1,p1,_⟩:=I.tuple ha;have hl:=r1.length;obtain⟨⟨cls,dd,data,sl⟩,ho,hc,n,hd⟩:=id p1;simp only at hc hd;subst hc hd;have h1:¬ (decide (k < -(2 ^ 63)) || decide (k ≥ 2 ^ 63))=true:=by simp;omega
 refine wpAny_binaryOp_repeat_ref (T:="tuple") (U:="int") (-0) ⟨_,ho,rfl⟩ (λs'=>Û9 s' k t) HT.z20 F.fills_int_mul Õ6 HT.R70 F.slot_int_index.lookup
  (È2 Õ6 (Û9 s k t) F.entry_int_rmul (F.args_int_rmul_2 _ _) (HT.l71 k t a v1.toArray n dd sl) ⟨ho,rfl,⟨_,ho,rfl⟩,?_⟩)
 by_cases hx:v1=[]∨k=1
 ·refine È2 Ý8 ⟨_,ho,rfl⟩ Ü6 (Ú9 _ _) (HT.K41 a v1.toArray k t n dd sl h1 (by rcases hx with hx | hx <;> simp[hx])) ⟨ho,?_⟩
  have e2:(ì k.toNat xs).flatten=xs:=by
   rcases hx with hx | hx
   ·rw[r1.J20.mp hx];simp
   ·rw[hx];simp
  rw[e2] at q;exact q.here I ha
 ·have hv:v1≠[]:=λz=>hx (.inl z);have h2:¬ (v1.toArray.isEmpty || k == 1)=true:=by simp[hv];exact λz=>hx (.inr z)
  by_cases hk0:k=0
  ·refine È2 Ý8 ⟨_,ho,rfl⟩ Ü6 (Ú9 _ _) (HT.mul_zero a v1.toArray k t n dd sl h1 h2 (by simp[hk0])) ⟨ho,?_⟩
   rw[show(ì k.toNat xs).flatten=[] by rw[hk0];rfl] at q
   exact q.new I .nil (Æ1 _)
  have hpos:0 < v1.length:=List.length_pos_iff.mpr hv;have hfl:foldl (λx y=>x++y) #[] (ì k.toNat v1.toArray)=(ì k.toNat v1).flatten.toArray:=by
   have:=foldl_rep v1 k.toNat [];rw[Ì7] at this;exact this
  have hsz:v1.length * k.toNat<=sizeLine:=by rw[← hl,Ó8];exact hz
  have hcast:((v1.toArray.size:Nat):Int) * k=((v1.length * k.toNat:Nat):Int):=by rw[Ó,Int.natCast_mul,Int.toNat_of_nonneg ∅]
  have hline:(Ú:Nat)<=(2 ^ 63 - 1) / 8:=by decide
  refine È2 Ý8 ⟨_,ho,rfl⟩ Ü6 (Ú9 _ _) (HT.K51 a v1.toArray k t n dd sl h1 h2 (by simp[hv];omega) (by rw[hcast];generalize v1.length * k.toNat=m at hsz;omega) (by rw[hcast];generalize v1.length * k.toNat=m at hsz;unfold tupleTooMany;intro z;have z':=of_decide_eq_true z;omega)
   (by rw[hfl,Ó,len_rep,Ó8];exact hsz)) ⟨ho,?_⟩
  rw[hfl];exact q.new I (r1.rep k.toNat) (by rw[len_rep];exact hz)
def T82(K:Â):V->Option Int->Option Int->Hp->VK->Prop:=λx lo hi H Q=>∃ a xs,x=.ref a/\SqT K H a xs/\K61 K H (I41 xs lo hi) Q
theorem a42:SlR X (T82 X.K):=by
 intro pins s σ H x v vl vu lo hi sl Q I rx hs pl pu h;obtain⟨a,xs,rfl,hx,q⟩:=h;cases rx;obtain⟨its,r,ht,hz⟩:=I.tuple hx;have hlen:its.toArray.size=xs.length:=by rw[Ó];exact r.length.symm
 refine⟨"tuple",_,ò.lookup,ht.typeIs,?_⟩;by_cases hw:HT.sIx xs.length 0 lo=0/\HT.sIx xs.length xs.length hi=xs.length
 ·refine HT.r60 ht hs pl pu (by rw[hlen];exact hw) ?_
  have e:I41 xs lo hi=xs:=by unfold I41;rw[hw.1,hw.2];simp
  rw[e] at q;exact q.here I hx
 ·refine HT.v90 ht hs pl pu (by rw[hlen];exact hw) ?_ (by rw[hlen];exact hz)
  rw[hlen];exact q.new I ((r.drop (HT.sIx xs.length 0 lo)).take (HT.sIx xs.length xs.length hi - HT.sIx xs.length 0 lo)) (Ñ (B30 xs lo hi) hz)
def z82(K:Â)(te ts:TE):TE:=λσ H Q=>te σ H λx H1=>ts σ H1 λy H2=>y=.int (-1)/\((∃ a xs,x=.ref a/\SqT K H2 a xs/\K61 K H2 xs.reverse Q)∨∃ a xs,x=.ref a/\SqL K H2 a xs/\∀ p,H2 p=none->Q (.ref p) (upd H2 p (.lst xs.reverse)))
theorem o72{e st:Ï}{te ts:TE}{p2 pos:Pos}(he:PE X e te)(hst:PE X st ts):PE X (.Subscript e (.Slice none none (some st) p2) pos) (z82 X.K te ts):=by
 intro pins s σ H Q I h;refine Subscript_ (thn (he pins s σ H _ I h) λv s1 ⟨x,H1,I1,r1,q1⟩=>?_);refine wpAny_Slice ?_;rw[evalPart_none];refine Å (Å ?_);rw[evalPart_some];refine thn (hst pins s1 σ H1 _ I1 q1) λw' s2 ⟨y,H2,I2,r2,q2⟩=>?_;obtain⟨rfl,q2⟩:=q2;obtain⟨t,rfl⟩:=r2;have I4:Inv X pins σ H2 { s2 with heap:=s2.heap.push { cls:=.type "slice",data:=.fields #[.none,.none,.int (-1) t] } }:=I2.kept (t':=s2.toks) λb ob q=>Ã _ q;show Î (Ô X.prog X.w) X.A (subscriptTail e (.Slice none none (some st) p2) v (.ref s2.heap.objs.size)) (EP X pins σ Q) X.xe { s2 with heap:=s2.heap.push { cls:=.type "slice",data:=.fields #[.none,.none,.int (-1) t] } };rcases q2 with ⟨a,xs,rfl,hq,q⟩ | ⟨a,xs,rfl,hq,q⟩
 ·cases r1;obtain⟨its,r,ht,hz⟩:=I4.tuple hq;exact tail_any (ops:=[.ref a,.ref s2.heap.objs.size]) ht.typeIs ò.lookup (HT.w10 ht (Ò7 ..) (q.new I4 r.reverse (by rw[Ì0];exact hz)) (by rw[← r.length];exact hz)) (by with_unfolding_all rfl)
 ·cases r1;obtain⟨its,r,ht,hz⟩:=I4.list hq;have hlen:=r.length;refine tail_any (ops:=[.ref a,.ref s2.heap.objs.size]) ht.isList.typeIs slot_list_getitem.lookup (wpAny_getItem_list_slice ht.isList (Ò7 ..) .none .none (.int (-1) t) (by simp) ?_ (by rw[Ó] <;> omega)) (by with_unfolding_all rfl)
  rw[PySem.W.krv_pick];refine⟨.ref _,_,I4.laid (t':=s2.toks) (o:=.lst xs.reverse) (λb ob q=>Ã _ q) (Í _) ?_,rfl,q _ (I4.hok.fresh (Í _))⟩;exact⟨by rw[Ì0];exact hz,its.reverse,0,r.reverse,Ê _ rfl⟩
theorem N82:OpR X (ü .Is) (λx y H Q=>∃ b c,x=.bl b/\y=.bl c/\Q (.bl (b == c)) H):=by
 intro pins s σ H x y v u Q I rx ry h;obtain⟨b,c,rfl,rfl,q⟩:=h;cases rx;cases ry;exact is_bool (e01 I q rfl)
theorem o82:OpR X (ü .IsNot) (λx y H Q=>∃ b c,x=.bl b/\y=.bl c/\Q (.bl (b != c)) H):=by
 intro pins s σ H x y v u Q I rx ry h;obtain⟨b,c,rfl,rfl,q⟩:=h;cases rx;cases ry;exact isnot_bool (e01 I q rfl)
theorem Inv.big(I:Inv X pins σ H s):sysModules < s.heap.objs.size:=by
 have h:ä < s.heap.objs.size:=(I.mod.glob.keeps I.bk).lt;exact Nat.lt_trans (-0) h
def E82:TE:=λ_ H Q=>∀ p,H p=none->Q (.ref p) (upd H p (.dK []))
theorem a52{pos:Pos}:PE X (.Dict [] [] pos) E82:=λpins s σ H Q I h =>
 wpAny_Dict_empty ⟨.ref s.heap.objs.size,_,I.laid (a:=s.heap.objs.size) (o:=.dK []) (t':=s.toks) (λ_ _ q=>Ã _ q) (Í _) ⟨Æ1 _,beq_eq_false_iff_ne.mpr (Â3 (Ø I.big)),[],.nil,é.DictOf.new _⟩,rfl,h _ (I.hok.fresh (Í _))⟩
end
end L2
namespace MySort
open PySem PySem.W PyProof.Rows
section
variable {P:Ý}{w:è}{A:ö}{E:Ä->Æ->Prop}{s:Æ}
theorem Z10(ho:s.heap.get? l=some o)(hc:o.cls=.type "list"∨o.cls=.type "tuple")(hd:o.data=.seq vs.toArray n)
  (h:Q vs { s with heap:=(s.heap.push (Ã1 "list" #[] 0)).update s.heap.objs.size (À0 (·++vs.toArray)) }) (hz:vs.length<=Ú):Î (Ô P w) A (collect (.ref l)) Q E s:=by
 unfold collect;refine À (Ø6 (Â2 entry_proto_collect' ?_));show Î _ _ (do again (.builtin "list.__iadd__" ⟨[← newList [],.ref l],[]⟩)) _ _ s;refine À (Û4 (Å ⟨Ø3 _ (by decide +kernel),Â2 entry_list_iadd' ?_⟩))
 show Î _ _ (Ä4 (.ref s.heap.objs.size) (.ref l) (.ref s.heap.objs.size)) _ _ { s with heap:=s.heap.push (Ã1 "list" #[] 0) };unfold Ä4;have ho':(s.heap.push (Ã1 "list" #[] 0)).get? l=some o:=Ã _ ho;have fin:Î (Ô P w) A (do
   let o ← load s.heap.objs.size
   match o.data with
   |.seq xs _=>pure xs.toList
   |_=>unsupported "internal:collect") Q E { s with heap:=(s.heap.push (Ã1 "list" #[] 0)).update s.heap.objs.size (À0 (·++vs.toArray)) }:=by
  refine À (wpAny_load (à6 (Ê _ rfl) _) ?_);show Î _ _ (pure ((#[]:Array Ä)++vs.toArray).toList) Q E _;rw[show((#[]:Array Ä)++vs.toArray).toList=vs by simp];exact Å h
 rcases hc with hc | hc
 ·refine À (Ç7 (T:="list") ⟨o,ho',hc⟩ ?_);rw[if_pos (by rw[show(Á6 "list" == Á6 "list")=true by rfl];simp)]
  refine À (Ð5 ho' hd (À (Ð5 (xs:=#[]) (n:=0) (Ê _ rfl) rfl ?_)));rw[if_neg (by simp)]
  exact À (Û5 (xs:=#[]) (n:=0) (Ê _ rfl) rfl (Å fin) (Æ1 _) (by show(#[]++vs.toArray).size<=Ú + 1;simp only[Array.size_append,Ó,Á0];omega))
 ·refine À (Ç7 (T:="tuple") ⟨o,ho',hc⟩ ?_);rw[if_pos (by rw[show(Á6 "tuple" == Á6 "tuple")=true by rfl];simp)]
  refine À (Ð5 ho' hd (À (Ð5 (xs:=#[]) (n:=0) (Ê _ rfl) rfl ?_)));rw[if_neg (by simp)]
  exact À (Û5 (xs:=#[]) (n:=0) (Ê _ rfl) rfl (Å fin) (Æ1 _) (by show(#[]++vs.toArray).size<=Ú + 1;simp only[Array.size_append,Ó,Á0];omega))
theorem t31(ho:s.heap.get? l=some o)(hc:o.cls=.type "list"∨o.cls=.type "tuple")(hd:o.data=.seq vs.toArray n)
  (hk:∀ h',t01 s.heap h'->j82 P w A.in1.in1 { s with heap:=h' } vs Pr kd)
  (h:∀ (p:List Nat) (h':é) (c:Nat),Pr p->(∀ b o,s.heap.get? b=some o->h'.get? b=some o)->h'.get? (s.heap.objs.size + 1)=some (Ã1 "list" (p.map λi=>vs.getD i â).toArray c)->Q (.ref (s.heap.objs.size + 1)) { s with heap:=h' }) :
  Î (Ô P w) A (call (.builtin "sorted") [.ref l]) Q E s:=by
 have h64:=(hk s.heap λ_ _ e _=>e).len;refine Þ6 kind_sorted plain_sorted entry_sorted (args_sorted1 _) ?_;unfold ÿ.«sorted»;refine À (m:=checkCount "sorted" 1 1 _) (Å ?_);refine À (Z10 ho hc hd ?_ (by rw[Á2];omega));refine À (Û4 ?_ (by rw[Á2];omega))
 have hsz:((s.heap.push (Ã1 "list" #[] 0)).update s.heap.objs.size (À0 (·++vs.toArray))).objs.size=s.heap.objs.size + 1:=by rw[é.size_update,size_push']
 have hoL:(((s.heap.push (Ã1 "list" #[] 0)).update s.heap.objs.size (À0 (·++vs.toArray))).push (Ã1 "list" vs.toArray 0)).get? (s.heap.objs.size + 1)=some (Ã1 "list" vs.toArray 0):=by rw[← hsz];exact Ê _ rfl
 have keep:∀ b o,s.heap.get? b=some o->(((s.heap.push (Ã1 "list" #[] 0)).update s.heap.objs.size (À0 (·++vs.toArray))).push (Ã1 "list" vs.toArray 0)).get? b=some o:=λb o q=>by
  have hlt:b < s.heap.objs.size:=à q;rw[é.get?_push_ne _ _ _ (by rw[hsz];exact Ø (Å1 hlt)),é.get?_update_ne _ _ _ _ (Ø hlt),é.get?_push_ne _ _ _ (Ø hlt)];exact q
 show Î _ _ _ _ _ { s with heap:=((s.heap.push (Ã1 "list" #[] 0)).update s.heap.objs.size (À0 (·++vs.toArray))).push (Ã1 "list" vs.toArray 0) };rw[hsz];refine À (À7 (À4 slot_list_sort ⟨_,hoL,rfl⟩ entry_list_sort (e61 hoL (λh' kp=>hk h' λb o e hc=>kp b o (keep b o e) hc) λp h' c hp kp hD=>⟨_,rfl,Å ⟨_,rfl,h p h' c hp (λb o e=>kp b o (Ø (Å1 (à e))) (keep b o e)) hD⟩⟩) (args_list_sort _)))
end
end MySort
namespace L2
open PySem PySem.Spec PyProof.Rows
open MySort (sortedBy)
section
variable {X:Cx}
def a62(X:Cx)(H:Hp)(xs:List V)(Pr:List Nat->Prop):Prop:=∀ (pins:List (Ç × Obj)) (σ:St) (s:Æ) (us:List Ä),Inv X pins σ H s->Vals xs us->∃ kd,∀ h',MySort.t01 s.heap h'->MySort.j82 X.prog X.w X.A.in1.in1 { s with heap:=h' } us Pr kd
theorem x70:g70 X (.builtin "sorted") (λargs H Q=>∃ a xs,∃ Pr:List Nat->Prop,args=[.ref a]/\(SqL X.K H a xs∨SqT X.K H a xs)/\a62 X H xs Pr/\(∀ p,Pr p->∀ i∈p,i < xs.length)/\∀ p l,Pr p->H l=none->Q (.ref l) (upd H l (.lst (p.map λi=>xs.getD i .non)))):=by
 intro pins s σ H args us Q I r h;obtain⟨a,xs,Pr,rfl,hq,hk,hpr,q⟩:=h;obtain⟨u,rfl,rx⟩:=vals1 r;cases rx;have go:∀ (its:List Ä) (o:Obj) (n:Nat),Vals xs its->s.heap.get? a=some o->(o.cls=.type "list"∨o.cls=.type "tuple")->o.data=.seq its.toArray n->Î (Ô X.prog X.w) X.A (call (.builtin "sorted") [.ref a]) (EP X pins σ Q) X.xe s:=λits o n rv ho hc hd=>by
  obtain⟨kd,kw⟩:=hk pins σ s its I rv;have k0:=kw s.heap λ_ _ e _=>e;refine MySort.t31 ho hc hd kw λp h' c hp kp hD=>?_;have hn:H (s.heap.objs.size + 1)=none:=I.hok.fresh (É4 _ 1);have hlen:(p.map λi=>xs.getD i .non).length<=sizeLine:=by rw[É,k0.all p hp,Á2];have:=k0.len;omega
  have rv':Vals (p.map λi=>xs.getD i .non) (p.map λi=>its.getD i â):=by
   have hall:=hpr p hp;clear hp hD hlen
   induction p with
   |nil=>exact .nil
   |cons i r ih =>
    refine .cons ?_ (ih λj hj=>hall j (È _ hj));have hi:=hall i Ì;obtain⟨u,hu,ru⟩:=rv.get (i:=i) (x:=xs[i]) (by simp[hi])
    have e1:xs.getD i V.non=xs[i]:=by simp[hi]
    have e2:its.getD i â=u:=by rw[Ö,hu];rfl
    show RelV (xs.getD i V.non) (its.getD i â);rw[e1,e2];exact ru
  exact⟨.ref (s.heap.objs.size + 1),_,I.laid (t':=s.toks) kp (É4 _ 1) (show h40 X.prog X.w _ h' _ (.lst _) from⟨hlen,_,c,rv',hD⟩),rfl,q p _ hp hn⟩
 rcases hq with hq | hq
 ·obtain⟨its,rv,pl,_⟩:=I.list hq;obtain⟨o,ho,hc,n,hd⟩:=pl.isList;exact go its o n rv ho (.inl hc) hd
 ·obtain⟨its,rv,⟨o,ho,hc,n,hd⟩,_⟩:=I.tuple hq;exact go its o n rv ho (.inr hc) hd
end
section
variable {K:Â}{g:TG}{tt:TT}{te:TE}{σ0:St}{H:Hp}{Q:VK}
theorem K71{lo:Int}{n:Nat}(Pv:Nat->List V->Hp->Prop)(hz:n<=Ú)(h0:Pv 0 [] H)(hl:∀ i ys H,Pv i ys H->ys.length<=i)
  (hs:∀ i ys H,i < n->Pv i ys H->g (.int (lo + i)) σ0 H λσ2 H2=>tt σ2 H2 λb H3=>if b=true then te σ2 H3 (λy H4=>Pv (i + 1) (ys++[y]) H4) else Pv (i + 1) ys H3)
  (hd:∀ ys H p,Pv n ys H->H p=none->Q (.ref p) (upd H p (.lst ys))):s01 (Itr lo n) σ0 H g tt te Q:=by
 refine⟨λi m ys H=>m=n - i/\i<=n/\Pv i ys H,⟨n,by simp,Æ1 _,h0⟩,?_⟩
 rintro i m ys H ⟨rfl,hi,p⟩;have hy:=hl i ys H p;by_cases hlt:i < n
 ·refine .inr ⟨hlt,by omega,Pv (i + 1),λzs H' p'=>⟨n - (i + 1),by omega,rfl,hlt,p'⟩,λx H' y=>?_⟩
  obtain⟨e,y⟩:=y;subst e y;exact hs i ys _ hlt p
 ·have e:i=n:=by omega
  subst e;exact .inl ⟨Í _,λz hz=>hd ys H z p hz⟩
end
inductive D where
 |non | bl (b:Bool) | int (i:Int) | str (x:Str) | tup (ds:List D) | lst (ds:List D) | dct
def D.ty:D->String
 |.non=>"NoneType"|.bl _=>"bool"|.int _=>"int"|.str _=>"str"|.tup _=>"tuple"|.lst _=>"list"|.dct=>"dict"
mutual
def Has(K:Â)(H:Hp):D->V->Prop
 |.non,v=>v=.non|.bl b,v=>v=.bl b|.int i,v=>v=.int i|.str x,v=>v=.str x|.tup ds,v=>∃ a xs,v=.ref a/\SqT K H a xs/\G50 K H ds xs|.lst ds,v=>∃ a xs,v=.ref a/\SqL K H a xs/\G50 K H ds xs|.dct,v=>∃ a kvs,v=.ref a/\H a=some (.dK kvs)
def G50(K:Â)(H:Hp):List D->List V->Prop
 |[],xs=>xs=[]|d::ds,xs=>∃ x r,xs=x::r/\Has K H d x/\G50 K H ds r
end
def isB(T C:String):Bool:=T == C || (T == "bool"&&C == "int")
theorem a72(K:Â)(d:D):∀ C∈["int","bool","tuple","list","str"],Í7 K (.type d.ty) (.type C)=some (isB d.ty C):=by
 intro C hC;simp only[Â9,À1,or_false] at hC;rcases hC with rfl | rfl | rfl | rfl | rfl <;> cases d <;> first | rfl | kernel_rfl | decide +kernel
section
variable {X:Cx}
theorem K81:g70 X (.builtin "isinstance") (λxs H Q=>∃ d x C,xs=[x,.ty C]/\Has X.K H d x/\C∈["int","bool","tuple","list","str"]/\Q (.bl (isB d.ty C)) H):=by
 intro pins s σ H xs us Q I r h;obtain⟨d,x,C,rfl,hd,hC,q⟩:=h;obtain⟨u,w',rfl,rx,rt⟩:=vals2 r;cases (show w'=Á6 C from rt);have e:=a72 X.K d C hC;have fin:∀ tk,EP X pins σ Q (.bool (isB d.ty C)) { s with toks:=tk }:=λtk=>⟨.bl _,H,I.tok tk,rfl,q⟩;cases d with
 |non=>unfold Has at hd;subst hd;cases rx;exact Ç1 kitx_none I.kIn Ê5 e (λz=>nomatch z) fin
 |bl b=>unfold Has at hd;subst hd;cases rx;exact Ç1 kitx_bool I.kIn Ê5 e (λz=>nomatch z) fin
 |int i=>unfold Has at hd;subst hd;obtain⟨t,rfl⟩:=rx;exact Ç1 kitx_int I.kIn Ê5 e (λz=>nomatch z) fin
 |str y=>unfold Has at hd;subst hd;obtain⟨t,rfl⟩:=rx;exact Ç1 kitx_str I.kIn Ê5 e (λz=>nomatch z) fin
 |tup ds =>
  unfold Has at hd;obtain⟨a,ys,rfl,hq,_⟩:=hd;cases rx;obtain⟨its,_,⟨o,h1,h2,_⟩,_⟩:=I.tuple hq;exact Ç1 kitx_tuple I.kIn ⟨o,h1,h2⟩ e (λz=>nomatch z) fin
 |lst ds =>
  unfold Has at hd;obtain⟨a,ys,rfl,hq,_⟩:=hd;cases rx;obtain⟨its,_,pl,_⟩:=I.list hq;obtain⟨o,h1,h2,_⟩:=pl.isList;exact Ç1 kitx_list I.kIn ⟨o,h1,h2⟩ e (λz=>nomatch z) fin
 |dct =>
  unfold Has at hd;obtain⟨a,kvs,rfl,hq⟩:=hd;cases rx;obtain⟨_,_,vs,_,p⟩:=(show h40 X.prog X.w H s.heap a (.dK kvs) from I.hok a _ hq);obtain⟨o,es,ep,h1,h2,_⟩:=p;exact Ç1 kitx_dict I.kIn ⟨o,h1,h2.1⟩ e (λz=>nomatch z) fin
end
def hide(st:Ç)(H:Hp):Hp:=λb=>if b=st then none else H b
theorem f00(st:Ç)(H:Hp):a30 (hide st H) H:=λb o e=>by
 unfold hide at e;split at e
 ·cases e
 ·exact e
theorem B90{st:Ç}{H H':Hp}(e:∀ b o,b≠st->H b=some o->H' b=some o):a30 (hide st H) (hide st H'):=λb o h=>by
 unfold hide at h ⊢;by_cases q:b=st
 ·rw[if_pos q] at h;cases h
 ·rw[if_neg q] at h ⊢;exact e b o q h
theorem K60{st b:Ç}{H:Hp}{o:HO}(h:H b=some o)(n:b≠st):hide st H b=some o:=by
 unfold hide;rw[if_neg n];exact h
end L2
namespace L2
open PySem PySem.Spec PyProof.Rows
def t41(sc scX:ý)(N own:List Str)(capt:List (Str × Nat)):Bool :=
 sc.kind == .function&&sc.names.all (λy=>y.2 != .cell)&&sc.names.all (λy=>y.2 != .local || sc.names.lookup y.1 == some .local) &&
  sc.names.all (λy=>y.2 != .free || (scX.names.lookup y.1 == some .cell || scX.names.lookup y.1 == some .free))&&capt.all λp=>N[p.2]? == some p.1&&sc.names.lookup p.1 == some .free
theorem q70.of{X:Cx}{sc scX:ý}{N own:List Str}{capt:List (Str × Nat)}(e:X.env.scope=scX)(eN:X.N=N)(h:t41 sc scX N own capt=true):q70 X sc own capt:=by
 unfold t41 at h;simp only[Á] at h;obtain⟨⟨⟨⟨h1,h2⟩,h3⟩,h4⟩,h5⟩:=h;rw[Æ9] at h2 h3 h4 h5;refine⟨by simpa using h1,λy hy=>by simpa using h2 y hy,λy hy hl=>?_,λy hy hf=>?_,λp hp=>?_⟩
 ·have:=h3 y hy;rw[hl] at this;simpa using this
 ·have:=h4 y hy;rw[hf] at this;show X.env.scope.names.lookup y.1=_∨X.env.scope.names.lookup y.1=_;rw[e];simpa using this
 ·have:=h5 p hp;rw[eN];simpa using this
theorem gN{i:Nat}{v:V}{σ:St}{H:Hp}{R:St->Hp->Prop}(h:R (σ.set i (some v)) H):Y00 i v σ H R:=h
theorem K91{σ:St}{H:Hp}{R:Bool->Hp->Prop}(h:R true H):I71 σ H R:=h
theorem C00{n:Nat}(h:n<=64):n<=sizeLine:=Ñ h (-0)
section
variable {X:Cx}
theorem o92(K:Â)(d:D):kitAny K (.type d.ty) [.type "tuple",.type "list"]=some (isB d.ty "tuple" || isB d.ty "list"):=by
 have e1:=a72 K d "tuple" (by simp)
 have e2:=a72 K d "list" (by simp)
 unfold kitAny;rw[e1];cases isB d.ty "tuple" with
 |true=>rfl
 |false =>
  show kitAny K (.type d.ty) [.type "list"]=_;unfold kitAny;rw[e2];cases isB d.ty "list" <;> rfl
theorem t51:g70 X (.builtin "isinstance") (λxs H Q=>∃ d x a,xs=[x,.ref a]/\Has X.K H d x/\SqT X.K H a [.ty "tuple",.ty "list"]/\Q (.bl (isB d.ty "tuple" || isB d.ty "list")) H):=by
 intro pins s σ H xs us Q I r h;obtain⟨d,x,a,rfl,hd,hq,q⟩:=h;obtain⟨u,w',rfl,rx,rt⟩:=vals2 r;cases (show w'=Ã3 a from rt);obtain⟨its,rv,⟨⟨cls,dd,data,sl⟩,ho,hc,n,hdt⟩,_⟩:=I.tuple hq;simp only at hc hdt;subst hc hdt;have eits:its=[.type "tuple",.type "list"]:=by
  cases rv with
  |cons p r=>cases r with
   |cons p2 r2=>cases r2;rw[show _=Á6 "tuple" from p,show _=Á6 "list" from p2]
 subst eits;have e:=o92 X.K d;have fin:∀ tk,EP X pins σ Q (.bool (isB d.ty "tuple" || isB d.ty "list")) { s with toks:=tk }:=λtk=>⟨.bl _,H,I.tok tk,rfl,q⟩;cases d with
 |non=>unfold Has at hd;subst hd;cases rx;exact Ö5 kitx_none I.kIn Ê5 ho e (λz=>nomatch z) fin
 |bl b=>unfold Has at hd;subst hd;cases rx;exact Ö5 kitx_bool I.kIn Ê5 ho e (λz=>nomatch z) fin
 |int i=>unfold Has at hd;subst hd;obtain⟨t,rfl⟩:=rx;exact Ö5 kitx_int I.kIn Ê5 ho e (λz=>nomatch z) fin
 |str y=>unfold Has at hd;subst hd;obtain⟨t,rfl⟩:=rx;exact Ö5 kitx_str I.kIn Ê5 ho e (λz=>nomatch z) fin
 |tup ds =>
  unfold Has at hd;obtain⟨b,ys,rfl,hq',_⟩:=hd;cases rx;obtain⟨_,_,⟨o,h1,h2,_⟩,_⟩:=I.tuple hq';exact Ö5 kitx_tuple I.kIn ⟨o,h1,h2⟩ ho e (λz=>nomatch z) fin
 |lst ds =>
  unfold Has at hd;obtain⟨b,ys,rfl,hq',_⟩:=hd;cases rx;obtain⟨_,_,pl,_⟩:=I.list hq';obtain⟨o,h1,h2,_⟩:=pl.isList;exact Ö5 kitx_list I.kIn ⟨o,h1,h2⟩ ho e (λz=>nomatch z) fin
 |dct =>
  unfold Has at hd;obtain⟨b,kvs,rfl,hq'⟩:=hd;cases rx;obtain⟨_,_,vs,_,p⟩:=(show h40 X.prog X.w H s.heap b (.dK kvs) from I.hok b _ hq');obtain⟨o,es,ep,h1,h2,_⟩:=p;exact Ö5 kitx_dict I.kIn ⟨o,h1,h2.1⟩ ho e (λz=>nomatch z) fin
end
open PySem PySem.Spec PyProof.Rows PySem.SeqAt
theorem K70(l b:Ç)(es:Array DictEntry)(n:Nat)(it:Array Ä)(n2:Nat)(dd dd2:Option Ç)(sl sl2:Array (Option Ä)) :
  Meets (ÿ.«dict.__ne__» ⟨[.ref l,.ref b],[]⟩) (λ_ R s=>s.heap.get? l=some { cls:=.type "dict",dict:=dd,data:=.dict es n,slots:=sl }/\s.heap.get? b=some { cls:=.type "tuple",dict:=dd2,data:=.seq it n2,slots:=sl2 }/\R (.ok (.ret .notImplemented)) s) :=
 .of_wp λprog w A R s h=>by
  obtain⟨hp,g,d,tk,os⟩:=s;obtain⟨hl,hb,h⟩:=h;have f1:=F.sub_tuple_dict
  wp_walk using Ä7 hl,Ä7 hb
  exact⟨_,rfl,h⟩
theorem K80(l b:Ç)(es:Array DictEntry)(n:Nat)(it:Array Ä)(n2:Nat)(dd dd2:Option Ç)(sl sl2:Array (Option Ä)) :
  Meets (ÿ.«tuple.__ne__» ⟨[.ref b,.ref l],[]⟩) (λ_ R s=>s.heap.get? l=some { cls:=.type "dict",dict:=dd,data:=.dict es n,slots:=sl }/\s.heap.get? b=some { cls:=.type "tuple",dict:=dd2,data:=.seq it n2,slots:=sl2 }/\R (.ok (.ret .notImplemented)) s) :=
 .of_wp λprog w A R s h=>by
  obtain⟨hp,g,d,tk,os⟩:=s;obtain⟨hl,hb,h⟩:=h;have f1:=F.sub_dict_tuple
  wp_walk using Ä7 hl,Ä7 hb
  exact⟨_,rfl,h⟩
section
variable {X:Cx}
theorem a82(hu:X.A.units + 64 < Å9):OpR X (ü .NotEq) (λx y H Q=>∃ a b kvs xs,x=.ref a/\y=.ref b/\H a=some (.dK kvs)/\SqT X.K H b xs/\Q (.bl true) H):=by
 intro pins s σ H x y v u Q I rx ry h;obtain⟨a,b,kvs,xs,rfl,rfl,ha,hb,q⟩:=h;cases rx;cases ry;obtain⟨v2,r2,⟨o2,h2,c2,n2,d2⟩,_⟩:=I.tuple hb;obtain⟨_,_,vs,_,p⟩:=(show h40 X.prog X.w H s.heap a (.dK kvs) from I.hok a _ ha);obtain⟨o1,es,n1,h1,c1,d1,_⟩:=p;have c1:=c1.1;obtain⟨cls,dd,data,sl⟩:=o1;obtain⟨cls2,dd2,data2,sl2⟩:=o2;simp only at c1 d1 c2 d2;subst c1 d1 c2 d2;have hne:a≠b:=λe=>by
  subst e;rw[h1] at h2;simp at h2
 have hu':X.A.units < cLine:=by omega
 refine rc_ne_decline_or (k:=false) ⟨_,h1,rfl⟩ ⟨_,h2,rfl⟩ (-0) F.sub_tuple_dict F.slot_dict_ne F.slot_tuple_ne_refl
  (λ_ hq=>È2 F.slot_dict_ne ⟨_,h1,rfl⟩ F.entry_dict_ne (F.args_dict_ne_2 _ _) (K70 a b es n1 v2.toArray n2 dd dd2 sl sl2) ⟨h1,h2,hq⟩)
  (λ_ hq=>È2 F.slot_tuple_ne_refl ⟨_,h2,rfl⟩ F.entry_tuple_ne (F.args_tuple_ne_2 _ _) (K80 a b es n1 v2.toArray n2 dd dd2 sl sl2) ⟨h1,h2,hq⟩)
  (λ_ hq=>wpAny_isSame_ref_other hne h1 h2 (by simp) hq) (.inr hu') ⟨.bl true,H,I,rfl,q⟩
end
end L2
namespace L2
open PySem PySem.Spec PyProof.Rows
section
variable {P:Ý}{w:è}{A:ö}{E:Ä->Æ->Prop}{s:Æ}
abbrev eT1(h:é)(l:Ç):Heap:=h.push { cls:=.type "tuple_iterator",data:=.fields #[.ref l,.int 0 0] }
abbrev eT2(h:é)(l:Ç):Heap:=(eT1 h l).push { cls:=.type "enumerate",data:=.fields #[.none,.bool false,.ref h.objs.size,Ã6 0,.none,.none] }
theorem Z20(l:Ç)(xs:Array Ä) :
  Meets (ÿ.«enumerate.__new__» ⟨[.type "enumerate",.ref l],[]⟩) (λ_ R s=>s.heap.IsTuple l xs/\R (.ok (.ret (.ref (eT1 s.heap l).objs.size))) { s with heap:=eT2 s.heap l }) :=
 .of_wp λP w A R s h=>by
  obtain⟨hp,g,d,tk,os⟩:=s;obtain⟨hl,h⟩:=h;have hsub:=sub_enumerate;have hL1:Ó3 (Æ.heap ⟨hp,g,d,tk,os⟩) l xs:=hl
  wp_walk;refine wpAny_stack_any λq=>Å ?_;split
  ·rename_i c _ _ _ _ _;cases (c == Á6 "enumerate") <;> (wp_walk using Ç8 hL1) <;> exact⟨_,rfl,h⟩
  ·wp_walk using Ç8 hL1
   exact⟨_,rfl,h⟩
theorem l81(hl:s.heap.IsTuple l xs)
  (h:∀ h',IsEnum h' (s.heap.objs.size + 1) s.heap.objs.size 0 .none->h'.IsTupleIter s.heap.objs.size l 0->(∀ c o,s.heap.get? c=some o->h'.get? c=some o)->Q (.ref (s.heap.objs.size + 1)) { s with heap:=h' }) :
  Î (Ô P w) A (call (.type "enumerate") [.ref l]) Q E s:=by
 refine callType_new F.called_enumerate (-0) (F.typeCall_enumerate_1 _) (F.newCall_enumerate_1 _) (λobj=>F.args_object_init_2 obj _) F.entry_enumerate_new (Z20 l xs) ⟨hl,?_⟩
 have n1:(eT1 s.heap l).objs.size=s.heap.objs.size + 1:=Ë2 ..;have g2:(eT2 s.heap l).get? (eT1 s.heap l).objs.size=some _:=Ê _ rfl;have g1:(eT2 s.heap l).get? s.heap.objs.size=some _:=Ã _ (Ê _ rfl);show _/\_;rw[n1] at g2;rw[n1];exact⟨⟨_,g2,rfl⟩,h _ g2 ⟨_,g1,rfl,rfl⟩ λc o q=>Ã _ (Ã _ q)⟩
theorem t61(hh:A.handled=none){it l:Ç}{xs:Array Ä}(n:l≠it):Draws P w A it [it,l] xs.size (λi x=>xs[i]?=some x) (λi h=>h.IsTupleIter it l i/\h.IsTuple l xs) where
 live:=λi h q=>by obtain⟨⟨o,e,_⟩,_⟩:=q;exact⟨o,e⟩
 frame:=λi h h' q k=>by
  obtain⟨⟨o,e,r⟩,⟨o',e',r'⟩⟩:=q;exact⟨⟨o,k it (by simp) _ e,r⟩,⟨o',k l (by simp) _ e',r'⟩⟩
 item:=λi s Q E hi q k=>p20 q.1 q.2 (x:=xs[i]) (by simp[hi]) λh' h1 h2=>k _ h' s.toks (by simp[hi]) ⟨h1,q.2.extBut h2.extBut n⟩ h2
 done:=λs Q E q k=>l60 hh q.1 q.2 (by simp) λh' e h1 h2=>k h' e h1 h2
end
theorem T21{P:Ý}{w:è}{A:ö}(b:Bool)(hh:A.handled=none){it l:Ç}{xs:Array Ä}(n:l≠it):Draws P w A it [it,l] xs.size (λi x=>xs[i]?=some x) (λi h=>R40 b h it l i/\I91 b h l xs):=match b with
 |true=>Draws.list hh it l n xs|false=>t61 hh n
def Ite(b:Bool)(K:Â)(a:Ç):It :=
 ⟨λi H=>∃ xs x,SqB b K H a xs/\xs[i]?=some x,
  λi H v H'=>∃ T,v=.ref T/\H T=none/\∀ xs x,SqB b K H a xs->xs[i]?=some x->H'=upd H T (.tup [.int i,x]),
  λi H=>∃ xs,SqB b K H a xs/\xs.length=i⟩
theorem t71{P:Ý}{w:è}{K:Â}{es:List Ï}{ek:Nat}{ep:Pos}{a e it:Ç}{b:Bool}(h1:e≠it)(h2:a≠e)(h3:a≠it) :
  Turn P w K (.Tuple es ek ep) (Ite b K a) [e,it] e (λi h=>(∃ old,IsEnum h e it i old)/\R40 b h it a i) where
 mem:=by simp
 obj:=λi h st c hc=>by
  obtain⟨⟨old,he⟩,st⟩:=st;obtain⟨o1,g1,d1,_⟩:=st.obj;simp only[Â9,À1,or_false] at hc;rcases hc with rfl | rfl
  ·exact⟨_,he,λv e=>by cases e⟩
  ·exact⟨_,g1,d1⟩
 keep:=λi h h' st k=>by
  obtain⟨⟨old,he⟩,st⟩:=st;obtain⟨o1,g1,_,r1⟩:=st.obj;exact⟨⟨old,k e (by simp) _ he⟩,r1 h' (k it (by simp) _ g1)⟩
 item:=by
  intro X hP hw hK hc i pins s σ H E I hf st hg;subst hP hw hK;obtain⟨xs,x,hq,hx⟩:=hg;obtain⟨v1,rv,p1,_,z1⟩:=I.J01 hq;obtain⟨u,hu,ru⟩:=rv.get hx;obtain⟨⟨old,he⟩,hi⟩:=st;have hl:i < v1.toArray.size:=by simpa using (ß.mp hu).1
  refine wpAny_pyNext_enum_itemD (T21 (A:=X.A.in1) b (by exact I.ok.hd hc) h3) he ⟨hi,p1⟩ hl h1 (by simp[h1,h2.symm]) λy g1 tk hy ge gs gT sz kp=>⟨_,rfl,?_⟩
  have hy':v1[i]?=some y:=by simpa using hy
  rw[hu] at hy';cases hy';refine wpAny_letOwnedTupleGo_enum (s:={ s with heap:=g1,toks:=tk + 1 }) ge λg2 ge2 sb=>?_;have hT:H s.heap.objs.size=none:=I.hok.fresh (Í _);have kall:∀ c o,c ∉ [e,it]->s.heap.get? c=some o->g2.get? c=some o:=λc o hc q=>by
   simp only[Â9,À1,or_false,not_or] at hc;exact sb.extBut _ _ hc.1 (kp c o hc.1 hc.2 q)
  have I2:Inv X pins σ H { s with heap:=g2,toks:=tk + 1 }:=I.J80 (t':=tk + 1) hf kall;have fT:Y10 X pins H s.heap.objs.size:=I.p21 (Í _) hT;have gT2:g2.get? s.heap.objs.size=some { cls:=.type "tuple",data:=.seq #[.int i tk,u] }:=sb.extBut _ _ (λq=>Á4 _ (by have:=à he;rw[← q] at this;exact this)) gT
  have I3:Inv X pins σ (upd H s.heap.objs.size (.tup [.int i,x])) { s with heap:=g2,toks:=tk + 1 }:=I2.I61 fT I.sz (I2.hok.S81 hT (its:=[.int i tk,u]) (.cons ⟨_,rfl⟩ (.cons ru .nil)) (by show 2<=Ú;rw[Á2];decide) ⟨_,gT2,rfl,_,rfl⟩)
  refine⟨.ref s.heap.objs.size,_,I3,rfl,⟨_,rfl,hT,λxs' x' e1 e2=>?_⟩,⟨⟨_,ge2⟩,by obtain⟨o,q1,_,q2⟩:=gs.1.obj;exact q2 _ (sb.extBut _ _ h1.symm q1)⟩,λc hc=>?_⟩
  ·rw[z1 _ e1] at e2;rw[hx] at e2;cases e2;rfl
  ·rw[a60]
   ·exact(hf c hc).1
   ·intro q;simp only[Â9,À1,or_false] at hc;rcases hc with hc | hc
    ·exact Á4 _ (by have:=à he;rw[← hc,q] at this;exact this)
    ·obtain⟨o,ho,_⟩:=R40.obj hi;exact Á4 _ (by have:=à ho;rw[← hc,q] at this;exact this)
 done:=by
  intro X hP hw hK hc i pins s σ H E I hf st hg;subst hP hw hK;obtain⟨xs,hq,rfl⟩:=hg;obtain⟨v1,rv,p1,_,z1⟩:=I.J01 hq;obtain⟨⟨old,he⟩,hi⟩:=st;refine wpAny_pyNext_enum_endD (T21 (A:=X.A.in1) (xs:=v1.toArray) b (by exact I.ok.hd hc) h3) he ⟨by rw[show v1.toArray.size=xs.length by simpa using rv.length.symm];exact hi,p1⟩ λg kp=>⟨rfl,I.J80 (t':=s.toks) hf λc o hcn q=>?_⟩
  simp only[Â9,À1,or_false,not_or] at hcn;exact kp c o hcn.2 q
 self:=λ_ _ _ _ _ st h=>by obtain⟨⟨_,he⟩,_⟩:=st;exact wpAny_pyIter_enum he h
def E92(K:Â)(ta:TA):TI:=λσ H R=>ta σ H λvs H1=>∃ b a,vs=[.ref a]/\(∃ xs,SqB b K H1 a xs)/\R (Ite b K a) H1
theorem l91(hl:I91 b s.heap l xs)
  (h:∀ h',IsEnum h' (s.heap.objs.size + 1) s.heap.objs.size 0 .none->R40 b h' s.heap.objs.size l 0->(∀ c o,s.heap.get? c=some o->h'.get? c=some o)->Q (.ref (s.heap.objs.size + 1)) { s with heap:=h' }) :
  Î (Ô P w) A (call (.type "enumerate") [.ref l]) Q E s:=match b,hl,h with
 |true,hl,h=>call_enumerate_list hl λh' a b _ c=>h h' a b c|false,hl,h=>l81 hl h
theorem t81:ï "enumerate"=some (.type "enumerate"):=by decide +kernel
theorem a92{X:Cx}{a:Ï}{es:List Ï}{ek:Nat}{ep:Pos}{ta:TA}{p pos:Pos}(hg:Gl X "enumerate")(hm:X.mg "enumerate"=none)(ha:PA X [a] ta)(hs:þ [a] X.env=[(false,eval a X.env)]:=by rfl) :
  PI X (.Tuple es ek ep) (.Call (.Name "enumerate" p) [a] [] pos) (E92 X.K ta):=by
 intro pins s σ H R I h;refine Call_ (t30 I hg hm t81 (Á1 (thn (ha pos pins s σ H _ I h) λus s1 ⟨vs,H1,I1,r1,q1⟩=>?_) (by rw[hs];rfl) (by rfl)))
 obtain⟨b,l1,e,⟨xs,hq1⟩,q⟩:=q1;subst e;obtain⟨u,rfl,r⟩:=vals1 r1;cases r;obtain⟨v1,rv1,p1,a1,_⟩:=I1.J01 hq1;refine l91 p1 λh' he h1 kp=>wpAny_pyIter_enum (s:={ s1 with heap:=h' }) he ?_;refine⟨_,[s1.heap.objs.size + 1,s1.heap.objs.size],_,_,H1,rfl,I1.kept (t':=s1.toks) kp,t71 (Nat.succ_ne_self _) (Ø (Å1 a1)) (Ø a1),⟨⟨_,he⟩,h1⟩,λc hc=>?_,q⟩;have hc':s1.heap.objs.size<=c:=by
  simp only[Â9,À1,or_false] at hc;rcases hc with rfl | rfl
  ·exact É4 _ 1
  ·exact Í _
 exact I1.p21 hc' (I1.hok.fresh hc')
end L2
namespace HT
open PySem PySem.W PyProof.Rows
set_option maxRecDepth 100000
section
variable {P:Ý}{w:è}{A:ö}{E:Ä->Æ->Prop}{s:Æ}
theorem K90{a b c:Int}{n:Nat}(hh:A.handled=none)(hr:Ö0 s.heap r a b c t u v)(hs:Ò2 a b c=true)(hn:Ã7 a b c=n)(hl:n<=2 ^ 24)
  (hQ:∀ (h':é) (tk:Nat) (acc:Array Ä),(∀ b o,s.heap.get? b=some o->h'.get? b=some o)->s.heap.objs.size<=h'.objs.size->ItemsOf (λi v=>∃ t,v=.int (a + i * c) t) acc n->Q acc.toList { s with heap:=h',toks:=tk }):Î (Ô P w) A (collect (.ref r)) Q E s:=by
 unfold collect;refine À (Ø6 (Â2 PySem.F.entry_proto_collect ?_));rw[Â6 PySem.F.plain_proto_collect _];show Î _ A.in1 (newList [] >>= λl=>again (.builtin "list.__iadd__" ⟨[l,.ref r],[]⟩)) _ _ s;refine À (æ (Å ⟨Î1 Þ1 _,Â2 PySem.F.entry_list_iadd ?_⟩));rw[Â6 Þ1 _];show Î _ A.in1 (Ä4 (.ref s.heap.objs.size) (.ref r) (.ref s.heap.objs.size)) _ _ { s with heap:=s.heap.push (Ã1 "list" #[] 0) };have hS:(s.heap.push (Ã1 "list" #[] 0)).get? s.heap.objs.size=some { cls:=.type "list",data:=.seq #[] 0 }:=Ê _ rfl;refine Â1 (wpAny_extend_range (A:=A) (s:={ s with heap:=s.heap.push (Ã1 "list" #[] 0) }) (R:=λx s'=>x=.ok (.ret (.ref s.heap.objs.size))/\∃ h' tk acc c',s'={ s with heap:=h',toks:=tk }/\(∀ b o,s.heap.get? b=some o->h'.get? b=some o)/\h'.get? s.heap.objs.size=some { cls:=.type "list",dict:=none,data:=.seq acc c',slots:=#[] }/\ItemsOf (λi v=>∃ t,v=.int (a + i * c) t) acc n) hh (Ã _ hr) hs hn hl _ (.ref s.heap.objs.size) 0 hS λh' tk acc c' hk hS' hi=>⟨rfl,h',tk,acc,c',rfl,λb o e=>hk b o (Ø (à e)) (Ã _ e),hS',hi⟩) (λfin s' h=>?_) λe s' h=>?_
 ·have go:∀ s',(∃ h' tk acc c',s'={ s with heap:=h',toks:=tk }/\(∀ b o,s.heap.get? b=some o->h'.get? b=some o)/\h'.get? s.heap.objs.size=some { cls:=.type "list",dict:=none,data:=.seq acc c',slots:=#[] }/\ItemsOf (λi v=>∃ t,v=.int (a + i * c) t) acc n)->Î (Ô P w) A (match Ã3 s.heap.objs.size with
   |Ã3 a=>do
    match (← load a).data with
     |Data.seq xs _=>pure xs.toList|_=>unsupported "internal:collect"
   |_=>unsupported "internal:collect") Q E s':=λs' ⟨h',tk,acc,c',e,hk,hS',hi⟩=>by
   subst e;show Î _ A (load s.heap.objs.size >>= _) _ _ _;exact À (wpAny_load hS' (Å (hQ h' tk acc hk (É2 (à hS')) hi)))
  cases fin with
  |done f =>
   obtain⟨e,h⟩:=h;cases e;exact go _ h
  |again c'=>exact⟨h.1,È1 h.2 λx s'' hx=>by obtain⟨rfl,hx⟩:=hx;exact go _ hx⟩
 ·exact absurd h.1 (by simp)
open AutoSeq1 (wpAny_loadPart')
theorem C10{a b c:Int}{n:Nat}(hh:A.handled=none)(hr:Ö0 s.heap r a b c t u v)(hs:Ò2 a b c=true)(hn:Ã7 a b c=n)(hl:n<=200000)
  (hQ:∀ (h':é) (tk:Nat) (acc:Array Ä),(∀ b o,s.heap.get? b=some o->h'.get? b=some o)->s.heap.objs.size<=h'.objs.size->ItemsOf (λi v=>∃ t,v=.int (a + i * c) t) acc n->Q (.ref h'.objs.size) { s with heap:=h'.push { cls:=.type "tuple",data:=.seq acc },toks:=tk }) :
  Î2 (Ô P w) A (.call (.builtin "tuple.__new__") ⟨[.type "tuple",.ref r],[]⟩) (wants Q E) s:=by
 refine à7 ?_;show Î _ A.in1 (do Õ0 "tuple.__new__" ⟨[.type "tuple",.ref r],[]⟩;again (.builtin "tuple.__new__" ⟨[.type "tuple",.ref r],[]⟩)) _ _ s;refine À (ß9 (PySem.F.newCall_tuple_1 _) (Å ⟨Î1 Þ0 _,Â2 PySem.F.entry_tuple_new ?_⟩));rw[Â6 Þ0 _];have k1:=sub_tuple_self;have k2:=init_tuple_lookup;have k3:=madeHere_tuple;have k4:s.TypeIs (.ref r) "range":=⟨_,hr,rfl⟩
 wp_walk using Ç7 k4,K90 (n:=n) (show A.in1.handled=none from hh) hr hs hn ∅
 intro h' tk acc hk hz hi;show Î _ _ (Ç0 acc.toList.toArray >>= λv=>ret v) _ _ _;unfold Ç0;rw[Ð1];refine À (æ (Å (hQ h' tk acc hk hz hi)) (by show acc.size<=_;rw[hi.1,Á2];omega))
theorem tuple_range{a b c:Int}{n:Nat}(hh:A.handled=none)(hr:Ö0 s.heap r a b c t u v)(hs:Ò2 a b c=true)(hn:Ã7 a b c=n)(hl:n<=200000)
  (hQ:∀ (h':é) (tk:Nat) (acc:Array Ä),(∀ b o,s.heap.get? b=some o->h'.get? b=some o)->s.heap.objs.size<=h'.objs.size->ItemsOf (λi v=>∃ t,v=.int (a + i * c) t) acc n->Q (.ref h'.objs.size) { s with heap:=h'.push { cls:=.type "tuple",data:=.seq acc },toks:=tk }):Î (Ô P w) A (call (.type "tuple") [.ref r]) Q E s:=by
 refine callType_codes (Q₁:=λobj s₁=>s₁.TypeIs obj "tuple"/\Q obj s₁) Ó7 (PySem.F.typeCall_tuple_1 _) PySem.F.entry_object_init (C10 hh hr hs hn hl λh' tk acc hk hz hi=>⟨⟨_,Ê _ rfl,rfl⟩,hQ h' tk acc hk hz hi⟩) λobj s₁ h₁=>?_;exact⟨h₁.1,PySem.F.args_object_init_2 obj _,object_init_meets Ó7.init.lookup Ó7.made (-0) P w A.in1 _ s₁ ⟨h₁.1,rfl,h₁.2⟩⟩
end
end HT
namespace L2
open PySem PySem.Spec PyProof.Rows
theorem h40.there(x:h40 P w H h a o):∃ u,h.get? a=some u:=by
 cases o with
 |lst xs=>obtain⟨_,_,_,_,e⟩:=x;exact⟨_,e⟩
 |tup xs=>obtain⟨_,_,_,o,e,_⟩:=x;exact⟨_,e⟩
 |dK kvs=>obtain⟨_,_,_,_,o,_,_,e,_⟩:=x;exact⟨_,e⟩
 |dT kvs=>obtain⟨_,_,_,_,o,_,_,e,_⟩:=x;exact⟨_,e⟩
 |set S n=>obtain⟨o,_,_,_,e,_⟩:=x;exact⟨_,e⟩
 |ins C dx fs=>obtain⟨_,_,_,e,_⟩:=x;exact⟨_,e⟩
 |own y=>obtain⟨_,e⟩:=x;exact⟨_,e⟩
 |xd fs=>obtain⟨_,⟨_,_,_,e,_⟩,_⟩:=x;exact⟨_,e⟩
 |rng lo hi=>obtain⟨_,_,_,e⟩:=x;exact⟨_,e⟩
 |frz ob u=>obtain⟨e,_⟩:=x;exact⟨_,e⟩
 |tbl ps=>exact⟨_,(show h.get? a=some _ from x)⟩|met f y=>exact⟨_,(show h.get? a=some _ from x)⟩|ext φ=>obtain⟨_,⟨_,e⟩,_⟩:=x;exact⟨_,e⟩
def InB(B:é)(fs:List Ç)(H':Hp)(h h':é):Prop:=∀ b u,h'.get? b=some u->b ∉ fs->((∃ o,h.get? b=some o)∨H' b≠none)->B.get? b=some u
def CX1(P:Ý)(w:è):CXT:=λouter H s E e s'=>∃ (a:Ç) (cls a0:Ä) (H':Hp) (B:é),e=.ref a/\s'.os=s.os/\Ó4 s'.gens/\Un (frs outer) [] H H' s.heap s'.heap/\HOk P w H' s'.heap /\
 é.FlyingW B outer a cls a0 s'.heap/\H' a=none/\InB B (frs outer) H' s.heap s'.heap/\E cls (some a) H'
section
variable {X:Cx}{pins:List (Ç × Obj)}{σ:St}{H H':Hp}{s s':Æ}{B h'':é}{a:Ç}{cls a0:Ä}{E:XK}
theorem Z30(hS:X.stack=X.env::X.outer)(hx:X.ex=[])(hf:X.env.frame=some X.env.locals)(I:Inv X pins σ H s)(os:s'.os=s.os)(bare:Ó4 s'.gens)(un:Un (frs X.stack) [] H H' s.heap s'.heap)(hok:HOk X.prog X.w H' s'.heap)
  (bB:InB B (frs X.stack) H' s.heap s'.heap) (na:H' a=none) (fl:é.FlyingW B X.outer a cls a0 h'') (sm:s'.heap.UpToSlots h'') (he:E cls (some a) H'):CX1 X.prog X.w X.outer X.H₀ X.s₀ E (.ref a) { s' with heap:=h'' }:=by
 have hfs:frs X.stack=X.env.locals::frs X.outer:=by rw[hS];unfold frs;rw[Á3,hf]
 have U1:=I.base;rw[hx] at U1;have U:Un (frs X.stack) [] X.H₀ H' X.s₀.heap s'.heap:=(U1.mono (λb hb=>by rw[hfs];exact È _ hb) λb hb=>hb).trans un
 have nL:∀ b o,X.s₀.heap.get? b=some o->b ∉ frs X.outer->b ∉ frs X.stack:=λb o e hn hm=>by
  rw[hfs] at hm;rcases ú.mp hm with z | z
  ·exact absurd (à e) (by rw[z];exact Nat.not_lt.mpr I.ok.above)
  ·exact hn z
 have frN:∀ b∈frs X.stack,H' b=none:=λb hb=>by
  obtain⟨_,o,ho,_⟩:=I.stack.mem hb;exact un.free b o ho (I.v80 b hb) (by simp)
 have old:∀ b o,X.s₀.heap.get? b=some o->b ∉ frs X.outer->∃ u,s'.heap.get? b=some u/\B.get? b=some u:=λb o e hn=>by
  obtain⟨o1,e1⟩:=U1.there b o e (by simp)
  obtain⟨o2,e2⟩:=un.there b o1 e1 (by simp)
  exact⟨o2,e2,bB b o2 e2 (nL b o e hn) (.inl ⟨o1,e1⟩)⟩
 have trk:∀ b,H' b≠none->∃ u,s'.heap.get? b=some u/\B.get? b=some u:=λb hb=>by
  obtain⟨o,e⟩:=Ü8.mp hb;obtain⟨u,eu⟩:=(hok b o e).there;exact⟨u,eu,bB b u eu (λhm=>by rw[frN b hm] at e;cases e) (.inr hb)⟩
 refine⟨a,cls,a0,H',B,rfl,os.trans I.os,bare,⟨λb o e n hb _=>?_,λb o e n hb _=>?_,λb o e n hb=>U.free b o e n hb,λb o e _=>?_,U.tups,U.frzs,U.tbls⟩,λc o e=>?_,fl,na,λb u e hn hor=>?_,he⟩
 ·obtain⟨u,e1,e2⟩:=old b o e hb;have e3:=U.keep b o e n (nL b o e hb) (by simp)
  rw[e1] at e3;cases e3;exact fl.1 b _ e2
 ·obtain⟨sl,e1⟩:=U.slot b o e n (by rw[hfs];exact È _ hb) (by simp)
  obtain⟨_,o',ho',hd⟩:=I.ok.k61.mem hb;rw[e] at ho';cases ho';obtain⟨sl',e2⟩:=sm b _ e1 hd;exact⟨sl',e2⟩
 ·by_cases hb:b∈frs X.outer
  ·obtain⟨_,o',ho',_⟩:=fl.2.2.1.mem hb;exact⟨o',ho'⟩
  ·obtain⟨u,_,e2⟩:=old b o e hb;exact⟨u,fl.1 b _ e2⟩
 ·refine(hok c o e).k51 (λb u hb q=>?_) (λ_ q=>q) λ_ _ q=>q;have hbn:H' b≠none:=by
   rcases hb with rfl | hb
   ·rw[e];exact λz=>nomatch z
   ·rw[hb];exact λz=>nomatch z
  obtain⟨u',e1,e2⟩:=trk b hbn;rw[q] at e1;cases e1;exact fl.1 b _ e2
 ·have:∃ u',B.get? b=some u':=by
   rcases hor with ⟨o,ho⟩ | hor
   ·obtain⟨u',_,e2⟩:=old b o ho hn;exact⟨u',e2⟩
   ·obtain⟨u',_,e2⟩:=trk b hor;exact⟨u',e2⟩
  obtain⟨u',e2⟩:=this;have e3:=fl.1 b _ e2;rw[e] at e3;cases e3;exact e2
end
section
variable {P:Ý}{w:è}{K:Â}{mg:Str->Option Ä}{base:é}{N:List Str}{qual:Str}{scope:ý}{f:Ç}{cd:Ä}{A:ö}{outer:List Env}{s₀:Æ}{H₀:Hp}{E:XK}
theorem t91(I:Inv (F90 (CX1 P w) P w K mg base N qual scope f cd A outer s₀ H₀ E) pins σ H s)(hx:é.MadeExcOf s.heap h' e cls vs)(he:E cls (some e) H) :
  (F90 (CX1 P w) P w K mg base N qual scope f cd A outer s₀ H₀ E).xe (.ref e) { s with heap:=h' }:=by
 have hin:∀ env∈(F90 (CX1 P w) P w K mg base N qual scope f cd A outer s₀ H₀ E).stack,∀ a,env.frame=some a->a∈frs (F90 (CX1 P w) P w K mg base N qual scope f cd A outer s₀ H₀ E).stack:=λenv he a ha=>Ø0.mpr ⟨env,he,ha⟩;have kB:(hideAll s.heap (frs (F90 (CX1 P w) P w K mg base N qual scope f cd A outer s₀ H₀ E).stack)).StaysIn s.heap:=λb o q=>of_hideAll _ q;show Î _ _ (leaving _ _) _ _ _;refine wpAny_leaves_madeW (base:=hideAll s.heap (frs (F90 (CX1 P w) P w K mg base N qual scope f cd A outer s₀ H₀ E).stack)) (h:=s.heap) I.ok.frames rfl kB (PySem.W.funFrames_hide I.stack hin) hx λh'' t fl _ _ sm=>?_;have na:H e=none:=by
  cases z:H e with
  |none=>rfl|some o=>obtain⟨u,eu⟩:=(I.hok e o z).there;rw[hx.new] at eu;cases eu
 refine Z30 (X:=F90 (CX1 P w) P w K mg base N qual scope f cd A outer s₀ H₀ E) (s':={ s with heap:=h' }) rfl rfl rfl I rfl I.bare (Un.kept hx.keeps) (I.hok.kept hx.keeps) (λb u q hn hor=>?_) na fl sm he;have:∃ o,s.heap.get? b=some o:=by
  rcases hor with hor | hor
  ·exact hor
  ·obtain⟨o,z⟩:=Ü8.mp hor;exact(I.hok b o z).there
 obtain⟨o,ho⟩:=this;have:=hx.keeps b o ho;have q':h'.get? b=some u:=q;rw[this] at q';cases q';exact hideAll_get _ ho hn
theorem F02:Passes (CX1 P w) (F90 (CX1 P w) P w K mg base N qual scope f cd A outer s₀ H₀ E) E:=by
 intro pins σ H s e s' I h;obtain⟨a,cls,a0,H',B,rfl,os,bare,un,hok,fl,na,bB,he⟩:=h;show Î _ _ (leaving _ _) _ _ _;refine wpAny_leaves_onW I.ok.frames rfl fl λh'' fl' sm=>?_;exact Z30 (X:=F90 (CX1 P w) P w K mg base N qual scope f cd A outer s₀ H₀ E) (s':=s') rfl rfl rfl I os bare un hok bB na fl' sm he
end
theorem b02{K:Â}{h:é}{C:Ç}{bmB:List Ä}{newId:String}(KX:K.In h)(hq:Ì2 K C bmB newId=true) :
  ∃ bm N nm q bs hdct sn sub ab col dd k0 k1 k2 k3 k5 mN,h.get? C=some (excClassObj nm q C N bs bm hdct sn sub ab col dd k0 k1 k2 k3 k5 newId)/\h.Ns N mN/\mN "__init__"=none/\OwnTail h bmB bm:=by
 unfold Ì2 at hq;split at hq
 case h_2=>cases hq
 case h_1 dd cd sl ho =>
  split at hq
  case h_2=>cases hq
  case h_1 C' bm k0 k1 k2 k3 n k5 hm hs =>
   simp only[Á,beq_iff_eq,À3] at hq;obtain⟨⟨⟨⟨⟨z1,z2⟩,hdel⟩,ht⟩,hok⟩,hni⟩:=hq;subst z1 z2;cases cd with
   |mk nm bs mro ns qn hd sn sub ab col del =>
    dsimp only at hm hdel hok hni;subst hm hdel;have esl:sl=#[k0,k1,k2,k3,some (.builtin n),k5]:=by cases sl with | mk l=>simp only at hs;rw[hs]
    subst esl;refine⟨bm,ns,nm,qn,bs,hd,sn,sub,ab,col,dd,k0,k1,k2,k3,k5,h.nsMap ns,KX _ _ ho,?_,PySem.W.nsMap_none_of_in KX hok hni,PySem.W.tail_of_in KX ht⟩;exact .of_isNs (PySem.W.isNs_of_in KX hok)
def L00(X:Cx)(E:XK):Prop:=∀ (pins:List (Ç × Obj)) (σ:St) (H:Hp) (s:Æ) (h':é) (e:Ç) (cls:Ä) (vs:List Ä),Inv X pins σ H s->é.MadeExcOf s.heap h' e cls vs->E cls (some e) H->X.xe (.ref e) { s with heap:=h' }
theorem u01{P:Ý}{w:è}{K:Â}{mg:Str->Option Ä}{base:é}{N:List Str}{qual:Str}{scope:ý}{f:Ç}{cd:Ä}{A:ö}{outer:List Env}{s₀:Æ}{H₀:Hp}{E:XK} :
  L00 (F90 (CX1 P w) P w K mg base N qual scope f cd A outer s₀ H₀ E) E:=λ_ _ _ _ _ _ _ _ I hx he=>t91 I hx he
def p02(E:XK)(C:Ç)(t:TA):TS:=λ_ σ H=>t σ H λvs H1=>vs.length<=Ú/\∀ e,H1 e=none->E (.ref C) (some e) H1
section
variable {X:Cx}{x:Str}{C:Ç}{E:XK}{e₀:Ï}{rest:List Ï}{t:TA}{np cpos pos:Pos}
theorem L01(hE:L00 X E)(hc:X.calm=true)(hg:Gl X x)(hm:X.mg x=some (.ref C))(hq:Ì2 X.K C [.type "ValueError",.type "Exception",.type "BaseException",.type "object"] "ValueError.__new__"=true)(ha:PA X (e₀::rest) t)
  (hdb:(x == ("__debug__":Str))=false:=by decide) (he:þ (e₀::rest) X.env=(false,eval e₀ X.env)::þ rest X.env:=by rfl) (hpl:(Õ9 cpos (þ rest X.env)).any (·.1)=false:=by rfl) :
  PS X (.Raise (some (.Call (.Name x np) (e₀::rest) [] cpos)) none pos) (p02 E C t):=by
 intro pins s σ H D I h;obtain⟨bm,N,nm,q,bs,hdct,sn,sub,ab,col,dd,k0,k1,k2,k3,k5,mN,hC,hN,hni,T⟩:=b02 I.ok.mod.kin hq;refine wpAny_Raise_call_subT (C:=C) (nm:=nm) (q:=q) (N:=N) (bs:=bs) (bm:=bm) (hdct:=hdct) (sn:=sn) (sub:=sub) (ab:=ab) (col:=col) (dd:=dd) (k0:=k0) (k1:=k1) (k2:=k2) (k3:=k3) (k5:=k5)
  Ü3 (mN:=mN) (T.hasType Ü3.hasBase) (I.ok.hd hc) (by rw[he];exact hpl) hni (I90 I hg hm ⟨rfl,?_⟩ hdb)
 have k:=ha cpos pins s σ H _ I h;rw[he] at k ⊢;refine á4 (thn k λus s2 ⟨vs,H2,I2,r,z,q⟩=>⟨rfl,by show us.length<=_;rw[← r.length];exact z,I2.bk _ _ hC,hN.keeps I2.bk,T.keeps I2.bk,λh' e hx=>?_⟩)
 refine hE pins σ H2 s2 h' e _ us I2 hx (q e ?_);cases z:H2 e with
 |none=>rfl|some o=>obtain⟨u,eu⟩:=(I2.hok e o z).there;rw[hx.new] at eu;cases eu
end
open PySem PySem.Spec PyProof.Rows PySem.W PySem.Builtin PySem.Builtin.ObjectAttr PySem.Builtin.Getset_descriptor
section
variable {prog:Ý}{w:è}{A:ö}{E:Ä->Æ->Prop}{K:Â}{h:é}{gg:Array Ý7}{d:Drawn}{t:Nat}{os:OsState}{x D:Ç}{ox:Obj}
structure i20(K:PySem.W.Frag)(D:Addr):Prop where
 ga:findIn K (.ref D) "__getattribute__"=some (some (.builtin "BaseException.__getattribute__"))
 gh:findIn K (.ref D) "__getattr__"=some none
 mb:mroIn K D (.type "BaseException")=some true
 mo:mroIn K D (.type "object")=some true
 fc:findIn K (.ref D) "__class__"=some (some (.builtin "object.__class__"))
 fg:specialIn K (.builtin "object.__class__") "__get__"=some (some (.builtin "getset_descriptor.__get__"))
 ft:takesIn K (.builtin "object.__class__")=some true
def excAt(a D:Ç)(h:é):Prop:=∃ ox,h.get? a=some ox/\ox.cls=.ref D
theorem excAt.ty{M:Model}{a D:Ç}{h:é}(p:excAt a D h):Looks M h (typeOf (.ref a)) (.ref D):=by
 obtain⟨ox,e,c⟩:=p;rw[← c];exact(Looks.ld e).andThen .now
theorem L11{M:Model}(KX:K.In h)(L:i20 K D):Looks M h (find (.ref x) (.ref D) "__class__") (.bind (.builtin "getset_descriptor.__get__") (.builtin "object.__class__")):=by
 have l1:=looks_takesIn (M:=M) KX L.ft;have l2:Looks M h (dataDescriptor? (some (.builtin "object.__class__")) (some (.builtin "getset_descriptor.__get__"))) (some (.builtin "getset_descriptor.__get__",.builtin "object.__class__")):=l1.andThen .now;exact(looks_findIn KX L.fc).andThen ((looks_specialIn KX L.fg).andThen (l2.andThen (Looks.tag .now)))
theorem b12{R:Result->Æ->Prop}{tp:Ä}(KX:K.In h)(I:excAt x D h)(hm:mroIn K D (.type "object")=some true)(hq:R (.ok (.ret (.ref D))) ⟨h,gg,d,t,os⟩) :
  Î2 (Ô prog w) A (.call (.builtin "getset_descriptor.__get__") ⟨[.builtin "object.__class__",.ref x,tp],[]⟩) R ⟨h,gg,d,t,os⟩:=by
 have L0:=I.ty (M:=Ô prog w);have L1:=looks_mroIn (M:=Ô prog w) KX hm
 (refine Ù0 KF.slot_gs.plain KF.entry_gs (KF.slot_gs.check _ _ _ _ _ _ _ _ KF.type_class (KF.args_gs _ _ _) ?_);unfold ÿ.«getset_descriptor.__get__» descrGet;rw[dga_obj];refine À (Å ?_);unfold descrGetter descrCheckInstance descrNameAndClass isInstance;simp only[KF.owner_class];repeat lk)
 (refine⟨Ø3 _ (by decide +kernel),Â2 KF.entry_class ?_⟩;unfold ÿ.«object.__class__» shownTypeOf;repeat lk)
 exact hq
theorem u11{M:Model}{nameV:Ä}{Q:Unit->Æ->Prop}(KX:K.In h)(I:excAt x D h)(L:i20 K D)(hq:Q () ⟨h,gg,d,t,os⟩) :
  Î M A (Õ0 "BaseException.__getattribute__" ⟨[.ref x,nameV],[]⟩) Q E ⟨h,gg,d,t,os⟩:=by
 have hkd:builtinKind "BaseException.__getattribute__"=some .slot:=by decide +kernel
 have hsp:splitId "BaseException.__getattribute__"=some ("BaseException","__getattribute__"):=by decide +kernel
 have L0:=I.ty (M:=M);have L1:=looks_mroIn (M:=M) KX L.mb;have ha:=F.args_bexc_ga (.ref x) nameV;simp only[Õ0,hkd,hsp];unfold isInstance;refine À (À (L0.at (L1.at ?_)))
 repeat (first | assumption | wp_step)
theorem u21(KX:K.In h)(I:excAt x D h)(L:i20 K D)(hq:Q (.done (.ret (.ref D))) ⟨h,gg,d,t,os⟩) :
  Î (Ô prog w) A (ÿ.«object.__getattribute__» ⟨[.ref x,.str "__class__" tk],[]⟩) Q E ⟨h,gg,d,t,os⟩:=by
 have L0:=I.ty (M:=Ô prog w);have L1:=L11 (M:=Ô prog w) (x:=x) KX L
 (unfold ÿ.«object.__getattribute__»);refine À (Å (À (Å (À (L0.at (À (L1.at ?_)))))))
 show Î _ _ (Ù5 [Ð7 "object.__class__"] (call (.builtin "getset_descriptor.__get__") [.builtin "object.__class__",.ref x,.ref D]) >>= _) _ _ _;refine À (À7 (Õ8 (b12 KX I L.mo ?_)));exact Å hq
theorem L21{tk:Tok}{R:Result->Æ->Prop}(KX:K.In h)(I:excAt x D h)(L:i20 K D)(hq:R (.ok (.ret (.ref D))) ⟨h,gg,d,t,os⟩) :
  Î2 (Ô prog w) A (.call (.builtin "BaseException.__getattribute__") ⟨[.ref x,.str "__class__" tk],[]⟩) R ⟨h,gg,d,t,os⟩ :=
 Ù0 F.attr_ValueError.ga.plain F.entry_bexc_ga (u11 KX I L (u21 KX I L hq))
theorem p12{fill expr:Bool}(KX:K.In h)(I:excAt x D h)(L:i20 K D)(hq:Q (.ref D) ⟨h,gg,d,t,os⟩) :
  Î (Ô prog w) A (getAttrBy (.ref x) (.str "__class__" tk) fill expr) Q E ⟨h,gg,d,t,os⟩:=by
 have L0:=I.ty (M:=Ô prog w);have L1:=looks_findIn (M:=Ô prog w) KX L.ga;have L2:=looks_findIn (M:=Ô prog w) KX L.gh;have f3:=F.attr_ValueError.ga.bind (.ref x);have hno:(expr&&onTheHeap (Ð7 "BaseException.__getattribute__"))=false:=by cases expr <;> rfl
 unfold getAttrBy
 (refine À7 (À (L0.at (À (L1.at ?_)))));
 show Î _ _ (getAttrByItsOwn _ _ _ _ _ _) _ _ _;unfold getAttrByItsOwn hookBefore;rw[if_pos (show onTheHeap (Ã3 D)=true from rfl)];refine À (L2.at ?_);unfold callGetattribute;rw[hno,if_neg (-0)]
 unfold boundAndCalled
 (refine À (Ë1 (À7 ?_)))
 repeat (any_goals (first | assumption | (with_reducible refine Õ8 (L21 KX I L ?_)) | wp_step))
theorem L31(KX:K.In s.heap)(I:excAt x D s.heap)(L:i20 K D)(hq:Q (some (.ref D)) { s with toks:=s.toks + 1 }):Î (Ô prog w) A (getAttr? (.ref x) "__class__") Q E s:=by
 obtain⟨h,gg,d,t,os⟩:=s;unfold getAttr? getAttrBy?;refine À (wpAny_mkText (À (Ë1 (p12 KX I L ?_))));exact Å hq
theorem L41(L:i20 K D)(hd:hasDictIn K D=true):KitX K (.ref x) (.ref D) (excAt x D) where
 ty:=λ_ _ _ I=>I.ty
 it:=λM h KX _=>by
  obtain⟨cdD,hcD,_⟩:=any_some hd;unfold clsIn at hcD;split at hcD
  case h_2=>cases hcD
  case h_1 ho =>
   intro A' Q' E' s' k q;unfold isType loadHead;exact À (wpAny_loadPart (k _ _ (KX _ _ ho)) (Å q))
 ne:=λh tp dd its n sl KX htp=>by
  obtain⟨cdD,hcD,_⟩:=any_some hd;refine Bool.eq_false_iff.mpr λsame=>?_;cases Ã3.inj (beq_iff_eq.mp same);unfold clsIn at hcD;split at hcD
  case h_2=>cases hcD
  case h_1 ho=>cases (KX _ _ ho).symm.trans htp
 ca:=λKX I k=>L31 KX I L k
end
def p22(H:Hp)(a D:Ç):Prop:=H a=some (.ext (excAt a D))
theorem m01{a D:Ç}{h1 h2:é}(h:excAt a D h1)(k:∀ o,h1.get? a=some o->h2.get? a=some o):excAt a D h2:=by
 obtain⟨ox,e,c⟩:=h;exact⟨ox,k _ e,c⟩
section
variable {X:Cx}
theorem m21:g70 X (.builtin "isinstance") (λxs H Q=>∃ (a D:Ç) (c:V) (cv:Ä) (b:Bool),xs=[.ref a,c]/\((∃ C,c=.ref C/\cv=.ref C)∨∃ T,c=.ty T/\cv=.type T)/\p22 H a D/\i20 X.K D/\hasDictIn X.K D=true/\kitOne X.K (.ref D) cv=some b/\Q (.bl b) H):=by
 intro pins s σ H xs us Q I r h;obtain⟨a,D,c,cv,b,rfl,hc,hx,L,hd,e,q⟩:=h;obtain⟨u,w',rfl,rx,rt⟩:=vals2 r;cases (show u=Ã3 a from rx);obtain⟨hp,_,_⟩:=(show h40 X.prog X.w H s.heap a (.ext (excAt a D)) from I.hok a _ hx);have fin:∀ tk,EP X pins σ Q (.bool b) { s with toks:=tk }:=λtk=>⟨.bl b,H,I.tok tk,rfl,q⟩;have ew:w'=cv:=by
  rcases hc with ⟨C,rfl,rfl⟩ | ⟨T,rfl,rfl⟩
  ·exact rt
  ·exact rt
 subst ew;exact kia_one (L41 L hd) I.kIn hp e (λz=>by rcases hc with ⟨C,_,rfl⟩ | ⟨T,_,rfl⟩ <;> exact nomatch z) fin
end
end L2
namespace L2
open PySem PySem.Spec PyProof.Rows
section
variable {X:Cx}{pins:List (Ç × Obj)}{σ:St}{H H':Hp}{s s':Æ}{B h4:é}
theorem T31(I:Inv X pins σ H s)(os:s'.os=s.os)(bare:Ó4 s'.gens)(un:Un (frs X.stack) [] H H' s.heap s'.heap)(hok:HOk X.prog X.w H' s'.heap)(bB:InB B (frs X.stack) H' s.heap s'.heap)(kB:B.StaysIn h4)(sm:s'.heap.UpToSlots h4) :
  Inv X pins σ H' { s' with heap:=h4 }:=by
 have frN:∀ b∈frs X.stack,H' b=none:=λb hb=>by
  obtain⟨_,o,ho,_⟩:=I.stack.mem hb;exact un.free b o ho (I.v80 b hb) (by simp)
 have fr4:∀ b o,s.heap.get? b=some o->b∈frs X.stack->∃ sl,h4.get? b=some { o with slots:=sl }:=λb o e hb=>by
  obtain⟨sl,e1⟩:=un.slot b o e (I.v80 b hb) hb (by simp)
  obtain⟨_,o',ho',hd⟩:=I.stack.mem hb;rw[e] at ho';cases ho';obtain⟨sl',e2⟩:=sm b _ e1 hd;exact⟨sl',e2⟩
 have old:∀ b o,s.heap.get? b=some o->b ∉ frs X.stack->∃ u,s'.heap.get? b=some u/\h4.get? b=some u:=λb o e hn=>by
  obtain⟨o2,e2⟩:=un.there b o e (by simp)
  exact⟨o2,e2,kB b _ (bB b o2 e2 hn (.inl ⟨o,e⟩))⟩
 refine I.l12 (s':={ s' with heap:=h4 }) (ch:=[]) os ⟨λb o e n hb _=>?_,λb o e n hb _=>fr4 b o e hb,un.free,λb o e _=>?_,un.tups,un.frzs,un.tbls⟩ (λc o e=>?_) bare λb hb=>absurd hb (by simp)
 ·obtain⟨u,e1,e2⟩:=old b o e hb;have e3:=un.keep b o e n hb (by simp)
  rw[e1] at e3;cases e3;exact e2
 ·by_cases hb:b∈frs X.stack
  ·obtain⟨sl,e1⟩:=fr4 b o e hb;exact⟨_,e1⟩
  ·obtain⟨u,_,e2⟩:=old b o e hb;exact⟨u,e2⟩
 ·refine(hok c o e).k51 (λb u hb q=>?_) (λ_ q=>q) λ_ _ q=>q;have hbn:H' b≠none:=by
   rcases hb with rfl | hb
   ·rw[e];exact λz=>nomatch z
   ·rw[hb];exact λz=>nomatch z
  exact kB b _ (bB b u q (λhm=>hbn (frN b hm)) (.inr hbn))
theorem Inv.u31(I:Inv X pins σ H s)(hl:∀ (i:Nat) (x:Str) (v:V),X.N[i]?=some x->σ[i]?=some (some v)->Vis X.env.scope x->∃ u,RelV v u/\Look X.env s.heap m x u)
  (hn':h'.Ns X.env.locals m') (hs:Ë7 X.env.locals s.heap h') (hm:∀ (i:Nat) (x:Str),X.N[i]?=some x->m' x=m x):Inv X pins σ H { s with heap:=h',toks:=t' }:=by
 have oth:∀ b o,b≠X.env.locals->s.heap.get? b=some o->h'.get? b=some o:=λb o hb e=>(hs.2 b hb).trans e;have neL:∀ b o,X.s₀.heap.get? b=some o->b≠X.env.locals:=λb o e=>Ø (Þ (à e) I.ok.above);have cel:∀ x c v,X.env.cells.lookup x=some c->s.heap.IsCell c v->h'.IsCell c v:=λx c v e ⟨o,ho,hd⟩=>⟨o,oth c o (I.cne x c e) ho,hd⟩;refine⟨I.ok,I.os,I.bare,⟨λb o e n hb hx=>oth b o (neL b o e) (I.base.keep b o e n hb hx),λb o e n hb hx=>?_,I.base.free,λb o e hx=>?_,I.base.tups,I.base.frzs,I.base.tbls⟩,⟨m',hn',λi x v e1 e2 e3=>?_⟩,λx c e=>?_,I.free,I.freeC,λp hp=>?_,λc o e=>?_,I.len⟩
 ·obtain⟨sl,e1⟩:=I.base.slot b o e n hb hx;exact⟨sl,oth b _ (neL b o e) e1⟩
 ·obtain⟨o',e1⟩:=I.base.there b o e hx;exact⟨o',oth b _ (neL b o e) e1⟩
 ·obtain⟨u,r,l⟩:=hl i x v e1 e2 e3;refine⟨u,r,?_⟩;rcases l with ⟨k,z⟩ | ⟨k,c,ec,z⟩
  ·exact .inl ⟨k,(hm i x e1).trans z⟩
  ·exact .inr ⟨k,c,ec,cel x c _ ec z⟩
 ·obtain⟨v,z⟩:=I.cell x c e;exact⟨v,cel x c v e z⟩
 ·obtain⟨e,n,ne,nf,d⟩:=I.pin p hp;exact⟨oth _ _ ne e,n,ne,nf,d⟩
 ·refine(I.hok c o e).k51 (λb u hb q=>oth b u (λz=>?_) q) (λ_ q=>q) λ_ _ q=>q;rcases hb with rfl | hb
  ·rw[z,I.free] at e;cases e
  ·rw[z,I.free] at hb;cases hb
theorem Inv.p32{T:Ç}{o:HO}(I:Inv X pins σ H s)(nT:H T=none)(n0:X.s₀.heap.get? T=none)(hL:T≠X.env.locals)(hc:∀ x c,X.env.cells.lookup x=some c->c≠T)(hp:∀ p∈X.pn++pins,p.1≠T)(new:h40 X.prog X.w (upd H T o) s.heap T o) :
  Inv X pins σ (upd H T o) s:=by
 have u:=I.base;refine⟨I.ok,I.os,I.bare,⟨u.keep,u.slot,λb ob e n hx=>?_,u.there,λb xs e=>?_,λb ob xs e=>?_,λb ps e=>?_⟩,I.loc,I.cell,?_,λx c e=>?_,λp hpp=>?_,λc v e=>?_,I.len⟩
 ·rw[a60 (λz=>by rw[z,n0] at e;cases e)];exact u.free b ob e n hx
 ·have z:=u.tups b xs e;rw[a60 (a80 z nT)];exact z
 ·have z:=u.frzs b ob xs e;rw[a60 (a80 z nT)];exact z
 ·obtain⟨more,z⟩:=u.tbls b ps e;exact⟨more,by rw[a60 (a80 z nT)];exact z⟩
 ·rw[a60 hL.symm];exact I.free
 ·rw[a60 (hc x c e)];exact I.freeC x c e
 ·obtain⟨e,n,r⟩:=I.pin p hpp;exact⟨e,by rw[a60 (hp p hpp)];exact n,r⟩
 ·by_cases hcT:c=T
  ·subst hcT;rw[b20] at e;cases e;exact new
  ·rw[a60 hcT] at e;exact(I.hok c v e).k51 (λ_ _ _ q=>q) (λb q=>by rw[a60 (a80 q nT)];exact q) λb xs q=>by rw[a60 (a80 q nT)];exact q
end
structure m31(P:Program)(w:World)(K:PySem.W.Frag)(mg:Str->Option Value)(base:Heap)(CX:CXT)(k:Nat)(f:Addr)(fd:FuncData)(ps:List Str)(sp:Shared->Sp):Prop where
 len:∀ s vs H Q E,sp s vs H Q E->vs.length=ps.length
 run:∀ (A:Around) (outer:List Env) (s:Shared) (H:Hp) (args:Args) (us:List Value) (vs:List V) (Q:VK) (E:XK),z90 k A->Y01 P w K mg base A outer s H->BindsTo s fd args (ps.zip us)->Vals vs us->sp s vs H Q E ->
  codeAny (model P w) A (.call (.ref f) args) (CR CX outer P w H s Q E) s
theorem p42{CX:CXT}{P:Ý}{w:è}{K:Â}{mg:Str->Option Ä}{base:é}{k:Nat}{f:Ç}{name qual:Str}{params:Î0}{body:List Ä8}{scope:ý}{dV kV doc pm cdv ct oc:Ä}{an od:Option Ç}
  {osl:Array (Option Ä)}{N ps:List Str}{sp:Æ->Sp} (lk:K.lookup f=some ⟨oc,od,.func (fnOf name qual params body scope dV kV doc pm an cdv ct),osl⟩) (hcd:PySem.W.codeIn K cdv qual=true) (S:k20 N ps scope)
  (len:∀ s vs H Q E,sp s vs H Q E->vs.length=ps.length)
  (hbody:∀ (A:ö) (outer:List Env) (s:Æ) (H:Hp) (vs:List V) (Q:VK) (E:XK),z90 k (A.deeper (Ï5 qual scope s.heap.objs.size f cdv))->sp s vs H Q E ->
   ∃ t,PSs (F90 CX P w K mg base N qual scope f cdv A outer s H E) body t/\t { nx:=λ_ H'=>Q .non H',rt:=Q } (start N vs) H) :
  m31 P w K mg base CX (k + 1) f (fnOf name qual params body scope dV kV doc pm an cdv ct) ps sp:=by
 refine⟨len,λA outer s H args us vs Q E hr e0 hb r hsp=>?_⟩;have hl:=len _ _ _ _ _ hsp;have KX:K.In s.heap:=e0.mod.kin.keeps λb o e=>(e0.bs b o e).1;have lim:s.heap.NoLimit:=e0.mod.nolimit.keeps λb o e=>(e0.bs b o e).1;have hkind:∀ y∈ps.zip us,scope.names.lookup y.1=some .local∨(scope.names.lookup y.1=some .cell/\((cellsFrom (s.heap.objs.size + 1) scope.names []).lookup y.1).isSome=true):=λ⟨n,v⟩ hy=>by
  rcases S.par n (of_mem_zip hy).1 with q | q
  ·exact .inl q
  ·exact .inr ⟨q,cellsFrom_some _ _ _ (.inl q)⟩
 refine codeAny_call_function hr.depth (KX _ _ lk) rfl S.co S.gen rfl (codeRec_of KX hcd) (hb _ _ _ _ ?_);refine á0 S.kind hkind λenv he s1 x=>?_;subst he;refine⟨lim.keeps x.toInCall.keep,codeAny_func ?_⟩;obtain⟨t,ht,hq⟩:=hbody A outer s H vs Q E (hr.deeper _) hsp;have I:Inv (F90 CX P w K mg base N qual scope f cdv A outer s H E) [] (start N vs) H s1:=Q60 S hr.hd e0 hl r x;refine Â1 (ht [] s1 (start N vs) H _ I hq) (λfl s' hs=>?_) λe s' hs=>hs;have fin:∀ {σ':St}{H':Hp}{v:V}{u:Ä},Inv (F90 CX P w K mg base N qual scope f cdv A outer s H E) [] σ' H' s'->RelV v u->Q v H'->CE outer P w H s Q u s' :=
  λ{σ' H' v u} J rv q=>⟨v,H',J.os,J.bare,J.base,J.hok,rv,q⟩
 cases fl with
 |ret u =>
  obtain⟨v,σ',H',J,rv,q⟩:=hs;exact fin J rv q
 |next =>
  obtain⟨σ',H',J,q⟩:=hs;exact fin (v:=V.non) (u:=â) J rfl q
 |brk =>
  obtain⟨_,_,_,q⟩:=hs;exact À2 q
 |cont =>
  obtain⟨_,_,_,q⟩:=hs;exact À2 q
theorem Fun.okS{P:Ý}{w:è}{K:Â}{mg:Str->Option Ä}{base:é}{x qual:Str}{st:Ä8}{f:Ç}{fd:Å2}{N ps:List Str}{k:Nat}{sp:Æ->Sp}(F:Fun K x qual st f fd)(S:k20 N ps (c00 st))(len:∀ s vs H Q E,sp s vs H Q E->vs.length=ps.length)
  (hb:∀ (cdv:Ä) (A:ö) (outer:List Env) (s:Æ) (H:Hp) (vs:List V) (Q:VK) (E:XK),z90 k (A.deeper (Ï5 qual (c00 st) s.heap.objs.size f cdv))->sp s vs H Q E ->
   ∃ t,PSs (F90 CX0 P w K mg base N qual (c00 st) f cdv A outer s H E).nox (i10 st) t/\t { nx:=λ_ H'=>Q .non H',rt:=Q } (start N vs) H):m31 P w K mg base CX0 (k + 1) f fd ps sp:=by
 obtain⟨oc,od,kV,doc,pm,an,cdv,ct,osl,rfl,lk,hcd⟩:=F.ex;refine p42 lk hcd S len λA outer s H vs Q E hr hsp=>?_;obtain⟨t,h,q⟩:=hb cdv A outer s H vs Q E hr hsp;exact⟨t,h.nox,q⟩
def R80(P:Ý)(w:è)(K:Â)(mg:Str->Option Ä)(base:é)(N:List Str)(qual:Str)(scope:ý)(f:Ç)(cd:Ä)(cl:List (Str × Ç))(A:ö)(outer:List Env)(s:Æ)(H:Hp)(E:XK):Cx where
 prog:=P
 w:=w
 K:=K
 mg:=mg
 base:=base
 A:=A.deeper (envX qual scope s.heap.objs.size f cd cl)
 N:=N
 s₀:=s
 H₀:=H
 env:=envX qual scope s.heap.objs.size f cd cl
 outer:=outer
 stack:=envX qual scope s.heap.objs.size f cd cl::outer
 ex:=[]
 calm:=true
 fn:=λ_=>false
 pn:=[]
 xe:=λe s'=>Î (Ô P w) (A.deeper (envX qual scope s.heap.objs.size f cd cl)) (leaving (envX qual scope s.heap.objs.size f cd cl) e) (λ_ s''=>CX1 P w outer H s E e s'') (λe' s''=>CX1 P w outer H s E e' s'') s'
section
variable {P:Ý}{w:è}{K:Â}{mg:Str->Option Ä}{base:é}{N:List Str}{qual:Str}{scope:ý}{f:Ç}{cd:Ä}{cl:List (Str × Ç)}{A:ö}{outer:List Env}{s₀:Æ}{H₀:Hp}{E:XK}
theorem b22:Passes (CX1 P w) (R80 P w K mg base N qual scope f cd cl A outer s₀ H₀ E) E:=by
 intro pins σ H s e s' I h;obtain⟨a,cls,a0,H',B,rfl,os,bare,un,hok,fl,na,bB,he⟩:=h;show Î _ _ (leaving _ _) _ _ _;refine wpAny_leaves_onW I.ok.frames rfl fl λh'' fl' sm=>?_;exact Z30 (X:=R80 P w K mg base N qual scope f cd cl A outer s₀ H₀ E) (s':=s') rfl rfl rfl I os bare un hok bB na fl' sm he
structure m41(scope:Scope)(cl:List (Str × Addr))(N:List Str)(vs:List V)(H:Hp)(h:Heap):Prop where
 inj:∀ x y c,cl.lookup x=some c->cl.lookup y=some c->x=y
 has:∀ x,(scope.names.lookup x=some .cell∨scope.names.lookup x=some .free)->∃ c,cl.lookup x=some c
 cell:∀ x c,cl.lookup x=some c->∃ v,h.IsCell c v
 free:∀ x c,cl.lookup x=some c->H c=none
 val:∀ (i:Nat) (x:Str) (v:V),N[i]?=some x->vs[i]?=some v->scope.names.lookup x=some .free/\∃ c u,cl.lookup x=some c/\RelV v u/\h.IsCell c (some u)
 len:vs.length=N.length
theorem b32(e0:Y01 P w K mg base A outer s₀ H₀)(hd:A.handled=none)(hk:scope.kind=.function)(FR:m41 scope cl N vs H₀ s₀.heap)(hns:h₁.Ns s₀.heap.objs.size λ_=>none)
  (hkp:∀ b o,s₀.heap.get? b=some o->h₁.get? b=some o) :
  Inv (R80 P w K mg base N qual scope f cd cl A outer s₀ H₀ E) [] (vs.map some) H₀ { s₀ with heap:=h₁,toks:=t }:=by
 have noA:∀ b:Ç,b ∉ (R80 P w K mg base N qual scope f cd cl A outer s₀ H₀ E).ex:=λb z=>absurd (show b∈([]:List Ç) from z) (by simp)
 have cel:∀ c v,s₀.heap.IsCell c v->h₁.IsCell c v:=λc v ⟨o,ho,hd⟩=>⟨o,hkp c o ho,hd⟩;refine⟨⟨e0.mod,hk,rfl,rfl,Í _,FR.inj,FR.has,(λ_ _ z=>nomatch z),(λ_=>hd),à9 e0.frames,.inr ⟨rfl,rfl⟩,λb z=>absurd z (noA b),e0.bs,e0.bsz,λb _ _=>noA b,λb z=>absurd z (noA b),e0.k61,e0.frf⟩,
  rfl,e0.bare,Un.kept hkp,⟨_,hns,λi x v h1 h2 h3=>?_⟩,λx c h=>?_,e0.hok.fresh (Í _),FR.free,λp hp=>absurd (show p∈([]:List (Ç × Obj)) from hp) (by simp),e0.hok.kept hkp,?_⟩
 ·have hv:vs[i]?=some v:=by
   rw[Ü] at h2;cases e:vs[i]? with
   |none=>rw[e] at h2;cases h2
   |some a=>rw[e] at h2;cases h2;rfl
  obtain⟨k,c,u,ec,r,z⟩:=FR.val i x v h1 hv;exact⟨u,r,.inr ⟨.inr k,c,ec,cel c _ z⟩⟩
 ·obtain⟨v,z⟩:=FR.cell x c h;exact⟨v,cel c v z⟩
 ·rw[É];exact FR.len
end
def recAt(c:Ç)(qual:Str):é->Prop:=λh=>h.CodeRec (.ref c) qual
theorem G60{c:Ç}{qual:Str}{h1 h2:é}(h:recAt c qual h1)(k:∀ o,h1.get? c=some o->h2.get? c=some o):recAt c qual h2:=by
 obtain⟨c',oc,vs,tq,e,ho,hd,hq⟩:=h;cases e;exact⟨c,oc,vs,tq,rfl,k _ ho,hd,hq⟩
section
variable {P:Ý}{w:è}{K:Â}{mg:Str->Option Ä}{base:é}{N:List Str}{qual:Str}{scope:ý}{f c':Ç}{cl:List (Str × Ç)}{s₀:Æ}{H₀:Hp}{k:Nat}{pm ctv cls:Ä}{params:Î0}{body:Ï}{vs:List V}
theorem m41.later{outer:List Env}{H:Hp}{s:Æ}(FR:m41 scope cl N vs H₀ s₀.heap)(un:Un (frs outer) [] H₀ H s₀.heap s.heap):m41 scope cl N vs H s.heap:=by
 have cel:∀ x c v,cl.lookup x=some c->s₀.heap.IsCell c v->s.heap.IsCell c v:=λx c v e ⟨o,ho,hd⟩=>by
  obtain⟨sl,e1⟩:=un.any ho (FR.free x c e) (by simp)
  exact⟨_,e1,hd⟩
 refine⟨FR.inj,FR.has,λx c e=>?_,λx c e=>?_,λi x v h1 h2=>?_,FR.len⟩
 ·obtain⟨v,z⟩:=FR.cell x c e;exact⟨v,cel x c v e z⟩
 ·obtain⟨v,o,ho,_⟩:=FR.cell x c e;exact un.free c o ho (FR.free x c e) (by simp)
 ·obtain⟨k,c,u,ec,r,z⟩:=FR.val i x v h1 h2;exact⟨k,c,u,ec,r,cel x c _ ec z⟩
end
def Tab(H:Hp)(P:Ç)(qual:Str):Prop:=∃ ps:Array Ä,H P=some (.tbl ps)/\ß2 ps.toList/\∀ pos c,Ù6 pos ps.toList=some c->∃ c',c=.ref c'/\H c'=some (.ext (recAt c' qual))
theorem m51{line col:Int}{pos':Pos}{c c2:Ä}(tl:List Ä)(h:ß2 tl)(e:Ù6 pos' (tl++[Ã6 line,Ã6 col,c])=some c2):c2=c∨Ù6 pos' tl=some c2:=by
 fun_induction ß2 tl with
 |case1 =>
  simp only[Ì7,Ù6,Ã6] at e;split at e
  ·cases e;exact .inl rfl
  ·cases e
 |case2 a t b u x rest ih =>
  simp only[List.cons_append,Ù6] at e ⊢;split at e
  ·rename_i hc;rw[if_pos hc];exact .inr e
  ·rename_i hc;rw[if_neg hc];exact ih h e
 |case3 tl h1 h2=>exact h.elim
theorem L51(hf:∀ y∈lsc.names,y.2=.free->∃ c,env.cells.lookup y.1=some c):∃ cl,closureFor lsc env=pure cl/\(∀ x c,cl.lookup x=some c->env.cells.lookup x=some c)/\∀ y∈lsc.names,y.2=.free->∃ c,cl.lookup y.1=some c:=by
 obtain⟨cl,e,h1,_,h3⟩:=J60 env lsc.names [] hf (λx c z=>by simp at z)
 refine⟨cl,?_,h1,h3⟩;unfold closureFor
 first
  |(rw[show(forIn lsc.names ([]:List (Str × Ç)) _:Sem _)=_ from e];rfl)
  |(simp only[bind_pure];exact e)
structure L10(P:Addr)(H H':Hp):Prop where
 same:∀ b o,b≠P->H b=some o->H' b=some o
section
variable {X:Cx}{pins:List (Ç × Obj)}{σ:St}{H:Hp}{s:Æ}{c P:Ç}{qual:Str}{params:Î0}{body:Ï}{lsc:ý}{lpos:Pos}{A:ö}{Q:Ä->Æ->Prop}{E:Ä->Æ->Prop}
theorem L61(I:Inv X pins σ H s)(hdef:defaultsOf params X.env=([],[]))(hcode:X.env.code=.ref c)(hhd:Ä9 X.K c P=true)(TB:Tab H P qual)(hqu:X.env.qual++"<lambda>"=qual)
  (hbm:∃ bm ob,X.mg "__builtins__"=some (.ref bm)/\bm≠Í6/\X.base.get? bm=some ob/\ob.cls=.type "module"/\ob.dict=some Í6/\ob.data=.plain)
  (hfr:∀ y∈lsc.names,y.2=.free->∃ c,X.env.cells.lookup y.1=some c)
  (k:∀ (cl:List (Str × Ç)) (f c':Ç) (pm ctv:Ä) (h2:é) (tk:Tok) (H2:Hp),(∀ x c,cl.lookup x=some c->X.env.cells.lookup x=some c)->(∀ y∈lsc.names,y.2=.free->∃ c,cl.lookup y.1=some c) ->
   Inv X pins σ H2 { s with heap:=h2,toks:=tk }->Tab H2 P qual->L10 P H H2->(∃ o,h2.get? f=some o/\o.data=.func (kla_fn "<lambda>" qual params body lsc cl pm (.ref c') ctv))->H2 f=none->H2 c'=some (.ext (recAt c' qual))->s.heap.objs.size<=f ->
   Q (.ref f) { s with heap:=h2,toks:=tk }):Î (Ô X.prog X.w) A (eval (.Lambda params body lsc lpos) X.env) Q E s:=by
 refine PySem.W.kla_eval hdef ?_;rw[hqu];obtain⟨cl,ecl,cl1,cl2⟩:=L51 hfr;obtain⟨ps,hP,ht,hall⟩:=TB;have hPt:s.heap.get? P=some (È3 ps):=I.hok P _ hP;have hg:=I.mod.glob.keeps I.bk;have bsN:∀ b o,X.base.get? b=some o->b≠P:=λb o e z=>by have:=(I.bs b o e).2;rw[z,hP] at this;cases this
 have hgP:ä≠P:=by obtain⟨o,_,_,e,_⟩:=I.mod.glob;exact bsN _ o e
 obtain⟨bm,ob,b1,b2,b3,b4,b5,b6⟩:=hbm;have hbGl:bm≠mainGlobals:=λq=>by
  obtain⟨o,es,ep,e,hd,_⟩:=I.mod.glob;rw[q,e] at b3;(cases b3;rw[hd] at b6;cases b6)
 have BA:s.heap.BuiltinsAt X.mg P:=⟨bm,ob,b1,b2,hbGl,bsN _ _ b3,I.bk _ _ b3,b4,b5,b6⟩;have CH:=codeHd_of_K I.kIn hhd;cases hca:Ù6 lpos ps.toList with
 |some cv =>
  obtain⟨c',rfl,hc'⟩:=hall lpos cv hca;refine PySem.W.kla_makeFunctionHit ecl I.ok.glob hg hcode CH hPt ht hca BA λctv h' tk hk hsz=>?_;have kp:∀ b o,s.heap.get? b=some o->(h'.push { cls:=.type "function",data:=.func (kla_fn "<lambda>" qual params body lsc cl ((X.mg "__name__").getD .none) (.ref c') ctv) }).get? b=some o:=λb o e=>Ã _ (hk b o e);have nf:H h'.objs.size=none:=I.hok.fresh hsz;exact k cl h'.objs.size c' _ ctv _ tk H cl1 cl2 (I.kept (t':=tk) kp) ⟨ps,hP,ht,hall⟩ ⟨λ_ _ _ e=>e⟩ ⟨_,Ê _ rfl,rfl⟩ nf hc' hsz
 |none =>
  refine PySem.W.kla_makeFunction ecl I.ok.glob hg hcode CH hPt ht hca hgP BA λc' ctv h' tk hx hge hlt hrec htb=>?_;have lP:P < s.heap.objs.size:=à hPt;have cP:c'≠P:=Ê3 (Þ lP hge);have nC:H c'=none:=I.hok.fresh hge;have kp:∀ b o,b≠P->s.heap.get? b=some o->(h'.push (kla_obj "<lambda>" qual params body lsc cl ((X.mg "__name__").getD .none) c' ctv)).get? b=some o:=λb o hb e=>Ã _ (hx b o hb e);have tb:(h'.push (kla_obj "<lambda>" qual params body lsc cl ((X.mg "__name__").getD .none) c' ctv)).get? P=some (È3 (ps++#[Ã6 lpos.line,Ã6 lpos.col,.ref c'])):=Ã _ htb;have rc:recAt c' qual (h'.push (kla_obj "<lambda>" qual params body lsc cl ((X.mg "__name__").getD .none) c' ctv)):=G60 hrec λo q=>Ã _ q;have h2P:upd (upd H P (.tbl (ps++#[Ã6 lpos.line,Ã6 lpos.col,.ref c']))) c' (.ext (recAt c' qual)) P=some (.tbl (ps++#[Ã6 lpos.line,Ã6 lpos.col,.ref c'])):=by rw[a60 cP.symm];exact b20
  have oth:∀ b,b≠P->b≠c'->upd (upd H P (.tbl (ps++#[Ã6 lpos.line,Ã6 lpos.col,.ref c']))) c' (.ext (recAt c' qual)) b=H b:=λb h1 h2=>by rw[a60 h2,a60 h1]
  have neC:∀ b o,H b=some o->b≠c':=λb o e=>a80 e nC;have I2:Inv X pins σ (upd (upd H P (.tbl (ps++#[Ã6 lpos.line,Ã6 lpos.col,.ref c']))) c' (.ext (recAt c' qual))) { s with heap:=h'.push (kla_obj "<lambda>" qual params body lsc cl ((X.mg "__name__").getD .none) c' ctv),toks:=tk }:=by
   have nP:∀ b,H b=none->b≠P:=λb n z=>by rw[z,hP] at n;cases n
   refine I.step (g':=s.gens) (d':=s.drawn) (ch:=[]) (λb hb=>absurd hb (by simp)) (λb o _ _ _ e n=>kp b o (nP b n) e) (λb o _ _ _ e n=>⟨o.slots,kp b o (nP b n) e⟩) (λb o _ e n=>?_) (λb o _ e=>?_) (λb xs e=>?_) (λb o u e=>?_) (λb qs e=>?_) (λm hm=>?_) (λb u e=>?_) I.bare
   ·rw[oth b (nP b n) (Ø (Þ (à e) hge))];exact n
   ·by_cases hb:b=P
    ·subst hb;exact⟨_,tb⟩
    ·exact⟨o,kp b o hb e⟩
   ·rw[oth b (λz=>by rw[z,hP] at e;cases e) (neC b _ e)];exact e
   ·rw[oth b (λz=>by rw[z,hP] at e;cases e) (neC b _ e)];exact e
   ·by_cases hb:b=P
    ·subst hb;rw[hP] at e;cases e;exact⟨_,h2P⟩
    ·exact⟨#[],by rw[oth b hb (neC b _ e),e];simp⟩
   ·obtain⟨o,es,ep,ho,r⟩:=hm;exact⟨o,es,ep,kp _ o (nP _ I.free) ho,r⟩
   ·by_cases hbc:b=c'
    ·subst hbc;rw[b20] at e;cases e;obtain⟨_,oc,_,_,e1,e2,_⟩:=id rc;cases e1;exact⟨rc,⟨oc,e2⟩,λh1 h2 p kk=>G60 p kk⟩
    ·by_cases hb:b=P
     ·subst hb;rw[h2P] at e;cases e;exact tb
     ·rw[oth b hb hbc] at e;refine(I.hok b u e).k51 (λb2 u2 hb2 q=>kp b2 u2 (λz=>?_) q) (λb2 q=>?_) λb2 xs q=>?_
      ·rcases hb2 with y | y
       ·exact hb (y.symm.trans z)
       ·rw[z,hP] at y;cases y
      ·rw[oth b2 (λz=>by rw[z,hP] at q;cases q) (neC b2 _ q)];exact q
      ·rw[oth b2 (λz=>by rw[z,hP] at q;cases q) (neC b2 _ q)];exact q
  have lf:s.heap.objs.size<=h'.objs.size:=É2 (Ê7 hge hlt);refine k cl h'.objs.size c' _ ctv _ tk _ cl1 cl2 I2 ⟨_,h2P,?_,λpos cc e=>?_⟩ ⟨λb o hb e=>by rw[oth b hb (neC b _ e)];exact e⟩ ⟨_,Ê _ rfl,rfl⟩ ?_ b20 lf
  ·rw[Array.toList_append];exact TriplesOk_snoc _ _ _ _ ht
  ·rw[Array.toList_append] at e;rcases m51 _ ht e with z | z
   ·exact⟨c',z,b20⟩
   ·obtain⟨c2,rfl,hc2⟩:=hall pos cc z;exact⟨c2,rfl,by rw[oth c2 (λy=>by rw[y,hP] at hc2;cases hc2) (neC c2 _ hc2)];exact hc2⟩
  ·rw[oth _ (Ê3 (Þ lP lf)) (Ê3 hlt)];exact I.hok.fresh lf
end
def BMain(mg:Str->Option Ä)(h:é):Prop:=∃ bm ob,mg "__builtins__"=some (.ref bm)/\bm≠Í6/\h.get? bm=some ob/\ob.cls=.type "module"/\ob.dict=some Í6/\ob.data=.plain
theorem p52{P:Ý}{w:è}{X:Cx}:Passes (CX1 P w) X (λ_ _ _=>False):=λ_ _ _ _ _ _ _ h=>by
 obtain⟨_,_,_,_,_,_,_,_,_,_,_,_,_,e⟩:=h;exact e.elim
theorem Tab.same{H H':Hp}{P:Ç}{q:Str}(t:Tab H P q)(s:a30 H H'):Tab H' P q:=by
 obtain⟨ps,e,tr,h⟩:=t;refine⟨ps,s _ _ e,tr,λpos c hc=>?_⟩;obtain⟨c',e1,e2⟩:=h pos c hc;exact⟨c',e1,s _ _ e2⟩
def FnL(P:Ý)(w:è)(H₀:Hp)(s₀:Æ)(f:Ç)(fd:Å2):Prop:=∀ (outer:List Env) (s:Æ) (H:Hp),Un (frs outer) [] H₀ H s₀.heap s.heap->a30 H₀ H->HOk P w H s.heap->∃ c d sl,s.heap.get? f=some ⟨c,d,.func fd,sl⟩
theorem FnL.new{P:Ý}{w:è}{H₀:Hp}{s₀:Æ}{f:Ç}{fd:Å2}(ho:∃ o,s₀.heap.get? f=some o/\o.data=.func fd)(nf:H₀ f=none):FnL P w H₀ s₀ f fd:=λouter s H un _ _=>by
 obtain⟨⟨c,d,dt,sl⟩,e,hd⟩:=ho;have hd:dt=.func fd:=hd;subst hd;obtain⟨sl,h⟩:=un.any e nf (by simp)
 exact⟨_,_,sl,h⟩
structure R90(P:Program)(w:World)(K:PySem.W.Frag)(mg:Str->Option Value)(base:Heap)(k:Nat)(f:Addr)(H₀:Hp)(s₀:Shared)(cls:Value)(RR:Hp->Prop):Prop where
 fn:∃ fd,FnL P w H₀ s₀ f fd
 run:∀ (A:Around) (outer:List Env) (s:Shared) (H:Hp),z90 k A->Y01 P w K mg base A outer s H->Un (frs outer) [] H₀ H s₀.heap s.heap->a30 H₀ H ->
  codeAny (model P w) A (.call (.ref f) ⟨[],[]⟩) (CR (CX1 P w) outer P w H s (λ_ _=>False) λc _ H'=>c=cls/\RR H') s
def F12(X:Cx)(i j:Nat)(f C:Ç)(RR:Hp->Prop):TS:=λD σ H=>σ[i]?=some (some (.ref f))/\a30 X.H₀ H/\∀ a H',RR H'->H' a=none->D.nx (σ.set j (some (.ref a))) (upd H' a (.ext (excAt a C)))
section
variable {X:Cx}{k i j:Nat}{f C D:Ç}{x y z n:Str}{p1 p2 p3 p4 p5 p6 p7 p8 p9:Pos}
theorem u41(hx0:X.ex=[])(hS:X.stack=X.env::X.outer)(hf:X.env.frame=some X.env.locals)(hr:z90 k X.A)(th:R90 X.prog X.w X.K X.mg X.base k f X.H₀ X.s₀ (.ref C) RR)
  (hy:X.N[i]?=some y) (vy:Vis X.env.scope y) (dy:(y == ("__debug__":Str))=false) (cy:(y == ("__classdict__":Str))=false)
  (hg:Gl X x) (hm:X.mg x=some (.ref D)) (dx:(x == ("__debug__":Str))=false) (he:PySem.W.exmOne X.K (.ref C) (.ref D)=some true)
  (hn:X.env.kindOf n=some .local) (nN:n ∉ X.N) (dn:(n == ("__debug__":Str))=false) (hN:X.N.Nodup) (hz:X.N[j]?=some z) (lz:Loc X.env.scope z) (hfn:X.fn z=true) :
  PS X (.Try [.Expr (.Call (.Name y p1) [] [] p2) p3] [.ExceptHandler (some (.Name x p4)) (some n) [.Assign [.Name z p5] (.Name n p6) p7] p8] [] [] p9) (F12 X i j f C RR):=by
 intro pins s σ H Dd I h;obtain⟨eσ,sH,q⟩:=h;have U0:Un (frs X.stack) [] X.H₀ H X.s₀.heap s.heap:=by
  have u:=I.base;rw[hx0] at u;exact u.mono (λb hb=>by rw[hS];unfold frs;rw[Á3,hf];exact È _ hb) λb hb=>hb
 obtain⟨fd,hfd⟩:=th.fn;obtain⟨c0,d0,sl,hof⟩:=hfd X.stack s H U0 sH I.hok;have hkind:(X.env.scope.kind == .class || (X.env.scope.kind == .module&&X.env.locals != X.env.globals))=false:=by rw[I.ok.kind];rfl
 refine wpAny_Try_except (Ô7 ?_);refine wpAny_Expr_any ?_ I.quiet rfl;refine Ë8 ?_;have ld:∀ {Q:Ä->Æ->Prop}{E:Ä->Æ->Prop},Q (.ref f) s->Î (Ô X.prog X.w) X.A (eval (.Name y p1) X.env) Q E s:=λ{Q E} hq=>by
  obtain⟨m,hnm,hl⟩:=I.loc;obtain⟨u,r,l⟩:=hl i y _ hy eσ vy;cases (show u=Ã3 f from r);rcases l with ⟨hk,hv⟩ | ⟨hk,c,hc,hcell⟩
  ·exact Ñ2 (Î4 I.ok.kind hk hnm hv hq) dy
  ·rcases hk with hk | hk
   ·exact Ñ2 (Ú3 I.ok.kind hk hc hcell hq) dy
   ·exact Ñ2 (wpAny_loadName_free I.ok.kind hk hc hcell hq cy) dy
 refine ld ?_;refine PySem.W.callWith_of (P:=λh=>h.get? f=some ⟨c0,d0,.func fd,sl⟩) rfl (λh e=>⟨.frame,.inl rfl,?_⟩) (evalArgs_nil3 ⟨hof,?_⟩)
 ·exact(Í8 (part:=none) e).andThen .now
 refine Õ8 (È1 (th.run X.A X.stack s H hr I.D22 U0 sH) λr s1 hq=>?_);cases r with
 |ok fl =>
  cases fl with
  |ret u=>obtain⟨_,_,_,_,_,_,_,z⟩:=hq;exact z.elim
  |next=>exact À2 hq
  |brk=>exact À2 hq|cont=>exact À2 hq
 |error e =>
  obtain⟨a,cls,a0,H1,B,rfl,os1,bare1,un,hok,fl,na,bB,rfl,s1H⟩:=hq;have nA:s.heap.get? a=none:=by
   cases ea:s.heap.get? a with
   |none=>rfl
   |some o =>
    exfalso;obtain⟨oe,vs,hoe,_,hde,_⟩:=fl.first;by_cases hb:a∈frs X.stack
    ·obtain⟨sl',e1⟩:=un.slot a o ea (I.v80 a hb) hb (by simp)
     obtain⟨_,o',ho',hd'⟩:=I.stack.mem hb;rw[ea] at ho';cases ho';rw[hoe] at e1;cases e1;exact hd' vs hde
    ·have:=bB a oe hoe hb (.inl ⟨o,ea⟩);rw[fl.2.1] at this;cases this
  have n0:X.s₀.heap.get? a=none:=by
   cases ea:X.s₀.heap.get? a with
   |none=>rfl
   |some o =>
    obtain⟨o',e1⟩:=U0.there a o ea (by simp)
    rw[nA] at e1;cases e1
  have aL:a≠X.env.locals:=λz=>by
   obtain⟨m,⟨o,_,_,ho,_⟩,_⟩:=I.loc;rw[z,ho] at nA;cases nA
  have aC:∀ x c,X.env.cells.lookup x=some c->c≠a:=λx c e z=>by
   obtain⟨v,o,ho,_⟩:=I.cell x c e;rw[z,nA] at ho;cases ho
  have aP:∀ p∈X.pn++pins,p.1≠a:=λp hp z=>by
   have:=(I.pin p hp).1;rw[z,nA] at this;cases this
  refine wpAny_looks_onW (I.ok.frames.trans (by rw[hS])) hf (by rw[← hS];exact fl) λh2 held2 sm2=>?_
  refine wpAny_landsW held2 λh3 fl3 sm3=>?_;have I3:Inv X pins σ H1 { s1 with heap:=h3 }:=T31 I os1 bare1 un hok bB fl3.1 (sm2.trans sm3);have at3:excAt a C h3:=by obtain⟨oe,e1,e2⟩:=fl3.there;exact⟨oe,e1,e2⟩
  refine wpAny_handleBy_cons (codeAny_handlers_test ?_) (λz=>nomatch z);refine Ï1 I3.ok.kind hg (à3 (by rw[I3.ok.glob];exact I3.mod.glob.keeps I3.bk) hm ?_) dx
  refine(PySem.W.exm_one (h:=h3) I3.kIn at3.ty he).here ?_;refine codeAny_handlers_suite_as (lands_againW fl3 λh4 fl4 sm4=>?_);have I4:Inv X pins σ H1 { s1 with heap:=h4 }:=T31 I os1 bare1 un hok bB fl4.1 ((sm2.trans sm3).trans sm4);have at4:excAt a C h4:=by obtain⟨oe,e1,e2⟩:=fl4.there;exact⟨oe,e1,e2⟩
  obtain⟨m4,hn4,hl4⟩:=id I4.loc;refine wpAny_storeName_local hn hn4 (λh5 hn5 hs5=>?_) hkind;have offN:∀ (i:Nat) (x:Str),X.N[i]?=some x->x≠n:=λi x e z=>nN (by rw[← z];exact î e)
  have I5:Inv X pins σ H1 { s1 with heap:=h5,toks:=s1.toks + 1 }:=Inv.u31 (s:={ s1 with heap:=h4 }) I4 hl4 hn5 hs5 λi x e=>if_neg (offN i x e);refine Ô7 (wpAny_Assign_Name ?_ rfl);refine Ñ2 (Î4 I.ok.kind hn hn5 (if_pos rfl) ?_) dn;refine B10 (v:=.ref a) I5 hN hz lz rfl (λs6 I6 hsame=>?_) (.inl hfn);refine Ï3 ?_;show Î _ _ (do bindName X.env n .none;unbindBehindTheSuite X.env n p8) _ _ _;obtain⟨m6,hn6,hl6⟩:=id I6.loc;refine wpAny_nameGoes_keeps hn hn6 hkind λh7 v7 hn7 hs7=>?_;have I7:=Inv.u31 (t':=s6.toks + 1) I6 hl6 hn7 hs7 λi x e=>if_neg (offN i x e);have at7:excAt a C h7:=by
   obtain⟨oe,e1,e2⟩:=at4;obtain⟨b6,hb6,hor⟩:=hsame;have e5:h5.get? a=some oe:=(hs5.2 a aL).trans e1;have e6:s6.heap.get? a=some oe:=(hb6.2 a (λz=>by
    rcases hor with y | y
    ·exact aL (z.trans y)
    ·exact aC _ _ y z.symm)).trans e5
   exact⟨oe,(hs7.2 a aL).trans e6,e2⟩
  have nT:H1 a=none:=na;have I8:=Inv.p32 (T:=a) (o:=.ext (excAt a C)) I7 nT n0 aL aC aP ⟨at7,by obtain⟨oe,e1,_⟩:=at7;exact⟨oe,e1⟩,λh1 h2 p kk=>m01 p kk⟩
  exact⟨_,_,I8,q a H1 s1H na⟩
end
section
variable {P:Ý}{w:è}{K:Â}{mg:Str->Option Ä}{base:é}{N:List Str}{qual:Str}{scope:ý}{f c':Ç}{cl:List (Str × Ç)}{s₀:Æ}{H₀:Hp}{k:Nat}{pm ctv cls:Ä}{params:Î0}{body:Ï}{vs:List V}
theorem m61{RR:Hp->Prop}(hf:FnL P w H₀ s₀ f (kla_fn "<lambda>" qual params body scope cl pm (.ref c') ctv))(hc:H₀ c'=some (.ext (recAt c' qual)))
  (hk:scope.kind=.function) (hco:scope.isCoroutine=false) (hgen:scope.isGenerator=false) (hcell:∀ x∈scope.names,x.2≠.cell)
  (hb:bindArgs (kla_fn "<lambda>" qual params body scope cl pm (.ref c') ctv) ⟨[],[]⟩=pure []) (FR:m41 scope cl N vs H₀ s₀.heap)
  (hbody:∀ (A:ö) (outer:List Env) (s:Æ) (H:Hp),z90 k (A.deeper (envX qual scope s.heap.objs.size f (.ref c') cl))->a30 H₀ H ->
   ∃ t,PE (R80 P w K mg base N qual scope f (.ref c') cl A outer s H λc _ H'=>c=cls/\RR H') body t/\t (vs.map some) H λ_ _=>False) :
  R90 P w K mg base (k + 1) f H₀ s₀ cls RR:=by
 refine⟨⟨_,hf⟩,λA outer s H hr e0 un sm=>?_⟩;obtain⟨c0,d0,sl,hof⟩:=hf outer s H un sm e0.hok;have hrec:s.heap.CodeRec (.ref c') qual:=(e0.hok c' _ (sm _ _ hc)).1;have lim:s.heap.NoLimit:=e0.mod.nolimit.keeps λb o e=>(e0.bs b o e).1;refine PySem.W.kla_callFunE hr.depth hof rfl hco hgen rfl hrec ?_;rw[hb];refine Å (wpAny_newFunctionEnv hcell (λy hy=>absurd hy (by simp)) (λh₁ hns hsb=>⟨lim.fresh _ hsb,?_⟩) hk)
 show Î2 _ _ (.expr body (envX qual scope s.heap.objs.size f (.ref c') cl)) _ _;have hkeep1:∀ b o,s.heap.get? b=some o->h₁.get? b=some o:=λb o e=>hsb.extBut b o (Ø (à e)) (Ã _ e);obtain⟨t,ht,hq⟩:=hbody A outer s H (hr.deeper _) sm;have I:Inv (R80 P w K mg base N qual scope f (.ref c') cl A outer s H λc _ H'=>c=cls/\RR H') [] (vs.map some) H { s with heap:=h₁,toks:=s.toks + 0 }:=b32 e0 hr.hd hk (FR.later un) hns hkeep1;refine PySem.W.kla_codeExpr (Â1 (ht [] _ _ H _ I hq) (λv s' hv=>?_) λe s' he=>he);obtain⟨_,_,_,_,z⟩:=hv;exact z.elim
end
def F22(X:Cx)(P:Ç)(qual:Str)(N:List Str)(lsc:ý)(body:Ï)(k:Nat)(cls:Ä)(RR:Hp->Hp->Prop)(sp:Æ->Sp):TE:=λσ H Q=>Tab H P qual/\∃ vs:List V,vs.length=N.length /\
 (∀ (i:Nat) (x:Str) (v:V),N[i]?=some x->vs[i]?=some v->∃ j:Nat,X.N[j]?=some x/\σ[j]?=some (some v)) /\
 ∀ H2,L10 P H H2->Tab H2 P qual ->
  (∀ (f c':Ç) (cl:List (Str × Ç)) (A:ö) (outer:List Env) (s:Æ) (H3:Hp),z90 k (A.deeper (envX qual lsc s.heap.objs.size f (.ref c') cl))->a30 H2 H3 ->
   ∃ t,PE (R80 X.prog X.w X.K X.mg X.base N qual lsc f (.ref c') cl A outer s H3 λc _ H'=>c=cls/\RR H2 H') body t/\t (vs.map some) H3 λ_ _=>False) /\
  ∀ (s2:Æ) (f:Ç),R90 X.prog X.w X.K X.mg X.base (k + 1) f H2 s2 cls (RR H2)->sp s2 [.ref f] H2 Q λ_ _ _=>False
section
variable {X:Cx}{c P f:Ç}{fd:Å2}{qual g par:Str}{N:List Str}{params:Î0}{body:Ï}{lsc:ý}{lpos p pos:Pos}{k kr:Nat}{cls:Ä}{sp:Æ->Sp}
theorem Z40{RR:Hp->Hp->Prop}(F:m31 X.prog X.w X.K X.mg X.base CX0 kr f fd [par] sp)(hr:z90 kr X.A)(hg:Gl X g)(hm:X.mg g=some (.ref f))(hk:Ó6 X.K (.ref f)=true)(hb:Binds X.K fd [par] [])
  (hcode:X.env.code=.ref c) (hhd:Ä9 X.K c P=true) (hqu:X.env.qual++"<lambda>"=qual)
  (hbm:∃ bm ob,X.mg "__builtins__"=some (.ref bm)/\bm≠Í6/\X.base.get? bm=some ob/\ob.cls=.type "module"/\ob.dict=some Í6/\ob.data=.plain)
  (hfr:∀ y∈lsc.names,y.2=.free->X.env.kindOf y.1=some .cell) (hnc:∀ y∈lsc.names,y.2≠.cell) (hNf:∀ x∈N,lsc.names.lookup x=some .free)
  (lk:lsc.kind=.function) (lco:lsc.isCoroutine=false) (lge:lsc.isGenerator=false) (hdef:defaultsOf params X.env=([],[]))
  (hbd:∀ (cl:List (Str × Ç)) (pm ctv:Ä) (c':Ç),bindArgs (kla_fn "<lambda>" qual params body lsc cl pm (.ref c') ctv) ⟨[],[]⟩=pure [])
  (hdb:(g == ("__debug__":Str))=false:=by decide) (he:þ [.Lambda params body lsc lpos] X.env=[(false,eval (.Lambda params body lsc lpos) X.env)]:=by rfl) :
  PE X (.Call (.Name g p) [.Lambda params body lsc lpos] [] pos) (F22 X P qual N lsc body k cls RR sp):=by
 intro pins s σ H Q I h;obtain⟨TB,vs,hlen,hvs,q⟩:=h;refine Ë8 (I90 I hg hm ?_ hdb);refine callWith_K (h₀:=X.base) I.ok.mod.kin hk ?_ he rfl;rw[he];refine Ö8 (L61 I hdef hcode hhd TB hqu hbm (λy hy hf=>I.ok.has y.1 (.inl (hfr y hy hf))) λcl f' c' pm ctv h2 tk H2 cl1 cl2 I2 TB2 KB ho nf hc _=>?_);have FR:m41 lsc cl N vs H2 h2:=by
  refine⟨λx y c e1 e2=>I2.ok.inj x y c (cl1 x c e1) (cl1 y c e2),λx hx=>?_,λx c e=>I2.cell x c (cl1 x c e),λx c e=>I2.freeC x c (cl1 x c e),λi x v h1 h2=>?_,hlen⟩
  ·rcases hx with hx | hx
   ·exact absurd rfl (hnc _ (Â4 hx))
   ·exact cl2 _ (Â4 hx) rfl
  ·have hf:=hNf x (î h1);have mem:=Â4 hf;have kc:X.env.kindOf x=some .cell:=hfr _ mem rfl;obtain⟨j,e1,e2⟩:=hvs i x v h1 h2;obtain⟨m,_,hl⟩:=I2.loc;obtain⟨u,r,l⟩:=hl j x v e1 e2 (Ù7 (Ò4 kc));obtain⟨c2,ec2⟩:=cl2 _ mem rfl;refine⟨hf,c2,u,ec2,r,?_⟩;rcases l with ⟨kl,_⟩ | ⟨_,c3,ec3,z⟩
   ·rw[kc] at kl;cases kl
   ·have:=cl1 _ _ ec2;rw[ec3] at this;cases this;exact z
 obtain⟨q1,q2⟩:=q H2 KB TB2;have th:R90 X.prog X.w X.K X.mg X.base (k + 1) f' H2 { s with heap:=h2,toks:=tk } cls (RR H2):=m61 (s₀:={ s with heap:=h2,toks:=tk }) (.new ho nf) hc lk lco lge hnc (hbd cl pm ctv c') FR λA outer s H3 hr sm=>q1 f' c' cl A outer s H3 hr sm;refine Ð4 ⟨I2.kIn,?_⟩;have hsp:=q2 { s with heap:=h2,toks:=tk } f' th;refine Õ8 (È1 (F.run X.A X.stack { s with heap:=h2,toks:=tk } H2 ⟨[.ref f'],[]⟩ [.ref f'] [.ref f'] Q _ hr I2.D22 (hb _ [.ref f'] I2.kIn rfl) (.cons rfl .nil) hsp) λr s' hq=>?_);cases r with
 |error e=>exact À2 hq
 |ok fl =>
  cases fl with
  |ret u=>exact I2.after hq|next=>exact À2 hq
  |brk=>exact À2 hq|cont=>exact À2 hq
end
abbrev A02:List Str:=["_law_call","_law_error","_law_marks"]
abbrev p62:Scope:={ kind:=.function,names:=[(".0",.local),("_law_k",.local),("_law_marks",.free)],isGenerator:=false,isCoroutine:=false,more:=[] }
abbrev u00:Scope:={ kind:=.function,names:=[("_law_call",.local),("_law_error",.local),("e",.local),("_law_marks",.cell),("ChanceError",.globalImplicit),("isinstance",.globalImplicit),("NoWeb",.globalImplicit),("NoLot",.globalImplicit),("NoPlaces",.globalImplicit),("NoPlace",.globalImplicit),("NoTie",.globalImplicit),("NoChance",.globalImplicit),("NoChances",.globalImplicit),("NoPaper",.globalImplicit),("TooMany",.globalImplicit),("NoText",.globalImplicit),("NoLine",.globalImplicit),("NoDeed",.globalImplicit),("ValueError",.globalImplicit),("range",.globalImplicit)],isGenerator:=false,isCoroutine:=false,more:=[("fast",.str "_law_call"),("fast",.str "_law_error"),("fast",.str "e"),("fast",.str "_law_marks"),("fast",.str "_law_k")] }
def Z50(n:Nat):List Stmt:=[.Assign [(.Name "_law_error" ⟨n,4,n,14⟩)] (.Constant .none 0 ⟨n,17,n,21⟩) ⟨n,4,n,21⟩,
   .Try [.Expr (.Call (.Name "_law_call" ⟨n + 2,8,n + 2,17⟩) [] [] ⟨n + 2,8,n + 2,19⟩) ⟨n + 2,8,n + 2,19⟩] [.ExceptHandler (some (.Name "ChanceError" ⟨n + 3,11,n + 3,22⟩)) (some "e") [.Assign [(.Name "_law_error" ⟨n + 4,8,n + 4,18⟩)] (.Name "e" ⟨n + 4,21,n + 4,22⟩) ⟨n + 4,8,n + 4,22⟩] ⟨n + 3,4,n + 4,22⟩] [] [] ⟨n + 1,4,n + 4,22⟩,
   .Assign [(.Name "_law_marks" ⟨n + 5,4,n + 5,14⟩)] (.List [(.Call (.Name "isinstance" ⟨n + 5,18,n + 5,28⟩) [(.Name "_law_error" ⟨n + 5,29,n + 5,39⟩),(.Name "NoWeb" ⟨n + 5,41,n + 5,46⟩)] [] ⟨n + 5,18,n + 5,47⟩),(.Call (.Name "isinstance" ⟨n + 5,49,n + 5,59⟩) [(.Name "_law_error" ⟨n + 5,60,n + 5,70⟩),(.Name "NoLot" ⟨n + 5,72,n + 5,77⟩)] [] ⟨n + 5,49,n + 5,78⟩),(.Call (.Name "isinstance" ⟨n + 5,80,n + 5,90⟩) [(.Name "_law_error" ⟨n + 5,91,n + 5,101⟩),(.Name "NoPlaces" ⟨n + 5,103,n + 5,111⟩)] [] ⟨n + 5,80,n + 5,112⟩)] ⟨n + 5,17,n + 5,113⟩) ⟨n + 5,4,n + 5,113⟩,
   .Assign [(.Name "_law_marks" ⟨n + 6,4,n + 6,14⟩)] (.BinOp (.Name "_law_marks" ⟨n + 6,17,n + 6,27⟩) .Add (.List [(.Call (.Name "isinstance" ⟨n + 6,31,n + 6,41⟩) [(.Name "_law_error" ⟨n + 6,42,n + 6,52⟩),(.Name "NoPlace" ⟨n + 6,54,n + 6,61⟩)] [] ⟨n + 6,31,n + 6,62⟩),(.Call (.Name "isinstance" ⟨n + 6,64,n + 6,74⟩) [(.Name "_law_error" ⟨n + 6,75,n + 6,85⟩),(.Name "NoTie" ⟨n + 6,87,n + 6,92⟩)] [] ⟨n + 6,64,n + 6,93⟩),(.Call (.Name "isinstance" ⟨n + 6,95,n + 6,105⟩) [(.Name "_law_error" ⟨n + 6,106,n + 6,116⟩),(.Name "NoChance" ⟨n + 6,118,n + 6,126⟩)] [] ⟨n + 6,95,n + 6,127⟩)] ⟨n + 6,30,n + 6,128⟩) ⟨n + 6,17,n + 6,128⟩) ⟨n + 6,4,n + 6,128⟩,
   .Assign [(.Name "_law_marks" ⟨n + 7,4,n + 7,14⟩)] (.BinOp (.Name "_law_marks" ⟨n + 7,17,n + 7,27⟩) .Add (.List [(.Call (.Name "isinstance" ⟨n + 7,31,n + 7,41⟩) [(.Name "_law_error" ⟨n + 7,42,n + 7,52⟩),(.Name "NoChances" ⟨n + 7,54,n + 7,63⟩)] [] ⟨n + 7,31,n + 7,64⟩),(.Call (.Name "isinstance" ⟨n + 7,66,n + 7,76⟩) [(.Name "_law_error" ⟨n + 7,77,n + 7,87⟩),(.Name "NoPaper" ⟨n + 7,89,n + 7,96⟩)] [] ⟨n + 7,66,n + 7,97⟩),(.Call (.Name "isinstance" ⟨n + 7,99,n + 7,109⟩) [(.Name "_law_error" ⟨n + 7,110,n + 7,120⟩),(.Name "TooMany" ⟨n + 7,122,n + 7,129⟩)] [] ⟨n + 7,99,n + 7,130⟩)] ⟨n + 7,30,n + 7,131⟩) ⟨n + 7,17,n + 7,131⟩) ⟨n + 7,4,n + 7,131⟩,
   .Assign [(.Name "_law_marks" ⟨n + 8,4,n + 8,14⟩)] (.BinOp (.Name "_law_marks" ⟨n + 8,17,n + 8,27⟩) .Add (.List [(.Call (.Name "isinstance" ⟨n + 8,31,n + 8,41⟩) [(.Name "_law_error" ⟨n + 8,42,n + 8,52⟩),(.Name "NoText" ⟨n + 8,54,n + 8,60⟩)] [] ⟨n + 8,31,n + 8,61⟩),(.Call (.Name "isinstance" ⟨n + 8,63,n + 8,73⟩) [(.Name "_law_error" ⟨n + 8,74,n + 8,84⟩),(.Name "NoLine" ⟨n + 8,86,n + 8,92⟩)] [] ⟨n + 8,63,n + 8,93⟩),(.Call (.Name "isinstance" ⟨n + 8,95,n + 8,105⟩) [(.Name "_law_error" ⟨n + 8,106,n + 8,116⟩),(.Name "NoDeed" ⟨n + 8,118,n + 8,124⟩)] [] ⟨n + 8,95,n + 8,125⟩)] ⟨n + 8,30,n + 8,126⟩) ⟨n + 8,17,n + 8,126⟩) ⟨n + 8,4,n + 8,126⟩,
   .If (.UnaryOp .Not (.Call (.Name "isinstance" ⟨n + 9,11,n + 9,21⟩) [(.Name "_law_error" ⟨n + 9,22,n + 9,32⟩),(.Name "ValueError" ⟨n + 9,34,n + 9,44⟩)] [] ⟨n + 9,11,n + 9,45⟩) ⟨n + 9,7,n + 9,45⟩) [.Return (some (.Constant .none 0 ⟨n + 10,15,n + 10,19⟩)) ⟨n + 10,8,n + 10,19⟩] [] ⟨n + 9,4,n + 10,19⟩,
   .Return (some (.ListComp (.Name "_law_k" ⟨n + 11,12,n + 11,18⟩) [{ target:=(.Name "_law_k" ⟨n + 11,23,n + 11,29⟩),iter:=(.Call (.Name "range" ⟨n + 11,33,n + 11,38⟩) [(.Constant (.int 12) 0 ⟨n + 11,39,n + 11,41⟩)] [] ⟨n + 11,33,n + 11,42⟩),ifs:=[(.Subscript (.Name "_law_marks" ⟨n + 11,46,n + 11,56⟩) (.Name "_law_k" ⟨n + 11,57,n + 11,63⟩) ⟨n + 11,46,n + 11,64⟩)],is_async:=0 }] p62 ⟨n + 11,11,n + 11,65⟩)) ⟨n + 11,4,n + 11,65⟩]
theorem p72:t41 p62 u00 A02 ["_law_k"] [("_law_marks",2)]=true:=by decide +kernel
theorem L71(K:Â)(hK:X.K=K:=by rfl):IxR X (D62 K):=by subst hK;exact Y40
abbrev names12:List Str:=["NoWeb","NoLot","NoPlaces","NoPlace","NoTie","NoChance","NoChances","NoPaper","TooMany","NoText","NoLine","NoDeed"]
structure S00(K:PySem.W.Frag)(mg:Str->Option Value)(C:Addr)(j:Nat):Prop where
 cl:∀ (i:Nat) (x:Str),names12[i]?=some x->∃ Ci,mg x=some (.ref Ci)/\PySem.W.kitOne K (.ref C) (.ref Ci)=some (decide (i=j))
 lk:i20 K C
 hd:PySem.W.hasDictIn K C=true
 ve:PySem.W.kitOne K (.ref C) (.type "ValueError")=some true
 nv:mg "ValueError"=none
 ce:∃ D,mg "ChanceError"=some (.ref D)/\PySem.W.exmOne K (.ref C) (.ref D)=some true
 lt:j < 12
theorem S10:ï "ValueError"=some (.type "ValueError"):=by decide +kernel
theorem L20:ï "isinstance"=some (.builtin "isinstance"):=by decide +kernel
def b42(P:Ý)(w:è)(K:Â)(mg:Str->Option Ä)(base:é)(k:Nat):Æ->Sp:=λs vs H Q _=>∃ (f C:Ç) (j:Nat) (RR:Hp->Prop),vs=[.ref f]/\R90 P w K mg base k f H s (.ref C) RR/\S00 K mg C j/\∀ l H1 H',RR H1->a30 H1 H'->H' l=none->Q (.ref l) (upd H' l (.lst [.int j]))
abbrev C20(j:Nat):List V:=[V.bl (decide (0=j)),.bl (decide (1=j)),.bl (decide (2=j))]++[.bl (decide (3=j)),.bl (decide (4=j)),.bl (decide (5=j))]++[.bl (decide (6=j)),.bl (decide (7=j)),.bl (decide (8=j))]++[.bl (decide (9=j)),.bl (decide (10=j)),.bl (decide (11=j))]
theorem L81{i j:Nat}(h:i < 12):atI (C20 j) (0 + (i:Int))=some (.bl (decide (i=j))):=by
 rw[Ô0];refine B40 ?_;rw[show C20 j=(ë 12).map λi=>V.bl (decide (i=j)) from rfl,Ü,É6 h];rfl
section
variable {P:Ý}{w:è}{K:Â}{mg:Str->Option Ä}{base:é}
theorem scR:k20 A02 ["_law_call"] u00:=⟨rfl,rfl,rfl,by decide +kernel,rfl,by decide +kernel,by decide +kernel⟩
theorem ndR:(d60 ["_law_k"] [("_law_marks",2)]).Nodup:=by decide +kernel
def tIs(K:Â)(c:V)(cv:Ä):TE:=λσ H Q=>∃ (a C:Ç) (b:Bool),σ[1]?=some (some (.ref a))/\p22 H a C/\i20 K C/\PySem.W.hasDictIn K C=true/\Í7 K (.ref C) cv=some b/\Q (.bl b) H
def T92(K:Â)(c0 c1 c2:Ç):TE:=λσ H Q=>∃ (a C:Ç) (b0 b1 b2:Bool),σ[1]?=some (some (.ref a))/\p22 H a C/\i20 K C/\PySem.W.hasDictIn K C=true/\Í7 K (.ref C) (.ref c0)=some b0/\Í7 K (.ref C) (.ref c1)=some b1/\Í7 K (.ref C) (.ref c2)=some b2/\∀ l,H l=none->Q (.ref l) (upd H l (.lst [.bl b0,.bl b1,.bl b2]))
section
variable {X:Cx}{c0 c1 c2:Ç}{x x0 x1 x2:Str}{p p0 p1 p2 p3 q0 q1 q2 q3 r0 r1 r2 r3:Pos}
theorem L91(hN:X.N[1]?=some ("_law_error":Str))(hv:Vis X.env.scope "_law_error")(hi:Gl X "isinstance")(Ti:X.mg "isinstance"=none)(hc:PE X (.Name x p2) (tC c))(hcv:(∃ C,c=.ref C/\cv=.ref C)∨∃ T,c=.ty T/\cv=.type T):PE X (.Call (.Name "isinstance" p0) [.Name "_law_error" p1,.Name x p2] [] p3) (tIs X.K c cv) :=
 λpins s σ H Q I q=>by
  obtain⟨a,C,b,e,h1,h2,h3,h4,h5⟩:=q;have g:=t50 (p:=p0) (pos:=p3) m21 hi Ti L20 (e90 (t20 (i:=1) (pos:=p1) hN hv) (e90 hc t40));exact g pins s σ H Q I ⟨_,e,a,C,_,_,b,rfl,hcv,h1,h2,h3,h4,h5⟩
theorem f01(hN:X.N[1]?=some ("_law_error":Str))(hv:Vis X.env.scope "_law_error")(hi:Gl X "isinstance")(Ti:X.mg "isinstance"=none)(g0:PE X (.Name x0 p2) (tC (.ref c0)))(g1:PE X (.Name x1 q2) (tC (.ref c1)))(g2:PE X (.Name x2 r2) (tC (.ref c2))) :
  PE X (.List [.Call (.Name "isinstance" p0) [.Name "_law_error" p1,.Name x0 p2] [] p3,.Call (.Name "isinstance" q0) [.Name "_law_error" q1,.Name x1 q2] [] q3,.Call (.Name "isinstance" r0) [.Name "_law_error" r1,.Name x2 r2] [] r3] p) (T92 X.K c0 c1 c2) :=
 λpins s σ H Q I q=>by
  obtain⟨a,C,b0,b1,b2,e,h1,h2,h3,k0,k1,k2,h5⟩:=q;exact S71 (e90 (L91 hN hv hi Ti g0 (.inl ⟨c0,rfl,rfl⟩)) (e90 (L91 hN hv hi Ti g1 (.inl ⟨c1,rfl,rfl⟩)) (e90 (L91 hN hv hi Ti g2 (.inl ⟨c2,rfl,rfl⟩)) t40))) pins s σ H Q I
   ⟨a,C,b0,e,h1,h2,h3,k0,a,C,b1,e,h1,h2,h3,k1,a,C,b2,e,h1,h2,h3,k2,C00 (by show 3<=64;decide),h5⟩
end
theorem p82{st:Ä8}{f:Ç}{fd:Å2}{k n:Nat}(F:Fun K "_law_refused" "_law_refused" st f fd)(es:c00 st=u00)(eb:i10 st=Z50 n)(Ti:mg "isinstance"=none)(Tr:mg "range"=none):m31 P w K mg base CX0 (k + 1) f fd ["_law_call"] (b42 P w K mg base k):=by
 refine F.okS (by rw[es];exact scR) (λs vs H Q E h=>?_) (λcdv A outer s H vs Q E hr h=>?_)
 ·obtain⟨f,C,j,RR,rfl,_⟩:=h;rfl
 ·obtain⟨g,C,j,RR,rfl,th,R,q⟩:=h;have hsc:=p72;rw[es] at hr;rw[es,eb];unfold Z50;clear eb;obtain⟨c0,m0,k0⟩:=R.cl 0 _ rfl;obtain⟨c1,m1,k1⟩:=R.cl 1 _ rfl;obtain⟨c2,m2,k2⟩:=R.cl 2 _ rfl;obtain⟨c3,m3,k3⟩:=R.cl 3 _ rfl;obtain⟨c4,m4,k4⟩:=R.cl 4 _ rfl;obtain⟨c5,m5,k5⟩:=R.cl 5 _ rfl;obtain⟨c6,m6,k6⟩:=R.cl 6 _ rfl;obtain⟨c7,m7,k7⟩:=R.cl 7 _ rfl;obtain⟨c8,m8,k8⟩:=R.cl 8 _ rfl;obtain⟨c9,m9,k9⟩:=R.cl 9 _ rfl;obtain⟨c10,m10,k10⟩:=R.cl 10 _ rfl;obtain⟨c11,m11,k11⟩:=R.cl 11 _ rfl;obtain⟨D,mD,kD⟩:=R.ce;refine⟨_,j40 (x60 (i:=1) scR.nd rfl (Ò4 rfl) p91)
   (j40 (u41 (i:=0) (j:=1) (f:=g) (C:=C) (D:=D) (k:=k) rfl rfl rfl hr th rfl (Ò4 rfl) (-0) (-0) rfl mD (-0) kD rfl (by show ¬ (("e":Str)∈A02);decide +kernel) (-0) scR.nd rfl (Ò4 rfl) rfl)
   (j40 (x60 (i:=2) scR.nd rfl (Ù7 rfl) (f01 rfl (Ò4 rfl) rfl Ti (f90 rfl m0 rfl) (f90 rfl m1 rfl) (f90 rfl m2 rfl)))
   (j40 (x60 (i:=2) scR.nd rfl (Ù7 rfl) (H81 r51 (pv 2) (f01 rfl (Ò4 rfl) rfl Ti (f90 rfl m3 rfl) (f90 rfl m4 rfl) (f90 rfl m5 rfl))))
   (j40 (x60 (i:=2) scR.nd rfl (Ù7 rfl) (H81 r51 (pv 2) (f01 rfl (Ò4 rfl) rfl Ti (f90 rfl m6 rfl) (f90 rfl m7 rfl) (f90 rfl m8 rfl))))
   (j40 (x60 (i:=2) scR.nd rfl (Ù7 rfl) (H81 r51 (pv 2) (f01 rfl (Ò4 rfl) rfl Ti (f90 rfl m9 rfl) (f90 rfl m10 rfl) (f90 rfl m11 rfl))))
   (j40 (l72 (S11 (q01 (L91 (cv:=.type "ValueError") rfl (Ò4 rfl) rfl Ti (J00 (v:=.ty "ValueError") rfl R.nv S10 rfl) (.inr ⟨_,rfl,rfl⟩)))) (q21 (d81 p91)) q11)
   (q21 (d81 (s11 (own:=["_law_k"]) (capt:=[("_law_marks",2)]) rfl (by exact q70.of (scX:=u00) (N:=A02) rfl rfl hsc) (P80 rfl Tr (e90 P60 t40))
    (λcl C s H fp=>q41 (i:=0) ndR rfl (Ò4 rfl)) (λcl C s H fp=>r91 (q01 (Y61 (L71 K) (pv 1) (pv 0) (λ_ _=>rfl)))) (λcl C s H fp=>pv 0)))))))))),?_⟩
  refine⟨rfl,a30.refl H,λa H1 s1 na=>?_⟩;have hX:p22 (upd H1 a (.ext (excAt a C))) a C:=b20;have keep:∀ {H'},a30 (upd H1 a (.ext (excAt a C))) H'->p22 H' a C:=λsm=>sm _ _ hX;refine⟨a,C,_,_,_,rfl,hX,R.lk,R.hd,k0,k1,k2,λl1 hl1=>?_⟩;have t1:=a30.new (.lst [.bl (decide (0=j)),.bl (decide (1=j)),.bl (decide (2=j))]) hl1;refine⟨_,rfl,a,C,_,_,_,rfl,keep t1,R.lk,R.hd,k3,k4,k5,λl2 hl2=>?_⟩;have t2:=a30.new (.lst [.bl (decide (3=j)),.bl (decide (4=j)),.bl (decide (5=j))]) hl2;refine⟨l1,l2,_,_,rfl,rfl,t2 _ _ b20,b20,C00 (by show 3 + 3<=64;decide),λl3 hl3=>?_⟩
  have t3:=t1.trans (t2.trans (a30.new (.lst ([.bl (decide (0=j)),.bl (decide (1=j)),.bl (decide (2=j))]++[.bl (decide (3=j)),.bl (decide (4=j)),.bl (decide (5=j))])) hl3));refine⟨_,rfl,a,C,_,_,_,rfl,keep t3,R.lk,R.hd,k6,k7,k8,λl4 hl4=>?_⟩;have t4:=a30.new (.lst [.bl (decide (6=j)),.bl (decide (7=j)),.bl (decide (8=j))]) hl4;refine⟨l3,l4,_,_,rfl,rfl,t4 _ _ b20,b20,C00 (by show 6 + 3<=64;decide),λl5 hl5=>?_⟩
  have t5:=t3.trans (t4.trans (a30.new (.lst ([.bl (decide (0=j)),.bl (decide (1=j)),.bl (decide (2=j))]++[.bl (decide (3=j)),.bl (decide (4=j)),.bl (decide (5=j))]++[.bl (decide (6=j)),.bl (decide (7=j)),.bl (decide (8=j))])) hl5));refine⟨_,rfl,a,C,_,_,_,rfl,keep t5,R.lk,R.hd,k9,k10,k11,λl6 hl6=>?_⟩;have t6:=a30.new (.lst [.bl (decide (9=j)),.bl (decide (10=j)),.bl (decide (11=j))]) hl6;refine⟨l5,l6,_,_,rfl,rfl,t6 _ _ b20,b20,C00 (by show 9 + 3<=64;decide),λl7 hl7=>?_⟩
  have t7:=t5.trans (t6.trans (a30.new (.lst (C20 j)) hl7));refine⟨a,C,_,rfl,keep t7,R.lk,R.hd,R.ve,_,rfl,R52 ?_⟩;refine⟨12,rfl,by decide,by decide,K71 (lo:=0) (n:=12) (λi ys H'=>a30 (upd H1 a (.ext (excAt a C))) H'/\H' l7=some (.lst (C20 j))/\ys=if j < i then [.int j] else []) (C00 (-0)) ⟨t7,b20,by rw[if_neg ∅]⟩ (λi ys H' p=>by rw[p.2.2];split <;> simp <;> omega) ?_ ?_⟩
  ·rintro i ys H' hi ⟨s8,h8,rfl⟩;refine gN ?_;refine⟨_,rfl,_,rfl,l7,C20 j,0 + (i:Int),.bl (decide (i=j)),rfl,rfl,SqL.of h8,L81 hi,_,rfl,?_⟩;refine R62 (λe=>?_) (λe=>?_)
   ·have ej:i=j:=of_decide_eq_true e;subst ej;refine⟨_,rfl,s8,h8,?_⟩;rw[if_neg ∅,if_pos ∅,Ô0];rfl
   ·have ej:¬ i=j:=λz=>e (decide_eq_true z);refine⟨s8,h8,?_⟩;by_cases hj:j < i
    ·rw[if_pos hj,if_pos ∅]
    ·rw[if_neg hj,if_neg ∅]
  ·rintro ys H' p ⟨s8,_,rfl⟩ hp;rw[if_pos R.lt];exact q p H1 H' s1 ((a30.new _ na).trans s8) hp
end
end L2
namespace SS
open PySem
def bts(m:Nat):List Nat:=(ë 8).filter λi=>m.testBit i
def add(m v:Nat):Nat:=m ||| 2 ^ v
def tbl(led:Bool)(m:Nat):SetTable:=if (bts m).length < 5 then⟨7,(bts m).toArray,#[],0,led,0,true⟩ else⟨31,(bts m).toArray,#[],0,led,1,true⟩
def p31(led:Bool)(m v:Nat):SetTable:={ tbl led m with place:=(bts (add m v)).toArray }
def pos(m v:Nat):Nat:=((bts m).filter (· < v)).length
def hs(m:Nat):Array Int:=((bts m).map Int.ofNat).toArray
def full(led:Bool)(m v:Nat):Bool:=if (p31 led m v).tooFull then decide ((p31 led m v).relaid (hs (add m v)) (Î8.grown ((bts m).length + 1))=some (tbl led (add m v),(ë ((bts m).length + 1)).toArray)) else decide (p31 led m v=tbl led (add m v))
def chk(led:Bool)(m v:Nat):Bool:=if m.testBit v then decide (add m v=m) else decide (add m v < 256)&&decide ((tbl led m).freeSlot (v:Int)=some (v,false))&&decide ((tbl led m).put v=(p31 led m v,pos m v))&&(p31 led m v).fits ((bts m).length + 1) &&
 decide ((bts m).take (pos m v)++v::(bts m).drop (pos m v)=bts (add m v))&&decide ((bts (add m v)).length=(bts m).length + 1)&&(tbl led (add m v)).fits ((bts m).length + 1)&&full led m v
theorem b52:([true,false].all λled=>(ë 256).all λm=>(tbl led m).fits (bts m).length&&(ë 8).all λv=>chk led m v)=true:=by decide +kernel
theorem C30(led:Bool)(hm:m < 256):(tbl led m).fits (bts m).length=true/\∀ v,v < 8->chk led m v=true:=by
 have h:=Õ.mp (Õ.mp b52 led (by cases led <;> simp)) m (Ä3.mpr hm)
 rw[Á] at h;exact⟨h.1,λv hv=>Õ.mp h.2 v (Ä3.mpr hv)⟩
theorem C40:i∈bts m↔i < 8/\m.testBit i=true:=by unfold bts;rw[mem_filter,mem_range]
abbrev led(w:è):Bool:=!(w.params.followText "set-order")
def ent(g:Nat->Tok)(m:Nat):Array (Int × Ä):=((bts m).map λ(i:Nat)=>((i:Int),Æ3 i (g i))).toArray
def z30(w:è)(h:é)(a:Ç)(m:Nat):Prop:=∃ o ep g,h.get? a=some o/\o.ExactSet/\o.data=.set (ent g m) ep (tbl (led w) m)
theorem d80(g:Nat->Tok)(m:Nat):(ent g m).size=(bts m).length:=by unfold ent;simp
theorem b62(g:Nat->Tok)(u:Tok)(hv:m.testBit v=false)(h:(bts m).take (pos m v)++v::(bts m).drop (pos m v)=bts (add m v)):Î8.insertAt (ent g m) (pos m v) ((v:Int),Æ3 v u)=ent (λi=>if i=v then u else g i) (add m v):=by
 have hne:∀ i∈bts m,i≠v:=λi hi e=>by subst e;rw[(C40.mp hi).2] at hv;cases hv
 have e1:(bts m).map (λ(i:Nat)=>((i:Int),Æ3 i (g i)))=(bts m).map λ(i:Nat)=>((i:Int),Æ3 i (if i=v then u else g i)):=Å8 λi hi=>by rw[if_neg (hne i hi)]
 unfold ent;rw[← h,e1];apply Û0.mp;unfold Î8.insertAt;simp;exact Ë4 (by simp)
theorem M01(g:Nat->Tok)(m:Nat):(ent g m).map (·.1)=hs m:=by
 unfold ent hs;rw[map_toArray,ó];rfl
theorem M11{α:Type}(xs:Array α):((ë xs.size).toArray).filterMap (xs[·]?)=xs:=by
 apply Û0.mp;rw[Array.toList_filterMap];exact PySem.W.krv_all xs
section
variable {P:Ý}{w:è}{A:ö}{E:Ä->Æ->Prop}{s:Æ}{a:Ç}{m:Nat}
theorem G70{v:Nat}(h:v < 8):(Ù4 P w).hash (v:Int)=v:=by
 have:∀ v:Nat,v < 8->hashInt (v:Int)=v:=by decide
 exact this v h
theorem elems(g:Nat->Tok)(m:Nat):ElemsOf (Ù4 P w) (ent g m).toList:=λe he=>by
 unfold ent at he;obtain⟨i,hi,rfl⟩:=Ù.mp he;exact⟨⟨i,Ü0 _ _ _ _,(G70 (C40.mp hi).1).symm⟩,rfl⟩
theorem F32(g:Nat->Tok){v:Nat}(u:Tok){led:Bool}(hm:m < 256)(hv:v < 8)(hb:m.testBit v=false):layNew (tbl led m) (ent g m) (v:Int) (.int v u)=(ent (λi=>if i=v then u else g i) (add m v),p31 led m v,false,false):=by
 have h:=(C30 led hm).2 v hv;unfold chk at h;rw[hb,if_neg Ð] at h;simp only[Á,decide_eq_true_eq] at h;obtain⟨⟨⟨⟨⟨⟨⟨_,h1⟩,h2⟩,h3⟩,h4⟩,h5⟩,_⟩,_⟩:=h;unfold layNew;rw[h1];dsimp only;rw[h2];dsimp only;rw[b62 g u hb h4,d80,h5];unfold Î8.orStandIn;rw[h3];rfl
theorem b72(g:Nat->Tok){v:Nat}{led:Bool}(hm:m < 256)(hv:v < 8)(hb:m.testBit v=false)(ht:(p31 led m v).tooFull=true):relayAll (p31 led m v) (ent g (add m v)) (Î8.grown (ent g (add m v)).size)=(ent g (add m v),tbl led (add m v),false):=by
 have h:=(C30 led hm).2 v hv;unfold chk at h;rw[hb,if_neg Ð] at h;simp only[Á,decide_eq_true_eq] at h;obtain⟨⟨⟨⟨⟨⟨⟨_,_⟩,_⟩,_⟩,_⟩,h5⟩,h6⟩,h7⟩:=h;unfold full at h7;rw[if_pos ht,decide_eq_true_eq] at h7;unfold relayAll;rw[M01,d80,h5,h7];dsimp only;have e:((ë ((bts m).length + 1)).toArray).filterMap ((ent g (add m v))[·]?)=ent g (add m v):=by
  have:=M11 (ent g (add m v));rw[d80,h5] at this;exact this
 rw[e,d80,h5,h6];have c:coversAll (ë ((bts m).length + 1)).toArray ((bts m).length + 1)=true:=by
  unfold coversAll;rw[List.isPerm_iff]
 rw[c];rfl
theorem T41(hm:m < 256)(hv:v < 8):add m v < 256:=by
 have h:=(C30 true hm).2 v hv;unfold chk at h;cases hb:m.testBit v with
 |true=>rw[hb,if_pos rfl,decide_eq_true_eq] at h;rw[h];exact hm
 |false =>
  rw[hb,if_neg Ð] at h;simp only[Á,decide_eq_true_eq] at h;exact h.1.1.1.1.1.1.1
theorem add_same(hm:m < 256)(hv:v < 8)(hb:m.testBit v=true):add m v=m:=by
 have h:=(C30 true hm).2 v hv;unfold chk at h;rw[hb,if_pos rfl,decide_eq_true_eq] at h;exact h
theorem p92{v:Nat}(hm:m < 256)(hv:v < 8)(hS:z30 w s.heap a m)(h:∀ b h',Ë7 a s.heap h'->z30 w h' a (add m v)->Q b { s with heap:=h' }) :
  Î (Ô P w) A (setAddHashed a (.int v u) ((Ù4 P w).hash v)) Q E s:=by
 obtain⟨o,ep,g,ho,hex,hd⟩:=hS;have hf:(tbl (led w) m).fits (ent g m).size=true:=by rw[d80];exact(C30 _ hm).1
 have hsz:(bts m).length<=8:=Ñ (Å3 _ _) (by simp)
 have hb:(ent g m).size < scanBound:=by rw[d80];unfold scanBound;omega
 have hel:=elems (P:=P) (w:=w) g m;unfold setAddHashed setAddHashedIn;refine À7 (À (Ó1 ho hd hf ?_));dsimp only;rw[byScan_of (knd:=Ù4 P w) rfl hb hel];simp only[↓reduceIte];unfold setAddByScan;refine À ?_;refine À (É7 ?_);refine À (wpAny_setScan_of (Ü0 _ _ _ _) ho hd hf hel ?_);cases hr:List.findIdx? (λe=>(Ù4 P w).is (v:Int) e.2) (ent g m).toList with
 |some j =>
  dsimp only;obtain⟨hj,hpj,_⟩:=List.findIdx?_eq_some_iff_getElem.mp hr;have hmem:(ent g m).toList[j]∈(ent g m).toList:=È9 hj;unfold ent at hmem;obtain⟨i,hi,e⟩:=Ù.mp hmem;rw[show(ent g m).toList[j]=((i:Int),Æ3 i (g i)) from e.symm] at hpj;have hiv:i=v:=by
   have:=(Ù4 P w).inj _ _ _ hpj (Ü0 P w i (g i));omega
  subst hiv;have q:=h false s.heap (Ë7.refl a s.heap) (by rw[add_same hm hv (C40.mp hi).2];exact⟨o,ep,g,ho,hex,hd⟩)
  exact Å (Å q)
 |none =>
  dsimp only;have hbt:m.testBit v=false:=by
   cases hk:m.testBit v with
   |false=>rfl
   |true =>
    have:((v:Int),Æ3 v (g v))∈(ent g m).toList:=Ù.mpr ⟨v,C40.mpr ⟨hv,hk⟩,rfl⟩;have:=List.findIdx?_eq_none_iff.mp hr _ this;rw[Ü0] at this;cases this
  rw[G70 hv,F32 g u hm hv hbt];have hgw:∀ (b:Bool) {s₁:Æ}{Q':Unit->Æ->Prop},Q' () s₁->Î (Ô P w) A (match b with | true=>rule "set.scan.the-table-gave-way" | false=>pure ()) Q' E s₁:=λb s₁ Q' hq=>by cases b <;> first | exact Å hq | exact É7 hq
  dsimp only;refine À (Å ?_);have hpl:(p31 (led w) m v).plain=true:=by unfold p31 tbl;split <;> rfl
  rw[if_pos hpl,hashByValue_scannable 8 rfl];refine À (Å ?_);simp only[plainKind,↓reduceIte];have hk:=(C30 (led w) hm).2 v hv;unfold chk at hk;rw[hbt,if_neg Ð] at hk;simp only[Á,decide_eq_true_eq] at hk;obtain⟨⟨_,h6⟩,h7⟩:=hk;have hlt:=T41 hm hv;have hsz2:(bts (add m v)).length<=8:=Ñ (Å3 _ _) (by simp)
  have hb2:∀ g,(ent g (add m v)).size<=sizeLine:=λg=>by rw[d80,Á2];omega
  have get:∀ {h0:é}{o:Obj}{es ep t} (es':Array (Int × Ä)) (t':Î8),h0.get? a=some o->o.data=.set es ep t->(h0.update a (Obj.putSet es' t')).get? a=some { o with data:=.set es' (ep + 1) t' }:=λ{h0 o es ep t} es' t' e1 e2=>by
   have:=Ç6 (Obj.putSet es' t') e1 (by rw[putSet_of es' t' e2];rfl)
   rw[putSet_of es' t' e2] at this;exact this
  refine À (wpAny_storeSet_of ho hd ?_ (hb2 _));have g1:=get (ent (λi=>if i=v then u else g i) (add m v)) (p31 (led w) m v) ho hd;have sb1:=Æ2 s.heap a (Obj.putSet (ent (λi=>if i=v then u else g i) (add m v)) (p31 (led w) m v));simp only[Bool.not_false,Å0];unfold full at h7;split
  ·rename_i ht;rw[if_pos ht] at h7;rw[b72 _ hm hv hbt ht];dsimp only;refine À (Å ?_);refine À (wpAny_storeSet_of g1 rfl ?_ (hb2 _));exact Å (Å (h _ _ (sb1.trans (Æ2 _ a _)) ⟨_,_,_,get _ _ g1 rfl,hex,rfl⟩))
  ·rename_i ht;rw[if_neg ht,decide_eq_true_eq] at h7;exact Å (Å (h _ _ sb1 ⟨_,ep + 1,_,g1,hex,congrArg _ h7⟩))
end
open PySem PySem.W PyProof.Rows
def met(val:Nat->Nat):Nat->Nat
 |0=>0|i + 1=>add (met val i) (val i)
theorem u51(h:∀ i,val i < 8):∀ i,met val i < 256
 |0=>by show(0:Nat) < 256;decide|i + 1=>T41 (u51 h i) (h i)
section
variable {P:Ý}{w:è}{A:ö}
theorem z30.keep(x:z30 w h a m)(k:∀ o,h.get? a=some o->h'.get? a=some o):z30 w h' a m:=by
 obtain⟨o,ep,g,ho,r⟩:=x;exact⟨o,ep,g,k o ho,r⟩
theorem b82{R:Result->Æ->Prop}{I:Ç}{fp wr:List Ç}{G:Array Ý7->Array Ý7->Prop}{n:Nat}{Pv:Nat->Ä->Prop}{St:Nat->Æ->Prop}(W:WalksS P w A.in1 I fp wr G n Pv St)(S:Ç)(hf:S ∉ fp){val:Nat->Nat}(hv:∀ i,val i < 8)(hp:∀ i v,Pv i v->∃ t,v=.int (val i) t) :
  ∀ (k i:Nat) (s:Æ),i + k=n->St i s->z30 w s.heap S (met val i)->(∀ s',Moved (S::wr) G s s'->z30 w s'.heap S (met val n)->R (.ok (.ret .none)) s')->Î2 (Ô P w) A (.builtin "set.update.loop" ⟨[.ref S,.ref I],[]⟩) R s:=by
 have hw:S ∉ wr:=λh=>hf (W.sub _ h);intro k
 induction k with
 |zero =>
  intro i s hk st x q;have hk:i=n:=hk;subst hk;refine Â2 F.entry_set_update_loop ?_;rw[Â6 Ô3 _];refine À (m:=Ñ3 (.ref I)) (W.done s _ _ st λs1 mv=>?_);exact Å (q s1 (mv.mono λb hb=>È _ hb) (x.keep λo=>mv.heap S o hw))
 |succ k ih =>
  intro i s hk st x q;refine Â2 F.entry_set_update_loop ?_;rw[Â6 Ô3 _];refine À (m:=Ñ3 (.ref I)) (W.item i s _ _ ∅ st λv s1 pv st1 mv=>?_)
  obtain⟨t,rfl⟩:=hp i v pv;refine À (m:=Ù5 _ (setAdd S (.int (val i) t))) (À7 ?_);unfold setAdd;refine À7 (À ((Ù4 P w).pyHash (k:=(val i:Int)) (Ü0 _ _ _ _) ?_));refine p92 (s:={ s1 with toks:=s1.toks + 1 }) (u51 hv i) (hv i) (x.keep λo=>mv.heap S o hw) λb h2 sb x2=>?_;have off:∀ c o,c≠S->s1.heap.get? c=some o->h2.get? c=some o:=λc o hc e=>(sb.2 c hc).trans e;refine Å ⟨Î1 Ô3 _,ih (i + 1) _ ∅ (W.frame _ s1 _ _ st1 (le_succ _) λc hc o e=>off c o (λz=>hf (z ▸ hc)) e) x2 λs2 mv2 x3=>?_⟩
  exact q s2 (Moved.trans W.gtrans ((mv.mono λb hb=>È _ hb).then_heap (le_succ _) λc o hc e=>off c o (λz=>hc (z ▸ Ì)) e) mv2) x3
end
section
variable {P:Ý}{w:è}{A:ö}{E:Ä->Æ->Prop}{s:Æ}
abbrev T51(w:è):Obj:={ cls:=.type "set",dict:=none,data:=.set #[] 0 (.fresh 0 0 (led w)) }
theorem b92(a:Ä)(h:Q (.ref s.heap.objs.size) { s with heap:=s.heap.push (T51 w) }):Î2 (Ô P w) A (.call (.builtin "set.__new__") ⟨[.type "set",a],[]⟩) (wants Q E) s:=by
 refine à7 ?_;refine À (m:=Õ0 _ _) (ß9 (F.newCall_set_1 a) (Å ⟨Î1 F.plain_set_new _,Â2 F.entry_set_new ?_⟩));rw[Â6 F.plain_set_new _];have hsub:=sub_set_self;obtain⟨hp,g,d,tk,os⟩:=s;unfold ÿ.«set.__new__» ÿ.Frozenset.newClass;dsimp only
 wp_walk
 refine Í5 (Å ?_);dsimp only;simp only[newObj];exact À (wpAny_alloc (Å (Å h)))
theorem c02{h:é}:z30 w (h.push (T51 w)) h.objs.size 0:=⟨_,0,λ_=>0,Ê _ rfl,⟨rfl,rfl,rfl⟩,rfl⟩
structure U02(P:Program)(w:World)(T:String)(l:Addr)(o it:Obj)(n:Nat)(Pv:Nat->Value->Prop)(St:Addr->Nat->Heap->Prop):Prop where
 ty:o.cls=.type T
 f1:isSubtype (.type T) (.type "set")=pure false
 f2:isSubtype (.type T) (.type "frozenset")=pure false
 f3:(Value.type T == Value.type "dict")=false
 iter:∀ (A:Around) (E:Value->Shared->Prop) (s:Shared) (Q:Value->Shared->Prop),s.heap.get? l=some o->Q (.ref s.heap.objs.size) { s with heap:=s.heap.push it }->wpAny (model P w) A (pyIter (.ref l)) Q E s
 walk:∀ (A:Around) (I:Addr),A.handled=none->l≠I->Walks P w A I [I,l] [I] n Pv (St I)
 zero:∀ h:Heap,h.get? l=some o->St h.objs.size 0 (h.push it)
set_option maxHeartbeats 3200000 in
theorem f11{T:String}{l:Ç}{o it:Obj}{n:Nat}{Pv:Nat->Ä->Prop}{St:Ç->Nat->é->Prop}{val:Nat->Nat}{Q:Ä->Æ->Prop}(D:U02 P w T l o it n Pv St)(hh:A.handled=none)(ho:s.heap.get? l=some o)(hv:∀ i,val i < 8)(hp:∀ i v,Pv i v->∃ t,v=.int (val i) t)
  (h:∀ (h':é) (tk:Nat),z30 w h' s.heap.objs.size (met val n)->(∀ b u,s.heap.get? b=some u->h'.get? b=some u)->Q (.ref s.heap.objs.size) { s with heap:=h',toks:=tk }):Î (Ô P w) A (call (.type "set") [.ref l]) Q E s:=by
 obtain⟨c,tl,hmro⟩:=Ê0.mro;have hmade:=Ê0.made;have hsub:=Ê0.sub;have h1:=Ê0.notType;have h2:=Ê0.canCreate;have hct:=F.typeCall_set_1 (.ref l);refine Õ8 (à7 ?_);show Î _ _ (callAny (.type "set") _) _ _ _;refine Å ⟨Ø3 _ (by decide +kernel),Â2 F.entry_type_call ?_⟩
 rw[ö.under_plain (weight_type_call_type "set" [.ref l] []) rfl]
 repeat (any_goals (first | assumption | wp_step))
 refine È1 (b92 (.ref l) (E:=E) (Q:=λv s1=>v=.ref s.heap.objs.size/\s1={ s with heap:=s.heap.push (T51 w) }) ⟨rfl,rfl⟩) λr s1 hr=>?_;cases r with
 |error e=>exact hr
 |ok fl =>
  cases fl with
  |ret v =>
   obtain⟨rfl,rfl⟩:=hr;have hT:Ý9 { s with heap:=s.heap.push (T51 w) } (.ref s.heap.objs.size) "set":=⟨_,Ê _ rfl,rfl⟩;have hli:=Ê0.init.lookup;have hbi:=Ê0.init.bind (.ref s.heap.objs.size);have lS:l < s.heap.objs.size:=à ho;have ho1:(s.heap.push (T51 w)).get? l=some o:=Ã _ ho
   repeat (any_goals (first | assumption | wp_step))
   refine È1 (Ù0 (R:=wants (λr s2=>r=.none/\∃ h' tk,s2={ s with heap:=h',toks:=tk }/\z30 w h' s.heap.objs.size (met val n)/\∀ b u,s.heap.get? b=some u->h'.get? b=some u) E) Ê0.init.plain F.entry_set_init (check_set_init_1 hT ?_)) λr2 s2 hr2=>?_
   ·have f1:=D.f1;have f2:=D.f2;have f3:=D.f3;obtain⟨ocls,odict,odata,oslots⟩:=o;have hc:ocls=.type T:=D.ty;subst hc;unfold ÿ.«set.__init__» noKeywords ÿ.Frozenset.updateFrom;generalize hPI:pyIter=PI
    wp_walk
    subst hPI;refine D.iter _ _ _ _ ho1 ?_;refine À (Ø6 ?_);have hI:(s.heap.push (T51 w)).objs.size=s.heap.objs.size + 1:=Ë2 ..;have nI:l≠(s.heap.push (T51 w)).objs.size:=by rw[hI];exact Ø (Å1 lS)
    have nS:s.heap.objs.size ∉ [(s.heap.push (T51 w)).objs.size,l]:=by
     rw[hI];simp only[Â9,À1,or_false,not_or];exact⟨Ø (Ë9 _),Ê3 lS⟩
    refine b82 ((D.walk _ _ (by simp[hh]) nI).toS) s.heap.objs.size nS hv hp n 0 _ (Î9 _) (D.zero _ ho1) (c02.keep λu e=>Ã _ e) λs' mv x=>?_
    obtain⟨h',g',d',tk',os'⟩:=s';have eg:g'=s.gens:=mv.gens;have ed:d'=s.drawn:=mv.drawn;have eo:os'=s.os:=mv.os;subst eg;subst ed;subst eo;refine Å (Å ⟨rfl,h',tk',rfl,x,λb u e=>?_⟩);have lb:=à e;refine mv.heap b u (λz=>?_) (Ã _ (Ã _ e));simp only[Â9,À1,or_false] at z;rw[hI] at z;rcases z with z | z
    ·exact Ø lb z
    ·exact Ø (Å1 lb) z
   ·cases r2 with
    |error e=>exact hr2
    |ok fl2 =>
     cases fl2 with
     |ret r =>
      obtain⟨rfl,h',tk,rfl,x,kp⟩:=hr2
      repeat (any_goals (first | assumption | wp_step))
      exact h _ _ x kp
     |_=>exact hr2.elim
  |_=>exact hr.elim
end
def f21(m:Nat):Nat->Nat
 |0=>0|i + 1=>(bts m).getD i 0 + 1
theorem u61:((ë 256).all λm=>(ë ((bts m).length + 1)).all λi=>Î8.below (bts m).toArray (f21 m i) == i)=true:=by decide +kernel
theorem below_at(hm:m < 256)(hi:i<=(bts m).length):Î8.below (bts m).toArray (f21 m i)=i :=
 eq_of_beq (Õ.mp (Õ.mp u61 m (Ä3.mpr hm)) i (Ä3.mpr (Ú5 hi)))
theorem G80:∀ {l:List α}{i:Nat} (h:i < l.length),(l[i]::l.eraseIdx i).Perm l
 |x::r,0,_=>.refl _|x::r,i + 1,h=>(List.Perm.swap x _ _).trans ((G80 (l:=r) (i:=i) (Nat.lt_of_succ_lt_succ h)).cons x)
theorem u71(next:Nat->Nat):∀ (n k:Nat) (left:List α) (out:Array α),left.length=n->((Þ9.go next n k left out).toList).Perm (out.toList++left)
 |0,k,left,out,h=>by
  have:left=[]:=List.eq_nil_of_length_eq_zero h;subst this;simp[Þ9.go]
 |n + 1,k,left,out,h=>by
  have hl:next k % left.length < left.length:=Nat.mod_lt _ ∅
  have e:left[next k % left.length]?=some left[next k % left.length]:=List.getElem?_eq_getElem hl;unfold Þ9.go;rw[e];refine(u71 next n (k + 1) _ _ (by rw[List.length_eraseIdx_of_lt hl];omega)).trans ?_
  rw[Array.toList_push,Ô6];exact List.Perm.append_left _ (G80 hl)
theorem u81(next:Nat->Nat)(xs:Array α):(Þ9 next xs).toList.Perm xs.toList:=by
 have:=u71 next xs.size 0 xs.toList #[] (by simp)
 rw[Ì7] at this;exact this
def ord(w:è)(a ep:Nat)(es:Array (Int × Ä)):Array (Int × Ä):=if w.params.followText "set-order" then Þ9 (w.params.setOrder a ep) es else es
theorem f31(w:è)(a ep:Nat)(es:Array (Int × Ä)):(ord w a ep es).toList.Perm es.toList:=by
 unfold ord;split
 ·exact u81 _ _
 ·exact .refl _
theorem L30(w:è)(a ep:Nat)(es:Array (Int × Ä)):(ord w a ep es).size=es.size:=by
 have:=(f31 w a ep es).length_eq;simpa using this
def u91(w:è)(m i:Nat):Nat:=if w.params.followText "set-order" then 0 else f21 m i
def itO(w:è)(S ep n m i:Nat):Obj:={ cls:=.type "set_iterator",data:=.fields #[Ã6 (u91 w m i),Ã6 i,.ref S,Ã6 n,Ã6 ep] }
theorem c80:Slot "set_iterator" "__next__" "set_iterator.__next__":=.of (owner:="set_iterator") (n:="__next__") (by rw[typeLookup_type,builtinLookup_eq_fast];kernel_rfl) (by decide +kernel) (by decide +kernel) (by decide +kernel) (by first | exact .inl (by decide +kernel) | exact .inr (by decide +kernel)) (by rw[Ñ6];kernel_rfl)
theorem n50:Slot "set_iterator" "__iter__" "set_iterator.__iter__":=.of (owner:="set_iterator") (n:="__iter__") (by rw[typeLookup_type,builtinLookup_eq_fast];kernel_rfl) (by decide +kernel) (by decide +kernel) (by decide +kernel) (by first | exact .inl (by decide +kernel) | exact .inr (by decide +kernel)) (by rw[Ñ6];kernel_rfl)
theorem m90:entryFor table "set_iterator.__next__"=some ÿ.«set_iterator.__next__»:=entryFor_of_tree (by kernel_rfl)
theorem G00:entryFor table "set.__iter__"=some ÿ.«frozenset.__iter__»:=entryFor_alias (id':="frozenset.__iter__") (by kernel_rfl) rfl (by decide +kernel) (by kernel_rfl)
theorem z40:entryFor table "set_iterator.__iter__"=some ÿ.«dict_keyiterator.__iter__»:=entryFor_alias (id':="dict_keyiterator.__iter__") (by kernel_rfl) rfl (by decide +kernel) (by kernel_rfl)
theorem C50:Manifest.owners.lookup (String.ofList "rotareti_tes".toList.reverse)=some Manifest.sig_set_iterator:=by kernel_rfl
theorem n60(a:Ä):argsOk "set_iterator.__next__" ⟨[a],[]⟩:=by
 unfold argsOk;rw[signature?_of (id:="set_iterator.__next__") (n:="__txen__".toList) (o:="rotareti_tes".toList) (by kernel_rfl) C50];kernel_rfl
theorem C60(a:Ä):argsOk "set_iterator.__iter__" ⟨[a],[]⟩:=by
 unfold argsOk;rw[signature?_of (id:="set_iterator.__iter__") (n:="__reti__".toList) (o:="rotareti_tes".toList) (by kernel_rfl) C50];kernel_rfl
section
variable {P:Ý}{w:è}{A:ö}{E:Ä->Æ->Prop}{s:Æ}{S ep m:Nat}{g:Nat->Tok}{o:Obj}
theorem S20(b:Bool)(m:Nat):(tbl b m).plain=true:=by unfold tbl;split <;> rfl
theorem c12(b:Bool)(m:Nat):(tbl b m).led=b:=by unfold tbl;split <;> rfl
theorem v01(b:Bool)(m:Nat):(tbl b m).place=(bts m).toArray:=by unfold tbl;split <;> rfl
theorem L40(hm:m < 256):(tbl (led w) m).fits (ent g m).size=true:=by rw[d80];exact(C30 _ hm).1
theorem M21(hm:m < 256)(ho:s.heap.get? S=some o)(hx:o.ExactSet)(hd:o.data=.set (ent g m) ep (tbl (led w) m))(h:Q (.ref s.heap.objs.size) { s with heap:=s.heap.push (itO w S ep (bts m).length m 0) }):Î (Ô P w) A (pyIter (.ref S)) Q E s:=by
 have hT:s.TypeIs (.ref S) "set":=⟨o,ho,hx.1⟩;have hf:=L40 (w:=w) (g:=g) hm;have hp:=S20 (led w) m;refine wpAny_pyIter_slot hT F.slot_set_iter (À4 F.slot_set_iter hT G00 ?_ (F.args_set_iter_1 _));unfold ÿ.«frozenset.__iter__» ÿ.Frozenset.slot0 slotArgs;simp only[isEmpty_nil,à4,Ã4,↓reduceIte,bind_assoc,Á0,bne_self_eq_false];unfold ÿ.Frozenset.addrOf ÿ.Frozenset.sizeOf;refine À (Å (À (Å (À (À (Ú2 ho hd hf (Å ?_)))))));refine À ?_;have dr:Î (Ô P w) A.in1 (setDrawn S) (λb s'=>b=false/\s'=s) E s:=by
  unfold setDrawn setsByText;refine À (Ó1 ho hd hf (À (À (Í5 (Å (Å ⟨?_,rfl⟩))))));generalize tbl (led w) m=t at hp;obtain⟨t1,t2,t3,t4,t5,t6,t7⟩:=t;cases hp;show(!w.params.followText "set-order"&&_)=false;cases w.params.followText "set-order" <;> rfl
 refine Â1 dr (λb s' hb=>?_) λ_ _ e=>e;obtain⟨rfl,rfl⟩:=hb;rw[if_neg Ð];refine À (Å ?_);refine À (wpAny_setEpoch_of ho hd hf ?_);refine À (æ (Å ⟨_,rfl,"set_iterator",_,⟨_,Ê _ rfl,rfl⟩,c80.lookup,?_⟩));have e:itO w S ep (bts m).length m 0={ cls:=.type "set_iterator",data:=.fields #[Ã6 0,Ã6 0,.ref S,Ã6 (ent g m).size,Ã6 ep] }:=by
  unfold itO u91;rw[d80];split <;> rfl
 rw[e] at h;exact h
theorem v21(hm:m < 256)(hi:i<=(bts m).length)(ho:s.heap.get? S=some o)(hd:o.data=.set (ent g m) ep (tbl (led w) m)):Î (Ô P w) A (setNext S (u91 w m i) i ep) (λr s'=>s'=s/\r=(ord w S ep (ent g m))[i]?.map λe=>(e.2,u91 w m (i + 1))) E s:=by
 have hf:=L40 (w:=w) (g:=g) hm;have hp:=S20 (led w) m;have hl:=c12 (led w) m;have hpl:=v01 (led w) m;unfold setNext;refine À (Ó1 ho hd hf ?_);unfold setsByText;refine À (À (Í5 (Å ?_)));dsimp only;unfold ord u91;show Î _ _ (if w.params.followText "set-order"=true then _ else _) _ _ _;cases hb:w.params.followText "set-order" with
 |true =>
  rw[if_pos rfl];rw[if_neg (by simp)]
  refine À ?_;unfold setWalk setsByText;refine À (Ó1 ho hd hf (À (À (Í5 (Å ?_)))));show Î _ _ (if w.params.followText "set-order"=true then _ else _) _ _ _;rw[hb,if_pos rfl];refine À (Í5 (Å (Å ⟨rfl,?_⟩)));simp only[↓reduceIte];rfl
 |false =>
  simp only[Ã4,↓reduceIte];have hl:(tbl (led w) m).led=true:=by rw[hl];show(!w.params.followText "set-order")=true;rw[hb];rfl
  generalize tbl (led w) m=t at hp hl hpl;obtain⟨t1,t2,t3,t4,t5,t6,t7⟩:=t;cases hp;cases hl;have hpl:t2=(bts m).toArray:=hpl;subst hpl;refine À (Å (Å ⟨rfl,?_⟩));rw[below_at hm hi];by_cases hi':i < (bts m).length
  ·have e1:(ent g m)[i]?=some (((bts m)[i]:Int),Æ3 ((bts m)[i]:Nat) (g (bts m)[i])):=by unfold ent;simp[hi']
   have e2:(bts m).toArray[i]?=some (bts m)[i]:=by simp[hi']
   rw[e1,e2];show some _=some _;have e3:f21 m (i + 1)=(bts m)[i] + 1:=by show(bts m).getD i 0 + 1=_;simp[hi']
   rw[e3]
  ·have e1:(ent g m)[i]?=none:=by unfold ent;simp;omega
   rw[e1];rfl
theorem M31(hm:m < 256)(hi:i < (bts m).length)(ho:s.heap.get? S=some o)(hd:o.data=.set (ent g m) ep (tbl (led w) m))(hI:s.heap.get? I=some (itO w S ep (bts m).length m i))
  (h:∀ v h',(ord w S ep (ent g m))[i]?.map (·.2)=some v->Ë7 I s.heap h'->h'.get? I=some (itO w S ep (bts m).length m (i + 1))->Q (some v) { s with heap:=h' }):Î (Ô P w) A (Ñ3 (.ref I)) Q E s:=by
 have hT:s.TypeIs (.ref I) "set_iterator":=⟨_,hI,rfl⟩;have hf:=L40 (w:=w) (g:=g) hm;unfold Ñ3;refine À (Ë1 (À5 (name:=À9 "__next__") hT c80 (À4 c80 hT m90 ?_ (n60 _))));unfold ÿ.«set_iterator.__next__» slotArgs;simp only[isEmpty_nil,à4,Ã4,↓reduceIte,bind_assoc,Á0,bne_self_eq_false];refine À (Å ?_);refine À (wpAny_fieldsOf hI rfl ?_);dsimp only [Ã6];refine À (Ú2 ho hd hf ?_);rw[if_neg (by rw[d80];simp)]
 refine À (Â1 (v21 (i:=i) hm (É2 hi) ho hd) (λr s' hr=>?_) λ_ _ e=>e);obtain⟨rfl,rfl⟩:=hr;have hsz:i < (ord w S ep (ent g m)).size:=by rw[L30,d80];exact hi
 have e1:(ord w S ep (ent g m))[i]?=some (ord w S ep (ent g m))[i]:=by simp[hsz]
 simp only[Á8,e1,map_some];unfold itO at hI;refine À (Ã0 hI (by simp) λh1 hI1 sb1=>?_)
 refine À (Ã0 hI1 (by simp) λh2 hI2 sb2=>?_)
 refine Å ⟨_,rfl,Å (h _ h2 (by rw[e1];rfl) (sb1.trans sb2) ?_)⟩
 unfold itO;simpa [Ã6] using hI2
theorem c22(hh:A.handled=none)(hm:m < 256)(ho:s.heap.get? S=some o)(hd:o.data=.set (ent g m) ep (tbl (led w) m))(hI:s.heap.get? I=some (itO w S ep (bts m).length m (bts m).length))
  (h:∀ h',é.ExtBut I s.heap h'->Q none { s with heap:=h' }):Î (Ô P w) A (Ñ3 (.ref I)) Q E s:=by
 have hT:s.TypeIs (.ref I) "set_iterator":=⟨_,hI,rfl⟩;have hf:=L40 (w:=w) (g:=g) hm;unfold Ñ3;refine À (Ë1 (À5 (name:=À9 "__next__") hT c80 (À4 c80 hT m90 ?_ (n60 _))));unfold ÿ.«set_iterator.__next__» slotArgs;simp only[isEmpty_nil,à4,Ã4,↓reduceIte,bind_assoc,Á0,bne_self_eq_false];refine À (Å ?_);refine À (wpAny_fieldsOf hI rfl ?_);dsimp only [Ã6];refine À (Ú2 ho hd hf ?_);rw[if_neg (by rw[d80];simp)]
 refine À (Â1 (v21 (i:=(bts m).length) hm (Í _) ho hd) (λr s' hr=>?_) λ_ _ e=>e);obtain⟨rfl,rfl⟩:=hr;have e1:(ord w S ep (ent g m))[(bts m).length]?=none:=by simp[L30,d80]
 simp only[Á8,e1,Option.map_none];unfold itO at hI;refine À (Ã0 hI (by simp) λh1 hI1 sb1=>À ?_)
 simp only[newExc,newTuple];refine À (æ ?_ (by size_fits))
 refine À (m:=Ø9 _ _) (ß9 (a:=â) (by first | rfl | (simp only[Ø9];rfl)) ?_)
 refine æ ?_ (by size_fits)
 simp only[raiseNew];refine À (wpAny_handled ?_);rw[show A.in1.handled=none from hh];refine À (Å (wpAny_throw ?_));refine À (Þ8 (T:="StopIteration") (b:=true) ⟨_,Ê _ rfl,rfl⟩ isSubtype_stop ?_);exact Å (h _ ((sb1.extBut.push _).push _))
theorem v31(hh:A.handled=none)(hm:m < 256)(hx:o.ExactSet)(hd:o.data=.set (ent g m) ep (tbl (led w) m))(hn:S≠I):Walks P w A I [I,S] [I] (bts m).length (λi v=>(ord w S ep (ent g m))[i]?.map (·.2)=some v) (λi h=>h.get? S=some o/\h.get? I=some (itO w S ep (bts m).length m i)) where
 sub:=λb hb=>by simp at hb;simp[hb]
 frame:=λ_ _ _ st hk=>⟨hk S (by simp) _ st.1,hk I (by simp) _ st.2⟩
 item:=λi s Q E hi st hQ=>M31 hm hi st.1 hd st.2 λv h' hv sb hI=>hQ v h' s.toks hv ⟨(sb.2 S hn).trans st.1,hI⟩ λb u hb e=>(sb.2 b λz=>hb (by simp[z])).trans e
 done:=λs Q E st hQ=>c22 hh hm st.1 hd st.2 λh' kp=>hQ h' s.toks λb u hb e=>kp b u (λz=>hb (by simp[z])) e
 self:=λi s Q E st hQ=>by
  have hT:s.TypeIs (.ref I) "set_iterator":=⟨_,st.2,rfl⟩;refine wpAny_pyIter_slot hT n50 (À4 n50 hT z40 ?_ (C60 _));show Î _ _ (ret (.ref I)) _ _ s;exact Å ⟨_,rfl,"set_iterator",_,hT,c80.lookup,hQ⟩
set_option maxHeartbeats 3200000 in
theorem Z60(hh:A.handled=none)(hm:m < 256)(ho:s.heap.get? S=some o)(hx:o.ExactSet)(hd:o.data=.set (ent g m) ep (tbl (led w) m))
  (hQ:∀ h' tk,s.heap.objs.size < h'.objs.size->(∀ b u,s.heap.get? b=some u->h'.get? b=some u)->Q ((ord w S ep (ent g m)).toList.map (·.2)) { s with heap:=h',toks:=tk }):Î (Ô P w) A (collect (.ref S)) Q E s:=by
 have lS:S < s.heap.objs.size:=à ho;have hsz:(bts m).length<=8:=Ñ (Å3 _ _) (by simp)
 unfold collect;refine À (Ø6 (Â2 F.entry_proto_collect ?_));rw[Â6 F.plain_proto_collect _];refine À (m:=newList []) (æ (Å ⟨Î1 F.plain_list_iadd _,Â2 F.entry_list_iadd ?_⟩));rw[Â6 F.plain_list_iadd _];show Î _ A.in1 (Ä4 (.ref s.heap.objs.size) (.ref S) (.ref s.heap.objs.size)) _ _ _;have oS:(s.heap.push { cls:=.type "list",data:=.seq ([]:List Ä).toArray }).get? S=some o:=Ã _ ho;have hL:(s.heap.push { cls:=.type "list",data:=.seq ([]:List Ä).toArray }).get? s.heap.objs.size=some { cls:=.type "list",data:=.seq ([]:List Ä).toArray }:=Ê _ rfl;have hT:Ý9 { s with heap:=s.heap.push { cls:=.type "list",data:=.seq ([]:List Ä).toArray } } (.ref S) "set":=⟨o,oS,hx.1⟩;unfold Ä4;refine À (Ç7 hT ?_);have c1:Ú1 (.ref s.heap.objs.size) (.ref S)=false:=by simp[Ú1];exact Ê3 lS
 have c2:(Á6 "set" == Á6 "list")=false:=by decide
 have c3:(Á6 "set" == Á6 "tuple")=false:=by decide
 simp only[c1,c2,c3,Bool.or_false,Ã4,if_false];refine À (M21 hm oS hx hd (À (À7 ?_)));have hT2:∀ u,Ý9 { s with heap:=(s.heap.push { cls:=.type "list",data:=.seq ([]:List Ä).toArray }).push u } (.ref S) "set":=λu=>⟨o,Ã _ oS,hx.1⟩;unfold ÿ.List.listLengthHint;refine À (wpAny_specialOf (hT2 _) F.slot_set_len.lookup ?_)
 wp_delta
 refine À (Þ8 (T:="set") (b:=true) (hT2 _) (by rw[Ñ6];kernel_rfl) ?_)
 show Î _ A.in1 (typeOf (Ã3 S) >>= _) _ _ _;refine À (Ç7 (hT2 _) (Å ?_));rw[if_pos (-0)]
 refine À (É7 ?_);generalize hI:s.heap.push { cls:=.type "list",data:=.seq ([]:List Ä).toArray }=h1 at oS hL hT2;have sz1:h1.objs.size=s.heap.objs.size + 1:=by rw[← hI];exact Ë2 ..
 have hL2:(h1.push (itO w S ep (bts m).length m 0)).get? s.heap.objs.size=some { cls:=.type "list",data:=.seq ([]:List Ä).toArray }:=Ã _ hL;refine À (m:=ÿ.List.listTouch (.ref s.heap.objs.size)) ?_;show Î _ A.in1 (updateSeq s.heap.objs.size (·.push .none) >>= λ_=>updateSeq s.heap.objs.size (·.pop)) _ _ _;refine À (wpAny_updateSeq hL2 rfl ?_);have hL3:=Ç6 (À0 (·.push â)) hL2 rfl;refine wpAny_updateSeq hL3 rfl ?_;have hL4:=Ç6 (À0 (·.pop)) hL3 rfl;have off:∀ b u,b≠s.heap.objs.size->(h1.push (itO w S ep (bts m).length m 0)).get? b=some u->(((h1.push (itO w S ep (bts m).length m 0)).update s.heap.objs.size (À0 (·.push â))).update s.heap.objs.size (À0 (·.pop))).get? b=some u :=
  λb u hb e=>(Ë6 _ _ (Â3 hb)).trans ((Ë6 _ _ (Â3 hb)).trans e)
 have nI:S≠h1.objs.size:=by rw[sz1];exact Ø (Å1 lS)
 have nS:s.heap.objs.size ∉ [h1.objs.size,S]:=by
  rw[sz1];simp only[Â9,À1,or_false,not_or];exact⟨Ø (Ë9 _),Ê3 lS⟩
 refine Å ⟨Î1 F.plain_extend_loop _,codeAny_extend_loopS (v31 (P:=P) (by simp[hh]) hm hx hd nI).toS (by rw[Á2];omega) s.heap.objs.size nS _ (bts m).length 0 _ _ _ rfl (Æ1 _) ⟨off _ _ (Ø lS) (Ã _ oS),off _ _ (by rw[sz1];exact(Ø (Ë9 _)).symm) (Ê _ rfl)⟩ hL4 (ItemsOf.nil _) λs' acc c mv hS' it=>?_⟩
 refine À (m:=load s.heap.objs.size) (wpAny_load hS' (Å ?_));have ea:acc.toList=(ord w S ep (ent g m)).toList.map (·.2):=by
  refine List.ext_getElem? λj=>?_;rw[Ü,ô,ô];cases e:acc[j]? with
  |none =>
   have hj:(bts m).length<=j:=by rw[← it.1];simpa using e
   have:(ord w S ep (ent g m))[j]?=none:=by simp[L30,d80,hj]
   rw[this];rfl
  |some v=>rw[it.2 j v e]
 rw[ea];obtain⟨h',g',d',tk',os'⟩:=s';have eg:g'=s.gens:=mv.gens;have ed:d'=s.drawn:=mv.drawn;have eo:os'=s.os:=mv.os;subst eg;subst ed;subst eo;refine hQ h' tk' (à hS') λb u e=>mv.heap b u (λz=>?_) (off b u (Ø (à e)) (Ã _ (hI ▸ Ã _ e)));have lb:=à e;simp only[Â9,À1,or_false] at z;rw[sz1] at z;rcases z with z | z
 ·exact Ø lb z
 ·exact Ø (Å1 lb) z
end
end SS
namespace Q
open PySem L2
abbrev Z:=Option (Int × Bool)
inductive S where
 |d (x:D) | fr (xs:List D) | z
inductive R (α:Type) where
 |ok (a:α) (z:Z) | er (c:Nat) (z:Z)
abbrev M(α:Type):=Z->Option (R α)
def M.ret{α:Type}(a:α):M α:=λz=>some (.ok a z)
def M.no{α:Type}:M α:=λ_=>none
def M.of{α:Type}:Option α->M α
 |some a=>M.ret a|none=>M.no
def M.bind{α β:Type}(m:M α)(f:α->M β):M β:=λz=>match m z with
 |some (.ok a z1)=>f a z1|some (.er c z1)=>some (.er c z1)|none=>none
def M.calm{α:Type}(m:M α):M α:=λz=>match m z with
 |some (.ok a z1)=>some (.ok a z1)|_=>none
abbrev Env:=List (Option S)
def pl:List S->Option D
 |[.d x]=>some x|[.fr xs]=>some (.lst xs)|_=>none
def one:List S->Option S
 |[s]=>some s|_=>none
def plS:S->S
 |.fr xs=>.d (.lst xs)|s=>s
def plD:S->Option D
 |.d x=>some x|.fr xs=>some (.lst xs)|.z=>none
def plA:List S->Option (List D)
 |[]=>some []|.d x::r=>(plA r).map (x::·)|.fr xs::r=>(plA r).map (.lst xs::·)|.z::_=>none
inductive Bi where
 |add | sub | mul | fdiv | mod | pow
inductive Cm where
 |eq | ne | lt | le | gt | ge | mem | nmem
inductive Bf where
 |len | sorted | tuple | list | min | max | all | int | sset | z52
inductive Ty where
 |int | bool | tuple | list | str | seq
inductive Pat where
 |v (i:Nat) | tup (ps:Pat) | nil | cons (p r:Pat)
inductive It where
 |seq | rng1 | rng2 | zip | enum
inductive Ex where
 |nil | cons (a r:Ex)
 |var (i:Nat) | con (x:D) | gint (g:Str) (i:Int)
 |tup (as:Ex) | lst (as:Ex)
 |bin (o:Bi) (a b:Ex) | cmp (o:Cm) (a b:Ex) | neg (a:Ex)
 |not (a:Ex) | and (a b:Ex) | or (a b:Ex) | orT (a b:Ex) | ite (c a b:Ex)
 |ch (o o':Cm) (a b c:Ex)
 |bf (f:Bf) (as:Ex) | isi (t:Ty) (a:Ex)
 |idx (a i:Ex) | sl (a lo hi:Ex) | rev (a:Ex)
 |call (f:Nat) (as:Ex)
 |comp (own:Nat) (capt:List Nat) (p:Pat) (it:It) (src cond el:Ex)
 |zget (i k:Nat) | lrng (b:Bool) (as:Ex)
 |refd (capt:List Nat) (a:Ex)
abbrev most:Nat:=100000
def P30:Nat:=2 ^ 4000
mutual
noncomputable def eqD:D->D->Bool
 |.non,.non=>true|.bl a,.bl b=>a == b|.int a,.int b=>a == b|.str a,.str b=>a == b|.bl a,.int b=>(if a then 1 else 0) == b|.int a,.bl b=>a == (if b then 1 else 0)|.tup a,.tup b=>M41 a b|.lst a,.lst b=>M41 a b|.dct,.dct=>true|_,_=>false
noncomputable def M41:List D->List D->Bool
 |[],[]=>true|a::r,b::q=>eqD a b&&M41 r q|_,_=>false
end
mutual
noncomputable def ltD:D->D->Option Bool
 |.int a,.int b=>some (decide (a < b))|.tup a,.tup b=>M51 a b|_,_=>none
noncomputable def M51:List D->List D->Option Bool
 |[],[]=>some false|[],_::_=>some true|_::_,[]=>some false|a::r,b::q=>if eqD a b then M51 r q else ltD a b
end
mutual
noncomputable def n00:D->Bool
 |.dct=>false|.tup l=>e60 l|.lst l=>e60 l|.str x=>PyData.strOk x|_=>true
noncomputable def e60:List D->Bool
 |[]=>true|x::r=>n00 x&&e60 r
end
mutual
noncomputable def deep:D->Nat
 |.tup l=>f40 l + 1|.lst l=>f40 l + 1|_=>0
noncomputable def f40:List D->Nat
 |[]=>0|x::r=>Ð9 (deep x) (f40 r)
end
def okD(d:D):Bool:=n00 d&&decide (deep d<=40)
def G10(l:List D):Bool:=e60 l&&decide (f40 l<=39)
theorem g00{c:Prop}[Decidable c]{α:Type}{a:Option α}{b:α}(h:(if c then a else none)=some b):c/\a=some b:=by
 by_cases k:c
 ·rw[if_pos k] at h;exact⟨k,h⟩
 ·rw[if_neg k] at h;cases h
def eqO(a b:D):Option Bool:=if okD a&&okD b then some (eqD a b) else none
def eqE:D->D->Option Bool
 |.tup l,.tup []=>some l.isEmpty|_,_=>none
def eqQ(a b:D):Option Bool:=if okD a&&okD b then some (eqD a b) else eqE a b
def ltO(a b:D):Option Bool:=if okD a&&okD b then ltD a b else none
def memD(x:D)(l:List D):Bool:=l.any λy=>eqD y x
def M61(x:D)(l:List D):Option Bool:=if okD x&&G10 l then some (memD x l) else none
def Z70:List D->Option (List Int)
 |[]=>some []|.int i::r=>(Z70 r).map (i::·)|_=>none
def z50:Bi->D->D->Option S
 |.add,.int i,.int j=>some (.d (.int (i + j)))|.add,.tup a,.tup b=>if a.length + b.length<=most then some (.d (.tup (a++b))) else none|.add,.lst a,.lst b=>if a.length + b.length<=most then some (.fr (a++b)) else none|.sub,.int i,.int j=>some (.d (.int (i - j)))|.mul,.int i,.int j=>if i.natAbs < P30/\j.natAbs < P30 then some (.d (.int (i * j))) else none|.mul,.tup a,.int j=>if 0<=j/\j.toNat * a.length<=most/\j < 1000000 then some (.d (.tup (ì j.toNat a).flatten)) else none|.mul,.lst a,.int j=>if 0<=j/\j.toNat * a.length<=most/\j < 1000000 then some (.fr (ì j.toNat a).flatten) else none|.fdiv,.int i,.int j=>if 0 < j/\j.natAbs < P30 then some (.d (.int (i / j))) else none|.mod,.int i,.int j=>if 0 < j then some (.d (.int (i % j))) else none|.pow,.int i,.int j=>if 0<=j/\j<=1000/\i.natAbs < 2 ^ 64 then some (.d (.int (i ^ j.toNat))) else none|_,_,_=>none
def q02:D->Bool
 |.non=>true|_=>false
def neO:D->D->Option Bool
 |.dct,.tup _=>some true|a,b=>(eqO a b).map (!·)
def C70:Cm->D->D->Option Bool
 |.eq,a,b=>eqQ a b|.ne,a,b=>neO a b|.lt,a,b=>ltO a b|.gt,.int a,.int b=>some (decide (b < a))|.le,.int a,.int b=>some (decide (a<=b))|.le,.tup a,.tup b=>(Z70 a).bind λns=>(Z70 b).map λms=>HT.leB ns ms|.ge,.int a,.int b=>some (decide (b<=a))|.mem,a,.tup l=>M61 a l|.mem,a,.lst l=>M61 a l|.nmem,a,.tup l=>(M61 a l).map (!·)|.nmem,a,.lst l=>(M61 a l).map (!·)|_,_,_=>none
def T61:Ty->D->Bool
 |.int,.int _=>true|.int,.bl _=>true|.bool,.bl _=>true|.tuple,.tup _=>true|.list,.lst _=>true|.str,.str _=>true|.seq,.tup _=>true|.seq,.lst _=>true|_,_=>false
def asB:D->Option Bool
 |.bl b=>some b|_=>none
def q12:D->Option (List D)
 |.tup l=>some l|_=>none
def asI:D->Option Int
 |.int i=>some i|_=>none
def m71:D->Option (List D)
 |.tup l=>some l|.lst l=>some l|_=>none
mutual
noncomputable def flt:D->List Int
 |.int i=>[i]|.tup l=>N92 l|_=>[]
noncomputable def N92:List D->List Int
 |[]=>[]|x::r=>flt x++N92 r
end
mutual
noncomputable def eqT:D->D->Bool
 |.int i,.int j=>i == j|.tup a,.tup b=>X60 a b|_,_=>false
noncomputable def X60:List D->List D->Bool
 |[],[]=>true|x::r,y::q=>eqT x y&&X60 r q|_,_=>false
end
def v41:D->Nat
 |.int _=>0|.tup (.int _::_)=>1|.tup (.tup _::_)=>2|_=>3
def i30(x y:D):Bool:=v41 y == v41 x&&(ltD x y == some (MySort.h60 (flt x) (flt y))&&(eqT x y || !(flt x == flt y)))
def n10(l:List D):Bool:=l.all λx=>decide (v41 x < 3)&&(okD x&&l.all (i30 x))
def p41(k:D):List D->List D
 |[]=>[k]|y::r=>if MySort.h60 (flt y) (flt k) then y::p41 k r else k::y::r
def u10:List D->List D
 |[]=>[]|k::r=>p41 k (u10 r)
def r70(k m:Nat):D:=.tup ((TS.B80 k 0 m).map λ(i:Nat)=>.int i)
def h70(k:Nat):List D:=(ë (2 ^ k)).map (r70 k)
def M71(k:Nat):List D:=(TS.sN k).map (r70 k)
def O02(l:List D):Option (List D):=((ë 9).find? λk=>X60 l (h70 k)).map M71
def sortedS(x:D):Option S:=(m71 x).bind λl=>if l.length < 64/\n10 l=true then some (.fr (u10 l)) else(O02 l).map S.fr
def C80:List D->Option (List Nat)
 |[]=>some []|.int i::r=>if 0<=i/\i < 8 then(C80 r).map (i.toNat::·) else none|_=>none
def bfD:Bf->List D->Option S
 |.len,[x]=>(m71 x).map λl=>.d (.int l.length)|.tuple,[x]=>(m71 x).map λl=>.d (.tup l)|.list,[x]=>(m71 x).map λl=>.fr l|.all,[.lst l]=>(l.mapM asB).map λbs=>.d (.bl (bs.all id))|.sorted,[x]=>sortedS x|.min,[.int i,.int j]=>some (.d (.int (if j < i then j else i)))|.max,[.int i,.int j]=>some (.d (.int (if j > i then j else i)))|.int,[.bl b]=>some (.d (.int (if b then 1 else 0)))|.int,[.int i]=>some (.d (.int i))|.sset,[x]=>(m71 x).bind λl=>(C80 l).map λns=>.fr (((ë 8).filter λi=>ns.contains i).map λ(n:Nat)=>.int n)|_,_=>none
def m81:D->D->Option D
 |.tup l,.int i=>atI l i|.lst l,.int i=>atI l i|_,_=>none
def cutD(l:List D)(lo hi:Option Int):List D:=(l.drop (HT.sIx l.length 0 lo)).take (HT.sIx l.length l.length hi - HT.sIx l.length 0 lo)
def slD:D->Option Int->Option Int->Option S
 |.tup l,lo,hi=>some (.d (.tup (cutD l lo hi)))|.lst l,lo,hi=>some (.fr (cutD l lo hi))|_,_,_=>none
def O12:D->Option S
 |.tup l=>some (.d (.tup l.reverse))|.lst l=>some (.fr l.reverse)|_=>none
def v51:List S->Option (Option Int)
 |[]=>some none|[.d (.int i)]=>some (some i)|_=>none
def w20:List D->Nat->List D
 |[],_=>[]|x::r,i=>.tup [.int i,x]::w20 r (i + 1)
def n70:List D->List D->List D
 |x::r,y::q=>.tup [x,y]::n70 r q|_,_=>[]
def inR:Int->Bool
 |.ofNat n=>Nat.blt n 100000|.negSucc n=>Nat.blt n 99999
theorem L50:inR j=true↔-100000 < j/\j < 100000:=by
 cases j with
 |ofNat n=>show ble (n + 1) 100000=true↔_;rw[Nat.ble_eq];show _↔-100000 < (n:Int)/\(n:Int) < 100000;omega|negSucc n=>show ble (n + 1) 99999=true↔_;rw[Nat.ble_eq,Int.negSucc_eq];omega
def itD:It->List D->Option (List D)
 |.seq,[x]=>m71 x|.rng1,[.int j]=>if inR j=true then some ((ë j.toNat).map λ(i:Nat)=>D.int i) else none|.rng2,[.int i,.int j]=>if inR i=true/\inR j=true then some ((ë (j - i).toNat).map λ(k:Nat)=>D.int (i + k)) else none|.zip,[.tup a,.tup b]=>some (n70 a b)|.zip,[.lst a,.lst b]=>some (n70 a b)|.enum,[.tup a]=>some (w20 a 0)|.enum,[.lst a]=>some (w20 a 0)|_,_=>none
def lrS:Bool->List D->S
 |true,xs=>.d (.tup xs)|false,xs=>.fr xs
def lrN:Bool->Str
 |true=>"tuple"|false=>"list"
def lrD:List D->Option (List D)
 |[x]=>itD .rng1 [x]|l=>itD .rng2 l
mutual
noncomputable def f10:Pat->D->Env->Option Env
 |.v i=>λx ρ=>some (ρ.set i (some (.d x)))
 |.tup ps=>λx ρ=>match x with
  |.tup l=>bindL ps l ρ|_=>none
 |.nil=>λ_ _=>none|.cons _ _=>λ_ _=>none
noncomputable def bindL:Pat->List D->Env->Option Env
 |.nil=>λl ρ=>match l with
  |[]=>some ρ|_=>none
 |.cons p r=>λl ρ=>match l with
  |x::l=>(f10 p x ρ).bind λρ=>bindL r l ρ|_=>none
 |.v _=>λ_ _=>none|.tup _=>λ_ _=>none
end
def turns(f:D->M (Option D)):List D->M (List D)
 |[]=>M.ret []|x::r=>M.bind (f x) λo=>M.bind (turns f r) λl=>M.ret (match o with | some y=>y::l | none=>l)
def n80(fc fe:Env->M (List S))(p:Pat)(ρ0:Env)(x:D):M (Option D):=M.bind (M.of (f10 p x ρ0)) λρ'=>M.bind (fc ρ') λc=>match c with
 |[]=>M.bind (fe ρ') λy=>M.bind (M.of (pl y)) λy=>M.ret (some y)|[.d (.bl true)]=>M.bind (fe ρ') λy=>M.bind (M.of (pl y)) λy=>M.ret (some y)|[.d (.bl false)]=>M.ret none|_=>M.no
def v61(k:Nat):Option (Option S)->Z->Option (R (List S))
 |some (some .z),some p=>if k=0 then some (.ok [.d (.int p.1)] (some p)) else if k=1 then some (.ok [.d (.bl p.2)] (some p)) else none|_,_=>none
abbrev FT:=Bool->Nat->List S->M S
abbrev j50(F:FT):FT:=λ_=>F true
def M81(ρ:Env):List Nat->Option (List S)
 |[]=>some []
 |i::r=>match ρ[i]? with
  |some (some s)=>(M81 ρ r).map (s::·)|_=>none
def q22(o:Option (List S))(m:Env->M (List S)):M (List S):=λz=>match o with
 |none=>none
 |some ss=>match m (ss.map some) z with
  |some (.er c z1)=>if c < 12 then some (.ok [.fr [.int c]] z1) else none|_=>none
def ev:FT->Ex->Env->M (List S)
 |F,.nil=>λ_=>M.ret []|F,.cons a r=>λρ=>M.bind (ev F a ρ) λx=>M.bind (M.of (one x)) λs=>M.bind (ev F r ρ) λy=>M.ret (s::y)
 |F,.var i=>λρ=>match ρ[i]? with
  |some (some s)=>M.ret [plS s]|_=>M.no
 |F,.con x=>λ_=>M.ret [.d x]|F,.gint _ i=>λ_=>M.ret [.d (.int i)]|F,.tup as=>λρ=>M.bind (ev F as ρ) λl=>M.bind (M.of (plA l)) λds=>if ds.length<=most then M.ret [.d (.tup ds)] else M.no|F,.lst as=>λρ=>M.bind (ev F as ρ) λl=>M.bind (M.of (plA l)) λds=>if ds.length<=most then M.ret [.fr ds] else M.no|F,.bin o a b=>λρ=>M.bind (ev F a ρ) λx=>M.bind (M.of (pl x)) λx=>M.bind (ev F b ρ) λy=>M.bind (M.of (pl y)) λy=>M.bind (M.of (z50 o x y)) λs=>M.ret [s]|F,.cmp o a b=>λρ=>M.bind (ev F a ρ) λx=>M.bind (M.of (pl x)) λx=>M.bind (ev F b ρ) λy=>M.bind (M.of (pl y)) λy=>M.bind (M.of (C70 o x y)) λb=>M.ret [.d (.bl b)]|F,.neg a=>λρ=>M.bind (ev F a ρ) λx=>M.bind (M.of ((pl x).bind asI)) λi=>M.ret [.d (.int (-i))]|F,.not a=>λρ=>M.bind (ev F a ρ) λx=>M.bind (M.of ((pl x).bind asB)) λb=>M.ret [.d (.bl !b)]|F,.and a b=>λρ=>M.bind (ev F a ρ) λx=>M.bind (M.of ((pl x).bind asB)) λc=>if c then M.bind (ev F b ρ) λy=>M.bind (M.of ((pl y).bind asB)) λc=>M.ret [.d (.bl c)] else M.ret [.d (.bl false)]|F,.or a b=>λρ=>M.bind (ev F a ρ) λx=>M.bind (M.of ((pl x).bind asB)) λc=>if c then M.ret [.d (.bl true)] else M.bind (ev F b ρ) λy=>M.bind (M.of ((pl y).bind asB)) λc=>M.ret [.d (.bl c)]|F,.orT a b=>λρ=>M.calm (M.bind (ev F a ρ) λx=>M.bind (M.of ((pl x).bind q12)) λl=>if l.isEmpty then M.bind (ev F b ρ) λy=>M.bind (M.of ((pl y).bind q12)) λl=>M.ret [.d (.tup l)] else M.ret [.d (.tup l)])|F,.ite c a b=>λρ=>M.bind (ev F c ρ) λx=>M.bind (M.of ((pl x).bind asB)) λc=>if c then ev F a ρ else ev F b ρ
 |F,.ch o o' a b c=>λρ=>M.bind (ev F a ρ) λx=>M.bind (M.of (pl x)) λx=>M.bind (ev F b ρ) λy=>M.bind (M.of (pl y)) λy=>M.bind (M.of (C70 o x y)) λk =>
   if k then M.bind (ev F c ρ) λw=>M.bind (M.of (pl w)) λw=>M.bind (M.of (C70 o' y w)) λk=>M.ret [.d (.bl k)] else M.ret [.d (.bl false)]
 |F,.bf f as=>λρ=>M.bind (ev F as ρ) λl=>M.bind (M.of (plA l)) λds=>M.bind (M.of (bfD f ds)) λs=>M.ret [s]|F,.isi t a=>λρ=>M.bind (ev F a ρ) λx=>M.bind (M.of (pl x)) λx=>M.ret [.d (.bl (T61 t x))]|F,.idx a i=>λρ=>M.bind (ev F a ρ) λx=>M.bind (M.of (pl x)) λx=>M.bind (ev F i ρ) λy=>M.bind (M.of (pl y)) λy=>M.bind (M.of (m81 x y)) λr=>M.ret [.d r]|F,.sl a lo hi=>λρ=>M.bind (ev F a ρ) λx=>M.bind (M.of (pl x)) λx=>M.bind (ev F lo ρ) λu=>M.bind (M.of (v51 u)) λu=>M.bind (ev F hi ρ) λv=>M.bind (M.of (v51 v)) λv=>M.bind (M.of (slD x u v)) λs=>M.ret [s]|F,.rev a=>λρ=>M.bind (ev F a ρ) λx=>M.bind (M.of ((pl x).bind O12)) λs=>M.ret [s]|F,.call f as=>λρ=>M.bind (ev F as ρ) λl=>M.bind (F false f (l.map plS)) λs=>M.ret [s]|F,.comp own capt p it src cond el=>λρ=>M.bind (ev F src ρ) λl=>M.bind (M.of ((plA l).bind (itD it))) λxs=>if xs.length<=most then M.bind (M.calm (turns (n80 (ev F cond) (ev F el) p (ì own none++capt.map λi=>(ρ[i]?).getD none)) xs)) λys=>M.ret [.fr ys] else M.no|F,.zget i k=>λρ z=>v61 k ρ[i]? z|F,.lrng b as=>λρ=>M.bind (ev F as ρ) λl=>M.bind (M.of ((plA l).bind lrD)) λxs=>M.ret [lrS b xs]|F,.refd capt a=>λρ=>q22 (M81 ρ capt) λρ'=>ev (j50 F) a ρ'
def S30(ρ:Env):Env:=ρ.map λo=>match o with
 |some .z=>none|o=>o
inductive Sm where
 |nil | seq (s r:Sm)
 |set (p:Pat) (e:Ex) | ret (e:Ex) | iff (c:Ex) (t e:Sm)
 |fr (p:Pat) (it:It) (src:Ex) (b:Sm) | whl (c:Ex) (b:Sm)
 |rais (c:Nat) | exp (e:Ex)
 |app (i:Nat) (e:Ex) | augi (i:Nat) (x e:Ex)
 |newz (i:Nat) (f:Nat) (as:Ex) | zset (i:Nat) (e:Ex)
inductive O where
 |nx (ρ:Env) | rt (s:S)
mutual
noncomputable def bare:D->Bool
 |.lst _=>false|.tup l=>n90 l|.dct=>false|_=>true
noncomputable def n90:List D->Bool
 |[]=>true|x::r=>bare x&&n90 r
end
def S40:S->Bool
 |.d x=>bare x|.fr xs=>n90 xs|.z=>true
def Z80(ρ:Env):Env:=ρ.map λo=>o.map plS
def S50(b:Bool):Option S->Option S
 |some (.fr xs)=>some (if b then .fr xs else .d (.lst xs))|o=>o
theorem S60(b:Bool)(ρ:Env):ρ.map (S50 b)=if b then ρ else Z80 ρ:=by
 have h:∀ o:Option S,S50 b o=if b then o else o.map plS:=λo=>by
  match o with
  |some (.fr xs)=>cases b <;> rfl
  |some (.d _)=>cases b <;> rfl
  |some .z=>cases b <;> rfl
  |none=>cases b <;> rfl
 rw[show S50 b=λo=>if b then o else o.map plS from funext h];cases b with
 |true=>exact map_id ρ|false=>rfl
def k90(s:S)(ρ:Env):Env:=ρ.map (S50 (S40 s))
def S70:Pat->S->Env->Option Env
 |p,.d x,ρ=>f10 p x ρ|.v i,s,ρ=>if i < ρ.length then some (ρ.set i (some s)) else none|_,_,_=>none
def X70(f:D->Env->M O):List D->Env->M O
 |[],ρ=>M.ret (.nx ρ)
 |x::r,ρ=>M.bind (f x ρ) λo=>match o with
  |.nx ρ=>X70 f r ρ|.rt s=>M.ret (.rt s)
def T71(c:Env->M (List S))(f:Env->M O):Nat->Env->M O
 |0,_=>M.no
 |n + 1,ρ=>M.bind (c ρ) λx=>M.bind (M.of ((pl x).bind asB)) λk=>if k then M.bind (f ρ) λo=>match o with
  |.nx ρ=>T71 c f n ρ|.rt s=>M.ret (.rt s)
  else M.ret (.nx ρ)
def ownAt(ρ:Env)(i:Nat):Option (List D):=match ρ[i]? with
 |some (some (.fr xs))=>some xs|_=>none
def G90(xs:List D)(i:Int)(y:D):Option (List D):=(ixN xs.length i).map λj=>xs.set j y
def c32:D->Bool
 |.tup l=>n90 l|.lst l=>n90 l|_=>true
def S80(l:List S):Bool:=match plA l with
 |some ds=>ds.all c32|none=>false
def noS:S->Option S
 |.z=>none|s=>some s
def c42:(it:It)->(e:Ex)->Option {i:Nat // it=.seq/\e=.cons (.var i) .nil}
 |.seq,.cons (.var i) .nil=>some ⟨i,rfl,rfl⟩|_,_=>none
def m91:List S->Bool
 |[]=>false|.d (.lst _)::_=>true|_::r=>m91 r
def S90(it:It)(e:Ex)(l:List S)(ρ:Env):Env:=match c42 it e with
 |some i=>ρ.set i.1 ((ρ[i.1]?.getD none).map plS)
 |none=>match m91 l with
  |true=>Z80 ρ|false=>ρ
def v71(it:It)(e:Ex)(l:List S)(ρ:Env):Env:=(S90 it e l ρ).map (S50 (S80 l))
abbrev j92:Nat:=20000
def v81(tp:Bool)(ρ:Env)(i:Nat):List S->Option (R O)
 |[.fr [.int n,.bl b]]=>if tp then some (.ok (.nx ((S30 ρ).set i (some .z))) (some (n,b))) else none|_=>none
def v91(ρ:Env)(v:Int):Option (Option S)->Z->Option (R O)
 |some (some .z),some p=>some (.ok (.nx ρ) (some (v,p.2)))|_,_=>none
def ex(F:FT)(tp:Bool):Sm->Env->M O
 |.nil=>λρ=>M.ret (.nx ρ)
 |.seq s r=>λρ=>M.bind (ex F tp s ρ) λo=>match o with
  |.nx ρ=>ex F tp r ρ|.rt s=>M.ret (.rt s)
 |.set p e=>λρ=>M.bind (ev F e ρ) λl=>M.bind (M.of (one l)) λs=>M.bind (M.of (S70 p s (k90 s ρ))) λρ=>M.ret (.nx ρ)
 |.ret e=>λρ=>match e with
  |.var i=>(match ρ[i]? with
   |some (some s)=>M.bind (M.of (noS s)) λs=>M.ret (.rt s)
   |_=>M.no)
  |e=>M.bind (ev F e ρ) λl=>M.bind (M.of ((one l).bind noS)) λs=>M.ret (.rt s)
 |.iff c t e=>λρ=>M.bind (ev F c ρ) λx=>M.bind (M.of ((pl x).bind asB)) λc=>if c then ex F tp t ρ else ex F tp e ρ|.fr p it src b=>λρ=>M.bind (ev F src ρ) λl=>M.bind (M.of ((plA l).bind (itD it))) λxs=>X70 (λx ρ=>M.bind (M.of (f10 p x ρ)) λρ=>ex F tp b ρ) xs (v71 it src l ρ)|.whl c b=>λρ=>T71 (ev F c) (ex F tp b) j92 ρ|.rais c=>λ_ z=>some (.er c z)|.exp e=>λρ=>M.bind (ev F e ρ) λl=>M.bind (M.of (one l)) λ_=>M.ret (.nx ρ)|.app i e=>λρ=>M.bind (M.of (ownAt ρ i)) λxs=>M.bind (ev F e ρ) λl=>M.bind (M.of (pl l)) λx=>if bare x=true/\xs.length < most then M.ret (.nx (ρ.set i (some (.fr (xs++[x]))))) else M.no
 |.augi i ix e=>λρ=>M.bind (M.of (ownAt ρ i)) λxs=>M.bind (ev F ix ρ) λj=>M.bind (M.of ((pl j).bind asI)) λj=>M.bind (M.of (atI xs j)) λy=>M.bind (ev F e ρ) λl=>M.bind (M.of (pl l)) λx =>
   M.bind (M.of ((asI x).bind λx=>(asI y).map λy=>D.int (y + x))) λv=>M.bind (M.of (G90 xs j v)) λxs=>M.ret (.nx (ρ.set i (some (.fr xs))))
 |.newz i f as=>λρ=>M.bind (ev F (.call f as) ρ) λl=>λ_=>v81 tp ρ i l|.zset i e=>λρ=>M.bind (ev F e ρ) λl=>M.bind (M.of ((pl l).bind asI)) λv=>λz=>v91 ρ v ρ[i]? z
inductive Df where
 |code (ps ns:Nat) (b:Sm) | prim (f:List S->M S)
def L60:Z->Z->Z
 |none,_=>none|some _,z=>z
def start(ns:Nat)(l:List S):Env:=l.map some++ì (ns - l.length) none
def run(F:FT):Df->List S->M S
 |.code ps ns b,l=>λz=>if l.length=ps/\ps<=ns then(match ex F z.isNone b (start ns (l.map plS)) z with
  |some (.ok (.nx _) z1)=>some (.ok (.d .non) (L60 z z1))|some (.ok (.rt s) z1)=>some (.ok s (L60 z z1))|some (.er c z1)=>some (.er c (L60 z z1))
  |none=>none) else none
 |.prim f,l=>f l
def b40(T:List Df):Nat->Nat->List S->M S
 |k + 3,f,l=>match T[f]? with
  |some d=>run (λb g m=>match b with | true=>b40 T k g m | false=>b40 T (k + 2) g m) d l
  |none=>M.no
 |_,_,_=>M.no
abbrev T00(T:List Df)(k:Nat):FT:=λb g m=>match b with | true=>b40 T (k - 2) g m | false=>b40 T k g m
theorem Z90(T:List Df)(k f:Nat)(l:List S):b40 T (k + 3) f l=match T[f]? with
  |some d=>run (T00 T (k + 2)) d l|none=>M.no:=rfl
end Q
namespace Q
open PySem L2 PySem.Spec PyProof.Rows
def p70(K:Â)(H:Hp)(a:Ç)(xs:List V):Prop:=Rd H a (.lst xs)∨∃ (its:Array Ä) (n:Nat),K.lookup a=some { cls:=.type "list",data:=.seq its n }/\its.size<=Ú/\Vals xs its.toList
theorem p70.of{K:Â}{H:Hp}{a:Ç}{xs:List V}(h:H a=some (.lst xs)):p70 K H a xs:=.inl (.inl h)
theorem p70.sq{K:Â}{H:Hp}{a:Ç}{xs:List V}(h:p70 K H a xs):SqL K H a xs:=by
 rcases h with h | ⟨its,n,h1,h2,h3⟩
 ·exact .inl h
 ·exact .inr ⟨_,its,n,h1,rfl,rfl,rfl,h2,h3⟩
theorem p70.same{K:Â}{H H':Hp}{a:Ç}{xs:List V}(h:p70 K H a xs)(e:a30 H H'):p70 K H' a xs:=by
 rcases h with (h | ⟨o,h⟩) | h
 ·exact .inl (.inl (e _ _ h))
 ·exact .inl (.inr ⟨o,e _ _ h⟩)
 ·exact .inr h
theorem p70.mem(I:Inv X pins σ H s)(h:p70 X.K H a xs):xs.length<=Ú/\∃ (its:List Ä) (n:Nat),Vals xs its/\xs.length=its.length/\s.heap.get? a=some { cls:=.type "list",data:=.seq its.toArray n }:=by
 rcases h with (h | ⟨o,h⟩) | ⟨its,n,h1,h2,h3⟩
 ·exact I.n72 h
 ·obtain⟨e,z,its,n,r,e2⟩:=I.hok a _ h;exact⟨z,its,n,r,r.length,e2⟩
 ·refine⟨by rw[h3.length,Ê4];exact h2,its.toList,n,h3,h3.length,?_⟩
  have:=I.kIn a _ h1;rw[Ð1];exact this
mutual
def Hd(K:Â)(H:Hp):D->V->Prop
 |.non,v=>v=.non|.bl b,v=>v=.bl b|.int i,v=>v=.int i|.str x,v=>v=.str x|.tup ds,v=>∃ a xs,v=.ref a/\SqT K H a xs/\HdA K H ds xs|.lst ds,v=>∃ a xs,v=.ref a/\p70 K H a xs/\HdA K H ds xs|.dct,v=>∃ a kvs,v=.ref a/\H a=some (.dK kvs)
def HdA(K:Â)(H:Hp):List D->List V->Prop
 |[],xs=>xs=[]|d::ds,xs=>∃ x r,xs=x::r/\Hd K H d x/\HdA K H ds r
end
section
variable {K:Â}{H H':Hp}
mutual
theorem Hd.same(e:a30 H H'):∀ {d:D}{v:V},Hd K H d v->Hd K H' d v
 |.non,_,h=>by unfold Hd at h ⊢;exact h|.bl _,_,h=>by unfold Hd at h ⊢;exact h|.int _,_,h=>by unfold Hd at h ⊢;exact h|.str _,_,h=>by unfold Hd at h ⊢;exact h
 |.tup ds,_,h=>by
  unfold Hd at h ⊢;obtain⟨a,xs,rfl,h1,h2⟩:=h;exact⟨a,xs,rfl,e.sqT h1,HdA.same e h2⟩
 |.lst ds,_,h=>by
  unfold Hd at h ⊢;obtain⟨a,xs,rfl,h1,h2⟩:=h;exact⟨a,xs,rfl,h1.same e,HdA.same e h2⟩
 |.dct,_,h=>by
  unfold Hd at h ⊢;obtain⟨a,kvs,rfl,h1⟩:=h;exact⟨a,kvs,rfl,e _ _ h1⟩
theorem HdA.same(e:a30 H H'):∀ {ds:List D}{xs:List V},HdA K H ds xs->HdA K H' ds xs
 |[],_,h=>by unfold HdA at h ⊢;exact h
 |d::ds,_,h=>by
  unfold HdA at h ⊢;obtain⟨x,r,rfl,h1,h2⟩:=h;exact⟨x,r,rfl,Hd.same e h1,HdA.same e h2⟩
end
mutual
theorem Hd.has:∀ {d:D}{v:V},Hd K H d v->Has K H d v
 |.non,_,h=>by unfold Hd at h;unfold Has;exact h|.bl _,_,h=>by unfold Hd at h;unfold Has;exact h|.int _,_,h=>by unfold Hd at h;unfold Has;exact h|.str _,_,h=>by unfold Hd at h;unfold Has;exact h
 |.tup ds,_,h=>by
  unfold Hd at h;unfold Has;obtain⟨a,xs,rfl,h1,h2⟩:=h;exact⟨a,xs,rfl,h1,HdA.has h2⟩
 |.lst ds,_,h=>by
  unfold Hd at h;unfold Has;obtain⟨a,xs,rfl,h1,h2⟩:=h;exact⟨a,xs,rfl,h1.sq,HdA.has h2⟩
 |.dct,_,h=>by unfold Hd at h;unfold Has;exact h
theorem HdA.has:∀ {ds:List D}{xs:List V},HdA K H ds xs->G50 K H ds xs
 |[],_,h=>by unfold HdA at h;unfold G50;exact h
 |d::ds,_,h=>by
  unfold HdA at h;unfold G50;obtain⟨x,r,rfl,h1,h2⟩:=h;exact⟨x,r,rfl,Hd.has h1,HdA.has h2⟩
end
theorem HdA.nil:HdA K H [] []:=by unfold HdA;rfl
theorem HdA.cons(h:Hd K H d x)(r:HdA K H ds xs):HdA K H (d::ds) (x::xs):=by unfold HdA;exact⟨x,xs,rfl,h,r⟩
theorem HdA.c60(h:HdA K H (d::ds) xs):∃ x r,xs=x::r/\Hd K H d x/\HdA K H ds r:=by unfold HdA at h;exact h
theorem HdA.f50(h:HdA K H [] xs):xs=[]:=by unfold HdA at h;exact h
theorem HdA.length:∀ {ds:List D}{xs:List V},HdA K H ds xs->xs.length=ds.length
 |[],_,h=>by rw[h.f50];rfl
 |d::ds,_,h=>by
  obtain⟨x,r,rfl,_,h2⟩:=h.c60;simp[h2.length]
theorem HdA.get:∀ {ds:List D}{xs:List V}{i:Nat}{d:D},HdA K H ds xs->ds[i]?=some d->∃ x,xs[i]?=some x/\Hd K H d x
 |[],_,_,_,_,e=>by simp at e
 |d::ds,_,i,d',h,e=>by
  obtain⟨y,r,rfl,h1,h2⟩:=h.c60;cases i with
  |zero=>simp at e;subst e;exact⟨y,rfl,h1⟩
  |succ i =>
   obtain⟨x',e1,e2⟩:=HdA.get (i:=i) h2 (by simpa using e)
   exact⟨x',by simpa using e1,e2⟩
theorem HdA.append:∀ {ds es:List D}{xs ys:List V},HdA K H ds xs->HdA K H es ys->HdA K H (ds++es) (xs++ys)
 |[],_,_,_,h,g=>by rw[h.f50];exact g
 |d::ds,_,_,_,h,g=>by
  obtain⟨x,r,rfl,h1,h2⟩:=h.c60;exact .cons h1 (HdA.append h2 g)
theorem HdA.take:∀ {ds:List D}{xs:List V} (n:Nat),HdA K H ds xs->HdA K H (ds.take n) (xs.take n)
 |ds,xs,0,_=>by simp;exact .nil|[],_,n + 1,h=>by rw[h.f50];simp;exact .nil
 |d::ds,_,n + 1,h=>by
  obtain⟨x,r,rfl,h1,h2⟩:=h.c60;exact .cons h1 (HdA.take n h2)
theorem HdA.drop:∀ {ds:List D}{xs:List V} (n:Nat),HdA K H ds xs->HdA K H (ds.drop n) (xs.drop n)
 |ds,xs,0,h=>by simpa using h|[],_,n + 1,h=>by rw[h.f50];simp;exact .nil
 |d::ds,_,n + 1,h=>by
  obtain⟨x,r,rfl,h1,h2⟩:=h.c60;exact HdA.drop n h2
theorem HdA.reverse:∀ {ds:List D}{xs:List V},HdA K H ds xs->HdA K H ds.reverse xs.reverse
 |[],_,h=>by rw[h.f50];simp;exact .nil
 |d::ds,_,h=>by
  obtain⟨x,r,rfl,h1,h2⟩:=h.c60;rw[Ô5,Ô5];exact(HdA.reverse h2).append (.cons h1 .nil)
theorem HdA.rep(h:HdA K H ds xs):∀ n:Nat,HdA K H (ì n ds).flatten (ì n xs).flatten
 |0=>by simp;exact .nil|n + 1=>by rw[Å5,Å5,É5,É5];exact h.append (h.rep n)
theorem HdA.set:∀ {ds:List D}{xs:List V}{d:D}{x:V} (i:Nat),HdA K H ds xs->Hd K H d x->HdA K H (ds.set i d) (xs.set i x)
 |[],_,_,_,_,h,_=>by rw[h.f50];simp;exact .nil
 |e::ds,_,d,x,i,h,g=>by
  obtain⟨y,r,rfl,h1,h2⟩:=h.c60;cases i with
  |zero=>exact .cons g h2|succ i=>exact .cons h1 (HdA.set i h2 g)
theorem HdA.ints:∀ ns:List Int,HdA K H (ns.map D.int) (ns.map V.int)
 |[]=>.nil|n::r=>.cons (by unfold Hd;rfl) (HdA.ints r)
theorem Hd.j00(h:Hd K H (.int i) v):v=.int i:=by unfold Hd at h;exact h
theorem Hd.bl_(h:Hd K H (.bl b) v):v=.bl b:=by unfold Hd at h;exact h
theorem Hd.F42(h:Hd K H .non v):v=.non:=by unfold Hd at h;exact h
theorem Hd.F52{x:Str}{v:V}(h:Hd K H (.str x) v):v=.str x:=by unfold Hd at h;exact h
theorem Hd.z60(h:Hd K H (.tup ds) v):∃ a xs,v=.ref a/\SqT K H a xs/\HdA K H ds xs:=by unfold Hd at h;exact h
theorem Hd.X80(h:Hd K H (.lst ds) v):∃ a xs,v=.ref a/\p70 K H a xs/\HdA K H ds xs:=by unfold Hd at h;exact h
theorem Hd.int:Hd K H (.int i) (.int i):=by unfold Hd;rfl
theorem Hd.bl:Hd K H (.bl b) (.bl b):=by unfold Hd;rfl
theorem Hd.non:Hd K H .non .non:=by unfold Hd;rfl
theorem Hd.str{x:Str}:Hd K H (.str x) (.str x):=by unfold Hd;rfl
theorem Hd.tup(h:SqT K H a xs)(r:HdA K H ds xs):Hd K H (.tup ds) (.ref a):=by unfold Hd;exact⟨a,xs,rfl,h,r⟩
theorem Hd.lst(h:H a=some (.lst xs))(r:HdA K H ds xs):Hd K H (.lst ds) (.ref a):=by unfold Hd;exact⟨a,xs,rfl,p70.of h,r⟩
end
def noT(H:Hp):Hp:=λb=>match H b with
 |some (.tbl _)=>none|o=>o
theorem T10(h:noT H b=some o):H b=some o/\∀ ps,o≠.tbl ps:=by
 unfold noT at h;split at h
 ·cases h
 ·rename_i n;exact⟨h,λps e=>n ps (by rw[h,e])⟩
theorem a01(h:H b=some o)(n:∀ ps,o≠.tbl ps):noT H b=some o:=by
 unfold noT;split
 ·rename_i ps e;rw[h] at e;cases e;exact absurd rfl (n ps)
 ·exact h
theorem A10(H:Hp):a30 (noT H) H:=λ_ _ h=>(T10 h).1
theorem f41(e:a30 H H'):a30 (noT H) (noT H'):=λb o h=>a01 (e b o (T10 h).1) (T10 h).2
def hz(zA:Option Ç)(H:Hp):Hp:=match zA with
 |some a=>hide a (noT H)|none=>noT H
class Tb where
 tb:List (Addr × Str)
variable [TB:Tb]
def zAt(zA:Option Ç)(z:Z)(H:Hp):Prop:=match zA,z with
 |some a,some (n,b)=>H a=some (.lst [.int n,.bl b])|none,none=>True|_,_=>False
structure e30(zA:Option Addr)(z:Z)(H:Hp):Prop where
 zat:zAt zA z H
 tab:∀ p∈TB.tb,Tab H p.1 p.2
theorem a10(zA:Option Ç)(H:Hp):a30 (hz zA H) H:=by
 cases zA with
 |none=>exact A10 H|some a=>exact a30.trans (f00 a _) (A10 H)
theorem k30(e:a30 H H'):a30 (hz zA H) (hz zA H'):=by
 cases zA with
 |none=>exact f41 e|some a=>exact B90 λb o _ h=>f41 e b o h
theorem d90(h:H b=some o)(n:zA≠some b)(ht:∀ ps,o≠.tbl ps:=by exact λ_ h=>nomatch h):hz zA H b=some o:=by
 cases zA with
 |none=>exact a01 h ht|some a=>exact K60 (a01 h ht) λe=>n (by rw[e])
theorem q40(h:hz zA H b=some o):H b=some o/\zA≠some b:=by
 cases zA with
 |none=>exact⟨A10 H b o h,λe=>nomatch e⟩
 |some a =>
  refine⟨A10 H b o (f00 a _ b o h),λe=>?_⟩;cases e;have:hide b (noT H) b=some o:=h;unfold hide at this;rw[if_pos rfl] at this;cases this
theorem r00(h:hz zA H b=some o):∀ ps,o≠.tbl ps:=by
 cases zA with
 |none=>exact(T10 h).2|some a=>exact(T10 (f00 a _ b o h)).2
structure Ext(zA:Option Addr)(H H':Hp):Prop where
 same:a30 (hz zA H) (hz zA H')
 tbl:∀ b ps,H b=some (.tbl ps)->∃ qs,H' b=some (.tbl qs)
instance {zA:Option Ç}{H H':Hp}:CoeFun (Ext zA H H') (λ_=>∀ b o,hz zA H b=some o->hz zA H' b=some o):=⟨λx=>x.same⟩
instance {zA:Option Ç}{H H':Hp}:CoeOut (Ext zA H H') (a30 (hz zA H) (hz zA H')):=⟨λx=>x.same⟩
theorem Ext.refl:Ext zA H H:=⟨a30.refl _,λb ps h=>⟨ps,h⟩⟩
theorem Ext.trans(a:Ext zA H H1)(b:Ext zA H1 H2):Ext zA H H2:=⟨a30.trans a.same b.same,λc ps h=>let ⟨qs,h1⟩:=a.tbl c ps h;b.tbl c qs h1⟩
theorem Ext.of(e:a30 H H'):Ext zA H H':=⟨k30 e,λb ps h=>⟨ps,e b _ h⟩⟩
theorem Ext.at(e:Ext zA H H')(h:H a=some o)(n:zA≠some a)(ht:∀ ps,o≠.tbl ps:=by exact λ_ h=>nomatch h):H' a=some o:=(q40 (e.same a o (d90 h n ht))).1
theorem Ext.free(e:Ext zA H H')(h:H' a=none)(n:zA≠some a):H a=none:=by
 cases q:H a with
 |none=>rfl
 |some o =>
  by_cases ht:∃ ps,o=.tbl ps
  ·obtain⟨ps,rfl⟩:=ht;obtain⟨qs,q'⟩:=e.tbl a ps q;rw[q'] at h;cases h
  ·rw[e.at q n λps z=>ht ⟨ps,z⟩] at h;cases h
theorem zAt.same(h:zAt zA z H)(e:a30 H H'):zAt zA z H':=by
 cases zA with
 |none=>cases z with
  |none=>trivial|some _=>exact h.elim
 |some a=>cases z with
  |none=>exact h.elim|some p=>exact e _ _ h
theorem e30.same(h:e30 zA z H)(e:a30 H H'):e30 zA z H':=⟨h.zat.same e,λp hp=>(h.tab p hp).same e⟩
theorem Tab.upd{H:Hp}{P a:Ç}{q:Str}{xs:List V}{o:HO}(t:Tab H P q)(h:H a=some (.lst xs)):Tab (upd H a o) P q:=by
 obtain⟨ps,e,tr,k⟩:=t;have ne:∀ {b:Ç}{u:HO},H b=some u->(∀ l,u≠.lst l)->b≠a:=λ{b u} e1 e2 z=>by
  subst z;rw[h] at e1;cases e1;exact e2 _ rfl
 refine⟨ps,by rw[a60 (ne e λ_ z=>nomatch z)];exact e,tr,λpos c hc=>?_⟩
 obtain⟨c',e1,e2⟩:=k pos c hc;exact⟨c',e1,by rw[a60 (ne e2 λ_ z=>nomatch z)];exact e2⟩
theorem e30.c52{K:Â}{zA:Option Ç}{z:Z}{H:Hp}(h:e30 zA z H){a:Ç}{xs:List V}(t:SqT K H a xs):SqT K (hz zA H) a xs:=by
 have h:=h.zat;rcases t with (t | ⟨o,t⟩) | t
 ·refine .inl (.inl (d90 t λe=>?_));subst e;cases z with
  |none=>exact h.elim
  |some p =>
   have h':H a=some (.lst [.int p.1,.bl p.2]):=h;rw[t] at h';cases h'
 ·refine .inl (.inr ⟨o,d90 t λe=>?_⟩);subst e;cases z with
  |none=>exact h.elim
  |some p =>
   have h':H a=some (.lst [.int p.1,.bl p.2]):=h;rw[t] at h';cases h'
 ·exact .inr t
theorem e30.w01(h:e30 zA z H)(n:H a=none):zA≠some a:=λe=>by
 have h:=h.zat;subst e;cases z with
 |none=>exact h.elim
 |some p =>
  have h':H a=some (.lst [.int p.1,.bl p.2]):=h;rw[n] at h';cases h'
def RvS(K:Â)(zA:Option Ç)(H0 H:Hp):S->V->Prop
 |.d x,v=>Hd K (hz zA H) x v|.fr xs,v=>∃ a ys,v=.ref a/\H0 a=none/\zA≠some a/\H a=some (.lst ys)/\HdA K (hide a (hz zA H)) xs ys|.z,v=>∃ a,zA=some a/\v=.ref a
def RvP(K:Â)(zA:Option Ç)(H:Hp):S->V->Prop
 |.d x,v=>Hd K (hz zA H) x v|.fr xs,v=>Hd K (hz zA H) (.lst xs) v|.z,v=>∃ a,zA=some a/\v=.ref a
section
variable {K:Â}{zA:Option Ç}{H0 H H':Hp}
theorem RvS.pl{s:S}{v:V}(h:RvS K zA H0 H s v):RvP K zA H s v:=by
 cases s with
 |d x=>exact h|z=>exact h
 |fr xs =>
  obtain⟨a,ys,rfl,_,h2,h3,h4⟩:=h;exact Hd.lst (d90 h3 h2) (h4.same (f00 a _))
theorem RvP.plS{s:S}{v:V}(h:RvP K zA H s v):RvP K zA H (plS s) v:=by cases s <;> exact h
theorem RvP.mono{s:S}{v:V}(h:RvP K zA H s v)(e:Ext zA H H'):RvP K zA H' s v:=by
 cases s with
 |d x=>exact Hd.same e h|z=>exact h|fr xs=>exact Hd.same e h
theorem RvS.mono{s:S}{v:V}(h:RvS K zA H0 H s v)(e:Ext zA H H'):RvS K zA H0 H' s v:=by
 cases s with
 |d x=>exact Hd.same e h|z=>exact h
 |fr xs =>
  obtain⟨a,ys,rfl,h1,h2,h3,h4⟩:=h;exact⟨a,ys,rfl,h1,h2,e.at h3 h2,h4.same (B90 λb o _ q=>e b o q)⟩
theorem RvS.from{H1:Hp}{s:S}{v:V}(h:RvS K zA H1 H s v)(e:Ext zA H0 H1):RvS K zA H0 H s v:=by
 cases s with
 |d x=>exact h|z=>exact h
 |fr xs =>
  obtain⟨a,ys,rfl,h1,h2,h3⟩:=h;exact⟨a,ys,rfl,e.free h1 h2,h2,h3⟩
theorem RvP.d_{s:S}{v:V}{x:D}(h:RvP K zA H s v)(e:plD s=some x):Hd K (hz zA H) x v:=by
 cases s with
 |d y=>cases e;exact h
 |fr xs=>cases e;exact h
 |z=>cases e
end
abbrev RvA(K:Â)(zA:Option Ç)(H:Hp):List S->List V->Prop:=Æ0 (RvP K zA H)
theorem RvA.mono{K:Â}{zA:Option Ç}{H H':Hp}{l:List S}{vs:List V}(h:RvA K zA H l vs)(e:Ext zA H H'):RvA K zA H' l vs:=Æ0.j72 h λ_ _ q=>q.mono e
theorem RvA.plS{K:Â}{zA:Option Ç}{H:Hp}:∀ {l:List S}{vs:List V},RvA K zA H l vs->RvA K zA H (l.map plS) vs
 |_,_,.nil=>.nil|_,_,.cons r t=>.cons r.plS (RvA.plS t)
theorem RvA.ds{K:Â}{zA:Option Ç}{H:Hp}:∀ {l:List S}{vs:List V}{ds:List D},RvA K zA H l vs->plA l=some ds->HdA K (hz zA H) ds vs
 |_,_,_,.nil,e=>by cases e;exact .nil
 |.d x::r,_,_,.cons h t,e=>by
  simp only[plA,Ô9] at e;obtain⟨l,e,rfl⟩:=e;exact .cons h (RvA.ds t e)
 |.fr x::r,_,_,.cons h t,e=>by
  simp only[plA,Ô9] at e;obtain⟨l,e,rfl⟩:=e;exact .cons h (RvA.ds t e)
 |.z::r,_,_,.cons h t,e=>by simp[plA] at e
theorem f80(h:pl l=some x):∃ s,l=[s]/\plD s=some x:=by
 unfold pl at h;split at h
 ·exact⟨_,rfl,h⟩
 ·exact⟨_,rfl,h⟩
 ·cases h
theorem M.bind_some{α β:Type}{m:M α}{f:α->M β}{z:Z}{r:R β}(h:M.bind m f z=some r):(∃ a z1,m z=some (.ok a z1)/\f a z1=some r)∨(∃ c z1,m z=some (.er c z1)/\r=.er c z1):=by
 unfold M.bind at h;split at h
 ·exact .inl ⟨_,_,by assumption,h⟩
 ·cases h;exact .inr ⟨_,_,by assumption,rfl⟩
 ·cases h
theorem M.a20{α β:Type}{o:Option α}{f:α->M β}{z:Z}{r:R β}(h:M.bind (M.of o) f z=some r):∃ a,o=some a/\f a z=some r:=by
 cases o with
 |none=>cases h
 |some a=>exact⟨a,rfl,h⟩
end Q
set_option exponentiation.threshold 5000
namespace Q
open PySem L2 PySem.Spec PyProof.Rows
variable [TB:Tb]
section
variable {K:Â}{zA:Option Ç}{z:Z}{H:Hp}
theorem M91(hp:H p=none):a30 (hz zA H) (hide p (hz zA (upd H p o))):=λb u e=>by
 obtain⟨e1,e2⟩:=q40 e;have hb:b≠p:=λq=>by subst q;rw[hp] at e1;cases e1
 exact K60 (d90 (by rw[a60 hb];exact e1) e2 (r00 e)) hb
theorem j60:RvS K zA H0 H (.d (.int i)) (.int i):=Hd.int (K:=K) (H:=hz zA H)
theorem j10:RvS K zA H0 H (.d (.bl b)) (.bl b):=Hd.bl (K:=K) (H:=hz zA H)
theorem G91(h:Hd K (hz zA H) x v):RvS K zA H0 H (.d x) v:=h
theorem n20(st:e30 zA z H)(h:HdA K (hz zA H) xs ys)(hp:H p=none):RvS K zA H (upd H p (.lst ys)) (.fr xs) (.ref p) :=
 ⟨p,ys,rfl,hp,st.w01 hp,b20,h.same (M91 hp)⟩
theorem tupQ(st:e30 zA z H)(h:HdA K (hz zA H) xs ys)(q:∀ v H',a30 H H'->RvS K zA H H' (.d (.tup xs)) v->Q v H'):K61 K H ys Q :=
 λp H' sm hq=>q _ _ sm (G91 (Hd.tup ((st.same sm).c52 hq) (h.same (k30 sm))))
end
def rD2(K:Â)(f:D->D->Option S):R2:=λx y H Q=>∃ zA z dx dy s,e30 zA z H/\Hd K (hz zA H) dx x/\Hd K (hz zA H) dy y/\f dx dy=some s/\∀ v H',a30 H H'->RvS K zA H H' s v->Q v H'
def rDn(K:Â)(f:List D->Option S):List V->Hp->VK->Prop:=λxs H Q=>∃ zA z ds s,e30 zA z H/\HdA K (hz zA H) ds xs/\f ds=some s/\∀ v H',a30 H H'->RvS K zA H H' s v->Q v H'
section
variable {X:Cx}
theorem bits_le(h:k.natAbs < P30):Þ7 k<=4000:=by
 unfold Þ7;split
 ·exact Æ1 _
 ·have hn:k.natAbs < 2 ^ 4000:=h;have:k.natAbs.log2 < 4000:=by
   rcases Nat.eq_zero_or_pos k.natAbs with h0 | hp
   ·rw[h0];decide
   ·exact(Nat.log2_lt (Ê3 hp)).mpr hn
  omega
theorem q32(hi:i.natAbs < P30)(hj:j.natAbs < P30):IntMulOk i j:=by
 have h1:=bits_le hi;have h2:=bits_le hj;unfold IntMulOk;intro h;rw[Á] at h;have h3:=h.2;unfold ÿ.Int.intTooBig at h3;simp only[decide_eq_true_eq] at h3;have:(8000:Nat) < bitsLine:=by decide
 omega
theorem w11(hj:j.natAbs < P30):ÿ.divisionGoesByPylong i j=false:=by
 refine PyProof.noPylong_of_log2 ?_;rcases Nat.eq_zero_or_pos j.natAbs with h0 | hp
 ·rw[h0];decide
 ·have:j.natAbs.log2 < 4000:=(Nat.log2_lt (Ê3 hp)).mpr hj;omega
theorem g80(h:n<=most):n<=sizeLine:=Ñ h (by rw[Á2];decide)
def F62(K:Â):R2:=λx y H Q=>∃ l b xs zs,x=.ref l/\y=.ref b/\p70 K H l xs/\p70 K H b zs/\xs.length + zs.length<=Ú/\∀ p,H p=none->Q (.ref p) (upd H p (.lst (xs++zs)))
def F72(K:Â):R2:=λx y H Q=>∃ l k xs,x=.ref l/\y=.int k/\p70 K H l xs/\-(2 ^ 63)<=k/\k < 2 ^ 63/\xs.length * k.toNat<=Ú/\∀ p,H p=none->Q (.ref p) (upd H p (.lst (ì k.toNat xs).flatten))
theorem c62:OpR X (Ä2 .Add) (F62 X.K):=by
 intro pins s σ H x y v u Q I rx ry h;obtain⟨l,b,xs,zs,rfl,rfl,hH,hB,hz,q⟩:=h;cases rx;cases ry;obtain⟨z,its,n,r,hl,e⟩:=hH.mem I;obtain⟨z2,its2,n2,r2,hl2,e2⟩:=hB.mem I;refine PySem.P.add_list e e2 ?_ (by rw[Ó,Ó];omega)
 have ea:its.toArray++its2.toArray=(its++its2).toArray:=by simp
 rw[ea];exact⟨.ref _,_,I.D92 (t':=s.toks) (r.append r2) (by rw[Á9];omega),rfl,q _ I.fresh⟩
theorem c72:OpR X (Ä2 .Mult) (F72 X.K):=by
 intro pins s σ H x y v u Q I rx ry h;obtain⟨l,k,xs,rfl,rfl,hH,h1,h2,hz,q⟩:=h;cases rx;obtain⟨t,rfl⟩:=ry;obtain⟨z,its,n,r,hl,e⟩:=hH.mem I;have hlen:its.toArray.size * k.toNat<=sizeLine:=by rw[Ó,← hl];exact hz
 have hcap:¬ its.toArray.size * k.toNat > (2 ^ 63 - 1) / 8:=by
  have:(Ú:Nat)<=(2 ^ 63 - 1) / 8:=by decide
  omega
 have hfit:¬ (!ÿ.List.listFitsIndex k)=true:=by
  rw[fitsIndex_both h1 h2];exact Ð
 have hlong:¬ Í3 (its.toArray.size * k.toNat)=true:=by
  rw[I51 hlen];exact Ð
 have hnew:foldl (λx1 x2=>x1++x2) #[] (ì (if its.toArray.isEmpty=true then 0 else k.toNat) its.toArray)=(ì k.toNat its).flatten.toArray:=by
  have f0:∀ m:Nat,foldl (λx1 x2=>x1++x2) #[] (ì m its.toArray)=(ì m its).flatten.toArray:=λm=>by
   have:=foldl_rep its m [];rw[Ì7] at this;exact this
  rw[f0];cases its with
  |nil=>simp|cons a r'=>rw[if_neg (by simp)]
 refine wpAny_binaryOp_repeat_ref (T:="list") (U:="int") (-0) ⟨_,e,rfl⟩ (λs'=>Û9 s' k t) noFill_list_mul F.fills_int_mul Õ6 repeat_list F.slot_int_index.lookup
  (È2 Õ6 (Û9 s k t) F.entry_int_rmul (F.args_int_rmul_2 _ _) (int___rmul___int_list k t l its.toArray n)
   ⟨e,rfl,⟨_,e,rfl⟩,È2 F.slot_list_mul ⟨_,e,rfl⟩ F.entry_list_mul (F.args_list_mul_2 _ _) (AutoListH.list___mul___list_int_3 l its.toArray n k t hfit hcap hlong) ⟨e,?_⟩⟩)
 rw[hnew];exact⟨.ref _,_,I.D92 (t':=s.toks) (r.rep k.toNat) (by rw[len_rep,Ó8];exact hz),rfl,q _ I.fresh⟩
theorem c82:OpR X (Ä2 .Add) (rD2 X.K (z50 .add)):=by
 intro pins s σ H x y v u Q I rx ry h;obtain⟨zA,z,dx,dy,w,st,hx,hy,e,q⟩:=h;cases dx with
 |int i =>
  cases dy with
  |int j =>
   cases e;cases hx.j00;cases hy.j00;exact m72 pins s σ H _ _ v u Q I rx ry ⟨i,j,rfl,rfl,q _ _ (a30.refl H) j60⟩
  |_=>cases e
 |tup a =>
  cases dy with
  |tup b =>
   obtain⟨hl,e⟩:=g00 e;cases e;obtain⟨p,xs,rfl,h1,h2⟩:=hx.z60;obtain⟨p',ys,rfl,h3,h4⟩:=hy.z60;exact a22 pins s σ H _ _ v u Q I rx ry ⟨p,p',xs,ys,rfl,rfl,(a10 zA H).sqT h1,(a10 zA H).sqT h3,g80 (by rw[h2.length,h4.length];exact hl),tupQ st (h2.append h4) q⟩
  |_=>cases e
 |lst a =>
  cases dy with
  |lst b =>
   obtain⟨hl,e⟩:=g00 e;cases e;obtain⟨p,xs,rfl,h1,h2⟩:=hx.X80;obtain⟨p',ys,rfl,h3,h4⟩:=hy.X80;exact c62 pins s σ H _ _ v u Q I rx ry ⟨p,p',xs,ys,rfl,rfl,h1.same (a10 zA H),h3.same (a10 zA H),g80 (by rw[h2.length,h4.length];exact hl),λr hr=>q _ _ (a30.new _ hr) (n20 st (h2.append h4) hr)⟩
  |_=>cases e
 |_=>cases e
theorem c92:OpR X (Ä2 .Sub) (rD2 X.K (z50 .sub)):=by
 intro pins s σ H x y v u Q I rx ry h;obtain⟨zA,z,dx,dy,w,st,hx,hy,e,q⟩:=h;cases dx with
 |int i =>
  cases dy with
  |int j =>
   cases e;cases hx.j00;cases hy.j00;exact m82 pins s σ H _ _ v u Q I rx ry ⟨i,j,rfl,rfl,q _ _ (a30.refl H) j60⟩
  |_=>cases e
 |_=>cases e
theorem d02:OpR X (Ä2 .Mult) (rD2 X.K (z50 .mul)):=by
 intro pins s σ H x y v u Q I rx ry h;obtain⟨zA,z,dx,dy,w,st,hx,hy,e,q⟩:=h;cases dx with
 |int i =>
  cases dy with
  |int j =>
   obtain⟨hl,e⟩:=g00 e;cases e;cases hx.j00;cases hy.j00;obtain⟨t,rfl⟩:=rx;obtain⟨t',rfl⟩:=ry;exact mul_int ⟨.int (i * j),H,I.tok _,⟨_,rfl⟩,q _ _ (a30.refl H) j60⟩ (q32 hl.1 hl.2)
  |_=>cases e
 |tup a =>
  cases dy with
  |int j =>
   obtain⟨hl,e⟩:=g00 e;cases e;cases hy.j00;obtain⟨p,xs,rfl,h1,h2⟩:=hx.z60;exact a32 pins s σ H _ _ v u Q I rx ry ⟨p,j,xs,rfl,rfl,(a10 zA H).sqT h1,hl.1,hl.2.2,g80 (by rw[h2.length];exact hl.2.1),tupQ st (h2.rep _) q⟩
  |_=>cases e
 |lst a =>
  cases dy with
  |int j =>
   obtain⟨hl,e⟩:=g00 e;cases e;cases hy.j00;obtain⟨p,xs,rfl,h1,h2⟩:=hx.X80;exact c72 pins s σ H _ _ v u Q I rx ry ⟨p,j,xs,rfl,rfl,h1.same (a10 zA H),by omega,by omega,g80 (by rw[h2.length,Ó8];exact hl.2.1),λr hr=>q _ _ (a30.new _ hr) (n20 st (h2.rep _) hr)⟩
  |_=>cases e
 |_=>cases e
theorem N01:OpR X (Ä2 .FloorDiv) (rD2 X.K (z50 .fdiv)):=by
 intro pins s σ H x y v u Q I rx ry h;obtain⟨zA,z,dx,dy,w,st,hx,hy,e,q⟩:=h;cases dx with
 |int i =>
  cases dy with
  |int j =>
   obtain⟨hl,e⟩:=g00 e;cases e;cases hx.j00;cases hy.j00;obtain⟨t,rfl⟩:=rx;obtain⟨t',rfl⟩:=ry;refine floordiv_int ∅ ⟨.int (i / j),H,I.tok _,⟨s.toks,?_⟩,q _ _ (a30.refl H) j60⟩ (.inl (w11 hl.2))
   rw[Int.fdiv_eq_ediv_of_nonneg _ ∅]
  |_=>cases e
 |_=>cases e
theorem d12:OpR X (Ä2 .Mod) (rD2 X.K (z50 .mod)):=by
 intro pins s σ H x y v u Q I rx ry h;obtain⟨zA,z,dx,dy,w,st,hx,hy,e,q⟩:=h;cases dx with
 |int i =>
  cases dy with
  |int j =>
   obtain⟨hl,e⟩:=g00 e;cases e;cases hx.j00;cases hy.j00;exact m92 pins s σ H _ _ v u Q I rx ry ⟨i,j,rfl,rfl,hl,q _ _ (a30.refl H) j60⟩
  |_=>cases e
 |_=>cases e
theorem d22:OpR X (Ä2 .Pow) (rD2 X.K (z50 .pow)):=by
 intro pins s σ H x y v u Q I rx ry h;obtain⟨zA,z,dx,dy,w,st,hx,hy,e,q⟩:=h;cases dx with
 |int i =>
  cases dy with
  |int j =>
   obtain⟨hl,e⟩:=g00 e;cases e;cases hx.j00;cases hy.j00;exact n02 pins s σ H _ _ v u Q I rx ry ⟨i,j,rfl,rfl,⟨hl.1,by omega,hl.2.2⟩,q _ _ (a30.refl H) j60⟩
  |_=>cases e
 |_=>cases e
def opB:Bi->Ý5
 |.add=>.Add | .sub=>.Sub | .mul=>.Mult | .fdiv=>.FloorDiv | .mod=>.Mod | .pow=>.Pow
theorem opD(o:Bi):OpR X (Ä2 (opB o)) (rD2 X.K (z50 o)):=by
 cases o
 ·exact c82
 ·exact c92
 ·exact d02
 ·exact N01
 ·exact d12
 ·exact d22
mutual
noncomputable def toP:D->PyData
 |.non=>.none|.bl b=>.bool b|.int i=>.int i|.str x=>.str x|.tup l=>.tuple (P40 l)|.lst l=>.list (P40 l)|.dct=>.none
noncomputable def P40:List D->List PyData
 |[]=>[]|x::r=>toP x::P40 r
end
end
end Q
namespace Q
open PySem L2 PySem.Spec PyProof.Rows
variable [TB:Tb]
mutual
theorem T20:∀ a b:D,n00 a=true->n00 b=true->Ü7 (toP a) (toP b)=eqD a b
 |.non,b,_,h=>by cases b <;> first | rfl | (simp[n00] at h)
 |.bl _,b,_,h=>by cases b <;> first | rfl | (simp[n00] at h)
 |.int _,b,_,h=>by cases b <;> first | rfl | (simp[n00] at h)
 |.str _,b,_,h=>by cases b <;> first | rfl | (simp[n00] at h)
 |.tup l,b,ha,h=>by
  cases b with
  |tup q =>
   exact a11 l q (by simpa [n00] using ha) (by simpa [n00] using h)
  |dct=>simp[n00] at h|_=>rfl
 |.lst l,b,ha,h=>by
  cases b with
  |lst q =>
   exact a11 l q (by simpa [n00] using ha) (by simpa [n00] using h)
  |dct=>simp[n00] at h|_=>rfl
 |.dct,_,h,_=>by simp[n00] at h
theorem a11:∀ a b:List D,e60 a=true->e60 b=true->PyData.eqvAll (P40 a) (P40 b)=M41 a b
 |[],[],_,_=>rfl|[],_::_,_,_=>rfl|_::_,[],_,_=>rfl
 |x::r,y::q,ha,hb=>by
  simp only[e60,Á] at ha hb;simp only[P40,PyData.eqvAll,M41];rw[T20 x y ha.1 hb.1,a11 r q ha.2 hb.2]
end
mutual
theorem x80:∀ a:D,n00 a=true->(toP a).canLay0=true
 |.non,_=>rfl|.bl _,_=>rfl|.int _,_=>rfl|.str _,h=>h|.tup l,h=>r80 l h|.lst l,h=>r80 l h|.dct,h=>by cases h
theorem r80:∀ a:List D,e60 a=true->PyData.canLayAll0 (P40 a)=true
 |[],_=>rfl
 |x::r,h=>by
  simp only[e60,Á] at h;simp only[P40,PyData.canLayAll0,x80 x h.1,r80 r h.2,Bool.and_self]
end
mutual
theorem L70:∀ a:D,(toP a).depth=deep a
 |.non=>rfl|.bl _=>rfl|.int _=>rfl|.str _=>rfl|.tup l=>congrArg (· + 1) (L80 l)|.lst l=>congrArg (· + 1) (L80 l)|.dct=>rfl
theorem L80:∀ a:List D,Ò9 (P40 a)=f40 a
 |[]=>rfl
 |x::r=>by
  simp only[P40,Ò9,f40];rw[L70 x,L80 r]
end
def n01(h:é)(u:Ä)(d:D):Prop:=n00 d=true/\∃ as,Reads h u (toP d) as
def e70(h:é)(us:List Ä)(ds:List D):Prop:=e60 ds=true/\∃ as,ReadsAll h us (P40 ds) as
section
variable {X:Cx}{pins:List (Ç × Obj)}{σ:L2.St}{H:Hp}{s:Æ}
mutual
theorem i40(I:Inv X pins σ H s):∀ {d:D}{v:V}{u:Ä},Hd X.K H d v->RelV v u->n00 d=true->∃ as,Reads s.heap u (toP d) as
 |.non,_,_,h,r,_=>by cases h.F42;cases r;exact⟨_,.none⟩
 |.bl b,_,_,h,r,_=>by cases h.bl_;cases r;exact⟨_,.bool b⟩
 |.int i,_,_,h,r,_=>by cases h.j00;obtain⟨t,rfl⟩:=r;exact⟨_,.int i t⟩
 |.str x,_,_,h,r,_=>by cases h.F52;obtain⟨t,rfl⟩:=r;exact⟨_,.str x t⟩
 |.tup l,_,_,h,r,f=>by
  obtain⟨a,xs,rfl,h1,h2⟩:=h.z60;cases r;obtain⟨its,rv,⟨o,e1,e2,n,e3⟩,_⟩:=I.tuple h1;obtain⟨as,ra⟩:=C90 I h2 rv f;exact⟨_,.tuple e1 e2 e3 (by simpa using ra)⟩
 |.lst l,_,_,h,r,f=>by
  obtain⟨a,xs,rfl,h1,h2⟩:=h.X80;cases r;obtain⟨its,rv,⟨o,n,e1,e2,_,e3⟩,_⟩:=I.list h1.sq;obtain⟨as,ra⟩:=C90 I h2 rv f;exact⟨_,.list e1 e2 e3 (by simpa using ra)⟩
 |.dct,_,_,_,_,f=>by cases f
theorem C90(I:Inv X pins σ H s):∀ {ds:List D}{vs:List V}{us:List Ä},HdA X.K H ds vs->Vals vs us->e60 ds=true->∃ as,ReadsAll s.heap us (P40 ds) as
 |[],_,_,h,r,_=>by cases h.f50;cases r;exact⟨_,.nil⟩
 |d::ds,_,_,h,r,f=>by
  obtain⟨x,xs,rfl,h1,h2⟩:=h.c60;cases r with
  |cons r1 r2 =>
   simp only[e60,Á] at f;obtain⟨_,a1⟩:=i40 I h1 r1 f.1;obtain⟨_,a2⟩:=C90 I h2 r2 f.2;exact⟨_,.cons a1 a2⟩
end
end
theorem o00(h:okD d=true):n00 d=true/\SeqAt.shaped (toP d)=true:=by
 unfold okD at h;rw[Á,decide_eq_true_eq] at h;refine⟨h.1,?_⟩;unfold SeqAt.shaped;rw[x80 d h.1,L70,Å0,decide_eq_true_eq];omega
section
variable {X:Cx}
theorem q42(h:eqE a b=some c):∃ l,a=.tup l/\b=.tup []/\c=l.isEmpty:=by
 unfold eqE at h;split at h
 ·cases h;exact⟨_,rfl,rfl,rfl⟩
 ·cases h
theorem q52(hu:X.A.units + 64 < Å9):OpR X (ü .Eq) (rD2 X.K λa b=>(eqQ a b).map λc=>.d (.bl c)):=by
 intro pins s σ H x y v u Q I rx ry h;obtain⟨zA,z,dx,dy,w,st,hx,hy,e,q⟩:=h;unfold eqQ at e;dsimp only at e;split at e
 ·rename_i ok;cases e;rw[Á] at ok;obtain⟨f1,s1⟩:=o00 ok.1;obtain⟨f2,s2⟩:=o00 ok.2;obtain⟨as,r1⟩:=i40 I (hx.same (a10 zA H)) rx f1;obtain⟨bs,r2⟩:=i40 I (hy.same (a10 zA H)) ry f2;exact eq_dataH r1 r2 s1 s2 hu ⟨.bl _,H,I,rfl,by rw[T20 dx dy f1 f2];exact q _ _ (a30.refl H) j10⟩
 ·obtain⟨c,h1,h2⟩:=Ë.mp e;obtain⟨l,rfl,rfl,rfl⟩:=q42 h1;subst h2;obtain⟨a,xs,rfl,k1,k2⟩:=hx.z60;obtain⟨b,ys,rfl,k3,k4⟩:=hy.z60;cases k4.f50;cases rx;cases ry;obtain⟨its,rv,ht,_⟩:=I.tuple ((a10 zA H).sqT k1);obtain⟨iu,ru,hu2,_⟩:=I.tuple ((a10 zA H).sqT k3);cases ru;have e1:its.length=l.length:=by rw[← rv.length,k2.length]
  refine SeqAt.eq_tupleAt (e:=λ_=>true) ht hu2 ∅ (λj _ h2=>absurd h2 (Ö1 j)) ⟨.bl _,H,I,rfl,?_⟩
  have e2:((ë (min its.toArray.size ([]:List Ä).toArray.size)).all (λ_=>true)&&its.toArray.size == ([]:List Ä).toArray.size)=l.isEmpty:=by
   simp only[Ó,Á0,Nat.min_zero,List.range_zero,all_nil,Å0,e1];cases l <;> rfl
  rw[e2];exact q _ _ (a30.refl H) j10
theorem q62(hu:X.A.units + 64 < Å9):OpR X (ü .NotEq) (rD2 X.K λa b=>(eqO a b).map λc=>.d (.bl !c)):=by
 intro pins s σ H x y v u Q I rx ry h;obtain⟨zA,z,dx,dy,w,st,hx,hy,e,q⟩:=h;unfold eqO at e;dsimp only at e;split at e
 ·rename_i ok;cases e;rw[Á] at ok;obtain⟨f1,s1⟩:=o00 ok.1;obtain⟨f2,s2⟩:=o00 ok.2;obtain⟨as,r1⟩:=i40 I (hx.same (a10 zA H)) rx f1;obtain⟨bs,r2⟩:=i40 I (hy.same (a10 zA H)) ry f2;exact ne_dataH r1 r2 s1 s2 hu ⟨.bl _,H,I,rfl,by rw[T20 dx dy f1 f2];exact q _ _ (a30.refl H) j10⟩
 ·cases e
theorem d32(hu:X.A.units + 64 < Å9):OpR X (ü .NotEq) (rD2 X.K λa b=>(neO a b).map λc=>.d (.bl c)):=by
 intro pins s σ H x y v u Q I rx ry h;obtain⟨zA,z,dx,dy,w,st,hx,hy,e,q⟩:=h;unfold neO at e;dsimp only at e;split at e
 ·cases e;unfold Hd at hx;obtain⟨a,kvs,rfl,h1⟩:=hx;obtain⟨b,xs,rfl,h2,_⟩:=hy.z60;exact a82 hu pins s σ H _ _ v u Q I rx ry ⟨a,b,kvs,xs,rfl,rfl,(q40 h1).1,(a10 zA H).sqT h2,q _ _ (a30.refl H) j10⟩
 ·refine q62 hu pins s σ H _ _ v u Q I rx ry ⟨zA,z,dx,dy,w,st,hx,hy,?_,q⟩;rw[← e,Option.map_map];rfl
end
theorem L90(h:G10 l=true):e60 l=true/\f40 l<=39:=by
 unfold G10 at h;rw[Á,decide_eq_true_eq] at h;exact h
theorem M00(h:okD d=true):deep d<=40:=by
 unfold okD at h;rw[Á,decide_eq_true_eq] at h;exact h.2
theorem D00(x:D)(fx:n00 x=true):∀ l:List D,e60 l=true->((P40 l).any λy=>Ü7 y (toP x))=memD x l
 |[],_=>rfl
 |y::r,h=>by
  simp only[e60,Á] at h;show(Ü7 (toP y) (toP x) || (P40 r).any λy=>Ü7 y (toP x))=(eqD y x || memD x r);rw[T20 y x h.1 fx,D00 x fx r h.2]
section
variable {X:Cx}
theorem M10(h:M61 x l=some b):okD x=true/\G10 l=true/\b=memD x l:=by
 unfold M61 at h;split at h
 ·rename_i ok;rw[Á] at ok;cases h;exact⟨ok.1,ok.2,rfl⟩
 ·cases h
theorem room_in{A:ö}(hu:A.units + 64 < Å9){l:List D}{x:D}(h:okD x=true):A.units + 1 + min (Ò9 (P40 l)) (toP x).depth < cLine:=by
 have h1:=M00 h;have h2:min (Ò9 (P40 l)) (toP x).depth<=(toP x).depth:=Nat.min_le_right _ _;have h3:=L70 x;omega
theorem d42(hu:X.A.units + 64 < Å9):OpR X (ü .In) (rD2 X.K λa b=>(C70 .mem a b).map λc=>.d (.bl c)):=by
 intro pins s σ H x y v u Q I rx ry h;obtain⟨zA,z,dx,dy,w,st,hx,hy,e,q⟩:=h;cases dy with
 |tup l =>
  obtain⟨b,e1,e2⟩:=Ë.mp e;subst e2;obtain⟨o1,o2,rfl⟩:=M10 e1;obtain⟨f2,_⟩:=L90 o2;obtain⟨f1,_⟩:=o00 o1;obtain⟨as,r1⟩:=i40 I (hx.same (a10 zA H)) rx f1;obtain⟨bs,r2⟩:=i40 I (hy.same (a10 zA H)) ry (by simpa [n00] using f2)
  exact SeqAt.in_tuple_reads r2 r1 (r80 l f2) (x80 dx f1) (room_in hu o1) ⟨.bl _,H,I,rfl,by rw[D00 dx f1 l f2];exact q _ _ (a30.refl H) j10⟩
 |lst l =>
  obtain⟨b,e1,e2⟩:=Ë.mp e;subst e2;obtain⟨o1,o2,rfl⟩:=M10 e1;obtain⟨f2,_⟩:=L90 o2;obtain⟨f1,_⟩:=o00 o1;obtain⟨as,r1⟩:=i40 I (hx.same (a10 zA H)) rx f1;obtain⟨bs,r2⟩:=i40 I (hy.same (a10 zA H)) ry (by simpa [n00] using f2)
  exact SeqAt.in_list_reads r2 r1 (r80 l f2) (x80 dx f1) (room_in hu o1) ⟨.bl _,H,I,rfl,by rw[D00 dx f1 l f2];exact q _ _ (a30.refl H) j10⟩
 |_=>cases e
theorem N11(hu:X.A.units + 64 < Å9):OpR X (ü .NotIn) (rD2 X.K λa b=>(C70 .nmem a b).map λc=>.d (.bl c)):=by
 intro pins s σ H x y v u Q I rx ry h;obtain⟨zA,z,dx,dy,w,st,hx,hy,e,q⟩:=h;cases dy with
 |tup l =>
  obtain⟨b,e1,e2⟩:=Ë.mp e;subst e2;obtain⟨b',e3,rfl⟩:=Ë.mp e1;obtain⟨o1,o2,rfl⟩:=M10 e3;obtain⟨f2,_⟩:=L90 o2;obtain⟨f1,_⟩:=o00 o1;obtain⟨as,r1⟩:=i40 I (hx.same (a10 zA H)) rx f1;obtain⟨bs,r2⟩:=i40 I (hy.same (a10 zA H)) ry (by simpa [n00] using f2)
  exact SeqAt.notIn_tuple_reads r2 r1 (r80 l f2) (x80 dx f1) (room_in hu o1) ⟨.bl _,H,I,rfl,by rw[D00 dx f1 l f2];exact q _ _ (a30.refl H) j10⟩
 |lst l =>
  obtain⟨b,e1,e2⟩:=Ë.mp e;subst e2;obtain⟨b',e3,rfl⟩:=Ë.mp e1;obtain⟨o1,o2,rfl⟩:=M10 e3;obtain⟨f2,_⟩:=L90 o2;obtain⟨f1,_⟩:=o00 o1;obtain⟨as,r1⟩:=i40 I (hx.same (a10 zA H)) rx f1;obtain⟨bs,r2⟩:=i40 I (hy.same (a10 zA H)) ry (by simpa [n00] using f2)
  exact SeqAt.notIn_list_reads r2 r1 (r80 l f2) (x80 dx f1) (room_in hu o1) ⟨.bl _,H,I,rfl,by rw[D00 dx f1 l f2];exact q _ _ (a30.refl H) j10⟩
 |_=>cases e
end
end Q
namespace Q
open PySem L2 PySem.Spec PyProof.Rows
variable [TB:Tb]
def F82(A:ö)(s:Æ)(v u:Ä)(b:Bool):Prop:=∀ (P:Ý) (w:è) (E:Ä->Æ->Prop) (Q:Ä->Æ->Prop),Q (.bool b) s->Î (Ô P w) A (richCompare .Lt v u) Q E s
section
open PySem.SeqAt
open PySem.AutoSeq1 (wpAny_loadPart')
open PySem.MeetsSeq PySem.MeetsSeq2 PySem.MeetsSeq3
inductive Lx (A:Around) (s:Shared):List Value->List Value->Bool->Prop
 |nn:Lx A s [] [] false
 |nc {u us}:Lx A s [] (u::us) true
 |cn {v vs}:Lx A s (v::vs) [] false
 |eq {v u vs us b}:EqAt A s v u true->Lx A s vs us b->Lx A s (v::vs) (u::us) b
 |ne {v u vs us b}:EqAt A s v u false->F82 A s v u b->Lx A s (v::vs) (u::us) b
theorem D10(l b:Ç)(items items2:Array Ä)(n n2:Nat)(dd dd2:Option Ç)(sl sl2:Array (Option Ä))(c:Bool) :
  Meets (ÿ.«tuple.__lt__» ⟨[.ref l,.ref b],[]⟩)
   (λA R s=>s.heap.get? l=some { cls:=.type "tuple",dict:=dd,data:=.seq items n,slots:=sl }/\s.heap.get? b=some { cls:=.type "tuple",dict:=dd2,data:=.seq items2 n2,slots:=sl2 } /\
    Lx A.in1 s items.toList items2.toList c/\R (.ok (.ret (.bool c))) s) :=
 .of_wp λprog w A R s h=>by
  obtain⟨hp,g,d,tk,os⟩:=s;obtain⟨hl,hb,hx,h⟩:=h;have f2:=Ý0
  wp_walk using Ä7 hl,Ä7 hb,wpAny_forIn_list _ (λrest b s'=>b.1=none/\s'=⟨hp,g,d,tk,os⟩/\∃ (vs ws:List Ä),rest=vs.zip ws /\
   vs.length + items2.size=ws.length + items.size/\Lx A.in1 ⟨hp,g,d,tk,os⟩ vs ws c) _
  case turn =>
   rintro ⟨y,x⟩ rest b s' ⟨hb',rfl,vs,ws,hz,hlen,hR⟩;cases hR with
   |nn=>rw[Ù8] at hz;cases hz
   |nc=>rw[Ù8] at hz;cases hz
   |cn=>rw[List.zip_nil_right] at hz;cases hz
   |eq he hr =>
    rw[Ê2] at hz;injection hz with hyx hrest;injection hyx with hy hx';subst hy hx';simp only[Û] at hlen;refine À (he prog w _ _ ?_)
    wp_walk
    exact⟨rfl,rfl,_,_,hrest,by omega,hr⟩
   |ne he hr =>
    rw[Ê2] at hz;injection hz with hyx hrest;injection hyx with hy hx';subst hy hx';refine À (he prog w _ _ ?_);have hri:=λE Q q=>hr prog w E Q q
    wp_walk using hri
    exact⟨_,rfl,by simpa using h⟩
  case fin =>
   rintro ⟨b1,b2⟩ s' ⟨hb',rfl,vs,ws,hz,hlen,hR⟩;simp only at hb';subst hb';have hv:c=decide (items.size < items2.size):=by
    cases hR with
    |nn=>simp only[Á0] at hlen;exact(decide_eq_false ∅).symm|nc=>simp only[Á0,Û] at hlen;exact(decide_eq_true ∅).symm|cn=>simp only[Á0,Û] at hlen;exact(decide_eq_false ∅).symm|eq he hr=>rw[Ê2] at hz;cases hz
    |ne he hr=>rw[Ê2] at hz;cases hz
   rw[hv] at h
   wp_walk
   exact⟨_,rfl,by simpa [tupleCompareSizes] using h⟩
  case h =>
   exact⟨rfl,rfl,items.toList,items2.toList,rfl,by simp;omega,hx⟩
end
theorem w21(hl:Ï0 s.heap l i1)(hb:Ï0 s.heap b i2)(hu:A.units < Å9)(hx:Lx A.in1 s i1.toList i2.toList c):F82 A s (.ref l) (.ref b) c:=by
 intro P w E Q h;obtain⟨⟨cls,dd,data,sl⟩,ho,hc,n,hd⟩:=id hl;obtain⟨⟨cls2,dd2,data2,sl2⟩,ho2,hc2,n2,hd2⟩:=id hb;simp only at hc hd hc2 hd2;subst hc hd hc2 hd2;exact richCompare_meets_room (op:=.Lt) ⟨_,ho,rfl⟩ ⟨_,ho2,rfl⟩ Ò8 ß3 (Þ2 _ _) (D10 l b i1 i2 n n2 dd dd2 sl sl2 c)
  ⟨ho,ho2,hx,show Î6 c≠Õ1/\Q (.bool c) s from⟨(λx=>nomatch x),h⟩⟩ hu
theorem q72(ha:n01 s.heap v a)(hb:n01 s.heap u b)(hu:A.units + deep a < Å9):Ö7 A s v u (eqD a b):=by
 obtain⟨f1,as,r1⟩:=ha;obtain⟨f2,bs,r2⟩:=hb;rw[← T20 a b f1 f2];have h:=L70 a;have h2:min (toP a).depth (toP b).depth<=(toP a).depth:=Nat.min_le_left _ _;exact SeqAt.eqAt_reads (toP a) (toP b) A s v u as bs r1 r2 (x80 a f1) (x80 b f2) ∅
theorem e70.c60(x:e70 h us (d::ds)):∃ u r,us=u::r/\n01 h u d/\e70 h r ds:=by
 obtain⟨f,as,r⟩:=x;simp only[e60,Á] at f;cases r with
 |cons r1 r2=>exact⟨_,_,rfl,⟨f.1,_,r1⟩,f.2,_,r2⟩
theorem e70.f50(x:e70 h us []):us=[]:=by
 obtain⟨_,as,r⟩:=x;cases r;rfl
theorem in1_units(A:ö):A.in1.units=A.units + 1:=rfl
theorem d52:∀ (n:Nat) {A:ö}{s:Æ},
  (∀ (a b:D) (v u:Ä) (c:Bool),deep a<=n->n01 s.heap v a->n01 s.heap u b->ltD a b=some c->A.units + n < Å9->F82 A s v u c) /\
  (∀ (a b:List D) (vs us:List Ä) (c:Bool),f40 a < n->e70 s.heap vs a->e70 s.heap us b->M51 a b=some c->A.units + n < Å9->Lx A.in1 s vs us c):=by
 intro n
 induction n with
 |zero =>
  intro A s;refine⟨λa b v u c hd ha hb e hu=>?_,λa b vs us c hd=>absurd hd (Ö1 _)⟩;cases a with
  |int i =>
   cases b with
   |int j =>
    cases e;obtain⟨_,_,r1⟩:=ha;obtain⟨_,_,r2⟩:=hb;cases r1;cases r2;exact λP w E Q h=>HT.e21 A s i _ j _ P w E Q h
   |_=>cases e
  |tup l=>simp[deep] at hd|_=>cases e
 |succ n ih =>
  have rows:∀ {A:ö}{s:Æ} (a b:List D) (vs us:List Ä) (c:Bool),f40 a < n + 1->e70 s.heap vs a->e70 s.heap us b->M51 a b=some c->A.units + (n + 1) < Å9->Lx A.in1 s vs us c:=by
   intro A s a
   induction a with
   |nil =>
    intro b vs us c _ ha hb e hu;cases ha.f50;cases b with
    |nil=>cases hb.f50;cases e;exact .nn
    |cons y q=>obtain⟨u,r,rfl,_⟩:=hb.c60;cases e;exact .nc
   |cons x r ihr =>
    intro b vs us c hd ha hb e hu;obtain⟨v,vs',rfl,a1,a2⟩:=ha.c60;cases b with
    |nil=>cases hb.f50;cases e;exact .cn
    |cons y q =>
     obtain⟨u,us',rfl,b1,b2⟩:=hb.c60;simp only[f40] at hd;have d1:deep x<=n:=Nat.le_of_lt_succ (Ê7 (Nat.le_max_left _ _) hd);have d2:f40 r < n + 1:=Ê7 (Nat.le_max_right _ _) hd;have hu1:A.in1.units + n < cLine:=by rw[in1_units];omega
     have he:=q72 (A:=A.in1) a1 b1 ∅
     simp only[M51] at e;cases hq:eqD x y with
     |true =>
      rw[hq] at he e;exact .eq he (ihr q vs' us' c d2 a2 b2 (by simpa using e) hu)
     |false =>
      rw[hq] at he e;exact .ne he ((ih (A:=A.in1) (s:=s)).1 x y v u c d1 a1 b1 (by simpa using e) hu1)
  intro A s;refine⟨λa b v u c hd ha hb e hu=>?_,rows⟩;cases a with
  |int i =>
   cases b with
   |int j =>
    cases e;obtain⟨_,_,r1⟩:=ha;obtain⟨_,_,r2⟩:=hb;cases r1;cases r2;exact λP w E Q h=>HT.e21 A s i _ j _ P w E Q h
   |_=>cases e
  |tup l =>
   cases b with
   |tup q =>
    obtain⟨f1,as,r1⟩:=ha;obtain⟨f2,bs,r2⟩:=hb;simp only[deep] at hd;cases r1 with
    |tuple k1 k2 k3 k4 =>
     cases r2 with
     |tuple m1 m2 m3 m4 =>
      exact w21 ⟨_,k1,k2,_,k3⟩ ⟨_,m1,m2,_,m3⟩ ∅ (rows l q _ _ c ∅ ⟨by simpa [n00] using f1,_,k4⟩ ⟨by simpa [n00] using f2,_,m4⟩ e hu)
   |_=>cases e
  |_=>cases e
section
variable {X:Cx}
theorem q82(h:ltO a b=some c):okD a=true/\okD b=true/\ltD a b=some c:=by
 unfold ltO at h;split at h
 ·rename_i ok;rw[Á] at ok;exact⟨ok.1,ok.2,h⟩
 ·cases h
theorem q92(hu:X.A.units + 64 < Å9):OpR X (ü .Lt) (rD2 X.K λa b=>(C70 .lt a b).map λc=>.d (.bl c)):=by
 intro pins s σ H x y v u Q I rx ry h;obtain⟨zA,z,dx,dy,w,st,hx,hy,e,q⟩:=h;obtain⟨b,e1,e2⟩:=Ë.mp e;subst e2;obtain⟨o1,o2,e3⟩:=q82 (show ltO dx dy=some b from e1);obtain⟨f1,_⟩:=o00 o1;obtain⟨f2,_⟩:=o00 o2;obtain⟨as,r1⟩:=i40 I (hx.same (a10 zA H)) rx f1;obtain⟨bs,r2⟩:=i40 I (hy.same (a10 zA H)) ry f2;exact(d52 40 (A:=X.A) (s:=s)).1 dx dy v u b (M00 o1) ⟨f1,as,r1⟩ ⟨f2,bs,r2⟩ e3 ∅ _ _ _ _ ⟨.bl b,H,I,rfl,q _ _ (a30.refl H) j10⟩
theorem w30{K:Â}{H:Hp}:∀ {l:List D}{ns:List Int}{vs:List V},Z70 l=some ns->HdA K H l vs->vs=ns.map V.int/\l=ns.map D.int
 |[],_,_,e,h=>by cases e;rw[h.f50];exact⟨rfl,rfl⟩
 |.int i::r,_,_,e,h=>by
  obtain⟨ms,e1,rfl⟩:=Ë.mp e;obtain⟨x,xs,rfl,h1,h2⟩:=h.c60;cases h1.j00;obtain⟨rfl,rfl⟩:=w30 e1 h2;exact⟨rfl,rfl⟩
 |.non::_,_,_,e,_=>by cases e
 |.bl _::_,_,_,e,_=>by cases e
 |.str _::_,_,_,e,_=>by cases e
 |.tup _::_,_,_,e,_=>by cases e
 |.lst _::_,_,_,e,_=>by cases e
 |.dct::_,_,_,e,_=>by cases e
theorem r02(hu:X.A.units + 64 < Å9):OpR X (ü .LtE) (rD2 X.K λa b=>(C70 .le a b).map λc=>.d (.bl c)):=by
 intro pins s σ H x y v u Q I rx ry h;obtain⟨zA,z,dx,dy,w,st,hx,hy,e,q⟩:=h;cases dx with
 |int i =>
  cases dy with
  |int j =>
   cases e;cases hx.j00;cases hy.j00;exact C72 pins s σ H _ _ v u Q I rx ry ⟨i,j,rfl,rfl,q _ _ (a30.refl H) j10⟩
  |_=>cases e
 |tup a =>
  cases dy with
  |tup b =>
   obtain⟨c,e1,e2⟩:=Ë.mp e;subst e2;obtain⟨ns,n1,e1⟩:=Ò.mp (show(Z70 a).bind _=_ from e1);obtain⟨ms,n2,rfl⟩:=Ë.mp e1;obtain⟨p,xs,rfl,h1,h2⟩:=hx.z60;obtain⟨p',ys,rfl,h3,h4⟩:=hy.z60;obtain⟨rfl,_⟩:=w30 n1 h2;obtain⟨rfl,_⟩:=w30 n2 h4;exact o62 ∅ pins s σ H _ _ v u Q I rx ry ⟨p,p',ns,ms,rfl,rfl,(a10 zA H).sqT h1,(a10 zA H).sqT h3,q _ _ (a30.refl H) j10⟩
  |_=>cases e
 |_=>cases e
theorem r12:OpR X (ü .Gt) (rD2 X.K λa b=>(C70 .gt a b).map λc=>.d (.bl c)):=by
 intro pins s σ H x y v u Q I rx ry h;obtain⟨zA,z,dx,dy,w,st,hx,hy,e,q⟩:=h;cases dx with
 |int i =>
  cases dy with
  |int j =>
   cases e;cases hx.j00;cases hy.j00;exact C82 pins s σ H _ _ v u Q I rx ry ⟨i,j,rfl,rfl,q _ _ (a30.refl H) j10⟩
  |_=>cases e
 |_=>cases e
theorem r22:OpR X (ü .GtE) (rD2 X.K λa b=>(C70 .ge a b).map λc=>.d (.bl c)):=by
 intro pins s σ H x y v u Q I rx ry h;obtain⟨zA,z,dx,dy,w,st,hx,hy,e,q⟩:=h;cases dx with
 |int i =>
  cases dy with
  |int j =>
   cases e;cases hx.j00;cases hy.j00;exact C92 pins s σ H _ _ v u Q I rx ry ⟨i,j,rfl,rfl,q _ _ (a30.refl H) j10⟩
  |_=>cases e
 |_=>cases e
theorem A12{K:Â}{H:Hp}{d:D}{v:V}(h:Hd K H d v):decide (v=.non)=q02 d:=by
 cases d with
 |non=>cases h.F42;rfl
 |bl b=>cases h.bl_;rfl
 |int i=>cases h.j00;rfl
 |str x=>cases h.F52;rfl
 |tup l=>obtain⟨a,xs,rfl,_⟩:=h.z60;rfl
 |lst l=>obtain⟨a,xs,rfl,_⟩:=h.X80;rfl
 |dct=>unfold Hd at h;obtain⟨a,kvs,rfl,_⟩:=h;rfl
def opC:Cm->CmpOp
 |.eq=>.Eq | .ne=>.NotEq | .lt=>.Lt | .le=>.LtE | .gt=>.Gt | .ge=>.GtE | .mem=>.In | .nmem=>.NotIn
theorem k02(hu:X.A.units + 64 < Å9)(o:Cm):OpR X (ü (opC o)) (rD2 X.K λa b=>(C70 o a b).map λc=>.d (.bl c)):=by
 cases o
 ·exact q52 hu
 ·exact d32 hu
 ·exact q92 hu
 ·exact r02 hu
 ·exact r12
 ·exact r22
 ·exact d42 hu
 ·exact N11 hu
theorem HdA.one{K:Â}{H:Hp}{d:D}{xs:List V}(h:HdA K H [d] xs):∃ x,xs=[x]/\Hd K H d x:=by
 obtain⟨x,r,rfl,h1,h2⟩:=h.c60;rw[h2.f50];exact⟨x,rfl,h1⟩
theorem HdA.two{K:Â}{H:Hp}{d e:D}{xs:List V}(h:HdA K H [d,e] xs):∃ x y,xs=[x,y]/\Hd K H d x/\Hd K H e y:=by
 obtain⟨x,r,rfl,h1,h2⟩:=h.c60;obtain⟨y,rfl,h3⟩:=h2.one;exact⟨x,y,rfl,h1,h3⟩
theorem w31{K:Â}{zA:Option Ç}{H:Hp}{d:D}{l:List D}{v:V}(h:Hd K (hz zA H) d v)(e:m71 d=some l):∃ a xs,v=.ref a/\(SqL K H a xs∨SqT K H a xs)/\HdA K (hz zA H) l xs:=by
 cases d with
 |tup m =>
  cases e;obtain⟨a,xs,rfl,h1,h2⟩:=h.z60;exact⟨a,xs,rfl,.inr ((a10 zA H).sqT h1),h2⟩
 |lst m =>
  cases e;obtain⟨a,xs,rfl,h1,h2⟩:=h.X80;exact⟨a,xs,rfl,.inl (h1.same (a10 zA H)).sq,h2⟩
 |_=>cases e
theorem r32:g70 X (.builtin "len") (rDn X.K (bfD .len)):=by
 intro pins s σ H xs us Q I r h;obtain⟨zA,z,ds,w,st,hx,e,q⟩:=h
 match ds,e with
 |[d],e =>
  obtain⟨l,e1,rfl⟩:=Ë.mp (show(m71 d).map _=some w from e);obtain⟨x,rfl,h1⟩:=hx.one;obtain⟨a,ys,rfl,h2,h3⟩:=w31 h1 e1;exact Q90 pins s σ H _ us Q I r ⟨a,ys,rfl,h2,by rw[h3.length];exact q _ _ (a30.refl H) j60⟩
theorem N21:g70 X (.type "tuple") (rDn X.K (bfD .tuple)):=by
 intro pins s σ H xs us Q I r h;obtain⟨zA,z,ds,w,st,hx,e,q⟩:=h
 match ds,e with
 |[d],e =>
  obtain⟨l,e1,rfl⟩:=Ë.mp (show(m71 d).map _=some w from e);obtain⟨x,rfl,h1⟩:=hx.one;obtain⟨a,ys,rfl,h2,h3⟩:=w31 h1 e1;refine J40 pins s σ H _ us Q I r ⟨a,ys,rfl,?_⟩;rcases h2 with h2 | h2
  ·refine .inl ⟨h2,λp hp=>q _ _ (a30.new _ hp) (G91 (Hd.tup ((st.same (a30.new _ hp)).c52 (SqT.of b20)) (h3.same (k30 (a30.new _ hp)))))⟩
  ·exact .inr ⟨h2,q _ _ (a30.refl H) (G91 (Hd.tup (st.c52 h2) h3))⟩
theorem d62:g70 X (.type "list") (rDn X.K (bfD .list)):=by
 intro pins s σ H xs us Q I r h;obtain⟨zA,z,ds,w,st,hx,e,q⟩:=h
 match ds,e with
 |[d],e =>
  obtain⟨l,e1,rfl⟩:=Ë.mp (show(m71 d).map _=some w from e);obtain⟨x,rfl,h1⟩:=hx.one;obtain⟨a,ys,rfl,h2,h3⟩:=w31 h1 e1;exact R00 pins s σ H _ us Q I r ⟨a,ys,rfl,h2,λp hp=>q _ _ (a30.new _ hp) (n20 st h3 hp)⟩
theorem T81{K:Â}{H:Hp}:∀ {l:List D}{bs:List Bool}{vs:List V},l.mapM asB=some bs->HdA K H l vs->vs=bs.map V.bl
 |[],_,_,e,h=>by simp at e;subst e;rw[h.f50];rfl
 |x::r,_,_,e,h=>by
  simp only[mapM_cons,bind,Ò] at e;obtain⟨b,e1,bs,e2,e3⟩:=e;cases e3;obtain⟨y,ys,rfl,h1,h2⟩:=h.c60;cases x with
  |bl c=>cases e1;cases h1.bl_;rw[T81 e2 h2];rfl
  |_=>cases e1
theorem r42(hc:X.calm=true):g70 X (.builtin "all") (rDn X.K (bfD .all)):=by
 intro pins s σ H xs us Q I r h;obtain⟨zA,z,ds,w,st,hx,e,q⟩:=h
 match ds,e with
 |[.lst l],e =>
  obtain⟨bs,e1,rfl⟩:=Ë.mp (show(l.mapM asB).map _=some w from e);obtain⟨x,rfl,h1⟩:=hx.one;obtain⟨a,ys,rfl,h2,h3⟩:=h1.X80;rw[T81 e1 h3] at h2;exact J31 hc pins s σ H _ us Q I r ⟨a,bs,rfl,(h2.same (a10 zA H)).sq,q _ _ (a30.refl H) j10⟩
theorem N31:∀ {ns:List Int}{vs:List Ä},Vals (ns.map V.int) vs->∃ xs:List (Int × Tok),vs=xs.map (λp=>.int p.1 p.2)/\xs.map (·.1)=ns
 |[],_,h=>by cases h;exact⟨[],rfl,rfl⟩
 |n::r,_,h=>by
  cases h with
  |cons h1 h2 =>
   obtain⟨t,rfl⟩:=h1;obtain⟨xs,rfl,e⟩:=N31 h2;exact⟨(n,t)::xs,rfl,by rw[Å7,e]⟩
theorem r52(hc:X.calm=true):g70 X (.builtin "min") (rDn X.K (bfD .min)):=by
 intro pins s σ H xs us Q I r h;obtain⟨zA,z,ds,w,st,hx,e,q⟩:=h
 match ds,e with
 |[.int i,.int j],e =>
  cases e;obtain⟨x,y,rfl,h1,h2⟩:=hx.two;cases h1.j00;cases h2.j00;exact q91 hc pins s σ H _ us Q I r ⟨i,j,rfl,q _ _ (a30.refl H) j60⟩
theorem r62(hc:X.calm=true):g70 X (.builtin "max") (rDn X.K (bfD .max)):=by
 intro pins s σ H xs us Q I r h;obtain⟨zA,z,ds,w,st,hx,e,q⟩:=h
 match ds,e with
 |[.int i,.int j],e =>
  cases e;obtain⟨x,y,rfl,h1,h2⟩:=hx.two;cases h1.j00;cases h2.j00;exact q81 hc pins s σ H _ us Q I r ⟨i,j,rfl,q _ _ (a30.refl H) j60⟩
theorem r72:g70 X (.type "int") (rDn X.K (bfD .int)):=by
 intro pins s σ H xs us Q I r h;obtain⟨zA,z,ds,w,st,hx,e,q⟩:=h
 match ds,e with
 |[.int i],e =>
  cases e;obtain⟨x,rfl,h1⟩:=hx.one;cases h1.j00;exact Q10 pins s σ H _ us Q I r (.inl ⟨i,rfl,q _ _ (a30.refl H) j60⟩)
 |[.bl b],e =>
  cases e;obtain⟨x,rfl,h1⟩:=hx.one;cases h1.bl_;exact Q10 pins s σ H _ us Q I r (.inr ⟨b,rfl,q _ _ (a30.refl H) j60⟩)
def tyN:Ty->String
 |.int=>"int" | .bool=>"bool" | .tuple=>"tuple" | .list=>"list" | .str=>"str" | .seq=>""
theorem d72(t:Ty)(d:D)(h:t≠.seq):isB d.ty (tyN t)=T61 t d:=by
 cases t <;> cases d <;> first | rfl | (exact absurd rfl h) | decide
theorem N41(d:D):(isB d.ty "tuple" || isB d.ty "list")=T61 .seq d:=by cases d <;> rfl
theorem at_of{K:Â}{H:Hp}{l:List D}{xs:List V}{i:Int}{d:D}(h:HdA K H l xs)(e:atI l i=some d):∃ v,atI xs i=some v/\Hd K H d v:=by
 unfold atI at e ⊢;obtain⟨j,e1,e2⟩:=Ò.mp e;rw[h.length,e1];exact h.get e2
theorem ixD:IxR X (rD2 X.K λa b=>(m81 a b).map S.d):=by
 intro value slice pins s σ H x y v u Q I rx ry h hs;obtain⟨zA,z,dx,dy,w,st,hx,hy,e,q⟩:=h;obtain⟨r,e1,rfl⟩:=Ë.mp e;cases dx with
 |tup l =>
  cases dy with
  |int i =>
   cases hy.j00;obtain⟨a,xs,rfl,h1,h2⟩:=hx.z60;obtain⟨v',e2,h3⟩:=at_of h2 e1;exact n42 value slice pins s σ H _ _ v u Q I rx ry ⟨a,xs,i,v',rfl,rfl,(a10 zA H).sqT h1,e2,q _ _ (a30.refl H) (G91 h3)⟩ hs
  |_=>cases e1
 |lst l =>
  cases dy with
  |int i =>
   cases hy.j00;obtain⟨a,xs,rfl,h1,h2⟩:=hx.X80;obtain⟨v',e2,h3⟩:=at_of h2 e1;exact Y40 value slice pins s σ H _ _ v u Q I rx ry ⟨a,xs,i,v',rfl,rfl,(h1.same (a10 zA H)).sq,e2,q _ _ (a30.refl H) (G91 h3)⟩ hs
  |_=>cases e1
 |_=>cases e1
theorem T91{K:Â}{H:Hp}{l:List D}{xs:List V}(h:HdA K H l xs)(lo hi:Option Int):HdA K H (cutD l lo hi) (I41 xs lo hi):=by
 unfold cutD I41;rw[h.length];exact(h.drop _).take _
def U12(K:Â):V->Option Int->Option Int->Hp->VK->Prop:=λx lo hi H Q=>∃ zA z dx s,e30 zA z H/\Hd K (hz zA H) dx x/\slD dx lo hi=some s/\∀ v H',a30 H H'->RvS K zA H H' s v->Q v H'
theorem U22:SlR X (U12 X.K):=by
 intro pins s σ H x v vl vu lo hi sl Q I rx hs pl pu h;obtain⟨zA,z,dx,w,st,hx,e,q⟩:=h;cases dx with
 |tup l =>
  cases e;obtain⟨a,xs,rfl,h1,h2⟩:=hx.z60;exact a42 pins s σ H _ v vl vu lo hi sl Q I rx hs pl pu ⟨a,xs,rfl,(a10 zA H).sqT h1,tupQ st (T91 h2 lo hi) q⟩
 |lst l =>
  cases e;obtain⟨a,xs,rfl,h1,h2⟩:=hx.X80;exact Y71 pins s σ H _ v vl vu lo hi sl Q I rx hs pl pu ⟨a,xs,rfl,(h1.same (a10 zA H)).sq,λp hp=>q _ _ (a30.new _ hp) (n20 st (T91 h2 lo hi) hp)⟩
 |_=>cases e
end
end Q
namespace Q
open PySem L2 PySem.Spec PyProof.Rows
open PySem.W (KatLex KatTups kat_nil kat_cons kat_go kat_yes kat_no kat_one kat_lt kat_kind kas_kind kat_lt_int)
theorem D20(k:D):∀ l,(p41 k l).Perm (k::l)
 |[]=>.refl _
 |y::r=>by
  unfold p41;split
  ·exact((D20 k r).cons y).trans (.swap _ _ _)
  ·exact .refl _
theorem w40:∀ l,(u10 l).Perm l
 |[]=>.refl _|k::r=>(D20 k _).trans ((w40 r).cons k)
theorem w41(k:D):∀ l,l.Pairwise (λx y=>MySort.h60 (flt y) (flt x)=false)->(p41 k l).Pairwise (λx y=>MySort.h60 (flt y) (flt x)=false)
 |[],_=>List.pairwise_singleton _ _
 |y::r,h=>by
  obtain⟨h1,h2⟩:=Ê6.mp h;unfold p41;split
  ·rename_i hy;refine Ê6.mpr ⟨λz hz=>?_,w41 k r h2⟩;rcases ú.mp ((D20 k r).mem_iff.mp hz) with rfl | hz
   ·cases q:MySort.h60 (flt z) (flt y) with
    |false=>rfl|true=>have:=MySort.p40 _ _ _ hy q;rw[MySort.r40] at this;cases this
   ·exact h1 z hz
  ·rename_i hy;refine Ê6.mpr ⟨λz hz=>?_,h⟩;rcases ú.mp hz with rfl | hz
   ·simpa using hy
   ·cases q:MySort.h60 (flt z) (flt k) with
    |false=>rfl
    |true =>
     rcases MySort.e51 _ (flt y) _ q with q | q
     ·rw[h1 z hz] at q;cases q
     ·exact absurd q hy
theorem f51:∀ l,(u10 l).Pairwise (λx y=>MySort.h60 (flt y) (flt x)=false)
 |[]=>.nil|k::r=>w41 k _ (f51 r)
mutual
theorem U01:∀ x y:D,eqT x y=true->x=y
 |.int i,y,h=>by
  cases y with
  |int j=>rw[eq_of_beq (show(i == j)=true from h)]|_=>cases h
 |.tup a,y,h=>by
  cases y with
  |tup b=>rw[a21 a b h]|_=>cases h
 |.non,y,h=>by cases y <;> cases h
 |.bl _,y,h=>by cases y <;> cases h
 |.str _,y,h=>by cases y <;> cases h
 |.lst _,y,h=>by cases y <;> cases h
 |.dct,y,h=>by cases y <;> cases h
theorem a21:∀ x y:List D,X60 x y=true->x=y
 |[],[],_=>rfl|[],_::_,h=>by cases h
 |_::_,[],h=>by cases h
 |x::r,y::q,h=>by
  have h:(eqT x y&&X60 r q)=true:=h;rw[Á] at h;rw[U01 x y h.1,a21 r q h.2]
end
variable [TB:Tb]
theorem d82(ok:∀ x∈l,∀ y∈l,flt x=flt y->x=y)(h:MySort.sortedBy (l.map flt) p):(p.map λi=>l.getD i .non)=u10 l:=by
 have h1:=h.1.map λi=>l.getD i .non;rw[É,MySort.range_getD] at h1;have e:((p.map λi=>l.getD i .non).map flt)=p.map λi=>(l.map flt).getD i []:=by
  rw[ó];refine Å8 λi hi=>?_;have:i < l.length:=by have:=h.1.mem_iff.mp hi;simpa using this
  simp[this]
 have h2:(p.map λi=>l.getD i .non).Pairwise λx y=>MySort.h60 (flt y) (flt x)=false:=by
  have:=h.2;rw[← e,Ù9] at this;exact this
 refine È7 (le:=λx y=>MySort.h60 (flt y) (flt x)=false) (λa b ha hb p q=>?_) h2 (f51 l) (h1.trans (w40 l).symm);exact ok a (h1.mem_iff.mp ha) b ((w40 l).mem_iff.mp hb) (MySort.p50 _ _ q p)
mutual
theorem N51(kp:MySort.t01 h h'):∀ (d:D) {u:Ä}{as:List Ç},eqT d d=true->Reads h u (toP d) as->Reads h' u (toP d) as
 |.int i,_,_,_,r=>by cases r;exact .int _ _
 |.tup l,_,_,e,r=>by
  cases r with
  |tuple k1 k2 k3 k4=>exact .tuple (kp _ _ k1 k2) k2 k3 (o20 kp l e k4)
 |.non,_,_,e,_=>by cases e
 |.bl _,_,_,e,_=>by cases e
 |.str _,_,_,e,_=>by cases e
 |.lst _,_,_,e,_=>by cases e
 |.dct,_,_,e,_=>by cases e
theorem o20(kp:MySort.t01 h h'):∀ (l:List D) {us:List Ä}{as:List Ç},X60 l l=true->ReadsAll h us (P40 l) as->ReadsAll h' us (P40 l) as
 |[],_,_,_,r=>by cases r;exact .nil
 |x::q,_,_,e,r=>by
  have e:(eqT x x&&X60 q q)=true:=e;rw[Á] at e;cases r with
  |cons r1 r2=>exact .cons (N51 kp x e.1 r1) (o20 kp q e.2 r2)
end
theorem e70.get:∀ {us:List Ä}{l:List D}{i:Nat}{d:D},e70 h us l->l[i]?=some d->n01 h (us.getD i â) d
 |_,[],i,d,_,e=>by cases e
 |us,x::r,i,d,hd,e=>by
  obtain⟨u,q,rfl,h1,h2⟩:=hd.c60;cases i with
  |zero=>cases e;simpa using h1
  |succ i=>simpa using e70.get h2 (by simpa using e)
theorem e70.len:∀ {us:List Ä}{l:List D},e70 h us l->us.length=l.length
 |_,[],hd=>by rw[hd.f50];rfl
 |us,x::r,hd=>by
  obtain⟨u,q,rfl,h1,h2⟩:=hd.c60;simp[e70.len h2]
def U11(l:List D):Prop:=∀ x r,l=x::r->∃ i,x=.int i
theorem O22(hu:A.units + 40 < Å9):∀ (a c:List D) {vs us:List Ä}{r:Bool} (i:Nat),e70 s.heap vs a->e70 s.heap us c->M51 a c=some r->f40 a<=39 ->
  ((b&&i == 0)=true->U11 a/\U11 c)->fin=decide (vs.length < us.length)->Q r s->KatLex P w A b fin Q (vs.zip us) i s
 |[],[],_,_,r,i,ha,hc,e,_,_,hf,q=>by
  cases ha.f50;cases hc.f50;cases e;subst hf;exact kat_nil q
 |[],y::t,_,_,r,i,ha,hc,e,_,_,hf,q=>by
  cases ha.f50;obtain⟨u,us,rfl,_,_⟩:=hc.c60;cases e;subst hf;exact kat_nil q
 |x::l,[],_,_,r,i,ha,hc,e,_,_,hf,q=>by
  cases hc.f50;obtain⟨v,vs,rfl,_,_⟩:=ha.c60;cases e;subst hf;exact kat_nil q
 |x::l,y::t,_,_,r,i,ha,hc,e,hd,hi,hf,q=>by
  obtain⟨v,vs,rfl,a1,a2⟩:=ha.c60;obtain⟨u,us,rfl,c1,c2⟩:=hc.c60;have d1:deep x<=39:=Ñ (Nat.le_max_left _ _) hd;have d2:f40 l<=39:=Ñ (Nat.le_max_right _ _) hd;have e:(if eqD x y=true then M51 l t else ltD x y)=some r:=e;refine kat_cons (q72 (A:=A) a1 c1 ∅ P w _ _ ?_)
  refine kat_go (λz=>?_) λz=>?_
  ·rw[if_pos z] at e;refine kat_yes (O22 hu l t (i + 1) a2 c2 e d2 (λk=>?_) (by rw[hf];simp) q)
   simp at k
  ·rw[if_neg (by rw[z];exact Ð)] at e
   refine kat_no ?_;cases hb:(b&&i == 0) with
   |true =>
    obtain⟨f1,f2⟩:=hi hb;obtain⟨m,rfl⟩:=f1 x l rfl;obtain⟨n,rfl⟩:=f2 y t rfl;cases e;obtain⟨_,_,r1⟩:=a1;obtain⟨_,_,r2⟩:=c1;cases r1;cases r2;exact oneLt_int q
   |false=>exact kat_one _ _ ((d52 39 (A:=A) (s:=s)).1 x y v u r d1 a1 c1 e ∅ P w _ _ q)
theorem a31(h:v41 x=0):∃ i,x=.int i:=by
 cases x with
 |int i=>exact⟨i,rfl⟩
 |tup l =>
  cases l with
  |nil=>cases h
  |cons y r=>cases y <;> cases h
 |_=>cases h
theorem a41(h:v41 x=k)(h1:1<=k)(h3:k < 3):∃ y r,x=.tup (y::r)/\(k=1->∃ i,y=.int i)/\(k=2->∃ l,y=.tup l):=by
 cases x with
 |tup l =>
  cases l with
  |nil=>have:k=3:=h.symm;omega
  |cons y r =>
   refine⟨y,r,rfl,λe=>?_,λe=>?_⟩ <;> subst e <;> cases y <;> first | exact⟨_,rfl⟩ | cases h
 |int i=>have:k=0:=h.symm;omega|_=>have:k=3:=h.symm;omega
theorem d92(h1:1<=k)(h3:k < 3):∀ {us:List Ä}{l:List D},e70 h us l->(∀ x∈l,v41 x=k)->∃ fs,KatTups h us fs/\fs.length=us.length/\∀ v∈fs,(k=1->∃ i t,v=Æ3 i t)/\(k=2->∃ a o,v=Ã3 a/\h.get? a=some o/\o.cls=.type "tuple")
 |_,[],hd,_=>by rw[hd.f50];exact⟨[],.nil,rfl,λv hv=>absurd hv (by simp)⟩
 |_,x::r,hd,hk=>by
  obtain⟨u,q,rfl,⟨_,as,r1⟩,h2⟩:=hd.c60;obtain⟨fs,t1,t2,t3⟩:=d92 h1 h3 h2 λy hy=>hk y (È _ hy);obtain⟨y,l,rfl,y1,y2⟩:=a41 (hk x Ì) h1 h3;cases r1 with
  | @tuple a o vs n xs as k1 k2 k3 k4 =>
   cases hv:vs.toList with
   |nil=>rw[hv] at k4;cases k4
   |cons f fr =>
    rw[hv] at k4;cases k4 with
    |cons f1 f2 =>
     refine⟨f::fs,.cons k1 k2 k3 (by rw[← ô,hv];rfl) t1,by simp[t2],λv hm=>?_⟩
     rcases ú.mp hm with rfl | hm
     ·refine⟨λe=>?_,λe=>?_⟩
      ·obtain⟨i,rfl⟩:=y1 e;cases f1;exact⟨_,_,rfl⟩
      ·obtain⟨m,rfl⟩:=y2 e;cases f1 with
       |tuple g1 g2 g3 g4=>exact⟨_,_,rfl,g1,g2⟩
     ·exact t3 v hm
def kdOf:Nat->Î7
 |0=>Ø8|1=>tuples' true|_=>tuples' false
theorem a51(h:i30 x y=true):v41 y=v41 x/\ltD x y=some (MySort.h60 (flt x) (flt y))/\(flt x=flt y->x=y):=by
 unfold i30 at h;rw[Á,Á,Å6] at h;refine⟨eq_of_beq h.1,eq_of_beq h.2.1,λe=>?_⟩;rcases h.2.2 with k | k
 ·exact U01 _ _ k
 ·rw[e] at k;simp at k
theorem w51(h64:us.length < 64)(hd:e70 s.heap us l)(hu:A.units + 40 < Å9)(k3:k < 3)(hk:∀ x∈l,v41 x=k)(ho:∀ x∈l,okD x=true)(hp:∀ x∈l,∀ y∈l,i30 x y=true):MySort.j82 P w A s us (MySort.sortedBy (l.map flt)) (kdOf k) where
 len:=by omega
 few h2:=MySort.o22 (by rw[É];exact hd.len) h2
 all p hp:=by rw[hp.1.length_eq,ù,É,hd.len]
 kind h2 E Q q:=by
  match k,k3,hk,q with
  |0,_,hk,q =>
   refine kas_kind h2 (T:=.type "int") (λv hv=>?_) rfl rfl q;obtain⟨i,hi,rfl⟩:=Õ3.mp hv;have hi':i < l.length:=by rw[← hd.len];exact hi
   obtain⟨_,as,r⟩:=hd.get (i:=i) (d:=l[i]) (by simp[hi'])
   obtain⟨n,hn⟩:=a31 (hk l[i] (È9 hi'));rw[hn] at r;have e:us.getD i â=us[i]:=by simp[hi]
   rw[e] at r;generalize us[i]=v at r;cases r;exact Û7 rfl
  |1,_,hk,q =>
   obtain⟨fs,t1,t2,t3⟩:=d92 (-0) (-0) hd hk
   exact kat_kind (T:=.type "int") t1 ∅ (λv hv=>by obtain⟨i,t,rfl⟩:=(t3 v hv).1 rfl;exact Û7 rfl) rfl q
  |2,_,hk,q =>
   obtain⟨fs,t1,t2,t3⟩:=d92 (-0) (-0) hd hk
   exact kat_kind (T:=.type "tuple") t1 ∅ (λv hv=>by
    obtain⟨a,o,rfl,g1,g2⟩:=(t3 v hv).2 rfl;rw[← g2];exact(Í8 g1).andThen .now) rfl q
 run:=MySort.Z51 (by rw[É];exact hd.len) h64 λi j hi hj E C hC=>by
  have hi':i < l.length:=by rw[← hd.len];exact hi
  have hj':j < l.length:=by rw[← hd.len];exact hj
  have mi:=È9 hi';have mj:=È9 hj';obtain⟨_,h2,_⟩:=a51 (hp _ mi _ mj);have a1:=hd.get (i:=i) (d:=l[i]) (by simp[hi'])
  have b1:=hd.get (i:=j) (d:=l[j]) (by simp[hj'])
  have e1:(l.map flt).getD i []=flt l[i]:=by simp[hi']
  have e2:(l.map flt).getD j []=flt l[j]:=by simp[hj']
  rw[e1,e2] at hC;generalize MySort.h60 (flt l[i]) (flt l[j])=c at h2 hC;have kx:=hk _ mi;have ky:=hk _ mj;have ox:=M00 (ho _ mi);generalize l[i]=x at *
  generalize l[j]=y at *
  have tup:∀ b:Bool,1<=k->(b=true->k=1)->Î (Ô P w) A (keyLt' (tuples' b) (us.getD i â) (us.getD j â)) C E s:=λb h1 hb=>by
   obtain⟨x1,xr,rfl,x2,_⟩:=a41 kx h1 k3;obtain⟨y1,yr,rfl,y2,_⟩:=a41 ky h1 k3;obtain⟨f1,as,r1⟩:=a1;obtain⟨f2,bs,r2⟩:=b1;generalize us.getD i â=v at r1;generalize us.getD j â=u at r2;cases r1 with
   |tuple p1 p2 p3 p4 =>
    cases r2 with
    |tuple q1 q2 q3 q4 =>
     refine kat_lt p1 p3 q1 q3 (O22 hu (x1::xr) (y1::yr) 0 ⟨f1,_,p4⟩ ⟨f2,_,q4⟩ h2 (by have:deep (.tup (x1::xr))=f40 (x1::xr) + 1:=rfl;omega) (λz=>?_) (by simp) hC)
     have hb1:=hb (by simpa using z)
     exact⟨λa q e=>by cases e;exact x2 hb1,λa q e=>by cases e;exact y2 hb1⟩
  match k,k3,kx,ky,tup with
  |0,_,kx,ky,_ =>
   obtain⟨m,rfl⟩:=a31 kx;obtain⟨n,rfl⟩:=a31 ky;cases h2;obtain⟨_,_,r1⟩:=a1;obtain⟨_,_,r2⟩:=b1;generalize us.getD i â=v at r1;generalize us.getD j â=u at r2;cases r1;cases r2;exact kat_lt_int hC
  |1,_,_,_,tup=>exact tup true (-0) λ_=>rfl|2,_,_,_,tup=>exact tup false (-0) λh=>by cases h
theorem HdA.pick{K:Â}{H:Hp}{l:List D}{vs:List V}(h:HdA K H l vs):∀ {p:List Nat},(∀ i∈p,i < l.length)->HdA K H (p.map λi=>l.getD i .non) (p.map λi=>vs.getD i .non)
 |[],_=>.nil
 |i::p,hp=>by
  have hi:=hp i Ì;refine .cons ?_ (HdA.pick h λj hj=>hp j (È _ hj));obtain⟨v,e1,e2⟩:=h.get (i:=i) (d:=l[i]) (by simp[hi])
  have g1:l.getD i .non=l[i]:=by simp[hi]
  have g2:vs.getD i .non=v:=by rw[Ö,e1];rfl
  show Hd K H (l.getD i .non) (vs.getD i .non);rw[g1,g2];exact e2
end Q
namespace Q
open PySem L2 PySem.Spec PyProof.Rows
open PySem.W (kas_mapM kas_first_eq kas_item kas_item_eq kas_cmp)
theorem e02(h:k<=8):∀ i∈TS.sN k,i < 2 ^ k:=by
 have:∀ k,k < 9->((TS.sN k).all λi=>Nat.blt i (2 ^ k))=true:=by decide +kernel
 intro i hi;exact Nat.blt_eq.mp (Õ.mp (this k ∅) i hi)
theorem r82(h:k<=8):(TS.sN k).length=2 ^ k:=by
 have:∀ k,k < 9->beq (TS.sN k).length (2 ^ k)=true:=by decide +kernel
 exact Nat.eq_of_beq_eq_true (this k ∅)
theorem u20(h:i < 2 ^ k):(h70 k)[i]?=some (r70 k i):=by
 unfold h70;rw[Ü,É6 h];rfl
theorem r92(h:k<=8):((TS.sN k).map λi=>(h70 k).getD i .non)=M71 k :=
 Å8 λi hi=>by rw[Ö,u20 (e02 h i hi)];rfl
theorem w61:∀ a b:List Nat,M51 (a.map λ(i:Nat)=>.int i) (b.map λ(i:Nat)=>.int i)=some (TS.z92 a b)
 |[],[]=>rfl|[],_::_=>rfl|_::_,[]=>rfl
 |a::r,b::q=>by
  show(if ((a:Int) == (b:Int))=true then M51 (r.map λ(i:Nat)=>.int i) (q.map λ(i:Nat)=>.int i) else some (decide ((a:Int) < b)))=some (if beq a b=true then TS.z92 r q else Nat.blt a b);rw[w61 r q];by_cases h:a=b
  ·subst h;rw[if_pos (by simp),if_pos (Nat.beq_refl a)]
  ·rw[if_neg (by simp;omega),if_neg λe=>h (Nat.eq_of_beq_eq_true e)]
   congr 1
   rw[Í4,decide_eq_true_eq,Nat.blt_eq];omega
variable [TB:Tb]
section
variable {P:Ý}{w:è}{A:ö}{E:Ä->Æ->Prop}{s:Æ}
def TupAt(h:é)(v:Ä):Prop:=∃ a o xs n,v=.ref a/\h.get? a=some o/\o.cls=.type "tuple"/\o.data=.seq xs n
theorem f61(ho:s.heap.get? a=some o)(hc:o.cls=.type "tuple")(hd:o.data=.seq xs n)(q:Q xs[0]? s):Î (Ô P w) A (firstOfTuple' (.ref a)) Q E s:=by
 rw[kas_first_eq];refine À (Ý4 (show PySem.W.Looks (Ô P w) s.heap (typeOf (.ref a)) o.cls from(Í8 ho).andThen .now) ?_);rw[hc,if_neg (by first | decide | simp)]
 exact À (Ð5 ho hd (Å q))
theorem T30:∀ (vs:List Ä),(∀ v∈vs,TupAt s.heap v)->∃ fs:List (Option Ä),∀ Q,Q fs s->Î (Ô P w) A (vs.mapM firstOfTuple') Q E s
 |[],_=>⟨[],λQ q=>by rw[List.mapM_nil];exact Å q⟩
 |v::vs,h=>by
  obtain⟨fs,hf⟩:=T30 vs λu hu=>h u (È _ hu);obtain⟨a,o,xs,n,rfl,ho,hc,hd⟩:=h v Ì;refine⟨xs[0]?::fs,λQ q=>?_⟩;rw[mapM_cons];exact À (f61 ho hc hd (À (hf _ (Å q))))
theorem e12(ho:s.heap.get? a=some o)(hc:o.cls=.type "tuple")(hd:o.data=.seq #[] n)(h:∀ v∈vs,TupAt s.heap v)(q:Q Ø8 s):Î (Ô P w) A (keyKind' (Ã3 a::vs).toArray) Q E s:=by
 obtain⟨fs,hf⟩:=T30 (P:=P) (w:=w) (A:=A) (E:=E) vs h;rw[keyKind'_eq,List.mapM_toArray,map_eq_pure_bind,mapM_cons];refine À (À (À (f61 ho hc hd (À (hf _ (Å (Å ?_)))))));rw[if_neg (by simp),if_neg (by simp)]
 rw[oneTypeOnly'_eq,List.mapM_toArray,map_eq_pure_bind];refine À (À (À (kas_mapM (r:=.type "tuple") _ (λv hv Q' hq=>?_) (Å ?_))))
 ·have:TupAt s.heap v:=by
   rcases ú.mp hv with rfl | hv
   ·exact⟨_,_,_,_,rfl,ho,hc,hd⟩
   ·exact h v hv
  obtain⟨b,o',xs,m,rfl,ho',hc',_⟩:=this;rw[← hc'] at hq;exact Ý4 (show PySem.W.Looks (Ô P w) s.heap (typeOf (.ref b)) o'.cls from(Í8 ho').andThen .now) hq
 ·have hall:((List.map (λ_=>Á6 "tuple") (Ã3 a::vs)).toArray.all λx=>x == Á6 "tuple")=true:=by
   simp only[List.all_toArray,all_map,Æ9];intro _ _;rfl
  have h0:(List.map (λ_=>Á6 "tuple") (Ã3 a::vs)).toArray[0]?=some (Á6 "tuple"):=by simp
  rw[h0];simp only[hall,if_true];exact Å (Å q)
theorem s02(hl:Ï0 s.heap l i1)(hb:Ï0 s.heap b i2)(hu:A.units < Å9)(hx:Lx A.in1 s i1.toList i2.toList c)(q:Q c s):Î (Ô P w) A (keyLt' Ø8 (.ref l) (.ref b)) Q E s:=by
 obtain⟨⟨cls,dd,data,sl⟩,ho,hc,n,hd⟩:=id hl;obtain⟨⟨cls2,dd2,data2,sl2⟩,ho2,hc2,n2,hd2⟩:=id hb;simp only at hc hd hc2 hd2;subst hc hd hc2 hd2;rw[keyLt'_oneType,oneLt'_eq];simp only[if_true];refine À (wpAny_cRoomFor hu (À (wpAny_callSpecialIfBound?_slot ⟨_,ho,rfl⟩ Ò8 (È2 Ò8 ⟨_,ho,rfl⟩ ß3 (Þ2 _ _) (D10 l b i1 i2 n n2 dd dd2 sl sl2 c) ⟨ho,ho2,hx,?_⟩))));exact Â5 q
theorem s12(h8:k<=8)(hd:e70 s.heap us (h70 k))(hu:A.units + 40 < Å9):MySort.j82 P w A s us (λp=>p=TS.sN k) Ø8 where
 len:=by rw[hd.len,h70,É,ù];exact Ñ (û (-0) h8) (-0)
 few h2:=by
  rw[hd.len,h70,É,ù] at h2 ⊢;cases k with
  |zero=>rfl|succ k=>have:=Nat.one_le_two_pow (n:=k);rw[Ú4] at h2;omega
 all p hp:=by subst hp;rw[hd.len,h70,É,ù,r82 h8]
 kind h2 E Q q:=by
  have ht:∀ i v,us[i]?=some v->∃ xs n a o,v=.ref a/\s.heap.get? a=some o/\o.cls=.type "tuple"/\o.data=.seq xs n/\(i=0->xs=#[]):=λi v e=>by
   have hi:i < us.length:=(ß.mp e).1;have hi':i < 2 ^ k:=by rw[hd.len,h70,É,ù] at hi;exact hi
   obtain⟨_,as,r⟩:=hd.get (u20 hi');have e2:us.getD i â=v:=by rw[Ö,e];rfl
   rw[e2] at r;have z0:∀ k,TS.B80 k 0 0=[]:=λk=>by
    have:∀ k i,TS.B80 k i 0=[]:=λk=>by
     induction k with
     |zero=>exact λ_=>rfl|succ k ih=>exact λi=>ih (i + 1)
    exact this k 0
   cases i with
   |zero =>
    have r:Reads s.heap v (toP (.tup ((TS.B80 k 0 0).map λ(i:Nat)=>.int i))) as:=r;rw[z0] at r;cases r with
    | @tuple a o vs n xs as k1 k2 k3 k4 =>
     have:vs.toList=[]:=by cases hv:vs.toList with | nil=>rfl | cons _ _=>rw[hv] at k4;cases k4
     exact⟨vs,n,a,o,rfl,k1,k2,k3,λ_=>Array.toList_eq_nil_iff.mp this⟩
   |succ i =>
    cases r with
    | @tuple a o vs n xs as k1 k2 k3 k4=>exact⟨vs,n,a,o,rfl,k1,k2,k3,λe=>by cases e⟩
  match us,ht with
  |[],_=>simp at h2
  |v::vs,ht =>
   obtain⟨xs,n,a,o,rfl,h1,h3,h4,h5⟩:=ht 0 v rfl;cases h5 rfl;refine e12 h1 h3 h4 (λu hu=>?_) q;obtain⟨i,hi,rfl⟩:=Õ3.mp hu;obtain⟨xs,n,a,o,e,h1,h3,h4,_⟩:=ht (i + 1) vs[i] (by simp[hi])
   exact⟨a,o,xs,n,e,h1,h3,h4⟩
 run h2:=by
  have hl:us.length=2 ^ k:=by rw[hd.len,h70,É,ù]
  have h1:1<=k:=by
   cases k with
   |zero=>rw[hl] at h2;exact absurd h2 (-0)|succ k=>omega
  refine TS.runL h1 h8 hl λi j C hi hj hC=>?_;have e1:=kas_item_eq us i;have e2:=kas_item_eq us j;show Î (Ô P w) A (keyLt' Ø8 (õ (pairsOf us) i).1 (õ (pairsOf us) j).1) C _ s;rw[e1,e2];obtain⟨f1,as,r1⟩:=hd.get (u20 hi);obtain⟨f2,bs,r2⟩:=hd.get (u20 hj);show Î (Ô P w) A (keyLt' Ø8 (us.getD i â) (us.getD j â)) C _ s;generalize us.getD i â=v at r1;generalize us.getD j â=u at r2;cases r1 with
  |tuple p1 p2 p3 p4 =>
   cases r2 with
   |tuple q1 q2 q3 q4 =>
    refine s02 ⟨_,p1,p2,_,p3⟩ ⟨_,q1,q2,_,q3⟩ ∅ ((d52 40).2 _ _ _ _ _ ?_ ⟨f1,_,p4⟩ ⟨f2,_,q4⟩ (w61 _ _) ∅) hC
    have:∀ l:List Nat,f40 (l.map λ(i:Nat)=>.int i)=0:=λl=>by
     induction l with
     |nil=>rfl|cons x r ih=>show Ð9 0 _=0;rw[ih];rfl
    rw[this];decide
end
section
variable {X:Cx}
theorem e22{zA:Option Ç}{H:Hp}{k:Nat}{xs:List V}(hu:X.A.units + 64 < Å9)(hd:HdA X.K H (h70 k) xs)(h8:k<=8):a62 X H xs (λp=>p=TS.sN k):=by
 intro pins σ s us I rv;have ci:∀ l:List Nat,e60 (l.map λ(i:Nat)=>.int i)=true/\X60 (l.map λ(i:Nat)=>.int i) (l.map λ(i:Nat)=>.int i)=true:=λl=>by
  induction l with
  |nil=>exact⟨rfl,rfl⟩|cons x r ih=>exact⟨ih.1,by show((x:Int) == (x:Int)&&_)=true;rw[ih.2];simp⟩
 have cl:∀ l:List Nat,e60 (l.map (r70 k))=true/\X60 (l.map (r70 k)) (l.map (r70 k))=true:=λl=>by
  induction l with
  |nil=>exact⟨rfl,rfl⟩
  |cons x r ih =>
   refine⟨?_,?_⟩
   ·show(e60 _&&_)=true;rw[(ci _).1,ih.1];rfl
   ·show(X60 _ _&&_)=true;rw[(ci _).2,ih.2];rfl
 obtain⟨as,ra⟩:=C90 I hd rv (cl _).1;exact⟨Ø8,λh' kp=>s12 h8 ⟨(cl _).1,_,o20 kp _ (cl _).2 ra⟩ (by show X.A.units + 1 + 1 + 40 < Å9;omega)⟩
theorem e32{zA:Option Ç}{H:Hp}{l:List D}{xs:List V}(hu:X.A.units + 64 < Å9)(hd:HdA X.K H l xs)(h64:l.length < 64)(ok:n10 l=true):a62 X H xs (MySort.sortedBy (l.map flt)):=by
 intro pins σ s us I rv
 replace h64:us.length < 64:=by rw[← rv.length,hd.length];exact h64
 have all:∀ x∈l,v41 x < 3/\okD x=true/\∀ y∈l,i30 x y=true:=λx hx=>by
  have:=Õ.mp ok x hx;rw[Á,Á,decide_eq_true_eq,Æ9] at this;exact⟨this.1,this.2.1,this.2.2⟩
 have hf:e60 l=true:=by
  clear hd
  induction l with
  |nil=>rfl
  |cons x r ih =>
   have h1:=(o00 (all x Ì).2.1).1;show(n00 x&&e60 r)=true;rw[h1];have ok':n10 r=true:=Õ.mpr λy hy=>by
    obtain⟨a,b,c⟩:=all y (È _ hy);rw[Á,Á,decide_eq_true_eq,Æ9];exact⟨a,b,λz hz=>c z (È _ hz)⟩
   exact ih ok' λy hy=>⟨(all y (È _ hy)).1,(all y (È _ hy)).2.1,λz hz=>(all y (È _ hy)).2.2 z (È _ hz)⟩
 obtain⟨as,ra⟩:=C90 I hd rv hf;have pure:X60 l l=true:=by
  clear hd ra hf ok;have:∀ q:List D,(∀ x∈q,eqT x x=true)->X60 q q=true:=λq=>by
   induction q with
   |nil=>intro _;rfl|cons x r ih=>intro h;show(eqT x x&&X60 r r)=true;rw[h x Ì,ih λy hy=>h y (È _ hy)];rfl
  refine this l λx hx=>?_;have h:=(all x hx).2.2 x hx;unfold i30 at h;rw[Á,Á,Å6] at h;rcases h.2.2 with k | k
  ·exact k
  ·simp at k
 cases l with
 |nil=>exact⟨kdOf 0,λh' kp=>w51 h64 ⟨hf,_,o20 kp _ pure ra⟩ (by show X.A.units + 1 + 1 + 40 < Å9;omega) (-0) (λx hx=>absurd hx (by simp)) (λx hx=>absurd hx (by simp)) λx hx=>absurd hx (by simp)⟩
 |cons x r =>
  have hx:=all x Ì;exact⟨kdOf (v41 x),λh' kp=>w51 h64 ⟨hf,_,o20 kp _ pure ra⟩ (by show X.A.units + 1 + 1 + 40 < Å9;omega) hx.1 (λy hy=>(a51 (hx.2.2 y hy)).1) (λy hy=>(all y hy).2.1) λy hy=>(all y hy).2.2⟩
theorem w71(hu:X.A.units + 64 < Å9):g70 X (.builtin "sorted") (rDn X.K (bfD .sorted)):=by
 intro pins s σ H xs us Q I r h;obtain⟨zA,z,ds,w,st,hx,e,q⟩:=h
 match ds,e with
 |[x],e =>
  have e:sortedS x=some w:=e;unfold sortedS at e;obtain⟨l,h1,e⟩:=Ò.mp e;obtain⟨v,rfl,hv⟩:=hx.one;have go:∀ (a:Ç) (ys:List V),v=.ref a->(SqL X.K H a ys∨SqT X.K H a ys)->HdA X.K (hz zA H) l ys->Î (Ô X.prog X.w) X.A (call (.builtin "sorted") us) (EP X pins σ Q) X.xe s:=λa ys hva hq hd=>by
   subst hva;by_cases c:l.length < 64/\n10 l=true
   ·rw[if_pos c] at e;cases e;obtain⟨h64,ok⟩:=c;refine x70 pins s σ H _ us Q I r ⟨a,ys,MySort.sortedBy (l.map flt),rfl,hq,e32 (zA:=zA) hu (hd.same (a10 zA H)) h64 ok,λp hp i hi=>by have:=hp.1.mem_iff.mp hi;rw[hd.length];simpa using this,λp lA hp hn=>?_⟩
    have hd2:=hd.pick (p:=p) λi hi=>by have:=hp.1.mem_iff.mp hi;simpa using this
    rw[d82 (λx hx y hy=>?_) hp] at hd2
    ·exact q _ _ (a30.new _ hn) (n20 st hd2 hn)
    ·have:=Õ.mp ok x hx;rw[Á,Á,Æ9] at this;exact(a51 (this.2.2 y hy)).2.2
   ·rw[if_neg c] at e;obtain⟨l',e1,rfl⟩:=Ë.mp e;obtain⟨k,e2,rfl⟩:=Ë.mp e1;have e3:=a21 _ _ (List.find?_some (p:=λk=>X60 l (h70 k)) e2);have k8:k<=8:=by have:=List.mem_of_find?_eq_some e2;simp at this;omega
    subst e3;refine x70 pins s σ H _ us Q I r ⟨a,ys,λp=>p=TS.sN k,rfl,hq,e22 (zA:=zA) hu (hd.same (a10 zA H)) k8,λp hp i hi=>?_,λp lA hp hn=>?_⟩
    ·subst hp;rw[hd.length,h70,É,ù];exact e02 k8 i hi
    ·subst hp;have hd2:=hd.pick (p:=TS.sN k) λi hi=>by rw[h70,É,ù];exact e02 k8 i hi
     rw[r92 k8] at hd2;exact q _ _ (a30.new _ hn) (n20 st hd2 hn)
  cases x with
  |tup m =>
   cases h1;obtain⟨a,ys,rfl,k1,k2⟩:=hv.z60;exact go a ys rfl (.inr ((a10 zA H).sqT k1)) k2
  |lst m =>
   cases h1;obtain⟨a,ys,rfl,k1,k2⟩:=hv.X80;exact go a ys rfl (.inl (k1.same (a10 zA H)).sq) k2
  |_=>cases h1
end
end Q
namespace SS
open PySem PySem.W PyProof.Rows MySort
def key:Ä->Int
 |.int i _=>i|_=>0
theorem N61(m:Nat):(bts m).Pairwise (· < ·):=Ê9 _ È5
theorem n11:∀ a:Nat,a < 8->∀ b:Nat,b < 8->Q.i30 (.int a) (.int b)=true:=by decide
section
variable {P:Ý}{w:è}{A:ö}{E:Ä->Æ->Prop}{s:Æ}{S ep m:Nat}{g:Nat->Tok}{o:Obj}
def n21(w:è)(S ep:Nat)(g:Nat->Tok)(m:Nat):List Value:=(ord w S ep (ent g m)).toList.map (·.2)
def e42(w:è)(S ep:Nat)(g:Nat->Tok)(m:Nat):List L2.D:=(n21 w S ep g m).map λv=>.int (key v)
theorem a61:(n21 w S ep g m).Perm ((bts m).map λ(i:Nat)=>Æ3 i (g i)):=by
 have:=(f31 w S ep (ent g m)).map (·.2);unfold ent at this;rw[ó] at this;exact this
theorem U21(h:v∈n21 w S ep g m):∃ i,i < 8/\v=.int (i:Nat) (g i):=by
 obtain⟨i,hi,rfl⟩:=Ù.mp (a61.mem_iff.mp h);exact⟨i,(C40.mp hi).1,rfl⟩
theorem T40(h:é):∀ vs:List Ä,(∀ v∈vs,∃ (i:Nat) (t:Tok),v=.int i t)->Q.e70 h vs (vs.map λv=>.int (key v))
 |[],_=>⟨rfl,[],.nil⟩
 |v::r,k=>by
  obtain⟨i,t,rfl⟩:=k v Ì;obtain⟨h1,as,h2⟩:=T40 h r λv hv=>k v (È _ hv);exact⟨h1,_,.cons (.int _ _) h2⟩
theorem N71(hp:sortedBy ((e42 w S ep g m).map Q.flt) p):(p.map λi=>(n21 w S ep g m).getD i â)=(bts m).map λ(i:Nat)=>Æ3 i (g i):=by
 obtain⟨h1,h2⟩:=hp;have len:((e42 w S ep g m).map Q.flt).length=(n21 w S ep g m).length:=by unfold e42;simp
 rw[len] at h1;have h3:(p.map λi=>(n21 w S ep g m).getD i â).Perm ((bts m).map λ(i:Nat)=>Æ3 i (g i)):=by
  refine List.Perm.trans (h1.map _) ?_;rw[MySort.range_getD];exact a61
 refine È7 (le:=λu v=>key u<=key v) (λu v hu hv l1 l2=>?_) ?_ ?_ h3
 ·obtain⟨i,hi,rfl⟩:=Ù.mp (h3.mem_iff.mp hu);obtain⟨j,hj,rfl⟩:=Ù.mp hv;have l1:(i:Int)<=j:=l1;have l2:(j:Int)<=i:=l2;have:i=j:=by omega
  rw[this]
 ·have e:(p.map λi=>((e42 w S ep g m).map Q.flt).getD i [])=(p.map λi=>(n21 w S ep g m).getD i â).map λv=>[key v]:=by
   rw[ó];refine Å8 λi hi=>?_;have hi:i < (n21 w S ep g m).length:=by simpa using h1.mem_iff.mp hi
   unfold e42;simp[hi,Q.flt]
  rw[e,Ù9] at h2;refine h2.imp λ{u v} h=>?_;have:h60 [key v] [key u]=false:=h;simp[h60] at this;omega
 ·rw[Ù9];exact(N61 m).imp λ{a b} h=>by show(a:Int)<=b;omega
theorem n31{R:Ä->Æ->Prop}(hh:A.handled=none)(hu:A.units + 64 < Å9)(hm:m < 256)(ho:s.heap.get? S=some o)(hx:o.ExactSet)(hd:o.data=.set (ent g m) ep (tbl (led w) m))
  (h:∀ lA h' tk c,s.heap.objs.size<=lA->(∀ b u,s.heap.get? b=some u->h'.get? b=some u)->h'.get? lA=some (Ã1 "list" ((bts m).map λ(i:Nat)=>Æ3 i (g i)).toArray c)->R (.ref lA) { s with heap:=h',toks:=tk }):Î (Ô P w) A (call (.builtin "sorted") [.ref S]) R E s:=by
 have h64:(n21 w S ep g m).length<=8:=by
  rw[a61.length_eq,É];exact Ñ (Å3 _ _) (by simp)
 refine Þ6 kind_sorted plain_sorted entry_sorted (args_sorted1 _) ?_;unfold ÿ.«sorted»;refine À (m:=checkCount "sorted" 1 1 _) (Å ?_);refine À (Z60 (by simp[hh]) hm ho hx hd λh1 tk lS kp1=>?_)
 refine À (Û4 ?_ (by show(n21 w S ep g m).length<=_;rw[Á2];omega))
 have hoL:(h1.push (Ã1 "list" (n21 w S ep g m).toArray 0)).get? h1.objs.size=some (Ã1 "list" (n21 w S ep g m).toArray 0):=Ê _ rfl;have kw:∀ h',j82 P w A.in1.in1 { s with heap:=h',toks:=tk } (n21 w S ep g m) (sortedBy ((e42 w S ep g m).map Q.flt)) (Q.kdOf 0):=λh'=>by
  have dm:∀ d∈e42 w S ep g m,∃ i:Nat,i < 8/\d=.int i:=λd hd=>by
   obtain⟨v,hv,rfl⟩:=Ù.mp hd;obtain⟨i,hi,rfl⟩:=U21 hv;exact⟨i,hi,rfl⟩
  letI:Q.Tb:=⟨[]⟩
  refine Q.w51 ∅ (T40 h' _ λv hv=>by obtain⟨i,_,rfl⟩:=U21 hv;exact⟨i,_,rfl⟩) (by show A.units + 1 + 1 + 40 < Å9;omega) (-0) (λd hd=>?_) (λd hd=>?_) λd hd e he=>?_
  ·obtain⟨i,_,rfl⟩:=dm d hd;rfl
  ·obtain⟨i,_,rfl⟩:=dm d hd;rfl
  ·obtain⟨i,hi,rfl⟩:=dm d hd;obtain⟨j,hj,rfl⟩:=dm e he;exact n11 i hi j hj
 refine À (À7 (À4 slot_list_sort ⟨_,hoL,rfl⟩ entry_list_sort (e61 hoL (λh' _=>kw h') λp h' c hp kp hD=>⟨_,rfl,Å ⟨_,rfl,?_⟩⟩) (args_list_sort _)));rw[N71 hp] at hD;exact h _ h' tk c (É2 lS) (λb u e=>kp b u (Ø (à (kp1 b u e))) (Ã _ (kp1 b u e))) hD
end
end SS
namespace Q
open PySem L2 PySem.Spec PyProof.Rows
variable [TB:Tb]
structure Gs where
 fns:List (Str × List Str)
 nums:List (Str × Int)
 F:FT
 cls:Nat->Addr
 lv:Nat
def EPost(G:Gs)(zA:Option Ç)(E:XK)(c:Nat)(z:Z)(H:Hp):Prop:=∀ e H',Ext zA H H'->e30 zA z H'->H' e=none->E (.ref (G.cls c)) (some e) H'
theorem EPost.mono(h:EPost G zA E c z H)(e:Ext zA H H1):EPost G zA E c z H1:=λa H' x s n=>h a H' (e.trans x) s n
def F92(K:Â)(G:Gs)(zA:Option Ç)(E:XK)(H:Hp)(Q:VK):R S->Prop
 |.ok s z'=>∀ v H',Ext zA H H'->e30 zA z' H'->RvS K zA H H' s v->Q v H'|.er c z'=>EPost G zA E c z' H
def a71(K:Â)(G:Gs)(zA:Option Ç)(E:XK)(H:Hp)(Q:VK):R (List S)->Prop
 |.ok l z'=>∃ s,l=[s]/\∀ v H',Ext zA H H'->e30 zA z' H'->RvS K zA H H' s v->Q v H'|.er c z'=>EPost G zA E c z' H
def G02(K:Â)(G:Gs)(zA:Option Ç)(E:XK)(H:Hp)(Q:List V->Hp->Prop):R (List S)->Prop
 |.ok l z'=>∀ vs H',Ext zA H H'->e30 zA z' H'->Æ0 (RvS K zA H H') l vs->Q vs H'|.er c z'=>EPost G zA E c z' H
def N81(G:Gs)(zA:Option Ç)(E:XK)(H:Hp)(Q:Bool->Hp->Prop):R (List S)->Prop
 |.ok l z'=>∃ b,l=[.d (.bl b)]/\∀ H',Ext zA H H'->e30 zA z' H'->Q b H'|.er c z'=>EPost G zA E c z' H
def x90(K:Â)(zA:Option Ç)(H:Hp)(ρ:Env)(σ:L2.St):Prop:=∀ (i:Nat) (s:S),ρ[i]?=some (some s)->∃ v,σ[i]?=some (some v)/\RvP K zA H s v
theorem x90.mono{K:Â}{zA:Option Ç}{H H':Hp}{ρ:Env}{σ:L2.St}(h:x90 K zA H ρ σ)(e:Ext zA H H'):x90 K zA H' ρ σ:=λi s q=>let ⟨v,a,b⟩:=h i s q;⟨v,a,b.mono e⟩
def tI(K:Â)(G:Gs)(E:XK)(x:Ex):TE:=λσ H Q=>∃ zA ρ z r,x90 K zA H ρ σ/\e30 zA z H/\ev G.F x ρ z=some r/\a71 K G zA E H Q r
def tA(K:Â)(G:Gs)(E:XK)(x:Ex):TA:=λσ H Q=>∃ zA ρ z r,x90 K zA H ρ σ/\e30 zA z H/\ev G.F x ρ z=some r/\G02 K G zA E H Q r
def tT(K:Â)(G:Gs)(E:XK)(x:Ex):TT:=λσ H Q=>∃ zA ρ z r,x90 K zA H ρ σ/\e30 zA z H/\ev G.F x ρ z=some r/\N81 G zA E H Q r
def spF(K:Â)(G:Gs)(f n:Nat):Sp:=λvs H Q E=>vs.length=n/\∃ zA z ss r,RvA K zA H ss vs/\e30 zA z H/\G.F false f ss z=some r/\F92 K G zA E H Q r
section
variable {K:Â}{G:Gs}{E:XK}{a x:Ex}{ρ:Env}{z:Z}{zA:Option Ç}{σ:L2.St}{H:Hp}
theorem j20{α:Type}{k:List S->M α}{r:R α}{Q':VK}(rel:x90 K zA H ρ σ)(st:e30 zA z H)(h:M.bind (ev G.F a ρ) k z=some r)(her:∀ c z1,r=.er c z1->EPost G zA E c z1 H)
  (hok:∀ l z1,k l z1=some r->∃ s,l=[s]/\∀ v H1,Ext zA H H1->e30 zA z1 H1->RvS K zA H H1 s v->Q' v H1):tI K G E a σ H Q':=by
 rcases M.bind_some h with ⟨l,z1,e1,e2⟩ | ⟨c,z1,e1,e2⟩
 ·exact⟨zA,ρ,z,_,rel,st,e1,hok l z1 e2⟩
 ·exact⟨zA,ρ,z,_,rel,st,e1,her c z1 e2⟩
theorem a81{α:Type}{k:List S->M α}{r:R α}{Q':List V->Hp->Prop}(rel:x90 K zA H ρ σ)(st:e30 zA z H)(h:M.bind (ev G.F a ρ) k z=some r)(her:∀ c z1,r=.er c z1->EPost G zA E c z1 H)
  (hok:∀ l z1,k l z1=some r->∀ vs H1,Ext zA H H1->e30 zA z1 H1->Æ0 (RvS K zA H H1) l vs->Q' vs H1):tA K G E a σ H Q':=by
 rcases M.bind_some h with ⟨l,z1,e1,e2⟩ | ⟨c,z1,e1,e2⟩
 ·exact⟨zA,ρ,z,_,rel,st,e1,hok l z1 e2⟩
 ·exact⟨zA,ρ,z,_,rel,st,e1,her c z1 e2⟩
theorem T50{α:Type}{k:Bool->M α}{r:R α}{Q':Bool->Hp->Prop}(rel:x90 K zA H ρ σ)(st:e30 zA z H)(h:M.bind (ev G.F a ρ) (λx=>M.bind (M.of ((pl x).bind asB)) k) z=some r)(her:∀ c z1,r=.er c z1->EPost G zA E c z1 H)
  (hok:∀ b z1,k b z1=some r->∀ H1,Ext zA H H1->e30 zA z1 H1->Q' b H1):tT K G E a σ H Q':=by
 rcases M.bind_some h with ⟨l,z1,e1,e2⟩ | ⟨c,z1,e1,e2⟩
 ·obtain⟨b,e3,e4⟩:=M.a20 e2;obtain⟨d,e5,e6⟩:=Ò.mp e3;have el:l=[.d (.bl b)]:=by
   obtain⟨s,rfl,hs⟩:=f80 e5;cases s with
   |d y=>cases hs;cases d <;> first | (cases e6;rfl) | cases e6
   |fr ys=>cases hs;cases e6
   |z=>cases hs
  exact⟨zA,ρ,z,_,rel,st,e1,b,el,hok b z1 e4⟩
 ·exact⟨zA,ρ,z,_,rel,st,e1,her c z1 e2⟩
theorem D30{l:List S}{s:S}(h:one l=some s):l=[s]:=by
 unfold one at h;split at h
 ·cases h;rfl
 ·cases h
end
theorem PE.imp(h:PE X e t)(i:∀ σ H Q,t' σ H Q->t σ H Q):PE X e t':=λpins s σ H Q I q=>h pins s σ H Q I (i _ _ _ q)
theorem PT.imp(h:PT X e t)(i:∀ σ H Q,t' σ H Q->t σ H Q):PT X e t':=λpins s σ H Q I q=>h pins s σ H Q I (i _ _ _ q)
theorem PW.imp(h:PW X e t)(i:∀ σ H Q,t' σ H Q->t σ H Q):PW X e t':=λw pins s σ H Q I q=>h w pins s σ H Q I (i _ _ _ q)
theorem PA.imp(h:PA X e t)(i:∀ σ H Q,t' σ H Q->t σ H Q):PA X e t':=λp pins s σ H Q I q=>h p pins s σ H Q I (i _ _ _ q)
def noStar:Ï->Bool
 |.Starred ..=>false|_=>true
theorem c90(h:noStar e=true)(es:List Ï)(env:È6):þ (e::es) env=(false,eval e env)::þ es env:=by
 cases e <;> first | rfl | cases h
theorem p80:∀ {es:List Ï} (env:È6) (pos:Pos),es.all noStar=true->(Õ9 pos (þ es env)).any (·.1)=false
 |[],_,_,_=>rfl
 |e::es,env,pos,h=>by
  rw[Ã9,Á] at h;rw[c90 h.1];show(false || (Õ9 pos (þ es env)).any (·.1))=false;rw[p80 env pos h.2];rfl
def plainT:Ï->Bool
 |.UnaryOp .Not _ _=>false|.BoolOp ..=>false|.IfExp ..=>false|.Compare ..=>false|_=>true
theorem w81(h:plainT e=true)(env:È6)(whole:Sem Ä):isTrue e env whole=(do let v ← whole;standAt e.pos;Ù5 [v] (truthy v)):=by
 cases e with
 |UnaryOp op _ _=>cases op <;> first | rfl | cases h
 |BoolOp _ _ _=>cases h
 |IfExp _ _ _ _=>cases h
 |Compare _ _ _ _=>cases h
 |_=>rfl
def D40:Ï->Bool
 |.Slice ..=>false|_=>true
theorem H00(h:D40 e=true):r31 e:=λo i=>by
 cases e with
 |Slice _ _ _ _=>cases h
 |_=>rfl
def z70:Ï->Bool
 |.Set ..=>false|_=>true
theorem w91(h:z70 e=true)(op:CmpOp):behindInMarks op e=false:=by
 cases e with
 |Set _ _ _=>cases h
 |_=>rfl
structure b10(X:Cx)(G:Gs)(E:XK)(x:Ex)(e:Expr):Prop where
 pe:PE X e (tI X.K G E x)
 pt:(∀ t a b p,e≠.IfExp t a b p)->PT X e (tT X.K G E x)
 pw:∀ op vs p,e=.BoolOp op vs p->PW X e (tT X.K G E x)
theorem b00(h:PE X e (tI X.K G E x))(hp:plainT e=true):b10 X G E x e:=by
 refine⟨h,λ_=>PT.imp (q01 h (w81 hp X.env)) λσ H Q q=>?_,λop vs p he=>?_⟩
 ·obtain⟨zA,ρ,z,r,rel,st,e,po⟩:=q;refine⟨zA,ρ,z,r,rel,st,e,?_⟩;cases r with
  |er c z1=>exact po
  |ok l z1 =>
   obtain⟨b,rfl,po⟩:=po;exact⟨_,rfl,λv H' ex st' rv=>⟨b,Hd.bl_ (show Hd X.K (hz zA H') (.bl b) v from rv),po H' ex st'⟩⟩
 ·subst he;cases hp
def isL:Ex->Bool
 |.nil=>true|.cons _ _=>true|_=>false
def Good(X:Cx)(G:Gs)(E:XK):Ex->List Ï->Prop
 |.nil,es=>es=[]|.cons a r,es=>∃ e es',es=e::es'/\noStar e=true/\b10 X G E a e/\isL r=true/\Good X G E r es'|x,es=>∃ e,es=[e]/\b10 X G E x e
theorem Good.args:∀ {x:Ex}{es:List Ï},isL x=true->Good X G E x es->PA X es (tA X.K G E x)/\es.all noStar=true:=by
 intro x
 induction x with
 |nil =>
  intro es _ h;have h:es=[]:=h;subst h;refine⟨PA.imp t40 λσ H Q q=>?_,rfl⟩;obtain⟨zA,ρ,z,r,rel,st,e,po⟩:=q;cases e;exact po [] H Ext.refl st .nil
 |cons a r _ ih =>
  intro es _ h;obtain⟨e,es',rfl,ns,g,lr,gr⟩:=h;obtain⟨h1,h2⟩:=ih lr gr;refine⟨PA.imp (e90 g.pe h1 (c90 ns es' X.env)) λσ H Q q=>?_,by rw[Ã9,ns,h2];rfl⟩
  obtain⟨zA,ρ,z,rr,rel,st,e,po⟩:=q;have her:∀ c z1,rr=.er c z1->EPost G zA E c z1 H:=λc z1 e=>by subst e;exact po
  refine j20 rel st e her λl z1 e1=>?_;obtain⟨s,hs,e2⟩:=M.a20 e1;refine⟨s,D30 hs,λv H1 x1 st1 rv=>?_⟩;refine a81 (rel.mono x1) st1 e2 (λc z2 q=>(her c z2 q).mono x1) λl2 z2 e3 vs H2 x2 st2 rvs=>?_;cases e3;exact po (v::vs) H2 (x1.trans x2) st2 (.cons (rv.mono x2) (Æ0.j72 rvs λ_ _ q=>q.from x1))
 |_=>intro es h;cases h
def e52:List Str:=["len","sorted","tuple","list","sum","min","max","abs","all","any","int","bool","str","isinstance","range","zip","enumerate","set"]
def lowG(G:Gs)(k:Nat):Gs:={ G with F:=j50 G.F,lv:=k }
structure G12(X:Cx)(G:Gs)(sc:Scope)(c P:Addr)(q:Str)(k:Nat)(fR:Addr)(fdR:FuncData):Prop where
 sco:X.env.scope=sc
 code:X.env.code=.ref c
 hd:PySem.W.codeHdIn X.K c P=true
 qual:X.env.qual++"<lambda>"=q
 tb:(P,q)∈TB.tb
 uq:∀ p∈TB.tb,p.1=P->p.2=q
 bm:BMain X.mg X.base
 lv:G.lv=k + 2
 cls:∀ j,j < 12->S00 X.K X.mg (G.cls j) j
 m:X.mg "_law_refused"=some (.ref fR)
 kp:PySem.W.keepIn X.K (.ref fR)=true
 bd:Binds X.K fdR ["_law_call"] []
 fn:m31 X.prog X.w X.K X.mg X.base CX0 (k + 2) fR fdR ["_law_call"] (b42 X.prog X.w X.K X.mg X.base (k + 1))
 low:∀ f nm ps,G.fns[f]?=some (nm,ps)->∃ fa fd,X.mg nm=some (.ref fa)/\PySem.W.keepIn X.K (.ref fa)=true/\Binds X.K fd ps []/\X50 X.prog X.w X.K X.mg X.base (CX1 X.prog X.w) k fa fd ps (spF X.K (lowG G k) f ps.length)
def G22(X:Cx)(G:Gs)(sc:ý):Prop:=∃ c P q k fR fdR,G12 X G sc c P q k fR fdR
structure XI(lm:Bool)(X:Cx)(G:Gs)(E:XK)(N:List Str)(sc:Scope):Prop where
 gok:∀ f nm ps,G.fns[f]?=some (nm,ps)->∃ fa fd,X.mg nm=some (.ref fa)/\PySem.W.keepIn X.K (.ref fa)=true/\Binds X.K fd ps []/\X50 X.prog X.w X.K X.mg X.base (CX1 X.prog X.w) G.lv fa fd ps (spF X.K G f ps.length)
 num:∀ p∈G.nums,∃ t,X.mg p.1=some (.int p.2 t)
 blt:∀ n∈e52,X.mg n=none
 hN:X.N=N
 nd:N.Nodup
 vis:∀ x∈N,Vis X.env.scope x
 glb:∀ x,sc.names.lookup x=some .globalImplicit->Gl X x
 cel:∀ x,(sc.names.lookup x=some .cell∨sc.names.lookup x=some .free)->(X.env.kindOf x=some .cell∨X.env.kindOf x=some .free)
 calm:X.calm=true
 room:z90 G.lv X.A
 pas:Passes (CX1 X.prog X.w) X E
 lam:lm=true->G22 X G sc
def glob(sc:ý)(x:Str):Bool:=sc.names.lookup x == some .globalImplicit&&!(x == ("__debug__":Str))&&!(x == ("__name__":Str))
def e50(x:Str):Bool:=!(x == ("__debug__":Str))&&!(x == ("__classdict__":Str))
def s22:Const->D->Bool
 |.int i,.int j=>i == j|.bool a,.bl b=>a == b|.str x,.str y=>x == y|.none,.non=>true|_,_=>false
def bfN:Bf->Str × Bool
 |.len=>("len",false) | .sorted=>("sorted",false) | .tuple=>("tuple",true) | .list=>("list",true) | .min=>("min",false) | .max=>("max",false)|.all=>("all",false) | .int=>("int",true) | .sset=>("sorted",false) | .z52=>("len",false)
def served:Bf->Bool
 |.len | .tuple | .list | .min | .max | .all | .int | .sorted=>true|_=>false
mutual
noncomputable def j30(N:List Str)(loc:Str->Bool):Pat->Ï->Bool
 |.v i=>λe=>match e with
  |.Name x _=>N[i]? == some x&&loc x|_=>false
 |.tup ps=>λe=>match e with
  |.Tuple es _ _=>n41 N loc ps es|_=>false
 |.nil=>λ_=>false|.cons _ _=>λ_=>false
noncomputable def n41(N:List Str)(loc:Str->Bool):Pat->List Ï->Bool
 |.nil=>λes=>es.isEmpty
 |.cons p r=>λes=>match es with
  |e::es=>noStar e&&j30 N loc p e&&n41 N loc r es|[]=>false
 |.v _=>λ_=>false|.tup _=>λ_=>false
end
def l00:Ï->Bool
 |.Tuple ..=>true|_=>false
def d40:Ï->List Str
 |.Name x _=>[x]|.Tuple es _ _=>names es|_=>[]
where names:List Ï->List Str
 |[]=>[]|.Name x _::r=>x::names r|.Tuple [.Name a _,.Name b _] _ _::r=>a::b::names r|_::r=>names r
def f71(csc sc:ý)(N own:List Str)(capt:List (Str × Nat)):Bool :=
 csc.kind == .function&&csc.names.all (λy=>y.2 != .cell)&&csc.names.all (λy=>y.2 != .local || csc.names.lookup y.1 == some .local) &&
  csc.names.all (λy=>y.2 != .free || (sc.names.lookup y.1 == some .cell || sc.names.lookup y.1 == some .free))&&capt.all (λp=>N[p.2]? == some p.1&&csc.names.lookup p.1 == some .free) &&
  own.all (λx=>csc.names.lookup x == some .local)&&decide (own++capt.map (·.1)).Nodup
def b70(N:List Str):List Nat->List (Str × Nat)
 |[]=>[]
 |i::r=>match N[i]? with
  |some x=>(x,i)::b70 N r|none=>b70 N r
def opt{α:Type}(o:Option α)(f:α->Bool):Bool:=match o with
 |some a=>f a|none=>false
theorem a70{α:Type}{o:Option α}{f:α->Bool}(h:opt o f=true):∃ a,o=some a/\f a=true:=by
 cases o with
 |none=>cases h
 |some a=>exact⟨a,rfl,h⟩
def O32:(e:List Ï)->Option {q:Str × Pos // e=[.Name q.1 q.2]}
 |[.Name n p]=>some ⟨(n,p),rfl⟩|_=>none
def G32:(e:List Ï)->Option {q:Const × Nat × Pos // e=[.Constant q.1 q.2.1 q.2.2]}
 |[.Constant c k p]=>some ⟨(c,k,p),rfl⟩|_=>none
def G42:(e:List Ï)->Option {q:Pos // e=[.Dict [] [] q]}
 |[.Dict [] [] p]=>some ⟨p,rfl⟩|_=>none
def G52:(e:List Ï)->Option {q:List Ï × Nat × Pos // e=[.Tuple q.1 q.2.1 q.2.2]}
 |[.Tuple l k p]=>some ⟨(l,k,p),rfl⟩|_=>none
def G62:(e:List Ï)->Option {q:List Ï × Pos // e=[.List q.1 q.2]}
 |[.List l p]=>some ⟨(l,p),rfl⟩|_=>none
def G72:(e:List Ï)->Option {q:Ï × Ý5 × Ï × Pos // e=[.BinOp q.1 q.2.1 q.2.2.1 q.2.2.2]}
 |[.BinOp l o r p]=>some ⟨(l,o,r,p),rfl⟩|_=>none
def G82:(e:List Ï)->Option {q:Ï × CmpOp × Ï × Pos // e=[.Compare q.1 [q.2.1] [q.2.2.1] q.2.2.2]}
 |[.Compare l [o] [r] p]=>some ⟨(l,o,r,p),rfl⟩|_=>none
def G92:(e:List Ï)->Option {q:Ï × Pos // e=[.UnaryOp .USub q.1 q.2]}
 |[.UnaryOp .USub x p]=>some ⟨(x,p),rfl⟩|_=>none
def H02:(e:List Ï)->Option {q:Ï × Pos // e=[.UnaryOp .Not q.1 q.2]}
 |[.UnaryOp .Not x p]=>some ⟨(x,p),rfl⟩|_=>none
def H12:(e:List Ï)->Option {q:Ï × Ï × List Ï × Pos // e=[.BoolOp .And (q.1::q.2.1::q.2.2.1) q.2.2.2]}
 |[.BoolOp .And (l::r::v) p]=>some ⟨(l,r,v,p),rfl⟩|_=>none
def O42:(e:List Ï)->Option {q:Ï × Ï × List Ï × Pos // e=[.BoolOp .Or (q.1::q.2.1::q.2.2.1) q.2.2.2]}
 |[.BoolOp .Or (l::r::v) p]=>some ⟨(l,r,v,p),rfl⟩|_=>none
def H22:(e:List Ï)->Option {q:Ï × Ï × Ï × Pos // e=[.IfExp q.1 q.2.1 q.2.2.1 q.2.2.2]}
 |[.IfExp t x y p]=>some ⟨(t,x,y,p),rfl⟩|_=>none
def U32:(e:List Ï)->Option {q:Ï × CmpOp × CmpOp × Ï × Ï × Pos // e=[.Compare q.1 [q.2.1,q.2.2.1] [q.2.2.2.1,q.2.2.2.2.1] q.2.2.2.2.2]}
 |[.Compare l [o,o2] [r,s] p]=>some ⟨(l,o,o2,r,s,p),rfl⟩|_=>none
def O52:(e:List Ï)->Option {q:Str × Pos × Ï × List Ï × Pos // e=[.Call (.Name q.1 q.2.1) (q.2.2.1::q.2.2.2.1) [] q.2.2.2.2]}
 |[.Call (.Name n q1) (x::l) [] p]=>some ⟨(n,q1,x,l,p),rfl⟩|_=>none
def U42:(e:List Ï)->Option {q:Str × Pos × Str × Pos × Ï × Pos × Pos // e=[.Call (.Name q.1 q.2.1) [.Call (.Name q.2.2.1 q.2.2.2.1) [q.2.2.2.2.1] [] q.2.2.2.2.2.1] [] q.2.2.2.2.2.2]}
 |[.Call (.Name n p1) [.Call (.Name m p2) [x] [] p3] [] p4]=>some ⟨(n,p1,m,p2,x,p3,p4),rfl⟩|_=>none
def U52:Bf->Bool
 |.sset=>true|_=>false
def H32:(e:List Ï)->Option {q:Str × Pos × Ï × Ï × Pos // e=[.Call (.Name q.1 q.2.1) [q.2.2.1,q.2.2.2.1] [] q.2.2.2.2]}
 |[.Call (.Name n q1) [x,ty] [] p]=>some ⟨(n,q1,x,ty,p),rfl⟩|_=>none
def U62:(e:List Ï)->Option {q:Ï × Ï × Pos // e=[.Subscript q.1 q.2.1 q.2.2]}
 |[.Subscript v x p]=>some ⟨(v,x,p),rfl⟩|_=>none
def U72:(e:List Ï)->Option {q:Ï × Option Ï × Option Ï × Pos × Pos // e=[.Subscript q.1 (.Slice q.2.1 q.2.2.1 none q.2.2.2.1) q.2.2.2.2]}
 |[.Subscript v (.Slice l h none q1) p]=>some ⟨(v,l,h,q1,p),rfl⟩|_=>none
def H42:(e:List Ï)->Option {q:Ï × Nat × Pos × Pos × Pos × Pos // e=[.Subscript q.1 (.Slice none none (some (.UnaryOp .USub (.Constant (.int 1) q.2.1 q.2.2.1) q.2.2.2.1)) q.2.2.2.2.1) q.2.2.2.2.2]}
 |[.Subscript v (.Slice none none (some (.UnaryOp .USub (.Constant (.int 1) k q1) q2)) q3) p]=>some ⟨(v,k,q1,q2,q3,p),rfl⟩|_=>none
def s32:(e:List Ï)->Option {q:Ï × Ï × Ï × List Ï × ý × Pos // e=[.ListComp q.1 [⟨q.2.1,q.2.2.1,q.2.2.2.1,0⟩] q.2.2.2.2.1 q.2.2.2.2.2]}
 |[.ListComp elt [⟨tg,Ä0,ifs,0⟩] csc p]=>some ⟨(elt,tg,Ä0,ifs,csc,p),rfl⟩|_=>none
def k12:(e:Ï)->Option {q:Str × Pos × Ï × Pos // e=.Call (.Name q.1 q.2.1) [q.2.2.1] [] q.2.2.2}
 |.Call (.Name n q1) [a] [] p=>some ⟨(n,q1,a,p),rfl⟩|_=>none
def k22:(e:Ï)->Option {q:Str × Pos × Ï × Ï × Pos // e=.Call (.Name q.1 q.2.1) [q.2.2.1,q.2.2.2.1] [] q.2.2.2.2}
 |.Call (.Name n q1) [a,b] [] p=>some ⟨(n,q1,a,b,p),rfl⟩|_=>none
def shN:(e:Ï)->Option {q:Str × Pos // e=.Name q.1 q.2}
 |.Name n p=>some ⟨(n,p),rfl⟩|_=>none
def O62:(e:Ï)->Option {q:Str × Pos × Str × Pos × Nat × Pos // e=.Tuple [.Name q.1 q.2.1,.Name q.2.2.1 q.2.2.2.1] q.2.2.2.2.1 q.2.2.2.2.2}
 |.Tuple [.Name a q1,.Name b q2] k p=>some ⟨(a,q1,b,q2,k,p),rfl⟩|_=>none
def U82:(e:List Ï)->Option {q:Str × Pos × Int × Nat × Pos × Pos // e=[.Subscript (.Name q.1 q.2.1) (.Constant (.int q.2.2.1) q.2.2.2.1 q.2.2.2.2.1) q.2.2.2.2.2]}
 |[.Subscript (.Name n p) (.Constant (.int j) c q1) r]=>some ⟨(n,p,j,c,q1,r),rfl⟩|_=>none
def U92:(e:List Ï)->Option {q:Str × Pos × Str × Pos × List Ï × Pos × Pos // e=[.Call (.Name q.1 q.2.1) [.Call (.Name q.2.2.1 q.2.2.2.1) q.2.2.2.2.1 [] q.2.2.2.2.2.1] [] q.2.2.2.2.2.2]}
 |[.Call (.Name n p) [.Call (.Name m q1) l [] r] [] t]=>some ⟨(n,p,m,q1,l,r,t),rfl⟩|_=>none
def H52:(e:List Ï)->Option {q:Str × Pos × Ï × ý × Pos × Pos // e=[.Call (.Name q.1 q.2.1) [.Lambda ⟨[],[],none,[],[],none,[]⟩ q.2.2.1 q.2.2.2.1 q.2.2.2.2.1] [] q.2.2.2.2.2]}
 |[.Call (.Name n p) [.Lambda ⟨[],[],none,[],[],none,[]⟩ b c l] [] t]=>some ⟨(n,p,b,c,l,t),rfl⟩|_=>none
def tyE(sc:ý):Ty->Ï->Bool
 |.seq=>λe=>opt (O62 e) λq=>q.1.1 == ("tuple":Str)&&q.1.2.2.1 == ("list":Str)&&glob sc "tuple"&&glob sc "list"|t=>λe=>opt (shN e) λq=>q.1.1 == À9 (tyN t)&&glob sc (À9 (tyN t))
def s42:D->Bool
 |.dct=>true|_=>false
def ifB:Ï->Bool
 |.IfExp ..=>true|_=>false
def e62(lsc sc:ý)(cs:List (Str × Nat)):Bool :=
 lsc.kind == .function&&!lsc.isCoroutine&&!lsc.isGenerator&&lsc.names.all (λy=>y.2 != .cell)&&lsc.names.all (λy=>y.2 != .free || sc.names.lookup y.1 == some .cell)&&cs.all (λp=>lsc.names.lookup p.1 == some .free)&&decide (cs.map (·.1)).Nodup
def mt:Bool->List (Str × List Str)->List (Str × Int)->Ex->ý->List Str->List Ï->Bool
 |lm,fns,nums,.nil=>λ_ _ es=>es.isEmpty
 |lm,fns,nums,.cons a r=>λsc N es=>match es with
  |e::es=>noStar e&&!isL a&&isL r&&mt lm fns nums a sc N [e]&&mt lm fns nums r sc N es|[]=>false
 |lm,fns,nums,.var i=>λ_ N es=>opt (O32 es) λq=>N[i]? == some q.1.1&&e50 q.1.1|lm,fns,nums,.con d=>λ_ _ es=>(opt (G32 es) λq=>s22 q.1.1 d) || opt (G42 es) λ_=>s42 d|lm,fns,nums,.gint g i=>λsc _ es=>opt (O32 es) λq=>q.1.1 == g&&glob sc q.1.1&&nums.contains (g,i)|lm,fns,nums,.tup as=>λsc N es=>opt (G52 es) λq=>isL as&&mt lm fns nums as sc N q.1.1|lm,fns,nums,.lst as=>λsc N es=>opt (G62 es) λq=>isL as&&mt lm fns nums as sc N q.1.1|lm,fns,nums,.bin o a b=>λsc N es=>opt (G72 es) λq=>q.1.2.1 == opB o&&!isL a&&!isL b&&mt lm fns nums a sc N [q.1.1]&&mt lm fns nums b sc N [q.1.2.2.1]|lm,fns,nums,.cmp o a b=>λsc N es=>opt (G82 es) λq=>q.1.2.1 == opC o&&z70 q.1.2.2.1&&!isL a&&!isL b&&mt lm fns nums a sc N [q.1.1]&&mt lm fns nums b sc N [q.1.2.2.1]|lm,fns,nums,.neg a=>λsc N es=>opt (G92 es) λq=>!isL a&&mt lm fns nums a sc N [q.1.1]|lm,fns,nums,.not a=>λsc N es=>opt (H02 es) λq=>!isL a&&!ifB q.1.1&&mt lm fns nums a sc N [q.1.1]|lm,fns,nums,.and a b=>λsc N es=>opt (H12 es) λq=>!isL a&&!isL b&&!ifB q.1.1&&mt lm fns nums a sc N [q.1.1]&&(if q.1.2.2.1.isEmpty then !ifB q.1.2.1&&mt lm fns nums b sc N [q.1.2.1] else mt lm fns nums b sc N [.BoolOp .And (q.1.2.1::q.1.2.2.1) q.1.2.2.2])|lm,fns,nums,.or a b=>λsc N es=>opt (O42 es) λq=>!isL a&&!isL b&&!ifB q.1.1&&mt lm fns nums a sc N [q.1.1]&&(if q.1.2.2.1.isEmpty then !ifB q.1.2.1&&mt lm fns nums b sc N [q.1.2.1] else mt lm fns nums b sc N [.BoolOp .Or (q.1.2.1::q.1.2.2.1) q.1.2.2.2])|lm,fns,nums,.orT a b=>λsc N es=>opt (O42 es) λq=>!isL a&&!isL b&&q.1.2.2.1.isEmpty&&mt lm fns nums a sc N [q.1.1]&&mt lm fns nums b sc N [q.1.2.1]|lm,fns,nums,.ite c a b=>λsc N es=>opt (H22 es) λq=>!isL c&&!isL a&&!isL b&&!ifB q.1.1&&mt lm fns nums c sc N [q.1.1]&&mt lm fns nums a sc N [q.1.2.1]&&mt lm fns nums b sc N [q.1.2.2.1]|lm,fns,nums,.ch o o' a b c=>λsc N es=>opt (U32 es) λq=>q.1.2.1 == opC o&&q.1.2.2.1 == opC o'&&z70 q.1.2.2.2.2.1&&!isL a&&!isL b&&!isL c&&mt lm fns nums a sc N [q.1.1]&&mt lm fns nums b sc N [q.1.2.2.2.1]&&mt lm fns nums c sc N [q.1.2.2.2.2.1]|lm,fns,nums,.bf f as=>λsc N es=>(opt (O52 es) λq=>served f&&q.1.1 == (bfN f).1&&glob sc q.1.1&&isL as&&mt lm fns nums as sc N (q.1.2.2.1::q.1.2.2.2.1)) || (U52 f&&opt (U42 es) λq=>q.1.1 == ("sorted":Str)&&q.1.2.2.1 == ("set":Str)&&glob sc "sorted"&&glob sc "set"&&isL as&&mt lm fns nums as sc N [q.1.2.2.2.2.1])|lm,fns,nums,.isi t a=>λsc N es=>opt (H32 es) λq=>q.1.1 == ("isinstance":Str)&&glob sc q.1.1&&noStar q.1.2.2.1&&!isL a&&mt lm fns nums a sc N [q.1.2.2.1]&&tyE sc t q.1.2.2.2.1|lm,fns,nums,.idx a i=>λsc N es=>opt (U62 es) λq=>D40 q.1.2.1&&!isL a&&!isL i&&mt lm fns nums a sc N [q.1.1]&&mt lm fns nums i sc N [q.1.2.1]|lm,fns,nums,.sl a lo hi=>λsc N es=>opt (U72 es) λq=>!isL a&&isL lo&&isL hi&&mt lm fns nums a sc N [q.1.1]&&mt lm fns nums lo sc N q.1.2.1.toList&&mt lm fns nums hi sc N q.1.2.2.1.toList|lm,fns,nums,.rev a=>λsc N es=>opt (H42 es) λq=>!isL a&&mt lm fns nums a sc N [q.1.1]|lm,fns,nums,.call f as=>λsc N es=>opt (O52 es) λq=>(opt fns[f]? λp=>p.1 == q.1.1&&p.2.length == q.1.2.2.2.1.length + 1)&&glob sc q.1.1&&isL as&&mt lm fns nums as sc N (q.1.2.2.1::q.1.2.2.2.1)
 |lm,fns,nums,.comp own capt p it src cond el=>λsc N es=>opt (s32 es) λq =>
   (d40 q.1.2.1).length == own&&(b70 N capt).length == capt.length&&f71 q.1.2.2.2.2.1 sc N (d40 q.1.2.1) (b70 N capt)&&j30 (d40 q.1.2.1++(b70 N capt).map (·.1)) (λx=>(d40 q.1.2.1).contains x) p q.1.2.1&&isL src&&!isL el&&isL cond&&q.1.2.2.2.1.length<=1&&noStar q.1.1&&z70 q.1.2.2.1 &&
    q.1.2.2.2.1.all (λc=>!ifB c) &&
    (match it with
    |.seq=>mt lm fns nums src sc N [q.1.2.2.1]|.rng1=>opt (k12 q.1.2.2.1) λr=>r.1.1 == ("range":Str)&&glob sc r.1.1&&mt lm fns nums src sc N [r.1.2.2.1]|.rng2=>opt (k22 q.1.2.2.1) λr=>r.1.1 == ("range":Str)&&glob sc r.1.1&&mt lm fns nums src sc N [r.1.2.2.1,r.1.2.2.2.1]|.zip=>opt (k22 q.1.2.2.1) λr=>r.1.1 == ("zip":Str)&&glob sc r.1.1&&l00 q.1.2.1&&mt lm fns nums src sc N [r.1.2.2.1,r.1.2.2.2.1]
    |.enum=>opt (k12 q.1.2.2.1) λr=>r.1.1 == ("enumerate":Str)&&glob sc r.1.1&&l00 q.1.2.1&&mt lm fns nums src sc N [r.1.2.2.1])&&mt false fns nums cond q.1.2.2.2.2.1 (d40 q.1.2.1++(b70 N capt).map (·.1)) q.1.2.2.2.1&&mt false fns nums el q.1.2.2.2.2.1 (d40 q.1.2.1++(b70 N capt).map (·.1)) [q.1.1]
 |lm,fns,nums,.lrng b as=>λsc N es=>opt (U92 es) λq=>q.1.1 == lrN b&&q.1.2.2.1 == ("range":Str)&&glob sc (lrN b)&&glob sc "range"&&isL as&&decide (1<=q.1.2.2.2.2.1.length/\q.1.2.2.2.2.1.length<=2)&&mt lm fns nums as sc N q.1.2.2.2.2.1|lm,fns,nums,.zget i k=>λ_ N es=>opt (U82 es) λq=>N[i]? == some q.1.1&&e50 q.1.1&&q.1.2.2.1 == (k:Int)|lm,fns,nums,.refd capt a=>λsc N es=>opt (H52 es) λq=>lm&&q.1.1 == ("_law_refused":Str)&&glob sc "_law_refused"&&(b70 N capt).length == capt.length&&e62 q.1.2.2.2.1 sc (b70 N capt)&&!isL a&&mt false fns nums a q.1.2.2.2.1 ((b70 N capt).map (·.1)) [q.1.2.2.1]
theorem d50{sc:ý}{x:Str}(h:glob sc x=true):sc.names.lookup x=some .globalImplicit/\(x == ("__debug__":Str))=false/\x≠"__name__":=by
 unfold glob at h;simp only[Á,À3,beq_iff_eq] at h;refine⟨h.1.1,h.1.2,λe=>?_⟩;subst e;simp at h
section
variable {lm:Bool}{X:Cx}{G:Gs}{E:XK}{N:List Str}{sc:ý}
theorem s52{K:Â}{zA:Option Ç}{H0 H:Hp}{s:S}{v:V}(h:RvP K zA H s v):RvS K zA H0 H (plS s) v:=by cases s <;> exact h
theorem e72(h:(!ifB e)=true):∀ t a b p,e≠.IfExp t a b p:=by
 intro t a b p he;subst he;cases h
theorem a90(hL:isL x=false)(h:Good X G E x [e]):b10 X G E x e:=by
 cases x with
 |nil=>cases hL
 |cons _ _=>cases hL
 |_ =>
  obtain⟨e',h1,h2⟩:=(show ∃ e',[e]=[e']/\b10 X G E _ e' from h);cases h1;exact h2
theorem c20(hL:isL x=false)(h:b10 X G E x e):Good X G E x [e]:=by
 cases x with
 |nil=>cases hL
 |cons _ _=>cases hL
 |_=>exact⟨e,rfl,h⟩
theorem f60(po:a71 X.K G zA E H Q r):∀ c z1,r=.er c z1->EPost G zA E c z1 H:=λc z1 e=>by subst e;exact po
theorem T60(po:N81 G zA E H Q r):∀ c z1,r=.er c z1->EPost G zA E c z1 H:=λc z1 e=>by subst e;exact po
theorem H62(x:XI lm X G E N sc){i:Nat}{n:Str}{pos:Pos}(h1:N[i]?=some n)(h2:e50 n=true):b10 X G E (.var i) (.Name n pos):=by
 unfold e50 at h2;simp only[Á,À3] at h2;refine b00 (PE.imp (t20 (i:=i) (by rw[x.hN];exact h1) (x.vis n (î h1)) h2.1 h2.2) λσ H Q q=>?_) rfl
 obtain⟨zA,ρ,z,r,rel,st,e,po⟩:=q;have e':(match ρ[i]? with | some (some s)=>M.ret [plS s] | _=>M.no) z=some r:=e
 cases hs:ρ[i]? with
 |none=>rw[hs] at e';cases e'
 |some o =>
  cases o with
  |none=>rw[hs] at e';cases e'
  |some s =>
   rw[hs] at e';cases e';obtain⟨v,hv,rv⟩:=rel i s hs;obtain⟨s',e',po⟩:=po;cases e';exact⟨v,hv,po v H Ext.refl st (s52 rv)⟩
theorem H72{c:Const}{d:D}{j:Nat}{pos:Pos}(h:s22 c d=true):b10 X G E (.con d) (.Constant c j pos):=by
 refine b00 ?_ rfl;have fin:∀ {v:V},(∀ H,Hd X.K H d v)->∀ σ H Q,tI X.K G E (.con d) σ H Q->tC v σ H Q:=λ{v} hd σ H Q q=>by
  obtain⟨zA,ρ,z,r,rel,st,e,po⟩:=q;cases e;obtain⟨s',e',po⟩:=po;cases e';exact po v H Ext.refl st (G91 (hd _))
 cases c with
 |int i=>cases d <;> first | (simp only[s22,beq_iff_eq] at h;subst h;exact PE.imp P60 (fin λH=>Hd.int)) | (cases h)
 |bool b=>cases d <;> first | (simp only[s22,beq_iff_eq] at h;subst h;exact PE.imp B12 (fin λH=>Hd.bl)) | (cases h)
 |str y=>cases d <;> first | (simp only[s22,beq_iff_eq] at h;subst h;exact PE.imp S01 (fin λH=>Hd.str)) | (cases h)
 |none=>cases d <;> first | exact PE.imp p91 (fin λH=>Hd.non) | (cases h)
 |_=>cases h
theorem H82{pos:Pos}:b10 X G E (.con .dct) (.Dict [] [] pos):=by
 refine b00 (PE.imp a52 λσ H Q q=>?_) rfl;obtain⟨zA,ρ,z,r,rel,st,e,po⟩:=q;cases e;obtain⟨s',e',po⟩:=po;cases e';intro p hp;refine po _ _ (Ext.of (a30.new _ hp)) (st.same (a30.new _ hp)) (G91 ?_);unfold Hd;exact⟨p,[],rfl,d90 b20 (st.w01 hp)⟩
theorem s62(x:XI lm X G E N sc){g:Str}{i:Int}{pos:Pos}(h1:glob sc g=true)(h2:(g,i)∈G.nums):b10 X G E (.gint g i) (.Name g pos):=by
 obtain⟨k1,k2,_⟩:=d50 h1;obtain⟨t,ht⟩:=x.num _ h2;refine b00 (PE.imp (f90 (v:=.int i) (x.glb g k1) ht ⟨t,rfl⟩ k2) λσ H Q q=>?_) rfl;obtain⟨zA,ρ,z,r,rel,st,e,po⟩:=q;cases e;obtain⟨s',e',po⟩:=po;cases e';exact po _ H Ext.refl st j60
theorem G20{K:Â}{zA:Option Ç}{H0 H:Hp}{l:List S}{vs:List V}{ds:List D}(h:Æ0 (RvS K zA H0 H) l vs)(e:plA l=some ds):HdA K (hz zA H) ds vs:=RvA.ds (Æ0.j72 h λ_ _ q=>q.pl) e
theorem H92{as:Ex}{l:List Ï}{k:Nat}{pos:Pos}(hL:isL as=true)(g:Good X G E as l):b10 X G E (.tup as) (.Tuple l k pos):=by
 refine b00 (PE.imp (S61 (g.args hL).1) λσ H Q q=>?_) rfl;obtain⟨zA,ρ,z,r,rel,st,e,po⟩:=q;refine a81 rel st e (f60 po) λl z1 e1 vs H1 x1 st1 rvs=>?_;obtain⟨ds,hd,e2⟩:=M.a20 e1;split at e2
 ·rename_i hm;cases e2;obtain⟨s',e',po⟩:=po;cases e';have h:=G20 rvs hd;exact⟨g80 (by rw[h.length];exact hm),λp hp=>po _ _ (x1.trans (Ext.of (a30.new _ hp))) (st1.same (a30.new _ hp)) (G91 (Hd.tup ((st1.same (a30.new _ hp)).c52 (SqT.of b20)) (h.same (k30 (a30.new _ hp)))))⟩
 ·cases e2
theorem I02{as:Ex}{l:List Ï}{pos:Pos}(hL:isL as=true)(g:Good X G E as l):b10 X G E (.lst as) (.List l pos):=by
 refine b00 (PE.imp (S71 (g.args hL).1) λσ H Q q=>?_) rfl;obtain⟨zA,ρ,z,r,rel,st,e,po⟩:=q;refine a81 rel st e (f60 po) λl z1 e1 vs H1 x1 st1 rvs=>?_;obtain⟨ds,hd,e2⟩:=M.a20 e1;split at e2
 ·rename_i hm;cases e2;obtain⟨s',e',po⟩:=po;cases e';have h:=G20 rvs hd;exact⟨g80 (by rw[h.length];exact hm),λp hp=>po _ _ (x1.trans (Ext.of (a30.new _ hp))) (st1.same (a30.new _ hp)) ((n20 st1 h hp).from x1)⟩
 ·cases e2
theorem f81{α:Type}{a b:Ex}{k:D->D->M α}{zA:Option Ç}{ρ:Env}{z:Z}{r:R α}{σ:L2.St}{H:Hp}{Q:V->V->Hp->Prop}(rel:x90 X.K zA H ρ σ)(st:e30 zA z H)
  (h:M.bind (ev G.F a ρ) (λx=>M.bind (M.of (pl x)) λx=>M.bind (ev G.F b ρ) λy=>M.bind (M.of (pl y)) λy=>k x y) z=some r) (her:∀ c z1,r=.er c z1->EPost G zA E c z1 H)
  (hk:∀ dx dy z2 v w H2,k dx dy z2=some r->Ext zA H H2->e30 zA z2 H2->Hd X.K (hz zA H2) dx v->Hd X.K (hz zA H2) dy w->Q v w H2) :
  tI X.K G E a σ H λv H1=>tI X.K G E b σ H1 λw H2=>Q v w H2:=by
 refine j20 rel st h her λl z1 e1=>?_;obtain⟨dx,p1,e2⟩:=M.a20 e1;obtain⟨s1,rfl,q1⟩:=f80 p1;refine⟨s1,rfl,λv H1 x1 st1 rv=>?_⟩;refine j20 (rel.mono x1) st1 e2 (λc z2 q=>(her c z2 q).mono x1) λm z2 e3=>?_;obtain⟨dy,p2,e4⟩:=M.a20 e3;obtain⟨s2,rfl,q2⟩:=f80 p2;exact⟨s2,rfl,λw H2 x2 st2 rw'=>hk dx dy z2 v w H2 e4 (x1.trans x2) st2 ((rv.pl.mono x2).d_ q1) (rw'.pl.d_ q2)⟩
theorem e80{zA:Option Ç}{H H2:Hp}{z2:Z}{s:S}{Q:VK}(po:a71 X.K G zA E H Q (.ok [s] z2))(x:Ext zA H H2)(st:e30 zA z2 H2):∀ v H',a30 H2 H'->RvS X.K zA H2 H' s v->Q v H':=λv H' sm rv=>by
 obtain⟨s',e',po⟩:=po;cases e';exact po v H' (x.trans (Ext.of sm)) (st.same sm) (rv.from x)
theorem I12{o:Bi}{a b:Ex}{l r:Ï}{pos:Pos}(ga:b10 X G E a l)(gb:b10 X G E b r):b10 X G E (.bin o a b) (.BinOp l (opB o) r pos):=by
 refine b00 (PE.imp (H81 (opD o) ga.pe gb.pe) λσ H Q q=>?_) rfl;obtain⟨zA,ρ,z,rr,rel,st,e,po⟩:=q;refine f81 rel st e (f60 po) λdx dy z2 v w H2 e2 x2 st2 h1 h2=>?_;obtain⟨s,hs,e3⟩:=M.a20 e2;cases e3;exact⟨zA,z2,dx,dy,s,st2,h1,h2,hs,e80 po x2 st2⟩
theorem U31(po:N81 G zA E H Q r):a71 X.K G zA E H (λx H'=>∃ k,x=.bl k/\Q k H') r:=by
 cases r with
 |er c z1=>exact po
 |ok l z1 =>
  obtain⟨b,rfl,po⟩:=po;exact⟨_,rfl,λv H' ex st' rv=>⟨b,Hd.bl_ (show Hd X.K (hz zA H') (.bl b) v from rv),po H' ex st'⟩⟩
theorem I22(x:XI lm X G E N sc){o:Cm}{a b:Ex}{l r:Ï}{pos:Pos}(hs:z70 r=true)(ga:b10 X G E a l)(gb:b10 X G E b r):b10 X G E (.cmp o a b) (.Compare l [opC o] [r] pos):=by
 have key:∀ σ H Q,tI X.K G E (.cmp o a b) σ H Q->tOp (rD2 X.K λa b=>(C70 o a b).map λc=>.d (.bl c)) (tI X.K G E a) (tI X.K G E b) σ H Q:=λσ H Q q=>by
  obtain⟨zA,ρ,z,rr,rel,st,e,po⟩:=q;refine f81 rel st e (f60 po) λdx dy z2 v w H2 e2 x2 st2 h1 h2=>?_;obtain⟨c,hc,e3⟩:=M.a20 e2;cases e3;exact⟨zA,z2,dx,dy,_,st2,h1,h2,by show Î3 _ (C70 o dx dy)=_;rw[hc];rfl,e80 po x2 st2⟩
 refine⟨PE.imp (X81 (k02 x.room.units o) ga.pe gb.pe (w91 hs _)) key,λ_=>PT.imp (X91 (k02 x.room.units o) ga.pe gb.pe (w91 hs _)) λσ H Q q=>?_,λop vs p h=>by cases h⟩
 obtain⟨zA,ρ,z,rr,rel,st,e,po⟩:=q;exact key σ H _ ⟨zA,ρ,z,rr,rel,st,e,U31 po⟩
theorem I32{a:Ex}{l:Ï}{pos:Pos}(ga:b10 X G E a l):b10 X G E (.neg a) (.UnaryOp .USub l pos):=by
 refine b00 (PE.imp (m62 S51 ga.pe) λσ H Q q=>?_) rfl;obtain⟨zA,ρ,z,rr,rel,st,e,po⟩:=q;refine j20 rel st e (f60 po) λm z1 e1=>?_;obtain⟨i,p1,e2⟩:=M.a20 e1;obtain⟨d,p2,p3⟩:=Ò.mp p1;obtain⟨s1,rfl,q1⟩:=f80 p2;cases e2;refine⟨s1,rfl,λv H1 x1 st1 rv=>?_⟩;have hd:=rv.pl.d_ q1;cases d with
 |int j =>
  cases p3;exact⟨i,hd.j00,e80 po x1 st1 _ _ (a30.refl H1) j60⟩
 |_=>cases p3
theorem I42{a:Ex}{l:Ï}{pos:Pos}(ga:b10 X G E a l)(hn:∀ t x y p,l≠.IfExp t x y p):b10 X G E (.not a) (.UnaryOp .Not l pos):=by
 refine⟨PE.imp (l62 ga.pe) λσ H Q q=>?_,λ_=>PT.imp (S11 (ga.pt hn)) λσ H Q q=>?_,λop vs p h=>by cases h⟩
 ·obtain⟨zA,ρ,z,rr,rel,st,e,po⟩:=q;refine j20 rel st e (f60 po) λm z1 e1=>?_;obtain⟨b,p1,e2⟩:=M.a20 e1;obtain⟨d,p2,p3⟩:=Ò.mp p1;obtain⟨s1,rfl,q1⟩:=f80 p2;cases e2;refine⟨s1,rfl,λv H1 x1 st1 rv=>?_⟩;have hd:=rv.pl.d_ q1;cases d with
  |bl c =>
   cases p3;exact⟨b,hd.bl_,e80 po x1 st1 _ _ (a30.refl H1) j10⟩
  |_=>cases p3
 ·obtain⟨zA,ρ,z,rr,rel,st,e,po⟩:=q;refine T50 rel st e (T60 po) λb z1 e1 H1 x1 st1=>?_;cases e1;obtain⟨b',e',po⟩:=po;cases e';exact po H1 x1 st1
end
end Q
namespace Q
open PySem L2 PySem.Spec PyProof.Rows
variable [TB:Tb]
section
variable {lm:Bool}{X:Cx}{G:Gs}{E:XK}{N:List Str}{sc:ý}
theorem M20(rel:x90 X.K zA H ρ σ)(st:e30 zA z H)
  (h:M.bind (ev G.F a ρ) (λx=>M.bind (M.of ((pl x).bind asB)) k) z=some r) (her:∀ c z1,r=.er c z1->EPost G zA E c z1 H)
  (hok:∀ b z1,k b z1=some r->∀ H1,Ext zA H H1->e30 zA z1 H1->Q' (.bl b) H1):tI X.K G E a σ H Q':=by
 refine j20 rel st h her λm z1 e1=>?_;obtain⟨b,p1,e2⟩:=M.a20 e1;obtain⟨d,p2,p3⟩:=Ò.mp p1;obtain⟨s1,rfl,q1⟩:=f80 p2;refine⟨s1,rfl,λv H1 x1 st1 rv=>?_⟩;have hd:=rv.pl.d_ q1;cases d with
 |bl c =>
  cases p3;rw[hd.bl_];exact hok b z1 e2 H1 x1 st1
 |_=>cases p3
theorem I52(ga:b10 X G E a l)(hl:∀ t x y p,l≠.IfExp t x y p)
  (gb:b10 X G E b (.BoolOp .And (r::vs) p)):b10 X G E (.and a b) (.BoolOp .And (l::r::vs) p):=by
 have pw:PW X (.BoolOp .And (l::r::vs) p) (tT X.K G E (.and a b)):=by
  refine PW.imp (l32 (ga.pt hl) (gb.pw _ _ _ rfl)) λσ H Q q=>?_;obtain⟨zA,ρ,z,rr,rel,st,e,po⟩:=q;refine T50 rel st e (T60 po) λc z1 e1 H1 x1 st1=>?_;cases c with
  |true =>
   rw[if_pos rfl];rw[if_pos rfl] at e1;refine T50 (rel.mono x1) st1 e1 (λc z2 q=>((T60 po) c z2 q).mono x1) λc z2 e2 H2 x2 st2=>?_;cases e2;obtain⟨b',e',po⟩:=po;cases e';exact po H2 (x1.trans x2) st2
  |false =>
   rw[if_neg Ð];rw[if_neg Ð] at e1;cases e1;obtain⟨b',e',po⟩:=po;cases e';exact po H1 x1 st1
 refine⟨PE.imp (l52 ga.pe gb.pe) λσ H Q q=>?_,λ_=>pw.pt,λop vs p h=>pw⟩;obtain⟨zA,ρ,z,rr,rel,st,e,po⟩:=q;refine M20 rel st e (f60 po) λc z1 e1 H1 x1 st1=>⟨c,rfl,?_⟩;cases c with
 |true =>
  rw[if_pos rfl];rw[if_pos rfl] at e1;refine M20 (rel.mono x1) st1 e1 (λc z2 q=>((f60 po) c z2 q).mono x1) λc z2 e2 H2 x2 st2=>?_;cases e2;exact e80 po (x1.trans x2) st2 _ _ (a30.refl H2) j10
 |false =>
  rw[if_neg Ð];rw[if_neg Ð] at e1;cases e1;exact e80 po x1 st1 _ _ (a30.refl H1) j10
theorem V02(ga:b10 X G E a l)(hl:∀ t x y p,l≠.IfExp t x y p)
  (gb:b10 X G E b (.BoolOp .Or (r::vs) p)):b10 X G E (.or a b) (.BoolOp .Or (l::r::vs) p):=by
 have pw:PW X (.BoolOp .Or (l::r::vs) p) (tT X.K G E (.or a b)):=by
  refine PW.imp (B22 (ga.pt hl) (gb.pw _ _ _ rfl)) λσ H Q q=>?_;obtain⟨zA,ρ,z,rr,rel,st,e,po⟩:=q;refine T50 rel st e (T60 po) λc z1 e1 H1 x1 st1=>?_;cases c with
  |false =>
   rw[if_neg Ð];rw[if_neg Ð] at e1;refine T50 (rel.mono x1) st1 e1 (λc z2 q=>((T60 po) c z2 q).mono x1) λc z2 e2 H2 x2 st2=>?_;cases e2;obtain⟨b',e',po⟩:=po;cases e';exact po H2 (x1.trans x2) st2
  |true =>
   rw[if_pos rfl];rw[if_pos rfl] at e1;cases e1;obtain⟨b',e',po⟩:=po;cases e';exact po H1 x1 st1
 refine⟨PE.imp (B52 ga.pe gb.pe) λσ H Q q=>?_,λ_=>pw.pt,λop vs p h=>pw⟩;obtain⟨zA,ρ,z,rr,rel,st,e,po⟩:=q;refine M20 rel st e (f60 po) λc z1 e1 H1 x1 st1=>⟨c,rfl,?_⟩;cases c with
 |false =>
  rw[if_neg Ð];rw[if_neg Ð] at e1;refine M20 (rel.mono x1) st1 e1 (λc z2 q=>((f60 po) c z2 q).mono x1) λc z2 e2 H2 x2 st2=>?_;cases e2;exact e80 po (x1.trans x2) st2 _ _ (a30.refl H2) j10
 |true =>
  rw[if_pos rfl];rw[if_pos rfl] at e1;cases e1;exact e80 po x1 st1 _ _ (a30.refl H1) j10
theorem s72(gb:b10 X G E b r)(hr:∀ t x y p,r≠.IfExp t x y p):b10 X G E b (.BoolOp op [r] p):=by
 have pw:PW X (.BoolOp op [r] p) (tT X.K G E b):=by
  cases op with
  |And=>exact X31 (gb.pt hr)|Or=>exact l22 (gb.pt hr)
 exact⟨l42 gb.pe,λ_=>pw.pt,λ_ _ _ _=>pw⟩
theorem a71.s82(po:a71 X.K G zA E H Q rr)(x1:Ext zA H H1):a71 X.K G zA E H1 Q rr:=by
 cases rr with
 |er c z1=>exact EPost.mono po x1
 |ok l z2 =>
  obtain⟨s,e',po⟩:=po;exact⟨s,e',λv H' x' st' rv=>po v H' (x1.trans x') st' (rv.from x1)⟩
theorem T70{α:Type}{m:M α}{z:Z}{r:R α}(h:M.calm m z=some r):m z=some r/\∃ a z1,r=.ok a z1:=by
 unfold M.calm at h;split at h
 ·rename_i a z1 e;cases h;exact⟨e,a,z1,rfl⟩
 ·cases h
theorem s92{a b:Ï}{ta tb:TE}{pos:Pos}(ha:PE X a ta)(hb:PE X b tb):PE X (.BoolOp .Or [a,b] pos) (λσ H Q=>ta σ H λx H1=>∃ t xs,x=.ref t/\SqT X.K H1 t xs/\if xs.isEmpty=true then tb σ H1 Q else Q x H1):=by
 intro pins s σ H Q I h;refine BoolOp_or (thn (ha pins s σ H _ I h) λv s1 ⟨x,H1,I1,r1,q1⟩=>?_);obtain⟨t,xs,rfl,hq,q1⟩:=q1;obtain⟨its,hv,ht,hl⟩:=I1.tuple hq;have hlen:xs.length=its.length:=hv.length;cases r1;refine truthy_tuple ht (by rw[Ó,← hlen];have:=Á2;omega) ?_
 cases xs with
 |nil =>
  cases its with
  |nil=>exact BoolOp_one (hb pins _ σ H1 Q (I1.tok _) q1)|cons _ _=>cases hlen
 |cons y r =>
  cases its with
  |nil=>cases hlen
  |cons _ _=>exact⟨.ref t,H1,I1.tok _,rfl,q1⟩
theorem U41(h:(pl y).bind q12=some l):∃ s,y=[s]/\plD s=some (.tup l):=by
 obtain⟨d,p2,p3⟩:=Ò.mp h;obtain⟨s1,rfl,q1⟩:=f80 p2;cases d with
 |tup l=>cases p3;exact⟨s1,rfl,q1⟩
 |_=>cases p3
theorem I62(ga:b10 X G E a l)(gb:b10 X G E b r):b10 X G E (.orT a b) (.BoolOp .Or [l,r] p):=by
 have no:∀ {zA:Option Ç}{ρ:Env}{z:Z}{rr:R (List S)}{H:Hp}{Q:Bool->Hp->Prop},ev G.F (.orT a b) ρ z=some rr->N81 G zA E H Q rr->False:=λe po=>by
  obtain⟨e,u,z1,rfl⟩:=T70 e;obtain⟨c,rfl,_⟩:=po;rcases M.bind_some e with ⟨m,z2,_,e2⟩ | ⟨c,z2,_,e2⟩
  ·obtain⟨ds,_,e3⟩:=M.a20 e2;split at e3
   ·rcases M.bind_some e3 with ⟨m,z2,_,e2⟩ | ⟨c,z2,_,e2⟩
    ·obtain⟨ds,_,e3⟩:=M.a20 e2;cases e3
    ·cases e2
   ·cases e3
  ·cases e2
 refine⟨PE.imp (s92 ga.pe gb.pe) λσ H Q q=>?_,λ_ pins s σ H Q I ⟨_,_,_,_,_,_,e,po⟩=>(no e po).elim,λ_ _ _ _ wh pins s σ H Q I ⟨_,_,_,_,_,_,e,po⟩=>(no e po).elim⟩;obtain⟨zA,ρ,z,rr,rel,st,e,po⟩:=q;obtain⟨e,u,z1,rfl⟩:=T70 e;refine j20 rel st e (f60 po) λm z1 e1=>?_;obtain⟨ds,p1,e2⟩:=M.a20 e1;obtain⟨s1,rfl,q1⟩:=U41 p1;refine⟨s1,rfl,λv H1 x1 st1 rv=>?_⟩;have hd:=rv.pl.d_ q1;obtain⟨t,xs,rfl,h1,h2⟩:=hd.z60;refine⟨t,xs,rfl,(a10 zA H1).sqT h1,?_⟩;cases ds with
 |nil =>
  cases h2.f50;have po:=po.s82 x1;refine j20 (rel.mono x1) st1 e2 (f60 po) λm z1 e1=>?_;obtain⟨ds,p1,e2⟩:=M.a20 e1;obtain⟨s1,rfl,q1⟩:=U41 p1;cases e2;exact⟨s1,rfl,λv H2 x2 st2 rv=>e80 po x2 st2 _ _ (a30.refl H2) (rv.pl.d_ q1)⟩
 |cons y r =>
  obtain⟨u,w,rfl,_⟩:=h2.c60;cases e2;exact e80 po x1 st1 _ _ (a30.refl H1) hd
theorem I72(gc:b10 X G E c t)(ht:∀ a b d p,t≠.IfExp a b d p)(ga:b10 X G E a x)(gb:b10 X G E b y):b10 X G E (.ite c a b) (.IfExp t x y p):=by
 refine⟨PE.imp (H51 (gc.pt ht) ga.pe gb.pe) λσ H Q q=>?_,λh=>absurd rfl (h t x y p),λop vs p h=>by cases h⟩
 obtain⟨zA,ρ,z,rr,rel,st,e,po⟩:=q;refine T50 rel st e (f60 po) λk z1 e1 H1 x1 st1=>?_;have po1:=po.s82 x1;cases k with
 |true =>
  rw[if_pos rfl];rw[if_pos rfl] at e1;exact⟨zA,ρ,z1,rr,rel.mono x1,st1,e1,po1⟩
 |false =>
  rw[if_neg Ð];rw[if_neg Ð] at e1;exact⟨zA,ρ,z1,rr,rel.mono x1,st1,e1,po1⟩
theorem V12(x:XI lm X G E N sc){o o':Cm}{a b c:Ex}{l r s:Ï}{pos:Pos}(hs:z70 s=true)(ga:b10 X G E a l)(gb:b10 X G E b r)(gc:b10 X G E c s):b10 X G E (.ch o o' a b c) (.Compare l [opC o,opC o'] [r,s] pos):=by
 have hm:lastMarks [opC o,opC o'] [r,s]=false:=w91 hs _;have key:∀ σ H Q,tI X.K G E (.ch o o' a b c) σ H Q->q71 (rD2 X.K λa b=>(C70 o a b).map λc=>.d (.bl c)) (rD2 X.K λa b=>(C70 o' a b).map λc=>.d (.bl c)) (tI X.K G E a) (tI X.K G E b) (tI X.K G E c) σ H Q:=λσ H Q q=>by
  obtain⟨zA,ρ,z,rr,rel,st,e,po⟩:=q;refine f81 rel st e (f60 po) λdx dy z2 v w H2 e2 x2 st2 h1 h2=>?_;obtain⟨k,hk,e3⟩:=M.a20 e2;refine⟨zA,z2,dx,dy,.d (.bl k),st2,h1,h2,by show Î3 _ (C70 o dx dy)=_;rw[hk];rfl,λv3 H3 sm rv=>⟨k,Hd.bl_ (show Hd X.K (hz zA H3) (.bl k) v3 from rv),?_⟩⟩
  have x3:=x2.trans (Ext.of sm);have st3:=st2.same sm;cases k with
  |true =>
   rw[if_pos rfl];rw[if_pos rfl] at e3;refine j20 (rel.mono x3) st3 e3 (λc z2 q=>((f60 po) c z2 q).mono x3) λm z4 e4=>?_;obtain⟨dw,p1,e5⟩:=M.a20 e4;obtain⟨k',hk',e6⟩:=M.a20 e5;obtain⟨s1,rfl,q1⟩:=f80 p1;cases e6;refine⟨s1,rfl,λv4 H4 x4 st4 rv4=>?_⟩;exact⟨zA,z4,dy,dw,_,st4,(h2.same (a30.trans (k30 sm) x4)),rv4.pl.d_ q1,by show Î3 _ (C70 o' dy dw)=_;rw[hk'];rfl,e80 po (x3.trans x4) st4⟩
  |false =>
   rw[if_neg Ð];rw[if_neg Ð] at e3;cases e3;exact e80 po x3 st3 _ _ (a30.refl H3) j10
 refine⟨PE.imp (H91 (k02 x.room.units o) (k02 x.room.units o') ga.pe gb.pe gc.pe hm) key,λ_=>PT.imp (I01 (k02 x.room.units o) (k02 x.room.units o') ga.pe gb.pe gc.pe hm) λσ H Q q=>?_,λop vs p h=>by cases h⟩
 obtain⟨zA,ρ,z,rr,rel,st,e,po⟩:=q;exact key σ H _ ⟨zA,ρ,z,rr,rel,st,e,U31 po⟩
theorem U51:∀ σ H Q,tI X.K G E (.bf f as) σ H Q->tCB (rDn X.K (bfD f)) (tA X.K G E as) σ H Q:=λσ H Q q=>by
 obtain⟨zA,ρ,z,rr,rel,st,e,po⟩:=q;refine a81 rel st e (f60 po) λl z1 e1 vs H1 x1 st1 rvs=>?_;obtain⟨ds,hd,e2⟩:=M.a20 e1;obtain⟨s,hs,e3⟩:=M.a20 e2;cases e3;exact⟨zA,z1,ds,s,st1,G20 rvs hd,hs,e80 po x1 st1⟩
theorem x01(x:XI lm X G E N sc){f:Bf}{as:Ex}{n:Str}{id:String}{e:Ï}{l:List Ï}{p pos:Pos}(hc:g70 X (.builtin id) (rDn X.K (bfD f)))(hb:n∈e52)(hv:ï n=some (.builtin id))(hg:glob sc n=true)(hL:isL as=true)(g:Good X G E as (e::l)):b10 X G E (.bf f as) (.Call (.Name n p) (e::l) [] pos):=by
 obtain⟨k1,k2,k3⟩:=d50 hg;obtain⟨ha,hs⟩:=g.args hL;rw[Ã9,Á] at hs;exact b00 (PE.imp (t50 hc (x.glb n k1) (x.blt n hb) hv ha k3 k2 (c90 hs.1 l X.env) (p80 X.env pos hs.2)) U51) rfl
theorem e82(x:XI lm X G E N sc){f:Bf}{as:Ex}{n:Str}{T:String}{e:Ï}{l:List Ï}{p pos:Pos}(hc:g70 X (.type T) (rDn X.K (bfD f)))(hb:n∈e52)(hv:ï n=some (.type T))(hg:glob sc n=true)(hL:isL as=true)(g:Good X G E as (e::l)):b10 X G E (.bf f as) (.Call (.Name n p) (e::l) [] pos):=by
 obtain⟨k1,k2,k3⟩:=d50 hg;obtain⟨ha,hs⟩:=g.args hL;rw[Ã9,Á] at hs;exact b00 (PE.imp (Q70 hc (x.glb n k1) (x.blt n hb) hv ha k3 k2 (c90 hs.1 l X.env) (p80 X.env pos hs.2)) U51) rfl
theorem t02:ï "len"=some (.builtin "len"):=by decide +kernel
theorem T80:ï "sorted"=some (.builtin "sorted"):=by decide +kernel
theorem t12:ï "all"=some (.builtin "all"):=by decide +kernel
theorem t22:ï "min"=some (.builtin "min"):=by decide +kernel
theorem t32:ï "max"=some (.builtin "max"):=by decide +kernel
theorem u30:ï "isinstance"=some (.builtin "isinstance"):=by decide +kernel
theorem t42:ï "int"=some (.type "int"):=by decide +kernel
theorem M30:ï "tuple"=some (.type "tuple"):=by decide +kernel
theorem a91:ï "list"=some (.type "list"):=by decide +kernel
theorem V22(x:XI lm X G E N sc){f:Bf}{as:Ex}{n:Str}{e:Ï}{l:List Ï}{p pos:Pos}(hf:served f=true)(hn:n=(bfN f).1)(hg:glob sc n=true)(hL:isL as=true)(g:Good X G E as (e::l)):b10 X G E (.bf f as) (.Call (.Name n p) (e::l) [] pos):=by
 subst hn;cases f with
 |len=>exact x01 x r32 (-0) t02 hg hL g|tuple=>exact e82 x N21 (-0) M30 hg hL g|list=>exact e82 x d62 (-0) a91 hg hL g|min=>exact x01 x (r52 x.calm) (-0) t22 hg hL g|max=>exact x01 x (r62 x.calm) (-0) t32 hg hL g|all=>exact x01 x (r42 x.calm) (-0) t12 hg hL g|int=>exact e82 x r72 (-0) t42 hg hL g|sorted=>exact x01 x (w71 x.room.units) (-0) T80 hg hL g|_=>cases hf
theorem I82(t:Ty)(h:t≠.seq):À9 (tyN t)∈e52/\ï (À9 (tyN t))=some (.type (tyN t))/\tyN t∈["int","bool","tuple","list","str"]:=by
 cases t with
 |seq=>exact absurd rfl h|_=>decide +kernel
theorem t52(x:XI lm X G E N sc){t:Ty}{a:Ex}{n:Str}{e:Ï}{p pos p2:Pos}(hs:t≠.seq)
  (hg2:glob sc (À9 (tyN t))=true) (hn:n="isinstance") (hg:glob sc n=true) (ns:noStar e=true) (ga:b10 X G E a e):b10 X G E (.isi t a) (.Call (.Name n p) [e,.Name (À9 (tyN t)) p2] [] pos):=by
 obtain⟨hb,hv,ht⟩:=I82 t hs;subst hn;obtain⟨k1,k2,k3⟩:=d50 hg;obtain⟨m1,m2,m3⟩:=d50 hg2;refine b00 (PE.imp (t50 K81 (x.glb _ k1) (x.blt _ (-0)) u30 (e90 ga.pe (e90 (J00 (v:=.ty (tyN t)) (x.glb _ m1) (x.blt _ hb) hv rfl m3 m2) t40) (c90 ns _ _)) k3 k2 (c90 ns _ _) rfl) λσ H Q q=>?_) rfl
 obtain⟨zA,ρ,z,rr,rel,st,e,po⟩:=q;refine j20 rel st e (f60 po) λm z1 e1=>?_;obtain⟨d,p1,e2⟩:=M.a20 e1;obtain⟨s1,rfl,q1⟩:=f80 p1;cases e2;refine⟨s1,rfl,λv H1 x1 st1 rv=>⟨d,v,tyN t,rfl,((rv.pl.d_ q1).same (a10 zA H1)).has,ht,?_⟩⟩;rw[d72 t d hs];exact e80 po x1 st1 _ _ (a30.refl H1) j10
theorem t62(x:XI lm X G E N sc){a:Ex}{n:Str}{e:Ï}{p pos p1 p2 p3:Pos}{k:Nat}(hg2:glob sc "tuple"=true)(hg3:glob sc "list"=true)(hn:n="isinstance")(hg:glob sc n=true)(ns:noStar e=true)(ga:b10 X G E a e) :
  b10 X G E (.isi .seq a) (.Call (.Name n p) [e,.Tuple [.Name "tuple" p1,.Name "list" p2] k p3] [] pos):=by
 subst hn;obtain⟨k1,k2,k3⟩:=d50 hg;obtain⟨m1,m2,m3⟩:=d50 hg2;obtain⟨l1,l2,l3⟩:=d50 hg3;refine b00 (PE.imp (t50 t51 (x.glb _ k1) (x.blt _ (-0)) u30 (e90 ga.pe (e90 (S61 (e90 (J00 (v:=.ty "tuple") (x.glb _ m1) (x.blt _ (-0)) M30 rfl m3 m2)
  (e90 (J00 (v:=.ty "list") (x.glb _ l1) (x.blt _ (-0)) a91 rfl l3 l2) t40))) t40) (c90 ns _ _)) k3 k2 (c90 ns _ _) rfl) λσ H Q q=>?_) rfl
 obtain⟨zA,ρ,z,rr,rel,st,e,po⟩:=q;refine j20 rel st e (f60 po) λm z1 e1=>?_;obtain⟨d,p1,e2⟩:=M.a20 e1;obtain⟨s1,rfl,q1⟩:=f80 p1;cases e2;refine⟨s1,rfl,λv H1 x1 st1 rv=>⟨by show 2<=Ú;rw[Á2];decide,λt ht=>?_⟩⟩
 have sm:a30 H1 (upd H1 t (.tup [.ty "tuple",.ty "list"])):=a30.new _ ht;refine⟨d,v,t,rfl,((rv.pl.d_ q1).same (a30.trans (a10 zA H1) sm)).has,SqT.of b20,?_⟩;rw[N41 d];exact e80 po x1 st1 _ _ sm j10
theorem I92{a i:Ex}{v x:Ï}{pos:Pos}(hs:D40 x=true)(ga:b10 X G E a v)(gi:b10 X G E i x):b10 X G E (.idx a i) (.Subscript v x pos):=by
 refine b00 (PE.imp (Y61 ixD ga.pe gi.pe (H00 hs)) λσ H Q q=>?_) rfl;obtain⟨zA,ρ,z,rr,rel,st,e,po⟩:=q;refine f81 rel st e (f60 po) λdx dy z2 v w H2 e2 x2 st2 h1 h2=>?_;obtain⟨c,hc,e3⟩:=M.a20 e2;cases e3;exact⟨zA,z2,dx,dy,_,st2,h1,h2,by show Î3 _ (m81 dx dy)=_;rw[hc];rfl,e80 po x2 st2⟩
theorem t72(x:XI lm X G E N sc){i k:Nat}{n:Str}{c:Nat}{p q pos:Pos}(h1:N[i]?=some n)(h2:e50 n=true):b10 X G E (.zget i k) (.Subscript (.Name n p) (.Constant (.int k) c q) pos):=by
 unfold e50 at h2;simp only[Á,À3] at h2;refine b00 (PE.imp (Y61 Y40 (t20 (i:=i) (by rw[x.hN];exact h1) (x.vis n (î h1)) h2.1 h2.2) P60 (H00 rfl)) λσ H Q qq=>?_) rfl
 obtain⟨zA,ρ,z,rr,rel,st,e,po⟩:=qq;have e0:v61 k ρ[i]? z=some rr:=e;unfold v61 at e0;split at e0
 ·rename_i p hs;obtain⟨v,hv,a,hz',rfl⟩:=rel i .z hs;subst hz';have st':H a=some (.lst [.int p.1,.bl p.2]):=st.zat;refine⟨_,hv,a,[.int p.1,.bl p.2],(k:Int),?_⟩;split at e0
  ·rename_i hk;subst hk;cases e0;obtain⟨s',e',po⟩:=po;cases e';exact⟨_,rfl,rfl,SqL.of st',rfl,po _ H Ext.refl st j60⟩
  ·split at e0
   ·rename_i hk;subst hk;cases e0;obtain⟨s',e',po⟩:=po;cases e';exact⟨_,rfl,rfl,SqL.of st',rfl,po _ H Ext.refl st (G91 Hd.bl)⟩
   ·cases e0
 ·cases e0
theorem f91(a:Int):∀ (n:Nat) {its:List Ä},its.length=n->(∀ i,i < n->∃ v t,its[i]?=some v/\v=.int (a + (i:Nat)) t)->Vals ((ë n).map λ(k:Nat)=>V.int (a + k)) its:=by
 intro n its hl h;have:∀ (m:Nat) (l:List Ä) (o:Nat),l.length=m->(∀ i,i < m->∃ v t,l[i]?=some v/\v=.int (a + (o + i:Nat)) t)->Vals ((Â8 o m 1).map λ(k:Nat)=>V.int (a + k)) l:=by
  intro m
  induction m with
  |zero =>
   intro l o hl _;rw[List.length_eq_zero_iff.mp hl];exact .nil
  |succ m ih =>
   intro l o hl h;cases l with
   |nil=>cases hl
   |cons x r =>
    obtain⟨v,t,e1,e2⟩:=h 0 (Nat.succ_pos m);simp only[Ê8,É9] at e1;subst e1;rw[Â0,Å7];refine .cons ⟨t,by rw[e2];simp⟩ (ih r (o + 1) (by simpa using hl) λi hi=>?_)
    obtain⟨v,t,e1,e2⟩:=h (i + 1) (Nat.succ_lt_succ hi);exact⟨v,t,by simpa using e1,by rw[e2];congr 1;omega⟩
 rw[Õ2];exact this n its 0 hl λi hi=>by
  obtain⟨v,t,e1,e2⟩:=h i hi;exact⟨v,t,e1,by rw[e2];simp⟩
theorem x11:ï "range"=some (.type "range"):=by decide +kernel
def lrV:List V->Option (Int × Int)
 |[.int j]=>some (0,j)|[.int i,.int j]=>some (i,j)|_=>none
def lrO:Bool->List V->HO
 |true=>HO.tup|false=>HO.lst
def lrT:Bool->String
 |true=>"tuple"|false=>"list"
def J02(b:Bool)(ta:TA):TE:=λσ H Q=>ta σ H λvs H1=>∃ i j:Int,lrV vs=some (i,j)/\-100000 < i/\i < 100000/\-100000 < j/\j < 100000/\∀ l,H1 l=none->Q (.ref l) (upd H1 l (lrO b ((ë (j - i).toNat).map λ(k:Nat)=>V.int (i + k))))
theorem t82{pins:List (Ç × Obj)}{σ:L2.St}{H1:Hp}{s1:Æ}{r:Ç}{i j:Int}{t u v:Tok}{Q:VK}(hc:X.calm=true)(I2:Inv X pins σ H1 s1)(hr:Ö0 s1.heap r i j 1 t u v)(i1:-100000 < i)(i2:i < 100000)(j1:-100000 < j)(j2:j < 100000)
  (q:∀ l,H1 l=none->Q (.ref l) (upd H1 l (.lst ((ë (j - i).toNat).map λ(k:Nat)=>V.int (i + k))))):Î (Ô X.prog X.w) X.A (call (.type "list") [.ref r]) (EP X pins σ Q) X.xe s1:=by
 have hz:Ã7 i j 1=(((j - i).toNat:Nat):Int):=by rw[rangeSize_one];split <;> omega
 refine call_list_range (n:=(j - i).toNat) (I2.ok.hd hc) hr (small_one ∅ ∅ ∅ ∅) hz ∅ λh' tk acc' c' kp hS hacc=>?_
 have rv:Vals ((ë (j - i).toNat).map λ(k:Nat)=>V.int (i + k)) acc'.toList:=by
  refine f91 i (j - i).toNat ?_ λi hi=>?_
  ·rw[Ê4];exact hacc.1
  ·have hlt:i < acc'.size:=by rw[hacc.1];exact hi
   obtain⟨t,e⟩:=hacc.2 i acc'[i] (É1 hlt);exact⟨acc'[i],t,by rw[ô];exact É1 hlt,by rw[e];simp⟩
 have hlen:((ë (j - i).toNat).map λ(k:Nat)=>V.int (i + k)).length<=sizeLine:=by rw[É,ù,Á2];omega
 have hn:=I2.hok.fresh (Í _);exact⟨.ref _,_,I2.laid (t':=tk) kp (Í _) (show h40 X.prog X.w _ h' _ (.lst _) from⟨hlen,acc'.toList,c',rv,by rw[Ð1];exact hS⟩),rfl,q _ hn⟩
theorem e92{pins:List (Ç × Obj)}{σ:L2.St}{H1:Hp}{s1:Æ}{r:Ç}{i j:Int}{t u v:Tok}{Q:VK}(hc:X.calm=true)(I2:Inv X pins σ H1 s1)(hr:Ö0 s1.heap r i j 1 t u v)(i1:-100000 < i)(i2:i < 100000)(j1:-100000 < j)(j2:j < 100000)
  (q:∀ l,H1 l=none->Q (.ref l) (upd H1 l (.tup ((ë (j - i).toNat).map λ(k:Nat)=>V.int (i + k))))):Î (Ô X.prog X.w) X.A (call (.type "tuple") [.ref r]) (EP X pins σ Q) X.xe s1:=by
 have hz:Ã7 i j 1=(((j - i).toNat:Nat):Int):=by rw[rangeSize_one];split <;> omega
 refine HT.tuple_range (n:=(j - i).toNat) (I2.ok.hd hc) hr (small_one ∅ ∅ ∅ ∅) hz ∅ λh' tk acc' kp hsz hacc=>?_
 have rv:Vals ((ë (j - i).toNat).map λ(k:Nat)=>V.int (i + k)) acc'.toList:=by
  refine f91 i (j - i).toNat ?_ λi hi=>?_
  ·rw[Ê4];exact hacc.1
  ·have hlt:i < acc'.size:=by rw[hacc.1];exact hi
   obtain⟨t,e⟩:=hacc.2 i acc'[i] (É1 hlt);exact⟨acc'[i],t,by rw[ô];exact É1 hlt,by rw[e];simp⟩
 have hlen:((ë (j - i).toNat).map λ(k:Nat)=>V.int (i + k)).length<=sizeLine:=by rw[É,ù,Á2];omega
 exact⟨.ref _,_,I2.laid (t':=tk) (λb o e=>Ã _ (kp b o e)) hsz (show h40 X.prog X.w _ _ _ (.tup _) from⟨hlen,acc'.toList,rv,⟨_,Ê _ rfl,rfl,0,by rw[Ð1]⟩⟩),rfl,q _ (I2.hok.fresh hsz)⟩
theorem x21(b:Bool){pins:List (Ç × Obj)}{σ:L2.St}{H1:Hp}{s1:Æ}{r:Ç}{i j:Int}{t u v:Tok}{Q:VK}(hc:X.calm=true)(I2:Inv X pins σ H1 s1)(hr:Ö0 s1.heap r i j 1 t u v)(i1:-100000 < i)(i2:i < 100000)(j1:-100000 < j)(j2:j < 100000)
  (q:∀ l,H1 l=none->Q (.ref l) (upd H1 l (lrO b ((ë (j - i).toNat).map λ(k:Nat)=>V.int (i + k))))):Î (Ô X.prog X.w) X.A (call (.type (lrT b)) [.ref r]) (EP X pins σ Q) X.xe s1:=by
 cases b with
 |true=>exact e92 hc I2 hr i1 i2 j1 j2 q|false=>exact t82 hc I2 hr i1 i2 j1 j2 q
theorem J12(b:Bool):ï (lrN b)=some (.type (lrT b)):=by
 cases b with
 |true=>exact M30|false=>exact a91
theorem x31(b:Bool){e:Ï}{l:List Ï}{ta:TA}{p p2 pos pos2:Pos}(hc:X.calm=true)(hg:Gl X (lrN b))(hm:X.mg (lrN b)=none)(hg2:Gl X "range")(hm2:X.mg "range"=none)(ha:PA X (e::l) ta)(hs:noStar e=true)(hs2:l.all noStar=true) :
  PE X (.Call (.Name (lrN b) p) [.Call (.Name "range" p2) (e::l) [] pos2] [] pos) (J02 b ta):=by
 intro pins s σ H Q I h;refine Call_ (t30 I hg hm (J12 b) (Á1 (Ö8 ?_) rfl rfl) (by cases b <;> decide) (by cases b <;> decide))
 refine Call_ (t30 I hg2 hm2 x11 (Á1 (thn (ha pos2 pins s σ H _ I h) λus s1 ⟨vs,H1,I1,r1,q1⟩=>?_) (c90 hs l X.env) (p80 X.env pos2 hs2)));obtain⟨i,j,hv,i1,i2,j1,j2,q⟩:=q1
 match vs,hv with
 |[.int _],hv =>
  cases hv;obtain⟨u,rfl,r⟩:=vals1 r1;obtain⟨t,rfl⟩:=r;exact call_range_1 (Ð4 (x21 b hc (I1.kept λb o e=>Ã _ e) (Ö0.new ..) i1 i2 j1 j2 q))
 |[.int _,.int _],hv =>
  cases hv;obtain⟨u,u',rfl,r,r'⟩:=vals2 r1;obtain⟨t,rfl⟩:=r;obtain⟨t',rfl⟩:=r';exact call_range_2 (Ð4 (x21 b hc (I1.kept λb o e=>Ã _ e) (Ö0.new ..) i1 i2 j1 j2 q))
theorem N91:∀ {ds xs:List D},lrD ds=some xs->∃ i j:Int,((ds=[.int j]/\i=0)∨ds=[.int i,.int j])/\-100000 < i/\i < 100000/\-100000 < j/\j < 100000/\xs=(ë (j - i).toNat).map λ(k:Nat)=>D.int (i + k)
 |[],_,h=>by cases h
 |[x],xs,h=>by
  cases x with
  |int j =>
   obtain⟨hj,h⟩:=g00 h;have hj:=L50.mp hj;exact⟨0,j,.inl ⟨rfl,rfl⟩,by omega,by omega,hj.1,hj.2,by cases h;simp⟩
  |_=>cases h
 |[x,y],xs,h=>by
  cases x with
  |int i =>
   cases y with
   |int j =>
    obtain⟨hj,h⟩:=g00 h;have h1:=L50.mp hj.1;have h2:=L50.mp hj.2;exact⟨i,j,.inr rfl,h1.1,h1.2,h2.1,h2.2,by cases h;rfl⟩
   |_=>cases h
  |_=>cases h
 |x::y::_::_,_,h=>by
  cases x with
  |int i=>cases y <;> cases h
  |_=>cases h
theorem t92(x:XI lm X G E N sc){b:Bool}{as:Ex}{a:Ï}{l:List Ï}{p p2 pos pos2:Pos}(h1:glob sc (lrN b)=true)(h2:glob sc "range"=true)(hL:isL as=true)(g:Good X G E as (a::l)):b10 X G E (.lrng b as) (.Call (.Name (lrN b) p) [.Call (.Name "range" p2) (a::l) [] pos2] [] pos):=by
 obtain⟨k1,_,_⟩:=d50 h1;obtain⟨m1,_,_⟩:=d50 h2;obtain⟨ha,hs⟩:=g.args hL;rw[Ã9,Á] at hs;refine b00 (PE.imp (x31 b x.calm (x.glb _ k1) (x.blt _ (by cases b <;> decide)) (x.glb _ m1) (x.blt _ (-0)) ha hs.1 hs.2) λσ H Q q=>?_) rfl
 obtain⟨zA,ρ,z,rr,rel,st,e,po⟩:=q;refine a81 rel st e (f60 po) λl z1 e1 vs H1 x1 st1 rvs=>?_;obtain⟨xs,hx,e2⟩:=M.a20 e1;cases e2;obtain⟨s',e',po⟩:=po;cases e';obtain⟨ds,h3,h4⟩:=Ò.mp hx;have hd:=G20 rvs h3;have fin:∀ i j:Int,xs=(ë (j - i).toNat).map (λ(k:Nat)=>D.int (i + k))->∀ lA,H1 lA=none->Q (.ref lA) (upd H1 lA (lrO b ((ë (j - i).toNat).map λ(k:Nat)=>V.int (i + k)))):=λi j ex lA hn=>by
  subst ex;have hI:=HdA.ints (K:=X.K) (H:=hz zA H1) ((ë (j - i).toNat).map λ(k:Nat)=>i + (k:Int));rw[ó,ó] at hI;cases b with
  |false=>exact po _ _ (x1.trans (Ext.of (a30.new _ hn))) (st1.same (a30.new _ hn)) ((n20 st1 hI hn).from x1)|true=>exact po _ _ (x1.trans (Ext.of (a30.new _ hn))) (st1.same (a30.new _ hn)) (G91 (Hd.tup ((st1.same (a30.new _ hn)).c52 (SqT.of b20)) (hI.same (k30 (a30.new _ hn)))))
 obtain⟨i,j,hds,j1,j2,j3,j4,ex⟩:=N91 h4;refine⟨i,j,?_,j1,j2,j3,j4,fin i j ex⟩;rcases hds with ⟨rfl,rfl⟩ | rfl
 ·obtain⟨v,rfl,h5⟩:=hd.one;cases h5.j00;rfl
 ·obtain⟨v,w,rfl,h5,h6⟩:=hd.two;cases h5.j00;cases h6.j00;rfl
end
theorem x41(val:Nat->Nat)(i:Nat):∀ n,(SS.met val n).testBit i=(ë n).any λj=>val j == i
 |0=>Nat.zero_testBit i
 |n + 1=>by
  show(SS.met val n ||| 2 ^ val n).testBit i=_;rw[Nat.testBit_or,x41 val i n,Nat.testBit_two_pow,range_succ,List.any_append];simp;rfl
theorem g01:∀ {l:List D}{ns:List Nat},C80 l=some ns->l=ns.map (λ(n:Nat)=>D.int n)/\∀ n∈ns,n < 8
 |[],ns,h=>by cases h;exact⟨rfl,λn hn=>by cases hn⟩
 |x::r,ns,h=>by
  cases x with
  |int i =>
   obtain⟨hi,h⟩:=g00 h;obtain⟨ms,h1,rfl⟩:=Ë.mp h;obtain⟨e,k⟩:=g01 h1;refine⟨?_,λn hn=>?_⟩
   ·rw[Å7,← e,show((i.toNat:Nat):Int)=i from Int.toNat_of_nonneg hi.1]
   ·rcases ú.mp hn with rfl | hn
    ·omega
    ·exact k n hn
  |_=>cases h
theorem f02{ns:List Nat}:SS.bts (SS.met (λi=>ns.getD i 0) ns.length)=(ë 8).filter λi=>ns.contains i:=by
 unfold SS.bts;refine List.filter_congr λi _=>?_;rw[x41];rw[Í4,List.any_eq_true,Ì4];constructor
 ·rintro ⟨j,hj,e⟩;rw[mem_range] at hj;rw[← eq_of_beq e,Ö,ç hj];exact È9 hj
 ·intro h;obtain⟨j,hj,e⟩:=Õ3.mp h;exact⟨j,Ä3.mpr hj,by rw[Ö,ç hj,← e];exact beq_self_eq_true _⟩
theorem x51{K:Â}{H:Hp}:∀ {ns:List Nat}{us:List V},HdA K H (ns.map λ(n:Nat)=>D.int n) us->us=ns.map λ(n:Nat)=>V.int n
 |[],_,h=>h.f50
 |n::r,_,h=>by
  obtain⟨y,q,rfl,h1,h2⟩:=HdA.c60 h;rw[h1.j00,x51 h2];rfl
theorem x61{K:Â}{H:Hp}:∀ ns:List Nat,HdA K H (ns.map λ(n:Nat)=>D.int n) (ns.map λ(n:Nat)=>V.int n)
 |[]=>.nil|n::r=>.cons Hd.int (x61 r)
theorem x71{ns:List Nat}(h:∀ n∈ns,n < 8)(i:Nat):ns.getD i 0 < 8:=by
 rw[Ö];cases e:ns[i]? with
 |none=>decide|some n=>exact h n (î e)
section
variable {lm:Bool}{X:Cx}{G:Gs}{E:XK}{N:List Str}{sc:ý}
def O01(w:è)(p m:Nat):é->Prop:=λh=>SS.z30 w h p m
theorem x81(hc:X.calm=true):g70 X (.type "set") (λxs H Q=>∃ (a:Ç) (ns:List Nat) (us:List V),xs=[.ref a]/\(SqL X.K H a us∨SqT X.K H a us)/\us=ns.map (λ(n:Nat)=>V.int n)/\(∀ n∈ns,n < 8)/\∀ p,H p=none->Q (.ref p) (upd H p (.ext (O01 X.w p (SS.met (λi=>ns.getD i 0) ns.length))))):=by
 intro pins s σ H xs us Q I r h;obtain⟨a,ns,vs,rfl,hq,rfl,h8,q⟩:=h;obtain⟨u,rfl,rx⟩:=vals1 r;cases rx;have hv:∀ i,(λi=>ns.getD i 0) i < 8:=x71 h8;have hp:∀ {its:List Ä},Vals (ns.map λ(n:Nat)=>V.int n) its->its.toArray.size=ns.length/\∀ (i:Nat) (v:Ä),its.toArray[i]?=some v->∃ t,v=.int ((λi=>ns.getD i 0) i:Nat) t:=λ{its} rv=>by
  refine⟨by rw[Ó,← rv.length,É],λi v e=>?_⟩
  have e:its[i]?=some v:=by simpa using e
  have hi:i < ns.length:=by have:=(ß.mp e).1;rw[← rv.length,É] at this;exact this
  obtain⟨w',e1,e2⟩:=rv.get (i:=i) (x:=V.int (ns[i]:Nat)) (by simp[hi])
  rw[e] at e1;cases e1;obtain⟨t,rfl⟩:=e2;exact⟨t,by simp[hi]⟩
 have fin:∀ (h':é) (tk:Nat),SS.z30 X.w h' s.heap.objs.size (SS.met (λi=>ns.getD i 0) ns.length)->(∀ b u,s.heap.get? b=some u->h'.get? b=some u)->EP X pins σ Q (.ref s.heap.objs.size) { s with heap:=h',toks:=tk }:=λh' tk hS kp=>by
  refine⟨.ref s.heap.objs.size,_,I.laid (t':=tk) (o:=.ext (O01 X.w s.heap.objs.size (SS.met (λi=>ns.getD i 0) ns.length))) kp (Í _) ⟨hS,?_,λh1 h2 p k=>p.keep k⟩,rfl,q _ (I.hok.fresh (Í _))⟩;obtain⟨o,_,_,ho,_⟩:=hS;exact⟨o,ho⟩
 rcases hq with hq | hq
 ·obtain⟨its,rv,pl,_⟩:=I.list hq;obtain⟨o,ho,hcl,n,hd⟩:=pl.isList;obtain⟨sz,pv⟩:=hp rv;refine SS.f11 (o:=o) (it:={ cls:=.type "list_iterator",data:=.fields #[.ref a,.int 0 0] }) (n:=its.toArray.size) (St:=λI i h=>h.IsListIter I a i/\h.IsList a its.toArray) (Pv:=λi v=>its.toArray[i]?=some v) (val:=λi=>ns.getD i 0)
   ⟨hcl,F.sub_list_set,F.sub_list_frozenset,by decide,λA E s Q e q=>Ý2 ⟨o,e,hcl,n,hd⟩ q,λA I hh hn=>Walks.list hh I a hn _,λh e=>⟨⟨_,Ê _ rfl,rfl,rfl⟩,⟨o,Ã _ e,hcl,n,hd⟩⟩⟩ (by exact I.ok.hd hc) ho hv pv λh' tk x kp=>?_
  rw[sz] at x;exact fin h' tk x kp
 ·obtain⟨its,rv,pl,_⟩:=I.tuple hq;obtain⟨o,ho,hcl,n,hd⟩:=pl;obtain⟨sz,pv⟩:=hp rv;refine SS.f11 (o:=o) (it:={ cls:=.type "tuple_iterator",data:=.fields #[.ref a,.int 0 0] }) (n:=its.toArray.size) (St:=λI i h=>h.IsTupleIter I a i/\h.IsTuple a its.toArray) (Pv:=λi v=>its.toArray[i]?=some v) (val:=λi=>ns.getD i 0)
   ⟨hcl,by rw[Ñ6];kernel_rfl,by rw[Ñ6];kernel_rfl,by decide,λA E s Q e q=>Ç8 ⟨o,e,hcl,n,hd⟩ q,λA I hh hn=>Walks.tuple hh I a hn _,λh e=>⟨⟨_,Ê _ rfl,rfl,rfl⟩,⟨o,Ã _ e,hcl,n,hd⟩⟩⟩ (by exact I.ok.hd hc) ho hv pv λh' tk x kp=>?_
  rw[sz] at x;exact fin h' tk x kp
theorem T90(hc:X.calm=true)(hu:X.A.units + 64 < Å9):g70 X (.builtin "sorted") (λxs H Q=>∃ (p:Ç) (m:Nat),xs=[.ref p]/\m < 256/\H p=some (.ext (O01 X.w p m))/\∀ l,H l=none->Q (.ref l) (upd H l (.lst ((SS.bts m).map λ(n:Nat)=>V.int n)))):=by
 intro pins s σ H xs us Q I r h;obtain⟨p,m,rfl,hm,hp,q⟩:=h;obtain⟨u,rfl,rx⟩:=vals1 r;cases rx;obtain⟨⟨o,ep,g,ho,hx,hd⟩,_⟩:=I.hok p _ hp;refine SS.n31 (by exact I.ok.hd hc) hu hm ho hx hd λl h' tk c hl kp hD=>?_
 refine⟨.ref l,_,I.laid (t':=tk) (o:=.lst ((SS.bts m).map λ(n:Nat)=>V.int n)) kp hl ⟨?_,_,c,?_,hD⟩,rfl,q _ (I.hok.fresh hl)⟩
 ·rw[É,Á2];have:(SS.bts m).length<=8:=Ñ (Å3 _ _) (by simp)
  omega
 ·clear hD hd;generalize SS.bts m=l
  induction l with
  |nil=>exact .nil|cons n r ih=>exact .cons ⟨_,rfl⟩ ih
theorem u02:ï "set"=some (.type "set"):=by decide +kernel
theorem u12(x:XI lm X G E N sc){as:Ex}{e:Ï}{p1 p2 p3 p4:Pos}(h1:glob sc "sorted"=true)(h2:glob sc "set"=true)(hL:isL as=true)(g:Good X G E as [e]):b10 X G E (.bf .sset as) (.Call (.Name "sorted" p1) [.Call (.Name "set" p2) [e] [] p3] [] p4):=by
 obtain⟨k1,k2,k3⟩:=d50 h1;obtain⟨j1,j2,j3⟩:=d50 h2;obtain⟨ha,hs⟩:=g.args hL;rw[Ã9,Á] at hs;refine b00 (PE.imp (t50 (T90 x.calm x.room.units) (x.glb _ k1) (x.blt _ (-0)) T80 (e90 (Q70 (x81 x.calm) (x.glb _ j1) (x.blt _ (-0)) u02 ha j3 j2 (c90 hs.1 [] X.env) (p80 X.env p3 hs.2)) t40) k3 k2) λσ H Q q=>?_) rfl
 obtain⟨zA,ρ,z,rr,rel,st,ee,po⟩:=q;refine a81 rel st ee (f60 po) λl z1 e1 vs H1 x1 st1 rvs=>?_;obtain⟨ds,hd,e2⟩:=M.a20 e1;obtain⟨s,hs',e3⟩:=M.a20 e2;cases e3;have hds:=G20 rvs hd
 match ds,hs' with
 |[d],hs' =>
  obtain⟨l,hl,hs'⟩:=Ò.mp hs';obtain⟨ns,hn,rfl⟩:=Ë.mp hs';obtain⟨rfl,h8⟩:=g01 hn;obtain⟨v,rfl,hv⟩:=hds.one;obtain⟨a,us,rfl,hq,hd'⟩:∃ a us,v=.ref a/\(SqL X.K H1 a us∨SqT X.K H1 a us)/\HdA X.K (hz zA H1) (ns.map λ(n:Nat)=>D.int n) us:=by
   cases d with
   |tup m =>
    cases hl;obtain⟨a,xs,rfl,m1,m2⟩:=hv.z60;exact⟨a,xs,rfl,.inr ((a10 zA H1).sqT m1),m2⟩
   |lst m =>
    cases hl;obtain⟨a,xs,rfl,m1,m2⟩:=hv.X80;exact⟨a,xs,rfl,.inl (m1.same (a10 zA H1)).sq,m2⟩
   |_=>cases hl
  refine⟨a,ns,us,rfl,hq,x51 hd',h8,λp hp=>⟨p,_,rfl,SS.u51 (x71 h8) _,b20,λl hl=>?_⟩⟩;have sm:a30 H1 (upd H1 p (.ext (O01 X.w p (SS.met (λi=>ns.getD i 0) ns.length)))):=a30.new _ hp;rw[f02];exact e80 po x1 st1 _ _ (a30.trans sm (a30.new _ hl)) ((n20 (st1.same sm) (x61 _) hl).from (Ext.of sm))
def tPO(K:Â)(G:Gs)(E:XK)(x:Ex):TO:=λσ H Q=>∃ zA ρ z r,x90 K zA H ρ σ/\e30 zA z H/\ev G.F x ρ z=some r/\(match r with
 |.ok l z'=>∃ o,v51 l=some o/\∀ H',Ext zA H H'->e30 zA z' H'->Q o H'
 |.er c z'=>EPost G zA E c z' H)
theorem u22(hL:isL x=true)(g:Good X G E x e.toList):PO X e (tPO X.K G E x):=by
 cases e with
 |none =>
  cases x with
  |nil =>
   refine λpins s σ H Q I q=>Y41 pins s σ H Q I ?_;obtain⟨zA,ρ,z,r,rel,st,e,po⟩:=q;cases e;obtain⟨o,e',po⟩:=po;cases e';exact po H Ext.refl st
  |cons a r=>obtain⟨e,es,h,_⟩:=g;cases h
  |_=>cases hL
 |some e =>
  cases x with
  |nil=>cases (show [e]=[] from g)
  |cons a r =>
   obtain⟨e',es,h,ns,ga,lr,gr⟩:=g;cases h;refine λpins s σ H Q I q=>Y51 ga.pe pins s σ H Q I ?_;obtain⟨zA,ρ,z,rr,rel,st,e,po⟩:=q;have her:∀ c z1,rr=.er c z1->EPost G zA E c z1 H:=λc z1 e=>by subst e;exact po
   have rn:r=.nil:=by
    cases r with
    |nil=>rfl|cons b q=>obtain⟨e,es,h,_⟩:=gr;cases h
    |_=>cases lr
   subst rn;refine j20 rel st e her λl z1 e1=>?_;obtain⟨s,hs,e2⟩:=M.a20 e1;cases e2;obtain⟨o,e',po⟩:=po;refine⟨s,D30 hs,λv H1 x1 st1 rv=>?_⟩;cases s with
   |d y =>
    cases y with
    |int i =>
     cases e';exact⟨i,Hd.j00 (show Hd X.K (hz zA H1) (.int i) v from rv),po H1 x1 st1⟩
    |_=>cases e'
   |fr ys=>cases e'
   |z=>cases e'
  |_=>cases hL
theorem V32{a lo hi:Ex}{v:Ï}{l h:Option Ï}{p pos:Pos}(ga:b10 X G E a v)(hl:isL lo=true)(hh:isL hi=true)(gl:Good X G E lo l.toList)(gh:Good X G E hi h.toList):b10 X G E (.sl a lo hi) (.Subscript v (.Slice l h none p) pos):=by
 refine b00 (PE.imp (I31 U22 ga.pe (u22 hl gl) (u22 hh gh)) λσ H Q q=>?_) rfl;obtain⟨zA,ρ,z,rr,rel,st,e,po⟩:=q;refine j20 rel st e (f60 po) λm z1 e1=>?_;obtain⟨dx,p1,e2⟩:=M.a20 e1;obtain⟨s1,rfl,q1⟩:=f80 p1;refine⟨s1,rfl,λw H1 x1 st1 rv=>?_⟩;rcases M.bind_some e2 with ⟨u,z2,e3,e4⟩ | ⟨c,z2,e3,e4⟩
 ·obtain⟨o,ho,e5⟩:=M.a20 e4;refine⟨zA,ρ,z1,_,rel.mono x1,st1,e3,o,ho,λH2 x2 st2=>?_⟩;rcases M.bind_some e5 with ⟨u',z3,e6,e7⟩ | ⟨c,z3,e6,e7⟩
  ·obtain⟨o',ho',e8⟩:=M.a20 e7;refine⟨zA,ρ,z2,_,(rel.mono x1).mono x2,st2,e6,o',ho',λH3 x3 st3=>?_⟩;obtain⟨s,hs,e9⟩:=M.a20 e8;cases e9;exact⟨zA,z3,dx,s,st3,((rv.pl.mono (x2.trans x3)).d_ q1),hs,e80 po ((x1.trans x2).trans x3) st3⟩
  ·exact⟨zA,ρ,z2,_,(rel.mono x1).mono x2,st2,e6,((f60 po) c z3 e7).mono (x1.trans x2)⟩
 ·exact⟨zA,ρ,z1,_,rel.mono x1,st1,e3,((f60 po) c z2 e4).mono x1⟩
theorem J22{a:Ex}{v:Ï}{p1 p2 p3 pos:Pos}{k:Nat}(ga:b10 X G E a v):b10 X G E (.rev a) (.Subscript v (.Slice none none (some (.UnaryOp .USub (.Constant (.int 1) k p1) p2)) p3) pos):=by
 refine b00 (PE.imp (o72 ga.pe (m62 S51 P60)) λσ H Q q=>?_) rfl;obtain⟨zA,ρ,z,rr,rel,st,e,po⟩:=q;refine j20 rel st e (f60 po) λm z1 e1=>?_;obtain⟨s,p1,e2⟩:=M.a20 e1;obtain⟨d,p2,p3⟩:=Ò.mp p1;obtain⟨s1,rfl,q1⟩:=f80 p2;cases e2;refine⟨s1,rfl,λw H1 x1 st1 rv=>⟨1,rfl,rfl,?_⟩⟩;have hd:=rv.pl.d_ q1;cases d with
 |tup l =>
  cases p3;obtain⟨a,xs,rfl,h1,h2⟩:=hd.z60;exact .inl ⟨a,xs,rfl,(a10 zA H1).sqT h1,tupQ st1 h2.reverse (e80 po x1 st1)⟩
 |lst l =>
  cases p3;obtain⟨a,xs,rfl,h1,h2⟩:=hd.X80;exact .inr ⟨a,xs,rfl,(h1.same (a10 zA H1)).sq,λp hp=>e80 po x1 st1 _ _ (a30.new _ hp) (n20 st1 h2.reverse hp)⟩
 |_=>cases p3
theorem u32:∀ {x:Ex}{es:List Ï}{z z1:Z}{l:List S},isL x=true->Good X G E x es->ev G.F x ρ z=some (.ok l z1)->l.length=es.length:=by
 intro x
 induction x with
 |nil =>
  intro es z z1 l _ h e;have h:es=[]:=h;subst h;cases e;rfl
 |cons a r _ ih =>
  intro es z z1 l _ h e;obtain⟨e',es',rfl,ns,g,lr,gr⟩:=h;rcases M.bind_some e with ⟨m,z2,e1,e2⟩ | ⟨c,z2,e1,e2⟩
  ·obtain⟨s,hs,e3⟩:=M.a20 e2;rcases M.bind_some e3 with ⟨m',z3,e4,e5⟩ | ⟨c,z3,e4,e5⟩
   ·cases e5;rw[Û,Û,ih lr gr e4]
   ·cases e5
  ·cases e2
 |_=>intro es z z1 l h;cases h
theorem s_call(x:XI lm X G E N sc){f:Nat}{as:Ex}{n:Str}{ps:List Str}{e:Ï}{l:List Ï}{p pos:Pos}(hf:G.fns[f]?=some (n,ps))(hl:ps.length=l.length + 1)(hg:glob sc n=true)(hL:isL as=true)(g:Good X G E as (e::l)) :
  b10 X G E (.call f as) (.Call (.Name n p) (e::l) [] pos):=by
 obtain⟨k1,k2,k3⟩:=d50 hg;obtain⟨fa,fd,m1,m2,m3,F⟩:=x.gok f n ps hf;obtain⟨ha,hs⟩:=g.args hL;rw[Ã9,Á] at hs;refine b00 (PE.imp (Y11 F x.room (x.glb n k1) m1 m2 m3 .nil x.pas ha k2 (c90 hs.1 l X.env) (p80 X.env pos hs.2)) λσ H Q q=>?_) rfl;obtain⟨zA,ρ,z,rr,rel,st,e,po⟩:=q;have e0:M.bind (ev G.F as ρ) (λl=>M.bind (G.F false f (l.map plS)) λs=>M.ret [s]) z=some rr:=e;rcases M.bind_some e0 with ⟨m,z1,e1,e2⟩ | ⟨c,z1,e1,e2⟩
 ·refine⟨zA,ρ,z,_,rel,st,e1,λvs H1 x1 st1 rvs=>?_⟩;have hv:vs.length=ps.length:=by rw[← rvs.length,u32 hL g e1,hl];rfl
  show spF X.K G f ps.length (vs++[]) H1 Q E;rw[append_nil];refine⟨hv,zA,z1,m.map plS,?_⟩;have ra:RvA X.K zA H1 (m.map plS) vs:=RvA.plS (Æ0.j72 rvs λ_ _ q=>q.pl);rcases M.bind_some e2 with ⟨s,z2,e3,e4⟩ | ⟨c,z2,e3,e4⟩
  ·cases e4;refine⟨_,ra,st1,e3,λv H2 x2 st2 rv=>?_⟩;obtain⟨s',e',po⟩:=po;cases e';exact po v H2 (x1.trans x2) st2 (rv.from x1)
  ·exact⟨_,ra,st1,e3,((f60 po) c z2 e4).mono x1⟩
 ·exact⟨zA,ρ,z,_,rel,st,e1,(f60 po) c z1 e2⟩
def A22:Pat->Nat
 |.nil=>0|.cons _ r=>A22 r + 1|_=>0
mutual
noncomputable def gP(K:Â):Pat->TG
 |.v i=>Y00 i|.tup ps=>M82 K (A22 ps) (gL K ps)|.nil=>λ_ _ _ _=>False|.cons _ _=>λ_ _ _ _=>False
noncomputable def gL(K:Â):Pat->TGs
 |.nil=>M72|.cons p r=>l92 (gP K p) (gL K r)|.v _=>λ_ _ _ _=>False|.tup _=>λ_ _ _ _=>False
end
end
end Q
namespace Q
open PySem L2 PySem.Spec PyProof.Rows
variable [TB:Tb]
theorem U61(h:noStar e=true)(es:List Ï)(env:È6):É8 (e::es) env=(false,Ù1 e env)::É8 es env:=by
 cases e <;> first | rfl | cases h
structure O11(X:Cx)(N:List Str)(loc:Str->Bool):Prop where
 hN:X.N=N
 nd:N.Nodup
 lc:∀ x,loc x=true->Loc X.env.scope x
 fn:∀ x,loc x=true->(X.fn x=true∨X.env.scope.names.lookup x=some .local)
 calm:X.calm=true
theorem H10:∀ {es:List Ï} (env:È6),es.all noStar=true->(É8 es env).length=es.length/\(É8 es env).findIdx? (·.1)=none
 |[],_,_=>⟨rfl,rfl⟩
 |e::es,env,h=>by
  rw[Ã9,Á] at h;obtain⟨h1,h2⟩:=H10 env h.2;rw[U61 h.1];refine⟨by rw[Û,Û,h1],?_⟩
  rw[List.findIdx?_cons,h2];rfl
theorem g11:∀ {r:Pat}{es:List Ï},n41 N loc r es=true->es.length=A22 r/\es.all noStar=true
 |.nil,es,h=>by
  unfold n41 at h;have:es=[]:=Ì5.mp h;subst this;exact⟨rfl,rfl⟩
 |.cons p r,es,h=>by
  unfold n41 at h;cases es with
  |nil=>cases h
  |cons e es =>
   rw[Á,Á] at h;obtain⟨h1,h2⟩:=g11 (r:=r) h.2;exact⟨by rw[Û,h1];rfl,by rw[Ã9,h.1.1,h2];rfl⟩
 |.v _,_,h=>by unfold n41 at h;cases h
 |.tup _,_,h=>by unfold n41 at h;cases h
mutual
theorem x91(L:O11 X N loc):∀ {p:Pat}{e:Ï},j30 N loc p e=true->PG X e (gP X.K p)
 |.v i,e,h=>by
  unfold j30 at h;cases e with
  |Name x pos =>
   rw[Á,beq_iff_eq] at h;unfold gP;exact q41 (by rw[L.hN];exact L.nd) (by rw[L.hN];exact h.1) (L.lc x h.2) (L.fn x h.2)
  |_=>cases h
 |.tup ps,e,h=>by
  unfold j30 at h;cases e with
  |Tuple es k pos =>
   obtain⟨h1,h2⟩:=g11 h;obtain⟨h3,h4⟩:=H10 X.env h2;unfold gP;exact m02 L.calm (U71 L h) (by rw[h3,h1]) h4
  |_=>cases h
 |.nil,e,h=>by unfold j30 at h;cases h
 |.cons _ _,e,h=>by unfold j30 at h;cases h
theorem U71(L:O11 X N loc):∀ {r:Pat}{es:List Ï},n41 N loc r es=true->PGs X es (gL X.K r)
 |.nil,es,h=>by
  unfold n41 at h;have:es=[]:=Ì5.mp h;subst this;unfold gL;exact X51
 |.cons p r,es,h=>by
  unfold n41 at h;cases es with
  |nil=>cases h
  |cons e es =>
   rw[Á,Á] at h;unfold gL;exact H61 (x91 L h.1.2) (U71 L h.2) (by rw[U61 h.1.1];rfl)
 |.v _,_,h=>by unfold n41 at h;cases h
 |.tup _,_,h=>by unfold n41 at h;cases h
end
section
variable {K:Â}{zA:Option Ç}{H:Hp}
theorem x90.set{ρ:Env}{σ:L2.St}{i:Nat}{s:S}{v:V}(h:x90 K zA H ρ σ)(hl:ρ.length=σ.length)(r:RvP K zA H s v):x90 K zA H (ρ.set i (some s)) (σ.set i (some v)):=by
 intro j t e;by_cases hj:j=i
 ·subst hj;have hlt:j < ρ.length:=by
   have:=(ß.mp e).1;simpa using this
  rw[ð hlt] at e;cases e;exact⟨v,ð (by rw[← hl];exact hlt),r⟩
 ·rw[ê (Â3 hj)] at e;obtain⟨w,h1,h2⟩:=h j t e;exact⟨w,by rw[ê (Â3 hj)];exact h1,h2⟩
theorem D50:∀ {r:Pat}{l:List D}{ρ ρ':Env},bindL r l ρ=some ρ'->l.length=A22 r
 |.nil,l,ρ,ρ',e=>by
  unfold bindL at e;cases l with
  |nil=>rfl|cons x l=>cases e
 |.cons p r,l,ρ,ρ',e=>by
  unfold bindL at e;cases l with
  |nil=>cases e
  |cons x l =>
   obtain⟨ρ1,e1,e2⟩:=Ò.mp e;rw[Û,D50 e2];rfl
 |.v _,_,_,_,e=>by unfold bindL at e;cases e
 |.tup _,_,_,_,e=>by unfold bindL at e;cases e
mutual
theorem y01:∀ {p:Pat}{d:D}{ρ ρ':Env},f10 p d ρ=some ρ'->∀ {σ:L2.St}{v:V}{R:L2.St->Hp->Prop},x90 K zA H ρ σ->ρ.length=σ.length->Hd K (hz zA H) d v ->
  (∀ σ',x90 K zA H ρ' σ'->ρ'.length=σ'.length->R σ' H)->gP K p v σ H R
 |.v i,d,ρ,ρ',e,σ,v,R,rel,hl,hd,k=>by
  unfold f10 at e;cases e;unfold gP;exact k _ (rel.set hl (show RvP K zA H (.d d) v from hd)) (by rw[Ä1,Ä1,hl])
 |.tup ps,d,ρ,ρ',e,σ,v,R,rel,hl,hd,k=>by
  unfold f10 at e;cases d with
  |tup l =>
   obtain⟨a,xs,rfl,h1,h2⟩:=hd.z60;unfold gP;exact⟨a,xs,rfl,(a10 zA H).sqT h1,by rw[h2.length];exact D50 e,g21 e rel hl h2 k⟩
  |_=>cases e
 |.nil,_,_,_,e,_,_,_,_,_,_,_=>by unfold f10 at e;cases e
 |.cons _ _,_,_,_,e,_,_,_,_,_,_,_=>by unfold f10 at e;cases e
theorem g21:∀ {r:Pat}{l:List D}{ρ ρ':Env},bindL r l ρ=some ρ'->∀ {σ:L2.St}{vs:List V}{R:L2.St->Hp->Prop},x90 K zA H ρ σ->ρ.length=σ.length->HdA K (hz zA H) l vs ->
  (∀ σ',x90 K zA H ρ' σ'->ρ'.length=σ'.length->R σ' H)->gL K r vs σ H R
 |.nil,l,ρ,ρ',e,σ,vs,R,rel,hl,hd,k=>by
  unfold bindL at e;cases l with
  |nil =>
   cases e;unfold gL;exact⟨hd.f50,k σ rel hl⟩
  |cons x l=>cases e
 |.cons p r,l,ρ,ρ',e,σ,vs,R,rel,hl,hd,k=>by
  unfold bindL at e;cases l with
  |nil=>cases e
  |cons x l =>
   obtain⟨ρ1,e1,e2⟩:=Ò.mp e;obtain⟨v,ws,rfl,h1,h2⟩:=hd.c60;unfold gL;exact⟨v,ws,rfl,y01 e1 rel hl h1 λσ' r' l'=>g21 e2 r' l' h2 k⟩
 |.v _,_,_,_,e,_,_,_,_,_,_,_=>by unfold bindL at e;cases e
 |.tup _,_,_,_,e,_,_,_,_,_,_,_=>by unfold bindL at e;cases e
end
end
end Q
namespace Q
open PySem L2 PySem.Spec PyProof.Rows
variable [TB:Tb]
structure J32(K:PySem.W.Frag)(zA:Option Addr)(J:L2.It)(xs:List D)(H1:Hp):Prop where
 go:∀ i H,Ext zA H1 H->i < xs.length->J.go i H
 yld:∀ i H x H' z d,Ext zA H1 H->e30 zA z H->J.yld i H x H'->xs[i]?=some d->a30 H H'/\Hd K (hz zA H') d x
 stop:∀ H,Ext zA H1 H->J.stop xs.length H
structure ItB(K:PySem.W.Frag)(J:L2.It)(xs:List D)(B:Hp):Prop where
 go:∀ i H,a30 B H->i < xs.length->J.go i H
 yld:∀ i H x H' zA z d,a30 B (hz zA H)->e30 zA z H->J.yld i H x H'->xs[i]?=some d->a30 H H'/\∀ C,a30 B C->(∀ a ys,SqT K (hz zA H') a ys->SqT K C a ys)->Hd K C d x
 stop:∀ H,a30 B H->J.stop xs.length H
section
variable {K:Â}{B:Hp}
theorem ItB.ok(h:ItB K J xs (hz zA H1)):J32 K zA J xs H1 :=
 ⟨λi H x=>h.go i H (a30.trans x (a10 zA H)),λi H x H' z d e st y k=>let ⟨s,f⟩:=h.yld i H x H' zA z d e st y k;⟨s,f _ (a30.trans e (k30 s)) λ_ _ q=>q⟩,λH x=>h.stop H (a30.trans x (a10 zA H))⟩
theorem g31(h:p70 K B a ys)(r:HdA K B xs ys):ItB K (Itl K a) xs B where
 go:=λi H x hi=>⟨ys,ys[i]'(by rw[r.length];exact hi),(h.same x).sq,by simp⟩
 yld:=λi H v H' zA z d x st y e=>by
  obtain⟨rfl,y⟩:=y;have y1:=y ys ((h.same x).same (a10 zA _)).sq;obtain⟨w,e1,e2⟩:=r.get e;rw[y1] at e1;cases e1;exact⟨a30.refl _,λC c _=>e2.same c⟩
 stop:=λH x=>⟨ys,(h.same x).sq,by rw[r.length];exact Í _⟩
theorem y11(h:SqT K B a ys)(r:HdA K B xs ys):ItB K (Itt K a) xs B where
 go:=λi H x hi=>⟨ys,ys[i]'(by rw[r.length];exact hi),a30.sqT x h,by simp⟩
 yld:=λi H v H' zA z d x st y e=>by
  obtain⟨rfl,y⟩:=y;have y1:=y ys ((a10 zA _).sqT (a30.sqT x h));obtain⟨w,e1,e2⟩:=r.get e;rw[y1] at e1;cases e1;exact⟨a30.refl _,λC c _=>e2.same c⟩
 stop:=λH x=>⟨ys,a30.sqT x h,by rw[r.length];exact Í _⟩
theorem y21(lo:Int)(n:Nat):ItB K (Itr lo n) ((ë n).map λ(k:Nat)=>D.int (lo + k)) B where
 go:=λi H x hi=>by show i < n;simpa using hi
 yld:=λi H v H' zA z d x st y e=>by
  obtain⟨rfl,rfl⟩:=y;rw[Ü] at e;obtain⟨k,e1,rfl⟩:=Ë.mp e;obtain⟨h1,h2⟩:=ß.mp e1;rw[Ò3] at h2;subst h2;exact⟨a30.refl _,λ_ _ _=>Hd.int⟩
 stop:=λH x=>by show n<=_;simp
end
section
variable {K:Â}{zA:Option Ç}{H1:Hp}
theorem zip_get:∀ {a b:List D}{i:Nat}{d:D},(n70 a b)[i]?=some d->∃ x y,a[i]?=some x/\b[i]?=some y/\d=.tup [x,y]
 |[],_,_,_,e=>by simp[n70] at e|_::_,[],_,_,e=>by simp[n70] at e|x::r,y::q,0,d,e=>by simp[n70] at e;exact⟨x,y,rfl,rfl,e.symm⟩
 |x::r,y::q,i + 1,d,e=>by
  obtain⟨u,v,h1,h2,h3⟩:=zip_get (a:=r) (b:=q) (i:=i) (by simpa [n70] using e)
  exact⟨u,v,by simpa using h1,by simpa using h2,h3⟩
theorem b01:∀ (a b:List D),(n70 a b).length=min a.length b.length
 |[],_=>by simp[n70]|_::_,[]=>by simp[n70]|x::r,y::q=>by simp only[n70,Û,b01 r q];omega
theorem y31(h:∀ H,a30 B H->SqB bb K H a us)(r:HdA K B xs us)(h':∀ H,a30 B H->SqB bb K H b ws)(r':HdA K B ys ws):ItB K (Itz bb K a b) (n70 xs ys) B where
 go:=λi H x hi=>by
  rw[b01] at hi;exact⟨us,ws,us[i]'(by rw[r.length];omega),ws[i]'(by rw[r'.length];omega),h H x,h' H x,by simp,by simp⟩
 yld:=λi H v H' zA z d x st y e=>by
  obtain⟨T,rfl,hT,y⟩:=y;obtain⟨d1,d2,e1,e2,rfl⟩:=zip_get e;obtain⟨w1,f1,g1⟩:=r.get e1;obtain⟨w2,f2,g2⟩:=r'.get e2;have y1:=y us ws w1 w2 (h H (a30.trans x (a10 zA H))) (h' H (a30.trans x (a10 zA H))) f1 f2;subst y1;have sm:a30 H (upd H T (.tup [w1,w2])):=a30.new _ hT;exact⟨sm,λC c t=>Hd.tup (t _ _ ((st.same sm).c52 (SqT.of b20))) (.cons (g1.same c) (.cons (g2.same c) .nil))⟩
 stop:=λH x=>⟨us,ws,h H x,h' H x,by rw[b01,r.length,r'.length];omega⟩
end
def PX(P:D->Prop):D->Prop
 |.tup l=>∀ y∈l,P y|.lst l=>∀ y∈l,P y|_=>True
def ItX(K:Â)(zA:Option Ç)(H H':Hp)(l:List S)(J:L2.It)(xs:List D):Prop :=
 ∀ (P:D->Prop) (B:Hp),a30 B (hz zA H')->(∀ a ys,SqT K (hz zA H') a ys->SqT K B a ys)->(∀ d v,P d->Hd K (hz zA H') d v->Hd K B d v)->(∀ ds,plA l=some ds->∀ d∈ds,PX P d) ->
  (∀ a ys,p70 K (hz zA H') a ys->((H a=none/\H' a=some (.lst ys))∨m91 l=true)->p70 K B a ys)->ItB K J xs B
theorem HdA.move{K:Â}{H B:Hp}{P:D->Prop}(mv:∀ d v,P d->Hd K H d v->Hd K B d v):∀ {ds:List D}{vs:List V},(∀ y∈ds,P y)->HdA K H ds vs->HdA K B ds vs
 |[],_,_,h=>by rw[h.f50];exact .nil
 |d::ds,_,p,h=>by
  obtain⟨x,r,rfl,h1,h2⟩:=h.c60;exact .cons (mv d x (p d Ì) h1) (HdA.move mv (λy hy=>p y (È _ hy)) h2)
theorem ItX.ok{K:Â}{zA:Option Ç}{H H':Hp}{l:List S}{J:L2.It}{xs:List D}(h:ItX K zA H H' l J xs):J32 K zA J xs H':=by
 refine(h (λ_=>True) (hz zA H') (a30.refl _) (λ_ _ q=>q) (λ_ _ _ q=>q) (λds _ d _=>?_) λ_ _ q _=>q).ok;cases d <;> first | trivial | exact λ_ _=>trivial
def tIt(K:Â)(G:Gs)(E:XK)(it:It)(src:Ex):TI:=λσ H R=>∃ zA ρ z r,x90 K zA H ρ σ/\e30 zA z H/\ev G.F src ρ z=some r/\(match r with
 |.ok l z'=>∃ xs,(plA l).bind (itD it)=some xs/\∀ J H',Ext zA H H'->e30 zA z' H'->ItX K zA H H' l J xs->R J H'
 |.er c z'=>EPost G zA E c z' H)
section
variable {lm:Bool}{X:Cx}{G:Gs}{E:XK}{N:List Str}{sc:ý}
theorem u42{zA:Option Ç}{H:Hp}{it:It}{P:L2.It->Hp->Prop}{r:R (List S)}(po:(match r with | .ok l z'=>∃ xs,(plA l).bind (itD it)=some xs/\∀ J H',Ext zA H H'->e30 zA z' H'->ItX X.K zA H H' l J xs->P J H' | .er c z'=>EPost G zA E c z' H)):∀ c z1,r=.er c z1->EPost G zA E c z1 H:=λc z1 e=>by subst e;exact po
theorem y41{s:S}{ds:List D}(h:plA [s]=some ds):∃ d,ds=[d]/\plD s=some d:=by
 cases s with
 |d x=>cases h;exact⟨x,rfl,rfl⟩
 |fr xs=>cases h;exact⟨_,rfl,rfl⟩
 |z=>cases h
theorem U81{tg e:Ï}{a:Ex}(g:b10 X G E a e):PI X tg e (tIt X.K G E .seq (.cons a .nil)):=by
 intro pins s σ H R I q;obtain⟨zA,ρ,z,rr,rel,st,ee,po⟩:=q;have e0:M.bind (ev G.F a ρ) (λx=>M.bind (M.of (one x)) λs=>M.bind (ev G.F .nil ρ) λy=>M.ret (s::y)) z=some rr:=ee;rcases M.bind_some e0 with ⟨m,z1,e1,e2⟩ | ⟨c,z1,e1,e2⟩
 ·obtain⟨t,ht,e3⟩:=M.a20 e2;cases e3;have hm:=D30 ht;subst hm;obtain⟨xs,hx,po⟩:=po;obtain⟨ds,h1,h2⟩:=Ò.mp hx;obtain⟨d,rfl,h3⟩:=y41 h1;cases d with
  |tup l =>
   cases h2;refine S31 g.pe pins s σ H R I ⟨zA,ρ,z,_,rel,st,e1,t,rfl,λv H1 x1 st1 rv=>?_⟩;obtain⟨b,ys,rfl,k1,k2⟩:=(rv.pl.d_ h3).z60;exact⟨b,rfl,⟨ys,(a10 zA H1).sqT k1⟩,po _ H1 x1 st1 λP B sub tup mv pa sf=>y11 (tup _ _ k1) (HdA.move mv (show ∀ y∈xs,P y from pa _ h1 _ Ì) k2)⟩
  |lst l =>
   cases h2;refine Y20 g.pe pins s σ H R I ⟨zA,ρ,z,_,rel,st,e1,t,rfl,λv H1 x1 st1 rv=>?_⟩;have fin:∀ {b:Ç}{ys:List V},p70 X.K (hz zA H1) b ys->HdA X.K (hz zA H1) xs ys->((H b=none/\H1 b=some (.lst ys))∨m91 [t]=true)->∃ a,V.ref b=.ref a/\(∃ xs,SqL X.K H1 a xs)/\R (Itl X.K a) H1:=λ{b ys} k1 k2 k5=>by
    exact⟨b,rfl,⟨ys,(k1.same (a10 zA H1)).sq⟩,po _ H1 x1 st1 λP B sub tup mv pa sf=>g31 (sf _ _ k1 k5) (HdA.move mv (show ∀ y∈xs,P y from pa _ h1 _ Ì) k2)⟩
   cases t with
   |z=>cases h3
   |d x =>
    cases h3;obtain⟨b,ys,rfl,k1,k2⟩:=Hd.X80 (show Hd X.K (hz zA H1) (.lst xs) v from rv);exact fin k1 k2 (.inr rfl)
   |fr x =>
    cases h3;obtain⟨b,ys,rfl,k0,k1,k2,k3⟩:=rv;exact fin (p70.of (d90 k2 k1)) (k3.same (f00 b _)) (.inl ⟨k0,k2⟩)
  |_=>cases h2
 ·exact Y20 g.pe pins s σ H R I ⟨zA,ρ,z,_,rel,st,e1,(u42 po) c z1 e2⟩
theorem M40{l:List S}{it:It}{xs:List D}(h:(plA l).bind (itD it)=some xs):∃ ds,plA l=some ds/\itD it ds=some xs:=Ò.mp h
theorem y51(x:XI lm X G E N sc){tg a:Ï}{as:Ex}{n:Str}{p pos:Pos}(hn:n="range")(hg:glob sc n=true)(hL:isL as=true)(g:Good X G E as [a]):PI X tg (.Call (.Name n p) [a] [] pos) (tIt X.K G E .rng1 as):=by
 subst hn;obtain⟨k1,k2,k3⟩:=d50 hg;obtain⟨ha,hs⟩:=g.args hL;rw[Ã9,Á] at hs;intro pins s σ H R I q;refine P80 (x.glb _ k1) (x.blt _ (-0)) ha (c90 hs.1 [] X.env) pins s σ H R I ?_
 obtain⟨zA,ρ,z,rr,rel,st,ee,po⟩:=q;refine⟨zA,ρ,z,rr,rel,st,ee,?_⟩;cases rr with
 |er c z1=>exact po
 |ok l z1 =>
  obtain⟨xs,hx,po⟩:=po;intro vs H1 x1 st1 rvs;obtain⟨ds,h1,h2⟩:=M40 hx;have hd:=G20 rvs h1
  match ds,h2 with
  |[.int j],h2 =>
   obtain⟨hj,h2⟩:=g00 h2;have hj:=L50.mp hj;cases h2;obtain⟨v,rfl,h3⟩:=hd.one;cases h3.j00;refine⟨j,rfl,by omega,by omega,po _ H1 x1 st1 λP B sub tup mv pa sf=>?_⟩
   have:=y21 (K:=X.K) (B:=B) 0 j.toNat;simpa using this
theorem y61(x:XI lm X G E N sc){tg a b:Ï}{as:Ex}{n:Str}{p pos:Pos}(hn:n="range")(hg:glob sc n=true)(hL:isL as=true)(g:Good X G E as [a,b]):PI X tg (.Call (.Name n p) [a,b] [] pos) (tIt X.K G E .rng2 as):=by
 subst hn;obtain⟨k1,k2,k3⟩:=d50 hg;obtain⟨ha,hs⟩:=g.args hL;rw[Ã9,Ã9,Á,Á] at hs;intro pins s σ H R I q;refine q61 (x.glb _ k1) (x.blt _ (-0)) ha (by rw[c90 hs.1,c90 hs.2.1];rfl) (c90 hs.2.1 [] X.env) pins s σ H R I ?_
 obtain⟨zA,ρ,z,rr,rel,st,ee,po⟩:=q;refine⟨zA,ρ,z,rr,rel,st,ee,?_⟩;cases rr with
 |er c z1=>exact po
 |ok l z1 =>
  obtain⟨xs,hx,po⟩:=po;intro vs H1 x1 st1 rvs;obtain⟨ds,h1,h2⟩:=M40 hx;have hd:=G20 rvs h1
  match ds,h2 with
  |[.int i,.int j],h2 =>
   obtain⟨hj,h2⟩:=g00 h2;have hi:=L50.mp hj.1;have hj:=L50.mp hj.2;cases h2;obtain⟨v,w,rfl,h3,h4⟩:=hd.two;cases h3.j00;cases h4.j00;exact⟨i,j,rfl,by omega,po _ H1 x1 st1 λP B sub tup mv pa sf=>y21 i (j - i).toNat⟩
theorem y71{s:S}{r:List S}{ds:List D}(h:plA (s::r)=some ds):∃ x q,ds=x::q/\plD s=some x/\plA r=some q:=by
 cases s with
 |d y =>
  obtain⟨q,e,rfl⟩:=Ë.mp h;exact⟨y,q,rfl,rfl,e⟩
 |fr y =>
  obtain⟨q,e,rfl⟩:=Ë.mp h;exact⟨_,q,rfl,rfl,e⟩
 |z=>cases h
theorem f12(h:plA l=some [x,y]):∃ s t,l=[s,t]/\plD s=some x/\plD t=some y:=by
 cases l with
 |nil=>cases h
 |cons s r =>
  obtain⟨_,_,e,h1,h2⟩:=y71 h;cases e;cases r with
  |nil=>cases h2
  |cons t r =>
   obtain⟨_,_,e,h3,h4⟩:=y71 h2;cases e;cases r with
   |nil=>exact⟨s,t,rfl,h1,h3⟩
   |cons u r =>
    obtain⟨_,_,e,_⟩:=y71 h4;cases e
theorem O21{s t:S}(h:m91 [s]=true):m91 [s,t]=true:=by
 match s,h with
 |.d (.lst _),_=>rfl
theorem O31{s t:S}(h:m91 [t]=true):m91 [s,t]=true:=by
 match s with
 |.d (.lst _)=>rfl|.d .non | .d (.bl _) | .d (.int _) | .d (.str _) | .d (.tup _) | .d .dct | .fr _ | .z=>exact h
theorem y81{K:Â}{zA:Option Ç}{H H1:Hp}{t:S}{v:V}{a:List D}(rv:RvS K zA H H1 t v)(h:plD t=some (.lst a)):∃ b ys,v=.ref b/\p70 K (hz zA H1) b ys/\HdA K (hz zA H1) a ys/\((H b=none/\H1 b=some (.lst ys))∨m91 [t]=true):=by
 cases t with
 |d x =>
  cases h;obtain⟨b,ys,rfl,k1,k2⟩:=Hd.X80 (show Hd K (hz zA H1) (.lst a) _ from rv);exact⟨b,ys,rfl,k1,k2,.inr rfl⟩
 |fr x =>
  cases h;obtain⟨b,ys,rfl,k0,k1,k2,k3⟩:=rv;exact⟨b,ys,rfl,p70.of (d90 k2 k1),k3.same (f00 b _),.inl ⟨k0,k2⟩⟩
 |z=>cases h
theorem y91(x:XI lm X G E N sc){tg a b:Ï}{as:Ex}{n:Str}{p pos:Pos}(ht:l00 tg=true)(hn:n="zip")(hg:glob sc n=true)(hL:isL as=true)(g:Good X G E as [a,b]):PI X tg (.Call (.Name n p) [a,b] [] pos) (tIt X.K G E .zip as):=by
 subst hn;obtain⟨k1,k2,k3⟩:=d50 hg;obtain⟨ha,hs⟩:=g.args hL;rw[Ã9,Ã9,Á,Á] at hs;cases tg with
 |Tuple es ek ep =>
  intro pins s σ H R I q;refine n92 (x.glb _ k1) (x.blt _ (-0)) ha (by rw[c90 hs.1,c90 hs.2.1];rfl) (c90 hs.2.1 [] X.env) pins s σ H R I ?_
  obtain⟨zA,ρ,z,rr,rel,st,ee,po⟩:=q;refine⟨zA,ρ,z,rr,rel,st,ee,?_⟩;cases rr with
  |er c z1=>exact po
  |ok l z1 =>
   obtain⟨xs,hx,po⟩:=po;intro vs H1 x1 st1 rvs;obtain⟨ds,h1,h2⟩:=M40 hx;have hd:=G20 rvs h1
   match ds,h2 with
   |[.tup a,.tup b],h2 =>
    cases h2;obtain⟨v,w,rfl,h3,h4⟩:=hd.two;obtain⟨p1,us,rfl,m1,m2⟩:=h3.z60;obtain⟨p2,ws,rfl,m3,m4⟩:=h4.z60;exact⟨false,p1,p2,rfl,⟨us,(a10 zA H1).sqT m1⟩,⟨ws,(a10 zA H1).sqT m3⟩,po _ H1 x1 st1 λP B sub tup mv pa sf=>y31 (λ_ x=>a30.sqT x (tup _ _ m1)) (HdA.move mv (show ∀ y∈a,P y from pa _ h1 _ Ì) m2) (λ_ x=>a30.sqT x (tup _ _ m3)) (HdA.move mv (show ∀ y∈b,P y from pa _ h1 _ (È _ Ì)) m4)⟩
   |[.lst a,.lst b],h2 =>
    cases h2;obtain⟨t1,t2,rfl,e1,e2⟩:=f12 h1;cases rvs with
    |cons rv1 rn =>
     cases rn with
     |cons rv2 rn =>
      cases rn;obtain⟨p1,us,rfl,m1,m2,m3⟩:=y81 rv1 e1;obtain⟨p2,ws,rfl,m4,m5,m6⟩:=y81 rv2 e2;refine⟨true,p1,p2,rfl,⟨us,(m1.same (a10 zA H1)).sq⟩,⟨ws,(m4.same (a10 zA H1)).sq⟩,po _ H1 x1 st1 λP B sub tup mv pa sf=>y31 (λ_ x=>((sf _ _ m1 (m3.imp id λq=>?_)).same x).sq) (HdA.move mv (show ∀ y∈a,P y from pa _ h1 _ Ì) m2) (λ_ x=>((sf _ _ m4 (m6.imp id λq=>?_)).same x).sq) (HdA.move mv (show ∀ y∈b,P y from pa _ h1 _ (È _ Ì)) m5)⟩
      ·exact O21 q
      ·exact O31 q
 |_=>cases ht
theorem g41:∀ {a:List D}{i n:Nat}{d:D},(w20 a n)[i]?=some d->∃ x,a[i]?=some x/\d=.tup [.int ((n + i:Nat):Int),x]
 |[],_,_,_,e=>by simp[w20] at e|x::r,0,n,d,e=>by simp[w20] at e;exact⟨x,rfl,e.symm⟩
 |x::r,i + 1,n,d,e=>by
  obtain⟨u,h1,h2⟩:=g41 (a:=r) (i:=i) (n:=n + 1) (by simpa [w20] using e)
  exact⟨u,by simpa using h1,by rw[h2,show n + 1 + i=n + (i + 1) by omega]⟩
theorem M50:∀ (a:List D) (n:Nat),(w20 a n).length=a.length
 |[],_=>rfl|x::r,n=>by simp only[w20,Û,M50 r]
theorem g51(h:∀ H,a30 B H->SqB b X.K H a us)(r:HdA X.K B xs us):ItB X.K (Ite b X.K a) (w20 xs 0) B where
 go:=λi H x hi=>by
  rw[M50] at hi;exact⟨us,us[i]'(by rw[r.length];omega),h H x,by simp⟩
 yld:=λi H v H' zA z d x st y e=>by
  obtain⟨T,rfl,hT,y⟩:=y;obtain⟨d1,e1,rfl⟩:=g41 e;obtain⟨w1,f1,g1⟩:=r.get e1;have y1:=y us w1 (h H (a30.trans x (a10 zA H))) f1;subst y1;have sm:a30 H (upd H T (.tup [.int i,w1])):=a30.new _ hT;exact⟨sm,λC c t=>Hd.tup (t _ _ ((st.same sm).c52 (SqT.of b20))) (.cons (by rw[Î9];exact Hd.int) (.cons (g1.same c) .nil))⟩
 stop:=λH x=>⟨us,h H x,by rw[M50,r.length]⟩
theorem f22(h:plA l=some [d]):∃ s,l=[s]:=by
 cases l with
 |nil=>cases h
 |cons s r =>
  cases r with
  |nil=>exact⟨s,rfl⟩|cons t q=>exfalso;cases s <;> cases t <;> first | (cases h;done) | (simp only[plA,Option.map_map,Ô9] at h;obtain⟨_,_,h⟩:=h;cases h)
theorem g61(x:XI lm X G E N sc){tg a:Ï}{as:Ex}{n:Str}{p pos:Pos}(ht:l00 tg=true)(hn:n="enumerate")(hg:glob sc n=true)(hL:isL as=true)(g:Good X G E as [a]):PI X tg (.Call (.Name n p) [a] [] pos) (tIt X.K G E .enum as):=by
 subst hn;obtain⟨k1,k2,k3⟩:=d50 hg;obtain⟨ha,hs⟩:=g.args hL;rw[Ã9,Á] at hs;cases tg with
 |Tuple es ek ep =>
  intro pins s σ H R I q;refine a92 (x.glb _ k1) (x.blt _ (-0)) ha (c90 hs.1 [] X.env) pins s σ H R I ?_
  obtain⟨zA,ρ,z,rr,rel,st,ee,po⟩:=q;refine⟨zA,ρ,z,rr,rel,st,ee,?_⟩;cases rr with
  |er c z1=>exact po
  |ok l z1 =>
   obtain⟨xs,hx,po⟩:=po;intro vs H1 x1 st1 rvs;obtain⟨ds,h1,h2⟩:=M40 hx;have hd:=G20 rvs h1
   match ds,h2 with
   |[.tup a],h2 =>
    cases h2;obtain⟨v,rfl,h3⟩:=hd.one;obtain⟨p1,us,rfl,m1,m2⟩:=h3.z60;exact⟨false,p1,rfl,⟨us,(a10 zA H1).sqT m1⟩,po _ H1 x1 st1 λP B sub tup mv pa sf=>g51 (λ_ x=>a30.sqT x (tup _ _ m1)) (HdA.move mv (show ∀ y∈a,P y from pa _ h1 _ Ì) m2)⟩
   |[.lst a],h2 =>
    cases h2;have fin:∀ (b:Ç) (ys:List V),p70 X.K (hz zA H1) b ys->HdA X.K (hz zA H1) a ys->((H b=none/\H1 b=some (.lst ys))∨m91 l=true)->∃ bb p,[V.ref b]=[.ref p]/\(∃ xs,SqB bb X.K H1 p xs)/\R (Ite bb X.K p) H1:=λb ys k1 k2 k5 =>
     ⟨true,b,rfl,⟨ys,(k1.same (a10 zA H1)).sq⟩,po _ H1 x1 st1 λP B sub tup mv pa sf=>g51 (λ_ x=>((sf _ _ k1 k5).same x).sq) (HdA.move mv (show ∀ y∈a,P y from pa _ h1 _ Ì) k2)⟩
    obtain⟨t,rfl⟩:=f22 h1;cases rvs with
    |cons rv rn =>
     cases rn;cases t with
     |d x =>
      cases h1;obtain⟨b,ys,rfl,k1,k2⟩:=Hd.X80 (show Hd X.K (hz zA H1) (.lst a) _ from rv);exact fin _ _ k1 k2 (.inr rfl)
     |fr x =>
      cases h1;obtain⟨b,ys,rfl,k0,k1,k2,k3⟩:=rv;exact fin _ _ (p70.of (d90 k2 k1)) (k3.same (f00 b _)) (.inl ⟨k0,k2⟩)
     |z=>cases h1
 |_=>cases ht
abbrev EF:XK:=λ_ _ _=>False
def ttC(K:Â)(G:Gs):Ex->TT
 |.nil=>I71|.cons c _=>tT K G EF c|_=>λ_ _ _=>False
theorem n51(h:turns f (x::r) z=some (.ok ys z2)):∃ o z1 l,f x z=some (.ok o z1)/\turns f r z1=some (.ok l z2)/\ys=(match o with | some y=>y::l | none=>l):=by
 rcases M.bind_some (show M.bind (f x) _ z=_ from h) with ⟨o,z1,e1,e2⟩ | ⟨c,z1,e1,e2⟩
 ·rcases M.bind_some e2 with ⟨l,z3,e3,e4⟩ | ⟨c,z3,e3,e4⟩
  ·cases e4;exact⟨o,z1,l,e1,e3,rfl⟩
  ·cases e4
 ·cases e2
theorem f32{zA:Option Ç}{J:L2.It}{xs ys:List D}{H1:Hp}{z1 z2:Z}{p:Pat}{cond el:Ex}{ρ0:Env}{σ0:L2.St}{Q:VK}(IT:J32 X.K zA J xs H1)(hm:xs.length<=most)(rel0:x90 X.K zA H1 ρ0 σ0)(len:ρ0.length=σ0.length)(st1:e30 zA z1 H1)
  (hc:cond=.nil∨∃ c,cond=.cons c .nil) (e:turns (n80 (ev G.F cond) (ev G.F el) p ρ0) xs z1=some (.ok ys z2))
  (fin:∀ H2 vs l,Ext zA H1 H2->e30 zA z2 H2->HdA X.K (hz zA H2) ys vs->H2 l=none->Q (.ref l) (upd H2 l (.lst vs))):s01 J σ0 H1 (gP X.K p) (ttC X.K G cond) (tI X.K G EF el) Q:=by
 refine⟨λi m vs H=>m=xs.length - i/\i<=xs.length/\vs.length<=i/\∃ yd z rest,Ext zA H1 H/\e30 zA z H/\HdA X.K (hz zA H) yd vs/\turns (n80 (ev G.F cond) (ev G.F el) p ρ0) (xs.drop i) z=some (.ok rest z2)/\ys=yd++rest,
  ⟨xs.length,rfl,Æ1 _,Æ1 _,[],z1,ys,Ext.refl,st1,.nil,by simpa using e,rfl⟩,?_⟩
 rintro i m vs H ⟨rfl,hi,hv,yd,z,rest,x,st,hd,et,ey⟩;by_cases hlt:i < xs.length
 ·refine .inr ⟨IT.go i H x hlt,Ê7 hv (Þ hlt (g80 hm)),
   λws H'=>ws.length<=i + 1/\∃ yd z rest,Ext zA H1 H'/\e30 zA z H'/\HdA X.K (hz zA H') yd ws/\turns (n80 (ev G.F cond) (ev G.F el) p ρ0) (xs.drop (i + 1)) z=some (.ok rest z2)/\ys=yd++rest,
   λws H' q=>⟨xs.length - (i + 1),by omega,rfl,hlt,q.1,q.2⟩,λv H' y=>?_⟩
  obtain⟨sm,hx⟩:=IT.yld i H v H' z xs[i] x st y (by simp[hlt])
  rw[ß6 hlt] at et;obtain⟨o,z3,l,f1,f2,f3⟩:=n51 et;obtain⟨ρ',b1,f4⟩:=M.a20 (show M.bind (M.of (f10 p xs[i] ρ0)) _ z=_ from f1);have x':Ext zA H1 H':=x.trans (Ext.of sm);have st':=st.same sm;refine y01 b1 (rel0.mono x') len hx λσ' rel' len'=>?_;have yes:∀ {za:Z}{Ha:Hp},Ext zA H' Ha->e30 zA za Ha->M.bind (ev G.F el ρ') (λy=>M.bind (M.of (pl y)) λy=>M.ret (some y)) za=some (.ok o z3)->tI X.K G EF el σ' Ha (λy H4=>(vs++[y]).length<=i + 1/\∃ yd z rest,Ext zA H1 H4/\e30 zA z H4/\HdA X.K (hz zA H4) yd (vs++[y])/\turns (n80 (ev G.F cond) (ev G.F el) p ρ0) (xs.drop (i + 1)) z=some (.ok rest z2)/\ys=yd++rest):=λ{za Ha} xa sta ea=>by
   refine j20 (rel'.mono xa) sta ea (λc z1 h=>by cases h) λm z4 e4=>?_
   obtain⟨d,p1,e5⟩:=M.a20 e4;obtain⟨s1,rfl,q1⟩:=f80 p1;cases e5;refine⟨s1,rfl,λw H4 x4 st4 rv=>⟨by rw[Á9];simp;omega,yd++[d],z3,l,(x'.trans xa).trans x4,st4,?_,f2,by rw[ey,f3,Ô6];rfl⟩⟩
   exact(hd.same (a30.trans (k30 sm) (a30.trans xa.same x4.same))).append (.cons (rv.pl.d_ q1) .nil)
  rcases hc with rfl | ⟨c,rfl⟩
  ·have f5:M.bind (ev G.F el ρ') (λy=>M.bind (M.of (pl y)) λy=>M.ret (some y)) z=some (.ok o z3):=f4;have ty:ttC X.K G .nil=I71:=rfl;rw[ty];refine K91 ?_;dsimp only;rw[if_pos rfl];exact yes Ext.refl st' f5
  ·rcases M.bind_some (show M.bind (ev G.F (.cons c .nil) ρ') _ z=_ from f4) with ⟨m,za,e1,e2⟩ | ⟨q,za,e1,e2⟩
   ·rcases M.bind_some (show M.bind (ev G.F c ρ') _ z=_ from e1) with ⟨m',zb,e3,e4⟩ | ⟨q,zb,e3,e4⟩
    ·obtain⟨s,hs,e5⟩:=M.a20 e4;cases e5;have hm':=D30 hs;subst hm';show tT X.K G EF c σ' H' _;have tb:∃ b,s=.d (.bl b):=by
      cases s with
      |d y=>cases y with
       |bl b=>exact⟨b,rfl⟩|_=>cases e2
      |fr _=>cases e2
      |z=>cases e2
     obtain⟨b,rfl⟩:=tb;refine⟨zA,ρ',z,_,rel',st',e3,b,rfl,λHa xa sta=>?_⟩;cases b with
     |true =>
      rw[if_pos rfl];exact yes xa sta e2
     |false =>
      rw[if_neg Ð];cases e2;exact⟨Ñ hv (le_succ _),yd,z3,l,x'.trans xa,sta,hd.same (a30.trans (k30 sm) xa),f2,by rw[ey,f3]⟩
    ·cases e4
   ·cases e2
 ·have hi':i=xs.length:=by omega
  subst hi';rw[drop_length] at et;cases et;refine .inl ⟨IT.stop H x,λl hl=>fin H vs l x st (by rw[ey,append_nil];exact hd) hl⟩
end
section
variable {K:Â}{zA:Option Ç}{z:Z}{H H2:Hp}{P:Ç}{q:Str}
theorem O41(KB:L10 P H H2)(t:Tab H P q)(t2:Tab H2 P q):Ext zA H H2:=by
 refine⟨λb o h=>?_,λb ps h=>?_⟩
 ·obtain⟨h1,h2⟩:=q40 h;have nt:=r00 h;obtain⟨ps,hp,_⟩:=t;have hb:b≠P:=λz=>by
   subst z;rw[hp] at h1;cases h1;exact nt _ rfl
  exact d90 (KB.same b o hb h1) h2 nt
 ·by_cases hb:b=P
  ·subst hb;obtain⟨qs,e,_⟩:=t2;exact⟨qs,e⟩
  ·exact⟨ps,KB.same b _ hb h⟩
theorem f42(KB:L10 P H H2)(t:Tab H P q)(t2:Tab H2 P q)(uq:∀ p∈TB.tb,p.1=P->p.2=q)(st:e30 zA z H):e30 zA z H2:=by
 obtain⟨ps,hp,_⟩:=t;have ne:∀ {b:Ç}{o:HO},H b=some o->(∀ l,o≠.tbl l)->b≠P:=λ{b o} e1 e2 z=>by
  subst z;rw[hp] at e1;cases e1;exact e2 _ rfl
 refine⟨?_,λp hq=>?_⟩
 ·have h:=st.zat;cases zA with
  |none=>cases z with
   |none=>trivial|some _=>exact h.elim
  |some a=>cases z with
   |none=>exact h.elim
   |some pr =>
    have h':H a=some (.lst [.int pr.1,.bl pr.2]):=h;exact KB.same _ _ (ne h' λ_ z=>nomatch z) h'
 ·by_cases hb:p.1=P
  ·rw[uq p hq hb,hb];exact t2
  ·obtain⟨qs,e,tr,k⟩:=st.tab p hq;refine⟨qs,KB.same _ _ hb e,tr,λpos c hc=>?_⟩;obtain⟨c',e1,e2⟩:=k pos c hc;exact⟨c',e1,KB.same _ _ (ne e2 λ_ z=>nomatch z) e2⟩
theorem z01:∀ l:List Nat,(b70 N l).length<=l.length
 |[]=>Í _
 |j::q=>by
  have ih:=z01 (N:=N) q;unfold b70;split
  ·rw[Û,Û];omega
  ·rw[Û];omega
theorem U00(rel:x90 K zA H ρ σ):∀ {capt:List Nat}{ss:List S},M81 ρ capt=some ss->(b70 N capt).length=capt.length ->
  ∃ vs,RvA K zA H ss vs/\vs.length=(b70 N capt).length/\∀ (i:Nat) (x:Str) (v:V),((b70 N capt).map (·.1))[i]?=some x->vs[i]?=some v->∃ j:Nat,N[j]?=some x/\σ[j]?=some (some v)
 |[],ss,h,_=>by
  cases h;exact⟨[],.nil,rfl,λi x v h=>by simp[b70] at h⟩
 |i::capt,ss,h,hl=>by
  have h:(match ρ[i]? with | some (some s)=>(M81 ρ capt).map (s::·) | _=>none)=some ss:=h
  have le:=z01 (N:=N) capt;obtain⟨s,r,e2,h3,rfl⟩:∃ s r,ρ[i]?=some (some s)/\M81 ρ capt=some r/\ss=s::r:=by
   split at h
   ·rename_i s e;obtain⟨r,h3,h4⟩:=Ë.mp h;exact⟨s,r,e,h3,h4.symm⟩
   ·cases h
  obtain⟨v,k1,k2⟩:=rel i s e2;cases hN:N[i]? with
  |none =>
   unfold b70 at hl;rw[hN] at hl;simp only[Û] at hl;omega
  |some y =>
   unfold b70 at hl ⊢;rw[hN] at hl ⊢;simp only[Û] at hl;obtain⟨vs,a1,a2,a3⟩:=U00 rel (N:=N) (capt:=capt) h3 ∅
   refine⟨v::vs,.cons k2 a1,by simp[a2],λj x u b1 b2=>?_⟩
   cases j with
   |zero =>
    simp only[Å7,Ê8,É9] at b1 b2;subst b1;subst b2;exact⟨i,hN,k1⟩
   |succ j=>exact a3 j x u (by simpa using b1) (by simpa using b2)
theorem g71:∀ {ss:List S}{vs:List V},RvA K zA H ss vs->x90 K zA H (ss.map some) (vs.map some)
 |[],_,h,i,s,e=>by simp at e
 |a::ss,_,h,i,s,e=>by
  cases h with
  |cons h1 h2 =>
   cases i with
   |zero =>
    simp only[Å7,Ê8,É9] at e;subst e;exact⟨_,rfl,h1⟩
   |succ i =>
    obtain⟨v,k1,k2⟩:=g71 h2 i s (by simpa using e)
    exact⟨v,by simpa using k1,k2⟩
end
section
variable {lm:Bool}{X:Cx}{G:Gs}{E:XK}{N:List Str}{sc:ý}
theorem u52(x:XI lm X G E N sc)(hlm:lm=true){capt:List Nat}{a:Ex}{body:Ï}{lsc:ý}{p lpos pos:Pos}(hg:glob sc "_law_refused"=true)(hc:(b70 N capt).length=capt.length)(hs:e62 lsc sc (b70 N capt)=true)(hL:isL a=false)
  (ih:∀ (k:Nat) {X:Cx}{E:XK},XI false X (lowG G k) E ((b70 N capt).map (·.1)) lsc->Good X (lowG G k) E a [body]):b10 X G E (.refd capt a) (.Call (.Name "_law_refused" p) [.Lambda ⟨[],[],none,[],[],none,[]⟩ body lsc lpos] [] pos):=by
 obtain⟨c,P,q,k,fR,fdR,L⟩:=x.lam hlm;obtain⟨k1,k2,k3⟩:=d50 hg;unfold e62 at hs;simp only[Á,À3,beq_iff_eq,Æ9,decide_eq_true_eq] at hs;obtain⟨⟨⟨⟨⟨⟨s1,s2⟩,s3⟩,s4⟩,s5⟩,s6⟩,s7⟩:=hs;refine b00 (λpins s σ H Q I qq=>?_) rfl;obtain⟨zA,ρ,z,rr,rel,st,e,po⟩:=qq;have e0:q22 (M81 ρ capt) (λρ'=>ev (j50 G.F) a ρ') z=some rr:=e;unfold q22 at e0;split at e0
 ·cases e0
 ·rename_i ss hss;split at e0
  ·rename_i cc z1 he;split at e0
   ·rename_i hc12;cases e0;obtain⟨vs,ra,hvl,hvs⟩:=U00 rel hss hc;have tab:=st.tab _ L.tb;have hfree:∀ y∈(b70 N capt).map (·.1),lsc.names.lookup y=some .free:=λy hy=>by
     obtain⟨pr,h1,rfl⟩:=Ù.mp hy;exact s6 pr h1
    refine Z40 (RR:=λH2 H'=>Ext zA H2 H'/\e30 zA z1 H') (cls:=.ref (G.cls cc)) (N:=(b70 N capt).map (·.1)) (k:=k) (P:=P) (qual:=q) L.fn (by rw[← L.lv];exact x.room) (x.glb _ k1) L.m L.kp L.bd L.code L.hd L.qual L.bm (λy hy hf=>?_) (λy hy=>by simpa using s4 y hy) hfree s1 s2 s3 rfl (λ_ _ _ _=>rfl) k2 rfl pins s σ H Q I ?_
    ·have:=s5 y hy;rw[hf] at this;unfold Env.kindOf;rw[L.sco];simpa using this
    ·refine⟨tab,vs,by rw[É];exact hvl,λi y v h1 h2=>by rw[x.hN];exact hvs i y v h1 h2,λH2 KB TB2=>?_⟩
     have x2:Ext zA H H2:=O41 KB tab TB2;have st2:e30 zA z H2:=f42 KB tab TB2 L.uq st;refine⟨λf c' cl A outer s3 H3 hr sm=>?_,λs2 f th=>?_⟩
     ·have XL:XI false (R80 X.prog X.w X.K X.mg X.base ((b70 N capt).map (·.1)) q lsc f (.ref c') cl A outer s3 H3 λc _ H'=>c=.ref (G.cls cc)/\Ext zA H2 H'/\e30 zA z1 H') (lowG G k) (λc _ H'=>c=.ref (G.cls cc)/\Ext zA H2 H'/\e30 zA z1 H') ((b70 N capt).map (·.1)) lsc :=
       { gok:=L.low,num:=x.num,blt:=x.blt,hN:=rfl,nd:=s7,vis:=λy hy=>.inr (.inr (hfree y hy)),glb:=λy h=>h,cel:=λy h=>h,calm:=rfl,room:=hr,pas:=b22,lam:=λh=>nomatch h }
      refine⟨_,(a90 hL (ih k XL)).pe,?_⟩;refine⟨zA,ss.map some,z,_,g71 (RvA.mono ra (x2.trans (Ext.of sm))),st2.same sm,he,λea H' xx stt hn=>?_⟩;exact⟨rfl,(Ext.of sm).trans xx,stt⟩
     ·refine⟨f,G.cls cc,cc,_,rfl,th,L.cls cc hc12,λl H1 H' hRR sm hl=>?_⟩;obtain⟨x1,st1⟩:=hRR;obtain⟨s',e',po⟩:=po;cases e';have xx:Ext zA H H':=(x2.trans x1).trans (Ext.of sm);have stt:=st1.same sm;exact po _ _ (xx.trans (Ext.of (a30.new _ hl))) (stt.same (a30.new _ hl)) ((n20 stt (HdA.cons Hd.int HdA.nil) hl).from xx)
   ·cases e0
  ·cases e0
end
theorem i00{env:È6}{k0:Ë3}(hk:k0≠.free):∀ {names:List (Str × Ë3)}{x:Str},names.lookup x=some k0 ->
  (names.map λ(n,k)=>if (k == ñ&&env.scope.kind == .function&&env.kindOf n == some .cell) then(n,Æ4) else(n,k)).lookup x=some k0
 |[],_,h=>by simp at h
 |(n,k)::r,x,h=>by
  have ih:=@i00 env k0 hk r x;show Ì9 x ((if (k == ñ&&env.scope.kind == .function&&env.kindOf n == some .cell)=true then(n,Æ4) else(n,k))::_)=_;cases hx:x == n with
  |true =>
   simp only[À8,hx] at h;cases h;have:(k0 == ñ)=false:=by simpa using hk
   rw[this,Õ7,Õ7,if_neg Ð];simp only[À8,hx]
  |false =>
   simp only[À8,hx] at h;by_cases hq:(k == ñ&&env.scope.kind == .function&&env.kindOf n == some .cell)=true
   ·rw[if_pos hq];simp only[À8,hx];exact ih h
   ·rw[if_neg hq];simp only[À8,hx];exact ih h
section
variable {lm:Bool}{X:Cx}{G:Gs}{E:XK}{N:List Str}{sc csc:ý}{on:List Str}{cs:List (Str × Nat)}
structure u62(csc sc:Scope)(N on:List Str)(cs:List (Str × Nat)):Prop where
 kind:csc.kind=.function
 nocell:∀ y∈csc.names,y.2≠.cell
 locs:∀ y∈csc.names,y.2=.local->csc.names.lookup y.1=some .local
 frees:∀ y∈csc.names,y.2=.free->(sc.names.lookup y.1=some .cell∨sc.names.lookup y.1=some .free)
 captd:∀ p∈cs,N[p.2]?=some p.1/\csc.names.lookup p.1=some .free
 own:∀ x∈on,csc.names.lookup x=some .local
 nd:(on++cs.map (·.1)).Nodup
theorem J42(h:f71 csc sc N on cs=true):u62 csc sc N on cs:=by
 unfold f71 at h;simp only[Á] at h;obtain⟨⟨⟨⟨⟨⟨h1,h2⟩,h3⟩,h4⟩,h5⟩,h6⟩,h7⟩:=h;rw[Æ9] at h2 h3 h4 h5 h6;refine⟨by simpa using h1,λy hy=>by simpa using h2 y hy,λy hy hl=>?_,λy hy hf=>?_,λp hp=>by simpa using h5 p hp,λx hx=>by simpa using h6 x hx,of_decide_eq_true h7⟩
 ·have:=h3 y hy;rw[hl] at this;simpa using this
 ·have:=h4 y hy;rw[hf] at this;simpa using this
theorem f52(x:XI lm X G E N sc)(c:u62 csc sc N on cs):q70 X csc on cs:=⟨c.kind,c.nocell,c.locs,λy hy hf=>x.cel _ (c.frees y hy hf),λp hp=>by rw[x.hN];exact c.captd p hp⟩
theorem z11(x:XI lm X G E N sc)(c:u62 csc sc N on cs)(cl:List (Str × Ç))(C:Ç)(s:Æ)(H:Hp)(fp:List Ç):XI false (c50 X (d60 on cs) csc cl C s H fp) G EF (on++cs.map (·.1)) csc where
 gok:=x.gok
 num:=x.num
 blt:=x.blt
 hN:=rfl
 nd:=c.nd
 vis:=λy hy=>by
  rcases Á7.mp hy with h | h
  ·exact .inl (i00 (-0) (c.own y h))
  ·obtain⟨p,hp,rfl⟩:=Ù.mp h;rcases p10 (env:=X.env) (c.captd p hp).2 with h | h
   ·exact .inr (.inl h)
   ·exact .inr (.inr h)
 glb:=λy hy=>i00 (-0) hy
 cel:=λy hy=>by
  rcases hy with h | h
  ·exact .inl (i00 (-0) h)
  ·exact p10 (env:=X.env) h
 calm:=x.calm
 room:=x.room
 pas:=p52
 lam:=λh=>nomatch h
theorem O51(x:XI lm X G E N sc)(c:u62 csc sc N on cs)(cl:List (Str × Ç))(C:Ç)(s:Æ)(H:Hp)(fp:List Ç):O11 (c50 X (d60 on cs) csc cl C s H fp) (on++cs.map (·.1)) (λy=>on.contains y) where
 hN:=rfl
 nd:=c.nd
 lc:=λy hy=>.inl (i00 (-0) (c.own y (by simpa using hy)))
 fn:=λy hy=>.inr (i00 (-0) (c.own y (by simpa using hy)))
 calm:=x.calm
theorem g81:∀ {capt:List Nat},(b70 N capt).length=capt.length->(b70 N capt).map (·.2)=capt
 |[],_=>rfl
 |i::r,h=>by
  have le:∀ l:List Nat,(b70 N l).length<=l.length:=by
   intro l
   induction l with
   |nil=>exact Í _
   |cons j q ih =>
    unfold b70;split
    ·rw[Û,Û];omega
    ·rw[Û];omega
  unfold b70 at h ⊢;split at h
  ·rename_i y hy;rw[Û,Û] at h;rw[Å7,g81 ∅]
  ·have:=le r;rw[Û] at h;omega
theorem O61(rel:x90 X.K zA H ρ σ)(h:cs.map (·.2)=capt):x90 X.K zA H (ì on.length none++capt.map λi=>(ρ[i]?).getD none) (q30 on cs σ) /\
  (ì on.length (none:Option S)++capt.map λi=>(ρ[i]?).getD none).length=(q30 on cs σ).length:=by
 subst h;constructor
 ·intro j s e;unfold q30;by_cases hj:j < on.length
  ·rw[Ð3 (by simpa using hj)] at e
   simp[Ò5,hj] at e
  ·rw[Å4 (by simpa using hj),á2,Ü,Ü] at e
   rw[Å4 (by simpa using hj),É,Ü]
   cases hp:cs[j - on.length]? with
   |none=>rw[hp] at e;simp at e
   |some p =>
    rw[hp] at e;simp only[map_some,É9] at e;have e2:ρ[p.2]?=some (some s):=by
     cases hr:ρ[p.2]? with
     |none=>rw[hr] at e;cases e
     |some o=>rw[hr] at e;exact congrArg some e
    obtain⟨v,h1,h2⟩:=rel p.2 s e2;exact⟨v,by simp[h1],h2⟩
 ·unfold q30;simp
theorem z21(h:z70 e=true)(env:È6)(x:Ä):É0 e env x=pure x:=by
 cases e with
 |Set _ _ _=>cases h
 |_=>rfl
def H20(X:Cx)(G:Gs)(E:XK)(x:Ex)(elt tg Ä0:Ï)(ifs:List Ï)(csc:ý):Prop:=∃ (own:List Str) (capt:List (Str × Nat)) (wi:TI) (g:TG) (tt:TT) (te:TE),q70 X csc own capt/\PI X tg Ä0 wi /\
 (∀ cl C s H fp,PG (c50 X (d60 own capt) csc cl C s H fp) tg g)/\(∀ cl C s H fp,PTs (c50 X (d60 own capt) csc cl C s H fp) ifs tt)/\(∀ cl C s H fp,PE (c50 X (d60 own capt) csc cl C s H fp) elt te) /\
 (∀ x,É0 Ä0 X.env x=pure x)/\∀ σ H Q,tI X.K G E x σ H Q->Z11 own capt wi g tt te σ H Q
theorem J52(x:XI lm X G E N sc){p:Pat}{it:It}{src cond el:Ex}{capt:List Nat}{elt tg Ä0:Ï}{ifs:List Ï}(c:u62 csc sc N on cs)(hcap:cs.map (·.2)=capt)(hp:j30 (on++cs.map (·.1)) (λy=>on.contains y) p tg=true)
  (hi:PI X tg Ä0 (tIt X.K G E it src)) (hns:z70 Ä0=true) (hc:(cond=.nil/\ifs=[])∨∃ q f,cond=.cons q .nil/\ifs=[f]/\∀ cl C s H fp,PT (c50 X (d60 on cs) csc cl C s H fp) f (tT X.K G EF q))
  (he:∀ cl C s H fp,PE (c50 X (d60 on cs) csc cl C s H fp) elt (tI X.K G EF el)):H20 X G E (.comp on.length capt p it src cond el) elt tg Ä0 ifs csc:=by
 have ht:∀ cl C s H fp,PTs (c50 X (d60 on cs) csc cl C s H fp) ifs (ttC X.K G cond):=by
  rcases hc with ⟨rfl,rfl⟩ | ⟨q,f,rfl,rfl,h⟩
  ·exact λcl C s H fp=>Y91
  ·exact λcl C s H fp=>r91 (h cl C s H fp)
 refine⟨on,cs,tIt X.K G E it src,gP X.K p,ttC X.K G cond,tI X.K G EF el,f52 x c,hi,λcl C s H fp=>x91 (O51 x c cl C s H fp) hp,ht,he,z21 hns X.env,λσ H Q q=>?_⟩;obtain⟨zA,ρ,z,rr,rel,st,e,po⟩:=q;have e0:M.bind (ev G.F src ρ) (λl=>M.bind (M.of ((plA l).bind (itD it))) λxs=>if xs.length<=most then M.bind (M.calm (turns (n80 (ev G.F cond) (ev G.F el) p (ì on.length none++capt.map λi=>(ρ[i]?).getD none)) xs)) λys=>M.ret [.fr ys] else M.no) z=some rr:=e;rcases M.bind_some e0 with ⟨m,z1,e1,e2⟩ | ⟨k,z1,e1,e2⟩
 ·obtain⟨xs,hx,e3⟩:=M.a20 e2;refine⟨zA,ρ,z,_,rel,st,e1,xs,hx,λJ H1 x1 st1 IT'=>?_⟩;have IT:=IT'.ok;split at e3
  ·rename_i hm;rcases M.bind_some e3 with ⟨ys,z2,e4,e5⟩ | ⟨k,z2,e4,e5⟩
   ·cases e5;have e6:turns (n80 (ev G.F cond) (ev G.F el) p (ì on.length none++capt.map λi=>(ρ[i]?).getD none)) xs z1=some (.ok ys z2):=by
     unfold M.calm at e4;split at e4
     ·rename_i h;cases e4;exact h
     ·cases e4
    obtain⟨r1,r2⟩:=O61 (on:=on) (rel.mono x1) hcap;refine f32 IT hm r1 r2 st1 (by rcases hc with ⟨h,_⟩ | ⟨q,_,h,_⟩;exact .inl h;exact .inr ⟨q,h⟩) e6 λH2 vs l x2 st2 hd hl=>?_
    exact e80 po (x1.trans x2) st2 _ _ (a30.new _ hl) (n20 st2 hd hl)
   ·unfold M.calm at e4;split at e4 <;> cases e4
  ·cases e3
 ·exact⟨zA,ρ,z,_,rel,st,e1,(f60 po) k z1 e2⟩
theorem H20.good{x:Ex}{elt tg Ä0:Ï}{ifs:List Ï}{csc:ý}{pos:Pos}(hc:X.calm=true)(h:H20 X G E x elt tg Ä0 ifs csc):b10 X G E x (.ListComp elt [⟨tg,Ä0,ifs,0⟩] csc pos):=by
 obtain⟨own,capt,wi,g,tt,te,h1,h2,h3,h4,h5,h6,h7⟩:=h;exact b00 (PE.imp (s11 hc h1 h2 h3 h4 h5 h6) h7) rfl
theorem b80(h:(!isL x)=true):isL x=false:=by simpa using h
theorem z31(hL:isL x=true)(g:Good X G E x [e]):∃ a,x=.cons a .nil/\b10 X G E a e:=by
 cases x with
 |nil=>cases (show [e]=[] from g)
 |cons a r =>
  obtain⟨e',es,h,ns,ga,lr,gr⟩:=g;cases h;cases r with
  |nil=>exact⟨a,rfl,ga⟩|cons b q=>obtain⟨e,es,h,_⟩:=gr;cases h
  |_=>cases lr
 |_=>cases hL
theorem U10{lm:Bool}{G:Gs}{own:Nat}{capt:List Nat}{p:Pat}{it:It}{src cond el:Ex}(ihs:(∀ {X:Cx}{E:XK}{N:List Str}{sc:ý},XI lm X G E N sc->∀ {es:List Ï},mt lm G.fns G.nums src sc N es=true->Good X G E src es))(ihc:(∀ {X:Cx}{E:XK}{N:List Str}{sc:ý},XI false X G E N sc->∀ {es:List Ï},mt false G.fns G.nums cond sc N es=true->Good X G E cond es))(ihe:(∀ {X:Cx}{E:XK}{N:List Str}{sc:ý},XI false X G E N sc->∀ {es:List Ï},mt false G.fns G.nums el sc N es=true->Good X G E el es))
  {X:Cx}{E:XK}{N:List Str}{sc:ý} (x:XI lm X G E N sc) {elt tg Ä0:Ï}{ifs:List Ï}{csc:ý} (h:(d40 tg).length == own&&(b70 N capt).length == capt.length&&f71 csc sc N (d40 tg) (b70 N capt)&&j30 (d40 tg++(b70 N capt).map (·.1)) (λx=>(d40 tg).contains x) p tg&&isL src&&!isL el&&isL cond&&ifs.length<=1&&noStar elt&&z70 Ä0&&ifs.all (λc=>!ifB c) &&
    (match it with
    |.seq=>mt lm G.fns G.nums src sc N [Ä0]|.rng1=>opt (k12 Ä0) λr=>r.1.1 == ("range":Str)&&glob sc r.1.1&&mt lm G.fns G.nums src sc N [r.1.2.2.1]|.rng2=>opt (k22 Ä0) λr=>r.1.1 == ("range":Str)&&glob sc r.1.1&&mt lm G.fns G.nums src sc N [r.1.2.2.1,r.1.2.2.2.1]|.zip=>opt (k22 Ä0) λr=>r.1.1 == ("zip":Str)&&glob sc r.1.1&&l00 tg&&mt lm G.fns G.nums src sc N [r.1.2.2.1,r.1.2.2.2.1]
    |.enum=>opt (k12 Ä0) λr=>r.1.1 == ("enumerate":Str)&&glob sc r.1.1&&l00 tg&&mt lm G.fns G.nums src sc N [r.1.2.2.1])&&mt false G.fns G.nums cond csc (d40 tg++(b70 N capt).map (·.1)) ifs&&mt false G.fns G.nums el csc (d40 tg++(b70 N capt).map (·.1)) [elt]):H20 X G E (.comp own capt p it src cond el) elt tg Ä0 ifs csc:=by
 simp only[Á,beq_iff_eq,decide_eq_true_eq] at h;obtain⟨⟨⟨⟨⟨⟨⟨⟨⟨⟨⟨⟨⟨h1,h2⟩,h3⟩,h4⟩,h5⟩,h6⟩,h7⟩,h8⟩,h9⟩,h10⟩,h11⟩,h12⟩,h13⟩,h14⟩:=h;subst h1;have c:=J42 h3;have hi:PI X tg Ä0 (tIt X.K G E it src):=by
  cases it with
  |seq =>
   obtain⟨a,rfl,ga⟩:=z31 h5 (ihs x h12);exact U81 ga
  |rng1 =>
   obtain⟨⟨⟨n,_,a,_⟩,rfl⟩,-,h12⟩:=a70 h12;simp only[Á,beq_iff_eq] at h12;exact y51 x h12.1.1 h12.1.2 h5 (ihs x h12.2)
  |rng2 =>
   obtain⟨⟨⟨n,_,a,b,_⟩,rfl⟩,-,h12⟩:=a70 h12;simp only[Á,beq_iff_eq] at h12;exact y61 x h12.1.1 h12.1.2 h5 (ihs x h12.2)
  |zip =>
   obtain⟨⟨⟨n,_,a,b,_⟩,rfl⟩,-,h12⟩:=a70 h12;simp only[Á,beq_iff_eq] at h12;exact y91 x h12.1.2 h12.1.1.1 h12.1.1.2 h5 (ihs x h12.2)
  |enum =>
   obtain⟨⟨⟨n,_,a,_⟩,rfl⟩,-,h12⟩:=a70 h12;simp only[Á,beq_iff_eq] at h12;exact g61 x h12.1.2 h12.1.1.1 h12.1.1.2 h5 (ihs x h12.2)
 have hc:(cond=.nil/\ifs=[])∨∃ q f,cond=.cons q .nil/\ifs=[f]/\∀ cl C s H fp,PT (c50 X (d60 (d40 tg) (b70 N capt)) csc cl C s H fp) f (tT X.K G EF q):=by
  match ifs,h8,h11,h13 with
  |[],_,_,h13 =>
   cases cond with
   |nil=>exact .inl ⟨rfl,rfl⟩|cons a r=>cases h13
   |_=>cases h7
  |[f],_,h11,h13 =>
   cases cond with
   |nil=>cases h13
   |cons a r =>
    have h13':(noStar f&&!isL a&&isL r&&mt false G.fns G.nums a csc (d40 tg++(b70 N capt).map (·.1)) [f]&&mt false G.fns G.nums r csc (d40 tg++(b70 N capt).map (·.1)) [])=true:=h13;simp only[Á] at h13';have rn:r=.nil:=by
     cases r with
     |nil=>rfl|cons b q=>cases h13'.2
     |_=>cases h13'.1.1.2
    subst rn;simp only[Ã9,all_nil,Ñ1] at h11;refine .inr ⟨a,f,rfl,rfl,λcl C s H fp=>?_⟩;obtain⟨e',es,he,ns,ga,lr,gr⟩:=ihc (z11 x c cl C s H fp) h13;cases he;exact ga.pt (e72 h11)
   |_=>cases h7
 refine J52 x c (g81 h2) h4 hi h10 hc λcl C s H fp=>?_;exact(a90 (b80 h6) (ihe (z11 x c cl C s H fp) h14)).pe
theorem u72:∀ (t:Ex) {lm:Bool}{G:Gs}{X:Cx}{E:XK}{N:List Str}{sc:ý},XI lm X G E N sc->∀ {es:List Ï},mt lm G.fns G.nums t sc N es=true->Good X G E t es:=by
 intro t
 induction t with
 |nil =>
  intro lm G X E N sc x es h;exact Ì5.mp h
 |cons a r iha ihr =>
  intro lm G X E N sc x es h;cases es with
  |nil=>cases h
  |cons e es =>
   have h:(noStar e&&!isL a&&isL r&&mt lm G.fns G.nums a sc N [e]&&mt lm G.fns G.nums r sc N es)=true:=h;simp only[Á] at h;obtain⟨⟨⟨⟨h1,h2⟩,h3⟩,h4⟩,h5⟩:=h;exact⟨e,es,rfl,h1,a90 (b80 h2) (iha x h4),h3,ihr x h5⟩
 |var i =>
  intro lm G X E N sc x es h;obtain⟨⟨q,rfl⟩,-,h⟩:=a70 h;simp only[Á,beq_iff_eq] at h;exact c20 rfl (H62 x h.1 h.2)
 |con d =>
  intro lm G X E N sc x es h;rcases (Å6 _ _).mp h with h | h
  ·obtain⟨⟨q,rfl⟩,-,h⟩:=a70 h;exact c20 rfl (H72 h)
  ·obtain⟨⟨p,rfl⟩,-,h⟩:=a70 h;cases d with
   |dct=>exact c20 rfl H82|_=>cases h
 |gint g i =>
  intro lm G X E N sc x es h;obtain⟨⟨⟨n,p⟩,rfl⟩,-,h⟩:=a70 h;simp only[Á,beq_iff_eq,Ì4] at h;obtain⟨⟨rfl,h2⟩,h3⟩:=h;exact c20 rfl (s62 x h2 h3)
 |tup as ih =>
  intro lm G X E N sc x es h;obtain⟨⟨q,rfl⟩,-,h⟩:=a70 h;simp only[Á] at h;exact c20 rfl (H92 h.1 (ih x h.2))
 |lst as ih =>
  intro lm G X E N sc x es h;obtain⟨⟨q,rfl⟩,-,h⟩:=a70 h;simp only[Á] at h;exact c20 rfl (I02 h.1 (ih x h.2))
 |bin o a b iha ihb =>
  intro lm G X E N sc x es h;obtain⟨⟨⟨l,op,r,p⟩,rfl⟩,-,h⟩:=a70 h;simp only[Á,beq_iff_eq] at h;obtain⟨⟨⟨⟨rfl,h2⟩,h3⟩,h4⟩,h5⟩:=h;exact c20 rfl (I12 (a90 (b80 h2) (iha x h4)) (a90 (b80 h3) (ihb x h5)))
 |cmp o a b iha ihb =>
  intro lm G X E N sc x es h;obtain⟨⟨⟨l,op,r,p⟩,rfl⟩,-,h⟩:=a70 h;simp only[Á,beq_iff_eq] at h;obtain⟨⟨⟨⟨⟨rfl,h1⟩,h2⟩,h3⟩,h4⟩,h5⟩:=h;exact c20 rfl (I22 x h1 (a90 (b80 h2) (iha x h4)) (a90 (b80 h3) (ihb x h5)))
 |neg a ih =>
  intro lm G X E N sc x es h;obtain⟨⟨q,rfl⟩,-,h⟩:=a70 h;simp only[Á] at h;exact c20 rfl (I32 (a90 (b80 h.1) (ih x h.2)))
 |not a ih =>
  intro lm G X E N sc x es h;obtain⟨⟨q,rfl⟩,-,h⟩:=a70 h;simp only[Á] at h;obtain⟨⟨h1,h2⟩,h3⟩:=h;exact c20 rfl (I42 (a90 (b80 h1) (ih x h3)) (e72 h2))
 |and a b iha ihb =>
  intro lm G X E N sc x es h;obtain⟨⟨⟨l,r,vs,p⟩,rfl⟩,-,h⟩:=a70 h;simp only[Á] at h;obtain⟨⟨⟨⟨h1,h2⟩,h3⟩,h4⟩,h5⟩:=h;refine c20 rfl (I52 (a90 (b80 h1) (iha x h4)) (e72 h3) ?_);cases vs with
  |nil =>
   rw[if_pos (show([]:List Ï).isEmpty=true from rfl),Á] at h5;exact s72 (a90 (b80 h2) (ihb x h5.2)) (e72 h5.1)
  |cons v vs =>
   rw[if_neg (by exact Ð)] at h5
   exact a90 (b80 h2) (ihb x h5)
 |or a b iha ihb =>
  intro lm G X E N sc x es h;obtain⟨⟨⟨l,r,vs,p⟩,rfl⟩,-,h⟩:=a70 h;simp only[Á] at h;obtain⟨⟨⟨⟨h1,h2⟩,h3⟩,h4⟩,h5⟩:=h;refine c20 rfl (V02 (a90 (b80 h1) (iha x h4)) (e72 h3) ?_);cases vs with
  |nil =>
   rw[if_pos (show([]:List Ï).isEmpty=true from rfl),Á] at h5;exact s72 (a90 (b80 h2) (ihb x h5.2)) (e72 h5.1)
  |cons v vs =>
   rw[if_neg (by exact Ð)] at h5
   exact a90 (b80 h2) (ihb x h5)
 |orT a b iha ihb =>
  intro lm G X E N sc x es h;obtain⟨⟨⟨l,r,vs,p⟩,rfl⟩,-,h⟩:=a70 h;simp only[Á] at h;obtain⟨⟨⟨⟨h1,h2⟩,h3⟩,h4⟩,h5⟩:=h;cases vs with
  |nil=>exact c20 rfl (I62 (a90 (b80 h1) (iha x h4)) (a90 (b80 h2) (ihb x h5)))|cons v vs=>cases h3
 |ite c a b ihc iha ihb =>
  intro lm G X E N sc x es h;obtain⟨⟨q,rfl⟩,-,h⟩:=a70 h;simp only[Á] at h;obtain⟨⟨⟨⟨⟨⟨h1,h2⟩,h3⟩,h4⟩,h5⟩,h6⟩,h7⟩:=h;exact c20 rfl (I72 (a90 (b80 h1) (ihc x h5)) (e72 h4) (a90 (b80 h2) (iha x h6)) (a90 (b80 h3) (ihb x h7)))
 |ch o o' a b c iha ihb ihc =>
  intro lm G X E N sc x es h;obtain⟨⟨⟨l,op,op',r,s,p⟩,rfl⟩,-,h⟩:=a70 h;simp only[Á,beq_iff_eq] at h;obtain⟨⟨⟨⟨⟨⟨⟨⟨rfl,rfl⟩,h1⟩,h2⟩,h3⟩,h4⟩,h5⟩,h6⟩,h7⟩:=h;exact c20 rfl (V12 x h1 (a90 (b80 h2) (iha x h5)) (a90 (b80 h3) (ihb x h6)) (a90 (b80 h4) (ihc x h7)))
 |bf f as ih =>
  intro lm G X E N sc x es h;rcases (Å6 _ _).mp h with h | h
  rotate_left
  ·rw[Á] at h;obtain⟨hf,h⟩:=h;obtain⟨⟨⟨n,p1,m,p2,e,p3,p4⟩,rfl⟩,-,h⟩:=a70 h;simp only[Á,beq_iff_eq] at h;obtain⟨⟨⟨⟨⟨h1,h2⟩,h3⟩,h4⟩,h5⟩,h6⟩:=h;have h1:n="sorted":=h1;have h2:m="set":=h2;subst h1;subst h2;cases f with
   |sset=>exact c20 rfl (u12 x h3 h4 h5 (ih x h6))|_=>cases hf
  obtain⟨⟨q,rfl⟩,-,h⟩:=a70 h;simp only[Á,beq_iff_eq] at h;obtain⟨⟨⟨⟨h1,h2⟩,h3⟩,h4⟩,h5⟩:=h;exact c20 rfl (V22 x h1 h2 h3 h4 (ih x h5))
 |isi t a ih =>
  intro lm G X E N sc x es h;obtain⟨⟨⟨n,q,e,ty,p⟩,rfl⟩,-,h⟩:=a70 h;simp only[Á,beq_iff_eq] at h;obtain⟨⟨⟨⟨⟨h1,h2⟩,h3⟩,h4⟩,h5⟩,h6⟩:=h;have g:=a90 (b80 h4) (ih x h5);refine c20 rfl ?_;have one:∀ t:Ty,t≠.seq->(opt (shN ty) λq=>q.1.1 == À9 (tyN t)&&glob sc (À9 (tyN t)))=true->b10 X G E (.isi t a) (.Call (.Name n q) [e,ty] [] p):=λt hs h6=>by
   obtain⟨⟨⟨a,_⟩,rfl⟩,-,h6⟩:=a70 h6;simp only[Á,beq_iff_eq] at h6;obtain⟨rfl,k1⟩:=h6;exact t52 x hs k1 h1 h2 h3 g
  cases t with
  |seq =>
   obtain⟨⟨⟨a,_,b,_,_,_⟩,rfl⟩,-,h6⟩:=a70 h6;simp only[Á,beq_iff_eq] at h6;obtain⟨⟨⟨rfl,rfl⟩,k1⟩,k2⟩:=h6;exact t62 x k1 k2 h1 h2 h3 g
  |_=>exact one _ (λh=>by cases h) h6
 |idx a i iha ihi =>
  intro lm G X E N sc x es h;obtain⟨⟨q,rfl⟩,-,h⟩:=a70 h;simp only[Á] at h;obtain⟨⟨⟨⟨h1,h2⟩,h3⟩,h4⟩,h5⟩:=h;exact c20 rfl (I92 h1 (a90 (b80 h2) (iha x h4)) (a90 (b80 h3) (ihi x h5)))
 |sl a lo hi iha ihl ihh =>
  intro lm G X E N sc x es h;obtain⟨⟨q,rfl⟩,-,h⟩:=a70 h;simp only[Á] at h;obtain⟨⟨⟨⟨⟨h1,h2⟩,h3⟩,h4⟩,h5⟩,h6⟩:=h;exact c20 rfl (V32 (a90 (b80 h1) (iha x h4)) h2 h3 (ihl x h5) (ihh x h6))
 |rev a ih =>
  intro lm G X E N sc x es h;obtain⟨⟨q,rfl⟩,-,h⟩:=a70 h;simp only[Á] at h;exact c20 rfl (J22 (a90 (b80 h.1) (ih x h.2)))
 |call f as ih =>
  intro lm G X E N sc x es h;obtain⟨⟨⟨n,q,e,l,p⟩,rfl⟩,-,h⟩:=a70 h;simp only[Á] at h;obtain⟨⟨⟨h1,h2⟩,h3⟩,h4⟩:=h;obtain⟨pr,hf,h1'⟩:=a70 h1;simp only[Á,beq_iff_eq] at h1';obtain⟨rfl,h7⟩:=h1';exact c20 rfl (s_call x hf h7 h2 h3 (ih x h4))
 |comp own capt p it src cond el ihs ihc ihe =>
  intro lm G X E N sc x es h;obtain⟨⟨q,rfl⟩,-,h⟩:=a70 h;exact c20 rfl ((U10 ihs ihc ihe x h).good x.calm)
 |lrng b as ih =>
  intro lm G X E N sc x es h;obtain⟨⟨⟨n,p,m,q,a,r,t⟩,rfl⟩,-,h⟩:=a70 h;simp only[Á,beq_iff_eq] at h;obtain⟨⟨⟨⟨⟨⟨h1,h2⟩,h3⟩,h4⟩,h5⟩,h7⟩,h6⟩:=h;subst h1;subst h2;cases a with
  |nil=>simp at h7|cons a l=>exact c20 rfl (t92 x h3 h4 h5 (ih x h6))
 |zget i k =>
  intro lm G X E N sc x es h;obtain⟨⟨⟨n,p,j,c,q,r⟩,rfl⟩,-,h⟩:=a70 h;simp only[Á,beq_iff_eq] at h;obtain⟨⟨h1,h2⟩,h3⟩:=h;have h3:j=(k:Int):=h3;subst h3;exact c20 rfl (t72 x h1 h2)
 |refd capt a ih =>
  intro lm G X E N sc x es h;obtain⟨⟨⟨n,p,body,lsc,lpos,pos⟩,rfl⟩,-,h⟩:=a70 h;simp only[Á,beq_iff_eq] at h;obtain⟨⟨⟨⟨⟨⟨h1,h2⟩,h3⟩,h4⟩,h5⟩,h6⟩,h7⟩:=h;have h2:n="_law_refused":=h2;subst h2;exact c20 rfl (u52 x h1 h3 h4 h5 (b80 h6) λk X E xl=>ih xl h7)
theorem sound(G:Gs)(t:Ex)(x:XI lm X G E N sc)(h:mt lm G.fns G.nums t sc N es=true):Good X G E t es:=u72 t x h
end
open Classical in
def hw(ow:Nat->Option Ç)(H:Hp):Hp:=λb=>if ∃ i,ow i=some b then none else H b
section
variable {K:Â}{ow:Nat->Option Ç}{H H':Hp}
theorem k40:a30 (hw ow H) H:=λb o e=>by
 unfold hw at e;split at e
 ·cases e
 ·exact e
theorem i50(h:H b=some o)(n:∀ i,ow i≠some b):hw ow H b=some o:=by
 unfold hw;rw[if_neg (λ⟨i,e⟩=>n i e)];exact h
theorem D60(h:hw ow H b=some o):H b=some o/\∀ i,ow i≠some b:=by
 refine⟨k40 b o h,λi e=>?_⟩;unfold hw at h;rw[if_pos ⟨i,e⟩] at h;cases h
theorem e00(e:a30 H H'):a30 (hw ow H) (hw ow H'):=λb o h=>by
 obtain⟨h1,h2⟩:=D60 h;exact i50 (e b o h1) h2
theorem w50:hw (λ_=>none) H=H:=by
 funext b
 unfold hw;rw[if_neg (λ⟨i,e⟩=>by cases e)]
theorem z41(h:SqT K H a xs)(hl:∀ i b,ow i=some b->∃ ys,H b=some (.lst ys)):SqT K (hw ow H) a xs:=by
 rcases h with (h | ⟨o,h⟩) | h
 ·refine .inl (.inl (i50 h λi e=>?_));obtain⟨ys,q⟩:=hl i a e;rw[h] at q;cases q
 ·refine .inl (.inr ⟨o,i50 h λi e=>?_⟩);obtain⟨ys,q⟩:=hl i a e;rw[h] at q;cases q
 ·exact .inr h
mutual
theorem M60(hl:∀ i b,ow i=some b->∃ ys,H b=some (.lst ys)):∀ {d:D}{v:V},bare d=true->Hd K H d v->Hd K (hw ow H) d v
 |.non,_,_,h=>by rw[h.F42];exact Hd.non|.bl _,_,_,h=>by rw[h.bl_];exact Hd.bl|.int _,_,_,h=>by rw[h.j00];exact Hd.int|.str _,_,_,h=>by rw[h.F52];exact Hd.str
 |.tup l,_,b,h=>by
  obtain⟨a,xs,rfl,h1,h2⟩:=h.z60;exact Hd.tup (z41 h1 hl) (A20 hl (by simpa [bare] using b) h2)
 |.lst _,_,b,_=>by cases b
 |.dct,_,b,_=>by cases b
theorem A20(hl:∀ i b,ow i=some b->∃ ys,H b=some (.lst ys)):∀ {ds:List D}{vs:List V},n90 ds=true->HdA K H ds vs->HdA K (hw ow H) ds vs
 |[],_,_,h=>by rw[h.f50];exact .nil
 |d::ds,_,b,h=>by
  obtain⟨x,r,rfl,h1,h2⟩:=h.c60;simp only[n90,Á] at b;exact .cons (M60 hl b.1 h1) (A20 hl b.2 h2)
end
end
def RvW(K:Â)(zA:Option Ç)(ow:Nat->Option Ç)(H:Hp)(i:Nat):S->V->Prop
 |.d x,v=>ow i=none/\Hd K (hw ow (hz zA H)) x v|.fr xs,v=>∃ a ys,ow i=some a/\v=.ref a/\H a=some (.lst ys)/\HdA K (hw ow (hz zA H)) xs ys|.z,v=>ow i=none/\∃ a,zA=some a/\v=.ref a
structure RW(K:PySem.W.Frag)(H0:Hp)(zE zA:Option Addr)(ow:Nat->Option Addr)(H:Hp)(ρ:Env)(σ:L2.St):Prop where
 len:ρ.length=σ.length
 inj:∀ i j a,ow i=some a->ow j=some a->i=j
 zne:∀ i a,ow i=some a->zA≠some a
 own:∀ i a,ow i=some a->∃ xs,ρ[i]?=some (some (.fr xs))
 wor:∀ i s,ρ[i]?=some (some s)->∃ v,σ[i]?=some (some v)/\RvW K zA ow H i s v
 ext:Ext zE H0 H
 zok:zA=zE∨(zE=none/\∀ a,zA=some a->H0 a=none)
 new:∀ i a,ow i=some a->H0 a=none
section
variable {K:Â}{H0 H H':Hp}{zE zA:Option Ç}{ow:Nat->Option Ç}{ρ:Env}{σ:L2.St}
theorem RW.lst(r:RW K H0 zE zA ow H ρ σ):∀ i a,ow i=some a->∃ ys,H a=some (.lst ys):=λi a e=>by
 obtain⟨xs,h⟩:=r.own i a e;obtain⟨v,h1,a',ys,h2,h3,h4,h5⟩:=r.wor i _ h;rw[e] at h2;cases h2;exact⟨ys,h4⟩
theorem RW.f62(r:RW K H0 zE zA ow H ρ σ):∀ i a,ow i=some a->∃ ys,hz zA H a=some (.lst ys):=λi a e=>by
 obtain⟨ys,h⟩:=r.lst i a e;exact⟨ys,d90 h (r.zne i a e)⟩
theorem RvW.pl{i:Nat}{s:S}{v:V}(h:RvW K zA ow H i s v)(hz':∀ a,ow i=some a->zA≠some a):RvP K zA H s v:=by
 cases s with
 |d x=>exact h.2.same k40|z=>exact h.2
 |fr xs =>
  obtain⟨a,ys,h1,rfl,h3,h4⟩:=h;exact Hd.lst (d90 h3 (hz' a h1)) (h4.same k40)
theorem RW.X90(r:RW K H0 zE zA ow H ρ σ):x90 K zA H ρ σ:=λi s e=>by
 obtain⟨v,h1,h2⟩:=r.wor i s e;exact⟨v,h1,h2.pl λa q=>r.zne i a q⟩
theorem RvW.mono{i:Nat}{s:S}{v:V}(h:RvW K zA ow H i s v)(hz':∀ a,ow i=some a->zA≠some a)(x:Ext zA H H'):RvW K zA ow H' i s v:=by
 cases s with
 |d y=>exact⟨h.1,h.2.same (e00 x)⟩|z=>exact h
 |fr xs =>
  obtain⟨a,ys,h1,rfl,h3,h4⟩:=h;exact⟨a,ys,h1,rfl,x.at h3 (hz' a h1),h4.same (e00 x)⟩
theorem U91(zA:Option Ç)(H:Hp):a30 (hz zA H) (hz none H):=λ_ _ h=>d90 (q40 h).1 (λq=>nomatch q) (r00 h)
theorem z51(e:Ext zE H0 H)(zok:zA=zE∨(zE=none/\∀ a,zA=some a->H0 a=none))(x:Ext zA H H'):Ext zE H0 H':=by
 rcases zok with rfl | ⟨rfl,hn⟩
 ·exact e.trans x
 ·refine⟨λb o h=>?_,λb ps h=>let ⟨qs,q⟩:=e.tbl b ps h;x.tbl b qs q⟩;have h1:=e.same b o h;refine d90 (x.at (q40 h1).1 (λq=>?_) (r00 h1)) (λq=>nomatch q) (r00 h1);have h0:=(q40 h).1;rw[hn b q] at h0;cases h0
theorem RW.mono(r:RW K H0 zE zA ow H ρ σ)(x:Ext zA H H'):RW K H0 zE zA ow H' ρ σ :=
 ⟨r.len,r.inj,r.zne,r.own,λi s e=>let ⟨v,h1,h2⟩:=r.wor i s e;⟨v,h1,h2.mono (λa q=>r.zne i a q) x⟩,z51 r.ext r.zok x,r.zok,r.new⟩
theorem RW.young(r:RW K H0 zE zA ow H ρ σ)(h:H a=none)(n:zA≠some a):H0 a=none/\zE≠some a:=by
 have hE:zE≠some a:=λq=>by
  rcases r.zok with rfl | ⟨rfl,_⟩
  ·exact n q
  ·cases q
 exact⟨r.ext.free h hE,hE⟩
theorem RW.out(r:RW K H0 zE zA ow H ρ σ){s:S}{v:V}(hs:s≠.z)(x:Ext zA H H')(h:RvS K zA H H' s v):RvS K zE H0 H' s v:=by
 have sm:a30 (hz zA H') (hz zE H'):=by
  rcases r.zok with rfl | ⟨rfl,_⟩
  ·exact a30.refl _
  ·exact U91 _ _
 cases s with
 |d y=>exact Hd.same sm h|z=>exact absurd rfl hs
 |fr xs =>
  obtain⟨a,ys,rfl,h1,h2,h3,h4⟩:=h;obtain⟨k1,k2⟩:=r.young h1 h2;exact⟨a,ys,rfl,k1,k2,h3,h4.same (B90 λb o _ q=>sm b o q)⟩
theorem RW.V42(r:RW K H0 zE zA ow H ρ σ){i:Nat}{s:S}(hs:s≠.z)(e:ρ[i]?=some (some s)):∃ v,σ[i]?=some (some v)/\RvS K zE H0 H s v:=by
 obtain⟨v,h1,h2⟩:=r.wor i s e;have sm:a30 (hz zA H) (hz zE H):=by
  rcases r.zok with rfl | ⟨rfl,_⟩
  ·exact a30.refl _
  ·exact U91 _ _
 refine⟨v,h1,?_⟩;cases s with
 |d y=>exact Hd.same (a30.trans k40 sm) h2.2|z=>exact absurd rfl hs
 |fr xs =>
  obtain⟨a,ys,k1,rfl,k3,k4⟩:=h2;have n:=r.zne i a k1;have hE:zE≠some a:=λq=>by
   rcases r.zok with rfl | ⟨rfl,_⟩
   ·exact n q
   ·cases q
  refine⟨a,ys,rfl,r.new i a k1,hE,k3,k4.same λb o q=>?_⟩;obtain⟨q1,q2⟩:=D60 q;exact K60 (sm b o q1) λz=>q2 i (by rw[z];exact k1)
theorem RW.Z80(r:RW K H0 zE zA ow H ρ σ):RW K H0 zE zA (λ_=>none) H (Z80 ρ) σ:=by
 refine⟨by unfold Q.Z80;rw[É];exact r.len,λi j a h=>(by cases h),λi a h=>(by cases h),λi a h=>(by cases h),λi s e=>?_,r.ext,r.zok,λi a h=>(by cases h)⟩
 unfold Q.Z80 at e;rw[Ü] at e;obtain⟨o,e1,e2⟩:=Ë.mp e;cases o with
 |none=>cases e2
 |some s0 =>
  cases e2;obtain⟨v,h1,h2⟩:=r.X90 i s0 e1;refine⟨v,h1,?_⟩;cases s0 with
  |d y=>exact⟨rfl,by rw[w50];exact h2⟩|fr xs=>exact⟨rfl,by rw[w50];exact h2⟩|z=>exact⟨rfl,h2⟩
def ow0(ow:Nat->Option Ç)(i:Nat):Nat->Option Addr:=λj=>if j=i then none else ow j
def ow1(ow:Nat->Option Ç)(i:Nat)(a:Ç):Nat->Option Addr:=λj=>if j=i then some a else ow j
theorem RvW.move{ow':Nat->Option Ç}{j:Nat}{s:S}{v:V}(h:RvW K zA ow H j s v)(e:ow' j=ow j)(sm:a30 (hw ow (hz zA H)) (hw ow' (hz zA H')))(hk:∀ a,ow j=some a->H' a=H a):RvW K zA ow' H' j s v:=by
 cases s with
 |d y=>exact⟨by rw[e];exact h.1,h.2.same sm⟩|z=>exact⟨by rw[e];exact h.1,h.2⟩
 |fr xs =>
  obtain⟨a,ys,h1,rfl,h3,h4⟩:=h;exact⟨a,ys,by rw[e];exact h1,rfl,by rw[hk a h1];exact h3,h4.same sm⟩
theorem getElem?_set'{α:Type}{l:List α}{i j:Nat}{x y:α}(h:(l.set i x)[j]?=some y):(j=i/\y=x/\i < l.length)∨(j≠i/\l[j]?=some y):=by
 by_cases hj:j=i
 ·subst hj;have hlt:j < l.length:=by
   have:=(ß.mp h).1;simpa using this
  rw[ð hlt] at h;cases h;exact .inl ⟨rfl,rfl,hlt⟩
 ·rw[ê (Â3 hj)] at h;exact .inr ⟨hj,h⟩
theorem RW.V52(r:RW K H0 zE zA ow H ρ σ){i:Nat}(h:Hd K (hw ow (hz zA H)) x v):RW K H0 zE zA (ow0 ow i) H (ρ.set i (some (.d x))) (σ.set i (some v)):=by
 have sub:∀ j a,ow0 ow i j=some a->j≠i/\ow j=some a:=λj a e=>by
  unfold ow0 at e;split at e
  ·cases e
  ·rename_i n;exact⟨n,e⟩
 have sm:a30 (hw ow (hz zA H)) (hw (ow0 ow i) (hz zA H)):=λb o e=>by
  obtain⟨e1,e2⟩:=D60 e;exact i50 e1 λj q=>e2 j (sub j b q).2
 refine⟨by rw[Ä1,Ä1];exact r.len,λj k a h1 h2=>r.inj j k a (sub j a h1).2 (sub k a h2).2,λj a h1=>r.zne j a (sub j a h1).2,λj a h1=>?_,λj s e=>?_,r.ext,r.zok,λj a h1=>r.new j a (sub j a h1).2⟩
 ·obtain⟨n,h2⟩:=sub j a h1;obtain⟨xs,h3⟩:=r.own j a h2;exact⟨xs,by rw[ê (Â3 n)];exact h3⟩
 ·rcases getElem?_set' e with ⟨rfl,e1,hlt⟩ | ⟨n,e1⟩
  ·cases e1;exact⟨v,ð (by rw[← r.len];exact hlt),by unfold ow0;exact if_pos rfl,h.same sm⟩
  ·obtain⟨w,h1,h2⟩:=r.wor j s e1;exact⟨w,by rw[ê (Â3 n)];exact h1,h2.move (by unfold ow0;exact if_neg n) sm λ_ _=>rfl⟩
theorem RW.V62(r:RW K H0 zE zA ow H ρ σ){i:Nat}(h:∃ a,zA=some a/\v=.ref a):RW K H0 zE zA (ow0 ow i) H (ρ.set i (some .z)) (σ.set i (some v)):=by
 have sub:∀ j a,ow0 ow i j=some a->j≠i/\ow j=some a:=λj a e=>by
  unfold ow0 at e;split at e
  ·cases e
  ·rename_i n;exact⟨n,e⟩
 have sm:a30 (hw ow (hz zA H)) (hw (ow0 ow i) (hz zA H)):=λb o e=>by
  obtain⟨e1,e2⟩:=D60 e;exact i50 e1 λj q=>e2 j (sub j b q).2
 refine⟨by rw[Ä1,Ä1];exact r.len,λj k a h1 h2=>r.inj j k a (sub j a h1).2 (sub k a h2).2,λj a h1=>r.zne j a (sub j a h1).2,λj a h1=>?_,λj s e=>?_,r.ext,r.zok,λj a h1=>r.new j a (sub j a h1).2⟩
 ·obtain⟨n,h2⟩:=sub j a h1;obtain⟨xs,h3⟩:=r.own j a h2;exact⟨xs,by rw[ê (Â3 n)];exact h3⟩
 ·rcases getElem?_set' e with ⟨rfl,e1,hlt⟩ | ⟨n,e1⟩
  ·cases e1;exact⟨v,ð (by rw[← r.len];exact hlt),by unfold ow0;exact if_pos rfl,h⟩
  ·obtain⟨w,h1,h2⟩:=r.wor j s e1;exact⟨w,by rw[ê (Â3 n)];exact h1,h2.move (by unfold ow0;exact if_neg n) sm λ_ _=>rfl⟩
theorem RW.V72(r:RW K H0 zE zA ow H ρ σ){i:Nat}(x:Ext zA H H')(hn:H a=none)(za:zA≠some a)(hl:H' a=some (.lst ys))(h:HdA K (hw (ow1 ow i a) (hz zA H')) xs ys)(hi:i < ρ.length) :
  RW K H0 zE zA (ow1 ow i a) H' (ρ.set i (some (.fr xs))) (σ.set i (some (.ref a))):=by
 have r':=r.mono x;have old:∀ j b,ow j=some b->b≠a:=λj b e q=>by
  obtain⟨zs,h1⟩:=r.lst j b e;rw[q,hn] at h1;cases h1
 have sub:∀ j b,ow1 ow i a j=some b->(j=i/\b=a)∨(j≠i/\ow j=some b):=λj b e=>by
  unfold ow1 at e;split at e
  ·rename_i n;cases e;exact .inl ⟨n,rfl⟩
  ·rename_i n;exact .inr ⟨n,e⟩
 have sm:a30 (hw ow (hz zA H)) (hw (ow1 ow i a) (hz zA H')):=λb o e=>by
  obtain⟨e1,e2⟩:=D60 e;have e3:=(q40 e1).1;have hb:b≠a:=λq=>by rw[q,hn] at e3;cases e3
  refine i50 (x b o e1) λj q=>?_;rcases sub j b q with ⟨_,q⟩ | ⟨_,q⟩
  ·exact hb q
  ·exact e2 j q
 refine⟨by rw[Ä1,Ä1];exact r.len,λj k b h1 h2=>?_,λj b h1=>?_,λj b h1=>?_,λj s e=>?_,r'.ext,r.zok,λj b h1=>?_⟩
 ·rcases sub j b h1 with ⟨q1,q2⟩ | ⟨q1,q2⟩
  ·rcases sub k b h2 with ⟨p1,p2⟩ | ⟨p1,p2⟩
   ·rw[q1,p1]
   ·exact absurd q2 (old k b p2)
  ·rcases sub k b h2 with ⟨p1,p2⟩ | ⟨p1,p2⟩
   ·exact absurd p2 (old j b q2)
   ·exact r.inj j k b q2 p2
 ·rcases sub j b h1 with ⟨_,q2⟩ | ⟨_,q2⟩
  ·rw[q2];exact za
  ·exact r.zne j b q2
 ·rcases sub j b h1 with ⟨q1,q2⟩ | ⟨q1,q2⟩
  ·rw[q1];exact⟨xs,ð hi⟩
  ·obtain⟨zs,h3⟩:=r.own j b q2;exact⟨zs,by rw[ê (Â3 q1)];exact h3⟩
 ·rcases getElem?_set' e with ⟨rfl,e1,hlt⟩ | ⟨n,e1⟩
  ·cases e1;exact⟨.ref a,ð (by rw[← r.len];exact hlt),a,ys,by unfold ow1;exact if_pos rfl,rfl,hl,h⟩
  ·obtain⟨w,h1,h2⟩:=r.wor j s e1;refine⟨w,by rw[ê (Â3 n)];exact h1,h2.move (by unfold ow1;exact if_neg n) sm λb q=>?_⟩
   obtain⟨zs,k⟩:=r.lst j b q;rw[k];exact x.at k (r.zne j b q)
 ·rcases sub j b h1 with ⟨_,q2⟩ | ⟨_,q2⟩
  ·rw[q2];exact(r.young hn za).1
  ·exact r.new j b q2
theorem RW.upd(r:RW K H0 zE zA ow H ρ σ){i:Nat}(e:ow i=some a)(h:HdA K (hw ow (hz zA H)) xs ys):RW K H0 zE zA ow (upd H a (.lst ys)) (ρ.set i (some (.fr xs))) σ:=by
 have za:=r.zne i a e;have sm:a30 (hw ow (hz zA H)) (hw ow (hz zA (L2.upd H a (.lst ys)))):=λb o q=>by
  obtain⟨e1,e2⟩:=D60 q;obtain⟨e3,e4⟩:=q40 e1;have hb:b≠a:=λz=>e2 i (by rw[z];exact e)
  exact i50 (d90 (by rw[a60 hb];exact e3) e4 (r00 e1)) e2
 obtain⟨xs0,h0⟩:=r.own i a e;have hi:i < ρ.length:=(ß.mp h0).1;obtain⟨v0,s0,a0,ys0,q1,q2,q3,q4⟩:=r.wor i _ h0;rw[e] at q1;cases q1;refine⟨by rw[Ä1];exact r.len,r.inj,r.zne,λj b h1=>?_,λj s q=>?_,⟨λb o q=>?_,λb ps q=>?_⟩,r.zok,r.new⟩
 ·by_cases hj:j=i
  ·subst hj;exact⟨xs,ð hi⟩
  ·obtain⟨zs,h3⟩:=r.own j b h1;exact⟨zs,by rw[ê (Â3 hj)];exact h3⟩
 ·rcases getElem?_set' q with ⟨rfl,e1,hlt⟩ | ⟨n,e1⟩
  ·cases e1;exact⟨v0,s0,a,ys,e,q2,b20,h.same sm⟩
  ·obtain⟨w,h1,h2⟩:=r.wor j s e1;refine⟨w,h1,h2.move rfl sm λb q=>?_⟩;have hb:b≠a:=λz=>n (r.inj j i b q (by rw[z];exact e))
   exact a60 hb
 ·obtain⟨e1,e2⟩:=q40 (r.ext b o q);have hb:b≠a:=λz=>by
   have:=(q40 q).1;rw[z,r.new i a e] at this;cases this
  exact d90 (by rw[a60 hb];exact e1) e2 (r00 q)
 ·obtain⟨qs,e1⟩:=r.ext.tbl b ps q;have hb:b≠a:=λz=>by rw[z,q3] at e1;cases e1
  exact⟨qs,by rw[a60 hb];exact e1⟩
end
end Q
namespace Q
open PySem L2 PySem.Spec PyProof.Rows
variable [TB:Tb]
def A32:Option Ç->Z->Z
 |none,_=>none|some _,z=>z
def r90(K:Â)(G:Gs)(E:XK)(H0:Hp)(zE:Option Ç)(B:Hp)(D:Ends):R O->Prop
 |.ok (.nx ρ) z=>∀ zA ow σ H,RW K H0 zE zA ow H ρ σ->e30 zA z H->a30 B (hw ow (hz zA H))->D.nx σ H|.ok (.rt s) z=>∀ v H,s≠.z->Ext zE H0 H->e30 zE (A32 zE z) H->RvS K zE H0 H s v->D.rt v H|.er c z=>∀ e H,Ext zE H0 H->e30 zE (A32 zE z) H->H e=none->E (.ref (G.cls c)) (some e) H
def tX(K:Â)(G:Gs)(E:XK)(H0:Hp)(zE:Option Ç)(x:Sm):TS:=λD σ H=>∃ zA ow ρ z r,RW K H0 zE zA ow H ρ σ/\e30 zA z H/\ex G.F zE.isNone x ρ z=some r/\r90 K G E H0 zE (hw ow (hz zA H)) D r
section
variable {K:Â}{G:Gs}{E:XK}{H0 H H':Hp}{zE zA:Option Ç}{ow:Nat->Option Ç}{ρ:Env}{σ:L2.St}{Dn:Ends}{z:Z}
theorem k32(zok:zA=zE∨(zE=none/\∀ a,zA=some a->H0 a=none))(st:e30 zA z H):e30 zE (A32 zE z) H:=by
 cases zE with
 |none=>exact⟨trivial,st.tab⟩
 |some a =>
  rcases zok with rfl | ⟨h,_⟩
  ·exact st
  ·cases h
theorem r90.er_(po:r90 K G E H0 zE B Dn (.er c z))(r:RW K H0 zE zA ow H ρ σ):EPost G zA E c z H:=λe H' x st n=>po e H' (z51 r.ext r.zok x) (k32 r.zok st) n
theorem r90.ers(po:r90 K G E H0 zE B Dn rr)(r:RW K H0 zE zA ow H ρ σ):∀ c z1,rr=.er c z1->EPost G zA E c z1 H:=λc z1 e=>by subst e;exact po.er_ r
theorem r90.mono(po:r90 K G E H0 zE B Dn rr)(h:a30 B B'):r90 K G E H0 zE B' Dn rr:=by
 match rr,po with
 |.ok (.nx _) _,po=>exact λzA ow σ H r st sm=>po zA ow σ H r st (a30.trans h sm)|.ok (.rt _) _,po=>exact po|.er _ _,po=>exact po
theorem A30(ow:Nat->Option Ç)(i:Nat):a30 (hw ow H) (hw (ow0 ow i) H):=λb o e=>by
 obtain⟨e1,e2⟩:=D60 e;refine i50 e1 λj q=>?_;unfold ow0 at q;split at q
 ·cases q
 ·exact e2 j q
theorem D70(ow:Nat->Option Ç):a30 (hw ow H) (hw (λ_=>none) H):=λb o e=>i50 (D60 e).1 λj q=>nomatch q
theorem O71(x:Ext zA H H')(hn:H a=none)(i:Nat):a30 (hw ow (hz zA H)) (hw (ow1 ow i a) (hz zA H')):=λb o e=>by
 obtain⟨e1,e2⟩:=D60 e;have e3:=(q40 e1).1;have hb:b≠a:=λq=>by rw[q,hn] at e3;cases e3
 refine i50 (x b o e1) λj q=>?_;unfold ow1 at q;split at q
 ·cases q;exact hb rfl
 ·exact e2 j q
theorem z61(e:ow i=some a):a30 (hw ow (hz zA H)) (hw ow (hz zA (upd H a o))):=λb u q=>by
 obtain⟨e1,e2⟩:=D60 q;obtain⟨e3,e4⟩:=q40 e1;have hb:b≠a:=λw=>e2 i (by rw[w];exact e)
 exact i50 (d90 (by rw[a60 hb];exact e3) e4 (r00 e1)) e2
mutual
theorem O81:∀ {p:Pat}{d:D}{ρ ρ':Env},f10 p d ρ=some ρ'->∀ {ow:Nat->Option Ç}{σ:L2.St}{v:V}{R:L2.St->Hp->Prop},RW K H0 zE zA ow H ρ σ->Hd K (hw ow (hz zA H)) d v ->
  (∀ ow' σ',RW K H0 zE zA ow' H ρ' σ'->a30 (hw ow (hz zA H)) (hw ow' (hz zA H))->R σ' H)->gP K p v σ H R
 |.v i,d,ρ,ρ',e,ow,σ,v,R,r,hd,k=>by
  unfold f10 at e;cases e;unfold gP;exact k _ _ (r.V52 hd) (A30 ow i)
 |.tup ps,d,ρ,ρ',e,ow,σ,v,R,r,hd,k=>by
  unfold f10 at e;cases d with
  |tup l =>
   obtain⟨a,xs,rfl,h1,h2⟩:=hd.z60;unfold gP;exact⟨a,xs,rfl,(a10 zA H).sqT (a30.sqT k40 h1),by rw[h2.length];exact D50 e,z71 e r h2 k⟩
  |_=>cases e
 |.nil,_,_,_,e,_,_,_,_,_,_,_=>by unfold f10 at e;cases e
 |.cons _ _,_,_,_,e,_,_,_,_,_,_,_=>by unfold f10 at e;cases e
theorem z71:∀ {r:Pat}{l:List D}{ρ ρ':Env},bindL r l ρ=some ρ'->∀ {ow:Nat->Option Ç}{σ:L2.St}{vs:List V}{R:L2.St->Hp->Prop},RW K H0 zE zA ow H ρ σ->HdA K (hw ow (hz zA H)) l vs ->
  (∀ ow' σ',RW K H0 zE zA ow' H ρ' σ'->a30 (hw ow (hz zA H)) (hw ow' (hz zA H))->R σ' H)->gL K r vs σ H R
 |.nil,l,ρ,ρ',e,ow,σ,vs,R,r,hd,k=>by
  unfold bindL at e;cases l with
  |nil =>
   cases e;unfold gL;exact⟨hd.f50,k ow σ r (a30.refl _)⟩
  |cons x l=>cases e
 |.cons p q,l,ρ,ρ',e,ow,σ,vs,R,r,hd,k=>by
  unfold bindL at e;cases l with
  |nil=>cases e
  |cons x l =>
   obtain⟨ρ1,e1,e2⟩:=Ò.mp e;obtain⟨v,ws,rfl,h1,h2⟩:=hd.c60;unfold gL;exact⟨v,ws,rfl,O81 e1 r h1 λow' σ' r' sm=>z71 e2 r' (h2.same sm) λow2 σ2 r2 sm2=>k ow2 σ2 r2 (a30.trans sm sm2)⟩
 |.v _,_,_,_,e,_,_,_,_,_,_,_=>by unfold bindL at e;cases e
 |.tup _,_,_,_,e,_,_,_,_,_,_,_=>by unfold bindL at e;cases e
end
theorem z81(r:RW K H0 zE zA ow H ρ σ)(s:S):∃ ow',RW K H0 zE zA ow' H (k90 s ρ) σ/\a30 (hw ow (hz zA H)) (hw ow' (hz zA H))/\(S40 s=true∨∀ i,ow' i=none):=by
 unfold k90;rw[S60];cases hb:S40 s with
 |true=>exact⟨ow,r,a30.refl _,.inl rfl⟩|false=>exact⟨_,r.Z80,D70 ow,.inr λ_=>rfl⟩
theorem O91{p:Pat}{s:S}{v:V}{ρ':Env}{R:L2.St->Hp->Prop}(r:RW K H0 zE zA ow H ρ σ)(x:Ext zA H H')(rv:RvS K zA H H' s v)(e:S70 p s (k90 s ρ)=some ρ')
  (k:∀ ow' σ',RW K H0 zE zA ow' H' ρ' σ'->a30 (hw ow (hz zA H)) (hw ow' (hz zA H'))->R σ' H'):gP K p v σ H' R:=by
 obtain⟨owk,r1,s1,b1⟩:=z81 r s;have r2:=r1.mono x;have s2:a30 (hw ow (hz zA H)) (hw owk (hz zA H')):=a30.trans s1 (e00 x);cases s with
 |d y =>
  have e':f10 p y (k90 (.d y) ρ)=some ρ':=by cases p <;> exact e
  refine O81 e' r2 ?_ λow' σ' r3 s3=>k ow' σ' r3 (a30.trans s2 s3);rcases b1 with b1 | b1
  ·exact M60 r2.f62 b1 rv
  ·have:owk=λ_=>none:=funext b1;subst this;rw[w50];exact rv
 |z =>
  cases p with
  |v i =>
   simp only[S70] at e;split at e
   ·cases e;unfold gP;exact k _ _ (r2.V62 rv) (a30.trans s2 (A30 owk i))
   ·cases e
  |_=>cases e
 |fr xs =>
  cases p with
  |v i =>
   simp only[S70] at e;split at e
   ·rename_i hi;cases e;unfold gP;obtain⟨a,ys,rfl,h1,h2,h3,h4⟩:=rv;refine k _ _ (r1.V72 x h1 h2 h3 ?_ hi) (a30.trans s1 (O71 x h1 i));rcases b1 with b1 | b1
    ·refine A20 (λj b q=>?_) b1 (h4.same (f00 a _));unfold ow1 at q;split at q
     ·cases q;exact⟨ys,d90 h3 h2⟩
     ·exact r2.f62 j b q
    ·refine h4.same λb o q=>?_;have hb:b≠a:=λw=>by subst w;unfold hide at q;rw[if_pos rfl] at q;cases q
     refine i50 (f00 a _ b o q) λj w=>?_;unfold ow1 at w;split at w
     ·cases w;exact hb rfl
     ·rw[b1 j] at w;cases w
   ·cases e
  |_=>cases e
end
end Q
namespace Q
open PySem L2 PySem.Spec PyProof.Rows
variable [TB:Tb]
theorem f72(h:l00 v=false):Ä6 [tg] v env=pure none:=by
 cases tg <;> first | rfl | (cases v <;> first | (cases h;done) | rfl)
theorem f82(h:vs.all (Û6 8)=true):Ä6 [.Tuple ts k p] (.Tuple vs k' p') env=pure none:=by
 unfold Ä6;simp only[h,if_true];split
 ·rfl
 ·split
  ·rfl
  ·split
   ·rfl
   ·rfl
def z91(look:Str->Option Ë3):Ï->Bool
 |.Name id _=>look id != some .local|_=>true
theorem f92(h:ts.any (z91 env.kindOf)=true):Ä6 [.Tuple ts k p] (.Tuple vs k' p') env=pure none:=by
 have hl:∀ (l:Nat) (ts:List Ï),ts.any (z91 env.kindOf)=true->(ts.filterMap fun
   |.Name id pos=>if env.kindOf id == some .local&&pos.line == l then some id else none
   |_=>none).length < ts.length:=by
  intro l ts
  induction ts with
  |nil=>intro h;cases h
  |cons e r ih =>
   intro h;have le:=List.length_filterMap_le (fun
    |.Name id pos=>if env.kindOf id == some .local&&pos.line == l then some id else none
    |_=>none:Ï->Option Str) r
   rw[List.any_cons,Å6] at h;rw[Á3];split
   ·rw[Û];omega
   ·rename_i b hb;rcases h with h | h
    ·exfalso;cases e with
     |Name id pos =>
      have h':(env.kindOf id != some .local)=true:=h;simp only[bne_iff_ne,ne_eq] at h';simp[h'] at hb
     |_=>cases hb
    ·have:=ih h;rw[Û,Û];omega
 unfold Ä6;dsimp only;split
 ·rfl
 ·split
  ·rfl
  ·have:=hl ((ts.head?.map (·.pos.line)).getD 0) ts h;rw[if_pos];simp only[Å6,bne_iff_ne,ne_eq];exact .inl (Ø this)
theorem u82{x y:Str}{a b:Ï}{px py pt pt2:Pos}{k k2:Nat}{env:È6}(hb:env.blockKind=.function)(hx:env.kindOf x=some .local)(hy:env.kindOf y=some .local)(hxy:(x == y)=false)(hl:(py.line == px.line)=true)
  (ha:noStar a=true) (hb':noStar b=true) (hf:[a,b].all (Û6 8)=false) (hc:[a,b].all (constantsAlone 8)=false) :
  Ä6 [.Tuple [.Name x px,.Name y py] k pt] (.Tuple [a,b] k2 pt2) env=pure (some [x,y]):=by
 have hbk:(env.blockKind != .function)=false:=by rw[hb];rfl
 have e1:(x == x)=true:=beq_self_eq_true x;have hyx:(y == x)=false:=by
  cases h:y == x with
  |false=>rfl|true=>rw[beq_iff_eq] at h;subst h;rw[e1] at hxy;cases hxy
 have hl2:(Ï.Name x px).pos.line=px.line:=rfl;have hl3:(Ï.Name y py).pos.line=py.line:=rfl;have hl':py.line=px.line:=by simpa using hl
 unfold Ä6;simp only[List.filterMap,List.head?,Î3,Option.getD,hx,hy,hf,hc,hbk,hl2,hl'];simp[List.eraseDups,List.eraseDupsBy,List.eraseDupsBy.loop,hyx,hxy];intro h;rcases h with h | h
 ·cases a <;> first | (cases h;done) | (cases ha;done)
 ·cases b <;> first | (cases h;done) | (cases hb';done)
def U20:Ï->Bool
 |.ListComp ..=>false|.SetComp ..=>false|.DictComp ..=>false|_=>true
theorem A40(h:U20 v=true)(t:Option Ï):Ô8 v t n env=pure false:=by
 cases v <;> first | rfl | (cases h;done)
theorem U30(h:(match tg with | .Name ..=>true | _=>false)=false):Ô8 v (some tg) n env=pure false:=by
 cases v <;> first | rfl | (cases tg <;> first | rfl | (cases h;done))
theorem P01{el:Ï}{gs:List Comprehension}{sc:ý}{p px:Pos}{t:Str}{n:Nat}{env:È6}:∃ b,Ô8 (.ListComp el gs sc p) (some (.Name t px)) n env=pure b:=⟨_,rfl⟩
structure XS(lm:Bool)(X:Cx)(G:Gs)(E:XK)(N:List Str)(sc:Scope)(cn:List Str):Prop extends XI lm X G E N sc where
 sco:X.env.scope=sc
 fnk:sc.kind=.function
 own:PassesOwn (model X.prog X.w) X.A X.env X.xe
 can:L00 X E
 fnx:∀ x,X.fn x=true
 cls:∀ c x,cn[c]?=some x->X.mg x=some (.ref (G.cls c))/\PySem.W.excIn X.K (G.cls c) [.type "ValueError",.type "Exception",.type "BaseException",.type "object"] "ValueError.__new__"=true
def U40(sc:ý)(x:Str):Bool:=sc.names.lookup x == some .local || sc.names.lookup x == some .cell
section
variable {lm:Bool}{X:Cx}{G:Gs}{E:XK}{N:List Str}{sc:ý}{cn:List Str}{H0:Hp}{zE:Option Ç}
theorem XS.loc(x:XS lm X G E N sc cn):O11 X N (U40 sc):=by
 refine⟨x.hN,x.nd,λy h=>?_,λy _=>.inl (x.fnx y),x.calm⟩;unfold U40 at h;rw[Å6,beq_iff_eq,beq_iff_eq] at h;rw[x.sco];exact h
theorem XS.bk(x:XS lm X G E N sc cn):X.env.blockKind=.function:=by
 unfold Env.blockKind;rw[x.sco,x.fnk];rfl
theorem PS.imp{st:Ä8}{t t':TS}(h:PS X st t)(i:∀ D σ H,t' D σ H->t D σ H):PS X st t':=λpins s σ H D I q=>h pins s σ H D I (i _ _ _ q)
theorem PSs.imp{st:List Ä8}{t t':TS}(h:PSs X st t)(i:∀ D σ H,t' D σ H->t D σ H):PSs X st t':=λpins s σ H D I q=>h pins s σ H D I (i _ _ _ q)
theorem J62:PSs X [] (tX X.K G E H0 zE .nil):=PSs.imp q11 λD σ H q=>by
 obtain⟨zA,ow,ρ,z,r,rw,st,e,po⟩:=q;cases e;exact po zA ow σ H rw st (a30.refl _)
theorem J72{s r:Sm}{st:Ä8}{rest:List Ä8}(h1:PS X st (tX X.K G E H0 zE s))(h2:PSs X rest (tX X.K G E H0 zE r)):PSs X (st::rest) (tX X.K G E H0 zE (.seq s r)):=PSs.imp (j40 h1 h2) λD σ H q=>by
 obtain⟨zA,ow,ρ,z,rr,rw,st,e,po⟩:=q;have e0:M.bind (ex G.F zE.isNone s ρ) (λo=>match o with | .nx ρ=>ex G.F zE.isNone r ρ | .rt s=>M.ret (.rt s)) z=some rr:=e
 rcases M.bind_some e0 with ⟨o,z1,e1,e2⟩ | ⟨c,z1,e1,e2⟩
 ·refine⟨zA,ow,ρ,z,_,rw,st,e1,?_⟩;cases o with
  |nx ρ1=>exact λzA' ow' σ' H' rw' st' sm=>⟨zA',ow',ρ1,z1,rr,rw',st',e2,po.mono sm⟩|rt s=>cases e2;exact po
 ·subst e2;exact⟨zA,ow,ρ,z,_,rw,st,e1,po⟩
theorem V01{p:Pat}{e:Ex}{D:Ends}{σ:L2.St}{H:Hp}(q:tX X.K G E H0 zE (.set p e) D σ H):m22 (tI X.K G E e) (gP X.K p) D σ H:=by
 obtain⟨zA,ow,ρ,z,rr,rw,st,ee,po⟩:=q;refine j20 rw.X90 st ee (po.ers rw) λl z1 e1=>?_;obtain⟨s,hs,e2⟩:=M.a20 e1;refine⟨s,D30 hs,λv H1 x1 st1 rv=>?_⟩;obtain⟨ρ',hb,e3⟩:=M.a20 e2;cases e3;exact O91 rw x1 rv hb λow' σ' r' sm=>po zA ow' σ' H1 r' st1 sm
theorem V82{K:Â}{i:Nat}:gP K (.v i)=Y00 i:=by unfold gP;rfl
theorem J82(x:XS lm X G E N sc cn){i:Nat}{e:Ex}{y:Str}{v:Ï}{px pos:Pos}(hi:N[i]?=some y)(hl:U40 sc y=true)(g:b10 X G E e v)
  (hc:∀ elt gs csc q,v=.ListComp elt gs csc q->∃ tg Ä0 ifs,gs=[⟨tg,Ä0,ifs,0⟩]/\H20 X G E e elt tg Ä0 ifs csc) (hno:∀ a b c d,v≠.SetComp a b c d) (hnd:∀ a b c d f,v≠.DictComp a b c d f) :
  PS X (.Assign [.Name y px] v pos) (tX X.K G E H0 zE (.set (.v i) e)):=by
 have L:=x.loc;refine PS.imp (t:=m22 (tI X.K G E e) (Y00 i)) ?_ λD σ H q=>by rw[← V82 (K:=X.K)];exact V01 q
 have h1:X.N.Nodup:=by rw[x.hN];exact x.nd
 have h2:X.N[i]?=some y:=by rw[x.hN];exact hi
 by_cases hv:∃ elt gs csc q,v=.ListComp elt gs csc q
 ·obtain⟨elt,gs,csc,q,rfl⟩:=hv;obtain⟨b,hb⟩:=P01 (el:=elt) (gs:=gs) (sc:=csc) (p:=q) (px:=px) (t:=y) (n:=pos.line) (env:=X.env);cases b with
  |false=>exact x60 h1 h2 (L.lc y hl) g.pe hb (L.fn y hl)
  |true =>
   obtain⟨tg,Ä0,ifs,rfl,own,capt,wi,gg,tt,te,k1,k2,k3,k4,k5,k6,k7⟩:=hc elt gs csc q rfl;refine PS.imp (Z21 h1 h2 (L.lc y hl) hb x.calm k1 k2 k3 k4 k5 k6 (L.fn y hl)) λD σ H q=>k7 _ _ _ q
 ·exact x60 h1 h2 (L.lc y hl) g.pe (A40 (by cases v <;> first | rfl | exact absurd rfl (hno _ _ _ _) | exact absurd rfl (hnd _ _ _ _ _) | exact absurd ⟨_,_,_,_,rfl⟩ hv) _) (L.fn y hl)
theorem A01(x:XS lm X G E N sc cn){p:Pat}{e:Ex}{tg v:Ï}{pos:Pos}(hp:j30 N (U40 sc) p tg=true)(g:b10 X G E e v)(ht:l00 tg=true)(hv:Ä6 [tg] v X.env=pure none) :
  PS X (.Assign [tg] v pos) (tX X.K G E H0 zE (.set p e)):=by
 refine PS.imp (S21 g.pe (x91 x.loc hp) ?_ hv ?_) λD σ H q=>V01 q
 ·exact U30 (by cases tg <;> first | rfl | (cases ht;done))
 ·cases tg <;> first | rfl | (cases ht;done)
theorem J92(x:XS lm X G E N sc cn){i j:Nat}{ea eb:Ex}{a b:Ï}{y w:Str}{px py pt pt2 pos:Pos}{k k2:Nat}(hi:N[i]?=some y)(hj:N[j]?=some w)(hyw:(y == w)=false)(hy:sc.names.lookup y=some .local)(hw':sc.names.lookup w=some .local)
  (g:Good X G E (.cons ea (.cons eb .nil)) [a,b]) (hs:Ä6 [.Tuple [.Name y px,.Name w py] k pt] (.Tuple [a,b] k2 pt2) X.env=pure (some [y,w])) :
  PS X (.Assign [.Tuple [.Name y px,.Name w py] k pt] (.Tuple [a,b] k2 pt2) pos) (tX X.K G E H0 zE (.set (.tup (.cons (.v i) (.cons (.v j) .nil))) (.tup (.cons ea (.cons eb .nil))))):=by
 have hij:i≠j:=λh=>by
  subst h;rw[hi] at hj;cases hj;rw[beq_self_eq_true] at hyw;cases hyw
 refine PS.imp (m32 x.calm (by rw[x.hN];exact x.nd) (by rw[x.hN];exact hi) (by rw[x.hN];exact hj) hij (by rw[x.sco];exact hy) (by rw[x.sco];exact hw') (g.args rfl).1 hs rfl) λD σ H q=>?_
 obtain⟨zA,ow,ρ,z,rr,rw,st,ee,po⟩:=q;have e0:M.bind (M.bind (ev G.F (.cons ea (.cons eb .nil)) ρ) λl=>M.bind (M.of (plA l)) λds=>if ds.length<=most then M.ret [S.d (.tup ds)] else M.no) (λl=>M.bind (M.of (one l)) λs=>M.bind (M.of (S70 (.tup (.cons (.v i) (.cons (.v j) .nil))) s (k90 s ρ))) λρ=>M.ret (O.nx ρ)) z=some rr:=ee;rcases M.bind_some e0 with ⟨l0,z0,e1,e2⟩ | ⟨c,z1,e1,e2⟩
 ·rcases M.bind_some e1 with ⟨l,z1,e3,e4⟩ | ⟨c,z1,e3,e4⟩
  ·obtain⟨ds,hds,e5⟩:=M.a20 e4;split at e5
   ·cases e5;obtain⟨s,hs',e6⟩:=M.a20 e2;cases hs';obtain⟨ρ',hb,e7⟩:=M.a20 e6;cases e7;refine⟨zA,ρ,z,_,rw.X90,st,e3,λvs H1 x1 st1 rvs=>?_⟩;have hd:=G20 rvs hds;obtain⟨owk,r1,s1,b1⟩:=z81 rw (.d (.tup ds));have hb':bindL (.cons (.v i) (.cons (.v j) .nil)) ds (k90 (.d (.tup ds)) ρ)=some ρ':=by
     have:f10 (.tup (.cons (.v i) (.cons (.v j) .nil))) (.tup ds) (k90 (.d (.tup ds)) ρ)=some ρ':=hb;unfold f10 at this;exact this
    have r2:=r1.mono x1;have hd2:HdA X.K (hw owk (hz zA H1)) ds vs:=by
     rcases b1 with b1 | b1
     ·exact A20 r2.f62 (by simpa [S40,bare] using b1) hd
     ·have:owk=λ_=>none:=funext b1;subst this;rw[w50];exact hd
    have:=z71 hb' (R:=D.nx) r2 hd2 λow' σ' r' sm=>po zA ow' σ' H1 r' st1 (a30.trans s1 (a30.trans (e00 x1) sm));unfold gL at this;obtain⟨v,vr,rfl,this⟩:=this;unfold gP gL at this;obtain⟨u,ur,rfl,this⟩:=this;unfold gP gL at this;obtain⟨rfl,this⟩:=this;exact⟨v,u,rfl,this⟩
   ·cases e5
  ·cases e4
 ·subst e2;rcases M.bind_some e1 with ⟨l,z2,e3,e4⟩ | ⟨c,z2,e3,e4⟩
  ·obtain⟨ds,hds,e5⟩:=M.a20 e4;split at e5 <;> cases e5
  ·cases e4;exact⟨zA,ρ,z,_,rw.X90,st,e3,po.er_ rw⟩
theorem V11{s t:S}(h:noS s=some t):s=t/\t≠.z:=by
 cases s with
 |z=>cases h
 |d _=>cases h;exact⟨rfl,λh=>nomatch h⟩
 |fr _=>cases h;exact⟨rfl,λh=>nomatch h⟩
theorem u92(x:XS lm X G E N sc cn){i:Nat}{n:Str}{p pos:Pos}(h1:N[i]?=some n)(h2:e50 n=true):PS X (.Return (some (.Name n p)) pos) (tX X.K G E H0 zE (.ret (.var i))):=by
 unfold e50 at h2;simp only[Á,À3] at h2;refine PS.imp (d81 (t20 (i:=i) (by rw[x.hN];exact h1) (x.vis n (î h1)) h2.1 h2.2)) λD σ H q=>?_
 obtain⟨zA,ow,ρ,z,rr,rw,st,ee,po⟩:=q;have e0:(match ρ[i]? with | some (some s)=>M.bind (M.of (noS s)) λs=>M.ret (O.rt s) | _=>M.no) z=some rr:=ee
 cases hs:ρ[i]? with
 |none=>rw[hs] at e0;cases e0
 |some o =>
  cases o with
  |none=>rw[hs] at e0;cases e0
  |some s =>
   rw[hs] at e0;obtain⟨t,ht,e1⟩:=M.a20 e0;cases e1;obtain⟨rfl,nz⟩:=V11 ht;obtain⟨v,k1,k2⟩:=rw.V42 nz hs;exact⟨v,k1,po v H nz rw.ext (k32 rw.zok st) k2⟩
theorem K02{e:Ex}{v:Ï}{pos:Pos}(hv:∀ i,e≠.var i)(g:b10 X G E e v):PS X (.Return (some v) pos) (tX X.K G E H0 zE (.ret e)):=by
 refine PS.imp (d81 g.pe) λD σ H q=>?_;obtain⟨zA,ow,ρ,z,rr,rw,st,ee,po⟩:=q;have e0:M.bind (ev G.F e ρ) (λl=>M.bind (M.of ((one l).bind noS)) λs=>M.ret (O.rt s)) z=some rr:=by
  cases e <;> first | exact ee | exact absurd rfl (hv _)
 refine j20 rw.X90 st e0 (po.ers rw) λl z1 e1=>?_;obtain⟨t,ht,e2⟩:=M.a20 e1;cases e2;obtain⟨s,hs,hn⟩:=Ò.mp ht;obtain⟨rfl,nz⟩:=V11 hn;exact⟨s,D30 hs,λv H1 x1 st1 rv=>po v H1 nz (z51 rw.ext rw.zok x1) (k32 rw.zok st1) (rw.out nz x1 rv)⟩
theorem V92{c:Ex}{t u:Sm}{ce:Ï}{a b:List Ä8}{pos:Pos}(g:b10 X G E c ce)(hn:∀ t a b p,ce≠.IfExp t a b p)(ha:PSs X a (tX X.K G E H0 zE t))(hb:PSs X b (tX X.K G E H0 zE u)) :
  PS X (.If ce a b pos) (tX X.K G E H0 zE (.iff c t u)):=by
 refine PS.imp (l72 (g.pt hn) ha hb) λD σ H q=>?_;obtain⟨zA,ow,ρ,z,rr,rw,st,ee,po⟩:=q;refine T50 rw.X90 st ee (po.ers rw) λb z1 e1 H1 x1 st1=>?_;have r1:=rw.mono x1;have sm:a30 (hw ow (hz zA H)) (hw ow (hz zA H1)):=e00 x1;cases b with
 |true=>exact⟨zA,ow,ρ,z1,rr,r1,st1,e1,po.mono sm⟩|false=>exact⟨zA,ow,ρ,z1,rr,r1,st1,e1,po.mono sm⟩
theorem K12{e:Ex}{v:Ï}{pos:Pos}(g:b10 X G E e v)(h:U20 v=true):PS X (.Expr v pos) (tX X.K G E H0 zE (.exp e)):=by
 refine PS.imp (q31 g.pe (A40 h none)) λD σ H q=>?_;obtain⟨zA,ow,ρ,z,rr,rw,st,ee,po⟩:=q;have e0:M.bind (ev G.F e ρ) (λl=>M.bind (M.of (one l)) λ_=>M.ret (O.nx ρ)) z=some rr:=ee;refine j20 rw.X90 st e0 (po.ers rw) λl z1 e1=>?_;obtain⟨s,hs,e2⟩:=M.a20 e1;cases e2;exact⟨s,D30 hs,λv H1 x1 st1 rv=>po zA ow σ H1 (rw.mono x1) st1 (e00 x1)⟩
theorem g02(h:asI d=some i):d=.int i:=by cases d <;> first | (cases h;rfl) | (cases h;done)
theorem x_raise(x:XS lm X G E N sc cn){c:Nat}{n:Str}{y:Str}{k:Nat}{p1 p2 p3 p4:Pos}(hc:cn[c]?=some n)(hg:glob sc n=true):PS X (.Raise (some (.Call (.Name n p1) [.Constant (.str y) k p2] [] p3)) none p4) (tX X.K G E H0 zE (.rais c)):=by
 obtain⟨k1,k2,_⟩:=d50 hg;obtain⟨m1,m2⟩:=x.cls c n hc;refine PS.imp (L01 x.can x.calm (x.glb n k1) m1 m2 (e90 S01 t40) k2 rfl rfl) λD σ H q=>?_;obtain⟨zA,ow,ρ,z,rr,rw,st,ee,po⟩:=q;cases ee;exact⟨by show 1<=Ú;decide,λe hn=>po e H rw.ext (k32 rw.zok st) hn⟩
end
section
variable {K:Â}{H0 H H':Hp}{zE zA:Option Ç}{ow:Nat->Option Ç}{ρ:Env}{σ:L2.St}
theorem g90(e:ow0 ow i j=some a):j≠i/\ow j=some a:=by
 unfold ow0 at e;split at e
 ·cases e
 ·rename_i n;exact⟨n,e⟩
theorem A50:ow0 ow i i=none:=if_pos rfl
theorem A11(h:j≠i):ow0 ow i j=ow j:=if_neg h
theorem P11{ρ:Env}{j:Nat}{s:S}(h:(S30 ρ)[j]?=some (some s)):ρ[j]?=some (some s)/\s≠.z:=by
 unfold S30 at h;rw[Ü] at h;obtain⟨o,e1,e2⟩:=Ë.mp h;cases o with
 |none=>cases e2
 |some t =>
  cases t with
  |z=>cases e2
  |d x=>cases e2;exact⟨e1,λh=>nomatch h⟩
  |fr x=>cases e2;exact⟨e1,λh=>nomatch h⟩
theorem g12{j:Nat}(h:ρ[j]?=some (some (.fr xs))):(S30 ρ)[j]?=some (some (.fr xs)):=by
 unfold S30;rw[Ü,h];rfl
theorem RW.W02(r:RW K H0 none zA ow H ρ σ){i:Nat}(x:Ext zA H H')(hn:H a=none)(za:zA≠some a)(hl:H' a=some (.lst ys)) :
  RW K H0 none (some a) (ow0 ow i) H' ((S30 ρ).set i (some .z)) (σ.set i (some (.ref a)))/\a30 (hw ow (hz zA H)) (hw (ow0 ow i) (hz (some a) H')):=by
 have r':=r.mono x;have old:∀ j b,ow j=some b->b≠a:=λj b e q=>by
  obtain⟨zs,h1⟩:=r.lst j b e;rw[q,hn] at h1;cases h1
 have sm:a30 (hw ow (hz zA H)) (hw (ow0 ow i) (hz (some a) H')):=λb o e=>by
  obtain⟨e1,e2⟩:=D60 e;have hb:b≠a:=λq=>by
   have e3:H b=some o:=(q40 e1).1;rw[q,hn] at e3;cases e3
  exact i50 (d90 (q40 (x b o e1)).1 (λq=>by cases q;exact hb rfl) (r00 e1)) λj q=>e2 j (g90 q).2
 have dl:(S30 ρ).length=ρ.length:=by unfold S30;rw[É]
 refine⟨⟨by rw[Ä1,Ä1,dl];exact r.len,λj k b h1 h2=>r.inj j k b (g90 h1).2 (g90 h2).2,λj b h1 q=>?_,λj b h1=>?_,λj s e=>?_,r'.ext,.inr ⟨rfl,λb q=>?_⟩,λj b h1=>r.new j b (g90 h1).2⟩,sm⟩
 ·cases q;exact old j _ (g90 h1).2 rfl
 ·obtain⟨n,h2⟩:=g90 h1;obtain⟨xs,h3⟩:=r.own j b h2;exact⟨xs,by rw[ê (Â3 n)];exact g12 h3⟩
 ·rcases getElem?_set' e with ⟨rfl,e1,hlt⟩ | ⟨n,e1⟩
  ·cases e1;exact⟨.ref a,ð (by rw[← r.len,← dl];exact hlt),A50,a,rfl,rfl⟩
  ·obtain⟨e1,nz⟩:=P11 e1;obtain⟨w,h1,h2⟩:=r.wor j s e1;refine⟨w,by rw[ê (Â3 n)];exact h1,?_⟩
   cases s with
   |d y=>exact⟨by rw[A11 n];exact h2.1,h2.2.same sm⟩|z=>exact absurd rfl nz
   |fr xs =>
    obtain⟨b,zs,k1,rfl,k3,k4⟩:=h2;exact⟨b,zs,by rw[A11 n];exact k1,rfl,x.at k3 (r.zne j b k1),k4.same sm⟩
 ·cases q;exact(r.young hn za).1
theorem RW.plain(r:RW K H0 zE zA ow H ρ σ)(i:Nat):RW K H0 zE zA (ow0 ow i) H (ρ.set i ((ρ[i]?.getD none).map plS)) σ:=by
 have sm:=A30 (H:=hz zA H) ow i;refine⟨by rw[Ä1];exact r.len,λj k b h1 h2=>r.inj j k b (g90 h1).2 (g90 h2).2,λj b h1=>r.zne j b (g90 h1).2,λj b h1=>?_,λj s e=>?_,r.ext,r.zok,λj b h1=>r.new j b (g90 h1).2⟩
 ·obtain⟨n,h2⟩:=g90 h1;obtain⟨xs,h3⟩:=r.own j b h2;exact⟨xs,by rw[ê (Â3 n)];exact h3⟩
 ·rcases getElem?_set' e with ⟨rfl,e1,hlt⟩ | ⟨n,e1⟩
  ·cases hs:ρ[j]? with
   |none=>rw[hs] at e1;cases e1
   |some o =>
    rw[hs] at e1;cases o with
    |none=>cases e1
    |some s0 =>
     cases e1;obtain⟨w,h1,h2⟩:=r.wor j s0 hs;refine⟨w,h1,?_⟩;cases s0 with
     |d y=>exact⟨A50,h2.2.same sm⟩|z=>exact⟨A50,h2.2⟩
     |fr xs =>
      obtain⟨b,zs,k1,rfl,k3,k4⟩:=h2;refine⟨A50,Hd.lst (i50 (d90 k3 (r.zne j b k1)) λk q=>?_) (k4.same sm)⟩;obtain⟨q1,q2⟩:=g90 q;exact q1 (r.inj k j b q2 k1)
  ·obtain⟨w,h1,h2⟩:=r.wor j s e1;exact⟨w,h1,h2.move (A11 n) sm λ_ _=>rfl⟩
end
theorem HdA.eraseIdx{K:Â}{H:Hp}:∀ {ds:List D}{vs:List V} (n:Nat),HdA K H ds vs->HdA K H (ds.eraseIdx n) (vs.eraseIdx n)
 |[],_,n,h=>by rw[h.f50];exact .nil
 |d::ds,_,0,h=>by
  obtain⟨x,r,rfl,h1,h2⟩:=h.c60;exact h2
 |d::ds,_,n + 1,h=>by
  obtain⟨x,r,rfl,h1,h2⟩:=h.c60;exact .cons h1 (HdA.eraseIdx n h2)
section
variable {lm:Bool}{X:Cx}{G:Gs}{E:XK}{N:List Str}{sc:ý}{cn:List Str}{H0:Hp}{zE:Option Ç}
theorem g22{α β:Type}{R:α->β->Prop}{a:α}{vs:List β}(h:Æ0 R [a] vs):∃ v,vs=[v]/\R a v:=by
 cases h with
 |cons h1 h2=>cases h2;exact⟨_,rfl,h1⟩
theorem e30.a60(st:e30 zA z H)(n:zA≠some a)(h:H a=some (.lst xs)):e30 zA z (upd H a o):=by
 refine⟨?_,λp hp=>Tab.upd (st.tab p hp) h⟩;have st:=st.zat;cases zA with
 |none=>cases z <;> exact st
 |some b =>
  cases z with
  |none=>exact st
  |some p =>
   have hb:b≠a:=λq=>n (by rw[q])
   exact(L2.a60 hb).trans st
theorem V21(h:ownAt ρ i=some xs):ρ[i]?=some (some (.fr xs)):=by
 unfold ownAt at h;split at h
 ·rename_i h1;cases h;exact h1
 ·cases h
theorem P21{K:Â}{zA:Option Ç}{H0 H:Hp}{s:S}{v:V}{x:D}(h:RvS K zA H0 H s v)(e:plD s=some x):Hd K (hz zA H) x v:=h.pl.d_ e
theorem K22(x:XS lm X G E N sc cn){i:Nat}{n:Str}{e:Ex}{v:Ï}{p apos cpos pos:Pos}(h1:N[i]?=some n)(h2:e50 n=true)(ns:noStar v=true)(g:b10 X G E e v)(hl:(apos.endLine == cpos.line)=true) :
  PS X (.Expr (.Call (.Attribute (.Name n p) "append" apos) [v] [] cpos) pos) (tX X.K G E H0 zE (.app i e)):=by
 unfold e50 at h2;simp only[Á,À3] at h2;have ga:Good X G E (.cons e .nil) [v]:=⟨v,[],rfl,ns,g,rfl,rfl⟩;have hs:=c90 ns [] X.env;refine PS.imp (q31 (D82 PySem.F.plainAttrs_list PySem.F.slot_list_append PySem.F.type_list_append r41 (t20 (i:=i) (by rw[x.hN];exact h1) (x.vis n (î h1)) h2.1 h2.2) (ga.args rfl).1 rfl (by rw[hs];rfl) hl hs rfl) (A40 rfl none)) λD σ H q=>?_
 obtain⟨zA,ow,ρ,z,rr,rw,st,ee,po⟩:=q;obtain⟨xs,hx,e1⟩:=M.a20 ee;have ho:=V21 hx;obtain⟨w,k1,a,ys,k2,rfl,k3,k4⟩:=rw.wor i _ ho;refine⟨_,k1,.inl ⟨rfl,ys,SqL.of k3⟩,?_⟩;have e2:M.bind (ev G.F (.cons e .nil) ρ) (λm=>M.bind (M.of (pl m)) λx=>if bare x=true/\xs.length < most then M.ret (O.nx (ρ.set i (some (.fr (xs++[x]))))) else M.no) z=some rr∨∃ c z1,ev G.F e ρ z=some (.er c z1)/\rr=.er c z1:=by
  rcases M.bind_some e1 with ⟨l,z1,e3,e4⟩ | ⟨c,z1,e3,e4⟩
  ·obtain⟨y,hy,e5⟩:=M.a20 e4;obtain⟨s,rfl,hs⟩:=f80 hy;refine .inl ?_;show M.bind (M.bind (ev G.F e ρ) λx=>M.bind (M.of (one x)) λs=>M.bind (ev G.F .nil ρ) λy=>M.ret (s::y)) _ z=some rr;simp only[M.bind,e3,M.of,one,M.ret,ev,hy];exact e5
  ·exact .inr ⟨c,z1,e3,e4⟩
 rcases e2 with e2 | ⟨c,z1,e3,rfl⟩
 ·refine a81 rw.X90 st e2 (po.ers rw) λl z1 e3 vs H1 x1 st1 rvs=>?_;obtain⟨y,hy,e5⟩:=M.a20 e3;obtain⟨s,rfl,hs⟩:=f80 hy;split at e5
  ·rename_i hb;cases e5;obtain⟨u,rfl,ru⟩:=g22 rvs;have r1:=rw.mono x1;have k3':=x1.at k3 (rw.zne i a k2);have k4':HdA X.K (hw ow (hz zA H1)) xs ys:=k4.same (e00 x1);have hd:=M60 r1.f62 hb.1 (P21 ru hs);refine⟨a,ys,u,rfl,rfl,k3',Þ (by rw[k4.length];exact hb.2) (g80 (Í _)),?_⟩
   refine po zA ow σ _ (r1.upd k2 (k4'.append (.cons hd .nil))) ?_ (a30.trans (e00 x1) (z61 k2));exact st1.a60 (rw.zne i a k2) k3'
  ·cases e5
 ·refine⟨zA,ρ,z,.er c z1,rw.X90,st,?_,po.er_ rw⟩;show M.bind (ev G.F e ρ) _ z=_;simp only[M.bind,e3]
theorem P31:N02 X (D62 X.K):=by
 intro pins s σ H x y v u Q I rx ry h;obtain⟨p,xs,i,z,rfl,rfl,hq,he,q⟩:=h;cases rx;obtain⟨t,rfl⟩:=ry;obtain⟨its,r,pl,hz⟩:=I.list hq;obtain⟨j,h1,h2,h3,h4,h5⟩:=Y30 he;obtain⟨w,ew,rw'⟩:=r.get h2;have hl:=r.length;have hn:=Q00;by_cases h0:0<=i
 ·have hj:i.toNat=j:=by
   rw[à0 h0 h5] at h1;exact À6 h1
  exact wpAny_getItem_list pl.isList h0 ∅ (by rw[hj];simpa using ew) ⟨z,H,I,rw',q⟩
 ·have hj:(i + (its.toArray.size:Int)).toNat=j:=by
   rw[seqIndex_neg ∅ h4] at h1
   rw[Ó,← hl];exact À6 h1
  exact wpAny_getItem_list_neg pl.isList ∅ (by rw[Ó] <;> omega) ∅ (by rw[hj];simpa using ew) ⟨z,H,I,rw',q⟩
theorem v02(x:XS lm X G E N sc cn){i:Nat}{n:Str}{e ix:Ex}{v w:Ï}{p tp pos:Pos}(h1:N[i]?=some n)(h2:e50 n=true)(g:b10 X G E e v)(gi:b10 X G E ix w)(hw':D40 w=true) :
  PS X (.AugAssign (.Subscript (.Name n p) w tp) .Add v pos) (tX X.K G E H0 zE (.augi i ix e)):=by
 unfold e50 at h2;simp only[Á,À3] at h2;refine PS.imp (X61 (t20 (i:=i) (by rw[x.hN];exact h1) (x.vis n (î h1)) h2.1 h2.2) gi.pe P31 g.pe m42 set_list (by intros;cases w <;> first | rfl | (cases hw';done))) λD σ H q=>?_
 obtain⟨zA,ow,ρ,z,rr,rw,st,ee,po⟩:=q;obtain⟨xs,hx,e1⟩:=M.a20 ee;obtain⟨w',k1,a,ys,k2,rfl,k3,k4⟩:=rw.wor i _ (V21 hx);refine⟨_,k1,?_⟩;refine j20 rw.X90 st e1 (po.ers rw) λl z1 e2=>?_;obtain⟨j,hj,e3⟩:=M.a20 e2;obtain⟨dj,hj1,hj2⟩:=Ò.mp hj;obtain⟨s1,rfl,hs1⟩:=f80 hj1;refine⟨s1,rfl,λu1 H1 x1 st1 rv1=>?_⟩;have hdj:u1=.int j:=by
  have:=P21 rv1 hs1;cases g02 hj2;exact this.j00
 obtain⟨y,hy,e4⟩:=M.a20 e3;have r1:=rw.mono x1;have k3':=x1.at k3 (rw.zne i a k2);have k4a:HdA X.K (hw ow (hz zA H1)) xs ys:=k4.same (e00 x1);obtain⟨b,hb1,hb2⟩:=at_of k4a hy;refine⟨a,ys,j,b,rfl,hdj,SqL.of k3',hb1,?_⟩;refine j20 r1.X90 st1 e4 (po.ers r1) λl2 z2 e5=>?_;obtain⟨dx,hx',e6⟩:=M.a20 e5;obtain⟨s2,rfl,hs2⟩:=f80 hx';refine⟨s2,rfl,λu2 H2 x2 st2 rv2=>?_⟩;obtain⟨nv,hv,e7⟩:=M.a20 e6;obtain⟨xi,hxi,hv⟩:=Ò.mp hv;obtain⟨yi,hyi,rfl⟩:=Ë.mp hv;cases g02 hxi;cases g02 hyi;refine⟨yi,xi,hb2.j00,(P21 rv2 hs2).j00,?_⟩;obtain⟨xs2,hx2,e8⟩:=M.a20 e7;cases e8;unfold G90 at hx2;obtain⟨m,hm1,rfl⟩:=Ë.mp hx2;have r2:=r1.mono x2;have k4':HdA X.K (hw ow (hz zA H2)) xs ys:=k4.same (e00 (x1.trans x2));refine⟨a,ys,j,m,rfl,hdj,x2.at k3' (rw.zne i a k2),by rw[k4.length];exact hm1,?_⟩
 exact po zA ow σ _ (r2.upd k2 (k4'.set m Hd.int)) (st2.a60 (rw.zne i a k2) (x2.at k3' (rw.zne i a k2))) (a30.trans (e00 (x1.trans x2)) (z61 k2))
theorem v12(x:XS lm X G E N sc cn){i f:Nat}{as:Ex}{y:Str}{v:Ï}{px pos:Pos}(hi:N[i]?=some y)(hl:U40 sc y=true)(g:b10 X G E (.call f as) v)(hv:U20 v=true) :
  PS X (.Assign [.Name y px] v pos) (tX X.K G E H0 zE (.newz i f as)):=by
 have L:=x.loc;refine PS.imp (x60 (i:=i) (by rw[x.hN];exact x.nd) (by rw[x.hN];exact hi) (L.lc y hl) g.pe (A40 hv _) (L.fn y hl)) λD σ H q=>?_
 obtain⟨zA,ow,ρ,z,rr,rw,st,ee,po⟩:=q;refine j20 rw.X90 st ee (po.ers rw) λl z1 e1=>?_;have e2:v81 zE.isNone ρ i l=some rr:=e1;unfold v81 at e2;split at e2
 ·split at e2
  ·rename_i m b hz';cases e2;have zn:zE=none:=by
    cases zE with
    |none=>rfl|some _=>cases hz'
   subst zn;refine⟨_,rfl,λu H1 x1 st1 rv=>?_⟩;obtain⟨a,ys,rfl,k1,k2,k3,k4⟩:=rv;obtain⟨v1,v2,rfl,h3,h4⟩:=k4.two;cases h3.j00;cases h4.bl_;obtain⟨r1,sm⟩:=rw.W02 (i:=i) x1 k1 k2 k3;exact po (some a) _ _ H1 r1 ⟨k3,st1.tab⟩ sm
  ·cases e2
 ·cases e2
theorem v22(x:XS lm X G E N sc cn){i:Nat}{n:Str}{e:Ex}{v:Ï}{c:Nat}{p q tp pos:Pos}(h1:N[i]?=some n)(h2:e50 n=true)(g:b10 X G E e v) :
  PS X (.Assign [.Subscript (.Name n p) (.Constant (.int 0) c q) tp] v pos) (tX X.K G E H0 zE (.zset i e)):=by
 unfold e50 at h2;simp only[Á,À3] at h2;refine PS.imp (S21 g.pe (m12 (t20 (i:=i) (by rw[x.hN];exact h1) (x.vis n (î h1)) h2.1 h2.2) P60 set_list (by intro u;rfl)) (show Ô8 v (some (.Subscript (.Name n p) (.Constant (.int 0) c q) tp)) pos.line X.env=pure false from U30 rfl) (by cases v <;> rfl)) λD σ H q=>?_
 obtain⟨zA,ow,ρ,z,rr,rw,st,ee,po⟩:=q;refine j20 rw.X90 st ee (po.ers rw) λl z1 e1=>?_;obtain⟨y,hy,e2⟩:=M.a20 e1;obtain⟨dy,hy1,hy2⟩:=Ò.mp hy;obtain⟨s,rfl,hs⟩:=f80 hy1;refine⟨s,rfl,λu H1 x1 st1 rv=>?_⟩;have e3:v91 ρ y ρ[i]? z1=some rr:=e2;unfold v91 at e3;split at e3
 ·rename_i p' hsl;cases e3;have r1:=rw.mono x1;obtain⟨w,k1,k2,a,rfl,rfl⟩:=r1.wor i .z hsl;have hu:u=.int y:=by
   have:=P21 rv hs;cases dy <;> first | (cases hy2;exact this.j00) | (cases hy2;done)
  subst hu;have st':H1 a=some (.lst [.int p'.1,.bl p'.2]):=st1.zat;refine⟨_,k1,a,[.int p'.1,.bl p'.2],0,0,rfl,rfl,st',rfl,?_⟩;have x2:Ext (some a) H1 (upd H1 a (.lst [.int y,.bl p'.2])):=by
   refine⟨λb o h=>?_,λb ps h=>⟨ps,by rw[a60 (λz=>by rw[z,st'] at h;cases h)];exact h⟩⟩
   obtain⟨h3,h4⟩:=q40 h;exact d90 (by rw[a60 (λz=>h4 (by rw[z]))];exact h3) h4 (r00 h)
  exact po (some a) ow σ _ (r1.mono x2) ⟨b20,λp hp=>Tab.upd (st1.tab p hp) st'⟩ (a30.trans (e00 x1.same) (e00 x2.same))
 ·cases e3
theorem K32(x:XS lm X G E N sc cn){c:Ex}{b:Sm}{ce:Ï}{body:List Ä8}{pos:Pos}(g:b10 X G E c ce)(hn:∀ t a b p,ce≠.IfExp t a b p)(hb:PSs X body (tX X.K G E H0 zE b)):PS X (.While ce body [] pos) (tX X.K G E H0 zE (.whl c b)):=by
 refine PS.imp (H71 x.own (g.pt hn) hb) λD σ H q=>?_;obtain⟨zA,ow,ρ,z,rr,rw,st,ee,po⟩:=q;refine⟨λm σ H=>∃ zA ow ρ z r,RW X.K H0 zE zA ow H ρ σ/\e30 zA z H/\T71 (ev G.F c) (ex G.F zE.isNone b) m ρ z=some r/\r90 X.K G E H0 zE (hw ow (hz zA H)) D r,⟨j92,zA,ow,ρ,z,rr,rw,st,ee,po⟩,?_⟩;rintro m σ H ⟨zA,ow,ρ,z,rr,rw,st,ee,po⟩;cases m with
 |zero=>cases ee
 |succ m =>
  refine T50 rw.X90 st ee (po.ers rw) λk z1 e1 H1 x1 st1=>?_;have r1:=rw.mono x1;have sm:a30 (hw ow (hz zA H)) (hw ow (hz zA H1)):=e00 x1;cases k with
  |false =>
   cases e1;exact po zA ow σ H1 r1 st1 sm
  |true =>
   rw[if_pos rfl];have e2:M.bind (ex G.F zE.isNone b ρ) (λo=>match o with | .nx ρ=>T71 (ev G.F c) (ex G.F zE.isNone b) m ρ | .rt s=>M.ret (.rt s)) z1=some rr:=e1
   refine⟨λσ' H'=>∃ zA ow ρ z r,RW X.K H0 zE zA ow H' ρ σ'/\e30 zA z H'/\T71 (ev G.F c) (ex G.F zE.isNone b) m ρ z=some r/\r90 X.K G E H0 zE (hw ow (hz zA H')) D r,λσ' H' h=>⟨m,Ë9 m,h⟩,?_⟩;rcases M.bind_some e2 with ⟨o,z2,e3,e4⟩ | ⟨k,z2,e3,e4⟩
   ·refine⟨zA,ow,ρ,z1,_,r1,st1,e3,?_⟩;cases o with
    |nx ρ1=>exact λzA' ow' σ' H' rw' st' sm'=>⟨zA',ow',ρ1,z2,rr,rw',st',e4,po.mono (a30.trans sm sm')⟩|rt s=>cases e4;exact po
   ·subst e4;exact⟨zA,ow,ρ,z1,_,r1,st1,e3,po⟩
def K42(K:Â)(i:Nat):TI:=λσ H R=>∃ a,σ[i]?=some (some (.ref a))/\((∃ ys,SqT K H a ys)/\R (Itt K a) H∨(∃ ys,SqL K H a ys)/\R (Itl K a) H)
theorem v32(x:XI lm X G E N sc){tg:Ï}{i:Nat}{n:Str}{pos:Pos}(h1:N[i]?=some n)(h2:e50 n=true):PI X tg (.Name n pos) (K42 X.K i):=by
 unfold e50 at h2;simp only[Á,À3] at h2;have hv:PE X (.Name n pos) (B02 i):=t20 (i:=i) (by rw[x.hN];exact h1) (x.vis n (î h1)) h2.1 h2.2
 intro pins s σ H R I q;obtain⟨a,k,q | q⟩:=q
 ·exact S31 hv pins s σ H R I ⟨_,k,a,rfl,q.1,q.2⟩
 ·exact Y20 hv pins s σ H R I ⟨_,k,a,rfl,q.1,q.2⟩
def fBody(F:FT)(tp:Bool)(p:Pat)(b:Sm):D->Env->M O:=λx ρ=>M.bind (M.of (f10 p x ρ)) λρ=>ex F tp b ρ
theorem D80:∀ {l:List D}{d:D},n90 l=true->d∈l->bare d=true
 |x::r,d,h,hd=>by
  simp only[n90,Á] at h;rcases ú.mp hd with rfl | hd
  ·exact h.1
  ·exact D80 h.2 hd
theorem g91{p:Pat}{b:Sm}{J:L2.It}{xs:List D}{B:Hp}{D:Ends}{σ:L2.St}{H:Hp}{zA:Option Ç}{ow:Nat->Option Ç}{ρ:Env}{z:Z}{rr:R O}(IT:ItB X.K J xs B)
  (rw:RW X.K H0 zE zA ow H ρ σ) (st:e30 zA z H) (sm:a30 B (hw ow (hz zA H))) (ee:X70 (fBody G.F zE.isNone p b) xs ρ z=some rr) (po:r90 X.K G E H0 zE (hw ow (hz zA H)) D rr) :
  ∃ W:Nat->Nat->L2.St->Hp->Prop,(∃ m,W 0 m σ H)/\∀ i m σ H,W i m σ H ->
   (J.stop i H/\D.nx σ H)∨(J.go i H/\∃ Nn:L2.St->Hp->Prop,(∀ σ' H',Nn σ' H'->∃ m',m' < m/\W (i + 1) m' σ' H')/\∀ x H',J.yld i H x H'->gP X.K p x σ H' λσ2 H2=>tX X.K G E H0 zE b { D with nx:=Nn,ct:=Nn,bk:=D.nx } σ2 H2):=by
 refine⟨λi m σ H=>m=xs.length - i/\i<=xs.length/\∃ zA ow ρ z r,RW X.K H0 zE zA ow H ρ σ/\e30 zA z H/\a30 B (hw ow (hz zA H))/\X70 (fBody G.F zE.isNone p b) (xs.drop i) ρ z=some r/\r90 X.K G E H0 zE (hw ow (hz zA H)) D r,
  ⟨xs.length,by simp,Æ1 _,zA,ow,ρ,z,rr,rw,st,sm,by simpa using ee,po⟩,?_⟩
 rintro i m σ H ⟨rfl,hi,zA,ow,ρ,z,rr,rw,st,sm,ee,po⟩;have sH:a30 B H:=a30.trans sm (a30.trans k40 (a10 zA H));by_cases hlt:i < xs.length
 ·refine .inr ⟨IT.go i H sH hlt,λσ' H'=>∃ zA ow ρ z r,RW X.K H0 zE zA ow H' ρ σ'/\e30 zA z H'/\a30 B (hw ow (hz zA H'))/\X70 (fBody G.F zE.isNone p b) (xs.drop (i + 1)) ρ z=some r/\r90 X.K G E H0 zE (hw ow (hz zA H')) D r,
   λσ' H' h=>⟨xs.length - (i + 1),by omega,rfl,hlt,h⟩,λx H' y=>?_⟩
  have hd0:xs[i]?=some xs[i]:=ç hlt;obtain⟨s1,hd⟩:=IT.yld i H x H' zA z _ (a30.trans sm k40) st y hd0;rw[ß6 hlt] at ee;have e0:M.bind (fBody G.F zE.isNone p b xs[i] ρ) (λo=>match o with | .nx ρ=>X70 (fBody G.F zE.isNone p b) (xs.drop (i + 1)) ρ | .rt s=>M.ret (.rt s)) z=some rr:=ee
  have r1:=rw.mono (Ext.of s1);have st1:=st.same s1;have sm1:a30 (hw ow (hz zA H)) (hw ow (hz zA H')):=e00 (k30 s1);have hd1:=hd (hw ow (hz zA H')) (a30.trans sm sm1) λ_ _ q=>z41 q r1.f62;have fin:∀ {ρ1:Env}{o:O}{z1:Z},f10 p xs[i] ρ=some ρ1->ex G.F zE.isNone b ρ1 z=some (.ok o z1)->(match o with | .nx ρ=>X70 (fBody G.F zE.isNone p b) (xs.drop (i + 1)) ρ | .rt s=>M.ret (.rt s)) z1=some rr->gP X.K p x σ H' λσ2 H2=>tX X.K G E H0 zE b { D with nx:=λσ' H'=>∃ zA ow ρ z r,RW X.K H0 zE zA ow H' ρ σ'/\e30 zA z H'/\a30 B (hw ow (hz zA H'))/\X70 (fBody G.F zE.isNone p b) (xs.drop (i + 1)) ρ z=some r/\r90 X.K G E H0 zE (hw ow (hz zA H')) D r,ct:=λσ' H'=>∃ zA ow ρ z r,RW X.K H0 zE zA ow H' ρ σ'/\e30 zA z H'/\a30 B (hw ow (hz zA H'))/\X70 (fBody G.F zE.isNone p b) (xs.drop (i + 1)) ρ z=some r/\r90 X.K G E H0 zE (hw ow (hz zA H')) D r,bk:=D.nx } σ2 H2:=λ{ρ1 o z1} hbp e1 e2=>by
   refine O81 hbp r1 hd1 λow' σ' r2 sm2=>⟨zA,ow',ρ1,z,_,r2,st1,e1,?_⟩;cases o with
   |nx ρ2=>exact λzA3 ow3 σ3 H3 r3 st3 sm3=>⟨zA3,ow3,ρ2,z1,rr,r3,st3,a30.trans sm (a30.trans sm1 (a30.trans sm2 sm3)),e2,po.mono (a30.trans sm1 (a30.trans sm2 sm3))⟩|rt s=>cases e2;exact po
  rcases M.bind_some e0 with ⟨o,z1,e1,e2⟩ | ⟨c,z1,e1,e2⟩
  ·obtain⟨ρ1,hbp,e3⟩:=M.a20 e1;exact fin hbp e3 e2
  ·subst e2;obtain⟨ρ1,hbp,e3⟩:=M.a20 e1;exact O81 hbp r1 hd1 λow' σ' r2 sm2=>⟨zA,ow',ρ1,z,_,r2,st1,e3,po⟩
 ·have e:i=xs.length:=by omega
  subst e;rw[drop_length] at ee;cases ee;exact .inl ⟨IT.stop H sH,po zA ow σ H rw st (a30.refl _)⟩
theorem v42(x:XS lm X G E N sc cn){p:Pat}{i:Nat}{n:Str}{b:Sm}{tg:Ï}{body:List Ä8}{np pos:Pos}(hp:j30 N (U40 sc) p tg=true)(h1:N[i]?=some n)(h2:e50 n=true)(hb:PSs X body (tX X.K G E H0 zE b)) :
  PS X (.For tg (.Name n np) body [] pos) (tX X.K G E H0 zE (.fr p .seq (.cons (.var i) .nil) b)):=by
 refine PS.imp (S41 x.own x.calm (v32 x.toXI h1 h2) (x91 x.loc hp) hb (λ_=>rfl)) λD σ H q=>?_;obtain⟨zA,ow,ρ,z,rr,rw,st,ee,po⟩:=q;have e0:M.bind (M.bind (match ρ[i]? with | some (some s)=>M.ret [plS s] | _=>M.no) λx=>M.bind (M.of (one x)) λs=>M.bind (ev G.F .nil ρ) λy=>M.ret (s::y)) (λl=>M.bind (M.of ((plA l).bind (itD .seq))) λxs=>X70 (fBody G.F zE.isNone p b) xs (v71 .seq (.cons (.var i) .nil) l ρ)) z=some rr:=ee
 cases hs:ρ[i]? with
 |none=>rw[hs] at e0;cases e0
 |some o =>
  cases o with
  |none=>rw[hs] at e0;cases e0
  |some s =>
   rw[hs] at e0;have e1:M.bind (M.of ((plA [plS s]).bind (itD .seq))) (λxs=>X70 (fBody G.F zE.isNone p b) xs ((ρ.set i ((ρ[i]?.getD none).map plS)).map (S50 (S80 [plS s])))) z=some rr:=e0;obtain⟨xs,hx,e2⟩:=M.a20 e1;have r1:=rw.plain i;have sm:=A30 (H:=hz zA H) ow i;have hi:i < ρ.length:=(ß.mp hs).1;have hsl:(ρ.set i ((ρ[i]?.getD none).map plS))[i]?=some (some (plS s)):=by rw[ð hi,hs];rfl
   obtain⟨w,k1,k2⟩:=r1.wor i _ hsl;obtain⟨ds,h3,h4⟩:=Ò.mp hx;obtain⟨d,rfl,h5⟩:=y41 h3;have hd:Hd X.K (hw (ow0 ow i) (hz zA H)) d w:=by
    cases s with
    |d y=>cases h5;exact k2.2
    |fr ys=>cases h5;exact k2.2
    |z=>cases h5
   obtain⟨ow',r2,sm2⟩:∃ ow',RW X.K H0 zE zA ow' H ((ρ.set i ((ρ[i]?.getD none).map plS)).map (S50 (S80 [plS s]))) σ/\a30 (hw (ow0 ow i) (hz zA H)) (hw ow' (hz zA H)):=by
    rw[S60];cases S80 [plS s] with
    |true=>exact⟨_,r1,a30.refl _⟩|false=>exact⟨_,r1.Z80,D70 _⟩
   cases d with
   |tup l =>
    cases h4;obtain⟨a,ys,rfl,m1,m2⟩:=hd.z60;exact⟨a,k1,.inl ⟨⟨ys,(a10 zA H).sqT (a30.sqT k40 m1)⟩,g91 (y11 m1 m2) r2 st sm2 e2 (po.mono (a30.trans sm sm2))⟩⟩
   |lst l =>
    cases h4;obtain⟨a,ys,rfl,m1,m2⟩:=hd.X80;exact⟨a,k1,.inr ⟨⟨ys,((m1.same k40).same (a10 zA H)).sq⟩,g91 (g31 m1 m2) r2 st sm2 e2 (po.mono (a30.trans sm sm2))⟩⟩
   |_=>cases h4
theorem K52(x:XS lm X G E N sc cn){p:Pat}{it:It}{src:Ex}{b:Sm}{tg Ä0:Ï}{body:List Ä8}{pos:Pos}(hp:j30 N (U40 sc) p tg=true)(hi:PI X tg Ä0 (tIt X.K G E it src))(hns:z70 Ä0=true)(hv:c42 it src=none)(hb:PSs X body (tX X.K G E H0 zE b)) :
  PS X (.For tg Ä0 body [] pos) (tX X.K G E H0 zE (.fr p it src b)):=by
 refine PS.imp (S41 x.own x.calm hi (x91 x.loc hp) hb (z21 hns X.env)) λD σ H q=>?_;obtain⟨zA,ow,ρ,z,rr,rw,st,ee,po⟩:=q;have e0:M.bind (ev G.F src ρ) (λl=>M.bind (M.of ((plA l).bind (itD it))) λxs=>X70 (fBody G.F zE.isNone p b) xs ((S90 it src l ρ).map (S50 (S80 l)))) z=some rr:=ee;rcases M.bind_some e0 with ⟨l,z1,e1,e2⟩ | ⟨c,z1,e1,e2⟩
 ·obtain⟨xs,hx,e3⟩:=M.a20 e2;refine⟨zA,ρ,z,_,rw.X90,st,e1,xs,hx,λJ H1 x1 st1 IT=>?_⟩;have r1:=rw.mono x1;have frz:X70 (fBody G.F zE.isNone p b) xs (Z80 ρ) z1=some rr->_:=λe3=>g91 (G:=G) (E:=E) (D:=D) (IT (λ_=>True) (hz zA H1) (a30.refl _) (λ_ _ q=>q) (λ_ _ _ q=>q) (λds hds d hd=>by cases d <;> first | trivial | exact λ_ _=>trivial) λ_ _ q _=>q) r1.Z80 st1 (by rw[w50];exact a30.refl _) e3 (po.mono (a30.trans (e00 x1) (D70 ow)))
  rw[S60] at e3;have he:S90 it src l ρ=match m91 l with | true=>Z80 ρ | false=>ρ:=by
   unfold S90;rw[hv] <;> cases m91 l <;> rfl
  have tt:Z80 (Z80 ρ)=Z80 ρ:=by
   unfold Z80;rw[ó];refine Å8 λo _=>?_
   match o with
   |none=>rfl|some (.d _)=>rfl|some (.fr _)=>rfl|some .z=>rfl
  cases hl:m91 l with
  |true =>
   rw[hl] at he;rw[he] at e3;dsimp only at e3;rw[tt,ite_self] at e3;exact frz e3
  |false =>
   rw[hl] at he;rw[he] at e3;dsimp only at e3;split at e3
   ·rename_i hbb;refine g91 (IT (λy=>bare y=true) (hw ow (hz zA H1)) k40 (λa ys q=>z41 q r1.f62) (λd v hd q=>M60 r1.f62 hd q) (λds hds d hd=>?_) λa ys q hor=>?_) r1 st1 (a30.refl _) e3 (po.mono (e00 x1))
    ·have h:=hbb;unfold S80 at h;rw[hds] at h;have:=Õ.mp h d hd;cases d with
     |tup m=>exact λy hy=>D80 this hy|lst m=>exact λy hy=>D80 this hy|_=>trivial
    ·rcases hor with ⟨hn,hm1⟩ | hm
     ·refine p70.of (i50 (d90 hm1 (st.w01 hn)) λj w=>?_);obtain⟨zs,k⟩:=rw.lst j a w;rw[hn] at k;cases k
     ·rw[hl] at hm;cases hm
   ·exact frz e3
 ·subst e2;exact⟨zA,ρ,z,_,rw.X90,st,e1,po.er_ rw⟩
end
def isQ:Sm->Bool
 |.nil=>true|.seq _ _=>true|_=>false
def g32:Ï->Bool
 |.IfExp ..=>false|_=>true
def W12:Ï->Bool
 |.SetComp ..=>false|.DictComp ..=>false|_=>true
def mtI(lm:Bool)(fns:List (Str × List Str))(nums:List (Str × Int))(it:It)(src:Ex)(sc:ý)(N:List Str)(tg Ä0:Ï):Bool:=match it with
 |.seq=>mt lm fns nums src sc N [Ä0]|.rng1=>opt (k12 Ä0) λr=>r.1.1 == ("range":Str)&&glob sc r.1.1&&mt lm fns nums src sc N [r.1.2.2.1]|.rng2=>opt (k22 Ä0) λr=>r.1.1 == ("range":Str)&&glob sc r.1.1&&mt lm fns nums src sc N [r.1.2.2.1,r.1.2.2.2.1]|.zip=>opt (k22 Ä0) λr=>r.1.1 == ("zip":Str)&&glob sc r.1.1&&l00 tg&&mt lm fns nums src sc N [r.1.2.2.1,r.1.2.2.2.1]|.enum=>opt (k12 Ä0) λr=>r.1.1 == ("enumerate":Str)&&glob sc r.1.1&&l00 tg&&mt lm fns nums src sc N [r.1.2.2.1]
def W22:(p:Pat)->Option {q:Nat × Nat // p=.tup (.cons (.v q.1) (.cons (.v q.2) .nil))}
 |.tup (.cons (.v i) (.cons (.v j) .nil))=>some ⟨(i,j),rfl⟩|_=>none
def W32:(e:Ex)->Option {q:Ex × Ex // e=.tup (.cons q.1 (.cons q.2 .nil))}
 |.tup (.cons a (.cons b .nil))=>some ⟨(a,b),rfl⟩|_=>none
def W42:(e:Ï)->Option {q:Ï × Ï × Nat × Pos // e=.Tuple [q.1,q.2.1] q.2.2.1 q.2.2.2}
 |.Tuple [a,b] k p=>some ⟨(a,b,k,p),rfl⟩|_=>none
def W52(sc:ý)(p:Pat)(e:Ex)(tg v:Ï):Bool:=opt (W22 p) λ_=>opt (W32 e) λ_=>opt (O62 tg) λt=>opt (W42 v) λu =>
  !(t.1.1 == t.1.2.2.1)&&sc.names.lookup t.1.1 == some .local&&sc.names.lookup t.1.2.2.1 == some .local&&t.1.2.2.2.1.line == t.1.2.1.line&&noStar u.1.1&&noStar u.1.2.1&&!([u.1.1,u.1.2.1].all (Û6 8))&&!([u.1.1,u.1.2.1].all (constantsAlone 8))
def isNm:Ï->Bool
 |.Name ..=>true|_=>false
def setB(sc:ý)(p:Pat)(e:Ex)(tg v:Ï):Bool :=
 if isNm tg then W12 v else if l00 tg then(if l00 v then(match v with | .Tuple vs _ _=>vs.all (Û6 8) | _=>false) || (match tg with | .Tuple ts _ _=>ts.any (z91 λy=>sc.names.lookup y) | _=>false) || W52 sc p e tg v else true) else false
def g42:(e:List Ä8)->Option {q:Ï × Ï × Pos // e=[.Assign [q.1] q.2.1 q.2.2]}
 |[.Assign [tg] v p]=>some ⟨(tg,v,p),rfl⟩|_=>none
def K62:(e:List Ä8)->Option {q:Option Ï × Pos // e=[.Return q.1 q.2]}
 |[.Return v p]=>some ⟨(v,p),rfl⟩|_=>none
def W62:(e:List Ä8)->Option {q:Ï × List Ä8 × List Ä8 × Pos // e=[.If q.1 q.2.1 q.2.2.1 q.2.2.2]}
 |[.If c a b p]=>some ⟨(c,a,b,p),rfl⟩|_=>none
def K72:(e:List Ä8)->Option {q:Ï × Ï × List Ä8 × Pos // e=[.For q.1 q.2.1 q.2.2.1 [] q.2.2.2]}
 |[.For tg Ä0 body [] p]=>some ⟨(tg,Ä0,body,p),rfl⟩|_=>none
def K82:(e:List Ä8)->Option {q:Ï × List Ä8 × Pos // e=[.While q.1 q.2.1 [] q.2.2]}
 |[.While c body [] p]=>some ⟨(c,body,p),rfl⟩|_=>none
def v52:(e:List Ä8)->Option {q:Ï × Pos // e=[.Raise (some q.1) none q.2]}
 |[.Raise (some x) none p]=>some ⟨(x,p),rfl⟩|_=>none
def v62:(e:List Ä8)->Option {q:Ï × Pos // e=[.Expr q.1 q.2]}
 |[.Expr v p]=>some ⟨(v,p),rfl⟩|_=>none
def K92:(e:Ï)->Option {q:Str × Pos × Str × Nat × Pos × Pos // e=.Call (.Name q.1 q.2.1) [.Constant (.str q.2.2.1) q.2.2.2.1 q.2.2.2.2.1] [] q.2.2.2.2.2}
 |.Call (.Name n p1) [.Constant (.str y) k p2] [] p3=>some ⟨(n,p1,y,k,p2,p3),rfl⟩|_=>none
def L02:(e:Ï)->Option {q:Str × Pos × Str × Pos × Ï × Pos // e=.Call (.Attribute (.Name q.1 q.2.1) q.2.2.1 q.2.2.2.1) [q.2.2.2.2.1] [] q.2.2.2.2.2}
 |.Call (.Attribute (.Name n p) a ap) [v] [] cp=>some ⟨(n,p,a,ap,v,cp),rfl⟩|_=>none
def W72:(e:Ï)->Option {q:Str × Pos × Nat × Pos × Pos // e=.Subscript (.Name q.1 q.2.1) (.Constant (.int 0) q.2.2.1 q.2.2.2.1) q.2.2.2.2}
 |.Subscript (.Name n p) (.Constant (.int 0) c q1) tp=>some ⟨(n,p,c,q1,tp),rfl⟩|_=>none
def W82:(e:Ï)->Option {q:Str × Pos × Ï × Pos // e=.Subscript (.Name q.1 q.2.1) q.2.2.1 q.2.2.2}
 |.Subscript (.Name n p) w tp=>some ⟨(n,p,w,tp),rfl⟩|_=>none
def W92:(e:Ï)->Option {q:Str × Pos // e=.Name q.1 q.2}
 |.Name n p=>some ⟨(n,p),rfl⟩|_=>none
def v72:(e:List Ä8)->Option {q:Str × Pos × Ï × Pos × Ï × Pos // e=[.AugAssign (.Subscript (.Name q.1 q.2.1) q.2.2.1 q.2.2.2.1) .Add q.2.2.2.2.1 q.2.2.2.2.2]}
 |[.AugAssign (.Subscript (.Name n p) w tp) .Add v pos]=>some ⟨(n,p,w,tp,v,pos),rfl⟩|_=>none
def P41:Ex->Bool
 |.con .non=>true|_=>false
def mtS(lm:Bool)(fns:List (Str × List Str))(nums:List (Str × Int))(cn:List Str)(sc:ý)(N:List Str):Sm->List Ä8->Bool
 |.nil,ss=>ss.isEmpty|.seq s r,ss=>opt ss.head? λst=>!isQ s&&isQ r&&mtS lm fns nums cn sc N s [st]&&mtS lm fns nums cn sc N r ss.tail|.set p e,ss=>opt (g42 ss) λq=>!isL e&&j30 N (U40 sc) p q.1.1&&mt lm fns nums e sc N [q.1.2.1]&&setB sc p e q.1.1 q.1.2.1
 |.ret e,ss=>opt (K62 ss) λq=>match q.1.1 with
  |some v=>!isL e&&mt lm fns nums e sc N [v]|none=>P41 e
 |.iff c t u,ss=>opt (W62 ss) λq=>!isL c&&g32 q.1.1&&isQ t&&isQ u&&mt lm fns nums c sc N [q.1.1]&&mtS lm fns nums cn sc N t q.1.2.1&&mtS lm fns nums cn sc N u q.1.2.2.1|.fr p it src b,ss=>opt (K72 ss) λq=>j30 N (U40 sc) p q.1.1&&isL src&&z70 q.1.2.1&&isQ b&&mtI lm fns nums it src sc N q.1.1 q.1.2.1&&mtS lm fns nums cn sc N b q.1.2.2.1|.whl c b,ss=>opt (K82 ss) λq=>!isL c&&g32 q.1.1&&isQ b&&mt lm fns nums c sc N [q.1.1]&&mtS lm fns nums cn sc N b q.1.2.1|.rais c,ss=>opt (v52 ss) λq=>opt (K92 q.1.1) λr=>cn[c]? == some r.1.1&&glob sc r.1.1|.exp e,ss=>opt (v62 ss) λq=>U20 q.1.1&&!isL e&&mt lm fns nums e sc N [q.1.1]|.app i e,ss=>opt (v62 ss) λq=>opt (L02 q.1.1) λr=>r.1.2.2.1 == ("append":Str)&&N[i]? == some r.1.1&&e50 r.1.1&&noStar r.1.2.2.2.2.1&&!isL e&&r.1.2.2.2.1.endLine == r.1.2.2.2.2.2.line&&mt lm fns nums e sc N [r.1.2.2.2.2.1]|.newz i f as,ss=>opt (g42 ss) λq=>opt (W92 q.1.1) λr=>N[i]? == some r.1.1&&U40 sc r.1.1&&U20 q.1.2.1&&mt lm fns nums (.call f as) sc N [q.1.2.1]|.zset i e,ss=>opt (g42 ss) λq=>opt (W72 q.1.1) λr=>N[i]? == some r.1.1&&e50 r.1.1&&!isL e&&mt lm fns nums e sc N [q.1.2.1]|.augi i ix e,ss=>opt (v72 ss) λq=>N[i]? == some q.1.1&&e50 q.1.1&&D40 q.1.2.2.1&&!isL e&&!isL ix&&mt lm fns nums e sc N [q.1.2.2.2.2.1]&&mt lm fns nums ix sc N [q.1.2.2.1]
section
variable {lm:Bool}{X:Cx}{G:Gs}{E:XK}{N:List Str}{sc:ý}{cn:List Str}{H0:Hp}{zE:Option Ç}
theorem L12(x:XI lm X G E N sc){it:It}{src:Ex}{tg Ä0:Ï}(hL:isL src=true)(h:mtI lm G.fns G.nums it src sc N tg Ä0=true):PI X tg Ä0 (tIt X.K G E it src):=by
 cases it with
 |seq =>
  obtain⟨a,rfl,ga⟩:=z31 hL (sound G src x h);exact U81 ga
 |rng1 =>
  obtain⟨⟨⟨n,_,a,_⟩,rfl⟩,-,h⟩:=a70 h;simp only[Á,beq_iff_eq] at h;exact y51 x h.1.1 h.1.2 hL (sound G src x h.2)
 |rng2 =>
  obtain⟨⟨⟨n,_,a,b,_⟩,rfl⟩,-,h⟩:=a70 h;simp only[Á,beq_iff_eq] at h;exact y61 x h.1.1 h.1.2 hL (sound G src x h.2)
 |zip =>
  obtain⟨⟨⟨n,_,a,b,_⟩,rfl⟩,-,h⟩:=a70 h;simp only[Á,beq_iff_eq] at h;exact y91 x h.1.2 h.1.1.1 h.1.1.2 hL (sound G src x h.2)
 |enum =>
  obtain⟨⟨⟨n,_,a,_⟩,rfl⟩,-,h⟩:=a70 h;simp only[Á,beq_iff_eq] at h;exact g61 x h.1.2 h.1.1.1 h.1.1.2 hL (sound G src x h.2)
theorem h01(h:g32 e=true):∀ t a b p,e≠.IfExp t a b p:=by
 intro t a b p he;subst he;cases h
def GS(X:Cx)(G:Gs)(E:XK)(H0:Hp)(zE:Option Ç)(s:Sm)(ss:List Ä8):Prop:=(isQ s=true->PSs X ss (tX X.K G E H0 zE s))/\(isQ s=false->∃ st,ss=[st]/\PS X st (tX X.K G E H0 zE s))
theorem o30{s:Sm}{st:Ä8}(hq:isQ s=false)(h:PS X st (tX X.K G E H0 zE s)):GS X G E H0 zE s [st]:=⟨λk=>(by rw[hq] at k;cases k),λ_=>⟨st,rfl,h⟩⟩
theorem g52{x:XI lm X G E N sc}{e:Ex}{elt:Ï}{gs:List Comprehension}{csc:ý}{q:Pos}(h:mt lm G.fns G.nums e sc N [.ListComp elt gs csc q]=true)(hL:isL e=false):∃ tg Ä0 ifs,gs=[⟨tg,Ä0,ifs,0⟩]/\H20 X G E e elt tg Ä0 ifs csc:=by
 cases e with
 |comp own capt p it src cond el =>
  match gs,h with
  |[⟨tg,Ä0,ifs,0⟩],h=>exact⟨tg,Ä0,ifs,rfl,U10 (λx _=>sound G src x) (λx _=>sound G cond x) (λx _=>sound G el x) x h⟩
 |nil=>cases hL
 |cons _ _=>cases hL
 |bf f as=>cases f <;> cases h
 |_=>cases h
theorem g62(h:isNm e=true):∃ y p,e=.Name y p:=by
 cases e <;> first | exact⟨_,_,rfl⟩ | cases h
theorem u40(h:l00 e=true):∃ ts k p,e=.Tuple ts k p:=by
 cases e <;> first | exact⟨_,_,_,rfl⟩ | cases h
theorem L22(x:XS lm X G E N sc cn){p:Pat}{e:Ex}{tg v:Ï}{pos:Pos}(h1:(!isL e)=true)(h2:j30 N (U40 sc) p tg=true)(h3:mt lm G.fns G.nums e sc N [v]=true)(h4:setB sc p e tg v=true):PS X (.Assign [tg] v pos) (tX X.K G E H0 zE (.set p e)):=by
 have g:=a90 (b80 h1) (sound G e x.toXI h3);unfold setB at h4;split at h4
 ·rename_i hn;obtain⟨y,px,rfl⟩:=g62 hn;cases p with
  |v i =>
   unfold j30 at h2;rw[Á,beq_iff_eq] at h2;refine J82 x h2.1 h2.2 g (λelt gs csc q hv=>?_) (λa b c d hv=>?_) (λa b c d f hv=>?_)
   ·subst hv;exact g52 (x:=x.toXI) h3 (b80 h1)
   ·subst hv;cases h4
   ·subst hv;cases h4
  |tup _=>unfold j30 at h2;cases h2
  |nil=>unfold j30 at h2;cases h2
  |cons _ _=>unfold j30 at h2;cases h2
 ·split at h4
  ·rename_i ht;split at h4
   ·rename_i hv;rw[Å6,Å6] at h4;rcases h4 with (h4 | h4) | h4
    ·obtain⟨ts,k,tp,rfl⟩:=u40 ht;obtain⟨vs,k',vp,rfl⟩:=u40 hv;exact A01 x h2 g rfl (f82 h4)
    ·obtain⟨ts,k,tp,rfl⟩:=u40 ht;obtain⟨vs,k',vp,rfl⟩:=u40 hv;refine A01 x h2 g rfl (f92 ?_);have e:X.env.kindOf=λy=>sc.names.lookup y:=by funext y;unfold Env.kindOf;rw[x.sco]
     rw[e];exact h4
    ·clear g h1 ht hv;obtain⟨⟨⟨i,j⟩,rfl⟩,-,h4⟩:=a70 h4;obtain⟨⟨⟨ea,eb⟩,rfl⟩,-,h4⟩:=a70 h4;obtain⟨⟨⟨y,px,w,py,kt,tp⟩,rfl⟩,-,h4⟩:=a70 h4;obtain⟨⟨⟨a,b,kv,vp⟩,rfl⟩,-,h4⟩:=a70 h4;simp only[Á,À3,beq_iff_eq] at h4;obtain⟨⟨⟨⟨⟨⟨⟨k1,k2⟩,k3⟩,k4⟩,k5⟩,k6⟩,k7⟩,k8⟩:=h4;unfold j30 at h2;simp only[n41,j30,Á,beq_iff_eq] at h2;obtain⟨⟨_,h21,_⟩,⟨_,h22,_⟩,_⟩:=h2;have h3':(isL (.cons ea (.cons eb .nil))&&mt lm G.fns G.nums (.cons ea (.cons eb .nil)) sc N [a,b])=true:=h3;rw[Á] at h3';have ga:Good X G E (.cons ea (.cons eb .nil)) [a,b]:=sound G (.cons ea (.cons eb .nil)) x.toXI h3'.2;refine J92 x h21 h22 (by simpa using k1) k2 k3 ga (u82 x.bk ?_ ?_ (by simpa using k1) (by rw[k4];exact beq_self_eq_true _) k5 k6 k7 k8)
     ·unfold Env.kindOf;rw[x.sco];exact k2
     ·unfold Env.kindOf;rw[x.sco];exact k3
   ·rename_i hv;exact A01 x h2 g ht (f72 (by simpa using hv))
  ·cases h4
theorem A21(h:P41 e=true):e=.con .non:=by
 unfold P41 at h;split at h
 ·rfl
 ·cases h
theorem L32(x:XS lm X G E N sc cn){e:Ex}{o:Option Ï}{pos:Pos}(h:(match o with | some v=>!isL e&&mt lm G.fns G.nums e sc N [v] | none=>P41 e)=true):PS X (.Return o pos) (tX X.K G E H0 zE (.ret e)):=by
 cases o with
 |some v =>
  have h:(!isL e&&mt lm G.fns G.nums e sc N [v])=true:=h;rw[Á] at h;by_cases hv:∃ i,e=.var i
  ·obtain⟨i,rfl⟩:=hv;have h2:=h.2;cases v with
   |Name n p =>
    have h2:(N[i]? == some n&&e50 n)=true:=h2;rw[Á,beq_iff_eq] at h2;exact u92 x h2.1 h2.2
   |_=>cases h2
  ·exact K02 (λi hi=>hv ⟨i,hi⟩) (a90 (b80 h.1) (sound G e x.toXI h.2))
 |none =>
  have he:=A21 h;subst he;refine PS.imp X41 λD σ H q=>?_;obtain⟨zA,ow,ρ,z,rr,rw,st,ee,po⟩:=q;cases ee;exact po .non H (λk=>nomatch k) rw.ext (k32 rw.zok st) (show Hd X.K (hz zE H) .non .non from Hd.non)
theorem X02(x:XS lm X G E N sc cn){p:Pat}{it:It}{src:Ex}{b:Sm}{tg Ä0:Ï}{body:List Ä8}{pos:Pos}(h1:j30 N (U40 sc) p tg=true)(h2:isL src=true)(h3:z70 Ä0=true)(h5:mtI lm G.fns G.nums it src sc N tg Ä0=true)(hb:PSs X body (tX X.K G E H0 zE b)) :
  PS X (.For tg Ä0 body [] pos) (tX X.K G E H0 zE (.fr p it src b)):=by
 cases hv:c42 it src with
 |some q =>
  obtain⟨i,rfl,rfl⟩:=q;have h5':(noStar Ä0&&!isL (.var i)&&isL .nil&&mt lm G.fns G.nums (.var i) sc N [Ä0]&&mt lm G.fns G.nums .nil sc N [])=true:=h5;simp only[Á] at h5';have h7:=h5'.1.2;cases Ä0 with
  |Name n np =>
   have h7:(N[i]? == some n&&e50 n)=true:=h7;rw[Á,beq_iff_eq] at h7;exact v42 x h1 h7.1 h7.2 hb
  |_=>cases h7
 |none=>exact K52 x h1 (L12 x.toXI h2 h5) h3 hv hb
theorem v82(x:XS lm X G E N sc cn):∀ (s:Sm) {ss:List Ä8},mtS lm G.fns G.nums cn sc N s ss=true->GS X G E H0 zE s ss:=by
 intro s
 induction s with
 |nil =>
  intro ss h;have:ss=[]:=Ì5.mp h;subst this;exact⟨λ_=>J62,λk=>by cases k⟩
 |seq s r ihs ihr =>
  intro ss h;obtain⟨st,h0,h⟩:=a70 h;cases ss with
  |nil=>cases h0
  |cons st' rest =>
   cases h0;simp only[Á,À3,List.tail_cons] at h;obtain⟨⟨⟨h1,h2⟩,h3⟩,h4⟩:=h;obtain⟨st',he,hs⟩:=(ihs h3).2 h1;cases he;exact⟨λ_=>J72 hs ((ihr h4).1 h2),λk=>by cases k⟩
 |set p e =>
  intro ss h;obtain⟨⟨q,rfl⟩,-,h⟩:=a70 h;simp only[Á] at h;exact o30 rfl (L22 x h.1.1.1 h.1.1.2 h.1.2 h.2)
 |ret e =>
  intro ss h;obtain⟨⟨q,rfl⟩,-,h⟩:=a70 h;exact o30 rfl (L32 x h)
 |iff c t u iht ihu =>
  intro ss h;obtain⟨⟨q,rfl⟩,-,h⟩:=a70 h;simp only[Á] at h;obtain⟨⟨⟨⟨⟨⟨h1,h2⟩,h3⟩,h4⟩,h5⟩,h6⟩,h7⟩:=h;exact o30 rfl (V92 (a90 (b80 h1) (sound G c x.toXI h5)) (h01 h2) ((iht h6).1 h3) ((ihu h7).1 h4))
 |fr p it src b ih =>
  intro ss h;obtain⟨⟨q,rfl⟩,-,h⟩:=a70 h;simp only[Á] at h;obtain⟨⟨⟨⟨⟨h1,h2⟩,h3⟩,h4⟩,h5⟩,h6⟩:=h;exact o30 rfl (X02 x h1 h2 h3 h5 ((ih h6).1 h4))
 |whl c b ih =>
  intro ss h;obtain⟨⟨q,rfl⟩,-,h⟩:=a70 h;simp only[Á] at h;obtain⟨⟨⟨⟨h1,h2⟩,h3⟩,h4⟩,h5⟩:=h;exact o30 rfl (K32 x (a90 (b80 h1) (sound G c x.toXI h4)) (h01 h2) ((ih h5).1 h3))
 |rais c =>
  intro ss h;obtain⟨⟨⟨e,pos⟩,rfl⟩,-,h⟩:=a70 h;dsimp only at h;obtain⟨⟨⟨n,p1,y,k,p2,p3⟩,rfl⟩,-,h⟩:=a70 h;simp only[Á,beq_iff_eq] at h;exact o30 rfl (x_raise x h.1 h.2)
 |exp e =>
  intro ss h;obtain⟨⟨q,rfl⟩,-,h⟩:=a70 h;simp only[Á] at h;exact o30 rfl (K12 (a90 (b80 h.1.2) (sound G e x.toXI h.2)) h.1.1)
 |app i e =>
  intro ss h;obtain⟨⟨⟨v0,pos⟩,rfl⟩,-,h⟩:=a70 h;dsimp only at h;obtain⟨⟨⟨n,p1,a,apos,v,cpos⟩,rfl⟩,-,h⟩:=a70 h;simp only[Á,beq_iff_eq] at h;obtain⟨⟨⟨⟨⟨⟨h7,h8⟩,h2⟩,h3⟩,h4⟩,h5⟩,h6⟩:=h;subst h7;exact o30 rfl (K22 x h8 h2 h3 (a90 (b80 h4) (sound G e x.toXI h6)) (by rw[h5];exact beq_self_eq_true _))
 |newz i f as =>
  intro ss h;obtain⟨⟨⟨tg,v,pos⟩,rfl⟩,-,h⟩:=a70 h;dsimp only at h;obtain⟨⟨⟨y,p1⟩,rfl⟩,-,h⟩:=a70 h;simp only[Á,beq_iff_eq] at h;obtain⟨⟨⟨h1,h2⟩,h3⟩,h4⟩:=h;exact o30 rfl (v12 x h1 h2 (a90 rfl (sound G (.call f as) x.toXI h4)) h3)
 |zset i e =>
  intro ss h;obtain⟨⟨⟨tg,v,pos⟩,rfl⟩,-,h⟩:=a70 h;dsimp only at h;obtain⟨⟨⟨n,p1,c,p2,p3⟩,rfl⟩,-,h⟩:=a70 h;simp only[Á,beq_iff_eq] at h;exact o30 rfl (v22 x h.1.1.1 h.1.1.2 (a90 (b80 h.1.2) (sound G e x.toXI h.2)))
 |augi i ix e =>
  intro ss h;obtain⟨⟨⟨n,p1,w,tp,v,pos⟩,rfl⟩,-,h⟩:=a70 h;simp only[Á,beq_iff_eq] at h;obtain⟨⟨⟨⟨⟨⟨h1,h2⟩,h3⟩,h4⟩,h5⟩,h6⟩,h7⟩:=h;exact o30 rfl (v02 x h1 h2 (a90 (b80 h4) (sound G e x.toXI h6)) (a90 (b80 h5) (sound G ix x.toXI h7)) h3)
end
structure GX(P:Program)(w:World)(K:PySem.W.Frag)(mg:Str->Option Value)(base:Heap)(G:Gs)(cn:List Str):Prop where
 gok:∀ f nm ps,G.fns[f]?=some (nm,ps)->∃ fa fd,mg nm=some (.ref fa)/\PySem.W.keepIn K (.ref fa)=true/\Binds K fd ps []/\X50 P w K mg base (CX1 P w) G.lv fa fd ps (spF K G f ps.length)
 num:∀ p∈G.nums,∃ t,mg p.1=some (.int p.2 t)
 blt:∀ n∈e52,mg n=none
 cls:∀ c x,cn[c]?=some x->mg x=some (.ref (G.cls c))/\PySem.W.excIn K (G.cls c) [.type "ValueError",.type "Exception",.type "BaseException",.type "object"] "ValueError.__new__"=true
section
variable {P:Ý}{w:è}{K:Â}{mg:Str->Option Ä}{base:é}{G:Gs}{cn:List Str}
structure A42(P:Program)(w:World)(K:PySem.W.Frag)(mg:Str->Option Value)(base:Heap)(cls:Nat->Addr)(fR:Addr)(fdR:FuncData):Prop where
 bm:BMain mg base
 cls:∀ j,j < 12->S00 K mg (cls j) j
 m:mg "_law_refused"=some (.ref fR)
 kp:PySem.W.keepIn K (.ref fR)=true
 bd:Binds K fdR ["_law_call"] []
 fn:∀ k,m31 P w K mg base CX0 (k + 2) fR fdR ["_law_call"] (b42 P w K mg base (k + 1))
def A52(K:Â)(nm:Str)(fd:Å2):Prop:=∃ (c P:Ç) (q:Str),fd.code=.ref c/\Ä9 K c P=true/\(∀ sc n f cd,(Ï5 nm sc n f cd).qual++"<lambda>"=q)/\(P,q)∈TB.tb/\∀ p∈TB.tb,p.1=P->p.2=q
def Low(P:Ý)(w:è)(K:Â)(mg:Str->Option Ä)(base:é)(G:Gs)(k:Nat):Prop:=∀ f nm ps,G.fns[f]?=some (nm,ps)->∃ fa fd,mg nm=some (.ref fa)/\Ó6 K (.ref fa)=true/\Binds K fd ps []/\X50 P w K mg base (CX1 P w) k fa fd ps (spF K (lowG G k) f ps.length)
theorem v92(g:GX P w K mg base G cn){lm:Bool}{N ps:List Str}{qual:Str}{sc:ý}{f:Ç}{fd:Å2}{cd:Ä}{A:ö}{outer:List È6}{s:Æ}{H:Hp}{E:XK}(S:k20 N ps sc)(hl:N.all (U40 sc)=true)
  (hr:z90 G.lv (A.deeper (Ï5 qual sc s.heap.objs.size f cd))) (hc:fd.code=cd) (hlam:lm=true->∃ k fR fdR,G.lv=k + 2/\A42 P w K mg base G.cls fR fdR/\A52 K qual fd/\Low P w K mg base G k):XS lm (F90 (CX1 P w) P w K mg base N qual sc f cd A outer s H E) G E N sc cn where
 gok:=g.gok
 num:=g.num
 blt:=g.blt
 hN:=rfl
 nd:=S.nd
 vis:=λx hx=>by
  have:=Õ.mp hl x hx;unfold U40 at this;rw[Å6,beq_iff_eq,beq_iff_eq] at this;rcases this with h | h
  ·exact .inl h
  ·exact .inr (.inl h)
 glb:=λx h=>h
 cel:=λx h=>h
 calm:=rfl
 room:=hr
 pas:=F02
 lam:=λh=>by
  obtain⟨k,fR,fdR,e1,L,⟨c,P',q,d1,d2,d3,d4,d5⟩,lo⟩:=hlam h;exact⟨c,P',q,k,fR,fdR,rfl,hc.symm.trans d1,d2,d3 _ _ _ _,d4,d5,L.bm,e1,L.cls,L.m,L.kp,L.bd,L.fn k,lo⟩
 sco:=rfl
 fnk:=S.kind
 own:=PassesOwn.leaving
 can:=u01
 fnx:=λ_=>rfl
 cls:=g.cls
theorem X12{x qual:Str}{st:Ä8}{f:Ç}{fd:Å2}{N ps:List Str}{k:Nat}{sp:Sp}(F:Fun K x qual st f fd)(S:k20 N ps (c00 st))(len:∀ vs H Q E,sp vs H Q E->vs.length=ps.length)
  (hb:∀ (cdv:Ä),fd.code=cdv->∀ (A:ö) (outer:List È6) (s:Æ) (H:Hp) (vs:List V) (Q:VK) (E:XK),z90 k (A.deeper (Ï5 qual (c00 st) s.heap.objs.size f cdv))->sp vs H Q E ->
   ∃ t,PSs (F90 (CX1 P w) P w K mg base N qual (c00 st) f cdv A outer s H E) (i10 st) t/\t { nx:=λ_ H'=>Q .non H',rt:=Q } (L2.start N vs) H):X50 P w K mg base (CX1 P w) (k + 1) f fd ps sp:=by
 obtain⟨oc,od,kV,doc,pm,an,cdv,ct,osl,rfl,lk,hcd⟩:=F.ex;exact D42 lk hcd S len λA outer s H vs Q E hr hsp=>hb cdv rfl A outer s H vs Q E hr hsp
theorem h31:∀ {ss:List S}{vs:List V}{i:Nat}{s:S}{n:Nat},RvA K zA H ss vs->(ss.map some++ì n none)[i]?=some (some s)->∃ v,(vs.map some++ì n none)[i]?=some (some v)/\RvP K zA H s v
 |[],_,i,s,n,h,e=>by
  cases h;simp only[map_nil,Ì7] at e;rw[Ò5] at e;split at e <;> cases e
 |a::ss,_,0,s,n,h,e=>by
  cases h with
  |cons h1 h2 =>
   simp only[Å7,List.cons_append,Ê8] at e;cases e;exact⟨_,rfl,h1⟩
 |a::ss,_,i + 1,s,n,h,e=>by
  cases h with
  |cons h1 h2 =>
   obtain⟨v,k1,k2⟩:=h31 (i:=i) (s:=s) (n:=n) h2 (by simpa using e)
   exact⟨v,by simpa using k1,k2⟩
theorem Æ0.len{α β:Type}{R:α->β->Prop}:∀ {l:List α}{m:List β},Æ0 R l m->l.length=m.length
 |[],_,h=>by cases h;rfl
 |_::_,_,h=>by
  cases h with
  |cons h1 h2=>simp[Æ0.len h2]
theorem P51(h:RvA K zA H ss vs)(hn:∀ s∈ss,∀ xs,s≠.fr xs):RW K H zA zA (λ_=>none) H (Q.start N.length ss) (L2.start N vs):=by
 have hl:ss.length=vs.length:=Æ0.len h;refine⟨?_,λi j a e=>(nomatch e),λi a e=>(nomatch e),λi a e=>(nomatch e),λi s e=>?_,Ext.refl,.inl rfl,λi a e=>(nomatch e)⟩
 ·unfold Q.start L2.start;simp[hl]
 ·unfold Q.start at e;obtain⟨v,k1,k2⟩:=h31 h e;refine⟨v,?_,?_⟩
  ·unfold L2.start;rw[← hl];exact k1
  ·cases s with
   |d x=>exact⟨rfl,by rw[w50];exact k2⟩|z=>exact⟨rfl,k2⟩
   |fr xs =>
    rcases Á7.mp (î e) with q | q
    ·obtain⟨s',q1,q2⟩:=Ù.mp q;cases q2;exact absurd rfl (hn _ q1 xs)
    ·cases List.eq_of_mem_replicate q
theorem g72(st:e30 zA z H):A32 zA z1=L60 z z1:=by
 have st:=st.zat;cases zA with
 |none =>
  cases z with
  |none=>rfl|some p=>exact st.elim
 |some a =>
  cases z with
  |none=>exact st.elim|some p=>rfl
theorem A31(st:e30 zA z H):z.isNone=zA.isNone:=by
 have st:=st.zat;cases zA with
 |none =>
  cases z with
  |none=>rfl|some p=>exact st.elim
 |some a =>
  cases z with
  |none=>exact st.elim|some p=>rfl
theorem A41(g:GX P w K mg base G cn){lm:Bool}{N ps:List Str}{nm:Str}{st:Ä8}{fa:Ç}{fd:Å2}{b:Sm}{f:Nat}{F':FT}(Fn:Fun K nm nm st fa fd)(Sc:k20 N ps (c00 st))(hl:N.all (U40 (c00 st))=true)
  (ch:mtS lm G.fns G.nums cn (c00 st) N b (i10 st)=true) (hq:isQ b=true) (hlam:lm=true->∃ k fR fdR,G.lv=k + 2/\A42 P w K mg base G.cls fR fdR/\A52 K nm fd/\Low P w K mg base G k)
  (hF:∀ l z,F' false f l z=run G.F (.code ps.length N.length b) l z):X50 P w K mg base (CX1 P w) (G.lv + 1) fa fd ps (spF K { G with F:=F',lv:=G.lv + 1 } f ps.length):=by
 refine X12 Fn Sc (λvs H Q E h=>h.1) λcdv hcd A outer s H vs Qv E hr hsp=>?_;obtain⟨hlen,zA,z,ss,r,rv,st',e,po⟩:=hsp;refine⟨_,(v82 (H0:=H) (zE:=zA) (v92 g Sc hl hr hcd hlam) b ch).1 hq,?_⟩;have e0:(if ss.length=ps.length/\ps.length<=N.length then(match ex G.F z.isNone b (Q.start N.length (ss.map plS)) z with
  |some (.ok (.nx _) z1)=>some (R.ok (S.d .non) (L60 z z1))|some (.ok (.rt s) z1)=>some (R.ok s (L60 z z1))|some (.er c z1)=>some (R.er c (L60 z z1))
  |none=>none) else none)=some r:=by
  have:=hF ss z;exact this.symm.trans e
 rw[A31 st'] at e0;split at e0
 ·have rw0:RW K H zA zA (λ_=>none) H (Q.start N.length (ss.map plS)) (L2.start N vs):=P51 rv.plS λs hs xs=>by
   obtain⟨s',_,rfl⟩:=Ù.mp hs;cases s' <;> exact λh=>nomatch h
  split at e0
  ·rename_i ρ z1 e1;cases e0;refine⟨zA,_,_,z,_,rw0,st',e1,λzA' ow' σ' H' r' st1 _=>?_⟩;refine po .non H' r'.ext ?_ (show Hd K (hz zA H') .non .non from Hd.non);rw[← g72 st'];exact k32 r'.zok st1
  ·rename_i s1 z1 e1;cases e0;refine⟨zA,_,_,z,_,rw0,st',e1,λv H' nz x st1 rv'=>?_⟩;exact po v H' x (by rw[← g72 st'];exact st1) rv'
  ·rename_i c z1 e1;cases e0;refine⟨zA,_,_,z,_,rw0,st',e1,λe H' x st1 hn=>?_⟩;exact po e H' x (by rw[← g72 st'];exact st1) hn
  ·cases e0
 ·cases e0
def lev(G:Gs)(T:List Df)(k:Nat):Gs:={ G with F:=T00 T k,lv:=k }
theorem w02{T:List Df}(num:∀ p∈G.nums,∃ t,mg p.1=some (.int p.2 t))(blt:∀ n∈e52,mg n=none)
  (cls:∀ c x,cn[c]?=some x->mg x=some (.ref (G.cls c))/\Ì2 K (G.cls c) [.type "ValueError",.type "Exception",.type "BaseException",.type "object"] "ValueError.__new__"=true)
  (hd:∀ (f:Nat) (nm:Str) (ps:List Str),G.fns[f]?=some (nm,ps)->∃ (fa:Ç) (fd:Å2),mg nm=some (.ref fa)/\Ó6 K (.ref fa)=true/\Binds K fd ps [] /\
   ((∃ (lm:Bool) (N:List Str) (st:Ä8) (b:Sm),T[f]?=some (Df.code ps.length N.length b)/\Fun K nm nm st fa fd/\k20 N ps (c00 st)/\N.all (U40 (c00 st))=true/\isQ b=true/\mtS lm G.fns G.nums cn (c00 st) N b (i10 st)=true/\(lm=true->∃ fR fdR,A42 P w K mg base G.cls fR fdR/\A52 K nm fd)) ∨
    T[f]?=none)):∀ k,GX P w K mg base (lev G T k) cn:=by
 have zero:∀ k,k < 3->GX P w K mg base (lev G T k) cn:=λk hk=>by
  refine⟨λf nm ps h=>?_,num,blt,cls⟩;obtain⟨fa,fd,h1,h2,h3,_⟩:=hd f nm ps h;refine⟨fa,fd,h1,h2,h3,λvs H Q E q=>q.1,λA outer s H args us vs Q E hr he hb hv hs=>?_⟩;obtain⟨_,zA,z,ss,r,_,_,e,_⟩:=hs
  match k,hk with
  |0,_=>cases e
  |1,_=>cases e
  |2,_=>cases e
 intro k
 induction k using Nat.strongRecOn with
 |ind k ih =>
  match k,ih with
  |0,_=>exact zero 0 (-0)|1,_=>exact zero 1 (-0)|2,_=>exact zero 2 (-0)
  |k + 3,ih =>
   refine⟨λf nm ps h=>?_,num,blt,cls⟩;obtain⟨fa,fd,h1,h2,h3,h4⟩:=hd f nm ps h;refine⟨fa,fd,h1,h2,h3,?_⟩;rcases h4 with ⟨lm,N,st,b,k1,k2,k3,k4,k5,k6,k7⟩ | h4
   ·refine A41 (G:=lev G T (k + 2)) (F':=T00 T (k + 3)) (ih (k + 2) ∅) k2 k3 k4 k6 k5 (λhlm=>?_) λl z=>?_
    ·obtain⟨fR,fdR,L,D⟩:=k7 hlm;exact⟨k,fR,fdR,rfl,L,D,λf nm ps h=>(ih k ∅).gok f nm ps h⟩
    ·show(match T[f]? with | some d=>run (T00 T (k + 2)) d l | none=>M.no) z=_
     rw[k1];rfl
   ·refine⟨λvs H Q E q=>q.1,λA outer s H args us vs Q E hr he hb hv hs=>?_⟩;obtain⟨_,zA,z,ss,r,_,_,e,_⟩:=hs;have e':(match T[f]? with | some d=>run (T00 T (k + 2)) d ss | none=>M.no) z=some r:=e
    rw[h4] at e';cases e'
end
end Q
namespace L2
open PySem PySem.W PySem.Calls PyProof.Rows
def D90(thr sok:Thread->Bool)(stp:SharedT->Thread->Option (SharedT × Thread)):Nat->SharedT->Thread->Option SharedT
 |0,_,_=>none
 |n + 1,s,t=>match thr t with
  |true=>some s
  |false=>match sok t with
   |false=>none
   |true=>match stp s t with
    |some (s',t')=>D90 thr sok stp n s' t'|none=>none
theorem U50:∀ {n:Nat}{s s':SharedT}{t:Thread},D90 through (stepOk n₀ ann) (stepT (denote tb) p w) n s t=some s'->topRun tb p w n₀ ann n s.abs t=some s'.abs
 |0,_,_,_,h=>by cases h
 |n + 1,s,s',t,h=>by
  unfold D90 at h;unfold topRun;cases ht:through t with
  |true=>rw[ht] at h;cases h;rfl
  |false =>
   rw[ht] at h;cases hok:stepOk n₀ ann t with
   |false=>rw[hok] at h;cases h
   |true =>
    rw[hok] at h;cases hst:stepT (denote tb) p w s t with
    |none=>rw[hst] at h;cases h
    |some r=>obtain⟨s₂,t₂⟩:=r;rw[hst] at h;rw[stepT_spec hst];exact U50 h
def grow:List Obj->Nat->BT->BT
 |[],_,t=>t|o::r,i,t=>grow r (i + 1) (t.ins i o)
def g82(w:è)(os:OsState):SharedT:=⟨grow (Ê1 w.params).objs.toList 0 .nil,11,(Ê1 w.params).life,Array.mk [],boot_drawn,boot_toks,os⟩
theorem A51:∀ (w:è) (os:OsState),(g82 w os).abs=⟨Ê1 w.params,Array.mk [],boot_drawn,boot_toks,os⟩:=λw os=>by kernel_rfl
theorem A61:∀ w:è,((Ê1 w.params).isNs ä&&(Array.mk []:Array Ý7).size == 0,(Ê1 w.params).objs.size,(Ê1 w.params).nsMap ä "__annotations__")=(true,11,some (.ref 6)):=λw=>by kernel_rfl
theorem g92{p q:Ý}{loose:List Str}{Xt:Æ->Bool}{α:Type}{Yf:Æ->α}{Ya:è->α}{N:Nat}
  (e:opening p=plainProg p.main.scope.names) (hN:ble 600 N=true) (f:∀ s,fenceModules? p s=some s)
  (run:∀ (w:è) (os:OsState),(D90 through (stepOk 11 (some (.ref 6))) (stepT (denote treeTable) p w) N (g82 w os) (topStub p)).map (λs =>
   (staticsOk (Ï4 p.main.body) (Ê1 w.params) s.abs.heap&&namesBound p s.abs.heap&&gensDone s.abs&&laidKept (Ê1 w.params) s.abs.heap,
    openSeen q loose (Ï4 p.main.body) Xt true s.abs,Yf s.abs))=some (true,openGood q loose,Ya w)):LeftO p q loose Xt Yf Ya N:=λw=>by
 obtain⟨⟨h,gs,d,k,os⟩,e1,e2⟩:=Ë.mp (boot_open (N:=N) e hN f w);obtain⟨rfl,rfl,rfl,rfl⟩:h=Ê1 w.params/\gs=Array.mk []/\d=boot_drawn/\k=boot_toks:=by simpa using e2
 obtain⟨z1,z2,z3⟩:_/\_/\_:=by simpa only [Ï7] using A61 w
 obtain⟨s1,r1,r2⟩:=Ë.mp (run w os);obtain⟨l1,l2,l3⟩:_/\_/\_:=by simpa only [Ï7] using r2
 have r:=U50 r1;rw[A51] at r;unfold openEnds;rw[e1];show Î3 _ (topFrom treeTable p w N _)=_;unfold topFrom;dsimp only;rw[z1,z2,z3,r];show Î3 _ (match staticsOk (Ï4 p.main.body) (Ê1 w.params) s1.abs.heap&&namesBound p s1.abs.heap&&gensDone s1.abs&&laidKept (Ê1 w.params) s1.abs.heap with | true=>_ | false=>_)=_
 rw[l1];exact congrArg Option.some (Prod.ext l2 l3)
def U60(o:Obj):Bool:=match o with
 |⟨.none,none,.fields vs,sl⟩=>vs.isEmpty&&sl.isEmpty|_=>false
def L42(h:é)(a:Ç):Option Obj:=match h.get? a with
 |some o=>if U60 o then none else some o|none=>none
def fragOf(h:é):Frag:=(ë h.objs.size).filterMap λa=>(L42 h a).map λo=>(a,o)
theorem u50(g:Ç->Option Obj)(a:Ç):∀ l:List Ç,(l.filterMap λa=>(g a).map λo=>(a,o)).lookup a=if a∈l then g a else none
 |[]=>rfl
 |b::r=>by
  by_cases hb:a=b
  ·subst hb;rw[if_pos Ì];cases hg:g a with
   |none =>
    rw[Á3,hg];show(r.filterMap λa=>(g a).map λo=>(a,o)).lookup a=none;rw[u50 g a r];split
    ·exact hg
    ·rfl
   |some o =>
    rw[Á3,hg];show Ì9 a ((a,o)::_)=some o;rw[List.lookup_cons_self]
  ·have hm:(a∈b::r)↔a∈r:=by rw[Â9];exact⟨λh=>h.resolve_left hb,Ù7⟩
   have ih:=u50 g a r;have e:(if a∈b::r then g a else none)=if a∈r then g a else none:=by simp only[hm]
   rw[e,← ih];cases hg:g b with
   |none=>rw[Á3,hg];rfl
   |some o =>
    rw[Á3,hg];show Ì9 a ((b,o)::_)=_;have:(a == b)=false:=by simpa using hb
    simp only[Ì9,this]
theorem A71(h:é):(fragOf h).In h:=λa o e=>by
 unfold fragOf at e;rw[u50] at e;split at e
 ·unfold L42 at e;cases hg:h.get? a with
  |none=>rw[hg] at e;cases e
  |some u =>
   rw[hg] at e;dsimp only at e;split at e
   ·cases e
   ·exact e
 ·cases e
theorem h02(h:U60 o=true):o=tabObj #[]:=by
 unfold U60 at h;split at h
 ·rename_i vs sl;rw[Á,Array.isEmpty_iff,Array.isEmpty_iff] at h;obtain⟨rfl,rfl⟩:=h;rfl
 ·cases h
theorem n61(e:h.get? a=some o)(t:U60 o=true):(fragOf h).lookup a=none:=by
 unfold fragOf;rw[u50];split
 ·unfold L42;rw[e];exact if_pos t
 ·rfl
def A81(K:Frag)(x:Str):Option (Str × Str × Î0 × FuncBody × ý × Ç × List (Str × Ç) × Ä × Ç × Bool):=match nsIn K ä x with
 |some (some (.ref at0))=>(match K.lookup at0 with
  |some ⟨_,_,.func fd,_⟩=>some (fd.name,fd.qualname,fd.params,fd.body,fd.scope,fd.globals,fd.closure,fd.defaults,fd.builtins,codeIn K fd.code x)
  |_=>none)
 |_=>none
def h32(x:Str)(st:Ä8):Option (Str × Str × Î0 × FuncBody × ý × Ç × List (Str × Ç) × Ä × Ç × Bool):=some (x,x,J50 st,.stmts (i10 st),c00 st,ä,[],.none,Í6,true)
theorem b11{K:Frag}{x:Str}{st:Ä8}(e:A81 K x=h32 x st):∃ f fd,nsIn K ä x=some (some (.ref f))/\Fun K x x st f fd/\∃ oc od sl,K.lookup f=some ⟨oc,od,.func fd,sl⟩:=by
 unfold A81 h32 at e;split at e
 ·rename_i f hf;split at e
  ·rename_i oc od fd sl hl;obtain⟨nm,qn,pm,bd,sc,gl,cl,df,kd,dc,py,an,cd,ct,bl⟩:=fd;simp only[Ï7,É9] at e;obtain⟨rfl,rfl,rfl,rfl,rfl,rfl,rfl,rfl,rfl,hc⟩:=e;exact⟨f,_,hf,⟨⟨oc,od,kd,dc,py,an,cd,ct,sl,rfl,hl,hc⟩,by simp only[keepIn,hl]⟩,oc,od,sl,hl⟩
  ·cases e
 ·cases e
def tab0At(h:é)(T:Ç):Bool:=match h.get? T with
 |some o=>U60 o|none=>false
theorem A91{h:é}{T:Ç}(e:tab0At h T=true):h.get? T=some (tabObj #[]):=by
 unfold tab0At at e;split at e
 ·rename_i o ho;rw[ho,h02 e]
 ·cases e
def B01(h:é)(K:Frag)(x:Str):Option Addr:=match nsIn K ä x with
 |some (some (.ref at0))=>(match K.lookup at0 with
  |some ⟨_,_,.func fn0,_⟩=>(match fn0.code with
   |.ref c=>(match K.lookup c with
    |some ⟨_,_,.fields vs,_⟩=>(match (vs[11]?:Option Ä) with
     |some (.ref T)=>if codeHdIn K c T&&tab0At h T then some T else none
     |_=>none)
    |_=>none)
   |_=>none)
  |_=>none)
 |_=>none
theorem n71{h:é}{K:Frag}{x:Str}{T:Ç}(e:B01 h K x=some T):h.get? T=some (tabObj #[])/\∃ f oc od fd sl c,nsIn K ä x=some (some (.ref f))/\K.lookup f=some ⟨oc,od,.func fd,sl⟩/\fd.code=.ref c/\codeHdIn K c T=true:=by
 unfold B01 at e;split at e
 ·rename_i f hf;split at e
  ·rename_i oc od fd sl hl;split at e
   ·rename_i c hc;split at e
    ·split at e
     ·rename_i T' _;split at e
      ·rename_i q;cases e;rw[Á] at q;obtain⟨q1,q2⟩:=q;exact⟨A91 q2,f,oc,od,fd,sl,c,hf,hl,hc,q1⟩
      ·cases e
     ·cases e
    ·cases e
   ·cases e
  ·cases e
 ·cases e
def h80:List Str:=["NoWeb","NoLot","NoPlaces","NoPlace","NoTie","NoChance","NoChances","NoPaper","TooMany","NoText","NoLine","NoDeed"]
def U70(K:Frag)(x:Str):Option Addr:=match nsIn K ä x with
 |some (some (.ref f))=>some f|_=>none
theorem M70{K:Frag}{x:Str}{f:Ç}(e:U70 K x=some f):nsIn K ä x=some (some (.ref f)):=by
 unfold U70 at e;split at e
 ·cases e;assumption
 ·cases e
abbrev O72:=Option (Option Ä) × Option (Option Ä) × Option Bool × Option Bool × Option (Option Ä) × Bool × Option Bool × Option Bool × Bool × List (Option Bool)
def b21(K:Frag)(C:Ç):O72:=(findIn K (.ref C) "__getattribute__",findIn K (.ref C) "__getattr__",mroIn K C (.type "BaseException"),mroIn K C (.type "object"),findIn K (.ref C) "__class__",hasDictIn K C,kitOne K (.ref C) (.type "ValueError"),
 (U70 K "ChanceError").bind λD=>exmOne K (.ref C) (.ref D),excIn K C [.type "ValueError",.type "Exception",.type "BaseException",.type "object"] "ValueError.__new__",h80.map λy=>(U70 K y).bind λB=>kitOne K (.ref C) (.ref B))
def B11(x:Str):O72:=(some (some (Ð7 "BaseException.__getattribute__")),some (none:Option Ä),some true,some true,some (some (Ð7 "object.__class__")),true,some true,some true,true,h80.map λy=>some (decide (x=y)))
def b31(K:Frag)(x:Str):Option Int:=match nsIn K ä x with
 |some (some (.int i _))=>some i|_=>none
theorem b41{K:Frag}{x:Str}{i:Int}(e:b31 K x=some i):∃ t,nsIn K ä x=some (some (.int i t)):=by
 unfold b31 at e;split at e
 ·rename_i t h;cases e;exact⟨t,h⟩
 ·cases e
def b51(K:Frag)(x:Str):Bool:=match nsIn K ä x with
 |some none=>true|_=>false
theorem b61{K:Frag}{x:Str}(e:b51 K x=true):nsIn K ä x=some none:=by
 unfold b51 at e;split at e
 ·assumption
 ·cases e
structure n30 where
 ds:List (Str × Stmt)
 is:List (Str × Int)
 ns:List Str
 ms:List Str
 cs:List Str
def n30.obs(q:n30)(s:Æ) :=
 let K:=fragOf s.heap
 (q.ds.map λd=>A81 K d.1,q.is.map λd=>b31 K d.1,q.ns.map (b51 K),q.ms.map λx=>(B01 s.heap K x).isSome,q.cs.map λx=>(U70 K x).map (b21 K),
  (specialIn K (.builtin "object.__class__") "__get__",takesIn K (.builtin "object.__class__")))
def n30.due(q:n30)(_:è) :=
 (q.ds.map λd=>h32 d.1 d.2,q.is.map λd=>some d.2,q.ns.map λ_=>true,q.ms.map λ_=>true,q.cs.map λx=>some (B11 x),
  (some (some (Ð7 "getset_descriptor.__get__")),some true))
structure Facts(q:n30)(K:Frag)(h:Heap):Prop where
 fn:∀ d∈q.ds,∃ f fd,nsIn K mainGlobals d.1=some (some (.ref f))/\Fun K d.1 d.1 d.2 f fd/\∃ oc od sl,K.lookup f=some ⟨oc,od,.func fd,sl⟩
 it:∀ d∈q.is,∃ t,nsIn K mainGlobals d.1=some (some (.int d.2 t))
 no:∀ x∈q.ns,nsIn K mainGlobals x=some none
 mt:∀ x∈q.ms,∃ T,h.get? T=some (tabObj #[])/\K.lookup T=none/\∃ f oc od fd sl c,nsIn K mainGlobals x=some (some (.ref f))/\K.lookup f=some ⟨oc,od,.func fd,sl⟩/\fd.code=.ref c/\codeHdIn K c T=true
 cl:∀ x∈q.cs,∃ C,nsIn K mainGlobals x=some (some (.ref C))/\b21 K C=B11 x
 sp:specialIn K (.builtin "object.__class__") "__get__"=some (some (Value.builtin "getset_descriptor.__get__"))
 tk:takesIn K (.builtin "object.__class__")=some true
theorem H30{α β:Type}{f g:α->β}:∀ {l:List α},l.map f=l.map g->∀ a∈l,f a=g a:=λ{l} h a ha=>List.map_inj_left.mp h a ha
theorem n30.facts(q:n30)(w:è)(s:Æ)(e:q.obs s=q.due w):Facts q (fragOf s.heap) s.heap:=by
 unfold n30.obs n30.due at e;simp only[Ï7] at e;obtain⟨e1,e2,e3,e4,e5,e6,e7⟩:=e;refine⟨λd hd=>b11 (H30 e1 d hd),λd hd=>b41 (H30 e2 d hd),λx hx=>b61 (H30 e3 x hx),λx hx=>?_,λx hx=>?_,e6,e7⟩
 ·obtain⟨T,hT⟩:=Þ3.mp (H30 e4 x hx);obtain⟨h1,h2⟩:=n71 hT;exact⟨T,h1,n61 h1 rfl,h2⟩
 ·obtain⟨C,h1,h2⟩:=Ë.mp (H30 e5 x hx);exact⟨C,M70 h1,h2⟩
def n30.hook(q:n30):Hook where
 α:=_
 obs:=q.obs
 val:=q.due
 says:=λ_ h=>∃ K:Frag,K.In h/\Facts q K h
 of:=λw s e=>⟨_,A71 _,q.facts w s e⟩
 keeps:=λ_ h h' ⟨K,X,F⟩ k=>⟨K,X.keeps k,⟨F.fn,F.it,F.no,λx hx=>let ⟨T,a,b⟩:=F.mt x hx;⟨T,k _ _ a,b⟩,F.cl,F.sp,F.tk⟩⟩
end L2
namespace Q
open PySem L2 PySem.Spec PyProof.Rows
structure Row where
 nm:Str
 ps:List Str
 st:Stmt
 N:List Str
 b:Sm
 lm:Bool
def B21(N ps:List Str)(sc:ý):Bool:=sc.kind == .function&&!sc.isCoroutine&&!sc.isGenerator&&decide N.Nodup&&N.take ps.length == ps&&ps.all (λx=>sc.names.lookup x == some .local || sc.names.lookup x == some .cell)&&sc.names.all λy=>y.2 != .free
theorem h41(h:B21 N ps sc=true):k20 N ps sc:=by
 unfold B21 at h;simp only[Á,À3,beq_iff_eq,Æ9,decide_eq_true_eq,Å6] at h;obtain⟨⟨⟨⟨⟨⟨h1,h2⟩,h3⟩,h4⟩,h5⟩,h6⟩,h7⟩:=h;exact⟨h1,h2,h3,h4,h5,h6,λy hy=>by simpa using h7 y hy⟩
def B31(r:Row):Prop:=∀ (kV doc pm:Ä) (an:Option Ç) (cdv ct:Ä) (us:List Ä),us.length=r.ps.length->bindArgs (fnOf r.nm r.nm (J50 r.st) (i10 r.st) (c00 r.st) .none kV doc pm an cdv ct) ⟨us,[]⟩=pure (r.ps.zip us)
def o40:List Row->Prop
 |[]=>True|r::l=>B31 r/\o40 l
theorem o40.at:∀ {l:List Row}{r:Row},o40 l->r∈l->B31 r
 |_::_,_,h,.head _=>h.1|_::_,_,h,.tail _ m=>o40.at h.2 m
theorem us1(h:us.length=1):∃ a,us=[a]:=List.length_eq_one_iff.mp h
theorem us2(h:us.length=2):∃ a b,us=[a,b]:=by
 match us,h with
 |[a,b],_=>exact⟨a,b,rfl⟩
theorem us3(h:us.length=3):∃ a b c,us=[a,b,c]:=by
 match us,h with
 |[a,b,c],_=>exact⟨a,b,c,rfl⟩
theorem us4(h:us.length=4):∃ a b c d,us=[a,b,c,d]:=by
 match us,h with
 |[a,b,c,d],_=>exact⟨a,b,c,d,rfl⟩
theorem us5(h:us.length=5):∃ a b c d e,us=[a,b,c,d,e]:=by
 match us,h with
 |[a,b,c,d,e],_=>exact⟨a,b,c,d,e,rfl⟩
def k42(fns:List (Str × List Str))(nums:List (Str × Int))(r:Row):Bool:=mtS r.lm fns nums h80 (c00 r.st) r.N r.b (i10 r.st)&&isQ r.b&&r.N.all (U40 (c00 r.st))&&B21 r.N r.ps (c00 r.st)
def G30(rows:List Row):List (Str × List Str):=rows.map λr=>(r.nm,r.ps)
def tabOf(rows:List Row):List Df:=rows.map λr=>Df.code r.ps.length r.N.length r.b
def H40(rows:List Row)(nums:List (Str × Int))(mn:List Str)(ex:List (Str × Ä8)):n30:=⟨rows.map (λr=>(r.nm,r.st))++ex,nums,"ValueError"::e52,mn,h80⟩
def clsAt(K:Â)(c:Nat):Addr:=(U70 K (h80.getD c "")).getD 0
theorem w12{K:Â}{C:Ç}{c:Nat}{x:Str}(hc:h80[c]?=some x)(h:Ñ9 K ä x=some (some (.ref C))):clsAt K c=C:=by
 unfold clsAt;rw[Ö,hc];show(U70 K x).getD 0=C;unfold U70;rw[h];rfl
theorem w22{K:Â}{h:é}{mg:Str->Option Ä}{q:n30}{x:Str}{j:Nat}(X:K.In h)(G:h.Ns ä mg)(F:Facts q K h)(hx:x∈q.cs)(hj:names12[j]?=some x)(hv:("ValueError":Str)∈q.ns):∃ C,Ñ9 K ä x=some (some (.ref C))/\S00 K mg C j/\Ì2 K C [.type "ValueError",.type "Exception",.type "BaseException",.type "object"] "ValueError.__new__"=true:=by
 obtain⟨C,hC,e⟩:=F.cl x hx;unfold b21 B11 at e;simp only[Ï7] at e;obtain⟨u1,u2,u3,u4,u5,hd,ve,ce,ex,ys⟩:=e;obtain⟨D,hD,ce⟩:=Ò.mp ce;have lt:j < 12:=(ß.mp hj).1;refine⟨C,hC,⟨λi y hy=>?_,⟨u1,u2,u3,u4,u5,F.sp,F.tk⟩,hd,ve,mg_none_of X G (F.no _ hv),⟨D,mg_of X G (M70 hD),ce⟩,lt⟩,ex⟩;have hm:=H30 ys y (î hy);obtain⟨B,hB,hk⟩:=Ò.mp hm;refine⟨B,mg_of X G (M70 hB),hk.trans (congrArg some (decide_eq_decide.mpr ⟨λq=>?_,λq=>?_⟩))⟩
 ·subst q;have nd:names12.Nodup:=by decide +kernel
  exact(List.getElem?_inj (ß.mp hy).1 nd).mp (hy.trans hj.symm)
 ·subst q;rw[hj] at hy;cases hy;rfl
section
variable {P:Ý}{w:è}{K:Â}{mg:Str->Option Ä}{base:é}
theorem ok0(F:X50 P w K mg base (CX1 P w) k f fd ps sp):X50 P w K mg base CX0 k f fd ps (λvs H Q _=>sp vs H Q λ_ _ _=>False) :=
 ⟨λvs H Q E h=>F.len _ _ _ _ h,λA outer s H args us vs Q E hr he hb hv hs=>È1 (F.run A outer s H args us vs Q _ hr he hb hv hs) λr s' h=>by
  cases r with
  |error e =>
   obtain⟨_,_,_,_,_,_,_,_,_,_,_,_,_,hE⟩:=h;exact hE.elim
  |ok fl=>cases fl <;> exact h⟩
theorem X22:ß2 (#[]:Array Ä).toList:=by first | trivial | (unfold ß2;trivial)
theorem p70.noT[TB:Tb](h:p70 K H a xs):p70 K (hz none H) a xs:=by
 rcases h with (h | ⟨o,h⟩) | h
 ·exact .inl (.inl (d90 h (λq=>nomatch q)))
 ·exact .inl (.inr ⟨o,d90 h (λq=>nomatch q)⟩)
 ·exact .inr h
theorem w32[TB:Tb]{G:Gs}{T:List Df}{k f:Nat}{H:Hp}{a:Ç}{ns:List Int}(pure:b40 T k f [.d (.lst (ns.map D.int))] none=some (.ok (.d (.bl true)) none))(hH:∀ p∈TB.tb,H p.1=some (.tbl #[]))(hS:p70 K H a (ns.map V.int)) :
  spF K (lev G T k) f 1 [.ref a] H (λv _=>v=.bl true) λ_ _ _=>False:=by
 refine⟨rfl,none,none,[.d (.lst (ns.map D.int))],_,.cons ?_ .nil,⟨trivial,λp hp=>⟨#[],hH p hp,X22,λpos c e=>nomatch e⟩⟩,pure,λv H' x st rv=>Hd.bl_ (show Hd K (hz none H') (.bl true) v from rv)⟩;show Hd K (hz none H) (.lst (ns.map D.int)) (.ref a);unfold Hd;exact⟨a,ns.map V.int,rfl,hS.noT,HdA.ints ns⟩
end
def O82(nm:Str):Str:=(Ï5 nm ⟨.function,[],false,false,[]⟩ 0 0 .none).qual++"<lambda>"
theorem w42{rows:List Row}{f:Nat}{nm:Str}{ps:List Str}(h:(G30 rows)[f]?=some (nm,ps)):∃ r∈rows,rows[f]?=some r/\r.nm=nm/\r.ps=ps:=by
 unfold G30 at h;rw[Ü] at h;obtain⟨r,h1,h2⟩:=Ë.mp h;cases h2;exact⟨r,î h1,h1,rfl,rfl⟩
section
variable [TB:Tb] {P:Ý}{w:è}{K:Â}{h:é}{mg:Str->Option Ä}{base:é}{rows:List Row}{nums:List (Str × Int)}{mn:List Str}{ex:List (Str × Ä8)}
def w52(rows:List Row)(mn:List Str)(ex:List (Str × Ä8)):Prop:=∀ r∈rows,r.lm=true->r.nm∈mn/\∃ (sR:Ä8) (n:Nat),(("_law_refused":Str),sR)∈ex/\c00 sR=u00/\i10 sR=Z50 n/\B31 ⟨"_law_refused",["_law_call"],sR,[],.nil,false⟩
def L52[TB:Tb](K:Â)(rows:List Row):Prop:=∀ r∈rows,r.lm=true->∀ fd,(∃ f oc od sl,Ñ9 K ä r.nm=some (some (.ref f))/\K.lookup f=some ⟨oc,od,.func fd,sl⟩)->A52 K r.nm fd
theorem B41(X:K.In h)(Gn:h.Ns ä mg)(Q:Facts (H40 rows nums mn ex) K h):∀ c x,h80[c]?=some x->Ñ9 K ä x=some (some (.ref (clsAt K c)))/\S00 K mg (clsAt K c) c/\Ì2 K (clsAt K c) [.type "ValueError",.type "Exception",.type "BaseException",.type "object"] "ValueError.__new__"=true:=λc x hc=>by
 obtain⟨C,h1,h2,h3⟩:=w22 (x:=x) (j:=c) X Gn Q (î hc) hc Ì;rw[w12 hc h1];exact⟨h1,h2,h3⟩
theorem B51(X:K.In h)(Gn:h.Ns ä mg)(Q:Facts (H40 rows nums mn ex) K h)(bm:BMain mg base)(hR:w52 rows mn ex)(hr:r∈rows)(hlm:r.lm=true):∃ fR fdR,A42 P w K mg base (clsAt K) fR fdR:=by
 obtain⟨hmn,sR,n,g1,g2,g3,g4⟩:=hR r hr hlm;obtain⟨fR,fdR,a2,F2,oc2,od2,sl2,lk2⟩:=Q.fn ("_law_refused",sR) (í _ g1);refine⟨fR,fdR,bm,λj hj=>?_,mg_of X Gn a2,F2.kp,F2.binds g4,λk=>p82 F2 g2 g3 (mg_none_of X Gn (Q.no _ (È _ (-0)))) (mg_none_of X Gn (Q.no _ (È _ (-0))))⟩
 have hx:∃ x,h80[j]?=some x:=⟨_,ç (by exact hj)⟩
 obtain⟨x,hx⟩:=hx;exact(B41 X Gn Q j x hx).2.1
theorem h42(X:K.In h)(Gn:h.Ns ä mg)(Q:Facts (H40 rows nums mn ex) K h)(ok:rows.all (k42 (G30 rows) nums)=true)(bd:o40 rows)(bm:BMain mg base)(hR:w52 rows mn ex)(hT:L52 K rows)(F0:FT):∀ k,GX P w K mg base (lev ⟨G30 rows,nums,F0,clsAt K,0⟩ (tabOf rows) k) h80:=by
 refine w02 (λp hp=>?_) (λn hn=>?_) (λc x hc=>?_) λf nm ps hf=>?_
 ·obtain⟨t,e⟩:=Q.it p hp;exact⟨t,mg_of X Gn e⟩
 ·exact mg_none_of X Gn (Q.no n (È _ hn))
 ·obtain⟨h1,_,h3⟩:=B41 X Gn Q c x hc;exact⟨mg_of X Gn h1,h3⟩
 ·obtain⟨r,hr,hr2,rfl,rfl⟩:=w42 hf;obtain⟨fa,fd,a1,F1,oc,od,sl,lk⟩:=Q.fn (r.nm,r.st) (Æ6 _ (Ù.mpr ⟨r,hr,rfl⟩));have rb:=Õ.mp ok r hr;unfold k42 at rb;simp only[Á] at rb;obtain⟨⟨⟨b1,b2⟩,b3⟩,b4⟩:=rb;refine⟨fa,fd,mg_of X Gn a1,F1.kp,F1.binds (bd.at hr),.inl ⟨r.lm,r.N,r.st,r.b,?_,F1,h41 b4,b3,b2,b1,λhlm=>?_⟩⟩
  ·unfold tabOf;rw[Ü,hr2];rfl
  ·obtain⟨fR,fdR,L⟩:=B51 (P:=P) (w:=w) X Gn Q bm hR hr hlm;exact⟨fR,fdR,L,hT r hr hlm fd ⟨fa,oc,od,sl,a1,lk⟩⟩
theorem w62(X:K.In h)(Gn:h.Ns ä mg)(Q:Facts (H40 rows nums mn ex) K h)(ok:rows.all (k42 (G30 rows) nums)=true)(bd:o40 rows)(bm:BMain mg base)(hR:w52 rows mn ex)(hT:L52 K rows)(F0:FT)(k:Nat)(hi:rows[i]?=some r)(F1:Fun K r.nm r.nm r.st fa fd)
  (hfd:∃ f oc od sl,Ñ9 K ä r.nm=some (some (.ref f))/\K.lookup f=some ⟨oc,od,.func fd,sl⟩):X50 P w K mg base (CX1 P w) (k + 3) fa fd r.ps (spF K (lev ⟨G30 rows,nums,F0,clsAt K,0⟩ (tabOf rows) (k + 3)) i r.ps.length):=by
 have hr:=î hi;have rb:=Õ.mp ok r hr;unfold k42 at rb;simp only[Á] at rb;obtain⟨⟨⟨b1,b2⟩,b3⟩,b4⟩:=rb;have all:=h42 (P:=P) (w:=w) X Gn Q ok bd bm hR hT F0;refine A41 (G:=lev ⟨G30 rows,nums,F0,clsAt K,0⟩ (tabOf rows) (k + 2)) (F':=T00 (tabOf rows) (k + 3)) (all (k + 2)) F1 (h41 b4) b3 b1 b2 (λhlm=>?_) λl z=>?_
 ·obtain⟨fR,fdR,L⟩:=B51 (P:=P) (w:=w) X Gn Q bm hR hr hlm;exact⟨k,fR,fdR,rfl,L,hT r hr hlm fd hfd,λf nm ps h=>(all k).gok f nm ps h⟩
 ·show(match (tabOf rows)[i]? with | some d=>run (T00 (tabOf rows) (k + 2)) d l | none=>M.no) z=_
  unfold tabOf;rw[Ü,hi];rfl
end
theorem B61{P:Ý}{w:è}{K:Â}{mg mb:Str->Option Ä}{k:Nat}{fa a:Ç}{fd:Å2}{x:Str}{sp:Sp}{s₁:Æ}{vs:List Ä}{ns:List Int}{ts:List Ç}
  (KX:K.In s₁.heap) (hns:s₁.heap.Ns ä mg) (hb:s₁.heap.Ns Í6 mb) (hbb:∀ x:Str,x≠"__name__"->mb x=ï x) (hlim:s₁.heap.NoLimit) (hg:s₁.gens=#[])
  (ha:s₁.heap.get? a=some { cls:=.type "list",data:=.seq vs.toArray }) (hi:Ë5 vs ns) (hl:ns.length<=Ú) (hr:z90 k Ý3)
  (hT:∀ Pt∈ts,s₁.heap.get? Pt=some (È3 #[])/\K.lookup Pt=none/\∃ c,Ä9 K c Pt=true) (bmn:BMain mg s₁.heap)
  (F:∀ base:é,K.In base->base.Ns ä mg->BMain mg base->X50 P w K mg base CX0 k fa fd [x] sp) (hbind:∀ (s:Æ) (u:Ä),BindsTo s fd ⟨[u],[]⟩ [(x,u)])
  (hsp:∀ H:Hp,(∀ Pt∈ts,H Pt=some (.tbl #[]))->p70 K H a (ns.map V.int)->sp [.ref a] H (λv _=>v=.bl true) λ_ _ _=>False) :
  Î2 (Ô P w) Ý3 (.call (.ref fa) ⟨[.ref a],[]⟩) (λr s'=>r=.ok (.ret (.bool true))/\OldK s₁.heap s'.heap/\s'.os=s₁.os/\Ó4 s'.gens) s₁:=by
 have rv:=R20 hi;have lenV:=hi.length;have naT:a ∉ ts:=λh=>by have:=(hT a h).1;rw[ha] at this;cases this
 have core:∀ H:Hp,(∀ Pt∈ts,H Pt=some (.tbl #[]))->(∀ b,H b=none∨b∈ts∨(b=a/\∃ xs,H b=some (.frz { cls:=.type "list",data:=.seq vs.toArray } (.lst xs))))->p70 K H a (ns.map V.int)->HOk P w H s₁.heap->(H a≠none->K.lookup a=none) ->
   Î2 (Ô P w) Ý3 (.call (.ref fa) ⟨[.ref a],[]⟩) (λr s'=>r=.ok (.ret (.bool true))/\OldK s₁.heap s'.heap/\s'.os=s₁.os/\Ó4 s'.gens) s₁:=by
  intro H hH hO hS hok hK;have plainN:∀ {b:Ç}{o:Obj},s₁.heap.get? b=some o->(∀ xs n,o.data≠.seq xs n)->(∀ xs,o.data≠.fields xs)->H b=none:=λ{b o} e d1 d2=>by
   rcases hO b with z | z | ⟨z,_⟩
   ·exact z
   ·have:=(hT b z).1;rw[e] at this;cases this;exact absurd rfl (d2 _)
   ·rw[z,ha] at e;cases e;exact absurd rfl (d1 _ _)
  have nsK:∀ {b:Ç}{m:Str->Option Ä},s₁.heap.Ns b m->(H41 s₁.heap H).Ns b m:=λ{b m} ⟨o,es,ep,e,d,r⟩=>⟨o,es,ep,I80 e (plainN e (λxs n z=>by rw[d] at z;cases z) λxs z=>by rw[d] at z;cases z),d,r⟩
  have hKb:K.In (H41 s₁.heap H):=λb o e=>I80 (KX b o e) (by
   rcases hO b with z | z | ⟨z,xs,z2⟩
   ·exact z
   ·rw[(hT b z).2.1] at e;cases e
   ·rw[z] at e z2;rw[hK (by rw[z2];exact λy=>nomatch y)] at e;cases e)
  have hM:Mod K mg (H41 s₁.heap H):=⟨hKb,nsK hns,⟨mb,nsK hb,hbb⟩,let ⟨mc,h1,h2⟩:=hlim;⟨mc,nsK h1,h2⟩⟩;have hBM:BMain mg (H41 s₁.heap H):=by
   obtain⟨bm,ob,b1,b2,b3,b4,b5,b6⟩:=bmn;exact⟨bm,ob,b1,b2,I80 b3 (plainN b3 (λxs n z=>by rw[b6] at z;cases z) λxs z=>by rw[b6] at z;cases z),b4,b5,b6⟩
  have e0:Y01 P w K mg (H41 s₁.heap H) Ý3 [] s₁ H:=⟨rfl,hM,λb o e=>X21 e,Ú6 (p71 _ _),trivial,λb hb=>absurd (show b∈([]:List Ç) from hb) (by simp),hok,.of_eq hg⟩
  refine È1 ((F _ hKb (nsK hns) hBM).run Ý3 [] s₁ H ⟨[.ref a],[]⟩ [.ref a] [.ref a] _ _ hr e0 (hbind s₁ (.ref a)) (.cons rfl .nil) (hsp H hH hS)) λr s' h=>?_;cases r with
  |error e=>exact À2 h
  |ok fl =>
   cases fl with
   |next=>exact À2 h
   |brk=>exact À2 h|cont=>exact À2 h
   |ret u =>
    obtain⟨v,H',os,bare,un,hok',r',q⟩:=h;have q':v=.bl true:=q;subst q';obtain rfl:u=Î6 true:=r';refine⟨rfl,⟨λb o e=>?_,λb o e=>un.there b o e (by simp)⟩,os,bare⟩
    rcases hO b with z | z | ⟨z,xs,z2⟩
    ·exact .inl (un.keep b o e z (by intro y;exact absurd (show b∈([]:List Ç) from y) (by simp)) (by simp))
    ·obtain⟨t1,_,c,t2⟩:=hT b z;rw[e] at t1;cases t1;obtain⟨more,m1⟩:=un.tbls b _ (hH b z);have m2:s'.heap.get? b=some { cls:=.none,data:=.fields (#[]++more) }:=hok' b _ m1;have CH:=codeHd_of_K KX t2;exact .inr (.inl ⟨(CH.tab e).isCodeTable,rfl,#[],more,rfl,m2⟩)
    ·have z3:=un.frzs b _ _ z2;obtain⟨e1,_⟩:=hok b _ z2;obtain⟨e2,_⟩:=hok' b _ z3;rw[e] at e1;cases e1;exact .inl e2
 cases hk:K.lookup a with
 |some o =>
  have e:=KX a o hk;rw[ha] at e;cases e;refine core (λb=>if b∈ts then some (.tbl #[]) else none) (λPt h=>if_pos h) (λb=>?_) (.inr ⟨vs.toArray,_,hk,by rw[Ó,lenV];exact hl,by simpa using rv⟩) (λb u z=>?_) λz=>absurd (if_neg naT) z
  ·by_cases h:b∈ts
   ·exact .inr (.inl h)
   ·exact .inl (if_neg h)
  ·by_cases h:b∈ts
   ·have z':=(if_pos h).symm.trans z;cases z';exact(hT b h).1
   ·have z':=(if_neg h).symm.trans z;cases z'
 |none =>
  refine core (λb=>if b=a then some (.frz { cls:=.type "list",data:=.seq vs.toArray } (.lst (ns.map V.int))) else if b∈ts then some (.tbl #[]) else none) (λPt h=>?_) (λb=>?_) (.inl (.inr ⟨{ cls:=.type "list",data:=.seq vs.toArray },if_pos rfl⟩)) (λb u z=>?_) λ_=>hk
  ·rw[if_neg (λy=>naT (by rw[← y];exact h)),if_pos h]
  ·by_cases hb:b=a
   ·exact .inr (.inr ⟨hb,_,if_pos hb⟩)
   ·by_cases h:b∈ts
    ·exact .inr (.inl h)
    ·exact .inl (by rw[if_neg hb,if_neg h])
  ·by_cases hb:b=a
   ·have z':=(if_pos hb).symm.trans z;cases z';subst hb;exact⟨ha,by rw[É];exact hl,vs,_,rv,ha⟩
   ·replace z:=(if_neg hb).symm.trans z
    by_cases h:b∈ts
    ·have z':=(if_pos h).symm.trans z;cases z';exact(hT b h).1
    ·have z':=(if_neg h).symm.trans z;cases z'
theorem P61{l:PySem.W.OpenLaw}{n k:Nat}{q:Ý}{loose:List Str}{XP:(Str->Option Ä)->é->Prop}{d:DefRec}{A:n30}{x:Str}
  (hn:l.most=some n) (hn2:n<=Ú) (hdf:d.params.defaults=[]) (hr:z90 k Ý3)
  (F:∀ (w:è) (mg:Str->Option Ä) (fa:Ç) (h:é) (K:Â),Facts A K h->K.In h->h.Ns ä mg->mg d.name=some (.ref fa) ->
   ∃ (fd:Å2) (ts:List Ç) (sp:Sp),(∀ Pt∈ts,h.get? Pt=some (È3 #[])/\K.lookup Pt=none/\∃ c,Ä9 K c Pt=true)/\(∀ (s:Æ) (u:Ä),BindsTo s fd ⟨[u],[]⟩ [(x,u)]) /\
    (∀ base:é,K.In base->base.Ns ä mg->BMain mg base->X50 l.prog w K mg base CX0 k fa fd [x] sp) /\
    ∀ (H:Hp) (a:Ç) (ns:List Int),ns.length<=n->(∀ Pt∈ts,H Pt=some (.tbl #[]))->p70 K H a (ns.map V.int)->sp [.ref a] H (λv _=>v=.bl true) λ_ _ _=>False) :
  PySem.W.WalkO q loose XP A.hook.says l.row.toRowW d [] (λf vs=>PySem.call f vs):=by
 refine Att.Y50 hn hdf λw s₀ s₁ mg mb fa o pm cd doc a vs ns G Y ho hd hcd hmg hobj hints hlen hg=>?_;obtain⟨K,KX,FX⟩:=Y;obtain⟨fd,ts,sp,hT,hb,hF,hsp⟩:=F w mg fa _ K FX KX G.T.g hmg;exact B61 KX G.T.g G.T.b G.T.builtins G.T.nolimit hg hobj hints (Ñ hlen hn2) hr hT G.T.bmain hF hb λH hH hS=>hsp H a ns hlen hH hS
theorem h52{l:PySem.W.OpenLaw}{rows:List Row}{nums:List (Str × Int)}{mn:List Str}{ex:List (Str × Ä8)}{k iL n:Nat}{rL:Row}(ok:rows.all (k42 (G30 rows) nums)=true)(bd:o40 rows)(hL:rows[iL]?=some rL)(hn:rL.nm="law")(hp:rL.ps=[("_law_script":Str)])(hmn:mn.length<=1)(hR:w52 rows mn ex)
  (pure:∀ ns:List Int,ns.length<=n->b40 (tabOf rows) (k + 3) iL [.d (.lst (ns.map D.int))] none=some (.ok (.d (.bl true)) none)) (w:è) (mg:Str->Option Ä) (fa:Ç) (h:é) (K:Â) (Q:Facts (H40 rows nums mn ex) K h) (X:K.In h) (Gn:h.Ns ä mg) (hfa:mg "law"=some (.ref fa)) :
   ∃ (fd:Å2) (ts:List Ç) (sp:Sp),(∀ Pt∈ts,h.get? Pt=some (È3 #[])/\K.lookup Pt=none/\∃ c,Ä9 K c Pt=true)/\(∀ (s:Æ) (u:Ä),BindsTo s fd ⟨[u],[]⟩ [("_law_script",u)]) /\
    (∀ base:é,K.In base->base.Ns ä mg->BMain mg base->X50 l.prog w K mg base CX0 (k + 3) fa fd ["_law_script"] sp) /\
    ∀ (H:Hp) (a:Ç) (ns:List Int),ns.length<=n->(∀ Pt∈ts,H Pt=some (.tbl #[]))->p70 K H a (ns.map V.int)->sp [.ref a] H (λv _=>v=.bl true) λ_ _ _=>False:=by
 have hrL:rL∈rows:=î hL;obtain⟨fL,fdL,aL,FL,ocL,odL,slL,lkL⟩:=Q.fn (rL.nm,rL.st) (Æ6 _ (Ù.mpr ⟨rL,hrL,rfl⟩));have bL:=bd.at hrL;have e:=hfa.symm.trans (mg_of X Gn (by rw[← hn];exact aL))
 cases e;have bT:∀ (s:Æ) (u:Ä),BindsTo s fdL ⟨[u],[]⟩ [("_law_script",u)]:=by
  obtain⟨_,_,kV,doc,pm,an,cdv,ct,_,e,_,_⟩:=FL.ex;subst e;intro s u;have:=bL kV doc pm an cdv ct [u] (by rw[hp];rfl)
  rw[hp] at this;exact .of_eq this
 have fin:∀ (TB:Tb) (ts:List Ç),(∀ p∈TB.tb,p.1∈ts)->(∀ Pt∈ts,h.get? Pt=some (È3 #[])/\K.lookup Pt=none/\∃ c,Ä9 K c Pt=true)->L52 K rows ->
   ∃ (fd:Å2) (ts:List Ç) (sp:Sp),(∀ Pt∈ts,h.get? Pt=some (È3 #[])/\K.lookup Pt=none/\∃ c,Ä9 K c Pt=true)/\(∀ (s:Æ) (u:Ä),BindsTo s fd ⟨[u],[]⟩ [("_law_script",u)]) /\
    (∀ base:é,K.In base->base.Ns ä mg->BMain mg base->X50 l.prog w K mg base CX0 (k + 3) fa fd ["_law_script"] sp) /\
    ∀ (H:Hp) (a:Ç) (ns:List Int),ns.length<=n->(∀ Pt∈ts,H Pt=some (.tbl #[]))->p70 K H a (ns.map V.int)->sp [.ref a] H (λv _=>v=.bl true) λ_ _ _=>False:=λTB ts h1 h2 h3=>by
  refine⟨fdL,ts,λvs H Q _=>spF K (lev ⟨G30 rows,nums,λ_ _ _=>M.no,clsAt K,0⟩ (tabOf rows) (k + 3)) iL 1 vs H Q λ_ _ _=>False,h2,bT,λbase kb nb bm=>?_,λH a ns hl hH hS=>w32 (pure ns hl) (λp hp=>hH p.1 (h1 p hp)) hS⟩;have F:=ok0 (w62 (P:=l.prog) (w:=w) X Gn Q ok bd bm hR h3 (λ_ _ _=>M.no) k hL FL ⟨fa,ocL,odL,slL,aL,lkL⟩);rw[hp] at F;exact F
 match mn,hmn,Q with
 |[],_,Q =>
  exact fin ⟨[]⟩ [] (λp hp=>by cases hp) (λp hp=>by cases hp) λr hr hlm=>by
   have:=(hR r hr hlm).1;cases this
 |[m],_,Q =>
  obtain⟨T,t1,t2,f,oc,od,fd,sl,c,t3,t4,t5,t6⟩:=Q.mt m (.head _);refine fin ⟨[(T,O82 m)]⟩ [T] (λp hp=>?_) (λp hp=>?_) λr hr hlm fd' h'=>?_
  ·cases ã.mp hp;exact .head _
  ·cases ã.mp hp;exact⟨t1,t2,c,t6⟩
  ·have hm:r.nm=m:=ã.mp (hR r hr hlm).1;rw[hm] at h' ⊢;obtain⟨f',oc',od',sl',e1,e2⟩:=h';rw[t3] at e1;cases e1;rw[t4] at e2;cases e2;exact⟨c,T,O82 m,t5,t6,λ_ _ _ _=>rfl,.head _,λp hp _=>by cases ã.mp hp;rfl⟩
end Q
namespace Q
open L2 (D)
open PySem (Paired)
def h51:Ex->Bool
 |.var _=>false|_=>true
def X32:Ex->Env->Option (Option S)
 |.var i,ρ=>ρ[i]?|_,_=>none
def O92:Option (Option S)->Option S
 |some (some s)=>noS s|_=>none
def blS:S->Option Bool
 |.d (.bl b)=>some b|_=>none
abbrev Du{α:Type}(_:α->Z->Prop)(_:Nat->Z->Prop):Type:=Unit
abbrev Dv{α:Type}(_:α->Prop):Type:=Unit
structure W{α:Type}(m:M α)(z:Z)(Q:α->Z->Prop)(E:Nat->Z->Prop)(du:Du Q E:=()):Prop where
 ex:∃ r,m z=some r/\match r with
  |.ok a z1=>Q a z1|.er c z1=>E c z1
theorem W_e{α:Type}{m:M α}{Q:α->Z->Prop}:W m z Q E↔∃ r,m z=some r/\match r with
  |.ok a z1=>Q a z1|.er c z1=>E c z1:=⟨W.ex,W.mk⟩
abbrev NE:Nat->Z->Prop:=λ_ _=>False
def Get{α:Type}(o:Option α)(P:α->Prop)(_:Dv P:=()):Prop:=match o with
 |some a=>P a|none=>False
theorem w72{α:Type}{a:α}{P:α->Prop}:Get (some a) P↔P a:=Ú8
theorem h30{α:Type}{o:Option α}{P:α->Prop}(h:Get o P):∃ a,o=some a/\P a:=by
 cases o with
 |none=>exact h.elim|some a=>exact⟨a,rfl,h⟩
theorem a00{α:Type}{o:Option α}{a:α}{P:α->Prop}(h:o=some a)(hp:P a):Get o P:=by rw[h];exact hp
theorem B71{α:Type}{o:Option α}{P P':α->Prop}(h:∀ a,P a↔P' a):Get o P↔Get o P':=by
 cases o with
 |none=>exact Ú8|some a=>exact h a
section
variable {α β:Type}{m:M α}{z z1:Z}{Q Q':α->Z->Prop}{E E':Nat->Z->Prop}
theorem W.mono(h:W m z Q E)(hq:∀ a z,Q a z->Q' a z)(he:∀ c z,E c z->E' c z):W m z Q' E':=by
 obtain⟨r,e,h⟩:=h;refine⟨r,e,?_⟩;cases r with
 |ok a z1=>exact hq _ _ h|er c z1=>exact he _ _ h
theorem W.imp(h:W m z Q NE)(hq:∀ a z,Q a z->Q' a z):W m z Q' E':=h.mono hq λ_ _ h=>h.elim
theorem W.ok{a:α}(h:W m z (λb z2=>b=a/\z2=z1) NE):m z=some (.ok a z1):=by
 obtain⟨r,e,h⟩:=h;cases r with
 |ok b z2=>obtain⟨rfl,rfl⟩:=h;exact e
 |er c z2=>exact h.elim
theorem W.er(h:W m z (λ_ _=>False) (λd z2=>d=c/\z2=z1)):m z=some (.er c z1):=by
 obtain⟨r,e,h⟩:=h;cases r with
 |ok b z2=>exact h.elim|er d z2=>obtain⟨rfl,rfl⟩:=h;exact e
theorem P02{a:α}(h:m z=some (.ok a z1)):W m z Q E↔Q a z1:=by
 rw[W_e];constructor
 ·rintro ⟨r,e,q⟩;rw[h] at e;cases e;exact q
 ·exact λq=>⟨_,h,q⟩
theorem X42{c:Nat}(h:m z=some (.er c z1)):W m z Q E↔E c z1:=by
 rw[W_e];constructor
 ·rintro ⟨r,e,q⟩;rw[h] at e;cases e;exact q
 ·exact λq=>⟨_,h,q⟩
theorem z80{a:α}:W (M.ret a) z Q E↔Q a z:=P02 rfl
theorem w82:W (M.no:M α) z Q E↔False:=⟨λ⟨_,e,_⟩=>(by cases e),À2⟩
theorem o50{f:α->M β}{Q:β->Z->Prop}:W (M.bind m f) z Q E↔W m z (λa z1=>W (f a) z1 Q E) E:=by
 constructor
 ·rintro ⟨r,e,q⟩;unfold M.bind at e;split at e
  ·rename_i a z1 e1;exact⟨_,e1,r,e,q⟩
  ·rename_i c z1 e1;cases e;exact⟨_,e1,q⟩
  ·cases e
 ·rintro ⟨r,e,q⟩;cases r with
  |ok a z1 =>
   obtain⟨r,e2,q⟩:=q;refine⟨r,?_,q⟩;unfold M.bind;rw[e];exact e2
  |er c z1 =>
   refine⟨.er c z1,?_,q⟩;unfold M.bind;rw[e]
theorem V31:W (M.calm m) z Q E↔W m z Q NE:=by
 rw[W_e,W_e];unfold M.calm;constructor
 ·rintro ⟨r,e,q⟩;split at e
  ·rename_i a z1 e1;cases e;exact⟨_,e1,q⟩
  ·cases e
 ·rintro ⟨r,e,q⟩;cases r with
  |ok a z1=>exact⟨.ok a z1,by rw[e],q⟩|er c z1=>exact q.elim
theorem h62(h:∀ a z,Q a z↔Q' a z):W m z Q E↔W m z Q' E:=⟨λx=>x.mono (λa z=>(h a z).mp) λ_ _ h=>h,λx=>x.mono (λa z=>(h a z).mpr) λ_ _ h=>h⟩
theorem wR{a:α}:Q a z↔W (M.ret a) z Q E:=z80.symm
theorem wN:False↔W (M.no:M α) z Q E:=w82.symm
theorem wT{c:Prop}[Decidable c]{a b:M α}{A B:Prop}(h1:A↔W a z Q E)(h2:B↔W b z Q E):(if c then A else B)↔W (if c then a else b) z Q E:=by
 split <;> assumption
theorem wG{o:Option β}{f:β->M α}{K:β->Prop}(h:∀ a,K a↔W (f a) z Q E):Get o K↔W (M.bind (M.of o) f) z Q E:=by
 cases o with
 |none=>exact w82.symm|some a=>exact h a
theorem wB{m:M β}{f:β->M α}{V:Prop}{K:β->Z->Prop}(h1:V↔W m z K E)(h2:∀ a z1,K a z1↔W (f a) z1 Q E):V↔W (M.bind m f) z Q E:=h1.trans ((h62 h2).trans o50.symm)
end
def Wm{α:Type}(o:Option (R α))(Q:α->Z->Prop)(E:Nat->Z->Prop):Prop:=match o with
 |some (.ok a z1)=>Q a z1|some (.er c z1)=>E c z1|none=>False
theorem wM{α:Type}{m:M α}{z:Z}{Q:α->Z->Prop}{E:Nat->Z->Prop}:Wm (m z) Q E↔W m z Q E:=by
 rw[W_e];unfold Wm;cases h:m z with
 |none=>exact⟨À2,λ⟨_,e,_⟩=>by cases e⟩
 |some r =>
  refine⟨λq=>⟨r,rfl,?_⟩,λ⟨_,e,q⟩=>?_⟩
  ·cases r <;> exact q
  ·cases e;cases r <;> exact q
def Vr(o:Option (Option S))(z:Z)(Q:List S->Z->Prop)(_:Du Q NE:=()):Prop:=match o with
 |some (some s)=>Q [plS s] z|_=>False
def WV:FT->Ex->Env->Z->(List S->Z->Prop)->(Nat->Z->Prop)->Prop
 |F,.nil=>λρ z Q E=>Q [] z|F,.cons a r=>λρ z Q E=>WV F a ρ z (λx z1=>Get (one x) λs=>WV F r ρ z1 (λy z2=>Q (s::y) z2) E) E|F,.con x=>λρ z Q E=>Q [.d x] z|F,.gint g i=>λρ z Q E=>Q [.d (.int i)] z|F,.tup as=>λρ z Q E=>WV F as ρ z (λl z1=>Get (plA l) λds=>if ds.length<=most then Q [.d (.tup ds)] z1 else False) E|F,.lst as=>λρ z Q E=>WV F as ρ z (λl z1=>Get (plA l) λds=>if ds.length<=most then Q [.fr ds] z1 else False) E|F,.bin o a b=>λρ z Q E=>WV F a ρ z (λx z1=>Get (pl x) λdx=>WV F b ρ z1 (λy z2=>Get (pl y) λdy=>Get (z50 o dx dy) λs=>Q [s] z2) E) E|F,.cmp o a b=>λρ z Q E=>WV F a ρ z (λx z1=>Get (pl x) λdx=>WV F b ρ z1 (λy z2=>Get (pl y) λdy=>Get (C70 o dx dy) λt=>Q [.d (.bl t)] z2) E) E|F,.neg a=>λρ z Q E=>WV F a ρ z (λx z1=>Get ((pl x).bind asI) λi=>Q [.d (.int (-i))] z1) E|F,.not a=>λρ z Q E=>WV F a ρ z (λx z1=>Get ((pl x).bind asB) λb=>Q [.d (.bl !b)] z1) E|F,.and a b=>λρ z Q E=>WV F a ρ z (λx z1=>Get ((pl x).bind asB) λc=>if c then WV F b ρ z1 (λy z2=>Get ((pl y).bind asB) λc=>Q [.d (.bl c)] z2) E else Q [.d (.bl false)] z1) E|F,.or a b=>λρ z Q E=>WV F a ρ z (λx z1=>Get ((pl x).bind asB) λc=>if c then Q [.d (.bl true)] z1 else WV F b ρ z1 (λy z2=>Get ((pl y).bind asB) λc=>Q [.d (.bl c)] z2) E) E|F,.orT a b=>λρ z Q E=>WV F a ρ z (λx z1=>Get ((pl x).bind q12) λl=>if l.isEmpty then WV F b ρ z1 (λy z2=>Get ((pl y).bind q12) λl=>Q [.d (.tup l)] z2) NE else Q [.d (.tup l)] z1) NE|F,.ite c a b=>λρ z Q E=>WV F c ρ z (λx z1=>Get ((pl x).bind asB) λc=>if c then WV F a ρ z1 Q E else WV F b ρ z1 Q E) E|F,.ch o o' a b c=>λρ z Q E=>WV F a ρ z (λx z1=>Get (pl x) λdx=>WV F b ρ z1 (λy z2=>Get (pl y) λdy=>Get (C70 o dx dy) λt=>if t then WV F c ρ z2 (λw z3=>Get (pl w) λdw=>Get (C70 o' dy dw) λt=>Q [.d (.bl t)] z3) E else Q [.d (.bl false)] z2) E) E|F,.bf f as=>λρ z Q E=>WV F as ρ z (λl z1=>Get (plA l) λds=>Get (bfD f ds) λs=>Q [s] z1) E|F,.isi t a=>λρ z Q E=>WV F a ρ z (λx z1=>Get (pl x) λx=>Q [.d (.bl (T61 t x))] z1) E|F,.idx a i=>λρ z Q E=>WV F a ρ z (λx z1=>Get (pl x) λdx=>WV F i ρ z1 (λy z2=>Get (pl y) λdy=>Get (m81 dx dy) λr=>Q [.d r] z2) E) E|F,.sl a lo hi=>λρ z Q E=>WV F a ρ z (λx z1=>Get (pl x) λdx=>WV F lo ρ z1 (λu z2=>Get (v51 u) λu=>WV F hi ρ z2 (λv z3=>Get (v51 v) λv=>Get (slD dx u v) λs=>Q [s] z3) E) E) E|F,.rev a=>λρ z Q E=>WV F a ρ z (λx z1=>Get ((pl x).bind O12) λs=>Q [s] z1) E|F,.call f as=>λρ z Q E=>WV F as ρ z (λl z1=>W (F false f (l.map plS)) z1 (λs z2=>Q [s] z2) E) E|F,.comp own capt p it src cond el=>λρ z Q E=>WV F src ρ z (λl z1=>Get ((plA l).bind (itD it)) λxs=>if xs.length<=most then W (turns (n80 (ev F cond) (ev F el) p (ì own none++capt.map λi=>(ρ[i]?).getD none)) xs) z1 (λys z2=>Q [.fr ys] z2) NE else False) E|F,.lrng b as=>λρ z Q E=>WV F as ρ z (λl z1=>Get ((plA l).bind lrD) λxs=>Q [lrS b xs] z1) E|F,.refd capt a=>λρ z Q E=>Get (M81 ρ capt) λss=>WV (λ_=>F true) a (ss.map some) z (λ_ _=>False) (λc z1=>if c < 12 then Q [.fr [.int c]] z1 else False)|F,.var i=>λρ z Q E=>Vr ρ[i]? z Q|F,.zget i k=>λρ z Q E=>Wm (v61 k ρ[i]? z) Q E
def WE(F:FT)(e:Ex)(ρ:Env)(z:Z)(Q:List S->Z->Prop)(E:Nat->Z->Prop)(_:Du Q E:=()):Prop:=WV F e ρ z Q E
def WX(F:FT)(tp:Bool):Sm->Env->Z->(O->Z->Prop)->(Nat->Z->Prop)->Prop
 |.nil=>λρ z Q E=>Q (.nx ρ) z
 |.seq s r=>λρ z Q E=>WX F tp s ρ z (λo z1=>match o with
  |.nx ρ=>WX F tp r ρ z1 Q E
  |.rt s=>Q (.rt s) z1) E
 |.set p e=>λρ z Q E=>WE F e ρ z (λl z1=>Get (one l) λs=>Get (S70 p s (k90 s ρ)) λρ'=>Q (.nx ρ') z1) E|.ret e=>λρ z Q E=>if h51 e then WE F e ρ z (λl z1=>Get ((one l).bind noS) λs=>Q (.rt s) z1) E else Get (O92 (X32 e ρ)) λs=>Q (.rt s) z|.iff c t e=>λρ z Q E=>WE F c ρ z (λx z1=>Get ((pl x).bind asB) λb=>if b then WX F tp t ρ z1 Q E else WX F tp e ρ z1 Q E) E|.exp e=>λρ z Q E=>WE F e ρ z (λl z1=>Get (one l) λ_=>Q (.nx ρ) z1) E|.rais c=>λρ z Q E=>E c z|.fr p it src b=>λρ z Q E=>WE F src ρ z (λl z1=>Get ((plA l).bind (itD it)) λxs=>W (X70 (λx ρ=>M.bind (M.of (f10 p x ρ)) λρ=>ex F tp b ρ) xs (v71 it src l ρ)) z1 Q E) E|.whl c b=>λρ z Q E=>W (T71 (ev F c) (ex F tp b) j92 ρ) z Q E|.zset i e=>λρ z Q E=>WE F e ρ z (λl z1=>Get ((pl l).bind asI) λv=>Wm (v91 ρ v ρ[i]? z1) Q E) E|.app i e=>λρ z Q E=>Get (ownAt ρ i) λxs=>WE F e ρ z (λl z1=>Get (pl l) λx=>if bare x=true/\xs.length < most then Q (.nx (ρ.set i (some (.fr (xs++[x]))))) z1 else False) E|.newz i f as=>λρ z Q E=>WE F (.call f as) ρ z (λl z1=>Wm (v81 tp ρ i l) Q E) E|.augi i ix e=>λρ z Q E=>Get (ownAt ρ i) λxs=>WE F ix ρ z (λj z1=>Get ((pl j).bind asI) λj=>Get (L2.atI xs j) λy=>WE F e ρ z1 (λl z2=>Get (pl l) λx=>Get ((asI x).bind λx=>(asI y).map λy=>D.int (y + x)) λv=>Get (G90 xs j v) λxs=>Q (.nx (ρ.set i (some (.fr xs)))) z2) E) E
def WS(F:FT)(tp:Bool)(s:Sm)(ρ:Env)(z:Z)(Q:O->Z->Prop)(E:Nat->Z->Prop)(_:Du Q E:=()):Prop:=WX F tp s ρ z Q E
theorem w92:W (ev F (.refd capt a) ρ) z Q E↔Get (M81 ρ capt) λss=>W (ev (j50 F) a (ss.map some)) z (λ_ _=>False) (λc z1=>if c < 12 then Q [.fr [.int c]] z1 else False):=by
 show W (q22 (M81 ρ capt) λρ'=>ev (j50 F) a ρ') z Q E↔_;rw[W_e];unfold q22;constructor
 ·rintro ⟨r,e,q⟩;split at e
  ·cases e
  ·rename_i ss h1;split at e
   ·rename_i c z1 h2;split at e
    ·rename_i h3;cases e;refine a00 h1 ⟨_,h2,?_⟩;dsimp only;rw[if_pos h3];exact q
    ·cases e
   ·cases e
 ·intro h;obtain⟨ss,h1,r,h2,q⟩:=h30 h;cases r with
  |ok a z1=>exact q.elim
  |er c z1 =>
   dsimp only at q;split at q
   ·rename_i h3;refine⟨.ok [.fr [.int c]] z1,?_,q⟩;rw[h1];dsimp only;rw[h2];dsimp only;rw[if_pos h3]
   ·exact q.elim
theorem x02:∀ (e:Ex) {F:FT}{ρ:Env}{z:Z}{Q:List S->Z->Prop}{E:Nat->Z->Prop},WV F e ρ z Q E↔W (ev F e ρ) z Q E:=by
 intro e
 induction e with
 |nil=>intros;exact wR|cons a r ha hr=>intros;exact wB ha λx z1=>wG λs=>wB hr λy z2=>wR
 |var i =>
  intro F ρ z Q E;show Vr ρ[i]? z Q↔W (match ρ[i]? with | some (some s)=>M.ret [plS s] | _=>M.no) z Q E
  generalize ρ[i]?=o
  match o with
  |some (some s)=>exact wR|some none=>exact wN|none=>exact wN
 |con x=>intros;exact wR|gint g i=>intros;exact wR|tup a ha=>intros;exact wB ha λl z1=>wG λds=>wT wR wN|lst a ha=>intros;exact wB ha λl z1=>wG λds=>wT wR wN|bin o a b ha hb=>intros;exact wB ha λx z1=>wG λdx=>wB hb λy z2=>wG λdy=>wG λs=>wR|cmp o a b ha hb=>intros;exact wB ha λx z1=>wG λdx=>wB hb λy z2=>wG λdy=>wG λs=>wR|neg a ha=>intros;exact wB ha λx z1=>wG λi=>wR|not a ha=>intros;exact wB ha λx z1=>wG λi=>wR|and a b ha hb=>intros;exact wB ha λx z1=>wG λc=>wT (wB hb λy z2=>wG λc=>wR) wR|or a b ha hb=>intros;exact wB ha λx z1=>wG λc=>wT wR (wB hb λy z2=>wG λc=>wR)|orT a b ha hb=>intros;refine Iff.trans ?_ V31.symm;exact wB ha λx z1=>wG λl=>wT (wB hb λy z2=>wG λl=>wR) wR|ite c a b hc ha hb=>intros;exact wB hc λx z1=>wG λc=>wT ha hb|ch o o' a b c ha hb hc=>intros;exact wB ha λx z1=>wG λdx=>wB hb λy z2=>wG λdy=>wG λt=>wT (wB hc λw z3=>wG λdw=>wG λt=>wR) wR|bf f a ha=>intros;exact wB ha λl z1=>wG λds=>wG λs=>wR|isi t a ha=>intros;exact wB ha λx z1=>wG λx=>wR|idx a i ha hi=>intros;exact wB ha λx z1=>wG λdx=>wB hi λy z2=>wG λdy=>wG λr=>wR|sl a l h ha hl hh=>intros;exact wB ha λx z1=>wG λdx=>wB hl λu z2=>wG λu=>wB hh λv z3=>wG λv=>wG λs=>wR|rev a ha=>intros;exact wB ha λx z1=>wG λs=>wR|call f a ha=>intros;exact wB ha λl z1=>wB Ú8 λs z2=>wR|comp own capt p it src cond el hs hc he=>intros;exact wB hs λl z1=>wG λxs=>wT (wB V31.symm λys z2=>wR) wN|zget i k=>intros;exact wM (m:=v61 k _)|lrng b a ha=>intros;exact wB ha λl z1=>wG λxs=>wR|refd capt a ha=>intros;exact(B71 λss=>ha).trans w92.symm
theorem c70{e:Ex}{F:FT}{ρ:Env}{z:Z}{Q:List S->Z->Prop}{E:Nat->Z->Prop}:WE F e ρ z Q E↔W (ev F e ρ) z Q E:=x02 e
theorem L62{F:FT}{tp:Bool}{ρ:Env}{e:Ex}(h:h51 e=true):ex F tp (.ret e) ρ=M.bind (ev F e ρ) λl=>M.bind (M.of ((one l).bind noS)) λs=>M.ret (.rt s):=by
 cases e with
 |var i=>cases h
 |_=>rfl
theorem x12{F:FT}{tp:Bool}:∀ (s:Sm) {ρ:Env}{z:Z}{Q:O->Z->Prop}{E:Nat->Z->Prop},WX F tp s ρ z Q E↔W (ex F tp s ρ) z Q E:=by
 intro s
 induction s with
 |nil=>intros;exact wR
 |seq s r hs hr =>
  intros;refine wB hs λo z1=>?_;cases o with
  |nx ρ=>exact hr|rt s=>exact wR
 |set p e=>intros;exact wB c70 λl z1=>wG λs=>wG λρ'=>wR
 |ret e =>
  intro ρ z Q E;show(if h51 e then _ else _)↔_;cases h:h51 e with
  |true =>
   refine(iff_of_eq (if_pos rfl)).trans ?_;rw[L62 h];exact wB c70 λl z1=>wG λs=>wR
  |false =>
   cases e with
   |var i =>
    refine(iff_of_eq (if_neg Ð)).trans ?_;show Get (O92 ρ[i]?) _↔W (match ρ[i]? with | some (some s)=>M.bind (M.of (noS s)) λs=>M.ret (O.rt s) | _=>M.no) z Q E
    generalize ρ[i]?=o
    match o with
    |some (some s)=>exact wG λs=>wR|some none=>exact wN|none=>exact wN
   |_=>cases h
 |iff c t u ht hu=>intros;exact wB c70 λx z1=>wG λc=>wT ht hu|exp e=>intros;exact wB c70 λl z1=>wG λs=>wR|rais c=>intros;exact(X42 rfl).symm|fr p it src b ih=>intros;exact wB c70 λl z1=>wG λxs=>Ú8|whl c b ih=>intros;exact Ú8|zset i e=>intros;exact wB c70 λl z1=>wG λv=>wM (m:=v91 _ v _)|app i e=>intros;exact wG λxs=>wB c70 λl z1=>wG λx=>wT wR wN|newz i f as=>intros;exact wB c70 λl z1=>wM (m:=λ_=>v81 tp _ i l)|augi i ix e=>intros;exact wG λxs=>wB c70 λj z1=>wG λj=>wG λy=>wB c70 λl z2=>wG λx=>wG λv=>wG λxs=>wR
theorem U80:WS F tp s ρ z Q E↔W (ex F tp s ρ) z Q E:=x12 s
theorem WS.mono{s:Sm}{F:FT}{tp:Bool}{ρ:Env}{z:Z}{Q Q':O->Z->Prop}{E E':Nat->Z->Prop}(h:WS F tp s ρ z Q E)(hq:∀ a z,Q a z->Q' a z)(he:∀ c z,E c z->E' c z):WS F tp s ρ z Q' E':=U80.mpr (W.mono (U80.mp h) hq he)
theorem h72(Mid:Env->Z->Prop)(h:WS F tp s ρ z (λo z1=>match o with
  |.nx ρ=>Mid ρ z1
  |.rt s=>Q (.rt s) z1) E) (h2:∀ ρ z,Mid ρ z->WS F tp r ρ z Q E):WS F tp (.seq s r) ρ z Q E:=by
 refine WS.mono (s:=s) h (λo z1 h=>?_) λ_ _ h=>h;cases o with
 |nx ρ=>exact h2 ρ z1 h|rt s=>exact h
section
variable {T:List Df}{k f ps ns:Nat}{b:Sm}{l:List S}{z:Z}{Q:S->Z->Prop}{E:Nat->Z->Prop}
theorem x22(h:T[f]?=some (.code ps ns b))(hl:l.length=ps)(hn:ps<=ns):W (b40 T (k + 3) f l) z Q E↔WS (T00 T (k + 2)) z.isNone b (start ns (l.map plS)) z (λo z1=>match o with
  |.nx _=>Q (.d .non) (L60 z z1)
  |.rt s=>Q s (L60 z z1)) λc z1=>E c (L60 z z1):=by
 refine Iff.trans ?_ U80.symm;rw[Z90,h];show W (λz=>if l.length=ps/\ps<=ns then(match ex (T00 T (k + 2)) z.isNone b (start ns (l.map plS)) z with
  |some (.ok (.nx _) z1)=>some (R.ok (S.d .non) (L60 z z1))|some (.ok (.rt s) z1)=>some (.ok s (L60 z z1))|some (.er c z1)=>some (.er c (L60 z z1))
  |none=>none) else none) z Q E↔_
 rw[W_e,W_e];constructor
 ·rintro ⟨r,e,q⟩;rw[if_pos ⟨hl,hn⟩] at e;split at e
  ·rename_i ρ z1 e1;cases e;exact⟨_,e1,q⟩
  ·rename_i s z1 e1;cases e;exact⟨_,e1,q⟩
  ·rename_i c z1 e1;cases e;exact⟨_,e1,q⟩
  ·cases e
 ·rintro ⟨r,e,q⟩;rw[if_pos ⟨hl,hn⟩,e]
  match r,q with
  |.ok (.nx ρ) z1,q=>exact⟨_,rfl,q⟩|.ok (.rt s) z1,q=>exact⟨_,rfl,q⟩|.er c z1,q=>exact⟨_,rfl,q⟩
end
section
variable {F:FT}{tp:Bool}{ρ:Env}{z:Z}{E:Nat->Z->Prop}
theorem b71{f:D->M (Option D)}{o:D->Option D}:∀ {xs:List D}{Q:List D->Z->Prop},(∀ x∈xs,f x z=some (.ok (o x) z))->(W (turns f xs) z Q E↔Q (xs.filterMap o) z)
 |[],Q,_=>z80
 |x::r,Q,h=>by
  show W (M.bind (f x) _) z Q E↔_;rw[o50,P02 (h x Ì),o50,b71 λy hy=>h y (È _ hy),z80];rw[Á3];cases o x <;> rfl
theorem h61{f:D->M (Option D)}{I:Z->Prop}{P:D->D->Prop}:∀ {xs:List D}{z:Z}{Q:List D->Z->Prop},I z->(∀ x∈xs,∀ z,I z->W (f x) z (λo z1=>I z1/\∃ y,o=some y/\P x y) NE)->(∀ ys z1,I z1->Æ0 P xs ys->Q ys z1)->W (turns f xs) z Q E
 |[],z,Q,hi,_,q=>z80.mpr (q [] z hi .nil)
 |x::r,z,Q,hi,h,q=>by
  show W (M.bind (f x) _) z Q E;rw[o50];refine(h x Ì z hi).imp λo z1 ⟨hi1,y,e,hp⟩=>?_;subst e;rw[o50];refine h61 hi1 (λx' hx'=>h x' (È _ hx')) λys z2 hi2 hps=>?_;exact z80.mpr (q _ _ hi2 (.cons hp hps))
theorem V41(I:List D->Env->Z->Prop):∀ (xs:List D) {ρ:Env}{z:Z},I xs ρ z->(∀ x r ρ z,I (x::r) ρ z->W (f x ρ) z (λo z1=>match o with
  |.nx ρ=>I r ρ z1
  |.rt s=>Q (.rt s) z1) E)->(∀ ρ z,I [] ρ z->Q (.nx ρ) z)->W (X70 f xs ρ) z Q E
 |[],ρ,z,hi,_,q=>z80.mpr (q _ _ hi)
 |x::r,ρ,z,hi,h,q=>by
  show W (M.bind (f x ρ) _) z Q E;rw[o50];refine(h x r ρ z hi).mono (λo z1 ho=>?_) λ_ _ h=>h;cases o with
  |nx ρ1=>exact V41 I r ho h q|rt s=>exact z80.mpr ho
theorem x32{c:Env->M (List S)}{f:Env->M O}{Q:O->Z->Prop}(I:Nat->Env->Z->Prop)(step:∀ n ρ z,I n ρ z->W (c ρ) z (λx z1=>Get ((pl x).bind asB) λk=>if k then W (f ρ) z1 (λo z2=>match o with
  |.nx ρ=>∃ m,m < n/\I m ρ z2
  |.rt s=>Q (.rt s) z2) E else Q (.nx ρ) z1) E):∀ (n m:Nat) {ρ:Env}{z:Z},I n ρ z->n < m->W (T71 c f m ρ) z Q E:=by
 intro n
 induction n using Nat.strongRecOn with
 |ind n ih =>
  intro m ρ z hi hm;cases m with
  |zero=>omega
  |succ m =>
   show W (M.bind (c ρ) _) z Q E;rw[o50];refine(step n ρ z hi).mono (λx z1 h=>?_) λ_ _ h=>h;obtain⟨k,e,h⟩:=h30 h;refine(wG (K:=λk=>if k=true then W (M.bind (f ρ) _) z1 Q E else W (M.ret (O.nx ρ)) z1 Q E) λk=>wT Ú8 Ú8).mp (a00 e ?_);cases k with
   |true =>
    rw[if_pos rfl] at h ⊢;rw[o50];refine h.mono (λo z2 h=>?_) λ_ _ h=>h;cases o with
    |nx ρ1 =>
     obtain⟨j,hj,hi⟩:=h;exact ih j hj m hi ∅
    |rt s=>exact z80.mpr h
   |false =>
    rw[if_neg Ð] at h ⊢;exact z80.mpr h
end
mutual
noncomputable def cE:D->Ex
 |.tup l=>.tup (cEs l)|.lst l=>.lst (cEs l)|.int i=>if i < 0 then .neg (.con (.int (-i))) else .con (.int i)|x=>.con x
noncomputable def cEs:List D->Ex
 |[]=>.nil|x::r=>.cons (cE x) (cEs r)
end
mutual
noncomputable def okC:D->Bool
 |.tup l=>decide (l.length<=most)&&L72 l|.lst l=>decide (l.length<=most)&&L72 l|_=>true
noncomputable def L72:List D->Bool
 |[]=>true|x::r=>okC x&&L72 r
end
def cX(d:D)(_:okC d=true):Ex:=cE d
section
variable {F:FT}{ρ:Env}{z:Z}{Q:List S->Z->Prop}{E:Nat->Z->Prop}{a b c as:Ex}{p:Pat}{ρ0:Env}{x:D}{Q1:Option D->Z->Prop}
theorem B81:W (n80 (ev F .nil) (ev F a) p ρ0 x) z Q1 E↔Get (f10 p x ρ0) λρ=>WE F a ρ z (λy z1=>Get (pl y) λd=>Q1 (some d) z1) E :=
 (wG λρ=>show _↔W (M.bind (ev F a ρ) λy=>M.bind (M.of (pl y)) λy=>M.ret (some y)) z Q1 E from wB c70 λy z1=>wG λd=>wR).symm
theorem x42{l:List S}{m:M (List S)}{V:Prop}(h:V↔W (M.bind m λy=>M.bind (M.of (pl y)) λy=>M.ret (some y)) z Q1 E):(match l with | [s]=>Get (blS s) λb=>if b then V else Q1 none z | _=>l=[]/\V)↔W (match l with
  |[]=>M.bind m λy=>M.bind (M.of (pl y)) λy=>M.ret (some y)|[.d (.bl true)]=>M.bind m λy=>M.bind (M.of (pl y)) λy=>M.ret (some y)|[.d (.bl false)]=>M.ret none
  |_=>M.no) z Q1 E:=by
 match l with
 |[]=>exact⟨λx=>h.mp x.2,λx=>⟨rfl,h.mpr x⟩⟩|[.d (.bl true)]=>exact w72.trans ((iff_of_eq (if_pos rfl)).trans h)|[.d (.bl false)]=>exact w72.trans ((iff_of_eq (if_neg Ð)).trans wR)|[.d .non]=>exact wN|[.d (.int _)]=>exact wN|[.d (.str _)]=>exact wN|[.d (.tup _)]=>exact wN|[.d (.lst _)]=>exact wN|[.d .dct]=>exact wN|[.fr _]=>exact wN|[.z]=>exact wN
 |s::_::_ =>
  refine⟨λx=>(by cases x.1),λx=>?_⟩
  cases s with
  |d y =>
   cases y with
   |bl b=>cases b <;> exact(w82.mp x).elim
   |_=>exact(w82.mp x).elim
  |_=>exact(w82.mp x).elim
theorem B91:W (n80 (ev F (.cons c .nil)) (ev F a) p ρ0 x) z Q1 E↔Get (f10 p x ρ0) λρ=>WE F c ρ z (λy z1=>Get (one y) λs=>Get (blS s) λb=>if b then WE F a ρ z1 (λy z2=>Get (pl y) λd=>Q1 (some d) z2) E else Q1 none z1) E:=by
 refine Iff.symm (wG λρ=>?_);refine wB (c70 (F:=F) (e:=.cons c .nil) (ρ:=ρ) (Q:=λl z1=>match l with | [s]=>Get (blS s) λb=>if b then WE F a ρ z1 (λy z2=>Get (pl y) λd=>Q1 (some d) z2) E else Q1 none z1 | _=>l=[]/\WE F a ρ z1 (λy z2=>Get (pl y) λd=>Q1 (some d) z2) E)) λl z1=>?_
 exact x42 (wB c70 λy z1=>wG λd=>wR)
end
section
variable {α:Type}{m:M α}{z z1:Z}{Q Q':α->Z->Prop}{E:Nat->Z->Prop}
theorem Wo(h:m z=some (.ok a z1))(q:Q a z1):W m z Q E:=⟨_,h,q⟩
theorem We(h:m z=some (.er c z1))(q:E c z1):W m z Q E:=⟨_,h,q⟩
end
theorem g30{T:List Df}{k f ps ns:Nat}{b:Sm}{l:List S}{z:Z}{Q:S->Z->Prop}{E:Nat->Z->Prop}(h:T[f]?=some (.code ps ns b))(hl:l.length=ps)(hn:ps<=ns)(q:WS (T00 T (k + 2)) z.isNone b (start ns (l.map plS)) z (λo z1=>match o with
  |.nx _=>Q (.d .non) (L60 z z1)
  |.rt s=>Q s (L60 z z1)) λc z1=>E c (L60 z z1)):W (b40 T (k + 3) f l) z Q E:=(x22 h hl hn).mpr q
theorem ib{b:Bool}{A B:Prop}(ht:b=true->A)(hf:b=false->B):if b=true then A else B:=by
 cases b with
 |true=>exact ht rfl|false=>exact hf rfl
theorem it{b:Bool}{A B:Prop}(h:b=true)(a:A):if b=true then A else B:=by rw[if_pos h];exact a
theorem ie{b:Bool}{A B:Prop}(h:b=false)(a:B):if b=true then A else B:=by rw[h];exact a
theorem ip{c:Prop}[Decidable c]{A B:Prop}(h:c)(a:A):if c then A else B:=by rw[if_pos h];exact a
theorem c30(z:Z):L60 z z=z:=by cases z <;> rfl
theorem sd{s t:S}{z:Z}(h:s=t):s=t/\L60 z z=z:=⟨h,c30 z⟩
theorem sb(h:b=c):S.d (.bl b)=S.d (.bl c)/\L60 z z=z:=sd (by rw[h])
section
variable {F:FT}{tp:Bool}{z:Z}{E:Nat->Z->Prop}{p:Pat}
theorem w60(I:List D->Env->Z->Prop)(xs:List D)(hi:I xs ρ z)(h:∀ x r ρ z,I (x::r) ρ z->Get (f10 p x ρ) λρ=>WS F tp b ρ z (λo z1=>match o with
  |.nx ρ=>I r ρ z1
  |.rt s=>Q (.rt s) z1) E) (q:∀ ρ z,I [] ρ z->Q (.nx ρ) z):W (X70 (λx ρ=>M.bind (M.of (f10 p x ρ)) λρ=>ex F tp b ρ) xs ρ) z Q E :=
 V41 I xs hi (λx r ρ z hi=>(wG λρ=>U80).mp (h x r ρ z hi)) q
theorem x52(I:Nat->Env->Z->Prop)(n:Nat)(hi:I n ρ z)(hn:n < j92)(h:∀ n ρ z,I n ρ z->WE F c ρ z (λx z1=>Get ((pl x).bind asB) λk=>if k then WS F tp b ρ z1 (λo z2=>match o with
  |.nx ρ=>∃ m,m < n/\I m ρ z2
  |.rt s=>Q (.rt s) z2) E else Q (.nx ρ) z1) E):W (T71 (ev F c) (ex F tp b) j92 ρ) z Q E:=by
 refine x32 I (λn ρ z hi=>?_) n j92 hi hn;refine(c70.mp (h n ρ z hi)).mono (λx z1 h=>?_) λ_ _ h=>h;obtain⟨k,e,h⟩:=h30 h;refine a00 e ?_;cases k with
 |true=>exact U80.mp h|false=>exact h
variable {ρ0:Env}{cond el:Ex}{xs:List D}{Q:List D->Z->Prop}
theorem P71(o:D->D)(h:∀ x∈xs,Get (f10 p x ρ0) λρ=>WE F el ρ z (λy z1=>Get (pl y) λd=>d=o x/\z1=z) NE)(q:Q (xs.map o) z):W (turns (n80 (ev F .nil) (ev F el) p ρ0) xs) z Q E:=by
 refine(b71 (o:=λx=>some (o x)) λx hx=>?_).mpr ?_
 ·refine W.ok (B81.mpr ?_);obtain⟨ρ,e,h⟩:=h30 (h x hx);refine a00 e (c70.mpr ((c70.mp h).imp λy z1 h=>?_));obtain⟨d,e,rfl,rfl⟩:=h30 h;exact a00 e ⟨rfl,rfl⟩
 ·rw[show xs.filterMap (λx=>some (o x))=xs.map o from congrFun (List.filterMap_eq_map (f:=o)) xs];exact q
theorem L82{c:D->Bool}{o:D->D}:∀ xs:List D,xs.filterMap (λx=>if c x then some (o x) else none)=(xs.filter c).map o
 |[]=>rfl
 |x::r=>by
  rw[Á3,Ñ8];cases hc:c x with
  |false=>exact L82 r|true=>exact congrArg (o x::·) (L82 r)
theorem h82(c:D->Bool)(o:D->D)(h:∀ x∈xs,Get (f10 p x ρ0) λρ=>WE F cond ρ z (λy z1=>Get (one y) λs=>s=.d (.bl (c x))/\z1=z/\(c x=true->WE F el ρ z (λy z1=>Get (pl y) λd=>d=o x/\z1=z) NE)) NE)(q:Q ((xs.filter c).map o) z):W (turns (n80 (ev F (.cons cond .nil)) (ev F el) p ρ0) xs) z Q E:=by
 refine(b71 (o:=λx=>if c x then some (o x) else none) λx hx=>?_).mpr ?_
 ·refine W.ok (B91.mpr ?_);obtain⟨ρ,e,h⟩:=h30 (h x hx);refine a00 e (c70.mpr ((c70.mp h).imp λy z1 h=>?_));obtain⟨s,e,rfl,rfl,h⟩:=h30 h;refine a00 e ?_;show if c x=true then _ else _;cases hc:c x with
  |false=>exact⟨rfl,rfl⟩
  |true =>
   refine c70.mpr ((c70.mp (h hc)).imp λy z1 h=>?_);obtain⟨d,e,rfl,rfl⟩:=h30 h;exact a00 e ⟨rfl,rfl⟩
 ·rw[L82];exact q
theorem x62{I:Z->Prop}(o:D->D):∀ {xs:List D}{z:Z}{Q:List D->Z->Prop},I z->(∀ x∈xs,∀ z,I z->Get (f10 p x ρ0) λρ=>WE F cond ρ z (λy z1=>Get (one y) λs=>I z1/\∃ b,s=.d (.bl b)/\(b=true->WE F el ρ z1 (λy z2=>Get (pl y) λd=>d=o x/\z2=z1) NE)) NE) ->
  (∀ ys z1,I z1->ys.Sublist (xs.map o)->Q ys z1)->W (turns (n80 (ev F (.cons cond .nil)) (ev F el) p ρ0) xs) z Q E
 |[],z,Q,hi,_,q=>z80.mpr (q [] z hi .slnil)
 |x::r,z,Q,hi,h,q=>by
  show W (M.bind (n80 _ _ p ρ0 x) _) z Q E;refine o50.mpr (B91.mpr ?_);obtain⟨ρ,e,h0⟩:=h30 (h x Ì z hi);refine a00 e (c70.mpr ((c70.mp h0).imp λy z1 h1=>?_));obtain⟨s,e,hi1,b,rfl,h2⟩:=h30 h1;refine a00 e ?_;show if b=true then _ else _;have hr:=λ{Q:List D->Z->Prop} (q:∀ ys z1,I z1->ys.Sublist (r.map o)->Q ys z1)=>x62 o (z:=z1) hi1 (λy hy=>h y (È _ hy)) q;cases b with
  |false=>exact o50.mpr (hr λys z2 hi2 hs=>z80.mpr (q ys z2 hi2 (hs.cons _)))
  |true =>
   refine c70.mpr ((c70.mp (h2 rfl)).imp λy z2 h3=>?_);obtain⟨d,e,rfl,rfl⟩:=h30 h3;exact a00 e (o50.mpr (hr λys z2 hi2 hs=>z80.mpr (q _ z2 hi2 (hs.cons_cons _))))
theorem X52{I:Z->Prop}{P:D->D->Prop}(hi:I z)(h:∀ x∈xs,∀ z,I z->Get (f10 p x ρ0) λρ=>WE F el ρ z (λy z1=>Get (pl y) λd=>I z1/\P x d) NE)(q:∀ ys z1,I z1->Æ0 P xs ys->Q ys z1):W (turns (n80 (ev F .nil) (ev F el) p ρ0) xs) z Q E:=by
 refine h61 hi (λx hx z hz=>B81.mpr ?_) q;obtain⟨ρ,e,h⟩:=h30 (h x hx z hz);refine a00 e (c70.mpr ((c70.mp h).imp λy z1 h=>?_));obtain⟨d,e,h⟩:=h30 h;exact a00 e ⟨h.1,d,rfl,h.2⟩
end
theorem C01{s:S}{ρ:Env}(h:S40 s=true):k90 s ρ=ρ:=by
 unfold k90;rw[S60,h];rfl
theorem C11{F:FT}{tp:Bool}{p:Pat}{e:Ex}{r:Sm}{ρ:Env}{z:Z}{Q:O->Z->Prop}{E:Nat->Z->Prop}(s:S)(ρ':Env)(he:WE F e ρ z (λl z1=>Get (one l) λt=>t=s/\z1=z) NE)(hb:S70 p s (k90 s ρ)=some ρ')(q:WS F tp r ρ' z Q E):WS F tp (.seq (.set p e) r) ρ z Q E:=by
 show WE F e ρ z (λl z1=>Get (one l) λs=>Get (S70 p s (k90 s ρ)) λρ'=>WX F tp r ρ' z1 Q E) E;refine c70.mpr ((c70.mp he).imp λl z1 h=>?_);obtain⟨t,e,rfl,rfl⟩:=h30 h;exact a00 e (a00 hb q)
end Q
namespace K3
open PySem L2 Q
def top(i:Nat):Stmt:=ø.main.body.getD i (.Pass ⟨0,0,0,0⟩)
def nums:List (Str × Int):=[(("MOST_PLACES":Str),(6:Int)),(("MOST_TIES":Str),(8:Int)),(("MOST_BOTTOM":Str),(1000:Int))]
abbrev v0:Ex:=.var 0
abbrev v1:Ex:=.var 1
abbrev v2:Ex:=.var 2
abbrev v3:Ex:=.var 3
abbrev v4:Ex:=.var 4
abbrev v5:Ex:=.var 5
abbrev v6:Ex:=.var 6
abbrev v7:Ex:=.var 7
abbrev v8:Ex:=.var 8
abbrev v9:Ex:=.var 9
abbrev v10:Ex:=.var 10
abbrev v11:Ex:=.var 11
abbrev n0:Ex:=.con (.int 0)
abbrev n1:Ex:=.con (.int 1)
abbrev n2:Ex:=.con (.int 2)
abbrev c1(a:Ex):Ex:=.cons a .nil
abbrev c2(a b:Ex):Ex:=.cons a (.cons b .nil)
abbrev c3(a b c:Ex):Ex:=.cons a (.cons b (.cons c .nil))
abbrev c4(a b c d:Ex):Ex:=.cons a (.cons b (.cons c (.cons d .nil)))
abbrev c5(a b c d e:Ex):Ex:=.cons a (.cons b (.cons c (.cons d (.cons e .nil))))
abbrev s1(a:Sm):Sm:=.seq a .nil
abbrev p2(a b:Pat):Pat:=.tup (.cons a (.cons b .nil))
abbrev h00:Nat:=0
abbrev M80:Nat:=1
abbrev V51:Nat:=2
abbrev C21:Nat:=3
abbrev E00:Nat:=4
abbrev l10:Nat:=5
abbrev p90:Nat:=6
abbrev h71:Nat:=7
abbrev H50:Nat:=8
abbrev h81:Nat:=9
abbrev C31:Nat:=10
abbrev l20:Nat:=11
abbrev g10:Nat:=12
abbrev d70:Nat:=13
abbrev H60:Nat:=14
abbrev y00:Nat:=15
abbrev E10:Nat:=16
abbrev k50:Nat:=17
abbrev H70:Nat:=18
abbrev E20:Nat:=19
abbrev h91:Nat:=20
abbrev y10:Nat:=21
abbrev i01:Nat:=22
abbrev q00:Nat:=23
abbrev b50:Nat:=24
abbrev r10:Nat:=25
abbrev y20:Nat:=26
abbrev a50:Nat:=27
abbrev w70:Nat:=28
abbrev l90:Nat:=29
abbrev u60:Nat:=30
abbrev u70:Nat:=31
abbrev E30:Nat:=32
abbrev E40:Nat:=33
abbrev E50:Nat:=34
abbrev y30:Nat:=35
abbrev m00:Nat:=36
abbrev j70:Nat:=37
abbrev j80:Nat:=38
abbrev r20:Nat:=39
abbrev i60:Nat:=40
abbrev E60:Nat:=41
abbrev x72:Nat:=42
def h20:Sm:=(.seq (.whl (.cmp .gt v1 n0) (s1 (.set (p2 (.v 0) (.v 1)) (.tup (c2 v1 (.bin .mod v0 v1)))))) (s1 (.ret v0)))
def M90:Sm:=(.seq (.set (.v 2) (.call h00 (c2 v0 v1))) (s1 (.ret (.tup (c2 (.bin .fdiv v0 v2) (.bin .fdiv v1 v2))))))
def C41:Sm:=(s1 (.ret (.call M80 (c2 (.bin .add (.bin .mul (.idx v0 n0) (.idx v1 n1)) (.bin .mul (.idx v1 n0) (.idx v0 n1))) (.bin .mul (.idx v0 n1) (.idx v1 n1))))))
def b81:Sm:=(s1 (.ret (.call M80 (c2 (.bin .mul (.idx v0 n0) (.idx v1 n0)) (.bin .mul (.idx v0 n1) (.idx v1 n1))))))
def E70:Sm:=(s1 (.ret (.cmp .lt (.bin .mul (.idx v0 n0) (.idx v1 n1)) (.bin .mul (.idx v1 n0) (.idx v0 n1)))))
def H80:Sm:=(s1 (.ret (.and (.isi .int v0) (.not (.isi .bool v0)))))
def w80:Sm:=(s1 (.ret (.and (.call l10 (c1 v0)) (.ch .le .lt n0 v0 v1))))
def N00:Sm:=(.seq (.iff (.or (.not (.isi .tuple v0)) (.cmp .ne (.bf .len (c1 v0)) n2)) (s1 (.ret (.con (.bl false)))) .nil) (.seq (.set (p2 (.v 2) (.v 3)) v0) (s1 (.ret (.and (.call p90 (c2 v2 v1)) (.and (.call p90 (c2 v3 v1)) (.cmp .lt v2 v3)))))))
def w90:Sm:=(.seq (.iff (.or (.not (.isi .tuple v0)) (.cmp .gt (.bf .len (c1 v0)) (.gint "MOST_TIES" 8))) (s1 (.ret (.con (.bl false)))) .nil) (.seq (.iff (.not (.bf .all (c1 (.comp 1 [1] (.v 0) .seq (c1 v0) .nil (.call h71 (c2 v0 v1)))))) (s1 (.ret (.con (.bl false)))) .nil) (s1 (.ret (.bf .all (c1 (.comp 2 [] (p2 (.v 0) (.v 1)) .zip (c2 v0 (.sl v0 (c1 n1) .nil)) .nil (.cmp .le v0 v1))))))))
def N10:Sm:=(.seq (.iff (.or (.not (.isi .tuple v0)) (.cmp .ne (.bf .len (c1 v0)) n2)) (s1 (.ret (.con (.bl false)))) .nil) (.seq (.set (p2 (.v 1) (.v 2)) v0) (s1 (.ret (.and (.call l10 (c1 v1)) (.and (.ch .le .le n1 v1 (.gint "MOST_PLACES" 6)) (.call H50 (c2 v2 v1))))))))
def b91:Sm:=(s1 (.ret (.bf .all (c1 (.comp 2 [] (p2 (.v 0) (.v 1)) .zip (c2 v0 (.sl v0 (c1 n1) .nil)) .nil (.cmp .lt v0 v1))))))
def g20:Sm:=(.seq (.iff (.not (.isi .tuple v0)) (s1 (.ret (.con (.bl false)))) .nil) (s1 (.ret (.and (.bf .all (c1 (.comp 1 [1] (.v 0) .seq (c1 v0) .nil (.call p90 (c2 v0 v1))))) (.call C31 (c1 v0))))))
def m20:Sm:=(s1 (.iff (.not (.call h81 (c1 v0))) (s1 (.rais 0)) .nil))
def g40:Sm:=(s1 (.iff (.or (.not (.call l20 (c2 v1 (.idx v0 n0)))) (.cmp .eq (.bf .len (c1 v1)) n0)) (s1 (.rais 2)) .nil))
def x00:Sm:=(.seq (.set (p2 (.v 2) (.v 3)) v0) (.seq (.set (.v 4) (.lrng false (c1 v2))) (.seq (.fr (.v 5) .seq (c1 v1) (.seq (.set (p2 (.v 6) (.v 7)) (.idx v3 v5)) (.seq (.set (.v 8) (.idx v4 v6)) (.seq (.set (.v 9) (.idx v4 v7)) (s1 (.set (.v 4) (.comp 1 [8,9] (.v 0) .seq (c1 v4) .nil (.ite (.cmp .eq v0 v2) v1 v0)))))))) (s1 (.ret v4)))))
def o60:Sm:=(.seq (.set (.v 3) (.call H60 (c2 v0 v1))) (s1 (.ret (.bf .all (c1 (.comp 1 [2,3] (.v 0) .seq (c1 v2) .nil (.cmp .eq (.idx v2 v0) (.idx v2 (.idx v1 n0)))))))))
def s00:Sm:=(.seq (.iff (.or (.not (.isi .tuple v0)) (.cmp .ne (.bf .len (c1 v0)) n2)) (s1 (.ret (.con (.bl false)))) .nil) (.seq (.set (p2 (.v 1) (.v 2)) v0) (.seq (.iff (.or (.not (.call l10 (c1 v1))) (.not (.call l10 (c1 v2)))) (s1 (.ret (.con (.bl false)))) .nil) (.seq (.iff (.or (.not (.ch .le .le n1 v2 (.gint "MOST_BOTTOM" 1000))) (.not (.ch .le .le n0 v1 v2))) (s1 (.ret (.con (.bl false)))) .nil) (s1 (.ret (.cmp .eq (.call h00 (c2 v1 v2)) n1)))))))
def g50:Sm:=(s1 (.iff (.not (.call E10 (c1 v0))) (s1 (.rais 5)) .nil))
def q10:Sm:=(.seq (.set (.v 1) (cX (.lst [(.tup [])]) (-0))) (.seq (.fr (.v 2) .rng1 (c1 (.bf .len (c1 (.idx v0 n1)))) (s1 (.set (.v 1) (.bin .add v1 (.comp 1 [2] (.v 0) .seq (c1 v1) .nil (.bin .add v0 (.tup (c1 v1)))))))) (s1 (.ret (.bf .sorted (c1 v1))))))
def s10:Sm:=(.seq (.exp (.call g10 (c1 v0))) (.seq (.exp (.call d70 (c2 v0 v1))) (s1 (.ret (.comp 1 [0,1] (.v 0) .seq (c1 (.call H70 (c1 v0))) (c1 (.call y00 (c3 v1 v0 v2))) v0)))))
def N20:Sm:=(.seq (.set (.v 2) (.call E20 (c2 v0 v1))) (.seq (.set (.v 3) (.bin .mul (cX (.lst [(.int 0)]) (-0)) (.bin .add (.bf .len (c1 (.idx v0 n1))) n1))) (.seq (.fr (.v 4) .seq (c1 v2) (s1 (.augi 3 (.bf .len (c1 v4)) n1))) (s1 (.ret v3)))))
def e10:Sm:=(.seq (.exp (.call g10 (c1 v0))) (.seq (.exp (.call g10 (c1 v2))) (.seq (.exp (.call d70 (c2 v0 v1))) (s1 (.exp (.call d70 (c2 v2 v3)))))))
def N30:Sm:=(.seq (.set (.v 2) (.call h91 (c2 v0 v1))) (.seq (.set (.v 3) (.bin .mul (cX (.lst [(.int 0)]) (-0)) (.bf .len (c1 v2)))) (.seq (.fr (p2 (.v 4) (.v 5)) .enum (c1 v2) (.seq (.set (.v 3) (.comp 2 [] (p2 (.v 0) (.v 1)) .zip (c2 v3 (.bin .add (cX (.lst [(.int 0)]) (-0)) v3)) .nil (.bin .sub v0 v1))) (s1 (.augi 3 v4 v5)))) (s1 (.ret v3)))))
def q20:Sm:=(.seq (.exp (.call g10 (c1 v0))) (.seq (.exp (.call d70 (c2 v0 v1))) (.seq (.exp (.call k50 (c1 v2))) (.seq (.set (.v 3) (cX (.tup [(.int 0),(.int 1)]) (-0))) (.seq (.fr (.v 4) .seq (c1 (.rev (.call i01 (c2 v0 v1)))) (s1 (.set (.v 3) (.call V51 (c2 (.call C21 (c2 v3 v2)) (.tup (c2 v4 n1))))))) (s1 (.ret v3)))))))
def d20:Sm:=(.seq (.exp (.call y10 (c4 v0 v1 v2 v3))) (.seq (.set (.v 5) (.call q00 (c3 v0 v1 v4))) (.seq (.set (.v 6) (.call q00 (c3 v2 v3 v4))) (.seq (.iff (.call E00 (c2 v6 v5)) (s1 (.ret n1)) .nil) (s1 (.ret (.ite (.call E00 (c2 v5 v6)) (.neg n1) n0)))))))
def g60:Sm:=(.seq (.iff (.cmp .lt v1 (.bf .len (c1 v0))) (s1 (.ret (.idx v0 v1))) .nil) (s1 (.ret n0)))
def j90:Sm:=(.seq (.set (.v 2) (.call r10 (c2 v0 v1))) (.seq (.iff (.cmp .ge v2 (.bin .pow (.con (.int 10)) (.con (.int 18)))) (s1 (.ret (.lst (c2 (.bin .sub v2 (.bin .pow (.con (.int 10)) (.con (.int 18)))) (.con (.bl true)))))) .nil) (s1 (.ret (.lst (c2 (.bin .mod v2 (.con (.int 2147483647))) (.con (.bl false))))))))
def s20:Sm:=(.seq (.iff (.zget 0 1) (.seq (.set (.v 2) (.bin .mod (.zget 0 0) v1)) (.seq (.zset 0 (.bin .fdiv (.zget 0 0) v1)) (s1 (.ret v2)))) .nil) (.seq (.zset 0 (.bin .mod (.bin .add (.bin .mul (.zget 0 0) (.con (.int 48271))) (.con (.int 29))) (.con (.int 2147483647)))) (.seq (.set (.v 3) (.bin .mod (.bin .add (.bin .add (.bin .mul (.zget 0 0) (.zget 0 0)) (.bin .mul (.con (.int 39373)) (.zget 0 0))) (.con (.int 7))) (.con (.int 2147483629)))) (.seq (.set (.v 3) (.bin .mod (.bin .add (.bin .mul v3 v3) (.bin .mul (.con (.int 16807)) v3)) (.con (.int 2147483587)))) (s1 (.ret (.bin .mod (.bin .fdiv v3 (.con (.int 8))) v1)))))))
def x10:Sm:=(.seq (.set (.v 2) (.idx (cX (.lst [(.int 6),(.int 5),(.int 4),(.int 3),(.int 4),(.int 5),(.int 2),(.int 1)]) (-0)) (.call a50 (c2 v0 (.con (.int 8)))))) (.seq (.set (.v 3) (.lst .nil)) (.seq (.iff (.and (.cmp .gt v2 n1) (.cmp .gt (.call a50 (c2 v0 (.con (.int 5)))) n0)) (s1 (.set (.v 3) (.comp 1 [0] (.v 0) .rng2 (c2 n1 v2) .nil (.tup (c2 (.call a50 (c2 v1 v0)) v0))))) .nil) (.seq (.fr (.v 4) .rng1 (c1 (.bin .mul (.call a50 (c2 v0 (.bin .add v1 n1))) (.bf .int (c1 (.cmp .gt v2 n1))))) (.seq (.set (.v 5) (.call a50 (c2 v0 v2))) (.seq (.set (.v 6) (.bin .mod (.bin .add (.bin .add v5 n1) (.call a50 (c2 v0 (.bin .sub v2 n1)))) v2)) (s1 (.app 3 (.tup (c2 (.bf .min (c2 v5 v6)) (.bf .max (c2 v5 v6))))))))) (s1 (.ret (.tup (c2 v2 (.bf .tuple (c1 (.bf .sorted (c1 (.sl v3 .nil (c1 v1))))))))))))))
def m30:Sm:=(.seq (.set (.v 2) (.call a50 (c2 v0 (.con (.int 4))))) (.seq (.iff (.or (.cmp .lt v2 n2) (.cmp .eq (.idx v1 n0) n1)) (s1 (.ret (.lrng true (c1 (.idx v1 n0))))) .nil) (.seq (.iff (.cmp .eq v2 n2) (.seq (.set (.v 3) (.call a50 (c2 v0 (.idx v1 n0)))) (s1 (.ret (.bf .tuple (c1 (.bf .sorted (c1 (.lst (c2 v3 (.bin .mod (.bin .add (.bin .add v3 n1) (.call a50 (c2 v0 (.bin .sub (.idx v1 n0) n1)))) (.idx v1 n0))))))))))) .nil) (s1 (.ret (.orT (.bf .tuple (c1 (.comp 1 [0] (.v 0) .rng1 (c1 (.idx v1 n0)) (c1 (.cmp .eq (.call a50 (c2 v1 n2)) n1)) v0))) (.tup (c1 (.bin .sub (.idx v1 n0) n1)))))))))
def m40:Sm:=(.seq (.set (p2 (.v 2) (.v 3)) (.tup (c2 v0 v1))) (.seq (.whl (.cmp .ne v3 n0) (s1 (.set (p2 (.v 2) (.v 3)) (.tup (c2 v3 (.bin .mod v2 v3)))))) (s1 (.ret (.tup (c2 (.bin .fdiv v0 v2) (.bin .fdiv v1 v2)))))))
def m50:Sm:=(.seq (.set (.v 1) (cX (.lst [(.tup [(.int 1),(.int 2)]),(.tup [(.int 2),(.int 3)]),(.tup [(.int 1),(.int 3)]),(.tup [(.int 3),(.int 4)]),(.tup [(.int 9),(.int 10)]),(.tup [(.int 0),(.int 1)]),(.tup [(.int 1),(.int 1)]),(.tup [(.int 1),(.int 1000)]),(.tup [(.int 999),(.int 1000)])]) (-0))) (.seq (.set (.v 2) (.call a50 (c2 v0 (.con (.int 16))))) (.seq (.iff (.cmp .lt v2 (.con (.int 9))) (s1 (.ret (.idx v1 v2))) .nil) (.seq (.set (.v 3) (.bin .add n1 (.call a50 (c2 v0 (.idx (cX (.lst [(.int 12),(.int 1000)]) (-0)) (.call a50 (c2 v0 n2))))))) (s1 (.ret (.call u60 (c2 (.call a50 (c2 v0 (.bin .add v3 n1))) v3))))))))
def s30:Sm:=(.seq (.set (.v 3) (.lst (c1 v2))) (.seq (.fr (.v 4) .rng1 (c1 (.idx v0 n0)) (s1 (.fr (.v 5) .seq (c1 v1) (.seq (.set (p2 (.v 6) (.v 7)) (.idx (.idx v0 n1) v5)) (.seq (.iff (.and (.cmp .mem v6 v3) (.cmp .nmem v7 v3)) (s1 (.set (.v 3) (.bin .add v3 (.lst (c1 v7))))) .nil) (s1 (.iff (.and (.cmp .mem v7 v3) (.cmp .nmem v6 v3)) (s1 (.set (.v 3) (.bin .add v3 (.lst (c1 v6))))) .nil))))))) (s1 (.ret (.bf .tuple (c1 (.bf .sorted (c1 v3))))))))
def s40:Sm:=(.seq (.set (.v 3) (.call E30 (c3 v0 v1 (.idx v2 n0)))) (s1 (.ret (.cmp .eq (.comp 1 [3] (.v 0) .seq (c1 v2) (c1 (.cmp .nmem v0 v1)) v0) (.lst .nil)))))
def E80:Sm:=(.seq (.set (.v 1) (cX (.lst [(.tup [])]) (-0))) (.seq (.fr (.v 2) .rng1 (c1 (.bf .len (c1 (.idx v0 n1)))) (s1 (.set (.v 1) (.bin .add v1 (.comp 1 [2] (.v 0) .seq (c1 v1) .nil (.bin .add v0 (.tup (c1 v1)))))))) (s1 (.ret (.bf .sorted (c1 v1))))))
def o70:Sm:=(s1 (.ret (.and (.isi .int v0) (.not (.isi .bool v0)))))
def e40:Sm:=(.seq (.iff (.or (.not (.isi .tuple v1)) (.cmp .ne (.comp 1 [] (.v 0) .seq (c1 v1) (c1 (.not (.call y30 (c1 v0)))) v0) (.lst .nil))) (s1 (.ret (.con (.bl false)))) .nil) (.seq (.iff (.cmp .ne (.comp 1 [0] (.v 0) .seq (c1 v1) (c1 (.not (.ch .le .lt n0 v0 v1))) v0) (.lst .nil)) (s1 (.ret (.con (.bl false)))) .nil) (s1 (.ret (.cmp .eq (.bf .list (c1 v1)) (.bf .sset (c1 v1)))))))
def f20:Sm:=(.seq (.set (.v 3) (.call a50 (c2 v0 (.bin .add (.bf .len (c1 v2)) n1)))) (.seq (.set (.v 4) (.idx (.lst (.cons (.call a50 (c2 v0 (.bin .add v1 n1))) (.cons v1 (.cons (.neg n1) (.cons (.con (.bl true)) (.cons (.con .non) (c5 (.con (.str "0")) (cX (.tup [(.int 0)]) (-0)) (.con (.bl false)) (.bin .pow (.con (.int 10)) (.con (.int 29))) n0))))))) (.call a50 (c2 v0 (.con (.int 10)))))) (.seq (.set (.v 5) (.lst (c4 (.bin .add (.bin .add (.sl v2 .nil (c1 v3)) (.tup (c1 v4))) (.sl v2 (c1 v3) .nil)) (.bin .add (.bin .add (.sl v2 .nil (c1 v3)) (.tup (c1 v4))) (.sl v2 (c1 (.bin .add v3 n1)) .nil)) (.bin .add (.sl v2 .nil (c1 v3)) (.sl v2 (c1 (.bin .add v3 n1)) .nil)) (.bf .list (c1 v2))))) (s1 (.ret (.idx (.bin .add v5 (.lst (.cons (.rev v2) (.cons (.bin .add v2 (.sl v2 (c1 (.neg n1)) .nil)) (c5 (.con .non) (.con .dct) n0 (.tup (c1 v2)) (.tup .nil)))))) (.call a50 (c2 v0 (.con (.int 11))))))))))
def f30:Sm:=(.seq (.set (.v 2) (.call a50 (c2 v0 (.bin .add (.bf .len (c1 v1)) n1)))) (.seq (.set (.v 3) (cX (.lst [(.tup [(.int 2),(.int 4)]),(.tup [(.int 1),(.int 0)]),(.tup [(.int 3),(.int 2)]),(.tup [(.int (-1)),(.int 2)]),(.tup [(.bl true),(.int 2)]),(.tup [(.int 1),(.bl true)]),(.tup [(.int 1),(.int 1001)]),(.tup [(.int 1)]),(.tup [(.int 1),(.int 2),(.int 3)]),(.lst [(.int 1),(.int 2)]),.non,(.str "1/2"),(.int 1)]) (-0))) (.seq (.set (.v 3) (.idx v3 (.call a50 (c2 v0 (.con (.int 13)))))) (.seq (.set (.v 4) (.lst (c5 (.bin .add (.bin .add (.sl v1 .nil (c1 v2)) (.tup (c1 v3))) (.sl v1 (c1 v2) .nil)) (.bin .add v1 (cX (.tup [(.tup [(.int 1),(.int 2)])]) (-0))) (.bf .list (c1 v1)) (.con .non) (.con .dct)))) (.seq (.iff (.cmp .ne v1 (.tup .nil)) (.seq (.set (.v 2) (.call a50 (c2 v0 (.bf .len (c1 v1))))) (s1 (.set (.v 4) (.bin .add (.bin .add v4 (.bin .mul (.lst (c1 (.bin .add (.bin .add (.sl v1 .nil (c1 v2)) (.tup (c1 v3))) (.sl v1 (c1 (.bin .add v2 n1)) .nil)))) (.con (.int 5)))) (.lst (c2 (.sl v1 (c1 n1) .nil) (.bin .add (.tup (c1 v1)) (.sl v1 (c1 n1) .nil)))))))) .nil) (s1 (.ret (.idx v4 (.call a50 (c2 v0 (.bf .len (c1 v4))))))))))))
def k60:Sm:=(.seq (.set (.v 1) (cX (.lst [.non,(.int 0),(.tup []),(.tup [(.int 7),(.tup [])]),(.tup [(.int 0),(.tup [])]),(.tup [(.int (-1)),(.tup [])]),(.tup [(.bl true),(.tup [])]),(.tup [(.int 2),(.lst [])]),(.lst [(.int 2),(.tup [])]),(.tup [(.int 2),(.tup [(.tup [(.int 1),(.int 0)])])]),(.tup [(.int 2),(.tup [(.tup [(.int 0),(.int 0)])])]),.dct]) (-0))) (.seq (.set (.v 1) (.bin .add v1 (.lst (c5 (.tup (c2 n2 (.bin .mul (cX (.tup [(.tup [(.int 0),(.int 1)])]) (-0)) (.con (.int 9))))) (cX (.tup [(.int 3),(.tup [(.tup [(.int 0),(.int 2)]),(.tup [(.int 0),(.int 1)])])]) (-0)) (cX (.tup [(.int 2),(.tup [(.tup [(.int 0),(.int 2)])])]) (-0)) (cX (.tup [(.int 2),(.tup [(.tup [(.int 0),(.bl true)])])]) (-0)) (cX (.tup [(.int 2),(.tup [(.tup [(.int 0),(.int 1),(.int 1)])])]) (-0)))))) (.seq (.set (.v 1) (.bin .add v1 (cX (.lst [(.tup [(.int 2),(.tup [(.int 0),(.int 1)])]),(.tup [(.int 2),.non]),(.tup [(.int 2),(.tup []),(.tup [])]),(.tup [(.int 2)]),(.tup [(.int 2),(.tup [(.lst [(.int 0),(.int 1)])])]),(.tup [(.int 2),(.tup [.non])]),(.tup [(.str "2"),(.tup [])]),(.str "2:")]) (-0)))) (s1 (.ret (.idx v1 (.call a50 (c2 v0 (.con (.int 25))))))))))
def m60:Sm:=(.seq (.iff (.isi .seq v1) (.seq (.iff (.or (.cmp .ne (.isi .tuple v0) (.isi .tuple v1)) (.cmp .ne (.isi .list v0) (.isi .list v1))) (s1 (.ret (.con (.bl false)))) .nil) (.seq (.iff (.cmp .ne (.bf .len (c1 v0)) (.bf .len (c1 v1))) (s1 (.ret (.con (.bl false)))) .nil) (s1 (.ret (.bf .all (c1 (.comp 2 [] (p2 (.v 0) (.v 1)) .zip (c2 v0 v1) .nil (.call i60 (c2 v0 v1))))))))) .nil) (s1 (.ret (.and (.cmp .eq v0 v1) (.cmp .eq (.isi .bool v0) (.isi .bool v1))))))
def E90:Sm:=(.seq (.set (p2 (.v 3) (.v 4)) v2) (.seq (.set (p2 (.v 5) (.v 6)) (cX (.tup [(.int 0),(.int 1)]) (-0))) (.seq (.fr (.v 7) .rng1 (c1 (.bf .len (c1 (.idx v0 n1)))) (s1 (.set (.v 6) (.bin .mul v6 v4)))) (.seq (.fr (.v 8) .seq (c1 (.call E50 (c1 v0))) (s1 (.iff (.call E40 (c3 v0 v8 v1)) (.seq (.set (.v 9) n1) (.seq (.fr (.v 7) .rng1 (c1 (.bf .len (c1 (.idx v0 n1)))) (s1 (.set (.v 9) (.bin .mul v9 (.ite (.cmp .mem v7 v8) v3 (.bin .sub v4 v3)))))) (s1 (.set (.v 5) (.bin .add v5 v9))))) .nil))) (s1 (.ret (.tup (c2 v5 v6))))))))
def P81:Sm:=(.seq (.fr (.v 1) .rng1 (c1 (.bf .max (c2 n1 (.bf .min (c2 (.bf .len (c1 v0)) (.con (.int 4))))))) (.seq (.newz 2 y20 (c2 v0 v1)) (.seq (.set (p2 (.v 3) (.v 4)) (.tup (c2 (.call w70 (c2 v2 (.idx (.lst (c2 (.con (.int 6)) (.bin .add (.con (.int 6)) (.bin .mul n2 (.bf .int (c1 (.cmp .eq v1 n0))))))) (.call a50 (c2 v2 n2))))) (.call w70 (c2 v2 (.con (.int 6))))))) (.seq (.set (p2 (.v 5) (.v 6)) (.tup (c2 (.call l90 (c2 v2 v3)) (.call l90 (c2 v2 v4))))) (.seq (.fr (.v 7) .seq (c1 (.lst (c3 (.call u70 (c1 v2)) (cX (.tup [(.int 1),(.int 2)]) (-0)) (cX (.tup [(.int 0),(.int 1)]) (-0))))) (.seq (.set (p2 (.v 8) (.v 9)) (.tup (c2 (.call E60 (c3 v3 v5 v7)) (.call E60 (c3 v4 v6 v7))))) (.seq (.set (.v 10) (.bin .sub (.bin .mul (.idx v8 n0) (.idx v9 n1)) (.bin .mul (.idx v9 n0) (.idx v8 n1)))) (.seq (.set (.v 11) (.bin .sub (.bf .int (c1 (.cmp .gt v10 n0))) (.bf .int (c1 (.cmp .lt v10 n0))))) (.seq (.iff (.not (.call i60 (c2 (.call b50 (c5 v3 v5 v4 v6 v7)) v11))) (s1 (.ret (.con (.bl false)))) .nil) (s1 (.iff (.not (.call i60 (c2 (.call b50 (c5 v4 v6 v3 v5 v7)) (.bin .sub n0 v11)))) (s1 (.ret (.con (.bl false)))) .nil))))))) (.seq (.set (p2 (.v 12) (.v 13)) (.tup (c2 (.call r20 (c1 v2)) (.call j80 (c2 v2 (.tup .nil)))))) (.seq (.set (.v 14) (.call j70 (c3 v2 (.idx v3 n0) v5))) (.seq (.iff (.cmp .ne (.refd [4,12,13,14] (.call b50 (c5 v1 v3 v0 (.con .non) v2))) (cX (.lst [(.int 0)]) (-0))) (s1 (.ret (.con (.bl false)))) .nil) (.seq (.iff (.cmp .ne (.refd [3,12,13,14] (.call b50 (c5 v0 v3 v1 (.con .non) v2))) (cX (.lst [(.int 0)]) (-0))) (s1 (.ret (.con (.bl false)))) .nil) (.seq (.iff (.cmp .ne (.refd [3,4,5,6,13] (.call b50 (c5 v0 v2 v1 v3 v4))) (cX (.lst [(.int 5)]) (-0))) (s1 (.ret (.con (.bl false)))) .nil) (s1 (.iff (.or (.not (.call m00 (c2 (.idx v3 n0) (.var 14)))) (.cmp .eq (.var 14) (.tup .nil))) (.seq (.iff (.cmp .ne (.refd [3,4,6,13,14] (.call b50 (c5 v0 v4 v1 v2 v3))) (cX (.lst [(.int 2)]) (-0))) (s1 (.ret (.con (.bl false)))) .nil) (s1 (.iff (.cmp .ne (.refd [3,4,6,13,14] (.call b50 (c5 v1 v2 v0 v4 v3))) (cX (.lst [(.int 2)]) (-0))) (s1 (.ret (.con (.bl false)))) .nil))) .nil)))))))))))) (s1 (.ret (.con (.bl true)))))
def rows:List Row:=[(⟨"common_divisor",["one","other"],top 15,["one","other"],h20,false⟩:Row),
 (⟨"lowest",["top","bottom"],top 16,["top","bottom","divisor"],M90,false⟩:Row),
 (⟨"plus",["one","other"],top 17,["one","other"],C41,false⟩:Row),
 (⟨"times",["one","other"],top 18,["one","other"],b81,false⟩:Row),
 (⟨"is_less",["one","other"],top 19,["one","other"],E70,false⟩:Row),
 (⟨"is_whole",["thing"],top 23,["thing"],H80,false⟩:Row),
 (⟨"is_below",["thing","many"],top 24,["thing","many"],w80,false⟩:Row),
 (⟨"is_tie",["thing","many"],top 25,["thing","many","a","b"],N00,false⟩:Row),
 (⟨"are_ties",["thing","many"],top 26,["thing","many"],w90,false⟩:Row),
 (⟨"is_web",["thing"],top 27,["thing","many","ties"],N10,false⟩:Row),
 (⟨"rises",["things"],top 28,["things"],b91,false⟩:Row),
 (⟨"is_rising_below",["thing","many"],top 29,["thing","many"],g20,false⟩:Row),
 (⟨"check_web",["thing"],top 30,["thing"],m20,false⟩:Row),
 (⟨"check_places",["web","thing"],top 31,["web","thing"],g40,false⟩:Row),
 (⟨"marks_by",["web","lot"],top 32,["web","lot","many","ties","marks","number","a","b","kept","gone"],x00,false⟩:Row),
 (⟨"are_joined",["web","lot","places"],top 33,["web","lot","places","marks"],o60,false⟩:Row),
 (⟨"is_chance",["thing"],top 36,["thing","top","bottom"],s00,false⟩:Row),
 (⟨"check_chance",["thing"],top 37,["thing"],g50,false⟩:Row),
 (⟨"all_lots",["web"],top 39,["web","lots","number"],q10,false⟩:Row),
 (⟨"good_lots",["web","places"],top 40,["web","places"],s10,false⟩:Row),
 (⟨"counts",["web","places"],top 42,["web","places","lots","found","lot"],N20,false⟩:Row),
 (⟨"check_both",["web","places","other","more"],top 43,["web","places","other","more"],e10,false⟩:Row),
 (⟨"powers",["web","places"],top 44,["web","places","numbers","found","k","many"],N30,false⟩:Row),
 (⟨"share_at",["web","places","chance"],top 45,["web","places","chance","found","number"],q20,false⟩:Row),
 (⟨"greater_at",["web","places","other","more","chance"],top 46,["web","places","other","more","chance","first","second"],d20,false⟩:Row),
 (⟨"_law_cell_at",["_law_script","_law_k"],top 48,["_law_script","_law_k"],g60,false⟩:Row),
 (⟨"_law_state",["_law_script","_law_k"],top 49,["_law_script","_law_k","_law_cell"],j90,false⟩:Row),
 (⟨"_law_take",["_law_state_here","_law_many"],top 50,["_law_state_here","_law_many","_law_found","_law_stirred"],s20,false⟩:Row),
 (⟨"_law_web",["_law_state_here","_law_most"],top 51,["_law_state_here","_law_most","_law_many","_law_ties","_law_turn","_law_one","_law_other"],x10,false⟩:Row),
 (⟨"_law_places",["_law_state_here","_law_web_here"],top 52,["_law_state_here","_law_web_here","_law_way","_law_one"],m30,false⟩:Row),
 (⟨"_law_lowest",["_law_top","_law_bottom"],top 53,["_law_top","_law_bottom","_law_one","_law_other"],m40,false⟩:Row),
 (⟨"_law_chance",["_law_state_here"],top 54,["_law_state_here","_law_some","_law_way","_law_bottom"],m50,false⟩:Row),
 (⟨"_law_with",["_law_web_here","_law_lot","_law_place"],top 55,["_law_web_here","_law_lot","_law_place","_law_found","_law_turn","_law_number","_law_one","_law_other"],s30,false⟩:Row),
 (⟨"_law_good",["_law_web_here","_law_lot","_law_places_here"],top 56,["_law_web_here","_law_lot","_law_places_here","_law_here"],s40,false⟩:Row),
 (⟨"_law_lots",["_law_web_here"],top 57,["_law_web_here","_law_found","_law_number"],E80,false⟩:Row),
 (⟨"_law_whole",["_law_thing"],top 58,["_law_thing"],o70,false⟩:Row),
 (⟨"_law_rising",["_law_many","_law_thing"],top 59,["_law_many","_law_thing"],e40,false⟩:Row),
 (⟨"_law_bent_rising",["_law_state_here","_law_many","_law_some"],top 60,["_law_state_here","_law_many","_law_some","_law_at_here","_law_odd","_law_found"],f20,false⟩:Row),
 (⟨"_law_bad_chances",["_law_state_here","_law_chances"],top 61,["_law_state_here","_law_chances","_law_at_here","_law_odd","_law_some"],f30,false⟩:Row),
 (⟨"_law_bad_web",["_law_state_here"],top 62,["_law_state_here","_law_some"],k60,false⟩:Row),
 (⟨"_law_same",["_law_found","_law_due"],top 63,["_law_found","_law_due"],m60,false⟩:Row),
 (⟨"_law_at",["_law_web_here","_law_places_here","_law_chance_here"],top 65,["_law_web_here","_law_places_here","_law_chance_here","_law_top","_law_bottom","_law_found","_law_whole_here","_law_number","_law_lot","_law_part"],E90,false⟩:Row),
 (⟨"law",["_law_script"],top 66,["_law_script","_law_k","_law_state_here","_law_one","_law_other","_law_mine","_law_theirs","_law_chance_here","_law_first","_law_second","_law_less","_law_due","_law_bad","_law_none","_law_odd"],P81,true⟩:Row)]
def T:List Df:=[(Df.code 2 2 h20:Df),(Df.code 2 3 M90:Df),(Df.code 2 2 C41:Df),(Df.code 2 2 b81:Df),(Df.code 2 2 E70:Df),(Df.code 1 1 H80:Df),(Df.code 2 2 w80:Df),(Df.code 2 4 N00:Df),(Df.code 2 2 w90:Df),(Df.code 1 3 N10:Df),(Df.code 1 1 b91:Df),(Df.code 2 2 g20:Df),(Df.code 1 1 m20:Df),(Df.code 2 2 g40:Df),(Df.code 2 10 x00:Df),(Df.code 3 4 o60:Df),(Df.code 1 3 s00:Df),(Df.code 1 1 g50:Df),(Df.code 1 3 q10:Df),(Df.code 2 2 s10:Df),(Df.code 2 5 N20:Df),(Df.code 4 4 e10:Df),(Df.code 2 6 N30:Df),(Df.code 3 5 q20:Df),(Df.code 5 7 d20:Df),(Df.code 2 2 g60:Df),(Df.code 2 3 j90:Df),(Df.code 2 4 s20:Df),(Df.code 2 7 x10:Df),(Df.code 2 4 m30:Df),(Df.code 2 4 m40:Df),(Df.code 1 4 m50:Df),(Df.code 3 8 s30:Df),(Df.code 3 4 s40:Df),(Df.code 1 3 E80:Df),(Df.code 1 1 o70:Df),(Df.code 2 2 e40:Df),(Df.code 3 6 f20:Df),(Df.code 2 5 f30:Df),(Df.code 1 2 k60:Df),(Df.code 2 2 m60:Df),(Df.code 3 10 E90:Df),(Df.code 1 15 P81:Df)]
theorem X62:tabOf rows=T:=rfl
end K3
namespace K3
open Q
open L2 (D)
def o80:D->Bool
 |.int _=>true|_=>false
theorem m70(k:Nat)(x:D)(z:Z):b40 T (k + 3) l10 [.d x] z=some (.ok (.d (.bl (o80 x))) z):=by
 cases z <;> cases x <;> rfl
def b90(x:D)(m:Int):Bool:=match x with
 |.int i=>decide (0<=i)&&decide (i < m)|_=>false
theorem s50(k:Nat)(x:D)(m:Int)(z:Z):b40 T (k + 4) p90 [.d x,.d (.int m)] z=some (.ok (.d (.bl (b90 x m))) z):=by
 refine W.ok (g30 (ps:=2) (ns:=2) (b:=w80) rfl rfl (-0) (Wo (m70 (k:=k) x z) ?_))
 cases x with
 |int i=>exact ib (b:=decide (0<=i)) (λh=>sb (show decide (i < m)=(decide (0<=i)&&decide (i < m)) by rw[h];rfl)) λh=>sb (show false=(decide (0<=i)&&decide (i < m)) by rw[h];rfl)|_=>exact sb rfl
def H01(x:D)(m:Int):Bool:=match x with
 |.tup [a,b]=>b90 a m&&(b90 b m&&(match a,b with
  |.int i,.int j=>decide (i < j)
  |_,_=>false))
 |_=>false
theorem i70(h:b90 x m=true):∃ i,x=.int i/\0<=i/\i < m:=by
 cases x with
 |int i =>
  unfold b90 at h;rw[Á,decide_eq_true_eq,decide_eq_true_eq] at h;exact⟨i,rfl,h⟩
 |_=>cases h
theorem C51(k:Nat)(x:D)(m:Int)(z:Z):b40 T (k + 5) h71 [.d x,.d (.int m)] z=some (.ok (.d (.bl (H01 x m))) z):=by
 refine W.ok (g30 (ps:=2) (ns:=4) (b:=N00) rfl rfl (-0) ?_)
 cases x with
 |tup l =>
  match l with
  |[a,b] =>
   refine Wo (s50 k a m z) (ib (b:=b90 a m) (λh1=>Wo (s50 k b m z) (ib (b:=b90 b m) (λh2=>?_) λh=>?_)) λh=>?_)
   ·obtain⟨i,rfl,_⟩:=i70 h1;obtain⟨j,rfl,_⟩:=i70 h2;exact sb (show decide (i < j)=(b90 (.int i) m&&(b90 (.int j) m&&decide (i < j))) by rw[h1,h2];rfl)
   ·exact sb (show false=(b90 a m&&(b90 b m&&_)) by rw[h1,h];rfl)
   ·exact sb (show false=(b90 a m&&_) by rw[h];rfl)
  |[]=>exact sb rfl|[_]=>exact sb rfl|_::_::_::_=>exact sb rfl
 |_=>exact sb rfl
theorem H90(l:List D)(p:D->Bool):bfD .all [.lst (l.map λx=>D.bl (p x))]=some (.d (.bl (l.all p))):=by
 have h:(l.map λx=>D.bl (p x)).mapM asB=some (l.map p):=by
  induction l with
  |nil=>rfl
  |cons x r ih =>
   rw[Å7,mapM_cons,ih];rfl
 show((l.map λx=>D.bl (p x)).mapM asB).map _=_;rw[h];simp[all_map]
theorem i11(l:List D)(n:Nat):cutD l (some (n:Int)) none=l.drop n:=by
 have h1:HT.sIx l.length 0 (some (n:Int))=min n l.length:=HT.r01 l.length 0 n;unfold cutD;rw[h1];show((l.drop (min n l.length)).take (l.length - min n l.length))=_;rcases Nat.le_total n l.length with h | h
 ·rw[Ý6 h,Ë4 (by rw[Í2];omega)]
 ·rw[Ü5 h,drop_length,List.take_nil,List.drop_of_length_le h]
theorem u80:∀ a b:List D,(n70 a b).length<=a.length
 |[],_=>Í _|_::_,[]=>Æ1 _|_::r,_::q=>Ü4 (u80 r q)
theorem N40:∀ {a b:List D}{d:D},d∈n70 a b->∃ x∈a,∃ y∈b,d=.tup [x,y]
 |x::r,y::q,d,h=>by
  rcases ú.mp h with h | h
  ·exact⟨x,Ì,y,Ì,h⟩
  ·obtain⟨u,hu,v,hv,e⟩:=N40 h;exact⟨u,È _ hu,v,È _ hv,e⟩
def leD:D->Bool
 |.tup [.tup a,.tup b]=>(match Z70 a,Z70 b with
  |some ns,some ms=>HT.leB ns ms
  |_,_=>false)
 |_=>false
def i21(l:List D):Bool:=(n70 l (l.drop 1)).all leD
def c01(x:D)(m:Int):Bool:=match x with
 |.tup l=>decide (l.length<=8)&&(l.all (λt=>H01 t m)&&i21 l)|_=>false
theorem U90(h:H01 x m=true):∃ i j,x=.tup [.int i,.int j]/\0<=i/\i < j/\j < m:=by
 cases x with
 |tup l =>
  match l,h with
  |[a,b],h =>
   unfold H01 at h;rw[Á,Á] at h;obtain⟨h1,h2,h3⟩:=h;obtain⟨i,rfl,i1,i2⟩:=i70 h1;obtain⟨j,rfl,j1,j2⟩:=i70 h2;exact⟨i,j,rfl,i1,of_decide_eq_true h3,j2⟩
 |_=>cases h
theorem s60(h:n<=1000):n<=most:=Ñ h (-0)
theorem c21(k:Nat)(x:D)(m:Int)(z:Z):b40 T (k + 6) H50 [.d x,.d (.int m)] z=some (.ok (.d (.bl (c01 x m))) z):=by
 refine W.ok (g30 (ps:=2) (ns:=2) (b:=w90) rfl rfl (-0) ?_)
 cases x with
 |tup l =>
  refine ib (b:=decide ((8:Int) < (l.length:Int))) (λh=>?_) λh=>?_
  ·refine sb (show false=(decide (l.length<=8)&&_) from ?_);rw[decide_eq_true_eq] at h;rw[decide_eq_false ∅];rfl
  ·rw[decide_eq_false_iff_not] at h;have h8:l.length<=8:=by omega
   refine ip (s60 ∅) (P71 (λx=>.bl (H01 x m)) (λx _=>Wo (C51 k x m z) ⟨rfl,rfl⟩) ?_)
   refine(a00 (H90 l λx=>H01 x m) ?_ :);refine ib (b:=!l.all λx=>H01 x m) (λh=>?_) λh2=>?_
   ·exact sb (show false=(decide (l.length<=8)&&(l.all (λt=>H01 t m)&&i21 l)) by rw[À3] at h;rw[h,Õ7,Bool.and_false])
   ·rw[Í0] at h2;have ha:=Õ.mp h2;have e1:cutD l (some 1) none=l.drop 1:=i11 l 1;refine ip (c:=(n70 l (cutD l (some 1) none)).length<=most) (Ñ (u80 _ _) (s60 ∅)) (P71 (λx=>.bl (leD x)) (λx hx=>?_) (a00 (H90 _ leD) ?_ :))
    ·obtain⟨u,hu,v,hv,rfl⟩:=N40 hx;rw[e1] at hv;obtain⟨i,j,rfl,_⟩:=U90 (ha u hu);obtain⟨i',j',rfl,_⟩:=U90 (ha v (List.mem_of_mem_drop hv));exact⟨rfl,rfl⟩
    ·refine sb (b:=(n70 l (cutD l (some 1) none)).all leD) ?_;show _=(decide (l.length<=8)&&(l.all (λt=>H01 t m)&&i21 l));rw[e1,h2,decide_eq_true h8,Å0,Å0];rfl
 |_=>exact sb rfl
def P12(a t:D):Bool:=match a with
 |.int m=>decide (1<=m)&&(decide (m<=6)&&c01 t m)|_=>false
def p51(x:D):Bool:=match x with
 |.tup [a,t]=>P12 a t|_=>false
theorem V00(k:Nat)(x:D)(z:Z):b40 T (k + 7) h81 [.d x] z=some (.ok (.d (.bl (p51 x))) z):=by
 refine W.ok (g30 (ps:=1) (ns:=3) (b:=N10) rfl rfl (-0) ?_)
 cases x with
 |tup l =>
  match l with
  |[a,t] =>
   refine Wo (m70 (k + 3) a _) ?_;cases a with
   |int m =>
    refine ib (b:=decide (1<=m)) (λg1=>ib (b:=decide (m<=6)) (λg2=>Wo (c21 k t m _) ?_) λg2=>?_) λg1=>?_
    ·exact sb (show c01 t m=(decide (1<=m)&&(decide (m<=6)&&c01 t m)) by rw[g1,g2];rfl)
    ·exact sb (show false=(decide (1<=m)&&(decide (m<=6)&&c01 t m)) by rw[g1,g2];rfl)
    ·exact sb (show false=(decide (1<=m)&&(decide (m<=6)&&c01 t m)) by rw[g1];rfl)
   |_=>exact sb rfl
  |[]=>exact sb rfl|[_]=>exact sb rfl|_::_::_::_=>exact sb rfl
 |_=>exact sb rfl
theorem c40(k:Nat)(z:Z)(h:p51 x=true):b40 T (k + 8) g10 [.d x] z=some (.ok (.d .non) z) :=
 W.ok (g30 (ps:=1) (ns:=1) (b:=m20) rfl rfl (-0) (Wo (V00 k x z) (ie (b:=!p51 x) (by rw[h];rfl) (sd rfl))))
theorem y40(k:Nat)(z:Z)(h:p51 x=false):b40 T (k + 8) g10 [.d x] z=some (.er 0 z) :=
 W.er (g30 (ps:=1) (ns:=1) (b:=m20) rfl rfl (-0) (Wo (V00 k x z) (it (b:=!p51 x) (by rw[h];rfl) ⟨rfl,c30 z⟩)))
theorem n81(hj:0 < j):z50 .mod (.int i) (.int j)=some (.d (.int (i % j))):=by
 show(if 0 < j then some (S.d (.int (i % j))) else none)=_;rw[if_pos hj]
def GT(n:Nat)(a b:Int):Prop:=0<=b/\((∃ k:Nat,n=2 * k + 1/\b < 2 ^ k)∨∃ k:Nat,n=2 * k/\b < a/\a < 2 ^ k)
theorem GT.step(h:GT n a b)(hb:0 < b):∃ m,m < n/\GT m b (a % b):=by
 obtain⟨h0,h⟩:=h;have r0:=Ö2 a (show b≠0 by omega)
 have r1:=emod_lt_of_pos a hb;rcases h with ⟨k,rfl,hk⟩ | ⟨k,rfl,hba,hk⟩
 ·exact⟨2 * k,Ë9 _,r0,.inr ⟨k,rfl,r1,hk⟩⟩
 ·cases k with
  |zero=>simp at hk;omega
  |succ k =>
   refine⟨2 * k + 1,by omega,r0,.inl ⟨k,rfl,?_⟩⟩
   have e:=Int.emod_add_mul_ediv a b;have q1:1<=a / b:=Int.le_ediv_of_mul_le hb ∅
   have:b * 1<=b * (a / b):=Int.mul_le_mul_of_nonneg_left q1 ∅
   have h2:(2:Int) ^ (k + 1)=2 * 2 ^ k:=by rw[Ã5,Ú7]
   rw[h2] at hk;omega
theorem C61(a b:Int):gcd b (a % b)=gcd a b:=by
 rw[Int.emod_def,Int.gcd_sub_mul_left_right,Int.gcd_comm]
def big(b:Int):Prop:=b < 2 ^ 4000
theorem h92(h0:0<=b)(h:big b):b.natAbs < P30:=by
 have h:b < 2 ^ 4000:=h;have e:((2 ^ 4000:Nat):Int)=2 ^ 4000:=by rw[Int.natCast_pow];rfl
 show b.natAbs < 2 ^ 4000;omega
theorem V10(h:b<=2 ^ 64):big b:=Int.lt_of_le_of_lt h (-0)
theorem l30(k:Nat)(a b:Int)(z:Z)(h0:0 < b)(h1:big b):b40 T (k + 3) h00 [.d (.int a),.d (.int b)] z=some (.ok (.d (.int (gcd a b))) z):=by
 refine W.ok (g30 (ps:=2) (ns:=2) (b:=h20) rfl rfl (-0) (x52 (λn ρ z1=>z1=z/\∃ c d:Int,ρ=[some (.d (.int c)),some (.d (.int d))]/\GT n c d/\gcd c d=gcd a b/\(d=0->0<=c)) (2 * 4000 + 1) ⟨rfl,a,b,rfl,⟨Ô2 h0,.inl ⟨4000,rfl,h1⟩⟩,rfl,λh=>by omega⟩ (-0) ?_))
 rintro n ρ z1 ⟨rfl,c,d,rfl,g,hg,hc⟩;refine ib (b:=decide (0 < d)) (λhd=>?_) λhd=>?_
 ·rw[decide_eq_true_eq] at hd;obtain⟨m,hm,g'⟩:=g.step hd;refine(a00 (n81 (i:=c) hd) ?_ :);exact⟨m,hm,rfl,d,c % d,rfl,g',(C61 c d).trans hg,λ_=>Int.le_of_lt hd⟩
 ·rw[decide_eq_false_iff_not] at hd;have hz:d=0:=by have:=g.1;omega
  subst hz;rw[Int.gcd_zero_right] at hg;refine sd (s:=.d (.int c)) ?_;rw[← hg,show((c.natAbs:Nat):Int)=c by have:=hc rfl;omega]
def chI(t b:Int):Bool:=(decide (1<=b)&&decide (b<=1000))&&((decide (0<=t)&&decide (t<=b))&&(((gcd t b:Nat):Int) == 1))
def chP:D->D->Bool
 |.int t,.int b=>chI t b|_,_=>false
def chD:D->Bool
 |.tup [d,e]=>chP d e|_=>false
theorem i31(h:¬ (1<=u/\u<=1000/\0<=t/\t<=u)):false=chI t u:=by
 unfold chI;refine Eq.symm ?_;rw[Bool.eq_false_iff];intro q;rw[Á,Á,Á,Á,decide_eq_true_eq,decide_eq_true_eq,decide_eq_true_eq,decide_eq_true_eq] at q;exact h ⟨q.1.1,q.1.2,q.2.1.1,q.2.1.2⟩
theorem y50(k:Nat)(x:D)(z:Z):b40 T (k + 4) E10 [.d x] z=some (.ok (.d (.bl (chD x))) z):=by
 refine W.ok (g30 (ps:=1) (ns:=3) (b:=s00) rfl rfl (-0) ?_)
 cases x with
 |tup l =>
  match l with
  |[a,b] =>
   refine Wo (m70 k a z) ?_;cases a with
   |int t =>
    refine Wo (m70 k b z) ?_;cases b with
    |int u =>
     refine ib (b:=decide (1<=u)) (λh1=>ib (b:=!decide (u<=1000)) (λh2=>?_) λh2=>ib (b:=decide (0<=t)) (λh3=>ib (b:=!decide (t<=u)) (λh4=>?_) λh4=>?_) λh3=>?_) λh1=>?_
     ·exact sb (i31 λq=>by rw[À3,decide_eq_false_iff_not] at h2;exact h2 q.2.1)
     ·exact sb (i31 λq=>by rw[À3,decide_eq_false_iff_not] at h4;exact h4 q.2.2.2)
     ·rw[Í0,decide_eq_true_eq] at h2 h4;rw[decide_eq_true_eq] at h1 h3;refine Wo (l30 k t u z ∅ (V10 ∅)) (sb (show(((gcd t u:Nat):Int) == 1)=chI t u from ?_))
      unfold chI;rw[decide_eq_true h1,decide_eq_true h2,decide_eq_true h3,decide_eq_true h4];rfl
     ·exact sb (i31 λq=>by rw[decide_eq_false_iff_not] at h3;exact h3 q.2.2.1)
     ·exact sb (i31 λq=>by rw[decide_eq_false_iff_not] at h1;exact h1 q.1)
    |_=>exact sb rfl
   |_=>exact sb rfl
  |[]=>exact sb rfl|[_]=>exact sb rfl|_::_::_::_=>exact sb rfl
 |_=>exact sb rfl
def ZI(z:Z):Prop:=∃ n b,z=some (n,b)/\0<=n/\(b=false->n < 2147483647)
theorem i02{T:List Df}{k f ps ns:Nat}{b:Sm}{l:List S}{z:Z}{Q:S->Z->Prop}{E:Nat->Z->Prop}(hz:ZI z)(h:T[f]?=some (.code ps ns b))(hl:l.length=ps)(hn:ps<=ns)(q:WS (T00 T (k + 2)) false b (start ns (l.map plS)) z (λo z1=>match o with
  |.nx _=>Q (.d .non) z1
  |.rt s=>Q s z1) E):W (b40 T (k + 3) f l) z Q E:=by
 obtain⟨n,c,rfl,_⟩:=hz;refine g30 h hl hn (q.mono (λo z1 h=>?_) λ_ _ h=>h);cases o <;> exact h
theorem C71{a:Int}{n:Nat}(h:a.natAbs < n)(hn:n<=2 ^ 64:=by decide):a.natAbs < P30:=Þ h (Ñ hn (-0))
theorem c31{i j:Int}(hi:i.natAbs < 2 ^ 64)(hj:j.natAbs < 2 ^ 64):z50 .mul (.int i) (.int j)=some (.d (.int (i * j))):=by
 show(if i.natAbs < P30/\j.natAbs < P30 then some (S.d (.int (i * j))) else none)=_;rw[if_pos ⟨C71 hi,C71 hj⟩]
theorem L92{i j:Int}(hj:0 < j)(hb:j.natAbs < 2 ^ 64):z50 .fdiv (.int i) (.int j)=some (.d (.int (i / j))):=by
 show(if 0 < j/\j.natAbs < P30 then some (S.d (.int (i / j))) else none)=_;rw[if_pos ⟨hj,C71 hb⟩]
def Drawn(m:Int)(s:S)(z1:Z):Prop:=ZI z1/\∃ r:Nat,s=.d (.int r)/\(r:Int) < m
theorem e20(k:Nat)(m:Int)(hz:ZI z)(m0:0 < m)(m1:m < 2 ^ 32):W (b40 T (k + 3) a50 [.z,.d (.int m)]) z (Drawn m) NE:=by
 have fin:∀ (a:Int) (z1:Z),ZI z1->Drawn m (.d (.int (a % m))) z1:=λa z1 h=>by
  have h0:=Ö2 a (show m≠0 by omega)
  exact⟨h,(a % m).toNat,by rw[Int.toNat_of_nonneg h0],by rw[Int.toNat_of_nonneg h0];exact emod_lt_of_pos _ m0⟩
 refine i02 hz (ps:=2) (ns:=4) (b:=s20) rfl rfl (-0) ?_
 obtain⟨n,b,rfl,n0,n1⟩:=hz;cases b with
 |true =>
  refine(a00 (n81 (i:=n) m0) ?_ :);refine(a00 (L92 (i:=n) m0 ∅) ?_ :)
  exact fin n _ ⟨n / m,true,rfl,Int.ediv_nonneg n0 ∅,λh=>nomatch h⟩
 |false =>
  have n1:=n1 rfl;have e1:∀ a:Int,0<=a % 2147483647/\a % 2147483647 < 2147483647:=λa=>⟨emod_nonneg _ (-0),emod_lt_of_pos _ (-0)⟩
  have e2:∀ a:Int,0<=a % 2147483629/\a % 2147483629 < 2147483629:=λa=>⟨emod_nonneg _ (-0),emod_lt_of_pos _ (-0)⟩
  have s1:∀ a:Int,(a % 2147483647).natAbs < 2 ^ 64:=λa=>by have:=e1 a;omega
  have s2:∀ a:Int,(a % 2147483629).natAbs < 2 ^ 64:=λa=>by have:=e2 a;omega
  refine(a00 (c31 (i:=n) (j:=48271) ∅ (-0)) ?_ :)
  have a1:=e1 (n * 48271 + 29);refine(a00 (c31 (s1 (n * 48271 + 29)) (s1 (n * 48271 + 29))) ?_ :);refine(a00 (c31 (i:=39373) (-0) (s1 (n * 48271 + 29))) ?_ :)
  refine(a00 (c31 (s2 _) (s2 _)) ?_ :);refine(a00 (c31 (i:=16807) (-0) (s2 _)) ?_ :)
  refine(a00 (n81 m0) ?_ :);exact fin _ _ ⟨_,false,rfl,a1.1,λ_=>a1.2⟩
theorem n91(k:Nat)(ns:List Int)(j:Nat)(z:Z):∃ c:Int,b40 T (k + 3) r10 [.d (.lst (ns.map D.int)),.d (.int j)] z=some (.ok (.d (.int c)) z):=by
 by_cases h:j < ns.length
 ·refine⟨ns[j],W.ok (g30 (ps:=2) (ns:=2) (b:=g60) rfl rfl (-0) (it (b:=decide ((j:Int) < ((ns.map D.int).length:Int))) (by simp[h]) ?_))⟩
  refine(a00 (o:=m81 (.lst (ns.map D.int)) (.int j)) (L2.B40 (v:=.int ns[j]) (by simp[h])) ?_ :)
  exact sd rfl
 ·exact⟨0,W.ok (g30 (ps:=2) (ns:=2) (b:=g60) rfl rfl (-0) (ie (b:=decide ((j:Int) < ((ns.map D.int).length:Int))) (by simp;omega) (sd rfl)))⟩
theorem P91(k:Nat)(ns:List Int)(j:Nat)(z:Z):∃ (n:Int) (b:Bool),ZI (some (n,b))/\b40 T (k + 4) y20 [.d (.lst (ns.map D.int)),.d (.int j)] z=some (.ok (.fr [.int n,.bl b]) z):=by
 obtain⟨c,hc⟩:=n91 k ns j z;by_cases h:(10 ^ 18:Int)<=c
 ·exact⟨c - 10 ^ 18,true,⟨_,_,rfl,by omega,λh=>nomatch h⟩,W.ok (g30 (ps:=2) (ns:=3) (b:=j90) rfl rfl (-0) (Wo hc (it (b:=decide ((10 ^ 18:Int)<=c)) (decide_eq_true h) (sd rfl))))⟩
 ·refine⟨c % 2147483647,false,⟨_,_,rfl,emod_nonneg _ (-0),λ_=>emod_lt_of_pos _ (-0)⟩,W.ok (g30 (ps:=2) (ns:=3) (b:=j90) rfl rfl (-0) (Wo hc (ie (b:=decide ((10 ^ 18:Int)<=c)) (decide_eq_false h) (sd rfl))))⟩
theorem V20(h0:0<=m)(h1:m < 100000):itD .rng1 [.int m]=some ((ë m.toNat).map λ(i:Nat)=>D.int i):=by
 show(if inR m=true then _ else none)=_;rw[if_pos (L50.mpr ⟨by omega,h1⟩)]
theorem ne_nil(h:okD (.lst l)=true):C70 .ne (.lst l) (.lst [])=some (!l.isEmpty):=by
 show(eqO (.lst l) (.lst [])).map (!·)=_;unfold eqO;rw[h];cases l <;> rfl
theorem N50:∀ l:List Int,e60 (l.map D.int)=true/\f40 (l.map D.int)=0
 |[]=>⟨rfl,rfl⟩
 |x::r=>by
  obtain⟨h1,h2⟩:=N50 r;refine⟨h1,?_⟩;show Ð9 0 (f40 (r.map D.int))=0;rw[h2];rfl
theorem C81(l:List Int):okD (.lst (l.map D.int))=true:=by
 obtain⟨h1,h2⟩:=N50 l;show(e60 (l.map D.int)&&decide (f40 (l.map D.int) + 1<=40))=true;rw[h1,h2];rfl
theorem Q01(n:Nat):(ë n).map (λ(i:Nat)=>D.int i)=((ë n).map λ(i:Nat)=>(i:Int)).map D.int:=by
 rw[ó];rfl
theorem I00:∀ l:List Int,n90 (l.map D.int)=true
 |[]=>rfl|_::r=>I00 r
theorem i22{l:List Int}{j:Nat}(h:j < l.length):(l.map D.int)[j]?=some (.int l[j]):=by rw[Ü,ç h];rfl
theorem o01{j:Nat}(h:l[j]?=some x):m81 (.lst l) (.int j)=some x:=L2.B40 h
theorem x82{j:Nat}(h:l[j]?=some x):m81 (.tup l) (.int j)=some x:=L2.B40 h
def pr(p:Int × Int):D:=.tup [.int p.1,.int p.2]
def ky(p:Int × Int):List Int:=[p.1,p.2]
theorem X72(a b c d:Int):MySort.h60 [a,b] [c,d]=if a=c then(if b=d then false else decide (b < d)) else decide (a < c):=rfl
def Ch:List (Int × Int)->Prop
 |a::b::r=>HT.leB (ky a) (ky b)=true/\Ch (b::r)|_=>True
theorem i41(h:MySort.h60 (ky p) (ky q)=true):HT.leB (ky p) (ky q)=true:=by
 unfold HT.leB;unfold ky at h ⊢;rw[X72] at h ⊢;by_cases h1:p.1=q.1
 ·rw[if_pos h1] at h;rw[if_pos h1.symm];by_cases h2:p.2=q.2
  ·rw[if_pos h2] at h;cases h
  ·rw[if_neg h2] at h;rw[if_neg (Â3 h2)];simp only[decide_eq_true_eq] at h;simp;omega
 ·rw[if_neg h1] at h;rw[if_neg (Â3 h1)];simp only[decide_eq_true_eq] at h;simp;omega
def H11(k:Int × Int):List (Int × Int)->List (Int × Int)
 |[]=>[k]|y::r=>if MySort.h60 (ky y) (ky k) then y::H11 k r else k::y::r
def o21:List (Int × Int)->List (Int × Int)
 |[]=>[]|k::r=>H11 k (o21 r)
theorem V30(k:Int × Int):∀ l,(H11 k l).Perm (k::l)
 |[]=>.refl _
 |y::r=>by
  unfold H11;split
  ·exact((V30 k r).cons y).trans (.swap _ _ _)
  ·exact .refl _
theorem I10:∀ l,(o21 l).Perm l
 |[]=>.refl _|k::r=>(V30 k _).trans ((I10 r).cons k)
theorem C91(k:Int × Int):∀ l,Ch l->Ch (H11 k l)
 |[],_=>trivial
 |[y],_=>by
  unfold H11;split
  ·rename_i h;exact⟨i41 h,trivial⟩
  ·rename_i h;refine⟨?_,trivial⟩;unfold HT.leB;simpa using h
 |y::x::r,h=>by
  obtain⟨h1,h2⟩:=h;have ih:=C91 k (x::r) h2;unfold H11;split
  ·rename_i hy;unfold H11 at ih ⊢;split at ih
   ·rename_i hx;rw[if_pos hx];exact⟨h1,ih⟩
   ·rename_i hx;rw[if_neg hx];exact⟨i41 hy,ih⟩
  ·rename_i hy;refine⟨?_,h1,h2⟩;unfold HT.leB;simpa using hy
theorem i51:∀ l,Ch (o21 l)
 |[]=>trivial|k::r=>C91 k _ (i51 r)
theorem i61(k:Int × Int):∀ l:List (Int × Int),p41 (pr k) (l.map pr)=(H11 k l).map pr
 |[]=>rfl
 |y::r=>by
  unfold H11;show(if MySort.h60 (ky y) (ky k) then pr y::p41 (pr k) (r.map pr) else pr k::pr y::r.map pr)=_;split
  ·rw[i61 k r];rfl
  ·rfl
theorem V40:∀ l:List (Int × Int),u10 (l.map pr)=(o21 l).map pr
 |[]=>rfl
 |k::r=>by
  show p41 (pr k) (u10 (r.map pr))=_;rw[V40 r,i61];rfl
theorem M02(p q:Int × Int):ltD (pr p) (pr q)=some (MySort.h60 (ky p) (ky q)):=by
 show(if (p.1 == q.1)=true then(if (p.2 == q.2)=true then some false else some (decide (p.2 < q.2))) else some (decide (p.1 < q.1)))=some (if p.1=q.1 then(if p.2=q.2 then false else decide (p.2 < q.2)) else decide (p.1 < q.1));simp only[beq_iff_eq];split
 ·split <;> rfl
 ·rfl
theorem i32(p q:Int × Int):i30 (pr p) (pr q)=true:=by
 unfold i30;rw[M02];show(true&&((some (MySort.h60 (ky p) (ky q)) == some (MySort.h60 (ky p) (ky q)))&&(((p.1 == q.1)&&((p.2 == q.2)&&true)) || !([p.1,p.2] == [q.1,q.2]))))=true;rw[beq_self_eq_true,Å0,Å0,Ñ1];by_cases h1:p.1=q.1 <;> by_cases h2:p.2=q.2 <;> simp[h1,h2]
theorem D01(l:List (Int × Int)):n10 (l.map pr)=true:=by
 refine Õ.mpr λx hx=>?_;obtain⟨p,_,rfl⟩:=Ù.mp hx;show(true&&(true&&(l.map pr).all (i30 (pr p))))=true;refine Õ.mpr λy hy=>?_;obtain⟨q,_,rfl⟩:=Ù.mp hy;exact i32 p q
theorem D11(h:l.length < 64):bfD .sorted [.lst (l.map pr)]=some (.fr ((o21 l).map pr)):=by
 show(if (l.map pr).length < 64/\n10 (l.map pr)=true then some (S.fr (u10 (l.map pr))) else(O02 (l.map pr)).map S.fr)=_;rw[if_pos ⟨by rw[É];exact h,D01 l⟩,V40]
theorem i71:∀ {l:List (Int × Int)},Ch l->i21 (l.map pr)=true
 |[],_=>rfl|[_],_=>rfl
 |a::b::r,h=>by
  have ih:=i71 h.2;show((n70 (pr a::pr b::r.map pr) (pr b::r.map pr)).all leD)=true;have e:n70 (pr a::pr b::r.map pr) (pr b::r.map pr)=.tup [pr a,pr b]::n70 (pr b::r.map pr) (r.map pr):=rfl;rw[e,Ã9,Á];exact⟨h.1,ih⟩
def q50(m:Int)(ps:List (Int × Int)):D:=.tup [.int m,.tup (ps.map pr)]
structure d00(m:Int)(ps:List (Int × Int)):Prop where
 m1:1<=m
 m6:m<=6
 len:ps.length<=8
 tie:∀ p∈ps,0<=p.1/\p.1 < p.2/\p.2 < m
 ch:Ch ps
theorem d00.web(g:d00 m ps):p51 (q50 m ps)=true:=by
 unfold q50 p51 P12 c01;simp only[Á,decide_eq_true_eq,Æ9,É];refine⟨g.m1,g.m6,g.len,λt ht=>?_,i71 g.ch⟩;obtain⟨p,hp,rfl⟩:=Ù.mp ht;obtain⟨h1,h2,h3⟩:=g.tie p hp;unfold pr H01 b90;simp only[Á,decide_eq_true_eq];omega
theorem x92(h1:0<=i)(hi:i < 100)(h0:-100 < m)(h:m < 100000):itD .rng2 [.int i,.int m]=some ((ë (m - i).toNat).map λ(k:Nat)=>D.int (i + k)):=by
 show(if inR i=true/\inR m=true then _ else none)=_;rw[if_pos ⟨L50.mpr ∅,L50.mpr ∅⟩]
theorem F00{L:List D}{n:Nat}(f:D->Bool)(h:n < L.length)(ha:L.all f=true):∃ x,L[n]?=some x/\f x=true :=
 ⟨L[n],ç h,Õ.mp ha _ (È9 h)⟩
def btw(a b:Int):D->Bool
 |.int i=>decide (a<=i)&&decide (i<=b)|_=>false
theorem D21(h:btw a b x=true):∃ i,x=.int i/\a<=i/\i<=b:=by
 cases x with
 |int i =>
  unfold btw at h;rw[Á,decide_eq_true_eq,decide_eq_true_eq] at h;exact⟨i,rfl,h⟩
 |_=>cases h
theorem M12(h1:a<=i)(h2:i<=b):btw a b (.int i)=true:=by
 show(decide (a<=i)&&decide (i<=b))=true;rw[decide_eq_true h1,decide_eq_true h2];rfl
theorem y02(l:List D)(h:0<=n):cutD l none (some n)=l.take n.toNat:=by
 obtain⟨k,rfl⟩:=Ë0 h;have h1:HT.sIx l.length l.length (some (k:Int))=min k l.length:=HT.r01 _ _ k;unfold cutD;rw[h1];show(l.drop 0).take (min k l.length - 0)=_;rw[List.drop_zero,Nat.sub_zero,Á8];rcases Nat.le_total k l.length with h | h
 ·rw[Ý6 h]
 ·rw[Ü5 h,List.take_length,Ë4 h]
theorem Q11{α:Type}{l:List α}{a:α}:(l++[a]).length=l.length + 1:=by rw[Á9];rfl
theorem V61(a b:Int):(if b < a then b else a)=min a b/\(if b > a then b else a)=max a b:=by
 constructor <;> (split <;> omega)
theorem V50{P:Int × Int->Prop}:∀ {xs ys:List D},PySem.Paired (λ_ y=>∃ c,y=pr c/\P c) xs ys->∃ cs:List (Int × Int),ys=cs.map pr/\cs.length=xs.length/\∀ c∈cs,P c
 |[],_,h=>by cases h;exact⟨[],rfl,rfl,λc hc=>nomatch hc⟩
 |x::r,_,h=>by
  cases h with
  |cons h1 h2 =>
   obtain⟨c,rfl,hc⟩:=h1;obtain⟨cs,rfl,hl,ha⟩:=V50 h2;refine⟨c::cs,rfl,by rw[Û,hl];rfl,λd hd=>?_⟩
   rcases ú.mp hd with rfl | hd
   ·exact hc
   ·exact ha d hd
def A62(m:Int)(p:Int × Int):Prop:=0<=p.1/\p.1 < p.2/\p.2 < m
abbrev y12(mo m:Int)(ps:List (Int × Int))(o4 o5 o6:Option S):Env:=[some .z,some (.d (.int mo)),some (.d (.int m)),some (.fr (ps.map pr)),o4,o5,o6]
theorem y22:y12 mo m (ps++[p]) o4 o5 o6=[some .z,some (.d (.int mo)),some (.d (.int m)),some (.fr (ps.map pr++[pr p])),o4,o5,o6]:=by rw[y12,Ç5];rfl
theorem Q21{mo m:Int}{ps:List (Int × Int)}(m1:1<=m)(m6:m<=6)(h0:0<=mo)(h8:mo<=8)(hp:∀ p∈ps,A62 m p)(hl:ps.length < 64):∃ qs,bfD .sorted [.lst (cutD (ps.map pr) none (some mo))]=some (.fr (qs.map pr))/\d00 m qs/\(qs.length:Int)<=mo:=by
 have hl':(ps.take mo.toNat).length < 64:=by rw[Æ7];omega
 refine⟨o21 (ps.take mo.toNat),by rw[y02 _ h0,← List.map_take];exact D11 hl',?_⟩
 have hperm:=I10 (ps.take mo.toNat);have hlen:=hperm.length_eq;rw[Æ7] at hlen;exact⟨⟨m1,m6,by omega,λq hq=>hp q (List.mem_of_mem_take (hperm.mem_iff.mp hq)),i51 _⟩,by omega⟩
theorem V60(k:Nat){mo:Int}{z:Z}(hz:ZI z)(h0:0<=mo)(h8:mo<=8):W (b40 T (k + 5) w70 [.z,.d (.int mo)]) z (λs z1=>ZI z1/\∃ m ps,s=.d (q50 m ps)/\d00 m ps/\(ps.length:Int)<=mo) NE:=by
 refine i02 hz (ps:=2) (ns:=7) (b:=x10) rfl rfl (-0) ?_
 refine(e20 (k + 1) 8 hz (-0) (-0)).imp λs z1 ⟨hz1,n,e,hn⟩=>?_
 subst e;obtain⟨x,ex,hx⟩:=F00 (L:=[D.int 6,.int 5,.int 4,.int 3,.int 4,.int 5,.int 2,.int 1]) (n:=n) (btw 1 6) (by simp only[Û,Á0];omega) (-0)
 obtain⟨m,rfl,m1,m6⟩:=D21 hx;refine(a00 (o01 ex) ?_ :);refine(C11 (.fr []) (y12 mo m [] none none none) ?_ ?_ ?_ :)
 ·exact⟨rfl,rfl⟩
 ·rfl
 refine h72 (λρ z2=>ZI z2/\∃ ps:List (Int × Int),ρ=y12 mo m ps none none none/\(∀ p∈ps,A62 m p)/\ps.length<=5) ?_ ?_
 ·refine ib (b:=decide (1 < m)) (λh=>?_) λh=>⟨hz1,[],rfl,(λp hp=>nomatch hp),by simp⟩
  have h:=of_decide_eq_true h;refine(e20 (k + 1) 5 hz1 (-0) (-0)).imp λs z2 ⟨hz2,v,e,hv⟩=>?_
  subst e;refine ib (b:=decide (0 < (v:Int))) (λh1=>?_) λh1=>⟨hz2,[],rfl,(λp hp=>nomatch hp),by simp⟩
  refine(a00 (x92 (i:=1) (m:=m) (-0) (-0) ∅ ∅) ?_ :)
  refine ip (by rw[É,ù];simp only[most];omega) (X52 (I:=ZI) (P:=λ_ y=>∃ c,y=pr c/\A62 m c) hz2 (λx hx z3 hz3=>?_) λys z3 hz3 hys=>?_)
  ·obtain⟨i,hi,rfl⟩:=Ù.mp hx;have hi:=Ä3.mp hi;refine(e20 (k + 1) (1 + (i:Int)) hz3 ∅ ∅).imp λs z4 ⟨hz4,a,e,ha⟩=>?_
   subst e;exact⟨hz4,((a:Int),1 + (i:Int)),rfl,by show(0:Int)<=a;omega,ha,by show 1 + (i:Int) < m;omega⟩
  ·obtain⟨cs,rfl,hl,ha⟩:=V50 hys;rw[É,ù] at hl;exact⟨hz3,cs,rfl,ha,by omega⟩
 ·rintro ρ z2 ⟨hz2,ps,rfl,hp,hl⟩;refine(e20 (k + 1) (mo + 1) hz2 ∅ ∅).imp λs z3 ⟨hz3,t,e,ht⟩=>?_
  subst e;have hj:(if decide (1 < m)=true then(1:Int) else 0)=0∨((if decide (1 < m)=true then(1:Int) else 0)=1/\1 < m):=by
   by_cases h:1 < m
   ·exact .inr ⟨by rw[decide_eq_true h];rfl,h⟩
   ·exact .inl (by rw[decide_eq_false h];rfl)
  refine(a00 (c31 (i:=(t:Int)) (j:=if decide (1 < m)=true then(1:Int) else 0) ∅ (by rcases hj with h | h <;> (first | rw[h] | rw[h.1]) <;> decide)) ?_ :)
  have hc:∃ c:Nat,(t:Int) * (if decide (1 < m)=true then(1:Int) else 0)=c/\c<=8/\(0 < c->1 < m):=by
   rcases hj with h | h
   ·exact⟨0,by rw[h,Ô1];rfl,by omega,λh=>absurd h ∅⟩
   ·exact⟨t,by rw[h.1,mul_one],by omega,λ_=>h.2⟩
  obtain⟨c,ec,hc8,hcm⟩:=hc;refine(a00 (o:=itD .rng1 [.int ((t:Int) * (if decide (1 < m)=true then(1:Int) else 0))]) (a:=(ë c).map λ(i:Nat)=>D.int i) (by rw[ec,V20 ∅ ∅,Á8]) ?_ :)
  refine w60 (λxs ρ z=>ZI z/\(0 < xs.length->1 < m)/\∃ (ps:List (Int × Int)) (o4 o5 o6:Option S),ρ=y12 mo m ps o4 o5 o6/\(∀ p∈ps,A62 m p)/\ps.length + xs.length<=13) _ ⟨hz3,λh=>hcm (by rw[É,ù] at h;exact h),ps,_,_,_,rfl,hp,by rw[É,ù];omega⟩ ?_ ?_
  ·rintro x r ρ z4 ⟨hz4,hm,ps,o4,o5,o6,rfl,hp,hl⟩;have hm:=hm (by simp)
   refine(e20 (k + 1) m hz4 ∅ ∅).imp λs z5 ⟨hz5,a,e,ha⟩=>?_
   subst e;refine(e20 (k + 1) (m - 1) hz5 ∅ ∅).imp λs z6 ⟨hz6,b,e,hb⟩=>?_
   subst e;refine(a00 (n81 (i:=(a:Int) + 1 + b) (j:=m) ∅) ?_ :)
   have hq:0<=((a:Int) + 1 + b) % m/\((a:Int) + 1 + b) % m < m/\((a:Int) + 1 + b) % m≠a:=by
    refine⟨Ö2 _ ∅,emod_lt_of_pos _ ∅,?_⟩
    by_cases h:(a:Int) + 1 + b < m
    ·rw[Ñ0 ∅ h];omega
    ·rw[show(a:Int) + 1 + b=((a:Int) + 1 + b - m) + m from by omega,Int.add_emod_right,Ñ0 ∅ ∅];omega
   generalize ((a:Int) + 1 + b) % m=q at hq ⊢;refine ip ⟨rfl,by rw[É];simp only[most,Û] at hl ⊢;omega⟩ ?_
   refine⟨hz6,λ_=>hm,ps++[(min (a:Int) q,max (a:Int) q)],some (.d x),some (.d (.int a)),some (.d (.int q)),?_,λp hp'=>?_,by rw[Q11];simp only[Û] at hl;omega⟩
   ·rw[y22,← (V61 (a:Int) q).1,← (V61 (a:Int) q).2];rfl
   ·rcases Á7.mp hp' with h | h
    ·exact hp p h
    ·rw[ã.mp h];show 0<=min (a:Int) q/\min (a:Int) q < max (a:Int) q/\max (a:Int) q < m;omega
  ·rintro ρ z4 ⟨hz4,_,ps,o4,o5,o6,rfl,hp,hl⟩;obtain⟨qs,e,g,hq⟩:=Q21 m1 m6 h0 h8 hp (by simp only[Á0] at hl;omega)
   refine(a00 e ?_ :);exact⟨hz4,m,qs,rfl,g,hq⟩
theorem Q31(hj:0 < j)(hb:big j):z50 .fdiv (.int i) (.int j)=some (.d (.int (i / j))):=by
 show(if 0 < j/\j.natAbs < P30 then some (S.d (.int (i / j))) else none)=_;rw[if_pos ⟨hj,h92 ∅ hb⟩]
theorem s70(h:0 < b):0 < ((gcd t b:Nat):Int):=by
 have:=Int.gcd_pos_of_ne_zero_right (a:=t) (b:=b) ∅
 omega
theorem N60(h:0 < b)(hb:big b):big (gcd t b:Int):=Int.lt_of_le_of_lt (à8 h (Int.gcd_dvd_right t b)) hb
def j50(t b:Int):Int × Int:=(t / gcd t b,b / gcd t b)
theorem V70(k:Nat)(t b:Int)(z:Z)(h0:0 < b)(h1:big b):b40 T (k + 4) M80 [.d (.int t),.d (.int b)] z=some (.ok (.d (pr (j50 t b))) z):=by
 refine W.ok (g30 (ps:=2) (ns:=3) (b:=M90) rfl rfl (-0) (Wo (l30 k t b z h0 h1) ?_))
 refine(a00 (Q31 (i:=t) (s70 (t:=t) h0) (N60 h0 h1)) ?_ :);refine(a00 (Q31 (i:=b) (s70 (t:=t) h0) (N60 h0 h1)) ?_ :);exact sd rfl
theorem N70(h0:0 < b):t=gcd t b * (j50 t b).1/\b=gcd t b * (j50 t b).2:=by
 constructor
 ·exact(Int.mul_ediv_cancel' (Int.gcd_dvd_left t b)).symm
 ·exact(Int.mul_ediv_cancel' (Int.gcd_dvd_right t b)).symm
theorem D31(h0:0 < b):gcd (j50 t b).1 (j50 t b).2=1:=Int.gcd_ediv_gcd_ediv_gcd_of_ne_zero_right ∅
theorem N80(h0:0 < b):0 < (j50 t b).2:=by
 have g0:=s70 (t:=t) h0;obtain⟨_,e⟩:=N70 (t:=t) h0;refine Int.pos_of_mul_pos_right (a:=gcd t b) ?_ g0;omega
theorem i42(h0:0 < b)(h1:0<=t)(h2:t<=b):0<=(j50 t b).1/\(j50 t b).1<=(j50 t b).2/\(j50 t b).2<=b:=by
 have g0:=s70 (t:=t) h0;have p0:=N80 (t:=t) h0;obtain⟨e1,e2⟩:=N70 (t:=t) h0;refine⟨Int.ediv_nonneg h1 (Ô2 g0),Int.le_of_mul_le_mul_left (a:=gcd t b) ∅ g0,?_⟩
 have:1 * (j50 t b).2<=(gcd t b:Int) * (j50 t b).2:=Int.mul_le_mul_of_nonneg_right ∅ ∅
 omega
theorem V71(h:gcd a b=1)(hd:b∣a * d):b∣d:=by
 have h1:Nat.Coprime b.natAbs a.natAbs:=by rw[Nat.coprime_comm];exact h
 exact Int.natAbs_dvd_natAbs.mp (h1.dvd_of_dvd_mul_left (by rw[← natAbs_mul];exact Int.natAbs_dvd_natAbs.mpr hd))
theorem o31(hb:0 < b)(hd:0 < d)(h1:gcd a b=1)(h2:gcd c d=1)(h:a * d=c * b):a=c/\b=d:=by
 have k1:b∣d:=V71 h1 ⟨c,by rw[h,Ú7]⟩
 have k2:d∣b:=V71 h2 ⟨a,by rw[← h,Ú7]⟩
 have e:b=d:=Int.le_antisymm (à8 hd k1) (à8 hb k2);subst e;exact⟨Ð0 ∅ h,rfl⟩
def IsC(c:Int × Int):Prop:=1<=c.2/\c.2<=1000/\0<=c.1/\c.1<=c.2/\gcd c.1 c.2=1
theorem IsC.ch(h:IsC c):chD (pr c)=true:=by
 obtain⟨h1,h2,h3,h4,h5⟩:=h;show chI c.1 c.2=true;unfold chI;rw[h5,decide_eq_true h1,decide_eq_true h2,decide_eq_true h3,decide_eq_true h4];rfl
theorem i52(h0:0 < b)(hb:b<=1000)(h1:0<=t)(h2:t<=b):IsC (j50 t b):=by
 obtain⟨y0,yx,xb⟩:=i42 h0 h1 h2;have:=N80 (t:=t) h0;exact⟨by omega,by omega,y0,yx,D31 h0⟩
theorem N90(k:Nat)(t b:Int)(z:Z)(h0:0 < b)(h1:big b):b40 T (k + 3) u60 [.d (.int t),.d (.int b)] z=some (.ok (.d (pr (j50 t b))) z):=by
 refine W.ok (g30 (ps:=2) (ns:=4) (b:=m40) rfl rfl (-0) (x52 (λn ρ z1=>z1=z/\∃ c d:Int,ρ=[some (.d (.int t)),some (.d (.int b)),some (.d (.int c)),some (.d (.int d))]/\GT n c d/\gcd c d=gcd t b/\(d=0->0<=c)) (2 * 4000 + 1) ⟨rfl,_,b,rfl,⟨Ô2 h0,.inl ⟨4000,rfl,h1⟩⟩,rfl,λh=>by omega⟩ (-0) ?_))
 rintro n ρ z1 ⟨rfl,c,d,rfl,g,hg,hc⟩;refine ib (b:=!(d == 0)) (λhd=>?_) λhd=>?_
 ·rw[À3,beq_eq_false_iff_ne] at hd;have hd':0 < d:=by have:=g.1;omega
  obtain⟨m,hm,g'⟩:=g.step hd';refine(a00 (n81 (i:=c) hd') ?_ :);exact⟨m,hm,rfl,d,c % d,rfl,g',(C61 c d).trans hg,λ_=>Int.le_of_lt hd'⟩
 ·rw[Í0,beq_iff_eq] at hd;subst hd;rw[Int.gcd_zero_right] at hg;have e:c=((gcd t b:Nat):Int):=by have:=hc rfl;omega
  subst e;refine(a00 (Q31 (i:=t) (s70 (t:=t) h0) (N60 h0 h1)) ?_ :);refine(a00 (Q31 (i:=b) (s70 (t:=t) h0) (N60 h0 h1)) ?_ :);exact sd rfl
def M22:D->Bool
 |.tup [.int t,.int b]=>chI t b|_=>false
theorem i62(h:M22 x=true):∃ c,x=pr c/\IsC c:=by
 unfold M22 at h;split at h
 ·rename_i t b;unfold chI at h;simp only[Á,decide_eq_true_eq,beq_iff_eq] at h;exact⟨(t,b),rfl,h.1.1,h.1.2,h.2.1.1,h.2.1.2,by have:=h.2.2;show gcd t b=1;omega⟩
 ·cases h
theorem V80(k:Nat)(hz:ZI z):W (b40 T (k + 4) u70 [.z]) z (λs z1=>ZI z1/\∃ c,s=.d (pr c)/\IsC c) NE:=by
 refine i02 hz (ps:=1) (ns:=4) (b:=m50) rfl rfl (-0) ?_
 refine(e20 k 16 hz (-0) (-0)).imp λs z1 ⟨hz1,v,e,v1⟩=>?_
 subst e;refine ib (b:=decide ((v:Int) < 9)) (λh2=>?_) λh2=>?_
 ·have h2:=of_decide_eq_true h2;obtain⟨x,ex,hx⟩:=F00 (L:=[pr (1,2),pr (2,3),pr (1,3),pr (3,4),pr (9,10),pr (0,1),pr (1,1),pr (1,1000),pr (999,1000)]) (n:=v) M22 (by simp only[Û,Á0];omega) (by decide +kernel)
  obtain⟨c,rfl,hc⟩:=i62 hx;refine(a00 (o01 ex) ?_ :);exact⟨hz1,c,rfl,hc⟩
 ·refine(e20 k 2 hz1 (-0) (-0)).imp λs z2 ⟨hz2,a,e,a1⟩=>?_
  subst e;obtain⟨x,ex,hx⟩:=F00 (L:=[D.int 12,.int 1000]) (n:=a) (btw 1 1000) (by simp only[Û,Á0];omega) (-0)
  obtain⟨u,rfl,u1,u2⟩:=D21 hx;refine(a00 (o01 ex) ?_ :);refine(e20 k u hz2 ∅ ∅).imp λs z3 ⟨hz3,b,e,b1⟩=>?_
  subst e;refine(e20 k (1 + (b:Int) + 1) hz3 ∅ ∅).imp λs z4 ⟨hz4,t,e,t1⟩=>?_
  subst e;exact Wo (N90 k _ _ _ ∅ (V10 ∅)) ⟨hz4,j50 t (1 + (b:Int)),rfl,i52 ∅ ∅ ∅ ∅⟩
theorem D41{n:Nat}(f:D->Bool)(h:n < L.length)(ha:L.all f=true)(hp:∀ x,f x=true->P x):Get (m81 (.lst L) (.int n)) P:=by
 obtain⟨x,e,hx⟩:=F00 f h ha;exact a00 (o01 e) (hp x hx)
theorem D51(k:Nat)(hz:ZI z):W (b40 T (k + 4) r20 [.z]) z (λs z1=>ZI z1/\∃ x,s=.d x/\p51 x=false) NE:=by
 refine i02 hz (ps:=1) (ns:=2) (b:=k60) rfl rfl (-0) ?_
 refine(e20 k 25 hz (-0) (-0)).imp λs z1 ⟨hz1,v,e,v1⟩=>?_
 subst e;refine(D41 (n:=v) (λx=>!p51 x) ?_ ?_ ?_ :)
 ·show v < 25;omega
 ·decide +kernel
 ·exact λx hx=>⟨hz1,x,rfl,by simpa using hx⟩
def ltP:D->Bool
 |.tup [.int a,.int b]=>decide (a < b)|_=>false
def V90(l:List D):Bool:=(n70 l (l.drop 1)).all ltP
def H21(m:Int):D->Bool
 |.tup l=>(l.all (λx=>b90 x m)&&V90 l)&&!l.isEmpty|_=>false
def short:D->Bool
 |.tup l=>decide (l.length<=1000)|_=>true
theorem Q41(k:Nat)(h:∀ x∈l,b90 x m=true)(hl:l.length<=1000)(z:Z):b40 T (k + 3) C31 [.d (.tup l)] z=some (.ok (.d (.bl (V90 l))) z):=by
 have e1:cutD l (some 1) none=l.drop 1:=i11 l 1;refine W.ok (g30 (ps:=1) (ns:=1) (b:=b91) rfl rfl (-0) (ip (c:=(n70 l (cutD l (some 1) none)).length<=most) (Ñ (u80 _ _) (s60 hl)) (P71 (λx=>.bl (ltP x)) (λx hx=>?_) (a00 (H90 _ ltP) ?_ :))))
 ·obtain⟨u,hu,v,hv,rfl⟩:=N40 hx;rw[e1] at hv;obtain⟨i,rfl,_⟩:=i70 (h u hu);obtain⟨j,rfl,_⟩:=i70 (h v (List.mem_of_mem_drop hv));exact⟨rfl,rfl⟩
 ·exact sb (b:=(n70 l (cutD l (some 1) none)).all ltP) (by rw[e1];rfl)
theorem y60(k:Nat)(m:Int)(hs:short x=true)(z:Z):b40 T (k + 5) l20 [.d x,.d (.int m)] z=some (.ok (.d (.bl (match x with | .tup l=>l.all (λx=>b90 x m)&&V90 l | _=>false))) z):=by
 refine W.ok (g30 (ps:=2) (ns:=2) (b:=g20) rfl rfl (-0) ?_)
 cases x with
 |tup l =>
  have hl:l.length<=1000:=of_decide_eq_true hs;refine ip (s60 hl) (P71 (λx=>.bl (b90 x m)) (λx _=>Wo (s50 k x m z) ⟨rfl,rfl⟩) (a00 (H90 l λx=>b90 x m) ?_ :));refine ib (b:=l.all λx=>b90 x m) (λh=>?_) λh=>sb (show false=(l.all (λx=>b90 x m)&&V90 l) by rw[h];rfl)
  exact Wo (Q41 (k + 1) (Õ.mp h) hl z) (sb (show V90 l=(l.all (λx=>b90 x m)&&V90 l) by rw[h];rfl))
 |_=>exact sb rfl
theorem d10(k:Nat)(z:Z)(h:H21 m x=true)(hs:short x=true):b40 T (k + 6) d70 [.d (.tup [.int m,t]),.d x] z=some (.ok (.d .non) z):=by
 refine W.ok (g30 (ps:=2) (ns:=2) (b:=g40) rfl rfl (-0) (Wo (y60 k m hs z) ?_))
 cases x with
 |tup l =>
  have h:((l.all (λx=>b90 x m)&&V90 l)&&!l.isEmpty)=true:=h;rw[Á] at h;refine ie (b:=!(l.all (λx=>b90 x m)&&V90 l)) (by rw[h.1];rfl) ?_
  cases l with
  |nil=>cases h.2
  |cons y r=>exact sd rfl
 |_=>cases h
theorem o90(k:Nat)(z:Z)(h:H21 m x=false)(hs:short x=true):b40 T (k + 6) d70 [.d (.tup [.int m,t]),.d x] z=some (.er 2 z):=by
 refine W.er (g30 (ps:=2) (ns:=2) (b:=g40) rfl rfl (-0) (Wo (y60 k m hs z) ?_))
 cases x with
 |tup l =>
  have h:((l.all (λx=>b90 x m)&&V90 l)&&!l.isEmpty)=false:=h;refine ib (b:=!(l.all (λx=>b90 x m)&&V90 l)) (λ_=>⟨rfl,c30 z⟩) λh1=>?_;rw[Í0] at h1;rw[h1,Å0,Í0] at h;cases l with
  |nil=>exact⟨rfl,c30 z⟩|cons y r=>cases h
 |_=>exact⟨rfl,c30 z⟩
def a40(n:Nat):D:=.int n
structure f70(m:Int)(l:List Nat):Prop where
 ne:l≠[]
 up:l.Pairwise (· < ·)
 lt:∀ p∈l,(p:Int) < m
theorem V81:∀ {l:List Nat},l.Pairwise (· < ·)->V90 (l.map a40)=true
 |[],_=>rfl|[_],_=>rfl
 |a::b::r,h=>by
  have ih:=V81 (à1.of_cons h);show(decide ((a:Int) < (b:Int))&&V90 ((b::r).map a40))=true;rw[ih,decide_eq_true (by have:=(Ê6.mp h).1 b Ì;omega)];rfl
theorem f70.pls(g:f70 m l):H21 m (.tup (l.map a40))=true:=by
 show(((l.map a40).all (λx=>b90 x m)&&V90 (l.map a40))&&!(l.map a40).isEmpty)=true;rw[V81 g.up,Ñ1,Á];refine⟨Õ.mpr λx hx=>?_,?_⟩
 ·obtain⟨p,hp,rfl⟩:=Ù.mp hx;have:=g.lt p hp;show(decide (0<=(p:Int))&&decide ((p:Int) < m))=true;rw[decide_eq_true this,decide_eq_true ∅];rfl
 ·cases l with
  |nil=>exact absurd rfl g.ne|cons _ _=>rfl
theorem f70.len(g:f70 m l)(h6:m<=6):l.length<=6:=by
 have:l.Sublist (ë 6):=by
  have e:l=(ë 6).filter λx=>l.contains x:=by
   refine È7 (le:=(· < ·)) ?_ g.up (Ê9 _ È5) ?_
   ·intro a b _ _ h1 h2;omega
   ·refine(Þ4 (g.up.imp λh e=>by omega) (Ê9 _ List.nodup_range)).mpr λa=>?_
    rw[mem_filter,mem_range,Ì4];exact⟨λh=>⟨by have:=g.lt a h;omega,h⟩,λh=>h.2⟩
  rw[e];exact List.filter_sublist
 simpa using this.length_le
theorem Q51:∀ {ys:List D}{l:List Nat},ys.Sublist (l.map a40)->∃ l':List Nat,ys=l'.map a40/\l'.Sublist l:=λ{ys l} h=>by
 obtain⟨l',h1,h2⟩:=List.sublist_map_iff.mp h;exact⟨l',h2,h1⟩
theorem i72(n:Nat):((ë n).map λ(i:Nat)=>D.int i)=(ë n).map a40:=rfl
theorem M32(a b:Int):MySort.h60 [a] [b]=decide (a < b):=by
 show(if a=b then false else decide (a < b))=_;by_cases h:a=b
 ·rw[if_pos h,h];simp
 ·rw[if_neg h]
theorem O00(a b:Nat):i30 (a40 a) (a40 b)=true:=by
 show(true&&((some (decide ((a:Int) < b)) == some (MySort.h60 [(a:Int)] [(b:Int)]))&&(((a:Int) == b) || !([(a:Int)] == [(b:Int)]))))=true;rw[M32,beq_self_eq_true,Å0,Å0];by_cases h:(a:Int)=b <;> simp[h]
theorem o41(x y:Nat):bfD .sorted [.lst [a40 x,a40 y]]=some (.fr [a40 (min x y),a40 (max x y)]):=by
 have ok:n10 [a40 x,a40 y]=true:=by
  refine Õ.mpr λu hu=>?_;have one:∀ a:Nat,(true&&(true&&[a40 x,a40 y].all (i30 (a40 a))))=true:=λa=>by
   show(i30 (a40 a) (a40 x)&&(i30 (a40 a) (a40 y)&&true))=true;rw[O00,O00];rfl
  simp only[Â9,À1,or_false] at hu;rcases hu with rfl | rfl
  ·exact one x
  ·exact one y
 have e:u10 [a40 x,a40 y]=[a40 (min x y),a40 (max x y)]:=by
  show(if MySort.h60 [(y:Int)] [(x:Int)] then [a40 y,a40 x] else [a40 x,a40 y])=_;rw[M32];by_cases h:(y:Int) < x
  ·rw[decide_eq_true h,if_pos rfl,Ü5 ∅,Nat.max_eq_left ∅]
  ·rw[decide_eq_false h,if_neg (-0),Ý6 ∅,Nat.max_eq_right ∅]
 show(if [a40 x,a40 y].length < 64/\n10 [a40 x,a40 y]=true then some (S.fr (u10 [a40 x,a40 y])) else _)=_;rw[if_pos ⟨by show 2 < 64;decide,ok⟩,e]
theorem y70(k:Nat)(m1:1<=m)(m6:m<=6)(hz:ZI z):W (b40 T (k + 4) l90 [.z,.d (.tup [.int m,t])]) z (λs z1=>ZI z1/\∃ l,s=.d (.tup (l.map a40))/\f70 m l) NE:=by
 have g2:f70 m (ë m.toNat):=⟨by intro h;have:=congrArg List.length h;rw[ù] at this;simp at this;omega,È5,λp hp=>by have:=Ä3.mp hp;omega⟩
 refine i02 hz (ps:=2) (ns:=4) (b:=m30) rfl rfl (-0) ?_
 refine(e20 k 4 hz (-0) (-0)).imp λs z1 ⟨hz1,v,e,v1⟩=>?_
 subst e;refine h72 (λρ z2=>z2=z1/\1 < m/\ρ=[some .z,some (.d (.tup [.int m,t])),some (.d (.int v)),none]) ?_ ?_
 ·refine ib (b:=decide ((v:Int) < 2)) (λh=>?_) λh=>?_
  ·refine(a00 (V20 (m:=m) ∅ ∅) ?_ :)
   exact⟨hz1,_,rfl,g2⟩
  ·refine ib (b:=m == 1) (λh=>?_) λh=>?_
   ·refine(a00 (V20 (m:=m) ∅ ∅) ?_ :)
    exact⟨hz1,_,rfl,g2⟩
   ·have h:=ne_of_beq_false h;exact⟨rfl,by omega,rfl⟩
 ·rintro ρ z2 ⟨rfl,hm,rfl⟩;refine ib (b:=(v:Int) == 2) (λh=>?_) λh=>?_
  ·refine(e20 k m hz1 ∅ ∅).imp λs z3 ⟨hz3,a,e,ha⟩=>?_
   subst e;refine(e20 k (m - 1) hz3 ∅ ∅).imp λs z4 ⟨hz4,b,e,hb⟩=>?_
   subst e;refine(a00 (n81 (i:=(a:Int) + 1 + b) (j:=m) ∅) ?_ :)
   have hq:0<=((a:Int) + 1 + b) % m/\((a:Int) + 1 + b) % m < m/\((a:Int) + 1 + b) % m≠a:=by
    refine⟨Ö2 _ ∅,emod_lt_of_pos _ ∅,?_⟩
    by_cases h:(a:Int) + 1 + b < m
    ·rw[Ñ0 ∅ h];omega
    ·rw[show(a:Int) + 1 + b=((a:Int) + 1 + b - m) + m from by omega,Int.add_emod_right,Ñ0 ∅ ∅];omega
   generalize ((a:Int) + 1 + b) % m=q at hq ⊢;obtain⟨q,rfl⟩:=Ë0 hq.1;refine(a00 (o41 a q) ?_ :);refine⟨hz4,[min a q,max a q],rfl,by simp,?_,λp hp=>?_⟩
   ·refine .cons (λx hx=>?_) (.cons (λ_ h=>nomatch h) .nil);rw[ã.mp hx];omega
   ·simp only[Â9,À1,or_false] at hp;rcases hp with rfl | rfl <;> omega
  ·refine(a00 (V20 (m:=m) ∅ ∅) ?_ :)
   refine ip (by rw[É,ù];simp only[most];omega) (x62 (I:=ZI) (λx=>x) hz1 (λx hx z3 hz3=>?_) λys z3 hz3 hs=>?_)
   ·refine(e20 k 2 hz3 (-0) (-0)).imp λs z4 ⟨hz4,a,e,a1⟩=>?_
    subst e;exact⟨hz4,(a:Int) == 1,rfl,λ_=>⟨rfl,rfl⟩⟩
   ·rw[map_id',i72] at hs;obtain⟨l,rfl,hl⟩:=Q51 hs;cases l with
    |nil =>
     refine⟨hz3,[m.toNat - 1],?_,by simp,.cons (λ_ h=>nomatch h) .nil,λq hq=>by rw[ã.mp hq];omega⟩
     show S.d (.tup [.int (m - 1)])=S.d (.tup [.int ((m.toNat - 1:Nat):Int)]);rw[show(m - 1)=((m.toNat - 1:Nat):Int) by omega]
    |cons p r=>exact⟨hz3,p::r,rfl,by simp,à1.sublist hl È5,λq hq=>by have:=Ä3.mp (hl.mem hq);omega⟩
section
variable (ps:List (Int × Int))
abbrev tA(n:Nat):Nat:=(ps.getD n (0,0)).1.toNat
abbrev tB(n:Nat):Nat:=(ps.getD n (0,0)).2.toNat
def s80(mk:List Int)(n:Nat):List Int:=mk.map λx=>if x=mk.getD (tB ps n) 0 then mk.getD (tA ps n) 0 else x
def y80(m:Nat)(lot:List Nat):List Int:=lot.foldl (s80 ps) ((ë m).map λ(i:Nat)=>(i:Int))
def y32(mk:List Int)(pl:List Nat):Bool:=pl.all λp=>mk.getD p 0 == mk.getD (pl.getD 0 0) 0
def F10(m:Nat)(pl lot:List Nat):Bool:=y32 (y80 ps m lot) pl
variable {ps}
theorem O10(mk:List Int)(n:Nat):(s80 ps mk n).length=mk.length:=É _
theorem step_get(h:x < mk.length):(s80 ps mk n).getD x 0=if mk.getD x 0=mk.getD (tB ps n) 0 then mk.getD (tA ps n) 0 else mk.getD x 0:=by
 unfold s80;rw[Ö,Ü,ç h];simp[Ö,ç h]
theorem D61:(y80 ps m lot).length=m:=by
 unfold y80;have:∀ (l:List Nat) (mk:List Int),(l.foldl (s80 ps) mk).length=mk.length:=by
  intro l
  induction l with
  |nil=>intro mk;rfl|cons n r ih=>intro mk;rw[List.foldl_cons,ih,O10]
 rw[this];simp
theorem o51(hr:∀ n < ps.length,tA ps n < m/\tB ps n < m):∀ (lot:List Nat) (mk:List Int),mk.length=m->(∀ n∈lot,n < ps.length) ->
  (∀ x y,x < m->y < m->mk.getD x 0=mk.getD y 0->(lot.foldl (s80 ps) mk).getD x 0=(lot.foldl (s80 ps) mk).getD y 0)/\(∀ n∈lot,(lot.foldl (s80 ps) mk).getD (tA ps n) 0=(lot.foldl (s80 ps) mk).getD (tB ps n) 0) /\
  ∀ f:Nat->Int,(∀ x y,x < m->y < m->mk.getD x 0=mk.getD y 0->f x=f y)->(∀ n∈lot,f (tA ps n)=f (tB ps n))->∀ x y,x < m->y < m->(lot.foldl (s80 ps) mk).getD x 0=(lot.foldl (s80 ps) mk).getD y 0->f x=f y:=by
 intro lot
 induction lot with
 |nil=>exact λmk _ _=>⟨λ_ _ _ _ h=>h,(λ_ h=>nomatch h),λf h _=>h⟩
 |cons n r ih =>
  intro mk hl hn;obtain⟨ha,hb⟩:=hr n (hn n Ì);obtain⟨i1,i2,i3⟩:=ih (s80 ps mk n) (by rw[O10];exact hl) λk hk=>hn k (È _ hk)
  have st:∀ x,x < m->(s80 ps mk n).getD x 0=if mk.getD x 0=mk.getD (tB ps n) 0 then mk.getD (tA ps n) 0 else mk.getD x 0:=λx hx=>step_get ∅
  refine⟨λx y hx hy h=>i1 x y hx hy (by rw[st x hx,st y hy,h]),λk hk=>?_,λf h1 h2=>?_⟩
  ·rcases ú.mp hk with rfl | hk
   ·refine i1 _ _ ha hb ?_;rw[st _ ha,st _ hb,if_pos rfl];split <;> rfl
   ·exact i2 k hk
  ·refine i3 f (λx y hx hy h=>?_) λk hk=>h2 k (È _ hk);have e:=h2 n Ì;rw[st x hx,st y hy] at h;split at h
   ·rename_i hxb;have fx:=h1 _ _ hx hb hxb;split at h
    ·rename_i hyb;rw[fx,h1 _ _ hy hb hyb]
    ·rw[fx,← e];exact h1 _ _ ha hy h
   ·split at h
    ·rename_i hyb;rw[h1 _ _ hy hb hyb,← e];exact h1 _ _ hx ha h
    ·exact h1 _ _ hx hy h
theorem W00(h:x < m):(((ë m).map λ(i:Nat)=>(i:Int))).getD x 0=(x:Int):=by
 rw[Ö,Ü,É6 h];rfl
theorem Q61{m:Nat}(hr:∀ n < ps.length,tA ps n < m/\tB ps n < m){pl lot:List Nat}(hp:∀ p∈pl,p < m)(hl:∀ n∈lot,n < ps.length):F10 ps m pl lot=true↔∀ f:Nat->Int,(∀ n∈lot,f (tA ps n)=f (tB ps n))->∀ p∈pl,f p=f (pl.getD 0 0):=by
 obtain⟨_,h2,h3⟩:=o51 hr lot ((ë m).map λ(i:Nat)=>(i:Int)) (by simp) hl
 unfold F10 y32;rw[Æ9];have h0:∀ p∈pl,pl.getD 0 0 < m:=λp hp'=>by
  cases pl with
  |nil=>cases hp'
  |cons q r=>exact hp q Ì
 constructor
 ·intro h f hf p hp';refine h3 f (λx y hx hy e=>?_) hf p _ (hp p hp') (h0 p hp') (beq_iff_eq.mp (h p hp'));rw[W00 hx,W00 hy] at e;rw[Int.ofNat_inj.mp e]
 ·intro h p hp';rw[beq_iff_eq];exact h (λx=>(y80 ps m lot).getD x 0) h2 p hp'
end
section
variable (g:List Nat->Bool) (c:Nat->Int × Int)
variable {g c}
def l40:Nat->List (List Nat)
 |0=>[[]]|j + 1=>l40 j++(l40 j).map (·++[j])
def amt(c:Nat->Int × Int)(j:Nat)(lot:List Nat):Int:=(ë j).foldl (λa n=>a * (if n∈lot then(c n).1 else(c n).2 - (c n).1)) 1
theorem u90:amt c (j + 1) lot=amt c j lot * (if j∈lot then(c j).1 else(c j).2 - (c j).1):=by
 unfold amt;rw[range_succ,List.foldl_append];rfl
theorem i82(h:j<=k):amt c j (lot++[k])=amt c j lot:=by
 induction j with
 |zero=>rfl
 |succ j ih =>
  rw[u90,u90,ih ∅]
  have:j∈lot++[k]↔j∈lot:=by rw[Á7,ã];constructor <;> (intro h;first | (rcases h with h | h;exact h;omega) | exact .inl h)
  simp only[this]
theorem O20:∀ {j:Nat}{lot:List Nat},lot∈l40 j->∀ n∈lot,n < j
 |0,lot,h,n,hn=>by rw[ã.mp h] at hn;cases hn
 |j + 1,lot,h,n,hn=>by
  rcases Á7.mp h with h | h
  ·exact Å1 (O20 h n hn)
  ·obtain⟨l,hl,rfl⟩:=Ù.mp h;rcases Á7.mp hn with hn | hn
   ·exact Å1 (O20 hl n hn)
   ·rw[ã.mp hn];exact Ë9 j
def H31(l:List (List Nat))(f:List Nat->Int):Int:=(l.map f).foldr (· + ·) 0
end
theorem itE{it:It}{e:Ex}{l:List S}{ρ:Env}(h:S80 l=true):v71 it e l ρ=S90 it e l ρ:=by unfold v71;rw[h,S60];rfl
theorem x20:∀ l:List Nat,n90 (l.map a40)=true
 |[]=>rfl|_::r=>x20 r
structure Row(x:D)(lot:List Nat):Prop where
 sq:m71 x=some (lot.map a40)
 br:c32 x=true
theorem Row.t(lot:List Nat):Row (.tup (lot.map a40)) lot:=⟨rfl,x20 lot⟩
theorem Row.ba(h:Row x lot):S80 [.d x]=true:=by
 show(c32 x&&true)=true;rw[h.br];rfl
theorem D71{mk:List Int}{a:Int}(h0:0<=a)(h:a.toNat < mk.length):m81 (.lst (mk.map D.int)) (.int a)=some (.int (mk.getD a.toNat 0)):=by
 obtain⟨n,rfl⟩:=Ë0 h0;rw[Á8] at h ⊢;rw[Ö,ç h];exact o01 (i22 h)
theorem V91{ps:List (Int × Int)}{n:Nat}(h:n < ps.length):m81 (.tup (ps.map pr)) (.int n)=some (pr (ps.getD n (0,0))):=by
 rw[Ö,ç h];exact x82 (by rw[Ü,ç h];rfl)
theorem getD_mem{ps:List (Int × Int)}{n:Nat}(h:n < ps.length):ps.getD n (0,0)∈ps:=by
 rw[Ö,ç h];exact È9 h
theorem d00.rng{m:Int}{ps:List (Int × Int)}(g:d00 m ps):∀ n < ps.length,tA ps n < m.toNat/\tB ps n < m.toNat:=λn hn=>by
 have:=g.tie _ (getD_mem hn);unfold tA tB;omega
def P22(a b:Int):D->D
 |.int v=>.int (if v=b then a else v)|x=>x
theorem i92{F:FT}{z:Z}{mk:List Int}(a b:Int){Q:List D->Z->Prop}{E:Nat->Z->Prop}(q:Q ((mk.map λx=>if x=b then a else x).map D.int) z):W (turns (n80 (ev F .nil) (ev F (.ite (.cmp .eq (.var 0) (.var 2)) (.var 1) (.var 0))) (.v 0) [none,some (.d (.int a)),some (.d (.int b))]) (mk.map D.int)) z Q E:=by
 refine P71 (P22 a b) (λx hx=>?_) ?_
 ·obtain⟨v,_,rfl⟩:=Ù.mp hx;refine ib (b:=v == b) (λh=>⟨?_,rfl⟩) λh=>⟨?_,rfl⟩
  ·show D.int a=.int (if v=b then a else v);rw[if_pos (beq_iff_eq.mp h)]
  ·show D.int v=.int (if v=b then a else v);rw[if_neg (by simpa using h)]
 ·have e:(mk.map D.int).map (P22 a b)=(mk.map λx=>if x=b then a else x).map D.int:=by rw[ó,ó];rfl
  rw[e];exact q
theorem c41(k:Nat){m:Int}{ps:List (Int × Int)}(g:d00 m ps){x:D}{lot:List Nat}(hx:Row x lot)(hl:∀ n∈lot,n < ps.length)(z:Z):b40 T (k + 3) H60 [.d (q50 m ps),.d x] z=some (.ok (.fr ((y80 ps m.toNat lot).map D.int)) z):=by
 have m6:=g.m6;have m1:=g.m1;refine W.ok (g30 (ps:=2) (ns:=10) (b:=x00) rfl rfl (-0) ?_)
 refine(a00 (o:=lrD [.int m]) (V20 ∅ ∅) ?_ :)
 refine a00 (o:=m71 x) hx.sq ?_;refine w60 (λxs ρ z1=>z1=z/\∃ (rest:List Nat) (mk:List Int) (o5 o6 o7 o8 o9:Option S),xs=rest.map a40/\(∀ n∈rest,n < ps.length)/\mk.length=m.toNat/\rest.foldl (s80 ps) mk=y80 ps m.toNat lot/\ρ=[some (.d (q50 m ps)),some (.d x),some (.d (.int m)),some (.d (.tup (ps.map pr))),some (.fr (mk.map D.int)),o5,o6,o7,o8,o9]) _ ⟨rfl,lot,(ë m.toNat).map λ(i:Nat)=>(i:Int),none,none,none,none,none,rfl,hl,by simp,rfl,(itE hx.ba).trans ?_⟩ ?_ ?_
 ·rw[← Q01];rfl
 ·rintro y r ρ z1 ⟨rfl,rest,mk,o5,o6,o7,o8,o9,e,hr,hm,hf,rfl⟩;cases rest with
  |nil=>cases e
  |cons n rest =>
   cases e;have hn:=hr n Ì;have ht:=g.tie _ (getD_mem hn);refine(a00 (V91 hn) ?_ :);refine(a00 (D71 (mk:=mk) ht.1 ∅) ?_ :)
   refine(a00 (D71 (mk:=mk) (a:=(ps.getD n (0,0)).2) ∅ ∅) ?_ :)
   refine ip (by rw[É];simp only[most];omega) (i92 _ _ ?_)
   exact⟨rfl,rest,s80 ps mk n,_,_,_,_,_,rfl,λk hk=>hr k (È _ hk),by rw[O10];exact hm,hf,rfl⟩
 ·rintro ρ z1 ⟨rfl,rest,mk,o5,o6,o7,o8,o9,e,hr,hm,hf,rfl⟩;cases rest with
  |nil=>exact sd (by rw[← hf];rfl)|cons _ _=>cases e
section
variable {m:Int}{ps:List (Int × Int)}{pl lot:List Nat}
theorem y42{mk:List Int}{p:Nat}(h:p < mk.length):m81 (.lst (mk.map D.int)) (.int p)=some (.int (mk.getD p 0)):=D71 (a:=(p:Int)) ∅ (by rw[Á8];exact h)
theorem W01(h:pl≠[]):m81 (.tup (pl.map a40)) (.int 0)=some (a40 (pl.getD 0 0)):=by
 cases pl with
 |nil=>exact absurd rfl h|cons p r=>exact x82 (j:=0) rfl
theorem f70.p0(hp:f70 m pl):pl.getD 0 0 < m.toNat:=by
 have h:=hp.ne;have h2:=hp.lt;cases pl with
 |nil=>exact absurd rfl h|cons p r=>have:=h2 p Ì;show p < _;omega
def eqM(mk:List Int)(p0:Nat):D->Bool
 |.int p=>mk.getD p.toNat 0 == mk.getD p0 0|_=>false
theorem j02(l:List Nat):(l.map a40).all (eqM mk p0)=l.all λp=>mk.getD p 0 == mk.getD p0 0:=by rw[all_map];rfl
theorem O30(k:Nat)(g:d00 m ps)(hp:f70 m pl){x:D}(hx:Row x lot)(hl:∀ n∈lot,n < ps.length)(z:Z):b40 T (k + 4) y00 [.d (q50 m ps),.d x,.d (.tup (pl.map a40))] z=some (.ok (.d (.bl (F10 ps m.toNat pl lot))) z):=by
 have hlen:=hp.len g.m6;refine W.ok (g30 (ps:=3) (ns:=4) (b:=o60) rfl rfl (-0) (Wo (c41 k g hx hl z) ?_))
 have ml:(y80 ps m.toNat lot).length=m.toNat:=D61;generalize hmk:y80 ps m.toNat lot=mk at ml;refine ip (by rw[É];simp only[most];omega) (P71 (λx=>.bl (eqM mk (pl.getD 0 0) x)) (λy hy=>?_) (a00 (H90 _ (eqM mk (pl.getD 0 0))) ?_ :))
 ·obtain⟨p,hp',rfl⟩:=Ù.mp hy;have:=hp.lt p hp';refine(a00 (y42 (mk:=mk) (p:=p) ∅) ?_ :)
  refine(a00 (W01 hp.ne) ?_ :);refine(a00 (y42 (mk:=mk) (by rw[ml];exact hp.p0)) ?_ :)
  exact⟨rfl,rfl⟩
 ·refine sb (b:=(pl.map a40).all (eqM mk (pl.getD 0 0))) ?_;rw[j02,← hmk];rfl
theorem j12(h:okD (.lst l)=true):C70 .eq (.lst l) (.lst [])=some l.isEmpty:=by
 show(if okD (.lst l)&&okD (.lst []) then some (eqD (.lst l) (.lst [])) else eqE (.lst l) (.lst []))=_;rw[h];cases l <;> rfl
theorem O40(l:List Nat):okD (.lst (l.map a40))=true:=by
 have e:l.map a40=(l.map λ(n:Nat)=>(n:Int)).map D.int:=by rw[ó];rfl
 rw[e];exact C81 _
end
def r70(l:List Nat):D:=.tup (l.map a40)
theorem A60:∀ {j:Nat}{lot:List Nat},lot∈l40 j->lot.length<=j
 |0,lot,h=>by rw[ã.mp h];exact Í _
 |j + 1,lot,h=>by
  rcases Á7.mp h with h | h
  ·exact Nat.le_succ_of_le (A60 h)
  ·obtain⟨l,hl,rfl⟩:=Ù.mp h;rw[Q11];exact Ü4 (A60 hl)
theorem A70:∀ j:Nat,(l40 j).length=2 ^ j
 |0=>rfl
 |j + 1=>by
  show(l40 j++(l40 j).map (·++[j])).length=_;rw[Á9,É,A70 j,Ú4];omega
theorem D81(h:j<=8):2 ^ j<=256:=û (n:=2) (-0) h
theorem add_l(h:a.length + b.length<=1000):z50 .add (.lst a) (.lst b)=some (.fr (a++b)):=by
 show(if a.length + b.length<=most then some (S.fr (a++b)) else none)=_;rw[if_pos (s60 h)]
theorem o61(h:a.length + b.length<=1000):z50 .add (.tup a) (.tup b)=some (.d (.tup (a++b))):=by
 show(if a.length + b.length<=most then some (S.d (.tup (a++b))) else none)=_;rw[if_pos (s60 h)]
def P32(j:Nat):D->D
 |.tup l=>.tup (l++[a40 j])|x=>x
theorem Q71:((l40 j).map r70).map (P32 j)=((l40 j).map (·++[j])).map r70:=by
 rw[ó,ó];refine Å8 λl _=>?_;show D.tup (l.map a40++[a40 j])=.tup ((l++[j]).map a40);rw[Ç5];rfl
theorem c51{n:Nat}(h:n < 100000):itD .rng1 [.int n]=some ((Â8 0 n).map a40):=by
 rw[V20 ∅ ∅,Á8,Õ2];rfl
theorem IsC.w(h:IsC c)(b:Prop)[Decidable b]:0<=(if b then c.1 else c.2 - c.1)/\(if b then c.1 else c.2 - c.1)<=1000:=by
 obtain⟨c1,c2,c3,c4,_⟩:=h;split <;> omega
theorem i81(n:Nat):∀ l:List Nat,memD (a40 n) (l.map a40)=decide (n∈l)
 |[]=>rfl
 |x::r=>by
  show((x:Int) == (n:Int) || memD (a40 n) (r.map a40))=_;rw[i81 n r,Í4,Å6,beq_iff_eq,decide_eq_true_eq,decide_eq_true_eq,Â9];constructor
  ·rintro (h | h)
   ·exact .inl ∅
   ·exact .inr h
  ·rintro (h | h)
   ·exact .inl ∅
   ·exact .inr h
theorem v00(l:List Nat):G10 (l.map a40)=true:=by
 have e:l.map a40=(l.map λ(n:Nat)=>(n:Int)).map D.int:=by rw[ó];rfl
 obtain⟨h1,h2⟩:=N50 (l.map λ(n:Nat)=>(n:Int));unfold G10;rw[e,h1,h2];rfl
theorem O50{n:Nat}{l:List Nat}:M61 (a40 n) (l.map a40)=some (decide (n∈l)):=by
 unfold M61;rw[v00,i81];rfl
theorem D91(h0:0 < b):(j50 t b).1 * b=(j50 t b).2 * t:=by
 obtain⟨e1,e2⟩:=N70 (t:=t) h0;generalize (j50 t b).1=x at *
 generalize (j50 t b).2=y at *
 generalize ((gcd t b:Nat):Int)=k at *
 rw[e1,e2]
 grind
def x30(k:Nat):List (List Nat):=(TS.sN k).map (TS.B80 k 0)
theorem W10(h:k<=8):l40 k=(ë (2 ^ k)).map (TS.B80 k 0):=by
 have:∀ k,k < 9->l40 k=(ë (2 ^ k)).map (TS.B80 k 0):=by decide +kernel
 exact this k ∅
theorem F20(h:k<=8):(x30 k).Perm (l40 k):=by
 have:∀ k,k < 9->(TS.sN k).isPerm (ë (2 ^ k))=true:=by decide +kernel
 rw[W10 h];exact(List.isPerm_iff.mp (this k ∅)).map _
theorem y52(h:k<=8):(l40 k).map r70=h70 k:=by
 rw[W10 h];unfold h70;rw[ó];rfl
theorem c61(h:k<=8):bfD .sorted [.lst ((l40 k).map r70)]=some (.fr ((x30 k).map r70)):=by
 have h1:∀ k,k < 9->n10 (h70 k)=false:=by decide +kernel
 have h2:∀ k,k < 9->((ë 9).find? λj=>X60 (h70 k) (h70 j))=some k:=by decide +kernel
 rw[y52 h];show(if (h70 k).length < 64/\n10 (h70 k)=true then some (S.fr (u10 (h70 k))) else((((ë 9).find? λj=>X60 (h70 k) (h70 j)).map M71).map S.fr))=_;rw[if_neg (λq=>by rw[h1 k ∅] at q;cases q.2),h2 k ∅]
 show some (S.fr (M71 k))=some (S.fr ((x30 k).map r70));rw[x30,ó];rfl
theorem i91{i:Nat}(hi:T[i]?=some (.code 1 3 q10))(k:Nat){m:Int}{ts:List D}(h8:ts.length<=8)(z:Z):b40 T (k + 3) i [.d (.tup [.int m,.tup ts])] z=some (.ok (.fr ((x30 ts.length).map r70)) z):=by
 refine W.ok (g30 (ps:=1) (ns:=3) (b:=q10) hi rfl (-0) ?_)
 refine(a00 (c51 (n:=ts.length) ∅) ?_ :)
 refine w60 (λxs ρ z1=>z1=z/\∃ (j r:Nat) (o2:Option S),j + r=ts.length/\xs=(Â8 j r).map a40/\ρ=[some (.d (.tup [.int m,.tup ts])),some (.fr ((l40 j).map r70)),o2]) _ ⟨rfl,0,ts.length,none,Î9 _,rfl,rfl⟩ ?_ ?_
 ·rintro x r ρ z1 ⟨rfl,j,r',o2,hj,e,rfl⟩;cases r' with
  |zero=>cases e
  |succ r' =>
   rw[Â0] at e;cases e;have hp:=D81 (j:=j) ∅
   refine ip (by rw[É,A70];simp only[most];omega) (P71 (P32 j) (λy hy=>?_) ?_)
   ·obtain⟨l,hl,rfl⟩:=Ù.mp hy;have:=A60 hl;refine(a00 (o61 (a:=l.map a40) (b:=[a40 j]) (by rw[É];show _ + 1<=_;omega)) ?_ :)
    exact⟨rfl,rfl⟩
   ·rw[Q71];refine(a00 (add_l (a:=(l40 j).map r70) (b:=((l40 j).map (·++[j])).map r70) (by rw[É,É,É,A70];omega)) ?_ :)
    refine⟨rfl,j + 1,r',some (.d (a40 j)),by omega,rfl,?_⟩
    exact congrArg (λl=>[some (S.d (.tup [.int m,.tup ts])),some (.fr l),some (.d (a40 j))]) Ç5.symm
 ·rintro ρ z1 ⟨rfl,j,r',o2,hj,e,rfl⟩;cases r' with
  |zero =>
   have hj:j=ts.length:=hj;subst hj;refine(a00 (c61 h8) ?_ :);exact sd rfl
  |succ r'=>rw[Â0] at e;cases e
theorem c71(k:Nat){m:Int}{ts:List D}(h8:ts.length<=8)(z:Z):b40 T (k + 3) H70 [.d (.tup [.int m,.tup ts])] z=some (.ok (.fr ((x30 ts.length).map r70)) z):=i91 rfl k h8 z
def Q81:D->List Nat
 |.tup l=>l.map λx=>match x with | .int i=>i.toNat | _=>0
 |_=>[]
theorem j01(l:List Nat):Q81 (r70 l)=l:=by
 show(l.map a40).map _=l;rw[ó];exact map_id l
theorem E01(h:k<=8)(hl:lot∈x30 k):∀ n∈lot,n < k:=O20 ((F20 h).mem_iff.mp hl)
theorem j11(h:k<=8):(x30 k).length<=256:=by rw[(F20 h).length_eq,A70];exact D81 h
section
variable {m:Int}{ps cs:List (Int × Int)}{pl:List Nat}
abbrev k00(m:Int)(ps:List (Int × Int))(pl:List Nat):List (List Nat):=(x30 ps.length).filter (F10 ps m.toNat pl)
theorem W20(k:Nat)(g:d00 m ps)(hp:f70 m pl)(z:Z):b40 T (k + 9) E20 [.d (q50 m ps),.d (.tup (pl.map a40))] z=some (.ok (.fr ((k00 m ps pl).map r70)) z):=by
 have h8:=g.len;have h6:=hp.len g.m6;refine W.ok (g30 (ps:=2) (ns:=2) (b:=s10) rfl rfl (-0) (Wo (c40 k z g.web) (Wo (d10 (k + 2) (t:=.tup (ps.map pr)) z hp.pls (decide_eq_true (by rw[É];omega))) (Wo (c71 (k + 5) (m:=m) (ts:=ps.map pr) (by rw[É];exact h8) z) ?_))))
 rw[É];refine ip (by rw[É];exact s60 (Ñ (j11 h8) (-0))) (h82 (λx=>F10 ps m.toNat pl (Q81 x)) id (λx hx=>?_) ?_)
 ·obtain⟨l,hl,rfl⟩:=Ù.mp hx;refine Wo (O30 (k + 4) g hp (Row.t l) (E01 h8 hl) z) ⟨?_,rfl,λ_=>⟨rfl,rfl⟩⟩;rw[j01]
 ·refine sd ?_;rw[map_id,List.filter_map];have:(x30 ps.length).filter ((λx=>F10 ps m.toNat pl (Q81 x)) ∘ r70)=k00 m ps pl:=List.filter_congr λl _=>by show F10 ps m.toNat pl (Q81 (r70 l))=_;rw[j01]
  rw[this]
end
def tl:Sm->Sm
 |.seq _ r=>r|s=>s
structure Bs(n:Nat)(c:Int × Int):Prop where
 t:c.1.natAbs<=2 ^ n
 b0:0 < c.2
 b:c.2.natAbs<=2 ^ n
theorem O60(h:n<=3999)(hi:i<=2 ^ n):i < P30:=Ê7 hi (Nat.pow_lt_pow_right (-0) ∅)
theorem F30(h:n<=3999)(hi:i.natAbs<=2 ^ n)(hj:j.natAbs<=2 ^ n):z50 .mul (.int i) (.int j)=some (.d (.int (i * j))):=by
 show(if i.natAbs < P30/\j.natAbs < P30 then some (S.d (.int (i * j))) else none)=_;rw[if_pos ⟨O60 h hi,O60 h hj⟩]
theorem s90{n m:Nat}{i j:Int}(hi:i.natAbs<=2 ^ n)(hj:j.natAbs<=2 ^ m):(i * j).natAbs<=2 ^ (n + m):=by
 rw[natAbs_mul,Nat.pow_add];exact Nat.mul_le_mul hi hj
theorem E11(h:n<=3999)(hi:i.natAbs<=2 ^ n):big i:=by
 have:=O60 h hi;show i < 2 ^ 4000;have e:((P30:Nat):Int)=2 ^ 4000:=by unfold P30;exact Int.natCast_pow 2 4000
 rw[← e];omega
theorem IsC.s(h:IsC c):Bs 10 c:=by
 obtain⟨h1,h2,h3,h4,_⟩:=h;exact⟨by show _<=1024;omega,by omega,by show _<=1024;omega⟩
theorem y62(k:Nat)(hc:Bs n c)(hd:Bs n d)(hn:n + n<=3999)(z:Z):b40 T (k + 5) V51 [.d (pr c),.d (pr d)] z=some (.ok (.d (pr (j50 (c.1 * d.2 + d.1 * c.2) (c.2 * d.2)))) z):=by
 have h1:n<=3999:=by omega
 refine W.ok (g30 (ps:=2) (ns:=2) (b:=C41) rfl rfl (-0) ?_)
 refine(a00 (F30 h1 hc.t hd.b) ?_ :);refine(a00 (F30 h1 hd.t hc.b) ?_ :);refine(a00 (F30 h1 hc.b hd.b) ?_ :);exact Wo (V70 k _ _ z (Ï2 hc.b0 hd.b0) (E11 hn (s90 hc.b hd.b))) (sd rfl)
theorem E21(h0:0 < b):(j50 t b).1.natAbs<=t.natAbs/\(j50 t b).2.natAbs<=b.natAbs:=by
 obtain⟨e1,e2⟩:=N70 (t:=t) h0;have g0:=s70 (t:=t) h0;generalize j50 t b=v at *
 generalize hg:gcd t b=g at *
 have g1:1<=g:=by omega
 constructor
 ·rw[e1,natAbs_mul,Int.natAbs_natCast];exact á1 _ g1
 ·rw[e2,natAbs_mul,Int.natAbs_natCast];exact á1 _ g1
theorem I20(k:Nat)(hc:Bs n c)(hd:Bs n d)(hn:n<=3999)(z:Z):b40 T (k + 3) E00 [.d (pr c),.d (pr d)] z=some (.ok (.d (.bl (decide (c.1 * d.2 < d.1 * c.2)))) z):=by
 refine W.ok (g30 (ps:=2) (ns:=2) (b:=E70) rfl rfl (-0) ?_)
 refine(a00 (F30 hn hc.t hd.b) ?_ :);refine(a00 (F30 hn hd.t hc.b) ?_ :);exact sd rfl
theorem F40(k:Nat)(z:Z)(h:chD x=true):b40 T (k + 5) k50 [.d x] z=some (.ok (.d .non) z) :=
 W.ok (g30 (ps:=1) (ns:=1) (b:=g50) rfl rfl (-0) (Wo (y50 k x z) (ie (b:=!chD x) (by rw[h];rfl) (sd rfl))))
theorem F50(k:Nat)(z:Z)(h:chD x=false):b40 T (k + 5) k50 [.d x] z=some (.er 5 z) :=
 W.er (g30 (ps:=1) (ns:=1) (b:=g50) rfl rfl (-0) (Wo (y50 k x z) (it (b:=!chD x) (by rw[h];rfl) ⟨rfl,c30 z⟩)))
structure Rt(v:Int × Int)(t b:Int):Prop where
 b0:0 < v.2
 one:gcd v.1 v.2=1
 eq:v.1 * b=t * v.2
theorem Rt.low{t b:Int}(hb:0 < b):Rt (j50 t b) t b:=⟨N80 hb,D31 hb,by rw[D91 hb,Ú7]⟩
theorem Rt.conv{v:Int × Int}{t b t' b':Int}(h:Rt v t b)(hb:0 < b)(e:t * b'=t' * b):Rt v t' b':=by
 refine⟨h.b0,h.one,Ð0 (a:=b) ∅ ?_⟩
 have:=h.eq
 calc v.1 * b' * b=(v.1 * b) * b':=by grind
  _=(t * b') * v.2:=by rw[this];grind
  _=t' * v.2 * b:=by rw[e];grind
theorem Rt.eqv{v w:Int × Int}{t b:Int}(hv:Rt v t b)(hw:Rt w t b)(hb:0 < b):v=w:=by
 have e:v.1 * w.2=w.1 * v.2:=by
  have h1:=hv.eq;have h2:=hw.eq;refine Ð0 (a:=b) ∅ ?_
  calc v.1 * w.2 * b=(v.1 * b) * w.2:=by grind
   _=(t * w.2) * v.2:=by rw[h1];grind
   _=w.1 * v.2 * b:=by rw[← h2];grind
 obtain⟨a,b'⟩:=o31 hv.b0 hw.b0 hv.one hw.one e;exact Prod.ext a b'
theorem Rt.add{v w:Int × Int}{t b t' b':Int}(hv:Rt v t b)(hw:Rt w t' b'):Rt (j50 (v.1 * w.2 + w.1 * v.2) (v.2 * w.2)) (t * b' + t' * b) (b * b'):=by
 have y:=Ï2 hv.b0 hw.b0;refine(Rt.low y).conv y ?_;have h1:=hv.eq;have h2:=hw.eq
 calc (v.1 * w.2 + w.1 * v.2) * (b * b')=(v.1 * b) * (w.2 * b') + (w.1 * b') * (v.2 * b):=by grind
  _=(t * b' + t' * b) * (v.2 * w.2):=by rw[h1,h2];grind
theorem Rt.mul{v w:Int × Int}{t b t' b':Int}(hv:Rt v t b)(hw:Rt w t' b'):Rt (j50 (v.1 * w.1) (v.2 * w.2)) (t * t') (b * b'):=by
 have y:=Ï2 hv.b0 hw.b0;refine(Rt.low y).conv y ?_;have h1:=hv.eq;have h2:=hw.eq
 calc v.1 * w.1 * (b * b')=(v.1 * b) * (w.1 * b'):=by grind
  _=t * t' * (v.2 * w.2):=by rw[h1,h2];grind
theorem IsC.rt{c:Int × Int}(h:IsC c):Rt c c.1 c.2:=⟨by have:=h.1;omega,h.2.2.2.2,rfl⟩
theorem X82:IsC (0,1):=⟨by decide,by decide,by decide,by decide,by decide⟩
theorem Bs.up{n m:Nat}{c:Int × Int}(h:Bs n c)(hm:n<=m):Bs m c :=
 have e:=û (n:=2) (-0) hm
 ⟨Ñ h.t e,h.b0,Ñ h.b e⟩
theorem Bs.low{n:Nat}{t b:Int}(h0:0 < b)(ht:t.natAbs<=2 ^ n)(hb:b.natAbs<=2 ^ n):Bs n (j50 t b) :=
 ⟨Ñ (E21 h0).1 ht,N80 h0,Ñ (E21 h0).2 hb⟩
theorem Bs.mul{n:Nat}{c d:Int × Int}(hc:Bs n c)(hd:Bs n d):Bs (n + n) (j50 (c.1 * d.1) (c.2 * d.2)):=.low (Ï2 hc.b0 hd.b0) (s90 hc.t hd.t) (s90 hc.b hd.b)
def t00(f:Nat->Int):Nat->Int
 |0=>0|n + 1=>t00 f n + f n
theorem l50:∀ {n:Nat},(∀ i < n,f i=g i)->t00 f n=t00 g n
 |0,_=>rfl
 |n + 1,h=>by
  show t00 f n + f n=t00 g n + g n;rw[l50 λi hi=>h i ∅,h n ∅]
theorem O70:∀ n:Nat,t00 (λi=>f i + g i) n=t00 f n + t00 g n
 |0=>rfl
 |n + 1=>by
  show t00 (λi=>f i + g i) n + (f n + g n)=(t00 f n + f n) + (t00 g n + g n);rw[O70 n];omega
theorem j21(k:Int):∀ n:Nat,t00 (λi=>k * f i) n=k * t00 f n
 |0=>(Ô1 k).symm
 |n + 1=>by
  show t00 (λi=>k * f i) n + k * f n=k * (t00 f n + f n);rw[j21 k n,mul_add]
theorem O80:∀ {n:Nat},i < n->t00 (λj=>if j=i then v else 0) n=v
 |n + 1,h=>by
  show t00 (λj=>if j=i then v else 0) n + (if n=i then v else 0)=v;by_cases e:n=i
  ·subst e;rw[if_pos rfl];have:t00 (λj=>if j=n then v else 0) n=0:=by
    have z:t00 (λj=>if j=n then v else 0) n=t00 (λ_=>0) n:=l50 λj hj=>if_neg ∅
    have z2:∀ k,t00 (λ_=>0) k=0:=λk=>by
     induction k with
     |zero=>rfl|succ k ih=>show t00 (λ_=>0) k + 0=0;rw[ih];rfl
    rw[z,z2]
   rw[this];omega
  ·rw[if_neg e,O80 (n:=n) ∅];omega
def cnt(ls:List (List Nat))(j:Nat):Int:=((ls.filter λl=>l.length == j).length:Nat)
theorem cnt_cons(l:List Nat)(r:List (List Nat))(j:Nat):cnt (l::r) j=cnt r j + if j=l.length then 1 else 0:=by
 unfold cnt;rw[Ñ8];by_cases h:j=l.length
 ·rw[if_pos h,h,beq_self_eq_true,if_pos rfl,Û];omega
 ·rw[if_neg h,beq_eq_false_iff_ne.mpr (Â3 h),if_neg (-0)];omega
theorem W11(ls:List (List Nat))(j:Nat):0<=cnt ls j/\cnt ls j<=ls.length:=by
 unfold cnt;have:=Å3 (λl=>l.length == j) ls;omega
theorem E31(h:Nat->Int):∀ {ls:List (List Nat)},(∀ l∈ls,l.length < n)->t00 (λj=>cnt ls j * h j) n=H31 ls λl=>h l.length
 |[],_=>by
  have:∀ k,t00 (λj=>cnt [] j * h j) k=0:=λk=>by
   induction k with
   |zero=>rfl|succ k ih=>show t00 (λj=>cnt [] j * h j) k + 0 * h k=0;rw[ih,Ó0];rfl
  rw[this];rfl
 |l::r,hl=>by
  have ih:=E31 h (n:=n) λx hx=>hl x (È _ hx);have e:t00 (λj=>cnt (l::r) j * h j) n=t00 (λj=>cnt r j * h j + (if j=l.length then h l.length else 0)) n:=l50 λj _=>by
   rw[cnt_cons,Int.add_mul];by_cases e:j=l.length
   ·rw[if_pos e,if_pos e,one_mul,e]
   ·rw[if_neg e,if_neg e,Ó0]
  rw[e,O70,ih,O80 (hl l Ì)];show _=h l.length + H31 r _;omega
def lag(f:Nat->Int)(j:Nat):Int:=f j - if j=0 then 0 else f (j - 1)
def q60(c:Nat->Int):Nat->Nat->Int
 |0,_=>0|k + 1,j=>lag (q60 c k) j + if j=k then c k else 0
theorem F60(c:Nat->Int):∀ (k j:Nat),k<=j->q60 c k j=0
 |0,_,_=>rfl
 |k + 1,j,h=>by
  show lag (q60 c k) j + (if j=k then c k else 0)=0;unfold lag;rw[F60 c k j ∅,if_neg ∅,if_neg ∅,F60 c k (j - 1) ∅];rfl
theorem c81(hc:∀ i,0<=c i/\c i<=256):∀ k j,(q60 c k j).natAbs<=256 * (2 ^ k - 1)
 |0,_=>by show(0:Int).natAbs<=_;decide
 |k + 1,j=>by
  show(lag (q60 c k) j + (if j=k then c k else 0)).natAbs<=_;have h1:=c81 hc k j;have h2:(if j=0 then(0:Int) else q60 c k (j - 1)).natAbs<=256 * (2 ^ k - 1):=by
   split
   ·exact Æ1 _
   ·exact c81 hc k (j - 1)
  have h3:(if j=k then c k else 0).natAbs<=256:=by
   have:=hc k;split <;> omega
  have h4:(lag (q60 c k) j).natAbs<=256 * (2 ^ k - 1) + 256 * (2 ^ k - 1):=Ñ (Int.natAbs_sub_le _ _) (ß5 h1 h2);refine Ñ (Ñ (Int.natAbs_add_le _ _) (ß5 h4 h3)) ?_;have hp:0 < 2 ^ k:=Nat.pow_pos (-0)
  rw[Ú4];generalize 2 ^ k=P at hp;clear h1 h2 h3 h4;omega
section
variable (t b:Int)
def evN(K:Nat)(f:Nat->Int)(n:Nat):Int:=t00 (λj=>f j * (t ^ j * b ^ (K - j))) n
theorem W21:∀ n,n<=K + 1->b * evN t b K (lag f) n=(b - t) * evN t b K f n + (if n=0 then 0 else f (n - 1) * (t ^ n * b ^ (K + 1 - n)))
 |0,_=>by unfold evN t00;simp
 |n + 1,h=>by
  have ih:=W21 (K:=K) (f:=f) n ∅
  rw[if_neg (by omega:¬ n + 1=0),Ï8,show K + 1 - (n + 1)=K - n by omega]
  show b * (evN t b K (lag f) n + lag f n * (t ^ n * b ^ (K - n)))=(b - t) * (evN t b K f n + f n * (t ^ n * b ^ (K - n))) + f n * (t ^ (n + 1) * b ^ (K - n));rw[mul_add,ih];unfold lag;have e1:t ^ (n + 1)=t ^ n * t:=Ã5 t n;have e2:b ^ (K + 1 - n)=b ^ (K - n) * b:=by rw[show K + 1 - n=(K - n) + 1 by omega,Ã5]
  rw[e1,e2];generalize b ^ (K - n)=B;generalize evN t b K f n=X;cases n with
  |zero=>rw[if_pos rfl,if_pos rfl];grind|succ n=>rw[if_neg ∅,if_neg ∅,Ï8];grind
def hom(c:Nat->Int)(k:Nat):Int:=t00 (λi=>c i * (t ^ i * (b - t) ^ (k - 1 - i))) k
theorem Q91(c:Nat->Int)(k:Nat):hom t b c (k + 1)=(b - t) * hom t b c k + c k * t ^ k:=by
 show t00 (λi=>c i * (t ^ i * (b - t) ^ (k - i))) k + c k * (t ^ k * (b - t) ^ (k - k))=_;rw[sub_self,Ð2,mul_one]
 congr 1
 unfold hom;rw[← j21];refine l50 λi hi=>?_;rw[show k - i=(k - 1 - i) + 1 by omega,Ã5]
 generalize (b - t) ^ (k - 1 - i)=B
 grind
theorem j22:evN t b K (λj=>f j + g j) n=evN t b K f n + evN t b K g n:=by
 unfold evN;rw[← O70];exact l50 λi _=>Int.add_mul _ _ _
theorem E41(hb:0 < b):∀ k,k<=K + 1->evN t b K (q60 c k) (K + 1)=b ^ (K + 1 - k) * hom t b c k
 |0,_=>by
  have:∀ n,evN t b K (q60 c 0) n=0:=λn=>by
   induction n with
   |zero=>rfl|succ n ih=>show evN t b K (q60 c 0) n + 0 * _=0;rw[ih,Ó0];rfl
  rw[this];show 0=_ * (0:Int);rw[Ô1]
 |k + 1,h=>by
  have ih:=E41 hb (c:=c) (K:=K) k ∅
  have e1:evN t b K (q60 c (k + 1)) (K + 1)=evN t b K (lag (q60 c k)) (K + 1) + evN t b K (λj=>if j=k then c k else 0) (K + 1):=j22 t b;have e2:evN t b K (λj=>if j=k then c k else 0) (K + 1)=c k * (t ^ k * b ^ (K - k)):=by
   unfold evN;rw[show(λj=>(if j=k then c k else 0) * (t ^ j * b ^ (K - j)))=λj=>if j=k then c k * (t ^ k * b ^ (K - k)) else 0 from funext λj=>by
    by_cases e:j=k
    ·rw[if_pos e,if_pos e,e]
    ·rw[if_neg e,if_neg e,Ó0]]
   exact O80 ∅
  have e3:=W21 t b (K:=K) (f:=q60 c k) (K + 1) (Í _);rw[if_neg ∅,Ï8,F60 c k K ∅,Ó0,add_zero,ih] at e3
  refine Int.eq_of_mul_eq_mul_left (a:=b) ∅ ?_
  rw[e1,mul_add,e3,e2,Q91];have e4:b ^ (K + 1 - k)=b ^ (K - k) * b:=by rw[show K + 1 - k=(K - k) + 1 by omega,Ã5]
  have e5:K + 1 - (k + 1)=K - k:=by omega
  rw[e4,e5];generalize b ^ (K - k)=B;generalize hom t b c k=H;generalize t ^ k=X
  grind
theorem v40:∀ {j:Nat}{lot:List Nat},lot∈l40 j->amt (λ_=>(t,b)) j lot=t ^ lot.length * (b - t) ^ (j - lot.length)/\lot.length<=j
 |0,lot,h=>by rw[ã.mp h];exact⟨by show(1:Int)=t ^ 0 * (b - t) ^ 0;rw[Ð2,Ð2];rfl,Í _⟩
 |j + 1,lot,h=>by
  rw[u90];rcases Á7.mp h with h | h
  ·obtain⟨h1,h2⟩:=v40 h;have hn:j ∉ lot:=λhh=>absurd (O20 h j hh) (Á4 _);rw[h1,if_neg hn,show j + 1 - lot.length=(j - lot.length) + 1 by omega,Ã5]
   exact⟨by rw[Int.mul_assoc],by omega⟩
  ·obtain⟨l,hl,rfl⟩:=Ù.mp h;obtain⟨h1,h2⟩:=v40 hl;rw[i82 (Í _),h1,if_pos (í _ (ã.mpr rfl)),Q11,show j + 1 - (l.length + 1)=j - l.length by omega,Ã5]
   exact⟨by show _ * t=_;generalize (b - t) ^ (j - l.length)=B;generalize t ^ l.length=A;grind,by omega⟩
theorem E51(hb:0 < b)(hl:∀ l∈ls,l∈l40 K):evN t b K (q60 (cnt ls) (K + 1)) (K + 1)=H31 ls (amt (λ_=>(t,b)) K):=by
 rw[E41 t b hb (K + 1) (Í _),sub_self,Ð2,one_mul];unfold hom;rw[Ï8,E31 (λi=>t ^ i * (b - t) ^ (K - i)) λl h=>Ú5 (v40 t b (hl l h)).2];unfold H31;rw[Å8 λl h=>((v40 t b (hl l h)).1).symm]
end
def fl(n:Nat)(f:Nat->Int):List D:=(ë n).map λj=>.int (f j)
theorem W30(n:Nat)(f:Nat->Int):(fl n f).length=n:=by unfold fl;rw[É,ù]
theorem M42(h:i < n):(fl n f)[i]?=some (.int (f i)):=by unfold fl;rw[Ü,É6 h];rfl
theorem W31(h:i < n):L2.atI (fl n f) (i:Int)=some (.int (f i)):=L2.B40 (M42 h)
theorem R01(h:∀ i < n,f i=g i):fl n f=fl n g:=Å8 λi hi=>by rw[h i (Ä3.mp hi)]
theorem W41(h:i < n):G90 (fl n f) (i:Int) (.int v)=some (fl n λj=>if j=i then v else f j):=by
 have hx:L2.ixN (fl n f).length (i:Int)=some i:=by
  rw[W30];unfold L2.ixN;simp;omega
 unfold G90;rw[hx];show some (((ë n).map λj=>D.int (f j)).set i (.int v))=some ((ë n).map λj=>D.int (if j=i then v else f j));refine congrArg some (ext_getElem (by rw[Ä1,É,É]) λj h1 h2=>?_)
 rw[List.getElem_set,Ñ7,Ñ7,Ò3];by_cases e:j=i
 ·rw[if_pos e.symm,if_pos e]
 ·rw[if_neg (Â3 e),if_neg e]
theorem v50(n:Nat)(f:Nat->Int):n90 (fl n f)=true:=by
 unfold fl;rw[show((ë n).map λj=>D.int (f j))=((ë n).map f).map D.int from by rw[ó];rfl]
 exact I00 _
theorem E61:∀ n:Nat,(ì n [D.int 0]).flatten=fl n λ_=>0
 |0=>rfl
 |n + 1=>by
  rw[Å5,É5,E61 n];unfold fl;rw[List.range_succ_eq_map,Å7,ó];rfl
theorem zeros{n:Nat}(h:n<=1000):z50 .mul (.lst [.int 0]) (.int n)=some (.fr (fl n λ_=>0)):=by
 show(if 0<=(n:Int)/\(n:Int).toNat * 1<=most/\(n:Int) < 1000000 then some (S.fr (ì (n:Int).toNat [D.int 0]).flatten) else none)=_;rw[if_pos ⟨by omega,by rw[Á8];exact s60 ∅,by omega⟩,Á8,E61]
theorem W51{i:Int}{n:Nat}(e:i=n)(h:n<=1000):z50 .mul (.lst [.int 0]) (.int i)=some (.fr (fl n λ_=>0)):=by rw[e];exact zeros h
theorem j32(n:Nat)(f:Nat->Int):w20 (fl n f) 0=(Â8 0 n).map λi=>.tup [a40 i,.int (f i)]:=by
 have:∀ (r j:Nat),w20 ((Â8 j r).map λi=>D.int (f i)) j=(Â8 j r).map λi=>.tup [a40 i,.int (f i)]:=by
  intro r
  induction r with
  |zero=>intro _;rfl
  |succ r ih =>
   intro j;rw[Â0];show .tup [.int j,.int (f j)]::w20 ((Â8 (j + 1) r).map λi=>D.int (f i)) (j + 1)=_;rw[ih];rfl
 unfold fl;rw[Õ2];exact this n 0
def A72:D->D
 |.tup [.int a,.int b]=>.int (a - b)|x=>x
theorem j31:∀ a b:List Int,(n70 (a.map D.int) (b.map D.int)).map A72=(List.zipWith (· - ·) a b).map D.int
 |[],_=>rfl|_::_,[]=>rfl
 |x::r,y::q=>by
  show D.int (x - y)::(n70 (r.map D.int) (q.map D.int)).map A72=_;rw[j31 r q];rfl
theorem y72(n:Nat)(f:Nat->Int):(n70 (fl n f) (.int 0::fl n f)).map A72=fl n (lag f):=by
 have e:∀ g:Nat->Int,fl n g=((ë n).map g).map D.int:=λg=>by unfold fl;rw[ó];rfl
 rw[e f,show D.int 0::((ë n).map f).map D.int=(0::(ë n).map f).map D.int from rfl,j31,e (lag f)];refine congrArg _ (ext_getElem ?_ λi h1 h2=>?_)
 ·rw[List.length_zipWith,Û,É,É,ù];omega
 ·rw[List.getElem_zipWith,Ñ7,Ñ7,Ò3];unfold lag;cases i with
  |zero=>rfl|succ i=>rw[List.getElem_cons_succ,Ñ7,Ò3];rfl
theorem c91{a b:List Int}{d:D}(h:d∈n70 (a.map D.int) (b.map D.int)):∃ x y,d=.tup [.int x,.int y]:=by
 obtain⟨x,hx,y,hy,rfl⟩:=N40 h;obtain⟨i,_,rfl⟩:=Ù.mp hx;obtain⟨j,_,rfl⟩:=Ù.mp hy;exact⟨i,j,rfl⟩
theorem o71{n:Nat}{f:Nat->Int}{d:D}(h:d∈n70 (fl n f) (.int 0::fl n f)):∃ x y,d=.tup [.int x,.int y]:=by
 have e:fl n f=((ë n).map f).map D.int:=by unfold fl;rw[ó];rfl
 rw[e] at h;exact c91 (b:=0::(ë n).map f) h
theorem I30:∀ ls:List (List Nat),n90 (ls.map r70)=true
 |[]=>rfl
 |l::r=>by
  show(n90 (l.map a40)&&n90 (r.map r70))=true;rw[x20,I30];rfl
section
variable {m:Int}{ps:List (Int × Int)}{pl:List Nat}
theorem j41(g:d00 m ps)(h:l∈k00 m ps pl):l∈l40 ps.length:=(F20 g.len).mem_iff.mp (Ü9.mp h).1
theorem I40(g:d00 m ps):(k00 m ps pl).length<=256:=Ñ (Å3 _ _) (j11 g.len)
abbrev r30(m:Int)(ps:List (Int × Int))(pl:List Nat):Nat->Int:=cnt (k00 m ps pl)
theorem E71(k:Nat)(g:d00 m ps)(hp:f70 m pl)(z:Z):b40 T (k + 10) h91 [.d (q50 m ps),.d (.tup (pl.map a40))] z=some (.ok (.fr (fl (ps.length + 1) (r30 m ps pl))) z):=by
 have h8:=g.len;refine W.ok (g30 (ps:=2) (ns:=5) (b:=N20) rfl rfl (-0) (Wo (W20 k g hp z) ?_))
 refine(C11 (.fr (fl (ps.length + 1) λ_=>0)) [some (.d (q50 m ps)),some (.d (.tup (pl.map a40))),some (.fr ((k00 m ps pl).map r70)),some (.fr (fl (ps.length + 1) λ_=>0)),none] ?_ ?_ ?_ :)
 ·refine(a00 (W51 (i:=((ps.map pr).length:Int) + 1) (n:=ps.length + 1) (by rw[É];rfl) ∅) ?_ :)
  exact⟨rfl,rfl⟩
 ·rw[C01 (show S40 (.fr (fl (ps.length + 1) λ_=>0))=true from v50 _ _)];rfl
 refine w60 (λxs ρ z1=>z1=z/\∃ (r:List (List Nat)) (f:Nat->Int) (o2 o4:Option S),xs=r.map r70/\(∀ l∈r,l.length < ps.length + 1)/\(∀ j,f j + cnt r j=r30 m ps pl j)/\ρ=[some (.d (q50 m ps)),some (.d (.tup (pl.map a40))),o2,some (.fr (fl (ps.length + 1) f)),o4]) _ ⟨rfl,k00 m ps pl,λ_=>0,_,none,rfl,λl hl=>Ú5 (A60 (j41 g hl)),λj=>Ô0 _,(itE (l:=[.d (.lst ((k00 m ps pl).map r70))]) (by show(n90 ((k00 m ps pl).map r70)&&true)=true;rw[I30];rfl)).trans rfl⟩ ?_ ?_
 ·rintro x r ρ z1 ⟨rfl,ls,f,o2,o4,e,hl,hf,rfl⟩;cases ls with
  |nil=>cases e
  |cons l ls =>
   cases e;have hl0:=hl l Ì;have el:((l.map a40).length:Int)=(l.length:Nat):=by rw[É]
   refine(a00 (o:=L2.atI (fl (ps.length + 1) f) ((l.map a40).length:Int)) (a:=.int (f l.length)) (by rw[el];exact W31 hl0) ?_ :)
   refine(a00 (o:=G90 (fl (ps.length + 1) f) ((l.map a40).length:Int) (.int (f l.length + 1))) (a:=fl (ps.length + 1) λj=>if j=l.length then f l.length + 1 else f j) (by rw[el];exact W41 hl0) ?_ :)
   refine⟨rfl,ls,λj=>if j=l.length then f l.length + 1 else f j,_,_,rfl,λl' h'=>hl l' (È _ h'),λj=>?_,rfl⟩;have:=hf j;rw[cnt_cons] at this;show(if j=l.length then f l.length + 1 else f j) + cnt ls j=r30 m ps pl j;by_cases e:j=l.length
   ·rw[if_pos e] at this;rw[if_pos e,← e];omega
   ·rw[if_neg e] at this;rw[if_neg e];omega
 ·rintro ρ z1 ⟨rfl,ls,f,o2,o4,e,hl,hf,rfl⟩;cases ls with
  |cons l ls=>cases e
  |nil =>
   refine sd ?_;rw[show f=r30 m ps pl from funext λj=>by have:=hf j;show f j=_;rw[← this];exact(add_zero _).symm]
abbrev j51(m:Int)(ps:List (Int × Int))(pl:List Nat):Nat->Int:=q60 (r30 m ps pl) (ps.length + 1)
abbrev pwE(m:Int)(ps:List (Int × Int))(pl:List Nat)(o2 o3 o4 o5:Option S):Env:=[some (.d (q50 m ps)),some (.d (.tup (pl.map a40))),o2,o3,o4,o5]
theorem E81(k:Nat)(g:d00 m ps)(hp:f70 m pl)(z:Z):b40 T (k + 11) i01 [.d (q50 m ps),.d (.tup (pl.map a40))] z=some (.ok (.fr (fl (ps.length + 1) (j51 m ps pl))) z):=by
 have h8:=g.len;refine W.ok (g30 (ps:=2) (ns:=6) (b:=N30) rfl rfl (-0) (Wo (E71 k g hp z) ?_))
 refine(C11 (.fr (fl (ps.length + 1) λ_=>0)) (pwE m ps pl (some (.fr (fl (ps.length + 1) (r30 m ps pl)))) (some (.fr (fl (ps.length + 1) λ_=>0))) none none) ?_ ?_ ?_ :)
 ·refine(a00 (W51 (i:=((fl (ps.length + 1) (r30 m ps pl)).length:Int)) (n:=ps.length + 1) (by rw[W30]) ∅) ?_ :)
  exact⟨rfl,rfl⟩
 ·rw[C01 (show S40 (.fr (fl (ps.length + 1) λ_=>0))=true from v50 _ _)];rfl
 refine w60 (λxs ρ z1=>z1=z/\∃ (j r:Nat) (s3:S) (o2 o4 o5:Option S),j + r=ps.length + 1/\xs=(Â8 j r).map (λi=>.tup [a40 i,.int (r30 m ps pl i)])/\((j=0/\s3=.d (.lst (fl (ps.length + 1) (q60 (r30 m ps pl) j))))∨s3=.fr (fl (ps.length + 1) (q60 (r30 m ps pl) j)))/\ρ=pwE m ps pl o2 (some s3) o4 o5) _ ⟨rfl,0,ps.length + 1,.d (.lst (fl (ps.length + 1) λ_=>0)),_,_,_,Î9 _,j32 _ _,.inl ⟨rfl,rfl⟩,(itE (l:=[.d (.lst (fl (ps.length + 1) (r30 m ps pl)))]) (by show(n90 (fl (ps.length + 1) (r30 m ps pl))&&true)=true;rw[v50];rfl)).trans rfl⟩ ?_ ?_
 ·rintro x r ρ z1 ⟨rfl,j,r',s3,o2,o4,o5,hj,e,hs,rfl⟩;cases r' with
  |zero=>cases e
  |succ r' =>
   rw[Â0] at e;cases e;refine(C11 (.fr (fl (ps.length + 1) (lag (q60 (r30 m ps pl) j)))) (pwE m ps pl o2 (some (.fr (fl (ps.length + 1) (lag (q60 (r30 m ps pl) j))))) (some (.d (a40 j))) (some (.d (.int (r30 m ps pl j))))) ?_ ?_ ?_ :)
   ·have st:∀ {Q:List D->Z->Prop}{F:FT},Q (fl (ps.length + 1) (lag (q60 (r30 m ps pl) j))) z1->(if (n70 (fl (ps.length + 1) (q60 (r30 m ps pl) j)) (.int 0::fl (ps.length + 1) (q60 (r30 m ps pl) j))).length<=most then W (turns (n80 (ev F .nil) (ev F (.bin .sub v0 v1)) (p2 (.v 0) (.v 1)) [none,none]) (n70 (fl (ps.length + 1) (q60 (r30 m ps pl) j)) (.int 0::fl (ps.length + 1) (q60 (r30 m ps pl) j)))) z1 Q NE else False):=λ{Q F} q=>by
     refine ip (Ñ (u80 _ _) (by rw[W30];exact s60 ∅)) (P71 A72 (λx hx=>?_) ?_)
     ·obtain⟨a,b,rfl⟩:=o71 hx;exact⟨rfl,rfl⟩
     ·rw[y72];exact q
    have ad:z50 .add (.lst [.int 0]) (.lst (fl (ps.length + 1) (q60 (r30 m ps pl) j)))=some (.fr (.int 0::fl (ps.length + 1) (q60 (r30 m ps pl) j))):=add_l (by rw[W30];show 1 + _<=1000;omega)
    rcases hs with ⟨_,rfl⟩ | rfl
    ·refine(a00 ad ?_ :);exact st (F:=T00 T (k + 10)) ⟨rfl,rfl⟩
    ·refine(a00 ad ?_ :);exact st (F:=T00 T (k + 10)) ⟨rfl,rfl⟩
   ·rw[C01 (show S40 (.fr (fl (ps.length + 1) (lag (q60 (r30 m ps pl) j))))=true from v50 _ _)];rfl
   ·refine(a00 (W31 (f:=lag (q60 (r30 m ps pl) j)) (i:=j) (n:=ps.length + 1) ∅) ?_ :)
    refine(a00 (W41 (f:=lag (q60 (r30 m ps pl) j)) (i:=j) (n:=ps.length + 1) (v:=lag (q60 (r30 m ps pl) j) j + r30 m ps pl j) ∅) ?_ :)
    refine⟨rfl,j + 1,r',_,_,_,_,by omega,rfl,.inr (congrArg S.fr (R01 λi _=>?_)),rfl⟩
    show(if i=j then lag (q60 (r30 m ps pl) j) j + r30 m ps pl j else lag (q60 (r30 m ps pl) j) i)=lag (q60 (r30 m ps pl) j) i + (if i=j then r30 m ps pl j else 0);by_cases e:i=j
    ·rw[if_pos e,if_pos e,e]
    ·rw[if_neg e,if_neg e,add_zero]
 ·rintro ρ z1 ⟨rfl,j,r',s3,o2,o4,o5,hj,e,hs,rfl⟩;cases r' with
  |succ r'=>rw[Â0] at e;cases e
  |zero =>
   have hj:j=ps.length + 1:=hj;subst hj;rcases hs with ⟨h,_⟩ | rfl
   ·cases h
   ·exact sd rfl
end
theorem j42(k:Nat)(hc:Bs n c)(hd:Bs n d)(hn:n + n<=3999)(z:Z):b40 T (k + 5) C21 [.d (pr c),.d (pr d)] z=some (.ok (.d (pr (j50 (c.1 * d.1) (c.2 * d.2)))) z):=by
 have h1:n<=3999:=by omega
 refine W.ok (g30 (ps:=2) (ns:=2) (b:=b81) rfl rfl (-0) ?_)
 refine(a00 (F30 h1 hc.t hd.t) ?_ :);refine(a00 (F30 h1 hc.b hd.b) ?_ :);exact Wo (V70 k _ _ z (Ï2 hc.b0 hd.b0) (E11 hn (s90 hc.b hd.b))) (sd rfl)
theorem Rt.is(h:Rt v t b)(hb:0 < b):v=j50 t b:=h.eqv (.low hb) hb
theorem Rt.bs(h:Rt v t b)(hb:0 < b)(h1:t.natAbs<=2 ^ n)(h2:b.natAbs<=2 ^ n):Bs n v:=by
 rw[h.is hb];exact .low hb h1 h2
def E91(t b:Int)(f:Nat->Int)(K:Nat):Nat->Int
 |0=>0|s + 1=>t * E91 t b f K s + f (K - s) * b ^ (s + 1)
theorem F01(t b:Int)(f:Nat->Int)(K:Nat):∀ s,s<=K + 1->t ^ (K + 1 - s) * E91 t b f K s + b * evN t b K f (K + 1 - s)=b * evN t b K f (K + 1)
 |0,_=>by show t ^ (K + 1) * 0 + _=_;rw[Ô1,Ô0];rfl
 |s + 1,h=>by
  rw[← F01 t b f K s ∅]
  have e1:K + 1 - s=(K - s) + 1:=by omega
  have e2:K + 1 - (s + 1)=K - s:=by omega
  rw[e1,e2];show t ^ (K - s) * (t * E91 t b f K s + f (K - s) * b ^ (s + 1)) + b * evN t b K f (K - s)=t ^ (K - s + 1) * E91 t b f K s + b * (evN t b K f (K - s) + f (K - s) * (t ^ (K - s) * b ^ (K - (K - s))));rw[show K - (K - s)=s by omega,Ã5,Ã5]
  generalize t ^ (K - s)=X;generalize b ^ s=B;generalize E91 t b f K s=H;generalize evN t b K f (K - s)=V
  grind
theorem R11(t b:Int)(f:Nat->Int)(K:Nat):E91 t b f K (K + 1)=b * evN t b K f (K + 1):=by
 have h:=F01 t b f K (K + 1) (Í _);rw[sub_self,Ð2,one_mul] at h;rw[← h];show _=E91 t b f K (K + 1) + b * 0;rw[Ô1,add_zero]
theorem F11{a b:Int}:(a + b).natAbs<=a.natAbs + b.natAbs:=Int.natAbs_add_le a b
theorem i80(hc:IsC c):∀ s:Nat,(c.2 ^ s).natAbs<=2 ^ (10 * s)/\0 < c.2 ^ s
 |0=>⟨by rw[Ð2];decide,by rw[Ð2];decide⟩
 |s + 1=>by
  obtain⟨h1,h2⟩:=i80 hc s;rw[Ã5];have:=hc.s.b;exact⟨s90 h1 this,Ï2 h2 hc.s.b0⟩
theorem F21(hc:IsC c)(hf:∀ j,(f j).natAbs<=2 ^ 17){K:Nat}:∀ s,(E91 c.1 c.2 f K s).natAbs<=2 ^ (17 + 11 * s)
 |0=>Æ1 _
 |s + 1=>by
  have ih:=F21 hc hf (K:=K) s;have h1:=s90 hc.s.t ih;have h2:=s90 (hf (K - s)) (i80 hc (s + 1)).1;refine Ñ F11 ?_;have e1:2 ^ (10 + (17 + 11 * s))<=2 ^ (16 + 11 * (s + 1)):=û (-0) ∅
  have e2:2 ^ (17 + 10 * (s + 1))<=2 ^ (16 + 11 * (s + 1)):=û (-0) ∅
  have e3:2 ^ (17 + 11 * (s + 1))=2 * 2 ^ (16 + 11 * (s + 1)):=by rw[show 17 + 11 * (s + 1)=(16 + 11 * (s + 1)) + 1 by omega,Ú4,Ó8]
  rw[e3];omega
section
variable {m:Int}{ps:List (Int × Int)}{pl:List Nat}{c:Int × Int}
theorem W61(g:d00 m ps)(j:Nat):(j51 m ps pl j).natAbs<=2 ^ 17:=by
 have h8:=g.len;refine Ñ (c81 (λi=>?_) _ _) ?_
 ·have:=W11 (k00 m ps pl) i;have:=I40 g (pl:=pl);exact⟨(W11 (k00 m ps pl) i).1,by show cnt (k00 m ps pl) i<=256;omega⟩
 ·have:2 ^ (ps.length + 1)<=2 ^ 9:=û (-0) ∅
  have e9:2 ^ 9=512:=by decide
  have e17:2 ^ 17=131072:=by decide
  omega
def A82(m:Int)(ps:List (Int × Int))(pl:List Nat)(c:Int × Int):Int × Int:=j50 (evN c.1 c.2 ps.length (j51 m ps pl) (ps.length + 1)) (c.2 ^ ps.length)
theorem R21(g:d00 m ps)(hc:IsC c):evN c.1 c.2 ps.length (j51 m ps pl) (ps.length + 1)=H31 (k00 m ps pl) (amt (λ_=>c) ps.length):=E51 c.1 c.2 hc.s.b0 λ_ h=>j41 g h
theorem F31(f:Nat->Int):∀ n,(fl (n + 1) f).reverse=.int (f n)::(fl n f).reverse:=λn=>by
 unfold fl;rw[range_succ,Ç5,List.reverse_append];rfl
theorem F70(k:Nat)(g:d00 m ps)(hp:f70 m pl)(hc:IsC c)(z:Z):b40 T (k + 12) q00 [.d (q50 m ps),.d (.tup (pl.map a40)),.d (pr c)] z=some (.ok (.d (pr (A82 m ps pl c))) z):=by
 have h8:=g.len;have h6:=hp.len g.m6;refine W.ok (g30 (ps:=3) (ns:=5) (b:=q20) rfl rfl (-0) (Wo (c40 (k + 3) z g.web) (Wo (d10 (k + 5) (t:=.tup (ps.map pr)) z hp.pls (decide_eq_true (by rw[É];omega))) (Wo (F40 (k + 6) z hc.ch) (Wo (E81 k g hp z) ?_)))))
 refine w60 (λxs ρ z1=>z1=z/\∃ (s:Nat) (v:Int × Int) (o4:Option S),s<=ps.length + 1/\xs=(fl (ps.length + 1 - s) (j51 m ps pl)).reverse/\Rt v (E91 c.1 c.2 (j51 m ps pl) ps.length s) (c.2 ^ s)/\ρ=[some (.d (q50 m ps)),some (.d (.tup (pl.map a40))),some (.d (pr c)),some (.d (pr v)),o4]) _ ⟨rfl,0,(0,1),none,Æ1 _,rfl,⟨by decide,by decide,by show(0:Int) * _=0 * _;rw[Ó0,Ó0]⟩,rfl⟩ ?_ ?_
 ·rintro x r ρ z1 ⟨rfl,s,v,o4,hs,e,hv,rfl⟩;by_cases h:s=ps.length + 1
  ·subst h;rw[sub_self] at e;cases e
  ·rw[show ps.length + 1 - s=(ps.length - s) + 1 by omega,F31] at e
   cases e;have hb:=i80 hc s;have hbs:Bs 116 v:=hv.bs hb.2 (Ñ (F21 hc (W61 g) s) (û (-0) ∅)) (Ñ hb.1 (û (-0) ∅))
   have hcs:Bs 116 c:=hc.s.up (-0)
   have hi:Bs 232 (j51 m ps pl (ps.length - s),(1:Int)):=⟨Ñ (W61 g _) (û (-0) (-0)),by show(0:Int) < 1;decide,by show(1:Int).natAbs<=2 ^ 232;decide⟩
   refine Wo (j42 (k + 6) hbs hcs (-0) z1) (Wo (y62 (k + 6) (hbs.mul hcs) hi (-0) z1) ?_)
   refine⟨rfl,s + 1,_,_,by omega,by rw[show ps.length + 1 - (s + 1)=ps.length - s by omega],?_,rfl⟩
   have hr:Rt (j51 m ps pl (ps.length - s),(1:Int)) (j51 m ps pl (ps.length - s)) 1:=⟨by show(0:Int) < 1;decide,Int.gcd_one_right _,rfl⟩
   refine((hv.mul hc.rt).add hr).conv ?_ ?_
   ·exact Ï2 (Ï2 hb.2 hc.s.b0) (-0)
   ·show _ * c.2 ^ (s + 1)=(c.1 * E91 c.1 c.2 (j51 m ps pl) ps.length s + j51 m ps pl (ps.length - s) * c.2 ^ (s + 1)) * _;rw[Ã5];generalize c.2 ^ s=B;generalize E91 c.1 c.2 (j51 m ps pl) ps.length s=H
    grind
 ·rintro ρ z1 ⟨rfl,s,v,o4,hs,e,hv,rfl⟩;have hs':s=ps.length + 1:=by
   have:=congrArg List.length e;rw[Ì0,W30] at this;simp only[Á0] at this;omega
  subst hs';refine sd ?_;rw[R11] at hv;have hb:=i80 hc ps.length;have:Rt v (evN c.1 c.2 ps.length (j51 m ps pl) (ps.length + 1)) (c.2 ^ ps.length):=hv.conv (i80 hc (ps.length + 1)).2 (by rw[Ã5];generalize c.2 ^ ps.length=B;generalize evN c.1 c.2 ps.length (j51 m ps pl) (ps.length + 1)=V;grind)
  rw[this.is hb.2];rfl
theorem o81(k:Nat)(g:d00 m ps)(hp:f70 m pl)(hx:chD x=false)(z:Z):b40 T (k + 12) q00 [.d (q50 m ps),.d (.tup (pl.map a40)),.d x] z=some (.er 5 z):=by
 have h6:=hp.len g.m6;exact W.er (g30 (ps:=3) (ns:=5) (b:=q20) rfl rfl (-0) (Wo (c40 (k + 3) z g.web) (Wo (d10 (k + 5) (t:=.tup (ps.map pr)) z hp.pls (decide_eq_true (by rw[É];omega))) (We (F50 (k + 6) z hx) ⟨rfl,c30 z⟩))))
end
theorem eq_self(h:okD x=true)(hs:T61 .seq x=false):C70 .eq x x=some true:=by
 show(if okD x&&okD x then some (eqD x x) else eqE x x)=some true;rw[h];cases x with
 |non=>rfl|bl b=>show some (b == b)=_;rw[beq_self_eq_true]|int i=>show some (i == i)=_;rw[beq_self_eq_true]|str s=>show some (s == s)=_;rw[beq_self_eq_true]|tup l=>cases hs
 |lst l=>cases hs
 |dct=>rfl
theorem j61:∀ {l:List D}{d:D},d∈n70 l l->∃ x∈l,d=.tup [x,x]
 |x::r,d,h=>by
  rcases ú.mp h with h | h
  ·exact⟨x,Ì,h⟩
  ·obtain⟨u,hu,e⟩:=j61 h;exact⟨u,È _ hu,e⟩
mutual
noncomputable def flat:Nat->D->Bool
 |_,.non=>true|_,.bl _=>true|_,.int _=>true|_,.str _=>false|0,.tup _=>false|d + 1,.tup l=>decide (l.length<=1000)&&R31 d l|_,.lst _=>false|_,.dct=>false
noncomputable def R31:Nat->List D->Bool
 |_,[]=>true|d,x::r=>flat d x&&R31 d r
end
theorem W40:∀ {d:Nat}{l:List D}{x:D},R31 d l=true->x∈l->flat d x=true
 |d,y::r,x,h,hx=>by
  unfold R31 at h;rw[Á] at h;rcases ú.mp hx with rfl | hx
  ·exact h.1
  ·exact W40 h.2 hx
theorem F41:∀ (d k:Nat) (x:D) (z:Z),flat d x=true->b40 T (k + d + 3) i60 [.d x,.d x] z=some (.ok (.d (.bl true)) z):=by
 have one:∀ (k:Nat) (x:D) (z:Z),okD x=true->T61 .seq x=false->b40 T (k + 3) i60 [.d x,.d x] z=some (.ok (.d (.bl true)) z):=λk x z h hs=>by
  refine W.ok (g30 (ps:=2) (ns:=2) (b:=m60) rfl rfl (-0) (ie hs ?_))
  refine(a00 (eq_self h hs) ?_ :);cases x with
  |tup l=>cases hs
  |lst l=>cases hs
  |_=>exact sb rfl
 intro d
 induction d with
 |zero =>
  intro k x z h;cases x with
  |non=>exact one k _ z rfl rfl|bl b=>exact one k _ z rfl rfl|int i=>exact one k _ z rfl rfl|_=>unfold flat at h;cases h
 |succ d ih =>
  intro k x z h;cases x with
  |non=>exact one _ _ z rfl rfl|bl b=>exact one _ _ z rfl rfl|int i=>exact one _ _ z rfl rfl
  |tup l =>
   unfold flat at h;rw[Á,decide_eq_true_eq] at h;refine W.ok (g30 (ps:=2) (ns:=2) (b:=m60) rfl rfl (-0) ?_)
   refine ie (b:=!((l.length:Int) == (l.length:Int))) (by rw[beq_self_eq_true];rfl) ?_
   refine ip (c:=(n70 l l).length<=most) (Ñ (u80 _ _) (s60 h.1)) (P71 (λ_=>.bl true) (λq hq=>?_) (a00 (H90 (n70 l l) λ_=>true) ?_ :))
   ·obtain⟨x,hx,rfl⟩:=j61 hq;exact Wo (ih k x z (W40 h.2 hx)) ⟨rfl,rfl⟩
   ·exact sb (b:=(n70 l l).all λ_=>true) (Õ.mpr λ_ _=>rfl)
  |_=>unfold flat at h;cases h
section
variable {m m':Int}{ps ps':List (Int × Int)}{pl pl':List Nat}
theorem v60(k:Nat)(g:d00 m ps)(hp:f70 m pl)(g':d00 m' ps')(hp':f70 m' pl')(z:Z):b40 T (k + 9) y10 [.d (q50 m ps),.d (.tup (pl.map a40)),.d (q50 m' ps'),.d (.tup (pl'.map a40))] z=some (.ok (.d .non) z):=by
 have h6:=hp.len g.m6;have h6':=hp'.len g'.m6;exact W.ok (g30 (ps:=4) (ns:=4) (b:=e10) rfl rfl (-0) (Wo (c40 k z g.web) (Wo (c40 k z g'.web) (Wo (d10 (k + 2) (t:=.tup (ps.map pr)) z hp.pls (decide_eq_true (by rw[É];omega))) (Wo (d10 (k + 2) (t:=.tup (ps'.map pr)) z hp'.pls (decide_eq_true (by rw[É];omega))) (sd rfl))))))
end
abbrev pf(ps:List (Int × Int))(i:Nat):Int × Int:=ps.getD i (0,0)
section
variable {m:Int}{ps cs:List (Int × Int)}{pl:List Nat}
theorem y82{i:Nat}(h:i < ps.length):pf ps i∈ps:=by
 rw[pf,Ö,ç h];exact È9 h
theorem d00.ab(g:d00 m ps){n:Nat}(hn:n < ps.length):tA ps n < tB ps n/\tB ps n < m.toNat/\pf ps n=((tA ps n:Int),(tB ps n:Int)):=by
 have:=g.tie _ (y82 hn);refine⟨by show(pf ps n).1.toNat < (pf ps n).2.toNat;omega,by show(pf ps n).2.toNat < _;omega,Prod.ext ?_ ?_⟩
 ·show(pf ps n).1=((pf ps n).1.toNat:Int);omega
 ·show(pf ps n).2=((pf ps n).2.toNat:Int);omega
end
def W50(F:List Nat)(a b:Nat):List Nat:=if a∈F/\b ∉ F then F++[b] else F
theorem j71(h:x∈F):x∈W50 F a b:=by
 unfold W50;split
 ·exact Æ6 _ h
 ·exact h
theorem d01(F:List Nat)(a b:Nat):(W50 F a b=F/\(a∈F->b∈F))∨F.length < (W50 F a b).length:=by
 unfold W50;split
 ·exact .inr (by rw[Q11];omega)
 ·rename_i h;exact .inl ⟨rfl,λha=>Û8 λhb=>h ⟨ha,hb⟩⟩
def Pls(m:Nat)(F:List Nat):Prop:=F.Nodup/\∀ x∈F,x < m
theorem p00:∀ {m:Nat}{F:List Nat},Pls m F->F.length<=m
 |0,[],_=>Í _|0,x::_,h=>absurd (h.2 x Ì) (Ö1 _)
 |m + 1,F,h=>by
  have h1:(F.erase m).length<=m:=p00 ⟨h.1.erase m,λx hx=>by
   have h2:=h.2 x (List.mem_of_mem_erase hx);have h3:x≠m:=(List.Nodup.mem_erase_iff h.1).mp hx |>.1;omega⟩
  by_cases hm:m∈F
  ·rw[List.length_erase_of_mem hm] at h1;omega
  ·rw[List.erase_of_not_mem hm] at h1;omega
theorem A80(h:Pls m F)(hb:b < m):Pls m (W50 F a b):=by
 unfold W50;split
 ·rename_i hh;refine⟨List.nodup_append.mpr ⟨h.1,by simp,λx hx y hy=>?_⟩,λx hx=>?_⟩
  ·rw[ã.mp hy];exact λe=>hh.2 (e ▸ hx)
  ·rcases Á7.mp hx with hx | hx
   ·exact h.2 x hx
   ·rw[ã.mp hx];exact hb
 ·exact h
theorem W71{F:List Nat}{a b:Nat}{f:Nat->Int}{v:Int}(h:∀ x∈F,f x=v)(e:f a=f b):∀ x∈W50 F a b,f x=v:=by
 unfold W50;split
 ·rename_i hh;intro x hx;rcases Á7.mp hx with hx | hx
  ·exact h x hx
  ·rw[ã.mp hx,← e];exact h a hh.1
 ·exact h
section
variable (ps:List (Int × Int))
def spr(F:List Nat)(n:Nat):List Nat:=W50 (W50 F (tA ps n) (tB ps n)) (tB ps n) (tA ps n)
def rnd(lot:List Nat)(F:List Nat):List Nat:=lot.foldl (spr ps) F
def x40(lot:List Nat):Nat->List Nat->List Nat
 |0,F=>F|j + 1,F=>x40 lot j (rnd ps lot F)
variable {ps:List (Int × Int)}
theorem y92(F:List Nat)(n:Nat):(spr ps F n=F/\(tA ps n∈F↔tB ps n∈F))∨F.length < (spr ps F n).length:=by
 unfold spr;rcases d01 F (tA ps n) (tB ps n) with ⟨h1,h2⟩ | h1
 ·rw[h1];rcases d01 F (tB ps n) (tA ps n) with ⟨h3,h4⟩ | h3
  ·exact .inl ⟨h3,h2,h4⟩
  ·exact .inr h3
 ·rcases d01 (W50 F (tA ps n) (tB ps n)) (tB ps n) (tA ps n) with ⟨h3,_⟩ | h3
  ·rw[h3];exact .inr h1
  ·exact .inr (Nat.lt_trans h1 h3)
theorem F51:∀ (lot F:List Nat),(rnd ps lot F=F/\∀ n∈lot,(tA ps n∈F↔tB ps n∈F))∨F.length < (rnd ps lot F).length
 |[],F=>.inl ⟨rfl,λ_ h=>nomatch h⟩
 |n::r,F=>by
  show(rnd ps r (spr ps F n)=F/\_)∨F.length < (rnd ps r (spr ps F n)).length;rcases y92 (ps:=ps) F n with ⟨h1,h2⟩ | h1
  ·rw[h1];rcases F51 r F with ⟨h3,h4⟩ | h3
   ·refine .inl ⟨h3,λk hk=>?_⟩;rcases ú.mp hk with rfl | hk
    ·exact h2
    ·exact h4 k hk
   ·exact .inr h3
  ·rcases F51 r (spr ps F n) with ⟨h3,_⟩ | h3
   ·rw[h3];exact .inr h1
   ·exact .inr (Nat.lt_trans h1 h3)
theorem F61:∀ {lot F:List Nat},Pls m F->(∀ n∈lot,tA ps n < m/\tB ps n < m)->Pls m (rnd ps lot F)
 |[],_,h,_=>h|n::r,F,h,hl=>F61 (lot:=r) (F:=spr ps F n) (A80 (A80 h (hl n Ì).2) (hl n Ì).1) λk hk=>hl k (È _ hk)
theorem z02{f:Nat->Int}{v:Int}:∀ {lot F:List Nat},(∀ x∈F,f x=v)->(∀ n∈lot,f (tA ps n)=f (tB ps n))->∀ x∈rnd ps lot F,f x=v
 |[],_,h,_=>h|n::r,F,h,hl=>z02 (lot:=r) (F:=spr ps F n) (W71 (W71 h (hl n Ì)) (hl n Ì).symm) λk hk=>hl k (È _ hk)
theorem F71:∀ {lot F:List Nat}{x:Nat},x∈F->x∈rnd ps lot F
 |[],_,_,h=>h|n::r,F,x,h=>F71 (lot:=r) (F:=spr ps F n) (j71 (j71 h))
theorem j81(hl:∀ n∈lot,tA ps n < m/\tB ps n < m):∀ {j:Nat}{F:List Nat},Pls m F->Pls m (x40 ps lot j F)
 |0,_,h=>h|j + 1,_,h=>j81 hl (j:=j) (F61 h hl)
theorem W81{f:Nat->Int}{v:Int}{lot:List Nat}(hl:∀ n∈lot,f (tA ps n)=f (tB ps n)):∀ {j:Nat}{F:List Nat},(∀ x∈F,f x=v)->∀ x∈x40 ps lot j F,f x=v
 |0,_,h=>h|j + 1,_,h=>W81 hl (j:=j) (z02 h hl)
theorem j91:∀ {j:Nat}{F:List Nat}{x:Nat},x∈F->x∈x40 ps lot j F
 |0,_,_,h=>h|j + 1,_,_,h=>j91 (j:=j) (F71 h)
theorem F81:∀ (j:Nat) (F:List Nat),(∀ n∈lot,(tA ps n∈x40 ps lot j F↔tB ps n∈x40 ps lot j F))∨F.length + j<=(x40 ps lot j F).length
 |0,F=>.inr (Í _)
 |j + 1,F=>by
  show(∀ n∈lot,(tA ps n∈x40 ps lot j (rnd ps lot F)↔tB ps n∈x40 ps lot j (rnd ps lot F)))∨F.length + (j + 1)<=(x40 ps lot j (rnd ps lot F)).length;rcases F51 (ps:=ps) lot F with ⟨h1,h2⟩ | h1
  ·have e:∀ i,x40 ps lot i F=F:=λi=>by
    induction i with
    |zero=>rfl|succ i ih=>show x40 ps lot i (rnd ps lot F)=F;rw[h1];exact ih
   refine .inl ?_;rw[h1,e];exact h2
  ·rcases F81 (lot:=lot) j (rnd ps lot F) with h2 | h2
   ·exact .inl h2
   ·exact .inr ∅
theorem F91{m:Int}{pl lot:List Nat}(g:d00 m ps)(hp:f70 m pl)(hl:∀ n∈lot,n < ps.length):(∀ p∈pl,p∈x40 ps lot m.toNat [pl.getD 0 0])↔F10 ps m.toNat pl lot=true:=by
 have hr:∀ n∈lot,tA ps n < m.toNat/\tB ps n < m.toNat:=λn hn=>g.rng n (hl n hn);have hpm:∀ p∈pl,p < m.toNat:=λp h=>by have:=hp.lt p h;omega
 have p0:pl.getD 0 0 < m.toNat:=hp.p0;rw[Q61 g.rng hpm hl];constructor
 ·exact λh f hf p hpp=>W81 hf (λx hx=>by rw[ã.mp hx]) p (h p hpp)
 ·intro h p hpp;have cl:∀ n∈lot,(tA ps n∈x40 ps lot m.toNat [pl.getD 0 0]↔tB ps n∈x40 ps lot m.toNat [pl.getD 0 0]):=by
   rcases F81 (ps:=ps) (lot:=lot) m.toNat [pl.getD 0 0] with h1 | h1
   ·exact h1
   ·have:=p00 (j81 hr (j:=m.toNat) (F:=[pl.getD 0 0]) ⟨by simp,λx hx=>by rw[ã.mp hx];exact p0⟩)
    simp only[Û,Á0] at h1;omega
  have h2:=h (λx=>if x∈x40 ps lot m.toNat [pl.getD 0 0] then 1 else 0) (λn hn=>by
   by_cases hx:tA ps n∈x40 ps lot m.toNat [pl.getD 0 0]
   ·rw[if_pos hx,if_pos ((cl n hn).mp hx)]
   ·rw[if_neg hx,if_neg λhy=>hx ((cl n hn).mpr hy)]) p hpp
  rw[if_pos (j91 (ã.mpr rfl))] at h2;exact Û8 λhx=>by rw[if_neg hx] at h2;cases h2
end
def k52(k:Nat):List Nat->List Nat
 |[]=>[k]|y::r=>if y < k then y::k52 k r else k::y::r
def d11:List Nat->List Nat
 |[]=>[]|k::r=>k52 k (d11 r)
theorem W60(k:Nat):∀ l,(k52 k l).Perm (k::l)
 |[]=>.refl _
 |y::r=>by
  unfold k52;split
  ·exact((W60 k r).cons y).trans (.swap _ _ _)
  ·exact .refl _
theorem I50:∀ l,(d11 l).Perm l
 |[]=>.refl _|k::r=>(W60 k _).trans ((I50 r).cons k)
theorem k01(k:Nat):∀ l:List Nat,p41 (a40 k) (l.map a40)=(k52 k l).map a40
 |[]=>rfl
 |y::r=>by
  unfold k52;show(if MySort.h60 [(y:Int)] [(k:Int)] then a40 y::p41 (a40 k) (r.map a40) else a40 k::a40 y::r.map a40)=_;rw[M32,k01 k r];by_cases h:y < k
  ·rw[decide_eq_true (by omega:(y:Int) < k),if_pos rfl,if_pos h];rfl
  ·rw[decide_eq_false (by omega:¬ (y:Int) < k),if_neg (-0),if_neg h];rfl
theorem W70:∀ l:List Nat,u10 (l.map a40)=(d11 l).map a40
 |[]=>rfl
 |k::r=>by
  show p41 (a40 k) (u10 (r.map a40))=_;rw[W70 r,k01];rfl
theorem d21(h:l.length < 64):bfD .sorted [.lst (l.map a40)]=some (.fr ((d11 l).map a40)):=by
 have ok:n10 (l.map a40)=true:=by
  refine Õ.mpr λx hx=>?_;obtain⟨p,_,rfl⟩:=Ù.mp hx;show(true&&(true&&(l.map a40).all (i30 (a40 p))))=true;refine Õ.mpr λy hy=>?_;obtain⟨q,_,rfl⟩:=Ù.mp hy;exact O00 p q
 show(if (l.map a40).length < 64/\n10 (l.map a40)=true then some (S.fr (u10 (l.map a40))) else _)=_;rw[if_pos ⟨by rw[É];exact h,ok⟩,W70]
theorem O90{n:Nat}{l:List Nat}:(M61 (a40 n) (l.map a40)).map (!·)=some (!decide (n∈l)):=by rw[O50];rfl
def z12:D->Nat
 |.int i=>i.toNat|_=>0
section
variable {m:Int}{ps:List (Int × Int)}{pl lot:List Nat}
abbrev wiE(m:Int)(ps:List (Int × Int))(lot:List Nat)(p0:Nat)(F:List Nat)(o4 o5 o6 o7:Option S):Env:=[some (.d (q50 m ps)),some (.d (.tup (lot.map a40))),some (.d (a40 p0)),some (.fr (F.map a40)),o4,o5,o6,o7]
theorem k21:F.map a40++[a40 b]=(F++[b]).map a40:=by rw[Ç5];rfl
theorem d31(k:Nat)(g:d00 m ps)(hl:∀ n∈lot,n < ps.length){p0:Nat}(h0:p0 < m.toNat)(z:Z):b40 T (k + 3) E30 [.d (q50 m ps),.d (.tup (lot.map a40)),.d (a40 p0)] z=some (.ok (.d (.tup ((d11 (x40 ps lot m.toNat [p0])).map a40))) z):=by
 have m6:=g.m6;have m1:=g.m1;have hr:∀ n∈lot,tA ps n < m.toNat/\tB ps n < m.toNat:=λn hn=>g.rng n (hl n hn);refine W.ok (g30 (ps:=3) (ns:=8) (b:=s30) rfl rfl (-0) ?_)
 refine(C11 (.fr [a40 p0]) (wiE m ps lot p0 [p0] none none none none) ?_ ?_ ?_ :)
 ·exact⟨rfl,rfl⟩
 ·rfl
 refine(a00 (V20 (m:=m) ∅ ∅) ?_ :)
 refine w60 (λxs ρ z1=>z1=z/\∃ (F:List Nat) (o4 o5 o6 o7:Option S),Pls m.toNat F/\x40 ps lot xs.length F=x40 ps lot m.toNat [p0]/\ρ=wiE m ps lot p0 F o4 o5 o6 o7) _ ⟨rfl,[p0],none,none,none,none,⟨by simp,λx hx=>by rw[ã.mp hx];exact h0⟩,by rw[É,ù],rfl⟩ ?_ ?_
 ·rintro x r ρ z1 ⟨rfl,F,o4,o5,o6,o7,hF,e,rfl⟩;refine w60 (λxs ρ z2=>z2=z1/\∃ (l G:List Nat) (o4 o5 o6 o7:Option S),xs=l.map a40/\(∀ n∈l,n < ps.length)/\Pls m.toNat G/\rnd ps l G=rnd ps lot F/\ρ=wiE m ps lot p0 G o4 o5 o6 o7) _ ⟨rfl,lot,F,some (.d x),o5,o6,o7,rfl,hl,hF,rfl,(itE (Row.t lot).ba).trans rfl⟩ ?_ ?_
  ·rintro y r' ρ z2 ⟨rfl,l,G,o4,o5,o6,o7,e1,hl1,hG,e2,rfl⟩;cases l with
   |nil=>cases e1
   |cons n l =>
    cases e1;have hn:=hl1 n Ì;have ab:=(g.ab hn).2.2;have rb:=g.rng n hn;have len:=p00 hG;refine(a00 (show m81 (.tup (ps.map pr)) (.int n)=some (pr ((tA ps n:Int),(tB ps n:Int))) from by rw[V91 hn];exact congrArg (λx=>some (pr x)) ab) ?_ :)
    refine h72 (λρ z3=>z3=z2/\∃ (o4 o5:Option S),ρ=wiE m ps lot p0 (W50 G (tA ps n) (tB ps n)) o4 o5 (some (.d (a40 (tA ps n)))) (some (.d (a40 (tB ps n))))) ?_ ?_
    ·have no:∀ h:¬ (tA ps n∈G/\tB ps n ∉ G),W50 G (tA ps n) (tB ps n)=G:=λh=>if_neg h;refine(a00 (O50 (n:=tA ps n) (l:=G)) ?_ :);refine ib (b:=decide (tA ps n∈G)) (λh1=>?_) λh1=>⟨rfl,_,_,by rw[no λh=>of_decide_eq_false h1 h.1];rfl⟩
     refine(a00 (O90 (n:=tB ps n) (l:=G)) ?_ :);refine ib (b:=!decide (tB ps n∈G)) (λh2=>?_) λh2=>⟨rfl,_,_,by rw[no λh=>by rw[decide_eq_false h.2] at h2;cases h2];rfl⟩
     refine(a00 (add_l (a:=G.map a40) (b:=[a40 (tB ps n)]) (by rw[É];show G.length + 1<=1000;omega)) ?_ :)
     rw[k21,show W50 G (tA ps n) (tB ps n)=G++[tB ps n] from if_pos ⟨of_decide_eq_true h1,by simpa using h2⟩]
     exact⟨rfl,_,_,rfl⟩
    ·rintro ρ z3 ⟨rfl,o4,o5,rfl⟩;have hG1:=A80 (a:=tA ps n) (b:=tB ps n) hG rb.2;have Q11:=p00 hG1;have fin:∀ (ρ:Env) (G':List Nat) (o4 o5 o6 o7:Option S),G'=spr ps G n->ρ=wiE m ps lot p0 G' o4 o5 o6 o7->(z3=z3/\∃ (l' G:List Nat) (o4 o5 o6 o7:Option S),List.map a40 l=l'.map a40/\(∀ n∈l',n < ps.length)/\Pls m.toNat G/\rnd ps l' G=rnd ps lot F/\ρ=wiE m ps lot p0 G o4 o5 o6 o7):=λρ G' o4 o5 o6 o7 e he=>⟨rfl,l,G',o4,o5,o6,o7,rfl,λk hk=>hl1 k (È _ hk),by rw[e];exact A80 hG1 rb.1,by rw[e];exact e2,he⟩
     unfold spr at fin;generalize W50 G (tA ps n) (tB ps n)=G1 at fin hG1 Q11;have no:∀ h:¬ (tB ps n∈G1/\tA ps n ∉ G1),G1=W50 G1 (tB ps n) (tA ps n):=λh=>(if_neg h).symm;refine(a00 (O50 (n:=tB ps n) (l:=G1)) ?_ :);refine ib (b:=decide (tB ps n∈G1)) (λh1=>?_) λh1=>fin _ G1 _ _ _ _ (no λh=>of_decide_eq_false h1 h.1) rfl;refine(a00 (O90 (n:=tA ps n) (l:=G1)) ?_ :);refine ib (b:=!decide (tA ps n∈G1)) (λh2=>?_) λh2=>fin _ G1 _ _ _ _ (no λh=>by rw[decide_eq_false h.2] at h2;cases h2) rfl
     refine(a00 (add_l (a:=G1.map a40) (b:=[a40 (tA ps n)]) (by rw[É];show G1.length + 1<=1000;omega)) ?_ :)
     rw[k21];exact fin _ (G1++[tA ps n]) _ _ _ _ (if_pos ⟨of_decide_eq_true h1,by simpa using h2⟩).symm rfl
  ·rintro ρ z2 ⟨rfl,l,G,o4,o5,o6,o7,e1,hl1,hG,e2,rfl⟩;cases l with
   |cons n l=>cases e1
   |nil=>exact⟨rfl,G,_,_,_,_,hG,by rw[show G=rnd ps lot F from e2];exact e,rfl⟩
 ·rintro ρ z1 ⟨rfl,F,o4,o5,o6,o7,hF,e,rfl⟩;have len:=p00 hF;have e:F=x40 ps lot m.toNat [p0]:=e;refine(a00 (d21 (l:=F) ∅) ?_ :)
  rw[← e];exact sd rfl
theorem W80(k:Nat)(g:d00 m ps)(hp:f70 m pl)(hl:∀ n∈lot,n < ps.length)(z:Z):b40 T (k + 4) E40 [.d (q50 m ps),.d (.tup (lot.map a40)),.d (.tup (pl.map a40))] z=some (.ok (.d (.bl (F10 ps m.toNat pl lot))) z):=by
 have hlen:=hp.len g.m6;refine W.ok (g30 (ps:=3) (ns:=4) (b:=s40) rfl rfl (-0) ?_)
 refine(a00 (W01 hp.ne) ?_ :);refine Wo (d31 k g hl hp.p0 z) ?_;refine ip (by rw[É];simp only[most];omega) (h82 (λx=>!decide (z12 x∈x40 ps lot m.toNat [pl.getD 0 0])) (λx=>x) (λy hy=>?_) ?_)
 ·obtain⟨p,hp',rfl⟩:=Ù.mp hy;refine(a00 (O90 (n:=p) (l:=d11 (x40 ps lot m.toNat [pl.getD 0 0]))) ?_ :);refine⟨?_,rfl,λ_=>⟨rfl,rfl⟩⟩;rw[show decide (p∈d11 (x40 ps lot m.toNat [pl.getD 0 0]))=decide (z12 (a40 p)∈x40 ps lot m.toNat [pl.getD 0 0]) from by
   rw[Í4,decide_eq_true_eq,decide_eq_true_eq,(I50 _).mem_iff];rfl]
 ·rw[map_id',List.filter_map];refine(a00 (j12 (O40 _)) ?_ :);refine sb ?_;rw[Í4,← F91 g hp hl,List.isEmpty_map,Ì5,Ç2];constructor
  ·intro h p hpp;have h1:¬ (!decide (p∈x40 ps lot m.toNat [pl.getD 0 0]))=true:=h p hpp;simpa using h1
  ·intro h p hpp;show ¬ (!decide (p∈x40 ps lot m.toNat [pl.getD 0 0]))=true;simpa using h p hpp
theorem W90(k:Nat)(h8:ts.length<=8)(z:Z):b40 T (k + 3) E50 [.d (.tup [.int m,.tup ts])] z=some (.ok (.fr ((x30 ts.length).map r70)) z):=i91 rfl k h8 z
end
theorem X00:∀ {a b:List D},e60 (a++b)=(e60 a&&e60 b)
 |[],b=>rfl
 |x::a,b=>by
  show(n00 x&&e60 (a++b))=((n00 x&&e60 a)&&e60 b);rw[X00,Bool.and_assoc]
theorem X10:∀ {a b:List D},f40 (a++b)=Ð9 (f40 a) (f40 b)
 |[],b=>(Nat.zero_max _).symm
 |x::a,b=>by
  show Ð9 (deep x) (f40 (a++b))=Ð9 (Ð9 (deep x) (f40 a)) (f40 b);rw[X10];exact(Nat.max_assoc _ _ _).symm
theorem k31{a b:List D}(ha:G10 a=true)(hb:G10 b=true):G10 (a++b)=true:=by
 unfold G10 at ha hb ⊢;rw[Á,decide_eq_true_eq] at ha hb ⊢;rw[X00,X10,ha.1,hb.1];exact⟨rfl,ß4.mpr ⟨ha.2,hb.2⟩⟩
theorem M52{l:List D}(h:G10 l=true):okD (.tup l)=true:=by
 unfold G10 at h;unfold okD;rw[Á,decide_eq_true_eq] at h ⊢;exact⟨h.1,by show f40 l + 1<=40;omega⟩
theorem R41{x:D}(h:n00 x=true)(h2:deep x<=39):G10 [x]=true:=by
 unfold G10;rw[Á,decide_eq_true_eq];refine⟨by show(n00 x&&true)=true;rw[h];rfl,?_⟩
 show Ð9 (deep x) 0<=39;exact ß4.mpr ⟨h2,by omega⟩
theorem P00(k:Nat)(x:D)(z:Z):b40 T (k + 3) y30 [.d x] z=some (.ok (.d (.bl (o80 x))) z):=by
 refine W.ok (g30 (ps:=1) (ns:=1) (b:=o70) rfl rfl (-0) ?_)
 cases x with
 |_=>exact sd rfl
theorem G01(h:o80 x=true):∃ i,x=.int i:=by
 cases x with
 |int i=>exact⟨i,rfl⟩|_=>cases h
theorem F80(c:D->Bool):∀ {l:List D},G10 l=true->G10 (l.filter c)=true:=λ{l} h=>by
 unfold G10 at h ⊢;rw[Á,decide_eq_true_eq] at h ⊢
 induction l with
 |nil=>exact h
 |cons x r ih =>
  have h1:(n00 x&&e60 r)=true:=h.1;have h2:Ð9 (deep x) (f40 r)<=39:=h.2;rw[Á] at h1;rw[ß4] at h2;have ih:=ih ⟨h1.2,h2.2⟩;rw[Ñ8];split
  ·refine⟨?_,?_⟩
   ·show(n00 x&&e60 (r.filter c))=true;rw[h1.1,ih.1];rfl
   ·show Ð9 (deep x) (f40 (r.filter c))<=39;exact ß4.mpr ⟨h2.1,ih.2⟩
  ·exact ih
theorem z22(h:G10 l=true):okD (.lst l)=true:=M52 h
def R51:D->Bool
 |.tup l=>G10 l&&decide (l.length<=1000)|_=>true
theorem o91(h:R51 x=true):short x=true:=by
 cases x with
 |tup l =>
  unfold R51 at h;rw[Á] at h;exact h.2
 |_=>rfl
theorem w30:∀ {l:List D},(∀ x∈l,o80 x=true)->∃ ns:List Int,l=ns.map D.int
 |[],_=>⟨[],rfl⟩
 |x::r,h=>by
  obtain⟨i,rfl⟩:=G01 (h x Ì);obtain⟨ns,rfl⟩:=w30 λy hy=>h y (È _ hy);exact⟨i::ns,rfl⟩
theorem G11:∀ {ns:List Int},(∀ x∈ns,0<=x)->∃ l:List Nat,ns.map D.int=l.map a40
 |[],_=>⟨[],rfl⟩
 |x::r,h=>by
  obtain⟨i,rfl⟩:=Ë0 (h x Ì);obtain⟨l,e⟩:=G11 λy hy=>h y (È _ hy);exact⟨i::l,by rw[Å7,Å7,e];rfl⟩
theorem I60:∀ {l:List Nat},(∀ x∈l,x < 8)->C80 (l.map a40)=some l
 |[],_=>rfl
 |x::r,h=>by
  have hx:=h x Ì;show(if 0<=(x:Int)/\(x:Int) < 8 then(C80 (r.map a40)).map ((x:Int).toNat::·) else none)=_;rw[if_pos ∅,I60 λy hy=>h y (È _ hy),Á8];rfl
def dedup(l:List Nat):List Nat:=(ë 8).filter λi=>l.contains i
theorem R61(h:∀ x∈l,x < 8)(hu:l.Pairwise (· < ·)):dedup l=l:=by
 have h2:(dedup l).Pairwise (· < ·):=Ê9 _ È5;refine È7 (le:=λa b=>a < b) (λa b _ _ h1 h2=>by omega) h2 hu ?_
 refine(Þ4 (h2.imp λh=>by omega) (hu.imp λh=>by omega)).mpr λx=>?_
 unfold dedup;rw[mem_filter,mem_range];constructor
 ·exact λhx=>by simpa using hx.2
 ·exact λhx=>⟨h x hx,by simpa using hx⟩
theorem X20:∀ {l:List Nat},M41 (l.map a40) (l.map a40)=true
 |[]=>rfl
 |x::r=>by
  show((x:Int) == (x:Int)&&M41 (r.map a40) (r.map a40))=true;rw[beq_self_eq_true,X20];rfl
theorem W91:∀ {l:List Nat},V90 (l.map a40)=true->l.Pairwise (· < ·)
 |[],_=>.nil|[_],_=>.cons (λ_ h=>nomatch h) .nil
 |x::y::r,h=>by
  have h:(decide ((x:Int) < y)&&V90 ((y::r).map a40))=true:=h;rw[Á,decide_eq_true_eq] at h;have ih:=W91 (l:=y::r) h.2;refine .cons (λz hz=>?_) ih;rcases ú.mp hz with rfl | hz
  ·omega
  ·have:=(Ê6.mp ih).1 z hz;omega
theorem R71(k:Nat)(m6:m<=6)(h:R51 x=true)(z:Z):∃ b,b40 T (k + 4) m00 [.d (.int m),.d x] z=some (.ok (.d (.bl b)) z)/\(b=false->H21 m x=false)/\(b=true->∃ l,x=.tup l):=by
 have no:∀ {x:D},(∀ l,x≠.tup l)->T61 .tuple x=false->∃ b,b40 T (k + 4) m00 [.d (.int m),.d x] z=some (.ok (.d (.bl b)) z)/\(b=false->H21 m x=false)/\(b=true->∃ l,x=.tup l):=λ{x} h1 h2=>by
  refine⟨false,W.ok (g30 (ps:=2) (ns:=2) (b:=e40) rfl rfl (-0) ?_),λ_=>?_,λh=>nomatch h⟩
  ·refine it (b:=!T61 .tuple x) (by rw[h2];rfl) ?_
   exact sd rfl
  ·cases x with
   |tup l=>exact absurd rfl (h1 l)|_=>rfl
 cases x with
 |tup l =>
  unfold R51 at h;rw[Á,decide_eq_true_eq] at h;by_cases hw:(l.filter λx=>!o80 x)=[]
  ·have hw':∀ x∈l,o80 x=true:=λx hx=>by
    have:=Ç2.mp hw x hx;simpa using this
   obtain⟨ns,rfl⟩:=w30 hw';by_cases hr:((ns.map D.int).filter λx=>!b90 x m)=[]
   ·have hr':∀ x∈ns,0<=x/\x < m:=λx hx=>by
     have:=Ç2.mp hr _ (Ù.mpr ⟨x,hx,rfl⟩);unfold b90 at this;simpa using this
    obtain⟨ps,e⟩:=G11 λx hx=>(hr' x hx).1;have hlt:∀ p∈ps,p < 8:=λp hp=>by
     have:a40 p∈ns.map D.int:=by rw[e];exact Ù.mpr ⟨p,hp,rfl⟩
     obtain⟨i,hi,e2⟩:=Ù.mp this;have h1:=hr' i hi;have e3:i=(p:Int):=by injection e2
     omega
    refine⟨M41 (ps.map a40) ((dedup ps).map a40),W.ok (g30 (ps:=2) (ns:=2) (b:=e40) rfl rfl (-0) ?_),λhb=>?_,λ_=>⟨_,rfl⟩⟩
    ·refine ip (s60 h.2) (h82 (λx=>!o80 x) (λx=>x) (λx hx=>?_) ?_)
     ·exact Wo (P00 k x z) ⟨rfl,rfl,λ_=>⟨rfl,rfl⟩⟩
     ·rw[hw];refine ip (s60 h.2) (h82 (λx=>!b90 x m) (λx=>x) (λx hx=>?_) ?_)
      ·obtain⟨i,hi,rfl⟩:=Ù.mp hx;have h1:=hr' i hi;refine it (b:=decide ((0:Int)<=i)) (decide_eq_true h1.1) ?_;refine⟨?_,rfl,λ_=>⟨rfl,rfl⟩⟩;show S.d (.bl (!decide (i < m)))=S.d (.bl (!(decide (0<=i)&&decide (i < m))));rw[decide_eq_true h1.1];rfl
      ·rw[hr,e];refine(a00 (o:=Option.bind (m71 (.tup (ps.map a40))) λl=>(C80 l).map λns=>S.fr (((ë 8).filter λi=>ns.contains i).map λ(n:Nat)=>.int n)) (a:=.fr ((dedup ps).map a40)) (by show(C80 (ps.map a40)).map _=_;rw[I60 hlt];rfl) ?_ :)
       refine(a00 (o:=eqQ (.lst (ps.map a40)) (.lst ((dedup ps).map a40))) (a:=M41 (ps.map a40) ((dedup ps).map a40)) (by unfold eqQ;rw[O40,O40];rfl) ?_ :)
       exact sd rfl
    ·cases hp:H21 m (.tup (ns.map D.int)) with
     |false=>rfl
     |true =>
      exfalso;rw[e] at hp;unfold H21 at hp;rw[Á,Á] at hp;have up:=W91 hp.1.2;rw[R61 hlt up,X20] at hb;cases hb
   ·refine⟨false,W.ok (g30 (ps:=2) (ns:=2) (b:=e40) rfl rfl (-0) ?_),λ_=>?_,λh=>nomatch h⟩
    ·refine ip (s60 h.2) (h82 (λx=>!o80 x) (λx=>x) (λx hx=>?_) ?_)
     ·exact Wo (P00 k x z) ⟨rfl,rfl,λ_=>⟨rfl,rfl⟩⟩
     ·rw[hw];refine ip (s60 h.2) (h82 (λx=>!b90 x m) (λx=>x) (λx hx=>?_) ?_)
      ·obtain⟨i,hi,rfl⟩:=Ù.mp hx;refine ib (b:=decide ((0:Int)<=i)) (λh1=>?_) λh1=>?_
       ·refine⟨?_,rfl,λ_=>⟨rfl,rfl⟩⟩;show S.d (.bl (!decide (i < m)))=S.d (.bl (!(decide (0<=i)&&decide (i < m))));rw[h1];rfl
       ·refine⟨?_,rfl,λ_=>⟨rfl,rfl⟩⟩;show S.d (.bl (!false))=S.d (.bl (!(decide (0<=i)&&decide (i < m))));rw[h1];rfl
      ·rw[map_id'];refine(a00 (ne_nil (z22 (F80 _ h.1))) ?_ :);refine it (b:=!((ns.map D.int).filter λx=>!b90 x m).isEmpty) ?_ ?_
       ·cases hh:(ns.map D.int).filter λx=>!b90 x m with
        |nil=>exact absurd hh hr|cons _ _=>rfl
       ·exact sd rfl
    ·show((ns.map D.int).all (λx=>b90 x m)&&V90 (ns.map D.int)&&!(ns.map D.int).isEmpty)=false;have:(ns.map D.int).all (λx=>b90 x m)=false:=by
      cases ha:(ns.map D.int).all (λx=>b90 x m) with
      |false=>rfl|true=>exact absurd (Ç2.mpr λx hx=>by rw[Õ.mp ha x hx];decide) hr
     rw[this];rfl
  ·refine⟨false,W.ok (g30 (ps:=2) (ns:=2) (b:=e40) rfl rfl (-0) ?_),λ_=>?_,λh=>nomatch h⟩
   ·refine ip (s60 h.2) (h82 (λx=>!o80 x) (λx=>x) (λx hx=>?_) ?_)
    ·exact Wo (P00 k x z) ⟨rfl,rfl,λ_=>⟨rfl,rfl⟩⟩
    ·rw[map_id'];refine(a00 (ne_nil (z22 (F80 _ h.1))) ?_ :);refine it (b:=!(l.filter λx=>!o80 x).isEmpty) ?_ ?_
     ·cases hh:l.filter λx=>!o80 x with
      |nil=>exact absurd hh hw|cons _ _=>rfl
     ·exact sd rfl
   ·show(l.all (λx=>b90 x m)&&V90 l&&!l.isEmpty)=false;have:l.all (λx=>b90 x m)=false:=by
     cases ha:l.all (λx=>b90 x m) with
     |false=>rfl
     |true=>exact absurd (Ç2.mpr λx hx=>by
       obtain⟨i,rfl,_⟩:=i70 (Õ.mp ha x hx);exact λh=>nomatch h) hw
    rw[this];rfl
 |_=>exact no (λl h=>nomatch h) rfl
theorem A90(l:List Nat)(lo hi:Option Int):∃ l':List Nat,cutD (l.map a40) lo hi=l'.map a40/\l'.length<=l.length:=by
 unfold cutD;refine⟨(l.drop _).take _,by rw[← List.map_drop,← List.map_take],?_⟩
 rw[Æ7,Í2];omega
theorem d41{a b:List Nat}(ha:a.length<=10)(hb:b.length<=10)(hx:(n00 x&&decide (deep x<=39))=true):R51 (.tup (a.map a40++[x]++b.map a40))=true:=by
 rw[Á,decide_eq_true_eq] at hx;show(G10 (a.map a40++[x]++b.map a40)&&decide ((a.map a40++[x]++b.map a40).length<=1000))=true;rw[k31 (k31 (v00 a) (R41 hx.1 hx.2)) (v00 b)];refine decide_eq_true ?_;rw[Á9,Q11,É,É];omega
theorem P10{a:List Nat}(ha:a.length<=100):R51 (.tup (a.map a40))=true:=by
 show(G10 (a.map a40)&&decide ((a.map a40).length<=1000))=true;rw[v00 a];exact decide_eq_true (by rw[É];omega)
theorem G21(l:List Nat):(n00 (.tup (l.map a40))&&decide (deep (.tup (l.map a40))<=39))=true:=by
 have e:l.map a40=(l.map λ(n:Nat)=>(n:Int)).map D.int:=by rw[ó];rfl
 obtain⟨h1,h2⟩:=N50 (l.map λ(n:Nat)=>(n:Int));show(e60 (l.map a40)&&decide (f40 (l.map a40) + 1<=39))=true;rw[e,h1,h2];rfl
theorem P20(k:Nat){m:Int}(m1:1<=m)(m6:m<=6){pl:List Nat}(hl:pl.length<=6)(hz:ZI z):W (b40 T (k + 4) j70 [.z,.d (.int m),.d (.tup (pl.map a40))]) z (λs z1=>ZI z1/\∃ x,s=.d x/\R51 x=true) NE:=by
 have hll:(pl.map a40).length=pl.length:=É _;refine i02 hz (ps:=3) (ns:=6) (b:=f20) rfl rfl (-0) ?_
 refine(e20 k (((pl.map a40).length:Int) + 1) hz ∅ ∅).imp λs z1 ⟨hz1,a,e,a1⟩=>?_
 subst e;refine(e20 k (m + 1) hz1 ∅ ∅).imp λs z2 ⟨hz2,w,e,w1⟩=>?_
 subst e;refine(e20 k 10 hz2 (-0) (-0)).imp λs z3 ⟨hz3,v,e,v1⟩=>?_
 subst e;refine(D41 (n:=v) (λx=>n00 x&&decide (deep x<=39)) ?_ ?_ ?_ :)
 ·show v < 10;omega
 ·have hs:(n00 (.str "0")&&decide (deep (.str "0")<=39))=true:=by decide +kernel
  show List.all [D.int w,.int m,.int (-1),.bl true,.non,.str "0",.tup [.int 0],.bl false,.int ((10:Int) ^ (29:Int).toNat),.int 0] (λx=>n00 x&&decide (deep x<=39))=true;refine Õ.mpr λy hy=>?_;simp only[Â9,À1,or_false] at hy;rcases hy with rfl | rfl | rfl | rfl | rfl | rfl | rfl | rfl | rfl | rfl
  ·rfl
  ·rfl
  ·rfl
  ·rfl
  ·rfl
  ·exact hs
  ·rfl
  ·rfl
  ·rfl
  ·rfl
 ·intro x hx;obtain⟨l1,e1,c1⟩:=A90 pl none (some (a:Int));obtain⟨l2,e2,c2⟩:=A90 pl (some (a:Int)) none;obtain⟨l3,e3,c3⟩:=A90 pl (some ((a:Int) + 1)) none;obtain⟨l4,e4,c4⟩:=A90 pl (some (-1)) none;have t1:z50 .add (.tup (cutD (pl.map a40) none (some (a:Int)))) (.tup [x])=some (.d (.tup (l1.map a40++[x]))):=by rw[e1];exact o61 (by rw[É];show _ + 1<=_;omega)
  refine(a00 t1 ?_ :);refine(a00 (show z50 .add (.tup (l1.map a40++[x])) (.tup (cutD (pl.map a40) (some (a:Int)) none))=some (.d (.tup (l1.map a40++[x]++l2.map a40))) from by rw[e2];exact o61 (by rw[Q11,É,É];omega)) ?_ :)
  refine(a00 t1 ?_ :);refine(a00 (show z50 .add (.tup (l1.map a40++[x])) (.tup (cutD (pl.map a40) (some ((a:Int) + 1)) none))=some (.d (.tup (l1.map a40++[x]++l3.map a40))) from by rw[e3];exact o61 (by rw[Q11,É,É];omega)) ?_ :)
  refine(a00 (show z50 .add (.tup (cutD (pl.map a40) none (some (a:Int)))) (.tup (cutD (pl.map a40) (some ((a:Int) + 1)) none))=some (.d (.tup (l1.map a40++l3.map a40))) from by rw[e1,e3];exact o61 (by rw[É,É];omega)) ?_ :)
  refine(a00 (show z50 .add (.tup (pl.map a40)) (.tup (cutD (pl.map a40) (some (-1)) none))=some (.d (.tup (pl.map a40++l4.map a40))) from by rw[e4];exact o61 (by rw[É,É];omega)) ?_ :)
  refine(e20 k 11 hz3 (-0) (-0)).imp λs z4 ⟨hz4,u,e,u1⟩=>?_
  subst e;refine(D41 (L:=[.tup (l1.map a40++[x]++l2.map a40),.tup (l1.map a40++[x]++l3.map a40),.tup (l1.map a40++l3.map a40),.lst (pl.map a40),.tup (pl.map a40).reverse,.tup (pl.map a40++l4.map a40),.non,.dct,.int 0,.tup [.tup (pl.map a40)],.tup []]) (n:=u) R51 ?_ ?_ ?_ :)
  ·show u < 11;omega
  ·rw[← Ç5,← Ç5,← List.map_reverse];simp only[Ã9,all_nil,Ñ1,Á];refine⟨d41 ∅ ∅ hx,d41 ∅ ∅ hx,P10 (by rw[Á9];omega),rfl,P10 (by rw[Ì0];omega),P10 (by rw[Á9];omega),rfl,rfl,rfl,d41 (a:=[]) (b:=[]) (-0) (-0) (G21 pl),rfl⟩
  ·exact λy hy=>⟨hz4,y,rfl,hy⟩
theorem X30(k:Nat)(hz:ZI z):W (b40 T (k + 4) j80 [.z,.d (.tup [])]) z (λs z1=>ZI z1/\∃ x,s=.d x/\chD x=false) NE:=by
 refine i02 hz (ps:=2) (ns:=5) (b:=f30) rfl rfl (-0) ?_
 refine(e20 k 1 hz (-0) (-0)).imp λs z1 ⟨hz1,a,e,a1⟩=>?_
 subst e;have a0:a=0:=by omega
 subst a0;refine(e20 k 13 hz1 (-0) (-0)).imp λs z2 ⟨hz2,v,e,v1⟩=>?_
 subst e;refine(D41 (n:=v) (λ_=>true) ?_ ?_ ?_ :)
 ·show v < 13;omega
 ·rfl
 ·intro x hx;refine(e20 k 5 hz2 (-0) (-0)).imp λs z3 ⟨hz3,u,e,u1⟩=>?_
  subst e;refine(D41 (L:=[.tup [x],.tup [.tup [.int 1,.int 2]],.lst [],.non,.dct]) (n:=u) (λx=>!chD x) ?_ ?_ ?_ :)
  ·show u < 5;omega
  ·rfl
  ·exact λy hy=>⟨hz3,y,rfl,by simpa using hy⟩
theorem X01(hB:0 < B)(hE:0 < E):(j50 C E).1 * (j50 A B).2 < (j50 A B).1 * (j50 C E).2↔C * B < A * E:=by
 have h1:=Rt.low (t:=A) hB;have h2:=Rt.low (t:=C) hE;generalize j50 A B=v at h1 ⊢;generalize j50 C E=w at h2 ⊢;have e1:=h1.eq;have e2:=h2.eq;have p1:0 < B * E:=Ï2 hB hE;have p2:0 < v.2 * w.2:=Ï2 h1.b0 h2.b0;have k1:(w.1 * v.2) * (B * E)=(C * B) * (v.2 * w.2):=by
  calc (w.1 * v.2) * (B * E)=(w.1 * E) * (v.2 * B):=by grind
   _=(C * B) * (v.2 * w.2):=by rw[e2];grind
 have k2:(v.1 * w.2) * (B * E)=(A * E) * (v.2 * w.2):=by
  calc (v.1 * w.2) * (B * E)=(v.1 * B) * (w.2 * E):=by grind
   _=(A * E) * (v.2 * w.2):=by rw[e1];grind
 constructor
 ·intro h;refine ß7 (a:=v.2 * w.2) ?_ (Ô2 p2);rw[← k1,← k2];exact Þ5 h p1
 ·intro h;refine ß7 (a:=B * E) ?_ (Ô2 p1);rw[k1,k2];exact Þ5 h p2
def j52(l:Int):Int:=(if decide (0 < l)=true then 1 else 0) - (if decide (l < 0)=true then 1 else 0)
theorem G31(hc:IsC c):∀ j:Nat,0<=amt (λ_=>c) j lot/\amt (λ_=>c) j lot<=2 ^ (10 * j)
 |0=>by show(0:Int)<=1/\(1:Int)<=1;omega
 |j + 1=>by
  obtain⟨h1,h2⟩:=G31 hc (lot:=lot) j;obtain⟨w1,w2⟩:=hc.w (j∈lot);rw[u90];refine⟨Int.mul_nonneg h1 w1,?_⟩;rw[Nat.mul_add,Int.pow_add];exact Int.mul_le_mul h2 ∅ w1 (by have:=Int.le_trans h1 h2;exact this)
theorem k41(hc:IsC c)(hj:j<=8):(amt (λ_=>c) j lot).natAbs<=2 ^ 90:=by
 obtain⟨h1,h2⟩:=G31 hc (lot:=lot) j;have h3:(2:Int) ^ (10 * j)<=2 ^ 90:=by
  have:2 ^ (10 * j)<=2 ^ 90:=û (-0) ∅
  exact_mod_cast this
 have:amt (λ_=>c) j lot<=2 ^ 90:=Int.le_trans h2 h3;omega
theorem ab9{v:Int}(h0:0<=v)(h1:v<=1000):v.natAbs<=2 ^ 90:=by
 have e9:1000<=2 ^ 90:=by decide
 omega
section
variable {m m':Int}{ps ps':List (Int × Int)}{pl pl':List Nat}{c:Int × Int}
abbrev P50(m:Int)(ps:List (Int × Int))(pl:List Nat)(c:Int × Int):Int:=H31 (k00 m ps pl) (amt (λ_=>c) ps.length)
theorem d51(g:d00 m ps)(hc:IsC c):A82 m ps pl c=j50 (P50 m ps pl c) (c.2 ^ ps.length):=by unfold A82;rw[R21 g hc]
theorem G41(g:d00 m ps)(hc:IsC c):(P50 m ps pl c).natAbs<=2 ^ 98:=by
 have:∀ ls:List (List Nat),(H31 ls (amt (λ_=>c) ps.length)).natAbs<=ls.length * 2 ^ 90:=λls=>by
  induction ls with
  |nil=>exact Æ1 _
  |cons l r ih =>
   show(amt (λ_=>c) ps.length l + H31 r _).natAbs<=_;refine Ñ F11 ?_;rw[Û,Nat.add_mul,Nat.one_mul,Nat.add_comm];exact ß5 ih (k41 hc g.len)
 refine Ñ (this _) ?_;rw[show 2 ^ 98=256 * 2 ^ 90 by decide]
 exact Nat.mul_le_mul_right _ (I40 g)
theorem X11(g:d00 m ps)(hc:IsC c):Bs 100 (A82 m ps pl c):=by
 have h8:=g.len;rw[d51 g hc];have hb:=i80 hc ps.length;exact .low hb.2 (Ñ (G41 g hc) (-0)) (Ñ hb.1 (û (-0) ∅))
theorem I70(k:Nat)(g:d00 m ps)(hp:f70 m pl)(g':d00 m' ps')(hp':f70 m' pl')(hc:IsC c)(z:Z):b40 T (k + 13) b50 [.d (q50 m ps),.d (.tup (pl.map a40)),.d (q50 m' ps'),.d (.tup (pl'.map a40)),.d (pr c)] z=some (.ok (.d (.int (j52 (P50 m ps pl c * c.2 ^ ps'.length - P50 m' ps' pl' c * c.2 ^ ps.length)))) z):=by
 have hb:=(i80 hc ps.length).2;have hb':=(i80 hc ps'.length).2;have b1:=X11 g hc (pl:=pl);have b2:=X11 g' hc (pl:=pl');have l1:=X01 (A:=P50 m ps pl c) (C:=P50 m' ps' pl' c) hb hb';have l2:=X01 (A:=P50 m' ps' pl' c) (C:=P50 m ps pl c) hb' hb;rw[← d51 g hc,← d51 g' hc] at l1 l2;refine W.ok (g30 (ps:=5) (ns:=7) (b:=d20) rfl rfl (-0) (Wo (v60 (k + 3) g hp g' hp' z) (Wo (F70 k g hp hc z) (Wo (F70 k g' hp' hc z) (Wo (I20 (k + 9) b2 b1 (-0) z) ?_)))))
 generalize P50 m ps pl c=A at l1 l2 ⊢;generalize P50 m' ps' pl' c=C at l1 l2 ⊢;generalize c.2 ^ ps.length=B at l1 l2 ⊢;generalize c.2 ^ ps'.length=E at l1 l2 ⊢;refine ib (b:=decide _) (λh=>?_) λh=>?_
 ·have h:=l1.mp (of_decide_eq_true h);refine sd ?_;unfold j52;rw[decide_eq_true (by omega:0 < A * E - C * B),decide_eq_false (by omega:¬ A * E - C * B < 0)];rfl
 ·have h:¬ C * B < A * E:=λq=>of_decide_eq_false h (l1.mpr q);refine Wo (I20 (k + 9) b1 b2 (-0) z) ?_
  refine ib (b:=decide _) (λh'=>?_) λh'=>?_
  ·have h':=l2.mp (of_decide_eq_true h');refine sd ?_;unfold j52;rw[decide_eq_false (by omega:¬ 0 < A * E - C * B),decide_eq_true (by omega:A * E - C * B < 0)];rfl
  ·have h':¬ A * E < C * B:=λq=>of_decide_eq_false h' (l2.mpr q);refine sd ?_;unfold j52;rw[decide_eq_false (by omega:¬ 0 < A * E - C * B),decide_eq_false (by omega:¬ A * E - C * B < 0)];rfl
theorem G51(k:Nat)(hw:p51 w=false)(z:Z):b40 T (k + 13) b50 [.d w,.d y,.d w',.d y',.d x] z=some (.er 0 z) :=
 W.er (g30 (ps:=5) (ns:=7) (b:=d20) rfl rfl (-0) (We (W.er (g30 (k:=k + 9) (ps:=4) (ns:=4) (b:=e10) rfl rfl (-0) (We (y40 (k + 3) z hw) ⟨rfl,c30 z⟩))) ⟨rfl,c30 z⟩))
theorem p01(k:Nat)(g:d00 m ps)(hw:p51 w'=false)(z:Z):b40 T (k + 13) b50 [.d (q50 m ps),.d y,.d w',.d y',.d x] z=some (.er 0 z) :=
 W.er (g30 (ps:=5) (ns:=7) (b:=d20) rfl rfl (-0) (We (W.er (g30 (k:=k + 9) (ps:=4) (ns:=4) (b:=e10) rfl rfl (-0) (Wo (c40 (k + 3) z g.web) (We (y40 (k + 3) z hw) ⟨rfl,c30 z⟩)))) ⟨rfl,c30 z⟩))
theorem G61(k:Nat)(g:d00 m ps)(g':d00 m' ps')(hy:H21 m y=false)(hs:short y=true)(z:Z):b40 T (k + 13) b50 [.d (q50 m ps),.d y,.d (q50 m' ps'),.d y',.d x] z=some (.er 2 z) :=
 W.er (g30 (ps:=5) (ns:=7) (b:=d20) rfl rfl (-0) (We (W.er (g30 (k:=k + 9) (ps:=4) (ns:=4) (b:=e10) rfl rfl (-0) (Wo (c40 (k + 3) z g.web) (Wo (c40 (k + 3) z g'.web) (We (o90 (k + 5) (t:=.tup (ps.map pr)) z hy hs) ⟨rfl,c30 z⟩))))) ⟨rfl,c30 z⟩))
theorem p11(k:Nat)(g:d00 m ps)(hp:f70 m pl)(g':d00 m' ps')(hy:H21 m' y'=false)(hs:short y'=true)(z:Z):b40 T (k + 13) b50 [.d (q50 m ps),.d (.tup (pl.map a40)),.d (q50 m' ps'),.d y',.d x] z=some (.er 2 z):=by
 have h6:=hp.len g.m6;exact W.er (g30 (ps:=5) (ns:=7) (b:=d20) rfl rfl (-0) (We (W.er (g30 (k:=k + 9) (ps:=4) (ns:=4) (b:=e10) rfl rfl (-0) (Wo (c40 (k + 3) z g.web) (Wo (c40 (k + 3) z g'.web) (Wo (d10 (k + 5) (t:=.tup (ps.map pr)) z hp.pls (decide_eq_true (by rw[É];omega))) (We (o90 (k + 5) (t:=.tup (ps'.map pr)) z hy hs) ⟨rfl,c30 z⟩)))))) ⟨rfl,c30 z⟩))
theorem G71(k:Nat)(g:d00 m ps)(hp:f70 m pl)(g':d00 m' ps')(hp':f70 m' pl')(hx:chD x=false)(z:Z):b40 T (k + 13) b50 [.d (q50 m ps),.d (.tup (pl.map a40)),.d (q50 m' ps'),.d (.tup (pl'.map a40)),.d x] z=some (.er 5 z) :=
 W.er (g30 (ps:=5) (ns:=7) (b:=d20) rfl rfl (-0) (Wo (v60 (k + 3) g hp g' hp' z) (We (o81 k g hp hx z) ⟨rfl,c30 z⟩)))
abbrev atE(m:Int)(ps:List (Int × Int))(pl:List Nat)(c:Int × Int)(v5 v6:Int)(o7 o8 o9:Option S):Env:=[some (.d (q50 m ps)),some (.d (.tup (pl.map a40))),some (.d (pr c)),some (.d (.int c.1)),some (.d (.int c.2)),some (.d (.int v5)),some (.d (.int v6)),o7,o8,o9]
theorem X40(k:Nat)(g:d00 m ps)(hp:f70 m pl)(hc:IsC c)(z:Z):b40 T (k + 5) E60 [.d (q50 m ps),.d (.tup (pl.map a40)),.d (pr c)] z=some (.ok (.d (pr (P50 m ps pl c,c.2 ^ ps.length))) z):=by
 have h8:=g.len;refine W.ok (g30 (ps:=3) (ns:=10) (b:=E90) rfl rfl (-0) ?_)
 refine(a00 (c51 (n:=(ps.map pr).length) (by rw[É];omega)) ?_ :)
 refine w60 (λxs ρ z1=>z1=z/\∃ (j r:Nat) (o7:Option S),j + r=ps.length/\xs=(Â8 j r).map a40/\ρ=atE m ps pl c 0 (c.2 ^ j) o7 none none) _ ⟨rfl,0,ps.length,none,Î9 _,by rw[É],by rw[Ð2];rfl⟩ ?_ ?_
 ·rintro x r ρ z1 ⟨rfl,j,r',o7,hj,e,rfl⟩;cases r' with
  |zero=>cases e
  |succ r' =>
   rw[Â0] at e;cases e;refine(a00 (F30 (n:=90) (-0) (Ñ (i80 hc j).1 (û (-0) ∅)) (Ñ hc.s.b (-0))) ?_ :)
   exact⟨rfl,j + 1,r',_,by omega,rfl,by rw[Ã5];rfl⟩
 ·rintro ρ z1 ⟨rfl,j,r',o7,hj,e,rfl⟩;cases r' with
  |succ r'=>rw[Â0] at e;cases e
  |zero =>
   have hj:j=ps.length:=hj;subst hj;refine Wo (W90 (k + 1) (m:=m) (ts:=ps.map pr) (by rw[É];exact h8) z1) ?_
   rw[É];refine w60 (λxs ρ z2=>z2=z1/\∃ (rest:List (List Nat)) (v5:Int) (o7 o8 o9:Option S),xs=rest.map r70/\(∀ l∈rest,l∈x30 ps.length)/\v5 + H31 (rest.filter (F10 ps m.toNat pl)) (amt (λ_=>c) ps.length)=P50 m ps pl c/\ρ=atE m ps pl c v5 (c.2 ^ ps.length) o7 o8 o9) _ ⟨rfl,x30 ps.length,0,_,_,_,rfl,λ_ h=>h,Ô0 _,rfl⟩ ?_ ?_
   ·rintro x r ρ z2 ⟨rfl,rest,v5,o7,o8,o9,e,hr,hv,rfl⟩;cases rest with
    |nil=>cases e
    |cons l rest =>
     cases e;have hl:=hr l Ì;refine Wo (W80 k g hp (E01 h8 hl) z2) ?_;refine ib (b:=F10 ps m.toNat pl l) (λhg=>?_) λhg=>?_
     ·refine(a00 (c51 (n:=(ps.map pr).length) (by rw[É];omega)) ?_ :)
      refine w60 (λxs ρ z3=>z3=z2/\∃ (j r:Nat) (o7:Option S),j + r=ps.length/\xs=(Â8 j r).map a40/\ρ=atE m ps pl c v5 (c.2 ^ ps.length) o7 (some (.d (r70 l))) (some (.d (.int (amt (λ_=>c) j l))))) _ ⟨rfl,0,ps.length,_,Î9 _,by rw[É],rfl⟩ ?_ ?_
      ·rintro x r ρ z3 ⟨rfl,j,r',o7,hj,e,rfl⟩;cases r' with
       |zero=>cases e
       |succ r' =>
        rw[Â0] at e;cases e;refine(a00 (O50 (n:=j) (l:=l)) ?_ :);have hw:=hc.w (j∈l);have st:∀ v:Int,v=(if j∈l then c.1 else c.2 - c.1)->Get (z50 .mul (.int (amt (λ_=>c) j l)) (.int v)) λs=>s=S.d (.int (amt (λ_=>c) (j + 1) l)):=λv ev=>by
         refine a00 (F30 (n:=90) (-0) (k41 hc ∅) (ab9 (by rw[ev];exact hw.1) (by rw[ev];exact hw.2))) ?_
         rw[u90,ev]
        refine ib (b:=decide (j∈l)) (λh=>?_) λh=>?_
        ·obtain⟨s,e1,rfl⟩:=h30 (st c.1 (if_pos (of_decide_eq_true h)).symm);refine(a00 e1 ?_ :);exact⟨rfl,j + 1,r',_,by omega,rfl,rfl⟩
        ·obtain⟨s,e1,rfl⟩:=h30 (st (c.2 - c.1) (if_neg (of_decide_eq_false h)).symm);refine(a00 e1 ?_ :);exact⟨rfl,j + 1,r',_,by omega,rfl,rfl⟩
      ·rintro ρ z3 ⟨rfl,j,r',o7,hj,e,rfl⟩;cases r' with
       |succ r'=>rw[Â0] at e;cases e
       |zero =>
        have hj:j=ps.length:=hj;subst hj;refine⟨rfl,rest,v5 + amt (λ_=>c) ps.length l,_,_,_,rfl,λl' h'=>hr l' (È _ h'),?_,rfl⟩;rw[Ñ8,if_pos hg] at hv;rw[← hv];show _=v5 + (amt (λ_=>c) ps.length l + H31 _ _);omega
     ·refine⟨rfl,rest,v5,_,_,_,rfl,λl' h'=>hr l' (È _ h'),?_,rfl⟩;rw[Ñ8,if_neg (by rw[hg];decide)] at hv
      exact hv
   ·rintro ρ z2 ⟨rfl,rest,v5,o7,o8,o9,e,hr,hv,rfl⟩;cases rest with
    |cons l rest=>cases e
    |nil =>
     refine sd ?_;rw[← hv];show S.d (.tup [.int v5,.int (c.2 ^ ps.length)])=S.d (.tup [.int (v5 + 0),.int (c.2 ^ ps.length)]);rw[add_zero]
abbrev lE(ns:List Int)(j:Nat)(m m':Int)(ps ps':List (Int × Int))(pl pl':List Nat)(o7 o8 o9 o10 o11 o12 o13 o14:Option S):Env:=[some (.d (.lst (ns.map D.int))),some (.d (.int j)),some .z,some (.d (q50 m ps)),some (.d (q50 m' ps')),some (.d (.tup (pl.map a40))),some (.d (.tup (pl'.map a40))),o7,o8,o9,o10,o11,o12,o13,o14]
abbrev bIn(n:Nat):Sm:=match P81 with
 |.seq (.fr _ _ _ b) _=>Nat.rec b (λ_ r=>tl r) n|_=>.nil
theorem j62(l:Int):0 - j52 l=j52 (-l):=by
 unfold j52;by_cases h1:0 < l
 ·rw[decide_eq_true h1,decide_eq_false (by omega:¬ l < 0),decide_eq_false (by omega:¬ 0 < -l),decide_eq_true (by omega:-l < 0)];rfl
 ·by_cases h2:l < 0
  ·rw[decide_eq_false h1,decide_eq_true h2,decide_eq_true (by omega:0 < -l),decide_eq_false (by omega:¬ -l < 0)];rfl
  ·rw[decide_eq_false h1,decide_eq_false h2,decide_eq_false (by omega:¬ 0 < -l),decide_eq_false (by omega:¬ -l < 0)];rfl
theorem X92:IsC (1,2):=⟨by decide,by decide,by decide,by decide,by decide⟩
theorem R81(k:Nat)(g:d00 m ps)(hp:f70 m pl)(g':d00 m' ps')(hp':f70 m' pl')(hz:ZI z)
  (q:∀ (z:Z) (o7 o8 o9 o10 o11 o12 o13 o14:Option S),ZI z->WS (T00 T (k + 37 + 2)) true (bIn 4) (lE ns j m m' ps ps' pl pl' o7 o8 o9 o10 o11 o12 o13 o14) z Q E) :
  WS (T00 T (k + 37 + 2)) true (bIn 3) (lE ns j m m' ps ps' pl pl' o7 o8 o9 o10 o11 o12 o13 o14) z Q E:=by
 refine(V80 (k + 35) hz).imp λs z1 ⟨hz1,c,e,hc⟩=>?_;subst e;refine w60 (λxs ρ z2=>z2=z1/\(∀ x∈xs,∃ d,x=pr d/\IsC d)/\∃ (o7 o8 o9 o10 o11 o12 o13 o14:Option S),ρ=lE ns j m m' ps ps' pl pl' o7 o8 o9 o10 o11 o12 o13 o14) _ ⟨rfl,λx hx=>?_,_,_,_,_,_,_,_,_,(itE (by rfl)).trans rfl⟩ ?_ ?_
 ·have hx:x∈[pr c,pr (1,2),pr (0,1)]:=hx;simp only[Â9,À1,or_false] at hx;rcases hx with rfl | rfl | rfl
  ·exact⟨c,rfl,hc⟩
  ·exact⟨_,rfl,X92⟩
  ·exact⟨_,rfl,X82⟩
 ·rintro x r ρ z2 ⟨rfl,hx,o7,o8,o9,o10,o11,o12,o13,o14,rfl⟩;obtain⟨d,rfl,hd⟩:=hx x Ì;have hB:=i80 hd ps.length;have hE:=i80 hd ps'.length;have h8:=g.len;have h8':=g'.len;have pB:(d.2 ^ ps.length).natAbs<=2 ^ 98:=Ñ hB.1 (û (-0) ∅)
  have pE:(d.2 ^ ps'.length).natAbs<=2 ^ 98:=Ñ hE.1 (û (-0) ∅)
  refine Wo (X40 (k + 34) g hp hd z2) (Wo (X40 (k + 34) g' hp' hd z2) ?_);have c1:=I70 (k + 26) g hp g' hp' hd z2;have c2:=I70 (k + 26) g' hp' g hp hd z2;have t1:=G41 g hd (pl:=pl);have t2:=G41 g' hd (pl:=pl');rw[show P50 m' ps' pl' d * d.2 ^ ps.length - P50 m ps pl d * d.2 ^ ps'.length=-(P50 m ps pl d * d.2 ^ ps'.length - P50 m' ps' pl' d * d.2 ^ ps.length) from by omega,← j62] at c2
  generalize P50 m ps pl d=A at c1 c2 t1 ⊢;generalize P50 m' ps' pl' d=C at c1 c2 t2 ⊢;generalize d.2 ^ ps.length=B at c1 c2 pB ⊢;generalize d.2 ^ ps'.length=F at c1 c2 pE ⊢;refine(a00 (F30 (n:=98) (i:=A) (j:=F) (-0) t1 pE) ?_ :)
  refine(a00 (F30 (n:=98) (i:=C) (j:=B) (-0) t2 pB) ?_ :)
  refine Wo c1 (Wo (F41 0 (k + 36) (.int _) z2 rfl) (Wo c2 (Wo (F41 0 (k + 36) (.int _) z2 rfl) ?_)));exact⟨rfl,λx hx'=>hx x (È _ hx'),_,_,_,_,_,_,_,_,rfl⟩
 ·rintro ρ z2 ⟨rfl,_,o7,o8,o9,o10,o11,o12,o13,o14,rfl⟩;exact q _ _ _ _ _ _ _ _ _ hz1
theorem R91(k:Nat)(g:d00 m ps)(hp:f70 m pl)(g':d00 m' ps')(hp':f70 m' pl')(hw:p51 bw=false)(hc:chD bc=false)(hx:R51 x=true)
  (q:∀ (z:Z) (o7 o8 o9 o10 o11 o12 o13 o14:Option S),Q (.nx (lE ns j m m' ps ps' pl pl' o7 o8 o9 o10 o11 o12 o13 o14)) z) :
  WS (T00 T (k + 37 + 2)) true (bIn 6) (lE ns j m m' ps ps' pl pl' o7 o8 o9 o10 o11 (some (.d bw)) (some (.d bc)) (some (.d x))) z Q E:=by
 have hs:=o91 hx;refine We (G51 (k + 24) hw z) ?_;refine We (p01 (k + 24) g hw z) ?_;refine We (G71 (k + 24) g hp g' hp' hc z) ?_;obtain⟨b,hb,b0,b1⟩:=R71 (k + 35) g.m6 hx z;refine Wo hb ?_;have bad:H21 m x=false->WS (T00 T (k + 37 + 2)) true (match bIn 9 with | .seq (.iff _ t _) _=>t | _=>.nil) (lE ns j m m' ps ps' pl pl' o7 o8 o9 o10 o11 (some (.d bw)) (some (.d bc)) (some (.d x))) z Q E:=λhpl=>by
  refine We (G61 (k + 24) g g' hpl hs z) ?_;refine We (p11 (k + 24) g' hp' g hpl hs z) ?_;exact q _ _ _ _ _ _ _ _ _
 cases b with
 |false=>exact bad (b0 rfl)
 |true =>
  obtain⟨l,rfl⟩:=b1 rfl;have eq:C70 .eq (.tup l) (.tup [])=some l.isEmpty:=by
   show eqQ (.tup l) (.tup [])=_;unfold eqQ;split
   ·cases l <;> rfl
   ·rfl
  refine(a00 eq ?_ :);refine ib (b:=l.isEmpty) (λh=>?_) λh=>?_
  ·exact bad (by cases l with | nil=>rfl | cons _ _=>cases h)
  ·exact q _ _ _ _ _ _ _ _ _
end
abbrev A92(L:Int):Int:=if (if (4:Int) < L then 4 else L) > 1 then(if (4:Int) < L then 4 else L) else 1
theorem z32(k:Nat)(ns:List Int):b40 T (k + 40) x72 [.d (.lst (ns.map D.int))] none=some (.ok (.d (.bl true)) none):=by
 refine W.ok (g30 (k:=k + 37) (ps:=1) (ns:=15) (b:=P81) rfl rfl (-0) ?_)
 have hN:0<=A92 ((ns.map D.int).length:Int)/\A92 ((ns.map D.int).length:Int) < 100000:=by
  unfold A92;split <;> (try split) <;> omega
 refine(a00 (V20 (m:=A92 ((ns.map D.int).length:Int)) hN.1 hN.2) ?_ :);refine w60 (λxs ρ z=>(∀ x∈xs,∃ j:Nat,x=.int j)/\∃ o1 o2 o3 o4 o5 o6 o7 o8 o9 o10 o11 o12 o13 o14:Option S,ρ=[some (.d (.lst (ns.map D.int))),o1,o2,o3,o4,o5,o6,o7,o8,o9,o10,o11,o12,o13,o14]) _ ⟨λx hx=>?_,_,_,_,_,_,_,_,_,_,_,_,_,_,_,rfl⟩ ?_ ?_
 ·obtain⟨i,_,rfl⟩:=Ù.mp hx;exact⟨i,rfl⟩
 ·rintro x r ρ z1 ⟨hx,o1,o2,o3,o4,o5,o6,o7,o8,o9,o10,o11,o12,o13,o14,rfl⟩;obtain⟨j,rfl⟩:=hx x Ì;obtain⟨sn,sb,hz1,hst⟩:=P91 (k + 35) ns j z1;refine Wo hst ?_;have hj:(if ((j:Int) == 0)=true then(1:Int) else 0)=0∨(if ((j:Int) == 0)=true then(1:Int) else 0)=1:=by
   split
   ·exact .inr rfl
   ·exact .inl rfl
  refine(a00 (c31 (i:=2) (j:=if ((j:Int) == 0)=true then(1:Int) else 0) (-0) (by rcases hj with h | h <;> rw[h] <;> decide)) ?_ :)
  refine(e20 (k + 36) 2 hz1 (-0) (-0)).imp λs z2 ⟨hz2,v,e,v1⟩=>?_
  subst e;obtain⟨y,ey,hy⟩:=F00 (L:=[D.int 6,.int (6 + 2 * (if ((j:Int) == 0)=true then(1:Int) else 0))]) (n:=v) (btw 0 8) (by simp only[Û,Á0];omega) (by
   simp only[Ã9,all_nil,Ñ1,Á];exact⟨by decide,M12 ∅ ∅⟩)
  obtain⟨mo,rfl,mo0,mo8⟩:=D21 hy;refine(a00 (o01 ey) ?_ :);refine(V60 (k + 34) hz2 mo0 mo8).imp λs z3 ⟨hz3,m,ps,e,g,_⟩=>?_;subst e;refine(V60 (k + 34) hz3 (-0) (-0)).imp λs z4 ⟨hz4,m',ps',e,g',_⟩=>?_
  subst e;refine(y70 (k + 35) (t:=.tup (ps.map pr)) g.m1 g.m6 hz4).imp λs z5 ⟨hz5,pl,e,hp⟩=>?_;subst e;refine(y70 (k + 35) (t:=.tup (ps'.map pr)) g'.m1 g'.m6 hz5).imp λs z6 ⟨hz6,pl',e,hp'⟩=>?_;subst e;refine(R81 k g hp g' hp' hz6 λz7 o7 o8 o9 o10 o11 o12 o13 o14 hz7=>?_ :);refine(D51 (k + 35) hz7).imp λs z8 ⟨hz8,bw,e,hbw⟩=>?_;subst e;refine(X30 (k + 35) hz8).imp λs z9 ⟨hz9,bc,e,hbc⟩=>?_;subst e;refine(P20 (k + 35) g.m1 g.m6 (hp.len g.m6) hz9).imp λs z10 ⟨hz10,x,e,hox⟩=>?_;subst e;exact R91 k g hp g' hp' hbw hbc hox λ_ _ _ _ _ _ _ _ _=>⟨λx hx'=>hx x (È _ hx'),_,_,_,_,_,_,_,_,_,_,_,_,_,_,rfl⟩
 ·rintro ρ z1 ⟨_,o1,o2,o3,o4,o5,o6,o7,o8,o9,o10,o11,o12,o13,o14,rfl⟩;exact⟨rfl,rfl⟩
theorem pure:∀ ns:List Int,ns.length<=63->b40 (tabOf rows) 40 x72 [.d (.lst (ns.map D.int))] none=some (.ok (.d (.bl true)) none):=λns _=>by
 rw[X62];exact z32 0 ns
end K3
namespace K3
open PySem L2 Q
theorem ok:rows.all (k42 (G30 rows) nums)=true:=by decide +kernel
theorem bd:o40 rows:=⟨λ_ _ _ _ _ _ us hl=>by obtain⟨_,_,rfl⟩:=us2 hl;rfl,
 λ_ _ _ _ _ _ us hl=>by obtain⟨_,_,rfl⟩:=us2 hl;rfl,
 λ_ _ _ _ _ _ us hl=>by obtain⟨_,_,rfl⟩:=us2 hl;rfl,
 λ_ _ _ _ _ _ us hl=>by obtain⟨_,_,rfl⟩:=us2 hl;rfl,
 λ_ _ _ _ _ _ us hl=>by obtain⟨_,_,rfl⟩:=us2 hl;rfl,
 λ_ _ _ _ _ _ us hl=>by obtain⟨_,rfl⟩:=us1 hl;rfl,
 λ_ _ _ _ _ _ us hl=>by obtain⟨_,_,rfl⟩:=us2 hl;rfl,
 λ_ _ _ _ _ _ us hl=>by obtain⟨_,_,rfl⟩:=us2 hl;rfl,
 λ_ _ _ _ _ _ us hl=>by obtain⟨_,_,rfl⟩:=us2 hl;rfl,
 λ_ _ _ _ _ _ us hl=>by obtain⟨_,rfl⟩:=us1 hl;rfl,
 λ_ _ _ _ _ _ us hl=>by obtain⟨_,rfl⟩:=us1 hl;rfl,
 λ_ _ _ _ _ _ us hl=>by obtain⟨_,_,rfl⟩:=us2 hl;rfl,
 λ_ _ _ _ _ _ us hl=>by obtain⟨_,rfl⟩:=us1 hl;rfl,
 λ_ _ _ _ _ _ us hl=>by obtain⟨_,_,rfl⟩:=us2 hl;rfl,
 λ_ _ _ _ _ _ us hl=>by obtain⟨_,_,rfl⟩:=us2 hl;rfl,
 λ_ _ _ _ _ _ us hl=>by obtain⟨_,_,_,rfl⟩:=us3 hl;rfl,
 λ_ _ _ _ _ _ us hl=>by obtain⟨_,rfl⟩:=us1 hl;rfl,
 λ_ _ _ _ _ _ us hl=>by obtain⟨_,rfl⟩:=us1 hl;rfl,
 λ_ _ _ _ _ _ us hl=>by obtain⟨_,rfl⟩:=us1 hl;rfl,
 λ_ _ _ _ _ _ us hl=>by obtain⟨_,_,rfl⟩:=us2 hl;rfl,
 λ_ _ _ _ _ _ us hl=>by obtain⟨_,_,rfl⟩:=us2 hl;rfl,
 λ_ _ _ _ _ _ us hl=>by obtain⟨_,_,_,_,rfl⟩:=us4 hl;rfl,
 λ_ _ _ _ _ _ us hl=>by obtain⟨_,_,rfl⟩:=us2 hl;rfl,
 λ_ _ _ _ _ _ us hl=>by obtain⟨_,_,_,rfl⟩:=us3 hl;rfl,
 λ_ _ _ _ _ _ us hl=>by obtain⟨_,_,_,_,_,rfl⟩:=us5 hl;rfl,
 λ_ _ _ _ _ _ us hl=>by obtain⟨_,_,rfl⟩:=us2 hl;rfl,
 λ_ _ _ _ _ _ us hl=>by obtain⟨_,_,rfl⟩:=us2 hl;rfl,
 λ_ _ _ _ _ _ us hl=>by obtain⟨_,_,rfl⟩:=us2 hl;rfl,
 λ_ _ _ _ _ _ us hl=>by obtain⟨_,_,rfl⟩:=us2 hl;rfl,
 λ_ _ _ _ _ _ us hl=>by obtain⟨_,_,rfl⟩:=us2 hl;rfl,
 λ_ _ _ _ _ _ us hl=>by obtain⟨_,_,rfl⟩:=us2 hl;rfl,
 λ_ _ _ _ _ _ us hl=>by obtain⟨_,rfl⟩:=us1 hl;rfl,
 λ_ _ _ _ _ _ us hl=>by obtain⟨_,_,_,rfl⟩:=us3 hl;rfl,
 λ_ _ _ _ _ _ us hl=>by obtain⟨_,_,_,rfl⟩:=us3 hl;rfl,
 λ_ _ _ _ _ _ us hl=>by obtain⟨_,rfl⟩:=us1 hl;rfl,
 λ_ _ _ _ _ _ us hl=>by obtain⟨_,rfl⟩:=us1 hl;rfl,
 λ_ _ _ _ _ _ us hl=>by obtain⟨_,_,rfl⟩:=us2 hl;rfl,
 λ_ _ _ _ _ _ us hl=>by obtain⟨_,_,_,rfl⟩:=us3 hl;rfl,
 λ_ _ _ _ _ _ us hl=>by obtain⟨_,_,rfl⟩:=us2 hl;rfl,
 λ_ _ _ _ _ _ us hl=>by obtain⟨_,rfl⟩:=us1 hl;rfl,
 λ_ _ _ _ _ _ us hl=>by obtain⟨_,_,rfl⟩:=us2 hl;rfl,
 λ_ _ _ _ _ _ us hl=>by obtain⟨_,_,_,rfl⟩:=us3 hl;rfl,
 λ_ _ _ _ _ _ us hl=>by obtain⟨_,rfl⟩:=us1 hl;rfl,trivial⟩
theorem hR:w52 rows ["law"] [("_law_refused",top 64)]:=λr hr hlm=>by
 have h:=Õ.mp (show rows.all (λr=>!r.lm || (["law"]:List Str).contains r.nm)=true from by decide +kernel) r hr
 rw[hlm] at h;exact⟨Ì4.mp h,top 64,250,.head _,rfl,rfl,λ_ _ _ _ _ _ us hl=>by obtain⟨_,rfl⟩:=us1 hl;rfl⟩
def asks:n30:=H40 rows nums ["law"] [("_law_refused",top 64)]
def prg:Program:=ø
def vq:Program:=view prg [66]
def loose:List Str:=prg.boundNames.filter λx=>!(x == ("law":Str))
def runL(w:è)(os:OsState):=(D90 PySem.W.through (PySem.W.stepOk 11 (some (.ref 6))) (PySem.W.stepT (denote treeTable) prg w) 20000 (g82 w os) (PySem.W.topStub prg)).map (λs =>
   (PySem.W.staticsOk (Ï4 prg.main.body) (PySem.W.boot_heap w.params) s.abs.heap&&PySem.W.namesBound prg s.abs.heap&&PySem.W.gensDone s.abs&&PySem.W.laidKept (PySem.W.boot_heap w.params) s.abs.heap,
    PySem.W.openSeen vq loose (Ï4 prg.main.body) (λ_=>true) true s.abs,asks.obs s.abs))
def runR(w:è):=some (true,PySem.W.openGood vq loose,asks.due w)
def _root_.PySem.W.Fast.tw5184847585052337573:PySem.Program:=ø
theorem _root_.PySem.W.Fast.te5184847585052337573:ø=PySem.W.Fast.tw5184847585052337573:=rfl
theorem twins:(λ(_:runL=runL/\runR=runR)=>true) ⟨rfl,rfl⟩=true:=by k_qdec
theorem run_eq:∀ (w:è) (os:OsState),PySem.W.Fast.tw14075725262101462980 w os=PySem.W.Fast.tw18139657281711212703 w:=λw os=>by kernel_rfl
theorem left:PySem.W.LeftO ø vq loose (λ_=>true) asks.hook.obs asks.hook.val 20000:=g92 (by kernel_rfl) rfl (λ_=>by kernel_rfl) λw os =>
 (congrFun (congrFun PySem.W.Fast.te14075725262101462980 w) os).trans ((run_eq w os).trans (congrFun PySem.W.Fast.te18139657281711212703 w).symm)
end K3
open PySem PySem.W PyProof.Rows
set_option maxRecDepth 100000 in
set_option maxHeartbeats 0 in
theorem PySem.Challenge.cw_tiechances_k82_which_is_greater_holds : PySem.Challenge.rw_tiechances_k82_which_is_greater.Holds := by
 w_on;o_law
 refine holds_open (q:=K3.vq) (loose:=K3.loose) (Xt:=λ_=>true) (XP:=λ_ _=>True) (Yf:=K3.asks.hook.obs) (Ya:=K3.asks.hook.val) (YP:=K3.asks.hook.says) K3.left K3.asks.hook.of K3.asks.hook.keeps (λ_ _=>trivial) (λ_ _ _ _ _=>trivial) (by rfl) (by rfl) (by rfl) (λs _=>recFacts_of rfl) rfl (by first | assumption | decide +kernel) (by decide +kernel) ⟨rfl,rfl,rfl,rfl,rfl,by decide +kernel⟩ ?hw ?hc
 case hw=>w_witness2
 case hc=>exact Q.P61 (l:=PySem.Challenge.rw_tiechances_k82_which_is_greater) (n:=63) (k:=40) (x:="_law_script") rfl (-0) rfl ⟨rfl,by decide,by decide⟩ (Q.h52 (k:=37) (iL:=42) K3.ok K3.bd rfl rfl rfl (-0) K3.hR K3.pure)