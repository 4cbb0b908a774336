import PyProof.Rows.All
import Wide.All
import OpenK.AllK
import Wide.FinOn
import Lean
import PyProof.EqAt
import PyProof.EqKinds
import PyProof.TupleCall
import KE.KSortTup
import OpenK.KRaise
import OpenK.KOwn
import PyProof.ExcBaseAll.ValueError
import KE.KIsAll
import PyProof.ExcAttrAll.ValueError
import PyProof.NsDelKeeps
import PyProof.RulesAs
import KE.KTryMore
import KE.KLam
import KE.KNestM
import OpenK.KEqL
import PyProof.Rows.EqDataRows
import PyProof.NeKinds
import PyProof.FactsAll.dict
import PyProof.FactsAll.subtypes
import PyProof.ListRange
import PyProof.TupleOfGen
import PyProof.TupleOfSeq
import KE.KTupSum
import PyProof.Rows.SumAny
import PyProof.Rows.SetFrom
import KE.KRevSl
import PyProof.WalksMore
import PyProof.SetRoads
import PySem.Challenge.RW_tiechances_k82_which_is_greater
local syntax "÷÷" "§" "¤" "¶" : term
local macro "§" e:term : tactic => `(tactic| exact $e)
local macro "¤" e:term : tactic => `(tactic| refine $e)
local macro "¶" p:Lean.Parser.Tactic.rcasesPatMed ":=" e:term : tactic => `(tactic| obtain $p := $e)
local macro "÷" d:Lean.Parser.Command.declId s:Lean.Parser.Command.declSig v:Lean.Parser.Command.declVal : command => `(theorem $d $s $v)
local macro_rules
  | `(tactic| omega) => `(tactic| lia)
open PySem renaming wpAny_bind→À,Value→Ä,wpAny_pure→Å,Shared→Æ,Addr→Ç,wpAny→Ï,Expr→Ò,model→Ô,sizeLine→Û,Program→ß,mainGlobals→ä,wpAny_newObj_type→æ,World→è,bootBuiltins→ë,Heap→ì,Around→ø,compareOp→ü,Scope→ý,starEach→þ,Builtin→ÿ,wpAny_call_entry→À4,wpAny_callSpecial?_slot→À5,wpAny_holding→À7,sizeLine_eq→Á2,wpAny_field→Á5,wpAny_mono→Â1,codeAny_builtin→Â2,mem_of_lookup→Â4,wpAny_truthy_bool→Â5,wpAny_setField_rec→Ã0,rawInt→Ã6,binaryOp→Ä2,swappedStores→Ä6,Stmt→Å1,FuncData→Å2,cLine→Å9,Paired→Æ0,IsPair→Æ5,wpAny_seqItems→Ç4,wpAny_typeOf→Ç7,wpAny_pyIter_tuple→Ç8,codeAny_mono→È1,call_meets→È2,wpAny_passesOwn→È4,Env→È7,foldedSetIterable→É1,wpAny_rule→É8,assignEach→É9,wpAny_attempt→Ë2,NameKind→Ë4,wpAny_Call_Name_kw→Ë8,wpAny_askSetting→Í6,builtinsNs→Í7,Arguments→Î1,plainId_quiet→Î2,codeAny→Î3,wpAny_loadName_local→Î5,sliceBounds→Î6,SetTable→Î8,wpAny_execs_nil→Ï3,importedModules→Ï4,wpAny_Name→Ñ3,pyNext→Ñ4,isSubtype_type→Ñ7,IsZip→Ò2,wpAny_setState_of→Ó2,getItem→Ó3,wpAny_comprehension_free→Ó6,wpAny_execs_cons→Ô8,swapsWith→Ô9,checkBuiltinCall→Õ1,wpAny_call→Õ9,backTo→Ö0,IsRange→Ö1,wpAny_updateSeq_pair→Ø6,wpAny_runValue→Ø7,seqIndex_of→Ø9,firstArgMember→Ù1,codeAny_call_builtin→Ù2,assign→Ù3,IsPart→Ù4,intKind→Ù6,holding→Ù7,codeAmong→Ù8,wpAny_setEntries_of→Ú4,wpAny_loadName_cell→Ú5,wpAny_standAt→Û4,wpAny_onRaise→Û5,wpAny_newList→Û6,foldedForSure→Û8,typeIs_int→Ü1,intKind_is→Ü2,wpAny_sequenceKey→Ý3,wpAny_pyIter_list→Ý4,callerA→Ý5,Operator→Ý9,GenState→Þ1,wpAny_isInstance→ß2,pickOrder→ß3,noFill_tuple_add→ß4,TriplesOk→ß6,wpAny_of_eq→à3,letOwnedTupleGo→à8,codeAny_of_tree→á0,wpAny_newFunctionEnv_cells→á3
open Bool renaming and_eq_true→Á,false_ne_true→Ð,not_eq_true'→À0,false_eq_true→Ã4,true_and→Ä9,or_eq_true→Å6,not_eq_false'→Í1,eq_iff_iff→Í5,and_true→Ñ2,false_and→Õ8,not_true→à7
open PySem.W renaming Frag→Â,kas_item→õ,kas_desc→Ã2,kas_place→Ä5,codeHdIn→Ä8,kia_one→Ç1,kas_rev→Ç9,kas_asc→È0,tabObj→È3,boot_heap→Ê2,excIn→Ì2,kitOne→Í8,kas_descPart→Ð6,kas_sort→Ñ6,nsIn→Ò0,keepIn→Ó7,kia_tup→Ö6,kas_count→ß5
open PySem.Heap renaming get?_push_of_some→Ã,get?_push_size→Ë,lt_size→à,get?_update_self→Ç6,size_push→Ë3,get?_update_other→Ë6,SameBut→Ë7,IsTuple→Ó4
open List renaming mem_cons_of_mem→È,length_map→É,mem_cons_self→Ì,size_toArray→Ó,all_eq_true→Õ,getD_eq_getElem?_getD→Ö,mem_map→Ú,length_cons→Ü,getElem?_map→Ý,getElem?_eq_some_iff→Þ,mem_singleton→ã,getElem?_eq_getElem→ç,mem_of_getElem?→é,getElem?_set_ne→ê,range→í,replicate→î,mem_append_right→ï,getElem?_set_self→ð,map_map→ó,length_range→ù,mem_cons→ú,not_mem_nil→À2,lookup_cons→À8,length_nil→Á0,filterMap_cons→Á3,mem_append→Á7,length_append→Á9,range'_succ→Â0,range'→Â8,mem_cons→Â9,all_cons→Ã9,length_set→Ä1,mem_range→Ä3,length_filter_le→Å3,getElem?_append_right→Å4,replicate_succ→Å5,map_cons→Å7,map_congr_left→Å8,mem_append_left→Æ6,length_take→Æ7,all_eq_true→Æ9,filter_eq_nil_iff→Ç2,map_append→Ç5,take_of_length_le→È5,pairwise_lt_range→È6,getElem_mem→É0,flatten_cons→É6,getElem?_range→É7,zip_cons_cons→Ê3,pairwise_cons→Ê7,getElem?_cons_zero→Ê9,length_reverse→Ì0,contains_iff_mem→Ì4,isEmpty_iff→Ì5,nil_append→Ì8,forIn_cons→Ì9,lookup→Í0,length_drop→Í3,getElem?_append_left→Ð3,getElem_map→Ñ8,filter_cons→Ñ9,getElem_range→Ò4,getElem?_replicate→Ò6,nodup_cons→Ô0,reverse_cons→Ô6,append_assoc→Ô7,range_eq_range'→Õ3,mem_iff_getElem→Õ4,getElem?_append→Õ5,forIn_nil→Ö7,mem_filterMap→Ø1,getElem?_take→Ø2,getElem?_drop→Ø3,zip_nil_left→Ú0,pairwise_map→Ú1,mem_filter→Ý1,perm_ext_iff_of_nodup→Þ8,drop_eq_getElem_cons→à0,Pairwise→à4,length_replicate→á5,getElem?_eq_none→á6
open Option renaming map_eq_some_iff→Ê,bind_eq_some_iff→Î,map→Î4,map_eq_some_iff→Õ0,ne_none_iff_exists'→Ý0,isSome_iff_exists→Þ7
open Nat renaming le_refl→Í,le_trans→Ñ,ne_of_lt→Ø,lt_of_lt_of_le→Ù,pow_le_pow_right→û,lt_irrefl→Á4,lt_succ_of_lt→Å0,zero_le→Æ1,le_of_lt→É3,le_add_right→É5,ne_of_gt→Ê4,lt_of_le_of_lt→Ê8,lt_succ_self→Ë9,zero_add→Î9,add_sub_cancel→Ï8,max→Ñ0,mul_comm→Ó9,not_lt_zero→Ö2,pow_succ→Ú6,lt_succ_of_le→Ú7,le_of_eq→Ú8,succ_le_succ→Ü6,min_eq_right→Ü7,min_eq_left→Þ0,max_le→ß8,add_le_add→ß9,le_mul_of_pos_left→á4
open ForInStep renaming yield→á,done→å
open PySem.Value renaming none→â,type→Á6,ref→Ã3,int→Æ3,bool→Î7,builtin→Ð7,notImplemented→Õ2
open PySem.NameKind renaming free→ñ,cell→Æ4
open PyProof.Rows renaming slot_tuple_getitem→ò,callWith_type1→Á1,SortSt→Â7,seqObj→Ã1,IntsAre→Ë5,SortKind→Ì6,IsTup→Ï0,envOfC→Ï5,listItems_at→Ð5,AllBare→Ó5,slicePart_none→Ø8,oneType'→Ù0,pendingOf→Ù5,listUpdate_at→Û7,assignInOrder_cons→Ü3,args_tuple_getitem→Ü4,get?_update_seq→à9
open Array renaming getElem?_toList→ô,extract→Æ8,getElem?_eq_getElem→É2,length_toList→Ê5,getD_eq_getD_getElem?→Î0,toArray_toList→Ð1,map_extract→Ñ5,size→Ø0,toList_inj→Û2,map_append→Û3
open PySem.Challenge renaming pw_tiechances_k82_which_is_greater→ö
open PySem.Obj renaming mapSeq→À1
open False renaming elim→À3
open Option.some renaming inj→À6,injEq→Ê0
open PySem.Str renaming ofString→À9
open Int renaming toNat_natCast→Á8,pow_succ→Ã5,eq_ofNat_of_zero_le→Ë1,mul_pos→Ï2,eq_of_mul_eq_mul_right→Ð0,pow_zero→Ð2,emod_eq_of_lt→Ñ1,zero_mul→Ó1,zero_add→Ô1,mul_zero→Ô2,le_of_lt→Ô3,emod_nonneg→Ö3,mul_comm→Ú9,mul_lt_mul_of_pos_right→Þ9,lt_of_mul_lt_mul_right→à1,le_of_dvd→á1
open Ne renaming symm→Â3
open PySem.Around renaming under_plainId→Â6,frames_deeper→á2
open PySem.Builtin.Range renaming rangeSize→Ã7,small→Ò3
open PySem.AutoSeq1 renaming wpAny_loadPart'→Ã8,wpAny_loadPart'→Ä7,idx_int→Ø5,sub_tuple_tuple→Ý2
open PySem.Builtin renaming iter→Ä0
open PySem.Builtin.List renaming listExtendWith→Ä4,listTooLong→Í4,listSameRef→Ú3
open PySem.Heap.SameBut renaming update→Æ2
open PySem.Builtin.Tuple renaming tupleExact→Ç0
open PyProof.Rows.KeyOrd renaming kle_refl→Ç3,kle_of_klt→Ï9,kle_trans→Ú2
open List.Perm renaming eq_of_pairwise→È8
open PySem.Builtin.Slice renaming slicePlaces→È9,sliceAdjust→Í2,sliceApplied→Ô5
open PySem.F renaming slot_tuple_iterator_next→É4,called_set→Ê1,args_tuple_add_2→Ï6,plainAttrs_list→Ð8,entry_tuple_add→Ð9,slot_tuple_add→Ò1,slot_tuple_lt→Ò9,called_tuple→Ó8,slot_zip_next→Õ6,slot_int_rmul→Õ7,args_tuple_mul_2→Û1,excBase_ValueError→Ü5,entry_tuple_mul→Ü8,type_list_append→Ý7,slot_list_append→Ý8,slot_tuple_mul→Þ2,plain_tuple_new→Þ4,plain_list_iadd→Þ5,args_tuple_lt_2→Þ6,entry_tuple_lt→ß7,args_tuple_iterator_next_1→à2,entry_tuple_iterator_next→à5
open True renaming intro→Ê6
open List.Pairwise renaming filter→Ë0
open PyProof.Rows.SortSt renaming mk'→Ì1
open Array.Perm renaming refl→Ì3
open PySem.Builtin.SmallTypes renaming ownedTupleIsFree→Ì7
open PySem.W.Looks renaming ld→Í9,of_pure→Û9,here→Ý6
open PySem.Calls renaming Name_function_global→Ï1,spliced_nil→Ð4,spliced_cons→Ö9,call_function_entry→ß0,loadGlobal_global→à6,evalArgs_plain→á7
open Prod.mk renaming injEq→Ï7
open Or renaming inl→Ò5,inr→Ù9
open PySem.W.KasT renaming ret→Ò7
open PySem.Heap.IsSliceOf renaming new→Ò8
open PySem.PyData renaming depthAll→Ó0,eqv→Ü9
open PyProof.Rows.F renaming plain_set_update_loop→Ô4
open Sum renaming inr→Ö4,inl→Ö5
open PySem.SeqAt renaming EqAt→Ö8
open PySem.Code renaming quiet_builtin→Ø4
open Iff renaming rfl→Û0
open Classical renaming byContradiction→Ü0
open PySem.Shared renaming TypeIs→Þ3
open PySem.Builtin.Int renaming intBits→ß1
local macro_rules
|`(command|def $i:declId $s:optDeclSig $v)=>`(noncomputable def $i:declId $s:optDeclSig $v)
|`(command|abbrev $i:declId $s:optDeclSig $v)=>`(noncomputable abbrev $i:declId $s:optDeclSig $v)
open PySem.W (methodObj hideAll hideAll_get of_hideAll callWith_K cellsFrom_some fnOf codeRec_of kitx_none kitx_bool kitx_int kitx_str kitx_tuple kitx_list kitx_dict kitAny kia_tup envX kla_fn codeHd_of_K kla_obj mg_none_of mg_of view)
open PySem.Heap (lt_size size_push)
open List (range filterMap_cons mem_cons_self mem_cons_of_mem mem_append_left mem_append_right append_nil of_mem_zip replicate length_take mem_of_getElem? length_append length_map size_toArray length_drop map_nil map_cons length_set reverse_cons replicate_succ flatten_cons foldl append_assoc lookup_cons forIn_cons toArray forIn_nil mem_cons not_mem_nil ext_getElem range' map_toArray length_nil nil_append take_of_length_le length_range zip_cons_cons length_cons length_reverse all_eq_true mem_filter mem_range map_congr_left length_filter_le getElem_mem isEmpty_nil map_id all_nil mapM_cons all_map pairwise_lt_range all_cons range_succ getElem_range drop_length filter_cons map_id' getElem_map)
open Array (length_toList toList getD size_map map_extract push extract setIfInBounds toArray_toList)
open Nat (ne_of_gt le_succ zero_le le_add_right not_lt_zero ble beq lt_succ_of_lt lt_succ_self pow_le_pow_right sub_self)
open Int (mul_one toNat_natCast emod_nonneg emod_lt_of_pos gcd natAbs_mul mul_pos mul_add zero_mul one_mul pow_zero add_zero)
open PyProof.Rows (lt_int)
open PySem.Builtin.Slice (sliceAdjust slicePlaces sliceApplied sliceFields)
open PySem.Builtin.Tuple (tupleItemsOf tupleExact tupleCompareSizes tupleTooMany tupleIsExact)
open Bool (and_eq_true false_eq_true not_eq_true' or_eq_true not_eq_false')
open Option (getD_none map_some map_eq_some_iff)
open PySem.Builtin.SmallTypes (nextOf ownedTupleIsFree ownedTupleHandOut)
set_option bootstrap.genMatcherCode false
set_option compiler.extract_closed false
set_option genInjectivity false
set_option genSizeOf false
set_option autoImplicit true
set_option relaxedAutoImplicit true
set_option Elab.async false
set_option linter.all false
set_option maxRecDepth 100000
namespace L2
open PySem PySem.Spec PyProof.Rows
abbrev Key:=Sum Int Str
def l82:Key->Ä->Bool
 |.inl k,v=>Ä.isInt k v
 |.inr x,v=>Ä.isStrOf x v
def Q72(w:è):Key->Int
 |.inl k=>hashInt k
 |.inr x=>hashStr w x
÷d50:∀ {k:Key}{v:Ä},l82 k v=true->(∃ i t,k=Ö5 i/\v=Æ3 i t)∨(∃ x t,k=Ö4 x/\v=Ä.str x t)
 |.inl i,v,h=>by
  ¶⟨t,e⟩:=Ä.isInt_shape (k:=i) (v:=v) h
  §.inl ⟨i,t,rfl,e⟩
 |.inr x,v,h=>by
  ¶⟨t,e⟩:=Ä.isStrOf_shape (x:=x) (v:=v) h
  §.inr ⟨x,t,rfl,e⟩
÷l92(a b:Int):decide ((Ö5 a:Key)=Ö5 b)=(a == b):=by
 by_cases e:a=b
 ·subst e;simp
 ·have h:¬ (Ö5 a:Key)=Ö5 b:=λq=>e (Ö5.inj q)
  rw[decide_eq_false h]
  §(beq_eq_false_iff_ne.mpr e).symm
÷m02(a b:Str):decide ((Ö4 a:Key)=Ö4 b)=decide (a=b):=by
 by_cases e:a=b
 ·subst e;simp
 ·have h:¬ (Ö4 a:Key)=Ö4 b:=λq=>e (Ö4.inj q)
  rw[decide_eq_false h,decide_eq_false e]
÷m12(a:Int)(b:Str):decide ((Ö5 a:Key)=Ö4 b)=false:=decide_eq_false (λq=>nomatch q)
÷m22(a:Str)(b:Int):decide ((Ö4 a:Key)=Ö5 b)=false:=decide_eq_false (λq=>nomatch q)
def q41(prog:ß)(w:è):PySem.KeyKind prog w Key where
 is:=l82
 hash:=Q72 w
 inj:=λv a b ha hb=>by
  rcases d50 ha with ⟨i,t,rfl,rfl⟩ | ⟨x,t,rfl,rfl⟩
  ·rcases d50 hb with ⟨j,u,rfl,e⟩ | ⟨y,u,rfl,e⟩
   ·injection e with e1 _;rw[e1]
   ·§nomatch e
  ·rcases d50 hb with ⟨j,u,rfl,e⟩ | ⟨y,u,rfl,e⟩
   ·§nomatch e
   ·injection e with e1 _;rw[e1]
 byValue:=λk v h=>by
  rcases d50 h with ⟨i,t,rfl,rfl⟩ | ⟨x,t,rfl,rfl⟩ <;> rfl
 pyHash:=λhv h=>by
  rcases d50 hv with ⟨i,t,rfl,rfl⟩ | ⟨x,t,rfl,rfl⟩
  ·§wpAny_pyHash_int h
  ·§wpAny_pyHash_str h
 eqBool:=λhu hv h=>by
  rcases d50 hu with ⟨i,t,rfl,rfl⟩ | ⟨x,t,rfl,rfl⟩
  ·rcases d50 hv with ⟨j,u,rfl,rfl⟩ | ⟨y,u,rfl,rfl⟩
   ·rw[l92] at h;§wpAny_eqBool_int h
   ·rw[m12] at h;§Ö8.int_str i t y u _ _ _ _ h
  ·rcases d50 hv with ⟨j,u,rfl,rfl⟩ | ⟨y,u,rfl,rfl⟩
   ·rw[m22] at h;§Ö8.str_int x t j u _ _ _ _ h
   ·rw[m02] at h;§wpAny_eqBool_str h
 «strs»:=λk x t v h=>by
  rcases d50 h with ⟨i,u,rfl,e⟩ | ⟨y,u,rfl,e⟩
  ·§nomatch e
  ·injection e with e1 _
   subst e1
   cases v <;> rfl
inductive V where
 |non | bl (b:Bool) | int (i:Int) | str (x:Str) | byt (b:Array UInt8) | flt (b:UInt64) | ref (a:Addr) | ty (n:String)
 deriving DecidableEq
def RelV:V->Ä->Prop
 |.non,u=>u=â
 |.bl b,u=>u=Î7 b
 |.int i,u=>∃ t,u=Æ3 i t
 |.str x,u=>∃ t,u=Ä.str x t
 |.byt b,u=>∃ t,u=Ä.bytes b t
 |.flt b,u=>∃ t,u=Ä.float b t
 |.ref a,u=>u=Ã3 a
 |.ty n,u=>u=Á6 n
abbrev Vals:List V->List Ä->Prop:=Æ0 RelV
÷Vals.length{xs:List V}{us:List Ä}(r:Vals xs us):xs.length=us.length:=Æ0.length r
÷Vals.get:∀ {xs:List V}{us:List Ä}{i:Nat}{x:V},Vals xs us->xs[i]?=some x->∃ u,us[i]?=some u/\RelV x u
 |_,_,_,_,.nil,e=>by simp at e
 |_,_,0,_,.cons r _,e=>by simp at e;subst e;§⟨_,rfl,r⟩
 |_,_,i + 1,x,.cons _ t,e=>by
  ¶⟨u,h1,h2⟩:=Vals.get (i:=i) (x:=x) t (by simpa using e)
  §⟨u,by simpa using h1,h2⟩
÷Vals.set(r:RelV x u):∀ {xs:List V}{us:List Ä} (i:Nat),Vals xs us->Vals (xs.set i x) (us.set i u)
 |_,_,_,.nil=>.nil
 |_,_,0,.cons _ t=>.cons r t
 |_,_,i + 1,.cons q t=>.cons q (Vals.set r i t)
÷Vals.append:∀ {xs ys:List V}{us ws:List Ä},Vals xs us->Vals ys ws->Vals (xs++ys) (us++ws)
 |_,_,_,_,.nil,s=>s
 |_,_,_,_,.cons r t,s=>.cons r (Vals.append t s)
÷Vals.take:∀ {xs:List V}{us:List Ä} (n:Nat),Vals xs us->Vals (xs.take n) (us.take n)
 |_,_,0,_=>.nil
 |_,_,_ + 1,.nil=>.nil
 |_,_,n + 1,.cons r t=>.cons r (Vals.take n t)
÷Vals.drop:∀ {xs:List V}{us:List Ä} (n:Nat),Vals xs us->Vals (xs.drop n) (us.drop n)
 |_,_,0,r=>r
 |_,_,_ + 1,.nil=>.nil
 |_,_,n + 1,.cons _ t=>Vals.drop n t
def O02:Option V->Option Ä->Prop
 |some v,some u=>RelV v u
 |none,none=>True
 |_,_=>False
def KV{κ:Type}:List (κ × V)->List (κ × Ä)->Prop:=Æ0 λ(p:κ × V) (q:κ × Ä)=>p.1=q.1/\RelV p.2 q.2
def kV:Key->V
 |.inl i=>.int i
 |.inr x=>.str x
inductive HO where
 |lst (xs:List V)
 |tup (xs:List V)
 |dK (kvs:List (Key × V)) | dT (kvs:List (List Key × V))
 |set (S:Int->Bool) (n:Nat)
 |ins (C dx:Addr) (fs:List (Str × V))
 |own (x:Addr)
 |xd (fs:List (Str × V))
 |met (f x:Addr)
 |rng (lo hi:Int)
 |frz (o:Obj) (u:HO)
 |tbl (ps:Array Value)
 |ext (φ:Heap->Prop)
abbrev Hp:=Ç->Option HO
def upd(H:Hp)(a:Ç)(o:HO):Hp:=λb=>if b=a then some o else H b
÷b20:upd H a o a=some o:=by unfold upd;rw[if_pos rfl]
÷a60(h:b≠a):upd H a o b=H b:=by unfold upd;rw[if_neg h]
÷a80{H:Hp}{a b:Ç}{o:HO}(h:H a=some o)(h':H b=none):a≠b:=by
 intro e;subst e;rw[h] at h';cases h'
section
variable (P:ß) (w:è)
def h50(H:Hp)(h:ì)(a:Ç):HO->Prop
 |.lst xs=>xs.length<=Û/\∃ (its:List Ä) (n:Nat),Vals xs its/\h.get? a=some { cls:=.type "list",data:=.seq its.toArray n }
 |.tup xs=>xs.length<=Û/\∃ its:List Ä,Vals xs its/\Ï0 h a its.toArray
 |.dK kvs=>kvs.length<=Û/\(a == sysModules)=false/\∃ vs,KV kvs vs/\h.DictOf (q41 P w) a vs
 |.dT kvs=>kvs.length<=Û/\(a == sysModules)=false/\∃ xs:List (List Key × Ç × Ä),
   Æ0 (λ(p:List Key × V) (q:List Key × Ç × Ä)=>p.1=q.1/\H q.2.1=some (.tup (p.1.map kV))/\RelV p.2 q.2.2) kvs xs /\
   ∃ o es ep,h.get? a=some o/\o.ExactDict/\o.data=.dict es ep/\es.toList=xs.map (entryOfKey (tupleKind (q41 P w)))/\(xs.map (·.1)).Nodup
 |.set S n=>h.SetOf (Ù6 P w) a S n
 |.ins C dx fs=>H dx=some (.own a)/\fs.length<=1000/\dx≠a/\h.get? a=some (PySem.W.instObj C dx) /\
   ∃ mA,h.Ns1 dx mA/\(∀ f,O02 (fs.lookup f) (mA f))/\PySem.Within mA (fs.map (·.1))
 |.own _=>∃ o,h.get? a=some o
 |.xd fs=>∃ mA,h.Ns1 a mA/\∀ f,O02 (fs.lookup f) (mA f)
 |.rng lo hi=>∃ t u v,h.get? a=some { cls:=.type "range",data:=.fields #[.int lo t,.int hi u,.int 1 v] }
 |.frz o u=>h.get? a=some o/\h50 H h a u
 |.tbl ps=>h.get? a=some { cls:=.none,data:=.fields ps }
 |.met f x=>h.get? a=some (methodObj (.ref f) (.ref x))
 |.ext φ=>φ h/\(∃ o,h.get? a=some o)/\∀ h1 h2:ì,φ h1->(∀ o,h1.get? a=some o->h2.get? a=some o)->φ h2
def HOk(H:Hp)(h:ì):Prop:=∀ a o,H a=some o->h50 P w H h a o
end
section
variable {P:ß}{w:è}{H H':Hp}{h h':ì}{a:Ç}{o:HO}
÷h50.lt(x:h50 P w H h a o):a < h.objs.size:=by
 cases o with
 |lst xs=>¶⟨_,_,_,_,e⟩:=x;§à e
 |tup xs=>¶⟨_,_,_,p⟩:=x;§p.lt
 |dK kvs=>¶⟨_,_,_,_,o,_,_,e,_⟩:=x;§à e
 |dT kvs=>¶⟨_,_,_,_,o,_,_,e,_⟩:=x;§à e
 |set S n=>¶⟨o,_,_,_,e,_⟩:=x;§à e
 |ins C dx fs=>¶⟨_,_,_,e,_⟩:=x;§à e
 |own y=>¶⟨_,e⟩:=x;§à e
 |xd fs=>¶⟨_,⟨_,_,_,e,_⟩,_⟩:=x;§à e
 |rng lo hi=>¶⟨_,_,_,e⟩:=x;§à e
 |frz ob u=>¶⟨e,_⟩:=x;§à e
 |tbl ps=>§à (show h.get? a=some _ from x)
 |met f y=>§à (show h.get? a=some _ from x)
 |ext φ=>¶⟨_,⟨_,e⟩,_⟩:=x;§à e
÷Æ0.k92{α β:Type}{F G:α->β->Prop}:∀ {l₁:List α}{l₂:List β},Æ0 F l₁ l₂->(∀ a b,F a b->G a b)->Æ0 G l₁ l₂
 |_,_,.nil,_=>.nil
 |_,_,.cons r t,f=>.cons (f _ _ r) (Æ0.k92 t f)
÷h50.l41(x:h50 P w H h a o)(k:∀ b u,(b=a∨H b=some (.own a))->h.get? b=some u->h'.get? b=some u)
  (ho:∀ b,H b=some (.own a)->H' b=some (.own a)) (ht:∀ b xs,H b=some (.tup xs)->H' b=some (.tup xs)):h50 P w H' h' a o:=by
 induction o with
 |lst xs=>¶⟨z,its,n,r,e⟩:=x;§⟨z,its,n,r,k _ _ (.inl rfl) e⟩
 |tup xs=>¶⟨z,its,r,ob,e,c⟩:=x;§⟨z,its,r,ob,k _ _ (.inl rfl) e,c⟩
 |dK kvs=>¶⟨z,y,vs,r,ob,es,ep,e,c⟩:=x;§⟨z,y,vs,r,ob,es,ep,k _ _ (.inl rfl) e,c⟩
 |dT kvs =>
  ¶⟨z,y,xs,r,ob,es,ep,e,c⟩:=x
  §⟨z,y,xs,Æ0.k92 r λp q z=>⟨z.1,ht _ _ z.2.1,z.2.2⟩,ob,es,ep,k _ _ (.inl rfl) e,c⟩
 |set S n=>¶⟨ob,es,ep,t,e,c⟩:=x;§⟨ob,es,ep,t,k _ _ (.inl rfl) e,c⟩
 |ins C dx fs =>
  ¶⟨d,z,ne,e,mA,⟨od,es,ep,e2,c⟩,r⟩:=x
  §⟨ho _ d,z,ne,k _ _ (.inl rfl) e,mA,⟨od,es,ep,k _ _ (.inr d) e2,c⟩,r⟩
 |own y=>¶⟨ob,e⟩:=x;§⟨ob,k _ _ (.inl rfl) e⟩
 |xd fs=>¶⟨mA,⟨od,es,ep,e,c⟩,r⟩:=x;§⟨mA,⟨od,es,ep,k _ _ (.inl rfl) e,c⟩,r⟩
 |rng lo hi=>¶⟨t,u,v,e⟩:=x;§⟨t,u,v,k _ _ (.inl rfl) e⟩
 |frz ob u ih=>¶⟨e,q⟩:=x;§⟨k _ _ (.inl rfl) e,ih q⟩
 |tbl ps =>
  have e:h.get? a=some { cls:=.none,data:=.fields ps }:=x
  show h'.get? a=some { cls:=.none,data:=.fields ps }
  §k a _ (.inl rfl) e
 |met f y =>
  have e:h.get? a=some (methodObj (.ref f) (.ref y)):=x
  show h'.get? a=some (methodObj (.ref f) (.ref y))
  §k a _ (.inl rfl) e
 |ext φ=>¶⟨p,⟨o,e⟩,st⟩:=x;§⟨st _ _ p λo q=>k _ _ (.inl rfl) q,⟨o,k _ _ (.inl rfl) e⟩,st⟩
÷HOk.lt(x:HOk P w H h)(e:H a=some o):a < h.objs.size:=(x a o e).lt
÷HOk.fresh(x:HOk P w H h)(e:h.objs.size<=a):H a=none:=by
 cases q:H a with
 |none=>rfl
 |some u=>§absurd (Ù (x.lt q) e) (Á4 _)
÷HOk.kept(x:HOk P w H h)(k:∀ b u,h.get? b=some u->h'.get? b=some u):HOk P w H h':=λa o e =>
 (x a o e).l41 (λb u _ q=>k b u q) (λ_ q=>q) λ_ _ q=>q
÷HOk.laid(x:HOk P w H h)(k:∀ b u,h.get? b=some u->h'.get? b=some u)(hp:h.objs.size<=a)(new:h50 P w (upd H a o) h' a o):HOk P w (upd H a o) h':=λb u e=>by
 have hn:=x.fresh hp
 by_cases hb:b=a
 ·subst hb;rw[b20] at e;cases e;§new
 ·rw[a60 hb] at e
  §(x b u e).l41 (λc v _ q=>k c v q) (λc q=>by rw[a60 (a80 q hn)];§q) λc xs q=>by rw[a60 (a80 q hn)];§q
end
def Rd(H:Hp)(a:Ç)(u:HO):Prop:=H a=some u∨∃ o,H a=some (.frz o u)
÷Rd.ok(r:Rd H a u)(x:HOk P w H h):h50 P w H h a u:=by
 rcases r with r | ⟨o,r⟩
 ·§x a u r
 ·¶⟨_,q⟩:=x a _ r
  §q
def Mut:Option HO->Prop
 |some (.lst _)=>True
 |some (.dK _)=>True
 |some (.dT _)=>True
 |some (.set _ _)=>True
 |some (.ins _ _ _)=>True
 |some (.ext _)=>True
 |_=>False
section
variable {P:ß}{w:è}{H:Hp}{h h':ì}{x e:Ç}{o':HO}
÷HOk.write(ok:HOk P w H h)(mu:Mut (H x))(he:e=x∨H e=some (.own x))(k:∀ b u,b≠e->h.get? b=some u->h'.get? b=some u)(heo:∃ u,h'.get? e=some u)
  (new:h50 P w (upd H x o') h' x o'):HOk P w (upd H x o') h':=λb u q=>by
 have nown:∀ c y,H c=some (.own y)->c≠x:=λc y r z=>by subst z;rw[r] at mu;§mu
 have ntup:∀ c xs,H c=some (.tup xs)->c≠x:=λc xs r z=>by subst z;rw[r] at mu;§mu
 by_cases hb:b=x
 ·subst hb;rw[b20] at q;cases q;§new
 ·rw[a60 hb] at q
  by_cases hbe:b=e
  ·have q':H b=some (.own x):=by
    rcases he with z | z
    ·§absurd (hbe.trans z) hb
    ·rw[hbe];§z
   rw[q] at q';cases q'
   ¶⟨v,hv⟩:=heo
   §⟨v,by rw[hbe];§hv⟩
  ·¤(ok b u q).l41 (λc v hc r=>k c v ?_ r) (λc r=>by rw[a60 (nown c b r)];§r) λc xs r=>by rw[a60 (ntup c xs r)];§r
   rcases hc with rfl | hc
   ·§hbe
   ·rintro rfl
    rcases he with z | z
    ·§nown c b hc z
    ·rw[hc] at z;cases z;§hb rfl
end
structure Un(fs ex:List Addr)(H H':Hp)(h h':Heap):Prop where
 keep:∀ b o,h.get? b=some o->H b=none->b ∉ fs->b ∉ ex->h'.get? b=some o
 slot:∀ b o,h.get? b=some o->H b=none->b∈fs->b ∉ ex->∃ sl,h'.get? b=some { o with slots:=sl }
 free:∀ b o,h.get? b=some o->H b=none->b ∉ ex->H' b=none
 there:∀ b o,h.get? b=some o->b ∉ ex->∃ o',h'.get? b=some o'
 tups:∀ b xs,H b=some (.tup xs)->H' b=some (.tup xs)
 frzs:∀ b o u,H b=some (.frz o u)->H' b=some (.frz o u)
 tbls:∀ b ps,H b=some (.tbl ps)->∃ more,H' b=some (.tbl (ps++more))
section
variable {fs fs' ex ex':List Ç}{H H1 H2:Hp}{h h1 h2 h':ì}{a x e:Ç}{o:HO}
÷Un.any(u:Un fs ex H H1 h h1){b:Ç}{ob:Obj}(q:h.get? b=some ob)(n:H b=none)(hx:b ∉ ex):∃ sl,h1.get? b=some { ob with slots:=sl }:=by
 by_cases hb:b∈fs
 ·§u.slot b ob q n hb hx
 ·§⟨ob.slots,u.keep b ob q n hb hx⟩
÷Un.trans(a:Un fs ex H H1 h h1)(b:Un fs ex H1 H2 h1 h2):Un fs ex H H2 h h2 where
 keep:=λc ob q n hc hx=>b.keep c ob (a.keep c ob q n hc hx) (a.free c ob q n hx) hc hx
 slot:=λc ob q n hc hx=>by
  ¶⟨sl,e1⟩:=a.slot c ob q n hc hx
  ¶⟨sl',e2⟩:=b.slot c _ e1 (a.free c ob q n hx) hc hx
  §⟨sl',e2⟩
 free:=λc ob q n hx=>by
  ¶⟨o',e1⟩:=a.there c ob q hx
  §b.free c o' e1 (a.free c ob q n hx) hx
 there:=λc ob q hx=>by
  ¶⟨o',e1⟩:=a.there c ob q hx
  §b.there c o' e1 hx
 tups:=λc xs q=>b.tups c xs (a.tups c xs q)
 frzs:=λc ob xs q=>b.frzs c ob xs (a.frzs c ob xs q)
 tbls:=λc ps q=>by
  ¶⟨m1,e1⟩:=a.tbls c ps q
  ¶⟨m2,e2⟩:=b.tbls c _ e1
  §⟨m1++m2,by rw[e2,Array.append_assoc]⟩
÷Un.kept(k:∀ b u,h.get? b=some u->h'.get? b=some u):Un fs ex H H h h' :=
 ⟨λb ob q _ _ _=>k b ob q,λb ob q _ _ _=>⟨ob.slots,k b ob q⟩,λ_ _ _ n _=>n,λb ob q _=>⟨ob,k b ob q⟩,λ_ _ q=>q,λ_ _ _ q=>q,λ_ ps q=>⟨#[],by rw[q];simp⟩⟩
÷Un.refl:Un fs ex H H h h:=Un.kept λ_ _ q=>q
÷Un.laid(k:∀ b u,h.get? b=some u->h'.get? b=some u)(hp:h.objs.size<=a)(hn:H a=none):Un fs ex H (upd H a o) h h' where
 keep:=λb u q _ _ _=>k b u q
 slot:=λb u q _ _ _=>⟨u.slots,k b u q⟩
 free:=λb u q n _=>by rw[a60 (Ø (Ù (à q) hp))];§n
 there:=λb u q _=>⟨u,k b u q⟩
 tups:=λb xs q=>by rw[a60 (a80 q hn)];§q
 frzs:=λb u xs q=>by rw[a60 (a80 q hn)];§q
 tbls:=λb ps q=>⟨#[],by rw[a60 (a80 q hn),q];simp⟩
÷Un.write(mu:Mut (H x))(he:e=x∨H e=some (.own x))(k:∀ b u,b≠e->h.get? b=some u->h'.get? b=some u)(heo:∃ u,h'.get? e=some u):Un fs ex H (upd H x o) h h':=by
 have hx:∀ b,H b=none->b≠x:=λb n z=>by subst z;rw[n] at mu;§mu
 have hb:∀ b,H b=none->b≠e:=λb n z=>by
  subst z
  rcases he with r | r
  ·§hx b n r
  ·rw[n] at r;cases r
 have hm:∀ b u,H b=some u->¬ Mut (some u)->b≠x:=λb u q nm z=>by subst z;rw[q] at mu;§nm mu
 ¤⟨λb u q n _ _=>k b u (hb b n) q,λb u q n _ _=>⟨u.slots,k b u (hb b n) q⟩,λb u q n _=>by rw[a60 (hx b n)];§n,λb u q _=>?_,
  λb xs q=>by rw[a60 (hm b _ q λz=>z)];§q,λb u xs q=>by rw[a60 (hm b _ q λz=>z)];§q,λb ps q=>⟨#[],by rw[a60 (hm b _ q λz=>z),q];simp⟩⟩
 by_cases hbe:b=e
 ·subst hbe;§heo
 ·§⟨u,k b u hbe q⟩
÷Un.mono(u:Un fs ex H H1 h h1)(hs:∀ b∈fs,b∈fs')(hx:∀ b∈ex,b∈ex'):Un fs' ex' H H1 h h1 :=
 ⟨λb ob q n hb he=>u.keep b ob q n (λz=>hb (hs b z)) λz=>he (hx b z),λ_ _ q n _ he=>u.any q n λz=>he (hx _ z),λb ob q n he=>u.free b ob q n λz=>he (hx b z),λb ob q he=>u.there b ob q λz=>he (hx b z),u.tups,u.frzs,u.tbls⟩
end
def trk(h:ì)(H:Hp):List Addr:=(í h.objs.size).filter λa=>(H a).isSome
def I11(h:ì)(H:Hp):Heap:=hideAll h (trk h H)
÷q51(h:ì)(H:Hp):(I11 h H).objs.size=h.objs.size:=PySem.W.hideAll_size _ _
÷I90(e:h.get? b=some o)(n:H b=none):(I11 h H).get? b=some o :=
 hideAll_get _ e λhm=>by
  have q:(H b).isSome=true:=(Ý1.mp hm).2
  rw[n] at q;simp at q
÷Y21(e:(I11 h H).get? b=some o):h.get? b=some o/\H b=none:=by
 have e':h.get? b=some o:=of_hideAll (trk h H) e
 ¤⟨e',?_⟩
 cases q:H b with
 |none=>rfl
 |some x =>
  have hm:b∈trk h H:=Ý1.mpr ⟨Ä3.mpr (à e'),by simp[q]⟩
  have z:(I11 h H).get? b=none:=PySem.W.hideAll_none (trk h H) hm
  rw[z] at e;cases e
structure Mod(K:PySem.W.Frag)(mg:Str->Option Value)(base:Heap):Prop where
 kin:K.In base
 glob:base.Ns mainGlobals mg
 blt:∃ mb,base.Ns builtinsNs mb/\∀ x:Str,x≠"__name__"->mb x=bootBuiltins x
 nolimit:base.NoLimit
structure Cx where
 prog:Program
 w:World
 K:PySem.W.Frag
 mg:Str->Option Value
 base:Heap
 A:Around
 N:List Str
 s₀:Shared
 H₀:Hp
 env:Env
 outer:List Env
 stack:List Env
 ex:List Addr
 fn:Str->Bool
 calm:Bool
 pn:List (Addr × Obj)
 xe:Value->Shared->Prop
def frs(l:List Env):List Addr:=l.filterMap (·.frame)
abbrev Cx.fs(X:Cx):List Addr:=frs X.outer
def Vis(sc:ý)(x:Str):Prop:=sc.names.lookup x=some .local∨sc.names.lookup x=some .cell∨sc.names.lookup x=some .free
def Loc(sc:ý)(x:Str):Prop:=sc.names.lookup x=some .local∨sc.names.lookup x=some .cell
def Look(env:Env)(h:ì)(m:Str->Option Ä)(x:Str)(u:Ä):Prop :=
 (env.kindOf x=some .local/\m x=some u)∨((env.kindOf x=some .cell∨env.kindOf x=some .free)/\∃ c,env.cells.lookup x=some c/\h.IsCell c (some u))
structure Cx.Ok(X:Cx):Prop where
 mod:Mod X.K X.mg X.base
 kind:X.env.scope.kind=.function
 glob:X.env.globals=mainGlobals
 blt:X.env.builtins=builtinsNs
 above:X.s₀.heap.objs.size<=X.env.locals
 inj:∀ x y c,X.env.cells.lookup x=some c->X.env.cells.lookup y=some c->x=y
 has:∀ x,(X.env.kindOf x=some .cell∨X.env.kindOf x=some .free)->∃ c,X.env.cells.lookup x=some c
 cab:∀ x c,X.fn x=true->X.env.cells.lookup x=some c->X.s₀.heap.objs.size<=c
 hd:X.calm=true->X.A.handled=none
 frames:X.A.frames=some X.stack
 stk:X.stack=X.outer∨(X.stack=X.env::X.outer/\X.env.frame=some X.env.locals)
 exf:∀ b∈X.ex,b≠X.env.locals/\∀ x c,X.env.cells.lookup x=some c->c≠b
 bs:∀ b o,X.base.get? b=some o->X.s₀.heap.get? b=some o/\X.H₀ b=none
 bsz:X.base.objs.size<=X.s₀.heap.objs.size
 noex:∀ b o,X.base.get? b=some o->b ∉ X.ex
 exfs:∀ b∈X.ex,b ∉ X.fs
 l51:X.s₀.heap.FunFrames X.base X.outer
 frf:∀ b∈X.fs,X.H₀ b=none
structure Inv(X:Cx)(pins:List (Addr × Obj))(σ:List (Option V))(H:Hp)(s:Shared):Prop where
 ok:X.Ok
 os:s.os=X.s₀.os
 bare:AllBare s.gens
 base:Un X.fs X.ex X.H₀ H X.s₀.heap s.heap
 loc:∃ m,s.heap.Ns X.env.locals m/\∀ (i:Nat) (x:Str) (v:V),X.N[i]?=some x->σ[i]?=some (some v)->Vis X.env.scope x->∃ u,RelV v u/\Look X.env s.heap m x u
 cell:∀ x c,X.env.cells.lookup x=some c->∃ v,s.heap.IsCell c v
 free:H X.env.locals=none
 freeC:∀ x c,X.env.cells.lookup x=some c->H c=none
 pin:∀ p∈X.pn++pins,s.heap.get? p.1=some p.2/\H p.1=none/\p.1≠X.env.locals/\p.1 ∉ X.fs/\∀ v,p.2.data≠.cell v
 hok:HOk X.prog X.w H s.heap
 len:σ.length=X.N.length
section
variable {X:Cx}{pins:List (Ç × Obj)}{σ:List (Option V)}{H H':Hp}{s:Æ}{h':ì}
÷Cx.Ok.Q82(ok:X.Ok)(e:X.base.get? b=some o):b ∉ X.fs:=λhb=>by
 have:=(ok.l51.mem hb).1
 rw[e] at this;cases this
÷Inv.bs(I:Inv X pins σ H s):∀ b o,X.base.get? b=some o->s.heap.get? b=some o/\H b=none:=λb o e =>
 ⟨I.base.keep b o (I.ok.bs b o e).1 (I.ok.bs b o e).2 (I.ok.Q82 e) (I.ok.noex b o e),I.base.free b o (I.ok.bs b o e).1 (I.ok.bs b o e).2 (I.ok.noex b o e)⟩
÷Inv.bk(I:Inv X pins σ H s):∀ b o,X.base.get? b=some o->s.heap.get? b=some o:=λb o e=>(I.bs b o e).1
÷Inv.mod(I:Inv X pins σ H s):Mod X.K X.mg X.base:=I.ok.mod
÷Inv.kIn(I:Inv X pins σ H s):X.K.In s.heap:=I.ok.mod.kin.keeps I.bk
÷Inv.lt(I:Inv X pins σ H s):X.env.locals < s.heap.objs.size:=let ⟨_,hn,_⟩:=I.loc;hn.lt
÷Inv.sz(I:Inv X pins σ H s):X.s₀.heap.objs.size<=s.heap.objs.size:=Ñ I.ok.above (É3 I.lt)
÷Inv.Q92(I:Inv X pins σ H s)(h:s.heap.objs.size<=a):a ∉ X.fs:=λhb=>by
 ¶⟨_,o,ho,_⟩:=I.ok.l51.mem hb
 §absurd (Ù (à ho) (Ñ I.sz h)) (Á4 _)
÷Inv.cne(I:Inv X pins σ H s):∀ x c,X.env.cells.lookup x=some c->c≠X.env.locals:=λx c e z=>by
 ¶⟨v,o,ho,hd⟩:=I.cell x c e
 ¶⟨m,⟨o',es,ep,ho',hd',_⟩,_⟩:=I.loc
 rw[z,ho'] at ho;cases ho;rw[hd'] at hd;cases hd
÷Inv.l51(I:Inv X pins σ H s):s.heap.FunFrames X.base X.outer:=by
 have all:∀ (l:List Env),(∀ b∈frs l,b∈X.fs)->X.s₀.heap.FunFrames X.base l->s.heap.FunFrames X.base l:=by
  intro l
  induction l with
  |nil=>intro _ _;trivial
  |cons env r ih =>
   intro hs hl
   ¶⟨hk,⟨L,o,hf,hn,ho,hd⟩,hr⟩:=hl
   have hL:L∈X.fs:=hs L (by unfold frs;rw[Á3,hf];§Ì)
   ¶⟨sl,e⟩:=I.base.slot L o ho (I.ok.frf L hL) hL λz=>I.ok.exfs L z hL
   §⟨hk,⟨L,_,hf,hn,e,hd⟩,ih (λb hb=>hs b (by unfold frs;rw[Á3,hf];§È _ hb)) hr⟩
 §all X.outer (λ_ hb=>hb) I.ok.l51
÷Inv.stack(I:Inv X pins σ H s):s.heap.FunFrames X.base X.stack:=by
 rcases I.ok.stk with e | ⟨e,hf⟩
 ·rw[e];§I.l51
 ·rw[e]
  ¶⟨m,hn,_⟩:=I.loc
  ¤.cons (by rw[I.ok.kind];decide) hf hn ?_ I.l51
  §ì.get?_none_of_le (Ñ I.ok.bsz I.ok.above)
÷Inv.q61(I:Inv X pins σ H s):∀ b∈frs X.stack,b∈X.env.locals::X.fs:=λb hb=>by
 rcases I.ok.stk with e | ⟨e,hf⟩
 ·rw[e] at hb;§È _ hb
 ·rw[e] at hb
  unfold frs at hb
  rw[Á3,hf] at hb
  §hb
÷Inv.v90(I:Inv X pins σ H s):∀ b∈frs X.stack,H b=none:=λb hb=>by
 rcases ú.mp (I.q61 b hb) with e | hb
 ·rw[e];§I.free
 ·¶⟨_,o,ho,_⟩:=I.ok.l51.mem hb
  §I.base.free b o ho (I.ok.frf b hb) λz=>I.ok.exfs b z hb
÷Inv.step{g':Array Þ1}{t':Nat}{d':Drawn}{ch:List Ç}(I:Inv X pins σ H s)
  (hch:∀ b∈ch,(b∈X.ex∨X.s₀.heap.objs.size<=b)/\b≠X.env.locals/\(∀ x c,X.env.cells.lookup x=some c->c≠b)/\∀ p∈X.pn++pins,p.1≠b)
  (keep:∀ b o,b≠X.env.locals->b ∉ X.fs->b ∉ ch->s.heap.get? b=some o->H b=none->h'.get? b=some o)
  (slot:∀ b o,b≠X.env.locals->b∈X.fs->b ∉ ch->s.heap.get? b=some o->H b=none->∃ sl,h'.get? b=some { o with slots:=sl }) (free:∀ b o,b ∉ ch->s.heap.get? b=some o->H b=none->H' b=none)
  (there:∀ b o,b ∉ ch->s.heap.get? b=some o->∃ o',h'.get? b=some o')
  (tups:∀ b xs,H b=some (.tup xs)->H' b=some (.tup xs)) (frzs:∀ b o u,H b=some (.frz o u)->H' b=some (.frz o u)) (tbls:∀ b ps,H b=some (.tbl ps)->∃ more,H' b=some (.tbl (ps++more)))
  (ns:∀ m,s.heap.Ns X.env.locals m->h'.Ns X.env.locals m) (hok:HOk X.prog X.w H' h') (hg:Ó5 g') :
  Inv X pins σ H' { s with heap:=h',gens:=g',drawn:=d',toks:=t' }:=by
 have neL:∀ b o,X.s₀.heap.get? b=some o->b≠X.env.locals:=λb o e=>Ø (Ù (à e) I.ok.above)
 have neC:∀ b o,X.s₀.heap.get? b=some o->b ∉ X.ex->b ∉ ch:=λb o e hx hb=>by
  rcases (hch b hb).1 with z | z
  ·§hx z
  ·§absurd (Ù (à e) z) (Á4 _)
 have cellK:∀ x c,X.env.cells.lookup x=some c->∀ v,s.heap.IsCell c v->h'.IsCell c v:=λx c e v ⟨o,ho,hd⟩=>by
  have nch:c ∉ ch:=λz=>(hch c z).2.2.1 x c e rfl
  by_cases hc:c∈X.fs
  ·¶⟨sl,q⟩:=slot c o (I.cne x c e) hc nch ho (I.freeC x c e)
   §⟨_,q,hd⟩
  ·§⟨o,keep c o (I.cne x c e) hc nch ho (I.freeC x c e),hd⟩
 ¤⟨I.ok,I.os,hg,⟨λb o e n hb hx=>?_,λb o e n hb hx=>?_,λb o e n hx=>?_,λb o e hx=>?_,λb xs e=>tups b xs (I.base.tups b xs e),λb o xs e=>frzs b o xs (I.base.frzs b o xs e),λb ps e=>?_⟩,?_,λx c e=>?_,?_,λx c e=>?_,λp hp=>?_,hok,I.len⟩
 ·§keep b o (neL b o e) hb (neC b o e hx) (I.base.keep b o e n hb hx) (I.base.free b o e n hx)
 ·¶⟨sl,e1⟩:=I.base.slot b o e n hb hx
  ¶⟨sl',e2⟩:=slot b _ (neL b o e) hb (neC b o e hx) e1 (I.base.free b o e n hx)
  §⟨sl',e2⟩
 ·¶⟨o',e1⟩:=I.base.there b o e hx
  §free b o' (neC b o e hx) e1 (I.base.free b o e n hx)
 ·¶⟨o',e1⟩:=I.base.there b o e hx
  §there b o' (neC b o e hx) e1
 ·¶⟨m1,e1⟩:=I.base.tbls b ps e
  ¶⟨m2,e2⟩:=tbls b _ e1
  §⟨m1++m2,by rw[e2,Array.append_assoc]⟩
 ·¶⟨m,hn,hl⟩:=I.loc
  ¤⟨m,ns m hn,λi x v e1 e2 e3=>?_⟩
  ¶⟨u,r,l⟩:=hl i x v e1 e2 e3
  ¤⟨u,r,?_⟩
  rcases l with l | ⟨k,c,e,z⟩
  ·§.inl l
  ·§.inr ⟨k,c,e,cellK x c e _ z⟩
 ·¶⟨v,z⟩:=I.cell x c e
  §⟨v,cellK x c e v z⟩
 ·¶⟨m,⟨o,_,_,ho,_⟩,_⟩:=I.loc
  §free _ o (λz=>(hch _ z).2.1 rfl) ho I.free
 ·¶⟨v,o,ho,hd⟩:=I.cell x c e
  §free c o (λz=>(hch c z).2.2.1 x c e rfl) ho (I.freeC x c e)
 ·¶⟨e,n,ne,nf,d⟩:=I.pin p hp
  have nch:p.1 ∉ ch:=λz=>(hch p.1 z).2.2.2 p hp rfl
  §⟨keep p.1 p.2 ne nf nch e n,free p.1 p.2 nch e n,ne,nf,d⟩
÷Inv.un{t':Nat}(I:Inv X pins σ H s)(u:Un X.fs [] H H' s.heap h')(hok:HOk X.prog X.w H' h'):Inv X pins σ H' { s with heap:=h',toks:=t' }:=by
 ¶⟨m,⟨o,es,ep,ho,r⟩,_⟩:=id I.loc
 ¶⟨sl,hL⟩:=u.any ho I.free (by simp)
 §I.step (g':=s.gens) (d':=s.drawn) (ch:=[]) (λ_ z=>nomatch z) (λb o _ hb _ e n=>u.keep b o e n hb (by simp)) (λb o _ hb _ e n=>u.slot b o e n hb (by simp)) (λb o _ e n=>u.free b o e n (by simp)) (λb o _ e=>u.there b o e (by simp)) u.tups u.frzs u.tbls (λm' hm=>by
  ¶⟨o',es',ep',ho',r'⟩:=hm
  rw[ho] at ho';cases ho'
  §⟨_,es',ep',hL,r'⟩) hok I.bare
÷Inv.call{g':Array Þ1}{t':Nat}{d':Drawn}{ch:List Ç}(I:Inv X pins σ H s)(u:Un (frs X.stack) ch H H' s.heap h')(hok:HOk X.prog X.w H' h')(hg:Ó5 g')
  (hch:∀ b∈ch,(b∈X.ex∨X.s₀.heap.objs.size<=b)/\b≠X.env.locals/\(∀ x c,X.env.cells.lookup x=some c->c≠b)/\∀ p∈X.pn++pins,p.1≠b) :
  Inv X pins σ H' { s with heap:=h',gens:=g',drawn:=d',toks:=t' }:=by
 ¶⟨m,⟨o,es,ep,ho,r⟩,_⟩:=id I.loc
 ¶⟨sl,hL⟩:=u.any ho I.free λz=>(hch _ z).2.1 rfl
 §I.step (ch:=ch) hch (λb o hL hb hc e n=>u.keep b o e n (λz=>(ú.mp (I.q61 b z)).elim hL hb) hc) (λb o _ _ hc e n=>u.any e n hc) (λb o hc e n=>u.free b o e n hc) (λb o hc e=>u.there b o e hc) u.tups u.frzs u.tbls (λm' hm=>by
  ¶⟨o',es',ep',ho',r'⟩:=hm
  rw[ho] at ho';cases ho'
  §⟨_,es',ep',hL,r'⟩) hok hg
÷Inv.turned{t':Nat}{it:Ç}(I:Inv X pins σ H s)(k:∀ b o,b≠it->s.heap.get? b=some o->h'.get? b=some o)(hn:H it=none)(hL:it≠X.env.locals)
  (h1:it∈X.ex∨X.s₀.heap.objs.size<=it) (h2:∀ x c,X.env.cells.lookup x=some c->c≠it) (h3:∀ p∈X.pn++pins,p.1≠it):Inv X pins σ H { s with heap:=h',toks:=t' }:=by
 have nit:∀ b u,H b=some u->b≠it:=λb u e z=>by rw[z,hn] at e;cases e
 ¤I.step (g':=s.gens) (d':=s.drawn) (ch:=[it]) (λb hb=>?_) (λb o _ _ hc e _=>k b o (λz=>hc (by simp[z])) e) (λb o _ _ hc e _=>⟨o.slots,k b o (λz=>hc (by simp[z])) e⟩) (λ_ _ _ _ n=>n)
  (λb o hc e=>⟨o,k b o (λz=>hc (by simp[z])) e⟩) (λ_ _ e=>e) (λ_ _ _ e=>e) (λb ps e=>⟨#[],by rw[e];simp⟩) (λm hm=>?_) (λb u e=>?_) I.bare
 ·have e:b=it:=by simpa using hb
  subst e
  §⟨h1,hL,h2,h3⟩
 ·¶⟨o,es,ep,ho,r⟩:=hm
  §⟨o,es,ep,k _ o (Â3 hL) ho,r⟩
 ·¤(I.hok b u e).l41 (λc v hc q=>k c v ?_ q) (λ_ q=>q) λ_ _ q=>q
  rcases hc with z | z
  ·rw[z];§nit b u e
  ·§nit c _ z
÷Inv.tok(I:Inv X pins σ H s)(t:Nat):Inv X pins σ H { s with toks:=t }:=I.un (h':=s.heap) (t':=t) Un.refl I.hok
÷Inv.kept{t':Nat}(I:Inv X pins σ H s)(k:∀ b u,s.heap.get? b=some u->h'.get? b=some u):Inv X pins σ H { s with heap:=h',toks:=t' }:=I.un (Un.kept k) (I.hok.kept k)
÷Inv.laid{t':Nat}(I:Inv X pins σ H s)(k:∀ b u,s.heap.get? b=some u->h'.get? b=some u)(hp:s.heap.objs.size<=a)(new:h50 X.prog X.w (upd H a o) h' a o) :
  Inv X pins σ (upd H a o) { s with heap:=h',toks:=t' }:=I.un (Un.laid k hp (I.hok.fresh hp)) (I.hok.laid k hp new)
÷Inv.write{x e:Ç}{o:HO}{t':Nat}(I:Inv X pins σ H s)(mu:Mut (H x))(he:e=x∨H e=some (.own x))(k:∀ b u,b≠e->s.heap.get? b=some u->h'.get? b=some u)(heo:∃ u,h'.get? e=some u)
  (new:h50 X.prog X.w (upd H x o) h' x o):Inv X pins σ (upd H x o) { s with heap:=h',toks:=t' }:=I.un (Un.write mu he k heo) (I.hok.write mu he k heo new)
÷Inv.B10(I:Inv X pins σ H s)(h:∀ p∈pins',s.heap.get? p.1=some p.2/\H p.1=none/\p.1≠X.env.locals/\p.1 ∉ X.fs/\∀ v,p.2.data≠.cell v):Inv X pins' σ H s :=
 ⟨I.ok,I.os,I.bare,I.base,I.loc,I.cell,I.free,I.freeC,λp hp=>(Á7.mp hp).elim (λz=>I.pin p (Æ6 _ z)) (h p),I.hok,I.len⟩
÷e11{N:List Str}(hN:N.Nodup){i j:Nat}{x:Str}(a:N[i]?=some x)(b:N[j]?=some x):i=j:=by
 ¶⟨h1,e1⟩:=Þ.mp a
 ¶⟨h2,e2⟩:=Þ.mp b
 §(List.getElem_inj hN).mp (e1.trans e2.symm)
÷B20{M:Model}{A:ø}{E:Ä->Æ->Prop}{i:Nat}{x:Str}{v:V}{u:Ä}{Q:Unit->Æ->Prop}(I:Inv X pins σ H s)(hN:X.N.Nodup)(hi:X.N[i]?=some x)(hx:Loc X.env.scope x)(r:RelV v u)
  (h:∀ s',Inv X pins (σ.set i (some v)) H s'->(∃ a,Ë7 a s.heap s'.heap/\(a=X.env.locals∨X.env.cells.lookup x=some a))->Q () s') (hf:X.fn x=true∨X.env.scope.names.lookup x=some .local:=by first | §.inl rfl | §.inr rfl | assumption):Ï M A (storeName X.env x u) Q E s:=by
 ¶⟨m,hn,hl⟩:=id I.loc
 have hcls:(X.env.scope.kind == .class || (X.env.scope.kind == .module&&X.env.locals != X.env.globals))=false:=by rw[I.ok.kind];rfl
 have hiσ:i < σ.length:=by rw[I.len];§(Þ.mp hi).1
 have cne:=I.cne
 have tracked:∀ {a:Ç}{h':ì},(∃ o,s.heap.get? a=some o/\H a=none)->Ë7 a s.heap h'->HOk X.prog X.w H h':=λ{a h'} ha hs b ob e=>by
  ¶⟨_,_,hfree⟩:=ha
  ¤(I.hok b ob e).l41 (λc w' hc q=>(hs.2 c ?_).trans q) (λ_ q=>q) λ_ _ q=>q
  rintro rfl
  rcases hc with rfl | hc
  ·rw[hfree] at e;cases e
  ·rw[hfree] at hc;cases hc
 rcases hx with hk | hk
 ·¤wpAny_storeName_local hk hn (λh' hn' hs=>?_) hcls
  ¶⟨oL,_,_,hoL,_⟩:=id hn
  ¤h _ ⟨I.ok,I.os,I.bare,⟨λb o e n hb hx=>?_,λb o e n hb hx=>?_,I.base.free,λb o e hx=>?_,I.base.tups,I.base.frzs,I.base.tbls⟩,⟨_,hn',λj y v' e1 e2 e3=>?_⟩,λy c e=>?_,I.free,I.freeC,λp hp=>?_,tracked ⟨oL,hoL,I.free⟩ hs,by simpa using I.len⟩ ⟨_,hs,.inl rfl⟩
  ·§(hs.2 b (Ø (Ù (à e) I.ok.above))).trans (I.base.keep b o e n hb hx)
  ·¶⟨sl,e1⟩:=I.base.slot b o e n hb hx
   §⟨sl,(hs.2 b (Ø (Ù (à e) I.ok.above))).trans e1⟩
  ·¶⟨o',e1⟩:=I.base.there b o e hx
   §⟨o',(hs.2 b (Ø (Ù (à e) I.ok.above))).trans e1⟩
  ·by_cases hj:j=i
   ·subst hj
    rw[hi] at e1;cases e1
    rw[ð hiσ] at e2
    cases e2
    §⟨u,r,.inl ⟨hk,by simp⟩⟩
   ·rw[ê (Â3 hj)] at e2
    ¶⟨u',r',q⟩:=hl j y v' e1 e2 e3
    ¤⟨u',r',?_⟩
    rcases q with ⟨k,e⟩ | ⟨k,c,e,z⟩
    ·¤.inl ⟨k,?_⟩
     have:y≠x:=λe=>hj (e11 hN e1 (e ▸ hi))
     simp[this,e]
    ·§.inr ⟨k,c,e,z.sameBut hs (cne y c e)⟩
  ·¶⟨w',z⟩:=I.cell y c e
   §⟨w',z.sameBut hs (cne y c e)⟩
  ·¶⟨e,n,ne,nf,d⟩:=I.pin p hp
   §⟨(hs.2 p.1 ne).trans e,n,ne,nf,d⟩
 ·have hfn:X.fn x=true:=by
   rcases hf with z | z
   ·§z
   ·rw[z] at hk;cases hk
  ¶⟨c,hc⟩:=I.ok.has x (.inl hk)
  ¶⟨w',z⟩:=I.cell x c hc
  ¤wpAny_storeName_cell I.ok.kind hk hc z (λh' hc' hs=>?_)
  ¶⟨oc,hoc,hocd⟩:=id z
  ¤h { s with heap:=h' } ⟨I.ok,I.os,I.bare,⟨λb o e n hb hx=>?_,λb o e n hb hx=>?_,I.base.free,λb o e hx=>?_,I.base.tups,I.base.frzs,I.base.tbls⟩,⟨m,hn.sameBut hs (Â3 (cne x c hc)),λj y v' e1 e2 e3=>?_⟩,λy c' e=>?_,I.free,I.freeC,λp hp=>?_,tracked ⟨oc,hoc,I.freeC x c hc⟩ hs,by simpa using I.len⟩ ⟨c,hs,.inr hc⟩
  ·§(hs.2 b (Ø (Ù (à e) (I.ok.cab x c hfn hc)))).trans (I.base.keep b o e n hb hx)
  ·¶⟨sl,e1⟩:=I.base.slot b o e n hb hx
   §⟨sl,(hs.2 b (Ø (Ù (à e) (I.ok.cab x c hfn hc)))).trans e1⟩
  ·¶⟨o',e1⟩:=I.base.there b o e hx
   §⟨o',(hs.2 b (Ø (Ù (à e) (I.ok.cab x c hfn hc)))).trans e1⟩
  ·by_cases hj:j=i
   ·subst hj
    rw[hi] at e1;cases e1
    rw[ð hiσ] at e2
    cases e2
    §⟨u,r,.inr ⟨.inl hk,c,hc,hc'⟩⟩
   ·rw[ê (Â3 hj)] at e2
    ¶⟨u',r',q⟩:=hl j y v' e1 e2 e3
    ¤⟨u',r',?_⟩
    rcases q with q | ⟨k,c',e,z'⟩
    ·§.inl q
    ·¤.inr ⟨k,c',e,z'.sameBut hs ?_⟩
     rintro rfl
     §hj (e11 hN e1 (I.ok.inj _ _ _ e hc ▸ hi))
  ·by_cases hcc:c'=c
   ·subst hcc;§⟨_,hc'⟩
   ·¶⟨w2,z2⟩:=I.cell y c' e
    §⟨w2,z2.sameBut hs hcc⟩
  ·¶⟨e,n,ne,nf,d⟩:=I.pin p hp
   ¤⟨(hs.2 p.1 ?_).trans e,n,ne,nf,d⟩
   intro q
   rw[q,hoc] at e
   have q':oc=p.2:=À6 e
   §d w' (by rw[← q'];§hocd)
÷t40{M:Model}{A:ø}{E:Ä->Æ->Prop}{i:Nat}{x:Str}{v:V}{u:Ä}{Q:Unit->Æ->Prop}(I:Inv X pins σ H s)(hN:X.N.Nodup)(hi:X.N[i]?=some x)(hx:Loc X.env.scope x)(r:RelV v u)
  (h:∀ s',Inv X pins (σ.set i (some v)) H s'->Q () s') (hf:X.fn x=true∨X.env.scope.names.lookup x=some .local:=by first | §.inl rfl | §.inr rfl | assumption):Ï M A (storeName X.env x u) Q E s :=
 B20 I hN hi hx r (λs' I' _=>h s' I') hf
÷Inv.m32(I:Inv X pins σ H s)(ho:s'.os=s.os)(u:Un (frs X.stack) ch H H' s.heap s'.heap)(hok:HOk X.prog X.w H' s'.heap)(hg:Ó5 s'.gens)
  (hch:∀ b∈ch,(b∈X.ex∨X.s₀.heap.objs.size<=b)/\b≠X.env.locals/\(∀ x c,X.env.cells.lookup x=some c->c≠b)/\∀ p∈X.pn++pins,p.1≠b):Inv X pins σ H' s':=by
 ¶⟨h',g',d',t',o'⟩:=s'
 have e:o'=s.os:=ho
 subst e
 §I.call (g':=g') (t':=t') (d':=d') u hok hg hch
end
abbrev XK:=Ä->Option Ç->Hp->Prop
abbrev St:=List (Option V)
abbrev VK:=V->Hp->Prop
abbrev TE:=St->Hp->VK->Prop
abbrev TT:=St->Hp->(Bool->Hp->Prop)->Prop
abbrev TA:=St->Hp->(List V->Hp->Prop)->Prop
structure Ends where
 nx:St->Hp->Prop
 rt:VK
 bk:St->Hp->Prop:=λ_ _=>False
 ct:St->Hp->Prop:=λ_ _=>False
abbrev TS:=Ends->St->Hp->Prop
def EP(X:Cx)(pins:List (Ç × Obj))(σ:St)(Q:VK)(u:Ä)(s':Æ):Prop:=∃ v H',Inv X pins σ H' s'/\RelV v u/\Q v H'
def TP(X:Cx)(pins:List (Ç × Obj))(σ:St)(Q:Bool->Hp->Prop)(b:Bool)(s':Æ):Prop:=∃ H',Inv X pins σ H' s'/\Q b H'
def AP(X:Cx)(pins:List (Ç × Obj))(σ:St)(Q:List V->Hp->Prop)(us:List Ä)(s':Æ):Prop:=∃ vs H',Inv X pins σ H' s'/\Vals vs us/\Q vs H'
def SP(X:Cx)(pins:List (Ç × Obj))(D:Ends)(f:Flow)(s':Æ):Prop :=
 match f with
 |.next=>∃ σ' H',Inv X pins σ' H' s'/\D.nx σ' H'
 |.brk=>∃ σ' H',Inv X pins σ' H' s'/\D.bk σ' H'
 |.cont=>∃ σ' H',Inv X pins σ' H' s'/\D.ct σ' H'
 |.ret u=>∃ v σ' H',Inv X pins σ' H' s'/\RelV v u/\D.rt v H'
def PE(X:Cx)(e:Ò)(t:TE):Prop :=
 ∀ (pins:List (Ç × Obj)) (s:Æ) (σ:St) (H:Hp) (Q:VK),Inv X pins σ H s->t σ H Q->Ï (Ô X.prog X.w) X.A (eval e X.env) (EP X pins σ Q) X.xe s
def PT(X:Cx)(e:Ò)(t:TT):Prop :=
 ∀ (pins:List (Ç × Obj)) (s:Æ) (σ:St) (H:Hp) (Q:Bool->Hp->Prop),Inv X pins σ H s->t σ H Q->Ï (Ô X.prog X.w) X.A (isTrue e X.env (eval e X.env)) (TP X pins σ Q) X.xe s
def PW(X:Cx)(e:Ò)(t:TT):Prop :=
 ∀ (whole:Sem Ä) (pins:List (Ç × Obj)) (s:Æ) (σ:St) (H:Hp) (Q:Bool->Hp->Prop),Inv X pins σ H s->t σ H Q->Ï (Ô X.prog X.w) X.A (isTrue e X.env whole) (TP X pins σ Q) X.xe s
÷PW.pt(h:PW X e t):PT X e t:=h _
def PA(X:Cx)(es:List Ò)(t:TA):Prop :=
 ∀ (pos:Pos) (pins:List (Ç × Obj)) (s:Æ) (σ:St) (H:Hp) (Q:List V->Hp->Prop),Inv X pins σ H s->t σ H Q->Ï (Ô X.prog X.w) X.A (spliced (Ö0 pos (þ es X.env))) (AP X pins σ Q) X.xe s
def PS(X:Cx)(st:Å1)(t:TS):Prop :=
 ∀ (pins:List (Ç × Obj)) (s:Æ) (σ:St) (H:Hp) (D:Ends),Inv X pins σ H s->t D σ H->Ï (Ô X.prog X.w) X.A (exec st X.env) (SP X pins D) X.xe s
def PSs(X:Cx)(st:List Å1)(t:TS):Prop :=
 ∀ (pins:List (Ç × Obj)) (s:Æ) (σ:St) (H:Hp) (D:Ends),Inv X pins σ H s->t D σ H->Ï (Ô X.prog X.w) X.A (execs st X.env) (SP X pins D) X.xe s
÷thn{α:Type}{t:Sem α}{Q Q':α->Æ->Prop}{M:Model}{A:ø}{E:Ä->Æ->Prop}{s:Æ}(h:Ï M A t Q E s)(hQ:∀ a s,Q a s->Q' a s):Ï M A t Q' E s:=Â1 h hQ λ_ _ x=>x
section
variable {X:Cx}
def m42(i:Nat):TE:=λσ H Q=>∃ v,σ[i]?=some (some v)/\Q v H
def tC(v:V):TE:=λ_ H Q=>Q v H
÷n70{i:Nat}{x:Str}{pos:Pos}(hN:X.N[i]?=some x)(hv:Vis X.env.scope x)(hd:(x == ("__debug__":Str))=false:=by decide)(hcd:(x == ("__classdict__":Str))=false:=by decide):PE X (.Name x pos) (m42 i):=by
 intro pins s σ H Q I h
 ¶⟨v,e,h⟩:=h
 ¶⟨m,hn,hl⟩:=I.loc
 ¶⟨u,r,l⟩:=hl i x v hN e hv
 have fin:EP X pins σ Q u s:=⟨v,H,I,r,h⟩
 rcases l with ⟨hk,hm⟩ | ⟨hk,c,hc,hcell⟩
 ·§Ñ3 (Î5 I.ok.kind hk hn hm fin) hd
 ·rcases hk with hk | hk
  ·§Ñ3 (Ú5 I.ok.kind hk hc hcell fin) hd
  ·§Ñ3 (wpAny_loadName_free I.ok.kind hk hc hcell fin hcd) hd
÷P80{i j pos}:PE X (.Constant (.int i) j pos) (tC (.int i)):=λ_ _ _ H _ I h=>wpAny_Constant_int ⟨.int i,H,I.tok _,⟨_,rfl⟩,h⟩
÷D02{b j pos}:PE X (.Constant (.bool b) j pos) (tC (.bl b)):=λ_ _ _ H _ I h=>Constant_bool ⟨.bl b,H,I,rfl,h⟩
÷q71{j pos}:PE X (.Constant .none j pos) (tC .non):=λ_ _ _ H _ I h=>Constant_none ⟨.non,H,I,rfl,h⟩
÷S91{x j pos}:PE X (.Constant (.str x) j pos) (tC (.str x)):=λ_ _ _ H _ I h=>Calls.Constant_str ⟨.str x,H,I.tok _,⟨_,rfl⟩,h⟩
def Gl(X:Cx)(x:Str):Prop:=X.env.kindOf x=some .globalImplicit
÷J00{E:Ä->Æ->Prop}{pins:List (Ç × Obj)}{s:Æ}{σ:St}{H:Hp}{x:Str}{u:Ä}{pos:Pos}{Q:Ä->Æ->Prop}(I:Inv X pins σ H s)(hg:Gl X x)(hm:X.mg x=some u)(h:Q u s)
  (hd:(x == ("__debug__":Str))=false:=by decide):Ï (Ô X.prog X.w) X.A (eval (.Name x pos) X.env) Q E s :=
 Ï1 I.ok.kind hg (à6 (by rw[I.ok.glob];§I.mod.glob.keeps I.bk) hm h) hd
÷t50{E:Ä->Æ->Prop}{pins:List (Ç × Obj)}{s:Æ}{σ:St}{H:Hp}{x:Str}{u:Ä}{pos:Pos}{Q:Ä->Æ->Prop}(I:Inv X pins σ H s)(hg:Gl X x)(hm:X.mg x=none)(hv:ë x=some u)(h:Q u s)
  (hn:x≠"__name__":=by decide) (hd:(x == ("__debug__":Str))=false:=by decide):Ï (Ô X.prog X.w) X.A (eval (.Name x pos) X.env) Q E s:=by
 ¶⟨mb,h1,h2⟩:=I.mod.blt
 §Ï1 I.ok.kind hg (Calls.loadGlobal_builtin (by rw[I.ok.glob];§I.mod.glob.keeps I.bk) hm (by rw[I.ok.blt];§h1.keeps I.bk) ((h2 x hn).trans hv) h) hd
÷g20{x:Str}{v:V}{u:Ä}{pos:Pos}(hg:Gl X x)(hm:X.mg x=some u)(r:RelV v u)(hd:(x == ("__debug__":Str))=false:=by decide):PE X (.Name x pos) (tC v) :=
 λ_ _ _ H _ I h=>J00 I hg hm ⟨v,H,I,r,h⟩ hd
÷J10{x:Str}{v:V}{u:Ä}{pos:Pos}(hg:Gl X x)(hm:X.mg x=none)(hv:ë x=some u)(r:RelV v u)(hn:x≠"__name__":=by decide)(hd:(x == ("__debug__":Str))=false:=by decide):PE X (.Name x pos) (tC v) :=
 λ_ _ _ H _ I h=>t50 I hg hm hv ⟨v,H,I,r,h⟩ hn hd
variable {a b:Ò}{ta tb:TE}{pos:Pos}
def tB(t:TE):TT:=λσ H Q=>t σ H λx H1=>∃ c,x=.bl c/\Q c H1
÷q81(h:PE X e t)(he:∀ whole,isTrue e X.env whole=(do let v ← whole;standAt e.pos;Ù7 [v] (truthy v)):=by intro _;rfl):PT X e (tB t):=by
 intro pins s σ H Q I hw
 ¤isTrue_plain (thn (h pins s σ H _ I hw) λv s1 ⟨x,H1,I1,r1,q1⟩=>?_) (he _)
 ¶⟨d,rfl,q⟩:=q1
 cases r1
 §Â5 ⟨H1,I1,q⟩
variable {tA tB':TT}{rest:List Ò}
def R02(t u:TT):TT:=λσ H Q=>t σ H λc H1=>if c=true then u σ H1 Q else Q false H1
def tOr(t u:TT):TT:=λσ H Q=>t σ H λc H1=>if c=true then Q true H1 else u σ H1 Q
def R12(t:TT):TT:=λσ H Q=>t σ H λc H1=>Q (!c) H1
÷Y31(ha:PT X a tA):PW X (.BoolOp .And [a] pos) tA:=by
 intro wh pins s σ H Q I h
 ¤isTrue_and (thn (ha pins s σ H Q I h) λc s1 e=>?_)
 cases c with
 |true=>§isTrue_and_nil e
 |false=>§e
÷m52(ha:PT X a tA):PW X (.BoolOp .Or [a] pos) tA:=by
 intro wh pins s σ H Q I h
 ¤isTrue_or (thn (ha pins s σ H Q I h) λc s1 e=>?_)
 cases c with
 |false=>§isTrue_or_nil e
 |true=>§e
÷m62(ha:PT X a tA)(hb:PW X (.BoolOp .And (b::rest) pos) tB'):PW X (.BoolOp .And (a::b::rest) pos) (R02 tA tB'):=by
 intro wh pins s σ H Q I h
 ¤isTrue_and (thn (ha pins s σ H _ I h) λc s1 ⟨H1,I1,q1⟩=>?_)
 cases c with
 |true=>§hb wh pins s1 σ H1 Q I1 q1
 |false=>§⟨H1,I1,q1⟩
÷D12(ha:PT X a tA)(hb:PW X (.BoolOp .Or (b::rest) pos) tB'):PW X (.BoolOp .Or (a::b::rest) pos) (tOr tA tB'):=by
 intro wh pins s σ H Q I h
 ¤isTrue_or (thn (ha pins s σ H _ I h) λc s1 ⟨H1,I1,q1⟩=>?_)
 cases c with
 |true=>§⟨H1,I1,q1⟩
 |false=>§hb wh pins s1 σ H1 Q I1 q1
÷T01(ha:PT X a tA):PT X (.UnaryOp .Not a pos) (R12 tA):=by
 intro pins s σ H Q I h
 §isTrue_not (ha pins s σ H (λc H1=>Q (!c) H1) I h)
def D22(ta tb:TE):TE:=λσ H Q=>ta σ H λx H1=>∃ c,x=.bl c/\if c=true then tb σ H1 Q else Q (.bl false) H1
def R22(ta tb:TE):TE:=λσ H Q=>ta σ H λx H1=>∃ c,x=.bl c/\if c=true then Q (.bl true) H1 else tb σ H1 Q
def D32(ta:TE):TE:=λσ H Q=>ta σ H λx H1=>∃ c,x=.bl c/\Q (.bl (!c)) H1
÷m72(h:PE X a t):PE X (.BoolOp op [a] pos) t:=λpins s σ H Q I hw=>BoolOp_one (h pins s σ H Q I hw)
÷m82(ha:PE X a ta)(hb:PE X (.BoolOp .And (b::rest) pos) tb):PE X (.BoolOp .And (a::b::rest) pos) (D22 ta tb):=by
 intro pins s σ H Q I h
 ¤BoolOp_and (thn (ha pins s σ H _ I h) λv s1 ⟨x,H1,I1,r1,q1⟩=>?_)
 ¶⟨c,rfl,q1⟩:=q1
 cases r1
 ¤Â5 ?_
 cases c with
 |true=>§hb pins s1 σ H1 Q I1 q1
 |false=>§⟨.bl false,H1,I1,rfl,q1⟩
÷D42(ha:PE X a ta)(hb:PE X (.BoolOp .Or (b::rest) pos) tb):PE X (.BoolOp .Or (a::b::rest) pos) (R22 ta tb):=by
 intro pins s σ H Q I h
 ¤BoolOp_or (thn (ha pins s σ H _ I h) λv s1 ⟨x,H1,I1,r1,q1⟩=>?_)
 ¶⟨c,rfl,q1⟩:=q1
 cases r1
 ¤Â5 ?_
 cases c with
 |false=>§hb pins s1 σ H1 Q I1 q1
 |true=>§⟨.bl true,H1,I1,rfl,q1⟩
÷m92(ha:PE X a ta):PE X (.UnaryOp .Not a pos) (D32 ta):=by
 intro pins s σ H Q I h
 ¤UnaryOp_ (thn (ha pins s σ H _ I h) λv s1 ⟨x,H1,I1,r1,q1⟩=>?_)
 ¶⟨c,rfl,q1⟩:=q1
 cases r1
 §not_of (Â5 ⟨.bl (!c),H1,I1,rfl,q1⟩)
def tIf(t:TT)(ta tb:TE):TE:=λσ H Q=>t σ H λc H1=>if c=true then ta σ H1 Q else tb σ H1 Q
÷I21(hc:PT X c tA)(ha:PE X a ta)(hb:PE X b tb):PE X (.IfExp c a b pos) (tIf tA ta tb):=by
 intro pins s σ H Q I h
 ¤wpAny_IfExp (thn (hc pins s σ H _ I h) λd s1 ⟨H1,I1,q1⟩=>?_)
 cases d with
 |true=>§ha pins s1 σ H1 Q I1 q1
 |false=>§hb pins s1 σ H1 Q I1 q1
end
def SqL(K:Â)(H:Hp)(a:Ç)(xs:List V):Prop :=
 Rd H a (.lst xs) ∨
  ∃ (o:Obj) (its:Array Ä) (n:Nat),K.lookup a=some o/\o.cls=.type "list"/\o.dict=none/\o.data=.seq its n/\its.size<=Û/\Vals xs its.toList
def SqT(K:Â)(H:Hp)(a:Ç)(xs:List V):Prop :=
 Rd H a (.tup xs) ∨
  ∃ (o:Obj) (its:Array Ä) (n:Nat),K.lookup a=some o/\o.cls=.type "tuple"/\o.data=.seq its n/\its.size<=Û/\Vals xs its.toList
def R32:Ä->Option V
 |.none=>some .non
 |.bool b=>some (.bl b)
 |.int i _=>some (.int i)
 |.str x _=>some (.str x)
 |.bytes b _=>some (.byt b)
 |.float b _=>some (.flt b)
 |.ref a=>some (.ref a)
 |.type n=>some (.ty n)
 |_=>none
÷RelV.abs(r:RelV x u):R32 u=some x:=by
 cases x with
 |non=>cases r;rfl
 |bl _=>cases r;rfl
 |int _=>¶⟨t,rfl⟩:=r;rfl
 |str _=>¶⟨t,rfl⟩:=r;rfl
 |byt _=>¶⟨t,rfl⟩:=r;rfl
 |flt _=>¶⟨t,rfl⟩:=r;rfl
 |ref _=>cases r;rfl
 |ty _=>cases r;rfl
÷RelV.inj(r:RelV x u)(q:RelV y u):x=y:=À6 (r.abs.symm.trans q.abs)
÷Vals.inj:∀ {xs ys:List V}{us:List Ä},Vals xs us->Vals ys us->xs=ys
 |_,_,_,.nil,.nil=>rfl
 |_,_,_,.cons r t,.cons r' t'=>by rw[r.inj r',Vals.inj t t']
section
variable {X:Cx}{pins:List (Ç × Obj)}{σ:St}{H:Hp}{s:Æ}{a:Ç}{xs ys:List V}
÷SqL.of{K:Â}(h:H a=some (.lst xs)):SqL K H a xs:=.inl (.inl h)
÷SqT.of{K:Â}(h:H a=some (.tup xs)):SqT K H a xs:=.inl (.inl h)
÷Inv.list(I:Inv X pins σ H s)(h:SqL X.K H a xs):∃ its:List Ä,Vals xs its/\PlainL s.heap a its.toArray/\xs.length<=sizeLine:=by
 rcases h with h | ⟨o,its,n,hk,hc,hd,hs,hz,r⟩
 ·¶⟨z,its,n,r,e⟩:=h.ok I.hok
  §⟨its,r,⟨_,n,e,rfl,rfl,rfl⟩,z⟩
 ·¤⟨its.toList,r,⟨o,n,I.kIn a o hk,hc,hd,by simpa using hs⟩,?_⟩
  have e:=r.length
  simp only[Ê5] at e
  omega
÷Inv.tuple(I:Inv X pins σ H s)(h:SqT X.K H a xs):∃ its:List Ä,Vals xs its/\Ï0 s.heap a its.toArray/\xs.length<=sizeLine:=by
 rcases h with h | ⟨o,its,n,hk,hc,hs,hz,r⟩
 ·¶⟨z,its,r,p⟩:=h.ok I.hok
  §⟨its,r,p,z⟩
 ·¤⟨its.toList,r,⟨o,I.kIn a o hk,hc,n,by simpa using hs⟩,?_⟩
  have e:=r.length
  simp only[Ê5] at e
  omega
÷Inv.e21(I:Inv X pins σ H s)(h:SqL X.K H a xs)(h':SqL X.K H a ys):xs=ys:=by
 ¶⟨its,r,⟨o,n,e,_,_,d⟩,_⟩:=I.list h
 ¶⟨its',r',⟨o',n',e',_,_,d'⟩,_⟩:=I.list h'
 rw[e] at e';cases e'
 rw[d] at d'
 injection d' with d1 _
 have:its=its':=by simpa using congrArg toList d1
 subst this
 §r.inj r'
÷Inv.P90(I:Inv X pins σ H s)(h:SqT X.K H a xs)(h':SqT X.K H a ys):xs=ys:=by
 ¶⟨its,r,⟨o,e,_,n,d⟩,_⟩:=I.tuple h
 ¶⟨its',r',⟨o',e',_,n',d'⟩,_⟩:=I.tuple h'
 rw[e] at e';cases e'
 rw[d] at d'
 injection d' with d1 _
 have:its=its':=by simpa using congrArg toList d1
 subst this
 §r.inj r'
end
abbrev Cx.H51(X:Cx)(E:Ä->Æ->Prop):Cx:={ X with xe:=E }
abbrev Cx.nox(X:Cx):Cx:=X.H51 λ_ _=>False
÷Cx.Ok.H51{X:Cx}(ok:X.Ok)(E:Ä->Æ->Prop):(X.H51 E).Ok :=
 ⟨ok.mod,ok.kind,ok.glob,ok.blt,ok.above,ok.inj,ok.has,ok.cab,ok.hd,ok.frames,ok.stk,ok.exf,ok.bs,ok.bsz,ok.noex,ok.exfs,ok.l51,ok.frf⟩
÷Cx.Ok.x60{X:Cx}{E:Ä->Æ->Prop}(ok:(X.H51 E).Ok):X.Ok :=
 ⟨ok.mod,ok.kind,ok.glob,ok.blt,ok.above,ok.inj,ok.has,ok.cab,ok.hd,ok.frames,ok.stk,ok.exf,ok.bs,ok.bsz,ok.noex,ok.exfs,ok.l51,ok.frf⟩
section
variable {X:Cx}{pins:List (Ç × Obj)}{σ:St}{H:Hp}{s:Æ}{E:Ä->Æ->Prop}
÷Inv.H51(I:Inv X pins σ H s)(E:Ä->Æ->Prop):Inv (X.H51 E) pins σ H s:=⟨I.ok.H51 E,I.os,I.bare,I.base,I.loc,I.cell,I.free,I.freeC,I.pin,I.hok,I.len⟩
÷Inv.x60(I:Inv (X.H51 E) pins σ H s):Inv X pins σ H s:=⟨I.ok.x60,I.os,I.bare,I.base,I.loc,I.cell,I.free,I.freeC,I.pin,I.hok,I.len⟩
÷SP.x60{D:Ends}{f:Flow}{s':Æ}(h:SP (X.H51 E) pins D f s'):SP X pins D f s':=by
 cases f with
 |next=>¶⟨σ',H',I,q⟩:=h;§⟨σ',H',I.x60,q⟩
 |brk=>¶⟨σ',H',I,q⟩:=h;§⟨σ',H',I.x60,q⟩
 |cont=>¶⟨σ',H',I,q⟩:=h;§⟨σ',H',I.x60,q⟩
 |ret u=>¶⟨v,σ',H',I,r,q⟩:=h;§⟨v,σ',H',I.x60,r,q⟩
÷PSs.nox{st:List Å1}{t:TS}(h:PSs X.nox st t):PSs X st t:=λpins s σ H D I hw =>
 Â1 (h pins s σ H D (I.H51 _) hw) (λ_ _ q=>q.x60) λ_ _ z=>À3 z
end
section
variable {X:Cx}{st:Å1}{rest:List Å1}{t u:TS}{e:Ò}{te:TE}{pos:Pos}
def D52:TS:=λD σ H=>D.nx σ H
def R42(t u:TS):TS:=λD σ H=>t { D with nx:=u D } σ H
÷q91:PSs X [] D52:=λ_ _ σ H _ I h=>Ï3 ⟨σ,H,I,h⟩
÷j60(h1:PS X st t)(h2:PSs X rest u):PSs X (st::rest) (R42 t u):=by
 intro pins s σ H D I h
 ¤Ô8 (thn (h1 pins s σ H { D with nx:=u D } I h) λf s1 q=>?_)
 cases f with
 |next =>
  ¶⟨σ',H',I',q⟩:=q
  §h2 pins s1 σ' H' D I' q
 |ret v=>§q
 |brk=>§q
 |cont=>§q
÷r01(h1:PS X st t):PSs X [st] t:=by
 intro pins s σ H D I h
 ¤Ô8 (thn (h1 pins s σ H D I h) λf s1 q=>?_)
 cases f with
 |next=>§Ï3 q
 |ret v=>§q
 |brk=>§q
 |cont=>§q
÷Inv.quiet(I:Inv X pins σ H s):interactive X.env=false:=by simp[interactive,I.ok.kind]
def n02(te:TE):TS:=λD σ H=>te σ H λ_ H1=>D.nx σ H1
÷Y20(he:PE X e te)(hs:Ô9 e none pos.line X.env=pure false:=by rfl):PS X (.Expr e pos) (n02 te):=by
 intro pins s σ H D I h
 §wpAny_Expr_any (thn (he pins s σ H _ I h) λv s1 ⟨x,H1,I1,r1,q1⟩=>⟨σ,H1,I1,q1⟩) I.quiet hs
def R52(te:TE):TS:=λD σ H=>te σ H D.rt
÷e31(he:PE X e te):PS X (.Return (some e) pos) (R52 te):=by
 intro pins s σ H D I h
 §wpAny_Return_some (thn (he pins s σ H _ I h) λv s1 ⟨x,H1,I1,r1,q1⟩=>⟨x,σ,H1,I1,r1,q1⟩)
def D62:TS:=λD _ H=>D.rt .non H
÷Y41:PS X (.Return none pos) D62:=λ_ _ σ H _ I h=>wpAny_Return_none ⟨.non,σ,H,I,rfl,h⟩
def R62(c:TT)(t u:TS):TS:=λD σ H=>c σ H λb H1=>if b=true then t D σ H1 else u D σ H1
÷n12(hc:PT X c tc)(ha:PSs X a t)(hb:PSs X b u):PS X (.If c a b pos) (R62 tc t u):=by
 intro pins s σ H D I h
 ¤wpAny_If (thn (hc pins s σ H _ I h) λd s1 ⟨H1,I1,q1⟩=>?_)
 cases d with
 |true=>§ha pins s1 σ H1 D I1 q1
 |false=>§hb pins s1 σ H1 D I1 q1
end
abbrev TG:=V->St->Hp->(St->Hp->Prop)->Prop
abbrev TGs:=List V->St->Hp->(St->Hp->Prop)->Prop
def PG(X:Cx)(target:Ò)(t:TG):Prop :=
 ∀ (pins:List (Ç × Obj)) (s:Æ) (σ:St) (H:Hp) (v:V) (u:Ä) (Q:St->Hp->Prop),Inv X pins σ H s->RelV v u->t v σ H Q ->
  Ï (Ô X.prog X.w) X.A (Ù3 target X.env u) (λ_ s'=>∃ σ' H',Inv X pins σ' H' s'/\Q σ' H') X.xe s
def PGs(X:Cx)(ts:List Ò)(t:TGs):Prop :=
 ∀ (pins:List (Ç × Obj)) (s:Æ) (σ:St) (H:Hp) (vs:List V) (us:List Ä) (Q:St->Hp->Prop),Inv X pins σ H s->Vals vs us->t vs σ H Q ->
  Ï (Ô X.prog X.w) X.A (assignInOrder ((É9 ts X.env).map (·.2)) us) (λ_ s'=>∃ σ' H',Inv X pins σ' H' s'/\Q σ' H') X.xe s
abbrev B52:=V->V->V->Hp->(Hp->Prop)->Prop
def D72(X:Cx)(t:B52):Prop :=
 ∀ (pins:List (Ç × Obj)) (s:Æ) (σ:St) (H:Hp) (o i v:V) (ov iv u:Ä) (Q:Hp->Prop),Inv X pins σ H s->RelV o ov->RelV i iv->RelV v u->t o i v H Q ->
  Ï (Ô X.prog X.w) X.A (setItem ov iv u) (λ_ s'=>∃ H',Inv X pins σ H' s'/\Q H') X.xe s
abbrev TIp:=V->V->Hp->VK->Prop
def PIp(X:Cx)(op:Ý9)(t:TIp):Prop :=
 ∀ (pins:List (Ç × Obj)) (s:Æ) (σ:St) (H:Hp) (x y:V) (v u:Ä) (Q:VK),Inv X pins σ H s->RelV x v->RelV y u->t x y H Q ->
  Ï (Ô X.prog X.w) X.A (inplaceOp op v u) (EP X pins σ Q) X.xe s
section
variable {X:Cx}{pos:Pos}
def Y30(i:Nat):TG:=λv σ H Q=>Q (σ.set i (some v)) H
÷r11{i:Nat}{x:Str}(hN:X.N.Nodup)(hi:X.N[i]?=some x)(hx:Loc X.env.scope x)(hf:X.fn x=true∨X.env.scope.names.lookup x=some .local:=by first | §.inl rfl | §.inr rfl | assumption):PG X (.Name x pos) (Y30 i):=by
 intro pins s σ H v u Q I r h
 §wpAny_assign_Name (t40 I hN hi hx r (λs' I'=>⟨_,H,I',h⟩) hf)
def O12:TGs:=λvs σ H Q=>vs=[]/\Q σ H
def n22(t:TG)(u:TGs):TGs:=λvs σ H Q=>∃ v r,vs=v::r/\t v σ H λσ' H'=>u r σ' H' Q
÷Y51:PGs X [] O12:=by
 intro pins s σ H vs us Q I r h
 ¶⟨e,h⟩:=h
 subst e
 cases r
 §assignInOrder_nil ⟨σ,H,I,h⟩
÷I31(h1:PG X e t)(h2:PGs X es u)
  (hs:(É9 (e::es) X.env).map (·.2)=Ù3 e X.env::(É9 es X.env).map (·.2):=by rfl):PGs X (e::es) (n22 t u):=by
 intro pins s σ H vs us Q I r h
 ¶⟨v,vr,e1,h⟩:=h
 subst e1
 cases r with
 |cons r rr =>
  rw[hs]
  ¤Ü3 (thn (h1 pins s σ H _ _ _ I r h) λ_ s1 ⟨σ1,H1,I1,q1⟩=>?_)
  §h2 pins s1 σ1 H1 _ _ Q I1 rr q1
def O22(K:Â)(n:Nat)(t:TGs):TG:=λv σ H Q=>∃ a xs,v=.ref a/\SqT K H a xs/\xs.length=n/\t xs σ H Q
÷n32{k:Nat}{n:Nat}(hc:X.calm=true)(h:PGs X es t)
  (hn:(É9 es X.env).length=n:=by rfl) (hst:(É9 es X.env).findIdx? (·.1)=none:=by rfl):PG X (.Tuple es k pos) (O22 X.K n t):=by
 intro pins s σ H v u Q I r hw
 ¶⟨a,xs,e1,hq,hl,hw⟩:=hw
 subst e1
 cases r
 ¶⟨its,rv,ht,hz⟩:=I.tuple hq
 ¤assign_Tuple_tuple (I.ok.hd hc) ht (by simp[hn,← hl,rv.length]) hst λh' hx=>?_
 have I1:Inv X pins σ H { s with heap:=h' }:=I.kept (t':=s.toks) λb o e=>hx b o (Ø (à e)) e
 §h pins _ σ H xs _ Q I1 (by simpa using rv) hw
def R72(to ti:TE)(t:B52):TG:=λv σ H Q=>to σ H λo H1=>ti σ H1 λi H2=>t o i v H2 λH3=>Q σ H3
÷n42(ho:PE X o to)(hi:PE X i ti)(hs:D72 X t)
  (ha:∀ v,Ù3 (.Subscript o i pos) X.env v=(do
   let ov ← Ù7 [v] (eval o X.env)
   let iv ← Ù7 [v,ov] (eval i X.env)
   standAt pos
   Ù7 [v,ov,iv] (setItem ov iv v)
   release [v,ov,iv] []):=by intro _;rfl):PG X (.Subscript o i pos) (R72 to ti t):=by
 intro pins s σ H v u Q I r h
 rw[ha]
 ¤À (À7 (thn (ho pins s σ H _ I h) λov s1 ⟨x,H1,I1,r1,q1⟩=>?_))
 ¤À (À7 (thn (hi pins s1 σ H1 _ I1 q1) λiv s2 ⟨y,H2,I2,r2,q2⟩=>?_))
 ¤À (Û4 (À (À7 (thn (hs pins s2 σ H2 x y v ov iv u _ I2 r1 r2 r q2) λ_ s3 ⟨H3,I3,q3⟩=>?_))))
 §wpAny_release ⟨σ,H3,I3,q3⟩
def n52(te:TE)(g:TG):TS:=λD σ H=>te σ H λx H1=>g x σ H1 D.nx
÷T11(he:PE X e te)(hg:PG X tg g)(hs:swapsWithSole [tg] e pos.line X.env=pure false:=by rfl)(hw:Ä6 [tg] e X.env=pure none:=by rfl)
  (h1:(É9 [tg] X.env).map (·.2)=[Ù3 tg X.env]:=by rfl):PS X (.Assign [tg] e pos) (n52 te g):=by
 intro pins s σ H D I h
 ¤wpAny_Assign_stores (thn (he pins s σ H _ I h) λv s1 ⟨x,H1,I1,r1,q1⟩=>?_) hs hw
 rw[h1]
 §thn (hg pins s1 σ H1 x v _ I1 r1 q1) λ_ s2 q=>q
÷x70{i:Nat}{x:Str}{e:Ò}{te:TE}{pos':Pos}(hN:X.N.Nodup)(hi:X.N[i]?=some x)(hx:Loc X.env.scope x)(he:PE X e te)(hs:Ô9 e (some (.Name x pos')) pos.line X.env=pure false:=by rfl)(hf:X.fn x=true∨X.env.scope.names.lookup x=some .local:=by first | §.inl rfl | §.inr rfl | assumption) :
  PS X (.Assign [.Name x pos'] e pos) (n52 te (Y30 i)):=by
 intro pins s σ H D I h
 ¤wpAny_Assign_Name (thn (he pins s σ H _ I h) λv s1 ⟨y,H1,I1,r1,q1⟩=>?_) hs
 §t40 I1 hN hi hx r1 (λs2 I2=>⟨_,H1,I2,q1⟩) hf
def R82(i j:Nat)(ta:TA):TS:=λD σ H=>ta σ H λvs H1=>∃ v w,vs=[v,w]/\D.nx ((σ.set i (some v)).set j (some w)) H1
÷n62{i j:Nat}{x y:Str}{a b:Ò}{ta:TA}{px py pt:Pos}{kt k2 pt2}(hc:X.calm=true)(hN:X.N.Nodup)(hi:X.N[i]?=some x)(hj:X.N[j]?=some y)(hij:i≠j)
  (hx:X.env.scope.names.lookup x=some .local) (hy:X.env.scope.names.lookup y=some .local) (ha:PA X [a,b] ta)
  (hw:Ä6 [.Tuple [.Name x px,.Name y py] kt pt] (.Tuple [a,b] k2 pt2) X.env=pure (some [x,y]))
  (hs:swapsWithSole [.Tuple [.Name x px,.Name y py] kt pt] (.Tuple [a,b] k2 pt2) pos.line X.env=pure false:=by rfl) :
  PS X (.Assign [.Tuple [.Name x px,.Name y py] kt pt] (.Tuple [a,b] k2 pt2) pos) (R82 i j ta):=by
 intro pins s σ H D I h
 rw[exec_Assign_arm]
 ¤À (Û4 ?_)
 rw[hs]
 ¤À (Å ?_)
 rw[if_neg (by decide)]
 ¤À (Tuple_ (thn (ha _ pins s σ H _ I h) λus s1 ⟨vs,H1,I1,r1,q1⟩=>?_))
 ¶⟨v,w,e1,q1⟩:=q1
 subst e1
 obtain⟨u1,u2,rfl,rv,rw'⟩:∃ u1 u2,us=[u1,u2]/\RelV v u1/\RelV w u2:=by
  cases r1 with
  |cons p q =>
   cases q with
   |cons p' q' =>
    cases q'
    §⟨_,_,rfl,p,p'⟩
 ¤æ ?_ (by show 2<=Û;decide)
 have I2:Inv X pins σ H1 { s1 with heap:=s1.heap.push { cls:=.type "tuple",data:=.seq [u1,u2].toArray } }:=I1.kept (t':=s1.toks) λb o e=>Ã _ e
 rw[hw]
 ¤À (Å ?_)
 show Ï (Ô X.prog X.w) X.A (do rule "assign.swapped-stores";let items ← unpackItems (.ref s1.heap.objs.size) 2 none;assignInOrder [λv=>bindName X.env y v,λv=>bindName X.env x v] items.reverse;pure Flow.next) _ _ _
 ¤À (É8 (À (unpackItems_tuple (items:=#[u1,u2]) (I.ok.hd hc) (Ï0.new s1.heap _) λh' hx'=>?_)))
 have I3:=I2.kept (h':=h') (t':=s1.toks) λb o e=>hx' b o (Ø (à e)) e
 show Ï _ _ (assignInOrder [λv=>bindName X.env y v,λv=>bindName X.env x v] [u2,u1] >>= λ_=>pure Flow.next) _ _ _
 ¤À (Ü3 (wpAny_bindName (t40 I3 hN hj (.inl hy) rw' (λs2 I4=>?_) (.inr hy))))
 ¤Ü3 (wpAny_bindName (t40 I4 hN hi (.inl hx) rv (λs3 I5=>assignInOrder_nil (Å ?_)) (.inr hx)))
 rw[List.set_comm _ _ (Â3 hij)] at I5
 §⟨_,H1,I5,q1⟩
def R92(i:Nat)(te:TE)(ti:TIp):TS:=λD σ H=>∃ x,σ[i]?=some (some x)/\te σ H λy H1=>ti x y H1 λz H2=>D.nx (σ.set i (some z)) H2
÷O32{i:Nat}{x:Str}{e:Ò}{te:TE}{op:Ý9}{ti:TIp}{pos':Pos}(hN:X.N.Nodup)(hi:X.N[i]?=some x)(hx:Loc X.env.scope x)(he:PE X e te)(ho:PIp X op ti)(hf:X.fn x=true∨X.env.scope.names.lookup x=some .local:=by first | §.inl rfl | §.inr rfl | assumption) :
  PS X (.AugAssign (.Name x pos') op e pos) (R92 i te ti):=by
 intro pins s σ H D I h
 ¶⟨v,e1,h⟩:=h
 ¶⟨m,hn,hl⟩:=I.loc
 have vis:Vis X.env.scope x:=by rcases hx with k | k;§.inl k;§.inr (.inl k)
 ¶⟨u,r,l⟩:=hl i x v hi e1 vis
 ¤wpAny_AugAssign_Name ?_
 have go:Ï (Ô X.prog X.w) X.A (eval e X.env) (λw s₂=>Ï (Ô X.prog X.w) X.A (inplaceOp op u w) (λr s₃=>Ï (Ô X.prog X.w) X.A (storeName X.env x r) (λ_=>SP X pins D .next) X.xe s₃) X.xe s₂) X.xe s:=by
  ¤thn (he pins s σ H _ I h) λw s1 ⟨y,H1,I1,r1,q1⟩=>?_
  ¤thn (ho pins s1 σ H1 v y u w _ I1 r r1 q1) λz s2 ⟨zv,H2,I2,r2,q2⟩=>?_
  §t40 I2 hN hi hx r2 (λs3 I3=>⟨_,H2,I3,q2⟩) hf
 rcases l with ⟨hk,hm⟩ | ⟨hk,c,hc,hcell⟩
 ·§Î5 I.ok.kind hk hn hm go
 ·rcases hk with hk | hk
  ·§Ú5 I.ok.kind hk hc hcell go
  ·rcases hx with k | k
   ·have:X.env.scope.names.lookup x=some .free:=hk
    rw[k] at this;cases this
   ·have:X.env.scope.names.lookup x=some .free:=hk
    rw[k] at this;cases this
def D82(to ti te:TE)(tget:V->V->Hp->VK->Prop)(tip:TIp)(tset:B52):TS:=λD σ H=>to σ H λo H1=>ti σ H1 λi H2=>tget o i H2 λx H3=>te σ H3 λy H4=>tip x y H4 λz H5=>tset o i z H5 λH6=>D.nx σ H6
def O42(X:Cx)(t:V->V->Hp->VK->Prop):Prop :=
 ∀ (pins:List (Ç × Obj)) (s:Æ) (σ:St) (H:Hp) (o i:V) (ov iv:Ä) (Q:VK),Inv X pins σ H s->RelV o ov->RelV i iv->t o i H Q ->
  Ï (Ô X.prog X.w) X.A (Ó3 ov iv) (EP X pins σ Q) X.xe s
÷Y61{o i e:Ò}{to ti te:TE}{tget:V->V->Hp->VK->Prop}{tip:TIp}{tset:B52}{op:Ý9}{tpos:Pos}(ho:PE X o to)(hi:PE X i ti)(hg:O42 X tget)(he:PE X e te)(hp:PIp X op tip)(hs:D72 X tset)
  (ha:∀ ov iv new,augStore i ov iv new=(do Ù7 [new,ov,iv] (setItem ov iv new);release [new,ov,iv] [];pure .next):=by intros;rfl):PS X (.AugAssign (.Subscript o i tpos) op e pos) (D82 to ti te tget tip tset):=by
 intro pins s σ H D I h
 ¤wpAny_AugAssign_SubscriptAny (thn (ho pins s σ H _ I h) λov s1 ⟨x1,H1,I1,r1,q1⟩=>?_) ha
 ¤thn (hi pins s1 σ H1 _ I1 q1) λiv s2 ⟨x2,H2,I2,r2,q2⟩=>?_
 ¤thn (hg pins s2 σ H2 x1 x2 ov iv _ I2 r1 r2 q2) λold s3 ⟨x3,H3,I3,r3,q3⟩=>?_
 ¤thn (he pins s3 σ H3 _ I3 q3) λv s4 ⟨x4,H4,I4,r4,q4⟩=>?_
 ¤thn (hp pins s4 σ H4 x3 x4 old v _ I4 r3 r4 q4) λnew s5 ⟨x5,H5,I5,r5,q5⟩=>?_
 §thn (hs pins s5 σ H5 x1 x2 x5 ov iv new _ I5 r1 r2 r5 q5) λ_ s6 ⟨H6,I6,q6⟩=>⟨σ,H6,I6,q6⟩
def ipI(f:Int->Int->Int):TIp:=λx y H Q=>∃ i j,x=.int i/\y=.int j/\Q (.int (f i j)) H
÷n72:PIp X .Add (ipI λi j=>i + j):=by
 intro pins s σ H x y v u Q I r1 r2 h
 ¶⟨i,j,e1,e2,q⟩:=h
 subst e1;subst e2
 ¶⟨t,rfl⟩:=r1
 ¶⟨t',rfl⟩:=r2
 §iadd_int ⟨.int _,H,I.tok _,⟨_,rfl⟩,q⟩
def n82(c:TT)(tb:TS):TS:=λD σ H=>∃ W:Nat->St->Hp->Prop,(∃ m,W m σ H)/\∀ m σ H,W m σ H ->
 c σ H λb H1=>if b=true then ∃ N:St->Hp->Prop,(∀ σ' H',N σ' H'->∃ m',m' < m/\W m' σ' H')/\tb { D with nx:=N,ct:=N,bk:=D.nx } σ H1 else D.nx σ H1
÷I41(hp:PassesOwn (Ô X.prog X.w) X.A X.env X.xe)(hc:PT X c tc)(hb:PSs X body tb):PS X (.While c body [] pos) (n82 tc tb):=by
 intro pins s σ H D I h
 ¶⟨W,⟨m0,w0⟩,turn⟩:=h
 ¤wpAny_While (codeAny_whileLoop (λn s'=>∃ σ' H',Inv X pins σ' H' s'/\W n σ' H') ?_ m0 ⟨σ,H,I,w0⟩)
 rintro n s1 ⟨σ1,H1,I1,w1⟩
 ¤È4 hp (thn (hc pins s1 σ1 H1 _ I1 (turn n σ1 H1 w1)) λb s2 ⟨H2,I2,q2⟩=>?_)
 cases b with
 |true =>
  ¶⟨N,hN,q2⟩:=q2
  rw[if_pos rfl]
  ¤È4 hp (thn (hb pins s2 σ1 H2 _ I2 q2) λf s3 q3=>?_)
  cases f with
  |next =>
   ¶⟨σ3,H3,I3,n3⟩:=q3
   ¶⟨m',hm,w3⟩:=hN σ3 H3 n3
   §⟨m',hm,σ3,H3,I3,w3⟩
  |cont =>
   ¶⟨σ3,H3,I3,n3⟩:=q3
   ¶⟨m',hm,w3⟩:=hN σ3 H3 n3
   §⟨m',hm,σ3,H3,I3,w3⟩
  |brk=>§q3
  |ret v=>§q3
 |false =>
  rw[if_neg Ð]
  §Ï3 ⟨σ1,H2,I2,q2⟩
end
structure It where
 go:Nat->Hp->Prop
 yld:Nat->Hp->V->Hp->Prop
 stop:Nat->Hp->Prop
def Y40(X:Cx)(pins:List (Ç × Obj))(H:Hp)(b:Ç):Prop :=
 H b=none/\b≠X.env.locals/\b ∉ X.fs/\(b∈X.ex∨X.s₀.heap.objs.size<=b)/\(∀ x c,X.env.cells.lookup x=some c->c≠b)/\∀ p∈X.pn++pins,p.1≠b
÷Inv.q01(I:Inv X pins σ H s)(hb:s.heap.objs.size<=b)(hn:H' b=none):Y40 X pins H' b:=by
 ¤⟨hn,Ê4 (Ù I.lt hb),I.Q92 hb,.inr (Ñ I.sz hb),λx c e z=>?_,λp hp z=>?_⟩
 ·¶⟨v,q⟩:=I.cell x c e
  §absurd (Ù q.lt (by rw[z];§hb)) (Á4 _)
 ·§absurd (Ù (à (I.pin p hp).1) (by rw[z];§hb)) (Á4 _)
structure Turn(P:Program)(w:World)(K:PySem.W.Frag)(tg:Expr)(J:It)(fp:List Addr)(it:Addr)(tn:Nat->Heap->Prop):Prop where
 mem:it∈fp
 obj:∀ i h,tn i h->∀ b∈fp,∃ o,h.get? b=some o/\∀ v,o.data≠.cell v
 keep:∀ i h h',tn i h->(∀ b∈fp,∀ o,h.get? b=some o->h'.get? b=some o)->tn i h'
 item:∀ (X:Cx),X.prog=P->X.w=w->X.K=K->X.calm=true->∀ (i:Nat) (pins:List (Addr × Obj)) (s:Shared) (σ:St) (H:Hp) (E:Value->Shared->Prop),Inv X pins σ H s->(∀ b∈fp,Y40 X pins H b)->tn i s.heap->J.go i H ->
  wpAny (model P w) X.A (pyNext (.ref it)) (λr s1=>∃ u,r=some u /\
   wpAny (model P w) X.A (letOwnedTupleGo tg (.ref it) u) (λ_ s2=>∃ x H',Inv X pins σ H' s2/\RelV x u/\J.yld i H x H'/\tn (i + 1) s2.heap/\∀ b∈fp,H' b=none) E s1) E s
 done:∀ (X:Cx),X.prog=P->X.w=w->X.K=K->X.calm=true->∀ (i:Nat) (pins:List (Addr × Obj)) (s:Shared) (σ:St) (H:Hp) (E:Value->Shared->Prop),Inv X pins σ H s->(∀ b∈fp,Y40 X pins H b)->tn i s.heap->J.stop i H ->
  wpAny (model P w) X.A (pyNext (.ref it)) (λr s1=>r=none/\Inv X pins σ H s1) E s
 self:∀ (A:Around) (i:Nat) (s:Shared) (Q:Value->Shared->Prop) (E:Value->Shared->Prop),tn i s.heap->Q (.ref it) s->wpAny (model P w) A (pyIter (.ref it)) Q E s
abbrev TI:=St->Hp->(It->Hp->Prop)->Prop
def PIE(X:Cx)(pins:List (Ç × Obj))(σ:St)(tg:Ò)(R:It->Hp->Prop)(itv:Ä)(s2:Æ):Prop :=
 ∃ (it:Ç) (fp:List Ç) (tn:Nat->ì->Prop) (J:It) (H':Hp),itv=.ref it/\Inv X pins σ H' s2/\Turn X.prog X.w X.K tg J fp it tn/\tn 0 s2.heap/\(∀ b∈fp,Y40 X pins H' b)/\R J H'
def PI(X:Cx)(tg Ä0:Ò)(wi:TI):Prop :=
 ∀ (pins:List (Ç × Obj)) (s:Æ) (σ:St) (H:Hp) (R:It->Hp->Prop),Inv X pins σ H s->wi σ H R ->
  Ï (Ô X.prog X.w) X.A (eval Ä0 X.env) (λv s1=>Ï (Ô X.prog X.w) X.A (pyIter v) (PIE X pins σ tg R) X.xe s1) X.xe s
÷Y71{M:Model}{A:ø}{E:Ä->Æ->Prop}{s:Æ}{tg:Ò}{it:Ç}{u:Ä}{o:Obj}{n:String}{vs:Array Ä}{Q:Unit->Æ->Prop}(ho:s.heap.get? it=some o)(hc:o.cls=.type n)(hd:o.data=.fields vs)
  (hn:["enumerate","zip","dict_itemiterator","dict_reverseitemiterator","odict_iterator","itertools.zip_longest","itertools.pairwise"].contains n=false) (hQ:Q () s):Ï M A (à8 tg (.ref it) u) Q E s:=by
 unfold à8
 cases tg <;> first
  |§Å hQ
  |(cases u <;> first
    |§Å hQ
    |(¤À (wpAny_load ho ?_)
      rw[hc,hd]
      show Ï M A (if (["enumerate","zip","dict_itemiterator","dict_reverseitemiterator","odict_iterator","itertools.zip_longest","itertools.pairwise"].contains n&&vs[0]? == some (Ã6 _))=true then _ else _) Q E s
      rw[if_neg (by intro h;rw[hn,Õ8] at h;cases h)]
      §Å hQ))
def Itl(K:Â)(a:Ç):It :=
 ⟨λi H=>∃ xs x,SqL K H a xs/\xs[i]?=some x,λi H x H'=>H'=H/\∀ xs,SqL K H a xs->xs[i]?=some x,λi H=>∃ xs,SqL K H a xs/\xs.length<=i⟩
def Itt(K:Â)(a:Ç):It :=
 ⟨λi H=>∃ xs x,SqT K H a xs/\xs[i]?=some x,λi H x H'=>H'=H/\∀ xs,SqT K H a xs->xs[i]?=some x,λi H=>∃ xs,SqT K H a xs/\xs.length<=i⟩
def Itr(lo:Int)(n:Nat):It:=⟨λi _=>i < n,λi H x H'=>H'=H/\x=.int (lo + i),λi _=>n<=i⟩
÷r21{P:ß}{w:è}{K:Â}{tg:Ò}(a it:Ç):Turn P w K tg (Itl K a) [it] it (λi h=>h.IsListIter it a i) where
 mem:=by simp
 obj:=λi h st b hb=>by
  have e:b=it:=by simpa using hb
  subst e
  ¶⟨o,e,c,d⟩:=st
  §⟨o,e,λv z=>by rw[d] at z;cases z⟩
 keep:=λi h h' st k=>st.at λo e=>k it (by simp) o e
 item:=by
  intro X hP hw hK hc i pins s σ H E I hf st hg
  subst hP hw hK
  ¶⟨xs,x,hq,hx⟩:=hg
  ¶⟨its,rv,p,hz⟩:=I.list hq
  ¶⟨u,hu,ru⟩:=rv.get hx
  ¶⟨f0,f1,f2,f3,f4,f5⟩:=hf it (by simp)
  ¤wpAny_pyNext_list_item st p.isList (x:=u) (by simpa using hu) λh' st' sb=>?_
  have I1:Inv X pins σ H { s with heap:=h' }:=I.turned (t':=s.toks) (λb o hb e=>(sb.2 b hb).trans e) f0 f1 f3 f4 f5
  ¶⟨o,e,c,d⟩:=id st'
  §⟨u,rfl,Y71 (s:={ s with heap:=h' }) e c d (by decide) ⟨x,H,I1,ru,⟨rfl,λys hy=>by rw[I.e21 hy hq];§hx⟩,st',λb hb=>(hf b hb).1⟩⟩
 done:=by
  intro X hP hw hK hc i pins s σ H E I hf st hg
  subst hP hw hK
  ¶⟨xs,hq,hx⟩:=hg
  ¶⟨its,rv,p,hz⟩:=I.list hq
  ¶⟨f0,f1,f2,f3,f4,f5⟩:=hf it (by simp)
  have hl:=rv.length
  §wpAny_pyNext_list_end (I.ok.hd hc) st p.isList (by simp;omega) λh' eb=>⟨rfl,I.turned (t':=s.toks) (λb o hb e=>eb b o hb e) f0 f1 f3 f4 f5⟩
 self:=λ_ _ _ _ _ st h=>wpAny_pyIter_listiter st h
÷l61{P:ß}{w:è}{K:Â}{tg:Ò}(a it:Ç):Turn P w K tg (Itt K a) [it] it (λi h=>h.IsTupleIter it a i) where
 mem:=by simp
 obj:=λi h st b hb=>by
  have e:b=it:=by simpa using hb
  subst e
  ¶⟨o,e,c,d⟩:=st
  §⟨o,e,λv z=>by rw[d] at z;cases z⟩
 keep:=λi h h' st k=>st.at λo e=>k it (by simp) o e
 item:=by
  intro X hP hw hK hc i pins s σ H E I hf st hg
  subst hP hw hK
  ¶⟨xs,x,hq,hx⟩:=hg
  ¶⟨its,rv,p,hz⟩:=I.tuple hq
  ¶⟨u,hu,ru⟩:=rv.get hx
  ¶⟨f0,f1,f2,f3,f4,f5⟩:=hf it (by simp)
  ¤wpAny_pyNext_tuple_item st (show s.heap.IsTuple a its.toArray from p) (x:=u) (by simpa using hu) λh' st' sb=>?_
  have I1:Inv X pins σ H { s with heap:=h' }:=I.turned (t':=s.toks) (λb o hb e=>(sb.2 b hb).trans e) f0 f1 f3 f4 f5
  ¶⟨o,e,c,d⟩:=id st'
  §⟨u,rfl,Y71 (s:={ s with heap:=h' }) e c d (by decide) ⟨x,H,I1,ru,⟨rfl,λys hy=>by rw[I.P90 hy hq];§hx⟩,st',λb hb=>(hf b hb).1⟩⟩
 done:=by
  intro X hP hw hK hc i pins s σ H E I hf st hg
  subst hP hw hK
  ¶⟨xs,hq,hx⟩:=hg
  ¶⟨its,rv,p,hz⟩:=I.tuple hq
  ¶⟨f0,f1,f2,f3,f4,f5⟩:=hf it (by simp)
  have hl:=rv.length
  §wpAny_pyNext_tuple_end (I.ok.hd hc) st (show s.heap.IsTuple a its.toArray from p) (by simp;omega) λh' eb=>⟨rfl,I.turned (t':=s.toks) (λb o hb e=>eb b o hb e) f0 f1 f3 f4 f5⟩
 self:=λ_ _ _ _ _ st h=>wpAny_pyIter_tupleiter st h
÷l71{P:ß}{w:è}{K:Â}{tg:Ò}(it:Ç)(lo:Int)(n:Nat):Turn P w K tg (Itr lo n) [it] it (λi h=>IsRangeIter h it (lo + (i:Nat) * 1) ((n:Int) - (i:Nat)) 1) where
 mem:=by simp
 obj:=λi h st b hb=>by
  have e:b=it:=by simpa using hb
  subst e
  §⟨_,st,λv z=>by
   have z':Data.fields _=Data.cell v:=z
   cases z'⟩
 keep:=λi h h' st k=>k it (by simp) _ st
 item:=by
  intro X hP hw hK hc i pins s σ H E I hf st hg
  subst hP hw hK
  ¶⟨f0,f1,f2,f3,f4,f5⟩:=hf it (by simp)
  have W:=Walks.range (prog:=X.prog) (w:=X.w) (I.ok.hd hc) it lo 1 n
  ¤W.item i s _ _ hg st λv h' tk hv st' kk=>?_
  ¶⟨t,rfl⟩:=hv
  have I1:Inv X pins σ H { s with heap:=h',toks:=tk }:=I.turned (λb o hb e=>kk b o (by simpa using hb) e) f0 f1 f3 f4 f5
  ¤⟨_,rfl,Y71 (s:={ s with heap:=h',toks:=tk }) (n:="range_iterator") st' rfl rfl (by decide) ⟨.int (lo + i),H,I1,⟨t,?_⟩,⟨rfl,rfl⟩,st',λb hb=>(hf b hb).1⟩⟩
  rw[mul_one]
 done:=by
  intro X hP hw hK hc i pins s σ H E I hf st hg
  subst hP hw hK
  ¶⟨f0,f1,f2,f3,f4,f5⟩:=hf it (by simp)
  §wpAny_pyNext_range_end (I.ok.hd hc) st (by have:n<=i:=hg;omega) λh' eb=>⟨rfl,I.turned (t':=s.toks) (λb o hb e=>eb b o hb e) f0 f1 f3 f4 f5⟩
 self:=λ_ _ _ _ _ st h=>wpAny_pyIter_rangeiter st h
section
variable {X:Cx}{tg:Ò}
def D92(K:Â)(tl:TE):TI:=λσ H R=>tl σ H λx H1=>∃ a,x=.ref a/\(∃ xs,SqL K H1 a xs)/\R (Itl K a) H1
def S02(K:Â)(tl:TE):TI:=λσ H R=>tl σ H λx H1=>∃ a,x=.ref a/\(∃ xs,SqT K H1 a xs)/\R (Itt K a) H1
÷Y50{l:Ò}{tl:TE}(hl:PE X l tl):PI X tg l (D92 X.K tl):=by
 intro pins s σ H R I h
 ¤thn (hl pins s σ H _ I h) λv s1 ⟨x,H1,I1,r1,q1⟩=>?_
 ¶⟨a,e,⟨xs,hq⟩,q⟩:=q1
 subst e
 cases r1
 ¶⟨its,rv,p,hz⟩:=I1.list hq
 ¤Ý4 p.isList ?_
 ¤⟨s1.heap.objs.size,[s1.heap.objs.size],_,_,H1,rfl,I1.kept (t':=s1.toks) λb o e=>Ã _ e,r21 a _,⟨_,Ë _ rfl,rfl,rfl⟩,λb hb=>?_,q⟩
 have e:b=s1.heap.objs.size:=by simpa using hb
 subst e
 §I1.q01 (Í _) (I1.hok.fresh (Í _))
÷T21{l:Ò}{tl:TE}(hl:PE X l tl):PI X tg l (S02 X.K tl):=by
 intro pins s σ H R I h
 ¤thn (hl pins s σ H _ I h) λv s1 ⟨x,H1,I1,r1,q1⟩=>?_
 ¶⟨a,e,⟨xs,hq⟩,q⟩:=q1
 subst e
 cases r1
 ¶⟨its,rv,p,hz⟩:=I1.tuple hq
 ¤Ç8 (show s1.heap.IsTuple a its.toArray from p) ?_
 ¤⟨s1.heap.objs.size,[s1.heap.objs.size],_,_,H1,rfl,I1.kept (t':=s1.toks) λb o e=>Ã _ e,l61 a _,⟨_,Ë _ rfl,rfl,rfl⟩,λb hb=>?_,q⟩
 have e:b=s1.heap.objs.size:=by simpa using hb
 subst e
 §I1.q01 (Í _) (I1.hok.fresh (Í _))
÷e41{pins:List (Ç × Obj)}{σ:St}{H:Hp}{s:Æ}{R:It->Hp->Prop}{E:Ä->Æ->Prop}{lo hi:Int}{t u v:Tok}{tk:Nat}(I:Inv X pins σ H s)(h1:-(2 ^ 62)<=lo)(h2:lo < 2 ^ 62)(h3:-(2 ^ 62)<=hi)(h4:hi < 2 ^ 62)
  (q:R (Itr lo (hi - lo).toNat) H):Ï (Ô X.prog X.w) X.A (pyIter (.ref s.heap.objs.size)) (PIE X pins σ tg R) E { s with heap:=s.heap.push { cls:=.type "range",data:=.fields #[.int lo t,.int hi u,.int 1 v] },toks:=tk }:=by
 ¤wpAny_pyIter_range (Ö1.new ..) (small_one h1 h2 h3 h4) ?_
 have I1:Inv X pins σ H { s with heap:=s.heap.push { cls:=.type "range",data:=.fields #[.int lo t,.int hi u,.int 1 v] },toks:=tk }:=I.kept λb o e=>Ã _ e
 ¤⟨(s.heap.push { cls:=.type "range",data:=.fields #[.int lo t,.int hi u,.int 1 v] }).objs.size,[(s.heap.push { cls:=.type "range",data:=.fields #[.int lo t,.int hi u,.int 1 v] }).objs.size],_,_,H,rfl,
  I1.kept (t':=tk) λb o e=>Ã _ e,l71 _ lo (hi - lo).toNat,?_,λb hb=>?_,q⟩
 ·have e1:lo + ((0:Nat):Int) * 1=lo:=by simp
  have e2:(((hi - lo).toNat:Nat):Int) - ((0:Nat):Int)=Ã7 lo hi 1:=by rw[rangeSize_one];split <;> omega
  show IsRangeIter _ _ (lo + ((0:Nat):Int) * 1) ((((hi - lo).toNat:Nat):Int) - ((0:Nat):Int)) 1
  rw[e1,e2]
  §Ë _ rfl
 ·have e:b=(s.heap.push { cls:=.type "range",data:=.fields #[.int lo t,.int hi u,.int 1 v] }).objs.size:=by simpa using hb
  subst e
  §I1.q01 (Í _) (I1.hok.fresh (Í _))
def E02(ta:TA):TI:=λσ H R=>ta σ H λvs H1=>∃ j:Int,vs=[.int j]/\-(2 ^ 62)<=j/\j < 2 ^ 62/\R (Itr 0 j.toNat) H1
def E12(ta:TA):TI:=λσ H R=>ta σ H λvs H1=>∃ i j:Int,vs=[.int i,.int j]/\(-(2 ^ 62)<=i/\i < 2 ^ 62/\-(2 ^ 62)<=j/\j < 2 ^ 62)/\R (Itr i (j - i).toNat) H1
÷Q00{a:Ò}{ta:TA}{p pos:Pos}(hg:Gl X "range")(hm:X.mg "range"=none)(ha:PA X [a] ta)(hs:þ [a] X.env=[(false,eval a X.env)]:=by rfl):PI X tg (.Call (.Name "range" p) [a] [] pos) (E02 ta):=by
 intro pins s σ H R I h
 ¤Call_ (t50 I hg hm boot_range (Á1 (thn (ha pos pins s σ H _ I h) λus s1 ⟨vs,H1,I1,r1,q1⟩=>?_) hs rfl))
 ¶⟨j,e,q1,q2,q⟩:=q1
 subst e
 cases r1 with
 |cons r rr =>
  cases rr
  ¶⟨t,rfl⟩:=r
  §call_range_1 (e41 I1 (by omega) (by omega) q1 q2 (by simpa using q))
÷r31{a b:Ò}{ta:TA}{p pos:Pos}(hg:Gl X "range")(hm:X.mg "range"=none)(ha:PA X [a,b] ta)(hs:þ [a,b] X.env=[(false,eval a X.env),(false,eval b X.env)]:=by rfl)(hs2:þ [b] X.env=[(false,eval b X.env)]:=by rfl) :
  PI X tg (.Call (.Name "range" p) [a,b] [] pos) (E12 ta):=by
 intro pins s σ H R I h
 ¤Call_ (t50 I hg hm boot_range (Á1 (thn (ha pos pins s σ H _ I h) λus s1 ⟨vs,H1,I1,r1,q1⟩=>?_) (by rw[hs,hs2]) (by rw[hs2];rfl)))
 ¶⟨i,j,e,⟨q1,q2,q3,q4⟩,q⟩:=q1
 subst e
 cases r1 with
 |cons r rr =>
  cases rr with
  |cons r' rr =>
   cases rr
   ¶⟨t,rfl⟩:=r
   ¶⟨t',rfl⟩:=r'
   §call_range_2 (e41 I1 q1 q2 q3 q4 q)
def S12(wi:TI)(g:TG)(tb:TS):TS:=λD σ H=>wi σ H λJ H1=>∃ W:Nat->Nat->St->Hp->Prop,(∃ m,W 0 m σ H1)/\∀ i m σ H,W i m σ H ->
 (J.stop i H/\D.nx σ H)∨(J.go i H/\∃ N:St->Hp->Prop,(∀ σ' H',N σ' H'->∃ m',m' < m/\W (i + 1) m' σ' H')/\∀ x H',J.yld i H x H'->g x σ H' λσ2 H2=>tb { D with nx:=N,ct:=N,bk:=D.nx } σ2 H2)
def B30(fp:List Ç)(h:ì):List (Ç × Obj):=fp.filterMap λb=>(h.get? b).map λo=>(b,o)
÷k90(hb:b∈fp)(e:h.get? b=some o):(b,o)∈B30 fp h:=Ø1.mpr ⟨b,hb,by rw[e];rfl⟩
÷Q10(hp:p∈B30 fp h):p.1∈fp/\h.get? p.1=some p.2:=by
 ¶⟨b,hb,e⟩:=Ø1.mp hp
 cases q:h.get? b with
 |none=>rw[q] at e;cases e
 |some o =>
  rw[q] at e
  have e':(b,o)=p:=À6 e
  subst e'
  §⟨hb,q⟩
÷Inv.pinned(I:Inv X pins σ H s)(hf:∀ b∈fp,Y40 X pins H b)(ho:∀ b∈fp,∃ o,s.heap.get? b=some o/\∀ v,o.data≠.cell v):Inv X (pins++B30 fp s.heap) σ H s :=
 I.B10 λp hp=>(Á7.mp hp).elim (λz=>I.pin p (ï _ z)) λz=>by
  ¶⟨hb,e⟩:=Q10 z
  ¶⟨f0,f1,f2,_⟩:=hf p.1 hb
  ¶⟨o,e',d⟩:=ho p.1 hb
  rw[e] at e';cases e'
  §⟨e,f0,f1,f2,d⟩
÷Inv.J20{pins pl:List (Ç × Obj)}{σ:St}{H:Hp}{s:Æ}(I:Inv X (pins++pl) σ H s):Inv X pins σ H s:=I.B10 λp hp=>I.pin p (ï _ (Æ6 _ hp))
÷T31{Ä0:Ò}{body:List Å1}{wi:TI}{g:TG}{tb:TS}{pos:Pos}(hp:PassesOwn (Ô X.prog X.w) X.A X.env X.xe)(hc:X.calm=true)(hi:PI X tg Ä0 wi)(hg:PG X tg g)(hb:PSs X body tb)
  (hs:∀ x,É1 Ä0 X.env x=pure x:=by intro _;rfl):PS X (.For tg Ä0 body [] pos) (S12 wi g tb):=by
 intro pins s σ H D I h
 ¤wpAny_For (thn (hi pins s σ H _ I h) λv s1 h1=>thn h1 λitv s2 h2=>?_) hs
 ¶⟨it,fp,tn,J,H2,e,I2,T,st2,f2,W,⟨m0,w0⟩,turn⟩:=h2
 subst e
 have stat:∀ {H':Hp},(∀ b∈fp,H' b=none)->∀ b∈fp,Y40 X pins H' b:=λhn b hb=>⟨hn b hb,(f2 b hb).2⟩
 ¤codeAny_forLoop_any (λn s'=>∃ i σ' H',Inv X pins σ' H' s'/\tn i s'.heap/\(∀ b∈fp,H' b=none)/\W i n σ' H') ?_ m0 ⟨0,σ,H2,I2,st2,λb hb=>(f2 b hb).1,w0⟩
 rintro n s3 ⟨i,σ3,H3,I3,st3,fr3,w3⟩
 rcases turn i n σ3 H3 w3 with ⟨stop,qn⟩ | ⟨go,N,hN,step⟩
 ·¤È4 hp (thn (T.done X rfl rfl rfl hc i pins s3 σ3 H3 X.xe I3 (stat fr3) st3 stop) λr s4 ⟨hr,I4⟩=>?_)
  subst hr
  §Ï3 ⟨σ3,H3,I4,qn⟩
 ·¤È4 hp (thn (T.item X rfl rfl rfl hc i pins s3 σ3 H3 X.xe I3 (stat fr3) st3 go) λr s4 ⟨u,hr,h4⟩=>?_)
  subst hr
  ¤È4 hp (thn h4 λ_ s5 ⟨x,H5,I5,r5,y5,st5,fr5⟩=>?_)
  have I5':=I5.pinned (stat fr5) (T.obj _ _ st5)
  ¤È4 hp (thn (hg _ s5 σ3 H5 x u _ I5' r5 (step x H5 y5)) λ_ s6 ⟨σ6,H6,I6,q6⟩=>?_)
  ¤È4 hp (thn (hb _ s6 σ6 H6 _ I6 q6) λf s7 q7=>?_)
  have again:∀ {σ7:St}{H7:Hp},Inv X (pins++B30 fp s5.heap) σ7 H7 s7->N σ7 H7->∃ m,m < n/\∃ i σ' H',Inv X pins σ' H' s7/\tn i s7.heap/\(∀ b∈fp,H' b=none)/\W i m σ' H':=λ{σ7 H7} I7 n7=>by
   ¶⟨m',hm,w7⟩:=hN σ7 H7 n7
   ¤⟨m',hm,i + 1,σ7,H7,I7.J20,T.keep _ _ _ st5 λb hb o e=>(I7.pin (b,o) (ï _ (ï _ (k90 hb e)))).1,λb hb=>?_,w7⟩
   ¶⟨o,e,d⟩:=T.obj _ _ st5 b hb
   §(I7.pin (b,o) (ï _ (ï _ (k90 hb e)))).2.1
  cases f with
  |next=>¶⟨σ7,H7,I7,n7⟩:=q7;§again I7 n7
  |cont=>¶⟨σ7,H7,I7,n7⟩:=q7;§again I7 n7
  |brk=>¶⟨σ7,H7,I7,q7⟩:=q7;§⟨σ7,H7,I7.J20,q7⟩
  |ret v=>¶⟨x7,σ7,H7,I7,r7,q7⟩:=q7;§⟨x7,σ7,H7,I7.J20,r7,q7⟩
end
abbrev R2:=V->V->Hp->VK->Prop
def OpR(X:Cx)(f:Ä->Ä->Sem Ä)(r:R2):Prop :=
 ∀ (pins:List (Ç × Obj)) (s:Æ) (σ:St) (H:Hp) (x y:V) (v u:Ä) (Q:VK),Inv X pins σ H s->RelV x v->RelV y u->r x y H Q ->
  Ï (Ô X.prog X.w) X.A (f v u) (EP X pins σ Q) X.xe s
def UnR(X:Cx)(f:Ä->Sem Ä)(r:V->Hp->VK->Prop):Prop :=
 ∀ (pins:List (Ç × Obj)) (s:Æ) (σ:St) (H:Hp) (x:V) (v:Ä) (Q:VK),Inv X pins σ H s->RelV x v->r x H Q ->
  Ï (Ô X.prog X.w) X.A (f v) (EP X pins σ Q) X.xe s
def f00(X:Cx)(f:Ä)(r:List V->Hp->VK->Prop):Prop :=
 ∀ (pins:List (Ç × Obj)) (s:Æ) (σ:St) (H:Hp) (xs:List V) (us:List Ä) (Q:VK),Inv X pins σ H s->Vals xs us->r xs H Q ->
  Ï (Ô X.prog X.w) X.A (call f us) (EP X pins σ Q) X.xe s
def tOp(r:R2)(ta tb:TE):TE:=λσ H Q=>ta σ H λx H1=>tb σ H1 λy H2=>r x y H2 Q
def tUn(r:V->Hp->VK->Prop)(ta:TE):TE:=λσ H Q=>ta σ H λx H1=>r x H1 Q
def rI(C:Int->Int->Prop)(g:Int->Int->V):R2:=λx y H Q=>∃ i j,x=.int i/\y=.int j/\C i j/\Q (g i j) H
def rI0(g:Int->Int->V):R2:=λx y H Q=>∃ i j,x=.int i/\y=.int j/\Q (g i j) H
def rU(g:Int->V):V->Hp->VK->Prop:=λx H Q=>∃ i,x=.int i/\Q (g i) H
section
variable {X:Cx}{a b c:Ò}{ta tb tc:TE}{pos:Pos}
÷E22(ha:PE X a ta)(hb:PE X b tb){pins:List (Ç × Obj)}{s:Æ}{σ:St}{H:Hp}{R:V->V->Hp->Prop}(I:Inv X pins σ H s)
  (h:ta σ H λx H1=>tb σ H1 λy H2=>R x y H2) {Q:Ä->Æ->Prop}{f:Ä->Ä->Sem Ä}
  (hf:∀ v u s2 x y H2,Inv X pins σ H2 s2->RelV x v->RelV y u->R x y H2->Ï (Ô X.prog X.w) X.A (f v u) Q X.xe s2) :
  Ï (Ô X.prog X.w) X.A (eval a X.env) (λv s₁=>Ï (Ô X.prog X.w) X.A (eval b X.env) (λu s₂=>Ï (Ô X.prog X.w) X.A (f v u) Q X.xe s₂) X.xe s₁) X.xe s:=by
 ¤thn (ha pins s σ H _ I h) λv s1 ⟨x,H1,I1,r1,q1⟩=>?_
 ¤thn (hb pins s1 σ H1 _ I1 q1) λu s2 ⟨y,H2,I2,r2,q2⟩=>?_
 §hf v u s2 x y H2 I2 r1 r2 q2
÷I51{op:Ý9}{r:R2}(ho:OpR X (Ä2 op) r)(ha:PE X a ta)(hb:PE X b tb):PE X (.BinOp a op b pos) (tOp r ta tb):=by
 intro pins s σ H Q I h
 §wpAny_BinOp (E22 ha hb I h λv u s2 x y H2 I2 rx ry q=>ho pins s2 σ H2 x y v u Q I2 rx ry q)
÷n92(ho:UnR X (unaryOp op) r)(ha:PE X a ta):PE X (.UnaryOp op a pos) (tUn r ta):=by
 intro pins s σ H Q I h
 §UnaryOp_ (thn (ha pins s σ H _ I h) λv s1 ⟨x,H1,I1,r1,q1⟩=>ho pins s1 σ H1 x v Q I1 r1 q1)
÷opI{f:Ä->Ä->Sem Ä}{C:Int->Int->Prop}{g:Int->Int->Int}
  (rule:∀ (i j:Int) (t u:Tok) (s:Æ) (Q:Ä->Æ->Prop) (E:Ä->Æ->Prop),C i j->Q (.int (g i j) s.toks) { s with toks:=s.toks + 1 }->Ï (Ô X.prog X.w) X.A (f (.int i t) (.int j u)) Q E s) :
  OpR X f (rI C λi j=>.int (g i j)):=by
 intro pins s σ H x y v u Q I rx ry h
 ¶⟨i,j,rfl,rfl,hc,q⟩:=h
 ¶⟨t,rfl⟩:=rx
 ¶⟨t',rfl⟩:=ry
 §rule i j t t' s _ _ hc ⟨.int (g i j),H,I.tok _,⟨_,rfl⟩,q⟩
÷E32{f:Ä->Ä->Sem Ä}{g:Int->Int->Int}
  (rule:∀ (i j:Int) (t u:Tok) (s:Æ) (Q:Ä->Æ->Prop) (E:Ä->Æ->Prop),Q (.int (g i j) s.toks) { s with toks:=s.toks + 1 }->Ï (Ô X.prog X.w) X.A (f (.int i t) (.int j u)) Q E s) :
  OpR X f (rI0 λi j=>.int (g i j)):=by
 intro pins s σ H x y v u Q I rx ry h
 ¶⟨i,j,rfl,rfl,q⟩:=h
 ¶⟨t,rfl⟩:=rx
 ¶⟨t',rfl⟩:=ry
 §rule i j t t' s _ _ ⟨.int (g i j),H,I.tok _,⟨_,rfl⟩,q⟩
÷E42{f:Ä->Ä->Sem Ä}{g:Int->Int->Bool}
  (rule:∀ (i j:Int) (t u:Tok) (s:Æ) (Q:Ä->Æ->Prop) (E:Ä->Æ->Prop),Q (.bool (g i j)) s->Ï (Ô X.prog X.w) X.A (f (.int i t) (.int j u)) Q E s) :
  OpR X f (rI0 λi j=>.bl (g i j)):=by
 intro pins s σ H x y v u Q I rx ry h
 ¶⟨i,j,rfl,rfl,q⟩:=h
 ¶⟨t,rfl⟩:=rx
 ¶⟨t',rfl⟩:=ry
 §rule i j t t' s _ _ ⟨.bl (g i j),H,I,rfl,q⟩
def O52(i j:Int):Prop:=0<=j/\j<=1000000/\i.natAbs < 2 ^ 64
÷o02:OpR X (Ä2 .Add) (rI0 λi j=>.int (i + j)):=E32 λ_ _ _ _ _ _ _ q=>add_int q
÷o22:OpR X (Ä2 .Sub) (rI0 λi j=>.int (i - j)):=E32 λ_ _ _ _ _ _ _ q=>sub_int q
÷o32:OpR X (binaryOp .Mod) (rI (λ_ j=>0 < j) λi j=>.int (i % j)):=opI λi j _ _ _ _ _ hc q=>by
 have h1:(0:Int) < j:=hc
 §mod_int' (by omega) (by rw[Int.fmod_eq_emod_of_nonneg i (by omega)];§q)
÷o42:OpR X (Ä2 .Pow) (rI O52 λi j=>.int (i ^ j.toNat)):=opI λ_ _ _ _ _ _ _ hc q=>pow_int_small hc.1 hc.2.1 hc.2.2 q
÷O62:OpR X (Ä2 .LShift) (rI O52 λi j=>.int (i * 2 ^ j.toNat)):=opI λ_ _ _ _ _ _ _ hc q=>lshift_int_small hc.1 hc.2.1 hc.2.2 q
÷O72:OpR X (Ä2 .BitAnd) (rI0 λi j=>.int (ÿ.bitAnd i j)):=E32 λ_ _ _ _ _ _ _ q=>and_int q
÷unI{f:Ä->Sem Ä}{g:Int->Int}
  (rule:∀ (i:Int) (t:Tok) (s:Æ) (Q:Ä->Æ->Prop) (E:Ä->Æ->Prop),Q (.int (g i) s.toks) { s with toks:=s.toks + 1 }->Ï (Ô X.prog X.w) X.A (f (.int i t)) Q E s) :
  UnR X f (rU λi=>.int (g i)):=by
 intro pins s σ H x v Q I rx h
 ¶⟨i,rfl,q⟩:=h
 ¶⟨t,rfl⟩:=rx
 §rule i t s _ _ ⟨.int (g i),H,I.tok _,⟨_,rfl⟩,q⟩
÷T41:UnR X (unaryOp .USub) (rU λi=>.int (-i)):=unI λ_ _ _ _ _ q=>neg_int q
÷e51{k k':Bool}(I:Inv X pins σ H s)(q:Q (.bl k) H)(e:k=k'):EP X pins σ Q (.bool k') s:=by
 subst e
 §⟨.bl k,H,I,rfl,q⟩
÷E52:OpR X (ü .LtE) (rI0 λi j=>.bl (decide (i<=j))):=E42 λ_ _ _ _ _ _ _ q=>le_int q
÷E62:OpR X (ü .Gt) (rI0 λi j=>.bl (decide (j < i))):=E42 λ_ _ _ _ _ _ _ q=>gt_int q
÷E72:OpR X (ü .GtE) (rI0 λi j=>.bl (decide (j<=i))):=E42 λ_ _ _ _ _ _ _ q=>ge_int q
÷o52:OpR X (ü .Is) (λx y H Q=>y=.non/\Q (.bl (decide (x=.non))) H):=by
 intro pins s σ H x y v u Q I rx ry h
 ¶⟨rfl,q⟩:=h
 cases ry
 ¤is_none_gen (e51 I q ?_)
 cases x <;> first
  |(cases rx;rfl)
  |(¶⟨t,rfl⟩:=rx;rfl)
÷E82:OpR X (ü .IsNot) (λx y H Q=>y=.non/\Q (.bl (!decide (x=.non))) H):=by
 intro pins s σ H x y v u Q I rx ry h
 ¶⟨rfl,q⟩:=h
 cases ry
 ¤isnot_none_gen (e51 I q ?_)
 cases x <;> first
  |(cases rx;rfl)
  |(¶⟨t,rfl⟩:=rx;rfl)
÷Y81(ho:OpR X (ü op) r)(ha:PE X a ta)(hb:PE X b tb)(hm:behindInMarks op b=false):PE X (.Compare a [op] [b] pos) (tOp r ta tb):=by
 intro pins s σ H Q I h
 §wpAny_Compare1 (E22 ha hb I h λv u s2 x y H2 I2 rx ry q=>ho pins s2 σ H2 x y v u Q I2 rx ry q) hm
def o62(t:TE):TT:=λσ H Q=>t σ H λx H'=>∃ k,x=.bl k/\Q k H'
÷Y91(ho:OpR X (ü op) r)(ha:PE X a ta)(hb:PE X b tb)(hm:behindInMarks op b=false):PT X (.Compare a [op] [b] pos) (o62 (tOp r ta tb)):=by
 intro pins s σ H Q I h
 ¤wpAny_isTrue_Compare1 (thn (ha pins s σ H _ I h) λv s1 ⟨x,H1,I1,r1,q1⟩=>thn (hb pins s1 σ H1 _ I1 q1) λu s2 ⟨y,H2,I2,r2,q2⟩ =>
  thn (ho pins s2 σ H2 x y v u _ I2 r1 r2 q2) λc s3 ⟨z,H3,I3,r3,k,e,q3⟩=>?_) hm
 subst e
 cases r3
 §Â5 ⟨H3,I3,q3⟩
def r41(r r':R2)(ta tb tc:TE):TE:=λσ H Q=>ta σ H λx H1=>tb σ H1 λy H2=>r x y H2 λz H3=>∃ k,z=.bl k /\
 (if k=true then tc σ H3 λw' H4=>r' y w' H4 Q else Q (.bl false) H3)
÷I61(ho:OpR X (ü op) r)(ho':OpR X (ü op') r')(ha:PE X a ta)(hb:PE X b tb)(hc:PE X c tc)
  (hm:lastMarks [op,op'] [b,c]=false:=by with_unfolding_all rfl):PE X (.Compare a [op,op'] [b,c] pos) (r41 r r' ta tb tc):=by
 intro pins s σ H Q I h
 ¤Compare_chain (thn (ha pins s σ H _ I h) λv s1 ⟨x,H1,I1,r1,q1⟩=>chain_link (thn (hb pins s1 σ H1 _ I1 q1) λu s2 ⟨y,H2,I2,r2,q2⟩ =>
  thn (ho pins s2 σ H2 x y v u _ I2 r1 r2 q2) λd s3 ⟨z,H3,I3,r3,k,e,q3⟩=>?_)) hm
 subst e
 cases r3
 ¤Â5 ?_
 cases k with
 |false=>§ite_ff ⟨.bl false,H3,I3,rfl,q3⟩
 |true=>§ite_tt (chain_last (thn (hc pins s3 σ H3 _ I3 q3) λw' s4 ⟨z',H4,I4,r4,q4⟩=>ho' pins s4 σ H4 y z' u w' Q I4 r2 r4 q4))
÷I71(ho:OpR X (ü op) r)(ho':OpR X (ü op') r')(ha:PE X a ta)(hb:PE X b tb)(hc:PE X c tc)
  (hm:lastMarks [op,op'] [b,c]=false:=by with_unfolding_all rfl):PT X (.Compare a [op,op'] [b,c] pos) (o62 (r41 r r' ta tb tc)):=by
 intro pins s σ H Q I h
 ¤isTrue_chain (thn (ha pins s σ H _ I h) λv s1 ⟨x,H1,I1,r1,q1⟩=>test_link (thn (hb pins s1 σ H1 _ I1 q1) λu s2 ⟨y,H2,I2,r2,q2⟩ =>
  thn (ho pins s2 σ H2 x y v u _ I2 r1 r2 q2) λd s3 ⟨z,H3,I3,r3,k,e,q3⟩=>?_)) hm
 subst e
 cases r3
 ¤Â5 ?_
 cases k with
 |false =>
  ¶⟨k',e',q'⟩:=q3
  cases e'
  §ite_ff ⟨H3,I3,q'⟩
 |true =>
  ¤ite_tt (test_last (thn (hc pins s3 σ H3 _ I3 q3) λw' s4 ⟨z',H4,I4,r4,q4⟩=>thn (ho' pins s4 σ H4 y z' u w' _ I4 r2 r4 q4) λd' s5 ⟨z2,H5,I5,r5,k2,e2,q5⟩=>?_))
  subst e2
  cases r5
  §Â5 ⟨H5,I5,q5⟩
÷Q20:(Û:Nat) < 2 ^ 63:=by rw[Á2];decide
÷vals1(r:Vals [x] us):∃ u,us=[u]/\RelV x u:=by
 cases r with
 |cons r1 r2=>cases r2;§⟨_,rfl,r1⟩
÷vals2(r:Vals [x,y] us):∃ u w',us=[u,w']/\RelV x u/\RelV y w':=by
 cases r with
 |cons r1 r2 =>
  cases r2 with
  |cons r3 r4=>cases r4;§⟨_,_,rfl,r1,r3⟩
÷I81:f00 X (.builtin "abs") (λxs H Q=>∃ i,xs=[.int i]/\Q (.int (if i < 0 then -i else i)) H):=by
 intro pins s σ H xs us Q I r h
 ¶⟨i,rfl,q⟩:=h
 ¶⟨u,rfl,t,rfl⟩:=vals1 r
 §call_abs_int λu tk=>⟨.int (if i < 0 then -i else i),H,I.tok _,⟨_,rfl⟩,q⟩
÷r51(hc:X.calm=true):f00 X (.builtin "max") (λxs H Q=>∃ i j,xs=[.int i,.int j]/\Q (.int (if j > i then j else i)) H):=by
 intro pins s σ H xs us Q I r h
 ¶⟨i,j,rfl,q⟩:=h
 ¶⟨u,w',rfl,⟨t,rfl⟩,⟨t',rfl⟩⟩:=vals2 r
 ¤max_two_ints (I.ok.hd hc) λh' tk k=>⟨_,H,I.kept k,?_,q⟩
 by_cases hj:j > i
 ·rw[if_pos hj,if_pos hj];§⟨_,rfl⟩
 ·rw[if_neg hj,if_neg hj];§⟨_,rfl⟩
÷r61(hc:X.calm=true):f00 X (.builtin "min") (λxs H Q=>∃ i j,xs=[.int i,.int j]/\Q (.int (if j < i then j else i)) H):=by
 intro pins s σ H xs us Q I r h
 ¶⟨i,j,rfl,q⟩:=h
 ¶⟨u,w',rfl,⟨t,rfl⟩,⟨t',rfl⟩⟩:=vals2 r
 ¤min_two_ints (I.ok.hd hc) λh' tk k=>⟨_,H,I.kept k,?_,q⟩
 by_cases hj:j < i
 ·rw[if_pos hj,if_pos hj];§⟨_,rfl⟩
 ·rw[if_neg hj,if_neg hj];§⟨_,rfl⟩
÷Q30:f00 X (.type "int") (λxs H Q=>(∃ i,xs=[.int i]/\Q (.int i) H)∨∃ k,xs=[.bl k]/\Q (.int (if k then 1 else 0)) H):=by
 intro pins s σ H xs us Q I r h
 rcases h with ⟨i,rfl,q⟩ | ⟨k,rfl,q⟩
 ·¶⟨u,rfl,t,rfl⟩:=vals1 r
  §call_int_int ⟨.int i,H,I,⟨_,rfl⟩,q⟩
 ·¶⟨u,rfl,r1⟩:=vals1 r
  cases r1
  §call_int_bool ⟨.int (if k then 1 else 0),H,I.tok _,⟨_,rfl⟩,q⟩
end
structure A00(k:Nat)(A:Around):Prop where
 hd:A.handled=none
 dp:A.depth + 3 * k + 5 < recursionLimit
 un:A.units + 16 * k + 200 < cLine
÷A00.deeper{k:Nat}(r:A00 (k + 1) A)(env:Env):A00 k (A.deeper env) :=
 ⟨r.hd,by have:=r.dp;show A.depth + 1 + 3 * k + 5 < _;omega,by have:=r.un;show A.units + 3 + 16 * k + 200 < _;omega⟩
÷A00.depth{k:Nat}(r:A00 k A):A.depth < recursionLimit:=by have:=r.dp;omega
÷A00.units{k:Nat}(r:A00 k A):A.units + 64 < cLine:=by have:=r.un;omega
def O82:TA:=λ_ H Q=>Q [] H
def o72(ta:TE)(tr:TA):TA:=λσ H Q=>ta σ H λx H1=>tr σ H1 λxs H2=>Q (x::xs) H2
section
variable {X:Cx}{e:Ò}{es:List Ò}{te:TE}{t:TA}{pos:Pos}
÷r00:PA X [] O82:=λ_ _ _ _ H Q I h=>Ð4 ⟨[],H,I,.nil,h⟩
÷e60(ha:PE X e te)(hr:PA X es t)(hs:þ (e::es) X.env=(false,eval e X.env)::þ es X.env:=by rfl):PA X (e::es) (o72 te t):=by
 intro pos pins s σ H Q I h
 rw[hs]
 show Ï _ _ (spliced ((false,eval e X.env)::Ö0 pos (þ es X.env))) _ _ s
 ¤Ö9 (thn (ha pins s σ H _ I h) λu s1 ⟨x,H1,I1,r1,q1⟩=>?_)
 §thn (hr pos pins s1 σ H1 _ I1 q1) λus s2 ⟨xs,H2,I2,r2,q2⟩=>⟨x::xs,H2,I2,.cons r1 r2,q2⟩
def S22(t:TA):TE:=λσ H Q=>t σ H λxs H1=>xs.length<=Û/\∀ p,H1 p=none->Q (.ref p) (upd H1 p (.tup xs))
def S32(t:TA):TE:=λσ H Q=>t σ H λxs H1=>xs.length<=Û/\∀ p,H1 p=none->Q (.ref p) (upd H1 p (.lst xs))
÷T51(h:PA X es t):PE X (.Tuple es x1 pos) (S22 t):=by
 intro pins s σ H Q I hq
 ¤wpAny_Tuple_spliced (thn (h pos pins s σ H _ I hq) λus s1 ⟨xs,H1,I1,r,z,q⟩=>⟨by rw[← r.length];§z,?_⟩)
 have hf:H1 s1.heap.objs.size=none:=I1.hok.fresh (Í _)
 ¤⟨.ref s1.heap.objs.size,upd H1 s1.heap.objs.size (.tup xs),I1.laid (t':=s1.toks) (λb u e=>Ã _ e) (Í _) ?_,rfl,q _ hf⟩
 §⟨z,us,r,⟨_,Ë _ rfl,rfl,_,rfl⟩⟩
÷T61(h:PA X es t):PE X (.List es pos) (S32 t):=by
 intro pins s σ H Q I hq
 ¤wpAny_List_spliced (thn (h pos pins s σ H _ I hq) λus s1 ⟨xs,H1,I1,r,z,q⟩=>⟨by rw[← r.length];§z,?_⟩)
 have hf:H1 s1.heap.objs.size=none:=I1.hok.fresh (Í _)
 ¤⟨.ref s1.heap.objs.size,upd H1 s1.heap.objs.size (.lst xs),I1.laid (t':=s1.toks) (λb u e=>Ã _ e) (Í _) ?_,rfl,q _ hf⟩
 §⟨z,us,0,r,Ë _ rfl⟩
end
abbrev Sp:=List V->Hp->VK->XK->Prop
abbrev CXT:=List Env->Hp->Æ->XK->Ä->Æ->Prop
structure Z01(P:Program)(w:World)(K:PySem.W.Frag)(mg:Str->Option Value)(base:Heap)(A:Around)(outer:List Env)(s:Shared)(H:Hp):Prop where
 frames:A.frames=some outer
 mod:Mod K mg base
 bs:∀ b o,base.get? b=some o->s.heap.get? b=some o/\H b=none
 bsz:base.objs.size<=s.heap.objs.size
 l51:s.heap.FunFrames base outer
 frf:∀ b∈frs outer,H b=none
 hok:HOk P w H s.heap
 bare:AllBare s.gens
def CE(outer:List Env)(P:ß)(w:è)(H:Hp)(s:Æ)(Q:VK)(u:Ä)(s':Æ):Prop :=
 ∃ v H',s'.os=s.os/\Ó5 s'.gens/\Un (frs outer) [] H H' s.heap s'.heap/\HOk P w H' s'.heap/\RelV v u/\Q v H'
def CR(CX:CXT)(outer:List Env)(P:ß)(w:è)(H:Hp)(s:Æ)(Q:VK)(E:XK)(r:Result)(s':Æ):Prop :=
 match r with
 |.ok (.ret u)=>CE outer P w H s Q u s'
 |.ok _=>False
 |.error e=>CX outer H s E e s'
structure X80(P:Program)(w:World)(K:PySem.W.Frag)(mg:Str->Option Value)(base:Heap)(CX:CXT)(k:Nat)(f:Addr)(fd:FuncData)(ps:List Str)(sp:Sp):Prop where
 len:∀ vs H Q E,sp vs H Q E->vs.length=ps.length
 run:∀ (A:Around) (outer:List Env) (s:Shared) (H:Hp) (args:Args) (us:List Value) (vs:List V) (Q:VK) (E:XK),A00 k A->Z01 P w K mg base A outer s H->BindsTo s fd args (ps.zip us)->Vals vs us->sp vs H Q E ->
  codeAny (model P w) A (.call (.ref f) args) (CR CX outer P w H s Q E) s
section
variable {X:Cx}{pins:List (Ç × Obj)}{σ:St}{H:Hp}{s s':Æ}
÷Inv.E92(I:Inv X pins σ H s):Z01 X.prog X.w X.K X.mg X.base X.A X.stack s H :=
 ⟨I.ok.frames,I.ok.mod,I.bs,Ñ I.ok.bsz I.sz,I.stack,I.v90,I.hok,I.bare⟩
÷Inv.after(I:Inv X pins σ H s)(h:CE X.stack X.prog X.w H s Q u s'):EP X pins σ Q u s':=by
 ¶⟨v,H',os,bare,un,hok,r,q⟩:=h
 ¶⟨hh,g,d,t,os'⟩:=s'
 obtain rfl:os'=s.os:=os
 §⟨v,H',I.call (h':=hh) (g':=g) (d':=d) (t':=t) (ch:=[]) un hok bare (λb z=>absurd z (by simp)),r,q⟩
end
def F02(sp:Sp)(dvs:List V)(E:XK)(t:TA):TE:=λσ H Q=>t σ H λvs H1=>sp (vs++dvs) H1 Q E
def Binds(K:Â)(fd:Å2)(ps:List Str)(ds:List Ä):Prop :=
 ∀ (s:Æ) (us:List Ä),K.In s.heap->(us++ds).length=ps.length->BindsTo s fd ⟨us,[]⟩ (ps.zip (us++ds))
÷Binds.all{K:Â}{fd:Å2}{ps:List Str}(h:∀ us:List Ä,us.length=ps.length->bindArgs fd ⟨us,[]⟩=pure (ps.zip us)):Binds K fd ps []:=λs us _ hl=>by
 rw[append_nil] at hl ⊢
 §.of_eq (h us hl)
def Passes(CX:CXT)(X:Cx)(E:XK):Prop:=∀ (pins:List (Ç × Obj)) (σ:St) (H:Hp) (s:Æ) (e:Ä) (s':Æ),Inv X pins σ H s->CX X.stack H s E e s'->X.xe e s'
section
variable {X:Cx}{CX:CXT}{k:Nat}{f C:Ç}{fd:Å2}{ps:List Str}{sp:Sp}{dvs:List V}{ds:List Ä}{E:XK}{x m:Str}{p pos apos:Pos}{e o:Ò}{es:List Ò}{ta:TE}{t:TA}
÷o82{pins:List (Ç × Obj)}{σ:St}{H:Hp}{s:Æ}{Q:VK}{us:List Ä}{vs:List V}(F:X80 X.prog X.w X.K X.mg X.base CX k f fd ps sp)(hr:A00 k X.A)(hb:Binds X.K fd ps ds)(hd:Vals dvs ds)(hx:Passes CX X E)
  (I:Inv X pins σ H s) (r:Vals vs us) (h:sp (vs++dvs) H Q E):Ï (Ô X.prog X.w) X.A (call (.ref f) us) (EP X pins σ Q) X.xe s:=by
 have r2:Vals (vs++dvs) (us++ds):=r.append hd
 have hl:(us++ds).length=ps.length:=by rw[← r2.length];§F.len _ _ _ _ h
 ¤Õ9 (È1 (F.run X.A X.stack s H ⟨us,[]⟩ (us++ds) (vs++dvs) Q E hr I.E92 (hb s us I.kIn hl) r2 h) λr s' hq=>?_)
 cases r with
 |error e=>§hx pins σ H s e s' I hq
 |ok fl =>
  cases fl with
  |ret u=>§I.after hq
  |next=>§À3 hq
  |brk=>§À3 hq
  |cont=>§À3 hq
÷Z11(F:X80 X.prog X.w X.K X.mg X.base CX k f fd ps sp)(hr:A00 k X.A)(hg:Gl X x)(hm:X.mg x=some (.ref f))(hk:Ó7 X.K (.ref f)=true)(hb:Binds X.K fd ps ds)(hd:Vals dvs ds)(hx:Passes CX X E)
  (ha:PA X (e::es) t) (hdb:(x == ("__debug__":Str))=false:=by decide) (he:þ (e::es) X.env=(false,eval e X.env)::þ es X.env:=by rfl) (hpl:(Ö0 pos (þ es X.env)).any (·.1)=false:=by rfl) :
  PE X (.Call (.Name x p) (e::es) [] pos) (F02 sp dvs E t):=by
 intro pins s σ H Q I h
 ¤Ë8 (J00 I hg hm ?_ hdb)
 ¤callWith_K (h₀:=X.base) I.ok.mod.kin hk (thn (ha pos pins s σ H _ I h) λus s1 ⟨vs,H1,I1,r,q⟩=>⟨I1.kIn,?_⟩) he hpl
 §o82 F hr hb hd hx I1 r q
end
structure k30(N P:List Str)(sc:Scope):Prop where
 kind:sc.kind=.function
 co:sc.isCoroutine=false
 gen:sc.isGenerator=false
 nd:N.Nodup
 pre:N.take P.length=P
 par:∀ x∈P,sc.names.lookup x=some .local∨sc.names.lookup x=some .cell
 nofree:∀ y∈sc.names,y.2≠.free
÷Q40{kindOf:Str->Option Ë4}{x:Str}:∀ {binds:List (Str × Ä)}{m:Str->Option Ä},(∀ v,(x,v) ∉ binds)->bindL kindOf binds m x=m x
 |[],_,_=>rfl
 |(n,v)::r,m,h=>by
  unfold bindL
  rw[Q40 λw hw=>h w (È _ hw)]
  split
  ·have:x≠n:=by rintro rfl;§h v Ì
   simp[this]
  ·rfl
÷Q50{kindOf:Str->Option Ë4}{x:Str}:∀ {binds:List (Str × Ä)}{m:Str->Option Ä},(∀ v,(x,v) ∉ binds)->bindC kindOf binds m x=m x
 |[],_,_=>rfl
 |(n,v)::r,m,h=>by
  unfold bindC
  rw[Q50 λw hw=>h w (È _ hw)]
  split
  ·rfl
  ·have:x≠n:=by rintro rfl;§h v Ì
   simp[this]
÷Q60{kindOf:Str->Option Ë4}{x:Str}{v:Ä}:∀ {P:List Str}{vs:List Ä}{i:Nat}{m:Str->Option Ä},P.Nodup->P[i]?=some x->vs[i]?=some v->kindOf x=some .local ->
  bindL kindOf (P.zip vs) m x=some v
 |[],_,_,_,_,h,_,_=>by simp at h
 |_::_,[],_,_,_,_,h,_=>by simp at h
 |p::P,w::vs,0,m,nd,h1,h2,hk=>by
  simp at h1 h2;subst h1;subst h2
  show bindL kindOf ((p,w)::P.zip vs) m p=_
  unfold bindL
  rw[Q40 λv hv=>(Ô0.mp nd).1 (of_mem_zip hv).1,if_pos hk]
  simp
 |p::P,w::vs,i + 1,m,nd,h1,h2,hk=>by
  show bindL kindOf ((p,w)::P.zip vs) m x=_
  unfold bindL
  §Q60 (i:=i) (Ô0.mp nd).2 (by simpa using h1) (by simpa using h2) hk
÷Q70{kindOf:Str->Option Ë4}{x:Str}{v:Ä}:∀ {P:List Str}{vs:List Ä}{i:Nat}{m:Str->Option Ä},P.Nodup->P[i]?=some x->vs[i]?=some v->kindOf x≠some .local ->
  bindC kindOf (P.zip vs) m x=some v
 |[],_,_,_,_,h,_,_=>by simp at h
 |_::_,[],_,_,_,_,h,_=>by simp at h
 |p::P,w::vs,0,m,nd,h1,h2,hk=>by
  simp at h1 h2;subst h1;subst h2
  show bindC kindOf ((p,w)::P.zip vs) m p=_
  unfold bindC
  rw[Q50 λv hv=>(Ô0.mp nd).1 (of_mem_zip hv).1,if_neg hk]
  simp
 |p::P,w::vs,i + 1,m,nd,h1,h2,hk=>by
  show bindC kindOf ((p,w)::P.zip vs) m x=_
  unfold bindC
  §Q70 (i:=i) (Ô0.mp nd).2 (by simpa using h1) (by simpa using h2) hk
def start(N:List Str)(vs:List V):St:=vs.map some++î (N.length - vs.length) none
def F90(CX:CXT)(P:ß)(w:è)(K:Â)(mg:Str->Option Ä)(base:ì)(N:List Str)(qual:Str)(scope:ý)(f:Ç)(cd:Ä)(A:ø)(outer:List Env)(s:Æ)(H:Hp)(E:XK):Cx where
 prog:=P
 w:=w
 K:=K
 mg:=mg
 base:=base
 A:=A.deeper (Ï5 qual scope s.heap.objs.size f cd)
 N:=N
 s₀:=s
 H₀:=H
 env:=Ï5 qual scope s.heap.objs.size f cd
 outer:=outer
 stack:=Ï5 qual scope s.heap.objs.size f cd::outer
 ex:=[]
 calm:=true
 fn:=λ_=>true
 pn:=[]
 xe:=λe s'=>Ï (Ô P w) (A.deeper (Ï5 qual scope s.heap.objs.size f cd)) (leaving (Ï5 qual scope s.heap.objs.size f cd) e) (λ_ s''=>CX outer H s E e s'') (λe' s''=>CX outer H s E e' s'') s'
÷e61{sc:ý}{n:Nat}{x:Str}(h:sc.names.lookup x=some .cell):∃ c,(cellsFrom n sc.names []).lookup x=some c:=by
 have q:=cellsFrom_some sc.names n [] (.inl h)
 §Þ7.mp q
÷Q80{CX:CXT}{P:ß}{w:è}{K:Â}{mg:Str->Option Ä}{base:ì}{N ps:List Str}{qual:Str}{scope:ý}{f:Ç}{cd:Ä}{A:ø}{outer:List Env}{s s1:Æ}{H:Hp}{E:XK}{us:List Ä}{vs:List V}
  (S:k30 N ps scope) (hd:A.handled=none) (e0:Z01 P w K mg base A outer s H) (hl:vs.length=ps.length) (r:Vals vs us)
  (x:InCallC s s.heap.objs.size (bindL (Ï5 qual scope s.heap.objs.size f cd).kindOf (ps.zip us) λ_=>none) (cellsFrom (s.heap.objs.size + 1) scope.names []) (bindC (Ï5 qual scope s.heap.objs.size f cd).kindOf (ps.zip us) λ_=>none) s1) :
  Inv (F90 CX P w K mg base N qual scope f cd A outer s H E) [] (start N vs) H s1:=by
 have hpl:ps.length<=N.length:=by have:=congrArg List.length S.pre;rw[Æ7] at this;omega
 ¶⟨h1,tk,rfl,hk⟩:=x.done
 have noA:∀ b:Ç,b ∉ (F90 CX P w K mg base N qual scope f cd A outer s H E).ex:=λb z=>absurd (show b∈([]:List Ç) from z) (by simp)
 ¤⟨⟨e0.mod,S.kind,rfl,rfl,Í _,λy z c h1 h2=>?_,λy hy=>?_,λy c _ h=>?_,λ_=>hd,á2 e0.frames,.inr ⟨rfl,rfl⟩,λb z=>absurd z (noA b),e0.bs,e0.bsz,λb _ _=>noA b,λb z=>absurd z (noA b),e0.l51,e0.frf⟩,
  rfl,e0.bare,Un.kept hk,⟨_,x.toInCall.ns,λi y v h1 h2 h3=>?_⟩,λy c h=>⟨_,x.cell y c h⟩,e0.hok.fresh (Í _),λy c h=>?_,λp hp=>absurd (show p∈([]:List (Ç × Obj)) from hp) (by simp),e0.hok.kept hk,?_⟩
 ·§name_of_addr x.apart (Â4 h1) (Â4 h2)
 ·have hy:scope.names.lookup y=some .cell∨scope.names.lookup y=some .free:=hy
  rcases hy with hy | hy
  ·§e61 hy
  ·§absurd rfl (S.nofree _ (Â4 hy))
 ·§É3 (x.above y c (Â4 h))
 ·have hi:i < vs.length:=by
   unfold start at h2
   by_cases hi:i < vs.length
   ·§hi
   ·rw[Å4 (by simpa using hi)] at h2
    rw[Ò6] at h2
    split at h2 <;> cases h2
  have ha:vs[i]?=some v:=by
   unfold start at h2
   rw[Ð3 (by simpa using hi),Ý] at h2
   cases e:vs[i]? with
   |none=>rw[e] at h2;cases h2
   |some a=>rw[e] at h2;cases h2;rfl
  ¶⟨u,hu,rv⟩:=r.get ha
  have hp:ps[i]?=some y:=by
   rw[← S.pre,List.getElem?_take_of_lt (by omega)];§h1
  have ndP:ps.Nodup:=by rw[← S.pre];§S.nd.sublist (List.take_sublist _ _)
  ¤⟨u,rv,?_⟩
  rcases S.par y (é hp) with k | k
  ·§.inl ⟨k,Q60 ndP hp hu k⟩
  ·¶⟨c,e⟩:=e61 (n:=s.heap.objs.size + 1) k
   ¤.inr ⟨.inl k,c,e,?_⟩
   have q:=x.cell y c e
   rw[Q70 ndP hp hu (by show scope.names.lookup y≠_;rw[k];decide)] at q
   §q
 ·§e0.hok.fresh (É3 (x.above y c (Â4 h)))
 ·unfold start
  show _=N.length
  rw[Á9,É,á5]
  omega
÷F12{CX:CXT}{P:ß}{w:è}{K:Â}{mg:Str->Option Ä}{base:ì}{k:Nat}{f:Ç}{name qual:Str}{params:Î1}{body:List Å1}{scope:ý}{dV kV doc pm cdv ct oc:Ä}{an od:Option Ç}
  {osl:Array (Option Ä)}{N ps:List Str}{sp:Sp} (lk:K.lookup f=some ⟨oc,od,.func (fnOf name qual params body scope dV kV doc pm an cdv ct),osl⟩) (hcd:PySem.W.codeIn K cdv qual=true) (S:k30 N ps scope)
  (len:∀ vs H Q E,sp vs H Q E->vs.length=ps.length)
  (hbody:∀ (A:ø) (outer:List Env) (s:Æ) (H:Hp) (vs:List V) (Q:VK) (E:XK),A00 k (A.deeper (Ï5 qual scope s.heap.objs.size f cdv))->sp vs H Q E ->
   ∃ t,PSs (F90 CX P w K mg base N qual scope f cdv A outer s H E) body t/\t { nx:=λ_ H'=>Q .non H',rt:=Q } (start N vs) H) :
  X80 P w K mg base CX (k + 1) f (fnOf name qual params body scope dV kV doc pm an cdv ct) ps sp:=by
 ¤⟨len,λA outer s H args us vs Q E hr e0 hb r hsp=>?_⟩
 have hl:=len _ _ _ _ hsp
 have KX:K.In s.heap:=e0.mod.kin.keeps λb o e=>(e0.bs b o e).1
 have lim:s.heap.NoLimit:=e0.mod.nolimit.keeps λb o e=>(e0.bs b o e).1
 have hkind:∀ y∈ps.zip us,scope.names.lookup y.1=some .local∨(scope.names.lookup y.1=some .cell/\((cellsFrom (s.heap.objs.size + 1) scope.names []).lookup y.1).isSome=true):=λ⟨n,v⟩ hy=>by
  rcases S.par n (of_mem_zip hy).1 with q | q
  ·§.inl q
  ·§.inr ⟨q,cellsFrom_some _ _ _ (.inl q)⟩
 ¤codeAny_call_function hr.depth (KX _ _ lk) rfl S.co S.gen rfl (codeRec_of KX hcd) (hb _ _ _ _ ?_)
 ¤á3 S.kind hkind λenv he s1 x=>?_
 subst he
 ¤⟨lim.keeps x.toInCall.keep,codeAny_func ?_⟩
 ¶⟨t,ht,hq⟩:=hbody A outer s H vs Q E (hr.deeper _) hsp
 have I:Inv (F90 CX P w K mg base N qual scope f cdv A outer s H E) [] (start N vs) H s1:=Q80 S hr.hd e0 hl r x
 ¤Â1 (ht [] s1 (start N vs) H _ I hq) (λfl s' hs=>?_) λe s' hs=>hs
 have fin:∀ {σ':St}{H':Hp}{v:V}{u:Ä},Inv (F90 CX P w K mg base N qual scope f cdv A outer s H E) [] σ' H' s'->RelV v u->Q v H'->CE outer P w H s Q u s' :=
  λ{σ' H' v u} J rv q=>⟨v,H',J.os,J.bare,J.base,J.hok,rv,q⟩
 cases fl with
 |ret u =>
  ¶⟨v,σ',H',J,rv,q⟩:=hs
  §fin J rv q
 |next =>
  ¶⟨σ',H',J,q⟩:=hs
  §fin (v:=V.non) (u:=â) J rfl q
 |brk =>
  ¶⟨_,_,_,q⟩:=hs
  §À3 q
 |cont =>
  ¶⟨_,_,_,q⟩:=hs
  §À3 q
section
variable {X:Cx}{x:Str}{p pos:Pos}{e:Ò}{es:List Ò}{t:TA}{id T:String}{r:List V->Hp->VK->Prop}
def tCB(r:List V->Hp->VK->Prop)(t:TA):TE:=λσ H Q=>t σ H λvs H1=>r vs H1 Q
÷t60(hc:f00 X (.builtin id) r)(hg:Gl X x)(hm:X.mg x=none)(hv:ë x=some (.builtin id))(ha:PA X (e::es) t)(hn:x≠"__name__":=by decide)(hdb:(x == ("__debug__":Str))=false:=by decide)
  (he:þ (e::es) X.env=(false,eval e X.env)::þ es X.env:=by rfl) (hpl:(Ö0 pos (þ es X.env)).any (·.1)=false:=by rfl):PE X (.Call (.Name x p) (e::es) [] pos) (tCB r t):=by
 intro pins s σ H Q I h
 ¤Ë8 (t50 I hg hm hv ?_ hn hdb)
 §PyProof.Rows.callWith_builtin1 (thn (ha pos pins s σ H _ I h) λus s1 ⟨vs,H1,I1,r1,q1⟩=>hc pins s1 σ H1 vs us Q I1 r1 q1) he hpl
÷Q90(hc:f00 X (.type T) r)(hg:Gl X x)(hm:X.mg x=none)(hv:ë x=some (.type T))(ha:PA X (e::es) t)(hn:x≠"__name__":=by decide)(hdb:(x == ("__debug__":Str))=false:=by decide)
  (he:þ (e::es) X.env=(false,eval e X.env)::þ es X.env:=by rfl) (hpl:(Ö0 pos (þ es X.env)).any (·.1)=false:=by rfl):PE X (.Call (.Name x p) (e::es) [] pos) (tCB r t):=by
 intro pins s σ H Q I h
 ¤Ë8 (t50 I hg hm hv ?_ hn hdb)
 §Á1 (thn (ha pos pins s σ H _ I h) λus s1 ⟨vs,H1,I1,r1,q1⟩=>hc pins s1 σ H1 vs us Q I1 r1 q1) he hpl
end
end L2
namespace HT
open PySem PyProof.Rows
÷I91(A:ø)(s:Æ)(a:Int)(t:Tok)(c:Int)(u:Tok):∃ e,Ö8 A s (.int a t) (.int c u) e/\(e=true↔a=c) :=
 ⟨(a == c),Ö8.int_int a t c u,by simp⟩
÷e71(A:ø)(s:Æ)(a:Int)(t:Tok)(c:Int)(u:Tok)(prog:ß)(w:è)(E:Ä->Æ->Prop)(Q:Ä->Æ->Prop)(h:Q (.bool (decide (a < c))) s) :
  Ï (Ô prog w) A (richCompare .Lt (.int a t) (.int c u)) Q E s :=
 (lt_int h:Ï (Ô prog w) A (ü .Lt (.int a t) (.int c u)) Q E s)
section
variable {prog:ß}{w:è}{A:ø}{E:Ä->Æ->Prop}{s:Æ}
÷Z21{t b:Ç}{vs ws:List Ä}{Q:Ä->Æ->Prop}(ht:Ï0 s.heap t vs.toArray)(hb:Ï0 s.heap b ws.toArray)(hv:vs≠[])
  (h1:ws=[]->Q (.ref t) s) (h2:ws≠[]->Q (.ref s.heap.objs.size) { s with heap:=s.heap.push { cls:=.type "tuple",data:=.seq (vs++ws).toArray } })
  (hsz:vs.length + ws.length<=Û):Ï (Ô prog w) A (Ä2 .Add (.ref t) (.ref b)) Q E s:=by
 ¶⟨⟨cls,dd,data,sl⟩,ho,hc,n,hd⟩:=id ht
 ¶⟨⟨cls2,dd2,data2,sl2⟩,ho2,hc2,n2,hd2⟩:=id hb
 simp only at hc hd hc2 hd2
 subst hc hd hc2 hd2
 have e:vs.toArray++ws.toArray=(vs++ws).toArray:=by simp
 by_cases hw:ws=[]
 ·§concat_meets ⟨_,ho,rfl⟩ ⟨_,ho2,rfl⟩ ß4 seq_tuple_add Ò1 Ð9 (Ï6 _ _)
   (tuple_addW1 t b vs.toArray ws.toArray n n2 dd dd2 sl sl2 (by simpa using hv) (by simp[hw])) ⟨ho,ho2,h1 hw⟩
 ·¤concat_meets ⟨_,ho,rfl⟩ ⟨_,ho2,rfl⟩ ß4 seq_tuple_add Ò1 Ð9 (Ï6 _ _)
   (tuple_addW2 t b vs.toArray ws.toArray n n2 dd dd2 sl sl2 (by simpa using hv) (by simpa using hw) (by rw[Ó,Ó];§hsz)) ⟨ho,ho2,?_⟩
  rw[e]
  §h2 hw
def sIx(n d:Nat):Option Int->Nat
 |none=>d
 |some v=>if v < 0 then(v + (n:Int)).toNat else min v.toNat n
÷r71(n d k:Nat):sIx n d (some (k:Int))=min k n:=by
 show(if (k:Int) < 0 then((k:Int) + (n:Int)).toNat else min (k:Int).toNat n)=min k n
 rw[if_neg (by omega),Á8]
÷o92(n d:Nat)(hd:d<=n)(o:Option Int):sIx n d o<=n:=by
 cases o with
 |none=>§hd
 |some v =>
  show(if v < 0 then(v + (n:Int)).toNat else min v.toNat n)<=n
  by_cases hv:v < 0
  ·rw[if_pos hv];omega
  ·rw[if_neg hv];§Nat.min_le_right _ _
÷r81(v:Int)(n d:Nat):(if v < 0 then max (v + (n:Int)) 0 else min v (n:Int))=((sIx n d (some v):Nat):Int):=by
 show(if v < 0 then max (v + (n:Int)) 0 else min v (n:Int))=(((if v < 0 then(v + (n:Int)).toNat else min v.toNat n):Nat):Int)
 by_cases hv:v < 0
 ·simp only[if_pos hv];omega
 ·simp only[if_neg hv];omega
÷l81(lo hi:Option Int)(n:Nat):Í2 lo hi 1 (n:Int)=(((sIx n 0 lo:Nat):Int),((sIx n n hi:Nat):Int)):=by
 have h1:¬ ((1:Int) < 0):=by omega
 unfold Í2
 simp only[h1,if_false]
 ¤Prod.ext ?_ ?_
 ·cases lo with
  |none=>rfl
  |some v=>§r81 v n 0
 ·cases hi with
  |none=>rfl
  |some v=>§r81 v n n
÷l91(i j:Nat):È9 (i:Int) (j:Int) 1=j - i:=by
 unfold È9
 have h1:(1:Int) > 0:=by omega
 simp only[h1,if_true,Int.ediv_one]
 split <;> omega
÷G50(p:Ù4 v o)(h:Q o s):Ï (Ô prog w) A (ÿ.Slice.slicePartIndex v) Q E s:=by
 cases p with
 |none=>§Ø8 h
 |int i t=>§slicePart_int h
÷m80{sl:Ç}{vl vu:Ä}{lo hi:Option Int}{n:Nat}{Q:Int × Int × Nat->Æ->Prop}(hs:s.heap.IsSliceOf sl vl vu .none)(pl:Ù4 vl lo)(pu:Ù4 vu hi)
  (h:Q (((sIx n 0 lo:Nat):Int),1,sIx n n hi - sIx n 0 lo) s):Ï (Ô prog w) A (Ô5 (.ref sl) (pure (n:Int))) Q E s:=by
 ¶⟨os,hos,hcs,hds⟩:=id hs
 unfold Ô5 sliceFields
 ¤À (À (Á5 hos hds (x:=vl) rfl (À (Á5 hos hds (x:=vu) rfl (À (Á5 hos hds (x:=.none) rfl (Å ?_)))))))
 ¤À (Ø8 ?_)
 show Ï _ _ (if ((1:Int) == 0)=true then _ else _) _ _ s
 rw[if_neg (by decide)]
 ¤À (G50 pl (À (G50 pu (À (Å ?_)))))
 show Ï _ _ (match Í2 lo hi 1 (n:Int) with | (lo,hi)=>pure (lo,(1:Int),È9 lo hi 1)) _ _ s
 rw[l81 lo hi n]
 show Ï _ _ (pure (((sIx n 0 lo:Nat):Int),(1:Int),È9 ((sIx n 0 lo:Nat):Int) ((sIx n n hi:Nat):Int) 1)) _ _ s
 rw[l91]
 §Å h
÷J01(xs:Array Ä)(i k:Nat):((í k).filterMap λ(m:Nat)=>xs[((i:Int) + (m:Int) * 1).toNat]?).toArray=((xs.toList.drop i).take k).toArray:=by
 have e:(λ(m:Nat)=>xs[((i:Int) + (m:Int) * 1).toNat]?)=λm=>xs[i + m]?:=by
  funext m
  have:((i:Int) + (m:Int) * 1).toNat=i + m:=by omega
  rw[this]
 rw[e]
 have:=pick_run xs i k
 rw[List.filterMap_map] at this
 have e2:((λx=>xs[x]?) ∘ λx=>i + x)=λm=>xs[i + m]?:=rfl
 rw[e2] at this
 rw[this]
÷w00{t sl:Ç}{items:Array Ä}{vl vu:Ä}{lo hi:Option Int}{Q:Ä->Æ->Prop}(ht:Ï0 s.heap t items)(hs:s.heap.IsSliceOf sl vl vu .none)(pl:Ù4 vl lo)(pu:Ù4 vu hi)
  (hw:¬ (sIx items.size 0 lo=0/\sIx items.size items.size hi=items.size))
  (h:Q (.ref s.heap.objs.size) { s with heap:=s.heap.push { cls:=.type "tuple",data:=.seq ((items.toList.drop (sIx items.size 0 lo)).take (sIx items.size items.size hi - sIx items.size 0 lo)).toArray } })
  (hsz:items.size<=Û):Ï (Ô prog w) A (Ó3 (.ref t) (.ref sl)) Q E s:=by
 have htake:sizeOk (.seq ((items.toList.drop (sIx items.size 0 lo)).take (sIx items.size items.size hi - sIx items.size 0 lo)).toArray):=by
  show((items.toList.drop (sIx items.size 0 lo)).take (sIx items.size items.size hi - sIx items.size 0 lo)).toArray.size<=Û
  rw[Ó,Æ7,Í3,Ê5]
  omega
 have hj:sIx items.size items.size hi<=items.size:=o92 _ _ (Í _) hi
 ¶⟨os,hos,hcs,hds⟩:=id hs
 have hTs:s.TypeIs (.ref sl) "slice":=⟨os,hos,hcs⟩
 unfold Ó3
 try with_reducible ¤À7 ?_
 first | ¤À (Å ?_) | skip
 ¤À (Ý3 ht.typeIs (by decide) ?_)
 ¤À (À5 (name:=À9 "__getitem__") ht.typeIs ò
  (À4 ò ht.typeIs entry_tuple_getitem ?_ (Ü4 _ _)))
 show Ï _ _ (tupleItemsOf (.ref t) >>= _) _ _ s
 ¤À (tupleItemsOf_ ht ?_)
 ¤À (Ç7 hTs ?_)
 rw[if_pos (by decide)]
 ¤À (m80 hs pl pu ?_)
 have hno:¬ ((((sIx items.size 0 lo:Nat):Int) == 0&&(1:Int) == 1&&(sIx items.size items.size hi - sIx items.size 0 lo) == items.size)=true):=by
  intro q
  rw[Á,Á] at q
  have q1:((sIx items.size 0 lo:Nat):Int)=0:=eq_of_beq q.1.1
  have q2:sIx items.size items.size hi - sIx items.size 0 lo=items.size:=eq_of_beq q.2
  §hw ⟨by omega,by omega⟩
 show Ï _ _ (if (((sIx items.size 0 lo:Nat):Int) == 0&&(1:Int) == 1&&(sIx items.size items.size hi - sIx items.size 0 lo) == items.size)=true then _ else _) _ _ s
 rw[if_neg hno,J01]
 first
  |§À (m:=Ç0 _) (æ (Å ⟨_,rfl,Å h⟩) htake)
  |§À (m:=Ç0 _) (æ (À (Å (Å ⟨_,rfl,Å h⟩))) htake)
  |§À (À (m:=Ç0 _) (æ (Å (Å ⟨_,rfl,Å h⟩)) htake))
  |§À (À (m:=Ç0 _) (æ (Å ⟨_,rfl,Å h⟩) htake))
end
end HT
namespace L2
open PySem PySem.Spec PyProof.Rows
abbrev TO:=St->Hp->(Option Int->Hp->Prop)->Prop
def PO(X:Cx)(e:Option Ò)(t:TO):Prop :=
 ∀ (pins:List (Ç × Obj)) (s:Æ) (σ:St) (H:Hp) (Q:Option Int->Hp->Prop),Inv X pins σ H s->t σ H Q ->
  Ï (Ô X.prog X.w) X.A (evalPart e X.env) (λu s'=>∃ o H',Inv X pins σ H' s'/\Ù4 u o/\Q o H') X.xe s
def Z31:TO:=λ_ H Q=>Q none H
def F22(t:TE):TO:=λσ H Q=>t σ H λx H1=>∃ i,x=.int i/\Q (some i) H1
÷intsAre_of:∀ {us:List Ä},Vals (ns.map V.int) us->Ë5 us ns:=by
 induction ns with
 |nil=>intro us r;rw[map_nil] at r;cases r;§.nil
 |cons n ns ih =>
  intro us r
  rw[Å7] at r
  cases r with
  |cons r1 r2 =>
   ¶⟨t,e⟩:=r1
   subst e
   §.cons n t (ih r2)
section
variable {X:Cx}{e:Ò}{te:TE}{lo hi:Option Ò}{tl th:TO}{pos p2:Pos}
÷Z41:PO X none Z31:=by
 intro pins s σ H Q I h
 rw[evalPart_none]
 §Å ⟨none,H,I,.none,h⟩
÷Z51(h:PE X e te):PO X (some e) (F22 te):=by
 intro pins s σ H Q I hw
 rw[evalPart_some]
 ¤thn (h pins s σ H _ I hw) λu s1 ⟨x,H1,I1,r1,q1⟩=>?_
 ¶⟨i,rfl,q⟩:=q1
 ¶⟨t,rfl⟩:=r1
 §⟨some i,H1,I1,.int i t,q⟩
def SlR(X:Cx)(r:V->Option Int->Option Int->Hp->VK->Prop):Prop :=
 ∀ (pins:List (Ç × Obj)) (s:Æ) (σ:St) (H:Hp) (x:V) (v vl vu:Ä) (lo hi:Option Int) (sl:Ç) (Q:VK),Inv X pins σ H s->RelV x v->s.heap.IsSliceOf sl vl vu .none->Ù4 vl lo->Ù4 vu hi->r x lo hi H Q ->
  ∃ T id,typeLookup (.type T) "__getitem__"=pure (some (.builtin id))/\s.TypeIs v T/\Ï (Ô X.prog X.w) X.A (Ó3 v (.ref sl)) (EP X pins σ Q) X.xe s
def tSl(r:V->Option Int->Option Int->Hp->VK->Prop)(te:TE)(tl th:TO):TE:=λσ H Q=>te σ H λx H1=>tl σ H1 λl H2=>th σ H2 λu H3=>r x l u H3 Q
÷J11(hr:SlR X r)(he:PE X e te)(hl:PO X lo tl)(hu:PO X hi th):PE X (.Subscript e (.Slice lo hi none p2) pos) (tSl r te tl th):=by
 intro pins s σ H Q I h
 ¤Subscript_ (thn (he pins s σ H _ I h) λv s1 ⟨x,H1,I1,r1,q1⟩=>?_)
 ¤wpAny_Slice (thn (hl pins s1 σ H1 _ I1 q1) λvl s2 ⟨l,H2,I2,pl,q2⟩=>thn (hu pins s2 σ H2 _ I2 q2) λvu s3 ⟨u,H3,I3,pu,q3⟩=>?_)
 rw[evalPart_none]
 ¤Å ?_
 have I4:Inv X pins σ H3 { s3 with heap:=s3.heap.push { cls:=.type "slice",data:=.fields #[vl,vu,.none] } }:=I3.kept (t':=s3.toks) λb ob q=>Ã _ q
 obtain⟨T,id,hT,ht,hg⟩:=hr pins { s3 with heap:=s3.heap.push { cls:=.type "slice",data:=.fields #[vl,vu,.none] } } σ H3 x v vl vu l u s3.heap.objs.size Q I4 r1 (Ò8 ..) pl pu q3
 show Ï (Ô X.prog X.w) X.A (subscriptTail e (.Slice lo hi none p2) v (.ref s3.heap.objs.size)) (EP X pins σ Q) X.xe { s3 with heap:=s3.heap.push { cls:=.type "slice",data:=.fields #[vl,vu,.none] } }
 §tail_any (ops:=[.ref s3.heap.objs.size,v]) ht hT hg (by with_unfolding_all rfl)
def J21(xs:List V)(lo hi:Option Int):List V:=(xs.drop (HT.sIx xs.length 0 lo)).take (HT.sIx xs.length xs.length hi - HT.sIx xs.length 0 lo)
÷B40(xs:List V)(lo hi:Option Int):(J21 xs lo hi).length<=xs.length:=by
 unfold J21
 rw[Æ7,Í3]
 omega
÷Vals.J30(r:Vals xs us):us=[]↔xs=[]:=by
 cases r with
 |nil=>simp
 |cons _ _=>simp
end
def ixN(n:Nat)(i:Int):Option Nat:=if 0<=i then(if i < n then some i.toNat else none) else if -(n:Int)<=i then some (i + n).toNat else none
def atI{α:Type}(xs:List α)(i:Int):Option α:=(ixN xs.length i).bind λj=>xs[j]?
÷r91{n:Nat}{i:Int}{j:Nat}(h:ixN n i=some j):seqIndex? i n=some j/\j < n/\-(n:Int)<=i/\i < n:=by
 unfold ixN at h
 by_cases h0:0<=i
 ·rw[if_pos h0] at h
  by_cases h1:i < n
  ·rw[if_pos h1] at h
   have e:i.toNat=j:=À6 h
   §⟨by rw[Ø9 h0 h1,e],by omega,by omega,h1⟩
  ·rw[if_neg h1] at h;cases h
 ·rw[if_neg h0] at h
  by_cases h1:-(n:Int)<=i
  ·rw[if_pos h1] at h
   have e:(i + n).toNat=j:=À6 h
   §⟨by rw[seqIndex_neg (by omega) h1,e],by omega,h1,by omega⟩
  ·rw[if_neg h1] at h;cases h
÷Y60{α:Type}{xs:List α}{i:Int}{v:α}(h:atI xs i=some v):∃ j,seqIndex? i xs.length=some j/\xs[j]?=some v/\j < xs.length/\-(xs.length:Int)<=i/\i < xs.length:=by
 unfold atI at h
 cases e:ixN xs.length i with
 |none=>rw[e] at h;cases h
 |some j =>
  rw[e] at h
  ¶⟨h1,h2,h3,h4⟩:=r91 e
  §⟨j,h1,h,h2,h3,h4⟩
÷B50{α:Type}{xs:List α}{j:Nat}{v:α}(h:xs[j]?=some v):atI xs (j:Int)=some v:=by
 have hj:j < xs.length:=(Þ.mp h).1
 have e:ixN xs.length (j:Int)=some j:=by
  unfold ixN
  rw[if_pos (by omega),if_pos (by omega)];simp
 unfold atI;rw[e];§h
def s01(b:Ò):Prop:=∀ o i,subscripted b false o i=operate [o,i] (Ó3 o i)
def IxR(X:Cx)(r:R2):Prop :=
 ∀ (value slice:Ò) (pins:List (Ç × Obj)) (s:Æ) (σ:St) (H:Hp) (x y:V) (v u:Ä) (Q:VK),Inv X pins σ H s->RelV x v->RelV y u->r x y H Q ->
  subscripted slice false v u=operate [v,u] (Ó3 v u)->Ï (Ô X.prog X.w) X.A (subscriptTail value slice v u) (EP X pins σ Q) X.xe s
def MtR(X:Cx)(id:String)(r:V->List V->Hp->VK->Prop):Prop :=
 ∀ (pins:List (Ç × Obj)) (s:Æ) (σ:St) (H:Hp) (x:V) (xs:List V) (v:Ä) (us:List Ä) (Q:VK),Inv X pins σ H s->RelV x v->Vals xs us->r x xs H Q ->
  Ï (Ô X.prog X.w) X.A (call (.builtin id) (v::us)) (EP X pins σ Q) X.xe s
section
variable {X:Cx}{a b:Ò}{ta tb:TE}{pos:Pos}
÷Z61(hr:IxR X r)(ha:PE X a ta)(hb:PE X b tb)(hs:s01 b):PE X (.Subscript a b pos) (tOp r ta tb):=by
 intro pins s σ H Q I h
 §Subscript_ (E22 ha hb I h λv u s2 x y H2 I2 rx ry q=>hr a b pins s2 σ H2 x y v u Q I2 rx ry q (hs _ _))
def F32(K:Â):R2:=λx y H Q=>∃ p xs i v,x=.ref p/\y=.int i/\SqL K H p xs/\atI xs i=some v/\Q v H
def S42(K:Â):R2:=λx y H Q=>∃ p xs i v,x=.ref p/\y=.int i/\SqT K H p xs/\atI xs i=some v/\Q v H
÷Y70:IxR X (F32 X.K):=by
 intro value slice pins s σ H x y v u Q I rx ry h hs
 ¶⟨p,xs,i,z,rfl,rfl,hq,he,q⟩:=h
 cases rx
 ¶⟨t,rfl⟩:=ry
 ¶⟨its,r,pl,hz⟩:=I.list hq
 ¶⟨j,h1,h2,h3,h4,h5⟩:=Y60 he
 ¶⟨w,ew,rw'⟩:=r.get h2
 have hl:=r.length
 have hn:=Q20
 have fin:EP X pins σ Q w s:=⟨z,H,I,rw',q⟩
 by_cases h0:0<=i
 ·have hj:i.toNat=j:=by
   rw[Ø9 h0 h5] at h1
   §À6 h1
  §item_listR pl.isList h0 (by omega) (by rw[hj];simpa using ew) fin hs
 ·have hj:(i + (its.toArray.size:Int)).toNat=j:=by
   rw[seqIndex_neg (by omega) h4] at h1
   rw[Ó,← hl]
   §À6 h1
  §subscriptTail_builtinR (x:=w) pl.isList.typeIs slot_list_getitem.lookup
   (wpAny_getItem_list_neg (Q:=λr s'=>r=w/\EP X pins σ Q r s') pl.isList (by omega) (by rw[Ó] <;> omega) (by omega) (by rw[hj];simpa using ew) ⟨rfl,fin⟩) hs
÷p02:IxR X (S42 X.K):=by
 intro value slice pins s σ H x y v u Q I rx ry h hs
 ¶⟨p,xs,i,z,rfl,rfl,hq,he,q⟩:=h
 cases rx
 ¶⟨t,rfl⟩:=ry
 ¶⟨its,r,pl,hz⟩:=I.tuple hq
 ¶⟨j,h1,h2,h3,h4,h5⟩:=Y60 he
 ¶⟨w,ew,rw'⟩:=r.get h2
 have hl:=r.length
 have hn:=Q20
 have fin:EP X pins σ Q w s:=⟨z,H,I,rw',q⟩
 §subscriptTail_builtinR (x:=w) pl.typeIs slot_tuple_getitem.lookup
  (getItem_tuple (j:=j) (Q:=λr s'=>r=w/\EP X pins σ Q r s') pl (by omega) (by omega) (by rw[Ó,← hl];§h1) (by simpa using ew) ⟨rfl,fin⟩) hs
÷m01(its:List Ä)(n j:Nat)(u:Ä):À1 (·.setIfInBounds j u) { cls:=.type "list",data:=.seq its.toArray n }={ cls:=.type "list",data:=.seq (its.set j u).toArray n }:=by
 simp[À1]
÷Inv.lst{pins:List (Ç × Obj)}{σ:St}{H:Hp}{s:Æ}{p:Ç}{xs:List V}(I:Inv X pins σ H s)(h:H p=some (.lst xs)) :
  ∃ (its:List Ä) (n:Nat),Vals xs its/\s.heap.get? p=some { cls:=.type "list",data:=.seq its.toArray n }/\xs.length<=sizeLine:=by
 ¶⟨z,its,n,r,e⟩:=I.hok p _ h
 §⟨its,n,r,e,z⟩
÷Inv.p12{pins:List (Ç × Obj)}{σ:St}{H:Hp}{s:Æ}{p:Ç}{xs ys:List V}{its its':List Ä}{n n':Nat}{f:Obj->Obj}(I:Inv X pins σ H s)(h:H p=some (.lst xs))
  (ho:s.heap.get? p=some { cls:=.type "list",data:=.seq its.toArray n }) (hf:f { cls:=.type "list",data:=.seq its.toArray n }={ cls:=.type "list",data:=.seq its'.toArray n' }) (r:Vals ys its') (hz:ys.length<=Û) (t:Nat) :
  Inv X pins σ (upd H p (.lst ys)) { s with heap:=s.heap.update p f,toks:=t }:=by
 have e:(s.heap.update p f).get? p=some { cls:=.type "list",data:=.seq its'.toArray n' }:=by
  rw[Ç6 f ho (by rw[hf] <;> rfl),hf]
 ¤I.write (x:=p) (e:=p) (by rw[h];trivial) (.inl rfl) (λb u hb q=>(Ë6 _ _ (Â3 hb)).trans q) ⟨_,e⟩ ?_
 §⟨hz,its',n',r,e⟩
def F42:V->V->V->Hp->(Hp->Prop)->Prop:=λo i v H Q=>∃ p xs k j,o=.ref p/\i=.int k/\H p=some (.lst xs)/\ixN xs.length k=some j/\Q (upd H p (.lst (xs.set j v)))
÷set_list:D72 X F42:=by
 intro pins s σ H o i v ov iv u Q I ro ri rv h
 ¶⟨p,xs,k,j,rfl,rfl,hp,hj,q⟩:=h
 cases ro
 ¶⟨t,rfl⟩:=ri
 ¶⟨its,n,r,ho,hz⟩:=I.lst hp
 ¶⟨h1,h2,h3,h4⟩:=r91 hj
 have hl:=r.length
 have hn:=Q20
 have I':Inv X pins σ (upd H p (.lst (xs.set j v))) { s with heap:=s.heap.update p (À1 (·.setIfInBounds j u)) } :=
  I.p12 hp ho (m01 its n j u) (r.set rv j) (by rw[Ä1];§hz) s.toks
 by_cases h0:0<=k
 ·have hk:k.toNat=j:=by
   rw[Ø9 h0 h4] at h1
   §À6 h1
  §PySem.W.ki_setAt ho h0 (by omega) (by rw[Ó,← hl];§h4) (by rw[hk];§⟨_,I',q⟩)
 ·have hk:(k + (its.toArray.size:Int)).toNat=j:=by
   rw[seqIndex_neg (by omega) h3] at h1
   rw[Ó,← hl]
   §À6 h1
  §PySem.W.ki_setBack ho (by omega) (by rw[Ó,← hl];§h3) (by omega) (by rw[hk];§⟨_,I',q⟩)
÷R00(lo hi:Option Int)(n:Nat):(Î6 lo hi none n).1=((HT.sIx n 0 lo:Nat):Int)/\(Î6 lo hi none n).2.1=((HT.sIx n n hi:Nat):Int)/\(Î6 lo hi none n).2.2=1:=by
 ¤⟨?_,?_,rfl⟩
 ·cases lo with
  |none=>simp[Î6,HT.sIx]
  |some i =>
   simp only[Î6,HT.sIx,getD_none,show(1:Int) > 0 by decide,if_true]
   by_cases h:i < 0
   ·simp only[h,if_true] <;> omega
   ·simp only[h,if_false] <;> omega
 ·cases hi with
  |none=>simp[Î6,HT.sIx]
  |some i =>
   simp only[Î6,HT.sIx,getD_none,show(1:Int) > 0 by decide,if_true]
   by_cases h:i < 0
   ·simp only[h,if_true] <;> omega
   ·simp only[h,if_false] <;> omega
÷J40(its:List Ä)(lo hi:Option Int):slicePick its.toArray lo hi none=((its.drop (HT.sIx its.length 0 lo)).take (HT.sIx its.length its.length hi - HT.sIx its.length 0 lo)).toArray:=by
 ¶⟨h1,h2,h3⟩:=R00 lo hi its.toArray.size
 unfold slicePick
 rw[h1,h2,h3]
 simp only[sliceRange_one,pick_run,Ó] <;> rfl
def S52(K:Â):V->Option Int->Option Int->Hp->VK->Prop:=λx lo hi H Q=>∃ a xs,x=.ref a/\SqL K H a xs/\∀ p,H p=none->Q (.ref p) (upd H p (.lst (J21 xs lo hi)))
÷Z71:SlR X (S52 X.K):=by
 intro pins s σ H x v vl vu lo hi sl Q I rx hs pl pu h
 ¶⟨a,xs,rfl,hx,q⟩:=h
 cases rx
 ¶⟨its,r,ht,hz⟩:=I.list hx
 have hlen:=r.length
 ¤⟨"list",_,slot_list_getitem.lookup,ht.isList.typeIs,?_⟩
 ¤wpAny_getItem_list_slice ht.isList hs pl pu .none (by simp) ?_ (by rw[Ó] <;> omega)
 rw[J40,← hlen]
 ¤⟨.ref s.heap.objs.size,_,I.laid (t':=s.toks) (o:=.lst (J21 xs lo hi)) (λb ob q=>Ã _ q) (Í _) ?_,rfl,q _ (I.hok.fresh (Í _))⟩
 §⟨Ñ (B40 xs lo hi) hz,_,0,(r.drop (HT.sIx xs.length 0 lo)).take (HT.sIx xs.length xs.length hi - HT.sIx xs.length 0 lo),Ë _ rfl⟩
÷R10:f00 X (.builtin "len") (λxs H Q=>∃ p ys,xs=[.ref p]/\(SqL X.K H p ys∨SqT X.K H p ys)/\Q (.int ys.length) H):=by
 intro pins s σ H xs us Q I r h
 ¶⟨p,ys,rfl,hq,q⟩:=h
 ¶⟨u,rfl,rx⟩:=vals1 r
 cases rx
 have hn:=Q20
 rcases hq with hq | hq
 ·¶⟨its,r',pl,hz⟩:=I.list hq
  have hlen:=r'.length
  §Calls.call_len_list pl.isList (by simp only[Ó] <;> omega) ⟨.int ys.length,H,I.tok _,⟨s.toks + 1,by rw[Ó,hlen]⟩,q⟩
 ·¶⟨its,r',pl,hz⟩:=I.tuple hq
  have hlen:=r'.length
  §len_tuple pl (by simp only[Ó] <;> omega) ⟨.int ys.length,H,I.tok _,⟨s.toks + 1,by rw[Ó,hlen]⟩,q⟩
÷R20:f00 X (.type "list") (λxs H Q=>∃ p ys,xs=[.ref p]/\(SqL X.K H p ys∨SqT X.K H p ys)/\∀ l,H l=none->Q (.ref l) (upd H l (.lst ys))):=by
 intro pins s σ H xs us Q I r h
 ¶⟨p,ys,rfl,hq,q⟩:=h
 ¶⟨u,rfl,rx⟩:=vals1 r
 cases rx
 have fin:∀ (its:List Ä),Vals ys its->ys.length<=Û->∀ (h':ì) (c':Nat),(∀ b o',s.heap.get? b=some o'->h'.get? b=some o') ->
   h'.get? s.heap.objs.size=some { cls:=.type "list",dict:=none,data:=.seq its.toArray c',slots:=#[] }->EP X pins σ Q (.ref s.heap.objs.size) { s with heap:=h' }:=λits r' hz h' c' kp e =>
  ⟨.ref s.heap.objs.size,_,I.laid (t':=s.toks) kp (Í _) (show h50 X.prog X.w _ h' _ (.lst ys) from⟨hz,its,c',r',e⟩),rfl,q _ (I.hok.fresh (Í _))⟩
 rcases hq with hq | hq
 ·¶⟨its,r',pl,hz⟩:=I.list hq
  have hlen:=r'.length
  ¶⟨o,ho,hc,n,hd⟩:=pl.isList
  §call_list_seq p (.inl rfl) ho hc hd (λh' c' kp e=>fin its r' hz h' c' kp e) (by simp only[Ó] <;> omega)
 ·¶⟨its,r',pl,hz⟩:=I.tuple hq
  have hlen:=r'.length
  ¶⟨o,ho,hc,n,hd⟩:=pl
  §call_list_seq p (.inr rfl) ho hc hd (λh' c' kp e=>fin its r' hz h' c' kp e) (by simp only[Ó] <;> omega)
÷J50:f00 X (.type "tuple") (λxs H Q=>∃ p ys,xs=[.ref p]/\((SqL X.K H p ys/\∀ l,H l=none->Q (.ref l) (upd H l (.tup ys)))∨(SqT X.K H p ys/\Q (.ref p) H))):=by
 intro pins s σ H xs us Q I r h
 ¶⟨p,ys,rfl,h⟩:=h
 ¶⟨u,rfl,rx⟩:=vals1 r
 cases rx
 rcases h with ⟨hq,q⟩ | ⟨hq,q⟩
 ·¶⟨its,r',pl,hz⟩:=I.list hq
  have hlen:=r'.length
  ¤call_tuple_list pl.isList (λh' kp=>?_) (by simp only[Ó] <;> omega)
  have I1:Inv X pins σ H { s with heap:=h' }:=I.kept (t':=s.toks) kp
  have I2:Inv X pins σ (upd H h'.objs.size (.tup ys)) { s with heap:=h'.push { cls:=.type "tuple",data:=.seq its.toArray } } :=
   I1.laid (t':=s.toks) (λb o e=>Ã _ e) (Í _) (show h50 X.prog X.w _ _ _ (.tup ys) from⟨hz,its,r',Ï0.new _ _⟩)
  §⟨.ref h'.objs.size,_,I2,rfl,q _ (I1.hok.fresh (Í _))⟩
 ·¶⟨its,r',pl,hz⟩:=I.tuple hq
  §call_tuple_same pl ⟨.ref p,H,I,rfl,q⟩
def tyV(K:Â)(T:String)(x:V)(H:Hp):Prop:=match x with
 |.str _=>T="str"
 |.int _=>T="int"
 |.ref p=>(T="list"/\∃ xs,SqL K H p xs)∨(T="tuple"/\∃ o,K.lookup p=some o/\o.cls=.type "tuple"/\o.dict=none) ∨
   (T="dict"/\((∃ kvs,H p=some (.dK kvs))∨∃ kvs,H p=some (.dT kvs)))∨(T="set"/\∃ S n,H p=some (.set S n))
 |_=>False
÷p22{pins:List (Ç × Obj)}{σ:St}{H:Hp}{s:Æ}{T:String}{x:V}{v:Ä}(I:Inv X pins σ H s)(r:RelV x v)(ty:tyV X.K T x H) :
  s.TypeIs v T/\∀ a,v=.ref a->∃ ob,s.heap.get? a=some ob/\ob.dict=none:=by
 cases x with
 |str z =>
  ¶⟨t,rfl⟩:=r
  cases (show T="str" from ty)
  §⟨typeIs_str s z t,λ_ e=>nomatch e⟩
 |int i =>
  ¶⟨t,rfl⟩:=r
  cases (show T="int" from ty)
  §⟨Ü1 s i t,λ_ e=>nomatch e⟩
 |ref p =>
  cases r
  rcases ty with ⟨rfl,xs,hq⟩ | ⟨rfl,o,hk,hc,hd⟩ | ⟨rfl,hk⟩ | ⟨rfl,S,n,hk⟩
  ·¶⟨its,_,pl,_⟩:=I.list hq
   ¤⟨pl.isList.typeIs,λa e=>?_⟩
   cases e
   ¶⟨o,n,e,c,hd,_⟩:=pl
   §⟨o,e,hd⟩
  ·¤⟨⟨o,I.kIn p o hk,hc⟩,λa e=>?_⟩
   cases e
   §⟨o,I.kIn _ o hk,hd⟩
  ·have z:∃ o,s.heap.get? p=some o/\o.ExactDict:=by
    rcases hk with ⟨kvs,hk⟩ | ⟨kvs,hk⟩
    ·¶⟨_,_,_,_,o,_,_,e,ex,_⟩:=I.hok p _ hk
     §⟨o,e,ex⟩
    ·¶⟨_,_,_,_,o,_,_,e,ex,_⟩:=I.hok p _ hk
     §⟨o,e,ex⟩
   ¶⟨o,e,ex⟩:=z
   ¤⟨⟨o,e,ex.1⟩,λa e2=>?_⟩
   cases e2
   §⟨o,e,ex.2.1⟩
  ·¶⟨o,_,_,_,e,ex,_⟩:=I.hok p _ hk
   ¤⟨⟨o,e,ex.1⟩,λa e2=>?_⟩
   cases e2
   §⟨o,e,ex.2.1⟩
 |_=>§À3 ty
def tBM(K:Â)(T:String)(r:V->List V->Hp->VK->Prop)(to:TE)(t:TA):TE:=λσ H Q=>to σ H λx H1=>tyV K T x H1/\t σ H1 λxs H2=>r x xs H2 Q
variable {o e:Ò}{es:List Ò}{to:TE}{t:TA}{name:Str}{apos cpos:Pos}{T id:String}{r:V->List V->Hp->VK->Prop}
÷Z81(pa:PlainAttrs T)(slot:Slot T name id)(hty:typeOf (.builtin id)=pure (.type "method_descriptor"))(hm:MtR X id r)(ho:PE X o to)(ha:PA X (e::es) t)
  (hbase:attributeBase o name X.env (eval o X.env)=eval o X.env:=by rfl)
  (hfew:((Ö0 cpos (þ (e::es) X.env)).all (λx=>!x.1)&&(backToKw cpos (keywordEach [] X.env)).all (λx=>x.1.isSome)
   &&decide ((e::es).length + ([]:List Keyword).length + (if ([]:List Keyword).isEmpty then 0 else 1) < 30))=true:=by rfl)
  (hline:(apos.endLine == cpos.line)=true:=by rfl) (hs:þ (e::es) X.env=(false,eval e X.env)::þ es X.env:=by rfl) (hplain:(Ö0 cpos (þ es X.env)).any (·.1)=false:=by rfl) :
  PE X (.Call (.Attribute o name apos) (e::es) [] cpos) (tBM X.K T r to t):=by
 intro pins s σ H Q I h
 ¤wpAny_Call_method_late hbase hfew hline rfl (thn (ho pins s σ H _ I h) λv s1 ⟨x,H1,I1,r1,ty,q1⟩=>?_)
 ¶⟨h1,h2⟩:=p22 I1 r1 ty
 ¤⟨T,id,pa,slot,hty,h1,h2,?_⟩
 have hA:=ha cpos pins s1 σ H1 _ I1 q1
 rw[hs] at hA ⊢
 ¤Calls.callWith_builtin (by show(false || (Ö0 cpos (þ es X.env)).any (·.1))=false;rw[hplain] <;> rfl) (á7 ?_)
 §thn hA λus s2 ⟨vs,H2,I2,r2,q2⟩=>hm pins s2 σ H2 x vs v us Q I2 r1 r2 q2
end
def MtM(X:Cx)(id:String)(r:V->List V->Hp->VK->Prop):Prop :=
 ∀ (pins:List (Ç × Obj)) (s:Æ) (σ:St) (H:Hp) (x:V) (xs:List V) (v:Ä) (us:List Ä) (Q:VK),Inv X pins σ H s->RelV x v->Vals xs us->r x xs H Q ->
  Ï (Ô X.prog X.w) X.A (call (.builtin id) (v::us)) (EP X pins σ Q) X.xe s
÷Vals.one:∀ {x:V}{us:List Ä},Vals [x] us->∃ u,us=[u]/\RelV x u
 |_,_,.cons r .nil=>⟨_,rfl,r⟩
÷Vals.eraseIdx:∀ {xs:List V}{us:List Ä} (i:Nat),Vals xs us->Vals (xs.eraseIdx i) (us.eraseIdx i)
 |_,_,_,.nil=>.nil
 |_,_,0,.cons _ t=>t
 |_,_,i + 1,.cons r t=>.cons r (Vals.eraseIdx i t)
÷Vals.reverse(h:Vals xs us):Vals xs.reverse us.reverse:=by
 induction h with
 |nil=>§.nil
 |cons r t ih=>rw[Ô6,Ô6];§Vals.append ih (.cons r .nil)
÷Vals.rep(h:Vals xs us):∀ k:Nat,Vals (î k xs).flatten (î k us).flatten
 |0=>.nil
 |k + 1=>by
  rw[Å5,Å5,É6,É6]
  §Vals.append h (Vals.rep h k)
÷R30{α:Type}:∀ (l:List α) (i:Nat),(l.eraseIdx i).length<=l.length
 |[],_=>Í _
 |_::_,0=>le_succ _
 |_::r,i + 1=>Ü6 (R30 r i)
÷foldl_rep(its:List Ä):∀ (k:Nat) (acc:List Ä),
  foldl (λx1 x2=>x1++x2) acc.toArray (î k its.toArray)=(acc++(î k its).flatten).toArray
 |0,acc=>by simp
 |k + 1,acc=>by
  have e:acc.toArray++its.toArray=(acc++its).toArray:=by simp
  have e2:(acc++its)++(î k its).flatten=acc++(î (k + 1) its).flatten:=by
   rw[Å5,É6,Ô7]
  rw[← e2,← foldl_rep its k (acc++its),← e,Å5,List.foldl_cons]
section
variable {X:Cx}{pins:List (Ç × Obj)}{σ:St}{H:Hp}{s:Æ}{l b:Ç}{xs ys zs:List V}
÷Inv.B62{its its':List Ä}{n:Nat}{f:Array Ä->Array Ä}{t':Nat}(I:Inv X pins σ H s)(hH:H l=some (.lst xs))
  (e:s.heap.get? l=some { cls:=.type "list",data:=.seq its.toArray n }) (hf:f its.toArray=its'.toArray) (hv:Vals ys its') (hz:ys.length<=Û) :
  Inv X pins σ (upd H l (.lst ys)) { s with heap:=s.heap.update l (À1 f),toks:=t' }:=by
 have q:=PySem.IsL.update e f
 rw[hf] at q
 ¤I.write (x:=l) (e:=l) (by rw[hH];§trivial) (.inl rfl) (λb' u hb hu=>(Ë6 s.heap (À1 f) (Â3 hb)).trans hu) ⟨_,q⟩ ?_
 §⟨hz,its',_,hv,q⟩
÷Inv.F52{t':Nat}(I:Inv X pins σ H s)(hv:Vals ys its)(hz:ys.length<=Û) :
  Inv X pins σ (upd H s.heap.objs.size (.lst ys)) { s with heap:=s.heap.push { cls:=.type "list",data:=.seq its.toArray },toks:=t' } :=
 I.laid (λ_ _ q=>Ã _ q) (Í _) ⟨hz,its,0,hv,Ë _ rfl⟩
÷Inv.fresh(I:Inv X pins σ H s):H s.heap.objs.size=none:=I.hok.fresh (Í _)
÷Inv.p32(I:Inv X pins σ H s)(hH:H l=some (.lst xs)):xs.length<=Û/\∃ (its:List Ä) (n:Nat),Vals xs its/\xs.length=its.length/\s.heap.get? l=some { cls:=.type "list",data:=.seq its.toArray n }:=by
 ¶⟨z,its,n,r,e⟩:=I.hok l _ hH
 §⟨z,its,n,r,r.length,e⟩
÷J31{n:Nat}(h:n<=Û):Í4 n=false:=by
 unfold Í4
 §decide_eq_false (by omega)
end
section
variable {X:Cx}
def s11:V->List V->Hp->VK->Prop:=λx vs H Q=>∃ l xs y,x=.ref l/\vs=[y]/\H l=some (.lst xs)/\xs.length < Û/\Q .non (upd H l (.lst (xs++[y])))
÷R40:MtM X "list.append" s11:=by
 intro pins s σ H x vs v us Q I rx rv h
 ¶⟨l,xs,y,rfl,rfl,hH,hz,q⟩:=h
 cases rx
 ¶⟨u,rfl,ru⟩:=rv.one
 ¶⟨z,its,n,r,hl,e⟩:=I.p32 hH
 ¤È2 F.slot_list_append ⟨_,e,rfl⟩ F.entry_list_append (F.args_list_append_2 _ _) (PySem.list_append l its.toArray n u (by rw[Ó];omega)) ⟨e,?_⟩
 ¤⟨.non,_,I.B62 (its':=its++[u]) hH e (by simp) (r.append (.cons ru .nil)) ?_,rfl,q⟩
 rw[Á9,List.length_singleton]
 omega
def T71:V->List V->Hp->VK->Prop:=λx vs H Q=>∃ l xs i k y,x=.ref l/\vs=[.int i]/\H l=some (.lst xs)/\-(2 ^ 63)<=i/\i < 2 ^ 63/\seqIndex? i xs.length=some k/\xs[k]?=some y/\Q y (upd H l (.lst (xs.eraseIdx k)))
÷J41:MtM X "list.pop" T71:=by
 intro pins s σ H x vs v us Q I rx rv h
 ¶⟨l,xs,i,k,y,rfl,rfl,hH,h1,h2,hk,hy,q⟩:=h
 cases rx
 ¶⟨u,rfl,ru⟩:=rv.one
 ¶⟨t,rfl⟩:=ru
 ¶⟨z,its,n,r,hl,e⟩:=I.p32 hH
 ¶⟨w,hw,rw'⟩:=r.get hy
 ¤È2 F.slot_list_pop ⟨_,e,rfl⟩ F.entry_list_pop (F.args_list_pop_2 _ _)
  (MeetsSeq.list_pop_at l its.toArray n i t k w (fitsIndex_both h1 h2) (by rw[Ó,← hl];§hk) (by rw[← ô];§hw) (by rw[Ó];omega)) ⟨e,?_⟩
 ¤⟨y,_,I.B62 (its':=its.eraseIdx k) hH e ?_ (r.eraseIdx k) ?_,rw',q⟩
 ·show its.toArray.eraseIdxIfInBounds k=(its.eraseIdx k).toArray
  rw[List.eraseIdxIfInBounds_toArray]
 ·have:=R30 xs k
  omega
def S62:R2:=λx y H Q=>∃ l b xs zs,x=.ref l/\y=.ref b/\H l=some (.lst xs)/\H b=some (.lst zs)/\xs.length + zs.length<=Û/\∀ p,H p=none->Q (.ref p) (upd H p (.lst (xs++zs)))
÷s21:OpR X (Ä2 .Add) S62:=by
 intro pins s σ H x y v u Q I rx ry h
 ¶⟨l,b,xs,zs,rfl,rfl,hH,hB,hz,q⟩:=h
 cases rx
 cases ry
 ¶⟨z,its,n,r,hl,e⟩:=I.p32 hH
 ¶⟨z2,its2,n2,r2,hl2,e2⟩:=I.p32 hB
 ¤PySem.P.add_list e e2 ?_ (by rw[Ó,Ó];omega)
 have ea:its.toArray++its2.toArray=(its++its2).toArray:=by simp
 rw[ea]
 §⟨.ref _,_,I.F52 (t':=s.toks) (r.append r2) (by rw[Á9];omega),rfl,q _ I.fresh⟩
÷len_rep{α:Type}(xs:List α)(k:Nat):(î k xs).flatten.length=k * xs.length:=by
 induction k with
 |zero=>simp
 |succ k ih=>rw[Å5,É6,Á9,ih,Nat.succ_mul,Nat.add_comm]
end
end L2
namespace Att
open PySem PySem.W PySem.Calls PyProof.Rows
÷B60:∀ (ns:List Int) (vs:List Ä),WellAll P h vs (ns.map WData.int)->Ë5 vs ns:=by
 intro ns
 induction ns with
 |nil =>
  intro vs w
  rw[map_nil] at w
  cases w
  §.nil
 |cons n ns ih =>
  intro vs w
  rw[Å7] at w
  cases w with
  |cons a b =>
   cases a
   §.cons _ _ (ih _ b)
÷s31{l:OpenLaw}{n:Nat}(hn:l.most=some n){P:Params}{h:ì}{args:List WData}{vals:List Ä}
  (hpre:l.row.toRowW.claim.pre args=true) (hwl:WellAll P h vals args) :
  ∃ a vs ns,vals=[Ã3 a]/\args=[WData.list (ns.map WData.int)]/\h.get? a=some { cls:=.type "list",data:=.seq vs.toArray }/\Ë5 vs ns/\ns.length<=n:=by
 have hsh:WShape.hasAll [] args [.list .int]=true:=(pre_splitW hpre).1
 have hc:l.pre.holds [] { args:=args }=true:=(pre_splitW hpre).2
 ¶⟨d,r,rfl,h1,h2⟩:=hasAllW_cons hsh
 ¶rfl:=hasAllW_nil h2
 ¶⟨xs,rfl,h3⟩:=hasW_list h1
 ¶⟨ns,rfl⟩:=items_int h3
 have hlen:ns.length<=n:=by
  unfold OpenLaw.pre at hc
  have h4:(WTm.not (.lt (.lit (.int (n:Int))) (.len (.arg 0)))).holds [] { args:=[.list (ns.map .int)] }=true:=by
   have h4:=(holds_andW hc).1
   rw[hn] at h4
   §h4
  have h5:=condW_of h4 (w_not (w_lt w_lit (w_len_list (w_arg rfl))))
  rw[É] at h5
  ¤Nat.le_of_not_lt λq=>?_
  have q':(n:Int) < ((ns.length:Nat):Int):=by omega
  first
   |(rw[decide_eq_true q'] at h5;§absurd h5 (by decide))
   |(simp at h5;omega)
 cases hwl with
 |cons w1 w2 =>
  cases w2
  cases w1 with
  |list ho hall=>§⟨_,_,ns,rfl,rfl,ho,B60 ns _ hall,hlen⟩
÷s41(l:OpenLaw)(args:List WData):l.row.toRowW.claim.post args (.bool true) args=true :=
 postW_of (r:=l.row.toRowW) (X:=(true == true))
  (show WShape.has [] (.bool true) .bool=true by first | rfl | decide | simp[WShape.has,WShape.arms,WShape.armsAll])
  (show(WTm.eq .res (.lit (.bool true))).value [] { args:=args,res:=some (.bool true),after:=args }=some (.bool (true == true)) from w_eq_bool (w_res rfl) w_lit) rfl
÷Y80{l:OpenLaw}{n:Nat}{q:ß}{loose:List Str}{XP:(Str->Option Ä)->ì->Prop}{YP:è->ì->Prop}{d:DefRec}
  (hn:l.most=some n) (hdf:d.params.defaults=[])
  (call:∀ (w:è) (s₀ s₁:Æ) (mg mb:Str->Option Ä) (fa:Ç) (o:Obj) (pm cd doc:Ä) (a:Ç) (vs:List Ä) (ns:List Int),
   Ground q loose [] XP w s₀ mg mb s₁.heap->YP w s₁.heap ->
   s₁.heap.get? fa=some o->o.data=.func (docDef d.name d.params d.body d.scope pm cd doc)->s₁.heap.CodeRec cd d.name->mg d.name=some (.ref fa) ->
   s₁.heap.get? a=some { cls:=.type "list",data:=.seq vs.toArray }->Ë5 vs ns->ns.length<=n->s₁.gens=#[] ->
   Î3 (Ô l.prog w) Ý5 (.call (.ref fa) ⟨[.ref a],[]⟩) (λr s'=>r=.ok (.ret (.bool true))/\OldK s₁.heap s'.heap/\s'.os=s₁.os/\Ó5 s'.gens) s₁) :
  WalkO q loose XP YP l.row.toRowW d [] (λf vs=>PySem.call f vs):=by
 intro w s₀ s₁ mg mb G Y fa o pm cd doc dV kV ho hd hcd hD hmg hg args vals as hpre hlay hrd hwl hlo
 obtain rfl:dV=.none:=Dflts.none hD hdf
 obtain rfl:kV=.none:=Dflts.noKw hD
 ¶⟨a,vs,ns,rfl,rfl,hobj,hints,hlen⟩:=s31 hn hpre hwl
 ¤enter_call (È1 (call w s₀ s₁ mg mb fa o pm cd doc a vs ns G Y ho (fd_plain hd) hcd hmg hobj hints hlen hg) λr s' hq=>?_)
 ¶⟨rfl,h2,h3,h4⟩:=hq
 §⟨.inl ⟨.bool true,.bool true,[],rfl,λ_=>rfl,.bool true,s41 l _,λ_=>⟨à4.nil,λ_ hm=>(nomatch hm)⟩⟩,h2,h3,h4⟩
end Att
namespace L2
open PySem PySem.Spec PyProof.Rows
÷R50:∀ {vs:List Ä}{ns:List Int},Ë5 vs ns->Vals (ns.map V.int) vs
 |_,_,.nil=>.nil
 |_,_,.cons n t h=>.cons ⟨t,rfl⟩ (R50 h)
def J60(s:Å1):Arguments:=match s with
 |.FunctionDef _ a _ _ _ _ _ _ _ _=>a
 |_=>{ posonlyargs:=[],args:=[],vararg:=none,kwonlyargs:=[],kw_defaults:=[],kwarg:=none,defaults:=[] }
def i40(s:Å1):List Stmt:=match s with
 |.FunctionDef _ _ b _ _ _ _ _ _ _=>b
 |_=>[]
def c00(s:Å1):Scope:=match s with
 |.FunctionDef _ _ _ _ _ _ sc _ _ _=>sc
 |_=>{ kind:=.function,names:=[],isGenerator:=false,isCoroutine:=false }
abbrev CX0:CXT:=λ_ _ _ _ _ _=>False
structure Fun(K:PySem.W.Frag)(x qual:Str)(st:Stmt)(f:Addr)(fd:FuncData):Prop where
 ex:∃ (oc:Value) (od:Option Addr) (kV doc pm:Value) (an:Option Addr) (cdv ct:Value) (osl:Array (Option Value)),
  fd=fnOf x qual (J60 st) (i40 st) (c00 st) .none kV doc pm an cdv ct/\K.lookup f=some ⟨oc,od,.func fd,osl⟩/\PySem.W.codeIn K cdv qual=true
 kp:PySem.W.keepIn K (.ref f)=true
section
variable {P:ß}{w:è}{K:Â}{mg:Str->Option Ä}{base:ì}
÷Fun.binds{x qual:Str}{st:Å1}{f:Ç}{fd:Å2}{ps:List Str}(F:Fun K x qual st f fd)
  (h:∀ (kV doc pm:Ä) (an:Option Ç) (cdv ct:Ä) (us:List Ä),us.length=ps.length->bindArgs (fnOf x qual (J60 st) (i40 st) (c00 st) .none kV doc pm an cdv ct) ⟨us,[]⟩=pure (ps.zip us)):Binds K fd ps []:=by
 ¶⟨oc,od,kV,doc,pm,an,cdv,ct,osl,rfl,lk,hcd⟩:=F.ex
 §.all (h kV doc pm an cdv ct)
end
section
variable {X:Cx}
÷pv(i:Nat){x:Str}{pos:Pos}(hN:X.N[i]?=some x:=by rfl)(hv:Vis X.env.scope x:=by first | §Ò5 rfl | §Ù9 (Ò5 rfl) | §Ù9 (Ù9 rfl))(hd:(x == ("__debug__":Str))=false:=by decide)
  (hcd:(x == ("__classdict__":Str))=false:=by decide):PE X (.Name x pos) (m42 i):=n70 hN hv hd hcd
end
÷S72{A B:Prop}(h:B):if false=true then A else B:=by
 rw[if_neg Ð]
 §h
÷S82{c A B:Prop}[Decidable c](h1:c->A)(h2:¬ c->B):if c then A else B:=by
 by_cases h:c
 ·rw[if_pos h]
  §h1 h
 ·rw[if_neg h]
  §h2 h
def a30(H H':Hp):Prop:=∀ b o,H b=some o->H' b=some o
÷a30.refl(H:Hp):a30 H H:=λ_ _ h=>h
÷a30.trans(a:a30 H H1)(b:a30 H1 H2):a30 H H2:=λc o h=>b c o (a c o h)
end L2
set_option maxHeartbeats 4000000
namespace L2
open PySem
abbrev NoX:Ä->Æ->Prop:=λ_ _=>False
÷J70(env:Env):∀ (names:List (Str × Ë4)) (acc:List (Str × Ç)),(∀ y∈names,y.2=.free->∃ c,env.cells.lookup y.1=some c)->(∀ x c,acc.lookup x=some c->env.cells.lookup x=some c) ->
  ∃ cl:List (Str × Ç),(forIn names acc λ(x:Str × Ë4) (r:List (Str × Ç))=>(if (x.2 == .free)=true then do let c ← cellOf env x.1;pure (á ((x.1,c)::r)) else pure (á r):Sem (ForInStep (List (Str × Ç)))))=pure cl /\
   (∀ x c,cl.lookup x=some c->env.cells.lookup x=some c)/\(∀ x c,acc.lookup x=some c->∃ c',cl.lookup x=some c')/\(∀ y∈names,y.2=.free->∃ c,cl.lookup y.1=some c)
 |[],acc,_,ha=>⟨acc,by simp,ha,λx c e=>⟨c,e⟩,λy hy=>absurd hy (by simp)⟩
 |(n,k)::r,acc,hf,ha=>by
  by_cases hk:k=.free
  ·subst hk
   ¶⟨c,hc⟩:=hf (n,.free) Ì rfl
   have hcell:cellOf env n=pure c:=by unfold cellOf;rw[hc]
   ¶⟨cl,e,h1,h2,h3⟩:=J70 env r ((n,c)::acc) (λy hy=>hf y (È _ hy)) (λx c' e=>by
    rw[À8] at e
    by_cases hx:(x == n)=true
    ·rw[hx] at e
     have:x=n:=by simpa using hx
     subst this
     cases e
     §hc
    ·rw[show(x == n)=false by simpa using hx] at e
     §ha x c' e)
   ¤⟨cl,?_,h1,λx c' e'=>?_,λy hy hyk=>?_⟩
   ·rw[Ì9]
    simp only[beq_self_eq_true,if_true,hcell,pure_bind]
    §e
   ·by_cases hx:(x == n)=true
    ·§h2 x c (by rw[À8,hx])
    ·§h2 x c' (by rw[À8,show(x == n)=false by simpa using hx];§e')
   ·rcases ú.mp hy with rfl | hy
    ·§h2 n c (by simp[À8])
    ·§h3 y hy hyk
  ·¶⟨cl,e,h1,h2,h3⟩:=J70 env r acc (λy hy=>hf y (È _ hy)) ha
   ¤⟨cl,?_,h1,h2,λy hy hyk=>?_⟩
   ·rw[Ì9]
    have hb:((k == ñ)=true)=False:=by simpa using hk
    simp only[hb,if_false,pure_bind]
    §e
   ·rcases ú.mp hy with rfl | hy
    ·§absurd hyk hk
    ·§h3 y hy hyk
÷Y90(hf:∀ y∈scope.names,y.2=.free->∃ c,env.cells.lookup y.1=some c) :
  ∃ cl:List (Str × Ç),closureFor scope env=pure cl/\(∀ x c,cl.lookup x=some c->env.cells.lookup x=some c)/\(∀ y∈scope.names,y.2=.free->∃ c,cl.lookup y.1=some c):=by
 ¶⟨cl,e,h1,_,h3⟩:=J70 env scope.names [] hf (λx c e=>by simp at e)
 ¤⟨cl,?_,h1,h3⟩
 simp only[closureFor]
 §(congrArg (λt=>t >>= λr=>(pure r:Sem _)) e).trans (by simp)
section
variable {P:ß}{w:è}{A:ø}{R:Result->Æ->Prop}{s:Æ}
÷s51{el tg src:Ò}{tests:List Ò}{sc:ý}{ps:Pos}{itv av:Ä}{en:Env}(J:Nat->Æ->Prop)
  (turn:∀ n s,J n s->Ï (Ô P w) A (Ñ4 itv) (λr s1=>match r with
   |none=>R (.ok .next) s1
   |some v=>Ï (Ô P w) A (à8 tg itv v) (λ_ s2=>Ï (Ô P w) A (Ù3 tg en v) (λ_ s3 =>
     Ï (Ô P w) A (forIn tests true λc r=>if r=true then do let ok ← isTrue c en (eval c en);pure (á ok) else pure (á r)) (λok s4 =>
      if ok=true then Ï (Ô P w) A (eval el en) (λx s5 =>
       Ï (Ô P w) A (call (.builtin "list.append") [av,x]) (λ_ s6=>∃ m,m < n/\J m s6) NoX s5) NoX s4
      else ∃ m,m < n/\J m s4) NoX s3) NoX s2) NoX s1) NoX s)
  (n:Nat) (h:J n s) :
  Î3 (Ô P w) A (.compLoop (.ListComp el [⟨tg,src,tests,0⟩] sc ps) 0 itv av en) R s:=by
 ¤codeAny_loop rfl J (λn s hI=>?_) n h
 show Ï _ A ((compTurn (.ListComp el [⟨tg,src,tests,0⟩] sc ps) 0 itv av en).onRaise (λx=>do noteFrame x en;theTreesLotGoes x)) _ _ s
 ¤wpAny_noted ?_
 rw[compTurn_list]
 ¤À (Û4 (À (Â1 (turn n s hI) (λr s1 h1=>?_) λ_ _ x=>x.elim)))
 cases r with
 |none=>§Å h1
 |some v =>
  ¤À (Â1 h1 (λ_ s2 h2=>?_) λ_ _ x=>x.elim)
  ¤À (Â1 h2 (λ_ s3 h3=>À (Â1 h3 (λok s4 h4=>?_) λ_ _ x=>x.elim)) λ_ _ x=>x.elim)
  cases ok with
  |false=>§Å ⟨rfl,h4⟩
  |true=>§À (À (Â1 h4 (λx s5 h5=>À (Â1 h5 (λ_ s6 h6=>Å (Å ⟨rfl,h6⟩)) λ_ _ x=>x.elim)) λ_ _ x=>x.elim))
end
open PySem PySem.Spec PyProof.Rows
abbrev c60(X:Cx)(N':List Str)(sc:ý)(cl:List (Str × Ç))(C:Ç)(s:Æ)(H:Hp)(fp:List Ç):Cx :=
 { X with N:=N',s₀:=s,H₀:=H,env:=compEnvC sc cl C X.env,outer:=X.stack,stack:=X.stack,ex:=fp,fn:=λ_=>false,pn:=[],xe:=NoX }
def d80(own:List Str)(capt:List (Str × Nat)):List Str:=own++capt.map (·.1)
def q50(own:List Str)(capt:List (Str × Nat))(σ:St):St:=own.map (λ_=>none)++capt.map λp=>(σ[p.2]?).getD none
structure r10(X:Cx)(sc:Scope)(own:List Str)(capt:List (Str × Nat)):Prop where
 kind:sc.kind=.function
 nocell:∀ y∈sc.names,y.2≠.cell
 locs:∀ y∈sc.names,y.2=.local->sc.names.lookup y.1=some .local
 frees:∀ y∈sc.names,y.2=.free->X.env.kindOf y.1=some .cell∨X.env.kindOf y.1=some .free
 captd:∀ p∈capt,X.N[p.2]?=some p.1/\sc.names.lookup p.1=some .free
÷J80{env:Env}:∀ {names:List (Str × Ë4)}{x:Str}{k:Ë4},
  (names.map λ(n,k)=>if (k == ñ&&env.scope.kind == .function&&env.kindOf n == some .cell) then(n,Æ4) else(n,k)).lookup x=some k->(k=.cell∨k=.free)->(∀ y∈names,y.2≠.cell)->(x,ñ)∈names
 |[],_,_,h,_,_=>by simp at h
 |(n,k0)::r,x,k,h,hk,hn=>by
  have h:Í0 x ((if (k0 == ñ&&env.scope.kind == .function&&env.kindOf n == some .cell)=true then(n,Æ4) else(n,k0))::_)=some k:=h
  have hn0:k0≠.cell:=hn (n,k0) Ì
  cases hx:x == n with
  |true =>
   have e:x=n:=by simpa using hx
   subst e
   by_cases hc:(k0 == ñ&&env.scope.kind == .function&&env.kindOf x == some .cell)=true
   ·have:k0=.free:=by
     cases k0 <;> simp_all
    subst this
    §Ì
   ·rw[if_neg hc] at h
    simp only[À8,hx] at h
    cases h
    rcases hk with hk | hk
    ·§absurd hk hn0
    ·subst hk;§Ì
  |false =>
   have h':(r.map λ(n,k)=>if (k == ñ&&env.scope.kind == .function&&env.kindOf n == some .cell) then(n,Æ4) else(n,k)).lookup x=some k:=by
    by_cases hc:(k0 == ñ&&env.scope.kind == .function&&env.kindOf n == some .cell)=true
    ·rw[if_pos hc] at h;simp only[À8,hx] at h;§h
    ·rw[if_neg hc] at h;simp only[À8,hx] at h;§h
   §È _ (J80 h' hk λy hy=>hn y (È _ hy))
÷p30{env:Env}:∀ {names:List (Str × Ë4)}{x:Str},names.lookup x=some .free ->
  (names.map λ(n,k)=>if (k == ñ&&env.scope.kind == .function&&env.kindOf n == some .cell) then(n,Æ4) else(n,k)).lookup x=some .cell ∨
  (names.map λ(n,k)=>if (k == ñ&&env.scope.kind == .function&&env.kindOf n == some .cell) then(n,Æ4) else(n,k)).lookup x=some .free
 |[],_,h=>by simp at h
 |(n,k)::r,x,h=>by
  have ih:=@p30 env r x
  show Í0 x ((if (k == ñ&&env.scope.kind == .function&&env.kindOf n == some .cell)=true then(n,Æ4) else(n,k))::_)=_∨Í0 x ((if (k == ñ&&env.scope.kind == .function&&env.kindOf n == some .cell)=true then(n,Æ4) else(n,k))::_)=_
  cases hx:x == n with
  |true =>
   simp only[À8,hx] at h
   cases h
   by_cases hc:(ñ == ñ&&env.scope.kind == .function&&env.kindOf n == some .cell)=true
   ·rw[if_pos hc];left;simp only[À8,hx]
   ·rw[if_neg hc];right;simp only[À8,hx]
  |false =>
   simp only[À8,hx] at h
   by_cases hc:(k == ñ&&env.scope.kind == .function&&env.kindOf n == some .cell)=true
   ·rw[if_pos hc];simp only[À8,hx];§ih h
   ·rw[if_neg hc];simp only[À8,hx];§ih h
÷HOk.J51{P:ß}{w:è}{H:Hp}{h:ì}{D:Ç}{ys:List V}{its:List Ä}{n:Nat}(x:HOk P w H h)(hn:H D=none)(hv:Vals ys its)(hz:ys.length<=Û)
  (ho:h.get? D=some { cls:=.type "list",data:=.seq its.toArray n }):HOk P w (upd H D (.lst ys)) h:=λb u e=>by
 by_cases hb:b=D
 ·subst hb;rw[b20] at e;cases e;§⟨hz,its,n,hv,ho⟩
 ·rw[a60 hb] at e
  §(x b u e).l41 (λc v _ q=>q) (λc q=>by rw[a60 (a80 q hn)];§q) λc xs q=>by rw[a60 (a80 q hn)];§q
def PTs(X:Cx)(tests:List Ò)(t:TT):Prop :=
 ∀ (pins:List (Ç × Obj)) (s:Æ) (σ:St) (H:Hp) (Q:Bool->Hp->Prop),Inv X pins σ H s->t σ H Q ->
  Ï (Ô X.prog X.w) X.A (forIn tests true λc r=>if r=true then do let ok ← isTrue c X.env (eval c X.env);pure (á ok) else pure (á r)) (TP X pins σ Q) X.xe s
def J61:TT:=λ_ H Q=>Q true H
÷Z91:PTs X [] J61:=λ_ _ _ H _ I h=>wpAny_tests_nil ⟨H,I,h⟩
÷s61(hc:PT X c t):PTs X [c] t:=λpins s σ H Q I h=>wpAny_tests_one (hc pins s σ H Q I h)
section
variable {X:Cx}{pins:List (Ç × Obj)}{σ:St}{H2:Hp}{s2:Æ}{sc:ý}{own:List Str}{capt:List (Str × Nat)}{cl:List (Str × Ç)}{fp:List Ç}{C:Ç}
÷R60(I:Inv X pins σ H2 s2)(S:r10 X sc own capt)(hcl:∀ x c,cl.lookup x=some c->X.env.cells.lookup x=some c)(hcf:∀ y∈sc.names,y.2=.free->∃ c,cl.lookup y.1=some c)
  (hx:∀ x c,X.env.cells.lookup x=some c->c ∉ fp) {h':ì} (un:∀ c o,s2.heap.get? c=some o->H2 c=none->c ∉ fp->∃ sl,h'.get? c=some { o with slots:=sl }) (m:Str->Option Ä) :
  ∀ (i:Nat) (x:Str) (v:V),(d80 own capt)[i]?=some x->(q50 own capt σ)[i]?=some (some v)->∃ u,RelV v u/\Look (compEnvC sc cl C X.env) h' m x u:=by
 intro i x v e1 e2
 unfold d80 at e1
 unfold q50 at e2
 by_cases hi:i < own.length
 ·rw[Ð3 (by simpa using hi),Ý] at e2
  cases q:own[i]? with
  |none=>rw[q] at e2;cases e2
  |some y=>rw[q] at e2;cases e2
 ·rw[Å4 (by simpa using hi),É,Ý] at e2
  rw[Å4 (by simpa using hi),Ý] at e1
  cases q:capt[i - own.length]? with
  |none=>rw[q] at e1;cases e1
  |some p =>
   rw[q] at e1 e2
   obtain rfl:p.1=x:=À6 e1
   have e3:(σ[p.2]?).getD none=some v:=À6 e2
   have e4:σ[p.2]?=some (some v):=by
    cases z:σ[p.2]? with
    |none=>rw[z] at e3;cases e3
    |some w=>rw[z] at e3;§congrArg some e3
   ¶⟨hN,hf⟩:=S.captd p (é q)
   have hmem:(p.1,ñ)∈sc.names:=Â4 hf
   have hk:=S.frees _ hmem rfl
   ¶⟨m0,_,hl⟩:=I.loc
   have vis:Vis X.env.scope p.1:=.inr hk
   ¶⟨u,r,lk⟩:=hl p.2 p.1 v hN e4 vis
   ¤⟨u,r,.inr ⟨?_,?_⟩⟩
   ·§p30 hf
   ·rcases lk with ⟨hl0,_⟩ | ⟨_,c,hc,o,ho,hd⟩
    ·rcases hk with hk | hk <;> (rw[hk] at hl0;cases hl0)
    ·¶⟨c',hc'⟩:=hcf _ hmem rfl
     have:=hcl _ _ hc'
     rw[hc] at this
     cases this
     ¶⟨sl,q'⟩:=un c o ho (I.freeC _ _ hc) (hx _ _ hc)
     §⟨c,hc',_,q',hd⟩
end
def a02(X:Cx)(pins:List (Ç × Obj))(σ:St)(R:V->Hp->Prop)(acc:Ä)(C:Ç)(s':Æ):Prop :=
 ∃ D H' m',acc=.ref D/\Inv X pins σ H' s'/\Y40 X pins H' C/\s'.heap.Ns C m'/\R (.ref D) H'
def s71(J:It)(σ0:St)(H1:Hp)(g:TG)(tt:TT)(te:TE)(Q:VK):Prop:=∃ W:Nat->Nat->List V->Hp->Prop,(∃ m,W 0 m [] H1)/\∀ i m ys H,W i m ys H ->
 (J.stop i H/\∀ p,H p=none->Q (.ref p) (upd H p (.lst ys))) ∨
 (J.go i H/\ys.length < Û/\∃ N:List V->Hp->Prop,(∀ zs H',N zs H'->∃ m',m' < m/\W (i + 1) m' zs H')/\∀ x H',J.yld i H x H'->g x σ0 H' λσ2 H2=>tt σ2 H2 λb H3 =>
  if b=true then te σ2 H3 (λy H4=>N (ys++[y]) H4) else N ys H3)
def a12(own:List Str)(capt:List (Str × Nat))(wi:TI)(g:TG)(tt:TT)(te:TE):TE:=λσ H Q=>wi σ H λJ H1=>s71 J (q50 own capt σ) H1 g tt te Q
section
variable {X:Cx}{pins:List (Ç × Obj)}{σ:St}{H2:Hp}{s2:Æ}{sc:ý}{own:List Str}{capt:List (Str × Nat)}{cl:List (Str × Ç)}{el tg src:Ò}{tests:List Ò}{ps:Pos}{g:TG}{tt:TT}{te:TE}
÷w10(hc:X.calm=true)(S:r10 X sc own capt)(hcl:∀ x c,cl.lookup x=some c->X.env.cells.lookup x=some c)(hcf:∀ y∈sc.names,y.2=.free->∃ c,cl.lookup y.1=some c)
  (hg:∀ C s H fp,PG (c60 X (d80 own capt) sc cl C s H fp) tg g) (ht:∀ C s H fp,PTs (c60 X (d80 own capt) sc cl C s H fp) tests tt) (he:∀ C fp,(∀ b∈fp,Y40 X pins H2 b)->PE (c60 X (d80 own capt) sc cl C s2 H2 fp) el te)
  {it:Ç}{fp:List Ç}{tn:Nat->ì->Prop}{J:It} (I2:Inv X pins σ H2 s2) (T:Turn X.prog X.w X.K tg J fp it tn) (st2:tn 0 s2.heap) (f2:∀ b∈fp,Y40 X pins H2 b)
  {R:VK} (h:s71 J (q50 own capt σ) H2 g tt te R) {RR:Ä->Ç->Result->Æ->Prop} (hRR:∀ acc C s',a02 X pins σ R acc C s'->RR acc C (.ok .next) s') {E:Ä->Æ->Prop} :
  Ï (Ô X.prog X.w) X.A (newList []) (λacc s3=>Ï (Ô X.prog X.w) X.A (newFunctionEnv sc X.env.globals cl [] X.env.qual none .none (some X.env)) (λce s4 =>
   Î3 (Ô X.prog X.w) X.A (.compStart (.ListComp el [⟨tg,src,tests,0⟩] sc ps) 0 (.ref it) acc { ce with scope:=relabel sc X.env }) (RR acc ce.locals) s4) E s3) E s2:=by
 ¶⟨W,⟨m0,w0⟩,turn⟩:=h
 ¤æ (wpAny_newFunctionEnv S.nocell (by intro y hy;simp at hy) (λh1 hns1 hsb1=>?_) S.kind)
 dsimp only at hns1 hsb1 ⊢
 generalize hH3:s2.heap.push { cls:=.type "list",dict:=none,data:=.seq ([]:List Ä).toArray }=h3 at hns1 hsb1 ⊢
 have hC:h3.objs.size=s2.heap.objs.size + 1:=by rw[← hH3,Ë3]
 have below:∀ b,b < s2.heap.objs.size->b≠h3.objs.size/\b≠s2.heap.objs.size:=λb hb=>⟨by omega,by omega⟩
 have hDC:s2.heap.objs.size≠h3.objs.size:=by omega
 have old:∀ b o,s2.heap.get? b=some o->h1.get? b=some o:=λb o e=>hsb1.extBut b o (below b (à e)).1 (Ã _ (hH3 ▸ Ã _ e))
 have hacc:h1.get? s2.heap.objs.size=some { cls:=.type "list",data:=.seq ([]:List Ä).toArray 0 }:=hsb1.extBut _ _ hDC (Ã _ (hH3 ▸ Ë _ rfl))
 have fpLt:∀ b∈fp,b < s2.heap.objs.size:=λb hb=>by
  ¶⟨o,e,_⟩:=T.obj _ _ st2 b hb
  §à e
 have celLt:∀ x c,X.env.cells.lookup x=some c->c < s2.heap.objs.size:=λx c e=>by
  ¶⟨v,o,q,_⟩:=I2.cell x c e
  §à q
 have frLt:∀ b∈frs X.stack,b < s2.heap.objs.size:=λb hb=>by
  ¶⟨_,o,q,_⟩:=I2.stack.mem hb
  §à q
 have celFp:∀ x c,X.env.cells.lookup x=some c->c ∉ fp:=λx c e hb=>(f2 c hb).2.2.2.2.1 x c e rfl
 have fpFr:∀ b∈fp,b ∉ frs X.stack:=λb hb hf=>by
  rcases ú.mp (I2.q61 b hf) with z | z
  ·§(f2 b hb).2.1 z
  ·§(f2 b hb).2.2.1 z
 have okX:(c60 X (d80 own capt) sc cl h3.objs.size s2 H2 fp).Ok:=by
  ¤⟨I2.ok.mod,S.kind,I2.ok.glob,I2.ok.blt,(by show s2.heap.objs.size<=h3.objs.size;omega),λx y c e1 e2=>I2.ok.inj x y c (hcl x c e1) (hcl y c e2),λx hx=>?_,λx c hx=>(by cases hx),I2.ok.hd,I2.ok.frames,.inl rfl,
   λb hb=>⟨(below b (fpLt b hb)).1,λx c e z=>celFp x c (hcl x c e) (z ▸ hb)⟩,I2.bs,Ñ I2.ok.bsz I2.sz,λb o e hb=>?_,fpFr,I2.stack,I2.v90⟩
  ·have hx':(x,ñ)∈sc.names:=by
    rcases hx with hx | hx
    ·§J80 hx (.inl rfl) S.nocell
    ·§J80 hx (.inr rfl) S.nocell
   §hcf _ hx' rfl
  ·rcases (f2 b hb).2.2.2.1 with z | z
   ·§I2.ok.noex b o e z
   ·have l1:b < X.base.objs.size:=à e
    have l2:X.base.objs.size<=X.s₀.heap.objs.size:=I2.ok.bsz
    have l3:X.s₀.heap.objs.size<=b:=z
    §absurd l1 (Nat.not_lt.mpr (Ñ l2 l3))
 have reset:∀ {pl:List (Ç × Obj)}{σ':St}{H':Hp}{s':Æ},Inv (c60 X (d80 own capt) sc cl h3.objs.size s2 H2 fp) pl σ' H' s'->Inv (c60 X (d80 own capt) sc cl h3.objs.size s2 H2 fp) pl (q50 own capt σ) H' s':=λ{pl σ' H' s'} I'=>by
  ¶⟨m,hn,_⟩:=I'.loc
  ¤⟨I'.ok,I'.os,I'.bare,I'.base,⟨m,hn,λi x v e1 e2 _=>R60 I2 S hcl hcf celFp (λc o q n hx=>I'.base.any q n hx) m i x v e1 e2⟩,I'.cell,I'.free,I'.freeC,I'.pin,I'.hok,?_⟩
  show(q50 own capt σ).length=(d80 own capt).length
  simp[q50,d80]
 have start:Inv (c60 X (d80 own capt) sc cl h3.objs.size s2 H2 fp) [(s2.heap.objs.size,{ cls:=.type "list",data:=.seq ([]:List Ä).toArray 0 })] (q50 own capt σ) H2 { s2 with heap:=h1,toks:=s2.toks + ([]:List (Str × Ä)).length }:=by
  ¤⟨okX,rfl,I2.bare,Un.kept old,⟨_,hns1,λi x v e1 e2 _=>R60 I2 S hcl hcf celFp (λc o q _ _=>⟨o.slots,old c o q⟩) _ i x v e1 e2⟩,λx c e=>?_,?_,λx c e=>I2.freeC x c (hcl x c e),λp hp=>?_,I2.hok.kept old,?_⟩
  ·¶⟨v,q⟩:=I2.cell x c (hcl x c e)
   §⟨v,q.keeps old⟩
  ·§I2.hok.fresh (by show s2.heap.objs.size<=h3.objs.size;omega)
  ·have hp':p=(s2.heap.objs.size,{ cls:=.type "list",data:=.seq ([]:List Ä).toArray 0 }):=by simpa using hp
   subst hp'
   §⟨hacc,I2.hok.fresh (Í _),hDC,λz=>Á4 _ (frLt _ z),λv z=>by cases z⟩
  ·show(q50 own capt σ).length=(d80 own capt).length
   simp[q50,d80]
 have q01:∀ {pl:List (Ç × Obj)}{H':Hp},(∀ p∈pl,p.1 ∉ fp)->(∀ b∈fp,H' b=none)->∀ b∈fp,Y40 (c60 X (d80 own capt) sc cl h3.objs.size s2 H2 fp) pl H' b:=λ{pl H'} hp hn b hb =>
  ⟨hn b hb,(below b (fpLt b hb)).1,fpFr b hb,.inl hb,λx c e z=>celFp x c (hcl x c e) (z ▸ hb),λp hpp z=>hp p (by simpa using hpp) (z ▸ hb)⟩
 have hDfp:s2.heap.objs.size ∉ fp:=λz=>Á4 _ (fpLt _ z)
 have loop:∀ s3:Æ,s3={ s2 with heap:=h1,toks:=s2.toks + ([]:List (Str × Ä)).length } ->
   Î3 (Ô X.prog X.w) X.A (.compLoop (.ListComp el [⟨tg,src,tests,0⟩] sc ps) 0 (.ref it) (.ref s2.heap.objs.size) (compEnvC sc cl h3.objs.size X.env)) (RR (.ref s2.heap.objs.size) h3.objs.size) s3:=by
  rintro s3 rfl
  ¤s51 (λn s'=>∃ i ys H' its k,Inv (c60 X (d80 own capt) sc cl h3.objs.size s2 H2 fp) [(s2.heap.objs.size,{ cls:=.type "list",data:=.seq (toArray its) k })] (q50 own capt σ) H' s'/\tn i s'.heap/\(∀ b∈fp,H' b=none)/\Vals ys its/\ys.length<=Û/\W i n ys H') ?_ m0
   ⟨0,[],H2,[],0,start,T.keep _ _ _ st2 λb _ o e=>old b o e,λb hb=>(f2 b hb).1,.nil,Æ1 _,w0⟩
  rintro n s' ⟨i,ys,H',its,k,I',st',fr',hv,hz,w'⟩
  have pinD:∀ p∈[((s2.heap.objs.size:Ç),({ cls:=.type "list",data:=.seq (toArray its) k }:Obj))],p.1 ∉ fp:=λp hp=>by
   have hp':p=(s2.heap.objs.size,{ cls:=.type "list",data:=.seq (toArray its) k }):=by simpa using hp
   subst hp'
   §hDfp
  rcases turn i n ys H' w' with ⟨stop,q⟩ | ⟨go,hlt,N,hN,step⟩
  ·¤thn (T.done (c60 X (d80 own capt) sc cl h3.objs.size s2 H2 fp) rfl rfl rfl hc i _ s' _ H' NoX I' (q01 pinD fr') st' stop) λr s1 hr=>?_
   ¶⟨hr,I1⟩:=hr
   subst hr
   ¶⟨gD,nD,_,_,_⟩:=I1.pin _ (ï _ Ì)
   ¶⟨m',hn',_⟩:=id I1.loc
   have un:Un (frs X.stack) fp H2 (upd H' s2.heap.objs.size (.lst ys)) s2.heap s1.heap:=by
    have u:=I1.base
    have nD2:H2 s2.heap.objs.size=none:=I2.hok.fresh (Í _)
    ¤⟨u.keep,u.slot,λb o e n hx=>?_,u.there,λb xs e=>?_,λb o xs e=>?_,λb ps' e=>?_⟩
    ·rw[a60 (below b (à e)).2];§u.free b o e n hx
    ·rw[a60 (a80 e nD2)];§u.tups b xs e
    ·rw[a60 (a80 e nD2)];§u.frzs b o xs e
    ·¶⟨more,e'⟩:=u.tbls b ps' e
     §⟨more,by rw[a60 (a80 e nD2)];§e'⟩
   have IX:Inv X pins σ (upd H' s2.heap.objs.size (.lst ys)) s1:=I2.m32 I1.os un (I1.hok.J51 nD hv hz gD) I1.bare λb hb=>⟨(f2 b hb).2.2.2.1,(f2 b hb).2.1,(f2 b hb).2.2.2.2.1,(f2 b hb).2.2.2.2.2⟩
   ¤hRR _ _ _ ⟨_,_,m',rfl,IX,?_,hn',q _ nD⟩
   §I2.q01 (by omega) (by rw[a60 hDC.symm];§I1.free)
  ·¤thn (T.item (c60 X (d80 own capt) sc cl h3.objs.size s2 H2 fp) rfl rfl rfl hc i _ s' _ H' NoX I' (q01 pinD fr') st' go) λr s1 hr=>?_
   ¶⟨u,hr,h4⟩:=hr
   subst hr
   ¤thn h4 λ_ s5 hr5=>?_
   ¶⟨x,H5,I5,r5,y5,st5,fr5⟩:=hr5
   have I5p:=I5.pinned (q01 pinD fr5) (T.obj _ _ st5)
   ¤thn (hg _ _ _ _ _ s5 _ H5 x u _ I5p r5 (step x H5 y5)) λ_ s6 hr6=>?_
   ¶⟨σ6,H6,I6,q6⟩:=hr6
   ¤thn (ht _ _ _ _ _ s6 σ6 H6 _ I6 q6) λok s7 hr7=>?_
   ¶⟨H7,I7,q7⟩:=hr7
   have memFp:∀ {pl:List (Ç × Obj)}{b:Ç}{o:Obj},b∈fp->s5.heap.get? b=some o->(b,o)∈([]:List (Ç × Obj))++(pl++B30 fp s5.heap):=λhb e=>ï _ (ï _ (k90 hb e))
   cases ok with
   |false =>
    rw[if_neg Ð] at q7 ⊢
    ¶⟨m',hm,w7⟩:=hN _ _ q7
    ¤⟨m',hm,i + 1,ys,H7,its,k,reset (I7.B10 λp hp=>I7.pin p (ï _ (Æ6 _ hp))),T.keep _ _ _ st5 λb hb o e=>(I7.pin (b,o) (memFp hb e)).1,λb hb=>?_,hv,hz,w7⟩
    ¶⟨o,e,_⟩:=T.obj _ _ st5 b hb
    §(I7.pin (b,o) (memFp hb e)).2.1
   |true =>
    rw[if_pos rfl] at q7 ⊢
    ¤thn (he _ _ f2 _ s7 σ6 H7 _ I7 q7) λuv s8 hr8=>?_
    ¶⟨y,H8,I8,r8,q8⟩:=hr8
    ¶⟨m',hm,w8⟩:=hN _ _ q8
    ¶⟨gD,nD,dC,dF,_⟩:=I8.pin _ (ï _ (Æ6 _ Ì))
    ¤append_at gD (λh9 sb hD9=>?_) (by show(toArray its).size<=Û;rw[Ó,← hv.length];§hz)
    have I8a:Inv (c60 X (d80 own capt) sc cl h3.objs.size s2 H2 fp) (B30 fp s5.heap) σ6 H8 s8:=I8.B10 λp hp=>I8.pin p (ï _ (ï _ hp))
    have I9:Inv (c60 X (d80 own capt) sc cl h3.objs.size s2 H2 fp) (B30 fp s5.heap) σ6 H8 { s8 with heap:=h9 }:=I8a.turned (t':=s8.toks) (λb o hb e=>(sb.2 b hb).trans e) nD dC (.inr (Í _))
     (λx c e z=>Á4 s2.heap.objs.size (by have:=celLt x c (hcl x c e);rw[z] at this;§this)) (λp hp z=>hDfp (z ▸ (Q10 (by simpa using hp)).1))
    rw[List.push_toArray] at hD9
    ¤⟨m',hm,i + 1,ys++[y],H8,its++[uv],k + 1,(reset I9).B10 λp hp=>?_,T.keep _ _ _ st5 λb hb o e=>?_,λb hb=>?_,hv.append (.cons r8 .nil),by rw[Á9];§hlt,w8⟩
    ·have hp':p=(s2.heap.objs.size,{ cls:=.type "list",data:=.seq (toArray (its++[uv])) (k + 1) }):=by simpa using hp
     subst hp'
     §⟨hD9,nD,dC,dF,λv z=>by cases z⟩
    ·§(I9.pin (b,o) (ï _ (k90 hb e))).1
    ·¶⟨o,e,_⟩:=T.obj _ _ st5 b hb
     §(I9.pin (b,o) (ï _ (k90 hb e))).2.1
 §codeAny_compStart_list (loop _ rfl) (T.self _ 0 _ _ _ (T.keep _ _ _ st2 λb _ o e=>old b o e) (loop _ rfl))
end
section
variable {X:Cx}{sc:ý}{own:List Str}{capt:List (Str × Nat)}{el tg src:Ò}{tests:List Ò}{ps pos:Pos}{wi:TI}{g:TG}{tt:TT}{te:TE}
÷s81(hc:X.calm=true)(S:r10 X sc own capt)(hi:PI X tg src wi)(hg:∀ cl C s H fp,PG (c60 X (d80 own capt) sc cl C s H fp) tg g)
  (ht:∀ cl C s H fp,PTs (c60 X (d80 own capt) sc cl C s H fp) tests tt) (he:∀ cl C s H fp,PE (c60 X (d80 own capt) sc cl C s H fp) el te)
  (hs:∀ x,É1 src X.env x=pure x:=by intro _;rfl):PE X (.ListComp el [⟨tg,src,tests,0⟩] sc ps) (a12 own capt wi g tt te):=by
 intro pins s σ H Q I h
 ¶⟨cl,hclos,hcl,hcf⟩:=Y90 (scope:=sc) (env:=X.env) λy hy hk=>I.ok.has y.1 (S.frees y hy hk)
 rw[eval_ListComp]
 ¤Ó6 (use:=none) rfl hs hclos S.kind S.locs (thn (hi pins s σ H _ I h) λv s1 h1=>thn h1 λitv s2 h2=>?_)
 ¶⟨it,fp,tn,J,H2,e,I2,T,st2,f2,hw⟩:=h2
 subst e
 ¤w10 hc S hcl hcf (hg cl) (ht cl) (λC fp _=>he cl C _ _ fp) I2 T st2 f2 hw (RR:=λacc C=>compPost (Ô X.prog X.w) X.A X.xe none (EP X pins σ Q) acc C) λacc C s' hf=>?_
 ¶⟨D,H',m',rfl,I',f',ns',r⟩:=hf
 §⟨m',ns',λh' sb=>⟨.ref D,H',I'.turned (t':=s'.toks) (λb o hb e=>(sb.2 b hb).trans e) f'.1 f'.2.1 f'.2.2.2.1 f'.2.2.2.2.1 f'.2.2.2.2.2,rfl,r⟩⟩
÷B72{te:St->Hp->TE}{Cond:St->Hp->Prop}(hc:X.calm=true)(S:r10 X sc own capt)(hi:PI X tg src wi)(hg:∀ cl C s H fp,PG (c60 X (d80 own capt) sc cl C s H fp) tg g)
  (ht:∀ cl C s H fp,PTs (c60 X (d80 own capt) sc cl C s H fp) tests tt) (he:∀ cl pins σ H s,Inv X pins σ H s->(∀ x c,cl.lookup x=some c->X.env.cells.lookup x=some c)->Cond σ H->∀ C fp,(∀ b∈fp,Y40 X pins H b)->PE (c60 X (d80 own capt) sc cl C s H fp) el (te σ H))
  (hs:∀ x,É1 src X.env x=pure x:=by intro _;rfl):PE X (.ListComp el [⟨tg,src,tests,0⟩] sc ps) (λσ H Q=>wi σ H λJ H1=>Cond σ H1/\s71 J (q50 own capt σ) H1 g tt (te σ H1) Q):=by
 intro pins s σ H Q I h
 ¶⟨cl,hclos,hcl,hcf⟩:=Y90 (scope:=sc) (env:=X.env) λy hy hk=>I.ok.has y.1 (S.frees y hy hk)
 rw[eval_ListComp]
 ¤Ó6 (use:=none) rfl hs hclos S.kind S.locs (thn (hi pins s σ H _ I h) λv s1 h1=>thn h1 λitv s2 h2=>?_)
 ¶⟨it,fp,tn,J,H2,e,I2,T,st2,f2,cd,hw⟩:=h2
 subst e
 ¤w10 hc S hcl hcf (hg cl) (ht cl) (λC fp hf=>he cl _ _ _ _ I2 hcl cd C fp hf) I2 T st2 f2 hw (RR:=λacc C=>compPost (Ô X.prog X.w) X.A X.xe none (EP X pins σ Q) acc C) λacc C s' hf=>?_
 ¶⟨D,H',m',rfl,I',f',ns',r⟩:=hf
 §⟨m',ns',λh' sb=>⟨.ref D,H',I'.turned (t':=s'.toks) (λb o hb e=>(sb.2 b hb).trans e) f'.1 f'.2.1 f'.2.2.2.1 f'.2.2.2.2.1 f'.2.2.2.2.2,rfl,r⟩⟩
÷a22{i:Nat}{y:Str}{py:Pos}(hN:X.N.Nodup)(hiN:X.N[i]?=some y)(hy:Loc X.env.scope y)(hsw:Ô9 (.ListComp el [⟨tg,src,tests,0⟩] sc ps) (some (.Name y py)) pos.line X.env=pure true)
  (hc:X.calm=true) (S:r10 X sc own capt) (hi:PI X tg src wi) (hg:∀ cl C s H fp,PG (c60 X (d80 own capt) sc cl C s H fp) tg g)
  (ht:∀ cl C s H fp,PTs (c60 X (d80 own capt) sc cl C s H fp) tests tt) (he:∀ cl C s H fp,PE (c60 X (d80 own capt) sc cl C s H fp) el te)
  (hs:∀ x,É1 src X.env x=pure x:=by intro _;rfl) (hf:X.fn y=true∨X.env.scope.names.lookup y=some .local:=by first | §.inl rfl | §.inr rfl | assumption) :
  PS X (.Assign [.Name y py] (.ListComp el [⟨tg,src,tests,0⟩] sc ps) pos) (n52 (a12 own capt wi g tt te) (Y30 i)):=by
 intro pins s σ H D I h
 ¶⟨cl,hclos,hcl,hcf⟩:=Y90 (scope:=sc) (env:=X.env) λy hy hk=>I.ok.has y.1 (S.frees y hy hk)
 rw[exec_Assign_Name_used _ _ _ _ hsw]
 ¤À (Û4 (À ?_))
 show Ï _ X.A (do let _ ← comprehension (.ListComp el [⟨tg,src,tests,0⟩] sc ps) sc X.env _ (newList []) false (eval src X.env) (some (Ù3 (.Name y py) X.env))) _ _ s
 ¤À (Â1 (Ó6 (use:=some (Ù3 (.Name y py) X.env)) (Q:=λ_ s'=>SP X pins D .next s') rfl hs hclos S.kind S.locs
  (thn (hi pins s σ H _ I h) λv s1 h1=>thn h1 λitv s2 h2=>?_)) (λ_ s' hq=>Å (Å hq)) λ_ _ e=>e)
 ¶⟨it,fp,tn,J,H2,e,I2,T,st2,f2,hw⟩:=h2
 subst e
 ¤w10 hc S hcl hcf (hg cl) (ht cl) (λC fp _=>he cl C _ _ fp) I2 T st2 f2 hw (RR:=λacc C=>compPost (Ô X.prog X.w) X.A X.xe (some (Ù3 (.Name y py) X.env)) (λ_ s'=>SP X pins D .next s') acc C) λacc C s' hfn=>?_
 ¶⟨DA,H',m',rfl,I',f',ns',r⟩:=hfn
 show Ï _ X.A (Ù3 (.Name y py) X.env (.ref DA)) _ _ _
 ¤wpAny_assign_Name (B20 (v:=.ref DA) I' hN hiN hy rfl (λs3 I3 ha=>?_) hf)
 ¶⟨a,sb,ha⟩:=ha
 have hCa:C≠a:=λz=>by
  rcases ha with q | q
  ·§f'.2.1 (z.trans q)
  ·§f'.2.2.2.2.1 _ _ q z.symm
 §⟨m',ns'.sameBut sb hCa,λh' sb'=>⟨_,H',I3.turned (t':=s3.toks) (λb o hb e=>(sb'.2 b hb).trans e) f'.1 f'.2.1 f'.2.2.2.1 f'.2.2.2.2.1 f'.2.2.2.2.2,r⟩⟩
end
end L2
namespace L2
open PySem
section
variable {P:ß}{w:è}{A:ø}{E:Ä->Æ->Prop}{s:Æ}
÷p40{r t:Ç}{k:Nat}{vs:Array Ä}{x:Ä}{Q:Ä->Æ->Prop}(hr:s.heap.IsTupleIter r t k)(ht:s.heap.IsTuple t vs)(hx:vs[k]?=some x)
  (hQ:∀ h',h'.IsTupleIter r t (k + 1)->Ë7 r s.heap h'->Q x { s with heap:=h' }):Ï (Ô P w) A (nextOf (.ref r)) Q E s:=by
 ¶⟨o,ho,hc,hd⟩:=id hr;¶⟨ot,hot,_,nt,hdt⟩:=ht;unfold nextOf
 ¤À (À5 (name:=À9 "__next__") hr.typeIs É4 (À4 É4 hr.typeIs à5 ?_ (à2 _)))
 show Ï _ _ (field (.ref r) 0 >>= _) _ _ s
 ¤À (Á5 ho hd (x:=.ref t) rfl ?_);show Ï _ _ (if (Ã3 t == â)=true then _ else _) _ _ s
 rw[if_neg (show ¬ ((Ã3 t == â)=true) from Ð)];show Ï _ _ (field (.ref r) 1 >>= _) _ _ s
 ¤À (Á5 ho hd (x:=.int k 0) rfl ?_);show Ï _ _ (seqItems? (.ref t) >>= _) _ _ s
 ¤À (Ç4 hot hdt ?_);simp only[Á8,hx]
 ¤À (wpAny_setField ho hd (by simp) (Å ⟨x,rfl,Å (hQ _ ⟨_,Ç6 _ ho (Obj.isFreed_of_fields (Obj.data_mapFields hd _)),(Obj.cls_mapFields ..).trans hc,by rw[Obj.data_mapFields hd];simp[Ã6]⟩ (Æ2 ..))⟩))
÷l60{r t:Ç}{k:Nat}{vs:Array Ä}{Q:Ä->Æ->Prop}(hh:A.handled=none)(hr:s.heap.IsTupleIter r t k)(ht:s.heap.IsTuple t vs)(hx:vs[k]?=none)
  (hE:∀ h' e,ì.ExtBut r s.heap h'->(∃ o,h'.get? e=some o/\o.cls=.type "StopIteration")->E (.ref e) { s with heap:=h' }):Ï (Ô P w) A (nextOf (.ref r)) Q E s:=by
 ¶⟨o,ho,hc,hd⟩:=id hr;¶⟨ot,hot,_,nt,hdt⟩:=ht;unfold nextOf
 ¤À (À5 (name:=À9 "__next__") hr.typeIs É4 (À4 É4 hr.typeIs à5 ?_ (à2 _)))
 show Ï _ _ (field (.ref r) 0 >>= _) _ _ s
 ¤À (Á5 ho hd (x:=.ref t) rfl ?_);show Ï _ _ (if (Ã3 t == â)=true then _ else _) _ _ s
 rw[if_neg (show ¬ ((Ã3 t == â)=true) from Ð)];show Ï _ _ (field (.ref r) 1 >>= _) _ _ s
 ¤À (Á5 ho hd (x:=.int k 0) rfl ?_);show Ï _ _ (seqItems? (.ref t) >>= _) _ _ s
 ¤À (Ç4 hot hdt ?_);simp only[Á8,hx]
 ¤À (É8 (À (wpAny_setField ho hd (by simp) ?_)));show Ï _ _ (newExc (.type "StopIteration") [] >>= _) _ _ _
 ¤À ?_;simp only[newExc,newTuple]
 ¤À (æ ?_ (by size_fits));¤À (m:=Ù1 _ _) (à3 (a:=â) (by first | rfl | (simp only[Ù1];rfl)) ?_)
 ¤æ ?_ (by size_fits);simp only[raiseNew];¤À (wpAny_handled ?_)
 first | rw[show A.in1.handled=none from hh] | rw[hh]
 ¤À (Å (wpAny_throw (hE _ _ (((Æ2 ..).extBut.push _).push _) ⟨_,Ë _ rfl,rfl⟩)))
÷s91{z TI TO i1 i2 l1 l2:Ç}{k:Nat}{xs ys:Array Ä}{x y a b:Ä}{Q:Option Ä->Æ->Prop}(D:ZipApart z TI TO i1 i2 l1 l2)(hz:Ò2 s.heap z TI TO .none)
  (hTI:Æ5 s.heap TI (.ref i1) (.ref i2)) (hTO:Æ5 s.heap TO a b) (h1:s.heap.IsTupleIter i1 l1 k) (h2:s.heap.IsTupleIter i2 l2 k) (hl1:s.heap.IsTuple l1 xs) (hl2:s.heap.IsTuple l2 ys)
  (hx:xs[k]?=some x) (hy:ys[k]?=some y)
  (hQ:∀ h',Ò2 h' z TI TO (Ã6 s.heap.objs.size)->Æ5 h' TO x y->h'.IsTupleIter i1 l1 (k + 1)->h'.IsTupleIter i2 l2 (k + 1)->Æ5 h' s.heap.objs.size x y->h'.objs.size=s.heap.objs.size + 1 ->
   (∀ c o,c≠z->c≠TO->c≠i1->c≠i2->s.heap.get? c=some o->h'.get? c=some o)->Q (some (.ref s.heap.objs.size)) { s with heap:=h' }):Ï (Ô P w) A (Ñ4 (.ref z)) Q E s:=by
 have hT:s.TypeIs (.ref z) "zip":=⟨_,hz,rfl⟩
 unfold Ñ4;¤À (Ë2 (À5 (name:=À9 "__next__") hT Õ6 (À4 Õ6 hT F.entry_zip_next ?_ (F.args_zip_next_1 _))))
 show Ï _ _ (field (.ref z) 2 >>= _) _ _ _;¤À (Á5 hz rfl (x:=.bool false) rfl ?_)
 show Ï _ _ (field (.ref z) 3 >>= _) _ _ _;¤À (Á5 hz rfl (x:=.ref TI) rfl ?_)
 ¤À (Ç4 hTI rfl ?_);show Ï _ _ (Ì7 (.ref z) >>= _) _ _ _
 ¤À ?_;unfold Ì7;¤À (Á5 hz rfl (x:=.none) rfl (Å ?_));simp only[if_true]
 ¤À (É8 (À (Á5 hz rfl (x:=.ref TO) rfl (À (Ã0 hz (by simp) λg1 z1 e1=>?_)))))
 replace z1:Ò2 g1 z TI TO .ellipsis:=z1
 ¤À ?_;simp only[List.zipIdx_cons,List.zipIdx_nil,Ì9,Ö7]
 ¤À (À (Û5 ?_));show Ï _ _ (nextOf (.ref i1) >>= _) _ _ _
 ¤À (p40 (h1.extBut e1.extBut D.i1z) (hl1.extBut e1.extBut D.l1z) hx λg2 r2 e2=>Å ?_)
 have t2:Æ5 g2 TO a b:=e2.extBut _ _ D.TOi1 (e1.extBut _ _ D.TOz hTO)
 ¤À (Ç4 t2 rfl (À (Ø6 t2 λg3 t3 e3=>?_)))
 replace t3:Æ5 g3 TO x b:=t3
 ¤À (wpAny_letGo (Å ?_));¤À (À (Û5 ?_));show Ï _ _ (nextOf (.ref i2) >>= _) _ _ _
 ¤À (p40 (((h2.extBut e1.extBut D.i2z).extBut e2.extBut D.i12.symm).extBut e3.extBut D.TOi2.symm) (((hl2.extBut e1.extBut D.l2z).extBut e2.extBut D.l2i1).extBut e3.extBut D.l2TO) hy λg4 r4 e4=>Å ?_)
 have t4:Æ5 g4 TO x b:=e4.extBut _ _ D.TOi2 t3
 ¤À (Ç4 t4 rfl (À (Ø6 t4 λg5 t5 e5=>?_)))
 replace t5:Æ5 g5 TO x y:=t5
 ¤À (wpAny_letGo (Å (Å ?_)));¤À (Ç4 t5 rfl (À (wpAny_newTuple ?_)))
 have sz:g5.objs.size=s.heap.objs.size:=by rw[e5.1,e4.1,e3.1,e2.1,e1.1]
 have z5:Ò2 g5 z TI TO .ellipsis:=e5.extBut _ _ D.TOz.symm (e4.extBut _ _ D.i2z.symm (e3.extBut _ _ D.TOz.symm (e2.extBut _ _ D.i1z.symm z1)))
 have kp:∀ c o,c≠z->c≠TO->c≠i1->c≠i2->s.heap.get? c=some o->g5.get? c=some o:=λc o c1 c2 c3 c4 e=>e5.extBut _ _ c2 (e4.extBut _ _ c4 (e3.extBut _ _ c2 (e2.extBut _ _ c3 (e1.extBut _ _ c1 e))))
 have r1:g5.IsTupleIter i1 l1 (k + 1):=((r2.extBut e3.extBut D.TOi1.symm).extBut e4.extBut D.i12).extBut e5.extBut D.TOi1.symm
 have r5:g5.IsTupleIter i2 l2 (k + 1):=r4.extBut e5.extBut D.TOi2.symm
 have zl:z < g5.objs.size:=à z5
 show Ï _ _ (ownedTupleHandOut (.ref z) (.ref g5.objs.size) >>= _) _ _ _
 ¤À ?_;unfold ownedTupleHandOut
 have z6:Ò2 (g5.push { cls:=.type "tuple",data:=.seq #[x,y] }) z TI TO .ellipsis:=Ã _ z5
 ¤À (Ã0 z6 (by simp) λg7 z7 e7=>?_)
 replace z7:Ò2 g7 z TI TO (Ã6 g5.objs.size):=z7
 ¤Ã0 z7 (by simp) λg8 z8 e8=>?_
 replace z8:Ò2 g8 z TI TO (Ã6 g5.objs.size):=z8
 have up:∀ c o,c≠z->g5.get? c=some o->g8.get? c=some o:=λc o c1 e=>e8.extBut _ _ c1 (e7.extBut _ _ c1 (Ã _ e))
 have t8:Æ5 g8 g5.objs.size x y:=e8.extBut _ _ (Ê4 zl) (e7.extBut _ _ (Ê4 zl) (Ë _ rfl))
 have s8:g8.objs.size=g5.objs.size + 1:=by rw[e8.1,e7.1,Ë3]
 rw[sz] at z8 t8 s8
 ¤Å ⟨_,rfl,?_⟩;¤Å ?_;show Q (some (.ref g5.objs.size)) _;rw[sz]
 §hQ g8 z8 (up _ _ D.TOz t5) (by ¶⟨o,ho,q⟩:=r1;§⟨o,up _ o D.i1z ho,q⟩) (by ¶⟨o,ho,q⟩:=r5;§⟨o,up _ o D.i2z ho,q⟩) t8 s8 λc o c1 c2 c3 c4 e=>up c o c1 (kp c o c1 c2 c3 c4 e)
÷J71{z TI TO i1 i2 l1 l2:Ç}{k:Nat}{xs ys:Array Ä}{a b:Ä}{Q:Option Ä->Æ->Prop}(hh:A.handled=none)(D:ZipApart z TI TO i1 i2 l1 l2)(hz:Ò2 s.heap z TI TO .none)
  (hTI:Æ5 s.heap TI (.ref i1) (.ref i2)) (hTO:Æ5 s.heap TO a b) (h1:s.heap.IsTupleIter i1 l1 k) (h2:s.heap.IsTupleIter i2 l2 k) (hl1:s.heap.IsTuple l1 xs) (hl2:s.heap.IsTuple l2 ys)
  (hend:xs[k]?=none∨ys[k]?=none) (hQ:∀ h',(∀ c o,c≠z->c≠TO->c≠i1->c≠i2->s.heap.get? c=some o->h'.get? c=some o)->Q none { s with heap:=h' }):Ï (Ô P w) A (Ñ4 (.ref z)) Q E s:=by
 have hT:s.TypeIs (.ref z) "zip":=⟨_,hz,rfl⟩
 have fin:∀ (h':ì) (e:Ç),(∀ c o,c≠z->c≠TO->c≠i1->c≠i2->s.heap.get? c=some o->h'.get? c=some o)->(∃ o,h'.get? e=some o/\o.cls=.type "StopIteration") ->
   Ï (Ô P w) A (isInstance (.ref e) (.type "StopIteration") >>= λb=>if b=true then pure none else throw (.ref e)) Q E { s with heap:=h' }:=λh' e kp he=>by
  ¶⟨o,ho,hc⟩:=he
  §À (ß2 (T:="StopIteration") (b:=true) ⟨o,ho,hc⟩ isSubtype_stop (Å (hQ _ kp)))
 unfold Ñ4;¤À (Ë2 (À5 (name:=À9 "__next__") hT Õ6 (À4 Õ6 hT F.entry_zip_next ?_ (F.args_zip_next_1 _))))
 show Ï _ _ (field (.ref z) 2 >>= _) _ _ _;¤À (Á5 hz rfl (x:=.bool false) rfl ?_)
 show Ï _ _ (field (.ref z) 3 >>= _) _ _ _;¤À (Á5 hz rfl (x:=.ref TI) rfl ?_)
 ¤À (Ç4 hTI rfl ?_);show Ï _ _ (Ì7 (.ref z) >>= _) _ _ _
 ¤À ?_;unfold Ì7;¤À (Á5 hz rfl (x:=.none) rfl (Å ?_));simp only[if_true]
 ¤À (É8 (À (Á5 hz rfl (x:=.ref TO) rfl (À (Ã0 hz (by simp) λg1 z1 e1=>?_)))))
 replace z1:Ò2 g1 z TI TO .ellipsis:=z1
 ¤À ?_;simp only[List.zipIdx_cons,List.zipIdx_nil,Ì9,Ö7]
 ¤À (À (Û5 ?_));show Ï _ _ (nextOf (.ref i1) >>= _) _ _ _
 cases hx:xs[k]? with
 |none =>
  ¤À (l60 hh (h1.extBut e1.extBut D.i1z) (hl1.extBut e1.extBut D.l1z) hx λg2 e e2 he=>?_)
  ¶⟨oe,hoe,hce⟩:=he
  have z2:Ò2 g2 z TI TO .ellipsis:=e2 _ _ D.i1z.symm z1
  have hez:e≠z:=λq=>by subst q;rw[z2] at hoe;cases hoe;simp at hce
  §Ã0 z2 (by simp) λg3 _ e3=>fin g3 e (λc o c1 _ c3 _ q=>e3.extBut _ _ c1 (e2 _ _ c3 (e1.extBut _ _ c1 q))) ⟨oe,e3.extBut _ _ hez hoe,hce⟩
 |some x =>
  have hy:ys[k]?=none:=by rcases hend with q | q;rw[hx] at q;cases q;§q
  ¤À (p40 (h1.extBut e1.extBut D.i1z) (hl1.extBut e1.extBut D.l1z) hx λg2 r2 e2=>Å ?_)
  have t2:Æ5 g2 TO a b:=e2.extBut _ _ D.TOi1 (e1.extBut _ _ D.TOz hTO)
  ¤À (Ç4 t2 rfl (À (Ø6 t2 λg3 t3 e3=>?_)))
  ¤À (wpAny_letGo (Å ?_));¤À (À (Û5 ?_));show Ï _ _ (nextOf (.ref i2) >>= _) _ _ _
  ¤À (l60 hh (((h2.extBut e1.extBut D.i2z).extBut e2.extBut D.i12.symm).extBut e3.extBut D.TOi2.symm) (((hl2.extBut e1.extBut D.l2z).extBut e2.extBut D.l2i1).extBut e3.extBut D.l2TO) hy λg4 e e4 he=>?_)
  ¶⟨oe,hoe,hce⟩:=he
  have z4:Ò2 g4 z TI TO .ellipsis:=e4 _ _ D.i2z.symm (e3.extBut _ _ D.TOz.symm (e2.extBut _ _ D.i1z.symm z1))
  have hez:e≠z:=λq=>by subst q;rw[z4] at hoe;cases hoe;simp at hce
  §Ã0 z4 (by simp) λg5 _ e5=>fin g5 e (λc o c1 c2 c3 c4 q=>e5.extBut _ _ c1 (e4 _ _ c4 (e3.extBut _ _ c2 (e2.extBut _ _ c3 (e1.extBut _ _ c1 q))))) ⟨oe,e5.extBut _ _ hez hoe,hce⟩
abbrev zT1(h:ì)(l1:Ç):Heap:=h.push { cls:=.type "tuple_iterator",data:=.fields #[.ref l1,.int 0 0] }
abbrev zT2(h:ì)(l1 l2:Ç):Heap:=(zT1 h l1).push { cls:=.type "tuple_iterator",data:=.fields #[.ref l2,.int 0 0] }
abbrev zT3(h:ì)(l1 l2:Ç):Heap:=(zT2 h l1 l2).push { cls:=.type "tuple",data:=.seq #[.ref h.objs.size,.ref (zT1 h l1).objs.size] }
abbrev zT4(h:ì)(l1 l2:Ç):Heap:=(zT3 h l1 l2).push { cls:=.type "tuple",data:=.seq #[.none,.none] }
abbrev zT5(h:ì)(l1 l2:Ç):Heap:=(zT4 h l1 l2).push { cls:=.type "zip",data:=.fields #[.none,.bool false,.bool false,.ref (zT2 h l1 l2).objs.size,.ref (zT3 h l1 l2).objs.size] }
÷m21(l1 l2:Ç)(xs ys:Array Ä) :
  Meets (ÿ.«zip.__new__» ⟨[.type "zip",.ref l1,.ref l2],[]⟩) (λ_ R s=>s.heap.IsTuple l1 xs/\s.heap.IsTuple l2 ys/\R (.ok (.ret (.ref (zT4 s.heap l1 l2).objs.size))) { s with heap:=zT5 s.heap l1 l2 }) :=
 .of_wp λP w A R s h=>by
  ¶⟨hp,g,d,tk,os⟩:=s;¶⟨hl1,hl2,h⟩:=h
  have hsub:=sub_zip
  have hL1:Ó4 (Æ.heap ⟨hp,g,d,tk,os⟩) l1 xs:=hl1
  have hL2:Ó4 (Æ.heap ⟨hp.push { cls:=.type "tuple_iterator",data:=.fields #[.ref l1,.int 0 0] },g,d,tk,os⟩) l2 ys:=Ó4.push hl2 _
  wp_walk using Ç8 hL1,Ç8 hL2
  §⟨_,rfl,h⟩
÷t01{l1 l2:Ç}{xs ys:Array Ä}{Q:Ä->Æ->Prop}(hl1:s.heap.IsTuple l1 xs)(hl2:s.heap.IsTuple l2 ys)
  (h:∀ h',Ò2 h' (s.heap.objs.size + 4) (s.heap.objs.size + 2) (s.heap.objs.size + 3) .none->Æ5 h' (s.heap.objs.size + 2) (.ref s.heap.objs.size) (.ref (s.heap.objs.size + 1))->Æ5 h' (s.heap.objs.size + 3) .none .none ->
   h'.IsTupleIter s.heap.objs.size l1 0->h'.IsTupleIter (s.heap.objs.size + 1) l2 0->(∀ c o,s.heap.get? c=some o->h'.get? c=some o)->Q (.ref (s.heap.objs.size + 4)) { s with heap:=h' }) :
  Ï (Ô P w) A (call (.type "zip") [.ref l1,.ref l2]) Q E s:=by
 ¤callType_new F.called_zip (by decide) (F.typeCall_zip_2 _ _) (F.newCall_zip_2 _ _) (λobj=>F.args_object_init_3 obj _ _) F.entry_zip_new (m21 l1 l2 xs ys) ⟨hl1,hl2,?_⟩
 have n1:(zT1 s.heap l1).objs.size=s.heap.objs.size + 1:=Ë3 ..
 have n2:(zT2 s.heap l1 l2).objs.size=s.heap.objs.size + 2:=by rw[Ë3,n1]
 have n3:(zT3 s.heap l1 l2).objs.size=s.heap.objs.size + 3:=by rw[Ë3,n2]
 have n4:(zT4 s.heap l1 l2).objs.size=s.heap.objs.size + 4:=by rw[Ë3,n3]
 have g5:(zT5 s.heap l1 l2).get? (zT4 s.heap l1 l2).objs.size=some _:=Ë _ rfl
 have g4:(zT5 s.heap l1 l2).get? (zT3 s.heap l1 l2).objs.size=some _:=Ã _ (Ë _ rfl)
 have g3:(zT5 s.heap l1 l2).get? (zT2 s.heap l1 l2).objs.size=some _:=Ã _ (Ã _ (Ë _ rfl))
 have g2:(zT5 s.heap l1 l2).get? (zT1 s.heap l1).objs.size=some _:=Ã _ (Ã _ (Ã _ (Ë _ rfl)))
 have g1:(zT5 s.heap l1 l2).get? s.heap.objs.size=some _:=Ã _ (Ã _ (Ã _ (Ã _ (Ë _ rfl))))
 show _/\_;rw[n2,n3,n4] at g5;rw[n1,n2] at g3;rw[n3] at g4;rw[n1] at g2;rw[n4]
 §⟨⟨_,g5,rfl⟩,h _ g5 g3 g4 ⟨_,g1,rfl,rfl⟩ ⟨_,g2,rfl,rfl⟩ λc o q=>Ã _ (Ã _ (Ã _ (Ã _ (Ã _ q))))⟩
end
open PySem PySem.Spec PyProof.Rows
section
variable {X:Cx}{pins:List (Ç × Obj)}{σ:St}{H:Hp}{s:Æ}{h':ì}
÷Inv.J90{t':Nat}{ch:List Ç}(I:Inv X pins σ H s)(hf:∀ b∈ch,Y40 X pins H b)(k:∀ b o,b ∉ ch->s.heap.get? b=some o->h'.get? b=some o):Inv X pins σ H { s with heap:=h',toks:=t' }:=by
 have nch:∀ b u,H b=some u->b ∉ ch:=λb u e z=>by rw[(hf b z).1] at e;cases e
 ¤I.step (g':=s.gens) (d':=s.drawn) (ch:=ch) (λb hb=>⟨(hf b hb).2.2.2.1,(hf b hb).2.1,(hf b hb).2.2.2.2.1,(hf b hb).2.2.2.2.2⟩) (λb o _ _ hc e _=>k b o hc e) (λb o _ _ hc e _=>⟨o.slots,k b o hc e⟩) (λ_ _ _ _ n=>n)
  (λb o hc e=>⟨o,k b o hc e⟩) (λ_ _ e=>e) (λ_ _ _ e=>e) (λb ps e=>⟨#[],by rw[e];simp⟩) (λm hm=>?_) (λb u e=>?_) I.bare
 ·¶⟨o,es,ep,ho,r⟩:=hm
  §⟨o,es,ep,k _ o (λz=>(hf _ z).2.1 rfl) ho,r⟩
 ·¤(I.hok b u e).l41 (λc v hc q=>k c v ?_ q) (λ_ q=>q) λ_ _ q=>q
  rcases hc with z | z
  ·rw[z];§nch b u e
  ·§nch c _ z
÷Inv.J51{T:Ç}{o:HO}(I:Inv X pins σ H s)(f:Y40 X pins H T)(h0:X.s₀.heap.objs.size<=T)(hok:HOk X.prog X.w (upd H T o) s.heap):Inv X pins σ (upd H T o) s:=by
 have u:=I.base
 ¤⟨I.ok,I.os,I.bare,⟨u.keep,u.slot,λb ob e n hx=>?_,u.there,λb xs e=>?_,λb ob xs e=>?_,λb ps e=>?_⟩,I.loc,I.cell,?_,λx c e=>?_,λp hp=>?_,hok,I.len⟩
 ·rw[a60 (Ø (Ù (à e) h0))];§u.free b ob e n hx
 ·have z:=u.tups b xs e;rw[a60 (a80 z f.1)];§z
 ·have z:=u.frzs b ob xs e;rw[a60 (a80 z f.1)];§z
 ·¶⟨more,z⟩:=u.tbls b ps e
  §⟨more,by rw[a60 (a80 z f.1)];§z⟩
 ·rw[a60 f.2.1.symm];§I.free
 ·rw[a60 (f.2.2.2.2.1 x c e)];§I.freeC x c e
 ·¶⟨e,n,r⟩:=I.pin p hp
  §⟨e,by rw[a60 (f.2.2.2.2.2 p hp)];§n,r⟩
÷HOk.T81{P:ß}{w:è}{H:Hp}{h:ì}{D:Ç}{ys:List V}{its:List Ä}(x:HOk P w H h)(hn:H D=none)(hv:Vals ys its)(hz:ys.length<=Û)(ho:Ï0 h D its.toArray):HOk P w (upd H D (.tup ys)) h:=λb u e=>by
 by_cases hb:b=D
 ·subst hb;rw[b20] at e;cases e;§⟨hz,its,hv,ho⟩
 ·rw[a60 hb] at e
  §(x b u e).l41 (λc v _ q=>q) (λc q=>by rw[a60 (a80 q hn)];§q) λc xs q=>by rw[a60 (a80 q hn)];§q
end
def SqB:Bool->Â->Hp->Ç->List V->Prop
 |true=>SqL
 |false=>SqT
def R70:Bool->ì->Ç->Ç->Nat->Prop
 |true=>ì.IsListIter
 |false=>ì.IsTupleIter
def J81:Bool->ì->Ç->Array Ä->Prop
 |true=>ì.IsList
 |false=>Ó4
÷R70.obj{b:Bool}{h:ì}{it a:Ç}{i:Nat}(st:R70 b h it a i):∃ o,h.get? it=some o/\(∀ v,o.data=.cell v->False)/\∀ h':ì,h'.get? it=some o->R70 b h' it a i:=by
 cases b with
 |true=>¶⟨o,g,c,d⟩:=st;§⟨o,g,(λv e=>by rw[d] at e;cases e),λh' k=>⟨o,k,c,d⟩⟩
 |false=>¶⟨o,g,c,d⟩:=st;§⟨o,g,(λv e=>by rw[d] at e;cases e),λh' k=>⟨o,k,c,d⟩⟩
÷Inv.J91(I:Inv X pins σ H s)(h:SqB b X.K H a xs):∃ its:List Ä,Vals xs its/\J81 b s.heap a its.toArray/\a < s.heap.objs.size/\∀ ys,SqB b X.K H a ys->ys=xs:=by
 cases b with
 |true=>¶⟨its,r,p,_⟩:=I.list h;§⟨its,r,p.isList,by ¶⟨o,e,_⟩:=p.isList;§à e,λys h'=>I.e21 h' h⟩
 |false=>¶⟨its,r,p,_⟩:=I.tuple h;§⟨its,r,p,by ¶⟨o,e,_⟩:=p;§à e,λys h'=>I.P90 h' h⟩
section
variable {P:ß}{w:è}{A:ø}{E:Ä->Æ->Prop}{s:Æ}{b:Bool}{z TI TO i1 i2 l1 l2:Ç}{k:Nat}{xs ys:Array Ä}{x y p q:Ä}
÷t11{Q:Option Ä->Æ->Prop}(D:ZipApart z TI TO i1 i2 l1 l2)(hz:Ò2 s.heap z TI TO .none)(hTI:Æ5 s.heap TI (.ref i1) (.ref i2))(hTO:Æ5 s.heap TO p q)(h1:R70 b s.heap i1 l1 k)(h2:R70 b s.heap i2 l2 k)(hl1:J81 b s.heap l1 xs)(hl2:J81 b s.heap l2 ys)(hx:xs[k]?=some x)(hy:ys[k]?=some y)
  (hQ:∀ h',Ò2 h' z TI TO (Ã6 s.heap.objs.size)->Æ5 h' TO x y->R70 b h' i1 l1 (k + 1)->R70 b h' i2 l2 (k + 1)->Æ5 h' s.heap.objs.size x y->h'.objs.size=s.heap.objs.size + 1 ->
   (∀ c o,c≠z->c≠TO->c≠i1->c≠i2->s.heap.get? c=some o->h'.get? c=some o)->Q (some (.ref s.heap.objs.size)) { s with heap:=h' }):Ï (Ô P w) A (Ñ4 (.ref z)) Q E s:=match b,h1,h2,hl1,hl2,hQ with
 |true,h1,h2,hl1,hl2,hQ=>wpAny_pyNext_zip_item D hz hTI hTO h1 h2 hl1 hl2 hx hy hQ
 |false,h1,h2,hl1,hl2,hQ=>s91 D hz hTI hTO h1 h2 hl1 hl2 hx hy hQ
÷K01{Q:Option Ä->Æ->Prop}(hh:A.handled=none)(D:ZipApart z TI TO i1 i2 l1 l2)(hz:Ò2 s.heap z TI TO .none)(hTI:Æ5 s.heap TI (.ref i1) (.ref i2))(hTO:Æ5 s.heap TO p q)(h1:R70 b s.heap i1 l1 k)(h2:R70 b s.heap i2 l2 k)(hl1:J81 b s.heap l1 xs)(hl2:J81 b s.heap l2 ys)
  (hend:xs[k]?=none∨ys[k]?=none) (hQ:∀ h',(∀ c o,c≠z->c≠TO->c≠i1->c≠i2->s.heap.get? c=some o->h'.get? c=some o)->Q none { s with heap:=h' }):Ï (Ô P w) A (Ñ4 (.ref z)) Q E s:=match b,h1,h2,hl1,hl2 with
 |true,h1,h2,hl1,hl2=>wpAny_pyNext_zip_end hh D hz hTI hTO h1 h2 hl1 hl2 hend hQ
 |false,h1,h2,hl1,hl2=>J71 hh D hz hTI hTO h1 h2 hl1 hl2 hend hQ
÷t21{Q:Ä->Æ->Prop}(hl1:J81 b s.heap l1 xs)(hl2:J81 b s.heap l2 ys)
  (h:∀ h',Ò2 h' (s.heap.objs.size + 4) (s.heap.objs.size + 2) (s.heap.objs.size + 3) .none->Æ5 h' (s.heap.objs.size + 2) (.ref s.heap.objs.size) (.ref (s.heap.objs.size + 1))->Æ5 h' (s.heap.objs.size + 3) .none .none ->
   R70 b h' s.heap.objs.size l1 0->R70 b h' (s.heap.objs.size + 1) l2 0->(∀ c o,s.heap.get? c=some o->h'.get? c=some o)->Q (.ref (s.heap.objs.size + 4)) { s with heap:=h' }):Ï (Ô P w) A (call (.type "zip") [.ref l1,.ref l2]) Q E s:=match b,hl1,hl2,h with
 |true,hl1,hl2,h=>call_zip_2 hl1 hl2 λh' a1 a2 a3 a4 a5 _ a6=>h h' a1 a2 a3 a4 a5 a6
 |false,hl1,hl2,h=>t01 hl1 hl2 h
end
def Itz(b:Bool)(K:Â)(a c:Ç):It :=
 ⟨λi H=>∃ xs ys x y,SqB b K H a xs/\SqB b K H c ys/\xs[i]?=some x/\ys[i]?=some y,
  λi H v H'=>∃ T,v=.ref T/\H T=none/\∀ xs ys x y,SqB b K H a xs->SqB b K H c ys->xs[i]?=some x->ys[i]?=some y->H'=upd H T (.tup [x,y]),
  λi H=>∃ xs ys,SqB b K H a xs/\SqB b K H c ys/\(xs.length<=i∨ys.length<=i)⟩
÷K11{P:ß}{w:è}{K:Â}{es:List Ò}{ek:Nat}{ep:Pos}{b:Bool}{a c z TI TO i1 i2:Ç}(D:ZipApart z TI TO i1 i2 a c) :
  Turn P w K (.Tuple es ek ep) (Itz b K a c) [z,TI,TO,i1,i2] z (λi h=>Ò2 h z TI TO .none/\Æ5 h TI (.ref i1) (.ref i2)/\(∃ p q,Æ5 h TO p q)/\R70 b h i1 a i/\R70 b h i2 c i) where
 mem:=by simp
 obj:=λi h st c hc=>by
  ¶⟨hz,hTI,⟨p,q,hTO⟩,h1,h2⟩:=st
  ¶⟨o1,h1,d1,_⟩:=h1.obj
  ¶⟨o2,h2,d2,_⟩:=h2.obj
  simp only[Â9,À2,or_false] at hc
  rcases hc with rfl | rfl | rfl | rfl | rfl
  ·§⟨_,hz,λv e=>by cases e⟩
  ·§⟨_,hTI,λv e=>by cases e⟩
  ·§⟨_,hTO,λv e=>by cases e⟩
  ·§⟨_,h1,d1⟩
  ·§⟨_,h2,d2⟩
 keep:=λi h h' st k=>by
  ¶⟨hz,hTI,⟨p,q,hTO⟩,h1,h2⟩:=st
  ¶⟨o1,h1,_,r1⟩:=h1.obj
  ¶⟨o2,h2,_,r2⟩:=h2.obj
  §⟨k z (by simp) _ hz,k TI (by simp) _ hTI,⟨p,q,k TO (by simp) _ hTO⟩,r1 _ (k i1 (by simp) _ h1),r2 _ (k i2 (by simp) _ h2)⟩
 item:=by
  intro X hP hw hK hc i pins s σ H E I hf st hg
  subst hP hw hK
  ¶⟨xs,ys,x,y,hq1,hq2,hx,hy⟩:=hg
  ¶⟨v1,rv1,p1,_,z1⟩:=I.J91 hq1
  ¶⟨v2,rv2,p2,_,z2⟩:=I.J91 hq2
  ¶⟨u1,hu1,ru1⟩:=rv1.get hx
  ¶⟨u2,hu2,ru2⟩:=rv2.get hy
  ¶⟨hz,hTI,⟨p,q,hTO⟩,h1,h2⟩:=st
  ¤t11 D hz hTI hTO h1 h2 p1 p2 (x:=u1) (y:=u2) (by simpa using hu1) (by simpa using hu2) λg1 gz gTO g1' g2' gT gs kp=>⟨_,rfl,?_⟩
  ¤wpAny_letOwnedTupleGo_zip (s:={ s with heap:=g1 }) gz λg2 gz2 sb=>?_
  have hT:H s.heap.objs.size=none:=I.hok.fresh (Í _)
  have kall:∀ c o,c ∉ [z,TI,TO,i1,i2]->s.heap.get? c=some o->g2.get? c=some o:=λc o hc e=>by
   simp only[Â9,À2,or_false,not_or] at hc
   §sb.extBut _ _ hc.1 (kp c o hc.1 hc.2.2.1 hc.2.2.2.1 hc.2.2.2.2 e)
  have I2:Inv X pins σ H { s with heap:=g2 }:=I.J90 (t':=s.toks) hf kall
  have fT:Y40 X pins H s.heap.objs.size:=I.q01 (Í _) hT
  have gT2:g2.get? s.heap.objs.size=some { cls:=.type "tuple",data:=.seq #[u1,u2] }:=sb.extBut _ _ (λe=>Á4 _ (by have:=à hz;rw[← e] at this;§this)) gT
  have I3:Inv X pins σ (upd H s.heap.objs.size (.tup [x,y])) { s with heap:=g2 }:=I2.J51 fT I.sz (I2.hok.T81 hT (its:=[u1,u2]) (.cons ru1 (.cons ru2 .nil)) (by show 2<=Û;rw[Á2];decide) ⟨_,gT2,rfl,_,rfl⟩)
  have TI0:Æ5 g2 TI (.ref i1) (.ref i2):=sb.extBut _ _ D.TIz (kp _ _ D.TIz D.TITO D.TIi1 D.TIi2 hTI)
  ¶⟨o1,w1,_,r1⟩:=g1'.obj
  ¶⟨o2,w2,_,r2⟩:=g2'.obj
  ¤⟨.ref s.heap.objs.size,_,I3,rfl,⟨_,rfl,hT,λxs' ys' x' y' e1 e2 e3 e4=>?_⟩,⟨gz2,TI0,⟨_,_,sb.extBut _ _ D.TOz gTO⟩,r1 _ (sb.extBut _ _ D.i1z w1),r2 _ (sb.extBut _ _ D.i2z w2)⟩,λc hc=>?_⟩
  ·rw[z1 _ e1] at e3
   rw[z2 _ e2] at e4
   rw[hx] at e3;rw[hy] at e4
   cases e3;cases e4;rfl
  ·rw[a60]
   ·§(hf c hc).1
   ·intro e
    ¶⟨o1,h1,_⟩:=h1.obj
    ¶⟨o2,h2,_⟩:=h2.obj
    have lt:c < s.heap.objs.size:=by
     simp only[Â9,À2,or_false] at hc
     rcases hc with rfl | rfl | rfl | rfl | rfl
     ·§à hz
     ·§à hTI
     ·§à hTO
     ·§à h1
     ·§à h2
    rw[e] at lt
    §Á4 _ lt
 done:=by
  intro X hP hw hK hc i pins s σ H E I hf st hg
  subst hP hw hK
  ¶⟨xs,ys,hq1,hq2,hend⟩:=hg
  ¶⟨v1,rv1,p1,_⟩:=I.J91 hq1
  ¶⟨v2,rv2,p2,_⟩:=I.J91 hq2
  ¶⟨hz,hTI,⟨p,q,hTO⟩,h1,h2⟩:=st
  have l1:=rv1.length
  have l2:=rv2.length
  ¤K01 (I.ok.hd hc) D hz hTI hTO h1 h2 p1 p2 (hend.elim (λe=>.inl (by simp;omega)) λe=>.inr (by simp;omega)) λg kp=>⟨rfl,I.J90 (t':=s.toks) hf λc o hcn e=>?_⟩
  simp only[Â9,À2,or_false,not_or] at hcn
  §kp c o hcn.1 hcn.2.2.1 hcn.2.2.2.1 hcn.2.2.2.2 e
 self:=λ_ _ _ _ _ st h=>wpAny_pyIter_zip st.1 h
def S92(K:Â)(ta:TA):TI:=λσ H R=>ta σ H λvs H1=>∃ b a c,vs=[.ref a,.ref c]/\(∃ xs,SqB b K H1 a xs)/\(∃ ys,SqB b K H1 c ys)/\R (Itz b K a c) H1
÷boot_zip:ë "zip"=some (.type "zip"):=by decide +kernel
÷p42{X:Cx}{a b:Ò}{es:List Ò}{ek:Nat}{ep:Pos}{ta:TA}{p pos:Pos}(hg:Gl X "zip")(hm:X.mg "zip"=none)(ha:PA X [a,b] ta)(hs:þ [a,b] X.env=[(false,eval a X.env),(false,eval b X.env)]:=by rfl)(hs2:þ [b] X.env=[(false,eval b X.env)]:=by rfl) :
  PI X (.Tuple es ek ep) (.Call (.Name "zip" p) [a,b] [] pos) (S92 X.K ta):=by
 intro pins s σ H R I h
 ¤Call_ (t50 I hg hm boot_zip (Á1 (thn (ha pos pins s σ H _ I h) λus s1 ⟨vs,H1,I1,r1,q1⟩=>?_) (by rw[hs,hs2]) (by rw[hs2];rfl)))
 ¶⟨b,l1,l2,e,⟨xs,hq1⟩,⟨ys,hq2⟩,q⟩:=q1
 subst e
 ¶⟨u,w',rfl,r,r'⟩:=vals2 r1
 cases r;cases r'
 ¶⟨v1,rv1,p1,a1,_⟩:=I1.J91 hq1
 ¶⟨v2,rv2,p2,a2,_⟩:=I1.J91 hq2
 ¤t21 p1 p2 λh' hz hTI hTO h1 h2 kp=>wpAny_pyIter_zip (s:={ s1 with heap:=h' }) hz ?_
 ¤⟨_,[s1.heap.objs.size + 4,s1.heap.objs.size + 2,s1.heap.objs.size + 3,s1.heap.objs.size,s1.heap.objs.size + 1],_,_,H1,rfl,I1.kept (t':=s1.toks) kp,K11 (PyProof.Rows.zipApart_new a1 a2),⟨hz,hTI,⟨_,_,hTO⟩,h1,h2⟩,λc hc=>?_,q⟩
 have hc':s1.heap.objs.size<=c:=by
  simp only[Â9,À2,or_false] at hc
  rcases hc with rfl | rfl | rfl | rfl | rfl
  ·§É5 _ 4
  ·§É5 _ 2
  ·§É5 _ 3
  ·§Í _
  ·§É5 _ 1
 §I1.q01 hc' (I1.hok.fresh hc')
÷K21(hc:X.calm=true):f00 X (.builtin "all") (λxs H Q=>∃ (a:Ç) (bs:List Bool),xs=[.ref a]/\SqL X.K H a (bs.map V.bl)/\Q (.bl (bs.all id)) H):=by
 intro pins s σ H xs us Q I r h
 ¶⟨a,bs,rfl,hq,q⟩:=h
 ¶⟨u,rfl,rx⟩:=vals1 r
 cases rx
 ¶⟨its,rv,pl,hz⟩:=I.list hq
 have hlt:a < s.heap.objs.size:=by ¶⟨_,e,_⟩:=pl.isList;§à e
 have hlen:its.length=bs.length:=by have:=rv.length;simpa using this.symm
 ¤call_all_walk (Ý4 pl.isList ⟨_,_,_,_,_,_,λi=>(bs[i]?).getD true,rfl,Walks.list (by §I.ok.hd hc) s.heap.objs.size a (Ø hlt) its.toArray,⟨⟨_,Ë _ rfl,rfl,rfl⟩,pl.isList.push _⟩,?_,?_⟩)
 ·intro i v s' Q' E' hP hQ
  have hP':its[i]?=some v:=by simpa using hP
  have hi:i < bs.length:=by rw[← hlen];§(Þ.mp hP').1
  ¶⟨v',hv',rv'⟩:=rv.get (i:=i) (x:=.bl bs[i]) (by simp[hi])
  rw[hP'] at hv';cases hv'
  cases (show v=Î7 _ from rv')
  §Â5 (by simpa [hi] using hQ)
 ·intro h' tk kp
  ¤⟨.bl (bs.all id),H,I.kept λb o e=>kp b o (by simpa using Ø (à e)) (Ã _ e),?_,q⟩
  show Î7 _=Î7 _
  rw[Ó,hlen,PyProof.Rows.LSm.range_all]
end L2
namespace MySort
open PySem PySem.W PyProof.Rows
def run{α:Type}(cmp:Nat->Nat->Bool):KasT α->α
 |.ret a=>a
 |.ask i j k=>run cmp (k (cmp i j))
÷run_bind(cmp:Nat->Nat->Bool)(f:α->KasT β):∀ t:KasT α,run cmp (t.bind f)=run cmp (f (run cmp t))
 |.ret _=>rfl
 |.ask i j k=>run_bind cmp f (k (cmp i j))
section
variable (O:KeyOrd) (key:Nat->O.α)
def kk(p:Array Nat)(i:Nat):O.α:=key (p.getD i 0)
abbrev k80:Nat->Nat->Bool:=λi j=>O.blt (key i) (key j)
def Up(p:Array Nat)(n:Nat):Prop:=∀ i j,i<=j->j < n->O.kle (kk O key p i) (kk O key p j)
def Dn(p:Array Nat)(n:Nat):Prop:=∀ i j,i<=j->j < n->O.kle (kk O key p j) (kk O key p i)
variable {O key}
÷t70(h:p[i]?=q[j]?):kk O key p i=kk O key q j:=by
 unfold kk;rw[Î0,Î0,h]
÷t31(hj:j<=p.size)(k:Nat):kk O key (Ç9 p i j) k=if i<=k/\k < j then kk O key p (i + j - 1 - k) else kk O key p k:=by
 have e:=getElem?_mirror_all (i:=i) hj k
 unfold Ç9
 by_cases h1:i<=k/\k < j
 ·rw[if_pos h1] at e ⊢;§t70 e
 ·rw[if_neg h1] at e ⊢;§t70 e
÷p52(hs:k < p.size)(hd:d<=k)(i:Nat) :
  kk O key (bubble p k d) i=if i=k - d then kk O key p k else if k - d < i/\i<=k then kk O key p (i - 1) else kk O key p i:=by
 have e:=getElem?_bubble hs d hd i
 by_cases h1:i=k - d
 ·rw[if_pos h1] at e ⊢;§t70 e
 ·rw[if_neg h1] at e ⊢
  by_cases h2:k - d < i/\i<=k
  ·rw[if_pos h2] at e ⊢;§t70 e
  ·rw[if_neg h2] at e ⊢;§t70 e
÷Up.more(h:Up O key p n)(h1:1<=n)(hl:O.kle (kk O key p (n - 1)) (kk O key p n)):Up O key p (n + 1):=by
 intro i j hij hj
 by_cases e:j=n
 ·subst e
  by_cases e2:i=j
  ·subst e2;§Ç3 _
  ·§Ú2 (h i (j - 1) (by omega) (by omega)) hl
 ·§h i j hij (by omega)
÷Dn.more(h:Dn O key p n)(h1:1<=n)(hl:O.kle (kk O key p n) (kk O key p (n - 1))):Dn O key p (n + 1):=by
 intro i j hij hj
 by_cases e:j=n
 ·subst e
  by_cases e2:i=j
  ·subst e2;§Ç3 _
  ·§Ú2 hl (h i (j - 1) (by omega) (by omega))
 ·§h i j hij (by omega)
÷t41:∀ (f n:Nat),1<=n->Up O key p n ->
  n<=run (k80 O key) (È0 p f n)/\run (k80 O key) (È0 p f n)<=n + f/\Up O key p (run (k80 O key) (È0 p f n)) /\
   (run (k80 O key) (È0 p f n) < n + f->O.klt (kk O key p (run (k80 O key) (È0 p f n))) (kk O key p (run (k80 O key) (È0 p f n) - 1)))
 |0,n,h1,hu=>⟨Í _,Í _,hu,λh=>absurd h (Á4 _)⟩
 |f + 1,n,h1,hu=>by
  show n<=run _ (if O.blt (kk O key p n) (kk O key p (n - 1))=true then Ò7 n else È0 p f (n + 1))/\run _ (if O.blt (kk O key p n) (kk O key p (n - 1))=true then Ò7 n else È0 p f (n + 1))<=n + (f + 1) /\
   Up O key p (run _ (if O.blt (kk O key p n) (kk O key p (n - 1))=true then Ò7 n else È0 p f (n + 1))) /\
   (run _ (if O.blt (kk O key p n) (kk O key p (n - 1))=true then Ò7 n else È0 p f (n + 1)) < n + (f + 1) ->
    O.klt (kk O key p (run _ (if O.blt (kk O key p n) (kk O key p (n - 1))=true then Ò7 n else È0 p f (n + 1)))) (kk O key p (run _ (if O.blt (kk O key p n) (kk O key p (n - 1))=true then Ò7 n else È0 p f (n + 1)) - 1)))
  cases hb:O.blt (kk O key p n) (kk O key p (n - 1)) with
  |true =>
   simp only[if_true]
   §⟨Í _,by show n<=n + (f + 1);omega,hu,λ_=>hb⟩
  |false =>
   simp only[Ã4,if_false]
   have ih:=t41 f (n + 1) (by omega) (hu.more h1 hb)
   ¤⟨by omega,by omega,ih.2.2.1,λh=>ih.2.2.2 (by omega)⟩
÷rev_eq(hj:j<=p.size)(he:∀ k,i<=k->k < j->kk O key p k=kk O key p (j - 1))(k:Nat):kk O key (Ç9 p i j) k=kk O key p k:=by
 rw[t31 hj]
 split
 ·rw[he _ (by omega) (by omega),he k (by omega) (by omega)]
 ·rfl
÷K00(p:Array Nat)(i j:Nat):(Ç9 p i j).Perm p:=mirror_perm _ _ _ _
÷K10(p:Array Nat)(i j:Nat):(Ç9 p i j).size=p.size:=mirror_size _ _ _ _
structure DnR(O:KeyOrd)(key:Nat->O.α)(p0 p:Array Nat)(n q:Nat):Prop where
 perm:p.Perm p0
 size:p.size=p0.size
 pos:q + 1<=n
 dn:Dn O key p n
 eq:∀ k,n - (q + 1)<=k->k < n->kk O key p k=kk O key p (n - 1)
÷DnR.rev(h:DnR O key p0 p n q)(hn:n<=p0.size):DnR O key p0 (Ç9 p (n - (q + 1)) n) n q:=by
 have hz:=h.size
 have e:=rev_eq (O:=O) (key:=key) (i:=n - (q + 1)) (j:=n) (p:=p) (by omega) h.eq
 §⟨(K00 _ _ _).trans h.perm,(K10 _ _ _).trans hz,h.pos,λi j hij hj=>by rw[e,e];§h.dn i j hij hj,λk h1 h2=>by rw[e,e];§h.eq k h1 h2⟩
÷Z00:∀ (f:Nat) (p:Array Nat) (n q:Nat),DnR O key p0 p n q->n + f<=p0.size ->
  n<=(run (k80 O key) (Ã2 f p n q)).2.1/\(run (k80 O key) (Ã2 f p n q)).2.1<=n + f /\
   DnR O key p0 (run (k80 O key) (Ã2 f p n q)).1 (run (k80 O key) (Ã2 f p n q)).2.1 (run (k80 O key) (Ã2 f p n q)).2.2
 |0,p,n,q,h,_=>⟨Í _,Í _,h⟩
 |f + 1,p,n,q,h,hn=>by
  have hp:=h.pos
  have hz:=h.size
  have unf:run (k80 O key) (Ã2 (f + 1) p n q)=run (k80 O key) (if O.blt (kk O key p n) (kk O key p (n - 1))=true then(if q > 0 then Ã2 f (Ç9 p (n - (q + 1)) n) (n + 1) 0 else Ã2 f p (n + 1) 0)
   else .ask (p.getD (n - 1) 0) (p.getD n 0) λd=>if d=true then .ret (p,n,q) else Ã2 f p (n + 1) (q + 1)):=rfl
  rw[unf]
  cases hb:O.blt (kk O key p n) (kk O key p (n - 1)) with
  |true =>
   simp only[if_true]
   have go:∀ p',DnR O key p0 p' n q->(∀ k,kk O key p' k=kk O key p k)->n<=(run (k80 O key) (Ã2 f p' (n + 1) 0)).2.1/\(run (k80 O key) (Ã2 f p' (n + 1) 0)).2.1<=n + (f + 1) /\
     DnR O key p0 (run (k80 O key) (Ã2 f p' (n + 1) 0)).1 (run (k80 O key) (Ã2 f p' (n + 1) 0)).2.1 (run (k80 O key) (Ã2 f p' (n + 1) 0)).2.2:=λp' h' e=>by
    have ih:=Z00 f p' (n + 1) 0 ⟨h'.perm,h'.size,by omega,h'.dn.more (by omega) (by rw[e,e];§Ï9 hb),λk h1 h2=>by
     have:k=n:=by omega
     subst this;rfl⟩ (by omega)
    §⟨by omega,by omega,ih.2.2⟩
   split
   ·§go _ (h.rev (by omega)) (rev_eq (by omega) h.eq)
   ·§go _ h λ_=>rfl
  |false =>
   simp only[Ã4,if_false]
   have unf2:run (k80 O key) (KasT.ask (p.getD (n - 1) 0) (p.getD n 0) λd=>if d=true then .ret (p,n,q) else Ã2 f p (n + 1) (q + 1)) =
    run (k80 O key) (if O.blt (kk O key p (n - 1)) (kk O key p n)=true then .ret (p,n,q) else Ã2 f p (n + 1) (q + 1)):=rfl
   rw[unf2]
   cases hc:O.blt (kk O key p (n - 1)) (kk O key p n) with
   |true =>
    simp only[if_true]
    §⟨Í _,by show n<=n + (f + 1);omega,h⟩
   |false =>
    simp only[Ã4,if_false]
    have e:kk O key p n=kk O key p (n - 1):=O.total _ _ hb hc
    have ih:=Z00 f p (n + 1) (q + 1) ⟨h.perm,h.size,by omega,h.dn.more (by omega) (by rw[e];§Ç3 _),λk h1 h2=>by
     show _=kk O key p n
     by_cases hk:k=n
     ·rw[hk]
     ·rw[e];§h.eq k (by omega) (by omega)⟩ (by omega)
    §⟨by omega,by omega,ih.2.2⟩
structure F62(O:KeyOrd)(key:Nat->O.α)(p0:Array Nat)(nrem:Nat)(r:Nat × Array Nat):Prop where
 perm:r.2.Perm p0
 size:r.2.size=p0.size
 lo:1<=r.1
 hi:r.1<=nrem
 up:Up O key r.2 r.1
÷e81(hp:p.Perm p0)(hz:p.size=p0.size)(hd:Dn O key p n)(h1:1<=n)(hn:n<=nrem)(hr:nrem<=p0.size):F62 O key p0 nrem (run (k80 O key) (kas_tail3 n nrem p)):=by
 unfold kas_tail3
 rw[run_bind]
 have hu:Up O key (Ç9 p 0 n) n:=λi j hij hj=>by
  rw[t31 (by omega),t31 (by omega),if_pos (by omega),if_pos (by omega)]
  §hd _ _ (by omega) (by omega)
 have a:=t41 (O:=O) (key:=key) (p:=Ç9 p 0 n) (nrem - n) n h1 hu
 §⟨(K00 _ _ _).trans hp,(K10 _ _ _).trans hz,by show 1<=run _ (È0 _ _ _);omega,by show run _ (È0 _ _ _)<=_;omega,a.2.2.1⟩
÷B70(hp:p.Perm p0)(hz:p.size=p0.size)(hd:Dn O key p (n + 1))(hn:n + 1<=nrem)(hr:nrem<=p0.size):F62 O key p0 nrem (run (k80 O key) (Ð6 n nrem p)):=by
 unfold Ð6
 rw[run_bind]
 have d:=Z00 (O:=O) (key:=key) (p0:=p0) (nrem - (n + 1)) p (n + 1) 0 ⟨hp,hz,by omega,hd,λk h1 h2=>by
  have:k=n:=by omega
  subst this;rfl⟩ (by omega)
 ¶⟨d1,d2,d3⟩:=d
 have hpos:=d3.pos
 split
 ·have d4:=d3.rev (by omega)
  §e81 d4.perm d4.size d4.dn (by omega) (by omega) hr
 ·§e81 d3.perm d3.size d3.dn (by omega) (by omega) hr
÷K31(h1:1<=nrem)(hr:nrem<=p.size):F62 O key p nrem (run (k80 O key) (ß5 nrem p)):=by
 unfold ß5
 rw[run_bind]
 have a:=t41 (O:=O) (key:=key) (p:=p) (nrem - 1) 1 (Í _) (λi j hij hj=>by
  have:i=j:=by omega
  subst this;§Ç3 _)
 generalize run (k80 O key) (È0 p (nrem - 1) 1)=n at a ⊢
 ¶⟨a1,a2,a3,a4⟩:=a
 split
 ·§⟨Ì3 _,rfl,a1,by show n<=nrem;omega,a3⟩
 ·rename_i hne
  have hlt:n < nrem:=by
   have:n≠nrem:=by simpa using hne
   omega
  have hl:=a4 (by omega)
  split
  ·rename_i h2
   have unf:run (k80 O key) (KasT.ask (p.getD 0 0) (p.getD (n - 1) 0) λc=>if c=true then .ret (n,p) else Ð6 n nrem (Ç9 p 0 n)) =
    run (k80 O key) (if O.blt (kk O key p 0) (kk O key p (n - 1))=true then .ret (n,p) else Ð6 n nrem (Ç9 p 0 n)):=rfl
   rw[unf]
   cases hb:O.blt (kk O key p 0) (kk O key p (n - 1)) with
   |true =>
    simp only[if_true]
    §⟨Ì3 _,rfl,a1,by show n<=nrem;omega,a3⟩
   |false =>
    simp only[Ã4,if_false]
    have e0:kk O key p 0=kk O key p (n - 1):=O.total _ _ hb (a3 0 (n - 1) (by omega) (by omega))
    have e:∀ k,0<=k->k < n->kk O key p k=kk O key p (n - 1):=λk _ hk=>by
     ¤KeyOrd.kle_antisymm (a3 k (n - 1) (by omega) (by omega)) ?_
     rw[← e0];§a3 0 k (by omega) hk
    have er:=rev_eq (O:=O) (key:=key) (i:=0) (j:=n) (p:=p) (by omega) e
    ¤B70 (K00 _ _ _) (K10 _ _ _) ?_ (by omega) hr
    have dn:Dn O key (Ç9 p 0 n) n:=λi j hij hj=>by
     rw[er,er,e i (by omega) (by omega),e j (by omega) (by omega)];§Ç3 _
    ¤dn.more a1 ?_
    rw[er,er];§Ï9 hl
  ·have h2:n=1:=by omega
   subst h2
   ¤B70 (Ì3 _) rfl ?_ (by omega) hr
   have dn:Dn O key p 1:=λi j hij hj=>by
    have:i=j:=by omega
    subst this;§Ç3 _
   §dn.more (Í _) (Ï9 hl)
÷K20(hu:Up O key p k):∀ (f l r:Nat),l<=r->r<=k->r - l<=f->(∀ i,i < l->O.kle (kk O key p i) (kk O key p k))->(∀ i,r<=i->i < k->O.klt (kk O key p k) (kk O key p i)) ->
  run (k80 O key) (Ä5 p k f l r)<=k/\(∀ i,i < run (k80 O key) (Ä5 p k f l r)->O.kle (kk O key p i) (kk O key p k))/\(∀ i,run (k80 O key) (Ä5 p k f l r)<=i->i < k->O.klt (kk O key p k) (kk O key p i))
 |0,l,r,h1,h2,h3,h4,h5=>by
  have:l=r:=by omega
  subst this
  §⟨h2,h4,h5⟩
 |f + 1,l,r,h1,h2,h3,h4,h5=>by
  have unf:Ä5 p k (f + 1) l r=(if l ≥ r then .ret l else .ask (p.getD k 0) (p.getD ((l + r) / 2) 0) λc=>if c=true then Ä5 p k f l ((l + r) / 2) else Ä5 p k f ((l + r) / 2 + 1) r):=rfl
  rw[unf]
  by_cases hlr:l ≥ r
  ·rw[if_pos hlr]
   have:l=r:=by omega
   subst this
   §⟨h2,h4,h5⟩
  ·rw[if_neg hlr]
   have unf2:run (k80 O key) (KasT.ask (p.getD k 0) (p.getD ((l + r) / 2) 0) λc=>if c=true then Ä5 p k f l ((l + r) / 2) else Ä5 p k f ((l + r) / 2 + 1) r) =
    run (k80 O key) (if O.blt (kk O key p k) (kk O key p ((l + r) / 2))=true then Ä5 p k f l ((l + r) / 2) else Ä5 p k f ((l + r) / 2 + 1) r):=rfl
   rw[unf2]
   cases hb:O.blt (kk O key p k) (kk O key p ((l + r) / 2)) with
   |true =>
    simp only[if_true]
    §K20 hu f l ((l + r) / 2) (by omega) (by omega) (by omega) h4 λi hi hk=>KeyOrd.klt_of_klt_of_kle hb (hu _ i hi hk)
   |false =>
    simp only[Ã4,if_false]
    §K20 hu f ((l + r) / 2 + 1) r (by omega) (by omega) (by omega) (λi hi=>Ú2 (hu i ((l + r) / 2) (by omega) (by omega)) hb) h5
÷T91:∀ (f:Nat) (p:Array Nat) (k:Nat),p.Perm p0->p.size=p0.size->Up O key p k->k + f<=p0.size ->
  (run (k80 O key) (kas_bin f p k)).Perm p0/\Up O key (run (k80 O key) (kas_bin f p k)) (k + f)
 |0,p,k,hp,_,hu,_=>⟨hp,hu⟩
 |f + 1,p,k,hp,hz,hu,hk=>by
  have unf:kas_bin (f + 1) p k=(Ä5 p k k 0 k).bind λl=>kas_bin f (bubble p k (k - l)) (k + 1):=rfl
  rw[unf,run_bind]
  have pl:=K20 (O:=O) (key:=key) hu k 0 k (by omega) (by omega) (by omega) (λi hi=>absurd hi (Ö2 _)) (λi h1 h2=>absurd h2 (by omega))
  generalize run (k80 O key) (Ä5 p k k 0 k)=l at pl ⊢
  ¶⟨l1,l2,l3⟩:=pl
  have hb:=p52 (O:=O) (key:=key) (p:=p) (k:=k) (d:=k - l) (by omega) (by omega)
  have hu':Up O key (bubble p k (k - l)) (k + 1):=λi j hij hj=>by
   rw[hb,hb]
   have el:k - (k - l)=l:=by omega
   rw[el]
   by_cases ei:i=l
   ·rw[if_pos ei]
    by_cases ej:j=l
    ·rw[if_pos ej];§Ç3 _
    ·rw[if_neg ej,if_pos (by omega)]
     §Ï9 (l3 _ (by omega) (by omega))
   ·rw[if_neg ei]
    by_cases hi:l < i/\i<=k
    ·rw[if_pos hi,if_neg (by omega),if_pos (by omega)]
     §hu _ _ (by omega) (by omega)
    ·rw[if_neg hi]
     by_cases ej:j=l
     ·rw[if_pos ej];§l2 _ (by omega)
     ·rw[if_neg ej]
      by_cases hj':l < j/\j<=k
      ·rw[if_pos hj'];§hu _ _ (by omega) (by omega)
      ·rw[if_neg hj'];§hu _ _ hij (by omega)
  have ih:=T91 (p0:=p0) f (bubble p k (k - l)) (k + 1) ((bubble_perm _ _ _).trans hp) ((bubble_size _ _ _).trans hz) hu' (by omega)
  §⟨ih.1,by have:=ih.2;rwa [show k + 1 + f=k + (f + 1) by omega] at this⟩
÷a32(h1:1<=n):(run (k80 O key) (Ñ6 n)).Perm (í n).toArray/\Up O key (run (k80 O key) (Ñ6 n)) n:=by
 unfold Ñ6
 rw[run_bind]
 have c:=K31 (O:=O) (key:=key) (p:=(í n).toArray) h1 (by simp)
 generalize run (k80 O key) (ß5 n (í n).toArray)=r at c ⊢
 ¶⟨c1,c2,c3,c4,c5⟩:=c
 split
 ·have b:=T91 (O:=O) (key:=key) (n - max r.1 1) r.2 (max r.1 1) c1 c2 (by rw[Nat.max_eq_left c3];§c5) (by simp;omega)
  §⟨b.1,by have:=b.2;rwa [show max r.1 1 + (n - max r.1 1)=n by omega] at this⟩
 ·have:r.1=n:=by omega
  rw[this] at c5
  §⟨c1,c5⟩
end
def n50{α:Type}(n:Nat):KasT α->Prop
 |.ret _=>True
 |.ask i j k=>(i < n/\j < n)/\∀ b,n50 n (k b)
def R80{α:Type}(G:α->Prop):KasT α->Prop
 |.ret a=>G a
 |.ask _ _ k=>∀ b,R80 G (k b)
÷n50.bind{α β:Type}{n:Nat}{f:α->KasT β}{G:α->Prop}(hf:∀ a,G a->n50 n (f a)):∀ {t:KasT α},n50 n t->R80 G t->n50 n (t.bind f)
 |.ret a,_,g=>hf a g
 |.ask _ _ _,h,g=>⟨h.1,λb=>n50.bind hf (h.2 b) (g b)⟩
÷R80.bind{α β:Type}{f:α->KasT β}{G:α->Prop}{G':β->Prop}(hf:∀ a,G a->R80 G' (f a)):∀ {t:KasT α},R80 G t->R80 G' (t.bind f)
 |.ret a,g=>hf a g
 |.ask _ _ _,g=>λb=>R80.bind hf (g b)
def Low(n:Nat)(p:Array Nat):Prop:=∀ i,p.getD i 0 < n
÷t51(h1:1<=n)(hp:p.Perm q)(hq:∀ x∈q.toList,x < n):Low n p:=λi=>by
 by_cases hi:i < p.size
 ·have e:p.getD i 0=p[i]:=by simp[getD,hi]
  rw[e]
  §hq _ (hp.toList.mem_iff.mp (by simp))
 ·have e:p.getD i 0=0:=by simp[getD,hi]
  rw[e];§h1
structure Good(n:Nat)(q p:Array Nat):Prop where
 low:Low n p
 perm:p.Perm q
÷Good.rev(h1:1<=n)(hq:∀ x∈q.toList,x < n)(g:Good n q p)(i j:Nat):Good n q (Ç9 p i j) :=
 have e:=(mirror_perm p i j ((j - i) / 2)).trans g.perm
 ⟨t51 h1 e hq,e⟩
÷Good.bub(h1:1<=n)(hq:∀ x∈q.toList,x < n)(g:Good n q p)(i j:Nat):Good n q (bubble p i j) :=
 have e:=(bubble_perm p i j).trans g.perm
 ⟨t51 h1 e hq,e⟩
section
variable {n:Nat}{q:Array Nat}
÷K30(g:Low n p):∀ (f k:Nat),n50 n (È0 p f k)
 |0,_=>trivial
 |f + 1,k=>⟨⟨g _,g _⟩,λb=>by cases b with | true=>§trivial | false=>§K30 g f (k + 1)⟩
÷t80:∀ (f k:Nat),R80 (λ_=>True) (È0 p f k)
 |0,_=>trivial
 |f + 1,k=>λb=>by cases b with | true=>§trivial | false=>§t80 f (k + 1)
÷B80(h1:1<=n)(hq:∀ x∈q.toList,x < n):∀ (f:Nat) (p:Array Nat) (k c:Nat),Good n q p->n50 n (Ã2 f p k c)/\R80 (λr=>Good n q r.1) (Ã2 f p k c)
 |0,p,k,c,g=>⟨trivial,g⟩
 |f + 1,p,k,c,g=>by
  have a:=λp' k' c' g'=>(B80 h1 hq f p' k' c' g').1
  have r:=λp' k' c' g'=>(B80 h1 hq f p' k' c' g').2
  ¤⟨⟨⟨g.low _,g.low _⟩,λb=>?_⟩,λb=>?_⟩
  ·cases b with
   |true =>
    show n50 n (if c > 0 then Ã2 f (Ç9 p (k - (c + 1)) k) (k + 1) 0 else Ã2 f p (k + 1) 0)
    split
    ·§a _ _ _ (g.rev h1 hq _ _)
    ·§a _ _ _ g
   |false=>§⟨⟨g.low _,g.low _⟩,λd=>by cases d with | true=>§trivial | false=>§a _ _ _ g⟩
  ·cases b with
   |true =>
    show R80 _ (if c > 0 then Ã2 f (Ç9 p (k - (c + 1)) k) (k + 1) 0 else Ã2 f p (k + 1) 0)
    split
    ·§r _ _ _ (g.rev h1 hq _ _)
    ·§r _ _ _ g
   |false=>§λd=>by cases d with | true=>§g | false=>§r _ _ _ g
÷p50(h1:1<=n)(hq:∀ x∈q.toList,x < n)(g:Good n q p)(k m:Nat):n50 n (kas_tail3 k m p)/\R80 (λr=>Good n q r.2) (kas_tail3 k m p) :=
 have g':=g.rev h1 hq 0 k
 And.intro (n50.bind (f:=λm'=>Ò7 (m',Ç9 p 0 k)) (λ_ _=>Ê6) (K30 g'.low (m - k) k) (t80 (m - k) k)) (R80.bind (f:=λm'=>Ò7 (m',Ç9 p 0 k)) (G':=λr=>Good n q r.2) (λ_ _=>g') (t80 (m - k) k))
÷h60(h1:1<=n)(hq:∀ x∈q.toList,x < n)(g:Good n q p)(k m:Nat):n50 n (Ð6 k m p)/\R80 (λr=>Good n q r.2) (Ð6 k m p):=by
 have d:=B80 h1 hq (m - (k + 1)) p (k + 1) 0 g
 ¤⟨n50.bind (λr gr=>?_) d.1 d.2,R80.bind (λr gr=>?_) d.2⟩
 ·split
  ·§(p50 h1 hq (gr.rev h1 hq _ _) _ _).1
  ·§(p50 h1 hq gr _ _).1
 ·split
  ·§(p50 h1 hq (gr.rev h1 hq _ _) _ _).2
  ·§(p50 h1 hq gr _ _).2
÷m31(h1:1<=n)(hq:∀ x∈q.toList,x < n)(g:Good n q p)(m:Nat):n50 n (ß5 m p)/\R80 (λr=>Good n q r.2) (ß5 m p):=by
 ¤⟨n50.bind (λk _=>?_) (K30 g.low _ _) (t80 _ _),R80.bind (λk _=>?_) (t80 _ _)⟩
 ·split
  ·§trivial
  ·split
   ·§⟨⟨g.low _,g.low _⟩,λb=>by cases b with | true=>§trivial | false=>§(h60 h1 hq (g.rev h1 hq _ _) _ _).1⟩
   ·§(h60 h1 hq g _ _).1
 ·split
  ·§g
  ·split
   ·§λb=>by cases b with | true=>§g | false=>§(h60 h1 hq (g.rev h1 hq _ _) _ _).2
   ·§(h60 h1 hq g _ _).2
÷i10(g:Low n p)(k:Nat):∀ (f l r:Nat),n50 n (Ä5 p k f l r)/\R80 (λ_=>True) (Ä5 p k f l r)
 |0,_,_=>⟨trivial,trivial⟩
 |f + 1,l,r=>by
  have e:Ä5 p k (f + 1) l r=(if l ≥ r then .ret l else .ask (p.getD k 0) (p.getD ((l + r) / 2) 0) λc=>if c=true then Ä5 p k f l ((l + r) / 2) else Ä5 p k f ((l + r) / 2 + 1) r):=rfl
  rw[e]
  split
  ·§⟨trivial,trivial⟩
  ·¤⟨⟨⟨g _,g _⟩,λb=>?_⟩,λb=>?_⟩
   ·cases b with
    |true=>§(i10 g k f _ _).1
    |false=>§(i10 g k f _ _).1
   ·cases b with
    |true=>§(i10 g k f _ _).2
    |false=>§(i10 g k f _ _).2
÷e91(h1:1<=n)(hq:∀ x∈q.toList,x < n):∀ (f:Nat) (p:Array Nat) (k:Nat),Good n q p->n50 n (kas_bin f p k)
 |0,_,_,_=>trivial
 |f + 1,p,k,g=>n50.bind (λl _=>e91 h1 hq f _ _ (g.bub h1 hq _ _)) (i10 g.low k k 0 k).1 (i10 g.low k k 0 k).2
÷t61(h1:1<=n):n50 n (Ñ6 n):=by
 have hq:∀ x∈((í n).toArray).toList,x < n:=λx hx=>by simpa using hx
 have g:Good n (í n).toArray (í n).toArray:=⟨t51 h1 (Ì3 _) hq,Ì3 _⟩
 have c:=m31 h1 hq g n
 ¤n50.bind (λr gr=>?_) c.1 c.2
 split
 ·§e91 h1 hq _ _ _ gr
 ·§trivial
end
÷R90{α:Type}{n:Nat}{cmp:Nat->Nat->Bool}{ask:Nat->Nat->(Bool->Æ->Prop)->Æ->Prop}{s:Æ}(h:∀ i j (C:Bool->Æ->Prop),i < n->j < n->C (cmp i j) s->ask i j C s){Q:α->Æ->Prop} :
  ∀ (t:KasT α),n50 n t->Q (run cmp t) s->t.kasWp ask Q s
 |.ret _,_,q=>q
 |.ask i j k,a,q=>h i j _ a.1.1 a.1.2 (R90 h (k (cmp i j)) (a.2 _) q)
def h70:List Int->List Int->Bool
 |[],[]=>false
 |[],_::_=>true
 |_::_,[]=>false
 |x::r,y::q=>if x=y then h70 r q else decide (x < y)
÷r80:∀ a,h70 a a=false
 |[]=>rfl
 |x::r=>by show(if x=x then h70 r r else _)=_;rw[if_pos rfl];§r80 r
÷p60:∀ a b c,h70 a b=true->h70 b c=true->h70 a c=true
 |[],[],_,h,_=>by cases h
 |[],_::_,[],_,h=>by cases h
 |[],_::_,_::_,_,_=>rfl
 |_::_,[],_,h,_=>by cases h
 |_::_,_::_,[],_,h=>by cases h
 |x::a,y::b,z::c,h1,h2=>by
  have h1:(if x=y then h70 a b else decide (x < y))=true:=h1
  have h2:(if y=z then h70 b c else decide (y < z))=true:=h2
  show(if x=z then h70 a c else decide (x < z))=true
  by_cases e1:x=y
  ·rw[if_pos e1] at h1
   by_cases e2:y=z
   ·rw[if_pos e2] at h2
    rw[if_pos (e1.trans e2)]
    §p60 a b c h1 h2
   ·rw[if_neg e2] at h2
    rw[if_neg (by omega)]
    rw[e1];§h2
  ·rw[if_neg e1] at h1
   have l1:x < y:=by simpa using h1
   by_cases e2:y=z
   ·rw[if_neg (by omega)];§decide_eq_true (by omega)
   ·rw[if_neg e2] at h2
    have l2:y < z:=by simpa using h2
    rw[if_neg (by omega)];§decide_eq_true (by omega)
÷p70:∀ a b,h70 a b=false->h70 b a=false->a=b
 |[],[],_,_=>rfl
 |[],_::_,h,_=>by cases h
 |_::_,[],_,h=>by cases h
 |x::a,y::b,h1,h2=>by
  have h1:(if x=y then h70 a b else decide (x < y))=false:=h1
  have h2:(if y=x then h70 b a else decide (y < x))=false:=h2
  by_cases e:x=y
  ·subst e
   rw[if_pos rfl] at h1 h2
   rw[p70 a b h1 h2]
  ·rw[if_neg e] at h1
   rw[if_neg (Â3 e)] at h2
   have l1:¬ x < y:=by simpa using h1
   have l2:¬ y < x:=by simpa using h2
   omega
÷f01(a b c:List Int)(h:h70 a c=true):h70 a b=true∨h70 b c=true:=by
 cases hab:h70 a b with
 |true=>§.inl rfl
 |false =>
  right
  cases hba:h70 b a with
  |true=>§p60 b a c hba h
  |false=>rw[← p70 a b hab hba];§h
def a42:KeyOrd:=⟨List Int,h70,r80,p60,f01,p70⟩
section
variable {P:ß}{w:è}{A:ø}{E:Ä->Æ->Prop}{s:Æ}
def sortedBy(ks:List (List Int))(p:List Nat):Prop:=p.Perm (í ks.length)/\(p.map λi=>ks.getD i []).Pairwise λx y=>h70 y x=false
÷range_getD(d:α):∀ (l:List α),(í l.length).map (λi=>l.getD i d)=l:=λl=>by
 ¤ext_getElem (by simp) λi h1 h2=>?_
 simp at h1
 simp[h1]
def F72(P:ß)(w:è)(A:ø)(s:Æ)(vs:List Ä)(Pr:List Nat->Prop)(kd:Ì6):Prop:=∃ p:List Nat,Pr p/\∀ (E:Ä->Æ->Prop) (Q:Unit × Â7->Æ->Prop),(∀ st',failedOf st'=none->arrOf st'=(p.toArray).map (õ (vs.toArray.zip vs.toArray))->Q ((),st') s)->Ï (Ô P w) A (sortRuns'.run (Ì1 kd (vs.toArray.zip vs.toArray) #[] 7 none)) Q E s
structure l02(P:Program)(w:World)(A:Around)(s:Shared)(vs:List Value)(Pr:List Nat->Prop)(kd:SortKind):Prop where
 len:vs.length<=1000
 few:vs.length < 2->Pr (range vs.length)
 all:∀ p,Pr p->p.length=vs.length
 kind:2<=vs.length->∀ (E:Value->Shared->Prop) (Q:SortKind->Shared->Prop),Q kd s->wpAny (model P w) A (keyKind' vs.toArray) Q E s
 run:2<=vs.length->F72 P w A s vs Pr kd
÷p62(hl:n=ks.length)(h2:n < 2):sortedBy ks (í n):=by
 subst hl
 ¤⟨.refl _,?_⟩
 rw[range_getD]
 match ks,h2 with
 |[],_=>§.nil
 |[_],_=>simp
 |_::_::_,q=>simp at q;omega
÷a52{vs:List Ä}{ks:List (List Int)}{kd:Ì6}(hlen:vs.length=ks.length)(h64:vs.length < 64)(ask:∀ i j,i < vs.length->j < vs.length->∀ (E:Ä->Æ->Prop) (C:Bool->Æ->Prop),C (h70 (ks.getD i []) (ks.getD j [])) s->Ï (Ô P w) A (keyLt' kd (vs.getD i â) (vs.getD j â)) C E s)(h2':2<=vs.length):F72 P w A s vs (sortedBy ks) kd:=by
 have so:=a32 (O:=a42) (key:=λi=>ks.getD i []) (n:=vs.length) (by omega)
 ¤⟨(run (k80 a42 λi=>ks.getD i []) (Ñ6 vs.length)).toList,?_,λE Q q=>?_⟩
 ·generalize run (k80 a42 λi=>ks.getD i []) (Ñ6 vs.length)=p at so
  ¤⟨?_,?_⟩
  ·have:=so.1.toList;rw[hlen] at this;simpa using this
  ·rw[List.pairwise_iff_getElem]
   intro i j hi hj hij
   have hsz:p.size=vs.length:=by have:=so.1.size_eq;simpa using this
   have hi':i < p.size:=by simpa using hi
   have hj':j < p.size:=by simpa using hj
   have u:=so.2 i j (É3 hij) (by omega)
   have g:∀ k,k < p.size->kk a42 (λi=>ks.getD i []) p k=ks.getD (p.toList.getD k 0) []:=λk hk=>by show ks.getD (p.getD k 0) []=_;rw[Î0,Ö (l:=p.toList),ô]
   have u':h70 (ks.getD (p.toList.getD j 0) []) (ks.getD (p.toList.getD i 0) [])=false:=by
    have:=u;unfold KeyOrd.kle at this;rw[g i hi',g j hj'] at this;§this
   simpa [hi',hj'] using u'
 ·¤Â1 (kat_run (s:=s) (Q:=λst' s'=>s'=s/\failedOf st'=none/\arrOf st'=(run (k80 a42 λi=>ks.getD i []) (Ñ6 vs.length)).map (õ (vs.toArray.zip vs.toArray)))
   (G:=λp s'=>s'=s/\p=run (k80 a42 λi=>ks.getD i []) (Ñ6 vs.length)) rfl h2' h64 (λp st' s' a1 a2 a3 a4=>⟨a4.1,a3,by rw[a2,a4.2]⟩)
   (R90 (n:=vs.length) (cmp:=k80 a42 λi=>ks.getD i []) (λi j C hi hj hC=>ask i j hi hj _ C hC) (Ñ6 vs.length) (t61 (by omega)) ⟨rfl,rfl⟩)) ?_ λ_ _ e=>e
  rintro ⟨⟨⟩,st'⟩ s' ⟨hs',hf,har⟩
  subst hs'
  §q st' hf har
def t71(h h':ì):Prop:=∀ b o,h.get? b=some o->o.cls=.type "tuple"->h'.get? b=some o
÷f11{a:Ç}{vs:List Ä}{Pr:List Nat->Prop}{kd:Ì6}{n:Nat}{R:PySem.Fin->Æ->Prop}(ho:s.heap.get? a=some (Ã1 "list" vs.toArray n))(hk:∀ h',t71 s.heap h'->l02 P w A { s with heap:=h' } vs Pr kd)
  (h:∀ (p:List Nat) (h':ì) (c:Nat),Pr p->(∀ b o,b≠a->s.heap.get? b=some o->h'.get? b=some o)->h'.get? a=some (Ã1 "list" (p.map λi=>vs.getD i â).toArray c)->R (.done (.ret .none)) { s with heap:=h' }) :
  Ï (Ô P w) A (ÿ.«list.sort» ⟨[.ref a],[]⟩) R E s:=by
 have ha:a < s.heap.objs.size:=à ho
 have h64:=(hk s.heap λ_ _ e _=>e).len
 have s1:=Æ2 s.heap a (À1 λ_=>(#[]:Array Ä))
 obtain⟨e1,ho1⟩:∃ e1,(s.heap.update a (À1 λ_=>(#[]:Array Ä))).get? a=some (Ã1 "list" #[] e1):=⟨_,à9 ho λ_=>#[]⟩
 have kp:∀ b o,b≠a->s.heap.get? b=some o->(((s.heap.update a (À1 λ_=>(#[]:Array Ä))).push (Ã1 "tuple" vs.toArray 0)).push (Ã1 "list" #[] 0)).get? b=some o:=λb o hb e=>Ã _ (Ã _ ((s1.2 b hb).trans e))
 have ho6:(((s.heap.update a (À1 λ_=>(#[]:Array Ä))).push (Ã1 "tuple" vs.toArray 0)).push (Ã1 "list" #[] 0)).get? a=some (Ã1 "list" #[] e1):=Ã _ (Ã _ ho1)
 have hk6:=hk (((s.heap.update a (À1 λ_=>(#[]:Array Ä))).push (Ã1 "tuple" vs.toArray 0)).push (Ã1 "list" #[] 0)) (λb o e hc=>kp b o (λq=>by subst q;rw[ho] at e;cases e;have hc':Á6 "list"=Á6 "tuple":=hc;injection hc' with hc';§absurd hc' (by decide)) e)
 rw[list_sort_plain];¤À (Ð5 ho rfl (À (Û7 ho rfl ?_ (by rw[Ó,Á2];omega) (Æ1 _))))
 ¤À (seqEpoch_at ho1 rfl (À (wpAny_newTuple ?_ (by show vs.length<=_;rw[Á2];omega))));¤À (Û6 (À7 ?_) (Æ1 _))
 show Ï (Ô P w) A _ R E { s with heap:=((s.heap.update a (À1 λ_=>(#[]:Array Ä))).push (Ã1 "tuple" vs.toArray 0)).push (Ã1 "list" #[] 0) }
 generalize hH:((s.heap.update a (À1 λ_=>(#[]:Array Ä))).push (Ã1 "tuple" vs.toArray 0)).push (Ã1 "list" #[] 0)=h6 at kp ho6 hk6 ⊢
 have fin:∀ (p:List Nat) (out:Array Ä),out=(p.map λi=>vs.getD i â).toArray->Pr p->Ï (Ô P w) A (do
   let touched:=(← seqEpoch a) != e1
   ÿ.List.listUpdate (.ref a) λ_=>out
   if touched then rule "list.sort.modified";raiseError "ValueError" "list modified during sort"
   ret .none) R E { s with heap:=h6 }:=λp out eo hp=>by
  subst eo
  have hsz:(p.map λi=>vs.getD i â).toArray.size=vs.length:=by rw[Ó,É,(hk s.heap λ_ _ e _=>e).all p hp]
  have s2:=Æ2 h6 a (À1 λ_=>(p.map λi=>vs.getD i â).toArray)
  ¤À (seqEpoch_at ho6 rfl (À (Û7 ho6 rfl ?_ (Æ1 _) (Ñ (Ú8 hsz) (by rw[Á2];omega)))))
  simp only[bne_self_eq_false,Ã4,if_false]
  §Å (h p _ _ hp (λb o hb e=>(s2.2 b hb).trans (kp b o hb e)) (à9 ho6 λ_=>(p.map λi=>vs.getD i â).toArray))
 dsimp only
 by_cases h2:vs.toArray.size < 2
 ·rw[if_pos h2,if_pos h2];¤À (Å ?_);rw[StateT.run_pure];¤À (Å ?_);dsimp only
  ¤fin (í vs.length) _ ?_ ((hk s.heap λ_ _ e _=>e).few (by simpa using h2))
  rw[range_getD];apply Û2.mp;rw[Array.toList_map];show List.map _ (vs.toArray.zip vs.toArray).toList=vs;rw[ksk_zip];§List.map_snd_zip (Í _)
 ·rw[if_neg h2,if_neg h2]
  have h2':2<=vs.length:=by simpa using h2
  ¤À (hk6.kind h2' _ _ ?_)
  ¶⟨p,hp,hr⟩:=hk6.run h2'
  ¤À (hr _ _ λst' hf har=>?_)
  dsimp only
  rw[hf]
  §fin p _ (kat_snds rfl har) hp
end
end MySort
namespace TS
open PySem PySem.W PyProof.Rows
structure Tw where
 a:Array Nat
 pending:Array (Nat × Nat × Nat)
 minGallop:Nat
abbrev TM:=StateT Tw Option
section
variable (n:Nat) (cmp:Nat->Nat->Bool)
def ltT(x y:Nat):TM Bool:=if x < n/\y < n then pure (cmp x y) else λ_=>none
def t81(arr:Array Nat)(i:Nat):TM Nat:=match arr.toList[i]? with
 |some p=>pure p
 |none=>λ_=>none
def a62(i j:Nat):TM Bool:=do
 let a:=(← get).a
 ltT n cmp (← t81 a i) (← t81 a j)
def O92(i j:Nat):TM Unit:=modify λs=>{ s with a:=mirror s.a i j ((j - i) / 2) }
def mvL(a:Array Nat)(src dst:Nat):Array Nat:=⟨a.toList.take dst++((a.toList.drop src).take 1++((a.toList.take src).drop dst++a.toList.drop (src + 1)))⟩
÷p72(h:src < a.size)(h2:dst<=src):mvL a src dst=bubble a src (src - dst):=by
 apply Array.ext_getElem?
 intro k
 rw[getElem?_bubble h (src - dst) (by omega) k,show src - (src - dst)=dst by omega]
 have hl:src < a.toList.length:=h
 rw[← ô,← ô,← ô,← ô]
 show(a.toList.take dst++((a.toList.drop src).take 1++((a.toList.take src).drop dst++a.toList.drop (src + 1))))[k]?=_
 generalize a.toList=l at hl
 rw[Õ5,Õ5,Õ5,Æ7,Æ7,Í3,Í3,Æ7,show min dst l.length=dst by omega,show min 1 (l.length - src)=1 by omega,show min src l.length - dst=src - dst by omega,Ø2,Ø2,Ø3,Ø3,Ø3,Ø2]
 by_cases c1:k < dst
 ·rw[if_pos c1,if_pos c1,if_neg (by omega),if_neg (by omega)]
 ·rw[if_neg c1]
  by_cases c2:k=dst
  ·rw[if_pos (by omega),if_pos (by omega),if_pos c2,show src + (k - dst)=src by omega]
  ·rw[if_neg (by omega),if_neg c2]
   by_cases c3:k<=src
   ·rw[if_pos (by omega),if_pos (by omega),if_pos (by omega),show dst + (k - dst - 1)=k - 1 by omega]
   ·rw[if_neg (by omega),if_neg (by omega),show src + 1 + (k - dst - 1 - (src - dst))=k by omega]
def a72(src dst:Nat):TM Unit:=λt=>if src < t.a.size/\dst<=src then some ((),{ t with a:=mvL t.a src dst }) else none
end
section
variable {prog:ß}{w:è}{A:ø}{E:Ä->Æ->Prop}{s:Æ}{κ:Ì6}{it:Array Keyed}{n:Nat}{cmp:Nat->Nat->Bool}
def co(κ:Ì6)(it:Array Keyed)(t:Tw):SortSt:=Ì1 κ (t.a.map (õ it)) t.pending t.minGallop none
def Sim(prog:ß)(w:è)(A:ø)(E:Ä->Æ->Prop)(s:Æ)(κ:Ì6)(it:Array Keyed){α β:Type}(rel:β->α)(m:StateT Â7 Sem α)(f:TM β):Prop :=
 ∀ (t:Tw) (b:β) (t':Tw),f t=some (b,t')->∀ Q:α->Â7->Æ->Prop,Q (rel b) (co κ it t') s->kasC (Ô prog w) A E m Q (co κ it t) s
local macro_rules | `(tactic| trivial)=>`(tactic| skip)
section
variable {α β α' β':Type}{r:β->α}{r':β'->α'}
÷A10(b:β)(e:a=r b):Sim prog w A E s κ it r (pure a) (pure b):=λt b' t' h Q q=>by
 cases h
 subst e
 §kasC_pure q
÷l70(h:Sim prog w A E s κ it r m f)(hk:∀ b,Sim prog w A E s κ it r' (k (r b)) (g b)):Sim prog w A E s κ it r' (m >>= k) (f >>= g):=λt b t' e Q q=>by
 have e:(f t).bind (λx=>g x.1 x.2)=some (b,t'):=e
 ¶⟨⟨b1,t1⟩,e1,e2⟩:=Î.mp e
 §kasC_bind (h t b1 t1 e1 _ (hk b1 t1 b t' e2 Q q))
÷Z10:Sim prog w A E s κ it (co κ it) (get:StateT Â7 Sem Â7) (get:TM Tw):=λt b t' e Q q=>by
 cases e
 §kasC_get q
÷p80(h:∀ t,F (co κ it t)=co κ it (G t)):Sim prog w A E s κ it (λu:Unit=>u) (modify F:StateT Â7 Sem Unit) (modify G:TM Unit):=λt b t' e Q q=>by
 cases e
 ¤kasC_modify ?_
 rw[h t]
 §q
÷K41:Sim prog w A E s κ it (λu:Unit=>u) (liftM (rule x):StateT Â7 Sem Unit) (pure ():TM Unit):=λt b t' e Q q=>by
 cases e
 §kasC_lift (É8 q)
÷a82[Decidable c](h1:c->Sim prog w A E s κ it r m f)(h2:¬ c->Sim prog w A E s κ it r m' f'):Sim prog w A E s κ it r (if c then m else m') (if c then f else f'):=by
 split
 ·§h1 (by assumption)
 ·§h2 (by assumption)
def z00(r:β->α):ForInStep β->ForInStep α
 |.done b=>.done (r b)
 |.yield b=>.yield (r b)
÷f21(h:∀ x b,Sim prog w A E s κ it (z00 r) (body x (r b)) (body' x b)):∀ (l:List Nat) (b:β),Sim prog w A E s κ it r (forIn l (r b) body) (forIn l b body')
 |[],b=>by
  rw[Ö7,Ö7]
  §A10 b rfl
 |x::l,b=>by
  rw[Ì9,Ì9]
  ¤l70 (h x b) λst=>?_
  cases st with
  |done b'=>§A10 b' rfl
  |yield b'=>§f21 h l b'
end
def Ora(prog:ß)(w:è)(A:ø)(s:Æ)(κ:Ì6)(it:Array Keyed)(n:Nat)(cmp:Nat->Nat->Bool):Prop:=∀ i j (C:Bool->Æ->Prop),i < n->j < n->C (cmp i j) s->kas_cmp prog w A κ it i j C s
÷U01(O:Ora prog w A s κ it n cmp)(x y:Nat):Sim prog w A E s κ it (λo:Bool=>some o) (lt' (õ it x) (õ it y)) (ltT n cmp x y):=λt b t' e Q q=>by
 unfold ltT at e
 split at e
 ·rename_i h
  cases e
  rw[lt'_eq]
  ¤kasC_bind (kasC_get ?_)
  §kasC_bind (kasC_lift (Ë2 (Â1 (O x y (λc s'=>s'=s/\c=cmp x y) h.1 h.2 ⟨rfl,rfl⟩) (λc s' hc=>by ¶⟨rfl,rfl⟩:=hc;§kasC_pure q) λ_ _ hF=>hF.elim)))
 ·cases e
÷K40(p:Array Nat)(i:Nat):Sim prog w A E s κ it (õ it) (elem' (p.map (õ it)) i) (t81 p i):=by
 rw[elem'_eq]
 unfold t81
 rw[Array.getElem?_map,ô]
 cases p[i]? with
 |none=>§λt b t' e=>by cases e
 |some x=>§A10 x rfl
÷K51(O:Ora prog w A s κ it n cmp)(i j:Nat):Sim prog w A E s κ it (λo:Bool=>some o) (ltAt' i j) (a62 n cmp i j):=by
 rw[ltAt'_eq]
 unfold a62
 ¤l70 Z10 λt=>?_
 §l70 (K40 t.a i) λx=>l70 (K40 t.a j) λy=>U01 O x y
÷a92(i j:Nat):Sim prog w A E s κ it (λu:Unit=>u) (reverseSlice' i j) (O92 i j):=by
 rw[reverseSlice'_eq]
 ¤p80 λt=>?_
 show Ì1 κ (mirror (t.a.map (õ it)) i j ((j - i) / 2)) t.pending t.minGallop none=Ì1 κ ((mirror t.a i j ((j - i) / 2)).map (õ it)) t.pending t.minGallop none
 rw[show mirror (t.a.map (õ it)) i j ((j - i) / 2)=(mirror t.a i j ((j - i) / 2)).map (õ it) from kas_swaps_map (õ it) (λk=>i + k) (λk=>j - 1 - k) _ t.a]
÷K61(k l:Nat):Sim prog w A E s κ it (λu:Unit=>u) (moveDown' k l) (a72 k l):=λt b t' e Q q=>by
 rw[moveDown'_eq]
 unfold a72 at e
 split at e
 ·rename_i h
  cases e
  ¤kasC_modify ?_
  have e:bubble (t.a.map (õ it)) k (k - l)=(mvL t.a k l).map (õ it):=by
   rw[p72 h.1 h.2]
   §kas_swaps_map (õ it) (λi=>k - i) (λi=>k - i - 1) _ t.a
  show Q () (Ì1 κ (bubble (t.a.map (õ it)) k (k - l)) t.pending t.minGallop none) s
  rw[e]
  §q
 ·cases e
def t90{β:Type}(f:Nat->β->TM (ForInStep β)):Nat->Nat->β->TM β
 |0,_,b=>pure b
 |n + 1,i,b=>f i b >>= λx=>match x with
  |.done b=>pure b
  |.yield b=>t90 f n (i + 1) b
÷f31(f:Nat->β->TM (ForInStep β)):∀ (n i:Nat) (b:β),t90 f n i b=forIn (Â8 i n 1) b f
 |0,_,_=>by rw[List.range'_zero,Ö7];rfl
 |n + 1,i,b=>by
  rw[Â0,Ì9]
  show(f i b >>= λx=>_)=_
  congr 1
  funext x
  cases x with
  |done b=>rfl
  |yield b=>§f31 f n (i + 1) b
÷K50{α β:Type}{r:β->α}{a b:Nat}{c:β}{body:Nat->α->StateT Â7 Sem (ForInStep α)}{body':Nat->β->TM (ForInStep β)}(h:∀ x b,Sim prog w A E s κ it (z00 r) (body x (r b)) (body' x b)):Sim prog w A E s κ it r (forIn [a:b] (r c) body) (t90 body' (b - a) a c):=by
 rw[Std.Legacy.Range.forIn_eq_forIn_range',f31]
 have e:[a:b].size=b - a:=by simp[Std.Legacy.Range.size]
 show Sim prog w A E s κ it r (forIn (Â8 a [a:b].size 1) (r c) body) _
 rw[e]
 §f21 h _ c
def n60(prog:ß)(w:è)(A:ø)(E:Ä->Æ->Prop)(s:Æ)(κ:Ì6)(it:Array Keyed){α β:Type}(r:β->α)(m:StateT Â7 Sem α):Type:={f:TM β // Sim prog w A E s κ it r m f}
section
variable {α β α' β':Type}{r:β->α}{r':β'->α'}
def b60{a:α}(b:β)(e:a=r b):n60 prog w A E s κ it r (pure a):=⟨pure b,A10 b e⟩
def b30{m:StateT Â7 Sem α}{k:α->StateT Â7 Sem α'}(h:n60 prog w A E s κ it r m)(hk:∀ b,n60 prog w A E s κ it r' (k (r b))):n60 prog w A E s κ it r' (m >>= k):=⟨h.1 >>= λb=>(hk b).1,l70 h.2 λb=>(hk b).2⟩
def l80{c:Prop}[Decidable c]{m m':StateT Â7 Sem α}(h1:n60 prog w A E s κ it r m)(h2:n60 prog w A E s κ it r m'):n60 prog w A E s κ it r (if c then m else m'):=⟨if c then h1.1 else h2.1,a82 (λ_=>h1.2) λ_=>h2.2⟩
def r20{m:StateT Â7 Sem α}:n60 prog w A E s κ it r m:=⟨λ_=>none,λ_ _ _ e=>by cases e⟩
def K71{m m':StateT Â7 Sem α}(e:m=m')(h:n60 prog w A E s κ it r m'):n60 prog w A E s κ it r m:=⟨h.1,by rw[e];§h.2⟩
def r30{a b:Nat}(c:β){body:Nat->α->StateT Â7 Sem (ForInStep α)}(h:∀ x b,n60 prog w A E s κ it (z00 r) (body x (r b))):n60 prog w A E s κ it r (forIn [a:b] (r c) body):=⟨t90 (λx b=>(h x b).1) (b - a) a c,K50 λx b=>(h x b).2⟩
end
def m41(O:Ora prog w A s κ it n cmp)(i j:Nat):n60 prog w A E s κ it (λo:Bool=>some o) (ltAt' i j):=⟨a62 n cmp i j,K51 O i j⟩
def B82(i j:Nat):n60 prog w A E s κ it (λu:Unit=>u) (reverseSlice' i j):=⟨O92 i j,a92 i j⟩
def F82(i j:Nat):n60 prog w A E s κ it (λu:Unit=>u) (moveDown' i j):=⟨a72 i j,K61 i j⟩
def K81(x:String):n60 prog w A E s κ it (λu:Unit=>u) (liftM (rule x):StateT Â7 Sem Unit):=⟨pure (),K41⟩
def T02(O:Ora prog w A s κ it n cmp)(lo n' ok:Nat):n60 prog w A E s κ it (λ_:Unit=>true) (binarySort' lo n' ok):=by
 ¤K71 (binarySort'_eq lo n' ok) ?_
 ¤b30 (r:=λ_:Unit=>((none,()):Option Bool × Unit)) (r30 () λk _=>?_) λ_=>b60 () rfl
 ¤b30 (r:=λx:Nat × Nat=>((none,x):Option Bool × Nat × Nat)) (r30 (0,k) λ_ x=>?_) λx=>b30 (F82 _ _) λ_=>b60 (á ()) rfl
 §l80 (b60 (å x) rfl) (b30 (m41 O _ _) λo=>l80 (b60 (á (x.1,_)) rfl) (b60 (á (_,x.2)) rfl))
def p82(O:Ora prog w A s κ it n cmp)(lo z:Nat):n60 prog w A E s κ it (λm:Nat=>some m) (countRun' lo z):=by
 ¤K71 (countRun'_eq lo z) ?_
 ¤b30 (r:=λm:Nat=>((none,m):Option (Option Nat) × Nat)) (r30 1 λ_ m=>b30 (m41 O _ _) λ_=>l80 (b60 (å m) rfl) (b60 (á (m + 1)) rfl)) λm=>?_
 ¤l80 (b60 m rfl) (l80 (b30 (m41 O _ _) λ_=>l80 (b60 m rfl) (b30 (B82 _ _) λ_=>?_)) ?_)
 all_goals
  ¤b30 (K81 _) λ_=>b30 (r:=λm:Nat=>((none,m,0):Option (Option Nat) × Nat × Nat)) (r30 (m + 1) λ_ m=>b30 (m41 O _ _) λ_=>l80 (l80 r20 (b60 (á (m + 1)) rfl)) (b30 (m41 O _ _) λ_=>l80 (b60 (å m) rfl) r20)) λm=>?_
  §l80 r20 (b30 (B82 _ _) λ_=>b30 (r:=λm:Nat=>((none,m):Option (Option Nat) × Nat)) (r30 m λ_ m=>b30 (m41 O _ _) λ_=>l80 (b60 (å m) rfl) (b60 (á (m + 1)) rfl)) λm=>b60 m rfl)
def tLt(O:Ora prog w A s κ it n cmp)(x y:Nat):n60 prog w A E s κ it (λo:Bool=>some o) (lt' (õ it x) (õ it y)):=⟨ltT n cmp x y,U01 O x y⟩
def r90(p:Array Nat)(i:Nat):n60 prog w A E s κ it (õ it) (elem' (p.map (õ it)) i):=⟨t81 p i,K40 p i⟩
def t91:Bool->Keyed->Array Keyed->Nat->Nat->Nat->StateT SortSt Sem (Option Nat):=sortPriv% PySem.Builtin.gallop
def Z20(O:Ora prog w A s κ it n cmp)(left:Bool)(y:Nat)(p:Array Nat)(base z hint:Nat):n60 prog w A E s κ it (λm:Nat=>some m) (t91 left (õ it y) (p.map (õ it)) base z hint):=by
 ¤b30 (r:=λb:Bool=>some b) (b30 (r90 p (base + hint)) λx=>l80 (tLt O x y) (b30 (tLt O y x) λb=>b60 (!b) rfl)) λb=>?_
 ¤l80 ?_ ?_ <;> ¤b30 (r:=λx:Nat × Nat=>((none,x):Option (Option Nat) × Nat × Nat)) (r30 (0,1) λ_ x=>l80 (b60 (å x) rfl) (b30 (r:=λb:Bool=>some b) (b30 (r90 p _) λx=>l80 (tLt O x y) (b30 (tLt O y x) λb=>b60 (!b) rfl)) λb=>l80 (b60 (å x) rfl) (b60 (á (x.2,2 * x.2 + 1)) rfl))) λx=>?_
 ·§b30 (r:=λx:Nat × Nat=>((none,x):Option (Option Nat) × Nat × Nat)) (r30 (hint + x.1 + 1,hint + min x.2 (z - hint)) λ_ x=>l80 (b60 (å x) rfl) (b30 (r:=λb:Bool=>some b) (b30 (r90 p _) λx=>l80 (tLt O x y) (b30 (tLt O y x) λb=>b60 (!b) rfl)) λb=>l80 (b60 (á (_,x.2)) rfl) (b60 (á (x.1,_)) rfl))) λx=>b60 x.2 rfl
 ·§b30 (r:=λx:Nat × Nat=>((none,x):Option (Option Nat) × Nat × Nat)) (r30 (hint + 1 - min x.2 (hint + 1),hint - x.1) λ_ x=>l80 (b60 (å x) rfl) (b30 (r:=λb:Bool=>some b) (b30 (r90 p _) λx=>l80 (tLt O x y) (b30 (tLt O y x) λb=>b60 (!b) rfl)) λb=>l80 (b60 (á (_,x.2)) rfl) (b60 (á (x.1,_)) rfl))) λx=>b60 x.2 rfl
def Z30{α β:Type}{r:β->α}{a b:Nat}{i:α}(b':Nat)(eb:b=b')(c:β)(ec:i=r c){body:Nat->α->StateT Â7 Sem (ForInStep α)}(h:∀ x b,n60 prog w A E s κ it (z00 r) (body x (r b))):n60 prog w A E s κ it r (forIn [a:b] i body):=⟨t90 (λx b=>(h x b).1) (b' - a) a c,by subst eb;subst ec;§K50 λx b=>(h x b).2⟩
def tIf{α β:Type}{r:β->α}{c:Prop}[Decidable c]{m m':StateT Â7 Sem α}(c':Bool)(e:c↔c'=true)(h1:n60 prog w A E s κ it r m)(h2:n60 prog w A E s κ it r m'):n60 prog w A E s κ it r (if c then m else m'):=⟨match c' with
 |true=>h1.1
 |false=>h2.1,by
 cases c' with
 |true=>rw[if_pos (e.mpr rfl)];§h1.2
 |false=>rw[if_neg λh=>by cases e.mp h];§h2.2⟩
def b02:n60 prog w A E s κ it (co κ it) (get:StateT Â7 Sem Â7):=⟨get,Z10⟩
def F92:Nat->StateT SortSt Sem Unit:=sortPriv% PySem.Builtin.setMinGallop
def p92(g:Nat):n60 prog w A E s κ it (λu:Unit=>u) (F92 g):=⟨modify λt=>{ t with minGallop:=g },p80 λ_=>rfl⟩
def P02(O:Ora prog w A s κ it n cmp)(left:Bool)(y:Nat)(p:Array Nat)(base z z' hint:Nat)(e:z=z'):n60 prog w A E s κ it (λm:Nat=>some m) (t91 left (õ it y) (p.map (õ it)) base z hint):=K71 (by rw[e]) (Z20 O left y p base z' hint)
def K91:Array Keyed->Array Keyed->StateT SortSt Sem (Array Keyed):=sortPriv% PySem.Builtin.mergeLo
def rs{γ:Type}(it:Array Keyed)(x:Option (Array Nat) × Array Nat × γ):Option (Array Keyed) × Array Keyed × γ:=(x.1.map (Array.map (õ it)),x.2.1.map (õ it),x.2.2)
÷sz(it:Array Keyed)(i:Nat)(p:Array Nat):(i == (p.map (õ it)).size)=true↔(i == p.size)=true:=by rw[size_map]
local macro_rules
 | `(tactic| ac_rfl)=>`(tactic| simp only[rs,z00,map_some,Option.map_none,Û3,Array.map_push,Ñ5,size_map])
 | `(tactic| rwa [$O:term,$p:term,$q:term,$out:term,$ia:term,$ib:term,$mg:term,$ac:term,$bc:term])=>`(tactic| §b30 (r90 $p $ia) λy=>tIf _ (sz _ _ _) (b60 (å (some (push $out y++Æ8 $q $ib++Æ8 $p ($ia + 1)),push $out y,$ia + 1,$ib,$mg,$ac,$bc)) (by ac_rfl)) (l80 (b60 (å (none,push $out y,$ia + 1,$ib,$mg,$ac,$bc)) (by ac_rfl)) (b60 (á (none,push $out y,$ia + 1,$ib,$mg,$ac,$bc)) (by ac_rfl))))
 | `(tactic| rwa [$O:term,$p:term,$q:term,$out:term,$ia:term,$ib:term,$mg:term,$ac:term,$bc:term,$_x0:term])=>`(tactic| §b30 (r90 $q $ib) λy=>tIf _ (sz _ _ _) (b60 (å (some (push $out y++Æ8 $p $ia++Æ8 $q ($ib + 1)),push $out y,$ia,$ib + 1,$mg,$ac,$bc)) (by ac_rfl)) (b30 (r90 $p $ia) λz=>b30 (P02 $O true z $q ($ib + 1) _ (Ø0 $q - ($ib + 1)) 0 (by simp[rs])) λk=>l80 (tIf _ (sz _ _ _) (b60 (å (some (push $out y++Æ8 $q ($ib + 1) ($ib + 1 + k)++Æ8 $p $ia++Æ8 $q ($ib + 1 + k)),push $out y++Æ8 $q ($ib + 1) ($ib + 1 + k),$ia,$ib + 1 + k,$mg,$ac,k)) (by ac_rfl)) ((by rwa [$O:term,$p:term,$q:term,(push $out y++Æ8 $q ($ib + 1) ($ib + 1 + k)),$ia:term,($ib + 1 + k),$mg:term,$ac:term,k]))) ((by rwa [$O:term,$p:term,$q:term,(push $out y),$ia:term,($ib + 1),$mg:term,$ac:term,k]))))
 | `(tactic| rwa [$O:term,$p:term,$q:term,$out:term,$ia:term,$ib:term,$mg:term,$bc:term,$_x0:term,$_x1:term,$_x2:term])=>`(tactic| §b30 (p92 $mg) λ_=>b30 (r90 $q $ib) λy=>b30 (P02 $O false y $p $ia _ (Ø0 $p - $ia) 0 (by simp[rs])) λk=>l80 (tIf _ (sz _ _ _) (b60 (å (some ($out++Æ8 $p $ia ($ia + k)++Æ8 $q $ib++Æ8 $p ($ia + k)),$out++Æ8 $p $ia ($ia + k),$ia + k,$ib,$mg,k,$bc)) (by ac_rfl)) (tIf _ (sz _ _ _) (b60 (å (some ($out++Æ8 $p $ia ($ia + k)++Æ8 $p ($ia + k)++Æ8 $q $ib),$out++Æ8 $p $ia ($ia + k),$ia + k,$ib,$mg,k,$bc)) (by ac_rfl)) ((by rwa [$O:term,$p:term,$q:term,($out++Æ8 $p $ia ($ia + k)),($ia + k),$ib:term,$mg:term,k,$bc:term,rfl])))) ((by rwa [$O:term,$p:term,$q:term,$out:term,$ia:term,$ib:term,$mg:term,k,$bc:term,rfl])))
def L01(O:Ora prog w A s κ it n cmp)(p q:Array Nat):n60 prog w A E s κ it (Array.map (õ it)) (K91 (p.map (õ it)) (q.map (õ it))):=by
 ¤b30 (K81 _) λ_=>b30 (r90 q 0) λx=>?_
 ¤tIf _ (sz it _ _) (b60 (#[x]++p.extract 0++q.extract 1) (by simp only[Û3,Ñ5,size_map,map_toArray,Å7,map_nil])) ?_
 ¤tIf _ (sz it _ _) (b60 (#[x]++q.extract 1++p.extract 0) (by simp only[Û3,Ñ5,size_map,map_toArray,Å7,map_nil])) ?_
 ¤b30 b02 λt=>?_
 ¤b30 (r:=rs it) (Z30 (p.size + q.size) (by simp) (none,#[x],0,1,t.minGallop) (by simp[rs];rfl) λ_ st=>?_) λst=>?_
 ·¶⟨_,out,ia,ib,mg⟩:=st
  ¤b30 (r:=rs it) (Z30 (p.size + q.size) (by simp) (none,out,ia,ib,0,0) (by simp[rs]) λ_ st=>?_) λst=>?_
  ·¶⟨_,out,ia,ib,ac,bc⟩:=st
   ¤b30 (r90 q ib) λy=>b30 (r90 p ia) λz=>b30 (tLt O y z) λo=>l80 (b30 (r90 q ib) λy=>?_) (b30 (r90 p ia) λy=>?_)
   ·§tIf _ (sz it _ _) (b60 (å (some (out.push y++p.extract ia++q.extract (ib + 1)),out.push y,ia,ib + 1,0,bc + 1)) (by simp[rs,z00])) (l80 (b60 (å (none,out.push y,ia,ib + 1,0,bc + 1)) (by simp[rs,z00])) (b60 (á (none,out.push y,ia,ib + 1,0,bc + 1)) (by simp[rs,z00])))
   ·§tIf _ (sz it _ _) (b60 (å (some (out.push y++q.extract ib++p.extract (ia + 1)),out.push y,ia + 1,ib,ac + 1,0)) (by simp[rs,z00])) (l80 (b60 (å (none,out.push y,ia + 1,ib,ac + 1,0)) (by simp[rs,z00])) (b60 (á (none,out.push y,ia + 1,ib,ac + 1,0)) (by simp[rs,z00])))
  ·¶⟨o,out,ia,ib,ac,bc⟩:=st
   cases o with
   |some v=>§b60 (å (some v,out,ia,ib,mg)) rfl
   |none =>
    ¤b30 (K81 _) λ_=>?_
    ¤b30 (r:=rs it) (Z30 (p.size + q.size) (by simp) (none,out,ia,ib,mg + 1,ac,bc) (by simp[rs]) λ_ st=>?_) λst=>?_
    ·¶⟨_,out,ia,ib,mg,ac,bc⟩:=st
     §l80 ((by rwa [O,p,q,out,ia,ib,(mg - 1),bc,rfl,rfl,rfl])) ((by rwa [O,p,q,out,ia,ib,mg,bc,rfl,rfl,rfl]))
    ·¶⟨o,out,ia,ib,mg,ac,bc⟩:=st
     cases o with
     |some v=>§b60 (å (some v,out,ia,ib,mg)) rfl
     |none=>§b30 (p92 (mg + 1)) λ_=>b60 (á (none,out,ia,ib,mg + 1)) rfl
 ·¶⟨o,_⟩:=st
  cases o with
  |none=>§r20
  |some v=>§b60 v rfl
def T12(t':Tw){S:Â7}(e:S=co κ it t'):n60 prog w A E s κ it (λu:PUnit=>u) (set S:StateT Â7 Sem PUnit):=⟨modify λ_=>t',by subst e;§p80 (F:=λ_=>co κ it t') λ_=>rfl⟩
def G02{F:Â7->Â7}(G:Tw->Tw)(h:∀ t,F (co κ it t)=co κ it (G t)):n60 prog w A E s κ it (λu:Unit=>u) (modify F:StateT Â7 Sem Unit):=⟨modify G,p80 h⟩
÷fold_map(f:Nat->Keyed)(d:Nat):∀ (l:List Nat) (j:Nat) (a:Array Nat),((l.map f).zipIdx j).foldl (λa x=>setIfInBounds a (d + x.2) x.1) (a.map f)=((l.zipIdx j).foldl (λa x=>setIfInBounds a (d + x.2) x.1) a).map f
 |[],_,_=>rfl
 |x::l,j,a=>by
  have e:(a.map f).setIfInBounds (d + j) (f x)=(a.setIfInBounds (d + j) x).map f:=by simp
  show((l.map f).zipIdx (j + 1)).foldl _ ((a.map f).setIfInBounds (d + j) (f x))=_
  rw[e]
  §fold_map f d l (j + 1) _
def spl(a:Array Nat)(d:Nat)(l:List Nat):Array Nat:=⟨a.toList.take d++(l++a.toList.drop (d + l.length))⟩
÷U11(d:Nat):∀ (l:List Nat) (j:Nat) (a:Array Nat),d + j + l.length<=a.size->(l.zipIdx j).foldl (λa x=>setIfInBounds a (d + x.2) x.1) a=spl a (d + j) l
 |[],j,a,_=>by
  show a=_
  unfold spl
  rw[Á0,Nat.add_zero,Ì8,List.take_append_drop]
 |x::l,j,a,h=>by
  have hl:d + j + (l.length + 1)<=a.toList.length:=h
  show(l.zipIdx (j + 1)).foldl _ (a.setIfInBounds (d + j) x)=_
  rw[U11 d l (j + 1) _ (by rw[Array.size_setIfInBounds];have:a.toList.length=a.size:=rfl;omega)]
  unfold spl
  rw[Array.toList_setIfInBounds,List.set_eq_take_append_cons_drop,if_pos (by omega)]
  generalize a.toList=m at hl
  have e1:(m.take (d + j)).length=d + j:=by rw[Æ7];omega
  have e2:(m.take (d + j)++x::m.drop (d + j + 1)).take (d + (j + 1))=m.take (d + j)++[x]:=by
   rw[List.take_append,e1,show d + (j + 1) - (d + j)=1 by omega,È5 (Ñ (Ú8 e1) (by omega))]
   rfl
  have e3:(m.take (d + j)++x::m.drop (d + j + 1)).drop (d + (j + 1) + l.length)=m.drop (d + j + (l.length + 1)):=by
   rw[List.drop_append,e1,show d + (j + 1) + l.length - (d + j)=l.length + 1 by omega,List.drop_eq_nil_of_le (Ñ (Ú8 e1) (by omega)),List.drop_succ_cons,List.drop_drop,Ì8,show d + j + 1 + l.length=d + j + (l.length + 1) by omega]
  rw[e2,e3,Ô7]
  rfl
def G12{F:Â7->Â7}(c:Tw->Bool)(G:Tw->Tw)(h:∀ t,c t=true->F (co κ it t)=co κ it (G t)):n60 prog w A E s κ it (λu:Unit=>u) (modify F:StateT Â7 Sem Unit):=⟨λt=>match c t with
 |true=>some ((),G t)
 |false=>none,λt b t' e Q q=>by
 dsimp only at e
 cases hc:c t with
 |false=>rw[hc] at e;cases e
 |true =>
  rw[hc] at e
  cases e
  ¤kasC_modify ?_
  rw[h t hc]
  §q⟩
def f41(O:Ora prog w A s κ it n cmp)(i:Nat):n60 prog w A E s κ it (λ_:Unit=>true) (mergeAt' i):=by
 ¤b30 b02 λt=>?_
 generalize (Ù5 (co κ it t))[i]?=o1
 generalize (Ù5 (co κ it t))[i + 1]?=o2
 rcases o1 with _ | ⟨sa,na,pw⟩
 ·§r20
 rcases o2 with _ | ⟨sb,nb,_⟩
 ·§r20
 ¤b30 (T12 { t with pending:=(t.pending.setIfInBounds i (sa,na + nb,pw)).eraseIdxIfInBounds (i + 1) } rfl) λ_=>?_
 ¤b30 (r90 t.a sb) λy=>b30 (Z20 O false y t.a sa na 0) λk=>?_
 ¤l80 (b60 () rfl) (b30 (r90 t.a _) λy=>b30 (Z20 O true y t.a sb nb (nb - 1)) λnb=>l80 (b60 () rfl) (l80 (b30 (K71 ?_ (L01 O (t.a.extract (sa + k) sb) (t.a.extract sb (sb + nb)))) λv=>?_) r20))
 ·rw[Ñ5,Ñ5];rfl
 ·¤b30 (G12 (λu=>ble (sa + k + v.toList.length) u.a.size) (λu=>{ u with a:=spl u.a (sa + k) v.toList }) λu hu=>?_) λ_=>b30 b02 λ_=>b60 () rfl
  have e:=fold_map (õ it) (sa + k) v.toList 0 u.a
  rw[← Array.toList_map,U11 (sa + k) v.toList 0 u.a (Nat.le_of_ble_eq_true hu)] at e
  §congrArg (λa=>Ì1 κ a u.pending u.minGallop none) e
structure P12(prog:Program)(w:World)(A:Around)(E:Value->Shared->Prop)(s:Shared)(κ:SortKind)(it:Array Keyed)(z:Nat)(m:StateT SortSt Sem Unit) where
 body:Nat->Nat->TM (ForInStep Nat)
 tail:Nat->TM Unit
 sim:Sim prog w A E s κ it (λu:Unit=>u) m (t90 body z 0 0 >>= tail)
def mkH{α:Type}{r:Nat->α}{i:α}{z:Nat}(e0:i=r 0){B:Nat->α->StateT Â7 Sem (ForInStep α)}{k:α->StateT Â7 Sem Unit}(hb:∀ x lo,n60 prog w A E s κ it (z00 r) (B x (r lo)))(hk:∀ lo,n60 prog w A E s κ it (λu:Unit=>u) (k (r lo))) :
  P12 prog w A E s κ it z (forIn [0:z] i B >>= k) where
 body:=λx lo=>(hb x lo).1
 tail:=λlo=>(hk lo).1
 sim:=by
  subst e0
  §l70 (K50 λx b=>(hb x b).2) λb=>(hk b).2
structure m51(prog:Program)(w:World)(A:Around)(E:Value->Shared->Prop)(s:Shared)(κ:SortKind)(it:Array Keyed)(m:StateT SortSt Sem Unit) where
 body:Tw->Nat->Nat->TM (ForInStep Nat)
 tail:Tw->Nat->TM Unit
 sim:Sim prog w A E s κ it (λu:Unit=>u) m (get >>= λt=>t90 (body t) t.a.size 0 0 >>= tail t)
def mkW{F:Â7->StateT Â7 Sem Unit}(h:∀ t:Tw,P12 prog w A E s κ it t.a.size (F (co κ it t))):m51 prog w A E s κ it (get >>= F) where
 body:=λt=>(h t).body
 tail:=λt=>(h t).tail
 sim:=l70 Z10 λt=>(h t).sim
def m51.cast{m m':StateT Â7 Sem Unit}(e:m=m')(h:m51 prog w A E s κ it m'):m51 prog w A E s κ it m:=⟨h.body,h.tail,by rw[e];§h.sim⟩
def j30(O:Ora prog w A s κ it n cmp):m51 prog w A E s κ it sortRuns':=by
 ¤m51.cast sortRuns'_eq (mkW λt=>?_)
 generalize hz:Ø0 (arrOf (co κ it t))=z
 have hz':t.a.size=z:=Array.size_map.symm.trans hz
 clear hz
 subst hz'
 ¤mkH (r:=λm:Nat=>((none,m):Option Unit × Nat)) rfl (λ_ lo=>l80 (b60 (å lo) rfl) (b30 (p82 O _ _) λm=>?_)) (λ_=>?_)
 ·¤l80 (b30 (K81 _) λ_=>b30 (T02 O _ _ _) λ_=>l80 r20 (b30 b02 λu=>?_)) (b30 b02 λu=>?_)
  all_goals
   generalize Array.back? (Ù5 (co κ it u))=o1
   rcases o1 with _ | ⟨s1,n1,_⟩
   ·§b30 (G02 (λu=>{ u with pending:=u.pending.push (lo,_,0) }) λ_=>rfl) λ_=>b60 (á (lo + _)) rfl
   ·¤b30 (r:=λ_:Unit=>((none,()):Option Unit × Unit)) (r30 () λ_ _=>b30 b02 λu=>?_) λ_=>b30 (G02 (λu=>{ u with pending:=u.pending.modify (u.pending.size - 1) λx=>(x.1,x.2.1,_) }) λ_=>rfl) λ_=>b30 (G02 (λu=>{ u with pending:=u.pending.push (lo,_,0) }) λ_=>rfl) λ_=>b60 (á (lo + _)) rfl
    dsimp only
    generalize (if Ø0 (Ù5 (co κ it u)) > 1 then(Ù5 (co κ it u))[Ø0 (Ù5 (co κ it u)) - 2]? else none)=o2
    rcases o2 with _ | ⟨_,_,old⟩
    ·§b60 (å ()) rfl
    ·§l80 (b60 (å ()) rfl) (b30 (f41 O _) λ_=>l80 r20 (b60 (á ()) rfl))
 ·§b30 (r:=λ_:Unit=>((none,()):Option Unit × Unit)) (r30 () λ_ _=>b30 b02 λu=>l80 (b60 (å ()) rfl) (b30 (f41 O _) λ_=>l80 r20 (b60 (á ()) rfl))) λ_=>b60 () rfl
end
def upN:Nat->Nat->Nat->List Nat
 |0,_,h=>[h]
 |b + 1,v,h=>upN b (2 * v) (h + v)++upN b (2 * v) h
def neN:Nat->Nat->Nat->List Nat
 |0,_,_=>[]
 |b + 1,v,h=>(h + v)::(neN b (2 * v) (h + v)++neN b (2 * v) h)
def sN(b:Nat):List Nat:=0::neN b 1 0
def B90:Nat->Nat->Nat->List Nat
 |0,_,_=>[]
 |k + 1,i,m=>if Nat.testBit m 0 then i::B90 k (i + 1) (m / 2) else B90 k (i + 1) (m / 2)
def B92:List Nat->List Nat->Bool
 |[],[]=>false
 |[],_::_=>true
 |_::_,[]=>false
 |a::r,b::q=>if beq a b then B92 r q else Nat.blt a b
def v80(K i j:Nat):Bool:=B92 (B90 K 0 i) (B90 K 0 j)
section
variable {prog:ß}{w:è}{A:ø}{E:Ä->Æ->Prop}{s:Æ}{κ:Ì6}{it:Array Keyed}
def T0(K:Nat):Tw:=⟨⟨í (2 ^ K)⟩,#[],7⟩
def TZ(K p:Nat):Tw:=⟨⟨sN K⟩,#[(0,2 ^ K,p)],7⟩
÷z20{β:Type}{f:Nat->β->TM (ForInStep β)}{n i:Nat}{b b':β}{t t':Tw}{r:Option (β × Tw)}(h:f i b t=some (.yield b',t'))(h2:t90 f n (i + 1) b' t'=r):t90 f (n + 1) i b t=r:=by
 show Option.bind (f i b t) _=r
 rw[h];§h2
def goW{K:Nat}(O:Ora prog w A s κ it (2 ^ K) (v80 K)):TM Unit:=get >>= λt=>t90 ((j30 (E:=E) O).body t) t.a.size 0 0 >>= (j30 (E:=E) O).tail t
÷two{K n:Nat}{t:Tw}{r:Option (Unit × Tw)}(O:Ora prog w A s κ it (2 ^ K) (v80 K))(h:t90 ((j30 (E:=E) O).body (T0 K)) (2 ^ K) 0 0 (T0 K)=some (n,t))(h2:(j30 (E:=E) O).tail (T0 K) n t=r):goW (E:=E) O (T0 K)=r:=by
 show Option.bind (t90 ((j30 (E:=E) O).body (T0 K)) (í (2 ^ K)).length 0 0 (T0 K)) _=r
 rw[ù,h];§h2
÷w1(O:Ora prog w A s κ it (2 ^ 1) (v80 1)):goW (E:=E) O (T0 1)=some ((),TZ 1 0):=by kernel_rfl
÷w2(O:Ora prog w A s κ it (2 ^ 2) (v80 2)):goW (E:=E) O (T0 2)=some ((),TZ 2 0):=by kernel_rfl
÷w3(O:Ora prog w A s κ it (2 ^ 3) (v80 3)):goW (E:=E) O (T0 3)=some ((),TZ 3 0):=by kernel_rfl
÷w4(O:Ora prog w A s κ it (2 ^ 4) (v80 4)):goW (E:=E) O (T0 4)=some ((),TZ 4 0):=by kernel_rfl
÷w5(O:Ora prog w A s κ it (2 ^ 5) (v80 5)):goW (E:=E) O (T0 5)=some ((),TZ 5 0):=by kernel_rfl
÷w6(O:Ora prog w A s κ it (2 ^ 6) (v80 6)):goW (E:=E) O (T0 6)=some ((),TZ 6 1):=by kernel_rfl
÷T22(O:Ora prog w A s κ it (2 ^ 7) (v80 7)):(j30 (E:=E) O).body (T0 7) 0 0 (T0 7)=some (.yield 32,⟨⟨sN 5++Â8 32 96⟩,#[(0,32,0)],7⟩):=by kernel_rfl
÷T32(O:Ora prog w A s κ it (2 ^ 7) (v80 7)):(j30 (E:=E) O).body (T0 7) 1 32 ⟨⟨sN 5++Â8 32 96⟩,#[(0,32,0)],7⟩=some (.yield 64,⟨⟨sN 5++(upN 5 1 32++Â8 64 64)⟩,#[(0,32,2),(32,32,0)],7⟩):=by kernel_rfl
÷T42(O:Ora prog w A s κ it (2 ^ 7) (v80 7)):(j30 (E:=E) O).body (T0 7) 2 64 ⟨⟨sN 5++(upN 5 1 32++Â8 64 64)⟩,#[(0,32,2),(32,32,0)],7⟩=some (.yield 96,⟨⟨sN 6++(upN 5 1 64++Â8 96 32)⟩,#[(0,64,1),(64,32,0)],7⟩):=by kernel_rfl
÷T52(O:Ora prog w A s κ it (2 ^ 7) (v80 7)):(j30 (E:=E) O).body (T0 7) 3 96 ⟨⟨sN 6++(upN 5 1 64++Â8 96 32)⟩,#[(0,64,1),(64,32,0)],7⟩=some (.yield 128,⟨⟨sN 6++(upN 5 1 64++upN 5 1 96)⟩,#[(0,64,1),(64,32,2),(96,32,0)],7⟩):=by kernel_rfl
÷T62(O:Ora prog w A s κ it (2 ^ 7) (v80 7)):t90 ((j30 (E:=E) O).body (T0 7)) 124 4 128 ⟨⟨sN 6++(upN 5 1 64++upN 5 1 96)⟩,#[(0,64,1),(64,32,2),(96,32,0)],7⟩=some (128,⟨⟨sN 6++(upN 5 1 64++upN 5 1 96)⟩,#[(0,64,1),(64,32,2),(96,32,0)],7⟩):=by kernel_rfl
÷T72(O:Ora prog w A s κ it (2 ^ 7) (v80 7)):(j30 (E:=E) O).tail (T0 7) 128 ⟨⟨sN 6++(upN 5 1 64++upN 5 1 96)⟩,#[(0,64,1),(64,32,2),(96,32,0)],7⟩=some ((),TZ 7 1):=by kernel_rfl
÷w7(O:Ora prog w A s κ it (2 ^ 7) (v80 7)):goW (E:=E) O (T0 7)=some ((),TZ 7 1):=two O (z20 (T22 O) (z20 (T32 O) (z20 (T42 O) (z20 (T52 O) (T62 O))))) (T72 O)
÷T82(O:Ora prog w A s κ it (2 ^ 8) (v80 8)):(j30 (E:=E) O).body (T0 8) 0 0 (T0 8)=some (.yield 32,⟨⟨sN 5++Â8 32 224⟩,#[(0,32,0)],7⟩):=by kernel_rfl
÷T92(O:Ora prog w A s κ it (2 ^ 8) (v80 8)):(j30 (E:=E) O).body (T0 8) 1 32 ⟨⟨sN 5++Â8 32 224⟩,#[(0,32,0)],7⟩=some (.yield 64,⟨⟨sN 5++(upN 5 1 32++Â8 64 192)⟩,#[(0,32,3),(32,32,0)],7⟩):=by kernel_rfl
÷U02(O:Ora prog w A s κ it (2 ^ 8) (v80 8)):(j30 (E:=E) O).body (T0 8) 2 64 ⟨⟨sN 5++(upN 5 1 32++Â8 64 192)⟩,#[(0,32,3),(32,32,0)],7⟩=some (.yield 96,⟨⟨sN 6++(upN 5 1 64++Â8 96 160)⟩,#[(0,64,2),(64,32,0)],7⟩):=by kernel_rfl
÷U12(O:Ora prog w A s κ it (2 ^ 8) (v80 8)):(j30 (E:=E) O).body (T0 8) 3 96 ⟨⟨sN 6++(upN 5 1 64++Â8 96 160)⟩,#[(0,64,2),(64,32,0)],7⟩=some (.yield 128,⟨⟨sN 6++(upN 5 1 64++(upN 5 1 96++Â8 128 128))⟩,#[(0,64,2),(64,32,3),(96,32,0)],7⟩):=by kernel_rfl
÷U22(O:Ora prog w A s κ it (2 ^ 8) (v80 8)):(j30 (E:=E) O).body (T0 8) 4 128 ⟨⟨sN 6++(upN 5 1 64++(upN 5 1 96++Â8 128 128))⟩,#[(0,64,2),(64,32,3),(96,32,0)],7⟩=some (.yield 160,⟨⟨sN 7++(upN 5 1 128++Â8 160 96)⟩,#[(0,128,1),(128,32,0)],7⟩):=by kernel_rfl
÷U32(O:Ora prog w A s κ it (2 ^ 8) (v80 8)):(j30 (E:=E) O).body (T0 8) 5 160 ⟨⟨sN 7++(upN 5 1 128++Â8 160 96)⟩,#[(0,128,1),(128,32,0)],7⟩=some (.yield 192,⟨⟨sN 7++(upN 5 1 128++(upN 5 1 160++Â8 192 64))⟩,#[(0,128,1),(128,32,3),(160,32,0)],7⟩):=by kernel_rfl
÷U42(O:Ora prog w A s κ it (2 ^ 8) (v80 8)):(j30 (E:=E) O).body (T0 8) 6 192 ⟨⟨sN 7++(upN 5 1 128++(upN 5 1 160++Â8 192 64))⟩,#[(0,128,1),(128,32,3),(160,32,0)],7⟩=some (.yield 224,⟨⟨sN 7++(upN 6 1 128++(upN 5 1 192++Â8 224 32))⟩,#[(0,128,1),(128,64,2),(192,32,0)],7⟩):=by kernel_rfl
÷U52(O:Ora prog w A s κ it (2 ^ 8) (v80 8)):(j30 (E:=E) O).body (T0 8) 7 224 ⟨⟨sN 7++(upN 6 1 128++(upN 5 1 192++Â8 224 32))⟩,#[(0,128,1),(128,64,2),(192,32,0)],7⟩=some (.yield 256,⟨⟨sN 7++(upN 6 1 128++(upN 5 1 192++upN 5 1 224))⟩,#[(0,128,1),(128,64,2),(192,32,3),(224,32,0)],7⟩):=by kernel_rfl
÷U62(O:Ora prog w A s κ it (2 ^ 8) (v80 8)):t90 ((j30 (E:=E) O).body (T0 8)) 248 8 256 ⟨⟨sN 7++(upN 6 1 128++(upN 5 1 192++upN 5 1 224))⟩,#[(0,128,1),(128,64,2),(192,32,3),(224,32,0)],7⟩=some (256,⟨⟨sN 7++(upN 6 1 128++(upN 5 1 192++upN 5 1 224))⟩,#[(0,128,1),(128,64,2),(192,32,3),(224,32,0)],7⟩):=by kernel_rfl
÷U72(O:Ora prog w A s κ it (2 ^ 8) (v80 8)):(j30 (E:=E) O).tail (T0 8) 256 ⟨⟨sN 7++(upN 6 1 128++(upN 5 1 192++upN 5 1 224))⟩,#[(0,128,1),(128,64,2),(192,32,3),(224,32,0)],7⟩=some ((),TZ 8 1):=by kernel_rfl
÷w8(O:Ora prog w A s κ it (2 ^ 8) (v80 8)):goW (E:=E) O (T0 8)=some ((),TZ 8 1):=two O (z20 (T82 O) (z20 (T92 O) (z20 (U02 O) (z20 (U12 O) (z20 (U22 O) (z20 (U32 O) (z20 (U42 O) (z20 (U52 O) (U62 O))))))))) (U72 O)
÷U82{K:Nat}(h1:1<=K)(h8:K<=8)(O:Ora prog w A s κ it (2 ^ K) (v80 K)):∃ p,goW (E:=E) O (T0 K)=some ((),TZ K p):=by
 match K,h1,h8,O with
 |1,_,_,O=>§⟨_,w1 O⟩
 |2,_,_,O=>§⟨_,w2 O⟩
 |3,_,_,O=>§⟨_,w3 O⟩
 |4,_,_,O=>§⟨_,w4 O⟩
 |5,_,_,O=>§⟨_,w5 O⟩
 |6,_,_,O=>§⟨_,w6 O⟩
 |7,_,_,O=>§⟨_,w7 O⟩
 |8,_,_,O=>§⟨_,w8 O⟩
÷runL{K:Nat}{vs:List Ä}(h1:1<=K)(h8:K<=8)(hv:vs.length=2 ^ K)(O:Ora prog w A s κ (vs.toArray.zip vs.toArray) (2 ^ K) (v80 K)):MySort.F72 prog w A s vs (λp=>p=sN K) κ:=by
 ¤⟨sN K,rfl,λE Q q=>?_⟩
 ¶⟨pp,e⟩:=U82 (E:=E) h1 h8 O
 have r:=(j30 (E:=E) O).sim (T0 K) () (TZ K pp) e (λu st s'=>s'=s/\failedOf st=none/\arrOf st=((sN K).toArray).map (õ (vs.toArray.zip vs.toArray))) ⟨rfl,rfl,rfl⟩
 have est:Ì1 κ (vs.toArray.zip vs.toArray) #[] 7 none=co κ (vs.toArray.zip vs.toArray) (T0 K):=by
  have e:=kas_range (vs.toArray.zip vs.toArray)
  rw[show(vs.toArray.zip vs.toArray).size=2 ^ K by simp[hv]] at e
  show _=Ì1 κ ((toArray (í (2 ^ K))).map (õ (vs.toArray.zip vs.toArray))) #[] 7 none
  rw[e]
 rw[est]
 ¤Â1 r (λx s' h=>?_) λ_ _ e=>e
 ¶⟨rfl,h2,h3⟩:=h
 §q x.2 h2 h3
end
end TS
namespace HT
open PySem PyProof.Rows
section
open PySem.SeqAt
open PySem.AutoSeq1 (wpAny_loadPart')
open PySem.MeetsSeq PySem.MeetsSeq2 PySem.MeetsSeq3
open MySort (h70)
def leB(ns ms:List Int):Bool:=!h70 ms ns
÷L11(x y:Int)(r q:List Int):leB (x::r) (y::q)=if x=y then leB r q else decide (x<=y):=by
 show(!(if y=x then h70 q r else decide (y < x)))=_
 by_cases e:x=y
 ·rw[if_pos e,if_pos e.symm];rfl
 ·rw[if_neg e,if_neg (Â3 e)]
  by_cases l:y < x
  ·rw[decide_eq_true l,decide_eq_false (by omega)];rfl
  ·rw[decide_eq_false l,decide_eq_true (by omega)];rfl
÷L21(A:ø)(s:Æ)(a:Int)(t:Tok)(c:Int)(u:Tok)(P:ß)(w:è)(E:Ä->Æ->Prop)(Q:Ä->Æ->Prop)(h:Q (.bool (decide (a<=c))) s):Ï (Ô P w) A (richCompare .LtE (.int a t) (.int c u)) Q E s :=
 (PyProof.Rows.le_int h:Ï (Ô P w) A (ü .LtE (.int a t) (.int c u)) Q E s)
÷K60(l b:Ç)(i1 i2:Array Ä)(n n2:Nat)(dd dd2:Option Ç)(sl sl2:Array (Option Ä))(ns ms:List Int)(hi:Ë5 i1.toList ns)(hj:Ë5 i2.toList ms) :
  Meets (ÿ.«tuple.__le__» ⟨[.ref l,.ref b],[]⟩) (λ_ R s=>s.heap.get? l=some { cls:=.type "tuple",dict:=dd,data:=.seq i1 n,slots:=sl }/\s.heap.get? b=some { cls:=.type "tuple",dict:=dd2,data:=.seq i2 n2,slots:=sl2 }/\R (.ok (.ret (.bool (leB ns ms)))) s) :=
 .of_wp λP w A R s h=>by
  ¶⟨hp,g,d,tk,os⟩:=s;¶⟨hl,hb,h⟩:=h
  have f2:=Ý2
  have z1:i1.size=ns.length:=by rw[← hi.length];simp
  have z2:i2.size=ms.length:=by rw[← hj.length];simp
  wp_walk using Ä7 hl,Ä7 hb,wpAny_forIn_list _ (λrest b s'=>b.1=none/\s'=⟨hp,g,d,tk,os⟩/\∃ (vs ws:List Ä) (ns' ms':List Int),rest=vs.zip ws/\Ë5 vs ns'/\Ë5 ws ms'/\ns'.length + i2.size=ms'.length + i1.size/\R (.ok (.ret (.bool (leB ns' ms')))) ⟨hp,g,d,tk,os⟩) _
  case turn =>
   rintro ⟨y,x⟩ rest b s' ⟨hb',rfl,vs,ws,ns',ms',hz,hvi,hwi,hlen,hR⟩
   cases hvi with
   |nil=>rw[Ú0] at hz;cases hz
   |cons a t hvi' =>
    cases hwi with
    |nil=>rw[List.zip_nil_right] at hz;cases hz
    |cons c u hwi' =>
     rw[Ê3] at hz;injection hz with hyx hrest;injection hyx with hy hx;subst hy hx
     rw[L11] at hR;simp only[Ü] at hlen
     ¶⟨e,he,hiff⟩:=I91 A.in1 ⟨hp,g,d,tk,os⟩ a t c u
     ¤À (he P w _ _ ?_)
     cases e with
     |true =>
      rw[if_pos (hiff.mp rfl)] at hR;wp_walk
      §⟨rfl,rfl,_,_,_,_,hrest,hvi',hwi',by omega,hR⟩
     |false =>
      rw[if_neg (λq=>absurd (hiff.mpr q) Ð)] at hR
      have hri:=L21 A.in1 ⟨hp,g,d,tk,os⟩ a t c u P w
      wp_walk using hri
      §⟨_,rfl,by simpa using hR⟩
  case fin =>
   rintro ⟨b1,b2⟩ s' ⟨hb',rfl,vs,ws,ns',ms',hz,hvi,hwi,hlen,hR⟩
   simp only at hb';subst hb'
   have hv:leB ns' ms'=decide (i1.size<=i2.size):=by
    cases hvi with
    |nil =>
     cases hwi with
     |nil=>simp only[Á0] at hlen;§(decide_eq_true (by omega)).symm
     |cons c u hw=>simp only[Á0,Ü] at hlen;§(decide_eq_true (by omega)).symm
    |cons a t hv =>
     cases hwi with
     |nil=>simp only[Á0,Ü] at hlen;§(decide_eq_false (by omega)).symm
     |cons c u hw=>rw[Ê3] at hz;cases hz
   rw[hv] at hR;wp_walk
   §⟨_,rfl,by simpa [tupleCompareSizes] using hR⟩
  case h=>§⟨rfl,rfl,i1.toList,i2.toList,ns,ms,rfl,hi,hj,by omega,h⟩
end
section
variable {P:ß}{w:è}{A:ø}{E:Ä->Æ->Prop}{s:Æ}
÷m61{l b:Ç}{i1 i2:Array Ä}{ns ms:List Int}{Q:Ä->Æ->Prop}(hl:Ï0 s.heap l i1)(hb:Ï0 s.heap b i2)(hi:Ë5 i1.toList ns)(hj:Ë5 i2.toList ms)
  (hu:A.units < Å9) (h:Q (.bool (leB ns ms)) s):Ï (Ô P w) A (ü .LtE (.ref l) (.ref b)) Q E s:=by
 ¶⟨⟨cls,dd,data,sl⟩,ho,hc,n,hd⟩:=id hl;¶⟨⟨cls2,dd2,data2,sl2⟩,ho2,hc2,n2,hd2⟩:=id hb
 simp only at hc hd hc2 hd2;subst hc hd hc2 hd2
 §richCompare_meets_room (op:=.LtE) ⟨_,ho,rfl⟩ ⟨_,ho2,rfl⟩ PySem.F.slot_tuple_le PySem.F.entry_tuple_le (PySem.F.args_tuple_le_2 _ _) (K60 l b i1 i2 n n2 dd dd2 sl sl2 ns ms hi hj)
  ⟨ho,ho2,show Î7 (leB ns ms)≠Õ2/\Q (.bool (leB ns ms)) s from⟨(λx=>nomatch x),h⟩⟩ hu
÷b12{t b:Ç}{ws:List Ä}{Q:Ä->Æ->Prop}(ht:Ï0 s.heap t #[])(hb:Ï0 s.heap b ws.toArray)(h:Q (.ref b) s):Ï (Ô P w) A (Ä2 .Add (.ref t) (.ref b)) Q E s:=by
 ¶⟨⟨cls,dd,data,sl⟩,ho,hc,n,hd⟩:=id ht;¶⟨⟨cls2,dd2,data2,sl2⟩,ho2,hc2,n2,hd2⟩:=id hb
 simp only at hc hd hc2 hd2;subst hc hd hc2 hd2
 §concat_meets ⟨_,ho,rfl⟩ ⟨_,ho2,rfl⟩ ß4 seq_tuple_add Ò1 Ð9 (Ï6 _ _) (tuple_addW0 t b #[] ws.toArray n n2 dd dd2 sl sl2 (by simp)) ⟨ho,ho2,h⟩
÷S00:seqRepeat? (.type "tuple")=pure (some (.builtin "tuple.__mul__")):=by
 first | kernel_rfl | rfl | (unfold seqRepeat?;kernel_rfl)
÷z30:fillsNumberSlot (.type "tuple") "mul"=pure false:=by
 first | kernel_rfl | rfl
÷m71(a:Int)(t:Tok)(l:Ç)(xs:Array Ä)(n:Nat)(dd:Option Ç)(sl:Array (Option Ä)) :
  Meets (ÿ.«int.__rmul__» ⟨[.int a t,.ref l],[]⟩) (λ_ R s=>s.heap.get? l=some { cls:=.type "tuple",dict:=dd,data:=.seq xs n,slots:=sl }/\R (.ok (.ret Õ2)) s) :=
 .of_wp λP w A R s h=>by ¶⟨hp,g,d,tk,os⟩:=s;¶⟨hl,h⟩:=h;wp_walk;§⟨_,rfl,h⟩
÷L31(l:Ç)(xs:Array Ä)(k:Int)(u:Tok)(n:Nat)(dd:Option Ç)(sl:Array (Option Ä))(h1:¬ (decide (k < -(2 ^ 63)) || decide (k ≥ 2 ^ 63))=true)(h2:(xs.isEmpty || k == 1)=true) :
  Meets (ÿ.«tuple.__mul__» ⟨[.ref l,.int k u],[]⟩) (λ_ R s=>s.heap.get? l=some { cls:=.type "tuple",dict:=dd,data:=.seq xs n,slots:=sl }/\R (.ok (.ret (.ref l))) s) :=
 .of_wp λP w A R s h=>by
  ¶⟨hp,g,d,tk,os⟩:=s;¶⟨hl,h⟩:=h
  have f1:=Ø5
  wp_walk using Ã8 hl
  simp only[h1,if_false]
  wp_walk using Ã8 hl
  §⟨_,rfl,h⟩
÷mul_zero(l:Ç)(xs:Array Ä)(k:Int)(u:Tok)(n:Nat)(dd:Option Ç)(sl:Array (Option Ä))(h1:¬ (decide (k < -(2 ^ 63)) || decide (k ≥ 2 ^ 63))=true)(h2:¬ (xs.isEmpty || k == 1)=true)(h3:(decide (k<=0) || xs.isEmpty)=true) :
  Meets (ÿ.«tuple.__mul__» ⟨[.ref l,.int k u],[]⟩) (λ_ R s=>s.heap.get? l=some { cls:=.type "tuple",dict:=dd,data:=.seq xs n,slots:=sl }/\R (.ok (.ret (.ref s.heap.objs.size))) { s with heap:=s.heap.push { cls:=.type "tuple",data:=.seq #[] } }) :=
 .of_wp λP w A R s h=>by
  ¶⟨hp,g,d,tk,os⟩:=s;¶⟨hl,h⟩:=h
  have f1:=Ø5
  wp_walk using Ã8 hl
  simp only[h1,if_false]
  wp_walk using Ã8 hl
  §⟨_,rfl,h⟩
÷L41(l:Ç)(xs:Array Ä)(k:Int)(u:Tok)(n:Nat)(dd:Option Ç)(sl:Array (Option Ä))(h1:¬ (decide (k < -(2 ^ 63)) || decide (k ≥ 2 ^ 63))=true)(h2:¬ (xs.isEmpty || k == 1)=true)(h3:¬ (decide (k<=0) || xs.isEmpty)=true)
  (h4:¬ (xs.size:Int) * k > (2 ^ 63 - 1) / 8) (h5:¬ tupleTooMany ((xs.size:Int) * k)=true) (h6:(foldl (λx y=>x++y) #[] (î k.toNat xs)).size<=Û) :
  Meets (ÿ.«tuple.__mul__» ⟨[.ref l,.int k u],[]⟩) (λ_ R s=>s.heap.get? l=some { cls:=.type "tuple",dict:=dd,data:=.seq xs n,slots:=sl }/\R (.ok (.ret (.ref s.heap.objs.size))) { s with heap:=s.heap.push { cls:=.type "tuple",data:=.seq (foldl (λx y=>x++y) #[] (î k.toNat xs)) } }) :=
 .of_wp λP w A R s h=>by
  ¶⟨hp,g,d,tk,os⟩:=s;¶⟨hl,h⟩:=h
  have f1:=Ø5
  wp_walk using Ã8 hl
  simp only[h1,if_false]
  wp_walk using Ã8 hl
  simp only[h4,h5,if_false]
  ¤À (m:=Ç0 _) (æ (Å ?_) h6)
  §⟨_,rfl,h⟩
end
÷u00(f:α->Option β)(g:α->β):∀ (l:List α),(∀ k∈l,f k=some (g k))->l.filterMap f=l.map g
 |[],_=>rfl
 |x::r,h=>by rw[Á3,h x Ì,Å7,u00 f g r λk hk=>h k (È _ hk)]
section
variable {P:ß}{w:è}{A:ø}{E:Ä->Æ->Prop}{s:Æ}
÷s00{t sl:Ç}{xs:Array Ä}{vl vu:Ä}{lo hi:Option Int}{Q:Ä->Æ->Prop}(ht:Ï0 s.heap t xs)(hs:s.heap.IsSliceOf sl vl vu .none)(pl:Ù4 vl lo)(pu:Ù4 vu hi)
  (hw:sIx xs.size 0 lo=0/\sIx xs.size xs.size hi=xs.size) (h:Q (.ref t) s):Ï (Ô P w) A (Ó3 (.ref t) (.ref sl)) Q E s:=by
 ¶⟨os,hos,hcs,hds⟩:=id hs
 have hTs:s.TypeIs (.ref sl) "slice":=⟨os,hos,hcs⟩
 unfold Ó3;try with_reducible ¤À7 ?_
 first | ¤À (Å ?_) | skip
 ¤À (Ý3 ht.typeIs (by decide) ?_);¤À (À5 (name:=À9 "__getitem__") ht.typeIs ò (À4 ò ht.typeIs entry_tuple_getitem ?_ (Ü4 _ _)))
 show Ï _ _ (tupleItemsOf (.ref t) >>= _) _ _ s;¤À (tupleItemsOf_ ht (À (Ç7 hTs ?_)))
 rw[if_pos (by decide)];¤À (m80 hs pl pu ?_)
 rw[hw.1,hw.2]
 show Ï _ _ (if (((0:Nat):Int) == 0&&(1:Int) == 1&&(xs.size - 0) == xs.size)=true then _ else _) _ _ s
 rw[if_pos (by simp)]
 ¤À (m:=tupleIsExact _) ?_
 unfold tupleIsExact
 ¤À (Ç7 ht.typeIs (Å ?_))
 rw[if_pos (by decide)]
 first
  |§À (É8 (Å ⟨_,rfl,Å h⟩))
  |§À (É8 (À (Å (Å ⟨_,rfl,Å h⟩))))
÷w20{t sl:Ç}{xs:List Ä}{u:Tok}{Q:Ä->Æ->Prop}(ht:Ï0 s.heap t xs.toArray)(hs:s.heap.IsSliceOf sl .none .none (.int (-1) u))
  (h:Q (.ref s.heap.objs.size) { s with heap:=s.heap.push { cls:=.type "tuple",data:=.seq xs.reverse.toArray } }) (hz:xs.length<=Û):Ï (Ô P w) A (Ó3 (.ref t) (.ref sl)) Q E s:=by
 ¶⟨os,hos,hcs,hds⟩:=id hs
 have hTs:s.TypeIs (.ref sl) "slice":=⟨os,hos,hcs⟩
 unfold Ó3;try with_reducible ¤À7 ?_
 first | ¤À (Å ?_) | skip
 ¤À (Ý3 ht.typeIs (by decide) ?_);¤À (À5 (name:=À9 "__getitem__") ht.typeIs ò (À4 ò ht.typeIs entry_tuple_getitem ?_ (Ü4 _ _)))
 show Ï _ _ (tupleItemsOf (.ref t) >>= _) _ _ s;¤À (tupleItemsOf_ ht (À (Ç7 hTs ?_)))
 rw[if_pos (by decide)]
 have app:∀ {R:Int × Int × Nat->Æ->Prop},R ((xs.length:Int) - 1,-1,xs.length) s->Ï (Ô P w) A.in1 (Ô5 (.ref sl) (pure (xs.toArray.size:Int))) R E s:=λ{R} q=>by
  unfold Ô5 sliceFields
  ¤À (À (Á5 hos hds (x:=.none) rfl (À (Á5 hos hds (x:=.none) rfl (À (Á5 hos hds (x:=.int (-1) u) rfl (Å ?_)))))))
  ¤À (slicePart_int ?_)
  show Ï _ _ (if ((-1:Int) == 0)=true then _ else _) _ _ s
  rw[if_neg (by decide)]
  ¤À (Ø8 (À (Ø8 (À (Å ?_)))))
  have e1:Í2 none none (-1) (xs.toArray.size:Int)=((xs.length:Int) - 1,-1):=by simp[Í2]
  have e2:È9 ((xs.length:Int) - 1) (-1) (-1)=xs.length:=by
   unfold È9
   rw[if_neg (by decide)]
   split
   ·simp only[Int.neg_neg,Int.ediv_one];omega
   ·omega
  show Ï _ _ (match Í2 none none (-1) (xs.toArray.size:Int) with | (lo,hi)=>pure (lo,(-1:Int),È9 lo hi (-1))) _ _ s
  rw[e1]
  show Ï _ _ (pure ((xs.length:Int) - 1,(-1:Int),È9 ((xs.length:Int) - 1) (-1) (-1))) _ _ s
  rw[e2]
  §Å q
 ¤À (app ?_)
 show Ï _ _ (if (((xs.length:Int) - 1) == 0&&(-1:Int) == 1&&xs.length == xs.toArray.size)=true then _ else _) _ _ s
 rw[if_neg (by simp)]
 have pick:((í xs.length).filterMap λ(k:Nat)=>xs.toArray[((xs.length:Int) - 1 + (k:Int) * -1).toNat]?)=xs.reverse:=by
  ¤List.ext_getElem? λi=>?_
  have hall:∀ k∈í xs.length,xs.toArray[((xs.length:Int) - 1 + (k:Int) * -1).toNat]?=some (xs.getD (xs.length - 1 - k) â):=λk hk=>by
   have hk':k < xs.length:=by simpa using hk
   have e:((xs.length:Int) - 1 + (k:Int) * -1).toNat=xs.length - 1 - k:=by omega
   rw[e]
   have:xs.length - 1 - k < xs.length:=by omega
   simp[this]
  rw[u00 _ _ _ hall,Ý]
  by_cases hi:i < xs.length
  ·have h2:xs.length - 1 - i < xs.length:=by omega
   rw[É7 hi,List.getElem?_reverse hi]
   simp[h2]
  ·rw[á6 (by simpa using hi),á6 (by simpa using hi)];rfl
 rw[pick]
 have hsz:sizeOk (.seq xs.reverse.toArray):=by show xs.reverse.toArray.size<=Û;rw[Ó,Ì0];§hz
 first
  |§À (m:=Ç0 _) (æ (Å ⟨_,rfl,Å h⟩) hsz)
  |§À (m:=Ç0 _) (æ (À (Å (Å ⟨_,rfl,Å h⟩))) hsz)
  |§À (À (m:=Ç0 _) (æ (Å (Å ⟨_,rfl,Å h⟩)) hsz))
  |§À (À (m:=Ç0 _) (æ (Å ⟨_,rfl,Å h⟩) hsz))
end
end HT
namespace L2
open PySem PySem.Spec PyProof.Rows
÷a30.sqT{K:Â}{H H':Hp}{a:Ç}{xs:List V}(e:a30 H H')(h:SqT K H a xs):SqT K H' a xs:=by
 rcases h with (h | ⟨o,h⟩) | h
 ·§.inl (.inl (e _ _ h))
 ·§.inl (.inr ⟨o,e _ _ h⟩)
 ·§.inr h
÷a30.new(o:HO)(n:H p=none):a30 H (upd H p o):=λb u e=>by rw[a60 (a80 e n)];§e
def L51(K:Â)(H:Hp)(zs:List V)(Q:VK):Prop:=∀ p H',a30 H H'->SqT K H' p zs->Q (.ref p) H'
section
variable {X:Cx}{pins:List (Ç × Obj)}{σ:St}{H:Hp}{s:Æ}
÷L51.here(q:L51 X.K H zs Q)(I:Inv X pins σ H s)(h:SqT X.K H a zs):EP X pins σ Q (.ref a) s:=⟨.ref a,H,I,rfl,q a H (a30.refl H) h⟩
÷L51.new(q:L51 X.K H zs Q)(I:Inv X pins σ H s)(r:Vals zs us)(hz:zs.length<=Û) :
  EP X pins σ Q (.ref s.heap.objs.size) { s with heap:=s.heap.push { cls:=.type "tuple",data:=.seq us.toArray } } :=
 have hn:H s.heap.objs.size=none:=I.hok.fresh (Í _)
 ⟨.ref s.heap.objs.size,_,I.laid (t':=s.toks) (o:=.tup zs) (λb ob q=>Ã _ q) (Í _) ⟨hz,_,r,Ï0.new _ _⟩,rfl,q _ _ (a30.new _ hn) (SqT.of b20)⟩
end
section
variable {X:Cx}
def U92(K:Â):R2:=λx y H Q=>∃ a b ns ms,x=.ref a/\y=.ref b/\SqT K H a (ns.map V.int)/\SqT K H b (ms.map V.int)/\Q (.bl (HT.leB ns ms)) H
÷q02(hu:X.A.units < Å9):OpR X (ü .LtE) (U92 X.K):=by
 intro pins s σ H x y v u Q I rx ry h
 ¶⟨a,b,ns,ms,rfl,rfl,ha,hb,q⟩:=h
 cases rx;cases ry
 ¶⟨v1,r1,p1,_⟩:=I.tuple ha
 ¶⟨v2,r2,p2,_⟩:=I.tuple hb
 §HT.m61 p1 p2 (show Ë5 v1.toArray.toList ns from intsAre_of r1) (show Ë5 v2.toArray.toList ms from intsAre_of r2) hu ⟨.bl (HT.leB ns ms),H,I,rfl,q⟩
def G22(K:Â):R2:=λx y H Q=>∃ a b xs ys,x=.ref a/\y=.ref b/\SqT K H a xs/\SqT K H b ys/\xs.length + ys.length<=Û/\L51 K H (xs++ys) Q
÷b22:OpR X (Ä2 .Add) (G22 X.K):=by
 intro pins s σ H x y v u Q I rx ry h
 ¶⟨a,b,xs,ys,rfl,rfl,ha,hb,hz,q⟩:=h
 cases rx;cases ry
 ¶⟨v1,r1,p1,_⟩:=I.tuple ha
 ¶⟨v2,r2,p2,_⟩:=I.tuple hb
 by_cases hx:xs=[]
 ·subst hx
  have e:=r1.J30.mpr rfl
  subst e
  §HT.b12 p1 p2 (q.here I hb)
 ·¤HT.Z21 p1 p2 (λz=>hx (r1.J30.mp z)) (λz=>?_) (λz=>q.new I (r1.append r2) (by rw[Á9];§hz)) (by rw[← r1.length,← r2.length];§hz)
  have e:=r2.J30.mp z
  subst e
  rw[append_nil] at q
  §q.here I ha
def G32(K:Â):R2:=λx y H Q=>∃ a k xs,x=.ref a/\y=.int k/\SqT K H a xs/\0<=k/\k < 1000000/\k.toNat * xs.length<=Û/\L51 K H (î k.toNat xs).flatten Q
÷b32:OpR X (Ä2 .Mult) (G32 X.K):=by
 intro pins s σ H x y v u Q I rx ry h
 ¶⟨a,k,xs,rfl,rfl,ha,hk,hk2,hz,q⟩:=h
 cases rx
 ¶⟨t,rfl⟩:=ry
 ¶⟨v1,r1,p1,_⟩:=I.tuple ha
 have hl:=r1.length
 ¶⟨⟨cls,dd,data,sl⟩,ho,hc,n,hd⟩:=id p1
 simp only at hc hd;subst hc hd
 have h1:¬ (decide (k < -(2 ^ 63)) || decide (k ≥ 2 ^ 63))=true:=by simp;omega
 ¤wpAny_binaryOp_repeat_ref (T:="tuple") (U:="int") (by decide) ⟨_,ho,rfl⟩ (λs'=>Ü1 s' k t) HT.z30 F.fills_int_mul Õ7 HT.S00 F.slot_int_index.lookup
  (È2 Õ7 (Ü1 s k t) F.entry_int_rmul (F.args_int_rmul_2 _ _) (HT.m71 k t a v1.toArray n dd sl) ⟨ho,rfl,⟨_,ho,rfl⟩,?_⟩)
 by_cases hx:v1=[]∨k=1
 ·¤È2 Þ2 ⟨_,ho,rfl⟩ Ü8 (Û1 _ _) (HT.L31 a v1.toArray k t n dd sl h1 (by rcases hx with hx | hx <;> simp[hx])) ⟨ho,?_⟩
  have e2:(î k.toNat xs).flatten=xs:=by
   rcases hx with hx | hx
   ·rw[r1.J30.mp hx];simp
   ·rw[hx];simp
  rw[e2] at q
  §q.here I ha
 ·have hv:v1≠[]:=λz=>hx (.inl z)
  have h2:¬ (v1.toArray.isEmpty || k == 1)=true:=by simp[hv];§λz=>hx (.inr z)
  by_cases hk0:k=0
  ·¤È2 Þ2 ⟨_,ho,rfl⟩ Ü8 (Û1 _ _) (HT.mul_zero a v1.toArray k t n dd sl h1 h2 (by simp[hk0])) ⟨ho,?_⟩
   rw[show(î k.toNat xs).flatten=[] by rw[hk0];rfl] at q
   §q.new I .nil (Æ1 _)
  have hpos:0 < v1.length:=List.length_pos_iff.mpr hv
  have hfl:foldl (λx y=>x++y) #[] (î k.toNat v1.toArray)=(î k.toNat v1).flatten.toArray:=by
   have:=foldl_rep v1 k.toNat []
   rw[Ì8] at this
   §this
  have hsz:v1.length * k.toNat<=sizeLine:=by rw[← hl,Ó9];§hz
  have hcast:((v1.toArray.size:Nat):Int) * k=((v1.length * k.toNat:Nat):Int):=by rw[Ó,Int.natCast_mul,Int.toNat_of_nonneg (by omega)]
  have hline:(Û:Nat)<=(2 ^ 63 - 1) / 8:=by decide
  ¤È2 Þ2 ⟨_,ho,rfl⟩ Ü8 (Û1 _ _) (HT.L41 a v1.toArray k t n dd sl h1 h2 (by simp[hv];omega) (by rw[hcast];generalize v1.length * k.toNat=m at hsz;omega) (by rw[hcast];generalize v1.length * k.toNat=m at hsz;unfold tupleTooMany;intro z;have z':=of_decide_eq_true z;omega)
   (by rw[hfl,Ó,len_rep,Ó9];§hsz)) ⟨ho,?_⟩
  rw[hfl]
  §q.new I (r1.rep k.toNat) (by rw[len_rep];§hz)
def V02(K:Â):V->Option Int->Option Int->Hp->VK->Prop:=λx lo hi H Q=>∃ a xs,x=.ref a/\SqT K H a xs/\L51 K H (J21 xs lo hi) Q
÷b42:SlR X (V02 X.K):=by
 intro pins s σ H x v vl vu lo hi sl Q I rx hs pl pu h
 ¶⟨a,xs,rfl,hx,q⟩:=h
 cases rx
 ¶⟨its,r,ht,hz⟩:=I.tuple hx
 have hlen:its.toArray.size=xs.length:=by rw[Ó];§r.length.symm
 ¤⟨"tuple",_,ò.lookup,ht.typeIs,?_⟩
 by_cases hw:HT.sIx xs.length 0 lo=0/\HT.sIx xs.length xs.length hi=xs.length
 ·¤HT.s00 ht hs pl pu (by rw[hlen];§hw) ?_
  have e:J21 xs lo hi=xs:=by unfold J21;rw[hw.1,hw.2];simp
  rw[e] at q
  §q.here I hx
 ·¤HT.w00 ht hs pl pu (by rw[hlen];§hw) ?_ (by rw[hlen];§hz)
  rw[hlen]
  §q.new I ((r.drop (HT.sIx xs.length 0 lo)).take (HT.sIx xs.length xs.length hi - HT.sIx xs.length 0 lo)) (Ñ (B40 xs lo hi) hz)
def B82(K:Â)(te ts:TE):TE:=λσ H Q=>te σ H λx H1=>ts σ H1 λy H2=>y=.int (-1)/\((∃ a xs,x=.ref a/\SqT K H2 a xs/\L51 K H2 xs.reverse Q)∨∃ a xs,x=.ref a/\SqL K H2 a xs/\∀ p,H2 p=none->Q (.ref p) (upd H2 p (.lst xs.reverse)))
÷q12{e st:Ò}{te ts:TE}{p2 pos:Pos}(he:PE X e te)(hst:PE X st ts):PE X (.Subscript e (.Slice none none (some st) p2) pos) (B82 X.K te ts):=by
 intro pins s σ H Q I h
 ¤Subscript_ (thn (he pins s σ H _ I h) λv s1 ⟨x,H1,I1,r1,q1⟩=>?_)
 ¤wpAny_Slice ?_
 rw[evalPart_none]
 ¤Å (Å ?_)
 rw[evalPart_some]
 ¤thn (hst pins s1 σ H1 _ I1 q1) λw' s2 ⟨y,H2,I2,r2,q2⟩=>?_
 ¶⟨rfl,q2⟩:=q2
 ¶⟨t,rfl⟩:=r2
 have I4:Inv X pins σ H2 { s2 with heap:=s2.heap.push { cls:=.type "slice",data:=.fields #[.none,.none,.int (-1) t] } }:=I2.kept (t':=s2.toks) λb ob q=>Ã _ q
 show Ï (Ô X.prog X.w) X.A (subscriptTail e (.Slice none none (some st) p2) v (.ref s2.heap.objs.size)) (EP X pins σ Q) X.xe { s2 with heap:=s2.heap.push { cls:=.type "slice",data:=.fields #[.none,.none,.int (-1) t] } }
 rcases q2 with ⟨a,xs,rfl,hq,q⟩ | ⟨a,xs,rfl,hq,q⟩
 ·cases r1
  ¶⟨its,r,ht,hz⟩:=I4.tuple hq
  §tail_any (ops:=[.ref a,.ref s2.heap.objs.size]) ht.typeIs ò.lookup (HT.w20 ht (Ò8 ..) (q.new I4 r.reverse (by rw[Ì0];§hz)) (by rw[← r.length];§hz)) (by with_unfolding_all rfl)
 ·cases r1
  ¶⟨its,r,ht,hz⟩:=I4.list hq
  have hlen:=r.length
  ¤tail_any (ops:=[.ref a,.ref s2.heap.objs.size]) ht.isList.typeIs slot_list_getitem.lookup (wpAny_getItem_list_slice ht.isList (Ò8 ..) .none .none (.int (-1) t) (by simp) ?_ (by rw[Ó] <;> omega)) (by with_unfolding_all rfl)
  rw[PySem.W.krv_pick]
  ¤⟨.ref _,_,I4.laid (t':=s2.toks) (o:=.lst xs.reverse) (λb ob q=>Ã _ q) (Í _) ?_,rfl,q _ (I4.hok.fresh (Í _))⟩
  §⟨by rw[Ì0];§hz,its.reverse,0,r.reverse,Ë _ rfl⟩
÷q22:OpR X (ü .Is) (λx y H Q=>∃ b c,x=.bl b/\y=.bl c/\Q (.bl (b == c)) H):=by
 intro pins s σ H x y v u Q I rx ry h
 ¶⟨b,c,rfl,rfl,q⟩:=h
 cases rx;cases ry
 §is_bool (e51 I q rfl)
÷q32:OpR X (ü .IsNot) (λx y H Q=>∃ b c,x=.bl b/\y=.bl c/\Q (.bl (b != c)) H):=by
 intro pins s σ H x y v u Q I rx ry h
 ¶⟨b,c,rfl,rfl,q⟩:=h
 cases rx;cases ry
 §isnot_bool (e51 I q rfl)
÷Inv.big(I:Inv X pins σ H s):sysModules < s.heap.objs.size:=by
 have h:ä < s.heap.objs.size:=(I.mod.glob.keeps I.bk).lt
 §Nat.lt_trans (by decide) h
def G42:TE:=λ_ H Q=>∀ p,H p=none->Q (.ref p) (upd H p (.dK []))
÷b52{pos:Pos}:PE X (.Dict [] [] pos) G42:=λpins s σ H Q I h =>
 wpAny_Dict_empty ⟨.ref s.heap.objs.size,_,I.laid (a:=s.heap.objs.size) (o:=.dK []) (t':=s.toks) (λ_ _ q=>Ã _ q) (Í _) ⟨Æ1 _,beq_eq_false_iff_ne.mpr (Â3 (Ø I.big)),[],.nil,ì.DictOf.new _⟩,rfl,h _ (I.hok.fresh (Í _))⟩
end
end L2
namespace MySort
open PySem PySem.W PyProof.Rows
section
variable {P:ß}{w:è}{A:ø}{E:Ä->Æ->Prop}{s:Æ}
÷Z40{l:Ç}{o:Obj}{vs:List Ä}{n:Nat}{Q:List Ä->Æ->Prop}(ho:s.heap.get? l=some o)(hc:o.cls=.type "list"∨o.cls=.type "tuple")(hd:o.data=.seq vs.toArray n)
  (h:Q vs { s with heap:=(s.heap.push (Ã1 "list" #[] 0)).update s.heap.objs.size (À1 (·++vs.toArray)) }) (hz:vs.length<=Û):Ï (Ô P w) A (collect (.ref l)) Q E s:=by
 unfold collect
 ¤À (Ø7 (Â2 entry_proto_collect' ?_));show Ï _ _ (do again (.builtin "list.__iadd__" ⟨[← newList [],.ref l],[]⟩)) _ _ s
 ¤À (Û6 (Å ⟨Ø4 _ (by decide +kernel),Â2 entry_list_iadd' ?_⟩))
 show Ï _ _ (Ä4 (.ref s.heap.objs.size) (.ref l) (.ref s.heap.objs.size)) _ _ { s with heap:=s.heap.push (Ã1 "list" #[] 0) }
 unfold Ä4
 have ho':(s.heap.push (Ã1 "list" #[] 0)).get? l=some o:=Ã _ ho
 have fin:Ï (Ô P w) A (do
   let o ← load s.heap.objs.size
   match o.data with
   |.seq xs _=>pure xs.toList
   |_=>unsupported "internal:collect") Q E { s with heap:=(s.heap.push (Ã1 "list" #[] 0)).update s.heap.objs.size (À1 (·++vs.toArray)) }:=by
  ¤À (wpAny_load (à9 (Ë _ rfl) _) ?_)
  show Ï _ _ (pure ((#[]:Array Ä)++vs.toArray).toList) Q E _
  rw[show((#[]:Array Ä)++vs.toArray).toList=vs by simp];§Å h
 rcases hc with hc | hc
 ·¤À (Ç7 (T:="list") ⟨o,ho',hc⟩ ?_);rw[if_pos (by rw[show(Á6 "list" == Á6 "list")=true by rfl];simp)]
  ¤À (Ð5 ho' hd (À (Ð5 (xs:=#[]) (n:=0) (Ë _ rfl) rfl ?_)));rw[if_neg (by simp)]
  §À (Û7 (xs:=#[]) (n:=0) (Ë _ rfl) rfl (Å fin) (Æ1 _) (by show(#[]++vs.toArray).size<=Û + 1;simp only[Array.size_append,Ó,Á0];omega))
 ·¤À (Ç7 (T:="tuple") ⟨o,ho',hc⟩ ?_);rw[if_pos (by rw[show(Á6 "tuple" == Á6 "tuple")=true by rfl];simp)]
  ¤À (Ð5 ho' hd (À (Ð5 (xs:=#[]) (n:=0) (Ë _ rfl) rfl ?_)));rw[if_neg (by simp)]
  §À (Û7 (xs:=#[]) (n:=0) (Ë _ rfl) rfl (Å fin) (Æ1 _) (by show(#[]++vs.toArray).size<=Û + 1;simp only[Array.size_append,Ó,Á0];omega))
÷u01{l:Ç}{o:Obj}{vs:List Ä}{Pr:List Nat->Prop}{kd:Ì6}{n:Nat}{Q:Ä->Æ->Prop}(ho:s.heap.get? l=some o)(hc:o.cls=.type "list"∨o.cls=.type "tuple")(hd:o.data=.seq vs.toArray n)
  (hk:∀ h',t71 s.heap h'->l02 P w A.in1.in1 { s with heap:=h' } vs Pr kd)
  (h:∀ (p:List Nat) (h':ì) (c:Nat),Pr p->(∀ b o,s.heap.get? b=some o->h'.get? b=some o)->h'.get? (s.heap.objs.size + 1)=some (Ã1 "list" (p.map λi=>vs.getD i â).toArray c)->Q (.ref (s.heap.objs.size + 1)) { s with heap:=h' }) :
  Ï (Ô P w) A (call (.builtin "sorted") [.ref l]) Q E s:=by
 have h64:=(hk s.heap λ_ _ e _=>e).len
 ¤ß0 kind_sorted plain_sorted entry_sorted (args_sorted1 _) ?_;unfold ÿ.«sorted»
 ¤À (m:=checkCount "sorted" 1 1 _) (Å ?_);¤À (Z40 ho hc hd ?_ (by rw[Á2];omega));¤À (Û6 ?_ (by rw[Á2];omega))
 have hsz:((s.heap.push (Ã1 "list" #[] 0)).update s.heap.objs.size (À1 (·++vs.toArray))).objs.size=s.heap.objs.size + 1:=by rw[ì.size_update,size_push']
 have hoL:(((s.heap.push (Ã1 "list" #[] 0)).update s.heap.objs.size (À1 (·++vs.toArray))).push (Ã1 "list" vs.toArray 0)).get? (s.heap.objs.size + 1)=some (Ã1 "list" vs.toArray 0):=by rw[← hsz];§Ë _ rfl
 have keep:∀ b o,s.heap.get? b=some o->(((s.heap.push (Ã1 "list" #[] 0)).update s.heap.objs.size (À1 (·++vs.toArray))).push (Ã1 "list" vs.toArray 0)).get? b=some o:=λb o q=>by
  have hlt:b < s.heap.objs.size:=à q
  rw[ì.get?_push_ne _ _ _ (by rw[hsz];§Ø (Å0 hlt)),ì.get?_update_ne _ _ _ _ (Ø hlt),ì.get?_push_ne _ _ _ (Ø hlt)];§q
 show Ï _ _ _ _ _ { s with heap:=((s.heap.push (Ã1 "list" #[] 0)).update s.heap.objs.size (À1 (·++vs.toArray))).push (Ã1 "list" vs.toArray 0) }
 rw[hsz]
 ¤À (À7 (À4 slot_list_sort ⟨_,hoL,rfl⟩ entry_list_sort (f11 hoL (λh' kp=>hk h' λb o e hc=>kp b o (keep b o e) hc) λp h' c hp kp hD=>⟨_,rfl,Å ⟨_,rfl,h p h' c hp (λb o e=>kp b o (Ø (Å0 (à e))) (keep b o e)) hD⟩⟩) (args_list_sort _)))
end
end MySort
namespace L2
open PySem PySem.Spec PyProof.Rows
open MySort (sortedBy)
section
variable {X:Cx}
def b62(X:Cx)(H:Hp)(xs:List V)(Pr:List Nat->Prop):Prop:=∀ (pins:List (Ç × Obj)) (σ:St) (s:Æ) (us:List Ä),Inv X pins σ H s->Vals xs us->∃ kd,∀ h',MySort.t71 s.heap h'->MySort.l02 X.prog X.w X.A.in1.in1 { s with heap:=h' } us Pr kd
÷x80:f00 X (.builtin "sorted") (λargs H Q=>∃ a xs,∃ Pr:List Nat->Prop,args=[.ref a]/\(SqL X.K H a xs∨SqT X.K H a xs)/\b62 X H xs Pr/\(∀ p,Pr p->∀ i∈p,i < xs.length)/\∀ p l,Pr p->H l=none->Q (.ref l) (upd H l (.lst (p.map λi=>xs.getD i .non)))):=by
 intro pins s σ H args us Q I r h
 ¶⟨a,xs,Pr,rfl,hq,hk,hpr,q⟩:=h
 ¶⟨u,rfl,rx⟩:=vals1 r
 cases rx
 have go:∀ (its:List Ä) (o:Obj) (n:Nat),Vals xs its->s.heap.get? a=some o->(o.cls=.type "list"∨o.cls=.type "tuple")->o.data=.seq its.toArray n->Ï (Ô X.prog X.w) X.A (call (.builtin "sorted") [.ref a]) (EP X pins σ Q) X.xe s:=λits o n rv ho hc hd=>by
  ¶⟨kd,kw⟩:=hk pins σ s its I rv
  have k0:=kw s.heap λ_ _ e _=>e
  ¤MySort.u01 ho hc hd kw λp h' c hp kp hD=>?_
  have hn:H (s.heap.objs.size + 1)=none:=I.hok.fresh (É5 _ 1)
  have hlen:(p.map λi=>xs.getD i .non).length<=sizeLine:=by rw[É,k0.all p hp,Á2];have:=k0.len;omega
  have rv':Vals (p.map λi=>xs.getD i .non) (p.map λi=>its.getD i â):=by
   have hall:=hpr p hp
   clear hp hD hlen
   induction p with
   |nil=>§.nil
   |cons i r ih =>
    ¤.cons ?_ (ih λj hj=>hall j (È _ hj))
    have hi:=hall i Ì
    ¶⟨u,hu,ru⟩:=rv.get (i:=i) (x:=xs[i]) (by simp[hi])
    have e1:xs.getD i V.non=xs[i]:=by simp[hi]
    have e2:its.getD i â=u:=by rw[Ö,hu];rfl
    show RelV (xs.getD i V.non) (its.getD i â)
    rw[e1,e2];§ru
  §⟨.ref (s.heap.objs.size + 1),_,I.laid (t':=s.toks) kp (É5 _ 1) (show h50 X.prog X.w _ h' _ (.lst _) from⟨hlen,_,c,rv',hD⟩),rfl,q p _ hp hn⟩
 rcases hq with hq | hq
 ·¶⟨its,rv,pl,_⟩:=I.list hq
  ¶⟨o,ho,hc,n,hd⟩:=pl.isList
  §go its o n rv ho (.inl hc) hd
 ·¶⟨its,rv,⟨o,ho,hc,n,hd⟩,_⟩:=I.tuple hq
  §go its o n rv ho (.inr hc) hd
end
section
variable {K:Â}{g:TG}{tt:TT}{te:TE}{σ0:St}{H:Hp}{Q:VK}
÷L61{lo:Int}{n:Nat}(Pv:Nat->List V->Hp->Prop)(hz:n<=Û)(h0:Pv 0 [] H)(hl:∀ i ys H,Pv i ys H->ys.length<=i)
  (hs:∀ i ys H,i < n->Pv i ys H->g (.int (lo + i)) σ0 H λσ2 H2=>tt σ2 H2 λb H3=>if b=true then te σ2 H3 (λy H4=>Pv (i + 1) (ys++[y]) H4) else Pv (i + 1) ys H3)
  (hd:∀ ys H p,Pv n ys H->H p=none->Q (.ref p) (upd H p (.lst ys))):s71 (Itr lo n) σ0 H g tt te Q:=by
 ¤⟨λi m ys H=>m=n - i/\i<=n/\Pv i ys H,⟨n,by simp,Æ1 _,h0⟩,?_⟩
 rintro i m ys H ⟨rfl,hi,p⟩
 have hy:=hl i ys H p
 by_cases hlt:i < n
 ·¤.inr ⟨hlt,by omega,Pv (i + 1),λzs H' p'=>⟨n - (i + 1),by omega,rfl,hlt,p'⟩,λx H' y=>?_⟩
  ¶⟨e,y⟩:=y
  subst e y
  §hs i ys _ hlt p
 ·have e:i=n:=by omega
  subst e
  §.inl ⟨Í _,λz hz=>hd ys H z p hz⟩
end
inductive D where
 |non | bl (b:Bool) | int (i:Int) | str (x:Str) | tup (ds:List D) | lst (ds:List D) | dct
def D.ty:D->String
 |.non=>"NoneType"
 |.bl _=>"bool"
 |.int _=>"int"
 |.str _=>"str"
 |.tup _=>"tuple"
 |.lst _=>"list"
 |.dct=>"dict"
mutual
def Has(K:Â)(H:Hp):D->V->Prop
 |.non,v=>v=.non
 |.bl b,v=>v=.bl b
 |.int i,v=>v=.int i
 |.str x,v=>v=.str x
 |.tup ds,v=>∃ a xs,v=.ref a/\SqT K H a xs/\G60 K H ds xs
 |.lst ds,v=>∃ a xs,v=.ref a/\SqL K H a xs/\G60 K H ds xs
 |.dct,v=>∃ a kvs,v=.ref a/\H a=some (.dK kvs)
def G60(K:Â)(H:Hp):List D->List V->Prop
 |[],xs=>xs=[]
 |d::ds,xs=>∃ x r,xs=x::r/\Has K H d x/\G60 K H ds r
end
def isB(T C:String):Bool:=T == C || (T == "bool"&&C == "int")
÷b72(K:Â)(d:D):∀ C∈["int","bool","tuple","list","str"],Í8 K (.type d.ty) (.type C)=some (isB d.ty C):=by
 intro C hC
 simp only[Â9,À2,or_false] at hC
 rcases hC with rfl | rfl | rfl | rfl | rfl <;> cases d <;> first | rfl | kernel_rfl | decide +kernel
section
variable {X:Cx}
÷L71:f00 X (.builtin "isinstance") (λxs H Q=>∃ d x C,xs=[x,.ty C]/\Has X.K H d x/\C∈["int","bool","tuple","list","str"]/\Q (.bl (isB d.ty C)) H):=by
 intro pins s σ H xs us Q I r h
 ¶⟨d,x,C,rfl,hd,hC,q⟩:=h
 ¶⟨u,w',rfl,rx,rt⟩:=vals2 r
 cases (show w'=Á6 C from rt)
 have e:=b72 X.K d C hC
 have fin:∀ tk,EP X pins σ Q (.bool (isB d.ty C)) { s with toks:=tk }:=λtk=>⟨.bl _,H,I.tok tk,rfl,q⟩
 cases d with
 |non=>unfold Has at hd;subst hd;cases rx;§Ç1 kitx_none I.kIn Ê6 e (λz=>nomatch z) fin
 |bl b=>unfold Has at hd;subst hd;cases rx;§Ç1 kitx_bool I.kIn Ê6 e (λz=>nomatch z) fin
 |int i=>unfold Has at hd;subst hd;¶⟨t,rfl⟩:=rx;§Ç1 kitx_int I.kIn Ê6 e (λz=>nomatch z) fin
 |str y=>unfold Has at hd;subst hd;¶⟨t,rfl⟩:=rx;§Ç1 kitx_str I.kIn Ê6 e (λz=>nomatch z) fin
 |tup ds =>
  unfold Has at hd
  ¶⟨a,ys,rfl,hq,_⟩:=hd
  cases rx
  ¶⟨its,_,⟨o,h1,h2,_⟩,_⟩:=I.tuple hq
  §Ç1 kitx_tuple I.kIn ⟨o,h1,h2⟩ e (λz=>nomatch z) fin
 |lst ds =>
  unfold Has at hd
  ¶⟨a,ys,rfl,hq,_⟩:=hd
  cases rx
  ¶⟨its,_,pl,_⟩:=I.list hq
  ¶⟨o,h1,h2,_⟩:=pl.isList
  §Ç1 kitx_list I.kIn ⟨o,h1,h2⟩ e (λz=>nomatch z) fin
 |dct =>
  unfold Has at hd
  ¶⟨a,kvs,rfl,hq⟩:=hd
  cases rx
  ¶⟨_,_,vs,_,p⟩:=(show h50 X.prog X.w H s.heap a (.dK kvs) from I.hok a _ hq)
  ¶⟨o,es,ep,h1,h2,_⟩:=p
  §Ç1 kitx_dict I.kIn ⟨o,h1,h2.1⟩ e (λz=>nomatch z) fin
end
def hide(st:Ç)(H:Hp):Hp:=λb=>if b=st then none else H b
÷f10(st:Ç)(H:Hp):a30 (hide st H) H:=λb o e=>by
 unfold hide at e
 split at e
 ·cases e
 ·§e
÷C00{st:Ç}{H H':Hp}(e:∀ b o,b≠st->H b=some o->H' b=some o):a30 (hide st H) (hide st H'):=λb o h=>by
 unfold hide at h ⊢
 by_cases q:b=st
 ·rw[if_pos q] at h;cases h
 ·rw[if_neg q] at h ⊢;§e b o q h
÷K70{st b:Ç}{H:Hp}{o:HO}(h:H b=some o)(n:b≠st):hide st H b=some o:=by
 unfold hide;rw[if_neg n];§h
end L2
namespace L2
open PySem PySem.Spec PyProof.Rows
def u11(sc scX:ý)(N own:List Str)(capt:List (Str × Nat)):Bool :=
 sc.kind == .function&&sc.names.all (λy=>y.2 != .cell)&&sc.names.all (λy=>y.2 != .local || sc.names.lookup y.1 == some .local) &&
  sc.names.all (λy=>y.2 != .free || (scX.names.lookup y.1 == some .cell || scX.names.lookup y.1 == some .free))&&capt.all λp=>N[p.2]? == some p.1&&sc.names.lookup p.1 == some .free
÷r10.of{X:Cx}{sc scX:ý}{N own:List Str}{capt:List (Str × Nat)}(e:X.env.scope=scX)(eN:X.N=N)(h:u11 sc scX N own capt=true):r10 X sc own capt:=by
 unfold u11 at h
 simp only[Á] at h
 ¶⟨⟨⟨⟨h1,h2⟩,h3⟩,h4⟩,h5⟩:=h
 rw[Æ9] at h2 h3 h4 h5
 ¤⟨by simpa using h1,λy hy=>by simpa using h2 y hy,λy hy hl=>?_,λy hy hf=>?_,λp hp=>?_⟩
 ·have:=h3 y hy;rw[hl] at this;simpa using this
 ·have:=h4 y hy
  rw[hf] at this
  show X.env.scope.names.lookup y.1=_∨X.env.scope.names.lookup y.1=_
  rw[e]
  simpa using this
 ·have:=h5 p hp
  rw[eN]
  simpa using this
÷gN{i:Nat}{v:V}{σ:St}{H:Hp}{R:St->Hp->Prop}(h:R (σ.set i (some v)) H):Y30 i v σ H R:=h
÷L81{σ:St}{H:Hp}{R:Bool->Hp->Prop}(h:R true H):J61 σ H R:=h
÷C10{n:Nat}(h:n<=64):n<=sizeLine:=Ñ h (by decide)
section
variable {X:Cx}
÷q42(K:Â)(d:D):kitAny K (.type d.ty) [.type "tuple",.type "list"]=some (isB d.ty "tuple" || isB d.ty "list"):=by
 have e1:=b72 K d "tuple" (by simp)
 have e2:=b72 K d "list" (by simp)
 unfold kitAny
 rw[e1]
 cases isB d.ty "tuple" with
 |true=>rfl
 |false =>
  show kitAny K (.type d.ty) [.type "list"]=_
  unfold kitAny
  rw[e2]
  cases isB d.ty "list" <;> rfl
÷u21:f00 X (.builtin "isinstance") (λxs H Q=>∃ d x a,xs=[x,.ref a]/\Has X.K H d x/\SqT X.K H a [.ty "tuple",.ty "list"]/\Q (.bl (isB d.ty "tuple" || isB d.ty "list")) H):=by
 intro pins s σ H xs us Q I r h
 ¶⟨d,x,a,rfl,hd,hq,q⟩:=h
 ¶⟨u,w',rfl,rx,rt⟩:=vals2 r
 cases (show w'=Ã3 a from rt)
 ¶⟨its,rv,⟨⟨cls,dd,data,sl⟩,ho,hc,n,hdt⟩,_⟩:=I.tuple hq
 simp only at hc hdt;subst hc hdt
 have eits:its=[.type "tuple",.type "list"]:=by
  cases rv with
  |cons p r=>cases r with
   |cons p2 r2=>cases r2;rw[show _=Á6 "tuple" from p,show _=Á6 "list" from p2]
 subst eits
 have e:=q42 X.K d
 have fin:∀ tk,EP X pins σ Q (.bool (isB d.ty "tuple" || isB d.ty "list")) { s with toks:=tk }:=λtk=>⟨.bl _,H,I.tok tk,rfl,q⟩
 cases d with
 |non=>unfold Has at hd;subst hd;cases rx;§Ö6 kitx_none I.kIn Ê6 ho e (λz=>nomatch z) fin
 |bl b=>unfold Has at hd;subst hd;cases rx;§Ö6 kitx_bool I.kIn Ê6 ho e (λz=>nomatch z) fin
 |int i=>unfold Has at hd;subst hd;¶⟨t,rfl⟩:=rx;§Ö6 kitx_int I.kIn Ê6 ho e (λz=>nomatch z) fin
 |str y=>unfold Has at hd;subst hd;¶⟨t,rfl⟩:=rx;§Ö6 kitx_str I.kIn Ê6 ho e (λz=>nomatch z) fin
 |tup ds =>
  unfold Has at hd
  ¶⟨b,ys,rfl,hq',_⟩:=hd
  cases rx
  ¶⟨_,_,⟨o,h1,h2,_⟩,_⟩:=I.tuple hq'
  §Ö6 kitx_tuple I.kIn ⟨o,h1,h2⟩ ho e (λz=>nomatch z) fin
 |lst ds =>
  unfold Has at hd
  ¶⟨b,ys,rfl,hq',_⟩:=hd
  cases rx
  ¶⟨_,_,pl,_⟩:=I.list hq'
  ¶⟨o,h1,h2,_⟩:=pl.isList
  §Ö6 kitx_list I.kIn ⟨o,h1,h2⟩ ho e (λz=>nomatch z) fin
 |dct =>
  unfold Has at hd
  ¶⟨b,kvs,rfl,hq'⟩:=hd
  cases rx
  ¶⟨_,_,vs,_,p⟩:=(show h50 X.prog X.w H s.heap b (.dK kvs) from I.hok b _ hq')
  ¶⟨o,es,ep,h1,h2,_⟩:=p
  §Ö6 kitx_dict I.kIn ⟨o,h1,h2.1⟩ ho e (λz=>nomatch z) fin
end
open PySem PySem.Spec PyProof.Rows PySem.SeqAt
÷K80(l b:Ç)(es:Array DictEntry)(n:Nat)(it:Array Ä)(n2:Nat)(dd dd2:Option Ç)(sl sl2:Array (Option Ä)) :
  Meets (ÿ.«dict.__ne__» ⟨[.ref l,.ref b],[]⟩) (λ_ R s=>s.heap.get? l=some { cls:=.type "dict",dict:=dd,data:=.dict es n,slots:=sl }/\s.heap.get? b=some { cls:=.type "tuple",dict:=dd2,data:=.seq it n2,slots:=sl2 }/\R (.ok (.ret .notImplemented)) s) :=
 .of_wp λprog w A R s h=>by
  ¶⟨hp,g,d,tk,os⟩:=s
  ¶⟨hl,hb,h⟩:=h
  have f1:=F.sub_tuple_dict
  wp_walk using Ä7 hl,Ä7 hb
  §⟨_,rfl,h⟩
÷K90(l b:Ç)(es:Array DictEntry)(n:Nat)(it:Array Ä)(n2:Nat)(dd dd2:Option Ç)(sl sl2:Array (Option Ä)) :
  Meets (ÿ.«tuple.__ne__» ⟨[.ref b,.ref l],[]⟩) (λ_ R s=>s.heap.get? l=some { cls:=.type "dict",dict:=dd,data:=.dict es n,slots:=sl }/\s.heap.get? b=some { cls:=.type "tuple",dict:=dd2,data:=.seq it n2,slots:=sl2 }/\R (.ok (.ret .notImplemented)) s) :=
 .of_wp λprog w A R s h=>by
  ¶⟨hp,g,d,tk,os⟩:=s
  ¶⟨hl,hb,h⟩:=h
  have f1:=F.sub_dict_tuple
  wp_walk using Ä7 hl,Ä7 hb
  §⟨_,rfl,h⟩
section
variable {X:Cx}
÷b82(hu:X.A.units + 64 < Å9):OpR X (ü .NotEq) (λx y H Q=>∃ a b kvs xs,x=.ref a/\y=.ref b/\H a=some (.dK kvs)/\SqT X.K H b xs/\Q (.bl true) H):=by
 intro pins s σ H x y v u Q I rx ry h
 ¶⟨a,b,kvs,xs,rfl,rfl,ha,hb,q⟩:=h
 cases rx;cases ry
 ¶⟨v2,r2,⟨o2,h2,c2,n2,d2⟩,_⟩:=I.tuple hb
 ¶⟨_,_,vs,_,p⟩:=(show h50 X.prog X.w H s.heap a (.dK kvs) from I.hok a _ ha)
 ¶⟨o1,es,n1,h1,c1,d1,_⟩:=p
 have c1:=c1.1
 ¶⟨cls,dd,data,sl⟩:=o1
 ¶⟨cls2,dd2,data2,sl2⟩:=o2
 simp only at c1 d1 c2 d2
 subst c1 d1 c2 d2
 have hne:a≠b:=λe=>by
  subst e
  rw[h1] at h2
  simp at h2
 have hu':X.A.units < cLine:=by omega
 ¤rc_ne_decline_or (k:=false) ⟨_,h1,rfl⟩ ⟨_,h2,rfl⟩ (by decide) F.sub_tuple_dict F.slot_dict_ne F.slot_tuple_ne_refl
  (λ_ hq=>È2 F.slot_dict_ne ⟨_,h1,rfl⟩ F.entry_dict_ne (F.args_dict_ne_2 _ _) (K80 a b es n1 v2.toArray n2 dd dd2 sl sl2) ⟨h1,h2,hq⟩)
  (λ_ hq=>È2 F.slot_tuple_ne_refl ⟨_,h2,rfl⟩ F.entry_tuple_ne (F.args_tuple_ne_2 _ _) (K90 a b es n1 v2.toArray n2 dd dd2 sl sl2) ⟨h1,h2,hq⟩)
  (λ_ hq=>wpAny_isSame_ref_other hne h1 h2 (by simp) hq) (.inr hu') ⟨.bl true,H,I,rfl,q⟩
end
end L2
namespace L2
open PySem PySem.Spec PyProof.Rows
section
variable {P:ß}{w:è}{A:ø}{E:Ä->Æ->Prop}{s:Æ}
abbrev eT1(h:ì)(l:Ç):Heap:=h.push { cls:=.type "tuple_iterator",data:=.fields #[.ref l,.int 0 0] }
abbrev eT2(h:ì)(l:Ç):Heap:=(eT1 h l).push { cls:=.type "enumerate",data:=.fields #[.none,.bool false,.ref h.objs.size,Ã6 0,.none,.none] }
÷Z50(l:Ç)(xs:Array Ä) :
  Meets (ÿ.«enumerate.__new__» ⟨[.type "enumerate",.ref l],[]⟩) (λ_ R s=>s.heap.IsTuple l xs/\R (.ok (.ret (.ref (eT1 s.heap l).objs.size))) { s with heap:=eT2 s.heap l }) :=
 .of_wp λP w A R s h=>by
  ¶⟨hp,g,d,tk,os⟩:=s;¶⟨hl,h⟩:=h
  have hsub:=sub_enumerate
  have hL1:Ó4 (Æ.heap ⟨hp,g,d,tk,os⟩) l xs:=hl
  wp_walk;¤wpAny_stack_any λq=>Å ?_;split
  ·rename_i c _ _ _ _ _;cases (c == Á6 "enumerate") <;> (wp_walk using Ç8 hL1) <;> §⟨_,rfl,h⟩
  ·wp_walk using Ç8 hL1
   §⟨_,rfl,h⟩
÷m81{l:Ç}{xs:Array Ä}{Q:Ä->Æ->Prop}(hl:s.heap.IsTuple l xs)
  (h:∀ h',IsEnum h' (s.heap.objs.size + 1) s.heap.objs.size 0 .none->h'.IsTupleIter s.heap.objs.size l 0->(∀ c o,s.heap.get? c=some o->h'.get? c=some o)->Q (.ref (s.heap.objs.size + 1)) { s with heap:=h' }) :
  Ï (Ô P w) A (call (.type "enumerate") [.ref l]) Q E s:=by
 ¤callType_new F.called_enumerate (by decide) (F.typeCall_enumerate_1 _) (F.newCall_enumerate_1 _) (λobj=>F.args_object_init_2 obj _) F.entry_enumerate_new (Z50 l xs) ⟨hl,?_⟩
 have n1:(eT1 s.heap l).objs.size=s.heap.objs.size + 1:=Ë3 ..
 have g2:(eT2 s.heap l).get? (eT1 s.heap l).objs.size=some _:=Ë _ rfl
 have g1:(eT2 s.heap l).get? s.heap.objs.size=some _:=Ã _ (Ë _ rfl)
 show _/\_;rw[n1] at g2;rw[n1]
 §⟨⟨_,g2,rfl⟩,h _ g2 ⟨_,g1,rfl,rfl⟩ λc o q=>Ã _ (Ã _ q)⟩
÷u31(hh:A.handled=none){it l:Ç}{xs:Array Ä}(n:l≠it):Draws P w A it [it,l] xs.size (λi x=>xs[i]?=some x) (λi h=>h.IsTupleIter it l i/\h.IsTuple l xs) where
 live:=λi h q=>by ¶⟨⟨o,e,_⟩,_⟩:=q;§⟨o,e⟩
 frame:=λi h h' q k=>by
  ¶⟨⟨o,e,r⟩,⟨o',e',r'⟩⟩:=q
  §⟨⟨o,k it (by simp) _ e,r⟩,⟨o',k l (by simp) _ e',r'⟩⟩
 item:=λi s Q E hi q k=>p40 q.1 q.2 (x:=xs[i]) (by simp[hi]) λh' h1 h2=>k _ h' s.toks (by simp[hi]) ⟨h1,q.2.extBut h2.extBut n⟩ h2
 done:=λs Q E q k=>l60 hh q.1 q.2 (by simp) λh' e h1 h2=>k h' e h1 h2
end
÷U21{P:ß}{w:è}{A:ø}(b:Bool)(hh:A.handled=none){it l:Ç}{xs:Array Ä}(n:l≠it):Draws P w A it [it,l] xs.size (λi x=>xs[i]?=some x) (λi h=>R70 b h it l i/\J81 b h l xs):=match b with
 |true=>Draws.list hh it l n xs
 |false=>u31 hh n
def Ite(b:Bool)(K:Â)(a:Ç):It :=
 ⟨λi H=>∃ xs x,SqB b K H a xs/\xs[i]?=some x,
  λi H v H'=>∃ T,v=.ref T/\H T=none/\∀ xs x,SqB b K H a xs->xs[i]?=some x->H'=upd H T (.tup [.int i,x]),
  λi H=>∃ xs,SqB b K H a xs/\xs.length=i⟩
÷u41{P:ß}{w:è}{K:Â}{es:List Ò}{ek:Nat}{ep:Pos}{a e it:Ç}{b:Bool}(h1:e≠it)(h2:a≠e)(h3:a≠it) :
  Turn P w K (.Tuple es ek ep) (Ite b K a) [e,it] e (λi h=>(∃ old,IsEnum h e it i old)/\R70 b h it a i) where
 mem:=by simp
 obj:=λi h st c hc=>by
  ¶⟨⟨old,he⟩,st⟩:=st
  ¶⟨o1,g1,d1,_⟩:=st.obj
  simp only[Â9,À2,or_false] at hc
  rcases hc with rfl | rfl
  ·§⟨_,he,λv e=>by cases e⟩
  ·§⟨_,g1,d1⟩
 keep:=λi h h' st k=>by
  ¶⟨⟨old,he⟩,st⟩:=st
  ¶⟨o1,g1,_,r1⟩:=st.obj
  §⟨⟨old,k e (by simp) _ he⟩,r1 h' (k it (by simp) _ g1)⟩
 item:=by
  intro X hP hw hK hc i pins s σ H E I hf st hg
  subst hP hw hK
  ¶⟨xs,x,hq,hx⟩:=hg
  ¶⟨v1,rv,p1,_,z1⟩:=I.J91 hq
  ¶⟨u,hu,ru⟩:=rv.get hx
  ¶⟨⟨old,he⟩,hi⟩:=st
  have hl:i < v1.toArray.size:=by simpa using (Þ.mp hu).1
  ¤wpAny_pyNext_enum_itemD (U21 (A:=X.A.in1) b (by §I.ok.hd hc) h3) he ⟨hi,p1⟩ hl h1 (by simp[h1,h2.symm]) λy g1 tk hy ge gs gT sz kp=>⟨_,rfl,?_⟩
  have hy':v1[i]?=some y:=by simpa using hy
  rw[hu] at hy';cases hy'
  ¤wpAny_letOwnedTupleGo_enum (s:={ s with heap:=g1,toks:=tk + 1 }) ge λg2 ge2 sb=>?_
  have hT:H s.heap.objs.size=none:=I.hok.fresh (Í _)
  have kall:∀ c o,c ∉ [e,it]->s.heap.get? c=some o->g2.get? c=some o:=λc o hc q=>by
   simp only[Â9,À2,or_false,not_or] at hc
   §sb.extBut _ _ hc.1 (kp c o hc.1 hc.2 q)
  have I2:Inv X pins σ H { s with heap:=g2,toks:=tk + 1 }:=I.J90 (t':=tk + 1) hf kall
  have fT:Y40 X pins H s.heap.objs.size:=I.q01 (Í _) hT
  have gT2:g2.get? s.heap.objs.size=some { cls:=.type "tuple",data:=.seq #[.int i tk,u] }:=sb.extBut _ _ (λq=>Á4 _ (by have:=à he;rw[← q] at this;§this)) gT
  have I3:Inv X pins σ (upd H s.heap.objs.size (.tup [.int i,x])) { s with heap:=g2,toks:=tk + 1 }:=I2.J51 fT I.sz (I2.hok.T81 hT (its:=[.int i tk,u]) (.cons ⟨_,rfl⟩ (.cons ru .nil)) (by show 2<=Û;rw[Á2];decide) ⟨_,gT2,rfl,_,rfl⟩)
  ¤⟨.ref s.heap.objs.size,_,I3,rfl,⟨_,rfl,hT,λxs' x' e1 e2=>?_⟩,⟨⟨_,ge2⟩,by ¶⟨o,q1,_,q2⟩:=gs.1.obj;§q2 _ (sb.extBut _ _ h1.symm q1)⟩,λc hc=>?_⟩
  ·rw[z1 _ e1] at e2
   rw[hx] at e2
   cases e2;rfl
  ·rw[a60]
   ·§(hf c hc).1
   ·intro q
    simp only[Â9,À2,or_false] at hc
    rcases hc with hc | hc
    ·§Á4 _ (by have:=à he;rw[← hc,q] at this;§this)
    ·¶⟨o,ho,_⟩:=R70.obj hi;§Á4 _ (by have:=à ho;rw[← hc,q] at this;§this)
 done:=by
  intro X hP hw hK hc i pins s σ H E I hf st hg
  subst hP hw hK
  ¶⟨xs,hq,rfl⟩:=hg
  ¶⟨v1,rv,p1,_,z1⟩:=I.J91 hq
  ¶⟨⟨old,he⟩,hi⟩:=st
  ¤wpAny_pyNext_enum_endD (U21 (A:=X.A.in1) (xs:=v1.toArray) b (by §I.ok.hd hc) h3) he ⟨by rw[show v1.toArray.size=xs.length by simpa using rv.length.symm];§hi,p1⟩ λg kp=>⟨rfl,I.J90 (t':=s.toks) hf λc o hcn q=>?_⟩
  simp only[Â9,À2,or_false,not_or] at hcn
  §kp c o hcn.2 q
 self:=λ_ _ _ _ _ st h=>by ¶⟨⟨_,he⟩,_⟩:=st;§wpAny_pyIter_enum he h
def G52(K:Â)(ta:TA):TI:=λσ H R=>ta σ H λvs H1=>∃ b a,vs=[.ref a]/\(∃ xs,SqB b K H1 a xs)/\R (Ite b K a) H1
÷m91{P:ß}{w:è}{A:ø}{E:Ä->Æ->Prop}{s:Æ}{b:Bool}{l:Ç}{xs:Array Ä}{Q:Ä->Æ->Prop}(hl:J81 b s.heap l xs)
  (h:∀ h',IsEnum h' (s.heap.objs.size + 1) s.heap.objs.size 0 .none->R70 b h' s.heap.objs.size l 0->(∀ c o,s.heap.get? c=some o->h'.get? c=some o)->Q (.ref (s.heap.objs.size + 1)) { s with heap:=h' }) :
  Ï (Ô P w) A (call (.type "enumerate") [.ref l]) Q E s:=match b,hl,h with
 |true,hl,h=>call_enumerate_list hl λh' a b _ c=>h h' a b c
 |false,hl,h=>m81 hl h
÷u51:ë "enumerate"=some (.type "enumerate"):=by decide +kernel
÷b92{X:Cx}{a:Ò}{es:List Ò}{ek:Nat}{ep:Pos}{ta:TA}{p pos:Pos}(hg:Gl X "enumerate")(hm:X.mg "enumerate"=none)(ha:PA X [a] ta)(hs:þ [a] X.env=[(false,eval a X.env)]:=by rfl) :
  PI X (.Tuple es ek ep) (.Call (.Name "enumerate" p) [a] [] pos) (G52 X.K ta):=by
 intro pins s σ H R I h
 ¤Call_ (t50 I hg hm u51 (Á1 (thn (ha pos pins s σ H _ I h) λus s1 ⟨vs,H1,I1,r1,q1⟩=>?_) (by rw[hs];rfl) (by rfl)))
 ¶⟨b,l1,e,⟨xs,hq1⟩,q⟩:=q1
 subst e
 ¶⟨u,rfl,r⟩:=vals1 r1
 cases r
 ¶⟨v1,rv1,p1,a1,_⟩:=I1.J91 hq1
 ¤m91 p1 λh' he h1 kp=>wpAny_pyIter_enum (s:={ s1 with heap:=h' }) he ?_
 ¤⟨_,[s1.heap.objs.size + 1,s1.heap.objs.size],_,_,H1,rfl,I1.kept (t':=s1.toks) kp,u41 (Nat.succ_ne_self _) (Ø (Å0 a1)) (Ø a1),⟨⟨_,he⟩,h1⟩,λc hc=>?_,q⟩
 have hc':s1.heap.objs.size<=c:=by
  simp only[Â9,À2,or_false] at hc
  rcases hc with rfl | rfl
  ·§É5 _ 1
  ·§Í _
 §I1.q01 hc' (I1.hok.fresh hc')
end L2
namespace HT
open PySem PySem.W PyProof.Rows
set_option maxRecDepth 100000
section
variable {P:ß}{w:è}{A:ø}{E:Ä->Æ->Prop}{s:Æ}
÷L00{r:Ç}{a b c:Int}{t u v:Tok}{n:Nat}{Q:List Ä->Æ->Prop}(hh:A.handled=none)(hr:Ö1 s.heap r a b c t u v)(hs:Ò3 a b c=true)(hn:Ã7 a b c=n)(hl:n<=2 ^ 24)
  (hQ:∀ (h':ì) (tk:Nat) (acc:Array Ä),(∀ b o,s.heap.get? b=some o->h'.get? b=some o)->s.heap.objs.size<=h'.objs.size->ItemsOf (λi v=>∃ t,v=.int (a + i * c) t) acc n->Q acc.toList { s with heap:=h',toks:=tk }):Ï (Ô P w) A (collect (.ref r)) Q E s:=by
 unfold collect
 ¤À (Ø7 (Â2 PySem.F.entry_proto_collect ?_));rw[Â6 PySem.F.plain_proto_collect _]
 show Ï _ A.in1 (newList [] >>= λl=>again (.builtin "list.__iadd__" ⟨[l,.ref r],[]⟩)) _ _ s
 ¤À (æ (Å ⟨Î2 Þ5 _,Â2 PySem.F.entry_list_iadd ?_⟩));rw[Â6 Þ5 _]
 show Ï _ A.in1 (Ä4 (.ref s.heap.objs.size) (.ref r) (.ref s.heap.objs.size)) _ _ { s with heap:=s.heap.push (Ã1 "list" #[] 0) }
 have hS:(s.heap.push (Ã1 "list" #[] 0)).get? s.heap.objs.size=some { cls:=.type "list",data:=.seq #[] 0 }:=Ë _ rfl
 ¤Â1 (wpAny_extend_range (A:=A) (s:={ s with heap:=s.heap.push (Ã1 "list" #[] 0) }) (R:=λx s'=>x=.ok (.ret (.ref s.heap.objs.size))/\∃ h' tk acc c',s'={ s with heap:=h',toks:=tk }/\(∀ b o,s.heap.get? b=some o->h'.get? b=some o)/\h'.get? s.heap.objs.size=some { cls:=.type "list",dict:=none,data:=.seq acc c',slots:=#[] }/\ItemsOf (λi v=>∃ t,v=.int (a + i * c) t) acc n) hh (Ã _ hr) hs hn hl _ (.ref s.heap.objs.size) 0 hS λh' tk acc c' hk hS' hi=>⟨rfl,h',tk,acc,c',rfl,λb o e=>hk b o (Ø (à e)) (Ã _ e),hS',hi⟩) (λfin s' h=>?_) λe s' h=>?_
 ·have go:∀ s',(∃ h' tk acc c',s'={ s with heap:=h',toks:=tk }/\(∀ b o,s.heap.get? b=some o->h'.get? b=some o)/\h'.get? s.heap.objs.size=some { cls:=.type "list",dict:=none,data:=.seq acc c',slots:=#[] }/\ItemsOf (λi v=>∃ t,v=.int (a + i * c) t) acc n)->Ï (Ô P w) A (match Ã3 s.heap.objs.size with
   |Ã3 a=>do
    match (← load a).data with
     |Data.seq xs _=>pure xs.toList
     |_=>unsupported "internal:collect"
   |_=>unsupported "internal:collect") Q E s':=λs' ⟨h',tk,acc,c',e,hk,hS',hi⟩=>by
   subst e
   show Ï _ A (load s.heap.objs.size >>= _) _ _ _
   §À (wpAny_load hS' (Å (hQ h' tk acc hk (É3 (à hS')) hi)))
  cases fin with
  |done f =>
   ¶⟨e,h⟩:=h
   cases e
   §go _ h
  |again c'=>§⟨h.1,È1 h.2 λx s'' hx=>by ¶⟨rfl,hx⟩:=hx;§go _ hx⟩
 ·§absurd h.1 (by simp)
open AutoSeq1 (wpAny_loadPart')
÷C20{r:Ç}{a b c:Int}{t u v:Tok}{n:Nat}{Q:Ä->Æ->Prop}(hh:A.handled=none)(hr:Ö1 s.heap r a b c t u v)(hs:Ò3 a b c=true)(hn:Ã7 a b c=n)(hl:n<=200000)
  (hQ:∀ (h':ì) (tk:Nat) (acc:Array Ä),(∀ b o,s.heap.get? b=some o->h'.get? b=some o)->s.heap.objs.size<=h'.objs.size->ItemsOf (λi v=>∃ t,v=.int (a + i * c) t) acc n->Q (.ref h'.objs.size) { s with heap:=h'.push { cls:=.type "tuple",data:=.seq acc },toks:=tk }) :
  Î3 (Ô P w) A (.call (.builtin "tuple.__new__") ⟨[.type "tuple",.ref r],[]⟩) (wants Q E) s:=by
 ¤á0 ?_;show Ï _ A.in1 (do Õ1 "tuple.__new__" ⟨[.type "tuple",.ref r],[]⟩;again (.builtin "tuple.__new__" ⟨[.type "tuple",.ref r],[]⟩)) _ _ s
 ¤À (à3 (PySem.F.newCall_tuple_1 _) (Å ⟨Î2 Þ4 _,Â2 PySem.F.entry_tuple_new ?_⟩));rw[Â6 Þ4 _]
 have k1:=sub_tuple_self;have k2:=init_tuple_lookup;have k3:=madeHere_tuple
 have k4:s.TypeIs (.ref r) "range":=⟨_,hr,rfl⟩
 wp_walk using Ç7 k4,L00 (n:=n) (show A.in1.handled=none from hh) hr hs hn (by omega)
 intro h' tk acc hk hz hi
 show Ï _ _ (Ç0 acc.toList.toArray >>= λv=>ret v) _ _ _
 unfold Ç0;rw[Ð1]
 ¤À (æ (Å (hQ h' tk acc hk hz hi)) (by show acc.size<=_;rw[hi.1,Á2];omega))
÷tuple_range{r:Ç}{a b c:Int}{t u v:Tok}{n:Nat}{Q:Ä->Æ->Prop}(hh:A.handled=none)(hr:Ö1 s.heap r a b c t u v)(hs:Ò3 a b c=true)(hn:Ã7 a b c=n)(hl:n<=200000)
  (hQ:∀ (h':ì) (tk:Nat) (acc:Array Ä),(∀ b o,s.heap.get? b=some o->h'.get? b=some o)->s.heap.objs.size<=h'.objs.size->ItemsOf (λi v=>∃ t,v=.int (a + i * c) t) acc n->Q (.ref h'.objs.size) { s with heap:=h'.push { cls:=.type "tuple",data:=.seq acc },toks:=tk }):Ï (Ô P w) A (call (.type "tuple") [.ref r]) Q E s:=by
 ¤callType_codes (Q₁:=λobj s₁=>s₁.TypeIs obj "tuple"/\Q obj s₁) Ó8 (PySem.F.typeCall_tuple_1 _) PySem.F.entry_object_init (C20 hh hr hs hn hl λh' tk acc hk hz hi=>⟨⟨_,Ë _ rfl,rfl⟩,hQ h' tk acc hk hz hi⟩) λobj s₁ h₁=>?_
 §⟨h₁.1,PySem.F.args_object_init_2 obj _,object_init_meets Ó8.init.lookup Ó8.made (by decide) P w A.in1 _ s₁ ⟨h₁.1,rfl,h₁.2⟩⟩
end
end HT
namespace L2
open PySem PySem.Spec PyProof.Rows
÷h50.there(x:h50 P w H h a o):∃ u,h.get? a=some u:=by
 cases o with
 |lst xs=>¶⟨_,_,_,_,e⟩:=x;§⟨_,e⟩
 |tup xs=>¶⟨_,_,_,o,e,_⟩:=x;§⟨_,e⟩
 |dK kvs=>¶⟨_,_,_,_,o,_,_,e,_⟩:=x;§⟨_,e⟩
 |dT kvs=>¶⟨_,_,_,_,o,_,_,e,_⟩:=x;§⟨_,e⟩
 |set S n=>¶⟨o,_,_,_,e,_⟩:=x;§⟨_,e⟩
 |ins C dx fs=>¶⟨_,_,_,e,_⟩:=x;§⟨_,e⟩
 |own y=>¶⟨_,e⟩:=x;§⟨_,e⟩
 |xd fs=>¶⟨_,⟨_,_,_,e,_⟩,_⟩:=x;§⟨_,e⟩
 |rng lo hi=>¶⟨_,_,_,e⟩:=x;§⟨_,e⟩
 |frz ob u=>¶⟨e,_⟩:=x;§⟨_,e⟩
 |tbl ps=>§⟨_,(show h.get? a=some _ from x)⟩
 |met f y=>§⟨_,(show h.get? a=some _ from x)⟩
 |ext φ=>¶⟨_,⟨_,e⟩,_⟩:=x;§⟨_,e⟩
def InB(B:ì)(fs:List Ç)(H':Hp)(h h':ì):Prop:=∀ b u,h'.get? b=some u->b ∉ fs->((∃ o,h.get? b=some o)∨H' b≠none)->B.get? b=some u
def CX1(P:ß)(w:è):CXT:=λouter H s E e s'=>∃ (a:Ç) (cls a0:Ä) (H':Hp) (B:ì),e=.ref a/\s'.os=s.os/\Ó5 s'.gens/\Un (frs outer) [] H H' s.heap s'.heap/\HOk P w H' s'.heap /\
 ì.FlyingW B outer a cls a0 s'.heap/\H' a=none/\InB B (frs outer) H' s.heap s'.heap/\E cls (some a) H'
section
variable {X:Cx}{pins:List (Ç × Obj)}{σ:St}{H H':Hp}{s s':Æ}{B h'':ì}{a:Ç}{cls a0:Ä}{E:XK}
÷Z60(hS:X.stack=X.env::X.outer)(hx:X.ex=[])(hf:X.env.frame=some X.env.locals)(I:Inv X pins σ H s)(os:s'.os=s.os)(bare:Ó5 s'.gens)(un:Un (frs X.stack) [] H H' s.heap s'.heap)(hok:HOk X.prog X.w H' s'.heap)
  (bB:InB B (frs X.stack) H' s.heap s'.heap) (na:H' a=none) (fl:ì.FlyingW B X.outer a cls a0 h'') (sm:s'.heap.UpToSlots h'') (he:E cls (some a) H'):CX1 X.prog X.w X.outer X.H₀ X.s₀ E (.ref a) { s' with heap:=h'' }:=by
 have hfs:frs X.stack=X.env.locals::frs X.outer:=by rw[hS];unfold frs;rw[Á3,hf]
 have U1:=I.base
 rw[hx] at U1
 have U:Un (frs X.stack) [] X.H₀ H' X.s₀.heap s'.heap:=(U1.mono (λb hb=>by rw[hfs];§È _ hb) λb hb=>hb).trans un
 have nL:∀ b o,X.s₀.heap.get? b=some o->b ∉ frs X.outer->b ∉ frs X.stack:=λb o e hn hm=>by
  rw[hfs] at hm
  rcases ú.mp hm with z | z
  ·§absurd (à e) (by rw[z];§Nat.not_lt.mpr I.ok.above)
  ·§hn z
 have frN:∀ b∈frs X.stack,H' b=none:=λb hb=>by
  ¶⟨_,o,ho,_⟩:=I.stack.mem hb
  §un.free b o ho (I.v90 b hb) (by simp)
 have old:∀ b o,X.s₀.heap.get? b=some o->b ∉ frs X.outer->∃ u,s'.heap.get? b=some u/\B.get? b=some u:=λb o e hn=>by
  ¶⟨o1,e1⟩:=U1.there b o e (by simp)
  ¶⟨o2,e2⟩:=un.there b o1 e1 (by simp)
  §⟨o2,e2,bB b o2 e2 (nL b o e hn) (.inl ⟨o1,e1⟩)⟩
 have trk:∀ b,H' b≠none->∃ u,s'.heap.get? b=some u/\B.get? b=some u:=λb hb=>by
  ¶⟨o,e⟩:=Ý0.mp hb
  ¶⟨u,eu⟩:=(hok b o e).there
  §⟨u,eu,bB b u eu (λhm=>by rw[frN b hm] at e;cases e) (.inr hb)⟩
 ¤⟨a,cls,a0,H',B,rfl,os.trans I.os,bare,⟨λb o e n hb _=>?_,λb o e n hb _=>?_,λb o e n hb=>U.free b o e n hb,λb o e _=>?_,U.tups,U.frzs,U.tbls⟩,λc o e=>?_,fl,na,λb u e hn hor=>?_,he⟩
 ·¶⟨u,e1,e2⟩:=old b o e hb
  have e3:=U.keep b o e n (nL b o e hb) (by simp)
  rw[e1] at e3;cases e3
  §fl.1 b _ e2
 ·¶⟨sl,e1⟩:=U.slot b o e n (by rw[hfs];§È _ hb) (by simp)
  ¶⟨_,o',ho',hd⟩:=I.ok.l51.mem hb
  rw[e] at ho';cases ho'
  ¶⟨sl',e2⟩:=sm b _ e1 hd
  §⟨sl',e2⟩
 ·by_cases hb:b∈frs X.outer
  ·¶⟨_,o',ho',_⟩:=fl.2.2.1.mem hb
   §⟨o',ho'⟩
  ·¶⟨u,_,e2⟩:=old b o e hb
   §⟨u,fl.1 b _ e2⟩
 ·¤(hok c o e).l41 (λb u hb q=>?_) (λ_ q=>q) λ_ _ q=>q
  have hbn:H' b≠none:=by
   rcases hb with rfl | hb
   ·rw[e];§λz=>nomatch z
   ·rw[hb];§λz=>nomatch z
  ¶⟨u',e1,e2⟩:=trk b hbn
  rw[q] at e1;cases e1
  §fl.1 b _ e2
 ·have:∃ u',B.get? b=some u':=by
   rcases hor with ⟨o,ho⟩ | hor
   ·¶⟨u',_,e2⟩:=old b o ho hn
    §⟨u',e2⟩
   ·¶⟨u',_,e2⟩:=trk b hor
    §⟨u',e2⟩
  ¶⟨u',e2⟩:=this
  have e3:=fl.1 b _ e2
  rw[e] at e3;cases e3
  §e2
end
section
variable {P:ß}{w:è}{K:Â}{mg:Str->Option Ä}{base:ì}{N:List Str}{qual:Str}{scope:ý}{f:Ç}{cd:Ä}{A:ø}{outer:List Env}{s₀:Æ}{H₀:Hp}{E:XK}
÷u61(I:Inv (F90 (CX1 P w) P w K mg base N qual scope f cd A outer s₀ H₀ E) pins σ H s)(hx:ì.MadeExcOf s.heap h' e cls vs)(he:E cls (some e) H) :
  (F90 (CX1 P w) P w K mg base N qual scope f cd A outer s₀ H₀ E).xe (.ref e) { s with heap:=h' }:=by
 have hin:∀ env∈(F90 (CX1 P w) P w K mg base N qual scope f cd A outer s₀ H₀ E).stack,∀ a,env.frame=some a->a∈frs (F90 (CX1 P w) P w K mg base N qual scope f cd A outer s₀ H₀ E).stack:=λenv he a ha=>Ø1.mpr ⟨env,he,ha⟩
 have kB:(hideAll s.heap (frs (F90 (CX1 P w) P w K mg base N qual scope f cd A outer s₀ H₀ E).stack)).StaysIn s.heap:=λb o q=>of_hideAll _ q
 show Ï _ _ (leaving _ _) _ _ _
 ¤wpAny_leaves_madeW (base:=hideAll s.heap (frs (F90 (CX1 P w) P w K mg base N qual scope f cd A outer s₀ H₀ E).stack)) (h:=s.heap) I.ok.frames rfl kB (PySem.W.funFrames_hide I.stack hin) hx λh'' t fl _ _ sm=>?_
 have na:H e=none:=by
  cases z:H e with
  |none=>rfl
  |some o=>¶⟨u,eu⟩:=(I.hok e o z).there;rw[hx.new] at eu;cases eu
 ¤Z60 (X:=F90 (CX1 P w) P w K mg base N qual scope f cd A outer s₀ H₀ E) (s':={ s with heap:=h' }) rfl rfl rfl I rfl I.bare (Un.kept hx.keeps) (I.hok.kept hx.keeps) (λb u q hn hor=>?_) na fl sm he
 have:∃ o,s.heap.get? b=some o:=by
  rcases hor with hor | hor
  ·§hor
  ·¶⟨o,z⟩:=Ý0.mp hor
   §(I.hok b o z).there
 ¶⟨o,ho⟩:=this
 have:=hx.keeps b o ho
 have q':h'.get? b=some u:=q
 rw[this] at q';cases q'
 §hideAll_get _ ho hn
÷G62:Passes (CX1 P w) (F90 (CX1 P w) P w K mg base N qual scope f cd A outer s₀ H₀ E) E:=by
 intro pins σ H s e s' I h
 ¶⟨a,cls,a0,H',B,rfl,os,bare,un,hok,fl,na,bB,he⟩:=h
 show Ï _ _ (leaving _ _) _ _ _
 ¤wpAny_leaves_onW I.ok.frames rfl fl λh'' fl' sm=>?_
 §Z60 (X:=F90 (CX1 P w) P w K mg base N qual scope f cd A outer s₀ H₀ E) (s':=s') rfl rfl rfl I os bare un hok bB na fl' sm he
end
÷c02{K:Â}{h:ì}{C:Ç}{bmB:List Ä}{newId:String}(KX:K.In h)(hq:Ì2 K C bmB newId=true) :
  ∃ bm N nm q bs hdct sn sub ab col dd k0 k1 k2 k3 k5 mN,h.get? C=some (excClassObj nm q C N bs bm hdct sn sub ab col dd k0 k1 k2 k3 k5 newId)/\h.Ns N mN/\mN "__init__"=none/\OwnTail h bmB bm:=by
 unfold Ì2 at hq
 split at hq
 case h_2=>cases hq
 case h_1 dd cd sl ho =>
  split at hq
  case h_2=>cases hq
  case h_1 C' bm k0 k1 k2 k3 n k5 hm hs =>
   simp only[Á,beq_iff_eq,À0] at hq
   ¶⟨⟨⟨⟨⟨z1,z2⟩,hdel⟩,ht⟩,hok⟩,hni⟩:=hq
   subst z1 z2
   cases cd with
   |mk nm bs mro ns qn hd sn sub ab col del =>
    dsimp only at hm hdel hok hni
    subst hm hdel
    have esl:sl=#[k0,k1,k2,k3,some (.builtin n),k5]:=by cases sl with | mk l=>simp only at hs;rw[hs]
    subst esl
    ¤⟨bm,ns,nm,qn,bs,hd,sn,sub,ab,col,dd,k0,k1,k2,k3,k5,h.nsMap ns,KX _ _ ho,?_,PySem.W.nsMap_none_of_in KX hok hni,PySem.W.tail_of_in KX ht⟩
    §.of_isNs (PySem.W.isNs_of_in KX hok)
def L10(X:Cx)(E:XK):Prop:=∀ (pins:List (Ç × Obj)) (σ:St) (H:Hp) (s:Æ) (h':ì) (e:Ç) (cls:Ä) (vs:List Ä),Inv X pins σ H s->ì.MadeExcOf s.heap h' e cls vs->E cls (some e) H->X.xe (.ref e) { s with heap:=h' }
÷u71{P:ß}{w:è}{K:Â}{mg:Str->Option Ä}{base:ì}{N:List Str}{qual:Str}{scope:ý}{f:Ç}{cd:Ä}{A:ø}{outer:List Env}{s₀:Æ}{H₀:Hp}{E:XK} :
  L10 (F90 (CX1 P w) P w K mg base N qual scope f cd A outer s₀ H₀ E) E:=λ_ _ _ _ _ _ _ _ I hx he=>u61 I hx he
def q52(E:XK)(C:Ç)(t:TA):TS:=λ_ σ H=>t σ H λvs H1=>vs.length<=Û/\∀ e,H1 e=none->E (.ref C) (some e) H1
section
variable {X:Cx}{x:Str}{C:Ç}{E:XK}{e₀:Ò}{rest:List Ò}{t:TA}{np cpos pos:Pos}
÷L91(hE:L10 X E)(hc:X.calm=true)(hg:Gl X x)(hm:X.mg x=some (.ref C))(hq:Ì2 X.K C [.type "ValueError",.type "Exception",.type "BaseException",.type "object"] "ValueError.__new__"=true)(ha:PA X (e₀::rest) t)
  (hdb:(x == ("__debug__":Str))=false:=by decide) (he:þ (e₀::rest) X.env=(false,eval e₀ X.env)::þ rest X.env:=by rfl) (hpl:(Ö0 cpos (þ rest X.env)).any (·.1)=false:=by rfl) :
  PS X (.Raise (some (.Call (.Name x np) (e₀::rest) [] cpos)) none pos) (q52 E C t):=by
 intro pins s σ H D I h
 ¶⟨bm,N,nm,q,bs,hdct,sn,sub,ab,col,dd,k0,k1,k2,k3,k5,mN,hC,hN,hni,T⟩:=c02 I.ok.mod.kin hq
 ¤wpAny_Raise_call_subT (C:=C) (nm:=nm) (q:=q) (N:=N) (bs:=bs) (bm:=bm) (hdct:=hdct) (sn:=sn) (sub:=sub) (ab:=ab) (col:=col) (dd:=dd) (k0:=k0) (k1:=k1) (k2:=k2) (k3:=k3) (k5:=k5)
  Ü5 (mN:=mN) (T.hasType Ü5.hasBase) (I.ok.hd hc) (by rw[he];§hpl) hni (J00 I hg hm ⟨rfl,?_⟩ hdb)
 have k:=ha cpos pins s σ H _ I h
 rw[he] at k ⊢
 ¤á7 (thn k λus s2 ⟨vs,H2,I2,r,z,q⟩=>⟨rfl,by show us.length<=_;rw[← r.length];§z,I2.bk _ _ hC,hN.keeps I2.bk,T.keeps I2.bk,λh' e hx=>?_⟩)
 ¤hE pins σ H2 s2 h' e _ us I2 hx (q e ?_)
 cases z:H2 e with
 |none=>rfl
 |some o=>¶⟨u,eu⟩:=(I2.hok e o z).there;rw[hx.new] at eu;cases eu
end
open PySem PySem.Spec PyProof.Rows PySem.W PySem.Builtin PySem.Builtin.ObjectAttr PySem.Builtin.Getset_descriptor
section
variable {prog:ß}{w:è}{A:ø}{E:Ä->Æ->Prop}{K:Â}{h:ì}{gg:Array Þ1}{d:Drawn}{t:Nat}{os:OsState}{x D:Ç}{ox:Obj}
structure i50(K:PySem.W.Frag)(D:Addr):Prop where
 ga:findIn K (.ref D) "__getattribute__"=some (some (.builtin "BaseException.__getattribute__"))
 gh:findIn K (.ref D) "__getattr__"=some none
 mb:mroIn K D (.type "BaseException")=some true
 mo:mroIn K D (.type "object")=some true
 fc:findIn K (.ref D) "__class__"=some (some (.builtin "object.__class__"))
 fg:specialIn K (.builtin "object.__class__") "__get__"=some (some (.builtin "getset_descriptor.__get__"))
 ft:takesIn K (.builtin "object.__class__")=some true
def excAt(a D:Ç)(h:ì):Prop:=∃ ox,h.get? a=some ox/\ox.cls=.ref D
÷excAt.ty{M:Model}{a D:Ç}{h:ì}(p:excAt a D h):Looks M h (typeOf (.ref a)) (.ref D):=by
 ¶⟨ox,e,c⟩:=p
 rw[← c]
 §(Looks.ld e).andThen .now
÷M01{M:Model}(KX:K.In h)(L:i50 K D):Looks M h (find (.ref x) (.ref D) "__class__") (.bind (.builtin "getset_descriptor.__get__") (.builtin "object.__class__")):=by
 have l1:=looks_takesIn (M:=M) KX L.ft
 have l2:Looks M h (dataDescriptor? (some (.builtin "object.__class__")) (some (.builtin "getset_descriptor.__get__"))) (some (.builtin "getset_descriptor.__get__",.builtin "object.__class__")):=l1.andThen .now
 §(looks_findIn KX L.fc).andThen ((looks_specialIn KX L.fg).andThen (l2.andThen (Looks.tag .now)))
÷c12{R:Result->Æ->Prop}{tp:Ä}(KX:K.In h)(I:excAt x D h)(hm:mroIn K D (.type "object")=some true)(hq:R (.ok (.ret (.ref D))) ⟨h,gg,d,t,os⟩) :
  Î3 (Ô prog w) A (.call (.builtin "getset_descriptor.__get__") ⟨[.builtin "object.__class__",.ref x,tp],[]⟩) R ⟨h,gg,d,t,os⟩:=by
 have L0:=I.ty (M:=Ô prog w)
 have L1:=looks_mroIn (M:=Ô prog w) KX hm
 (¤Ù2 KF.slot_gs.plain KF.entry_gs (KF.slot_gs.check _ _ _ _ _ _ _ _ KF.type_class (KF.args_gs _ _ _) ?_);unfold ÿ.«getset_descriptor.__get__» descrGet;rw[dga_obj];¤À (Å ?_);unfold descrGetter descrCheckInstance descrNameAndClass isInstance;simp only[KF.owner_class];repeat lk)
 (¤⟨Ø4 _ (by decide +kernel),Â2 KF.entry_class ?_⟩;unfold ÿ.«object.__class__» shownTypeOf;repeat lk)
 §hq
÷u81{M:Model}{nameV:Ä}{Q:Unit->Æ->Prop}(KX:K.In h)(I:excAt x D h)(L:i50 K D)(hq:Q () ⟨h,gg,d,t,os⟩) :
  Ï M A (Õ1 "BaseException.__getattribute__" ⟨[.ref x,nameV],[]⟩) Q E ⟨h,gg,d,t,os⟩:=by
 have hkd:builtinKind "BaseException.__getattribute__"=some .slot:=by decide +kernel
 have hsp:splitId "BaseException.__getattribute__"=some ("BaseException","__getattribute__"):=by decide +kernel
 have L0:=I.ty (M:=M)
 have L1:=looks_mroIn (M:=M) KX L.mb
 have ha:=F.args_bexc_ga (.ref x) nameV
 simp only[Õ1,hkd,hsp]
 unfold isInstance
 ¤À (À (L0.at (L1.at ?_)))
 repeat (first | assumption | wp_step)
÷u91{tk:Tok}{Q:Fin->Æ->Prop}(KX:K.In h)(I:excAt x D h)(L:i50 K D)(hq:Q (.done (.ret (.ref D))) ⟨h,gg,d,t,os⟩) :
  Ï (Ô prog w) A (ÿ.«object.__getattribute__» ⟨[.ref x,.str "__class__" tk],[]⟩) Q E ⟨h,gg,d,t,os⟩:=by
 have L0:=I.ty (M:=Ô prog w)
 have L1:=M01 (M:=Ô prog w) (x:=x) KX L
 (unfold ÿ.«object.__getattribute__»);¤À (Å (À (Å (À (L0.at (À (L1.at ?_)))))))
 show Ï _ _ (Ù7 [Ð7 "object.__class__"] (call (.builtin "getset_descriptor.__get__") [.builtin "object.__class__",.ref x,.ref D]) >>= _) _ _ _
 ¤À (À7 (Õ9 (c12 KX I L.mo ?_)))
 §Å hq
÷M11{tk:Tok}{R:Result->Æ->Prop}(KX:K.In h)(I:excAt x D h)(L:i50 K D)(hq:R (.ok (.ret (.ref D))) ⟨h,gg,d,t,os⟩) :
  Î3 (Ô prog w) A (.call (.builtin "BaseException.__getattribute__") ⟨[.ref x,.str "__class__" tk],[]⟩) R ⟨h,gg,d,t,os⟩ :=
 Ù2 F.attr_ValueError.ga.plain F.entry_bexc_ga (u81 KX I L (u91 KX I L hq))
÷q62{tk:Tok}{fill expr:Bool}{Q:Ä->Æ->Prop}(KX:K.In h)(I:excAt x D h)(L:i50 K D)(hq:Q (.ref D) ⟨h,gg,d,t,os⟩) :
  Ï (Ô prog w) A (getAttrBy (.ref x) (.str "__class__" tk) fill expr) Q E ⟨h,gg,d,t,os⟩:=by
 have L0:=I.ty (M:=Ô prog w)
 have L1:=looks_findIn (M:=Ô prog w) KX L.ga
 have L2:=looks_findIn (M:=Ô prog w) KX L.gh
 have f3:=F.attr_ValueError.ga.bind (.ref x)
 have hno:(expr&&onTheHeap (Ð7 "BaseException.__getattribute__"))=false:=by cases expr <;> rfl
 unfold getAttrBy
 (¤À7 (À (L0.at (À (L1.at ?_)))));
 show Ï _ _ (getAttrByItsOwn _ _ _ _ _ _) _ _ _
 unfold getAttrByItsOwn hookBefore
 rw[if_pos (show onTheHeap (Ã3 D)=true from rfl)]
 ¤À (L2.at ?_)
 unfold callGetattribute
 rw[hno,if_neg (by decide)]
 unfold boundAndCalled
 (¤À (Ë2 (À7 ?_)))
 repeat (any_goals (first | assumption | (with_reducible ¤Õ9 (M11 KX I L ?_)) | wp_step))
÷M21(KX:K.In s.heap)(I:excAt x D s.heap)(L:i50 K D)(hq:Q (some (.ref D)) { s with toks:=s.toks + 1 }):Ï (Ô prog w) A (getAttr? (.ref x) "__class__") Q E s:=by
 ¶⟨h,gg,d,t,os⟩:=s
 unfold getAttr? getAttrBy?
 ¤À (wpAny_mkText (À (Ë2 (q62 KX I L ?_))))
 §Å hq
÷M31(L:i50 K D)(hd:hasDictIn K D=true):KitX K (.ref x) (.ref D) (excAt x D) where
 ty:=λ_ _ _ I=>I.ty
 it:=λM h KX _=>by
  ¶⟨cdD,hcD,_⟩:=any_some hd
  unfold clsIn at hcD
  split at hcD
  case h_2=>cases hcD
  case h_1 ho =>
   intro A' Q' E' s' k q
   unfold isType loadHead
   §À (wpAny_loadPart (k _ _ (KX _ _ ho)) (Å q))
 ne:=λh tp dd its n sl KX htp=>by
  ¶⟨cdD,hcD,_⟩:=any_some hd
  ¤Bool.eq_false_iff.mpr λsame=>?_
  cases Ã3.inj (beq_iff_eq.mp same)
  unfold clsIn at hcD
  split at hcD
  case h_2=>cases hcD
  case h_1 ho=>cases (KX _ _ ho).symm.trans htp
 ca:=λKX I k=>M21 KX I L k
end
def q72(H:Hp)(a D:Ç):Prop:=H a=some (.ext (excAt a D))
÷n01{a D:Ç}{h1 h2:ì}(h:excAt a D h1)(k:∀ o,h1.get? a=some o->h2.get? a=some o):excAt a D h2:=by
 ¶⟨ox,e,c⟩:=h
 §⟨ox,k _ e,c⟩
section
variable {X:Cx}
÷n11:f00 X (.builtin "isinstance") (λxs H Q=>∃ (a D:Ç) (c:V) (cv:Ä) (b:Bool),xs=[.ref a,c]/\((∃ C,c=.ref C/\cv=.ref C)∨∃ T,c=.ty T/\cv=.type T)/\q72 H a D/\i50 X.K D/\hasDictIn X.K D=true/\kitOne X.K (.ref D) cv=some b/\Q (.bl b) H):=by
 intro pins s σ H xs us Q I r h
 ¶⟨a,D,c,cv,b,rfl,hc,hx,L,hd,e,q⟩:=h
 ¶⟨u,w',rfl,rx,rt⟩:=vals2 r
 cases (show u=Ã3 a from rx)
 ¶⟨hp,_,_⟩:=(show h50 X.prog X.w H s.heap a (.ext (excAt a D)) from I.hok a _ hx)
 have fin:∀ tk,EP X pins σ Q (.bool b) { s with toks:=tk }:=λtk=>⟨.bl b,H,I.tok tk,rfl,q⟩
 have ew:w'=cv:=by
  rcases hc with ⟨C,rfl,rfl⟩ | ⟨T,rfl,rfl⟩
  ·§rt
  ·§rt
 subst ew
 §kia_one (M31 L hd) I.kIn hp e (λz=>by rcases hc with ⟨C,_,rfl⟩ | ⟨T,_,rfl⟩ <;> §nomatch z) fin
end
end L2
namespace L2
open PySem PySem.Spec PyProof.Rows
section
variable {X:Cx}{pins:List (Ç × Obj)}{σ:St}{H H':Hp}{s s':Æ}{B h4:ì}
÷U31(I:Inv X pins σ H s)(os:s'.os=s.os)(bare:Ó5 s'.gens)(un:Un (frs X.stack) [] H H' s.heap s'.heap)(hok:HOk X.prog X.w H' s'.heap)(bB:InB B (frs X.stack) H' s.heap s'.heap)(kB:B.StaysIn h4)(sm:s'.heap.UpToSlots h4) :
  Inv X pins σ H' { s' with heap:=h4 }:=by
 have frN:∀ b∈frs X.stack,H' b=none:=λb hb=>by
  ¶⟨_,o,ho,_⟩:=I.stack.mem hb
  §un.free b o ho (I.v90 b hb) (by simp)
 have fr4:∀ b o,s.heap.get? b=some o->b∈frs X.stack->∃ sl,h4.get? b=some { o with slots:=sl }:=λb o e hb=>by
  ¶⟨sl,e1⟩:=un.slot b o e (I.v90 b hb) hb (by simp)
  ¶⟨_,o',ho',hd⟩:=I.stack.mem hb
  rw[e] at ho';cases ho'
  ¶⟨sl',e2⟩:=sm b _ e1 hd
  §⟨sl',e2⟩
 have old:∀ b o,s.heap.get? b=some o->b ∉ frs X.stack->∃ u,s'.heap.get? b=some u/\h4.get? b=some u:=λb o e hn=>by
  ¶⟨o2,e2⟩:=un.there b o e (by simp)
  §⟨o2,e2,kB b _ (bB b o2 e2 hn (.inl ⟨o,e⟩))⟩
 ¤I.m32 (s':={ s' with heap:=h4 }) (ch:=[]) os ⟨λb o e n hb _=>?_,λb o e n hb _=>fr4 b o e hb,un.free,λb o e _=>?_,un.tups,un.frzs,un.tbls⟩ (λc o e=>?_) bare λb hb=>absurd hb (by simp)
 ·¶⟨u,e1,e2⟩:=old b o e hb
  have e3:=un.keep b o e n hb (by simp)
  rw[e1] at e3;cases e3
  §e2
 ·by_cases hb:b∈frs X.stack
  ·¶⟨sl,e1⟩:=fr4 b o e hb
   §⟨_,e1⟩
  ·¶⟨u,_,e2⟩:=old b o e hb
   §⟨u,e2⟩
 ·¤(hok c o e).l41 (λb u hb q=>?_) (λ_ q=>q) λ_ _ q=>q
  have hbn:H' b≠none:=by
   rcases hb with rfl | hb
   ·rw[e];§λz=>nomatch z
   ·rw[hb];§λz=>nomatch z
  §kB b _ (bB b u q (λhm=>hbn (frN b hm)) (.inr hbn))
÷Inv.v01{h':ì}{m m':Str->Option Ä}{t':Nat}(I:Inv X pins σ H s)(hl:∀ (i:Nat) (x:Str) (v:V),X.N[i]?=some x->σ[i]?=some (some v)->Vis X.env.scope x->∃ u,RelV v u/\Look X.env s.heap m x u)
  (hn':h'.Ns X.env.locals m') (hs:Ë7 X.env.locals s.heap h') (hm:∀ (i:Nat) (x:Str),X.N[i]?=some x->m' x=m x):Inv X pins σ H { s with heap:=h',toks:=t' }:=by
 have oth:∀ b o,b≠X.env.locals->s.heap.get? b=some o->h'.get? b=some o:=λb o hb e=>(hs.2 b hb).trans e
 have neL:∀ b o,X.s₀.heap.get? b=some o->b≠X.env.locals:=λb o e=>Ø (Ù (à e) I.ok.above)
 have cel:∀ x c v,X.env.cells.lookup x=some c->s.heap.IsCell c v->h'.IsCell c v:=λx c v e ⟨o,ho,hd⟩=>⟨o,oth c o (I.cne x c e) ho,hd⟩
 ¤⟨I.ok,I.os,I.bare,⟨λb o e n hb hx=>oth b o (neL b o e) (I.base.keep b o e n hb hx),λb o e n hb hx=>?_,I.base.free,λb o e hx=>?_,I.base.tups,I.base.frzs,I.base.tbls⟩,⟨m',hn',λi x v e1 e2 e3=>?_⟩,λx c e=>?_,I.free,I.freeC,λp hp=>?_,λc o e=>?_,I.len⟩
 ·¶⟨sl,e1⟩:=I.base.slot b o e n hb hx
  §⟨sl,oth b _ (neL b o e) e1⟩
 ·¶⟨o',e1⟩:=I.base.there b o e hx
  §⟨o',oth b _ (neL b o e) e1⟩
 ·¶⟨u,r,l⟩:=hl i x v e1 e2 e3
  ¤⟨u,r,?_⟩
  rcases l with ⟨k,z⟩ | ⟨k,c,ec,z⟩
  ·§.inl ⟨k,(hm i x e1).trans z⟩
  ·§.inr ⟨k,c,ec,cel x c _ ec z⟩
 ·¶⟨v,z⟩:=I.cell x c e
  §⟨v,cel x c v e z⟩
 ·¶⟨e,n,ne,nf,d⟩:=I.pin p hp
  §⟨oth _ _ ne e,n,ne,nf,d⟩
 ·¤(I.hok c o e).l41 (λb u hb q=>oth b u (λz=>?_) q) (λ_ q=>q) λ_ _ q=>q
  rcases hb with rfl | hb
  ·rw[z,I.free] at e;cases e
  ·rw[z,I.free] at hb;cases hb
÷Inv.q82{T:Ç}{o:HO}(I:Inv X pins σ H s)(nT:H T=none)(n0:X.s₀.heap.get? T=none)(hL:T≠X.env.locals)(hc:∀ x c,X.env.cells.lookup x=some c->c≠T)(hp:∀ p∈X.pn++pins,p.1≠T)(new:h50 X.prog X.w (upd H T o) s.heap T o) :
  Inv X pins σ (upd H T o) s:=by
 have u:=I.base
 ¤⟨I.ok,I.os,I.bare,⟨u.keep,u.slot,λb ob e n hx=>?_,u.there,λb xs e=>?_,λb ob xs e=>?_,λb ps e=>?_⟩,I.loc,I.cell,?_,λx c e=>?_,λp hpp=>?_,λc v e=>?_,I.len⟩
 ·rw[a60 (λz=>by rw[z,n0] at e;cases e)];§u.free b ob e n hx
 ·have z:=u.tups b xs e;rw[a60 (a80 z nT)];§z
 ·have z:=u.frzs b ob xs e;rw[a60 (a80 z nT)];§z
 ·¶⟨more,z⟩:=u.tbls b ps e
  §⟨more,by rw[a60 (a80 z nT)];§z⟩
 ·rw[a60 hL.symm];§I.free
 ·rw[a60 (hc x c e)];§I.freeC x c e
 ·¶⟨e,n,r⟩:=I.pin p hpp
  §⟨e,by rw[a60 (hp p hpp)];§n,r⟩
 ·by_cases hcT:c=T
  ·subst hcT;rw[b20] at e;cases e;§new
  ·rw[a60 hcT] at e
   §(I.hok c v e).l41 (λ_ _ _ q=>q) (λb q=>by rw[a60 (a80 q nT)];§q) λb xs q=>by rw[a60 (a80 q nT)];§q
end
structure n21(P:Program)(w:World)(K:PySem.W.Frag)(mg:Str->Option Value)(base:Heap)(CX:CXT)(k:Nat)(f:Addr)(fd:FuncData)(ps:List Str)(sp:Shared->Sp):Prop where
 len:∀ s vs H Q E,sp s vs H Q E->vs.length=ps.length
 run:∀ (A:Around) (outer:List Env) (s:Shared) (H:Hp) (args:Args) (us:List Value) (vs:List V) (Q:VK) (E:XK),A00 k A->Z01 P w K mg base A outer s H->BindsTo s fd args (ps.zip us)->Vals vs us->sp s vs H Q E ->
  codeAny (model P w) A (.call (.ref f) args) (CR CX outer P w H s Q E) s
÷q92{CX:CXT}{P:ß}{w:è}{K:Â}{mg:Str->Option Ä}{base:ì}{k:Nat}{f:Ç}{name qual:Str}{params:Î1}{body:List Å1}{scope:ý}{dV kV doc pm cdv ct oc:Ä}{an od:Option Ç}
  {osl:Array (Option Ä)}{N ps:List Str}{sp:Æ->Sp} (lk:K.lookup f=some ⟨oc,od,.func (fnOf name qual params body scope dV kV doc pm an cdv ct),osl⟩) (hcd:PySem.W.codeIn K cdv qual=true) (S:k30 N ps scope)
  (len:∀ s vs H Q E,sp s vs H Q E->vs.length=ps.length)
  (hbody:∀ (A:ø) (outer:List Env) (s:Æ) (H:Hp) (vs:List V) (Q:VK) (E:XK),A00 k (A.deeper (Ï5 qual scope s.heap.objs.size f cdv))->sp s vs H Q E ->
   ∃ t,PSs (F90 CX P w K mg base N qual scope f cdv A outer s H E) body t/\t { nx:=λ_ H'=>Q .non H',rt:=Q } (start N vs) H) :
  n21 P w K mg base CX (k + 1) f (fnOf name qual params body scope dV kV doc pm an cdv ct) ps sp:=by
 ¤⟨len,λA outer s H args us vs Q E hr e0 hb r hsp=>?_⟩
 have hl:=len _ _ _ _ _ hsp
 have KX:K.In s.heap:=e0.mod.kin.keeps λb o e=>(e0.bs b o e).1
 have lim:s.heap.NoLimit:=e0.mod.nolimit.keeps λb o e=>(e0.bs b o e).1
 have hkind:∀ y∈ps.zip us,scope.names.lookup y.1=some .local∨(scope.names.lookup y.1=some .cell/\((cellsFrom (s.heap.objs.size + 1) scope.names []).lookup y.1).isSome=true):=λ⟨n,v⟩ hy=>by
  rcases S.par n (of_mem_zip hy).1 with q | q
  ·§.inl q
  ·§.inr ⟨q,cellsFrom_some _ _ _ (.inl q)⟩
 ¤codeAny_call_function hr.depth (KX _ _ lk) rfl S.co S.gen rfl (codeRec_of KX hcd) (hb _ _ _ _ ?_)
 ¤á3 S.kind hkind λenv he s1 x=>?_
 subst he
 ¤⟨lim.keeps x.toInCall.keep,codeAny_func ?_⟩
 ¶⟨t,ht,hq⟩:=hbody A outer s H vs Q E (hr.deeper _) hsp
 have I:Inv (F90 CX P w K mg base N qual scope f cdv A outer s H E) [] (start N vs) H s1:=Q80 S hr.hd e0 hl r x
 ¤Â1 (ht [] s1 (start N vs) H _ I hq) (λfl s' hs=>?_) λe s' hs=>hs
 have fin:∀ {σ':St}{H':Hp}{v:V}{u:Ä},Inv (F90 CX P w K mg base N qual scope f cdv A outer s H E) [] σ' H' s'->RelV v u->Q v H'->CE outer P w H s Q u s' :=
  λ{σ' H' v u} J rv q=>⟨v,H',J.os,J.bare,J.base,J.hok,rv,q⟩
 cases fl with
 |ret u =>
  ¶⟨v,σ',H',J,rv,q⟩:=hs
  §fin J rv q
 |next =>
  ¶⟨σ',H',J,q⟩:=hs
  §fin (v:=V.non) (u:=â) J rfl q
 |brk =>
  ¶⟨_,_,_,q⟩:=hs
  §À3 q
 |cont =>
  ¶⟨_,_,_,q⟩:=hs
  §À3 q
÷Fun.okS{P:ß}{w:è}{K:Â}{mg:Str->Option Ä}{base:ì}{x qual:Str}{st:Å1}{f:Ç}{fd:Å2}{N ps:List Str}{k:Nat}{sp:Æ->Sp}(F:Fun K x qual st f fd)(S:k30 N ps (c00 st))(len:∀ s vs H Q E,sp s vs H Q E->vs.length=ps.length)
  (hb:∀ (cdv:Ä) (A:ø) (outer:List Env) (s:Æ) (H:Hp) (vs:List V) (Q:VK) (E:XK),A00 k (A.deeper (Ï5 qual (c00 st) s.heap.objs.size f cdv))->sp s vs H Q E ->
   ∃ t,PSs (F90 CX0 P w K mg base N qual (c00 st) f cdv A outer s H E).nox (i40 st) t/\t { nx:=λ_ H'=>Q .non H',rt:=Q } (start N vs) H):n21 P w K mg base CX0 (k + 1) f fd ps sp:=by
 ¶⟨oc,od,kV,doc,pm,an,cdv,ct,osl,rfl,lk,hcd⟩:=F.ex
 ¤q92 lk hcd S len λA outer s H vs Q E hr hsp=>?_
 ¶⟨t,h,q⟩:=hb cdv A outer s H vs Q E hr hsp
 §⟨t,h.nox,q⟩
def S10(P:ß)(w:è)(K:Â)(mg:Str->Option Ä)(base:ì)(N:List Str)(qual:Str)(scope:ý)(f:Ç)(cd:Ä)(cl:List (Str × Ç))(A:ø)(outer:List Env)(s:Æ)(H:Hp)(E:XK):Cx where
 prog:=P
 w:=w
 K:=K
 mg:=mg
 base:=base
 A:=A.deeper (envX qual scope s.heap.objs.size f cd cl)
 N:=N
 s₀:=s
 H₀:=H
 env:=envX qual scope s.heap.objs.size f cd cl
 outer:=outer
 stack:=envX qual scope s.heap.objs.size f cd cl::outer
 ex:=[]
 calm:=true
 fn:=λ_=>false
 pn:=[]
 xe:=λe s'=>Ï (Ô P w) (A.deeper (envX qual scope s.heap.objs.size f cd cl)) (leaving (envX qual scope s.heap.objs.size f cd cl) e) (λ_ s''=>CX1 P w outer H s E e s'') (λe' s''=>CX1 P w outer H s E e' s'') s'
section
variable {P:ß}{w:è}{K:Â}{mg:Str->Option Ä}{base:ì}{N:List Str}{qual:Str}{scope:ý}{f:Ç}{cd:Ä}{cl:List (Str × Ç)}{A:ø}{outer:List Env}{s₀:Æ}{H₀:Hp}{E:XK}
÷c22:Passes (CX1 P w) (S10 P w K mg base N qual scope f cd cl A outer s₀ H₀ E) E:=by
 intro pins σ H s e s' I h
 ¶⟨a,cls,a0,H',B,rfl,os,bare,un,hok,fl,na,bB,he⟩:=h
 show Ï _ _ (leaving _ _) _ _ _
 ¤wpAny_leaves_onW I.ok.frames rfl fl λh'' fl' sm=>?_
 §Z60 (X:=S10 P w K mg base N qual scope f cd cl A outer s₀ H₀ E) (s':=s') rfl rfl rfl I os bare un hok bB na fl' sm he
structure n31(scope:Scope)(cl:List (Str × Addr))(N:List Str)(vs:List V)(H:Hp)(h:Heap):Prop where
 inj:∀ x y c,cl.lookup x=some c->cl.lookup y=some c->x=y
 has:∀ x,(scope.names.lookup x=some .cell∨scope.names.lookup x=some .free)->∃ c,cl.lookup x=some c
 cell:∀ x c,cl.lookup x=some c->∃ v,h.IsCell c v
 free:∀ x c,cl.lookup x=some c->H c=none
 val:∀ (i:Nat) (x:Str) (v:V),N[i]?=some x->vs[i]?=some v->scope.names.lookup x=some .free/\∃ c u,cl.lookup x=some c/\RelV v u/\h.IsCell c (some u)
 len:vs.length=N.length
÷c32{vs:List V}{h₁:ì}{t:Nat}(e0:Z01 P w K mg base A outer s₀ H₀)(hd:A.handled=none)(hk:scope.kind=.function)(FR:n31 scope cl N vs H₀ s₀.heap)(hns:h₁.Ns s₀.heap.objs.size λ_=>none)
  (hkp:∀ b o,s₀.heap.get? b=some o->h₁.get? b=some o) :
  Inv (S10 P w K mg base N qual scope f cd cl A outer s₀ H₀ E) [] (vs.map some) H₀ { s₀ with heap:=h₁,toks:=t }:=by
 have noA:∀ b:Ç,b ∉ (S10 P w K mg base N qual scope f cd cl A outer s₀ H₀ E).ex:=λb z=>absurd (show b∈([]:List Ç) from z) (by simp)
 have cel:∀ c v,s₀.heap.IsCell c v->h₁.IsCell c v:=λc v ⟨o,ho,hd⟩=>⟨o,hkp c o ho,hd⟩
 ¤⟨⟨e0.mod,hk,rfl,rfl,Í _,FR.inj,FR.has,(λ_ _ z=>nomatch z),(λ_=>hd),á2 e0.frames,.inr ⟨rfl,rfl⟩,λb z=>absurd z (noA b),e0.bs,e0.bsz,λb _ _=>noA b,λb z=>absurd z (noA b),e0.l51,e0.frf⟩,
  rfl,e0.bare,Un.kept hkp,⟨_,hns,λi x v h1 h2 h3=>?_⟩,λx c h=>?_,e0.hok.fresh (Í _),FR.free,λp hp=>absurd (show p∈([]:List (Ç × Obj)) from hp) (by simp),e0.hok.kept hkp,?_⟩
 ·have hv:vs[i]?=some v:=by
   rw[Ý] at h2
   cases e:vs[i]? with
   |none=>rw[e] at h2;cases h2
   |some a=>rw[e] at h2;cases h2;rfl
  ¶⟨k,c,u,ec,r,z⟩:=FR.val i x v h1 hv
  §⟨u,r,.inr ⟨.inr k,c,ec,cel c _ z⟩⟩
 ·¶⟨v,z⟩:=FR.cell x c h
  §⟨v,cel c v z⟩
 ·rw[É];§FR.len
end
def recAt(c:Ç)(qual:Str):ì->Prop:=λh=>h.CodeRec (.ref c) qual
÷G70{c:Ç}{qual:Str}{h1 h2:ì}(h:recAt c qual h1)(k:∀ o,h1.get? c=some o->h2.get? c=some o):recAt c qual h2:=by
 ¶⟨c',oc,vs,tq,e,ho,hd,hq⟩:=h
 cases e
 §⟨c,oc,vs,tq,rfl,k _ ho,hd,hq⟩
section
variable {P:ß}{w:è}{K:Â}{mg:Str->Option Ä}{base:ì}{N:List Str}{qual:Str}{scope:ý}{f c':Ç}{cl:List (Str × Ç)}{s₀:Æ}{H₀:Hp}{k:Nat}{pm ctv cls:Ä}{params:Î1}{body:Ò}{vs:List V}
÷n31.later{outer:List Env}{H:Hp}{s:Æ}(FR:n31 scope cl N vs H₀ s₀.heap)(un:Un (frs outer) [] H₀ H s₀.heap s.heap):n31 scope cl N vs H s.heap:=by
 have cel:∀ x c v,cl.lookup x=some c->s₀.heap.IsCell c v->s.heap.IsCell c v:=λx c v e ⟨o,ho,hd⟩=>by
  ¶⟨sl,e1⟩:=un.any ho (FR.free x c e) (by simp)
  §⟨_,e1,hd⟩
 ¤⟨FR.inj,FR.has,λx c e=>?_,λx c e=>?_,λi x v h1 h2=>?_,FR.len⟩
 ·¶⟨v,z⟩:=FR.cell x c e
  §⟨v,cel x c v e z⟩
 ·¶⟨v,o,ho,_⟩:=FR.cell x c e
  §un.free c o ho (FR.free x c e) (by simp)
 ·¶⟨k,c,u,ec,r,z⟩:=FR.val i x v h1 h2
  §⟨k,c,u,ec,r,cel x c _ ec z⟩
end
def Tab(H:Hp)(P:Ç)(qual:Str):Prop:=∃ ps:Array Ä,H P=some (.tbl ps)/\ß6 ps.toList/\∀ pos c,Ù8 pos ps.toList=some c->∃ c',c=.ref c'/\H c'=some (.ext (recAt c' qual))
÷n41{line col:Int}{pos':Pos}{c c2:Ä}(tl:List Ä)(h:ß6 tl)(e:Ù8 pos' (tl++[Ã6 line,Ã6 col,c])=some c2):c2=c∨Ù8 pos' tl=some c2:=by
 fun_induction ß6 tl with
 |case1 =>
  simp only[Ì8,Ù8,Ã6] at e
  split at e
  ·cases e;§.inl rfl
  ·cases e
 |case2 a t b u x rest ih =>
  simp only[List.cons_append,Ù8] at e ⊢
  split at e
  ·rename_i hc;rw[if_pos hc];§.inr e
  ·rename_i hc;rw[if_neg hc];§ih h e
 |case3 tl h1 h2=>§h.elim
÷M41(hf:∀ y∈lsc.names,y.2=.free->∃ c,env.cells.lookup y.1=some c):∃ cl,closureFor lsc env=pure cl/\(∀ x c,cl.lookup x=some c->env.cells.lookup x=some c)/\∀ y∈lsc.names,y.2=.free->∃ c,cl.lookup y.1=some c:=by
 ¶⟨cl,e,h1,_,h3⟩:=J70 env lsc.names [] hf (λx c z=>by simp at z)
 ¤⟨cl,?_,h1,h3⟩
 unfold closureFor
 first
  |(rw[show(forIn lsc.names ([]:List (Str × Ç)) _:Sem _)=_ from e];rfl)
  |(simp only[bind_pure];§e)
structure L20(P:Addr)(H H':Hp):Prop where
 same:∀ b o,b≠P->H b=some o->H' b=some o
section
variable {X:Cx}{pins:List (Ç × Obj)}{σ:St}{H:Hp}{s:Æ}{c P:Ç}{qual:Str}{params:Î1}{body:Ò}{lsc:ý}{lpos:Pos}{A:ø}{Q:Ä->Æ->Prop}{E:Ä->Æ->Prop}
÷M51(I:Inv X pins σ H s)(hdef:defaultsOf params X.env=([],[]))(hcode:X.env.code=.ref c)(hhd:Ä8 X.K c P=true)(TB:Tab H P qual)(hqu:X.env.qual++"<lambda>"=qual)
  (hbm:∃ bm ob,X.mg "__builtins__"=some (.ref bm)/\bm≠Í7/\X.base.get? bm=some ob/\ob.cls=.type "module"/\ob.dict=some Í7/\ob.data=.plain)
  (hfr:∀ y∈lsc.names,y.2=.free->∃ c,X.env.cells.lookup y.1=some c)
  (k:∀ (cl:List (Str × Ç)) (f c':Ç) (pm ctv:Ä) (h2:ì) (tk:Tok) (H2:Hp),(∀ x c,cl.lookup x=some c->X.env.cells.lookup x=some c)->(∀ y∈lsc.names,y.2=.free->∃ c,cl.lookup y.1=some c) ->
   Inv X pins σ H2 { s with heap:=h2,toks:=tk }->Tab H2 P qual->L20 P H H2->(∃ o,h2.get? f=some o/\o.data=.func (kla_fn "<lambda>" qual params body lsc cl pm (.ref c') ctv))->H2 f=none->H2 c'=some (.ext (recAt c' qual))->s.heap.objs.size<=f ->
   Q (.ref f) { s with heap:=h2,toks:=tk }):Ï (Ô X.prog X.w) A (eval (.Lambda params body lsc lpos) X.env) Q E s:=by
 ¤PySem.W.kla_eval hdef ?_
 rw[hqu]
 ¶⟨cl,ecl,cl1,cl2⟩:=M41 hfr
 ¶⟨ps,hP,ht,hall⟩:=TB
 have hPt:s.heap.get? P=some (È3 ps):=I.hok P _ hP
 have hg:=I.mod.glob.keeps I.bk
 have bsN:∀ b o,X.base.get? b=some o->b≠P:=λb o e z=>by have:=(I.bs b o e).2;rw[z,hP] at this;cases this
 have hgP:ä≠P:=by ¶⟨o,_,_,e,_⟩:=I.mod.glob;§bsN _ o e
 ¶⟨bm,ob,b1,b2,b3,b4,b5,b6⟩:=hbm
 have hbGl:bm≠mainGlobals:=λq=>by
  ¶⟨o,es,ep,e,hd,_⟩:=I.mod.glob
  rw[q,e] at b3;(cases b3;rw[hd] at b6;cases b6)
 have BA:s.heap.BuiltinsAt X.mg P:=⟨bm,ob,b1,b2,hbGl,bsN _ _ b3,I.bk _ _ b3,b4,b5,b6⟩
 have CH:=codeHd_of_K I.kIn hhd
 cases hca:Ù8 lpos ps.toList with
 |some cv =>
  ¶⟨c',rfl,hc'⟩:=hall lpos cv hca
  ¤PySem.W.kla_makeFunctionHit ecl I.ok.glob hg hcode CH hPt ht hca BA λctv h' tk hk hsz=>?_
  have kp:∀ b o,s.heap.get? b=some o->(h'.push { cls:=.type "function",data:=.func (kla_fn "<lambda>" qual params body lsc cl ((X.mg "__name__").getD .none) (.ref c') ctv) }).get? b=some o:=λb o e=>Ã _ (hk b o e)
  have nf:H h'.objs.size=none:=I.hok.fresh hsz
  §k cl h'.objs.size c' _ ctv _ tk H cl1 cl2 (I.kept (t':=tk) kp) ⟨ps,hP,ht,hall⟩ ⟨λ_ _ _ e=>e⟩ ⟨_,Ë _ rfl,rfl⟩ nf hc' hsz
 |none =>
  ¤PySem.W.kla_makeFunction ecl I.ok.glob hg hcode CH hPt ht hca hgP BA λc' ctv h' tk hx hge hlt hrec htb=>?_
  have lP:P < s.heap.objs.size:=à hPt
  have cP:c'≠P:=Ê4 (Ù lP hge)
  have nC:H c'=none:=I.hok.fresh hge
  have kp:∀ b o,b≠P->s.heap.get? b=some o->(h'.push (kla_obj "<lambda>" qual params body lsc cl ((X.mg "__name__").getD .none) c' ctv)).get? b=some o:=λb o hb e=>Ã _ (hx b o hb e)
  have tb:(h'.push (kla_obj "<lambda>" qual params body lsc cl ((X.mg "__name__").getD .none) c' ctv)).get? P=some (È3 (ps++#[Ã6 lpos.line,Ã6 lpos.col,.ref c'])):=Ã _ htb
  have rc:recAt c' qual (h'.push (kla_obj "<lambda>" qual params body lsc cl ((X.mg "__name__").getD .none) c' ctv)):=G70 hrec λo q=>Ã _ q
  have h2P:upd (upd H P (.tbl (ps++#[Ã6 lpos.line,Ã6 lpos.col,.ref c']))) c' (.ext (recAt c' qual)) P=some (.tbl (ps++#[Ã6 lpos.line,Ã6 lpos.col,.ref c'])):=by rw[a60 cP.symm];§b20
  have oth:∀ b,b≠P->b≠c'->upd (upd H P (.tbl (ps++#[Ã6 lpos.line,Ã6 lpos.col,.ref c']))) c' (.ext (recAt c' qual)) b=H b:=λb h1 h2=>by rw[a60 h2,a60 h1]
  have neC:∀ b o,H b=some o->b≠c':=λb o e=>a80 e nC
  have I2:Inv X pins σ (upd (upd H P (.tbl (ps++#[Ã6 lpos.line,Ã6 lpos.col,.ref c']))) c' (.ext (recAt c' qual))) { s with heap:=h'.push (kla_obj "<lambda>" qual params body lsc cl ((X.mg "__name__").getD .none) c' ctv),toks:=tk }:=by
   have nP:∀ b,H b=none->b≠P:=λb n z=>by rw[z,hP] at n;cases n
   ¤I.step (g':=s.gens) (d':=s.drawn) (ch:=[]) (λb hb=>absurd hb (by simp)) (λb o _ _ _ e n=>kp b o (nP b n) e) (λb o _ _ _ e n=>⟨o.slots,kp b o (nP b n) e⟩) (λb o _ e n=>?_) (λb o _ e=>?_) (λb xs e=>?_) (λb o u e=>?_) (λb qs e=>?_) (λm hm=>?_) (λb u e=>?_) I.bare
   ·rw[oth b (nP b n) (Ø (Ù (à e) hge))];§n
   ·by_cases hb:b=P
    ·subst hb;§⟨_,tb⟩
    ·§⟨o,kp b o hb e⟩
   ·rw[oth b (λz=>by rw[z,hP] at e;cases e) (neC b _ e)];§e
   ·rw[oth b (λz=>by rw[z,hP] at e;cases e) (neC b _ e)];§e
   ·by_cases hb:b=P
    ·subst hb
     rw[hP] at e;cases e
     §⟨_,h2P⟩
    ·§⟨#[],by rw[oth b hb (neC b _ e),e];simp⟩
   ·¶⟨o,es,ep,ho,r⟩:=hm
    §⟨o,es,ep,kp _ o (nP _ I.free) ho,r⟩
   ·by_cases hbc:b=c'
    ·subst hbc
     rw[b20] at e;cases e
     ¶⟨_,oc,_,_,e1,e2,_⟩:=id rc
     cases e1
     §⟨rc,⟨oc,e2⟩,λh1 h2 p kk=>G70 p kk⟩
    ·by_cases hb:b=P
     ·subst hb
      rw[h2P] at e;cases e
      §tb
     ·rw[oth b hb hbc] at e
      ¤(I.hok b u e).l41 (λb2 u2 hb2 q=>kp b2 u2 (λz=>?_) q) (λb2 q=>?_) λb2 xs q=>?_
      ·rcases hb2 with y | y
       ·§hb (y.symm.trans z)
       ·rw[z,hP] at y;cases y
      ·rw[oth b2 (λz=>by rw[z,hP] at q;cases q) (neC b2 _ q)];§q
      ·rw[oth b2 (λz=>by rw[z,hP] at q;cases q) (neC b2 _ q)];§q
  have lf:s.heap.objs.size<=h'.objs.size:=É3 (Ê8 hge hlt)
  ¤k cl h'.objs.size c' _ ctv _ tk _ cl1 cl2 I2 ⟨_,h2P,?_,λpos cc e=>?_⟩ ⟨λb o hb e=>by rw[oth b hb (neC b _ e)];§e⟩ ⟨_,Ë _ rfl,rfl⟩ ?_ b20 lf
  ·rw[Array.toList_append];§TriplesOk_snoc _ _ _ _ ht
  ·rw[Array.toList_append] at e
   rcases n41 _ ht e with z | z
   ·§⟨c',z,b20⟩
   ·¶⟨c2,rfl,hc2⟩:=hall pos cc z
    §⟨c2,rfl,by rw[oth c2 (λy=>by rw[y,hP] at hc2;cases hc2) (neC c2 _ hc2)];§hc2⟩
  ·rw[oth _ (Ê4 (Ù lP lf)) (Ê4 hlt)];§I.hok.fresh lf
end
def BMain(mg:Str->Option Ä)(h:ì):Prop:=∃ bm ob,mg "__builtins__"=some (.ref bm)/\bm≠Í7/\h.get? bm=some ob/\ob.cls=.type "module"/\ob.dict=some Í7/\ob.data=.plain
÷r02{P:ß}{w:è}{X:Cx}:Passes (CX1 P w) X (λ_ _ _=>False):=λ_ _ _ _ _ _ _ h=>by
 ¶⟨_,_,_,_,_,_,_,_,_,_,_,_,_,e⟩:=h
 §e.elim
÷Tab.same{H H':Hp}{P:Ç}{q:Str}(t:Tab H P q)(s:a30 H H'):Tab H' P q:=by
 ¶⟨ps,e,tr,h⟩:=t
 ¤⟨ps,s _ _ e,tr,λpos c hc=>?_⟩
 ¶⟨c',e1,e2⟩:=h pos c hc
 §⟨c',e1,s _ _ e2⟩
def FnL(P:ß)(w:è)(H₀:Hp)(s₀:Æ)(f:Ç)(fd:Å2):Prop:=∀ (outer:List Env) (s:Æ) (H:Hp),Un (frs outer) [] H₀ H s₀.heap s.heap->a30 H₀ H->HOk P w H s.heap->∃ c d sl,s.heap.get? f=some ⟨c,d,.func fd,sl⟩
÷FnL.new{P:ß}{w:è}{H₀:Hp}{s₀:Æ}{f:Ç}{fd:Å2}(ho:∃ o,s₀.heap.get? f=some o/\o.data=.func fd)(nf:H₀ f=none):FnL P w H₀ s₀ f fd:=λouter s H un _ _=>by
 ¶⟨⟨c,d,dt,sl⟩,e,hd⟩:=ho
 have hd:dt=.func fd:=hd
 subst hd
 ¶⟨sl,h⟩:=un.any e nf (by simp)
 §⟨_,_,sl,h⟩
structure S20(P:Program)(w:World)(K:PySem.W.Frag)(mg:Str->Option Value)(base:Heap)(k:Nat)(f:Addr)(H₀:Hp)(s₀:Shared)(cls:Value)(RR:Hp->Prop):Prop where
 fn:∃ fd,FnL P w H₀ s₀ f fd
 run:∀ (A:Around) (outer:List Env) (s:Shared) (H:Hp),A00 k A->Z01 P w K mg base A outer s H->Un (frs outer) [] H₀ H s₀.heap s.heap->a30 H₀ H ->
  codeAny (model P w) A (.call (.ref f) ⟨[],[]⟩) (CR (CX1 P w) outer P w H s (λ_ _=>False) λc _ H'=>c=cls/\RR H') s
def G72(X:Cx)(i j:Nat)(f C:Ç)(RR:Hp->Prop):TS:=λD σ H=>σ[i]?=some (some (.ref f))/\a30 X.H₀ H/\∀ a H',RR H'->H' a=none->D.nx (σ.set j (some (.ref a))) (upd H' a (.ext (excAt a C)))
section
variable {X:Cx}{k i j:Nat}{f C D:Ç}{x y z n:Str}{p1 p2 p3 p4 p5 p6 p7 p8 p9:Pos}
÷v21(hx0:X.ex=[])(hS:X.stack=X.env::X.outer)(hf:X.env.frame=some X.env.locals)(hr:A00 k X.A)(th:S20 X.prog X.w X.K X.mg X.base k f X.H₀ X.s₀ (.ref C) RR)
  (hy:X.N[i]?=some y) (vy:Vis X.env.scope y) (dy:(y == ("__debug__":Str))=false) (cy:(y == ("__classdict__":Str))=false)
  (hg:Gl X x) (hm:X.mg x=some (.ref D)) (dx:(x == ("__debug__":Str))=false) (he:PySem.W.exmOne X.K (.ref C) (.ref D)=some true)
  (hn:X.env.kindOf n=some .local) (nN:n ∉ X.N) (dn:(n == ("__debug__":Str))=false) (hN:X.N.Nodup) (hz:X.N[j]?=some z) (lz:Loc X.env.scope z) (hfn:X.fn z=true) :
  PS X (.Try [.Expr (.Call (.Name y p1) [] [] p2) p3] [.ExceptHandler (some (.Name x p4)) (some n) [.Assign [.Name z p5] (.Name n p6) p7] p8] [] [] p9) (G72 X i j f C RR):=by
 intro pins s σ H Dd I h
 ¶⟨eσ,sH,q⟩:=h
 have U0:Un (frs X.stack) [] X.H₀ H X.s₀.heap s.heap:=by
  have u:=I.base
  rw[hx0] at u
  §u.mono (λb hb=>by rw[hS];unfold frs;rw[Á3,hf];§È _ hb) λb hb=>hb
 ¶⟨fd,hfd⟩:=th.fn
 ¶⟨c0,d0,sl,hof⟩:=hfd X.stack s H U0 sH I.hok
 have hkind:(X.env.scope.kind == .class || (X.env.scope.kind == .module&&X.env.locals != X.env.globals))=false:=by rw[I.ok.kind];rfl
 ¤wpAny_Try_except (Ô8 ?_)
 ¤wpAny_Expr_any ?_ I.quiet rfl
 ¤Ë8 ?_
 have ld:∀ {Q:Ä->Æ->Prop}{E:Ä->Æ->Prop},Q (.ref f) s->Ï (Ô X.prog X.w) X.A (eval (.Name y p1) X.env) Q E s:=λ{Q E} hq=>by
  ¶⟨m,hnm,hl⟩:=I.loc
  ¶⟨u,r,l⟩:=hl i y _ hy eσ vy
  cases (show u=Ã3 f from r)
  rcases l with ⟨hk,hv⟩ | ⟨hk,c,hc,hcell⟩
  ·§Ñ3 (Î5 I.ok.kind hk hnm hv hq) dy
  ·rcases hk with hk | hk
   ·§Ñ3 (Ú5 I.ok.kind hk hc hcell hq) dy
   ·§Ñ3 (wpAny_loadName_free I.ok.kind hk hc hcell hq cy) dy
 ¤ld ?_
 ¤PySem.W.callWith_of (P:=λh=>h.get? f=some ⟨c0,d0,.func fd,sl⟩) rfl (λh e=>⟨.frame,.inl rfl,?_⟩) (evalArgs_nil3 ⟨hof,?_⟩)
 ·§(Í9 (part:=none) e).andThen .now
 ¤Õ9 (È1 (th.run X.A X.stack s H hr I.E92 U0 sH) λr s1 hq=>?_)
 cases r with
 |ok fl =>
  cases fl with
  |ret u=>¶⟨_,_,_,_,_,_,_,z⟩:=hq;§z.elim
  |next=>§À3 hq
  |brk=>§À3 hq
  |cont=>§À3 hq
 |error e =>
  ¶⟨a,cls,a0,H1,B,rfl,os1,bare1,un,hok,fl,na,bB,rfl,s1H⟩:=hq
  have nA:s.heap.get? a=none:=by
   cases ea:s.heap.get? a with
   |none=>rfl
   |some o =>
    exfalso
    ¶⟨oe,vs,hoe,_,hde,_⟩:=fl.first
    by_cases hb:a∈frs X.stack
    ·¶⟨sl',e1⟩:=un.slot a o ea (I.v90 a hb) hb (by simp)
     ¶⟨_,o',ho',hd'⟩:=I.stack.mem hb
     rw[ea] at ho';cases ho'
     rw[hoe] at e1;cases e1
     §hd' vs hde
    ·have:=bB a oe hoe hb (.inl ⟨o,ea⟩)
     rw[fl.2.1] at this;cases this
  have n0:X.s₀.heap.get? a=none:=by
   cases ea:X.s₀.heap.get? a with
   |none=>rfl
   |some o =>
    ¶⟨o',e1⟩:=U0.there a o ea (by simp)
    rw[nA] at e1;cases e1
  have aL:a≠X.env.locals:=λz=>by
   ¶⟨m,⟨o,_,_,ho,_⟩,_⟩:=I.loc
   rw[z,ho] at nA;cases nA
  have aC:∀ x c,X.env.cells.lookup x=some c->c≠a:=λx c e z=>by
   ¶⟨v,o,ho,_⟩:=I.cell x c e
   rw[z,nA] at ho;cases ho
  have aP:∀ p∈X.pn++pins,p.1≠a:=λp hp z=>by
   have:=(I.pin p hp).1
   rw[z,nA] at this;cases this
  ¤wpAny_looks_onW (I.ok.frames.trans (by rw[hS])) hf (by rw[← hS];§fl) λh2 held2 sm2=>?_
  ¤wpAny_landsW held2 λh3 fl3 sm3=>?_
  have I3:Inv X pins σ H1 { s1 with heap:=h3 }:=U31 I os1 bare1 un hok bB fl3.1 (sm2.trans sm3)
  have at3:excAt a C h3:=by ¶⟨oe,e1,e2⟩:=fl3.there;§⟨oe,e1,e2⟩
  ¤wpAny_handleBy_cons (codeAny_handlers_test ?_) (λz=>nomatch z)
  ¤Ï1 I3.ok.kind hg (à6 (by rw[I3.ok.glob];§I3.mod.glob.keeps I3.bk) hm ?_) dx
  ¤(PySem.W.exm_one (h:=h3) I3.kIn at3.ty he).here ?_
  ¤codeAny_handlers_suite_as (lands_againW fl3 λh4 fl4 sm4=>?_)
  have I4:Inv X pins σ H1 { s1 with heap:=h4 }:=U31 I os1 bare1 un hok bB fl4.1 ((sm2.trans sm3).trans sm4)
  have at4:excAt a C h4:=by ¶⟨oe,e1,e2⟩:=fl4.there;§⟨oe,e1,e2⟩
  ¶⟨m4,hn4,hl4⟩:=id I4.loc
  ¤wpAny_storeName_local hn hn4 (λh5 hn5 hs5=>?_) hkind
  have offN:∀ (i:Nat) (x:Str),X.N[i]?=some x->x≠n:=λi x e z=>nN (by rw[← z];§é e)
  have I5:Inv X pins σ H1 { s1 with heap:=h5,toks:=s1.toks + 1 }:=Inv.v01 (s:={ s1 with heap:=h4 }) I4 hl4 hn5 hs5 λi x e=>if_neg (offN i x e)
  ¤Ô8 (wpAny_Assign_Name ?_ rfl)
  ¤Ñ3 (Î5 I.ok.kind hn hn5 (if_pos rfl) ?_) dn
  ¤B20 (v:=.ref a) I5 hN hz lz rfl (λs6 I6 hsame=>?_) (.inl hfn)
  ¤Ï3 ?_
  show Ï _ _ (do bindName X.env n .none;unbindBehindTheSuite X.env n p8) _ _ _
  ¶⟨m6,hn6,hl6⟩:=id I6.loc
  ¤wpAny_nameGoes_keeps hn hn6 hkind λh7 v7 hn7 hs7=>?_
  have I7:=Inv.v01 (t':=s6.toks + 1) I6 hl6 hn7 hs7 λi x e=>if_neg (offN i x e)
  have at7:excAt a C h7:=by
   ¶⟨oe,e1,e2⟩:=at4
   ¶⟨b6,hb6,hor⟩:=hsame
   have e5:h5.get? a=some oe:=(hs5.2 a aL).trans e1
   have e6:s6.heap.get? a=some oe:=(hb6.2 a (λz=>by
    rcases hor with y | y
    ·§aL (z.trans y)
    ·§aC _ _ y z.symm)).trans e5
   §⟨oe,(hs7.2 a aL).trans e6,e2⟩
  have nT:H1 a=none:=na
  have I8:=Inv.q82 (T:=a) (o:=.ext (excAt a C)) I7 nT n0 aL aC aP ⟨at7,by ¶⟨oe,e1,_⟩:=at7;§⟨oe,e1⟩,λh1 h2 p kk=>n01 p kk⟩
  §⟨_,_,I8,q a H1 s1H na⟩
end
section
variable {P:ß}{w:è}{K:Â}{mg:Str->Option Ä}{base:ì}{N:List Str}{qual:Str}{scope:ý}{f c':Ç}{cl:List (Str × Ç)}{s₀:Æ}{H₀:Hp}{k:Nat}{pm ctv cls:Ä}{params:Î1}{body:Ò}{vs:List V}
÷n51{RR:Hp->Prop}(hf:FnL P w H₀ s₀ f (kla_fn "<lambda>" qual params body scope cl pm (.ref c') ctv))(hc:H₀ c'=some (.ext (recAt c' qual)))
  (hk:scope.kind=.function) (hco:scope.isCoroutine=false) (hgen:scope.isGenerator=false) (hcell:∀ x∈scope.names,x.2≠.cell)
  (hb:bindArgs (kla_fn "<lambda>" qual params body scope cl pm (.ref c') ctv) ⟨[],[]⟩=pure []) (FR:n31 scope cl N vs H₀ s₀.heap)
  (hbody:∀ (A:ø) (outer:List Env) (s:Æ) (H:Hp),A00 k (A.deeper (envX qual scope s.heap.objs.size f (.ref c') cl))->a30 H₀ H ->
   ∃ t,PE (S10 P w K mg base N qual scope f (.ref c') cl A outer s H λc _ H'=>c=cls/\RR H') body t/\t (vs.map some) H λ_ _=>False) :
  S20 P w K mg base (k + 1) f H₀ s₀ cls RR:=by
 ¤⟨⟨_,hf⟩,λA outer s H hr e0 un sm=>?_⟩
 ¶⟨c0,d0,sl,hof⟩:=hf outer s H un sm e0.hok
 have hrec:s.heap.CodeRec (.ref c') qual:=(e0.hok c' _ (sm _ _ hc)).1
 have lim:s.heap.NoLimit:=e0.mod.nolimit.keeps λb o e=>(e0.bs b o e).1
 ¤PySem.W.kla_callFunE hr.depth hof rfl hco hgen rfl hrec ?_
 rw[hb]
 ¤Å (wpAny_newFunctionEnv hcell (λy hy=>absurd hy (by simp)) (λh₁ hns hsb=>⟨lim.fresh _ hsb,?_⟩) hk)
 show Î3 _ _ (.expr body (envX qual scope s.heap.objs.size f (.ref c') cl)) _ _
 have hkeep1:∀ b o,s.heap.get? b=some o->h₁.get? b=some o:=λb o e=>hsb.extBut b o (Ø (à e)) (Ã _ e)
 ¶⟨t,ht,hq⟩:=hbody A outer s H (hr.deeper _) sm
 have I:Inv (S10 P w K mg base N qual scope f (.ref c') cl A outer s H λc _ H'=>c=cls/\RR H') [] (vs.map some) H { s with heap:=h₁,toks:=s.toks + 0 }:=c32 e0 hr.hd hk (FR.later un) hns hkeep1
 ¤PySem.W.kla_codeExpr (Â1 (ht [] _ _ H _ I hq) (λv s' hv=>?_) λe s' he=>he)
 ¶⟨_,_,_,_,z⟩:=hv
 §z.elim
end
def G82(X:Cx)(P:Ç)(qual:Str)(N:List Str)(lsc:ý)(body:Ò)(k:Nat)(cls:Ä)(RR:Hp->Hp->Prop)(sp:Æ->Sp):TE:=λσ H Q=>Tab H P qual/\∃ vs:List V,vs.length=N.length /\
 (∀ (i:Nat) (x:Str) (v:V),N[i]?=some x->vs[i]?=some v->∃ j:Nat,X.N[j]?=some x/\σ[j]?=some (some v)) /\
 ∀ H2,L20 P H H2->Tab H2 P qual ->
  (∀ (f c':Ç) (cl:List (Str × Ç)) (A:ø) (outer:List Env) (s:Æ) (H3:Hp),A00 k (A.deeper (envX qual lsc s.heap.objs.size f (.ref c') cl))->a30 H2 H3 ->
   ∃ t,PE (S10 X.prog X.w X.K X.mg X.base N qual lsc f (.ref c') cl A outer s H3 λc _ H'=>c=cls/\RR H2 H') body t/\t (vs.map some) H3 λ_ _=>False) /\
  ∀ (s2:Æ) (f:Ç),S20 X.prog X.w X.K X.mg X.base (k + 1) f H2 s2 cls (RR H2)->sp s2 [.ref f] H2 Q λ_ _ _=>False
section
variable {X:Cx}{c P f:Ç}{fd:Å2}{qual g par:Str}{N:List Str}{params:Î1}{body:Ò}{lsc:ý}{lpos p pos:Pos}{k kr:Nat}{cls:Ä}{sp:Æ->Sp}
÷Z70{RR:Hp->Hp->Prop}(F:n21 X.prog X.w X.K X.mg X.base CX0 kr f fd [par] sp)(hr:A00 kr X.A)(hg:Gl X g)(hm:X.mg g=some (.ref f))(hk:Ó7 X.K (.ref f)=true)(hb:Binds X.K fd [par] [])
  (hcode:X.env.code=.ref c) (hhd:Ä8 X.K c P=true) (hqu:X.env.qual++"<lambda>"=qual)
  (hbm:∃ bm ob,X.mg "__builtins__"=some (.ref bm)/\bm≠Í7/\X.base.get? bm=some ob/\ob.cls=.type "module"/\ob.dict=some Í7/\ob.data=.plain)
  (hfr:∀ y∈lsc.names,y.2=.free->X.env.kindOf y.1=some .cell) (hnc:∀ y∈lsc.names,y.2≠.cell) (hNf:∀ x∈N,lsc.names.lookup x=some .free)
  (lk:lsc.kind=.function) (lco:lsc.isCoroutine=false) (lge:lsc.isGenerator=false) (hdef:defaultsOf params X.env=([],[]))
  (hbd:∀ (cl:List (Str × Ç)) (pm ctv:Ä) (c':Ç),bindArgs (kla_fn "<lambda>" qual params body lsc cl pm (.ref c') ctv) ⟨[],[]⟩=pure [])
  (hdb:(g == ("__debug__":Str))=false:=by decide) (he:þ [.Lambda params body lsc lpos] X.env=[(false,eval (.Lambda params body lsc lpos) X.env)]:=by rfl) :
  PE X (.Call (.Name g p) [.Lambda params body lsc lpos] [] pos) (G82 X P qual N lsc body k cls RR sp):=by
 intro pins s σ H Q I h
 ¶⟨TB,vs,hlen,hvs,q⟩:=h
 ¤Ë8 (J00 I hg hm ?_ hdb)
 ¤callWith_K (h₀:=X.base) I.ok.mod.kin hk ?_ he rfl
 rw[he]
 ¤Ö9 (M51 I hdef hcode hhd TB hqu hbm (λy hy hf=>I.ok.has y.1 (.inl (hfr y hy hf))) λcl f' c' pm ctv h2 tk H2 cl1 cl2 I2 TB2 KB ho nf hc _=>?_)
 have FR:n31 lsc cl N vs H2 h2:=by
  ¤⟨λx y c e1 e2=>I2.ok.inj x y c (cl1 x c e1) (cl1 y c e2),λx hx=>?_,λx c e=>I2.cell x c (cl1 x c e),λx c e=>I2.freeC x c (cl1 x c e),λi x v h1 h2=>?_,hlen⟩
  ·rcases hx with hx | hx
   ·§absurd rfl (hnc _ (Â4 hx))
   ·§cl2 _ (Â4 hx) rfl
  ·have hf:=hNf x (é h1)
   have mem:=Â4 hf
   have kc:X.env.kindOf x=some .cell:=hfr _ mem rfl
   ¶⟨j,e1,e2⟩:=hvs i x v h1 h2
   ¶⟨m,_,hl⟩:=I2.loc
   ¶⟨u,r,l⟩:=hl j x v e1 e2 (Ù9 (Ò5 kc))
   ¶⟨c2,ec2⟩:=cl2 _ mem rfl
   ¤⟨hf,c2,u,ec2,r,?_⟩
   rcases l with ⟨kl,_⟩ | ⟨_,c3,ec3,z⟩
   ·rw[kc] at kl;cases kl
   ·have:=cl1 _ _ ec2
    rw[ec3] at this;cases this
    §z
 ¶⟨q1,q2⟩:=q H2 KB TB2
 have th:S20 X.prog X.w X.K X.mg X.base (k + 1) f' H2 { s with heap:=h2,toks:=tk } cls (RR H2):=n51 (s₀:={ s with heap:=h2,toks:=tk }) (.new ho nf) hc lk lco lge hnc (hbd cl pm ctv c') FR λA outer s H3 hr sm=>q1 f' c' cl A outer s H3 hr sm
 ¤Ð4 ⟨I2.kIn,?_⟩
 have hsp:=q2 { s with heap:=h2,toks:=tk } f' th
 ¤Õ9 (È1 (F.run X.A X.stack { s with heap:=h2,toks:=tk } H2 ⟨[.ref f'],[]⟩ [.ref f'] [.ref f'] Q _ hr I2.E92 (hb _ [.ref f'] I2.kIn rfl) (.cons rfl .nil) hsp) λr s' hq=>?_)
 cases r with
 |error e=>§À3 hq
 |ok fl =>
  cases fl with
  |ret u=>§I2.after hq
  |next=>§À3 hq
  |brk=>§À3 hq
  |cont=>§À3 hq
end
abbrev C02:List Str:=["_law_call","_law_error","_law_marks"]
abbrev r12:Scope:={ kind:=.function,names:=[(".0",.local),("_law_k",.local),("_law_marks",.free)],isGenerator:=false,isCoroutine:=false,more:=[] }
abbrev u10:Scope:={ kind:=.function,names:=[("_law_call",.local),("_law_error",.local),("e",.local),("_law_marks",.cell),("ChanceError",.globalImplicit),("isinstance",.globalImplicit),("NoWeb",.globalImplicit),("NoLot",.globalImplicit),("NoPlaces",.globalImplicit),("NoPlace",.globalImplicit),("NoTie",.globalImplicit),("NoChance",.globalImplicit),("NoChances",.globalImplicit),("NoPaper",.globalImplicit),("TooMany",.globalImplicit),("NoText",.globalImplicit),("NoLine",.globalImplicit),("NoDeed",.globalImplicit),("ValueError",.globalImplicit),("range",.globalImplicit)],isGenerator:=false,isCoroutine:=false,more:=[("fast",.str "_law_call"),("fast",.str "_law_error"),("fast",.str "e"),("fast",.str "_law_marks"),("fast",.str "_law_k")] }
def Z80(n:Nat):List Stmt:=[.Assign [(.Name "_law_error" ⟨n,4,n,14⟩)] (.Constant .none 0 ⟨n,17,n,21⟩) ⟨n,4,n,21⟩,
   .Try [.Expr (.Call (.Name "_law_call" ⟨n + 2,8,n + 2,17⟩) [] [] ⟨n + 2,8,n + 2,19⟩) ⟨n + 2,8,n + 2,19⟩] [.ExceptHandler (some (.Name "ChanceError" ⟨n + 3,11,n + 3,22⟩)) (some "e") [.Assign [(.Name "_law_error" ⟨n + 4,8,n + 4,18⟩)] (.Name "e" ⟨n + 4,21,n + 4,22⟩) ⟨n + 4,8,n + 4,22⟩] ⟨n + 3,4,n + 4,22⟩] [] [] ⟨n + 1,4,n + 4,22⟩,
   .Assign [(.Name "_law_marks" ⟨n + 5,4,n + 5,14⟩)] (.List [(.Call (.Name "isinstance" ⟨n + 5,18,n + 5,28⟩) [(.Name "_law_error" ⟨n + 5,29,n + 5,39⟩),(.Name "NoWeb" ⟨n + 5,41,n + 5,46⟩)] [] ⟨n + 5,18,n + 5,47⟩),(.Call (.Name "isinstance" ⟨n + 5,49,n + 5,59⟩) [(.Name "_law_error" ⟨n + 5,60,n + 5,70⟩),(.Name "NoLot" ⟨n + 5,72,n + 5,77⟩)] [] ⟨n + 5,49,n + 5,78⟩),(.Call (.Name "isinstance" ⟨n + 5,80,n + 5,90⟩) [(.Name "_law_error" ⟨n + 5,91,n + 5,101⟩),(.Name "NoPlaces" ⟨n + 5,103,n + 5,111⟩)] [] ⟨n + 5,80,n + 5,112⟩)] ⟨n + 5,17,n + 5,113⟩) ⟨n + 5,4,n + 5,113⟩,
   .Assign [(.Name "_law_marks" ⟨n + 6,4,n + 6,14⟩)] (.BinOp (.Name "_law_marks" ⟨n + 6,17,n + 6,27⟩) .Add (.List [(.Call (.Name "isinstance" ⟨n + 6,31,n + 6,41⟩) [(.Name "_law_error" ⟨n + 6,42,n + 6,52⟩),(.Name "NoPlace" ⟨n + 6,54,n + 6,61⟩)] [] ⟨n + 6,31,n + 6,62⟩),(.Call (.Name "isinstance" ⟨n + 6,64,n + 6,74⟩) [(.Name "_law_error" ⟨n + 6,75,n + 6,85⟩),(.Name "NoTie" ⟨n + 6,87,n + 6,92⟩)] [] ⟨n + 6,64,n + 6,93⟩),(.Call (.Name "isinstance" ⟨n + 6,95,n + 6,105⟩) [(.Name "_law_error" ⟨n + 6,106,n + 6,116⟩),(.Name "NoChance" ⟨n + 6,118,n + 6,126⟩)] [] ⟨n + 6,95,n + 6,127⟩)] ⟨n + 6,30,n + 6,128⟩) ⟨n + 6,17,n + 6,128⟩) ⟨n + 6,4,n + 6,128⟩,
   .Assign [(.Name "_law_marks" ⟨n + 7,4,n + 7,14⟩)] (.BinOp (.Name "_law_marks" ⟨n + 7,17,n + 7,27⟩) .Add (.List [(.Call (.Name "isinstance" ⟨n + 7,31,n + 7,41⟩) [(.Name "_law_error" ⟨n + 7,42,n + 7,52⟩),(.Name "NoChances" ⟨n + 7,54,n + 7,63⟩)] [] ⟨n + 7,31,n + 7,64⟩),(.Call (.Name "isinstance" ⟨n + 7,66,n + 7,76⟩) [(.Name "_law_error" ⟨n + 7,77,n + 7,87⟩),(.Name "NoPaper" ⟨n + 7,89,n + 7,96⟩)] [] ⟨n + 7,66,n + 7,97⟩),(.Call (.Name "isinstance" ⟨n + 7,99,n + 7,109⟩) [(.Name "_law_error" ⟨n + 7,110,n + 7,120⟩),(.Name "TooMany" ⟨n + 7,122,n + 7,129⟩)] [] ⟨n + 7,99,n + 7,130⟩)] ⟨n + 7,30,n + 7,131⟩) ⟨n + 7,17,n + 7,131⟩) ⟨n + 7,4,n + 7,131⟩,
   .Assign [(.Name "_law_marks" ⟨n + 8,4,n + 8,14⟩)] (.BinOp (.Name "_law_marks" ⟨n + 8,17,n + 8,27⟩) .Add (.List [(.Call (.Name "isinstance" ⟨n + 8,31,n + 8,41⟩) [(.Name "_law_error" ⟨n + 8,42,n + 8,52⟩),(.Name "NoText" ⟨n + 8,54,n + 8,60⟩)] [] ⟨n + 8,31,n + 8,61⟩),(.Call (.Name "isinstance" ⟨n + 8,63,n + 8,73⟩) [(.Name "_law_error" ⟨n + 8,74,n + 8,84⟩),(.Name "NoLine" ⟨n + 8,86,n + 8,92⟩)] [] ⟨n + 8,63,n + 8,93⟩),(.Call (.Name "isinstance" ⟨n + 8,95,n + 8,105⟩) [(.Name "_law_error" ⟨n + 8,106,n + 8,116⟩),(.Name "NoDeed" ⟨n + 8,118,n + 8,124⟩)] [] ⟨n + 8,95,n + 8,125⟩)] ⟨n + 8,30,n + 8,126⟩) ⟨n + 8,17,n + 8,126⟩) ⟨n + 8,4,n + 8,126⟩,
   .If (.UnaryOp .Not (.Call (.Name "isinstance" ⟨n + 9,11,n + 9,21⟩) [(.Name "_law_error" ⟨n + 9,22,n + 9,32⟩),(.Name "ValueError" ⟨n + 9,34,n + 9,44⟩)] [] ⟨n + 9,11,n + 9,45⟩) ⟨n + 9,7,n + 9,45⟩) [.Return (some (.Constant .none 0 ⟨n + 10,15,n + 10,19⟩)) ⟨n + 10,8,n + 10,19⟩] [] ⟨n + 9,4,n + 10,19⟩,
   .Return (some (.ListComp (.Name "_law_k" ⟨n + 11,12,n + 11,18⟩) [{ target:=(.Name "_law_k" ⟨n + 11,23,n + 11,29⟩),iter:=(.Call (.Name "range" ⟨n + 11,33,n + 11,38⟩) [(.Constant (.int 12) 0 ⟨n + 11,39,n + 11,41⟩)] [] ⟨n + 11,33,n + 11,42⟩),ifs:=[(.Subscript (.Name "_law_marks" ⟨n + 11,46,n + 11,56⟩) (.Name "_law_k" ⟨n + 11,57,n + 11,63⟩) ⟨n + 11,46,n + 11,64⟩)],is_async:=0 }] r12 ⟨n + 11,11,n + 11,65⟩)) ⟨n + 11,4,n + 11,65⟩]
÷r22:u11 r12 u10 C02 ["_law_k"] [("_law_marks",2)]=true:=by decide +kernel
÷M61(K:Â)(hK:X.K=K:=by rfl):IxR X (F32 K):=by subst hK;§Y70
abbrev names12:List Str:=["NoWeb","NoLot","NoPlaces","NoPlace","NoTie","NoChance","NoChances","NoPaper","TooMany","NoText","NoLine","NoDeed"]
structure S30(K:PySem.W.Frag)(mg:Str->Option Value)(C:Addr)(j:Nat):Prop where
 cl:∀ (i:Nat) (x:Str),names12[i]?=some x->∃ Ci,mg x=some (.ref Ci)/\PySem.W.kitOne K (.ref C) (.ref Ci)=some (decide (i=j))
 lk:i50 K C
 hd:PySem.W.hasDictIn K C=true
 ve:PySem.W.kitOne K (.ref C) (.type "ValueError")=some true
 nv:mg "ValueError"=none
 ce:∃ D,mg "ChanceError"=some (.ref D)/\PySem.W.exmOne K (.ref C) (.ref D)=some true
 lt:j < 12
÷S40:ë "ValueError"=some (.type "ValueError"):=by decide +kernel
÷L30:ë "isinstance"=some (.builtin "isinstance"):=by decide +kernel
def c42(P:ß)(w:è)(K:Â)(mg:Str->Option Ä)(base:ì)(k:Nat):Æ->Sp:=λs vs H Q _=>∃ (f C:Ç) (j:Nat) (RR:Hp->Prop),vs=[.ref f]/\S20 P w K mg base k f H s (.ref C) RR/\S30 K mg C j/\∀ l H1 H',RR H1->a30 H1 H'->H' l=none->Q (.ref l) (upd H' l (.lst [.int j]))
abbrev C30(j:Nat):List V:=[V.bl (decide (0=j)),.bl (decide (1=j)),.bl (decide (2=j))]++[.bl (decide (3=j)),.bl (decide (4=j)),.bl (decide (5=j))]++[.bl (decide (6=j)),.bl (decide (7=j)),.bl (decide (8=j))]++[.bl (decide (9=j)),.bl (decide (10=j)),.bl (decide (11=j))]
÷M71{i j:Nat}(h:i < 12):atI (C30 j) (0 + (i:Int))=some (.bl (decide (i=j))):=by
 rw[Ô1]
 ¤B50 ?_
 rw[show C30 j=(í 12).map λi=>V.bl (decide (i=j)) from rfl,Ý,É7 h];rfl
section
variable {P:ß}{w:è}{K:Â}{mg:Str->Option Ä}{base:ì}
÷scR:k30 C02 ["_law_call"] u10:=⟨rfl,rfl,rfl,by decide +kernel,rfl,by decide +kernel,by decide +kernel⟩
÷ndR:(d80 ["_law_k"] [("_law_marks",2)]).Nodup:=by decide +kernel
def tIs(K:Â)(c:V)(cv:Ä):TE:=λσ H Q=>∃ (a C:Ç) (b:Bool),σ[1]?=some (some (.ref a))/\q72 H a C/\i50 K C/\PySem.W.hasDictIn K C=true/\Í8 K (.ref C) cv=some b/\Q (.bl b) H
def V12(K:Â)(c0 c1 c2:Ç):TE:=λσ H Q=>∃ (a C:Ç) (b0 b1 b2:Bool),σ[1]?=some (some (.ref a))/\q72 H a C/\i50 K C/\PySem.W.hasDictIn K C=true/\Í8 K (.ref C) (.ref c0)=some b0/\Í8 K (.ref C) (.ref c1)=some b1/\Í8 K (.ref C) (.ref c2)=some b2/\∀ l,H l=none->Q (.ref l) (upd H l (.lst [.bl b0,.bl b1,.bl b2]))
section
variable {X:Cx}{c0 c1 c2:Ç}{x x0 x1 x2:Str}{p p0 p1 p2 p3 q0 q1 q2 q3 r0 r1 r2 r3:Pos}
÷M81(hN:X.N[1]?=some ("_law_error":Str))(hv:Vis X.env.scope "_law_error")(hi:Gl X "isinstance")(Ti:X.mg "isinstance"=none)(hc:PE X (.Name x p2) (tC c))(hcv:(∃ C,c=.ref C/\cv=.ref C)∨∃ T,c=.ty T/\cv=.type T):PE X (.Call (.Name "isinstance" p0) [.Name "_law_error" p1,.Name x p2] [] p3) (tIs X.K c cv) :=
 λpins s σ H Q I q=>by
  ¶⟨a,C,b,e,h1,h2,h3,h4,h5⟩:=q
  have g:=t60 (p:=p0) (pos:=p3) n11 hi Ti L30 (e60 (n70 (i:=1) (pos:=p1) hN hv) (e60 hc r00))
  §g pins s σ H Q I ⟨_,e,a,C,_,_,b,rfl,hcv,h1,h2,h3,h4,h5⟩
÷f51(hN:X.N[1]?=some ("_law_error":Str))(hv:Vis X.env.scope "_law_error")(hi:Gl X "isinstance")(Ti:X.mg "isinstance"=none)(g0:PE X (.Name x0 p2) (tC (.ref c0)))(g1:PE X (.Name x1 q2) (tC (.ref c1)))(g2:PE X (.Name x2 r2) (tC (.ref c2))) :
  PE X (.List [.Call (.Name "isinstance" p0) [.Name "_law_error" p1,.Name x0 p2] [] p3,.Call (.Name "isinstance" q0) [.Name "_law_error" q1,.Name x1 q2] [] q3,.Call (.Name "isinstance" r0) [.Name "_law_error" r1,.Name x2 r2] [] r3] p) (V12 X.K c0 c1 c2) :=
 λpins s σ H Q I q=>by
  ¶⟨a,C,b0,b1,b2,e,h1,h2,h3,k0,k1,k2,h5⟩:=q
  §T61 (e60 (M81 hN hv hi Ti g0 (.inl ⟨c0,rfl,rfl⟩)) (e60 (M81 hN hv hi Ti g1 (.inl ⟨c1,rfl,rfl⟩)) (e60 (M81 hN hv hi Ti g2 (.inl ⟨c2,rfl,rfl⟩)) r00))) pins s σ H Q I
   ⟨a,C,b0,e,h1,h2,h3,k0,a,C,b1,e,h1,h2,h3,k1,a,C,b2,e,h1,h2,h3,k2,C10 (by show 3<=64;decide),h5⟩
end
÷r32{st:Å1}{f:Ç}{fd:Å2}{k n:Nat}(F:Fun K "_law_refused" "_law_refused" st f fd)(es:c00 st=u10)(eb:i40 st=Z80 n)(Ti:mg "isinstance"=none)(Tr:mg "range"=none):n21 P w K mg base CX0 (k + 1) f fd ["_law_call"] (c42 P w K mg base k):=by
 ¤F.okS (by rw[es];§scR) (λs vs H Q E h=>?_) (λcdv A outer s H vs Q E hr h=>?_)
 ·¶⟨f,C,j,RR,rfl,_⟩:=h;rfl
 ·¶⟨g,C,j,RR,rfl,th,R,q⟩:=h
  have hsc:=r22
  rw[es] at hr
  rw[es,eb]
  unfold Z80
  clear eb
  ¶⟨c0,m0,k0⟩:=R.cl 0 _ rfl
  ¶⟨c1,m1,k1⟩:=R.cl 1 _ rfl
  ¶⟨c2,m2,k2⟩:=R.cl 2 _ rfl
  ¶⟨c3,m3,k3⟩:=R.cl 3 _ rfl
  ¶⟨c4,m4,k4⟩:=R.cl 4 _ rfl
  ¶⟨c5,m5,k5⟩:=R.cl 5 _ rfl
  ¶⟨c6,m6,k6⟩:=R.cl 6 _ rfl
  ¶⟨c7,m7,k7⟩:=R.cl 7 _ rfl
  ¶⟨c8,m8,k8⟩:=R.cl 8 _ rfl
  ¶⟨c9,m9,k9⟩:=R.cl 9 _ rfl
  ¶⟨c10,m10,k10⟩:=R.cl 10 _ rfl
  ¶⟨c11,m11,k11⟩:=R.cl 11 _ rfl
  ¶⟨D,mD,kD⟩:=R.ce
  ¤⟨_,j60 (x70 (i:=1) scR.nd rfl (Ò5 rfl) q71)
   (j60 (v21 (i:=0) (j:=1) (f:=g) (C:=C) (D:=D) (k:=k) rfl rfl rfl hr th rfl (Ò5 rfl) (by decide) (by decide) rfl mD (by decide) kD rfl (by show ¬ (("e":Str)∈C02);decide +kernel) (by decide) scR.nd rfl (Ò5 rfl) rfl)
   (j60 (x70 (i:=2) scR.nd rfl (Ù9 rfl) (f51 rfl (Ò5 rfl) rfl Ti (g20 rfl m0 rfl) (g20 rfl m1 rfl) (g20 rfl m2 rfl)))
   (j60 (x70 (i:=2) scR.nd rfl (Ù9 rfl) (I51 s21 (pv 2) (f51 rfl (Ò5 rfl) rfl Ti (g20 rfl m3 rfl) (g20 rfl m4 rfl) (g20 rfl m5 rfl))))
   (j60 (x70 (i:=2) scR.nd rfl (Ù9 rfl) (I51 s21 (pv 2) (f51 rfl (Ò5 rfl) rfl Ti (g20 rfl m6 rfl) (g20 rfl m7 rfl) (g20 rfl m8 rfl))))
   (j60 (x70 (i:=2) scR.nd rfl (Ù9 rfl) (I51 s21 (pv 2) (f51 rfl (Ò5 rfl) rfl Ti (g20 rfl m9 rfl) (g20 rfl m10 rfl) (g20 rfl m11 rfl))))
   (j60 (n12 (T01 (q81 (M81 (cv:=.type "ValueError") rfl (Ò5 rfl) rfl Ti (J10 (v:=.ty "ValueError") rfl R.nv S40 rfl) (.inr ⟨_,rfl,rfl⟩)))) (r01 (e31 q71)) q91)
   (r01 (e31 (s81 (own:=["_law_k"]) (capt:=[("_law_marks",2)]) rfl (by §r10.of (scX:=u10) (N:=C02) rfl rfl hsc) (Q00 rfl Tr (e60 P80 r00))
    (λcl C s H fp=>r11 (i:=0) ndR rfl (Ò5 rfl)) (λcl C s H fp=>s61 (q81 (Z61 (M61 K) (pv 1) (pv 0) (λ_ _=>rfl)))) (λcl C s H fp=>pv 0)))))))))),?_⟩
  ¤⟨rfl,a30.refl H,λa H1 s1 na=>?_⟩
  have hX:q72 (upd H1 a (.ext (excAt a C))) a C:=b20
  have keep:∀ {H'},a30 (upd H1 a (.ext (excAt a C))) H'->q72 H' a C:=λsm=>sm _ _ hX
  ¤⟨a,C,_,_,_,rfl,hX,R.lk,R.hd,k0,k1,k2,λl1 hl1=>?_⟩
  have t1:=a30.new (.lst [.bl (decide (0=j)),.bl (decide (1=j)),.bl (decide (2=j))]) hl1
  ¤⟨_,rfl,a,C,_,_,_,rfl,keep t1,R.lk,R.hd,k3,k4,k5,λl2 hl2=>?_⟩
  have t2:=a30.new (.lst [.bl (decide (3=j)),.bl (decide (4=j)),.bl (decide (5=j))]) hl2
  ¤⟨l1,l2,_,_,rfl,rfl,t2 _ _ b20,b20,C10 (by show 3 + 3<=64;decide),λl3 hl3=>?_⟩
  have t3:=t1.trans (t2.trans (a30.new (.lst ([.bl (decide (0=j)),.bl (decide (1=j)),.bl (decide (2=j))]++[.bl (decide (3=j)),.bl (decide (4=j)),.bl (decide (5=j))])) hl3))
  ¤⟨_,rfl,a,C,_,_,_,rfl,keep t3,R.lk,R.hd,k6,k7,k8,λl4 hl4=>?_⟩
  have t4:=a30.new (.lst [.bl (decide (6=j)),.bl (decide (7=j)),.bl (decide (8=j))]) hl4
  ¤⟨l3,l4,_,_,rfl,rfl,t4 _ _ b20,b20,C10 (by show 6 + 3<=64;decide),λl5 hl5=>?_⟩
  have t5:=t3.trans (t4.trans (a30.new (.lst ([.bl (decide (0=j)),.bl (decide (1=j)),.bl (decide (2=j))]++[.bl (decide (3=j)),.bl (decide (4=j)),.bl (decide (5=j))]++[.bl (decide (6=j)),.bl (decide (7=j)),.bl (decide (8=j))])) hl5))
  ¤⟨_,rfl,a,C,_,_,_,rfl,keep t5,R.lk,R.hd,k9,k10,k11,λl6 hl6=>?_⟩
  have t6:=a30.new (.lst [.bl (decide (9=j)),.bl (decide (10=j)),.bl (decide (11=j))]) hl6
  ¤⟨l5,l6,_,_,rfl,rfl,t6 _ _ b20,b20,C10 (by show 9 + 3<=64;decide),λl7 hl7=>?_⟩
  have t7:=t5.trans (t6.trans (a30.new (.lst (C30 j)) hl7))
  ¤⟨a,C,_,rfl,keep t7,R.lk,R.hd,R.ve,_,rfl,S72 ?_⟩
  ¤⟨12,rfl,by decide,by decide,L61 (lo:=0) (n:=12) (λi ys H'=>a30 (upd H1 a (.ext (excAt a C))) H'/\H' l7=some (.lst (C30 j))/\ys=if j < i then [.int j] else []) (C10 (by decide)) ⟨t7,b20,by rw[if_neg (by omega)]⟩ (λi ys H' p=>by rw[p.2.2];split <;> simp <;> omega) ?_ ?_⟩
  ·rintro i ys H' hi ⟨s8,h8,rfl⟩
   ¤gN ?_
   ¤⟨_,rfl,_,rfl,l7,C30 j,0 + (i:Int),.bl (decide (i=j)),rfl,rfl,SqL.of h8,M71 hi,_,rfl,?_⟩
   ¤S82 (λe=>?_) (λe=>?_)
   ·have ej:i=j:=of_decide_eq_true e
    subst ej
    ¤⟨_,rfl,s8,h8,?_⟩
    rw[if_neg (by omega),if_pos (by omega),Ô1];rfl
   ·have ej:¬ i=j:=λz=>e (decide_eq_true z)
    ¤⟨s8,h8,?_⟩
    by_cases hj:j < i
    ·rw[if_pos hj,if_pos (by omega)]
    ·rw[if_neg hj,if_neg (by omega)]
  ·rintro ys H' p ⟨s8,_,rfl⟩ hp
   rw[if_pos R.lt]
   §q p H1 H' s1 ((a30.new _ na).trans s8) hp
end
end L2
namespace SS
open PySem
def bts(m:Nat):List Nat:=(í 8).filter λi=>m.testBit i
def add(m v:Nat):Nat:=m ||| 2 ^ v
def tbl(led:Bool)(m:Nat):SetTable:=if (bts m).length < 5 then⟨7,(bts m).toArray,#[],0,led,0,true⟩ else⟨31,(bts m).toArray,#[],0,led,1,true⟩
def q11(led:Bool)(m v:Nat):SetTable:={ tbl led m with place:=(bts (add m v)).toArray }
def pos(m v:Nat):Nat:=((bts m).filter (· < v)).length
def hs(m:Nat):Array Int:=((bts m).map Int.ofNat).toArray
def full(led:Bool)(m v:Nat):Bool:=if (q11 led m v).tooFull then decide ((q11 led m v).relaid (hs (add m v)) (Î8.grown ((bts m).length + 1))=some (tbl led (add m v),(í ((bts m).length + 1)).toArray)) else decide (q11 led m v=tbl led (add m v))
def chk(led:Bool)(m v:Nat):Bool:=if m.testBit v then decide (add m v=m) else decide (add m v < 256)&&decide ((tbl led m).freeSlot (v:Int)=some (v,false))&&decide ((tbl led m).put v=(q11 led m v,pos m v))&&(q11 led m v).fits ((bts m).length + 1) &&
 decide ((bts m).take (pos m v)++v::(bts m).drop (pos m v)=bts (add m v))&&decide ((bts (add m v)).length=(bts m).length + 1)&&(tbl led (add m v)).fits ((bts m).length + 1)&&full led m v
÷c52:([true,false].all λled=>(í 256).all λm=>(tbl led m).fits (bts m).length&&(í 8).all λv=>chk led m v)=true:=by decide +kernel
÷C40(led:Bool)(hm:m < 256):(tbl led m).fits (bts m).length=true/\∀ v,v < 8->chk led m v=true:=by
 have h:=Õ.mp (Õ.mp c52 led (by cases led <;> simp)) m (Ä3.mpr hm)
 rw[Á] at h
 §⟨h.1,λv hv=>Õ.mp h.2 v (Ä3.mpr hv)⟩
÷C50:i∈bts m↔i < 8/\m.testBit i=true:=by unfold bts;rw[mem_filter,mem_range]
abbrev led(w:è):Bool:=!(w.params.followText "set-order")
def ent(g:Nat->Tok)(m:Nat):Array (Int × Ä):=((bts m).map λ(i:Nat)=>((i:Int),Æ3 i (g i))).toArray
def z40(w:è)(h:ì)(a:Ç)(m:Nat):Prop:=∃ o ep g,h.get? a=some o/\o.ExactSet/\o.data=.set (ent g m) ep (tbl (led w) m)
÷e00(g:Nat->Tok)(m:Nat):(ent g m).size=(bts m).length:=by unfold ent;simp
÷c62(g:Nat->Tok)(u:Tok)(hv:m.testBit v=false)(h:(bts m).take (pos m v)++v::(bts m).drop (pos m v)=bts (add m v)):Î8.insertAt (ent g m) (pos m v) ((v:Int),Æ3 v u)=ent (λi=>if i=v then u else g i) (add m v):=by
 have hne:∀ i∈bts m,i≠v:=λi hi e=>by subst e;rw[(C50.mp hi).2] at hv;cases hv
 have e1:(bts m).map (λ(i:Nat)=>((i:Int),Æ3 i (g i)))=(bts m).map λ(i:Nat)=>((i:Int),Æ3 i (if i=v then u else g i)):=Å8 λi hi=>by rw[if_neg (hne i hi)]
 unfold ent
 rw[← h,e1]
 apply Û2.mp
 unfold Î8.insertAt
 simp
 §È5 (by simp)
÷M91(g:Nat->Tok)(m:Nat):(ent g m).map (·.1)=hs m:=by
 unfold ent hs
 rw[map_toArray,ó];rfl
÷N01{α:Type}(xs:Array α):((í xs.size).toArray).filterMap (xs[·]?)=xs:=by
 apply Û2.mp
 rw[Array.toList_filterMap]
 §PySem.W.krv_all xs
section
variable {P:ß}{w:è}{A:ø}{E:Ä->Æ->Prop}{s:Æ}{a:Ç}{m:Nat}
÷G80{v:Nat}(h:v < 8):(Ù6 P w).hash (v:Int)=v:=by
 have:∀ v:Nat,v < 8->hashInt (v:Int)=v:=by decide
 §this v h
÷elems(g:Nat->Tok)(m:Nat):ElemsOf (Ù6 P w) (ent g m).toList:=λe he=>by
 unfold ent at he
 ¶⟨i,hi,rfl⟩:=Ú.mp he
 §⟨⟨i,Ü2 _ _ _ _,(G80 (C50.mp hi).1).symm⟩,rfl⟩
÷G92(g:Nat->Tok){v:Nat}(u:Tok){led:Bool}(hm:m < 256)(hv:v < 8)(hb:m.testBit v=false):layNew (tbl led m) (ent g m) (v:Int) (.int v u)=(ent (λi=>if i=v then u else g i) (add m v),q11 led m v,false,false):=by
 have h:=(C40 led hm).2 v hv
 unfold chk at h
 rw[hb,if_neg Ð] at h
 simp only[Á,decide_eq_true_eq] at h
 ¶⟨⟨⟨⟨⟨⟨⟨_,h1⟩,h2⟩,h3⟩,h4⟩,h5⟩,_⟩,_⟩:=h
 unfold layNew
 rw[h1]
 dsimp only
 rw[h2]
 dsimp only
 rw[c62 g u hb h4,e00,h5]
 unfold Î8.orStandIn
 rw[h3];rfl
÷c72(g:Nat->Tok){v:Nat}{led:Bool}(hm:m < 256)(hv:v < 8)(hb:m.testBit v=false)(ht:(q11 led m v).tooFull=true):relayAll (q11 led m v) (ent g (add m v)) (Î8.grown (ent g (add m v)).size)=(ent g (add m v),tbl led (add m v),false):=by
 have h:=(C40 led hm).2 v hv
 unfold chk at h
 rw[hb,if_neg Ð] at h
 simp only[Á,decide_eq_true_eq] at h
 ¶⟨⟨⟨⟨⟨⟨⟨_,_⟩,_⟩,_⟩,_⟩,h5⟩,h6⟩,h7⟩:=h
 unfold full at h7
 rw[if_pos ht,decide_eq_true_eq] at h7
 unfold relayAll
 rw[M91,e00,h5,h7]
 dsimp only
 have e:((í ((bts m).length + 1)).toArray).filterMap ((ent g (add m v))[·]?)=ent g (add m v):=by
  have:=N01 (ent g (add m v))
  rw[e00,h5] at this;§this
 rw[e,e00,h5,h6]
 have c:coversAll (í ((bts m).length + 1)).toArray ((bts m).length + 1)=true:=by
  unfold coversAll
  rw[List.isPerm_iff]
 rw[c];rfl
÷U41(hm:m < 256)(hv:v < 8):add m v < 256:=by
 have h:=(C40 true hm).2 v hv
 unfold chk at h
 cases hb:m.testBit v with
 |true=>rw[hb,if_pos rfl,decide_eq_true_eq] at h;rw[h];§hm
 |false =>
  rw[hb,if_neg Ð] at h
  simp only[Á,decide_eq_true_eq] at h
  §h.1.1.1.1.1.1.1
÷add_same(hm:m < 256)(hv:v < 8)(hb:m.testBit v=true):add m v=m:=by
 have h:=(C40 true hm).2 v hv
 unfold chk at h
 rw[hb,if_pos rfl,decide_eq_true_eq] at h;§h
÷r42{v:Nat}{u:Tok}{Q:Bool->Æ->Prop}(hm:m < 256)(hv:v < 8)(hS:z40 w s.heap a m)(h:∀ b h',Ë7 a s.heap h'->z40 w h' a (add m v)->Q b { s with heap:=h' }) :
  Ï (Ô P w) A (setAddHashed a (.int v u) ((Ù6 P w).hash v)) Q E s:=by
 ¶⟨o,ep,g,ho,hex,hd⟩:=hS
 have hf:(tbl (led w) m).fits (ent g m).size=true:=by rw[e00];§(C40 _ hm).1
 have hsz:(bts m).length<=8:=Ñ (Å3 _ _) (by simp)
 have hb:(ent g m).size < scanBound:=by rw[e00];unfold scanBound;omega
 have hel:=elems (P:=P) (w:=w) g m
 unfold setAddHashed setAddHashedIn
 ¤À7 (À (Ó2 ho hd hf ?_))
 dsimp only
 rw[byScan_of (knd:=Ù6 P w) rfl hb hel]
 simp only[↓reduceIte]
 unfold setAddByScan
 ¤À ?_
 ¤À (É8 ?_)
 ¤À (wpAny_setScan_of (Ü2 _ _ _ _) ho hd hf hel ?_)
 cases hr:List.findIdx? (λe=>(Ù6 P w).is (v:Int) e.2) (ent g m).toList with
 |some j =>
  dsimp only
  ¶⟨hj,hpj,_⟩:=List.findIdx?_eq_some_iff_getElem.mp hr
  have hmem:(ent g m).toList[j]∈(ent g m).toList:=É0 hj
  unfold ent at hmem
  ¶⟨i,hi,e⟩:=Ú.mp hmem
  rw[show(ent g m).toList[j]=((i:Int),Æ3 i (g i)) from e.symm] at hpj
  have hiv:i=v:=by
   have:=(Ù6 P w).inj _ _ _ hpj (Ü2 P w i (g i))
   omega
  subst hiv
  have q:=h false s.heap (Ë7.refl a s.heap) (by rw[add_same hm hv (C50.mp hi).2];§⟨o,ep,g,ho,hex,hd⟩)
  §Å (Å q)
 |none =>
  dsimp only
  have hbt:m.testBit v=false:=by
   cases hk:m.testBit v with
   |false=>rfl
   |true =>
    have:((v:Int),Æ3 v (g v))∈(ent g m).toList:=Ú.mpr ⟨v,C50.mpr ⟨hv,hk⟩,rfl⟩
    have:=List.findIdx?_eq_none_iff.mp hr _ this
    rw[Ü2] at this;cases this
  rw[G80 hv,G92 g u hm hv hbt]
  have hgw:∀ (b:Bool) {s₁:Æ}{Q':Unit->Æ->Prop},Q' () s₁->Ï (Ô P w) A (match b with | true=>rule "set.scan.the-table-gave-way" | false=>pure ()) Q' E s₁:=λb s₁ Q' hq=>by cases b <;> first | §Å hq | §É8 hq
  dsimp only
  ¤À (Å ?_)
  have hpl:(q11 (led w) m v).plain=true:=by unfold q11 tbl;split <;> rfl
  rw[if_pos hpl,hashByValue_scannable 8 rfl]
  ¤À (Å ?_)
  simp only[plainKind,↓reduceIte]
  have hk:=(C40 (led w) hm).2 v hv
  unfold chk at hk
  rw[hbt,if_neg Ð] at hk
  simp only[Á,decide_eq_true_eq] at hk
  ¶⟨⟨_,h6⟩,h7⟩:=hk
  have hlt:=U41 hm hv
  have hsz2:(bts (add m v)).length<=8:=Ñ (Å3 _ _) (by simp)
  have hb2:∀ g,(ent g (add m v)).size<=sizeLine:=λg=>by rw[e00,Á2];omega
  have get:∀ {h0:ì}{o:Obj}{es ep t} (es':Array (Int × Ä)) (t':Î8),h0.get? a=some o->o.data=.set es ep t->(h0.update a (Obj.putSet es' t')).get? a=some { o with data:=.set es' (ep + 1) t' }:=λ{h0 o es ep t} es' t' e1 e2=>by
   have:=Ç6 (Obj.putSet es' t') e1 (by rw[putSet_of es' t' e2];rfl)
   rw[putSet_of es' t' e2] at this;§this
  ¤À (wpAny_storeSet_of ho hd ?_ (hb2 _))
  have g1:=get (ent (λi=>if i=v then u else g i) (add m v)) (q11 (led w) m v) ho hd
  have sb1:=Æ2 s.heap a (Obj.putSet (ent (λi=>if i=v then u else g i) (add m v)) (q11 (led w) m v))
  simp only[Bool.not_false,Ä9]
  unfold full at h7
  split
  ·rename_i ht
   rw[if_pos ht] at h7
   rw[c72 _ hm hv hbt ht]
   dsimp only
   ¤À (Å ?_)
   ¤À (wpAny_storeSet_of g1 rfl ?_ (hb2 _))
   §Å (Å (h _ _ (sb1.trans (Æ2 _ a _)) ⟨_,_,_,get _ _ g1 rfl,hex,rfl⟩))
  ·rename_i ht
   rw[if_neg ht,decide_eq_true_eq] at h7
   §Å (Å (h _ _ sb1 ⟨_,ep + 1,_,g1,hex,congrArg _ h7⟩))
end
open PySem PySem.W PyProof.Rows
def met(val:Nat->Nat):Nat->Nat
 |0=>0
 |i + 1=>add (met val i) (val i)
÷v31(h:∀ i,val i < 8):∀ i,met val i < 256
 |0=>by show(0:Nat) < 256;decide
 |i + 1=>U41 (v31 h i) (h i)
section
variable {P:ß}{w:è}{A:ø}
÷z40.keep(x:z40 w h a m)(k:∀ o,h.get? a=some o->h'.get? a=some o):z40 w h' a m:=by
 ¶⟨o,ep,g,ho,r⟩:=x
 §⟨o,ep,g,k o ho,r⟩
÷c82{R:Result->Æ->Prop}{I:Ç}{fp wr:List Ç}{G:Array Þ1->Array Þ1->Prop}{n:Nat}{Pv:Nat->Ä->Prop}{St:Nat->Æ->Prop}(W:WalksS P w A.in1 I fp wr G n Pv St)(S:Ç)(hf:S ∉ fp){val:Nat->Nat}(hv:∀ i,val i < 8)(hp:∀ i v,Pv i v->∃ t,v=.int (val i) t) :
  ∀ (k i:Nat) (s:Æ),i + k=n->St i s->z40 w s.heap S (met val i)->(∀ s',Moved (S::wr) G s s'->z40 w s'.heap S (met val n)->R (.ok (.ret .none)) s')->Î3 (Ô P w) A (.builtin "set.update.loop" ⟨[.ref S,.ref I],[]⟩) R s:=by
 have hw:S ∉ wr:=λh=>hf (W.sub _ h)
 intro k
 induction k with
 |zero =>
  intro i s hk st x q
  have hk:i=n:=hk
  subst hk
  ¤Â2 F.entry_set_update_loop ?_
  rw[Â6 Ô4 _]
  ¤À (m:=Ñ4 (.ref I)) (W.done s _ _ st λs1 mv=>?_)
  §Å (q s1 (mv.mono λb hb=>È _ hb) (x.keep λo=>mv.heap S o hw))
 |succ k ih =>
  intro i s hk st x q
  ¤Â2 F.entry_set_update_loop ?_
  rw[Â6 Ô4 _]
  ¤À (m:=Ñ4 (.ref I)) (W.item i s _ _ (by omega) st λv s1 pv st1 mv=>?_)
  ¶⟨t,rfl⟩:=hp i v pv
  ¤À (m:=Ù7 _ (setAdd S (.int (val i) t))) (À7 ?_)
  unfold setAdd
  ¤À7 (À ((Ù6 P w).pyHash (k:=(val i:Int)) (Ü2 _ _ _ _) ?_))
  ¤r42 (s:={ s1 with toks:=s1.toks + 1 }) (v31 hv i) (hv i) (x.keep λo=>mv.heap S o hw) λb h2 sb x2=>?_
  have off:∀ c o,c≠S->s1.heap.get? c=some o->h2.get? c=some o:=λc o hc e=>(sb.2 c hc).trans e
  ¤Å ⟨Î2 Ô4 _,ih (i + 1) _ (by omega) (W.frame _ s1 _ _ st1 (le_succ _) λc hc o e=>off c o (λz=>hf (z ▸ hc)) e) x2 λs2 mv2 x3=>?_⟩
  §q s2 (Moved.trans W.gtrans ((mv.mono λb hb=>È _ hb).then_heap (le_succ _) λc o hc e=>off c o (λz=>hc (z ▸ Ì)) e) mv2) x3
end
section
variable {P:ß}{w:è}{A:ø}{E:Ä->Æ->Prop}{s:Æ}
abbrev U51(w:è):Obj:={ cls:=.type "set",dict:=none,data:=.set #[] 0 (.fresh 0 0 (led w)) }
÷c92(a:Ä)(h:Q (.ref s.heap.objs.size) { s with heap:=s.heap.push (U51 w) }):Î3 (Ô P w) A (.call (.builtin "set.__new__") ⟨[.type "set",a],[]⟩) (wants Q E) s:=by
 ¤á0 ?_
 ¤À (m:=Õ1 _ _) (à3 (F.newCall_set_1 a) (Å ⟨Î2 F.plain_set_new _,Â2 F.entry_set_new ?_⟩))
 rw[Â6 F.plain_set_new _]
 have hsub:=sub_set_self
 ¶⟨hp,g,d,tk,os⟩:=s
 unfold ÿ.«set.__new__» ÿ.Frozenset.newClass
 dsimp only
 wp_walk
 ¤Í6 (Å ?_)
 dsimp only
 simp only[newObj]
 §À (wpAny_alloc (Å (Å h)))
÷d02{h:ì}:z40 w (h.push (U51 w)) h.objs.size 0:=⟨_,0,λ_=>0,Ë _ rfl,⟨rfl,rfl,rfl⟩,rfl⟩
structure V22(P:Program)(w:World)(T:String)(l:Addr)(o it:Obj)(n:Nat)(Pv:Nat->Value->Prop)(St:Addr->Nat->Heap->Prop):Prop where
 ty:o.cls=.type T
 f1:isSubtype (.type T) (.type "set")=pure false
 f2:isSubtype (.type T) (.type "frozenset")=pure false
 f3:(Value.type T == Value.type "dict")=false
 iter:∀ (A:Around) (E:Value->Shared->Prop) (s:Shared) (Q:Value->Shared->Prop),s.heap.get? l=some o->Q (.ref s.heap.objs.size) { s with heap:=s.heap.push it }->wpAny (model P w) A (pyIter (.ref l)) Q E s
 walk:∀ (A:Around) (I:Addr),A.handled=none->l≠I->Walks P w A I [I,l] [I] n Pv (St I)
 zero:∀ h:Heap,h.get? l=some o->St h.objs.size 0 (h.push it)
set_option maxHeartbeats 3200000 in
÷f61{T:String}{l:Ç}{o it:Obj}{n:Nat}{Pv:Nat->Ä->Prop}{St:Ç->Nat->ì->Prop}{val:Nat->Nat}{Q:Ä->Æ->Prop}(D:V22 P w T l o it n Pv St)(hh:A.handled=none)(ho:s.heap.get? l=some o)(hv:∀ i,val i < 8)(hp:∀ i v,Pv i v->∃ t,v=.int (val i) t)
  (h:∀ (h':ì) (tk:Nat),z40 w h' s.heap.objs.size (met val n)->(∀ b u,s.heap.get? b=some u->h'.get? b=some u)->Q (.ref s.heap.objs.size) { s with heap:=h',toks:=tk }):Ï (Ô P w) A (call (.type "set") [.ref l]) Q E s:=by
 ¶⟨c,tl,hmro⟩:=Ê1.mro
 have hmade:=Ê1.made
 have hsub:=Ê1.sub
 have h1:=Ê1.notType
 have h2:=Ê1.canCreate
 have hct:=F.typeCall_set_1 (.ref l)
 ¤Õ9 (á0 ?_)
 show Ï _ _ (callAny (.type "set") _) _ _ _
 ¤Å ⟨Ø4 _ (by decide +kernel),Â2 F.entry_type_call ?_⟩
 rw[ø.under_plain (weight_type_call_type "set" [.ref l] []) rfl]
 repeat (any_goals (first | assumption | wp_step))
 ¤È1 (c92 (.ref l) (E:=E) (Q:=λv s1=>v=.ref s.heap.objs.size/\s1={ s with heap:=s.heap.push (U51 w) }) ⟨rfl,rfl⟩) λr s1 hr=>?_
 cases r with
 |error e=>§hr
 |ok fl =>
  cases fl with
  |ret v =>
   ¶⟨rfl,rfl⟩:=hr
   have hT:Þ3 { s with heap:=s.heap.push (U51 w) } (.ref s.heap.objs.size) "set":=⟨_,Ë _ rfl,rfl⟩
   have hli:=Ê1.init.lookup
   have hbi:=Ê1.init.bind (.ref s.heap.objs.size)
   have lS:l < s.heap.objs.size:=à ho
   have ho1:(s.heap.push (U51 w)).get? l=some o:=Ã _ ho
   repeat (any_goals (first | assumption | wp_step))
   ¤È1 (Ù2 (R:=wants (λr s2=>r=.none/\∃ h' tk,s2={ s with heap:=h',toks:=tk }/\z40 w h' s.heap.objs.size (met val n)/\∀ b u,s.heap.get? b=some u->h'.get? b=some u) E) Ê1.init.plain F.entry_set_init (check_set_init_1 hT ?_)) λr2 s2 hr2=>?_
   ·have f1:=D.f1
    have f2:=D.f2
    have f3:=D.f3
    ¶⟨ocls,odict,odata,oslots⟩:=o
    have hc:ocls=.type T:=D.ty
    subst hc
    unfold ÿ.«set.__init__» noKeywords ÿ.Frozenset.updateFrom
    generalize hPI:pyIter=PI
    wp_walk
    subst hPI
    ¤D.iter _ _ _ _ ho1 ?_
    ¤À (Ø7 ?_)
    have hI:(s.heap.push (U51 w)).objs.size=s.heap.objs.size + 1:=Ë3 ..
    have nI:l≠(s.heap.push (U51 w)).objs.size:=by rw[hI];§Ø (Å0 lS)
    have nS:s.heap.objs.size ∉ [(s.heap.push (U51 w)).objs.size,l]:=by
     rw[hI]
     simp only[Â9,À2,or_false,not_or]
     §⟨Ø (Ë9 _),Ê4 lS⟩
    ¤c82 ((D.walk _ _ (by simp[hh]) nI).toS) s.heap.objs.size nS hv hp n 0 _ (Î9 _) (D.zero _ ho1) (d02.keep λu e=>Ã _ e) λs' mv x=>?_
    ¶⟨h',g',d',tk',os'⟩:=s'
    have eg:g'=s.gens:=mv.gens
    have ed:d'=s.drawn:=mv.drawn
    have eo:os'=s.os:=mv.os
    subst eg;subst ed;subst eo
    ¤Å (Å ⟨rfl,h',tk',rfl,x,λb u e=>?_⟩)
    have lb:=à e
    ¤mv.heap b u (λz=>?_) (Ã _ (Ã _ e))
    simp only[Â9,À2,or_false] at z
    rw[hI] at z
    rcases z with z | z
    ·§Ø lb z
    ·§Ø (Å0 lb) z
   ·cases r2 with
    |error e=>§hr2
    |ok fl2 =>
     cases fl2 with
     |ret r =>
      ¶⟨rfl,h',tk,rfl,x,kp⟩:=hr2
      repeat (any_goals (first | assumption | wp_step))
      §h _ _ x kp
     |_=>§hr2.elim
  |_=>§hr.elim
end
def f71(m:Nat):Nat->Nat
 |0=>0
 |i + 1=>(bts m).getD i 0 + 1
÷v41:((í 256).all λm=>(í ((bts m).length + 1)).all λi=>Î8.below (bts m).toArray (f71 m i) == i)=true:=by decide +kernel
÷below_at(hm:m < 256)(hi:i<=(bts m).length):Î8.below (bts m).toArray (f71 m i)=i :=
 eq_of_beq (Õ.mp (Õ.mp v41 m (Ä3.mpr hm)) i (Ä3.mpr (Ú7 hi)))
÷G90:∀ {l:List α}{i:Nat} (h:i < l.length),(l[i]::l.eraseIdx i).Perm l
 |x::r,0,_=>.refl _
 |x::r,i + 1,h=>(List.Perm.swap x _ _).trans ((G90 (l:=r) (i:=i) (Nat.lt_of_succ_lt_succ h)).cons x)
÷v51(next:Nat->Nat):∀ (n k:Nat) (left:List α) (out:Array α),left.length=n->((ß3.go next n k left out).toList).Perm (out.toList++left)
 |0,k,left,out,h=>by
  have:left=[]:=List.eq_nil_of_length_eq_zero h
  subst this
  simp[ß3.go]
 |n + 1,k,left,out,h=>by
  have hl:next k % left.length < left.length:=Nat.mod_lt _ (by omega)
  have e:left[next k % left.length]?=some left[next k % left.length]:=List.getElem?_eq_getElem hl
  unfold ß3.go
  rw[e]
  ¤(v51 next n (k + 1) _ _ (by rw[List.length_eraseIdx_of_lt hl];omega)).trans ?_
  rw[Array.toList_push,Ô7]
  §List.Perm.append_left _ (G90 hl)
÷v61(next:Nat->Nat)(xs:Array α):(ß3 next xs).toList.Perm xs.toList:=by
 have:=v51 next xs.size 0 xs.toList #[] (by simp)
 rw[Ì8] at this
 §this
def ord(w:è)(a ep:Nat)(es:Array (Int × Ä)):Array (Int × Ä):=if w.params.followText "set-order" then ß3 (w.params.setOrder a ep) es else es
÷f81(w:è)(a ep:Nat)(es:Array (Int × Ä)):(ord w a ep es).toList.Perm es.toList:=by
 unfold ord
 split
 ·§v61 _ _
 ·§.refl _
÷L40(w:è)(a ep:Nat)(es:Array (Int × Ä)):(ord w a ep es).size=es.size:=by
 have:=(f81 w a ep es).length_eq
 simpa using this
def v71(w:è)(m i:Nat):Nat:=if w.params.followText "set-order" then 0 else f71 m i
def itO(w:è)(S ep n m i:Nat):Obj:={ cls:=.type "set_iterator",data:=.fields #[Ã6 (v71 w m i),Ã6 i,.ref S,Ã6 n,Ã6 ep] }
÷c90:Slot "set_iterator" "__next__" "set_iterator.__next__":=.of (owner:="set_iterator") (n:="__next__") (by rw[typeLookup_type,builtinLookup_eq_fast];kernel_rfl) (by decide +kernel) (by decide +kernel) (by decide +kernel) (by first | §.inl (by decide +kernel) | §.inr (by decide +kernel)) (by rw[Ñ7];kernel_rfl)
÷n80:Slot "set_iterator" "__iter__" "set_iterator.__iter__":=.of (owner:="set_iterator") (n:="__iter__") (by rw[typeLookup_type,builtinLookup_eq_fast];kernel_rfl) (by decide +kernel) (by decide +kernel) (by decide +kernel) (by first | §.inl (by decide +kernel) | §.inr (by decide +kernel)) (by rw[Ñ7];kernel_rfl)
÷m90:entryFor table "set_iterator.__next__"=some ÿ.«set_iterator.__next__»:=entryFor_of_tree (by kernel_rfl)
÷G00:entryFor table "set.__iter__"=some ÿ.«frozenset.__iter__»:=entryFor_alias (id':="frozenset.__iter__") (by kernel_rfl) rfl (by decide +kernel) (by kernel_rfl)
÷z50:entryFor table "set_iterator.__iter__"=some ÿ.«dict_keyiterator.__iter__»:=entryFor_alias (id':="dict_keyiterator.__iter__") (by kernel_rfl) rfl (by decide +kernel) (by kernel_rfl)
÷C60:Manifest.owners.lookup (String.ofList "rotareti_tes".toList.reverse)=some Manifest.sig_set_iterator:=by kernel_rfl
÷n90(a:Ä):argsOk "set_iterator.__next__" ⟨[a],[]⟩:=by
 unfold argsOk;rw[signature?_of (id:="set_iterator.__next__") (n:="__txen__".toList) (o:="rotareti_tes".toList) (by kernel_rfl) C60];kernel_rfl
÷C70(a:Ä):argsOk "set_iterator.__iter__" ⟨[a],[]⟩:=by
 unfold argsOk;rw[signature?_of (id:="set_iterator.__iter__") (n:="__reti__".toList) (o:="rotareti_tes".toList) (by kernel_rfl) C60];kernel_rfl
section
variable {P:ß}{w:è}{A:ø}{E:Ä->Æ->Prop}{s:Æ}{S ep m:Nat}{g:Nat->Tok}{o:Obj}
÷S50(b:Bool)(m:Nat):(tbl b m).plain=true:=by unfold tbl;split <;> rfl
÷d12(b:Bool)(m:Nat):(tbl b m).led=b:=by unfold tbl;split <;> rfl
÷v81(b:Bool)(m:Nat):(tbl b m).place=(bts m).toArray:=by unfold tbl;split <;> rfl
÷L50(hm:m < 256):(tbl (led w) m).fits (ent g m).size=true:=by rw[e00];§(C40 _ hm).1
÷N11(hm:m < 256)(ho:s.heap.get? S=some o)(hx:o.ExactSet)(hd:o.data=.set (ent g m) ep (tbl (led w) m))(h:Q (.ref s.heap.objs.size) { s with heap:=s.heap.push (itO w S ep (bts m).length m 0) }):Ï (Ô P w) A (pyIter (.ref S)) Q E s:=by
 have hT:s.TypeIs (.ref S) "set":=⟨o,ho,hx.1⟩
 have hf:=L50 (w:=w) (g:=g) hm
 have hp:=S50 (led w) m
 ¤wpAny_pyIter_slot hT F.slot_set_iter (À4 F.slot_set_iter hT G00 ?_ (F.args_set_iter_1 _))
 unfold ÿ.«frozenset.__iter__» ÿ.Frozenset.slot0 slotArgs
 simp only[isEmpty_nil,à7,Ã4,↓reduceIte,bind_assoc,Á0,bne_self_eq_false]
 unfold ÿ.Frozenset.addrOf ÿ.Frozenset.sizeOf
 ¤À (Å (À (Å (À (À (Ú4 ho hd hf (Å ?_)))))))
 ¤À ?_
 have dr:Ï (Ô P w) A.in1 (setDrawn S) (λb s'=>b=false/\s'=s) E s:=by
  unfold setDrawn setsByText
  ¤À (Ó2 ho hd hf (À (À (Í6 (Å (Å ⟨?_,rfl⟩))))))
  generalize tbl (led w) m=t at hp
  ¶⟨t1,t2,t3,t4,t5,t6,t7⟩:=t
  cases hp
  show(!w.params.followText "set-order"&&_)=false
  cases w.params.followText "set-order" <;> rfl
 ¤Â1 dr (λb s' hb=>?_) λ_ _ e=>e
 ¶⟨rfl,rfl⟩:=hb
 rw[if_neg Ð]
 ¤À (Å ?_)
 ¤À (wpAny_setEpoch_of ho hd hf ?_)
 ¤À (æ (Å ⟨_,rfl,"set_iterator",_,⟨_,Ë _ rfl,rfl⟩,c90.lookup,?_⟩))
 have e:itO w S ep (bts m).length m 0={ cls:=.type "set_iterator",data:=.fields #[Ã6 0,Ã6 0,.ref S,Ã6 (ent g m).size,Ã6 ep] }:=by
  unfold itO v71
  rw[e00]
  split <;> rfl
 rw[e] at h
 §h
÷v91(hm:m < 256)(hi:i<=(bts m).length)(ho:s.heap.get? S=some o)(hd:o.data=.set (ent g m) ep (tbl (led w) m)):Ï (Ô P w) A (setNext S (v71 w m i) i ep) (λr s'=>s'=s/\r=(ord w S ep (ent g m))[i]?.map λe=>(e.2,v71 w m (i + 1))) E s:=by
 have hf:=L50 (w:=w) (g:=g) hm
 have hp:=S50 (led w) m
 have hl:=d12 (led w) m
 have hpl:=v81 (led w) m
 unfold setNext
 ¤À (Ó2 ho hd hf ?_)
 unfold setsByText
 ¤À (À (Í6 (Å ?_)))
 dsimp only
 unfold ord v71
 show Ï _ _ (if w.params.followText "set-order"=true then _ else _) _ _ _
 cases hb:w.params.followText "set-order" with
 |true =>
  rw[if_pos rfl]
  rw[if_neg (by simp)]
  ¤À ?_
  unfold setWalk setsByText
  ¤À (Ó2 ho hd hf (À (À (Í6 (Å ?_)))))
  show Ï _ _ (if w.params.followText "set-order"=true then _ else _) _ _ _
  rw[hb,if_pos rfl]
  ¤À (Í6 (Å (Å ⟨rfl,?_⟩)))
  simp only[↓reduceIte]
  rfl
 |false =>
  simp only[Ã4,↓reduceIte]
  have hl:(tbl (led w) m).led=true:=by rw[hl];show(!w.params.followText "set-order")=true;rw[hb];rfl
  generalize tbl (led w) m=t at hp hl hpl
  ¶⟨t1,t2,t3,t4,t5,t6,t7⟩:=t
  cases hp;cases hl
  have hpl:t2=(bts m).toArray:=hpl
  subst hpl
  ¤À (Å (Å ⟨rfl,?_⟩))
  rw[below_at hm hi]
  by_cases hi':i < (bts m).length
  ·have e1:(ent g m)[i]?=some (((bts m)[i]:Int),Æ3 ((bts m)[i]:Nat) (g (bts m)[i])):=by unfold ent;simp[hi']
   have e2:(bts m).toArray[i]?=some (bts m)[i]:=by simp[hi']
   rw[e1,e2]
   show some _=some _
   have e3:f71 m (i + 1)=(bts m)[i] + 1:=by show(bts m).getD i 0 + 1=_;simp[hi']
   rw[e3]
  ·have e1:(ent g m)[i]?=none:=by unfold ent;simp;omega
   rw[e1];rfl
÷N21{i:Nat}{I:Ç}(hm:m < 256)(hi:i < (bts m).length)(ho:s.heap.get? S=some o)(hd:o.data=.set (ent g m) ep (tbl (led w) m))(hI:s.heap.get? I=some (itO w S ep (bts m).length m i)){Q:Option Ä->Æ->Prop}
  (h:∀ v h',(ord w S ep (ent g m))[i]?.map (·.2)=some v->Ë7 I s.heap h'->h'.get? I=some (itO w S ep (bts m).length m (i + 1))->Q (some v) { s with heap:=h' }):Ï (Ô P w) A (Ñ4 (.ref I)) Q E s:=by
 have hT:s.TypeIs (.ref I) "set_iterator":=⟨_,hI,rfl⟩
 have hf:=L50 (w:=w) (g:=g) hm
 unfold Ñ4
 ¤À (Ë2 (À5 (name:=À9 "__next__") hT c90 (À4 c90 hT m90 ?_ (n90 _))))
 unfold ÿ.«set_iterator.__next__» slotArgs
 simp only[isEmpty_nil,à7,Ã4,↓reduceIte,bind_assoc,Á0,bne_self_eq_false]
 ¤À (Å ?_)
 ¤À (wpAny_fieldsOf hI rfl ?_)
 dsimp only [Ã6]
 ¤À (Ú4 ho hd hf ?_)
 rw[if_neg (by rw[e00];simp)]
 ¤À (Â1 (v91 (i:=i) hm (É3 hi) ho hd) (λr s' hr=>?_) λ_ _ e=>e)
 ¶⟨rfl,rfl⟩:=hr
 have hsz:i < (ord w S ep (ent g m)).size:=by rw[L40,e00];§hi
 have e1:(ord w S ep (ent g m))[i]?=some (ord w S ep (ent g m))[i]:=by simp[hsz]
 simp only[Á8,e1,map_some]
 unfold itO at hI
 ¤À (Ã0 hI (by simp) λh1 hI1 sb1=>?_)
 ¤À (Ã0 hI1 (by simp) λh2 hI2 sb2=>?_)
 ¤Å ⟨_,rfl,Å (h _ h2 (by rw[e1];rfl) (sb1.trans sb2) ?_)⟩
 unfold itO
 simpa [Ã6] using hI2
÷d22{I:Ç}(hh:A.handled=none)(hm:m < 256)(ho:s.heap.get? S=some o)(hd:o.data=.set (ent g m) ep (tbl (led w) m))(hI:s.heap.get? I=some (itO w S ep (bts m).length m (bts m).length)){Q:Option Ä->Æ->Prop}
  (h:∀ h',ì.ExtBut I s.heap h'->Q none { s with heap:=h' }):Ï (Ô P w) A (Ñ4 (.ref I)) Q E s:=by
 have hT:s.TypeIs (.ref I) "set_iterator":=⟨_,hI,rfl⟩
 have hf:=L50 (w:=w) (g:=g) hm
 unfold Ñ4
 ¤À (Ë2 (À5 (name:=À9 "__next__") hT c90 (À4 c90 hT m90 ?_ (n90 _))))
 unfold ÿ.«set_iterator.__next__» slotArgs
 simp only[isEmpty_nil,à7,Ã4,↓reduceIte,bind_assoc,Á0,bne_self_eq_false]
 ¤À (Å ?_)
 ¤À (wpAny_fieldsOf hI rfl ?_)
 dsimp only [Ã6]
 ¤À (Ú4 ho hd hf ?_)
 rw[if_neg (by rw[e00];simp)]
 ¤À (Â1 (v91 (i:=(bts m).length) hm (Í _) ho hd) (λr s' hr=>?_) λ_ _ e=>e)
 ¶⟨rfl,rfl⟩:=hr
 have e1:(ord w S ep (ent g m))[(bts m).length]?=none:=by simp[L40,e00]
 simp only[Á8,e1,Option.map_none]
 unfold itO at hI
 ¤À (Ã0 hI (by simp) λh1 hI1 sb1=>À ?_)
 simp only[newExc,newTuple]
 ¤À (æ ?_ (by size_fits))
 ¤À (m:=Ù1 _ _) (à3 (a:=â) (by first | rfl | (simp only[Ù1];rfl)) ?_)
 ¤æ ?_ (by size_fits)
 simp only[raiseNew]
 ¤À (wpAny_handled ?_)
 rw[show A.in1.handled=none from hh]
 ¤À (Å (wpAny_throw ?_))
 ¤À (ß2 (T:="StopIteration") (b:=true) ⟨_,Ë _ rfl,rfl⟩ isSubtype_stop ?_)
 §Å (h _ ((sb1.extBut.push _).push _))
÷w01(hh:A.handled=none)(hm:m < 256)(hx:o.ExactSet)(hd:o.data=.set (ent g m) ep (tbl (led w) m))(hn:S≠I):Walks P w A I [I,S] [I] (bts m).length (λi v=>(ord w S ep (ent g m))[i]?.map (·.2)=some v) (λi h=>h.get? S=some o/\h.get? I=some (itO w S ep (bts m).length m i)) where
 sub:=λb hb=>by simp at hb;simp[hb]
 frame:=λ_ _ _ st hk=>⟨hk S (by simp) _ st.1,hk I (by simp) _ st.2⟩
 item:=λi s Q E hi st hQ=>N21 hm hi st.1 hd st.2 λv h' hv sb hI=>hQ v h' s.toks hv ⟨(sb.2 S hn).trans st.1,hI⟩ λb u hb e=>(sb.2 b λz=>hb (by simp[z])).trans e
 done:=λs Q E st hQ=>d22 hh hm st.1 hd st.2 λh' kp=>hQ h' s.toks λb u hb e=>kp b u (λz=>hb (by simp[z])) e
 self:=λi s Q E st hQ=>by
  have hT:s.TypeIs (.ref I) "set_iterator":=⟨_,st.2,rfl⟩
  ¤wpAny_pyIter_slot hT n80 (À4 n80 hT z50 ?_ (C70 _))
  show Ï _ _ (ret (.ref I)) _ _ s
  §Å ⟨_,rfl,"set_iterator",_,hT,c90.lookup,hQ⟩
set_option maxHeartbeats 3200000 in
÷Z90{Q:List Ä->Æ->Prop}(hh:A.handled=none)(hm:m < 256)(ho:s.heap.get? S=some o)(hx:o.ExactSet)(hd:o.data=.set (ent g m) ep (tbl (led w) m))
  (hQ:∀ h' tk,s.heap.objs.size < h'.objs.size->(∀ b u,s.heap.get? b=some u->h'.get? b=some u)->Q ((ord w S ep (ent g m)).toList.map (·.2)) { s with heap:=h',toks:=tk }):Ï (Ô P w) A (collect (.ref S)) Q E s:=by
 have lS:S < s.heap.objs.size:=à ho
 have hsz:(bts m).length<=8:=Ñ (Å3 _ _) (by simp)
 unfold collect
 ¤À (Ø7 (Â2 F.entry_proto_collect ?_))
 rw[Â6 F.plain_proto_collect _]
 ¤À (m:=newList []) (æ (Å ⟨Î2 F.plain_list_iadd _,Â2 F.entry_list_iadd ?_⟩))
 rw[Â6 F.plain_list_iadd _]
 show Ï _ A.in1 (Ä4 (.ref s.heap.objs.size) (.ref S) (.ref s.heap.objs.size)) _ _ _
 have oS:(s.heap.push { cls:=.type "list",data:=.seq ([]:List Ä).toArray }).get? S=some o:=Ã _ ho
 have hL:(s.heap.push { cls:=.type "list",data:=.seq ([]:List Ä).toArray }).get? s.heap.objs.size=some { cls:=.type "list",data:=.seq ([]:List Ä).toArray }:=Ë _ rfl
 have hT:Þ3 { s with heap:=s.heap.push { cls:=.type "list",data:=.seq ([]:List Ä).toArray } } (.ref S) "set":=⟨o,oS,hx.1⟩
 unfold Ä4
 ¤À (Ç7 hT ?_)
 have c1:Ú3 (.ref s.heap.objs.size) (.ref S)=false:=by simp[Ú3];§Ê4 lS
 have c2:(Á6 "set" == Á6 "list")=false:=by decide
 have c3:(Á6 "set" == Á6 "tuple")=false:=by decide
 simp only[c1,c2,c3,Bool.or_false,Ã4,if_false]
 ¤À (N11 hm oS hx hd (À (À7 ?_)))
 have hT2:∀ u,Þ3 { s with heap:=(s.heap.push { cls:=.type "list",data:=.seq ([]:List Ä).toArray }).push u } (.ref S) "set":=λu=>⟨o,Ã _ oS,hx.1⟩
 unfold ÿ.List.listLengthHint
 ¤À (wpAny_specialOf (hT2 _) F.slot_set_len.lookup ?_)
 wp_delta
 ¤À (ß2 (T:="set") (b:=true) (hT2 _) (by rw[Ñ7];kernel_rfl) ?_)
 show Ï _ A.in1 (typeOf (Ã3 S) >>= _) _ _ _
 ¤À (Ç7 (hT2 _) (Å ?_))
 rw[if_pos (by decide)]
 ¤À (É8 ?_)
 generalize hI:s.heap.push { cls:=.type "list",data:=.seq ([]:List Ä).toArray }=h1 at oS hL hT2
 have sz1:h1.objs.size=s.heap.objs.size + 1:=by rw[← hI];§Ë3 ..
 have hL2:(h1.push (itO w S ep (bts m).length m 0)).get? s.heap.objs.size=some { cls:=.type "list",data:=.seq ([]:List Ä).toArray }:=Ã _ hL
 ¤À (m:=ÿ.List.listTouch (.ref s.heap.objs.size)) ?_
 show Ï _ A.in1 (updateSeq s.heap.objs.size (·.push .none) >>= λ_=>updateSeq s.heap.objs.size (·.pop)) _ _ _
 ¤À (wpAny_updateSeq hL2 rfl ?_)
 have hL3:=Ç6 (À1 (·.push â)) hL2 rfl
 ¤wpAny_updateSeq hL3 rfl ?_
 have hL4:=Ç6 (À1 (·.pop)) hL3 rfl
 have off:∀ b u,b≠s.heap.objs.size->(h1.push (itO w S ep (bts m).length m 0)).get? b=some u->(((h1.push (itO w S ep (bts m).length m 0)).update s.heap.objs.size (À1 (·.push â))).update s.heap.objs.size (À1 (·.pop))).get? b=some u :=
  λb u hb e=>(Ë6 _ _ (Â3 hb)).trans ((Ë6 _ _ (Â3 hb)).trans e)
 have nI:S≠h1.objs.size:=by rw[sz1];§Ø (Å0 lS)
 have nS:s.heap.objs.size ∉ [h1.objs.size,S]:=by
  rw[sz1]
  simp only[Â9,À2,or_false,not_or]
  §⟨Ø (Ë9 _),Ê4 lS⟩
 ¤Å ⟨Î2 F.plain_extend_loop _,codeAny_extend_loopS (w01 (P:=P) (by simp[hh]) hm hx hd nI).toS (by rw[Á2];omega) s.heap.objs.size nS _ (bts m).length 0 _ _ _ rfl (Æ1 _) ⟨off _ _ (Ø lS) (Ã _ oS),off _ _ (by rw[sz1];§(Ø (Ë9 _)).symm) (Ë _ rfl)⟩ hL4 (ItemsOf.nil _) λs' acc c mv hS' it=>?_⟩
 ¤À (m:=load s.heap.objs.size) (wpAny_load hS' (Å ?_))
 have ea:acc.toList=(ord w S ep (ent g m)).toList.map (·.2):=by
  ¤List.ext_getElem? λj=>?_
  rw[Ý,ô,ô]
  cases e:acc[j]? with
  |none =>
   have hj:(bts m).length<=j:=by rw[← it.1];simpa using e
   have:(ord w S ep (ent g m))[j]?=none:=by simp[L40,e00,hj]
   rw[this];rfl
  |some v=>rw[it.2 j v e]
 rw[ea]
 ¶⟨h',g',d',tk',os'⟩:=s'
 have eg:g'=s.gens:=mv.gens
 have ed:d'=s.drawn:=mv.drawn
 have eo:os'=s.os:=mv.os
 subst eg;subst ed;subst eo
 ¤hQ h' tk' (à hS') λb u e=>mv.heap b u (λz=>?_) (off b u (Ø (à e)) (Ã _ (hI ▸ Ã _ e)))
 have lb:=à e
 simp only[Â9,À2,or_false] at z
 rw[sz1] at z
 rcases z with z | z
 ·§Ø lb z
 ·§Ø (Å0 lb) z
end
end SS
namespace Q
open PySem L2
abbrev Z:=Option (Int × Bool)
inductive S where
 |d (x:D) | fr (xs:List D) | z
inductive R (α:Type) where
 |ok (a:α) (z:Z) | er (c:Nat) (z:Z)
abbrev M(α:Type):=Z->Option (R α)
def M.ret{α:Type}(a:α):M α:=λz=>some (.ok a z)
def M.no{α:Type}:M α:=λ_=>none
def M.of{α:Type}:Option α->M α
 |some a=>M.ret a
 |none=>M.no
def M.bind{α β:Type}(m:M α)(f:α->M β):M β:=λz=>match m z with
 |some (.ok a z1)=>f a z1
 |some (.er c z1)=>some (.er c z1)
 |none=>none
def M.calm{α:Type}(m:M α):M α:=λz=>match m z with
 |some (.ok a z1)=>some (.ok a z1)
 |_=>none
abbrev Env:=List (Option S)
def pl:List S->Option D
 |[.d x]=>some x
 |[.fr xs]=>some (.lst xs)
 |_=>none
def one:List S->Option S
 |[s]=>some s
 |_=>none
def plS:S->S
 |.fr xs=>.d (.lst xs)
 |s=>s
def plD:S->Option D
 |.d x=>some x
 |.fr xs=>some (.lst xs)
 |.z=>none
def plA:List S->Option (List D)
 |[]=>some []
 |.d x::r=>(plA r).map (x::·)
 |.fr xs::r=>(plA r).map (.lst xs::·)
 |.z::_=>none
inductive Bi where
 |add | sub | mul | fdiv | mod | pow
inductive Cm where
 |eq | ne | lt | le | gt | ge | is | mem | nmem
inductive Bf where
 |len | sorted | tuple | list | sum | min | max | abs | all | int | sset | B62
inductive Ty where
 |int | bool | tuple | list | str | seq
inductive Pat where
 |v (i:Nat) | tup (ps:Pat) | nil | cons (p r:Pat)
inductive It where
 |seq | rng1 | rng2 | zip | enum
inductive Ex where
 |nil | cons (a r:Ex)
 |var (i:Nat) | con (x:D) | gint (g:Str) (i:Int)
 |tup (as:Ex) | lst (as:Ex)
 |bin (o:Bi) (a b:Ex) | cmp (o:Cm) (a b:Ex) | neg (a:Ex)
 |not (a:Ex) | and (a b:Ex) | or (a b:Ex) | orT (a b:Ex) | ite (c a b:Ex)
 |ch (o o':Cm) (a b c:Ex)
 |bf (f:Bf) (as:Ex) | isi (t:Ty) (a:Ex)
 |idx (a i:Ex) | sl (a lo hi:Ex) | rev (a:Ex)
 |call (f:Nat) (as:Ex)
 |comp (own:Nat) (capt:List Nat) (p:Pat) (it:It) (src cond el:Ex)
 |zget (i k:Nat) | lrng (b:Bool) (as:Ex)
 |refd (capt:List Nat) (a:Ex)
abbrev most:Nat:=100000
def P40:Nat:=2 ^ 4000
mutual
noncomputable def eqD:D->D->Bool
 |.non,.non=>true
 |.bl a,.bl b=>a == b
 |.int a,.int b=>a == b
 |.str a,.str b=>a == b
 |.bl a,.int b=>(if a then 1 else 0) == b
 |.int a,.bl b=>a == (if b then 1 else 0)
 |.tup a,.tup b=>N31 a b
 |.lst a,.lst b=>N31 a b
 |.dct,.dct=>true
 |_,_=>false
noncomputable def N31:List D->List D->Bool
 |[],[]=>true
 |a::r,b::q=>eqD a b&&N31 r q
 |_,_=>false
end
mutual
noncomputable def ltD:D->D->Option Bool
 |.int a,.int b=>some (decide (a < b))
 |.tup a,.tup b=>N41 a b
 |_,_=>none
noncomputable def N41:List D->List D->Option Bool
 |[],[]=>some false
 |[],_::_=>some true
 |_::_,[]=>some false
 |a::r,b::q=>if eqD a b then N41 r q else ltD a b
end
mutual
noncomputable def n00:D->Bool
 |.dct=>false
 |.tup l=>e70 l
 |.lst l=>e70 l
 |.str x=>PyData.strOk x
 |_=>true
noncomputable def e70:List D->Bool
 |[]=>true
 |x::r=>n00 x&&e70 r
end
mutual
noncomputable def deep:D->Nat
 |.tup l=>f80 l + 1
 |.lst l=>f80 l + 1
 |_=>0
noncomputable def f80:List D->Nat
 |[]=>0
 |x::r=>Ñ0 (deep x) (f80 r)
end
def okD(d:D):Bool:=n00 d&&decide (deep d<=40)
def G10(l:List D):Bool:=e70 l&&decide (f80 l<=39)
÷g30{c:Prop}[Decidable c]{α:Type}{a:Option α}{b:α}(h:(if c then a else none)=some b):c/\a=some b:=by
 by_cases k:c
 ·rw[if_pos k] at h;§⟨k,h⟩
 ·rw[if_neg k] at h;cases h
def eqO(a b:D):Option Bool:=if okD a&&okD b then some (eqD a b) else none
def eqE:D->D->Option Bool
 |.tup l,.tup []=>some l.isEmpty
 |_,_=>none
def eqQ(a b:D):Option Bool:=if okD a&&okD b then some (eqD a b) else eqE a b
def ltO(a b:D):Option Bool:=if okD a&&okD b then ltD a b else none
def memD(x:D)(l:List D):Bool:=l.any λy=>eqD y x
def N51(x:D)(l:List D):Option Bool:=if okD x&&G10 l then some (memD x l) else none
def a01:List D->Option (List Int)
 |[]=>some []
 |.int i::r=>(a01 r).map (i::·)
 |_=>none
def z60:Bi->D->D->Option S
 |.add,.int i,.int j=>some (.d (.int (i + j)))
 |.add,.tup a,.tup b=>if a.length + b.length<=most then some (.d (.tup (a++b))) else none
 |.add,.lst a,.lst b=>if a.length + b.length<=most then some (.fr (a++b)) else none
 |.sub,.int i,.int j=>some (.d (.int (i - j)))
 |.mul,.int i,.int j=>if i.natAbs < P40/\j.natAbs < P40 then some (.d (.int (i * j))) else none
 |.mul,.tup a,.int j=>if 0<=j/\j.toNat * a.length<=most/\j < 1000000 then some (.d (.tup (î j.toNat a).flatten)) else none
 |.mul,.lst a,.int j=>if 0<=j/\j.toNat * a.length<=most/\j < 1000000 then some (.fr (î j.toNat a).flatten) else none
 |.fdiv,.int i,.int j=>if 0 < j/\j.natAbs < P40 then some (.d (.int (i / j))) else none
 |.mod,.int i,.int j=>if 0 < j then some (.d (.int (i % j))) else none
 |.pow,.int i,.int j=>if 0<=j/\j<=1000/\i.natAbs < 2 ^ 64 then some (.d (.int (i ^ j.toNat))) else none
 |_,_,_=>none
def w11:D->Bool
 |.non=>true
 |_=>false
def neO:D->D->Option Bool
 |.dct,.tup _=>some true
 |a,b=>(eqO a b).map (!·)
def A20:Cm->D->D->Option Bool
 |.eq,a,b=>eqQ a b
 |.ne,a,b=>neO a b
 |.lt,a,b=>ltO a b
 |.gt,.int a,.int b=>some (decide (b < a))
 |.le,.int a,.int b=>some (decide (a<=b))
 |.le,.tup a,.tup b=>(a01 a).bind λns=>(a01 b).map λms=>HT.leB ns ms
 |.ge,.int a,.int b=>some (decide (b<=a))
 |.is,.bl a,.bl b=>some (a == b)
 |.is,a,.non=>some (w11 a)
 |.mem,a,.tup l=>N51 a l
 |.mem,a,.lst l=>N51 a l
 |.nmem,a,.tup l=>(N51 a l).map (!·)
 |.nmem,a,.lst l=>(N51 a l).map (!·)
 |_,_,_=>none
def U61:Ty->D->Bool
 |.int,.int _=>true
 |.int,.bl _=>true
 |.bool,.bl _=>true
 |.tuple,.tup _=>true
 |.list,.lst _=>true
 |.str,.str _=>true
 |.seq,.tup _=>true
 |.seq,.lst _=>true
 |_,_=>false
def asB:D->Option Bool
 |.bl b=>some b
 |_=>none
def r52:D->Option (List D)
 |.tup l=>some l
 |_=>none
def asI:D->Option Int
 |.int i=>some i
 |_=>none
def a11:D->Option (List D)
 |.tup l=>some l
 |.lst l=>some l
 |_=>none
mutual
noncomputable def flt:D->List Int
 |.int i=>[i]
 |.tup l=>P22 l
 |_=>[]
noncomputable def P22:List D->List Int
 |[]=>[]
 |x::r=>flt x++P22 r
end
mutual
noncomputable def eqT:D->D->Bool
 |.int i,.int j=>i == j
 |.tup a,.tup b=>X90 a b
 |_,_=>false
noncomputable def X90:List D->List D->Bool
 |[],[]=>true
 |x::r,y::q=>eqT x y&&X90 r q
 |_,_=>false
end
def w21:D->Nat
 |.int _=>0
 |.tup (.int _::_)=>1
 |.tup (.tup _::_)=>2
 |_=>3
def i60(x y:D):Bool:=w21 y == w21 x&&(ltD x y == some (MySort.h70 (flt x) (flt y))&&(eqT x y || !(flt x == flt y)))
def n10(l:List D):Bool:=l.all λx=>decide (w21 x < 3)&&(okD x&&l.all (i60 x))
def q21(k:D):List D->List D
 |[]=>[k]
 |y::r=>if MySort.h70 (flt y) (flt k) then y::q21 k r else k::y::r
def u20:List D->List D
 |[]=>[]
 |k::r=>q21 k (u20 r)
def s10(k m:Nat):D:=.tup ((TS.B90 k 0 m).map λ(i:Nat)=>.int i)
def h80(k:Nat):List D:=(í (2 ^ k)).map (s10 k)
def N61(k:Nat):List D:=(TS.sN k).map (s10 k)
def P32(l:List D):Option (List D):=((í 9).find? λk=>X90 l (h80 k)).map N61
def sortedS(x:D):Option S:=(a11 x).bind λl=>if l.length < 64/\n10 l=true then some (.fr (u20 l)) else(P32 l).map S.fr
def r62:List D->Option Int
 |[]=>some 0
 |.int i::r=>(r62 r).map (i + ·)
 |_=>none
def C80:List D->Option (List Nat)
 |[]=>some []
 |.int i::r=>if 0<=i/\i < 8 then(C80 r).map (i.toNat::·) else none
 |_=>none
def bfD:Bf->List D->Option S
 |.len,[x]=>(a11 x).map λl=>.d (.int l.length)
 |.tuple,[x]=>(a11 x).map λl=>.d (.tup l)
 |.list,[x]=>(a11 x).map λl=>.fr l
 |.all,[.lst l]=>(l.mapM asB).map λbs=>.d (.bl (bs.all id))
 |.sorted,[x]=>sortedS x
 |.sum,[x]=>((a11 x).bind r62).map λi=>.d (.int i)
 |.min,[.int i,.int j]=>some (.d (.int (if j < i then j else i)))
 |.max,[.int i,.int j]=>some (.d (.int (if j > i then j else i)))
 |.abs,[.int i]=>some (.d (.int (if i < 0 then -i else i)))
 |.int,[.bl b]=>some (.d (.int (if b then 1 else 0)))
 |.int,[.int i]=>some (.d (.int i))
 |.sset,[x]=>(a11 x).bind λl=>(C80 l).map λns=>.fr (((í 8).filter λi=>ns.contains i).map λ(n:Nat)=>.int n)
 |_,_=>none
def n61:D->D->Option D
 |.tup l,.int i=>atI l i
 |.lst l,.int i=>atI l i
 |_,_=>none
def cutD(l:List D)(lo hi:Option Int):List D:=(l.drop (HT.sIx l.length 0 lo)).take (HT.sIx l.length l.length hi - HT.sIx l.length 0 lo)
def slD:D->Option Int->Option Int->Option S
 |.tup l,lo,hi=>some (.d (.tup (cutD l lo hi)))
 |.lst l,lo,hi=>some (.fr (cutD l lo hi))
 |_,_,_=>none
def P42:D->Option S
 |.tup l=>some (.d (.tup l.reverse))
 |.lst l=>some (.fr l.reverse)
 |_=>none
def w31:List S->Option (Option Int)
 |[]=>some none
 |[.d (.int i)]=>some (some i)
 |_=>none
def w30:List D->Nat->List D
 |[],_=>[]
 |x::r,i=>.tup [.int i,x]::w30 r (i + 1)
def o00:List D->List D->List D
 |x::r,y::q=>.tup [x,y]::o00 r q
 |_,_=>[]
def inR:Int->Bool
 |.ofNat n=>Nat.blt n 100000
 |.negSucc n=>Nat.blt n 99999
÷G20:inR j=true↔-100000 < j/\j < 100000:=by
 cases j with
 |ofNat n=>show ble (n + 1) 100000=true↔_;rw[Nat.ble_eq];show _↔-100000 < (n:Int)/\(n:Int) < 100000;omega
 |negSucc n=>show ble (n + 1) 99999=true↔_;rw[Nat.ble_eq,Int.negSucc_eq];omega
def itD:It->List D->Option (List D)
 |.seq,[x]=>a11 x
 |.rng1,[.int j]=>if inR j=true then some ((í j.toNat).map λ(i:Nat)=>D.int i) else none
 |.rng2,[.int i,.int j]=>if inR i=true/\inR j=true then some ((í (j - i).toNat).map λ(k:Nat)=>D.int (i + k)) else none
 |.zip,[.tup a,.tup b]=>some (o00 a b)
 |.zip,[.lst a,.lst b]=>some (o00 a b)
 |.enum,[.tup a]=>some (w30 a 0)
 |.enum,[.lst a]=>some (w30 a 0)
 |_,_=>none
def lrS:Bool->List D->S
 |true,xs=>.d (.tup xs)
 |false,xs=>.fr xs
def lrN:Bool->Str
 |true=>"tuple"
 |false=>"list"
def lrD:List D->Option (List D)
 |[x]=>itD .rng1 [x]
 |l=>itD .rng2 l
mutual
noncomputable def f20:Pat->D->Env->Option Env
 |.v i=>λx ρ=>some (ρ.set i (some (.d x)))
 |.tup ps=>λx ρ=>match x with
  |.tup l=>bindL ps l ρ
  |_=>none
 |.nil=>λ_ _=>none
 |.cons _ _=>λ_ _=>none
noncomputable def bindL:Pat->List D->Env->Option Env
 |.nil=>λl ρ=>match l with
  |[]=>some ρ
  |_=>none
 |.cons p r=>λl ρ=>match l with
  |x::l=>(f20 p x ρ).bind λρ=>bindL r l ρ
  |_=>none
 |.v _=>λ_ _=>none
 |.tup _=>λ_ _=>none
end
def turns(f:D->M (Option D)):List D->M (List D)
 |[]=>M.ret []
 |x::r=>M.bind (f x) λo=>M.bind (turns f r) λl=>M.ret (match o with | some y=>y::l | none=>l)
def o20(fc fe:Env->M (List S))(p:Pat)(ρ0:Env)(x:D):M (Option D):=M.bind (M.of (f20 p x ρ0)) λρ'=>M.bind (fc ρ') λc=>match c with
 |[]=>M.bind (fe ρ') λy=>M.bind (M.of (pl y)) λy=>M.ret (some y)
 |[.d (.bl true)]=>M.bind (fe ρ') λy=>M.bind (M.of (pl y)) λy=>M.ret (some y)
 |[.d (.bl false)]=>M.ret none
 |_=>M.no
def w41(k:Nat):Option (Option S)->Z->Option (R (List S))
 |some (some .z),some p=>if k=0 then some (.ok [.d (.int p.1)] (some p)) else if k=1 then some (.ok [.d (.bl p.2)] (some p)) else none
 |_,_=>none
abbrev FT:=Bool->Nat->List S->M S
abbrev j70(F:FT):FT:=λ_=>F true
def N71(ρ:Env):List Nat->Option (List S)
 |[]=>some []
 |i::r=>match ρ[i]? with
  |some (some s)=>(N71 ρ r).map (s::·)
  |_=>none
def r72(o:Option (List S))(m:Env->M (List S)):M (List S):=λz=>match o with
 |none=>none
 |some ss=>match m (ss.map some) z with
  |some (.er c z1)=>if c < 12 then some (.ok [.fr [.int c]] z1) else none
  |_=>none
def ev:FT->Ex->Env->M (List S)
 |F,.nil=>λ_=>M.ret []
 |F,.cons a r=>λρ=>M.bind (ev F a ρ) λx=>M.bind (M.of (one x)) λs=>M.bind (ev F r ρ) λy=>M.ret (s::y)
 |F,.var i=>λρ=>match ρ[i]? with
  |some (some s)=>M.ret [plS s]
  |_=>M.no
 |F,.con x=>λ_=>M.ret [.d x]
 |F,.gint _ i=>λ_=>M.ret [.d (.int i)]
 |F,.tup as=>λρ=>M.bind (ev F as ρ) λl=>M.bind (M.of (plA l)) λds=>if ds.length<=most then M.ret [.d (.tup ds)] else M.no
 |F,.lst as=>λρ=>M.bind (ev F as ρ) λl=>M.bind (M.of (plA l)) λds=>if ds.length<=most then M.ret [.fr ds] else M.no
 |F,.bin o a b=>λρ=>M.bind (ev F a ρ) λx=>M.bind (M.of (pl x)) λx=>M.bind (ev F b ρ) λy=>M.bind (M.of (pl y)) λy=>M.bind (M.of (z60 o x y)) λs=>M.ret [s]
 |F,.cmp o a b=>λρ=>M.bind (ev F a ρ) λx=>M.bind (M.of (pl x)) λx=>M.bind (ev F b ρ) λy=>M.bind (M.of (pl y)) λy=>M.bind (M.of (A20 o x y)) λb=>M.ret [.d (.bl b)]
 |F,.neg a=>λρ=>M.bind (ev F a ρ) λx=>M.bind (M.of ((pl x).bind asI)) λi=>M.ret [.d (.int (-i))]
 |F,.not a=>λρ=>M.bind (ev F a ρ) λx=>M.bind (M.of ((pl x).bind asB)) λb=>M.ret [.d (.bl !b)]
 |F,.and a b=>λρ=>M.bind (ev F a ρ) λx=>M.bind (M.of ((pl x).bind asB)) λc=>if c then M.bind (ev F b ρ) λy=>M.bind (M.of ((pl y).bind asB)) λc=>M.ret [.d (.bl c)] else M.ret [.d (.bl false)]
 |F,.or a b=>λρ=>M.bind (ev F a ρ) λx=>M.bind (M.of ((pl x).bind asB)) λc=>if c then M.ret [.d (.bl true)] else M.bind (ev F b ρ) λy=>M.bind (M.of ((pl y).bind asB)) λc=>M.ret [.d (.bl c)]
 |F,.orT a b=>λρ=>M.calm (M.bind (ev F a ρ) λx=>M.bind (M.of ((pl x).bind r52)) λl=>if l.isEmpty then M.bind (ev F b ρ) λy=>M.bind (M.of ((pl y).bind r52)) λl=>M.ret [.d (.tup l)] else M.ret [.d (.tup l)])
 |F,.ite c a b=>λρ=>M.bind (ev F c ρ) λx=>M.bind (M.of ((pl x).bind asB)) λc=>if c then ev F a ρ else ev F b ρ
 |F,.ch o o' a b c=>λρ=>M.bind (ev F a ρ) λx=>M.bind (M.of (pl x)) λx=>M.bind (ev F b ρ) λy=>M.bind (M.of (pl y)) λy=>M.bind (M.of (A20 o x y)) λk =>
   if k then M.bind (ev F c ρ) λw=>M.bind (M.of (pl w)) λw=>M.bind (M.of (A20 o' y w)) λk=>M.ret [.d (.bl k)] else M.ret [.d (.bl false)]
 |F,.bf f as=>λρ=>M.bind (ev F as ρ) λl=>M.bind (M.of (plA l)) λds=>M.bind (M.of (bfD f ds)) λs=>M.ret [s]
 |F,.isi t a=>λρ=>M.bind (ev F a ρ) λx=>M.bind (M.of (pl x)) λx=>M.ret [.d (.bl (U61 t x))]
 |F,.idx a i=>λρ=>M.bind (ev F a ρ) λx=>M.bind (M.of (pl x)) λx=>M.bind (ev F i ρ) λy=>M.bind (M.of (pl y)) λy=>M.bind (M.of (n61 x y)) λr=>M.ret [.d r]
 |F,.sl a lo hi=>λρ=>M.bind (ev F a ρ) λx=>M.bind (M.of (pl x)) λx=>M.bind (ev F lo ρ) λu=>M.bind (M.of (w31 u)) λu=>M.bind (ev F hi ρ) λv=>M.bind (M.of (w31 v)) λv=>M.bind (M.of (slD x u v)) λs=>M.ret [s]
 |F,.rev a=>λρ=>M.bind (ev F a ρ) λx=>M.bind (M.of ((pl x).bind P42)) λs=>M.ret [s]
 |F,.call f as=>λρ=>M.bind (ev F as ρ) λl=>M.bind (F false f (l.map plS)) λs=>M.ret [s]
 |F,.comp own capt p it src cond el=>λρ=>M.bind (ev F src ρ) λl=>M.bind (M.of ((plA l).bind (itD it))) λxs=>if xs.length<=most then M.bind (M.calm (turns (o20 (ev F cond) (ev F el) p (î own none++capt.map λi=>(ρ[i]?).getD none)) xs)) λys=>M.ret [.fr ys] else M.no
 |F,.zget i k=>λρ z=>w41 k ρ[i]? z
 |F,.lrng b as=>λρ=>M.bind (ev F as ρ) λl=>M.bind (M.of ((plA l).bind lrD)) λxs=>M.ret [lrS b xs]
 |F,.refd capt a=>λρ=>r72 (N71 ρ capt) λρ'=>ev (j70 F) a ρ'
def S60(ρ:Env):Env:=ρ.map λo=>match o with
 |some .z=>none
 |o=>o
inductive Sm where
 |nil | seq (s r:Sm)
 |set (p:Pat) (e:Ex) | ret (e:Ex) | iff (c:Ex) (t e:Sm)
 |fr (p:Pat) (it:It) (src:Ex) (b:Sm) | whl (c:Ex) (b:Sm)
 |rais (c:Nat) | exp (e:Ex)
 |app (i:Nat) (e:Ex) | augi (i:Nat) (x e:Ex)
 |newz (i:Nat) (f:Nat) (as:Ex) | zset (i:Nat) (e:Ex) | apop (i j:Nat) (e:Ex)
inductive O where
 |nx (ρ:Env) | rt (s:S)
mutual
noncomputable def bare:D->Bool
 |.lst _=>false
 |.tup l=>o30 l
 |.dct=>false
 |_=>true
noncomputable def o30:List D->Bool
 |[]=>true
 |x::r=>bare x&&o30 r
end
def S70:S->Bool
 |.d x=>bare x
 |.fr xs=>o30 xs
 |.z=>true
def a21(ρ:Env):Env:=ρ.map λo=>o.map plS
def S80(b:Bool):Option S->Option S
 |some (.fr xs)=>some (if b then .fr xs else .d (.lst xs))
 |o=>o
÷S90(b:Bool)(ρ:Env):ρ.map (S80 b)=if b then ρ else a21 ρ:=by
 have h:∀ o:Option S,S80 b o=if b then o else o.map plS:=λo=>by
  match o with
  |some (.fr xs)=>cases b <;> rfl
  |some (.d _)=>cases b <;> rfl
  |some .z=>cases b <;> rfl
  |none=>cases b <;> rfl
 rw[show S80 b=λo=>if b then o else o.map plS from funext h]
 cases b with
 |true=>§map_id ρ
 |false=>rfl
def l00(s:S)(ρ:Env):Env:=ρ.map (S80 (S70 s))
def T00:Pat->S->Env->Option Env
 |p,.d x,ρ=>f20 p x ρ
 |.v i,s,ρ=>if i < ρ.length then some (ρ.set i (some s)) else none
 |_,_,_=>none
def Y00(f:D->Env->M O):List D->Env->M O
 |[],ρ=>M.ret (.nx ρ)
 |x::r,ρ=>M.bind (f x ρ) λo=>match o with
  |.nx ρ=>Y00 f r ρ
  |.rt s=>M.ret (.rt s)
def U71(c:Env->M (List S))(f:Env->M O):Nat->Env->M O
 |0,_=>M.no
 |n + 1,ρ=>M.bind (c ρ) λx=>M.bind (M.of ((pl x).bind asB)) λk=>if k then M.bind (f ρ) λo=>match o with
  |.nx ρ=>U71 c f n ρ
  |.rt s=>M.ret (.rt s)
  else M.ret (.nx ρ)
def ownAt(ρ:Env)(i:Nat):Option (List D):=match ρ[i]? with
 |some (some (.fr xs))=>some xs
 |_=>none
def H00(xs:List D)(i:Int)(y:D):Option (List D):=(ixN xs.length i).map λj=>xs.set j y
def d32:D->Bool
 |.tup l=>o30 l
 |.lst l=>o30 l
 |_=>true
def T10(l:List S):Bool:=match plA l with
 |some ds=>ds.all d32
 |none=>false
def noS:S->Option S
 |.z=>none
 |s=>some s
def d42:(it:It)->(e:Ex)->Option {i:Nat // it=.seq/\e=.cons (.var i) .nil}
 |.seq,.cons (.var i) .nil=>some ⟨i,rfl,rfl⟩
 |_,_=>none
def n71:List S->Bool
 |[]=>false
 |.d (.lst _)::_=>true
 |_::r=>n71 r
def T20(it:It)(e:Ex)(l:List S)(ρ:Env):Env:=match d42 it e with
 |some i=>ρ.set i.1 ((ρ[i.1]?.getD none).map plS)
 |none=>match n71 l with
  |true=>a21 ρ
  |false=>ρ
def w51(it:It)(e:Ex)(l:List S)(ρ:Env):Env:=(T20 it e l ρ).map (S80 (T10 l))
abbrev l12:Nat:=20000
def d52(ρ:Env)(i j:Nat)(xs ys:List D)(k:Int):Option O :=
 if i≠j/\0<=k/\inR k=true/\xs.length < most then(ys[k.toNat]?).bind λy=>if bare y=true then some (.nx ((ρ.set j (some (.fr (ys.eraseIdx k.toNat)))).set i (some (.fr (xs++[y]))))) else none else none
def r82(F:FT)(i j:Nat)(e:Ex):Env->M O:=λρ=>M.bind (M.of (ownAt ρ i)) λxs=>M.bind (M.of (ownAt ρ j)) λys=>M.bind (ev F e ρ) λl=>M.bind (M.of ((pl l).bind asI)) λk=>M.bind (M.of (d52 ρ i j xs ys k)) λo=>M.ret o
def w61(tp:Bool)(ρ:Env)(i:Nat):List S->Option (R O)
 |[.fr [.int n,.bl b]]=>if tp then some (.ok (.nx ((S60 ρ).set i (some .z))) (some (n,b))) else none
 |_=>none
def w71(ρ:Env)(v:Int):Option (Option S)->Z->Option (R O)
 |some (some .z),some p=>some (.ok (.nx ρ) (some (v,p.2)))
 |_,_=>none
def ex(F:FT)(tp:Bool):Sm->Env->M O
 |.nil=>λρ=>M.ret (.nx ρ)
 |.seq s r=>λρ=>M.bind (ex F tp s ρ) λo=>match o with
  |.nx ρ=>ex F tp r ρ
  |.rt s=>M.ret (.rt s)
 |.set p e=>λρ=>M.bind (ev F e ρ) λl=>M.bind (M.of (one l)) λs=>M.bind (M.of (T00 p s (l00 s ρ))) λρ=>M.ret (.nx ρ)
 |.ret e=>λρ=>match e with
  |.var i=>(match ρ[i]? with
   |some (some s)=>M.bind (M.of (noS s)) λs=>M.ret (.rt s)
   |_=>M.no)
  |e=>M.bind (ev F e ρ) λl=>M.bind (M.of ((one l).bind noS)) λs=>M.ret (.rt s)
 |.iff c t e=>λρ=>M.bind (ev F c ρ) λx=>M.bind (M.of ((pl x).bind asB)) λc=>if c then ex F tp t ρ else ex F tp e ρ
 |.fr p it src b=>λρ=>M.bind (ev F src ρ) λl=>M.bind (M.of ((plA l).bind (itD it))) λxs=>Y00 (λx ρ=>M.bind (M.of (f20 p x ρ)) λρ=>ex F tp b ρ) xs (w51 it src l ρ)
 |.whl c b=>λρ=>U71 (ev F c) (ex F tp b) l12 ρ
 |.rais c=>λ_ z=>some (.er c z)
 |.exp e=>λρ=>M.bind (ev F e ρ) λl=>M.bind (M.of (one l)) λ_=>M.ret (.nx ρ)
 |.app i e=>λρ=>M.bind (M.of (ownAt ρ i)) λxs=>M.bind (ev F e ρ) λl=>M.bind (M.of (pl l)) λx=>if bare x=true/\xs.length < most then M.ret (.nx (ρ.set i (some (.fr (xs++[x]))))) else M.no
 |.augi i ix e=>λρ=>M.bind (M.of (ownAt ρ i)) λxs=>M.bind (ev F ix ρ) λj=>M.bind (M.of ((pl j).bind asI)) λj=>M.bind (M.of (atI xs j)) λy=>M.bind (ev F e ρ) λl=>M.bind (M.of (pl l)) λx =>
   M.bind (M.of ((asI x).bind λx=>(asI y).map λy=>D.int (y + x))) λv=>M.bind (M.of (H00 xs j v)) λxs=>M.ret (.nx (ρ.set i (some (.fr xs))))
 |.newz i f as=>λρ=>M.bind (ev F (.call f as) ρ) λl=>λ_=>w61 tp ρ i l
 |.zset i e=>λρ=>M.bind (ev F e ρ) λl=>M.bind (M.of ((pl l).bind asI)) λv=>λz=>w71 ρ v ρ[i]? z
 |.apop i j e=>λρ=>r82 F i j e ρ
inductive Df where
 |code (ps ns:Nat) (b:Sm) | prim (f:List S->M S)
def L60:Z->Z->Z
 |none,_=>none
 |some _,z=>z
def start(ns:Nat)(l:List S):Env:=l.map some++î (ns - l.length) none
def run(F:FT):Df->List S->M S
 |.code ps ns b,l=>λz=>if l.length=ps/\ps<=ns then(match ex F z.isNone b (start ns (l.map plS)) z with
  |some (.ok (.nx _) z1)=>some (.ok (.d .non) (L60 z z1))
  |some (.ok (.rt s) z1)=>some (.ok s (L60 z z1))
  |some (.er c z1)=>some (.er c (L60 z z1))
  |none=>none) else none
 |.prim f,l=>f l
def b40(T:List Df):Nat->Nat->List S->M S
 |k + 3,f,l=>match T[f]? with
  |some d=>run (λb g m=>match b with | true=>b40 T k g m | false=>b40 T (k + 2) g m) d l
  |none=>M.no
 |_,_,_=>M.no
abbrev T30(T:List Df)(k:Nat):FT:=λb g m=>match b with | true=>b40 T (k - 2) g m | false=>b40 T k g m
÷a31(T:List Df)(k f:Nat)(l:List S):b40 T (k + 3) f l=match T[f]? with
  |some d=>run (T30 T (k + 2)) d l
  |none=>M.no:=rfl
end Q
namespace Q
open PySem L2 PySem.Spec PyProof.Rows
def p90(K:Â)(H:Hp)(a:Ç)(xs:List V):Prop:=Rd H a (.lst xs)∨∃ (its:Array Ä) (n:Nat),K.lookup a=some { cls:=.type "list",data:=.seq its n }/\its.size<=Û/\Vals xs its.toList
÷p90.of{K:Â}{H:Hp}{a:Ç}{xs:List V}(h:H a=some (.lst xs)):p90 K H a xs:=.inl (.inl h)
÷p90.sq{K:Â}{H:Hp}{a:Ç}{xs:List V}(h:p90 K H a xs):SqL K H a xs:=by
 rcases h with h | ⟨its,n,h1,h2,h3⟩
 ·§.inl h
 ·§.inr ⟨_,its,n,h1,rfl,rfl,rfl,h2,h3⟩
÷p90.same{K:Â}{H H':Hp}{a:Ç}{xs:List V}(h:p90 K H a xs)(e:a30 H H'):p90 K H' a xs:=by
 rcases h with (h | ⟨o,h⟩) | h
 ·§.inl (.inl (e _ _ h))
 ·§.inl (.inr ⟨o,e _ _ h⟩)
 ·§.inr h
÷p90.mem(I:Inv X pins σ H s)(h:p90 X.K H a xs):xs.length<=Û/\∃ (its:List Ä) (n:Nat),Vals xs its/\xs.length=its.length/\s.heap.get? a=some { cls:=.type "list",data:=.seq its.toArray n }:=by
 rcases h with (h | ⟨o,h⟩) | ⟨its,n,h1,h2,h3⟩
 ·§I.p32 h
 ·¶⟨e,z,its,n,r,e2⟩:=I.hok a _ h
  §⟨z,its,n,r,r.length,e2⟩
 ·¤⟨by rw[h3.length,Ê5];§h2,its.toList,n,h3,h3.length,?_⟩
  have:=I.kIn a _ h1
  rw[Ð1];§this
mutual
def Hd(K:Â)(H:Hp):D->V->Prop
 |.non,v=>v=.non
 |.bl b,v=>v=.bl b
 |.int i,v=>v=.int i
 |.str x,v=>v=.str x
 |.tup ds,v=>∃ a xs,v=.ref a/\SqT K H a xs/\HdA K H ds xs
 |.lst ds,v=>∃ a xs,v=.ref a/\p90 K H a xs/\HdA K H ds xs
 |.dct,v=>∃ a kvs,v=.ref a/\H a=some (.dK kvs)
def HdA(K:Â)(H:Hp):List D->List V->Prop
 |[],xs=>xs=[]
 |d::ds,xs=>∃ x r,xs=x::r/\Hd K H d x/\HdA K H ds r
end
section
variable {K:Â}{H H':Hp}
mutual
theorem Hd.same(e:a30 H H'):∀ {d:D}{v:V},Hd K H d v->Hd K H' d v
 |.non,_,h=>by unfold Hd at h ⊢;§h
 |.bl _,_,h=>by unfold Hd at h ⊢;§h
 |.int _,_,h=>by unfold Hd at h ⊢;§h
 |.str _,_,h=>by unfold Hd at h ⊢;§h
 |.tup ds,_,h=>by
  unfold Hd at h ⊢
  ¶⟨a,xs,rfl,h1,h2⟩:=h
  §⟨a,xs,rfl,e.sqT h1,HdA.same e h2⟩
 |.lst ds,_,h=>by
  unfold Hd at h ⊢
  ¶⟨a,xs,rfl,h1,h2⟩:=h
  §⟨a,xs,rfl,h1.same e,HdA.same e h2⟩
 |.dct,_,h=>by
  unfold Hd at h ⊢
  ¶⟨a,kvs,rfl,h1⟩:=h
  §⟨a,kvs,rfl,e _ _ h1⟩
theorem HdA.same(e:a30 H H'):∀ {ds:List D}{xs:List V},HdA K H ds xs->HdA K H' ds xs
 |[],_,h=>by unfold HdA at h ⊢;§h
 |d::ds,_,h=>by
  unfold HdA at h ⊢
  ¶⟨x,r,rfl,h1,h2⟩:=h
  §⟨x,r,rfl,Hd.same e h1,HdA.same e h2⟩
end
mutual
theorem Hd.has:∀ {d:D}{v:V},Hd K H d v->Has K H d v
 |.non,_,h=>by unfold Hd at h;unfold Has;§h
 |.bl _,_,h=>by unfold Hd at h;unfold Has;§h
 |.int _,_,h=>by unfold Hd at h;unfold Has;§h
 |.str _,_,h=>by unfold Hd at h;unfold Has;§h
 |.tup ds,_,h=>by
  unfold Hd at h;unfold Has
  ¶⟨a,xs,rfl,h1,h2⟩:=h
  §⟨a,xs,rfl,h1,HdA.has h2⟩
 |.lst ds,_,h=>by
  unfold Hd at h;unfold Has
  ¶⟨a,xs,rfl,h1,h2⟩:=h
  §⟨a,xs,rfl,h1.sq,HdA.has h2⟩
 |.dct,_,h=>by unfold Hd at h;unfold Has;§h
theorem HdA.has:∀ {ds:List D}{xs:List V},HdA K H ds xs->G60 K H ds xs
 |[],_,h=>by unfold HdA at h;unfold G60;§h
 |d::ds,_,h=>by
  unfold HdA at h;unfold G60
  ¶⟨x,r,rfl,h1,h2⟩:=h
  §⟨x,r,rfl,Hd.has h1,HdA.has h2⟩
end
÷HdA.nil:HdA K H [] []:=by unfold HdA;rfl
÷HdA.cons(h:Hd K H d x)(r:HdA K H ds xs):HdA K H (d::ds) (x::xs):=by unfold HdA;§⟨x,xs,rfl,h,r⟩
÷HdA.c40(h:HdA K H (d::ds) xs):∃ x r,xs=x::r/\Hd K H d x/\HdA K H ds r:=by unfold HdA at h;§h
÷HdA.f30(h:HdA K H [] xs):xs=[]:=by unfold HdA at h;§h
÷HdA.length:∀ {ds:List D}{xs:List V},HdA K H ds xs->xs.length=ds.length
 |[],_,h=>by rw[h.f30];rfl
 |d::ds,_,h=>by
  ¶⟨x,r,rfl,_,h2⟩:=h.c40
  simp[h2.length]
÷HdA.get:∀ {ds:List D}{xs:List V}{i:Nat}{d:D},HdA K H ds xs->ds[i]?=some d->∃ x,xs[i]?=some x/\Hd K H d x
 |[],_,_,_,_,e=>by simp at e
 |d::ds,_,i,d',h,e=>by
  ¶⟨y,r,rfl,h1,h2⟩:=h.c40
  cases i with
  |zero=>simp at e;subst e;§⟨y,rfl,h1⟩
  |succ i =>
   ¶⟨x',e1,e2⟩:=HdA.get (i:=i) h2 (by simpa using e)
   §⟨x',by simpa using e1,e2⟩
÷HdA.append:∀ {ds es:List D}{xs ys:List V},HdA K H ds xs->HdA K H es ys->HdA K H (ds++es) (xs++ys)
 |[],_,_,_,h,g=>by rw[h.f30];§g
 |d::ds,_,_,_,h,g=>by
  ¶⟨x,r,rfl,h1,h2⟩:=h.c40
  §.cons h1 (HdA.append h2 g)
÷HdA.take:∀ {ds:List D}{xs:List V} (n:Nat),HdA K H ds xs->HdA K H (ds.take n) (xs.take n)
 |ds,xs,0,_=>by simp;§.nil
 |[],_,n + 1,h=>by rw[h.f30];simp;§.nil
 |d::ds,_,n + 1,h=>by
  ¶⟨x,r,rfl,h1,h2⟩:=h.c40
  §.cons h1 (HdA.take n h2)
÷HdA.drop:∀ {ds:List D}{xs:List V} (n:Nat),HdA K H ds xs->HdA K H (ds.drop n) (xs.drop n)
 |ds,xs,0,h=>by simpa using h
 |[],_,n + 1,h=>by rw[h.f30];simp;§.nil
 |d::ds,_,n + 1,h=>by
  ¶⟨x,r,rfl,h1,h2⟩:=h.c40
  §HdA.drop n h2
÷HdA.reverse:∀ {ds:List D}{xs:List V},HdA K H ds xs->HdA K H ds.reverse xs.reverse
 |[],_,h=>by rw[h.f30];simp;§.nil
 |d::ds,_,h=>by
  ¶⟨x,r,rfl,h1,h2⟩:=h.c40
  rw[Ô6,Ô6]
  §(HdA.reverse h2).append (.cons h1 .nil)
÷HdA.rep(h:HdA K H ds xs):∀ n:Nat,HdA K H (î n ds).flatten (î n xs).flatten
 |0=>by simp;§.nil
 |n + 1=>by rw[Å5,Å5,É6,É6];§h.append (h.rep n)
÷HdA.set:∀ {ds:List D}{xs:List V}{d:D}{x:V} (i:Nat),HdA K H ds xs->Hd K H d x->HdA K H (ds.set i d) (xs.set i x)
 |[],_,_,_,_,h,_=>by rw[h.f30];simp;§.nil
 |e::ds,_,d,x,i,h,g=>by
  ¶⟨y,r,rfl,h1,h2⟩:=h.c40
  cases i with
  |zero=>§.cons g h2
  |succ i=>§.cons h1 (HdA.set i h2 g)
÷HdA.ints:∀ ns:List Int,HdA K H (ns.map D.int) (ns.map V.int)
 |[]=>.nil
 |n::r=>.cons (by unfold Hd;rfl) (HdA.ints r)
÷Hd.i20(h:Hd K H (.int i) v):v=.int i:=by unfold Hd at h;§h
÷Hd.bl_(h:Hd K H (.bl b) v):v=.bl b:=by unfold Hd at h;§h
÷Hd.C12(h:Hd K H .non v):v=.non:=by unfold Hd at h;§h
÷Hd.H02{x:Str}{v:V}(h:Hd K H (.str x) v):v=.str x:=by unfold Hd at h;§h
÷Hd.z70(h:Hd K H (.tup ds) v):∃ a xs,v=.ref a/\SqT K H a xs/\HdA K H ds xs:=by unfold Hd at h;§h
÷Hd.Y10(h:Hd K H (.lst ds) v):∃ a xs,v=.ref a/\p90 K H a xs/\HdA K H ds xs:=by unfold Hd at h;§h
÷Hd.int:Hd K H (.int i) (.int i):=by unfold Hd;rfl
÷Hd.bl:Hd K H (.bl b) (.bl b):=by unfold Hd;rfl
÷Hd.non:Hd K H .non .non:=by unfold Hd;rfl
÷Hd.str{x:Str}:Hd K H (.str x) (.str x):=by unfold Hd;rfl
÷Hd.tup(h:SqT K H a xs)(r:HdA K H ds xs):Hd K H (.tup ds) (.ref a):=by unfold Hd;§⟨a,xs,rfl,h,r⟩
÷Hd.lst(h:H a=some (.lst xs))(r:HdA K H ds xs):Hd K H (.lst ds) (.ref a):=by unfold Hd;§⟨a,xs,rfl,p90.of h,r⟩
end
def noT(H:Hp):Hp:=λb=>match H b with
 |some (.tbl _)=>none
 |o=>o
÷T40(h:noT H b=some o):H b=some o/\∀ ps,o≠.tbl ps:=by
 unfold noT at h
 split at h
 ·cases h
 ·rename_i n
  §⟨h,λps e=>n ps (by rw[h,e])⟩
÷a41(h:H b=some o)(n:∀ ps,o≠.tbl ps):noT H b=some o:=by
 unfold noT
 split
 ·rename_i ps e
  rw[h] at e
  cases e
  §absurd rfl (n ps)
 ·§h
÷A30(H:Hp):a30 (noT H) H:=λ_ _ h=>(T40 h).1
÷f91(e:a30 H H'):a30 (noT H) (noT H'):=λb o h=>a41 (e b o (T40 h).1) (T40 h).2
def hz(zA:Option Ç)(H:Hp):Hp:=match zA with
 |some a=>hide a (noT H)
 |none=>noT H
class Tb where
 tb:List (Addr × Str)
variable [TB:Tb]
def zAt(zA:Option Ç)(z:Z)(H:Hp):Prop:=match zA,z with
 |some a,some (n,b)=>H a=some (.lst [.int n,.bl b])
 |none,none=>True
 |_,_=>False
structure e40(zA:Option Addr)(z:Z)(H:Hp):Prop where
 zat:zAt zA z H
 tab:∀ p∈TB.tb,Tab H p.1 p.2
÷a20(zA:Option Ç)(H:Hp):a30 (hz zA H) H:=by
 cases zA with
 |none=>§A30 H
 |some a=>§a30.trans (f10 a _) (A30 H)
÷k40(e:a30 H H'):a30 (hz zA H) (hz zA H'):=by
 cases zA with
 |none=>§f91 e
 |some a=>§C00 λb o _ h=>f91 e b o h
÷e10(h:H b=some o)(n:zA≠some b)(ht:∀ ps,o≠.tbl ps:=by §λ_ h=>nomatch h):hz zA H b=some o:=by
 cases zA with
 |none=>§a41 h ht
 |some a=>§K70 (a41 h ht) λe=>n (by rw[e])
÷q60(h:hz zA H b=some o):H b=some o/\zA≠some b:=by
 cases zA with
 |none=>§⟨A30 H b o h,λe=>nomatch e⟩
 |some a =>
  ¤⟨A30 H b o (f10 a _ b o h),λe=>?_⟩
  cases e
  have:hide b (noT H) b=some o:=h
  unfold hide at this
  rw[if_pos rfl] at this;cases this
÷r40(h:hz zA H b=some o):∀ ps,o≠.tbl ps:=by
 cases zA with
 |none=>§(T40 h).2
 |some a=>§(T40 (f10 a _ b o h)).2
structure Ext(zA:Option Addr)(H H':Hp):Prop where
 same:a30 (hz zA H) (hz zA H')
 tbl:∀ b ps,H b=some (.tbl ps)->∃ qs,H' b=some (.tbl qs)
instance {zA:Option Ç}{H H':Hp}:CoeFun (Ext zA H H') (λ_=>∀ b o,hz zA H b=some o->hz zA H' b=some o):=⟨λx=>x.same⟩
instance {zA:Option Ç}{H H':Hp}:CoeOut (Ext zA H H') (a30 (hz zA H) (hz zA H')):=⟨λx=>x.same⟩
÷Ext.refl:Ext zA H H:=⟨a30.refl _,λb ps h=>⟨ps,h⟩⟩
÷Ext.trans(a:Ext zA H H1)(b:Ext zA H1 H2):Ext zA H H2:=⟨a30.trans a.same b.same,λc ps h=>let ⟨qs,h1⟩:=a.tbl c ps h;b.tbl c qs h1⟩
÷Ext.of(e:a30 H H'):Ext zA H H':=⟨k40 e,λb ps h=>⟨ps,e b _ h⟩⟩
÷Ext.at(e:Ext zA H H')(h:H a=some o)(n:zA≠some a)(ht:∀ ps,o≠.tbl ps:=by §λ_ h=>nomatch h):H' a=some o:=(q60 (e.same a o (e10 h n ht))).1
÷Ext.free(e:Ext zA H H')(h:H' a=none)(n:zA≠some a):H a=none:=by
 cases q:H a with
 |none=>rfl
 |some o =>
  by_cases ht:∃ ps,o=.tbl ps
  ·¶⟨ps,rfl⟩:=ht
   ¶⟨qs,q'⟩:=e.tbl a ps q
   rw[q'] at h;cases h
  ·rw[e.at q n λps z=>ht ⟨ps,z⟩] at h;cases h
÷zAt.same(h:zAt zA z H)(e:a30 H H'):zAt zA z H':=by
 cases zA with
 |none=>cases z with
  |none=>trivial
  |some _=>§h.elim
 |some a=>cases z with
  |none=>§h.elim
  |some p=>§e _ _ h
÷e40.same(h:e40 zA z H)(e:a30 H H'):e40 zA z H':=⟨h.zat.same e,λp hp=>(h.tab p hp).same e⟩
÷Tab.upd{H:Hp}{P a:Ç}{q:Str}{xs:List V}{o:HO}(t:Tab H P q)(h:H a=some (.lst xs)):Tab (upd H a o) P q:=by
 ¶⟨ps,e,tr,k⟩:=t
 have ne:∀ {b:Ç}{u:HO},H b=some u->(∀ l,u≠.lst l)->b≠a:=λ{b u} e1 e2 z=>by
  subst z
  rw[h] at e1
  cases e1
  §e2 _ rfl
 ¤⟨ps,by rw[a60 (ne e λ_ z=>nomatch z)];§e,tr,λpos c hc=>?_⟩
 ¶⟨c',e1,e2⟩:=k pos c hc
 §⟨c',e1,by rw[a60 (ne e2 λ_ z=>nomatch z)];§e2⟩
÷e40.d62{K:Â}{zA:Option Ç}{z:Z}{H:Hp}(h:e40 zA z H){a:Ç}{xs:List V}(t:SqT K H a xs):SqT K (hz zA H) a xs:=by
 have h:=h.zat
 rcases t with (t | ⟨o,t⟩) | t
 ·¤.inl (.inl (e10 t λe=>?_))
  subst e
  cases z with
  |none=>§h.elim
  |some p =>
   have h':H a=some (.lst [.int p.1,.bl p.2]):=h
   rw[t] at h';cases h'
 ·¤.inl (.inr ⟨o,e10 t λe=>?_⟩)
  subst e
  cases z with
  |none=>§h.elim
  |some p =>
   have h':H a=some (.lst [.int p.1,.bl p.2]):=h
   rw[t] at h';cases h'
 ·§.inr t
÷e40.w81(h:e40 zA z H)(n:H a=none):zA≠some a:=λe=>by
 have h:=h.zat
 subst e
 cases z with
 |none=>§h.elim
 |some p =>
  have h':H a=some (.lst [.int p.1,.bl p.2]):=h
  rw[n] at h';cases h'
def RvS(K:Â)(zA:Option Ç)(H0 H:Hp):S->V->Prop
 |.d x,v=>Hd K (hz zA H) x v
 |.fr xs,v=>∃ a ys,v=.ref a/\H0 a=none/\zA≠some a/\H a=some (.lst ys)/\HdA K (hide a (hz zA H)) xs ys
 |.z,v=>∃ a,zA=some a/\v=.ref a
def RvP(K:Â)(zA:Option Ç)(H:Hp):S->V->Prop
 |.d x,v=>Hd K (hz zA H) x v
 |.fr xs,v=>Hd K (hz zA H) (.lst xs) v
 |.z,v=>∃ a,zA=some a/\v=.ref a
section
variable {K:Â}{zA:Option Ç}{H0 H H':Hp}
÷RvS.pl{s:S}{v:V}(h:RvS K zA H0 H s v):RvP K zA H s v:=by
 cases s with
 |d x=>§h
 |z=>§h
 |fr xs =>
  ¶⟨a,ys,rfl,_,h2,h3,h4⟩:=h
  §Hd.lst (e10 h3 h2) (h4.same (f10 a _))
÷RvP.plS{s:S}{v:V}(h:RvP K zA H s v):RvP K zA H (plS s) v:=by cases s <;> §h
÷RvP.mono{s:S}{v:V}(h:RvP K zA H s v)(e:Ext zA H H'):RvP K zA H' s v:=by
 cases s with
 |d x=>§Hd.same e h
 |z=>§h
 |fr xs=>§Hd.same e h
÷RvS.mono{s:S}{v:V}(h:RvS K zA H0 H s v)(e:Ext zA H H'):RvS K zA H0 H' s v:=by
 cases s with
 |d x=>§Hd.same e h
 |z=>§h
 |fr xs =>
  ¶⟨a,ys,rfl,h1,h2,h3,h4⟩:=h
  §⟨a,ys,rfl,h1,h2,e.at h3 h2,h4.same (C00 λb o _ q=>e b o q)⟩
÷RvS.from{H1:Hp}{s:S}{v:V}(h:RvS K zA H1 H s v)(e:Ext zA H0 H1):RvS K zA H0 H s v:=by
 cases s with
 |d x=>§h
 |z=>§h
 |fr xs =>
  ¶⟨a,ys,rfl,h1,h2,h3⟩:=h
  §⟨a,ys,rfl,e.free h1 h2,h2,h3⟩
÷RvP.d_{s:S}{v:V}{x:D}(h:RvP K zA H s v)(e:plD s=some x):Hd K (hz zA H) x v:=by
 cases s with
 |d y=>cases e;§h
 |fr xs=>cases e;§h
 |z=>cases e
end
abbrev RvA(K:Â)(zA:Option Ç)(H:Hp):List S->List V->Prop:=Æ0 (RvP K zA H)
÷RvA.mono{K:Â}{zA:Option Ç}{H H':Hp}{l:List S}{vs:List V}(h:RvA K zA H l vs)(e:Ext zA H H'):RvA K zA H' l vs:=Æ0.k92 h λ_ _ q=>q.mono e
÷RvA.plS{K:Â}{zA:Option Ç}{H:Hp}:∀ {l:List S}{vs:List V},RvA K zA H l vs->RvA K zA H (l.map plS) vs
 |_,_,.nil=>.nil
 |_,_,.cons r t=>.cons r.plS (RvA.plS t)
÷RvA.ds{K:Â}{zA:Option Ç}{H:Hp}:∀ {l:List S}{vs:List V}{ds:List D},RvA K zA H l vs->plA l=some ds->HdA K (hz zA H) ds vs
 |_,_,_,.nil,e=>by cases e;§.nil
 |.d x::r,_,_,.cons h t,e=>by
  simp only[plA,Õ0] at e
  ¶⟨l,e,rfl⟩:=e
  §.cons h (RvA.ds t e)
 |.fr x::r,_,_,.cons h t,e=>by
  simp only[plA,Õ0] at e
  ¶⟨l,e,rfl⟩:=e
  §.cons h (RvA.ds t e)
 |.z::r,_,_,.cons h t,e=>by simp[plA] at e
÷f40(h:pl l=some x):∃ s,l=[s]/\plD s=some x:=by
 unfold pl at h
 split at h
 ·§⟨_,rfl,h⟩
 ·§⟨_,rfl,h⟩
 ·cases h
÷M.bind_some{α β:Type}{m:M α}{f:α->M β}{z:Z}{r:R β}(h:M.bind m f z=some r):(∃ a z1,m z=some (.ok a z1)/\f a z1=some r)∨(∃ c z1,m z=some (.er c z1)/\r=.er c z1):=by
 unfold M.bind at h
 split at h
 ·§.inl ⟨_,_,by assumption,h⟩
 ·cases h;§.inr ⟨_,_,by assumption,rfl⟩
 ·cases h
÷M.a10{α β:Type}{o:Option α}{f:α->M β}{z:Z}{r:R β}(h:M.bind (M.of o) f z=some r):∃ a,o=some a/\f a z=some r:=by
 cases o with
 |none=>cases h
 |some a=>§⟨a,rfl,h⟩
end Q
set_option exponentiation.threshold 5000
namespace Q
open PySem L2 PySem.Spec PyProof.Rows
variable [TB:Tb]
section
variable {K:Â}{zA:Option Ç}{z:Z}{H:Hp}
÷N81(hp:H p=none):a30 (hz zA H) (hide p (hz zA (upd H p o))):=λb u e=>by
 ¶⟨e1,e2⟩:=q60 e
 have hb:b≠p:=λq=>by subst q;rw[hp] at e1;cases e1
 §K70 (e10 (by rw[a60 hb];§e1) e2 (r40 e)) hb
÷i70:RvS K zA H0 H (.d (.int i)) (.int i):=Hd.int (K:=K) (H:=hz zA H)
÷h90:RvS K zA H0 H (.d (.bl b)) (.bl b):=Hd.bl (K:=K) (H:=hz zA H)
÷H61(h:Hd K (hz zA H) x v):RvS K zA H0 H (.d x) v:=h
÷n20(st:e40 zA z H)(h:HdA K (hz zA H) xs ys)(hp:H p=none):RvS K zA H (upd H p (.lst ys)) (.fr xs) (.ref p) :=
 ⟨p,ys,rfl,hp,st.w81 hp,b20,h.same (N81 hp)⟩
÷tupQ(st:e40 zA z H)(h:HdA K (hz zA H) xs ys)(q:∀ v H',a30 H H'->RvS K zA H H' (.d (.tup xs)) v->Q v H'):L51 K H ys Q :=
 λp H' sm hq=>q _ _ sm (H61 (Hd.tup ((st.same sm).d62 hq) (h.same (k40 sm))))
end
def rD2(K:Â)(f:D->D->Option S):R2:=λx y H Q=>∃ zA z dx dy s,e40 zA z H/\Hd K (hz zA H) dx x/\Hd K (hz zA H) dy y/\f dx dy=some s/\∀ v H',a30 H H'->RvS K zA H H' s v->Q v H'
def rDn(K:Â)(f:List D->Option S):List V->Hp->VK->Prop:=λxs H Q=>∃ zA z ds s,e40 zA z H/\HdA K (hz zA H) ds xs/\f ds=some s/\∀ v H',a30 H H'->RvS K zA H H' s v->Q v H'
section
variable {X:Cx}
÷bits_le(h:k.natAbs < P40):ß1 k<=4000:=by
 unfold ß1
 split
 ·§Æ1 _
 ·have hn:k.natAbs < 2 ^ 4000:=h
  have:k.natAbs.log2 < 4000:=by
   rcases Nat.eq_zero_or_pos k.natAbs with h0 | hp
   ·rw[h0];decide
   ·§(Nat.log2_lt (Ê4 hp)).mpr hn
  omega
÷r92(hi:i.natAbs < P40)(hj:j.natAbs < P40):IntMulOk i j:=by
 have h1:=bits_le hi
 have h2:=bits_le hj
 unfold IntMulOk
 intro h
 rw[Á] at h
 have h3:=h.2
 unfold ÿ.Int.intTooBig at h3
 simp only[decide_eq_true_eq] at h3
 have:(8000:Nat) < bitsLine:=by decide
 omega
÷w91(hj:j.natAbs < P40):ÿ.divisionGoesByPylong i j=false:=by
 ¤PyProof.noPylong_of_log2 ?_
 rcases Nat.eq_zero_or_pos j.natAbs with h0 | hp
 ·rw[h0];decide
 ·have:j.natAbs.log2 < 4000:=(Nat.log2_lt (Ê4 hp)).mpr hj
  omega
÷f50(h:n<=most):n<=sizeLine:=Ñ h (by rw[Á2];decide)
def H12(K:Â):R2:=λx y H Q=>∃ l b xs zs,x=.ref l/\y=.ref b/\p90 K H l xs/\p90 K H b zs/\xs.length + zs.length<=Û/\∀ p,H p=none->Q (.ref p) (upd H p (.lst (xs++zs)))
def H22(K:Â):R2:=λx y H Q=>∃ l k xs,x=.ref l/\y=.int k/\p90 K H l xs/\-(2 ^ 63)<=k/\k < 2 ^ 63/\xs.length * k.toNat<=Û/\∀ p,H p=none->Q (.ref p) (upd H p (.lst (î k.toNat xs).flatten))
÷d72:OpR X (Ä2 .Add) (H12 X.K):=by
 intro pins s σ H x y v u Q I rx ry h
 ¶⟨l,b,xs,zs,rfl,rfl,hH,hB,hz,q⟩:=h
 cases rx
 cases ry
 ¶⟨z,its,n,r,hl,e⟩:=hH.mem I
 ¶⟨z2,its2,n2,r2,hl2,e2⟩:=hB.mem I
 ¤PySem.P.add_list e e2 ?_ (by rw[Ó,Ó];omega)
 have ea:its.toArray++its2.toArray=(its++its2).toArray:=by simp
 rw[ea]
 §⟨.ref _,_,I.F52 (t':=s.toks) (r.append r2) (by rw[Á9];omega),rfl,q _ I.fresh⟩
÷d82:OpR X (Ä2 .Mult) (H22 X.K):=by
 intro pins s σ H x y v u Q I rx ry h
 ¶⟨l,k,xs,rfl,rfl,hH,h1,h2,hz,q⟩:=h
 cases rx
 ¶⟨t,rfl⟩:=ry
 ¶⟨z,its,n,r,hl,e⟩:=hH.mem I
 have hlen:its.toArray.size * k.toNat<=sizeLine:=by rw[Ó,← hl];§hz
 have hcap:¬ its.toArray.size * k.toNat > (2 ^ 63 - 1) / 8:=by
  have:(Û:Nat)<=(2 ^ 63 - 1) / 8:=by decide
  omega
 have hfit:¬ (!ÿ.List.listFitsIndex k)=true:=by
  rw[fitsIndex_both h1 h2]
  §Ð
 have hlong:¬ Í4 (its.toArray.size * k.toNat)=true:=by
  rw[J31 hlen]
  §Ð
 have hnew:foldl (λx1 x2=>x1++x2) #[] (î (if its.toArray.isEmpty=true then 0 else k.toNat) its.toArray)=(î k.toNat its).flatten.toArray:=by
  have f0:∀ m:Nat,foldl (λx1 x2=>x1++x2) #[] (î m its.toArray)=(î m its).flatten.toArray:=λm=>by
   have:=foldl_rep its m []
   rw[Ì8] at this
   §this
  rw[f0]
  cases its with
  |nil=>simp
  |cons a r'=>rw[if_neg (by simp)]
 ¤wpAny_binaryOp_repeat_ref (T:="list") (U:="int") (by decide) ⟨_,e,rfl⟩ (λs'=>Ü1 s' k t) noFill_list_mul F.fills_int_mul Õ7 repeat_list F.slot_int_index.lookup
  (È2 Õ7 (Ü1 s k t) F.entry_int_rmul (F.args_int_rmul_2 _ _) (int___rmul___int_list k t l its.toArray n)
   ⟨e,rfl,⟨_,e,rfl⟩,È2 F.slot_list_mul ⟨_,e,rfl⟩ F.entry_list_mul (F.args_list_mul_2 _ _) (AutoListH.list___mul___list_int_3 l its.toArray n k t hfit hcap hlong) ⟨e,?_⟩⟩)
 rw[hnew]
 §⟨.ref _,_,I.F52 (t':=s.toks) (r.rep k.toNat) (by rw[len_rep,Ó9];§hz),rfl,q _ I.fresh⟩
÷d92:OpR X (Ä2 .Add) (rD2 X.K (z60 .add)):=by
 intro pins s σ H x y v u Q I rx ry h
 ¶⟨zA,z,dx,dy,w,st,hx,hy,e,q⟩:=h
 cases dx with
 |int i =>
  cases dy with
  |int j =>
   cases e;cases hx.i20;cases hy.i20
   §o02 pins s σ H _ _ v u Q I rx ry ⟨i,j,rfl,rfl,q _ _ (a30.refl H) i70⟩
  |_=>cases e
 |tup a =>
  cases dy with
  |tup b =>
   ¶⟨hl,e⟩:=g30 e
   cases e
   ¶⟨p,xs,rfl,h1,h2⟩:=hx.z70
   ¶⟨p',ys,rfl,h3,h4⟩:=hy.z70
   §b22 pins s σ H _ _ v u Q I rx ry ⟨p,p',xs,ys,rfl,rfl,(a20 zA H).sqT h1,(a20 zA H).sqT h3,f50 (by rw[h2.length,h4.length];§hl),tupQ st (h2.append h4) q⟩
  |_=>cases e
 |lst a =>
  cases dy with
  |lst b =>
   ¶⟨hl,e⟩:=g30 e
   cases e
   ¶⟨p,xs,rfl,h1,h2⟩:=hx.Y10
   ¶⟨p',ys,rfl,h3,h4⟩:=hy.Y10
   §d72 pins s σ H _ _ v u Q I rx ry ⟨p,p',xs,ys,rfl,rfl,h1.same (a20 zA H),h3.same (a20 zA H),f50 (by rw[h2.length,h4.length];§hl),λr hr=>q _ _ (a30.new _ hr) (n20 st (h2.append h4) hr)⟩
  |_=>cases e
 |_=>cases e
÷e02:OpR X (Ä2 .Sub) (rD2 X.K (z60 .sub)):=by
 intro pins s σ H x y v u Q I rx ry h
 ¶⟨zA,z,dx,dy,w,st,hx,hy,e,q⟩:=h
 cases dx with
 |int i =>
  cases dy with
  |int j =>
   cases e;cases hx.i20;cases hy.i20
   §o22 pins s σ H _ _ v u Q I rx ry ⟨i,j,rfl,rfl,q _ _ (a30.refl H) i70⟩
  |_=>cases e
 |_=>cases e
÷e12:OpR X (Ä2 .Mult) (rD2 X.K (z60 .mul)):=by
 intro pins s σ H x y v u Q I rx ry h
 ¶⟨zA,z,dx,dy,w,st,hx,hy,e,q⟩:=h
 cases dx with
 |int i =>
  cases dy with
  |int j =>
   ¶⟨hl,e⟩:=g30 e
   cases e;cases hx.i20;cases hy.i20
   ¶⟨t,rfl⟩:=rx
   ¶⟨t',rfl⟩:=ry
   §mul_int ⟨.int (i * j),H,I.tok _,⟨_,rfl⟩,q _ _ (a30.refl H) i70⟩ (r92 hl.1 hl.2)
  |_=>cases e
 |tup a =>
  cases dy with
  |int j =>
   ¶⟨hl,e⟩:=g30 e
   cases e;cases hy.i20
   ¶⟨p,xs,rfl,h1,h2⟩:=hx.z70
   §b32 pins s σ H _ _ v u Q I rx ry ⟨p,j,xs,rfl,rfl,(a20 zA H).sqT h1,hl.1,hl.2.2,f50 (by rw[h2.length];§hl.2.1),tupQ st (h2.rep _) q⟩
  |_=>cases e
 |lst a =>
  cases dy with
  |int j =>
   ¶⟨hl,e⟩:=g30 e
   cases e;cases hy.i20
   ¶⟨p,xs,rfl,h1,h2⟩:=hx.Y10
   §d82 pins s σ H _ _ v u Q I rx ry ⟨p,j,xs,rfl,rfl,h1.same (a20 zA H),by omega,by omega,f50 (by rw[h2.length,Ó9];§hl.2.1),λr hr=>q _ _ (a30.new _ hr) (n20 st (h2.rep _) hr)⟩
  |_=>cases e
 |_=>cases e
÷N91:OpR X (Ä2 .FloorDiv) (rD2 X.K (z60 .fdiv)):=by
 intro pins s σ H x y v u Q I rx ry h
 ¶⟨zA,z,dx,dy,w,st,hx,hy,e,q⟩:=h
 cases dx with
 |int i =>
  cases dy with
  |int j =>
   ¶⟨hl,e⟩:=g30 e
   cases e;cases hx.i20;cases hy.i20
   ¶⟨t,rfl⟩:=rx
   ¶⟨t',rfl⟩:=ry
   ¤floordiv_int (by omega) ⟨.int (i / j),H,I.tok _,⟨s.toks,?_⟩,q _ _ (a30.refl H) i70⟩ (.inl (w91 hl.2))
   rw[Int.fdiv_eq_ediv_of_nonneg _ (by omega)]
  |_=>cases e
 |_=>cases e
÷e22:OpR X (Ä2 .Mod) (rD2 X.K (z60 .mod)):=by
 intro pins s σ H x y v u Q I rx ry h
 ¶⟨zA,z,dx,dy,w,st,hx,hy,e,q⟩:=h
 cases dx with
 |int i =>
  cases dy with
  |int j =>
   ¶⟨hl,e⟩:=g30 e
   cases e;cases hx.i20;cases hy.i20
   §o32 pins s σ H _ _ v u Q I rx ry ⟨i,j,rfl,rfl,hl,q _ _ (a30.refl H) i70⟩
  |_=>cases e
 |_=>cases e
÷e32:OpR X (Ä2 .Pow) (rD2 X.K (z60 .pow)):=by
 intro pins s σ H x y v u Q I rx ry h
 ¶⟨zA,z,dx,dy,w,st,hx,hy,e,q⟩:=h
 cases dx with
 |int i =>
  cases dy with
  |int j =>
   ¶⟨hl,e⟩:=g30 e
   cases e;cases hx.i20;cases hy.i20
   §o42 pins s σ H _ _ v u Q I rx ry ⟨i,j,rfl,rfl,⟨hl.1,by omega,hl.2.2⟩,q _ _ (a30.refl H) i70⟩
  |_=>cases e
 |_=>cases e
def opB:Bi->Ý9
 |.add=>.Add | .sub=>.Sub | .mul=>.Mult | .fdiv=>.FloorDiv | .mod=>.Mod | .pow=>.Pow
÷opD(o:Bi):OpR X (Ä2 (opB o)) (rD2 X.K (z60 o)):=by
 cases o
 ·§d92
 ·§e02
 ·§e12
 ·§N91
 ·§e22
 ·§e32
mutual
noncomputable def toP:D->PyData
 |.non=>.none
 |.bl b=>.bool b
 |.int i=>.int i
 |.str x=>.str x
 |.tup l=>.tuple (P50 l)
 |.lst l=>.list (P50 l)
 |.dct=>.none
noncomputable def P50:List D->List PyData
 |[]=>[]
 |x::r=>toP x::P50 r
end
end
end Q
namespace Q
open PySem L2 PySem.Spec PyProof.Rows
variable [TB:Tb]
mutual
theorem T50:∀ a b:D,n00 a=true->n00 b=true->Ü9 (toP a) (toP b)=eqD a b
 |.non,b,_,h=>by cases b <;> first | rfl | (simp[n00] at h)
 |.bl _,b,_,h=>by cases b <;> first | rfl | (simp[n00] at h)
 |.int _,b,_,h=>by cases b <;> first | rfl | (simp[n00] at h)
 |.str _,b,_,h=>by cases b <;> first | rfl | (simp[n00] at h)
 |.tup l,b,ha,h=>by
  cases b with
  |tup q =>
   §a51 l q (by simpa [n00] using ha) (by simpa [n00] using h)
  |dct=>simp[n00] at h
  |_=>rfl
 |.lst l,b,ha,h=>by
  cases b with
  |lst q =>
   §a51 l q (by simpa [n00] using ha) (by simpa [n00] using h)
  |dct=>simp[n00] at h
  |_=>rfl
 |.dct,_,h,_=>by simp[n00] at h
theorem a51:∀ a b:List D,e70 a=true->e70 b=true->PyData.eqvAll (P50 a) (P50 b)=N31 a b
 |[],[],_,_=>rfl
 |[],_::_,_,_=>rfl
 |_::_,[],_,_=>rfl
 |x::r,y::q,ha,hb=>by
  simp only[e70,Á] at ha hb
  simp only[P50,PyData.eqvAll,N31]
  rw[T50 x y ha.1 hb.1,a51 r q ha.2 hb.2]
end
mutual
theorem x90:∀ a:D,n00 a=true->(toP a).canLay0=true
 |.non,_=>rfl
 |.bl _,_=>rfl
 |.int _,_=>rfl
 |.str _,h=>h
 |.tup l,h=>s20 l h
 |.lst l,h=>s20 l h
 |.dct,h=>by cases h
theorem s20:∀ a:List D,e70 a=true->PyData.canLayAll0 (P50 a)=true
 |[],_=>rfl
 |x::r,h=>by
  simp only[e70,Á] at h
  simp only[P50,PyData.canLayAll0,x90 x h.1,s20 r h.2,Bool.and_self]
end
mutual
theorem L70:∀ a:D,(toP a).depth=deep a
 |.non=>rfl
 |.bl _=>rfl
 |.int _=>rfl
 |.str _=>rfl
 |.tup l=>congrArg (· + 1) (L80 l)
 |.lst l=>congrArg (· + 1) (L80 l)
 |.dct=>rfl
theorem L80:∀ a:List D,Ó0 (P50 a)=f80 a
 |[]=>rfl
 |x::r=>by
  simp only[P50,Ó0,f80]
  rw[L70 x,L80 r]
end
def n81(h:ì)(u:Ä)(d:D):Prop:=n00 d=true/\∃ as,Reads h u (toP d) as
def e80(h:ì)(us:List Ä)(ds:List D):Prop:=e70 ds=true/\∃ as,ReadsAll h us (P50 ds) as
section
variable {X:Cx}{pins:List (Ç × Obj)}{σ:L2.St}{H:Hp}{s:Æ}
mutual
theorem i80(I:Inv X pins σ H s):∀ {d:D}{v:V}{u:Ä},Hd X.K H d v->RelV v u->n00 d=true->∃ as,Reads s.heap u (toP d) as
 |.non,_,_,h,r,_=>by cases h.C12;cases r;§⟨_,.none⟩
 |.bl b,_,_,h,r,_=>by cases h.bl_;cases r;§⟨_,.bool b⟩
 |.int i,_,_,h,r,_=>by cases h.i20;¶⟨t,rfl⟩:=r;§⟨_,.int i t⟩
 |.str x,_,_,h,r,_=>by cases h.H02;¶⟨t,rfl⟩:=r;§⟨_,.str x t⟩
 |.tup l,_,_,h,r,f=>by
  ¶⟨a,xs,rfl,h1,h2⟩:=h.z70
  cases r
  ¶⟨its,rv,⟨o,e1,e2,n,e3⟩,_⟩:=I.tuple h1
  ¶⟨as,ra⟩:=C90 I h2 rv f
  §⟨_,.tuple e1 e2 e3 (by simpa using ra)⟩
 |.lst l,_,_,h,r,f=>by
  ¶⟨a,xs,rfl,h1,h2⟩:=h.Y10
  cases r
  ¶⟨its,rv,⟨o,n,e1,e2,_,e3⟩,_⟩:=I.list h1.sq
  ¶⟨as,ra⟩:=C90 I h2 rv f
  §⟨_,.list e1 e2 e3 (by simpa using ra)⟩
 |.dct,_,_,_,_,f=>by cases f
theorem C90(I:Inv X pins σ H s):∀ {ds:List D}{vs:List V}{us:List Ä},HdA X.K H ds vs->Vals vs us->e70 ds=true->∃ as,ReadsAll s.heap us (P50 ds) as
 |[],_,_,h,r,_=>by cases h.f30;cases r;§⟨_,.nil⟩
 |d::ds,_,_,h,r,f=>by
  ¶⟨x,xs,rfl,h1,h2⟩:=h.c40
  cases r with
  |cons r1 r2 =>
   simp only[e70,Á] at f
   ¶⟨_,a1⟩:=i80 I h1 r1 f.1
   ¶⟨_,a2⟩:=C90 I h2 r2 f.2
   §⟨_,.cons a1 a2⟩
end
end
÷o40(h:okD d=true):n00 d=true/\SeqAt.shaped (toP d)=true:=by
 unfold okD at h
 rw[Á,decide_eq_true_eq] at h
 ¤⟨h.1,?_⟩
 unfold SeqAt.shaped
 rw[x90 d h.1,L70,Ä9,decide_eq_true_eq]
 omega
section
variable {X:Cx}
÷s02(h:eqE a b=some c):∃ l,a=.tup l/\b=.tup []/\c=l.isEmpty:=by
 unfold eqE at h
 split at h
 ·cases h;§⟨_,rfl,rfl,rfl⟩
 ·cases h
÷s12(hu:X.A.units + 64 < Å9):OpR X (ü .Eq) (rD2 X.K λa b=>(eqQ a b).map λc=>.d (.bl c)):=by
 intro pins s σ H x y v u Q I rx ry h
 ¶⟨zA,z,dx,dy,w,st,hx,hy,e,q⟩:=h
 unfold eqQ at e
 dsimp only at e
 split at e
 ·rename_i ok
  cases e
  rw[Á] at ok
  ¶⟨f1,s1⟩:=o40 ok.1
  ¶⟨f2,s2⟩:=o40 ok.2
  ¶⟨as,r1⟩:=i80 I (hx.same (a20 zA H)) rx f1
  ¶⟨bs,r2⟩:=i80 I (hy.same (a20 zA H)) ry f2
  §eq_dataH r1 r2 s1 s2 hu ⟨.bl _,H,I,rfl,by rw[T50 dx dy f1 f2];§q _ _ (a30.refl H) h90⟩
 ·¶⟨c,h1,h2⟩:=Ê.mp e
  ¶⟨l,rfl,rfl,rfl⟩:=s02 h1
  subst h2
  ¶⟨a,xs,rfl,k1,k2⟩:=hx.z70
  ¶⟨b,ys,rfl,k3,k4⟩:=hy.z70
  cases k4.f30
  cases rx;cases ry
  ¶⟨its,rv,ht,_⟩:=I.tuple ((a20 zA H).sqT k1)
  ¶⟨iu,ru,hu2,_⟩:=I.tuple ((a20 zA H).sqT k3)
  cases ru
  have e1:its.length=l.length:=by rw[← rv.length,k2.length]
  ¤SeqAt.eq_tupleAt (e:=λ_=>true) ht hu2 (by omega) (λj _ h2=>absurd h2 (Ö2 j)) ⟨.bl _,H,I,rfl,?_⟩
  have e2:((í (min its.toArray.size ([]:List Ä).toArray.size)).all (λ_=>true)&&its.toArray.size == ([]:List Ä).toArray.size)=l.isEmpty:=by
   simp only[Ó,Á0,Nat.min_zero,List.range_zero,all_nil,Ä9,e1]
   cases l <;> rfl
  rw[e2]
  §q _ _ (a30.refl H) h90
÷s22(hu:X.A.units + 64 < Å9):OpR X (ü .NotEq) (rD2 X.K λa b=>(eqO a b).map λc=>.d (.bl !c)):=by
 intro pins s σ H x y v u Q I rx ry h
 ¶⟨zA,z,dx,dy,w,st,hx,hy,e,q⟩:=h
 unfold eqO at e
 dsimp only at e
 split at e
 ·rename_i ok
  cases e
  rw[Á] at ok
  ¶⟨f1,s1⟩:=o40 ok.1
  ¶⟨f2,s2⟩:=o40 ok.2
  ¶⟨as,r1⟩:=i80 I (hx.same (a20 zA H)) rx f1
  ¶⟨bs,r2⟩:=i80 I (hy.same (a20 zA H)) ry f2
  §ne_dataH r1 r2 s1 s2 hu ⟨.bl _,H,I,rfl,by rw[T50 dx dy f1 f2];§q _ _ (a30.refl H) h90⟩
 ·cases e
÷e42(hu:X.A.units + 64 < Å9):OpR X (ü .NotEq) (rD2 X.K λa b=>(neO a b).map λc=>.d (.bl c)):=by
 intro pins s σ H x y v u Q I rx ry h
 ¶⟨zA,z,dx,dy,w,st,hx,hy,e,q⟩:=h
 unfold neO at e
 dsimp only at e
 split at e
 ·cases e
  unfold Hd at hx
  ¶⟨a,kvs,rfl,h1⟩:=hx
  ¶⟨b,xs,rfl,h2,_⟩:=hy.z70
  §b82 hu pins s σ H _ _ v u Q I rx ry ⟨a,b,kvs,xs,rfl,rfl,(q60 h1).1,(a20 zA H).sqT h2,q _ _ (a30.refl H) h90⟩
 ·¤s22 hu pins s σ H _ _ v u Q I rx ry ⟨zA,z,dx,dy,w,st,hx,hy,?_,q⟩
  rw[← e,Option.map_map]
  rfl
end
÷L90(h:G10 l=true):e70 l=true/\f80 l<=39:=by
 unfold G10 at h
 rw[Á,decide_eq_true_eq] at h
 §h
÷M00(h:okD d=true):deep d<=40:=by
 unfold okD at h
 rw[Á,decide_eq_true_eq] at h
 §h.2
÷D00(x:D)(fx:n00 x=true):∀ l:List D,e70 l=true->((P50 l).any λy=>Ü9 y (toP x))=memD x l
 |[],_=>rfl
 |y::r,h=>by
  simp only[e70,Á] at h
  show(Ü9 (toP y) (toP x) || (P50 r).any λy=>Ü9 y (toP x))=(eqD y x || memD x r)
  rw[T50 y x h.1 fx,D00 x fx r h.2]
section
variable {X:Cx}
÷M10(h:N51 x l=some b):okD x=true/\G10 l=true/\b=memD x l:=by
 unfold N51 at h
 split at h
 ·rename_i ok
  rw[Á] at ok
  cases h
  §⟨ok.1,ok.2,rfl⟩
 ·cases h
÷room_in{A:ø}(hu:A.units + 64 < Å9){l:List D}{x:D}(h:okD x=true):A.units + 1 + min (Ó0 (P50 l)) (toP x).depth < cLine:=by
 have h1:=M00 h
 have h2:min (Ó0 (P50 l)) (toP x).depth<=(toP x).depth:=Nat.min_le_right _ _
 have h3:=L70 x
 omega
÷e52(hu:X.A.units + 64 < Å9):OpR X (ü .In) (rD2 X.K λa b=>(A20 .mem a b).map λc=>.d (.bl c)):=by
 intro pins s σ H x y v u Q I rx ry h
 ¶⟨zA,z,dx,dy,w,st,hx,hy,e,q⟩:=h
 cases dy with
 |tup l =>
  ¶⟨b,e1,e2⟩:=Ê.mp e
  subst e2
  ¶⟨o1,o2,rfl⟩:=M10 e1
  ¶⟨f2,_⟩:=L90 o2
  ¶⟨f1,_⟩:=o40 o1
  ¶⟨as,r1⟩:=i80 I (hx.same (a20 zA H)) rx f1
  ¶⟨bs,r2⟩:=i80 I (hy.same (a20 zA H)) ry (by simpa [n00] using f2)
  §SeqAt.in_tuple_reads r2 r1 (s20 l f2) (x90 dx f1) (room_in hu o1) ⟨.bl _,H,I,rfl,by rw[D00 dx f1 l f2];§q _ _ (a30.refl H) h90⟩
 |lst l =>
  ¶⟨b,e1,e2⟩:=Ê.mp e
  subst e2
  ¶⟨o1,o2,rfl⟩:=M10 e1
  ¶⟨f2,_⟩:=L90 o2
  ¶⟨f1,_⟩:=o40 o1
  ¶⟨as,r1⟩:=i80 I (hx.same (a20 zA H)) rx f1
  ¶⟨bs,r2⟩:=i80 I (hy.same (a20 zA H)) ry (by simpa [n00] using f2)
  §SeqAt.in_list_reads r2 r1 (s20 l f2) (x90 dx f1) (room_in hu o1) ⟨.bl _,H,I,rfl,by rw[D00 dx f1 l f2];§q _ _ (a30.refl H) h90⟩
 |_=>cases e
÷O01(hu:X.A.units + 64 < Å9):OpR X (ü .NotIn) (rD2 X.K λa b=>(A20 .nmem a b).map λc=>.d (.bl c)):=by
 intro pins s σ H x y v u Q I rx ry h
 ¶⟨zA,z,dx,dy,w,st,hx,hy,e,q⟩:=h
 cases dy with
 |tup l =>
  ¶⟨b,e1,e2⟩:=Ê.mp e
  subst e2
  ¶⟨b',e3,rfl⟩:=Ê.mp e1
  ¶⟨o1,o2,rfl⟩:=M10 e3
  ¶⟨f2,_⟩:=L90 o2
  ¶⟨f1,_⟩:=o40 o1
  ¶⟨as,r1⟩:=i80 I (hx.same (a20 zA H)) rx f1
  ¶⟨bs,r2⟩:=i80 I (hy.same (a20 zA H)) ry (by simpa [n00] using f2)
  §SeqAt.notIn_tuple_reads r2 r1 (s20 l f2) (x90 dx f1) (room_in hu o1) ⟨.bl _,H,I,rfl,by rw[D00 dx f1 l f2];§q _ _ (a30.refl H) h90⟩
 |lst l =>
  ¶⟨b,e1,e2⟩:=Ê.mp e
  subst e2
  ¶⟨b',e3,rfl⟩:=Ê.mp e1
  ¶⟨o1,o2,rfl⟩:=M10 e3
  ¶⟨f2,_⟩:=L90 o2
  ¶⟨f1,_⟩:=o40 o1
  ¶⟨as,r1⟩:=i80 I (hx.same (a20 zA H)) rx f1
  ¶⟨bs,r2⟩:=i80 I (hy.same (a20 zA H)) ry (by simpa [n00] using f2)
  §SeqAt.notIn_list_reads r2 r1 (s20 l f2) (x90 dx f1) (room_in hu o1) ⟨.bl _,H,I,rfl,by rw[D00 dx f1 l f2];§q _ _ (a30.refl H) h90⟩
 |_=>cases e
end
end Q
namespace Q
open PySem L2 PySem.Spec PyProof.Rows
variable [TB:Tb]
def H32(A:ø)(s:Æ)(v u:Ä)(b:Bool):Prop:=∀ (P:ß) (w:è) (E:Ä->Æ->Prop) (Q:Ä->Æ->Prop),Q (.bool b) s->Ï (Ô P w) A (richCompare .Lt v u) Q E s
section
open PySem.SeqAt
open PySem.AutoSeq1 (wpAny_loadPart')
open PySem.MeetsSeq PySem.MeetsSeq2 PySem.MeetsSeq3
inductive Lx (A:Around) (s:Shared):List Value->List Value->Bool->Prop
 |nn:Lx A s [] [] false
 |nc {u us}:Lx A s [] (u::us) true
 |cn {v vs}:Lx A s (v::vs) [] false
 |eq {v u vs us b}:EqAt A s v u true->Lx A s vs us b->Lx A s (v::vs) (u::us) b
 |ne {v u vs us b}:EqAt A s v u false->H32 A s v u b->Lx A s (v::vs) (u::us) b
÷D10(l b:Ç)(items items2:Array Ä)(n n2:Nat)(dd dd2:Option Ç)(sl sl2:Array (Option Ä))(c:Bool) :
  Meets (ÿ.«tuple.__lt__» ⟨[.ref l,.ref b],[]⟩)
   (λA R s=>s.heap.get? l=some { cls:=.type "tuple",dict:=dd,data:=.seq items n,slots:=sl }/\s.heap.get? b=some { cls:=.type "tuple",dict:=dd2,data:=.seq items2 n2,slots:=sl2 } /\
    Lx A.in1 s items.toList items2.toList c/\R (.ok (.ret (.bool c))) s) :=
 .of_wp λprog w A R s h=>by
  ¶⟨hp,g,d,tk,os⟩:=s;¶⟨hl,hb,hx,h⟩:=h
  have f2:=Ý2
  wp_walk using Ä7 hl,Ä7 hb,wpAny_forIn_list _ (λrest b s'=>b.1=none/\s'=⟨hp,g,d,tk,os⟩/\∃ (vs ws:List Ä),rest=vs.zip ws /\
   vs.length + items2.size=ws.length + items.size/\Lx A.in1 ⟨hp,g,d,tk,os⟩ vs ws c) _
  case turn =>
   rintro ⟨y,x⟩ rest b s' ⟨hb',rfl,vs,ws,hz,hlen,hR⟩
   cases hR with
   |nn=>rw[Ú0] at hz;cases hz
   |nc=>rw[Ú0] at hz;cases hz
   |cn=>rw[List.zip_nil_right] at hz;cases hz
   |eq he hr =>
    rw[Ê3] at hz
    injection hz with hyx hrest
    injection hyx with hy hx'
    subst hy hx'
    simp only[Ü] at hlen
    ¤À (he prog w _ _ ?_)
    wp_walk
    §⟨rfl,rfl,_,_,hrest,by omega,hr⟩
   |ne he hr =>
    rw[Ê3] at hz
    injection hz with hyx hrest
    injection hyx with hy hx'
    subst hy hx'
    ¤À (he prog w _ _ ?_)
    have hri:=λE Q q=>hr prog w E Q q
    wp_walk using hri
    §⟨_,rfl,by simpa using h⟩
  case fin =>
   rintro ⟨b1,b2⟩ s' ⟨hb',rfl,vs,ws,hz,hlen,hR⟩
   simp only at hb'
   subst hb'
   have hv:c=decide (items.size < items2.size):=by
    cases hR with
    |nn=>simp only[Á0] at hlen;§(decide_eq_false (by omega)).symm
    |nc=>simp only[Á0,Ü] at hlen;§(decide_eq_true (by omega)).symm
    |cn=>simp only[Á0,Ü] at hlen;§(decide_eq_false (by omega)).symm
    |eq he hr=>rw[Ê3] at hz;cases hz
    |ne he hr=>rw[Ê3] at hz;cases hz
   rw[hv] at h
   wp_walk
   §⟨_,rfl,by simpa [tupleCompareSizes] using h⟩
  case h =>
   §⟨rfl,rfl,items.toList,items2.toList,rfl,by simp;omega,hx⟩
end
÷x01(hl:Ï0 s.heap l i1)(hb:Ï0 s.heap b i2)(hu:A.units < Å9)(hx:Lx A.in1 s i1.toList i2.toList c):H32 A s (.ref l) (.ref b) c:=by
 intro P w E Q h
 ¶⟨⟨cls,dd,data,sl⟩,ho,hc,n,hd⟩:=id hl;¶⟨⟨cls2,dd2,data2,sl2⟩,ho2,hc2,n2,hd2⟩:=id hb
 simp only at hc hd hc2 hd2;subst hc hd hc2 hd2
 §richCompare_meets_room (op:=.Lt) ⟨_,ho,rfl⟩ ⟨_,ho2,rfl⟩ Ò9 ß7 (Þ6 _ _) (D10 l b i1 i2 n n2 dd dd2 sl sl2 c)
  ⟨ho,ho2,hx,show Î7 c≠Õ2/\Q (.bool c) s from⟨(λx=>nomatch x),h⟩⟩ hu
÷s32(ha:n81 s.heap v a)(hb:n81 s.heap u b)(hu:A.units + deep a < Å9):Ö8 A s v u (eqD a b):=by
 ¶⟨f1,as,r1⟩:=ha
 ¶⟨f2,bs,r2⟩:=hb
 rw[← T50 a b f1 f2]
 have h:=L70 a
 have h2:min (toP a).depth (toP b).depth<=(toP a).depth:=Nat.min_le_left _ _
 §SeqAt.eqAt_reads (toP a) (toP b) A s v u as bs r1 r2 (x90 a f1) (x90 b f2) (by omega)
÷e80.c40(x:e80 h us (d::ds)):∃ u r,us=u::r/\n81 h u d/\e80 h r ds:=by
 ¶⟨f,as,r⟩:=x
 simp only[e70,Á] at f
 cases r with
 |cons r1 r2=>§⟨_,_,rfl,⟨f.1,_,r1⟩,f.2,_,r2⟩
÷e80.f30(x:e80 h us []):us=[]:=by
 ¶⟨_,as,r⟩:=x
 cases r;rfl
÷in1_units(A:ø):A.in1.units=A.units + 1:=rfl
÷e62:∀ (n:Nat) {A:ø}{s:Æ},
  (∀ (a b:D) (v u:Ä) (c:Bool),deep a<=n->n81 s.heap v a->n81 s.heap u b->ltD a b=some c->A.units + n < Å9->H32 A s v u c) /\
  (∀ (a b:List D) (vs us:List Ä) (c:Bool),f80 a < n->e80 s.heap vs a->e80 s.heap us b->N41 a b=some c->A.units + n < Å9->Lx A.in1 s vs us c):=by
 intro n
 induction n with
 |zero =>
  intro A s
  ¤⟨λa b v u c hd ha hb e hu=>?_,λa b vs us c hd=>absurd hd (Ö2 _)⟩
  cases a with
  |int i =>
   cases b with
   |int j =>
    cases e
    ¶⟨_,_,r1⟩:=ha
    ¶⟨_,_,r2⟩:=hb
    cases r1;cases r2
    §λP w E Q h=>HT.e71 A s i _ j _ P w E Q h
   |_=>cases e
  |tup l=>simp[deep] at hd
  |_=>cases e
 |succ n ih =>
  have rows:∀ {A:ø}{s:Æ} (a b:List D) (vs us:List Ä) (c:Bool),f80 a < n + 1->e80 s.heap vs a->e80 s.heap us b->N41 a b=some c->A.units + (n + 1) < Å9->Lx A.in1 s vs us c:=by
   intro A s a
   induction a with
   |nil =>
    intro b vs us c _ ha hb e hu
    cases ha.f30
    cases b with
    |nil=>cases hb.f30;cases e;§.nn
    |cons y q=>¶⟨u,r,rfl,_⟩:=hb.c40;cases e;§.nc
   |cons x r ihr =>
    intro b vs us c hd ha hb e hu
    ¶⟨v,vs',rfl,a1,a2⟩:=ha.c40
    cases b with
    |nil=>cases hb.f30;cases e;§.cn
    |cons y q =>
     ¶⟨u,us',rfl,b1,b2⟩:=hb.c40
     simp only[f80] at hd
     have d1:deep x<=n:=Nat.le_of_lt_succ (Ê8 (Nat.le_max_left _ _) hd)
     have d2:f80 r < n + 1:=Ê8 (Nat.le_max_right _ _) hd
     have hu1:A.in1.units + n < cLine:=by rw[in1_units];omega
     have he:=s32 (A:=A.in1) a1 b1 (by omega)
     simp only[N41] at e
     cases hq:eqD x y with
     |true =>
      rw[hq] at he e
      §.eq he (ihr q vs' us' c d2 a2 b2 (by simpa using e) hu)
     |false =>
      rw[hq] at he e
      §.ne he ((ih (A:=A.in1) (s:=s)).1 x y v u c d1 a1 b1 (by simpa using e) hu1)
  intro A s
  ¤⟨λa b v u c hd ha hb e hu=>?_,rows⟩
  cases a with
  |int i =>
   cases b with
   |int j =>
    cases e
    ¶⟨_,_,r1⟩:=ha
    ¶⟨_,_,r2⟩:=hb
    cases r1;cases r2
    §λP w E Q h=>HT.e71 A s i _ j _ P w E Q h
   |_=>cases e
  |tup l =>
   cases b with
   |tup q =>
    ¶⟨f1,as,r1⟩:=ha
    ¶⟨f2,bs,r2⟩:=hb
    simp only[deep] at hd
    cases r1 with
    |tuple k1 k2 k3 k4 =>
     cases r2 with
     |tuple m1 m2 m3 m4 =>
      §x01 ⟨_,k1,k2,_,k3⟩ ⟨_,m1,m2,_,m3⟩ (by omega) (rows l q _ _ c (by omega) ⟨by simpa [n00] using f1,_,k4⟩ ⟨by simpa [n00] using f2,_,m4⟩ e hu)
   |_=>cases e
  |_=>cases e
section
variable {X:Cx}
÷s42(h:ltO a b=some c):okD a=true/\okD b=true/\ltD a b=some c:=by
 unfold ltO at h
 split at h
 ·rename_i ok
  rw[Á] at ok
  §⟨ok.1,ok.2,h⟩
 ·cases h
÷s52(hu:X.A.units + 64 < Å9):OpR X (ü .Lt) (rD2 X.K λa b=>(A20 .lt a b).map λc=>.d (.bl c)):=by
 intro pins s σ H x y v u Q I rx ry h
 ¶⟨zA,z,dx,dy,w,st,hx,hy,e,q⟩:=h
 ¶⟨b,e1,e2⟩:=Ê.mp e
 subst e2
 ¶⟨o1,o2,e3⟩:=s42 (show ltO dx dy=some b from e1)
 ¶⟨f1,_⟩:=o40 o1
 ¶⟨f2,_⟩:=o40 o2
 ¶⟨as,r1⟩:=i80 I (hx.same (a20 zA H)) rx f1
 ¶⟨bs,r2⟩:=i80 I (hy.same (a20 zA H)) ry f2
 §(e62 40 (A:=X.A) (s:=s)).1 dx dy v u b (M00 o1) ⟨f1,as,r1⟩ ⟨f2,bs,r2⟩ e3 (by omega) _ _ _ _ ⟨.bl b,H,I,rfl,q _ _ (a30.refl H) h90⟩
÷w40{K:Â}{H:Hp}:∀ {l:List D}{ns:List Int}{vs:List V},a01 l=some ns->HdA K H l vs->vs=ns.map V.int/\l=ns.map D.int
 |[],_,_,e,h=>by cases e;rw[h.f30];§⟨rfl,rfl⟩
 |.int i::r,_,_,e,h=>by
  ¶⟨ms,e1,rfl⟩:=Ê.mp e
  ¶⟨x,xs,rfl,h1,h2⟩:=h.c40
  cases h1.i20
  ¶⟨rfl,rfl⟩:=w40 e1 h2
  §⟨rfl,rfl⟩
 |.non::_,_,_,e,_=>by cases e
 |.bl _::_,_,_,e,_=>by cases e
 |.str _::_,_,_,e,_=>by cases e
 |.tup _::_,_,_,e,_=>by cases e
 |.lst _::_,_,_,e,_=>by cases e
 |.dct::_,_,_,e,_=>by cases e
÷s62(hu:X.A.units + 64 < Å9):OpR X (ü .LtE) (rD2 X.K λa b=>(A20 .le a b).map λc=>.d (.bl c)):=by
 intro pins s σ H x y v u Q I rx ry h
 ¶⟨zA,z,dx,dy,w,st,hx,hy,e,q⟩:=h
 cases dx with
 |int i =>
  cases dy with
  |int j =>
   cases e;cases hx.i20;cases hy.i20
   §E52 pins s σ H _ _ v u Q I rx ry ⟨i,j,rfl,rfl,q _ _ (a30.refl H) h90⟩
  |_=>cases e
 |tup a =>
  cases dy with
  |tup b =>
   ¶⟨c,e1,e2⟩:=Ê.mp e
   subst e2
   ¶⟨ns,n1,e1⟩:=Î.mp (show(a01 a).bind _=_ from e1)
   ¶⟨ms,n2,rfl⟩:=Ê.mp e1
   ¶⟨p,xs,rfl,h1,h2⟩:=hx.z70
   ¶⟨p',ys,rfl,h3,h4⟩:=hy.z70
   ¶⟨rfl,_⟩:=w40 n1 h2
   ¶⟨rfl,_⟩:=w40 n2 h4
   §q02 (by omega) pins s σ H _ _ v u Q I rx ry ⟨p,p',ns,ms,rfl,rfl,(a20 zA H).sqT h1,(a20 zA H).sqT h3,q _ _ (a30.refl H) h90⟩
  |_=>cases e
 |_=>cases e
÷s72:OpR X (ü .Gt) (rD2 X.K λa b=>(A20 .gt a b).map λc=>.d (.bl c)):=by
 intro pins s σ H x y v u Q I rx ry h
 ¶⟨zA,z,dx,dy,w,st,hx,hy,e,q⟩:=h
 cases dx with
 |int i =>
  cases dy with
  |int j =>
   cases e;cases hx.i20;cases hy.i20
   §E62 pins s σ H _ _ v u Q I rx ry ⟨i,j,rfl,rfl,q _ _ (a30.refl H) h90⟩
  |_=>cases e
 |_=>cases e
÷s82:OpR X (ü .GtE) (rD2 X.K λa b=>(A20 .ge a b).map λc=>.d (.bl c)):=by
 intro pins s σ H x y v u Q I rx ry h
 ¶⟨zA,z,dx,dy,w,st,hx,hy,e,q⟩:=h
 cases dx with
 |int i =>
  cases dy with
  |int j =>
   cases e;cases hx.i20;cases hy.i20
   §E72 pins s σ H _ _ v u Q I rx ry ⟨i,j,rfl,rfl,q _ _ (a30.refl H) h90⟩
  |_=>cases e
 |_=>cases e
÷O11{K:Â}{H:Hp}{d:D}{v:V}(h:Hd K H d v):decide (v=.non)=w11 d:=by
 cases d with
 |non=>cases h.C12;rfl
 |bl b=>cases h.bl_;rfl
 |int i=>cases h.i20;rfl
 |str x=>cases h.H02;rfl
 |tup l=>¶⟨a,xs,rfl,_⟩:=h.z70;rfl
 |lst l=>¶⟨a,xs,rfl,_⟩:=h.Y10;rfl
 |dct=>unfold Hd at h;¶⟨a,kvs,rfl,_⟩:=h;rfl
÷s92:OpR X (ü .Is) (rD2 X.K λa b=>(A20 .is a b).map λc=>.d (.bl c)):=by
 intro pins s σ H x y v u Q I rx ry h
 ¶⟨zA,z,dx,dy,w,st,hx,hy,e,q⟩:=h
 cases dy with
 |bl b =>
  cases dx with
  |bl a =>
   cases e;cases hx.bl_;cases hy.bl_
   §q22 pins s σ H _ _ v u Q I rx ry ⟨a,b,rfl,rfl,q _ _ (a30.refl H) h90⟩
  |_=>cases e
 |non =>
  have e':some (S.d (.bl (w11 dx)))=some w:=by cases dx <;> §e
  cases e'
  cases hy.C12
  ¤o52 pins s σ H _ _ v u Q I rx ry ⟨rfl,?_⟩
  rw[O11 hx]
  §q _ _ (a30.refl H) h90
 |_=>cases dx <;> cases e
def opC:Cm->CmpOp
 |.eq=>.Eq | .ne=>.NotEq | .lt=>.Lt | .le=>.LtE | .gt=>.Gt | .ge=>.GtE | .is=>.Is | .mem=>.In | .nmem=>.NotIn
÷l22(hu:X.A.units + 64 < Å9)(o:Cm):OpR X (ü (opC o)) (rD2 X.K λa b=>(A20 o a b).map λc=>.d (.bl c)):=by
 cases o
 ·§s12 hu
 ·§e42 hu
 ·§s52 hu
 ·§s62 hu
 ·§s72
 ·§s82
 ·§s92
 ·§e52 hu
 ·§O01 hu
÷HdA.one{K:Â}{H:Hp}{d:D}{xs:List V}(h:HdA K H [d] xs):∃ x,xs=[x]/\Hd K H d x:=by
 ¶⟨x,r,rfl,h1,h2⟩:=h.c40
 rw[h2.f30]
 §⟨x,rfl,h1⟩
÷HdA.two{K:Â}{H:Hp}{d e:D}{xs:List V}(h:HdA K H [d,e] xs):∃ x y,xs=[x,y]/\Hd K H d x/\Hd K H e y:=by
 ¶⟨x,r,rfl,h1,h2⟩:=h.c40
 ¶⟨y,rfl,h3⟩:=h2.one
 §⟨x,y,rfl,h1,h3⟩
÷g01{K:Â}{zA:Option Ç}{H:Hp}{d:D}{l:List D}{v:V}(h:Hd K (hz zA H) d v)(e:a11 d=some l):∃ a xs,v=.ref a/\(SqL K H a xs∨SqT K H a xs)/\HdA K (hz zA H) l xs:=by
 cases d with
 |tup m =>
  cases e
  ¶⟨a,xs,rfl,h1,h2⟩:=h.z70
  §⟨a,xs,rfl,.inr ((a20 zA H).sqT h1),h2⟩
 |lst m =>
  cases e
  ¶⟨a,xs,rfl,h1,h2⟩:=h.Y10
  §⟨a,xs,rfl,.inl (h1.same (a20 zA H)).sq,h2⟩
 |_=>cases e
÷t02:f00 X (.builtin "len") (rDn X.K (bfD .len)):=by
 intro pins s σ H xs us Q I r h
 ¶⟨zA,z,ds,w,st,hx,e,q⟩:=h
 match ds,e with
 |[d],e =>
  ¶⟨l,e1,rfl⟩:=Ê.mp (show(a11 d).map _=some w from e)
  ¶⟨x,rfl,h1⟩:=hx.one
  ¶⟨a,ys,rfl,h2,h3⟩:=g01 h1 e1
  §R10 pins s σ H _ us Q I r ⟨a,ys,rfl,h2,by rw[h3.length];§q _ _ (a30.refl H) i70⟩
÷O21:f00 X (.type "tuple") (rDn X.K (bfD .tuple)):=by
 intro pins s σ H xs us Q I r h
 ¶⟨zA,z,ds,w,st,hx,e,q⟩:=h
 match ds,e with
 |[d],e =>
  ¶⟨l,e1,rfl⟩:=Ê.mp (show(a11 d).map _=some w from e)
  ¶⟨x,rfl,h1⟩:=hx.one
  ¶⟨a,ys,rfl,h2,h3⟩:=g01 h1 e1
  ¤J50 pins s σ H _ us Q I r ⟨a,ys,rfl,?_⟩
  rcases h2 with h2 | h2
  ·¤.inl ⟨h2,λp hp=>q _ _ (a30.new _ hp) (H61 (Hd.tup ((st.same (a30.new _ hp)).d62 (SqT.of b20)) (h3.same (k40 (a30.new _ hp)))))⟩
  ·§.inr ⟨h2,q _ _ (a30.refl H) (H61 (Hd.tup (st.d62 h2) h3))⟩
÷e72:f00 X (.type "list") (rDn X.K (bfD .list)):=by
 intro pins s σ H xs us Q I r h
 ¶⟨zA,z,ds,w,st,hx,e,q⟩:=h
 match ds,e with
 |[d],e =>
  ¶⟨l,e1,rfl⟩:=Ê.mp (show(a11 d).map _=some w from e)
  ¶⟨x,rfl,h1⟩:=hx.one
  ¶⟨a,ys,rfl,h2,h3⟩:=g01 h1 e1
  §R20 pins s σ H _ us Q I r ⟨a,ys,rfl,h2,λp hp=>q _ _ (a30.new _ hp) (n20 st h3 hp)⟩
÷U81{K:Â}{H:Hp}:∀ {l:List D}{bs:List Bool}{vs:List V},l.mapM asB=some bs->HdA K H l vs->vs=bs.map V.bl
 |[],_,_,e,h=>by simp at e;subst e;rw[h.f30];rfl
 |x::r,_,_,e,h=>by
  simp only[mapM_cons,bind,Î] at e
  ¶⟨b,e1,bs,e2,e3⟩:=e
  cases e3
  ¶⟨y,ys,rfl,h1,h2⟩:=h.c40
  cases x with
  |bl c=>cases e1;cases h1.bl_;rw[U81 e2 h2];rfl
  |_=>cases e1
÷t12(hc:X.calm=true):f00 X (.builtin "all") (rDn X.K (bfD .all)):=by
 intro pins s σ H xs us Q I r h
 ¶⟨zA,z,ds,w,st,hx,e,q⟩:=h
 match ds,e with
 |[.lst l],e =>
  ¶⟨bs,e1,rfl⟩:=Ê.mp (show(l.mapM asB).map _=some w from e)
  ¶⟨x,rfl,h1⟩:=hx.one
  ¶⟨a,ys,rfl,h2,h3⟩:=h1.Y10
  rw[U81 e1 h3] at h2
  §K21 hc pins s σ H _ us Q I r ⟨a,bs,rfl,(h2.same (a20 zA H)).sq,q _ _ (a30.refl H) h90⟩
÷g21:∀ {ns:List Int}{vs:List Ä},Vals (ns.map V.int) vs->∃ xs:List (Int × Tok),vs=xs.map (λp=>.int p.1 p.2)/\xs.map (·.1)=ns
 |[],_,h=>by cases h;§⟨[],rfl,rfl⟩
 |n::r,_,h=>by
  cases h with
  |cons h1 h2 =>
   ¶⟨t,rfl⟩:=h1
   ¶⟨xs,rfl,e⟩:=g21 h2
   §⟨(n,t)::xs,rfl,by rw[Å7,e]⟩
÷O31(hc:X.calm=true):f00 X (.builtin "sum") (λxs H Q=>∃ (a:Ç) (ns:List Int),xs=[.ref a]/\(SqL X.K H a (ns.map V.int)∨SqT X.K H a (ns.map V.int))/\Q (.int ns.sum) H):=by
 intro pins s σ H xs us Q I r h
 ¶⟨a,ns,rfl,hq,q⟩:=h
 ¶⟨u,rfl,rx⟩:=vals1 r
 cases rx
 have fin:∀ {its:List Ä},Vals (ns.map V.int) its->∃ xs:Array (Int × Tok),its.toArray=intItems xs/\preSum (numAt xs) xs.size=ns.sum:=λ{its} rv=>by
  ¶⟨xs,rfl,e⟩:=g21 rv
  §⟨xs.toArray,by simp[intItems],by rw[preSum_eq,È5 (by simp)];simp[e]⟩
 rcases hq with hq | hq
 ·¶⟨its,rv,p,_⟩:=I.list hq
  ¶⟨xs,e1,e2⟩:=fin rv
  §sum_intListG (I.ok.hd hc) (e1 ▸ p.isList) λh' tk t' k=>⟨.int ns.sum,H,I.kept k,by rw[e2];§⟨_,rfl⟩,q⟩
 ·¶⟨its,rv,p,_⟩:=I.tuple hq
  ¶⟨xs,e1,e2⟩:=fin rv
  §W.ktm_sumG (I.ok.hd hc) (e1 ▸ p) λh' tk t' k=>⟨.int ns.sum,H,I.kept k,by rw[e2];§⟨_,rfl⟩,q⟩
÷U91{K:Â}{H:Hp}:∀ {l:List D}{i:Int}{vs:List V},r62 l=some i->HdA K H l vs->∃ ns:List Int,vs=ns.map V.int/\ns.sum=i
 |[],_,_,e,h=>by cases e;rw[h.f30];§⟨[],rfl,rfl⟩
 |.int j::r,_,_,e,h=>by
  ¶⟨k,e1,rfl⟩:=Ê.mp (show(r62 r).map _=_ from e)
  ¶⟨v,q,rfl,h1,h2⟩:=h.c40
  ¶⟨ns,rfl,e2⟩:=U91 e1 h2
  cases h1.i20
  §⟨j::ns,rfl,by rw[List.sum_cons,e2]⟩
÷t22(hc:X.calm=true):f00 X (.builtin "sum") (rDn X.K (bfD .sum)):=by
 intro pins s σ H xs us Q I r h
 ¶⟨zA,z,ds,w,st,hx,e,q⟩:=h
 match ds,e with
 |[d],e =>
  ¶⟨i,e1,rfl⟩:=Ê.mp (show((a11 d).bind r62).map _=some w from e)
  ¶⟨l,e2,e3⟩:=Î.mp e1
  ¶⟨x,rfl,h1⟩:=hx.one
  ¶⟨a,ys,rfl,h2,h3⟩:=g01 h1 e2
  ¶⟨ns,rfl,rfl⟩:=U91 e3 h3
  §O31 hc pins s σ H _ us Q I r ⟨a,ns,rfl,h2,q _ _ (a30.refl H) (show Hd X.K (hz zA H) _ _ from Hd.int)⟩
÷t32(hc:X.calm=true):f00 X (.builtin "min") (rDn X.K (bfD .min)):=by
 intro pins s σ H xs us Q I r h
 ¶⟨zA,z,ds,w,st,hx,e,q⟩:=h
 match ds,e with
 |[.int i,.int j],e =>
  cases e
  ¶⟨x,y,rfl,h1,h2⟩:=hx.two
  cases h1.i20;cases h2.i20
  §r61 hc pins s σ H _ us Q I r ⟨i,j,rfl,q _ _ (a30.refl H) i70⟩
÷t42(hc:X.calm=true):f00 X (.builtin "max") (rDn X.K (bfD .max)):=by
 intro pins s σ H xs us Q I r h
 ¶⟨zA,z,ds,w,st,hx,e,q⟩:=h
 match ds,e with
 |[.int i,.int j],e =>
  cases e
  ¶⟨x,y,rfl,h1,h2⟩:=hx.two
  cases h1.i20;cases h2.i20
  §r51 hc pins s σ H _ us Q I r ⟨i,j,rfl,q _ _ (a30.refl H) i70⟩
÷t52:f00 X (.builtin "abs") (rDn X.K (bfD .abs)):=by
 intro pins s σ H xs us Q I r h
 ¶⟨zA,z,ds,w,st,hx,e,q⟩:=h
 match ds,e with
 |[.int i],e =>
  cases e
  ¶⟨x,rfl,h1⟩:=hx.one
  cases h1.i20
  §I81 pins s σ H _ us Q I r ⟨i,rfl,q _ _ (a30.refl H) i70⟩
÷t62:f00 X (.type "int") (rDn X.K (bfD .int)):=by
 intro pins s σ H xs us Q I r h
 ¶⟨zA,z,ds,w,st,hx,e,q⟩:=h
 match ds,e with
 |[.int i],e =>
  cases e
  ¶⟨x,rfl,h1⟩:=hx.one
  cases h1.i20
  §Q30 pins s σ H _ us Q I r (.inl ⟨i,rfl,q _ _ (a30.refl H) i70⟩)
 |[.bl b],e =>
  cases e
  ¶⟨x,rfl,h1⟩:=hx.one
  cases h1.bl_
  §Q30 pins s σ H _ us Q I r (.inr ⟨b,rfl,q _ _ (a30.refl H) i70⟩)
def tyN:Ty->String
 |.int=>"int" | .bool=>"bool" | .tuple=>"tuple" | .list=>"list" | .str=>"str" | .seq=>""
÷e82(t:Ty)(d:D)(h:t≠.seq):isB d.ty (tyN t)=U61 t d:=by
 cases t <;> cases d <;> first | rfl | (§absurd rfl h) | decide
÷O41(d:D):(isB d.ty "tuple" || isB d.ty "list")=U61 .seq d:=by cases d <;> rfl
÷at_of{K:Â}{H:Hp}{l:List D}{xs:List V}{i:Int}{d:D}(h:HdA K H l xs)(e:atI l i=some d):∃ v,atI xs i=some v/\Hd K H d v:=by
 unfold atI at e ⊢
 ¶⟨j,e1,e2⟩:=Î.mp e
 rw[h.length,e1]
 §h.get e2
÷ixD:IxR X (rD2 X.K λa b=>(n61 a b).map S.d):=by
 intro value slice pins s σ H x y v u Q I rx ry h hs
 ¶⟨zA,z,dx,dy,w,st,hx,hy,e,q⟩:=h
 ¶⟨r,e1,rfl⟩:=Ê.mp e
 cases dx with
 |tup l =>
  cases dy with
  |int i =>
   cases hy.i20
   ¶⟨a,xs,rfl,h1,h2⟩:=hx.z70
   ¶⟨v',e2,h3⟩:=at_of h2 e1
   §p02 value slice pins s σ H _ _ v u Q I rx ry ⟨a,xs,i,v',rfl,rfl,(a20 zA H).sqT h1,e2,q _ _ (a30.refl H) (H61 h3)⟩ hs
  |_=>cases e1
 |lst l =>
  cases dy with
  |int i =>
   cases hy.i20
   ¶⟨a,xs,rfl,h1,h2⟩:=hx.Y10
   ¶⟨v',e2,h3⟩:=at_of h2 e1
   §Y70 value slice pins s σ H _ _ v u Q I rx ry ⟨a,xs,i,v',rfl,rfl,(h1.same (a20 zA H)).sq,e2,q _ _ (a30.refl H) (H61 h3)⟩ hs
  |_=>cases e1
 |_=>cases e1
÷V01{K:Â}{H:Hp}{l:List D}{xs:List V}(h:HdA K H l xs)(lo hi:Option Int):HdA K H (cutD l lo hi) (J21 xs lo hi):=by
 unfold cutD J21
 rw[h.length]
 §(h.drop _).take _
def V32(K:Â):V->Option Int->Option Int->Hp->VK->Prop:=λx lo hi H Q=>∃ zA z dx s,e40 zA z H/\Hd K (hz zA H) dx x/\slD dx lo hi=some s/\∀ v H',a30 H H'->RvS K zA H H' s v->Q v H'
÷V42:SlR X (V32 X.K):=by
 intro pins s σ H x v vl vu lo hi sl Q I rx hs pl pu h
 ¶⟨zA,z,dx,w,st,hx,e,q⟩:=h
 cases dx with
 |tup l =>
  cases e
  ¶⟨a,xs,rfl,h1,h2⟩:=hx.z70
  §b42 pins s σ H _ v vl vu lo hi sl Q I rx hs pl pu ⟨a,xs,rfl,(a20 zA H).sqT h1,tupQ st (V01 h2 lo hi) q⟩
 |lst l =>
  cases e
  ¶⟨a,xs,rfl,h1,h2⟩:=hx.Y10
  §Z71 pins s σ H _ v vl vu lo hi sl Q I rx hs pl pu ⟨a,xs,rfl,(h1.same (a20 zA H)).sq,λp hp=>q _ _ (a30.new _ hp) (n20 st (V01 h2 lo hi) hp)⟩
 |_=>cases e
end
end Q
namespace Q
open PySem L2 PySem.Spec PyProof.Rows
open PySem.W (KatLex KatTups kat_nil kat_cons kat_go kat_yes kat_no kat_one kat_lt kat_kind kas_kind kat_lt_int)
÷D20(k:D):∀ l,(q21 k l).Perm (k::l)
 |[]=>.refl _
 |y::r=>by
  unfold q21
  split
  ·§((D20 k r).cons y).trans (.swap _ _ _)
  ·§.refl _
÷w50:∀ l,(u20 l).Perm l
 |[]=>.refl _
 |k::r=>(D20 k _).trans ((w50 r).cons k)
÷x11(k:D):∀ l,l.Pairwise (λx y=>MySort.h70 (flt y) (flt x)=false)->(q21 k l).Pairwise (λx y=>MySort.h70 (flt y) (flt x)=false)
 |[],_=>List.pairwise_singleton _ _
 |y::r,h=>by
  ¶⟨h1,h2⟩:=Ê7.mp h
  unfold q21
  split
  ·rename_i hy
   ¤Ê7.mpr ⟨λz hz=>?_,x11 k r h2⟩
   rcases ú.mp ((D20 k r).mem_iff.mp hz) with rfl | hz
   ·cases q:MySort.h70 (flt z) (flt y) with
    |false=>rfl
    |true=>have:=MySort.p60 _ _ _ hy q;rw[MySort.r80] at this;cases this
   ·§h1 z hz
  ·rename_i hy
   ¤Ê7.mpr ⟨λz hz=>?_,h⟩
   rcases ú.mp hz with rfl | hz
   ·simpa using hy
   ·cases q:MySort.h70 (flt z) (flt k) with
    |false=>rfl
    |true =>
     rcases MySort.f01 _ (flt y) _ q with q | q
     ·rw[h1 z hz] at q;cases q
     ·§absurd q hy
÷g31:∀ l,(u20 l).Pairwise (λx y=>MySort.h70 (flt y) (flt x)=false)
 |[]=>.nil
 |k::r=>x11 k _ (g31 r)
mutual
theorem V11:∀ x y:D,eqT x y=true->x=y
 |.int i,y,h=>by
  cases y with
  |int j=>rw[eq_of_beq (show(i == j)=true from h)]
  |_=>cases h
 |.tup a,y,h=>by
  cases y with
  |tup b=>rw[a61 a b h]
  |_=>cases h
 |.non,y,h=>by cases y <;> cases h
 |.bl _,y,h=>by cases y <;> cases h
 |.str _,y,h=>by cases y <;> cases h
 |.lst _,y,h=>by cases y <;> cases h
 |.dct,y,h=>by cases y <;> cases h
theorem a61:∀ x y:List D,X90 x y=true->x=y
 |[],[],_=>rfl
 |[],_::_,h=>by cases h
 |_::_,[],h=>by cases h
 |x::r,y::q,h=>by
  have h:(eqT x y&&X90 r q)=true:=h
  rw[Á] at h
  rw[V11 x y h.1,a61 r q h.2]
end
variable [TB:Tb]
÷e92(ok:∀ x∈l,∀ y∈l,flt x=flt y->x=y)(h:MySort.sortedBy (l.map flt) p):(p.map λi=>l.getD i .non)=u20 l:=by
 have h1:=h.1.map λi=>l.getD i .non
 rw[É,MySort.range_getD] at h1
 have e:((p.map λi=>l.getD i .non).map flt)=p.map λi=>(l.map flt).getD i []:=by
  rw[ó]
  ¤Å8 λi hi=>?_
  have:i < l.length:=by have:=h.1.mem_iff.mp hi;simpa using this
  simp[this]
 have h2:(p.map λi=>l.getD i .non).Pairwise λx y=>MySort.h70 (flt y) (flt x)=false:=by
  have:=h.2
  rw[← e,Ú1] at this
  §this
 ¤È8 (le:=λx y=>MySort.h70 (flt y) (flt x)=false) (λa b ha hb p q=>?_) h2 (g31 l) (h1.trans (w50 l).symm)
 §ok a (h1.mem_iff.mp ha) b ((w50 l).mem_iff.mp hb) (MySort.p70 _ _ q p)
mutual
theorem O51(kp:MySort.t71 h h'):∀ (d:D) {u:Ä}{as:List Ç},eqT d d=true->Reads h u (toP d) as->Reads h' u (toP d) as
 |.int i,_,_,_,r=>by cases r;§.int _ _
 |.tup l,_,_,e,r=>by
  cases r with
  |tuple k1 k2 k3 k4=>§.tuple (kp _ _ k1 k2) k2 k3 (o50 kp l e k4)
 |.non,_,_,e,_=>by cases e
 |.bl _,_,_,e,_=>by cases e
 |.str _,_,_,e,_=>by cases e
 |.lst _,_,_,e,_=>by cases e
 |.dct,_,_,e,_=>by cases e
theorem o50(kp:MySort.t71 h h'):∀ (l:List D) {us:List Ä}{as:List Ç},X90 l l=true->ReadsAll h us (P50 l) as->ReadsAll h' us (P50 l) as
 |[],_,_,_,r=>by cases r;§.nil
 |x::q,_,_,e,r=>by
  have e:(eqT x x&&X90 q q)=true:=e
  rw[Á] at e
  cases r with
  |cons r1 r2=>§.cons (O51 kp x e.1 r1) (o50 kp q e.2 r2)
end
÷e80.get:∀ {us:List Ä}{l:List D}{i:Nat}{d:D},e80 h us l->l[i]?=some d->n81 h (us.getD i â) d
 |_,[],i,d,_,e=>by cases e
 |us,x::r,i,d,hd,e=>by
  ¶⟨u,q,rfl,h1,h2⟩:=hd.c40
  cases i with
  |zero=>cases e;simpa using h1
  |succ i=>simpa using e80.get h2 (by simpa using e)
÷e80.len:∀ {us:List Ä}{l:List D},e80 h us l->us.length=l.length
 |_,[],hd=>by rw[hd.f30];rfl
 |us,x::r,hd=>by
  ¶⟨u,q,rfl,h1,h2⟩:=hd.c40
  simp[e80.len h2]
def V21(l:List D):Prop:=∀ x r,l=x::r->∃ i,x=.int i
÷P52(hu:A.units + 40 < Å9):∀ (a c:List D) {vs us:List Ä}{r:Bool} (i:Nat),e80 s.heap vs a->e80 s.heap us c->N41 a c=some r->f80 a<=39 ->
  ((b&&i == 0)=true->V21 a/\V21 c)->fin=decide (vs.length < us.length)->Q r s->KatLex P w A b fin Q (vs.zip us) i s
 |[],[],_,_,r,i,ha,hc,e,_,_,hf,q=>by
  cases ha.f30;cases hc.f30;cases e;subst hf;§kat_nil q
 |[],y::t,_,_,r,i,ha,hc,e,_,_,hf,q=>by
  cases ha.f30
  ¶⟨u,us,rfl,_,_⟩:=hc.c40
  cases e;subst hf;§kat_nil q
 |x::l,[],_,_,r,i,ha,hc,e,_,_,hf,q=>by
  cases hc.f30
  ¶⟨v,vs,rfl,_,_⟩:=ha.c40
  cases e;subst hf;§kat_nil q
 |x::l,y::t,_,_,r,i,ha,hc,e,hd,hi,hf,q=>by
  ¶⟨v,vs,rfl,a1,a2⟩:=ha.c40
  ¶⟨u,us,rfl,c1,c2⟩:=hc.c40
  have d1:deep x<=39:=Ñ (Nat.le_max_left _ _) hd
  have d2:f80 l<=39:=Ñ (Nat.le_max_right _ _) hd
  have e:(if eqD x y=true then N41 l t else ltD x y)=some r:=e
  ¤kat_cons (s32 (A:=A) a1 c1 (by omega) P w _ _ ?_)
  ¤kat_go (λz=>?_) λz=>?_
  ·rw[if_pos z] at e
   ¤kat_yes (P52 hu l t (i + 1) a2 c2 e d2 (λk=>?_) (by rw[hf];simp) q)
   simp at k
  ·rw[if_neg (by rw[z];§Ð)] at e
   ¤kat_no ?_
   cases hb:(b&&i == 0) with
   |true =>
    ¶⟨f1,f2⟩:=hi hb
    ¶⟨m,rfl⟩:=f1 x l rfl
    ¶⟨n,rfl⟩:=f2 y t rfl
    cases e
    ¶⟨_,_,r1⟩:=a1
    ¶⟨_,_,r2⟩:=c1
    cases r1;cases r2
    §oneLt_int q
   |false=>§kat_one _ _ ((e62 39 (A:=A) (s:=s)).1 x y v u r d1 a1 c1 e (by omega) P w _ _ q)
÷a71(h:w21 x=0):∃ i,x=.int i:=by
 cases x with
 |int i=>§⟨i,rfl⟩
 |tup l =>
  cases l with
  |nil=>cases h
  |cons y r=>cases y <;> cases h
 |_=>cases h
÷a81(h:w21 x=k)(h1:1<=k)(h3:k < 3):∃ y r,x=.tup (y::r)/\(k=1->∃ i,y=.int i)/\(k=2->∃ l,y=.tup l):=by
 cases x with
 |tup l =>
  cases l with
  |nil=>have:k=3:=h.symm;omega
  |cons y r =>
   ¤⟨y,r,rfl,λe=>?_,λe=>?_⟩ <;> subst e <;> cases y <;> first | §⟨_,rfl⟩ | cases h
 |int i=>have:k=0:=h.symm;omega
 |_=>have:k=3:=h.symm;omega
÷f02(h1:1<=k)(h3:k < 3):∀ {us:List Ä}{l:List D},e80 h us l->(∀ x∈l,w21 x=k)->∃ fs,KatTups h us fs/\fs.length=us.length/\∀ v∈fs,(k=1->∃ i t,v=Æ3 i t)/\(k=2->∃ a o,v=Ã3 a/\h.get? a=some o/\o.cls=.type "tuple")
 |_,[],hd,_=>by rw[hd.f30];§⟨[],.nil,rfl,λv hv=>absurd hv (by simp)⟩
 |_,x::r,hd,hk=>by
  ¶⟨u,q,rfl,⟨_,as,r1⟩,h2⟩:=hd.c40
  ¶⟨fs,t1,t2,t3⟩:=f02 h1 h3 h2 λy hy=>hk y (È _ hy)
  ¶⟨y,l,rfl,y1,y2⟩:=a81 (hk x Ì) h1 h3
  cases r1 with
  | @tuple a o vs n xs as k1 k2 k3 k4 =>
   cases hv:vs.toList with
   |nil=>rw[hv] at k4;cases k4
   |cons f fr =>
    rw[hv] at k4
    cases k4 with
    |cons f1 f2 =>
     ¤⟨f::fs,.cons k1 k2 k3 (by rw[← ô,hv];rfl) t1,by simp[t2],λv hm=>?_⟩
     rcases ú.mp hm with rfl | hm
     ·¤⟨λe=>?_,λe=>?_⟩
      ·¶⟨i,rfl⟩:=y1 e
       cases f1;§⟨_,_,rfl⟩
      ·¶⟨m,rfl⟩:=y2 e
       cases f1 with
       |tuple g1 g2 g3 g4=>§⟨_,_,rfl,g1,g2⟩
     ·§t3 v hm
def kdOf:Nat->Ì6
 |0=>Ù0
 |1=>tuples' true
 |_=>tuples' false
÷a91(h:i60 x y=true):w21 y=w21 x/\ltD x y=some (MySort.h70 (flt x) (flt y))/\(flt x=flt y->x=y):=by
 unfold i60 at h
 rw[Á,Á,Å6] at h
 ¤⟨eq_of_beq h.1,eq_of_beq h.2.1,λe=>?_⟩
 rcases h.2.2 with k | k
 ·§V11 _ _ k
 ·rw[e] at k;simp at k
÷x21(h64:us.length < 64)(hd:e80 s.heap us l)(hu:A.units + 40 < Å9)(k3:k < 3)(hk:∀ x∈l,w21 x=k)(ho:∀ x∈l,okD x=true)(hp:∀ x∈l,∀ y∈l,i60 x y=true):MySort.l02 P w A s us (MySort.sortedBy (l.map flt)) (kdOf k) where
 len:=by omega
 few h2:=MySort.p62 (by rw[É];§hd.len) h2
 all p hp:=by rw[hp.1.length_eq,ù,É,hd.len]
 kind h2 E Q q:=by
  match k,k3,hk,q with
  |0,_,hk,q =>
   ¤kas_kind h2 (T:=.type "int") (λv hv=>?_) rfl rfl q
   ¶⟨i,hi,rfl⟩:=Õ4.mp hv
   have hi':i < l.length:=by rw[← hd.len];§hi
   ¶⟨_,as,r⟩:=hd.get (i:=i) (d:=l[i]) (by simp[hi'])
   ¶⟨n,hn⟩:=a71 (hk l[i] (É0 hi'))
   rw[hn] at r
   have e:us.getD i â=us[i]:=by simp[hi]
   rw[e] at r
   generalize us[i]=v at r
   cases r
   §Û9 rfl
  |1,_,hk,q =>
   ¶⟨fs,t1,t2,t3⟩:=f02 (by decide) (by decide) hd hk
   §kat_kind (T:=.type "int") t1 (by omega) (λv hv=>by obtain⟨i,t,rfl⟩:=(t3 v hv).1 rfl;§Û9 rfl) rfl q
  |2,_,hk,q =>
   ¶⟨fs,t1,t2,t3⟩:=f02 (by decide) (by decide) hd hk
   §kat_kind (T:=.type "tuple") t1 (by omega) (λv hv=>by
    ¶⟨a,o,rfl,g1,g2⟩:=(t3 v hv).2 rfl
    rw[← g2];§(Í9 g1).andThen .now) rfl q
 run:=MySort.a52 (by rw[É];§hd.len) h64 λi j hi hj E C hC=>by
  have hi':i < l.length:=by rw[← hd.len];§hi
  have hj':j < l.length:=by rw[← hd.len];§hj
  have mi:=É0 hi'
  have mj:=É0 hj'
  ¶⟨_,h2,_⟩:=a91 (hp _ mi _ mj)
  have a1:=hd.get (i:=i) (d:=l[i]) (by simp[hi'])
  have b1:=hd.get (i:=j) (d:=l[j]) (by simp[hj'])
  have e1:(l.map flt).getD i []=flt l[i]:=by simp[hi']
  have e2:(l.map flt).getD j []=flt l[j]:=by simp[hj']
  rw[e1,e2] at hC
  generalize MySort.h70 (flt l[i]) (flt l[j])=c at h2 hC
  have kx:=hk _ mi
  have ky:=hk _ mj
  have ox:=M00 (ho _ mi)
  generalize l[i]=x at *
  generalize l[j]=y at *
  have tup:∀ b:Bool,1<=k->(b=true->k=1)->Ï (Ô P w) A (keyLt' (tuples' b) (us.getD i â) (us.getD j â)) C E s:=λb h1 hb=>by
   ¶⟨x1,xr,rfl,x2,_⟩:=a81 kx h1 k3
   ¶⟨y1,yr,rfl,y2,_⟩:=a81 ky h1 k3
   ¶⟨f1,as,r1⟩:=a1
   ¶⟨f2,bs,r2⟩:=b1
   generalize us.getD i â=v at r1
   generalize us.getD j â=u at r2
   cases r1 with
   |tuple p1 p2 p3 p4 =>
    cases r2 with
    |tuple q1 q2 q3 q4 =>
     ¤kat_lt p1 p3 q1 q3 (P52 hu (x1::xr) (y1::yr) 0 ⟨f1,_,p4⟩ ⟨f2,_,q4⟩ h2 (by have:deep (.tup (x1::xr))=f80 (x1::xr) + 1:=rfl;omega) (λz=>?_) (by simp) hC)
     have hb1:=hb (by simpa using z)
     §⟨λa q e=>by cases e;§x2 hb1,λa q e=>by cases e;§y2 hb1⟩
  match k,k3,kx,ky,tup with
  |0,_,kx,ky,_ =>
   ¶⟨m,rfl⟩:=a71 kx
   ¶⟨n,rfl⟩:=a71 ky
   cases h2
   ¶⟨_,_,r1⟩:=a1
   ¶⟨_,_,r2⟩:=b1
   generalize us.getD i â=v at r1
   generalize us.getD j â=u at r2
   cases r1;cases r2
   §kat_lt_int hC
  |1,_,_,_,tup=>§tup true (by decide) λ_=>rfl
  |2,_,_,_,tup=>§tup false (by decide) λh=>by cases h
÷HdA.pick{K:Â}{H:Hp}{l:List D}{vs:List V}(h:HdA K H l vs):∀ {p:List Nat},(∀ i∈p,i < l.length)->HdA K H (p.map λi=>l.getD i .non) (p.map λi=>vs.getD i .non)
 |[],_=>.nil
 |i::p,hp=>by
  have hi:=hp i Ì
  ¤.cons ?_ (HdA.pick h λj hj=>hp j (È _ hj))
  ¶⟨v,e1,e2⟩:=h.get (i:=i) (d:=l[i]) (by simp[hi])
  have g1:l.getD i .non=l[i]:=by simp[hi]
  have g2:vs.getD i .non=v:=by rw[Ö,e1];rfl
  show Hd K H (l.getD i .non) (vs.getD i .non)
  rw[g1,g2];§e2
end Q
namespace Q
open PySem L2 PySem.Spec PyProof.Rows
open PySem.W (kas_mapM kas_first_eq kas_item kas_item_eq kas_cmp)
÷f12(h:k<=8):∀ i∈TS.sN k,i < 2 ^ k:=by
 have:∀ k,k < 9->((TS.sN k).all λi=>Nat.blt i (2 ^ k))=true:=by decide +kernel
 intro i hi
 §Nat.blt_eq.mp (Õ.mp (this k (by omega)) i hi)
÷t72(h:k<=8):(TS.sN k).length=2 ^ k:=by
 have:∀ k,k < 9->beq (TS.sN k).length (2 ^ k)=true:=by decide +kernel
 §Nat.eq_of_beq_eq_true (this k (by omega))
÷u30(h:i < 2 ^ k):(h80 k)[i]?=some (s10 k i):=by
 unfold h80
 rw[Ý,É7 h];rfl
÷t82(h:k<=8):((TS.sN k).map λi=>(h80 k).getD i .non)=N61 k :=
 Å8 λi hi=>by rw[Ö,u30 (f12 h i hi)];rfl
÷x31:∀ a b:List Nat,N41 (a.map λ(i:Nat)=>.int i) (b.map λ(i:Nat)=>.int i)=some (TS.B92 a b)
 |[],[]=>rfl
 |[],_::_=>rfl
 |_::_,[]=>rfl
 |a::r,b::q=>by
  show(if ((a:Int) == (b:Int))=true then N41 (r.map λ(i:Nat)=>.int i) (q.map λ(i:Nat)=>.int i) else some (decide ((a:Int) < b)))=some (if beq a b=true then TS.B92 r q else Nat.blt a b)
  rw[x31 r q]
  by_cases h:a=b
  ·subst h;rw[if_pos (by simp),if_pos (Nat.beq_refl a)]
  ·rw[if_neg (by simp;omega),if_neg λe=>h (Nat.eq_of_beq_eq_true e)]
   congr 1
   rw[Í5,decide_eq_true_eq,Nat.blt_eq]
   omega
variable [TB:Tb]
section
variable {P:ß}{w:è}{A:ø}{E:Ä->Æ->Prop}{s:Æ}
def TupAt(h:ì)(v:Ä):Prop:=∃ a o xs n,v=.ref a/\h.get? a=some o/\o.cls=.type "tuple"/\o.data=.seq xs n
÷g41(ho:s.heap.get? a=some o)(hc:o.cls=.type "tuple")(hd:o.data=.seq xs n)(q:Q xs[0]? s):Ï (Ô P w) A (firstOfTuple' (.ref a)) Q E s:=by
 rw[kas_first_eq]
 ¤À (Ý6 (show PySem.W.Looks (Ô P w) s.heap (typeOf (.ref a)) o.cls from(Í9 ho).andThen .now) ?_)
 rw[hc,if_neg (by first | decide | simp)]
 §À (Ð5 ho hd (Å q))
÷T60:∀ (vs:List Ä),(∀ v∈vs,TupAt s.heap v)->∃ fs:List (Option Ä),∀ Q,Q fs s->Ï (Ô P w) A (vs.mapM firstOfTuple') Q E s
 |[],_=>⟨[],λQ q=>by rw[List.mapM_nil];§Å q⟩
 |v::vs,h=>by
  ¶⟨fs,hf⟩:=T60 vs λu hu=>h u (È _ hu)
  ¶⟨a,o,xs,n,rfl,ho,hc,hd⟩:=h v Ì
  ¤⟨xs[0]?::fs,λQ q=>?_⟩
  rw[mapM_cons]
  §À (g41 ho hc hd (À (hf _ (Å q))))
÷f22(ho:s.heap.get? a=some o)(hc:o.cls=.type "tuple")(hd:o.data=.seq #[] n)(h:∀ v∈vs,TupAt s.heap v)(q:Q Ù0 s):Ï (Ô P w) A (keyKind' (Ã3 a::vs).toArray) Q E s:=by
 ¶⟨fs,hf⟩:=T60 (P:=P) (w:=w) (A:=A) (E:=E) vs h
 rw[keyKind'_eq,List.mapM_toArray,map_eq_pure_bind,mapM_cons]
 ¤À (À (À (g41 ho hc hd (À (hf _ (Å (Å ?_)))))))
 rw[if_neg (by simp),if_neg (by simp)]
 rw[oneTypeOnly'_eq,List.mapM_toArray,map_eq_pure_bind]
 ¤À (À (À (kas_mapM (r:=.type "tuple") _ (λv hv Q' hq=>?_) (Å ?_))))
 ·have:TupAt s.heap v:=by
   rcases ú.mp hv with rfl | hv
   ·§⟨_,_,_,_,rfl,ho,hc,hd⟩
   ·§h v hv
  ¶⟨b,o',xs,m,rfl,ho',hc',_⟩:=this
  rw[← hc'] at hq
  §Ý6 (show PySem.W.Looks (Ô P w) s.heap (typeOf (.ref b)) o'.cls from(Í9 ho').andThen .now) hq
 ·have hall:((List.map (λ_=>Á6 "tuple") (Ã3 a::vs)).toArray.all λx=>x == Á6 "tuple")=true:=by
   simp only[List.all_toArray,all_map,Æ9]
   intro _ _
   rfl
  have h0:(List.map (λ_=>Á6 "tuple") (Ã3 a::vs)).toArray[0]?=some (Á6 "tuple"):=by simp
  rw[h0]
  simp only[hall,if_true]
  §Å (Å q)
÷t92(hl:Ï0 s.heap l i1)(hb:Ï0 s.heap b i2)(hu:A.units < Å9)(hx:Lx A.in1 s i1.toList i2.toList c)(q:Q c s):Ï (Ô P w) A (keyLt' Ù0 (.ref l) (.ref b)) Q E s:=by
 ¶⟨⟨cls,dd,data,sl⟩,ho,hc,n,hd⟩:=id hl;¶⟨⟨cls2,dd2,data2,sl2⟩,ho2,hc2,n2,hd2⟩:=id hb
 simp only at hc hd hc2 hd2;subst hc hd hc2 hd2
 rw[keyLt'_oneType,oneLt'_eq]
 simp only[if_true]
 ¤À (wpAny_cRoomFor hu (À (wpAny_callSpecialIfBound?_slot ⟨_,ho,rfl⟩ Ò9 (È2 Ò9 ⟨_,ho,rfl⟩ ß7 (Þ6 _ _) (D10 l b i1 i2 n n2 dd dd2 sl sl2 c) ⟨ho,ho2,hx,?_⟩))))
 §Â5 q
÷u02(h8:k<=8)(hd:e80 s.heap us (h80 k))(hu:A.units + 40 < Å9):MySort.l02 P w A s us (λp=>p=TS.sN k) Ù0 where
 len:=by rw[hd.len,h80,É,ù];§Ñ (û (by decide) h8) (by decide)
 few h2:=by
  rw[hd.len,h80,É,ù] at h2 ⊢
  cases k with
  |zero=>rfl
  |succ k=>have:=Nat.one_le_two_pow (n:=k);rw[Ú6] at h2;omega
 all p hp:=by subst hp;rw[hd.len,h80,É,ù,t72 h8]
 kind h2 E Q q:=by
  have ht:∀ i v,us[i]?=some v->∃ xs n a o,v=.ref a/\s.heap.get? a=some o/\o.cls=.type "tuple"/\o.data=.seq xs n/\(i=0->xs=#[]):=λi v e=>by
   have hi:i < us.length:=(Þ.mp e).1
   have hi':i < 2 ^ k:=by rw[hd.len,h80,É,ù] at hi;§hi
   ¶⟨_,as,r⟩:=hd.get (u30 hi')
   have e2:us.getD i â=v:=by rw[Ö,e];rfl
   rw[e2] at r
   have z0:∀ k,TS.B90 k 0 0=[]:=λk=>by
    have:∀ k i,TS.B90 k i 0=[]:=λk=>by
     induction k with
     |zero=>§λ_=>rfl
     |succ k ih=>§λi=>ih (i + 1)
    §this k 0
   cases i with
   |zero =>
    have r:Reads s.heap v (toP (.tup ((TS.B90 k 0 0).map λ(i:Nat)=>.int i))) as:=r
    rw[z0] at r
    cases r with
    | @tuple a o vs n xs as k1 k2 k3 k4 =>
     have:vs.toList=[]:=by cases hv:vs.toList with | nil=>rfl | cons _ _=>rw[hv] at k4;cases k4
     §⟨vs,n,a,o,rfl,k1,k2,k3,λ_=>Array.toList_eq_nil_iff.mp this⟩
   |succ i =>
    cases r with
    | @tuple a o vs n xs as k1 k2 k3 k4=>§⟨vs,n,a,o,rfl,k1,k2,k3,λe=>by cases e⟩
  match us,ht with
  |[],_=>simp at h2
  |v::vs,ht =>
   ¶⟨xs,n,a,o,rfl,h1,h3,h4,h5⟩:=ht 0 v rfl
   cases h5 rfl
   ¤f22 h1 h3 h4 (λu hu=>?_) q
   ¶⟨i,hi,rfl⟩:=Õ4.mp hu
   ¶⟨xs,n,a,o,e,h1,h3,h4,_⟩:=ht (i + 1) vs[i] (by simp[hi])
   §⟨a,o,xs,n,e,h1,h3,h4⟩
 run h2:=by
  have hl:us.length=2 ^ k:=by rw[hd.len,h80,É,ù]
  have h1:1<=k:=by
   cases k with
   |zero=>rw[hl] at h2;§absurd h2 (by decide)
   |succ k=>omega
  ¤TS.runL h1 h8 hl λi j C hi hj hC=>?_
  have e1:=kas_item_eq us i
  have e2:=kas_item_eq us j
  show Ï (Ô P w) A (keyLt' Ù0 (õ (pairsOf us) i).1 (õ (pairsOf us) j).1) C _ s
  rw[e1,e2]
  ¶⟨f1,as,r1⟩:=hd.get (u30 hi)
  ¶⟨f2,bs,r2⟩:=hd.get (u30 hj)
  show Ï (Ô P w) A (keyLt' Ù0 (us.getD i â) (us.getD j â)) C _ s
  generalize us.getD i â=v at r1
  generalize us.getD j â=u at r2
  cases r1 with
  |tuple p1 p2 p3 p4 =>
   cases r2 with
   |tuple q1 q2 q3 q4 =>
    ¤t92 ⟨_,p1,p2,_,p3⟩ ⟨_,q1,q2,_,q3⟩ (by omega) ((e62 40).2 _ _ _ _ _ ?_ ⟨f1,_,p4⟩ ⟨f2,_,q4⟩ (x31 _ _) (by omega)) hC
    have:∀ l:List Nat,f80 (l.map λ(i:Nat)=>.int i)=0:=λl=>by
     induction l with
     |nil=>rfl
     |cons x r ih=>show Ñ0 0 _=0;rw[ih];rfl
    rw[this];decide
end
section
variable {X:Cx}
÷f32{zA:Option Ç}{H:Hp}{k:Nat}{xs:List V}(hu:X.A.units + 64 < Å9)(hd:HdA X.K H (h80 k) xs)(h8:k<=8):b62 X H xs (λp=>p=TS.sN k):=by
 intro pins σ s us I rv
 have ci:∀ l:List Nat,e70 (l.map λ(i:Nat)=>.int i)=true/\X90 (l.map λ(i:Nat)=>.int i) (l.map λ(i:Nat)=>.int i)=true:=λl=>by
  induction l with
  |nil=>§⟨rfl,rfl⟩
  |cons x r ih=>§⟨ih.1,by show((x:Int) == (x:Int)&&_)=true;rw[ih.2];simp⟩
 have cl:∀ l:List Nat,e70 (l.map (s10 k))=true/\X90 (l.map (s10 k)) (l.map (s10 k))=true:=λl=>by
  induction l with
  |nil=>§⟨rfl,rfl⟩
  |cons x r ih =>
   ¤⟨?_,?_⟩
   ·show(e70 _&&_)=true;rw[(ci _).1,ih.1];rfl
   ·show(X90 _ _&&_)=true;rw[(ci _).2,ih.2];rfl
 ¶⟨as,ra⟩:=C90 I hd rv (cl _).1
 §⟨Ù0,λh' kp=>u02 h8 ⟨(cl _).1,_,o50 kp _ (cl _).2 ra⟩ (by show X.A.units + 1 + 1 + 40 < Å9;omega)⟩
÷f42{zA:Option Ç}{H:Hp}{l:List D}{xs:List V}(hu:X.A.units + 64 < Å9)(hd:HdA X.K H l xs)(h64:l.length < 64)(ok:n10 l=true):b62 X H xs (MySort.sortedBy (l.map flt)):=by
 intro pins σ s us I rv
 replace h64:us.length < 64:=by rw[← rv.length,hd.length];§h64
 have all:∀ x∈l,w21 x < 3/\okD x=true/\∀ y∈l,i60 x y=true:=λx hx=>by
  have:=Õ.mp ok x hx
  rw[Á,Á,decide_eq_true_eq,Æ9] at this
  §⟨this.1,this.2.1,this.2.2⟩
 have hf:e70 l=true:=by
  clear hd
  induction l with
  |nil=>rfl
  |cons x r ih =>
   have h1:=(o40 (all x Ì).2.1).1
   show(n00 x&&e70 r)=true
   rw[h1]
   have ok':n10 r=true:=Õ.mpr λy hy=>by
    ¶⟨a,b,c⟩:=all y (È _ hy)
    rw[Á,Á,decide_eq_true_eq,Æ9]
    §⟨a,b,λz hz=>c z (È _ hz)⟩
   §ih ok' λy hy=>⟨(all y (È _ hy)).1,(all y (È _ hy)).2.1,λz hz=>(all y (È _ hy)).2.2 z (È _ hz)⟩
 ¶⟨as,ra⟩:=C90 I hd rv hf
 have pure:X90 l l=true:=by
  clear hd ra hf ok
  have:∀ q:List D,(∀ x∈q,eqT x x=true)->X90 q q=true:=λq=>by
   induction q with
   |nil=>intro _;rfl
   |cons x r ih=>intro h;show(eqT x x&&X90 r r)=true;rw[h x Ì,ih λy hy=>h y (È _ hy)];rfl
  ¤this l λx hx=>?_
  have h:=(all x hx).2.2 x hx
  unfold i60 at h
  rw[Á,Á,Å6] at h
  rcases h.2.2 with k | k
  ·§k
  ·simp at k
 cases l with
 |nil=>§⟨kdOf 0,λh' kp=>x21 h64 ⟨hf,_,o50 kp _ pure ra⟩ (by show X.A.units + 1 + 1 + 40 < Å9;omega) (by decide) (λx hx=>absurd hx (by simp)) (λx hx=>absurd hx (by simp)) λx hx=>absurd hx (by simp)⟩
 |cons x r =>
  have hx:=all x Ì
  §⟨kdOf (w21 x),λh' kp=>x21 h64 ⟨hf,_,o50 kp _ pure ra⟩ (by show X.A.units + 1 + 1 + 40 < Å9;omega) hx.1 (λy hy=>(a91 (hx.2.2 y hy)).1) (λy hy=>(all y hy).2.1) λy hy=>(all y hy).2.2⟩
÷x41(hu:X.A.units + 64 < Å9):f00 X (.builtin "sorted") (rDn X.K (bfD .sorted)):=by
 intro pins s σ H xs us Q I r h
 ¶⟨zA,z,ds,w,st,hx,e,q⟩:=h
 match ds,e with
 |[x],e =>
  have e:sortedS x=some w:=e
  unfold sortedS at e
  ¶⟨l,h1,e⟩:=Î.mp e
  ¶⟨v,rfl,hv⟩:=hx.one
  have go:∀ (a:Ç) (ys:List V),v=.ref a->(SqL X.K H a ys∨SqT X.K H a ys)->HdA X.K (hz zA H) l ys->Ï (Ô X.prog X.w) X.A (call (.builtin "sorted") us) (EP X pins σ Q) X.xe s:=λa ys hva hq hd=>by
   subst hva
   by_cases c:l.length < 64/\n10 l=true
   ·rw[if_pos c] at e
    cases e
    ¶⟨h64,ok⟩:=c
    ¤x80 pins s σ H _ us Q I r ⟨a,ys,MySort.sortedBy (l.map flt),rfl,hq,f42 (zA:=zA) hu (hd.same (a20 zA H)) h64 ok,λp hp i hi=>by have:=hp.1.mem_iff.mp hi;rw[hd.length];simpa using this,λp lA hp hn=>?_⟩
    have hd2:=hd.pick (p:=p) λi hi=>by have:=hp.1.mem_iff.mp hi;simpa using this
    rw[e92 (λx hx y hy=>?_) hp] at hd2
    ·§q _ _ (a30.new _ hn) (n20 st hd2 hn)
    ·have:=Õ.mp ok x hx
     rw[Á,Á,Æ9] at this
     §(a91 (this.2.2 y hy)).2.2
   ·rw[if_neg c] at e
    ¶⟨l',e1,rfl⟩:=Ê.mp e
    ¶⟨k,e2,rfl⟩:=Ê.mp e1
    have e3:=a61 _ _ (List.find?_some (p:=λk=>X90 l (h80 k)) e2)
    have k8:k<=8:=by have:=List.mem_of_find?_eq_some e2;simp at this;omega
    subst e3
    ¤x80 pins s σ H _ us Q I r ⟨a,ys,λp=>p=TS.sN k,rfl,hq,f32 (zA:=zA) hu (hd.same (a20 zA H)) k8,λp hp i hi=>?_,λp lA hp hn=>?_⟩
    ·subst hp;rw[hd.length,h80,É,ù];§f12 k8 i hi
    ·subst hp
     have hd2:=hd.pick (p:=TS.sN k) λi hi=>by rw[h80,É,ù];§f12 k8 i hi
     rw[t82 k8] at hd2
     §q _ _ (a30.new _ hn) (n20 st hd2 hn)
  cases x with
  |tup m =>
   cases h1
   ¶⟨a,ys,rfl,k1,k2⟩:=hv.z70
   §go a ys rfl (.inr ((a20 zA H).sqT k1)) k2
  |lst m =>
   cases h1
   ¶⟨a,ys,rfl,k1,k2⟩:=hv.Y10
   §go a ys rfl (.inl (k1.same (a20 zA H)).sq) k2
  |_=>cases h1
end
end Q
namespace SS
open PySem PySem.W PyProof.Rows MySort
def key:Ä->Int
 |.int i _=>i
 |_=>0
÷O61(m:Nat):(bts m).Pairwise (· < ·):=Ë0 _ È6
÷n91:∀ a:Nat,a < 8->∀ b:Nat,b < 8->Q.i60 (.int a) (.int b)=true:=by decide
section
variable {P:ß}{w:è}{A:ø}{E:Ä->Æ->Prop}{s:Æ}{S ep m:Nat}{g:Nat->Tok}{o:Obj}
def o01(w:è)(S ep:Nat)(g:Nat->Tok)(m:Nat):List Value:=(ord w S ep (ent g m)).toList.map (·.2)
def f52(w:è)(S ep:Nat)(g:Nat->Tok)(m:Nat):List L2.D:=(o01 w S ep g m).map λv=>.int (key v)
÷b01:(o01 w S ep g m).Perm ((bts m).map λ(i:Nat)=>Æ3 i (g i)):=by
 have:=(f81 w S ep (ent g m)).map (·.2)
 unfold ent at this
 rw[ó] at this
 §this
÷V31(h:v∈o01 w S ep g m):∃ i,i < 8/\v=.int (i:Nat) (g i):=by
 ¶⟨i,hi,rfl⟩:=Ú.mp (b01.mem_iff.mp h)
 §⟨i,(C50.mp hi).1,rfl⟩
÷T70(h:ì):∀ vs:List Ä,(∀ v∈vs,∃ (i:Nat) (t:Tok),v=.int i t)->Q.e80 h vs (vs.map λv=>.int (key v))
 |[],_=>⟨rfl,[],.nil⟩
 |v::r,k=>by
  ¶⟨i,t,rfl⟩:=k v Ì
  ¶⟨h1,as,h2⟩:=T70 h r λv hv=>k v (È _ hv)
  §⟨h1,_,.cons (.int _ _) h2⟩
÷O71(hp:sortedBy ((f52 w S ep g m).map Q.flt) p):(p.map λi=>(o01 w S ep g m).getD i â)=(bts m).map λ(i:Nat)=>Æ3 i (g i):=by
 ¶⟨h1,h2⟩:=hp
 have len:((f52 w S ep g m).map Q.flt).length=(o01 w S ep g m).length:=by unfold f52;simp
 rw[len] at h1
 have h3:(p.map λi=>(o01 w S ep g m).getD i â).Perm ((bts m).map λ(i:Nat)=>Æ3 i (g i)):=by
  ¤List.Perm.trans (h1.map _) ?_
  rw[MySort.range_getD];§b01
 ¤È8 (le:=λu v=>key u<=key v) (λu v hu hv l1 l2=>?_) ?_ ?_ h3
 ·¶⟨i,hi,rfl⟩:=Ú.mp (h3.mem_iff.mp hu)
  ¶⟨j,hj,rfl⟩:=Ú.mp hv
  have l1:(i:Int)<=j:=l1
  have l2:(j:Int)<=i:=l2
  have:i=j:=by omega
  rw[this]
 ·have e:(p.map λi=>((f52 w S ep g m).map Q.flt).getD i [])=(p.map λi=>(o01 w S ep g m).getD i â).map λv=>[key v]:=by
   rw[ó]
   ¤Å8 λi hi=>?_
   have hi:i < (o01 w S ep g m).length:=by simpa using h1.mem_iff.mp hi
   unfold f52
   simp[hi,Q.flt]
  rw[e,Ú1] at h2
  ¤h2.imp λ{u v} h=>?_
  have:h70 [key v] [key u]=false:=h
  simp[h70] at this
  omega
 ·rw[Ú1]
  §(O61 m).imp λ{a b} h=>by show(a:Int)<=b;omega
÷o21{R:Ä->Æ->Prop}(hh:A.handled=none)(hu:A.units + 64 < Å9)(hm:m < 256)(ho:s.heap.get? S=some o)(hx:o.ExactSet)(hd:o.data=.set (ent g m) ep (tbl (led w) m))
  (h:∀ lA h' tk c,s.heap.objs.size<=lA->(∀ b u,s.heap.get? b=some u->h'.get? b=some u)->h'.get? lA=some (Ã1 "list" ((bts m).map λ(i:Nat)=>Æ3 i (g i)).toArray c)->R (.ref lA) { s with heap:=h',toks:=tk }):Ï (Ô P w) A (call (.builtin "sorted") [.ref S]) R E s:=by
 have h64:(o01 w S ep g m).length<=8:=by
  rw[b01.length_eq,É]
  §Ñ (Å3 _ _) (by simp)
 ¤ß0 kind_sorted plain_sorted entry_sorted (args_sorted1 _) ?_
 unfold ÿ.«sorted»
 ¤À (m:=checkCount "sorted" 1 1 _) (Å ?_)
 ¤À (Z90 (by simp[hh]) hm ho hx hd λh1 tk lS kp1=>?_)
 ¤À (Û6 ?_ (by show(o01 w S ep g m).length<=_;rw[Á2];omega))
 have hoL:(h1.push (Ã1 "list" (o01 w S ep g m).toArray 0)).get? h1.objs.size=some (Ã1 "list" (o01 w S ep g m).toArray 0):=Ë _ rfl
 have kw:∀ h',l02 P w A.in1.in1 { s with heap:=h',toks:=tk } (o01 w S ep g m) (sortedBy ((f52 w S ep g m).map Q.flt)) (Q.kdOf 0):=λh'=>by
  have dm:∀ d∈f52 w S ep g m,∃ i:Nat,i < 8/\d=.int i:=λd hd=>by
   ¶⟨v,hv,rfl⟩:=Ú.mp hd
   ¶⟨i,hi,rfl⟩:=V31 hv
   §⟨i,hi,rfl⟩
  letI:Q.Tb:=⟨[]⟩
  ¤Q.x21 (by omega) (T70 h' _ λv hv=>by ¶⟨i,_,rfl⟩:=V31 hv;§⟨i,_,rfl⟩) (by show A.units + 1 + 1 + 40 < Å9;omega) (by decide) (λd hd=>?_) (λd hd=>?_) λd hd e he=>?_
  ·¶⟨i,_,rfl⟩:=dm d hd;rfl
  ·¶⟨i,_,rfl⟩:=dm d hd;rfl
  ·¶⟨i,hi,rfl⟩:=dm d hd
   ¶⟨j,hj,rfl⟩:=dm e he
   §n91 i hi j hj
 ¤À (À7 (À4 slot_list_sort ⟨_,hoL,rfl⟩ entry_list_sort (f11 hoL (λh' _=>kw h') λp h' c hp kp hD=>⟨_,rfl,Å ⟨_,rfl,?_⟩⟩) (args_list_sort _)))
 rw[O71 hp] at hD
 §h _ h' tk c (É3 lS) (λb u e=>kp b u (Ø (à (kp1 b u e))) (Ã _ (kp1 b u e))) hD
end
end SS
namespace Q
open PySem L2 PySem.Spec PyProof.Rows
variable [TB:Tb]
structure Gs where
 fns:List (Str × List Str)
 nums:List (Str × Int)
 F:FT
 cls:Nat->Addr
 lv:Nat
def EPost(G:Gs)(zA:Option Ç)(E:XK)(c:Nat)(z:Z)(H:Hp):Prop:=∀ e H',Ext zA H H'->e40 zA z H'->H' e=none->E (.ref (G.cls c)) (some e) H'
÷EPost.mono(h:EPost G zA E c z H)(e:Ext zA H H1):EPost G zA E c z H1:=λa H' x s n=>h a H' (e.trans x) s n
def H42(K:Â)(G:Gs)(zA:Option Ç)(E:XK)(H:Hp)(Q:VK):R S->Prop
 |.ok s z'=>∀ v H',Ext zA H H'->e40 zA z' H'->RvS K zA H H' s v->Q v H'
 |.er c z'=>EPost G zA E c z' H
def b11(K:Â)(G:Gs)(zA:Option Ç)(E:XK)(H:Hp)(Q:VK):R (List S)->Prop
 |.ok l z'=>∃ s,l=[s]/\∀ v H',Ext zA H H'->e40 zA z' H'->RvS K zA H H' s v->Q v H'
 |.er c z'=>EPost G zA E c z' H
def H52(K:Â)(G:Gs)(zA:Option Ç)(E:XK)(H:Hp)(Q:List V->Hp->Prop):R (List S)->Prop
 |.ok l z'=>∀ vs H',Ext zA H H'->e40 zA z' H'->Æ0 (RvS K zA H H') l vs->Q vs H'
 |.er c z'=>EPost G zA E c z' H
def O81(G:Gs)(zA:Option Ç)(E:XK)(H:Hp)(Q:Bool->Hp->Prop):R (List S)->Prop
 |.ok l z'=>∃ b,l=[.d (.bl b)]/\∀ H',Ext zA H H'->e40 zA z' H'->Q b H'
 |.er c z'=>EPost G zA E c z' H
def y00(K:Â)(zA:Option Ç)(H:Hp)(ρ:Env)(σ:L2.St):Prop:=∀ (i:Nat) (s:S),ρ[i]?=some (some s)->∃ v,σ[i]?=some (some v)/\RvP K zA H s v
÷y00.mono{K:Â}{zA:Option Ç}{H H':Hp}{ρ:Env}{σ:L2.St}(h:y00 K zA H ρ σ)(e:Ext zA H H'):y00 K zA H' ρ σ:=λi s q=>let ⟨v,a,b⟩:=h i s q;⟨v,a,b.mono e⟩
def tI(K:Â)(G:Gs)(E:XK)(x:Ex):TE:=λσ H Q=>∃ zA ρ z r,y00 K zA H ρ σ/\e40 zA z H/\ev G.F x ρ z=some r/\b11 K G zA E H Q r
def tA(K:Â)(G:Gs)(E:XK)(x:Ex):TA:=λσ H Q=>∃ zA ρ z r,y00 K zA H ρ σ/\e40 zA z H/\ev G.F x ρ z=some r/\H52 K G zA E H Q r
def tT(K:Â)(G:Gs)(E:XK)(x:Ex):TT:=λσ H Q=>∃ zA ρ z r,y00 K zA H ρ σ/\e40 zA z H/\ev G.F x ρ z=some r/\O81 G zA E H Q r
def spF(K:Â)(G:Gs)(f n:Nat):Sp:=λvs H Q E=>vs.length=n/\∃ zA z ss r,RvA K zA H ss vs/\e40 zA z H/\G.F false f ss z=some r/\H42 K G zA E H Q r
section
variable {K:Â}{G:Gs}{E:XK}{a x:Ex}{ρ:Env}{z:Z}{zA:Option Ç}{σ:L2.St}{H:Hp}
÷j40{α:Type}{k:List S->M α}{r:R α}{Q':VK}(rel:y00 K zA H ρ σ)(st:e40 zA z H)(h:M.bind (ev G.F a ρ) k z=some r)(her:∀ c z1,r=.er c z1->EPost G zA E c z1 H)
  (hok:∀ l z1,k l z1=some r->∃ s,l=[s]/\∀ v H1,Ext zA H H1->e40 zA z1 H1->RvS K zA H H1 s v->Q' v H1):tI K G E a σ H Q':=by
 rcases M.bind_some h with ⟨l,z1,e1,e2⟩ | ⟨c,z1,e1,e2⟩
 ·§⟨zA,ρ,z,_,rel,st,e1,hok l z1 e2⟩
 ·§⟨zA,ρ,z,_,rel,st,e1,her c z1 e2⟩
÷b21{α:Type}{k:List S->M α}{r:R α}{Q':List V->Hp->Prop}(rel:y00 K zA H ρ σ)(st:e40 zA z H)(h:M.bind (ev G.F a ρ) k z=some r)(her:∀ c z1,r=.er c z1->EPost G zA E c z1 H)
  (hok:∀ l z1,k l z1=some r->∀ vs H1,Ext zA H H1->e40 zA z1 H1->Æ0 (RvS K zA H H1) l vs->Q' vs H1):tA K G E a σ H Q':=by
 rcases M.bind_some h with ⟨l,z1,e1,e2⟩ | ⟨c,z1,e1,e2⟩
 ·§⟨zA,ρ,z,_,rel,st,e1,hok l z1 e2⟩
 ·§⟨zA,ρ,z,_,rel,st,e1,her c z1 e2⟩
÷T80{α:Type}{k:Bool->M α}{r:R α}{Q':Bool->Hp->Prop}(rel:y00 K zA H ρ σ)(st:e40 zA z H)(h:M.bind (ev G.F a ρ) (λx=>M.bind (M.of ((pl x).bind asB)) k) z=some r)(her:∀ c z1,r=.er c z1->EPost G zA E c z1 H)
  (hok:∀ b z1,k b z1=some r->∀ H1,Ext zA H H1->e40 zA z1 H1->Q' b H1):tT K G E a σ H Q':=by
 rcases M.bind_some h with ⟨l,z1,e1,e2⟩ | ⟨c,z1,e1,e2⟩
 ·¶⟨b,e3,e4⟩:=M.a10 e2
  ¶⟨d,e5,e6⟩:=Î.mp e3
  have el:l=[.d (.bl b)]:=by
   ¶⟨s,rfl,hs⟩:=f40 e5
   cases s with
   |d y=>cases hs;cases d <;> first | (cases e6;rfl) | cases e6
   |fr ys=>cases hs;cases e6
   |z=>cases hs
  §⟨zA,ρ,z,_,rel,st,e1,b,el,hok b z1 e4⟩
 ·§⟨zA,ρ,z,_,rel,st,e1,her c z1 e2⟩
÷D30{l:List S}{s:S}(h:one l=some s):l=[s]:=by
 unfold one at h
 split at h
 ·cases h;rfl
 ·cases h
end
÷PE.imp(h:PE X e t)(i:∀ σ H Q,t' σ H Q->t σ H Q):PE X e t':=λpins s σ H Q I q=>h pins s σ H Q I (i _ _ _ q)
÷PT.imp(h:PT X e t)(i:∀ σ H Q,t' σ H Q->t σ H Q):PT X e t':=λpins s σ H Q I q=>h pins s σ H Q I (i _ _ _ q)
÷PW.imp(h:PW X e t)(i:∀ σ H Q,t' σ H Q->t σ H Q):PW X e t':=λw pins s σ H Q I q=>h w pins s σ H Q I (i _ _ _ q)
÷PA.imp(h:PA X e t)(i:∀ σ H Q,t' σ H Q->t σ H Q):PA X e t':=λp pins s σ H Q I q=>h p pins s σ H Q I (i _ _ _ q)
def noStar:Ò->Bool
 |.Starred ..=>false
 |_=>true
÷c80(h:noStar e=true)(es:List Ò)(env:È7):þ (e::es) env=(false,eval e env)::þ es env:=by
 cases e <;> first | rfl | cases h
÷q00:∀ {es:List Ò} (env:È7) (pos:Pos),es.all noStar=true->(Ö0 pos (þ es env)).any (·.1)=false
 |[],_,_,_=>rfl
 |e::es,env,pos,h=>by
  rw[Ã9,Á] at h
  rw[c80 h.1]
  show(false || (Ö0 pos (þ es env)).any (·.1))=false
  rw[q00 env pos h.2];rfl
def plainT:Ò->Bool
 |.UnaryOp .Not _ _=>false
 |.BoolOp ..=>false
 |.IfExp ..=>false
 |.Compare ..=>false
 |_=>true
÷x51(h:plainT e=true)(env:È7)(whole:Sem Ä):isTrue e env whole=(do let v ← whole;standAt e.pos;Ù7 [v] (truthy v)):=by
 cases e with
 |UnaryOp op _ _=>cases op <;> first | rfl | cases h
 |BoolOp _ _ _=>cases h
 |IfExp _ _ _ _=>cases h
 |Compare _ _ _ _=>cases h
 |_=>rfl
def D40:Ò->Bool
 |.Slice ..=>false
 |_=>true
÷H10(h:D40 e=true):s01 e:=λo i=>by
 cases e with
 |Slice _ _ _ _=>cases h
 |_=>rfl
def z80:Ò->Bool
 |.Set ..=>false
 |_=>true
÷x61(h:z80 e=true)(op:CmpOp):behindInMarks op e=false:=by
 cases e with
 |Set _ _ _=>cases h
 |_=>rfl
structure b00(X:Cx)(G:Gs)(E:XK)(x:Ex)(e:Expr):Prop where
 pe:PE X e (tI X.K G E x)
 pt:(∀ t a b p,e≠.IfExp t a b p)->PT X e (tT X.K G E x)
 pw:∀ op vs p,e=.BoolOp op vs p->PW X e (tT X.K G E x)
÷b10(h:PE X e (tI X.K G E x))(hp:plainT e=true):b00 X G E x e:=by
 ¤⟨h,λ_=>PT.imp (q81 h (x51 hp X.env)) λσ H Q q=>?_,λop vs p he=>?_⟩
 ·¶⟨zA,ρ,z,r,rel,st,e,po⟩:=q
  ¤⟨zA,ρ,z,r,rel,st,e,?_⟩
  cases r with
  |er c z1=>§po
  |ok l z1 =>
   ¶⟨b,rfl,po⟩:=po
   §⟨_,rfl,λv H' ex st' rv=>⟨b,Hd.bl_ (show Hd X.K (hz zA H') (.bl b) v from rv),po H' ex st'⟩⟩
 ·subst he;cases hp
def isL:Ex->Bool
 |.nil=>true
 |.cons _ _=>true
 |_=>false
def Good(X:Cx)(G:Gs)(E:XK):Ex->List Ò->Prop
 |.nil,es=>es=[]
 |.cons a r,es=>∃ e es',es=e::es'/\noStar e=true/\b00 X G E a e/\isL r=true/\Good X G E r es'
 |x,es=>∃ e,es=[e]/\b00 X G E x e
÷Good.args:∀ {x:Ex}{es:List Ò},isL x=true->Good X G E x es->PA X es (tA X.K G E x)/\es.all noStar=true:=by
 intro x
 induction x with
 |nil =>
  intro es _ h
  have h:es=[]:=h
  subst h
  ¤⟨PA.imp r00 λσ H Q q=>?_,rfl⟩
  ¶⟨zA,ρ,z,r,rel,st,e,po⟩:=q
  cases e
  §po [] H Ext.refl st .nil
 |cons a r _ ih =>
  intro es _ h
  ¶⟨e,es',rfl,ns,g,lr,gr⟩:=h
  ¶⟨h1,h2⟩:=ih lr gr
  ¤⟨PA.imp (e60 g.pe h1 (c80 ns es' X.env)) λσ H Q q=>?_,by rw[Ã9,ns,h2];rfl⟩
  ¶⟨zA,ρ,z,rr,rel,st,e,po⟩:=q
  have her:∀ c z1,rr=.er c z1->EPost G zA E c z1 H:=λc z1 e=>by subst e;§po
  ¤j40 rel st e her λl z1 e1=>?_
  ¶⟨s,hs,e2⟩:=M.a10 e1
  ¤⟨s,D30 hs,λv H1 x1 st1 rv=>?_⟩
  ¤b21 (rel.mono x1) st1 e2 (λc z2 q=>(her c z2 q).mono x1) λl2 z2 e3 vs H2 x2 st2 rvs=>?_
  cases e3
  §po (v::vs) H2 (x1.trans x2) st2 (.cons (rv.mono x2) (Æ0.k92 rvs λ_ _ q=>q.from x1))
 |_=>intro es h;cases h
def f62:List Str:=["len","sorted","tuple","list","sum","min","max","abs","all","any","int","bool","str","isinstance","range","zip","enumerate","set"]
def lowG(G:Gs)(k:Nat):Gs:={ G with F:=j70 G.F,lv:=k }
structure H62(X:Cx)(G:Gs)(sc:Scope)(c P:Addr)(q:Str)(k:Nat)(fR:Addr)(fdR:FuncData):Prop where
 sco:X.env.scope=sc
 code:X.env.code=.ref c
 hd:PySem.W.codeHdIn X.K c P=true
 qual:X.env.qual++"<lambda>"=q
 tb:(P,q)∈TB.tb
 uq:∀ p∈TB.tb,p.1=P->p.2=q
 bm:BMain X.mg X.base
 lv:G.lv=k + 2
 cls:∀ j,j < 12->S30 X.K X.mg (G.cls j) j
 m:X.mg "_law_refused"=some (.ref fR)
 kp:PySem.W.keepIn X.K (.ref fR)=true
 bd:Binds X.K fdR ["_law_call"] []
 fn:n21 X.prog X.w X.K X.mg X.base CX0 (k + 2) fR fdR ["_law_call"] (c42 X.prog X.w X.K X.mg X.base (k + 1))
 low:∀ f nm ps,G.fns[f]?=some (nm,ps)->∃ fa fd,X.mg nm=some (.ref fa)/\PySem.W.keepIn X.K (.ref fa)=true/\Binds X.K fd ps []/\X80 X.prog X.w X.K X.mg X.base (CX1 X.prog X.w) k fa fd ps (spF X.K (lowG G k) f ps.length)
def H72(X:Cx)(G:Gs)(sc:ý):Prop:=∃ c P q k fR fdR,H62 X G sc c P q k fR fdR
structure XI(lm:Bool)(X:Cx)(G:Gs)(E:XK)(N:List Str)(sc:Scope):Prop where
 gok:∀ f nm ps,G.fns[f]?=some (nm,ps)->∃ fa fd,X.mg nm=some (.ref fa)/\PySem.W.keepIn X.K (.ref fa)=true/\Binds X.K fd ps []/\X80 X.prog X.w X.K X.mg X.base (CX1 X.prog X.w) G.lv fa fd ps (spF X.K G f ps.length)
 num:∀ p∈G.nums,∃ t,X.mg p.1=some (.int p.2 t)
 blt:∀ n∈f62,X.mg n=none
 hN:X.N=N
 nd:N.Nodup
 vis:∀ x∈N,Vis X.env.scope x
 glb:∀ x,sc.names.lookup x=some .globalImplicit->Gl X x
 cel:∀ x,(sc.names.lookup x=some .cell∨sc.names.lookup x=some .free)->(X.env.kindOf x=some .cell∨X.env.kindOf x=some .free)
 calm:X.calm=true
 room:A00 G.lv X.A
 pas:Passes (CX1 X.prog X.w) X E
 lam:lm=true->H72 X G sc
def glob(sc:ý)(x:Str):Bool:=sc.names.lookup x == some .globalImplicit&&!(x == ("__debug__":Str))&&!(x == ("__name__":Str))
def d00(x:Str):Bool:=!(x == ("__debug__":Str))&&!(x == ("__classdict__":Str))
def u12:Const->D->Bool
 |.int i,.int j=>i == j
 |.bool a,.bl b=>a == b
 |.str x,.str y=>x == y
 |.none,.non=>true
 |_,_=>false
def bfN:Bf->Str × Bool
 |.len=>("len",false) | .sorted=>("sorted",false) | .tuple=>("tuple",true) | .list=>("list",true) | .sum=>("sum",false) | .min=>("min",false) | .max=>("max",false) | .abs=>("abs",false)
 |.all=>("all",false) | .int=>("int",true) | .sset=>("sorted",false) | .B62=>("len",false)
def served:Bf->Bool
 |.len | .tuple | .list | .min | .max | .abs | .all | .int | .sorted | .sum=>true
 |_=>false
mutual
noncomputable def j50(N:List Str)(loc:Str->Bool):Pat->Ò->Bool
 |.v i=>λe=>match e with
  |.Name x _=>N[i]? == some x&&loc x
  |_=>false
 |.tup ps=>λe=>match e with
  |.Tuple es _ _=>o31 N loc ps es
  |_=>false
 |.nil=>λ_=>false
 |.cons _ _=>λ_=>false
noncomputable def o31(N:List Str)(loc:Str->Bool):Pat->List Ò->Bool
 |.nil=>λes=>es.isEmpty
 |.cons p r=>λes=>match es with
  |e::es=>noStar e&&j50 N loc p e&&o31 N loc r es
  |[]=>false
 |.v _=>λ_=>false
 |.tup _=>λ_=>false
end
def n30:Ò->Bool
 |.Tuple ..=>true
 |_=>false
def d60:Ò->List Str
 |.Name x _=>[x]
 |.Tuple es _ _=>names es
 |_=>[]
where names:List Ò->List Str
 |[]=>[]
 |.Name x _::r=>x::names r
 |.Tuple [.Name a _,.Name b _] _ _::r=>a::b::names r
 |_::r=>names r
def g51(csc sc:ý)(N own:List Str)(capt:List (Str × Nat)):Bool :=
 csc.kind == .function&&csc.names.all (λy=>y.2 != .cell)&&csc.names.all (λy=>y.2 != .local || csc.names.lookup y.1 == some .local) &&
  csc.names.all (λy=>y.2 != .free || (sc.names.lookup y.1 == some .cell || sc.names.lookup y.1 == some .free))&&capt.all (λp=>N[p.2]? == some p.1&&csc.names.lookup p.1 == some .free) &&
  own.all (λx=>csc.names.lookup x == some .local)&&decide (own++capt.map (·.1)).Nodup
def b80(N:List Str):List Nat->List (Str × Nat)
 |[]=>[]
 |i::r=>match N[i]? with
  |some x=>(x,i)::b80 N r
  |none=>b80 N r
def opt{α:Type}(o:Option α)(f:α->Bool):Bool:=match o with
 |some a=>f a
 |none=>false
÷a70{α:Type}{o:Option α}{f:α->Bool}(h:opt o f=true):∃ a,o=some a/\f a=true:=by
 cases o with
 |none=>cases h
 |some a=>§⟨a,rfl,h⟩
def P62:(e:List Ò)->Option {q:Str × Pos // e=[.Name q.1 q.2]}
 |[.Name n p]=>some ⟨(n,p),rfl⟩
 |_=>none
def H82:(e:List Ò)->Option {q:Const × Nat × Pos // e=[.Constant q.1 q.2.1 q.2.2]}
 |[.Constant c k p]=>some ⟨(c,k,p),rfl⟩
 |_=>none
def H92:(e:List Ò)->Option {q:Pos // e=[.Dict [] [] q]}
 |[.Dict [] [] p]=>some ⟨p,rfl⟩
 |_=>none
def I02:(e:List Ò)->Option {q:List Ò × Nat × Pos // e=[.Tuple q.1 q.2.1 q.2.2]}
 |[.Tuple l k p]=>some ⟨(l,k,p),rfl⟩
 |_=>none
def I12:(e:List Ò)->Option {q:List Ò × Pos // e=[.List q.1 q.2]}
 |[.List l p]=>some ⟨(l,p),rfl⟩
 |_=>none
def I22:(e:List Ò)->Option {q:Ò × Ý9 × Ò × Pos // e=[.BinOp q.1 q.2.1 q.2.2.1 q.2.2.2]}
 |[.BinOp l o r p]=>some ⟨(l,o,r,p),rfl⟩
 |_=>none
def I32:(e:List Ò)->Option {q:Ò × CmpOp × Ò × Pos // e=[.Compare q.1 [q.2.1] [q.2.2.1] q.2.2.2]}
 |[.Compare l [o] [r] p]=>some ⟨(l,o,r,p),rfl⟩
 |_=>none
def I42:(e:List Ò)->Option {q:Ò × Pos // e=[.UnaryOp .USub q.1 q.2]}
 |[.UnaryOp .USub x p]=>some ⟨(x,p),rfl⟩
 |_=>none
def I52:(e:List Ò)->Option {q:Ò × Pos // e=[.UnaryOp .Not q.1 q.2]}
 |[.UnaryOp .Not x p]=>some ⟨(x,p),rfl⟩
 |_=>none
def I62:(e:List Ò)->Option {q:Ò × Ò × List Ò × Pos // e=[.BoolOp .And (q.1::q.2.1::q.2.2.1) q.2.2.2]}
 |[.BoolOp .And (l::r::v) p]=>some ⟨(l,r,v,p),rfl⟩
 |_=>none
def P72:(e:List Ò)->Option {q:Ò × Ò × List Ò × Pos // e=[.BoolOp .Or (q.1::q.2.1::q.2.2.1) q.2.2.2]}
 |[.BoolOp .Or (l::r::v) p]=>some ⟨(l,r,v,p),rfl⟩
 |_=>none
def I72:(e:List Ò)->Option {q:Ò × Ò × Ò × Pos // e=[.IfExp q.1 q.2.1 q.2.2.1 q.2.2.2]}
 |[.IfExp t x y p]=>some ⟨(t,x,y,p),rfl⟩
 |_=>none
def V52:(e:List Ò)->Option {q:Ò × CmpOp × CmpOp × Ò × Ò × Pos // e=[.Compare q.1 [q.2.1,q.2.2.1] [q.2.2.2.1,q.2.2.2.2.1] q.2.2.2.2.2]}
 |[.Compare l [o,o2] [r,s] p]=>some ⟨(l,o,o2,r,s,p),rfl⟩
 |_=>none
def P82:(e:List Ò)->Option {q:Str × Pos × Ò × List Ò × Pos // e=[.Call (.Name q.1 q.2.1) (q.2.2.1::q.2.2.2.1) [] q.2.2.2.2]}
 |[.Call (.Name n q1) (x::l) [] p]=>some ⟨(n,q1,x,l,p),rfl⟩
 |_=>none
def V62:(e:List Ò)->Option {q:Str × Pos × Str × Pos × Ò × Pos × Pos // e=[.Call (.Name q.1 q.2.1) [.Call (.Name q.2.2.1 q.2.2.2.1) [q.2.2.2.2.1] [] q.2.2.2.2.2.1] [] q.2.2.2.2.2.2]}
 |[.Call (.Name n p1) [.Call (.Name m p2) [x] [] p3] [] p4]=>some ⟨(n,p1,m,p2,x,p3,p4),rfl⟩
 |_=>none
def V72:Bf->Bool
 |.sset=>true
 |_=>false
def I82:(e:List Ò)->Option {q:Str × Pos × Ò × Ò × Pos // e=[.Call (.Name q.1 q.2.1) [q.2.2.1,q.2.2.2.1] [] q.2.2.2.2]}
 |[.Call (.Name n q1) [x,ty] [] p]=>some ⟨(n,q1,x,ty,p),rfl⟩
 |_=>none
def V82:(e:List Ò)->Option {q:Ò × Ò × Pos // e=[.Subscript q.1 q.2.1 q.2.2]}
 |[.Subscript v x p]=>some ⟨(v,x,p),rfl⟩
 |_=>none
def V92:(e:List Ò)->Option {q:Ò × Option Ò × Option Ò × Pos × Pos // e=[.Subscript q.1 (.Slice q.2.1 q.2.2.1 none q.2.2.2.1) q.2.2.2.2]}
 |[.Subscript v (.Slice l h none q1) p]=>some ⟨(v,l,h,q1,p),rfl⟩
 |_=>none
def I92:(e:List Ò)->Option {q:Ò × Nat × Pos × Pos × Pos × Pos // e=[.Subscript q.1 (.Slice none none (some (.UnaryOp .USub (.Constant (.int 1) q.2.1 q.2.2.1) q.2.2.2.1)) q.2.2.2.2.1) q.2.2.2.2.2]}
 |[.Subscript v (.Slice none none (some (.UnaryOp .USub (.Constant (.int 1) k q1) q2)) q3) p]=>some ⟨(v,k,q1,q2,q3,p),rfl⟩
 |_=>none
def u22:(e:List Ò)->Option {q:Ò × Ò × Ò × List Ò × ý × Pos // e=[.ListComp q.1 [⟨q.2.1,q.2.2.1,q.2.2.2.1,0⟩] q.2.2.2.2.1 q.2.2.2.2.2]}
 |[.ListComp elt [⟨tg,Ä0,ifs,0⟩] csc p]=>some ⟨(elt,tg,Ä0,ifs,csc,p),rfl⟩
 |_=>none
def l32:(e:Ò)->Option {q:Str × Pos × Ò × Pos // e=.Call (.Name q.1 q.2.1) [q.2.2.1] [] q.2.2.2}
 |.Call (.Name n q1) [a] [] p=>some ⟨(n,q1,a,p),rfl⟩
 |_=>none
def l42:(e:Ò)->Option {q:Str × Pos × Ò × Ò × Pos // e=.Call (.Name q.1 q.2.1) [q.2.2.1,q.2.2.2.1] [] q.2.2.2.2}
 |.Call (.Name n q1) [a,b] [] p=>some ⟨(n,q1,a,b,p),rfl⟩
 |_=>none
def shN:(e:Ò)->Option {q:Str × Pos // e=.Name q.1 q.2}
 |.Name n p=>some ⟨(n,p),rfl⟩
 |_=>none
def P92:(e:Ò)->Option {q:Str × Pos × Str × Pos × Nat × Pos // e=.Tuple [.Name q.1 q.2.1,.Name q.2.2.1 q.2.2.2.1] q.2.2.2.2.1 q.2.2.2.2.2}
 |.Tuple [.Name a q1,.Name b q2] k p=>some ⟨(a,q1,b,q2,k,p),rfl⟩
 |_=>none
def W02:(e:List Ò)->Option {q:Str × Pos × Int × Nat × Pos × Pos // e=[.Subscript (.Name q.1 q.2.1) (.Constant (.int q.2.2.1) q.2.2.2.1 q.2.2.2.2.1) q.2.2.2.2.2]}
 |[.Subscript (.Name n p) (.Constant (.int j) c q1) r]=>some ⟨(n,p,j,c,q1,r),rfl⟩
 |_=>none
def W12:(e:List Ò)->Option {q:Str × Pos × Str × Pos × List Ò × Pos × Pos // e=[.Call (.Name q.1 q.2.1) [.Call (.Name q.2.2.1 q.2.2.2.1) q.2.2.2.2.1 [] q.2.2.2.2.2.1] [] q.2.2.2.2.2.2]}
 |[.Call (.Name n p) [.Call (.Name m q1) l [] r] [] t]=>some ⟨(n,p,m,q1,l,r,t),rfl⟩
 |_=>none
def J02:(e:List Ò)->Option {q:Str × Pos × Ò × ý × Pos × Pos // e=[.Call (.Name q.1 q.2.1) [.Lambda ⟨[],[],none,[],[],none,[]⟩ q.2.2.1 q.2.2.2.1 q.2.2.2.2.1] [] q.2.2.2.2.2]}
 |[.Call (.Name n p) [.Lambda ⟨[],[],none,[],[],none,[]⟩ b c l] [] t]=>some ⟨(n,p,b,c,l,t),rfl⟩
 |_=>none
def tyE(sc:ý):Ty->Ò->Bool
 |.seq=>λe=>opt (P92 e) λq=>q.1.1 == ("tuple":Str)&&q.1.2.2.1 == ("list":Str)&&glob sc "tuple"&&glob sc "list"
 |t=>λe=>opt (shN e) λq=>q.1.1 == À9 (tyN t)&&glob sc (À9 (tyN t))
def u32:D->Bool
 |.dct=>true
 |_=>false
def ifB:Ò->Bool
 |.IfExp ..=>true
 |_=>false
def f72(lsc sc:ý)(cs:List (Str × Nat)):Bool :=
 lsc.kind == .function&&!lsc.isCoroutine&&!lsc.isGenerator&&lsc.names.all (λy=>y.2 != .cell)&&lsc.names.all (λy=>y.2 != .free || sc.names.lookup y.1 == some .cell)&&cs.all (λp=>lsc.names.lookup p.1 == some .free)&&decide (cs.map (·.1)).Nodup
def mt:Bool->List (Str × List Str)->List (Str × Int)->Ex->ý->List Str->List Ò->Bool
 |lm,fns,nums,.nil=>λ_ _ es=>es.isEmpty
 |lm,fns,nums,.cons a r=>λsc N es=>match es with
  |e::es=>noStar e&&!isL a&&isL r&&mt lm fns nums a sc N [e]&&mt lm fns nums r sc N es
  |[]=>false
 |lm,fns,nums,.var i=>λ_ N es=>opt (P62 es) λq=>N[i]? == some q.1.1&&d00 q.1.1
 |lm,fns,nums,.con d=>λ_ _ es=>(opt (H82 es) λq=>u12 q.1.1 d) || opt (H92 es) λ_=>u32 d
 |lm,fns,nums,.gint g i=>λsc _ es=>opt (P62 es) λq=>q.1.1 == g&&glob sc q.1.1&&nums.contains (g,i)
 |lm,fns,nums,.tup as=>λsc N es=>opt (I02 es) λq=>isL as&&mt lm fns nums as sc N q.1.1
 |lm,fns,nums,.lst as=>λsc N es=>opt (I12 es) λq=>isL as&&mt lm fns nums as sc N q.1.1
 |lm,fns,nums,.bin o a b=>λsc N es=>opt (I22 es) λq=>q.1.2.1 == opB o&&!isL a&&!isL b&&mt lm fns nums a sc N [q.1.1]&&mt lm fns nums b sc N [q.1.2.2.1]
 |lm,fns,nums,.cmp o a b=>λsc N es=>opt (I32 es) λq=>q.1.2.1 == opC o&&z80 q.1.2.2.1&&!isL a&&!isL b&&mt lm fns nums a sc N [q.1.1]&&mt lm fns nums b sc N [q.1.2.2.1]
 |lm,fns,nums,.neg a=>λsc N es=>opt (I42 es) λq=>!isL a&&mt lm fns nums a sc N [q.1.1]
 |lm,fns,nums,.not a=>λsc N es=>opt (I52 es) λq=>!isL a&&!ifB q.1.1&&mt lm fns nums a sc N [q.1.1]
 |lm,fns,nums,.and a b=>λsc N es=>opt (I62 es) λq=>!isL a&&!isL b&&!ifB q.1.1&&mt lm fns nums a sc N [q.1.1]&&(if q.1.2.2.1.isEmpty then !ifB q.1.2.1&&mt lm fns nums b sc N [q.1.2.1] else mt lm fns nums b sc N [.BoolOp .And (q.1.2.1::q.1.2.2.1) q.1.2.2.2])
 |lm,fns,nums,.or a b=>λsc N es=>opt (P72 es) λq=>!isL a&&!isL b&&!ifB q.1.1&&mt lm fns nums a sc N [q.1.1]&&(if q.1.2.2.1.isEmpty then !ifB q.1.2.1&&mt lm fns nums b sc N [q.1.2.1] else mt lm fns nums b sc N [.BoolOp .Or (q.1.2.1::q.1.2.2.1) q.1.2.2.2])
 |lm,fns,nums,.orT a b=>λsc N es=>opt (P72 es) λq=>!isL a&&!isL b&&q.1.2.2.1.isEmpty&&mt lm fns nums a sc N [q.1.1]&&mt lm fns nums b sc N [q.1.2.1]
 |lm,fns,nums,.ite c a b=>λsc N es=>opt (I72 es) λq=>!isL c&&!isL a&&!isL b&&!ifB q.1.1&&mt lm fns nums c sc N [q.1.1]&&mt lm fns nums a sc N [q.1.2.1]&&mt lm fns nums b sc N [q.1.2.2.1]
 |lm,fns,nums,.ch o o' a b c=>λsc N es=>opt (V52 es) λq=>q.1.2.1 == opC o&&q.1.2.2.1 == opC o'&&z80 q.1.2.2.2.2.1&&!isL a&&!isL b&&!isL c&&mt lm fns nums a sc N [q.1.1]&&mt lm fns nums b sc N [q.1.2.2.2.1]&&mt lm fns nums c sc N [q.1.2.2.2.2.1]
 |lm,fns,nums,.bf f as=>λsc N es=>(opt (P82 es) λq=>served f&&q.1.1 == (bfN f).1&&glob sc q.1.1&&isL as&&mt lm fns nums as sc N (q.1.2.2.1::q.1.2.2.2.1)) || (V72 f&&opt (V62 es) λq=>q.1.1 == ("sorted":Str)&&q.1.2.2.1 == ("set":Str)&&glob sc "sorted"&&glob sc "set"&&isL as&&mt lm fns nums as sc N [q.1.2.2.2.2.1])
 |lm,fns,nums,.isi t a=>λsc N es=>opt (I82 es) λq=>q.1.1 == ("isinstance":Str)&&glob sc q.1.1&&noStar q.1.2.2.1&&!isL a&&mt lm fns nums a sc N [q.1.2.2.1]&&tyE sc t q.1.2.2.2.1
 |lm,fns,nums,.idx a i=>λsc N es=>opt (V82 es) λq=>D40 q.1.2.1&&!isL a&&!isL i&&mt lm fns nums a sc N [q.1.1]&&mt lm fns nums i sc N [q.1.2.1]
 |lm,fns,nums,.sl a lo hi=>λsc N es=>opt (V92 es) λq=>!isL a&&isL lo&&isL hi&&mt lm fns nums a sc N [q.1.1]&&mt lm fns nums lo sc N q.1.2.1.toList&&mt lm fns nums hi sc N q.1.2.2.1.toList
 |lm,fns,nums,.rev a=>λsc N es=>opt (I92 es) λq=>!isL a&&mt lm fns nums a sc N [q.1.1]
 |lm,fns,nums,.call f as=>λsc N es=>opt (P82 es) λq=>(opt fns[f]? λp=>p.1 == q.1.1&&p.2.length == q.1.2.2.2.1.length + 1)&&glob sc q.1.1&&isL as&&mt lm fns nums as sc N (q.1.2.2.1::q.1.2.2.2.1)
 |lm,fns,nums,.comp own capt p it src cond el=>λsc N es=>opt (u22 es) λq =>
   (d60 q.1.2.1).length == own&&(b80 N capt).length == capt.length&&g51 q.1.2.2.2.2.1 sc N (d60 q.1.2.1) (b80 N capt)&&j50 (d60 q.1.2.1++(b80 N capt).map (·.1)) (λx=>(d60 q.1.2.1).contains x) p q.1.2.1&&isL src&&!isL el&&isL cond&&q.1.2.2.2.1.length<=1&&noStar q.1.1&&z80 q.1.2.2.1 &&
    q.1.2.2.2.1.all (λc=>!ifB c) &&
    (match it with
    |.seq=>mt lm fns nums src sc N [q.1.2.2.1]
    |.rng1=>opt (l32 q.1.2.2.1) λr=>r.1.1 == ("range":Str)&&glob sc r.1.1&&mt lm fns nums src sc N [r.1.2.2.1]
    |.rng2=>opt (l42 q.1.2.2.1) λr=>r.1.1 == ("range":Str)&&glob sc r.1.1&&mt lm fns nums src sc N [r.1.2.2.1,r.1.2.2.2.1]
    |.zip=>opt (l42 q.1.2.2.1) λr=>r.1.1 == ("zip":Str)&&glob sc r.1.1&&n30 q.1.2.1&&mt lm fns nums src sc N [r.1.2.2.1,r.1.2.2.2.1]
    |.enum=>opt (l32 q.1.2.2.1) λr=>r.1.1 == ("enumerate":Str)&&glob sc r.1.1&&n30 q.1.2.1&&mt lm fns nums src sc N [r.1.2.2.1])&&mt false fns nums cond q.1.2.2.2.2.1 (d60 q.1.2.1++(b80 N capt).map (·.1)) q.1.2.2.2.1&&mt false fns nums el q.1.2.2.2.2.1 (d60 q.1.2.1++(b80 N capt).map (·.1)) [q.1.1]
 |lm,fns,nums,.lrng b as=>λsc N es=>opt (W12 es) λq=>q.1.1 == lrN b&&q.1.2.2.1 == ("range":Str)&&glob sc (lrN b)&&glob sc "range"&&isL as&&decide (1<=q.1.2.2.2.2.1.length/\q.1.2.2.2.2.1.length<=2)&&mt lm fns nums as sc N q.1.2.2.2.2.1
 |lm,fns,nums,.zget i k=>λ_ N es=>opt (W02 es) λq=>N[i]? == some q.1.1&&d00 q.1.1&&q.1.2.2.1 == (k:Int)
 |lm,fns,nums,.refd capt a=>λsc N es=>opt (J02 es) λq=>lm&&q.1.1 == ("_law_refused":Str)&&glob sc "_law_refused"&&(b80 N capt).length == capt.length&&f72 q.1.2.2.2.1 sc (b80 N capt)&&!isL a&&mt false fns nums a q.1.2.2.2.1 ((b80 N capt).map (·.1)) [q.1.2.2.1]
÷d70{sc:ý}{x:Str}(h:glob sc x=true):sc.names.lookup x=some .globalImplicit/\(x == ("__debug__":Str))=false/\x≠"__name__":=by
 unfold glob at h
 simp only[Á,À0,beq_iff_eq] at h
 ¤⟨h.1.1,h.1.2,λe=>?_⟩
 subst e
 simp at h
section
variable {lm:Bool}{X:Cx}{G:Gs}{E:XK}{N:List Str}{sc:ý}
÷u42{K:Â}{zA:Option Ç}{H0 H:Hp}{s:S}{v:V}(h:RvP K zA H s v):RvS K zA H0 H (plS s) v:=by cases s <;> §h
÷f82(h:(!ifB e)=true):∀ t a b p,e≠.IfExp t a b p:=by
 intro t a b p he
 subst he
 cases h
÷a90(hL:isL x=false)(h:Good X G E x [e]):b00 X G E x e:=by
 cases x with
 |nil=>cases hL
 |cons _ _=>cases hL
 |_ =>
  ¶⟨e',h1,h2⟩:=(show ∃ e',[e]=[e']/\b00 X G E _ e' from h)
  cases h1
  §h2
÷c20(hL:isL x=false)(h:b00 X G E x e):Good X G E x [e]:=by
 cases x with
 |nil=>cases hL
 |cons _ _=>cases hL
 |_=>§⟨e,rfl,h⟩
÷f90(po:b11 X.K G zA E H Q r):∀ c z1,r=.er c z1->EPost G zA E c z1 H:=λc z1 e=>by subst e;§po
÷T90(po:O81 G zA E H Q r):∀ c z1,r=.er c z1->EPost G zA E c z1 H:=λc z1 e=>by subst e;§po
÷J12(x:XI lm X G E N sc){i:Nat}{n:Str}{pos:Pos}(h1:N[i]?=some n)(h2:d00 n=true):b00 X G E (.var i) (.Name n pos):=by
 unfold d00 at h2
 simp only[Á,À0] at h2
 ¤b10 (PE.imp (n70 (i:=i) (by rw[x.hN];§h1) (x.vis n (é h1)) h2.1 h2.2) λσ H Q q=>?_) rfl
 ¶⟨zA,ρ,z,r,rel,st,e,po⟩:=q
 have e':(match ρ[i]? with | some (some s)=>M.ret [plS s] | _=>M.no) z=some r:=e
 cases hs:ρ[i]? with
 |none=>rw[hs] at e';cases e'
 |some o =>
  cases o with
  |none=>rw[hs] at e';cases e'
  |some s =>
   rw[hs] at e'
   cases e'
   ¶⟨v,hv,rv⟩:=rel i s hs
   ¶⟨s',e',po⟩:=po
   cases e'
   §⟨v,hv,po v H Ext.refl st (u42 rv)⟩
÷J22{c:Const}{d:D}{j:Nat}{pos:Pos}(h:u12 c d=true):b00 X G E (.con d) (.Constant c j pos):=by
 ¤b10 ?_ rfl
 have fin:∀ {v:V},(∀ H,Hd X.K H d v)->∀ σ H Q,tI X.K G E (.con d) σ H Q->tC v σ H Q:=λ{v} hd σ H Q q=>by
  ¶⟨zA,ρ,z,r,rel,st,e,po⟩:=q
  cases e
  ¶⟨s',e',po⟩:=po
  cases e'
  §po v H Ext.refl st (H61 (hd _))
 cases c with
 |int i=>cases d <;> first | (simp only[u12,beq_iff_eq] at h;subst h;§PE.imp P80 (fin λH=>Hd.int)) | (cases h)
 |bool b=>cases d <;> first | (simp only[u12,beq_iff_eq] at h;subst h;§PE.imp D02 (fin λH=>Hd.bl)) | (cases h)
 |str y=>cases d <;> first | (simp only[u12,beq_iff_eq] at h;subst h;§PE.imp S91 (fin λH=>Hd.str)) | (cases h)
 |none=>cases d <;> first | §PE.imp q71 (fin λH=>Hd.non) | (cases h)
 |_=>cases h
÷J32{pos:Pos}:b00 X G E (.con .dct) (.Dict [] [] pos):=by
 ¤b10 (PE.imp b52 λσ H Q q=>?_) rfl
 ¶⟨zA,ρ,z,r,rel,st,e,po⟩:=q
 cases e
 ¶⟨s',e',po⟩:=po
 cases e'
 intro p hp
 ¤po _ _ (Ext.of (a30.new _ hp)) (st.same (a30.new _ hp)) (H61 ?_)
 unfold Hd
 §⟨p,[],rfl,e10 b20 (st.w81 hp)⟩
÷u52(x:XI lm X G E N sc){g:Str}{i:Int}{pos:Pos}(h1:glob sc g=true)(h2:(g,i)∈G.nums):b00 X G E (.gint g i) (.Name g pos):=by
 ¶⟨k1,k2,_⟩:=d70 h1
 ¶⟨t,ht⟩:=x.num _ h2
 ¤b10 (PE.imp (g20 (v:=.int i) (x.glb g k1) ht ⟨t,rfl⟩ k2) λσ H Q q=>?_) rfl
 ¶⟨zA,ρ,z,r,rel,st,e,po⟩:=q
 cases e
 ¶⟨s',e',po⟩:=po
 cases e'
 §po _ H Ext.refl st i70
÷G30{K:Â}{zA:Option Ç}{H0 H:Hp}{l:List S}{vs:List V}{ds:List D}(h:Æ0 (RvS K zA H0 H) l vs)(e:plA l=some ds):HdA K (hz zA H) ds vs:=RvA.ds (Æ0.k92 h λ_ _ q=>q.pl) e
÷J42{as:Ex}{l:List Ò}{k:Nat}{pos:Pos}(hL:isL as=true)(g:Good X G E as l):b00 X G E (.tup as) (.Tuple l k pos):=by
 ¤b10 (PE.imp (T51 (g.args hL).1) λσ H Q q=>?_) rfl
 ¶⟨zA,ρ,z,r,rel,st,e,po⟩:=q
 ¤b21 rel st e (f90 po) λl z1 e1 vs H1 x1 st1 rvs=>?_
 ¶⟨ds,hd,e2⟩:=M.a10 e1
 split at e2
 ·rename_i hm
  cases e2
  ¶⟨s',e',po⟩:=po
  cases e'
  have h:=G30 rvs hd
  §⟨f50 (by rw[h.length];§hm),λp hp=>po _ _ (x1.trans (Ext.of (a30.new _ hp))) (st1.same (a30.new _ hp)) (H61 (Hd.tup ((st1.same (a30.new _ hp)).d62 (SqT.of b20)) (h.same (k40 (a30.new _ hp)))))⟩
 ·cases e2
÷J52{as:Ex}{l:List Ò}{pos:Pos}(hL:isL as=true)(g:Good X G E as l):b00 X G E (.lst as) (.List l pos):=by
 ¤b10 (PE.imp (T61 (g.args hL).1) λσ H Q q=>?_) rfl
 ¶⟨zA,ρ,z,r,rel,st,e,po⟩:=q
 ¤b21 rel st e (f90 po) λl z1 e1 vs H1 x1 st1 rvs=>?_
 ¶⟨ds,hd,e2⟩:=M.a10 e1
 split at e2
 ·rename_i hm
  cases e2
  ¶⟨s',e',po⟩:=po
  cases e'
  have h:=G30 rvs hd
  §⟨f50 (by rw[h.length];§hm),λp hp=>po _ _ (x1.trans (Ext.of (a30.new _ hp))) (st1.same (a30.new _ hp)) ((n20 st1 h hp).from x1)⟩
 ·cases e2
÷g61{α:Type}{a b:Ex}{k:D->D->M α}{zA:Option Ç}{ρ:Env}{z:Z}{r:R α}{σ:L2.St}{H:Hp}{Q:V->V->Hp->Prop}(rel:y00 X.K zA H ρ σ)(st:e40 zA z H)
  (h:M.bind (ev G.F a ρ) (λx=>M.bind (M.of (pl x)) λx=>M.bind (ev G.F b ρ) λy=>M.bind (M.of (pl y)) λy=>k x y) z=some r) (her:∀ c z1,r=.er c z1->EPost G zA E c z1 H)
  (hk:∀ dx dy z2 v w H2,k dx dy z2=some r->Ext zA H H2->e40 zA z2 H2->Hd X.K (hz zA H2) dx v->Hd X.K (hz zA H2) dy w->Q v w H2) :
  tI X.K G E a σ H λv H1=>tI X.K G E b σ H1 λw H2=>Q v w H2:=by
 ¤j40 rel st h her λl z1 e1=>?_
 ¶⟨dx,p1,e2⟩:=M.a10 e1
 ¶⟨s1,rfl,q1⟩:=f40 p1
 ¤⟨s1,rfl,λv H1 x1 st1 rv=>?_⟩
 ¤j40 (rel.mono x1) st1 e2 (λc z2 q=>(her c z2 q).mono x1) λm z2 e3=>?_
 ¶⟨dy,p2,e4⟩:=M.a10 e3
 ¶⟨s2,rfl,q2⟩:=f40 p2
 §⟨s2,rfl,λw H2 x2 st2 rw'=>hk dx dy z2 v w H2 e4 (x1.trans x2) st2 ((rv.pl.mono x2).d_ q1) (rw'.pl.d_ q2)⟩
÷e90{zA:Option Ç}{H H2:Hp}{z2:Z}{s:S}{Q:VK}(po:b11 X.K G zA E H Q (.ok [s] z2))(x:Ext zA H H2)(st:e40 zA z2 H2):∀ v H',a30 H2 H'->RvS X.K zA H2 H' s v->Q v H':=λv H' sm rv=>by
 ¶⟨s',e',po⟩:=po
 cases e'
 §po v H' (x.trans (Ext.of sm)) (st.same sm) (rv.from x)
÷J62{o:Bi}{a b:Ex}{l r:Ò}{pos:Pos}(ga:b00 X G E a l)(gb:b00 X G E b r):b00 X G E (.bin o a b) (.BinOp l (opB o) r pos):=by
 ¤b10 (PE.imp (I51 (opD o) ga.pe gb.pe) λσ H Q q=>?_) rfl
 ¶⟨zA,ρ,z,rr,rel,st,e,po⟩:=q
 ¤g61 rel st e (f90 po) λdx dy z2 v w H2 e2 x2 st2 h1 h2=>?_
 ¶⟨s,hs,e3⟩:=M.a10 e2
 cases e3
 §⟨zA,z2,dx,dy,s,st2,h1,h2,hs,e90 po x2 st2⟩
÷V41(po:O81 G zA E H Q r):b11 X.K G zA E H (λx H'=>∃ k,x=.bl k/\Q k H') r:=by
 cases r with
 |er c z1=>§po
 |ok l z1 =>
  ¶⟨b,rfl,po⟩:=po
  §⟨_,rfl,λv H' ex st' rv=>⟨b,Hd.bl_ (show Hd X.K (hz zA H') (.bl b) v from rv),po H' ex st'⟩⟩
÷J72(x:XI lm X G E N sc){o:Cm}{a b:Ex}{l r:Ò}{pos:Pos}(hs:z80 r=true)(ga:b00 X G E a l)(gb:b00 X G E b r):b00 X G E (.cmp o a b) (.Compare l [opC o] [r] pos):=by
 have key:∀ σ H Q,tI X.K G E (.cmp o a b) σ H Q->tOp (rD2 X.K λa b=>(A20 o a b).map λc=>.d (.bl c)) (tI X.K G E a) (tI X.K G E b) σ H Q:=λσ H Q q=>by
  ¶⟨zA,ρ,z,rr,rel,st,e,po⟩:=q
  ¤g61 rel st e (f90 po) λdx dy z2 v w H2 e2 x2 st2 h1 h2=>?_
  ¶⟨c,hc,e3⟩:=M.a10 e2
  cases e3
  §⟨zA,z2,dx,dy,_,st2,h1,h2,by show Î4 _ (A20 o dx dy)=_;rw[hc];rfl,e90 po x2 st2⟩
 ¤⟨PE.imp (Y81 (l22 x.room.units o) ga.pe gb.pe (x61 hs _)) key,λ_=>PT.imp (Y91 (l22 x.room.units o) ga.pe gb.pe (x61 hs _)) λσ H Q q=>?_,λop vs p h=>by cases h⟩
 ¶⟨zA,ρ,z,rr,rel,st,e,po⟩:=q
 §key σ H _ ⟨zA,ρ,z,rr,rel,st,e,V41 po⟩
÷J82{a:Ex}{l:Ò}{pos:Pos}(ga:b00 X G E a l):b00 X G E (.neg a) (.UnaryOp .USub l pos):=by
 ¤b10 (PE.imp (n92 T41 ga.pe) λσ H Q q=>?_) rfl
 ¶⟨zA,ρ,z,rr,rel,st,e,po⟩:=q
 ¤j40 rel st e (f90 po) λm z1 e1=>?_
 ¶⟨i,p1,e2⟩:=M.a10 e1
 ¶⟨d,p2,p3⟩:=Î.mp p1
 ¶⟨s1,rfl,q1⟩:=f40 p2
 cases e2
 ¤⟨s1,rfl,λv H1 x1 st1 rv=>?_⟩
 have hd:=rv.pl.d_ q1
 cases d with
 |int j =>
  cases p3
  §⟨i,hd.i20,e90 po x1 st1 _ _ (a30.refl H1) i70⟩
 |_=>cases p3
÷J92{a:Ex}{l:Ò}{pos:Pos}(ga:b00 X G E a l)(hn:∀ t x y p,l≠.IfExp t x y p):b00 X G E (.not a) (.UnaryOp .Not l pos):=by
 ¤⟨PE.imp (m92 ga.pe) λσ H Q q=>?_,λ_=>PT.imp (T01 (ga.pt hn)) λσ H Q q=>?_,λop vs p h=>by cases h⟩
 ·¶⟨zA,ρ,z,rr,rel,st,e,po⟩:=q
  ¤j40 rel st e (f90 po) λm z1 e1=>?_
  ¶⟨b,p1,e2⟩:=M.a10 e1
  ¶⟨d,p2,p3⟩:=Î.mp p1
  ¶⟨s1,rfl,q1⟩:=f40 p2
  cases e2
  ¤⟨s1,rfl,λv H1 x1 st1 rv=>?_⟩
  have hd:=rv.pl.d_ q1
  cases d with
  |bl c =>
   cases p3
   §⟨b,hd.bl_,e90 po x1 st1 _ _ (a30.refl H1) h90⟩
  |_=>cases p3
 ·¶⟨zA,ρ,z,rr,rel,st,e,po⟩:=q
  ¤T80 rel st e (T90 po) λb z1 e1 H1 x1 st1=>?_
  cases e1
  ¶⟨b',e',po⟩:=po
  cases e'
  §po H1 x1 st1
end
end Q
namespace Q
open PySem L2 PySem.Spec PyProof.Rows
variable [TB:Tb]
section
variable {lm:Bool}{X:Cx}{G:Gs}{E:XK}{N:List Str}{sc:ý}
÷M20(rel:y00 X.K zA H ρ σ)(st:e40 zA z H)
  (h:M.bind (ev G.F a ρ) (λx=>M.bind (M.of ((pl x).bind asB)) k) z=some r) (her:∀ c z1,r=.er c z1->EPost G zA E c z1 H)
  (hok:∀ b z1,k b z1=some r->∀ H1,Ext zA H H1->e40 zA z1 H1->Q' (.bl b) H1):tI X.K G E a σ H Q':=by
 ¤j40 rel st h her λm z1 e1=>?_
 ¶⟨b,p1,e2⟩:=M.a10 e1
 ¶⟨d,p2,p3⟩:=Î.mp p1
 ¶⟨s1,rfl,q1⟩:=f40 p2
 ¤⟨s1,rfl,λv H1 x1 st1 rv=>?_⟩
 have hd:=rv.pl.d_ q1
 cases d with
 |bl c =>
  cases p3
  rw[hd.bl_]
  §hok b z1 e2 H1 x1 st1
 |_=>cases p3
÷K02(ga:b00 X G E a l)(hl:∀ t x y p,l≠.IfExp t x y p)
  (gb:b00 X G E b (.BoolOp .And (r::vs) p)):b00 X G E (.and a b) (.BoolOp .And (l::r::vs) p):=by
 have pw:PW X (.BoolOp .And (l::r::vs) p) (tT X.K G E (.and a b)):=by
  ¤PW.imp (m62 (ga.pt hl) (gb.pw _ _ _ rfl)) λσ H Q q=>?_
  ¶⟨zA,ρ,z,rr,rel,st,e,po⟩:=q
  ¤T80 rel st e (T90 po) λc z1 e1 H1 x1 st1=>?_
  cases c with
  |true =>
   rw[if_pos rfl]
   rw[if_pos rfl] at e1
   ¤T80 (rel.mono x1) st1 e1 (λc z2 q=>((T90 po) c z2 q).mono x1) λc z2 e2 H2 x2 st2=>?_
   cases e2
   ¶⟨b',e',po⟩:=po
   cases e'
   §po H2 (x1.trans x2) st2
  |false =>
   rw[if_neg Ð]
   rw[if_neg Ð] at e1
   cases e1
   ¶⟨b',e',po⟩:=po
   cases e'
   §po H1 x1 st1
 ¤⟨PE.imp (m82 ga.pe gb.pe) λσ H Q q=>?_,λ_=>pw.pt,λop vs p h=>pw⟩
 ¶⟨zA,ρ,z,rr,rel,st,e,po⟩:=q
 ¤M20 rel st e (f90 po) λc z1 e1 H1 x1 st1=>⟨c,rfl,?_⟩
 cases c with
 |true =>
  rw[if_pos rfl]
  rw[if_pos rfl] at e1
  ¤M20 (rel.mono x1) st1 e1 (λc z2 q=>((f90 po) c z2 q).mono x1) λc z2 e2 H2 x2 st2=>?_
  cases e2
  §e90 po (x1.trans x2) st2 _ _ (a30.refl H2) h90
 |false =>
  rw[if_neg Ð]
  rw[if_neg Ð] at e1
  cases e1
  §e90 po x1 st1 _ _ (a30.refl H1) h90
÷W22(ga:b00 X G E a l)(hl:∀ t x y p,l≠.IfExp t x y p)
  (gb:b00 X G E b (.BoolOp .Or (r::vs) p)):b00 X G E (.or a b) (.BoolOp .Or (l::r::vs) p):=by
 have pw:PW X (.BoolOp .Or (l::r::vs) p) (tT X.K G E (.or a b)):=by
  ¤PW.imp (D12 (ga.pt hl) (gb.pw _ _ _ rfl)) λσ H Q q=>?_
  ¶⟨zA,ρ,z,rr,rel,st,e,po⟩:=q
  ¤T80 rel st e (T90 po) λc z1 e1 H1 x1 st1=>?_
  cases c with
  |false =>
   rw[if_neg Ð]
   rw[if_neg Ð] at e1
   ¤T80 (rel.mono x1) st1 e1 (λc z2 q=>((T90 po) c z2 q).mono x1) λc z2 e2 H2 x2 st2=>?_
   cases e2
   ¶⟨b',e',po⟩:=po
   cases e'
   §po H2 (x1.trans x2) st2
  |true =>
   rw[if_pos rfl]
   rw[if_pos rfl] at e1
   cases e1
   ¶⟨b',e',po⟩:=po
   cases e'
   §po H1 x1 st1
 ¤⟨PE.imp (D42 ga.pe gb.pe) λσ H Q q=>?_,λ_=>pw.pt,λop vs p h=>pw⟩
 ¶⟨zA,ρ,z,rr,rel,st,e,po⟩:=q
 ¤M20 rel st e (f90 po) λc z1 e1 H1 x1 st1=>⟨c,rfl,?_⟩
 cases c with
 |false =>
  rw[if_neg Ð]
  rw[if_neg Ð] at e1
  ¤M20 (rel.mono x1) st1 e1 (λc z2 q=>((f90 po) c z2 q).mono x1) λc z2 e2 H2 x2 st2=>?_
  cases e2
  §e90 po (x1.trans x2) st2 _ _ (a30.refl H2) h90
 |true =>
  rw[if_pos rfl]
  rw[if_pos rfl] at e1
  cases e1
  §e90 po x1 st1 _ _ (a30.refl H1) h90
÷u62(gb:b00 X G E b r)(hr:∀ t x y p,r≠.IfExp t x y p):b00 X G E b (.BoolOp op [r] p):=by
 have pw:PW X (.BoolOp op [r] p) (tT X.K G E b):=by
  cases op with
  |And=>§Y31 (gb.pt hr)
  |Or=>§m52 (gb.pt hr)
 §⟨m72 gb.pe,λ_=>pw.pt,λ_ _ _ _=>pw⟩
÷b11.u72(po:b11 X.K G zA E H Q rr)(x1:Ext zA H H1):b11 X.K G zA E H1 Q rr:=by
 cases rr with
 |er c z1=>§EPost.mono po x1
 |ok l z2 =>
  ¶⟨s,e',po⟩:=po
  §⟨s,e',λv H' x' st' rv=>po v H' (x1.trans x') st' (rv.from x1)⟩
÷U00{α:Type}{m:M α}{z:Z}{r:R α}(h:M.calm m z=some r):m z=some r/\∃ a z1,r=.ok a z1:=by
 unfold M.calm at h
 split at h
 ·rename_i a z1 e
  cases h
  §⟨e,a,z1,rfl⟩
 ·cases h
÷u82{a b:Ò}{ta tb:TE}{pos:Pos}(ha:PE X a ta)(hb:PE X b tb):PE X (.BoolOp .Or [a,b] pos) (λσ H Q=>ta σ H λx H1=>∃ t xs,x=.ref t/\SqT X.K H1 t xs/\if xs.isEmpty=true then tb σ H1 Q else Q x H1):=by
 intro pins s σ H Q I h
 ¤BoolOp_or (thn (ha pins s σ H _ I h) λv s1 ⟨x,H1,I1,r1,q1⟩=>?_)
 ¶⟨t,xs,rfl,hq,q1⟩:=q1
 ¶⟨its,hv,ht,hl⟩:=I1.tuple hq
 have hlen:xs.length=its.length:=hv.length
 cases r1
 ¤truthy_tuple ht (by rw[Ó,← hlen];have:=Á2;omega) ?_
 cases xs with
 |nil =>
  cases its with
  |nil=>§BoolOp_one (hb pins _ σ H1 Q (I1.tok _) q1)
  |cons _ _=>cases hlen
 |cons y r =>
  cases its with
  |nil=>cases hlen
  |cons _ _=>§⟨.ref t,H1,I1.tok _,rfl,q1⟩
÷V51(h:(pl y).bind r52=some l):∃ s,y=[s]/\plD s=some (.tup l):=by
 ¶⟨d,p2,p3⟩:=Î.mp h
 ¶⟨s1,rfl,q1⟩:=f40 p2
 cases d with
 |tup l=>cases p3;§⟨s1,rfl,q1⟩
 |_=>cases p3
÷K12(ga:b00 X G E a l)(gb:b00 X G E b r):b00 X G E (.orT a b) (.BoolOp .Or [l,r] p):=by
 have no:∀ {zA:Option Ç}{ρ:Env}{z:Z}{rr:R (List S)}{H:Hp}{Q:Bool->Hp->Prop},ev G.F (.orT a b) ρ z=some rr->O81 G zA E H Q rr->False:=λe po=>by
  ¶⟨e,u,z1,rfl⟩:=U00 e
  ¶⟨c,rfl,_⟩:=po
  rcases M.bind_some e with ⟨m,z2,_,e2⟩ | ⟨c,z2,_,e2⟩
  ·¶⟨ds,_,e3⟩:=M.a10 e2
   split at e3
   ·rcases M.bind_some e3 with ⟨m,z2,_,e2⟩ | ⟨c,z2,_,e2⟩
    ·¶⟨ds,_,e3⟩:=M.a10 e2
     cases e3
    ·cases e2
   ·cases e3
  ·cases e2
 ¤⟨PE.imp (u82 ga.pe gb.pe) λσ H Q q=>?_,λ_ pins s σ H Q I ⟨_,_,_,_,_,_,e,po⟩=>(no e po).elim,λ_ _ _ _ wh pins s σ H Q I ⟨_,_,_,_,_,_,e,po⟩=>(no e po).elim⟩
 ¶⟨zA,ρ,z,rr,rel,st,e,po⟩:=q
 ¶⟨e,u,z1,rfl⟩:=U00 e
 ¤j40 rel st e (f90 po) λm z1 e1=>?_
 ¶⟨ds,p1,e2⟩:=M.a10 e1
 ¶⟨s1,rfl,q1⟩:=V51 p1
 ¤⟨s1,rfl,λv H1 x1 st1 rv=>?_⟩
 have hd:=rv.pl.d_ q1
 ¶⟨t,xs,rfl,h1,h2⟩:=hd.z70
 ¤⟨t,xs,rfl,(a20 zA H1).sqT h1,?_⟩
 cases ds with
 |nil =>
  cases h2.f30
  have po:=po.u72 x1
  ¤j40 (rel.mono x1) st1 e2 (f90 po) λm z1 e1=>?_
  ¶⟨ds,p1,e2⟩:=M.a10 e1
  ¶⟨s1,rfl,q1⟩:=V51 p1
  cases e2
  §⟨s1,rfl,λv H2 x2 st2 rv=>e90 po x2 st2 _ _ (a30.refl H2) (rv.pl.d_ q1)⟩
 |cons y r =>
  ¶⟨u,w,rfl,_⟩:=h2.c40
  cases e2
  §e90 po x1 st1 _ _ (a30.refl H1) hd
÷K22(gc:b00 X G E c t)(ht:∀ a b d p,t≠.IfExp a b d p)(ga:b00 X G E a x)(gb:b00 X G E b y):b00 X G E (.ite c a b) (.IfExp t x y p):=by
 ¤⟨PE.imp (I21 (gc.pt ht) ga.pe gb.pe) λσ H Q q=>?_,λh=>absurd rfl (h t x y p),λop vs p h=>by cases h⟩
 ¶⟨zA,ρ,z,rr,rel,st,e,po⟩:=q
 ¤T80 rel st e (f90 po) λk z1 e1 H1 x1 st1=>?_
 have po1:=po.u72 x1
 cases k with
 |true =>
  rw[if_pos rfl]
  rw[if_pos rfl] at e1
  §⟨zA,ρ,z1,rr,rel.mono x1,st1,e1,po1⟩
 |false =>
  rw[if_neg Ð]
  rw[if_neg Ð] at e1
  §⟨zA,ρ,z1,rr,rel.mono x1,st1,e1,po1⟩
÷W32(x:XI lm X G E N sc){o o':Cm}{a b c:Ex}{l r s:Ò}{pos:Pos}(hs:z80 s=true)(ga:b00 X G E a l)(gb:b00 X G E b r)(gc:b00 X G E c s):b00 X G E (.ch o o' a b c) (.Compare l [opC o,opC o'] [r,s] pos):=by
 have hm:lastMarks [opC o,opC o'] [r,s]=false:=x61 hs _
 have key:∀ σ H Q,tI X.K G E (.ch o o' a b c) σ H Q->r41 (rD2 X.K λa b=>(A20 o a b).map λc=>.d (.bl c)) (rD2 X.K λa b=>(A20 o' a b).map λc=>.d (.bl c)) (tI X.K G E a) (tI X.K G E b) (tI X.K G E c) σ H Q:=λσ H Q q=>by
  ¶⟨zA,ρ,z,rr,rel,st,e,po⟩:=q
  ¤g61 rel st e (f90 po) λdx dy z2 v w H2 e2 x2 st2 h1 h2=>?_
  ¶⟨k,hk,e3⟩:=M.a10 e2
  ¤⟨zA,z2,dx,dy,.d (.bl k),st2,h1,h2,by show Î4 _ (A20 o dx dy)=_;rw[hk];rfl,λv3 H3 sm rv=>⟨k,Hd.bl_ (show Hd X.K (hz zA H3) (.bl k) v3 from rv),?_⟩⟩
  have x3:=x2.trans (Ext.of sm)
  have st3:=st2.same sm
  cases k with
  |true =>
   rw[if_pos rfl]
   rw[if_pos rfl] at e3
   ¤j40 (rel.mono x3) st3 e3 (λc z2 q=>((f90 po) c z2 q).mono x3) λm z4 e4=>?_
   ¶⟨dw,p1,e5⟩:=M.a10 e4
   ¶⟨k',hk',e6⟩:=M.a10 e5
   ¶⟨s1,rfl,q1⟩:=f40 p1
   cases e6
   ¤⟨s1,rfl,λv4 H4 x4 st4 rv4=>?_⟩
   §⟨zA,z4,dy,dw,_,st4,(h2.same (a30.trans (k40 sm) x4)),rv4.pl.d_ q1,by show Î4 _ (A20 o' dy dw)=_;rw[hk'];rfl,e90 po (x3.trans x4) st4⟩
  |false =>
   rw[if_neg Ð]
   rw[if_neg Ð] at e3
   cases e3
   §e90 po x3 st3 _ _ (a30.refl H3) h90
 ¤⟨PE.imp (I61 (l22 x.room.units o) (l22 x.room.units o') ga.pe gb.pe gc.pe hm) key,λ_=>PT.imp (I71 (l22 x.room.units o) (l22 x.room.units o') ga.pe gb.pe gc.pe hm) λσ H Q q=>?_,λop vs p h=>by cases h⟩
 ¶⟨zA,ρ,z,rr,rel,st,e,po⟩:=q
 §key σ H _ ⟨zA,ρ,z,rr,rel,st,e,V41 po⟩
÷V61:∀ σ H Q,tI X.K G E (.bf f as) σ H Q->tCB (rDn X.K (bfD f)) (tA X.K G E as) σ H Q:=λσ H Q q=>by
 ¶⟨zA,ρ,z,rr,rel,st,e,po⟩:=q
 ¤b21 rel st e (f90 po) λl z1 e1 vs H1 x1 st1 rvs=>?_
 ¶⟨ds,hd,e2⟩:=M.a10 e1
 ¶⟨s,hs,e3⟩:=M.a10 e2
 cases e3
 §⟨zA,z1,ds,s,st1,G30 rvs hd,hs,e90 po x1 st1⟩
÷b31(x:XI lm X G E N sc){f:Bf}{as:Ex}{n:Str}{id:String}{e:Ò}{l:List Ò}{p pos:Pos}(hc:f00 X (.builtin id) (rDn X.K (bfD f)))(hb:n∈f62)(hv:ë n=some (.builtin id))(hg:glob sc n=true)(hL:isL as=true)(g:Good X G E as (e::l)):b00 X G E (.bf f as) (.Call (.Name n p) (e::l) [] pos):=by
 ¶⟨k1,k2,k3⟩:=d70 hg
 ¶⟨ha,hs⟩:=g.args hL
 rw[Ã9,Á] at hs
 §b10 (PE.imp (t60 hc (x.glb n k1) (x.blt n hb) hv ha k3 k2 (c80 hs.1 l X.env) (q00 X.env pos hs.2)) V61) rfl
÷f92(x:XI lm X G E N sc){f:Bf}{as:Ex}{n:Str}{T:String}{e:Ò}{l:List Ò}{p pos:Pos}(hc:f00 X (.type T) (rDn X.K (bfD f)))(hb:n∈f62)(hv:ë n=some (.type T))(hg:glob sc n=true)(hL:isL as=true)(g:Good X G E as (e::l)):b00 X G E (.bf f as) (.Call (.Name n p) (e::l) [] pos):=by
 ¶⟨k1,k2,k3⟩:=d70 hg
 ¶⟨ha,hs⟩:=g.args hL
 rw[Ã9,Á] at hs
 §b10 (PE.imp (Q90 hc (x.glb n k1) (x.blt n hb) hv ha k3 k2 (c80 hs.1 l X.env) (q00 X.env pos hs.2)) V61) rfl
÷u92:ë "len"=some (.builtin "len"):=by decide +kernel
÷U10:ë "sorted"=some (.builtin "sorted"):=by decide +kernel
÷v02:ë "all"=some (.builtin "all"):=by decide +kernel
÷v12:ë "sum"=some (.builtin "sum"):=by decide +kernel
÷v22:ë "min"=some (.builtin "min"):=by decide +kernel
÷v32:ë "max"=some (.builtin "max"):=by decide +kernel
÷v42:ë "abs"=some (.builtin "abs"):=by decide +kernel
÷u40:ë "isinstance"=some (.builtin "isinstance"):=by decide +kernel
÷v52:ë "int"=some (.type "int"):=by decide +kernel
÷M30:ë "tuple"=some (.type "tuple"):=by decide +kernel
÷b41:ë "list"=some (.type "list"):=by decide +kernel
÷W42(x:XI lm X G E N sc){f:Bf}{as:Ex}{n:Str}{e:Ò}{l:List Ò}{p pos:Pos}(hf:served f=true)(hn:n=(bfN f).1)(hg:glob sc n=true)(hL:isL as=true)(g:Good X G E as (e::l)):b00 X G E (.bf f as) (.Call (.Name n p) (e::l) [] pos):=by
 subst hn
 cases f with
 |len=>§b31 x t02 (by decide) u92 hg hL g
 |tuple=>§f92 x O21 (by decide) M30 hg hL g
 |list=>§f92 x e72 (by decide) b41 hg hL g
 |min=>§b31 x (t32 x.calm) (by decide) v22 hg hL g
 |max=>§b31 x (t42 x.calm) (by decide) v32 hg hL g
 |abs=>§b31 x t52 (by decide) v42 hg hL g
 |all=>§b31 x (t12 x.calm) (by decide) v02 hg hL g
 |int=>§f92 x t62 (by decide) v52 hg hL g
 |sorted=>§b31 x (x41 x.room.units) (by decide) U10 hg hL g
 |sum=>§b31 x (t22 x.calm) (by decide) v12 hg hL g
 |_=>cases hf
÷K32(t:Ty)(h:t≠.seq):À9 (tyN t)∈f62/\ë (À9 (tyN t))=some (.type (tyN t))/\tyN t∈["int","bool","tuple","list","str"]:=by
 cases t with
 |seq=>§absurd rfl h
 |_=>decide +kernel
÷v62(x:XI lm X G E N sc){t:Ty}{a:Ex}{n:Str}{e:Ò}{p pos p2:Pos}(hs:t≠.seq)
  (hg2:glob sc (À9 (tyN t))=true) (hn:n="isinstance") (hg:glob sc n=true) (ns:noStar e=true) (ga:b00 X G E a e):b00 X G E (.isi t a) (.Call (.Name n p) [e,.Name (À9 (tyN t)) p2] [] pos):=by
 ¶⟨hb,hv,ht⟩:=K32 t hs
 subst hn
 ¶⟨k1,k2,k3⟩:=d70 hg
 ¶⟨m1,m2,m3⟩:=d70 hg2
 ¤b10 (PE.imp (t60 L71 (x.glb _ k1) (x.blt _ (by decide)) u40 (e60 ga.pe (e60 (J10 (v:=.ty (tyN t)) (x.glb _ m1) (x.blt _ hb) hv rfl m3 m2) r00) (c80 ns _ _)) k3 k2 (c80 ns _ _) rfl) λσ H Q q=>?_) rfl
 ¶⟨zA,ρ,z,rr,rel,st,e,po⟩:=q
 ¤j40 rel st e (f90 po) λm z1 e1=>?_
 ¶⟨d,p1,e2⟩:=M.a10 e1
 ¶⟨s1,rfl,q1⟩:=f40 p1
 cases e2
 ¤⟨s1,rfl,λv H1 x1 st1 rv=>⟨d,v,tyN t,rfl,((rv.pl.d_ q1).same (a20 zA H1)).has,ht,?_⟩⟩
 rw[e82 t d hs]
 §e90 po x1 st1 _ _ (a30.refl H1) h90
÷v72(x:XI lm X G E N sc){a:Ex}{n:Str}{e:Ò}{p pos p1 p2 p3:Pos}{k:Nat}(hg2:glob sc "tuple"=true)(hg3:glob sc "list"=true)(hn:n="isinstance")(hg:glob sc n=true)(ns:noStar e=true)(ga:b00 X G E a e) :
  b00 X G E (.isi .seq a) (.Call (.Name n p) [e,.Tuple [.Name "tuple" p1,.Name "list" p2] k p3] [] pos):=by
 subst hn
 ¶⟨k1,k2,k3⟩:=d70 hg
 ¶⟨m1,m2,m3⟩:=d70 hg2
 ¶⟨l1,l2,l3⟩:=d70 hg3
 ¤b10 (PE.imp (t60 u21 (x.glb _ k1) (x.blt _ (by decide)) u40 (e60 ga.pe (e60 (T51 (e60 (J10 (v:=.ty "tuple") (x.glb _ m1) (x.blt _ (by decide)) M30 rfl m3 m2)
  (e60 (J10 (v:=.ty "list") (x.glb _ l1) (x.blt _ (by decide)) b41 rfl l3 l2) r00))) r00) (c80 ns _ _)) k3 k2 (c80 ns _ _) rfl) λσ H Q q=>?_) rfl
 ¶⟨zA,ρ,z,rr,rel,st,e,po⟩:=q
 ¤j40 rel st e (f90 po) λm z1 e1=>?_
 ¶⟨d,p1,e2⟩:=M.a10 e1
 ¶⟨s1,rfl,q1⟩:=f40 p1
 cases e2
 ¤⟨s1,rfl,λv H1 x1 st1 rv=>⟨by show 2<=Û;rw[Á2];decide,λt ht=>?_⟩⟩
 have sm:a30 H1 (upd H1 t (.tup [.ty "tuple",.ty "list"])):=a30.new _ ht
 ¤⟨d,v,t,rfl,((rv.pl.d_ q1).same (a30.trans (a20 zA H1) sm)).has,SqT.of b20,?_⟩
 rw[O41 d]
 §e90 po x1 st1 _ _ sm h90
÷K42{a i:Ex}{v x:Ò}{pos:Pos}(hs:D40 x=true)(ga:b00 X G E a v)(gi:b00 X G E i x):b00 X G E (.idx a i) (.Subscript v x pos):=by
 ¤b10 (PE.imp (Z61 ixD ga.pe gi.pe (H10 hs)) λσ H Q q=>?_) rfl
 ¶⟨zA,ρ,z,rr,rel,st,e,po⟩:=q
 ¤g61 rel st e (f90 po) λdx dy z2 v w H2 e2 x2 st2 h1 h2=>?_
 ¶⟨c,hc,e3⟩:=M.a10 e2
 cases e3
 §⟨zA,z2,dx,dy,_,st2,h1,h2,by show Î4 _ (n61 dx dy)=_;rw[hc];rfl,e90 po x2 st2⟩
÷v82(x:XI lm X G E N sc){i k:Nat}{n:Str}{c:Nat}{p q pos:Pos}(h1:N[i]?=some n)(h2:d00 n=true):b00 X G E (.zget i k) (.Subscript (.Name n p) (.Constant (.int k) c q) pos):=by
 unfold d00 at h2
 simp only[Á,À0] at h2
 ¤b10 (PE.imp (Z61 Y70 (n70 (i:=i) (by rw[x.hN];§h1) (x.vis n (é h1)) h2.1 h2.2) P80 (H10 rfl)) λσ H Q qq=>?_) rfl
 ¶⟨zA,ρ,z,rr,rel,st,e,po⟩:=qq
 have e0:w41 k ρ[i]? z=some rr:=e
 unfold w41 at e0
 split at e0
 ·rename_i p hs
  ¶⟨v,hv,a,hz',rfl⟩:=rel i .z hs
  subst hz'
  have st':H a=some (.lst [.int p.1,.bl p.2]):=st.zat
  ¤⟨_,hv,a,[.int p.1,.bl p.2],(k:Int),?_⟩
  split at e0
  ·rename_i hk
   subst hk
   cases e0
   ¶⟨s',e',po⟩:=po
   cases e'
   §⟨_,rfl,rfl,SqL.of st',rfl,po _ H Ext.refl st i70⟩
  ·split at e0
   ·rename_i hk
    subst hk
    cases e0
    ¶⟨s',e',po⟩:=po
    cases e'
    §⟨_,rfl,rfl,SqL.of st',rfl,po _ H Ext.refl st (H61 Hd.bl)⟩
   ·cases e0
 ·cases e0
÷g71(a:Int):∀ (n:Nat) {its:List Ä},its.length=n->(∀ i,i < n->∃ v t,its[i]?=some v/\v=.int (a + (i:Nat)) t)->Vals ((í n).map λ(k:Nat)=>V.int (a + k)) its:=by
 intro n its hl h
 have:∀ (m:Nat) (l:List Ä) (o:Nat),l.length=m->(∀ i,i < m->∃ v t,l[i]?=some v/\v=.int (a + (o + i:Nat)) t)->Vals ((Â8 o m 1).map λ(k:Nat)=>V.int (a + k)) l:=by
  intro m
  induction m with
  |zero =>
   intro l o hl _
   rw[List.length_eq_zero_iff.mp hl]
   §.nil
  |succ m ih =>
   intro l o hl h
   cases l with
   |nil=>cases hl
   |cons x r =>
    ¶⟨v,t,e1,e2⟩:=h 0 (Nat.succ_pos m)
    simp only[Ê9,Ê0] at e1
    subst e1
    rw[Â0,Å7]
    ¤.cons ⟨t,by rw[e2];simp⟩ (ih r (o + 1) (by simpa using hl) λi hi=>?_)
    ¶⟨v,t,e1,e2⟩:=h (i + 1) (Nat.succ_lt_succ hi)
    §⟨v,t,by simpa using e1,by rw[e2];congr 1;omega⟩
 rw[Õ3]
 §this n its 0 hl λi hi=>by
  ¶⟨v,t,e1,e2⟩:=h i hi
  §⟨v,t,e1,by rw[e2];simp⟩
÷x71:ë "range"=some (.type "range"):=by decide +kernel
def lrV:List V->Option (Int × Int)
 |[.int j]=>some (0,j)
 |[.int i,.int j]=>some (i,j)
 |_=>none
def lrO:Bool->List V->HO
 |true=>HO.tup
 |false=>HO.lst
def lrT:Bool->String
 |true=>"tuple"
 |false=>"list"
def K52(b:Bool)(ta:TA):TE:=λσ H Q=>ta σ H λvs H1=>∃ i j:Int,lrV vs=some (i,j)/\-100000 < i/\i < 100000/\-100000 < j/\j < 100000/\∀ l,H1 l=none->Q (.ref l) (upd H1 l (lrO b ((í (j - i).toNat).map λ(k:Nat)=>V.int (i + k))))
÷v92{pins:List (Ç × Obj)}{σ:L2.St}{H1:Hp}{s1:Æ}{r:Ç}{i j:Int}{t u v:Tok}{Q:VK}(hc:X.calm=true)(I2:Inv X pins σ H1 s1)(hr:Ö1 s1.heap r i j 1 t u v)(i1:-100000 < i)(i2:i < 100000)(j1:-100000 < j)(j2:j < 100000)
  (q:∀ l,H1 l=none->Q (.ref l) (upd H1 l (.lst ((í (j - i).toNat).map λ(k:Nat)=>V.int (i + k))))):Ï (Ô X.prog X.w) X.A (call (.type "list") [.ref r]) (EP X pins σ Q) X.xe s1:=by
 have hz:Ã7 i j 1=(((j - i).toNat:Nat):Int):=by rw[rangeSize_one];split <;> omega
 ¤call_list_range (n:=(j - i).toNat) (I2.ok.hd hc) hr (small_one (by omega) (by omega) (by omega) (by omega)) hz (by omega) λh' tk acc' c' kp hS hacc=>?_
 have rv:Vals ((í (j - i).toNat).map λ(k:Nat)=>V.int (i + k)) acc'.toList:=by
  ¤g71 i (j - i).toNat ?_ λi hi=>?_
  ·rw[Ê5];§hacc.1
  ·have hlt:i < acc'.size:=by rw[hacc.1];§hi
   ¶⟨t,e⟩:=hacc.2 i acc'[i] (É2 hlt)
   §⟨acc'[i],t,by rw[ô];§É2 hlt,by rw[e];simp⟩
 have hlen:((í (j - i).toNat).map λ(k:Nat)=>V.int (i + k)).length<=sizeLine:=by rw[É,ù,Á2];omega
 have hn:=I2.hok.fresh (Í _)
 §⟨.ref _,_,I2.laid (t':=tk) kp (Í _) (show h50 X.prog X.w _ h' _ (.lst _) from⟨hlen,acc'.toList,c',rv,by rw[Ð1];§hS⟩),rfl,q _ hn⟩
÷g02{pins:List (Ç × Obj)}{σ:L2.St}{H1:Hp}{s1:Æ}{r:Ç}{i j:Int}{t u v:Tok}{Q:VK}(hc:X.calm=true)(I2:Inv X pins σ H1 s1)(hr:Ö1 s1.heap r i j 1 t u v)(i1:-100000 < i)(i2:i < 100000)(j1:-100000 < j)(j2:j < 100000)
  (q:∀ l,H1 l=none->Q (.ref l) (upd H1 l (.tup ((í (j - i).toNat).map λ(k:Nat)=>V.int (i + k))))):Ï (Ô X.prog X.w) X.A (call (.type "tuple") [.ref r]) (EP X pins σ Q) X.xe s1:=by
 have hz:Ã7 i j 1=(((j - i).toNat:Nat):Int):=by rw[rangeSize_one];split <;> omega
 ¤HT.tuple_range (n:=(j - i).toNat) (I2.ok.hd hc) hr (small_one (by omega) (by omega) (by omega) (by omega)) hz (by omega) λh' tk acc' kp hsz hacc=>?_
 have rv:Vals ((í (j - i).toNat).map λ(k:Nat)=>V.int (i + k)) acc'.toList:=by
  ¤g71 i (j - i).toNat ?_ λi hi=>?_
  ·rw[Ê5];§hacc.1
  ·have hlt:i < acc'.size:=by rw[hacc.1];§hi
   ¶⟨t,e⟩:=hacc.2 i acc'[i] (É2 hlt)
   §⟨acc'[i],t,by rw[ô];§É2 hlt,by rw[e];simp⟩
 have hlen:((í (j - i).toNat).map λ(k:Nat)=>V.int (i + k)).length<=sizeLine:=by rw[É,ù,Á2];omega
 §⟨.ref _,_,I2.laid (t':=tk) (λb o e=>Ã _ (kp b o e)) hsz (show h50 X.prog X.w _ _ _ (.tup _) from⟨hlen,acc'.toList,rv,⟨_,Ë _ rfl,rfl,0,by rw[Ð1]⟩⟩),rfl,q _ (I2.hok.fresh hsz)⟩
÷x81(b:Bool){pins:List (Ç × Obj)}{σ:L2.St}{H1:Hp}{s1:Æ}{r:Ç}{i j:Int}{t u v:Tok}{Q:VK}(hc:X.calm=true)(I2:Inv X pins σ H1 s1)(hr:Ö1 s1.heap r i j 1 t u v)(i1:-100000 < i)(i2:i < 100000)(j1:-100000 < j)(j2:j < 100000)
  (q:∀ l,H1 l=none->Q (.ref l) (upd H1 l (lrO b ((í (j - i).toNat).map λ(k:Nat)=>V.int (i + k))))):Ï (Ô X.prog X.w) X.A (call (.type (lrT b)) [.ref r]) (EP X pins σ Q) X.xe s1:=by
 cases b with
 |true=>§g02 hc I2 hr i1 i2 j1 j2 q
 |false=>§v92 hc I2 hr i1 i2 j1 j2 q
÷K62(b:Bool):ë (lrN b)=some (.type (lrT b)):=by
 cases b with
 |true=>§M30
 |false=>§b41
÷x91(b:Bool){e:Ò}{l:List Ò}{ta:TA}{p p2 pos pos2:Pos}(hc:X.calm=true)(hg:Gl X (lrN b))(hm:X.mg (lrN b)=none)(hg2:Gl X "range")(hm2:X.mg "range"=none)(ha:PA X (e::l) ta)(hs:noStar e=true)(hs2:l.all noStar=true) :
  PE X (.Call (.Name (lrN b) p) [.Call (.Name "range" p2) (e::l) [] pos2] [] pos) (K52 b ta):=by
 intro pins s σ H Q I h
 ¤Call_ (t50 I hg hm (K62 b) (Á1 (Ö9 ?_) rfl rfl) (by cases b <;> decide) (by cases b <;> decide))
 ¤Call_ (t50 I hg2 hm2 x71 (Á1 (thn (ha pos2 pins s σ H _ I h) λus s1 ⟨vs,H1,I1,r1,q1⟩=>?_) (c80 hs l X.env) (q00 X.env pos2 hs2)))
 ¶⟨i,j,hv,i1,i2,j1,j2,q⟩:=q1
 match vs,hv with
 |[.int _],hv =>
  cases hv
  ¶⟨u,rfl,r⟩:=vals1 r1
  ¶⟨t,rfl⟩:=r
  §call_range_1 (Ð4 (x81 b hc (I1.kept λb o e=>Ã _ e) (Ö1.new ..) i1 i2 j1 j2 q))
 |[.int _,.int _],hv =>
  cases hv
  ¶⟨u,u',rfl,r,r'⟩:=vals2 r1
  ¶⟨t,rfl⟩:=r
  ¶⟨t',rfl⟩:=r'
  §call_range_2 (Ð4 (x81 b hc (I1.kept λb o e=>Ã _ e) (Ö1.new ..) i1 i2 j1 j2 q))
÷O91:∀ {ds xs:List D},lrD ds=some xs->∃ i j:Int,((ds=[.int j]/\i=0)∨ds=[.int i,.int j])/\-100000 < i/\i < 100000/\-100000 < j/\j < 100000/\xs=(í (j - i).toNat).map λ(k:Nat)=>D.int (i + k)
 |[],_,h=>by cases h
 |[x],xs,h=>by
  cases x with
  |int j =>
   ¶⟨hj,h⟩:=g30 h
   have hj:=G20.mp hj
   §⟨0,j,.inl ⟨rfl,rfl⟩,by omega,by omega,hj.1,hj.2,by cases h;simp⟩
  |_=>cases h
 |[x,y],xs,h=>by
  cases x with
  |int i =>
   cases y with
   |int j =>
    ¶⟨hj,h⟩:=g30 h
    have h1:=G20.mp hj.1
    have h2:=G20.mp hj.2
    §⟨i,j,.inr rfl,h1.1,h1.2,h2.1,h2.2,by cases h;rfl⟩
   |_=>cases h
  |_=>cases h
 |x::y::_::_,_,h=>by
  cases x with
  |int i=>cases y <;> cases h
  |_=>cases h
÷w02(x:XI lm X G E N sc){b:Bool}{as:Ex}{a:Ò}{l:List Ò}{p p2 pos pos2:Pos}(h1:glob sc (lrN b)=true)(h2:glob sc "range"=true)(hL:isL as=true)(g:Good X G E as (a::l)):b00 X G E (.lrng b as) (.Call (.Name (lrN b) p) [.Call (.Name "range" p2) (a::l) [] pos2] [] pos):=by
 ¶⟨k1,_,_⟩:=d70 h1
 ¶⟨m1,_,_⟩:=d70 h2
 ¶⟨ha,hs⟩:=g.args hL
 rw[Ã9,Á] at hs
 ¤b10 (PE.imp (x91 b x.calm (x.glb _ k1) (x.blt _ (by cases b <;> decide)) (x.glb _ m1) (x.blt _ (by decide)) ha hs.1 hs.2) λσ H Q q=>?_) rfl
 ¶⟨zA,ρ,z,rr,rel,st,e,po⟩:=q
 ¤b21 rel st e (f90 po) λl z1 e1 vs H1 x1 st1 rvs=>?_
 ¶⟨xs,hx,e2⟩:=M.a10 e1
 cases e2
 ¶⟨s',e',po⟩:=po
 cases e'
 ¶⟨ds,h3,h4⟩:=Î.mp hx
 have hd:=G30 rvs h3
 have fin:∀ i j:Int,xs=(í (j - i).toNat).map (λ(k:Nat)=>D.int (i + k))->∀ lA,H1 lA=none->Q (.ref lA) (upd H1 lA (lrO b ((í (j - i).toNat).map λ(k:Nat)=>V.int (i + k)))):=λi j ex lA hn=>by
  subst ex
  have hI:=HdA.ints (K:=X.K) (H:=hz zA H1) ((í (j - i).toNat).map λ(k:Nat)=>i + (k:Int))
  rw[ó,ó] at hI
  cases b with
  |false=>§po _ _ (x1.trans (Ext.of (a30.new _ hn))) (st1.same (a30.new _ hn)) ((n20 st1 hI hn).from x1)
  |true=>§po _ _ (x1.trans (Ext.of (a30.new _ hn))) (st1.same (a30.new _ hn)) (H61 (Hd.tup ((st1.same (a30.new _ hn)).d62 (SqT.of b20)) (hI.same (k40 (a30.new _ hn)))))
 ¶⟨i,j,hds,j1,j2,j3,j4,ex⟩:=O91 h4
 ¤⟨i,j,?_,j1,j2,j3,j4,fin i j ex⟩
 rcases hds with ⟨rfl,rfl⟩ | rfl
 ·¶⟨v,rfl,h5⟩:=hd.one
  cases h5.i20
  rfl
 ·¶⟨v,w,rfl,h5,h6⟩:=hd.two
  cases h5.i20;cases h6.i20
  rfl
end
÷y01(val:Nat->Nat)(i:Nat):∀ n,(SS.met val n).testBit i=(í n).any λj=>val j == i
 |0=>Nat.zero_testBit i
 |n + 1=>by
  show(SS.met val n ||| 2 ^ val n).testBit i=_
  rw[Nat.testBit_or,y01 val i n,Nat.testBit_two_pow,range_succ,List.any_append]
  simp
  rfl
÷g81:∀ {l:List D}{ns:List Nat},C80 l=some ns->l=ns.map (λ(n:Nat)=>D.int n)/\∀ n∈ns,n < 8
 |[],ns,h=>by cases h;§⟨rfl,λn hn=>by cases hn⟩
 |x::r,ns,h=>by
  cases x with
  |int i =>
   ¶⟨hi,h⟩:=g30 h
   ¶⟨ms,h1,rfl⟩:=Ê.mp h
   ¶⟨e,k⟩:=g81 h1
   ¤⟨?_,λn hn=>?_⟩
   ·rw[Å7,← e,show((i.toNat:Nat):Int)=i from Int.toNat_of_nonneg hi.1]
   ·rcases ú.mp hn with rfl | hn
    ·omega
    ·§k n hn
  |_=>cases h
÷g12{ns:List Nat}:SS.bts (SS.met (λi=>ns.getD i 0) ns.length)=(í 8).filter λi=>ns.contains i:=by
 unfold SS.bts
 ¤List.filter_congr λi _=>?_
 rw[y01]
 rw[Í5,List.any_eq_true,Ì4]
 constructor
 ·rintro ⟨j,hj,e⟩
  rw[mem_range] at hj
  rw[← eq_of_beq e,Ö,ç hj]
  §É0 hj
 ·intro h
  ¶⟨j,hj,e⟩:=Õ4.mp h
  §⟨j,Ä3.mpr hj,by rw[Ö,ç hj,← e];§beq_self_eq_true _⟩
÷y11{K:Â}{H:Hp}:∀ {ns:List Nat}{us:List V},HdA K H (ns.map λ(n:Nat)=>D.int n) us->us=ns.map λ(n:Nat)=>V.int n
 |[],_,h=>h.f30
 |n::r,_,h=>by
  ¶⟨y,q,rfl,h1,h2⟩:=HdA.c40 h
  rw[h1.i20,y11 h2];rfl
÷y21{K:Â}{H:Hp}:∀ ns:List Nat,HdA K H (ns.map λ(n:Nat)=>D.int n) (ns.map λ(n:Nat)=>V.int n)
 |[]=>.nil
 |n::r=>.cons Hd.int (y21 r)
÷y31{ns:List Nat}(h:∀ n∈ns,n < 8)(i:Nat):ns.getD i 0 < 8:=by
 rw[Ö]
 cases e:ns[i]? with
 |none=>decide
 |some n=>§h n (é e)
section
variable {lm:Bool}{X:Cx}{G:Gs}{E:XK}{N:List Str}{sc:ý}
def P01(w:è)(p m:Nat):ì->Prop:=λh=>SS.z40 w h p m
÷y41(hc:X.calm=true):f00 X (.type "set") (λxs H Q=>∃ (a:Ç) (ns:List Nat) (us:List V),xs=[.ref a]/\(SqL X.K H a us∨SqT X.K H a us)/\us=ns.map (λ(n:Nat)=>V.int n)/\(∀ n∈ns,n < 8)/\∀ p,H p=none->Q (.ref p) (upd H p (.ext (P01 X.w p (SS.met (λi=>ns.getD i 0) ns.length))))):=by
 intro pins s σ H xs us Q I r h
 ¶⟨a,ns,vs,rfl,hq,rfl,h8,q⟩:=h
 ¶⟨u,rfl,rx⟩:=vals1 r
 cases rx
 have hv:∀ i,(λi=>ns.getD i 0) i < 8:=y31 h8
 have hp:∀ {its:List Ä},Vals (ns.map λ(n:Nat)=>V.int n) its->its.toArray.size=ns.length/\∀ (i:Nat) (v:Ä),its.toArray[i]?=some v->∃ t,v=.int ((λi=>ns.getD i 0) i:Nat) t:=λ{its} rv=>by
  ¤⟨by rw[Ó,← rv.length,É],λi v e=>?_⟩
  have e:its[i]?=some v:=by simpa using e
  have hi:i < ns.length:=by have:=(Þ.mp e).1;rw[← rv.length,É] at this;§this
  ¶⟨w',e1,e2⟩:=rv.get (i:=i) (x:=V.int (ns[i]:Nat)) (by simp[hi])
  rw[e] at e1;cases e1
  ¶⟨t,rfl⟩:=e2
  §⟨t,by simp[hi]⟩
 have fin:∀ (h':ì) (tk:Nat),SS.z40 X.w h' s.heap.objs.size (SS.met (λi=>ns.getD i 0) ns.length)->(∀ b u,s.heap.get? b=some u->h'.get? b=some u)->EP X pins σ Q (.ref s.heap.objs.size) { s with heap:=h',toks:=tk }:=λh' tk hS kp=>by
  ¤⟨.ref s.heap.objs.size,_,I.laid (t':=tk) (o:=.ext (P01 X.w s.heap.objs.size (SS.met (λi=>ns.getD i 0) ns.length))) kp (Í _) ⟨hS,?_,λh1 h2 p k=>p.keep k⟩,rfl,q _ (I.hok.fresh (Í _))⟩
  ¶⟨o,_,_,ho,_⟩:=hS
  §⟨o,ho⟩
 rcases hq with hq | hq
 ·¶⟨its,rv,pl,_⟩:=I.list hq
  ¶⟨o,ho,hcl,n,hd⟩:=pl.isList
  ¶⟨sz,pv⟩:=hp rv
  ¤SS.f61 (o:=o) (it:={ cls:=.type "list_iterator",data:=.fields #[.ref a,.int 0 0] }) (n:=its.toArray.size) (St:=λI i h=>h.IsListIter I a i/\h.IsList a its.toArray) (Pv:=λi v=>its.toArray[i]?=some v) (val:=λi=>ns.getD i 0)
   ⟨hcl,F.sub_list_set,F.sub_list_frozenset,by decide,λA E s Q e q=>Ý4 ⟨o,e,hcl,n,hd⟩ q,λA I hh hn=>Walks.list hh I a hn _,λh e=>⟨⟨_,Ë _ rfl,rfl,rfl⟩,⟨o,Ã _ e,hcl,n,hd⟩⟩⟩ (by §I.ok.hd hc) ho hv pv λh' tk x kp=>?_
  rw[sz] at x
  §fin h' tk x kp
 ·¶⟨its,rv,pl,_⟩:=I.tuple hq
  ¶⟨o,ho,hcl,n,hd⟩:=pl
  ¶⟨sz,pv⟩:=hp rv
  ¤SS.f61 (o:=o) (it:={ cls:=.type "tuple_iterator",data:=.fields #[.ref a,.int 0 0] }) (n:=its.toArray.size) (St:=λI i h=>h.IsTupleIter I a i/\h.IsTuple a its.toArray) (Pv:=λi v=>its.toArray[i]?=some v) (val:=λi=>ns.getD i 0)
   ⟨hcl,by rw[Ñ7];kernel_rfl,by rw[Ñ7];kernel_rfl,by decide,λA E s Q e q=>Ç8 ⟨o,e,hcl,n,hd⟩ q,λA I hh hn=>Walks.tuple hh I a hn _,λh e=>⟨⟨_,Ë _ rfl,rfl,rfl⟩,⟨o,Ã _ e,hcl,n,hd⟩⟩⟩ (by §I.ok.hd hc) ho hv pv λh' tk x kp=>?_
  rw[sz] at x
  §fin h' tk x kp
÷U20(hc:X.calm=true)(hu:X.A.units + 64 < Å9):f00 X (.builtin "sorted") (λxs H Q=>∃ (p:Ç) (m:Nat),xs=[.ref p]/\m < 256/\H p=some (.ext (P01 X.w p m))/\∀ l,H l=none->Q (.ref l) (upd H l (.lst ((SS.bts m).map λ(n:Nat)=>V.int n)))):=by
 intro pins s σ H xs us Q I r h
 ¶⟨p,m,rfl,hm,hp,q⟩:=h
 ¶⟨u,rfl,rx⟩:=vals1 r
 cases rx
 ¶⟨⟨o,ep,g,ho,hx,hd⟩,_⟩:=I.hok p _ hp
 ¤SS.o21 (by §I.ok.hd hc) hu hm ho hx hd λl h' tk c hl kp hD=>?_
 ¤⟨.ref l,_,I.laid (t':=tk) (o:=.lst ((SS.bts m).map λ(n:Nat)=>V.int n)) kp hl ⟨?_,_,c,?_,hD⟩,rfl,q _ (I.hok.fresh hl)⟩
 ·rw[É,Á2]
  have:(SS.bts m).length<=8:=Ñ (Å3 _ _) (by simp)
  omega
 ·clear hD hd
  generalize SS.bts m=l
  induction l with
  |nil=>§.nil
  |cons n r ih=>§.cons ⟨_,rfl⟩ ih
÷w12:ë "set"=some (.type "set"):=by decide +kernel
÷w22(x:XI lm X G E N sc){as:Ex}{e:Ò}{p1 p2 p3 p4:Pos}(h1:glob sc "sorted"=true)(h2:glob sc "set"=true)(hL:isL as=true)(g:Good X G E as [e]):b00 X G E (.bf .sset as) (.Call (.Name "sorted" p1) [.Call (.Name "set" p2) [e] [] p3] [] p4):=by
 ¶⟨k1,k2,k3⟩:=d70 h1
 ¶⟨j1,j2,j3⟩:=d70 h2
 ¶⟨ha,hs⟩:=g.args hL
 rw[Ã9,Á] at hs
 ¤b10 (PE.imp (t60 (U20 x.calm x.room.units) (x.glb _ k1) (x.blt _ (by decide)) U10 (e60 (Q90 (y41 x.calm) (x.glb _ j1) (x.blt _ (by decide)) w12 ha j3 j2 (c80 hs.1 [] X.env) (q00 X.env p3 hs.2)) r00) k3 k2) λσ H Q q=>?_) rfl
 ¶⟨zA,ρ,z,rr,rel,st,ee,po⟩:=q
 ¤b21 rel st ee (f90 po) λl z1 e1 vs H1 x1 st1 rvs=>?_
 ¶⟨ds,hd,e2⟩:=M.a10 e1
 ¶⟨s,hs',e3⟩:=M.a10 e2
 cases e3
 have hds:=G30 rvs hd
 match ds,hs' with
 |[d],hs' =>
  ¶⟨l,hl,hs'⟩:=Î.mp hs'
  ¶⟨ns,hn,rfl⟩:=Ê.mp hs'
  ¶⟨rfl,h8⟩:=g81 hn
  ¶⟨v,rfl,hv⟩:=hds.one
  obtain⟨a,us,rfl,hq,hd'⟩:∃ a us,v=.ref a/\(SqL X.K H1 a us∨SqT X.K H1 a us)/\HdA X.K (hz zA H1) (ns.map λ(n:Nat)=>D.int n) us:=by
   cases d with
   |tup m =>
    cases hl
    ¶⟨a,xs,rfl,m1,m2⟩:=hv.z70
    §⟨a,xs,rfl,.inr ((a20 zA H1).sqT m1),m2⟩
   |lst m =>
    cases hl
    ¶⟨a,xs,rfl,m1,m2⟩:=hv.Y10
    §⟨a,xs,rfl,.inl (m1.same (a20 zA H1)).sq,m2⟩
   |_=>cases hl
  ¤⟨a,ns,us,rfl,hq,y11 hd',h8,λp hp=>⟨p,_,rfl,SS.v31 (y31 h8) _,b20,λl hl=>?_⟩⟩
  have sm:a30 H1 (upd H1 p (.ext (P01 X.w p (SS.met (λi=>ns.getD i 0) ns.length)))):=a30.new _ hp
  rw[g12]
  §e90 po x1 st1 _ _ (a30.trans sm (a30.new _ hl)) ((n20 (st1.same sm) (y21 _) hl).from (Ext.of sm))
def tPO(K:Â)(G:Gs)(E:XK)(x:Ex):TO:=λσ H Q=>∃ zA ρ z r,y00 K zA H ρ σ/\e40 zA z H/\ev G.F x ρ z=some r/\(match r with
 |.ok l z'=>∃ o,w31 l=some o/\∀ H',Ext zA H H'->e40 zA z' H'->Q o H'
 |.er c z'=>EPost G zA E c z' H)
÷w32(hL:isL x=true)(g:Good X G E x e.toList):PO X e (tPO X.K G E x):=by
 cases e with
 |none =>
  cases x with
  |nil =>
   ¤λpins s σ H Q I q=>Z41 pins s σ H Q I ?_
   ¶⟨zA,ρ,z,r,rel,st,e,po⟩:=q
   cases e
   ¶⟨o,e',po⟩:=po
   cases e'
   §po H Ext.refl st
  |cons a r=>¶⟨e,es,h,_⟩:=g;cases h
  |_=>cases hL
 |some e =>
  cases x with
  |nil=>cases (show [e]=[] from g)
  |cons a r =>
   ¶⟨e',es,h,ns,ga,lr,gr⟩:=g
   cases h
   ¤λpins s σ H Q I q=>Z51 ga.pe pins s σ H Q I ?_
   ¶⟨zA,ρ,z,rr,rel,st,e,po⟩:=q
   have her:∀ c z1,rr=.er c z1->EPost G zA E c z1 H:=λc z1 e=>by subst e;§po
   have rn:r=.nil:=by
    cases r with
    |nil=>rfl
    |cons b q=>¶⟨e,es,h,_⟩:=gr;cases h
    |_=>cases lr
   subst rn
   ¤j40 rel st e her λl z1 e1=>?_
   ¶⟨s,hs,e2⟩:=M.a10 e1
   cases e2
   ¶⟨o,e',po⟩:=po
   ¤⟨s,D30 hs,λv H1 x1 st1 rv=>?_⟩
   cases s with
   |d y =>
    cases y with
    |int i =>
     cases e'
     §⟨i,Hd.i20 (show Hd X.K (hz zA H1) (.int i) v from rv),po H1 x1 st1⟩
    |_=>cases e'
   |fr ys=>cases e'
   |z=>cases e'
  |_=>cases hL
÷W52{a lo hi:Ex}{v:Ò}{l h:Option Ò}{p pos:Pos}(ga:b00 X G E a v)(hl:isL lo=true)(hh:isL hi=true)(gl:Good X G E lo l.toList)(gh:Good X G E hi h.toList):b00 X G E (.sl a lo hi) (.Subscript v (.Slice l h none p) pos):=by
 ¤b10 (PE.imp (J11 V42 ga.pe (w32 hl gl) (w32 hh gh)) λσ H Q q=>?_) rfl
 ¶⟨zA,ρ,z,rr,rel,st,e,po⟩:=q
 ¤j40 rel st e (f90 po) λm z1 e1=>?_
 ¶⟨dx,p1,e2⟩:=M.a10 e1
 ¶⟨s1,rfl,q1⟩:=f40 p1
 ¤⟨s1,rfl,λw H1 x1 st1 rv=>?_⟩
 rcases M.bind_some e2 with ⟨u,z2,e3,e4⟩ | ⟨c,z2,e3,e4⟩
 ·¶⟨o,ho,e5⟩:=M.a10 e4
  ¤⟨zA,ρ,z1,_,rel.mono x1,st1,e3,o,ho,λH2 x2 st2=>?_⟩
  rcases M.bind_some e5 with ⟨u',z3,e6,e7⟩ | ⟨c,z3,e6,e7⟩
  ·¶⟨o',ho',e8⟩:=M.a10 e7
   ¤⟨zA,ρ,z2,_,(rel.mono x1).mono x2,st2,e6,o',ho',λH3 x3 st3=>?_⟩
   ¶⟨s,hs,e9⟩:=M.a10 e8
   cases e9
   §⟨zA,z3,dx,s,st3,((rv.pl.mono (x2.trans x3)).d_ q1),hs,e90 po ((x1.trans x2).trans x3) st3⟩
  ·§⟨zA,ρ,z2,_,(rel.mono x1).mono x2,st2,e6,((f90 po) c z3 e7).mono (x1.trans x2)⟩
 ·§⟨zA,ρ,z1,_,rel.mono x1,st1,e3,((f90 po) c z2 e4).mono x1⟩
÷K72{a:Ex}{v:Ò}{p1 p2 p3 pos:Pos}{k:Nat}(ga:b00 X G E a v):b00 X G E (.rev a) (.Subscript v (.Slice none none (some (.UnaryOp .USub (.Constant (.int 1) k p1) p2)) p3) pos):=by
 ¤b10 (PE.imp (q12 ga.pe (n92 T41 P80)) λσ H Q q=>?_) rfl
 ¶⟨zA,ρ,z,rr,rel,st,e,po⟩:=q
 ¤j40 rel st e (f90 po) λm z1 e1=>?_
 ¶⟨s,p1,e2⟩:=M.a10 e1
 ¶⟨d,p2,p3⟩:=Î.mp p1
 ¶⟨s1,rfl,q1⟩:=f40 p2
 cases e2
 ¤⟨s1,rfl,λw H1 x1 st1 rv=>⟨1,rfl,rfl,?_⟩⟩
 have hd:=rv.pl.d_ q1
 cases d with
 |tup l =>
  cases p3
  ¶⟨a,xs,rfl,h1,h2⟩:=hd.z70
  §.inl ⟨a,xs,rfl,(a20 zA H1).sqT h1,tupQ st1 h2.reverse (e90 po x1 st1)⟩
 |lst l =>
  cases p3
  ¶⟨a,xs,rfl,h1,h2⟩:=hd.Y10
  §.inr ⟨a,xs,rfl,(h1.same (a20 zA H1)).sq,λp hp=>e90 po x1 st1 _ _ (a30.new _ hp) (n20 st1 h2.reverse hp)⟩
 |_=>cases p3
÷w42:∀ {x:Ex}{es:List Ò}{z z1:Z}{l:List S},isL x=true->Good X G E x es->ev G.F x ρ z=some (.ok l z1)->l.length=es.length:=by
 intro x
 induction x with
 |nil =>
  intro es z z1 l _ h e
  have h:es=[]:=h
  subst h
  cases e
  rfl
 |cons a r _ ih =>
  intro es z z1 l _ h e
  ¶⟨e',es',rfl,ns,g,lr,gr⟩:=h
  rcases M.bind_some e with ⟨m,z2,e1,e2⟩ | ⟨c,z2,e1,e2⟩
  ·¶⟨s,hs,e3⟩:=M.a10 e2
   rcases M.bind_some e3 with ⟨m',z3,e4,e5⟩ | ⟨c,z3,e4,e5⟩
   ·cases e5
    rw[Ü,Ü,ih lr gr e4]
   ·cases e5
  ·cases e2
 |_=>intro es z z1 l h;cases h
÷s_call(x:XI lm X G E N sc){f:Nat}{as:Ex}{n:Str}{ps:List Str}{e:Ò}{l:List Ò}{p pos:Pos}(hf:G.fns[f]?=some (n,ps))(hl:ps.length=l.length + 1)(hg:glob sc n=true)(hL:isL as=true)(g:Good X G E as (e::l)) :
  b00 X G E (.call f as) (.Call (.Name n p) (e::l) [] pos):=by
 ¶⟨k1,k2,k3⟩:=d70 hg
 ¶⟨fa,fd,m1,m2,m3,F⟩:=x.gok f n ps hf
 ¶⟨ha,hs⟩:=g.args hL
 rw[Ã9,Á] at hs
 ¤b10 (PE.imp (Z11 F x.room (x.glb n k1) m1 m2 m3 .nil x.pas ha k2 (c80 hs.1 l X.env) (q00 X.env pos hs.2)) λσ H Q q=>?_) rfl
 ¶⟨zA,ρ,z,rr,rel,st,e,po⟩:=q
 have e0:M.bind (ev G.F as ρ) (λl=>M.bind (G.F false f (l.map plS)) λs=>M.ret [s]) z=some rr:=e
 rcases M.bind_some e0 with ⟨m,z1,e1,e2⟩ | ⟨c,z1,e1,e2⟩
 ·¤⟨zA,ρ,z,_,rel,st,e1,λvs H1 x1 st1 rvs=>?_⟩
  have hv:vs.length=ps.length:=by rw[← rvs.length,w42 hL g e1,hl];rfl
  show spF X.K G f ps.length (vs++[]) H1 Q E
  rw[append_nil]
  ¤⟨hv,zA,z1,m.map plS,?_⟩
  have ra:RvA X.K zA H1 (m.map plS) vs:=RvA.plS (Æ0.k92 rvs λ_ _ q=>q.pl)
  rcases M.bind_some e2 with ⟨s,z2,e3,e4⟩ | ⟨c,z2,e3,e4⟩
  ·cases e4
   ¤⟨_,ra,st1,e3,λv H2 x2 st2 rv=>?_⟩
   ¶⟨s',e',po⟩:=po
   cases e'
   §po v H2 (x1.trans x2) st2 (rv.from x1)
  ·§⟨_,ra,st1,e3,((f90 po) c z2 e4).mono x1⟩
 ·§⟨zA,ρ,z,_,rel,st,e1,(f90 po) c z1 e2⟩
def C22:Pat->Nat
 |.nil=>0
 |.cons _ r=>C22 r + 1
 |_=>0
mutual
noncomputable def gP(K:Â):Pat->TG
 |.v i=>Y30 i
 |.tup ps=>O22 K (C22 ps) (gL K ps)
 |.nil=>λ_ _ _ _=>False
 |.cons _ _=>λ_ _ _ _=>False
noncomputable def gL(K:Â):Pat->TGs
 |.nil=>O12
 |.cons p r=>n22 (gP K p) (gL K r)
 |.v _=>λ_ _ _ _=>False
 |.tup _=>λ_ _ _ _=>False
end
end
end Q
namespace Q
open PySem L2 PySem.Spec PyProof.Rows
variable [TB:Tb]
÷V71(h:noStar e=true)(es:List Ò)(env:È7):É9 (e::es) env=(false,Ù3 e env)::É9 es env:=by
 cases e <;> first | rfl | cases h
structure P11(X:Cx)(N:List Str)(loc:Str->Bool):Prop where
 hN:X.N=N
 nd:N.Nodup
 lc:∀ x,loc x=true->Loc X.env.scope x
 fn:∀ x,loc x=true->(X.fn x=true∨X.env.scope.names.lookup x=some .local)
 calm:X.calm=true
÷H20:∀ {es:List Ò} (env:È7),es.all noStar=true->(É9 es env).length=es.length/\(É9 es env).findIdx? (·.1)=none
 |[],_,_=>⟨rfl,rfl⟩
 |e::es,env,h=>by
  rw[Ã9,Á] at h
  ¶⟨h1,h2⟩:=H20 env h.2
  rw[V71 h.1]
  ¤⟨by rw[Ü,Ü,h1],?_⟩
  rw[List.findIdx?_cons,h2];rfl
÷g91:∀ {r:Pat}{es:List Ò},o31 N loc r es=true->es.length=C22 r/\es.all noStar=true
 |.nil,es,h=>by
  unfold o31 at h
  have:es=[]:=Ì5.mp h
  subst this
  §⟨rfl,rfl⟩
 |.cons p r,es,h=>by
  unfold o31 at h
  cases es with
  |nil=>cases h
  |cons e es =>
   rw[Á,Á] at h
   ¶⟨h1,h2⟩:=g91 (r:=r) h.2
   §⟨by rw[Ü,h1];rfl,by rw[Ã9,h.1.1,h2];rfl⟩
 |.v _,_,h=>by unfold o31 at h;cases h
 |.tup _,_,h=>by unfold o31 at h;cases h
mutual
theorem y51(L:P11 X N loc):∀ {p:Pat}{e:Ò},j50 N loc p e=true->PG X e (gP X.K p)
 |.v i,e,h=>by
  unfold j50 at h
  cases e with
  |Name x pos =>
   rw[Á,beq_iff_eq] at h
   unfold gP
   §r11 (by rw[L.hN];§L.nd) (by rw[L.hN];§h.1) (L.lc x h.2) (L.fn x h.2)
  |_=>cases h
 |.tup ps,e,h=>by
  unfold j50 at h
  cases e with
  |Tuple es k pos =>
   ¶⟨h1,h2⟩:=g91 h
   ¶⟨h3,h4⟩:=H20 X.env h2
   unfold gP
   §n32 L.calm (V81 L h) (by rw[h3,h1]) h4
  |_=>cases h
 |.nil,e,h=>by unfold j50 at h;cases h
 |.cons _ _,e,h=>by unfold j50 at h;cases h
theorem V81(L:P11 X N loc):∀ {r:Pat}{es:List Ò},o31 N loc r es=true->PGs X es (gL X.K r)
 |.nil,es,h=>by
  unfold o31 at h
  have:es=[]:=Ì5.mp h
  subst this
  unfold gL
  §Y51
 |.cons p r,es,h=>by
  unfold o31 at h
  cases es with
  |nil=>cases h
  |cons e es =>
   rw[Á,Á] at h
   unfold gL
   §I31 (y51 L h.1.2) (V81 L h.2) (by rw[V71 h.1.1];rfl)
 |.v _,_,h=>by unfold o31 at h;cases h
 |.tup _,_,h=>by unfold o31 at h;cases h
end
section
variable {K:Â}{zA:Option Ç}{H:Hp}
÷y00.set{ρ:Env}{σ:L2.St}{i:Nat}{s:S}{v:V}(h:y00 K zA H ρ σ)(hl:ρ.length=σ.length)(r:RvP K zA H s v):y00 K zA H (ρ.set i (some s)) (σ.set i (some v)):=by
 intro j t e
 by_cases hj:j=i
 ·subst hj
  have hlt:j < ρ.length:=by
   have:=(Þ.mp e).1
   simpa using this
  rw[ð hlt] at e
  cases e
  §⟨v,ð (by rw[← hl];§hlt),r⟩
 ·rw[ê (Â3 hj)] at e
  ¶⟨w,h1,h2⟩:=h j t e
  §⟨w,by rw[ê (Â3 hj)];§h1,h2⟩
÷D50:∀ {r:Pat}{l:List D}{ρ ρ':Env},bindL r l ρ=some ρ'->l.length=C22 r
 |.nil,l,ρ,ρ',e=>by
  unfold bindL at e
  cases l with
  |nil=>rfl
  |cons x l=>cases e
 |.cons p r,l,ρ,ρ',e=>by
  unfold bindL at e
  cases l with
  |nil=>cases e
  |cons x l =>
   ¶⟨ρ1,e1,e2⟩:=Î.mp e
   rw[Ü,D50 e2];rfl
 |.v _,_,_,_,e=>by unfold bindL at e;cases e
 |.tup _,_,_,_,e=>by unfold bindL at e;cases e
mutual
theorem y61:∀ {p:Pat}{d:D}{ρ ρ':Env},f20 p d ρ=some ρ'->∀ {σ:L2.St}{v:V}{R:L2.St->Hp->Prop},y00 K zA H ρ σ->ρ.length=σ.length->Hd K (hz zA H) d v ->
  (∀ σ',y00 K zA H ρ' σ'->ρ'.length=σ'.length->R σ' H)->gP K p v σ H R
 |.v i,d,ρ,ρ',e,σ,v,R,rel,hl,hd,k=>by
  unfold f20 at e
  cases e
  unfold gP
  §k _ (rel.set hl (show RvP K zA H (.d d) v from hd)) (by rw[Ä1,Ä1,hl])
 |.tup ps,d,ρ,ρ',e,σ,v,R,rel,hl,hd,k=>by
  unfold f20 at e
  cases d with
  |tup l =>
   ¶⟨a,xs,rfl,h1,h2⟩:=hd.z70
   unfold gP
   §⟨a,xs,rfl,(a20 zA H).sqT h1,by rw[h2.length];§D50 e,h01 e rel hl h2 k⟩
  |_=>cases e
 |.nil,_,_,_,e,_,_,_,_,_,_,_=>by unfold f20 at e;cases e
 |.cons _ _,_,_,_,e,_,_,_,_,_,_,_=>by unfold f20 at e;cases e
theorem h01:∀ {r:Pat}{l:List D}{ρ ρ':Env},bindL r l ρ=some ρ'->∀ {σ:L2.St}{vs:List V}{R:L2.St->Hp->Prop},y00 K zA H ρ σ->ρ.length=σ.length->HdA K (hz zA H) l vs ->
  (∀ σ',y00 K zA H ρ' σ'->ρ'.length=σ'.length->R σ' H)->gL K r vs σ H R
 |.nil,l,ρ,ρ',e,σ,vs,R,rel,hl,hd,k=>by
  unfold bindL at e
  cases l with
  |nil =>
   cases e
   unfold gL
   §⟨hd.f30,k σ rel hl⟩
  |cons x l=>cases e
 |.cons p r,l,ρ,ρ',e,σ,vs,R,rel,hl,hd,k=>by
  unfold bindL at e
  cases l with
  |nil=>cases e
  |cons x l =>
   ¶⟨ρ1,e1,e2⟩:=Î.mp e
   ¶⟨v,ws,rfl,h1,h2⟩:=hd.c40
   unfold gL
   §⟨v,ws,rfl,y61 e1 rel hl h1 λσ' r' l'=>h01 e2 r' l' h2 k⟩
 |.v _,_,_,_,e,_,_,_,_,_,_,_=>by unfold bindL at e;cases e
 |.tup _,_,_,_,e,_,_,_,_,_,_,_=>by unfold bindL at e;cases e
end
end
end Q
namespace Q
open PySem L2 PySem.Spec PyProof.Rows
variable [TB:Tb]
structure K82(K:PySem.W.Frag)(zA:Option Addr)(J:L2.It)(xs:List D)(H1:Hp):Prop where
 go:∀ i H,Ext zA H1 H->i < xs.length->J.go i H
 yld:∀ i H x H' z d,Ext zA H1 H->e40 zA z H->J.yld i H x H'->xs[i]?=some d->a30 H H'/\Hd K (hz zA H') d x
 stop:∀ H,Ext zA H1 H->J.stop xs.length H
structure ItB(K:PySem.W.Frag)(J:L2.It)(xs:List D)(B:Hp):Prop where
 go:∀ i H,a30 B H->i < xs.length->J.go i H
 yld:∀ i H x H' zA z d,a30 B (hz zA H)->e40 zA z H->J.yld i H x H'->xs[i]?=some d->a30 H H'/\∀ C,a30 B C->(∀ a ys,SqT K (hz zA H') a ys->SqT K C a ys)->Hd K C d x
 stop:∀ H,a30 B H->J.stop xs.length H
section
variable {K:Â}{B:Hp}
÷ItB.ok(h:ItB K J xs (hz zA H1)):K82 K zA J xs H1 :=
 ⟨λi H x=>h.go i H (a30.trans x (a20 zA H)),λi H x H' z d e st y k=>let ⟨s,f⟩:=h.yld i H x H' zA z d e st y k;⟨s,f _ (a30.trans e (k40 s)) λ_ _ q=>q⟩,λH x=>h.stop H (a30.trans x (a20 zA H))⟩
÷h31(h:p90 K B a ys)(r:HdA K B xs ys):ItB K (Itl K a) xs B where
 go:=λi H x hi=>⟨ys,ys[i]'(by rw[r.length];§hi),(h.same x).sq,by simp⟩
 yld:=λi H v H' zA z d x st y e=>by
  ¶⟨rfl,y⟩:=y
  have y1:=y ys ((h.same x).same (a20 zA _)).sq
  ¶⟨w,e1,e2⟩:=r.get e
  rw[y1] at e1;cases e1
  §⟨a30.refl _,λC c _=>e2.same c⟩
 stop:=λH x=>⟨ys,(h.same x).sq,by rw[r.length];§Í _⟩
÷y71(h:SqT K B a ys)(r:HdA K B xs ys):ItB K (Itt K a) xs B where
 go:=λi H x hi=>⟨ys,ys[i]'(by rw[r.length];§hi),a30.sqT x h,by simp⟩
 yld:=λi H v H' zA z d x st y e=>by
  ¶⟨rfl,y⟩:=y
  have y1:=y ys ((a20 zA _).sqT (a30.sqT x h))
  ¶⟨w,e1,e2⟩:=r.get e
  rw[y1] at e1;cases e1
  §⟨a30.refl _,λC c _=>e2.same c⟩
 stop:=λH x=>⟨ys,a30.sqT x h,by rw[r.length];§Í _⟩
÷y81(lo:Int)(n:Nat):ItB K (Itr lo n) ((í n).map λ(k:Nat)=>D.int (lo + k)) B where
 go:=λi H x hi=>by show i < n;simpa using hi
 yld:=λi H v H' zA z d x st y e=>by
  ¶⟨rfl,rfl⟩:=y
  rw[Ý] at e
  ¶⟨k,e1,rfl⟩:=Ê.mp e
  ¶⟨h1,h2⟩:=Þ.mp e1
  rw[Ò4] at h2
  subst h2
  §⟨a30.refl _,λ_ _ _=>Hd.int⟩
 stop:=λH x=>by show n<=_;simp
end
section
variable {K:Â}{zA:Option Ç}{H1:Hp}
÷zip_get:∀ {a b:List D}{i:Nat}{d:D},(o00 a b)[i]?=some d->∃ x y,a[i]?=some x/\b[i]?=some y/\d=.tup [x,y]
 |[],_,_,_,e=>by simp[o00] at e
 |_::_,[],_,_,e=>by simp[o00] at e
 |x::r,y::q,0,d,e=>by simp[o00] at e;§⟨x,y,rfl,rfl,e.symm⟩
 |x::r,y::q,i + 1,d,e=>by
  ¶⟨u,v,h1,h2,h3⟩:=zip_get (a:=r) (b:=q) (i:=i) (by simpa [o00] using e)
  §⟨u,v,by simpa using h1,by simpa using h2,h3⟩
÷b51:∀ (a b:List D),(o00 a b).length=min a.length b.length
 |[],_=>by simp[o00]
 |_::_,[]=>by simp[o00]
 |x::r,y::q=>by simp only[o00,Ü,b51 r q];omega
÷y91{B:Hp}{bb:Bool}{a b:Ç}{xs ys:List D}{us ws:List V}(h:∀ H,a30 B H->SqB bb K H a us)(r:HdA K B xs us)(h':∀ H,a30 B H->SqB bb K H b ws)(r':HdA K B ys ws):ItB K (Itz bb K a b) (o00 xs ys) B where
 go:=λi H x hi=>by
  rw[b51] at hi
  §⟨us,ws,us[i]'(by rw[r.length];omega),ws[i]'(by rw[r'.length];omega),h H x,h' H x,by simp,by simp⟩
 yld:=λi H v H' zA z d x st y e=>by
  ¶⟨T,rfl,hT,y⟩:=y
  ¶⟨d1,d2,e1,e2,rfl⟩:=zip_get e
  ¶⟨w1,f1,g1⟩:=r.get e1
  ¶⟨w2,f2,g2⟩:=r'.get e2
  have y1:=y us ws w1 w2 (h H (a30.trans x (a20 zA H))) (h' H (a30.trans x (a20 zA H))) f1 f2
  subst y1
  have sm:a30 H (upd H T (.tup [w1,w2])):=a30.new _ hT
  §⟨sm,λC c t=>Hd.tup (t _ _ ((st.same sm).d62 (SqT.of b20))) (.cons (g1.same c) (.cons (g2.same c) .nil))⟩
 stop:=λH x=>⟨us,ws,h H x,h' H x,by rw[b51,r.length,r'.length];omega⟩
end
def PX(P:D->Prop):D->Prop
 |.tup l=>∀ y∈l,P y
 |.lst l=>∀ y∈l,P y
 |_=>True
def ItX(K:Â)(zA:Option Ç)(H H':Hp)(l:List S)(J:L2.It)(xs:List D):Prop :=
 ∀ (P:D->Prop) (B:Hp),a30 B (hz zA H')->(∀ a ys,SqT K (hz zA H') a ys->SqT K B a ys)->(∀ d v,P d->Hd K (hz zA H') d v->Hd K B d v)->(∀ ds,plA l=some ds->∀ d∈ds,PX P d) ->
  (∀ a ys,p90 K (hz zA H') a ys->((H a=none/\H' a=some (.lst ys))∨n71 l=true)->p90 K B a ys)->ItB K J xs B
÷HdA.move{K:Â}{H B:Hp}{P:D->Prop}(mv:∀ d v,P d->Hd K H d v->Hd K B d v):∀ {ds:List D}{vs:List V},(∀ y∈ds,P y)->HdA K H ds vs->HdA K B ds vs
 |[],_,_,h=>by rw[h.f30];§.nil
 |d::ds,_,p,h=>by
  ¶⟨x,r,rfl,h1,h2⟩:=h.c40
  §.cons (mv d x (p d Ì) h1) (HdA.move mv (λy hy=>p y (È _ hy)) h2)
÷ItX.ok{K:Â}{zA:Option Ç}{H H':Hp}{l:List S}{J:L2.It}{xs:List D}(h:ItX K zA H H' l J xs):K82 K zA J xs H':=by
 ¤(h (λ_=>True) (hz zA H') (a30.refl _) (λ_ _ q=>q) (λ_ _ _ q=>q) (λds _ d _=>?_) λ_ _ q _=>q).ok
 cases d <;> first | trivial | §λ_ _=>trivial
def tIt(K:Â)(G:Gs)(E:XK)(it:It)(src:Ex):TI:=λσ H R=>∃ zA ρ z r,y00 K zA H ρ σ/\e40 zA z H/\ev G.F src ρ z=some r/\(match r with
 |.ok l z'=>∃ xs,(plA l).bind (itD it)=some xs/\∀ J H',Ext zA H H'->e40 zA z' H'->ItX K zA H H' l J xs->R J H'
 |.er c z'=>EPost G zA E c z' H)
section
variable {lm:Bool}{X:Cx}{G:Gs}{E:XK}{N:List Str}{sc:ý}
÷w52{zA:Option Ç}{H:Hp}{it:It}{P:L2.It->Hp->Prop}{r:R (List S)}(po:(match r with | .ok l z'=>∃ xs,(plA l).bind (itD it)=some xs/\∀ J H',Ext zA H H'->e40 zA z' H'->ItX X.K zA H H' l J xs->P J H' | .er c z'=>EPost G zA E c z' H)):∀ c z1,r=.er c z1->EPost G zA E c z1 H:=λc z1 e=>by subst e;§po
÷z01{s:S}{ds:List D}(h:plA [s]=some ds):∃ d,ds=[d]/\plD s=some d:=by
 cases s with
 |d x=>cases h;§⟨x,rfl,rfl⟩
 |fr xs=>cases h;§⟨_,rfl,rfl⟩
 |z=>cases h
÷V91{tg e:Ò}{a:Ex}(g:b00 X G E a e):PI X tg e (tIt X.K G E .seq (.cons a .nil)):=by
 intro pins s σ H R I q
 ¶⟨zA,ρ,z,rr,rel,st,ee,po⟩:=q
 have e0:M.bind (ev G.F a ρ) (λx=>M.bind (M.of (one x)) λs=>M.bind (ev G.F .nil ρ) λy=>M.ret (s::y)) z=some rr:=ee
 rcases M.bind_some e0 with ⟨m,z1,e1,e2⟩ | ⟨c,z1,e1,e2⟩
 ·¶⟨t,ht,e3⟩:=M.a10 e2
  cases e3
  have hm:=D30 ht
  subst hm
  ¶⟨xs,hx,po⟩:=po
  ¶⟨ds,h1,h2⟩:=Î.mp hx
  ¶⟨d,rfl,h3⟩:=z01 h1
  cases d with
  |tup l =>
   cases h2
   ¤T21 g.pe pins s σ H R I ⟨zA,ρ,z,_,rel,st,e1,t,rfl,λv H1 x1 st1 rv=>?_⟩
   ¶⟨b,ys,rfl,k1,k2⟩:=(rv.pl.d_ h3).z70
   §⟨b,rfl,⟨ys,(a20 zA H1).sqT k1⟩,po _ H1 x1 st1 λP B sub tup mv pa sf=>y71 (tup _ _ k1) (HdA.move mv (show ∀ y∈xs,P y from pa _ h1 _ Ì) k2)⟩
  |lst l =>
   cases h2
   ¤Y50 g.pe pins s σ H R I ⟨zA,ρ,z,_,rel,st,e1,t,rfl,λv H1 x1 st1 rv=>?_⟩
   have fin:∀ {b:Ç}{ys:List V},p90 X.K (hz zA H1) b ys->HdA X.K (hz zA H1) xs ys->((H b=none/\H1 b=some (.lst ys))∨n71 [t]=true)->∃ a,V.ref b=.ref a/\(∃ xs,SqL X.K H1 a xs)/\R (Itl X.K a) H1:=λ{b ys} k1 k2 k5=>by
    §⟨b,rfl,⟨ys,(k1.same (a20 zA H1)).sq⟩,po _ H1 x1 st1 λP B sub tup mv pa sf=>h31 (sf _ _ k1 k5) (HdA.move mv (show ∀ y∈xs,P y from pa _ h1 _ Ì) k2)⟩
   cases t with
   |z=>cases h3
   |d x =>
    cases h3
    ¶⟨b,ys,rfl,k1,k2⟩:=Hd.Y10 (show Hd X.K (hz zA H1) (.lst xs) v from rv)
    §fin k1 k2 (.inr rfl)
   |fr x =>
    cases h3
    ¶⟨b,ys,rfl,k0,k1,k2,k3⟩:=rv
    §fin (p90.of (e10 k2 k1)) (k3.same (f10 b _)) (.inl ⟨k0,k2⟩)
  |_=>cases h2
 ·§Y50 g.pe pins s σ H R I ⟨zA,ρ,z,_,rel,st,e1,(w52 po) c z1 e2⟩
÷M40{l:List S}{it:It}{xs:List D}(h:(plA l).bind (itD it)=some xs):∃ ds,plA l=some ds/\itD it ds=some xs:=Î.mp h
÷z11(x:XI lm X G E N sc){tg a:Ò}{as:Ex}{n:Str}{p pos:Pos}(hn:n="range")(hg:glob sc n=true)(hL:isL as=true)(g:Good X G E as [a]):PI X tg (.Call (.Name n p) [a] [] pos) (tIt X.K G E .rng1 as):=by
 subst hn
 ¶⟨k1,k2,k3⟩:=d70 hg
 ¶⟨ha,hs⟩:=g.args hL
 rw[Ã9,Á] at hs
 intro pins s σ H R I q
 ¤Q00 (x.glb _ k1) (x.blt _ (by decide)) ha (c80 hs.1 [] X.env) pins s σ H R I ?_
 ¶⟨zA,ρ,z,rr,rel,st,ee,po⟩:=q
 ¤⟨zA,ρ,z,rr,rel,st,ee,?_⟩
 cases rr with
 |er c z1=>§po
 |ok l z1 =>
  ¶⟨xs,hx,po⟩:=po
  intro vs H1 x1 st1 rvs
  ¶⟨ds,h1,h2⟩:=M40 hx
  have hd:=G30 rvs h1
  match ds,h2 with
  |[.int j],h2 =>
   ¶⟨hj,h2⟩:=g30 h2
   have hj:=G20.mp hj
   cases h2
   ¶⟨v,rfl,h3⟩:=hd.one
   cases h3.i20
   ¤⟨j,rfl,by omega,by omega,po _ H1 x1 st1 λP B sub tup mv pa sf=>?_⟩
   have:=y81 (K:=X.K) (B:=B) 0 j.toNat
   simpa using this
÷z21(x:XI lm X G E N sc){tg a b:Ò}{as:Ex}{n:Str}{p pos:Pos}(hn:n="range")(hg:glob sc n=true)(hL:isL as=true)(g:Good X G E as [a,b]):PI X tg (.Call (.Name n p) [a,b] [] pos) (tIt X.K G E .rng2 as):=by
 subst hn
 ¶⟨k1,k2,k3⟩:=d70 hg
 ¶⟨ha,hs⟩:=g.args hL
 rw[Ã9,Ã9,Á,Á] at hs
 intro pins s σ H R I q
 ¤r31 (x.glb _ k1) (x.blt _ (by decide)) ha (by rw[c80 hs.1,c80 hs.2.1];rfl) (c80 hs.2.1 [] X.env) pins s σ H R I ?_
 ¶⟨zA,ρ,z,rr,rel,st,ee,po⟩:=q
 ¤⟨zA,ρ,z,rr,rel,st,ee,?_⟩
 cases rr with
 |er c z1=>§po
 |ok l z1 =>
  ¶⟨xs,hx,po⟩:=po
  intro vs H1 x1 st1 rvs
  ¶⟨ds,h1,h2⟩:=M40 hx
  have hd:=G30 rvs h1
  match ds,h2 with
  |[.int i,.int j],h2 =>
   ¶⟨hj,h2⟩:=g30 h2
   have hi:=G20.mp hj.1
   have hj:=G20.mp hj.2
   cases h2
   ¶⟨v,w,rfl,h3,h4⟩:=hd.two
   cases h3.i20;cases h4.i20
   §⟨i,j,rfl,by omega,po _ H1 x1 st1 λP B sub tup mv pa sf=>y81 i (j - i).toNat⟩
÷z31{s:S}{r:List S}{ds:List D}(h:plA (s::r)=some ds):∃ x q,ds=x::q/\plD s=some x/\plA r=some q:=by
 cases s with
 |d y =>
  ¶⟨q,e,rfl⟩:=Ê.mp h
  §⟨y,q,rfl,rfl,e⟩
 |fr y =>
  ¶⟨q,e,rfl⟩:=Ê.mp h
  §⟨_,q,rfl,rfl,e⟩
 |z=>cases h
÷g22{l:List S}{x y:D}(h:plA l=some [x,y]):∃ s t,l=[s,t]/\plD s=some x/\plD t=some y:=by
 cases l with
 |nil=>cases h
 |cons s r =>
  ¶⟨_,_,e,h1,h2⟩:=z31 h
  cases e
  cases r with
  |nil=>cases h2
  |cons t r =>
   ¶⟨_,_,e,h3,h4⟩:=z31 h2
   cases e
   cases r with
   |nil=>§⟨s,t,rfl,h1,h3⟩
   |cons u r =>
    ¶⟨_,_,e,_⟩:=z31 h4
    cases e
÷P21{s t:S}(h:n71 [s]=true):n71 [s,t]=true:=by
 match s,h with
 |.d (.lst _),_=>rfl
÷P31{s t:S}(h:n71 [t]=true):n71 [s,t]=true:=by
 match s with
 |.d (.lst _)=>rfl
 |.d .non | .d (.bl _) | .d (.int _) | .d (.str _) | .d (.tup _) | .d .dct | .fr _ | .z=>§h
÷z41{K:Â}{zA:Option Ç}{H H1:Hp}{t:S}{v:V}{a:List D}(rv:RvS K zA H H1 t v)(h:plD t=some (.lst a)):∃ b ys,v=.ref b/\p90 K (hz zA H1) b ys/\HdA K (hz zA H1) a ys/\((H b=none/\H1 b=some (.lst ys))∨n71 [t]=true):=by
 cases t with
 |d x =>
  cases h
  ¶⟨b,ys,rfl,k1,k2⟩:=Hd.Y10 (show Hd K (hz zA H1) (.lst a) _ from rv)
  §⟨b,ys,rfl,k1,k2,.inr rfl⟩
 |fr x =>
  cases h
  ¶⟨b,ys,rfl,k0,k1,k2,k3⟩:=rv
  §⟨b,ys,rfl,p90.of (e10 k2 k1),k3.same (f10 b _),.inl ⟨k0,k2⟩⟩
 |z=>cases h
÷z51(x:XI lm X G E N sc){tg a b:Ò}{as:Ex}{n:Str}{p pos:Pos}(ht:n30 tg=true)(hn:n="zip")(hg:glob sc n=true)(hL:isL as=true)(g:Good X G E as [a,b]):PI X tg (.Call (.Name n p) [a,b] [] pos) (tIt X.K G E .zip as):=by
 subst hn
 ¶⟨k1,k2,k3⟩:=d70 hg
 ¶⟨ha,hs⟩:=g.args hL
 rw[Ã9,Ã9,Á,Á] at hs
 cases tg with
 |Tuple es ek ep =>
  intro pins s σ H R I q
  ¤p42 (x.glb _ k1) (x.blt _ (by decide)) ha (by rw[c80 hs.1,c80 hs.2.1];rfl) (c80 hs.2.1 [] X.env) pins s σ H R I ?_
  ¶⟨zA,ρ,z,rr,rel,st,ee,po⟩:=q
  ¤⟨zA,ρ,z,rr,rel,st,ee,?_⟩
  cases rr with
  |er c z1=>§po
  |ok l z1 =>
   ¶⟨xs,hx,po⟩:=po
   intro vs H1 x1 st1 rvs
   ¶⟨ds,h1,h2⟩:=M40 hx
   have hd:=G30 rvs h1
   match ds,h2 with
   |[.tup a,.tup b],h2 =>
    cases h2
    ¶⟨v,w,rfl,h3,h4⟩:=hd.two
    ¶⟨p1,us,rfl,m1,m2⟩:=h3.z70
    ¶⟨p2,ws,rfl,m3,m4⟩:=h4.z70
    §⟨false,p1,p2,rfl,⟨us,(a20 zA H1).sqT m1⟩,⟨ws,(a20 zA H1).sqT m3⟩,po _ H1 x1 st1 λP B sub tup mv pa sf=>y91 (λ_ x=>a30.sqT x (tup _ _ m1)) (HdA.move mv (show ∀ y∈a,P y from pa _ h1 _ Ì) m2) (λ_ x=>a30.sqT x (tup _ _ m3)) (HdA.move mv (show ∀ y∈b,P y from pa _ h1 _ (È _ Ì)) m4)⟩
   |[.lst a,.lst b],h2 =>
    cases h2
    ¶⟨t1,t2,rfl,e1,e2⟩:=g22 h1
    cases rvs with
    |cons rv1 rn =>
     cases rn with
     |cons rv2 rn =>
      cases rn
      ¶⟨p1,us,rfl,m1,m2,m3⟩:=z41 rv1 e1
      ¶⟨p2,ws,rfl,m4,m5,m6⟩:=z41 rv2 e2
      ¤⟨true,p1,p2,rfl,⟨us,(m1.same (a20 zA H1)).sq⟩,⟨ws,(m4.same (a20 zA H1)).sq⟩,po _ H1 x1 st1 λP B sub tup mv pa sf=>y91 (λ_ x=>((sf _ _ m1 (m3.imp id λq=>?_)).same x).sq) (HdA.move mv (show ∀ y∈a,P y from pa _ h1 _ Ì) m2) (λ_ x=>((sf _ _ m4 (m6.imp id λq=>?_)).same x).sq) (HdA.move mv (show ∀ y∈b,P y from pa _ h1 _ (È _ Ì)) m5)⟩
      ·§P21 q
      ·§P31 q
 |_=>cases ht
÷h41:∀ {a:List D}{i n:Nat}{d:D},(w30 a n)[i]?=some d->∃ x,a[i]?=some x/\d=.tup [.int ((n + i:Nat):Int),x]
 |[],_,_,_,e=>by simp[w30] at e
 |x::r,0,n,d,e=>by simp[w30] at e;§⟨x,rfl,e.symm⟩
 |x::r,i + 1,n,d,e=>by
  ¶⟨u,h1,h2⟩:=h41 (a:=r) (i:=i) (n:=n + 1) (by simpa [w30] using e)
  §⟨u,by simpa using h1,by rw[h2,show n + 1 + i=n + (i + 1) by omega]⟩
÷M50:∀ (a:List D) (n:Nat),(w30 a n).length=a.length
 |[],_=>rfl
 |x::r,n=>by simp only[w30,Ü,M50 r]
÷h51(h:∀ H,a30 B H->SqB b X.K H a us)(r:HdA X.K B xs us):ItB X.K (Ite b X.K a) (w30 xs 0) B where
 go:=λi H x hi=>by
  rw[M50] at hi
  §⟨us,us[i]'(by rw[r.length];omega),h H x,by simp⟩
 yld:=λi H v H' zA z d x st y e=>by
  ¶⟨T,rfl,hT,y⟩:=y
  ¶⟨d1,e1,rfl⟩:=h41 e
  ¶⟨w1,f1,g1⟩:=r.get e1
  have y1:=y us w1 (h H (a30.trans x (a20 zA H))) f1
  subst y1
  have sm:a30 H (upd H T (.tup [.int i,w1])):=a30.new _ hT
  §⟨sm,λC c t=>Hd.tup (t _ _ ((st.same sm).d62 (SqT.of b20))) (.cons (by rw[Î9];§Hd.int) (.cons (g1.same c) .nil))⟩
 stop:=λH x=>⟨us,h H x,by rw[M50,r.length]⟩
÷g32(h:plA l=some [d]):∃ s,l=[s]:=by
 cases l with
 |nil=>cases h
 |cons s r =>
  cases r with
  |nil=>§⟨s,rfl⟩
  |cons t q=>exfalso;cases s <;> cases t <;> first | (cases h;done) | (simp only[plA,Option.map_map,Õ0] at h;¶⟨_,_,h⟩:=h;cases h)
÷h61(x:XI lm X G E N sc){tg a:Ò}{as:Ex}{n:Str}{p pos:Pos}(ht:n30 tg=true)(hn:n="enumerate")(hg:glob sc n=true)(hL:isL as=true)(g:Good X G E as [a]):PI X tg (.Call (.Name n p) [a] [] pos) (tIt X.K G E .enum as):=by
 subst hn
 ¶⟨k1,k2,k3⟩:=d70 hg
 ¶⟨ha,hs⟩:=g.args hL
 rw[Ã9,Á] at hs
 cases tg with
 |Tuple es ek ep =>
  intro pins s σ H R I q
  ¤b92 (x.glb _ k1) (x.blt _ (by decide)) ha (c80 hs.1 [] X.env) pins s σ H R I ?_
  ¶⟨zA,ρ,z,rr,rel,st,ee,po⟩:=q
  ¤⟨zA,ρ,z,rr,rel,st,ee,?_⟩
  cases rr with
  |er c z1=>§po
  |ok l z1 =>
   ¶⟨xs,hx,po⟩:=po
   intro vs H1 x1 st1 rvs
   ¶⟨ds,h1,h2⟩:=M40 hx
   have hd:=G30 rvs h1
   match ds,h2 with
   |[.tup a],h2 =>
    cases h2
    ¶⟨v,rfl,h3⟩:=hd.one
    ¶⟨p1,us,rfl,m1,m2⟩:=h3.z70
    §⟨false,p1,rfl,⟨us,(a20 zA H1).sqT m1⟩,po _ H1 x1 st1 λP B sub tup mv pa sf=>h51 (λ_ x=>a30.sqT x (tup _ _ m1)) (HdA.move mv (show ∀ y∈a,P y from pa _ h1 _ Ì) m2)⟩
   |[.lst a],h2 =>
    cases h2
    have fin:∀ (b:Ç) (ys:List V),p90 X.K (hz zA H1) b ys->HdA X.K (hz zA H1) a ys->((H b=none/\H1 b=some (.lst ys))∨n71 l=true)->∃ bb p,[V.ref b]=[.ref p]/\(∃ xs,SqB bb X.K H1 p xs)/\R (Ite bb X.K p) H1:=λb ys k1 k2 k5 =>
     ⟨true,b,rfl,⟨ys,(k1.same (a20 zA H1)).sq⟩,po _ H1 x1 st1 λP B sub tup mv pa sf=>h51 (λ_ x=>((sf _ _ k1 k5).same x).sq) (HdA.move mv (show ∀ y∈a,P y from pa _ h1 _ Ì) k2)⟩
    ¶⟨t,rfl⟩:=g32 h1
    cases rvs with
    |cons rv rn =>
     cases rn
     cases t with
     |d x =>
      cases h1
      ¶⟨b,ys,rfl,k1,k2⟩:=Hd.Y10 (show Hd X.K (hz zA H1) (.lst a) _ from rv)
      §fin _ _ k1 k2 (.inr rfl)
     |fr x =>
      cases h1
      ¶⟨b,ys,rfl,k0,k1,k2,k3⟩:=rv
      §fin _ _ (p90.of (e10 k2 k1)) (k3.same (f10 b _)) (.inl ⟨k0,k2⟩)
     |z=>cases h1
 |_=>cases ht
abbrev EF:XK:=λ_ _ _=>False
def ttC(K:Â)(G:Gs):Ex->TT
 |.nil=>J61
 |.cons c _=>tT K G EF c
 |_=>λ_ _ _=>False
÷o41(h:turns f (x::r) z=some (.ok ys z2)):∃ o z1 l,f x z=some (.ok o z1)/\turns f r z1=some (.ok l z2)/\ys=(match o with | some y=>y::l | none=>l):=by
 rcases M.bind_some (show M.bind (f x) _ z=_ from h) with ⟨o,z1,e1,e2⟩ | ⟨c,z1,e1,e2⟩
 ·rcases M.bind_some e2 with ⟨l,z3,e3,e4⟩ | ⟨c,z3,e3,e4⟩
  ·cases e4
   §⟨o,z1,l,e1,e3,rfl⟩
  ·cases e4
 ·cases e2
÷g42{zA:Option Ç}{J:L2.It}{xs ys:List D}{H1:Hp}{z1 z2:Z}{p:Pat}{cond el:Ex}{ρ0:Env}{σ0:L2.St}{Q:VK}(IT:K82 X.K zA J xs H1)(hm:xs.length<=most)(rel0:y00 X.K zA H1 ρ0 σ0)(len:ρ0.length=σ0.length)(st1:e40 zA z1 H1)
  (hc:cond=.nil∨∃ c,cond=.cons c .nil) (e:turns (o20 (ev G.F cond) (ev G.F el) p ρ0) xs z1=some (.ok ys z2))
  (fin:∀ H2 vs l,Ext zA H1 H2->e40 zA z2 H2->HdA X.K (hz zA H2) ys vs->H2 l=none->Q (.ref l) (upd H2 l (.lst vs))):s71 J σ0 H1 (gP X.K p) (ttC X.K G cond) (tI X.K G EF el) Q:=by
 ¤⟨λi m vs H=>m=xs.length - i/\i<=xs.length/\vs.length<=i/\∃ yd z rest,Ext zA H1 H/\e40 zA z H/\HdA X.K (hz zA H) yd vs/\turns (o20 (ev G.F cond) (ev G.F el) p ρ0) (xs.drop i) z=some (.ok rest z2)/\ys=yd++rest,
  ⟨xs.length,rfl,Æ1 _,Æ1 _,[],z1,ys,Ext.refl,st1,.nil,by simpa using e,rfl⟩,?_⟩
 rintro i m vs H ⟨rfl,hi,hv,yd,z,rest,x,st,hd,et,ey⟩
 by_cases hlt:i < xs.length
 ·¤.inr ⟨IT.go i H x hlt,Ê8 hv (Ù hlt (f50 hm)),
   λws H'=>ws.length<=i + 1/\∃ yd z rest,Ext zA H1 H'/\e40 zA z H'/\HdA X.K (hz zA H') yd ws/\turns (o20 (ev G.F cond) (ev G.F el) p ρ0) (xs.drop (i + 1)) z=some (.ok rest z2)/\ys=yd++rest,
   λws H' q=>⟨xs.length - (i + 1),by omega,rfl,hlt,q.1,q.2⟩,λv H' y=>?_⟩
  ¶⟨sm,hx⟩:=IT.yld i H v H' z xs[i] x st y (by simp[hlt])
  rw[à0 hlt] at et
  ¶⟨o,z3,l,f1,f2,f3⟩:=o41 et
  ¶⟨ρ',b1,f4⟩:=M.a10 (show M.bind (M.of (f20 p xs[i] ρ0)) _ z=_ from f1)
  have x':Ext zA H1 H':=x.trans (Ext.of sm)
  have st':=st.same sm
  ¤y61 b1 (rel0.mono x') len hx λσ' rel' len'=>?_
  have yes:∀ {za:Z}{Ha:Hp},Ext zA H' Ha->e40 zA za Ha->M.bind (ev G.F el ρ') (λy=>M.bind (M.of (pl y)) λy=>M.ret (some y)) za=some (.ok o z3)->tI X.K G EF el σ' Ha (λy H4=>(vs++[y]).length<=i + 1/\∃ yd z rest,Ext zA H1 H4/\e40 zA z H4/\HdA X.K (hz zA H4) yd (vs++[y])/\turns (o20 (ev G.F cond) (ev G.F el) p ρ0) (xs.drop (i + 1)) z=some (.ok rest z2)/\ys=yd++rest):=λ{za Ha} xa sta ea=>by
   ¤j40 (rel'.mono xa) sta ea (λc z1 h=>by cases h) λm z4 e4=>?_
   ¶⟨d,p1,e5⟩:=M.a10 e4
   ¶⟨s1,rfl,q1⟩:=f40 p1
   cases e5
   ¤⟨s1,rfl,λw H4 x4 st4 rv=>⟨by rw[Á9];simp;omega,yd++[d],z3,l,(x'.trans xa).trans x4,st4,?_,f2,by rw[ey,f3,Ô7];rfl⟩⟩
   §(hd.same (a30.trans (k40 sm) (a30.trans xa.same x4.same))).append (.cons (rv.pl.d_ q1) .nil)
  rcases hc with rfl | ⟨c,rfl⟩
  ·have f5:M.bind (ev G.F el ρ') (λy=>M.bind (M.of (pl y)) λy=>M.ret (some y)) z=some (.ok o z3):=f4
   have ty:ttC X.K G .nil=J61:=rfl
   rw[ty]
   ¤L81 ?_
   dsimp only
   rw[if_pos rfl]
   §yes Ext.refl st' f5
  ·rcases M.bind_some (show M.bind (ev G.F (.cons c .nil) ρ') _ z=_ from f4) with ⟨m,za,e1,e2⟩ | ⟨q,za,e1,e2⟩
   ·rcases M.bind_some (show M.bind (ev G.F c ρ') _ z=_ from e1) with ⟨m',zb,e3,e4⟩ | ⟨q,zb,e3,e4⟩
    ·¶⟨s,hs,e5⟩:=M.a10 e4
     cases e5
     have hm':=D30 hs
     subst hm'
     show tT X.K G EF c σ' H' _
     have tb:∃ b,s=.d (.bl b):=by
      cases s with
      |d y=>cases y with
       |bl b=>§⟨b,rfl⟩
       |_=>cases e2
      |fr _=>cases e2
      |z=>cases e2
     ¶⟨b,rfl⟩:=tb
     ¤⟨zA,ρ',z,_,rel',st',e3,b,rfl,λHa xa sta=>?_⟩
     cases b with
     |true =>
      rw[if_pos rfl]
      §yes xa sta e2
     |false =>
      rw[if_neg Ð]
      cases e2
      §⟨Ñ hv (le_succ _),yd,z3,l,x'.trans xa,sta,hd.same (a30.trans (k40 sm) xa),f2,by rw[ey,f3]⟩
    ·cases e4
   ·cases e2
 ·have hi':i=xs.length:=by omega
  subst hi'
  rw[drop_length] at et
  cases et
  ¤.inl ⟨IT.stop H x,λl hl=>fin H vs l x st (by rw[ey,append_nil];§hd) hl⟩
end
section
variable {K:Â}{zA:Option Ç}{z:Z}{H H2:Hp}{P:Ç}{q:Str}
÷P41(KB:L20 P H H2)(t:Tab H P q)(t2:Tab H2 P q):Ext zA H H2:=by
 ¤⟨λb o h=>?_,λb ps h=>?_⟩
 ·¶⟨h1,h2⟩:=q60 h
  have nt:=r40 h
  ¶⟨ps,hp,_⟩:=t
  have hb:b≠P:=λz=>by
   subst z
   rw[hp] at h1
   cases h1
   §nt _ rfl
  §e10 (KB.same b o hb h1) h2 nt
 ·by_cases hb:b=P
  ·subst hb
   ¶⟨qs,e,_⟩:=t2
   §⟨qs,e⟩
  ·§⟨ps,KB.same b _ hb h⟩
÷g52(KB:L20 P H H2)(t:Tab H P q)(t2:Tab H2 P q)(uq:∀ p∈TB.tb,p.1=P->p.2=q)(st:e40 zA z H):e40 zA z H2:=by
 ¶⟨ps,hp,_⟩:=t
 have ne:∀ {b:Ç}{o:HO},H b=some o->(∀ l,o≠.tbl l)->b≠P:=λ{b o} e1 e2 z=>by
  subst z
  rw[hp] at e1
  cases e1
  §e2 _ rfl
 ¤⟨?_,λp hq=>?_⟩
 ·have h:=st.zat
  cases zA with
  |none=>cases z with
   |none=>trivial
   |some _=>§h.elim
  |some a=>cases z with
   |none=>§h.elim
   |some pr =>
    have h':H a=some (.lst [.int pr.1,.bl pr.2]):=h
    §KB.same _ _ (ne h' λ_ z=>nomatch z) h'
 ·by_cases hb:p.1=P
  ·rw[uq p hq hb,hb];§t2
  ·¶⟨qs,e,tr,k⟩:=st.tab p hq
   ¤⟨qs,KB.same _ _ hb e,tr,λpos c hc=>?_⟩
   ¶⟨c',e1,e2⟩:=k pos c hc
   §⟨c',e1,KB.same _ _ (ne e2 λ_ z=>nomatch z) e2⟩
÷z61:∀ l:List Nat,(b80 N l).length<=l.length
 |[]=>Í _
 |j::q=>by
  have ih:=z61 (N:=N) q
  unfold b80
  split
  ·rw[Ü,Ü];omega
  ·rw[Ü];omega
÷U30(rel:y00 K zA H ρ σ):∀ {capt:List Nat}{ss:List S},N71 ρ capt=some ss->(b80 N capt).length=capt.length ->
  ∃ vs,RvA K zA H ss vs/\vs.length=(b80 N capt).length/\∀ (i:Nat) (x:Str) (v:V),((b80 N capt).map (·.1))[i]?=some x->vs[i]?=some v->∃ j:Nat,N[j]?=some x/\σ[j]?=some (some v)
 |[],ss,h,_=>by
  cases h
  §⟨[],.nil,rfl,λi x v h=>by simp[b80] at h⟩
 |i::capt,ss,h,hl=>by
  have h:(match ρ[i]? with | some (some s)=>(N71 ρ capt).map (s::·) | _=>none)=some ss:=h
  have le:=z61 (N:=N) capt
  obtain⟨s,r,e2,h3,rfl⟩:∃ s r,ρ[i]?=some (some s)/\N71 ρ capt=some r/\ss=s::r:=by
   split at h
   ·rename_i s e
    ¶⟨r,h3,h4⟩:=Ê.mp h
    §⟨s,r,e,h3,h4.symm⟩
   ·cases h
  ¶⟨v,k1,k2⟩:=rel i s e2
  cases hN:N[i]? with
  |none =>
   unfold b80 at hl
   rw[hN] at hl
   simp only[Ü] at hl
   omega
  |some y =>
   unfold b80 at hl ⊢
   rw[hN] at hl ⊢
   simp only[Ü] at hl
   ¶⟨vs,a1,a2,a3⟩:=U30 rel (N:=N) (capt:=capt) h3 (by omega)
   ¤⟨v::vs,.cons k2 a1,by simp[a2],λj x u b1 b2=>?_⟩
   cases j with
   |zero =>
    simp only[Å7,Ê9,Ê0] at b1 b2
    subst b1;subst b2
    §⟨i,hN,k1⟩
   |succ j=>§a3 j x u (by simpa using b1) (by simpa using b2)
÷h71:∀ {ss:List S}{vs:List V},RvA K zA H ss vs->y00 K zA H (ss.map some) (vs.map some)
 |[],_,h,i,s,e=>by simp at e
 |a::ss,_,h,i,s,e=>by
  cases h with
  |cons h1 h2 =>
   cases i with
   |zero =>
    simp only[Å7,Ê9,Ê0] at e
    subst e
    §⟨_,rfl,h1⟩
   |succ i =>
    ¶⟨v,k1,k2⟩:=h71 h2 i s (by simpa using e)
    §⟨v,by simpa using k1,k2⟩
end
section
variable {lm:Bool}{X:Cx}{G:Gs}{E:XK}{N:List Str}{sc:ý}
÷w62(x:XI lm X G E N sc)(hlm:lm=true){capt:List Nat}{a:Ex}{body:Ò}{lsc:ý}{p lpos pos:Pos}(hg:glob sc "_law_refused"=true)(hc:(b80 N capt).length=capt.length)(hs:f72 lsc sc (b80 N capt)=true)(hL:isL a=false)
  (ih:∀ (k:Nat) {X:Cx}{E:XK},XI false X (lowG G k) E ((b80 N capt).map (·.1)) lsc->Good X (lowG G k) E a [body]):b00 X G E (.refd capt a) (.Call (.Name "_law_refused" p) [.Lambda ⟨[],[],none,[],[],none,[]⟩ body lsc lpos] [] pos):=by
 ¶⟨c,P,q,k,fR,fdR,L⟩:=x.lam hlm
 ¶⟨k1,k2,k3⟩:=d70 hg
 unfold f72 at hs
 simp only[Á,À0,beq_iff_eq,Æ9,decide_eq_true_eq] at hs
 ¶⟨⟨⟨⟨⟨⟨s1,s2⟩,s3⟩,s4⟩,s5⟩,s6⟩,s7⟩:=hs
 ¤b10 (λpins s σ H Q I qq=>?_) rfl
 ¶⟨zA,ρ,z,rr,rel,st,e,po⟩:=qq
 have e0:r72 (N71 ρ capt) (λρ'=>ev (j70 G.F) a ρ') z=some rr:=e
 unfold r72 at e0
 split at e0
 ·cases e0
 ·rename_i ss hss
  split at e0
  ·rename_i cc z1 he
   split at e0
   ·rename_i hc12
    cases e0
    ¶⟨vs,ra,hvl,hvs⟩:=U30 rel hss hc
    have tab:=st.tab _ L.tb
    have hfree:∀ y∈(b80 N capt).map (·.1),lsc.names.lookup y=some .free:=λy hy=>by
     ¶⟨pr,h1,rfl⟩:=Ú.mp hy
     §s6 pr h1
    ¤Z70 (RR:=λH2 H'=>Ext zA H2 H'/\e40 zA z1 H') (cls:=.ref (G.cls cc)) (N:=(b80 N capt).map (·.1)) (k:=k) (P:=P) (qual:=q) L.fn (by rw[← L.lv];§x.room) (x.glb _ k1) L.m L.kp L.bd L.code L.hd L.qual L.bm (λy hy hf=>?_) (λy hy=>by simpa using s4 y hy) hfree s1 s2 s3 rfl (λ_ _ _ _=>rfl) k2 rfl pins s σ H Q I ?_
    ·have:=s5 y hy
     rw[hf] at this
     unfold Env.kindOf
     rw[L.sco]
     simpa using this
    ·¤⟨tab,vs,by rw[É];§hvl,λi y v h1 h2=>by rw[x.hN];§hvs i y v h1 h2,λH2 KB TB2=>?_⟩
     have x2:Ext zA H H2:=P41 KB tab TB2
     have st2:e40 zA z H2:=g52 KB tab TB2 L.uq st
     ¤⟨λf c' cl A outer s3 H3 hr sm=>?_,λs2 f th=>?_⟩
     ·have XL:XI false (S10 X.prog X.w X.K X.mg X.base ((b80 N capt).map (·.1)) q lsc f (.ref c') cl A outer s3 H3 λc _ H'=>c=.ref (G.cls cc)/\Ext zA H2 H'/\e40 zA z1 H') (lowG G k) (λc _ H'=>c=.ref (G.cls cc)/\Ext zA H2 H'/\e40 zA z1 H') ((b80 N capt).map (·.1)) lsc :=
       { gok:=L.low,num:=x.num,blt:=x.blt,hN:=rfl,nd:=s7,vis:=λy hy=>.inr (.inr (hfree y hy)),glb:=λy h=>h,cel:=λy h=>h,calm:=rfl,room:=hr,pas:=c22,lam:=λh=>nomatch h }
      ¤⟨_,(a90 hL (ih k XL)).pe,?_⟩
      ¤⟨zA,ss.map some,z,_,h71 (RvA.mono ra (x2.trans (Ext.of sm))),st2.same sm,he,λea H' xx stt hn=>?_⟩
      §⟨rfl,(Ext.of sm).trans xx,stt⟩
     ·¤⟨f,G.cls cc,cc,_,rfl,th,L.cls cc hc12,λl H1 H' hRR sm hl=>?_⟩
      ¶⟨x1,st1⟩:=hRR
      ¶⟨s',e',po⟩:=po
      cases e'
      have xx:Ext zA H H':=(x2.trans x1).trans (Ext.of sm)
      have stt:=st1.same sm
      §po _ _ (xx.trans (Ext.of (a30.new _ hl))) (stt.same (a30.new _ hl)) ((n20 stt (HdA.cons Hd.int HdA.nil) hl).from xx)
   ·cases e0
  ·cases e0
end
÷i30{env:È7}{k0:Ë4}(hk:k0≠.free):∀ {names:List (Str × Ë4)}{x:Str},names.lookup x=some k0 ->
  (names.map λ(n,k)=>if (k == ñ&&env.scope.kind == .function&&env.kindOf n == some .cell) then(n,Æ4) else(n,k)).lookup x=some k0
 |[],_,h=>by simp at h
 |(n,k)::r,x,h=>by
  have ih:=@i30 env k0 hk r x
  show Í0 x ((if (k == ñ&&env.scope.kind == .function&&env.kindOf n == some .cell)=true then(n,Æ4) else(n,k))::_)=_
  cases hx:x == n with
  |true =>
   simp only[À8,hx] at h
   cases h
   have:(k0 == ñ)=false:=by simpa using hk
   rw[this,Õ8,Õ8,if_neg Ð]
   simp only[À8,hx]
  |false =>
   simp only[À8,hx] at h
   by_cases hq:(k == ñ&&env.scope.kind == .function&&env.kindOf n == some .cell)=true
   ·rw[if_pos hq];simp only[À8,hx];§ih h
   ·rw[if_neg hq];simp only[À8,hx];§ih h
section
variable {lm:Bool}{X:Cx}{G:Gs}{E:XK}{N:List Str}{sc csc:ý}{on:List Str}{cs:List (Str × Nat)}
structure w72(csc sc:Scope)(N on:List Str)(cs:List (Str × Nat)):Prop where
 kind:csc.kind=.function
 nocell:∀ y∈csc.names,y.2≠.cell
 locs:∀ y∈csc.names,y.2=.local->csc.names.lookup y.1=some .local
 frees:∀ y∈csc.names,y.2=.free->(sc.names.lookup y.1=some .cell∨sc.names.lookup y.1=some .free)
 captd:∀ p∈cs,N[p.2]?=some p.1/\csc.names.lookup p.1=some .free
 own:∀ x∈on,csc.names.lookup x=some .local
 nd:(on++cs.map (·.1)).Nodup
÷K92(h:g51 csc sc N on cs=true):w72 csc sc N on cs:=by
 unfold g51 at h
 simp only[Á] at h
 ¶⟨⟨⟨⟨⟨⟨h1,h2⟩,h3⟩,h4⟩,h5⟩,h6⟩,h7⟩:=h
 rw[Æ9] at h2 h3 h4 h5 h6
 ¤⟨by simpa using h1,λy hy=>by simpa using h2 y hy,λy hy hl=>?_,λy hy hf=>?_,λp hp=>by simpa using h5 p hp,λx hx=>by simpa using h6 x hx,of_decide_eq_true h7⟩
 ·have:=h3 y hy;rw[hl] at this;simpa using this
 ·have:=h4 y hy
  rw[hf] at this
  simpa using this
÷g62(x:XI lm X G E N sc)(c:w72 csc sc N on cs):r10 X csc on cs:=⟨c.kind,c.nocell,c.locs,λy hy hf=>x.cel _ (c.frees y hy hf),λp hp=>by rw[x.hN];§c.captd p hp⟩
÷z71(x:XI lm X G E N sc)(c:w72 csc sc N on cs)(cl:List (Str × Ç))(C:Ç)(s:Æ)(H:Hp)(fp:List Ç):XI false (c60 X (d80 on cs) csc cl C s H fp) G EF (on++cs.map (·.1)) csc where
 gok:=x.gok
 num:=x.num
 blt:=x.blt
 hN:=rfl
 nd:=c.nd
 vis:=λy hy=>by
  rcases Á7.mp hy with h | h
  ·§.inl (i30 (by decide) (c.own y h))
  ·¶⟨p,hp,rfl⟩:=Ú.mp h
   rcases p30 (env:=X.env) (c.captd p hp).2 with h | h
   ·§.inr (.inl h)
   ·§.inr (.inr h)
 glb:=λy hy=>i30 (by decide) hy
 cel:=λy hy=>by
  rcases hy with h | h
  ·§.inl (i30 (by decide) h)
  ·§p30 (env:=X.env) h
 calm:=x.calm
 room:=x.room
 pas:=r02
 lam:=λh=>nomatch h
÷P51(x:XI lm X G E N sc)(c:w72 csc sc N on cs)(cl:List (Str × Ç))(C:Ç)(s:Æ)(H:Hp)(fp:List Ç):P11 (c60 X (d80 on cs) csc cl C s H fp) (on++cs.map (·.1)) (λy=>on.contains y) where
 hN:=rfl
 nd:=c.nd
 lc:=λy hy=>.inl (i30 (by decide) (c.own y (by simpa using hy)))
 fn:=λy hy=>.inr (i30 (by decide) (c.own y (by simpa using hy)))
 calm:=x.calm
÷h81:∀ {capt:List Nat},(b80 N capt).length=capt.length->(b80 N capt).map (·.2)=capt
 |[],_=>rfl
 |i::r,h=>by
  have le:∀ l:List Nat,(b80 N l).length<=l.length:=by
   intro l
   induction l with
   |nil=>§Í _
   |cons j q ih =>
    unfold b80
    split
    ·rw[Ü,Ü];omega
    ·rw[Ü];omega
  unfold b80 at h ⊢
  split at h
  ·rename_i y hy
   rw[Ü,Ü] at h
   rw[Å7,h81 (by omega)]
  ·have:=le r
   rw[Ü] at h
   omega
÷P61(rel:y00 X.K zA H ρ σ)(h:cs.map (·.2)=capt):y00 X.K zA H (î on.length none++capt.map λi=>(ρ[i]?).getD none) (q50 on cs σ) /\
  (î on.length (none:Option S)++capt.map λi=>(ρ[i]?).getD none).length=(q50 on cs σ).length:=by
 subst h
 constructor
 ·intro j s e
  unfold q50
  by_cases hj:j < on.length
  ·rw[Ð3 (by simpa using hj)] at e
   simp[Ò6,hj] at e
  ·rw[Å4 (by simpa using hj),á5,Ý,Ý] at e
   rw[Å4 (by simpa using hj),É,Ý]
   cases hp:cs[j - on.length]? with
   |none=>rw[hp] at e;simp at e
   |some p =>
    rw[hp] at e
    simp only[map_some,Ê0] at e
    have e2:ρ[p.2]?=some (some s):=by
     cases hr:ρ[p.2]? with
     |none=>rw[hr] at e;cases e
     |some o=>rw[hr] at e;§congrArg some e
    ¶⟨v,h1,h2⟩:=rel p.2 s e2
    §⟨v,by simp[h1],h2⟩
 ·unfold q50
  simp
÷z81(h:z80 e=true)(env:È7)(x:Ä):É1 e env x=pure x:=by
 cases e with
 |Set _ _ _=>cases h
 |_=>rfl
def H30(X:Cx)(G:Gs)(E:XK)(x:Ex)(elt tg Ä0:Ò)(ifs:List Ò)(csc:ý):Prop:=∃ (own:List Str) (capt:List (Str × Nat)) (wi:TI) (g:TG) (tt:TT) (te:TE),r10 X csc own capt/\PI X tg Ä0 wi /\
 (∀ cl C s H fp,PG (c60 X (d80 own capt) csc cl C s H fp) tg g)/\(∀ cl C s H fp,PTs (c60 X (d80 own capt) csc cl C s H fp) ifs tt)/\(∀ cl C s H fp,PE (c60 X (d80 own capt) csc cl C s H fp) elt te) /\
 (∀ x,É1 Ä0 X.env x=pure x)/\∀ σ H Q,tI X.K G E x σ H Q->a12 own capt wi g tt te σ H Q
÷L02(x:XI lm X G E N sc){p:Pat}{it:It}{src cond el:Ex}{capt:List Nat}{elt tg Ä0:Ò}{ifs:List Ò}(c:w72 csc sc N on cs)(hcap:cs.map (·.2)=capt)(hp:j50 (on++cs.map (·.1)) (λy=>on.contains y) p tg=true)
  (hi:PI X tg Ä0 (tIt X.K G E it src)) (hns:z80 Ä0=true) (hc:(cond=.nil/\ifs=[])∨∃ q f,cond=.cons q .nil/\ifs=[f]/\∀ cl C s H fp,PT (c60 X (d80 on cs) csc cl C s H fp) f (tT X.K G EF q))
  (he:∀ cl C s H fp,PE (c60 X (d80 on cs) csc cl C s H fp) elt (tI X.K G EF el)):H30 X G E (.comp on.length capt p it src cond el) elt tg Ä0 ifs csc:=by
 have ht:∀ cl C s H fp,PTs (c60 X (d80 on cs) csc cl C s H fp) ifs (ttC X.K G cond):=by
  rcases hc with ⟨rfl,rfl⟩ | ⟨q,f,rfl,rfl,h⟩
  ·§λcl C s H fp=>Z91
  ·§λcl C s H fp=>s61 (h cl C s H fp)
 ¤⟨on,cs,tIt X.K G E it src,gP X.K p,ttC X.K G cond,tI X.K G EF el,g62 x c,hi,λcl C s H fp=>y51 (P51 x c cl C s H fp) hp,ht,he,z81 hns X.env,λσ H Q q=>?_⟩
 ¶⟨zA,ρ,z,rr,rel,st,e,po⟩:=q
 have e0:M.bind (ev G.F src ρ) (λl=>M.bind (M.of ((plA l).bind (itD it))) λxs=>if xs.length<=most then M.bind (M.calm (turns (o20 (ev G.F cond) (ev G.F el) p (î on.length none++capt.map λi=>(ρ[i]?).getD none)) xs)) λys=>M.ret [.fr ys] else M.no) z=some rr:=e
 rcases M.bind_some e0 with ⟨m,z1,e1,e2⟩ | ⟨k,z1,e1,e2⟩
 ·¶⟨xs,hx,e3⟩:=M.a10 e2
  ¤⟨zA,ρ,z,_,rel,st,e1,xs,hx,λJ H1 x1 st1 IT'=>?_⟩
  have IT:=IT'.ok
  split at e3
  ·rename_i hm
   rcases M.bind_some e3 with ⟨ys,z2,e4,e5⟩ | ⟨k,z2,e4,e5⟩
   ·cases e5
    have e6:turns (o20 (ev G.F cond) (ev G.F el) p (î on.length none++capt.map λi=>(ρ[i]?).getD none)) xs z1=some (.ok ys z2):=by
     unfold M.calm at e4
     split at e4
     ·rename_i h;cases e4;§h
     ·cases e4
    ¶⟨r1,r2⟩:=P61 (on:=on) (rel.mono x1) hcap
    ¤g42 IT hm r1 r2 st1 (by rcases hc with ⟨h,_⟩ | ⟨q,_,h,_⟩;§.inl h;§.inr ⟨q,h⟩) e6 λH2 vs l x2 st2 hd hl=>?_
    §e90 po (x1.trans x2) st2 _ _ (a30.new _ hl) (n20 st2 hd hl)
   ·unfold M.calm at e4
    split at e4 <;> cases e4
  ·cases e3
 ·§⟨zA,ρ,z,_,rel,st,e1,(f90 po) k z1 e2⟩
÷H30.good{x:Ex}{elt tg Ä0:Ò}{ifs:List Ò}{csc:ý}{pos:Pos}(hc:X.calm=true)(h:H30 X G E x elt tg Ä0 ifs csc):b00 X G E x (.ListComp elt [⟨tg,Ä0,ifs,0⟩] csc pos):=by
 ¶⟨own,capt,wi,g,tt,te,h1,h2,h3,h4,h5,h6,h7⟩:=h
 §b10 (PE.imp (s81 hc h1 h2 h3 h4 h5 h6) h7) rfl
÷b70(h:(!isL x)=true):isL x=false:=by simpa using h
÷z91(hL:isL x=true)(g:Good X G E x [e]):∃ a,x=.cons a .nil/\b00 X G E a e:=by
 cases x with
 |nil=>cases (show [e]=[] from g)
 |cons a r =>
  ¶⟨e',es,h,ns,ga,lr,gr⟩:=g
  cases h
  cases r with
  |nil=>§⟨a,rfl,ga⟩
  |cons b q=>¶⟨e,es,h,_⟩:=gr;cases h
  |_=>cases lr
 |_=>cases hL
÷U40{lm:Bool}{G:Gs}{own:Nat}{capt:List Nat}{p:Pat}{it:It}{src cond el:Ex}(ihs:(∀ {X:Cx}{E:XK}{N:List Str}{sc:ý},XI lm X G E N sc->∀ {es:List Ò},mt lm G.fns G.nums src sc N es=true->Good X G E src es))(ihc:(∀ {X:Cx}{E:XK}{N:List Str}{sc:ý},XI false X G E N sc->∀ {es:List Ò},mt false G.fns G.nums cond sc N es=true->Good X G E cond es))(ihe:(∀ {X:Cx}{E:XK}{N:List Str}{sc:ý},XI false X G E N sc->∀ {es:List Ò},mt false G.fns G.nums el sc N es=true->Good X G E el es))
  {X:Cx}{E:XK}{N:List Str}{sc:ý} (x:XI lm X G E N sc) {elt tg Ä0:Ò}{ifs:List Ò}{csc:ý} (h:(d60 tg).length == own&&(b80 N capt).length == capt.length&&g51 csc sc N (d60 tg) (b80 N capt)&&j50 (d60 tg++(b80 N capt).map (·.1)) (λx=>(d60 tg).contains x) p tg&&isL src&&!isL el&&isL cond&&ifs.length<=1&&noStar elt&&z80 Ä0&&ifs.all (λc=>!ifB c) &&
    (match it with
    |.seq=>mt lm G.fns G.nums src sc N [Ä0]
    |.rng1=>opt (l32 Ä0) λr=>r.1.1 == ("range":Str)&&glob sc r.1.1&&mt lm G.fns G.nums src sc N [r.1.2.2.1]
    |.rng2=>opt (l42 Ä0) λr=>r.1.1 == ("range":Str)&&glob sc r.1.1&&mt lm G.fns G.nums src sc N [r.1.2.2.1,r.1.2.2.2.1]
    |.zip=>opt (l42 Ä0) λr=>r.1.1 == ("zip":Str)&&glob sc r.1.1&&n30 tg&&mt lm G.fns G.nums src sc N [r.1.2.2.1,r.1.2.2.2.1]
    |.enum=>opt (l32 Ä0) λr=>r.1.1 == ("enumerate":Str)&&glob sc r.1.1&&n30 tg&&mt lm G.fns G.nums src sc N [r.1.2.2.1])&&mt false G.fns G.nums cond csc (d60 tg++(b80 N capt).map (·.1)) ifs&&mt false G.fns G.nums el csc (d60 tg++(b80 N capt).map (·.1)) [elt]):H30 X G E (.comp own capt p it src cond el) elt tg Ä0 ifs csc:=by
 simp only[Á,beq_iff_eq,decide_eq_true_eq] at h
 ¶⟨⟨⟨⟨⟨⟨⟨⟨⟨⟨⟨⟨⟨h1,h2⟩,h3⟩,h4⟩,h5⟩,h6⟩,h7⟩,h8⟩,h9⟩,h10⟩,h11⟩,h12⟩,h13⟩,h14⟩:=h
 subst h1
 have c:=K92 h3
 have hi:PI X tg Ä0 (tIt X.K G E it src):=by
  cases it with
  |seq =>
   ¶⟨a,rfl,ga⟩:=z91 h5 (ihs x h12)
   §V91 ga
  |rng1 =>
   ¶⟨⟨⟨n,_,a,_⟩,rfl⟩,-,h12⟩:=a70 h12
   simp only[Á,beq_iff_eq] at h12
   §z11 x h12.1.1 h12.1.2 h5 (ihs x h12.2)
  |rng2 =>
   ¶⟨⟨⟨n,_,a,b,_⟩,rfl⟩,-,h12⟩:=a70 h12
   simp only[Á,beq_iff_eq] at h12
   §z21 x h12.1.1 h12.1.2 h5 (ihs x h12.2)
  |zip =>
   ¶⟨⟨⟨n,_,a,b,_⟩,rfl⟩,-,h12⟩:=a70 h12
   simp only[Á,beq_iff_eq] at h12
   §z51 x h12.1.2 h12.1.1.1 h12.1.1.2 h5 (ihs x h12.2)
  |enum =>
   ¶⟨⟨⟨n,_,a,_⟩,rfl⟩,-,h12⟩:=a70 h12
   simp only[Á,beq_iff_eq] at h12
   §h61 x h12.1.2 h12.1.1.1 h12.1.1.2 h5 (ihs x h12.2)
 have hc:(cond=.nil/\ifs=[])∨∃ q f,cond=.cons q .nil/\ifs=[f]/\∀ cl C s H fp,PT (c60 X (d80 (d60 tg) (b80 N capt)) csc cl C s H fp) f (tT X.K G EF q):=by
  match ifs,h8,h11,h13 with
  |[],_,_,h13 =>
   cases cond with
   |nil=>§.inl ⟨rfl,rfl⟩
   |cons a r=>cases h13
   |_=>cases h7
  |[f],_,h11,h13 =>
   cases cond with
   |nil=>cases h13
   |cons a r =>
    have h13':(noStar f&&!isL a&&isL r&&mt false G.fns G.nums a csc (d60 tg++(b80 N capt).map (·.1)) [f]&&mt false G.fns G.nums r csc (d60 tg++(b80 N capt).map (·.1)) [])=true:=h13
    simp only[Á] at h13'
    have rn:r=.nil:=by
     cases r with
     |nil=>rfl
     |cons b q=>cases h13'.2
     |_=>cases h13'.1.1.2
    subst rn
    simp only[Ã9,all_nil,Ñ2] at h11
    ¤.inr ⟨a,f,rfl,rfl,λcl C s H fp=>?_⟩
    ¶⟨e',es,he,ns,ga,lr,gr⟩:=ihc (z71 x c cl C s H fp) h13
    cases he
    §ga.pt (f82 h11)
   |_=>cases h7
 ¤L02 x c (h81 h2) h4 hi h10 hc λcl C s H fp=>?_
 §(a90 (b70 h6) (ihe (z71 x c cl C s H fp) h14)).pe
÷w82:∀ (t:Ex) {lm:Bool}{G:Gs}{X:Cx}{E:XK}{N:List Str}{sc:ý},XI lm X G E N sc->∀ {es:List Ò},mt lm G.fns G.nums t sc N es=true->Good X G E t es:=by
 intro t
 induction t with
 |nil =>
  intro lm G X E N sc x es h
  §Ì5.mp h
 |cons a r iha ihr =>
  intro lm G X E N sc x es h
  cases es with
  |nil=>cases h
  |cons e es =>
   have h:(noStar e&&!isL a&&isL r&&mt lm G.fns G.nums a sc N [e]&&mt lm G.fns G.nums r sc N es)=true:=h
   simp only[Á] at h
   ¶⟨⟨⟨⟨h1,h2⟩,h3⟩,h4⟩,h5⟩:=h
   §⟨e,es,rfl,h1,a90 (b70 h2) (iha x h4),h3,ihr x h5⟩
 |var i =>
  intro lm G X E N sc x es h
  ¶⟨⟨q,rfl⟩,-,h⟩:=a70 h
  simp only[Á,beq_iff_eq] at h
  §c20 rfl (J12 x h.1 h.2)
 |con d =>
  intro lm G X E N sc x es h
  rcases (Å6 _ _).mp h with h | h
  ·¶⟨⟨q,rfl⟩,-,h⟩:=a70 h
   §c20 rfl (J22 h)
  ·¶⟨⟨p,rfl⟩,-,h⟩:=a70 h
   cases d with
   |dct=>§c20 rfl J32
   |_=>cases h
 |gint g i =>
  intro lm G X E N sc x es h
  ¶⟨⟨⟨n,p⟩,rfl⟩,-,h⟩:=a70 h
  simp only[Á,beq_iff_eq,Ì4] at h
  ¶⟨⟨rfl,h2⟩,h3⟩:=h
  §c20 rfl (u52 x h2 h3)
 |tup as ih =>
  intro lm G X E N sc x es h
  ¶⟨⟨q,rfl⟩,-,h⟩:=a70 h
  simp only[Á] at h
  §c20 rfl (J42 h.1 (ih x h.2))
 |lst as ih =>
  intro lm G X E N sc x es h
  ¶⟨⟨q,rfl⟩,-,h⟩:=a70 h
  simp only[Á] at h
  §c20 rfl (J52 h.1 (ih x h.2))
 |bin o a b iha ihb =>
  intro lm G X E N sc x es h
  ¶⟨⟨⟨l,op,r,p⟩,rfl⟩,-,h⟩:=a70 h
  simp only[Á,beq_iff_eq] at h
  ¶⟨⟨⟨⟨rfl,h2⟩,h3⟩,h4⟩,h5⟩:=h
  §c20 rfl (J62 (a90 (b70 h2) (iha x h4)) (a90 (b70 h3) (ihb x h5)))
 |cmp o a b iha ihb =>
  intro lm G X E N sc x es h
  ¶⟨⟨⟨l,op,r,p⟩,rfl⟩,-,h⟩:=a70 h
  simp only[Á,beq_iff_eq] at h
  ¶⟨⟨⟨⟨⟨rfl,h1⟩,h2⟩,h3⟩,h4⟩,h5⟩:=h
  §c20 rfl (J72 x h1 (a90 (b70 h2) (iha x h4)) (a90 (b70 h3) (ihb x h5)))
 |neg a ih =>
  intro lm G X E N sc x es h
  ¶⟨⟨q,rfl⟩,-,h⟩:=a70 h
  simp only[Á] at h
  §c20 rfl (J82 (a90 (b70 h.1) (ih x h.2)))
 |not a ih =>
  intro lm G X E N sc x es h
  ¶⟨⟨q,rfl⟩,-,h⟩:=a70 h
  simp only[Á] at h
  ¶⟨⟨h1,h2⟩,h3⟩:=h
  §c20 rfl (J92 (a90 (b70 h1) (ih x h3)) (f82 h2))
 |and a b iha ihb =>
  intro lm G X E N sc x es h
  ¶⟨⟨⟨l,r,vs,p⟩,rfl⟩,-,h⟩:=a70 h
  simp only[Á] at h
  ¶⟨⟨⟨⟨h1,h2⟩,h3⟩,h4⟩,h5⟩:=h
  ¤c20 rfl (K02 (a90 (b70 h1) (iha x h4)) (f82 h3) ?_)
  cases vs with
  |nil =>
   rw[if_pos (show([]:List Ò).isEmpty=true from rfl),Á] at h5
   §u62 (a90 (b70 h2) (ihb x h5.2)) (f82 h5.1)
  |cons v vs =>
   rw[if_neg (by §Ð)] at h5
   §a90 (b70 h2) (ihb x h5)
 |or a b iha ihb =>
  intro lm G X E N sc x es h
  ¶⟨⟨⟨l,r,vs,p⟩,rfl⟩,-,h⟩:=a70 h
  simp only[Á] at h
  ¶⟨⟨⟨⟨h1,h2⟩,h3⟩,h4⟩,h5⟩:=h
  ¤c20 rfl (W22 (a90 (b70 h1) (iha x h4)) (f82 h3) ?_)
  cases vs with
  |nil =>
   rw[if_pos (show([]:List Ò).isEmpty=true from rfl),Á] at h5
   §u62 (a90 (b70 h2) (ihb x h5.2)) (f82 h5.1)
  |cons v vs =>
   rw[if_neg (by §Ð)] at h5
   §a90 (b70 h2) (ihb x h5)
 |orT a b iha ihb =>
  intro lm G X E N sc x es h
  ¶⟨⟨⟨l,r,vs,p⟩,rfl⟩,-,h⟩:=a70 h
  simp only[Á] at h
  ¶⟨⟨⟨⟨h1,h2⟩,h3⟩,h4⟩,h5⟩:=h
  cases vs with
  |nil=>§c20 rfl (K12 (a90 (b70 h1) (iha x h4)) (a90 (b70 h2) (ihb x h5)))
  |cons v vs=>cases h3
 |ite c a b ihc iha ihb =>
  intro lm G X E N sc x es h
  ¶⟨⟨q,rfl⟩,-,h⟩:=a70 h
  simp only[Á] at h
  ¶⟨⟨⟨⟨⟨⟨h1,h2⟩,h3⟩,h4⟩,h5⟩,h6⟩,h7⟩:=h
  §c20 rfl (K22 (a90 (b70 h1) (ihc x h5)) (f82 h4) (a90 (b70 h2) (iha x h6)) (a90 (b70 h3) (ihb x h7)))
 |ch o o' a b c iha ihb ihc =>
  intro lm G X E N sc x es h
  ¶⟨⟨⟨l,op,op',r,s,p⟩,rfl⟩,-,h⟩:=a70 h
  simp only[Á,beq_iff_eq] at h
  ¶⟨⟨⟨⟨⟨⟨⟨⟨rfl,rfl⟩,h1⟩,h2⟩,h3⟩,h4⟩,h5⟩,h6⟩,h7⟩:=h
  §c20 rfl (W32 x h1 (a90 (b70 h2) (iha x h5)) (a90 (b70 h3) (ihb x h6)) (a90 (b70 h4) (ihc x h7)))
 |bf f as ih =>
  intro lm G X E N sc x es h
  rcases (Å6 _ _).mp h with h | h
  rotate_left
  ·rw[Á] at h
   ¶⟨hf,h⟩:=h
   ¶⟨⟨⟨n,p1,m,p2,e,p3,p4⟩,rfl⟩,-,h⟩:=a70 h
   simp only[Á,beq_iff_eq] at h
   ¶⟨⟨⟨⟨⟨h1,h2⟩,h3⟩,h4⟩,h5⟩,h6⟩:=h
   have h1:n="sorted":=h1
   have h2:m="set":=h2
   subst h1;subst h2
   cases f with
   |sset=>§c20 rfl (w22 x h3 h4 h5 (ih x h6))
   |_=>cases hf
  ¶⟨⟨q,rfl⟩,-,h⟩:=a70 h
  simp only[Á,beq_iff_eq] at h
  ¶⟨⟨⟨⟨h1,h2⟩,h3⟩,h4⟩,h5⟩:=h
  §c20 rfl (W42 x h1 h2 h3 h4 (ih x h5))
 |isi t a ih =>
  intro lm G X E N sc x es h
  ¶⟨⟨⟨n,q,e,ty,p⟩,rfl⟩,-,h⟩:=a70 h
  simp only[Á,beq_iff_eq] at h
  ¶⟨⟨⟨⟨⟨h1,h2⟩,h3⟩,h4⟩,h5⟩,h6⟩:=h
  have g:=a90 (b70 h4) (ih x h5)
  ¤c20 rfl ?_
  have one:∀ t:Ty,t≠.seq->(opt (shN ty) λq=>q.1.1 == À9 (tyN t)&&glob sc (À9 (tyN t)))=true->b00 X G E (.isi t a) (.Call (.Name n q) [e,ty] [] p):=λt hs h6=>by
   ¶⟨⟨⟨a,_⟩,rfl⟩,-,h6⟩:=a70 h6
   simp only[Á,beq_iff_eq] at h6
   ¶⟨rfl,k1⟩:=h6
   §v62 x hs k1 h1 h2 h3 g
  cases t with
  |seq =>
   ¶⟨⟨⟨a,_,b,_,_,_⟩,rfl⟩,-,h6⟩:=a70 h6
   simp only[Á,beq_iff_eq] at h6
   ¶⟨⟨⟨rfl,rfl⟩,k1⟩,k2⟩:=h6
   §v72 x k1 k2 h1 h2 h3 g
  |_=>§one _ (λh=>by cases h) h6
 |idx a i iha ihi =>
  intro lm G X E N sc x es h
  ¶⟨⟨q,rfl⟩,-,h⟩:=a70 h
  simp only[Á] at h
  ¶⟨⟨⟨⟨h1,h2⟩,h3⟩,h4⟩,h5⟩:=h
  §c20 rfl (K42 h1 (a90 (b70 h2) (iha x h4)) (a90 (b70 h3) (ihi x h5)))
 |sl a lo hi iha ihl ihh =>
  intro lm G X E N sc x es h
  ¶⟨⟨q,rfl⟩,-,h⟩:=a70 h
  simp only[Á] at h
  ¶⟨⟨⟨⟨⟨h1,h2⟩,h3⟩,h4⟩,h5⟩,h6⟩:=h
  §c20 rfl (W52 (a90 (b70 h1) (iha x h4)) h2 h3 (ihl x h5) (ihh x h6))
 |rev a ih =>
  intro lm G X E N sc x es h
  ¶⟨⟨q,rfl⟩,-,h⟩:=a70 h
  simp only[Á] at h
  §c20 rfl (K72 (a90 (b70 h.1) (ih x h.2)))
 |call f as ih =>
  intro lm G X E N sc x es h
  ¶⟨⟨⟨n,q,e,l,p⟩,rfl⟩,-,h⟩:=a70 h
  simp only[Á] at h
  ¶⟨⟨⟨h1,h2⟩,h3⟩,h4⟩:=h
  ¶⟨pr,hf,h1'⟩:=a70 h1
  simp only[Á,beq_iff_eq] at h1'
  ¶⟨rfl,h7⟩:=h1'
  §c20 rfl (s_call x hf h7 h2 h3 (ih x h4))
 |comp own capt p it src cond el ihs ihc ihe =>
  intro lm G X E N sc x es h
  ¶⟨⟨q,rfl⟩,-,h⟩:=a70 h
  §c20 rfl ((U40 ihs ihc ihe x h).good x.calm)
 |lrng b as ih =>
  intro lm G X E N sc x es h
  ¶⟨⟨⟨n,p,m,q,a,r,t⟩,rfl⟩,-,h⟩:=a70 h
  simp only[Á,beq_iff_eq] at h
  ¶⟨⟨⟨⟨⟨⟨h1,h2⟩,h3⟩,h4⟩,h5⟩,h7⟩,h6⟩:=h
  subst h1;subst h2
  cases a with
  |nil=>simp at h7
  |cons a l=>§c20 rfl (w02 x h3 h4 h5 (ih x h6))
 |zget i k =>
  intro lm G X E N sc x es h
  ¶⟨⟨⟨n,p,j,c,q,r⟩,rfl⟩,-,h⟩:=a70 h
  simp only[Á,beq_iff_eq] at h
  ¶⟨⟨h1,h2⟩,h3⟩:=h
  have h3:j=(k:Int):=h3
  subst h3
  §c20 rfl (v82 x h1 h2)
 |refd capt a ih =>
  intro lm G X E N sc x es h
  ¶⟨⟨⟨n,p,body,lsc,lpos,pos⟩,rfl⟩,-,h⟩:=a70 h
  simp only[Á,beq_iff_eq] at h
  ¶⟨⟨⟨⟨⟨⟨h1,h2⟩,h3⟩,h4⟩,h5⟩,h6⟩,h7⟩:=h
  have h2:n="_law_refused":=h2
  subst h2
  §c20 rfl (w62 x h1 h3 h4 h5 (b70 h6) λk X E xl=>ih xl h7)
÷sound(G:Gs)(t:Ex)(x:XI lm X G E N sc)(h:mt lm G.fns G.nums t sc N es=true):Good X G E t es:=w82 t x h
end
open Classical in
def hw(ow:Nat->Option Ç)(H:Hp):Hp:=λb=>if ∃ i,ow i=some b then none else H b
section
variable {K:Â}{ow:Nat->Option Ç}{H H':Hp}
÷k50:a30 (hw ow H) H:=λb o e=>by
 unfold hw at e
 split at e
 ·cases e
 ·§e
÷i90(h:H b=some o)(n:∀ i,ow i≠some b):hw ow H b=some o:=by
 unfold hw
 rw[if_neg (λ⟨i,e⟩=>n i e)]
 §h
÷D60(h:hw ow H b=some o):H b=some o/\∀ i,ow i≠some b:=by
 ¤⟨k50 b o h,λi e=>?_⟩
 unfold hw at h
 rw[if_pos ⟨i,e⟩] at h
 cases h
÷d10(e:a30 H H'):a30 (hw ow H) (hw ow H'):=λb o h=>by
 ¶⟨h1,h2⟩:=D60 h
 §i90 (e b o h1) h2
÷w60:hw (λ_=>none) H=H:=by
 funext b
 unfold hw
 rw[if_neg (λ⟨i,e⟩=>by cases e)]
÷A01(h:SqT K H a xs)(hl:∀ i b,ow i=some b->∃ ys,H b=some (.lst ys)):SqT K (hw ow H) a xs:=by
 rcases h with (h | ⟨o,h⟩) | h
 ·¤.inl (.inl (i90 h λi e=>?_))
  ¶⟨ys,q⟩:=hl i a e
  rw[h] at q;cases q
 ·¤.inl (.inr ⟨o,i90 h λi e=>?_⟩)
  ¶⟨ys,q⟩:=hl i a e
  rw[h] at q;cases q
 ·§.inr h
mutual
theorem M60(hl:∀ i b,ow i=some b->∃ ys,H b=some (.lst ys)):∀ {d:D}{v:V},bare d=true->Hd K H d v->Hd K (hw ow H) d v
 |.non,_,_,h=>by rw[h.C12];§Hd.non
 |.bl _,_,_,h=>by rw[h.bl_];§Hd.bl
 |.int _,_,_,h=>by rw[h.i20];§Hd.int
 |.str _,_,_,h=>by rw[h.H02];§Hd.str
 |.tup l,_,b,h=>by
  ¶⟨a,xs,rfl,h1,h2⟩:=h.z70
  §Hd.tup (A01 h1 hl) (A40 hl (by simpa [bare] using b) h2)
 |.lst _,_,b,_=>by cases b
 |.dct,_,b,_=>by cases b
theorem A40(hl:∀ i b,ow i=some b->∃ ys,H b=some (.lst ys)):∀ {ds:List D}{vs:List V},o30 ds=true->HdA K H ds vs->HdA K (hw ow H) ds vs
 |[],_,_,h=>by rw[h.f30];§.nil
 |d::ds,_,b,h=>by
  ¶⟨x,r,rfl,h1,h2⟩:=h.c40
  simp only[o30,Á] at b
  §.cons (M60 hl b.1 h1) (A40 hl b.2 h2)
end
end
def RvW(K:Â)(zA:Option Ç)(ow:Nat->Option Ç)(H:Hp)(i:Nat):S->V->Prop
 |.d x,v=>ow i=none/\Hd K (hw ow (hz zA H)) x v
 |.fr xs,v=>∃ a ys,ow i=some a/\v=.ref a/\H a=some (.lst ys)/\HdA K (hw ow (hz zA H)) xs ys
 |.z,v=>ow i=none/\∃ a,zA=some a/\v=.ref a
structure RW(K:PySem.W.Frag)(H0:Hp)(zE zA:Option Addr)(ow:Nat->Option Addr)(H:Hp)(ρ:Env)(σ:L2.St):Prop where
 len:ρ.length=σ.length
 inj:∀ i j a,ow i=some a->ow j=some a->i=j
 zne:∀ i a,ow i=some a->zA≠some a
 own:∀ i a,ow i=some a->∃ xs,ρ[i]?=some (some (.fr xs))
 wor:∀ i s,ρ[i]?=some (some s)->∃ v,σ[i]?=some (some v)/\RvW K zA ow H i s v
 ext:Ext zE H0 H
 zok:zA=zE∨(zE=none/\∀ a,zA=some a->H0 a=none)
 new:∀ i a,ow i=some a->H0 a=none
section
variable {K:Â}{H0 H H':Hp}{zE zA:Option Ç}{ow:Nat->Option Ç}{ρ:Env}{σ:L2.St}
÷RW.lst(r:RW K H0 zE zA ow H ρ σ):∀ i a,ow i=some a->∃ ys,H a=some (.lst ys):=λi a e=>by
 ¶⟨xs,h⟩:=r.own i a e
 ¶⟨v,h1,a',ys,h2,h3,h4,h5⟩:=r.wor i _ h
 rw[e] at h2;cases h2
 §⟨ys,h4⟩
÷RW.g72(r:RW K H0 zE zA ow H ρ σ):∀ i a,ow i=some a->∃ ys,hz zA H a=some (.lst ys):=λi a e=>by
 ¶⟨ys,h⟩:=r.lst i a e
 §⟨ys,e10 h (r.zne i a e)⟩
÷RvW.pl{i:Nat}{s:S}{v:V}(h:RvW K zA ow H i s v)(hz':∀ a,ow i=some a->zA≠some a):RvP K zA H s v:=by
 cases s with
 |d x=>§h.2.same k50
 |z=>§h.2
 |fr xs =>
  ¶⟨a,ys,h1,rfl,h3,h4⟩:=h
  §Hd.lst (e10 h3 (hz' a h1)) (h4.same k50)
÷RW.P60(r:RW K H0 zE zA ow H ρ σ):y00 K zA H ρ σ:=λi s e=>by
 ¶⟨v,h1,h2⟩:=r.wor i s e
 §⟨v,h1,h2.pl λa q=>r.zne i a q⟩
÷RvW.mono{i:Nat}{s:S}{v:V}(h:RvW K zA ow H i s v)(hz':∀ a,ow i=some a->zA≠some a)(x:Ext zA H H'):RvW K zA ow H' i s v:=by
 cases s with
 |d y=>§⟨h.1,h.2.same (d10 x)⟩
 |z=>§h
 |fr xs =>
  ¶⟨a,ys,h1,rfl,h3,h4⟩:=h
  §⟨a,ys,h1,rfl,x.at h3 (hz' a h1),h4.same (d10 x)⟩
÷W01(zA:Option Ç)(H:Hp):a30 (hz zA H) (hz none H):=λ_ _ h=>e10 (q60 h).1 (λq=>nomatch q) (r40 h)
÷A11(e:Ext zE H0 H)(zok:zA=zE∨(zE=none/\∀ a,zA=some a->H0 a=none))(x:Ext zA H H'):Ext zE H0 H':=by
 rcases zok with rfl | ⟨rfl,hn⟩
 ·§e.trans x
 ·¤⟨λb o h=>?_,λb ps h=>let ⟨qs,q⟩:=e.tbl b ps h;x.tbl b qs q⟩
  have h1:=e.same b o h
  ¤e10 (x.at (q60 h1).1 (λq=>?_) (r40 h1)) (λq=>nomatch q) (r40 h1)
  have h0:=(q60 h).1
  rw[hn b q] at h0;cases h0
÷RW.mono(r:RW K H0 zE zA ow H ρ σ)(x:Ext zA H H'):RW K H0 zE zA ow H' ρ σ :=
 ⟨r.len,r.inj,r.zne,r.own,λi s e=>let ⟨v,h1,h2⟩:=r.wor i s e;⟨v,h1,h2.mono (λa q=>r.zne i a q) x⟩,A11 r.ext r.zok x,r.zok,r.new⟩
÷RW.young(r:RW K H0 zE zA ow H ρ σ)(h:H a=none)(n:zA≠some a):H0 a=none/\zE≠some a:=by
 have hE:zE≠some a:=λq=>by
  rcases r.zok with rfl | ⟨rfl,_⟩
  ·§n q
  ·cases q
 §⟨r.ext.free h hE,hE⟩
÷RW.out(r:RW K H0 zE zA ow H ρ σ){s:S}{v:V}(hs:s≠.z)(x:Ext zA H H')(h:RvS K zA H H' s v):RvS K zE H0 H' s v:=by
 have sm:a30 (hz zA H') (hz zE H'):=by
  rcases r.zok with rfl | ⟨rfl,_⟩
  ·§a30.refl _
  ·§W01 _ _
 cases s with
 |d y=>§Hd.same sm h
 |z=>§absurd rfl hs
 |fr xs =>
  ¶⟨a,ys,rfl,h1,h2,h3,h4⟩:=h
  ¶⟨k1,k2⟩:=r.young h1 h2
  §⟨a,ys,rfl,k1,k2,h3,h4.same (C00 λb o _ q=>sm b o q)⟩
÷RW.W62(r:RW K H0 zE zA ow H ρ σ){i:Nat}{s:S}(hs:s≠.z)(e:ρ[i]?=some (some s)):∃ v,σ[i]?=some (some v)/\RvS K zE H0 H s v:=by
 ¶⟨v,h1,h2⟩:=r.wor i s e
 have sm:a30 (hz zA H) (hz zE H):=by
  rcases r.zok with rfl | ⟨rfl,_⟩
  ·§a30.refl _
  ·§W01 _ _
 ¤⟨v,h1,?_⟩
 cases s with
 |d y=>§Hd.same (a30.trans k50 sm) h2.2
 |z=>§absurd rfl hs
 |fr xs =>
  ¶⟨a,ys,k1,rfl,k3,k4⟩:=h2
  have n:=r.zne i a k1
  have hE:zE≠some a:=λq=>by
   rcases r.zok with rfl | ⟨rfl,_⟩
   ·§n q
   ·cases q
  ¤⟨a,ys,rfl,r.new i a k1,hE,k3,k4.same λb o q=>?_⟩
  ¶⟨q1,q2⟩:=D60 q
  §K70 (sm b o q1) λz=>q2 i (by rw[z];§k1)
÷RW.a21(r:RW K H0 zE zA ow H ρ σ):RW K H0 zE zA (λ_=>none) H (a21 ρ) σ:=by
 ¤⟨by unfold Q.a21;rw[É];§r.len,λi j a h=>(by cases h),λi a h=>(by cases h),λi a h=>(by cases h),λi s e=>?_,r.ext,r.zok,λi a h=>(by cases h)⟩
 unfold Q.a21 at e
 rw[Ý] at e
 ¶⟨o,e1,e2⟩:=Ê.mp e
 cases o with
 |none=>cases e2
 |some s0 =>
  cases e2
  ¶⟨v,h1,h2⟩:=r.P60 i s0 e1
  ¤⟨v,h1,?_⟩
  cases s0 with
  |d y=>§⟨rfl,by rw[w60];§h2⟩
  |fr xs=>§⟨rfl,by rw[w60];§h2⟩
  |z=>§⟨rfl,h2⟩
def ow0(ow:Nat->Option Ç)(i:Nat):Nat->Option Addr:=λj=>if j=i then none else ow j
def ow1(ow:Nat->Option Ç)(i:Nat)(a:Ç):Nat->Option Addr:=λj=>if j=i then some a else ow j
÷RvW.move{ow':Nat->Option Ç}{j:Nat}{s:S}{v:V}(h:RvW K zA ow H j s v)(e:ow' j=ow j)(sm:a30 (hw ow (hz zA H)) (hw ow' (hz zA H')))(hk:∀ a,ow j=some a->H' a=H a):RvW K zA ow' H' j s v:=by
 cases s with
 |d y=>§⟨by rw[e];§h.1,h.2.same sm⟩
 |z=>§⟨by rw[e];§h.1,h.2⟩
 |fr xs =>
  ¶⟨a,ys,h1,rfl,h3,h4⟩:=h
  §⟨a,ys,by rw[e];§h1,rfl,by rw[hk a h1];§h3,h4.same sm⟩
÷getElem?_set'{α:Type}{l:List α}{i j:Nat}{x y:α}(h:(l.set i x)[j]?=some y):(j=i/\y=x/\i < l.length)∨(j≠i/\l[j]?=some y):=by
 by_cases hj:j=i
 ·subst hj
  have hlt:j < l.length:=by
   have:=(Þ.mp h).1
   simpa using this
  rw[ð hlt] at h
  cases h
  §.inl ⟨rfl,rfl,hlt⟩
 ·rw[ê (Â3 hj)] at h
  §.inr ⟨hj,h⟩
÷RW.W72(r:RW K H0 zE zA ow H ρ σ){i:Nat}(h:Hd K (hw ow (hz zA H)) x v):RW K H0 zE zA (ow0 ow i) H (ρ.set i (some (.d x))) (σ.set i (some v)):=by
 have sub:∀ j a,ow0 ow i j=some a->j≠i/\ow j=some a:=λj a e=>by
  unfold ow0 at e
  split at e
  ·cases e
  ·rename_i n;§⟨n,e⟩
 have sm:a30 (hw ow (hz zA H)) (hw (ow0 ow i) (hz zA H)):=λb o e=>by
  ¶⟨e1,e2⟩:=D60 e
  §i90 e1 λj q=>e2 j (sub j b q).2
 ¤⟨by rw[Ä1,Ä1];§r.len,λj k a h1 h2=>r.inj j k a (sub j a h1).2 (sub k a h2).2,λj a h1=>r.zne j a (sub j a h1).2,λj a h1=>?_,λj s e=>?_,r.ext,r.zok,λj a h1=>r.new j a (sub j a h1).2⟩
 ·¶⟨n,h2⟩:=sub j a h1
  ¶⟨xs,h3⟩:=r.own j a h2
  §⟨xs,by rw[ê (Â3 n)];§h3⟩
 ·rcases getElem?_set' e with ⟨rfl,e1,hlt⟩ | ⟨n,e1⟩
  ·cases e1
   §⟨v,ð (by rw[← r.len];§hlt),by unfold ow0;§if_pos rfl,h.same sm⟩
  ·¶⟨w,h1,h2⟩:=r.wor j s e1
   §⟨w,by rw[ê (Â3 n)];§h1,h2.move (by unfold ow0;§if_neg n) sm λ_ _=>rfl⟩
÷RW.W82(r:RW K H0 zE zA ow H ρ σ){i:Nat}(h:∃ a,zA=some a/\v=.ref a):RW K H0 zE zA (ow0 ow i) H (ρ.set i (some .z)) (σ.set i (some v)):=by
 have sub:∀ j a,ow0 ow i j=some a->j≠i/\ow j=some a:=λj a e=>by
  unfold ow0 at e
  split at e
  ·cases e
  ·rename_i n;§⟨n,e⟩
 have sm:a30 (hw ow (hz zA H)) (hw (ow0 ow i) (hz zA H)):=λb o e=>by
  ¶⟨e1,e2⟩:=D60 e
  §i90 e1 λj q=>e2 j (sub j b q).2
 ¤⟨by rw[Ä1,Ä1];§r.len,λj k a h1 h2=>r.inj j k a (sub j a h1).2 (sub k a h2).2,λj a h1=>r.zne j a (sub j a h1).2,λj a h1=>?_,λj s e=>?_,r.ext,r.zok,λj a h1=>r.new j a (sub j a h1).2⟩
 ·¶⟨n,h2⟩:=sub j a h1
  ¶⟨xs,h3⟩:=r.own j a h2
  §⟨xs,by rw[ê (Â3 n)];§h3⟩
 ·rcases getElem?_set' e with ⟨rfl,e1,hlt⟩ | ⟨n,e1⟩
  ·cases e1
   §⟨v,ð (by rw[← r.len];§hlt),by unfold ow0;§if_pos rfl,h⟩
  ·¶⟨w,h1,h2⟩:=r.wor j s e1
   §⟨w,by rw[ê (Â3 n)];§h1,h2.move (by unfold ow0;§if_neg n) sm λ_ _=>rfl⟩
÷RW.W92(r:RW K H0 zE zA ow H ρ σ){i:Nat}(x:Ext zA H H')(hn:H a=none)(za:zA≠some a)(hl:H' a=some (.lst ys))(h:HdA K (hw (ow1 ow i a) (hz zA H')) xs ys)(hi:i < ρ.length) :
  RW K H0 zE zA (ow1 ow i a) H' (ρ.set i (some (.fr xs))) (σ.set i (some (.ref a))):=by
 have r':=r.mono x
 have old:∀ j b,ow j=some b->b≠a:=λj b e q=>by
  ¶⟨zs,h1⟩:=r.lst j b e
  rw[q,hn] at h1;cases h1
 have sub:∀ j b,ow1 ow i a j=some b->(j=i/\b=a)∨(j≠i/\ow j=some b):=λj b e=>by
  unfold ow1 at e
  split at e
  ·rename_i n;cases e;§.inl ⟨n,rfl⟩
  ·rename_i n;§.inr ⟨n,e⟩
 have sm:a30 (hw ow (hz zA H)) (hw (ow1 ow i a) (hz zA H')):=λb o e=>by
  ¶⟨e1,e2⟩:=D60 e
  have e3:=(q60 e1).1
  have hb:b≠a:=λq=>by rw[q,hn] at e3;cases e3
  ¤i90 (x b o e1) λj q=>?_
  rcases sub j b q with ⟨_,q⟩ | ⟨_,q⟩
  ·§hb q
  ·§e2 j q
 ¤⟨by rw[Ä1,Ä1];§r.len,λj k b h1 h2=>?_,λj b h1=>?_,λj b h1=>?_,λj s e=>?_,r'.ext,r.zok,λj b h1=>?_⟩
 ·rcases sub j b h1 with ⟨q1,q2⟩ | ⟨q1,q2⟩
  ·rcases sub k b h2 with ⟨p1,p2⟩ | ⟨p1,p2⟩
   ·rw[q1,p1]
   ·§absurd q2 (old k b p2)
  ·rcases sub k b h2 with ⟨p1,p2⟩ | ⟨p1,p2⟩
   ·§absurd p2 (old j b q2)
   ·§r.inj j k b q2 p2
 ·rcases sub j b h1 with ⟨_,q2⟩ | ⟨_,q2⟩
  ·rw[q2];§za
  ·§r.zne j b q2
 ·rcases sub j b h1 with ⟨q1,q2⟩ | ⟨q1,q2⟩
  ·rw[q1];§⟨xs,ð hi⟩
  ·¶⟨zs,h3⟩:=r.own j b q2
   §⟨zs,by rw[ê (Â3 q1)];§h3⟩
 ·rcases getElem?_set' e with ⟨rfl,e1,hlt⟩ | ⟨n,e1⟩
  ·cases e1
   §⟨.ref a,ð (by rw[← r.len];§hlt),a,ys,by unfold ow1;§if_pos rfl,rfl,hl,h⟩
  ·¶⟨w,h1,h2⟩:=r.wor j s e1
   ¤⟨w,by rw[ê (Â3 n)];§h1,h2.move (by unfold ow1;§if_neg n) sm λb q=>?_⟩
   ¶⟨zs,k⟩:=r.lst j b q
   rw[k]
   §x.at k (r.zne j b q)
 ·rcases sub j b h1 with ⟨_,q2⟩ | ⟨_,q2⟩
  ·rw[q2];§(r.young hn za).1
  ·§r.new j b q2
÷RW.upd(r:RW K H0 zE zA ow H ρ σ){i:Nat}(e:ow i=some a)(h:HdA K (hw ow (hz zA H)) xs ys):RW K H0 zE zA ow (upd H a (.lst ys)) (ρ.set i (some (.fr xs))) σ:=by
 have za:=r.zne i a e
 have sm:a30 (hw ow (hz zA H)) (hw ow (hz zA (L2.upd H a (.lst ys)))):=λb o q=>by
  ¶⟨e1,e2⟩:=D60 q
  ¶⟨e3,e4⟩:=q60 e1
  have hb:b≠a:=λz=>e2 i (by rw[z];§e)
  §i90 (e10 (by rw[a60 hb];§e3) e4 (r40 e1)) e2
 ¶⟨xs0,h0⟩:=r.own i a e
 have hi:i < ρ.length:=(Þ.mp h0).1
 ¶⟨v0,s0,a0,ys0,q1,q2,q3,q4⟩:=r.wor i _ h0
 rw[e] at q1;cases q1
 ¤⟨by rw[Ä1];§r.len,r.inj,r.zne,λj b h1=>?_,λj s q=>?_,⟨λb o q=>?_,λb ps q=>?_⟩,r.zok,r.new⟩
 ·by_cases hj:j=i
  ·subst hj;§⟨xs,ð hi⟩
  ·¶⟨zs,h3⟩:=r.own j b h1
   §⟨zs,by rw[ê (Â3 hj)];§h3⟩
 ·rcases getElem?_set' q with ⟨rfl,e1,hlt⟩ | ⟨n,e1⟩
  ·cases e1
   §⟨v0,s0,a,ys,e,q2,b20,h.same sm⟩
  ·¶⟨w,h1,h2⟩:=r.wor j s e1
   ¤⟨w,h1,h2.move rfl sm λb q=>?_⟩
   have hb:b≠a:=λz=>n (r.inj j i b q (by rw[z];§e))
   §a60 hb
 ·¶⟨e1,e2⟩:=q60 (r.ext b o q)
  have hb:b≠a:=λz=>by
   have:=(q60 q).1
   rw[z,r.new i a e] at this;cases this
  §e10 (by rw[a60 hb];§e1) e2 (r40 q)
 ·¶⟨qs,e1⟩:=r.ext.tbl b ps q
  have hb:b≠a:=λz=>by rw[z,q3] at e1;cases e1
  §⟨qs,by rw[a60 hb];§e1⟩
end
end Q
namespace Q
open PySem L2 PySem.Spec PyProof.Rows
variable [TB:Tb]
def C32:Option Ç->Z->Z
 |none,_=>none
 |some _,z=>z
def q70(K:Â)(G:Gs)(E:XK)(H0:Hp)(zE:Option Ç)(B:Hp)(D:Ends):R O->Prop
 |.ok (.nx ρ) z=>∀ zA ow σ H,RW K H0 zE zA ow H ρ σ->e40 zA z H->a30 B (hw ow (hz zA H))->D.nx σ H
 |.ok (.rt s) z=>∀ v H,s≠.z->Ext zE H0 H->e40 zE (C32 zE z) H->RvS K zE H0 H s v->D.rt v H
 |.er c z=>∀ e H,Ext zE H0 H->e40 zE (C32 zE z) H->H e=none->E (.ref (G.cls c)) (some e) H
def tX(K:Â)(G:Gs)(E:XK)(H0:Hp)(zE:Option Ç)(x:Sm):TS:=λD σ H=>∃ zA ow ρ z r,RW K H0 zE zA ow H ρ σ/\e40 zA z H/\ex G.F zE.isNone x ρ z=some r/\q70 K G E H0 zE (hw ow (hz zA H)) D r
section
variable {K:Â}{G:Gs}{E:XK}{H0 H H':Hp}{zE zA:Option Ç}{ow:Nat->Option Ç}{ρ:Env}{σ:L2.St}{Dn:Ends}{z:Z}
÷l52(zok:zA=zE∨(zE=none/\∀ a,zA=some a->H0 a=none))(st:e40 zA z H):e40 zE (C32 zE z) H:=by
 cases zE with
 |none=>§⟨trivial,st.tab⟩
 |some a =>
  rcases zok with rfl | ⟨h,_⟩
  ·§st
  ·cases h
÷q70.er_(po:q70 K G E H0 zE B Dn (.er c z))(r:RW K H0 zE zA ow H ρ σ):EPost G zA E c z H:=λe H' x st n=>po e H' (A11 r.ext r.zok x) (l52 r.zok st) n
÷q70.ers(po:q70 K G E H0 zE B Dn rr)(r:RW K H0 zE zA ow H ρ σ):∀ c z1,rr=.er c z1->EPost G zA E c z1 H:=λc z1 e=>by subst e;§po.er_ r
÷q70.mono(po:q70 K G E H0 zE B Dn rr)(h:a30 B B'):q70 K G E H0 zE B' Dn rr:=by
 match rr,po with
 |.ok (.nx _) _,po=>§λzA ow σ H r st sm=>po zA ow σ H r st (a30.trans h sm)
 |.ok (.rt _) _,po=>§po
 |.er _ _,po=>§po
÷A50(ow:Nat->Option Ç)(i:Nat):a30 (hw ow H) (hw (ow0 ow i) H):=λb o e=>by
 ¶⟨e1,e2⟩:=D60 e
 ¤i90 e1 λj q=>?_
 unfold ow0 at q
 split at q
 ·cases q
 ·§e2 j q
÷D70(ow:Nat->Option Ç):a30 (hw ow H) (hw (λ_=>none) H):=λb o e=>i90 (D60 e).1 λj q=>nomatch q
÷P71(x:Ext zA H H')(hn:H a=none)(i:Nat):a30 (hw ow (hz zA H)) (hw (ow1 ow i a) (hz zA H')):=λb o e=>by
 ¶⟨e1,e2⟩:=D60 e
 have e3:=(q60 e1).1
 have hb:b≠a:=λq=>by rw[q,hn] at e3;cases e3
 ¤i90 (x b o e1) λj q=>?_
 unfold ow1 at q
 split at q
 ·cases q;§hb rfl
 ·§e2 j q
÷M70(e:ow i=some a):a30 (hw ow (hz zA H)) (hw ow (hz zA (upd H a o))):=λb u q=>by
 ¶⟨e1,e2⟩:=D60 q
 ¶⟨e3,e4⟩:=q60 e1
 have hb:b≠a:=λw=>e2 i (by rw[w];§e)
 §i90 (e10 (by rw[a60 hb];§e3) e4 (r40 e1)) e2
mutual
theorem P81:∀ {p:Pat}{d:D}{ρ ρ':Env},f20 p d ρ=some ρ'->∀ {ow:Nat->Option Ç}{σ:L2.St}{v:V}{R:L2.St->Hp->Prop},RW K H0 zE zA ow H ρ σ->Hd K (hw ow (hz zA H)) d v ->
  (∀ ow' σ',RW K H0 zE zA ow' H ρ' σ'->a30 (hw ow (hz zA H)) (hw ow' (hz zA H))->R σ' H)->gP K p v σ H R
 |.v i,d,ρ,ρ',e,ow,σ,v,R,r,hd,k=>by
  unfold f20 at e
  cases e
  unfold gP
  §k _ _ (r.W72 hd) (A50 ow i)
 |.tup ps,d,ρ,ρ',e,ow,σ,v,R,r,hd,k=>by
  unfold f20 at e
  cases d with
  |tup l =>
   ¶⟨a,xs,rfl,h1,h2⟩:=hd.z70
   unfold gP
   §⟨a,xs,rfl,(a20 zA H).sqT (a30.sqT k50 h1),by rw[h2.length];§D50 e,A21 e r h2 k⟩
  |_=>cases e
 |.nil,_,_,_,e,_,_,_,_,_,_,_=>by unfold f20 at e;cases e
 |.cons _ _,_,_,_,e,_,_,_,_,_,_,_=>by unfold f20 at e;cases e
theorem A21:∀ {r:Pat}{l:List D}{ρ ρ':Env},bindL r l ρ=some ρ'->∀ {ow:Nat->Option Ç}{σ:L2.St}{vs:List V}{R:L2.St->Hp->Prop},RW K H0 zE zA ow H ρ σ->HdA K (hw ow (hz zA H)) l vs ->
  (∀ ow' σ',RW K H0 zE zA ow' H ρ' σ'->a30 (hw ow (hz zA H)) (hw ow' (hz zA H))->R σ' H)->gL K r vs σ H R
 |.nil,l,ρ,ρ',e,ow,σ,vs,R,r,hd,k=>by
  unfold bindL at e
  cases l with
  |nil =>
   cases e
   unfold gL
   §⟨hd.f30,k ow σ r (a30.refl _)⟩
  |cons x l=>cases e
 |.cons p q,l,ρ,ρ',e,ow,σ,vs,R,r,hd,k=>by
  unfold bindL at e
  cases l with
  |nil=>cases e
  |cons x l =>
   ¶⟨ρ1,e1,e2⟩:=Î.mp e
   ¶⟨v,ws,rfl,h1,h2⟩:=hd.c40
   unfold gL
   §⟨v,ws,rfl,P81 e1 r h1 λow' σ' r' sm=>A21 e2 r' (h2.same sm) λow2 σ2 r2 sm2=>k ow2 σ2 r2 (a30.trans sm sm2)⟩
 |.v _,_,_,_,e,_,_,_,_,_,_,_=>by unfold bindL at e;cases e
 |.tup _,_,_,_,e,_,_,_,_,_,_,_=>by unfold bindL at e;cases e
end
÷A31(r:RW K H0 zE zA ow H ρ σ)(s:S):∃ ow',RW K H0 zE zA ow' H (l00 s ρ) σ/\a30 (hw ow (hz zA H)) (hw ow' (hz zA H))/\(S70 s=true∨∀ i,ow' i=none):=by
 unfold l00
 rw[S90]
 cases hb:S70 s with
 |true=>§⟨ow,r,a30.refl _,.inl rfl⟩
 |false=>§⟨_,r.a21,D70 ow,.inr λ_=>rfl⟩
÷P91{p:Pat}{s:S}{v:V}{ρ':Env}{R:L2.St->Hp->Prop}(r:RW K H0 zE zA ow H ρ σ)(x:Ext zA H H')(rv:RvS K zA H H' s v)(e:T00 p s (l00 s ρ)=some ρ')
  (k:∀ ow' σ',RW K H0 zE zA ow' H' ρ' σ'->a30 (hw ow (hz zA H)) (hw ow' (hz zA H'))->R σ' H'):gP K p v σ H' R:=by
 ¶⟨owk,r1,s1,b1⟩:=A31 r s
 have r2:=r1.mono x
 have s2:a30 (hw ow (hz zA H)) (hw owk (hz zA H')):=a30.trans s1 (d10 x)
 cases s with
 |d y =>
  have e':f20 p y (l00 (.d y) ρ)=some ρ':=by cases p <;> §e
  ¤P81 e' r2 ?_ λow' σ' r3 s3=>k ow' σ' r3 (a30.trans s2 s3)
  rcases b1 with b1 | b1
  ·§M60 r2.g72 b1 rv
  ·have:owk=λ_=>none:=funext b1
   subst this
   rw[w60];§rv
 |z =>
  cases p with
  |v i =>
   simp only[T00] at e
   split at e
   ·cases e
    unfold gP
    §k _ _ (r2.W82 rv) (a30.trans s2 (A50 owk i))
   ·cases e
  |_=>cases e
 |fr xs =>
  cases p with
  |v i =>
   simp only[T00] at e
   split at e
   ·rename_i hi
    cases e
    unfold gP
    ¶⟨a,ys,rfl,h1,h2,h3,h4⟩:=rv
    ¤k _ _ (r1.W92 x h1 h2 h3 ?_ hi) (a30.trans s1 (P71 x h1 i))
    rcases b1 with b1 | b1
    ·¤A40 (λj b q=>?_) b1 (h4.same (f10 a _))
     unfold ow1 at q
     split at q
     ·cases q;§⟨ys,e10 h3 h2⟩
     ·§r2.g72 j b q
    ·¤h4.same λb o q=>?_
     have hb:b≠a:=λw=>by subst w;unfold hide at q;rw[if_pos rfl] at q;cases q
     ¤i90 (f10 a _ b o q) λj w=>?_
     unfold ow1 at w
     split at w
     ·cases w;§hb rfl
     ·rw[b1 j] at w;cases w
   ·cases e
  |_=>cases e
end
end Q
namespace Q
open PySem L2 PySem.Spec PyProof.Rows
variable [TB:Tb]
÷g82(h:n30 v=false):Ä6 [tg] v env=pure none:=by
 cases tg <;> first | rfl | (cases v <;> first | (cases h;done) | rfl)
÷g92(h:vs.all (Û8 8)=true):Ä6 [.Tuple ts k p] (.Tuple vs k' p') env=pure none:=by
 unfold Ä6
 simp only[h,if_true]
 split
 ·rfl
 ·split
  ·rfl
  ·split
   ·rfl
   ·rfl
def A41(look:Str->Option Ë4):Ò->Bool
 |.Name id _=>look id != some .local
 |_=>true
÷h02(h:ts.any (A41 env.kindOf)=true):Ä6 [.Tuple ts k p] (.Tuple vs k' p') env=pure none:=by
 have hl:∀ (l:Nat) (ts:List Ò),ts.any (A41 env.kindOf)=true->(ts.filterMap fun
   |.Name id pos=>if env.kindOf id == some .local&&pos.line == l then some id else none
   |_=>none).length < ts.length:=by
  intro l ts
  induction ts with
  |nil=>intro h;cases h
  |cons e r ih =>
   intro h
   have le:=List.length_filterMap_le (fun
    |.Name id pos=>if env.kindOf id == some .local&&pos.line == l then some id else none
    |_=>none:Ò->Option Str) r
   rw[List.any_cons,Å6] at h
   rw[Á3]
   split
   ·rw[Ü];omega
   ·rename_i b hb
    rcases h with h | h
    ·exfalso
     cases e with
     |Name id pos =>
      have h':(env.kindOf id != some .local)=true:=h
      simp only[bne_iff_ne,ne_eq] at h'
      simp[h'] at hb
     |_=>cases hb
    ·have:=ih h
     rw[Ü,Ü];omega
 unfold Ä6
 dsimp only
 split
 ·rfl
 ·split
  ·rfl
  ·have:=hl ((ts.head?.map (·.pos.line)).getD 0) ts h
   rw[if_pos]
   simp only[Å6,bne_iff_ne,ne_eq]
   §.inl (Ø this)
÷w92{x y:Str}{a b:Ò}{px py pt pt2:Pos}{k k2:Nat}{env:È7}(hb:env.blockKind=.function)(hx:env.kindOf x=some .local)(hy:env.kindOf y=some .local)(hxy:(x == y)=false)(hl:(py.line == px.line)=true)
  (ha:noStar a=true) (hb':noStar b=true) (hf:[a,b].all (Û8 8)=false) (hc:[a,b].all (constantsAlone 8)=false) :
  Ä6 [.Tuple [.Name x px,.Name y py] k pt] (.Tuple [a,b] k2 pt2) env=pure (some [x,y]):=by
 have hbk:(env.blockKind != .function)=false:=by rw[hb];rfl
 have e1:(x == x)=true:=beq_self_eq_true x
 have hyx:(y == x)=false:=by
  cases h:y == x with
  |false=>rfl
  |true=>rw[beq_iff_eq] at h;subst h;rw[e1] at hxy;cases hxy
 have hl2:(Ò.Name x px).pos.line=px.line:=rfl
 have hl3:(Ò.Name y py).pos.line=py.line:=rfl
 have hl':py.line=px.line:=by simpa using hl
 unfold Ä6
 simp only[List.filterMap,List.head?,Î4,Option.getD,hx,hy,hf,hc,hbk,hl2,hl']
 simp[List.eraseDups,List.eraseDupsBy,List.eraseDupsBy.loop,hyx,hxy]
 intro h
 rcases h with h | h
 ·cases a <;> first | (cases h;done) | (cases ha;done)
 ·cases b <;> first | (cases h;done) | (cases hb';done)
def U50:Ò->Bool
 |.ListComp ..=>false
 |.SetComp ..=>false
 |.DictComp ..=>false
 |_=>true
÷u50(h:U50 v=true)(t:Option Ò):Ô9 v t n env=pure false:=by
 cases v <;> first | rfl | (cases h;done)
÷U60(h:(match tg with | .Name ..=>true | _=>false)=false):Ô9 v (some tg) n env=pure false:=by
 cases v <;> first | rfl | (cases tg <;> first | rfl | (cases h;done))
÷Q01{el:Ò}{gs:List Comprehension}{sc:ý}{p px:Pos}{t:Str}{n:Nat}{env:È7}:∃ b,Ô9 (.ListComp el gs sc p) (some (.Name t px)) n env=pure b:=⟨_,rfl⟩
structure XS(lm:Bool)(X:Cx)(G:Gs)(E:XK)(N:List Str)(sc:Scope)(cn:List Str):Prop extends XI lm X G E N sc where
 sco:X.env.scope=sc
 fnk:sc.kind=.function
 own:PassesOwn (model X.prog X.w) X.A X.env X.xe
 can:L10 X E
 fnx:∀ x,X.fn x=true
 cls:∀ c x,cn[c]?=some x->X.mg x=some (.ref (G.cls c))/\PySem.W.excIn X.K (G.cls c) [.type "ValueError",.type "Exception",.type "BaseException",.type "object"] "ValueError.__new__"=true
def U70(sc:ý)(x:Str):Bool:=sc.names.lookup x == some .local || sc.names.lookup x == some .cell
section
variable {lm:Bool}{X:Cx}{G:Gs}{E:XK}{N:List Str}{sc:ý}{cn:List Str}{H0:Hp}{zE:Option Ç}
÷XS.loc(x:XS lm X G E N sc cn):P11 X N (U70 sc):=by
 ¤⟨x.hN,x.nd,λy h=>?_,λy _=>.inl (x.fnx y),x.calm⟩
 unfold U70 at h
 rw[Å6,beq_iff_eq,beq_iff_eq] at h
 rw[x.sco];§h
÷XS.bk(x:XS lm X G E N sc cn):X.env.blockKind=.function:=by
 unfold Env.blockKind
 rw[x.sco,x.fnk];rfl
÷PS.imp{st:Å1}{t t':TS}(h:PS X st t)(i:∀ D σ H,t' D σ H->t D σ H):PS X st t':=λpins s σ H D I q=>h pins s σ H D I (i _ _ _ q)
÷PSs.imp{st:List Å1}{t t':TS}(h:PSs X st t)(i:∀ D σ H,t' D σ H->t D σ H):PSs X st t':=λpins s σ H D I q=>h pins s σ H D I (i _ _ _ q)
÷L12:PSs X [] (tX X.K G E H0 zE .nil):=PSs.imp q91 λD σ H q=>by
 ¶⟨zA,ow,ρ,z,r,rw,st,e,po⟩:=q
 cases e
 §po zA ow σ H rw st (a30.refl _)
÷L22{s r:Sm}{st:Å1}{rest:List Å1}(h1:PS X st (tX X.K G E H0 zE s))(h2:PSs X rest (tX X.K G E H0 zE r)):PSs X (st::rest) (tX X.K G E H0 zE (.seq s r)):=PSs.imp (j60 h1 h2) λD σ H q=>by
 ¶⟨zA,ow,ρ,z,rr,rw,st,e,po⟩:=q
 have e0:M.bind (ex G.F zE.isNone s ρ) (λo=>match o with | .nx ρ=>ex G.F zE.isNone r ρ | .rt s=>M.ret (.rt s)) z=some rr:=e
 rcases M.bind_some e0 with ⟨o,z1,e1,e2⟩ | ⟨c,z1,e1,e2⟩
 ·¤⟨zA,ow,ρ,z,_,rw,st,e1,?_⟩
  cases o with
  |nx ρ1=>§λzA' ow' σ' H' rw' st' sm=>⟨zA',ow',ρ1,z1,rr,rw',st',e2,po.mono sm⟩
  |rt s=>cases e2;§po
 ·subst e2
  §⟨zA,ow,ρ,z,_,rw,st,e1,po⟩
÷W11{p:Pat}{e:Ex}{D:Ends}{σ:L2.St}{H:Hp}(q:tX X.K G E H0 zE (.set p e) D σ H):n52 (tI X.K G E e) (gP X.K p) D σ H:=by
 ¶⟨zA,ow,ρ,z,rr,rw,st,ee,po⟩:=q
 ¤j40 rw.P60 st ee (po.ers rw) λl z1 e1=>?_
 ¶⟨s,hs,e2⟩:=M.a10 e1
 ¤⟨s,D30 hs,λv H1 x1 st1 rv=>?_⟩
 ¶⟨ρ',hb,e3⟩:=M.a10 e2
 cases e3
 §P91 rw x1 rv hb λow' σ' r' sm=>po zA ow' σ' H1 r' st1 sm
÷X02{K:Â}{i:Nat}:gP K (.v i)=Y30 i:=by unfold gP;rfl
÷L32(x:XS lm X G E N sc cn){i:Nat}{e:Ex}{y:Str}{v:Ò}{px pos:Pos}(hi:N[i]?=some y)(hl:U70 sc y=true)(g:b00 X G E e v)
  (hc:∀ elt gs csc q,v=.ListComp elt gs csc q->∃ tg Ä0 ifs,gs=[⟨tg,Ä0,ifs,0⟩]/\H30 X G E e elt tg Ä0 ifs csc) (hno:∀ a b c d,v≠.SetComp a b c d) (hnd:∀ a b c d f,v≠.DictComp a b c d f) :
  PS X (.Assign [.Name y px] v pos) (tX X.K G E H0 zE (.set (.v i) e)):=by
 have L:=x.loc
 ¤PS.imp (t:=n52 (tI X.K G E e) (Y30 i)) ?_ λD σ H q=>by rw[← X02 (K:=X.K)];§W11 q
 have h1:X.N.Nodup:=by rw[x.hN];§x.nd
 have h2:X.N[i]?=some y:=by rw[x.hN];§hi
 by_cases hv:∃ elt gs csc q,v=.ListComp elt gs csc q
 ·¶⟨elt,gs,csc,q,rfl⟩:=hv
  ¶⟨b,hb⟩:=Q01 (el:=elt) (gs:=gs) (sc:=csc) (p:=q) (px:=px) (t:=y) (n:=pos.line) (env:=X.env)
  cases b with
  |false=>§x70 h1 h2 (L.lc y hl) g.pe hb (L.fn y hl)
  |true =>
   ¶⟨tg,Ä0,ifs,rfl,own,capt,wi,gg,tt,te,k1,k2,k3,k4,k5,k6,k7⟩:=hc elt gs csc q rfl
   ¤PS.imp (a22 h1 h2 (L.lc y hl) hb x.calm k1 k2 k3 k4 k5 k6 (L.fn y hl)) λD σ H q=>k7 _ _ _ q
 ·§x70 h1 h2 (L.lc y hl) g.pe (u50 (by cases v <;> first | rfl | §absurd rfl (hno _ _ _ _) | §absurd rfl (hnd _ _ _ _ _) | §absurd ⟨_,_,_,_,rfl⟩ hv) _) (L.fn y hl)
÷A51(x:XS lm X G E N sc cn){p:Pat}{e:Ex}{tg v:Ò}{pos:Pos}(hp:j50 N (U70 sc) p tg=true)(g:b00 X G E e v)(ht:n30 tg=true)(hv:Ä6 [tg] v X.env=pure none) :
  PS X (.Assign [tg] v pos) (tX X.K G E H0 zE (.set p e)):=by
 ¤PS.imp (T11 g.pe (y51 x.loc hp) ?_ hv ?_) λD σ H q=>W11 q
 ·§U60 (by cases tg <;> first | rfl | (cases ht;done))
 ·cases tg <;> first | rfl | (cases ht;done)
÷L42(x:XS lm X G E N sc cn){i j:Nat}{ea eb:Ex}{a b:Ò}{y w:Str}{px py pt pt2 pos:Pos}{k k2:Nat}(hi:N[i]?=some y)(hj:N[j]?=some w)(hyw:(y == w)=false)(hy:sc.names.lookup y=some .local)(hw':sc.names.lookup w=some .local)
  (g:Good X G E (.cons ea (.cons eb .nil)) [a,b]) (hs:Ä6 [.Tuple [.Name y px,.Name w py] k pt] (.Tuple [a,b] k2 pt2) X.env=pure (some [y,w])) :
  PS X (.Assign [.Tuple [.Name y px,.Name w py] k pt] (.Tuple [a,b] k2 pt2) pos) (tX X.K G E H0 zE (.set (.tup (.cons (.v i) (.cons (.v j) .nil))) (.tup (.cons ea (.cons eb .nil))))):=by
 have hij:i≠j:=λh=>by
  subst h
  rw[hi] at hj;cases hj
  rw[beq_self_eq_true] at hyw;cases hyw
 ¤PS.imp (n62 x.calm (by rw[x.hN];§x.nd) (by rw[x.hN];§hi) (by rw[x.hN];§hj) hij (by rw[x.sco];§hy) (by rw[x.sco];§hw') (g.args rfl).1 hs rfl) λD σ H q=>?_
 ¶⟨zA,ow,ρ,z,rr,rw,st,ee,po⟩:=q
 have e0:M.bind (M.bind (ev G.F (.cons ea (.cons eb .nil)) ρ) λl=>M.bind (M.of (plA l)) λds=>if ds.length<=most then M.ret [S.d (.tup ds)] else M.no) (λl=>M.bind (M.of (one l)) λs=>M.bind (M.of (T00 (.tup (.cons (.v i) (.cons (.v j) .nil))) s (l00 s ρ))) λρ=>M.ret (O.nx ρ)) z=some rr:=ee
 rcases M.bind_some e0 with ⟨l0,z0,e1,e2⟩ | ⟨c,z1,e1,e2⟩
 ·rcases M.bind_some e1 with ⟨l,z1,e3,e4⟩ | ⟨c,z1,e3,e4⟩
  ·¶⟨ds,hds,e5⟩:=M.a10 e4
   split at e5
   ·cases e5
    ¶⟨s,hs',e6⟩:=M.a10 e2
    cases hs'
    ¶⟨ρ',hb,e7⟩:=M.a10 e6
    cases e7
    ¤⟨zA,ρ,z,_,rw.P60,st,e3,λvs H1 x1 st1 rvs=>?_⟩
    have hd:=G30 rvs hds
    ¶⟨owk,r1,s1,b1⟩:=A31 rw (.d (.tup ds))
    have hb':bindL (.cons (.v i) (.cons (.v j) .nil)) ds (l00 (.d (.tup ds)) ρ)=some ρ':=by
     have:f20 (.tup (.cons (.v i) (.cons (.v j) .nil))) (.tup ds) (l00 (.d (.tup ds)) ρ)=some ρ':=hb
     unfold f20 at this;§this
    have r2:=r1.mono x1
    have hd2:HdA X.K (hw owk (hz zA H1)) ds vs:=by
     rcases b1 with b1 | b1
     ·§A40 r2.g72 (by simpa [S70,bare] using b1) hd
     ·have:owk=λ_=>none:=funext b1
      subst this
      rw[w60];§hd
    have:=A21 hb' (R:=D.nx) r2 hd2 λow' σ' r' sm=>po zA ow' σ' H1 r' st1 (a30.trans s1 (a30.trans (d10 x1) sm))
    unfold gL at this
    ¶⟨v,vr,rfl,this⟩:=this
    unfold gP gL at this
    ¶⟨u,ur,rfl,this⟩:=this
    unfold gP gL at this
    ¶⟨rfl,this⟩:=this
    §⟨v,u,rfl,this⟩
   ·cases e5
  ·cases e4
 ·subst e2
  rcases M.bind_some e1 with ⟨l,z2,e3,e4⟩ | ⟨c,z2,e3,e4⟩
  ·¶⟨ds,hds,e5⟩:=M.a10 e4
   split at e5 <;> cases e5
  ·cases e4
   §⟨zA,ρ,z,_,rw.P60,st,e3,po.er_ rw⟩
÷W21{s t:S}(h:noS s=some t):s=t/\t≠.z:=by
 cases s with
 |z=>cases h
 |d _=>cases h;§⟨rfl,λh=>nomatch h⟩
 |fr _=>cases h;§⟨rfl,λh=>nomatch h⟩
÷x02(x:XS lm X G E N sc cn){i:Nat}{n:Str}{p pos:Pos}(h1:N[i]?=some n)(h2:d00 n=true):PS X (.Return (some (.Name n p)) pos) (tX X.K G E H0 zE (.ret (.var i))):=by
 unfold d00 at h2
 simp only[Á,À0] at h2
 ¤PS.imp (e31 (n70 (i:=i) (by rw[x.hN];§h1) (x.vis n (é h1)) h2.1 h2.2)) λD σ H q=>?_
 ¶⟨zA,ow,ρ,z,rr,rw,st,ee,po⟩:=q
 have e0:(match ρ[i]? with | some (some s)=>M.bind (M.of (noS s)) λs=>M.ret (O.rt s) | _=>M.no) z=some rr:=ee
 cases hs:ρ[i]? with
 |none=>rw[hs] at e0;cases e0
 |some o =>
  cases o with
  |none=>rw[hs] at e0;cases e0
  |some s =>
   rw[hs] at e0
   ¶⟨t,ht,e1⟩:=M.a10 e0
   cases e1
   ¶⟨rfl,nz⟩:=W21 ht
   ¶⟨v,k1,k2⟩:=rw.W62 nz hs
   §⟨v,k1,po v H nz rw.ext (l52 rw.zok st) k2⟩
÷L52{e:Ex}{v:Ò}{pos:Pos}(hv:∀ i,e≠.var i)(g:b00 X G E e v):PS X (.Return (some v) pos) (tX X.K G E H0 zE (.ret e)):=by
 ¤PS.imp (e31 g.pe) λD σ H q=>?_
 ¶⟨zA,ow,ρ,z,rr,rw,st,ee,po⟩:=q
 have e0:M.bind (ev G.F e ρ) (λl=>M.bind (M.of ((one l).bind noS)) λs=>M.ret (O.rt s)) z=some rr:=by
  cases e <;> first | §ee | §absurd rfl (hv _)
 ¤j40 rw.P60 st e0 (po.ers rw) λl z1 e1=>?_
 ¶⟨t,ht,e2⟩:=M.a10 e1
 cases e2
 ¶⟨s,hs,hn⟩:=Î.mp ht
 ¶⟨rfl,nz⟩:=W21 hn
 §⟨s,D30 hs,λv H1 x1 st1 rv=>po v H1 nz (A11 rw.ext rw.zok x1) (l52 rw.zok st1) (rw.out nz x1 rv)⟩
÷X12{c:Ex}{t u:Sm}{ce:Ò}{a b:List Å1}{pos:Pos}(g:b00 X G E c ce)(hn:∀ t a b p,ce≠.IfExp t a b p)(ha:PSs X a (tX X.K G E H0 zE t))(hb:PSs X b (tX X.K G E H0 zE u)) :
  PS X (.If ce a b pos) (tX X.K G E H0 zE (.iff c t u)):=by
 ¤PS.imp (n12 (g.pt hn) ha hb) λD σ H q=>?_
 ¶⟨zA,ow,ρ,z,rr,rw,st,ee,po⟩:=q
 ¤T80 rw.P60 st ee (po.ers rw) λb z1 e1 H1 x1 st1=>?_
 have r1:=rw.mono x1
 have sm:a30 (hw ow (hz zA H)) (hw ow (hz zA H1)):=d10 x1
 cases b with
 |true=>§⟨zA,ow,ρ,z1,rr,r1,st1,e1,po.mono sm⟩
 |false=>§⟨zA,ow,ρ,z1,rr,r1,st1,e1,po.mono sm⟩
÷L62{e:Ex}{v:Ò}{pos:Pos}(g:b00 X G E e v)(h:U50 v=true):PS X (.Expr v pos) (tX X.K G E H0 zE (.exp e)):=by
 ¤PS.imp (Y20 g.pe (u50 h none)) λD σ H q=>?_
 ¶⟨zA,ow,ρ,z,rr,rw,st,ee,po⟩:=q
 have e0:M.bind (ev G.F e ρ) (λl=>M.bind (M.of (one l)) λ_=>M.ret (O.nx ρ)) z=some rr:=ee
 ¤j40 rw.P60 st e0 (po.ers rw) λl z1 e1=>?_
 ¶⟨s,hs,e2⟩:=M.a10 e1
 cases e2
 §⟨s,D30 hs,λv H1 x1 st1 rv=>po zA ow σ H1 (rw.mono x1) st1 (d10 x1)⟩
÷h32(h:asI d=some i):d=.int i:=by cases d <;> first | (cases h;rfl) | (cases h;done)
÷x_raise(x:XS lm X G E N sc cn){c:Nat}{n:Str}{y:Str}{k:Nat}{p1 p2 p3 p4:Pos}(hc:cn[c]?=some n)(hg:glob sc n=true):PS X (.Raise (some (.Call (.Name n p1) [.Constant (.str y) k p2] [] p3)) none p4) (tX X.K G E H0 zE (.rais c)):=by
 ¶⟨k1,k2,_⟩:=d70 hg
 ¶⟨m1,m2⟩:=x.cls c n hc
 ¤PS.imp (L91 x.can x.calm (x.glb n k1) m1 m2 (e60 S91 r00) k2 rfl rfl) λD σ H q=>?_
 ¶⟨zA,ow,ρ,z,rr,rw,st,ee,po⟩:=q
 cases ee
 §⟨by show 1<=Û;decide,λe hn=>po e H rw.ext (l52 rw.zok st) hn⟩
end
section
variable {K:Â}{H0 H H':Hp}{zE zA:Option Ç}{ow:Nat->Option Ç}{ρ:Env}{σ:L2.St}
÷h00(e:ow0 ow i j=some a):j≠i/\ow j=some a:=by
 unfold ow0 at e
 split at e
 ·cases e
 ·rename_i n;§⟨n,e⟩
÷A60:ow0 ow i i=none:=if_pos rfl
÷A61(h:j≠i):ow0 ow i j=ow j:=if_neg h
÷Q11{ρ:Env}{j:Nat}{s:S}(h:(S60 ρ)[j]?=some (some s)):ρ[j]?=some (some s)/\s≠.z:=by
 unfold S60 at h
 rw[Ý] at h
 ¶⟨o,e1,e2⟩:=Ê.mp h
 cases o with
 |none=>cases e2
 |some t =>
  cases t with
  |z=>cases e2
  |d x=>cases e2;§⟨e1,λh=>nomatch h⟩
  |fr x=>cases e2;§⟨e1,λh=>nomatch h⟩
÷h42{j:Nat}(h:ρ[j]?=some (some (.fr xs))):(S60 ρ)[j]?=some (some (.fr xs)):=by
 unfold S60
 rw[Ý,h];rfl
÷RW.X22(r:RW K H0 none zA ow H ρ σ){i:Nat}(x:Ext zA H H')(hn:H a=none)(za:zA≠some a)(hl:H' a=some (.lst ys)) :
  RW K H0 none (some a) (ow0 ow i) H' ((S60 ρ).set i (some .z)) (σ.set i (some (.ref a)))/\a30 (hw ow (hz zA H)) (hw (ow0 ow i) (hz (some a) H')):=by
 have r':=r.mono x
 have old:∀ j b,ow j=some b->b≠a:=λj b e q=>by
  ¶⟨zs,h1⟩:=r.lst j b e
  rw[q,hn] at h1;cases h1
 have sm:a30 (hw ow (hz zA H)) (hw (ow0 ow i) (hz (some a) H')):=λb o e=>by
  ¶⟨e1,e2⟩:=D60 e
  have hb:b≠a:=λq=>by
   have e3:H b=some o:=(q60 e1).1
   rw[q,hn] at e3;cases e3
  §i90 (e10 (q60 (x b o e1)).1 (λq=>by cases q;§hb rfl) (r40 e1)) λj q=>e2 j (h00 q).2
 have dl:(S60 ρ).length=ρ.length:=by unfold S60;rw[É]
 ¤⟨⟨by rw[Ä1,Ä1,dl];§r.len,λj k b h1 h2=>r.inj j k b (h00 h1).2 (h00 h2).2,λj b h1 q=>?_,λj b h1=>?_,λj s e=>?_,r'.ext,.inr ⟨rfl,λb q=>?_⟩,λj b h1=>r.new j b (h00 h1).2⟩,sm⟩
 ·cases q
  §old j _ (h00 h1).2 rfl
 ·¶⟨n,h2⟩:=h00 h1
  ¶⟨xs,h3⟩:=r.own j b h2
  §⟨xs,by rw[ê (Â3 n)];§h42 h3⟩
 ·rcases getElem?_set' e with ⟨rfl,e1,hlt⟩ | ⟨n,e1⟩
  ·cases e1
   §⟨.ref a,ð (by rw[← r.len,← dl];§hlt),A60,a,rfl,rfl⟩
  ·¶⟨e1,nz⟩:=Q11 e1
   ¶⟨w,h1,h2⟩:=r.wor j s e1
   ¤⟨w,by rw[ê (Â3 n)];§h1,?_⟩
   cases s with
   |d y=>§⟨by rw[A61 n];§h2.1,h2.2.same sm⟩
   |z=>§absurd rfl nz
   |fr xs =>
    ¶⟨b,zs,k1,rfl,k3,k4⟩:=h2
    §⟨b,zs,by rw[A61 n];§k1,rfl,x.at k3 (r.zne j b k1),k4.same sm⟩
 ·cases q
  §(r.young hn za).1
÷RW.plain(r:RW K H0 zE zA ow H ρ σ)(i:Nat):RW K H0 zE zA (ow0 ow i) H (ρ.set i ((ρ[i]?.getD none).map plS)) σ:=by
 have sm:=A50 (H:=hz zA H) ow i
 ¤⟨by rw[Ä1];§r.len,λj k b h1 h2=>r.inj j k b (h00 h1).2 (h00 h2).2,λj b h1=>r.zne j b (h00 h1).2,λj b h1=>?_,λj s e=>?_,r.ext,r.zok,λj b h1=>r.new j b (h00 h1).2⟩
 ·¶⟨n,h2⟩:=h00 h1
  ¶⟨xs,h3⟩:=r.own j b h2
  §⟨xs,by rw[ê (Â3 n)];§h3⟩
 ·rcases getElem?_set' e with ⟨rfl,e1,hlt⟩ | ⟨n,e1⟩
  ·cases hs:ρ[j]? with
   |none=>rw[hs] at e1;cases e1
   |some o =>
    rw[hs] at e1
    cases o with
    |none=>cases e1
    |some s0 =>
     cases e1
     ¶⟨w,h1,h2⟩:=r.wor j s0 hs
     ¤⟨w,h1,?_⟩
     cases s0 with
     |d y=>§⟨A60,h2.2.same sm⟩
     |z=>§⟨A60,h2.2⟩
     |fr xs =>
      ¶⟨b,zs,k1,rfl,k3,k4⟩:=h2
      ¤⟨A60,Hd.lst (i90 (e10 k3 (r.zne j b k1)) λk q=>?_) (k4.same sm)⟩
      ¶⟨q1,q2⟩:=h00 q
      §q1 (r.inj k j b q2 k1)
  ·¶⟨w,h1,h2⟩:=r.wor j s e1
   §⟨w,h1,h2.move (A61 n) sm λ_ _=>rfl⟩
end
÷HdA.eraseIdx{K:Â}{H:Hp}:∀ {ds:List D}{vs:List V} (n:Nat),HdA K H ds vs->HdA K H (ds.eraseIdx n) (vs.eraseIdx n)
 |[],_,n,h=>by rw[h.f30];§.nil
 |d::ds,_,0,h=>by
  ¶⟨x,r,rfl,h1,h2⟩:=h.c40
  §h2
 |d::ds,_,n + 1,h=>by
  ¶⟨x,r,rfl,h1,h2⟩:=h.c40
  §.cons h1 (HdA.eraseIdx n h2)
section
variable {lm:Bool}{X:Cx}{G:Gs}{E:XK}{N:List Str}{sc:ý}{cn:List Str}{H0:Hp}{zE:Option Ç}
÷A71{α β:Type}{R:α->β->Prop}{a:α}{vs:List β}(h:Æ0 R [a] vs):∃ v,vs=[v]/\R a v:=by
 cases h with
 |cons h1 h2=>cases h2;§⟨_,rfl,h1⟩
÷e40.a60(st:e40 zA z H)(n:zA≠some a)(h:H a=some (.lst xs)):e40 zA z (upd H a o):=by
 ¤⟨?_,λp hp=>Tab.upd (st.tab p hp) h⟩
 have st:=st.zat
 cases zA with
 |none=>cases z <;> §st
 |some b =>
  cases z with
  |none=>§st
  |some p =>
   have hb:b≠a:=λq=>n (by rw[q])
   §(L2.a60 hb).trans st
÷h91(h:ownAt ρ i=some xs):ρ[i]?=some (some (.fr xs)):=by
 unfold ownAt at h
 split at h
 ·rename_i h1;cases h;§h1
 ·cases h
÷A81{K:Â}{zA:Option Ç}{H0 H:Hp}{s:S}{v:V}{x:D}(h:RvS K zA H0 H s v)(e:plD s=some x):Hd K (hz zA H) x v:=h.pl.d_ e
÷L72(x:XS lm X G E N sc cn){i:Nat}{n:Str}{e:Ex}{v:Ò}{p apos cpos pos:Pos}(h1:N[i]?=some n)(h2:d00 n=true)(ns:noStar v=true)(g:b00 X G E e v)(hl:(apos.endLine == cpos.line)=true) :
  PS X (.Expr (.Call (.Attribute (.Name n p) "append" apos) [v] [] cpos) pos) (tX X.K G E H0 zE (.app i e)):=by
 unfold d00 at h2
 simp only[Á,À0] at h2
 have ga:Good X G E (.cons e .nil) [v]:=⟨v,[],rfl,ns,g,rfl,rfl⟩
 have hs:=c80 ns [] X.env
 ¤PS.imp (Y20 (Z81 Ð8 Ý8 Ý7 R40 (n70 (i:=i) (by rw[x.hN];§h1) (x.vis n (é h1)) h2.1 h2.2) (ga.args rfl).1 rfl (by rw[hs];rfl) hl hs rfl) (u50 rfl none)) λD σ H q=>?_
 ¶⟨zA,ow,ρ,z,rr,rw,st,ee,po⟩:=q
 ¶⟨xs,hx,e1⟩:=M.a10 ee
 have ho:=h91 hx
 ¶⟨w,k1,a,ys,k2,rfl,k3,k4⟩:=rw.wor i _ ho
 ¤⟨_,k1,.inl ⟨rfl,ys,SqL.of k3⟩,?_⟩
 have e2:M.bind (ev G.F (.cons e .nil) ρ) (λm=>M.bind (M.of (pl m)) λx=>if bare x=true/\xs.length < most then M.ret (O.nx (ρ.set i (some (.fr (xs++[x]))))) else M.no) z=some rr∨∃ c z1,ev G.F e ρ z=some (.er c z1)/\rr=.er c z1:=by
  rcases M.bind_some e1 with ⟨l,z1,e3,e4⟩ | ⟨c,z1,e3,e4⟩
  ·¶⟨y,hy,e5⟩:=M.a10 e4
   ¶⟨s,rfl,hs⟩:=f40 hy
   ¤.inl ?_
   show M.bind (M.bind (ev G.F e ρ) λx=>M.bind (M.of (one x)) λs=>M.bind (ev G.F .nil ρ) λy=>M.ret (s::y)) _ z=some rr
   simp only[M.bind,e3,M.of,one,M.ret,ev,hy]
   §e5
  ·§.inr ⟨c,z1,e3,e4⟩
 rcases e2 with e2 | ⟨c,z1,e3,rfl⟩
 ·¤b21 rw.P60 st e2 (po.ers rw) λl z1 e3 vs H1 x1 st1 rvs=>?_
  ¶⟨y,hy,e5⟩:=M.a10 e3
  ¶⟨s,rfl,hs⟩:=f40 hy
  split at e5
  ·rename_i hb
   cases e5
   ¶⟨u,rfl,ru⟩:=A71 rvs
   have r1:=rw.mono x1
   have k3':=x1.at k3 (rw.zne i a k2)
   have k4':HdA X.K (hw ow (hz zA H1)) xs ys:=k4.same (d10 x1)
   have hd:=M60 r1.g72 hb.1 (A81 ru hs)
   ¤⟨a,ys,u,rfl,rfl,k3',Ù (by rw[k4.length];§hb.2) (f50 (Í _)),?_⟩
   ¤po zA ow σ _ (r1.upd k2 (k4'.append (.cons hd .nil))) ?_ (a30.trans (d10 x1) (M70 k2))
   §st1.a60 (rw.zne i a k2) k3'
  ·cases e5
 ·¤⟨zA,ρ,z,.er c z1,rw.P60,st,?_,po.er_ rw⟩
  show M.bind (ev G.F e ρ) _ z=_
  simp only[M.bind,e3]
÷Q21:O42 X (F32 X.K):=by
 intro pins s σ H x y v u Q I rx ry h
 ¶⟨p,xs,i,z,rfl,rfl,hq,he,q⟩:=h
 cases rx
 ¶⟨t,rfl⟩:=ry
 ¶⟨its,r,pl,hz⟩:=I.list hq
 ¶⟨j,h1,h2,h3,h4,h5⟩:=Y60 he
 ¶⟨w,ew,rw'⟩:=r.get h2
 have hl:=r.length
 have hn:=Q20
 by_cases h0:0<=i
 ·have hj:i.toNat=j:=by
   rw[Ø9 h0 h5] at h1
   §À6 h1
  §wpAny_getItem_list pl.isList h0 (by omega) (by rw[hj];simpa using ew) ⟨z,H,I,rw',q⟩
 ·have hj:(i + (its.toArray.size:Int)).toNat=j:=by
   rw[seqIndex_neg (by omega) h4] at h1
   rw[Ó,← hl]
   §À6 h1
  §wpAny_getItem_list_neg pl.isList (by omega) (by rw[Ó] <;> omega) (by omega) (by rw[hj];simpa using ew) ⟨z,H,I,rw',q⟩
÷x12(x:XS lm X G E N sc cn){i:Nat}{n:Str}{e ix:Ex}{v w:Ò}{p tp pos:Pos}(h1:N[i]?=some n)(h2:d00 n=true)(g:b00 X G E e v)(gi:b00 X G E ix w)(hw':D40 w=true) :
  PS X (.AugAssign (.Subscript (.Name n p) w tp) .Add v pos) (tX X.K G E H0 zE (.augi i ix e)):=by
 unfold d00 at h2
 simp only[Á,À0] at h2
 ¤PS.imp (Y61 (n70 (i:=i) (by rw[x.hN];§h1) (x.vis n (é h1)) h2.1 h2.2) gi.pe Q21 g.pe n72 set_list (by intros;cases w <;> first | rfl | (cases hw';done))) λD σ H q=>?_
 ¶⟨zA,ow,ρ,z,rr,rw,st,ee,po⟩:=q
 ¶⟨xs,hx,e1⟩:=M.a10 ee
 ¶⟨w',k1,a,ys,k2,rfl,k3,k4⟩:=rw.wor i _ (h91 hx)
 ¤⟨_,k1,?_⟩
 ¤j40 rw.P60 st e1 (po.ers rw) λl z1 e2=>?_
 ¶⟨j,hj,e3⟩:=M.a10 e2
 ¶⟨dj,hj1,hj2⟩:=Î.mp hj
 ¶⟨s1,rfl,hs1⟩:=f40 hj1
 ¤⟨s1,rfl,λu1 H1 x1 st1 rv1=>?_⟩
 have hdj:u1=.int j:=by
  have:=A81 rv1 hs1
  cases h32 hj2;§this.i20
 ¶⟨y,hy,e4⟩:=M.a10 e3
 have r1:=rw.mono x1
 have k3':=x1.at k3 (rw.zne i a k2)
 have k4a:HdA X.K (hw ow (hz zA H1)) xs ys:=k4.same (d10 x1)
 ¶⟨b,hb1,hb2⟩:=at_of k4a hy
 ¤⟨a,ys,j,b,rfl,hdj,SqL.of k3',hb1,?_⟩
 ¤j40 r1.P60 st1 e4 (po.ers r1) λl2 z2 e5=>?_
 ¶⟨dx,hx',e6⟩:=M.a10 e5
 ¶⟨s2,rfl,hs2⟩:=f40 hx'
 ¤⟨s2,rfl,λu2 H2 x2 st2 rv2=>?_⟩
 ¶⟨nv,hv,e7⟩:=M.a10 e6
 ¶⟨xi,hxi,hv⟩:=Î.mp hv
 ¶⟨yi,hyi,rfl⟩:=Ê.mp hv
 cases h32 hxi
 cases h32 hyi
 ¤⟨yi,xi,hb2.i20,(A81 rv2 hs2).i20,?_⟩
 ¶⟨xs2,hx2,e8⟩:=M.a10 e7
 cases e8
 unfold H00 at hx2
 ¶⟨m,hm1,rfl⟩:=Ê.mp hx2
 have r2:=r1.mono x2
 have k4':HdA X.K (hw ow (hz zA H2)) xs ys:=k4.same (d10 (x1.trans x2))
 ¤⟨a,ys,j,m,rfl,hdj,x2.at k3' (rw.zne i a k2),by rw[k4.length];§hm1,?_⟩
 §po zA ow σ _ (r2.upd k2 (k4'.set m Hd.int)) (st2.a60 (rw.zne i a k2) (x2.at k3' (rw.zne i a k2))) (a30.trans (d10 (x1.trans x2)) (M70 k2))
÷x22(x:XS lm X G E N sc cn){i f:Nat}{as:Ex}{y:Str}{v:Ò}{px pos:Pos}(hi:N[i]?=some y)(hl:U70 sc y=true)(g:b00 X G E (.call f as) v)(hv:U50 v=true) :
  PS X (.Assign [.Name y px] v pos) (tX X.K G E H0 zE (.newz i f as)):=by
 have L:=x.loc
 ¤PS.imp (x70 (i:=i) (by rw[x.hN];§x.nd) (by rw[x.hN];§hi) (L.lc y hl) g.pe (u50 hv _) (L.fn y hl)) λD σ H q=>?_
 ¶⟨zA,ow,ρ,z,rr,rw,st,ee,po⟩:=q
 ¤j40 rw.P60 st ee (po.ers rw) λl z1 e1=>?_
 have e2:w61 zE.isNone ρ i l=some rr:=e1
 unfold w61 at e2
 split at e2
 ·split at e2
  ·rename_i m b hz'
   cases e2
   have zn:zE=none:=by
    cases zE with
    |none=>rfl
    |some _=>cases hz'
   subst zn
   ¤⟨_,rfl,λu H1 x1 st1 rv=>?_⟩
   ¶⟨a,ys,rfl,k1,k2,k3,k4⟩:=rv
   ¶⟨v1,v2,rfl,h3,h4⟩:=k4.two
   cases h3.i20;cases h4.bl_
   ¶⟨r1,sm⟩:=rw.X22 (i:=i) x1 k1 k2 k3
   §po (some a) _ _ H1 r1 ⟨k3,st1.tab⟩ sm
  ·cases e2
 ·cases e2
÷x32(x:XS lm X G E N sc cn){i:Nat}{n:Str}{e:Ex}{v:Ò}{c:Nat}{p q tp pos:Pos}(h1:N[i]?=some n)(h2:d00 n=true)(g:b00 X G E e v) :
  PS X (.Assign [.Subscript (.Name n p) (.Constant (.int 0) c q) tp] v pos) (tX X.K G E H0 zE (.zset i e)):=by
 unfold d00 at h2
 simp only[Á,À0] at h2
 ¤PS.imp (T11 g.pe (n42 (n70 (i:=i) (by rw[x.hN];§h1) (x.vis n (é h1)) h2.1 h2.2) P80 set_list (by intro u;rfl)) (show Ô9 v (some (.Subscript (.Name n p) (.Constant (.int 0) c q) tp)) pos.line X.env=pure false from U60 rfl) (by cases v <;> rfl)) λD σ H q=>?_
 ¶⟨zA,ow,ρ,z,rr,rw,st,ee,po⟩:=q
 ¤j40 rw.P60 st ee (po.ers rw) λl z1 e1=>?_
 ¶⟨y,hy,e2⟩:=M.a10 e1
 ¶⟨dy,hy1,hy2⟩:=Î.mp hy
 ¶⟨s,rfl,hs⟩:=f40 hy1
 ¤⟨s,rfl,λu H1 x1 st1 rv=>?_⟩
 have e3:w71 ρ y ρ[i]? z1=some rr:=e2
 unfold w71 at e3
 split at e3
 ·rename_i p' hsl
  cases e3
  have r1:=rw.mono x1
  ¶⟨w,k1,k2,a,rfl,rfl⟩:=r1.wor i .z hsl
  have hu:u=.int y:=by
   have:=A81 rv hs
   cases dy <;> first | (cases hy2;§this.i20) | (cases hy2;done)
  subst hu
  have st':H1 a=some (.lst [.int p'.1,.bl p'.2]):=st1.zat
  ¤⟨_,k1,a,[.int p'.1,.bl p'.2],0,0,rfl,rfl,st',rfl,?_⟩
  have x2:Ext (some a) H1 (upd H1 a (.lst [.int y,.bl p'.2])):=by
   ¤⟨λb o h=>?_,λb ps h=>⟨ps,by rw[a60 (λz=>by rw[z,st'] at h;cases h)];§h⟩⟩
   ¶⟨h3,h4⟩:=q60 h
   §e10 (by rw[a60 (λz=>h4 (by rw[z]))];§h3) h4 (r40 h)
  §po (some a) ow σ _ (r1.mono x2) ⟨b20,λp hp=>Tab.upd (st1.tab p hp) st'⟩ (a30.trans (d10 x1.same) (d10 x2.same))
 ·cases e3
÷L82(x:XS lm X G E N sc cn){c:Ex}{b:Sm}{ce:Ò}{body:List Å1}{pos:Pos}(g:b00 X G E c ce)(hn:∀ t a b p,ce≠.IfExp t a b p)(hb:PSs X body (tX X.K G E H0 zE b)):PS X (.While ce body [] pos) (tX X.K G E H0 zE (.whl c b)):=by
 ¤PS.imp (I41 x.own (g.pt hn) hb) λD σ H q=>?_
 ¶⟨zA,ow,ρ,z,rr,rw,st,ee,po⟩:=q
 ¤⟨λm σ H=>∃ zA ow ρ z r,RW X.K H0 zE zA ow H ρ σ/\e40 zA z H/\U71 (ev G.F c) (ex G.F zE.isNone b) m ρ z=some r/\q70 X.K G E H0 zE (hw ow (hz zA H)) D r,⟨l12,zA,ow,ρ,z,rr,rw,st,ee,po⟩,?_⟩
 rintro m σ H ⟨zA,ow,ρ,z,rr,rw,st,ee,po⟩
 cases m with
 |zero=>cases ee
 |succ m =>
  ¤T80 rw.P60 st ee (po.ers rw) λk z1 e1 H1 x1 st1=>?_
  have r1:=rw.mono x1
  have sm:a30 (hw ow (hz zA H)) (hw ow (hz zA H1)):=d10 x1
  cases k with
  |false =>
   cases e1
   §po zA ow σ H1 r1 st1 sm
  |true =>
   rw[if_pos rfl]
   have e2:M.bind (ex G.F zE.isNone b ρ) (λo=>match o with | .nx ρ=>U71 (ev G.F c) (ex G.F zE.isNone b) m ρ | .rt s=>M.ret (.rt s)) z1=some rr:=e1
   ¤⟨λσ' H'=>∃ zA ow ρ z r,RW X.K H0 zE zA ow H' ρ σ'/\e40 zA z H'/\U71 (ev G.F c) (ex G.F zE.isNone b) m ρ z=some r/\q70 X.K G E H0 zE (hw ow (hz zA H')) D r,λσ' H' h=>⟨m,Ë9 m,h⟩,?_⟩
   rcases M.bind_some e2 with ⟨o,z2,e3,e4⟩ | ⟨k,z2,e3,e4⟩
   ·¤⟨zA,ow,ρ,z1,_,r1,st1,e3,?_⟩
    cases o with
    |nx ρ1=>§λzA' ow' σ' H' rw' st' sm'=>⟨zA',ow',ρ1,z2,rr,rw',st',e4,po.mono (a30.trans sm sm')⟩
    |rt s=>cases e4;§po
   ·subst e4
    §⟨zA,ow,ρ,z1,_,r1,st1,e3,po⟩
÷h52{i j:Nat}{e:Ex}{D:Ends}{σ:L2.St}{H:Hp}{zA:Option Ç}{ow:Nat->Option Ç}{ρ:Env}{z:Z}{rr:R O}(rw:RW X.K H0 zE zA ow H ρ σ)(st:e40 zA z H)(ee:r82 G.F i j e ρ z=some rr)(po:q70 X.K G E H0 zE (hw ow (hz zA H)) D rr) :
  n02 (tBM X.K "list" s11 (m42 i) (o72 (tBM X.K "list" T71 (m42 j) (tA X.K G E (.cons e .nil))) O82)) D σ H:=by
 ¶⟨xs,hx,e1⟩:=M.a10 ee
 ¶⟨ys,hy,e1⟩:=M.a10 e1
 have ho:=h91 hx
 have hp:=h91 hy
 ¶⟨w,k1,a,us,k2,rfl,k3,k4⟩:=rw.wor i _ ho
 ¶⟨w',m1,b,ws,m2,rfl,m3,m4⟩:=rw.wor j _ hp
 ¤⟨_,k1,.inl ⟨rfl,us,SqL.of k3⟩,⟨_,m1,.inl ⟨rfl,ws,SqL.of m3⟩,?_⟩⟩
 rcases M.bind_some e1 with ⟨l,z1,e3,e4⟩ | ⟨c,z1,e3,e4⟩
 ·¶⟨k,hk,e5⟩:=M.a10 e4
  ¶⟨dk,hk1,hk2⟩:=Î.mp hk
  ¶⟨s,rfl,hs⟩:=f40 hk1
  ¶⟨o,hv,e6⟩:=M.a10 e5
  cases e6
  ¤⟨zA,ρ,z,.ok [s] z1,rw.P60,st,?_,λvs H1 x1 st1 rvs=>?_⟩
  ·show M.bind (ev G.F e ρ) _ z=_
   simp only[M.bind,e3,M.of,one,M.ret,ev]
  ¶⟨u,rfl,ru⟩:=A71 rvs
  have hu:u=.int k:=by
   have:=A81 ru hs
   cases dk <;> first | (cases hk2;§this.i20) | (cases hk2;done)
  subst hu
  unfold d52 at hv
  split at hv
  ·rename_i hb
   have hkk:=G20.mp hb.2.2.1
   ¶⟨y,hy1,hv⟩:=Î.mp hv
   split at hv
   ·rename_i hby
    cases hv
    have r1:=rw.mono x1
    have m4':HdA X.K (hw ow (hz zA H1)) ys ws:=m4.same (d10 x1)
    have k4':HdA X.K (hw ow (hz zA H1)) xs us:=k4.same (d10 x1)
    ¶⟨yv,g1,g2⟩:=m4'.get hy1
    have hlt:k.toNat < ws.length:=(Þ.mp g1).1
    have hab:a≠b:=λq=>hb.1 (rw.inj i j a k2 (by rw[q];§m2))
    ¤⟨b,ws,k,k.toNat,yv,rfl,rfl,x1.at m3 (rw.zne j b m2),by omega,by omega,?_,g1,?_⟩
    ·have h0:(0:Int)<=k:=hb.2.1
     §Ø9 h0 (by omega)
    ·have r2:=r1.upd m2 (m4'.eraseIdx k.toNat)
     have sm2:=M70 (H:=H1) (zA:=zA) (o:=.lst (ws.eraseIdx k.toNat)) m2
     ¤⟨a,us,yv,rfl,rfl,?_,?_,?_⟩
     ·rw[a60 hab];§x1.at k3 (rw.zne i a k2)
     ·§Ù (by rw[k4.length];§hb.2.2.2) (f50 (Í _))
     ·§po zA ow σ _ (r2.upd k2 ((k4'.same sm2).append (.cons (g2.same sm2) .nil))) ((st1.a60 (rw.zne j b m2) (x1.at m3 (rw.zne j b m2))).a60 (rw.zne i a k2) (by rw[a60 hab];§x1.at k3 (rw.zne i a k2))) (a30.trans (d10 x1) (a30.trans sm2 (M70 k2)))
   ·cases hv
  ·cases hv
 ·subst e4
  ¤⟨zA,ρ,z,.er c z1,rw.P60,st,?_,po.er_ rw⟩
  show M.bind (ev G.F e ρ) _ z=_
  simp only[M.bind,e3]
÷x42(x:XS lm X G E N sc cn){i j:Nat}{n m:Str}{e:Ex}{v:Ò}{p p' apos cpos apos' cpos' pos:Pos}(h1:N[i]?=some n)(h2:d00 n=true)(h3:N[j]?=some m)(h4:d00 m=true)(ns:noStar v=true)(g:b00 X G E e v)(hl:(apos.endLine == cpos.line)=true)(hl':(apos'.endLine == cpos'.line)=true) :
  PS X (.Expr (.Call (.Attribute (.Name n p) "append" apos) [.Call (.Attribute (.Name m p') "pop" apos') [v] [] cpos'] [] cpos) pos) (tX X.K G E H0 zE (.apop i j e)):=by
 unfold d00 at h2 h4
 simp only[Á,À0] at h2 h4
 have ga:Good X G E (.cons e .nil) [v]:=⟨v,[],rfl,ns,g,rfl,rfl⟩
 have hs:=c80 ns [] X.env
 ¤PS.imp (Y20 (Z81 Ð8 Ý8 Ý7 R40 (n70 (i:=i) (by rw[x.hN];§h1) (x.vis n (é h1)) h2.1 h2.2)
  (e60 (Z81 Ð8 PySem.F.slot_list_pop PySem.F.type_list_pop J41 (n70 (i:=j) (by rw[x.hN];§h3) (x.vis m (é h3)) h4.1 h4.2) (ga.args rfl).1 rfl (by rw[hs];rfl) hl' hs rfl) r00) rfl rfl hl rfl rfl) (u50 rfl none)) λD σ H q=>?_
 ¶⟨zA,ow,ρ,z,rr,rw,st,ee,po⟩:=q
 §h52 rw st ee po
def L92(K:Â)(i:Nat):TI:=λσ H R=>∃ a,σ[i]?=some (some (.ref a))/\((∃ ys,SqT K H a ys)/\R (Itt K a) H∨(∃ ys,SqL K H a ys)/\R (Itl K a) H)
÷x52(x:XI lm X G E N sc){tg:Ò}{i:Nat}{n:Str}{pos:Pos}(h1:N[i]?=some n)(h2:d00 n=true):PI X tg (.Name n pos) (L92 X.K i):=by
 unfold d00 at h2
 simp only[Á,À0] at h2
 have hv:PE X (.Name n pos) (m42 i):=n70 (i:=i) (by rw[x.hN];§h1) (x.vis n (é h1)) h2.1 h2.2
 intro pins s σ H R I q
 ¶⟨a,k,q | q⟩:=q
 ·§T21 hv pins s σ H R I ⟨_,k,a,rfl,q.1,q.2⟩
 ·§Y50 hv pins s σ H R I ⟨_,k,a,rfl,q.1,q.2⟩
def fBody(F:FT)(tp:Bool)(p:Pat)(b:Sm):D->Env->M O:=λx ρ=>M.bind (M.of (f20 p x ρ)) λρ=>ex F tp b ρ
÷D80:∀ {l:List D}{d:D},o30 l=true->d∈l->bare d=true
 |x::r,d,h,hd=>by
  simp only[o30,Á] at h
  rcases ú.mp hd with rfl | hd
  ·§h.1
  ·§D80 h.2 hd
÷i01{p:Pat}{b:Sm}{J:L2.It}{xs:List D}{B:Hp}{D:Ends}{σ:L2.St}{H:Hp}{zA:Option Ç}{ow:Nat->Option Ç}{ρ:Env}{z:Z}{rr:R O}(IT:ItB X.K J xs B)
  (rw:RW X.K H0 zE zA ow H ρ σ) (st:e40 zA z H) (sm:a30 B (hw ow (hz zA H))) (ee:Y00 (fBody G.F zE.isNone p b) xs ρ z=some rr) (po:q70 X.K G E H0 zE (hw ow (hz zA H)) D rr) :
  ∃ W:Nat->Nat->L2.St->Hp->Prop,(∃ m,W 0 m σ H)/\∀ i m σ H,W i m σ H ->
   (J.stop i H/\D.nx σ H)∨(J.go i H/\∃ Nn:L2.St->Hp->Prop,(∀ σ' H',Nn σ' H'->∃ m',m' < m/\W (i + 1) m' σ' H')/\∀ x H',J.yld i H x H'->gP X.K p x σ H' λσ2 H2=>tX X.K G E H0 zE b { D with nx:=Nn,ct:=Nn,bk:=D.nx } σ2 H2):=by
 ¤⟨λi m σ H=>m=xs.length - i/\i<=xs.length/\∃ zA ow ρ z r,RW X.K H0 zE zA ow H ρ σ/\e40 zA z H/\a30 B (hw ow (hz zA H))/\Y00 (fBody G.F zE.isNone p b) (xs.drop i) ρ z=some r/\q70 X.K G E H0 zE (hw ow (hz zA H)) D r,
  ⟨xs.length,by simp,Æ1 _,zA,ow,ρ,z,rr,rw,st,sm,by simpa using ee,po⟩,?_⟩
 rintro i m σ H ⟨rfl,hi,zA,ow,ρ,z,rr,rw,st,sm,ee,po⟩
 have sH:a30 B H:=a30.trans sm (a30.trans k50 (a20 zA H))
 by_cases hlt:i < xs.length
 ·¤.inr ⟨IT.go i H sH hlt,λσ' H'=>∃ zA ow ρ z r,RW X.K H0 zE zA ow H' ρ σ'/\e40 zA z H'/\a30 B (hw ow (hz zA H'))/\Y00 (fBody G.F zE.isNone p b) (xs.drop (i + 1)) ρ z=some r/\q70 X.K G E H0 zE (hw ow (hz zA H')) D r,
   λσ' H' h=>⟨xs.length - (i + 1),by omega,rfl,hlt,h⟩,λx H' y=>?_⟩
  have hd0:xs[i]?=some xs[i]:=ç hlt
  ¶⟨s1,hd⟩:=IT.yld i H x H' zA z _ (a30.trans sm k50) st y hd0
  rw[à0 hlt] at ee
  have e0:M.bind (fBody G.F zE.isNone p b xs[i] ρ) (λo=>match o with | .nx ρ=>Y00 (fBody G.F zE.isNone p b) (xs.drop (i + 1)) ρ | .rt s=>M.ret (.rt s)) z=some rr:=ee
  have r1:=rw.mono (Ext.of s1)
  have st1:=st.same s1
  have sm1:a30 (hw ow (hz zA H)) (hw ow (hz zA H')):=d10 (k40 s1)
  have hd1:=hd (hw ow (hz zA H')) (a30.trans sm sm1) λ_ _ q=>A01 q r1.g72
  have fin:∀ {ρ1:Env}{o:O}{z1:Z},f20 p xs[i] ρ=some ρ1->ex G.F zE.isNone b ρ1 z=some (.ok o z1)->(match o with | .nx ρ=>Y00 (fBody G.F zE.isNone p b) (xs.drop (i + 1)) ρ | .rt s=>M.ret (.rt s)) z1=some rr->gP X.K p x σ H' λσ2 H2=>tX X.K G E H0 zE b { D with nx:=λσ' H'=>∃ zA ow ρ z r,RW X.K H0 zE zA ow H' ρ σ'/\e40 zA z H'/\a30 B (hw ow (hz zA H'))/\Y00 (fBody G.F zE.isNone p b) (xs.drop (i + 1)) ρ z=some r/\q70 X.K G E H0 zE (hw ow (hz zA H')) D r,ct:=λσ' H'=>∃ zA ow ρ z r,RW X.K H0 zE zA ow H' ρ σ'/\e40 zA z H'/\a30 B (hw ow (hz zA H'))/\Y00 (fBody G.F zE.isNone p b) (xs.drop (i + 1)) ρ z=some r/\q70 X.K G E H0 zE (hw ow (hz zA H')) D r,bk:=D.nx } σ2 H2:=λ{ρ1 o z1} hbp e1 e2=>by
   ¤P81 hbp r1 hd1 λow' σ' r2 sm2=>⟨zA,ow',ρ1,z,_,r2,st1,e1,?_⟩
   cases o with
   |nx ρ2=>§λzA3 ow3 σ3 H3 r3 st3 sm3=>⟨zA3,ow3,ρ2,z1,rr,r3,st3,a30.trans sm (a30.trans sm1 (a30.trans sm2 sm3)),e2,po.mono (a30.trans sm1 (a30.trans sm2 sm3))⟩
   |rt s=>cases e2;§po
  rcases M.bind_some e0 with ⟨o,z1,e1,e2⟩ | ⟨c,z1,e1,e2⟩
  ·¶⟨ρ1,hbp,e3⟩:=M.a10 e1
   §fin hbp e3 e2
  ·subst e2
   ¶⟨ρ1,hbp,e3⟩:=M.a10 e1
   §P81 hbp r1 hd1 λow' σ' r2 sm2=>⟨zA,ow',ρ1,z,_,r2,st1,e3,po⟩
 ·have e:i=xs.length:=by omega
  subst e
  rw[drop_length] at ee
  cases ee
  §.inl ⟨IT.stop H sH,po zA ow σ H rw st (a30.refl _)⟩
÷x62(x:XS lm X G E N sc cn){p:Pat}{i:Nat}{n:Str}{b:Sm}{tg:Ò}{body:List Å1}{np pos:Pos}(hp:j50 N (U70 sc) p tg=true)(h1:N[i]?=some n)(h2:d00 n=true)(hb:PSs X body (tX X.K G E H0 zE b)) :
  PS X (.For tg (.Name n np) body [] pos) (tX X.K G E H0 zE (.fr p .seq (.cons (.var i) .nil) b)):=by
 ¤PS.imp (T31 x.own x.calm (x52 x.toXI h1 h2) (y51 x.loc hp) hb (λ_=>rfl)) λD σ H q=>?_
 ¶⟨zA,ow,ρ,z,rr,rw,st,ee,po⟩:=q
 have e0:M.bind (M.bind (match ρ[i]? with | some (some s)=>M.ret [plS s] | _=>M.no) λx=>M.bind (M.of (one x)) λs=>M.bind (ev G.F .nil ρ) λy=>M.ret (s::y)) (λl=>M.bind (M.of ((plA l).bind (itD .seq))) λxs=>Y00 (fBody G.F zE.isNone p b) xs (w51 .seq (.cons (.var i) .nil) l ρ)) z=some rr:=ee
 cases hs:ρ[i]? with
 |none=>rw[hs] at e0;cases e0
 |some o =>
  cases o with
  |none=>rw[hs] at e0;cases e0
  |some s =>
   rw[hs] at e0
   have e1:M.bind (M.of ((plA [plS s]).bind (itD .seq))) (λxs=>Y00 (fBody G.F zE.isNone p b) xs ((ρ.set i ((ρ[i]?.getD none).map plS)).map (S80 (T10 [plS s])))) z=some rr:=e0
   ¶⟨xs,hx,e2⟩:=M.a10 e1
   have r1:=rw.plain i
   have sm:=A50 (H:=hz zA H) ow i
   have hi:i < ρ.length:=(Þ.mp hs).1
   have hsl:(ρ.set i ((ρ[i]?.getD none).map plS))[i]?=some (some (plS s)):=by rw[ð hi,hs];rfl
   ¶⟨w,k1,k2⟩:=r1.wor i _ hsl
   ¶⟨ds,h3,h4⟩:=Î.mp hx
   ¶⟨d,rfl,h5⟩:=z01 h3
   have hd:Hd X.K (hw (ow0 ow i) (hz zA H)) d w:=by
    cases s with
    |d y=>cases h5;§k2.2
    |fr ys=>cases h5;§k2.2
    |z=>cases h5
   obtain⟨ow',r2,sm2⟩:∃ ow',RW X.K H0 zE zA ow' H ((ρ.set i ((ρ[i]?.getD none).map plS)).map (S80 (T10 [plS s]))) σ/\a30 (hw (ow0 ow i) (hz zA H)) (hw ow' (hz zA H)):=by
    rw[S90]
    cases T10 [plS s] with
    |true=>§⟨_,r1,a30.refl _⟩
    |false=>§⟨_,r1.a21,D70 _⟩
   cases d with
   |tup l =>
    cases h4
    ¶⟨a,ys,rfl,m1,m2⟩:=hd.z70
    §⟨a,k1,.inl ⟨⟨ys,(a20 zA H).sqT (a30.sqT k50 m1)⟩,i01 (y71 m1 m2) r2 st sm2 e2 (po.mono (a30.trans sm sm2))⟩⟩
   |lst l =>
    cases h4
    ¶⟨a,ys,rfl,m1,m2⟩:=hd.Y10
    §⟨a,k1,.inr ⟨⟨ys,((m1.same k50).same (a20 zA H)).sq⟩,i01 (h31 m1 m2) r2 st sm2 e2 (po.mono (a30.trans sm sm2))⟩⟩
   |_=>cases h4
÷M02(x:XS lm X G E N sc cn){p:Pat}{it:It}{src:Ex}{b:Sm}{tg Ä0:Ò}{body:List Å1}{pos:Pos}(hp:j50 N (U70 sc) p tg=true)(hi:PI X tg Ä0 (tIt X.K G E it src))(hns:z80 Ä0=true)(hv:d42 it src=none)(hb:PSs X body (tX X.K G E H0 zE b)) :
  PS X (.For tg Ä0 body [] pos) (tX X.K G E H0 zE (.fr p it src b)):=by
 ¤PS.imp (T31 x.own x.calm hi (y51 x.loc hp) hb (z81 hns X.env)) λD σ H q=>?_
 ¶⟨zA,ow,ρ,z,rr,rw,st,ee,po⟩:=q
 have e0:M.bind (ev G.F src ρ) (λl=>M.bind (M.of ((plA l).bind (itD it))) λxs=>Y00 (fBody G.F zE.isNone p b) xs ((T20 it src l ρ).map (S80 (T10 l)))) z=some rr:=ee
 rcases M.bind_some e0 with ⟨l,z1,e1,e2⟩ | ⟨c,z1,e1,e2⟩
 ·¶⟨xs,hx,e3⟩:=M.a10 e2
  ¤⟨zA,ρ,z,_,rw.P60,st,e1,xs,hx,λJ H1 x1 st1 IT=>?_⟩
  have r1:=rw.mono x1
  have frz:Y00 (fBody G.F zE.isNone p b) xs (a21 ρ) z1=some rr->_:=λe3=>i01 (G:=G) (E:=E) (D:=D) (IT (λ_=>True) (hz zA H1) (a30.refl _) (λ_ _ q=>q) (λ_ _ _ q=>q) (λds hds d hd=>by cases d <;> first | trivial | §λ_ _=>trivial) λ_ _ q _=>q) r1.a21 st1 (by rw[w60];§a30.refl _) e3 (po.mono (a30.trans (d10 x1) (D70 ow)))
  rw[S90] at e3
  have he:T20 it src l ρ=match n71 l with | true=>a21 ρ | false=>ρ:=by
   unfold T20;rw[hv] <;> cases n71 l <;> rfl
  have tt:a21 (a21 ρ)=a21 ρ:=by
   unfold a21
   rw[ó]
   ¤Å8 λo _=>?_
   match o with
   |none=>rfl
   |some (.d _)=>rfl
   |some (.fr _)=>rfl
   |some .z=>rfl
  cases hl:n71 l with
  |true =>
   rw[hl] at he
   rw[he] at e3
   dsimp only at e3
   rw[tt,ite_self] at e3
   §frz e3
  |false =>
   rw[hl] at he
   rw[he] at e3
   dsimp only at e3
   split at e3
   ·rename_i hbb
    ¤i01 (IT (λy=>bare y=true) (hw ow (hz zA H1)) k50 (λa ys q=>A01 q r1.g72) (λd v hd q=>M60 r1.g72 hd q) (λds hds d hd=>?_) λa ys q hor=>?_) r1 st1 (a30.refl _) e3 (po.mono (d10 x1))
    ·have h:=hbb
     unfold T10 at h
     rw[hds] at h
     have:=Õ.mp h d hd
     cases d with
     |tup m=>§λy hy=>D80 this hy
     |lst m=>§λy hy=>D80 this hy
     |_=>trivial
    ·rcases hor with ⟨hn,hm1⟩ | hm
     ·¤p90.of (i90 (e10 hm1 (st.w81 hn)) λj w=>?_)
      ¶⟨zs,k⟩:=rw.lst j a w
      rw[hn] at k;cases k
     ·rw[hl] at hm;cases hm
   ·§frz e3
 ·subst e2
  §⟨zA,ρ,z,_,rw.P60,st,e1,po.er_ rw⟩
end
def isQ:Sm->Bool
 |.nil=>true
 |.seq _ _=>true
 |_=>false
def h62:Ò->Bool
 |.IfExp ..=>false
 |_=>true
def X32:Ò->Bool
 |.SetComp ..=>false
 |.DictComp ..=>false
 |_=>true
def mtI(lm:Bool)(fns:List (Str × List Str))(nums:List (Str × Int))(it:It)(src:Ex)(sc:ý)(N:List Str)(tg Ä0:Ò):Bool:=match it with
 |.seq=>mt lm fns nums src sc N [Ä0]
 |.rng1=>opt (l32 Ä0) λr=>r.1.1 == ("range":Str)&&glob sc r.1.1&&mt lm fns nums src sc N [r.1.2.2.1]
 |.rng2=>opt (l42 Ä0) λr=>r.1.1 == ("range":Str)&&glob sc r.1.1&&mt lm fns nums src sc N [r.1.2.2.1,r.1.2.2.2.1]
 |.zip=>opt (l42 Ä0) λr=>r.1.1 == ("zip":Str)&&glob sc r.1.1&&n30 tg&&mt lm fns nums src sc N [r.1.2.2.1,r.1.2.2.2.1]
 |.enum=>opt (l32 Ä0) λr=>r.1.1 == ("enumerate":Str)&&glob sc r.1.1&&n30 tg&&mt lm fns nums src sc N [r.1.2.2.1]
def X42:(p:Pat)->Option {q:Nat × Nat // p=.tup (.cons (.v q.1) (.cons (.v q.2) .nil))}
 |.tup (.cons (.v i) (.cons (.v j) .nil))=>some ⟨(i,j),rfl⟩
 |_=>none
def X52:(e:Ex)->Option {q:Ex × Ex // e=.tup (.cons q.1 (.cons q.2 .nil))}
 |.tup (.cons a (.cons b .nil))=>some ⟨(a,b),rfl⟩
 |_=>none
def X62:(e:Ò)->Option {q:Ò × Ò × Nat × Pos // e=.Tuple [q.1,q.2.1] q.2.2.1 q.2.2.2}
 |.Tuple [a,b] k p=>some ⟨(a,b,k,p),rfl⟩
 |_=>none
def X72(sc:ý)(p:Pat)(e:Ex)(tg v:Ò):Bool:=opt (X42 p) λ_=>opt (X52 e) λ_=>opt (P92 tg) λt=>opt (X62 v) λu =>
  !(t.1.1 == t.1.2.2.1)&&sc.names.lookup t.1.1 == some .local&&sc.names.lookup t.1.2.2.1 == some .local&&t.1.2.2.2.1.line == t.1.2.1.line&&noStar u.1.1&&noStar u.1.2.1&&!([u.1.1,u.1.2.1].all (Û8 8))&&!([u.1.1,u.1.2.1].all (constantsAlone 8))
def isNm:Ò->Bool
 |.Name ..=>true
 |_=>false
def setB(sc:ý)(p:Pat)(e:Ex)(tg v:Ò):Bool :=
 if isNm tg then X32 v else if n30 tg then(if n30 v then(match v with | .Tuple vs _ _=>vs.all (Û8 8) | _=>false) || (match tg with | .Tuple ts _ _=>ts.any (A41 λy=>sc.names.lookup y) | _=>false) || X72 sc p e tg v else true) else false
def h72:(e:List Å1)->Option {q:Ò × Ò × Pos // e=[.Assign [q.1] q.2.1 q.2.2]}
 |[.Assign [tg] v p]=>some ⟨(tg,v,p),rfl⟩
 |_=>none
def M12:(e:List Å1)->Option {q:Option Ò × Pos // e=[.Return q.1 q.2]}
 |[.Return v p]=>some ⟨(v,p),rfl⟩
 |_=>none
def X82:(e:List Å1)->Option {q:Ò × List Å1 × List Å1 × Pos // e=[.If q.1 q.2.1 q.2.2.1 q.2.2.2]}
 |[.If c a b p]=>some ⟨(c,a,b,p),rfl⟩
 |_=>none
def M22:(e:List Å1)->Option {q:Ò × Ò × List Å1 × Pos // e=[.For q.1 q.2.1 q.2.2.1 [] q.2.2.2]}
 |[.For tg Ä0 body [] p]=>some ⟨(tg,Ä0,body,p),rfl⟩
 |_=>none
def M32:(e:List Å1)->Option {q:Ò × List Å1 × Pos // e=[.While q.1 q.2.1 [] q.2.2]}
 |[.While c body [] p]=>some ⟨(c,body,p),rfl⟩
 |_=>none
def x72:(e:List Å1)->Option {q:Ò × Pos // e=[.Raise (some q.1) none q.2]}
 |[.Raise (some x) none p]=>some ⟨(x,p),rfl⟩
 |_=>none
def h82:(e:List Å1)->Option {q:Ò × Pos // e=[.Expr q.1 q.2]}
 |[.Expr v p]=>some ⟨(v,p),rfl⟩
 |_=>none
def M42:(e:Ò)->Option {q:Str × Pos × Str × Nat × Pos × Pos // e=.Call (.Name q.1 q.2.1) [.Constant (.str q.2.2.1) q.2.2.2.1 q.2.2.2.2.1] [] q.2.2.2.2.2}
 |.Call (.Name n p1) [.Constant (.str y) k p2] [] p3=>some ⟨(n,p1,y,k,p2,p3),rfl⟩
 |_=>none
def h92:(e:Ò)->Option {q:Str × Pos × Str × Pos × Ò × Pos // e=.Call (.Attribute (.Name q.1 q.2.1) q.2.2.1 q.2.2.2.1) [q.2.2.2.2.1] [] q.2.2.2.2.2}
 |.Call (.Attribute (.Name n p) a ap) [v] [] cp=>some ⟨(n,p,a,ap,v,cp),rfl⟩
 |_=>none
def X92:(e:Ò)->Option {q:Str × Pos × Nat × Pos × Pos // e=.Subscript (.Name q.1 q.2.1) (.Constant (.int 0) q.2.2.1 q.2.2.2.1) q.2.2.2.2}
 |.Subscript (.Name n p) (.Constant (.int 0) c q1) tp=>some ⟨(n,p,c,q1,tp),rfl⟩
 |_=>none
def Y02:(e:Ò)->Option {q:Str × Pos × Ò × Pos // e=.Subscript (.Name q.1 q.2.1) q.2.2.1 q.2.2.2}
 |.Subscript (.Name n p) w tp=>some ⟨(n,p,w,tp),rfl⟩
 |_=>none
def Y12:(e:Ò)->Option {q:Str × Pos // e=.Name q.1 q.2}
 |.Name n p=>some ⟨(n,p),rfl⟩
 |_=>none
def x82:(e:List Å1)->Option {q:Str × Pos × Ò × Pos × Ò × Pos // e=[.AugAssign (.Subscript (.Name q.1 q.2.1) q.2.2.1 q.2.2.2.1) .Add q.2.2.2.2.1 q.2.2.2.2.2]}
 |[.AugAssign (.Subscript (.Name n p) w tp) .Add v pos]=>some ⟨(n,p,w,tp,v,pos),rfl⟩
 |_=>none
def Q31:Ex->Bool
 |.con .non=>true
 |_=>false
def mtS(lm:Bool)(fns:List (Str × List Str))(nums:List (Str × Int))(cn:List Str)(sc:ý)(N:List Str):Sm->List Å1->Bool
 |.nil,ss=>ss.isEmpty
 |.seq s r,ss=>opt ss.head? λst=>!isQ s&&isQ r&&mtS lm fns nums cn sc N s [st]&&mtS lm fns nums cn sc N r ss.tail
 |.set p e,ss=>opt (h72 ss) λq=>!isL e&&j50 N (U70 sc) p q.1.1&&mt lm fns nums e sc N [q.1.2.1]&&setB sc p e q.1.1 q.1.2.1
 |.ret e,ss=>opt (M12 ss) λq=>match q.1.1 with
  |some v=>!isL e&&mt lm fns nums e sc N [v]
  |none=>Q31 e
 |.iff c t u,ss=>opt (X82 ss) λq=>!isL c&&h62 q.1.1&&isQ t&&isQ u&&mt lm fns nums c sc N [q.1.1]&&mtS lm fns nums cn sc N t q.1.2.1&&mtS lm fns nums cn sc N u q.1.2.2.1
 |.fr p it src b,ss=>opt (M22 ss) λq=>j50 N (U70 sc) p q.1.1&&isL src&&z80 q.1.2.1&&isQ b&&mtI lm fns nums it src sc N q.1.1 q.1.2.1&&mtS lm fns nums cn sc N b q.1.2.2.1
 |.whl c b,ss=>opt (M32 ss) λq=>!isL c&&h62 q.1.1&&isQ b&&mt lm fns nums c sc N [q.1.1]&&mtS lm fns nums cn sc N b q.1.2.1
 |.rais c,ss=>opt (x72 ss) λq=>opt (M42 q.1.1) λr=>cn[c]? == some r.1.1&&glob sc r.1.1
 |.exp e,ss=>opt (h82 ss) λq=>U50 q.1.1&&!isL e&&mt lm fns nums e sc N [q.1.1]
 |.app i e,ss=>opt (h82 ss) λq=>opt (h92 q.1.1) λr=>r.1.2.2.1 == ("append":Str)&&N[i]? == some r.1.1&&d00 r.1.1&&noStar r.1.2.2.2.2.1&&!isL e&&r.1.2.2.2.1.endLine == r.1.2.2.2.2.2.line&&mt lm fns nums e sc N [r.1.2.2.2.2.1]
 |.newz i f as,ss=>opt (h72 ss) λq=>opt (Y12 q.1.1) λr=>N[i]? == some r.1.1&&U70 sc r.1.1&&U50 q.1.2.1&&mt lm fns nums (.call f as) sc N [q.1.2.1]
 |.zset i e,ss=>opt (h72 ss) λq=>opt (X92 q.1.1) λr=>N[i]? == some r.1.1&&d00 r.1.1&&!isL e&&mt lm fns nums e sc N [q.1.2.1]
 |.apop i j e,ss=>opt (h82 ss) λq=>opt (h92 q.1.1) λr=>opt (h92 r.1.2.2.2.2.1) λt=>r.1.2.2.1 == ("append":Str)&&t.1.2.2.1 == ("pop":Str)&&N[i]? == some r.1.1&&d00 r.1.1&&N[j]? == some t.1.1&&d00 t.1.1&&noStar t.1.2.2.2.2.1&&!isL e&&r.1.2.2.2.1.endLine == r.1.2.2.2.2.2.line&&t.1.2.2.2.1.endLine == t.1.2.2.2.2.2.line&&mt lm fns nums e sc N [t.1.2.2.2.2.1]
 |.augi i ix e,ss=>opt (x82 ss) λq=>N[i]? == some q.1.1&&d00 q.1.1&&D40 q.1.2.2.1&&!isL e&&!isL ix&&mt lm fns nums e sc N [q.1.2.2.2.2.1]&&mt lm fns nums ix sc N [q.1.2.2.1]
section
variable {lm:Bool}{X:Cx}{G:Gs}{E:XK}{N:List Str}{sc:ý}{cn:List Str}{H0:Hp}{zE:Option Ç}
÷M52(x:XI lm X G E N sc){it:It}{src:Ex}{tg Ä0:Ò}(hL:isL src=true)(h:mtI lm G.fns G.nums it src sc N tg Ä0=true):PI X tg Ä0 (tIt X.K G E it src):=by
 cases it with
 |seq =>
  ¶⟨a,rfl,ga⟩:=z91 hL (sound G src x h)
  §V91 ga
 |rng1 =>
  ¶⟨⟨⟨n,_,a,_⟩,rfl⟩,-,h⟩:=a70 h
  simp only[Á,beq_iff_eq] at h
  §z11 x h.1.1 h.1.2 hL (sound G src x h.2)
 |rng2 =>
  ¶⟨⟨⟨n,_,a,b,_⟩,rfl⟩,-,h⟩:=a70 h
  simp only[Á,beq_iff_eq] at h
  §z21 x h.1.1 h.1.2 hL (sound G src x h.2)
 |zip =>
  ¶⟨⟨⟨n,_,a,b,_⟩,rfl⟩,-,h⟩:=a70 h
  simp only[Á,beq_iff_eq] at h
  §z51 x h.1.2 h.1.1.1 h.1.1.2 hL (sound G src x h.2)
 |enum =>
  ¶⟨⟨⟨n,_,a,_⟩,rfl⟩,-,h⟩:=a70 h
  simp only[Á,beq_iff_eq] at h
  §h61 x h.1.2 h.1.1.1 h.1.1.2 hL (sound G src x h.2)
÷i11(h:h62 e=true):∀ t a b p,e≠.IfExp t a b p:=by
 intro t a b p he
 subst he
 cases h
def GS(X:Cx)(G:Gs)(E:XK)(H0:Hp)(zE:Option Ç)(s:Sm)(ss:List Å1):Prop:=(isQ s=true->PSs X ss (tX X.K G E H0 zE s))/\(isQ s=false->∃ st,ss=[st]/\PS X st (tX X.K G E H0 zE s))
÷n40{s:Sm}{st:Å1}(hq:isQ s=false)(h:PS X st (tX X.K G E H0 zE s)):GS X G E H0 zE s [st]:=⟨λk=>(by rw[hq] at k;cases k),λ_=>⟨st,rfl,h⟩⟩
÷i02{x:XI lm X G E N sc}{e:Ex}{elt:Ò}{gs:List Comprehension}{csc:ý}{q:Pos}(h:mt lm G.fns G.nums e sc N [.ListComp elt gs csc q]=true)(hL:isL e=false):∃ tg Ä0 ifs,gs=[⟨tg,Ä0,ifs,0⟩]/\H30 X G E e elt tg Ä0 ifs csc:=by
 cases e with
 |comp own capt p it src cond el =>
  match gs,h with
  |[⟨tg,Ä0,ifs,0⟩],h=>§⟨tg,Ä0,ifs,rfl,U40 (λx _=>sound G src x) (λx _=>sound G cond x) (λx _=>sound G el x) x h⟩
 |nil=>cases hL
 |cons _ _=>cases hL
 |bf f as=>cases f <;> cases h
 |_=>cases h
÷M62(x:XS lm X G E N sc cn){p:Pat}{e:Ex}{tg v:Ò}{pos:Pos}(h1:(!isL e)=true)(h2:j50 N (U70 sc) p tg=true)(h3:mt lm G.fns G.nums e sc N [v]=true)(h4:setB sc p e tg v=true):PS X (.Assign [tg] v pos) (tX X.K G E H0 zE (.set p e)):=by
 have g:=a90 (b70 h1) (sound G e x.toXI h3)
 unfold setB at h4
 split at h4
 ·rename_i hn
  cases tg with
  |Name y px =>
   cases p with
   |v i =>
    unfold j50 at h2
    rw[Á,beq_iff_eq] at h2
    ¤L32 x h2.1 h2.2 g (λelt gs csc q hv=>?_) (λa b c d hv=>?_) (λa b c d f hv=>?_)
    ·subst hv;§i02 (x:=x.toXI) h3 (b70 h1)
    ·subst hv;cases h4
    ·subst hv;cases h4
   |tup _=>unfold j50 at h2;cases h2
   |nil=>unfold j50 at h2;cases h2
   |cons _ _=>unfold j50 at h2;cases h2
  |_=>cases hn
 ·split at h4
  ·rename_i ht
   split at h4
   ·rename_i hv
    rw[Å6,Å6] at h4
    rcases h4 with (h4 | h4) | h4
    ·cases tg with
     |Tuple ts k tp =>
      cases v with
      |Tuple vs k' vp=>§A51 x h2 g rfl (g92 h4)
      |_=>cases hv
     |_=>cases ht
    ·cases tg with
     |Tuple ts k tp =>
      cases v with
      |Tuple vs k' vp =>
       ¤A51 x h2 g rfl (h02 ?_)
       have e:X.env.kindOf=λy=>sc.names.lookup y:=by funext y;unfold Env.kindOf;rw[x.sco]
       rw[e];§h4
      |_=>cases hv
     |_=>cases ht
    ·¶⟨⟨⟨i,j⟩,rfl⟩,-,h4⟩:=a70 h4
     ¶⟨⟨⟨ea,eb⟩,rfl⟩,-,h4⟩:=a70 h4
     ¶⟨⟨⟨y,px,w,py,kt,tp⟩,rfl⟩,-,h4⟩:=a70 h4
     ¶⟨⟨⟨a,b,kv,vp⟩,rfl⟩,-,h4⟩:=a70 h4
     simp only[Á,À0,beq_iff_eq] at h4
     ¶⟨⟨⟨⟨⟨⟨⟨k1,k2⟩,k3⟩,k4⟩,k5⟩,k6⟩,k7⟩,k8⟩:=h4
     unfold j50 at h2
     simp only[o31,j50,Á,beq_iff_eq] at h2
     ¶⟨⟨_,h21,_⟩,⟨_,h22,_⟩,_⟩:=h2
     have h3':(isL (.cons ea (.cons eb .nil))&&mt lm G.fns G.nums (.cons ea (.cons eb .nil)) sc N [a,b])=true:=h3
     rw[Á] at h3'
     have ga:Good X G E (.cons ea (.cons eb .nil)) [a,b]:=sound G (.cons ea (.cons eb .nil)) x.toXI h3'.2
     ¤L42 x h21 h22 (by simpa using k1) k2 k3 ga (w92 x.bk ?_ ?_ (by simpa using k1) (by rw[k4];§beq_self_eq_true _) k5 k6 k7 k8)
     ·unfold Env.kindOf;rw[x.sco];§k2
     ·unfold Env.kindOf;rw[x.sco];§k3
   ·rename_i hv
    §A51 x h2 g ht (g82 (by simpa using hv))
  ·cases h4
÷A91(h:Q31 e=true):e=.con .non:=by
 unfold Q31 at h
 split at h
 ·rfl
 ·cases h
÷M72(x:XS lm X G E N sc cn){e:Ex}{o:Option Ò}{pos:Pos}(h:(match o with | some v=>!isL e&&mt lm G.fns G.nums e sc N [v] | none=>Q31 e)=true):PS X (.Return o pos) (tX X.K G E H0 zE (.ret e)):=by
 cases o with
 |some v =>
  have h:(!isL e&&mt lm G.fns G.nums e sc N [v])=true:=h
  rw[Á] at h
  by_cases hv:∃ i,e=.var i
  ·¶⟨i,rfl⟩:=hv
   have h2:=h.2
   cases v with
   |Name n p =>
    have h2:(N[i]? == some n&&d00 n)=true:=h2
    rw[Á,beq_iff_eq] at h2
    §x02 x h2.1 h2.2
   |_=>cases h2
  ·§L52 (λi hi=>hv ⟨i,hi⟩) (a90 (b70 h.1) (sound G e x.toXI h.2))
 |none =>
  have he:=A91 h
  subst he
  ¤PS.imp Y41 λD σ H q=>?_
  ¶⟨zA,ow,ρ,z,rr,rw,st,ee,po⟩:=q
  cases ee
  §po .non H (λk=>nomatch k) rw.ext (l52 rw.zok st) (show Hd X.K (hz zE H) .non .non from Hd.non)
÷Y22(x:XS lm X G E N sc cn){p:Pat}{it:It}{src:Ex}{b:Sm}{tg Ä0:Ò}{body:List Å1}{pos:Pos}(h1:j50 N (U70 sc) p tg=true)(h2:isL src=true)(h3:z80 Ä0=true)(h5:mtI lm G.fns G.nums it src sc N tg Ä0=true)(hb:PSs X body (tX X.K G E H0 zE b)) :
  PS X (.For tg Ä0 body [] pos) (tX X.K G E H0 zE (.fr p it src b)):=by
 cases hv:d42 it src with
 |some q =>
  ¶⟨i,rfl,rfl⟩:=q
  have h5':(noStar Ä0&&!isL (.var i)&&isL .nil&&mt lm G.fns G.nums (.var i) sc N [Ä0]&&mt lm G.fns G.nums .nil sc N [])=true:=h5
  simp only[Á] at h5'
  have h7:=h5'.1.2
  cases Ä0 with
  |Name n np =>
   have h7:(N[i]? == some n&&d00 n)=true:=h7
   rw[Á,beq_iff_eq] at h7
   §x62 x h1 h7.1 h7.2 hb
  |_=>cases h7
 |none=>§M02 x h1 (M52 x.toXI h2 h5) h3 hv hb
÷x92(x:XS lm X G E N sc cn):∀ (s:Sm) {ss:List Å1},mtS lm G.fns G.nums cn sc N s ss=true->GS X G E H0 zE s ss:=by
 intro s
 induction s with
 |nil =>
  intro ss h
  have:ss=[]:=Ì5.mp h
  subst this
  §⟨λ_=>L12,λk=>by cases k⟩
 |seq s r ihs ihr =>
  intro ss h
  ¶⟨st,h0,h⟩:=a70 h
  cases ss with
  |nil=>cases h0
  |cons st' rest =>
   cases h0
   simp only[Á,À0,List.tail_cons] at h
   ¶⟨⟨⟨h1,h2⟩,h3⟩,h4⟩:=h
   ¶⟨st',he,hs⟩:=(ihs h3).2 h1
   cases he
   §⟨λ_=>L22 hs ((ihr h4).1 h2),λk=>by cases k⟩
 |set p e =>
  intro ss h
  ¶⟨⟨q,rfl⟩,-,h⟩:=a70 h
  simp only[Á] at h
  §n40 rfl (M62 x h.1.1.1 h.1.1.2 h.1.2 h.2)
 |ret e =>
  intro ss h
  ¶⟨⟨q,rfl⟩,-,h⟩:=a70 h
  §n40 rfl (M72 x h)
 |iff c t u iht ihu =>
  intro ss h
  ¶⟨⟨q,rfl⟩,-,h⟩:=a70 h
  simp only[Á] at h
  ¶⟨⟨⟨⟨⟨⟨h1,h2⟩,h3⟩,h4⟩,h5⟩,h6⟩,h7⟩:=h
  §n40 rfl (X12 (a90 (b70 h1) (sound G c x.toXI h5)) (i11 h2) ((iht h6).1 h3) ((ihu h7).1 h4))
 |fr p it src b ih =>
  intro ss h
  ¶⟨⟨q,rfl⟩,-,h⟩:=a70 h
  simp only[Á] at h
  ¶⟨⟨⟨⟨⟨h1,h2⟩,h3⟩,h4⟩,h5⟩,h6⟩:=h
  §n40 rfl (Y22 x h1 h2 h3 h5 ((ih h6).1 h4))
 |whl c b ih =>
  intro ss h
  ¶⟨⟨q,rfl⟩,-,h⟩:=a70 h
  simp only[Á] at h
  ¶⟨⟨⟨⟨h1,h2⟩,h3⟩,h4⟩,h5⟩:=h
  §n40 rfl (L82 x (a90 (b70 h1) (sound G c x.toXI h4)) (i11 h2) ((ih h5).1 h3))
 |rais c =>
  intro ss h
  ¶⟨⟨⟨e,pos⟩,rfl⟩,-,h⟩:=a70 h
  dsimp only at h
  ¶⟨⟨⟨n,p1,y,k,p2,p3⟩,rfl⟩,-,h⟩:=a70 h
  simp only[Á,beq_iff_eq] at h
  §n40 rfl (x_raise x h.1 h.2)
 |exp e =>
  intro ss h
  ¶⟨⟨q,rfl⟩,-,h⟩:=a70 h
  simp only[Á] at h
  §n40 rfl (L62 (a90 (b70 h.1.2) (sound G e x.toXI h.2)) h.1.1)
 |app i e =>
  intro ss h
  ¶⟨⟨⟨v0,pos⟩,rfl⟩,-,h⟩:=a70 h
  dsimp only at h
  ¶⟨⟨⟨n,p1,a,apos,v,cpos⟩,rfl⟩,-,h⟩:=a70 h
  simp only[Á,beq_iff_eq] at h
  ¶⟨⟨⟨⟨⟨⟨h7,h8⟩,h2⟩,h3⟩,h4⟩,h5⟩,h6⟩:=h
  subst h7
  §n40 rfl (L72 x h8 h2 h3 (a90 (b70 h4) (sound G e x.toXI h6)) (by rw[h5];§beq_self_eq_true _))
 |newz i f as =>
  intro ss h
  ¶⟨⟨⟨tg,v,pos⟩,rfl⟩,-,h⟩:=a70 h
  dsimp only at h
  ¶⟨⟨⟨y,p1⟩,rfl⟩,-,h⟩:=a70 h
  simp only[Á,beq_iff_eq] at h
  ¶⟨⟨⟨h1,h2⟩,h3⟩,h4⟩:=h
  §n40 rfl (x22 x h1 h2 (a90 rfl (sound G (.call f as) x.toXI h4)) h3)
 |zset i e =>
  intro ss h
  ¶⟨⟨⟨tg,v,pos⟩,rfl⟩,-,h⟩:=a70 h
  dsimp only at h
  ¶⟨⟨⟨n,p1,c,p2,p3⟩,rfl⟩,-,h⟩:=a70 h
  simp only[Á,beq_iff_eq] at h
  §n40 rfl (x32 x h.1.1.1 h.1.1.2 (a90 (b70 h.1.2) (sound G e x.toXI h.2)))
 |apop i j e =>
  intro ss h
  ¶⟨⟨⟨v0,pos⟩,rfl⟩,-,h⟩:=a70 h
  dsimp only at h
  ¶⟨⟨⟨n,p1,a,apos,v1,cpos⟩,rfl⟩,-,h⟩:=a70 h
  dsimp only at h
  ¶⟨⟨⟨m,p2,b,apos',v,cpos'⟩,rfl⟩,-,h⟩:=a70 h
  simp only[Á,beq_iff_eq] at h
  ¶⟨⟨⟨⟨⟨⟨⟨⟨⟨⟨g1,g2⟩,g3⟩,g4⟩,g5⟩,g6⟩,g7⟩,g8⟩,g9⟩,g10⟩,g11⟩:=h
  subst g1;subst g2
  §n40 rfl (x42 x g3 g4 g5 g6 g7 (a90 (b70 g8) (sound G e x.toXI g11)) (by rw[g9];§beq_self_eq_true _) (by rw[g10];§beq_self_eq_true _))
 |augi i ix e =>
  intro ss h
  ¶⟨⟨⟨n,p1,w,tp,v,pos⟩,rfl⟩,-,h⟩:=a70 h
  simp only[Á,beq_iff_eq] at h
  ¶⟨⟨⟨⟨⟨⟨h1,h2⟩,h3⟩,h4⟩,h5⟩,h6⟩,h7⟩:=h
  §n40 rfl (x12 x h1 h2 (a90 (b70 h4) (sound G e x.toXI h6)) (a90 (b70 h5) (sound G ix x.toXI h7)) h3)
end
structure GX(P:Program)(w:World)(K:PySem.W.Frag)(mg:Str->Option Value)(base:Heap)(G:Gs)(cn:List Str):Prop where
 gok:∀ f nm ps,G.fns[f]?=some (nm,ps)->∃ fa fd,mg nm=some (.ref fa)/\PySem.W.keepIn K (.ref fa)=true/\Binds K fd ps []/\X80 P w K mg base (CX1 P w) G.lv fa fd ps (spF K G f ps.length)
 num:∀ p∈G.nums,∃ t,mg p.1=some (.int p.2 t)
 blt:∀ n∈f62,mg n=none
 cls:∀ c x,cn[c]?=some x->mg x=some (.ref (G.cls c))/\PySem.W.excIn K (G.cls c) [.type "ValueError",.type "Exception",.type "BaseException",.type "object"] "ValueError.__new__"=true
section
variable {P:ß}{w:è}{K:Â}{mg:Str->Option Ä}{base:ì}{G:Gs}{cn:List Str}
structure C42(P:Program)(w:World)(K:PySem.W.Frag)(mg:Str->Option Value)(base:Heap)(cls:Nat->Addr)(fR:Addr)(fdR:FuncData):Prop where
 bm:BMain mg base
 cls:∀ j,j < 12->S30 K mg (cls j) j
 m:mg "_law_refused"=some (.ref fR)
 kp:PySem.W.keepIn K (.ref fR)=true
 bd:Binds K fdR ["_law_call"] []
 fn:∀ k,n21 P w K mg base CX0 (k + 2) fR fdR ["_law_call"] (c42 P w K mg base (k + 1))
def C52(K:Â)(nm:Str)(fd:Å2):Prop:=∃ (c P:Ç) (q:Str),fd.code=.ref c/\Ä8 K c P=true/\(∀ sc n f cd,(Ï5 nm sc n f cd).qual++"<lambda>"=q)/\(P,q)∈TB.tb/\∀ p∈TB.tb,p.1=P->p.2=q
def Low(P:ß)(w:è)(K:Â)(mg:Str->Option Ä)(base:ì)(G:Gs)(k:Nat):Prop:=∀ f nm ps,G.fns[f]?=some (nm,ps)->∃ fa fd,mg nm=some (.ref fa)/\Ó7 K (.ref fa)=true/\Binds K fd ps []/\X80 P w K mg base (CX1 P w) k fa fd ps (spF K (lowG G k) f ps.length)
÷y02(g:GX P w K mg base G cn){lm:Bool}{N ps:List Str}{qual:Str}{sc:ý}{f:Ç}{fd:Å2}{cd:Ä}{A:ø}{outer:List È7}{s:Æ}{H:Hp}{E:XK}(S:k30 N ps sc)(hl:N.all (U70 sc)=true)
  (hr:A00 G.lv (A.deeper (Ï5 qual sc s.heap.objs.size f cd))) (hc:fd.code=cd) (hlam:lm=true->∃ k fR fdR,G.lv=k + 2/\C42 P w K mg base G.cls fR fdR/\C52 K qual fd/\Low P w K mg base G k):XS lm (F90 (CX1 P w) P w K mg base N qual sc f cd A outer s H E) G E N sc cn where
 gok:=g.gok
 num:=g.num
 blt:=g.blt
 hN:=rfl
 nd:=S.nd
 vis:=λx hx=>by
  have:=Õ.mp hl x hx
  unfold U70 at this
  rw[Å6,beq_iff_eq,beq_iff_eq] at this
  rcases this with h | h
  ·§.inl h
  ·§.inr (.inl h)
 glb:=λx h=>h
 cel:=λx h=>h
 calm:=rfl
 room:=hr
 pas:=G62
 lam:=λh=>by
  ¶⟨k,fR,fdR,e1,L,⟨c,P',q,d1,d2,d3,d4,d5⟩,lo⟩:=hlam h
  §⟨c,P',q,k,fR,fdR,rfl,hc.symm.trans d1,d2,d3 _ _ _ _,d4,d5,L.bm,e1,L.cls,L.m,L.kp,L.bd,L.fn k,lo⟩
 sco:=rfl
 fnk:=S.kind
 own:=PassesOwn.leaving
 can:=u71
 fnx:=λ_=>rfl
 cls:=g.cls
÷Y32{x qual:Str}{st:Å1}{f:Ç}{fd:Å2}{N ps:List Str}{k:Nat}{sp:Sp}(F:Fun K x qual st f fd)(S:k30 N ps (c00 st))(len:∀ vs H Q E,sp vs H Q E->vs.length=ps.length)
  (hb:∀ (cdv:Ä),fd.code=cdv->∀ (A:ø) (outer:List È7) (s:Æ) (H:Hp) (vs:List V) (Q:VK) (E:XK),A00 k (A.deeper (Ï5 qual (c00 st) s.heap.objs.size f cdv))->sp vs H Q E ->
   ∃ t,PSs (F90 (CX1 P w) P w K mg base N qual (c00 st) f cdv A outer s H E) (i40 st) t/\t { nx:=λ_ H'=>Q .non H',rt:=Q } (L2.start N vs) H):X80 P w K mg base (CX1 P w) (k + 1) f fd ps sp:=by
 ¶⟨oc,od,kV,doc,pm,an,cdv,ct,osl,rfl,lk,hcd⟩:=F.ex
 §F12 lk hcd S len λA outer s H vs Q E hr hsp=>hb cdv rfl A outer s H vs Q E hr hsp
÷i21:∀ {ss:List S}{vs:List V}{i:Nat}{s:S}{n:Nat},RvA K zA H ss vs->(ss.map some++î n none)[i]?=some (some s)->∃ v,(vs.map some++î n none)[i]?=some (some v)/\RvP K zA H s v
 |[],_,i,s,n,h,e=>by
  cases h
  simp only[map_nil,Ì8] at e
  rw[Ò6] at e
  split at e <;> cases e
 |a::ss,_,0,s,n,h,e=>by
  cases h with
  |cons h1 h2 =>
   simp only[Å7,List.cons_append,Ê9] at e
   cases e
   §⟨_,rfl,h1⟩
 |a::ss,_,i + 1,s,n,h,e=>by
  cases h with
  |cons h1 h2 =>
   ¶⟨v,k1,k2⟩:=i21 (i:=i) (s:=s) (n:=n) h2 (by simpa using e)
   §⟨v,by simpa using k1,k2⟩
÷Æ0.len{α β:Type}{R:α->β->Prop}:∀ {l:List α}{m:List β},Æ0 R l m->l.length=m.length
 |[],_,h=>by cases h;rfl
 |_::_,_,h=>by
  cases h with
  |cons h1 h2=>simp[Æ0.len h2]
÷Q41(h:RvA K zA H ss vs)(hn:∀ s∈ss,∀ xs,s≠.fr xs):RW K H zA zA (λ_=>none) H (Q.start N.length ss) (L2.start N vs):=by
 have hl:ss.length=vs.length:=Æ0.len h
 ¤⟨?_,λi j a e=>(nomatch e),λi a e=>(nomatch e),λi a e=>(nomatch e),λi s e=>?_,Ext.refl,.inl rfl,λi a e=>(nomatch e)⟩
 ·unfold Q.start L2.start
  simp[hl]
 ·unfold Q.start at e
  ¶⟨v,k1,k2⟩:=i21 h e
  ¤⟨v,?_,?_⟩
  ·unfold L2.start
   rw[← hl];§k1
  ·cases s with
   |d x=>§⟨rfl,by rw[w60];§k2⟩
   |z=>§⟨rfl,k2⟩
   |fr xs =>
    rcases Á7.mp (é e) with q | q
    ·¶⟨s',q1,q2⟩:=Ú.mp q
     cases q2
     §absurd rfl (hn _ q1 xs)
    ·cases List.eq_of_mem_replicate q
÷i22(st:e40 zA z H):C32 zA z1=L60 z z1:=by
 have st:=st.zat
 cases zA with
 |none =>
  cases z with
  |none=>rfl
  |some p=>§st.elim
 |some a =>
  cases z with
  |none=>§st.elim
  |some p=>rfl
÷B01(st:e40 zA z H):z.isNone=zA.isNone:=by
 have st:=st.zat
 cases zA with
 |none =>
  cases z with
  |none=>rfl
  |some p=>§st.elim
 |some a =>
  cases z with
  |none=>§st.elim
  |some p=>rfl
÷B11(g:GX P w K mg base G cn){lm:Bool}{N ps:List Str}{nm:Str}{st:Å1}{fa:Ç}{fd:Å2}{b:Sm}{f:Nat}{F':FT}(Fn:Fun K nm nm st fa fd)(Sc:k30 N ps (c00 st))(hl:N.all (U70 (c00 st))=true)
  (ch:mtS lm G.fns G.nums cn (c00 st) N b (i40 st)=true) (hq:isQ b=true) (hlam:lm=true->∃ k fR fdR,G.lv=k + 2/\C42 P w K mg base G.cls fR fdR/\C52 K nm fd/\Low P w K mg base G k)
  (hF:∀ l z,F' false f l z=run G.F (.code ps.length N.length b) l z):X80 P w K mg base (CX1 P w) (G.lv + 1) fa fd ps (spF K { G with F:=F',lv:=G.lv + 1 } f ps.length):=by
 ¤Y32 Fn Sc (λvs H Q E h=>h.1) λcdv hcd A outer s H vs Qv E hr hsp=>?_
 ¶⟨hlen,zA,z,ss,r,rv,st',e,po⟩:=hsp
 ¤⟨_,(x92 (H0:=H) (zE:=zA) (y02 g Sc hl hr hcd hlam) b ch).1 hq,?_⟩
 have e0:(if ss.length=ps.length/\ps.length<=N.length then(match ex G.F z.isNone b (Q.start N.length (ss.map plS)) z with
  |some (.ok (.nx _) z1)=>some (R.ok (S.d .non) (L60 z z1))
  |some (.ok (.rt s) z1)=>some (R.ok s (L60 z z1))
  |some (.er c z1)=>some (R.er c (L60 z z1))
  |none=>none) else none)=some r:=by
  have:=hF ss z
  §this.symm.trans e
 rw[B01 st'] at e0
 split at e0
 ·have rw0:RW K H zA zA (λ_=>none) H (Q.start N.length (ss.map plS)) (L2.start N vs):=Q41 rv.plS λs hs xs=>by
   ¶⟨s',_,rfl⟩:=Ú.mp hs
   cases s' <;> §λh=>nomatch h
  split at e0
  ·rename_i ρ z1 e1
   cases e0
   ¤⟨zA,_,_,z,_,rw0,st',e1,λzA' ow' σ' H' r' st1 _=>?_⟩
   ¤po .non H' r'.ext ?_ (show Hd K (hz zA H') .non .non from Hd.non)
   rw[← i22 st'];§l52 r'.zok st1
  ·rename_i s1 z1 e1
   cases e0
   ¤⟨zA,_,_,z,_,rw0,st',e1,λv H' nz x st1 rv'=>?_⟩
   §po v H' x (by rw[← i22 st'];§st1) rv'
  ·rename_i c z1 e1
   cases e0
   ¤⟨zA,_,_,z,_,rw0,st',e1,λe H' x st1 hn=>?_⟩
   §po e H' x (by rw[← i22 st'];§st1) hn
  ·cases e0
 ·cases e0
def lev(G:Gs)(T:List Df)(k:Nat):Gs:={ G with F:=T30 T k,lv:=k }
÷y12{T:List Df}(num:∀ p∈G.nums,∃ t,mg p.1=some (.int p.2 t))(blt:∀ n∈f62,mg n=none)
  (cls:∀ c x,cn[c]?=some x->mg x=some (.ref (G.cls c))/\Ì2 K (G.cls c) [.type "ValueError",.type "Exception",.type "BaseException",.type "object"] "ValueError.__new__"=true)
  (hd:∀ (f:Nat) (nm:Str) (ps:List Str),G.fns[f]?=some (nm,ps)->∃ (fa:Ç) (fd:Å2),mg nm=some (.ref fa)/\Ó7 K (.ref fa)=true/\Binds K fd ps [] /\
   ((∃ (lm:Bool) (N:List Str) (st:Å1) (b:Sm),T[f]?=some (Df.code ps.length N.length b)/\Fun K nm nm st fa fd/\k30 N ps (c00 st)/\N.all (U70 (c00 st))=true/\isQ b=true/\mtS lm G.fns G.nums cn (c00 st) N b (i40 st)=true/\(lm=true->∃ fR fdR,C42 P w K mg base G.cls fR fdR/\C52 K nm fd)) ∨
    T[f]?=none)):∀ k,GX P w K mg base (lev G T k) cn:=by
 have zero:∀ k,k < 3->GX P w K mg base (lev G T k) cn:=λk hk=>by
  ¤⟨λf nm ps h=>?_,num,blt,cls⟩
  ¶⟨fa,fd,h1,h2,h3,_⟩:=hd f nm ps h
  ¤⟨fa,fd,h1,h2,h3,λvs H Q E q=>q.1,λA outer s H args us vs Q E hr he hb hv hs=>?_⟩
  ¶⟨_,zA,z,ss,r,_,_,e,_⟩:=hs
  match k,hk with
  |0,_=>cases e
  |1,_=>cases e
  |2,_=>cases e
 intro k
 induction k using Nat.strongRecOn with
 |ind k ih =>
  match k,ih with
  |0,_=>§zero 0 (by decide)
  |1,_=>§zero 1 (by decide)
  |2,_=>§zero 2 (by decide)
  |k + 3,ih =>
   ¤⟨λf nm ps h=>?_,num,blt,cls⟩
   ¶⟨fa,fd,h1,h2,h3,h4⟩:=hd f nm ps h
   ¤⟨fa,fd,h1,h2,h3,?_⟩
   rcases h4 with ⟨lm,N,st,b,k1,k2,k3,k4,k5,k6,k7⟩ | h4
   ·¤B11 (G:=lev G T (k + 2)) (F':=T30 T (k + 3)) (ih (k + 2) (by omega)) k2 k3 k4 k6 k5 (λhlm=>?_) λl z=>?_
    ·¶⟨fR,fdR,L,D⟩:=k7 hlm
     §⟨k,fR,fdR,rfl,L,D,λf nm ps h=>(ih k (by omega)).gok f nm ps h⟩
    ·show(match T[f]? with | some d=>run (T30 T (k + 2)) d l | none=>M.no) z=_
     rw[k1];rfl
   ·¤⟨λvs H Q E q=>q.1,λA outer s H args us vs Q E hr he hb hv hs=>?_⟩
    ¶⟨_,zA,z,ss,r,_,_,e,_⟩:=hs
    have e':(match T[f]? with | some d=>run (T30 T (k + 2)) d ss | none=>M.no) z=some r:=e
    rw[h4] at e'
    cases e'
end
end Q
namespace L2
open PySem PySem.W PySem.Calls PyProof.Rows
def D90(thr sok:Thread->Bool)(stp:SharedT->Thread->Option (SharedT × Thread)):Nat->SharedT->Thread->Option SharedT
 |0,_,_=>none
 |n + 1,s,t=>match thr t with
  |true=>some s
  |false=>match sok t with
   |false=>none
   |true=>match stp s t with
    |some (s',t')=>D90 thr sok stp n s' t'
    |none=>none
÷U80:∀ {n:Nat}{s s':SharedT}{t:Thread},D90 through (stepOk n₀ ann) (stepT (denote tb) p w) n s t=some s'->topRun tb p w n₀ ann n s.abs t=some s'.abs
 |0,_,_,_,h=>by cases h
 |n + 1,s,s',t,h=>by
  unfold D90 at h
  unfold topRun
  cases ht:through t with
  |true=>rw[ht] at h;cases h;rfl
  |false =>
   rw[ht] at h
   cases hok:stepOk n₀ ann t with
   |false=>rw[hok] at h;cases h
   |true =>
    rw[hok] at h
    cases hst:stepT (denote tb) p w s t with
    |none=>rw[hst] at h;cases h
    |some r=>¶⟨s₂,t₂⟩:=r;rw[hst] at h;rw[stepT_spec hst];§U80 h
def grow:List Obj->Nat->BT->BT
 |[],_,t=>t
 |o::r,i,t=>grow r (i + 1) (t.ins i o)
def i32(w:è)(os:OsState):SharedT:=⟨grow (Ê2 w.params).objs.toList 0 .nil,11,(Ê2 w.params).life,Array.mk [],boot_drawn,boot_toks,os⟩
÷B21:∀ (w:è) (os:OsState),(i32 w os).abs=⟨Ê2 w.params,Array.mk [],boot_drawn,boot_toks,os⟩:=λw os=>by kernel_rfl
÷B31:∀ w:è,((Ê2 w.params).isNs ä&&(Array.mk []:Array Þ1).size == 0,(Ê2 w.params).objs.size,(Ê2 w.params).nsMap ä "__annotations__")=(true,11,some (.ref 6)):=λw=>by kernel_rfl
÷i42{p q:ß}{loose:List Str}{Xt:Æ->Bool}{α:Type}{Yf:Æ->α}{Ya:è->α}{N:Nat}
  (e:opening p=plainProg p.main.scope.names) (hN:ble 600 N=true) (f:∀ s,fenceModules? p s=some s)
  (run:∀ (w:è) (os:OsState),(D90 through (stepOk 11 (some (.ref 6))) (stepT (denote treeTable) p w) N (i32 w os) (topStub p)).map (λs =>
   (staticsOk (Ï4 p.main.body) (Ê2 w.params) s.abs.heap&&namesBound p s.abs.heap&&gensDone s.abs&&laidKept (Ê2 w.params) s.abs.heap,
    openSeen q loose (Ï4 p.main.body) Xt true s.abs,Yf s.abs))=some (true,openGood q loose,Ya w)):LeftO p q loose Xt Yf Ya N:=λw=>by
 ¶⟨⟨h,gs,d,k,os⟩,e1,e2⟩:=Ê.mp (boot_open (N:=N) e hN f w)
 obtain⟨rfl,rfl,rfl,rfl⟩:h=Ê2 w.params/\gs=Array.mk []/\d=boot_drawn/\k=boot_toks:=by simpa using e2
 obtain⟨z1,z2,z3⟩:_/\_/\_:=by simpa only [Ï7] using B31 w
 ¶⟨s1,r1,r2⟩:=Ê.mp (run w os)
 obtain⟨l1,l2,l3⟩:_/\_/\_:=by simpa only [Ï7] using r2
 have r:=U80 r1
 rw[B21] at r
 unfold openEnds
 rw[e1]
 show Î4 _ (topFrom treeTable p w N _)=_
 unfold topFrom
 dsimp only
 rw[z1,z2,z3,r]
 show Î4 _ (match staticsOk (Ï4 p.main.body) (Ê2 w.params) s1.abs.heap&&namesBound p s1.abs.heap&&gensDone s1.abs&&laidKept (Ê2 w.params) s1.abs.heap with | true=>_ | false=>_)=_
 rw[l1]
 §congrArg Option.some (Prod.ext l2 l3)
def U90(o:Obj):Bool:=match o with
 |⟨.none,none,.fields vs,sl⟩=>vs.isEmpty&&sl.isEmpty
 |_=>false
def M82(h:ì)(a:Ç):Option Obj:=match h.get? a with
 |some o=>if U90 o then none else some o
 |none=>none
def fragOf(h:ì):Frag:=(í h.objs.size).filterMap λa=>(M82 h a).map λo=>(a,o)
÷u60(g:Ç->Option Obj)(a:Ç):∀ l:List Ç,(l.filterMap λa=>(g a).map λo=>(a,o)).lookup a=if a∈l then g a else none
 |[]=>rfl
 |b::r=>by
  by_cases hb:a=b
  ·subst hb
   rw[if_pos Ì]
   cases hg:g a with
   |none =>
    rw[Á3,hg]
    show(r.filterMap λa=>(g a).map λo=>(a,o)).lookup a=none
    rw[u60 g a r]
    split
    ·§hg
    ·rfl
   |some o =>
    rw[Á3,hg]
    show Í0 a ((a,o)::_)=some o
    rw[List.lookup_cons_self]
  ·have hm:(a∈b::r)↔a∈r:=by rw[Â9];§⟨λh=>h.resolve_left hb,Ù9⟩
   have ih:=u60 g a r
   have e:(if a∈b::r then g a else none)=if a∈r then g a else none:=by simp only[hm]
   rw[e,← ih]
   cases hg:g b with
   |none=>rw[Á3,hg];rfl
   |some o =>
    rw[Á3,hg]
    show Í0 a ((b,o)::_)=_
    have:(a == b)=false:=by simpa using hb
    simp only[Í0,this]
÷B41(h:ì):(fragOf h).In h:=λa o e=>by
 unfold fragOf at e
 rw[u60] at e
 split at e
 ·unfold M82 at e
  cases hg:h.get? a with
  |none=>rw[hg] at e;cases e
  |some u =>
   rw[hg] at e
   dsimp only at e
   split at e
   ·cases e
   ·§e
 ·cases e
÷i52(h:U90 o=true):o=tabObj #[]:=by
 unfold U90 at h
 split at h
 ·rename_i vs sl
  rw[Á,Array.isEmpty_iff,Array.isEmpty_iff] at h
  ¶⟨rfl,rfl⟩:=h
  rfl
 ·cases h
÷o51(e:h.get? a=some o)(t:U90 o=true):(fragOf h).lookup a=none:=by
 unfold fragOf
 rw[u60]
 split
 ·unfold M82;rw[e];§if_pos t
 ·rfl
def B51(K:Frag)(x:Str):Option (Str × Str × Î1 × FuncBody × ý × Ç × List (Str × Ç) × Ä × Ç × Bool):=match nsIn K ä x with
 |some (some (.ref at0))=>(match K.lookup at0 with
  |some ⟨_,_,.func fd,_⟩=>some (fd.name,fd.qualname,fd.params,fd.body,fd.scope,fd.globals,fd.closure,fd.defaults,fd.builtins,codeIn K fd.code x)
  |_=>none)
 |_=>none
def i62(x:Str)(st:Å1):Option (Str × Str × Î1 × FuncBody × ý × Ç × List (Str × Ç) × Ä × Ç × Bool):=some (x,x,J60 st,.stmts (i40 st),c00 st,ä,[],.none,Í7,true)
÷b61{K:Frag}{x:Str}{st:Å1}(e:B51 K x=i62 x st):∃ f fd,nsIn K ä x=some (some (.ref f))/\Fun K x x st f fd/\∃ oc od sl,K.lookup f=some ⟨oc,od,.func fd,sl⟩:=by
 unfold B51 i62 at e
 split at e
 ·rename_i f hf
  split at e
  ·rename_i oc od fd sl hl
   ¶⟨nm,qn,pm,bd,sc,gl,cl,df,kd,dc,py,an,cd,ct,bl⟩:=fd
   simp only[Ï7,Ê0] at e
   ¶⟨rfl,rfl,rfl,rfl,rfl,rfl,rfl,rfl,rfl,hc⟩:=e
   §⟨f,_,hf,⟨⟨oc,od,kd,dc,py,an,cd,ct,sl,rfl,hl,hc⟩,by simp only[keepIn,hl]⟩,oc,od,sl,hl⟩
  ·cases e
 ·cases e
def tab0At(h:ì)(T:Ç):Bool:=match h.get? T with
 |some o=>U90 o
 |none=>false
÷B61{h:ì}{T:Ç}(e:tab0At h T=true):h.get? T=some (tabObj #[]):=by
 unfold tab0At at e
 split at e
 ·rename_i o ho
  rw[ho,i52 e]
 ·cases e
def B71(h:ì)(K:Frag)(x:Str):Option Addr:=match nsIn K ä x with
 |some (some (.ref at0))=>(match K.lookup at0 with
  |some ⟨_,_,.func fn0,_⟩=>(match fn0.code with
   |.ref c=>(match K.lookup c with
    |some ⟨_,_,.fields vs,_⟩=>(match (vs[11]?:Option Ä) with
     |some (.ref T)=>if codeHdIn K c T&&tab0At h T then some T else none
     |_=>none)
    |_=>none)
   |_=>none)
  |_=>none)
 |_=>none
÷o61{h:ì}{K:Frag}{x:Str}{T:Ç}(e:B71 h K x=some T):h.get? T=some (tabObj #[])/\∃ f oc od fd sl c,nsIn K ä x=some (some (.ref f))/\K.lookup f=some ⟨oc,od,.func fd,sl⟩/\fd.code=.ref c/\codeHdIn K c T=true:=by
 unfold B71 at e
 split at e
 ·rename_i f hf
  split at e
  ·rename_i oc od fd sl hl
   split at e
   ·rename_i c hc
    split at e
    ·split at e
     ·rename_i T' _
      split at e
      ·rename_i q
       cases e
       rw[Á] at q
       ¶⟨q1,q2⟩:=q
       §⟨B61 q2,f,oc,od,fd,sl,c,hf,hl,hc,q1⟩
      ·cases e
     ·cases e
    ·cases e
   ·cases e
  ·cases e
 ·cases e
def i00:List Str:=["NoWeb","NoLot","NoPlaces","NoPlace","NoTie","NoChance","NoChances","NoPaper","TooMany","NoText","NoLine","NoDeed"]
def V00(K:Frag)(x:Str):Option Addr:=match nsIn K ä x with
 |some (some (.ref f))=>some f
 |_=>none
÷M80{K:Frag}{x:Str}{f:Ç}(e:V00 K x=some f):nsIn K ä x=some (some (.ref f)):=by
 unfold V00 at e
 split at e
 ·cases e;assumption
 ·cases e
abbrev Q02:=Option (Option Ä) × Option (Option Ä) × Option Bool × Option Bool × Option (Option Ä) × Bool × Option Bool × Option Bool × Bool × List (Option Bool)
def b71(K:Frag)(C:Ç):Q02:=(findIn K (.ref C) "__getattribute__",findIn K (.ref C) "__getattr__",mroIn K C (.type "BaseException"),mroIn K C (.type "object"),findIn K (.ref C) "__class__",hasDictIn K C,kitOne K (.ref C) (.type "ValueError"),
 (V00 K "ChanceError").bind λD=>exmOne K (.ref C) (.ref D),excIn K C [.type "ValueError",.type "Exception",.type "BaseException",.type "object"] "ValueError.__new__",i00.map λy=>(V00 K y).bind λB=>kitOne K (.ref C) (.ref B))
def B81(x:Str):Q02:=(some (some (Ð7 "BaseException.__getattribute__")),some (none:Option Ä),some true,some true,some (some (Ð7 "object.__class__")),true,some true,some true,true,i00.map λy=>some (decide (x=y)))
def b81(K:Frag)(x:Str):Option Int:=match nsIn K ä x with
 |some (some (.int i _))=>some i
 |_=>none
÷b91{K:Frag}{x:Str}{i:Int}(e:b81 K x=some i):∃ t,nsIn K ä x=some (some (.int i t)):=by
 unfold b81 at e
 split at e
 ·rename_i t h;cases e;§⟨t,h⟩
 ·cases e
def c01(K:Frag)(x:Str):Bool:=match nsIn K ä x with
 |some none=>true
 |_=>false
÷c21{K:Frag}{x:Str}(e:c01 K x=true):nsIn K ä x=some none:=by
 unfold c01 at e
 split at e
 ·assumption
 ·cases e
structure n50 where
 ds:List (Str × Stmt)
 is:List (Str × Int)
 ns:List Str
 ms:List Str
 cs:List Str
def n50.obs(q:n50)(s:Æ) :=
 let K:=fragOf s.heap
 (q.ds.map λd=>B51 K d.1,q.is.map λd=>b81 K d.1,q.ns.map (c01 K),q.ms.map λx=>(B71 s.heap K x).isSome,q.cs.map λx=>(V00 K x).map (b71 K),
  (specialIn K (.builtin "object.__class__") "__get__",takesIn K (.builtin "object.__class__")))
def n50.due(q:n50)(_:è) :=
 (q.ds.map λd=>i62 d.1 d.2,q.is.map λd=>some d.2,q.ns.map λ_=>true,q.ms.map λ_=>true,q.cs.map λx=>some (B81 x),
  (some (some (Ð7 "getset_descriptor.__get__")),some true))
structure Facts(q:n50)(K:Frag)(h:Heap):Prop where
 fn:∀ d∈q.ds,∃ f fd,nsIn K mainGlobals d.1=some (some (.ref f))/\Fun K d.1 d.1 d.2 f fd/\∃ oc od sl,K.lookup f=some ⟨oc,od,.func fd,sl⟩
 it:∀ d∈q.is,∃ t,nsIn K mainGlobals d.1=some (some (.int d.2 t))
 no:∀ x∈q.ns,nsIn K mainGlobals x=some none
 mt:∀ x∈q.ms,∃ T,h.get? T=some (tabObj #[])/\K.lookup T=none/\∃ f oc od fd sl c,nsIn K mainGlobals x=some (some (.ref f))/\K.lookup f=some ⟨oc,od,.func fd,sl⟩/\fd.code=.ref c/\codeHdIn K c T=true
 cl:∀ x∈q.cs,∃ C,nsIn K mainGlobals x=some (some (.ref C))/\b71 K C=B81 x
 sp:specialIn K (.builtin "object.__class__") "__get__"=some (some (Value.builtin "getset_descriptor.__get__"))
 tk:takesIn K (.builtin "object.__class__")=some true
÷H40{α β:Type}{f g:α->β}:∀ {l:List α},l.map f=l.map g->∀ a∈l,f a=g a:=λ{l} h a ha=>List.map_inj_left.mp h a ha
÷n50.facts(q:n50)(w:è)(s:Æ)(e:q.obs s=q.due w):Facts q (fragOf s.heap) s.heap:=by
 unfold n50.obs n50.due at e
 simp only[Ï7] at e
 ¶⟨e1,e2,e3,e4,e5,e6,e7⟩:=e
 ¤⟨λd hd=>b61 (H40 e1 d hd),λd hd=>b91 (H40 e2 d hd),λx hx=>c21 (H40 e3 x hx),λx hx=>?_,λx hx=>?_,e6,e7⟩
 ·¶⟨T,hT⟩:=Þ7.mp (H40 e4 x hx)
  ¶⟨h1,h2⟩:=o61 hT
  §⟨T,h1,o51 h1 rfl,h2⟩
 ·¶⟨C,h1,h2⟩:=Ê.mp (H40 e5 x hx)
  §⟨C,M80 h1,h2⟩
def n50.hook(q:n50):Hook where
 α:=_
 obs:=q.obs
 val:=q.due
 says:=λ_ h=>∃ K:Frag,K.In h/\Facts q K h
 of:=λw s e=>⟨_,B41 _,q.facts w s e⟩
 keeps:=λ_ h h' ⟨K,X,F⟩ k=>⟨K,X.keeps k,⟨F.fn,F.it,F.no,λx hx=>let ⟨T,a,b⟩:=F.mt x hx;⟨T,k _ _ a,b⟩,F.cl,F.sp,F.tk⟩⟩
end L2
namespace Q
open PySem L2 PySem.Spec PyProof.Rows
structure Row where
 nm:Str
 ps:List Str
 st:Stmt
 N:List Str
 b:Sm
 lm:Bool
def B91(N ps:List Str)(sc:ý):Bool:=sc.kind == .function&&!sc.isCoroutine&&!sc.isGenerator&&decide N.Nodup&&N.take ps.length == ps&&ps.all (λx=>sc.names.lookup x == some .local || sc.names.lookup x == some .cell)&&sc.names.all λy=>y.2 != .free
÷i31(h:B91 N ps sc=true):k30 N ps sc:=by
 unfold B91 at h
 simp only[Á,À0,beq_iff_eq,Æ9,decide_eq_true_eq,Å6] at h
 ¶⟨⟨⟨⟨⟨⟨h1,h2⟩,h3⟩,h4⟩,h5⟩,h6⟩,h7⟩:=h
 §⟨h1,h2,h3,h4,h5,h6,λy hy=>by simpa using h7 y hy⟩
def C01(r:Row):Prop:=∀ (kV doc pm:Ä) (an:Option Ç) (cdv ct:Ä) (us:List Ä),us.length=r.ps.length->bindArgs (fnOf r.nm r.nm (J60 r.st) (i40 r.st) (c00 r.st) .none kV doc pm an cdv ct) ⟨us,[]⟩=pure (r.ps.zip us)
def o60:List Row->Prop
 |[]=>True
 |r::l=>C01 r/\o60 l
÷o60.at:∀ {l:List Row}{r:Row},o60 l->r∈l->C01 r
 |_::_,_,h,.head _=>h.1
 |_::_,_,h,.tail _ m=>o60.at h.2 m
÷us1(h:us.length=1):∃ a,us=[a]:=List.length_eq_one_iff.mp h
÷us2(h:us.length=2):∃ a b,us=[a,b]:=by
 match us,h with
 |[a,b],_=>§⟨a,b,rfl⟩
÷us3(h:us.length=3):∃ a b c,us=[a,b,c]:=by
 match us,h with
 |[a,b,c],_=>§⟨a,b,c,rfl⟩
÷us4(h:us.length=4):∃ a b c d,us=[a,b,c,d]:=by
 match us,h with
 |[a,b,c,d],_=>§⟨a,b,c,d,rfl⟩
÷us5(h:us.length=5):∃ a b c d e,us=[a,b,c,d,e]:=by
 match us,h with
 |[a,b,c,d,e],_=>§⟨a,b,c,d,e,rfl⟩
def l62(fns:List (Str × List Str))(nums:List (Str × Int))(r:Row):Bool:=mtS r.lm fns nums i00 (c00 r.st) r.N r.b (i40 r.st)&&isQ r.b&&r.N.all (U70 (c00 r.st))&&B91 r.N r.ps (c00 r.st)
def G40(rows:List Row):List (Str × List Str):=rows.map λr=>(r.nm,r.ps)
def tabOf(rows:List Row):List Df:=rows.map λr=>Df.code r.ps.length r.N.length r.b
def H50(rows:List Row)(nums:List (Str × Int))(mn:List Str)(ex:List (Str × Å1)):n50:=⟨rows.map (λr=>(r.nm,r.st))++ex,nums,"ValueError"::f62,mn,i00⟩
def clsAt(K:Â)(c:Nat):Addr:=(V00 K (i00.getD c "")).getD 0
÷y22{K:Â}{C:Ç}{c:Nat}{x:Str}(hc:i00[c]?=some x)(h:Ò0 K ä x=some (some (.ref C))):clsAt K c=C:=by
 unfold clsAt
 rw[Ö,hc]
 show(V00 K x).getD 0=C
 unfold V00
 rw[h];rfl
÷y32{K:Â}{h:ì}{mg:Str->Option Ä}{q:n50}{x:Str}{j:Nat}(X:K.In h)(G:h.Ns ä mg)(F:Facts q K h)(hx:x∈q.cs)(hj:names12[j]?=some x)(hv:("ValueError":Str)∈q.ns):∃ C,Ò0 K ä x=some (some (.ref C))/\S30 K mg C j/\Ì2 K C [.type "ValueError",.type "Exception",.type "BaseException",.type "object"] "ValueError.__new__"=true:=by
 ¶⟨C,hC,e⟩:=F.cl x hx
 unfold b71 B81 at e
 simp only[Ï7] at e
 ¶⟨u1,u2,u3,u4,u5,hd,ve,ce,ex,ys⟩:=e
 ¶⟨D,hD,ce⟩:=Î.mp ce
 have lt:j < 12:=(Þ.mp hj).1
 ¤⟨C,hC,⟨λi y hy=>?_,⟨u1,u2,u3,u4,u5,F.sp,F.tk⟩,hd,ve,mg_none_of X G (F.no _ hv),⟨D,mg_of X G (M80 hD),ce⟩,lt⟩,ex⟩
 have hm:=H40 ys y (é hy)
 ¶⟨B,hB,hk⟩:=Î.mp hm
 ¤⟨B,mg_of X G (M80 hB),hk.trans (congrArg some (decide_eq_decide.mpr ⟨λq=>?_,λq=>?_⟩))⟩
 ·subst q
  have nd:names12.Nodup:=by decide +kernel
  §(List.getElem?_inj (Þ.mp hy).1 nd).mp (hy.trans hj.symm)
 ·subst q
  rw[hj] at hy;cases hy;rfl
section
variable {P:ß}{w:è}{K:Â}{mg:Str->Option Ä}{base:ì}
÷ok0(F:X80 P w K mg base (CX1 P w) k f fd ps sp):X80 P w K mg base CX0 k f fd ps (λvs H Q _=>sp vs H Q λ_ _ _=>False) :=
 ⟨λvs H Q E h=>F.len _ _ _ _ h,λA outer s H args us vs Q E hr he hb hv hs=>È1 (F.run A outer s H args us vs Q _ hr he hb hv hs) λr s' h=>by
  cases r with
  |error e =>
   ¶⟨_,_,_,_,_,_,_,_,_,_,_,_,_,hE⟩:=h
   §hE.elim
  |ok fl=>cases fl <;> §h⟩
÷Y42:ß6 (#[]:Array Ä).toList:=by first | trivial | (unfold ß6;trivial)
÷p90.noT[TB:Tb](h:p90 K H a xs):p90 K (hz none H) a xs:=by
 rcases h with (h | ⟨o,h⟩) | h
 ·§.inl (.inl (e10 h (λq=>nomatch q)))
 ·§.inl (.inr ⟨o,e10 h (λq=>nomatch q)⟩)
 ·§.inr h
÷y42[TB:Tb]{G:Gs}{T:List Df}{k f:Nat}{H:Hp}{a:Ç}{ns:List Int}(pure:b40 T k f [.d (.lst (ns.map D.int))] none=some (.ok (.d (.bl true)) none))(hH:∀ p∈TB.tb,H p.1=some (.tbl #[]))(hS:p90 K H a (ns.map V.int)) :
  spF K (lev G T k) f 1 [.ref a] H (λv _=>v=.bl true) λ_ _ _=>False:=by
 ¤⟨rfl,none,none,[.d (.lst (ns.map D.int))],_,.cons ?_ .nil,⟨trivial,λp hp=>⟨#[],hH p hp,Y42,λpos c e=>nomatch e⟩⟩,pure,λv H' x st rv=>Hd.bl_ (show Hd K (hz none H') (.bl true) v from rv)⟩
 show Hd K (hz none H) (.lst (ns.map D.int)) (.ref a)
 unfold Hd
 §⟨a,ns.map V.int,rfl,hS.noT,HdA.ints ns⟩
end
def Q12(nm:Str):Str:=(Ï5 nm ⟨.function,[],false,false,[]⟩ 0 0 .none).qual++"<lambda>"
÷y52{rows:List Row}{f:Nat}{nm:Str}{ps:List Str}(h:(G40 rows)[f]?=some (nm,ps)):∃ r∈rows,rows[f]?=some r/\r.nm=nm/\r.ps=ps:=by
 unfold G40 at h
 rw[Ý] at h
 ¶⟨r,h1,h2⟩:=Ê.mp h
 cases h2
 §⟨r,é h1,h1,rfl,rfl⟩
section
variable [TB:Tb] {P:ß}{w:è}{K:Â}{h:ì}{mg:Str->Option Ä}{base:ì}{rows:List Row}{nums:List (Str × Int)}{mn:List Str}{ex:List (Str × Å1)}
def y62(rows:List Row)(mn:List Str)(ex:List (Str × Å1)):Prop:=∀ r∈rows,r.lm=true->r.nm∈mn/\∃ (sR:Å1) (n:Nat),(("_law_refused":Str),sR)∈ex/\c00 sR=u10/\i40 sR=Z80 n/\C01 ⟨"_law_refused",["_law_call"],sR,[],.nil,false⟩
def M92[TB:Tb](K:Â)(rows:List Row):Prop:=∀ r∈rows,r.lm=true->∀ fd,(∃ f oc od sl,Ò0 K ä r.nm=some (some (.ref f))/\K.lookup f=some ⟨oc,od,.func fd,sl⟩)->C52 K r.nm fd
÷C11(X:K.In h)(Gn:h.Ns ä mg)(Q:Facts (H50 rows nums mn ex) K h):∀ c x,i00[c]?=some x->Ò0 K ä x=some (some (.ref (clsAt K c)))/\S30 K mg (clsAt K c) c/\Ì2 K (clsAt K c) [.type "ValueError",.type "Exception",.type "BaseException",.type "object"] "ValueError.__new__"=true:=λc x hc=>by
 ¶⟨C,h1,h2,h3⟩:=y32 (x:=x) (j:=c) X Gn Q (é hc) hc Ì
 rw[y22 hc h1]
 §⟨h1,h2,h3⟩
÷C21(X:K.In h)(Gn:h.Ns ä mg)(Q:Facts (H50 rows nums mn ex) K h)(bm:BMain mg base)(hR:y62 rows mn ex)(hr:r∈rows)(hlm:r.lm=true):∃ fR fdR,C42 P w K mg base (clsAt K) fR fdR:=by
 ¶⟨hmn,sR,n,g1,g2,g3,g4⟩:=hR r hr hlm
 obtain⟨fR,fdR,a2,F2,oc2,od2,sl2,lk2⟩:=Q.fn ("_law_refused",sR) (ï _ g1)
 ¤⟨fR,fdR,bm,λj hj=>?_,mg_of X Gn a2,F2.kp,F2.binds g4,λk=>r32 F2 g2 g3 (mg_none_of X Gn (Q.no _ (È _ (by decide)))) (mg_none_of X Gn (Q.no _ (È _ (by decide))))⟩
 have hx:∃ x,i00[j]?=some x:=⟨_,ç (by §hj)⟩
 ¶⟨x,hx⟩:=hx
 §(C11 X Gn Q j x hx).2.1
÷i72(X:K.In h)(Gn:h.Ns ä mg)(Q:Facts (H50 rows nums mn ex) K h)(ok:rows.all (l62 (G40 rows) nums)=true)(bd:o60 rows)(bm:BMain mg base)(hR:y62 rows mn ex)(hT:M92 K rows)(F0:FT):∀ k,GX P w K mg base (lev ⟨G40 rows,nums,F0,clsAt K,0⟩ (tabOf rows) k) i00:=by
 ¤y12 (λp hp=>?_) (λn hn=>?_) (λc x hc=>?_) λf nm ps hf=>?_
 ·¶⟨t,e⟩:=Q.it p hp
  §⟨t,mg_of X Gn e⟩
 ·§mg_none_of X Gn (Q.no n (È _ hn))
 ·¶⟨h1,_,h3⟩:=C11 X Gn Q c x hc
  §⟨mg_of X Gn h1,h3⟩
 ·¶⟨r,hr,hr2,rfl,rfl⟩:=y52 hf
  ¶⟨fa,fd,a1,F1,oc,od,sl,lk⟩:=Q.fn (r.nm,r.st) (Æ6 _ (Ú.mpr ⟨r,hr,rfl⟩))
  have rb:=Õ.mp ok r hr
  unfold l62 at rb
  simp only[Á] at rb
  ¶⟨⟨⟨b1,b2⟩,b3⟩,b4⟩:=rb
  ¤⟨fa,fd,mg_of X Gn a1,F1.kp,F1.binds (bd.at hr),.inl ⟨r.lm,r.N,r.st,r.b,?_,F1,i31 b4,b3,b2,b1,λhlm=>?_⟩⟩
  ·unfold tabOf
   rw[Ý,hr2];rfl
  ·¶⟨fR,fdR,L⟩:=C21 (P:=P) (w:=w) X Gn Q bm hR hr hlm
   §⟨fR,fdR,L,hT r hr hlm fd ⟨fa,oc,od,sl,a1,lk⟩⟩
÷y72(X:K.In h)(Gn:h.Ns ä mg)(Q:Facts (H50 rows nums mn ex) K h)(ok:rows.all (l62 (G40 rows) nums)=true)(bd:o60 rows)(bm:BMain mg base)(hR:y62 rows mn ex)(hT:M92 K rows)(F0:FT)(k:Nat)(hi:rows[i]?=some r)(F1:Fun K r.nm r.nm r.st fa fd)
  (hfd:∃ f oc od sl,Ò0 K ä r.nm=some (some (.ref f))/\K.lookup f=some ⟨oc,od,.func fd,sl⟩):X80 P w K mg base (CX1 P w) (k + 3) fa fd r.ps (spF K (lev ⟨G40 rows,nums,F0,clsAt K,0⟩ (tabOf rows) (k + 3)) i r.ps.length):=by
 have hr:=é hi
 have rb:=Õ.mp ok r hr
 unfold l62 at rb
 simp only[Á] at rb
 ¶⟨⟨⟨b1,b2⟩,b3⟩,b4⟩:=rb
 have all:=i72 (P:=P) (w:=w) X Gn Q ok bd bm hR hT F0
 ¤B11 (G:=lev ⟨G40 rows,nums,F0,clsAt K,0⟩ (tabOf rows) (k + 2)) (F':=T30 (tabOf rows) (k + 3)) (all (k + 2)) F1 (i31 b4) b3 b1 b2 (λhlm=>?_) λl z=>?_
 ·¶⟨fR,fdR,L⟩:=C21 (P:=P) (w:=w) X Gn Q bm hR hr hlm
  §⟨k,fR,fdR,rfl,L,hT r hr hlm fd hfd,λf nm ps h=>(all k).gok f nm ps h⟩
 ·show(match (tabOf rows)[i]? with | some d=>run (T30 (tabOf rows) (k + 2)) d l | none=>M.no) z=_
  unfold tabOf
  rw[Ý,hi];rfl
end
÷C31{P:ß}{w:è}{K:Â}{mg mb:Str->Option Ä}{k:Nat}{fa a:Ç}{fd:Å2}{x:Str}{sp:Sp}{s₁:Æ}{vs:List Ä}{ns:List Int}{ts:List Ç}
  (KX:K.In s₁.heap) (hns:s₁.heap.Ns ä mg) (hb:s₁.heap.Ns Í7 mb) (hbb:∀ x:Str,x≠"__name__"->mb x=ë x) (hlim:s₁.heap.NoLimit) (hg:s₁.gens=#[])
  (ha:s₁.heap.get? a=some { cls:=.type "list",data:=.seq vs.toArray }) (hi:Ë5 vs ns) (hl:ns.length<=Û) (hr:A00 k Ý5)
  (hT:∀ Pt∈ts,s₁.heap.get? Pt=some (È3 #[])/\K.lookup Pt=none/\∃ c,Ä8 K c Pt=true) (bmn:BMain mg s₁.heap)
  (F:∀ base:ì,K.In base->base.Ns ä mg->BMain mg base->X80 P w K mg base CX0 k fa fd [x] sp) (hbind:∀ (s:Æ) (u:Ä),BindsTo s fd ⟨[u],[]⟩ [(x,u)])
  (hsp:∀ H:Hp,(∀ Pt∈ts,H Pt=some (.tbl #[]))->p90 K H a (ns.map V.int)->sp [.ref a] H (λv _=>v=.bl true) λ_ _ _=>False) :
  Î3 (Ô P w) Ý5 (.call (.ref fa) ⟨[.ref a],[]⟩) (λr s'=>r=.ok (.ret (.bool true))/\OldK s₁.heap s'.heap/\s'.os=s₁.os/\Ó5 s'.gens) s₁:=by
 have rv:=R50 hi
 have lenV:=hi.length
 have naT:a ∉ ts:=λh=>by have:=(hT a h).1;rw[ha] at this;cases this
 have core:∀ H:Hp,(∀ Pt∈ts,H Pt=some (.tbl #[]))->(∀ b,H b=none∨b∈ts∨(b=a/\∃ xs,H b=some (.frz { cls:=.type "list",data:=.seq vs.toArray } (.lst xs))))->p90 K H a (ns.map V.int)->HOk P w H s₁.heap->(H a≠none->K.lookup a=none) ->
   Î3 (Ô P w) Ý5 (.call (.ref fa) ⟨[.ref a],[]⟩) (λr s'=>r=.ok (.ret (.bool true))/\OldK s₁.heap s'.heap/\s'.os=s₁.os/\Ó5 s'.gens) s₁:=by
  intro H hH hO hS hok hK
  have plainN:∀ {b:Ç}{o:Obj},s₁.heap.get? b=some o->(∀ xs n,o.data≠.seq xs n)->(∀ xs,o.data≠.fields xs)->H b=none:=λ{b o} e d1 d2=>by
   rcases hO b with z | z | ⟨z,_⟩
   ·§z
   ·have:=(hT b z).1
    rw[e] at this;cases this
    §absurd rfl (d2 _)
   ·rw[z,ha] at e;cases e
    §absurd rfl (d1 _ _)
  have nsK:∀ {b:Ç}{m:Str->Option Ä},s₁.heap.Ns b m->(I11 s₁.heap H).Ns b m:=λ{b m} ⟨o,es,ep,e,d,r⟩=>⟨o,es,ep,I90 e (plainN e (λxs n z=>by rw[d] at z;cases z) λxs z=>by rw[d] at z;cases z),d,r⟩
  have hKb:K.In (I11 s₁.heap H):=λb o e=>I90 (KX b o e) (by
   rcases hO b with z | z | ⟨z,xs,z2⟩
   ·§z
   ·rw[(hT b z).2.1] at e;cases e
   ·rw[z] at e z2
    rw[hK (by rw[z2];§λy=>nomatch y)] at e;cases e)
  have hM:Mod K mg (I11 s₁.heap H):=⟨hKb,nsK hns,⟨mb,nsK hb,hbb⟩,let ⟨mc,h1,h2⟩:=hlim;⟨mc,nsK h1,h2⟩⟩
  have hBM:BMain mg (I11 s₁.heap H):=by
   ¶⟨bm,ob,b1,b2,b3,b4,b5,b6⟩:=bmn
   §⟨bm,ob,b1,b2,I90 b3 (plainN b3 (λxs n z=>by rw[b6] at z;cases z) λxs z=>by rw[b6] at z;cases z),b4,b5,b6⟩
  have e0:Z01 P w K mg (I11 s₁.heap H) Ý5 [] s₁ H:=⟨rfl,hM,λb o e=>Y21 e,Ú8 (q51 _ _),trivial,λb hb=>absurd (show b∈([]:List Ç) from hb) (by simp),hok,.of_eq hg⟩
  ¤È1 ((F _ hKb (nsK hns) hBM).run Ý5 [] s₁ H ⟨[.ref a],[]⟩ [.ref a] [.ref a] _ _ hr e0 (hbind s₁ (.ref a)) (.cons rfl .nil) (hsp H hH hS)) λr s' h=>?_
  cases r with
  |error e=>§À3 h
  |ok fl =>
   cases fl with
   |next=>§À3 h
   |brk=>§À3 h
   |cont=>§À3 h
   |ret u =>
    ¶⟨v,H',os,bare,un,hok',r',q⟩:=h
    have q':v=.bl true:=q
    subst q'
    obtain rfl:u=Î7 true:=r'
    ¤⟨rfl,⟨λb o e=>?_,λb o e=>un.there b o e (by simp)⟩,os,bare⟩
    rcases hO b with z | z | ⟨z,xs,z2⟩
    ·§.inl (un.keep b o e z (by intro y;§absurd (show b∈([]:List Ç) from y) (by simp)) (by simp))
    ·¶⟨t1,_,c,t2⟩:=hT b z
     rw[e] at t1;cases t1
     ¶⟨more,m1⟩:=un.tbls b _ (hH b z)
     have m2:s'.heap.get? b=some { cls:=.none,data:=.fields (#[]++more) }:=hok' b _ m1
     have CH:=codeHd_of_K KX t2
     §.inr (.inl ⟨(CH.tab e).isCodeTable,rfl,#[],more,rfl,m2⟩)
    ·have z3:=un.frzs b _ _ z2
     ¶⟨e1,_⟩:=hok b _ z2
     ¶⟨e2,_⟩:=hok' b _ z3
     rw[e] at e1;cases e1
     §.inl e2
 cases hk:K.lookup a with
 |some o =>
  have e:=KX a o hk
  rw[ha] at e
  cases e
  ¤core (λb=>if b∈ts then some (.tbl #[]) else none) (λPt h=>if_pos h) (λb=>?_) (.inr ⟨vs.toArray,_,hk,by rw[Ó,lenV];§hl,by simpa using rv⟩) (λb u z=>?_) λz=>absurd (if_neg naT) z
  ·by_cases h:b∈ts
   ·§.inr (.inl h)
   ·§.inl (if_neg h)
  ·by_cases h:b∈ts
   ·have z':=(if_pos h).symm.trans z
    cases z'
    §(hT b h).1
   ·have z':=(if_neg h).symm.trans z
    cases z'
 |none =>
  ¤core (λb=>if b=a then some (.frz { cls:=.type "list",data:=.seq vs.toArray } (.lst (ns.map V.int))) else if b∈ts then some (.tbl #[]) else none) (λPt h=>?_) (λb=>?_) (.inl (.inr ⟨{ cls:=.type "list",data:=.seq vs.toArray },if_pos rfl⟩)) (λb u z=>?_) λ_=>hk
  ·rw[if_neg (λy=>naT (by rw[← y];§h)),if_pos h]
  ·by_cases hb:b=a
   ·§.inr (.inr ⟨hb,_,if_pos hb⟩)
   ·by_cases h:b∈ts
    ·§.inr (.inl h)
    ·§.inl (by rw[if_neg hb,if_neg h])
  ·by_cases hb:b=a
   ·have z':=(if_pos hb).symm.trans z
    cases z'
    subst hb
    §⟨ha,by rw[É];§hl,vs,_,rv,ha⟩
   ·replace z:=(if_neg hb).symm.trans z
    by_cases h:b∈ts
    ·have z':=(if_pos h).symm.trans z
     cases z'
     §(hT b h).1
    ·have z':=(if_neg h).symm.trans z
     cases z'
÷Q51{l:PySem.W.OpenLaw}{n k:Nat}{q:ß}{loose:List Str}{XP:(Str->Option Ä)->ì->Prop}{d:DefRec}{A:n50}{x:Str}
  (hn:l.most=some n) (hn2:n<=Û) (hdf:d.params.defaults=[]) (hr:A00 k Ý5)
  (F:∀ (w:è) (mg:Str->Option Ä) (fa:Ç) (h:ì) (K:Â),Facts A K h->K.In h->h.Ns ä mg->mg d.name=some (.ref fa) ->
   ∃ (fd:Å2) (ts:List Ç) (sp:Sp),(∀ Pt∈ts,h.get? Pt=some (È3 #[])/\K.lookup Pt=none/\∃ c,Ä8 K c Pt=true)/\(∀ (s:Æ) (u:Ä),BindsTo s fd ⟨[u],[]⟩ [(x,u)]) /\
    (∀ base:ì,K.In base->base.Ns ä mg->BMain mg base->X80 l.prog w K mg base CX0 k fa fd [x] sp) /\
    ∀ (H:Hp) (a:Ç) (ns:List Int),ns.length<=n->(∀ Pt∈ts,H Pt=some (.tbl #[]))->p90 K H a (ns.map V.int)->sp [.ref a] H (λv _=>v=.bl true) λ_ _ _=>False) :
  PySem.W.WalkO q loose XP A.hook.says l.row.toRowW d [] (λf vs=>PySem.call f vs):=by
 ¤Att.Y80 hn hdf λw s₀ s₁ mg mb fa o pm cd doc a vs ns G Y ho hd hcd hmg hobj hints hlen hg=>?_
 ¶⟨K,KX,FX⟩:=Y
 ¶⟨fd,ts,sp,hT,hb,hF,hsp⟩:=F w mg fa _ K FX KX G.T.g hmg
 §C31 KX G.T.g G.T.b G.T.builtins G.T.nolimit hg hobj hints (Ñ hlen hn2) hr hT G.T.bmain hF hb λH hH hS=>hsp H a ns hlen hH hS
÷i82{l:PySem.W.OpenLaw}{rows:List Row}{nums:List (Str × Int)}{mn:List Str}{ex:List (Str × Å1)}{k iL n:Nat}{rL:Row}(ok:rows.all (l62 (G40 rows) nums)=true)(bd:o60 rows)(hL:rows[iL]?=some rL)(hn:rL.nm="law")(hp:rL.ps=[("_law_script":Str)])(hmn:mn.length<=1)(hR:y62 rows mn ex)
  (pure:∀ ns:List Int,ns.length<=n->b40 (tabOf rows) (k + 3) iL [.d (.lst (ns.map D.int))] none=some (.ok (.d (.bl true)) none)) (w:è) (mg:Str->Option Ä) (fa:Ç) (h:ì) (K:Â) (Q:Facts (H50 rows nums mn ex) K h) (X:K.In h) (Gn:h.Ns ä mg) (hfa:mg "law"=some (.ref fa)) :
   ∃ (fd:Å2) (ts:List Ç) (sp:Sp),(∀ Pt∈ts,h.get? Pt=some (È3 #[])/\K.lookup Pt=none/\∃ c,Ä8 K c Pt=true)/\(∀ (s:Æ) (u:Ä),BindsTo s fd ⟨[u],[]⟩ [("_law_script",u)]) /\
    (∀ base:ì,K.In base->base.Ns ä mg->BMain mg base->X80 l.prog w K mg base CX0 (k + 3) fa fd ["_law_script"] sp) /\
    ∀ (H:Hp) (a:Ç) (ns:List Int),ns.length<=n->(∀ Pt∈ts,H Pt=some (.tbl #[]))->p90 K H a (ns.map V.int)->sp [.ref a] H (λv _=>v=.bl true) λ_ _ _=>False:=by
 have hrL:rL∈rows:=é hL
 ¶⟨fL,fdL,aL,FL,ocL,odL,slL,lkL⟩:=Q.fn (rL.nm,rL.st) (Æ6 _ (Ú.mpr ⟨rL,hrL,rfl⟩))
 have bL:=bd.at hrL
 have e:=hfa.symm.trans (mg_of X Gn (by rw[← hn];§aL))
 cases e
 have bT:∀ (s:Æ) (u:Ä),BindsTo s fdL ⟨[u],[]⟩ [("_law_script",u)]:=by
  ¶⟨_,_,kV,doc,pm,an,cdv,ct,_,e,_,_⟩:=FL.ex
  subst e
  intro s u
  have:=bL kV doc pm an cdv ct [u] (by rw[hp];rfl)
  rw[hp] at this
  §.of_eq this
 have fin:∀ (TB:Tb) (ts:List Ç),(∀ p∈TB.tb,p.1∈ts)->(∀ Pt∈ts,h.get? Pt=some (È3 #[])/\K.lookup Pt=none/\∃ c,Ä8 K c Pt=true)->M92 K rows ->
   ∃ (fd:Å2) (ts:List Ç) (sp:Sp),(∀ Pt∈ts,h.get? Pt=some (È3 #[])/\K.lookup Pt=none/\∃ c,Ä8 K c Pt=true)/\(∀ (s:Æ) (u:Ä),BindsTo s fd ⟨[u],[]⟩ [("_law_script",u)]) /\
    (∀ base:ì,K.In base->base.Ns ä mg->BMain mg base->X80 l.prog w K mg base CX0 (k + 3) fa fd ["_law_script"] sp) /\
    ∀ (H:Hp) (a:Ç) (ns:List Int),ns.length<=n->(∀ Pt∈ts,H Pt=some (.tbl #[]))->p90 K H a (ns.map V.int)->sp [.ref a] H (λv _=>v=.bl true) λ_ _ _=>False:=λTB ts h1 h2 h3=>by
  ¤⟨fdL,ts,λvs H Q _=>spF K (lev ⟨G40 rows,nums,λ_ _ _=>M.no,clsAt K,0⟩ (tabOf rows) (k + 3)) iL 1 vs H Q λ_ _ _=>False,h2,bT,λbase kb nb bm=>?_,λH a ns hl hH hS=>y42 (pure ns hl) (λp hp=>hH p.1 (h1 p hp)) hS⟩
  have F:=ok0 (y72 (P:=l.prog) (w:=w) X Gn Q ok bd bm hR h3 (λ_ _ _=>M.no) k hL FL ⟨fa,ocL,odL,slL,aL,lkL⟩)
  rw[hp] at F
  §F
 match mn,hmn,Q with
 |[],_,Q =>
  §fin ⟨[]⟩ [] (λp hp=>by cases hp) (λp hp=>by cases hp) λr hr hlm=>by
   have:=(hR r hr hlm).1
   cases this
 |[m],_,Q =>
  ¶⟨T,t1,t2,f,oc,od,fd,sl,c,t3,t4,t5,t6⟩:=Q.mt m (.head _)
  ¤fin ⟨[(T,Q12 m)]⟩ [T] (λp hp=>?_) (λp hp=>?_) λr hr hlm fd' h'=>?_
  ·cases ã.mp hp
   §.head _
  ·cases ã.mp hp
   §⟨t1,t2,c,t6⟩
  ·have hm:r.nm=m:=ã.mp (hR r hr hlm).1
   rw[hm] at h' ⊢
   ¶⟨f',oc',od',sl',e1,e2⟩:=h'
   rw[t3] at e1;cases e1
   rw[t4] at e2;cases e2
   §⟨c,T,Q12 m,t5,t6,λ_ _ _ _=>rfl,.head _,λp hp _=>by cases ã.mp hp;rfl⟩
end Q
namespace Q
open L2 (D)
open PySem (Paired)
def i41:Ex->Bool
 |.var _=>false
 |_=>true
def Y52:Ex->Env->Option (Option S)
 |.var i,ρ=>ρ[i]?
 |_,_=>none
def Q22:Option (Option S)->Option S
 |some (some s)=>noS s
 |_=>none
def blS:S->Option Bool
 |.d (.bl b)=>some b
 |_=>none
abbrev Du{α:Type}(_:α->Z->Prop)(_:Nat->Z->Prop):Type:=Unit
abbrev Dv{α:Type}(_:α->Prop):Type:=Unit
structure W{α:Type}(m:M α)(z:Z)(Q:α->Z->Prop)(E:Nat->Z->Prop)(du:Du Q E:=()):Prop where
 ex:∃ r,m z=some r/\match r with
  |.ok a z1=>Q a z1
  |.er c z1=>E c z1
÷W_e{α:Type}{m:M α}{Q:α->Z->Prop}:W m z Q E↔∃ r,m z=some r/\match r with
  |.ok a z1=>Q a z1
  |.er c z1=>E c z1:=⟨W.ex,W.mk⟩
abbrev NE:Nat->Z->Prop:=λ_ _=>False
def Get{α:Type}(o:Option α)(P:α->Prop)(_:Dv P:=()):Prop:=match o with
 |some a=>P a
 |none=>False
÷y82{α:Type}{a:α}{P:α->Prop}:Get (some a) P↔P a:=Û0
÷h40{α:Type}{o:Option α}{P:α->Prop}(h:Get o P):∃ a,o=some a/\P a:=by
 cases o with
 |none=>§h.elim
 |some a=>§⟨a,rfl,h⟩
÷a00{α:Type}{o:Option α}{a:α}{P:α->Prop}(h:o=some a)(hp:P a):Get o P:=by rw[h];§hp
÷C41{α:Type}{o:Option α}{P P':α->Prop}(h:∀ a,P a↔P' a):Get o P↔Get o P':=by
 cases o with
 |none=>§Û0
 |some a=>§h a
section
variable {α β:Type}{m:M α}{z z1:Z}{Q Q':α->Z->Prop}{E E':Nat->Z->Prop}
÷W.mono(h:W m z Q E)(hq:∀ a z,Q a z->Q' a z)(he:∀ c z,E c z->E' c z):W m z Q' E':=by
 ¶⟨r,e,h⟩:=h
 ¤⟨r,e,?_⟩
 cases r with
 |ok a z1=>§hq _ _ h
 |er c z1=>§he _ _ h
÷W.imp(h:W m z Q NE)(hq:∀ a z,Q a z->Q' a z):W m z Q' E':=h.mono hq λ_ _ h=>h.elim
÷W.ok{a:α}(h:W m z (λb z2=>b=a/\z2=z1) NE):m z=some (.ok a z1):=by
 ¶⟨r,e,h⟩:=h
 cases r with
 |ok b z2=>¶⟨rfl,rfl⟩:=h;§e
 |er c z2=>§h.elim
÷W.er(h:W m z (λ_ _=>False) (λd z2=>d=c/\z2=z1)):m z=some (.er c z1):=by
 ¶⟨r,e,h⟩:=h
 cases r with
 |ok b z2=>§h.elim
 |er d z2=>¶⟨rfl,rfl⟩:=h;§e
÷Q32{a:α}(h:m z=some (.ok a z1)):W m z Q E↔Q a z1:=by
 rw[W_e]
 constructor
 ·rintro ⟨r,e,q⟩
  rw[h] at e;cases e
  §q
 ·§λq=>⟨_,h,q⟩
÷Y62{c:Nat}(h:m z=some (.er c z1)):W m z Q E↔E c z1:=by
 rw[W_e]
 constructor
 ·rintro ⟨r,e,q⟩
  rw[h] at e;cases e
  §q
 ·§λq=>⟨_,h,q⟩
÷z90{a:α}:W (M.ret a) z Q E↔Q a z:=Q32 rfl
÷y92:W (M.no:M α) z Q E↔False:=⟨λ⟨_,e,_⟩=>(by cases e),À3⟩
÷o70{f:α->M β}{Q:β->Z->Prop}:W (M.bind m f) z Q E↔W m z (λa z1=>W (f a) z1 Q E) E:=by
 constructor
 ·rintro ⟨r,e,q⟩
  unfold M.bind at e
  split at e
  ·rename_i a z1 e1
   §⟨_,e1,r,e,q⟩
  ·rename_i c z1 e1
   cases e
   §⟨_,e1,q⟩
  ·cases e
 ·rintro ⟨r,e,q⟩
  cases r with
  |ok a z1 =>
   ¶⟨r,e2,q⟩:=q
   ¤⟨r,?_,q⟩
   unfold M.bind;rw[e];§e2
  |er c z1 =>
   ¤⟨.er c z1,?_,q⟩
   unfold M.bind;rw[e]
÷W31:W (M.calm m) z Q E↔W m z Q NE:=by
 rw[W_e,W_e]
 unfold M.calm
 constructor
 ·rintro ⟨r,e,q⟩
  split at e
  ·rename_i a z1 e1
   cases e
   §⟨_,e1,q⟩
  ·cases e
 ·rintro ⟨r,e,q⟩
  cases r with
  |ok a z1=>§⟨.ok a z1,by rw[e],q⟩
  |er c z1=>§q.elim
÷i92(h:∀ a z,Q a z↔Q' a z):W m z Q E↔W m z Q' E:=⟨λx=>x.mono (λa z=>(h a z).mp) λ_ _ h=>h,λx=>x.mono (λa z=>(h a z).mpr) λ_ _ h=>h⟩
÷wR{a:α}:Q a z↔W (M.ret a) z Q E:=z90.symm
÷wN:False↔W (M.no:M α) z Q E:=y92.symm
÷wT{c:Prop}[Decidable c]{a b:M α}{A B:Prop}(h1:A↔W a z Q E)(h2:B↔W b z Q E):(if c then A else B)↔W (if c then a else b) z Q E:=by
 split <;> assumption
÷wG{o:Option β}{f:β->M α}{K:β->Prop}(h:∀ a,K a↔W (f a) z Q E):Get o K↔W (M.bind (M.of o) f) z Q E:=by
 cases o with
 |none=>§y92.symm
 |some a=>§h a
÷wB{m:M β}{f:β->M α}{V:Prop}{K:β->Z->Prop}(h1:V↔W m z K E)(h2:∀ a z1,K a z1↔W (f a) z1 Q E):V↔W (M.bind m f) z Q E:=h1.trans ((i92 h2).trans o70.symm)
end
def Wm{α:Type}(o:Option (R α))(Q:α->Z->Prop)(E:Nat->Z->Prop):Prop:=match o with
 |some (.ok a z1)=>Q a z1
 |some (.er c z1)=>E c z1
 |none=>False
÷wM{α:Type}{m:M α}{z:Z}{Q:α->Z->Prop}{E:Nat->Z->Prop}:Wm (m z) Q E↔W m z Q E:=by
 rw[W_e]
 unfold Wm
 cases h:m z with
 |none=>§⟨À3,λ⟨_,e,_⟩=>by cases e⟩
 |some r =>
  ¤⟨λq=>⟨r,rfl,?_⟩,λ⟨_,e,q⟩=>?_⟩
  ·cases r <;> §q
  ·cases e;cases r <;> §q
def Vr(o:Option (Option S))(z:Z)(Q:List S->Z->Prop)(_:Du Q NE:=()):Prop:=match o with
 |some (some s)=>Q [plS s] z
 |_=>False
def WV:FT->Ex->Env->Z->(List S->Z->Prop)->(Nat->Z->Prop)->Prop
 |F,.nil=>λρ z Q E=>Q [] z
 |F,.cons a r=>λρ z Q E=>WV F a ρ z (λx z1=>Get (one x) λs=>WV F r ρ z1 (λy z2=>Q (s::y) z2) E) E
 |F,.con x=>λρ z Q E=>Q [.d x] z
 |F,.gint g i=>λρ z Q E=>Q [.d (.int i)] z
 |F,.tup as=>λρ z Q E=>WV F as ρ z (λl z1=>Get (plA l) λds=>if ds.length<=most then Q [.d (.tup ds)] z1 else False) E
 |F,.lst as=>λρ z Q E=>WV F as ρ z (λl z1=>Get (plA l) λds=>if ds.length<=most then Q [.fr ds] z1 else False) E
 |F,.bin o a b=>λρ z Q E=>WV F a ρ z (λx z1=>Get (pl x) λdx=>WV F b ρ z1 (λy z2=>Get (pl y) λdy=>Get (z60 o dx dy) λs=>Q [s] z2) E) E
 |F,.cmp o a b=>λρ z Q E=>WV F a ρ z (λx z1=>Get (pl x) λdx=>WV F b ρ z1 (λy z2=>Get (pl y) λdy=>Get (A20 o dx dy) λt=>Q [.d (.bl t)] z2) E) E
 |F,.neg a=>λρ z Q E=>WV F a ρ z (λx z1=>Get ((pl x).bind asI) λi=>Q [.d (.int (-i))] z1) E
 |F,.not a=>λρ z Q E=>WV F a ρ z (λx z1=>Get ((pl x).bind asB) λb=>Q [.d (.bl !b)] z1) E
 |F,.and a b=>λρ z Q E=>WV F a ρ z (λx z1=>Get ((pl x).bind asB) λc=>if c then WV F b ρ z1 (λy z2=>Get ((pl y).bind asB) λc=>Q [.d (.bl c)] z2) E else Q [.d (.bl false)] z1) E
 |F,.or a b=>λρ z Q E=>WV F a ρ z (λx z1=>Get ((pl x).bind asB) λc=>if c then Q [.d (.bl true)] z1 else WV F b ρ z1 (λy z2=>Get ((pl y).bind asB) λc=>Q [.d (.bl c)] z2) E) E
 |F,.orT a b=>λρ z Q E=>WV F a ρ z (λx z1=>Get ((pl x).bind r52) λl=>if l.isEmpty then WV F b ρ z1 (λy z2=>Get ((pl y).bind r52) λl=>Q [.d (.tup l)] z2) NE else Q [.d (.tup l)] z1) NE
 |F,.ite c a b=>λρ z Q E=>WV F c ρ z (λx z1=>Get ((pl x).bind asB) λc=>if c then WV F a ρ z1 Q E else WV F b ρ z1 Q E) E
 |F,.ch o o' a b c=>λρ z Q E=>WV F a ρ z (λx z1=>Get (pl x) λdx=>WV F b ρ z1 (λy z2=>Get (pl y) λdy=>Get (A20 o dx dy) λt=>if t then WV F c ρ z2 (λw z3=>Get (pl w) λdw=>Get (A20 o' dy dw) λt=>Q [.d (.bl t)] z3) E else Q [.d (.bl false)] z2) E) E
 |F,.bf f as=>λρ z Q E=>WV F as ρ z (λl z1=>Get (plA l) λds=>Get (bfD f ds) λs=>Q [s] z1) E
 |F,.isi t a=>λρ z Q E=>WV F a ρ z (λx z1=>Get (pl x) λx=>Q [.d (.bl (U61 t x))] z1) E
 |F,.idx a i=>λρ z Q E=>WV F a ρ z (λx z1=>Get (pl x) λdx=>WV F i ρ z1 (λy z2=>Get (pl y) λdy=>Get (n61 dx dy) λr=>Q [.d r] z2) E) E
 |F,.sl a lo hi=>λρ z Q E=>WV F a ρ z (λx z1=>Get (pl x) λdx=>WV F lo ρ z1 (λu z2=>Get (w31 u) λu=>WV F hi ρ z2 (λv z3=>Get (w31 v) λv=>Get (slD dx u v) λs=>Q [s] z3) E) E) E
 |F,.rev a=>λρ z Q E=>WV F a ρ z (λx z1=>Get ((pl x).bind P42) λs=>Q [s] z1) E
 |F,.call f as=>λρ z Q E=>WV F as ρ z (λl z1=>W (F false f (l.map plS)) z1 (λs z2=>Q [s] z2) E) E
 |F,.comp own capt p it src cond el=>λρ z Q E=>WV F src ρ z (λl z1=>Get ((plA l).bind (itD it)) λxs=>if xs.length<=most then W (turns (o20 (ev F cond) (ev F el) p (î own none++capt.map λi=>(ρ[i]?).getD none)) xs) z1 (λys z2=>Q [.fr ys] z2) NE else False) E
 |F,.lrng b as=>λρ z Q E=>WV F as ρ z (λl z1=>Get ((plA l).bind lrD) λxs=>Q [lrS b xs] z1) E
 |F,.refd capt a=>λρ z Q E=>Get (N71 ρ capt) λss=>WV (λ_=>F true) a (ss.map some) z (λ_ _=>False) (λc z1=>if c < 12 then Q [.fr [.int c]] z1 else False)
 |F,.var i=>λρ z Q E=>Vr ρ[i]? z Q
 |F,.zget i k=>λρ z Q E=>Wm (w41 k ρ[i]? z) Q E
def WE(F:FT)(e:Ex)(ρ:Env)(z:Z)(Q:List S->Z->Prop)(E:Nat->Z->Prop)(_:Du Q E:=()):Prop:=WV F e ρ z Q E
def WX(F:FT)(tp:Bool):Sm->Env->Z->(O->Z->Prop)->(Nat->Z->Prop)->Prop
 |.nil=>λρ z Q E=>Q (.nx ρ) z
 |.seq s r=>λρ z Q E=>WX F tp s ρ z (λo z1=>match o with
  |.nx ρ=>WX F tp r ρ z1 Q E
  |.rt s=>Q (.rt s) z1) E
 |.set p e=>λρ z Q E=>WE F e ρ z (λl z1=>Get (one l) λs=>Get (T00 p s (l00 s ρ)) λρ'=>Q (.nx ρ') z1) E
 |.ret e=>λρ z Q E=>if i41 e then WE F e ρ z (λl z1=>Get ((one l).bind noS) λs=>Q (.rt s) z1) E else Get (Q22 (Y52 e ρ)) λs=>Q (.rt s) z
 |.iff c t e=>λρ z Q E=>WE F c ρ z (λx z1=>Get ((pl x).bind asB) λb=>if b then WX F tp t ρ z1 Q E else WX F tp e ρ z1 Q E) E
 |.exp e=>λρ z Q E=>WE F e ρ z (λl z1=>Get (one l) λ_=>Q (.nx ρ) z1) E
 |.rais c=>λρ z Q E=>E c z
 |.fr p it src b=>λρ z Q E=>WE F src ρ z (λl z1=>Get ((plA l).bind (itD it)) λxs=>W (Y00 (λx ρ=>M.bind (M.of (f20 p x ρ)) λρ=>ex F tp b ρ) xs (w51 it src l ρ)) z1 Q E) E
 |.whl c b=>λρ z Q E=>W (U71 (ev F c) (ex F tp b) l12 ρ) z Q E
 |.zset i e=>λρ z Q E=>WE F e ρ z (λl z1=>Get ((pl l).bind asI) λv=>Wm (w71 ρ v ρ[i]? z1) Q E) E
 |.app i e=>λρ z Q E=>Get (ownAt ρ i) λxs=>WE F e ρ z (λl z1=>Get (pl l) λx=>if bare x=true/\xs.length < most then Q (.nx (ρ.set i (some (.fr (xs++[x]))))) z1 else False) E
 |.apop i j e=>λρ z Q E=>Get (ownAt ρ i) λxs=>Get (ownAt ρ j) λys=>WE F e ρ z (λl z1=>Get ((pl l).bind asI) λk=>Get (d52 ρ i j xs ys k) λo=>Q o z1) E
 |.newz i f as=>λρ z Q E=>WE F (.call f as) ρ z (λl z1=>Wm (w61 tp ρ i l) Q E) E
 |.augi i ix e=>λρ z Q E=>Get (ownAt ρ i) λxs=>WE F ix ρ z (λj z1=>Get ((pl j).bind asI) λj=>Get (L2.atI xs j) λy=>WE F e ρ z1 (λl z2=>Get (pl l) λx=>Get ((asI x).bind λx=>(asI y).map λy=>D.int (y + x)) λv=>Get (H00 xs j v) λxs=>Q (.nx (ρ.set i (some (.fr xs)))) z2) E) E
def WS(F:FT)(tp:Bool)(s:Sm)(ρ:Env)(z:Z)(Q:O->Z->Prop)(E:Nat->Z->Prop)(_:Du Q E:=()):Prop:=WX F tp s ρ z Q E
÷z02:W (ev F (.refd capt a) ρ) z Q E↔Get (N71 ρ capt) λss=>W (ev (j70 F) a (ss.map some)) z (λ_ _=>False) (λc z1=>if c < 12 then Q [.fr [.int c]] z1 else False):=by
 show W (r72 (N71 ρ capt) λρ'=>ev (j70 F) a ρ') z Q E↔_
 rw[W_e]
 unfold r72
 constructor
 ·rintro ⟨r,e,q⟩
  split at e
  ·cases e
  ·rename_i ss h1
   split at e
   ·rename_i c z1 h2
    split at e
    ·rename_i h3
     cases e
     ¤a00 h1 ⟨_,h2,?_⟩
     dsimp only
     rw[if_pos h3];§q
    ·cases e
   ·cases e
 ·intro h
  ¶⟨ss,h1,r,h2,q⟩:=h40 h
  cases r with
  |ok a z1=>§q.elim
  |er c z1 =>
   dsimp only at q
   split at q
   ·rename_i h3
    ¤⟨.ok [.fr [.int c]] z1,?_,q⟩
    rw[h1]
    dsimp only
    rw[h2]
    dsimp only
    rw[if_pos h3]
   ·§q.elim
÷z12:∀ (e:Ex) {F:FT}{ρ:Env}{z:Z}{Q:List S->Z->Prop}{E:Nat->Z->Prop},WV F e ρ z Q E↔W (ev F e ρ) z Q E:=by
 intro e
 induction e with
 |nil=>intros;§wR
 |cons a r ha hr=>intros;§wB ha λx z1=>wG λs=>wB hr λy z2=>wR
 |var i =>
  intro F ρ z Q E
  show Vr ρ[i]? z Q↔W (match ρ[i]? with | some (some s)=>M.ret [plS s] | _=>M.no) z Q E
  generalize ρ[i]?=o
  match o with
  |some (some s)=>§wR
  |some none=>§wN
  |none=>§wN
 |con x=>intros;§wR
 |gint g i=>intros;§wR
 |tup a ha=>intros;§wB ha λl z1=>wG λds=>wT wR wN
 |lst a ha=>intros;§wB ha λl z1=>wG λds=>wT wR wN
 |bin o a b ha hb=>intros;§wB ha λx z1=>wG λdx=>wB hb λy z2=>wG λdy=>wG λs=>wR
 |cmp o a b ha hb=>intros;§wB ha λx z1=>wG λdx=>wB hb λy z2=>wG λdy=>wG λs=>wR
 |neg a ha=>intros;§wB ha λx z1=>wG λi=>wR
 |not a ha=>intros;§wB ha λx z1=>wG λi=>wR
 |and a b ha hb=>intros;§wB ha λx z1=>wG λc=>wT (wB hb λy z2=>wG λc=>wR) wR
 |or a b ha hb=>intros;§wB ha λx z1=>wG λc=>wT wR (wB hb λy z2=>wG λc=>wR)
 |orT a b ha hb=>intros;¤Iff.trans ?_ W31.symm;§wB ha λx z1=>wG λl=>wT (wB hb λy z2=>wG λl=>wR) wR
 |ite c a b hc ha hb=>intros;§wB hc λx z1=>wG λc=>wT ha hb
 |ch o o' a b c ha hb hc=>intros;§wB ha λx z1=>wG λdx=>wB hb λy z2=>wG λdy=>wG λt=>wT (wB hc λw z3=>wG λdw=>wG λt=>wR) wR
 |bf f a ha=>intros;§wB ha λl z1=>wG λds=>wG λs=>wR
 |isi t a ha=>intros;§wB ha λx z1=>wG λx=>wR
 |idx a i ha hi=>intros;§wB ha λx z1=>wG λdx=>wB hi λy z2=>wG λdy=>wG λr=>wR
 |sl a l h ha hl hh=>intros;§wB ha λx z1=>wG λdx=>wB hl λu z2=>wG λu=>wB hh λv z3=>wG λv=>wG λs=>wR
 |rev a ha=>intros;§wB ha λx z1=>wG λs=>wR
 |call f a ha=>intros;§wB ha λl z1=>wB Û0 λs z2=>wR
 |comp own capt p it src cond el hs hc he=>intros;§wB hs λl z1=>wG λxs=>wT (wB W31.symm λys z2=>wR) wN
 |zget i k=>intros;§wM (m:=w41 k _)
 |lrng b a ha=>intros;§wB ha λl z1=>wG λxs=>wR
 |refd capt a ha=>intros;§(C41 λss=>ha).trans z02.symm
÷c70{e:Ex}{F:FT}{ρ:Env}{z:Z}{Q:List S->Z->Prop}{E:Nat->Z->Prop}:WE F e ρ z Q E↔W (ev F e ρ) z Q E:=z12 e
÷N02{F:FT}{tp:Bool}{ρ:Env}{e:Ex}(h:i41 e=true):ex F tp (.ret e) ρ=M.bind (ev F e ρ) λl=>M.bind (M.of ((one l).bind noS)) λs=>M.ret (.rt s):=by
 cases e with
 |var i=>cases h
 |_=>rfl
÷z22{F:FT}{tp:Bool}:∀ (s:Sm) {ρ:Env}{z:Z}{Q:O->Z->Prop}{E:Nat->Z->Prop},WX F tp s ρ z Q E↔W (ex F tp s ρ) z Q E:=by
 intro s
 induction s with
 |nil=>intros;§wR
 |seq s r hs hr =>
  intros
  ¤wB hs λo z1=>?_
  cases o with
  |nx ρ=>§hr
  |rt s=>§wR
 |set p e=>intros;§wB c70 λl z1=>wG λs=>wG λρ'=>wR
 |ret e =>
  intro ρ z Q E
  show(if i41 e then _ else _)↔_
  cases h:i41 e with
  |true =>
   ¤(iff_of_eq (if_pos rfl)).trans ?_
   rw[N02 h]
   §wB c70 λl z1=>wG λs=>wR
  |false =>
   cases e with
   |var i =>
    ¤(iff_of_eq (if_neg Ð)).trans ?_
    show Get (Q22 ρ[i]?) _↔W (match ρ[i]? with | some (some s)=>M.bind (M.of (noS s)) λs=>M.ret (O.rt s) | _=>M.no) z Q E
    generalize ρ[i]?=o
    match o with
    |some (some s)=>§wG λs=>wR
    |some none=>§wN
    |none=>§wN
   |_=>cases h
 |iff c t u ht hu=>intros;§wB c70 λx z1=>wG λc=>wT ht hu
 |exp e=>intros;§wB c70 λl z1=>wG λs=>wR
 |rais c=>intros;§(Y62 rfl).symm
 |fr p it src b ih=>intros;§wB c70 λl z1=>wG λxs=>Û0
 |whl c b ih=>intros;§Û0
 |zset i e=>intros;§wB c70 λl z1=>wG λv=>wM (m:=w71 _ v _)
 |app i e=>intros;§wG λxs=>wB c70 λl z1=>wG λx=>wT wR wN
 |apop i j e=>intros;§wG λxs=>wG λys=>wB c70 λl z1=>wG λk=>wG λo=>wR
 |newz i f as=>intros;§wB c70 λl z1=>wM (m:=λ_=>w61 tp _ i l)
 |augi i ix e=>intros;§wG λxs=>wB c70 λj z1=>wG λj=>wG λy=>wB c70 λl z2=>wG λx=>wG λv=>wG λxs=>wR
÷V10:WS F tp s ρ z Q E↔W (ex F tp s ρ) z Q E:=z22 s
÷WS.mono{s:Sm}{F:FT}{tp:Bool}{ρ:Env}{z:Z}{Q Q':O->Z->Prop}{E E':Nat->Z->Prop}(h:WS F tp s ρ z Q E)(hq:∀ a z,Q a z->Q' a z)(he:∀ c z,E c z->E' c z):WS F tp s ρ z Q' E':=V10.mpr (W.mono (V10.mp h) hq he)
÷j02(Mid:Env->Z->Prop)(h:WS F tp s ρ z (λo z1=>match o with
  |.nx ρ=>Mid ρ z1
  |.rt s=>Q (.rt s) z1) E) (h2:∀ ρ z,Mid ρ z->WS F tp r ρ z Q E):WS F tp (.seq s r) ρ z Q E:=by
 ¤WS.mono (s:=s) h (λo z1 h=>?_) λ_ _ h=>h
 cases o with
 |nx ρ=>§h2 ρ z1 h
 |rt s=>§h
section
variable {T:List Df}{k f ps ns:Nat}{b:Sm}{l:List S}{z:Z}{Q:S->Z->Prop}{E:Nat->Z->Prop}
÷z32(h:T[f]?=some (.code ps ns b))(hl:l.length=ps)(hn:ps<=ns):W (b40 T (k + 3) f l) z Q E↔WS (T30 T (k + 2)) z.isNone b (start ns (l.map plS)) z (λo z1=>match o with
  |.nx _=>Q (.d .non) (L60 z z1)
  |.rt s=>Q s (L60 z z1)) λc z1=>E c (L60 z z1):=by
 ¤Iff.trans ?_ V10.symm
 rw[a31,h]
 show W (λz=>if l.length=ps/\ps<=ns then(match ex (T30 T (k + 2)) z.isNone b (start ns (l.map plS)) z with
  |some (.ok (.nx _) z1)=>some (R.ok (S.d .non) (L60 z z1))
  |some (.ok (.rt s) z1)=>some (.ok s (L60 z z1))
  |some (.er c z1)=>some (.er c (L60 z z1))
  |none=>none) else none) z Q E↔_
 rw[W_e,W_e]
 constructor
 ·rintro ⟨r,e,q⟩
  rw[if_pos ⟨hl,hn⟩] at e
  split at e
  ·rename_i ρ z1 e1
   cases e
   §⟨_,e1,q⟩
  ·rename_i s z1 e1
   cases e
   §⟨_,e1,q⟩
  ·rename_i c z1 e1
   cases e
   §⟨_,e1,q⟩
  ·cases e
 ·rintro ⟨r,e,q⟩
  rw[if_pos ⟨hl,hn⟩,e]
  match r,q with
  |.ok (.nx ρ) z1,q=>§⟨_,rfl,q⟩
  |.ok (.rt s) z1,q=>§⟨_,rfl,q⟩
  |.er c z1,q=>§⟨_,rfl,q⟩
end
section
variable {F:FT}{tp:Bool}{ρ:Env}{z:Z}{E:Nat->Z->Prop}
÷c31{f:D->M (Option D)}{o:D->Option D}:∀ {xs:List D}{Q:List D->Z->Prop},(∀ x∈xs,f x z=some (.ok (o x) z))->(W (turns f xs) z Q E↔Q (xs.filterMap o) z)
 |[],Q,_=>z90
 |x::r,Q,h=>by
  show W (M.bind (f x) _) z Q E↔_
  rw[o70,Q32 (h x Ì),o70,c31 λy hy=>h y (È _ hy),z90]
  rw[Á3]
  cases o x <;> rfl
÷i51{f:D->M (Option D)}{I:Z->Prop}{P:D->D->Prop}:∀ {xs:List D}{z:Z}{Q:List D->Z->Prop},I z->(∀ x∈xs,∀ z,I z->W (f x) z (λo z1=>I z1/\∃ y,o=some y/\P x y) NE)->(∀ ys z1,I z1->Æ0 P xs ys->Q ys z1)->W (turns f xs) z Q E
 |[],z,Q,hi,_,q=>z90.mpr (q [] z hi .nil)
 |x::r,z,Q,hi,h,q=>by
  show W (M.bind (f x) _) z Q E
  rw[o70]
  ¤(h x Ì z hi).imp λo z1 ⟨hi1,y,e,hp⟩=>?_
  subst e
  rw[o70]
  ¤i51 hi1 (λx' hx'=>h x' (È _ hx')) λys z2 hi2 hps=>?_
  §z90.mpr (q _ _ hi2 (.cons hp hps))
÷W41(I:List D->Env->Z->Prop):∀ (xs:List D) {ρ:Env}{z:Z},I xs ρ z->(∀ x r ρ z,I (x::r) ρ z->W (f x ρ) z (λo z1=>match o with
  |.nx ρ=>I r ρ z1
  |.rt s=>Q (.rt s) z1) E)->(∀ ρ z,I [] ρ z->Q (.nx ρ) z)->W (Y00 f xs ρ) z Q E
 |[],ρ,z,hi,_,q=>z90.mpr (q _ _ hi)
 |x::r,ρ,z,hi,h,q=>by
  show W (M.bind (f x ρ) _) z Q E
  rw[o70]
  ¤(h x r ρ z hi).mono (λo z1 ho=>?_) λ_ _ h=>h
  cases o with
  |nx ρ1=>§W41 I r ho h q
  |rt s=>§z90.mpr ho
÷z42{c:Env->M (List S)}{f:Env->M O}{Q:O->Z->Prop}(I:Nat->Env->Z->Prop)(step:∀ n ρ z,I n ρ z->W (c ρ) z (λx z1=>Get ((pl x).bind asB) λk=>if k then W (f ρ) z1 (λo z2=>match o with
  |.nx ρ=>∃ m,m < n/\I m ρ z2
  |.rt s=>Q (.rt s) z2) E else Q (.nx ρ) z1) E):∀ (n m:Nat) {ρ:Env}{z:Z},I n ρ z->n < m->W (U71 c f m ρ) z Q E:=by
 intro n
 induction n using Nat.strongRecOn with
 |ind n ih =>
  intro m ρ z hi hm
  cases m with
  |zero=>omega
  |succ m =>
   show W (M.bind (c ρ) _) z Q E
   rw[o70]
   ¤(step n ρ z hi).mono (λx z1 h=>?_) λ_ _ h=>h
   ¶⟨k,e,h⟩:=h40 h
   ¤(wG (K:=λk=>if k=true then W (M.bind (f ρ) _) z1 Q E else W (M.ret (O.nx ρ)) z1 Q E) λk=>wT Û0 Û0).mp (a00 e ?_)
   cases k with
   |true =>
    rw[if_pos rfl] at h ⊢
    rw[o70]
    ¤h.mono (λo z2 h=>?_) λ_ _ h=>h
    cases o with
    |nx ρ1 =>
     ¶⟨j,hj,hi⟩:=h
     §ih j hj m hi (by omega)
    |rt s=>§z90.mpr h
   |false =>
    rw[if_neg Ð] at h ⊢
    §z90.mpr h
end
mutual
noncomputable def cE:D->Ex
 |.tup l=>.tup (cEs l)
 |.lst l=>.lst (cEs l)
 |.int i=>if i < 0 then .neg (.con (.int (-i))) else .con (.int i)
 |x=>.con x
noncomputable def cEs:List D->Ex
 |[]=>.nil
 |x::r=>.cons (cE x) (cEs r)
end
mutual
noncomputable def okC:D->Bool
 |.tup l=>decide (l.length<=most)&&N12 l
 |.lst l=>decide (l.length<=most)&&N12 l
 |_=>true
noncomputable def N12:List D->Bool
 |[]=>true
 |x::r=>okC x&&N12 r
end
def cX(d:D)(_:okC d=true):Ex:=cE d
section
variable {F:FT}{ρ:Env}{z:Z}{Q:List S->Z->Prop}{E:Nat->Z->Prop}{a b c as:Ex}{p:Pat}{ρ0:Env}{x:D}{Q1:Option D->Z->Prop}
÷C51:W (o20 (ev F .nil) (ev F a) p ρ0 x) z Q1 E↔Get (f20 p x ρ0) λρ=>WE F a ρ z (λy z1=>Get (pl y) λd=>Q1 (some d) z1) E :=
 (wG λρ=>show _↔W (M.bind (ev F a ρ) λy=>M.bind (M.of (pl y)) λy=>M.ret (some y)) z Q1 E from wB c70 λy z1=>wG λd=>wR).symm
÷z52{l:List S}{m:M (List S)}{V:Prop}(h:V↔W (M.bind m λy=>M.bind (M.of (pl y)) λy=>M.ret (some y)) z Q1 E):(match l with | [s]=>Get (blS s) λb=>if b then V else Q1 none z | _=>l=[]/\V)↔W (match l with
  |[]=>M.bind m λy=>M.bind (M.of (pl y)) λy=>M.ret (some y)
  |[.d (.bl true)]=>M.bind m λy=>M.bind (M.of (pl y)) λy=>M.ret (some y)
  |[.d (.bl false)]=>M.ret none
  |_=>M.no) z Q1 E:=by
 match l with
 |[]=>§⟨λx=>h.mp x.2,λx=>⟨rfl,h.mpr x⟩⟩
 |[.d (.bl true)]=>§y82.trans ((iff_of_eq (if_pos rfl)).trans h)
 |[.d (.bl false)]=>§y82.trans ((iff_of_eq (if_neg Ð)).trans wR)
 |[.d .non]=>§wN
 |[.d (.int _)]=>§wN
 |[.d (.str _)]=>§wN
 |[.d (.tup _)]=>§wN
 |[.d (.lst _)]=>§wN
 |[.d .dct]=>§wN
 |[.fr _]=>§wN
 |[.z]=>§wN
 |s::_::_ =>
  ¤⟨λx=>(by cases x.1),λx=>?_⟩
  cases s with
  |d y =>
   cases y with
   |bl b=>cases b <;> §(y92.mp x).elim
   |_=>§(y92.mp x).elim
  |_=>§(y92.mp x).elim
÷C61:W (o20 (ev F (.cons c .nil)) (ev F a) p ρ0 x) z Q1 E↔Get (f20 p x ρ0) λρ=>WE F c ρ z (λy z1=>Get (one y) λs=>Get (blS s) λb=>if b then WE F a ρ z1 (λy z2=>Get (pl y) λd=>Q1 (some d) z2) E else Q1 none z1) E:=by
 ¤Iff.symm (wG λρ=>?_)
 ¤wB (c70 (F:=F) (e:=.cons c .nil) (ρ:=ρ) (Q:=λl z1=>match l with | [s]=>Get (blS s) λb=>if b then WE F a ρ z1 (λy z2=>Get (pl y) λd=>Q1 (some d) z2) E else Q1 none z1 | _=>l=[]/\WE F a ρ z1 (λy z2=>Get (pl y) λd=>Q1 (some d) z2) E)) λl z1=>?_
 §z52 (wB c70 λy z1=>wG λd=>wR)
end
section
variable {α:Type}{m:M α}{z z1:Z}{Q Q':α->Z->Prop}{E:Nat->Z->Prop}
÷Wo(h:m z=some (.ok a z1))(q:Q a z1):W m z Q E:=⟨_,h,q⟩
÷We(h:m z=some (.er c z1))(q:E c z1):W m z Q E:=⟨_,h,q⟩
end
÷g60{T:List Df}{k f ps ns:Nat}{b:Sm}{l:List S}{z:Z}{Q:S->Z->Prop}{E:Nat->Z->Prop}(h:T[f]?=some (.code ps ns b))(hl:l.length=ps)(hn:ps<=ns)(q:WS (T30 T (k + 2)) z.isNone b (start ns (l.map plS)) z (λo z1=>match o with
  |.nx _=>Q (.d .non) (L60 z z1)
  |.rt s=>Q s (L60 z z1)) λc z1=>E c (L60 z z1)):W (b40 T (k + 3) f l) z Q E:=(z32 h hl hn).mpr q
÷ib{b:Bool}{A B:Prop}(ht:b=true->A)(hf:b=false->B):if b=true then A else B:=by
 cases b with
 |true=>§ht rfl
 |false=>§hf rfl
÷it{b:Bool}{A B:Prop}(h:b=true)(a:A):if b=true then A else B:=by rw[if_pos h];§a
÷ie{b:Bool}{A B:Prop}(h:b=false)(a:B):if b=true then A else B:=by rw[h];§a
÷ip{c:Prop}[Decidable c]{A B:Prop}(h:c)(a:A):if c then A else B:=by rw[if_pos h];§a
÷c30(z:Z):L60 z z=z:=by cases z <;> rfl
÷sd{s t:S}{z:Z}(h:s=t):s=t/\L60 z z=z:=⟨h,c30 z⟩
÷sb(h:b=c):S.d (.bl b)=S.d (.bl c)/\L60 z z=z:=sd (by rw[h])
section
variable {F:FT}{tp:Bool}{z:Z}{E:Nat->Z->Prop}{p:Pat}
÷w70(I:List D->Env->Z->Prop)(xs:List D)(hi:I xs ρ z)(h:∀ x r ρ z,I (x::r) ρ z->Get (f20 p x ρ) λρ=>WS F tp b ρ z (λo z1=>match o with
  |.nx ρ=>I r ρ z1
  |.rt s=>Q (.rt s) z1) E) (q:∀ ρ z,I [] ρ z->Q (.nx ρ) z):W (Y00 (λx ρ=>M.bind (M.of (f20 p x ρ)) λρ=>ex F tp b ρ) xs ρ) z Q E :=
 W41 I xs hi (λx r ρ z hi=>(wG λρ=>V10).mp (h x r ρ z hi)) q
÷z62(I:Nat->Env->Z->Prop)(n:Nat)(hi:I n ρ z)(hn:n < l12)(h:∀ n ρ z,I n ρ z->WE F c ρ z (λx z1=>Get ((pl x).bind asB) λk=>if k then WS F tp b ρ z1 (λo z2=>match o with
  |.nx ρ=>∃ m,m < n/\I m ρ z2
  |.rt s=>Q (.rt s) z2) E else Q (.nx ρ) z1) E):W (U71 (ev F c) (ex F tp b) l12 ρ) z Q E:=by
 ¤z42 I (λn ρ z hi=>?_) n l12 hi hn
 ¤(c70.mp (h n ρ z hi)).mono (λx z1 h=>?_) λ_ _ h=>h
 ¶⟨k,e,h⟩:=h40 h
 ¤a00 e ?_
 cases k with
 |true=>§V10.mp h
 |false=>§h
variable {ρ0:Env}{cond el:Ex}{xs:List D}{Q:List D->Z->Prop}
÷Q61(o:D->D)(h:∀ x∈xs,Get (f20 p x ρ0) λρ=>WE F el ρ z (λy z1=>Get (pl y) λd=>d=o x/\z1=z) NE)(q:Q (xs.map o) z):W (turns (o20 (ev F .nil) (ev F el) p ρ0) xs) z Q E:=by
 ¤(c31 (o:=λx=>some (o x)) λx hx=>?_).mpr ?_
 ·¤W.ok (C51.mpr ?_)
  ¶⟨ρ,e,h⟩:=h40 (h x hx)
  ¤a00 e (c70.mpr ((c70.mp h).imp λy z1 h=>?_))
  ¶⟨d,e,rfl,rfl⟩:=h40 h
  §a00 e ⟨rfl,rfl⟩
 ·rw[show xs.filterMap (λx=>some (o x))=xs.map o from congrFun (List.filterMap_eq_map (f:=o)) xs];§q
÷N22{c:D->Bool}{o:D->D}:∀ xs:List D,xs.filterMap (λx=>if c x then some (o x) else none)=(xs.filter c).map o
 |[]=>rfl
 |x::r=>by
  rw[Á3,Ñ9]
  cases hc:c x with
  |false=>§N22 r
  |true=>§congrArg (o x::·) (N22 r)
÷j12(c:D->Bool)(o:D->D)(h:∀ x∈xs,Get (f20 p x ρ0) λρ=>WE F cond ρ z (λy z1=>Get (one y) λs=>s=.d (.bl (c x))/\z1=z/\(c x=true->WE F el ρ z (λy z1=>Get (pl y) λd=>d=o x/\z1=z) NE)) NE)(q:Q ((xs.filter c).map o) z):W (turns (o20 (ev F (.cons cond .nil)) (ev F el) p ρ0) xs) z Q E:=by
 ¤(c31 (o:=λx=>if c x then some (o x) else none) λx hx=>?_).mpr ?_
 ·¤W.ok (C61.mpr ?_)
  ¶⟨ρ,e,h⟩:=h40 (h x hx)
  ¤a00 e (c70.mpr ((c70.mp h).imp λy z1 h=>?_))
  ¶⟨s,e,rfl,rfl,h⟩:=h40 h
  ¤a00 e ?_
  show if c x=true then _ else _
  cases hc:c x with
  |false=>§⟨rfl,rfl⟩
  |true =>
   ¤c70.mpr ((c70.mp (h hc)).imp λy z1 h=>?_)
   ¶⟨d,e,rfl,rfl⟩:=h40 h
   §a00 e ⟨rfl,rfl⟩
 ·rw[N22];§q
÷z72{I:Z->Prop}(o:D->D):∀ {xs:List D}{z:Z}{Q:List D->Z->Prop},I z->(∀ x∈xs,∀ z,I z->Get (f20 p x ρ0) λρ=>WE F cond ρ z (λy z1=>Get (one y) λs=>I z1/\∃ b,s=.d (.bl b)/\(b=true->WE F el ρ z1 (λy z2=>Get (pl y) λd=>d=o x/\z2=z1) NE)) NE) ->
  (∀ ys z1,I z1->ys.Sublist (xs.map o)->Q ys z1)->W (turns (o20 (ev F (.cons cond .nil)) (ev F el) p ρ0) xs) z Q E
 |[],z,Q,hi,_,q=>z90.mpr (q [] z hi .slnil)
 |x::r,z,Q,hi,h,q=>by
  show W (M.bind (o20 _ _ p ρ0 x) _) z Q E
  ¤o70.mpr (C61.mpr ?_)
  ¶⟨ρ,e,h0⟩:=h40 (h x Ì z hi)
  ¤a00 e (c70.mpr ((c70.mp h0).imp λy z1 h1=>?_))
  ¶⟨s,e,hi1,b,rfl,h2⟩:=h40 h1
  ¤a00 e ?_
  show if b=true then _ else _
  have hr:=λ{Q:List D->Z->Prop} (q:∀ ys z1,I z1->ys.Sublist (r.map o)->Q ys z1)=>z72 o (z:=z1) hi1 (λy hy=>h y (È _ hy)) q
  cases b with
  |false=>§o70.mpr (hr λys z2 hi2 hs=>z90.mpr (q ys z2 hi2 (hs.cons _)))
  |true =>
   ¤c70.mpr ((c70.mp (h2 rfl)).imp λy z2 h3=>?_)
   ¶⟨d,e,rfl,rfl⟩:=h40 h3
   §a00 e (o70.mpr (hr λys z2 hi2 hs=>z90.mpr (q _ z2 hi2 (hs.cons_cons _))))
÷Y72{I:Z->Prop}{P:D->D->Prop}(hi:I z)(h:∀ x∈xs,∀ z,I z->Get (f20 p x ρ0) λρ=>WE F el ρ z (λy z1=>Get (pl y) λd=>I z1/\P x d) NE)(q:∀ ys z1,I z1->Æ0 P xs ys->Q ys z1):W (turns (o20 (ev F .nil) (ev F el) p ρ0) xs) z Q E:=by
 ¤i51 hi (λx hx z hz=>C51.mpr ?_) q
 ¶⟨ρ,e,h⟩:=h40 (h x hx z hz)
 ¤a00 e (c70.mpr ((c70.mp h).imp λy z1 h=>?_))
 ¶⟨d,e,h⟩:=h40 h
 §a00 e ⟨h.1,d,rfl,h.2⟩
end
÷C71{s:S}{ρ:Env}(h:S70 s=true):l00 s ρ=ρ:=by
 unfold l00
 rw[S90,h];rfl
÷C81{F:FT}{tp:Bool}{p:Pat}{e:Ex}{r:Sm}{ρ:Env}{z:Z}{Q:O->Z->Prop}{E:Nat->Z->Prop}(s:S)(ρ':Env)(he:WE F e ρ z (λl z1=>Get (one l) λt=>t=s/\z1=z) NE)(hb:T00 p s (l00 s ρ)=some ρ')(q:WS F tp r ρ' z Q E):WS F tp (.seq (.set p e) r) ρ z Q E:=by
 show WE F e ρ z (λl z1=>Get (one l) λs=>Get (T00 p s (l00 s ρ)) λρ'=>WX F tp r ρ' z1 Q E) E
 ¤c70.mpr ((c70.mp he).imp λl z1 h=>?_)
 ¶⟨t,e,rfl,rfl⟩:=h40 h
 §a00 e (a00 hb q)
end Q
namespace K3
open PySem L2 Q
def top(i:Nat):Stmt:=ö.main.body.getD i (.Pass ⟨0,0,0,0⟩)
def nums:List (Str × Int):=[(("MOST_PLACES":Str),(6:Int)),(("MOST_TIES":Str),(8:Int)),(("MOST_BOTTOM":Str),(1000:Int))]
abbrev v0:Ex:=.var 0
abbrev v1:Ex:=.var 1
abbrev v2:Ex:=.var 2
abbrev v3:Ex:=.var 3
abbrev v4:Ex:=.var 4
abbrev v5:Ex:=.var 5
abbrev v6:Ex:=.var 6
abbrev v7:Ex:=.var 7
abbrev v8:Ex:=.var 8
abbrev v9:Ex:=.var 9
abbrev v10:Ex:=.var 10
abbrev v11:Ex:=.var 11
abbrev n0:Ex:=.con (.int 0)
abbrev n1:Ex:=.con (.int 1)
abbrev n2:Ex:=.con (.int 2)
abbrev c1(a:Ex):Ex:=.cons a .nil
abbrev c2(a b:Ex):Ex:=.cons a (.cons b .nil)
abbrev c3(a b c:Ex):Ex:=.cons a (.cons b (.cons c .nil))
abbrev c4(a b c d:Ex):Ex:=.cons a (.cons b (.cons c (.cons d .nil)))
abbrev c5(a b c d e:Ex):Ex:=.cons a (.cons b (.cons c (.cons d (.cons e .nil))))
abbrev s1(a:Sm):Sm:=.seq a .nil
abbrev p2(a b:Pat):Pat:=.tup (.cons a (.cons b .nil))
abbrev h20:Nat:=0
abbrev M90:Nat:=1
abbrev W51:Nat:=2
abbrev C91:Nat:=3
abbrev E00:Nat:=4
abbrev l10:Nat:=5
abbrev q10:Nat:=6
abbrev i61:Nat:=7
abbrev H60:Nat:=8
abbrev i71:Nat:=9
abbrev D01:Nat:=10
abbrev l20:Nat:=11
abbrev g40:Nat:=12
abbrev d90:Nat:=13
abbrev H70:Nat:=14
abbrev y10:Nat:=15
abbrev E10:Nat:=16
abbrev k60:Nat:=17
abbrev H80:Nat:=18
abbrev E20:Nat:=19
abbrev i81:Nat:=20
abbrev y20:Nat:=21
abbrev i91:Nat:=22
abbrev q20:Nat:=23
abbrev b50:Nat:=24
abbrev r50:Nat:=25
abbrev y30:Nat:=26
abbrev a50:Nat:=27
abbrev w80:Nat:=28
abbrev l90:Nat:=29
abbrev u70:Nat:=30
abbrev u80:Nat:=31
abbrev E30:Nat:=32
abbrev E40:Nat:=33
abbrev E50:Nat:=34
abbrev y40:Nat:=35
abbrev m00:Nat:=36
abbrev j80:Nat:=37
abbrev j90:Nat:=38
abbrev r60:Nat:=39
abbrev j00:Nat:=40
abbrev E60:Nat:=41
abbrev z82:Nat:=42
def h30:Sm:=(.seq (.whl (.cmp .gt v1 n0) (s1 (.set (p2 (.v 0) (.v 1)) (.tup (c2 v1 (.bin .mod v0 v1)))))) (s1 (.ret v0)))
def N00:Sm:=(.seq (.set (.v 2) (.call h20 (c2 v0 v1))) (s1 (.ret (.tup (c2 (.bin .fdiv v0 v2) (.bin .fdiv v1 v2))))))
def D11:Sm:=(s1 (.ret (.call M90 (c2 (.bin .add (.bin .mul (.idx v0 n0) (.idx v1 n1)) (.bin .mul (.idx v1 n0) (.idx v0 n1))) (.bin .mul (.idx v0 n1) (.idx v1 n1))))))
def c41:Sm:=(s1 (.ret (.call M90 (c2 (.bin .mul (.idx v0 n0) (.idx v1 n0)) (.bin .mul (.idx v0 n1) (.idx v1 n1))))))
def E70:Sm:=(s1 (.ret (.cmp .lt (.bin .mul (.idx v0 n0) (.idx v1 n1)) (.bin .mul (.idx v1 n0) (.idx v0 n1)))))
def H90:Sm:=(s1 (.ret (.and (.isi .int v0) (.not (.isi .bool v0)))))
def w90:Sm:=(s1 (.ret (.and (.call l10 (c1 v0)) (.ch .le .lt n0 v0 v1))))
def N10:Sm:=(.seq (.iff (.or (.not (.isi .tuple v0)) (.cmp .ne (.bf .len (c1 v0)) n2)) (s1 (.ret (.con (.bl false)))) .nil) (.seq (.set (p2 (.v 2) (.v 3)) v0) (s1 (.ret (.and (.call q10 (c2 v2 v1)) (.and (.call q10 (c2 v3 v1)) (.cmp .lt v2 v3)))))))
def x00:Sm:=(.seq (.iff (.or (.not (.isi .tuple v0)) (.cmp .gt (.bf .len (c1 v0)) (.gint "MOST_TIES" 8))) (s1 (.ret (.con (.bl false)))) .nil) (.seq (.iff (.not (.bf .all (c1 (.comp 1 [1] (.v 0) .seq (c1 v0) .nil (.call i61 (c2 v0 v1)))))) (s1 (.ret (.con (.bl false)))) .nil) (s1 (.ret (.bf .all (c1 (.comp 2 [] (p2 (.v 0) (.v 1)) .zip (c2 v0 (.sl v0 (c1 n1) .nil)) .nil (.cmp .le v0 v1))))))))
def N20:Sm:=(.seq (.iff (.or (.not (.isi .tuple v0)) (.cmp .ne (.bf .len (c1 v0)) n2)) (s1 (.ret (.con (.bl false)))) .nil) (.seq (.set (p2 (.v 1) (.v 2)) v0) (s1 (.ret (.and (.call l10 (c1 v1)) (.and (.ch .le .le n1 v1 (.gint "MOST_PLACES" 6)) (.call H60 (c2 v2 v1))))))))
def c51:Sm:=(s1 (.ret (.bf .all (c1 (.comp 2 [] (p2 (.v 0) (.v 1)) .zip (c2 v0 (.sl v0 (c1 n1) .nil)) .nil (.cmp .lt v0 v1))))))
def g50:Sm:=(.seq (.iff (.not (.isi .tuple v0)) (s1 (.ret (.con (.bl false)))) .nil) (s1 (.ret (.and (.bf .all (c1 (.comp 1 [1] (.v 0) .seq (c1 v0) .nil (.call q10 (c2 v0 v1))))) (.call D01 (c1 v0))))))
def m20:Sm:=(s1 (.iff (.not (.call i71 (c1 v0))) (s1 (.rais 0)) .nil))
def g70:Sm:=(s1 (.iff (.or (.not (.call l20 (c2 v1 (.idx v0 n0)))) (.cmp .eq (.bf .len (c1 v1)) n0)) (s1 (.rais 2)) .nil))
def x10:Sm:=(.seq (.set (p2 (.v 2) (.v 3)) v0) (.seq (.set (.v 4) (.lrng false (c1 v2))) (.seq (.fr (.v 5) .seq (c1 v1) (.seq (.set (p2 (.v 6) (.v 7)) (.idx v3 v5)) (.seq (.set (.v 8) (.idx v4 v6)) (.seq (.set (.v 9) (.idx v4 v7)) (s1 (.set (.v 4) (.comp 1 [8,9] (.v 0) .seq (c1 v4) .nil (.ite (.cmp .eq v0 v2) v1 v0)))))))) (s1 (.ret v4)))))
def o80:Sm:=(.seq (.set (.v 3) (.call H70 (c2 v0 v1))) (s1 (.ret (.bf .all (c1 (.comp 1 [2,3] (.v 0) .seq (c1 v2) .nil (.cmp .eq (.idx v2 v0) (.idx v2 (.idx v1 n0)))))))))
def s30:Sm:=(.seq (.iff (.or (.not (.isi .tuple v0)) (.cmp .ne (.bf .len (c1 v0)) n2)) (s1 (.ret (.con (.bl false)))) .nil) (.seq (.set (p2 (.v 1) (.v 2)) v0) (.seq (.iff (.or (.not (.call l10 (c1 v1))) (.not (.call l10 (c1 v2)))) (s1 (.ret (.con (.bl false)))) .nil) (.seq (.iff (.or (.not (.ch .le .le n1 v2 (.gint "MOST_BOTTOM" 1000))) (.not (.ch .le .le n0 v1 v2))) (s1 (.ret (.con (.bl false)))) .nil) (s1 (.ret (.cmp .eq (.call h20 (c2 v1 v2)) n1)))))))
def g80:Sm:=(s1 (.iff (.not (.call E10 (c1 v0))) (s1 (.rais 5)) .nil))
def q30:Sm:=(.seq (.set (.v 1) (cX (.lst [(.tup [])]) (by decide))) (.seq (.fr (.v 2) .rng1 (c1 (.bf .len (c1 (.idx v0 n1)))) (s1 (.set (.v 1) (.bin .add v1 (.comp 1 [2] (.v 0) .seq (c1 v1) .nil (.bin .add v0 (.tup (c1 v1)))))))) (s1 (.ret (.bf .sorted (c1 v1))))))
def s40:Sm:=(.seq (.exp (.call g40 (c1 v0))) (.seq (.exp (.call d90 (c2 v0 v1))) (s1 (.ret (.comp 1 [0,1] (.v 0) .seq (c1 (.call H80 (c1 v0))) (c1 (.call y10 (c3 v1 v0 v2))) v0)))))
def N30:Sm:=(.seq (.set (.v 2) (.call E20 (c2 v0 v1))) (.seq (.set (.v 3) (.bin .mul (cX (.lst [(.int 0)]) (by decide)) (.bin .add (.bf .len (c1 (.idx v0 n1))) n1))) (.seq (.fr (.v 4) .seq (c1 v2) (s1 (.augi 3 (.bf .len (c1 v4)) n1))) (s1 (.ret v3)))))
def e20:Sm:=(.seq (.exp (.call g40 (c1 v0))) (.seq (.exp (.call g40 (c1 v2))) (.seq (.exp (.call d90 (c2 v0 v1))) (s1 (.exp (.call d90 (c2 v2 v3)))))))
def N40:Sm:=(.seq (.set (.v 2) (.call i81 (c2 v0 v1))) (.seq (.set (.v 3) (.bin .mul (cX (.lst [(.int 0)]) (by decide)) (.bf .len (c1 v2)))) (.seq (.fr (p2 (.v 4) (.v 5)) .enum (c1 v2) (.seq (.set (.v 3) (.comp 2 [] (p2 (.v 0) (.v 1)) .zip (c2 v3 (.bin .add (cX (.lst [(.int 0)]) (by decide)) v3)) .nil (.bin .sub v0 v1))) (s1 (.augi 3 v4 v5)))) (s1 (.ret v3)))))
def q40:Sm:=(.seq (.exp (.call g40 (c1 v0))) (.seq (.exp (.call d90 (c2 v0 v1))) (.seq (.exp (.call k60 (c1 v2))) (.seq (.set (.v 3) (cX (.tup [(.int 0),(.int 1)]) (by decide))) (.seq (.fr (.v 4) .seq (c1 (.rev (.call i91 (c2 v0 v1)))) (s1 (.set (.v 3) (.call W51 (c2 (.call C91 (c2 v3 v2)) (.tup (c2 v4 n1))))))) (s1 (.ret v3)))))))
def d40:Sm:=(.seq (.exp (.call y20 (c4 v0 v1 v2 v3))) (.seq (.set (.v 5) (.call q20 (c3 v0 v1 v4))) (.seq (.set (.v 6) (.call q20 (c3 v2 v3 v4))) (.seq (.iff (.call E00 (c2 v6 v5)) (s1 (.ret n1)) .nil) (s1 (.ret (.ite (.call E00 (c2 v5 v6)) (.neg n1) n0)))))))
def g90:Sm:=(.seq (.iff (.cmp .lt v1 (.bf .len (c1 v0))) (s1 (.ret (.idx v0 v1))) .nil) (s1 (.ret n0)))
def k00:Sm:=(.seq (.set (.v 2) (.call r50 (c2 v0 v1))) (.seq (.iff (.cmp .ge v2 (.bin .pow (.con (.int 10)) (.con (.int 18)))) (s1 (.ret (.lst (c2 (.bin .sub v2 (.bin .pow (.con (.int 10)) (.con (.int 18)))) (.con (.bl true)))))) .nil) (s1 (.ret (.lst (c2 (.bin .mod v2 (.con (.int 2147483647))) (.con (.bl false))))))))
def s50:Sm:=(.seq (.iff (.zget 0 1) (.seq (.set (.v 2) (.bin .mod (.zget 0 0) v1)) (.seq (.zset 0 (.bin .fdiv (.zget 0 0) v1)) (s1 (.ret v2)))) .nil) (.seq (.zset 0 (.bin .mod (.bin .add (.bin .mul (.zget 0 0) (.con (.int 48271))) (.con (.int 29))) (.con (.int 2147483647)))) (.seq (.set (.v 3) (.bin .mod (.bin .add (.bin .add (.bin .mul (.zget 0 0) (.zget 0 0)) (.bin .mul (.con (.int 39373)) (.zget 0 0))) (.con (.int 7))) (.con (.int 2147483629)))) (.seq (.set (.v 3) (.bin .mod (.bin .add (.bin .mul v3 v3) (.bin .mul (.con (.int 16807)) v3)) (.con (.int 2147483587)))) (s1 (.ret (.bin .mod (.bin .fdiv v3 (.con (.int 8))) v1)))))))
def x20:Sm:=(.seq (.set (.v 2) (.idx (cX (.lst [(.int 6),(.int 5),(.int 4),(.int 3),(.int 4),(.int 5),(.int 2),(.int 1)]) (by decide)) (.call a50 (c2 v0 (.con (.int 8)))))) (.seq (.set (.v 3) (.lst .nil)) (.seq (.iff (.and (.cmp .gt v2 n1) (.cmp .gt (.call a50 (c2 v0 (.con (.int 5)))) n0)) (s1 (.set (.v 3) (.comp 1 [0] (.v 0) .rng2 (c2 n1 v2) .nil (.tup (c2 (.call a50 (c2 v1 v0)) v0))))) .nil) (.seq (.fr (.v 4) .rng1 (c1 (.bin .mul (.call a50 (c2 v0 (.bin .add v1 n1))) (.bf .int (c1 (.cmp .gt v2 n1))))) (.seq (.set (.v 5) (.call a50 (c2 v0 v2))) (.seq (.set (.v 6) (.bin .mod (.bin .add (.bin .add v5 n1) (.call a50 (c2 v0 (.bin .sub v2 n1)))) v2)) (s1 (.app 3 (.tup (c2 (.bf .min (c2 v5 v6)) (.bf .max (c2 v5 v6))))))))) (s1 (.ret (.tup (c2 v2 (.bf .tuple (c1 (.bf .sorted (c1 (.sl v3 .nil (c1 v1))))))))))))))
def m30:Sm:=(.seq (.set (.v 2) (.call a50 (c2 v0 (.con (.int 4))))) (.seq (.iff (.or (.cmp .lt v2 n2) (.cmp .eq (.idx v1 n0) n1)) (s1 (.ret (.lrng true (c1 (.idx v1 n0))))) .nil) (.seq (.iff (.cmp .eq v2 n2) (.seq (.set (.v 3) (.call a50 (c2 v0 (.idx v1 n0)))) (s1 (.ret (.bf .tuple (c1 (.bf .sorted (c1 (.lst (c2 v3 (.bin .mod (.bin .add (.bin .add v3 n1) (.call a50 (c2 v0 (.bin .sub (.idx v1 n0) n1)))) (.idx v1 n0))))))))))) .nil) (s1 (.ret (.orT (.bf .tuple (c1 (.comp 1 [0] (.v 0) .rng1 (c1 (.idx v1 n0)) (c1 (.cmp .eq (.call a50 (c2 v1 n2)) n1)) v0))) (.tup (c1 (.bin .sub (.idx v1 n0) n1)))))))))
def m40:Sm:=(.seq (.set (p2 (.v 2) (.v 3)) (.tup (c2 v0 v1))) (.seq (.whl (.cmp .ne v3 n0) (s1 (.set (p2 (.v 2) (.v 3)) (.tup (c2 v3 (.bin .mod v2 v3)))))) (s1 (.ret (.tup (c2 (.bin .fdiv v0 v2) (.bin .fdiv v1 v2)))))))
def m50:Sm:=(.seq (.set (.v 1) (cX (.lst [(.tup [(.int 1),(.int 2)]),(.tup [(.int 2),(.int 3)]),(.tup [(.int 1),(.int 3)]),(.tup [(.int 3),(.int 4)]),(.tup [(.int 9),(.int 10)]),(.tup [(.int 0),(.int 1)]),(.tup [(.int 1),(.int 1)]),(.tup [(.int 1),(.int 1000)]),(.tup [(.int 999),(.int 1000)])]) (by decide))) (.seq (.set (.v 2) (.call a50 (c2 v0 (.con (.int 16))))) (.seq (.iff (.cmp .lt v2 (.con (.int 9))) (s1 (.ret (.idx v1 v2))) .nil) (.seq (.set (.v 3) (.bin .add n1 (.call a50 (c2 v0 (.idx (cX (.lst [(.int 12),(.int 1000)]) (by decide)) (.call a50 (c2 v0 n2))))))) (s1 (.ret (.call u70 (c2 (.call a50 (c2 v0 (.bin .add v3 n1))) v3))))))))
def s60:Sm:=(.seq (.set (.v 3) (.lst (c1 v2))) (.seq (.fr (.v 4) .rng1 (c1 (.idx v0 n0)) (s1 (.fr (.v 5) .seq (c1 v1) (.seq (.set (p2 (.v 6) (.v 7)) (.idx (.idx v0 n1) v5)) (.seq (.iff (.and (.cmp .mem v6 v3) (.cmp .nmem v7 v3)) (s1 (.set (.v 3) (.bin .add v3 (.lst (c1 v7))))) .nil) (s1 (.iff (.and (.cmp .mem v7 v3) (.cmp .nmem v6 v3)) (s1 (.set (.v 3) (.bin .add v3 (.lst (c1 v6))))) .nil))))))) (s1 (.ret (.bf .tuple (c1 (.bf .sorted (c1 v3))))))))
def s70:Sm:=(.seq (.set (.v 3) (.call E30 (c3 v0 v1 (.idx v2 n0)))) (s1 (.ret (.cmp .eq (.comp 1 [3] (.v 0) .seq (c1 v2) (c1 (.cmp .nmem v0 v1)) v0) (.lst .nil)))))
def E80:Sm:=(.seq (.set (.v 1) (cX (.lst [(.tup [])]) (by decide))) (.seq (.fr (.v 2) .rng1 (c1 (.bf .len (c1 (.idx v0 n1)))) (s1 (.set (.v 1) (.bin .add v1 (.comp 1 [2] (.v 0) .seq (c1 v1) .nil (.bin .add v0 (.tup (c1 v1)))))))) (s1 (.ret (.bf .sorted (c1 v1))))))
def o90:Sm:=(s1 (.ret (.and (.isi .int v0) (.not (.isi .bool v0)))))
def e50:Sm:=(.seq (.iff (.or (.not (.isi .tuple v1)) (.cmp .ne (.comp 1 [] (.v 0) .seq (c1 v1) (c1 (.not (.call y40 (c1 v0)))) v0) (.lst .nil))) (s1 (.ret (.con (.bl false)))) .nil) (.seq (.iff (.cmp .ne (.comp 1 [0] (.v 0) .seq (c1 v1) (c1 (.not (.ch .le .lt n0 v0 v1))) v0) (.lst .nil)) (s1 (.ret (.con (.bl false)))) .nil) (s1 (.ret (.cmp .eq (.bf .list (c1 v1)) (.bf .sset (c1 v1)))))))
def f60:Sm:=(.seq (.set (.v 3) (.call a50 (c2 v0 (.bin .add (.bf .len (c1 v2)) n1)))) (.seq (.set (.v 4) (.idx (.lst (.cons (.call a50 (c2 v0 (.bin .add v1 n1))) (.cons v1 (.cons (.neg n1) (.cons (.con (.bl true)) (.cons (.con .non) (c5 (.con (.str "0")) (cX (.tup [(.int 0)]) (by decide)) (.con (.bl false)) (.bin .pow (.con (.int 10)) (.con (.int 29))) n0))))))) (.call a50 (c2 v0 (.con (.int 10)))))) (.seq (.set (.v 5) (.lst (c4 (.bin .add (.bin .add (.sl v2 .nil (c1 v3)) (.tup (c1 v4))) (.sl v2 (c1 v3) .nil)) (.bin .add (.bin .add (.sl v2 .nil (c1 v3)) (.tup (c1 v4))) (.sl v2 (c1 (.bin .add v3 n1)) .nil)) (.bin .add (.sl v2 .nil (c1 v3)) (.sl v2 (c1 (.bin .add v3 n1)) .nil)) (.bf .list (c1 v2))))) (s1 (.ret (.idx (.bin .add v5 (.lst (.cons (.rev v2) (.cons (.bin .add v2 (.sl v2 (c1 (.neg n1)) .nil)) (c5 (.con .non) (.con .dct) n0 (.tup (c1 v2)) (.tup .nil)))))) (.call a50 (c2 v0 (.con (.int 11))))))))))
def f70:Sm:=(.seq (.set (.v 2) (.call a50 (c2 v0 (.bin .add (.bf .len (c1 v1)) n1)))) (.seq (.set (.v 3) (cX (.lst [(.tup [(.int 2),(.int 4)]),(.tup [(.int 1),(.int 0)]),(.tup [(.int 3),(.int 2)]),(.tup [(.int (-1)),(.int 2)]),(.tup [(.bl true),(.int 2)]),(.tup [(.int 1),(.bl true)]),(.tup [(.int 1),(.int 1001)]),(.tup [(.int 1)]),(.tup [(.int 1),(.int 2),(.int 3)]),(.lst [(.int 1),(.int 2)]),.non,(.str "1/2"),(.int 1)]) (by decide))) (.seq (.set (.v 3) (.idx v3 (.call a50 (c2 v0 (.con (.int 13)))))) (.seq (.set (.v 4) (.lst (c5 (.bin .add (.bin .add (.sl v1 .nil (c1 v2)) (.tup (c1 v3))) (.sl v1 (c1 v2) .nil)) (.bin .add v1 (cX (.tup [(.tup [(.int 1),(.int 2)])]) (by decide))) (.bf .list (c1 v1)) (.con .non) (.con .dct)))) (.seq (.iff (.cmp .ne v1 (.tup .nil)) (.seq (.set (.v 2) (.call a50 (c2 v0 (.bf .len (c1 v1))))) (s1 (.set (.v 4) (.bin .add (.bin .add v4 (.bin .mul (.lst (c1 (.bin .add (.bin .add (.sl v1 .nil (c1 v2)) (.tup (c1 v3))) (.sl v1 (c1 (.bin .add v2 n1)) .nil)))) (.con (.int 5)))) (.lst (c2 (.sl v1 (c1 n1) .nil) (.bin .add (.tup (c1 v1)) (.sl v1 (c1 n1) .nil)))))))) .nil) (s1 (.ret (.idx v4 (.call a50 (c2 v0 (.bf .len (c1 v4))))))))))))
def k70:Sm:=(.seq (.set (.v 1) (cX (.lst [.non,(.int 0),(.tup []),(.tup [(.int 7),(.tup [])]),(.tup [(.int 0),(.tup [])]),(.tup [(.int (-1)),(.tup [])]),(.tup [(.bl true),(.tup [])]),(.tup [(.int 2),(.lst [])]),(.lst [(.int 2),(.tup [])]),(.tup [(.int 2),(.tup [(.tup [(.int 1),(.int 0)])])]),(.tup [(.int 2),(.tup [(.tup [(.int 0),(.int 0)])])]),.dct]) (by decide))) (.seq (.set (.v 1) (.bin .add v1 (.lst (c5 (.tup (c2 n2 (.bin .mul (cX (.tup [(.tup [(.int 0),(.int 1)])]) (by decide)) (.con (.int 9))))) (cX (.tup [(.int 3),(.tup [(.tup [(.int 0),(.int 2)]),(.tup [(.int 0),(.int 1)])])]) (by decide)) (cX (.tup [(.int 2),(.tup [(.tup [(.int 0),(.int 2)])])]) (by decide)) (cX (.tup [(.int 2),(.tup [(.tup [(.int 0),(.bl true)])])]) (by decide)) (cX (.tup [(.int 2),(.tup [(.tup [(.int 0),(.int 1),(.int 1)])])]) (by decide)))))) (.seq (.set (.v 1) (.bin .add v1 (cX (.lst [(.tup [(.int 2),(.tup [(.int 0),(.int 1)])]),(.tup [(.int 2),.non]),(.tup [(.int 2),(.tup []),(.tup [])]),(.tup [(.int 2)]),(.tup [(.int 2),(.tup [(.lst [(.int 0),(.int 1)])])]),(.tup [(.int 2),(.tup [.non])]),(.tup [(.str "2"),(.tup [])]),(.str "2:")]) (by decide)))) (s1 (.ret (.idx v1 (.call a50 (c2 v0 (.con (.int 25))))))))))
def m60:Sm:=(.seq (.iff (.isi .seq v1) (.seq (.iff (.or (.cmp .ne (.isi .tuple v0) (.isi .tuple v1)) (.cmp .ne (.isi .list v0) (.isi .list v1))) (s1 (.ret (.con (.bl false)))) .nil) (.seq (.iff (.cmp .ne (.bf .len (c1 v0)) (.bf .len (c1 v1))) (s1 (.ret (.con (.bl false)))) .nil) (s1 (.ret (.bf .all (c1 (.comp 2 [] (p2 (.v 0) (.v 1)) .zip (c2 v0 v1) .nil (.call j00 (c2 v0 v1))))))))) .nil) (s1 (.ret (.and (.cmp .eq v0 v1) (.cmp .eq (.isi .bool v0) (.isi .bool v1))))))
def E90:Sm:=(.seq (.set (p2 (.v 3) (.v 4)) v2) (.seq (.set (p2 (.v 5) (.v 6)) (cX (.tup [(.int 0),(.int 1)]) (by decide))) (.seq (.fr (.v 7) .rng1 (c1 (.bf .len (c1 (.idx v0 n1)))) (s1 (.set (.v 6) (.bin .mul v6 v4)))) (.seq (.fr (.v 8) .seq (c1 (.call E50 (c1 v0))) (s1 (.iff (.call E40 (c3 v0 v8 v1)) (.seq (.set (.v 9) n1) (.seq (.fr (.v 7) .rng1 (c1 (.bf .len (c1 (.idx v0 n1)))) (s1 (.set (.v 9) (.bin .mul v9 (.ite (.cmp .mem v7 v8) v3 (.bin .sub v4 v3)))))) (s1 (.set (.v 5) (.bin .add v5 v9))))) .nil))) (s1 (.ret (.tup (c2 v5 v6))))))))
def Q71:Sm:=(.seq (.fr (.v 1) .rng1 (c1 (.bf .max (c2 n1 (.bf .min (c2 (.bf .len (c1 v0)) (.con (.int 4))))))) (.seq (.newz 2 y30 (c2 v0 v1)) (.seq (.set (p2 (.v 3) (.v 4)) (.tup (c2 (.call w80 (c2 v2 (.idx (.lst (c2 (.con (.int 6)) (.bin .add (.con (.int 6)) (.bin .mul n2 (.bf .int (c1 (.cmp .eq v1 n0))))))) (.call a50 (c2 v2 n2))))) (.call w80 (c2 v2 (.con (.int 6))))))) (.seq (.set (p2 (.v 5) (.v 6)) (.tup (c2 (.call l90 (c2 v2 v3)) (.call l90 (c2 v2 v4))))) (.seq (.fr (.v 7) .seq (c1 (.lst (c3 (.call u80 (c1 v2)) (cX (.tup [(.int 1),(.int 2)]) (by decide)) (cX (.tup [(.int 0),(.int 1)]) (by decide))))) (.seq (.set (p2 (.v 8) (.v 9)) (.tup (c2 (.call E60 (c3 v3 v5 v7)) (.call E60 (c3 v4 v6 v7))))) (.seq (.set (.v 10) (.bin .sub (.bin .mul (.idx v8 n0) (.idx v9 n1)) (.bin .mul (.idx v9 n0) (.idx v8 n1)))) (.seq (.set (.v 11) (.bin .sub (.bf .int (c1 (.cmp .gt v10 n0))) (.bf .int (c1 (.cmp .lt v10 n0))))) (.seq (.iff (.not (.call j00 (c2 (.call b50 (c5 v3 v5 v4 v6 v7)) v11))) (s1 (.ret (.con (.bl false)))) .nil) (s1 (.iff (.not (.call j00 (c2 (.call b50 (c5 v4 v6 v3 v5 v7)) (.bin .sub n0 v11)))) (s1 (.ret (.con (.bl false)))) .nil))))))) (.seq (.set (p2 (.v 12) (.v 13)) (.tup (c2 (.call r60 (c1 v2)) (.call j90 (c2 v2 (.tup .nil)))))) (.seq (.set (.v 14) (.call j80 (c3 v2 (.idx v3 n0) v5))) (.seq (.iff (.cmp .ne (.refd [4,12,13,14] (.call b50 (c5 v1 v3 v0 (.con .non) v2))) (cX (.lst [(.int 0)]) (by decide))) (s1 (.ret (.con (.bl false)))) .nil) (.seq (.iff (.cmp .ne (.refd [3,12,13,14] (.call b50 (c5 v0 v3 v1 (.con .non) v2))) (cX (.lst [(.int 0)]) (by decide))) (s1 (.ret (.con (.bl false)))) .nil) (.seq (.iff (.cmp .ne (.refd [3,4,5,6,13] (.call b50 (c5 v0 v2 v1 v3 v4))) (cX (.lst [(.int 5)]) (by decide))) (s1 (.ret (.con (.bl false)))) .nil) (s1 (.iff (.or (.not (.call m00 (c2 (.idx v3 n0) (.var 14)))) (.cmp .eq (.var 14) (.tup .nil))) (.seq (.iff (.cmp .ne (.refd [3,4,6,13,14] (.call b50 (c5 v0 v4 v1 v2 v3))) (cX (.lst [(.int 2)]) (by decide))) (s1 (.ret (.con (.bl false)))) .nil) (s1 (.iff (.cmp .ne (.refd [3,4,6,13,14] (.call b50 (c5 v1 v2 v0 v4 v3))) (cX (.lst [(.int 2)]) (by decide))) (s1 (.ret (.con (.bl false)))) .nil))) .nil)))))))))))) (s1 (.ret (.con (.bl true)))))
def rows:List Row:=[(⟨"common_divisor",["one","other"],top 15,["one","other"],h30,false⟩:Row),
 (⟨"lowest",["top","bottom"],top 16,["top","bottom","divisor"],N00,false⟩:Row),
 (⟨"plus",["one","other"],top 17,["one","other"],D11,false⟩:Row),
 (⟨"times",["one","other"],top 18,["one","other"],c41,false⟩:Row),
 (⟨"is_less",["one","other"],top 19,["one","other"],E70,false⟩:Row),
 (⟨"is_whole",["thing"],top 23,["thing"],H90,false⟩:Row),
 (⟨"is_below",["thing","many"],top 24,["thing","many"],w90,false⟩:Row),
 (⟨"is_tie",["thing","many"],top 25,["thing","many","a","b"],N10,false⟩:Row),
 (⟨"are_ties",["thing","many"],top 26,["thing","many"],x00,false⟩:Row),
 (⟨"is_web",["thing"],top 27,["thing","many","ties"],N20,false⟩:Row),
 (⟨"rises",["things"],top 28,["things"],c51,false⟩:Row),
 (⟨"is_rising_below",["thing","many"],top 29,["thing","many"],g50,false⟩:Row),
 (⟨"check_web",["thing"],top 30,["thing"],m20,false⟩:Row),
 (⟨"check_places",["web","thing"],top 31,["web","thing"],g70,false⟩:Row),
 (⟨"marks_by",["web","lot"],top 32,["web","lot","many","ties","marks","number","a","b","kept","gone"],x10,false⟩:Row),
 (⟨"are_joined",["web","lot","places"],top 33,["web","lot","places","marks"],o80,false⟩:Row),
 (⟨"is_chance",["thing"],top 36,["thing","top","bottom"],s30,false⟩:Row),
 (⟨"check_chance",["thing"],top 37,["thing"],g80,false⟩:Row),
 (⟨"all_lots",["web"],top 39,["web","lots","number"],q30,false⟩:Row),
 (⟨"good_lots",["web","places"],top 40,["web","places"],s40,false⟩:Row),
 (⟨"counts",["web","places"],top 42,["web","places","lots","found","lot"],N30,false⟩:Row),
 (⟨"check_both",["web","places","other","more"],top 43,["web","places","other","more"],e20,false⟩:Row),
 (⟨"powers",["web","places"],top 44,["web","places","numbers","found","k","many"],N40,false⟩:Row),
 (⟨"share_at",["web","places","chance"],top 45,["web","places","chance","found","number"],q40,false⟩:Row),
 (⟨"greater_at",["web","places","other","more","chance"],top 46,["web","places","other","more","chance","first","second"],d40,false⟩:Row),
 (⟨"_law_cell_at",["_law_script","_law_k"],top 48,["_law_script","_law_k"],g90,false⟩:Row),
 (⟨"_law_state",["_law_script","_law_k"],top 49,["_law_script","_law_k","_law_cell"],k00,false⟩:Row),
 (⟨"_law_take",["_law_state_here","_law_many"],top 50,["_law_state_here","_law_many","_law_found","_law_stirred"],s50,false⟩:Row),
 (⟨"_law_web",["_law_state_here","_law_most"],top 51,["_law_state_here","_law_most","_law_many","_law_ties","_law_turn","_law_one","_law_other"],x20,false⟩:Row),
 (⟨"_law_places",["_law_state_here","_law_web_here"],top 52,["_law_state_here","_law_web_here","_law_way","_law_one"],m30,false⟩:Row),
 (⟨"_law_lowest",["_law_top","_law_bottom"],top 53,["_law_top","_law_bottom","_law_one","_law_other"],m40,false⟩:Row),
 (⟨"_law_chance",["_law_state_here"],top 54,["_law_state_here","_law_some","_law_way","_law_bottom"],m50,false⟩:Row),
 (⟨"_law_with",["_law_web_here","_law_lot","_law_place"],top 55,["_law_web_here","_law_lot","_law_place","_law_found","_law_turn","_law_number","_law_one","_law_other"],s60,false⟩:Row),
 (⟨"_law_good",["_law_web_here","_law_lot","_law_places_here"],top 56,["_law_web_here","_law_lot","_law_places_here","_law_here"],s70,false⟩:Row),
 (⟨"_law_lots",["_law_web_here"],top 57,["_law_web_here","_law_found","_law_number"],E80,false⟩:Row),
 (⟨"_law_whole",["_law_thing"],top 58,["_law_thing"],o90,false⟩:Row),
 (⟨"_law_rising",["_law_many","_law_thing"],top 59,["_law_many","_law_thing"],e50,false⟩:Row),
 (⟨"_law_bent_rising",["_law_state_here","_law_many","_law_some"],top 60,["_law_state_here","_law_many","_law_some","_law_at_here","_law_odd","_law_found"],f60,false⟩:Row),
 (⟨"_law_bad_chances",["_law_state_here","_law_chances"],top 61,["_law_state_here","_law_chances","_law_at_here","_law_odd","_law_some"],f70,false⟩:Row),
 (⟨"_law_bad_web",["_law_state_here"],top 62,["_law_state_here","_law_some"],k70,false⟩:Row),
 (⟨"_law_same",["_law_found","_law_due"],top 63,["_law_found","_law_due"],m60,false⟩:Row),
 (⟨"_law_at",["_law_web_here","_law_places_here","_law_chance_here"],top 65,["_law_web_here","_law_places_here","_law_chance_here","_law_top","_law_bottom","_law_found","_law_whole_here","_law_number","_law_lot","_law_part"],E90,false⟩:Row),
 (⟨"law",["_law_script"],top 66,["_law_script","_law_k","_law_state_here","_law_one","_law_other","_law_mine","_law_theirs","_law_chance_here","_law_first","_law_second","_law_less","_law_due","_law_bad","_law_none","_law_odd"],Q71,true⟩:Row)]
def T:List Df:=[(Df.code 2 2 h30:Df),(Df.code 2 3 N00:Df),(Df.code 2 2 D11:Df),(Df.code 2 2 c41:Df),(Df.code 2 2 E70:Df),(Df.code 1 1 H90:Df),(Df.code 2 2 w90:Df),(Df.code 2 4 N10:Df),(Df.code 2 2 x00:Df),(Df.code 1 3 N20:Df),(Df.code 1 1 c51:Df),(Df.code 2 2 g50:Df),(Df.code 1 1 m20:Df),(Df.code 2 2 g70:Df),(Df.code 2 10 x10:Df),(Df.code 3 4 o80:Df),(Df.code 1 3 s30:Df),(Df.code 1 1 g80:Df),(Df.code 1 3 q30:Df),(Df.code 2 2 s40:Df),(Df.code 2 5 N30:Df),(Df.code 4 4 e20:Df),(Df.code 2 6 N40:Df),(Df.code 3 5 q40:Df),(Df.code 5 7 d40:Df),(Df.code 2 2 g90:Df),(Df.code 2 3 k00:Df),(Df.code 2 4 s50:Df),(Df.code 2 7 x20:Df),(Df.code 2 4 m30:Df),(Df.code 2 4 m40:Df),(Df.code 1 4 m50:Df),(Df.code 3 8 s60:Df),(Df.code 3 4 s70:Df),(Df.code 1 3 E80:Df),(Df.code 1 1 o90:Df),(Df.code 2 2 e50:Df),(Df.code 3 6 f60:Df),(Df.code 2 5 f70:Df),(Df.code 1 2 k70:Df),(Df.code 2 2 m60:Df),(Df.code 3 10 E90:Df),(Df.code 1 15 Q71:Df)]
÷Y82:tabOf rows=T:=rfl
end K3
namespace K3
open Q
open L2 (D)
def p00:D->Bool
 |.int _=>true
 |_=>false
÷m70(k:Nat)(x:D)(z:Z):b40 T (k + 3) l10 [.d x] z=some (.ok (.d (.bl (p00 x))) z):=by
 cases z <;> cases x <;> rfl
def b90(x:D)(m:Int):Bool:=match x with
 |.int i=>decide (0<=i)&&decide (i < m)
 |_=>false
÷s80(k:Nat)(x:D)(m:Int)(z:Z):b40 T (k + 4) q10 [.d x,.d (.int m)] z=some (.ok (.d (.bl (b90 x m))) z):=by
 ¤W.ok (g60 (ps:=2) (ns:=2) (b:=w90) rfl rfl (by decide) (Wo (m70 (k:=k) x z) ?_))
 cases x with
 |int i=>§ib (b:=decide (0<=i)) (λh=>sb (show decide (i < m)=(decide (0<=i)&&decide (i < m)) by rw[h];rfl)) λh=>sb (show false=(decide (0<=i)&&decide (i < m)) by rw[h];rfl)
 |_=>§sb rfl
def H71(x:D)(m:Int):Bool:=match x with
 |.tup [a,b]=>b90 a m&&(b90 b m&&(match a,b with
  |.int i,.int j=>decide (i < j)
  |_,_=>false))
 |_=>false
÷j10(h:b90 x m=true):∃ i,x=.int i/\0<=i/\i < m:=by
 cases x with
 |int i =>
  unfold b90 at h
  rw[Á,decide_eq_true_eq,decide_eq_true_eq] at h
  §⟨i,rfl,h⟩
 |_=>cases h
÷D21(k:Nat)(x:D)(m:Int)(z:Z):b40 T (k + 5) i61 [.d x,.d (.int m)] z=some (.ok (.d (.bl (H71 x m))) z):=by
 ¤W.ok (g60 (ps:=2) (ns:=4) (b:=N10) rfl rfl (by decide) ?_)
 cases x with
 |tup l =>
  match l with
  |[a,b] =>
   ¤Wo (s80 k a m z) (ib (b:=b90 a m) (λh1=>Wo (s80 k b m z) (ib (b:=b90 b m) (λh2=>?_) λh=>?_)) λh=>?_)
   ·¶⟨i,rfl,_⟩:=j10 h1
    ¶⟨j,rfl,_⟩:=j10 h2
    §sb (show decide (i < j)=(b90 (.int i) m&&(b90 (.int j) m&&decide (i < j))) by rw[h1,h2];rfl)
   ·§sb (show false=(b90 a m&&(b90 b m&&_)) by rw[h1,h];rfl)
   ·§sb (show false=(b90 a m&&_) by rw[h];rfl)
  |[]=>§sb rfl
  |[_]=>§sb rfl
  |_::_::_::_=>§sb rfl
 |_=>§sb rfl
÷I00(l:List D)(p:D->Bool):bfD .all [.lst (l.map λx=>D.bl (p x))]=some (.d (.bl (l.all p))):=by
 have h:(l.map λx=>D.bl (p x)).mapM asB=some (l.map p):=by
  induction l with
  |nil=>rfl
  |cons x r ih =>
   rw[Å7,mapM_cons,ih];rfl
 show((l.map λx=>D.bl (p x)).mapM asB).map _=_
 rw[h]
 simp[all_map]
÷j01(l:List D)(n:Nat):cutD l (some (n:Int)) none=l.drop n:=by
 have h1:HT.sIx l.length 0 (some (n:Int))=min n l.length:=HT.r71 l.length 0 n
 unfold cutD
 rw[h1]
 show((l.drop (min n l.length)).take (l.length - min n l.length))=_
 rcases Nat.le_total n l.length with h | h
 ·rw[Þ0 h,È5 (by rw[Í3];omega)]
 ·rw[Ü7 h,drop_length,List.take_nil,List.drop_of_length_le h]
÷u90:∀ a b:List D,(o00 a b).length<=a.length
 |[],_=>Í _
 |_::_,[]=>Æ1 _
 |_::r,_::q=>Ü6 (u90 r q)
÷N50:∀ {a b:List D}{d:D},d∈o00 a b->∃ x∈a,∃ y∈b,d=.tup [x,y]
 |x::r,y::q,d,h=>by
  rcases ú.mp h with h | h
  ·§⟨x,Ì,y,Ì,h⟩
  ·¶⟨u,hu,v,hv,e⟩:=N50 h
   §⟨u,È _ hu,v,È _ hv,e⟩
def leD:D->Bool
 |.tup [.tup a,.tup b]=>(match a01 a,a01 b with
  |some ns,some ms=>HT.leB ns ms
  |_,_=>false)
 |_=>false
def j11(l:List D):Bool:=(o00 l (l.drop 1)).all leD
def c61(x:D)(m:Int):Bool:=match x with
 |.tup l=>decide (l.length<=8)&&(l.all (λt=>H71 t m)&&j11 l)
 |_=>false
÷V20(h:H71 x m=true):∃ i j,x=.tup [.int i,.int j]/\0<=i/\i < j/\j < m:=by
 cases x with
 |tup l =>
  match l,h with
  |[a,b],h =>
   unfold H71 at h
   rw[Á,Á] at h
   ¶⟨h1,h2,h3⟩:=h
   ¶⟨i,rfl,i1,i2⟩:=j10 h1
   ¶⟨j,rfl,j1,j2⟩:=j10 h2
   §⟨i,j,rfl,i1,of_decide_eq_true h3,j2⟩
 |_=>cases h
÷s90(h:n<=1000):n<=most:=Ñ h (by decide)
÷c71(k:Nat)(x:D)(m:Int)(z:Z):b40 T (k + 6) H60 [.d x,.d (.int m)] z=some (.ok (.d (.bl (c61 x m))) z):=by
 ¤W.ok (g60 (ps:=2) (ns:=2) (b:=x00) rfl rfl (by decide) ?_)
 cases x with
 |tup l =>
  ¤ib (b:=decide ((8:Int) < (l.length:Int))) (λh=>?_) λh=>?_
  ·¤sb (show false=(decide (l.length<=8)&&_) from ?_)
   rw[decide_eq_true_eq] at h
   rw[decide_eq_false (by omega)];rfl
  ·rw[decide_eq_false_iff_not] at h
   have h8:l.length<=8:=by omega
   ¤ip (s90 (by omega)) (Q61 (λx=>.bl (H71 x m)) (λx _=>Wo (D21 k x m z) ⟨rfl,rfl⟩) ?_)
   ¤(a00 (I00 l λx=>H71 x m) ?_ :)
   ¤ib (b:=!l.all λx=>H71 x m) (λh=>?_) λh2=>?_
   ·§sb (show false=(decide (l.length<=8)&&(l.all (λt=>H71 t m)&&j11 l)) by rw[À0] at h;rw[h,Õ8,Bool.and_false])
   ·rw[Í1] at h2
    have ha:=Õ.mp h2
    have e1:cutD l (some 1) none=l.drop 1:=j01 l 1
    ¤ip (c:=(o00 l (cutD l (some 1) none)).length<=most) (Ñ (u90 _ _) (s90 (by omega))) (Q61 (λx=>.bl (leD x)) (λx hx=>?_) (a00 (I00 _ leD) ?_ :))
    ·¶⟨u,hu,v,hv,rfl⟩:=N50 hx
     rw[e1] at hv
     ¶⟨i,j,rfl,_⟩:=V20 (ha u hu)
     ¶⟨i',j',rfl,_⟩:=V20 (ha v (List.mem_of_mem_drop hv))
     §⟨rfl,rfl⟩
    ·¤sb (b:=(o00 l (cutD l (some 1) none)).all leD) ?_
     show _=(decide (l.length<=8)&&(l.all (λt=>H71 t m)&&j11 l))
     rw[e1,h2,decide_eq_true h8,Ä9,Ä9];rfl
 |_=>§sb rfl
def Q42(a t:D):Bool:=match a with
 |.int m=>decide (1<=m)&&(decide (m<=6)&&c61 t m)
 |_=>false
def q31(x:D):Bool:=match x with
 |.tup [a,t]=>Q42 a t
 |_=>false
÷V30(k:Nat)(x:D)(z:Z):b40 T (k + 7) i71 [.d x] z=some (.ok (.d (.bl (q31 x))) z):=by
 ¤W.ok (g60 (ps:=1) (ns:=3) (b:=N20) rfl rfl (by decide) ?_)
 cases x with
 |tup l =>
  match l with
  |[a,t] =>
   ¤Wo (m70 (k + 3) a _) ?_
   cases a with
   |int m =>
    ¤ib (b:=decide (1<=m)) (λg1=>ib (b:=decide (m<=6)) (λg2=>Wo (c71 k t m _) ?_) λg2=>?_) λg1=>?_
    ·§sb (show c61 t m=(decide (1<=m)&&(decide (m<=6)&&c61 t m)) by rw[g1,g2];rfl)
    ·§sb (show false=(decide (1<=m)&&(decide (m<=6)&&c61 t m)) by rw[g1,g2];rfl)
    ·§sb (show false=(decide (1<=m)&&(decide (m<=6)&&c61 t m)) by rw[g1];rfl)
   |_=>§sb rfl
  |[]=>§sb rfl
  |[_]=>§sb rfl
  |_::_::_::_=>§sb rfl
 |_=>§sb rfl
÷c50(k:Nat)(z:Z)(h:q31 x=true):b40 T (k + 8) g40 [.d x] z=some (.ok (.d .non) z) :=
 W.ok (g60 (ps:=1) (ns:=1) (b:=m20) rfl rfl (by decide) (Wo (V30 k x z) (ie (b:=!q31 x) (by rw[h];rfl) (sd rfl))))
÷y50(k:Nat)(z:Z)(h:q31 x=false):b40 T (k + 8) g40 [.d x] z=some (.er 0 z) :=
 W.er (g60 (ps:=1) (ns:=1) (b:=m20) rfl rfl (by decide) (Wo (V30 k x z) (it (b:=!q31 x) (by rw[h];rfl) ⟨rfl,c30 z⟩)))
÷o71(hj:0 < j):z60 .mod (.int i) (.int j)=some (.d (.int (i % j))):=by
 show(if 0 < j then some (S.d (.int (i % j))) else none)=_
 rw[if_pos hj]
def GT(n:Nat)(a b:Int):Prop:=0<=b/\((∃ k:Nat,n=2 * k + 1/\b < 2 ^ k)∨∃ k:Nat,n=2 * k/\b < a/\a < 2 ^ k)
÷GT.step(h:GT n a b)(hb:0 < b):∃ m,m < n/\GT m b (a % b):=by
 ¶⟨h0,h⟩:=h
 have r0:=Ö3 a (show b≠0 by omega)
 have r1:=emod_lt_of_pos a hb
 rcases h with ⟨k,rfl,hk⟩ | ⟨k,rfl,hba,hk⟩
 ·§⟨2 * k,Ë9 _,r0,.inr ⟨k,rfl,r1,hk⟩⟩
 ·cases k with
  |zero=>simp at hk;omega
  |succ k =>
   ¤⟨2 * k + 1,by omega,r0,.inl ⟨k,rfl,?_⟩⟩
   have e:=Int.emod_add_mul_ediv a b
   have q1:1<=a / b:=Int.le_ediv_of_mul_le hb (by omega)
   have:b * 1<=b * (a / b):=Int.mul_le_mul_of_nonneg_left q1 (by omega)
   have h2:(2:Int) ^ (k + 1)=2 * 2 ^ k:=by rw[Ã5,Ú9]
   rw[h2] at hk
   omega
÷D31(a b:Int):gcd b (a % b)=gcd a b:=by
 rw[Int.emod_def,Int.gcd_sub_mul_left_right,Int.gcd_comm]
def big(b:Int):Prop:=b < 2 ^ 4000
÷j22(h0:0<=b)(h:big b):b.natAbs < P40:=by
 have h:b < 2 ^ 4000:=h
 have e:((2 ^ 4000:Nat):Int)=2 ^ 4000:=by rw[Int.natCast_pow];rfl
 show b.natAbs < 2 ^ 4000
 omega
÷V40(h:b<=2 ^ 64):big b:=Int.lt_of_le_of_lt h (by decide)
÷l30(k:Nat)(a b:Int)(z:Z)(h0:0 < b)(h1:big b):b40 T (k + 3) h20 [.d (.int a),.d (.int b)] z=some (.ok (.d (.int (gcd a b))) z):=by
 ¤W.ok (g60 (ps:=2) (ns:=2) (b:=h30) rfl rfl (by decide) (z62 (λn ρ z1=>z1=z/\∃ c d:Int,ρ=[some (.d (.int c)),some (.d (.int d))]/\GT n c d/\gcd c d=gcd a b/\(d=0->0<=c)) (2 * 4000 + 1) ⟨rfl,a,b,rfl,⟨Ô3 h0,.inl ⟨4000,rfl,h1⟩⟩,rfl,λh=>by omega⟩ (by decide) ?_))
 rintro n ρ z1 ⟨rfl,c,d,rfl,g,hg,hc⟩
 ¤ib (b:=decide (0 < d)) (λhd=>?_) λhd=>?_
 ·rw[decide_eq_true_eq] at hd
  ¶⟨m,hm,g'⟩:=g.step hd
  ¤(a00 (o71 (i:=c) hd) ?_ :)
  §⟨m,hm,rfl,d,c % d,rfl,g',(D31 c d).trans hg,λ_=>Int.le_of_lt hd⟩
 ·rw[decide_eq_false_iff_not] at hd
  have hz:d=0:=by have:=g.1;omega
  subst hz
  rw[Int.gcd_zero_right] at hg
  ¤sd (s:=.d (.int c)) ?_
  rw[← hg,show((c.natAbs:Nat):Int)=c by have:=hc rfl;omega]
def chI(t b:Int):Bool:=(decide (1<=b)&&decide (b<=1000))&&((decide (0<=t)&&decide (t<=b))&&(((gcd t b:Nat):Int) == 1))
def chP:D->D->Bool
 |.int t,.int b=>chI t b
 |_,_=>false
def chD:D->Bool
 |.tup [d,e]=>chP d e
 |_=>false
÷j21(h:¬ (1<=u/\u<=1000/\0<=t/\t<=u)):false=chI t u:=by
 unfold chI
 ¤Eq.symm ?_
 rw[Bool.eq_false_iff]
 intro q
 rw[Á,Á,Á,Á,decide_eq_true_eq,decide_eq_true_eq,decide_eq_true_eq,decide_eq_true_eq] at q
 §h ⟨q.1.1,q.1.2,q.2.1.1,q.2.1.2⟩
÷y60(k:Nat)(x:D)(z:Z):b40 T (k + 4) E10 [.d x] z=some (.ok (.d (.bl (chD x))) z):=by
 ¤W.ok (g60 (ps:=1) (ns:=3) (b:=s30) rfl rfl (by decide) ?_)
 cases x with
 |tup l =>
  match l with
  |[a,b] =>
   ¤Wo (m70 k a z) ?_
   cases a with
   |int t =>
    ¤Wo (m70 k b z) ?_
    cases b with
    |int u =>
     ¤ib (b:=decide (1<=u)) (λh1=>ib (b:=!decide (u<=1000)) (λh2=>?_) λh2=>ib (b:=decide (0<=t)) (λh3=>ib (b:=!decide (t<=u)) (λh4=>?_) λh4=>?_) λh3=>?_) λh1=>?_
     ·§sb (j21 λq=>by rw[À0,decide_eq_false_iff_not] at h2;§h2 q.2.1)
     ·§sb (j21 λq=>by rw[À0,decide_eq_false_iff_not] at h4;§h4 q.2.2.2)
     ·rw[Í1,decide_eq_true_eq] at h2 h4
      rw[decide_eq_true_eq] at h1 h3
      ¤Wo (l30 k t u z (by omega) (V40 (by omega))) (sb (show(((gcd t u:Nat):Int) == 1)=chI t u from ?_))
      unfold chI
      rw[decide_eq_true h1,decide_eq_true h2,decide_eq_true h3,decide_eq_true h4];rfl
     ·§sb (j21 λq=>by rw[decide_eq_false_iff_not] at h3;§h3 q.2.2.1)
     ·§sb (j21 λq=>by rw[decide_eq_false_iff_not] at h1;§h1 q.1)
    |_=>§sb rfl
   |_=>§sb rfl
  |[]=>§sb rfl
  |[_]=>§sb rfl
  |_::_::_::_=>§sb rfl
 |_=>§sb rfl
def ZI(z:Z):Prop:=∃ n b,z=some (n,b)/\0<=n/\(b=false->n < 2147483647)
÷j32{T:List Df}{k f ps ns:Nat}{b:Sm}{l:List S}{z:Z}{Q:S->Z->Prop}{E:Nat->Z->Prop}(hz:ZI z)(h:T[f]?=some (.code ps ns b))(hl:l.length=ps)(hn:ps<=ns)(q:WS (T30 T (k + 2)) false b (start ns (l.map plS)) z (λo z1=>match o with
  |.nx _=>Q (.d .non) z1
  |.rt s=>Q s z1) E):W (b40 T (k + 3) f l) z Q E:=by
 ¶⟨n,c,rfl,_⟩:=hz
 ¤g60 h hl hn (q.mono (λo z1 h=>?_) λ_ _ h=>h)
 cases o <;> §h
÷D41{a:Int}{n:Nat}(h:a.natAbs < n)(hn:n<=2 ^ 64:=by decide):a.natAbs < P40:=Ù h (Ñ hn (by decide))
÷c81{i j:Int}(hi:i.natAbs < 2 ^ 64)(hj:j.natAbs < 2 ^ 64):z60 .mul (.int i) (.int j)=some (.d (.int (i * j))):=by
 show(if i.natAbs < P40/\j.natAbs < P40 then some (S.d (.int (i * j))) else none)=_
 rw[if_pos ⟨D41 hi,D41 hj⟩]
÷N32{i j:Int}(hj:0 < j)(hb:j.natAbs < 2 ^ 64):z60 .fdiv (.int i) (.int j)=some (.d (.int (i / j))):=by
 show(if 0 < j/\j.natAbs < P40 then some (S.d (.int (i / j))) else none)=_
 rw[if_pos ⟨hj,D41 hb⟩]
def Drawn(m:Int)(s:S)(z1:Z):Prop:=ZI z1/\∃ r:Nat,s=.d (.int r)/\(r:Int) < m
÷e30(k:Nat)(m:Int)(hz:ZI z)(m0:0 < m)(m1:m < 2 ^ 32):W (b40 T (k + 3) a50 [.z,.d (.int m)]) z (Drawn m) NE:=by
 have fin:∀ (a:Int) (z1:Z),ZI z1->Drawn m (.d (.int (a % m))) z1:=λa z1 h=>by
  have h0:=Ö3 a (show m≠0 by omega)
  §⟨h,(a % m).toNat,by rw[Int.toNat_of_nonneg h0],by rw[Int.toNat_of_nonneg h0];§emod_lt_of_pos _ m0⟩
 ¤j32 hz (ps:=2) (ns:=4) (b:=s50) rfl rfl (by decide) ?_
 ¶⟨n,b,rfl,n0,n1⟩:=hz
 cases b with
 |true =>
  ¤(a00 (o71 (i:=n) m0) ?_ :)
  ¤(a00 (N32 (i:=n) m0 (by omega)) ?_ :)
  §fin n _ ⟨n / m,true,rfl,Int.ediv_nonneg n0 (by omega),λh=>nomatch h⟩
 |false =>
  have n1:=n1 rfl
  have e1:∀ a:Int,0<=a % 2147483647/\a % 2147483647 < 2147483647:=λa=>⟨emod_nonneg _ (by decide),emod_lt_of_pos _ (by decide)⟩
  have e2:∀ a:Int,0<=a % 2147483629/\a % 2147483629 < 2147483629:=λa=>⟨emod_nonneg _ (by decide),emod_lt_of_pos _ (by decide)⟩
  have s1:∀ a:Int,(a % 2147483647).natAbs < 2 ^ 64:=λa=>by have:=e1 a;omega
  have s2:∀ a:Int,(a % 2147483629).natAbs < 2 ^ 64:=λa=>by have:=e2 a;omega
  ¤(a00 (c81 (i:=n) (j:=48271) (by omega) (by decide)) ?_ :)
  have a1:=e1 (n * 48271 + 29)
  ¤(a00 (c81 (s1 (n * 48271 + 29)) (s1 (n * 48271 + 29))) ?_ :)
  ¤(a00 (c81 (i:=39373) (by decide) (s1 (n * 48271 + 29))) ?_ :)
  ¤(a00 (c81 (s2 _) (s2 _)) ?_ :)
  ¤(a00 (c81 (i:=16807) (by decide) (s2 _)) ?_ :)
  ¤(a00 (o71 m0) ?_ :)
  §fin _ _ ⟨_,false,rfl,a1.1,λ_=>a1.2⟩
÷o81(k:Nat)(ns:List Int)(j:Nat)(z:Z):∃ c:Int,b40 T (k + 3) r50 [.d (.lst (ns.map D.int)),.d (.int j)] z=some (.ok (.d (.int c)) z):=by
 by_cases h:j < ns.length
 ·¤⟨ns[j],W.ok (g60 (ps:=2) (ns:=2) (b:=g90) rfl rfl (by decide) (it (b:=decide ((j:Int) < ((ns.map D.int).length:Int))) (by simp[h]) ?_))⟩
  ¤(a00 (o:=n61 (.lst (ns.map D.int)) (.int j)) (L2.B50 (v:=.int ns[j]) (by simp[h])) ?_ :)
  §sd rfl
 ·§⟨0,W.ok (g60 (ps:=2) (ns:=2) (b:=g90) rfl rfl (by decide) (ie (b:=decide ((j:Int) < ((ns.map D.int).length:Int))) (by simp;omega) (sd rfl)))⟩
÷Q81(k:Nat)(ns:List Int)(j:Nat)(z:Z):∃ (n:Int) (b:Bool),ZI (some (n,b))/\b40 T (k + 4) y30 [.d (.lst (ns.map D.int)),.d (.int j)] z=some (.ok (.fr [.int n,.bl b]) z):=by
 ¶⟨c,hc⟩:=o81 k ns j z
 by_cases h:(10 ^ 18:Int)<=c
 ·§⟨c - 10 ^ 18,true,⟨_,_,rfl,by omega,λh=>nomatch h⟩,W.ok (g60 (ps:=2) (ns:=3) (b:=k00) rfl rfl (by decide) (Wo hc (it (b:=decide ((10 ^ 18:Int)<=c)) (decide_eq_true h) (sd rfl))))⟩
 ·¤⟨c % 2147483647,false,⟨_,_,rfl,emod_nonneg _ (by decide),λ_=>emod_lt_of_pos _ (by decide)⟩,W.ok (g60 (ps:=2) (ns:=3) (b:=k00) rfl rfl (by decide) (Wo hc (ie (b:=decide ((10 ^ 18:Int)<=c)) (decide_eq_false h) (sd rfl))))⟩
÷V50(h0:0<=m)(h1:m < 100000):itD .rng1 [.int m]=some ((í m.toNat).map λ(i:Nat)=>D.int i):=by
 show(if inR m=true then _ else none)=_
 rw[if_pos (G20.mpr ⟨by omega,h1⟩)]
÷ne_nil(h:okD (.lst l)=true):A20 .ne (.lst l) (.lst [])=some (!l.isEmpty):=by
 show(eqO (.lst l) (.lst [])).map (!·)=_
 unfold eqO
 rw[h]
 cases l <;> rfl
÷N60:∀ l:List Int,e70 (l.map D.int)=true/\f80 (l.map D.int)=0
 |[]=>⟨rfl,rfl⟩
 |x::r=>by
  ¶⟨h1,h2⟩:=N60 r
  ¤⟨h1,?_⟩
  show Ñ0 0 (f80 (r.map D.int))=0
  rw[h2];rfl
÷D51(l:List Int):okD (.lst (l.map D.int))=true:=by
 ¶⟨h1,h2⟩:=N60 l
 show(e70 (l.map D.int)&&decide (f80 (l.map D.int) + 1<=40))=true
 rw[h1,h2];rfl
÷Q91(n:Nat):(í n).map (λ(i:Nat)=>D.int i)=((í n).map λ(i:Nat)=>(i:Int)).map D.int:=by
 rw[ó];rfl
÷I10:∀ l:List Int,o30 (l.map D.int)=true
 |[]=>rfl
 |_::r=>I10 r
÷j42{l:List Int}{j:Nat}(h:j < l.length):(l.map D.int)[j]?=some (.int l[j]):=by rw[Ý,ç h];rfl
÷o91{j:Nat}(h:l[j]?=some x):n61 (.lst l) (.int j)=some x:=L2.B50 h
÷z92{j:Nat}(h:l[j]?=some x):n61 (.tup l) (.int j)=some x:=L2.B50 h
def pr(p:Int × Int):D:=.tup [.int p.1,.int p.2]
def ky(p:Int × Int):List Int:=[p.1,p.2]
÷Y92(a b c d:Int):MySort.h70 [a,b] [c,d]=if a=c then(if b=d then false else decide (b < d)) else decide (a < c):=rfl
def Ch:List (Int × Int)->Prop
 |a::b::r=>HT.leB (ky a) (ky b)=true/\Ch (b::r)
 |_=>True
÷j31(h:MySort.h70 (ky p) (ky q)=true):HT.leB (ky p) (ky q)=true:=by
 unfold HT.leB
 unfold ky at h ⊢
 rw[Y92] at h ⊢
 by_cases h1:p.1=q.1
 ·rw[if_pos h1] at h
  rw[if_pos h1.symm]
  by_cases h2:p.2=q.2
  ·rw[if_pos h2] at h;cases h
  ·rw[if_neg h2] at h
   rw[if_neg (Â3 h2)]
   simp only[decide_eq_true_eq] at h
   simp;omega
 ·rw[if_neg h1] at h
  rw[if_neg (Â3 h1)]
  simp only[decide_eq_true_eq] at h
  simp;omega
def H81(k:Int × Int):List (Int × Int)->List (Int × Int)
 |[]=>[k]
 |y::r=>if MySort.h70 (ky y) (ky k) then y::H81 k r else k::y::r
def p01:List (Int × Int)->List (Int × Int)
 |[]=>[]
 |k::r=>H81 k (p01 r)
÷V60(k:Int × Int):∀ l,(H81 k l).Perm (k::l)
 |[]=>.refl _
 |y::r=>by
  unfold H81
  split
  ·§((V60 k r).cons y).trans (.swap _ _ _)
  ·§.refl _
÷I20:∀ l,(p01 l).Perm l
 |[]=>.refl _
 |k::r=>(V60 k _).trans ((I20 r).cons k)
÷D61(k:Int × Int):∀ l,Ch l->Ch (H81 k l)
 |[],_=>trivial
 |[y],_=>by
  unfold H81
  split
  ·rename_i h;§⟨j31 h,trivial⟩
  ·rename_i h
   ¤⟨?_,trivial⟩
   unfold HT.leB
   simpa using h
 |y::x::r,h=>by
  ¶⟨h1,h2⟩:=h
  have ih:=D61 k (x::r) h2
  unfold H81
  split
  ·rename_i hy
   unfold H81 at ih ⊢
   split at ih
   ·rename_i hx
    rw[if_pos hx]
    §⟨h1,ih⟩
   ·rename_i hx
    rw[if_neg hx]
    §⟨j31 hy,ih⟩
  ·rename_i hy
   ¤⟨?_,h1,h2⟩
   unfold HT.leB
   simpa using hy
÷j41:∀ l,Ch (p01 l)
 |[]=>trivial
 |k::r=>D61 k _ (j41 r)
÷j51(k:Int × Int):∀ l:List (Int × Int),q21 (pr k) (l.map pr)=(H81 k l).map pr
 |[]=>rfl
 |y::r=>by
  unfold H81
  show(if MySort.h70 (ky y) (ky k) then pr y::q21 (pr k) (r.map pr) else pr k::pr y::r.map pr)=_
  split
  ·rw[j51 k r];rfl
  ·rfl
÷V70:∀ l:List (Int × Int),u20 (l.map pr)=(p01 l).map pr
 |[]=>rfl
 |k::r=>by
  show q21 (pr k) (u20 (r.map pr))=_
  rw[V70 r,j51];rfl
÷N42(p q:Int × Int):ltD (pr p) (pr q)=some (MySort.h70 (ky p) (ky q)):=by
 show(if (p.1 == q.1)=true then(if (p.2 == q.2)=true then some false else some (decide (p.2 < q.2))) else some (decide (p.1 < q.1)))=some (if p.1=q.1 then(if p.2=q.2 then false else decide (p.2 < q.2)) else decide (p.1 < q.1))
 simp only[beq_iff_eq]
 split
 ·split <;> rfl
 ·rfl
÷j52(p q:Int × Int):i60 (pr p) (pr q)=true:=by
 unfold i60
 rw[N42]
 show(true&&((some (MySort.h70 (ky p) (ky q)) == some (MySort.h70 (ky p) (ky q)))&&(((p.1 == q.1)&&((p.2 == q.2)&&true)) || !([p.1,p.2] == [q.1,q.2]))))=true
 rw[beq_self_eq_true,Ä9,Ä9,Ñ2]
 by_cases h1:p.1=q.1 <;> by_cases h2:p.2=q.2 <;> simp[h1,h2]
÷D71(l:List (Int × Int)):n10 (l.map pr)=true:=by
 ¤Õ.mpr λx hx=>?_
 ¶⟨p,_,rfl⟩:=Ú.mp hx
 show(true&&(true&&(l.map pr).all (i60 (pr p))))=true
 ¤Õ.mpr λy hy=>?_
 ¶⟨q,_,rfl⟩:=Ú.mp hy
 §j52 p q
÷D81(h:l.length < 64):bfD .sorted [.lst (l.map pr)]=some (.fr ((p01 l).map pr)):=by
 show(if (l.map pr).length < 64/\n10 (l.map pr)=true then some (S.fr (u20 (l.map pr))) else(P32 (l.map pr)).map S.fr)=_
 rw[if_pos ⟨by rw[É];§h,D71 l⟩,V70]
÷j61:∀ {l:List (Int × Int)},Ch l->j11 (l.map pr)=true
 |[],_=>rfl
 |[_],_=>rfl
 |a::b::r,h=>by
  have ih:=j61 h.2
  show((o00 (pr a::pr b::r.map pr) (pr b::r.map pr)).all leD)=true
  have e:o00 (pr a::pr b::r.map pr) (pr b::r.map pr)=.tup [pr a,pr b]::o00 (pr b::r.map pr) (r.map pr):=rfl
  rw[e,Ã9,Á]
  §⟨h.1,ih⟩
def q80(m:Int)(ps:List (Int × Int)):D:=.tup [.int m,.tup (ps.map pr)]
structure d20(m:Int)(ps:List (Int × Int)):Prop where
 m1:1<=m
 m6:m<=6
 len:ps.length<=8
 tie:∀ p∈ps,0<=p.1/\p.1 < p.2/\p.2 < m
 ch:Ch ps
÷d20.web(g:d20 m ps):q31 (q80 m ps)=true:=by
 unfold q80 q31 Q42 c61
 simp only[Á,decide_eq_true_eq,Æ9,É]
 ¤⟨g.m1,g.m6,g.len,λt ht=>?_,j61 g.ch⟩
 ¶⟨p,hp,rfl⟩:=Ú.mp ht
 ¶⟨h1,h2,h3⟩:=g.tie p hp
 unfold pr H71 b90
 simp only[Á,decide_eq_true_eq]
 omega
÷A02(h1:0<=i)(hi:i < 100)(h0:-100 < m)(h:m < 100000):itD .rng2 [.int i,.int m]=some ((í (m - i).toNat).map λ(k:Nat)=>D.int (i + k)):=by
 show(if inR i=true/\inR m=true then _ else none)=_
 rw[if_pos ⟨G20.mpr (by omega),G20.mpr (by omega)⟩]
÷F00{L:List D}{n:Nat}(f:D->Bool)(h:n < L.length)(ha:L.all f=true):∃ x,L[n]?=some x/\f x=true :=
 ⟨L[n],ç h,Õ.mp ha _ (É0 h)⟩
def btw(a b:Int):D->Bool
 |.int i=>decide (a<=i)&&decide (i<=b)
 |_=>false
÷D91(h:btw a b x=true):∃ i,x=.int i/\a<=i/\i<=b:=by
 cases x with
 |int i =>
  unfold btw at h
  rw[Á,decide_eq_true_eq,decide_eq_true_eq] at h
  §⟨i,rfl,h⟩
 |_=>cases h
÷N52(h1:a<=i)(h2:i<=b):btw a b (.int i)=true:=by
 show(decide (a<=i)&&decide (i<=b))=true
 rw[decide_eq_true h1,decide_eq_true h2];rfl
÷A12(l:List D)(h:0<=n):cutD l none (some n)=l.take n.toNat:=by
 ¶⟨k,rfl⟩:=Ë1 h
 have h1:HT.sIx l.length l.length (some (k:Int))=min k l.length:=HT.r71 _ _ k
 unfold cutD
 rw[h1]
 show(l.drop 0).take (min k l.length - 0)=_
 rw[List.drop_zero,Nat.sub_zero,Á8]
 rcases Nat.le_total k l.length with h | h
 ·rw[Þ0 h]
 ·rw[Ü7 h,List.take_length,È5 h]
÷R01{α:Type}{l:List α}{a:α}:(l++[a]).length=l.length + 1:=by rw[Á9];rfl
÷W61(a b:Int):(if b < a then b else a)=min a b/\(if b > a then b else a)=max a b:=by
 constructor <;> (split <;> omega)
÷V80{P:Int × Int->Prop}:∀ {xs ys:List D},PySem.Paired (λ_ y=>∃ c,y=pr c/\P c) xs ys->∃ cs:List (Int × Int),ys=cs.map pr/\cs.length=xs.length/\∀ c∈cs,P c
 |[],_,h=>by cases h;§⟨[],rfl,rfl,λc hc=>nomatch hc⟩
 |x::r,_,h=>by
  cases h with
  |cons h1 h2 =>
   ¶⟨c,rfl,hc⟩:=h1
   ¶⟨cs,rfl,hl,ha⟩:=V80 h2
   ¤⟨c::cs,rfl,by rw[Ü,hl];rfl,λd hd=>?_⟩
   rcases ú.mp hd with rfl | hd
   ·§hc
   ·§ha d hd
def C62(m:Int)(p:Int × Int):Prop:=0<=p.1/\p.1 < p.2/\p.2 < m
abbrev A22(mo m:Int)(ps:List (Int × Int))(o4 o5 o6:Option S):Env:=[some .z,some (.d (.int mo)),some (.d (.int m)),some (.fr (ps.map pr)),o4,o5,o6]
÷A32:A22 mo m (ps++[p]) o4 o5 o6=[some .z,some (.d (.int mo)),some (.d (.int m)),some (.fr (ps.map pr++[pr p])),o4,o5,o6]:=by rw[A22,Ç5];rfl
÷R11{mo m:Int}{ps:List (Int × Int)}(m1:1<=m)(m6:m<=6)(h0:0<=mo)(h8:mo<=8)(hp:∀ p∈ps,C62 m p)(hl:ps.length < 64):∃ qs,bfD .sorted [.lst (cutD (ps.map pr) none (some mo))]=some (.fr (qs.map pr))/\d20 m qs/\(qs.length:Int)<=mo:=by
 have hl':(ps.take mo.toNat).length < 64:=by rw[Æ7];omega
 ¤⟨p01 (ps.take mo.toNat),by rw[A12 _ h0,← List.map_take];§D81 hl',?_⟩
 have hperm:=I20 (ps.take mo.toNat)
 have hlen:=hperm.length_eq
 rw[Æ7] at hlen
 §⟨⟨m1,m6,by omega,λq hq=>hp q (List.mem_of_mem_take (hperm.mem_iff.mp hq)),j41 _⟩,by omega⟩
÷V90(k:Nat){mo:Int}{z:Z}(hz:ZI z)(h0:0<=mo)(h8:mo<=8):W (b40 T (k + 5) w80 [.z,.d (.int mo)]) z (λs z1=>ZI z1/\∃ m ps,s=.d (q80 m ps)/\d20 m ps/\(ps.length:Int)<=mo) NE:=by
 ¤j32 hz (ps:=2) (ns:=7) (b:=x20) rfl rfl (by decide) ?_
 ¤(e30 (k + 1) 8 hz (by decide) (by decide)).imp λs z1 ⟨hz1,n,e,hn⟩=>?_
 subst e
 ¶⟨x,ex,hx⟩:=F00 (L:=[D.int 6,.int 5,.int 4,.int 3,.int 4,.int 5,.int 2,.int 1]) (n:=n) (btw 1 6) (by simp only[Ü,Á0];omega) (by decide)
 ¶⟨m,rfl,m1,m6⟩:=D91 hx
 ¤(a00 (o91 ex) ?_ :)
 ¤(C81 (.fr []) (A22 mo m [] none none none) ?_ ?_ ?_ :)
 ·§⟨rfl,rfl⟩
 ·rfl
 ¤j02 (λρ z2=>ZI z2/\∃ ps:List (Int × Int),ρ=A22 mo m ps none none none/\(∀ p∈ps,C62 m p)/\ps.length<=5) ?_ ?_
 ·¤ib (b:=decide (1 < m)) (λh=>?_) λh=>⟨hz1,[],rfl,(λp hp=>nomatch hp),by simp⟩
  have h:=of_decide_eq_true h
  ¤(e30 (k + 1) 5 hz1 (by decide) (by decide)).imp λs z2 ⟨hz2,v,e,hv⟩=>?_
  subst e
  ¤ib (b:=decide (0 < (v:Int))) (λh1=>?_) λh1=>⟨hz2,[],rfl,(λp hp=>nomatch hp),by simp⟩
  ¤(a00 (A02 (i:=1) (m:=m) (by decide) (by decide) (by omega) (by omega)) ?_ :)
  ¤ip (by rw[É,ù];simp only[most];omega) (Y72 (I:=ZI) (P:=λ_ y=>∃ c,y=pr c/\C62 m c) hz2 (λx hx z3 hz3=>?_) λys z3 hz3 hys=>?_)
  ·¶⟨i,hi,rfl⟩:=Ú.mp hx
   have hi:=Ä3.mp hi
   ¤(e30 (k + 1) (1 + (i:Int)) hz3 (by omega) (by omega)).imp λs z4 ⟨hz4,a,e,ha⟩=>?_
   subst e
   §⟨hz4,((a:Int),1 + (i:Int)),rfl,by show(0:Int)<=a;omega,ha,by show 1 + (i:Int) < m;omega⟩
  ·¶⟨cs,rfl,hl,ha⟩:=V80 hys
   rw[É,ù] at hl
   §⟨hz3,cs,rfl,ha,by omega⟩
 ·rintro ρ z2 ⟨hz2,ps,rfl,hp,hl⟩
  ¤(e30 (k + 1) (mo + 1) hz2 (by omega) (by omega)).imp λs z3 ⟨hz3,t,e,ht⟩=>?_
  subst e
  have hj:(if decide (1 < m)=true then(1:Int) else 0)=0∨((if decide (1 < m)=true then(1:Int) else 0)=1/\1 < m):=by
   by_cases h:1 < m
   ·§.inr ⟨by rw[decide_eq_true h];rfl,h⟩
   ·§.inl (by rw[decide_eq_false h];rfl)
  ¤(a00 (c81 (i:=(t:Int)) (j:=if decide (1 < m)=true then(1:Int) else 0) (by omega) (by rcases hj with h | h <;> (first | rw[h] | rw[h.1]) <;> decide)) ?_ :)
  have hc:∃ c:Nat,(t:Int) * (if decide (1 < m)=true then(1:Int) else 0)=c/\c<=8/\(0 < c->1 < m):=by
   rcases hj with h | h
   ·§⟨0,by rw[h,Ô2];rfl,by omega,λh=>absurd h (by omega)⟩
   ·§⟨t,by rw[h.1,mul_one],by omega,λ_=>h.2⟩
  ¶⟨c,ec,hc8,hcm⟩:=hc
  ¤(a00 (o:=itD .rng1 [.int ((t:Int) * (if decide (1 < m)=true then(1:Int) else 0))]) (a:=(í c).map λ(i:Nat)=>D.int i) (by rw[ec,V50 (by omega) (by omega),Á8]) ?_ :)
  ¤w70 (λxs ρ z=>ZI z/\(0 < xs.length->1 < m)/\∃ (ps:List (Int × Int)) (o4 o5 o6:Option S),ρ=A22 mo m ps o4 o5 o6/\(∀ p∈ps,C62 m p)/\ps.length + xs.length<=13) _ ⟨hz3,λh=>hcm (by rw[É,ù] at h;§h),ps,_,_,_,rfl,hp,by rw[É,ù];omega⟩ ?_ ?_
  ·rintro x r ρ z4 ⟨hz4,hm,ps,o4,o5,o6,rfl,hp,hl⟩
   have hm:=hm (by simp)
   ¤(e30 (k + 1) m hz4 (by omega) (by omega)).imp λs z5 ⟨hz5,a,e,ha⟩=>?_
   subst e
   ¤(e30 (k + 1) (m - 1) hz5 (by omega) (by omega)).imp λs z6 ⟨hz6,b,e,hb⟩=>?_
   subst e
   ¤(a00 (o71 (i:=(a:Int) + 1 + b) (j:=m) (by omega)) ?_ :)
   have hq:0<=((a:Int) + 1 + b) % m/\((a:Int) + 1 + b) % m < m/\((a:Int) + 1 + b) % m≠a:=by
    ¤⟨Ö3 _ (by omega),emod_lt_of_pos _ (by omega),?_⟩
    by_cases h:(a:Int) + 1 + b < m
    ·rw[Ñ1 (by omega) h];omega
    ·rw[show(a:Int) + 1 + b=((a:Int) + 1 + b - m) + m from by omega,Int.add_emod_right,Ñ1 (by omega) (by omega)];omega
   generalize ((a:Int) + 1 + b) % m=q at hq ⊢
   ¤ip ⟨rfl,by rw[É];simp only[most,Ü] at hl ⊢;omega⟩ ?_
   ¤⟨hz6,λ_=>hm,ps++[(min (a:Int) q,max (a:Int) q)],some (.d x),some (.d (.int a)),some (.d (.int q)),?_,λp hp'=>?_,by rw[R01];simp only[Ü] at hl;omega⟩
   ·rw[A32,← (W61 (a:Int) q).1,← (W61 (a:Int) q).2];rfl
   ·rcases Á7.mp hp' with h | h
    ·§hp p h
    ·rw[ã.mp h]
     show 0<=min (a:Int) q/\min (a:Int) q < max (a:Int) q/\max (a:Int) q < m
     omega
  ·rintro ρ z4 ⟨hz4,_,ps,o4,o5,o6,rfl,hp,hl⟩
   ¶⟨qs,e,g,hq⟩:=R11 m1 m6 h0 h8 hp (by simp only[Á0] at hl;omega)
   ¤(a00 e ?_ :)
   §⟨hz4,m,qs,rfl,g,hq⟩
÷R21(hj:0 < j)(hb:big j):z60 .fdiv (.int i) (.int j)=some (.d (.int (i / j))):=by
 show(if 0 < j/\j.natAbs < P40 then some (S.d (.int (i / j))) else none)=_
 rw[if_pos ⟨hj,j22 (by omega) hb⟩]
÷t00(h:0 < b):0 < ((gcd t b:Nat):Int):=by
 have:=Int.gcd_pos_of_ne_zero_right (a:=t) (b:=b) (by omega)
 omega
÷N70(h:0 < b)(hb:big b):big (gcd t b:Int):=Int.lt_of_le_of_lt (á1 h (Int.gcd_dvd_right t b)) hb
def j70(t b:Int):Int × Int:=(t / gcd t b,b / gcd t b)
÷W00(k:Nat)(t b:Int)(z:Z)(h0:0 < b)(h1:big b):b40 T (k + 4) M90 [.d (.int t),.d (.int b)] z=some (.ok (.d (pr (j70 t b))) z):=by
 ¤W.ok (g60 (ps:=2) (ns:=3) (b:=N00) rfl rfl (by decide) (Wo (l30 k t b z h0 h1) ?_))
 ¤(a00 (R21 (i:=t) (t00 (t:=t) h0) (N70 h0 h1)) ?_ :)
 ¤(a00 (R21 (i:=b) (t00 (t:=t) h0) (N70 h0 h1)) ?_ :)
 §sd rfl
÷N80(h0:0 < b):t=gcd t b * (j70 t b).1/\b=gcd t b * (j70 t b).2:=by
 constructor
 ·§(Int.mul_ediv_cancel' (Int.gcd_dvd_left t b)).symm
 ·§(Int.mul_ediv_cancel' (Int.gcd_dvd_right t b)).symm
÷E01(h0:0 < b):gcd (j70 t b).1 (j70 t b).2=1:=Int.gcd_ediv_gcd_ediv_gcd_of_ne_zero_right (by omega)
÷N90(h0:0 < b):0 < (j70 t b).2:=by
 have g0:=t00 (t:=t) h0
 ¶⟨_,e⟩:=N80 (t:=t) h0
 ¤Int.pos_of_mul_pos_right (a:=gcd t b) ?_ g0
 omega
÷j62(h0:0 < b)(h1:0<=t)(h2:t<=b):0<=(j70 t b).1/\(j70 t b).1<=(j70 t b).2/\(j70 t b).2<=b:=by
 have g0:=t00 (t:=t) h0
 have p0:=N90 (t:=t) h0
 ¶⟨e1,e2⟩:=N80 (t:=t) h0
 ¤⟨Int.ediv_nonneg h1 (Ô3 g0),Int.le_of_mul_le_mul_left (a:=gcd t b) (by omega) g0,?_⟩
 have:1 * (j70 t b).2<=(gcd t b:Int) * (j70 t b).2:=Int.mul_le_mul_of_nonneg_right (by omega) (by omega)
 omega
÷W71(h:gcd a b=1)(hd:b∣a * d):b∣d:=by
 have h1:Nat.Coprime b.natAbs a.natAbs:=by rw[Nat.coprime_comm];§h
 §Int.natAbs_dvd_natAbs.mp (h1.dvd_of_dvd_mul_left (by rw[← natAbs_mul];§Int.natAbs_dvd_natAbs.mpr hd))
÷p11(hb:0 < b)(hd:0 < d)(h1:gcd a b=1)(h2:gcd c d=1)(h:a * d=c * b):a=c/\b=d:=by
 have k1:b∣d:=W71 h1 ⟨c,by rw[h,Ú9]⟩
 have k2:d∣b:=W71 h2 ⟨a,by rw[← h,Ú9]⟩
 have e:b=d:=Int.le_antisymm (á1 hd k1) (á1 hb k2)
 subst e
 §⟨Ð0 (by omega) h,rfl⟩
def IsC(c:Int × Int):Prop:=1<=c.2/\c.2<=1000/\0<=c.1/\c.1<=c.2/\gcd c.1 c.2=1
÷IsC.ch(h:IsC c):chD (pr c)=true:=by
 ¶⟨h1,h2,h3,h4,h5⟩:=h
 show chI c.1 c.2=true
 unfold chI
 rw[h5,decide_eq_true h1,decide_eq_true h2,decide_eq_true h3,decide_eq_true h4];rfl
÷j72(h0:0 < b)(hb:b<=1000)(h1:0<=t)(h2:t<=b):IsC (j70 t b):=by
 ¶⟨y0,yx,xb⟩:=j62 h0 h1 h2
 have:=N90 (t:=t) h0
 §⟨by omega,by omega,y0,yx,E01 h0⟩
÷O00(k:Nat)(t b:Int)(z:Z)(h0:0 < b)(h1:big b):b40 T (k + 3) u70 [.d (.int t),.d (.int b)] z=some (.ok (.d (pr (j70 t b))) z):=by
 ¤W.ok (g60 (ps:=2) (ns:=4) (b:=m40) rfl rfl (by decide) (z62 (λn ρ z1=>z1=z/\∃ c d:Int,ρ=[some (.d (.int t)),some (.d (.int b)),some (.d (.int c)),some (.d (.int d))]/\GT n c d/\gcd c d=gcd t b/\(d=0->0<=c)) (2 * 4000 + 1) ⟨rfl,_,b,rfl,⟨Ô3 h0,.inl ⟨4000,rfl,h1⟩⟩,rfl,λh=>by omega⟩ (by decide) ?_))
 rintro n ρ z1 ⟨rfl,c,d,rfl,g,hg,hc⟩
 ¤ib (b:=!(d == 0)) (λhd=>?_) λhd=>?_
 ·rw[À0,beq_eq_false_iff_ne] at hd
  have hd':0 < d:=by have:=g.1;omega
  ¶⟨m,hm,g'⟩:=g.step hd'
  ¤(a00 (o71 (i:=c) hd') ?_ :)
  §⟨m,hm,rfl,d,c % d,rfl,g',(D31 c d).trans hg,λ_=>Int.le_of_lt hd'⟩
 ·rw[Í1,beq_iff_eq] at hd
  subst hd
  rw[Int.gcd_zero_right] at hg
  have e:c=((gcd t b:Nat):Int):=by have:=hc rfl;omega
  subst e
  ¤(a00 (R21 (i:=t) (t00 (t:=t) h0) (N70 h0 h1)) ?_ :)
  ¤(a00 (R21 (i:=b) (t00 (t:=t) h0) (N70 h0 h1)) ?_ :)
  §sd rfl
def N62:D->Bool
 |.tup [.int t,.int b]=>chI t b
 |_=>false
÷j82(h:N62 x=true):∃ c,x=pr c/\IsC c:=by
 unfold N62 at h
 split at h
 ·rename_i t b
  unfold chI at h
  simp only[Á,decide_eq_true_eq,beq_iff_eq] at h
  §⟨(t,b),rfl,h.1.1,h.1.2,h.2.1.1,h.2.1.2,by have:=h.2.2;show gcd t b=1;omega⟩
 ·cases h
÷W10(k:Nat)(hz:ZI z):W (b40 T (k + 4) u80 [.z]) z (λs z1=>ZI z1/\∃ c,s=.d (pr c)/\IsC c) NE:=by
 ¤j32 hz (ps:=1) (ns:=4) (b:=m50) rfl rfl (by decide) ?_
 ¤(e30 k 16 hz (by decide) (by decide)).imp λs z1 ⟨hz1,v,e,v1⟩=>?_
 subst e
 ¤ib (b:=decide ((v:Int) < 9)) (λh2=>?_) λh2=>?_
 ·have h2:=of_decide_eq_true h2
  ¶⟨x,ex,hx⟩:=F00 (L:=[pr (1,2),pr (2,3),pr (1,3),pr (3,4),pr (9,10),pr (0,1),pr (1,1),pr (1,1000),pr (999,1000)]) (n:=v) N62 (by simp only[Ü,Á0];omega) (by decide +kernel)
  ¶⟨c,rfl,hc⟩:=j82 hx
  ¤(a00 (o91 ex) ?_ :)
  §⟨hz1,c,rfl,hc⟩
 ·¤(e30 k 2 hz1 (by decide) (by decide)).imp λs z2 ⟨hz2,a,e,a1⟩=>?_
  subst e
  ¶⟨x,ex,hx⟩:=F00 (L:=[D.int 12,.int 1000]) (n:=a) (btw 1 1000) (by simp only[Ü,Á0];omega) (by decide)
  ¶⟨u,rfl,u1,u2⟩:=D91 hx
  ¤(a00 (o91 ex) ?_ :)
  ¤(e30 k u hz2 (by omega) (by omega)).imp λs z3 ⟨hz3,b,e,b1⟩=>?_
  subst e
  ¤(e30 k (1 + (b:Int) + 1) hz3 (by omega) (by omega)).imp λs z4 ⟨hz4,t,e,t1⟩=>?_
  subst e
  §Wo (O00 k _ _ _ (by omega) (V40 (by omega))) ⟨hz4,j70 t (1 + (b:Int)),rfl,j72 (by omega) (by omega) (by omega) (by omega)⟩
÷E11{n:Nat}(f:D->Bool)(h:n < L.length)(ha:L.all f=true)(hp:∀ x,f x=true->P x):Get (n61 (.lst L) (.int n)) P:=by
 ¶⟨x,e,hx⟩:=F00 f h ha
 §a00 (o91 e) (hp x hx)
÷E21(k:Nat)(hz:ZI z):W (b40 T (k + 4) r60 [.z]) z (λs z1=>ZI z1/\∃ x,s=.d x/\q31 x=false) NE:=by
 ¤j32 hz (ps:=1) (ns:=2) (b:=k70) rfl rfl (by decide) ?_
 ¤(e30 k 25 hz (by decide) (by decide)).imp λs z1 ⟨hz1,v,e,v1⟩=>?_
 subst e
 ¤(E11 (n:=v) (λx=>!q31 x) ?_ ?_ ?_ :)
 ·show v < 25
  omega
 ·decide +kernel
 ·§λx hx=>⟨hz1,x,rfl,by simpa using hx⟩
def ltP:D->Bool
 |.tup [.int a,.int b]=>decide (a < b)
 |_=>false
def W20(l:List D):Bool:=(o00 l (l.drop 1)).all ltP
def H91(m:Int):D->Bool
 |.tup l=>(l.all (λx=>b90 x m)&&W20 l)&&!l.isEmpty
 |_=>false
def short:D->Bool
 |.tup l=>decide (l.length<=1000)
 |_=>true
÷R31(k:Nat)(h:∀ x∈l,b90 x m=true)(hl:l.length<=1000)(z:Z):b40 T (k + 3) D01 [.d (.tup l)] z=some (.ok (.d (.bl (W20 l))) z):=by
 have e1:cutD l (some 1) none=l.drop 1:=j01 l 1
 ¤W.ok (g60 (ps:=1) (ns:=1) (b:=c51) rfl rfl (by decide) (ip (c:=(o00 l (cutD l (some 1) none)).length<=most) (Ñ (u90 _ _) (s90 hl)) (Q61 (λx=>.bl (ltP x)) (λx hx=>?_) (a00 (I00 _ ltP) ?_ :))))
 ·¶⟨u,hu,v,hv,rfl⟩:=N50 hx
  rw[e1] at hv
  ¶⟨i,rfl,_⟩:=j10 (h u hu)
  ¶⟨j,rfl,_⟩:=j10 (h v (List.mem_of_mem_drop hv))
  §⟨rfl,rfl⟩
 ·§sb (b:=(o00 l (cutD l (some 1) none)).all ltP) (by rw[e1];rfl)
÷y70(k:Nat)(m:Int)(hs:short x=true)(z:Z):b40 T (k + 5) l20 [.d x,.d (.int m)] z=some (.ok (.d (.bl (match x with | .tup l=>l.all (λx=>b90 x m)&&W20 l | _=>false))) z):=by
 ¤W.ok (g60 (ps:=2) (ns:=2) (b:=g50) rfl rfl (by decide) ?_)
 cases x with
 |tup l =>
  have hl:l.length<=1000:=of_decide_eq_true hs
  ¤ip (s90 hl) (Q61 (λx=>.bl (b90 x m)) (λx _=>Wo (s80 k x m z) ⟨rfl,rfl⟩) (a00 (I00 l λx=>b90 x m) ?_ :))
  ¤ib (b:=l.all λx=>b90 x m) (λh=>?_) λh=>sb (show false=(l.all (λx=>b90 x m)&&W20 l) by rw[h];rfl)
  §Wo (R31 (k + 1) (Õ.mp h) hl z) (sb (show W20 l=(l.all (λx=>b90 x m)&&W20 l) by rw[h];rfl))
 |_=>§sb rfl
÷d30(k:Nat)(z:Z)(h:H91 m x=true)(hs:short x=true):b40 T (k + 6) d90 [.d (.tup [.int m,t]),.d x] z=some (.ok (.d .non) z):=by
 ¤W.ok (g60 (ps:=2) (ns:=2) (b:=g70) rfl rfl (by decide) (Wo (y70 k m hs z) ?_))
 cases x with
 |tup l =>
  have h:((l.all (λx=>b90 x m)&&W20 l)&&!l.isEmpty)=true:=h
  rw[Á] at h
  ¤ie (b:=!(l.all (λx=>b90 x m)&&W20 l)) (by rw[h.1];rfl) ?_
  cases l with
  |nil=>cases h.2
  |cons y r=>§sd rfl
 |_=>cases h
÷p10(k:Nat)(z:Z)(h:H91 m x=false)(hs:short x=true):b40 T (k + 6) d90 [.d (.tup [.int m,t]),.d x] z=some (.er 2 z):=by
 ¤W.er (g60 (ps:=2) (ns:=2) (b:=g70) rfl rfl (by decide) (Wo (y70 k m hs z) ?_))
 cases x with
 |tup l =>
  have h:((l.all (λx=>b90 x m)&&W20 l)&&!l.isEmpty)=false:=h
  ¤ib (b:=!(l.all (λx=>b90 x m)&&W20 l)) (λ_=>⟨rfl,c30 z⟩) λh1=>?_
  rw[Í1] at h1
  rw[h1,Ä9,Í1] at h
  cases l with
  |nil=>§⟨rfl,c30 z⟩
  |cons y r=>cases h
 |_=>§⟨rfl,c30 z⟩
def a40(n:Nat):D:=.int n
structure g00(m:Int)(l:List Nat):Prop where
 ne:l≠[]
 up:l.Pairwise (· < ·)
 lt:∀ p∈l,(p:Int) < m
÷W81:∀ {l:List Nat},l.Pairwise (· < ·)->W20 (l.map a40)=true
 |[],_=>rfl
 |[_],_=>rfl
 |a::b::r,h=>by
  have ih:=W81 (à4.of_cons h)
  show(decide ((a:Int) < (b:Int))&&W20 ((b::r).map a40))=true
  rw[ih,decide_eq_true (by have:=(Ê7.mp h).1 b Ì;omega)];rfl
÷g00.pls(g:g00 m l):H91 m (.tup (l.map a40))=true:=by
 show(((l.map a40).all (λx=>b90 x m)&&W20 (l.map a40))&&!(l.map a40).isEmpty)=true
 rw[W81 g.up,Ñ2,Á]
 ¤⟨Õ.mpr λx hx=>?_,?_⟩
 ·¶⟨p,hp,rfl⟩:=Ú.mp hx
  have:=g.lt p hp
  show(decide (0<=(p:Int))&&decide ((p:Int) < m))=true
  rw[decide_eq_true this,decide_eq_true (by omega)];rfl
 ·cases l with
  |nil=>§absurd rfl g.ne
  |cons _ _=>rfl
÷g00.len(g:g00 m l)(h6:m<=6):l.length<=6:=by
 have:l.Sublist (í 6):=by
  have e:l=(í 6).filter λx=>l.contains x:=by
   ¤È8 (le:=(· < ·)) ?_ g.up (Ë0 _ È6) ?_
   ·intro a b _ _ h1 h2;omega
   ·¤(Þ8 (g.up.imp λh e=>by omega) (Ë0 _ List.nodup_range)).mpr λa=>?_
    rw[mem_filter,mem_range,Ì4]
    §⟨λh=>⟨by have:=g.lt a h;omega,h⟩,λh=>h.2⟩
  rw[e];§List.filter_sublist
 simpa using this.length_le
÷R41:∀ {ys:List D}{l:List Nat},ys.Sublist (l.map a40)->∃ l':List Nat,ys=l'.map a40/\l'.Sublist l:=λ{ys l} h=>by
 ¶⟨l',h1,h2⟩:=List.sublist_map_iff.mp h
 §⟨l',h2,h1⟩
÷j92(n:Nat):((í n).map λ(i:Nat)=>D.int i)=(í n).map a40:=rfl
÷N72(a b:Int):MySort.h70 [a] [b]=decide (a < b):=by
 show(if a=b then false else decide (a < b))=_
 by_cases h:a=b
 ·rw[if_pos h,h];simp
 ·rw[if_neg h]
÷O10(a b:Nat):i60 (a40 a) (a40 b)=true:=by
 show(true&&((some (decide ((a:Int) < b)) == some (MySort.h70 [(a:Int)] [(b:Int)]))&&(((a:Int) == b) || !([(a:Int)] == [(b:Int)]))))=true
 rw[N72,beq_self_eq_true,Ä9,Ä9]
 by_cases h:(a:Int)=b <;> simp[h]
÷p21(x y:Nat):bfD .sorted [.lst [a40 x,a40 y]]=some (.fr [a40 (min x y),a40 (max x y)]):=by
 have ok:n10 [a40 x,a40 y]=true:=by
  ¤Õ.mpr λu hu=>?_
  have one:∀ a:Nat,(true&&(true&&[a40 x,a40 y].all (i60 (a40 a))))=true:=λa=>by
   show(i60 (a40 a) (a40 x)&&(i60 (a40 a) (a40 y)&&true))=true
   rw[O10,O10];rfl
  simp only[Â9,À2,or_false] at hu
  rcases hu with rfl | rfl
  ·§one x
  ·§one y
 have e:u20 [a40 x,a40 y]=[a40 (min x y),a40 (max x y)]:=by
  show(if MySort.h70 [(y:Int)] [(x:Int)] then [a40 y,a40 x] else [a40 x,a40 y])=_
  rw[N72]
  by_cases h:(y:Int) < x
  ·rw[decide_eq_true h,if_pos rfl,Ü7 (by omega),Nat.max_eq_left (by omega)]
  ·rw[decide_eq_false h,if_neg (by decide),Þ0 (by omega),Nat.max_eq_right (by omega)]
 show(if [a40 x,a40 y].length < 64/\n10 [a40 x,a40 y]=true then some (S.fr (u20 [a40 x,a40 y])) else _)=_
 rw[if_pos ⟨by show 2 < 64;decide,ok⟩,e]
÷y80(k:Nat)(m1:1<=m)(m6:m<=6)(hz:ZI z):W (b40 T (k + 4) l90 [.z,.d (.tup [.int m,t])]) z (λs z1=>ZI z1/\∃ l,s=.d (.tup (l.map a40))/\g00 m l) NE:=by
 have g2:g00 m (í m.toNat):=⟨by intro h;have:=congrArg List.length h;rw[ù] at this;simp at this;omega,È6,λp hp=>by have:=Ä3.mp hp;omega⟩
 ¤j32 hz (ps:=2) (ns:=4) (b:=m30) rfl rfl (by decide) ?_
 ¤(e30 k 4 hz (by decide) (by decide)).imp λs z1 ⟨hz1,v,e,v1⟩=>?_
 subst e
 ¤j02 (λρ z2=>z2=z1/\1 < m/\ρ=[some .z,some (.d (.tup [.int m,t])),some (.d (.int v)),none]) ?_ ?_
 ·¤ib (b:=decide ((v:Int) < 2)) (λh=>?_) λh=>?_
  ·¤(a00 (V50 (m:=m) (by omega) (by omega)) ?_ :)
   §⟨hz1,_,rfl,g2⟩
  ·¤ib (b:=m == 1) (λh=>?_) λh=>?_
   ·¤(a00 (V50 (m:=m) (by omega) (by omega)) ?_ :)
    §⟨hz1,_,rfl,g2⟩
   ·have h:=ne_of_beq_false h
    §⟨rfl,by omega,rfl⟩
 ·rintro ρ z2 ⟨rfl,hm,rfl⟩
  ¤ib (b:=(v:Int) == 2) (λh=>?_) λh=>?_
  ·¤(e30 k m hz1 (by omega) (by omega)).imp λs z3 ⟨hz3,a,e,ha⟩=>?_
   subst e
   ¤(e30 k (m - 1) hz3 (by omega) (by omega)).imp λs z4 ⟨hz4,b,e,hb⟩=>?_
   subst e
   ¤(a00 (o71 (i:=(a:Int) + 1 + b) (j:=m) (by omega)) ?_ :)
   have hq:0<=((a:Int) + 1 + b) % m/\((a:Int) + 1 + b) % m < m/\((a:Int) + 1 + b) % m≠a:=by
    ¤⟨Ö3 _ (by omega),emod_lt_of_pos _ (by omega),?_⟩
    by_cases h:(a:Int) + 1 + b < m
    ·rw[Ñ1 (by omega) h];omega
    ·rw[show(a:Int) + 1 + b=((a:Int) + 1 + b - m) + m from by omega,Int.add_emod_right,Ñ1 (by omega) (by omega)];omega
   generalize ((a:Int) + 1 + b) % m=q at hq ⊢
   ¶⟨q,rfl⟩:=Ë1 hq.1
   ¤(a00 (p21 a q) ?_ :)
   ¤⟨hz4,[min a q,max a q],rfl,by simp,?_,λp hp=>?_⟩
   ·¤.cons (λx hx=>?_) (.cons (λ_ h=>nomatch h) .nil)
    rw[ã.mp hx];omega
   ·simp only[Â9,À2,or_false] at hp
    rcases hp with rfl | rfl <;> omega
  ·¤(a00 (V50 (m:=m) (by omega) (by omega)) ?_ :)
   ¤ip (by rw[É,ù];simp only[most];omega) (z72 (I:=ZI) (λx=>x) hz1 (λx hx z3 hz3=>?_) λys z3 hz3 hs=>?_)
   ·¤(e30 k 2 hz3 (by decide) (by decide)).imp λs z4 ⟨hz4,a,e,a1⟩=>?_
    subst e
    §⟨hz4,(a:Int) == 1,rfl,λ_=>⟨rfl,rfl⟩⟩
   ·rw[map_id',j92] at hs
    ¶⟨l,rfl,hl⟩:=R41 hs
    cases l with
    |nil =>
     ¤⟨hz3,[m.toNat - 1],?_,by simp,.cons (λ_ h=>nomatch h) .nil,λq hq=>by rw[ã.mp hq];omega⟩
     show S.d (.tup [.int (m - 1)])=S.d (.tup [.int ((m.toNat - 1:Nat):Int)])
     rw[show(m - 1)=((m.toNat - 1:Nat):Int) by omega]
    |cons p r=>§⟨hz3,p::r,rfl,by simp,à4.sublist hl È6,λq hq=>by have:=Ä3.mp (hl.mem hq);omega⟩
section
variable (ps:List (Int × Int))
abbrev tA(n:Nat):Nat:=(ps.getD n (0,0)).1.toNat
abbrev tB(n:Nat):Nat:=(ps.getD n (0,0)).2.toNat
def t10(mk:List Int)(n:Nat):List Int:=mk.map λx=>if x=mk.getD (tB ps n) 0 then mk.getD (tA ps n) 0 else x
def y90(m:Nat)(lot:List Nat):List Int:=lot.foldl (t10 ps) ((í m).map λ(i:Nat)=>(i:Int))
def A42(mk:List Int)(pl:List Nat):Bool:=pl.all λp=>mk.getD p 0 == mk.getD (pl.getD 0 0) 0
def F10(m:Nat)(pl lot:List Nat):Bool:=A42 (y90 ps m lot) pl
variable {ps}
÷O20(mk:List Int)(n:Nat):(t10 ps mk n).length=mk.length:=É _
÷step_get(h:x < mk.length):(t10 ps mk n).getD x 0=if mk.getD x 0=mk.getD (tB ps n) 0 then mk.getD (tA ps n) 0 else mk.getD x 0:=by
 unfold t10
 rw[Ö,Ý,ç h]
 simp[Ö,ç h]
÷E31:(y90 ps m lot).length=m:=by
 unfold y90
 have:∀ (l:List Nat) (mk:List Int),(l.foldl (t10 ps) mk).length=mk.length:=by
  intro l
  induction l with
  |nil=>intro mk;rfl
  |cons n r ih=>intro mk;rw[List.foldl_cons,ih,O20]
 rw[this];simp
÷p31(hr:∀ n < ps.length,tA ps n < m/\tB ps n < m):∀ (lot:List Nat) (mk:List Int),mk.length=m->(∀ n∈lot,n < ps.length) ->
  (∀ x y,x < m->y < m->mk.getD x 0=mk.getD y 0->(lot.foldl (t10 ps) mk).getD x 0=(lot.foldl (t10 ps) mk).getD y 0)/\(∀ n∈lot,(lot.foldl (t10 ps) mk).getD (tA ps n) 0=(lot.foldl (t10 ps) mk).getD (tB ps n) 0) /\
  ∀ f:Nat->Int,(∀ x y,x < m->y < m->mk.getD x 0=mk.getD y 0->f x=f y)->(∀ n∈lot,f (tA ps n)=f (tB ps n))->∀ x y,x < m->y < m->(lot.foldl (t10 ps) mk).getD x 0=(lot.foldl (t10 ps) mk).getD y 0->f x=f y:=by
 intro lot
 induction lot with
 |nil=>§λmk _ _=>⟨λ_ _ _ _ h=>h,(λ_ h=>nomatch h),λf h _=>h⟩
 |cons n r ih =>
  intro mk hl hn
  ¶⟨ha,hb⟩:=hr n (hn n Ì)
  ¶⟨i1,i2,i3⟩:=ih (t10 ps mk n) (by rw[O20];§hl) λk hk=>hn k (È _ hk)
  have st:∀ x,x < m->(t10 ps mk n).getD x 0=if mk.getD x 0=mk.getD (tB ps n) 0 then mk.getD (tA ps n) 0 else mk.getD x 0:=λx hx=>step_get (by omega)
  ¤⟨λx y hx hy h=>i1 x y hx hy (by rw[st x hx,st y hy,h]),λk hk=>?_,λf h1 h2=>?_⟩
  ·rcases ú.mp hk with rfl | hk
   ·¤i1 _ _ ha hb ?_
    rw[st _ ha,st _ hb,if_pos rfl]
    split <;> rfl
   ·§i2 k hk
  ·¤i3 f (λx y hx hy h=>?_) λk hk=>h2 k (È _ hk)
   have e:=h2 n Ì
   rw[st x hx,st y hy] at h
   split at h
   ·rename_i hxb
    have fx:=h1 _ _ hx hb hxb
    split at h
    ·rename_i hyb
     rw[fx,h1 _ _ hy hb hyb]
    ·rw[fx,← e];§h1 _ _ ha hy h
   ·split at h
    ·rename_i hyb
     rw[h1 _ _ hy hb hyb,← e];§h1 _ _ hx ha h
    ·§h1 _ _ hx hy h
÷W30(h:x < m):(((í m).map λ(i:Nat)=>(i:Int))).getD x 0=(x:Int):=by
 rw[Ö,Ý,É7 h];rfl
÷R51{m:Nat}(hr:∀ n < ps.length,tA ps n < m/\tB ps n < m){pl lot:List Nat}(hp:∀ p∈pl,p < m)(hl:∀ n∈lot,n < ps.length):F10 ps m pl lot=true↔∀ f:Nat->Int,(∀ n∈lot,f (tA ps n)=f (tB ps n))->∀ p∈pl,f p=f (pl.getD 0 0):=by
 ¶⟨_,h2,h3⟩:=p31 hr lot ((í m).map λ(i:Nat)=>(i:Int)) (by simp) hl
 unfold F10 A42
 rw[Æ9]
 have h0:∀ p∈pl,pl.getD 0 0 < m:=λp hp'=>by
  cases pl with
  |nil=>cases hp'
  |cons q r=>§hp q Ì
 constructor
 ·intro h f hf p hp'
  ¤h3 f (λx y hx hy e=>?_) hf p _ (hp p hp') (h0 p hp') (beq_iff_eq.mp (h p hp'))
  rw[W30 hx,W30 hy] at e
  rw[Int.ofNat_inj.mp e]
 ·intro h p hp'
  rw[beq_iff_eq]
  §h (λx=>(y90 ps m lot).getD x 0) h2 p hp'
end
section
variable (g:List Nat->Bool) (c:Nat->Int × Int)
variable {g c}
def l40:Nat->List (List Nat)
 |0=>[[]]
 |j + 1=>l40 j++(l40 j).map (·++[j])
def amt(c:Nat->Int × Int)(j:Nat)(lot:List Nat):Int:=(í j).foldl (λa n=>a * (if n∈lot then(c n).1 else(c n).2 - (c n).1)) 1
÷v00:amt c (j + 1) lot=amt c j lot * (if j∈lot then(c j).1 else(c j).2 - (c j).1):=by
 unfold amt
 rw[range_succ,List.foldl_append];rfl
÷k02(h:j<=k):amt c j (lot++[k])=amt c j lot:=by
 induction j with
 |zero=>rfl
 |succ j ih =>
  rw[v00,v00,ih (by omega)]
  have:j∈lot++[k]↔j∈lot:=by rw[Á7,ã];constructor <;> (intro h;first | (rcases h with h | h;§h;omega) | §.inl h)
  simp only[this]
÷O30:∀ {j:Nat}{lot:List Nat},lot∈l40 j->∀ n∈lot,n < j
 |0,lot,h,n,hn=>by rw[ã.mp h] at hn;cases hn
 |j + 1,lot,h,n,hn=>by
  rcases Á7.mp h with h | h
  ·§Å0 (O30 h n hn)
  ·¶⟨l,hl,rfl⟩:=Ú.mp h
   rcases Á7.mp hn with hn | hn
   ·§Å0 (O30 hl n hn)
   ·rw[ã.mp hn];§Ë9 j
def I01(l:List (List Nat))(f:List Nat->Int):Int:=(l.map f).foldr (· + ·) 0
end
÷itE{it:It}{e:Ex}{l:List S}{ρ:Env}(h:T10 l=true):w51 it e l ρ=T20 it e l ρ:=by unfold w51;rw[h,S90];rfl
÷x30:∀ l:List Nat,o30 (l.map a40)=true
 |[]=>rfl
 |_::r=>x30 r
structure Row(x:D)(lot:List Nat):Prop where
 sq:a11 x=some (lot.map a40)
 br:d32 x=true
÷Row.t(lot:List Nat):Row (.tup (lot.map a40)) lot:=⟨rfl,x30 lot⟩
÷Row.ba(h:Row x lot):T10 [.d x]=true:=by
 show(d32 x&&true)=true
 rw[h.br];rfl
÷E41{mk:List Int}{a:Int}(h0:0<=a)(h:a.toNat < mk.length):n61 (.lst (mk.map D.int)) (.int a)=some (.int (mk.getD a.toNat 0)):=by
 ¶⟨n,rfl⟩:=Ë1 h0
 rw[Á8] at h ⊢
 rw[Ö,ç h]
 §o91 (j42 h)
÷W91{ps:List (Int × Int)}{n:Nat}(h:n < ps.length):n61 (.tup (ps.map pr)) (.int n)=some (pr (ps.getD n (0,0))):=by
 rw[Ö,ç h]
 §z92 (by rw[Ý,ç h];rfl)
÷getD_mem{ps:List (Int × Int)}{n:Nat}(h:n < ps.length):ps.getD n (0,0)∈ps:=by
 rw[Ö,ç h];§É0 h
÷d20.rng{m:Int}{ps:List (Int × Int)}(g:d20 m ps):∀ n < ps.length,tA ps n < m.toNat/\tB ps n < m.toNat:=λn hn=>by
 have:=g.tie _ (getD_mem hn)
 unfold tA tB
 omega
def Q52(a b:Int):D->D
 |.int v=>.int (if v=b then a else v)
 |x=>x
÷k12{F:FT}{z:Z}{mk:List Int}(a b:Int){Q:List D->Z->Prop}{E:Nat->Z->Prop}(q:Q ((mk.map λx=>if x=b then a else x).map D.int) z):W (turns (o20 (ev F .nil) (ev F (.ite (.cmp .eq (.var 0) (.var 2)) (.var 1) (.var 0))) (.v 0) [none,some (.d (.int a)),some (.d (.int b))]) (mk.map D.int)) z Q E:=by
 ¤Q61 (Q52 a b) (λx hx=>?_) ?_
 ·¶⟨v,_,rfl⟩:=Ú.mp hx
  ¤ib (b:=v == b) (λh=>⟨?_,rfl⟩) λh=>⟨?_,rfl⟩
  ·show D.int a=.int (if v=b then a else v)
   rw[if_pos (beq_iff_eq.mp h)]
  ·show D.int v=.int (if v=b then a else v)
   rw[if_neg (by simpa using h)]
 ·have e:(mk.map D.int).map (Q52 a b)=(mk.map λx=>if x=b then a else x).map D.int:=by rw[ó,ó];rfl
  rw[e];§q
÷c91(k:Nat){m:Int}{ps:List (Int × Int)}(g:d20 m ps){x:D}{lot:List Nat}(hx:Row x lot)(hl:∀ n∈lot,n < ps.length)(z:Z):b40 T (k + 3) H70 [.d (q80 m ps),.d x] z=some (.ok (.fr ((y90 ps m.toNat lot).map D.int)) z):=by
 have m6:=g.m6
 have m1:=g.m1
 ¤W.ok (g60 (ps:=2) (ns:=10) (b:=x10) rfl rfl (by decide) ?_)
 ¤(a00 (o:=lrD [.int m]) (V50 (by omega) (by omega)) ?_ :)
 ¤a00 (o:=a11 x) hx.sq ?_
 ¤w70 (λxs ρ z1=>z1=z/\∃ (rest:List Nat) (mk:List Int) (o5 o6 o7 o8 o9:Option S),xs=rest.map a40/\(∀ n∈rest,n < ps.length)/\mk.length=m.toNat/\rest.foldl (t10 ps) mk=y90 ps m.toNat lot/\ρ=[some (.d (q80 m ps)),some (.d x),some (.d (.int m)),some (.d (.tup (ps.map pr))),some (.fr (mk.map D.int)),o5,o6,o7,o8,o9]) _ ⟨rfl,lot,(í m.toNat).map λ(i:Nat)=>(i:Int),none,none,none,none,none,rfl,hl,by simp,rfl,(itE hx.ba).trans ?_⟩ ?_ ?_
 ·rw[← Q91];rfl
 ·rintro y r ρ z1 ⟨rfl,rest,mk,o5,o6,o7,o8,o9,e,hr,hm,hf,rfl⟩
  cases rest with
  |nil=>cases e
  |cons n rest =>
   cases e
   have hn:=hr n Ì
   have ht:=g.tie _ (getD_mem hn)
   ¤(a00 (W91 hn) ?_ :)
   ¤(a00 (E41 (mk:=mk) ht.1 (by omega)) ?_ :)
   ¤(a00 (E41 (mk:=mk) (a:=(ps.getD n (0,0)).2) (by omega) (by omega)) ?_ :)
   ¤ip (by rw[É];simp only[most];omega) (k12 _ _ ?_)
   §⟨rfl,rest,t10 ps mk n,_,_,_,_,_,rfl,λk hk=>hr k (È _ hk),by rw[O20];§hm,hf,rfl⟩
 ·rintro ρ z1 ⟨rfl,rest,mk,o5,o6,o7,o8,o9,e,hr,hm,hf,rfl⟩
  cases rest with
  |nil=>§sd (by rw[← hf];rfl)
  |cons _ _=>cases e
section
variable {m:Int}{ps:List (Int × Int)}{pl lot:List Nat}
÷A52{mk:List Int}{p:Nat}(h:p < mk.length):n61 (.lst (mk.map D.int)) (.int p)=some (.int (mk.getD p 0)):=E41 (a:=(p:Int)) (by omega) (by rw[Á8];§h)
÷X01(h:pl≠[]):n61 (.tup (pl.map a40)) (.int 0)=some (a40 (pl.getD 0 0)):=by
 cases pl with
 |nil=>§absurd rfl h
 |cons p r=>§z92 (j:=0) rfl
÷g00.p0(hp:g00 m pl):pl.getD 0 0 < m.toNat:=by
 have h:=hp.ne
 have h2:=hp.lt
 cases pl with
 |nil=>§absurd rfl h
 |cons p r=>have:=h2 p Ì;show p < _;omega
def eqM(mk:List Int)(p0:Nat):D->Bool
 |.int p=>mk.getD p.toNat 0 == mk.getD p0 0
 |_=>false
÷k22(l:List Nat):(l.map a40).all (eqM mk p0)=l.all λp=>mk.getD p 0 == mk.getD p0 0:=by rw[all_map];rfl
÷O40(k:Nat)(g:d20 m ps)(hp:g00 m pl){x:D}(hx:Row x lot)(hl:∀ n∈lot,n < ps.length)(z:Z):b40 T (k + 4) y10 [.d (q80 m ps),.d x,.d (.tup (pl.map a40))] z=some (.ok (.d (.bl (F10 ps m.toNat pl lot))) z):=by
 have hlen:=hp.len g.m6
 ¤W.ok (g60 (ps:=3) (ns:=4) (b:=o80) rfl rfl (by decide) (Wo (c91 k g hx hl z) ?_))
 have ml:(y90 ps m.toNat lot).length=m.toNat:=E31
 generalize hmk:y90 ps m.toNat lot=mk at ml
 ¤ip (by rw[É];simp only[most];omega) (Q61 (λx=>.bl (eqM mk (pl.getD 0 0) x)) (λy hy=>?_) (a00 (I00 _ (eqM mk (pl.getD 0 0))) ?_ :))
 ·¶⟨p,hp',rfl⟩:=Ú.mp hy
  have:=hp.lt p hp'
  ¤(a00 (A52 (mk:=mk) (p:=p) (by omega)) ?_ :)
  ¤(a00 (X01 hp.ne) ?_ :)
  ¤(a00 (A52 (mk:=mk) (by rw[ml];§hp.p0)) ?_ :)
  §⟨rfl,rfl⟩
 ·¤sb (b:=(pl.map a40).all (eqM mk (pl.getD 0 0))) ?_
  rw[k22,← hmk];rfl
÷k32(h:okD (.lst l)=true):A20 .eq (.lst l) (.lst [])=some l.isEmpty:=by
 show(if okD (.lst l)&&okD (.lst []) then some (eqD (.lst l) (.lst [])) else eqE (.lst l) (.lst []))=_
 rw[h]
 cases l <;> rfl
÷O50(l:List Nat):okD (.lst (l.map a40))=true:=by
 have e:l.map a40=(l.map λ(n:Nat)=>(n:Int)).map D.int:=by rw[ó];rfl
 rw[e];§D51 _
end
def s10(l:List Nat):D:=.tup (l.map a40)
÷A70:∀ {j:Nat}{lot:List Nat},lot∈l40 j->lot.length<=j
 |0,lot,h=>by rw[ã.mp h];§Í _
 |j + 1,lot,h=>by
  rcases Á7.mp h with h | h
  ·§Nat.le_succ_of_le (A70 h)
  ·¶⟨l,hl,rfl⟩:=Ú.mp h
   rw[R01];§Ü6 (A70 hl)
÷A80:∀ j:Nat,(l40 j).length=2 ^ j
 |0=>rfl
 |j + 1=>by
  show(l40 j++(l40 j).map (·++[j])).length=_
  rw[Á9,É,A80 j,Ú6];omega
÷E51(h:j<=8):2 ^ j<=256:=û (n:=2) (by decide) h
÷add_l(h:a.length + b.length<=1000):z60 .add (.lst a) (.lst b)=some (.fr (a++b)):=by
 show(if a.length + b.length<=most then some (S.fr (a++b)) else none)=_
 rw[if_pos (s90 h)]
÷p41(h:a.length + b.length<=1000):z60 .add (.tup a) (.tup b)=some (.d (.tup (a++b))):=by
 show(if a.length + b.length<=most then some (S.d (.tup (a++b))) else none)=_
 rw[if_pos (s90 h)]
def Q62(j:Nat):D->D
 |.tup l=>.tup (l++[a40 j])
 |x=>x
÷R61:((l40 j).map s10).map (Q62 j)=((l40 j).map (·++[j])).map s10:=by
 rw[ó,ó]
 ¤Å8 λl _=>?_
 show D.tup (l.map a40++[a40 j])=.tup ((l++[j]).map a40)
 rw[Ç5];rfl
÷d01{n:Nat}(h:n < 100000):itD .rng1 [.int n]=some ((Â8 0 n).map a40):=by
 rw[V50 (by omega) (by omega),Á8,Õ3];rfl
÷IsC.w(h:IsC c)(b:Prop)[Decidable b]:0<=(if b then c.1 else c.2 - c.1)/\(if b then c.1 else c.2 - c.1)<=1000:=by
 ¶⟨c1,c2,c3,c4,_⟩:=h
 split <;> omega
÷j71(n:Nat):∀ l:List Nat,memD (a40 n) (l.map a40)=decide (n∈l)
 |[]=>rfl
 |x::r=>by
  show((x:Int) == (n:Int) || memD (a40 n) (r.map a40))=_
  rw[j71 n r,Í5,Å6,beq_iff_eq,decide_eq_true_eq,decide_eq_true_eq,Â9]
  constructor
  ·rintro (h | h)
   ·§.inl (by omega)
   ·§.inr h
  ·rintro (h | h)
   ·§.inl (by omega)
   ·§.inr h
÷v40(l:List Nat):G10 (l.map a40)=true:=by
 have e:l.map a40=(l.map λ(n:Nat)=>(n:Int)).map D.int:=by rw[ó];rfl
 ¶⟨h1,h2⟩:=N60 (l.map λ(n:Nat)=>(n:Int))
 unfold G10
 rw[e,h1,h2];rfl
÷O60{n:Nat}{l:List Nat}:N51 (a40 n) (l.map a40)=some (decide (n∈l)):=by
 unfold N51
 rw[v40,j71];rfl
÷E61(h0:0 < b):(j70 t b).1 * b=(j70 t b).2 * t:=by
 ¶⟨e1,e2⟩:=N80 (t:=t) h0
 generalize (j70 t b).1=x at *
 generalize (j70 t b).2=y at *
 generalize ((gcd t b:Nat):Int)=k at *
 rw[e1,e2]
 grind
def x40(k:Nat):List (List Nat):=(TS.sN k).map (TS.B90 k 0)
÷W40(h:k<=8):l40 k=(í (2 ^ k)).map (TS.B90 k 0):=by
 have:∀ k,k < 9->l40 k=(í (2 ^ k)).map (TS.B90 k 0):=by decide +kernel
 §this k (by omega)
÷F20(h:k<=8):(x40 k).Perm (l40 k):=by
 have:∀ k,k < 9->(TS.sN k).isPerm (í (2 ^ k))=true:=by decide +kernel
 rw[W40 h]
 §(List.isPerm_iff.mp (this k (by omega))).map _
÷A62(h:k<=8):(l40 k).map s10=h80 k:=by
 rw[W40 h]
 unfold h80
 rw[ó];rfl
÷d11(h:k<=8):bfD .sorted [.lst ((l40 k).map s10)]=some (.fr ((x40 k).map s10)):=by
 have h1:∀ k,k < 9->n10 (h80 k)=false:=by decide +kernel
 have h2:∀ k,k < 9->((í 9).find? λj=>X90 (h80 k) (h80 j))=some k:=by decide +kernel
 rw[A62 h]
 show(if (h80 k).length < 64/\n10 (h80 k)=true then some (S.fr (u20 (h80 k))) else((((í 9).find? λj=>X90 (h80 k) (h80 j)).map N61).map S.fr))=_
 rw[if_neg (λq=>by rw[h1 k (by omega)] at q;cases q.2),h2 k (by omega)]
 show some (S.fr (N61 k))=some (S.fr ((x40 k).map s10))
 rw[x40,ó];rfl
÷j81{i:Nat}(hi:T[i]?=some (.code 1 3 q30))(k:Nat){m:Int}{ts:List D}(h8:ts.length<=8)(z:Z):b40 T (k + 3) i [.d (.tup [.int m,.tup ts])] z=some (.ok (.fr ((x40 ts.length).map s10)) z):=by
 ¤W.ok (g60 (ps:=1) (ns:=3) (b:=q30) hi rfl (by decide) ?_)
 ¤(a00 (d01 (n:=ts.length) (by omega)) ?_ :)
 ¤w70 (λxs ρ z1=>z1=z/\∃ (j r:Nat) (o2:Option S),j + r=ts.length/\xs=(Â8 j r).map a40/\ρ=[some (.d (.tup [.int m,.tup ts])),some (.fr ((l40 j).map s10)),o2]) _ ⟨rfl,0,ts.length,none,Î9 _,rfl,rfl⟩ ?_ ?_
 ·rintro x r ρ z1 ⟨rfl,j,r',o2,hj,e,rfl⟩
  cases r' with
  |zero=>cases e
  |succ r' =>
   rw[Â0] at e
   cases e
   have hp:=E51 (j:=j) (by omega)
   ¤ip (by rw[É,A80];simp only[most];omega) (Q61 (Q62 j) (λy hy=>?_) ?_)
   ·¶⟨l,hl,rfl⟩:=Ú.mp hy
    have:=A70 hl
    ¤(a00 (p41 (a:=l.map a40) (b:=[a40 j]) (by rw[É];show _ + 1<=_;omega)) ?_ :)
    §⟨rfl,rfl⟩
   ·rw[R61]
    ¤(a00 (add_l (a:=(l40 j).map s10) (b:=((l40 j).map (·++[j])).map s10) (by rw[É,É,É,A80];omega)) ?_ :)
    ¤⟨rfl,j + 1,r',some (.d (a40 j)),by omega,rfl,?_⟩
    §congrArg (λl=>[some (S.d (.tup [.int m,.tup ts])),some (.fr l),some (.d (a40 j))]) Ç5.symm
 ·rintro ρ z1 ⟨rfl,j,r',o2,hj,e,rfl⟩
  cases r' with
  |zero =>
   have hj:j=ts.length:=hj
   subst hj
   ¤(a00 (d11 h8) ?_ :)
   §sd rfl
  |succ r'=>rw[Â0] at e;cases e
÷d21(k:Nat){m:Int}{ts:List D}(h8:ts.length<=8)(z:Z):b40 T (k + 3) H80 [.d (.tup [.int m,.tup ts])] z=some (.ok (.fr ((x40 ts.length).map s10)) z):=j81 rfl k h8 z
def R71:D->List Nat
 |.tup l=>l.map λx=>match x with | .int i=>i.toNat | _=>0
 |_=>[]
÷j91(l:List Nat):R71 (s10 l)=l:=by
 show(l.map a40).map _=l
 rw[ó]
 §map_id l
÷E71(h:k<=8)(hl:lot∈x40 k):∀ n∈lot,n < k:=O30 ((F20 h).mem_iff.mp hl)
÷k01(h:k<=8):(x40 k).length<=256:=by rw[(F20 h).length_eq,A80];§E51 h
section
variable {m:Int}{ps cs:List (Int × Int)}{pl:List Nat}
abbrev k20(m:Int)(ps:List (Int × Int))(pl:List Nat):List (List Nat):=(x40 ps.length).filter (F10 ps m.toNat pl)
÷W50(k:Nat)(g:d20 m ps)(hp:g00 m pl)(z:Z):b40 T (k + 9) E20 [.d (q80 m ps),.d (.tup (pl.map a40))] z=some (.ok (.fr ((k20 m ps pl).map s10)) z):=by
 have h8:=g.len
 have h6:=hp.len g.m6
 ¤W.ok (g60 (ps:=2) (ns:=2) (b:=s40) rfl rfl (by decide) (Wo (c50 k z g.web) (Wo (d30 (k + 2) (t:=.tup (ps.map pr)) z hp.pls (decide_eq_true (by rw[É];omega))) (Wo (d21 (k + 5) (m:=m) (ts:=ps.map pr) (by rw[É];§h8) z) ?_))))
 rw[É]
 ¤ip (by rw[É];§s90 (Ñ (k01 h8) (by decide))) (j12 (λx=>F10 ps m.toNat pl (R71 x)) id (λx hx=>?_) ?_)
 ·¶⟨l,hl,rfl⟩:=Ú.mp hx
  ¤Wo (O40 (k + 4) g hp (Row.t l) (E71 h8 hl) z) ⟨?_,rfl,λ_=>⟨rfl,rfl⟩⟩
  rw[j91]
 ·¤sd ?_
  rw[map_id,List.filter_map]
  have:(x40 ps.length).filter ((λx=>F10 ps m.toNat pl (R71 x)) ∘ s10)=k20 m ps pl:=List.filter_congr λl _=>by show F10 ps m.toNat pl (R71 (s10 l))=_;rw[j91]
  rw[this]
end
def tl:Sm->Sm
 |.seq _ r=>r
 |s=>s
structure Bs(n:Nat)(c:Int × Int):Prop where
 t:c.1.natAbs<=2 ^ n
 b0:0 < c.2
 b:c.2.natAbs<=2 ^ n
÷O70(h:n<=3999)(hi:i<=2 ^ n):i < P40:=Ê8 hi (Nat.pow_lt_pow_right (by decide) (by omega))
÷F30(h:n<=3999)(hi:i.natAbs<=2 ^ n)(hj:j.natAbs<=2 ^ n):z60 .mul (.int i) (.int j)=some (.d (.int (i * j))):=by
 show(if i.natAbs < P40/\j.natAbs < P40 then some (S.d (.int (i * j))) else none)=_
 rw[if_pos ⟨O70 h hi,O70 h hj⟩]
÷t20{n m:Nat}{i j:Int}(hi:i.natAbs<=2 ^ n)(hj:j.natAbs<=2 ^ m):(i * j).natAbs<=2 ^ (n + m):=by
 rw[natAbs_mul,Nat.pow_add];§Nat.mul_le_mul hi hj
÷E81(h:n<=3999)(hi:i.natAbs<=2 ^ n):big i:=by
 have:=O70 h hi
 show i < 2 ^ 4000
 have e:((P40:Nat):Int)=2 ^ 4000:=by unfold P40;§Int.natCast_pow 2 4000
 rw[← e];omega
÷IsC.s(h:IsC c):Bs 10 c:=by
 ¶⟨h1,h2,h3,h4,_⟩:=h
 §⟨by show _<=1024;omega,by omega,by show _<=1024;omega⟩
÷A72(k:Nat)(hc:Bs n c)(hd:Bs n d)(hn:n + n<=3999)(z:Z):b40 T (k + 5) W51 [.d (pr c),.d (pr d)] z=some (.ok (.d (pr (j70 (c.1 * d.2 + d.1 * c.2) (c.2 * d.2)))) z):=by
 have h1:n<=3999:=by omega
 ¤W.ok (g60 (ps:=2) (ns:=2) (b:=D11) rfl rfl (by decide) ?_)
 ¤(a00 (F30 h1 hc.t hd.b) ?_ :)
 ¤(a00 (F30 h1 hd.t hc.b) ?_ :)
 ¤(a00 (F30 h1 hc.b hd.b) ?_ :)
 §Wo (W00 k _ _ z (Ï2 hc.b0 hd.b0) (E81 hn (t20 hc.b hd.b))) (sd rfl)
÷E91(h0:0 < b):(j70 t b).1.natAbs<=t.natAbs/\(j70 t b).2.natAbs<=b.natAbs:=by
 ¶⟨e1,e2⟩:=N80 (t:=t) h0
 have g0:=t00 (t:=t) h0
 generalize j70 t b=v at *
 generalize hg:gcd t b=g at *
 have g1:1<=g:=by omega
 constructor
 ·rw[e1,natAbs_mul,Int.natAbs_natCast];§á4 _ g1
 ·rw[e2,natAbs_mul,Int.natAbs_natCast];§á4 _ g1
÷I30(k:Nat)(hc:Bs n c)(hd:Bs n d)(hn:n<=3999)(z:Z):b40 T (k + 3) E00 [.d (pr c),.d (pr d)] z=some (.ok (.d (.bl (decide (c.1 * d.2 < d.1 * c.2)))) z):=by
 ¤W.ok (g60 (ps:=2) (ns:=2) (b:=E70) rfl rfl (by decide) ?_)
 ¤(a00 (F30 hn hc.t hd.b) ?_ :)
 ¤(a00 (F30 hn hd.t hc.b) ?_ :)
 §sd rfl
÷F40(k:Nat)(z:Z)(h:chD x=true):b40 T (k + 5) k60 [.d x] z=some (.ok (.d .non) z) :=
 W.ok (g60 (ps:=1) (ns:=1) (b:=g80) rfl rfl (by decide) (Wo (y60 k x z) (ie (b:=!chD x) (by rw[h];rfl) (sd rfl))))
÷F50(k:Nat)(z:Z)(h:chD x=false):b40 T (k + 5) k60 [.d x] z=some (.er 5 z) :=
 W.er (g60 (ps:=1) (ns:=1) (b:=g80) rfl rfl (by decide) (Wo (y60 k x z) (it (b:=!chD x) (by rw[h];rfl) ⟨rfl,c30 z⟩)))
structure Rt(v:Int × Int)(t b:Int):Prop where
 b0:0 < v.2
 one:gcd v.1 v.2=1
 eq:v.1 * b=t * v.2
÷Rt.low{t b:Int}(hb:0 < b):Rt (j70 t b) t b:=⟨N90 hb,E01 hb,by rw[E61 hb,Ú9]⟩
÷Rt.conv{v:Int × Int}{t b t' b':Int}(h:Rt v t b)(hb:0 < b)(e:t * b'=t' * b):Rt v t' b':=by
 ¤⟨h.b0,h.one,Ð0 (a:=b) (by omega) ?_⟩
 have:=h.eq
 calc v.1 * b' * b=(v.1 * b) * b':=by grind
  _=(t * b') * v.2:=by rw[this];grind
  _=t' * v.2 * b:=by rw[e];grind
÷Rt.eqv{v w:Int × Int}{t b:Int}(hv:Rt v t b)(hw:Rt w t b)(hb:0 < b):v=w:=by
 have e:v.1 * w.2=w.1 * v.2:=by
  have h1:=hv.eq
  have h2:=hw.eq
  ¤Ð0 (a:=b) (by omega) ?_
  calc v.1 * w.2 * b=(v.1 * b) * w.2:=by grind
   _=(t * w.2) * v.2:=by rw[h1];grind
   _=w.1 * v.2 * b:=by rw[← h2];grind
 ¶⟨a,b'⟩:=p11 hv.b0 hw.b0 hv.one hw.one e
 §Prod.ext a b'
÷Rt.add{v w:Int × Int}{t b t' b':Int}(hv:Rt v t b)(hw:Rt w t' b'):Rt (j70 (v.1 * w.2 + w.1 * v.2) (v.2 * w.2)) (t * b' + t' * b) (b * b'):=by
 have y:=Ï2 hv.b0 hw.b0
 ¤(Rt.low y).conv y ?_
 have h1:=hv.eq
 have h2:=hw.eq
 calc (v.1 * w.2 + w.1 * v.2) * (b * b')=(v.1 * b) * (w.2 * b') + (w.1 * b') * (v.2 * b):=by grind
  _=(t * b' + t' * b) * (v.2 * w.2):=by rw[h1,h2];grind
÷Rt.mul{v w:Int × Int}{t b t' b':Int}(hv:Rt v t b)(hw:Rt w t' b'):Rt (j70 (v.1 * w.1) (v.2 * w.2)) (t * t') (b * b'):=by
 have y:=Ï2 hv.b0 hw.b0
 ¤(Rt.low y).conv y ?_
 have h1:=hv.eq
 have h2:=hw.eq
 calc v.1 * w.1 * (b * b')=(v.1 * b) * (w.1 * b'):=by grind
  _=t * t' * (v.2 * w.2):=by rw[h1,h2];grind
÷IsC.rt{c:Int × Int}(h:IsC c):Rt c c.1 c.2:=⟨by have:=h.1;omega,h.2.2.2.2,rfl⟩
÷Z02:IsC (0,1):=⟨by decide,by decide,by decide,by decide,by decide⟩
÷Bs.up{n m:Nat}{c:Int × Int}(h:Bs n c)(hm:n<=m):Bs m c :=
 have e:=û (n:=2) (by decide) hm
 ⟨Ñ h.t e,h.b0,Ñ h.b e⟩
÷Bs.low{n:Nat}{t b:Int}(h0:0 < b)(ht:t.natAbs<=2 ^ n)(hb:b.natAbs<=2 ^ n):Bs n (j70 t b) :=
 ⟨Ñ (E91 h0).1 ht,N90 h0,Ñ (E91 h0).2 hb⟩
÷Bs.mul{n:Nat}{c d:Int × Int}(hc:Bs n c)(hd:Bs n d):Bs (n + n) (j70 (c.1 * d.1) (c.2 * d.2)):=.low (Ï2 hc.b0 hd.b0) (t20 hc.t hd.t) (t20 hc.b hd.b)
def t30(f:Nat->Int):Nat->Int
 |0=>0
 |n + 1=>t30 f n + f n
÷l50:∀ {n:Nat},(∀ i < n,f i=g i)->t30 f n=t30 g n
 |0,_=>rfl
 |n + 1,h=>by
  show t30 f n + f n=t30 g n + g n
  rw[l50 λi hi=>h i (by omega),h n (by omega)]
÷O80:∀ n:Nat,t30 (λi=>f i + g i) n=t30 f n + t30 g n
 |0=>rfl
 |n + 1=>by
  show t30 (λi=>f i + g i) n + (f n + g n)=(t30 f n + f n) + (t30 g n + g n)
  rw[O80 n];omega
÷k21(k:Int):∀ n:Nat,t30 (λi=>k * f i) n=k * t30 f n
 |0=>(Ô2 k).symm
 |n + 1=>by
  show t30 (λi=>k * f i) n + k * f n=k * (t30 f n + f n)
  rw[k21 k n,mul_add]
÷O90:∀ {n:Nat},i < n->t30 (λj=>if j=i then v else 0) n=v
 |n + 1,h=>by
  show t30 (λj=>if j=i then v else 0) n + (if n=i then v else 0)=v
  by_cases e:n=i
  ·subst e
   rw[if_pos rfl]
   have:t30 (λj=>if j=n then v else 0) n=0:=by
    have z:t30 (λj=>if j=n then v else 0) n=t30 (λ_=>0) n:=l50 λj hj=>if_neg (by omega)
    have z2:∀ k,t30 (λ_=>0) k=0:=λk=>by
     induction k with
     |zero=>rfl
     |succ k ih=>show t30 (λ_=>0) k + 0=0;rw[ih];rfl
    rw[z,z2]
   rw[this];omega
  ·rw[if_neg e,O90 (n:=n) (by omega)];omega
def cnt(ls:List (List Nat))(j:Nat):Int:=((ls.filter λl=>l.length == j).length:Nat)
÷cnt_cons(l:List Nat)(r:List (List Nat))(j:Nat):cnt (l::r) j=cnt r j + if j=l.length then 1 else 0:=by
 unfold cnt
 rw[Ñ9]
 by_cases h:j=l.length
 ·rw[if_pos h,h,beq_self_eq_true,if_pos rfl,Ü];omega
 ·rw[if_neg h,beq_eq_false_iff_ne.mpr (Â3 h),if_neg (by decide)];omega
÷X11(ls:List (List Nat))(j:Nat):0<=cnt ls j/\cnt ls j<=ls.length:=by
 unfold cnt
 have:=Å3 (λl=>l.length == j) ls
 omega
÷F01(h:Nat->Int):∀ {ls:List (List Nat)},(∀ l∈ls,l.length < n)->t30 (λj=>cnt ls j * h j) n=I01 ls λl=>h l.length
 |[],_=>by
  have:∀ k,t30 (λj=>cnt [] j * h j) k=0:=λk=>by
   induction k with
   |zero=>rfl
   |succ k ih=>show t30 (λj=>cnt [] j * h j) k + 0 * h k=0;rw[ih,Ó1];rfl
  rw[this];rfl
 |l::r,hl=>by
  have ih:=F01 h (n:=n) λx hx=>hl x (È _ hx)
  have e:t30 (λj=>cnt (l::r) j * h j) n=t30 (λj=>cnt r j * h j + (if j=l.length then h l.length else 0)) n:=l50 λj _=>by
   rw[cnt_cons,Int.add_mul]
   by_cases e:j=l.length
   ·rw[if_pos e,if_pos e,one_mul,e]
   ·rw[if_neg e,if_neg e,Ó1]
  rw[e,O80,ih,O90 (hl l Ì)]
  show _=h l.length + I01 r _
  omega
def lag(f:Nat->Int)(j:Nat):Int:=f j - if j=0 then 0 else f (j - 1)
def q90(c:Nat->Int):Nat->Nat->Int
 |0,_=>0
 |k + 1,j=>lag (q90 c k) j + if j=k then c k else 0
÷F60(c:Nat->Int):∀ (k j:Nat),k<=j->q90 c k j=0
 |0,_,_=>rfl
 |k + 1,j,h=>by
  show lag (q90 c k) j + (if j=k then c k else 0)=0
  unfold lag
  rw[F60 c k j (by omega),if_neg (by omega),if_neg (by omega),F60 c k (j - 1) (by omega)];rfl
÷d31(hc:∀ i,0<=c i/\c i<=256):∀ k j,(q90 c k j).natAbs<=256 * (2 ^ k - 1)
 |0,_=>by show(0:Int).natAbs<=_;decide
 |k + 1,j=>by
  show(lag (q90 c k) j + (if j=k then c k else 0)).natAbs<=_
  have h1:=d31 hc k j
  have h2:(if j=0 then(0:Int) else q90 c k (j - 1)).natAbs<=256 * (2 ^ k - 1):=by
   split
   ·§Æ1 _
   ·§d31 hc k (j - 1)
  have h3:(if j=k then c k else 0).natAbs<=256:=by
   have:=hc k
   split <;> omega
  have h4:(lag (q90 c k) j).natAbs<=256 * (2 ^ k - 1) + 256 * (2 ^ k - 1):=Ñ (Int.natAbs_sub_le _ _) (ß9 h1 h2)
  ¤Ñ (Ñ (Int.natAbs_add_le _ _) (ß9 h4 h3)) ?_
  have hp:0 < 2 ^ k:=Nat.pow_pos (by decide)
  rw[Ú6]
  generalize 2 ^ k=P at hp
  clear h1 h2 h3 h4
  omega
section
variable (t b:Int)
def evN(K:Nat)(f:Nat->Int)(n:Nat):Int:=t30 (λj=>f j * (t ^ j * b ^ (K - j))) n
÷X21:∀ n,n<=K + 1->b * evN t b K (lag f) n=(b - t) * evN t b K f n + (if n=0 then 0 else f (n - 1) * (t ^ n * b ^ (K + 1 - n)))
 |0,_=>by unfold evN t30;simp
 |n + 1,h=>by
  have ih:=X21 (K:=K) (f:=f) n (by omega)
  rw[if_neg (by omega:¬ n + 1=0),Ï8,show K + 1 - (n + 1)=K - n by omega]
  show b * (evN t b K (lag f) n + lag f n * (t ^ n * b ^ (K - n)))=(b - t) * (evN t b K f n + f n * (t ^ n * b ^ (K - n))) + f n * (t ^ (n + 1) * b ^ (K - n))
  rw[mul_add,ih]
  unfold lag
  have e1:t ^ (n + 1)=t ^ n * t:=Ã5 t n
  have e2:b ^ (K + 1 - n)=b ^ (K - n) * b:=by rw[show K + 1 - n=(K - n) + 1 by omega,Ã5]
  rw[e1,e2]
  generalize b ^ (K - n)=B
  generalize evN t b K f n=X
  cases n with
  |zero=>rw[if_pos rfl,if_pos rfl];grind
  |succ n=>rw[if_neg (by omega),if_neg (by omega),Ï8];grind
def hom(c:Nat->Int)(k:Nat):Int:=t30 (λi=>c i * (t ^ i * (b - t) ^ (k - 1 - i))) k
÷R81(c:Nat->Int)(k:Nat):hom t b c (k + 1)=(b - t) * hom t b c k + c k * t ^ k:=by
 show t30 (λi=>c i * (t ^ i * (b - t) ^ (k - i))) k + c k * (t ^ k * (b - t) ^ (k - k))=_
 rw[sub_self,Ð2,mul_one]
 congr 1
 unfold hom
 rw[← k21]
 ¤l50 λi hi=>?_
 rw[show k - i=(k - 1 - i) + 1 by omega,Ã5]
 generalize (b - t) ^ (k - 1 - i)=B
 grind
÷k42:evN t b K (λj=>f j + g j) n=evN t b K f n + evN t b K g n:=by
 unfold evN
 rw[← O80]
 §l50 λi _=>Int.add_mul _ _ _
÷F11(hb:0 < b):∀ k,k<=K + 1->evN t b K (q90 c k) (K + 1)=b ^ (K + 1 - k) * hom t b c k
 |0,_=>by
  have:∀ n,evN t b K (q90 c 0) n=0:=λn=>by
   induction n with
   |zero=>rfl
   |succ n ih=>show evN t b K (q90 c 0) n + 0 * _=0;rw[ih,Ó1];rfl
  rw[this]
  show 0=_ * (0:Int)
  rw[Ô2]
 |k + 1,h=>by
  have ih:=F11 hb (c:=c) (K:=K) k (by omega)
  have e1:evN t b K (q90 c (k + 1)) (K + 1)=evN t b K (lag (q90 c k)) (K + 1) + evN t b K (λj=>if j=k then c k else 0) (K + 1):=k42 t b
  have e2:evN t b K (λj=>if j=k then c k else 0) (K + 1)=c k * (t ^ k * b ^ (K - k)):=by
   unfold evN
   rw[show(λj=>(if j=k then c k else 0) * (t ^ j * b ^ (K - j)))=λj=>if j=k then c k * (t ^ k * b ^ (K - k)) else 0 from funext λj=>by
    by_cases e:j=k
    ·rw[if_pos e,if_pos e,e]
    ·rw[if_neg e,if_neg e,Ó1]]
   §O90 (by omega)
  have e3:=X21 t b (K:=K) (f:=q90 c k) (K + 1) (Í _)
  rw[if_neg (by omega),Ï8,F60 c k K (by omega),Ó1,add_zero,ih] at e3
  ¤Int.eq_of_mul_eq_mul_left (a:=b) (by omega) ?_
  rw[e1,mul_add,e3,e2,R81]
  have e4:b ^ (K + 1 - k)=b ^ (K - k) * b:=by rw[show K + 1 - k=(K - k) + 1 by omega,Ã5]
  have e5:K + 1 - (k + 1)=K - k:=by omega
  rw[e4,e5]
  generalize b ^ (K - k)=B
  generalize hom t b c k=H
  generalize t ^ k=X
  grind
÷v50:∀ {j:Nat}{lot:List Nat},lot∈l40 j->amt (λ_=>(t,b)) j lot=t ^ lot.length * (b - t) ^ (j - lot.length)/\lot.length<=j
 |0,lot,h=>by rw[ã.mp h];§⟨by show(1:Int)=t ^ 0 * (b - t) ^ 0;rw[Ð2,Ð2];rfl,Í _⟩
 |j + 1,lot,h=>by
  rw[v00]
  rcases Á7.mp h with h | h
  ·¶⟨h1,h2⟩:=v50 h
   have hn:j ∉ lot:=λhh=>absurd (O30 h j hh) (Á4 _)
   rw[h1,if_neg hn,show j + 1 - lot.length=(j - lot.length) + 1 by omega,Ã5]
   §⟨by rw[Int.mul_assoc],by omega⟩
  ·¶⟨l,hl,rfl⟩:=Ú.mp h
   ¶⟨h1,h2⟩:=v50 hl
   rw[k02 (Í _),h1,if_pos (ï _ (ã.mpr rfl)),R01,show j + 1 - (l.length + 1)=j - l.length by omega,Ã5]
   §⟨by show _ * t=_;generalize (b - t) ^ (j - l.length)=B;generalize t ^ l.length=A;grind,by omega⟩
÷F21(hb:0 < b)(hl:∀ l∈ls,l∈l40 K):evN t b K (q90 (cnt ls) (K + 1)) (K + 1)=I01 ls (amt (λ_=>(t,b)) K):=by
 rw[F11 t b hb (K + 1) (Í _),sub_self,Ð2,one_mul]
 unfold hom
 rw[Ï8,F01 (λi=>t ^ i * (b - t) ^ (K - i)) λl h=>Ú7 (v50 t b (hl l h)).2]
 unfold I01
 rw[Å8 λl h=>((v50 t b (hl l h)).1).symm]
end
def fl(n:Nat)(f:Nat->Int):List D:=(í n).map λj=>.int (f j)
÷W60(n:Nat)(f:Nat->Int):(fl n f).length=n:=by unfold fl;rw[É,ù]
÷N82(h:i < n):(fl n f)[i]?=some (.int (f i)):=by unfold fl;rw[Ý,É7 h];rfl
÷X31(h:i < n):L2.atI (fl n f) (i:Int)=some (.int (f i)):=L2.B50 (N82 h)
÷R91(h:∀ i < n,f i=g i):fl n f=fl n g:=Å8 λi hi=>by rw[h i (Ä3.mp hi)]
÷X41(h:i < n):H00 (fl n f) (i:Int) (.int v)=some (fl n λj=>if j=i then v else f j):=by
 have hx:L2.ixN (fl n f).length (i:Int)=some i:=by
  rw[W60]
  unfold L2.ixN
  simp
  omega
 unfold H00
 rw[hx]
 show some (((í n).map λj=>D.int (f j)).set i (.int v))=some ((í n).map λj=>D.int (if j=i then v else f j))
 ¤congrArg some (ext_getElem (by rw[Ä1,É,É]) λj h1 h2=>?_)
 rw[List.getElem_set,Ñ8,Ñ8,Ò4]
 by_cases e:j=i
 ·rw[if_pos e.symm,if_pos e]
 ·rw[if_neg (Â3 e),if_neg e]
÷v60(n:Nat)(f:Nat->Int):o30 (fl n f)=true:=by
 unfold fl
 rw[show((í n).map λj=>D.int (f j))=((í n).map f).map D.int from by rw[ó];rfl]
 §I10 _
÷F31:∀ n:Nat,(î n [D.int 0]).flatten=fl n λ_=>0
 |0=>rfl
 |n + 1=>by
  rw[Å5,É6,F31 n]
  unfold fl
  rw[List.range_succ_eq_map,Å7,ó];rfl
÷zeros{n:Nat}(h:n<=1000):z60 .mul (.lst [.int 0]) (.int n)=some (.fr (fl n λ_=>0)):=by
 show(if 0<=(n:Int)/\(n:Int).toNat * 1<=most/\(n:Int) < 1000000 then some (S.fr (î (n:Int).toNat [D.int 0]).flatten) else none)=_
 rw[if_pos ⟨by omega,by rw[Á8];§s90 (by omega),by omega⟩,Á8,F31]
÷X51{i:Int}{n:Nat}(e:i=n)(h:n<=1000):z60 .mul (.lst [.int 0]) (.int i)=some (.fr (fl n λ_=>0)):=by rw[e];§zeros h
÷k52(n:Nat)(f:Nat->Int):w30 (fl n f) 0=(Â8 0 n).map λi=>.tup [a40 i,.int (f i)]:=by
 have:∀ (r j:Nat),w30 ((Â8 j r).map λi=>D.int (f i)) j=(Â8 j r).map λi=>.tup [a40 i,.int (f i)]:=by
  intro r
  induction r with
  |zero=>intro _;rfl
  |succ r ih =>
   intro j
   rw[Â0]
   show .tup [.int j,.int (f j)]::w30 ((Â8 (j + 1) r).map λi=>D.int (f i)) (j + 1)=_
   rw[ih];rfl
 unfold fl
 rw[Õ3]
 §this n 0
def C72:D->D
 |.tup [.int a,.int b]=>.int (a - b)
 |x=>x
÷k31:∀ a b:List Int,(o00 (a.map D.int) (b.map D.int)).map C72=(List.zipWith (· - ·) a b).map D.int
 |[],_=>rfl
 |_::_,[]=>rfl
 |x::r,y::q=>by
  show D.int (x - y)::(o00 (r.map D.int) (q.map D.int)).map C72=_
  rw[k31 r q];rfl
÷A82(n:Nat)(f:Nat->Int):(o00 (fl n f) (.int 0::fl n f)).map C72=fl n (lag f):=by
 have e:∀ g:Nat->Int,fl n g=((í n).map g).map D.int:=λg=>by unfold fl;rw[ó];rfl
 rw[e f,show D.int 0::((í n).map f).map D.int=(0::(í n).map f).map D.int from rfl,k31,e (lag f)]
 ¤congrArg _ (ext_getElem ?_ λi h1 h2=>?_)
 ·rw[List.length_zipWith,Ü,É,É,ù];omega
 ·rw[List.getElem_zipWith,Ñ8,Ñ8,Ò4]
  unfold lag
  cases i with
  |zero=>rfl
  |succ i=>rw[List.getElem_cons_succ,Ñ8,Ò4];rfl
÷d41{a b:List Int}{d:D}(h:d∈o00 (a.map D.int) (b.map D.int)):∃ x y,d=.tup [.int x,.int y]:=by
 ¶⟨x,hx,y,hy,rfl⟩:=N50 h
 ¶⟨i,_,rfl⟩:=Ú.mp hx
 ¶⟨j,_,rfl⟩:=Ú.mp hy
 §⟨i,j,rfl⟩
÷p51{n:Nat}{f:Nat->Int}{d:D}(h:d∈o00 (fl n f) (.int 0::fl n f)):∃ x y,d=.tup [.int x,.int y]:=by
 have e:fl n f=((í n).map f).map D.int:=by unfold fl;rw[ó];rfl
 rw[e] at h
 §d41 (b:=0::(í n).map f) h
÷I40:∀ ls:List (List Nat),o30 (ls.map s10)=true
 |[]=>rfl
 |l::r=>by
  show(o30 (l.map a40)&&o30 (r.map s10))=true
  rw[x30,I40];rfl
section
variable {m:Int}{ps:List (Int × Int)}{pl:List Nat}
÷k41(g:d20 m ps)(h:l∈k20 m ps pl):l∈l40 ps.length:=(F20 g.len).mem_iff.mp (Ý1.mp h).1
÷I50(g:d20 m ps):(k20 m ps pl).length<=256:=Ñ (Å3 _ _) (k01 g.len)
abbrev r70(m:Int)(ps:List (Int × Int))(pl:List Nat):Nat->Int:=cnt (k20 m ps pl)
÷F41(k:Nat)(g:d20 m ps)(hp:g00 m pl)(z:Z):b40 T (k + 10) i81 [.d (q80 m ps),.d (.tup (pl.map a40))] z=some (.ok (.fr (fl (ps.length + 1) (r70 m ps pl))) z):=by
 have h8:=g.len
 ¤W.ok (g60 (ps:=2) (ns:=5) (b:=N30) rfl rfl (by decide) (Wo (W50 k g hp z) ?_))
 ¤(C81 (.fr (fl (ps.length + 1) λ_=>0)) [some (.d (q80 m ps)),some (.d (.tup (pl.map a40))),some (.fr ((k20 m ps pl).map s10)),some (.fr (fl (ps.length + 1) λ_=>0)),none] ?_ ?_ ?_ :)
 ·¤(a00 (X51 (i:=((ps.map pr).length:Int) + 1) (n:=ps.length + 1) (by rw[É];rfl) (by omega)) ?_ :)
  §⟨rfl,rfl⟩
 ·rw[C71 (show S70 (.fr (fl (ps.length + 1) λ_=>0))=true from v60 _ _)];rfl
 ¤w70 (λxs ρ z1=>z1=z/\∃ (r:List (List Nat)) (f:Nat->Int) (o2 o4:Option S),xs=r.map s10/\(∀ l∈r,l.length < ps.length + 1)/\(∀ j,f j + cnt r j=r70 m ps pl j)/\ρ=[some (.d (q80 m ps)),some (.d (.tup (pl.map a40))),o2,some (.fr (fl (ps.length + 1) f)),o4]) _ ⟨rfl,k20 m ps pl,λ_=>0,_,none,rfl,λl hl=>Ú7 (A70 (k41 g hl)),λj=>Ô1 _,(itE (l:=[.d (.lst ((k20 m ps pl).map s10))]) (by show(o30 ((k20 m ps pl).map s10)&&true)=true;rw[I40];rfl)).trans rfl⟩ ?_ ?_
 ·rintro x r ρ z1 ⟨rfl,ls,f,o2,o4,e,hl,hf,rfl⟩
  cases ls with
  |nil=>cases e
  |cons l ls =>
   cases e
   have hl0:=hl l Ì
   have el:((l.map a40).length:Int)=(l.length:Nat):=by rw[É]
   ¤(a00 (o:=L2.atI (fl (ps.length + 1) f) ((l.map a40).length:Int)) (a:=.int (f l.length)) (by rw[el];§X31 hl0) ?_ :)
   ¤(a00 (o:=H00 (fl (ps.length + 1) f) ((l.map a40).length:Int) (.int (f l.length + 1))) (a:=fl (ps.length + 1) λj=>if j=l.length then f l.length + 1 else f j) (by rw[el];§X41 hl0) ?_ :)
   ¤⟨rfl,ls,λj=>if j=l.length then f l.length + 1 else f j,_,_,rfl,λl' h'=>hl l' (È _ h'),λj=>?_,rfl⟩
   have:=hf j
   rw[cnt_cons] at this
   show(if j=l.length then f l.length + 1 else f j) + cnt ls j=r70 m ps pl j
   by_cases e:j=l.length
   ·rw[if_pos e] at this
    rw[if_pos e,← e]
    omega
   ·rw[if_neg e] at this
    rw[if_neg e]
    omega
 ·rintro ρ z1 ⟨rfl,ls,f,o2,o4,e,hl,hf,rfl⟩
  cases ls with
  |cons l ls=>cases e
  |nil =>
   ¤sd ?_
   rw[show f=r70 m ps pl from funext λj=>by have:=hf j;show f j=_;rw[← this];§(add_zero _).symm]
abbrev k51(m:Int)(ps:List (Int × Int))(pl:List Nat):Nat->Int:=q90 (r70 m ps pl) (ps.length + 1)
abbrev pwE(m:Int)(ps:List (Int × Int))(pl:List Nat)(o2 o3 o4 o5:Option S):Env:=[some (.d (q80 m ps)),some (.d (.tup (pl.map a40))),o2,o3,o4,o5]
÷F51(k:Nat)(g:d20 m ps)(hp:g00 m pl)(z:Z):b40 T (k + 11) i91 [.d (q80 m ps),.d (.tup (pl.map a40))] z=some (.ok (.fr (fl (ps.length + 1) (k51 m ps pl))) z):=by
 have h8:=g.len
 ¤W.ok (g60 (ps:=2) (ns:=6) (b:=N40) rfl rfl (by decide) (Wo (F41 k g hp z) ?_))
 ¤(C81 (.fr (fl (ps.length + 1) λ_=>0)) (pwE m ps pl (some (.fr (fl (ps.length + 1) (r70 m ps pl)))) (some (.fr (fl (ps.length + 1) λ_=>0))) none none) ?_ ?_ ?_ :)
 ·¤(a00 (X51 (i:=((fl (ps.length + 1) (r70 m ps pl)).length:Int)) (n:=ps.length + 1) (by rw[W60]) (by omega)) ?_ :)
  §⟨rfl,rfl⟩
 ·rw[C71 (show S70 (.fr (fl (ps.length + 1) λ_=>0))=true from v60 _ _)];rfl
 ¤w70 (λxs ρ z1=>z1=z/\∃ (j r:Nat) (s3:S) (o2 o4 o5:Option S),j + r=ps.length + 1/\xs=(Â8 j r).map (λi=>.tup [a40 i,.int (r70 m ps pl i)])/\((j=0/\s3=.d (.lst (fl (ps.length + 1) (q90 (r70 m ps pl) j))))∨s3=.fr (fl (ps.length + 1) (q90 (r70 m ps pl) j)))/\ρ=pwE m ps pl o2 (some s3) o4 o5) _ ⟨rfl,0,ps.length + 1,.d (.lst (fl (ps.length + 1) λ_=>0)),_,_,_,Î9 _,k52 _ _,.inl ⟨rfl,rfl⟩,(itE (l:=[.d (.lst (fl (ps.length + 1) (r70 m ps pl)))]) (by show(o30 (fl (ps.length + 1) (r70 m ps pl))&&true)=true;rw[v60];rfl)).trans rfl⟩ ?_ ?_
 ·rintro x r ρ z1 ⟨rfl,j,r',s3,o2,o4,o5,hj,e,hs,rfl⟩
  cases r' with
  |zero=>cases e
  |succ r' =>
   rw[Â0] at e
   cases e
   ¤(C81 (.fr (fl (ps.length + 1) (lag (q90 (r70 m ps pl) j)))) (pwE m ps pl o2 (some (.fr (fl (ps.length + 1) (lag (q90 (r70 m ps pl) j))))) (some (.d (a40 j))) (some (.d (.int (r70 m ps pl j))))) ?_ ?_ ?_ :)
   ·have st:∀ {Q:List D->Z->Prop}{F:FT},Q (fl (ps.length + 1) (lag (q90 (r70 m ps pl) j))) z1->(if (o00 (fl (ps.length + 1) (q90 (r70 m ps pl) j)) (.int 0::fl (ps.length + 1) (q90 (r70 m ps pl) j))).length<=most then W (turns (o20 (ev F .nil) (ev F (.bin .sub v0 v1)) (p2 (.v 0) (.v 1)) [none,none]) (o00 (fl (ps.length + 1) (q90 (r70 m ps pl) j)) (.int 0::fl (ps.length + 1) (q90 (r70 m ps pl) j)))) z1 Q NE else False):=λ{Q F} q=>by
     ¤ip (Ñ (u90 _ _) (by rw[W60];§s90 (by omega))) (Q61 C72 (λx hx=>?_) ?_)
     ·¶⟨a,b,rfl⟩:=p51 hx
      §⟨rfl,rfl⟩
     ·rw[A82];§q
    have ad:z60 .add (.lst [.int 0]) (.lst (fl (ps.length + 1) (q90 (r70 m ps pl) j)))=some (.fr (.int 0::fl (ps.length + 1) (q90 (r70 m ps pl) j))):=add_l (by rw[W60];show 1 + _<=1000;omega)
    rcases hs with ⟨_,rfl⟩ | rfl
    ·¤(a00 ad ?_ :)
     §st (F:=T30 T (k + 10)) ⟨rfl,rfl⟩
    ·¤(a00 ad ?_ :)
     §st (F:=T30 T (k + 10)) ⟨rfl,rfl⟩
   ·rw[C71 (show S70 (.fr (fl (ps.length + 1) (lag (q90 (r70 m ps pl) j))))=true from v60 _ _)]
    rfl
   ·¤(a00 (X31 (f:=lag (q90 (r70 m ps pl) j)) (i:=j) (n:=ps.length + 1) (by omega)) ?_ :)
    ¤(a00 (X41 (f:=lag (q90 (r70 m ps pl) j)) (i:=j) (n:=ps.length + 1) (v:=lag (q90 (r70 m ps pl) j) j + r70 m ps pl j) (by omega)) ?_ :)
    ¤⟨rfl,j + 1,r',_,_,_,_,by omega,rfl,.inr (congrArg S.fr (R91 λi _=>?_)),rfl⟩
    show(if i=j then lag (q90 (r70 m ps pl) j) j + r70 m ps pl j else lag (q90 (r70 m ps pl) j) i)=lag (q90 (r70 m ps pl) j) i + (if i=j then r70 m ps pl j else 0)
    by_cases e:i=j
    ·rw[if_pos e,if_pos e,e]
    ·rw[if_neg e,if_neg e,add_zero]
 ·rintro ρ z1 ⟨rfl,j,r',s3,o2,o4,o5,hj,e,hs,rfl⟩
  cases r' with
  |succ r'=>rw[Â0] at e;cases e
  |zero =>
   have hj:j=ps.length + 1:=hj
   subst hj
   rcases hs with ⟨h,_⟩ | rfl
   ·cases h
   ·§sd rfl
end
÷k62(k:Nat)(hc:Bs n c)(hd:Bs n d)(hn:n + n<=3999)(z:Z):b40 T (k + 5) C91 [.d (pr c),.d (pr d)] z=some (.ok (.d (pr (j70 (c.1 * d.1) (c.2 * d.2)))) z):=by
 have h1:n<=3999:=by omega
 ¤W.ok (g60 (ps:=2) (ns:=2) (b:=c41) rfl rfl (by decide) ?_)
 ¤(a00 (F30 h1 hc.t hd.t) ?_ :)
 ¤(a00 (F30 h1 hc.b hd.b) ?_ :)
 §Wo (W00 k _ _ z (Ï2 hc.b0 hd.b0) (E81 hn (t20 hc.b hd.b))) (sd rfl)
÷Rt.is(h:Rt v t b)(hb:0 < b):v=j70 t b:=h.eqv (.low hb) hb
÷Rt.bs(h:Rt v t b)(hb:0 < b)(h1:t.natAbs<=2 ^ n)(h2:b.natAbs<=2 ^ n):Bs n v:=by
 rw[h.is hb];§.low hb h1 h2
def F61(t b:Int)(f:Nat->Int)(K:Nat):Nat->Int
 |0=>0
 |s + 1=>t * F61 t b f K s + f (K - s) * b ^ (s + 1)
÷F71(t b:Int)(f:Nat->Int)(K:Nat):∀ s,s<=K + 1->t ^ (K + 1 - s) * F61 t b f K s + b * evN t b K f (K + 1 - s)=b * evN t b K f (K + 1)
 |0,_=>by show t ^ (K + 1) * 0 + _=_;rw[Ô2,Ô1];rfl
 |s + 1,h=>by
  rw[← F71 t b f K s (by omega)]
  have e1:K + 1 - s=(K - s) + 1:=by omega
  have e2:K + 1 - (s + 1)=K - s:=by omega
  rw[e1,e2]
  show t ^ (K - s) * (t * F61 t b f K s + f (K - s) * b ^ (s + 1)) + b * evN t b K f (K - s)=t ^ (K - s + 1) * F61 t b f K s + b * (evN t b K f (K - s) + f (K - s) * (t ^ (K - s) * b ^ (K - (K - s))))
  rw[show K - (K - s)=s by omega,Ã5,Ã5]
  generalize t ^ (K - s)=X
  generalize b ^ s=B
  generalize F61 t b f K s=H
  generalize evN t b K f (K - s)=V
  grind
÷S01(t b:Int)(f:Nat->Int)(K:Nat):F61 t b f K (K + 1)=b * evN t b K f (K + 1):=by
 have h:=F71 t b f K (K + 1) (Í _)
 rw[sub_self,Ð2,one_mul] at h
 rw[← h]
 show _=F61 t b f K (K + 1) + b * 0
 rw[Ô2,add_zero]
÷F81{a b:Int}:(a + b).natAbs<=a.natAbs + b.natAbs:=Int.natAbs_add_le a b
÷j20(hc:IsC c):∀ s:Nat,(c.2 ^ s).natAbs<=2 ^ (10 * s)/\0 < c.2 ^ s
 |0=>⟨by rw[Ð2];decide,by rw[Ð2];decide⟩
 |s + 1=>by
  ¶⟨h1,h2⟩:=j20 hc s
  rw[Ã5]
  have:=hc.s.b
  §⟨t20 h1 this,Ï2 h2 hc.s.b0⟩
÷F91(hc:IsC c)(hf:∀ j,(f j).natAbs<=2 ^ 17){K:Nat}:∀ s,(F61 c.1 c.2 f K s).natAbs<=2 ^ (17 + 11 * s)
 |0=>Æ1 _
 |s + 1=>by
  have ih:=F91 hc hf (K:=K) s
  have h1:=t20 hc.s.t ih
  have h2:=t20 (hf (K - s)) (j20 hc (s + 1)).1
  ¤Ñ F81 ?_
  have e1:2 ^ (10 + (17 + 11 * s))<=2 ^ (16 + 11 * (s + 1)):=û (by decide) (by omega)
  have e2:2 ^ (17 + 10 * (s + 1))<=2 ^ (16 + 11 * (s + 1)):=û (by decide) (by omega)
  have e3:2 ^ (17 + 11 * (s + 1))=2 * 2 ^ (16 + 11 * (s + 1)):=by rw[show 17 + 11 * (s + 1)=(16 + 11 * (s + 1)) + 1 by omega,Ú6,Ó9]
  rw[e3]
  omega
section
variable {m:Int}{ps:List (Int × Int)}{pl:List Nat}{c:Int × Int}
÷X61(g:d20 m ps)(j:Nat):(k51 m ps pl j).natAbs<=2 ^ 17:=by
 have h8:=g.len
 ¤Ñ (d31 (λi=>?_) _ _) ?_
 ·have:=X11 (k20 m ps pl) i
  have:=I50 g (pl:=pl)
  §⟨(X11 (k20 m ps pl) i).1,by show cnt (k20 m ps pl) i<=256;omega⟩
 ·have:2 ^ (ps.length + 1)<=2 ^ 9:=û (by decide) (by omega)
  have e9:2 ^ 9=512:=by decide
  have e17:2 ^ 17=131072:=by decide
  omega
def C82(m:Int)(ps:List (Int × Int))(pl:List Nat)(c:Int × Int):Int × Int:=j70 (evN c.1 c.2 ps.length (k51 m ps pl) (ps.length + 1)) (c.2 ^ ps.length)
÷S11(g:d20 m ps)(hc:IsC c):evN c.1 c.2 ps.length (k51 m ps pl) (ps.length + 1)=I01 (k20 m ps pl) (amt (λ_=>c) ps.length):=F21 c.1 c.2 hc.s.b0 λ_ h=>k41 g h
÷G01(f:Nat->Int):∀ n,(fl (n + 1) f).reverse=.int (f n)::(fl n f).reverse:=λn=>by
 unfold fl
 rw[range_succ,Ç5,List.reverse_append];rfl
÷F70(k:Nat)(g:d20 m ps)(hp:g00 m pl)(hc:IsC c)(z:Z):b40 T (k + 12) q20 [.d (q80 m ps),.d (.tup (pl.map a40)),.d (pr c)] z=some (.ok (.d (pr (C82 m ps pl c))) z):=by
 have h8:=g.len
 have h6:=hp.len g.m6
 ¤W.ok (g60 (ps:=3) (ns:=5) (b:=q40) rfl rfl (by decide) (Wo (c50 (k + 3) z g.web) (Wo (d30 (k + 5) (t:=.tup (ps.map pr)) z hp.pls (decide_eq_true (by rw[É];omega))) (Wo (F40 (k + 6) z hc.ch) (Wo (F51 k g hp z) ?_)))))
 ¤w70 (λxs ρ z1=>z1=z/\∃ (s:Nat) (v:Int × Int) (o4:Option S),s<=ps.length + 1/\xs=(fl (ps.length + 1 - s) (k51 m ps pl)).reverse/\Rt v (F61 c.1 c.2 (k51 m ps pl) ps.length s) (c.2 ^ s)/\ρ=[some (.d (q80 m ps)),some (.d (.tup (pl.map a40))),some (.d (pr c)),some (.d (pr v)),o4]) _ ⟨rfl,0,(0,1),none,Æ1 _,rfl,⟨by decide,by decide,by show(0:Int) * _=0 * _;rw[Ó1,Ó1]⟩,rfl⟩ ?_ ?_
 ·rintro x r ρ z1 ⟨rfl,s,v,o4,hs,e,hv,rfl⟩
  by_cases h:s=ps.length + 1
  ·subst h
   rw[sub_self] at e
   cases e
  ·rw[show ps.length + 1 - s=(ps.length - s) + 1 by omega,G01] at e
   cases e
   have hb:=j20 hc s
   have hbs:Bs 116 v:=hv.bs hb.2 (Ñ (F91 hc (X61 g) s) (û (by decide) (by omega))) (Ñ hb.1 (û (by decide) (by omega)))
   have hcs:Bs 116 c:=hc.s.up (by decide)
   have hi:Bs 232 (k51 m ps pl (ps.length - s),(1:Int)):=⟨Ñ (X61 g _) (û (by decide) (by decide)),by show(0:Int) < 1;decide,by show(1:Int).natAbs<=2 ^ 232;decide⟩
   ¤Wo (k62 (k + 6) hbs hcs (by decide) z1) (Wo (A72 (k + 6) (hbs.mul hcs) hi (by decide) z1) ?_)
   ¤⟨rfl,s + 1,_,_,by omega,by rw[show ps.length + 1 - (s + 1)=ps.length - s by omega],?_,rfl⟩
   have hr:Rt (k51 m ps pl (ps.length - s),(1:Int)) (k51 m ps pl (ps.length - s)) 1:=⟨by show(0:Int) < 1;decide,Int.gcd_one_right _,rfl⟩
   ¤((hv.mul hc.rt).add hr).conv ?_ ?_
   ·§Ï2 (Ï2 hb.2 hc.s.b0) (by decide)
   ·show _ * c.2 ^ (s + 1)=(c.1 * F61 c.1 c.2 (k51 m ps pl) ps.length s + k51 m ps pl (ps.length - s) * c.2 ^ (s + 1)) * _
    rw[Ã5]
    generalize c.2 ^ s=B
    generalize F61 c.1 c.2 (k51 m ps pl) ps.length s=H
    grind
 ·rintro ρ z1 ⟨rfl,s,v,o4,hs,e,hv,rfl⟩
  have hs':s=ps.length + 1:=by
   have:=congrArg List.length e
   rw[Ì0,W60] at this
   simp only[Á0] at this
   omega
  subst hs'
  ¤sd ?_
  rw[S01] at hv
  have hb:=j20 hc ps.length
  have:Rt v (evN c.1 c.2 ps.length (k51 m ps pl) (ps.length + 1)) (c.2 ^ ps.length):=hv.conv (j20 hc (ps.length + 1)).2 (by rw[Ã5];generalize c.2 ^ ps.length=B;generalize evN c.1 c.2 ps.length (k51 m ps pl) (ps.length + 1)=V;grind)
  rw[this.is hb.2];rfl
÷p61(k:Nat)(g:d20 m ps)(hp:g00 m pl)(hx:chD x=false)(z:Z):b40 T (k + 12) q20 [.d (q80 m ps),.d (.tup (pl.map a40)),.d x] z=some (.er 5 z):=by
 have h6:=hp.len g.m6
 §W.er (g60 (ps:=3) (ns:=5) (b:=q40) rfl rfl (by decide) (Wo (c50 (k + 3) z g.web) (Wo (d30 (k + 5) (t:=.tup (ps.map pr)) z hp.pls (decide_eq_true (by rw[É];omega))) (We (F50 (k + 6) z hx) ⟨rfl,c30 z⟩))))
end
÷eq_self(h:okD x=true)(hs:U61 .seq x=false):A20 .eq x x=some true:=by
 show(if okD x&&okD x then some (eqD x x) else eqE x x)=some true
 rw[h]
 cases x with
 |non=>rfl
 |bl b=>show some (b == b)=_;rw[beq_self_eq_true]
 |int i=>show some (i == i)=_;rw[beq_self_eq_true]
 |str s=>show some (s == s)=_;rw[beq_self_eq_true]
 |tup l=>cases hs
 |lst l=>cases hs
 |dct=>rfl
÷k61:∀ {l:List D}{d:D},d∈o00 l l->∃ x∈l,d=.tup [x,x]
 |x::r,d,h=>by
  rcases ú.mp h with h | h
  ·§⟨x,Ì,h⟩
  ·¶⟨u,hu,e⟩:=k61 h
   §⟨u,È _ hu,e⟩
mutual
noncomputable def flat:Nat->D->Bool
 |_,.non=>true
 |_,.bl _=>true
 |_,.int _=>true
 |_,.str _=>false
 |0,.tup _=>false
 |d + 1,.tup l=>decide (l.length<=1000)&&S21 d l
 |_,.lst _=>false
 |_,.dct=>false
noncomputable def S21:Nat->List D->Bool
 |_,[]=>true
 |d,x::r=>flat d x&&S21 d r
end
÷W70:∀ {d:Nat}{l:List D}{x:D},S21 d l=true->x∈l->flat d x=true
 |d,y::r,x,h,hx=>by
  unfold S21 at h
  rw[Á] at h
  rcases ú.mp hx with rfl | hx
  ·§h.1
  ·§W70 h.2 hx
÷G11:∀ (d k:Nat) (x:D) (z:Z),flat d x=true->b40 T (k + d + 3) j00 [.d x,.d x] z=some (.ok (.d (.bl true)) z):=by
 have one:∀ (k:Nat) (x:D) (z:Z),okD x=true->U61 .seq x=false->b40 T (k + 3) j00 [.d x,.d x] z=some (.ok (.d (.bl true)) z):=λk x z h hs=>by
  ¤W.ok (g60 (ps:=2) (ns:=2) (b:=m60) rfl rfl (by decide) (ie hs ?_))
  ¤(a00 (eq_self h hs) ?_ :)
  cases x with
  |tup l=>cases hs
  |lst l=>cases hs
  |_=>§sb rfl
 intro d
 induction d with
 |zero =>
  intro k x z h
  cases x with
  |non=>§one k _ z rfl rfl
  |bl b=>§one k _ z rfl rfl
  |int i=>§one k _ z rfl rfl
  |_=>unfold flat at h;cases h
 |succ d ih =>
  intro k x z h
  cases x with
  |non=>§one _ _ z rfl rfl
  |bl b=>§one _ _ z rfl rfl
  |int i=>§one _ _ z rfl rfl
  |tup l =>
   unfold flat at h
   rw[Á,decide_eq_true_eq] at h
   ¤W.ok (g60 (ps:=2) (ns:=2) (b:=m60) rfl rfl (by decide) ?_)
   ¤ie (b:=!((l.length:Int) == (l.length:Int))) (by rw[beq_self_eq_true];rfl) ?_
   ¤ip (c:=(o00 l l).length<=most) (Ñ (u90 _ _) (s90 h.1)) (Q61 (λ_=>.bl true) (λq hq=>?_) (a00 (I00 (o00 l l) λ_=>true) ?_ :))
   ·¶⟨x,hx,rfl⟩:=k61 hq
    §Wo (ih k x z (W70 h.2 hx)) ⟨rfl,rfl⟩
   ·§sb (b:=(o00 l l).all λ_=>true) (Õ.mpr λ_ _=>rfl)
  |_=>unfold flat at h;cases h
section
variable {m m':Int}{ps ps':List (Int × Int)}{pl pl':List Nat}
÷v70(k:Nat)(g:d20 m ps)(hp:g00 m pl)(g':d20 m' ps')(hp':g00 m' pl')(z:Z):b40 T (k + 9) y20 [.d (q80 m ps),.d (.tup (pl.map a40)),.d (q80 m' ps'),.d (.tup (pl'.map a40))] z=some (.ok (.d .non) z):=by
 have h6:=hp.len g.m6
 have h6':=hp'.len g'.m6
 §W.ok (g60 (ps:=4) (ns:=4) (b:=e20) rfl rfl (by decide) (Wo (c50 k z g.web) (Wo (c50 k z g'.web) (Wo (d30 (k + 2) (t:=.tup (ps.map pr)) z hp.pls (decide_eq_true (by rw[É];omega))) (Wo (d30 (k + 2) (t:=.tup (ps'.map pr)) z hp'.pls (decide_eq_true (by rw[É];omega))) (sd rfl))))))
end
abbrev pf(ps:List (Int × Int))(i:Nat):Int × Int:=ps.getD i (0,0)
section
variable {m:Int}{ps cs:List (Int × Int)}{pl:List Nat}
÷A92{i:Nat}(h:i < ps.length):pf ps i∈ps:=by
 rw[pf,Ö,ç h];§É0 h
÷d20.ab(g:d20 m ps){n:Nat}(hn:n < ps.length):tA ps n < tB ps n/\tB ps n < m.toNat/\pf ps n=((tA ps n:Int),(tB ps n:Int)):=by
 have:=g.tie _ (A92 hn)
 ¤⟨by show(pf ps n).1.toNat < (pf ps n).2.toNat;omega,by show(pf ps n).2.toNat < _;omega,Prod.ext ?_ ?_⟩
 ·show(pf ps n).1=((pf ps n).1.toNat:Int);omega
 ·show(pf ps n).2=((pf ps n).2.toNat:Int);omega
end
def W80(F:List Nat)(a b:Nat):List Nat:=if a∈F/\b ∉ F then F++[b] else F
÷k71(h:x∈F):x∈W80 F a b:=by
 unfold W80
 split
 ·§Æ6 _ h
 ·§h
÷d51(F:List Nat)(a b:Nat):(W80 F a b=F/\(a∈F->b∈F))∨F.length < (W80 F a b).length:=by
 unfold W80
 split
 ·§.inr (by rw[R01];omega)
 ·rename_i h
  §.inl ⟨rfl,λha=>Ü0 λhb=>h ⟨ha,hb⟩⟩
def Pls(m:Nat)(F:List Nat):Prop:=F.Nodup/\∀ x∈F,x < m
÷p20:∀ {m:Nat}{F:List Nat},Pls m F->F.length<=m
 |0,[],_=>Í _
 |0,x::_,h=>absurd (h.2 x Ì) (Ö2 _)
 |m + 1,F,h=>by
  have h1:(F.erase m).length<=m:=p20 ⟨h.1.erase m,λx hx=>by
   have h2:=h.2 x (List.mem_of_mem_erase hx)
   have h3:x≠m:=(List.Nodup.mem_erase_iff h.1).mp hx |>.1
   omega⟩
  by_cases hm:m∈F
  ·rw[List.length_erase_of_mem hm] at h1;omega
  ·rw[List.erase_of_not_mem hm] at h1;omega
÷A90(h:Pls m F)(hb:b < m):Pls m (W80 F a b):=by
 unfold W80
 split
 ·rename_i hh
  ¤⟨List.nodup_append.mpr ⟨h.1,by simp,λx hx y hy=>?_⟩,λx hx=>?_⟩
  ·rw[ã.mp hy];§λe=>hh.2 (e ▸ hx)
  ·rcases Á7.mp hx with hx | hx
   ·§h.2 x hx
   ·rw[ã.mp hx];§hb
 ·§h
÷X71{F:List Nat}{a b:Nat}{f:Nat->Int}{v:Int}(h:∀ x∈F,f x=v)(e:f a=f b):∀ x∈W80 F a b,f x=v:=by
 unfold W80
 split
 ·rename_i hh
  intro x hx
  rcases Á7.mp hx with hx | hx
  ·§h x hx
  ·rw[ã.mp hx,← e];§h a hh.1
 ·§h
section
variable (ps:List (Int × Int))
def spr(F:List Nat)(n:Nat):List Nat:=W80 (W80 F (tA ps n) (tB ps n)) (tB ps n) (tA ps n)
def rnd(lot:List Nat)(F:List Nat):List Nat:=lot.foldl (spr ps) F
def x50(lot:List Nat):Nat->List Nat->List Nat
 |0,F=>F
 |j + 1,F=>x50 lot j (rnd ps lot F)
variable {ps:List (Int × Int)}
÷B02(F:List Nat)(n:Nat):(spr ps F n=F/\(tA ps n∈F↔tB ps n∈F))∨F.length < (spr ps F n).length:=by
 unfold spr
 rcases d51 F (tA ps n) (tB ps n) with ⟨h1,h2⟩ | h1
 ·rw[h1]
  rcases d51 F (tB ps n) (tA ps n) with ⟨h3,h4⟩ | h3
  ·§.inl ⟨h3,h2,h4⟩
  ·§.inr h3
 ·rcases d51 (W80 F (tA ps n) (tB ps n)) (tB ps n) (tA ps n) with ⟨h3,_⟩ | h3
  ·rw[h3];§.inr h1
  ·§.inr (Nat.lt_trans h1 h3)
÷G21:∀ (lot F:List Nat),(rnd ps lot F=F/\∀ n∈lot,(tA ps n∈F↔tB ps n∈F))∨F.length < (rnd ps lot F).length
 |[],F=>.inl ⟨rfl,λ_ h=>nomatch h⟩
 |n::r,F=>by
  show(rnd ps r (spr ps F n)=F/\_)∨F.length < (rnd ps r (spr ps F n)).length
  rcases B02 (ps:=ps) F n with ⟨h1,h2⟩ | h1
  ·rw[h1]
   rcases G21 r F with ⟨h3,h4⟩ | h3
   ·¤.inl ⟨h3,λk hk=>?_⟩
    rcases ú.mp hk with rfl | hk
    ·§h2
    ·§h4 k hk
   ·§.inr h3
  ·rcases G21 r (spr ps F n) with ⟨h3,_⟩ | h3
   ·rw[h3];§.inr h1
   ·§.inr (Nat.lt_trans h1 h3)
÷G31:∀ {lot F:List Nat},Pls m F->(∀ n∈lot,tA ps n < m/\tB ps n < m)->Pls m (rnd ps lot F)
 |[],_,h,_=>h
 |n::r,F,h,hl=>G31 (lot:=r) (F:=spr ps F n) (A90 (A90 h (hl n Ì).2) (hl n Ì).1) λk hk=>hl k (È _ hk)
÷B12{f:Nat->Int}{v:Int}:∀ {lot F:List Nat},(∀ x∈F,f x=v)->(∀ n∈lot,f (tA ps n)=f (tB ps n))->∀ x∈rnd ps lot F,f x=v
 |[],_,h,_=>h
 |n::r,F,h,hl=>B12 (lot:=r) (F:=spr ps F n) (X71 (X71 h (hl n Ì)) (hl n Ì).symm) λk hk=>hl k (È _ hk)
÷G41:∀ {lot F:List Nat}{x:Nat},x∈F->x∈rnd ps lot F
 |[],_,_,h=>h
 |n::r,F,x,h=>G41 (lot:=r) (F:=spr ps F n) (k71 (k71 h))
÷k81(hl:∀ n∈lot,tA ps n < m/\tB ps n < m):∀ {j:Nat}{F:List Nat},Pls m F->Pls m (x50 ps lot j F)
 |0,_,h=>h
 |j + 1,_,h=>k81 hl (j:=j) (G31 h hl)
÷X81{f:Nat->Int}{v:Int}{lot:List Nat}(hl:∀ n∈lot,f (tA ps n)=f (tB ps n)):∀ {j:Nat}{F:List Nat},(∀ x∈F,f x=v)->∀ x∈x50 ps lot j F,f x=v
 |0,_,h=>h
 |j + 1,_,h=>X81 hl (j:=j) (B12 h hl)
÷k91:∀ {j:Nat}{F:List Nat}{x:Nat},x∈F->x∈x50 ps lot j F
 |0,_,_,h=>h
 |j + 1,_,_,h=>k91 (j:=j) (G41 h)
÷G51:∀ (j:Nat) (F:List Nat),(∀ n∈lot,(tA ps n∈x50 ps lot j F↔tB ps n∈x50 ps lot j F))∨F.length + j<=(x50 ps lot j F).length
 |0,F=>.inr (Í _)
 |j + 1,F=>by
  show(∀ n∈lot,(tA ps n∈x50 ps lot j (rnd ps lot F)↔tB ps n∈x50 ps lot j (rnd ps lot F)))∨F.length + (j + 1)<=(x50 ps lot j (rnd ps lot F)).length
  rcases G21 (ps:=ps) lot F with ⟨h1,h2⟩ | h1
  ·have e:∀ i,x50 ps lot i F=F:=λi=>by
    induction i with
    |zero=>rfl
    |succ i ih=>show x50 ps lot i (rnd ps lot F)=F;rw[h1];§ih
   ¤.inl ?_
   rw[h1,e];§h2
  ·rcases G51 (lot:=lot) j (rnd ps lot F) with h2 | h2
   ·§.inl h2
   ·§.inr (by omega)
÷G61{m:Int}{pl lot:List Nat}(g:d20 m ps)(hp:g00 m pl)(hl:∀ n∈lot,n < ps.length):(∀ p∈pl,p∈x50 ps lot m.toNat [pl.getD 0 0])↔F10 ps m.toNat pl lot=true:=by
 have hr:∀ n∈lot,tA ps n < m.toNat/\tB ps n < m.toNat:=λn hn=>g.rng n (hl n hn)
 have hpm:∀ p∈pl,p < m.toNat:=λp h=>by have:=hp.lt p h;omega
 have p0:pl.getD 0 0 < m.toNat:=hp.p0
 rw[R51 g.rng hpm hl]
 constructor
 ·§λh f hf p hpp=>X81 hf (λx hx=>by rw[ã.mp hx]) p (h p hpp)
 ·intro h p hpp
  have cl:∀ n∈lot,(tA ps n∈x50 ps lot m.toNat [pl.getD 0 0]↔tB ps n∈x50 ps lot m.toNat [pl.getD 0 0]):=by
   rcases G51 (ps:=ps) (lot:=lot) m.toNat [pl.getD 0 0] with h1 | h1
   ·§h1
   ·have:=p20 (k81 hr (j:=m.toNat) (F:=[pl.getD 0 0]) ⟨by simp,λx hx=>by rw[ã.mp hx];§p0⟩)
    simp only[Ü,Á0] at h1
    omega
  have h2:=h (λx=>if x∈x50 ps lot m.toNat [pl.getD 0 0] then 1 else 0) (λn hn=>by
   by_cases hx:tA ps n∈x50 ps lot m.toNat [pl.getD 0 0]
   ·rw[if_pos hx,if_pos ((cl n hn).mp hx)]
   ·rw[if_neg hx,if_neg λhy=>hx ((cl n hn).mpr hy)]) p hpp
  rw[if_pos (k91 (ã.mpr rfl))] at h2
  §Ü0 λhx=>by rw[if_neg hx] at h2;cases h2
end
def l72(k:Nat):List Nat->List Nat
 |[]=>[k]
 |y::r=>if y < k then y::l72 k r else k::y::r
def d61:List Nat->List Nat
 |[]=>[]
 |k::r=>l72 k (d61 r)
÷W90(k:Nat):∀ l,(l72 k l).Perm (k::l)
 |[]=>.refl _
 |y::r=>by
  unfold l72
  split
  ·§((W90 k r).cons y).trans (.swap _ _ _)
  ·§.refl _
÷I60:∀ l,(d61 l).Perm l
 |[]=>.refl _
 |k::r=>(W90 k _).trans ((I60 r).cons k)
÷l01(k:Nat):∀ l:List Nat,q21 (a40 k) (l.map a40)=(l72 k l).map a40
 |[]=>rfl
 |y::r=>by
  unfold l72
  show(if MySort.h70 [(y:Int)] [(k:Int)] then a40 y::q21 (a40 k) (r.map a40) else a40 k::a40 y::r.map a40)=_
  rw[N72,l01 k r]
  by_cases h:y < k
  ·rw[decide_eq_true (by omega:(y:Int) < k),if_pos rfl,if_pos h];rfl
  ·rw[decide_eq_false (by omega:¬ (y:Int) < k),if_neg (by decide),if_neg h];rfl
÷X00:∀ l:List Nat,u20 (l.map a40)=(d61 l).map a40
 |[]=>rfl
 |k::r=>by
  show q21 (a40 k) (u20 (r.map a40))=_
  rw[X00 r,l01];rfl
÷d71(h:l.length < 64):bfD .sorted [.lst (l.map a40)]=some (.fr ((d61 l).map a40)):=by
 have ok:n10 (l.map a40)=true:=by
  ¤Õ.mpr λx hx=>?_
  ¶⟨p,_,rfl⟩:=Ú.mp hx
  show(true&&(true&&(l.map a40).all (i60 (a40 p))))=true
  ¤Õ.mpr λy hy=>?_
  ¶⟨q,_,rfl⟩:=Ú.mp hy
  §O10 p q
 show(if (l.map a40).length < 64/\n10 (l.map a40)=true then some (S.fr (u20 (l.map a40))) else _)=_
 rw[if_pos ⟨by rw[É];§h,ok⟩,X00]
÷P00{n:Nat}{l:List Nat}:(N51 (a40 n) (l.map a40)).map (!·)=some (!decide (n∈l)):=by rw[O60];rfl
def B22:D->Nat
 |.int i=>i.toNat
 |_=>0
section
variable {m:Int}{ps:List (Int × Int)}{pl lot:List Nat}
abbrev wiE(m:Int)(ps:List (Int × Int))(lot:List Nat)(p0:Nat)(F:List Nat)(o4 o5 o6 o7:Option S):Env:=[some (.d (q80 m ps)),some (.d (.tup (lot.map a40))),some (.d (a40 p0)),some (.fr (F.map a40)),o4,o5,o6,o7]
÷l11:F.map a40++[a40 b]=(F++[b]).map a40:=by rw[Ç5];rfl
÷d81(k:Nat)(g:d20 m ps)(hl:∀ n∈lot,n < ps.length){p0:Nat}(h0:p0 < m.toNat)(z:Z):b40 T (k + 3) E30 [.d (q80 m ps),.d (.tup (lot.map a40)),.d (a40 p0)] z=some (.ok (.d (.tup ((d61 (x50 ps lot m.toNat [p0])).map a40))) z):=by
 have m6:=g.m6
 have m1:=g.m1
 have hr:∀ n∈lot,tA ps n < m.toNat/\tB ps n < m.toNat:=λn hn=>g.rng n (hl n hn)
 ¤W.ok (g60 (ps:=3) (ns:=8) (b:=s60) rfl rfl (by decide) ?_)
 ¤(C81 (.fr [a40 p0]) (wiE m ps lot p0 [p0] none none none none) ?_ ?_ ?_ :)
 ·§⟨rfl,rfl⟩
 ·rfl
 ¤(a00 (V50 (m:=m) (by omega) (by omega)) ?_ :)
 ¤w70 (λxs ρ z1=>z1=z/\∃ (F:List Nat) (o4 o5 o6 o7:Option S),Pls m.toNat F/\x50 ps lot xs.length F=x50 ps lot m.toNat [p0]/\ρ=wiE m ps lot p0 F o4 o5 o6 o7) _ ⟨rfl,[p0],none,none,none,none,⟨by simp,λx hx=>by rw[ã.mp hx];§h0⟩,by rw[É,ù],rfl⟩ ?_ ?_
 ·rintro x r ρ z1 ⟨rfl,F,o4,o5,o6,o7,hF,e,rfl⟩
  ¤w70 (λxs ρ z2=>z2=z1/\∃ (l G:List Nat) (o4 o5 o6 o7:Option S),xs=l.map a40/\(∀ n∈l,n < ps.length)/\Pls m.toNat G/\rnd ps l G=rnd ps lot F/\ρ=wiE m ps lot p0 G o4 o5 o6 o7) _ ⟨rfl,lot,F,some (.d x),o5,o6,o7,rfl,hl,hF,rfl,(itE (Row.t lot).ba).trans rfl⟩ ?_ ?_
  ·rintro y r' ρ z2 ⟨rfl,l,G,o4,o5,o6,o7,e1,hl1,hG,e2,rfl⟩
   cases l with
   |nil=>cases e1
   |cons n l =>
    cases e1
    have hn:=hl1 n Ì
    have ab:=(g.ab hn).2.2
    have rb:=g.rng n hn
    have len:=p20 hG
    ¤(a00 (show n61 (.tup (ps.map pr)) (.int n)=some (pr ((tA ps n:Int),(tB ps n:Int))) from by rw[W91 hn];§congrArg (λx=>some (pr x)) ab) ?_ :)
    ¤j02 (λρ z3=>z3=z2/\∃ (o4 o5:Option S),ρ=wiE m ps lot p0 (W80 G (tA ps n) (tB ps n)) o4 o5 (some (.d (a40 (tA ps n)))) (some (.d (a40 (tB ps n))))) ?_ ?_
    ·have no:∀ h:¬ (tA ps n∈G/\tB ps n ∉ G),W80 G (tA ps n) (tB ps n)=G:=λh=>if_neg h
     ¤(a00 (O60 (n:=tA ps n) (l:=G)) ?_ :)
     ¤ib (b:=decide (tA ps n∈G)) (λh1=>?_) λh1=>⟨rfl,_,_,by rw[no λh=>of_decide_eq_false h1 h.1];rfl⟩
     ¤(a00 (P00 (n:=tB ps n) (l:=G)) ?_ :)
     ¤ib (b:=!decide (tB ps n∈G)) (λh2=>?_) λh2=>⟨rfl,_,_,by rw[no λh=>by rw[decide_eq_false h.2] at h2;cases h2];rfl⟩
     ¤(a00 (add_l (a:=G.map a40) (b:=[a40 (tB ps n)]) (by rw[É];show G.length + 1<=1000;omega)) ?_ :)
     rw[l11,show W80 G (tA ps n) (tB ps n)=G++[tB ps n] from if_pos ⟨of_decide_eq_true h1,by simpa using h2⟩]
     §⟨rfl,_,_,rfl⟩
    ·rintro ρ z3 ⟨rfl,o4,o5,rfl⟩
     have hG1:=A90 (a:=tA ps n) (b:=tB ps n) hG rb.2
     have R01:=p20 hG1
     have fin:∀ (ρ:Env) (G':List Nat) (o4 o5 o6 o7:Option S),G'=spr ps G n->ρ=wiE m ps lot p0 G' o4 o5 o6 o7->(z3=z3/\∃ (l' G:List Nat) (o4 o5 o6 o7:Option S),List.map a40 l=l'.map a40/\(∀ n∈l',n < ps.length)/\Pls m.toNat G/\rnd ps l' G=rnd ps lot F/\ρ=wiE m ps lot p0 G o4 o5 o6 o7):=λρ G' o4 o5 o6 o7 e he=>⟨rfl,l,G',o4,o5,o6,o7,rfl,λk hk=>hl1 k (È _ hk),by rw[e];§A90 hG1 rb.1,by rw[e];§e2,he⟩
     unfold spr at fin
     generalize W80 G (tA ps n) (tB ps n)=G1 at fin hG1 R01
     have no:∀ h:¬ (tB ps n∈G1/\tA ps n ∉ G1),G1=W80 G1 (tB ps n) (tA ps n):=λh=>(if_neg h).symm
     ¤(a00 (O60 (n:=tB ps n) (l:=G1)) ?_ :)
     ¤ib (b:=decide (tB ps n∈G1)) (λh1=>?_) λh1=>fin _ G1 _ _ _ _ (no λh=>of_decide_eq_false h1 h.1) rfl
     ¤(a00 (P00 (n:=tA ps n) (l:=G1)) ?_ :)
     ¤ib (b:=!decide (tA ps n∈G1)) (λh2=>?_) λh2=>fin _ G1 _ _ _ _ (no λh=>by rw[decide_eq_false h.2] at h2;cases h2) rfl
     ¤(a00 (add_l (a:=G1.map a40) (b:=[a40 (tA ps n)]) (by rw[É];show G1.length + 1<=1000;omega)) ?_ :)
     rw[l11]
     §fin _ (G1++[tA ps n]) _ _ _ _ (if_pos ⟨of_decide_eq_true h1,by simpa using h2⟩).symm rfl
  ·rintro ρ z2 ⟨rfl,l,G,o4,o5,o6,o7,e1,hl1,hG,e2,rfl⟩
   cases l with
   |cons n l=>cases e1
   |nil=>§⟨rfl,G,_,_,_,_,hG,by rw[show G=rnd ps lot F from e2];§e,rfl⟩
 ·rintro ρ z1 ⟨rfl,F,o4,o5,o6,o7,hF,e,rfl⟩
  have len:=p20 hF
  have e:F=x50 ps lot m.toNat [p0]:=e
  ¤(a00 (d71 (l:=F) (by omega)) ?_ :)
  rw[← e]
  §sd rfl
÷X10(k:Nat)(g:d20 m ps)(hp:g00 m pl)(hl:∀ n∈lot,n < ps.length)(z:Z):b40 T (k + 4) E40 [.d (q80 m ps),.d (.tup (lot.map a40)),.d (.tup (pl.map a40))] z=some (.ok (.d (.bl (F10 ps m.toNat pl lot))) z):=by
 have hlen:=hp.len g.m6
 ¤W.ok (g60 (ps:=3) (ns:=4) (b:=s70) rfl rfl (by decide) ?_)
 ¤(a00 (X01 hp.ne) ?_ :)
 ¤Wo (d81 k g hl hp.p0 z) ?_
 ¤ip (by rw[É];simp only[most];omega) (j12 (λx=>!decide (B22 x∈x50 ps lot m.toNat [pl.getD 0 0])) (λx=>x) (λy hy=>?_) ?_)
 ·¶⟨p,hp',rfl⟩:=Ú.mp hy
  ¤(a00 (P00 (n:=p) (l:=d61 (x50 ps lot m.toNat [pl.getD 0 0]))) ?_ :)
  ¤⟨?_,rfl,λ_=>⟨rfl,rfl⟩⟩
  rw[show decide (p∈d61 (x50 ps lot m.toNat [pl.getD 0 0]))=decide (B22 (a40 p)∈x50 ps lot m.toNat [pl.getD 0 0]) from by
   rw[Í5,decide_eq_true_eq,decide_eq_true_eq,(I60 _).mem_iff];rfl]
 ·rw[map_id',List.filter_map]
  ¤(a00 (k32 (O50 _)) ?_ :)
  ¤sb ?_
  rw[Í5,← G61 g hp hl,List.isEmpty_map,Ì5,Ç2]
  constructor
  ·intro h p hpp
   have h1:¬ (!decide (p∈x50 ps lot m.toNat [pl.getD 0 0]))=true:=h p hpp
   simpa using h1
  ·intro h p hpp
   show ¬ (!decide (p∈x50 ps lot m.toNat [pl.getD 0 0]))=true
   simpa using h p hpp
÷X20(k:Nat)(h8:ts.length<=8)(z:Z):b40 T (k + 3) E50 [.d (.tup [.int m,.tup ts])] z=some (.ok (.fr ((x40 ts.length).map s10)) z):=j81 rfl k h8 z
end
÷X30:∀ {a b:List D},e70 (a++b)=(e70 a&&e70 b)
 |[],b=>rfl
 |x::a,b=>by
  show(n00 x&&e70 (a++b))=((n00 x&&e70 a)&&e70 b)
  rw[X30,Bool.and_assoc]
÷X40:∀ {a b:List D},f80 (a++b)=Ñ0 (f80 a) (f80 b)
 |[],b=>(Nat.zero_max _).symm
 |x::a,b=>by
  show Ñ0 (deep x) (f80 (a++b))=Ñ0 (Ñ0 (deep x) (f80 a)) (f80 b)
  rw[X40]
  §(Nat.max_assoc _ _ _).symm
÷l21{a b:List D}(ha:G10 a=true)(hb:G10 b=true):G10 (a++b)=true:=by
 unfold G10 at ha hb ⊢
 rw[Á,decide_eq_true_eq] at ha hb ⊢
 rw[X30,X40,ha.1,hb.1]
 §⟨rfl,ß8.mpr ⟨ha.2,hb.2⟩⟩
÷N92{l:List D}(h:G10 l=true):okD (.tup l)=true:=by
 unfold G10 at h
 unfold okD
 rw[Á,decide_eq_true_eq] at h ⊢
 §⟨h.1,by show f80 l + 1<=40;omega⟩
÷S31{x:D}(h:n00 x=true)(h2:deep x<=39):G10 [x]=true:=by
 unfold G10
 rw[Á,decide_eq_true_eq]
 ¤⟨by show(n00 x&&true)=true;rw[h];rfl,?_⟩
 show Ñ0 (deep x) 0<=39
 §ß8.mpr ⟨h2,by omega⟩
÷P10(k:Nat)(x:D)(z:Z):b40 T (k + 3) y40 [.d x] z=some (.ok (.d (.bl (p00 x))) z):=by
 ¤W.ok (g60 (ps:=1) (ns:=1) (b:=o90) rfl rfl (by decide) ?_)
 cases x with
 |_=>§sd rfl
÷G71(h:p00 x=true):∃ i,x=.int i:=by
 cases x with
 |int i=>§⟨i,rfl⟩
 |_=>cases h
÷F80(c:D->Bool):∀ {l:List D},G10 l=true->G10 (l.filter c)=true:=λ{l} h=>by
 unfold G10 at h ⊢
 rw[Á,decide_eq_true_eq] at h ⊢
 induction l with
 |nil=>§h
 |cons x r ih =>
  have h1:(n00 x&&e70 r)=true:=h.1
  have h2:Ñ0 (deep x) (f80 r)<=39:=h.2
  rw[Á] at h1
  rw[ß8] at h2
  have ih:=ih ⟨h1.2,h2.2⟩
  rw[Ñ9]
  split
  ·¤⟨?_,?_⟩
   ·show(n00 x&&e70 (r.filter c))=true
    rw[h1.1,ih.1];rfl
   ·show Ñ0 (deep x) (f80 (r.filter c))<=39
    §ß8.mpr ⟨h2.1,ih.2⟩
  ·§ih
÷B32(h:G10 l=true):okD (.lst l)=true:=N92 h
def S41:D->Bool
 |.tup l=>G10 l&&decide (l.length<=1000)
 |_=>true
÷p71(h:S41 x=true):short x=true:=by
 cases x with
 |tup l =>
  unfold S41 at h
  rw[Á] at h
  §h.2
 |_=>rfl
÷w40:∀ {l:List D},(∀ x∈l,p00 x=true)->∃ ns:List Int,l=ns.map D.int
 |[],_=>⟨[],rfl⟩
 |x::r,h=>by
  ¶⟨i,rfl⟩:=G71 (h x Ì)
  ¶⟨ns,rfl⟩:=w40 λy hy=>h y (È _ hy)
  §⟨i::ns,rfl⟩
÷G81:∀ {ns:List Int},(∀ x∈ns,0<=x)->∃ l:List Nat,ns.map D.int=l.map a40
 |[],_=>⟨[],rfl⟩
 |x::r,h=>by
  ¶⟨i,rfl⟩:=Ë1 (h x Ì)
  ¶⟨l,e⟩:=G81 λy hy=>h y (È _ hy)
  §⟨i::l,by rw[Å7,Å7,e];rfl⟩
÷I70:∀ {l:List Nat},(∀ x∈l,x < 8)->C80 (l.map a40)=some l
 |[],_=>rfl
 |x::r,h=>by
  have hx:=h x Ì
  show(if 0<=(x:Int)/\(x:Int) < 8 then(C80 (r.map a40)).map ((x:Int).toNat::·) else none)=_
  rw[if_pos (by omega),I70 λy hy=>h y (È _ hy),Á8];rfl
def dedup(l:List Nat):List Nat:=(í 8).filter λi=>l.contains i
÷S51(h:∀ x∈l,x < 8)(hu:l.Pairwise (· < ·)):dedup l=l:=by
 have h2:(dedup l).Pairwise (· < ·):=Ë0 _ È6
 ¤È8 (le:=λa b=>a < b) (λa b _ _ h1 h2=>by omega) h2 hu ?_
 ¤(Þ8 (h2.imp λh=>by omega) (hu.imp λh=>by omega)).mpr λx=>?_
 unfold dedup
 rw[mem_filter,mem_range]
 constructor
 ·§λhx=>by simpa using hx.2
 ·§λhx=>⟨h x hx,by simpa using hx⟩
÷X50:∀ {l:List Nat},N31 (l.map a40) (l.map a40)=true
 |[]=>rfl
 |x::r=>by
  show((x:Int) == (x:Int)&&N31 (r.map a40) (r.map a40))=true
  rw[beq_self_eq_true,X50];rfl
÷X91:∀ {l:List Nat},W20 (l.map a40)=true->l.Pairwise (· < ·)
 |[],_=>.nil
 |[_],_=>.cons (λ_ h=>nomatch h) .nil
 |x::y::r,h=>by
  have h:(decide ((x:Int) < y)&&W20 ((y::r).map a40))=true:=h
  rw[Á,decide_eq_true_eq] at h
  have ih:=X91 (l:=y::r) h.2
  ¤.cons (λz hz=>?_) ih
  rcases ú.mp hz with rfl | hz
  ·omega
  ·have:=(Ê7.mp ih).1 z hz
   omega
÷S61(k:Nat)(m6:m<=6)(h:S41 x=true)(z:Z):∃ b,b40 T (k + 4) m00 [.d (.int m),.d x] z=some (.ok (.d (.bl b)) z)/\(b=false->H91 m x=false)/\(b=true->∃ l,x=.tup l):=by
 have no:∀ {x:D},(∀ l,x≠.tup l)->U61 .tuple x=false->∃ b,b40 T (k + 4) m00 [.d (.int m),.d x] z=some (.ok (.d (.bl b)) z)/\(b=false->H91 m x=false)/\(b=true->∃ l,x=.tup l):=λ{x} h1 h2=>by
  ¤⟨false,W.ok (g60 (ps:=2) (ns:=2) (b:=e50) rfl rfl (by decide) ?_),λ_=>?_,λh=>nomatch h⟩
  ·¤it (b:=!U61 .tuple x) (by rw[h2];rfl) ?_
   §sd rfl
  ·cases x with
   |tup l=>§absurd rfl (h1 l)
   |_=>rfl
 cases x with
 |tup l =>
  unfold S41 at h
  rw[Á,decide_eq_true_eq] at h
  by_cases hw:(l.filter λx=>!p00 x)=[]
  ·have hw':∀ x∈l,p00 x=true:=λx hx=>by
    have:=Ç2.mp hw x hx
    simpa using this
   ¶⟨ns,rfl⟩:=w40 hw'
   by_cases hr:((ns.map D.int).filter λx=>!b90 x m)=[]
   ·have hr':∀ x∈ns,0<=x/\x < m:=λx hx=>by
     have:=Ç2.mp hr _ (Ú.mpr ⟨x,hx,rfl⟩)
     unfold b90 at this
     simpa using this
    ¶⟨ps,e⟩:=G81 λx hx=>(hr' x hx).1
    have hlt:∀ p∈ps,p < 8:=λp hp=>by
     have:a40 p∈ns.map D.int:=by rw[e];§Ú.mpr ⟨p,hp,rfl⟩
     ¶⟨i,hi,e2⟩:=Ú.mp this
     have h1:=hr' i hi
     have e3:i=(p:Int):=by injection e2
     omega
    ¤⟨N31 (ps.map a40) ((dedup ps).map a40),W.ok (g60 (ps:=2) (ns:=2) (b:=e50) rfl rfl (by decide) ?_),λhb=>?_,λ_=>⟨_,rfl⟩⟩
    ·¤ip (s90 h.2) (j12 (λx=>!p00 x) (λx=>x) (λx hx=>?_) ?_)
     ·§Wo (P10 k x z) ⟨rfl,rfl,λ_=>⟨rfl,rfl⟩⟩
     ·rw[hw]
      ¤ip (s90 h.2) (j12 (λx=>!b90 x m) (λx=>x) (λx hx=>?_) ?_)
      ·¶⟨i,hi,rfl⟩:=Ú.mp hx
       have h1:=hr' i hi
       ¤it (b:=decide ((0:Int)<=i)) (decide_eq_true h1.1) ?_
       ¤⟨?_,rfl,λ_=>⟨rfl,rfl⟩⟩
       show S.d (.bl (!decide (i < m)))=S.d (.bl (!(decide (0<=i)&&decide (i < m))))
       rw[decide_eq_true h1.1];rfl
      ·rw[hr,e]
       ¤(a00 (o:=Option.bind (a11 (.tup (ps.map a40))) λl=>(C80 l).map λns=>S.fr (((í 8).filter λi=>ns.contains i).map λ(n:Nat)=>.int n)) (a:=.fr ((dedup ps).map a40)) (by show(C80 (ps.map a40)).map _=_;rw[I70 hlt];rfl) ?_ :)
       ¤(a00 (o:=eqQ (.lst (ps.map a40)) (.lst ((dedup ps).map a40))) (a:=N31 (ps.map a40) ((dedup ps).map a40)) (by unfold eqQ;rw[O50,O50];rfl) ?_ :)
       §sd rfl
    ·cases hp:H91 m (.tup (ns.map D.int)) with
     |false=>rfl
     |true =>
      exfalso
      rw[e] at hp
      unfold H91 at hp
      rw[Á,Á] at hp
      have up:=X91 hp.1.2
      rw[S51 hlt up,X50] at hb
      cases hb
   ·¤⟨false,W.ok (g60 (ps:=2) (ns:=2) (b:=e50) rfl rfl (by decide) ?_),λ_=>?_,λh=>nomatch h⟩
    ·¤ip (s90 h.2) (j12 (λx=>!p00 x) (λx=>x) (λx hx=>?_) ?_)
     ·§Wo (P10 k x z) ⟨rfl,rfl,λ_=>⟨rfl,rfl⟩⟩
     ·rw[hw]
      ¤ip (s90 h.2) (j12 (λx=>!b90 x m) (λx=>x) (λx hx=>?_) ?_)
      ·¶⟨i,hi,rfl⟩:=Ú.mp hx
       ¤ib (b:=decide ((0:Int)<=i)) (λh1=>?_) λh1=>?_
       ·¤⟨?_,rfl,λ_=>⟨rfl,rfl⟩⟩
        show S.d (.bl (!decide (i < m)))=S.d (.bl (!(decide (0<=i)&&decide (i < m))))
        rw[h1];rfl
       ·¤⟨?_,rfl,λ_=>⟨rfl,rfl⟩⟩
        show S.d (.bl (!false))=S.d (.bl (!(decide (0<=i)&&decide (i < m))))
        rw[h1];rfl
      ·rw[map_id']
       ¤(a00 (ne_nil (B32 (F80 _ h.1))) ?_ :)
       ¤it (b:=!((ns.map D.int).filter λx=>!b90 x m).isEmpty) ?_ ?_
       ·cases hh:(ns.map D.int).filter λx=>!b90 x m with
        |nil=>§absurd hh hr
        |cons _ _=>rfl
       ·§sd rfl
    ·show((ns.map D.int).all (λx=>b90 x m)&&W20 (ns.map D.int)&&!(ns.map D.int).isEmpty)=false
     have:(ns.map D.int).all (λx=>b90 x m)=false:=by
      cases ha:(ns.map D.int).all (λx=>b90 x m) with
      |false=>rfl
      |true=>§absurd (Ç2.mpr λx hx=>by rw[Õ.mp ha x hx];decide) hr
     rw[this];rfl
  ·¤⟨false,W.ok (g60 (ps:=2) (ns:=2) (b:=e50) rfl rfl (by decide) ?_),λ_=>?_,λh=>nomatch h⟩
   ·¤ip (s90 h.2) (j12 (λx=>!p00 x) (λx=>x) (λx hx=>?_) ?_)
    ·§Wo (P10 k x z) ⟨rfl,rfl,λ_=>⟨rfl,rfl⟩⟩
    ·rw[map_id']
     ¤(a00 (ne_nil (B32 (F80 _ h.1))) ?_ :)
     ¤it (b:=!(l.filter λx=>!p00 x).isEmpty) ?_ ?_
     ·cases hh:l.filter λx=>!p00 x with
      |nil=>§absurd hh hw
      |cons _ _=>rfl
     ·§sd rfl
   ·show(l.all (λx=>b90 x m)&&W20 l&&!l.isEmpty)=false
    have:l.all (λx=>b90 x m)=false:=by
     cases ha:l.all (λx=>b90 x m) with
     |false=>rfl
     |true=>§absurd (Ç2.mpr λx hx=>by
       ¶⟨i,rfl,_⟩:=j10 (Õ.mp ha x hx)
       §λh=>nomatch h) hw
    rw[this];rfl
 |_=>§no (λl h=>nomatch h) rfl
÷B00(l:List Nat)(lo hi:Option Int):∃ l':List Nat,cutD (l.map a40) lo hi=l'.map a40/\l'.length<=l.length:=by
 unfold cutD
 ¤⟨(l.drop _).take _,by rw[← List.map_drop,← List.map_take],?_⟩
 rw[Æ7,Í3];omega
÷d91{a b:List Nat}(ha:a.length<=10)(hb:b.length<=10)(hx:(n00 x&&decide (deep x<=39))=true):S41 (.tup (a.map a40++[x]++b.map a40))=true:=by
 rw[Á,decide_eq_true_eq] at hx
 show(G10 (a.map a40++[x]++b.map a40)&&decide ((a.map a40++[x]++b.map a40).length<=1000))=true
 rw[l21 (l21 (v40 a) (S31 hx.1 hx.2)) (v40 b)]
 ¤decide_eq_true ?_
 rw[Á9,R01,É,É];omega
÷P20{a:List Nat}(ha:a.length<=100):S41 (.tup (a.map a40))=true:=by
 show(G10 (a.map a40)&&decide ((a.map a40).length<=1000))=true
 rw[v40 a]
 §decide_eq_true (by rw[É];omega)
÷G91(l:List Nat):(n00 (.tup (l.map a40))&&decide (deep (.tup (l.map a40))<=39))=true:=by
 have e:l.map a40=(l.map λ(n:Nat)=>(n:Int)).map D.int:=by rw[ó];rfl
 ¶⟨h1,h2⟩:=N60 (l.map λ(n:Nat)=>(n:Int))
 show(e70 (l.map a40)&&decide (f80 (l.map a40) + 1<=39))=true
 rw[e,h1,h2];rfl
÷P30(k:Nat){m:Int}(m1:1<=m)(m6:m<=6){pl:List Nat}(hl:pl.length<=6)(hz:ZI z):W (b40 T (k + 4) j80 [.z,.d (.int m),.d (.tup (pl.map a40))]) z (λs z1=>ZI z1/\∃ x,s=.d x/\S41 x=true) NE:=by
 have hll:(pl.map a40).length=pl.length:=É _
 ¤j32 hz (ps:=3) (ns:=6) (b:=f60) rfl rfl (by decide) ?_
 ¤(e30 k (((pl.map a40).length:Int) + 1) hz (by omega) (by omega)).imp λs z1 ⟨hz1,a,e,a1⟩=>?_
 subst e
 ¤(e30 k (m + 1) hz1 (by omega) (by omega)).imp λs z2 ⟨hz2,w,e,w1⟩=>?_
 subst e
 ¤(e30 k 10 hz2 (by decide) (by decide)).imp λs z3 ⟨hz3,v,e,v1⟩=>?_
 subst e
 ¤(E11 (n:=v) (λx=>n00 x&&decide (deep x<=39)) ?_ ?_ ?_ :)
 ·show v < 10
  omega
 ·have hs:(n00 (.str "0")&&decide (deep (.str "0")<=39))=true:=by decide +kernel
  show List.all [D.int w,.int m,.int (-1),.bl true,.non,.str "0",.tup [.int 0],.bl false,.int ((10:Int) ^ (29:Int).toNat),.int 0] (λx=>n00 x&&decide (deep x<=39))=true
  ¤Õ.mpr λy hy=>?_
  simp only[Â9,À2,or_false] at hy
  rcases hy with rfl | rfl | rfl | rfl | rfl | rfl | rfl | rfl | rfl | rfl
  ·rfl
  ·rfl
  ·rfl
  ·rfl
  ·rfl
  ·§hs
  ·rfl
  ·rfl
  ·rfl
  ·rfl
 ·intro x hx
  ¶⟨l1,e1,c1⟩:=B00 pl none (some (a:Int))
  ¶⟨l2,e2,c2⟩:=B00 pl (some (a:Int)) none
  ¶⟨l3,e3,c3⟩:=B00 pl (some ((a:Int) + 1)) none
  ¶⟨l4,e4,c4⟩:=B00 pl (some (-1)) none
  have t1:z60 .add (.tup (cutD (pl.map a40) none (some (a:Int)))) (.tup [x])=some (.d (.tup (l1.map a40++[x]))):=by rw[e1];§p41 (by rw[É];show _ + 1<=_;omega)
  ¤(a00 t1 ?_ :)
  ¤(a00 (show z60 .add (.tup (l1.map a40++[x])) (.tup (cutD (pl.map a40) (some (a:Int)) none))=some (.d (.tup (l1.map a40++[x]++l2.map a40))) from by rw[e2];§p41 (by rw[R01,É,É];omega)) ?_ :)
  ¤(a00 t1 ?_ :)
  ¤(a00 (show z60 .add (.tup (l1.map a40++[x])) (.tup (cutD (pl.map a40) (some ((a:Int) + 1)) none))=some (.d (.tup (l1.map a40++[x]++l3.map a40))) from by rw[e3];§p41 (by rw[R01,É,É];omega)) ?_ :)
  ¤(a00 (show z60 .add (.tup (cutD (pl.map a40) none (some (a:Int)))) (.tup (cutD (pl.map a40) (some ((a:Int) + 1)) none))=some (.d (.tup (l1.map a40++l3.map a40))) from by rw[e1,e3];§p41 (by rw[É,É];omega)) ?_ :)
  ¤(a00 (show z60 .add (.tup (pl.map a40)) (.tup (cutD (pl.map a40) (some (-1)) none))=some (.d (.tup (pl.map a40++l4.map a40))) from by rw[e4];§p41 (by rw[É,É];omega)) ?_ :)
  ¤(e30 k 11 hz3 (by decide) (by decide)).imp λs z4 ⟨hz4,u,e,u1⟩=>?_
  subst e
  ¤(E11 (L:=[.tup (l1.map a40++[x]++l2.map a40),.tup (l1.map a40++[x]++l3.map a40),.tup (l1.map a40++l3.map a40),.lst (pl.map a40),.tup (pl.map a40).reverse,.tup (pl.map a40++l4.map a40),.non,.dct,.int 0,.tup [.tup (pl.map a40)],.tup []]) (n:=u) S41 ?_ ?_ ?_ :)
  ·show u < 11
   omega
  ·rw[← Ç5,← Ç5,← List.map_reverse]
   simp only[Ã9,all_nil,Ñ2,Á]
   ¤⟨d91 (by omega) (by omega) hx,d91 (by omega) (by omega) hx,P20 (by rw[Á9];omega),rfl,P20 (by rw[Ì0];omega),P20 (by rw[Á9];omega),rfl,rfl,rfl,d91 (a:=[]) (b:=[]) (by decide) (by decide) (G91 pl),rfl⟩
  ·§λy hy=>⟨hz4,y,rfl,hy⟩
÷X60(k:Nat)(hz:ZI z):W (b40 T (k + 4) j90 [.z,.d (.tup [])]) z (λs z1=>ZI z1/\∃ x,s=.d x/\chD x=false) NE:=by
 ¤j32 hz (ps:=2) (ns:=5) (b:=f70) rfl rfl (by decide) ?_
 ¤(e30 k 1 hz (by decide) (by decide)).imp λs z1 ⟨hz1,a,e,a1⟩=>?_
 subst e
 have a0:a=0:=by omega
 subst a0
 ¤(e30 k 13 hz1 (by decide) (by decide)).imp λs z2 ⟨hz2,v,e,v1⟩=>?_
 subst e
 ¤(E11 (n:=v) (λ_=>true) ?_ ?_ ?_ :)
 ·show v < 13
  omega
 ·rfl
 ·intro x hx
  ¤(e30 k 5 hz2 (by decide) (by decide)).imp λs z3 ⟨hz3,u,e,u1⟩=>?_
  subst e
  ¤(E11 (L:=[.tup [x],.tup [.tup [.int 1,.int 2]],.lst [],.non,.dct]) (n:=u) (λx=>!chD x) ?_ ?_ ?_ :)
  ·show u < 5
   omega
  ·rfl
  ·§λy hy=>⟨hz3,y,rfl,by simpa using hy⟩
÷Y01(hB:0 < B)(hE:0 < E):(j70 C E).1 * (j70 A B).2 < (j70 A B).1 * (j70 C E).2↔C * B < A * E:=by
 have h1:=Rt.low (t:=A) hB
 have h2:=Rt.low (t:=C) hE
 generalize j70 A B=v at h1 ⊢
 generalize j70 C E=w at h2 ⊢
 have e1:=h1.eq
 have e2:=h2.eq
 have p1:0 < B * E:=Ï2 hB hE
 have p2:0 < v.2 * w.2:=Ï2 h1.b0 h2.b0
 have k1:(w.1 * v.2) * (B * E)=(C * B) * (v.2 * w.2):=by
  calc (w.1 * v.2) * (B * E)=(w.1 * E) * (v.2 * B):=by grind
   _=(C * B) * (v.2 * w.2):=by rw[e2];grind
 have k2:(v.1 * w.2) * (B * E)=(A * E) * (v.2 * w.2):=by
  calc (v.1 * w.2) * (B * E)=(v.1 * B) * (w.2 * E):=by grind
   _=(A * E) * (v.2 * w.2):=by rw[e1];grind
 constructor
 ·intro h
  ¤à1 (a:=v.2 * w.2) ?_ (Ô3 p2)
  rw[← k1,← k2]
  §Þ9 h p1
 ·intro h
  ¤à1 (a:=B * E) ?_ (Ô3 p1)
  rw[k1,k2]
  §Þ9 h p2
def k72(l:Int):Int:=(if decide (0 < l)=true then 1 else 0) - (if decide (l < 0)=true then 1 else 0)
÷H01(hc:IsC c):∀ j:Nat,0<=amt (λ_=>c) j lot/\amt (λ_=>c) j lot<=2 ^ (10 * j)
 |0=>by show(0:Int)<=1/\(1:Int)<=1;omega
 |j + 1=>by
  ¶⟨h1,h2⟩:=H01 hc (lot:=lot) j
  ¶⟨w1,w2⟩:=hc.w (j∈lot)
  rw[v00]
  ¤⟨Int.mul_nonneg h1 w1,?_⟩
  rw[Nat.mul_add,Int.pow_add]
  §Int.mul_le_mul h2 (by omega) w1 (by have:=Int.le_trans h1 h2;§this)
÷l31(hc:IsC c)(hj:j<=8):(amt (λ_=>c) j lot).natAbs<=2 ^ 90:=by
 ¶⟨h1,h2⟩:=H01 hc (lot:=lot) j
 have h3:(2:Int) ^ (10 * j)<=2 ^ 90:=by
  have:2 ^ (10 * j)<=2 ^ 90:=û (by decide) (by omega)
  exact_mod_cast this
 have:amt (λ_=>c) j lot<=2 ^ 90:=Int.le_trans h2 h3
 omega
÷ab9{v:Int}(h0:0<=v)(h1:v<=1000):v.natAbs<=2 ^ 90:=by
 have e9:1000<=2 ^ 90:=by decide
 omega
section
variable {m m':Int}{ps ps':List (Int × Int)}{pl pl':List Nat}{c:Int × Int}
abbrev P70(m:Int)(ps:List (Int × Int))(pl:List Nat)(c:Int × Int):Int:=I01 (k20 m ps pl) (amt (λ_=>c) ps.length)
÷e01(g:d20 m ps)(hc:IsC c):C82 m ps pl c=j70 (P70 m ps pl c) (c.2 ^ ps.length):=by unfold C82;rw[S11 g hc]
÷H11(g:d20 m ps)(hc:IsC c):(P70 m ps pl c).natAbs<=2 ^ 98:=by
 have:∀ ls:List (List Nat),(I01 ls (amt (λ_=>c) ps.length)).natAbs<=ls.length * 2 ^ 90:=λls=>by
  induction ls with
  |nil=>§Æ1 _
  |cons l r ih =>
   show(amt (λ_=>c) ps.length l + I01 r _).natAbs<=_
   ¤Ñ F81 ?_
   rw[Ü,Nat.add_mul,Nat.one_mul,Nat.add_comm]
   §ß9 ih (l31 hc g.len)
 ¤Ñ (this _) ?_
 rw[show 2 ^ 98=256 * 2 ^ 90 by decide]
 §Nat.mul_le_mul_right _ (I50 g)
÷Y11(g:d20 m ps)(hc:IsC c):Bs 100 (C82 m ps pl c):=by
 have h8:=g.len
 rw[e01 g hc]
 have hb:=j20 hc ps.length
 §.low hb.2 (Ñ (H11 g hc) (by decide)) (Ñ hb.1 (û (by decide) (by omega)))
÷I80(k:Nat)(g:d20 m ps)(hp:g00 m pl)(g':d20 m' ps')(hp':g00 m' pl')(hc:IsC c)(z:Z):b40 T (k + 13) b50 [.d (q80 m ps),.d (.tup (pl.map a40)),.d (q80 m' ps'),.d (.tup (pl'.map a40)),.d (pr c)] z=some (.ok (.d (.int (k72 (P70 m ps pl c * c.2 ^ ps'.length - P70 m' ps' pl' c * c.2 ^ ps.length)))) z):=by
 have hb:=(j20 hc ps.length).2
 have hb':=(j20 hc ps'.length).2
 have b1:=Y11 g hc (pl:=pl)
 have b2:=Y11 g' hc (pl:=pl')
 have l1:=Y01 (A:=P70 m ps pl c) (C:=P70 m' ps' pl' c) hb hb'
 have l2:=Y01 (A:=P70 m' ps' pl' c) (C:=P70 m ps pl c) hb' hb
 rw[← e01 g hc,← e01 g' hc] at l1 l2
 ¤W.ok (g60 (ps:=5) (ns:=7) (b:=d40) rfl rfl (by decide) (Wo (v70 (k + 3) g hp g' hp' z) (Wo (F70 k g hp hc z) (Wo (F70 k g' hp' hc z) (Wo (I30 (k + 9) b2 b1 (by decide) z) ?_)))))
 generalize P70 m ps pl c=A at l1 l2 ⊢
 generalize P70 m' ps' pl' c=C at l1 l2 ⊢
 generalize c.2 ^ ps.length=B at l1 l2 ⊢
 generalize c.2 ^ ps'.length=E at l1 l2 ⊢
 ¤ib (b:=decide _) (λh=>?_) λh=>?_
 ·have h:=l1.mp (of_decide_eq_true h)
  ¤sd ?_
  unfold k72
  rw[decide_eq_true (by omega:0 < A * E - C * B),decide_eq_false (by omega:¬ A * E - C * B < 0)];rfl
 ·have h:¬ C * B < A * E:=λq=>of_decide_eq_false h (l1.mpr q)
  ¤Wo (I30 (k + 9) b1 b2 (by decide) z) ?_
  ¤ib (b:=decide _) (λh'=>?_) λh'=>?_
  ·have h':=l2.mp (of_decide_eq_true h')
   ¤sd ?_
   unfold k72
   rw[decide_eq_false (by omega:¬ 0 < A * E - C * B),decide_eq_true (by omega:A * E - C * B < 0)];rfl
  ·have h':¬ A * E < C * B:=λq=>of_decide_eq_false h' (l2.mpr q)
   ¤sd ?_
   unfold k72
   rw[decide_eq_false (by omega:¬ 0 < A * E - C * B),decide_eq_false (by omega:¬ A * E - C * B < 0)];rfl
÷H21(k:Nat)(hw:q31 w=false)(z:Z):b40 T (k + 13) b50 [.d w,.d y,.d w',.d y',.d x] z=some (.er 0 z) :=
 W.er (g60 (ps:=5) (ns:=7) (b:=d40) rfl rfl (by decide) (We (W.er (g60 (k:=k + 9) (ps:=4) (ns:=4) (b:=e20) rfl rfl (by decide) (We (y50 (k + 3) z hw) ⟨rfl,c30 z⟩))) ⟨rfl,c30 z⟩))
÷p81(k:Nat)(g:d20 m ps)(hw:q31 w'=false)(z:Z):b40 T (k + 13) b50 [.d (q80 m ps),.d y,.d w',.d y',.d x] z=some (.er 0 z) :=
 W.er (g60 (ps:=5) (ns:=7) (b:=d40) rfl rfl (by decide) (We (W.er (g60 (k:=k + 9) (ps:=4) (ns:=4) (b:=e20) rfl rfl (by decide) (Wo (c50 (k + 3) z g.web) (We (y50 (k + 3) z hw) ⟨rfl,c30 z⟩)))) ⟨rfl,c30 z⟩))
÷H31(k:Nat)(g:d20 m ps)(g':d20 m' ps')(hy:H91 m y=false)(hs:short y=true)(z:Z):b40 T (k + 13) b50 [.d (q80 m ps),.d y,.d (q80 m' ps'),.d y',.d x] z=some (.er 2 z) :=
 W.er (g60 (ps:=5) (ns:=7) (b:=d40) rfl rfl (by decide) (We (W.er (g60 (k:=k + 9) (ps:=4) (ns:=4) (b:=e20) rfl rfl (by decide) (Wo (c50 (k + 3) z g.web) (Wo (c50 (k + 3) z g'.web) (We (p10 (k + 5) (t:=.tup (ps.map pr)) z hy hs) ⟨rfl,c30 z⟩))))) ⟨rfl,c30 z⟩))
÷p91(k:Nat)(g:d20 m ps)(hp:g00 m pl)(g':d20 m' ps')(hy:H91 m' y'=false)(hs:short y'=true)(z:Z):b40 T (k + 13) b50 [.d (q80 m ps),.d (.tup (pl.map a40)),.d (q80 m' ps'),.d y',.d x] z=some (.er 2 z):=by
 have h6:=hp.len g.m6
 §W.er (g60 (ps:=5) (ns:=7) (b:=d40) rfl rfl (by decide) (We (W.er (g60 (k:=k + 9) (ps:=4) (ns:=4) (b:=e20) rfl rfl (by decide) (Wo (c50 (k + 3) z g.web) (Wo (c50 (k + 3) z g'.web) (Wo (d30 (k + 5) (t:=.tup (ps.map pr)) z hp.pls (decide_eq_true (by rw[É];omega))) (We (p10 (k + 5) (t:=.tup (ps'.map pr)) z hy hs) ⟨rfl,c30 z⟩)))))) ⟨rfl,c30 z⟩))
÷H41(k:Nat)(g:d20 m ps)(hp:g00 m pl)(g':d20 m' ps')(hp':g00 m' pl')(hx:chD x=false)(z:Z):b40 T (k + 13) b50 [.d (q80 m ps),.d (.tup (pl.map a40)),.d (q80 m' ps'),.d (.tup (pl'.map a40)),.d x] z=some (.er 5 z) :=
 W.er (g60 (ps:=5) (ns:=7) (b:=d40) rfl rfl (by decide) (Wo (v70 (k + 3) g hp g' hp' z) (We (p61 k g hp hx z) ⟨rfl,c30 z⟩)))
abbrev atE(m:Int)(ps:List (Int × Int))(pl:List Nat)(c:Int × Int)(v5 v6:Int)(o7 o8 o9:Option S):Env:=[some (.d (q80 m ps)),some (.d (.tup (pl.map a40))),some (.d (pr c)),some (.d (.int c.1)),some (.d (.int c.2)),some (.d (.int v5)),some (.d (.int v6)),o7,o8,o9]
÷X70(k:Nat)(g:d20 m ps)(hp:g00 m pl)(hc:IsC c)(z:Z):b40 T (k + 5) E60 [.d (q80 m ps),.d (.tup (pl.map a40)),.d (pr c)] z=some (.ok (.d (pr (P70 m ps pl c,c.2 ^ ps.length))) z):=by
 have h8:=g.len
 ¤W.ok (g60 (ps:=3) (ns:=10) (b:=E90) rfl rfl (by decide) ?_)
 ¤(a00 (d01 (n:=(ps.map pr).length) (by rw[É];omega)) ?_ :)
 ¤w70 (λxs ρ z1=>z1=z/\∃ (j r:Nat) (o7:Option S),j + r=ps.length/\xs=(Â8 j r).map a40/\ρ=atE m ps pl c 0 (c.2 ^ j) o7 none none) _ ⟨rfl,0,ps.length,none,Î9 _,by rw[É],by rw[Ð2];rfl⟩ ?_ ?_
 ·rintro x r ρ z1 ⟨rfl,j,r',o7,hj,e,rfl⟩
  cases r' with
  |zero=>cases e
  |succ r' =>
   rw[Â0] at e
   cases e
   ¤(a00 (F30 (n:=90) (by decide) (Ñ (j20 hc j).1 (û (by decide) (by omega))) (Ñ hc.s.b (by decide))) ?_ :)
   §⟨rfl,j + 1,r',_,by omega,rfl,by rw[Ã5];rfl⟩
 ·rintro ρ z1 ⟨rfl,j,r',o7,hj,e,rfl⟩
  cases r' with
  |succ r'=>rw[Â0] at e;cases e
  |zero =>
   have hj:j=ps.length:=hj
   subst hj
   ¤Wo (X20 (k + 1) (m:=m) (ts:=ps.map pr) (by rw[É];§h8) z1) ?_
   rw[É]
   ¤w70 (λxs ρ z2=>z2=z1/\∃ (rest:List (List Nat)) (v5:Int) (o7 o8 o9:Option S),xs=rest.map s10/\(∀ l∈rest,l∈x40 ps.length)/\v5 + I01 (rest.filter (F10 ps m.toNat pl)) (amt (λ_=>c) ps.length)=P70 m ps pl c/\ρ=atE m ps pl c v5 (c.2 ^ ps.length) o7 o8 o9) _ ⟨rfl,x40 ps.length,0,_,_,_,rfl,λ_ h=>h,Ô1 _,rfl⟩ ?_ ?_
   ·rintro x r ρ z2 ⟨rfl,rest,v5,o7,o8,o9,e,hr,hv,rfl⟩
    cases rest with
    |nil=>cases e
    |cons l rest =>
     cases e
     have hl:=hr l Ì
     ¤Wo (X10 k g hp (E71 h8 hl) z2) ?_
     ¤ib (b:=F10 ps m.toNat pl l) (λhg=>?_) λhg=>?_
     ·¤(a00 (d01 (n:=(ps.map pr).length) (by rw[É];omega)) ?_ :)
      ¤w70 (λxs ρ z3=>z3=z2/\∃ (j r:Nat) (o7:Option S),j + r=ps.length/\xs=(Â8 j r).map a40/\ρ=atE m ps pl c v5 (c.2 ^ ps.length) o7 (some (.d (s10 l))) (some (.d (.int (amt (λ_=>c) j l))))) _ ⟨rfl,0,ps.length,_,Î9 _,by rw[É],rfl⟩ ?_ ?_
      ·rintro x r ρ z3 ⟨rfl,j,r',o7,hj,e,rfl⟩
       cases r' with
       |zero=>cases e
       |succ r' =>
        rw[Â0] at e
        cases e
        ¤(a00 (O60 (n:=j) (l:=l)) ?_ :)
        have hw:=hc.w (j∈l)
        have st:∀ v:Int,v=(if j∈l then c.1 else c.2 - c.1)->Get (z60 .mul (.int (amt (λ_=>c) j l)) (.int v)) λs=>s=S.d (.int (amt (λ_=>c) (j + 1) l)):=λv ev=>by
         ¤a00 (F30 (n:=90) (by decide) (l31 hc (by omega)) (ab9 (by rw[ev];§hw.1) (by rw[ev];§hw.2))) ?_
         rw[v00,ev]
        ¤ib (b:=decide (j∈l)) (λh=>?_) λh=>?_
        ·¶⟨s,e1,rfl⟩:=h40 (st c.1 (if_pos (of_decide_eq_true h)).symm)
         ¤(a00 e1 ?_ :)
         §⟨rfl,j + 1,r',_,by omega,rfl,rfl⟩
        ·¶⟨s,e1,rfl⟩:=h40 (st (c.2 - c.1) (if_neg (of_decide_eq_false h)).symm)
         ¤(a00 e1 ?_ :)
         §⟨rfl,j + 1,r',_,by omega,rfl,rfl⟩
      ·rintro ρ z3 ⟨rfl,j,r',o7,hj,e,rfl⟩
       cases r' with
       |succ r'=>rw[Â0] at e;cases e
       |zero =>
        have hj:j=ps.length:=hj
        subst hj
        ¤⟨rfl,rest,v5 + amt (λ_=>c) ps.length l,_,_,_,rfl,λl' h'=>hr l' (È _ h'),?_,rfl⟩
        rw[Ñ9,if_pos hg] at hv
        rw[← hv]
        show _=v5 + (amt (λ_=>c) ps.length l + I01 _ _)
        omega
     ·¤⟨rfl,rest,v5,_,_,_,rfl,λl' h'=>hr l' (È _ h'),?_,rfl⟩
      rw[Ñ9,if_neg (by rw[hg];decide)] at hv
      §hv
   ·rintro ρ z2 ⟨rfl,rest,v5,o7,o8,o9,e,hr,hv,rfl⟩
    cases rest with
    |cons l rest=>cases e
    |nil =>
     ¤sd ?_
     rw[← hv]
     show S.d (.tup [.int v5,.int (c.2 ^ ps.length)])=S.d (.tup [.int (v5 + 0),.int (c.2 ^ ps.length)])
     rw[add_zero]
abbrev lE(ns:List Int)(j:Nat)(m m':Int)(ps ps':List (Int × Int))(pl pl':List Nat)(o7 o8 o9 o10 o11 o12 o13 o14:Option S):Env:=[some (.d (.lst (ns.map D.int))),some (.d (.int j)),some .z,some (.d (q80 m ps)),some (.d (q80 m' ps')),some (.d (.tup (pl.map a40))),some (.d (.tup (pl'.map a40))),o7,o8,o9,o10,o11,o12,o13,o14]
abbrev bIn(n:Nat):Sm:=match Q71 with
 |.seq (.fr _ _ _ b) _=>Nat.rec b (λ_ r=>tl r) n
 |_=>.nil
÷k82(l:Int):0 - k72 l=k72 (-l):=by
 unfold k72
 by_cases h1:0 < l
 ·rw[decide_eq_true h1,decide_eq_false (by omega:¬ l < 0),decide_eq_false (by omega:¬ 0 < -l),decide_eq_true (by omega:-l < 0)];rfl
 ·by_cases h2:l < 0
  ·rw[decide_eq_false h1,decide_eq_true h2,decide_eq_true (by omega:0 < -l),decide_eq_false (by omega:¬ -l < 0)];rfl
  ·rw[decide_eq_false h1,decide_eq_false h2,decide_eq_false (by omega:¬ 0 < -l),decide_eq_false (by omega:¬ -l < 0)];rfl
÷Z12:IsC (1,2):=⟨by decide,by decide,by decide,by decide,by decide⟩
÷S71(k:Nat)(g:d20 m ps)(hp:g00 m pl)(g':d20 m' ps')(hp':g00 m' pl')(hz:ZI z)
  (q:∀ (z:Z) (o7 o8 o9 o10 o11 o12 o13 o14:Option S),ZI z->WS (T30 T (k + 37 + 2)) true (bIn 4) (lE ns j m m' ps ps' pl pl' o7 o8 o9 o10 o11 o12 o13 o14) z Q E) :
  WS (T30 T (k + 37 + 2)) true (bIn 3) (lE ns j m m' ps ps' pl pl' o7 o8 o9 o10 o11 o12 o13 o14) z Q E:=by
 ¤(W10 (k + 35) hz).imp λs z1 ⟨hz1,c,e,hc⟩=>?_
 subst e
 ¤w70 (λxs ρ z2=>z2=z1/\(∀ x∈xs,∃ d,x=pr d/\IsC d)/\∃ (o7 o8 o9 o10 o11 o12 o13 o14:Option S),ρ=lE ns j m m' ps ps' pl pl' o7 o8 o9 o10 o11 o12 o13 o14) _ ⟨rfl,λx hx=>?_,_,_,_,_,_,_,_,_,(itE (by rfl)).trans rfl⟩ ?_ ?_
 ·have hx:x∈[pr c,pr (1,2),pr (0,1)]:=hx
  simp only[Â9,À2,or_false] at hx
  rcases hx with rfl | rfl | rfl
  ·§⟨c,rfl,hc⟩
  ·§⟨_,rfl,Z12⟩
  ·§⟨_,rfl,Z02⟩
 ·rintro x r ρ z2 ⟨rfl,hx,o7,o8,o9,o10,o11,o12,o13,o14,rfl⟩
  ¶⟨d,rfl,hd⟩:=hx x Ì
  have hB:=j20 hd ps.length
  have hE:=j20 hd ps'.length
  have h8:=g.len
  have h8':=g'.len
  have pB:(d.2 ^ ps.length).natAbs<=2 ^ 98:=Ñ hB.1 (û (by decide) (by omega))
  have pE:(d.2 ^ ps'.length).natAbs<=2 ^ 98:=Ñ hE.1 (û (by decide) (by omega))
  ¤Wo (X70 (k + 34) g hp hd z2) (Wo (X70 (k + 34) g' hp' hd z2) ?_)
  have c1:=I80 (k + 26) g hp g' hp' hd z2
  have c2:=I80 (k + 26) g' hp' g hp hd z2
  have t1:=H11 g hd (pl:=pl)
  have t2:=H11 g' hd (pl:=pl')
  rw[show P70 m' ps' pl' d * d.2 ^ ps.length - P70 m ps pl d * d.2 ^ ps'.length=-(P70 m ps pl d * d.2 ^ ps'.length - P70 m' ps' pl' d * d.2 ^ ps.length) from by omega,← k82] at c2
  generalize P70 m ps pl d=A at c1 c2 t1 ⊢
  generalize P70 m' ps' pl' d=C at c1 c2 t2 ⊢
  generalize d.2 ^ ps.length=B at c1 c2 pB ⊢
  generalize d.2 ^ ps'.length=F at c1 c2 pE ⊢
  ¤(a00 (F30 (n:=98) (i:=A) (j:=F) (by decide) t1 pE) ?_ :)
  ¤(a00 (F30 (n:=98) (i:=C) (j:=B) (by decide) t2 pB) ?_ :)
  ¤Wo c1 (Wo (G11 0 (k + 36) (.int _) z2 rfl) (Wo c2 (Wo (G11 0 (k + 36) (.int _) z2 rfl) ?_)))
  §⟨rfl,λx hx'=>hx x (È _ hx'),_,_,_,_,_,_,_,_,rfl⟩
 ·rintro ρ z2 ⟨rfl,_,o7,o8,o9,o10,o11,o12,o13,o14,rfl⟩
  §q _ _ _ _ _ _ _ _ _ hz1
÷S81(k:Nat)(g:d20 m ps)(hp:g00 m pl)(g':d20 m' ps')(hp':g00 m' pl')(hw:q31 bw=false)(hc:chD bc=false)(hx:S41 x=true)
  (q:∀ (z:Z) (o7 o8 o9 o10 o11 o12 o13 o14:Option S),Q (.nx (lE ns j m m' ps ps' pl pl' o7 o8 o9 o10 o11 o12 o13 o14)) z) :
  WS (T30 T (k + 37 + 2)) true (bIn 6) (lE ns j m m' ps ps' pl pl' o7 o8 o9 o10 o11 (some (.d bw)) (some (.d bc)) (some (.d x))) z Q E:=by
 have hs:=p71 hx
 ¤We (H21 (k + 24) hw z) ?_
 ¤We (p81 (k + 24) g hw z) ?_
 ¤We (H41 (k + 24) g hp g' hp' hc z) ?_
 ¶⟨b,hb,b0,b1⟩:=S61 (k + 35) g.m6 hx z
 ¤Wo hb ?_
 have bad:H91 m x=false->WS (T30 T (k + 37 + 2)) true (match bIn 9 with | .seq (.iff _ t _) _=>t | _=>.nil) (lE ns j m m' ps ps' pl pl' o7 o8 o9 o10 o11 (some (.d bw)) (some (.d bc)) (some (.d x))) z Q E:=λhpl=>by
  ¤We (H31 (k + 24) g g' hpl hs z) ?_
  ¤We (p91 (k + 24) g' hp' g hpl hs z) ?_
  §q _ _ _ _ _ _ _ _ _
 cases b with
 |false=>§bad (b0 rfl)
 |true =>
  ¶⟨l,rfl⟩:=b1 rfl
  have eq:A20 .eq (.tup l) (.tup [])=some l.isEmpty:=by
   show eqQ (.tup l) (.tup [])=_
   unfold eqQ
   split
   ·cases l <;> rfl
   ·rfl
  ¤(a00 eq ?_ :)
  ¤ib (b:=l.isEmpty) (λh=>?_) λh=>?_
  ·§bad (by cases l with | nil=>rfl | cons _ _=>cases h)
  ·§q _ _ _ _ _ _ _ _ _
end
abbrev C92(L:Int):Int:=if (if (4:Int) < L then 4 else L) > 1 then(if (4:Int) < L then 4 else L) else 1
÷B42(k:Nat)(ns:List Int):b40 T (k + 40) z82 [.d (.lst (ns.map D.int))] none=some (.ok (.d (.bl true)) none):=by
 ¤W.ok (g60 (k:=k + 37) (ps:=1) (ns:=15) (b:=Q71) rfl rfl (by decide) ?_)
 have hN:0<=C92 ((ns.map D.int).length:Int)/\C92 ((ns.map D.int).length:Int) < 100000:=by
  unfold C92
  split <;> (try split) <;> omega
 ¤(a00 (V50 (m:=C92 ((ns.map D.int).length:Int)) hN.1 hN.2) ?_ :)
 ¤w70 (λxs ρ z=>(∀ x∈xs,∃ j:Nat,x=.int j)/\∃ o1 o2 o3 o4 o5 o6 o7 o8 o9 o10 o11 o12 o13 o14:Option S,ρ=[some (.d (.lst (ns.map D.int))),o1,o2,o3,o4,o5,o6,o7,o8,o9,o10,o11,o12,o13,o14]) _ ⟨λx hx=>?_,_,_,_,_,_,_,_,_,_,_,_,_,_,_,rfl⟩ ?_ ?_
 ·¶⟨i,_,rfl⟩:=Ú.mp hx
  §⟨i,rfl⟩
 ·rintro x r ρ z1 ⟨hx,o1,o2,o3,o4,o5,o6,o7,o8,o9,o10,o11,o12,o13,o14,rfl⟩
  ¶⟨j,rfl⟩:=hx x Ì
  ¶⟨sn,sb,hz1,hst⟩:=Q81 (k + 35) ns j z1
  ¤Wo hst ?_
  have hj:(if ((j:Int) == 0)=true then(1:Int) else 0)=0∨(if ((j:Int) == 0)=true then(1:Int) else 0)=1:=by
   split
   ·§.inr rfl
   ·§.inl rfl
  ¤(a00 (c81 (i:=2) (j:=if ((j:Int) == 0)=true then(1:Int) else 0) (by decide) (by rcases hj with h | h <;> rw[h] <;> decide)) ?_ :)
  ¤(e30 (k + 36) 2 hz1 (by decide) (by decide)).imp λs z2 ⟨hz2,v,e,v1⟩=>?_
  subst e
  ¶⟨y,ey,hy⟩:=F00 (L:=[D.int 6,.int (6 + 2 * (if ((j:Int) == 0)=true then(1:Int) else 0))]) (n:=v) (btw 0 8) (by simp only[Ü,Á0];omega) (by
   simp only[Ã9,all_nil,Ñ2,Á]
   §⟨by decide,N52 (by omega) (by omega)⟩)
  ¶⟨mo,rfl,mo0,mo8⟩:=D91 hy
  ¤(a00 (o91 ey) ?_ :)
  ¤(V90 (k + 34) hz2 mo0 mo8).imp λs z3 ⟨hz3,m,ps,e,g,_⟩=>?_
  subst e
  ¤(V90 (k + 34) hz3 (by decide) (by decide)).imp λs z4 ⟨hz4,m',ps',e,g',_⟩=>?_
  subst e
  ¤(y80 (k + 35) (t:=.tup (ps.map pr)) g.m1 g.m6 hz4).imp λs z5 ⟨hz5,pl,e,hp⟩=>?_
  subst e
  ¤(y80 (k + 35) (t:=.tup (ps'.map pr)) g'.m1 g'.m6 hz5).imp λs z6 ⟨hz6,pl',e,hp'⟩=>?_
  subst e
  ¤(S71 k g hp g' hp' hz6 λz7 o7 o8 o9 o10 o11 o12 o13 o14 hz7=>?_ :)
  ¤(E21 (k + 35) hz7).imp λs z8 ⟨hz8,bw,e,hbw⟩=>?_
  subst e
  ¤(X60 (k + 35) hz8).imp λs z9 ⟨hz9,bc,e,hbc⟩=>?_
  subst e
  ¤(P30 (k + 35) g.m1 g.m6 (hp.len g.m6) hz9).imp λs z10 ⟨hz10,x,e,hox⟩=>?_
  subst e
  §S81 k g hp g' hp' hbw hbc hox λ_ _ _ _ _ _ _ _ _=>⟨λx hx'=>hx x (È _ hx'),_,_,_,_,_,_,_,_,_,_,_,_,_,_,rfl⟩
 ·rintro ρ z1 ⟨_,o1,o2,o3,o4,o5,o6,o7,o8,o9,o10,o11,o12,o13,o14,rfl⟩
  §⟨rfl,rfl⟩
÷pure:∀ ns:List Int,ns.length<=63->b40 (tabOf rows) 40 z82 [.d (.lst (ns.map D.int))] none=some (.ok (.d (.bl true)) none):=λns _=>by
 rw[Y82]
 §B42 0 ns
end K3
namespace K3
open PySem L2 Q
÷ok:rows.all (l62 (G40 rows) nums)=true:=by decide +kernel
÷bd:o60 rows:=⟨λ_ _ _ _ _ _ us hl=>by ¶⟨_,_,rfl⟩:=us2 hl;rfl,
 λ_ _ _ _ _ _ us hl=>by ¶⟨_,_,rfl⟩:=us2 hl;rfl,
 λ_ _ _ _ _ _ us hl=>by ¶⟨_,_,rfl⟩:=us2 hl;rfl,
 λ_ _ _ _ _ _ us hl=>by ¶⟨_,_,rfl⟩:=us2 hl;rfl,
 λ_ _ _ _ _ _ us hl=>by ¶⟨_,_,rfl⟩:=us2 hl;rfl,
 λ_ _ _ _ _ _ us hl=>by ¶⟨_,rfl⟩:=us1 hl;rfl,
 λ_ _ _ _ _ _ us hl=>by ¶⟨_,_,rfl⟩:=us2 hl;rfl,
 λ_ _ _ _ _ _ us hl=>by ¶⟨_,_,rfl⟩:=us2 hl;rfl,
 λ_ _ _ _ _ _ us hl=>by ¶⟨_,_,rfl⟩:=us2 hl;rfl,
 λ_ _ _ _ _ _ us hl=>by ¶⟨_,rfl⟩:=us1 hl;rfl,
 λ_ _ _ _ _ _ us hl=>by ¶⟨_,rfl⟩:=us1 hl;rfl,
 λ_ _ _ _ _ _ us hl=>by ¶⟨_,_,rfl⟩:=us2 hl;rfl,
 λ_ _ _ _ _ _ us hl=>by ¶⟨_,rfl⟩:=us1 hl;rfl,
 λ_ _ _ _ _ _ us hl=>by ¶⟨_,_,rfl⟩:=us2 hl;rfl,
 λ_ _ _ _ _ _ us hl=>by ¶⟨_,_,rfl⟩:=us2 hl;rfl,
 λ_ _ _ _ _ _ us hl=>by ¶⟨_,_,_,rfl⟩:=us3 hl;rfl,
 λ_ _ _ _ _ _ us hl=>by ¶⟨_,rfl⟩:=us1 hl;rfl,
 λ_ _ _ _ _ _ us hl=>by ¶⟨_,rfl⟩:=us1 hl;rfl,
 λ_ _ _ _ _ _ us hl=>by ¶⟨_,rfl⟩:=us1 hl;rfl,
 λ_ _ _ _ _ _ us hl=>by ¶⟨_,_,rfl⟩:=us2 hl;rfl,
 λ_ _ _ _ _ _ us hl=>by ¶⟨_,_,rfl⟩:=us2 hl;rfl,
 λ_ _ _ _ _ _ us hl=>by ¶⟨_,_,_,_,rfl⟩:=us4 hl;rfl,
 λ_ _ _ _ _ _ us hl=>by ¶⟨_,_,rfl⟩:=us2 hl;rfl,
 λ_ _ _ _ _ _ us hl=>by ¶⟨_,_,_,rfl⟩:=us3 hl;rfl,
 λ_ _ _ _ _ _ us hl=>by ¶⟨_,_,_,_,_,rfl⟩:=us5 hl;rfl,
 λ_ _ _ _ _ _ us hl=>by ¶⟨_,_,rfl⟩:=us2 hl;rfl,
 λ_ _ _ _ _ _ us hl=>by ¶⟨_,_,rfl⟩:=us2 hl;rfl,
 λ_ _ _ _ _ _ us hl=>by ¶⟨_,_,rfl⟩:=us2 hl;rfl,
 λ_ _ _ _ _ _ us hl=>by ¶⟨_,_,rfl⟩:=us2 hl;rfl,
 λ_ _ _ _ _ _ us hl=>by ¶⟨_,_,rfl⟩:=us2 hl;rfl,
 λ_ _ _ _ _ _ us hl=>by ¶⟨_,_,rfl⟩:=us2 hl;rfl,
 λ_ _ _ _ _ _ us hl=>by ¶⟨_,rfl⟩:=us1 hl;rfl,
 λ_ _ _ _ _ _ us hl=>by ¶⟨_,_,_,rfl⟩:=us3 hl;rfl,
 λ_ _ _ _ _ _ us hl=>by ¶⟨_,_,_,rfl⟩:=us3 hl;rfl,
 λ_ _ _ _ _ _ us hl=>by ¶⟨_,rfl⟩:=us1 hl;rfl,
 λ_ _ _ _ _ _ us hl=>by ¶⟨_,rfl⟩:=us1 hl;rfl,
 λ_ _ _ _ _ _ us hl=>by ¶⟨_,_,rfl⟩:=us2 hl;rfl,
 λ_ _ _ _ _ _ us hl=>by ¶⟨_,_,_,rfl⟩:=us3 hl;rfl,
 λ_ _ _ _ _ _ us hl=>by ¶⟨_,_,rfl⟩:=us2 hl;rfl,
 λ_ _ _ _ _ _ us hl=>by ¶⟨_,rfl⟩:=us1 hl;rfl,
 λ_ _ _ _ _ _ us hl=>by ¶⟨_,_,rfl⟩:=us2 hl;rfl,
 λ_ _ _ _ _ _ us hl=>by ¶⟨_,_,_,rfl⟩:=us3 hl;rfl,
 λ_ _ _ _ _ _ us hl=>by ¶⟨_,rfl⟩:=us1 hl;rfl,trivial⟩
÷hR:y62 rows ["law"] [("_law_refused",top 64)]:=λr hr hlm=>by
 have h:=Õ.mp (show rows.all (λr=>!r.lm || (["law"]:List Str).contains r.nm)=true from by decide +kernel) r hr
 rw[hlm] at h
 §⟨Ì4.mp h,top 64,250,.head _,rfl,rfl,λ_ _ _ _ _ _ us hl=>by ¶⟨_,rfl⟩:=us1 hl;rfl⟩
def asks:n50:=H50 rows nums ["law"] [("_law_refused",top 64)]
def prg:Program:=ö
def vq:Program:=view prg [66]
def loose:List Str:=prg.boundNames.filter λx=>!(x == ("law":Str))
def runL(w:è)(os:OsState):=(D90 PySem.W.through (PySem.W.stepOk 11 (some (.ref 6))) (PySem.W.stepT (denote treeTable) prg w) 20000 (i32 w os) (PySem.W.topStub prg)).map (λs =>
   (PySem.W.staticsOk (Ï4 prg.main.body) (PySem.W.boot_heap w.params) s.abs.heap&&PySem.W.namesBound prg s.abs.heap&&PySem.W.gensDone s.abs&&PySem.W.laidKept (PySem.W.boot_heap w.params) s.abs.heap,
    PySem.W.openSeen vq loose (Ï4 prg.main.body) (λ_=>true) true s.abs,asks.obs s.abs))
def runR(w:è):=some (true,PySem.W.openGood vq loose,asks.due w)
def _root_.PySem.W.Fast.tw5184847585052337573:PySem.Program:=ö
÷_root_.PySem.W.Fast.te5184847585052337573:ö=PySem.W.Fast.tw5184847585052337573:=rfl
÷twins:(λ(_:runL=runL/\runR=runR)=>true) ⟨rfl,rfl⟩=true:=by k_qdec
÷run_eq:∀ (w:è) (os:OsState),PySem.W.Fast.tw14075725262101462980 w os=PySem.W.Fast.tw18139657281711212703 w:=λw os=>by kernel_rfl
÷left:PySem.W.LeftO ö vq loose (λ_=>true) asks.hook.obs asks.hook.val 20000:=i42 (by kernel_rfl) rfl (λ_=>by kernel_rfl) λw os =>
 (congrFun (congrFun PySem.W.Fast.te14075725262101462980 w) os).trans ((run_eq w os).trans (congrFun PySem.W.Fast.te18139657281711212703 w).symm)
end K3
open PySem PySem.W PyProof.Rows
set_option maxRecDepth 100000 in
set_option maxHeartbeats 0 in
theorem PySem.Challenge.cw_tiechances_k82_which_is_greater_holds : PySem.Challenge.rw_tiechances_k82_which_is_greater.Holds := by
 w_on;o_law
 ¤holds_open (q:=K3.vq) (loose:=K3.loose) (Xt:=λ_=>true) (XP:=λ_ _=>True) (Yf:=K3.asks.hook.obs) (Ya:=K3.asks.hook.val) (YP:=K3.asks.hook.says) K3.left K3.asks.hook.of K3.asks.hook.keeps (λ_ _=>trivial) (λ_ _ _ _ _=>trivial) (by rfl) (by rfl) (by rfl) (λs _=>recFacts_of rfl) rfl (by first | assumption | decide +kernel) (by decide +kernel) ⟨rfl,rfl,rfl,rfl,rfl,by decide +kernel⟩ ?hw ?hc
 case hw=>w_witness2
 case hc=>§Q.Q51 (l:=PySem.Challenge.rw_tiechances_k82_which_is_greater) (n:=63) (k:=40) (x:="_law_script") rfl (by decide) rfl ⟨rfl,by decide,by decide⟩ (Q.i82 (k:=37) (iL:=42) K3.ok K3.bd rfl rfl rfl (by decide) K3.hR K3.pure)