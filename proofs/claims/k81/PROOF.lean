import PyProof.Rows.All
import Wide.All
import OpenK.AllK
import Wide.FinOn
import Lean
import PyProof.EqAt
import PyProof.EqKinds
import PyProof.TupleCall
import KE.KSortTup
import OpenK.KRaise
import OpenK.KOwn
import PyProof.ExcBaseAll.ValueError
import KE.KIsAll
import PyProof.ExcAttrAll.ValueError
import PyProof.NsDelKeeps
import PyProof.RulesAs
import KE.KTryMore
import KE.KLam
import KE.KNestM
import OpenK.KEqL
import PyProof.Rows.EqDataRows
import PyProof.NeKinds
import PyProof.FactsAll.dict
import PyProof.FactsAll.subtypes
import PyProof.ListRange
import PyProof.TupleOfGen
import PyProof.TupleOfSeq
import KE.KTupSum
import PyProof.Rows.SumAny
import PyProof.Rows.SetFrom
import KE.KRevSl
import PyProof.WalksMore
import PyProof.SetRoads
import PySem.Challenge.RW_tiechances_k81_powers_of_one_chance
local syntax "÷÷" "§" "¤" "¶" : term
local macro "§" e:term : tactic => `(tactic| exact $e)
local macro "¤" e:term : tactic => `(tactic| refine $e)
local macro "¶" p:Lean.Parser.Tactic.rcasesPatMed ":=" e:term : tactic => `(tactic| obtain $p := $e)
local macro "÷" d:Lean.Parser.Command.declId s:Lean.Parser.Command.declSig v:Lean.Parser.Command.declVal : command => `(theorem $d $s $v)
local macro_rules
  | `(tactic| omega) => `(tactic| lia)
open PySem renaming wpAny_bind→À,Value→Ä,wpAny_pure→Å,Shared→Æ,Addr→Ç,wpAny→Ï,Expr→Ò,model→Ô,sizeLine→Û,Program→ß,mainGlobals→ã,wpAny_newObj_type→å,World→ç,bootBuiltins→ë,Heap→ì,Around→ø,compareOp→ü,Scope→ý,starEach→þ,Builtin→ÿ,wpAny_call_entry→À5,wpAny_callSpecial?_slot→À6,wpAny_holding→À8,sizeLine_eq→Á3,wpAny_field→Á6,wpAny_mono→Â1,codeAny_builtin→Â2,mem_of_lookup→Â4,wpAny_truthy_bool→Â6,wpAny_setField_rec→Ã0,rawInt→Ã7,binaryOp→Ä2,swappedStores→Ä6,Stmt→Å1,FuncData→Å2,cLine→Å8,Paired→Å9,IsPair→Æ4,wpAny_seqItems→Ç4,wpAny_typeOf→Ç9,wpAny_pyIter_tuple→È0,codeAny_mono→È3,call_meets→È4,wpAny_passesOwn→È6,Env→È9,foldedSetIterable→É3,wpAny_rule→Ê1,assignEach→Ê2,wpAny_attempt→Ë4,NameKind→Ë6,wpAny_Call_Name_kw→Ì0,wpAny_askSetting→Í9,builtinsNs→Î0,Arguments→Î4,plainId_quiet→Î5,codeAny→Î6,wpAny_loadName_local→Î8,sliceBounds→Î9,SetTable→Ï1,wpAny_execs_nil→Ï4,importedModules→Ï5,wpAny_Name→Ñ1,pyNext→Ñ2,isSubtype_type→Ñ6,IsZip→Ò1,wpAny_setState_of→Ó0,getItem→Ó3,wpAny_comprehension_free→Ó6,wpAny_execs_cons→Ô8,swapsWith→Ô9,checkBuiltinCall→Õ1,wpAny_call→Õ8,backTo→Õ9,IsRange→Ö0,wpAny_updateSeq_pair→Ø6,wpAny_runValue→Ø7,seqIndex_of→Ø9,firstArgMember→Ù1,codeAny_call_builtin→Ù2,assign→Ù3,IsPart→Ù4,intKind→Ù6,holding→Ù7,codeAmong→Ù8,wpAny_setEntries_of→Ú4,wpAny_loadName_cell→Ú5,wpAny_standAt→Û4,wpAny_onRaise→Û5,wpAny_newList→Û6,foldedForSure→Û8,typeIs_int→Ü1,intKind_is→Ü2,wpAny_sequenceKey→Ý2,wpAny_pyIter_list→Ý3,callerA→Ý4,Operator→Ý8,GenState→Ý9,wpAny_isInstance→Þ9,pickOrder→ß0,noFill_tuple_add→ß1,TriplesOk→ß3,wpAny_of_eq→ß8,letOwnedTupleGo→à3,codeAny_of_tree→à5,wpAny_newFunctionEnv_cells→à8
open Bool renaming and_eq_true→Á,false_ne_true→Ð,not_eq_true'→À1,false_eq_true→Ã4,true_and→Ä9,or_eq_true→Å6,not_eq_false'→Í4,eq_iff_iff→Í8,false_and→Õ7,and_true→Ö9,not_true→à2
open PySem.W renaming Frag→Â,kas_item→ö,kas_desc→Ã2,kas_place→Ä4,codeHdIn→Ä8,kia_one→Ç1,kas_rev→È1,kas_asc→È2,tabObj→È5,boot_heap→Ê5,excIn→Ì5,kitOne→Î1,kas_descPart→Ð5,kas_sort→Ñ5,nsIn→Ñ9,keepIn→Ó7,kia_tup→Ö5,kas_count→ß2
open PySem.Heap renaming get?_push_of_some→Ã,get?_push_size→Ë,lt_size→à,get?_update_self→Ç8,size_push→Ë5,get?_update_other→Ë8,SameBut→Ë9,IsTuple→Ó4
open List renaming mem_cons_of_mem→È,length_map→É,mem_cons_self→Ì,size_toArray→Ó,all_eq_true→Õ,mem_map→Ö,getD_eq_getElem?_getD→Ø,getElem?_map→Ü,getElem?_eq_some_iff→Ý,length_cons→Þ,getElem?_eq_getElem→æ,mem_of_getElem?→è,mem_singleton→é,getElem?_set_ne→ê,replicate→í,range→î,map_map→ï,mem_append_right→ð,getElem?_set_self→ñ,length_range→ù,mem_cons→ú,range'_succ→û,not_mem_nil→À0,lookup_cons→À9,length_nil→Á1,filterMap_cons→Á4,range'→Á5,length_append→Â0,mem_range→Â5,mem_cons→Â7,map_congr_left→Ã5,mem_append→Ã6,length_set→Ä1,all_cons→Ä5,length_filter_le→Å3,getElem?_append_right→Å4,replicate_succ→Å5,map_cons→Å7,map_append→Æ3,mem_append_left→Æ5,length_take→Æ7,all_eq_true→Æ9,filter_eq_nil_iff→Ç2,range_eq_range'→Ç7,take_of_length_le→È7,pairwise_lt_range→È8,getElem_mem→É2,flatten_cons→É9,getElem?_range→Ê0,zip_cons_cons→Ê6,pairwise_cons→Ë0,getElem?_cons_zero→Ë1,length_reverse→Ì3,contains_iff_mem→Ì7,isEmpty_iff→Ì8,nil_append→Í1,forIn_cons→Í2,lookup→Í3,length_drop→Í6,getElem?_append_left→Ð2,getElem_map→Ñ7,filter_cons→Ñ8,getElem_range→Ò3,getElem?_replicate→Ò5,mem_range→Ó2,nodup_cons→Ô0,reverse_cons→Ô5,append_assoc→Ô7,mem_iff_getElem→Õ3,getElem?_append→Õ4,forIn_nil→Ö6,mem_filterMap→Ø1,getElem?_take→Ø2,getElem?_drop→Ø3,zip_nil_left→Ú0,pairwise_map→Ú1,mem_filter→Ý0,perm_ext_iff_of_nodup→Þ6,drop_eq_getElem_cons→ß6,Pairwise→ß9,length_replicate→á0,getElem?_eq_none→á1
open Option renaming map_eq_some_iff→Ê,bind_eq_some_iff→Î,map→Î7,map_eq_some_iff→Õ0,ne_none_iff_exists'→Ü9,isSome_iff_exists→Þ5
open Nat renaming le_refl→Í,le_trans→Ñ,ne_of_lt→Ù,lt_of_lt_of_le→Ú,pow_le_pow_right→À4,lt_irrefl→Á8,lt_succ_of_lt→Å0,zero_le→Æ6,lt_of_le_of_lt→Ç5,zero_add→É5,le_of_lt→É6,le_add_right→É8,ne_of_gt→Ê7,min_eq_right→Ì1,lt_succ_self→Ì2,max→Ð9,min_eq_left→Ñ3,mul_comm→Ó9,not_lt_zero→Ö1,pow_succ→Ú6,lt_succ_of_le→Ú7,le_of_eq→Ú8,succ_le_succ→Ü6,max_le→ß5,le_mul_of_pos_left→à9
open ForInStep renaming yield→á,done→ä
open PySem.Value renaming none→â,type→Á7,ref→Ã3,int→Æ1,bool→Ï0,builtin→Ð6,notImplemented→Õ2
open PySem.Challenge renaming pw_tiechances_k81_powers_of_one_chance→ò
open PySem.NameKind renaming free→ó,cell→Æ2
open PyProof.Rows renaming slot_tuple_getitem→ô,callWith_type1→Á2,SortSt→Â9,seqObj→Ã1,IntsAre→Ë7,SortKind→Ì9,IsTup→Ï2,envOfC→Ï6,listItems_at→Ð4,AllBare→Ó5,slicePart_none→Ø8,oneType'→Ù0,pendingOf→Ù5,listUpdate_at→Û7,assignInOrder_cons→Ü3,args_tuple_getitem→Ü4,get?_update_seq→à4
open Array renaming getElem?_toList→õ,extract→Æ8,getElem?_eq_getElem→É4,length_toList→Ê8,getD_eq_getD_getElem?→Î3,toArray_toList→Ð1,map_extract→Ñ4,size→Ø0,toList_inj→Û2,map_append→Û3
open PySem.Obj renaming mapSeq→À2
open False renaming elim→À3
open Option.some renaming inj→À7,injEq→Ê3
open PySem.Str renaming ofString→Á0
open Int renaming toNat_natCast→Á9,pow_succ→Ç6,eq_ofNat_of_zero_le→Ë3,eq_of_mul_eq_mul_right→Ð0,emod_eq_of_lt→Ñ0,pow_zero→Ó1,zero_add→Ô1,mul_zero→Ô2,mul_pos→Ô6,emod_nonneg→Ö2,mul_comm→Ú9,le_of_dvd→à6
open Ne renaming symm→Â3
open PySem.Around renaming under_plainId→Â8,frames_deeper→à7
open PySem.Builtin.Range renaming rangeSize→Ã8,small→Ò2
open PySem.AutoSeq1 renaming wpAny_loadPart'→Ã9,wpAny_loadPart'→Ä7,idx_int→Ø5,sub_tuple_tuple→Ý1
open PySem.Builtin renaming iter→Ä0
open PySem.Builtin.List renaming listExtendWith→Ä3,listTooLong→Í7,listSameRef→Ú3
open PySem.Heap.SameBut renaming update→Æ0
open PySem.Builtin.Tuple renaming tupleExact→Ç0
open PyProof.Rows.KeyOrd renaming kle_refl→Ç3,kle_of_klt→Ï9,kle_trans→Ú2
open List.Perm renaming eq_of_pairwise→É0
open PySem.Builtin.Slice renaming slicePlaces→É1,sliceAdjust→Í5,sliceApplied→Ô4
open PySem.F renaming slot_tuple_iterator_next→É7,called_set→Ê4,args_tuple_add_2→Ï7,plainAttrs_list→Ð7,entry_tuple_add→Ð8,slot_tuple_add→Ò0,slot_tuple_lt→Ò8,called_tuple→Ó8,slot_zip_next→Õ5,slot_int_rmul→Õ6,args_tuple_mul_2→Û1,excBase_ValueError→Ü5,entry_tuple_mul→Ü7,type_list_append→Ý6,slot_list_append→Ý7,slot_tuple_mul→Þ0,plain_tuple_new→Þ2,plain_list_iadd→Þ3,args_tuple_lt_2→Þ4,entry_tuple_lt→ß4,args_tuple_iterator_next_1→ß7,entry_tuple_iterator_next→à0
open True renaming intro→Ê9
open List.Pairwise renaming filter→Ë2
open PyProof.Rows.SortSt renaming mk'→Ì4
open Array.Perm renaming refl→Ì6
open PySem.Builtin.SmallTypes renaming ownedTupleIsFree→Í0
open PySem.W.Looks renaming ld→Î2,of_pure→Û9,here→Ý5
open PySem.Calls renaming Name_function_global→Ï3,spliced_nil→Ð3,spliced_cons→Ö8,call_function_entry→Þ7,loadGlobal_global→à1,evalArgs_plain→á2
open Prod.mk renaming injEq→Ï8
open Or renaming inl→Ò4,inr→Ù9
open PySem.W.KasT renaming ret→Ò6
open PySem.Heap.IsSliceOf renaming new→Ò7
open PySem.PyData renaming depthAll→Ò9,eqv→Ü8
open PyProof.Rows.F renaming plain_set_update_loop→Ô3
open Sum renaming inr→Ö3,inl→Ö4
open PySem.SeqAt renaming EqAt→Ö7
open PySem.Code renaming quiet_builtin→Ø4
open Iff renaming rfl→Û0
open Classical renaming byContradiction→Ü0
open PySem.Shared renaming TypeIs→Þ1
open PySem.Builtin.Int renaming intBits→Þ8
local macro_rules
|`(command|def $i:declId $s:optDeclSig $v)=>`(noncomputable def $i:declId $s:optDeclSig $v)
|`(command|abbrev $i:declId $s:optDeclSig $v)=>`(noncomputable abbrev $i:declId $s:optDeclSig $v)
open PySem.W (methodObj hideAll hideAll_get of_hideAll callWith_K cellsFrom_some fnOf codeRec_of kitx_none kitx_bool kitx_int kitx_str kitx_tuple kitx_list kitx_dict kitAny kia_tup envX kla_fn codeHd_of_K kla_obj mg_none_of mg_of view)
open PySem.Heap (lt_size size_push)
open List (range filterMap_cons mem_cons_self mem_cons_of_mem mem_append_left mem_append_right append_nil of_mem_zip replicate length_take mem_of_getElem? length_append length_map size_toArray length_drop map_nil map_cons length_set reverse_cons replicate_succ flatten_cons foldl append_assoc lookup_cons forIn_cons toArray forIn_nil mem_cons not_mem_nil ext_getElem range' map_toArray length_nil nil_append take_of_length_le length_range zip_cons_cons length_cons length_reverse all_eq_true mem_filter mem_range map_congr_left length_filter_le getElem_mem isEmpty_nil map_id all_nil mapM_cons all_map pairwise_lt_range all_cons range_eq_range' getElem_range drop_length filter_cons map_id' getElem_map)
open Array (length_toList toList getD size_map map_extract push extract setIfInBounds toArray_toList)
open Nat (ne_of_gt le_succ zero_le le_add_right not_lt_zero ble beq lt_succ_of_lt lt_succ_self pow_le_pow_right min_eq_left min_eq_right sub_self)
open Int (mul_one toNat_natCast emod_nonneg emod_lt_of_pos gcd natAbs_mul mul_pos zero_mul add_zero pow_zero sub_zero)
open PyProof.Rows (lt_int)
open PySem.Builtin.Slice (sliceAdjust slicePlaces sliceApplied sliceFields)
open PySem.Builtin.Tuple (tupleItemsOf tupleExact tupleCompareSizes tupleTooMany tupleIsExact)
open Bool (and_eq_true false_eq_true not_eq_true' or_eq_true not_eq_false')
open Option (getD_none map_some map_eq_some_iff)
open PySem.Builtin.SmallTypes (nextOf ownedTupleIsFree ownedTupleHandOut)
set_option bootstrap.genMatcherCode false
set_option compiler.extract_closed false
set_option genInjectivity false
set_option genSizeOf false
set_option autoImplicit true
set_option relaxedAutoImplicit true
set_option Elab.async false
set_option linter.all false
set_option maxRecDepth 100000
namespace L2
open PySem PySem.Spec PyProof.Rows
abbrev Key:=Sum Int Str
def l62:Key->Ä->Bool
 |.inl k,v=>Ä.isInt k v
 |.inr x,v=>Ä.isStrOf x v
def Q32(w:ç):Key->Int
 |.inl k=>hashInt k
 |.inr x=>hashStr w x
÷d00:∀ {k:Key}{v:Ä},l62 k v=true->(∃ i t,k=Ö4 i/\v=Æ1 i t)∨(∃ x t,k=Ö3 x/\v=Ä.str x t)
 |.inl i,v,h=>by
  ¶⟨t,e⟩:=Ä.isInt_shape (k:=i) (v:=v) h
  §.inl ⟨i,t,rfl,e⟩
 |.inr x,v,h=>by
  ¶⟨t,e⟩:=Ä.isStrOf_shape (x:=x) (v:=v) h
  §.inr ⟨x,t,rfl,e⟩
÷l72(a b:Int):decide ((Ö4 a:Key)=Ö4 b)=(a == b):=by
 by_cases e:a=b
 ·subst e;simp
 ·have h:¬ (Ö4 a:Key)=Ö4 b:=λq=>e (Ö4.inj q)
  rw[decide_eq_false h]
  §(beq_eq_false_iff_ne.mpr e).symm
÷l82(a b:Str):decide ((Ö3 a:Key)=Ö3 b)=decide (a=b):=by
 by_cases e:a=b
 ·subst e;simp
 ·have h:¬ (Ö3 a:Key)=Ö3 b:=λq=>e (Ö3.inj q)
  rw[decide_eq_false h,decide_eq_false e]
÷l92(a:Int)(b:Str):decide ((Ö4 a:Key)=Ö3 b)=false:=decide_eq_false (λq=>nomatch q)
÷m02(a:Str)(b:Int):decide ((Ö3 a:Key)=Ö4 b)=false:=decide_eq_false (λq=>nomatch q)
def q31(prog:ß)(w:ç):PySem.KeyKind prog w Key where
 is:=l62
 hash:=Q32 w
 inj:=λv a b ha hb=>by
  rcases d00 ha with ⟨i,t,rfl,rfl⟩ | ⟨x,t,rfl,rfl⟩
  ·rcases d00 hb with ⟨j,u,rfl,e⟩ | ⟨y,u,rfl,e⟩
   ·injection e with e1 _;rw[e1]
   ·§nomatch e
  ·rcases d00 hb with ⟨j,u,rfl,e⟩ | ⟨y,u,rfl,e⟩
   ·§nomatch e
   ·injection e with e1 _;rw[e1]
 byValue:=λk v h=>by
  rcases d00 h with ⟨i,t,rfl,rfl⟩ | ⟨x,t,rfl,rfl⟩ <;> rfl
 pyHash:=λhv h=>by
  rcases d00 hv with ⟨i,t,rfl,rfl⟩ | ⟨x,t,rfl,rfl⟩
  ·§wpAny_pyHash_int h
  ·§wpAny_pyHash_str h
 eqBool:=λhu hv h=>by
  rcases d00 hu with ⟨i,t,rfl,rfl⟩ | ⟨x,t,rfl,rfl⟩
  ·rcases d00 hv with ⟨j,u,rfl,rfl⟩ | ⟨y,u,rfl,rfl⟩
   ·rw[l72] at h;§wpAny_eqBool_int h
   ·rw[l92] at h;§Ö7.int_str i t y u _ _ _ _ h
  ·rcases d00 hv with ⟨j,u,rfl,rfl⟩ | ⟨y,u,rfl,rfl⟩
   ·rw[m02] at h;§Ö7.str_int x t j u _ _ _ _ h
   ·rw[l82] at h;§wpAny_eqBool_str h
 «strs»:=λk x t v h=>by
  rcases d00 h with ⟨i,u,rfl,e⟩ | ⟨y,u,rfl,e⟩
  ·§nomatch e
  ·injection e with e1 _
   subst e1
   cases v <;> rfl
inductive V where
 |non | bl (b:Bool) | int (i:Int) | str (x:Str) | byt (b:Array UInt8) | flt (b:UInt64) | ref (a:Addr) | ty (n:String)
 deriving DecidableEq
def RelV:V->Ä->Prop
 |.non,u=>u=â
 |.bl b,u=>u=Ï0 b
 |.int i,u=>∃ t,u=Æ1 i t
 |.str x,u=>∃ t,u=Ä.str x t
 |.byt b,u=>∃ t,u=Ä.bytes b t
 |.flt b,u=>∃ t,u=Ä.float b t
 |.ref a,u=>u=Ã3 a
 |.ty n,u=>u=Á7 n
abbrev Vals:List V->List Ä->Prop:=Å9 RelV
÷Vals.length{xs:List V}{us:List Ä}(r:Vals xs us):xs.length=us.length:=Å9.length r
÷Vals.get:∀ {xs:List V}{us:List Ä}{i:Nat}{x:V},Vals xs us->xs[i]?=some x->∃ u,us[i]?=some u/\RelV x u
 |_,_,_,_,.nil,e=>by simp at e
 |_,_,0,_,.cons r _,e=>by simp at e;subst e;§⟨_,rfl,r⟩
 |_,_,i + 1,x,.cons _ t,e=>by
  ¶⟨u,h1,h2⟩:=Vals.get (i:=i) (x:=x) t (by simpa using e)
  §⟨u,by simpa using h1,h2⟩
÷Vals.set(r:RelV x u):∀ {xs:List V}{us:List Ä} (i:Nat),Vals xs us->Vals (xs.set i x) (us.set i u)
 |_,_,_,.nil=>.nil
 |_,_,0,.cons _ t=>.cons r t
 |_,_,i + 1,.cons q t=>.cons q (Vals.set r i t)
÷Vals.append:∀ {xs ys:List V}{us ws:List Ä},Vals xs us->Vals ys ws->Vals (xs++ys) (us++ws)
 |_,_,_,_,.nil,s=>s
 |_,_,_,_,.cons r t,s=>.cons r (Vals.append t s)
÷Vals.take:∀ {xs:List V}{us:List Ä} (n:Nat),Vals xs us->Vals (xs.take n) (us.take n)
 |_,_,0,_=>.nil
 |_,_,_ + 1,.nil=>.nil
 |_,_,n + 1,.cons r t=>.cons r (Vals.take n t)
÷Vals.drop:∀ {xs:List V}{us:List Ä} (n:Nat),Vals xs us->Vals (xs.drop n) (us.drop n)
 |_,_,0,r=>r
 |_,_,_ + 1,.nil=>.nil
 |_,_,n + 1,.cons _ t=>Vals.drop n t
def N52:Option V->Option Ä->Prop
 |some v,some u=>RelV v u
 |none,none=>True
 |_,_=>False
def KV{κ:Type}:List (κ × V)->List (κ × Ä)->Prop:=Å9 λ(p:κ × V) (q:κ × Ä)=>p.1=q.1/\RelV p.2 q.2
def kV:Key->V
 |.inl i=>.int i
 |.inr x=>.str x
inductive HO where
 |lst (xs:List V)
 |tup (xs:List V)
 |dK (kvs:List (Key × V)) | dT (kvs:List (List Key × V))
 |set (S:Int->Bool) (n:Nat)
 |ins (C dx:Addr) (fs:List (Str × V))
 |own (x:Addr)
 |xd (fs:List (Str × V))
 |met (f x:Addr)
 |rng (lo hi:Int)
 |frz (o:Obj) (u:HO)
 |tbl (ps:Array Value)
 |ext (φ:Heap->Prop)
abbrev Hp:=Ç->Option HO
def upd(H:Hp)(a:Ç)(o:HO):Hp:=λb=>if b=a then some o else H b
÷b20:upd H a o a=some o:=by unfold upd;rw[if_pos rfl]
÷a60(h:b≠a):upd H a o b=H b:=by unfold upd;rw[if_neg h]
÷a80{H:Hp}{a b:Ç}{o:HO}(h:H a=some o)(h':H b=none):a≠b:=by
 intro e;subst e;rw[h] at h';cases h'
section
variable (P:ß) (w:ç)
def h00(H:Hp)(h:ì)(a:Ç):HO->Prop
 |.lst xs=>xs.length<=Û/\∃ (its:List Ä) (n:Nat),Vals xs its/\h.get? a=some { cls:=.type "list",data:=.seq its.toArray n }
 |.tup xs=>xs.length<=Û/\∃ its:List Ä,Vals xs its/\Ï2 h a its.toArray
 |.dK kvs=>kvs.length<=Û/\(a == sysModules)=false/\∃ vs,KV kvs vs/\h.DictOf (q31 P w) a vs
 |.dT kvs=>kvs.length<=Û/\(a == sysModules)=false/\∃ xs:List (List Key × Ç × Ä),
   Å9 (λ(p:List Key × V) (q:List Key × Ç × Ä)=>p.1=q.1/\H q.2.1=some (.tup (p.1.map kV))/\RelV p.2 q.2.2) kvs xs /\
   ∃ o es ep,h.get? a=some o/\o.ExactDict/\o.data=.dict es ep/\es.toList=xs.map (entryOfKey (tupleKind (q31 P w)))/\(xs.map (·.1)).Nodup
 |.set S n=>h.SetOf (Ù6 P w) a S n
 |.ins C dx fs=>H dx=some (.own a)/\fs.length<=1000/\dx≠a/\h.get? a=some (PySem.W.instObj C dx) /\
   ∃ mA,h.Ns1 dx mA/\(∀ f,N52 (fs.lookup f) (mA f))/\PySem.Within mA (fs.map (·.1))
 |.own _=>∃ o,h.get? a=some o
 |.xd fs=>∃ mA,h.Ns1 a mA/\∀ f,N52 (fs.lookup f) (mA f)
 |.rng lo hi=>∃ t u v,h.get? a=some { cls:=.type "range",data:=.fields #[.int lo t,.int hi u,.int 1 v] }
 |.frz o u=>h.get? a=some o/\h00 H h a u
 |.tbl ps=>h.get? a=some { cls:=.none,data:=.fields ps }
 |.met f x=>h.get? a=some (methodObj (.ref f) (.ref x))
 |.ext φ=>φ h/\(∃ o,h.get? a=some o)/\∀ h1 h2:ì,φ h1->(∀ o,h1.get? a=some o->h2.get? a=some o)->φ h2
def HOk(H:Hp)(h:ì):Prop:=∀ a o,H a=some o->h00 P w H h a o
end
section
variable {P:ß}{w:ç}{H H':Hp}{h h':ì}{a:Ç}{o:HO}
÷h00.lt(x:h00 P w H h a o):a < h.objs.size:=by
 cases o with
 |lst xs=>¶⟨_,_,_,_,e⟩:=x;§à e
 |tup xs=>¶⟨_,_,_,p⟩:=x;§p.lt
 |dK kvs=>¶⟨_,_,_,_,o,_,_,e,_⟩:=x;§à e
 |dT kvs=>¶⟨_,_,_,_,o,_,_,e,_⟩:=x;§à e
 |set S n=>¶⟨o,_,_,_,e,_⟩:=x;§à e
 |ins C dx fs=>¶⟨_,_,_,e,_⟩:=x;§à e
 |own y=>¶⟨_,e⟩:=x;§à e
 |xd fs=>¶⟨_,⟨_,_,_,e,_⟩,_⟩:=x;§à e
 |rng lo hi=>¶⟨_,_,_,e⟩:=x;§à e
 |frz ob u=>¶⟨e,_⟩:=x;§à e
 |tbl ps=>§à (show h.get? a=some _ from x)
 |met f y=>§à (show h.get? a=some _ from x)
 |ext φ=>¶⟨_,⟨_,e⟩,_⟩:=x;§à e
÷Å9.k72{α β:Type}{F G:α->β->Prop}:∀ {l₁:List α}{l₂:List β},Å9 F l₁ l₂->(∀ a b,F a b->G a b)->Å9 G l₁ l₂
 |_,_,.nil,_=>.nil
 |_,_,.cons r t,f=>.cons (f _ _ r) (Å9.k72 t f)
÷h00.l21(x:h00 P w H h a o)(k:∀ b u,(b=a∨H b=some (.own a))->h.get? b=some u->h'.get? b=some u)
  (ho:∀ b,H b=some (.own a)->H' b=some (.own a)) (ht:∀ b xs,H b=some (.tup xs)->H' b=some (.tup xs)):h00 P w H' h' a o:=by
 induction o with
 |lst xs=>¶⟨z,its,n,r,e⟩:=x;§⟨z,its,n,r,k _ _ (.inl rfl) e⟩
 |tup xs=>¶⟨z,its,r,ob,e,c⟩:=x;§⟨z,its,r,ob,k _ _ (.inl rfl) e,c⟩
 |dK kvs=>¶⟨z,y,vs,r,ob,es,ep,e,c⟩:=x;§⟨z,y,vs,r,ob,es,ep,k _ _ (.inl rfl) e,c⟩
 |dT kvs =>
  ¶⟨z,y,xs,r,ob,es,ep,e,c⟩:=x
  §⟨z,y,xs,Å9.k72 r λp q z=>⟨z.1,ht _ _ z.2.1,z.2.2⟩,ob,es,ep,k _ _ (.inl rfl) e,c⟩
 |set S n=>¶⟨ob,es,ep,t,e,c⟩:=x;§⟨ob,es,ep,t,k _ _ (.inl rfl) e,c⟩
 |ins C dx fs =>
  ¶⟨d,z,ne,e,mA,⟨od,es,ep,e2,c⟩,r⟩:=x
  §⟨ho _ d,z,ne,k _ _ (.inl rfl) e,mA,⟨od,es,ep,k _ _ (.inr d) e2,c⟩,r⟩
 |own y=>¶⟨ob,e⟩:=x;§⟨ob,k _ _ (.inl rfl) e⟩
 |xd fs=>¶⟨mA,⟨od,es,ep,e,c⟩,r⟩:=x;§⟨mA,⟨od,es,ep,k _ _ (.inl rfl) e,c⟩,r⟩
 |rng lo hi=>¶⟨t,u,v,e⟩:=x;§⟨t,u,v,k _ _ (.inl rfl) e⟩
 |frz ob u ih=>¶⟨e,q⟩:=x;§⟨k _ _ (.inl rfl) e,ih q⟩
 |tbl ps =>
  have e:h.get? a=some { cls:=.none,data:=.fields ps }:=x
  show h'.get? a=some { cls:=.none,data:=.fields ps }
  §k a _ (.inl rfl) e
 |met f y =>
  have e:h.get? a=some (methodObj (.ref f) (.ref y)):=x
  show h'.get? a=some (methodObj (.ref f) (.ref y))
  §k a _ (.inl rfl) e
 |ext φ=>¶⟨p,⟨o,e⟩,st⟩:=x;§⟨st _ _ p λo q=>k _ _ (.inl rfl) q,⟨o,k _ _ (.inl rfl) e⟩,st⟩
÷HOk.lt(x:HOk P w H h)(e:H a=some o):a < h.objs.size:=(x a o e).lt
÷HOk.fresh(x:HOk P w H h)(e:h.objs.size<=a):H a=none:=by
 cases q:H a with
 |none=>rfl
 |some u=>§absurd (Ú (x.lt q) e) (Á8 _)
÷HOk.kept(x:HOk P w H h)(k:∀ b u,h.get? b=some u->h'.get? b=some u):HOk P w H h':=λa o e =>
 (x a o e).l21 (λb u _ q=>k b u q) (λ_ q=>q) λ_ _ q=>q
÷HOk.laid(x:HOk P w H h)(k:∀ b u,h.get? b=some u->h'.get? b=some u)(hp:h.objs.size<=a)(new:h00 P w (upd H a o) h' a o):HOk P w (upd H a o) h':=λb u e=>by
 have hn:=x.fresh hp
 by_cases hb:b=a
 ·subst hb;rw[b20] at e;cases e;§new
 ·rw[a60 hb] at e
  §(x b u e).l21 (λc v _ q=>k c v q) (λc q=>by rw[a60 (a80 q hn)];§q) λc xs q=>by rw[a60 (a80 q hn)];§q
end
def Rd(H:Hp)(a:Ç)(u:HO):Prop:=H a=some u∨∃ o,H a=some (.frz o u)
÷Rd.ok(r:Rd H a u)(x:HOk P w H h):h00 P w H h a u:=by
 rcases r with r | ⟨o,r⟩
 ·§x a u r
 ·¶⟨_,q⟩:=x a _ r
  §q
def Mut:Option HO->Prop
 |some (.lst _)=>True
 |some (.dK _)=>True
 |some (.dT _)=>True
 |some (.set _ _)=>True
 |some (.ins _ _ _)=>True
 |some (.ext _)=>True
 |_=>False
section
variable {P:ß}{w:ç}{H:Hp}{h h':ì}{x e:Ç}{o':HO}
÷HOk.write(ok:HOk P w H h)(mu:Mut (H x))(he:e=x∨H e=some (.own x))(k:∀ b u,b≠e->h.get? b=some u->h'.get? b=some u)(heo:∃ u,h'.get? e=some u)
  (new:h00 P w (upd H x o') h' x o'):HOk P w (upd H x o') h':=λb u q=>by
 have nown:∀ c y,H c=some (.own y)->c≠x:=λc y r z=>by subst z;rw[r] at mu;§mu
 have ntup:∀ c xs,H c=some (.tup xs)->c≠x:=λc xs r z=>by subst z;rw[r] at mu;§mu
 by_cases hb:b=x
 ·subst hb;rw[b20] at q;cases q;§new
 ·rw[a60 hb] at q
  by_cases hbe:b=e
  ·have q':H b=some (.own x):=by
    rcases he with z | z
    ·§absurd (hbe.trans z) hb
    ·rw[hbe];§z
   rw[q] at q';cases q'
   ¶⟨v,hv⟩:=heo
   §⟨v,by rw[hbe];§hv⟩
  ·¤(ok b u q).l21 (λc v hc r=>k c v ?_ r) (λc r=>by rw[a60 (nown c b r)];§r) λc xs r=>by rw[a60 (ntup c xs r)];§r
   rcases hc with rfl | hc
   ·§hbe
   ·rintro rfl
    rcases he with z | z
    ·§nown c b hc z
    ·rw[hc] at z;cases z;§hb rfl
end
structure Un(fs ex:List Addr)(H H':Hp)(h h':Heap):Prop where
 keep:∀ b o,h.get? b=some o->H b=none->b ∉ fs->b ∉ ex->h'.get? b=some o
 slot:∀ b o,h.get? b=some o->H b=none->b∈fs->b ∉ ex->∃ sl,h'.get? b=some { o with slots:=sl }
 free:∀ b o,h.get? b=some o->H b=none->b ∉ ex->H' b=none
 there:∀ b o,h.get? b=some o->b ∉ ex->∃ o',h'.get? b=some o'
 tups:∀ b xs,H b=some (.tup xs)->H' b=some (.tup xs)
 frzs:∀ b o u,H b=some (.frz o u)->H' b=some (.frz o u)
 tbls:∀ b ps,H b=some (.tbl ps)->∃ more,H' b=some (.tbl (ps++more))
section
variable {fs fs' ex ex':List Ç}{H H1 H2:Hp}{h h1 h2 h':ì}{a x e:Ç}{o:HO}
÷Un.any(u:Un fs ex H H1 h h1){b:Ç}{ob:Obj}(q:h.get? b=some ob)(n:H b=none)(hx:b ∉ ex):∃ sl,h1.get? b=some { ob with slots:=sl }:=by
 by_cases hb:b∈fs
 ·§u.slot b ob q n hb hx
 ·§⟨ob.slots,u.keep b ob q n hb hx⟩
÷Un.trans(a:Un fs ex H H1 h h1)(b:Un fs ex H1 H2 h1 h2):Un fs ex H H2 h h2 where
 keep:=λc ob q n hc hx=>b.keep c ob (a.keep c ob q n hc hx) (a.free c ob q n hx) hc hx
 slot:=λc ob q n hc hx=>by
  ¶⟨sl,e1⟩:=a.slot c ob q n hc hx
  ¶⟨sl',e2⟩:=b.slot c _ e1 (a.free c ob q n hx) hc hx
  §⟨sl',e2⟩
 free:=λc ob q n hx=>by
  ¶⟨o',e1⟩:=a.there c ob q hx
  §b.free c o' e1 (a.free c ob q n hx) hx
 there:=λc ob q hx=>by
  ¶⟨o',e1⟩:=a.there c ob q hx
  §b.there c o' e1 hx
 tups:=λc xs q=>b.tups c xs (a.tups c xs q)
 frzs:=λc ob xs q=>b.frzs c ob xs (a.frzs c ob xs q)
 tbls:=λc ps q=>by
  ¶⟨m1,e1⟩:=a.tbls c ps q
  ¶⟨m2,e2⟩:=b.tbls c _ e1
  §⟨m1++m2,by rw[e2,Array.append_assoc]⟩
÷Un.kept(k:∀ b u,h.get? b=some u->h'.get? b=some u):Un fs ex H H h h' :=
 ⟨λb ob q _ _ _=>k b ob q,λb ob q _ _ _=>⟨ob.slots,k b ob q⟩,λ_ _ _ n _=>n,λb ob q _=>⟨ob,k b ob q⟩,λ_ _ q=>q,λ_ _ _ q=>q,λ_ ps q=>⟨#[],by rw[q];simp⟩⟩
÷Un.refl:Un fs ex H H h h:=Un.kept λ_ _ q=>q
÷Un.laid(k:∀ b u,h.get? b=some u->h'.get? b=some u)(hp:h.objs.size<=a)(hn:H a=none):Un fs ex H (upd H a o) h h' where
 keep:=λb u q _ _ _=>k b u q
 slot:=λb u q _ _ _=>⟨u.slots,k b u q⟩
 free:=λb u q n _=>by rw[a60 (Ù (Ú (à q) hp))];§n
 there:=λb u q _=>⟨u,k b u q⟩
 tups:=λb xs q=>by rw[a60 (a80 q hn)];§q
 frzs:=λb u xs q=>by rw[a60 (a80 q hn)];§q
 tbls:=λb ps q=>⟨#[],by rw[a60 (a80 q hn),q];simp⟩
÷Un.write(mu:Mut (H x))(he:e=x∨H e=some (.own x))(k:∀ b u,b≠e->h.get? b=some u->h'.get? b=some u)(heo:∃ u,h'.get? e=some u):Un fs ex H (upd H x o) h h':=by
 have hx:∀ b,H b=none->b≠x:=λb n z=>by subst z;rw[n] at mu;§mu
 have hb:∀ b,H b=none->b≠e:=λb n z=>by
  subst z
  rcases he with r | r
  ·§hx b n r
  ·rw[n] at r;cases r
 have hm:∀ b u,H b=some u->¬ Mut (some u)->b≠x:=λb u q nm z=>by subst z;rw[q] at mu;§nm mu
 ¤⟨λb u q n _ _=>k b u (hb b n) q,λb u q n _ _=>⟨u.slots,k b u (hb b n) q⟩,λb u q n _=>by rw[a60 (hx b n)];§n,λb u q _=>?_,
  λb xs q=>by rw[a60 (hm b _ q λz=>z)];§q,λb u xs q=>by rw[a60 (hm b _ q λz=>z)];§q,λb ps q=>⟨#[],by rw[a60 (hm b _ q λz=>z),q];simp⟩⟩
 by_cases hbe:b=e
 ·subst hbe;§heo
 ·§⟨u,k b u hbe q⟩
÷Un.mono(u:Un fs ex H H1 h h1)(hs:∀ b∈fs,b∈fs')(hx:∀ b∈ex,b∈ex'):Un fs' ex' H H1 h h1 :=
 ⟨λb ob q n hb he=>u.keep b ob q n (λz=>hb (hs b z)) λz=>he (hx b z),λ_ _ q n _ he=>u.any q n λz=>he (hx _ z),λb ob q n he=>u.free b ob q n λz=>he (hx b z),λb ob q he=>u.there b ob q λz=>he (hx b z),u.tups,u.frzs,u.tbls⟩
end
def trk(h:ì)(H:Hp):List Addr:=(î h.objs.size).filter λa=>(H a).isSome
def H31(h:ì)(H:Hp):Heap:=hideAll h (trk h H)
÷q41(h:ì)(H:Hp):(H31 h H).objs.size=h.objs.size:=PySem.W.hideAll_size _ _
÷I60(e:h.get? b=some o)(n:H b=none):(H31 h H).get? b=some o :=
 hideAll_get _ e λhm=>by
  have q:(H b).isSome=true:=(Ý0.mp hm).2
  rw[n] at q;simp at q
÷X61(e:(H31 h H).get? b=some o):h.get? b=some o/\H b=none:=by
 have e':h.get? b=some o:=of_hideAll (trk h H) e
 ¤⟨e',?_⟩
 cases q:H b with
 |none=>rfl
 |some x =>
  have hm:b∈trk h H:=Ý0.mpr ⟨Â5.mpr (à e'),by simp[q]⟩
  have z:(H31 h H).get? b=none:=PySem.W.hideAll_none (trk h H) hm
  rw[z] at e;cases e
structure Mod(K:PySem.W.Frag)(mg:Str->Option Value)(base:Heap):Prop where
 kin:K.In base
 glob:base.Ns mainGlobals mg
 blt:∃ mb,base.Ns builtinsNs mb/\∀ x:Str,x≠"__name__"->mb x=bootBuiltins x
 nolimit:base.NoLimit
structure Cx where
 prog:Program
 w:World
 K:PySem.W.Frag
 mg:Str->Option Value
 base:Heap
 A:Around
 N:List Str
 s₀:Shared
 H₀:Hp
 env:Env
 outer:List Env
 stack:List Env
 ex:List Addr
 fn:Str->Bool
 calm:Bool
 pn:List (Addr × Obj)
 xe:Value->Shared->Prop
def frs(l:List Env):List Addr:=l.filterMap (·.frame)
abbrev Cx.fs(X:Cx):List Addr:=frs X.outer
def Vis(sc:ý)(x:Str):Prop:=sc.names.lookup x=some .local∨sc.names.lookup x=some .cell∨sc.names.lookup x=some .free
def Loc(sc:ý)(x:Str):Prop:=sc.names.lookup x=some .local∨sc.names.lookup x=some .cell
def Look(env:Env)(h:ì)(m:Str->Option Ä)(x:Str)(u:Ä):Prop :=
 (env.kindOf x=some .local/\m x=some u)∨((env.kindOf x=some .cell∨env.kindOf x=some .free)/\∃ c,env.cells.lookup x=some c/\h.IsCell c (some u))
structure Cx.Ok(X:Cx):Prop where
 mod:Mod X.K X.mg X.base
 kind:X.env.scope.kind=.function
 glob:X.env.globals=mainGlobals
 blt:X.env.builtins=builtinsNs
 above:X.s₀.heap.objs.size<=X.env.locals
 inj:∀ x y c,X.env.cells.lookup x=some c->X.env.cells.lookup y=some c->x=y
 has:∀ x,(X.env.kindOf x=some .cell∨X.env.kindOf x=some .free)->∃ c,X.env.cells.lookup x=some c
 cab:∀ x c,X.fn x=true->X.env.cells.lookup x=some c->X.s₀.heap.objs.size<=c
 hd:X.calm=true->X.A.handled=none
 frames:X.A.frames=some X.stack
 stk:X.stack=X.outer∨(X.stack=X.env::X.outer/\X.env.frame=some X.env.locals)
 exf:∀ b∈X.ex,b≠X.env.locals/\∀ x c,X.env.cells.lookup x=some c->c≠b
 bs:∀ b o,X.base.get? b=some o->X.s₀.heap.get? b=some o/\X.H₀ b=none
 bsz:X.base.objs.size<=X.s₀.heap.objs.size
 noex:∀ b o,X.base.get? b=some o->b ∉ X.ex
 exfs:∀ b∈X.ex,b ∉ X.fs
 l31:X.s₀.heap.FunFrames X.base X.outer
 frf:∀ b∈X.fs,X.H₀ b=none
structure Inv(X:Cx)(pins:List (Addr × Obj))(σ:List (Option V))(H:Hp)(s:Shared):Prop where
 ok:X.Ok
 os:s.os=X.s₀.os
 bare:AllBare s.gens
 base:Un X.fs X.ex X.H₀ H X.s₀.heap s.heap
 loc:∃ m,s.heap.Ns X.env.locals m/\∀ (i:Nat) (x:Str) (v:V),X.N[i]?=some x->σ[i]?=some (some v)->Vis X.env.scope x->∃ u,RelV v u/\Look X.env s.heap m x u
 cell:∀ x c,X.env.cells.lookup x=some c->∃ v,s.heap.IsCell c v
 free:H X.env.locals=none
 freeC:∀ x c,X.env.cells.lookup x=some c->H c=none
 pin:∀ p∈X.pn++pins,s.heap.get? p.1=some p.2/\H p.1=none/\p.1≠X.env.locals/\p.1 ∉ X.fs/\∀ v,p.2.data≠.cell v
 hok:HOk X.prog X.w H s.heap
 len:σ.length=X.N.length
section
variable {X:Cx}{pins:List (Ç × Obj)}{σ:List (Option V)}{H H':Hp}{s:Æ}{h':ì}
÷Cx.Ok.Q42(ok:X.Ok)(e:X.base.get? b=some o):b ∉ X.fs:=λhb=>by
 have:=(ok.l31.mem hb).1
 rw[e] at this;cases this
÷Inv.bs(I:Inv X pins σ H s):∀ b o,X.base.get? b=some o->s.heap.get? b=some o/\H b=none:=λb o e =>
 ⟨I.base.keep b o (I.ok.bs b o e).1 (I.ok.bs b o e).2 (I.ok.Q42 e) (I.ok.noex b o e),I.base.free b o (I.ok.bs b o e).1 (I.ok.bs b o e).2 (I.ok.noex b o e)⟩
÷Inv.bk(I:Inv X pins σ H s):∀ b o,X.base.get? b=some o->s.heap.get? b=some o:=λb o e=>(I.bs b o e).1
÷Inv.mod(I:Inv X pins σ H s):Mod X.K X.mg X.base:=I.ok.mod
÷Inv.kIn(I:Inv X pins σ H s):X.K.In s.heap:=I.ok.mod.kin.keeps I.bk
÷Inv.lt(I:Inv X pins σ H s):X.env.locals < s.heap.objs.size:=let ⟨_,hn,_⟩:=I.loc;hn.lt
÷Inv.sz(I:Inv X pins σ H s):X.s₀.heap.objs.size<=s.heap.objs.size:=Ñ I.ok.above (É6 I.lt)
÷Inv.Q52(I:Inv X pins σ H s)(h:s.heap.objs.size<=a):a ∉ X.fs:=λhb=>by
 ¶⟨_,o,ho,_⟩:=I.ok.l31.mem hb
 §absurd (Ú (à ho) (Ñ I.sz h)) (Á8 _)
÷Inv.cne(I:Inv X pins σ H s):∀ x c,X.env.cells.lookup x=some c->c≠X.env.locals:=λx c e z=>by
 ¶⟨v,o,ho,hd⟩:=I.cell x c e
 ¶⟨m,⟨o',es,ep,ho',hd',_⟩,_⟩:=I.loc
 rw[z,ho'] at ho;cases ho;rw[hd'] at hd;cases hd
÷Inv.l31(I:Inv X pins σ H s):s.heap.FunFrames X.base X.outer:=by
 have all:∀ (l:List Env),(∀ b∈frs l,b∈X.fs)->X.s₀.heap.FunFrames X.base l->s.heap.FunFrames X.base l:=by
  intro l
  induction l with
  |nil=>intro _ _;trivial
  |cons env r ih =>
   intro hs hl
   ¶⟨hk,⟨L,o,hf,hn,ho,hd⟩,hr⟩:=hl
   have hL:L∈X.fs:=hs L (by unfold frs;rw[Á4,hf];§Ì)
   ¶⟨sl,e⟩:=I.base.slot L o ho (I.ok.frf L hL) hL λz=>I.ok.exfs L z hL
   §⟨hk,⟨L,_,hf,hn,e,hd⟩,ih (λb hb=>hs b (by unfold frs;rw[Á4,hf];§È _ hb)) hr⟩
 §all X.outer (λ_ hb=>hb) I.ok.l31
÷Inv.stack(I:Inv X pins σ H s):s.heap.FunFrames X.base X.stack:=by
 rcases I.ok.stk with e | ⟨e,hf⟩
 ·rw[e];§I.l31
 ·rw[e]
  ¶⟨m,hn,_⟩:=I.loc
  ¤.cons (by rw[I.ok.kind];decide) hf hn ?_ I.l31
  §ì.get?_none_of_le (Ñ I.ok.bsz I.ok.above)
÷Inv.q51(I:Inv X pins σ H s):∀ b∈frs X.stack,b∈X.env.locals::X.fs:=λb hb=>by
 rcases I.ok.stk with e | ⟨e,hf⟩
 ·rw[e] at hb;§È _ hb
 ·rw[e] at hb
  unfold frs at hb
  rw[Á4,hf] at hb
  §hb
÷Inv.w40(I:Inv X pins σ H s):∀ b∈frs X.stack,H b=none:=λb hb=>by
 rcases ú.mp (I.q51 b hb) with e | hb
 ·rw[e];§I.free
 ·¶⟨_,o,ho,_⟩:=I.ok.l31.mem hb
  §I.base.free b o ho (I.ok.frf b hb) λz=>I.ok.exfs b z hb
÷Inv.step{g':Array Ý9}{t':Nat}{d':Drawn}{ch:List Ç}(I:Inv X pins σ H s)
  (hch:∀ b∈ch,(b∈X.ex∨X.s₀.heap.objs.size<=b)/\b≠X.env.locals/\(∀ x c,X.env.cells.lookup x=some c->c≠b)/\∀ p∈X.pn++pins,p.1≠b)
  (keep:∀ b o,b≠X.env.locals->b ∉ X.fs->b ∉ ch->s.heap.get? b=some o->H b=none->h'.get? b=some o)
  (slot:∀ b o,b≠X.env.locals->b∈X.fs->b ∉ ch->s.heap.get? b=some o->H b=none->∃ sl,h'.get? b=some { o with slots:=sl }) (free:∀ b o,b ∉ ch->s.heap.get? b=some o->H b=none->H' b=none)
  (there:∀ b o,b ∉ ch->s.heap.get? b=some o->∃ o',h'.get? b=some o')
  (tups:∀ b xs,H b=some (.tup xs)->H' b=some (.tup xs)) (frzs:∀ b o u,H b=some (.frz o u)->H' b=some (.frz o u)) (tbls:∀ b ps,H b=some (.tbl ps)->∃ more,H' b=some (.tbl (ps++more)))
  (ns:∀ m,s.heap.Ns X.env.locals m->h'.Ns X.env.locals m) (hok:HOk X.prog X.w H' h') (hg:Ó5 g') :
  Inv X pins σ H' { s with heap:=h',gens:=g',drawn:=d',toks:=t' }:=by
 have neL:∀ b o,X.s₀.heap.get? b=some o->b≠X.env.locals:=λb o e=>Ù (Ú (à e) I.ok.above)
 have neC:∀ b o,X.s₀.heap.get? b=some o->b ∉ X.ex->b ∉ ch:=λb o e hx hb=>by
  rcases (hch b hb).1 with z | z
  ·§hx z
  ·§absurd (Ú (à e) z) (Á8 _)
 have cellK:∀ x c,X.env.cells.lookup x=some c->∀ v,s.heap.IsCell c v->h'.IsCell c v:=λx c e v ⟨o,ho,hd⟩=>by
  have nch:c ∉ ch:=λz=>(hch c z).2.2.1 x c e rfl
  by_cases hc:c∈X.fs
  ·¶⟨sl,q⟩:=slot c o (I.cne x c e) hc nch ho (I.freeC x c e)
   §⟨_,q,hd⟩
  ·§⟨o,keep c o (I.cne x c e) hc nch ho (I.freeC x c e),hd⟩
 ¤⟨I.ok,I.os,hg,⟨λb o e n hb hx=>?_,λb o e n hb hx=>?_,λb o e n hx=>?_,λb o e hx=>?_,λb xs e=>tups b xs (I.base.tups b xs e),λb o xs e=>frzs b o xs (I.base.frzs b o xs e),λb ps e=>?_⟩,?_,λx c e=>?_,?_,λx c e=>?_,λp hp=>?_,hok,I.len⟩
 ·§keep b o (neL b o e) hb (neC b o e hx) (I.base.keep b o e n hb hx) (I.base.free b o e n hx)
 ·¶⟨sl,e1⟩:=I.base.slot b o e n hb hx
  ¶⟨sl',e2⟩:=slot b _ (neL b o e) hb (neC b o e hx) e1 (I.base.free b o e n hx)
  §⟨sl',e2⟩
 ·¶⟨o',e1⟩:=I.base.there b o e hx
  §free b o' (neC b o e hx) e1 (I.base.free b o e n hx)
 ·¶⟨o',e1⟩:=I.base.there b o e hx
  §there b o' (neC b o e hx) e1
 ·¶⟨m1,e1⟩:=I.base.tbls b ps e
  ¶⟨m2,e2⟩:=tbls b _ e1
  §⟨m1++m2,by rw[e2,Array.append_assoc]⟩
 ·¶⟨m,hn,hl⟩:=I.loc
  ¤⟨m,ns m hn,λi x v e1 e2 e3=>?_⟩
  ¶⟨u,r,l⟩:=hl i x v e1 e2 e3
  ¤⟨u,r,?_⟩
  rcases l with l | ⟨k,c,e,z⟩
  ·§.inl l
  ·§.inr ⟨k,c,e,cellK x c e _ z⟩
 ·¶⟨v,z⟩:=I.cell x c e
  §⟨v,cellK x c e v z⟩
 ·¶⟨m,⟨o,_,_,ho,_⟩,_⟩:=I.loc
  §free _ o (λz=>(hch _ z).2.1 rfl) ho I.free
 ·¶⟨v,o,ho,hd⟩:=I.cell x c e
  §free c o (λz=>(hch c z).2.2.1 x c e rfl) ho (I.freeC x c e)
 ·¶⟨e,n,ne,nf,d⟩:=I.pin p hp
  have nch:p.1 ∉ ch:=λz=>(hch p.1 z).2.2.2 p hp rfl
  §⟨keep p.1 p.2 ne nf nch e n,free p.1 p.2 nch e n,ne,nf,d⟩
÷Inv.un{t':Nat}(I:Inv X pins σ H s)(u:Un X.fs [] H H' s.heap h')(hok:HOk X.prog X.w H' h'):Inv X pins σ H' { s with heap:=h',toks:=t' }:=by
 ¶⟨m,⟨o,es,ep,ho,r⟩,_⟩:=id I.loc
 ¶⟨sl,hL⟩:=u.any ho I.free (by simp)
 §I.step (g':=s.gens) (d':=s.drawn) (ch:=[]) (λ_ z=>nomatch z) (λb o _ hb _ e n=>u.keep b o e n hb (by simp)) (λb o _ hb _ e n=>u.slot b o e n hb (by simp)) (λb o _ e n=>u.free b o e n (by simp)) (λb o _ e=>u.there b o e (by simp)) u.tups u.frzs u.tbls (λm' hm=>by
  ¶⟨o',es',ep',ho',r'⟩:=hm
  rw[ho] at ho';cases ho'
  §⟨_,es',ep',hL,r'⟩) hok I.bare
÷Inv.call{g':Array Ý9}{t':Nat}{d':Drawn}{ch:List Ç}(I:Inv X pins σ H s)(u:Un (frs X.stack) ch H H' s.heap h')(hok:HOk X.prog X.w H' h')(hg:Ó5 g')
  (hch:∀ b∈ch,(b∈X.ex∨X.s₀.heap.objs.size<=b)/\b≠X.env.locals/\(∀ x c,X.env.cells.lookup x=some c->c≠b)/\∀ p∈X.pn++pins,p.1≠b) :
  Inv X pins σ H' { s with heap:=h',gens:=g',drawn:=d',toks:=t' }:=by
 ¶⟨m,⟨o,es,ep,ho,r⟩,_⟩:=id I.loc
 ¶⟨sl,hL⟩:=u.any ho I.free λz=>(hch _ z).2.1 rfl
 §I.step (ch:=ch) hch (λb o hL hb hc e n=>u.keep b o e n (λz=>(ú.mp (I.q51 b z)).elim hL hb) hc) (λb o _ _ hc e n=>u.any e n hc) (λb o hc e n=>u.free b o e n hc) (λb o hc e=>u.there b o e hc) u.tups u.frzs u.tbls (λm' hm=>by
  ¶⟨o',es',ep',ho',r'⟩:=hm
  rw[ho] at ho';cases ho'
  §⟨_,es',ep',hL,r'⟩) hok hg
÷Inv.turned{t':Nat}{it:Ç}(I:Inv X pins σ H s)(k:∀ b o,b≠it->s.heap.get? b=some o->h'.get? b=some o)(hn:H it=none)(hL:it≠X.env.locals)
  (h1:it∈X.ex∨X.s₀.heap.objs.size<=it) (h2:∀ x c,X.env.cells.lookup x=some c->c≠it) (h3:∀ p∈X.pn++pins,p.1≠it):Inv X pins σ H { s with heap:=h',toks:=t' }:=by
 have nit:∀ b u,H b=some u->b≠it:=λb u e z=>by rw[z,hn] at e;cases e
 ¤I.step (g':=s.gens) (d':=s.drawn) (ch:=[it]) (λb hb=>?_) (λb o _ _ hc e _=>k b o (λz=>hc (by simp[z])) e) (λb o _ _ hc e _=>⟨o.slots,k b o (λz=>hc (by simp[z])) e⟩) (λ_ _ _ _ n=>n)
  (λb o hc e=>⟨o,k b o (λz=>hc (by simp[z])) e⟩) (λ_ _ e=>e) (λ_ _ _ e=>e) (λb ps e=>⟨#[],by rw[e];simp⟩) (λm hm=>?_) (λb u e=>?_) I.bare
 ·have e:b=it:=by simpa using hb
  subst e
  §⟨h1,hL,h2,h3⟩
 ·¶⟨o,es,ep,ho,r⟩:=hm
  §⟨o,es,ep,k _ o (Â3 hL) ho,r⟩
 ·¤(I.hok b u e).l21 (λc v hc q=>k c v ?_ q) (λ_ q=>q) λ_ _ q=>q
  rcases hc with z | z
  ·rw[z];§nit b u e
  ·§nit c _ z
÷Inv.tok(I:Inv X pins σ H s)(t:Nat):Inv X pins σ H { s with toks:=t }:=I.un (h':=s.heap) (t':=t) Un.refl I.hok
÷Inv.kept{t':Nat}(I:Inv X pins σ H s)(k:∀ b u,s.heap.get? b=some u->h'.get? b=some u):Inv X pins σ H { s with heap:=h',toks:=t' }:=I.un (Un.kept k) (I.hok.kept k)
÷Inv.laid{t':Nat}(I:Inv X pins σ H s)(k:∀ b u,s.heap.get? b=some u->h'.get? b=some u)(hp:s.heap.objs.size<=a)(new:h00 X.prog X.w (upd H a o) h' a o) :
  Inv X pins σ (upd H a o) { s with heap:=h',toks:=t' }:=I.un (Un.laid k hp (I.hok.fresh hp)) (I.hok.laid k hp new)
÷Inv.write{x e:Ç}{o:HO}{t':Nat}(I:Inv X pins σ H s)(mu:Mut (H x))(he:e=x∨H e=some (.own x))(k:∀ b u,b≠e->s.heap.get? b=some u->h'.get? b=some u)(heo:∃ u,h'.get? e=some u)
  (new:h00 X.prog X.w (upd H x o) h' x o):Inv X pins σ (upd H x o) { s with heap:=h',toks:=t' }:=I.un (Un.write mu he k heo) (I.hok.write mu he k heo new)
÷Inv.B70(I:Inv X pins σ H s)(h:∀ p∈pins',s.heap.get? p.1=some p.2/\H p.1=none/\p.1≠X.env.locals/\p.1 ∉ X.fs/\∀ v,p.2.data≠.cell v):Inv X pins' σ H s :=
 ⟨I.ok,I.os,I.bare,I.base,I.loc,I.cell,I.free,I.freeC,λp hp=>(Ã6.mp hp).elim (λz=>I.pin p (Æ5 _ z)) (h p),I.hok,I.len⟩
÷d91{N:List Str}(hN:N.Nodup){i j:Nat}{x:Str}(a:N[i]?=some x)(b:N[j]?=some x):i=j:=by
 ¶⟨h1,e1⟩:=Ý.mp a
 ¶⟨h2,e2⟩:=Ý.mp b
 §(List.getElem_inj hN).mp (e1.trans e2.symm)
÷B80{M:Model}{A:ø}{E:Ä->Æ->Prop}{i:Nat}{x:Str}{v:V}{u:Ä}{Q:Unit->Æ->Prop}(I:Inv X pins σ H s)(hN:X.N.Nodup)(hi:X.N[i]?=some x)(hx:Loc X.env.scope x)(r:RelV v u)
  (h:∀ s',Inv X pins (σ.set i (some v)) H s'->(∃ a,Ë9 a s.heap s'.heap/\(a=X.env.locals∨X.env.cells.lookup x=some a))->Q () s') (hf:X.fn x=true∨X.env.scope.names.lookup x=some .local:=by first | §.inl rfl | §.inr rfl | assumption):Ï M A (storeName X.env x u) Q E s:=by
 ¶⟨m,hn,hl⟩:=id I.loc
 have hcls:(X.env.scope.kind == .class || (X.env.scope.kind == .module&&X.env.locals != X.env.globals))=false:=by rw[I.ok.kind];rfl
 have hiσ:i < σ.length:=by rw[I.len];§(Ý.mp hi).1
 have cne:=I.cne
 have tracked:∀ {a:Ç}{h':ì},(∃ o,s.heap.get? a=some o/\H a=none)->Ë9 a s.heap h'->HOk X.prog X.w H h':=λ{a h'} ha hs b ob e=>by
  ¶⟨_,_,hfree⟩:=ha
  ¤(I.hok b ob e).l21 (λc w' hc q=>(hs.2 c ?_).trans q) (λ_ q=>q) λ_ _ q=>q
  rintro rfl
  rcases hc with rfl | hc
  ·rw[hfree] at e;cases e
  ·rw[hfree] at hc;cases hc
 rcases hx with hk | hk
 ·¤wpAny_storeName_local hk hn (λh' hn' hs=>?_) hcls
  ¶⟨oL,_,_,hoL,_⟩:=id hn
  ¤h _ ⟨I.ok,I.os,I.bare,⟨λb o e n hb hx=>?_,λb o e n hb hx=>?_,I.base.free,λb o e hx=>?_,I.base.tups,I.base.frzs,I.base.tbls⟩,⟨_,hn',λj y v' e1 e2 e3=>?_⟩,λy c e=>?_,I.free,I.freeC,λp hp=>?_,tracked ⟨oL,hoL,I.free⟩ hs,by simpa using I.len⟩ ⟨_,hs,.inl rfl⟩
  ·§(hs.2 b (Ù (Ú (à e) I.ok.above))).trans (I.base.keep b o e n hb hx)
  ·¶⟨sl,e1⟩:=I.base.slot b o e n hb hx
   §⟨sl,(hs.2 b (Ù (Ú (à e) I.ok.above))).trans e1⟩
  ·¶⟨o',e1⟩:=I.base.there b o e hx
   §⟨o',(hs.2 b (Ù (Ú (à e) I.ok.above))).trans e1⟩
  ·by_cases hj:j=i
   ·subst hj
    rw[hi] at e1;cases e1
    rw[ñ hiσ] at e2
    cases e2
    §⟨u,r,.inl ⟨hk,by simp⟩⟩
   ·rw[ê (Â3 hj)] at e2
    ¶⟨u',r',q⟩:=hl j y v' e1 e2 e3
    ¤⟨u',r',?_⟩
    rcases q with ⟨k,e⟩ | ⟨k,c,e,z⟩
    ·¤.inl ⟨k,?_⟩
     have:y≠x:=λe=>hj (d91 hN e1 (e ▸ hi))
     simp[this,e]
    ·§.inr ⟨k,c,e,z.sameBut hs (cne y c e)⟩
  ·¶⟨w',z⟩:=I.cell y c e
   §⟨w',z.sameBut hs (cne y c e)⟩
  ·¶⟨e,n,ne,nf,d⟩:=I.pin p hp
   §⟨(hs.2 p.1 ne).trans e,n,ne,nf,d⟩
 ·have hfn:X.fn x=true:=by
   rcases hf with z | z
   ·§z
   ·rw[z] at hk;cases hk
  ¶⟨c,hc⟩:=I.ok.has x (.inl hk)
  ¶⟨w',z⟩:=I.cell x c hc
  ¤wpAny_storeName_cell I.ok.kind hk hc z (λh' hc' hs=>?_)
  ¶⟨oc,hoc,hocd⟩:=id z
  ¤h { s with heap:=h' } ⟨I.ok,I.os,I.bare,⟨λb o e n hb hx=>?_,λb o e n hb hx=>?_,I.base.free,λb o e hx=>?_,I.base.tups,I.base.frzs,I.base.tbls⟩,⟨m,hn.sameBut hs (Â3 (cne x c hc)),λj y v' e1 e2 e3=>?_⟩,λy c' e=>?_,I.free,I.freeC,λp hp=>?_,tracked ⟨oc,hoc,I.freeC x c hc⟩ hs,by simpa using I.len⟩ ⟨c,hs,.inr hc⟩
  ·§(hs.2 b (Ù (Ú (à e) (I.ok.cab x c hfn hc)))).trans (I.base.keep b o e n hb hx)
  ·¶⟨sl,e1⟩:=I.base.slot b o e n hb hx
   §⟨sl,(hs.2 b (Ù (Ú (à e) (I.ok.cab x c hfn hc)))).trans e1⟩
  ·¶⟨o',e1⟩:=I.base.there b o e hx
   §⟨o',(hs.2 b (Ù (Ú (à e) (I.ok.cab x c hfn hc)))).trans e1⟩
  ·by_cases hj:j=i
   ·subst hj
    rw[hi] at e1;cases e1
    rw[ñ hiσ] at e2
    cases e2
    §⟨u,r,.inr ⟨.inl hk,c,hc,hc'⟩⟩
   ·rw[ê (Â3 hj)] at e2
    ¶⟨u',r',q⟩:=hl j y v' e1 e2 e3
    ¤⟨u',r',?_⟩
    rcases q with q | ⟨k,c',e,z'⟩
    ·§.inl q
    ·¤.inr ⟨k,c',e,z'.sameBut hs ?_⟩
     rintro rfl
     §hj (d91 hN e1 (I.ok.inj _ _ _ e hc ▸ hi))
  ·by_cases hcc:c'=c
   ·subst hcc;§⟨_,hc'⟩
   ·¶⟨w2,z2⟩:=I.cell y c' e
    §⟨w2,z2.sameBut hs hcc⟩
  ·¶⟨e,n,ne,nf,d⟩:=I.pin p hp
   ¤⟨(hs.2 p.1 ?_).trans e,n,ne,nf,d⟩
   intro q
   rw[q,hoc] at e
   have q':oc=p.2:=À7 e
   §d w' (by rw[← q'];§hocd)
÷t80{M:Model}{A:ø}{E:Ä->Æ->Prop}{i:Nat}{x:Str}{v:V}{u:Ä}{Q:Unit->Æ->Prop}(I:Inv X pins σ H s)(hN:X.N.Nodup)(hi:X.N[i]?=some x)(hx:Loc X.env.scope x)(r:RelV v u)
  (h:∀ s',Inv X pins (σ.set i (some v)) H s'->Q () s') (hf:X.fn x=true∨X.env.scope.names.lookup x=some .local:=by first | §.inl rfl | §.inr rfl | assumption):Ï M A (storeName X.env x u) Q E s :=
 B80 I hN hi hx r (λs' I' _=>h s' I') hf
÷Inv.m12(I:Inv X pins σ H s)(ho:s'.os=s.os)(u:Un (frs X.stack) ch H H' s.heap s'.heap)(hok:HOk X.prog X.w H' s'.heap)(hg:Ó5 s'.gens)
  (hch:∀ b∈ch,(b∈X.ex∨X.s₀.heap.objs.size<=b)/\b≠X.env.locals/\(∀ x c,X.env.cells.lookup x=some c->c≠b)/\∀ p∈X.pn++pins,p.1≠b):Inv X pins σ H' s':=by
 ¶⟨h',g',d',t',o'⟩:=s'
 have e:o'=s.os:=ho
 subst e
 §I.call (g':=g') (t':=t') (d':=d') u hok hg hch
end
abbrev XK:=Ä->Option Ç->Hp->Prop
abbrev St:=List (Option V)
abbrev VK:=V->Hp->Prop
abbrev TE:=St->Hp->VK->Prop
abbrev TT:=St->Hp->(Bool->Hp->Prop)->Prop
abbrev TA:=St->Hp->(List V->Hp->Prop)->Prop
structure Ends where
 nx:St->Hp->Prop
 rt:VK
 bk:St->Hp->Prop:=λ_ _=>False
 ct:St->Hp->Prop:=λ_ _=>False
abbrev TS:=Ends->St->Hp->Prop
def EP(X:Cx)(pins:List (Ç × Obj))(σ:St)(Q:VK)(u:Ä)(s':Æ):Prop:=∃ v H',Inv X pins σ H' s'/\RelV v u/\Q v H'
def TP(X:Cx)(pins:List (Ç × Obj))(σ:St)(Q:Bool->Hp->Prop)(b:Bool)(s':Æ):Prop:=∃ H',Inv X pins σ H' s'/\Q b H'
def AP(X:Cx)(pins:List (Ç × Obj))(σ:St)(Q:List V->Hp->Prop)(us:List Ä)(s':Æ):Prop:=∃ vs H',Inv X pins σ H' s'/\Vals vs us/\Q vs H'
def SP(X:Cx)(pins:List (Ç × Obj))(D:Ends)(f:Flow)(s':Æ):Prop :=
 match f with
 |.next=>∃ σ' H',Inv X pins σ' H' s'/\D.nx σ' H'
 |.brk=>∃ σ' H',Inv X pins σ' H' s'/\D.bk σ' H'
 |.cont=>∃ σ' H',Inv X pins σ' H' s'/\D.ct σ' H'
 |.ret u=>∃ v σ' H',Inv X pins σ' H' s'/\RelV v u/\D.rt v H'
def PE(X:Cx)(e:Ò)(t:TE):Prop :=
 ∀ (pins:List (Ç × Obj)) (s:Æ) (σ:St) (H:Hp) (Q:VK),Inv X pins σ H s->t σ H Q->Ï (Ô X.prog X.w) X.A (eval e X.env) (EP X pins σ Q) X.xe s
def PT(X:Cx)(e:Ò)(t:TT):Prop :=
 ∀ (pins:List (Ç × Obj)) (s:Æ) (σ:St) (H:Hp) (Q:Bool->Hp->Prop),Inv X pins σ H s->t σ H Q->Ï (Ô X.prog X.w) X.A (isTrue e X.env (eval e X.env)) (TP X pins σ Q) X.xe s
def PW(X:Cx)(e:Ò)(t:TT):Prop :=
 ∀ (whole:Sem Ä) (pins:List (Ç × Obj)) (s:Æ) (σ:St) (H:Hp) (Q:Bool->Hp->Prop),Inv X pins σ H s->t σ H Q->Ï (Ô X.prog X.w) X.A (isTrue e X.env whole) (TP X pins σ Q) X.xe s
÷PW.pt(h:PW X e t):PT X e t:=h _
def PA(X:Cx)(es:List Ò)(t:TA):Prop :=
 ∀ (pos:Pos) (pins:List (Ç × Obj)) (s:Æ) (σ:St) (H:Hp) (Q:List V->Hp->Prop),Inv X pins σ H s->t σ H Q->Ï (Ô X.prog X.w) X.A (spliced (Õ9 pos (þ es X.env))) (AP X pins σ Q) X.xe s
def PS(X:Cx)(st:Å1)(t:TS):Prop :=
 ∀ (pins:List (Ç × Obj)) (s:Æ) (σ:St) (H:Hp) (D:Ends),Inv X pins σ H s->t D σ H->Ï (Ô X.prog X.w) X.A (exec st X.env) (SP X pins D) X.xe s
def PSs(X:Cx)(st:List Å1)(t:TS):Prop :=
 ∀ (pins:List (Ç × Obj)) (s:Æ) (σ:St) (H:Hp) (D:Ends),Inv X pins σ H s->t D σ H->Ï (Ô X.prog X.w) X.A (execs st X.env) (SP X pins D) X.xe s
÷thn{α:Type}{t:Sem α}{Q Q':α->Æ->Prop}{M:Model}{A:ø}{E:Ä->Æ->Prop}{s:Æ}(h:Ï M A t Q E s)(hQ:∀ a s,Q a s->Q' a s):Ï M A t Q' E s:=Â1 h hQ λ_ _ x=>x
section
variable {X:Cx}
def m22(i:Nat):TE:=λσ H Q=>∃ v,σ[i]?=some (some v)/\Q v H
def tC(v:V):TE:=λ_ H Q=>Q v H
÷o50{i:Nat}{x:Str}{pos:Pos}(hN:X.N[i]?=some x)(hv:Vis X.env.scope x)(hd:(x == ("__debug__":Str))=false:=by decide)(hcd:(x == ("__classdict__":Str))=false:=by decide):PE X (.Name x pos) (m22 i):=by
 intro pins s σ H Q I h
 ¶⟨v,e,h⟩:=h
 ¶⟨m,hn,hl⟩:=I.loc
 ¶⟨u,r,l⟩:=hl i x v hN e hv
 have fin:EP X pins σ Q u s:=⟨v,H,I,r,h⟩
 rcases l with ⟨hk,hm⟩ | ⟨hk,c,hc,hcell⟩
 ·§Ñ1 (Î8 I.ok.kind hk hn hm fin) hd
 ·rcases hk with hk | hk
  ·§Ñ1 (Ú5 I.ok.kind hk hc hcell fin) hd
  ·§Ñ1 (wpAny_loadName_free I.ok.kind hk hc hcell fin hcd) hd
÷P30{i j pos}:PE X (.Constant (.int i) j pos) (tC (.int i)):=λ_ _ _ H _ I h=>wpAny_Constant_int ⟨.int i,H,I.tok _,⟨_,rfl⟩,h⟩
÷C72{b j pos}:PE X (.Constant (.bool b) j pos) (tC (.bl b)):=λ_ _ _ H _ I h=>Constant_bool ⟨.bl b,H,I,rfl,h⟩
÷q61{j pos}:PE X (.Constant .none j pos) (tC .non):=λ_ _ _ H _ I h=>Constant_none ⟨.non,H,I,rfl,h⟩
÷S41{x j pos}:PE X (.Constant (.str x) j pos) (tC (.str x)):=λ_ _ _ H _ I h=>Calls.Constant_str ⟨.str x,H,I.tok _,⟨_,rfl⟩,h⟩
def Gl(X:Cx)(x:Str):Prop:=X.env.kindOf x=some .globalImplicit
÷I70{E:Ä->Æ->Prop}{pins:List (Ç × Obj)}{s:Æ}{σ:St}{H:Hp}{x:Str}{u:Ä}{pos:Pos}{Q:Ä->Æ->Prop}(I:Inv X pins σ H s)(hg:Gl X x)(hm:X.mg x=some u)(h:Q u s)
  (hd:(x == ("__debug__":Str))=false:=by decide):Ï (Ô X.prog X.w) X.A (eval (.Name x pos) X.env) Q E s :=
 Ï3 I.ok.kind hg (à1 (by rw[I.ok.glob];§I.mod.glob.keeps I.bk) hm h) hd
÷t90{E:Ä->Æ->Prop}{pins:List (Ç × Obj)}{s:Æ}{σ:St}{H:Hp}{x:Str}{u:Ä}{pos:Pos}{Q:Ä->Æ->Prop}(I:Inv X pins σ H s)(hg:Gl X x)(hm:X.mg x=none)(hv:ë x=some u)(h:Q u s)
  (hn:x≠"__name__":=by decide) (hd:(x == ("__debug__":Str))=false:=by decide):Ï (Ô X.prog X.w) X.A (eval (.Name x pos) X.env) Q E s:=by
 ¶⟨mb,h1,h2⟩:=I.mod.blt
 §Ï3 I.ok.kind hg (Calls.loadGlobal_builtin (by rw[I.ok.glob];§I.mod.glob.keeps I.bk) hm (by rw[I.ok.blt];§h1.keeps I.bk) ((h2 x hn).trans hv) h) hd
÷f60{x:Str}{v:V}{u:Ä}{pos:Pos}(hg:Gl X x)(hm:X.mg x=some u)(r:RelV v u)(hd:(x == ("__debug__":Str))=false:=by decide):PE X (.Name x pos) (tC v) :=
 λ_ _ _ H _ I h=>I70 I hg hm ⟨v,H,I,r,h⟩ hd
÷I80{x:Str}{v:V}{u:Ä}{pos:Pos}(hg:Gl X x)(hm:X.mg x=none)(hv:ë x=some u)(r:RelV v u)(hn:x≠"__name__":=by decide)(hd:(x == ("__debug__":Str))=false:=by decide):PE X (.Name x pos) (tC v) :=
 λ_ _ _ H _ I h=>t90 I hg hm hv ⟨v,H,I,r,h⟩ hn hd
variable {a b:Ò}{ta tb:TE}{pos:Pos}
def tB(t:TE):TT:=λσ H Q=>t σ H λx H1=>∃ c,x=.bl c/\Q c H1
÷q71(h:PE X e t)(he:∀ whole,isTrue e X.env whole=(do let v ← whole;standAt e.pos;Ù7 [v] (truthy v)):=by intro _;rfl):PT X e (tB t):=by
 intro pins s σ H Q I hw
 ¤isTrue_plain (thn (h pins s σ H _ I hw) λv s1 ⟨x,H1,I1,r1,q1⟩=>?_) (he _)
 ¶⟨d,rfl,q⟩:=q1
 cases r1
 §Â6 ⟨H1,I1,q⟩
variable {tA tB':TT}{rest:List Ò}
def Q62(t u:TT):TT:=λσ H Q=>t σ H λc H1=>if c=true then u σ H1 Q else Q false H1
def tOr(t u:TT):TT:=λσ H Q=>t σ H λc H1=>if c=true then Q true H1 else u σ H1 Q
def Q72(t:TT):TT:=λσ H Q=>t σ H λc H1=>Q (!c) H1
÷X71(ha:PT X a tA):PW X (.BoolOp .And [a] pos) tA:=by
 intro wh pins s σ H Q I h
 ¤isTrue_and (thn (ha pins s σ H Q I h) λc s1 e=>?_)
 cases c with
 |true=>§isTrue_and_nil e
 |false=>§e
÷m32(ha:PT X a tA):PW X (.BoolOp .Or [a] pos) tA:=by
 intro wh pins s σ H Q I h
 ¤isTrue_or (thn (ha pins s σ H Q I h) λc s1 e=>?_)
 cases c with
 |false=>§isTrue_or_nil e
 |true=>§e
÷m42(ha:PT X a tA)(hb:PW X (.BoolOp .And (b::rest) pos) tB'):PW X (.BoolOp .And (a::b::rest) pos) (Q62 tA tB'):=by
 intro wh pins s σ H Q I h
 ¤isTrue_and (thn (ha pins s σ H _ I h) λc s1 ⟨H1,I1,q1⟩=>?_)
 cases c with
 |true=>§hb wh pins s1 σ H1 Q I1 q1
 |false=>§⟨H1,I1,q1⟩
÷C82(ha:PT X a tA)(hb:PW X (.BoolOp .Or (b::rest) pos) tB'):PW X (.BoolOp .Or (a::b::rest) pos) (tOr tA tB'):=by
 intro wh pins s σ H Q I h
 ¤isTrue_or (thn (ha pins s σ H _ I h) λc s1 ⟨H1,I1,q1⟩=>?_)
 cases c with
 |true=>§⟨H1,I1,q1⟩
 |false=>§hb wh pins s1 σ H1 Q I1 q1
÷S51(ha:PT X a tA):PT X (.UnaryOp .Not a pos) (Q72 tA):=by
 intro pins s σ H Q I h
 §isTrue_not (ha pins s σ H (λc H1=>Q (!c) H1) I h)
def C92(ta tb:TE):TE:=λσ H Q=>ta σ H λx H1=>∃ c,x=.bl c/\if c=true then tb σ H1 Q else Q (.bl false) H1
def Q82(ta tb:TE):TE:=λσ H Q=>ta σ H λx H1=>∃ c,x=.bl c/\if c=true then Q (.bl true) H1 else tb σ H1 Q
def D02(ta:TE):TE:=λσ H Q=>ta σ H λx H1=>∃ c,x=.bl c/\Q (.bl (!c)) H1
÷m52(h:PE X a t):PE X (.BoolOp op [a] pos) t:=λpins s σ H Q I hw=>BoolOp_one (h pins s σ H Q I hw)
÷m62(ha:PE X a ta)(hb:PE X (.BoolOp .And (b::rest) pos) tb):PE X (.BoolOp .And (a::b::rest) pos) (C92 ta tb):=by
 intro pins s σ H Q I h
 ¤BoolOp_and (thn (ha pins s σ H _ I h) λv s1 ⟨x,H1,I1,r1,q1⟩=>?_)
 ¶⟨c,rfl,q1⟩:=q1
 cases r1
 ¤Â6 ?_
 cases c with
 |true=>§hb pins s1 σ H1 Q I1 q1
 |false=>§⟨.bl false,H1,I1,rfl,q1⟩
÷D12(ha:PE X a ta)(hb:PE X (.BoolOp .Or (b::rest) pos) tb):PE X (.BoolOp .Or (a::b::rest) pos) (Q82 ta tb):=by
 intro pins s σ H Q I h
 ¤BoolOp_or (thn (ha pins s σ H _ I h) λv s1 ⟨x,H1,I1,r1,q1⟩=>?_)
 ¶⟨c,rfl,q1⟩:=q1
 cases r1
 ¤Â6 ?_
 cases c with
 |false=>§hb pins s1 σ H1 Q I1 q1
 |true=>§⟨.bl true,H1,I1,rfl,q1⟩
÷m72(ha:PE X a ta):PE X (.UnaryOp .Not a pos) (D02 ta):=by
 intro pins s σ H Q I h
 ¤UnaryOp_ (thn (ha pins s σ H _ I h) λv s1 ⟨x,H1,I1,r1,q1⟩=>?_)
 ¶⟨c,rfl,q1⟩:=q1
 cases r1
 §not_of (Â6 ⟨.bl (!c),H1,I1,rfl,q1⟩)
def tIf(t:TT)(ta tb:TE):TE:=λσ H Q=>t σ H λc H1=>if c=true then ta σ H1 Q else tb σ H1 Q
÷H41(hc:PT X c tA)(ha:PE X a ta)(hb:PE X b tb):PE X (.IfExp c a b pos) (tIf tA ta tb):=by
 intro pins s σ H Q I h
 ¤wpAny_IfExp (thn (hc pins s σ H _ I h) λd s1 ⟨H1,I1,q1⟩=>?_)
 cases d with
 |true=>§ha pins s1 σ H1 Q I1 q1
 |false=>§hb pins s1 σ H1 Q I1 q1
end
def SqL(K:Â)(H:Hp)(a:Ç)(xs:List V):Prop :=
 Rd H a (.lst xs) ∨
  ∃ (o:Obj) (its:Array Ä) (n:Nat),K.lookup a=some o/\o.cls=.type "list"/\o.dict=none/\o.data=.seq its n/\its.size<=Û/\Vals xs its.toList
def SqT(K:Â)(H:Hp)(a:Ç)(xs:List V):Prop :=
 Rd H a (.tup xs) ∨
  ∃ (o:Obj) (its:Array Ä) (n:Nat),K.lookup a=some o/\o.cls=.type "tuple"/\o.data=.seq its n/\its.size<=Û/\Vals xs its.toList
def Q92:Ä->Option V
 |.none=>some .non
 |.bool b=>some (.bl b)
 |.int i _=>some (.int i)
 |.str x _=>some (.str x)
 |.bytes b _=>some (.byt b)
 |.float b _=>some (.flt b)
 |.ref a=>some (.ref a)
 |.type n=>some (.ty n)
 |_=>none
÷RelV.abs(r:RelV x u):Q92 u=some x:=by
 cases x with
 |non=>cases r;rfl
 |bl _=>cases r;rfl
 |int _=>¶⟨t,rfl⟩:=r;rfl
 |str _=>¶⟨t,rfl⟩:=r;rfl
 |byt _=>¶⟨t,rfl⟩:=r;rfl
 |flt _=>¶⟨t,rfl⟩:=r;rfl
 |ref _=>cases r;rfl
 |ty _=>cases r;rfl
÷RelV.inj(r:RelV x u)(q:RelV y u):x=y:=À7 (r.abs.symm.trans q.abs)
÷Vals.inj:∀ {xs ys:List V}{us:List Ä},Vals xs us->Vals ys us->xs=ys
 |_,_,_,.nil,.nil=>rfl
 |_,_,_,.cons r t,.cons r' t'=>by rw[r.inj r',Vals.inj t t']
section
variable {X:Cx}{pins:List (Ç × Obj)}{σ:St}{H:Hp}{s:Æ}{a:Ç}{xs ys:List V}
÷SqL.of{K:Â}(h:H a=some (.lst xs)):SqL K H a xs:=.inl (.inl h)
÷SqT.of{K:Â}(h:H a=some (.tup xs)):SqT K H a xs:=.inl (.inl h)
÷Inv.list(I:Inv X pins σ H s)(h:SqL X.K H a xs):∃ its:List Ä,Vals xs its/\PlainL s.heap a its.toArray/\xs.length<=sizeLine:=by
 rcases h with h | ⟨o,its,n,hk,hc,hd,hs,hz,r⟩
 ·¶⟨z,its,n,r,e⟩:=h.ok I.hok
  §⟨its,r,⟨_,n,e,rfl,rfl,rfl⟩,z⟩
 ·¤⟨its.toList,r,⟨o,n,I.kIn a o hk,hc,hd,by simpa using hs⟩,?_⟩
  have e:=r.length
  simp only[Ê8] at e
  omega
÷Inv.tuple(I:Inv X pins σ H s)(h:SqT X.K H a xs):∃ its:List Ä,Vals xs its/\Ï2 s.heap a its.toArray/\xs.length<=sizeLine:=by
 rcases h with h | ⟨o,its,n,hk,hc,hs,hz,r⟩
 ·¶⟨z,its,r,p⟩:=h.ok I.hok
  §⟨its,r,p,z⟩
 ·¤⟨its.toList,r,⟨o,I.kIn a o hk,hc,n,by simpa using hs⟩,?_⟩
  have e:=r.length
  simp only[Ê8] at e
  omega
÷Inv.e01(I:Inv X pins σ H s)(h:SqL X.K H a xs)(h':SqL X.K H a ys):xs=ys:=by
 ¶⟨its,r,⟨o,n,e,_,_,d⟩,_⟩:=I.list h
 ¶⟨its',r',⟨o',n',e',_,_,d'⟩,_⟩:=I.list h'
 rw[e] at e';cases e'
 rw[d] at d'
 injection d' with d1 _
 have:its=its':=by simpa using congrArg toList d1
 subst this
 §r.inj r'
÷Inv.P40(I:Inv X pins σ H s)(h:SqT X.K H a xs)(h':SqT X.K H a ys):xs=ys:=by
 ¶⟨its,r,⟨o,e,_,n,d⟩,_⟩:=I.tuple h
 ¶⟨its',r',⟨o',e',_,n',d'⟩,_⟩:=I.tuple h'
 rw[e] at e';cases e'
 rw[d] at d'
 injection d' with d1 _
 have:its=its':=by simpa using congrArg toList d1
 subst this
 §r.inj r'
end
abbrev Cx.G91(X:Cx)(E:Ä->Æ->Prop):Cx:={ X with xe:=E }
abbrev Cx.nox(X:Cx):Cx:=X.G91 λ_ _=>False
÷Cx.Ok.G91{X:Cx}(ok:X.Ok)(E:Ä->Æ->Prop):(X.G91 E).Ok :=
 ⟨ok.mod,ok.kind,ok.glob,ok.blt,ok.above,ok.inj,ok.has,ok.cab,ok.hd,ok.frames,ok.stk,ok.exf,ok.bs,ok.bsz,ok.noex,ok.exfs,ok.l31,ok.frf⟩
÷Cx.Ok.y10{X:Cx}{E:Ä->Æ->Prop}(ok:(X.G91 E).Ok):X.Ok :=
 ⟨ok.mod,ok.kind,ok.glob,ok.blt,ok.above,ok.inj,ok.has,ok.cab,ok.hd,ok.frames,ok.stk,ok.exf,ok.bs,ok.bsz,ok.noex,ok.exfs,ok.l31,ok.frf⟩
section
variable {X:Cx}{pins:List (Ç × Obj)}{σ:St}{H:Hp}{s:Æ}{E:Ä->Æ->Prop}
÷Inv.G91(I:Inv X pins σ H s)(E:Ä->Æ->Prop):Inv (X.G91 E) pins σ H s:=⟨I.ok.G91 E,I.os,I.bare,I.base,I.loc,I.cell,I.free,I.freeC,I.pin,I.hok,I.len⟩
÷Inv.y10(I:Inv (X.G91 E) pins σ H s):Inv X pins σ H s:=⟨I.ok.y10,I.os,I.bare,I.base,I.loc,I.cell,I.free,I.freeC,I.pin,I.hok,I.len⟩
÷SP.y10{D:Ends}{f:Flow}{s':Æ}(h:SP (X.G91 E) pins D f s'):SP X pins D f s':=by
 cases f with
 |next=>¶⟨σ',H',I,q⟩:=h;§⟨σ',H',I.y10,q⟩
 |brk=>¶⟨σ',H',I,q⟩:=h;§⟨σ',H',I.y10,q⟩
 |cont=>¶⟨σ',H',I,q⟩:=h;§⟨σ',H',I.y10,q⟩
 |ret u=>¶⟨v,σ',H',I,r,q⟩:=h;§⟨v,σ',H',I.y10,r,q⟩
÷PSs.nox{st:List Å1}{t:TS}(h:PSs X.nox st t):PSs X st t:=λpins s σ H D I hw =>
 Â1 (h pins s σ H D (I.G91 _) hw) (λ_ _ q=>q.y10) λ_ _ z=>À3 z
end
section
variable {X:Cx}{st:Å1}{rest:List Å1}{t u:TS}{e:Ò}{te:TE}{pos:Pos}
def D22:TS:=λD σ H=>D.nx σ H
def R02(t u:TS):TS:=λD σ H=>t { D with nx:=u D } σ H
÷q81:PSs X [] D22:=λ_ _ σ H _ I h=>Ï4 ⟨σ,H,I,h⟩
÷j60(h1:PS X st t)(h2:PSs X rest u):PSs X (st::rest) (R02 t u):=by
 intro pins s σ H D I h
 ¤Ô8 (thn (h1 pins s σ H { D with nx:=u D } I h) λf s1 q=>?_)
 cases f with
 |next =>
  ¶⟨σ',H',I',q⟩:=q
  §h2 pins s1 σ' H' D I' q
 |ret v=>§q
 |brk=>§q
 |cont=>§q
÷q91(h1:PS X st t):PSs X [st] t:=by
 intro pins s σ H D I h
 ¤Ô8 (thn (h1 pins s σ H D I h) λf s1 q=>?_)
 cases f with
 |next=>§Ï4 q
 |ret v=>§q
 |brk=>§q
 |cont=>§q
÷Inv.quiet(I:Inv X pins σ H s):interactive X.env=false:=by simp[interactive,I.ok.kind]
def m82(te:TE):TS:=λD σ H=>te σ H λ_ H1=>D.nx σ H1
÷X60(he:PE X e te)(hs:Ô9 e none pos.line X.env=pure false:=by rfl):PS X (.Expr e pos) (m82 te):=by
 intro pins s σ H D I h
 §wpAny_Expr_any (thn (he pins s σ H _ I h) λv s1 ⟨x,H1,I1,r1,q1⟩=>⟨σ,H1,I1,q1⟩) I.quiet hs
def R12(te:TE):TS:=λD σ H=>te σ H D.rt
÷e11(he:PE X e te):PS X (.Return (some e) pos) (R12 te):=by
 intro pins s σ H D I h
 §wpAny_Return_some (thn (he pins s σ H _ I h) λv s1 ⟨x,H1,I1,r1,q1⟩=>⟨x,σ,H1,I1,r1,q1⟩)
def D32:TS:=λD _ H=>D.rt .non H
÷X81:PS X (.Return none pos) D32:=λ_ _ σ H _ I h=>wpAny_Return_none ⟨.non,σ,H,I,rfl,h⟩
def R22(c:TT)(t u:TS):TS:=λD σ H=>c σ H λb H1=>if b=true then t D σ H1 else u D σ H1
÷m92(hc:PT X c tc)(ha:PSs X a t)(hb:PSs X b u):PS X (.If c a b pos) (R22 tc t u):=by
 intro pins s σ H D I h
 ¤wpAny_If (thn (hc pins s σ H _ I h) λd s1 ⟨H1,I1,q1⟩=>?_)
 cases d with
 |true=>§ha pins s1 σ H1 D I1 q1
 |false=>§hb pins s1 σ H1 D I1 q1
end
abbrev TG:=V->St->Hp->(St->Hp->Prop)->Prop
abbrev TGs:=List V->St->Hp->(St->Hp->Prop)->Prop
def PG(X:Cx)(target:Ò)(t:TG):Prop :=
 ∀ (pins:List (Ç × Obj)) (s:Æ) (σ:St) (H:Hp) (v:V) (u:Ä) (Q:St->Hp->Prop),Inv X pins σ H s->RelV v u->t v σ H Q ->
  Ï (Ô X.prog X.w) X.A (Ù3 target X.env u) (λ_ s'=>∃ σ' H',Inv X pins σ' H' s'/\Q σ' H') X.xe s
def PGs(X:Cx)(ts:List Ò)(t:TGs):Prop :=
 ∀ (pins:List (Ç × Obj)) (s:Æ) (σ:St) (H:Hp) (vs:List V) (us:List Ä) (Q:St->Hp->Prop),Inv X pins σ H s->Vals vs us->t vs σ H Q ->
  Ï (Ô X.prog X.w) X.A (assignInOrder ((Ê2 ts X.env).map (·.2)) us) (λ_ s'=>∃ σ' H',Inv X pins σ' H' s'/\Q σ' H') X.xe s
abbrev B32:=V->V->V->Hp->(Hp->Prop)->Prop
def D42(X:Cx)(t:B32):Prop :=
 ∀ (pins:List (Ç × Obj)) (s:Æ) (σ:St) (H:Hp) (o i v:V) (ov iv u:Ä) (Q:Hp->Prop),Inv X pins σ H s->RelV o ov->RelV i iv->RelV v u->t o i v H Q ->
  Ï (Ô X.prog X.w) X.A (setItem ov iv u) (λ_ s'=>∃ H',Inv X pins σ H' s'/\Q H') X.xe s
abbrev TIp:=V->V->Hp->VK->Prop
def PIp(X:Cx)(op:Ý8)(t:TIp):Prop :=
 ∀ (pins:List (Ç × Obj)) (s:Æ) (σ:St) (H:Hp) (x y:V) (v u:Ä) (Q:VK),Inv X pins σ H s->RelV x v->RelV y u->t x y H Q ->
  Ï (Ô X.prog X.w) X.A (inplaceOp op v u) (EP X pins σ Q) X.xe s
section
variable {X:Cx}{pos:Pos}
def X70(i:Nat):TG:=λv σ H Q=>Q (σ.set i (some v)) H
÷r01{i:Nat}{x:Str}(hN:X.N.Nodup)(hi:X.N[i]?=some x)(hx:Loc X.env.scope x)(hf:X.fn x=true∨X.env.scope.names.lookup x=some .local:=by first | §.inl rfl | §.inr rfl | assumption):PG X (.Name x pos) (X70 i):=by
 intro pins s σ H v u Q I r h
 §wpAny_assign_Name (t80 I hN hi hx r (λs' I'=>⟨_,H,I',h⟩) hf)
def N62:TGs:=λvs σ H Q=>vs=[]/\Q σ H
def n02(t:TG)(u:TGs):TGs:=λvs σ H Q=>∃ v r,vs=v::r/\t v σ H λσ' H'=>u r σ' H' Q
÷X91:PGs X [] N62:=by
 intro pins s σ H vs us Q I r h
 ¶⟨e,h⟩:=h
 subst e
 cases r
 §assignInOrder_nil ⟨σ,H,I,h⟩
÷H51(h1:PG X e t)(h2:PGs X es u)
  (hs:(Ê2 (e::es) X.env).map (·.2)=Ù3 e X.env::(Ê2 es X.env).map (·.2):=by rfl):PGs X (e::es) (n02 t u):=by
 intro pins s σ H vs us Q I r h
 ¶⟨v,vr,e1,h⟩:=h
 subst e1
 cases r with
 |cons r rr =>
  rw[hs]
  ¤Ü3 (thn (h1 pins s σ H _ _ _ I r h) λ_ s1 ⟨σ1,H1,I1,q1⟩=>?_)
  §h2 pins s1 σ1 H1 _ _ Q I1 rr q1
def N72(K:Â)(n:Nat)(t:TGs):TG:=λv σ H Q=>∃ a xs,v=.ref a/\SqT K H a xs/\xs.length=n/\t xs σ H Q
÷n12{k:Nat}{n:Nat}(hc:X.calm=true)(h:PGs X es t)
  (hn:(Ê2 es X.env).length=n:=by rfl) (hst:(Ê2 es X.env).findIdx? (·.1)=none:=by rfl):PG X (.Tuple es k pos) (N72 X.K n t):=by
 intro pins s σ H v u Q I r hw
 ¶⟨a,xs,e1,hq,hl,hw⟩:=hw
 subst e1
 cases r
 ¶⟨its,rv,ht,hz⟩:=I.tuple hq
 ¤assign_Tuple_tuple (I.ok.hd hc) ht (by simp[hn,← hl,rv.length]) hst λh' hx=>?_
 have I1:Inv X pins σ H { s with heap:=h' }:=I.kept (t':=s.toks) λb o e=>hx b o (Ù (à e)) e
 §h pins _ σ H xs _ Q I1 (by simpa using rv) hw
def R32(to ti:TE)(t:B32):TG:=λv σ H Q=>to σ H λo H1=>ti σ H1 λi H2=>t o i v H2 λH3=>Q σ H3
÷n22(ho:PE X o to)(hi:PE X i ti)(hs:D42 X t)
  (ha:∀ v,Ù3 (.Subscript o i pos) X.env v=(do
   let ov ← Ù7 [v] (eval o X.env)
   let iv ← Ù7 [v,ov] (eval i X.env)
   standAt pos
   Ù7 [v,ov,iv] (setItem ov iv v)
   release [v,ov,iv] []):=by intro _;rfl):PG X (.Subscript o i pos) (R32 to ti t):=by
 intro pins s σ H v u Q I r h
 rw[ha]
 ¤À (À8 (thn (ho pins s σ H _ I h) λov s1 ⟨x,H1,I1,r1,q1⟩=>?_))
 ¤À (À8 (thn (hi pins s1 σ H1 _ I1 q1) λiv s2 ⟨y,H2,I2,r2,q2⟩=>?_))
 ¤À (Û4 (À (À8 (thn (hs pins s2 σ H2 x y v ov iv u _ I2 r1 r2 r q2) λ_ s3 ⟨H3,I3,q3⟩=>?_))))
 §wpAny_release ⟨σ,H3,I3,q3⟩
def n32(te:TE)(g:TG):TS:=λD σ H=>te σ H λx H1=>g x σ H1 D.nx
÷S61(he:PE X e te)(hg:PG X tg g)(hs:swapsWithSole [tg] e pos.line X.env=pure false:=by rfl)(hw:Ä6 [tg] e X.env=pure none:=by rfl)
  (h1:(Ê2 [tg] X.env).map (·.2)=[Ù3 tg X.env]:=by rfl):PS X (.Assign [tg] e pos) (n32 te g):=by
 intro pins s σ H D I h
 ¤wpAny_Assign_stores (thn (he pins s σ H _ I h) λv s1 ⟨x,H1,I1,r1,q1⟩=>?_) hs hw
 rw[h1]
 §thn (hg pins s1 σ H1 x v _ I1 r1 q1) λ_ s2 q=>q
÷y20{i:Nat}{x:Str}{e:Ò}{te:TE}{pos':Pos}(hN:X.N.Nodup)(hi:X.N[i]?=some x)(hx:Loc X.env.scope x)(he:PE X e te)(hs:Ô9 e (some (.Name x pos')) pos.line X.env=pure false:=by rfl)(hf:X.fn x=true∨X.env.scope.names.lookup x=some .local:=by first | §.inl rfl | §.inr rfl | assumption) :
  PS X (.Assign [.Name x pos'] e pos) (n32 te (X70 i)):=by
 intro pins s σ H D I h
 ¤wpAny_Assign_Name (thn (he pins s σ H _ I h) λv s1 ⟨y,H1,I1,r1,q1⟩=>?_) hs
 §t80 I1 hN hi hx r1 (λs2 I2=>⟨_,H1,I2,q1⟩) hf
def R42(i j:Nat)(ta:TA):TS:=λD σ H=>ta σ H λvs H1=>∃ v w,vs=[v,w]/\D.nx ((σ.set i (some v)).set j (some w)) H1
÷n42{i j:Nat}{x y:Str}{a b:Ò}{ta:TA}{px py pt:Pos}{kt k2 pt2}(hc:X.calm=true)(hN:X.N.Nodup)(hi:X.N[i]?=some x)(hj:X.N[j]?=some y)(hij:i≠j)
  (hx:X.env.scope.names.lookup x=some .local) (hy:X.env.scope.names.lookup y=some .local) (ha:PA X [a,b] ta)
  (hw:Ä6 [.Tuple [.Name x px,.Name y py] kt pt] (.Tuple [a,b] k2 pt2) X.env=pure (some [x,y]))
  (hs:swapsWithSole [.Tuple [.Name x px,.Name y py] kt pt] (.Tuple [a,b] k2 pt2) pos.line X.env=pure false:=by rfl) :
  PS X (.Assign [.Tuple [.Name x px,.Name y py] kt pt] (.Tuple [a,b] k2 pt2) pos) (R42 i j ta):=by
 intro pins s σ H D I h
 rw[exec_Assign_arm]
 ¤À (Û4 ?_)
 rw[hs]
 ¤À (Å ?_)
 rw[if_neg (by decide)]
 ¤À (Tuple_ (thn (ha _ pins s σ H _ I h) λus s1 ⟨vs,H1,I1,r1,q1⟩=>?_))
 ¶⟨v,w,e1,q1⟩:=q1
 subst e1
 obtain⟨u1,u2,rfl,rv,rw'⟩:∃ u1 u2,us=[u1,u2]/\RelV v u1/\RelV w u2:=by
  cases r1 with
  |cons p q =>
   cases q with
   |cons p' q' =>
    cases q'
    §⟨_,_,rfl,p,p'⟩
 ¤å ?_ (by show 2<=Û;decide)
 have I2:Inv X pins σ H1 { s1 with heap:=s1.heap.push { cls:=.type "tuple",data:=.seq [u1,u2].toArray } }:=I1.kept (t':=s1.toks) λb o e=>Ã _ e
 rw[hw]
 ¤À (Å ?_)
 show Ï (Ô X.prog X.w) X.A (do rule "assign.swapped-stores";let items ← unpackItems (.ref s1.heap.objs.size) 2 none;assignInOrder [λv=>bindName X.env y v,λv=>bindName X.env x v] items.reverse;pure Flow.next) _ _ _
 ¤À (Ê1 (À (unpackItems_tuple (items:=#[u1,u2]) (I.ok.hd hc) (Ï2.new s1.heap _) λh' hx'=>?_)))
 have I3:=I2.kept (h':=h') (t':=s1.toks) λb o e=>hx' b o (Ù (à e)) e
 show Ï _ _ (assignInOrder [λv=>bindName X.env y v,λv=>bindName X.env x v] [u2,u1] >>= λ_=>pure Flow.next) _ _ _
 ¤À (Ü3 (wpAny_bindName (t80 I3 hN hj (.inl hy) rw' (λs2 I4=>?_) (.inr hy))))
 ¤Ü3 (wpAny_bindName (t80 I4 hN hi (.inl hx) rv (λs3 I5=>assignInOrder_nil (Å ?_)) (.inr hx)))
 rw[List.set_comm _ _ (Â3 hij)] at I5
 §⟨_,H1,I5,q1⟩
def R52(i:Nat)(te:TE)(ti:TIp):TS:=λD σ H=>∃ x,σ[i]?=some (some x)/\te σ H λy H1=>ti x y H1 λz H2=>D.nx (σ.set i (some z)) H2
÷N82{i:Nat}{x:Str}{e:Ò}{te:TE}{op:Ý8}{ti:TIp}{pos':Pos}(hN:X.N.Nodup)(hi:X.N[i]?=some x)(hx:Loc X.env.scope x)(he:PE X e te)(ho:PIp X op ti)(hf:X.fn x=true∨X.env.scope.names.lookup x=some .local:=by first | §.inl rfl | §.inr rfl | assumption) :
  PS X (.AugAssign (.Name x pos') op e pos) (R52 i te ti):=by
 intro pins s σ H D I h
 ¶⟨v,e1,h⟩:=h
 ¶⟨m,hn,hl⟩:=I.loc
 have vis:Vis X.env.scope x:=by rcases hx with k | k;§.inl k;§.inr (.inl k)
 ¶⟨u,r,l⟩:=hl i x v hi e1 vis
 ¤wpAny_AugAssign_Name ?_
 have go:Ï (Ô X.prog X.w) X.A (eval e X.env) (λw s₂=>Ï (Ô X.prog X.w) X.A (inplaceOp op u w) (λr s₃=>Ï (Ô X.prog X.w) X.A (storeName X.env x r) (λ_=>SP X pins D .next) X.xe s₃) X.xe s₂) X.xe s:=by
  ¤thn (he pins s σ H _ I h) λw s1 ⟨y,H1,I1,r1,q1⟩=>?_
  ¤thn (ho pins s1 σ H1 v y u w _ I1 r r1 q1) λz s2 ⟨zv,H2,I2,r2,q2⟩=>?_
  §t80 I2 hN hi hx r2 (λs3 I3=>⟨_,H2,I3,q2⟩) hf
 rcases l with ⟨hk,hm⟩ | ⟨hk,c,hc,hcell⟩
 ·§Î8 I.ok.kind hk hn hm go
 ·rcases hk with hk | hk
  ·§Ú5 I.ok.kind hk hc hcell go
  ·rcases hx with k | k
   ·have:X.env.scope.names.lookup x=some .free:=hk
    rw[k] at this;cases this
   ·have:X.env.scope.names.lookup x=some .free:=hk
    rw[k] at this;cases this
def D52(to ti te:TE)(tget:V->V->Hp->VK->Prop)(tip:TIp)(tset:B32):TS:=λD σ H=>to σ H λo H1=>ti σ H1 λi H2=>tget o i H2 λx H3=>te σ H3 λy H4=>tip x y H4 λz H5=>tset o i z H5 λH6=>D.nx σ H6
def N92(X:Cx)(t:V->V->Hp->VK->Prop):Prop :=
 ∀ (pins:List (Ç × Obj)) (s:Æ) (σ:St) (H:Hp) (o i:V) (ov iv:Ä) (Q:VK),Inv X pins σ H s->RelV o ov->RelV i iv->t o i H Q ->
  Ï (Ô X.prog X.w) X.A (Ó3 ov iv) (EP X pins σ Q) X.xe s
÷Y01{o i e:Ò}{to ti te:TE}{tget:V->V->Hp->VK->Prop}{tip:TIp}{tset:B32}{op:Ý8}{tpos:Pos}(ho:PE X o to)(hi:PE X i ti)(hg:N92 X tget)(he:PE X e te)(hp:PIp X op tip)(hs:D42 X tset)
  (ha:∀ ov iv new,augStore i ov iv new=(do Ù7 [new,ov,iv] (setItem ov iv new);release [new,ov,iv] [];pure .next):=by intros;rfl):PS X (.AugAssign (.Subscript o i tpos) op e pos) (D52 to ti te tget tip tset):=by
 intro pins s σ H D I h
 ¤wpAny_AugAssign_SubscriptAny (thn (ho pins s σ H _ I h) λov s1 ⟨x1,H1,I1,r1,q1⟩=>?_) ha
 ¤thn (hi pins s1 σ H1 _ I1 q1) λiv s2 ⟨x2,H2,I2,r2,q2⟩=>?_
 ¤thn (hg pins s2 σ H2 x1 x2 ov iv _ I2 r1 r2 q2) λold s3 ⟨x3,H3,I3,r3,q3⟩=>?_
 ¤thn (he pins s3 σ H3 _ I3 q3) λv s4 ⟨x4,H4,I4,r4,q4⟩=>?_
 ¤thn (hp pins s4 σ H4 x3 x4 old v _ I4 r3 r4 q4) λnew s5 ⟨x5,H5,I5,r5,q5⟩=>?_
 §thn (hs pins s5 σ H5 x1 x2 x5 ov iv new _ I5 r1 r2 r5 q5) λ_ s6 ⟨H6,I6,q6⟩=>⟨σ,H6,I6,q6⟩
def ipI(f:Int->Int->Int):TIp:=λx y H Q=>∃ i j,x=.int i/\y=.int j/\Q (.int (f i j)) H
÷n52:PIp X .Add (ipI λi j=>i + j):=by
 intro pins s σ H x y v u Q I r1 r2 h
 ¶⟨i,j,e1,e2,q⟩:=h
 subst e1;subst e2
 ¶⟨t,rfl⟩:=r1
 ¶⟨t',rfl⟩:=r2
 §iadd_int ⟨.int _,H,I.tok _,⟨_,rfl⟩,q⟩
def n62(c:TT)(tb:TS):TS:=λD σ H=>∃ W:Nat->St->Hp->Prop,(∃ m,W m σ H)/\∀ m σ H,W m σ H ->
 c σ H λb H1=>if b=true then ∃ N:St->Hp->Prop,(∀ σ' H',N σ' H'->∃ m',m' < m/\W m' σ' H')/\tb { D with nx:=N,ct:=N,bk:=D.nx } σ H1 else D.nx σ H1
÷H61(hp:PassesOwn (Ô X.prog X.w) X.A X.env X.xe)(hc:PT X c tc)(hb:PSs X body tb):PS X (.While c body [] pos) (n62 tc tb):=by
 intro pins s σ H D I h
 ¶⟨W,⟨m0,w0⟩,turn⟩:=h
 ¤wpAny_While (codeAny_whileLoop (λn s'=>∃ σ' H',Inv X pins σ' H' s'/\W n σ' H') ?_ m0 ⟨σ,H,I,w0⟩)
 rintro n s1 ⟨σ1,H1,I1,w1⟩
 ¤È6 hp (thn (hc pins s1 σ1 H1 _ I1 (turn n σ1 H1 w1)) λb s2 ⟨H2,I2,q2⟩=>?_)
 cases b with
 |true =>
  ¶⟨N,hN,q2⟩:=q2
  rw[if_pos rfl]
  ¤È6 hp (thn (hb pins s2 σ1 H2 _ I2 q2) λf s3 q3=>?_)
  cases f with
  |next =>
   ¶⟨σ3,H3,I3,n3⟩:=q3
   ¶⟨m',hm,w3⟩:=hN σ3 H3 n3
   §⟨m',hm,σ3,H3,I3,w3⟩
  |cont =>
   ¶⟨σ3,H3,I3,n3⟩:=q3
   ¶⟨m',hm,w3⟩:=hN σ3 H3 n3
   §⟨m',hm,σ3,H3,I3,w3⟩
  |brk=>§q3
  |ret v=>§q3
 |false =>
  rw[if_neg Ð]
  §Ï4 ⟨σ1,H2,I2,q2⟩
end
structure It where
 go:Nat->Hp->Prop
 yld:Nat->Hp->V->Hp->Prop
 stop:Nat->Hp->Prop
def X80(X:Cx)(pins:List (Ç × Obj))(H:Hp)(b:Ç):Prop :=
 H b=none/\b≠X.env.locals/\b ∉ X.fs/\(b∈X.ex∨X.s₀.heap.objs.size<=b)/\(∀ x c,X.env.cells.lookup x=some c->c≠b)/\∀ p∈X.pn++pins,p.1≠b
÷Inv.p91(I:Inv X pins σ H s)(hb:s.heap.objs.size<=b)(hn:H' b=none):X80 X pins H' b:=by
 ¤⟨hn,Ê7 (Ú I.lt hb),I.Q52 hb,.inr (Ñ I.sz hb),λx c e z=>?_,λp hp z=>?_⟩
 ·¶⟨v,q⟩:=I.cell x c e
  §absurd (Ú q.lt (by rw[z];§hb)) (Á8 _)
 ·§absurd (Ú (à (I.pin p hp).1) (by rw[z];§hb)) (Á8 _)
structure Turn(P:Program)(w:World)(K:PySem.W.Frag)(tg:Expr)(J:It)(fp:List Addr)(it:Addr)(tn:Nat->Heap->Prop):Prop where
 mem:it∈fp
 obj:∀ i h,tn i h->∀ b∈fp,∃ o,h.get? b=some o/\∀ v,o.data≠.cell v
 keep:∀ i h h',tn i h->(∀ b∈fp,∀ o,h.get? b=some o->h'.get? b=some o)->tn i h'
 item:∀ (X:Cx),X.prog=P->X.w=w->X.K=K->X.calm=true->∀ (i:Nat) (pins:List (Addr × Obj)) (s:Shared) (σ:St) (H:Hp) (E:Value->Shared->Prop),Inv X pins σ H s->(∀ b∈fp,X80 X pins H b)->tn i s.heap->J.go i H ->
  wpAny (model P w) X.A (pyNext (.ref it)) (λr s1=>∃ u,r=some u /\
   wpAny (model P w) X.A (letOwnedTupleGo tg (.ref it) u) (λ_ s2=>∃ x H',Inv X pins σ H' s2/\RelV x u/\J.yld i H x H'/\tn (i + 1) s2.heap/\∀ b∈fp,H' b=none) E s1) E s
 done:∀ (X:Cx),X.prog=P->X.w=w->X.K=K->X.calm=true->∀ (i:Nat) (pins:List (Addr × Obj)) (s:Shared) (σ:St) (H:Hp) (E:Value->Shared->Prop),Inv X pins σ H s->(∀ b∈fp,X80 X pins H b)->tn i s.heap->J.stop i H ->
  wpAny (model P w) X.A (pyNext (.ref it)) (λr s1=>r=none/\Inv X pins σ H s1) E s
 self:∀ (A:Around) (i:Nat) (s:Shared) (Q:Value->Shared->Prop) (E:Value->Shared->Prop),tn i s.heap->Q (.ref it) s->wpAny (model P w) A (pyIter (.ref it)) Q E s
abbrev TI:=St->Hp->(It->Hp->Prop)->Prop
def PIE(X:Cx)(pins:List (Ç × Obj))(σ:St)(tg:Ò)(R:It->Hp->Prop)(itv:Ä)(s2:Æ):Prop :=
 ∃ (it:Ç) (fp:List Ç) (tn:Nat->ì->Prop) (J:It) (H':Hp),itv=.ref it/\Inv X pins σ H' s2/\Turn X.prog X.w X.K tg J fp it tn/\tn 0 s2.heap/\(∀ b∈fp,X80 X pins H' b)/\R J H'
def PI(X:Cx)(tg Ä0:Ò)(wi:TI):Prop :=
 ∀ (pins:List (Ç × Obj)) (s:Æ) (σ:St) (H:Hp) (R:It->Hp->Prop),Inv X pins σ H s->wi σ H R ->
  Ï (Ô X.prog X.w) X.A (eval Ä0 X.env) (λv s1=>Ï (Ô X.prog X.w) X.A (pyIter v) (PIE X pins σ tg R) X.xe s1) X.xe s
÷Y11{M:Model}{A:ø}{E:Ä->Æ->Prop}{s:Æ}{tg:Ò}{it:Ç}{u:Ä}{o:Obj}{n:String}{vs:Array Ä}{Q:Unit->Æ->Prop}(ho:s.heap.get? it=some o)(hc:o.cls=.type n)(hd:o.data=.fields vs)
  (hn:["enumerate","zip","dict_itemiterator","dict_reverseitemiterator","odict_iterator","itertools.zip_longest","itertools.pairwise"].contains n=false) (hQ:Q () s):Ï M A (à3 tg (.ref it) u) Q E s:=by
 unfold à3
 cases tg <;> first
  |§Å hQ
  |(cases u <;> first
    |§Å hQ
    |(¤À (wpAny_load ho ?_)
      rw[hc,hd]
      show Ï M A (if (["enumerate","zip","dict_itemiterator","dict_reverseitemiterator","odict_iterator","itertools.zip_longest","itertools.pairwise"].contains n&&vs[0]? == some (Ã7 _))=true then _ else _) Q E s
      rw[if_neg (by intro h;rw[hn,Õ7] at h;cases h)]
      §Å hQ))
def Itl(K:Â)(a:Ç):It :=
 ⟨λi H=>∃ xs x,SqL K H a xs/\xs[i]?=some x,λi H x H'=>H'=H/\∀ xs,SqL K H a xs->xs[i]?=some x,λi H=>∃ xs,SqL K H a xs/\xs.length<=i⟩
def Itt(K:Â)(a:Ç):It :=
 ⟨λi H=>∃ xs x,SqT K H a xs/\xs[i]?=some x,λi H x H'=>H'=H/\∀ xs,SqT K H a xs->xs[i]?=some x,λi H=>∃ xs,SqT K H a xs/\xs.length<=i⟩
def Itr(lo:Int)(n:Nat):It:=⟨λi _=>i < n,λi H x H'=>H'=H/\x=.int (lo + i),λi _=>n<=i⟩
÷r11{P:ß}{w:ç}{K:Â}{tg:Ò}(a it:Ç):Turn P w K tg (Itl K a) [it] it (λi h=>h.IsListIter it a i) where
 mem:=by simp
 obj:=λi h st b hb=>by
  have e:b=it:=by simpa using hb
  subst e
  ¶⟨o,e,c,d⟩:=st
  §⟨o,e,λv z=>by rw[d] at z;cases z⟩
 keep:=λi h h' st k=>st.at λo e=>k it (by simp) o e
 item:=by
  intro X hP hw hK hc i pins s σ H E I hf st hg
  subst hP hw hK
  ¶⟨xs,x,hq,hx⟩:=hg
  ¶⟨its,rv,p,hz⟩:=I.list hq
  ¶⟨u,hu,ru⟩:=rv.get hx
  ¶⟨f0,f1,f2,f3,f4,f5⟩:=hf it (by simp)
  ¤wpAny_pyNext_list_item st p.isList (x:=u) (by simpa using hu) λh' st' sb=>?_
  have I1:Inv X pins σ H { s with heap:=h' }:=I.turned (t':=s.toks) (λb o hb e=>(sb.2 b hb).trans e) f0 f1 f3 f4 f5
  ¶⟨o,e,c,d⟩:=id st'
  §⟨u,rfl,Y11 (s:={ s with heap:=h' }) e c d (by decide) ⟨x,H,I1,ru,⟨rfl,λys hy=>by rw[I.e01 hy hq];§hx⟩,st',λb hb=>(hf b hb).1⟩⟩
 done:=by
  intro X hP hw hK hc i pins s σ H E I hf st hg
  subst hP hw hK
  ¶⟨xs,hq,hx⟩:=hg
  ¶⟨its,rv,p,hz⟩:=I.list hq
  ¶⟨f0,f1,f2,f3,f4,f5⟩:=hf it (by simp)
  have hl:=rv.length
  §wpAny_pyNext_list_end (I.ok.hd hc) st p.isList (by simp;omega) λh' eb=>⟨rfl,I.turned (t':=s.toks) (λb o hb e=>eb b o hb e) f0 f1 f3 f4 f5⟩
 self:=λ_ _ _ _ _ st h=>wpAny_pyIter_listiter st h
÷l41{P:ß}{w:ç}{K:Â}{tg:Ò}(a it:Ç):Turn P w K tg (Itt K a) [it] it (λi h=>h.IsTupleIter it a i) where
 mem:=by simp
 obj:=λi h st b hb=>by
  have e:b=it:=by simpa using hb
  subst e
  ¶⟨o,e,c,d⟩:=st
  §⟨o,e,λv z=>by rw[d] at z;cases z⟩
 keep:=λi h h' st k=>st.at λo e=>k it (by simp) o e
 item:=by
  intro X hP hw hK hc i pins s σ H E I hf st hg
  subst hP hw hK
  ¶⟨xs,x,hq,hx⟩:=hg
  ¶⟨its,rv,p,hz⟩:=I.tuple hq
  ¶⟨u,hu,ru⟩:=rv.get hx
  ¶⟨f0,f1,f2,f3,f4,f5⟩:=hf it (by simp)
  ¤wpAny_pyNext_tuple_item st (show s.heap.IsTuple a its.toArray from p) (x:=u) (by simpa using hu) λh' st' sb=>?_
  have I1:Inv X pins σ H { s with heap:=h' }:=I.turned (t':=s.toks) (λb o hb e=>(sb.2 b hb).trans e) f0 f1 f3 f4 f5
  ¶⟨o,e,c,d⟩:=id st'
  §⟨u,rfl,Y11 (s:={ s with heap:=h' }) e c d (by decide) ⟨x,H,I1,ru,⟨rfl,λys hy=>by rw[I.P40 hy hq];§hx⟩,st',λb hb=>(hf b hb).1⟩⟩
 done:=by
  intro X hP hw hK hc i pins s σ H E I hf st hg
  subst hP hw hK
  ¶⟨xs,hq,hx⟩:=hg
  ¶⟨its,rv,p,hz⟩:=I.tuple hq
  ¶⟨f0,f1,f2,f3,f4,f5⟩:=hf it (by simp)
  have hl:=rv.length
  §wpAny_pyNext_tuple_end (I.ok.hd hc) st (show s.heap.IsTuple a its.toArray from p) (by simp;omega) λh' eb=>⟨rfl,I.turned (t':=s.toks) (λb o hb e=>eb b o hb e) f0 f1 f3 f4 f5⟩
 self:=λ_ _ _ _ _ st h=>wpAny_pyIter_tupleiter st h
÷l51{P:ß}{w:ç}{K:Â}{tg:Ò}(it:Ç)(lo:Int)(n:Nat):Turn P w K tg (Itr lo n) [it] it (λi h=>IsRangeIter h it (lo + (i:Nat) * 1) ((n:Int) - (i:Nat)) 1) where
 mem:=by simp
 obj:=λi h st b hb=>by
  have e:b=it:=by simpa using hb
  subst e
  §⟨_,st,λv z=>by
   have z':Data.fields _=Data.cell v:=z
   cases z'⟩
 keep:=λi h h' st k=>k it (by simp) _ st
 item:=by
  intro X hP hw hK hc i pins s σ H E I hf st hg
  subst hP hw hK
  ¶⟨f0,f1,f2,f3,f4,f5⟩:=hf it (by simp)
  have W:=Walks.range (prog:=X.prog) (w:=X.w) (I.ok.hd hc) it lo 1 n
  ¤W.item i s _ _ hg st λv h' tk hv st' kk=>?_
  ¶⟨t,rfl⟩:=hv
  have I1:Inv X pins σ H { s with heap:=h',toks:=tk }:=I.turned (λb o hb e=>kk b o (by simpa using hb) e) f0 f1 f3 f4 f5
  ¤⟨_,rfl,Y11 (s:={ s with heap:=h',toks:=tk }) (n:="range_iterator") st' rfl rfl (by decide) ⟨.int (lo + i),H,I1,⟨t,?_⟩,⟨rfl,rfl⟩,st',λb hb=>(hf b hb).1⟩⟩
  rw[mul_one]
 done:=by
  intro X hP hw hK hc i pins s σ H E I hf st hg
  subst hP hw hK
  ¶⟨f0,f1,f2,f3,f4,f5⟩:=hf it (by simp)
  §wpAny_pyNext_range_end (I.ok.hd hc) st (by have:n<=i:=hg;omega) λh' eb=>⟨rfl,I.turned (t':=s.toks) (λb o hb e=>eb b o hb e) f0 f1 f3 f4 f5⟩
 self:=λ_ _ _ _ _ st h=>wpAny_pyIter_rangeiter st h
section
variable {X:Cx}{tg:Ò}
def D62(K:Â)(tl:TE):TI:=λσ H R=>tl σ H λx H1=>∃ a,x=.ref a/\(∃ xs,SqL K H1 a xs)/\R (Itl K a) H1
def R62(K:Â)(tl:TE):TI:=λσ H R=>tl σ H λx H1=>∃ a,x=.ref a/\(∃ xs,SqT K H1 a xs)/\R (Itt K a) H1
÷X90{l:Ò}{tl:TE}(hl:PE X l tl):PI X tg l (D62 X.K tl):=by
 intro pins s σ H R I h
 ¤thn (hl pins s σ H _ I h) λv s1 ⟨x,H1,I1,r1,q1⟩=>?_
 ¶⟨a,e,⟨xs,hq⟩,q⟩:=q1
 subst e
 cases r1
 ¶⟨its,rv,p,hz⟩:=I1.list hq
 ¤Ý3 p.isList ?_
 ¤⟨s1.heap.objs.size,[s1.heap.objs.size],_,_,H1,rfl,I1.kept (t':=s1.toks) λb o e=>Ã _ e,r11 a _,⟨_,Ë _ rfl,rfl,rfl⟩,λb hb=>?_,q⟩
 have e:b=s1.heap.objs.size:=by simpa using hb
 subst e
 §I1.p91 (Í _) (I1.hok.fresh (Í _))
÷S71{l:Ò}{tl:TE}(hl:PE X l tl):PI X tg l (R62 X.K tl):=by
 intro pins s σ H R I h
 ¤thn (hl pins s σ H _ I h) λv s1 ⟨x,H1,I1,r1,q1⟩=>?_
 ¶⟨a,e,⟨xs,hq⟩,q⟩:=q1
 subst e
 cases r1
 ¶⟨its,rv,p,hz⟩:=I1.tuple hq
 ¤È0 (show s1.heap.IsTuple a its.toArray from p) ?_
 ¤⟨s1.heap.objs.size,[s1.heap.objs.size],_,_,H1,rfl,I1.kept (t':=s1.toks) λb o e=>Ã _ e,l41 a _,⟨_,Ë _ rfl,rfl,rfl⟩,λb hb=>?_,q⟩
 have e:b=s1.heap.objs.size:=by simpa using hb
 subst e
 §I1.p91 (Í _) (I1.hok.fresh (Í _))
÷e21{pins:List (Ç × Obj)}{σ:St}{H:Hp}{s:Æ}{R:It->Hp->Prop}{E:Ä->Æ->Prop}{lo hi:Int}{t u v:Tok}{tk:Nat}(I:Inv X pins σ H s)(h1:-(2 ^ 62)<=lo)(h2:lo < 2 ^ 62)(h3:-(2 ^ 62)<=hi)(h4:hi < 2 ^ 62)
  (q:R (Itr lo (hi - lo).toNat) H):Ï (Ô X.prog X.w) X.A (pyIter (.ref s.heap.objs.size)) (PIE X pins σ tg R) E { s with heap:=s.heap.push { cls:=.type "range",data:=.fields #[.int lo t,.int hi u,.int 1 v] },toks:=tk }:=by
 ¤wpAny_pyIter_range (Ö0.new ..) (small_one h1 h2 h3 h4) ?_
 have I1:Inv X pins σ H { s with heap:=s.heap.push { cls:=.type "range",data:=.fields #[.int lo t,.int hi u,.int 1 v] },toks:=tk }:=I.kept λb o e=>Ã _ e
 ¤⟨(s.heap.push { cls:=.type "range",data:=.fields #[.int lo t,.int hi u,.int 1 v] }).objs.size,[(s.heap.push { cls:=.type "range",data:=.fields #[.int lo t,.int hi u,.int 1 v] }).objs.size],_,_,H,rfl,
  I1.kept (t':=tk) λb o e=>Ã _ e,l51 _ lo (hi - lo).toNat,?_,λb hb=>?_,q⟩
 ·have e1:lo + ((0:Nat):Int) * 1=lo:=by simp
  have e2:(((hi - lo).toNat:Nat):Int) - ((0:Nat):Int)=Ã8 lo hi 1:=by rw[rangeSize_one];split <;> omega
  show IsRangeIter _ _ (lo + ((0:Nat):Int) * 1) ((((hi - lo).toNat:Nat):Int) - ((0:Nat):Int)) 1
  rw[e1,e2]
  §Ë _ rfl
 ·have e:b=(s.heap.push { cls:=.type "range",data:=.fields #[.int lo t,.int hi u,.int 1 v] }).objs.size:=by simpa using hb
  subst e
  §I1.p91 (Í _) (I1.hok.fresh (Í _))
def D72(ta:TA):TI:=λσ H R=>ta σ H λvs H1=>∃ j:Int,vs=[.int j]/\-(2 ^ 62)<=j/\j < 2 ^ 62/\R (Itr 0 j.toNat) H1
def D82(ta:TA):TI:=λσ H R=>ta σ H λvs H1=>∃ i j:Int,vs=[.int i,.int j]/\(-(2 ^ 62)<=i/\i < 2 ^ 62/\-(2 ^ 62)<=j/\j < 2 ^ 62)/\R (Itr i (j - i).toNat) H1
÷P50{a:Ò}{ta:TA}{p pos:Pos}(hg:Gl X "range")(hm:X.mg "range"=none)(ha:PA X [a] ta)(hs:þ [a] X.env=[(false,eval a X.env)]:=by rfl):PI X tg (.Call (.Name "range" p) [a] [] pos) (D72 ta):=by
 intro pins s σ H R I h
 ¤Call_ (t90 I hg hm boot_range (Á2 (thn (ha pos pins s σ H _ I h) λus s1 ⟨vs,H1,I1,r1,q1⟩=>?_) hs rfl))
 ¶⟨j,e,q1,q2,q⟩:=q1
 subst e
 cases r1 with
 |cons r rr =>
  cases rr
  ¶⟨t,rfl⟩:=r
  §call_range_1 (e21 I1 (by omega) (by omega) q1 q2 (by simpa using q))
÷r21{a b:Ò}{ta:TA}{p pos:Pos}(hg:Gl X "range")(hm:X.mg "range"=none)(ha:PA X [a,b] ta)(hs:þ [a,b] X.env=[(false,eval a X.env),(false,eval b X.env)]:=by rfl)(hs2:þ [b] X.env=[(false,eval b X.env)]:=by rfl) :
  PI X tg (.Call (.Name "range" p) [a,b] [] pos) (D82 ta):=by
 intro pins s σ H R I h
 ¤Call_ (t90 I hg hm boot_range (Á2 (thn (ha pos pins s σ H _ I h) λus s1 ⟨vs,H1,I1,r1,q1⟩=>?_) (by rw[hs,hs2]) (by rw[hs2];rfl)))
 ¶⟨i,j,e,⟨q1,q2,q3,q4⟩,q⟩:=q1
 subst e
 cases r1 with
 |cons r rr =>
  cases rr with
  |cons r' rr =>
   cases rr
   ¶⟨t,rfl⟩:=r
   ¶⟨t',rfl⟩:=r'
   §call_range_2 (e21 I1 q1 q2 q3 q4 q)
def R72(wi:TI)(g:TG)(tb:TS):TS:=λD σ H=>wi σ H λJ H1=>∃ W:Nat->Nat->St->Hp->Prop,(∃ m,W 0 m σ H1)/\∀ i m σ H,W i m σ H ->
 (J.stop i H/\D.nx σ H)∨(J.go i H/\∃ N:St->Hp->Prop,(∀ σ' H',N σ' H'->∃ m',m' < m/\W (i + 1) m' σ' H')/\∀ x H',J.yld i H x H'->g x σ H' λσ2 H2=>tb { D with nx:=N,ct:=N,bk:=D.nx } σ2 H2)
def B90(fp:List Ç)(h:ì):List (Ç × Obj):=fp.filterMap λb=>(h.get? b).map λo=>(b,o)
÷k80(hb:b∈fp)(e:h.get? b=some o):(b,o)∈B90 fp h:=Ø1.mpr ⟨b,hb,by rw[e];rfl⟩
÷P60(hp:p∈B90 fp h):p.1∈fp/\h.get? p.1=some p.2:=by
 ¶⟨b,hb,e⟩:=Ø1.mp hp
 cases q:h.get? b with
 |none=>rw[q] at e;cases e
 |some o =>
  rw[q] at e
  have e':(b,o)=p:=À7 e
  subst e'
  §⟨hb,q⟩
÷Inv.pinned(I:Inv X pins σ H s)(hf:∀ b∈fp,X80 X pins H b)(ho:∀ b∈fp,∃ o,s.heap.get? b=some o/\∀ v,o.data≠.cell v):Inv X (pins++B90 fp s.heap) σ H s :=
 I.B70 λp hp=>(Ã6.mp hp).elim (λz=>I.pin p (ð _ z)) λz=>by
  ¶⟨hb,e⟩:=P60 z
  ¶⟨f0,f1,f2,_⟩:=hf p.1 hb
  ¶⟨o,e',d⟩:=ho p.1 hb
  rw[e] at e';cases e'
  §⟨e,f0,f1,f2,d⟩
÷Inv.I90{pins pl:List (Ç × Obj)}{σ:St}{H:Hp}{s:Æ}(I:Inv X (pins++pl) σ H s):Inv X pins σ H s:=I.B70 λp hp=>I.pin p (ð _ (Æ5 _ hp))
÷S81{Ä0:Ò}{body:List Å1}{wi:TI}{g:TG}{tb:TS}{pos:Pos}(hp:PassesOwn (Ô X.prog X.w) X.A X.env X.xe)(hc:X.calm=true)(hi:PI X tg Ä0 wi)(hg:PG X tg g)(hb:PSs X body tb)
  (hs:∀ x,É3 Ä0 X.env x=pure x:=by intro _;rfl):PS X (.For tg Ä0 body [] pos) (R72 wi g tb):=by
 intro pins s σ H D I h
 ¤wpAny_For (thn (hi pins s σ H _ I h) λv s1 h1=>thn h1 λitv s2 h2=>?_) hs
 ¶⟨it,fp,tn,J,H2,e,I2,T,st2,f2,W,⟨m0,w0⟩,turn⟩:=h2
 subst e
 have stat:∀ {H':Hp},(∀ b∈fp,H' b=none)->∀ b∈fp,X80 X pins H' b:=λhn b hb=>⟨hn b hb,(f2 b hb).2⟩
 ¤codeAny_forLoop_any (λn s'=>∃ i σ' H',Inv X pins σ' H' s'/\tn i s'.heap/\(∀ b∈fp,H' b=none)/\W i n σ' H') ?_ m0 ⟨0,σ,H2,I2,st2,λb hb=>(f2 b hb).1,w0⟩
 rintro n s3 ⟨i,σ3,H3,I3,st3,fr3,w3⟩
 rcases turn i n σ3 H3 w3 with ⟨stop,qn⟩ | ⟨go,N,hN,step⟩
 ·¤È6 hp (thn (T.done X rfl rfl rfl hc i pins s3 σ3 H3 X.xe I3 (stat fr3) st3 stop) λr s4 ⟨hr,I4⟩=>?_)
  subst hr
  §Ï4 ⟨σ3,H3,I4,qn⟩
 ·¤È6 hp (thn (T.item X rfl rfl rfl hc i pins s3 σ3 H3 X.xe I3 (stat fr3) st3 go) λr s4 ⟨u,hr,h4⟩=>?_)
  subst hr
  ¤È6 hp (thn h4 λ_ s5 ⟨x,H5,I5,r5,y5,st5,fr5⟩=>?_)
  have I5':=I5.pinned (stat fr5) (T.obj _ _ st5)
  ¤È6 hp (thn (hg _ s5 σ3 H5 x u _ I5' r5 (step x H5 y5)) λ_ s6 ⟨σ6,H6,I6,q6⟩=>?_)
  ¤È6 hp (thn (hb _ s6 σ6 H6 _ I6 q6) λf s7 q7=>?_)
  have again:∀ {σ7:St}{H7:Hp},Inv X (pins++B90 fp s5.heap) σ7 H7 s7->N σ7 H7->∃ m,m < n/\∃ i σ' H',Inv X pins σ' H' s7/\tn i s7.heap/\(∀ b∈fp,H' b=none)/\W i m σ' H':=λ{σ7 H7} I7 n7=>by
   ¶⟨m',hm,w7⟩:=hN σ7 H7 n7
   ¤⟨m',hm,i + 1,σ7,H7,I7.I90,T.keep _ _ _ st5 λb hb o e=>(I7.pin (b,o) (ð _ (ð _ (k80 hb e)))).1,λb hb=>?_,w7⟩
   ¶⟨o,e,d⟩:=T.obj _ _ st5 b hb
   §(I7.pin (b,o) (ð _ (ð _ (k80 hb e)))).2.1
  cases f with
  |next=>¶⟨σ7,H7,I7,n7⟩:=q7;§again I7 n7
  |cont=>¶⟨σ7,H7,I7,n7⟩:=q7;§again I7 n7
  |brk=>¶⟨σ7,H7,I7,q7⟩:=q7;§⟨σ7,H7,I7.I90,q7⟩
  |ret v=>¶⟨x7,σ7,H7,I7,r7,q7⟩:=q7;§⟨x7,σ7,H7,I7.I90,r7,q7⟩
end
abbrev R2:=V->V->Hp->VK->Prop
def OpR(X:Cx)(f:Ä->Ä->Sem Ä)(r:R2):Prop :=
 ∀ (pins:List (Ç × Obj)) (s:Æ) (σ:St) (H:Hp) (x y:V) (v u:Ä) (Q:VK),Inv X pins σ H s->RelV x v->RelV y u->r x y H Q ->
  Ï (Ô X.prog X.w) X.A (f v u) (EP X pins σ Q) X.xe s
def UnR(X:Cx)(f:Ä->Sem Ä)(r:V->Hp->VK->Prop):Prop :=
 ∀ (pins:List (Ç × Obj)) (s:Æ) (σ:St) (H:Hp) (x:V) (v:Ä) (Q:VK),Inv X pins σ H s->RelV x v->r x H Q ->
  Ï (Ô X.prog X.w) X.A (f v) (EP X pins σ Q) X.xe s
def e50(X:Cx)(f:Ä)(r:List V->Hp->VK->Prop):Prop :=
 ∀ (pins:List (Ç × Obj)) (s:Æ) (σ:St) (H:Hp) (xs:List V) (us:List Ä) (Q:VK),Inv X pins σ H s->Vals xs us->r xs H Q ->
  Ï (Ô X.prog X.w) X.A (call f us) (EP X pins σ Q) X.xe s
def tOp(r:R2)(ta tb:TE):TE:=λσ H Q=>ta σ H λx H1=>tb σ H1 λy H2=>r x y H2 Q
def tUn(r:V->Hp->VK->Prop)(ta:TE):TE:=λσ H Q=>ta σ H λx H1=>r x H1 Q
def rI(C:Int->Int->Prop)(g:Int->Int->V):R2:=λx y H Q=>∃ i j,x=.int i/\y=.int j/\C i j/\Q (g i j) H
def rI0(g:Int->Int->V):R2:=λx y H Q=>∃ i j,x=.int i/\y=.int j/\Q (g i j) H
def rU(g:Int->V):V->Hp->VK->Prop:=λx H Q=>∃ i,x=.int i/\Q (g i) H
section
variable {X:Cx}{a b c:Ò}{ta tb tc:TE}{pos:Pos}
÷D92(ha:PE X a ta)(hb:PE X b tb){pins:List (Ç × Obj)}{s:Æ}{σ:St}{H:Hp}{R:V->V->Hp->Prop}(I:Inv X pins σ H s)
  (h:ta σ H λx H1=>tb σ H1 λy H2=>R x y H2) {Q:Ä->Æ->Prop}{f:Ä->Ä->Sem Ä}
  (hf:∀ v u s2 x y H2,Inv X pins σ H2 s2->RelV x v->RelV y u->R x y H2->Ï (Ô X.prog X.w) X.A (f v u) Q X.xe s2) :
  Ï (Ô X.prog X.w) X.A (eval a X.env) (λv s₁=>Ï (Ô X.prog X.w) X.A (eval b X.env) (λu s₂=>Ï (Ô X.prog X.w) X.A (f v u) Q X.xe s₂) X.xe s₁) X.xe s:=by
 ¤thn (ha pins s σ H _ I h) λv s1 ⟨x,H1,I1,r1,q1⟩=>?_
 ¤thn (hb pins s1 σ H1 _ I1 q1) λu s2 ⟨y,H2,I2,r2,q2⟩=>?_
 §hf v u s2 x y H2 I2 r1 r2 q2
÷H71{op:Ý8}{r:R2}(ho:OpR X (Ä2 op) r)(ha:PE X a ta)(hb:PE X b tb):PE X (.BinOp a op b pos) (tOp r ta tb):=by
 intro pins s σ H Q I h
 §wpAny_BinOp (D92 ha hb I h λv u s2 x y H2 I2 rx ry q=>ho pins s2 σ H2 x y v u Q I2 rx ry q)
÷n72(ho:UnR X (unaryOp op) r)(ha:PE X a ta):PE X (.UnaryOp op a pos) (tUn r ta):=by
 intro pins s σ H Q I h
 §UnaryOp_ (thn (ha pins s σ H _ I h) λv s1 ⟨x,H1,I1,r1,q1⟩=>ho pins s1 σ H1 x v Q I1 r1 q1)
÷opI{f:Ä->Ä->Sem Ä}{C:Int->Int->Prop}{g:Int->Int->Int}
  (rule:∀ (i j:Int) (t u:Tok) (s:Æ) (Q:Ä->Æ->Prop) (E:Ä->Æ->Prop),C i j->Q (.int (g i j) s.toks) { s with toks:=s.toks + 1 }->Ï (Ô X.prog X.w) X.A (f (.int i t) (.int j u)) Q E s) :
  OpR X f (rI C λi j=>.int (g i j)):=by
 intro pins s σ H x y v u Q I rx ry h
 ¶⟨i,j,rfl,rfl,hc,q⟩:=h
 ¶⟨t,rfl⟩:=rx
 ¶⟨t',rfl⟩:=ry
 §rule i j t t' s _ _ hc ⟨.int (g i j),H,I.tok _,⟨_,rfl⟩,q⟩
÷E02{f:Ä->Ä->Sem Ä}{g:Int->Int->Int}
  (rule:∀ (i j:Int) (t u:Tok) (s:Æ) (Q:Ä->Æ->Prop) (E:Ä->Æ->Prop),Q (.int (g i j) s.toks) { s with toks:=s.toks + 1 }->Ï (Ô X.prog X.w) X.A (f (.int i t) (.int j u)) Q E s) :
  OpR X f (rI0 λi j=>.int (g i j)):=by
 intro pins s σ H x y v u Q I rx ry h
 ¶⟨i,j,rfl,rfl,q⟩:=h
 ¶⟨t,rfl⟩:=rx
 ¶⟨t',rfl⟩:=ry
 §rule i j t t' s _ _ ⟨.int (g i j),H,I.tok _,⟨_,rfl⟩,q⟩
÷E12{f:Ä->Ä->Sem Ä}{g:Int->Int->Bool}
  (rule:∀ (i j:Int) (t u:Tok) (s:Æ) (Q:Ä->Æ->Prop) (E:Ä->Æ->Prop),Q (.bool (g i j)) s->Ï (Ô X.prog X.w) X.A (f (.int i t) (.int j u)) Q E s) :
  OpR X f (rI0 λi j=>.bl (g i j)):=by
 intro pins s σ H x y v u Q I rx ry h
 ¶⟨i,j,rfl,rfl,q⟩:=h
 ¶⟨t,rfl⟩:=rx
 ¶⟨t',rfl⟩:=ry
 §rule i j t t' s _ _ ⟨.bl (g i j),H,I,rfl,q⟩
def O02(i j:Int):Prop:=0<=j/\j<=1000000/\i.natAbs < 2 ^ 64
÷n82:OpR X (Ä2 .Add) (rI0 λi j=>.int (i + j)):=E02 λ_ _ _ _ _ _ _ q=>add_int q
÷n92:OpR X (Ä2 .Sub) (rI0 λi j=>.int (i - j)):=E02 λ_ _ _ _ _ _ _ q=>sub_int q
÷o02:OpR X (binaryOp .Mod) (rI (λ_ j=>0 < j) λi j=>.int (i % j)):=opI λi j _ _ _ _ _ hc q=>by
 have h1:(0:Int) < j:=hc
 §mod_int' (by omega) (by rw[Int.fmod_eq_emod_of_nonneg i (by omega)];§q)
÷o12:OpR X (Ä2 .Pow) (rI O02 λi j=>.int (i ^ j.toNat)):=opI λ_ _ _ _ _ _ _ hc q=>pow_int_small hc.1 hc.2.1 hc.2.2 q
÷O12:OpR X (Ä2 .LShift) (rI O02 λi j=>.int (i * 2 ^ j.toNat)):=opI λ_ _ _ _ _ _ _ hc q=>lshift_int_small hc.1 hc.2.1 hc.2.2 q
÷O22:OpR X (Ä2 .BitAnd) (rI0 λi j=>.int (ÿ.bitAnd i j)):=E02 λ_ _ _ _ _ _ _ q=>and_int q
÷unI{f:Ä->Sem Ä}{g:Int->Int}
  (rule:∀ (i:Int) (t:Tok) (s:Æ) (Q:Ä->Æ->Prop) (E:Ä->Æ->Prop),Q (.int (g i) s.toks) { s with toks:=s.toks + 1 }->Ï (Ô X.prog X.w) X.A (f (.int i t)) Q E s) :
  UnR X f (rU λi=>.int (g i)):=by
 intro pins s σ H x v Q I rx h
 ¶⟨i,rfl,q⟩:=h
 ¶⟨t,rfl⟩:=rx
 §rule i t s _ _ ⟨.int (g i),H,I.tok _,⟨_,rfl⟩,q⟩
÷S91:UnR X (unaryOp .USub) (rU λi=>.int (-i)):=unI λ_ _ _ _ _ q=>neg_int q
÷e31{k k':Bool}(I:Inv X pins σ H s)(q:Q (.bl k) H)(e:k=k'):EP X pins σ Q (.bool k') s:=by
 subst e
 §⟨.bl k,H,I,rfl,q⟩
÷E22:OpR X (ü .LtE) (rI0 λi j=>.bl (decide (i<=j))):=E12 λ_ _ _ _ _ _ _ q=>le_int q
÷E32:OpR X (ü .Gt) (rI0 λi j=>.bl (decide (j < i))):=E12 λ_ _ _ _ _ _ _ q=>gt_int q
÷E42:OpR X (ü .GtE) (rI0 λi j=>.bl (decide (j<=i))):=E12 λ_ _ _ _ _ _ _ q=>ge_int q
÷o22:OpR X (ü .Is) (λx y H Q=>y=.non/\Q (.bl (decide (x=.non))) H):=by
 intro pins s σ H x y v u Q I rx ry h
 ¶⟨rfl,q⟩:=h
 cases ry
 ¤is_none_gen (e31 I q ?_)
 cases x <;> first
  |(cases rx;rfl)
  |(¶⟨t,rfl⟩:=rx;rfl)
÷E52:OpR X (ü .IsNot) (λx y H Q=>y=.non/\Q (.bl (!decide (x=.non))) H):=by
 intro pins s σ H x y v u Q I rx ry h
 ¶⟨rfl,q⟩:=h
 cases ry
 ¤isnot_none_gen (e31 I q ?_)
 cases x <;> first
  |(cases rx;rfl)
  |(¶⟨t,rfl⟩:=rx;rfl)
÷Y21(ho:OpR X (ü op) r)(ha:PE X a ta)(hb:PE X b tb)(hm:behindInMarks op b=false):PE X (.Compare a [op] [b] pos) (tOp r ta tb):=by
 intro pins s σ H Q I h
 §wpAny_Compare1 (D92 ha hb I h λv u s2 x y H2 I2 rx ry q=>ho pins s2 σ H2 x y v u Q I2 rx ry q) hm
def o32(t:TE):TT:=λσ H Q=>t σ H λx H'=>∃ k,x=.bl k/\Q k H'
÷Y31(ho:OpR X (ü op) r)(ha:PE X a ta)(hb:PE X b tb)(hm:behindInMarks op b=false):PT X (.Compare a [op] [b] pos) (o32 (tOp r ta tb)):=by
 intro pins s σ H Q I h
 ¤wpAny_isTrue_Compare1 (thn (ha pins s σ H _ I h) λv s1 ⟨x,H1,I1,r1,q1⟩=>thn (hb pins s1 σ H1 _ I1 q1) λu s2 ⟨y,H2,I2,r2,q2⟩ =>
  thn (ho pins s2 σ H2 x y v u _ I2 r1 r2 q2) λc s3 ⟨z,H3,I3,r3,k,e,q3⟩=>?_) hm
 subst e
 cases r3
 §Â6 ⟨H3,I3,q3⟩
def r31(r r':R2)(ta tb tc:TE):TE:=λσ H Q=>ta σ H λx H1=>tb σ H1 λy H2=>r x y H2 λz H3=>∃ k,z=.bl k /\
 (if k=true then tc σ H3 λw' H4=>r' y w' H4 Q else Q (.bl false) H3)
÷H81(ho:OpR X (ü op) r)(ho':OpR X (ü op') r')(ha:PE X a ta)(hb:PE X b tb)(hc:PE X c tc)
  (hm:lastMarks [op,op'] [b,c]=false:=by with_unfolding_all rfl):PE X (.Compare a [op,op'] [b,c] pos) (r31 r r' ta tb tc):=by
 intro pins s σ H Q I h
 ¤Compare_chain (thn (ha pins s σ H _ I h) λv s1 ⟨x,H1,I1,r1,q1⟩=>chain_link (thn (hb pins s1 σ H1 _ I1 q1) λu s2 ⟨y,H2,I2,r2,q2⟩ =>
  thn (ho pins s2 σ H2 x y v u _ I2 r1 r2 q2) λd s3 ⟨z,H3,I3,r3,k,e,q3⟩=>?_)) hm
 subst e
 cases r3
 ¤Â6 ?_
 cases k with
 |false=>§ite_ff ⟨.bl false,H3,I3,rfl,q3⟩
 |true=>§ite_tt (chain_last (thn (hc pins s3 σ H3 _ I3 q3) λw' s4 ⟨z',H4,I4,r4,q4⟩=>ho' pins s4 σ H4 y z' u w' Q I4 r2 r4 q4))
÷H91(ho:OpR X (ü op) r)(ho':OpR X (ü op') r')(ha:PE X a ta)(hb:PE X b tb)(hc:PE X c tc)
  (hm:lastMarks [op,op'] [b,c]=false:=by with_unfolding_all rfl):PT X (.Compare a [op,op'] [b,c] pos) (o32 (r31 r r' ta tb tc)):=by
 intro pins s σ H Q I h
 ¤isTrue_chain (thn (ha pins s σ H _ I h) λv s1 ⟨x,H1,I1,r1,q1⟩=>test_link (thn (hb pins s1 σ H1 _ I1 q1) λu s2 ⟨y,H2,I2,r2,q2⟩ =>
  thn (ho pins s2 σ H2 x y v u _ I2 r1 r2 q2) λd s3 ⟨z,H3,I3,r3,k,e,q3⟩=>?_)) hm
 subst e
 cases r3
 ¤Â6 ?_
 cases k with
 |false =>
  ¶⟨k',e',q'⟩:=q3
  cases e'
  §ite_ff ⟨H3,I3,q'⟩
 |true =>
  ¤ite_tt (test_last (thn (hc pins s3 σ H3 _ I3 q3) λw' s4 ⟨z',H4,I4,r4,q4⟩=>thn (ho' pins s4 σ H4 y z' u w' _ I4 r2 r4 q4) λd' s5 ⟨z2,H5,I5,r5,k2,e2,q5⟩=>?_))
  subst e2
  cases r5
  §Â6 ⟨H5,I5,q5⟩
÷P70:(Û:Nat) < 2 ^ 63:=by rw[Á3];decide
÷vals1(r:Vals [x] us):∃ u,us=[u]/\RelV x u:=by
 cases r with
 |cons r1 r2=>cases r2;§⟨_,rfl,r1⟩
÷vals2(r:Vals [x,y] us):∃ u w',us=[u,w']/\RelV x u/\RelV y w':=by
 cases r with
 |cons r1 r2 =>
  cases r2 with
  |cons r3 r4=>cases r4;§⟨_,_,rfl,r1,r3⟩
÷I01:e50 X (.builtin "abs") (λxs H Q=>∃ i,xs=[.int i]/\Q (.int (if i < 0 then -i else i)) H):=by
 intro pins s σ H xs us Q I r h
 ¶⟨i,rfl,q⟩:=h
 ¶⟨u,rfl,t,rfl⟩:=vals1 r
 §call_abs_int λu tk=>⟨.int (if i < 0 then -i else i),H,I.tok _,⟨_,rfl⟩,q⟩
÷r41(hc:X.calm=true):e50 X (.builtin "max") (λxs H Q=>∃ i j,xs=[.int i,.int j]/\Q (.int (if j > i then j else i)) H):=by
 intro pins s σ H xs us Q I r h
 ¶⟨i,j,rfl,q⟩:=h
 ¶⟨u,w',rfl,⟨t,rfl⟩,⟨t',rfl⟩⟩:=vals2 r
 ¤max_two_ints (I.ok.hd hc) λh' tk k=>⟨_,H,I.kept k,?_,q⟩
 by_cases hj:j > i
 ·rw[if_pos hj,if_pos hj];§⟨_,rfl⟩
 ·rw[if_neg hj,if_neg hj];§⟨_,rfl⟩
÷r51(hc:X.calm=true):e50 X (.builtin "min") (λxs H Q=>∃ i j,xs=[.int i,.int j]/\Q (.int (if j < i then j else i)) H):=by
 intro pins s σ H xs us Q I r h
 ¶⟨i,j,rfl,q⟩:=h
 ¶⟨u,w',rfl,⟨t,rfl⟩,⟨t',rfl⟩⟩:=vals2 r
 ¤min_two_ints (I.ok.hd hc) λh' tk k=>⟨_,H,I.kept k,?_,q⟩
 by_cases hj:j < i
 ·rw[if_pos hj,if_pos hj];§⟨_,rfl⟩
 ·rw[if_neg hj,if_neg hj];§⟨_,rfl⟩
÷P80:e50 X (.type "int") (λxs H Q=>(∃ i,xs=[.int i]/\Q (.int i) H)∨∃ k,xs=[.bl k]/\Q (.int (if k then 1 else 0)) H):=by
 intro pins s σ H xs us Q I r h
 rcases h with ⟨i,rfl,q⟩ | ⟨k,rfl,q⟩
 ·¶⟨u,rfl,t,rfl⟩:=vals1 r
  §call_int_int ⟨.int i,H,I,⟨_,rfl⟩,q⟩
 ·¶⟨u,rfl,r1⟩:=vals1 r
  cases r1
  §call_int_bool ⟨.int (if k then 1 else 0),H,I.tok _,⟨_,rfl⟩,q⟩
end
structure A40(k:Nat)(A:Around):Prop where
 hd:A.handled=none
 dp:A.depth + 3 * k + 5 < recursionLimit
 un:A.units + 16 * k + 200 < cLine
÷A40.deeper{k:Nat}(r:A40 (k + 1) A)(env:Env):A40 k (A.deeper env) :=
 ⟨r.hd,by have:=r.dp;show A.depth + 1 + 3 * k + 5 < _;omega,by have:=r.un;show A.units + 3 + 16 * k + 200 < _;omega⟩
÷A40.depth{k:Nat}(r:A40 k A):A.depth < recursionLimit:=by have:=r.dp;omega
÷A40.units{k:Nat}(r:A40 k A):A.units + 64 < cLine:=by have:=r.un;omega
def O32:TA:=λ_ H Q=>Q [] H
def o42(ta:TE)(tr:TA):TA:=λσ H Q=>ta σ H λx H1=>tr σ H1 λxs H2=>Q (x::xs) H2
section
variable {X:Cx}{e:Ò}{es:List Ò}{te:TE}{t:TA}{pos:Pos}
÷r60:PA X [] O32:=λ_ _ _ _ H Q I h=>Ð3 ⟨[],H,I,.nil,h⟩
÷d90(ha:PE X e te)(hr:PA X es t)(hs:þ (e::es) X.env=(false,eval e X.env)::þ es X.env:=by rfl):PA X (e::es) (o42 te t):=by
 intro pos pins s σ H Q I h
 rw[hs]
 show Ï _ _ (spliced ((false,eval e X.env)::Õ9 pos (þ es X.env))) _ _ s
 ¤Ö8 (thn (ha pins s σ H _ I h) λu s1 ⟨x,H1,I1,r1,q1⟩=>?_)
 §thn (hr pos pins s1 σ H1 _ I1 q1) λus s2 ⟨xs,H2,I2,r2,q2⟩=>⟨x::xs,H2,I2,.cons r1 r2,q2⟩
def R82(t:TA):TE:=λσ H Q=>t σ H λxs H1=>xs.length<=Û/\∀ p,H1 p=none->Q (.ref p) (upd H1 p (.tup xs))
def R92(t:TA):TE:=λσ H Q=>t σ H λxs H1=>xs.length<=Û/\∀ p,H1 p=none->Q (.ref p) (upd H1 p (.lst xs))
÷T01(h:PA X es t):PE X (.Tuple es x1 pos) (R82 t):=by
 intro pins s σ H Q I hq
 ¤wpAny_Tuple_spliced (thn (h pos pins s σ H _ I hq) λus s1 ⟨xs,H1,I1,r,z,q⟩=>⟨by rw[← r.length];§z,?_⟩)
 have hf:H1 s1.heap.objs.size=none:=I1.hok.fresh (Í _)
 ¤⟨.ref s1.heap.objs.size,upd H1 s1.heap.objs.size (.tup xs),I1.laid (t':=s1.toks) (λb u e=>Ã _ e) (Í _) ?_,rfl,q _ hf⟩
 §⟨z,us,r,⟨_,Ë _ rfl,rfl,_,rfl⟩⟩
÷T11(h:PA X es t):PE X (.List es pos) (R92 t):=by
 intro pins s σ H Q I hq
 ¤wpAny_List_spliced (thn (h pos pins s σ H _ I hq) λus s1 ⟨xs,H1,I1,r,z,q⟩=>⟨by rw[← r.length];§z,?_⟩)
 have hf:H1 s1.heap.objs.size=none:=I1.hok.fresh (Í _)
 ¤⟨.ref s1.heap.objs.size,upd H1 s1.heap.objs.size (.lst xs),I1.laid (t':=s1.toks) (λb u e=>Ã _ e) (Í _) ?_,rfl,q _ hf⟩
 §⟨z,us,0,r,Ë _ rfl⟩
end
abbrev Sp:=List V->Hp->VK->XK->Prop
abbrev CXT:=List Env->Hp->Æ->XK->Ä->Æ->Prop
structure Y41(P:Program)(w:World)(K:PySem.W.Frag)(mg:Str->Option Value)(base:Heap)(A:Around)(outer:List Env)(s:Shared)(H:Hp):Prop where
 frames:A.frames=some outer
 mod:Mod K mg base
 bs:∀ b o,base.get? b=some o->s.heap.get? b=some o/\H b=none
 bsz:base.objs.size<=s.heap.objs.size
 l31:s.heap.FunFrames base outer
 frf:∀ b∈frs outer,H b=none
 hok:HOk P w H s.heap
 bare:AllBare s.gens
def CE(outer:List Env)(P:ß)(w:ç)(H:Hp)(s:Æ)(Q:VK)(u:Ä)(s':Æ):Prop :=
 ∃ v H',s'.os=s.os/\Ó5 s'.gens/\Un (frs outer) [] H H' s.heap s'.heap/\HOk P w H' s'.heap/\RelV v u/\Q v H'
def CR(CX:CXT)(outer:List Env)(P:ß)(w:ç)(H:Hp)(s:Æ)(Q:VK)(E:XK)(r:Result)(s':Æ):Prop :=
 match r with
 |.ok (.ret u)=>CE outer P w H s Q u s'
 |.ok _=>False
 |.error e=>CX outer H s E e s'
structure X20(P:Program)(w:World)(K:PySem.W.Frag)(mg:Str->Option Value)(base:Heap)(CX:CXT)(k:Nat)(f:Addr)(fd:FuncData)(ps:List Str)(sp:Sp):Prop where
 len:∀ vs H Q E,sp vs H Q E->vs.length=ps.length
 run:∀ (A:Around) (outer:List Env) (s:Shared) (H:Hp) (args:Args) (us:List Value) (vs:List V) (Q:VK) (E:XK),A40 k A->Y41 P w K mg base A outer s H->BindsTo s fd args (ps.zip us)->Vals vs us->sp vs H Q E ->
  codeAny (model P w) A (.call (.ref f) args) (CR CX outer P w H s Q E) s
section
variable {X:Cx}{pins:List (Ç × Obj)}{σ:St}{H:Hp}{s s':Æ}
÷Inv.E62(I:Inv X pins σ H s):Y41 X.prog X.w X.K X.mg X.base X.A X.stack s H :=
 ⟨I.ok.frames,I.ok.mod,I.bs,Ñ I.ok.bsz I.sz,I.stack,I.w40,I.hok,I.bare⟩
÷Inv.after(I:Inv X pins σ H s)(h:CE X.stack X.prog X.w H s Q u s'):EP X pins σ Q u s':=by
 ¶⟨v,H',os,bare,un,hok,r,q⟩:=h
 ¶⟨hh,g,d,t,os'⟩:=s'
 obtain rfl:os'=s.os:=os
 §⟨v,H',I.call (h':=hh) (g':=g) (d':=d) (t':=t) (ch:=[]) un hok bare (λb z=>absurd z (by simp)),r,q⟩
end
def E72(sp:Sp)(dvs:List V)(E:XK)(t:TA):TE:=λσ H Q=>t σ H λvs H1=>sp (vs++dvs) H1 Q E
def Binds(K:Â)(fd:Å2)(ps:List Str)(ds:List Ä):Prop :=
 ∀ (s:Æ) (us:List Ä),K.In s.heap->(us++ds).length=ps.length->BindsTo s fd ⟨us,[]⟩ (ps.zip (us++ds))
÷Binds.all{K:Â}{fd:Å2}{ps:List Str}(h:∀ us:List Ä,us.length=ps.length->bindArgs fd ⟨us,[]⟩=pure (ps.zip us)):Binds K fd ps []:=λs us _ hl=>by
 rw[append_nil] at hl ⊢
 §.of_eq (h us hl)
def Passes(CX:CXT)(X:Cx)(E:XK):Prop:=∀ (pins:List (Ç × Obj)) (σ:St) (H:Hp) (s:Æ) (e:Ä) (s':Æ),Inv X pins σ H s->CX X.stack H s E e s'->X.xe e s'
section
variable {X:Cx}{CX:CXT}{k:Nat}{f C:Ç}{fd:Å2}{ps:List Str}{sp:Sp}{dvs:List V}{ds:List Ä}{E:XK}{x m:Str}{p pos apos:Pos}{e o:Ò}{es:List Ò}{ta:TE}{t:TA}
÷o52{pins:List (Ç × Obj)}{σ:St}{H:Hp}{s:Æ}{Q:VK}{us:List Ä}{vs:List V}(F:X20 X.prog X.w X.K X.mg X.base CX k f fd ps sp)(hr:A40 k X.A)(hb:Binds X.K fd ps ds)(hd:Vals dvs ds)(hx:Passes CX X E)
  (I:Inv X pins σ H s) (r:Vals vs us) (h:sp (vs++dvs) H Q E):Ï (Ô X.prog X.w) X.A (call (.ref f) us) (EP X pins σ Q) X.xe s:=by
 have r2:Vals (vs++dvs) (us++ds):=r.append hd
 have hl:(us++ds).length=ps.length:=by rw[← r2.length];§F.len _ _ _ _ h
 ¤Õ8 (È3 (F.run X.A X.stack s H ⟨us,[]⟩ (us++ds) (vs++dvs) Q E hr I.E62 (hb s us I.kIn hl) r2 h) λr s' hq=>?_)
 cases r with
 |error e=>§hx pins σ H s e s' I hq
 |ok fl =>
  cases fl with
  |ret u=>§I.after hq
  |next=>§À3 hq
  |brk=>§À3 hq
  |cont=>§À3 hq
÷Y51(F:X20 X.prog X.w X.K X.mg X.base CX k f fd ps sp)(hr:A40 k X.A)(hg:Gl X x)(hm:X.mg x=some (.ref f))(hk:Ó7 X.K (.ref f)=true)(hb:Binds X.K fd ps ds)(hd:Vals dvs ds)(hx:Passes CX X E)
  (ha:PA X (e::es) t) (hdb:(x == ("__debug__":Str))=false:=by decide) (he:þ (e::es) X.env=(false,eval e X.env)::þ es X.env:=by rfl) (hpl:(Õ9 pos (þ es X.env)).any (·.1)=false:=by rfl) :
  PE X (.Call (.Name x p) (e::es) [] pos) (E72 sp dvs E t):=by
 intro pins s σ H Q I h
 ¤Ì0 (I70 I hg hm ?_ hdb)
 ¤callWith_K (h₀:=X.base) I.ok.mod.kin hk (thn (ha pos pins s σ H _ I h) λus s1 ⟨vs,H1,I1,r,q⟩=>⟨I1.kIn,?_⟩) he hpl
 §o52 F hr hb hd hx I1 r q
end
structure k20(N P:List Str)(sc:Scope):Prop where
 kind:sc.kind=.function
 co:sc.isCoroutine=false
 gen:sc.isGenerator=false
 nd:N.Nodup
 pre:N.take P.length=P
 par:∀ x∈P,sc.names.lookup x=some .local∨sc.names.lookup x=some .cell
 nofree:∀ y∈sc.names,y.2≠.free
÷P90{kindOf:Str->Option Ë6}{x:Str}:∀ {binds:List (Str × Ä)}{m:Str->Option Ä},(∀ v,(x,v) ∉ binds)->bindL kindOf binds m x=m x
 |[],_,_=>rfl
 |(n,v)::r,m,h=>by
  unfold bindL
  rw[P90 λw hw=>h w (È _ hw)]
  split
  ·have:x≠n:=by rintro rfl;§h v Ì
   simp[this]
  ·rfl
÷Q00{kindOf:Str->Option Ë6}{x:Str}:∀ {binds:List (Str × Ä)}{m:Str->Option Ä},(∀ v,(x,v) ∉ binds)->bindC kindOf binds m x=m x
 |[],_,_=>rfl
 |(n,v)::r,m,h=>by
  unfold bindC
  rw[Q00 λw hw=>h w (È _ hw)]
  split
  ·rfl
  ·have:x≠n:=by rintro rfl;§h v Ì
   simp[this]
÷Q10{kindOf:Str->Option Ë6}{x:Str}{v:Ä}:∀ {P:List Str}{vs:List Ä}{i:Nat}{m:Str->Option Ä},P.Nodup->P[i]?=some x->vs[i]?=some v->kindOf x=some .local ->
  bindL kindOf (P.zip vs) m x=some v
 |[],_,_,_,_,h,_,_=>by simp at h
 |_::_,[],_,_,_,_,h,_=>by simp at h
 |p::P,w::vs,0,m,nd,h1,h2,hk=>by
  simp at h1 h2;subst h1;subst h2
  show bindL kindOf ((p,w)::P.zip vs) m p=_
  unfold bindL
  rw[P90 λv hv=>(Ô0.mp nd).1 (of_mem_zip hv).1,if_pos hk]
  simp
 |p::P,w::vs,i + 1,m,nd,h1,h2,hk=>by
  show bindL kindOf ((p,w)::P.zip vs) m x=_
  unfold bindL
  §Q10 (i:=i) (Ô0.mp nd).2 (by simpa using h1) (by simpa using h2) hk
÷Q20{kindOf:Str->Option Ë6}{x:Str}{v:Ä}:∀ {P:List Str}{vs:List Ä}{i:Nat}{m:Str->Option Ä},P.Nodup->P[i]?=some x->vs[i]?=some v->kindOf x≠some .local ->
  bindC kindOf (P.zip vs) m x=some v
 |[],_,_,_,_,h,_,_=>by simp at h
 |_::_,[],_,_,_,_,h,_=>by simp at h
 |p::P,w::vs,0,m,nd,h1,h2,hk=>by
  simp at h1 h2;subst h1;subst h2
  show bindC kindOf ((p,w)::P.zip vs) m p=_
  unfold bindC
  rw[Q00 λv hv=>(Ô0.mp nd).1 (of_mem_zip hv).1,if_neg hk]
  simp
 |p::P,w::vs,i + 1,m,nd,h1,h2,hk=>by
  show bindC kindOf ((p,w)::P.zip vs) m x=_
  unfold bindC
  §Q20 (i:=i) (Ô0.mp nd).2 (by simpa using h1) (by simpa using h2) hk
def start(N:List Str)(vs:List V):St:=vs.map some++í (N.length - vs.length) none
def F90(CX:CXT)(P:ß)(w:ç)(K:Â)(mg:Str->Option Ä)(base:ì)(N:List Str)(qual:Str)(scope:ý)(f:Ç)(cd:Ä)(A:ø)(outer:List Env)(s:Æ)(H:Hp)(E:XK):Cx where
 prog:=P
 w:=w
 K:=K
 mg:=mg
 base:=base
 A:=A.deeper (Ï6 qual scope s.heap.objs.size f cd)
 N:=N
 s₀:=s
 H₀:=H
 env:=Ï6 qual scope s.heap.objs.size f cd
 outer:=outer
 stack:=Ï6 qual scope s.heap.objs.size f cd::outer
 ex:=[]
 calm:=true
 fn:=λ_=>true
 pn:=[]
 xe:=λe s'=>Ï (Ô P w) (A.deeper (Ï6 qual scope s.heap.objs.size f cd)) (leaving (Ï6 qual scope s.heap.objs.size f cd) e) (λ_ s''=>CX outer H s E e s'') (λe' s''=>CX outer H s E e' s'') s'
÷e41{sc:ý}{n:Nat}{x:Str}(h:sc.names.lookup x=some .cell):∃ c,(cellsFrom n sc.names []).lookup x=some c:=by
 have q:=cellsFrom_some sc.names n [] (.inl h)
 §Þ5.mp q
÷Q30{CX:CXT}{P:ß}{w:ç}{K:Â}{mg:Str->Option Ä}{base:ì}{N ps:List Str}{qual:Str}{scope:ý}{f:Ç}{cd:Ä}{A:ø}{outer:List Env}{s s1:Æ}{H:Hp}{E:XK}{us:List Ä}{vs:List V}
  (S:k20 N ps scope) (hd:A.handled=none) (e0:Y41 P w K mg base A outer s H) (hl:vs.length=ps.length) (r:Vals vs us)
  (x:InCallC s s.heap.objs.size (bindL (Ï6 qual scope s.heap.objs.size f cd).kindOf (ps.zip us) λ_=>none) (cellsFrom (s.heap.objs.size + 1) scope.names []) (bindC (Ï6 qual scope s.heap.objs.size f cd).kindOf (ps.zip us) λ_=>none) s1) :
  Inv (F90 CX P w K mg base N qual scope f cd A outer s H E) [] (start N vs) H s1:=by
 have hpl:ps.length<=N.length:=by have:=congrArg List.length S.pre;rw[Æ7] at this;omega
 ¶⟨h1,tk,rfl,hk⟩:=x.done
 have noA:∀ b:Ç,b ∉ (F90 CX P w K mg base N qual scope f cd A outer s H E).ex:=λb z=>absurd (show b∈([]:List Ç) from z) (by simp)
 ¤⟨⟨e0.mod,S.kind,rfl,rfl,Í _,λy z c h1 h2=>?_,λy hy=>?_,λy c _ h=>?_,λ_=>hd,à7 e0.frames,.inr ⟨rfl,rfl⟩,λb z=>absurd z (noA b),e0.bs,e0.bsz,λb _ _=>noA b,λb z=>absurd z (noA b),e0.l31,e0.frf⟩,
  rfl,e0.bare,Un.kept hk,⟨_,x.toInCall.ns,λi y v h1 h2 h3=>?_⟩,λy c h=>⟨_,x.cell y c h⟩,e0.hok.fresh (Í _),λy c h=>?_,λp hp=>absurd (show p∈([]:List (Ç × Obj)) from hp) (by simp),e0.hok.kept hk,?_⟩
 ·§name_of_addr x.apart (Â4 h1) (Â4 h2)
 ·have hy:scope.names.lookup y=some .cell∨scope.names.lookup y=some .free:=hy
  rcases hy with hy | hy
  ·§e41 hy
  ·§absurd rfl (S.nofree _ (Â4 hy))
 ·§É6 (x.above y c (Â4 h))
 ·have hi:i < vs.length:=by
   unfold start at h2
   by_cases hi:i < vs.length
   ·§hi
   ·rw[Å4 (by simpa using hi)] at h2
    rw[Ò5] at h2
    split at h2 <;> cases h2
  have ha:vs[i]?=some v:=by
   unfold start at h2
   rw[Ð2 (by simpa using hi),Ü] at h2
   cases e:vs[i]? with
   |none=>rw[e] at h2;cases h2
   |some a=>rw[e] at h2;cases h2;rfl
  ¶⟨u,hu,rv⟩:=r.get ha
  have hp:ps[i]?=some y:=by
   rw[← S.pre,List.getElem?_take_of_lt (by omega)];§h1
  have ndP:ps.Nodup:=by rw[← S.pre];§S.nd.sublist (List.take_sublist _ _)
  ¤⟨u,rv,?_⟩
  rcases S.par y (è hp) with k | k
  ·§.inl ⟨k,Q10 ndP hp hu k⟩
  ·¶⟨c,e⟩:=e41 (n:=s.heap.objs.size + 1) k
   ¤.inr ⟨.inl k,c,e,?_⟩
   have q:=x.cell y c e
   rw[Q20 ndP hp hu (by show scope.names.lookup y≠_;rw[k];decide)] at q
   §q
 ·§e0.hok.fresh (É6 (x.above y c (Â4 h)))
 ·unfold start
  show _=N.length
  rw[Â0,É,á0]
  omega
÷E82{CX:CXT}{P:ß}{w:ç}{K:Â}{mg:Str->Option Ä}{base:ì}{k:Nat}{f:Ç}{name qual:Str}{params:Î4}{body:List Å1}{scope:ý}{dV kV doc pm cdv ct oc:Ä}{an od:Option Ç}
  {osl:Array (Option Ä)}{N ps:List Str}{sp:Sp} (lk:K.lookup f=some ⟨oc,od,.func (fnOf name qual params body scope dV kV doc pm an cdv ct),osl⟩) (hcd:PySem.W.codeIn K cdv qual=true) (S:k20 N ps scope)
  (len:∀ vs H Q E,sp vs H Q E->vs.length=ps.length)
  (hbody:∀ (A:ø) (outer:List Env) (s:Æ) (H:Hp) (vs:List V) (Q:VK) (E:XK),A40 k (A.deeper (Ï6 qual scope s.heap.objs.size f cdv))->sp vs H Q E ->
   ∃ t,PSs (F90 CX P w K mg base N qual scope f cdv A outer s H E) body t/\t { nx:=λ_ H'=>Q .non H',rt:=Q } (start N vs) H) :
  X20 P w K mg base CX (k + 1) f (fnOf name qual params body scope dV kV doc pm an cdv ct) ps sp:=by
 ¤⟨len,λA outer s H args us vs Q E hr e0 hb r hsp=>?_⟩
 have hl:=len _ _ _ _ hsp
 have KX:K.In s.heap:=e0.mod.kin.keeps λb o e=>(e0.bs b o e).1
 have lim:s.heap.NoLimit:=e0.mod.nolimit.keeps λb o e=>(e0.bs b o e).1
 have hkind:∀ y∈ps.zip us,scope.names.lookup y.1=some .local∨(scope.names.lookup y.1=some .cell/\((cellsFrom (s.heap.objs.size + 1) scope.names []).lookup y.1).isSome=true):=λ⟨n,v⟩ hy=>by
  rcases S.par n (of_mem_zip hy).1 with q | q
  ·§.inl q
  ·§.inr ⟨q,cellsFrom_some _ _ _ (.inl q)⟩
 ¤codeAny_call_function hr.depth (KX _ _ lk) rfl S.co S.gen rfl (codeRec_of KX hcd) (hb _ _ _ _ ?_)
 ¤à8 S.kind hkind λenv he s1 x=>?_
 subst he
 ¤⟨lim.keeps x.toInCall.keep,codeAny_func ?_⟩
 ¶⟨t,ht,hq⟩:=hbody A outer s H vs Q E (hr.deeper _) hsp
 have I:Inv (F90 CX P w K mg base N qual scope f cdv A outer s H E) [] (start N vs) H s1:=Q30 S hr.hd e0 hl r x
 ¤Â1 (ht [] s1 (start N vs) H _ I hq) (λfl s' hs=>?_) λe s' hs=>hs
 have fin:∀ {σ':St}{H':Hp}{v:V}{u:Ä},Inv (F90 CX P w K mg base N qual scope f cdv A outer s H E) [] σ' H' s'->RelV v u->Q v H'->CE outer P w H s Q u s' :=
  λ{σ' H' v u} J rv q=>⟨v,H',J.os,J.bare,J.base,J.hok,rv,q⟩
 cases fl with
 |ret u =>
  ¶⟨v,σ',H',J,rv,q⟩:=hs
  §fin J rv q
 |next =>
  ¶⟨σ',H',J,q⟩:=hs
  §fin (v:=V.non) (u:=â) J rfl q
 |brk =>
  ¶⟨_,_,_,q⟩:=hs
  §À3 q
 |cont =>
  ¶⟨_,_,_,q⟩:=hs
  §À3 q
section
variable {X:Cx}{x:Str}{p pos:Pos}{e:Ò}{es:List Ò}{t:TA}{id T:String}{r:List V->Hp->VK->Prop}
def tCB(r:List V->Hp->VK->Prop)(t:TA):TE:=λσ H Q=>t σ H λvs H1=>r vs H1 Q
÷u00(hc:e50 X (.builtin id) r)(hg:Gl X x)(hm:X.mg x=none)(hv:ë x=some (.builtin id))(ha:PA X (e::es) t)(hn:x≠"__name__":=by decide)(hdb:(x == ("__debug__":Str))=false:=by decide)
  (he:þ (e::es) X.env=(false,eval e X.env)::þ es X.env:=by rfl) (hpl:(Õ9 pos (þ es X.env)).any (·.1)=false:=by rfl):PE X (.Call (.Name x p) (e::es) [] pos) (tCB r t):=by
 intro pins s σ H Q I h
 ¤Ì0 (t90 I hg hm hv ?_ hn hdb)
 §PyProof.Rows.callWith_builtin1 (thn (ha pos pins s σ H _ I h) λus s1 ⟨vs,H1,I1,r1,q1⟩=>hc pins s1 σ H1 vs us Q I1 r1 q1) he hpl
÷Q40(hc:e50 X (.type T) r)(hg:Gl X x)(hm:X.mg x=none)(hv:ë x=some (.type T))(ha:PA X (e::es) t)(hn:x≠"__name__":=by decide)(hdb:(x == ("__debug__":Str))=false:=by decide)
  (he:þ (e::es) X.env=(false,eval e X.env)::þ es X.env:=by rfl) (hpl:(Õ9 pos (þ es X.env)).any (·.1)=false:=by rfl):PE X (.Call (.Name x p) (e::es) [] pos) (tCB r t):=by
 intro pins s σ H Q I h
 ¤Ì0 (t90 I hg hm hv ?_ hn hdb)
 §Á2 (thn (ha pos pins s σ H _ I h) λus s1 ⟨vs,H1,I1,r1,q1⟩=>hc pins s1 σ H1 vs us Q I1 r1 q1) he hpl
end
end L2
namespace HT
open PySem PyProof.Rows
÷I11(A:ø)(s:Æ)(a:Int)(t:Tok)(c:Int)(u:Tok):∃ e,Ö7 A s (.int a t) (.int c u) e/\(e=true↔a=c) :=
 ⟨(a == c),Ö7.int_int a t c u,by simp⟩
÷e51(A:ø)(s:Æ)(a:Int)(t:Tok)(c:Int)(u:Tok)(prog:ß)(w:ç)(E:Ä->Æ->Prop)(Q:Ä->Æ->Prop)(h:Q (.bool (decide (a < c))) s) :
  Ï (Ô prog w) A (richCompare .Lt (.int a t) (.int c u)) Q E s :=
 (lt_int h:Ï (Ô prog w) A (ü .Lt (.int a t) (.int c u)) Q E s)
section
variable {prog:ß}{w:ç}{A:ø}{E:Ä->Æ->Prop}{s:Æ}
÷Y61{t b:Ç}{vs ws:List Ä}{Q:Ä->Æ->Prop}(ht:Ï2 s.heap t vs.toArray)(hb:Ï2 s.heap b ws.toArray)(hv:vs≠[])
  (h1:ws=[]->Q (.ref t) s) (h2:ws≠[]->Q (.ref s.heap.objs.size) { s with heap:=s.heap.push { cls:=.type "tuple",data:=.seq (vs++ws).toArray } })
  (hsz:vs.length + ws.length<=Û):Ï (Ô prog w) A (Ä2 .Add (.ref t) (.ref b)) Q E s:=by
 ¶⟨⟨cls,dd,data,sl⟩,ho,hc,n,hd⟩:=id ht
 ¶⟨⟨cls2,dd2,data2,sl2⟩,ho2,hc2,n2,hd2⟩:=id hb
 simp only at hc hd hc2 hd2
 subst hc hd hc2 hd2
 have e:vs.toArray++ws.toArray=(vs++ws).toArray:=by simp
 by_cases hw:ws=[]
 ·§concat_meets ⟨_,ho,rfl⟩ ⟨_,ho2,rfl⟩ ß1 seq_tuple_add Ò0 Ð8 (Ï7 _ _)
   (tuple_addW1 t b vs.toArray ws.toArray n n2 dd dd2 sl sl2 (by simpa using hv) (by simp[hw])) ⟨ho,ho2,h1 hw⟩
 ·¤concat_meets ⟨_,ho,rfl⟩ ⟨_,ho2,rfl⟩ ß1 seq_tuple_add Ò0 Ð8 (Ï7 _ _)
   (tuple_addW2 t b vs.toArray ws.toArray n n2 dd dd2 sl sl2 (by simpa using hv) (by simpa using hw) (by rw[Ó,Ó];§hsz)) ⟨ho,ho2,?_⟩
  rw[e]
  §h2 hw
def sIx(n d:Nat):Option Int->Nat
 |none=>d
 |some v=>if v < 0 then(v + (n:Int)).toNat else min v.toNat n
÷r61(n d k:Nat):sIx n d (some (k:Int))=min k n:=by
 show(if (k:Int) < 0 then((k:Int) + (n:Int)).toNat else min (k:Int).toNat n)=min k n
 rw[if_neg (by omega),Á9]
÷o62(n d:Nat)(hd:d<=n)(o:Option Int):sIx n d o<=n:=by
 cases o with
 |none=>§hd
 |some v =>
  show(if v < 0 then(v + (n:Int)).toNat else min v.toNat n)<=n
  by_cases hv:v < 0
  ·rw[if_pos hv];omega
  ·rw[if_neg hv];§Nat.min_le_right _ _
÷r71(v:Int)(n d:Nat):(if v < 0 then max (v + (n:Int)) 0 else min v (n:Int))=((sIx n d (some v):Nat):Int):=by
 show(if v < 0 then max (v + (n:Int)) 0 else min v (n:Int))=(((if v < 0 then(v + (n:Int)).toNat else min v.toNat n):Nat):Int)
 by_cases hv:v < 0
 ·simp only[if_pos hv];omega
 ·simp only[if_neg hv];omega
÷l61(lo hi:Option Int)(n:Nat):Í5 lo hi 1 (n:Int)=(((sIx n 0 lo:Nat):Int),((sIx n n hi:Nat):Int)):=by
 have h1:¬ ((1:Int) < 0):=by omega
 unfold Í5
 simp only[h1,if_false]
 ¤Prod.ext ?_ ?_
 ·cases lo with
  |none=>rfl
  |some v=>§r71 v n 0
 ·cases hi with
  |none=>rfl
  |some v=>§r71 v n n
÷l71(i j:Nat):É1 (i:Int) (j:Int) 1=j - i:=by
 unfold É1
 have h1:(1:Int) > 0:=by omega
 simp only[h1,if_true,Int.ediv_one]
 split <;> omega
÷G50(p:Ù4 v o)(h:Q o s):Ï (Ô prog w) A (ÿ.Slice.slicePartIndex v) Q E s:=by
 cases p with
 |none=>§Ø8 h
 |int i t=>§slicePart_int h
÷m80{sl:Ç}{vl vu:Ä}{lo hi:Option Int}{n:Nat}{Q:Int × Int × Nat->Æ->Prop}(hs:s.heap.IsSliceOf sl vl vu .none)(pl:Ù4 vl lo)(pu:Ù4 vu hi)
  (h:Q (((sIx n 0 lo:Nat):Int),1,sIx n n hi - sIx n 0 lo) s):Ï (Ô prog w) A (Ô4 (.ref sl) (pure (n:Int))) Q E s:=by
 ¶⟨os,hos,hcs,hds⟩:=id hs
 unfold Ô4 sliceFields
 ¤À (À (Á6 hos hds (x:=vl) rfl (À (Á6 hos hds (x:=vu) rfl (À (Á6 hos hds (x:=.none) rfl (Å ?_)))))))
 ¤À (Ø8 ?_)
 show Ï _ _ (if ((1:Int) == 0)=true then _ else _) _ _ s
 rw[if_neg (by decide)]
 ¤À (G50 pl (À (G50 pu (À (Å ?_)))))
 show Ï _ _ (match Í5 lo hi 1 (n:Int) with | (lo,hi)=>pure (lo,(1:Int),É1 lo hi 1)) _ _ s
 rw[l61 lo hi n]
 show Ï _ _ (pure (((sIx n 0 lo:Nat):Int),(1:Int),É1 ((sIx n 0 lo:Nat):Int) ((sIx n n hi:Nat):Int) 1)) _ _ s
 rw[l71]
 §Å h
÷I21(xs:Array Ä)(i k:Nat):((î k).filterMap λ(m:Nat)=>xs[((i:Int) + (m:Int) * 1).toNat]?).toArray=((xs.toList.drop i).take k).toArray:=by
 have e:(λ(m:Nat)=>xs[((i:Int) + (m:Int) * 1).toNat]?)=λm=>xs[i + m]?:=by
  funext m
  have:((i:Int) + (m:Int) * 1).toNat=i + m:=by omega
  rw[this]
 rw[e]
 have:=pick_run xs i k
 rw[List.filterMap_map] at this
 have e2:((λx=>xs[x]?) ∘ λx=>i + x)=λm=>xs[i + m]?:=rfl
 rw[e2] at this
 rw[this]
÷w50{t sl:Ç}{items:Array Ä}{vl vu:Ä}{lo hi:Option Int}{Q:Ä->Æ->Prop}(ht:Ï2 s.heap t items)(hs:s.heap.IsSliceOf sl vl vu .none)(pl:Ù4 vl lo)(pu:Ù4 vu hi)
  (hw:¬ (sIx items.size 0 lo=0/\sIx items.size items.size hi=items.size))
  (h:Q (.ref s.heap.objs.size) { s with heap:=s.heap.push { cls:=.type "tuple",data:=.seq ((items.toList.drop (sIx items.size 0 lo)).take (sIx items.size items.size hi - sIx items.size 0 lo)).toArray } })
  (hsz:items.size<=Û):Ï (Ô prog w) A (Ó3 (.ref t) (.ref sl)) Q E s:=by
 have htake:sizeOk (.seq ((items.toList.drop (sIx items.size 0 lo)).take (sIx items.size items.size hi - sIx items.size 0 lo)).toArray):=by
  show((items.toList.drop (sIx items.size 0 lo)).take (sIx items.size items.size hi - sIx items.size 0 lo)).toArray.size<=Û
  rw[Ó,Æ7,Í6,Ê8]
  omega
 have hj:sIx items.size items.size hi<=items.size:=o62 _ _ (Í _) hi
 ¶⟨os,hos,hcs,hds⟩:=id hs
 have hTs:s.TypeIs (.ref sl) "slice":=⟨os,hos,hcs⟩
 unfold Ó3
 try with_reducible ¤À8 ?_
 first | ¤À (Å ?_) | skip
 ¤À (Ý2 ht.typeIs (by decide) ?_)
 ¤À (À6 (name:=Á0 "__getitem__") ht.typeIs ô
  (À5 ô ht.typeIs entry_tuple_getitem ?_ (Ü4 _ _)))
 show Ï _ _ (tupleItemsOf (.ref t) >>= _) _ _ s
 ¤À (tupleItemsOf_ ht ?_)
 ¤À (Ç9 hTs ?_)
 rw[if_pos (by decide)]
 ¤À (m80 hs pl pu ?_)
 have hno:¬ ((((sIx items.size 0 lo:Nat):Int) == 0&&(1:Int) == 1&&(sIx items.size items.size hi - sIx items.size 0 lo) == items.size)=true):=by
  intro q
  rw[Á,Á] at q
  have q1:((sIx items.size 0 lo:Nat):Int)=0:=eq_of_beq q.1.1
  have q2:sIx items.size items.size hi - sIx items.size 0 lo=items.size:=eq_of_beq q.2
  §hw ⟨by omega,by omega⟩
 show Ï _ _ (if (((sIx items.size 0 lo:Nat):Int) == 0&&(1:Int) == 1&&(sIx items.size items.size hi - sIx items.size 0 lo) == items.size)=true then _ else _) _ _ s
 rw[if_neg hno,I21]
 first
  |§À (m:=Ç0 _) (å (Å ⟨_,rfl,Å h⟩) htake)
  |§À (m:=Ç0 _) (å (À (Å (Å ⟨_,rfl,Å h⟩))) htake)
  |§À (À (m:=Ç0 _) (å (Å (Å ⟨_,rfl,Å h⟩)) htake))
  |§À (À (m:=Ç0 _) (å (Å ⟨_,rfl,Å h⟩) htake))
end
end HT
namespace L2
open PySem PySem.Spec PyProof.Rows
abbrev TO:=St->Hp->(Option Int->Hp->Prop)->Prop
def PO(X:Cx)(e:Option Ò)(t:TO):Prop :=
 ∀ (pins:List (Ç × Obj)) (s:Æ) (σ:St) (H:Hp) (Q:Option Int->Hp->Prop),Inv X pins σ H s->t σ H Q ->
  Ï (Ô X.prog X.w) X.A (evalPart e X.env) (λu s'=>∃ o H',Inv X pins σ H' s'/\Ù4 u o/\Q o H') X.xe s
def Y71:TO:=λ_ H Q=>Q none H
def E92(t:TE):TO:=λσ H Q=>t σ H λx H1=>∃ i,x=.int i/\Q (some i) H1
÷intsAre_of:∀ {us:List Ä},Vals (ns.map V.int) us->Ë7 us ns:=by
 induction ns with
 |nil=>intro us r;rw[map_nil] at r;cases r;§.nil
 |cons n ns ih =>
  intro us r
  rw[Å7] at r
  cases r with
  |cons r1 r2 =>
   ¶⟨t,e⟩:=r1
   subst e
   §.cons n t (ih r2)
section
variable {X:Cx}{e:Ò}{te:TE}{lo hi:Option Ò}{tl th:TO}{pos p2:Pos}
÷Y81:PO X none Y71:=by
 intro pins s σ H Q I h
 rw[evalPart_none]
 §Å ⟨none,H,I,.none,h⟩
÷Y91(h:PE X e te):PO X (some e) (E92 te):=by
 intro pins s σ H Q I hw
 rw[evalPart_some]
 ¤thn (h pins s σ H _ I hw) λu s1 ⟨x,H1,I1,r1,q1⟩=>?_
 ¶⟨i,rfl,q⟩:=q1
 ¶⟨t,rfl⟩:=r1
 §⟨some i,H1,I1,.int i t,q⟩
def SlR(X:Cx)(r:V->Option Int->Option Int->Hp->VK->Prop):Prop :=
 ∀ (pins:List (Ç × Obj)) (s:Æ) (σ:St) (H:Hp) (x:V) (v vl vu:Ä) (lo hi:Option Int) (sl:Ç) (Q:VK),Inv X pins σ H s->RelV x v->s.heap.IsSliceOf sl vl vu .none->Ù4 vl lo->Ù4 vu hi->r x lo hi H Q ->
  ∃ T id,typeLookup (.type T) "__getitem__"=pure (some (.builtin id))/\s.TypeIs v T/\Ï (Ô X.prog X.w) X.A (Ó3 v (.ref sl)) (EP X pins σ Q) X.xe s
def tSl(r:V->Option Int->Option Int->Hp->VK->Prop)(te:TE)(tl th:TO):TE:=λσ H Q=>te σ H λx H1=>tl σ H1 λl H2=>th σ H2 λu H3=>r x l u H3 Q
÷I31(hr:SlR X r)(he:PE X e te)(hl:PO X lo tl)(hu:PO X hi th):PE X (.Subscript e (.Slice lo hi none p2) pos) (tSl r te tl th):=by
 intro pins s σ H Q I h
 ¤Subscript_ (thn (he pins s σ H _ I h) λv s1 ⟨x,H1,I1,r1,q1⟩=>?_)
 ¤wpAny_Slice (thn (hl pins s1 σ H1 _ I1 q1) λvl s2 ⟨l,H2,I2,pl,q2⟩=>thn (hu pins s2 σ H2 _ I2 q2) λvu s3 ⟨u,H3,I3,pu,q3⟩=>?_)
 rw[evalPart_none]
 ¤Å ?_
 have I4:Inv X pins σ H3 { s3 with heap:=s3.heap.push { cls:=.type "slice",data:=.fields #[vl,vu,.none] } }:=I3.kept (t':=s3.toks) λb ob q=>Ã _ q
 obtain⟨T,id,hT,ht,hg⟩:=hr pins { s3 with heap:=s3.heap.push { cls:=.type "slice",data:=.fields #[vl,vu,.none] } } σ H3 x v vl vu l u s3.heap.objs.size Q I4 r1 (Ò7 ..) pl pu q3
 show Ï (Ô X.prog X.w) X.A (subscriptTail e (.Slice lo hi none p2) v (.ref s3.heap.objs.size)) (EP X pins σ Q) X.xe { s3 with heap:=s3.heap.push { cls:=.type "slice",data:=.fields #[vl,vu,.none] } }
 §tail_any (ops:=[.ref s3.heap.objs.size,v]) ht hT hg (by with_unfolding_all rfl)
def I41(xs:List V)(lo hi:Option Int):List V:=(xs.drop (HT.sIx xs.length 0 lo)).take (HT.sIx xs.length xs.length hi - HT.sIx xs.length 0 lo)
÷C00(xs:List V)(lo hi:Option Int):(I41 xs lo hi).length<=xs.length:=by
 unfold I41
 rw[Æ7,Í6]
 omega
÷Vals.J00(r:Vals xs us):us=[]↔xs=[]:=by
 cases r with
 |nil=>simp
 |cons _ _=>simp
end
def ixN(n:Nat)(i:Int):Option Nat:=if 0<=i then(if i < n then some i.toNat else none) else if -(n:Int)<=i then some (i + n).toNat else none
def atI{α:Type}(xs:List α)(i:Int):Option α:=(ixN xs.length i).bind λj=>xs[j]?
÷r81{n:Nat}{i:Int}{j:Nat}(h:ixN n i=some j):seqIndex? i n=some j/\j < n/\-(n:Int)<=i/\i < n:=by
 unfold ixN at h
 by_cases h0:0<=i
 ·rw[if_pos h0] at h
  by_cases h1:i < n
  ·rw[if_pos h1] at h
   have e:i.toNat=j:=À7 h
   §⟨by rw[Ø9 h0 h1,e],by omega,by omega,h1⟩
  ·rw[if_neg h1] at h;cases h
 ·rw[if_neg h0] at h
  by_cases h1:-(n:Int)<=i
  ·rw[if_pos h1] at h
   have e:(i + n).toNat=j:=À7 h
   §⟨by rw[seqIndex_neg (by omega) h1,e],by omega,h1,by omega⟩
  ·rw[if_neg h1] at h;cases h
÷Y00{α:Type}{xs:List α}{i:Int}{v:α}(h:atI xs i=some v):∃ j,seqIndex? i xs.length=some j/\xs[j]?=some v/\j < xs.length/\-(xs.length:Int)<=i/\i < xs.length:=by
 unfold atI at h
 cases e:ixN xs.length i with
 |none=>rw[e] at h;cases h
 |some j =>
  rw[e] at h
  ¶⟨h1,h2,h3,h4⟩:=r81 e
  §⟨j,h1,h,h2,h3,h4⟩
÷w60{α:Type}{xs:List α}{j:Nat}{v:α}(h:xs[j]?=some v):atI xs (j:Int)=some v:=by
 have hj:j < xs.length:=(Ý.mp h).1
 have e:ixN xs.length (j:Int)=some j:=by
  unfold ixN
  rw[if_pos (by omega),if_pos (by omega)];simp
 unfold atI;rw[e];§h
def r91(b:Ò):Prop:=∀ o i,subscripted b false o i=operate [o,i] (Ó3 o i)
def IxR(X:Cx)(r:R2):Prop :=
 ∀ (value slice:Ò) (pins:List (Ç × Obj)) (s:Æ) (σ:St) (H:Hp) (x y:V) (v u:Ä) (Q:VK),Inv X pins σ H s->RelV x v->RelV y u->r x y H Q ->
  subscripted slice false v u=operate [v,u] (Ó3 v u)->Ï (Ô X.prog X.w) X.A (subscriptTail value slice v u) (EP X pins σ Q) X.xe s
def MtR(X:Cx)(id:String)(r:V->List V->Hp->VK->Prop):Prop :=
 ∀ (pins:List (Ç × Obj)) (s:Æ) (σ:St) (H:Hp) (x:V) (xs:List V) (v:Ä) (us:List Ä) (Q:VK),Inv X pins σ H s->RelV x v->Vals xs us->r x xs H Q ->
  Ï (Ô X.prog X.w) X.A (call (.builtin id) (v::us)) (EP X pins σ Q) X.xe s
section
variable {X:Cx}{a b:Ò}{ta tb:TE}{pos:Pos}
÷Z01(hr:IxR X r)(ha:PE X a ta)(hb:PE X b tb)(hs:r91 b):PE X (.Subscript a b pos) (tOp r ta tb):=by
 intro pins s σ H Q I h
 §Subscript_ (D92 ha hb I h λv u s2 x y H2 I2 rx ry q=>hr a b pins s2 σ H2 x y v u Q I2 rx ry q (hs _ _))
def F02(K:Â):R2:=λx y H Q=>∃ p xs i v,x=.ref p/\y=.int i/\SqL K H p xs/\atI xs i=some v/\Q v H
def S02(K:Â):R2:=λx y H Q=>∃ p xs i v,x=.ref p/\y=.int i/\SqT K H p xs/\atI xs i=some v/\Q v H
÷Y10:IxR X (F02 X.K):=by
 intro value slice pins s σ H x y v u Q I rx ry h hs
 ¶⟨p,xs,i,z,rfl,rfl,hq,he,q⟩:=h
 cases rx
 ¶⟨t,rfl⟩:=ry
 ¶⟨its,r,pl,hz⟩:=I.list hq
 ¶⟨j,h1,h2,h3,h4,h5⟩:=Y00 he
 ¶⟨w,ew,rw'⟩:=r.get h2
 have hl:=r.length
 have hn:=P70
 have fin:EP X pins σ Q w s:=⟨z,H,I,rw',q⟩
 by_cases h0:0<=i
 ·have hj:i.toNat=j:=by
   rw[Ø9 h0 h5] at h1
   §À7 h1
  §item_listR pl.isList h0 (by omega) (by rw[hj];simpa using ew) fin hs
 ·have hj:(i + (its.toArray.size:Int)).toNat=j:=by
   rw[seqIndex_neg (by omega) h4] at h1
   rw[Ó,← hl]
   §À7 h1
  §subscriptTail_builtinR (x:=w) pl.isList.typeIs slot_list_getitem.lookup
   (wpAny_getItem_list_neg (Q:=λr s'=>r=w/\EP X pins σ Q r s') pl.isList (by omega) (by rw[Ó] <;> omega) (by omega) (by rw[hj];simpa using ew) ⟨rfl,fin⟩) hs
÷o72:IxR X (S02 X.K):=by
 intro value slice pins s σ H x y v u Q I rx ry h hs
 ¶⟨p,xs,i,z,rfl,rfl,hq,he,q⟩:=h
 cases rx
 ¶⟨t,rfl⟩:=ry
 ¶⟨its,r,pl,hz⟩:=I.tuple hq
 ¶⟨j,h1,h2,h3,h4,h5⟩:=Y00 he
 ¶⟨w,ew,rw'⟩:=r.get h2
 have hl:=r.length
 have hn:=P70
 have fin:EP X pins σ Q w s:=⟨z,H,I,rw',q⟩
 §subscriptTail_builtinR (x:=w) pl.typeIs slot_tuple_getitem.lookup
  (getItem_tuple (j:=j) (Q:=λr s'=>r=w/\EP X pins σ Q r s') pl (by omega) (by omega) (by rw[Ó,← hl];§h1) (by simpa using ew) ⟨rfl,fin⟩) hs
÷l81(its:List Ä)(n j:Nat)(u:Ä):À2 (·.setIfInBounds j u) { cls:=.type "list",data:=.seq its.toArray n }={ cls:=.type "list",data:=.seq (its.set j u).toArray n }:=by
 simp[À2]
÷Inv.lst{pins:List (Ç × Obj)}{σ:St}{H:Hp}{s:Æ}{p:Ç}{xs:List V}(I:Inv X pins σ H s)(h:H p=some (.lst xs)) :
  ∃ (its:List Ä) (n:Nat),Vals xs its/\s.heap.get? p=some { cls:=.type "list",data:=.seq its.toArray n }/\xs.length<=sizeLine:=by
 ¶⟨z,its,n,r,e⟩:=I.hok p _ h
 §⟨its,n,r,e,z⟩
÷Inv.o82{pins:List (Ç × Obj)}{σ:St}{H:Hp}{s:Æ}{p:Ç}{xs ys:List V}{its its':List Ä}{n n':Nat}{f:Obj->Obj}(I:Inv X pins σ H s)(h:H p=some (.lst xs))
  (ho:s.heap.get? p=some { cls:=.type "list",data:=.seq its.toArray n }) (hf:f { cls:=.type "list",data:=.seq its.toArray n }={ cls:=.type "list",data:=.seq its'.toArray n' }) (r:Vals ys its') (hz:ys.length<=Û) (t:Nat) :
  Inv X pins σ (upd H p (.lst ys)) { s with heap:=s.heap.update p f,toks:=t }:=by
 have e:(s.heap.update p f).get? p=some { cls:=.type "list",data:=.seq its'.toArray n' }:=by
  rw[Ç8 f ho (by rw[hf] <;> rfl),hf]
 ¤I.write (x:=p) (e:=p) (by rw[h];trivial) (.inl rfl) (λb u hb q=>(Ë8 _ _ (Â3 hb)).trans q) ⟨_,e⟩ ?_
 §⟨hz,its',n',r,e⟩
def F12:V->V->V->Hp->(Hp->Prop)->Prop:=λo i v H Q=>∃ p xs k j,o=.ref p/\i=.int k/\H p=some (.lst xs)/\ixN xs.length k=some j/\Q (upd H p (.lst (xs.set j v)))
÷set_list:D42 X F12:=by
 intro pins s σ H o i v ov iv u Q I ro ri rv h
 ¶⟨p,xs,k,j,rfl,rfl,hp,hj,q⟩:=h
 cases ro
 ¶⟨t,rfl⟩:=ri
 ¶⟨its,n,r,ho,hz⟩:=I.lst hp
 ¶⟨h1,h2,h3,h4⟩:=r81 hj
 have hl:=r.length
 have hn:=P70
 have I':Inv X pins σ (upd H p (.lst (xs.set j v))) { s with heap:=s.heap.update p (À2 (·.setIfInBounds j u)) } :=
  I.o82 hp ho (l81 its n j u) (r.set rv j) (by rw[Ä1];§hz) s.toks
 by_cases h0:0<=k
 ·have hk:k.toNat=j:=by
   rw[Ø9 h0 h4] at h1
   §À7 h1
  §PySem.W.ki_setAt ho h0 (by omega) (by rw[Ó,← hl];§h4) (by rw[hk];§⟨_,I',q⟩)
 ·have hk:(k + (its.toArray.size:Int)).toNat=j:=by
   rw[seqIndex_neg (by omega) h3] at h1
   rw[Ó,← hl]
   §À7 h1
  §PySem.W.ki_setBack ho (by omega) (by rw[Ó,← hl];§h3) (by omega) (by rw[hk];§⟨_,I',q⟩)
÷Q50(lo hi:Option Int)(n:Nat):(Î9 lo hi none n).1=((HT.sIx n 0 lo:Nat):Int)/\(Î9 lo hi none n).2.1=((HT.sIx n n hi:Nat):Int)/\(Î9 lo hi none n).2.2=1:=by
 ¤⟨?_,?_,rfl⟩
 ·cases lo with
  |none=>simp[Î9,HT.sIx]
  |some i =>
   simp only[Î9,HT.sIx,getD_none,show(1:Int) > 0 by decide,if_true]
   by_cases h:i < 0
   ·simp only[h,if_true] <;> omega
   ·simp only[h,if_false] <;> omega
 ·cases hi with
  |none=>simp[Î9,HT.sIx]
  |some i =>
   simp only[Î9,HT.sIx,getD_none,show(1:Int) > 0 by decide,if_true]
   by_cases h:i < 0
   ·simp only[h,if_true] <;> omega
   ·simp only[h,if_false] <;> omega
÷J10(its:List Ä)(lo hi:Option Int):slicePick its.toArray lo hi none=((its.drop (HT.sIx its.length 0 lo)).take (HT.sIx its.length its.length hi - HT.sIx its.length 0 lo)).toArray:=by
 ¶⟨h1,h2,h3⟩:=Q50 lo hi its.toArray.size
 unfold slicePick
 rw[h1,h2,h3]
 simp only[sliceRange_one,pick_run,Ó] <;> rfl
def S12(K:Â):V->Option Int->Option Int->Hp->VK->Prop:=λx lo hi H Q=>∃ a xs,x=.ref a/\SqL K H a xs/\∀ p,H p=none->Q (.ref p) (upd H p (.lst (I41 xs lo hi)))
÷Z11:SlR X (S12 X.K):=by
 intro pins s σ H x v vl vu lo hi sl Q I rx hs pl pu h
 ¶⟨a,xs,rfl,hx,q⟩:=h
 cases rx
 ¶⟨its,r,ht,hz⟩:=I.list hx
 have hlen:=r.length
 ¤⟨"list",_,slot_list_getitem.lookup,ht.isList.typeIs,?_⟩
 ¤wpAny_getItem_list_slice ht.isList hs pl pu .none (by simp) ?_ (by rw[Ó] <;> omega)
 rw[J10,← hlen]
 ¤⟨.ref s.heap.objs.size,_,I.laid (t':=s.toks) (o:=.lst (I41 xs lo hi)) (λb ob q=>Ã _ q) (Í _) ?_,rfl,q _ (I.hok.fresh (Í _))⟩
 §⟨Ñ (C00 xs lo hi) hz,_,0,(r.drop (HT.sIx xs.length 0 lo)).take (HT.sIx xs.length xs.length hi - HT.sIx xs.length 0 lo),Ë _ rfl⟩
÷Q60:e50 X (.builtin "len") (λxs H Q=>∃ p ys,xs=[.ref p]/\(SqL X.K H p ys∨SqT X.K H p ys)/\Q (.int ys.length) H):=by
 intro pins s σ H xs us Q I r h
 ¶⟨p,ys,rfl,hq,q⟩:=h
 ¶⟨u,rfl,rx⟩:=vals1 r
 cases rx
 have hn:=P70
 rcases hq with hq | hq
 ·¶⟨its,r',pl,hz⟩:=I.list hq
  have hlen:=r'.length
  §Calls.call_len_list pl.isList (by simp only[Ó] <;> omega) ⟨.int ys.length,H,I.tok _,⟨s.toks + 1,by rw[Ó,hlen]⟩,q⟩
 ·¶⟨its,r',pl,hz⟩:=I.tuple hq
  have hlen:=r'.length
  §len_tuple pl (by simp only[Ó] <;> omega) ⟨.int ys.length,H,I.tok _,⟨s.toks + 1,by rw[Ó,hlen]⟩,q⟩
÷Q70:e50 X (.type "list") (λxs H Q=>∃ p ys,xs=[.ref p]/\(SqL X.K H p ys∨SqT X.K H p ys)/\∀ l,H l=none->Q (.ref l) (upd H l (.lst ys))):=by
 intro pins s σ H xs us Q I r h
 ¶⟨p,ys,rfl,hq,q⟩:=h
 ¶⟨u,rfl,rx⟩:=vals1 r
 cases rx
 have fin:∀ (its:List Ä),Vals ys its->ys.length<=Û->∀ (h':ì) (c':Nat),(∀ b o',s.heap.get? b=some o'->h'.get? b=some o') ->
   h'.get? s.heap.objs.size=some { cls:=.type "list",dict:=none,data:=.seq its.toArray c',slots:=#[] }->EP X pins σ Q (.ref s.heap.objs.size) { s with heap:=h' }:=λits r' hz h' c' kp e =>
  ⟨.ref s.heap.objs.size,_,I.laid (t':=s.toks) kp (Í _) (show h00 X.prog X.w _ h' _ (.lst ys) from⟨hz,its,c',r',e⟩),rfl,q _ (I.hok.fresh (Í _))⟩
 rcases hq with hq | hq
 ·¶⟨its,r',pl,hz⟩:=I.list hq
  have hlen:=r'.length
  ¶⟨o,ho,hc,n,hd⟩:=pl.isList
  §call_list_seq p (.inl rfl) ho hc hd (λh' c' kp e=>fin its r' hz h' c' kp e) (by simp only[Ó] <;> omega)
 ·¶⟨its,r',pl,hz⟩:=I.tuple hq
  have hlen:=r'.length
  ¶⟨o,ho,hc,n,hd⟩:=pl
  §call_list_seq p (.inr rfl) ho hc hd (λh' c' kp e=>fin its r' hz h' c' kp e) (by simp only[Ó] <;> omega)
÷J20:e50 X (.type "tuple") (λxs H Q=>∃ p ys,xs=[.ref p]/\((SqL X.K H p ys/\∀ l,H l=none->Q (.ref l) (upd H l (.tup ys)))∨(SqT X.K H p ys/\Q (.ref p) H))):=by
 intro pins s σ H xs us Q I r h
 ¶⟨p,ys,rfl,h⟩:=h
 ¶⟨u,rfl,rx⟩:=vals1 r
 cases rx
 rcases h with ⟨hq,q⟩ | ⟨hq,q⟩
 ·¶⟨its,r',pl,hz⟩:=I.list hq
  have hlen:=r'.length
  ¤call_tuple_list pl.isList (λh' kp=>?_) (by simp only[Ó] <;> omega)
  have I1:Inv X pins σ H { s with heap:=h' }:=I.kept (t':=s.toks) kp
  have I2:Inv X pins σ (upd H h'.objs.size (.tup ys)) { s with heap:=h'.push { cls:=.type "tuple",data:=.seq its.toArray } } :=
   I1.laid (t':=s.toks) (λb o e=>Ã _ e) (Í _) (show h00 X.prog X.w _ _ _ (.tup ys) from⟨hz,its,r',Ï2.new _ _⟩)
  §⟨.ref h'.objs.size,_,I2,rfl,q _ (I1.hok.fresh (Í _))⟩
 ·¶⟨its,r',pl,hz⟩:=I.tuple hq
  §call_tuple_same pl ⟨.ref p,H,I,rfl,q⟩
def tyV(K:Â)(T:String)(x:V)(H:Hp):Prop:=match x with
 |.str _=>T="str"
 |.int _=>T="int"
 |.ref p=>(T="list"/\∃ xs,SqL K H p xs)∨(T="tuple"/\∃ o,K.lookup p=some o/\o.cls=.type "tuple"/\o.dict=none) ∨
   (T="dict"/\((∃ kvs,H p=some (.dK kvs))∨∃ kvs,H p=some (.dT kvs)))∨(T="set"/\∃ S n,H p=some (.set S n))
 |_=>False
÷o92{pins:List (Ç × Obj)}{σ:St}{H:Hp}{s:Æ}{T:String}{x:V}{v:Ä}(I:Inv X pins σ H s)(r:RelV x v)(ty:tyV X.K T x H) :
  s.TypeIs v T/\∀ a,v=.ref a->∃ ob,s.heap.get? a=some ob/\ob.dict=none:=by
 cases x with
 |str z =>
  ¶⟨t,rfl⟩:=r
  cases (show T="str" from ty)
  §⟨typeIs_str s z t,λ_ e=>nomatch e⟩
 |int i =>
  ¶⟨t,rfl⟩:=r
  cases (show T="int" from ty)
  §⟨Ü1 s i t,λ_ e=>nomatch e⟩
 |ref p =>
  cases r
  rcases ty with ⟨rfl,xs,hq⟩ | ⟨rfl,o,hk,hc,hd⟩ | ⟨rfl,hk⟩ | ⟨rfl,S,n,hk⟩
  ·¶⟨its,_,pl,_⟩:=I.list hq
   ¤⟨pl.isList.typeIs,λa e=>?_⟩
   cases e
   ¶⟨o,n,e,c,hd,_⟩:=pl
   §⟨o,e,hd⟩
  ·¤⟨⟨o,I.kIn p o hk,hc⟩,λa e=>?_⟩
   cases e
   §⟨o,I.kIn _ o hk,hd⟩
  ·have z:∃ o,s.heap.get? p=some o/\o.ExactDict:=by
    rcases hk with ⟨kvs,hk⟩ | ⟨kvs,hk⟩
    ·¶⟨_,_,_,_,o,_,_,e,ex,_⟩:=I.hok p _ hk
     §⟨o,e,ex⟩
    ·¶⟨_,_,_,_,o,_,_,e,ex,_⟩:=I.hok p _ hk
     §⟨o,e,ex⟩
   ¶⟨o,e,ex⟩:=z
   ¤⟨⟨o,e,ex.1⟩,λa e2=>?_⟩
   cases e2
   §⟨o,e,ex.2.1⟩
  ·¶⟨o,_,_,_,e,ex,_⟩:=I.hok p _ hk
   ¤⟨⟨o,e,ex.1⟩,λa e2=>?_⟩
   cases e2
   §⟨o,e,ex.2.1⟩
 |_=>§À3 ty
def tBM(K:Â)(T:String)(r:V->List V->Hp->VK->Prop)(to:TE)(t:TA):TE:=λσ H Q=>to σ H λx H1=>tyV K T x H1/\t σ H1 λxs H2=>r x xs H2 Q
variable {o e:Ò}{es:List Ò}{to:TE}{t:TA}{name:Str}{apos cpos:Pos}{T id:String}{r:V->List V->Hp->VK->Prop}
÷Z21(pa:PlainAttrs T)(slot:Slot T name id)(hty:typeOf (.builtin id)=pure (.type "method_descriptor"))(hm:MtR X id r)(ho:PE X o to)(ha:PA X (e::es) t)
  (hbase:attributeBase o name X.env (eval o X.env)=eval o X.env:=by rfl)
  (hfew:((Õ9 cpos (þ (e::es) X.env)).all (λx=>!x.1)&&(backToKw cpos (keywordEach [] X.env)).all (λx=>x.1.isSome)
   &&decide ((e::es).length + ([]:List Keyword).length + (if ([]:List Keyword).isEmpty then 0 else 1) < 30))=true:=by rfl)
  (hline:(apos.endLine == cpos.line)=true:=by rfl) (hs:þ (e::es) X.env=(false,eval e X.env)::þ es X.env:=by rfl) (hplain:(Õ9 cpos (þ es X.env)).any (·.1)=false:=by rfl) :
  PE X (.Call (.Attribute o name apos) (e::es) [] cpos) (tBM X.K T r to t):=by
 intro pins s σ H Q I h
 ¤wpAny_Call_method_late hbase hfew hline rfl (thn (ho pins s σ H _ I h) λv s1 ⟨x,H1,I1,r1,ty,q1⟩=>?_)
 ¶⟨h1,h2⟩:=o92 I1 r1 ty
 ¤⟨T,id,pa,slot,hty,h1,h2,?_⟩
 have hA:=ha cpos pins s1 σ H1 _ I1 q1
 rw[hs] at hA ⊢
 ¤Calls.callWith_builtin (by show(false || (Õ9 cpos (þ es X.env)).any (·.1))=false;rw[hplain] <;> rfl) (á2 ?_)
 §thn hA λus s2 ⟨vs,H2,I2,r2,q2⟩=>hm pins s2 σ H2 x vs v us Q I2 r1 r2 q2
end
def MtM(X:Cx)(id:String)(r:V->List V->Hp->VK->Prop):Prop :=
 ∀ (pins:List (Ç × Obj)) (s:Æ) (σ:St) (H:Hp) (x:V) (xs:List V) (v:Ä) (us:List Ä) (Q:VK),Inv X pins σ H s->RelV x v->Vals xs us->r x xs H Q ->
  Ï (Ô X.prog X.w) X.A (call (.builtin id) (v::us)) (EP X pins σ Q) X.xe s
÷Vals.one:∀ {x:V}{us:List Ä},Vals [x] us->∃ u,us=[u]/\RelV x u
 |_,_,.cons r .nil=>⟨_,rfl,r⟩
÷Vals.eraseIdx:∀ {xs:List V}{us:List Ä} (i:Nat),Vals xs us->Vals (xs.eraseIdx i) (us.eraseIdx i)
 |_,_,_,.nil=>.nil
 |_,_,0,.cons _ t=>t
 |_,_,i + 1,.cons r t=>.cons r (Vals.eraseIdx i t)
÷Vals.reverse(h:Vals xs us):Vals xs.reverse us.reverse:=by
 induction h with
 |nil=>§.nil
 |cons r t ih=>rw[Ô5,Ô5];§Vals.append ih (.cons r .nil)
÷Vals.rep(h:Vals xs us):∀ k:Nat,Vals (í k xs).flatten (í k us).flatten
 |0=>.nil
 |k + 1=>by
  rw[Å5,Å5,É9,É9]
  §Vals.append h (Vals.rep h k)
÷Q80{α:Type}:∀ (l:List α) (i:Nat),(l.eraseIdx i).length<=l.length
 |[],_=>Í _
 |_::_,0=>le_succ _
 |_::r,i + 1=>Ü6 (Q80 r i)
÷foldl_rep(its:List Ä):∀ (k:Nat) (acc:List Ä),
  foldl (λx1 x2=>x1++x2) acc.toArray (í k its.toArray)=(acc++(í k its).flatten).toArray
 |0,acc=>by simp
 |k + 1,acc=>by
  have e:acc.toArray++its.toArray=(acc++its).toArray:=by simp
  have e2:(acc++its)++(í k its).flatten=acc++(í (k + 1) its).flatten:=by
   rw[Å5,É9,Ô7]
  rw[← e2,← foldl_rep its k (acc++its),← e,Å5,List.foldl_cons]
section
variable {X:Cx}{pins:List (Ç × Obj)}{σ:St}{H:Hp}{s:Æ}{l b:Ç}{xs ys zs:List V}
÷Inv.B42{its its':List Ä}{n:Nat}{f:Array Ä->Array Ä}{t':Nat}(I:Inv X pins σ H s)(hH:H l=some (.lst xs))
  (e:s.heap.get? l=some { cls:=.type "list",data:=.seq its.toArray n }) (hf:f its.toArray=its'.toArray) (hv:Vals ys its') (hz:ys.length<=Û) :
  Inv X pins σ (upd H l (.lst ys)) { s with heap:=s.heap.update l (À2 f),toks:=t' }:=by
 have q:=PySem.IsL.update e f
 rw[hf] at q
 ¤I.write (x:=l) (e:=l) (by rw[hH];§trivial) (.inl rfl) (λb' u hb hu=>(Ë8 s.heap (À2 f) (Â3 hb)).trans hu) ⟨_,q⟩ ?_
 §⟨hz,its',_,hv,q⟩
÷Inv.F22{t':Nat}(I:Inv X pins σ H s)(hv:Vals ys its)(hz:ys.length<=Û) :
  Inv X pins σ (upd H s.heap.objs.size (.lst ys)) { s with heap:=s.heap.push { cls:=.type "list",data:=.seq its.toArray },toks:=t' } :=
 I.laid (λ_ _ q=>Ã _ q) (Í _) ⟨hz,its,0,hv,Ë _ rfl⟩
÷Inv.fresh(I:Inv X pins σ H s):H s.heap.objs.size=none:=I.hok.fresh (Í _)
÷Inv.p02(I:Inv X pins σ H s)(hH:H l=some (.lst xs)):xs.length<=Û/\∃ (its:List Ä) (n:Nat),Vals xs its/\xs.length=its.length/\s.heap.get? l=some { cls:=.type "list",data:=.seq its.toArray n }:=by
 ¶⟨z,its,n,r,e⟩:=I.hok l _ hH
 §⟨z,its,n,r,r.length,e⟩
÷I51{n:Nat}(h:n<=Û):Í7 n=false:=by
 unfold Í7
 §decide_eq_false (by omega)
end
section
variable {X:Cx}
def s01:V->List V->Hp->VK->Prop:=λx vs H Q=>∃ l xs y,x=.ref l/\vs=[y]/\H l=some (.lst xs)/\xs.length < Û/\Q .non (upd H l (.lst (xs++[y])))
÷Q90:MtM X "list.append" s01:=by
 intro pins s σ H x vs v us Q I rx rv h
 ¶⟨l,xs,y,rfl,rfl,hH,hz,q⟩:=h
 cases rx
 ¶⟨u,rfl,ru⟩:=rv.one
 ¶⟨z,its,n,r,hl,e⟩:=I.p02 hH
 ¤È4 F.slot_list_append ⟨_,e,rfl⟩ F.entry_list_append (F.args_list_append_2 _ _) (PySem.list_append l its.toArray n u (by rw[Ó];omega)) ⟨e,?_⟩
 ¤⟨.non,_,I.B42 (its':=its++[u]) hH e (by simp) (r.append (.cons ru .nil)) ?_,rfl,q⟩
 rw[Â0,List.length_singleton]
 omega
def T21:V->List V->Hp->VK->Prop:=λx vs H Q=>∃ l xs i k y,x=.ref l/\vs=[.int i]/\H l=some (.lst xs)/\-(2 ^ 63)<=i/\i < 2 ^ 63/\seqIndex? i xs.length=some k/\xs[k]?=some y/\Q y (upd H l (.lst (xs.eraseIdx k)))
÷I61:MtM X "list.pop" T21:=by
 intro pins s σ H x vs v us Q I rx rv h
 ¶⟨l,xs,i,k,y,rfl,rfl,hH,h1,h2,hk,hy,q⟩:=h
 cases rx
 ¶⟨u,rfl,ru⟩:=rv.one
 ¶⟨t,rfl⟩:=ru
 ¶⟨z,its,n,r,hl,e⟩:=I.p02 hH
 ¶⟨w,hw,rw'⟩:=r.get hy
 ¤È4 F.slot_list_pop ⟨_,e,rfl⟩ F.entry_list_pop (F.args_list_pop_2 _ _)
  (MeetsSeq.list_pop_at l its.toArray n i t k w (fitsIndex_both h1 h2) (by rw[Ó,← hl];§hk) (by rw[← õ];§hw) (by rw[Ó];omega)) ⟨e,?_⟩
 ¤⟨y,_,I.B42 (its':=its.eraseIdx k) hH e ?_ (r.eraseIdx k) ?_,rw',q⟩
 ·show its.toArray.eraseIdxIfInBounds k=(its.eraseIdx k).toArray
  rw[List.eraseIdxIfInBounds_toArray]
 ·have:=Q80 xs k
  omega
def S22:R2:=λx y H Q=>∃ l b xs zs,x=.ref l/\y=.ref b/\H l=some (.lst xs)/\H b=some (.lst zs)/\xs.length + zs.length<=Û/\∀ p,H p=none->Q (.ref p) (upd H p (.lst (xs++zs)))
÷s11:OpR X (Ä2 .Add) S22:=by
 intro pins s σ H x y v u Q I rx ry h
 ¶⟨l,b,xs,zs,rfl,rfl,hH,hB,hz,q⟩:=h
 cases rx
 cases ry
 ¶⟨z,its,n,r,hl,e⟩:=I.p02 hH
 ¶⟨z2,its2,n2,r2,hl2,e2⟩:=I.p02 hB
 ¤PySem.P.add_list e e2 ?_ (by rw[Ó,Ó];omega)
 have ea:its.toArray++its2.toArray=(its++its2).toArray:=by simp
 rw[ea]
 §⟨.ref _,_,I.F22 (t':=s.toks) (r.append r2) (by rw[Â0];omega),rfl,q _ I.fresh⟩
÷len_rep{α:Type}(xs:List α)(k:Nat):(í k xs).flatten.length=k * xs.length:=by
 induction k with
 |zero=>simp
 |succ k ih=>rw[Å5,É9,Â0,ih,Nat.succ_mul,Nat.add_comm]
end
end L2
namespace Att
open PySem PySem.W PySem.Calls PyProof.Rows
÷C10:∀ (ns:List Int) (vs:List Ä),WellAll P h vs (ns.map WData.int)->Ë7 vs ns:=by
 intro ns
 induction ns with
 |nil =>
  intro vs w
  rw[map_nil] at w
  cases w
  §.nil
 |cons n ns ih =>
  intro vs w
  rw[Å7] at w
  cases w with
  |cons a b =>
   cases a
   §.cons _ _ (ih _ b)
÷s21{l:OpenLaw}{n:Nat}(hn:l.most=some n){P:Params}{h:ì}{args:List WData}{vals:List Ä}
  (hpre:l.row.toRowW.claim.pre args=true) (hwl:WellAll P h vals args) :
  ∃ a vs ns,vals=[Ã3 a]/\args=[WData.list (ns.map WData.int)]/\h.get? a=some { cls:=.type "list",data:=.seq vs.toArray }/\Ë7 vs ns/\ns.length<=n:=by
 have hsh:WShape.hasAll [] args [.list .int]=true:=(pre_splitW hpre).1
 have hc:l.pre.holds [] { args:=args }=true:=(pre_splitW hpre).2
 ¶⟨d,r,rfl,h1,h2⟩:=hasAllW_cons hsh
 ¶rfl:=hasAllW_nil h2
 ¶⟨xs,rfl,h3⟩:=hasW_list h1
 ¶⟨ns,rfl⟩:=items_int h3
 have hlen:ns.length<=n:=by
  unfold OpenLaw.pre at hc
  have h4:(WTm.not (.lt (.lit (.int (n:Int))) (.len (.arg 0)))).holds [] { args:=[.list (ns.map .int)] }=true:=by
   have h4:=(holds_andW hc).1
   rw[hn] at h4
   §h4
  have h5:=condW_of h4 (w_not (w_lt w_lit (w_len_list (w_arg rfl))))
  rw[É] at h5
  ¤Nat.le_of_not_lt λq=>?_
  have q':(n:Int) < ((ns.length:Nat):Int):=by omega
  first
   |(rw[decide_eq_true q'] at h5;§absurd h5 (by decide))
   |(simp at h5;omega)
 cases hwl with
 |cons w1 w2 =>
  cases w2
  cases w1 with
  |list ho hall=>§⟨_,_,ns,rfl,rfl,ho,C10 ns _ hall,hlen⟩
÷s31(l:OpenLaw)(args:List WData):l.row.toRowW.claim.post args (.bool true) args=true :=
 postW_of (r:=l.row.toRowW) (X:=(true == true))
  (show WShape.has [] (.bool true) .bool=true by first | rfl | decide | simp[WShape.has,WShape.arms,WShape.armsAll])
  (show(WTm.eq .res (.lit (.bool true))).value [] { args:=args,res:=some (.bool true),after:=args }=some (.bool (true == true)) from w_eq_bool (w_res rfl) w_lit) rfl
÷Y20{l:OpenLaw}{n:Nat}{q:ß}{loose:List Str}{XP:(Str->Option Ä)->ì->Prop}{YP:ç->ì->Prop}{d:DefRec}
  (hn:l.most=some n) (hdf:d.params.defaults=[])
  (call:∀ (w:ç) (s₀ s₁:Æ) (mg mb:Str->Option Ä) (fa:Ç) (o:Obj) (pm cd doc:Ä) (a:Ç) (vs:List Ä) (ns:List Int),
   Ground q loose [] XP w s₀ mg mb s₁.heap->YP w s₁.heap ->
   s₁.heap.get? fa=some o->o.data=.func (docDef d.name d.params d.body d.scope pm cd doc)->s₁.heap.CodeRec cd d.name->mg d.name=some (.ref fa) ->
   s₁.heap.get? a=some { cls:=.type "list",data:=.seq vs.toArray }->Ë7 vs ns->ns.length<=n->s₁.gens=#[] ->
   Î6 (Ô l.prog w) Ý4 (.call (.ref fa) ⟨[.ref a],[]⟩) (λr s'=>r=.ok (.ret (.bool true))/\OldK s₁.heap s'.heap/\s'.os=s₁.os/\Ó5 s'.gens) s₁) :
  WalkO q loose XP YP l.row.toRowW d [] (λf vs=>PySem.call f vs):=by
 intro w s₀ s₁ mg mb G Y fa o pm cd doc dV kV ho hd hcd hD hmg hg args vals as hpre hlay hrd hwl hlo
 obtain rfl:dV=.none:=Dflts.none hD hdf
 obtain rfl:kV=.none:=Dflts.noKw hD
 ¶⟨a,vs,ns,rfl,rfl,hobj,hints,hlen⟩:=s21 hn hpre hwl
 ¤enter_call (È3 (call w s₀ s₁ mg mb fa o pm cd doc a vs ns G Y ho (fd_plain hd) hcd hmg hobj hints hlen hg) λr s' hq=>?_)
 ¶⟨rfl,h2,h3,h4⟩:=hq
 §⟨.inl ⟨.bool true,.bool true,[],rfl,λ_=>rfl,.bool true,s31 l _,λ_=>⟨ß9.nil,λ_ hm=>(nomatch hm)⟩⟩,h2,h3,h4⟩
end Att
namespace L2
open PySem PySem.Spec PyProof.Rows
÷R00:∀ {vs:List Ä}{ns:List Int},Ë7 vs ns->Vals (ns.map V.int) vs
 |_,_,.nil=>.nil
 |_,_,.cons n t h=>.cons ⟨t,rfl⟩ (R00 h)
def J30(s:Å1):Arguments:=match s with
 |.FunctionDef _ a _ _ _ _ _ _ _ _=>a
 |_=>{ posonlyargs:=[],args:=[],vararg:=none,kwonlyargs:=[],kw_defaults:=[],kwarg:=none,defaults:=[] }
def i30(s:Å1):List Stmt:=match s with
 |.FunctionDef _ _ b _ _ _ _ _ _ _=>b
 |_=>[]
def b90(s:Å1):Scope:=match s with
 |.FunctionDef _ _ _ _ _ _ sc _ _ _=>sc
 |_=>{ kind:=.function,names:=[],isGenerator:=false,isCoroutine:=false }
abbrev CX0:CXT:=λ_ _ _ _ _ _=>False
structure Fun(K:PySem.W.Frag)(x qual:Str)(st:Stmt)(f:Addr)(fd:FuncData):Prop where
 ex:∃ (oc:Value) (od:Option Addr) (kV doc pm:Value) (an:Option Addr) (cdv ct:Value) (osl:Array (Option Value)),
  fd=fnOf x qual (J30 st) (i30 st) (b90 st) .none kV doc pm an cdv ct/\K.lookup f=some ⟨oc,od,.func fd,osl⟩/\PySem.W.codeIn K cdv qual=true
 kp:PySem.W.keepIn K (.ref f)=true
section
variable {P:ß}{w:ç}{K:Â}{mg:Str->Option Ä}{base:ì}
÷Fun.binds{x qual:Str}{st:Å1}{f:Ç}{fd:Å2}{ps:List Str}(F:Fun K x qual st f fd)
  (h:∀ (kV doc pm:Ä) (an:Option Ç) (cdv ct:Ä) (us:List Ä),us.length=ps.length->bindArgs (fnOf x qual (J30 st) (i30 st) (b90 st) .none kV doc pm an cdv ct) ⟨us,[]⟩=pure (ps.zip us)):Binds K fd ps []:=by
 ¶⟨oc,od,kV,doc,pm,an,cdv,ct,osl,rfl,lk,hcd⟩:=F.ex
 §.all (h kV doc pm an cdv ct)
end
section
variable {X:Cx}
÷pv(i:Nat){x:Str}{pos:Pos}(hN:X.N[i]?=some x:=by rfl)(hv:Vis X.env.scope x:=by first | §Ò4 rfl | §Ù9 (Ò4 rfl) | §Ù9 (Ù9 rfl))(hd:(x == ("__debug__":Str))=false:=by decide)
  (hcd:(x == ("__classdict__":Str))=false:=by decide):PE X (.Name x pos) (m22 i):=o50 hN hv hd hcd
end
÷S32{A B:Prop}(h:B):if false=true then A else B:=by
 rw[if_neg Ð]
 §h
÷S42{c A B:Prop}[Decidable c](h1:c->A)(h2:¬ c->B):if c then A else B:=by
 by_cases h:c
 ·rw[if_pos h]
  §h1 h
 ·rw[if_neg h]
  §h2 h
def a30(H H':Hp):Prop:=∀ b o,H b=some o->H' b=some o
÷a30.refl(H:Hp):a30 H H:=λ_ _ h=>h
÷a30.trans(a:a30 H H1)(b:a30 H1 H2):a30 H H2:=λc o h=>b c o (a c o h)
end L2
set_option maxHeartbeats 4000000
namespace L2
open PySem
abbrev NoX:Ä->Æ->Prop:=λ_ _=>False
÷J40(env:Env):∀ (names:List (Str × Ë6)) (acc:List (Str × Ç)),(∀ y∈names,y.2=.free->∃ c,env.cells.lookup y.1=some c)->(∀ x c,acc.lookup x=some c->env.cells.lookup x=some c) ->
  ∃ cl:List (Str × Ç),(forIn names acc λ(x:Str × Ë6) (r:List (Str × Ç))=>(if (x.2 == .free)=true then do let c ← cellOf env x.1;pure (á ((x.1,c)::r)) else pure (á r):Sem (ForInStep (List (Str × Ç)))))=pure cl /\
   (∀ x c,cl.lookup x=some c->env.cells.lookup x=some c)/\(∀ x c,acc.lookup x=some c->∃ c',cl.lookup x=some c')/\(∀ y∈names,y.2=.free->∃ c,cl.lookup y.1=some c)
 |[],acc,_,ha=>⟨acc,by simp,ha,λx c e=>⟨c,e⟩,λy hy=>absurd hy (by simp)⟩
 |(n,k)::r,acc,hf,ha=>by
  by_cases hk:k=.free
  ·subst hk
   ¶⟨c,hc⟩:=hf (n,.free) Ì rfl
   have hcell:cellOf env n=pure c:=by unfold cellOf;rw[hc]
   ¶⟨cl,e,h1,h2,h3⟩:=J40 env r ((n,c)::acc) (λy hy=>hf y (È _ hy)) (λx c' e=>by
    rw[À9] at e
    by_cases hx:(x == n)=true
    ·rw[hx] at e
     have:x=n:=by simpa using hx
     subst this
     cases e
     §hc
    ·rw[show(x == n)=false by simpa using hx] at e
     §ha x c' e)
   ¤⟨cl,?_,h1,λx c' e'=>?_,λy hy hyk=>?_⟩
   ·rw[Í2]
    simp only[beq_self_eq_true,if_true,hcell,pure_bind]
    §e
   ·by_cases hx:(x == n)=true
    ·§h2 x c (by rw[À9,hx])
    ·§h2 x c' (by rw[À9,show(x == n)=false by simpa using hx];§e')
   ·rcases ú.mp hy with rfl | hy
    ·§h2 n c (by simp[À9])
    ·§h3 y hy hyk
  ·¶⟨cl,e,h1,h2,h3⟩:=J40 env r acc (λy hy=>hf y (È _ hy)) ha
   ¤⟨cl,?_,h1,h2,λy hy hyk=>?_⟩
   ·rw[Í2]
    have hb:((k == ó)=true)=False:=by simpa using hk
    simp only[hb,if_false,pure_bind]
    §e
   ·rcases ú.mp hy with rfl | hy
    ·§absurd hyk hk
    ·§h3 y hy hyk
÷Y30(hf:∀ y∈scope.names,y.2=.free->∃ c,env.cells.lookup y.1=some c) :
  ∃ cl:List (Str × Ç),closureFor scope env=pure cl/\(∀ x c,cl.lookup x=some c->env.cells.lookup x=some c)/\(∀ y∈scope.names,y.2=.free->∃ c,cl.lookup y.1=some c):=by
 ¶⟨cl,e,h1,_,h3⟩:=J40 env scope.names [] hf (λx c e=>by simp at e)
 ¤⟨cl,?_,h1,h3⟩
 simp only[closureFor]
 §(congrArg (λt=>t >>= λr=>(pure r:Sem _)) e).trans (by simp)
section
variable {P:ß}{w:ç}{A:ø}{R:Result->Æ->Prop}{s:Æ}
÷s41{el tg src:Ò}{tests:List Ò}{sc:ý}{ps:Pos}{itv av:Ä}{en:Env}(J:Nat->Æ->Prop)
  (turn:∀ n s,J n s->Ï (Ô P w) A (Ñ2 itv) (λr s1=>match r with
   |none=>R (.ok .next) s1
   |some v=>Ï (Ô P w) A (à3 tg itv v) (λ_ s2=>Ï (Ô P w) A (Ù3 tg en v) (λ_ s3 =>
     Ï (Ô P w) A (forIn tests true λc r=>if r=true then do let ok ← isTrue c en (eval c en);pure (á ok) else pure (á r)) (λok s4 =>
      if ok=true then Ï (Ô P w) A (eval el en) (λx s5 =>
       Ï (Ô P w) A (call (.builtin "list.append") [av,x]) (λ_ s6=>∃ m,m < n/\J m s6) NoX s5) NoX s4
      else ∃ m,m < n/\J m s4) NoX s3) NoX s2) NoX s1) NoX s)
  (n:Nat) (h:J n s) :
  Î6 (Ô P w) A (.compLoop (.ListComp el [⟨tg,src,tests,0⟩] sc ps) 0 itv av en) R s:=by
 ¤codeAny_loop rfl J (λn s hI=>?_) n h
 show Ï _ A ((compTurn (.ListComp el [⟨tg,src,tests,0⟩] sc ps) 0 itv av en).onRaise (λx=>do noteFrame x en;theTreesLotGoes x)) _ _ s
 ¤wpAny_noted ?_
 rw[compTurn_list]
 ¤À (Û4 (À (Â1 (turn n s hI) (λr s1 h1=>?_) λ_ _ x=>x.elim)))
 cases r with
 |none=>§Å h1
 |some v =>
  ¤À (Â1 h1 (λ_ s2 h2=>?_) λ_ _ x=>x.elim)
  ¤À (Â1 h2 (λ_ s3 h3=>À (Â1 h3 (λok s4 h4=>?_) λ_ _ x=>x.elim)) λ_ _ x=>x.elim)
  cases ok with
  |false=>§Å ⟨rfl,h4⟩
  |true=>§À (À (Â1 h4 (λx s5 h5=>À (Â1 h5 (λ_ s6 h6=>Å (Å ⟨rfl,h6⟩)) λ_ _ x=>x.elim)) λ_ _ x=>x.elim))
end
open PySem PySem.Spec PyProof.Rows
abbrev c30(X:Cx)(N':List Str)(sc:ý)(cl:List (Str × Ç))(C:Ç)(s:Æ)(H:Hp)(fp:List Ç):Cx :=
 { X with N:=N',s₀:=s,H₀:=H,env:=compEnvC sc cl C X.env,outer:=X.stack,stack:=X.stack,ex:=fp,fn:=λ_=>false,pn:=[],xe:=NoX }
def d30(own:List Str)(capt:List (Str × Nat)):List Str:=own++capt.map (·.1)
def r20(own:List Str)(capt:List (Str × Nat))(σ:St):St:=own.map (λ_=>none)++capt.map λp=>(σ[p.2]?).getD none
structure r70(X:Cx)(sc:Scope)(own:List Str)(capt:List (Str × Nat)):Prop where
 kind:sc.kind=.function
 nocell:∀ y∈sc.names,y.2≠.cell
 locs:∀ y∈sc.names,y.2=.local->sc.names.lookup y.1=some .local
 frees:∀ y∈sc.names,y.2=.free->X.env.kindOf y.1=some .cell∨X.env.kindOf y.1=some .free
 captd:∀ p∈capt,X.N[p.2]?=some p.1/\sc.names.lookup p.1=some .free
÷J50{env:Env}:∀ {names:List (Str × Ë6)}{x:Str}{k:Ë6},
  (names.map λ(n,k)=>if (k == ó&&env.scope.kind == .function&&env.kindOf n == some .cell) then(n,Æ2) else(n,k)).lookup x=some k->(k=.cell∨k=.free)->(∀ y∈names,y.2≠.cell)->(x,ó)∈names
 |[],_,_,h,_,_=>by simp at h
 |(n,k0)::r,x,k,h,hk,hn=>by
  have h:Í3 x ((if (k0 == ó&&env.scope.kind == .function&&env.kindOf n == some .cell)=true then(n,Æ2) else(n,k0))::_)=some k:=h
  have hn0:k0≠.cell:=hn (n,k0) Ì
  cases hx:x == n with
  |true =>
   have e:x=n:=by simpa using hx
   subst e
   by_cases hc:(k0 == ó&&env.scope.kind == .function&&env.kindOf x == some .cell)=true
   ·have:k0=.free:=by
     cases k0 <;> simp_all
    subst this
    §Ì
   ·rw[if_neg hc] at h
    simp only[À9,hx] at h
    cases h
    rcases hk with hk | hk
    ·§absurd hk hn0
    ·subst hk;§Ì
  |false =>
   have h':(r.map λ(n,k)=>if (k == ó&&env.scope.kind == .function&&env.kindOf n == some .cell) then(n,Æ2) else(n,k)).lookup x=some k:=by
    by_cases hc:(k0 == ó&&env.scope.kind == .function&&env.kindOf n == some .cell)=true
    ·rw[if_pos hc] at h;simp only[À9,hx] at h;§h
    ·rw[if_neg hc] at h;simp only[À9,hx] at h;§h
   §È _ (J50 h' hk λy hy=>hn y (È _ hy))
÷q00{env:Env}:∀ {names:List (Str × Ë6)}{x:Str},names.lookup x=some .free ->
  (names.map λ(n,k)=>if (k == ó&&env.scope.kind == .function&&env.kindOf n == some .cell) then(n,Æ2) else(n,k)).lookup x=some .cell ∨
  (names.map λ(n,k)=>if (k == ó&&env.scope.kind == .function&&env.kindOf n == some .cell) then(n,Æ2) else(n,k)).lookup x=some .free
 |[],_,h=>by simp at h
 |(n,k)::r,x,h=>by
  have ih:=@q00 env r x
  show Í3 x ((if (k == ó&&env.scope.kind == .function&&env.kindOf n == some .cell)=true then(n,Æ2) else(n,k))::_)=_∨Í3 x ((if (k == ó&&env.scope.kind == .function&&env.kindOf n == some .cell)=true then(n,Æ2) else(n,k))::_)=_
  cases hx:x == n with
  |true =>
   simp only[À9,hx] at h
   cases h
   by_cases hc:(ó == ó&&env.scope.kind == .function&&env.kindOf n == some .cell)=true
   ·rw[if_pos hc];left;simp only[À9,hx]
   ·rw[if_neg hc];right;simp only[À9,hx]
  |false =>
   simp only[À9,hx] at h
   by_cases hc:(k == ó&&env.scope.kind == .function&&env.kindOf n == some .cell)=true
   ·rw[if_pos hc];simp only[À9,hx];§ih h
   ·rw[if_neg hc];simp only[À9,hx];§ih h
÷HOk.I71{P:ß}{w:ç}{H:Hp}{h:ì}{D:Ç}{ys:List V}{its:List Ä}{n:Nat}(x:HOk P w H h)(hn:H D=none)(hv:Vals ys its)(hz:ys.length<=Û)
  (ho:h.get? D=some { cls:=.type "list",data:=.seq its.toArray n }):HOk P w (upd H D (.lst ys)) h:=λb u e=>by
 by_cases hb:b=D
 ·subst hb;rw[b20] at e;cases e;§⟨hz,its,n,hv,ho⟩
 ·rw[a60 hb] at e
  §(x b u e).l21 (λc v _ q=>q) (λc q=>by rw[a60 (a80 q hn)];§q) λc xs q=>by rw[a60 (a80 q hn)];§q
def PTs(X:Cx)(tests:List Ò)(t:TT):Prop :=
 ∀ (pins:List (Ç × Obj)) (s:Æ) (σ:St) (H:Hp) (Q:Bool->Hp->Prop),Inv X pins σ H s->t σ H Q ->
  Ï (Ô X.prog X.w) X.A (forIn tests true λc r=>if r=true then do let ok ← isTrue c X.env (eval c X.env);pure (á ok) else pure (á r)) (TP X pins σ Q) X.xe s
def I81:TT:=λ_ H Q=>Q true H
÷Z31:PTs X [] I81:=λ_ _ _ H _ I h=>wpAny_tests_nil ⟨H,I,h⟩
÷s51(hc:PT X c t):PTs X [c] t:=λpins s σ H Q I h=>wpAny_tests_one (hc pins s σ H Q I h)
section
variable {X:Cx}{pins:List (Ç × Obj)}{σ:St}{H2:Hp}{s2:Æ}{sc:ý}{own:List Str}{capt:List (Str × Nat)}{cl:List (Str × Ç)}{fp:List Ç}{C:Ç}
÷R10(I:Inv X pins σ H2 s2)(S:r70 X sc own capt)(hcl:∀ x c,cl.lookup x=some c->X.env.cells.lookup x=some c)(hcf:∀ y∈sc.names,y.2=.free->∃ c,cl.lookup y.1=some c)
  (hx:∀ x c,X.env.cells.lookup x=some c->c ∉ fp) {h':ì} (un:∀ c o,s2.heap.get? c=some o->H2 c=none->c ∉ fp->∃ sl,h'.get? c=some { o with slots:=sl }) (m:Str->Option Ä) :
  ∀ (i:Nat) (x:Str) (v:V),(d30 own capt)[i]?=some x->(r20 own capt σ)[i]?=some (some v)->∃ u,RelV v u/\Look (compEnvC sc cl C X.env) h' m x u:=by
 intro i x v e1 e2
 unfold d30 at e1
 unfold r20 at e2
 by_cases hi:i < own.length
 ·rw[Ð2 (by simpa using hi),Ü] at e2
  cases q:own[i]? with
  |none=>rw[q] at e2;cases e2
  |some y=>rw[q] at e2;cases e2
 ·rw[Å4 (by simpa using hi),É,Ü] at e2
  rw[Å4 (by simpa using hi),Ü] at e1
  cases q:capt[i - own.length]? with
  |none=>rw[q] at e1;cases e1
  |some p =>
   rw[q] at e1 e2
   obtain rfl:p.1=x:=À7 e1
   have e3:(σ[p.2]?).getD none=some v:=À7 e2
   have e4:σ[p.2]?=some (some v):=by
    cases z:σ[p.2]? with
    |none=>rw[z] at e3;cases e3
    |some w=>rw[z] at e3;§congrArg some e3
   ¶⟨hN,hf⟩:=S.captd p (è q)
   have hmem:(p.1,ó)∈sc.names:=Â4 hf
   have hk:=S.frees _ hmem rfl
   ¶⟨m0,_,hl⟩:=I.loc
   have vis:Vis X.env.scope p.1:=.inr hk
   ¶⟨u,r,lk⟩:=hl p.2 p.1 v hN e4 vis
   ¤⟨u,r,.inr ⟨?_,?_⟩⟩
   ·§q00 hf
   ·rcases lk with ⟨hl0,_⟩ | ⟨_,c,hc,o,ho,hd⟩
    ·rcases hk with hk | hk <;> (rw[hk] at hl0;cases hl0)
    ·¶⟨c',hc'⟩:=hcf _ hmem rfl
     have:=hcl _ _ hc'
     rw[hc] at this
     cases this
     ¶⟨sl,q'⟩:=un c o ho (I.freeC _ _ hc) (hx _ _ hc)
     §⟨c,hc',_,q',hd⟩
end
def Z41(X:Cx)(pins:List (Ç × Obj))(σ:St)(R:V->Hp->Prop)(acc:Ä)(C:Ç)(s':Æ):Prop :=
 ∃ D H' m',acc=.ref D/\Inv X pins σ H' s'/\X80 X pins H' C/\s'.heap.Ns C m'/\R (.ref D) H'
def s61(J:It)(σ0:St)(H1:Hp)(g:TG)(tt:TT)(te:TE)(Q:VK):Prop:=∃ W:Nat->Nat->List V->Hp->Prop,(∃ m,W 0 m [] H1)/\∀ i m ys H,W i m ys H ->
 (J.stop i H/\∀ p,H p=none->Q (.ref p) (upd H p (.lst ys))) ∨
 (J.go i H/\ys.length < Û/\∃ N:List V->Hp->Prop,(∀ zs H',N zs H'->∃ m',m' < m/\W (i + 1) m' zs H')/\∀ x H',J.yld i H x H'->g x σ0 H' λσ2 H2=>tt σ2 H2 λb H3 =>
  if b=true then te σ2 H3 (λy H4=>N (ys++[y]) H4) else N ys H3)
def Z51(own:List Str)(capt:List (Str × Nat))(wi:TI)(g:TG)(tt:TT)(te:TE):TE:=λσ H Q=>wi σ H λJ H1=>s61 J (r20 own capt σ) H1 g tt te Q
section
variable {X:Cx}{pins:List (Ç × Obj)}{σ:St}{H2:Hp}{s2:Æ}{sc:ý}{own:List Str}{capt:List (Str × Nat)}{cl:List (Str × Ç)}{el tg src:Ò}{tests:List Ò}{ps:Pos}{g:TG}{tt:TT}{te:TE}
÷w70(hc:X.calm=true)(S:r70 X sc own capt)(hcl:∀ x c,cl.lookup x=some c->X.env.cells.lookup x=some c)(hcf:∀ y∈sc.names,y.2=.free->∃ c,cl.lookup y.1=some c)
  (hg:∀ C s H fp,PG (c30 X (d30 own capt) sc cl C s H fp) tg g) (ht:∀ C s H fp,PTs (c30 X (d30 own capt) sc cl C s H fp) tests tt) (he:∀ C fp,(∀ b∈fp,X80 X pins H2 b)->PE (c30 X (d30 own capt) sc cl C s2 H2 fp) el te)
  {it:Ç}{fp:List Ç}{tn:Nat->ì->Prop}{J:It} (I2:Inv X pins σ H2 s2) (T:Turn X.prog X.w X.K tg J fp it tn) (st2:tn 0 s2.heap) (f2:∀ b∈fp,X80 X pins H2 b)
  {R:VK} (h:s61 J (r20 own capt σ) H2 g tt te R) {RR:Ä->Ç->Result->Æ->Prop} (hRR:∀ acc C s',Z41 X pins σ R acc C s'->RR acc C (.ok .next) s') {E:Ä->Æ->Prop} :
  Ï (Ô X.prog X.w) X.A (newList []) (λacc s3=>Ï (Ô X.prog X.w) X.A (newFunctionEnv sc X.env.globals cl [] X.env.qual none .none (some X.env)) (λce s4 =>
   Î6 (Ô X.prog X.w) X.A (.compStart (.ListComp el [⟨tg,src,tests,0⟩] sc ps) 0 (.ref it) acc { ce with scope:=relabel sc X.env }) (RR acc ce.locals) s4) E s3) E s2:=by
 ¶⟨W,⟨m0,w0⟩,turn⟩:=h
 ¤å (wpAny_newFunctionEnv S.nocell (by intro y hy;simp at hy) (λh1 hns1 hsb1=>?_) S.kind)
 dsimp only at hns1 hsb1 ⊢
 generalize hH3:s2.heap.push { cls:=.type "list",dict:=none,data:=.seq ([]:List Ä).toArray }=h3 at hns1 hsb1 ⊢
 have hC:h3.objs.size=s2.heap.objs.size + 1:=by rw[← hH3,Ë5]
 have below:∀ b,b < s2.heap.objs.size->b≠h3.objs.size/\b≠s2.heap.objs.size:=λb hb=>⟨by omega,by omega⟩
 have hDC:s2.heap.objs.size≠h3.objs.size:=by omega
 have old:∀ b o,s2.heap.get? b=some o->h1.get? b=some o:=λb o e=>hsb1.extBut b o (below b (à e)).1 (Ã _ (hH3 ▸ Ã _ e))
 have hacc:h1.get? s2.heap.objs.size=some { cls:=.type "list",data:=.seq ([]:List Ä).toArray 0 }:=hsb1.extBut _ _ hDC (Ã _ (hH3 ▸ Ë _ rfl))
 have fpLt:∀ b∈fp,b < s2.heap.objs.size:=λb hb=>by
  ¶⟨o,e,_⟩:=T.obj _ _ st2 b hb
  §à e
 have celLt:∀ x c,X.env.cells.lookup x=some c->c < s2.heap.objs.size:=λx c e=>by
  ¶⟨v,o,q,_⟩:=I2.cell x c e
  §à q
 have frLt:∀ b∈frs X.stack,b < s2.heap.objs.size:=λb hb=>by
  ¶⟨_,o,q,_⟩:=I2.stack.mem hb
  §à q
 have celFp:∀ x c,X.env.cells.lookup x=some c->c ∉ fp:=λx c e hb=>(f2 c hb).2.2.2.2.1 x c e rfl
 have fpFr:∀ b∈fp,b ∉ frs X.stack:=λb hb hf=>by
  rcases ú.mp (I2.q51 b hf) with z | z
  ·§(f2 b hb).2.1 z
  ·§(f2 b hb).2.2.1 z
 have okX:(c30 X (d30 own capt) sc cl h3.objs.size s2 H2 fp).Ok:=by
  ¤⟨I2.ok.mod,S.kind,I2.ok.glob,I2.ok.blt,(by show s2.heap.objs.size<=h3.objs.size;omega),λx y c e1 e2=>I2.ok.inj x y c (hcl x c e1) (hcl y c e2),λx hx=>?_,λx c hx=>(by cases hx),I2.ok.hd,I2.ok.frames,.inl rfl,
   λb hb=>⟨(below b (fpLt b hb)).1,λx c e z=>celFp x c (hcl x c e) (z ▸ hb)⟩,I2.bs,Ñ I2.ok.bsz I2.sz,λb o e hb=>?_,fpFr,I2.stack,I2.w40⟩
  ·have hx':(x,ó)∈sc.names:=by
    rcases hx with hx | hx
    ·§J50 hx (.inl rfl) S.nocell
    ·§J50 hx (.inr rfl) S.nocell
   §hcf _ hx' rfl
  ·rcases (f2 b hb).2.2.2.1 with z | z
   ·§I2.ok.noex b o e z
   ·have l1:b < X.base.objs.size:=à e
    have l2:X.base.objs.size<=X.s₀.heap.objs.size:=I2.ok.bsz
    have l3:X.s₀.heap.objs.size<=b:=z
    §absurd l1 (Nat.not_lt.mpr (Ñ l2 l3))
 have reset:∀ {pl:List (Ç × Obj)}{σ':St}{H':Hp}{s':Æ},Inv (c30 X (d30 own capt) sc cl h3.objs.size s2 H2 fp) pl σ' H' s'->Inv (c30 X (d30 own capt) sc cl h3.objs.size s2 H2 fp) pl (r20 own capt σ) H' s':=λ{pl σ' H' s'} I'=>by
  ¶⟨m,hn,_⟩:=I'.loc
  ¤⟨I'.ok,I'.os,I'.bare,I'.base,⟨m,hn,λi x v e1 e2 _=>R10 I2 S hcl hcf celFp (λc o q n hx=>I'.base.any q n hx) m i x v e1 e2⟩,I'.cell,I'.free,I'.freeC,I'.pin,I'.hok,?_⟩
  show(r20 own capt σ).length=(d30 own capt).length
  simp[r20,d30]
 have start:Inv (c30 X (d30 own capt) sc cl h3.objs.size s2 H2 fp) [(s2.heap.objs.size,{ cls:=.type "list",data:=.seq ([]:List Ä).toArray 0 })] (r20 own capt σ) H2 { s2 with heap:=h1,toks:=s2.toks + ([]:List (Str × Ä)).length }:=by
  ¤⟨okX,rfl,I2.bare,Un.kept old,⟨_,hns1,λi x v e1 e2 _=>R10 I2 S hcl hcf celFp (λc o q _ _=>⟨o.slots,old c o q⟩) _ i x v e1 e2⟩,λx c e=>?_,?_,λx c e=>I2.freeC x c (hcl x c e),λp hp=>?_,I2.hok.kept old,?_⟩
  ·¶⟨v,q⟩:=I2.cell x c (hcl x c e)
   §⟨v,q.keeps old⟩
  ·§I2.hok.fresh (by show s2.heap.objs.size<=h3.objs.size;omega)
  ·have hp':p=(s2.heap.objs.size,{ cls:=.type "list",data:=.seq ([]:List Ä).toArray 0 }):=by simpa using hp
   subst hp'
   §⟨hacc,I2.hok.fresh (Í _),hDC,λz=>Á8 _ (frLt _ z),λv z=>by cases z⟩
  ·show(r20 own capt σ).length=(d30 own capt).length
   simp[r20,d30]
 have p91:∀ {pl:List (Ç × Obj)}{H':Hp},(∀ p∈pl,p.1 ∉ fp)->(∀ b∈fp,H' b=none)->∀ b∈fp,X80 (c30 X (d30 own capt) sc cl h3.objs.size s2 H2 fp) pl H' b:=λ{pl H'} hp hn b hb =>
  ⟨hn b hb,(below b (fpLt b hb)).1,fpFr b hb,.inl hb,λx c e z=>celFp x c (hcl x c e) (z ▸ hb),λp hpp z=>hp p (by simpa using hpp) (z ▸ hb)⟩
 have hDfp:s2.heap.objs.size ∉ fp:=λz=>Á8 _ (fpLt _ z)
 have loop:∀ s3:Æ,s3={ s2 with heap:=h1,toks:=s2.toks + ([]:List (Str × Ä)).length } ->
   Î6 (Ô X.prog X.w) X.A (.compLoop (.ListComp el [⟨tg,src,tests,0⟩] sc ps) 0 (.ref it) (.ref s2.heap.objs.size) (compEnvC sc cl h3.objs.size X.env)) (RR (.ref s2.heap.objs.size) h3.objs.size) s3:=by
  rintro s3 rfl
  ¤s41 (λn s'=>∃ i ys H' its k,Inv (c30 X (d30 own capt) sc cl h3.objs.size s2 H2 fp) [(s2.heap.objs.size,{ cls:=.type "list",data:=.seq (toArray its) k })] (r20 own capt σ) H' s'/\tn i s'.heap/\(∀ b∈fp,H' b=none)/\Vals ys its/\ys.length<=Û/\W i n ys H') ?_ m0
   ⟨0,[],H2,[],0,start,T.keep _ _ _ st2 λb _ o e=>old b o e,λb hb=>(f2 b hb).1,.nil,Æ6 _,w0⟩
  rintro n s' ⟨i,ys,H',its,k,I',st',fr',hv,hz,w'⟩
  have pinD:∀ p∈[((s2.heap.objs.size:Ç),({ cls:=.type "list",data:=.seq (toArray its) k }:Obj))],p.1 ∉ fp:=λp hp=>by
   have hp':p=(s2.heap.objs.size,{ cls:=.type "list",data:=.seq (toArray its) k }):=by simpa using hp
   subst hp'
   §hDfp
  rcases turn i n ys H' w' with ⟨stop,q⟩ | ⟨go,hlt,N,hN,step⟩
  ·¤thn (T.done (c30 X (d30 own capt) sc cl h3.objs.size s2 H2 fp) rfl rfl rfl hc i _ s' _ H' NoX I' (p91 pinD fr') st' stop) λr s1 hr=>?_
   ¶⟨hr,I1⟩:=hr
   subst hr
   ¶⟨gD,nD,_,_,_⟩:=I1.pin _ (ð _ Ì)
   ¶⟨m',hn',_⟩:=id I1.loc
   have un:Un (frs X.stack) fp H2 (upd H' s2.heap.objs.size (.lst ys)) s2.heap s1.heap:=by
    have u:=I1.base
    have nD2:H2 s2.heap.objs.size=none:=I2.hok.fresh (Í _)
    ¤⟨u.keep,u.slot,λb o e n hx=>?_,u.there,λb xs e=>?_,λb o xs e=>?_,λb ps' e=>?_⟩
    ·rw[a60 (below b (à e)).2];§u.free b o e n hx
    ·rw[a60 (a80 e nD2)];§u.tups b xs e
    ·rw[a60 (a80 e nD2)];§u.frzs b o xs e
    ·¶⟨more,e'⟩:=u.tbls b ps' e
     §⟨more,by rw[a60 (a80 e nD2)];§e'⟩
   have IX:Inv X pins σ (upd H' s2.heap.objs.size (.lst ys)) s1:=I2.m12 I1.os un (I1.hok.I71 nD hv hz gD) I1.bare λb hb=>⟨(f2 b hb).2.2.2.1,(f2 b hb).2.1,(f2 b hb).2.2.2.2.1,(f2 b hb).2.2.2.2.2⟩
   ¤hRR _ _ _ ⟨_,_,m',rfl,IX,?_,hn',q _ nD⟩
   §I2.p91 (by omega) (by rw[a60 hDC.symm];§I1.free)
  ·¤thn (T.item (c30 X (d30 own capt) sc cl h3.objs.size s2 H2 fp) rfl rfl rfl hc i _ s' _ H' NoX I' (p91 pinD fr') st' go) λr s1 hr=>?_
   ¶⟨u,hr,h4⟩:=hr
   subst hr
   ¤thn h4 λ_ s5 hr5=>?_
   ¶⟨x,H5,I5,r5,y5,st5,fr5⟩:=hr5
   have I5p:=I5.pinned (p91 pinD fr5) (T.obj _ _ st5)
   ¤thn (hg _ _ _ _ _ s5 _ H5 x u _ I5p r5 (step x H5 y5)) λ_ s6 hr6=>?_
   ¶⟨σ6,H6,I6,q6⟩:=hr6
   ¤thn (ht _ _ _ _ _ s6 σ6 H6 _ I6 q6) λok s7 hr7=>?_
   ¶⟨H7,I7,q7⟩:=hr7
   have memFp:∀ {pl:List (Ç × Obj)}{b:Ç}{o:Obj},b∈fp->s5.heap.get? b=some o->(b,o)∈([]:List (Ç × Obj))++(pl++B90 fp s5.heap):=λhb e=>ð _ (ð _ (k80 hb e))
   cases ok with
   |false =>
    rw[if_neg Ð] at q7 ⊢
    ¶⟨m',hm,w7⟩:=hN _ _ q7
    ¤⟨m',hm,i + 1,ys,H7,its,k,reset (I7.B70 λp hp=>I7.pin p (ð _ (Æ5 _ hp))),T.keep _ _ _ st5 λb hb o e=>(I7.pin (b,o) (memFp hb e)).1,λb hb=>?_,hv,hz,w7⟩
    ¶⟨o,e,_⟩:=T.obj _ _ st5 b hb
    §(I7.pin (b,o) (memFp hb e)).2.1
   |true =>
    rw[if_pos rfl] at q7 ⊢
    ¤thn (he _ _ f2 _ s7 σ6 H7 _ I7 q7) λuv s8 hr8=>?_
    ¶⟨y,H8,I8,r8,q8⟩:=hr8
    ¶⟨m',hm,w8⟩:=hN _ _ q8
    ¶⟨gD,nD,dC,dF,_⟩:=I8.pin _ (ð _ (Æ5 _ Ì))
    ¤append_at gD (λh9 sb hD9=>?_) (by show(toArray its).size<=Û;rw[Ó,← hv.length];§hz)
    have I8a:Inv (c30 X (d30 own capt) sc cl h3.objs.size s2 H2 fp) (B90 fp s5.heap) σ6 H8 s8:=I8.B70 λp hp=>I8.pin p (ð _ (ð _ hp))
    have I9:Inv (c30 X (d30 own capt) sc cl h3.objs.size s2 H2 fp) (B90 fp s5.heap) σ6 H8 { s8 with heap:=h9 }:=I8a.turned (t':=s8.toks) (λb o hb e=>(sb.2 b hb).trans e) nD dC (.inr (Í _))
     (λx c e z=>Á8 s2.heap.objs.size (by have:=celLt x c (hcl x c e);rw[z] at this;§this)) (λp hp z=>hDfp (z ▸ (P60 (by simpa using hp)).1))
    rw[List.push_toArray] at hD9
    ¤⟨m',hm,i + 1,ys++[y],H8,its++[uv],k + 1,(reset I9).B70 λp hp=>?_,T.keep _ _ _ st5 λb hb o e=>?_,λb hb=>?_,hv.append (.cons r8 .nil),by rw[Â0];§hlt,w8⟩
    ·have hp':p=(s2.heap.objs.size,{ cls:=.type "list",data:=.seq (toArray (its++[uv])) (k + 1) }):=by simpa using hp
     subst hp'
     §⟨hD9,nD,dC,dF,λv z=>by cases z⟩
    ·§(I9.pin (b,o) (ð _ (k80 hb e))).1
    ·¶⟨o,e,_⟩:=T.obj _ _ st5 b hb
     §(I9.pin (b,o) (ð _ (k80 hb e))).2.1
 §codeAny_compStart_list (loop _ rfl) (T.self _ 0 _ _ _ (T.keep _ _ _ st2 λb _ o e=>old b o e) (loop _ rfl))
end
section
variable {X:Cx}{sc:ý}{own:List Str}{capt:List (Str × Nat)}{el tg src:Ò}{tests:List Ò}{ps pos:Pos}{wi:TI}{g:TG}{tt:TT}{te:TE}
÷s71(hc:X.calm=true)(S:r70 X sc own capt)(hi:PI X tg src wi)(hg:∀ cl C s H fp,PG (c30 X (d30 own capt) sc cl C s H fp) tg g)
  (ht:∀ cl C s H fp,PTs (c30 X (d30 own capt) sc cl C s H fp) tests tt) (he:∀ cl C s H fp,PE (c30 X (d30 own capt) sc cl C s H fp) el te)
  (hs:∀ x,É3 src X.env x=pure x:=by intro _;rfl):PE X (.ListComp el [⟨tg,src,tests,0⟩] sc ps) (Z51 own capt wi g tt te):=by
 intro pins s σ H Q I h
 ¶⟨cl,hclos,hcl,hcf⟩:=Y30 (scope:=sc) (env:=X.env) λy hy hk=>I.ok.has y.1 (S.frees y hy hk)
 rw[eval_ListComp]
 ¤Ó6 (use:=none) rfl hs hclos S.kind S.locs (thn (hi pins s σ H _ I h) λv s1 h1=>thn h1 λitv s2 h2=>?_)
 ¶⟨it,fp,tn,J,H2,e,I2,T,st2,f2,hw⟩:=h2
 subst e
 ¤w70 hc S hcl hcf (hg cl) (ht cl) (λC fp _=>he cl C _ _ fp) I2 T st2 f2 hw (RR:=λacc C=>compPost (Ô X.prog X.w) X.A X.xe none (EP X pins σ Q) acc C) λacc C s' hf=>?_
 ¶⟨D,H',m',rfl,I',f',ns',r⟩:=hf
 §⟨m',ns',λh' sb=>⟨.ref D,H',I'.turned (t':=s'.toks) (λb o hb e=>(sb.2 b hb).trans e) f'.1 f'.2.1 f'.2.2.2.1 f'.2.2.2.2.1 f'.2.2.2.2.2,rfl,r⟩⟩
÷B52{te:St->Hp->TE}{Cond:St->Hp->Prop}(hc:X.calm=true)(S:r70 X sc own capt)(hi:PI X tg src wi)(hg:∀ cl C s H fp,PG (c30 X (d30 own capt) sc cl C s H fp) tg g)
  (ht:∀ cl C s H fp,PTs (c30 X (d30 own capt) sc cl C s H fp) tests tt) (he:∀ cl pins σ H s,Inv X pins σ H s->(∀ x c,cl.lookup x=some c->X.env.cells.lookup x=some c)->Cond σ H->∀ C fp,(∀ b∈fp,X80 X pins H b)->PE (c30 X (d30 own capt) sc cl C s H fp) el (te σ H))
  (hs:∀ x,É3 src X.env x=pure x:=by intro _;rfl):PE X (.ListComp el [⟨tg,src,tests,0⟩] sc ps) (λσ H Q=>wi σ H λJ H1=>Cond σ H1/\s61 J (r20 own capt σ) H1 g tt (te σ H1) Q):=by
 intro pins s σ H Q I h
 ¶⟨cl,hclos,hcl,hcf⟩:=Y30 (scope:=sc) (env:=X.env) λy hy hk=>I.ok.has y.1 (S.frees y hy hk)
 rw[eval_ListComp]
 ¤Ó6 (use:=none) rfl hs hclos S.kind S.locs (thn (hi pins s σ H _ I h) λv s1 h1=>thn h1 λitv s2 h2=>?_)
 ¶⟨it,fp,tn,J,H2,e,I2,T,st2,f2,cd,hw⟩:=h2
 subst e
 ¤w70 hc S hcl hcf (hg cl) (ht cl) (λC fp hf=>he cl _ _ _ _ I2 hcl cd C fp hf) I2 T st2 f2 hw (RR:=λacc C=>compPost (Ô X.prog X.w) X.A X.xe none (EP X pins σ Q) acc C) λacc C s' hf=>?_
 ¶⟨D,H',m',rfl,I',f',ns',r⟩:=hf
 §⟨m',ns',λh' sb=>⟨.ref D,H',I'.turned (t':=s'.toks) (λb o hb e=>(sb.2 b hb).trans e) f'.1 f'.2.1 f'.2.2.2.1 f'.2.2.2.2.1 f'.2.2.2.2.2,rfl,r⟩⟩
÷Z61{i:Nat}{y:Str}{py:Pos}(hN:X.N.Nodup)(hiN:X.N[i]?=some y)(hy:Loc X.env.scope y)(hsw:Ô9 (.ListComp el [⟨tg,src,tests,0⟩] sc ps) (some (.Name y py)) pos.line X.env=pure true)
  (hc:X.calm=true) (S:r70 X sc own capt) (hi:PI X tg src wi) (hg:∀ cl C s H fp,PG (c30 X (d30 own capt) sc cl C s H fp) tg g)
  (ht:∀ cl C s H fp,PTs (c30 X (d30 own capt) sc cl C s H fp) tests tt) (he:∀ cl C s H fp,PE (c30 X (d30 own capt) sc cl C s H fp) el te)
  (hs:∀ x,É3 src X.env x=pure x:=by intro _;rfl) (hf:X.fn y=true∨X.env.scope.names.lookup y=some .local:=by first | §.inl rfl | §.inr rfl | assumption) :
  PS X (.Assign [.Name y py] (.ListComp el [⟨tg,src,tests,0⟩] sc ps) pos) (n32 (Z51 own capt wi g tt te) (X70 i)):=by
 intro pins s σ H D I h
 ¶⟨cl,hclos,hcl,hcf⟩:=Y30 (scope:=sc) (env:=X.env) λy hy hk=>I.ok.has y.1 (S.frees y hy hk)
 rw[exec_Assign_Name_used _ _ _ _ hsw]
 ¤À (Û4 (À ?_))
 show Ï _ X.A (do let _ ← comprehension (.ListComp el [⟨tg,src,tests,0⟩] sc ps) sc X.env _ (newList []) false (eval src X.env) (some (Ù3 (.Name y py) X.env))) _ _ s
 ¤À (Â1 (Ó6 (use:=some (Ù3 (.Name y py) X.env)) (Q:=λ_ s'=>SP X pins D .next s') rfl hs hclos S.kind S.locs
  (thn (hi pins s σ H _ I h) λv s1 h1=>thn h1 λitv s2 h2=>?_)) (λ_ s' hq=>Å (Å hq)) λ_ _ e=>e)
 ¶⟨it,fp,tn,J,H2,e,I2,T,st2,f2,hw⟩:=h2
 subst e
 ¤w70 hc S hcl hcf (hg cl) (ht cl) (λC fp _=>he cl C _ _ fp) I2 T st2 f2 hw (RR:=λacc C=>compPost (Ô X.prog X.w) X.A X.xe (some (Ù3 (.Name y py) X.env)) (λ_ s'=>SP X pins D .next s') acc C) λacc C s' hfn=>?_
 ¶⟨DA,H',m',rfl,I',f',ns',r⟩:=hfn
 show Ï _ X.A (Ù3 (.Name y py) X.env (.ref DA)) _ _ _
 ¤wpAny_assign_Name (B80 (v:=.ref DA) I' hN hiN hy rfl (λs3 I3 ha=>?_) hf)
 ¶⟨a,sb,ha⟩:=ha
 have hCa:C≠a:=λz=>by
  rcases ha with q | q
  ·§f'.2.1 (z.trans q)
  ·§f'.2.2.2.2.1 _ _ q z.symm
 §⟨m',ns'.sameBut sb hCa,λh' sb'=>⟨_,H',I3.turned (t':=s3.toks) (λb o hb e=>(sb'.2 b hb).trans e) f'.1 f'.2.1 f'.2.2.2.1 f'.2.2.2.2.1 f'.2.2.2.2.2,r⟩⟩
end
end L2
namespace L2
open PySem
section
variable {P:ß}{w:ç}{A:ø}{E:Ä->Æ->Prop}{s:Æ}
÷q10{r t:Ç}{k:Nat}{vs:Array Ä}{x:Ä}{Q:Ä->Æ->Prop}(hr:s.heap.IsTupleIter r t k)(ht:s.heap.IsTuple t vs)(hx:vs[k]?=some x)
  (hQ:∀ h',h'.IsTupleIter r t (k + 1)->Ë9 r s.heap h'->Q x { s with heap:=h' }):Ï (Ô P w) A (nextOf (.ref r)) Q E s:=by
 ¶⟨o,ho,hc,hd⟩:=id hr;¶⟨ot,hot,_,nt,hdt⟩:=ht;unfold nextOf
 ¤À (À6 (name:=Á0 "__next__") hr.typeIs É7 (À5 É7 hr.typeIs à0 ?_ (ß7 _)))
 show Ï _ _ (field (.ref r) 0 >>= _) _ _ s
 ¤À (Á6 ho hd (x:=.ref t) rfl ?_);show Ï _ _ (if (Ã3 t == â)=true then _ else _) _ _ s
 rw[if_neg (show ¬ ((Ã3 t == â)=true) from Ð)];show Ï _ _ (field (.ref r) 1 >>= _) _ _ s
 ¤À (Á6 ho hd (x:=.int k 0) rfl ?_);show Ï _ _ (seqItems? (.ref t) >>= _) _ _ s
 ¤À (Ç4 hot hdt ?_);simp only[Á9,hx]
 ¤À (wpAny_setField ho hd (by simp) (Å ⟨x,rfl,Å (hQ _ ⟨_,Ç8 _ ho (Obj.isFreed_of_fields (Obj.data_mapFields hd _)),(Obj.cls_mapFields ..).trans hc,by rw[Obj.data_mapFields hd];simp[Ã7]⟩ (Æ0 ..))⟩))
÷l50{r t:Ç}{k:Nat}{vs:Array Ä}{Q:Ä->Æ->Prop}(hh:A.handled=none)(hr:s.heap.IsTupleIter r t k)(ht:s.heap.IsTuple t vs)(hx:vs[k]?=none)
  (hE:∀ h' e,ì.ExtBut r s.heap h'->(∃ o,h'.get? e=some o/\o.cls=.type "StopIteration")->E (.ref e) { s with heap:=h' }):Ï (Ô P w) A (nextOf (.ref r)) Q E s:=by
 ¶⟨o,ho,hc,hd⟩:=id hr;¶⟨ot,hot,_,nt,hdt⟩:=ht;unfold nextOf
 ¤À (À6 (name:=Á0 "__next__") hr.typeIs É7 (À5 É7 hr.typeIs à0 ?_ (ß7 _)))
 show Ï _ _ (field (.ref r) 0 >>= _) _ _ s
 ¤À (Á6 ho hd (x:=.ref t) rfl ?_);show Ï _ _ (if (Ã3 t == â)=true then _ else _) _ _ s
 rw[if_neg (show ¬ ((Ã3 t == â)=true) from Ð)];show Ï _ _ (field (.ref r) 1 >>= _) _ _ s
 ¤À (Á6 ho hd (x:=.int k 0) rfl ?_);show Ï _ _ (seqItems? (.ref t) >>= _) _ _ s
 ¤À (Ç4 hot hdt ?_);simp only[Á9,hx]
 ¤À (Ê1 (À (wpAny_setField ho hd (by simp) ?_)));show Ï _ _ (newExc (.type "StopIteration") [] >>= _) _ _ _
 ¤À ?_;simp only[newExc,newTuple]
 ¤À (å ?_ (by size_fits));¤À (m:=Ù1 _ _) (ß8 (a:=â) (by first | rfl | (simp only[Ù1];rfl)) ?_)
 ¤å ?_ (by size_fits);simp only[raiseNew];¤À (wpAny_handled ?_)
 first | rw[show A.in1.handled=none from hh] | rw[hh]
 ¤À (Å (wpAny_throw (hE _ _ (((Æ0 ..).extBut.push _).push _) ⟨_,Ë _ rfl,rfl⟩)))
÷s81{z TI TO i1 i2 l1 l2:Ç}{k:Nat}{xs ys:Array Ä}{x y a b:Ä}{Q:Option Ä->Æ->Prop}(D:ZipApart z TI TO i1 i2 l1 l2)(hz:Ò1 s.heap z TI TO .none)
  (hTI:Æ4 s.heap TI (.ref i1) (.ref i2)) (hTO:Æ4 s.heap TO a b) (h1:s.heap.IsTupleIter i1 l1 k) (h2:s.heap.IsTupleIter i2 l2 k) (hl1:s.heap.IsTuple l1 xs) (hl2:s.heap.IsTuple l2 ys)
  (hx:xs[k]?=some x) (hy:ys[k]?=some y)
  (hQ:∀ h',Ò1 h' z TI TO (Ã7 s.heap.objs.size)->Æ4 h' TO x y->h'.IsTupleIter i1 l1 (k + 1)->h'.IsTupleIter i2 l2 (k + 1)->Æ4 h' s.heap.objs.size x y->h'.objs.size=s.heap.objs.size + 1 ->
   (∀ c o,c≠z->c≠TO->c≠i1->c≠i2->s.heap.get? c=some o->h'.get? c=some o)->Q (some (.ref s.heap.objs.size)) { s with heap:=h' }):Ï (Ô P w) A (Ñ2 (.ref z)) Q E s:=by
 have hT:s.TypeIs (.ref z) "zip":=⟨_,hz,rfl⟩
 unfold Ñ2;¤À (Ë4 (À6 (name:=Á0 "__next__") hT Õ5 (À5 Õ5 hT F.entry_zip_next ?_ (F.args_zip_next_1 _))))
 show Ï _ _ (field (.ref z) 2 >>= _) _ _ _;¤À (Á6 hz rfl (x:=.bool false) rfl ?_)
 show Ï _ _ (field (.ref z) 3 >>= _) _ _ _;¤À (Á6 hz rfl (x:=.ref TI) rfl ?_)
 ¤À (Ç4 hTI rfl ?_);show Ï _ _ (Í0 (.ref z) >>= _) _ _ _
 ¤À ?_;unfold Í0;¤À (Á6 hz rfl (x:=.none) rfl (Å ?_));simp only[if_true]
 ¤À (Ê1 (À (Á6 hz rfl (x:=.ref TO) rfl (À (Ã0 hz (by simp) λg1 z1 e1=>?_)))))
 replace z1:Ò1 g1 z TI TO .ellipsis:=z1
 ¤À ?_;simp only[List.zipIdx_cons,List.zipIdx_nil,Í2,Ö6]
 ¤À (À (Û5 ?_));show Ï _ _ (nextOf (.ref i1) >>= _) _ _ _
 ¤À (q10 (h1.extBut e1.extBut D.i1z) (hl1.extBut e1.extBut D.l1z) hx λg2 r2 e2=>Å ?_)
 have t2:Æ4 g2 TO a b:=e2.extBut _ _ D.TOi1 (e1.extBut _ _ D.TOz hTO)
 ¤À (Ç4 t2 rfl (À (Ø6 t2 λg3 t3 e3=>?_)))
 replace t3:Æ4 g3 TO x b:=t3
 ¤À (wpAny_letGo (Å ?_));¤À (À (Û5 ?_));show Ï _ _ (nextOf (.ref i2) >>= _) _ _ _
 ¤À (q10 (((h2.extBut e1.extBut D.i2z).extBut e2.extBut D.i12.symm).extBut e3.extBut D.TOi2.symm) (((hl2.extBut e1.extBut D.l2z).extBut e2.extBut D.l2i1).extBut e3.extBut D.l2TO) hy λg4 r4 e4=>Å ?_)
 have t4:Æ4 g4 TO x b:=e4.extBut _ _ D.TOi2 t3
 ¤À (Ç4 t4 rfl (À (Ø6 t4 λg5 t5 e5=>?_)))
 replace t5:Æ4 g5 TO x y:=t5
 ¤À (wpAny_letGo (Å (Å ?_)));¤À (Ç4 t5 rfl (À (wpAny_newTuple ?_)))
 have sz:g5.objs.size=s.heap.objs.size:=by rw[e5.1,e4.1,e3.1,e2.1,e1.1]
 have z5:Ò1 g5 z TI TO .ellipsis:=e5.extBut _ _ D.TOz.symm (e4.extBut _ _ D.i2z.symm (e3.extBut _ _ D.TOz.symm (e2.extBut _ _ D.i1z.symm z1)))
 have kp:∀ c o,c≠z->c≠TO->c≠i1->c≠i2->s.heap.get? c=some o->g5.get? c=some o:=λc o c1 c2 c3 c4 e=>e5.extBut _ _ c2 (e4.extBut _ _ c4 (e3.extBut _ _ c2 (e2.extBut _ _ c3 (e1.extBut _ _ c1 e))))
 have r1:g5.IsTupleIter i1 l1 (k + 1):=((r2.extBut e3.extBut D.TOi1.symm).extBut e4.extBut D.i12).extBut e5.extBut D.TOi1.symm
 have r5:g5.IsTupleIter i2 l2 (k + 1):=r4.extBut e5.extBut D.TOi2.symm
 have zl:z < g5.objs.size:=à z5
 show Ï _ _ (ownedTupleHandOut (.ref z) (.ref g5.objs.size) >>= _) _ _ _
 ¤À ?_;unfold ownedTupleHandOut
 have z6:Ò1 (g5.push { cls:=.type "tuple",data:=.seq #[x,y] }) z TI TO .ellipsis:=Ã _ z5
 ¤À (Ã0 z6 (by simp) λg7 z7 e7=>?_)
 replace z7:Ò1 g7 z TI TO (Ã7 g5.objs.size):=z7
 ¤Ã0 z7 (by simp) λg8 z8 e8=>?_
 replace z8:Ò1 g8 z TI TO (Ã7 g5.objs.size):=z8
 have up:∀ c o,c≠z->g5.get? c=some o->g8.get? c=some o:=λc o c1 e=>e8.extBut _ _ c1 (e7.extBut _ _ c1 (Ã _ e))
 have t8:Æ4 g8 g5.objs.size x y:=e8.extBut _ _ (Ê7 zl) (e7.extBut _ _ (Ê7 zl) (Ë _ rfl))
 have s8:g8.objs.size=g5.objs.size + 1:=by rw[e8.1,e7.1,Ë5]
 rw[sz] at z8 t8 s8
 ¤Å ⟨_,rfl,?_⟩;¤Å ?_;show Q (some (.ref g5.objs.size)) _;rw[sz]
 §hQ g8 z8 (up _ _ D.TOz t5) (by ¶⟨o,ho,q⟩:=r1;§⟨o,up _ o D.i1z ho,q⟩) (by ¶⟨o,ho,q⟩:=r5;§⟨o,up _ o D.i2z ho,q⟩) t8 s8 λc o c1 c2 c3 c4 e=>up c o c1 (kp c o c1 c2 c3 c4 e)
÷I91{z TI TO i1 i2 l1 l2:Ç}{k:Nat}{xs ys:Array Ä}{a b:Ä}{Q:Option Ä->Æ->Prop}(hh:A.handled=none)(D:ZipApart z TI TO i1 i2 l1 l2)(hz:Ò1 s.heap z TI TO .none)
  (hTI:Æ4 s.heap TI (.ref i1) (.ref i2)) (hTO:Æ4 s.heap TO a b) (h1:s.heap.IsTupleIter i1 l1 k) (h2:s.heap.IsTupleIter i2 l2 k) (hl1:s.heap.IsTuple l1 xs) (hl2:s.heap.IsTuple l2 ys)
  (hend:xs[k]?=none∨ys[k]?=none) (hQ:∀ h',(∀ c o,c≠z->c≠TO->c≠i1->c≠i2->s.heap.get? c=some o->h'.get? c=some o)->Q none { s with heap:=h' }):Ï (Ô P w) A (Ñ2 (.ref z)) Q E s:=by
 have hT:s.TypeIs (.ref z) "zip":=⟨_,hz,rfl⟩
 have fin:∀ (h':ì) (e:Ç),(∀ c o,c≠z->c≠TO->c≠i1->c≠i2->s.heap.get? c=some o->h'.get? c=some o)->(∃ o,h'.get? e=some o/\o.cls=.type "StopIteration") ->
   Ï (Ô P w) A (isInstance (.ref e) (.type "StopIteration") >>= λb=>if b=true then pure none else throw (.ref e)) Q E { s with heap:=h' }:=λh' e kp he=>by
  ¶⟨o,ho,hc⟩:=he
  §À (Þ9 (T:="StopIteration") (b:=true) ⟨o,ho,hc⟩ isSubtype_stop (Å (hQ _ kp)))
 unfold Ñ2;¤À (Ë4 (À6 (name:=Á0 "__next__") hT Õ5 (À5 Õ5 hT F.entry_zip_next ?_ (F.args_zip_next_1 _))))
 show Ï _ _ (field (.ref z) 2 >>= _) _ _ _;¤À (Á6 hz rfl (x:=.bool false) rfl ?_)
 show Ï _ _ (field (.ref z) 3 >>= _) _ _ _;¤À (Á6 hz rfl (x:=.ref TI) rfl ?_)
 ¤À (Ç4 hTI rfl ?_);show Ï _ _ (Í0 (.ref z) >>= _) _ _ _
 ¤À ?_;unfold Í0;¤À (Á6 hz rfl (x:=.none) rfl (Å ?_));simp only[if_true]
 ¤À (Ê1 (À (Á6 hz rfl (x:=.ref TO) rfl (À (Ã0 hz (by simp) λg1 z1 e1=>?_)))))
 replace z1:Ò1 g1 z TI TO .ellipsis:=z1
 ¤À ?_;simp only[List.zipIdx_cons,List.zipIdx_nil,Í2,Ö6]
 ¤À (À (Û5 ?_));show Ï _ _ (nextOf (.ref i1) >>= _) _ _ _
 cases hx:xs[k]? with
 |none =>
  ¤À (l50 hh (h1.extBut e1.extBut D.i1z) (hl1.extBut e1.extBut D.l1z) hx λg2 e e2 he=>?_)
  ¶⟨oe,hoe,hce⟩:=he
  have z2:Ò1 g2 z TI TO .ellipsis:=e2 _ _ D.i1z.symm z1
  have hez:e≠z:=λq=>by subst q;rw[z2] at hoe;cases hoe;simp at hce
  §Ã0 z2 (by simp) λg3 _ e3=>fin g3 e (λc o c1 _ c3 _ q=>e3.extBut _ _ c1 (e2 _ _ c3 (e1.extBut _ _ c1 q))) ⟨oe,e3.extBut _ _ hez hoe,hce⟩
 |some x =>
  have hy:ys[k]?=none:=by rcases hend with q | q;rw[hx] at q;cases q;§q
  ¤À (q10 (h1.extBut e1.extBut D.i1z) (hl1.extBut e1.extBut D.l1z) hx λg2 r2 e2=>Å ?_)
  have t2:Æ4 g2 TO a b:=e2.extBut _ _ D.TOi1 (e1.extBut _ _ D.TOz hTO)
  ¤À (Ç4 t2 rfl (À (Ø6 t2 λg3 t3 e3=>?_)))
  ¤À (wpAny_letGo (Å ?_));¤À (À (Û5 ?_));show Ï _ _ (nextOf (.ref i2) >>= _) _ _ _
  ¤À (l50 hh (((h2.extBut e1.extBut D.i2z).extBut e2.extBut D.i12.symm).extBut e3.extBut D.TOi2.symm) (((hl2.extBut e1.extBut D.l2z).extBut e2.extBut D.l2i1).extBut e3.extBut D.l2TO) hy λg4 e e4 he=>?_)
  ¶⟨oe,hoe,hce⟩:=he
  have z4:Ò1 g4 z TI TO .ellipsis:=e4 _ _ D.i2z.symm (e3.extBut _ _ D.TOz.symm (e2.extBut _ _ D.i1z.symm z1))
  have hez:e≠z:=λq=>by subst q;rw[z4] at hoe;cases hoe;simp at hce
  §Ã0 z4 (by simp) λg5 _ e5=>fin g5 e (λc o c1 c2 c3 c4 q=>e5.extBut _ _ c1 (e4 _ _ c4 (e3.extBut _ _ c2 (e2.extBut _ _ c3 (e1.extBut _ _ c1 q))))) ⟨oe,e5.extBut _ _ hez hoe,hce⟩
abbrev zT1(h:ì)(l1:Ç):Heap:=h.push { cls:=.type "tuple_iterator",data:=.fields #[.ref l1,.int 0 0] }
abbrev zT2(h:ì)(l1 l2:Ç):Heap:=(zT1 h l1).push { cls:=.type "tuple_iterator",data:=.fields #[.ref l2,.int 0 0] }
abbrev zT3(h:ì)(l1 l2:Ç):Heap:=(zT2 h l1 l2).push { cls:=.type "tuple",data:=.seq #[.ref h.objs.size,.ref (zT1 h l1).objs.size] }
abbrev zT4(h:ì)(l1 l2:Ç):Heap:=(zT3 h l1 l2).push { cls:=.type "tuple",data:=.seq #[.none,.none] }
abbrev zT5(h:ì)(l1 l2:Ç):Heap:=(zT4 h l1 l2).push { cls:=.type "zip",data:=.fields #[.none,.bool false,.bool false,.ref (zT2 h l1 l2).objs.size,.ref (zT3 h l1 l2).objs.size] }
÷l91(l1 l2:Ç)(xs ys:Array Ä) :
  Meets (ÿ.«zip.__new__» ⟨[.type "zip",.ref l1,.ref l2],[]⟩) (λ_ R s=>s.heap.IsTuple l1 xs/\s.heap.IsTuple l2 ys/\R (.ok (.ret (.ref (zT4 s.heap l1 l2).objs.size))) { s with heap:=zT5 s.heap l1 l2 }) :=
 .of_wp λP w A R s h=>by
  ¶⟨hp,g,d,tk,os⟩:=s;¶⟨hl1,hl2,h⟩:=h
  have hsub:=sub_zip
  have hL1:Ó4 (Æ.heap ⟨hp,g,d,tk,os⟩) l1 xs:=hl1
  have hL2:Ó4 (Æ.heap ⟨hp.push { cls:=.type "tuple_iterator",data:=.fields #[.ref l1,.int 0 0] },g,d,tk,os⟩) l2 ys:=Ó4.push hl2 _
  wp_walk using È0 hL1,È0 hL2
  §⟨_,rfl,h⟩
÷s91{l1 l2:Ç}{xs ys:Array Ä}{Q:Ä->Æ->Prop}(hl1:s.heap.IsTuple l1 xs)(hl2:s.heap.IsTuple l2 ys)
  (h:∀ h',Ò1 h' (s.heap.objs.size + 4) (s.heap.objs.size + 2) (s.heap.objs.size + 3) .none->Æ4 h' (s.heap.objs.size + 2) (.ref s.heap.objs.size) (.ref (s.heap.objs.size + 1))->Æ4 h' (s.heap.objs.size + 3) .none .none ->
   h'.IsTupleIter s.heap.objs.size l1 0->h'.IsTupleIter (s.heap.objs.size + 1) l2 0->(∀ c o,s.heap.get? c=some o->h'.get? c=some o)->Q (.ref (s.heap.objs.size + 4)) { s with heap:=h' }) :
  Ï (Ô P w) A (call (.type "zip") [.ref l1,.ref l2]) Q E s:=by
 ¤callType_new F.called_zip (by decide) (F.typeCall_zip_2 _ _) (F.newCall_zip_2 _ _) (λobj=>F.args_object_init_3 obj _ _) F.entry_zip_new (l91 l1 l2 xs ys) ⟨hl1,hl2,?_⟩
 have n1:(zT1 s.heap l1).objs.size=s.heap.objs.size + 1:=Ë5 ..
 have n2:(zT2 s.heap l1 l2).objs.size=s.heap.objs.size + 2:=by rw[Ë5,n1]
 have n3:(zT3 s.heap l1 l2).objs.size=s.heap.objs.size + 3:=by rw[Ë5,n2]
 have n4:(zT4 s.heap l1 l2).objs.size=s.heap.objs.size + 4:=by rw[Ë5,n3]
 have g5:(zT5 s.heap l1 l2).get? (zT4 s.heap l1 l2).objs.size=some _:=Ë _ rfl
 have g4:(zT5 s.heap l1 l2).get? (zT3 s.heap l1 l2).objs.size=some _:=Ã _ (Ë _ rfl)
 have g3:(zT5 s.heap l1 l2).get? (zT2 s.heap l1 l2).objs.size=some _:=Ã _ (Ã _ (Ë _ rfl))
 have g2:(zT5 s.heap l1 l2).get? (zT1 s.heap l1).objs.size=some _:=Ã _ (Ã _ (Ã _ (Ë _ rfl)))
 have g1:(zT5 s.heap l1 l2).get? s.heap.objs.size=some _:=Ã _ (Ã _ (Ã _ (Ã _ (Ë _ rfl))))
 show _/\_;rw[n2,n3,n4] at g5;rw[n1,n2] at g3;rw[n3] at g4;rw[n1] at g2;rw[n4]
 §⟨⟨_,g5,rfl⟩,h _ g5 g3 g4 ⟨_,g1,rfl,rfl⟩ ⟨_,g2,rfl,rfl⟩ λc o q=>Ã _ (Ã _ (Ã _ (Ã _ (Ã _ q))))⟩
end
open PySem PySem.Spec PyProof.Rows
section
variable {X:Cx}{pins:List (Ç × Obj)}{σ:St}{H:Hp}{s:Æ}{h':ì}
÷Inv.J60{t':Nat}{ch:List Ç}(I:Inv X pins σ H s)(hf:∀ b∈ch,X80 X pins H b)(k:∀ b o,b ∉ ch->s.heap.get? b=some o->h'.get? b=some o):Inv X pins σ H { s with heap:=h',toks:=t' }:=by
 have nch:∀ b u,H b=some u->b ∉ ch:=λb u e z=>by rw[(hf b z).1] at e;cases e
 ¤I.step (g':=s.gens) (d':=s.drawn) (ch:=ch) (λb hb=>⟨(hf b hb).2.2.2.1,(hf b hb).2.1,(hf b hb).2.2.2.2.1,(hf b hb).2.2.2.2.2⟩) (λb o _ _ hc e _=>k b o hc e) (λb o _ _ hc e _=>⟨o.slots,k b o hc e⟩) (λ_ _ _ _ n=>n)
  (λb o hc e=>⟨o,k b o hc e⟩) (λ_ _ e=>e) (λ_ _ _ e=>e) (λb ps e=>⟨#[],by rw[e];simp⟩) (λm hm=>?_) (λb u e=>?_) I.bare
 ·¶⟨o,es,ep,ho,r⟩:=hm
  §⟨o,es,ep,k _ o (λz=>(hf _ z).2.1 rfl) ho,r⟩
 ·¤(I.hok b u e).l21 (λc v hc q=>k c v ?_ q) (λ_ q=>q) λ_ _ q=>q
  rcases hc with z | z
  ·rw[z];§nch b u e
  ·§nch c _ z
÷Inv.I71{T:Ç}{o:HO}(I:Inv X pins σ H s)(f:X80 X pins H T)(h0:X.s₀.heap.objs.size<=T)(hok:HOk X.prog X.w (upd H T o) s.heap):Inv X pins σ (upd H T o) s:=by
 have u:=I.base
 ¤⟨I.ok,I.os,I.bare,⟨u.keep,u.slot,λb ob e n hx=>?_,u.there,λb xs e=>?_,λb ob xs e=>?_,λb ps e=>?_⟩,I.loc,I.cell,?_,λx c e=>?_,λp hp=>?_,hok,I.len⟩
 ·rw[a60 (Ù (Ú (à e) h0))];§u.free b ob e n hx
 ·have z:=u.tups b xs e;rw[a60 (a80 z f.1)];§z
 ·have z:=u.frzs b ob xs e;rw[a60 (a80 z f.1)];§z
 ·¶⟨more,z⟩:=u.tbls b ps e
  §⟨more,by rw[a60 (a80 z f.1)];§z⟩
 ·rw[a60 f.2.1.symm];§I.free
 ·rw[a60 (f.2.2.2.2.1 x c e)];§I.freeC x c e
 ·¶⟨e,n,r⟩:=I.pin p hp
  §⟨e,by rw[a60 (f.2.2.2.2.2 p hp)];§n,r⟩
÷HOk.T31{P:ß}{w:ç}{H:Hp}{h:ì}{D:Ç}{ys:List V}{its:List Ä}(x:HOk P w H h)(hn:H D=none)(hv:Vals ys its)(hz:ys.length<=Û)(ho:Ï2 h D its.toArray):HOk P w (upd H D (.tup ys)) h:=λb u e=>by
 by_cases hb:b=D
 ·subst hb;rw[b20] at e;cases e;§⟨hz,its,hv,ho⟩
 ·rw[a60 hb] at e
  §(x b u e).l21 (λc v _ q=>q) (λc q=>by rw[a60 (a80 q hn)];§q) λc xs q=>by rw[a60 (a80 q hn)];§q
end
def SqB:Bool->Â->Hp->Ç->List V->Prop
 |true=>SqL
 |false=>SqT
def R20:Bool->ì->Ç->Ç->Nat->Prop
 |true=>ì.IsListIter
 |false=>ì.IsTupleIter
def J01:Bool->ì->Ç->Array Ä->Prop
 |true=>ì.IsList
 |false=>Ó4
÷R20.obj{b:Bool}{h:ì}{it a:Ç}{i:Nat}(st:R20 b h it a i):∃ o,h.get? it=some o/\(∀ v,o.data=.cell v->False)/\∀ h':ì,h'.get? it=some o->R20 b h' it a i:=by
 cases b with
 |true=>¶⟨o,g,c,d⟩:=st;§⟨o,g,(λv e=>by rw[d] at e;cases e),λh' k=>⟨o,k,c,d⟩⟩
 |false=>¶⟨o,g,c,d⟩:=st;§⟨o,g,(λv e=>by rw[d] at e;cases e),λh' k=>⟨o,k,c,d⟩⟩
÷Inv.J11(I:Inv X pins σ H s)(h:SqB b X.K H a xs):∃ its:List Ä,Vals xs its/\J01 b s.heap a its.toArray/\a < s.heap.objs.size/\∀ ys,SqB b X.K H a ys->ys=xs:=by
 cases b with
 |true=>¶⟨its,r,p,_⟩:=I.list h;§⟨its,r,p.isList,by ¶⟨o,e,_⟩:=p.isList;§à e,λys h'=>I.e01 h' h⟩
 |false=>¶⟨its,r,p,_⟩:=I.tuple h;§⟨its,r,p,by ¶⟨o,e,_⟩:=p;§à e,λys h'=>I.P40 h' h⟩
section
variable {P:ß}{w:ç}{A:ø}{E:Ä->Æ->Prop}{s:Æ}{b:Bool}{z TI TO i1 i2 l1 l2:Ç}{k:Nat}{xs ys:Array Ä}{x y p q:Ä}
÷t01{Q:Option Ä->Æ->Prop}(D:ZipApart z TI TO i1 i2 l1 l2)(hz:Ò1 s.heap z TI TO .none)(hTI:Æ4 s.heap TI (.ref i1) (.ref i2))(hTO:Æ4 s.heap TO p q)(h1:R20 b s.heap i1 l1 k)(h2:R20 b s.heap i2 l2 k)(hl1:J01 b s.heap l1 xs)(hl2:J01 b s.heap l2 ys)(hx:xs[k]?=some x)(hy:ys[k]?=some y)
  (hQ:∀ h',Ò1 h' z TI TO (Ã7 s.heap.objs.size)->Æ4 h' TO x y->R20 b h' i1 l1 (k + 1)->R20 b h' i2 l2 (k + 1)->Æ4 h' s.heap.objs.size x y->h'.objs.size=s.heap.objs.size + 1 ->
   (∀ c o,c≠z->c≠TO->c≠i1->c≠i2->s.heap.get? c=some o->h'.get? c=some o)->Q (some (.ref s.heap.objs.size)) { s with heap:=h' }):Ï (Ô P w) A (Ñ2 (.ref z)) Q E s:=match b,h1,h2,hl1,hl2,hQ with
 |true,h1,h2,hl1,hl2,hQ=>wpAny_pyNext_zip_item D hz hTI hTO h1 h2 hl1 hl2 hx hy hQ
 |false,h1,h2,hl1,hl2,hQ=>s81 D hz hTI hTO h1 h2 hl1 hl2 hx hy hQ
÷J21{Q:Option Ä->Æ->Prop}(hh:A.handled=none)(D:ZipApart z TI TO i1 i2 l1 l2)(hz:Ò1 s.heap z TI TO .none)(hTI:Æ4 s.heap TI (.ref i1) (.ref i2))(hTO:Æ4 s.heap TO p q)(h1:R20 b s.heap i1 l1 k)(h2:R20 b s.heap i2 l2 k)(hl1:J01 b s.heap l1 xs)(hl2:J01 b s.heap l2 ys)
  (hend:xs[k]?=none∨ys[k]?=none) (hQ:∀ h',(∀ c o,c≠z->c≠TO->c≠i1->c≠i2->s.heap.get? c=some o->h'.get? c=some o)->Q none { s with heap:=h' }):Ï (Ô P w) A (Ñ2 (.ref z)) Q E s:=match b,h1,h2,hl1,hl2 with
 |true,h1,h2,hl1,hl2=>wpAny_pyNext_zip_end hh D hz hTI hTO h1 h2 hl1 hl2 hend hQ
 |false,h1,h2,hl1,hl2=>I91 hh D hz hTI hTO h1 h2 hl1 hl2 hend hQ
÷t11{Q:Ä->Æ->Prop}(hl1:J01 b s.heap l1 xs)(hl2:J01 b s.heap l2 ys)
  (h:∀ h',Ò1 h' (s.heap.objs.size + 4) (s.heap.objs.size + 2) (s.heap.objs.size + 3) .none->Æ4 h' (s.heap.objs.size + 2) (.ref s.heap.objs.size) (.ref (s.heap.objs.size + 1))->Æ4 h' (s.heap.objs.size + 3) .none .none ->
   R20 b h' s.heap.objs.size l1 0->R20 b h' (s.heap.objs.size + 1) l2 0->(∀ c o,s.heap.get? c=some o->h'.get? c=some o)->Q (.ref (s.heap.objs.size + 4)) { s with heap:=h' }):Ï (Ô P w) A (call (.type "zip") [.ref l1,.ref l2]) Q E s:=match b,hl1,hl2,h with
 |true,hl1,hl2,h=>call_zip_2 hl1 hl2 λh' a1 a2 a3 a4 a5 _ a6=>h h' a1 a2 a3 a4 a5 a6
 |false,hl1,hl2,h=>s91 hl1 hl2 h
end
def Itz(b:Bool)(K:Â)(a c:Ç):It :=
 ⟨λi H=>∃ xs ys x y,SqB b K H a xs/\SqB b K H c ys/\xs[i]?=some x/\ys[i]?=some y,
  λi H v H'=>∃ T,v=.ref T/\H T=none/\∀ xs ys x y,SqB b K H a xs->SqB b K H c ys->xs[i]?=some x->ys[i]?=some y->H'=upd H T (.tup [x,y]),
  λi H=>∃ xs ys,SqB b K H a xs/\SqB b K H c ys/\(xs.length<=i∨ys.length<=i)⟩
÷J31{P:ß}{w:ç}{K:Â}{es:List Ò}{ek:Nat}{ep:Pos}{b:Bool}{a c z TI TO i1 i2:Ç}(D:ZipApart z TI TO i1 i2 a c) :
  Turn P w K (.Tuple es ek ep) (Itz b K a c) [z,TI,TO,i1,i2] z (λi h=>Ò1 h z TI TO .none/\Æ4 h TI (.ref i1) (.ref i2)/\(∃ p q,Æ4 h TO p q)/\R20 b h i1 a i/\R20 b h i2 c i) where
 mem:=by simp
 obj:=λi h st c hc=>by
  ¶⟨hz,hTI,⟨p,q,hTO⟩,h1,h2⟩:=st
  ¶⟨o1,h1,d1,_⟩:=h1.obj
  ¶⟨o2,h2,d2,_⟩:=h2.obj
  simp only[Â7,À0,or_false] at hc
  rcases hc with rfl | rfl | rfl | rfl | rfl
  ·§⟨_,hz,λv e=>by cases e⟩
  ·§⟨_,hTI,λv e=>by cases e⟩
  ·§⟨_,hTO,λv e=>by cases e⟩
  ·§⟨_,h1,d1⟩
  ·§⟨_,h2,d2⟩
 keep:=λi h h' st k=>by
  ¶⟨hz,hTI,⟨p,q,hTO⟩,h1,h2⟩:=st
  ¶⟨o1,h1,_,r1⟩:=h1.obj
  ¶⟨o2,h2,_,r2⟩:=h2.obj
  §⟨k z (by simp) _ hz,k TI (by simp) _ hTI,⟨p,q,k TO (by simp) _ hTO⟩,r1 _ (k i1 (by simp) _ h1),r2 _ (k i2 (by simp) _ h2)⟩
 item:=by
  intro X hP hw hK hc i pins s σ H E I hf st hg
  subst hP hw hK
  ¶⟨xs,ys,x,y,hq1,hq2,hx,hy⟩:=hg
  ¶⟨v1,rv1,p1,_,z1⟩:=I.J11 hq1
  ¶⟨v2,rv2,p2,_,z2⟩:=I.J11 hq2
  ¶⟨u1,hu1,ru1⟩:=rv1.get hx
  ¶⟨u2,hu2,ru2⟩:=rv2.get hy
  ¶⟨hz,hTI,⟨p,q,hTO⟩,h1,h2⟩:=st
  ¤t01 D hz hTI hTO h1 h2 p1 p2 (x:=u1) (y:=u2) (by simpa using hu1) (by simpa using hu2) λg1 gz gTO g1' g2' gT gs kp=>⟨_,rfl,?_⟩
  ¤wpAny_letOwnedTupleGo_zip (s:={ s with heap:=g1 }) gz λg2 gz2 sb=>?_
  have hT:H s.heap.objs.size=none:=I.hok.fresh (Í _)
  have kall:∀ c o,c ∉ [z,TI,TO,i1,i2]->s.heap.get? c=some o->g2.get? c=some o:=λc o hc e=>by
   simp only[Â7,À0,or_false,not_or] at hc
   §sb.extBut _ _ hc.1 (kp c o hc.1 hc.2.2.1 hc.2.2.2.1 hc.2.2.2.2 e)
  have I2:Inv X pins σ H { s with heap:=g2 }:=I.J60 (t':=s.toks) hf kall
  have fT:X80 X pins H s.heap.objs.size:=I.p91 (Í _) hT
  have gT2:g2.get? s.heap.objs.size=some { cls:=.type "tuple",data:=.seq #[u1,u2] }:=sb.extBut _ _ (λe=>Á8 _ (by have:=à hz;rw[← e] at this;§this)) gT
  have I3:Inv X pins σ (upd H s.heap.objs.size (.tup [x,y])) { s with heap:=g2 }:=I2.I71 fT I.sz (I2.hok.T31 hT (its:=[u1,u2]) (.cons ru1 (.cons ru2 .nil)) (by show 2<=Û;rw[Á3];decide) ⟨_,gT2,rfl,_,rfl⟩)
  have TI0:Æ4 g2 TI (.ref i1) (.ref i2):=sb.extBut _ _ D.TIz (kp _ _ D.TIz D.TITO D.TIi1 D.TIi2 hTI)
  ¶⟨o1,w1,_,r1⟩:=g1'.obj
  ¶⟨o2,w2,_,r2⟩:=g2'.obj
  ¤⟨.ref s.heap.objs.size,_,I3,rfl,⟨_,rfl,hT,λxs' ys' x' y' e1 e2 e3 e4=>?_⟩,⟨gz2,TI0,⟨_,_,sb.extBut _ _ D.TOz gTO⟩,r1 _ (sb.extBut _ _ D.i1z w1),r2 _ (sb.extBut _ _ D.i2z w2)⟩,λc hc=>?_⟩
  ·rw[z1 _ e1] at e3
   rw[z2 _ e2] at e4
   rw[hx] at e3;rw[hy] at e4
   cases e3;cases e4;rfl
  ·rw[a60]
   ·§(hf c hc).1
   ·intro e
    ¶⟨o1,h1,_⟩:=h1.obj
    ¶⟨o2,h2,_⟩:=h2.obj
    have lt:c < s.heap.objs.size:=by
     simp only[Â7,À0,or_false] at hc
     rcases hc with rfl | rfl | rfl | rfl | rfl
     ·§à hz
     ·§à hTI
     ·§à hTO
     ·§à h1
     ·§à h2
    rw[e] at lt
    §Á8 _ lt
 done:=by
  intro X hP hw hK hc i pins s σ H E I hf st hg
  subst hP hw hK
  ¶⟨xs,ys,hq1,hq2,hend⟩:=hg
  ¶⟨v1,rv1,p1,_⟩:=I.J11 hq1
  ¶⟨v2,rv2,p2,_⟩:=I.J11 hq2
  ¶⟨hz,hTI,⟨p,q,hTO⟩,h1,h2⟩:=st
  have l1:=rv1.length
  have l2:=rv2.length
  ¤J21 (I.ok.hd hc) D hz hTI hTO h1 h2 p1 p2 (hend.elim (λe=>.inl (by simp;omega)) λe=>.inr (by simp;omega)) λg kp=>⟨rfl,I.J60 (t':=s.toks) hf λc o hcn e=>?_⟩
  simp only[Â7,À0,or_false,not_or] at hcn
  §kp c o hcn.1 hcn.2.2.1 hcn.2.2.2.1 hcn.2.2.2.2 e
 self:=λ_ _ _ _ _ st h=>wpAny_pyIter_zip st.1 h
def S52(K:Â)(ta:TA):TI:=λσ H R=>ta σ H λvs H1=>∃ b a c,vs=[.ref a,.ref c]/\(∃ xs,SqB b K H1 a xs)/\(∃ ys,SqB b K H1 c ys)/\R (Itz b K a c) H1
÷boot_zip:ë "zip"=some (.type "zip"):=by decide +kernel
÷p12{X:Cx}{a b:Ò}{es:List Ò}{ek:Nat}{ep:Pos}{ta:TA}{p pos:Pos}(hg:Gl X "zip")(hm:X.mg "zip"=none)(ha:PA X [a,b] ta)(hs:þ [a,b] X.env=[(false,eval a X.env),(false,eval b X.env)]:=by rfl)(hs2:þ [b] X.env=[(false,eval b X.env)]:=by rfl) :
  PI X (.Tuple es ek ep) (.Call (.Name "zip" p) [a,b] [] pos) (S52 X.K ta):=by
 intro pins s σ H R I h
 ¤Call_ (t90 I hg hm boot_zip (Á2 (thn (ha pos pins s σ H _ I h) λus s1 ⟨vs,H1,I1,r1,q1⟩=>?_) (by rw[hs,hs2]) (by rw[hs2];rfl)))
 ¶⟨b,l1,l2,e,⟨xs,hq1⟩,⟨ys,hq2⟩,q⟩:=q1
 subst e
 ¶⟨u,w',rfl,r,r'⟩:=vals2 r1
 cases r;cases r'
 ¶⟨v1,rv1,p1,a1,_⟩:=I1.J11 hq1
 ¶⟨v2,rv2,p2,a2,_⟩:=I1.J11 hq2
 ¤t11 p1 p2 λh' hz hTI hTO h1 h2 kp=>wpAny_pyIter_zip (s:={ s1 with heap:=h' }) hz ?_
 ¤⟨_,[s1.heap.objs.size + 4,s1.heap.objs.size + 2,s1.heap.objs.size + 3,s1.heap.objs.size,s1.heap.objs.size + 1],_,_,H1,rfl,I1.kept (t':=s1.toks) kp,J31 (PyProof.Rows.zipApart_new a1 a2),⟨hz,hTI,⟨_,_,hTO⟩,h1,h2⟩,λc hc=>?_,q⟩
 have hc':s1.heap.objs.size<=c:=by
  simp only[Â7,À0,or_false] at hc
  rcases hc with rfl | rfl | rfl | rfl | rfl
  ·§É8 _ 4
  ·§É8 _ 2
  ·§É8 _ 3
  ·§Í _
  ·§É8 _ 1
 §I1.p91 hc' (I1.hok.fresh hc')
÷J41(hc:X.calm=true):e50 X (.builtin "all") (λxs H Q=>∃ (a:Ç) (bs:List Bool),xs=[.ref a]/\SqL X.K H a (bs.map V.bl)/\Q (.bl (bs.all id)) H):=by
 intro pins s σ H xs us Q I r h
 ¶⟨a,bs,rfl,hq,q⟩:=h
 ¶⟨u,rfl,rx⟩:=vals1 r
 cases rx
 ¶⟨its,rv,pl,hz⟩:=I.list hq
 have hlt:a < s.heap.objs.size:=by ¶⟨_,e,_⟩:=pl.isList;§à e
 have hlen:its.length=bs.length:=by have:=rv.length;simpa using this.symm
 ¤call_all_walk (Ý3 pl.isList ⟨_,_,_,_,_,_,λi=>(bs[i]?).getD true,rfl,Walks.list (by §I.ok.hd hc) s.heap.objs.size a (Ù hlt) its.toArray,⟨⟨_,Ë _ rfl,rfl,rfl⟩,pl.isList.push _⟩,?_,?_⟩)
 ·intro i v s' Q' E' hP hQ
  have hP':its[i]?=some v:=by simpa using hP
  have hi:i < bs.length:=by rw[← hlen];§(Ý.mp hP').1
  ¶⟨v',hv',rv'⟩:=rv.get (i:=i) (x:=.bl bs[i]) (by simp[hi])
  rw[hP'] at hv';cases hv'
  cases (show v=Ï0 _ from rv')
  §Â6 (by simpa [hi] using hQ)
 ·intro h' tk kp
  ¤⟨.bl (bs.all id),H,I.kept λb o e=>kp b o (by simpa using Ù (à e)) (Ã _ e),?_,q⟩
  show Ï0 _=Ï0 _
  rw[Ó,hlen,PyProof.Rows.LSm.range_all]
end L2
namespace MySort
open PySem PySem.W PyProof.Rows
def run{α:Type}(cmp:Nat->Nat->Bool):KasT α->α
 |.ret a=>a
 |.ask i j k=>run cmp (k (cmp i j))
÷run_bind(cmp:Nat->Nat->Bool)(f:α->KasT β):∀ t:KasT α,run cmp (t.bind f)=run cmp (f (run cmp t))
 |.ret _=>rfl
 |.ask i j k=>run_bind cmp f (k (cmp i j))
section
variable (O:KeyOrd) (key:Nat->O.α)
def kk(p:Array Nat)(i:Nat):O.α:=key (p.getD i 0)
abbrev k70:Nat->Nat->Bool:=λi j=>O.blt (key i) (key j)
def Up(p:Array Nat)(n:Nat):Prop:=∀ i j,i<=j->j < n->O.kle (kk O key p i) (kk O key p j)
def Dn(p:Array Nat)(n:Nat):Prop:=∀ i j,i<=j->j < n->O.kle (kk O key p j) (kk O key p i)
variable {O key}
÷u10(h:p[i]?=q[j]?):kk O key p i=kk O key q j:=by
 unfold kk;rw[Î3,Î3,h]
÷t21(hj:j<=p.size)(k:Nat):kk O key (È1 p i j) k=if i<=k/\k < j then kk O key p (i + j - 1 - k) else kk O key p k:=by
 have e:=getElem?_mirror_all (i:=i) hj k
 unfold È1
 by_cases h1:i<=k/\k < j
 ·rw[if_pos h1] at e ⊢;§u10 e
 ·rw[if_neg h1] at e ⊢;§u10 e
÷p22(hs:k < p.size)(hd:d<=k)(i:Nat) :
  kk O key (bubble p k d) i=if i=k - d then kk O key p k else if k - d < i/\i<=k then kk O key p (i - 1) else kk O key p i:=by
 have e:=getElem?_bubble hs d hd i
 by_cases h1:i=k - d
 ·rw[if_pos h1] at e ⊢;§u10 e
 ·rw[if_neg h1] at e ⊢
  by_cases h2:k - d < i/\i<=k
  ·rw[if_pos h2] at e ⊢;§u10 e
  ·rw[if_neg h2] at e ⊢;§u10 e
÷Up.more(h:Up O key p n)(h1:1<=n)(hl:O.kle (kk O key p (n - 1)) (kk O key p n)):Up O key p (n + 1):=by
 intro i j hij hj
 by_cases e:j=n
 ·subst e
  by_cases e2:i=j
  ·subst e2;§Ç3 _
  ·§Ú2 (h i (j - 1) (by omega) (by omega)) hl
 ·§h i j hij (by omega)
÷Dn.more(h:Dn O key p n)(h1:1<=n)(hl:O.kle (kk O key p n) (kk O key p (n - 1))):Dn O key p (n + 1):=by
 intro i j hij hj
 by_cases e:j=n
 ·subst e
  by_cases e2:i=j
  ·subst e2;§Ç3 _
  ·§Ú2 hl (h i (j - 1) (by omega) (by omega))
 ·§h i j hij (by omega)
÷t31:∀ (f n:Nat),1<=n->Up O key p n ->
  n<=run (k70 O key) (È2 p f n)/\run (k70 O key) (È2 p f n)<=n + f/\Up O key p (run (k70 O key) (È2 p f n)) /\
   (run (k70 O key) (È2 p f n) < n + f->O.klt (kk O key p (run (k70 O key) (È2 p f n))) (kk O key p (run (k70 O key) (È2 p f n) - 1)))
 |0,n,h1,hu=>⟨Í _,Í _,hu,λh=>absurd h (Á8 _)⟩
 |f + 1,n,h1,hu=>by
  show n<=run _ (if O.blt (kk O key p n) (kk O key p (n - 1))=true then Ò6 n else È2 p f (n + 1))/\run _ (if O.blt (kk O key p n) (kk O key p (n - 1))=true then Ò6 n else È2 p f (n + 1))<=n + (f + 1) /\
   Up O key p (run _ (if O.blt (kk O key p n) (kk O key p (n - 1))=true then Ò6 n else È2 p f (n + 1))) /\
   (run _ (if O.blt (kk O key p n) (kk O key p (n - 1))=true then Ò6 n else È2 p f (n + 1)) < n + (f + 1) ->
    O.klt (kk O key p (run _ (if O.blt (kk O key p n) (kk O key p (n - 1))=true then Ò6 n else È2 p f (n + 1)))) (kk O key p (run _ (if O.blt (kk O key p n) (kk O key p (n - 1))=true then Ò6 n else È2 p f (n + 1)) - 1)))
  cases hb:O.blt (kk O key p n) (kk O key p (n - 1)) with
  |true =>
   simp only[if_true]
   §⟨Í _,by show n<=n + (f + 1);omega,hu,λ_=>hb⟩
  |false =>
   simp only[Ã4,if_false]
   have ih:=t31 f (n + 1) (by omega) (hu.more h1 hb)
   ¤⟨by omega,by omega,ih.2.2.1,λh=>ih.2.2.2 (by omega)⟩
÷rev_eq(hj:j<=p.size)(he:∀ k,i<=k->k < j->kk O key p k=kk O key p (j - 1))(k:Nat):kk O key (È1 p i j) k=kk O key p k:=by
 rw[t21 hj]
 split
 ·rw[he _ (by omega) (by omega),he k (by omega) (by omega)]
 ·rfl
÷J70(p:Array Nat)(i j:Nat):(È1 p i j).Perm p:=mirror_perm _ _ _ _
÷J80(p:Array Nat)(i j:Nat):(È1 p i j).size=p.size:=mirror_size _ _ _ _
structure DnR(O:KeyOrd)(key:Nat->O.α)(p0 p:Array Nat)(n q:Nat):Prop where
 perm:p.Perm p0
 size:p.size=p0.size
 pos:q + 1<=n
 dn:Dn O key p n
 eq:∀ k,n - (q + 1)<=k->k < n->kk O key p k=kk O key p (n - 1)
÷DnR.rev(h:DnR O key p0 p n q)(hn:n<=p0.size):DnR O key p0 (È1 p (n - (q + 1)) n) n q:=by
 have hz:=h.size
 have e:=rev_eq (O:=O) (key:=key) (i:=n - (q + 1)) (j:=n) (p:=p) (by omega) h.eq
 §⟨(J70 _ _ _).trans h.perm,(J80 _ _ _).trans hz,h.pos,λi j hij hj=>by rw[e,e];§h.dn i j hij hj,λk h1 h2=>by rw[e,e];§h.eq k h1 h2⟩
÷Y40:∀ (f:Nat) (p:Array Nat) (n q:Nat),DnR O key p0 p n q->n + f<=p0.size ->
  n<=(run (k70 O key) (Ã2 f p n q)).2.1/\(run (k70 O key) (Ã2 f p n q)).2.1<=n + f /\
   DnR O key p0 (run (k70 O key) (Ã2 f p n q)).1 (run (k70 O key) (Ã2 f p n q)).2.1 (run (k70 O key) (Ã2 f p n q)).2.2
 |0,p,n,q,h,_=>⟨Í _,Í _,h⟩
 |f + 1,p,n,q,h,hn=>by
  have hp:=h.pos
  have hz:=h.size
  have unf:run (k70 O key) (Ã2 (f + 1) p n q)=run (k70 O key) (if O.blt (kk O key p n) (kk O key p (n - 1))=true then(if q > 0 then Ã2 f (È1 p (n - (q + 1)) n) (n + 1) 0 else Ã2 f p (n + 1) 0)
   else .ask (p.getD (n - 1) 0) (p.getD n 0) λd=>if d=true then .ret (p,n,q) else Ã2 f p (n + 1) (q + 1)):=rfl
  rw[unf]
  cases hb:O.blt (kk O key p n) (kk O key p (n - 1)) with
  |true =>
   simp only[if_true]
   have go:∀ p',DnR O key p0 p' n q->(∀ k,kk O key p' k=kk O key p k)->n<=(run (k70 O key) (Ã2 f p' (n + 1) 0)).2.1/\(run (k70 O key) (Ã2 f p' (n + 1) 0)).2.1<=n + (f + 1) /\
     DnR O key p0 (run (k70 O key) (Ã2 f p' (n + 1) 0)).1 (run (k70 O key) (Ã2 f p' (n + 1) 0)).2.1 (run (k70 O key) (Ã2 f p' (n + 1) 0)).2.2:=λp' h' e=>by
    have ih:=Y40 f p' (n + 1) 0 ⟨h'.perm,h'.size,by omega,h'.dn.more (by omega) (by rw[e,e];§Ï9 hb),λk h1 h2=>by
     have:k=n:=by omega
     subst this;rfl⟩ (by omega)
    §⟨by omega,by omega,ih.2.2⟩
   split
   ·§go _ (h.rev (by omega)) (rev_eq (by omega) h.eq)
   ·§go _ h λ_=>rfl
  |false =>
   simp only[Ã4,if_false]
   have unf2:run (k70 O key) (KasT.ask (p.getD (n - 1) 0) (p.getD n 0) λd=>if d=true then .ret (p,n,q) else Ã2 f p (n + 1) (q + 1)) =
    run (k70 O key) (if O.blt (kk O key p (n - 1)) (kk O key p n)=true then .ret (p,n,q) else Ã2 f p (n + 1) (q + 1)):=rfl
   rw[unf2]
   cases hc:O.blt (kk O key p (n - 1)) (kk O key p n) with
   |true =>
    simp only[if_true]
    §⟨Í _,by show n<=n + (f + 1);omega,h⟩
   |false =>
    simp only[Ã4,if_false]
    have e:kk O key p n=kk O key p (n - 1):=O.total _ _ hb hc
    have ih:=Y40 f p (n + 1) (q + 1) ⟨h.perm,h.size,by omega,h.dn.more (by omega) (by rw[e];§Ç3 _),λk h1 h2=>by
     show _=kk O key p n
     by_cases hk:k=n
     ·rw[hk]
     ·rw[e];§h.eq k (by omega) (by omega)⟩ (by omega)
    §⟨by omega,by omega,ih.2.2⟩
structure F32(O:KeyOrd)(key:Nat->O.α)(p0:Array Nat)(nrem:Nat)(r:Nat × Array Nat):Prop where
 perm:r.2.Perm p0
 size:r.2.size=p0.size
 lo:1<=r.1
 hi:r.1<=nrem
 up:Up O key r.2 r.1
÷e61(hp:p.Perm p0)(hz:p.size=p0.size)(hd:Dn O key p n)(h1:1<=n)(hn:n<=nrem)(hr:nrem<=p0.size):F32 O key p0 nrem (run (k70 O key) (kas_tail3 n nrem p)):=by
 unfold kas_tail3
 rw[run_bind]
 have hu:Up O key (È1 p 0 n) n:=λi j hij hj=>by
  rw[t21 (by omega),t21 (by omega),if_pos (by omega),if_pos (by omega)]
  §hd _ _ (by omega) (by omega)
 have a:=t31 (O:=O) (key:=key) (p:=È1 p 0 n) (nrem - n) n h1 hu
 §⟨(J70 _ _ _).trans hp,(J80 _ _ _).trans hz,by show 1<=run _ (È2 _ _ _);omega,by show run _ (È2 _ _ _)<=_;omega,a.2.2.1⟩
÷C20(hp:p.Perm p0)(hz:p.size=p0.size)(hd:Dn O key p (n + 1))(hn:n + 1<=nrem)(hr:nrem<=p0.size):F32 O key p0 nrem (run (k70 O key) (Ð5 n nrem p)):=by
 unfold Ð5
 rw[run_bind]
 have d:=Y40 (O:=O) (key:=key) (p0:=p0) (nrem - (n + 1)) p (n + 1) 0 ⟨hp,hz,by omega,hd,λk h1 h2=>by
  have:k=n:=by omega
  subst this;rfl⟩ (by omega)
 ¶⟨d1,d2,d3⟩:=d
 have hpos:=d3.pos
 split
 ·have d4:=d3.rev (by omega)
  §e61 d4.perm d4.size d4.dn (by omega) (by omega) hr
 ·§e61 d3.perm d3.size d3.dn (by omega) (by omega) hr
÷J51(h1:1<=nrem)(hr:nrem<=p.size):F32 O key p nrem (run (k70 O key) (ß2 nrem p)):=by
 unfold ß2
 rw[run_bind]
 have a:=t31 (O:=O) (key:=key) (p:=p) (nrem - 1) 1 (Í _) (λi j hij hj=>by
  have:i=j:=by omega
  subst this;§Ç3 _)
 generalize run (k70 O key) (È2 p (nrem - 1) 1)=n at a ⊢
 ¶⟨a1,a2,a3,a4⟩:=a
 split
 ·§⟨Ì6 _,rfl,a1,by show n<=nrem;omega,a3⟩
 ·rename_i hne
  have hlt:n < nrem:=by
   have:n≠nrem:=by simpa using hne
   omega
  have hl:=a4 (by omega)
  split
  ·rename_i h2
   have unf:run (k70 O key) (KasT.ask (p.getD 0 0) (p.getD (n - 1) 0) λc=>if c=true then .ret (n,p) else Ð5 n nrem (È1 p 0 n)) =
    run (k70 O key) (if O.blt (kk O key p 0) (kk O key p (n - 1))=true then .ret (n,p) else Ð5 n nrem (È1 p 0 n)):=rfl
   rw[unf]
   cases hb:O.blt (kk O key p 0) (kk O key p (n - 1)) with
   |true =>
    simp only[if_true]
    §⟨Ì6 _,rfl,a1,by show n<=nrem;omega,a3⟩
   |false =>
    simp only[Ã4,if_false]
    have e0:kk O key p 0=kk O key p (n - 1):=O.total _ _ hb (a3 0 (n - 1) (by omega) (by omega))
    have e:∀ k,0<=k->k < n->kk O key p k=kk O key p (n - 1):=λk _ hk=>by
     ¤KeyOrd.kle_antisymm (a3 k (n - 1) (by omega) (by omega)) ?_
     rw[← e0];§a3 0 k (by omega) hk
    have er:=rev_eq (O:=O) (key:=key) (i:=0) (j:=n) (p:=p) (by omega) e
    ¤C20 (J70 _ _ _) (J80 _ _ _) ?_ (by omega) hr
    have dn:Dn O key (È1 p 0 n) n:=λi j hij hj=>by
     rw[er,er,e i (by omega) (by omega),e j (by omega) (by omega)];§Ç3 _
    ¤dn.more a1 ?_
    rw[er,er];§Ï9 hl
  ·have h2:n=1:=by omega
   subst h2
   ¤C20 (Ì6 _) rfl ?_ (by omega) hr
   have dn:Dn O key p 1:=λi j hij hj=>by
    have:i=j:=by omega
    subst this;§Ç3 _
   §dn.more (Í _) (Ï9 hl)
÷J90(hu:Up O key p k):∀ (f l r:Nat),l<=r->r<=k->r - l<=f->(∀ i,i < l->O.kle (kk O key p i) (kk O key p k))->(∀ i,r<=i->i < k->O.klt (kk O key p k) (kk O key p i)) ->
  run (k70 O key) (Ä4 p k f l r)<=k/\(∀ i,i < run (k70 O key) (Ä4 p k f l r)->O.kle (kk O key p i) (kk O key p k))/\(∀ i,run (k70 O key) (Ä4 p k f l r)<=i->i < k->O.klt (kk O key p k) (kk O key p i))
 |0,l,r,h1,h2,h3,h4,h5=>by
  have:l=r:=by omega
  subst this
  §⟨h2,h4,h5⟩
 |f + 1,l,r,h1,h2,h3,h4,h5=>by
  have unf:Ä4 p k (f + 1) l r=(if l ≥ r then .ret l else .ask (p.getD k 0) (p.getD ((l + r) / 2) 0) λc=>if c=true then Ä4 p k f l ((l + r) / 2) else Ä4 p k f ((l + r) / 2 + 1) r):=rfl
  rw[unf]
  by_cases hlr:l ≥ r
  ·rw[if_pos hlr]
   have:l=r:=by omega
   subst this
   §⟨h2,h4,h5⟩
  ·rw[if_neg hlr]
   have unf2:run (k70 O key) (KasT.ask (p.getD k 0) (p.getD ((l + r) / 2) 0) λc=>if c=true then Ä4 p k f l ((l + r) / 2) else Ä4 p k f ((l + r) / 2 + 1) r) =
    run (k70 O key) (if O.blt (kk O key p k) (kk O key p ((l + r) / 2))=true then Ä4 p k f l ((l + r) / 2) else Ä4 p k f ((l + r) / 2 + 1) r):=rfl
   rw[unf2]
   cases hb:O.blt (kk O key p k) (kk O key p ((l + r) / 2)) with
   |true =>
    simp only[if_true]
    §J90 hu f l ((l + r) / 2) (by omega) (by omega) (by omega) h4 λi hi hk=>KeyOrd.klt_of_klt_of_kle hb (hu _ i hi hk)
   |false =>
    simp only[Ã4,if_false]
    §J90 hu f ((l + r) / 2 + 1) r (by omega) (by omega) (by omega) (λi hi=>Ú2 (hu i ((l + r) / 2) (by omega) (by omega)) hb) h5
÷T41:∀ (f:Nat) (p:Array Nat) (k:Nat),p.Perm p0->p.size=p0.size->Up O key p k->k + f<=p0.size ->
  (run (k70 O key) (kas_bin f p k)).Perm p0/\Up O key (run (k70 O key) (kas_bin f p k)) (k + f)
 |0,p,k,hp,_,hu,_=>⟨hp,hu⟩
 |f + 1,p,k,hp,hz,hu,hk=>by
  have unf:kas_bin (f + 1) p k=(Ä4 p k k 0 k).bind λl=>kas_bin f (bubble p k (k - l)) (k + 1):=rfl
  rw[unf,run_bind]
  have pl:=J90 (O:=O) (key:=key) hu k 0 k (by omega) (by omega) (by omega) (λi hi=>absurd hi (Ö1 _)) (λi h1 h2=>absurd h2 (by omega))
  generalize run (k70 O key) (Ä4 p k k 0 k)=l at pl ⊢
  ¶⟨l1,l2,l3⟩:=pl
  have hb:=p22 (O:=O) (key:=key) (p:=p) (k:=k) (d:=k - l) (by omega) (by omega)
  have hu':Up O key (bubble p k (k - l)) (k + 1):=λi j hij hj=>by
   rw[hb,hb]
   have el:k - (k - l)=l:=by omega
   rw[el]
   by_cases ei:i=l
   ·rw[if_pos ei]
    by_cases ej:j=l
    ·rw[if_pos ej];§Ç3 _
    ·rw[if_neg ej,if_pos (by omega)]
     §Ï9 (l3 _ (by omega) (by omega))
   ·rw[if_neg ei]
    by_cases hi:l < i/\i<=k
    ·rw[if_pos hi,if_neg (by omega),if_pos (by omega)]
     §hu _ _ (by omega) (by omega)
    ·rw[if_neg hi]
     by_cases ej:j=l
     ·rw[if_pos ej];§l2 _ (by omega)
     ·rw[if_neg ej]
      by_cases hj':l < j/\j<=k
      ·rw[if_pos hj'];§hu _ _ (by omega) (by omega)
      ·rw[if_neg hj'];§hu _ _ hij (by omega)
  have ih:=T41 (p0:=p0) f (bubble p k (k - l)) (k + 1) ((bubble_perm _ _ _).trans hp) ((bubble_size _ _ _).trans hz) hu' (by omega)
  §⟨ih.1,by have:=ih.2;rwa [show k + 1 + f=k + (f + 1) by omega] at this⟩
÷Z71(h1:1<=n):(run (k70 O key) (Ñ5 n)).Perm (î n).toArray/\Up O key (run (k70 O key) (Ñ5 n)) n:=by
 unfold Ñ5
 rw[run_bind]
 have c:=J51 (O:=O) (key:=key) (p:=(î n).toArray) h1 (by simp)
 generalize run (k70 O key) (ß2 n (î n).toArray)=r at c ⊢
 ¶⟨c1,c2,c3,c4,c5⟩:=c
 split
 ·have b:=T41 (O:=O) (key:=key) (n - max r.1 1) r.2 (max r.1 1) c1 c2 (by rw[Nat.max_eq_left c3];§c5) (by simp;omega)
  §⟨b.1,by have:=b.2;rwa [show max r.1 1 + (n - max r.1 1)=n by omega] at this⟩
 ·have:r.1=n:=by omega
  rw[this] at c5
  §⟨c1,c5⟩
end
def n90{α:Type}(n:Nat):KasT α->Prop
 |.ret _=>True
 |.ask i j k=>(i < n/\j < n)/\∀ b,n90 n (k b)
def R30{α:Type}(G:α->Prop):KasT α->Prop
 |.ret a=>G a
 |.ask _ _ k=>∀ b,R30 G (k b)
÷n90.bind{α β:Type}{n:Nat}{f:α->KasT β}{G:α->Prop}(hf:∀ a,G a->n90 n (f a)):∀ {t:KasT α},n90 n t->R30 G t->n90 n (t.bind f)
 |.ret a,_,g=>hf a g
 |.ask _ _ _,h,g=>⟨h.1,λb=>n90.bind hf (h.2 b) (g b)⟩
÷R30.bind{α β:Type}{f:α->KasT β}{G:α->Prop}{G':β->Prop}(hf:∀ a,G a->R30 G' (f a)):∀ {t:KasT α},R30 G t->R30 G' (t.bind f)
 |.ret a,g=>hf a g
 |.ask _ _ _,g=>λb=>R30.bind hf (g b)
def Low(n:Nat)(p:Array Nat):Prop:=∀ i,p.getD i 0 < n
÷t41(h1:1<=n)(hp:p.Perm q)(hq:∀ x∈q.toList,x < n):Low n p:=λi=>by
 by_cases hi:i < p.size
 ·have e:p.getD i 0=p[i]:=by simp[getD,hi]
  rw[e]
  §hq _ (hp.toList.mem_iff.mp (by simp))
 ·have e:p.getD i 0=0:=by simp[getD,hi]
  rw[e];§h1
structure Good(n:Nat)(q p:Array Nat):Prop where
 low:Low n p
 perm:p.Perm q
÷Good.rev(h1:1<=n)(hq:∀ x∈q.toList,x < n)(g:Good n q p)(i j:Nat):Good n q (È1 p i j) :=
 have e:=(mirror_perm p i j ((j - i) / 2)).trans g.perm
 ⟨t41 h1 e hq,e⟩
÷Good.bub(h1:1<=n)(hq:∀ x∈q.toList,x < n)(g:Good n q p)(i j:Nat):Good n q (bubble p i j) :=
 have e:=(bubble_perm p i j).trans g.perm
 ⟨t41 h1 e hq,e⟩
section
variable {n:Nat}{q:Array Nat}
÷K00(g:Low n p):∀ (f k:Nat),n90 n (È2 p f k)
 |0,_=>trivial
 |f + 1,k=>⟨⟨g _,g _⟩,λb=>by cases b with | true=>§trivial | false=>§K00 g f (k + 1)⟩
÷u20:∀ (f k:Nat),R30 (λ_=>True) (È2 p f k)
 |0,_=>trivial
 |f + 1,k=>λb=>by cases b with | true=>§trivial | false=>§u20 f (k + 1)
÷C30(h1:1<=n)(hq:∀ x∈q.toList,x < n):∀ (f:Nat) (p:Array Nat) (k c:Nat),Good n q p->n90 n (Ã2 f p k c)/\R30 (λr=>Good n q r.1) (Ã2 f p k c)
 |0,p,k,c,g=>⟨trivial,g⟩
 |f + 1,p,k,c,g=>by
  have a:=λp' k' c' g'=>(C30 h1 hq f p' k' c' g').1
  have r:=λp' k' c' g'=>(C30 h1 hq f p' k' c' g').2
  ¤⟨⟨⟨g.low _,g.low _⟩,λb=>?_⟩,λb=>?_⟩
  ·cases b with
   |true =>
    show n90 n (if c > 0 then Ã2 f (È1 p (k - (c + 1)) k) (k + 1) 0 else Ã2 f p (k + 1) 0)
    split
    ·§a _ _ _ (g.rev h1 hq _ _)
    ·§a _ _ _ g
   |false=>§⟨⟨g.low _,g.low _⟩,λd=>by cases d with | true=>§trivial | false=>§a _ _ _ g⟩
  ·cases b with
   |true =>
    show R30 _ (if c > 0 then Ã2 f (È1 p (k - (c + 1)) k) (k + 1) 0 else Ã2 f p (k + 1) 0)
    split
    ·§r _ _ _ (g.rev h1 hq _ _)
    ·§r _ _ _ g
   |false=>§λd=>by cases d with | true=>§g | false=>§r _ _ _ g
÷q20(h1:1<=n)(hq:∀ x∈q.toList,x < n)(g:Good n q p)(k m:Nat):n90 n (kas_tail3 k m p)/\R30 (λr=>Good n q r.2) (kas_tail3 k m p) :=
 have g':=g.rev h1 hq 0 k
 And.intro (n90.bind (f:=λm'=>Ò6 (m',È1 p 0 k)) (λ_ _=>Ê9) (K00 g'.low (m - k) k) (u20 (m - k) k)) (R30.bind (f:=λm'=>Ò6 (m',È1 p 0 k)) (G':=λr=>Good n q r.2) (λ_ _=>g') (u20 (m - k) k))
÷h20(h1:1<=n)(hq:∀ x∈q.toList,x < n)(g:Good n q p)(k m:Nat):n90 n (Ð5 k m p)/\R30 (λr=>Good n q r.2) (Ð5 k m p):=by
 have d:=C30 h1 hq (m - (k + 1)) p (k + 1) 0 g
 ¤⟨n90.bind (λr gr=>?_) d.1 d.2,R30.bind (λr gr=>?_) d.2⟩
 ·split
  ·§(q20 h1 hq (gr.rev h1 hq _ _) _ _).1
  ·§(q20 h1 hq gr _ _).1
 ·split
  ·§(q20 h1 hq (gr.rev h1 hq _ _) _ _).2
  ·§(q20 h1 hq gr _ _).2
÷m01(h1:1<=n)(hq:∀ x∈q.toList,x < n)(g:Good n q p)(m:Nat):n90 n (ß2 m p)/\R30 (λr=>Good n q r.2) (ß2 m p):=by
 ¤⟨n90.bind (λk _=>?_) (K00 g.low _ _) (u20 _ _),R30.bind (λk _=>?_) (u20 _ _)⟩
 ·split
  ·§trivial
  ·split
   ·§⟨⟨g.low _,g.low _⟩,λb=>by cases b with | true=>§trivial | false=>§(h20 h1 hq (g.rev h1 hq _ _) _ _).1⟩
   ·§(h20 h1 hq g _ _).1
 ·split
  ·§g
  ·split
   ·§λb=>by cases b with | true=>§g | false=>§(h20 h1 hq (g.rev h1 hq _ _) _ _).2
   ·§(h20 h1 hq g _ _).2
÷h80(g:Low n p)(k:Nat):∀ (f l r:Nat),n90 n (Ä4 p k f l r)/\R30 (λ_=>True) (Ä4 p k f l r)
 |0,_,_=>⟨trivial,trivial⟩
 |f + 1,l,r=>by
  have e:Ä4 p k (f + 1) l r=(if l ≥ r then .ret l else .ask (p.getD k 0) (p.getD ((l + r) / 2) 0) λc=>if c=true then Ä4 p k f l ((l + r) / 2) else Ä4 p k f ((l + r) / 2 + 1) r):=rfl
  rw[e]
  split
  ·§⟨trivial,trivial⟩
  ·¤⟨⟨⟨g _,g _⟩,λb=>?_⟩,λb=>?_⟩
   ·cases b with
    |true=>§(h80 g k f _ _).1
    |false=>§(h80 g k f _ _).1
   ·cases b with
    |true=>§(h80 g k f _ _).2
    |false=>§(h80 g k f _ _).2
÷e71(h1:1<=n)(hq:∀ x∈q.toList,x < n):∀ (f:Nat) (p:Array Nat) (k:Nat),Good n q p->n90 n (kas_bin f p k)
 |0,_,_,_=>trivial
 |f + 1,p,k,g=>n90.bind (λl _=>e71 h1 hq f _ _ (g.bub h1 hq _ _)) (h80 g.low k k 0 k).1 (h80 g.low k k 0 k).2
÷t51(h1:1<=n):n90 n (Ñ5 n):=by
 have hq:∀ x∈((î n).toArray).toList,x < n:=λx hx=>by simpa using hx
 have g:Good n (î n).toArray (î n).toArray:=⟨t41 h1 (Ì6 _) hq,Ì6 _⟩
 have c:=m01 h1 hq g n
 ¤n90.bind (λr gr=>?_) c.1 c.2
 split
 ·§e71 h1 hq _ _ _ gr
 ·§trivial
end
÷R40{α:Type}{n:Nat}{cmp:Nat->Nat->Bool}{ask:Nat->Nat->(Bool->Æ->Prop)->Æ->Prop}{s:Æ}(h:∀ i j (C:Bool->Æ->Prop),i < n->j < n->C (cmp i j) s->ask i j C s){Q:α->Æ->Prop} :
  ∀ (t:KasT α),n90 n t->Q (run cmp t) s->t.kasWp ask Q s
 |.ret _,_,q=>q
 |.ask i j k,a,q=>h i j _ a.1.1 a.1.2 (R40 h (k (cmp i j)) (a.2 _) q)
def h30:List Int->List Int->Bool
 |[],[]=>false
 |[],_::_=>true
 |_::_,[]=>false
 |x::r,y::q=>if x=y then h30 r q else decide (x < y)
÷s40:∀ a,h30 a a=false
 |[]=>rfl
 |x::r=>by show(if x=x then h30 r r else _)=_;rw[if_pos rfl];§s40 r
÷q30:∀ a b c,h30 a b=true->h30 b c=true->h30 a c=true
 |[],[],_,h,_=>by cases h
 |[],_::_,[],_,h=>by cases h
 |[],_::_,_::_,_,_=>rfl
 |_::_,[],_,h,_=>by cases h
 |_::_,_::_,[],_,h=>by cases h
 |x::a,y::b,z::c,h1,h2=>by
  have h1:(if x=y then h30 a b else decide (x < y))=true:=h1
  have h2:(if y=z then h30 b c else decide (y < z))=true:=h2
  show(if x=z then h30 a c else decide (x < z))=true
  by_cases e1:x=y
  ·rw[if_pos e1] at h1
   by_cases e2:y=z
   ·rw[if_pos e2] at h2
    rw[if_pos (e1.trans e2)]
    §q30 a b c h1 h2
   ·rw[if_neg e2] at h2
    rw[if_neg (by omega)]
    rw[e1];§h2
  ·rw[if_neg e1] at h1
   have l1:x < y:=by simpa using h1
   by_cases e2:y=z
   ·rw[if_neg (by omega)];§decide_eq_true (by omega)
   ·rw[if_neg e2] at h2
    have l2:y < z:=by simpa using h2
    rw[if_neg (by omega)];§decide_eq_true (by omega)
÷q40:∀ a b,h30 a b=false->h30 b a=false->a=b
 |[],[],_,_=>rfl
 |[],_::_,h,_=>by cases h
 |_::_,[],_,h=>by cases h
 |x::a,y::b,h1,h2=>by
  have h1:(if x=y then h30 a b else decide (x < y))=false:=h1
  have h2:(if y=x then h30 b a else decide (y < x))=false:=h2
  by_cases e:x=y
  ·subst e
   rw[if_pos rfl] at h1 h2
   rw[q40 a b h1 h2]
  ·rw[if_neg e] at h1
   rw[if_neg (Â3 e)] at h2
   have l1:¬ x < y:=by simpa using h1
   have l2:¬ y < x:=by simpa using h2
   omega
÷e81(a b c:List Int)(h:h30 a c=true):h30 a b=true∨h30 b c=true:=by
 cases hab:h30 a b with
 |true=>§.inl rfl
 |false =>
  right
  cases hba:h30 b a with
  |true=>§q30 b a c hba h
  |false=>rw[← q40 a b hab hba];§h
def Z81:KeyOrd:=⟨List Int,h30,s40,q30,e81,q40⟩
section
variable {P:ß}{w:ç}{A:ø}{E:Ä->Æ->Prop}{s:Æ}
def sortedBy(ks:List (List Int))(p:List Nat):Prop:=p.Perm (î ks.length)/\(p.map λi=>ks.getD i []).Pairwise λx y=>h30 y x=false
÷range_getD(d:α):∀ (l:List α),(î l.length).map (λi=>l.getD i d)=l:=λl=>by
 ¤ext_getElem (by simp) λi h1 h2=>?_
 simp at h1
 simp[h1]
def F42(P:ß)(w:ç)(A:ø)(s:Æ)(vs:List Ä)(Pr:List Nat->Prop)(kd:Ì9):Prop:=∃ p:List Nat,Pr p/\∀ (E:Ä->Æ->Prop) (Q:Unit × Â9->Æ->Prop),(∀ st',failedOf st'=none->arrOf st'=(p.toArray).map (ö (vs.toArray.zip vs.toArray))->Q ((),st') s)->Ï (Ô P w) A (sortRuns'.run (Ì4 kd (vs.toArray.zip vs.toArray) #[] 7 none)) Q E s
structure k82(P:Program)(w:World)(A:Around)(s:Shared)(vs:List Value)(Pr:List Nat->Prop)(kd:SortKind):Prop where
 len:vs.length<=1000
 few:vs.length < 2->Pr (range vs.length)
 all:∀ p,Pr p->p.length=vs.length
 kind:2<=vs.length->∀ (E:Value->Shared->Prop) (Q:SortKind->Shared->Prop),Q kd s->wpAny (model P w) A (keyKind' vs.toArray) Q E s
 run:2<=vs.length->F42 P w A s vs Pr kd
÷p32(hl:n=ks.length)(h2:n < 2):sortedBy ks (î n):=by
 subst hl
 ¤⟨.refl _,?_⟩
 rw[range_getD]
 match ks,h2 with
 |[],_=>§.nil
 |[_],_=>simp
 |_::_::_,q=>simp at q;omega
÷Z91{vs:List Ä}{ks:List (List Int)}{kd:Ì9}(hlen:vs.length=ks.length)(h64:vs.length < 64)(ask:∀ i j,i < vs.length->j < vs.length->∀ (E:Ä->Æ->Prop) (C:Bool->Æ->Prop),C (h30 (ks.getD i []) (ks.getD j [])) s->Ï (Ô P w) A (keyLt' kd (vs.getD i â) (vs.getD j â)) C E s)(h2':2<=vs.length):F42 P w A s vs (sortedBy ks) kd:=by
 have so:=Z71 (O:=Z81) (key:=λi=>ks.getD i []) (n:=vs.length) (by omega)
 ¤⟨(run (k70 Z81 λi=>ks.getD i []) (Ñ5 vs.length)).toList,?_,λE Q q=>?_⟩
 ·generalize run (k70 Z81 λi=>ks.getD i []) (Ñ5 vs.length)=p at so
  ¤⟨?_,?_⟩
  ·have:=so.1.toList;rw[hlen] at this;simpa using this
  ·rw[List.pairwise_iff_getElem]
   intro i j hi hj hij
   have hsz:p.size=vs.length:=by have:=so.1.size_eq;simpa using this
   have hi':i < p.size:=by simpa using hi
   have hj':j < p.size:=by simpa using hj
   have u:=so.2 i j (É6 hij) (by omega)
   have g:∀ k,k < p.size->kk Z81 (λi=>ks.getD i []) p k=ks.getD (p.toList.getD k 0) []:=λk hk=>by show ks.getD (p.getD k 0) []=_;rw[Î3,Ø (l:=p.toList),õ]
   have u':h30 (ks.getD (p.toList.getD j 0) []) (ks.getD (p.toList.getD i 0) [])=false:=by
    have:=u;unfold KeyOrd.kle at this;rw[g i hi',g j hj'] at this;§this
   simpa [hi',hj'] using u'
 ·¤Â1 (kat_run (s:=s) (Q:=λst' s'=>s'=s/\failedOf st'=none/\arrOf st'=(run (k70 Z81 λi=>ks.getD i []) (Ñ5 vs.length)).map (ö (vs.toArray.zip vs.toArray)))
   (G:=λp s'=>s'=s/\p=run (k70 Z81 λi=>ks.getD i []) (Ñ5 vs.length)) rfl h2' h64 (λp st' s' a1 a2 a3 a4=>⟨a4.1,a3,by rw[a2,a4.2]⟩)
   (R40 (n:=vs.length) (cmp:=k70 Z81 λi=>ks.getD i []) (λi j C hi hj hC=>ask i j hi hj _ C hC) (Ñ5 vs.length) (t51 (by omega)) ⟨rfl,rfl⟩)) ?_ λ_ _ e=>e
  rintro ⟨⟨⟩,st'⟩ s' ⟨hs',hf,har⟩
  subst hs'
  §q st' hf har
def t61(h h':ì):Prop:=∀ b o,h.get? b=some o->o.cls=.type "tuple"->h'.get? b=some o
÷e91{a:Ç}{vs:List Ä}{Pr:List Nat->Prop}{kd:Ì9}{n:Nat}{R:PySem.Fin->Æ->Prop}(ho:s.heap.get? a=some (Ã1 "list" vs.toArray n))(hk:∀ h',t61 s.heap h'->k82 P w A { s with heap:=h' } vs Pr kd)
  (h:∀ (p:List Nat) (h':ì) (c:Nat),Pr p->(∀ b o,b≠a->s.heap.get? b=some o->h'.get? b=some o)->h'.get? a=some (Ã1 "list" (p.map λi=>vs.getD i â).toArray c)->R (.done (.ret .none)) { s with heap:=h' }) :
  Ï (Ô P w) A (ÿ.«list.sort» ⟨[.ref a],[]⟩) R E s:=by
 have ha:a < s.heap.objs.size:=à ho
 have h64:=(hk s.heap λ_ _ e _=>e).len
 have s1:=Æ0 s.heap a (À2 λ_=>(#[]:Array Ä))
 obtain⟨e1,ho1⟩:∃ e1,(s.heap.update a (À2 λ_=>(#[]:Array Ä))).get? a=some (Ã1 "list" #[] e1):=⟨_,à4 ho λ_=>#[]⟩
 have kp:∀ b o,b≠a->s.heap.get? b=some o->(((s.heap.update a (À2 λ_=>(#[]:Array Ä))).push (Ã1 "tuple" vs.toArray 0)).push (Ã1 "list" #[] 0)).get? b=some o:=λb o hb e=>Ã _ (Ã _ ((s1.2 b hb).trans e))
 have ho6:(((s.heap.update a (À2 λ_=>(#[]:Array Ä))).push (Ã1 "tuple" vs.toArray 0)).push (Ã1 "list" #[] 0)).get? a=some (Ã1 "list" #[] e1):=Ã _ (Ã _ ho1)
 have hk6:=hk (((s.heap.update a (À2 λ_=>(#[]:Array Ä))).push (Ã1 "tuple" vs.toArray 0)).push (Ã1 "list" #[] 0)) (λb o e hc=>kp b o (λq=>by subst q;rw[ho] at e;cases e;have hc':Á7 "list"=Á7 "tuple":=hc;injection hc' with hc';§absurd hc' (by decide)) e)
 rw[list_sort_plain];¤À (Ð4 ho rfl (À (Û7 ho rfl ?_ (by rw[Ó,Á3];omega) (Æ6 _))))
 ¤À (seqEpoch_at ho1 rfl (À (wpAny_newTuple ?_ (by show vs.length<=_;rw[Á3];omega))));¤À (Û6 (À8 ?_) (Æ6 _))
 show Ï (Ô P w) A _ R E { s with heap:=((s.heap.update a (À2 λ_=>(#[]:Array Ä))).push (Ã1 "tuple" vs.toArray 0)).push (Ã1 "list" #[] 0) }
 generalize hH:((s.heap.update a (À2 λ_=>(#[]:Array Ä))).push (Ã1 "tuple" vs.toArray 0)).push (Ã1 "list" #[] 0)=h6 at kp ho6 hk6 ⊢
 have fin:∀ (p:List Nat) (out:Array Ä),out=(p.map λi=>vs.getD i â).toArray->Pr p->Ï (Ô P w) A (do
   let touched:=(← seqEpoch a) != e1
   ÿ.List.listUpdate (.ref a) λ_=>out
   if touched then rule "list.sort.modified";raiseError "ValueError" "list modified during sort"
   ret .none) R E { s with heap:=h6 }:=λp out eo hp=>by
  subst eo
  have hsz:(p.map λi=>vs.getD i â).toArray.size=vs.length:=by rw[Ó,É,(hk s.heap λ_ _ e _=>e).all p hp]
  have s2:=Æ0 h6 a (À2 λ_=>(p.map λi=>vs.getD i â).toArray)
  ¤À (seqEpoch_at ho6 rfl (À (Û7 ho6 rfl ?_ (Æ6 _) (Ñ (Ú8 hsz) (by rw[Á3];omega)))))
  simp only[bne_self_eq_false,Ã4,if_false]
  §Å (h p _ _ hp (λb o hb e=>(s2.2 b hb).trans (kp b o hb e)) (à4 ho6 λ_=>(p.map λi=>vs.getD i â).toArray))
 dsimp only
 by_cases h2:vs.toArray.size < 2
 ·rw[if_pos h2,if_pos h2];¤À (Å ?_);rw[StateT.run_pure];¤À (Å ?_);dsimp only
  ¤fin (î vs.length) _ ?_ ((hk s.heap λ_ _ e _=>e).few (by simpa using h2))
  rw[range_getD];apply Û2.mp;rw[Array.toList_map];show List.map _ (vs.toArray.zip vs.toArray).toList=vs;rw[ksk_zip];§List.map_snd_zip (Í _)
 ·rw[if_neg h2,if_neg h2]
  have h2':2<=vs.length:=by simpa using h2
  ¤À (hk6.kind h2' _ _ ?_)
  ¶⟨p,hp,hr⟩:=hk6.run h2'
  ¤À (hr _ _ λst' hf har=>?_)
  dsimp only
  rw[hf]
  §fin p _ (kat_snds rfl har) hp
end
end MySort
namespace TS
open PySem PySem.W PyProof.Rows
structure Tw where
 a:Array Nat
 pending:Array (Nat × Nat × Nat)
 minGallop:Nat
abbrev TM:=StateT Tw Option
section
variable (n:Nat) (cmp:Nat->Nat->Bool)
def ltT(x y:Nat):TM Bool:=if x < n/\y < n then pure (cmp x y) else λ_=>none
def t71(arr:Array Nat)(i:Nat):TM Nat:=match arr.toList[i]? with
 |some p=>pure p
 |none=>λ_=>none
def a02(i j:Nat):TM Bool:=do
 let a:=(← get).a
 ltT n cmp (← t71 a i) (← t71 a j)
def O42(i j:Nat):TM Unit:=modify λs=>{ s with a:=mirror s.a i j ((j - i) / 2) }
def mvL(a:Array Nat)(src dst:Nat):Array Nat:=⟨a.toList.take dst++((a.toList.drop src).take 1++((a.toList.take src).drop dst++a.toList.drop (src + 1)))⟩
÷p42(h:src < a.size)(h2:dst<=src):mvL a src dst=bubble a src (src - dst):=by
 apply Array.ext_getElem?
 intro k
 rw[getElem?_bubble h (src - dst) (by omega) k,show src - (src - dst)=dst by omega]
 have hl:src < a.toList.length:=h
 rw[← õ,← õ,← õ,← õ]
 show(a.toList.take dst++((a.toList.drop src).take 1++((a.toList.take src).drop dst++a.toList.drop (src + 1))))[k]?=_
 generalize a.toList=l at hl
 rw[Õ4,Õ4,Õ4,Æ7,Æ7,Í6,Í6,Æ7,show min dst l.length=dst by omega,show min 1 (l.length - src)=1 by omega,show min src l.length - dst=src - dst by omega,Ø2,Ø2,Ø3,Ø3,Ø3,Ø2]
 by_cases c1:k < dst
 ·rw[if_pos c1,if_pos c1,if_neg (by omega),if_neg (by omega)]
 ·rw[if_neg c1]
  by_cases c2:k=dst
  ·rw[if_pos (by omega),if_pos (by omega),if_pos c2,show src + (k - dst)=src by omega]
  ·rw[if_neg (by omega),if_neg c2]
   by_cases c3:k<=src
   ·rw[if_pos (by omega),if_pos (by omega),if_pos (by omega),show dst + (k - dst - 1)=k - 1 by omega]
   ·rw[if_neg (by omega),if_neg (by omega),show src + 1 + (k - dst - 1 - (src - dst))=k by omega]
def a12(src dst:Nat):TM Unit:=λt=>if src < t.a.size/\dst<=src then some ((),{ t with a:=mvL t.a src dst }) else none
end
section
variable {prog:ß}{w:ç}{A:ø}{E:Ä->Æ->Prop}{s:Æ}{κ:Ì9}{it:Array Keyed}{n:Nat}{cmp:Nat->Nat->Bool}
def co(κ:Ì9)(it:Array Keyed)(t:Tw):SortSt:=Ì4 κ (t.a.map (ö it)) t.pending t.minGallop none
def Sim(prog:ß)(w:ç)(A:ø)(E:Ä->Æ->Prop)(s:Æ)(κ:Ì9)(it:Array Keyed){α β:Type}(rel:β->α)(m:StateT Â9 Sem α)(f:TM β):Prop :=
 ∀ (t:Tw) (b:β) (t':Tw),f t=some (b,t')->∀ Q:α->Â9->Æ->Prop,Q (rel b) (co κ it t') s->kasC (Ô prog w) A E m Q (co κ it t) s
local macro_rules | `(tactic| trivial)=>`(tactic| skip)
section
variable {α β α' β':Type}{r:β->α}{r':β'->α'}
÷A50(b:β)(e:a=r b):Sim prog w A E s κ it r (pure a) (pure b):=λt b' t' h Q q=>by
 cases h
 subst e
 §kasC_pure q
÷l60(h:Sim prog w A E s κ it r m f)(hk:∀ b,Sim prog w A E s κ it r' (k (r b)) (g b)):Sim prog w A E s κ it r' (m >>= k) (f >>= g):=λt b t' e Q q=>by
 have e:(f t).bind (λx=>g x.1 x.2)=some (b,t'):=e
 ¶⟨⟨b1,t1⟩,e1,e2⟩:=Î.mp e
 §kasC_bind (h t b1 t1 e1 _ (hk b1 t1 b t' e2 Q q))
÷Y50:Sim prog w A E s κ it (co κ it) (get:StateT Â9 Sem Â9) (get:TM Tw):=λt b t' e Q q=>by
 cases e
 §kasC_get q
÷q50(h:∀ t,F (co κ it t)=co κ it (G t)):Sim prog w A E s κ it (λu:Unit=>u) (modify F:StateT Â9 Sem Unit) (modify G:TM Unit):=λt b t' e Q q=>by
 cases e
 ¤kasC_modify ?_
 rw[h t]
 §q
÷J61:Sim prog w A E s κ it (λu:Unit=>u) (liftM (rule x):StateT Â9 Sem Unit) (pure ():TM Unit):=λt b t' e Q q=>by
 cases e
 §kasC_lift (Ê1 q)
÷a22[Decidable c](h1:c->Sim prog w A E s κ it r m f)(h2:¬ c->Sim prog w A E s κ it r m' f'):Sim prog w A E s κ it r (if c then m else m') (if c then f else f'):=by
 split
 ·§h1 (by assumption)
 ·§h2 (by assumption)
def z50(r:β->α):ForInStep β->ForInStep α
 |.done b=>.done (r b)
 |.yield b=>.yield (r b)
÷f01(h:∀ x b,Sim prog w A E s κ it (z50 r) (body x (r b)) (body' x b)):∀ (l:List Nat) (b:β),Sim prog w A E s κ it r (forIn l (r b) body) (forIn l b body')
 |[],b=>by
  rw[Ö6,Ö6]
  §A50 b rfl
 |x::l,b=>by
  rw[Í2,Í2]
  ¤l60 (h x b) λst=>?_
  cases st with
  |done b'=>§A50 b' rfl
  |yield b'=>§f01 h l b'
end
def Ora(prog:ß)(w:ç)(A:ø)(s:Æ)(κ:Ì9)(it:Array Keyed)(n:Nat)(cmp:Nat->Nat->Bool):Prop:=∀ i j (C:Bool->Æ->Prop),i < n->j < n->C (cmp i j) s->kas_cmp prog w A κ it i j C s
÷T51(O:Ora prog w A s κ it n cmp)(x y:Nat):Sim prog w A E s κ it (λo:Bool=>some o) (lt' (ö it x) (ö it y)) (ltT n cmp x y):=λt b t' e Q q=>by
 unfold ltT at e
 split at e
 ·rename_i h
  cases e
  rw[lt'_eq]
  ¤kasC_bind (kasC_get ?_)
  §kasC_bind (kasC_lift (Ë4 (Â1 (O x y (λc s'=>s'=s/\c=cmp x y) h.1 h.2 ⟨rfl,rfl⟩) (λc s' hc=>by ¶⟨rfl,rfl⟩:=hc;§kasC_pure q) λ_ _ hF=>hF.elim)))
 ·cases e
÷K10(p:Array Nat)(i:Nat):Sim prog w A E s κ it (ö it) (elem' (p.map (ö it)) i) (t71 p i):=by
 rw[elem'_eq]
 unfold t71
 rw[Array.getElem?_map,õ]
 cases p[i]? with
 |none=>§λt b t' e=>by cases e
 |some x=>§A50 x rfl
÷J71(O:Ora prog w A s κ it n cmp)(i j:Nat):Sim prog w A E s κ it (λo:Bool=>some o) (ltAt' i j) (a02 n cmp i j):=by
 rw[ltAt'_eq]
 unfold a02
 ¤l60 Y50 λt=>?_
 §l60 (K10 t.a i) λx=>l60 (K10 t.a j) λy=>T51 O x y
÷a32(i j:Nat):Sim prog w A E s κ it (λu:Unit=>u) (reverseSlice' i j) (O42 i j):=by
 rw[reverseSlice'_eq]
 ¤q50 λt=>?_
 show Ì4 κ (mirror (t.a.map (ö it)) i j ((j - i) / 2)) t.pending t.minGallop none=Ì4 κ ((mirror t.a i j ((j - i) / 2)).map (ö it)) t.pending t.minGallop none
 rw[show mirror (t.a.map (ö it)) i j ((j - i) / 2)=(mirror t.a i j ((j - i) / 2)).map (ö it) from kas_swaps_map (ö it) (λk=>i + k) (λk=>j - 1 - k) _ t.a]
÷J81(k l:Nat):Sim prog w A E s κ it (λu:Unit=>u) (moveDown' k l) (a12 k l):=λt b t' e Q q=>by
 rw[moveDown'_eq]
 unfold a12 at e
 split at e
 ·rename_i h
  cases e
  ¤kasC_modify ?_
  have e:bubble (t.a.map (ö it)) k (k - l)=(mvL t.a k l).map (ö it):=by
   rw[p42 h.1 h.2]
   §kas_swaps_map (ö it) (λi=>k - i) (λi=>k - i - 1) _ t.a
  show Q () (Ì4 κ (bubble (t.a.map (ö it)) k (k - l)) t.pending t.minGallop none) s
  rw[e]
  §q
 ·cases e
def u30{β:Type}(f:Nat->β->TM (ForInStep β)):Nat->Nat->β->TM β
 |0,_,b=>pure b
 |n + 1,i,b=>f i b >>= λx=>match x with
  |.done b=>pure b
  |.yield b=>u30 f n (i + 1) b
÷f11(f:Nat->β->TM (ForInStep β)):∀ (n i:Nat) (b:β),u30 f n i b=forIn (Á5 i n 1) b f
 |0,_,_=>by rw[List.range'_zero,Ö6];rfl
 |n + 1,i,b=>by
  rw[û,Í2]
  show(f i b >>= λx=>_)=_
  congr 1
  funext x
  cases x with
  |done b=>rfl
  |yield b=>§f11 f n (i + 1) b
÷K20{α β:Type}{r:β->α}{a b:Nat}{c:β}{body:Nat->α->StateT Â9 Sem (ForInStep α)}{body':Nat->β->TM (ForInStep β)}(h:∀ x b,Sim prog w A E s κ it (z50 r) (body x (r b)) (body' x b)):Sim prog w A E s κ it r (forIn [a:b] (r c) body) (u30 body' (b - a) a c):=by
 rw[Std.Legacy.Range.forIn_eq_forIn_range',f11]
 have e:[a:b].size=b - a:=by simp[Std.Legacy.Range.size]
 show Sim prog w A E s κ it r (forIn (Á5 a [a:b].size 1) (r c) body) _
 rw[e]
 §f01 h _ c
def o40(prog:ß)(w:ç)(A:ø)(E:Ä->Æ->Prop)(s:Æ)(κ:Ì9)(it:Array Keyed){α β:Type}(r:β->α)(m:StateT Â9 Sem α):Type:={f:TM β // Sim prog w A E s κ it r m f}
section
variable {α β α' β':Type}{r:β->α}{r':β'->α'}
def b50{a:α}(b:β)(e:a=r b):o40 prog w A E s κ it r (pure a):=⟨pure b,A50 b e⟩
def b30{m:StateT Â9 Sem α}{k:α->StateT Â9 Sem α'}(h:o40 prog w A E s κ it r m)(hk:∀ b,o40 prog w A E s κ it r' (k (r b))):o40 prog w A E s κ it r' (m >>= k):=⟨h.1 >>= λb=>(hk b).1,l60 h.2 λb=>(hk b).2⟩
def l70{c:Prop}[Decidable c]{m m':StateT Â9 Sem α}(h1:o40 prog w A E s κ it r m)(h2:o40 prog w A E s κ it r m'):o40 prog w A E s κ it r (if c then m else m'):=⟨if c then h1.1 else h2.1,a22 (λ_=>h1.2) λ_=>h2.2⟩
def r80{m:StateT Â9 Sem α}:o40 prog w A E s κ it r m:=⟨λ_=>none,λ_ _ _ e=>by cases e⟩
def J91{m m':StateT Â9 Sem α}(e:m=m')(h:o40 prog w A E s κ it r m'):o40 prog w A E s κ it r m:=⟨h.1,by rw[e];§h.2⟩
def r90{a b:Nat}(c:β){body:Nat->α->StateT Â9 Sem (ForInStep α)}(h:∀ x b,o40 prog w A E s κ it (z50 r) (body x (r b))):o40 prog w A E s κ it r (forIn [a:b] (r c) body):=⟨u30 (λx b=>(h x b).1) (b - a) a c,K20 λx b=>(h x b).2⟩
end
def m21(O:Ora prog w A s κ it n cmp)(i j:Nat):o40 prog w A E s κ it (λo:Bool=>some o) (ltAt' i j):=⟨a02 n cmp i j,J71 O i j⟩
def B62(i j:Nat):o40 prog w A E s κ it (λu:Unit=>u) (reverseSlice' i j):=⟨O42 i j,a32 i j⟩
def F52(i j:Nat):o40 prog w A E s κ it (λu:Unit=>u) (moveDown' i j):=⟨a12 i j,J81 i j⟩
def K01(x:String):o40 prog w A E s κ it (λu:Unit=>u) (liftM (rule x):StateT Â9 Sem Unit):=⟨pure (),J61⟩
def S62(O:Ora prog w A s κ it n cmp)(lo n' ok:Nat):o40 prog w A E s κ it (λ_:Unit=>true) (binarySort' lo n' ok):=by
 ¤J91 (binarySort'_eq lo n' ok) ?_
 ¤b30 (r:=λ_:Unit=>((none,()):Option Bool × Unit)) (r90 () λk _=>?_) λ_=>b50 () rfl
 ¤b30 (r:=λx:Nat × Nat=>((none,x):Option Bool × Nat × Nat)) (r90 (0,k) λ_ x=>?_) λx=>b30 (F52 _ _) λ_=>b50 (á ()) rfl
 §l70 (b50 (ä x) rfl) (b30 (m21 O _ _) λo=>l70 (b50 (á (x.1,_)) rfl) (b50 (á (_,x.2)) rfl))
def p52(O:Ora prog w A s κ it n cmp)(lo z:Nat):o40 prog w A E s κ it (λm:Nat=>some m) (countRun' lo z):=by
 ¤J91 (countRun'_eq lo z) ?_
 ¤b30 (r:=λm:Nat=>((none,m):Option (Option Nat) × Nat)) (r90 1 λ_ m=>b30 (m21 O _ _) λ_=>l70 (b50 (ä m) rfl) (b50 (á (m + 1)) rfl)) λm=>?_
 ¤l70 (b50 m rfl) (l70 (b30 (m21 O _ _) λ_=>l70 (b50 m rfl) (b30 (B62 _ _) λ_=>?_)) ?_)
 all_goals
  ¤b30 (K01 _) λ_=>b30 (r:=λm:Nat=>((none,m,0):Option (Option Nat) × Nat × Nat)) (r90 (m + 1) λ_ m=>b30 (m21 O _ _) λ_=>l70 (l70 r80 (b50 (á (m + 1)) rfl)) (b30 (m21 O _ _) λ_=>l70 (b50 (ä m) rfl) r80)) λm=>?_
  §l70 r80 (b30 (B62 _ _) λ_=>b30 (r:=λm:Nat=>((none,m):Option (Option Nat) × Nat)) (r90 m λ_ m=>b30 (m21 O _ _) λ_=>l70 (b50 (ä m) rfl) (b50 (á (m + 1)) rfl)) λm=>b50 m rfl)
def tLt(O:Ora prog w A s κ it n cmp)(x y:Nat):o40 prog w A E s κ it (λo:Bool=>some o) (lt' (ö it x) (ö it y)):=⟨ltT n cmp x y,T51 O x y⟩
def s50(p:Array Nat)(i:Nat):o40 prog w A E s κ it (ö it) (elem' (p.map (ö it)) i):=⟨t71 p i,K10 p i⟩
def t81:Bool->Keyed->Array Keyed->Nat->Nat->Nat->StateT SortSt Sem (Option Nat):=sortPriv% PySem.Builtin.gallop
def Y60(O:Ora prog w A s κ it n cmp)(left:Bool)(y:Nat)(p:Array Nat)(base z hint:Nat):o40 prog w A E s κ it (λm:Nat=>some m) (t81 left (ö it y) (p.map (ö it)) base z hint):=by
 ¤b30 (r:=λb:Bool=>some b) (b30 (s50 p (base + hint)) λx=>l70 (tLt O x y) (b30 (tLt O y x) λb=>b50 (!b) rfl)) λb=>?_
 ¤l70 ?_ ?_ <;> ¤b30 (r:=λx:Nat × Nat=>((none,x):Option (Option Nat) × Nat × Nat)) (r90 (0,1) λ_ x=>l70 (b50 (ä x) rfl) (b30 (r:=λb:Bool=>some b) (b30 (s50 p _) λx=>l70 (tLt O x y) (b30 (tLt O y x) λb=>b50 (!b) rfl)) λb=>l70 (b50 (ä x) rfl) (b50 (á (x.2,2 * x.2 + 1)) rfl))) λx=>?_
 ·§b30 (r:=λx:Nat × Nat=>((none,x):Option (Option Nat) × Nat × Nat)) (r90 (hint + x.1 + 1,hint + min x.2 (z - hint)) λ_ x=>l70 (b50 (ä x) rfl) (b30 (r:=λb:Bool=>some b) (b30 (s50 p _) λx=>l70 (tLt O x y) (b30 (tLt O y x) λb=>b50 (!b) rfl)) λb=>l70 (b50 (á (_,x.2)) rfl) (b50 (á (x.1,_)) rfl))) λx=>b50 x.2 rfl
 ·§b30 (r:=λx:Nat × Nat=>((none,x):Option (Option Nat) × Nat × Nat)) (r90 (hint + 1 - min x.2 (hint + 1),hint - x.1) λ_ x=>l70 (b50 (ä x) rfl) (b30 (r:=λb:Bool=>some b) (b30 (s50 p _) λx=>l70 (tLt O x y) (b30 (tLt O y x) λb=>b50 (!b) rfl)) λb=>l70 (b50 (á (_,x.2)) rfl) (b50 (á (x.1,_)) rfl))) λx=>b50 x.2 rfl
def Y70{α β:Type}{r:β->α}{a b:Nat}{i:α}(b':Nat)(eb:b=b')(c:β)(ec:i=r c){body:Nat->α->StateT Â9 Sem (ForInStep α)}(h:∀ x b,o40 prog w A E s κ it (z50 r) (body x (r b))):o40 prog w A E s κ it r (forIn [a:b] i body):=⟨u30 (λx b=>(h x b).1) (b' - a) a c,by subst eb;subst ec;§K20 λx b=>(h x b).2⟩
def tIf{α β:Type}{r:β->α}{c:Prop}[Decidable c]{m m':StateT Â9 Sem α}(c':Bool)(e:c↔c'=true)(h1:o40 prog w A E s κ it r m)(h2:o40 prog w A E s κ it r m'):o40 prog w A E s κ it r (if c then m else m'):=⟨match c' with
 |true=>h1.1
 |false=>h2.1,by
 cases c' with
 |true=>rw[if_pos (e.mpr rfl)];§h1.2
 |false=>rw[if_neg λh=>by cases e.mp h];§h2.2⟩
def a42:o40 prog w A E s κ it (co κ it) (get:StateT Â9 Sem Â9):=⟨get,Y50⟩
def F62:Nat->StateT SortSt Sem Unit:=sortPriv% PySem.Builtin.setMinGallop
def p62(g:Nat):o40 prog w A E s κ it (λu:Unit=>u) (F62 g):=⟨modify λt=>{ t with minGallop:=g },q50 λ_=>rfl⟩
def O52(O:Ora prog w A s κ it n cmp)(left:Bool)(y:Nat)(p:Array Nat)(base z z' hint:Nat)(e:z=z'):o40 prog w A E s κ it (λm:Nat=>some m) (t81 left (ö it y) (p.map (ö it)) base z hint):=J91 (by rw[e]) (Y60 O left y p base z' hint)
def K11:Array Keyed->Array Keyed->StateT SortSt Sem (Array Keyed):=sortPriv% PySem.Builtin.mergeLo
def rs{γ:Type}(it:Array Keyed)(x:Option (Array Nat) × Array Nat × γ):Option (Array Keyed) × Array Keyed × γ:=(x.1.map (Array.map (ö it)),x.2.1.map (ö it),x.2.2)
÷sz(it:Array Keyed)(i:Nat)(p:Array Nat):(i == (p.map (ö it)).size)=true↔(i == p.size)=true:=by rw[size_map]
local macro_rules
 | `(tactic| ac_rfl)=>`(tactic| simp only[rs,z50,map_some,Option.map_none,Û3,Array.map_push,Ñ4,size_map])
 | `(tactic| rwa [$O:term,$p:term,$q:term,$out:term,$ia:term,$ib:term,$mg:term,$ac:term,$bc:term])=>`(tactic| §b30 (s50 $p $ia) λy=>tIf _ (sz _ _ _) (b50 (ä (some (push $out y++Æ8 $q $ib++Æ8 $p ($ia + 1)),push $out y,$ia + 1,$ib,$mg,$ac,$bc)) (by ac_rfl)) (l70 (b50 (ä (none,push $out y,$ia + 1,$ib,$mg,$ac,$bc)) (by ac_rfl)) (b50 (á (none,push $out y,$ia + 1,$ib,$mg,$ac,$bc)) (by ac_rfl))))
 | `(tactic| rwa [$O:term,$p:term,$q:term,$out:term,$ia:term,$ib:term,$mg:term,$ac:term,$bc:term,$_x0:term])=>`(tactic| §b30 (s50 $q $ib) λy=>tIf _ (sz _ _ _) (b50 (ä (some (push $out y++Æ8 $p $ia++Æ8 $q ($ib + 1)),push $out y,$ia,$ib + 1,$mg,$ac,$bc)) (by ac_rfl)) (b30 (s50 $p $ia) λz=>b30 (O52 $O true z $q ($ib + 1) _ (Ø0 $q - ($ib + 1)) 0 (by simp[rs])) λk=>l70 (tIf _ (sz _ _ _) (b50 (ä (some (push $out y++Æ8 $q ($ib + 1) ($ib + 1 + k)++Æ8 $p $ia++Æ8 $q ($ib + 1 + k)),push $out y++Æ8 $q ($ib + 1) ($ib + 1 + k),$ia,$ib + 1 + k,$mg,$ac,k)) (by ac_rfl)) ((by rwa [$O:term,$p:term,$q:term,(push $out y++Æ8 $q ($ib + 1) ($ib + 1 + k)),$ia:term,($ib + 1 + k),$mg:term,$ac:term,k]))) ((by rwa [$O:term,$p:term,$q:term,(push $out y),$ia:term,($ib + 1),$mg:term,$ac:term,k]))))
 | `(tactic| rwa [$O:term,$p:term,$q:term,$out:term,$ia:term,$ib:term,$mg:term,$bc:term,$_x0:term,$_x1:term,$_x2:term])=>`(tactic| §b30 (p62 $mg) λ_=>b30 (s50 $q $ib) λy=>b30 (O52 $O false y $p $ia _ (Ø0 $p - $ia) 0 (by simp[rs])) λk=>l70 (tIf _ (sz _ _ _) (b50 (ä (some ($out++Æ8 $p $ia ($ia + k)++Æ8 $q $ib++Æ8 $p ($ia + k)),$out++Æ8 $p $ia ($ia + k),$ia + k,$ib,$mg,k,$bc)) (by ac_rfl)) (tIf _ (sz _ _ _) (b50 (ä (some ($out++Æ8 $p $ia ($ia + k)++Æ8 $p ($ia + k)++Æ8 $q $ib),$out++Æ8 $p $ia ($ia + k),$ia + k,$ib,$mg,k,$bc)) (by ac_rfl)) ((by rwa [$O:term,$p:term,$q:term,($out++Æ8 $p $ia ($ia + k)),($ia + k),$ib:term,$mg:term,k,$bc:term,rfl])))) ((by rwa [$O:term,$p:term,$q:term,$out:term,$ia:term,$ib:term,$mg:term,k,$bc:term,rfl])))
def K21(O:Ora prog w A s κ it n cmp)(p q:Array Nat):o40 prog w A E s κ it (Array.map (ö it)) (K11 (p.map (ö it)) (q.map (ö it))):=by
 ¤b30 (K01 _) λ_=>b30 (s50 q 0) λx=>?_
 ¤tIf _ (sz it _ _) (b50 (#[x]++p.extract 0++q.extract 1) (by simp only[Û3,Ñ4,size_map,map_toArray,Å7,map_nil])) ?_
 ¤tIf _ (sz it _ _) (b50 (#[x]++q.extract 1++p.extract 0) (by simp only[Û3,Ñ4,size_map,map_toArray,Å7,map_nil])) ?_
 ¤b30 a42 λt=>?_
 ¤b30 (r:=rs it) (Y70 (p.size + q.size) (by simp) (none,#[x],0,1,t.minGallop) (by simp[rs];rfl) λ_ st=>?_) λst=>?_
 ·¶⟨_,out,ia,ib,mg⟩:=st
  ¤b30 (r:=rs it) (Y70 (p.size + q.size) (by simp) (none,out,ia,ib,0,0) (by simp[rs]) λ_ st=>?_) λst=>?_
  ·¶⟨_,out,ia,ib,ac,bc⟩:=st
   ¤b30 (s50 q ib) λy=>b30 (s50 p ia) λz=>b30 (tLt O y z) λo=>l70 (b30 (s50 q ib) λy=>?_) (b30 (s50 p ia) λy=>?_)
   ·§tIf _ (sz it _ _) (b50 (ä (some (out.push y++p.extract ia++q.extract (ib + 1)),out.push y,ia,ib + 1,0,bc + 1)) (by simp[rs,z50])) (l70 (b50 (ä (none,out.push y,ia,ib + 1,0,bc + 1)) (by simp[rs,z50])) (b50 (á (none,out.push y,ia,ib + 1,0,bc + 1)) (by simp[rs,z50])))
   ·§tIf _ (sz it _ _) (b50 (ä (some (out.push y++q.extract ib++p.extract (ia + 1)),out.push y,ia + 1,ib,ac + 1,0)) (by simp[rs,z50])) (l70 (b50 (ä (none,out.push y,ia + 1,ib,ac + 1,0)) (by simp[rs,z50])) (b50 (á (none,out.push y,ia + 1,ib,ac + 1,0)) (by simp[rs,z50])))
  ·¶⟨o,out,ia,ib,ac,bc⟩:=st
   cases o with
   |some v=>§b50 (ä (some v,out,ia,ib,mg)) rfl
   |none =>
    ¤b30 (K01 _) λ_=>?_
    ¤b30 (r:=rs it) (Y70 (p.size + q.size) (by simp) (none,out,ia,ib,mg + 1,ac,bc) (by simp[rs]) λ_ st=>?_) λst=>?_
    ·¶⟨_,out,ia,ib,mg,ac,bc⟩:=st
     §l70 ((by rwa [O,p,q,out,ia,ib,(mg - 1),bc,rfl,rfl,rfl])) ((by rwa [O,p,q,out,ia,ib,mg,bc,rfl,rfl,rfl]))
    ·¶⟨o,out,ia,ib,mg,ac,bc⟩:=st
     cases o with
     |some v=>§b50 (ä (some v,out,ia,ib,mg)) rfl
     |none=>§b30 (p62 (mg + 1)) λ_=>b50 (á (none,out,ia,ib,mg + 1)) rfl
 ·¶⟨o,_⟩:=st
  cases o with
  |none=>§r80
  |some v=>§b50 v rfl
def S72(t':Tw){S:Â9}(e:S=co κ it t'):o40 prog w A E s κ it (λu:PUnit=>u) (set S:StateT Â9 Sem PUnit):=⟨modify λ_=>t',by subst e;§q50 (F:=λ_=>co κ it t') λ_=>rfl⟩
def F72{F:Â9->Â9}(G:Tw->Tw)(h:∀ t,F (co κ it t)=co κ it (G t)):o40 prog w A E s κ it (λu:Unit=>u) (modify F:StateT Â9 Sem Unit):=⟨modify G,q50 h⟩
÷fold_map(f:Nat->Keyed)(d:Nat):∀ (l:List Nat) (j:Nat) (a:Array Nat),((l.map f).zipIdx j).foldl (λa x=>setIfInBounds a (d + x.2) x.1) (a.map f)=((l.zipIdx j).foldl (λa x=>setIfInBounds a (d + x.2) x.1) a).map f
 |[],_,_=>rfl
 |x::l,j,a=>by
  have e:(a.map f).setIfInBounds (d + j) (f x)=(a.setIfInBounds (d + j) x).map f:=by simp
  show((l.map f).zipIdx (j + 1)).foldl _ ((a.map f).setIfInBounds (d + j) (f x))=_
  rw[e]
  §fold_map f d l (j + 1) _
def spl(a:Array Nat)(d:Nat)(l:List Nat):Array Nat:=⟨a.toList.take d++(l++a.toList.drop (d + l.length))⟩
÷T61(d:Nat):∀ (l:List Nat) (j:Nat) (a:Array Nat),d + j + l.length<=a.size->(l.zipIdx j).foldl (λa x=>setIfInBounds a (d + x.2) x.1) a=spl a (d + j) l
 |[],j,a,_=>by
  show a=_
  unfold spl
  rw[Á1,Nat.add_zero,Í1,List.take_append_drop]
 |x::l,j,a,h=>by
  have hl:d + j + (l.length + 1)<=a.toList.length:=h
  show(l.zipIdx (j + 1)).foldl _ (a.setIfInBounds (d + j) x)=_
  rw[T61 d l (j + 1) _ (by rw[Array.size_setIfInBounds];have:a.toList.length=a.size:=rfl;omega)]
  unfold spl
  rw[Array.toList_setIfInBounds,List.set_eq_take_append_cons_drop,if_pos (by omega)]
  generalize a.toList=m at hl
  have e1:(m.take (d + j)).length=d + j:=by rw[Æ7];omega
  have e2:(m.take (d + j)++x::m.drop (d + j + 1)).take (d + (j + 1))=m.take (d + j)++[x]:=by
   rw[List.take_append,e1,show d + (j + 1) - (d + j)=1 by omega,È7 (Ñ (Ú8 e1) (by omega))]
   rfl
  have e3:(m.take (d + j)++x::m.drop (d + j + 1)).drop (d + (j + 1) + l.length)=m.drop (d + j + (l.length + 1)):=by
   rw[List.drop_append,e1,show d + (j + 1) + l.length - (d + j)=l.length + 1 by omega,List.drop_eq_nil_of_le (Ñ (Ú8 e1) (by omega)),List.drop_succ_cons,List.drop_drop,Í1,show d + j + 1 + l.length=d + j + (l.length + 1) by omega]
  rw[e2,e3,Ô7]
  rfl
def F82{F:Â9->Â9}(c:Tw->Bool)(G:Tw->Tw)(h:∀ t,c t=true->F (co κ it t)=co κ it (G t)):o40 prog w A E s κ it (λu:Unit=>u) (modify F:StateT Â9 Sem Unit):=⟨λt=>match c t with
 |true=>some ((),G t)
 |false=>none,λt b t' e Q q=>by
 dsimp only at e
 cases hc:c t with
 |false=>rw[hc] at e;cases e
 |true =>
  rw[hc] at e
  cases e
  ¤kasC_modify ?_
  rw[h t hc]
  §q⟩
def f21(O:Ora prog w A s κ it n cmp)(i:Nat):o40 prog w A E s κ it (λ_:Unit=>true) (mergeAt' i):=by
 ¤b30 a42 λt=>?_
 generalize (Ù5 (co κ it t))[i]?=o1
 generalize (Ù5 (co κ it t))[i + 1]?=o2
 rcases o1 with _ | ⟨sa,na,pw⟩
 ·§r80
 rcases o2 with _ | ⟨sb,nb,_⟩
 ·§r80
 ¤b30 (S72 { t with pending:=(t.pending.setIfInBounds i (sa,na + nb,pw)).eraseIdxIfInBounds (i + 1) } rfl) λ_=>?_
 ¤b30 (s50 t.a sb) λy=>b30 (Y60 O false y t.a sa na 0) λk=>?_
 ¤l70 (b50 () rfl) (b30 (s50 t.a _) λy=>b30 (Y60 O true y t.a sb nb (nb - 1)) λnb=>l70 (b50 () rfl) (l70 (b30 (J91 ?_ (K21 O (t.a.extract (sa + k) sb) (t.a.extract sb (sb + nb)))) λv=>?_) r80))
 ·rw[Ñ4,Ñ4];rfl
 ·¤b30 (F82 (λu=>ble (sa + k + v.toList.length) u.a.size) (λu=>{ u with a:=spl u.a (sa + k) v.toList }) λu hu=>?_) λ_=>b30 a42 λ_=>b50 () rfl
  have e:=fold_map (ö it) (sa + k) v.toList 0 u.a
  rw[← Array.toList_map,T61 (sa + k) v.toList 0 u.a (Nat.le_of_ble_eq_true hu)] at e
  §congrArg (λa=>Ì4 κ a u.pending u.minGallop none) e
structure O62(prog:Program)(w:World)(A:Around)(E:Value->Shared->Prop)(s:Shared)(κ:SortKind)(it:Array Keyed)(z:Nat)(m:StateT SortSt Sem Unit) where
 body:Nat->Nat->TM (ForInStep Nat)
 tail:Nat->TM Unit
 sim:Sim prog w A E s κ it (λu:Unit=>u) m (u30 body z 0 0 >>= tail)
def mkH{α:Type}{r:Nat->α}{i:α}{z:Nat}(e0:i=r 0){B:Nat->α->StateT Â9 Sem (ForInStep α)}{k:α->StateT Â9 Sem Unit}(hb:∀ x lo,o40 prog w A E s κ it (z50 r) (B x (r lo)))(hk:∀ lo,o40 prog w A E s κ it (λu:Unit=>u) (k (r lo))) :
  O62 prog w A E s κ it z (forIn [0:z] i B >>= k) where
 body:=λx lo=>(hb x lo).1
 tail:=λlo=>(hk lo).1
 sim:=by
  subst e0
  §l60 (K20 λx b=>(hb x b).2) λb=>(hk b).2
structure m31(prog:Program)(w:World)(A:Around)(E:Value->Shared->Prop)(s:Shared)(κ:SortKind)(it:Array Keyed)(m:StateT SortSt Sem Unit) where
 body:Tw->Nat->Nat->TM (ForInStep Nat)
 tail:Tw->Nat->TM Unit
 sim:Sim prog w A E s κ it (λu:Unit=>u) m (get >>= λt=>u30 (body t) t.a.size 0 0 >>= tail t)
def mkW{F:Â9->StateT Â9 Sem Unit}(h:∀ t:Tw,O62 prog w A E s κ it t.a.size (F (co κ it t))):m31 prog w A E s κ it (get >>= F) where
 body:=λt=>(h t).body
 tail:=λt=>(h t).tail
 sim:=l60 Y50 λt=>(h t).sim
def m31.cast{m m':StateT Â9 Sem Unit}(e:m=m')(h:m31 prog w A E s κ it m'):m31 prog w A E s κ it m:=⟨h.body,h.tail,by rw[e];§h.sim⟩
def j30(O:Ora prog w A s κ it n cmp):m31 prog w A E s κ it sortRuns':=by
 ¤m31.cast sortRuns'_eq (mkW λt=>?_)
 generalize hz:Ø0 (arrOf (co κ it t))=z
 have hz':t.a.size=z:=Array.size_map.symm.trans hz
 clear hz
 subst hz'
 ¤mkH (r:=λm:Nat=>((none,m):Option Unit × Nat)) rfl (λ_ lo=>l70 (b50 (ä lo) rfl) (b30 (p52 O _ _) λm=>?_)) (λ_=>?_)
 ·¤l70 (b30 (K01 _) λ_=>b30 (S62 O _ _ _) λ_=>l70 r80 (b30 a42 λu=>?_)) (b30 a42 λu=>?_)
  all_goals
   generalize Array.back? (Ù5 (co κ it u))=o1
   rcases o1 with _ | ⟨s1,n1,_⟩
   ·§b30 (F72 (λu=>{ u with pending:=u.pending.push (lo,_,0) }) λ_=>rfl) λ_=>b50 (á (lo + _)) rfl
   ·¤b30 (r:=λ_:Unit=>((none,()):Option Unit × Unit)) (r90 () λ_ _=>b30 a42 λu=>?_) λ_=>b30 (F72 (λu=>{ u with pending:=u.pending.modify (u.pending.size - 1) λx=>(x.1,x.2.1,_) }) λ_=>rfl) λ_=>b30 (F72 (λu=>{ u with pending:=u.pending.push (lo,_,0) }) λ_=>rfl) λ_=>b50 (á (lo + _)) rfl
    dsimp only
    generalize (if Ø0 (Ù5 (co κ it u)) > 1 then(Ù5 (co κ it u))[Ø0 (Ù5 (co κ it u)) - 2]? else none)=o2
    rcases o2 with _ | ⟨_,_,old⟩
    ·§b50 (ä ()) rfl
    ·§l70 (b50 (ä ()) rfl) (b30 (f21 O _) λ_=>l70 r80 (b50 (á ()) rfl))
 ·§b30 (r:=λ_:Unit=>((none,()):Option Unit × Unit)) (r90 () λ_ _=>b30 a42 λu=>l70 (b50 (ä ()) rfl) (b30 (f21 O _) λ_=>l70 r80 (b50 (á ()) rfl))) λ_=>b50 () rfl
end
def upN:Nat->Nat->Nat->List Nat
 |0,_,h=>[h]
 |b + 1,v,h=>upN b (2 * v) (h + v)++upN b (2 * v) h
def neN:Nat->Nat->Nat->List Nat
 |0,_,_=>[]
 |b + 1,v,h=>(h + v)::(neN b (2 * v) (h + v)++neN b (2 * v) h)
def sN(b:Nat):List Nat:=0::neN b 1 0
def C40:Nat->Nat->Nat->List Nat
 |0,_,_=>[]
 |k + 1,i,m=>if Nat.testBit m 0 then i::C40 k (i + 1) (m / 2) else C40 k (i + 1) (m / 2)
def B72:List Nat->List Nat->Bool
 |[],[]=>false
 |[],_::_=>true
 |_::_,[]=>false
 |a::r,b::q=>if beq a b then B72 r q else Nat.blt a b
def w20(K i j:Nat):Bool:=B72 (C40 K 0 i) (C40 K 0 j)
section
variable {prog:ß}{w:ç}{A:ø}{E:Ä->Æ->Prop}{s:Æ}{κ:Ì9}{it:Array Keyed}
def T0(K:Nat):Tw:=⟨⟨î (2 ^ K)⟩,#[],7⟩
def TZ(K p:Nat):Tw:=⟨⟨sN K⟩,#[(0,2 ^ K,p)],7⟩
÷z60{β:Type}{f:Nat->β->TM (ForInStep β)}{n i:Nat}{b b':β}{t t':Tw}{r:Option (β × Tw)}(h:f i b t=some (.yield b',t'))(h2:u30 f n (i + 1) b' t'=r):u30 f (n + 1) i b t=r:=by
 show Option.bind (f i b t) _=r
 rw[h];§h2
def goW{K:Nat}(O:Ora prog w A s κ it (2 ^ K) (w20 K)):TM Unit:=get >>= λt=>u30 ((j30 (E:=E) O).body t) t.a.size 0 0 >>= (j30 (E:=E) O).tail t
÷two{K n:Nat}{t:Tw}{r:Option (Unit × Tw)}(O:Ora prog w A s κ it (2 ^ K) (w20 K))(h:u30 ((j30 (E:=E) O).body (T0 K)) (2 ^ K) 0 0 (T0 K)=some (n,t))(h2:(j30 (E:=E) O).tail (T0 K) n t=r):goW (E:=E) O (T0 K)=r:=by
 show Option.bind (u30 ((j30 (E:=E) O).body (T0 K)) (î (2 ^ K)).length 0 0 (T0 K)) _=r
 rw[ù,h];§h2
÷w1(O:Ora prog w A s κ it (2 ^ 1) (w20 1)):goW (E:=E) O (T0 1)=some ((),TZ 1 0):=by kernel_rfl
÷w2(O:Ora prog w A s κ it (2 ^ 2) (w20 2)):goW (E:=E) O (T0 2)=some ((),TZ 2 0):=by kernel_rfl
÷w3(O:Ora prog w A s κ it (2 ^ 3) (w20 3)):goW (E:=E) O (T0 3)=some ((),TZ 3 0):=by kernel_rfl
÷w4(O:Ora prog w A s κ it (2 ^ 4) (w20 4)):goW (E:=E) O (T0 4)=some ((),TZ 4 0):=by kernel_rfl
÷w5(O:Ora prog w A s κ it (2 ^ 5) (w20 5)):goW (E:=E) O (T0 5)=some ((),TZ 5 0):=by kernel_rfl
÷w6(O:Ora prog w A s κ it (2 ^ 6) (w20 6)):goW (E:=E) O (T0 6)=some ((),TZ 6 1):=by kernel_rfl
÷S82(O:Ora prog w A s κ it (2 ^ 7) (w20 7)):(j30 (E:=E) O).body (T0 7) 0 0 (T0 7)=some (.yield 32,⟨⟨sN 5++Á5 32 96⟩,#[(0,32,0)],7⟩):=by kernel_rfl
÷S92(O:Ora prog w A s κ it (2 ^ 7) (w20 7)):(j30 (E:=E) O).body (T0 7) 1 32 ⟨⟨sN 5++Á5 32 96⟩,#[(0,32,0)],7⟩=some (.yield 64,⟨⟨sN 5++(upN 5 1 32++Á5 64 64)⟩,#[(0,32,2),(32,32,0)],7⟩):=by kernel_rfl
÷T02(O:Ora prog w A s κ it (2 ^ 7) (w20 7)):(j30 (E:=E) O).body (T0 7) 2 64 ⟨⟨sN 5++(upN 5 1 32++Á5 64 64)⟩,#[(0,32,2),(32,32,0)],7⟩=some (.yield 96,⟨⟨sN 6++(upN 5 1 64++Á5 96 32)⟩,#[(0,64,1),(64,32,0)],7⟩):=by kernel_rfl
÷T12(O:Ora prog w A s κ it (2 ^ 7) (w20 7)):(j30 (E:=E) O).body (T0 7) 3 96 ⟨⟨sN 6++(upN 5 1 64++Á5 96 32)⟩,#[(0,64,1),(64,32,0)],7⟩=some (.yield 128,⟨⟨sN 6++(upN 5 1 64++upN 5 1 96)⟩,#[(0,64,1),(64,32,2),(96,32,0)],7⟩):=by kernel_rfl
÷T22(O:Ora prog w A s κ it (2 ^ 7) (w20 7)):u30 ((j30 (E:=E) O).body (T0 7)) 124 4 128 ⟨⟨sN 6++(upN 5 1 64++upN 5 1 96)⟩,#[(0,64,1),(64,32,2),(96,32,0)],7⟩=some (128,⟨⟨sN 6++(upN 5 1 64++upN 5 1 96)⟩,#[(0,64,1),(64,32,2),(96,32,0)],7⟩):=by kernel_rfl
÷T32(O:Ora prog w A s κ it (2 ^ 7) (w20 7)):(j30 (E:=E) O).tail (T0 7) 128 ⟨⟨sN 6++(upN 5 1 64++upN 5 1 96)⟩,#[(0,64,1),(64,32,2),(96,32,0)],7⟩=some ((),TZ 7 1):=by kernel_rfl
÷w7(O:Ora prog w A s κ it (2 ^ 7) (w20 7)):goW (E:=E) O (T0 7)=some ((),TZ 7 1):=two O (z60 (S82 O) (z60 (S92 O) (z60 (T02 O) (z60 (T12 O) (T22 O))))) (T32 O)
÷T42(O:Ora prog w A s κ it (2 ^ 8) (w20 8)):(j30 (E:=E) O).body (T0 8) 0 0 (T0 8)=some (.yield 32,⟨⟨sN 5++Á5 32 224⟩,#[(0,32,0)],7⟩):=by kernel_rfl
÷T52(O:Ora prog w A s κ it (2 ^ 8) (w20 8)):(j30 (E:=E) O).body (T0 8) 1 32 ⟨⟨sN 5++Á5 32 224⟩,#[(0,32,0)],7⟩=some (.yield 64,⟨⟨sN 5++(upN 5 1 32++Á5 64 192)⟩,#[(0,32,3),(32,32,0)],7⟩):=by kernel_rfl
÷T62(O:Ora prog w A s κ it (2 ^ 8) (w20 8)):(j30 (E:=E) O).body (T0 8) 2 64 ⟨⟨sN 5++(upN 5 1 32++Á5 64 192)⟩,#[(0,32,3),(32,32,0)],7⟩=some (.yield 96,⟨⟨sN 6++(upN 5 1 64++Á5 96 160)⟩,#[(0,64,2),(64,32,0)],7⟩):=by kernel_rfl
÷T72(O:Ora prog w A s κ it (2 ^ 8) (w20 8)):(j30 (E:=E) O).body (T0 8) 3 96 ⟨⟨sN 6++(upN 5 1 64++Á5 96 160)⟩,#[(0,64,2),(64,32,0)],7⟩=some (.yield 128,⟨⟨sN 6++(upN 5 1 64++(upN 5 1 96++Á5 128 128))⟩,#[(0,64,2),(64,32,3),(96,32,0)],7⟩):=by kernel_rfl
÷T82(O:Ora prog w A s κ it (2 ^ 8) (w20 8)):(j30 (E:=E) O).body (T0 8) 4 128 ⟨⟨sN 6++(upN 5 1 64++(upN 5 1 96++Á5 128 128))⟩,#[(0,64,2),(64,32,3),(96,32,0)],7⟩=some (.yield 160,⟨⟨sN 7++(upN 5 1 128++Á5 160 96)⟩,#[(0,128,1),(128,32,0)],7⟩):=by kernel_rfl
÷T92(O:Ora prog w A s κ it (2 ^ 8) (w20 8)):(j30 (E:=E) O).body (T0 8) 5 160 ⟨⟨sN 7++(upN 5 1 128++Á5 160 96)⟩,#[(0,128,1),(128,32,0)],7⟩=some (.yield 192,⟨⟨sN 7++(upN 5 1 128++(upN 5 1 160++Á5 192 64))⟩,#[(0,128,1),(128,32,3),(160,32,0)],7⟩):=by kernel_rfl
÷U02(O:Ora prog w A s κ it (2 ^ 8) (w20 8)):(j30 (E:=E) O).body (T0 8) 6 192 ⟨⟨sN 7++(upN 5 1 128++(upN 5 1 160++Á5 192 64))⟩,#[(0,128,1),(128,32,3),(160,32,0)],7⟩=some (.yield 224,⟨⟨sN 7++(upN 6 1 128++(upN 5 1 192++Á5 224 32))⟩,#[(0,128,1),(128,64,2),(192,32,0)],7⟩):=by kernel_rfl
÷U12(O:Ora prog w A s κ it (2 ^ 8) (w20 8)):(j30 (E:=E) O).body (T0 8) 7 224 ⟨⟨sN 7++(upN 6 1 128++(upN 5 1 192++Á5 224 32))⟩,#[(0,128,1),(128,64,2),(192,32,0)],7⟩=some (.yield 256,⟨⟨sN 7++(upN 6 1 128++(upN 5 1 192++upN 5 1 224))⟩,#[(0,128,1),(128,64,2),(192,32,3),(224,32,0)],7⟩):=by kernel_rfl
÷U22(O:Ora prog w A s κ it (2 ^ 8) (w20 8)):u30 ((j30 (E:=E) O).body (T0 8)) 248 8 256 ⟨⟨sN 7++(upN 6 1 128++(upN 5 1 192++upN 5 1 224))⟩,#[(0,128,1),(128,64,2),(192,32,3),(224,32,0)],7⟩=some (256,⟨⟨sN 7++(upN 6 1 128++(upN 5 1 192++upN 5 1 224))⟩,#[(0,128,1),(128,64,2),(192,32,3),(224,32,0)],7⟩):=by kernel_rfl
÷U32(O:Ora prog w A s κ it (2 ^ 8) (w20 8)):(j30 (E:=E) O).tail (T0 8) 256 ⟨⟨sN 7++(upN 6 1 128++(upN 5 1 192++upN 5 1 224))⟩,#[(0,128,1),(128,64,2),(192,32,3),(224,32,0)],7⟩=some ((),TZ 8 1):=by kernel_rfl
÷w8(O:Ora prog w A s κ it (2 ^ 8) (w20 8)):goW (E:=E) O (T0 8)=some ((),TZ 8 1):=two O (z60 (T42 O) (z60 (T52 O) (z60 (T62 O) (z60 (T72 O) (z60 (T82 O) (z60 (T92 O) (z60 (U02 O) (z60 (U12 O) (U22 O))))))))) (U32 O)
÷U42{K:Nat}(h1:1<=K)(h8:K<=8)(O:Ora prog w A s κ it (2 ^ K) (w20 K)):∃ p,goW (E:=E) O (T0 K)=some ((),TZ K p):=by
 match K,h1,h8,O with
 |1,_,_,O=>§⟨_,w1 O⟩
 |2,_,_,O=>§⟨_,w2 O⟩
 |3,_,_,O=>§⟨_,w3 O⟩
 |4,_,_,O=>§⟨_,w4 O⟩
 |5,_,_,O=>§⟨_,w5 O⟩
 |6,_,_,O=>§⟨_,w6 O⟩
 |7,_,_,O=>§⟨_,w7 O⟩
 |8,_,_,O=>§⟨_,w8 O⟩
÷runL{K:Nat}{vs:List Ä}(h1:1<=K)(h8:K<=8)(hv:vs.length=2 ^ K)(O:Ora prog w A s κ (vs.toArray.zip vs.toArray) (2 ^ K) (w20 K)):MySort.F42 prog w A s vs (λp=>p=sN K) κ:=by
 ¤⟨sN K,rfl,λE Q q=>?_⟩
 ¶⟨pp,e⟩:=U42 (E:=E) h1 h8 O
 have r:=(j30 (E:=E) O).sim (T0 K) () (TZ K pp) e (λu st s'=>s'=s/\failedOf st=none/\arrOf st=((sN K).toArray).map (ö (vs.toArray.zip vs.toArray))) ⟨rfl,rfl,rfl⟩
 have est:Ì4 κ (vs.toArray.zip vs.toArray) #[] 7 none=co κ (vs.toArray.zip vs.toArray) (T0 K):=by
  have e:=kas_range (vs.toArray.zip vs.toArray)
  rw[show(vs.toArray.zip vs.toArray).size=2 ^ K by simp[hv]] at e
  show _=Ì4 κ ((toArray (î (2 ^ K))).map (ö (vs.toArray.zip vs.toArray))) #[] 7 none
  rw[e]
 rw[est]
 ¤Â1 r (λx s' h=>?_) λ_ _ e=>e
 ¶⟨rfl,h2,h3⟩:=h
 §q x.2 h2 h3
end
end TS
namespace HT
open PySem PyProof.Rows
section
open PySem.SeqAt
open PySem.AutoSeq1 (wpAny_loadPart')
open PySem.MeetsSeq PySem.MeetsSeq2 PySem.MeetsSeq3
open MySort (h30)
def leB(ns ms:List Int):Bool:=!h30 ms ns
÷K31(x y:Int)(r q:List Int):leB (x::r) (y::q)=if x=y then leB r q else decide (x<=y):=by
 show(!(if y=x then h30 q r else decide (y < x)))=_
 by_cases e:x=y
 ·rw[if_pos e,if_pos e.symm];rfl
 ·rw[if_neg e,if_neg (Â3 e)]
  by_cases l:y < x
  ·rw[decide_eq_true l,decide_eq_false (by omega)];rfl
  ·rw[decide_eq_false l,decide_eq_true (by omega)];rfl
÷K41(A:ø)(s:Æ)(a:Int)(t:Tok)(c:Int)(u:Tok)(P:ß)(w:ç)(E:Ä->Æ->Prop)(Q:Ä->Æ->Prop)(h:Q (.bool (decide (a<=c))) s):Ï (Ô P w) A (richCompare .LtE (.int a t) (.int c u)) Q E s :=
 (PyProof.Rows.le_int h:Ï (Ô P w) A (ü .LtE (.int a t) (.int c u)) Q E s)
÷K30(l b:Ç)(i1 i2:Array Ä)(n n2:Nat)(dd dd2:Option Ç)(sl sl2:Array (Option Ä))(ns ms:List Int)(hi:Ë7 i1.toList ns)(hj:Ë7 i2.toList ms) :
  Meets (ÿ.«tuple.__le__» ⟨[.ref l,.ref b],[]⟩) (λ_ R s=>s.heap.get? l=some { cls:=.type "tuple",dict:=dd,data:=.seq i1 n,slots:=sl }/\s.heap.get? b=some { cls:=.type "tuple",dict:=dd2,data:=.seq i2 n2,slots:=sl2 }/\R (.ok (.ret (.bool (leB ns ms)))) s) :=
 .of_wp λP w A R s h=>by
  ¶⟨hp,g,d,tk,os⟩:=s;¶⟨hl,hb,h⟩:=h
  have f2:=Ý1
  have z1:i1.size=ns.length:=by rw[← hi.length];simp
  have z2:i2.size=ms.length:=by rw[← hj.length];simp
  wp_walk using Ä7 hl,Ä7 hb,wpAny_forIn_list _ (λrest b s'=>b.1=none/\s'=⟨hp,g,d,tk,os⟩/\∃ (vs ws:List Ä) (ns' ms':List Int),rest=vs.zip ws/\Ë7 vs ns'/\Ë7 ws ms'/\ns'.length + i2.size=ms'.length + i1.size/\R (.ok (.ret (.bool (leB ns' ms')))) ⟨hp,g,d,tk,os⟩) _
  case turn =>
   rintro ⟨y,x⟩ rest b s' ⟨hb',rfl,vs,ws,ns',ms',hz,hvi,hwi,hlen,hR⟩
   cases hvi with
   |nil=>rw[Ú0] at hz;cases hz
   |cons a t hvi' =>
    cases hwi with
    |nil=>rw[List.zip_nil_right] at hz;cases hz
    |cons c u hwi' =>
     rw[Ê6] at hz;injection hz with hyx hrest;injection hyx with hy hx;subst hy hx
     rw[K31] at hR;simp only[Þ] at hlen
     ¶⟨e,he,hiff⟩:=I11 A.in1 ⟨hp,g,d,tk,os⟩ a t c u
     ¤À (he P w _ _ ?_)
     cases e with
     |true =>
      rw[if_pos (hiff.mp rfl)] at hR;wp_walk
      §⟨rfl,rfl,_,_,_,_,hrest,hvi',hwi',by omega,hR⟩
     |false =>
      rw[if_neg (λq=>absurd (hiff.mpr q) Ð)] at hR
      have hri:=K41 A.in1 ⟨hp,g,d,tk,os⟩ a t c u P w
      wp_walk using hri
      §⟨_,rfl,by simpa using hR⟩
  case fin =>
   rintro ⟨b1,b2⟩ s' ⟨hb',rfl,vs,ws,ns',ms',hz,hvi,hwi,hlen,hR⟩
   simp only at hb';subst hb'
   have hv:leB ns' ms'=decide (i1.size<=i2.size):=by
    cases hvi with
    |nil =>
     cases hwi with
     |nil=>simp only[Á1] at hlen;§(decide_eq_true (by omega)).symm
     |cons c u hw=>simp only[Á1,Þ] at hlen;§(decide_eq_true (by omega)).symm
    |cons a t hv =>
     cases hwi with
     |nil=>simp only[Á1,Þ] at hlen;§(decide_eq_false (by omega)).symm
     |cons c u hw=>rw[Ê6] at hz;cases hz
   rw[hv] at hR;wp_walk
   §⟨_,rfl,by simpa [tupleCompareSizes] using hR⟩
  case h=>§⟨rfl,rfl,i1.toList,i2.toList,ns,ms,rfl,hi,hj,by omega,h⟩
end
section
variable {P:ß}{w:ç}{A:ø}{E:Ä->Æ->Prop}{s:Æ}
÷m41{l b:Ç}{i1 i2:Array Ä}{ns ms:List Int}{Q:Ä->Æ->Prop}(hl:Ï2 s.heap l i1)(hb:Ï2 s.heap b i2)(hi:Ë7 i1.toList ns)(hj:Ë7 i2.toList ms)
  (hu:A.units < Å8) (h:Q (.bool (leB ns ms)) s):Ï (Ô P w) A (ü .LtE (.ref l) (.ref b)) Q E s:=by
 ¶⟨⟨cls,dd,data,sl⟩,ho,hc,n,hd⟩:=id hl;¶⟨⟨cls2,dd2,data2,sl2⟩,ho2,hc2,n2,hd2⟩:=id hb
 simp only at hc hd hc2 hd2;subst hc hd hc2 hd2
 §richCompare_meets_room (op:=.LtE) ⟨_,ho,rfl⟩ ⟨_,ho2,rfl⟩ PySem.F.slot_tuple_le PySem.F.entry_tuple_le (PySem.F.args_tuple_le_2 _ _) (K30 l b i1 i2 n n2 dd dd2 sl sl2 ns ms hi hj)
  ⟨ho,ho2,show Ï0 (leB ns ms)≠Õ2/\Q (.bool (leB ns ms)) s from⟨(λx=>nomatch x),h⟩⟩ hu
÷a52{t b:Ç}{ws:List Ä}{Q:Ä->Æ->Prop}(ht:Ï2 s.heap t #[])(hb:Ï2 s.heap b ws.toArray)(h:Q (.ref b) s):Ï (Ô P w) A (Ä2 .Add (.ref t) (.ref b)) Q E s:=by
 ¶⟨⟨cls,dd,data,sl⟩,ho,hc,n,hd⟩:=id ht;¶⟨⟨cls2,dd2,data2,sl2⟩,ho2,hc2,n2,hd2⟩:=id hb
 simp only at hc hd hc2 hd2;subst hc hd hc2 hd2
 §concat_meets ⟨_,ho,rfl⟩ ⟨_,ho2,rfl⟩ ß1 seq_tuple_add Ò0 Ð8 (Ï7 _ _) (tuple_addW0 t b #[] ws.toArray n n2 dd dd2 sl sl2 (by simp)) ⟨ho,ho2,h⟩
÷R50:seqRepeat? (.type "tuple")=pure (some (.builtin "tuple.__mul__")):=by
 first | kernel_rfl | rfl | (unfold seqRepeat?;kernel_rfl)
÷z70:fillsNumberSlot (.type "tuple") "mul"=pure false:=by
 first | kernel_rfl | rfl
÷m51(a:Int)(t:Tok)(l:Ç)(xs:Array Ä)(n:Nat)(dd:Option Ç)(sl:Array (Option Ä)) :
  Meets (ÿ.«int.__rmul__» ⟨[.int a t,.ref l],[]⟩) (λ_ R s=>s.heap.get? l=some { cls:=.type "tuple",dict:=dd,data:=.seq xs n,slots:=sl }/\R (.ok (.ret Õ2)) s) :=
 .of_wp λP w A R s h=>by ¶⟨hp,g,d,tk,os⟩:=s;¶⟨hl,h⟩:=h;wp_walk;§⟨_,rfl,h⟩
÷K51(l:Ç)(xs:Array Ä)(k:Int)(u:Tok)(n:Nat)(dd:Option Ç)(sl:Array (Option Ä))(h1:¬ (decide (k < -(2 ^ 63)) || decide (k ≥ 2 ^ 63))=true)(h2:(xs.isEmpty || k == 1)=true) :
  Meets (ÿ.«tuple.__mul__» ⟨[.ref l,.int k u],[]⟩) (λ_ R s=>s.heap.get? l=some { cls:=.type "tuple",dict:=dd,data:=.seq xs n,slots:=sl }/\R (.ok (.ret (.ref l))) s) :=
 .of_wp λP w A R s h=>by
  ¶⟨hp,g,d,tk,os⟩:=s;¶⟨hl,h⟩:=h
  have f1:=Ø5
  wp_walk using Ã9 hl
  simp only[h1,if_false]
  wp_walk using Ã9 hl
  §⟨_,rfl,h⟩
÷mul_zero(l:Ç)(xs:Array Ä)(k:Int)(u:Tok)(n:Nat)(dd:Option Ç)(sl:Array (Option Ä))(h1:¬ (decide (k < -(2 ^ 63)) || decide (k ≥ 2 ^ 63))=true)(h2:¬ (xs.isEmpty || k == 1)=true)(h3:(decide (k<=0) || xs.isEmpty)=true) :
  Meets (ÿ.«tuple.__mul__» ⟨[.ref l,.int k u],[]⟩) (λ_ R s=>s.heap.get? l=some { cls:=.type "tuple",dict:=dd,data:=.seq xs n,slots:=sl }/\R (.ok (.ret (.ref s.heap.objs.size))) { s with heap:=s.heap.push { cls:=.type "tuple",data:=.seq #[] } }) :=
 .of_wp λP w A R s h=>by
  ¶⟨hp,g,d,tk,os⟩:=s;¶⟨hl,h⟩:=h
  have f1:=Ø5
  wp_walk using Ã9 hl
  simp only[h1,if_false]
  wp_walk using Ã9 hl
  §⟨_,rfl,h⟩
÷K61(l:Ç)(xs:Array Ä)(k:Int)(u:Tok)(n:Nat)(dd:Option Ç)(sl:Array (Option Ä))(h1:¬ (decide (k < -(2 ^ 63)) || decide (k ≥ 2 ^ 63))=true)(h2:¬ (xs.isEmpty || k == 1)=true)(h3:¬ (decide (k<=0) || xs.isEmpty)=true)
  (h4:¬ (xs.size:Int) * k > (2 ^ 63 - 1) / 8) (h5:¬ tupleTooMany ((xs.size:Int) * k)=true) (h6:(foldl (λx y=>x++y) #[] (í k.toNat xs)).size<=Û) :
  Meets (ÿ.«tuple.__mul__» ⟨[.ref l,.int k u],[]⟩) (λ_ R s=>s.heap.get? l=some { cls:=.type "tuple",dict:=dd,data:=.seq xs n,slots:=sl }/\R (.ok (.ret (.ref s.heap.objs.size))) { s with heap:=s.heap.push { cls:=.type "tuple",data:=.seq (foldl (λx y=>x++y) #[] (í k.toNat xs)) } }) :=
 .of_wp λP w A R s h=>by
  ¶⟨hp,g,d,tk,os⟩:=s;¶⟨hl,h⟩:=h
  have f1:=Ø5
  wp_walk using Ã9 hl
  simp only[h1,if_false]
  wp_walk using Ã9 hl
  simp only[h4,h5,if_false]
  ¤À (m:=Ç0 _) (å (Å ?_) h6)
  §⟨_,rfl,h⟩
end
÷u40(f:α->Option β)(g:α->β):∀ (l:List α),(∀ k∈l,f k=some (g k))->l.filterMap f=l.map g
 |[],_=>rfl
 |x::r,h=>by rw[Á4,h x Ì,Å7,u40 f g r λk hk=>h k (È _ hk)]
section
variable {P:ß}{w:ç}{A:ø}{E:Ä->Æ->Prop}{s:Æ}
÷s60{t sl:Ç}{xs:Array Ä}{vl vu:Ä}{lo hi:Option Int}{Q:Ä->Æ->Prop}(ht:Ï2 s.heap t xs)(hs:s.heap.IsSliceOf sl vl vu .none)(pl:Ù4 vl lo)(pu:Ù4 vu hi)
  (hw:sIx xs.size 0 lo=0/\sIx xs.size xs.size hi=xs.size) (h:Q (.ref t) s):Ï (Ô P w) A (Ó3 (.ref t) (.ref sl)) Q E s:=by
 ¶⟨os,hos,hcs,hds⟩:=id hs
 have hTs:s.TypeIs (.ref sl) "slice":=⟨os,hos,hcs⟩
 unfold Ó3;try with_reducible ¤À8 ?_
 first | ¤À (Å ?_) | skip
 ¤À (Ý2 ht.typeIs (by decide) ?_);¤À (À6 (name:=Á0 "__getitem__") ht.typeIs ô (À5 ô ht.typeIs entry_tuple_getitem ?_ (Ü4 _ _)))
 show Ï _ _ (tupleItemsOf (.ref t) >>= _) _ _ s;¤À (tupleItemsOf_ ht (À (Ç9 hTs ?_)))
 rw[if_pos (by decide)];¤À (m80 hs pl pu ?_)
 rw[hw.1,hw.2]
 show Ï _ _ (if (((0:Nat):Int) == 0&&(1:Int) == 1&&(xs.size - 0) == xs.size)=true then _ else _) _ _ s
 rw[if_pos (by simp)]
 ¤À (m:=tupleIsExact _) ?_
 unfold tupleIsExact
 ¤À (Ç9 ht.typeIs (Å ?_))
 rw[if_pos (by decide)]
 first
  |§À (Ê1 (Å ⟨_,rfl,Å h⟩))
  |§À (Ê1 (À (Å (Å ⟨_,rfl,Å h⟩))))
÷w80{t sl:Ç}{xs:List Ä}{u:Tok}{Q:Ä->Æ->Prop}(ht:Ï2 s.heap t xs.toArray)(hs:s.heap.IsSliceOf sl .none .none (.int (-1) u))
  (h:Q (.ref s.heap.objs.size) { s with heap:=s.heap.push { cls:=.type "tuple",data:=.seq xs.reverse.toArray } }) (hz:xs.length<=Û):Ï (Ô P w) A (Ó3 (.ref t) (.ref sl)) Q E s:=by
 ¶⟨os,hos,hcs,hds⟩:=id hs
 have hTs:s.TypeIs (.ref sl) "slice":=⟨os,hos,hcs⟩
 unfold Ó3;try with_reducible ¤À8 ?_
 first | ¤À (Å ?_) | skip
 ¤À (Ý2 ht.typeIs (by decide) ?_);¤À (À6 (name:=Á0 "__getitem__") ht.typeIs ô (À5 ô ht.typeIs entry_tuple_getitem ?_ (Ü4 _ _)))
 show Ï _ _ (tupleItemsOf (.ref t) >>= _) _ _ s;¤À (tupleItemsOf_ ht (À (Ç9 hTs ?_)))
 rw[if_pos (by decide)]
 have app:∀ {R:Int × Int × Nat->Æ->Prop},R ((xs.length:Int) - 1,-1,xs.length) s->Ï (Ô P w) A.in1 (Ô4 (.ref sl) (pure (xs.toArray.size:Int))) R E s:=λ{R} q=>by
  unfold Ô4 sliceFields
  ¤À (À (Á6 hos hds (x:=.none) rfl (À (Á6 hos hds (x:=.none) rfl (À (Á6 hos hds (x:=.int (-1) u) rfl (Å ?_)))))))
  ¤À (slicePart_int ?_)
  show Ï _ _ (if ((-1:Int) == 0)=true then _ else _) _ _ s
  rw[if_neg (by decide)]
  ¤À (Ø8 (À (Ø8 (À (Å ?_)))))
  have e1:Í5 none none (-1) (xs.toArray.size:Int)=((xs.length:Int) - 1,-1):=by simp[Í5]
  have e2:É1 ((xs.length:Int) - 1) (-1) (-1)=xs.length:=by
   unfold É1
   rw[if_neg (by decide)]
   split
   ·simp only[Int.neg_neg,Int.ediv_one];omega
   ·omega
  show Ï _ _ (match Í5 none none (-1) (xs.toArray.size:Int) with | (lo,hi)=>pure (lo,(-1:Int),É1 lo hi (-1))) _ _ s
  rw[e1]
  show Ï _ _ (pure ((xs.length:Int) - 1,(-1:Int),É1 ((xs.length:Int) - 1) (-1) (-1))) _ _ s
  rw[e2]
  §Å q
 ¤À (app ?_)
 show Ï _ _ (if (((xs.length:Int) - 1) == 0&&(-1:Int) == 1&&xs.length == xs.toArray.size)=true then _ else _) _ _ s
 rw[if_neg (by simp)]
 have pick:((î xs.length).filterMap λ(k:Nat)=>xs.toArray[((xs.length:Int) - 1 + (k:Int) * -1).toNat]?)=xs.reverse:=by
  ¤List.ext_getElem? λi=>?_
  have hall:∀ k∈î xs.length,xs.toArray[((xs.length:Int) - 1 + (k:Int) * -1).toNat]?=some (xs.getD (xs.length - 1 - k) â):=λk hk=>by
   have hk':k < xs.length:=by simpa using hk
   have e:((xs.length:Int) - 1 + (k:Int) * -1).toNat=xs.length - 1 - k:=by omega
   rw[e]
   have:xs.length - 1 - k < xs.length:=by omega
   simp[this]
  rw[u40 _ _ _ hall,Ü]
  by_cases hi:i < xs.length
  ·have h2:xs.length - 1 - i < xs.length:=by omega
   rw[Ê0 hi,List.getElem?_reverse hi]
   simp[h2]
  ·rw[á1 (by simpa using hi),á1 (by simpa using hi)];rfl
 rw[pick]
 have hsz:sizeOk (.seq xs.reverse.toArray):=by show xs.reverse.toArray.size<=Û;rw[Ó,Ì3];§hz
 first
  |§À (m:=Ç0 _) (å (Å ⟨_,rfl,Å h⟩) hsz)
  |§À (m:=Ç0 _) (å (À (Å (Å ⟨_,rfl,Å h⟩))) hsz)
  |§À (À (m:=Ç0 _) (å (Å (Å ⟨_,rfl,Å h⟩)) hsz))
  |§À (À (m:=Ç0 _) (å (Å ⟨_,rfl,Å h⟩) hsz))
end
end HT
namespace L2
open PySem PySem.Spec PyProof.Rows
÷a30.sqT{K:Â}{H H':Hp}{a:Ç}{xs:List V}(e:a30 H H')(h:SqT K H a xs):SqT K H' a xs:=by
 rcases h with (h | ⟨o,h⟩) | h
 ·§.inl (.inl (e _ _ h))
 ·§.inl (.inr ⟨o,e _ _ h⟩)
 ·§.inr h
÷a30.new(o:HO)(n:H p=none):a30 H (upd H p o):=λb u e=>by rw[a60 (a80 e n)];§e
def K71(K:Â)(H:Hp)(zs:List V)(Q:VK):Prop:=∀ p H',a30 H H'->SqT K H' p zs->Q (.ref p) H'
section
variable {X:Cx}{pins:List (Ç × Obj)}{σ:St}{H:Hp}{s:Æ}
÷K71.here(q:K71 X.K H zs Q)(I:Inv X pins σ H s)(h:SqT X.K H a zs):EP X pins σ Q (.ref a) s:=⟨.ref a,H,I,rfl,q a H (a30.refl H) h⟩
÷K71.new(q:K71 X.K H zs Q)(I:Inv X pins σ H s)(r:Vals zs us)(hz:zs.length<=Û) :
  EP X pins σ Q (.ref s.heap.objs.size) { s with heap:=s.heap.push { cls:=.type "tuple",data:=.seq us.toArray } } :=
 have hn:H s.heap.objs.size=none:=I.hok.fresh (Í _)
 ⟨.ref s.heap.objs.size,_,I.laid (t':=s.toks) (o:=.tup zs) (λb ob q=>Ã _ q) (Í _) ⟨hz,_,r,Ï2.new _ _⟩,rfl,q _ _ (a30.new _ hn) (SqT.of b20)⟩
end
section
variable {X:Cx}
def U52(K:Â):R2:=λx y H Q=>∃ a b ns ms,x=.ref a/\y=.ref b/\SqT K H a (ns.map V.int)/\SqT K H b (ms.map V.int)/\Q (.bl (HT.leB ns ms)) H
÷p72(hu:X.A.units < Å8):OpR X (ü .LtE) (U52 X.K):=by
 intro pins s σ H x y v u Q I rx ry h
 ¶⟨a,b,ns,ms,rfl,rfl,ha,hb,q⟩:=h
 cases rx;cases ry
 ¶⟨v1,r1,p1,_⟩:=I.tuple ha
 ¶⟨v2,r2,p2,_⟩:=I.tuple hb
 §HT.m41 p1 p2 (show Ë7 v1.toArray.toList ns from intsAre_of r1) (show Ë7 v2.toArray.toList ms from intsAre_of r2) hu ⟨.bl (HT.leB ns ms),H,I,rfl,q⟩
def F92(K:Â):R2:=λx y H Q=>∃ a b xs ys,x=.ref a/\y=.ref b/\SqT K H a xs/\SqT K H b ys/\xs.length + ys.length<=Û/\K71 K H (xs++ys) Q
÷a62:OpR X (Ä2 .Add) (F92 X.K):=by
 intro pins s σ H x y v u Q I rx ry h
 ¶⟨a,b,xs,ys,rfl,rfl,ha,hb,hz,q⟩:=h
 cases rx;cases ry
 ¶⟨v1,r1,p1,_⟩:=I.tuple ha
 ¶⟨v2,r2,p2,_⟩:=I.tuple hb
 by_cases hx:xs=[]
 ·subst hx
  have e:=r1.J00.mpr rfl
  subst e
  §HT.a52 p1 p2 (q.here I hb)
 ·¤HT.Y61 p1 p2 (λz=>hx (r1.J00.mp z)) (λz=>?_) (λz=>q.new I (r1.append r2) (by rw[Â0];§hz)) (by rw[← r1.length,← r2.length];§hz)
  have e:=r2.J00.mp z
  subst e
  rw[append_nil] at q
  §q.here I ha
def G02(K:Â):R2:=λx y H Q=>∃ a k xs,x=.ref a/\y=.int k/\SqT K H a xs/\0<=k/\k < 1000000/\k.toNat * xs.length<=Û/\K71 K H (í k.toNat xs).flatten Q
÷a72:OpR X (Ä2 .Mult) (G02 X.K):=by
 intro pins s σ H x y v u Q I rx ry h
 ¶⟨a,k,xs,rfl,rfl,ha,hk,hk2,hz,q⟩:=h
 cases rx
 ¶⟨t,rfl⟩:=ry
 ¶⟨v1,r1,p1,_⟩:=I.tuple ha
 have hl:=r1.length
 ¶⟨⟨cls,dd,data,sl⟩,ho,hc,n,hd⟩:=id p1
 simp only at hc hd;subst hc hd
 have h1:¬ (decide (k < -(2 ^ 63)) || decide (k ≥ 2 ^ 63))=true:=by simp;omega
 ¤wpAny_binaryOp_repeat_ref (T:="tuple") (U:="int") (by decide) ⟨_,ho,rfl⟩ (λs'=>Ü1 s' k t) HT.z70 F.fills_int_mul Õ6 HT.R50 F.slot_int_index.lookup
  (È4 Õ6 (Ü1 s k t) F.entry_int_rmul (F.args_int_rmul_2 _ _) (HT.m51 k t a v1.toArray n dd sl) ⟨ho,rfl,⟨_,ho,rfl⟩,?_⟩)
 by_cases hx:v1=[]∨k=1
 ·¤È4 Þ0 ⟨_,ho,rfl⟩ Ü7 (Û1 _ _) (HT.K51 a v1.toArray k t n dd sl h1 (by rcases hx with hx | hx <;> simp[hx])) ⟨ho,?_⟩
  have e2:(í k.toNat xs).flatten=xs:=by
   rcases hx with hx | hx
   ·rw[r1.J00.mp hx];simp
   ·rw[hx];simp
  rw[e2] at q
  §q.here I ha
 ·have hv:v1≠[]:=λz=>hx (.inl z)
  have h2:¬ (v1.toArray.isEmpty || k == 1)=true:=by simp[hv];§λz=>hx (.inr z)
  by_cases hk0:k=0
  ·¤È4 Þ0 ⟨_,ho,rfl⟩ Ü7 (Û1 _ _) (HT.mul_zero a v1.toArray k t n dd sl h1 h2 (by simp[hk0])) ⟨ho,?_⟩
   rw[show(í k.toNat xs).flatten=[] by rw[hk0];rfl] at q
   §q.new I .nil (Æ6 _)
  have hpos:0 < v1.length:=List.length_pos_iff.mpr hv
  have hfl:foldl (λx y=>x++y) #[] (í k.toNat v1.toArray)=(í k.toNat v1).flatten.toArray:=by
   have:=foldl_rep v1 k.toNat []
   rw[Í1] at this
   §this
  have hsz:v1.length * k.toNat<=sizeLine:=by rw[← hl,Ó9];§hz
  have hcast:((v1.toArray.size:Nat):Int) * k=((v1.length * k.toNat:Nat):Int):=by rw[Ó,Int.natCast_mul,Int.toNat_of_nonneg (by omega)]
  have hline:(Û:Nat)<=(2 ^ 63 - 1) / 8:=by decide
  ¤È4 Þ0 ⟨_,ho,rfl⟩ Ü7 (Û1 _ _) (HT.K61 a v1.toArray k t n dd sl h1 h2 (by simp[hv];omega) (by rw[hcast];generalize v1.length * k.toNat=m at hsz;omega) (by rw[hcast];generalize v1.length * k.toNat=m at hsz;unfold tupleTooMany;intro z;have z':=of_decide_eq_true z;omega)
   (by rw[hfl,Ó,len_rep,Ó9];§hsz)) ⟨ho,?_⟩
  rw[hfl]
  §q.new I (r1.rep k.toNat) (by rw[len_rep];§hz)
def U62(K:Â):V->Option Int->Option Int->Hp->VK->Prop:=λx lo hi H Q=>∃ a xs,x=.ref a/\SqT K H a xs/\K71 K H (I41 xs lo hi) Q
÷a82:SlR X (U62 X.K):=by
 intro pins s σ H x v vl vu lo hi sl Q I rx hs pl pu h
 ¶⟨a,xs,rfl,hx,q⟩:=h
 cases rx
 ¶⟨its,r,ht,hz⟩:=I.tuple hx
 have hlen:its.toArray.size=xs.length:=by rw[Ó];§r.length.symm
 ¤⟨"tuple",_,ô.lookup,ht.typeIs,?_⟩
 by_cases hw:HT.sIx xs.length 0 lo=0/\HT.sIx xs.length xs.length hi=xs.length
 ·¤HT.s60 ht hs pl pu (by rw[hlen];§hw) ?_
  have e:I41 xs lo hi=xs:=by unfold I41;rw[hw.1,hw.2];simp
  rw[e] at q
  §q.here I hx
 ·¤HT.w50 ht hs pl pu (by rw[hlen];§hw) ?_ (by rw[hlen];§hz)
  rw[hlen]
  §q.new I ((r.drop (HT.sIx xs.length 0 lo)).take (HT.sIx xs.length xs.length hi - HT.sIx xs.length 0 lo)) (Ñ (C00 xs lo hi) hz)
def B62(K:Â)(te ts:TE):TE:=λσ H Q=>te σ H λx H1=>ts σ H1 λy H2=>y=.int (-1)/\((∃ a xs,x=.ref a/\SqT K H2 a xs/\K71 K H2 xs.reverse Q)∨∃ a xs,x=.ref a/\SqL K H2 a xs/\∀ p,H2 p=none->Q (.ref p) (upd H2 p (.lst xs.reverse)))
÷p82{e st:Ò}{te ts:TE}{p2 pos:Pos}(he:PE X e te)(hst:PE X st ts):PE X (.Subscript e (.Slice none none (some st) p2) pos) (B62 X.K te ts):=by
 intro pins s σ H Q I h
 ¤Subscript_ (thn (he pins s σ H _ I h) λv s1 ⟨x,H1,I1,r1,q1⟩=>?_)
 ¤wpAny_Slice ?_
 rw[evalPart_none]
 ¤Å (Å ?_)
 rw[evalPart_some]
 ¤thn (hst pins s1 σ H1 _ I1 q1) λw' s2 ⟨y,H2,I2,r2,q2⟩=>?_
 ¶⟨rfl,q2⟩:=q2
 ¶⟨t,rfl⟩:=r2
 have I4:Inv X pins σ H2 { s2 with heap:=s2.heap.push { cls:=.type "slice",data:=.fields #[.none,.none,.int (-1) t] } }:=I2.kept (t':=s2.toks) λb ob q=>Ã _ q
 show Ï (Ô X.prog X.w) X.A (subscriptTail e (.Slice none none (some st) p2) v (.ref s2.heap.objs.size)) (EP X pins σ Q) X.xe { s2 with heap:=s2.heap.push { cls:=.type "slice",data:=.fields #[.none,.none,.int (-1) t] } }
 rcases q2 with ⟨a,xs,rfl,hq,q⟩ | ⟨a,xs,rfl,hq,q⟩
 ·cases r1
  ¶⟨its,r,ht,hz⟩:=I4.tuple hq
  §tail_any (ops:=[.ref a,.ref s2.heap.objs.size]) ht.typeIs ô.lookup (HT.w80 ht (Ò7 ..) (q.new I4 r.reverse (by rw[Ì3];§hz)) (by rw[← r.length];§hz)) (by with_unfolding_all rfl)
 ·cases r1
  ¶⟨its,r,ht,hz⟩:=I4.list hq
  have hlen:=r.length
  ¤tail_any (ops:=[.ref a,.ref s2.heap.objs.size]) ht.isList.typeIs slot_list_getitem.lookup (wpAny_getItem_list_slice ht.isList (Ò7 ..) .none .none (.int (-1) t) (by simp) ?_ (by rw[Ó] <;> omega)) (by with_unfolding_all rfl)
  rw[PySem.W.krv_pick]
  ¤⟨.ref _,_,I4.laid (t':=s2.toks) (o:=.lst xs.reverse) (λb ob q=>Ã _ q) (Í _) ?_,rfl,q _ (I4.hok.fresh (Í _))⟩
  §⟨by rw[Ì3];§hz,its.reverse,0,r.reverse,Ë _ rfl⟩
÷p92:OpR X (ü .Is) (λx y H Q=>∃ b c,x=.bl b/\y=.bl c/\Q (.bl (b == c)) H):=by
 intro pins s σ H x y v u Q I rx ry h
 ¶⟨b,c,rfl,rfl,q⟩:=h
 cases rx;cases ry
 §is_bool (e31 I q rfl)
÷q02:OpR X (ü .IsNot) (λx y H Q=>∃ b c,x=.bl b/\y=.bl c/\Q (.bl (b != c)) H):=by
 intro pins s σ H x y v u Q I rx ry h
 ¶⟨b,c,rfl,rfl,q⟩:=h
 cases rx;cases ry
 §isnot_bool (e31 I q rfl)
÷Inv.big(I:Inv X pins σ H s):sysModules < s.heap.objs.size:=by
 have h:ã < s.heap.objs.size:=(I.mod.glob.keeps I.bk).lt
 §Nat.lt_trans (by decide) h
def G12:TE:=λ_ H Q=>∀ p,H p=none->Q (.ref p) (upd H p (.dK []))
÷a92{pos:Pos}:PE X (.Dict [] [] pos) G12:=λpins s σ H Q I h =>
 wpAny_Dict_empty ⟨.ref s.heap.objs.size,_,I.laid (a:=s.heap.objs.size) (o:=.dK []) (t':=s.toks) (λ_ _ q=>Ã _ q) (Í _) ⟨Æ6 _,beq_eq_false_iff_ne.mpr (Â3 (Ù I.big)),[],.nil,ì.DictOf.new _⟩,rfl,h _ (I.hok.fresh (Í _))⟩
end
end L2
namespace MySort
open PySem PySem.W PyProof.Rows
section
variable {P:ß}{w:ç}{A:ø}{E:Ä->Æ->Prop}{s:Æ}
÷Y80{l:Ç}{o:Obj}{vs:List Ä}{n:Nat}{Q:List Ä->Æ->Prop}(ho:s.heap.get? l=some o)(hc:o.cls=.type "list"∨o.cls=.type "tuple")(hd:o.data=.seq vs.toArray n)
  (h:Q vs { s with heap:=(s.heap.push (Ã1 "list" #[] 0)).update s.heap.objs.size (À2 (·++vs.toArray)) }) (hz:vs.length<=Û):Ï (Ô P w) A (collect (.ref l)) Q E s:=by
 unfold collect
 ¤À (Ø7 (Â2 entry_proto_collect' ?_));show Ï _ _ (do again (.builtin "list.__iadd__" ⟨[← newList [],.ref l],[]⟩)) _ _ s
 ¤À (Û6 (Å ⟨Ø4 _ (by decide +kernel),Â2 entry_list_iadd' ?_⟩))
 show Ï _ _ (Ä3 (.ref s.heap.objs.size) (.ref l) (.ref s.heap.objs.size)) _ _ { s with heap:=s.heap.push (Ã1 "list" #[] 0) }
 unfold Ä3
 have ho':(s.heap.push (Ã1 "list" #[] 0)).get? l=some o:=Ã _ ho
 have fin:Ï (Ô P w) A (do
   let o ← load s.heap.objs.size
   match o.data with
   |.seq xs _=>pure xs.toList
   |_=>unsupported "internal:collect") Q E { s with heap:=(s.heap.push (Ã1 "list" #[] 0)).update s.heap.objs.size (À2 (·++vs.toArray)) }:=by
  ¤À (wpAny_load (à4 (Ë _ rfl) _) ?_)
  show Ï _ _ (pure ((#[]:Array Ä)++vs.toArray).toList) Q E _
  rw[show((#[]:Array Ä)++vs.toArray).toList=vs by simp];§Å h
 rcases hc with hc | hc
 ·¤À (Ç9 (T:="list") ⟨o,ho',hc⟩ ?_);rw[if_pos (by rw[show(Á7 "list" == Á7 "list")=true by rfl];simp)]
  ¤À (Ð4 ho' hd (À (Ð4 (xs:=#[]) (n:=0) (Ë _ rfl) rfl ?_)));rw[if_neg (by simp)]
  §À (Û7 (xs:=#[]) (n:=0) (Ë _ rfl) rfl (Å fin) (Æ6 _) (by show(#[]++vs.toArray).size<=Û + 1;simp only[Array.size_append,Ó,Á1];omega))
 ·¤À (Ç9 (T:="tuple") ⟨o,ho',hc⟩ ?_);rw[if_pos (by rw[show(Á7 "tuple" == Á7 "tuple")=true by rfl];simp)]
  ¤À (Ð4 ho' hd (À (Ð4 (xs:=#[]) (n:=0) (Ë _ rfl) rfl ?_)));rw[if_neg (by simp)]
  §À (Û7 (xs:=#[]) (n:=0) (Ë _ rfl) rfl (Å fin) (Æ6 _) (by show(#[]++vs.toArray).size<=Û + 1;simp only[Array.size_append,Ó,Á1];omega))
÷t91{l:Ç}{o:Obj}{vs:List Ä}{Pr:List Nat->Prop}{kd:Ì9}{n:Nat}{Q:Ä->Æ->Prop}(ho:s.heap.get? l=some o)(hc:o.cls=.type "list"∨o.cls=.type "tuple")(hd:o.data=.seq vs.toArray n)
  (hk:∀ h',t61 s.heap h'->k82 P w A.in1.in1 { s with heap:=h' } vs Pr kd)
  (h:∀ (p:List Nat) (h':ì) (c:Nat),Pr p->(∀ b o,s.heap.get? b=some o->h'.get? b=some o)->h'.get? (s.heap.objs.size + 1)=some (Ã1 "list" (p.map λi=>vs.getD i â).toArray c)->Q (.ref (s.heap.objs.size + 1)) { s with heap:=h' }) :
  Ï (Ô P w) A (call (.builtin "sorted") [.ref l]) Q E s:=by
 have h64:=(hk s.heap λ_ _ e _=>e).len
 ¤Þ7 kind_sorted plain_sorted entry_sorted (args_sorted1 _) ?_;unfold ÿ.«sorted»
 ¤À (m:=checkCount "sorted" 1 1 _) (Å ?_);¤À (Y80 ho hc hd ?_ (by rw[Á3];omega));¤À (Û6 ?_ (by rw[Á3];omega))
 have hsz:((s.heap.push (Ã1 "list" #[] 0)).update s.heap.objs.size (À2 (·++vs.toArray))).objs.size=s.heap.objs.size + 1:=by rw[ì.size_update,size_push']
 have hoL:(((s.heap.push (Ã1 "list" #[] 0)).update s.heap.objs.size (À2 (·++vs.toArray))).push (Ã1 "list" vs.toArray 0)).get? (s.heap.objs.size + 1)=some (Ã1 "list" vs.toArray 0):=by rw[← hsz];§Ë _ rfl
 have keep:∀ b o,s.heap.get? b=some o->(((s.heap.push (Ã1 "list" #[] 0)).update s.heap.objs.size (À2 (·++vs.toArray))).push (Ã1 "list" vs.toArray 0)).get? b=some o:=λb o q=>by
  have hlt:b < s.heap.objs.size:=à q
  rw[ì.get?_push_ne _ _ _ (by rw[hsz];§Ù (Å0 hlt)),ì.get?_update_ne _ _ _ _ (Ù hlt),ì.get?_push_ne _ _ _ (Ù hlt)];§q
 show Ï _ _ _ _ _ { s with heap:=((s.heap.push (Ã1 "list" #[] 0)).update s.heap.objs.size (À2 (·++vs.toArray))).push (Ã1 "list" vs.toArray 0) }
 rw[hsz]
 ¤À (À8 (À5 slot_list_sort ⟨_,hoL,rfl⟩ entry_list_sort (e91 hoL (λh' kp=>hk h' λb o e hc=>kp b o (keep b o e) hc) λp h' c hp kp hD=>⟨_,rfl,Å ⟨_,rfl,h p h' c hp (λb o e=>kp b o (Ù (Å0 (à e))) (keep b o e)) hD⟩⟩) (args_list_sort _)))
end
end MySort
namespace L2
open PySem PySem.Spec PyProof.Rows
open MySort (sortedBy)
section
variable {X:Cx}
def b02(X:Cx)(H:Hp)(xs:List V)(Pr:List Nat->Prop):Prop:=∀ (pins:List (Ç × Obj)) (σ:St) (s:Æ) (us:List Ä),Inv X pins σ H s->Vals xs us->∃ kd,∀ h',MySort.t61 s.heap h'->MySort.k82 X.prog X.w X.A.in1.in1 { s with heap:=h' } us Pr kd
÷y30:e50 X (.builtin "sorted") (λargs H Q=>∃ a xs,∃ Pr:List Nat->Prop,args=[.ref a]/\(SqL X.K H a xs∨SqT X.K H a xs)/\b02 X H xs Pr/\(∀ p,Pr p->∀ i∈p,i < xs.length)/\∀ p l,Pr p->H l=none->Q (.ref l) (upd H l (.lst (p.map λi=>xs.getD i .non)))):=by
 intro pins s σ H args us Q I r h
 ¶⟨a,xs,Pr,rfl,hq,hk,hpr,q⟩:=h
 ¶⟨u,rfl,rx⟩:=vals1 r
 cases rx
 have go:∀ (its:List Ä) (o:Obj) (n:Nat),Vals xs its->s.heap.get? a=some o->(o.cls=.type "list"∨o.cls=.type "tuple")->o.data=.seq its.toArray n->Ï (Ô X.prog X.w) X.A (call (.builtin "sorted") [.ref a]) (EP X pins σ Q) X.xe s:=λits o n rv ho hc hd=>by
  ¶⟨kd,kw⟩:=hk pins σ s its I rv
  have k0:=kw s.heap λ_ _ e _=>e
  ¤MySort.t91 ho hc hd kw λp h' c hp kp hD=>?_
  have hn:H (s.heap.objs.size + 1)=none:=I.hok.fresh (É8 _ 1)
  have hlen:(p.map λi=>xs.getD i .non).length<=sizeLine:=by rw[É,k0.all p hp,Á3];have:=k0.len;omega
  have rv':Vals (p.map λi=>xs.getD i .non) (p.map λi=>its.getD i â):=by
   have hall:=hpr p hp
   clear hp hD hlen
   induction p with
   |nil=>§.nil
   |cons i r ih =>
    ¤.cons ?_ (ih λj hj=>hall j (È _ hj))
    have hi:=hall i Ì
    ¶⟨u,hu,ru⟩:=rv.get (i:=i) (x:=xs[i]) (by simp[hi])
    have e1:xs.getD i V.non=xs[i]:=by simp[hi]
    have e2:its.getD i â=u:=by rw[Ø,hu];rfl
    show RelV (xs.getD i V.non) (its.getD i â)
    rw[e1,e2];§ru
  §⟨.ref (s.heap.objs.size + 1),_,I.laid (t':=s.toks) kp (É8 _ 1) (show h00 X.prog X.w _ h' _ (.lst _) from⟨hlen,_,c,rv',hD⟩),rfl,q p _ hp hn⟩
 rcases hq with hq | hq
 ·¶⟨its,rv,pl,_⟩:=I.list hq
  ¶⟨o,ho,hc,n,hd⟩:=pl.isList
  §go its o n rv ho (.inl hc) hd
 ·¶⟨its,rv,⟨o,ho,hc,n,hd⟩,_⟩:=I.tuple hq
  §go its o n rv ho (.inr hc) hd
end
section
variable {K:Â}{g:TG}{tt:TT}{te:TE}{σ0:St}{H:Hp}{Q:VK}
÷K81{lo:Int}{n:Nat}(Pv:Nat->List V->Hp->Prop)(hz:n<=Û)(h0:Pv 0 [] H)(hl:∀ i ys H,Pv i ys H->ys.length<=i)
  (hs:∀ i ys H,i < n->Pv i ys H->g (.int (lo + i)) σ0 H λσ2 H2=>tt σ2 H2 λb H3=>if b=true then te σ2 H3 (λy H4=>Pv (i + 1) (ys++[y]) H4) else Pv (i + 1) ys H3)
  (hd:∀ ys H p,Pv n ys H->H p=none->Q (.ref p) (upd H p (.lst ys))):s61 (Itr lo n) σ0 H g tt te Q:=by
 ¤⟨λi m ys H=>m=n - i/\i<=n/\Pv i ys H,⟨n,by simp,Æ6 _,h0⟩,?_⟩
 rintro i m ys H ⟨rfl,hi,p⟩
 have hy:=hl i ys H p
 by_cases hlt:i < n
 ·¤.inr ⟨hlt,by omega,Pv (i + 1),λzs H' p'=>⟨n - (i + 1),by omega,rfl,hlt,p'⟩,λx H' y=>?_⟩
  ¶⟨e,y⟩:=y
  subst e y
  §hs i ys _ hlt p
 ·have e:i=n:=by omega
  subst e
  §.inl ⟨Í _,λz hz=>hd ys H z p hz⟩
end
inductive D where
 |non | bl (b:Bool) | int (i:Int) | str (x:Str) | tup (ds:List D) | lst (ds:List D) | dct
def D.ty:D->String
 |.non=>"NoneType"
 |.bl _=>"bool"
 |.int _=>"int"
 |.str _=>"str"
 |.tup _=>"tuple"
 |.lst _=>"list"
 |.dct=>"dict"
mutual
def Has(K:Â)(H:Hp):D->V->Prop
 |.non,v=>v=.non
 |.bl b,v=>v=.bl b
 |.int i,v=>v=.int i
 |.str x,v=>v=.str x
 |.tup ds,v=>∃ a xs,v=.ref a/\SqT K H a xs/\G60 K H ds xs
 |.lst ds,v=>∃ a xs,v=.ref a/\SqL K H a xs/\G60 K H ds xs
 |.dct,v=>∃ a kvs,v=.ref a/\H a=some (.dK kvs)
def G60(K:Â)(H:Hp):List D->List V->Prop
 |[],xs=>xs=[]
 |d::ds,xs=>∃ x r,xs=x::r/\Has K H d x/\G60 K H ds r
end
def isB(T C:String):Bool:=T == C || (T == "bool"&&C == "int")
÷b12(K:Â)(d:D):∀ C∈["int","bool","tuple","list","str"],Î1 K (.type d.ty) (.type C)=some (isB d.ty C):=by
 intro C hC
 simp only[Â7,À0,or_false] at hC
 rcases hC with rfl | rfl | rfl | rfl | rfl <;> cases d <;> first | rfl | kernel_rfl | decide +kernel
section
variable {X:Cx}
÷K91:e50 X (.builtin "isinstance") (λxs H Q=>∃ d x C,xs=[x,.ty C]/\Has X.K H d x/\C∈["int","bool","tuple","list","str"]/\Q (.bl (isB d.ty C)) H):=by
 intro pins s σ H xs us Q I r h
 ¶⟨d,x,C,rfl,hd,hC,q⟩:=h
 ¶⟨u,w',rfl,rx,rt⟩:=vals2 r
 cases (show w'=Á7 C from rt)
 have e:=b12 X.K d C hC
 have fin:∀ tk,EP X pins σ Q (.bool (isB d.ty C)) { s with toks:=tk }:=λtk=>⟨.bl _,H,I.tok tk,rfl,q⟩
 cases d with
 |non=>unfold Has at hd;subst hd;cases rx;§Ç1 kitx_none I.kIn Ê9 e (λz=>nomatch z) fin
 |bl b=>unfold Has at hd;subst hd;cases rx;§Ç1 kitx_bool I.kIn Ê9 e (λz=>nomatch z) fin
 |int i=>unfold Has at hd;subst hd;¶⟨t,rfl⟩:=rx;§Ç1 kitx_int I.kIn Ê9 e (λz=>nomatch z) fin
 |str y=>unfold Has at hd;subst hd;¶⟨t,rfl⟩:=rx;§Ç1 kitx_str I.kIn Ê9 e (λz=>nomatch z) fin
 |tup ds =>
  unfold Has at hd
  ¶⟨a,ys,rfl,hq,_⟩:=hd
  cases rx
  ¶⟨its,_,⟨o,h1,h2,_⟩,_⟩:=I.tuple hq
  §Ç1 kitx_tuple I.kIn ⟨o,h1,h2⟩ e (λz=>nomatch z) fin
 |lst ds =>
  unfold Has at hd
  ¶⟨a,ys,rfl,hq,_⟩:=hd
  cases rx
  ¶⟨its,_,pl,_⟩:=I.list hq
  ¶⟨o,h1,h2,_⟩:=pl.isList
  §Ç1 kitx_list I.kIn ⟨o,h1,h2⟩ e (λz=>nomatch z) fin
 |dct =>
  unfold Has at hd
  ¶⟨a,kvs,rfl,hq⟩:=hd
  cases rx
  ¶⟨_,_,vs,_,p⟩:=(show h00 X.prog X.w H s.heap a (.dK kvs) from I.hok a _ hq)
  ¶⟨o,es,ep,h1,h2,_⟩:=p
  §Ç1 kitx_dict I.kIn ⟨o,h1,h2.1⟩ e (λz=>nomatch z) fin
end
def hide(st:Ç)(H:Hp):Hp:=λb=>if b=st then none else H b
÷e60(st:Ç)(H:Hp):a30 (hide st H) H:=λb o e=>by
 unfold hide at e
 split at e
 ·cases e
 ·§e
÷C50{st:Ç}{H H':Hp}(e:∀ b o,b≠st->H b=some o->H' b=some o):a30 (hide st H) (hide st H'):=λb o h=>by
 unfold hide at h ⊢
 by_cases q:b=st
 ·rw[if_pos q] at h;cases h
 ·rw[if_neg q] at h ⊢;§e b o q h
÷K40{st b:Ç}{H:Hp}{o:HO}(h:H b=some o)(n:b≠st):hide st H b=some o:=by
 unfold hide;rw[if_neg n];§h
end L2
namespace L2
open PySem PySem.Spec PyProof.Rows
def u01(sc scX:ý)(N own:List Str)(capt:List (Str × Nat)):Bool :=
 sc.kind == .function&&sc.names.all (λy=>y.2 != .cell)&&sc.names.all (λy=>y.2 != .local || sc.names.lookup y.1 == some .local) &&
  sc.names.all (λy=>y.2 != .free || (scX.names.lookup y.1 == some .cell || scX.names.lookup y.1 == some .free))&&capt.all λp=>N[p.2]? == some p.1&&sc.names.lookup p.1 == some .free
÷r70.of{X:Cx}{sc scX:ý}{N own:List Str}{capt:List (Str × Nat)}(e:X.env.scope=scX)(eN:X.N=N)(h:u01 sc scX N own capt=true):r70 X sc own capt:=by
 unfold u01 at h
 simp only[Á] at h
 ¶⟨⟨⟨⟨h1,h2⟩,h3⟩,h4⟩,h5⟩:=h
 rw[Æ9] at h2 h3 h4 h5
 ¤⟨by simpa using h1,λy hy=>by simpa using h2 y hy,λy hy hl=>?_,λy hy hf=>?_,λp hp=>?_⟩
 ·have:=h3 y hy;rw[hl] at this;simpa using this
 ·have:=h4 y hy
  rw[hf] at this
  show X.env.scope.names.lookup y.1=_∨X.env.scope.names.lookup y.1=_
  rw[e]
  simpa using this
 ·have:=h5 p hp
  rw[eN]
  simpa using this
÷gN{i:Nat}{v:V}{σ:St}{H:Hp}{R:St->Hp->Prop}(h:R (σ.set i (some v)) H):X70 i v σ H R:=h
÷L01{σ:St}{H:Hp}{R:Bool->Hp->Prop}(h:R true H):I81 σ H R:=h
÷C60{n:Nat}(h:n<=64):n<=sizeLine:=Ñ h (by decide)
section
variable {X:Cx}
÷q12(K:Â)(d:D):kitAny K (.type d.ty) [.type "tuple",.type "list"]=some (isB d.ty "tuple" || isB d.ty "list"):=by
 have e1:=b12 K d "tuple" (by simp)
 have e2:=b12 K d "list" (by simp)
 unfold kitAny
 rw[e1]
 cases isB d.ty "tuple" with
 |true=>rfl
 |false =>
  show kitAny K (.type d.ty) [.type "list"]=_
  unfold kitAny
  rw[e2]
  cases isB d.ty "list" <;> rfl
÷u11:e50 X (.builtin "isinstance") (λxs H Q=>∃ d x a,xs=[x,.ref a]/\Has X.K H d x/\SqT X.K H a [.ty "tuple",.ty "list"]/\Q (.bl (isB d.ty "tuple" || isB d.ty "list")) H):=by
 intro pins s σ H xs us Q I r h
 ¶⟨d,x,a,rfl,hd,hq,q⟩:=h
 ¶⟨u,w',rfl,rx,rt⟩:=vals2 r
 cases (show w'=Ã3 a from rt)
 ¶⟨its,rv,⟨⟨cls,dd,data,sl⟩,ho,hc,n,hdt⟩,_⟩:=I.tuple hq
 simp only at hc hdt;subst hc hdt
 have eits:its=[.type "tuple",.type "list"]:=by
  cases rv with
  |cons p r=>cases r with
   |cons p2 r2=>cases r2;rw[show _=Á7 "tuple" from p,show _=Á7 "list" from p2]
 subst eits
 have e:=q12 X.K d
 have fin:∀ tk,EP X pins σ Q (.bool (isB d.ty "tuple" || isB d.ty "list")) { s with toks:=tk }:=λtk=>⟨.bl _,H,I.tok tk,rfl,q⟩
 cases d with
 |non=>unfold Has at hd;subst hd;cases rx;§Ö5 kitx_none I.kIn Ê9 ho e (λz=>nomatch z) fin
 |bl b=>unfold Has at hd;subst hd;cases rx;§Ö5 kitx_bool I.kIn Ê9 ho e (λz=>nomatch z) fin
 |int i=>unfold Has at hd;subst hd;¶⟨t,rfl⟩:=rx;§Ö5 kitx_int I.kIn Ê9 ho e (λz=>nomatch z) fin
 |str y=>unfold Has at hd;subst hd;¶⟨t,rfl⟩:=rx;§Ö5 kitx_str I.kIn Ê9 ho e (λz=>nomatch z) fin
 |tup ds =>
  unfold Has at hd
  ¶⟨b,ys,rfl,hq',_⟩:=hd
  cases rx
  ¶⟨_,_,⟨o,h1,h2,_⟩,_⟩:=I.tuple hq'
  §Ö5 kitx_tuple I.kIn ⟨o,h1,h2⟩ ho e (λz=>nomatch z) fin
 |lst ds =>
  unfold Has at hd
  ¶⟨b,ys,rfl,hq',_⟩:=hd
  cases rx
  ¶⟨_,_,pl,_⟩:=I.list hq'
  ¶⟨o,h1,h2,_⟩:=pl.isList
  §Ö5 kitx_list I.kIn ⟨o,h1,h2⟩ ho e (λz=>nomatch z) fin
 |dct =>
  unfold Has at hd
  ¶⟨b,kvs,rfl,hq'⟩:=hd
  cases rx
  ¶⟨_,_,vs,_,p⟩:=(show h00 X.prog X.w H s.heap b (.dK kvs) from I.hok b _ hq')
  ¶⟨o,es,ep,h1,h2,_⟩:=p
  §Ö5 kitx_dict I.kIn ⟨o,h1,h2.1⟩ ho e (λz=>nomatch z) fin
end
open PySem PySem.Spec PyProof.Rows PySem.SeqAt
÷K50(l b:Ç)(es:Array DictEntry)(n:Nat)(it:Array Ä)(n2:Nat)(dd dd2:Option Ç)(sl sl2:Array (Option Ä)) :
  Meets (ÿ.«dict.__ne__» ⟨[.ref l,.ref b],[]⟩) (λ_ R s=>s.heap.get? l=some { cls:=.type "dict",dict:=dd,data:=.dict es n,slots:=sl }/\s.heap.get? b=some { cls:=.type "tuple",dict:=dd2,data:=.seq it n2,slots:=sl2 }/\R (.ok (.ret .notImplemented)) s) :=
 .of_wp λprog w A R s h=>by
  ¶⟨hp,g,d,tk,os⟩:=s
  ¶⟨hl,hb,h⟩:=h
  have f1:=F.sub_tuple_dict
  wp_walk using Ä7 hl,Ä7 hb
  §⟨_,rfl,h⟩
÷K60(l b:Ç)(es:Array DictEntry)(n:Nat)(it:Array Ä)(n2:Nat)(dd dd2:Option Ç)(sl sl2:Array (Option Ä)) :
  Meets (ÿ.«tuple.__ne__» ⟨[.ref b,.ref l],[]⟩) (λ_ R s=>s.heap.get? l=some { cls:=.type "dict",dict:=dd,data:=.dict es n,slots:=sl }/\s.heap.get? b=some { cls:=.type "tuple",dict:=dd2,data:=.seq it n2,slots:=sl2 }/\R (.ok (.ret .notImplemented)) s) :=
 .of_wp λprog w A R s h=>by
  ¶⟨hp,g,d,tk,os⟩:=s
  ¶⟨hl,hb,h⟩:=h
  have f1:=F.sub_dict_tuple
  wp_walk using Ä7 hl,Ä7 hb
  §⟨_,rfl,h⟩
section
variable {X:Cx}
÷b22(hu:X.A.units + 64 < Å8):OpR X (ü .NotEq) (λx y H Q=>∃ a b kvs xs,x=.ref a/\y=.ref b/\H a=some (.dK kvs)/\SqT X.K H b xs/\Q (.bl true) H):=by
 intro pins s σ H x y v u Q I rx ry h
 ¶⟨a,b,kvs,xs,rfl,rfl,ha,hb,q⟩:=h
 cases rx;cases ry
 ¶⟨v2,r2,⟨o2,h2,c2,n2,d2⟩,_⟩:=I.tuple hb
 ¶⟨_,_,vs,_,p⟩:=(show h00 X.prog X.w H s.heap a (.dK kvs) from I.hok a _ ha)
 ¶⟨o1,es,n1,h1,c1,d1,_⟩:=p
 have c1:=c1.1
 ¶⟨cls,dd,data,sl⟩:=o1
 ¶⟨cls2,dd2,data2,sl2⟩:=o2
 simp only at c1 d1 c2 d2
 subst c1 d1 c2 d2
 have hne:a≠b:=λe=>by
  subst e
  rw[h1] at h2
  simp at h2
 have hu':X.A.units < cLine:=by omega
 ¤rc_ne_decline_or (k:=false) ⟨_,h1,rfl⟩ ⟨_,h2,rfl⟩ (by decide) F.sub_tuple_dict F.slot_dict_ne F.slot_tuple_ne_refl
  (λ_ hq=>È4 F.slot_dict_ne ⟨_,h1,rfl⟩ F.entry_dict_ne (F.args_dict_ne_2 _ _) (K50 a b es n1 v2.toArray n2 dd dd2 sl sl2) ⟨h1,h2,hq⟩)
  (λ_ hq=>È4 F.slot_tuple_ne_refl ⟨_,h2,rfl⟩ F.entry_tuple_ne (F.args_tuple_ne_2 _ _) (K60 a b es n1 v2.toArray n2 dd dd2 sl sl2) ⟨h1,h2,hq⟩)
  (λ_ hq=>wpAny_isSame_ref_other hne h1 h2 (by simp) hq) (.inr hu') ⟨.bl true,H,I,rfl,q⟩
end
end L2
namespace L2
open PySem PySem.Spec PyProof.Rows
section
variable {P:ß}{w:ç}{A:ø}{E:Ä->Æ->Prop}{s:Æ}
abbrev eT1(h:ì)(l:Ç):Heap:=h.push { cls:=.type "tuple_iterator",data:=.fields #[.ref l,.int 0 0] }
abbrev eT2(h:ì)(l:Ç):Heap:=(eT1 h l).push { cls:=.type "enumerate",data:=.fields #[.none,.bool false,.ref h.objs.size,Ã7 0,.none,.none] }
÷Y90(l:Ç)(xs:Array Ä) :
  Meets (ÿ.«enumerate.__new__» ⟨[.type "enumerate",.ref l],[]⟩) (λ_ R s=>s.heap.IsTuple l xs/\R (.ok (.ret (.ref (eT1 s.heap l).objs.size))) { s with heap:=eT2 s.heap l }) :=
 .of_wp λP w A R s h=>by
  ¶⟨hp,g,d,tk,os⟩:=s;¶⟨hl,h⟩:=h
  have hsub:=sub_enumerate
  have hL1:Ó4 (Æ.heap ⟨hp,g,d,tk,os⟩) l xs:=hl
  wp_walk;¤wpAny_stack_any λq=>Å ?_;split
  ·rename_i c _ _ _ _ _;cases (c == Á7 "enumerate") <;> (wp_walk using È0 hL1) <;> §⟨_,rfl,h⟩
  ·wp_walk using È0 hL1
   §⟨_,rfl,h⟩
÷m61{l:Ç}{xs:Array Ä}{Q:Ä->Æ->Prop}(hl:s.heap.IsTuple l xs)
  (h:∀ h',IsEnum h' (s.heap.objs.size + 1) s.heap.objs.size 0 .none->h'.IsTupleIter s.heap.objs.size l 0->(∀ c o,s.heap.get? c=some o->h'.get? c=some o)->Q (.ref (s.heap.objs.size + 1)) { s with heap:=h' }) :
  Ï (Ô P w) A (call (.type "enumerate") [.ref l]) Q E s:=by
 ¤callType_new F.called_enumerate (by decide) (F.typeCall_enumerate_1 _) (F.newCall_enumerate_1 _) (λobj=>F.args_object_init_2 obj _) F.entry_enumerate_new (Y90 l xs) ⟨hl,?_⟩
 have n1:(eT1 s.heap l).objs.size=s.heap.objs.size + 1:=Ë5 ..
 have g2:(eT2 s.heap l).get? (eT1 s.heap l).objs.size=some _:=Ë _ rfl
 have g1:(eT2 s.heap l).get? s.heap.objs.size=some _:=Ã _ (Ë _ rfl)
 show _/\_;rw[n1] at g2;rw[n1]
 §⟨⟨_,g2,rfl⟩,h _ g2 ⟨_,g1,rfl,rfl⟩ λc o q=>Ã _ (Ã _ q)⟩
÷u21(hh:A.handled=none){it l:Ç}{xs:Array Ä}(n:l≠it):Draws P w A it [it,l] xs.size (λi x=>xs[i]?=some x) (λi h=>h.IsTupleIter it l i/\h.IsTuple l xs) where
 live:=λi h q=>by ¶⟨⟨o,e,_⟩,_⟩:=q;§⟨o,e⟩
 frame:=λi h h' q k=>by
  ¶⟨⟨o,e,r⟩,⟨o',e',r'⟩⟩:=q
  §⟨⟨o,k it (by simp) _ e,r⟩,⟨o',k l (by simp) _ e',r'⟩⟩
 item:=λi s Q E hi q k=>q10 q.1 q.2 (x:=xs[i]) (by simp[hi]) λh' h1 h2=>k _ h' s.toks (by simp[hi]) ⟨h1,q.2.extBut h2.extBut n⟩ h2
 done:=λs Q E q k=>l50 hh q.1 q.2 (by simp) λh' e h1 h2=>k h' e h1 h2
end
÷T71{P:ß}{w:ç}{A:ø}(b:Bool)(hh:A.handled=none){it l:Ç}{xs:Array Ä}(n:l≠it):Draws P w A it [it,l] xs.size (λi x=>xs[i]?=some x) (λi h=>R20 b h it l i/\J01 b h l xs):=match b with
 |true=>Draws.list hh it l n xs
 |false=>u21 hh n
def Ite(b:Bool)(K:Â)(a:Ç):It :=
 ⟨λi H=>∃ xs x,SqB b K H a xs/\xs[i]?=some x,
  λi H v H'=>∃ T,v=.ref T/\H T=none/\∀ xs x,SqB b K H a xs->xs[i]?=some x->H'=upd H T (.tup [.int i,x]),
  λi H=>∃ xs,SqB b K H a xs/\xs.length=i⟩
÷u31{P:ß}{w:ç}{K:Â}{es:List Ò}{ek:Nat}{ep:Pos}{a e it:Ç}{b:Bool}(h1:e≠it)(h2:a≠e)(h3:a≠it) :
  Turn P w K (.Tuple es ek ep) (Ite b K a) [e,it] e (λi h=>(∃ old,IsEnum h e it i old)/\R20 b h it a i) where
 mem:=by simp
 obj:=λi h st c hc=>by
  ¶⟨⟨old,he⟩,st⟩:=st
  ¶⟨o1,g1,d1,_⟩:=st.obj
  simp only[Â7,À0,or_false] at hc
  rcases hc with rfl | rfl
  ·§⟨_,he,λv e=>by cases e⟩
  ·§⟨_,g1,d1⟩
 keep:=λi h h' st k=>by
  ¶⟨⟨old,he⟩,st⟩:=st
  ¶⟨o1,g1,_,r1⟩:=st.obj
  §⟨⟨old,k e (by simp) _ he⟩,r1 h' (k it (by simp) _ g1)⟩
 item:=by
  intro X hP hw hK hc i pins s σ H E I hf st hg
  subst hP hw hK
  ¶⟨xs,x,hq,hx⟩:=hg
  ¶⟨v1,rv,p1,_,z1⟩:=I.J11 hq
  ¶⟨u,hu,ru⟩:=rv.get hx
  ¶⟨⟨old,he⟩,hi⟩:=st
  have hl:i < v1.toArray.size:=by simpa using (Ý.mp hu).1
  ¤wpAny_pyNext_enum_itemD (T71 (A:=X.A.in1) b (by §I.ok.hd hc) h3) he ⟨hi,p1⟩ hl h1 (by simp[h1,h2.symm]) λy g1 tk hy ge gs gT sz kp=>⟨_,rfl,?_⟩
  have hy':v1[i]?=some y:=by simpa using hy
  rw[hu] at hy';cases hy'
  ¤wpAny_letOwnedTupleGo_enum (s:={ s with heap:=g1,toks:=tk + 1 }) ge λg2 ge2 sb=>?_
  have hT:H s.heap.objs.size=none:=I.hok.fresh (Í _)
  have kall:∀ c o,c ∉ [e,it]->s.heap.get? c=some o->g2.get? c=some o:=λc o hc q=>by
   simp only[Â7,À0,or_false,not_or] at hc
   §sb.extBut _ _ hc.1 (kp c o hc.1 hc.2 q)
  have I2:Inv X pins σ H { s with heap:=g2,toks:=tk + 1 }:=I.J60 (t':=tk + 1) hf kall
  have fT:X80 X pins H s.heap.objs.size:=I.p91 (Í _) hT
  have gT2:g2.get? s.heap.objs.size=some { cls:=.type "tuple",data:=.seq #[.int i tk,u] }:=sb.extBut _ _ (λq=>Á8 _ (by have:=à he;rw[← q] at this;§this)) gT
  have I3:Inv X pins σ (upd H s.heap.objs.size (.tup [.int i,x])) { s with heap:=g2,toks:=tk + 1 }:=I2.I71 fT I.sz (I2.hok.T31 hT (its:=[.int i tk,u]) (.cons ⟨_,rfl⟩ (.cons ru .nil)) (by show 2<=Û;rw[Á3];decide) ⟨_,gT2,rfl,_,rfl⟩)
  ¤⟨.ref s.heap.objs.size,_,I3,rfl,⟨_,rfl,hT,λxs' x' e1 e2=>?_⟩,⟨⟨_,ge2⟩,by ¶⟨o,q1,_,q2⟩:=gs.1.obj;§q2 _ (sb.extBut _ _ h1.symm q1)⟩,λc hc=>?_⟩
  ·rw[z1 _ e1] at e2
   rw[hx] at e2
   cases e2;rfl
  ·rw[a60]
   ·§(hf c hc).1
   ·intro q
    simp only[Â7,À0,or_false] at hc
    rcases hc with hc | hc
    ·§Á8 _ (by have:=à he;rw[← hc,q] at this;§this)
    ·¶⟨o,ho,_⟩:=R20.obj hi;§Á8 _ (by have:=à ho;rw[← hc,q] at this;§this)
 done:=by
  intro X hP hw hK hc i pins s σ H E I hf st hg
  subst hP hw hK
  ¶⟨xs,hq,rfl⟩:=hg
  ¶⟨v1,rv,p1,_,z1⟩:=I.J11 hq
  ¶⟨⟨old,he⟩,hi⟩:=st
  ¤wpAny_pyNext_enum_endD (T71 (A:=X.A.in1) (xs:=v1.toArray) b (by §I.ok.hd hc) h3) he ⟨by rw[show v1.toArray.size=xs.length by simpa using rv.length.symm];§hi,p1⟩ λg kp=>⟨rfl,I.J60 (t':=s.toks) hf λc o hcn q=>?_⟩
  simp only[Â7,À0,or_false,not_or] at hcn
  §kp c o hcn.2 q
 self:=λ_ _ _ _ _ st h=>by ¶⟨⟨_,he⟩,_⟩:=st;§wpAny_pyIter_enum he h
def G22(K:Â)(ta:TA):TI:=λσ H R=>ta σ H λvs H1=>∃ b a,vs=[.ref a]/\(∃ xs,SqB b K H1 a xs)/\R (Ite b K a) H1
÷m71{P:ß}{w:ç}{A:ø}{E:Ä->Æ->Prop}{s:Æ}{b:Bool}{l:Ç}{xs:Array Ä}{Q:Ä->Æ->Prop}(hl:J01 b s.heap l xs)
  (h:∀ h',IsEnum h' (s.heap.objs.size + 1) s.heap.objs.size 0 .none->R20 b h' s.heap.objs.size l 0->(∀ c o,s.heap.get? c=some o->h'.get? c=some o)->Q (.ref (s.heap.objs.size + 1)) { s with heap:=h' }) :
  Ï (Ô P w) A (call (.type "enumerate") [.ref l]) Q E s:=match b,hl,h with
 |true,hl,h=>call_enumerate_list hl λh' a b _ c=>h h' a b c
 |false,hl,h=>m61 hl h
÷u41:ë "enumerate"=some (.type "enumerate"):=by decide +kernel
÷b32{X:Cx}{a:Ò}{es:List Ò}{ek:Nat}{ep:Pos}{ta:TA}{p pos:Pos}(hg:Gl X "enumerate")(hm:X.mg "enumerate"=none)(ha:PA X [a] ta)(hs:þ [a] X.env=[(false,eval a X.env)]:=by rfl) :
  PI X (.Tuple es ek ep) (.Call (.Name "enumerate" p) [a] [] pos) (G22 X.K ta):=by
 intro pins s σ H R I h
 ¤Call_ (t90 I hg hm u41 (Á2 (thn (ha pos pins s σ H _ I h) λus s1 ⟨vs,H1,I1,r1,q1⟩=>?_) (by rw[hs];rfl) (by rfl)))
 ¶⟨b,l1,e,⟨xs,hq1⟩,q⟩:=q1
 subst e
 ¶⟨u,rfl,r⟩:=vals1 r1
 cases r
 ¶⟨v1,rv1,p1,a1,_⟩:=I1.J11 hq1
 ¤m71 p1 λh' he h1 kp=>wpAny_pyIter_enum (s:={ s1 with heap:=h' }) he ?_
 ¤⟨_,[s1.heap.objs.size + 1,s1.heap.objs.size],_,_,H1,rfl,I1.kept (t':=s1.toks) kp,u31 (Nat.succ_ne_self _) (Ù (Å0 a1)) (Ù a1),⟨⟨_,he⟩,h1⟩,λc hc=>?_,q⟩
 have hc':s1.heap.objs.size<=c:=by
  simp only[Â7,À0,or_false] at hc
  rcases hc with rfl | rfl
  ·§É8 _ 1
  ·§Í _
 §I1.p91 hc' (I1.hok.fresh hc')
end L2
namespace HT
open PySem PySem.W PyProof.Rows
set_option maxRecDepth 100000
section
variable {P:ß}{w:ç}{A:ø}{E:Ä->Æ->Prop}{s:Æ}
÷K70{r:Ç}{a b c:Int}{t u v:Tok}{n:Nat}{Q:List Ä->Æ->Prop}(hh:A.handled=none)(hr:Ö0 s.heap r a b c t u v)(hs:Ò2 a b c=true)(hn:Ã8 a b c=n)(hl:n<=2 ^ 24)
  (hQ:∀ (h':ì) (tk:Nat) (acc:Array Ä),(∀ b o,s.heap.get? b=some o->h'.get? b=some o)->s.heap.objs.size<=h'.objs.size->ItemsOf (λi v=>∃ t,v=.int (a + i * c) t) acc n->Q acc.toList { s with heap:=h',toks:=tk }):Ï (Ô P w) A (collect (.ref r)) Q E s:=by
 unfold collect
 ¤À (Ø7 (Â2 PySem.F.entry_proto_collect ?_));rw[Â8 PySem.F.plain_proto_collect _]
 show Ï _ A.in1 (newList [] >>= λl=>again (.builtin "list.__iadd__" ⟨[l,.ref r],[]⟩)) _ _ s
 ¤À (å (Å ⟨Î5 Þ3 _,Â2 PySem.F.entry_list_iadd ?_⟩));rw[Â8 Þ3 _]
 show Ï _ A.in1 (Ä3 (.ref s.heap.objs.size) (.ref r) (.ref s.heap.objs.size)) _ _ { s with heap:=s.heap.push (Ã1 "list" #[] 0) }
 have hS:(s.heap.push (Ã1 "list" #[] 0)).get? s.heap.objs.size=some { cls:=.type "list",data:=.seq #[] 0 }:=Ë _ rfl
 ¤Â1 (wpAny_extend_range (A:=A) (s:={ s with heap:=s.heap.push (Ã1 "list" #[] 0) }) (R:=λx s'=>x=.ok (.ret (.ref s.heap.objs.size))/\∃ h' tk acc c',s'={ s with heap:=h',toks:=tk }/\(∀ b o,s.heap.get? b=some o->h'.get? b=some o)/\h'.get? s.heap.objs.size=some { cls:=.type "list",dict:=none,data:=.seq acc c',slots:=#[] }/\ItemsOf (λi v=>∃ t,v=.int (a + i * c) t) acc n) hh (Ã _ hr) hs hn hl _ (.ref s.heap.objs.size) 0 hS λh' tk acc c' hk hS' hi=>⟨rfl,h',tk,acc,c',rfl,λb o e=>hk b o (Ù (à e)) (Ã _ e),hS',hi⟩) (λfin s' h=>?_) λe s' h=>?_
 ·have go:∀ s',(∃ h' tk acc c',s'={ s with heap:=h',toks:=tk }/\(∀ b o,s.heap.get? b=some o->h'.get? b=some o)/\h'.get? s.heap.objs.size=some { cls:=.type "list",dict:=none,data:=.seq acc c',slots:=#[] }/\ItemsOf (λi v=>∃ t,v=.int (a + i * c) t) acc n)->Ï (Ô P w) A (match Ã3 s.heap.objs.size with
   |Ã3 a=>do
    match (← load a).data with
     |Data.seq xs _=>pure xs.toList
     |_=>unsupported "internal:collect"
   |_=>unsupported "internal:collect") Q E s':=λs' ⟨h',tk,acc,c',e,hk,hS',hi⟩=>by
   subst e
   show Ï _ A (load s.heap.objs.size >>= _) _ _ _
   §À (wpAny_load hS' (Å (hQ h' tk acc hk (É6 (à hS')) hi)))
  cases fin with
  |done f =>
   ¶⟨e,h⟩:=h
   cases e
   §go _ h
  |again c'=>§⟨h.1,È3 h.2 λx s'' hx=>by ¶⟨rfl,hx⟩:=hx;§go _ hx⟩
 ·§absurd h.1 (by simp)
open AutoSeq1 (wpAny_loadPart')
÷C70{r:Ç}{a b c:Int}{t u v:Tok}{n:Nat}{Q:Ä->Æ->Prop}(hh:A.handled=none)(hr:Ö0 s.heap r a b c t u v)(hs:Ò2 a b c=true)(hn:Ã8 a b c=n)(hl:n<=200000)
  (hQ:∀ (h':ì) (tk:Nat) (acc:Array Ä),(∀ b o,s.heap.get? b=some o->h'.get? b=some o)->s.heap.objs.size<=h'.objs.size->ItemsOf (λi v=>∃ t,v=.int (a + i * c) t) acc n->Q (.ref h'.objs.size) { s with heap:=h'.push { cls:=.type "tuple",data:=.seq acc },toks:=tk }) :
  Î6 (Ô P w) A (.call (.builtin "tuple.__new__") ⟨[.type "tuple",.ref r],[]⟩) (wants Q E) s:=by
 ¤à5 ?_;show Ï _ A.in1 (do Õ1 "tuple.__new__" ⟨[.type "tuple",.ref r],[]⟩;again (.builtin "tuple.__new__" ⟨[.type "tuple",.ref r],[]⟩)) _ _ s
 ¤À (ß8 (PySem.F.newCall_tuple_1 _) (Å ⟨Î5 Þ2 _,Â2 PySem.F.entry_tuple_new ?_⟩));rw[Â8 Þ2 _]
 have k1:=sub_tuple_self;have k2:=init_tuple_lookup;have k3:=madeHere_tuple
 have k4:s.TypeIs (.ref r) "range":=⟨_,hr,rfl⟩
 wp_walk using Ç9 k4,K70 (n:=n) (show A.in1.handled=none from hh) hr hs hn (by omega)
 intro h' tk acc hk hz hi
 show Ï _ _ (Ç0 acc.toList.toArray >>= λv=>ret v) _ _ _
 unfold Ç0;rw[Ð1]
 ¤À (å (Å (hQ h' tk acc hk hz hi)) (by show acc.size<=_;rw[hi.1,Á3];omega))
÷tuple_range{r:Ç}{a b c:Int}{t u v:Tok}{n:Nat}{Q:Ä->Æ->Prop}(hh:A.handled=none)(hr:Ö0 s.heap r a b c t u v)(hs:Ò2 a b c=true)(hn:Ã8 a b c=n)(hl:n<=200000)
  (hQ:∀ (h':ì) (tk:Nat) (acc:Array Ä),(∀ b o,s.heap.get? b=some o->h'.get? b=some o)->s.heap.objs.size<=h'.objs.size->ItemsOf (λi v=>∃ t,v=.int (a + i * c) t) acc n->Q (.ref h'.objs.size) { s with heap:=h'.push { cls:=.type "tuple",data:=.seq acc },toks:=tk }):Ï (Ô P w) A (call (.type "tuple") [.ref r]) Q E s:=by
 ¤callType_codes (Q₁:=λobj s₁=>s₁.TypeIs obj "tuple"/\Q obj s₁) Ó8 (PySem.F.typeCall_tuple_1 _) PySem.F.entry_object_init (C70 hh hr hs hn hl λh' tk acc hk hz hi=>⟨⟨_,Ë _ rfl,rfl⟩,hQ h' tk acc hk hz hi⟩) λobj s₁ h₁=>?_
 §⟨h₁.1,PySem.F.args_object_init_2 obj _,object_init_meets Ó8.init.lookup Ó8.made (by decide) P w A.in1 _ s₁ ⟨h₁.1,rfl,h₁.2⟩⟩
end
end HT
namespace L2
open PySem PySem.Spec PyProof.Rows
÷h00.there(x:h00 P w H h a o):∃ u,h.get? a=some u:=by
 cases o with
 |lst xs=>¶⟨_,_,_,_,e⟩:=x;§⟨_,e⟩
 |tup xs=>¶⟨_,_,_,o,e,_⟩:=x;§⟨_,e⟩
 |dK kvs=>¶⟨_,_,_,_,o,_,_,e,_⟩:=x;§⟨_,e⟩
 |dT kvs=>¶⟨_,_,_,_,o,_,_,e,_⟩:=x;§⟨_,e⟩
 |set S n=>¶⟨o,_,_,_,e,_⟩:=x;§⟨_,e⟩
 |ins C dx fs=>¶⟨_,_,_,e,_⟩:=x;§⟨_,e⟩
 |own y=>¶⟨_,e⟩:=x;§⟨_,e⟩
 |xd fs=>¶⟨_,⟨_,_,_,e,_⟩,_⟩:=x;§⟨_,e⟩
 |rng lo hi=>¶⟨_,_,_,e⟩:=x;§⟨_,e⟩
 |frz ob u=>¶⟨e,_⟩:=x;§⟨_,e⟩
 |tbl ps=>§⟨_,(show h.get? a=some _ from x)⟩
 |met f y=>§⟨_,(show h.get? a=some _ from x)⟩
 |ext φ=>¶⟨_,⟨_,e⟩,_⟩:=x;§⟨_,e⟩
def InB(B:ì)(fs:List Ç)(H':Hp)(h h':ì):Prop:=∀ b u,h'.get? b=some u->b ∉ fs->((∃ o,h.get? b=some o)∨H' b≠none)->B.get? b=some u
def CX1(P:ß)(w:ç):CXT:=λouter H s E e s'=>∃ (a:Ç) (cls a0:Ä) (H':Hp) (B:ì),e=.ref a/\s'.os=s.os/\Ó5 s'.gens/\Un (frs outer) [] H H' s.heap s'.heap/\HOk P w H' s'.heap /\
 ì.FlyingW B outer a cls a0 s'.heap/\H' a=none/\InB B (frs outer) H' s.heap s'.heap/\E cls (some a) H'
section
variable {X:Cx}{pins:List (Ç × Obj)}{σ:St}{H H':Hp}{s s':Æ}{B h'':ì}{a:Ç}{cls a0:Ä}{E:XK}
÷Z00(hS:X.stack=X.env::X.outer)(hx:X.ex=[])(hf:X.env.frame=some X.env.locals)(I:Inv X pins σ H s)(os:s'.os=s.os)(bare:Ó5 s'.gens)(un:Un (frs X.stack) [] H H' s.heap s'.heap)(hok:HOk X.prog X.w H' s'.heap)
  (bB:InB B (frs X.stack) H' s.heap s'.heap) (na:H' a=none) (fl:ì.FlyingW B X.outer a cls a0 h'') (sm:s'.heap.UpToSlots h'') (he:E cls (some a) H'):CX1 X.prog X.w X.outer X.H₀ X.s₀ E (.ref a) { s' with heap:=h'' }:=by
 have hfs:frs X.stack=X.env.locals::frs X.outer:=by rw[hS];unfold frs;rw[Á4,hf]
 have U1:=I.base
 rw[hx] at U1
 have U:Un (frs X.stack) [] X.H₀ H' X.s₀.heap s'.heap:=(U1.mono (λb hb=>by rw[hfs];§È _ hb) λb hb=>hb).trans un
 have nL:∀ b o,X.s₀.heap.get? b=some o->b ∉ frs X.outer->b ∉ frs X.stack:=λb o e hn hm=>by
  rw[hfs] at hm
  rcases ú.mp hm with z | z
  ·§absurd (à e) (by rw[z];§Nat.not_lt.mpr I.ok.above)
  ·§hn z
 have frN:∀ b∈frs X.stack,H' b=none:=λb hb=>by
  ¶⟨_,o,ho,_⟩:=I.stack.mem hb
  §un.free b o ho (I.w40 b hb) (by simp)
 have old:∀ b o,X.s₀.heap.get? b=some o->b ∉ frs X.outer->∃ u,s'.heap.get? b=some u/\B.get? b=some u:=λb o e hn=>by
  ¶⟨o1,e1⟩:=U1.there b o e (by simp)
  ¶⟨o2,e2⟩:=un.there b o1 e1 (by simp)
  §⟨o2,e2,bB b o2 e2 (nL b o e hn) (.inl ⟨o1,e1⟩)⟩
 have trk:∀ b,H' b≠none->∃ u,s'.heap.get? b=some u/\B.get? b=some u:=λb hb=>by
  ¶⟨o,e⟩:=Ü9.mp hb
  ¶⟨u,eu⟩:=(hok b o e).there
  §⟨u,eu,bB b u eu (λhm=>by rw[frN b hm] at e;cases e) (.inr hb)⟩
 ¤⟨a,cls,a0,H',B,rfl,os.trans I.os,bare,⟨λb o e n hb _=>?_,λb o e n hb _=>?_,λb o e n hb=>U.free b o e n hb,λb o e _=>?_,U.tups,U.frzs,U.tbls⟩,λc o e=>?_,fl,na,λb u e hn hor=>?_,he⟩
 ·¶⟨u,e1,e2⟩:=old b o e hb
  have e3:=U.keep b o e n (nL b o e hb) (by simp)
  rw[e1] at e3;cases e3
  §fl.1 b _ e2
 ·¶⟨sl,e1⟩:=U.slot b o e n (by rw[hfs];§È _ hb) (by simp)
  ¶⟨_,o',ho',hd⟩:=I.ok.l31.mem hb
  rw[e] at ho';cases ho'
  ¶⟨sl',e2⟩:=sm b _ e1 hd
  §⟨sl',e2⟩
 ·by_cases hb:b∈frs X.outer
  ·¶⟨_,o',ho',_⟩:=fl.2.2.1.mem hb
   §⟨o',ho'⟩
  ·¶⟨u,_,e2⟩:=old b o e hb
   §⟨u,fl.1 b _ e2⟩
 ·¤(hok c o e).l21 (λb u hb q=>?_) (λ_ q=>q) λ_ _ q=>q
  have hbn:H' b≠none:=by
   rcases hb with rfl | hb
   ·rw[e];§λz=>nomatch z
   ·rw[hb];§λz=>nomatch z
  ¶⟨u',e1,e2⟩:=trk b hbn
  rw[q] at e1;cases e1
  §fl.1 b _ e2
 ·have:∃ u',B.get? b=some u':=by
   rcases hor with ⟨o,ho⟩ | hor
   ·¶⟨u',_,e2⟩:=old b o ho hn
    §⟨u',e2⟩
   ·¶⟨u',_,e2⟩:=trk b hor
    §⟨u',e2⟩
  ¶⟨u',e2⟩:=this
  have e3:=fl.1 b _ e2
  rw[e] at e3;cases e3
  §e2
end
section
variable {P:ß}{w:ç}{K:Â}{mg:Str->Option Ä}{base:ì}{N:List Str}{qual:Str}{scope:ý}{f:Ç}{cd:Ä}{A:ø}{outer:List Env}{s₀:Æ}{H₀:Hp}{E:XK}
÷u51(I:Inv (F90 (CX1 P w) P w K mg base N qual scope f cd A outer s₀ H₀ E) pins σ H s)(hx:ì.MadeExcOf s.heap h' e cls vs)(he:E cls (some e) H) :
  (F90 (CX1 P w) P w K mg base N qual scope f cd A outer s₀ H₀ E).xe (.ref e) { s with heap:=h' }:=by
 have hin:∀ env∈(F90 (CX1 P w) P w K mg base N qual scope f cd A outer s₀ H₀ E).stack,∀ a,env.frame=some a->a∈frs (F90 (CX1 P w) P w K mg base N qual scope f cd A outer s₀ H₀ E).stack:=λenv he a ha=>Ø1.mpr ⟨env,he,ha⟩
 have kB:(hideAll s.heap (frs (F90 (CX1 P w) P w K mg base N qual scope f cd A outer s₀ H₀ E).stack)).StaysIn s.heap:=λb o q=>of_hideAll _ q
 show Ï _ _ (leaving _ _) _ _ _
 ¤wpAny_leaves_madeW (base:=hideAll s.heap (frs (F90 (CX1 P w) P w K mg base N qual scope f cd A outer s₀ H₀ E).stack)) (h:=s.heap) I.ok.frames rfl kB (PySem.W.funFrames_hide I.stack hin) hx λh'' t fl _ _ sm=>?_
 have na:H e=none:=by
  cases z:H e with
  |none=>rfl
  |some o=>¶⟨u,eu⟩:=(I.hok e o z).there;rw[hx.new] at eu;cases eu
 ¤Z00 (X:=F90 (CX1 P w) P w K mg base N qual scope f cd A outer s₀ H₀ E) (s':={ s with heap:=h' }) rfl rfl rfl I rfl I.bare (Un.kept hx.keeps) (I.hok.kept hx.keeps) (λb u q hn hor=>?_) na fl sm he
 have:∃ o,s.heap.get? b=some o:=by
  rcases hor with hor | hor
  ·§hor
  ·¶⟨o,z⟩:=Ü9.mp hor
   §(I.hok b o z).there
 ¶⟨o,ho⟩:=this
 have:=hx.keeps b o ho
 have q':h'.get? b=some u:=q
 rw[this] at q';cases q'
 §hideAll_get _ ho hn
÷G32:Passes (CX1 P w) (F90 (CX1 P w) P w K mg base N qual scope f cd A outer s₀ H₀ E) E:=by
 intro pins σ H s e s' I h
 ¶⟨a,cls,a0,H',B,rfl,os,bare,un,hok,fl,na,bB,he⟩:=h
 show Ï _ _ (leaving _ _) _ _ _
 ¤wpAny_leaves_onW I.ok.frames rfl fl λh'' fl' sm=>?_
 §Z00 (X:=F90 (CX1 P w) P w K mg base N qual scope f cd A outer s₀ H₀ E) (s':=s') rfl rfl rfl I os bare un hok bB na fl' sm he
end
÷b42{K:Â}{h:ì}{C:Ç}{bmB:List Ä}{newId:String}(KX:K.In h)(hq:Ì5 K C bmB newId=true) :
  ∃ bm N nm q bs hdct sn sub ab col dd k0 k1 k2 k3 k5 mN,h.get? C=some (excClassObj nm q C N bs bm hdct sn sub ab col dd k0 k1 k2 k3 k5 newId)/\h.Ns N mN/\mN "__init__"=none/\OwnTail h bmB bm:=by
 unfold Ì5 at hq
 split at hq
 case h_2=>cases hq
 case h_1 dd cd sl ho =>
  split at hq
  case h_2=>cases hq
  case h_1 C' bm k0 k1 k2 k3 n k5 hm hs =>
   simp only[Á,beq_iff_eq,À1] at hq
   ¶⟨⟨⟨⟨⟨z1,z2⟩,hdel⟩,ht⟩,hok⟩,hni⟩:=hq
   subst z1 z2
   cases cd with
   |mk nm bs mro ns qn hd sn sub ab col del =>
    dsimp only at hm hdel hok hni
    subst hm hdel
    have esl:sl=#[k0,k1,k2,k3,some (.builtin n),k5]:=by cases sl with | mk l=>simp only at hs;rw[hs]
    subst esl
    ¤⟨bm,ns,nm,qn,bs,hd,sn,sub,ab,col,dd,k0,k1,k2,k3,k5,h.nsMap ns,KX _ _ ho,?_,PySem.W.nsMap_none_of_in KX hok hni,PySem.W.tail_of_in KX ht⟩
    §.of_isNs (PySem.W.isNs_of_in KX hok)
def K80(X:Cx)(E:XK):Prop:=∀ (pins:List (Ç × Obj)) (σ:St) (H:Hp) (s:Æ) (h':ì) (e:Ç) (cls:Ä) (vs:List Ä),Inv X pins σ H s->ì.MadeExcOf s.heap h' e cls vs->E cls (some e) H->X.xe (.ref e) { s with heap:=h' }
÷u61{P:ß}{w:ç}{K:Â}{mg:Str->Option Ä}{base:ì}{N:List Str}{qual:Str}{scope:ý}{f:Ç}{cd:Ä}{A:ø}{outer:List Env}{s₀:Æ}{H₀:Hp}{E:XK} :
  K80 (F90 (CX1 P w) P w K mg base N qual scope f cd A outer s₀ H₀ E) E:=λ_ _ _ _ _ _ _ _ I hx he=>u51 I hx he
def q22(E:XK)(C:Ç)(t:TA):TS:=λ_ σ H=>t σ H λvs H1=>vs.length<=Û/\∀ e,H1 e=none->E (.ref C) (some e) H1
section
variable {X:Cx}{x:Str}{C:Ç}{E:XK}{e₀:Ò}{rest:List Ò}{t:TA}{np cpos pos:Pos}
÷L11(hE:K80 X E)(hc:X.calm=true)(hg:Gl X x)(hm:X.mg x=some (.ref C))(hq:Ì5 X.K C [.type "ValueError",.type "Exception",.type "BaseException",.type "object"] "ValueError.__new__"=true)(ha:PA X (e₀::rest) t)
  (hdb:(x == ("__debug__":Str))=false:=by decide) (he:þ (e₀::rest) X.env=(false,eval e₀ X.env)::þ rest X.env:=by rfl) (hpl:(Õ9 cpos (þ rest X.env)).any (·.1)=false:=by rfl) :
  PS X (.Raise (some (.Call (.Name x np) (e₀::rest) [] cpos)) none pos) (q22 E C t):=by
 intro pins s σ H D I h
 ¶⟨bm,N,nm,q,bs,hdct,sn,sub,ab,col,dd,k0,k1,k2,k3,k5,mN,hC,hN,hni,T⟩:=b42 I.ok.mod.kin hq
 ¤wpAny_Raise_call_subT (C:=C) (nm:=nm) (q:=q) (N:=N) (bs:=bs) (bm:=bm) (hdct:=hdct) (sn:=sn) (sub:=sub) (ab:=ab) (col:=col) (dd:=dd) (k0:=k0) (k1:=k1) (k2:=k2) (k3:=k3) (k5:=k5)
  Ü5 (mN:=mN) (T.hasType Ü5.hasBase) (I.ok.hd hc) (by rw[he];§hpl) hni (I70 I hg hm ⟨rfl,?_⟩ hdb)
 have k:=ha cpos pins s σ H _ I h
 rw[he] at k ⊢
 ¤á2 (thn k λus s2 ⟨vs,H2,I2,r,z,q⟩=>⟨rfl,by show us.length<=_;rw[← r.length];§z,I2.bk _ _ hC,hN.keeps I2.bk,T.keeps I2.bk,λh' e hx=>?_⟩)
 ¤hE pins σ H2 s2 h' e _ us I2 hx (q e ?_)
 cases z:H2 e with
 |none=>rfl
 |some o=>¶⟨u,eu⟩:=(I2.hok e o z).there;rw[hx.new] at eu;cases eu
end
open PySem PySem.Spec PyProof.Rows PySem.W PySem.Builtin PySem.Builtin.ObjectAttr PySem.Builtin.Getset_descriptor
section
variable {prog:ß}{w:ç}{A:ø}{E:Ä->Æ->Prop}{K:Â}{h:ì}{gg:Array Ý9}{d:Drawn}{t:Nat}{os:OsState}{x D:Ç}{ox:Obj}
structure i40(K:PySem.W.Frag)(D:Addr):Prop where
 ga:findIn K (.ref D) "__getattribute__"=some (some (.builtin "BaseException.__getattribute__"))
 gh:findIn K (.ref D) "__getattr__"=some none
 mb:mroIn K D (.type "BaseException")=some true
 mo:mroIn K D (.type "object")=some true
 fc:findIn K (.ref D) "__class__"=some (some (.builtin "object.__class__"))
 fg:specialIn K (.builtin "object.__class__") "__get__"=some (some (.builtin "getset_descriptor.__get__"))
 ft:takesIn K (.builtin "object.__class__")=some true
def excAt(a D:Ç)(h:ì):Prop:=∃ ox,h.get? a=some ox/\ox.cls=.ref D
÷excAt.ty{M:Model}{a D:Ç}{h:ì}(p:excAt a D h):Looks M h (typeOf (.ref a)) (.ref D):=by
 ¶⟨ox,e,c⟩:=p
 rw[← c]
 §(Looks.ld e).andThen .now
÷L21{M:Model}(KX:K.In h)(L:i40 K D):Looks M h (find (.ref x) (.ref D) "__class__") (.bind (.builtin "getset_descriptor.__get__") (.builtin "object.__class__")):=by
 have l1:=looks_takesIn (M:=M) KX L.ft
 have l2:Looks M h (dataDescriptor? (some (.builtin "object.__class__")) (some (.builtin "getset_descriptor.__get__"))) (some (.builtin "getset_descriptor.__get__",.builtin "object.__class__")):=l1.andThen .now
 §(looks_findIn KX L.fc).andThen ((looks_specialIn KX L.fg).andThen (l2.andThen (Looks.tag .now)))
÷b52{R:Result->Æ->Prop}{tp:Ä}(KX:K.In h)(I:excAt x D h)(hm:mroIn K D (.type "object")=some true)(hq:R (.ok (.ret (.ref D))) ⟨h,gg,d,t,os⟩) :
  Î6 (Ô prog w) A (.call (.builtin "getset_descriptor.__get__") ⟨[.builtin "object.__class__",.ref x,tp],[]⟩) R ⟨h,gg,d,t,os⟩:=by
 have L0:=I.ty (M:=Ô prog w)
 have L1:=looks_mroIn (M:=Ô prog w) KX hm
 (¤Ù2 KF.slot_gs.plain KF.entry_gs (KF.slot_gs.check _ _ _ _ _ _ _ _ KF.type_class (KF.args_gs _ _ _) ?_);unfold ÿ.«getset_descriptor.__get__» descrGet;rw[dga_obj];¤À (Å ?_);unfold descrGetter descrCheckInstance descrNameAndClass isInstance;simp only[KF.owner_class];repeat lk)
 (¤⟨Ø4 _ (by decide +kernel),Â2 KF.entry_class ?_⟩;unfold ÿ.«object.__class__» shownTypeOf;repeat lk)
 §hq
÷u71{M:Model}{nameV:Ä}{Q:Unit->Æ->Prop}(KX:K.In h)(I:excAt x D h)(L:i40 K D)(hq:Q () ⟨h,gg,d,t,os⟩) :
  Ï M A (Õ1 "BaseException.__getattribute__" ⟨[.ref x,nameV],[]⟩) Q E ⟨h,gg,d,t,os⟩:=by
 have hkd:builtinKind "BaseException.__getattribute__"=some .slot:=by decide +kernel
 have hsp:splitId "BaseException.__getattribute__"=some ("BaseException","__getattribute__"):=by decide +kernel
 have L0:=I.ty (M:=M)
 have L1:=looks_mroIn (M:=M) KX L.mb
 have ha:=F.args_bexc_ga (.ref x) nameV
 simp only[Õ1,hkd,hsp]
 unfold isInstance
 ¤À (À (L0.at (L1.at ?_)))
 repeat (first | assumption | wp_step)
÷u81{tk:Tok}{Q:Fin->Æ->Prop}(KX:K.In h)(I:excAt x D h)(L:i40 K D)(hq:Q (.done (.ret (.ref D))) ⟨h,gg,d,t,os⟩) :
  Ï (Ô prog w) A (ÿ.«object.__getattribute__» ⟨[.ref x,.str "__class__" tk],[]⟩) Q E ⟨h,gg,d,t,os⟩:=by
 have L0:=I.ty (M:=Ô prog w)
 have L1:=L21 (M:=Ô prog w) (x:=x) KX L
 (unfold ÿ.«object.__getattribute__»);¤À (Å (À (Å (À (L0.at (À (L1.at ?_)))))))
 show Ï _ _ (Ù7 [Ð6 "object.__class__"] (call (.builtin "getset_descriptor.__get__") [.builtin "object.__class__",.ref x,.ref D]) >>= _) _ _ _
 ¤À (À8 (Õ8 (b52 KX I L.mo ?_)))
 §Å hq
÷L31{tk:Tok}{R:Result->Æ->Prop}(KX:K.In h)(I:excAt x D h)(L:i40 K D)(hq:R (.ok (.ret (.ref D))) ⟨h,gg,d,t,os⟩) :
  Î6 (Ô prog w) A (.call (.builtin "BaseException.__getattribute__") ⟨[.ref x,.str "__class__" tk],[]⟩) R ⟨h,gg,d,t,os⟩ :=
 Ù2 F.attr_ValueError.ga.plain F.entry_bexc_ga (u71 KX I L (u81 KX I L hq))
÷q32{tk:Tok}{fill expr:Bool}{Q:Ä->Æ->Prop}(KX:K.In h)(I:excAt x D h)(L:i40 K D)(hq:Q (.ref D) ⟨h,gg,d,t,os⟩) :
  Ï (Ô prog w) A (getAttrBy (.ref x) (.str "__class__" tk) fill expr) Q E ⟨h,gg,d,t,os⟩:=by
 have L0:=I.ty (M:=Ô prog w)
 have L1:=looks_findIn (M:=Ô prog w) KX L.ga
 have L2:=looks_findIn (M:=Ô prog w) KX L.gh
 have f3:=F.attr_ValueError.ga.bind (.ref x)
 have hno:(expr&&onTheHeap (Ð6 "BaseException.__getattribute__"))=false:=by cases expr <;> rfl
 unfold getAttrBy
 (¤À8 (À (L0.at (À (L1.at ?_)))));
 show Ï _ _ (getAttrByItsOwn _ _ _ _ _ _) _ _ _
 unfold getAttrByItsOwn hookBefore
 rw[if_pos (show onTheHeap (Ã3 D)=true from rfl)]
 ¤À (L2.at ?_)
 unfold callGetattribute
 rw[hno,if_neg (by decide)]
 unfold boundAndCalled
 (¤À (Ë4 (À8 ?_)))
 repeat (any_goals (first | assumption | (with_reducible ¤Õ8 (L31 KX I L ?_)) | wp_step))
÷L41(KX:K.In s.heap)(I:excAt x D s.heap)(L:i40 K D)(hq:Q (some (.ref D)) { s with toks:=s.toks + 1 }):Ï (Ô prog w) A (getAttr? (.ref x) "__class__") Q E s:=by
 ¶⟨h,gg,d,t,os⟩:=s
 unfold getAttr? getAttrBy?
 ¤À (wpAny_mkText (À (Ë4 (q32 KX I L ?_))))
 §Å hq
÷L51(L:i40 K D)(hd:hasDictIn K D=true):KitX K (.ref x) (.ref D) (excAt x D) where
 ty:=λ_ _ _ I=>I.ty
 it:=λM h KX _=>by
  ¶⟨cdD,hcD,_⟩:=any_some hd
  unfold clsIn at hcD
  split at hcD
  case h_2=>cases hcD
  case h_1 ho =>
   intro A' Q' E' s' k q
   unfold isType loadHead
   §À (wpAny_loadPart (k _ _ (KX _ _ ho)) (Å q))
 ne:=λh tp dd its n sl KX htp=>by
  ¶⟨cdD,hcD,_⟩:=any_some hd
  ¤Bool.eq_false_iff.mpr λsame=>?_
  cases Ã3.inj (beq_iff_eq.mp same)
  unfold clsIn at hcD
  split at hcD
  case h_2=>cases hcD
  case h_1 ho=>cases (KX _ _ ho).symm.trans htp
 ca:=λKX I k=>L41 KX I L k
end
def q42(H:Hp)(a D:Ç):Prop:=H a=some (.ext (excAt a D))
÷m81{a D:Ç}{h1 h2:ì}(h:excAt a D h1)(k:∀ o,h1.get? a=some o->h2.get? a=some o):excAt a D h2:=by
 ¶⟨ox,e,c⟩:=h
 §⟨ox,k _ e,c⟩
section
variable {X:Cx}
÷m91:e50 X (.builtin "isinstance") (λxs H Q=>∃ (a D:Ç) (c:V) (cv:Ä) (b:Bool),xs=[.ref a,c]/\((∃ C,c=.ref C/\cv=.ref C)∨∃ T,c=.ty T/\cv=.type T)/\q42 H a D/\i40 X.K D/\hasDictIn X.K D=true/\kitOne X.K (.ref D) cv=some b/\Q (.bl b) H):=by
 intro pins s σ H xs us Q I r h
 ¶⟨a,D,c,cv,b,rfl,hc,hx,L,hd,e,q⟩:=h
 ¶⟨u,w',rfl,rx,rt⟩:=vals2 r
 cases (show u=Ã3 a from rx)
 ¶⟨hp,_,_⟩:=(show h00 X.prog X.w H s.heap a (.ext (excAt a D)) from I.hok a _ hx)
 have fin:∀ tk,EP X pins σ Q (.bool b) { s with toks:=tk }:=λtk=>⟨.bl b,H,I.tok tk,rfl,q⟩
 have ew:w'=cv:=by
  rcases hc with ⟨C,rfl,rfl⟩ | ⟨T,rfl,rfl⟩
  ·§rt
  ·§rt
 subst ew
 §kia_one (L51 L hd) I.kIn hp e (λz=>by rcases hc with ⟨C,_,rfl⟩ | ⟨T,_,rfl⟩ <;> §nomatch z) fin
end
end L2
namespace L2
open PySem PySem.Spec PyProof.Rows
section
variable {X:Cx}{pins:List (Ç × Obj)}{σ:St}{H H':Hp}{s s':Æ}{B h4:ì}
÷T81(I:Inv X pins σ H s)(os:s'.os=s.os)(bare:Ó5 s'.gens)(un:Un (frs X.stack) [] H H' s.heap s'.heap)(hok:HOk X.prog X.w H' s'.heap)(bB:InB B (frs X.stack) H' s.heap s'.heap)(kB:B.StaysIn h4)(sm:s'.heap.UpToSlots h4) :
  Inv X pins σ H' { s' with heap:=h4 }:=by
 have frN:∀ b∈frs X.stack,H' b=none:=λb hb=>by
  ¶⟨_,o,ho,_⟩:=I.stack.mem hb
  §un.free b o ho (I.w40 b hb) (by simp)
 have fr4:∀ b o,s.heap.get? b=some o->b∈frs X.stack->∃ sl,h4.get? b=some { o with slots:=sl }:=λb o e hb=>by
  ¶⟨sl,e1⟩:=un.slot b o e (I.w40 b hb) hb (by simp)
  ¶⟨_,o',ho',hd⟩:=I.stack.mem hb
  rw[e] at ho';cases ho'
  ¶⟨sl',e2⟩:=sm b _ e1 hd
  §⟨sl',e2⟩
 have old:∀ b o,s.heap.get? b=some o->b ∉ frs X.stack->∃ u,s'.heap.get? b=some u/\h4.get? b=some u:=λb o e hn=>by
  ¶⟨o2,e2⟩:=un.there b o e (by simp)
  §⟨o2,e2,kB b _ (bB b o2 e2 hn (.inl ⟨o,e⟩))⟩
 ¤I.m12 (s':={ s' with heap:=h4 }) (ch:=[]) os ⟨λb o e n hb _=>?_,λb o e n hb _=>fr4 b o e hb,un.free,λb o e _=>?_,un.tups,un.frzs,un.tbls⟩ (λc o e=>?_) bare λb hb=>absurd hb (by simp)
 ·¶⟨u,e1,e2⟩:=old b o e hb
  have e3:=un.keep b o e n hb (by simp)
  rw[e1] at e3;cases e3
  §e2
 ·by_cases hb:b∈frs X.stack
  ·¶⟨sl,e1⟩:=fr4 b o e hb
   §⟨_,e1⟩
  ·¶⟨u,_,e2⟩:=old b o e hb
   §⟨u,e2⟩
 ·¤(hok c o e).l21 (λb u hb q=>?_) (λ_ q=>q) λ_ _ q=>q
  have hbn:H' b≠none:=by
   rcases hb with rfl | hb
   ·rw[e];§λz=>nomatch z
   ·rw[hb];§λz=>nomatch z
  §kB b _ (bB b u q (λhm=>hbn (frN b hm)) (.inr hbn))
÷Inv.u91{h':ì}{m m':Str->Option Ä}{t':Nat}(I:Inv X pins σ H s)(hl:∀ (i:Nat) (x:Str) (v:V),X.N[i]?=some x->σ[i]?=some (some v)->Vis X.env.scope x->∃ u,RelV v u/\Look X.env s.heap m x u)
  (hn':h'.Ns X.env.locals m') (hs:Ë9 X.env.locals s.heap h') (hm:∀ (i:Nat) (x:Str),X.N[i]?=some x->m' x=m x):Inv X pins σ H { s with heap:=h',toks:=t' }:=by
 have oth:∀ b o,b≠X.env.locals->s.heap.get? b=some o->h'.get? b=some o:=λb o hb e=>(hs.2 b hb).trans e
 have neL:∀ b o,X.s₀.heap.get? b=some o->b≠X.env.locals:=λb o e=>Ù (Ú (à e) I.ok.above)
 have cel:∀ x c v,X.env.cells.lookup x=some c->s.heap.IsCell c v->h'.IsCell c v:=λx c v e ⟨o,ho,hd⟩=>⟨o,oth c o (I.cne x c e) ho,hd⟩
 ¤⟨I.ok,I.os,I.bare,⟨λb o e n hb hx=>oth b o (neL b o e) (I.base.keep b o e n hb hx),λb o e n hb hx=>?_,I.base.free,λb o e hx=>?_,I.base.tups,I.base.frzs,I.base.tbls⟩,⟨m',hn',λi x v e1 e2 e3=>?_⟩,λx c e=>?_,I.free,I.freeC,λp hp=>?_,λc o e=>?_,I.len⟩
 ·¶⟨sl,e1⟩:=I.base.slot b o e n hb hx
  §⟨sl,oth b _ (neL b o e) e1⟩
 ·¶⟨o',e1⟩:=I.base.there b o e hx
  §⟨o',oth b _ (neL b o e) e1⟩
 ·¶⟨u,r,l⟩:=hl i x v e1 e2 e3
  ¤⟨u,r,?_⟩
  rcases l with ⟨k,z⟩ | ⟨k,c,ec,z⟩
  ·§.inl ⟨k,(hm i x e1).trans z⟩
  ·§.inr ⟨k,c,ec,cel x c _ ec z⟩
 ·¶⟨v,z⟩:=I.cell x c e
  §⟨v,cel x c v e z⟩
 ·¶⟨e,n,ne,nf,d⟩:=I.pin p hp
  §⟨oth _ _ ne e,n,ne,nf,d⟩
 ·¤(I.hok c o e).l21 (λb u hb q=>oth b u (λz=>?_) q) (λ_ q=>q) λ_ _ q=>q
  rcases hb with rfl | hb
  ·rw[z,I.free] at e;cases e
  ·rw[z,I.free] at hb;cases hb
÷Inv.q52{T:Ç}{o:HO}(I:Inv X pins σ H s)(nT:H T=none)(n0:X.s₀.heap.get? T=none)(hL:T≠X.env.locals)(hc:∀ x c,X.env.cells.lookup x=some c->c≠T)(hp:∀ p∈X.pn++pins,p.1≠T)(new:h00 X.prog X.w (upd H T o) s.heap T o) :
  Inv X pins σ (upd H T o) s:=by
 have u:=I.base
 ¤⟨I.ok,I.os,I.bare,⟨u.keep,u.slot,λb ob e n hx=>?_,u.there,λb xs e=>?_,λb ob xs e=>?_,λb ps e=>?_⟩,I.loc,I.cell,?_,λx c e=>?_,λp hpp=>?_,λc v e=>?_,I.len⟩
 ·rw[a60 (λz=>by rw[z,n0] at e;cases e)];§u.free b ob e n hx
 ·have z:=u.tups b xs e;rw[a60 (a80 z nT)];§z
 ·have z:=u.frzs b ob xs e;rw[a60 (a80 z nT)];§z
 ·¶⟨more,z⟩:=u.tbls b ps e
  §⟨more,by rw[a60 (a80 z nT)];§z⟩
 ·rw[a60 hL.symm];§I.free
 ·rw[a60 (hc x c e)];§I.freeC x c e
 ·¶⟨e,n,r⟩:=I.pin p hpp
  §⟨e,by rw[a60 (hp p hpp)];§n,r⟩
 ·by_cases hcT:c=T
  ·subst hcT;rw[b20] at e;cases e;§new
  ·rw[a60 hcT] at e
   §(I.hok c v e).l21 (λ_ _ _ q=>q) (λb q=>by rw[a60 (a80 q nT)];§q) λb xs q=>by rw[a60 (a80 q nT)];§q
end
structure n01(P:Program)(w:World)(K:PySem.W.Frag)(mg:Str->Option Value)(base:Heap)(CX:CXT)(k:Nat)(f:Addr)(fd:FuncData)(ps:List Str)(sp:Shared->Sp):Prop where
 len:∀ s vs H Q E,sp s vs H Q E->vs.length=ps.length
 run:∀ (A:Around) (outer:List Env) (s:Shared) (H:Hp) (args:Args) (us:List Value) (vs:List V) (Q:VK) (E:XK),A40 k A->Y41 P w K mg base A outer s H->BindsTo s fd args (ps.zip us)->Vals vs us->sp s vs H Q E ->
  codeAny (model P w) A (.call (.ref f) args) (CR CX outer P w H s Q E) s
÷q62{CX:CXT}{P:ß}{w:ç}{K:Â}{mg:Str->Option Ä}{base:ì}{k:Nat}{f:Ç}{name qual:Str}{params:Î4}{body:List Å1}{scope:ý}{dV kV doc pm cdv ct oc:Ä}{an od:Option Ç}
  {osl:Array (Option Ä)}{N ps:List Str}{sp:Æ->Sp} (lk:K.lookup f=some ⟨oc,od,.func (fnOf name qual params body scope dV kV doc pm an cdv ct),osl⟩) (hcd:PySem.W.codeIn K cdv qual=true) (S:k20 N ps scope)
  (len:∀ s vs H Q E,sp s vs H Q E->vs.length=ps.length)
  (hbody:∀ (A:ø) (outer:List Env) (s:Æ) (H:Hp) (vs:List V) (Q:VK) (E:XK),A40 k (A.deeper (Ï6 qual scope s.heap.objs.size f cdv))->sp s vs H Q E ->
   ∃ t,PSs (F90 CX P w K mg base N qual scope f cdv A outer s H E) body t/\t { nx:=λ_ H'=>Q .non H',rt:=Q } (start N vs) H) :
  n01 P w K mg base CX (k + 1) f (fnOf name qual params body scope dV kV doc pm an cdv ct) ps sp:=by
 ¤⟨len,λA outer s H args us vs Q E hr e0 hb r hsp=>?_⟩
 have hl:=len _ _ _ _ _ hsp
 have KX:K.In s.heap:=e0.mod.kin.keeps λb o e=>(e0.bs b o e).1
 have lim:s.heap.NoLimit:=e0.mod.nolimit.keeps λb o e=>(e0.bs b o e).1
 have hkind:∀ y∈ps.zip us,scope.names.lookup y.1=some .local∨(scope.names.lookup y.1=some .cell/\((cellsFrom (s.heap.objs.size + 1) scope.names []).lookup y.1).isSome=true):=λ⟨n,v⟩ hy=>by
  rcases S.par n (of_mem_zip hy).1 with q | q
  ·§.inl q
  ·§.inr ⟨q,cellsFrom_some _ _ _ (.inl q)⟩
 ¤codeAny_call_function hr.depth (KX _ _ lk) rfl S.co S.gen rfl (codeRec_of KX hcd) (hb _ _ _ _ ?_)
 ¤à8 S.kind hkind λenv he s1 x=>?_
 subst he
 ¤⟨lim.keeps x.toInCall.keep,codeAny_func ?_⟩
 ¶⟨t,ht,hq⟩:=hbody A outer s H vs Q E (hr.deeper _) hsp
 have I:Inv (F90 CX P w K mg base N qual scope f cdv A outer s H E) [] (start N vs) H s1:=Q30 S hr.hd e0 hl r x
 ¤Â1 (ht [] s1 (start N vs) H _ I hq) (λfl s' hs=>?_) λe s' hs=>hs
 have fin:∀ {σ':St}{H':Hp}{v:V}{u:Ä},Inv (F90 CX P w K mg base N qual scope f cdv A outer s H E) [] σ' H' s'->RelV v u->Q v H'->CE outer P w H s Q u s' :=
  λ{σ' H' v u} J rv q=>⟨v,H',J.os,J.bare,J.base,J.hok,rv,q⟩
 cases fl with
 |ret u =>
  ¶⟨v,σ',H',J,rv,q⟩:=hs
  §fin J rv q
 |next =>
  ¶⟨σ',H',J,q⟩:=hs
  §fin (v:=V.non) (u:=â) J rfl q
 |brk =>
  ¶⟨_,_,_,q⟩:=hs
  §À3 q
 |cont =>
  ¶⟨_,_,_,q⟩:=hs
  §À3 q
÷Fun.okS{P:ß}{w:ç}{K:Â}{mg:Str->Option Ä}{base:ì}{x qual:Str}{st:Å1}{f:Ç}{fd:Å2}{N ps:List Str}{k:Nat}{sp:Æ->Sp}(F:Fun K x qual st f fd)(S:k20 N ps (b90 st))(len:∀ s vs H Q E,sp s vs H Q E->vs.length=ps.length)
  (hb:∀ (cdv:Ä) (A:ø) (outer:List Env) (s:Æ) (H:Hp) (vs:List V) (Q:VK) (E:XK),A40 k (A.deeper (Ï6 qual (b90 st) s.heap.objs.size f cdv))->sp s vs H Q E ->
   ∃ t,PSs (F90 CX0 P w K mg base N qual (b90 st) f cdv A outer s H E).nox (i30 st) t/\t { nx:=λ_ H'=>Q .non H',rt:=Q } (start N vs) H):n01 P w K mg base CX0 (k + 1) f fd ps sp:=by
 ¶⟨oc,od,kV,doc,pm,an,cdv,ct,osl,rfl,lk,hcd⟩:=F.ex
 ¤q62 lk hcd S len λA outer s H vs Q E hr hsp=>?_
 ¶⟨t,h,q⟩:=hb cdv A outer s H vs Q E hr hsp
 §⟨t,h.nox,q⟩
def R60(P:ß)(w:ç)(K:Â)(mg:Str->Option Ä)(base:ì)(N:List Str)(qual:Str)(scope:ý)(f:Ç)(cd:Ä)(cl:List (Str × Ç))(A:ø)(outer:List Env)(s:Æ)(H:Hp)(E:XK):Cx where
 prog:=P
 w:=w
 K:=K
 mg:=mg
 base:=base
 A:=A.deeper (envX qual scope s.heap.objs.size f cd cl)
 N:=N
 s₀:=s
 H₀:=H
 env:=envX qual scope s.heap.objs.size f cd cl
 outer:=outer
 stack:=envX qual scope s.heap.objs.size f cd cl::outer
 ex:=[]
 calm:=true
 fn:=λ_=>false
 pn:=[]
 xe:=λe s'=>Ï (Ô P w) (A.deeper (envX qual scope s.heap.objs.size f cd cl)) (leaving (envX qual scope s.heap.objs.size f cd cl) e) (λ_ s''=>CX1 P w outer H s E e s'') (λe' s''=>CX1 P w outer H s E e' s'') s'
section
variable {P:ß}{w:ç}{K:Â}{mg:Str->Option Ä}{base:ì}{N:List Str}{qual:Str}{scope:ý}{f:Ç}{cd:Ä}{cl:List (Str × Ç)}{A:ø}{outer:List Env}{s₀:Æ}{H₀:Hp}{E:XK}
÷b62:Passes (CX1 P w) (R60 P w K mg base N qual scope f cd cl A outer s₀ H₀ E) E:=by
 intro pins σ H s e s' I h
 ¶⟨a,cls,a0,H',B,rfl,os,bare,un,hok,fl,na,bB,he⟩:=h
 show Ï _ _ (leaving _ _) _ _ _
 ¤wpAny_leaves_onW I.ok.frames rfl fl λh'' fl' sm=>?_
 §Z00 (X:=R60 P w K mg base N qual scope f cd cl A outer s₀ H₀ E) (s':=s') rfl rfl rfl I os bare un hok bB na fl' sm he
structure n11(scope:Scope)(cl:List (Str × Addr))(N:List Str)(vs:List V)(H:Hp)(h:Heap):Prop where
 inj:∀ x y c,cl.lookup x=some c->cl.lookup y=some c->x=y
 has:∀ x,(scope.names.lookup x=some .cell∨scope.names.lookup x=some .free)->∃ c,cl.lookup x=some c
 cell:∀ x c,cl.lookup x=some c->∃ v,h.IsCell c v
 free:∀ x c,cl.lookup x=some c->H c=none
 val:∀ (i:Nat) (x:Str) (v:V),N[i]?=some x->vs[i]?=some v->scope.names.lookup x=some .free/\∃ c u,cl.lookup x=some c/\RelV v u/\h.IsCell c (some u)
 len:vs.length=N.length
÷b72{vs:List V}{h₁:ì}{t:Nat}(e0:Y41 P w K mg base A outer s₀ H₀)(hd:A.handled=none)(hk:scope.kind=.function)(FR:n11 scope cl N vs H₀ s₀.heap)(hns:h₁.Ns s₀.heap.objs.size λ_=>none)
  (hkp:∀ b o,s₀.heap.get? b=some o->h₁.get? b=some o) :
  Inv (R60 P w K mg base N qual scope f cd cl A outer s₀ H₀ E) [] (vs.map some) H₀ { s₀ with heap:=h₁,toks:=t }:=by
 have noA:∀ b:Ç,b ∉ (R60 P w K mg base N qual scope f cd cl A outer s₀ H₀ E).ex:=λb z=>absurd (show b∈([]:List Ç) from z) (by simp)
 have cel:∀ c v,s₀.heap.IsCell c v->h₁.IsCell c v:=λc v ⟨o,ho,hd⟩=>⟨o,hkp c o ho,hd⟩
 ¤⟨⟨e0.mod,hk,rfl,rfl,Í _,FR.inj,FR.has,(λ_ _ z=>nomatch z),(λ_=>hd),à7 e0.frames,.inr ⟨rfl,rfl⟩,λb z=>absurd z (noA b),e0.bs,e0.bsz,λb _ _=>noA b,λb z=>absurd z (noA b),e0.l31,e0.frf⟩,
  rfl,e0.bare,Un.kept hkp,⟨_,hns,λi x v h1 h2 h3=>?_⟩,λx c h=>?_,e0.hok.fresh (Í _),FR.free,λp hp=>absurd (show p∈([]:List (Ç × Obj)) from hp) (by simp),e0.hok.kept hkp,?_⟩
 ·have hv:vs[i]?=some v:=by
   rw[Ü] at h2
   cases e:vs[i]? with
   |none=>rw[e] at h2;cases h2
   |some a=>rw[e] at h2;cases h2;rfl
  ¶⟨k,c,u,ec,r,z⟩:=FR.val i x v h1 hv
  §⟨u,r,.inr ⟨.inr k,c,ec,cel c _ z⟩⟩
 ·¶⟨v,z⟩:=FR.cell x c h
  §⟨v,cel c v z⟩
 ·rw[É];§FR.len
end
def recAt(c:Ç)(qual:Str):ì->Prop:=λh=>h.CodeRec (.ref c) qual
÷G70{c:Ç}{qual:Str}{h1 h2:ì}(h:recAt c qual h1)(k:∀ o,h1.get? c=some o->h2.get? c=some o):recAt c qual h2:=by
 ¶⟨c',oc,vs,tq,e,ho,hd,hq⟩:=h
 cases e
 §⟨c,oc,vs,tq,rfl,k _ ho,hd,hq⟩
section
variable {P:ß}{w:ç}{K:Â}{mg:Str->Option Ä}{base:ì}{N:List Str}{qual:Str}{scope:ý}{f c':Ç}{cl:List (Str × Ç)}{s₀:Æ}{H₀:Hp}{k:Nat}{pm ctv cls:Ä}{params:Î4}{body:Ò}{vs:List V}
÷n11.later{outer:List Env}{H:Hp}{s:Æ}(FR:n11 scope cl N vs H₀ s₀.heap)(un:Un (frs outer) [] H₀ H s₀.heap s.heap):n11 scope cl N vs H s.heap:=by
 have cel:∀ x c v,cl.lookup x=some c->s₀.heap.IsCell c v->s.heap.IsCell c v:=λx c v e ⟨o,ho,hd⟩=>by
  ¶⟨sl,e1⟩:=un.any ho (FR.free x c e) (by simp)
  §⟨_,e1,hd⟩
 ¤⟨FR.inj,FR.has,λx c e=>?_,λx c e=>?_,λi x v h1 h2=>?_,FR.len⟩
 ·¶⟨v,z⟩:=FR.cell x c e
  §⟨v,cel x c v e z⟩
 ·¶⟨v,o,ho,_⟩:=FR.cell x c e
  §un.free c o ho (FR.free x c e) (by simp)
 ·¶⟨k,c,u,ec,r,z⟩:=FR.val i x v h1 h2
  §⟨k,c,u,ec,r,cel x c _ ec z⟩
end
def Tab(H:Hp)(P:Ç)(qual:Str):Prop:=∃ ps:Array Ä,H P=some (.tbl ps)/\ß3 ps.toList/\∀ pos c,Ù8 pos ps.toList=some c->∃ c',c=.ref c'/\H c'=some (.ext (recAt c' qual))
÷n21{line col:Int}{pos':Pos}{c c2:Ä}(tl:List Ä)(h:ß3 tl)(e:Ù8 pos' (tl++[Ã7 line,Ã7 col,c])=some c2):c2=c∨Ù8 pos' tl=some c2:=by
 fun_induction ß3 tl with
 |case1 =>
  simp only[Í1,Ù8,Ã7] at e
  split at e
  ·cases e;§.inl rfl
  ·cases e
 |case2 a t b u x rest ih =>
  simp only[List.cons_append,Ù8] at e ⊢
  split at e
  ·rename_i hc;rw[if_pos hc];§.inr e
  ·rename_i hc;rw[if_neg hc];§ih h e
 |case3 tl h1 h2=>§h.elim
÷L61(hf:∀ y∈lsc.names,y.2=.free->∃ c,env.cells.lookup y.1=some c):∃ cl,closureFor lsc env=pure cl/\(∀ x c,cl.lookup x=some c->env.cells.lookup x=some c)/\∀ y∈lsc.names,y.2=.free->∃ c,cl.lookup y.1=some c:=by
 ¶⟨cl,e,h1,_,h3⟩:=J40 env lsc.names [] hf (λx c z=>by simp at z)
 ¤⟨cl,?_,h1,h3⟩
 unfold closureFor
 first
  |(rw[show(forIn lsc.names ([]:List (Str × Ç)) _:Sem _)=_ from e];rfl)
  |(simp only[bind_pure];§e)
structure K90(P:Addr)(H H':Hp):Prop where
 same:∀ b o,b≠P->H b=some o->H' b=some o
section
variable {X:Cx}{pins:List (Ç × Obj)}{σ:St}{H:Hp}{s:Æ}{c P:Ç}{qual:Str}{params:Î4}{body:Ò}{lsc:ý}{lpos:Pos}{A:ø}{Q:Ä->Æ->Prop}{E:Ä->Æ->Prop}
÷L71(I:Inv X pins σ H s)(hdef:defaultsOf params X.env=([],[]))(hcode:X.env.code=.ref c)(hhd:Ä8 X.K c P=true)(TB:Tab H P qual)(hqu:X.env.qual++"<lambda>"=qual)
  (hbm:∃ bm ob,X.mg "__builtins__"=some (.ref bm)/\bm≠Î0/\X.base.get? bm=some ob/\ob.cls=.type "module"/\ob.dict=some Î0/\ob.data=.plain)
  (hfr:∀ y∈lsc.names,y.2=.free->∃ c,X.env.cells.lookup y.1=some c)
  (k:∀ (cl:List (Str × Ç)) (f c':Ç) (pm ctv:Ä) (h2:ì) (tk:Tok) (H2:Hp),(∀ x c,cl.lookup x=some c->X.env.cells.lookup x=some c)->(∀ y∈lsc.names,y.2=.free->∃ c,cl.lookup y.1=some c) ->
   Inv X pins σ H2 { s with heap:=h2,toks:=tk }->Tab H2 P qual->K90 P H H2->(∃ o,h2.get? f=some o/\o.data=.func (kla_fn "<lambda>" qual params body lsc cl pm (.ref c') ctv))->H2 f=none->H2 c'=some (.ext (recAt c' qual))->s.heap.objs.size<=f ->
   Q (.ref f) { s with heap:=h2,toks:=tk }):Ï (Ô X.prog X.w) A (eval (.Lambda params body lsc lpos) X.env) Q E s:=by
 ¤PySem.W.kla_eval hdef ?_
 rw[hqu]
 ¶⟨cl,ecl,cl1,cl2⟩:=L61 hfr
 ¶⟨ps,hP,ht,hall⟩:=TB
 have hPt:s.heap.get? P=some (È5 ps):=I.hok P _ hP
 have hg:=I.mod.glob.keeps I.bk
 have bsN:∀ b o,X.base.get? b=some o->b≠P:=λb o e z=>by have:=(I.bs b o e).2;rw[z,hP] at this;cases this
 have hgP:ã≠P:=by ¶⟨o,_,_,e,_⟩:=I.mod.glob;§bsN _ o e
 ¶⟨bm,ob,b1,b2,b3,b4,b5,b6⟩:=hbm
 have hbGl:bm≠mainGlobals:=λq=>by
  ¶⟨o,es,ep,e,hd,_⟩:=I.mod.glob
  rw[q,e] at b3;(cases b3;rw[hd] at b6;cases b6)
 have BA:s.heap.BuiltinsAt X.mg P:=⟨bm,ob,b1,b2,hbGl,bsN _ _ b3,I.bk _ _ b3,b4,b5,b6⟩
 have CH:=codeHd_of_K I.kIn hhd
 cases hca:Ù8 lpos ps.toList with
 |some cv =>
  ¶⟨c',rfl,hc'⟩:=hall lpos cv hca
  ¤PySem.W.kla_makeFunctionHit ecl I.ok.glob hg hcode CH hPt ht hca BA λctv h' tk hk hsz=>?_
  have kp:∀ b o,s.heap.get? b=some o->(h'.push { cls:=.type "function",data:=.func (kla_fn "<lambda>" qual params body lsc cl ((X.mg "__name__").getD .none) (.ref c') ctv) }).get? b=some o:=λb o e=>Ã _ (hk b o e)
  have nf:H h'.objs.size=none:=I.hok.fresh hsz
  §k cl h'.objs.size c' _ ctv _ tk H cl1 cl2 (I.kept (t':=tk) kp) ⟨ps,hP,ht,hall⟩ ⟨λ_ _ _ e=>e⟩ ⟨_,Ë _ rfl,rfl⟩ nf hc' hsz
 |none =>
  ¤PySem.W.kla_makeFunction ecl I.ok.glob hg hcode CH hPt ht hca hgP BA λc' ctv h' tk hx hge hlt hrec htb=>?_
  have lP:P < s.heap.objs.size:=à hPt
  have cP:c'≠P:=Ê7 (Ú lP hge)
  have nC:H c'=none:=I.hok.fresh hge
  have kp:∀ b o,b≠P->s.heap.get? b=some o->(h'.push (kla_obj "<lambda>" qual params body lsc cl ((X.mg "__name__").getD .none) c' ctv)).get? b=some o:=λb o hb e=>Ã _ (hx b o hb e)
  have tb:(h'.push (kla_obj "<lambda>" qual params body lsc cl ((X.mg "__name__").getD .none) c' ctv)).get? P=some (È5 (ps++#[Ã7 lpos.line,Ã7 lpos.col,.ref c'])):=Ã _ htb
  have rc:recAt c' qual (h'.push (kla_obj "<lambda>" qual params body lsc cl ((X.mg "__name__").getD .none) c' ctv)):=G70 hrec λo q=>Ã _ q
  have h2P:upd (upd H P (.tbl (ps++#[Ã7 lpos.line,Ã7 lpos.col,.ref c']))) c' (.ext (recAt c' qual)) P=some (.tbl (ps++#[Ã7 lpos.line,Ã7 lpos.col,.ref c'])):=by rw[a60 cP.symm];§b20
  have oth:∀ b,b≠P->b≠c'->upd (upd H P (.tbl (ps++#[Ã7 lpos.line,Ã7 lpos.col,.ref c']))) c' (.ext (recAt c' qual)) b=H b:=λb h1 h2=>by rw[a60 h2,a60 h1]
  have neC:∀ b o,H b=some o->b≠c':=λb o e=>a80 e nC
  have I2:Inv X pins σ (upd (upd H P (.tbl (ps++#[Ã7 lpos.line,Ã7 lpos.col,.ref c']))) c' (.ext (recAt c' qual))) { s with heap:=h'.push (kla_obj "<lambda>" qual params body lsc cl ((X.mg "__name__").getD .none) c' ctv),toks:=tk }:=by
   have nP:∀ b,H b=none->b≠P:=λb n z=>by rw[z,hP] at n;cases n
   ¤I.step (g':=s.gens) (d':=s.drawn) (ch:=[]) (λb hb=>absurd hb (by simp)) (λb o _ _ _ e n=>kp b o (nP b n) e) (λb o _ _ _ e n=>⟨o.slots,kp b o (nP b n) e⟩) (λb o _ e n=>?_) (λb o _ e=>?_) (λb xs e=>?_) (λb o u e=>?_) (λb qs e=>?_) (λm hm=>?_) (λb u e=>?_) I.bare
   ·rw[oth b (nP b n) (Ù (Ú (à e) hge))];§n
   ·by_cases hb:b=P
    ·subst hb;§⟨_,tb⟩
    ·§⟨o,kp b o hb e⟩
   ·rw[oth b (λz=>by rw[z,hP] at e;cases e) (neC b _ e)];§e
   ·rw[oth b (λz=>by rw[z,hP] at e;cases e) (neC b _ e)];§e
   ·by_cases hb:b=P
    ·subst hb
     rw[hP] at e;cases e
     §⟨_,h2P⟩
    ·§⟨#[],by rw[oth b hb (neC b _ e),e];simp⟩
   ·¶⟨o,es,ep,ho,r⟩:=hm
    §⟨o,es,ep,kp _ o (nP _ I.free) ho,r⟩
   ·by_cases hbc:b=c'
    ·subst hbc
     rw[b20] at e;cases e
     ¶⟨_,oc,_,_,e1,e2,_⟩:=id rc
     cases e1
     §⟨rc,⟨oc,e2⟩,λh1 h2 p kk=>G70 p kk⟩
    ·by_cases hb:b=P
     ·subst hb
      rw[h2P] at e;cases e
      §tb
     ·rw[oth b hb hbc] at e
      ¤(I.hok b u e).l21 (λb2 u2 hb2 q=>kp b2 u2 (λz=>?_) q) (λb2 q=>?_) λb2 xs q=>?_
      ·rcases hb2 with y | y
       ·§hb (y.symm.trans z)
       ·rw[z,hP] at y;cases y
      ·rw[oth b2 (λz=>by rw[z,hP] at q;cases q) (neC b2 _ q)];§q
      ·rw[oth b2 (λz=>by rw[z,hP] at q;cases q) (neC b2 _ q)];§q
  have lf:s.heap.objs.size<=h'.objs.size:=É6 (Ç5 hge hlt)
  ¤k cl h'.objs.size c' _ ctv _ tk _ cl1 cl2 I2 ⟨_,h2P,?_,λpos cc e=>?_⟩ ⟨λb o hb e=>by rw[oth b hb (neC b _ e)];§e⟩ ⟨_,Ë _ rfl,rfl⟩ ?_ b20 lf
  ·rw[Array.toList_append];§TriplesOk_snoc _ _ _ _ ht
  ·rw[Array.toList_append] at e
   rcases n21 _ ht e with z | z
   ·§⟨c',z,b20⟩
   ·¶⟨c2,rfl,hc2⟩:=hall pos cc z
    §⟨c2,rfl,by rw[oth c2 (λy=>by rw[y,hP] at hc2;cases hc2) (neC c2 _ hc2)];§hc2⟩
  ·rw[oth _ (Ê7 (Ú lP lf)) (Ê7 hlt)];§I.hok.fresh lf
end
def BMain(mg:Str->Option Ä)(h:ì):Prop:=∃ bm ob,mg "__builtins__"=some (.ref bm)/\bm≠Î0/\h.get? bm=some ob/\ob.cls=.type "module"/\ob.dict=some Î0/\ob.data=.plain
÷q72{P:ß}{w:ç}{X:Cx}:Passes (CX1 P w) X (λ_ _ _=>False):=λ_ _ _ _ _ _ _ h=>by
 ¶⟨_,_,_,_,_,_,_,_,_,_,_,_,_,e⟩:=h
 §e.elim
÷Tab.same{H H':Hp}{P:Ç}{q:Str}(t:Tab H P q)(s:a30 H H'):Tab H' P q:=by
 ¶⟨ps,e,tr,h⟩:=t
 ¤⟨ps,s _ _ e,tr,λpos c hc=>?_⟩
 ¶⟨c',e1,e2⟩:=h pos c hc
 §⟨c',e1,s _ _ e2⟩
def FnL(P:ß)(w:ç)(H₀:Hp)(s₀:Æ)(f:Ç)(fd:Å2):Prop:=∀ (outer:List Env) (s:Æ) (H:Hp),Un (frs outer) [] H₀ H s₀.heap s.heap->a30 H₀ H->HOk P w H s.heap->∃ c d sl,s.heap.get? f=some ⟨c,d,.func fd,sl⟩
÷FnL.new{P:ß}{w:ç}{H₀:Hp}{s₀:Æ}{f:Ç}{fd:Å2}(ho:∃ o,s₀.heap.get? f=some o/\o.data=.func fd)(nf:H₀ f=none):FnL P w H₀ s₀ f fd:=λouter s H un _ _=>by
 ¶⟨⟨c,d,dt,sl⟩,e,hd⟩:=ho
 have hd:dt=.func fd:=hd
 subst hd
 ¶⟨sl,h⟩:=un.any e nf (by simp)
 §⟨_,_,sl,h⟩
structure R70(P:Program)(w:World)(K:PySem.W.Frag)(mg:Str->Option Value)(base:Heap)(k:Nat)(f:Addr)(H₀:Hp)(s₀:Shared)(cls:Value)(RR:Hp->Prop):Prop where
 fn:∃ fd,FnL P w H₀ s₀ f fd
 run:∀ (A:Around) (outer:List Env) (s:Shared) (H:Hp),A40 k A->Y41 P w K mg base A outer s H->Un (frs outer) [] H₀ H s₀.heap s.heap->a30 H₀ H ->
  codeAny (model P w) A (.call (.ref f) ⟨[],[]⟩) (CR (CX1 P w) outer P w H s (λ_ _=>False) λc _ H'=>c=cls/\RR H') s
def G42(X:Cx)(i j:Nat)(f C:Ç)(RR:Hp->Prop):TS:=λD σ H=>σ[i]?=some (some (.ref f))/\a30 X.H₀ H/\∀ a H',RR H'->H' a=none->D.nx (σ.set j (some (.ref a))) (upd H' a (.ext (excAt a C)))
section
variable {X:Cx}{k i j:Nat}{f C D:Ç}{x y z n:Str}{p1 p2 p3 p4 p5 p6 p7 p8 p9:Pos}
÷v01(hx0:X.ex=[])(hS:X.stack=X.env::X.outer)(hf:X.env.frame=some X.env.locals)(hr:A40 k X.A)(th:R70 X.prog X.w X.K X.mg X.base k f X.H₀ X.s₀ (.ref C) RR)
  (hy:X.N[i]?=some y) (vy:Vis X.env.scope y) (dy:(y == ("__debug__":Str))=false) (cy:(y == ("__classdict__":Str))=false)
  (hg:Gl X x) (hm:X.mg x=some (.ref D)) (dx:(x == ("__debug__":Str))=false) (he:PySem.W.exmOne X.K (.ref C) (.ref D)=some true)
  (hn:X.env.kindOf n=some .local) (nN:n ∉ X.N) (dn:(n == ("__debug__":Str))=false) (hN:X.N.Nodup) (hz:X.N[j]?=some z) (lz:Loc X.env.scope z) (hfn:X.fn z=true) :
  PS X (.Try [.Expr (.Call (.Name y p1) [] [] p2) p3] [.ExceptHandler (some (.Name x p4)) (some n) [.Assign [.Name z p5] (.Name n p6) p7] p8] [] [] p9) (G42 X i j f C RR):=by
 intro pins s σ H Dd I h
 ¶⟨eσ,sH,q⟩:=h
 have U0:Un (frs X.stack) [] X.H₀ H X.s₀.heap s.heap:=by
  have u:=I.base
  rw[hx0] at u
  §u.mono (λb hb=>by rw[hS];unfold frs;rw[Á4,hf];§È _ hb) λb hb=>hb
 ¶⟨fd,hfd⟩:=th.fn
 ¶⟨c0,d0,sl,hof⟩:=hfd X.stack s H U0 sH I.hok
 have hkind:(X.env.scope.kind == .class || (X.env.scope.kind == .module&&X.env.locals != X.env.globals))=false:=by rw[I.ok.kind];rfl
 ¤wpAny_Try_except (Ô8 ?_)
 ¤wpAny_Expr_any ?_ I.quiet rfl
 ¤Ì0 ?_
 have ld:∀ {Q:Ä->Æ->Prop}{E:Ä->Æ->Prop},Q (.ref f) s->Ï (Ô X.prog X.w) X.A (eval (.Name y p1) X.env) Q E s:=λ{Q E} hq=>by
  ¶⟨m,hnm,hl⟩:=I.loc
  ¶⟨u,r,l⟩:=hl i y _ hy eσ vy
  cases (show u=Ã3 f from r)
  rcases l with ⟨hk,hv⟩ | ⟨hk,c,hc,hcell⟩
  ·§Ñ1 (Î8 I.ok.kind hk hnm hv hq) dy
  ·rcases hk with hk | hk
   ·§Ñ1 (Ú5 I.ok.kind hk hc hcell hq) dy
   ·§Ñ1 (wpAny_loadName_free I.ok.kind hk hc hcell hq cy) dy
 ¤ld ?_
 ¤PySem.W.callWith_of (P:=λh=>h.get? f=some ⟨c0,d0,.func fd,sl⟩) rfl (λh e=>⟨.frame,.inl rfl,?_⟩) (evalArgs_nil3 ⟨hof,?_⟩)
 ·§(Î2 (part:=none) e).andThen .now
 ¤Õ8 (È3 (th.run X.A X.stack s H hr I.E62 U0 sH) λr s1 hq=>?_)
 cases r with
 |ok fl =>
  cases fl with
  |ret u=>¶⟨_,_,_,_,_,_,_,z⟩:=hq;§z.elim
  |next=>§À3 hq
  |brk=>§À3 hq
  |cont=>§À3 hq
 |error e =>
  ¶⟨a,cls,a0,H1,B,rfl,os1,bare1,un,hok,fl,na,bB,rfl,s1H⟩:=hq
  have nA:s.heap.get? a=none:=by
   cases ea:s.heap.get? a with
   |none=>rfl
   |some o =>
    exfalso
    ¶⟨oe,vs,hoe,_,hde,_⟩:=fl.first
    by_cases hb:a∈frs X.stack
    ·¶⟨sl',e1⟩:=un.slot a o ea (I.w40 a hb) hb (by simp)
     ¶⟨_,o',ho',hd'⟩:=I.stack.mem hb
     rw[ea] at ho';cases ho'
     rw[hoe] at e1;cases e1
     §hd' vs hde
    ·have:=bB a oe hoe hb (.inl ⟨o,ea⟩)
     rw[fl.2.1] at this;cases this
  have n0:X.s₀.heap.get? a=none:=by
   cases ea:X.s₀.heap.get? a with
   |none=>rfl
   |some o =>
    ¶⟨o',e1⟩:=U0.there a o ea (by simp)
    rw[nA] at e1;cases e1
  have aL:a≠X.env.locals:=λz=>by
   ¶⟨m,⟨o,_,_,ho,_⟩,_⟩:=I.loc
   rw[z,ho] at nA;cases nA
  have aC:∀ x c,X.env.cells.lookup x=some c->c≠a:=λx c e z=>by
   ¶⟨v,o,ho,_⟩:=I.cell x c e
   rw[z,nA] at ho;cases ho
  have aP:∀ p∈X.pn++pins,p.1≠a:=λp hp z=>by
   have:=(I.pin p hp).1
   rw[z,nA] at this;cases this
  ¤wpAny_looks_onW (I.ok.frames.trans (by rw[hS])) hf (by rw[← hS];§fl) λh2 held2 sm2=>?_
  ¤wpAny_landsW held2 λh3 fl3 sm3=>?_
  have I3:Inv X pins σ H1 { s1 with heap:=h3 }:=T81 I os1 bare1 un hok bB fl3.1 (sm2.trans sm3)
  have at3:excAt a C h3:=by ¶⟨oe,e1,e2⟩:=fl3.there;§⟨oe,e1,e2⟩
  ¤wpAny_handleBy_cons (codeAny_handlers_test ?_) (λz=>nomatch z)
  ¤Ï3 I3.ok.kind hg (à1 (by rw[I3.ok.glob];§I3.mod.glob.keeps I3.bk) hm ?_) dx
  ¤(PySem.W.exm_one (h:=h3) I3.kIn at3.ty he).here ?_
  ¤codeAny_handlers_suite_as (lands_againW fl3 λh4 fl4 sm4=>?_)
  have I4:Inv X pins σ H1 { s1 with heap:=h4 }:=T81 I os1 bare1 un hok bB fl4.1 ((sm2.trans sm3).trans sm4)
  have at4:excAt a C h4:=by ¶⟨oe,e1,e2⟩:=fl4.there;§⟨oe,e1,e2⟩
  ¶⟨m4,hn4,hl4⟩:=id I4.loc
  ¤wpAny_storeName_local hn hn4 (λh5 hn5 hs5=>?_) hkind
  have offN:∀ (i:Nat) (x:Str),X.N[i]?=some x->x≠n:=λi x e z=>nN (by rw[← z];§è e)
  have I5:Inv X pins σ H1 { s1 with heap:=h5,toks:=s1.toks + 1 }:=Inv.u91 (s:={ s1 with heap:=h4 }) I4 hl4 hn5 hs5 λi x e=>if_neg (offN i x e)
  ¤Ô8 (wpAny_Assign_Name ?_ rfl)
  ¤Ñ1 (Î8 I.ok.kind hn hn5 (if_pos rfl) ?_) dn
  ¤B80 (v:=.ref a) I5 hN hz lz rfl (λs6 I6 hsame=>?_) (.inl hfn)
  ¤Ï4 ?_
  show Ï _ _ (do bindName X.env n .none;unbindBehindTheSuite X.env n p8) _ _ _
  ¶⟨m6,hn6,hl6⟩:=id I6.loc
  ¤wpAny_nameGoes_keeps hn hn6 hkind λh7 v7 hn7 hs7=>?_
  have I7:=Inv.u91 (t':=s6.toks + 1) I6 hl6 hn7 hs7 λi x e=>if_neg (offN i x e)
  have at7:excAt a C h7:=by
   ¶⟨oe,e1,e2⟩:=at4
   ¶⟨b6,hb6,hor⟩:=hsame
   have e5:h5.get? a=some oe:=(hs5.2 a aL).trans e1
   have e6:s6.heap.get? a=some oe:=(hb6.2 a (λz=>by
    rcases hor with y | y
    ·§aL (z.trans y)
    ·§aC _ _ y z.symm)).trans e5
   §⟨oe,(hs7.2 a aL).trans e6,e2⟩
  have nT:H1 a=none:=na
  have I8:=Inv.q52 (T:=a) (o:=.ext (excAt a C)) I7 nT n0 aL aC aP ⟨at7,by ¶⟨oe,e1,_⟩:=at7;§⟨oe,e1⟩,λh1 h2 p kk=>m81 p kk⟩
  §⟨_,_,I8,q a H1 s1H na⟩
end
section
variable {P:ß}{w:ç}{K:Â}{mg:Str->Option Ä}{base:ì}{N:List Str}{qual:Str}{scope:ý}{f c':Ç}{cl:List (Str × Ç)}{s₀:Æ}{H₀:Hp}{k:Nat}{pm ctv cls:Ä}{params:Î4}{body:Ò}{vs:List V}
÷n31{RR:Hp->Prop}(hf:FnL P w H₀ s₀ f (kla_fn "<lambda>" qual params body scope cl pm (.ref c') ctv))(hc:H₀ c'=some (.ext (recAt c' qual)))
  (hk:scope.kind=.function) (hco:scope.isCoroutine=false) (hgen:scope.isGenerator=false) (hcell:∀ x∈scope.names,x.2≠.cell)
  (hb:bindArgs (kla_fn "<lambda>" qual params body scope cl pm (.ref c') ctv) ⟨[],[]⟩=pure []) (FR:n11 scope cl N vs H₀ s₀.heap)
  (hbody:∀ (A:ø) (outer:List Env) (s:Æ) (H:Hp),A40 k (A.deeper (envX qual scope s.heap.objs.size f (.ref c') cl))->a30 H₀ H ->
   ∃ t,PE (R60 P w K mg base N qual scope f (.ref c') cl A outer s H λc _ H'=>c=cls/\RR H') body t/\t (vs.map some) H λ_ _=>False) :
  R70 P w K mg base (k + 1) f H₀ s₀ cls RR:=by
 ¤⟨⟨_,hf⟩,λA outer s H hr e0 un sm=>?_⟩
 ¶⟨c0,d0,sl,hof⟩:=hf outer s H un sm e0.hok
 have hrec:s.heap.CodeRec (.ref c') qual:=(e0.hok c' _ (sm _ _ hc)).1
 have lim:s.heap.NoLimit:=e0.mod.nolimit.keeps λb o e=>(e0.bs b o e).1
 ¤PySem.W.kla_callFunE hr.depth hof rfl hco hgen rfl hrec ?_
 rw[hb]
 ¤Å (wpAny_newFunctionEnv hcell (λy hy=>absurd hy (by simp)) (λh₁ hns hsb=>⟨lim.fresh _ hsb,?_⟩) hk)
 show Î6 _ _ (.expr body (envX qual scope s.heap.objs.size f (.ref c') cl)) _ _
 have hkeep1:∀ b o,s.heap.get? b=some o->h₁.get? b=some o:=λb o e=>hsb.extBut b o (Ù (à e)) (Ã _ e)
 ¶⟨t,ht,hq⟩:=hbody A outer s H (hr.deeper _) sm
 have I:Inv (R60 P w K mg base N qual scope f (.ref c') cl A outer s H λc _ H'=>c=cls/\RR H') [] (vs.map some) H { s with heap:=h₁,toks:=s.toks + 0 }:=b72 e0 hr.hd hk (FR.later un) hns hkeep1
 ¤PySem.W.kla_codeExpr (Â1 (ht [] _ _ H _ I hq) (λv s' hv=>?_) λe s' he=>he)
 ¶⟨_,_,_,_,z⟩:=hv
 §z.elim
end
def G52(X:Cx)(P:Ç)(qual:Str)(N:List Str)(lsc:ý)(body:Ò)(k:Nat)(cls:Ä)(RR:Hp->Hp->Prop)(sp:Æ->Sp):TE:=λσ H Q=>Tab H P qual/\∃ vs:List V,vs.length=N.length /\
 (∀ (i:Nat) (x:Str) (v:V),N[i]?=some x->vs[i]?=some v->∃ j:Nat,X.N[j]?=some x/\σ[j]?=some (some v)) /\
 ∀ H2,K90 P H H2->Tab H2 P qual ->
  (∀ (f c':Ç) (cl:List (Str × Ç)) (A:ø) (outer:List Env) (s:Æ) (H3:Hp),A40 k (A.deeper (envX qual lsc s.heap.objs.size f (.ref c') cl))->a30 H2 H3 ->
   ∃ t,PE (R60 X.prog X.w X.K X.mg X.base N qual lsc f (.ref c') cl A outer s H3 λc _ H'=>c=cls/\RR H2 H') body t/\t (vs.map some) H3 λ_ _=>False) /\
  ∀ (s2:Æ) (f:Ç),R70 X.prog X.w X.K X.mg X.base (k + 1) f H2 s2 cls (RR H2)->sp s2 [.ref f] H2 Q λ_ _ _=>False
section
variable {X:Cx}{c P f:Ç}{fd:Å2}{qual g par:Str}{N:List Str}{params:Î4}{body:Ò}{lsc:ý}{lpos p pos:Pos}{k kr:Nat}{cls:Ä}{sp:Æ->Sp}
÷Z10{RR:Hp->Hp->Prop}(F:n01 X.prog X.w X.K X.mg X.base CX0 kr f fd [par] sp)(hr:A40 kr X.A)(hg:Gl X g)(hm:X.mg g=some (.ref f))(hk:Ó7 X.K (.ref f)=true)(hb:Binds X.K fd [par] [])
  (hcode:X.env.code=.ref c) (hhd:Ä8 X.K c P=true) (hqu:X.env.qual++"<lambda>"=qual)
  (hbm:∃ bm ob,X.mg "__builtins__"=some (.ref bm)/\bm≠Î0/\X.base.get? bm=some ob/\ob.cls=.type "module"/\ob.dict=some Î0/\ob.data=.plain)
  (hfr:∀ y∈lsc.names,y.2=.free->X.env.kindOf y.1=some .cell) (hnc:∀ y∈lsc.names,y.2≠.cell) (hNf:∀ x∈N,lsc.names.lookup x=some .free)
  (lk:lsc.kind=.function) (lco:lsc.isCoroutine=false) (lge:lsc.isGenerator=false) (hdef:defaultsOf params X.env=([],[]))
  (hbd:∀ (cl:List (Str × Ç)) (pm ctv:Ä) (c':Ç),bindArgs (kla_fn "<lambda>" qual params body lsc cl pm (.ref c') ctv) ⟨[],[]⟩=pure [])
  (hdb:(g == ("__debug__":Str))=false:=by decide) (he:þ [.Lambda params body lsc lpos] X.env=[(false,eval (.Lambda params body lsc lpos) X.env)]:=by rfl) :
  PE X (.Call (.Name g p) [.Lambda params body lsc lpos] [] pos) (G52 X P qual N lsc body k cls RR sp):=by
 intro pins s σ H Q I h
 ¶⟨TB,vs,hlen,hvs,q⟩:=h
 ¤Ì0 (I70 I hg hm ?_ hdb)
 ¤callWith_K (h₀:=X.base) I.ok.mod.kin hk ?_ he rfl
 rw[he]
 ¤Ö8 (L71 I hdef hcode hhd TB hqu hbm (λy hy hf=>I.ok.has y.1 (.inl (hfr y hy hf))) λcl f' c' pm ctv h2 tk H2 cl1 cl2 I2 TB2 KB ho nf hc _=>?_)
 have FR:n11 lsc cl N vs H2 h2:=by
  ¤⟨λx y c e1 e2=>I2.ok.inj x y c (cl1 x c e1) (cl1 y c e2),λx hx=>?_,λx c e=>I2.cell x c (cl1 x c e),λx c e=>I2.freeC x c (cl1 x c e),λi x v h1 h2=>?_,hlen⟩
  ·rcases hx with hx | hx
   ·§absurd rfl (hnc _ (Â4 hx))
   ·§cl2 _ (Â4 hx) rfl
  ·have hf:=hNf x (è h1)
   have mem:=Â4 hf
   have kc:X.env.kindOf x=some .cell:=hfr _ mem rfl
   ¶⟨j,e1,e2⟩:=hvs i x v h1 h2
   ¶⟨m,_,hl⟩:=I2.loc
   ¶⟨u,r,l⟩:=hl j x v e1 e2 (Ù9 (Ò4 kc))
   ¶⟨c2,ec2⟩:=cl2 _ mem rfl
   ¤⟨hf,c2,u,ec2,r,?_⟩
   rcases l with ⟨kl,_⟩ | ⟨_,c3,ec3,z⟩
   ·rw[kc] at kl;cases kl
   ·have:=cl1 _ _ ec2
    rw[ec3] at this;cases this
    §z
 ¶⟨q1,q2⟩:=q H2 KB TB2
 have th:R70 X.prog X.w X.K X.mg X.base (k + 1) f' H2 { s with heap:=h2,toks:=tk } cls (RR H2):=n31 (s₀:={ s with heap:=h2,toks:=tk }) (.new ho nf) hc lk lco lge hnc (hbd cl pm ctv c') FR λA outer s H3 hr sm=>q1 f' c' cl A outer s H3 hr sm
 ¤Ð3 ⟨I2.kIn,?_⟩
 have hsp:=q2 { s with heap:=h2,toks:=tk } f' th
 ¤Õ8 (È3 (F.run X.A X.stack { s with heap:=h2,toks:=tk } H2 ⟨[.ref f'],[]⟩ [.ref f'] [.ref f'] Q _ hr I2.E62 (hb _ [.ref f'] I2.kIn rfl) (.cons rfl .nil) hsp) λr s' hq=>?_)
 cases r with
 |error e=>§À3 hq
 |ok fl =>
  cases fl with
  |ret u=>§I2.after hq
  |next=>§À3 hq
  |brk=>§À3 hq
  |cont=>§À3 hq
end
abbrev B82:List Str:=["_law_call","_law_error","_law_marks"]
abbrev q82:Scope:={ kind:=.function,names:=[(".0",.local),("_law_k",.local),("_law_marks",.free)],isGenerator:=false,isCoroutine:=false,more:=[] }
abbrev u50:Scope:={ kind:=.function,names:=[("_law_call",.local),("_law_error",.local),("e",.local),("_law_marks",.cell),("ChanceError",.globalImplicit),("isinstance",.globalImplicit),("NoWeb",.globalImplicit),("NoLot",.globalImplicit),("NoPlaces",.globalImplicit),("NoPlace",.globalImplicit),("NoTie",.globalImplicit),("NoChance",.globalImplicit),("NoChances",.globalImplicit),("NoPaper",.globalImplicit),("TooMany",.globalImplicit),("NoText",.globalImplicit),("NoLine",.globalImplicit),("NoDeed",.globalImplicit),("ValueError",.globalImplicit),("range",.globalImplicit)],isGenerator:=false,isCoroutine:=false,more:=[("fast",.str "_law_call"),("fast",.str "_law_error"),("fast",.str "e"),("fast",.str "_law_marks"),("fast",.str "_law_k")] }
def Z20(n:Nat):List Stmt:=[.Assign [(.Name "_law_error" ⟨n,4,n,14⟩)] (.Constant .none 0 ⟨n,17,n,21⟩) ⟨n,4,n,21⟩,
   .Try [.Expr (.Call (.Name "_law_call" ⟨n + 2,8,n + 2,17⟩) [] [] ⟨n + 2,8,n + 2,19⟩) ⟨n + 2,8,n + 2,19⟩] [.ExceptHandler (some (.Name "ChanceError" ⟨n + 3,11,n + 3,22⟩)) (some "e") [.Assign [(.Name "_law_error" ⟨n + 4,8,n + 4,18⟩)] (.Name "e" ⟨n + 4,21,n + 4,22⟩) ⟨n + 4,8,n + 4,22⟩] ⟨n + 3,4,n + 4,22⟩] [] [] ⟨n + 1,4,n + 4,22⟩,
   .Assign [(.Name "_law_marks" ⟨n + 5,4,n + 5,14⟩)] (.List [(.Call (.Name "isinstance" ⟨n + 5,18,n + 5,28⟩) [(.Name "_law_error" ⟨n + 5,29,n + 5,39⟩),(.Name "NoWeb" ⟨n + 5,41,n + 5,46⟩)] [] ⟨n + 5,18,n + 5,47⟩),(.Call (.Name "isinstance" ⟨n + 5,49,n + 5,59⟩) [(.Name "_law_error" ⟨n + 5,60,n + 5,70⟩),(.Name "NoLot" ⟨n + 5,72,n + 5,77⟩)] [] ⟨n + 5,49,n + 5,78⟩),(.Call (.Name "isinstance" ⟨n + 5,80,n + 5,90⟩) [(.Name "_law_error" ⟨n + 5,91,n + 5,101⟩),(.Name "NoPlaces" ⟨n + 5,103,n + 5,111⟩)] [] ⟨n + 5,80,n + 5,112⟩)] ⟨n + 5,17,n + 5,113⟩) ⟨n + 5,4,n + 5,113⟩,
   .Assign [(.Name "_law_marks" ⟨n + 6,4,n + 6,14⟩)] (.BinOp (.Name "_law_marks" ⟨n + 6,17,n + 6,27⟩) .Add (.List [(.Call (.Name "isinstance" ⟨n + 6,31,n + 6,41⟩) [(.Name "_law_error" ⟨n + 6,42,n + 6,52⟩),(.Name "NoPlace" ⟨n + 6,54,n + 6,61⟩)] [] ⟨n + 6,31,n + 6,62⟩),(.Call (.Name "isinstance" ⟨n + 6,64,n + 6,74⟩) [(.Name "_law_error" ⟨n + 6,75,n + 6,85⟩),(.Name "NoTie" ⟨n + 6,87,n + 6,92⟩)] [] ⟨n + 6,64,n + 6,93⟩),(.Call (.Name "isinstance" ⟨n + 6,95,n + 6,105⟩) [(.Name "_law_error" ⟨n + 6,106,n + 6,116⟩),(.Name "NoChance" ⟨n + 6,118,n + 6,126⟩)] [] ⟨n + 6,95,n + 6,127⟩)] ⟨n + 6,30,n + 6,128⟩) ⟨n + 6,17,n + 6,128⟩) ⟨n + 6,4,n + 6,128⟩,
   .Assign [(.Name "_law_marks" ⟨n + 7,4,n + 7,14⟩)] (.BinOp (.Name "_law_marks" ⟨n + 7,17,n + 7,27⟩) .Add (.List [(.Call (.Name "isinstance" ⟨n + 7,31,n + 7,41⟩) [(.Name "_law_error" ⟨n + 7,42,n + 7,52⟩),(.Name "NoChances" ⟨n + 7,54,n + 7,63⟩)] [] ⟨n + 7,31,n + 7,64⟩),(.Call (.Name "isinstance" ⟨n + 7,66,n + 7,76⟩) [(.Name "_law_error" ⟨n + 7,77,n + 7,87⟩),(.Name "NoPaper" ⟨n + 7,89,n + 7,96⟩)] [] ⟨n + 7,66,n + 7,97⟩),(.Call (.Name "isinstance" ⟨n + 7,99,n + 7,109⟩) [(.Name "_law_error" ⟨n + 7,110,n + 7,120⟩),(.Name "TooMany" ⟨n + 7,122,n + 7,129⟩)] [] ⟨n + 7,99,n + 7,130⟩)] ⟨n + 7,30,n + 7,131⟩) ⟨n + 7,17,n + 7,131⟩) ⟨n + 7,4,n + 7,131⟩,
   .Assign [(.Name "_law_marks" ⟨n + 8,4,n + 8,14⟩)] (.BinOp (.Name "_law_marks" ⟨n + 8,17,n + 8,27⟩) .Add (.List [(.Call (.Name "isinstance" ⟨n + 8,31,n + 8,41⟩) [(.Name "_law_error" ⟨n + 8,42,n + 8,52⟩),(.Name "NoText" ⟨n + 8,54,n + 8,60⟩)] [] ⟨n + 8,31,n + 8,61⟩),(.Call (.Name "isinstance" ⟨n + 8,63,n + 8,73⟩) [(.Name "_law_error" ⟨n + 8,74,n + 8,84⟩),(.Name "NoLine" ⟨n + 8,86,n + 8,92⟩)] [] ⟨n + 8,63,n + 8,93⟩),(.Call (.Name "isinstance" ⟨n + 8,95,n + 8,105⟩) [(.Name "_law_error" ⟨n + 8,106,n + 8,116⟩),(.Name "NoDeed" ⟨n + 8,118,n + 8,124⟩)] [] ⟨n + 8,95,n + 8,125⟩)] ⟨n + 8,30,n + 8,126⟩) ⟨n + 8,17,n + 8,126⟩) ⟨n + 8,4,n + 8,126⟩,
   .If (.UnaryOp .Not (.Call (.Name "isinstance" ⟨n + 9,11,n + 9,21⟩) [(.Name "_law_error" ⟨n + 9,22,n + 9,32⟩),(.Name "ValueError" ⟨n + 9,34,n + 9,44⟩)] [] ⟨n + 9,11,n + 9,45⟩) ⟨n + 9,7,n + 9,45⟩) [.Return (some (.Constant .none 0 ⟨n + 10,15,n + 10,19⟩)) ⟨n + 10,8,n + 10,19⟩] [] ⟨n + 9,4,n + 10,19⟩,
   .Return (some (.ListComp (.Name "_law_k" ⟨n + 11,12,n + 11,18⟩) [{ target:=(.Name "_law_k" ⟨n + 11,23,n + 11,29⟩),iter:=(.Call (.Name "range" ⟨n + 11,33,n + 11,38⟩) [(.Constant (.int 12) 0 ⟨n + 11,39,n + 11,41⟩)] [] ⟨n + 11,33,n + 11,42⟩),ifs:=[(.Subscript (.Name "_law_marks" ⟨n + 11,46,n + 11,56⟩) (.Name "_law_k" ⟨n + 11,57,n + 11,63⟩) ⟨n + 11,46,n + 11,64⟩)],is_async:=0 }] q82 ⟨n + 11,11,n + 11,65⟩)) ⟨n + 11,4,n + 11,65⟩]
÷q92:u01 q82 u50 B82 ["_law_k"] [("_law_marks",2)]=true:=by decide +kernel
÷L81(K:Â)(hK:X.K=K:=by rfl):IxR X (F02 K):=by subst hK;§Y10
abbrev names12:List Str:=["NoWeb","NoLot","NoPlaces","NoPlace","NoTie","NoChance","NoChances","NoPaper","TooMany","NoText","NoLine","NoDeed"]
structure R80(K:PySem.W.Frag)(mg:Str->Option Value)(C:Addr)(j:Nat):Prop where
 cl:∀ (i:Nat) (x:Str),names12[i]?=some x->∃ Ci,mg x=some (.ref Ci)/\PySem.W.kitOne K (.ref C) (.ref Ci)=some (decide (i=j))
 lk:i40 K C
 hd:PySem.W.hasDictIn K C=true
 ve:PySem.W.kitOne K (.ref C) (.type "ValueError")=some true
 nv:mg "ValueError"=none
 ce:∃ D,mg "ChanceError"=some (.ref D)/\PySem.W.exmOne K (.ref C) (.ref D)=some true
 lt:j < 12
÷R90:ë "ValueError"=some (.type "ValueError"):=by decide +kernel
÷L00:ë "isinstance"=some (.builtin "isinstance"):=by decide +kernel
def b82(P:ß)(w:ç)(K:Â)(mg:Str->Option Ä)(base:ì)(k:Nat):Æ->Sp:=λs vs H Q _=>∃ (f C:Ç) (j:Nat) (RR:Hp->Prop),vs=[.ref f]/\R70 P w K mg base k f H s (.ref C) RR/\R80 K mg C j/\∀ l H1 H',RR H1->a30 H1 H'->H' l=none->Q (.ref l) (upd H' l (.lst [.int j]))
abbrev C80(j:Nat):List V:=[V.bl (decide (0=j)),.bl (decide (1=j)),.bl (decide (2=j))]++[.bl (decide (3=j)),.bl (decide (4=j)),.bl (decide (5=j))]++[.bl (decide (6=j)),.bl (decide (7=j)),.bl (decide (8=j))]++[.bl (decide (9=j)),.bl (decide (10=j)),.bl (decide (11=j))]
÷L91{i j:Nat}(h:i < 12):atI (C80 j) (0 + (i:Int))=some (.bl (decide (i=j))):=by
 rw[Ô1]
 ¤w60 ?_
 rw[show C80 j=(î 12).map λi=>V.bl (decide (i=j)) from rfl,Ü,Ê0 h];rfl
section
variable {P:ß}{w:ç}{K:Â}{mg:Str->Option Ä}{base:ì}
÷scR:k20 B82 ["_law_call"] u50:=⟨rfl,rfl,rfl,by decide +kernel,rfl,by decide +kernel,by decide +kernel⟩
÷ndR:(d30 ["_law_k"] [("_law_marks",2)]).Nodup:=by decide +kernel
def tIs(K:Â)(c:V)(cv:Ä):TE:=λσ H Q=>∃ (a C:Ç) (b:Bool),σ[1]?=some (some (.ref a))/\q42 H a C/\i40 K C/\PySem.W.hasDictIn K C=true/\Î1 K (.ref C) cv=some b/\Q (.bl b) H
def U72(K:Â)(c0 c1 c2:Ç):TE:=λσ H Q=>∃ (a C:Ç) (b0 b1 b2:Bool),σ[1]?=some (some (.ref a))/\q42 H a C/\i40 K C/\PySem.W.hasDictIn K C=true/\Î1 K (.ref C) (.ref c0)=some b0/\Î1 K (.ref C) (.ref c1)=some b1/\Î1 K (.ref C) (.ref c2)=some b2/\∀ l,H l=none->Q (.ref l) (upd H l (.lst [.bl b0,.bl b1,.bl b2]))
section
variable {X:Cx}{c0 c1 c2:Ç}{x x0 x1 x2:Str}{p p0 p1 p2 p3 q0 q1 q2 q3 r0 r1 r2 r3:Pos}
÷M01(hN:X.N[1]?=some ("_law_error":Str))(hv:Vis X.env.scope "_law_error")(hi:Gl X "isinstance")(Ti:X.mg "isinstance"=none)(hc:PE X (.Name x p2) (tC c))(hcv:(∃ C,c=.ref C/\cv=.ref C)∨∃ T,c=.ty T/\cv=.type T):PE X (.Call (.Name "isinstance" p0) [.Name "_law_error" p1,.Name x p2] [] p3) (tIs X.K c cv) :=
 λpins s σ H Q I q=>by
  ¶⟨a,C,b,e,h1,h2,h3,h4,h5⟩:=q
  have g:=u00 (p:=p0) (pos:=p3) m91 hi Ti L00 (d90 (o50 (i:=1) (pos:=p1) hN hv) (d90 hc r60))
  §g pins s σ H Q I ⟨_,e,a,C,_,_,b,rfl,hcv,h1,h2,h3,h4,h5⟩
÷f31(hN:X.N[1]?=some ("_law_error":Str))(hv:Vis X.env.scope "_law_error")(hi:Gl X "isinstance")(Ti:X.mg "isinstance"=none)(g0:PE X (.Name x0 p2) (tC (.ref c0)))(g1:PE X (.Name x1 q2) (tC (.ref c1)))(g2:PE X (.Name x2 r2) (tC (.ref c2))) :
  PE X (.List [.Call (.Name "isinstance" p0) [.Name "_law_error" p1,.Name x0 p2] [] p3,.Call (.Name "isinstance" q0) [.Name "_law_error" q1,.Name x1 q2] [] q3,.Call (.Name "isinstance" r0) [.Name "_law_error" r1,.Name x2 r2] [] r3] p) (U72 X.K c0 c1 c2) :=
 λpins s σ H Q I q=>by
  ¶⟨a,C,b0,b1,b2,e,h1,h2,h3,k0,k1,k2,h5⟩:=q
  §T11 (d90 (M01 hN hv hi Ti g0 (.inl ⟨c0,rfl,rfl⟩)) (d90 (M01 hN hv hi Ti g1 (.inl ⟨c1,rfl,rfl⟩)) (d90 (M01 hN hv hi Ti g2 (.inl ⟨c2,rfl,rfl⟩)) r60))) pins s σ H Q I
   ⟨a,C,b0,e,h1,h2,h3,k0,a,C,b1,e,h1,h2,h3,k1,a,C,b2,e,h1,h2,h3,k2,C60 (by show 3<=64;decide),h5⟩
end
÷r02{st:Å1}{f:Ç}{fd:Å2}{k n:Nat}(F:Fun K "_law_refused" "_law_refused" st f fd)(es:b90 st=u50)(eb:i30 st=Z20 n)(Ti:mg "isinstance"=none)(Tr:mg "range"=none):n01 P w K mg base CX0 (k + 1) f fd ["_law_call"] (b82 P w K mg base k):=by
 ¤F.okS (by rw[es];§scR) (λs vs H Q E h=>?_) (λcdv A outer s H vs Q E hr h=>?_)
 ·¶⟨f,C,j,RR,rfl,_⟩:=h;rfl
 ·¶⟨g,C,j,RR,rfl,th,R,q⟩:=h
  have hsc:=q92
  rw[es] at hr
  rw[es,eb]
  unfold Z20
  clear eb
  ¶⟨c0,m0,k0⟩:=R.cl 0 _ rfl
  ¶⟨c1,m1,k1⟩:=R.cl 1 _ rfl
  ¶⟨c2,m2,k2⟩:=R.cl 2 _ rfl
  ¶⟨c3,m3,k3⟩:=R.cl 3 _ rfl
  ¶⟨c4,m4,k4⟩:=R.cl 4 _ rfl
  ¶⟨c5,m5,k5⟩:=R.cl 5 _ rfl
  ¶⟨c6,m6,k6⟩:=R.cl 6 _ rfl
  ¶⟨c7,m7,k7⟩:=R.cl 7 _ rfl
  ¶⟨c8,m8,k8⟩:=R.cl 8 _ rfl
  ¶⟨c9,m9,k9⟩:=R.cl 9 _ rfl
  ¶⟨c10,m10,k10⟩:=R.cl 10 _ rfl
  ¶⟨c11,m11,k11⟩:=R.cl 11 _ rfl
  ¶⟨D,mD,kD⟩:=R.ce
  ¤⟨_,j60 (y20 (i:=1) scR.nd rfl (Ò4 rfl) q61)
   (j60 (v01 (i:=0) (j:=1) (f:=g) (C:=C) (D:=D) (k:=k) rfl rfl rfl hr th rfl (Ò4 rfl) (by decide) (by decide) rfl mD (by decide) kD rfl (by show ¬ (("e":Str)∈B82);decide +kernel) (by decide) scR.nd rfl (Ò4 rfl) rfl)
   (j60 (y20 (i:=2) scR.nd rfl (Ù9 rfl) (f31 rfl (Ò4 rfl) rfl Ti (f60 rfl m0 rfl) (f60 rfl m1 rfl) (f60 rfl m2 rfl)))
   (j60 (y20 (i:=2) scR.nd rfl (Ù9 rfl) (H71 s11 (pv 2) (f31 rfl (Ò4 rfl) rfl Ti (f60 rfl m3 rfl) (f60 rfl m4 rfl) (f60 rfl m5 rfl))))
   (j60 (y20 (i:=2) scR.nd rfl (Ù9 rfl) (H71 s11 (pv 2) (f31 rfl (Ò4 rfl) rfl Ti (f60 rfl m6 rfl) (f60 rfl m7 rfl) (f60 rfl m8 rfl))))
   (j60 (y20 (i:=2) scR.nd rfl (Ù9 rfl) (H71 s11 (pv 2) (f31 rfl (Ò4 rfl) rfl Ti (f60 rfl m9 rfl) (f60 rfl m10 rfl) (f60 rfl m11 rfl))))
   (j60 (m92 (S51 (q71 (M01 (cv:=.type "ValueError") rfl (Ò4 rfl) rfl Ti (I80 (v:=.ty "ValueError") rfl R.nv R90 rfl) (.inr ⟨_,rfl,rfl⟩)))) (q91 (e11 q61)) q81)
   (q91 (e11 (s71 (own:=["_law_k"]) (capt:=[("_law_marks",2)]) rfl (by §r70.of (scX:=u50) (N:=B82) rfl rfl hsc) (P50 rfl Tr (d90 P30 r60))
    (λcl C s H fp=>r01 (i:=0) ndR rfl (Ò4 rfl)) (λcl C s H fp=>s51 (q71 (Z01 (L81 K) (pv 1) (pv 0) (λ_ _=>rfl)))) (λcl C s H fp=>pv 0)))))))))),?_⟩
  ¤⟨rfl,a30.refl H,λa H1 s1 na=>?_⟩
  have hX:q42 (upd H1 a (.ext (excAt a C))) a C:=b20
  have keep:∀ {H'},a30 (upd H1 a (.ext (excAt a C))) H'->q42 H' a C:=λsm=>sm _ _ hX
  ¤⟨a,C,_,_,_,rfl,hX,R.lk,R.hd,k0,k1,k2,λl1 hl1=>?_⟩
  have t1:=a30.new (.lst [.bl (decide (0=j)),.bl (decide (1=j)),.bl (decide (2=j))]) hl1
  ¤⟨_,rfl,a,C,_,_,_,rfl,keep t1,R.lk,R.hd,k3,k4,k5,λl2 hl2=>?_⟩
  have t2:=a30.new (.lst [.bl (decide (3=j)),.bl (decide (4=j)),.bl (decide (5=j))]) hl2
  ¤⟨l1,l2,_,_,rfl,rfl,t2 _ _ b20,b20,C60 (by show 3 + 3<=64;decide),λl3 hl3=>?_⟩
  have t3:=t1.trans (t2.trans (a30.new (.lst ([.bl (decide (0=j)),.bl (decide (1=j)),.bl (decide (2=j))]++[.bl (decide (3=j)),.bl (decide (4=j)),.bl (decide (5=j))])) hl3))
  ¤⟨_,rfl,a,C,_,_,_,rfl,keep t3,R.lk,R.hd,k6,k7,k8,λl4 hl4=>?_⟩
  have t4:=a30.new (.lst [.bl (decide (6=j)),.bl (decide (7=j)),.bl (decide (8=j))]) hl4
  ¤⟨l3,l4,_,_,rfl,rfl,t4 _ _ b20,b20,C60 (by show 6 + 3<=64;decide),λl5 hl5=>?_⟩
  have t5:=t3.trans (t4.trans (a30.new (.lst ([.bl (decide (0=j)),.bl (decide (1=j)),.bl (decide (2=j))]++[.bl (decide (3=j)),.bl (decide (4=j)),.bl (decide (5=j))]++[.bl (decide (6=j)),.bl (decide (7=j)),.bl (decide (8=j))])) hl5))
  ¤⟨_,rfl,a,C,_,_,_,rfl,keep t5,R.lk,R.hd,k9,k10,k11,λl6 hl6=>?_⟩
  have t6:=a30.new (.lst [.bl (decide (9=j)),.bl (decide (10=j)),.bl (decide (11=j))]) hl6
  ¤⟨l5,l6,_,_,rfl,rfl,t6 _ _ b20,b20,C60 (by show 9 + 3<=64;decide),λl7 hl7=>?_⟩
  have t7:=t5.trans (t6.trans (a30.new (.lst (C80 j)) hl7))
  ¤⟨a,C,_,rfl,keep t7,R.lk,R.hd,R.ve,_,rfl,S32 ?_⟩
  ¤⟨12,rfl,by decide,by decide,K81 (lo:=0) (n:=12) (λi ys H'=>a30 (upd H1 a (.ext (excAt a C))) H'/\H' l7=some (.lst (C80 j))/\ys=if j < i then [.int j] else []) (C60 (by decide)) ⟨t7,b20,by rw[if_neg (by omega)]⟩ (λi ys H' p=>by rw[p.2.2];split <;> simp <;> omega) ?_ ?_⟩
  ·rintro i ys H' hi ⟨s8,h8,rfl⟩
   ¤gN ?_
   ¤⟨_,rfl,_,rfl,l7,C80 j,0 + (i:Int),.bl (decide (i=j)),rfl,rfl,SqL.of h8,L91 hi,_,rfl,?_⟩
   ¤S42 (λe=>?_) (λe=>?_)
   ·have ej:i=j:=of_decide_eq_true e
    subst ej
    ¤⟨_,rfl,s8,h8,?_⟩
    rw[if_neg (by omega),if_pos (by omega),Ô1];rfl
   ·have ej:¬ i=j:=λz=>e (decide_eq_true z)
    ¤⟨s8,h8,?_⟩
    by_cases hj:j < i
    ·rw[if_pos hj,if_pos (by omega)]
    ·rw[if_neg hj,if_neg (by omega)]
  ·rintro ys H' p ⟨s8,_,rfl⟩ hp
   rw[if_pos R.lt]
   §q p H1 H' s1 ((a30.new _ na).trans s8) hp
end
end L2
namespace SS
open PySem
def bts(m:Nat):List Nat:=(î 8).filter λi=>m.testBit i
def add(m v:Nat):Nat:=m ||| 2 ^ v
def tbl(led:Bool)(m:Nat):SetTable:=if (bts m).length < 5 then⟨7,(bts m).toArray,#[],0,led,0,true⟩ else⟨31,(bts m).toArray,#[],0,led,1,true⟩
def q01(led:Bool)(m v:Nat):SetTable:={ tbl led m with place:=(bts (add m v)).toArray }
def pos(m v:Nat):Nat:=((bts m).filter (· < v)).length
def hs(m:Nat):Array Int:=((bts m).map Int.ofNat).toArray
def full(led:Bool)(m v:Nat):Bool:=if (q01 led m v).tooFull then decide ((q01 led m v).relaid (hs (add m v)) (Ï1.grown ((bts m).length + 1))=some (tbl led (add m v),(î ((bts m).length + 1)).toArray)) else decide (q01 led m v=tbl led (add m v))
def chk(led:Bool)(m v:Nat):Bool:=if m.testBit v then decide (add m v=m) else decide (add m v < 256)&&decide ((tbl led m).freeSlot (v:Int)=some (v,false))&&decide ((tbl led m).put v=(q01 led m v,pos m v))&&(q01 led m v).fits ((bts m).length + 1) &&
 decide ((bts m).take (pos m v)++v::(bts m).drop (pos m v)=bts (add m v))&&decide ((bts (add m v)).length=(bts m).length + 1)&&(tbl led (add m v)).fits ((bts m).length + 1)&&full led m v
÷b92:([true,false].all λled=>(î 256).all λm=>(tbl led m).fits (bts m).length&&(î 8).all λv=>chk led m v)=true:=by decide +kernel
÷C90(led:Bool)(hm:m < 256):(tbl led m).fits (bts m).length=true/\∀ v,v < 8->chk led m v=true:=by
 have h:=Õ.mp (Õ.mp b92 led (by cases led <;> simp)) m (Â5.mpr hm)
 rw[Á] at h
 §⟨h.1,λv hv=>Õ.mp h.2 v (Â5.mpr hv)⟩
÷D00:i∈bts m↔i < 8/\m.testBit i=true:=by unfold bts;rw[mem_filter,Ó2]
abbrev led(w:ç):Bool:=!(w.params.followText "set-order")
def ent(g:Nat->Tok)(m:Nat):Array (Int × Ä):=((bts m).map λ(i:Nat)=>((i:Int),Æ1 i (g i))).toArray
def z80(w:ç)(h:ì)(a:Ç)(m:Nat):Prop:=∃ o ep g,h.get? a=some o/\o.ExactSet/\o.data=.set (ent g m) ep (tbl (led w) m)
÷d40(g:Nat->Tok)(m:Nat):(ent g m).size=(bts m).length:=by unfold ent;simp
÷c02(g:Nat->Tok)(u:Tok)(hv:m.testBit v=false)(h:(bts m).take (pos m v)++v::(bts m).drop (pos m v)=bts (add m v)):Ï1.insertAt (ent g m) (pos m v) ((v:Int),Æ1 v u)=ent (λi=>if i=v then u else g i) (add m v):=by
 have hne:∀ i∈bts m,i≠v:=λi hi e=>by subst e;rw[(D00.mp hi).2] at hv;cases hv
 have e1:(bts m).map (λ(i:Nat)=>((i:Int),Æ1 i (g i)))=(bts m).map λ(i:Nat)=>((i:Int),Æ1 i (if i=v then u else g i)):=Ã5 λi hi=>by rw[if_neg (hne i hi)]
 unfold ent
 rw[← h,e1]
 apply Û2.mp
 unfold Ï1.insertAt
 simp
 §È7 (by simp)
÷M11(g:Nat->Tok)(m:Nat):(ent g m).map (·.1)=hs m:=by
 unfold ent hs
 rw[map_toArray,ï];rfl
÷M21{α:Type}(xs:Array α):((î xs.size).toArray).filterMap (xs[·]?)=xs:=by
 apply Û2.mp
 rw[Array.toList_filterMap]
 §PySem.W.krv_all xs
section
variable {P:ß}{w:ç}{A:ø}{E:Ä->Æ->Prop}{s:Æ}{a:Ç}{m:Nat}
÷G80{v:Nat}(h:v < 8):(Ù6 P w).hash (v:Int)=v:=by
 have:∀ v:Nat,v < 8->hashInt (v:Int)=v:=by decide
 §this v h
÷elems(g:Nat->Tok)(m:Nat):ElemsOf (Ù6 P w) (ent g m).toList:=λe he=>by
 unfold ent at he
 ¶⟨i,hi,rfl⟩:=Ö.mp he
 §⟨⟨i,Ü2 _ _ _ _,(G80 (D00.mp hi).1).symm⟩,rfl⟩
÷G62(g:Nat->Tok){v:Nat}(u:Tok){led:Bool}(hm:m < 256)(hv:v < 8)(hb:m.testBit v=false):layNew (tbl led m) (ent g m) (v:Int) (.int v u)=(ent (λi=>if i=v then u else g i) (add m v),q01 led m v,false,false):=by
 have h:=(C90 led hm).2 v hv
 unfold chk at h
 rw[hb,if_neg Ð] at h
 simp only[Á,decide_eq_true_eq] at h
 ¶⟨⟨⟨⟨⟨⟨⟨_,h1⟩,h2⟩,h3⟩,h4⟩,h5⟩,_⟩,_⟩:=h
 unfold layNew
 rw[h1]
 dsimp only
 rw[h2]
 dsimp only
 rw[c02 g u hb h4,d40,h5]
 unfold Ï1.orStandIn
 rw[h3];rfl
÷c12(g:Nat->Tok){v:Nat}{led:Bool}(hm:m < 256)(hv:v < 8)(hb:m.testBit v=false)(ht:(q01 led m v).tooFull=true):relayAll (q01 led m v) (ent g (add m v)) (Ï1.grown (ent g (add m v)).size)=(ent g (add m v),tbl led (add m v),false):=by
 have h:=(C90 led hm).2 v hv
 unfold chk at h
 rw[hb,if_neg Ð] at h
 simp only[Á,decide_eq_true_eq] at h
 ¶⟨⟨⟨⟨⟨⟨⟨_,_⟩,_⟩,_⟩,_⟩,h5⟩,h6⟩,h7⟩:=h
 unfold full at h7
 rw[if_pos ht,decide_eq_true_eq] at h7
 unfold relayAll
 rw[M11,d40,h5,h7]
 dsimp only
 have e:((î ((bts m).length + 1)).toArray).filterMap ((ent g (add m v))[·]?)=ent g (add m v):=by
  have:=M21 (ent g (add m v))
  rw[d40,h5] at this;§this
 rw[e,d40,h5,h6]
 have c:coversAll (î ((bts m).length + 1)).toArray ((bts m).length + 1)=true:=by
  unfold coversAll
  rw[List.isPerm_iff]
 rw[c];rfl
÷T91(hm:m < 256)(hv:v < 8):add m v < 256:=by
 have h:=(C90 true hm).2 v hv
 unfold chk at h
 cases hb:m.testBit v with
 |true=>rw[hb,if_pos rfl,decide_eq_true_eq] at h;rw[h];§hm
 |false =>
  rw[hb,if_neg Ð] at h
  simp only[Á,decide_eq_true_eq] at h
  §h.1.1.1.1.1.1.1
÷add_same(hm:m < 256)(hv:v < 8)(hb:m.testBit v=true):add m v=m:=by
 have h:=(C90 true hm).2 v hv
 unfold chk at h
 rw[hb,if_pos rfl,decide_eq_true_eq] at h;§h
÷r12{v:Nat}{u:Tok}{Q:Bool->Æ->Prop}(hm:m < 256)(hv:v < 8)(hS:z80 w s.heap a m)(h:∀ b h',Ë9 a s.heap h'->z80 w h' a (add m v)->Q b { s with heap:=h' }) :
  Ï (Ô P w) A (setAddHashed a (.int v u) ((Ù6 P w).hash v)) Q E s:=by
 ¶⟨o,ep,g,ho,hex,hd⟩:=hS
 have hf:(tbl (led w) m).fits (ent g m).size=true:=by rw[d40];§(C90 _ hm).1
 have hsz:(bts m).length<=8:=Ñ (Å3 _ _) (by simp)
 have hb:(ent g m).size < scanBound:=by rw[d40];unfold scanBound;omega
 have hel:=elems (P:=P) (w:=w) g m
 unfold setAddHashed setAddHashedIn
 ¤À8 (À (Ó0 ho hd hf ?_))
 dsimp only
 rw[byScan_of (knd:=Ù6 P w) rfl hb hel]
 simp only[↓reduceIte]
 unfold setAddByScan
 ¤À ?_
 ¤À (Ê1 ?_)
 ¤À (wpAny_setScan_of (Ü2 _ _ _ _) ho hd hf hel ?_)
 cases hr:List.findIdx? (λe=>(Ù6 P w).is (v:Int) e.2) (ent g m).toList with
 |some j =>
  dsimp only
  ¶⟨hj,hpj,_⟩:=List.findIdx?_eq_some_iff_getElem.mp hr
  have hmem:(ent g m).toList[j]∈(ent g m).toList:=É2 hj
  unfold ent at hmem
  ¶⟨i,hi,e⟩:=Ö.mp hmem
  rw[show(ent g m).toList[j]=((i:Int),Æ1 i (g i)) from e.symm] at hpj
  have hiv:i=v:=by
   have:=(Ù6 P w).inj _ _ _ hpj (Ü2 P w i (g i))
   omega
  subst hiv
  have q:=h false s.heap (Ë9.refl a s.heap) (by rw[add_same hm hv (D00.mp hi).2];§⟨o,ep,g,ho,hex,hd⟩)
  §Å (Å q)
 |none =>
  dsimp only
  have hbt:m.testBit v=false:=by
   cases hk:m.testBit v with
   |false=>rfl
   |true =>
    have:((v:Int),Æ1 v (g v))∈(ent g m).toList:=Ö.mpr ⟨v,D00.mpr ⟨hv,hk⟩,rfl⟩
    have:=List.findIdx?_eq_none_iff.mp hr _ this
    rw[Ü2] at this;cases this
  rw[G80 hv,G62 g u hm hv hbt]
  have hgw:∀ (b:Bool) {s₁:Æ}{Q':Unit->Æ->Prop},Q' () s₁->Ï (Ô P w) A (match b with | true=>rule "set.scan.the-table-gave-way" | false=>pure ()) Q' E s₁:=λb s₁ Q' hq=>by cases b <;> first | §Å hq | §Ê1 hq
  dsimp only
  ¤À (Å ?_)
  have hpl:(q01 (led w) m v).plain=true:=by unfold q01 tbl;split <;> rfl
  rw[if_pos hpl,hashByValue_scannable 8 rfl]
  ¤À (Å ?_)
  simp only[plainKind,↓reduceIte]
  have hk:=(C90 (led w) hm).2 v hv
  unfold chk at hk
  rw[hbt,if_neg Ð] at hk
  simp only[Á,decide_eq_true_eq] at hk
  ¶⟨⟨_,h6⟩,h7⟩:=hk
  have hlt:=T91 hm hv
  have hsz2:(bts (add m v)).length<=8:=Ñ (Å3 _ _) (by simp)
  have hb2:∀ g,(ent g (add m v)).size<=sizeLine:=λg=>by rw[d40,Á3];omega
  have get:∀ {h0:ì}{o:Obj}{es ep t} (es':Array (Int × Ä)) (t':Ï1),h0.get? a=some o->o.data=.set es ep t->(h0.update a (Obj.putSet es' t')).get? a=some { o with data:=.set es' (ep + 1) t' }:=λ{h0 o es ep t} es' t' e1 e2=>by
   have:=Ç8 (Obj.putSet es' t') e1 (by rw[putSet_of es' t' e2];rfl)
   rw[putSet_of es' t' e2] at this;§this
  ¤À (wpAny_storeSet_of ho hd ?_ (hb2 _))
  have g1:=get (ent (λi=>if i=v then u else g i) (add m v)) (q01 (led w) m v) ho hd
  have sb1:=Æ0 s.heap a (Obj.putSet (ent (λi=>if i=v then u else g i) (add m v)) (q01 (led w) m v))
  simp only[Bool.not_false,Ä9]
  unfold full at h7
  split
  ·rename_i ht
   rw[if_pos ht] at h7
   rw[c12 _ hm hv hbt ht]
   dsimp only
   ¤À (Å ?_)
   ¤À (wpAny_storeSet_of g1 rfl ?_ (hb2 _))
   §Å (Å (h _ _ (sb1.trans (Æ0 _ a _)) ⟨_,_,_,get _ _ g1 rfl,hex,rfl⟩))
  ·rename_i ht
   rw[if_neg ht,decide_eq_true_eq] at h7
   §Å (Å (h _ _ sb1 ⟨_,ep + 1,_,g1,hex,congrArg _ h7⟩))
end
open PySem PySem.W PyProof.Rows
def met(val:Nat->Nat):Nat->Nat
 |0=>0
 |i + 1=>add (met val i) (val i)
÷v21(h:∀ i,val i < 8):∀ i,met val i < 256
 |0=>by show(0:Nat) < 256;decide
 |i + 1=>T91 (v21 h i) (h i)
section
variable {P:ß}{w:ç}{A:ø}
÷z80.keep(x:z80 w h a m)(k:∀ o,h.get? a=some o->h'.get? a=some o):z80 w h' a m:=by
 ¶⟨o,ep,g,ho,r⟩:=x
 §⟨o,ep,g,k o ho,r⟩
÷c22{R:Result->Æ->Prop}{I:Ç}{fp wr:List Ç}{G:Array Ý9->Array Ý9->Prop}{n:Nat}{Pv:Nat->Ä->Prop}{St:Nat->Æ->Prop}(W:WalksS P w A.in1 I fp wr G n Pv St)(S:Ç)(hf:S ∉ fp){val:Nat->Nat}(hv:∀ i,val i < 8)(hp:∀ i v,Pv i v->∃ t,v=.int (val i) t) :
  ∀ (k i:Nat) (s:Æ),i + k=n->St i s->z80 w s.heap S (met val i)->(∀ s',Moved (S::wr) G s s'->z80 w s'.heap S (met val n)->R (.ok (.ret .none)) s')->Î6 (Ô P w) A (.builtin "set.update.loop" ⟨[.ref S,.ref I],[]⟩) R s:=by
 have hw:S ∉ wr:=λh=>hf (W.sub _ h)
 intro k
 induction k with
 |zero =>
  intro i s hk st x q
  have hk:i=n:=hk
  subst hk
  ¤Â2 F.entry_set_update_loop ?_
  rw[Â8 Ô3 _]
  ¤À (m:=Ñ2 (.ref I)) (W.done s _ _ st λs1 mv=>?_)
  §Å (q s1 (mv.mono λb hb=>È _ hb) (x.keep λo=>mv.heap S o hw))
 |succ k ih =>
  intro i s hk st x q
  ¤Â2 F.entry_set_update_loop ?_
  rw[Â8 Ô3 _]
  ¤À (m:=Ñ2 (.ref I)) (W.item i s _ _ (by omega) st λv s1 pv st1 mv=>?_)
  ¶⟨t,rfl⟩:=hp i v pv
  ¤À (m:=Ù7 _ (setAdd S (.int (val i) t))) (À8 ?_)
  unfold setAdd
  ¤À8 (À ((Ù6 P w).pyHash (k:=(val i:Int)) (Ü2 _ _ _ _) ?_))
  ¤r12 (s:={ s1 with toks:=s1.toks + 1 }) (v21 hv i) (hv i) (x.keep λo=>mv.heap S o hw) λb h2 sb x2=>?_
  have off:∀ c o,c≠S->s1.heap.get? c=some o->h2.get? c=some o:=λc o hc e=>(sb.2 c hc).trans e
  ¤Å ⟨Î5 Ô3 _,ih (i + 1) _ (by omega) (W.frame _ s1 _ _ st1 (le_succ _) λc hc o e=>off c o (λz=>hf (z ▸ hc)) e) x2 λs2 mv2 x3=>?_⟩
  §q s2 (Moved.trans W.gtrans ((mv.mono λb hb=>È _ hb).then_heap (le_succ _) λc o hc e=>off c o (λz=>hc (z ▸ Ì)) e) mv2) x3
end
section
variable {P:ß}{w:ç}{A:ø}{E:Ä->Æ->Prop}{s:Æ}
abbrev U01(w:ç):Obj:={ cls:=.type "set",dict:=none,data:=.set #[] 0 (.fresh 0 0 (led w)) }
÷c32(a:Ä)(h:Q (.ref s.heap.objs.size) { s with heap:=s.heap.push (U01 w) }):Î6 (Ô P w) A (.call (.builtin "set.__new__") ⟨[.type "set",a],[]⟩) (wants Q E) s:=by
 ¤à5 ?_
 ¤À (m:=Õ1 _ _) (ß8 (F.newCall_set_1 a) (Å ⟨Î5 F.plain_set_new _,Â2 F.entry_set_new ?_⟩))
 rw[Â8 F.plain_set_new _]
 have hsub:=sub_set_self
 ¶⟨hp,g,d,tk,os⟩:=s
 unfold ÿ.«set.__new__» ÿ.Frozenset.newClass
 dsimp only
 wp_walk
 ¤Í9 (Å ?_)
 dsimp only
 simp only[newObj]
 §À (wpAny_alloc (Å (Å h)))
÷c42{h:ì}:z80 w (h.push (U01 w)) h.objs.size 0:=⟨_,0,λ_=>0,Ë _ rfl,⟨rfl,rfl,rfl⟩,rfl⟩
structure U82(P:Program)(w:World)(T:String)(l:Addr)(o it:Obj)(n:Nat)(Pv:Nat->Value->Prop)(St:Addr->Nat->Heap->Prop):Prop where
 ty:o.cls=.type T
 f1:isSubtype (.type T) (.type "set")=pure false
 f2:isSubtype (.type T) (.type "frozenset")=pure false
 f3:(Value.type T == Value.type "dict")=false
 iter:∀ (A:Around) (E:Value->Shared->Prop) (s:Shared) (Q:Value->Shared->Prop),s.heap.get? l=some o->Q (.ref s.heap.objs.size) { s with heap:=s.heap.push it }->wpAny (model P w) A (pyIter (.ref l)) Q E s
 walk:∀ (A:Around) (I:Addr),A.handled=none->l≠I->Walks P w A I [I,l] [I] n Pv (St I)
 zero:∀ h:Heap,h.get? l=some o->St h.objs.size 0 (h.push it)
set_option maxHeartbeats 3200000 in
÷f41{T:String}{l:Ç}{o it:Obj}{n:Nat}{Pv:Nat->Ä->Prop}{St:Ç->Nat->ì->Prop}{val:Nat->Nat}{Q:Ä->Æ->Prop}(D:U82 P w T l o it n Pv St)(hh:A.handled=none)(ho:s.heap.get? l=some o)(hv:∀ i,val i < 8)(hp:∀ i v,Pv i v->∃ t,v=.int (val i) t)
  (h:∀ (h':ì) (tk:Nat),z80 w h' s.heap.objs.size (met val n)->(∀ b u,s.heap.get? b=some u->h'.get? b=some u)->Q (.ref s.heap.objs.size) { s with heap:=h',toks:=tk }):Ï (Ô P w) A (call (.type "set") [.ref l]) Q E s:=by
 ¶⟨c,tl,hmro⟩:=Ê4.mro
 have hmade:=Ê4.made
 have hsub:=Ê4.sub
 have h1:=Ê4.notType
 have h2:=Ê4.canCreate
 have hct:=F.typeCall_set_1 (.ref l)
 ¤Õ8 (à5 ?_)
 show Ï _ _ (callAny (.type "set") _) _ _ _
 ¤Å ⟨Ø4 _ (by decide +kernel),Â2 F.entry_type_call ?_⟩
 rw[ø.under_plain (weight_type_call_type "set" [.ref l] []) rfl]
 repeat (any_goals (first | assumption | wp_step))
 ¤È3 (c32 (.ref l) (E:=E) (Q:=λv s1=>v=.ref s.heap.objs.size/\s1={ s with heap:=s.heap.push (U01 w) }) ⟨rfl,rfl⟩) λr s1 hr=>?_
 cases r with
 |error e=>§hr
 |ok fl =>
  cases fl with
  |ret v =>
   ¶⟨rfl,rfl⟩:=hr
   have hT:Þ1 { s with heap:=s.heap.push (U01 w) } (.ref s.heap.objs.size) "set":=⟨_,Ë _ rfl,rfl⟩
   have hli:=Ê4.init.lookup
   have hbi:=Ê4.init.bind (.ref s.heap.objs.size)
   have lS:l < s.heap.objs.size:=à ho
   have ho1:(s.heap.push (U01 w)).get? l=some o:=Ã _ ho
   repeat (any_goals (first | assumption | wp_step))
   ¤È3 (Ù2 (R:=wants (λr s2=>r=.none/\∃ h' tk,s2={ s with heap:=h',toks:=tk }/\z80 w h' s.heap.objs.size (met val n)/\∀ b u,s.heap.get? b=some u->h'.get? b=some u) E) Ê4.init.plain F.entry_set_init (check_set_init_1 hT ?_)) λr2 s2 hr2=>?_
   ·have f1:=D.f1
    have f2:=D.f2
    have f3:=D.f3
    ¶⟨ocls,odict,odata,oslots⟩:=o
    have hc:ocls=.type T:=D.ty
    subst hc
    unfold ÿ.«set.__init__» noKeywords ÿ.Frozenset.updateFrom
    generalize hPI:pyIter=PI
    wp_walk
    subst hPI
    ¤D.iter _ _ _ _ ho1 ?_
    ¤À (Ø7 ?_)
    have hI:(s.heap.push (U01 w)).objs.size=s.heap.objs.size + 1:=Ë5 ..
    have nI:l≠(s.heap.push (U01 w)).objs.size:=by rw[hI];§Ù (Å0 lS)
    have nS:s.heap.objs.size ∉ [(s.heap.push (U01 w)).objs.size,l]:=by
     rw[hI]
     simp only[Â7,À0,or_false,not_or]
     §⟨Ù (Ì2 _),Ê7 lS⟩
    ¤c22 ((D.walk _ _ (by simp[hh]) nI).toS) s.heap.objs.size nS hv hp n 0 _ (É5 _) (D.zero _ ho1) (c42.keep λu e=>Ã _ e) λs' mv x=>?_
    ¶⟨h',g',d',tk',os'⟩:=s'
    have eg:g'=s.gens:=mv.gens
    have ed:d'=s.drawn:=mv.drawn
    have eo:os'=s.os:=mv.os
    subst eg;subst ed;subst eo
    ¤Å (Å ⟨rfl,h',tk',rfl,x,λb u e=>?_⟩)
    have lb:=à e
    ¤mv.heap b u (λz=>?_) (Ã _ (Ã _ e))
    simp only[Â7,À0,or_false] at z
    rw[hI] at z
    rcases z with z | z
    ·§Ù lb z
    ·§Ù (Å0 lb) z
   ·cases r2 with
    |error e=>§hr2
    |ok fl2 =>
     cases fl2 with
     |ret r =>
      ¶⟨rfl,h',tk,rfl,x,kp⟩:=hr2
      repeat (any_goals (first | assumption | wp_step))
      §h _ _ x kp
     |_=>§hr2.elim
  |_=>§hr.elim
end
def f51(m:Nat):Nat->Nat
 |0=>0
 |i + 1=>(bts m).getD i 0 + 1
÷v31:((î 256).all λm=>(î ((bts m).length + 1)).all λi=>Ï1.below (bts m).toArray (f51 m i) == i)=true:=by decide +kernel
÷below_at(hm:m < 256)(hi:i<=(bts m).length):Ï1.below (bts m).toArray (f51 m i)=i :=
 eq_of_beq (Õ.mp (Õ.mp v31 m (Â5.mpr hm)) i (Â5.mpr (Ú7 hi)))
÷G90:∀ {l:List α}{i:Nat} (h:i < l.length),(l[i]::l.eraseIdx i).Perm l
 |x::r,0,_=>.refl _
 |x::r,i + 1,h=>(List.Perm.swap x _ _).trans ((G90 (l:=r) (i:=i) (Nat.lt_of_succ_lt_succ h)).cons x)
÷v41(next:Nat->Nat):∀ (n k:Nat) (left:List α) (out:Array α),left.length=n->((ß0.go next n k left out).toList).Perm (out.toList++left)
 |0,k,left,out,h=>by
  have:left=[]:=List.eq_nil_of_length_eq_zero h
  subst this
  simp[ß0.go]
 |n + 1,k,left,out,h=>by
  have hl:next k % left.length < left.length:=Nat.mod_lt _ (by omega)
  have e:left[next k % left.length]?=some left[next k % left.length]:=List.getElem?_eq_getElem hl
  unfold ß0.go
  rw[e]
  ¤(v41 next n (k + 1) _ _ (by rw[List.length_eraseIdx_of_lt hl];omega)).trans ?_
  rw[Array.toList_push,Ô7]
  §List.Perm.append_left _ (G90 hl)
÷v51(next:Nat->Nat)(xs:Array α):(ß0 next xs).toList.Perm xs.toList:=by
 have:=v41 next xs.size 0 xs.toList #[] (by simp)
 rw[Í1] at this
 §this
def ord(w:ç)(a ep:Nat)(es:Array (Int × Ä)):Array (Int × Ä):=if w.params.followText "set-order" then ß0 (w.params.setOrder a ep) es else es
÷f61(w:ç)(a ep:Nat)(es:Array (Int × Ä)):(ord w a ep es).toList.Perm es.toList:=by
 unfold ord
 split
 ·§v51 _ _
 ·§.refl _
÷L10(w:ç)(a ep:Nat)(es:Array (Int × Ä)):(ord w a ep es).size=es.size:=by
 have:=(f61 w a ep es).length_eq
 simpa using this
def v61(w:ç)(m i:Nat):Nat:=if w.params.followText "set-order" then 0 else f51 m i
def itO(w:ç)(S ep n m i:Nat):Obj:={ cls:=.type "set_iterator",data:=.fields #[Ã7 (v61 w m i),Ã7 i,.ref S,Ã7 n,Ã7 ep] }
÷c70:Slot "set_iterator" "__next__" "set_iterator.__next__":=.of (owner:="set_iterator") (n:="__next__") (by rw[typeLookup_type,builtinLookup_eq_fast];kernel_rfl) (by decide +kernel) (by decide +kernel) (by decide +kernel) (by first | §.inl (by decide +kernel) | §.inr (by decide +kernel)) (by rw[Ñ6];kernel_rfl)
÷o60:Slot "set_iterator" "__iter__" "set_iterator.__iter__":=.of (owner:="set_iterator") (n:="__iter__") (by rw[typeLookup_type,builtinLookup_eq_fast];kernel_rfl) (by decide +kernel) (by decide +kernel) (by decide +kernel) (by first | §.inl (by decide +kernel) | §.inr (by decide +kernel)) (by rw[Ñ6];kernel_rfl)
÷m90:entryFor table "set_iterator.__next__"=some ÿ.«set_iterator.__next__»:=entryFor_of_tree (by kernel_rfl)
÷G00:entryFor table "set.__iter__"=some ÿ.«frozenset.__iter__»:=entryFor_alias (id':="frozenset.__iter__") (by kernel_rfl) rfl (by decide +kernel) (by kernel_rfl)
÷z90:entryFor table "set_iterator.__iter__"=some ÿ.«dict_keyiterator.__iter__»:=entryFor_alias (id':="dict_keyiterator.__iter__") (by kernel_rfl) rfl (by decide +kernel) (by kernel_rfl)
÷D10:Manifest.owners.lookup (String.ofList "rotareti_tes".toList.reverse)=some Manifest.sig_set_iterator:=by kernel_rfl
÷o70(a:Ä):argsOk "set_iterator.__next__" ⟨[a],[]⟩:=by
 unfold argsOk;rw[signature?_of (id:="set_iterator.__next__") (n:="__txen__".toList) (o:="rotareti_tes".toList) (by kernel_rfl) D10];kernel_rfl
÷D20(a:Ä):argsOk "set_iterator.__iter__" ⟨[a],[]⟩:=by
 unfold argsOk;rw[signature?_of (id:="set_iterator.__iter__") (n:="__reti__".toList) (o:="rotareti_tes".toList) (by kernel_rfl) D10];kernel_rfl
section
variable {P:ß}{w:ç}{A:ø}{E:Ä->Æ->Prop}{s:Æ}{S ep m:Nat}{g:Nat->Tok}{o:Obj}
÷S00(b:Bool)(m:Nat):(tbl b m).plain=true:=by unfold tbl;split <;> rfl
÷c52(b:Bool)(m:Nat):(tbl b m).led=b:=by unfold tbl;split <;> rfl
÷v71(b:Bool)(m:Nat):(tbl b m).place=(bts m).toArray:=by unfold tbl;split <;> rfl
÷L20(hm:m < 256):(tbl (led w) m).fits (ent g m).size=true:=by rw[d40];§(C90 _ hm).1
÷M31(hm:m < 256)(ho:s.heap.get? S=some o)(hx:o.ExactSet)(hd:o.data=.set (ent g m) ep (tbl (led w) m))(h:Q (.ref s.heap.objs.size) { s with heap:=s.heap.push (itO w S ep (bts m).length m 0) }):Ï (Ô P w) A (pyIter (.ref S)) Q E s:=by
 have hT:s.TypeIs (.ref S) "set":=⟨o,ho,hx.1⟩
 have hf:=L20 (w:=w) (g:=g) hm
 have hp:=S00 (led w) m
 ¤wpAny_pyIter_slot hT F.slot_set_iter (À5 F.slot_set_iter hT G00 ?_ (F.args_set_iter_1 _))
 unfold ÿ.«frozenset.__iter__» ÿ.Frozenset.slot0 slotArgs
 simp only[isEmpty_nil,à2,Ã4,↓reduceIte,bind_assoc,Á1,bne_self_eq_false]
 unfold ÿ.Frozenset.addrOf ÿ.Frozenset.sizeOf
 ¤À (Å (À (Å (À (À (Ú4 ho hd hf (Å ?_)))))))
 ¤À ?_
 have dr:Ï (Ô P w) A.in1 (setDrawn S) (λb s'=>b=false/\s'=s) E s:=by
  unfold setDrawn setsByText
  ¤À (Ó0 ho hd hf (À (À (Í9 (Å (Å ⟨?_,rfl⟩))))))
  generalize tbl (led w) m=t at hp
  ¶⟨t1,t2,t3,t4,t5,t6,t7⟩:=t
  cases hp
  show(!w.params.followText "set-order"&&_)=false
  cases w.params.followText "set-order" <;> rfl
 ¤Â1 dr (λb s' hb=>?_) λ_ _ e=>e
 ¶⟨rfl,rfl⟩:=hb
 rw[if_neg Ð]
 ¤À (Å ?_)
 ¤À (wpAny_setEpoch_of ho hd hf ?_)
 ¤À (å (Å ⟨_,rfl,"set_iterator",_,⟨_,Ë _ rfl,rfl⟩,c70.lookup,?_⟩))
 have e:itO w S ep (bts m).length m 0={ cls:=.type "set_iterator",data:=.fields #[Ã7 0,Ã7 0,.ref S,Ã7 (ent g m).size,Ã7 ep] }:=by
  unfold itO v61
  rw[d40]
  split <;> rfl
 rw[e] at h
 §h
÷v81(hm:m < 256)(hi:i<=(bts m).length)(ho:s.heap.get? S=some o)(hd:o.data=.set (ent g m) ep (tbl (led w) m)):Ï (Ô P w) A (setNext S (v61 w m i) i ep) (λr s'=>s'=s/\r=(ord w S ep (ent g m))[i]?.map λe=>(e.2,v61 w m (i + 1))) E s:=by
 have hf:=L20 (w:=w) (g:=g) hm
 have hp:=S00 (led w) m
 have hl:=c52 (led w) m
 have hpl:=v71 (led w) m
 unfold setNext
 ¤À (Ó0 ho hd hf ?_)
 unfold setsByText
 ¤À (À (Í9 (Å ?_)))
 dsimp only
 unfold ord v61
 show Ï _ _ (if w.params.followText "set-order"=true then _ else _) _ _ _
 cases hb:w.params.followText "set-order" with
 |true =>
  rw[if_pos rfl]
  rw[if_neg (by simp)]
  ¤À ?_
  unfold setWalk setsByText
  ¤À (Ó0 ho hd hf (À (À (Í9 (Å ?_)))))
  show Ï _ _ (if w.params.followText "set-order"=true then _ else _) _ _ _
  rw[hb,if_pos rfl]
  ¤À (Í9 (Å (Å ⟨rfl,?_⟩)))
  simp only[↓reduceIte]
  rfl
 |false =>
  simp only[Ã4,↓reduceIte]
  have hl:(tbl (led w) m).led=true:=by rw[hl];show(!w.params.followText "set-order")=true;rw[hb];rfl
  generalize tbl (led w) m=t at hp hl hpl
  ¶⟨t1,t2,t3,t4,t5,t6,t7⟩:=t
  cases hp;cases hl
  have hpl:t2=(bts m).toArray:=hpl
  subst hpl
  ¤À (Å (Å ⟨rfl,?_⟩))
  rw[below_at hm hi]
  by_cases hi':i < (bts m).length
  ·have e1:(ent g m)[i]?=some (((bts m)[i]:Int),Æ1 ((bts m)[i]:Nat) (g (bts m)[i])):=by unfold ent;simp[hi']
   have e2:(bts m).toArray[i]?=some (bts m)[i]:=by simp[hi']
   rw[e1,e2]
   show some _=some _
   have e3:f51 m (i + 1)=(bts m)[i] + 1:=by show(bts m).getD i 0 + 1=_;simp[hi']
   rw[e3]
  ·have e1:(ent g m)[i]?=none:=by unfold ent;simp;omega
   rw[e1];rfl
÷M41{i:Nat}{I:Ç}(hm:m < 256)(hi:i < (bts m).length)(ho:s.heap.get? S=some o)(hd:o.data=.set (ent g m) ep (tbl (led w) m))(hI:s.heap.get? I=some (itO w S ep (bts m).length m i)){Q:Option Ä->Æ->Prop}
  (h:∀ v h',(ord w S ep (ent g m))[i]?.map (·.2)=some v->Ë9 I s.heap h'->h'.get? I=some (itO w S ep (bts m).length m (i + 1))->Q (some v) { s with heap:=h' }):Ï (Ô P w) A (Ñ2 (.ref I)) Q E s:=by
 have hT:s.TypeIs (.ref I) "set_iterator":=⟨_,hI,rfl⟩
 have hf:=L20 (w:=w) (g:=g) hm
 unfold Ñ2
 ¤À (Ë4 (À6 (name:=Á0 "__next__") hT c70 (À5 c70 hT m90 ?_ (o70 _))))
 unfold ÿ.«set_iterator.__next__» slotArgs
 simp only[isEmpty_nil,à2,Ã4,↓reduceIte,bind_assoc,Á1,bne_self_eq_false]
 ¤À (Å ?_)
 ¤À (wpAny_fieldsOf hI rfl ?_)
 dsimp only [Ã7]
 ¤À (Ú4 ho hd hf ?_)
 rw[if_neg (by rw[d40];simp)]
 ¤À (Â1 (v81 (i:=i) hm (É6 hi) ho hd) (λr s' hr=>?_) λ_ _ e=>e)
 ¶⟨rfl,rfl⟩:=hr
 have hsz:i < (ord w S ep (ent g m)).size:=by rw[L10,d40];§hi
 have e1:(ord w S ep (ent g m))[i]?=some (ord w S ep (ent g m))[i]:=by simp[hsz]
 simp only[Á9,e1,map_some]
 unfold itO at hI
 ¤À (Ã0 hI (by simp) λh1 hI1 sb1=>?_)
 ¤À (Ã0 hI1 (by simp) λh2 hI2 sb2=>?_)
 ¤Å ⟨_,rfl,Å (h _ h2 (by rw[e1];rfl) (sb1.trans sb2) ?_)⟩
 unfold itO
 simpa [Ã7] using hI2
÷c62{I:Ç}(hh:A.handled=none)(hm:m < 256)(ho:s.heap.get? S=some o)(hd:o.data=.set (ent g m) ep (tbl (led w) m))(hI:s.heap.get? I=some (itO w S ep (bts m).length m (bts m).length)){Q:Option Ä->Æ->Prop}
  (h:∀ h',ì.ExtBut I s.heap h'->Q none { s with heap:=h' }):Ï (Ô P w) A (Ñ2 (.ref I)) Q E s:=by
 have hT:s.TypeIs (.ref I) "set_iterator":=⟨_,hI,rfl⟩
 have hf:=L20 (w:=w) (g:=g) hm
 unfold Ñ2
 ¤À (Ë4 (À6 (name:=Á0 "__next__") hT c70 (À5 c70 hT m90 ?_ (o70 _))))
 unfold ÿ.«set_iterator.__next__» slotArgs
 simp only[isEmpty_nil,à2,Ã4,↓reduceIte,bind_assoc,Á1,bne_self_eq_false]
 ¤À (Å ?_)
 ¤À (wpAny_fieldsOf hI rfl ?_)
 dsimp only [Ã7]
 ¤À (Ú4 ho hd hf ?_)
 rw[if_neg (by rw[d40];simp)]
 ¤À (Â1 (v81 (i:=(bts m).length) hm (Í _) ho hd) (λr s' hr=>?_) λ_ _ e=>e)
 ¶⟨rfl,rfl⟩:=hr
 have e1:(ord w S ep (ent g m))[(bts m).length]?=none:=by simp[L10,d40]
 simp only[Á9,e1,Option.map_none]
 unfold itO at hI
 ¤À (Ã0 hI (by simp) λh1 hI1 sb1=>À ?_)
 simp only[newExc,newTuple]
 ¤À (å ?_ (by size_fits))
 ¤À (m:=Ù1 _ _) (ß8 (a:=â) (by first | rfl | (simp only[Ù1];rfl)) ?_)
 ¤å ?_ (by size_fits)
 simp only[raiseNew]
 ¤À (wpAny_handled ?_)
 rw[show A.in1.handled=none from hh]
 ¤À (Å (wpAny_throw ?_))
 ¤À (Þ9 (T:="StopIteration") (b:=true) ⟨_,Ë _ rfl,rfl⟩ isSubtype_stop ?_)
 §Å (h _ ((sb1.extBut.push _).push _))
÷v91(hh:A.handled=none)(hm:m < 256)(hx:o.ExactSet)(hd:o.data=.set (ent g m) ep (tbl (led w) m))(hn:S≠I):Walks P w A I [I,S] [I] (bts m).length (λi v=>(ord w S ep (ent g m))[i]?.map (·.2)=some v) (λi h=>h.get? S=some o/\h.get? I=some (itO w S ep (bts m).length m i)) where
 sub:=λb hb=>by simp at hb;simp[hb]
 frame:=λ_ _ _ st hk=>⟨hk S (by simp) _ st.1,hk I (by simp) _ st.2⟩
 item:=λi s Q E hi st hQ=>M41 hm hi st.1 hd st.2 λv h' hv sb hI=>hQ v h' s.toks hv ⟨(sb.2 S hn).trans st.1,hI⟩ λb u hb e=>(sb.2 b λz=>hb (by simp[z])).trans e
 done:=λs Q E st hQ=>c62 hh hm st.1 hd st.2 λh' kp=>hQ h' s.toks λb u hb e=>kp b u (λz=>hb (by simp[z])) e
 self:=λi s Q E st hQ=>by
  have hT:s.TypeIs (.ref I) "set_iterator":=⟨_,st.2,rfl⟩
  ¤wpAny_pyIter_slot hT o60 (À5 o60 hT z90 ?_ (D20 _))
  show Ï _ _ (ret (.ref I)) _ _ s
  §Å ⟨_,rfl,"set_iterator",_,hT,c70.lookup,hQ⟩
set_option maxHeartbeats 3200000 in
÷Z30{Q:List Ä->Æ->Prop}(hh:A.handled=none)(hm:m < 256)(ho:s.heap.get? S=some o)(hx:o.ExactSet)(hd:o.data=.set (ent g m) ep (tbl (led w) m))
  (hQ:∀ h' tk,s.heap.objs.size < h'.objs.size->(∀ b u,s.heap.get? b=some u->h'.get? b=some u)->Q ((ord w S ep (ent g m)).toList.map (·.2)) { s with heap:=h',toks:=tk }):Ï (Ô P w) A (collect (.ref S)) Q E s:=by
 have lS:S < s.heap.objs.size:=à ho
 have hsz:(bts m).length<=8:=Ñ (Å3 _ _) (by simp)
 unfold collect
 ¤À (Ø7 (Â2 F.entry_proto_collect ?_))
 rw[Â8 F.plain_proto_collect _]
 ¤À (m:=newList []) (å (Å ⟨Î5 F.plain_list_iadd _,Â2 F.entry_list_iadd ?_⟩))
 rw[Â8 F.plain_list_iadd _]
 show Ï _ A.in1 (Ä3 (.ref s.heap.objs.size) (.ref S) (.ref s.heap.objs.size)) _ _ _
 have oS:(s.heap.push { cls:=.type "list",data:=.seq ([]:List Ä).toArray }).get? S=some o:=Ã _ ho
 have hL:(s.heap.push { cls:=.type "list",data:=.seq ([]:List Ä).toArray }).get? s.heap.objs.size=some { cls:=.type "list",data:=.seq ([]:List Ä).toArray }:=Ë _ rfl
 have hT:Þ1 { s with heap:=s.heap.push { cls:=.type "list",data:=.seq ([]:List Ä).toArray } } (.ref S) "set":=⟨o,oS,hx.1⟩
 unfold Ä3
 ¤À (Ç9 hT ?_)
 have c1:Ú3 (.ref s.heap.objs.size) (.ref S)=false:=by simp[Ú3];§Ê7 lS
 have c2:(Á7 "set" == Á7 "list")=false:=by decide
 have c3:(Á7 "set" == Á7 "tuple")=false:=by decide
 simp only[c1,c2,c3,Bool.or_false,Ã4,if_false]
 ¤À (M31 hm oS hx hd (À (À8 ?_)))
 have hT2:∀ u,Þ1 { s with heap:=(s.heap.push { cls:=.type "list",data:=.seq ([]:List Ä).toArray }).push u } (.ref S) "set":=λu=>⟨o,Ã _ oS,hx.1⟩
 unfold ÿ.List.listLengthHint
 ¤À (wpAny_specialOf (hT2 _) F.slot_set_len.lookup ?_)
 wp_delta
 ¤À (Þ9 (T:="set") (b:=true) (hT2 _) (by rw[Ñ6];kernel_rfl) ?_)
 show Ï _ A.in1 (typeOf (Ã3 S) >>= _) _ _ _
 ¤À (Ç9 (hT2 _) (Å ?_))
 rw[if_pos (by decide)]
 ¤À (Ê1 ?_)
 generalize hI:s.heap.push { cls:=.type "list",data:=.seq ([]:List Ä).toArray }=h1 at oS hL hT2
 have sz1:h1.objs.size=s.heap.objs.size + 1:=by rw[← hI];§Ë5 ..
 have hL2:(h1.push (itO w S ep (bts m).length m 0)).get? s.heap.objs.size=some { cls:=.type "list",data:=.seq ([]:List Ä).toArray }:=Ã _ hL
 ¤À (m:=ÿ.List.listTouch (.ref s.heap.objs.size)) ?_
 show Ï _ A.in1 (updateSeq s.heap.objs.size (·.push .none) >>= λ_=>updateSeq s.heap.objs.size (·.pop)) _ _ _
 ¤À (wpAny_updateSeq hL2 rfl ?_)
 have hL3:=Ç8 (À2 (·.push â)) hL2 rfl
 ¤wpAny_updateSeq hL3 rfl ?_
 have hL4:=Ç8 (À2 (·.pop)) hL3 rfl
 have off:∀ b u,b≠s.heap.objs.size->(h1.push (itO w S ep (bts m).length m 0)).get? b=some u->(((h1.push (itO w S ep (bts m).length m 0)).update s.heap.objs.size (À2 (·.push â))).update s.heap.objs.size (À2 (·.pop))).get? b=some u :=
  λb u hb e=>(Ë8 _ _ (Â3 hb)).trans ((Ë8 _ _ (Â3 hb)).trans e)
 have nI:S≠h1.objs.size:=by rw[sz1];§Ù (Å0 lS)
 have nS:s.heap.objs.size ∉ [h1.objs.size,S]:=by
  rw[sz1]
  simp only[Â7,À0,or_false,not_or]
  §⟨Ù (Ì2 _),Ê7 lS⟩
 ¤Å ⟨Î5 F.plain_extend_loop _,codeAny_extend_loopS (v91 (P:=P) (by simp[hh]) hm hx hd nI).toS (by rw[Á3];omega) s.heap.objs.size nS _ (bts m).length 0 _ _ _ rfl (Æ6 _) ⟨off _ _ (Ù lS) (Ã _ oS),off _ _ (by rw[sz1];§(Ù (Ì2 _)).symm) (Ë _ rfl)⟩ hL4 (ItemsOf.nil _) λs' acc c mv hS' it=>?_⟩
 ¤À (m:=load s.heap.objs.size) (wpAny_load hS' (Å ?_))
 have ea:acc.toList=(ord w S ep (ent g m)).toList.map (·.2):=by
  ¤List.ext_getElem? λj=>?_
  rw[Ü,õ,õ]
  cases e:acc[j]? with
  |none =>
   have hj:(bts m).length<=j:=by rw[← it.1];simpa using e
   have:(ord w S ep (ent g m))[j]?=none:=by simp[L10,d40,hj]
   rw[this];rfl
  |some v=>rw[it.2 j v e]
 rw[ea]
 ¶⟨h',g',d',tk',os'⟩:=s'
 have eg:g'=s.gens:=mv.gens
 have ed:d'=s.drawn:=mv.drawn
 have eo:os'=s.os:=mv.os
 subst eg;subst ed;subst eo
 ¤hQ h' tk' (à hS') λb u e=>mv.heap b u (λz=>?_) (off b u (Ù (à e)) (Ã _ (hI ▸ Ã _ e)))
 have lb:=à e
 simp only[Â7,À0,or_false] at z
 rw[sz1] at z
 rcases z with z | z
 ·§Ù lb z
 ·§Ù (Å0 lb) z
end
end SS
namespace Q
open PySem L2
abbrev Z:=Option (Int × Bool)
inductive S where
 |d (x:D) | fr (xs:List D) | z
inductive R (α:Type) where
 |ok (a:α) (z:Z) | er (c:Nat) (z:Z)
abbrev M(α:Type):=Z->Option (R α)
def M.ret{α:Type}(a:α):M α:=λz=>some (.ok a z)
def M.no{α:Type}:M α:=λ_=>none
def M.of{α:Type}:Option α->M α
 |some a=>M.ret a
 |none=>M.no
def M.bind{α β:Type}(m:M α)(f:α->M β):M β:=λz=>match m z with
 |some (.ok a z1)=>f a z1
 |some (.er c z1)=>some (.er c z1)
 |none=>none
def M.calm{α:Type}(m:M α):M α:=λz=>match m z with
 |some (.ok a z1)=>some (.ok a z1)
 |_=>none
abbrev Env:=List (Option S)
def pl:List S->Option D
 |[.d x]=>some x
 |[.fr xs]=>some (.lst xs)
 |_=>none
def one:List S->Option S
 |[s]=>some s
 |_=>none
def plS:S->S
 |.fr xs=>.d (.lst xs)
 |s=>s
def plD:S->Option D
 |.d x=>some x
 |.fr xs=>some (.lst xs)
 |.z=>none
def plA:List S->Option (List D)
 |[]=>some []
 |.d x::r=>(plA r).map (x::·)
 |.fr xs::r=>(plA r).map (.lst xs::·)
 |.z::_=>none
inductive Bi where
 |add | sub | mul | fdiv | mod | pow
inductive Cm where
 |eq | ne | lt | le | gt | ge | is | mem | nmem
inductive Bf where
 |len | sorted | tuple | list | sum | min | max | abs | all | int | sset | B42
inductive Ty where
 |int | bool | tuple | list | str | seq
inductive Pat where
 |v (i:Nat) | tup (ps:Pat) | nil | cons (p r:Pat)
inductive It where
 |seq | rng1 | rng2 | zip | enum
inductive Ex where
 |nil | cons (a r:Ex)
 |var (i:Nat) | con (x:D) | gint (g:Str) (i:Int)
 |tup (as:Ex) | lst (as:Ex)
 |bin (o:Bi) (a b:Ex) | cmp (o:Cm) (a b:Ex) | neg (a:Ex)
 |not (a:Ex) | and (a b:Ex) | or (a b:Ex) | orT (a b:Ex) | ite (c a b:Ex)
 |ch (o o':Cm) (a b c:Ex)
 |bf (f:Bf) (as:Ex) | isi (t:Ty) (a:Ex)
 |idx (a i:Ex) | sl (a lo hi:Ex) | rev (a:Ex)
 |call (f:Nat) (as:Ex)
 |comp (own:Nat) (capt:List Nat) (p:Pat) (it:It) (src cond el:Ex)
 |zget (i k:Nat) | lrng (b:Bool) (as:Ex)
 |refd (capt:List Nat) (a:Ex)
abbrev most:Nat:=100000
def P00:Nat:=2 ^ 4000
mutual
noncomputable def eqD:D->D->Bool
 |.non,.non=>true
 |.bl a,.bl b=>a == b
 |.int a,.int b=>a == b
 |.str a,.str b=>a == b
 |.bl a,.int b=>(if a then 1 else 0) == b
 |.int a,.bl b=>a == (if b then 1 else 0)
 |.tup a,.tup b=>M51 a b
 |.lst a,.lst b=>M51 a b
 |.dct,.dct=>true
 |_,_=>false
noncomputable def M51:List D->List D->Bool
 |[],[]=>true
 |a::r,b::q=>eqD a b&&M51 r q
 |_,_=>false
end
mutual
noncomputable def ltD:D->D->Option Bool
 |.int a,.int b=>some (decide (a < b))
 |.tup a,.tup b=>M61 a b
 |_,_=>none
noncomputable def M61:List D->List D->Option Bool
 |[],[]=>some false
 |[],_::_=>some true
 |_::_,[]=>some false
 |a::r,b::q=>if eqD a b then M61 r q else ltD a b
end
mutual
noncomputable def n00:D->Bool
 |.dct=>false
 |.tup l=>e00 l
 |.lst l=>e00 l
 |.str x=>PyData.strOk x
 |_=>true
noncomputable def e00:List D->Bool
 |[]=>true
 |x::r=>n00 x&&e00 r
end
mutual
noncomputable def deep:D->Nat
 |.tup l=>f40 l + 1
 |.lst l=>f40 l + 1
 |_=>0
noncomputable def f40:List D->Nat
 |[]=>0
 |x::r=>Ð9 (deep x) (f40 r)
end
def okD(d:D):Bool:=n00 d&&decide (deep d<=40)
def G10(l:List D):Bool:=e00 l&&decide (f40 l<=39)
÷f70{c:Prop}[Decidable c]{α:Type}{a:Option α}{b:α}(h:(if c then a else none)=some b):c/\a=some b:=by
 by_cases k:c
 ·rw[if_pos k] at h;§⟨k,h⟩
 ·rw[if_neg k] at h;cases h
def eqO(a b:D):Option Bool:=if okD a&&okD b then some (eqD a b) else none
def eqE:D->D->Option Bool
 |.tup l,.tup []=>some l.isEmpty
 |_,_=>none
def eqQ(a b:D):Option Bool:=if okD a&&okD b then some (eqD a b) else eqE a b
def ltO(a b:D):Option Bool:=if okD a&&okD b then ltD a b else none
def memD(x:D)(l:List D):Bool:=l.any λy=>eqD y x
def M71(x:D)(l:List D):Option Bool:=if okD x&&G10 l then some (memD x l) else none
def Z40:List D->Option (List Int)
 |[]=>some []
 |.int i::r=>(Z40 r).map (i::·)
 |_=>none
def A60:Bi->D->D->Option S
 |.add,.int i,.int j=>some (.d (.int (i + j)))
 |.add,.tup a,.tup b=>if a.length + b.length<=most then some (.d (.tup (a++b))) else none
 |.add,.lst a,.lst b=>if a.length + b.length<=most then some (.fr (a++b)) else none
 |.sub,.int i,.int j=>some (.d (.int (i - j)))
 |.mul,.int i,.int j=>if i.natAbs < P00/\j.natAbs < P00 then some (.d (.int (i * j))) else none
 |.mul,.tup a,.int j=>if 0<=j/\j.toNat * a.length<=most/\j < 1000000 then some (.d (.tup (í j.toNat a).flatten)) else none
 |.mul,.lst a,.int j=>if 0<=j/\j.toNat * a.length<=most/\j < 1000000 then some (.fr (í j.toNat a).flatten) else none
 |.fdiv,.int i,.int j=>if 0 < j/\j.natAbs < P00 then some (.d (.int (i / j))) else none
 |.mod,.int i,.int j=>if 0 < j then some (.d (.int (i % j))) else none
 |.pow,.int i,.int j=>if 0<=j/\j<=1000/\i.natAbs < 2 ^ 64 then some (.d (.int (i ^ j.toNat))) else none
 |_,_,_=>none
def w01:D->Bool
 |.non=>true
 |_=>false
def neO:D->D->Option Bool
 |.dct,.tup _=>some true
 |a,b=>(eqO a b).map (!·)
def A70:Cm->D->D->Option Bool
 |.eq,a,b=>eqQ a b
 |.ne,a,b=>neO a b
 |.lt,a,b=>ltO a b
 |.gt,.int a,.int b=>some (decide (b < a))
 |.le,.int a,.int b=>some (decide (a<=b))
 |.le,.tup a,.tup b=>(Z40 a).bind λns=>(Z40 b).map λms=>HT.leB ns ms
 |.ge,.int a,.int b=>some (decide (b<=a))
 |.is,.bl a,.bl b=>some (a == b)
 |.is,a,.non=>some (w01 a)
 |.mem,a,.tup l=>M71 a l
 |.mem,a,.lst l=>M71 a l
 |.nmem,a,.tup l=>(M71 a l).map (!·)
 |.nmem,a,.lst l=>(M71 a l).map (!·)
 |_,_,_=>none
def U11:Ty->D->Bool
 |.int,.int _=>true
 |.int,.bl _=>true
 |.bool,.bl _=>true
 |.tuple,.tup _=>true
 |.list,.lst _=>true
 |.str,.str _=>true
 |.seq,.tup _=>true
 |.seq,.lst _=>true
 |_,_=>false
def asB:D->Option Bool
 |.bl b=>some b
 |_=>none
def r22:D->Option (List D)
 |.tup l=>some l
 |_=>none
def asI:D->Option Int
 |.int i=>some i
 |_=>none
def Z50:D->Option (List D)
 |.tup l=>some l
 |.lst l=>some l
 |_=>none
mutual
noncomputable def flt:D->List Int
 |.int i=>[i]
 |.tup l=>O72 l
 |_=>[]
noncomputable def O72:List D->List Int
 |[]=>[]
 |x::r=>flt x++O72 r
end
mutual
noncomputable def eqT:D->D->Bool
 |.int i,.int j=>i == j
 |.tup a,.tup b=>X30 a b
 |_,_=>false
noncomputable def X30:List D->List D->Bool
 |[],[]=>true
 |x::r,y::q=>eqT x y&&X30 r q
 |_,_=>false
end
def w11:D->Nat
 |.int _=>0
 |.tup (.int _::_)=>1
 |.tup (.tup _::_)=>2
 |_=>3
def i50(x y:D):Bool:=w11 y == w11 x&&(ltD x y == some (MySort.h30 (flt x) (flt y))&&(eqT x y || !(flt x == flt y)))
def n10(l:List D):Bool:=l.all λx=>decide (w11 x < 3)&&(okD x&&l.all (i50 x))
def q11(k:D):List D->List D
 |[]=>[k]
 |y::r=>if MySort.h30 (flt y) (flt k) then y::q11 k r else k::y::r
def u60:List D->List D
 |[]=>[]
 |k::r=>q11 k (u60 r)
def n20(k m:Nat):D:=.tup ((TS.C40 k 0 m).map λ(i:Nat)=>.int i)
def h40(k:Nat):List D:=(î (2 ^ k)).map (n20 k)
def M81(k:Nat):List D:=(TS.sN k).map (n20 k)
def O82(l:List D):Option (List D):=((î 9).find? λk=>X30 l (h40 k)).map M81
def sortedS(x:D):Option S:=(Z50 x).bind λl=>if l.length < 64/\n10 l=true then some (.fr (u60 l)) else(O82 l).map S.fr
def r32:List D->Option Int
 |[]=>some 0
 |.int i::r=>(r32 r).map (i + ·)
 |_=>none
def D30:List D->Option (List Nat)
 |[]=>some []
 |.int i::r=>if 0<=i/\i < 8 then(D30 r).map (i.toNat::·) else none
 |_=>none
def bfD:Bf->List D->Option S
 |.len,[x]=>(Z50 x).map λl=>.d (.int l.length)
 |.tuple,[x]=>(Z50 x).map λl=>.d (.tup l)
 |.list,[x]=>(Z50 x).map λl=>.fr l
 |.all,[.lst l]=>(l.mapM asB).map λbs=>.d (.bl (bs.all id))
 |.sorted,[x]=>sortedS x
 |.sum,[x]=>((Z50 x).bind r32).map λi=>.d (.int i)
 |.min,[.int i,.int j]=>some (.d (.int (if j < i then j else i)))
 |.max,[.int i,.int j]=>some (.d (.int (if j > i then j else i)))
 |.abs,[.int i]=>some (.d (.int (if i < 0 then -i else i)))
 |.int,[.bl b]=>some (.d (.int (if b then 1 else 0)))
 |.int,[.int i]=>some (.d (.int i))
 |.sset,[x]=>(Z50 x).bind λl=>(D30 l).map λns=>.fr (((î 8).filter λi=>ns.contains i).map λ(n:Nat)=>.int n)
 |_,_=>none
def Z60:D->D->Option D
 |.tup l,.int i=>atI l i
 |.lst l,.int i=>atI l i
 |_,_=>none
def cutD(l:List D)(lo hi:Option Int):List D:=(l.drop (HT.sIx l.length 0 lo)).take (HT.sIx l.length l.length hi - HT.sIx l.length 0 lo)
def slD:D->Option Int->Option Int->Option S
 |.tup l,lo,hi=>some (.d (.tup (cutD l lo hi)))
 |.lst l,lo,hi=>some (.fr (cutD l lo hi))
 |_,_,_=>none
def O92:D->Option S
 |.tup l=>some (.d (.tup l.reverse))
 |.lst l=>some (.fr l.reverse)
 |_=>none
def w21:List S->Option (Option Int)
 |[]=>some none
 |[.d (.int i)]=>some (some i)
 |_=>none
def w90:List D->Nat->List D
 |[],_=>[]
 |x::r,i=>.tup [.int i,x]::w90 r (i + 1)
def n30:List D->List D->List D
 |x::r,y::q=>.tup [x,y]::n30 r q
 |_,_=>[]
def inR:Int->Bool
 |.ofNat n=>Nat.blt n 100000
 |.negSucc n=>Nat.blt n 99999
÷G20:inR j=true↔-100000 < j/\j < 100000:=by
 cases j with
 |ofNat n=>show ble (n + 1) 100000=true↔_;rw[Nat.ble_eq];show _↔-100000 < (n:Int)/\(n:Int) < 100000;omega
 |negSucc n=>show ble (n + 1) 99999=true↔_;rw[Nat.ble_eq,Int.negSucc_eq];omega
def itD:It->List D->Option (List D)
 |.seq,[x]=>Z50 x
 |.rng1,[.int j]=>if inR j=true then some ((î j.toNat).map λ(i:Nat)=>D.int i) else none
 |.rng2,[.int i,.int j]=>if inR i=true/\inR j=true then some ((î (j - i).toNat).map λ(k:Nat)=>D.int (i + k)) else none
 |.zip,[.tup a,.tup b]=>some (n30 a b)
 |.zip,[.lst a,.lst b]=>some (n30 a b)
 |.enum,[.tup a]=>some (w90 a 0)
 |.enum,[.lst a]=>some (w90 a 0)
 |_,_=>none
def lrS:Bool->List D->S
 |true,xs=>.d (.tup xs)
 |false,xs=>.fr xs
def lrN:Bool->Str
 |true=>"tuple"
 |false=>"list"
def lrD:List D->Option (List D)
 |[x]=>itD .rng1 [x]
 |l=>itD .rng2 l
mutual
noncomputable def e70:Pat->D->Env->Option Env
 |.v i=>λx ρ=>some (ρ.set i (some (.d x)))
 |.tup ps=>λx ρ=>match x with
  |.tup l=>bindL ps l ρ
  |_=>none
 |.nil=>λ_ _=>none
 |.cons _ _=>λ_ _=>none
noncomputable def bindL:Pat->List D->Env->Option Env
 |.nil=>λl ρ=>match l with
  |[]=>some ρ
  |_=>none
 |.cons p r=>λl ρ=>match l with
  |x::l=>(e70 p x ρ).bind λρ=>bindL r l ρ
  |_=>none
 |.v _=>λ_ _=>none
 |.tup _=>λ_ _=>none
end
def turns(f:D->M (Option D)):List D->M (List D)
 |[]=>M.ret []
 |x::r=>M.bind (f x) λo=>M.bind (turns f r) λl=>M.ret (match o with | some y=>y::l | none=>l)
def o80(fc fe:Env->M (List S))(p:Pat)(ρ0:Env)(x:D):M (Option D):=M.bind (M.of (e70 p x ρ0)) λρ'=>M.bind (fc ρ') λc=>match c with
 |[]=>M.bind (fe ρ') λy=>M.bind (M.of (pl y)) λy=>M.ret (some y)
 |[.d (.bl true)]=>M.bind (fe ρ') λy=>M.bind (M.of (pl y)) λy=>M.ret (some y)
 |[.d (.bl false)]=>M.ret none
 |_=>M.no
def w31(k:Nat):Option (Option S)->Z->Option (R (List S))
 |some (some .z),some p=>if k=0 then some (.ok [.d (.int p.1)] (some p)) else if k=1 then some (.ok [.d (.bl p.2)] (some p)) else none
 |_,_=>none
abbrev FT:=Bool->Nat->List S->M S
abbrev n40(F:FT):FT:=λ_=>F true
def M91(ρ:Env):List Nat->Option (List S)
 |[]=>some []
 |i::r=>match ρ[i]? with
  |some (some s)=>(M91 ρ r).map (s::·)
  |_=>none
def r42(o:Option (List S))(m:Env->M (List S)):M (List S):=λz=>match o with
 |none=>none
 |some ss=>match m (ss.map some) z with
  |some (.er c z1)=>if c < 12 then some (.ok [.fr [.int c]] z1) else none
  |_=>none
def ev:FT->Ex->Env->M (List S)
 |F,.nil=>λ_=>M.ret []
 |F,.cons a r=>λρ=>M.bind (ev F a ρ) λx=>M.bind (M.of (one x)) λs=>M.bind (ev F r ρ) λy=>M.ret (s::y)
 |F,.var i=>λρ=>match ρ[i]? with
  |some (some s)=>M.ret [plS s]
  |_=>M.no
 |F,.con x=>λ_=>M.ret [.d x]
 |F,.gint _ i=>λ_=>M.ret [.d (.int i)]
 |F,.tup as=>λρ=>M.bind (ev F as ρ) λl=>M.bind (M.of (plA l)) λds=>if ds.length<=most then M.ret [.d (.tup ds)] else M.no
 |F,.lst as=>λρ=>M.bind (ev F as ρ) λl=>M.bind (M.of (plA l)) λds=>if ds.length<=most then M.ret [.fr ds] else M.no
 |F,.bin o a b=>λρ=>M.bind (ev F a ρ) λx=>M.bind (M.of (pl x)) λx=>M.bind (ev F b ρ) λy=>M.bind (M.of (pl y)) λy=>M.bind (M.of (A60 o x y)) λs=>M.ret [s]
 |F,.cmp o a b=>λρ=>M.bind (ev F a ρ) λx=>M.bind (M.of (pl x)) λx=>M.bind (ev F b ρ) λy=>M.bind (M.of (pl y)) λy=>M.bind (M.of (A70 o x y)) λb=>M.ret [.d (.bl b)]
 |F,.neg a=>λρ=>M.bind (ev F a ρ) λx=>M.bind (M.of ((pl x).bind asI)) λi=>M.ret [.d (.int (-i))]
 |F,.not a=>λρ=>M.bind (ev F a ρ) λx=>M.bind (M.of ((pl x).bind asB)) λb=>M.ret [.d (.bl !b)]
 |F,.and a b=>λρ=>M.bind (ev F a ρ) λx=>M.bind (M.of ((pl x).bind asB)) λc=>if c then M.bind (ev F b ρ) λy=>M.bind (M.of ((pl y).bind asB)) λc=>M.ret [.d (.bl c)] else M.ret [.d (.bl false)]
 |F,.or a b=>λρ=>M.bind (ev F a ρ) λx=>M.bind (M.of ((pl x).bind asB)) λc=>if c then M.ret [.d (.bl true)] else M.bind (ev F b ρ) λy=>M.bind (M.of ((pl y).bind asB)) λc=>M.ret [.d (.bl c)]
 |F,.orT a b=>λρ=>M.calm (M.bind (ev F a ρ) λx=>M.bind (M.of ((pl x).bind r22)) λl=>if l.isEmpty then M.bind (ev F b ρ) λy=>M.bind (M.of ((pl y).bind r22)) λl=>M.ret [.d (.tup l)] else M.ret [.d (.tup l)])
 |F,.ite c a b=>λρ=>M.bind (ev F c ρ) λx=>M.bind (M.of ((pl x).bind asB)) λc=>if c then ev F a ρ else ev F b ρ
 |F,.ch o o' a b c=>λρ=>M.bind (ev F a ρ) λx=>M.bind (M.of (pl x)) λx=>M.bind (ev F b ρ) λy=>M.bind (M.of (pl y)) λy=>M.bind (M.of (A70 o x y)) λk =>
   if k then M.bind (ev F c ρ) λw=>M.bind (M.of (pl w)) λw=>M.bind (M.of (A70 o' y w)) λk=>M.ret [.d (.bl k)] else M.ret [.d (.bl false)]
 |F,.bf f as=>λρ=>M.bind (ev F as ρ) λl=>M.bind (M.of (plA l)) λds=>M.bind (M.of (bfD f ds)) λs=>M.ret [s]
 |F,.isi t a=>λρ=>M.bind (ev F a ρ) λx=>M.bind (M.of (pl x)) λx=>M.ret [.d (.bl (U11 t x))]
 |F,.idx a i=>λρ=>M.bind (ev F a ρ) λx=>M.bind (M.of (pl x)) λx=>M.bind (ev F i ρ) λy=>M.bind (M.of (pl y)) λy=>M.bind (M.of (Z60 x y)) λr=>M.ret [.d r]
 |F,.sl a lo hi=>λρ=>M.bind (ev F a ρ) λx=>M.bind (M.of (pl x)) λx=>M.bind (ev F lo ρ) λu=>M.bind (M.of (w21 u)) λu=>M.bind (ev F hi ρ) λv=>M.bind (M.of (w21 v)) λv=>M.bind (M.of (slD x u v)) λs=>M.ret [s]
 |F,.rev a=>λρ=>M.bind (ev F a ρ) λx=>M.bind (M.of ((pl x).bind O92)) λs=>M.ret [s]
 |F,.call f as=>λρ=>M.bind (ev F as ρ) λl=>M.bind (F false f (l.map plS)) λs=>M.ret [s]
 |F,.comp own capt p it src cond el=>λρ=>M.bind (ev F src ρ) λl=>M.bind (M.of ((plA l).bind (itD it))) λxs=>if xs.length<=most then M.bind (M.calm (turns (o80 (ev F cond) (ev F el) p (í own none++capt.map λi=>(ρ[i]?).getD none)) xs)) λys=>M.ret [.fr ys] else M.no
 |F,.zget i k=>λρ z=>w31 k ρ[i]? z
 |F,.lrng b as=>λρ=>M.bind (ev F as ρ) λl=>M.bind (M.of ((plA l).bind lrD)) λxs=>M.ret [lrS b xs]
 |F,.refd capt a=>λρ=>r42 (M91 ρ capt) λρ'=>ev (n40 F) a ρ'
def S10(ρ:Env):Env:=ρ.map λo=>match o with
 |some .z=>none
 |o=>o
inductive Sm where
 |nil | seq (s r:Sm)
 |set (p:Pat) (e:Ex) | ret (e:Ex) | iff (c:Ex) (t e:Sm)
 |fr (p:Pat) (it:It) (src:Ex) (b:Sm) | whl (c:Ex) (b:Sm)
 |rais (c:Nat) | exp (e:Ex)
 |app (i:Nat) (e:Ex) | augi (i:Nat) (x e:Ex)
 |newz (i:Nat) (f:Nat) (as:Ex) | zset (i:Nat) (e:Ex) | apop (i j:Nat) (e:Ex)
inductive O where
 |nx (ρ:Env) | rt (s:S)
mutual
noncomputable def bare:D->Bool
 |.lst _=>false
 |.tup l=>o00 l
 |.dct=>false
 |_=>true
noncomputable def o00:List D->Bool
 |[]=>true
 |x::r=>bare x&&o00 r
end
def A00:S->Bool
 |.d x=>bare x
 |.fr xs=>o00 xs
 |.z=>true
def Z70(ρ:Env):Env:=ρ.map λo=>o.map plS
def L30(b:Bool):Option S->Option S
 |some (.fr xs)=>some (if b then .fr xs else .d (.lst xs))
 |o=>o
÷S20(b:Bool)(ρ:Env):ρ.map (L30 b)=if b then ρ else Z70 ρ:=by
 have h:∀ o:Option S,L30 b o=if b then o else o.map plS:=λo=>by
  match o with
  |some (.fr xs)=>cases b <;> rfl
  |some (.d _)=>cases b <;> rfl
  |some .z=>cases b <;> rfl
  |none=>cases b <;> rfl
 rw[show L30 b=λo=>if b then o else o.map plS from funext h]
 cases b with
 |true=>§map_id ρ
 |false=>rfl
def k90(s:S)(ρ:Env):Env:=ρ.map (L30 (A00 s))
def S30:Pat->S->Env->Option Env
 |p,.d x,ρ=>e70 p x ρ
 |.v i,s,ρ=>if i < ρ.length then some (ρ.set i (some s)) else none
 |_,_,_=>none
def X40(f:D->Env->M O):List D->Env->M O
 |[],ρ=>M.ret (.nx ρ)
 |x::r,ρ=>M.bind (f x ρ) λo=>match o with
  |.nx ρ=>X40 f r ρ
  |.rt s=>M.ret (.rt s)
def U21(c:Env->M (List S))(f:Env->M O):Nat->Env->M O
 |0,_=>M.no
 |n + 1,ρ=>M.bind (c ρ) λx=>M.bind (M.of ((pl x).bind asB)) λk=>if k then M.bind (f ρ) λo=>match o with
  |.nx ρ=>U21 c f n ρ
  |.rt s=>M.ret (.rt s)
  else M.ret (.nx ρ)
def ownAt(ρ:Env)(i:Nat):Option (List D):=match ρ[i]? with
 |some (some (.fr xs))=>some xs
 |_=>none
def H00(xs:List D)(i:Int)(y:D):Option (List D):=(ixN xs.length i).map λj=>xs.set j y
def c72:D->Bool
 |.tup l=>o00 l
 |.lst l=>o00 l
 |_=>true
def S40(l:List S):Bool:=match plA l with
 |some ds=>ds.all c72
 |none=>false
def noS:S->Option S
 |.z=>none
 |s=>some s
def c82:(it:It)->(e:Ex)->Option {i:Nat // it=.seq/\e=.cons (.var i) .nil}
 |.seq,.cons (.var i) .nil=>some ⟨i,rfl,rfl⟩
 |_,_=>none
def n41:List S->Bool
 |[]=>false
 |.d (.lst _)::_=>true
 |_::r=>n41 r
def S50(it:It)(e:Ex)(l:List S)(ρ:Env):Env:=match c82 it e with
 |some i=>ρ.set i.1 ((ρ[i.1]?.getD none).map plS)
 |none=>match n41 l with
  |true=>Z70 ρ
  |false=>ρ
def w41(it:It)(e:Ex)(l:List S)(ρ:Env):Env:=(S50 it e l ρ).map (L30 (S40 l))
abbrev k92:Nat:=20000
def c92(ρ:Env)(i j:Nat)(xs ys:List D)(k:Int):Option O :=
 if i≠j/\0<=k/\inR k=true/\xs.length < most then(ys[k.toNat]?).bind λy=>if bare y=true then some (.nx ((ρ.set j (some (.fr (ys.eraseIdx k.toNat)))).set i (some (.fr (xs++[y]))))) else none else none
def r52(F:FT)(i j:Nat)(e:Ex):Env->M O:=λρ=>M.bind (M.of (ownAt ρ i)) λxs=>M.bind (M.of (ownAt ρ j)) λys=>M.bind (ev F e ρ) λl=>M.bind (M.of ((pl l).bind asI)) λk=>M.bind (M.of (c92 ρ i j xs ys k)) λo=>M.ret o
def w51(tp:Bool)(ρ:Env)(i:Nat):List S->Option (R O)
 |[.fr [.int n,.bl b]]=>if tp then some (.ok (.nx ((S10 ρ).set i (some .z))) (some (n,b))) else none
 |_=>none
def w61(ρ:Env)(v:Int):Option (Option S)->Z->Option (R O)
 |some (some .z),some p=>some (.ok (.nx ρ) (some (v,p.2)))
 |_,_=>none
def ex(F:FT)(tp:Bool):Sm->Env->M O
 |.nil=>λρ=>M.ret (.nx ρ)
 |.seq s r=>λρ=>M.bind (ex F tp s ρ) λo=>match o with
  |.nx ρ=>ex F tp r ρ
  |.rt s=>M.ret (.rt s)
 |.set p e=>λρ=>M.bind (ev F e ρ) λl=>M.bind (M.of (one l)) λs=>M.bind (M.of (S30 p s (k90 s ρ))) λρ=>M.ret (.nx ρ)
 |.ret e=>λρ=>match e with
  |.var i=>(match ρ[i]? with
   |some (some s)=>M.bind (M.of (noS s)) λs=>M.ret (.rt s)
   |_=>M.no)
  |e=>M.bind (ev F e ρ) λl=>M.bind (M.of ((one l).bind noS)) λs=>M.ret (.rt s)
 |.iff c t e=>λρ=>M.bind (ev F c ρ) λx=>M.bind (M.of ((pl x).bind asB)) λc=>if c then ex F tp t ρ else ex F tp e ρ
 |.fr p it src b=>λρ=>M.bind (ev F src ρ) λl=>M.bind (M.of ((plA l).bind (itD it))) λxs=>X40 (λx ρ=>M.bind (M.of (e70 p x ρ)) λρ=>ex F tp b ρ) xs (w41 it src l ρ)
 |.whl c b=>λρ=>U21 (ev F c) (ex F tp b) k92 ρ
 |.rais c=>λ_ z=>some (.er c z)
 |.exp e=>λρ=>M.bind (ev F e ρ) λl=>M.bind (M.of (one l)) λ_=>M.ret (.nx ρ)
 |.app i e=>λρ=>M.bind (M.of (ownAt ρ i)) λxs=>M.bind (ev F e ρ) λl=>M.bind (M.of (pl l)) λx=>if bare x=true/\xs.length < most then M.ret (.nx (ρ.set i (some (.fr (xs++[x]))))) else M.no
 |.augi i ix e=>λρ=>M.bind (M.of (ownAt ρ i)) λxs=>M.bind (ev F ix ρ) λj=>M.bind (M.of ((pl j).bind asI)) λj=>M.bind (M.of (atI xs j)) λy=>M.bind (ev F e ρ) λl=>M.bind (M.of (pl l)) λx =>
   M.bind (M.of ((asI x).bind λx=>(asI y).map λy=>D.int (y + x))) λv=>M.bind (M.of (H00 xs j v)) λxs=>M.ret (.nx (ρ.set i (some (.fr xs))))
 |.newz i f as=>λρ=>M.bind (ev F (.call f as) ρ) λl=>λ_=>w51 tp ρ i l
 |.zset i e=>λρ=>M.bind (ev F e ρ) λl=>M.bind (M.of ((pl l).bind asI)) λv=>λz=>w61 ρ v ρ[i]? z
 |.apop i j e=>λρ=>r52 F i j e ρ
inductive Df where
 |code (ps ns:Nat) (b:Sm) | prim (f:List S->M S)
def L40:Z->Z->Z
 |none,_=>none
 |some _,z=>z
def start(ns:Nat)(l:List S):Env:=l.map some++í (ns - l.length) none
def run(F:FT):Df->List S->M S
 |.code ps ns b,l=>λz=>if l.length=ps/\ps<=ns then(match ex F z.isNone b (start ns (l.map plS)) z with
  |some (.ok (.nx _) z1)=>some (.ok (.d .non) (L40 z z1))
  |some (.ok (.rt s) z1)=>some (.ok s (L40 z z1))
  |some (.er c z1)=>some (.er c (L40 z z1))
  |none=>none) else none
 |.prim f,l=>f l
def b40(T:List Df):Nat->Nat->List S->M S
 |k + 3,f,l=>match T[f]? with
  |some d=>run (λb g m=>match b with | true=>b40 T k g m | false=>b40 T (k + 2) g m) d l
  |none=>M.no
 |_,_,_=>M.no
abbrev H10(T:List Df)(k:Nat):FT:=λb g m=>match b with | true=>b40 T (k - 2) g m | false=>b40 T k g m
÷Z80(T:List Df)(k f:Nat)(l:List S):b40 T (k + 3) f l=match T[f]? with
  |some d=>run (H10 T (k + 2)) d l
  |none=>M.no:=rfl
end Q
namespace Q
open PySem L2 PySem.Spec PyProof.Rows
def q60(K:Â)(H:Hp)(a:Ç)(xs:List V):Prop:=Rd H a (.lst xs)∨∃ (its:Array Ä) (n:Nat),K.lookup a=some { cls:=.type "list",data:=.seq its n }/\its.size<=Û/\Vals xs its.toList
÷q60.of{K:Â}{H:Hp}{a:Ç}{xs:List V}(h:H a=some (.lst xs)):q60 K H a xs:=.inl (.inl h)
÷q60.sq{K:Â}{H:Hp}{a:Ç}{xs:List V}(h:q60 K H a xs):SqL K H a xs:=by
 rcases h with h | ⟨its,n,h1,h2,h3⟩
 ·§.inl h
 ·§.inr ⟨_,its,n,h1,rfl,rfl,rfl,h2,h3⟩
÷q60.same{K:Â}{H H':Hp}{a:Ç}{xs:List V}(h:q60 K H a xs)(e:a30 H H'):q60 K H' a xs:=by
 rcases h with (h | ⟨o,h⟩) | h
 ·§.inl (.inl (e _ _ h))
 ·§.inl (.inr ⟨o,e _ _ h⟩)
 ·§.inr h
÷q60.mem(I:Inv X pins σ H s)(h:q60 X.K H a xs):xs.length<=Û/\∃ (its:List Ä) (n:Nat),Vals xs its/\xs.length=its.length/\s.heap.get? a=some { cls:=.type "list",data:=.seq its.toArray n }:=by
 rcases h with (h | ⟨o,h⟩) | ⟨its,n,h1,h2,h3⟩
 ·§I.p02 h
 ·¶⟨e,z,its,n,r,e2⟩:=I.hok a _ h
  §⟨z,its,n,r,r.length,e2⟩
 ·¤⟨by rw[h3.length,Ê8];§h2,its.toList,n,h3,h3.length,?_⟩
  have:=I.kIn a _ h1
  rw[Ð1];§this
mutual
def Hd(K:Â)(H:Hp):D->V->Prop
 |.non,v=>v=.non
 |.bl b,v=>v=.bl b
 |.int i,v=>v=.int i
 |.str x,v=>v=.str x
 |.tup ds,v=>∃ a xs,v=.ref a/\SqT K H a xs/\HdA K H ds xs
 |.lst ds,v=>∃ a xs,v=.ref a/\q60 K H a xs/\HdA K H ds xs
 |.dct,v=>∃ a kvs,v=.ref a/\H a=some (.dK kvs)
def HdA(K:Â)(H:Hp):List D->List V->Prop
 |[],xs=>xs=[]
 |d::ds,xs=>∃ x r,xs=x::r/\Hd K H d x/\HdA K H ds r
end
section
variable {K:Â}{H H':Hp}
mutual
theorem Hd.same(e:a30 H H'):∀ {d:D}{v:V},Hd K H d v->Hd K H' d v
 |.non,_,h=>by unfold Hd at h ⊢;§h
 |.bl _,_,h=>by unfold Hd at h ⊢;§h
 |.int _,_,h=>by unfold Hd at h ⊢;§h
 |.str _,_,h=>by unfold Hd at h ⊢;§h
 |.tup ds,_,h=>by
  unfold Hd at h ⊢
  ¶⟨a,xs,rfl,h1,h2⟩:=h
  §⟨a,xs,rfl,e.sqT h1,HdA.same e h2⟩
 |.lst ds,_,h=>by
  unfold Hd at h ⊢
  ¶⟨a,xs,rfl,h1,h2⟩:=h
  §⟨a,xs,rfl,h1.same e,HdA.same e h2⟩
 |.dct,_,h=>by
  unfold Hd at h ⊢
  ¶⟨a,kvs,rfl,h1⟩:=h
  §⟨a,kvs,rfl,e _ _ h1⟩
theorem HdA.same(e:a30 H H'):∀ {ds:List D}{xs:List V},HdA K H ds xs->HdA K H' ds xs
 |[],_,h=>by unfold HdA at h ⊢;§h
 |d::ds,_,h=>by
  unfold HdA at h ⊢
  ¶⟨x,r,rfl,h1,h2⟩:=h
  §⟨x,r,rfl,Hd.same e h1,HdA.same e h2⟩
end
mutual
theorem Hd.has:∀ {d:D}{v:V},Hd K H d v->Has K H d v
 |.non,_,h=>by unfold Hd at h;unfold Has;§h
 |.bl _,_,h=>by unfold Hd at h;unfold Has;§h
 |.int _,_,h=>by unfold Hd at h;unfold Has;§h
 |.str _,_,h=>by unfold Hd at h;unfold Has;§h
 |.tup ds,_,h=>by
  unfold Hd at h;unfold Has
  ¶⟨a,xs,rfl,h1,h2⟩:=h
  §⟨a,xs,rfl,h1,HdA.has h2⟩
 |.lst ds,_,h=>by
  unfold Hd at h;unfold Has
  ¶⟨a,xs,rfl,h1,h2⟩:=h
  §⟨a,xs,rfl,h1.sq,HdA.has h2⟩
 |.dct,_,h=>by unfold Hd at h;unfold Has;§h
theorem HdA.has:∀ {ds:List D}{xs:List V},HdA K H ds xs->G60 K H ds xs
 |[],_,h=>by unfold HdA at h;unfold G60;§h
 |d::ds,_,h=>by
  unfold HdA at h;unfold G60
  ¶⟨x,r,rfl,h1,h2⟩:=h
  §⟨x,r,rfl,Hd.has h1,HdA.has h2⟩
end
÷HdA.nil:HdA K H [] []:=by unfold HdA;rfl
÷HdA.cons(h:Hd K H d x)(r:HdA K H ds xs):HdA K H (d::ds) (x::xs):=by unfold HdA;§⟨x,xs,rfl,h,r⟩
÷HdA.c20(h:HdA K H (d::ds) xs):∃ x r,xs=x::r/\Hd K H d x/\HdA K H ds r:=by unfold HdA at h;§h
÷HdA.e80(h:HdA K H [] xs):xs=[]:=by unfold HdA at h;§h
÷HdA.length:∀ {ds:List D}{xs:List V},HdA K H ds xs->xs.length=ds.length
 |[],_,h=>by rw[h.e80];rfl
 |d::ds,_,h=>by
  ¶⟨x,r,rfl,_,h2⟩:=h.c20
  simp[h2.length]
÷HdA.get:∀ {ds:List D}{xs:List V}{i:Nat}{d:D},HdA K H ds xs->ds[i]?=some d->∃ x,xs[i]?=some x/\Hd K H d x
 |[],_,_,_,_,e=>by simp at e
 |d::ds,_,i,d',h,e=>by
  ¶⟨y,r,rfl,h1,h2⟩:=h.c20
  cases i with
  |zero=>simp at e;subst e;§⟨y,rfl,h1⟩
  |succ i =>
   ¶⟨x',e1,e2⟩:=HdA.get (i:=i) h2 (by simpa using e)
   §⟨x',by simpa using e1,e2⟩
÷HdA.append:∀ {ds es:List D}{xs ys:List V},HdA K H ds xs->HdA K H es ys->HdA K H (ds++es) (xs++ys)
 |[],_,_,_,h,g=>by rw[h.e80];§g
 |d::ds,_,_,_,h,g=>by
  ¶⟨x,r,rfl,h1,h2⟩:=h.c20
  §.cons h1 (HdA.append h2 g)
÷HdA.take:∀ {ds:List D}{xs:List V} (n:Nat),HdA K H ds xs->HdA K H (ds.take n) (xs.take n)
 |ds,xs,0,_=>by simp;§.nil
 |[],_,n + 1,h=>by rw[h.e80];simp;§.nil
 |d::ds,_,n + 1,h=>by
  ¶⟨x,r,rfl,h1,h2⟩:=h.c20
  §.cons h1 (HdA.take n h2)
÷HdA.drop:∀ {ds:List D}{xs:List V} (n:Nat),HdA K H ds xs->HdA K H (ds.drop n) (xs.drop n)
 |ds,xs,0,h=>by simpa using h
 |[],_,n + 1,h=>by rw[h.e80];simp;§.nil
 |d::ds,_,n + 1,h=>by
  ¶⟨x,r,rfl,h1,h2⟩:=h.c20
  §HdA.drop n h2
÷HdA.reverse:∀ {ds:List D}{xs:List V},HdA K H ds xs->HdA K H ds.reverse xs.reverse
 |[],_,h=>by rw[h.e80];simp;§.nil
 |d::ds,_,h=>by
  ¶⟨x,r,rfl,h1,h2⟩:=h.c20
  rw[Ô5,Ô5]
  §(HdA.reverse h2).append (.cons h1 .nil)
÷HdA.rep(h:HdA K H ds xs):∀ n:Nat,HdA K H (í n ds).flatten (í n xs).flatten
 |0=>by simp;§.nil
 |n + 1=>by rw[Å5,Å5,É9,É9];§h.append (h.rep n)
÷HdA.set:∀ {ds:List D}{xs:List V}{d:D}{x:V} (i:Nat),HdA K H ds xs->Hd K H d x->HdA K H (ds.set i d) (xs.set i x)
 |[],_,_,_,_,h,_=>by rw[h.e80];simp;§.nil
 |e::ds,_,d,x,i,h,g=>by
  ¶⟨y,r,rfl,h1,h2⟩:=h.c20
  cases i with
  |zero=>§.cons g h2
  |succ i=>§.cons h1 (HdA.set i h2 g)
÷HdA.ints:∀ ns:List Int,HdA K H (ns.map D.int) (ns.map V.int)
 |[]=>.nil
 |n::r=>.cons (by unfold Hd;rfl) (HdA.ints r)
÷Hd.h90(h:Hd K H (.int i) v):v=.int i:=by unfold Hd at h;§h
÷Hd.bl_(h:Hd K H (.bl b) v):v=.bl b:=by unfold Hd at h;§h
÷Hd.B92(h:Hd K H .non v):v=.non:=by unfold Hd at h;§h
÷Hd.G72{x:Str}{v:V}(h:Hd K H (.str x) v):v=.str x:=by unfold Hd at h;§h
÷Hd.A10(h:Hd K H (.tup ds) v):∃ a xs,v=.ref a/\SqT K H a xs/\HdA K H ds xs:=by unfold Hd at h;§h
÷Hd.X50(h:Hd K H (.lst ds) v):∃ a xs,v=.ref a/\q60 K H a xs/\HdA K H ds xs:=by unfold Hd at h;§h
÷Hd.int:Hd K H (.int i) (.int i):=by unfold Hd;rfl
÷Hd.bl:Hd K H (.bl b) (.bl b):=by unfold Hd;rfl
÷Hd.non:Hd K H .non .non:=by unfold Hd;rfl
÷Hd.str{x:Str}:Hd K H (.str x) (.str x):=by unfold Hd;rfl
÷Hd.tup(h:SqT K H a xs)(r:HdA K H ds xs):Hd K H (.tup ds) (.ref a):=by unfold Hd;§⟨a,xs,rfl,h,r⟩
÷Hd.lst(h:H a=some (.lst xs))(r:HdA K H ds xs):Hd K H (.lst ds) (.ref a):=by unfold Hd;§⟨a,xs,rfl,q60.of h,r⟩
end
def noT(H:Hp):Hp:=λb=>match H b with
 |some (.tbl _)=>none
 |o=>o
÷S60(h:noT H b=some o):H b=some o/\∀ ps,o≠.tbl ps:=by
 unfold noT at h
 split at h
 ·cases h
 ·rename_i n
  §⟨h,λps e=>n ps (by rw[h,e])⟩
÷Z90(h:H b=some o)(n:∀ ps,o≠.tbl ps):noT H b=some o:=by
 unfold noT
 split
 ·rename_i ps e
  rw[h] at e
  cases e
  §absurd rfl (n ps)
 ·§h
÷A80(H:Hp):a30 (noT H) H:=λ_ _ h=>(S60 h).1
÷f71(e:a30 H H'):a30 (noT H) (noT H'):=λb o h=>Z90 (e b o (S60 h).1) (S60 h).2
def hz(zA:Option Ç)(H:Hp):Hp:=match zA with
 |some a=>hide a (noT H)
 |none=>noT H
class Tb where
 tb:List (Addr × Str)
variable [TB:Tb]
def zAt(zA:Option Ç)(z:Z)(H:Hp):Prop:=match zA,z with
 |some a,some (n,b)=>H a=some (.lst [.int n,.bl b])
 |none,none=>True
 |_,_=>False
structure d70(zA:Option Addr)(z:Z)(H:Hp):Prop where
 zat:zAt zA z H
 tab:∀ p∈TB.tb,Tab H p.1 p.2
÷a20(zA:Option Ç)(H:Hp):a30 (hz zA H) H:=by
 cases zA with
 |none=>§A80 H
 |some a=>§a30.trans (e60 a _) (A80 H)
÷k30(e:a30 H H'):a30 (hz zA H) (hz zA H'):=by
 cases zA with
 |none=>§f71 e
 |some a=>§C50 λb o _ h=>f71 e b o h
÷d50(h:H b=some o)(n:zA≠some b)(ht:∀ ps,o≠.tbl ps:=by §λ_ h=>nomatch h):hz zA H b=some o:=by
 cases zA with
 |none=>§Z90 h ht
 |some a=>§K40 (Z90 h ht) λe=>n (by rw[e])
÷r30(h:hz zA H b=some o):H b=some o/\zA≠some b:=by
 cases zA with
 |none=>§⟨A80 H b o h,λe=>nomatch e⟩
 |some a =>
  ¤⟨A80 H b o (e60 a _ b o h),λe=>?_⟩
  cases e
  have:hide b (noT H) b=some o:=h
  unfold hide at this
  rw[if_pos rfl] at this;cases this
÷s00(h:hz zA H b=some o):∀ ps,o≠.tbl ps:=by
 cases zA with
 |none=>§(S60 h).2
 |some a=>§(S60 (e60 a _ b o h)).2
structure Ext(zA:Option Addr)(H H':Hp):Prop where
 same:a30 (hz zA H) (hz zA H')
 tbl:∀ b ps,H b=some (.tbl ps)->∃ qs,H' b=some (.tbl qs)
instance {zA:Option Ç}{H H':Hp}:CoeFun (Ext zA H H') (λ_=>∀ b o,hz zA H b=some o->hz zA H' b=some o):=⟨λx=>x.same⟩
instance {zA:Option Ç}{H H':Hp}:CoeOut (Ext zA H H') (a30 (hz zA H) (hz zA H')):=⟨λx=>x.same⟩
÷Ext.refl:Ext zA H H:=⟨a30.refl _,λb ps h=>⟨ps,h⟩⟩
÷Ext.trans(a:Ext zA H H1)(b:Ext zA H1 H2):Ext zA H H2:=⟨a30.trans a.same b.same,λc ps h=>let ⟨qs,h1⟩:=a.tbl c ps h;b.tbl c qs h1⟩
÷Ext.of(e:a30 H H'):Ext zA H H':=⟨k30 e,λb ps h=>⟨ps,e b _ h⟩⟩
÷Ext.at(e:Ext zA H H')(h:H a=some o)(n:zA≠some a)(ht:∀ ps,o≠.tbl ps:=by §λ_ h=>nomatch h):H' a=some o:=(r30 (e.same a o (d50 h n ht))).1
÷Ext.free(e:Ext zA H H')(h:H' a=none)(n:zA≠some a):H a=none:=by
 cases q:H a with
 |none=>rfl
 |some o =>
  by_cases ht:∃ ps,o=.tbl ps
  ·¶⟨ps,rfl⟩:=ht
   ¶⟨qs,q'⟩:=e.tbl a ps q
   rw[q'] at h;cases h
  ·rw[e.at q n λps z=>ht ⟨ps,z⟩] at h;cases h
÷zAt.same(h:zAt zA z H)(e:a30 H H'):zAt zA z H':=by
 cases zA with
 |none=>cases z with
  |none=>trivial
  |some _=>§h.elim
 |some a=>cases z with
  |none=>§h.elim
  |some p=>§e _ _ h
÷d70.same(h:d70 zA z H)(e:a30 H H'):d70 zA z H':=⟨h.zat.same e,λp hp=>(h.tab p hp).same e⟩
÷Tab.upd{H:Hp}{P a:Ç}{q:Str}{xs:List V}{o:HO}(t:Tab H P q)(h:H a=some (.lst xs)):Tab (upd H a o) P q:=by
 ¶⟨ps,e,tr,k⟩:=t
 have ne:∀ {b:Ç}{u:HO},H b=some u->(∀ l,u≠.lst l)->b≠a:=λ{b u} e1 e2 z=>by
  subst z
  rw[h] at e1
  cases e1
  §e2 _ rfl
 ¤⟨ps,by rw[a60 (ne e λ_ z=>nomatch z)];§e,tr,λpos c hc=>?_⟩
 ¶⟨c',e1,e2⟩:=k pos c hc
 §⟨c',e1,by rw[a60 (ne e2 λ_ z=>nomatch z)];§e2⟩
÷d70.d02{K:Â}{zA:Option Ç}{z:Z}{H:Hp}(h:d70 zA z H){a:Ç}{xs:List V}(t:SqT K H a xs):SqT K (hz zA H) a xs:=by
 have h:=h.zat
 rcases t with (t | ⟨o,t⟩) | t
 ·¤.inl (.inl (d50 t λe=>?_))
  subst e
  cases z with
  |none=>§h.elim
  |some p =>
   have h':H a=some (.lst [.int p.1,.bl p.2]):=h
   rw[t] at h';cases h'
 ·¤.inl (.inr ⟨o,d50 t λe=>?_⟩)
  subst e
  cases z with
  |none=>§h.elim
  |some p =>
   have h':H a=some (.lst [.int p.1,.bl p.2]):=h
   rw[t] at h';cases h'
 ·§.inr t
÷d70.w71(h:d70 zA z H)(n:H a=none):zA≠some a:=λe=>by
 have h:=h.zat
 subst e
 cases z with
 |none=>§h.elim
 |some p =>
  have h':H a=some (.lst [.int p.1,.bl p.2]):=h
  rw[n] at h';cases h'
def RvS(K:Â)(zA:Option Ç)(H0 H:Hp):S->V->Prop
 |.d x,v=>Hd K (hz zA H) x v
 |.fr xs,v=>∃ a ys,v=.ref a/\H0 a=none/\zA≠some a/\H a=some (.lst ys)/\HdA K (hide a (hz zA H)) xs ys
 |.z,v=>∃ a,zA=some a/\v=.ref a
def RvP(K:Â)(zA:Option Ç)(H:Hp):S->V->Prop
 |.d x,v=>Hd K (hz zA H) x v
 |.fr xs,v=>Hd K (hz zA H) (.lst xs) v
 |.z,v=>∃ a,zA=some a/\v=.ref a
section
variable {K:Â}{zA:Option Ç}{H0 H H':Hp}
÷RvS.pl{s:S}{v:V}(h:RvS K zA H0 H s v):RvP K zA H s v:=by
 cases s with
 |d x=>§h
 |z=>§h
 |fr xs =>
  ¶⟨a,ys,rfl,_,h2,h3,h4⟩:=h
  §Hd.lst (d50 h3 h2) (h4.same (e60 a _))
÷RvP.plS{s:S}{v:V}(h:RvP K zA H s v):RvP K zA H (plS s) v:=by cases s <;> §h
÷RvP.mono{s:S}{v:V}(h:RvP K zA H s v)(e:Ext zA H H'):RvP K zA H' s v:=by
 cases s with
 |d x=>§Hd.same e h
 |z=>§h
 |fr xs=>§Hd.same e h
÷RvS.mono{s:S}{v:V}(h:RvS K zA H0 H s v)(e:Ext zA H H'):RvS K zA H0 H' s v:=by
 cases s with
 |d x=>§Hd.same e h
 |z=>§h
 |fr xs =>
  ¶⟨a,ys,rfl,h1,h2,h3,h4⟩:=h
  §⟨a,ys,rfl,h1,h2,e.at h3 h2,h4.same (C50 λb o _ q=>e b o q)⟩
÷RvS.from{H1:Hp}{s:S}{v:V}(h:RvS K zA H1 H s v)(e:Ext zA H0 H1):RvS K zA H0 H s v:=by
 cases s with
 |d x=>§h
 |z=>§h
 |fr xs =>
  ¶⟨a,ys,rfl,h1,h2,h3⟩:=h
  §⟨a,ys,rfl,e.free h1 h2,h2,h3⟩
÷RvP.d_{s:S}{v:V}{x:D}(h:RvP K zA H s v)(e:plD s=some x):Hd K (hz zA H) x v:=by
 cases s with
 |d y=>cases e;§h
 |fr xs=>cases e;§h
 |z=>cases e
end
abbrev RvA(K:Â)(zA:Option Ç)(H:Hp):List S->List V->Prop:=Å9 (RvP K zA H)
÷RvA.mono{K:Â}{zA:Option Ç}{H H':Hp}{l:List S}{vs:List V}(h:RvA K zA H l vs)(e:Ext zA H H'):RvA K zA H' l vs:=Å9.k72 h λ_ _ q=>q.mono e
÷RvA.plS{K:Â}{zA:Option Ç}{H:Hp}:∀ {l:List S}{vs:List V},RvA K zA H l vs->RvA K zA H (l.map plS) vs
 |_,_,.nil=>.nil
 |_,_,.cons r t=>.cons r.plS (RvA.plS t)
÷RvA.ds{K:Â}{zA:Option Ç}{H:Hp}:∀ {l:List S}{vs:List V}{ds:List D},RvA K zA H l vs->plA l=some ds->HdA K (hz zA H) ds vs
 |_,_,_,.nil,e=>by cases e;§.nil
 |.d x::r,_,_,.cons h t,e=>by
  simp only[plA,Õ0] at e
  ¶⟨l,e,rfl⟩:=e
  §.cons h (RvA.ds t e)
 |.fr x::r,_,_,.cons h t,e=>by
  simp only[plA,Õ0] at e
  ¶⟨l,e,rfl⟩:=e
  §.cons h (RvA.ds t e)
 |.z::r,_,_,.cons h t,e=>by simp[plA] at e
÷e90(h:pl l=some x):∃ s,l=[s]/\plD s=some x:=by
 unfold pl at h
 split at h
 ·§⟨_,rfl,h⟩
 ·§⟨_,rfl,h⟩
 ·cases h
÷M.bind_some{α β:Type}{m:M α}{f:α->M β}{z:Z}{r:R β}(h:M.bind m f z=some r):(∃ a z1,m z=some (.ok a z1)/\f a z1=some r)∨(∃ c z1,m z=some (.er c z1)/\r=.er c z1):=by
 unfold M.bind at h
 split at h
 ·§.inl ⟨_,_,by assumption,h⟩
 ·cases h;§.inr ⟨_,_,by assumption,rfl⟩
 ·cases h
÷M.a10{α β:Type}{o:Option α}{f:α->M β}{z:Z}{r:R β}(h:M.bind (M.of o) f z=some r):∃ a,o=some a/\f a z=some r:=by
 cases o with
 |none=>cases h
 |some a=>§⟨a,rfl,h⟩
end Q
set_option exponentiation.threshold 5000
namespace Q
open PySem L2 PySem.Spec PyProof.Rows
variable [TB:Tb]
section
variable {K:Â}{zA:Option Ç}{z:Z}{H:Hp}
÷N01(hp:H p=none):a30 (hz zA H) (hide p (hz zA (upd H p o))):=λb u e=>by
 ¶⟨e1,e2⟩:=r30 e
 have hb:b≠p:=λq=>by subst q;rw[hp] at e1;cases e1
 §K40 (d50 (by rw[a60 hb];§e1) e2 (s00 e)) hb
÷i60:RvS K zA H0 H (.d (.int i)) (.int i):=Hd.int (K:=K) (H:=hz zA H)
÷h50:RvS K zA H0 H (.d (.bl b)) (.bl b):=Hd.bl (K:=K) (H:=hz zA H)
÷H01(h:Hd K (hz zA H) x v):RvS K zA H0 H (.d x) v:=h
÷n50(st:d70 zA z H)(h:HdA K (hz zA H) xs ys)(hp:H p=none):RvS K zA H (upd H p (.lst ys)) (.fr xs) (.ref p) :=
 ⟨p,ys,rfl,hp,st.w71 hp,b20,h.same (N01 hp)⟩
÷tupQ(st:d70 zA z H)(h:HdA K (hz zA H) xs ys)(q:∀ v H',a30 H H'->RvS K zA H H' (.d (.tup xs)) v->Q v H'):K71 K H ys Q :=
 λp H' sm hq=>q _ _ sm (H01 (Hd.tup ((st.same sm).d02 hq) (h.same (k30 sm))))
end
def rD2(K:Â)(f:D->D->Option S):R2:=λx y H Q=>∃ zA z dx dy s,d70 zA z H/\Hd K (hz zA H) dx x/\Hd K (hz zA H) dy y/\f dx dy=some s/\∀ v H',a30 H H'->RvS K zA H H' s v->Q v H'
def rDn(K:Â)(f:List D->Option S):List V->Hp->VK->Prop:=λxs H Q=>∃ zA z ds s,d70 zA z H/\HdA K (hz zA H) ds xs/\f ds=some s/\∀ v H',a30 H H'->RvS K zA H H' s v->Q v H'
section
variable {X:Cx}
÷bits_le(h:k.natAbs < P00):Þ8 k<=4000:=by
 unfold Þ8
 split
 ·§Æ6 _
 ·have hn:k.natAbs < 2 ^ 4000:=h
  have:k.natAbs.log2 < 4000:=by
   rcases Nat.eq_zero_or_pos k.natAbs with h0 | hp
   ·rw[h0];decide
   ·§(Nat.log2_lt (Ê7 hp)).mpr hn
  omega
÷r62(hi:i.natAbs < P00)(hj:j.natAbs < P00):IntMulOk i j:=by
 have h1:=bits_le hi
 have h2:=bits_le hj
 unfold IntMulOk
 intro h
 rw[Á] at h
 have h3:=h.2
 unfold ÿ.Int.intTooBig at h3
 simp only[decide_eq_true_eq] at h3
 have:(8000:Nat) < bitsLine:=by decide
 omega
÷w81(hj:j.natAbs < P00):ÿ.divisionGoesByPylong i j=false:=by
 ¤PyProof.noPylong_of_log2 ?_
 rcases Nat.eq_zero_or_pos j.natAbs with h0 | hp
 ·rw[h0];decide
 ·have:j.natAbs.log2 < 4000:=(Nat.log2_lt (Ê7 hp)).mpr hj
  omega
÷f00(h:n<=most):n<=sizeLine:=Ñ h (by rw[Á3];decide)
def G82(K:Â):R2:=λx y H Q=>∃ l b xs zs,x=.ref l/\y=.ref b/\q60 K H l xs/\q60 K H b zs/\xs.length + zs.length<=Û/\∀ p,H p=none->Q (.ref p) (upd H p (.lst (xs++zs)))
def G92(K:Â):R2:=λx y H Q=>∃ l k xs,x=.ref l/\y=.int k/\q60 K H l xs/\-(2 ^ 63)<=k/\k < 2 ^ 63/\xs.length * k.toNat<=Û/\∀ p,H p=none->Q (.ref p) (upd H p (.lst (í k.toNat xs).flatten))
÷d12:OpR X (Ä2 .Add) (G82 X.K):=by
 intro pins s σ H x y v u Q I rx ry h
 ¶⟨l,b,xs,zs,rfl,rfl,hH,hB,hz,q⟩:=h
 cases rx
 cases ry
 ¶⟨z,its,n,r,hl,e⟩:=hH.mem I
 ¶⟨z2,its2,n2,r2,hl2,e2⟩:=hB.mem I
 ¤PySem.P.add_list e e2 ?_ (by rw[Ó,Ó];omega)
 have ea:its.toArray++its2.toArray=(its++its2).toArray:=by simp
 rw[ea]
 §⟨.ref _,_,I.F22 (t':=s.toks) (r.append r2) (by rw[Â0];omega),rfl,q _ I.fresh⟩
÷d22:OpR X (Ä2 .Mult) (G92 X.K):=by
 intro pins s σ H x y v u Q I rx ry h
 ¶⟨l,k,xs,rfl,rfl,hH,h1,h2,hz,q⟩:=h
 cases rx
 ¶⟨t,rfl⟩:=ry
 ¶⟨z,its,n,r,hl,e⟩:=hH.mem I
 have hlen:its.toArray.size * k.toNat<=sizeLine:=by rw[Ó,← hl];§hz
 have hcap:¬ its.toArray.size * k.toNat > (2 ^ 63 - 1) / 8:=by
  have:(Û:Nat)<=(2 ^ 63 - 1) / 8:=by decide
  omega
 have hfit:¬ (!ÿ.List.listFitsIndex k)=true:=by
  rw[fitsIndex_both h1 h2]
  §Ð
 have hlong:¬ Í7 (its.toArray.size * k.toNat)=true:=by
  rw[I51 hlen]
  §Ð
 have hnew:foldl (λx1 x2=>x1++x2) #[] (í (if its.toArray.isEmpty=true then 0 else k.toNat) its.toArray)=(í k.toNat its).flatten.toArray:=by
  have f0:∀ m:Nat,foldl (λx1 x2=>x1++x2) #[] (í m its.toArray)=(í m its).flatten.toArray:=λm=>by
   have:=foldl_rep its m []
   rw[Í1] at this
   §this
  rw[f0]
  cases its with
  |nil=>simp
  |cons a r'=>rw[if_neg (by simp)]
 ¤wpAny_binaryOp_repeat_ref (T:="list") (U:="int") (by decide) ⟨_,e,rfl⟩ (λs'=>Ü1 s' k t) noFill_list_mul F.fills_int_mul Õ6 repeat_list F.slot_int_index.lookup
  (È4 Õ6 (Ü1 s k t) F.entry_int_rmul (F.args_int_rmul_2 _ _) (int___rmul___int_list k t l its.toArray n)
   ⟨e,rfl,⟨_,e,rfl⟩,È4 F.slot_list_mul ⟨_,e,rfl⟩ F.entry_list_mul (F.args_list_mul_2 _ _) (AutoListH.list___mul___list_int_3 l its.toArray n k t hfit hcap hlong) ⟨e,?_⟩⟩)
 rw[hnew]
 §⟨.ref _,_,I.F22 (t':=s.toks) (r.rep k.toNat) (by rw[len_rep,Ó9];§hz),rfl,q _ I.fresh⟩
÷d32:OpR X (Ä2 .Add) (rD2 X.K (A60 .add)):=by
 intro pins s σ H x y v u Q I rx ry h
 ¶⟨zA,z,dx,dy,w,st,hx,hy,e,q⟩:=h
 cases dx with
 |int i =>
  cases dy with
  |int j =>
   cases e;cases hx.h90;cases hy.h90
   §n82 pins s σ H _ _ v u Q I rx ry ⟨i,j,rfl,rfl,q _ _ (a30.refl H) i60⟩
  |_=>cases e
 |tup a =>
  cases dy with
  |tup b =>
   ¶⟨hl,e⟩:=f70 e
   cases e
   ¶⟨p,xs,rfl,h1,h2⟩:=hx.A10
   ¶⟨p',ys,rfl,h3,h4⟩:=hy.A10
   §a62 pins s σ H _ _ v u Q I rx ry ⟨p,p',xs,ys,rfl,rfl,(a20 zA H).sqT h1,(a20 zA H).sqT h3,f00 (by rw[h2.length,h4.length];§hl),tupQ st (h2.append h4) q⟩
  |_=>cases e
 |lst a =>
  cases dy with
  |lst b =>
   ¶⟨hl,e⟩:=f70 e
   cases e
   ¶⟨p,xs,rfl,h1,h2⟩:=hx.X50
   ¶⟨p',ys,rfl,h3,h4⟩:=hy.X50
   §d12 pins s σ H _ _ v u Q I rx ry ⟨p,p',xs,ys,rfl,rfl,h1.same (a20 zA H),h3.same (a20 zA H),f00 (by rw[h2.length,h4.length];§hl),λr hr=>q _ _ (a30.new _ hr) (n50 st (h2.append h4) hr)⟩
  |_=>cases e
 |_=>cases e
÷d42:OpR X (Ä2 .Sub) (rD2 X.K (A60 .sub)):=by
 intro pins s σ H x y v u Q I rx ry h
 ¶⟨zA,z,dx,dy,w,st,hx,hy,e,q⟩:=h
 cases dx with
 |int i =>
  cases dy with
  |int j =>
   cases e;cases hx.h90;cases hy.h90
   §n92 pins s σ H _ _ v u Q I rx ry ⟨i,j,rfl,rfl,q _ _ (a30.refl H) i60⟩
  |_=>cases e
 |_=>cases e
÷d52:OpR X (Ä2 .Mult) (rD2 X.K (A60 .mul)):=by
 intro pins s σ H x y v u Q I rx ry h
 ¶⟨zA,z,dx,dy,w,st,hx,hy,e,q⟩:=h
 cases dx with
 |int i =>
  cases dy with
  |int j =>
   ¶⟨hl,e⟩:=f70 e
   cases e;cases hx.h90;cases hy.h90
   ¶⟨t,rfl⟩:=rx
   ¶⟨t',rfl⟩:=ry
   §mul_int ⟨.int (i * j),H,I.tok _,⟨_,rfl⟩,q _ _ (a30.refl H) i60⟩ (r62 hl.1 hl.2)
  |_=>cases e
 |tup a =>
  cases dy with
  |int j =>
   ¶⟨hl,e⟩:=f70 e
   cases e;cases hy.h90
   ¶⟨p,xs,rfl,h1,h2⟩:=hx.A10
   §a72 pins s σ H _ _ v u Q I rx ry ⟨p,j,xs,rfl,rfl,(a20 zA H).sqT h1,hl.1,hl.2.2,f00 (by rw[h2.length];§hl.2.1),tupQ st (h2.rep _) q⟩
  |_=>cases e
 |lst a =>
  cases dy with
  |int j =>
   ¶⟨hl,e⟩:=f70 e
   cases e;cases hy.h90
   ¶⟨p,xs,rfl,h1,h2⟩:=hx.X50
   §d22 pins s σ H _ _ v u Q I rx ry ⟨p,j,xs,rfl,rfl,h1.same (a20 zA H),by omega,by omega,f00 (by rw[h2.length,Ó9];§hl.2.1),λr hr=>q _ _ (a30.new _ hr) (n50 st (h2.rep _) hr)⟩
  |_=>cases e
 |_=>cases e
÷N11:OpR X (Ä2 .FloorDiv) (rD2 X.K (A60 .fdiv)):=by
 intro pins s σ H x y v u Q I rx ry h
 ¶⟨zA,z,dx,dy,w,st,hx,hy,e,q⟩:=h
 cases dx with
 |int i =>
  cases dy with
  |int j =>
   ¶⟨hl,e⟩:=f70 e
   cases e;cases hx.h90;cases hy.h90
   ¶⟨t,rfl⟩:=rx
   ¶⟨t',rfl⟩:=ry
   ¤floordiv_int (by omega) ⟨.int (i / j),H,I.tok _,⟨s.toks,?_⟩,q _ _ (a30.refl H) i60⟩ (.inl (w81 hl.2))
   rw[Int.fdiv_eq_ediv_of_nonneg _ (by omega)]
  |_=>cases e
 |_=>cases e
÷d62:OpR X (Ä2 .Mod) (rD2 X.K (A60 .mod)):=by
 intro pins s σ H x y v u Q I rx ry h
 ¶⟨zA,z,dx,dy,w,st,hx,hy,e,q⟩:=h
 cases dx with
 |int i =>
  cases dy with
  |int j =>
   ¶⟨hl,e⟩:=f70 e
   cases e;cases hx.h90;cases hy.h90
   §o02 pins s σ H _ _ v u Q I rx ry ⟨i,j,rfl,rfl,hl,q _ _ (a30.refl H) i60⟩
  |_=>cases e
 |_=>cases e
÷d72:OpR X (Ä2 .Pow) (rD2 X.K (A60 .pow)):=by
 intro pins s σ H x y v u Q I rx ry h
 ¶⟨zA,z,dx,dy,w,st,hx,hy,e,q⟩:=h
 cases dx with
 |int i =>
  cases dy with
  |int j =>
   ¶⟨hl,e⟩:=f70 e
   cases e;cases hx.h90;cases hy.h90
   §o12 pins s σ H _ _ v u Q I rx ry ⟨i,j,rfl,rfl,⟨hl.1,by omega,hl.2.2⟩,q _ _ (a30.refl H) i60⟩
  |_=>cases e
 |_=>cases e
def opB:Bi->Ý8
 |.add=>.Add | .sub=>.Sub | .mul=>.Mult | .fdiv=>.FloorDiv | .mod=>.Mod | .pow=>.Pow
÷opD(o:Bi):OpR X (Ä2 (opB o)) (rD2 X.K (A60 o)):=by
 cases o
 ·§d32
 ·§d42
 ·§d52
 ·§N11
 ·§d62
 ·§d72
mutual
noncomputable def toP:D->PyData
 |.non=>.none
 |.bl b=>.bool b
 |.int i=>.int i
 |.str x=>.str x
 |.tup l=>.tuple (P10 l)
 |.lst l=>.list (P10 l)
 |.dct=>.none
noncomputable def P10:List D->List PyData
 |[]=>[]
 |x::r=>toP x::P10 r
end
end
end Q
namespace Q
open PySem L2 PySem.Spec PyProof.Rows
variable [TB:Tb]
mutual
theorem S70:∀ a b:D,n00 a=true->n00 b=true->Ü8 (toP a) (toP b)=eqD a b
 |.non,b,_,h=>by cases b <;> first | rfl | (simp[n00] at h)
 |.bl _,b,_,h=>by cases b <;> first | rfl | (simp[n00] at h)
 |.int _,b,_,h=>by cases b <;> first | rfl | (simp[n00] at h)
 |.str _,b,_,h=>by cases b <;> first | rfl | (simp[n00] at h)
 |.tup l,b,ha,h=>by
  cases b with
  |tup q =>
   §a01 l q (by simpa [n00] using ha) (by simpa [n00] using h)
  |dct=>simp[n00] at h
  |_=>rfl
 |.lst l,b,ha,h=>by
  cases b with
  |lst q =>
   §a01 l q (by simpa [n00] using ha) (by simpa [n00] using h)
  |dct=>simp[n00] at h
  |_=>rfl
 |.dct,_,h,_=>by simp[n00] at h
theorem a01:∀ a b:List D,e00 a=true->e00 b=true->PyData.eqvAll (P10 a) (P10 b)=M51 a b
 |[],[],_,_=>rfl
 |[],_::_,_,_=>rfl
 |_::_,[],_,_=>rfl
 |x::r,y::q,ha,hb=>by
  simp only[e00,Á] at ha hb
  simp only[P10,PyData.eqvAll,M51]
  rw[S70 x y ha.1 hb.1,a01 r q ha.2 hb.2]
end
mutual
theorem y40:∀ a:D,n00 a=true->(toP a).canLay0=true
 |.non,_=>rfl
 |.bl _,_=>rfl
 |.int _,_=>rfl
 |.str _,h=>h
 |.tup l,h=>s70 l h
 |.lst l,h=>s70 l h
 |.dct,h=>by cases h
theorem s70:∀ a:List D,e00 a=true->PyData.canLayAll0 (P10 a)=true
 |[],_=>rfl
 |x::r,h=>by
  simp only[e00,Á] at h
  simp only[P10,PyData.canLayAll0,y40 x h.1,s70 r h.2,Bool.and_self]
end
mutual
theorem L50:∀ a:D,(toP a).depth=deep a
 |.non=>rfl
 |.bl _=>rfl
 |.int _=>rfl
 |.str _=>rfl
 |.tup l=>congrArg (· + 1) (L60 l)
 |.lst l=>congrArg (· + 1) (L60 l)
 |.dct=>rfl
theorem L60:∀ a:List D,Ò9 (P10 a)=f40 a
 |[]=>rfl
 |x::r=>by
  simp only[P10,Ò9,f40]
  rw[L50 x,L60 r]
end
def n51(h:ì)(u:Ä)(d:D):Prop:=n00 d=true/\∃ as,Reads h u (toP d) as
def e10(h:ì)(us:List Ä)(ds:List D):Prop:=e00 ds=true/\∃ as,ReadsAll h us (P10 ds) as
section
variable {X:Cx}{pins:List (Ç × Obj)}{σ:L2.St}{H:Hp}{s:Æ}
mutual
theorem i70(I:Inv X pins σ H s):∀ {d:D}{v:V}{u:Ä},Hd X.K H d v->RelV v u->n00 d=true->∃ as,Reads s.heap u (toP d) as
 |.non,_,_,h,r,_=>by cases h.B92;cases r;§⟨_,.none⟩
 |.bl b,_,_,h,r,_=>by cases h.bl_;cases r;§⟨_,.bool b⟩
 |.int i,_,_,h,r,_=>by cases h.h90;¶⟨t,rfl⟩:=r;§⟨_,.int i t⟩
 |.str x,_,_,h,r,_=>by cases h.G72;¶⟨t,rfl⟩:=r;§⟨_,.str x t⟩
 |.tup l,_,_,h,r,f=>by
  ¶⟨a,xs,rfl,h1,h2⟩:=h.A10
  cases r
  ¶⟨its,rv,⟨o,e1,e2,n,e3⟩,_⟩:=I.tuple h1
  ¶⟨as,ra⟩:=D40 I h2 rv f
  §⟨_,.tuple e1 e2 e3 (by simpa using ra)⟩
 |.lst l,_,_,h,r,f=>by
  ¶⟨a,xs,rfl,h1,h2⟩:=h.X50
  cases r
  ¶⟨its,rv,⟨o,n,e1,e2,_,e3⟩,_⟩:=I.list h1.sq
  ¶⟨as,ra⟩:=D40 I h2 rv f
  §⟨_,.list e1 e2 e3 (by simpa using ra)⟩
 |.dct,_,_,_,_,f=>by cases f
theorem D40(I:Inv X pins σ H s):∀ {ds:List D}{vs:List V}{us:List Ä},HdA X.K H ds vs->Vals vs us->e00 ds=true->∃ as,ReadsAll s.heap us (P10 ds) as
 |[],_,_,h,r,_=>by cases h.e80;cases r;§⟨_,.nil⟩
 |d::ds,_,_,h,r,f=>by
  ¶⟨x,xs,rfl,h1,h2⟩:=h.c20
  cases r with
  |cons r1 r2 =>
   simp only[e00,Á] at f
   ¶⟨_,a1⟩:=i70 I h1 r1 f.1
   ¶⟨_,a2⟩:=D40 I h2 r2 f.2
   §⟨_,.cons a1 a2⟩
end
end
÷o90(h:okD d=true):n00 d=true/\SeqAt.shaped (toP d)=true:=by
 unfold okD at h
 rw[Á,decide_eq_true_eq] at h
 ¤⟨h.1,?_⟩
 unfold SeqAt.shaped
 rw[y40 d h.1,L50,Ä9,decide_eq_true_eq]
 omega
section
variable {X:Cx}
÷r72(h:eqE a b=some c):∃ l,a=.tup l/\b=.tup []/\c=l.isEmpty:=by
 unfold eqE at h
 split at h
 ·cases h;§⟨_,rfl,rfl,rfl⟩
 ·cases h
÷r82(hu:X.A.units + 64 < Å8):OpR X (ü .Eq) (rD2 X.K λa b=>(eqQ a b).map λc=>.d (.bl c)):=by
 intro pins s σ H x y v u Q I rx ry h
 ¶⟨zA,z,dx,dy,w,st,hx,hy,e,q⟩:=h
 unfold eqQ at e
 dsimp only at e
 split at e
 ·rename_i ok
  cases e
  rw[Á] at ok
  ¶⟨f1,s1⟩:=o90 ok.1
  ¶⟨f2,s2⟩:=o90 ok.2
  ¶⟨as,r1⟩:=i70 I (hx.same (a20 zA H)) rx f1
  ¶⟨bs,r2⟩:=i70 I (hy.same (a20 zA H)) ry f2
  §eq_dataH r1 r2 s1 s2 hu ⟨.bl _,H,I,rfl,by rw[S70 dx dy f1 f2];§q _ _ (a30.refl H) h50⟩
 ·¶⟨c,h1,h2⟩:=Ê.mp e
  ¶⟨l,rfl,rfl,rfl⟩:=r72 h1
  subst h2
  ¶⟨a,xs,rfl,k1,k2⟩:=hx.A10
  ¶⟨b,ys,rfl,k3,k4⟩:=hy.A10
  cases k4.e80
  cases rx;cases ry
  ¶⟨its,rv,ht,_⟩:=I.tuple ((a20 zA H).sqT k1)
  ¶⟨iu,ru,hu2,_⟩:=I.tuple ((a20 zA H).sqT k3)
  cases ru
  have e1:its.length=l.length:=by rw[← rv.length,k2.length]
  ¤SeqAt.eq_tupleAt (e:=λ_=>true) ht hu2 (by omega) (λj _ h2=>absurd h2 (Ö1 j)) ⟨.bl _,H,I,rfl,?_⟩
  have e2:((î (min its.toArray.size ([]:List Ä).toArray.size)).all (λ_=>true)&&its.toArray.size == ([]:List Ä).toArray.size)=l.isEmpty:=by
   simp only[Ó,Á1,Nat.min_zero,List.range_zero,all_nil,Ä9,e1]
   cases l <;> rfl
  rw[e2]
  §q _ _ (a30.refl H) h50
÷r92(hu:X.A.units + 64 < Å8):OpR X (ü .NotEq) (rD2 X.K λa b=>(eqO a b).map λc=>.d (.bl !c)):=by
 intro pins s σ H x y v u Q I rx ry h
 ¶⟨zA,z,dx,dy,w,st,hx,hy,e,q⟩:=h
 unfold eqO at e
 dsimp only at e
 split at e
 ·rename_i ok
  cases e
  rw[Á] at ok
  ¶⟨f1,s1⟩:=o90 ok.1
  ¶⟨f2,s2⟩:=o90 ok.2
  ¶⟨as,r1⟩:=i70 I (hx.same (a20 zA H)) rx f1
  ¶⟨bs,r2⟩:=i70 I (hy.same (a20 zA H)) ry f2
  §ne_dataH r1 r2 s1 s2 hu ⟨.bl _,H,I,rfl,by rw[S70 dx dy f1 f2];§q _ _ (a30.refl H) h50⟩
 ·cases e
÷d82(hu:X.A.units + 64 < Å8):OpR X (ü .NotEq) (rD2 X.K λa b=>(neO a b).map λc=>.d (.bl c)):=by
 intro pins s σ H x y v u Q I rx ry h
 ¶⟨zA,z,dx,dy,w,st,hx,hy,e,q⟩:=h
 unfold neO at e
 dsimp only at e
 split at e
 ·cases e
  unfold Hd at hx
  ¶⟨a,kvs,rfl,h1⟩:=hx
  ¶⟨b,xs,rfl,h2,_⟩:=hy.A10
  §b22 hu pins s σ H _ _ v u Q I rx ry ⟨a,b,kvs,xs,rfl,rfl,(r30 h1).1,(a20 zA H).sqT h2,q _ _ (a30.refl H) h50⟩
 ·¤r92 hu pins s σ H _ _ v u Q I rx ry ⟨zA,z,dx,dy,w,st,hx,hy,?_,q⟩
  rw[← e,Option.map_map]
  rfl
end
÷L70(h:G10 l=true):e00 l=true/\f40 l<=39:=by
 unfold G10 at h
 rw[Á,decide_eq_true_eq] at h
 §h
÷L80(h:okD d=true):deep d<=40:=by
 unfold okD at h
 rw[Á,decide_eq_true_eq] at h
 §h.2
÷D50(x:D)(fx:n00 x=true):∀ l:List D,e00 l=true->((P10 l).any λy=>Ü8 y (toP x))=memD x l
 |[],_=>rfl
 |y::r,h=>by
  simp only[e00,Á] at h
  show(Ü8 (toP y) (toP x) || (P10 r).any λy=>Ü8 y (toP x))=(eqD y x || memD x r)
  rw[S70 y x h.1 fx,D50 x fx r h.2]
section
variable {X:Cx}
÷L90(h:M71 x l=some b):okD x=true/\G10 l=true/\b=memD x l:=by
 unfold M71 at h
 split at h
 ·rename_i ok
  rw[Á] at ok
  cases h
  §⟨ok.1,ok.2,rfl⟩
 ·cases h
÷room_in{A:ø}(hu:A.units + 64 < Å8){l:List D}{x:D}(h:okD x=true):A.units + 1 + min (Ò9 (P10 l)) (toP x).depth < cLine:=by
 have h1:=L80 h
 have h2:min (Ò9 (P10 l)) (toP x).depth<=(toP x).depth:=Nat.min_le_right _ _
 have h3:=L50 x
 omega
÷d92(hu:X.A.units + 64 < Å8):OpR X (ü .In) (rD2 X.K λa b=>(A70 .mem a b).map λc=>.d (.bl c)):=by
 intro pins s σ H x y v u Q I rx ry h
 ¶⟨zA,z,dx,dy,w,st,hx,hy,e,q⟩:=h
 cases dy with
 |tup l =>
  ¶⟨b,e1,e2⟩:=Ê.mp e
  subst e2
  ¶⟨o1,o2,rfl⟩:=L90 e1
  ¶⟨f2,_⟩:=L70 o2
  ¶⟨f1,_⟩:=o90 o1
  ¶⟨as,r1⟩:=i70 I (hx.same (a20 zA H)) rx f1
  ¶⟨bs,r2⟩:=i70 I (hy.same (a20 zA H)) ry (by simpa [n00] using f2)
  §SeqAt.in_tuple_reads r2 r1 (s70 l f2) (y40 dx f1) (room_in hu o1) ⟨.bl _,H,I,rfl,by rw[D50 dx f1 l f2];§q _ _ (a30.refl H) h50⟩
 |lst l =>
  ¶⟨b,e1,e2⟩:=Ê.mp e
  subst e2
  ¶⟨o1,o2,rfl⟩:=L90 e1
  ¶⟨f2,_⟩:=L70 o2
  ¶⟨f1,_⟩:=o90 o1
  ¶⟨as,r1⟩:=i70 I (hx.same (a20 zA H)) rx f1
  ¶⟨bs,r2⟩:=i70 I (hy.same (a20 zA H)) ry (by simpa [n00] using f2)
  §SeqAt.in_list_reads r2 r1 (s70 l f2) (y40 dx f1) (room_in hu o1) ⟨.bl _,H,I,rfl,by rw[D50 dx f1 l f2];§q _ _ (a30.refl H) h50⟩
 |_=>cases e
÷N21(hu:X.A.units + 64 < Å8):OpR X (ü .NotIn) (rD2 X.K λa b=>(A70 .nmem a b).map λc=>.d (.bl c)):=by
 intro pins s σ H x y v u Q I rx ry h
 ¶⟨zA,z,dx,dy,w,st,hx,hy,e,q⟩:=h
 cases dy with
 |tup l =>
  ¶⟨b,e1,e2⟩:=Ê.mp e
  subst e2
  ¶⟨b',e3,rfl⟩:=Ê.mp e1
  ¶⟨o1,o2,rfl⟩:=L90 e3
  ¶⟨f2,_⟩:=L70 o2
  ¶⟨f1,_⟩:=o90 o1
  ¶⟨as,r1⟩:=i70 I (hx.same (a20 zA H)) rx f1
  ¶⟨bs,r2⟩:=i70 I (hy.same (a20 zA H)) ry (by simpa [n00] using f2)
  §SeqAt.notIn_tuple_reads r2 r1 (s70 l f2) (y40 dx f1) (room_in hu o1) ⟨.bl _,H,I,rfl,by rw[D50 dx f1 l f2];§q _ _ (a30.refl H) h50⟩
 |lst l =>
  ¶⟨b,e1,e2⟩:=Ê.mp e
  subst e2
  ¶⟨b',e3,rfl⟩:=Ê.mp e1
  ¶⟨o1,o2,rfl⟩:=L90 e3
  ¶⟨f2,_⟩:=L70 o2
  ¶⟨f1,_⟩:=o90 o1
  ¶⟨as,r1⟩:=i70 I (hx.same (a20 zA H)) rx f1
  ¶⟨bs,r2⟩:=i70 I (hy.same (a20 zA H)) ry (by simpa [n00] using f2)
  §SeqAt.notIn_list_reads r2 r1 (s70 l f2) (y40 dx f1) (room_in hu o1) ⟨.bl _,H,I,rfl,by rw[D50 dx f1 l f2];§q _ _ (a30.refl H) h50⟩
 |_=>cases e
end
end Q
namespace Q
open PySem L2 PySem.Spec PyProof.Rows
variable [TB:Tb]
def H02(A:ø)(s:Æ)(v u:Ä)(b:Bool):Prop:=∀ (P:ß) (w:ç) (E:Ä->Æ->Prop) (Q:Ä->Æ->Prop),Q (.bool b) s->Ï (Ô P w) A (richCompare .Lt v u) Q E s
section
open PySem.SeqAt
open PySem.AutoSeq1 (wpAny_loadPart')
open PySem.MeetsSeq PySem.MeetsSeq2 PySem.MeetsSeq3
inductive Lx (A:Around) (s:Shared):List Value->List Value->Bool->Prop
 |nn:Lx A s [] [] false
 |nc {u us}:Lx A s [] (u::us) true
 |cn {v vs}:Lx A s (v::vs) [] false
 |eq {v u vs us b}:EqAt A s v u true->Lx A s vs us b->Lx A s (v::vs) (u::us) b
 |ne {v u vs us b}:EqAt A s v u false->H02 A s v u b->Lx A s (v::vs) (u::us) b
÷D60(l b:Ç)(items items2:Array Ä)(n n2:Nat)(dd dd2:Option Ç)(sl sl2:Array (Option Ä))(c:Bool) :
  Meets (ÿ.«tuple.__lt__» ⟨[.ref l,.ref b],[]⟩)
   (λA R s=>s.heap.get? l=some { cls:=.type "tuple",dict:=dd,data:=.seq items n,slots:=sl }/\s.heap.get? b=some { cls:=.type "tuple",dict:=dd2,data:=.seq items2 n2,slots:=sl2 } /\
    Lx A.in1 s items.toList items2.toList c/\R (.ok (.ret (.bool c))) s) :=
 .of_wp λprog w A R s h=>by
  ¶⟨hp,g,d,tk,os⟩:=s;¶⟨hl,hb,hx,h⟩:=h
  have f2:=Ý1
  wp_walk using Ä7 hl,Ä7 hb,wpAny_forIn_list _ (λrest b s'=>b.1=none/\s'=⟨hp,g,d,tk,os⟩/\∃ (vs ws:List Ä),rest=vs.zip ws /\
   vs.length + items2.size=ws.length + items.size/\Lx A.in1 ⟨hp,g,d,tk,os⟩ vs ws c) _
  case turn =>
   rintro ⟨y,x⟩ rest b s' ⟨hb',rfl,vs,ws,hz,hlen,hR⟩
   cases hR with
   |nn=>rw[Ú0] at hz;cases hz
   |nc=>rw[Ú0] at hz;cases hz
   |cn=>rw[List.zip_nil_right] at hz;cases hz
   |eq he hr =>
    rw[Ê6] at hz
    injection hz with hyx hrest
    injection hyx with hy hx'
    subst hy hx'
    simp only[Þ] at hlen
    ¤À (he prog w _ _ ?_)
    wp_walk
    §⟨rfl,rfl,_,_,hrest,by omega,hr⟩
   |ne he hr =>
    rw[Ê6] at hz
    injection hz with hyx hrest
    injection hyx with hy hx'
    subst hy hx'
    ¤À (he prog w _ _ ?_)
    have hri:=λE Q q=>hr prog w E Q q
    wp_walk using hri
    §⟨_,rfl,by simpa using h⟩
  case fin =>
   rintro ⟨b1,b2⟩ s' ⟨hb',rfl,vs,ws,hz,hlen,hR⟩
   simp only at hb'
   subst hb'
   have hv:c=decide (items.size < items2.size):=by
    cases hR with
    |nn=>simp only[Á1] at hlen;§(decide_eq_false (by omega)).symm
    |nc=>simp only[Á1,Þ] at hlen;§(decide_eq_true (by omega)).symm
    |cn=>simp only[Á1,Þ] at hlen;§(decide_eq_false (by omega)).symm
    |eq he hr=>rw[Ê6] at hz;cases hz
    |ne he hr=>rw[Ê6] at hz;cases hz
   rw[hv] at h
   wp_walk
   §⟨_,rfl,by simpa [tupleCompareSizes] using h⟩
  case h =>
   §⟨rfl,rfl,items.toList,items2.toList,rfl,by simp;omega,hx⟩
end
÷w91(hl:Ï2 s.heap l i1)(hb:Ï2 s.heap b i2)(hu:A.units < Å8)(hx:Lx A.in1 s i1.toList i2.toList c):H02 A s (.ref l) (.ref b) c:=by
 intro P w E Q h
 ¶⟨⟨cls,dd,data,sl⟩,ho,hc,n,hd⟩:=id hl;¶⟨⟨cls2,dd2,data2,sl2⟩,ho2,hc2,n2,hd2⟩:=id hb
 simp only at hc hd hc2 hd2;subst hc hd hc2 hd2
 §richCompare_meets_room (op:=.Lt) ⟨_,ho,rfl⟩ ⟨_,ho2,rfl⟩ Ò8 ß4 (Þ4 _ _) (D60 l b i1 i2 n n2 dd dd2 sl sl2 c)
  ⟨ho,ho2,hx,show Ï0 c≠Õ2/\Q (.bool c) s from⟨(λx=>nomatch x),h⟩⟩ hu
÷s02(ha:n51 s.heap v a)(hb:n51 s.heap u b)(hu:A.units + deep a < Å8):Ö7 A s v u (eqD a b):=by
 ¶⟨f1,as,r1⟩:=ha
 ¶⟨f2,bs,r2⟩:=hb
 rw[← S70 a b f1 f2]
 have h:=L50 a
 have h2:min (toP a).depth (toP b).depth<=(toP a).depth:=Nat.min_le_left _ _
 §SeqAt.eqAt_reads (toP a) (toP b) A s v u as bs r1 r2 (y40 a f1) (y40 b f2) (by omega)
÷e10.c20(x:e10 h us (d::ds)):∃ u r,us=u::r/\n51 h u d/\e10 h r ds:=by
 ¶⟨f,as,r⟩:=x
 simp only[e00,Á] at f
 cases r with
 |cons r1 r2=>§⟨_,_,rfl,⟨f.1,_,r1⟩,f.2,_,r2⟩
÷e10.e80(x:e10 h us []):us=[]:=by
 ¶⟨_,as,r⟩:=x
 cases r;rfl
÷in1_units(A:ø):A.in1.units=A.units + 1:=rfl
÷e02:∀ (n:Nat) {A:ø}{s:Æ},
  (∀ (a b:D) (v u:Ä) (c:Bool),deep a<=n->n51 s.heap v a->n51 s.heap u b->ltD a b=some c->A.units + n < Å8->H02 A s v u c) /\
  (∀ (a b:List D) (vs us:List Ä) (c:Bool),f40 a < n->e10 s.heap vs a->e10 s.heap us b->M61 a b=some c->A.units + n < Å8->Lx A.in1 s vs us c):=by
 intro n
 induction n with
 |zero =>
  intro A s
  ¤⟨λa b v u c hd ha hb e hu=>?_,λa b vs us c hd=>absurd hd (Ö1 _)⟩
  cases a with
  |int i =>
   cases b with
   |int j =>
    cases e
    ¶⟨_,_,r1⟩:=ha
    ¶⟨_,_,r2⟩:=hb
    cases r1;cases r2
    §λP w E Q h=>HT.e51 A s i _ j _ P w E Q h
   |_=>cases e
  |tup l=>simp[deep] at hd
  |_=>cases e
 |succ n ih =>
  have rows:∀ {A:ø}{s:Æ} (a b:List D) (vs us:List Ä) (c:Bool),f40 a < n + 1->e10 s.heap vs a->e10 s.heap us b->M61 a b=some c->A.units + (n + 1) < Å8->Lx A.in1 s vs us c:=by
   intro A s a
   induction a with
   |nil =>
    intro b vs us c _ ha hb e hu
    cases ha.e80
    cases b with
    |nil=>cases hb.e80;cases e;§.nn
    |cons y q=>¶⟨u,r,rfl,_⟩:=hb.c20;cases e;§.nc
   |cons x r ihr =>
    intro b vs us c hd ha hb e hu
    ¶⟨v,vs',rfl,a1,a2⟩:=ha.c20
    cases b with
    |nil=>cases hb.e80;cases e;§.cn
    |cons y q =>
     ¶⟨u,us',rfl,b1,b2⟩:=hb.c20
     simp only[f40] at hd
     have d1:deep x<=n:=Nat.le_of_lt_succ (Ç5 (Nat.le_max_left _ _) hd)
     have d2:f40 r < n + 1:=Ç5 (Nat.le_max_right _ _) hd
     have hu1:A.in1.units + n < cLine:=by rw[in1_units];omega
     have he:=s02 (A:=A.in1) a1 b1 (by omega)
     simp only[M61] at e
     cases hq:eqD x y with
     |true =>
      rw[hq] at he e
      §.eq he (ihr q vs' us' c d2 a2 b2 (by simpa using e) hu)
     |false =>
      rw[hq] at he e
      §.ne he ((ih (A:=A.in1) (s:=s)).1 x y v u c d1 a1 b1 (by simpa using e) hu1)
  intro A s
  ¤⟨λa b v u c hd ha hb e hu=>?_,rows⟩
  cases a with
  |int i =>
   cases b with
   |int j =>
    cases e
    ¶⟨_,_,r1⟩:=ha
    ¶⟨_,_,r2⟩:=hb
    cases r1;cases r2
    §λP w E Q h=>HT.e51 A s i _ j _ P w E Q h
   |_=>cases e
  |tup l =>
   cases b with
   |tup q =>
    ¶⟨f1,as,r1⟩:=ha
    ¶⟨f2,bs,r2⟩:=hb
    simp only[deep] at hd
    cases r1 with
    |tuple k1 k2 k3 k4 =>
     cases r2 with
     |tuple m1 m2 m3 m4 =>
      §w91 ⟨_,k1,k2,_,k3⟩ ⟨_,m1,m2,_,m3⟩ (by omega) (rows l q _ _ c (by omega) ⟨by simpa [n00] using f1,_,k4⟩ ⟨by simpa [n00] using f2,_,m4⟩ e hu)
   |_=>cases e
  |_=>cases e
section
variable {X:Cx}
÷s12(h:ltO a b=some c):okD a=true/\okD b=true/\ltD a b=some c:=by
 unfold ltO at h
 split at h
 ·rename_i ok
  rw[Á] at ok
  §⟨ok.1,ok.2,h⟩
 ·cases h
÷s22(hu:X.A.units + 64 < Å8):OpR X (ü .Lt) (rD2 X.K λa b=>(A70 .lt a b).map λc=>.d (.bl c)):=by
 intro pins s σ H x y v u Q I rx ry h
 ¶⟨zA,z,dx,dy,w,st,hx,hy,e,q⟩:=h
 ¶⟨b,e1,e2⟩:=Ê.mp e
 subst e2
 ¶⟨o1,o2,e3⟩:=s12 (show ltO dx dy=some b from e1)
 ¶⟨f1,_⟩:=o90 o1
 ¶⟨f2,_⟩:=o90 o2
 ¶⟨as,r1⟩:=i70 I (hx.same (a20 zA H)) rx f1
 ¶⟨bs,r2⟩:=i70 I (hy.same (a20 zA H)) ry f2
 §(e02 40 (A:=X.A) (s:=s)).1 dx dy v u b (L80 o1) ⟨f1,as,r1⟩ ⟨f2,bs,r2⟩ e3 (by omega) _ _ _ _ ⟨.bl b,H,I,rfl,q _ _ (a30.refl H) h50⟩
÷x00{K:Â}{H:Hp}:∀ {l:List D}{ns:List Int}{vs:List V},Z40 l=some ns->HdA K H l vs->vs=ns.map V.int/\l=ns.map D.int
 |[],_,_,e,h=>by cases e;rw[h.e80];§⟨rfl,rfl⟩
 |.int i::r,_,_,e,h=>by
  ¶⟨ms,e1,rfl⟩:=Ê.mp e
  ¶⟨x,xs,rfl,h1,h2⟩:=h.c20
  cases h1.h90
  ¶⟨rfl,rfl⟩:=x00 e1 h2
  §⟨rfl,rfl⟩
 |.non::_,_,_,e,_=>by cases e
 |.bl _::_,_,_,e,_=>by cases e
 |.str _::_,_,_,e,_=>by cases e
 |.tup _::_,_,_,e,_=>by cases e
 |.lst _::_,_,_,e,_=>by cases e
 |.dct::_,_,_,e,_=>by cases e
÷s32(hu:X.A.units + 64 < Å8):OpR X (ü .LtE) (rD2 X.K λa b=>(A70 .le a b).map λc=>.d (.bl c)):=by
 intro pins s σ H x y v u Q I rx ry h
 ¶⟨zA,z,dx,dy,w,st,hx,hy,e,q⟩:=h
 cases dx with
 |int i =>
  cases dy with
  |int j =>
   cases e;cases hx.h90;cases hy.h90
   §E22 pins s σ H _ _ v u Q I rx ry ⟨i,j,rfl,rfl,q _ _ (a30.refl H) h50⟩
  |_=>cases e
 |tup a =>
  cases dy with
  |tup b =>
   ¶⟨c,e1,e2⟩:=Ê.mp e
   subst e2
   ¶⟨ns,n1,e1⟩:=Î.mp (show(Z40 a).bind _=_ from e1)
   ¶⟨ms,n2,rfl⟩:=Ê.mp e1
   ¶⟨p,xs,rfl,h1,h2⟩:=hx.A10
   ¶⟨p',ys,rfl,h3,h4⟩:=hy.A10
   ¶⟨rfl,_⟩:=x00 n1 h2
   ¶⟨rfl,_⟩:=x00 n2 h4
   §p72 (by omega) pins s σ H _ _ v u Q I rx ry ⟨p,p',ns,ms,rfl,rfl,(a20 zA H).sqT h1,(a20 zA H).sqT h3,q _ _ (a30.refl H) h50⟩
  |_=>cases e
 |_=>cases e
÷s42:OpR X (ü .Gt) (rD2 X.K λa b=>(A70 .gt a b).map λc=>.d (.bl c)):=by
 intro pins s σ H x y v u Q I rx ry h
 ¶⟨zA,z,dx,dy,w,st,hx,hy,e,q⟩:=h
 cases dx with
 |int i =>
  cases dy with
  |int j =>
   cases e;cases hx.h90;cases hy.h90
   §E32 pins s σ H _ _ v u Q I rx ry ⟨i,j,rfl,rfl,q _ _ (a30.refl H) h50⟩
  |_=>cases e
 |_=>cases e
÷s52:OpR X (ü .GtE) (rD2 X.K λa b=>(A70 .ge a b).map λc=>.d (.bl c)):=by
 intro pins s σ H x y v u Q I rx ry h
 ¶⟨zA,z,dx,dy,w,st,hx,hy,e,q⟩:=h
 cases dx with
 |int i =>
  cases dy with
  |int j =>
   cases e;cases hx.h90;cases hy.h90
   §E42 pins s σ H _ _ v u Q I rx ry ⟨i,j,rfl,rfl,q _ _ (a30.refl H) h50⟩
  |_=>cases e
 |_=>cases e
÷N31{K:Â}{H:Hp}{d:D}{v:V}(h:Hd K H d v):decide (v=.non)=w01 d:=by
 cases d with
 |non=>cases h.B92;rfl
 |bl b=>cases h.bl_;rfl
 |int i=>cases h.h90;rfl
 |str x=>cases h.G72;rfl
 |tup l=>¶⟨a,xs,rfl,_⟩:=h.A10;rfl
 |lst l=>¶⟨a,xs,rfl,_⟩:=h.X50;rfl
 |dct=>unfold Hd at h;¶⟨a,kvs,rfl,_⟩:=h;rfl
÷s62:OpR X (ü .Is) (rD2 X.K λa b=>(A70 .is a b).map λc=>.d (.bl c)):=by
 intro pins s σ H x y v u Q I rx ry h
 ¶⟨zA,z,dx,dy,w,st,hx,hy,e,q⟩:=h
 cases dy with
 |bl b =>
  cases dx with
  |bl a =>
   cases e;cases hx.bl_;cases hy.bl_
   §p92 pins s σ H _ _ v u Q I rx ry ⟨a,b,rfl,rfl,q _ _ (a30.refl H) h50⟩
  |_=>cases e
 |non =>
  have e':some (S.d (.bl (w01 dx)))=some w:=by cases dx <;> §e
  cases e'
  cases hy.B92
  ¤o22 pins s σ H _ _ v u Q I rx ry ⟨rfl,?_⟩
  rw[N31 hx]
  §q _ _ (a30.refl H) h50
 |_=>cases dx <;> cases e
def opC:Cm->CmpOp
 |.eq=>.Eq | .ne=>.NotEq | .lt=>.Lt | .le=>.LtE | .gt=>.Gt | .ge=>.GtE | .is=>.Is | .mem=>.In | .nmem=>.NotIn
÷l02(hu:X.A.units + 64 < Å8)(o:Cm):OpR X (ü (opC o)) (rD2 X.K λa b=>(A70 o a b).map λc=>.d (.bl c)):=by
 cases o
 ·§r82 hu
 ·§d82 hu
 ·§s22 hu
 ·§s32 hu
 ·§s42
 ·§s52
 ·§s62
 ·§d92 hu
 ·§N21 hu
÷HdA.one{K:Â}{H:Hp}{d:D}{xs:List V}(h:HdA K H [d] xs):∃ x,xs=[x]/\Hd K H d x:=by
 ¶⟨x,r,rfl,h1,h2⟩:=h.c20
 rw[h2.e80]
 §⟨x,rfl,h1⟩
÷HdA.two{K:Â}{H:Hp}{d e:D}{xs:List V}(h:HdA K H [d,e] xs):∃ x y,xs=[x,y]/\Hd K H d x/\Hd K H e y:=by
 ¶⟨x,r,rfl,h1,h2⟩:=h.c20
 ¶⟨y,rfl,h3⟩:=h2.one
 §⟨x,y,rfl,h1,h3⟩
÷f81{K:Â}{zA:Option Ç}{H:Hp}{d:D}{l:List D}{v:V}(h:Hd K (hz zA H) d v)(e:Z50 d=some l):∃ a xs,v=.ref a/\(SqL K H a xs∨SqT K H a xs)/\HdA K (hz zA H) l xs:=by
 cases d with
 |tup m =>
  cases e
  ¶⟨a,xs,rfl,h1,h2⟩:=h.A10
  §⟨a,xs,rfl,.inr ((a20 zA H).sqT h1),h2⟩
 |lst m =>
  cases e
  ¶⟨a,xs,rfl,h1,h2⟩:=h.X50
  §⟨a,xs,rfl,.inl (h1.same (a20 zA H)).sq,h2⟩
 |_=>cases e
÷s72:e50 X (.builtin "len") (rDn X.K (bfD .len)):=by
 intro pins s σ H xs us Q I r h
 ¶⟨zA,z,ds,w,st,hx,e,q⟩:=h
 match ds,e with
 |[d],e =>
  ¶⟨l,e1,rfl⟩:=Ê.mp (show(Z50 d).map _=some w from e)
  ¶⟨x,rfl,h1⟩:=hx.one
  ¶⟨a,ys,rfl,h2,h3⟩:=f81 h1 e1
  §Q60 pins s σ H _ us Q I r ⟨a,ys,rfl,h2,by rw[h3.length];§q _ _ (a30.refl H) i60⟩
÷N41:e50 X (.type "tuple") (rDn X.K (bfD .tuple)):=by
 intro pins s σ H xs us Q I r h
 ¶⟨zA,z,ds,w,st,hx,e,q⟩:=h
 match ds,e with
 |[d],e =>
  ¶⟨l,e1,rfl⟩:=Ê.mp (show(Z50 d).map _=some w from e)
  ¶⟨x,rfl,h1⟩:=hx.one
  ¶⟨a,ys,rfl,h2,h3⟩:=f81 h1 e1
  ¤J20 pins s σ H _ us Q I r ⟨a,ys,rfl,?_⟩
  rcases h2 with h2 | h2
  ·¤.inl ⟨h2,λp hp=>q _ _ (a30.new _ hp) (H01 (Hd.tup ((st.same (a30.new _ hp)).d02 (SqT.of b20)) (h3.same (k30 (a30.new _ hp)))))⟩
  ·§.inr ⟨h2,q _ _ (a30.refl H) (H01 (Hd.tup (st.d02 h2) h3))⟩
÷e12:e50 X (.type "list") (rDn X.K (bfD .list)):=by
 intro pins s σ H xs us Q I r h
 ¶⟨zA,z,ds,w,st,hx,e,q⟩:=h
 match ds,e with
 |[d],e =>
  ¶⟨l,e1,rfl⟩:=Ê.mp (show(Z50 d).map _=some w from e)
  ¶⟨x,rfl,h1⟩:=hx.one
  ¶⟨a,ys,rfl,h2,h3⟩:=f81 h1 e1
  §Q70 pins s σ H _ us Q I r ⟨a,ys,rfl,h2,λp hp=>q _ _ (a30.new _ hp) (n50 st h3 hp)⟩
÷U31{K:Â}{H:Hp}:∀ {l:List D}{bs:List Bool}{vs:List V},l.mapM asB=some bs->HdA K H l vs->vs=bs.map V.bl
 |[],_,_,e,h=>by simp at e;subst e;rw[h.e80];rfl
 |x::r,_,_,e,h=>by
  simp only[mapM_cons,bind,Î] at e
  ¶⟨b,e1,bs,e2,e3⟩:=e
  cases e3
  ¶⟨y,ys,rfl,h1,h2⟩:=h.c20
  cases x with
  |bl c=>cases e1;cases h1.bl_;rw[U31 e2 h2];rfl
  |_=>cases e1
÷s82(hc:X.calm=true):e50 X (.builtin "all") (rDn X.K (bfD .all)):=by
 intro pins s σ H xs us Q I r h
 ¶⟨zA,z,ds,w,st,hx,e,q⟩:=h
 match ds,e with
 |[.lst l],e =>
  ¶⟨bs,e1,rfl⟩:=Ê.mp (show(l.mapM asB).map _=some w from e)
  ¶⟨x,rfl,h1⟩:=hx.one
  ¶⟨a,ys,rfl,h2,h3⟩:=h1.X50
  rw[U31 e1 h3] at h2
  §J41 hc pins s σ H _ us Q I r ⟨a,bs,rfl,(h2.same (a20 zA H)).sq,q _ _ (a30.refl H) h50⟩
÷f91:∀ {ns:List Int}{vs:List Ä},Vals (ns.map V.int) vs->∃ xs:List (Int × Tok),vs=xs.map (λp=>.int p.1 p.2)/\xs.map (·.1)=ns
 |[],_,h=>by cases h;§⟨[],rfl,rfl⟩
 |n::r,_,h=>by
  cases h with
  |cons h1 h2 =>
   ¶⟨t,rfl⟩:=h1
   ¶⟨xs,rfl,e⟩:=f91 h2
   §⟨(n,t)::xs,rfl,by rw[Å7,e]⟩
÷N51(hc:X.calm=true):e50 X (.builtin "sum") (λxs H Q=>∃ (a:Ç) (ns:List Int),xs=[.ref a]/\(SqL X.K H a (ns.map V.int)∨SqT X.K H a (ns.map V.int))/\Q (.int ns.sum) H):=by
 intro pins s σ H xs us Q I r h
 ¶⟨a,ns,rfl,hq,q⟩:=h
 ¶⟨u,rfl,rx⟩:=vals1 r
 cases rx
 have fin:∀ {its:List Ä},Vals (ns.map V.int) its->∃ xs:Array (Int × Tok),its.toArray=intItems xs/\preSum (numAt xs) xs.size=ns.sum:=λ{its} rv=>by
  ¶⟨xs,rfl,e⟩:=f91 rv
  §⟨xs.toArray,by simp[intItems],by rw[preSum_eq,È7 (by simp)];simp[e]⟩
 rcases hq with hq | hq
 ·¶⟨its,rv,p,_⟩:=I.list hq
  ¶⟨xs,e1,e2⟩:=fin rv
  §sum_intListG (I.ok.hd hc) (e1 ▸ p.isList) λh' tk t' k=>⟨.int ns.sum,H,I.kept k,by rw[e2];§⟨_,rfl⟩,q⟩
 ·¶⟨its,rv,p,_⟩:=I.tuple hq
  ¶⟨xs,e1,e2⟩:=fin rv
  §W.ktm_sumG (I.ok.hd hc) (e1 ▸ p) λh' tk t' k=>⟨.int ns.sum,H,I.kept k,by rw[e2];§⟨_,rfl⟩,q⟩
÷U41{K:Â}{H:Hp}:∀ {l:List D}{i:Int}{vs:List V},r32 l=some i->HdA K H l vs->∃ ns:List Int,vs=ns.map V.int/\ns.sum=i
 |[],_,_,e,h=>by cases e;rw[h.e80];§⟨[],rfl,rfl⟩
 |.int j::r,_,_,e,h=>by
  ¶⟨k,e1,rfl⟩:=Ê.mp (show(r32 r).map _=_ from e)
  ¶⟨v,q,rfl,h1,h2⟩:=h.c20
  ¶⟨ns,rfl,e2⟩:=U41 e1 h2
  cases h1.h90
  §⟨j::ns,rfl,by rw[List.sum_cons,e2]⟩
÷s92(hc:X.calm=true):e50 X (.builtin "sum") (rDn X.K (bfD .sum)):=by
 intro pins s σ H xs us Q I r h
 ¶⟨zA,z,ds,w,st,hx,e,q⟩:=h
 match ds,e with
 |[d],e =>
  ¶⟨i,e1,rfl⟩:=Ê.mp (show((Z50 d).bind r32).map _=some w from e)
  ¶⟨l,e2,e3⟩:=Î.mp e1
  ¶⟨x,rfl,h1⟩:=hx.one
  ¶⟨a,ys,rfl,h2,h3⟩:=f81 h1 e2
  ¶⟨ns,rfl,rfl⟩:=U41 e3 h3
  §N51 hc pins s σ H _ us Q I r ⟨a,ns,rfl,h2,q _ _ (a30.refl H) (show Hd X.K (hz zA H) _ _ from Hd.int)⟩
÷t02(hc:X.calm=true):e50 X (.builtin "min") (rDn X.K (bfD .min)):=by
 intro pins s σ H xs us Q I r h
 ¶⟨zA,z,ds,w,st,hx,e,q⟩:=h
 match ds,e with
 |[.int i,.int j],e =>
  cases e
  ¶⟨x,y,rfl,h1,h2⟩:=hx.two
  cases h1.h90;cases h2.h90
  §r51 hc pins s σ H _ us Q I r ⟨i,j,rfl,q _ _ (a30.refl H) i60⟩
÷t12(hc:X.calm=true):e50 X (.builtin "max") (rDn X.K (bfD .max)):=by
 intro pins s σ H xs us Q I r h
 ¶⟨zA,z,ds,w,st,hx,e,q⟩:=h
 match ds,e with
 |[.int i,.int j],e =>
  cases e
  ¶⟨x,y,rfl,h1,h2⟩:=hx.two
  cases h1.h90;cases h2.h90
  §r41 hc pins s σ H _ us Q I r ⟨i,j,rfl,q _ _ (a30.refl H) i60⟩
÷t22:e50 X (.builtin "abs") (rDn X.K (bfD .abs)):=by
 intro pins s σ H xs us Q I r h
 ¶⟨zA,z,ds,w,st,hx,e,q⟩:=h
 match ds,e with
 |[.int i],e =>
  cases e
  ¶⟨x,rfl,h1⟩:=hx.one
  cases h1.h90
  §I01 pins s σ H _ us Q I r ⟨i,rfl,q _ _ (a30.refl H) i60⟩
÷t32:e50 X (.type "int") (rDn X.K (bfD .int)):=by
 intro pins s σ H xs us Q I r h
 ¶⟨zA,z,ds,w,st,hx,e,q⟩:=h
 match ds,e with
 |[.int i],e =>
  cases e
  ¶⟨x,rfl,h1⟩:=hx.one
  cases h1.h90
  §P80 pins s σ H _ us Q I r (.inl ⟨i,rfl,q _ _ (a30.refl H) i60⟩)
 |[.bl b],e =>
  cases e
  ¶⟨x,rfl,h1⟩:=hx.one
  cases h1.bl_
  §P80 pins s σ H _ us Q I r (.inr ⟨b,rfl,q _ _ (a30.refl H) i60⟩)
def tyN:Ty->String
 |.int=>"int" | .bool=>"bool" | .tuple=>"tuple" | .list=>"list" | .str=>"str" | .seq=>""
÷e22(t:Ty)(d:D)(h:t≠.seq):isB d.ty (tyN t)=U11 t d:=by
 cases t <;> cases d <;> first | rfl | (§absurd rfl h) | decide
÷N61(d:D):(isB d.ty "tuple" || isB d.ty "list")=U11 .seq d:=by cases d <;> rfl
÷at_of{K:Â}{H:Hp}{l:List D}{xs:List V}{i:Int}{d:D}(h:HdA K H l xs)(e:atI l i=some d):∃ v,atI xs i=some v/\Hd K H d v:=by
 unfold atI at e ⊢
 ¶⟨j,e1,e2⟩:=Î.mp e
 rw[h.length,e1]
 §h.get e2
÷ixD:IxR X (rD2 X.K λa b=>(Z60 a b).map S.d):=by
 intro value slice pins s σ H x y v u Q I rx ry h hs
 ¶⟨zA,z,dx,dy,w,st,hx,hy,e,q⟩:=h
 ¶⟨r,e1,rfl⟩:=Ê.mp e
 cases dx with
 |tup l =>
  cases dy with
  |int i =>
   cases hy.h90
   ¶⟨a,xs,rfl,h1,h2⟩:=hx.A10
   ¶⟨v',e2,h3⟩:=at_of h2 e1
   §o72 value slice pins s σ H _ _ v u Q I rx ry ⟨a,xs,i,v',rfl,rfl,(a20 zA H).sqT h1,e2,q _ _ (a30.refl H) (H01 h3)⟩ hs
  |_=>cases e1
 |lst l =>
  cases dy with
  |int i =>
   cases hy.h90
   ¶⟨a,xs,rfl,h1,h2⟩:=hx.X50
   ¶⟨v',e2,h3⟩:=at_of h2 e1
   §Y10 value slice pins s σ H _ _ v u Q I rx ry ⟨a,xs,i,v',rfl,rfl,(h1.same (a20 zA H)).sq,e2,q _ _ (a30.refl H) (H01 h3)⟩ hs
  |_=>cases e1
 |_=>cases e1
÷U51{K:Â}{H:Hp}{l:List D}{xs:List V}(h:HdA K H l xs)(lo hi:Option Int):HdA K H (cutD l lo hi) (I41 xs lo hi):=by
 unfold cutD I41
 rw[h.length]
 §(h.drop _).take _
def U92(K:Â):V->Option Int->Option Int->Hp->VK->Prop:=λx lo hi H Q=>∃ zA z dx s,d70 zA z H/\Hd K (hz zA H) dx x/\slD dx lo hi=some s/\∀ v H',a30 H H'->RvS K zA H H' s v->Q v H'
÷V02:SlR X (U92 X.K):=by
 intro pins s σ H x v vl vu lo hi sl Q I rx hs pl pu h
 ¶⟨zA,z,dx,w,st,hx,e,q⟩:=h
 cases dx with
 |tup l =>
  cases e
  ¶⟨a,xs,rfl,h1,h2⟩:=hx.A10
  §a82 pins s σ H _ v vl vu lo hi sl Q I rx hs pl pu ⟨a,xs,rfl,(a20 zA H).sqT h1,tupQ st (U51 h2 lo hi) q⟩
 |lst l =>
  cases e
  ¶⟨a,xs,rfl,h1,h2⟩:=hx.X50
  §Z11 pins s σ H _ v vl vu lo hi sl Q I rx hs pl pu ⟨a,xs,rfl,(h1.same (a20 zA H)).sq,λp hp=>q _ _ (a30.new _ hp) (n50 st (U51 h2 lo hi) hp)⟩
 |_=>cases e
end
end Q
namespace Q
open PySem L2 PySem.Spec PyProof.Rows
open PySem.W (KatLex KatTups kat_nil kat_cons kat_go kat_yes kat_no kat_one kat_lt kat_kind kas_kind kat_lt_int)
÷D70(k:D):∀ l,(q11 k l).Perm (k::l)
 |[]=>.refl _
 |y::r=>by
  unfold q11
  split
  ·§((D70 k r).cons y).trans (.swap _ _ _)
  ·§.refl _
÷x10:∀ l,(u60 l).Perm l
 |[]=>.refl _
 |k::r=>(D70 k _).trans ((x10 r).cons k)
÷x01(k:D):∀ l,l.Pairwise (λx y=>MySort.h30 (flt y) (flt x)=false)->(q11 k l).Pairwise (λx y=>MySort.h30 (flt y) (flt x)=false)
 |[],_=>List.pairwise_singleton _ _
 |y::r,h=>by
  ¶⟨h1,h2⟩:=Ë0.mp h
  unfold q11
  split
  ·rename_i hy
   ¤Ë0.mpr ⟨λz hz=>?_,x01 k r h2⟩
   rcases ú.mp ((D70 k r).mem_iff.mp hz) with rfl | hz
   ·cases q:MySort.h30 (flt z) (flt y) with
    |false=>rfl
    |true=>have:=MySort.q30 _ _ _ hy q;rw[MySort.s40] at this;cases this
   ·§h1 z hz
  ·rename_i hy
   ¤Ë0.mpr ⟨λz hz=>?_,h⟩
   rcases ú.mp hz with rfl | hz
   ·simpa using hy
   ·cases q:MySort.h30 (flt z) (flt k) with
    |false=>rfl
    |true =>
     rcases MySort.e81 _ (flt y) _ q with q | q
     ·rw[h1 z hz] at q;cases q
     ·§absurd q hy
÷g01:∀ l,(u60 l).Pairwise (λx y=>MySort.h30 (flt y) (flt x)=false)
 |[]=>.nil
 |k::r=>x01 k _ (g01 r)
mutual
theorem U61:∀ x y:D,eqT x y=true->x=y
 |.int i,y,h=>by
  cases y with
  |int j=>rw[eq_of_beq (show(i == j)=true from h)]
  |_=>cases h
 |.tup a,y,h=>by
  cases y with
  |tup b=>rw[a11 a b h]
  |_=>cases h
 |.non,y,h=>by cases y <;> cases h
 |.bl _,y,h=>by cases y <;> cases h
 |.str _,y,h=>by cases y <;> cases h
 |.lst _,y,h=>by cases y <;> cases h
 |.dct,y,h=>by cases y <;> cases h
theorem a11:∀ x y:List D,X30 x y=true->x=y
 |[],[],_=>rfl
 |[],_::_,h=>by cases h
 |_::_,[],h=>by cases h
 |x::r,y::q,h=>by
  have h:(eqT x y&&X30 r q)=true:=h
  rw[Á] at h
  rw[U61 x y h.1,a11 r q h.2]
end
variable [TB:Tb]
÷e32(ok:∀ x∈l,∀ y∈l,flt x=flt y->x=y)(h:MySort.sortedBy (l.map flt) p):(p.map λi=>l.getD i .non)=u60 l:=by
 have h1:=h.1.map λi=>l.getD i .non
 rw[É,MySort.range_getD] at h1
 have e:((p.map λi=>l.getD i .non).map flt)=p.map λi=>(l.map flt).getD i []:=by
  rw[ï]
  ¤Ã5 λi hi=>?_
  have:i < l.length:=by have:=h.1.mem_iff.mp hi;simpa using this
  simp[this]
 have h2:(p.map λi=>l.getD i .non).Pairwise λx y=>MySort.h30 (flt y) (flt x)=false:=by
  have:=h.2
  rw[← e,Ú1] at this
  §this
 ¤É0 (le:=λx y=>MySort.h30 (flt y) (flt x)=false) (λa b ha hb p q=>?_) h2 (g01 l) (h1.trans (x10 l).symm)
 §ok a (h1.mem_iff.mp ha) b ((x10 l).mem_iff.mp hb) (MySort.q40 _ _ q p)
mutual
theorem N71(kp:MySort.t61 h h'):∀ (d:D) {u:Ä}{as:List Ç},eqT d d=true->Reads h u (toP d) as->Reads h' u (toP d) as
 |.int i,_,_,_,r=>by cases r;§.int _ _
 |.tup l,_,_,e,r=>by
  cases r with
  |tuple k1 k2 k3 k4=>§.tuple (kp _ _ k1 k2) k2 k3 (p00 kp l e k4)
 |.non,_,_,e,_=>by cases e
 |.bl _,_,_,e,_=>by cases e
 |.str _,_,_,e,_=>by cases e
 |.lst _,_,_,e,_=>by cases e
 |.dct,_,_,e,_=>by cases e
theorem p00(kp:MySort.t61 h h'):∀ (l:List D) {us:List Ä}{as:List Ç},X30 l l=true->ReadsAll h us (P10 l) as->ReadsAll h' us (P10 l) as
 |[],_,_,_,r=>by cases r;§.nil
 |x::q,_,_,e,r=>by
  have e:(eqT x x&&X30 q q)=true:=e
  rw[Á] at e
  cases r with
  |cons r1 r2=>§.cons (N71 kp x e.1 r1) (p00 kp q e.2 r2)
end
÷e10.get:∀ {us:List Ä}{l:List D}{i:Nat}{d:D},e10 h us l->l[i]?=some d->n51 h (us.getD i â) d
 |_,[],i,d,_,e=>by cases e
 |us,x::r,i,d,hd,e=>by
  ¶⟨u,q,rfl,h1,h2⟩:=hd.c20
  cases i with
  |zero=>cases e;simpa using h1
  |succ i=>simpa using e10.get h2 (by simpa using e)
÷e10.len:∀ {us:List Ä}{l:List D},e10 h us l->us.length=l.length
 |_,[],hd=>by rw[hd.e80];rfl
 |us,x::r,hd=>by
  ¶⟨u,q,rfl,h1,h2⟩:=hd.c20
  simp[e10.len h2]
def U71(l:List D):Prop:=∀ x r,l=x::r->∃ i,x=.int i
÷P02(hu:A.units + 40 < Å8):∀ (a c:List D) {vs us:List Ä}{r:Bool} (i:Nat),e10 s.heap vs a->e10 s.heap us c->M61 a c=some r->f40 a<=39 ->
  ((b&&i == 0)=true->U71 a/\U71 c)->fin=decide (vs.length < us.length)->Q r s->KatLex P w A b fin Q (vs.zip us) i s
 |[],[],_,_,r,i,ha,hc,e,_,_,hf,q=>by
  cases ha.e80;cases hc.e80;cases e;subst hf;§kat_nil q
 |[],y::t,_,_,r,i,ha,hc,e,_,_,hf,q=>by
  cases ha.e80
  ¶⟨u,us,rfl,_,_⟩:=hc.c20
  cases e;subst hf;§kat_nil q
 |x::l,[],_,_,r,i,ha,hc,e,_,_,hf,q=>by
  cases hc.e80
  ¶⟨v,vs,rfl,_,_⟩:=ha.c20
  cases e;subst hf;§kat_nil q
 |x::l,y::t,_,_,r,i,ha,hc,e,hd,hi,hf,q=>by
  ¶⟨v,vs,rfl,a1,a2⟩:=ha.c20
  ¶⟨u,us,rfl,c1,c2⟩:=hc.c20
  have d1:deep x<=39:=Ñ (Nat.le_max_left _ _) hd
  have d2:f40 l<=39:=Ñ (Nat.le_max_right _ _) hd
  have e:(if eqD x y=true then M61 l t else ltD x y)=some r:=e
  ¤kat_cons (s02 (A:=A) a1 c1 (by omega) P w _ _ ?_)
  ¤kat_go (λz=>?_) λz=>?_
  ·rw[if_pos z] at e
   ¤kat_yes (P02 hu l t (i + 1) a2 c2 e d2 (λk=>?_) (by rw[hf];simp) q)
   simp at k
  ·rw[if_neg (by rw[z];§Ð)] at e
   ¤kat_no ?_
   cases hb:(b&&i == 0) with
   |true =>
    ¶⟨f1,f2⟩:=hi hb
    ¶⟨m,rfl⟩:=f1 x l rfl
    ¶⟨n,rfl⟩:=f2 y t rfl
    cases e
    ¶⟨_,_,r1⟩:=a1
    ¶⟨_,_,r2⟩:=c1
    cases r1;cases r2
    §oneLt_int q
   |false=>§kat_one _ _ ((e02 39 (A:=A) (s:=s)).1 x y v u r d1 a1 c1 e (by omega) P w _ _ q)
÷a21(h:w11 x=0):∃ i,x=.int i:=by
 cases x with
 |int i=>§⟨i,rfl⟩
 |tup l =>
  cases l with
  |nil=>cases h
  |cons y r=>cases y <;> cases h
 |_=>cases h
÷a31(h:w11 x=k)(h1:1<=k)(h3:k < 3):∃ y r,x=.tup (y::r)/\(k=1->∃ i,y=.int i)/\(k=2->∃ l,y=.tup l):=by
 cases x with
 |tup l =>
  cases l with
  |nil=>have:k=3:=h.symm;omega
  |cons y r =>
   ¤⟨y,r,rfl,λe=>?_,λe=>?_⟩ <;> subst e <;> cases y <;> first | §⟨_,rfl⟩ | cases h
 |int i=>have:k=0:=h.symm;omega
 |_=>have:k=3:=h.symm;omega
÷e42(h1:1<=k)(h3:k < 3):∀ {us:List Ä}{l:List D},e10 h us l->(∀ x∈l,w11 x=k)->∃ fs,KatTups h us fs/\fs.length=us.length/\∀ v∈fs,(k=1->∃ i t,v=Æ1 i t)/\(k=2->∃ a o,v=Ã3 a/\h.get? a=some o/\o.cls=.type "tuple")
 |_,[],hd,_=>by rw[hd.e80];§⟨[],.nil,rfl,λv hv=>absurd hv (by simp)⟩
 |_,x::r,hd,hk=>by
  ¶⟨u,q,rfl,⟨_,as,r1⟩,h2⟩:=hd.c20
  ¶⟨fs,t1,t2,t3⟩:=e42 h1 h3 h2 λy hy=>hk y (È _ hy)
  ¶⟨y,l,rfl,y1,y2⟩:=a31 (hk x Ì) h1 h3
  cases r1 with
  | @tuple a o vs n xs as k1 k2 k3 k4 =>
   cases hv:vs.toList with
   |nil=>rw[hv] at k4;cases k4
   |cons f fr =>
    rw[hv] at k4
    cases k4 with
    |cons f1 f2 =>
     ¤⟨f::fs,.cons k1 k2 k3 (by rw[← õ,hv];rfl) t1,by simp[t2],λv hm=>?_⟩
     rcases ú.mp hm with rfl | hm
     ·¤⟨λe=>?_,λe=>?_⟩
      ·¶⟨i,rfl⟩:=y1 e
       cases f1;§⟨_,_,rfl⟩
      ·¶⟨m,rfl⟩:=y2 e
       cases f1 with
       |tuple g1 g2 g3 g4=>§⟨_,_,rfl,g1,g2⟩
     ·§t3 v hm
def kdOf:Nat->Ì9
 |0=>Ù0
 |1=>tuples' true
 |_=>tuples' false
÷a41(h:i50 x y=true):w11 y=w11 x/\ltD x y=some (MySort.h30 (flt x) (flt y))/\(flt x=flt y->x=y):=by
 unfold i50 at h
 rw[Á,Á,Å6] at h
 ¤⟨eq_of_beq h.1,eq_of_beq h.2.1,λe=>?_⟩
 rcases h.2.2 with k | k
 ·§U61 _ _ k
 ·rw[e] at k;simp at k
÷x11(h64:us.length < 64)(hd:e10 s.heap us l)(hu:A.units + 40 < Å8)(k3:k < 3)(hk:∀ x∈l,w11 x=k)(ho:∀ x∈l,okD x=true)(hp:∀ x∈l,∀ y∈l,i50 x y=true):MySort.k82 P w A s us (MySort.sortedBy (l.map flt)) (kdOf k) where
 len:=by omega
 few h2:=MySort.p32 (by rw[É];§hd.len) h2
 all p hp:=by rw[hp.1.length_eq,ù,É,hd.len]
 kind h2 E Q q:=by
  match k,k3,hk,q with
  |0,_,hk,q =>
   ¤kas_kind h2 (T:=.type "int") (λv hv=>?_) rfl rfl q
   ¶⟨i,hi,rfl⟩:=Õ3.mp hv
   have hi':i < l.length:=by rw[← hd.len];§hi
   ¶⟨_,as,r⟩:=hd.get (i:=i) (d:=l[i]) (by simp[hi'])
   ¶⟨n,hn⟩:=a21 (hk l[i] (É2 hi'))
   rw[hn] at r
   have e:us.getD i â=us[i]:=by simp[hi]
   rw[e] at r
   generalize us[i]=v at r
   cases r
   §Û9 rfl
  |1,_,hk,q =>
   ¶⟨fs,t1,t2,t3⟩:=e42 (by decide) (by decide) hd hk
   §kat_kind (T:=.type "int") t1 (by omega) (λv hv=>by obtain⟨i,t,rfl⟩:=(t3 v hv).1 rfl;§Û9 rfl) rfl q
  |2,_,hk,q =>
   ¶⟨fs,t1,t2,t3⟩:=e42 (by decide) (by decide) hd hk
   §kat_kind (T:=.type "tuple") t1 (by omega) (λv hv=>by
    ¶⟨a,o,rfl,g1,g2⟩:=(t3 v hv).2 rfl
    rw[← g2];§(Î2 g1).andThen .now) rfl q
 run:=MySort.Z91 (by rw[É];§hd.len) h64 λi j hi hj E C hC=>by
  have hi':i < l.length:=by rw[← hd.len];§hi
  have hj':j < l.length:=by rw[← hd.len];§hj
  have mi:=É2 hi'
  have mj:=É2 hj'
  ¶⟨_,h2,_⟩:=a41 (hp _ mi _ mj)
  have a1:=hd.get (i:=i) (d:=l[i]) (by simp[hi'])
  have b1:=hd.get (i:=j) (d:=l[j]) (by simp[hj'])
  have e1:(l.map flt).getD i []=flt l[i]:=by simp[hi']
  have e2:(l.map flt).getD j []=flt l[j]:=by simp[hj']
  rw[e1,e2] at hC
  generalize MySort.h30 (flt l[i]) (flt l[j])=c at h2 hC
  have kx:=hk _ mi
  have ky:=hk _ mj
  have ox:=L80 (ho _ mi)
  generalize l[i]=x at *
  generalize l[j]=y at *
  have tup:∀ b:Bool,1<=k->(b=true->k=1)->Ï (Ô P w) A (keyLt' (tuples' b) (us.getD i â) (us.getD j â)) C E s:=λb h1 hb=>by
   ¶⟨x1,xr,rfl,x2,_⟩:=a31 kx h1 k3
   ¶⟨y1,yr,rfl,y2,_⟩:=a31 ky h1 k3
   ¶⟨f1,as,r1⟩:=a1
   ¶⟨f2,bs,r2⟩:=b1
   generalize us.getD i â=v at r1
   generalize us.getD j â=u at r2
   cases r1 with
   |tuple p1 p2 p3 p4 =>
    cases r2 with
    |tuple q1 q2 q3 q4 =>
     ¤kat_lt p1 p3 q1 q3 (P02 hu (x1::xr) (y1::yr) 0 ⟨f1,_,p4⟩ ⟨f2,_,q4⟩ h2 (by have:deep (.tup (x1::xr))=f40 (x1::xr) + 1:=rfl;omega) (λz=>?_) (by simp) hC)
     have hb1:=hb (by simpa using z)
     §⟨λa q e=>by cases e;§x2 hb1,λa q e=>by cases e;§y2 hb1⟩
  match k,k3,kx,ky,tup with
  |0,_,kx,ky,_ =>
   ¶⟨m,rfl⟩:=a21 kx
   ¶⟨n,rfl⟩:=a21 ky
   cases h2
   ¶⟨_,_,r1⟩:=a1
   ¶⟨_,_,r2⟩:=b1
   generalize us.getD i â=v at r1
   generalize us.getD j â=u at r2
   cases r1;cases r2
   §kat_lt_int hC
  |1,_,_,_,tup=>§tup true (by decide) λ_=>rfl
  |2,_,_,_,tup=>§tup false (by decide) λh=>by cases h
÷HdA.pick{K:Â}{H:Hp}{l:List D}{vs:List V}(h:HdA K H l vs):∀ {p:List Nat},(∀ i∈p,i < l.length)->HdA K H (p.map λi=>l.getD i .non) (p.map λi=>vs.getD i .non)
 |[],_=>.nil
 |i::p,hp=>by
  have hi:=hp i Ì
  ¤.cons ?_ (HdA.pick h λj hj=>hp j (È _ hj))
  ¶⟨v,e1,e2⟩:=h.get (i:=i) (d:=l[i]) (by simp[hi])
  have g1:l.getD i .non=l[i]:=by simp[hi]
  have g2:vs.getD i .non=v:=by rw[Ø,e1];rfl
  show Hd K H (l.getD i .non) (vs.getD i .non)
  rw[g1,g2];§e2
end Q
namespace Q
open PySem L2 PySem.Spec PyProof.Rows
open PySem.W (kas_mapM kas_first_eq kas_item kas_item_eq kas_cmp)
÷e52(h:k<=8):∀ i∈TS.sN k,i < 2 ^ k:=by
 have:∀ k,k < 9->((TS.sN k).all λi=>Nat.blt i (2 ^ k))=true:=by decide +kernel
 intro i hi
 §Nat.blt_eq.mp (Õ.mp (this k (by omega)) i hi)
÷t42(h:k<=8):(TS.sN k).length=2 ^ k:=by
 have:∀ k,k < 9->beq (TS.sN k).length (2 ^ k)=true:=by decide +kernel
 §Nat.eq_of_beq_eq_true (this k (by omega))
÷u70(h:i < 2 ^ k):(h40 k)[i]?=some (n20 k i):=by
 unfold h40
 rw[Ü,Ê0 h];rfl
÷t52(h:k<=8):((TS.sN k).map λi=>(h40 k).getD i .non)=M81 k :=
 Ã5 λi hi=>by rw[Ø,u70 (e52 h i hi)];rfl
÷x21:∀ a b:List Nat,M61 (a.map λ(i:Nat)=>.int i) (b.map λ(i:Nat)=>.int i)=some (TS.B72 a b)
 |[],[]=>rfl
 |[],_::_=>rfl
 |_::_,[]=>rfl
 |a::r,b::q=>by
  show(if ((a:Int) == (b:Int))=true then M61 (r.map λ(i:Nat)=>.int i) (q.map λ(i:Nat)=>.int i) else some (decide ((a:Int) < b)))=some (if beq a b=true then TS.B72 r q else Nat.blt a b)
  rw[x21 r q]
  by_cases h:a=b
  ·subst h;rw[if_pos (by simp),if_pos (Nat.beq_refl a)]
  ·rw[if_neg (by simp;omega),if_neg λe=>h (Nat.eq_of_beq_eq_true e)]
   congr 1
   rw[Í8,decide_eq_true_eq,Nat.blt_eq]
   omega
variable [TB:Tb]
section
variable {P:ß}{w:ç}{A:ø}{E:Ä->Æ->Prop}{s:Æ}
def TupAt(h:ì)(v:Ä):Prop:=∃ a o xs n,v=.ref a/\h.get? a=some o/\o.cls=.type "tuple"/\o.data=.seq xs n
÷g21(ho:s.heap.get? a=some o)(hc:o.cls=.type "tuple")(hd:o.data=.seq xs n)(q:Q xs[0]? s):Ï (Ô P w) A (firstOfTuple' (.ref a)) Q E s:=by
 rw[kas_first_eq]
 ¤À (Ý5 (show PySem.W.Looks (Ô P w) s.heap (typeOf (.ref a)) o.cls from(Î2 ho).andThen .now) ?_)
 rw[hc,if_neg (by first | decide | simp)]
 §À (Ð4 ho hd (Å q))
÷S80:∀ (vs:List Ä),(∀ v∈vs,TupAt s.heap v)->∃ fs:List (Option Ä),∀ Q,Q fs s->Ï (Ô P w) A (vs.mapM firstOfTuple') Q E s
 |[],_=>⟨[],λQ q=>by rw[List.mapM_nil];§Å q⟩
 |v::vs,h=>by
  ¶⟨fs,hf⟩:=S80 vs λu hu=>h u (È _ hu)
  ¶⟨a,o,xs,n,rfl,ho,hc,hd⟩:=h v Ì
  ¤⟨xs[0]?::fs,λQ q=>?_⟩
  rw[mapM_cons]
  §À (g21 ho hc hd (À (hf _ (Å q))))
÷e62(ho:s.heap.get? a=some o)(hc:o.cls=.type "tuple")(hd:o.data=.seq #[] n)(h:∀ v∈vs,TupAt s.heap v)(q:Q Ù0 s):Ï (Ô P w) A (keyKind' (Ã3 a::vs).toArray) Q E s:=by
 ¶⟨fs,hf⟩:=S80 (P:=P) (w:=w) (A:=A) (E:=E) vs h
 rw[keyKind'_eq,List.mapM_toArray,map_eq_pure_bind,mapM_cons]
 ¤À (À (À (g21 ho hc hd (À (hf _ (Å (Å ?_)))))))
 rw[if_neg (by simp),if_neg (by simp)]
 rw[oneTypeOnly'_eq,List.mapM_toArray,map_eq_pure_bind]
 ¤À (À (À (kas_mapM (r:=.type "tuple") _ (λv hv Q' hq=>?_) (Å ?_))))
 ·have:TupAt s.heap v:=by
   rcases ú.mp hv with rfl | hv
   ·§⟨_,_,_,_,rfl,ho,hc,hd⟩
   ·§h v hv
  ¶⟨b,o',xs,m,rfl,ho',hc',_⟩:=this
  rw[← hc'] at hq
  §Ý5 (show PySem.W.Looks (Ô P w) s.heap (typeOf (.ref b)) o'.cls from(Î2 ho').andThen .now) hq
 ·have hall:((List.map (λ_=>Á7 "tuple") (Ã3 a::vs)).toArray.all λx=>x == Á7 "tuple")=true:=by
   simp only[List.all_toArray,all_map,Æ9]
   intro _ _
   rfl
  have h0:(List.map (λ_=>Á7 "tuple") (Ã3 a::vs)).toArray[0]?=some (Á7 "tuple"):=by simp
  rw[h0]
  simp only[hall,if_true]
  §Å (Å q)
÷t62(hl:Ï2 s.heap l i1)(hb:Ï2 s.heap b i2)(hu:A.units < Å8)(hx:Lx A.in1 s i1.toList i2.toList c)(q:Q c s):Ï (Ô P w) A (keyLt' Ù0 (.ref l) (.ref b)) Q E s:=by
 ¶⟨⟨cls,dd,data,sl⟩,ho,hc,n,hd⟩:=id hl;¶⟨⟨cls2,dd2,data2,sl2⟩,ho2,hc2,n2,hd2⟩:=id hb
 simp only at hc hd hc2 hd2;subst hc hd hc2 hd2
 rw[keyLt'_oneType,oneLt'_eq]
 simp only[if_true]
 ¤À (wpAny_cRoomFor hu (À (wpAny_callSpecialIfBound?_slot ⟨_,ho,rfl⟩ Ò8 (È4 Ò8 ⟨_,ho,rfl⟩ ß4 (Þ4 _ _) (D60 l b i1 i2 n n2 dd dd2 sl sl2 c) ⟨ho,ho2,hx,?_⟩))))
 §Â6 q
÷t72(h8:k<=8)(hd:e10 s.heap us (h40 k))(hu:A.units + 40 < Å8):MySort.k82 P w A s us (λp=>p=TS.sN k) Ù0 where
 len:=by rw[hd.len,h40,É,ù];§Ñ (À4 (by decide) h8) (by decide)
 few h2:=by
  rw[hd.len,h40,É,ù] at h2 ⊢
  cases k with
  |zero=>rfl
  |succ k=>have:=Nat.one_le_two_pow (n:=k);rw[Ú6] at h2;omega
 all p hp:=by subst hp;rw[hd.len,h40,É,ù,t42 h8]
 kind h2 E Q q:=by
  have ht:∀ i v,us[i]?=some v->∃ xs n a o,v=.ref a/\s.heap.get? a=some o/\o.cls=.type "tuple"/\o.data=.seq xs n/\(i=0->xs=#[]):=λi v e=>by
   have hi:i < us.length:=(Ý.mp e).1
   have hi':i < 2 ^ k:=by rw[hd.len,h40,É,ù] at hi;§hi
   ¶⟨_,as,r⟩:=hd.get (u70 hi')
   have e2:us.getD i â=v:=by rw[Ø,e];rfl
   rw[e2] at r
   have z0:∀ k,TS.C40 k 0 0=[]:=λk=>by
    have:∀ k i,TS.C40 k i 0=[]:=λk=>by
     induction k with
     |zero=>§λ_=>rfl
     |succ k ih=>§λi=>ih (i + 1)
    §this k 0
   cases i with
   |zero =>
    have r:Reads s.heap v (toP (.tup ((TS.C40 k 0 0).map λ(i:Nat)=>.int i))) as:=r
    rw[z0] at r
    cases r with
    | @tuple a o vs n xs as k1 k2 k3 k4 =>
     have:vs.toList=[]:=by cases hv:vs.toList with | nil=>rfl | cons _ _=>rw[hv] at k4;cases k4
     §⟨vs,n,a,o,rfl,k1,k2,k3,λ_=>Array.toList_eq_nil_iff.mp this⟩
   |succ i =>
    cases r with
    | @tuple a o vs n xs as k1 k2 k3 k4=>§⟨vs,n,a,o,rfl,k1,k2,k3,λe=>by cases e⟩
  match us,ht with
  |[],_=>simp at h2
  |v::vs,ht =>
   ¶⟨xs,n,a,o,rfl,h1,h3,h4,h5⟩:=ht 0 v rfl
   cases h5 rfl
   ¤e62 h1 h3 h4 (λu hu=>?_) q
   ¶⟨i,hi,rfl⟩:=Õ3.mp hu
   ¶⟨xs,n,a,o,e,h1,h3,h4,_⟩:=ht (i + 1) vs[i] (by simp[hi])
   §⟨a,o,xs,n,e,h1,h3,h4⟩
 run h2:=by
  have hl:us.length=2 ^ k:=by rw[hd.len,h40,É,ù]
  have h1:1<=k:=by
   cases k with
   |zero=>rw[hl] at h2;§absurd h2 (by decide)
   |succ k=>omega
  ¤TS.runL h1 h8 hl λi j C hi hj hC=>?_
  have e1:=kas_item_eq us i
  have e2:=kas_item_eq us j
  show Ï (Ô P w) A (keyLt' Ù0 (ö (pairsOf us) i).1 (ö (pairsOf us) j).1) C _ s
  rw[e1,e2]
  ¶⟨f1,as,r1⟩:=hd.get (u70 hi)
  ¶⟨f2,bs,r2⟩:=hd.get (u70 hj)
  show Ï (Ô P w) A (keyLt' Ù0 (us.getD i â) (us.getD j â)) C _ s
  generalize us.getD i â=v at r1
  generalize us.getD j â=u at r2
  cases r1 with
  |tuple p1 p2 p3 p4 =>
   cases r2 with
   |tuple q1 q2 q3 q4 =>
    ¤t62 ⟨_,p1,p2,_,p3⟩ ⟨_,q1,q2,_,q3⟩ (by omega) ((e02 40).2 _ _ _ _ _ ?_ ⟨f1,_,p4⟩ ⟨f2,_,q4⟩ (x21 _ _) (by omega)) hC
    have:∀ l:List Nat,f40 (l.map λ(i:Nat)=>.int i)=0:=λl=>by
     induction l with
     |nil=>rfl
     |cons x r ih=>show Ð9 0 _=0;rw[ih];rfl
    rw[this];decide
end
section
variable {X:Cx}
÷e72{zA:Option Ç}{H:Hp}{k:Nat}{xs:List V}(hu:X.A.units + 64 < Å8)(hd:HdA X.K H (h40 k) xs)(h8:k<=8):b02 X H xs (λp=>p=TS.sN k):=by
 intro pins σ s us I rv
 have ci:∀ l:List Nat,e00 (l.map λ(i:Nat)=>.int i)=true/\X30 (l.map λ(i:Nat)=>.int i) (l.map λ(i:Nat)=>.int i)=true:=λl=>by
  induction l with
  |nil=>§⟨rfl,rfl⟩
  |cons x r ih=>§⟨ih.1,by show((x:Int) == (x:Int)&&_)=true;rw[ih.2];simp⟩
 have cl:∀ l:List Nat,e00 (l.map (n20 k))=true/\X30 (l.map (n20 k)) (l.map (n20 k))=true:=λl=>by
  induction l with
  |nil=>§⟨rfl,rfl⟩
  |cons x r ih =>
   ¤⟨?_,?_⟩
   ·show(e00 _&&_)=true;rw[(ci _).1,ih.1];rfl
   ·show(X30 _ _&&_)=true;rw[(ci _).2,ih.2];rfl
 ¶⟨as,ra⟩:=D40 I hd rv (cl _).1
 §⟨Ù0,λh' kp=>t72 h8 ⟨(cl _).1,_,p00 kp _ (cl _).2 ra⟩ (by show X.A.units + 1 + 1 + 40 < Å8;omega)⟩
÷e82{zA:Option Ç}{H:Hp}{l:List D}{xs:List V}(hu:X.A.units + 64 < Å8)(hd:HdA X.K H l xs)(h64:l.length < 64)(ok:n10 l=true):b02 X H xs (MySort.sortedBy (l.map flt)):=by
 intro pins σ s us I rv
 replace h64:us.length < 64:=by rw[← rv.length,hd.length];§h64
 have all:∀ x∈l,w11 x < 3/\okD x=true/\∀ y∈l,i50 x y=true:=λx hx=>by
  have:=Õ.mp ok x hx
  rw[Á,Á,decide_eq_true_eq,Æ9] at this
  §⟨this.1,this.2.1,this.2.2⟩
 have hf:e00 l=true:=by
  clear hd
  induction l with
  |nil=>rfl
  |cons x r ih =>
   have h1:=(o90 (all x Ì).2.1).1
   show(n00 x&&e00 r)=true
   rw[h1]
   have ok':n10 r=true:=Õ.mpr λy hy=>by
    ¶⟨a,b,c⟩:=all y (È _ hy)
    rw[Á,Á,decide_eq_true_eq,Æ9]
    §⟨a,b,λz hz=>c z (È _ hz)⟩
   §ih ok' λy hy=>⟨(all y (È _ hy)).1,(all y (È _ hy)).2.1,λz hz=>(all y (È _ hy)).2.2 z (È _ hz)⟩
 ¶⟨as,ra⟩:=D40 I hd rv hf
 have pure:X30 l l=true:=by
  clear hd ra hf ok
  have:∀ q:List D,(∀ x∈q,eqT x x=true)->X30 q q=true:=λq=>by
   induction q with
   |nil=>intro _;rfl
   |cons x r ih=>intro h;show(eqT x x&&X30 r r)=true;rw[h x Ì,ih λy hy=>h y (È _ hy)];rfl
  ¤this l λx hx=>?_
  have h:=(all x hx).2.2 x hx
  unfold i50 at h
  rw[Á,Á,Å6] at h
  rcases h.2.2 with k | k
  ·§k
  ·simp at k
 cases l with
 |nil=>§⟨kdOf 0,λh' kp=>x11 h64 ⟨hf,_,p00 kp _ pure ra⟩ (by show X.A.units + 1 + 1 + 40 < Å8;omega) (by decide) (λx hx=>absurd hx (by simp)) (λx hx=>absurd hx (by simp)) λx hx=>absurd hx (by simp)⟩
 |cons x r =>
  have hx:=all x Ì
  §⟨kdOf (w11 x),λh' kp=>x11 h64 ⟨hf,_,p00 kp _ pure ra⟩ (by show X.A.units + 1 + 1 + 40 < Å8;omega) hx.1 (λy hy=>(a41 (hx.2.2 y hy)).1) (λy hy=>(all y hy).2.1) λy hy=>(all y hy).2.2⟩
÷x31(hu:X.A.units + 64 < Å8):e50 X (.builtin "sorted") (rDn X.K (bfD .sorted)):=by
 intro pins s σ H xs us Q I r h
 ¶⟨zA,z,ds,w,st,hx,e,q⟩:=h
 match ds,e with
 |[x],e =>
  have e:sortedS x=some w:=e
  unfold sortedS at e
  ¶⟨l,h1,e⟩:=Î.mp e
  ¶⟨v,rfl,hv⟩:=hx.one
  have go:∀ (a:Ç) (ys:List V),v=.ref a->(SqL X.K H a ys∨SqT X.K H a ys)->HdA X.K (hz zA H) l ys->Ï (Ô X.prog X.w) X.A (call (.builtin "sorted") us) (EP X pins σ Q) X.xe s:=λa ys hva hq hd=>by
   subst hva
   by_cases c:l.length < 64/\n10 l=true
   ·rw[if_pos c] at e
    cases e
    ¶⟨h64,ok⟩:=c
    ¤y30 pins s σ H _ us Q I r ⟨a,ys,MySort.sortedBy (l.map flt),rfl,hq,e82 (zA:=zA) hu (hd.same (a20 zA H)) h64 ok,λp hp i hi=>by have:=hp.1.mem_iff.mp hi;rw[hd.length];simpa using this,λp lA hp hn=>?_⟩
    have hd2:=hd.pick (p:=p) λi hi=>by have:=hp.1.mem_iff.mp hi;simpa using this
    rw[e32 (λx hx y hy=>?_) hp] at hd2
    ·§q _ _ (a30.new _ hn) (n50 st hd2 hn)
    ·have:=Õ.mp ok x hx
     rw[Á,Á,Æ9] at this
     §(a41 (this.2.2 y hy)).2.2
   ·rw[if_neg c] at e
    ¶⟨l',e1,rfl⟩:=Ê.mp e
    ¶⟨k,e2,rfl⟩:=Ê.mp e1
    have e3:=a11 _ _ (List.find?_some (p:=λk=>X30 l (h40 k)) e2)
    have k8:k<=8:=by have:=List.mem_of_find?_eq_some e2;simp at this;omega
    subst e3
    ¤y30 pins s σ H _ us Q I r ⟨a,ys,λp=>p=TS.sN k,rfl,hq,e72 (zA:=zA) hu (hd.same (a20 zA H)) k8,λp hp i hi=>?_,λp lA hp hn=>?_⟩
    ·subst hp;rw[hd.length,h40,É,ù];§e52 k8 i hi
    ·subst hp
     have hd2:=hd.pick (p:=TS.sN k) λi hi=>by rw[h40,É,ù];§e52 k8 i hi
     rw[t52 k8] at hd2
     §q _ _ (a30.new _ hn) (n50 st hd2 hn)
  cases x with
  |tup m =>
   cases h1
   ¶⟨a,ys,rfl,k1,k2⟩:=hv.A10
   §go a ys rfl (.inr ((a20 zA H).sqT k1)) k2
  |lst m =>
   cases h1
   ¶⟨a,ys,rfl,k1,k2⟩:=hv.X50
   §go a ys rfl (.inl (k1.same (a20 zA H)).sq) k2
  |_=>cases h1
end
end Q
namespace SS
open PySem PySem.W PyProof.Rows MySort
def key:Ä->Int
 |.int i _=>i
 |_=>0
÷N81(m:Nat):(bts m).Pairwise (· < ·):=Ë2 _ È8
÷n61:∀ a:Nat,a < 8->∀ b:Nat,b < 8->Q.i50 (.int a) (.int b)=true:=by decide
section
variable {P:ß}{w:ç}{A:ø}{E:Ä->Æ->Prop}{s:Æ}{S ep m:Nat}{g:Nat->Tok}{o:Obj}
def n71(w:ç)(S ep:Nat)(g:Nat->Tok)(m:Nat):List Value:=(ord w S ep (ent g m)).toList.map (·.2)
def e92(w:ç)(S ep:Nat)(g:Nat->Tok)(m:Nat):List L2.D:=(n71 w S ep g m).map λv=>.int (key v)
÷a51:(n71 w S ep g m).Perm ((bts m).map λ(i:Nat)=>Æ1 i (g i)):=by
 have:=(f61 w S ep (ent g m)).map (·.2)
 unfold ent at this
 rw[ï] at this
 §this
÷U81(h:v∈n71 w S ep g m):∃ i,i < 8/\v=.int (i:Nat) (g i):=by
 ¶⟨i,hi,rfl⟩:=Ö.mp (a51.mem_iff.mp h)
 §⟨i,(D00.mp hi).1,rfl⟩
÷S90(h:ì):∀ vs:List Ä,(∀ v∈vs,∃ (i:Nat) (t:Tok),v=.int i t)->Q.e10 h vs (vs.map λv=>.int (key v))
 |[],_=>⟨rfl,[],.nil⟩
 |v::r,k=>by
  ¶⟨i,t,rfl⟩:=k v Ì
  ¶⟨h1,as,h2⟩:=S90 h r λv hv=>k v (È _ hv)
  §⟨h1,_,.cons (.int _ _) h2⟩
÷N91(hp:sortedBy ((e92 w S ep g m).map Q.flt) p):(p.map λi=>(n71 w S ep g m).getD i â)=(bts m).map λ(i:Nat)=>Æ1 i (g i):=by
 ¶⟨h1,h2⟩:=hp
 have len:((e92 w S ep g m).map Q.flt).length=(n71 w S ep g m).length:=by unfold e92;simp
 rw[len] at h1
 have h3:(p.map λi=>(n71 w S ep g m).getD i â).Perm ((bts m).map λ(i:Nat)=>Æ1 i (g i)):=by
  ¤List.Perm.trans (h1.map _) ?_
  rw[MySort.range_getD];§a51
 ¤É0 (le:=λu v=>key u<=key v) (λu v hu hv l1 l2=>?_) ?_ ?_ h3
 ·¶⟨i,hi,rfl⟩:=Ö.mp (h3.mem_iff.mp hu)
  ¶⟨j,hj,rfl⟩:=Ö.mp hv
  have l1:(i:Int)<=j:=l1
  have l2:(j:Int)<=i:=l2
  have:i=j:=by omega
  rw[this]
 ·have e:(p.map λi=>((e92 w S ep g m).map Q.flt).getD i [])=(p.map λi=>(n71 w S ep g m).getD i â).map λv=>[key v]:=by
   rw[ï]
   ¤Ã5 λi hi=>?_
   have hi:i < (n71 w S ep g m).length:=by simpa using h1.mem_iff.mp hi
   unfold e92
   simp[hi,Q.flt]
  rw[e,Ú1] at h2
  ¤h2.imp λ{u v} h=>?_
  have:h30 [key v] [key u]=false:=h
  simp[h30] at this
  omega
 ·rw[Ú1]
  §(N81 m).imp λ{a b} h=>by show(a:Int)<=b;omega
÷n81{R:Ä->Æ->Prop}(hh:A.handled=none)(hu:A.units + 64 < Å8)(hm:m < 256)(ho:s.heap.get? S=some o)(hx:o.ExactSet)(hd:o.data=.set (ent g m) ep (tbl (led w) m))
  (h:∀ lA h' tk c,s.heap.objs.size<=lA->(∀ b u,s.heap.get? b=some u->h'.get? b=some u)->h'.get? lA=some (Ã1 "list" ((bts m).map λ(i:Nat)=>Æ1 i (g i)).toArray c)->R (.ref lA) { s with heap:=h',toks:=tk }):Ï (Ô P w) A (call (.builtin "sorted") [.ref S]) R E s:=by
 have h64:(n71 w S ep g m).length<=8:=by
  rw[a51.length_eq,É]
  §Ñ (Å3 _ _) (by simp)
 ¤Þ7 kind_sorted plain_sorted entry_sorted (args_sorted1 _) ?_
 unfold ÿ.«sorted»
 ¤À (m:=checkCount "sorted" 1 1 _) (Å ?_)
 ¤À (Z30 (by simp[hh]) hm ho hx hd λh1 tk lS kp1=>?_)
 ¤À (Û6 ?_ (by show(n71 w S ep g m).length<=_;rw[Á3];omega))
 have hoL:(h1.push (Ã1 "list" (n71 w S ep g m).toArray 0)).get? h1.objs.size=some (Ã1 "list" (n71 w S ep g m).toArray 0):=Ë _ rfl
 have kw:∀ h',k82 P w A.in1.in1 { s with heap:=h',toks:=tk } (n71 w S ep g m) (sortedBy ((e92 w S ep g m).map Q.flt)) (Q.kdOf 0):=λh'=>by
  have dm:∀ d∈e92 w S ep g m,∃ i:Nat,i < 8/\d=.int i:=λd hd=>by
   ¶⟨v,hv,rfl⟩:=Ö.mp hd
   ¶⟨i,hi,rfl⟩:=U81 hv
   §⟨i,hi,rfl⟩
  letI:Q.Tb:=⟨[]⟩
  ¤Q.x11 (by omega) (S90 h' _ λv hv=>by ¶⟨i,_,rfl⟩:=U81 hv;§⟨i,_,rfl⟩) (by show A.units + 1 + 1 + 40 < Å8;omega) (by decide) (λd hd=>?_) (λd hd=>?_) λd hd e he=>?_
  ·¶⟨i,_,rfl⟩:=dm d hd;rfl
  ·¶⟨i,_,rfl⟩:=dm d hd;rfl
  ·¶⟨i,hi,rfl⟩:=dm d hd
   ¶⟨j,hj,rfl⟩:=dm e he
   §n61 i hi j hj
 ¤À (À8 (À5 slot_list_sort ⟨_,hoL,rfl⟩ entry_list_sort (e91 hoL (λh' _=>kw h') λp h' c hp kp hD=>⟨_,rfl,Å ⟨_,rfl,?_⟩⟩) (args_list_sort _)))
 rw[N91 hp] at hD
 §h _ h' tk c (É6 lS) (λb u e=>kp b u (Ù (à (kp1 b u e))) (Ã _ (kp1 b u e))) hD
end
end SS
namespace Q
open PySem L2 PySem.Spec PyProof.Rows
variable [TB:Tb]
structure Gs where
 fns:List (Str × List Str)
 nums:List (Str × Int)
 F:FT
 cls:Nat->Addr
 lv:Nat
def EPost(G:Gs)(zA:Option Ç)(E:XK)(c:Nat)(z:Z)(H:Hp):Prop:=∀ e H',Ext zA H H'->d70 zA z H'->H' e=none->E (.ref (G.cls c)) (some e) H'
÷EPost.mono(h:EPost G zA E c z H)(e:Ext zA H H1):EPost G zA E c z H1:=λa H' x s n=>h a H' (e.trans x) s n
def H12(K:Â)(G:Gs)(zA:Option Ç)(E:XK)(H:Hp)(Q:VK):R S->Prop
 |.ok s z'=>∀ v H',Ext zA H H'->d70 zA z' H'->RvS K zA H H' s v->Q v H'
 |.er c z'=>EPost G zA E c z' H
def a61(K:Â)(G:Gs)(zA:Option Ç)(E:XK)(H:Hp)(Q:VK):R (List S)->Prop
 |.ok l z'=>∃ s,l=[s]/\∀ v H',Ext zA H H'->d70 zA z' H'->RvS K zA H H' s v->Q v H'
 |.er c z'=>EPost G zA E c z' H
def H22(K:Â)(G:Gs)(zA:Option Ç)(E:XK)(H:Hp)(Q:List V->Hp->Prop):R (List S)->Prop
 |.ok l z'=>∀ vs H',Ext zA H H'->d70 zA z' H'->Å9 (RvS K zA H H') l vs->Q vs H'
 |.er c z'=>EPost G zA E c z' H
def O01(G:Gs)(zA:Option Ç)(E:XK)(H:Hp)(Q:Bool->Hp->Prop):R (List S)->Prop
 |.ok l z'=>∃ b,l=[.d (.bl b)]/\∀ H',Ext zA H H'->d70 zA z' H'->Q b H'
 |.er c z'=>EPost G zA E c z' H
def y50(K:Â)(zA:Option Ç)(H:Hp)(ρ:Env)(σ:L2.St):Prop:=∀ (i:Nat) (s:S),ρ[i]?=some (some s)->∃ v,σ[i]?=some (some v)/\RvP K zA H s v
÷y50.mono{K:Â}{zA:Option Ç}{H H':Hp}{ρ:Env}{σ:L2.St}(h:y50 K zA H ρ σ)(e:Ext zA H H'):y50 K zA H' ρ σ:=λi s q=>let ⟨v,a,b⟩:=h i s q;⟨v,a,b.mono e⟩
def tI(K:Â)(G:Gs)(E:XK)(x:Ex):TE:=λσ H Q=>∃ zA ρ z r,y50 K zA H ρ σ/\d70 zA z H/\ev G.F x ρ z=some r/\a61 K G zA E H Q r
def tA(K:Â)(G:Gs)(E:XK)(x:Ex):TA:=λσ H Q=>∃ zA ρ z r,y50 K zA H ρ σ/\d70 zA z H/\ev G.F x ρ z=some r/\H22 K G zA E H Q r
def tT(K:Â)(G:Gs)(E:XK)(x:Ex):TT:=λσ H Q=>∃ zA ρ z r,y50 K zA H ρ σ/\d70 zA z H/\ev G.F x ρ z=some r/\O01 G zA E H Q r
def spF(K:Â)(G:Gs)(f n:Nat):Sp:=λvs H Q E=>vs.length=n/\∃ zA z ss r,RvA K zA H ss vs/\d70 zA z H/\G.F false f ss z=some r/\H12 K G zA E H Q r
section
variable {K:Â}{G:Gs}{E:XK}{a x:Ex}{ρ:Env}{z:Z}{zA:Option Ç}{σ:L2.St}{H:Hp}
÷j40{α:Type}{k:List S->M α}{r:R α}{Q':VK}(rel:y50 K zA H ρ σ)(st:d70 zA z H)(h:M.bind (ev G.F a ρ) k z=some r)(her:∀ c z1,r=.er c z1->EPost G zA E c z1 H)
  (hok:∀ l z1,k l z1=some r->∃ s,l=[s]/\∀ v H1,Ext zA H H1->d70 zA z1 H1->RvS K zA H H1 s v->Q' v H1):tI K G E a σ H Q':=by
 rcases M.bind_some h with ⟨l,z1,e1,e2⟩ | ⟨c,z1,e1,e2⟩
 ·§⟨zA,ρ,z,_,rel,st,e1,hok l z1 e2⟩
 ·§⟨zA,ρ,z,_,rel,st,e1,her c z1 e2⟩
÷a71{α:Type}{k:List S->M α}{r:R α}{Q':List V->Hp->Prop}(rel:y50 K zA H ρ σ)(st:d70 zA z H)(h:M.bind (ev G.F a ρ) k z=some r)(her:∀ c z1,r=.er c z1->EPost G zA E c z1 H)
  (hok:∀ l z1,k l z1=some r->∀ vs H1,Ext zA H H1->d70 zA z1 H1->Å9 (RvS K zA H H1) l vs->Q' vs H1):tA K G E a σ H Q':=by
 rcases M.bind_some h with ⟨l,z1,e1,e2⟩ | ⟨c,z1,e1,e2⟩
 ·§⟨zA,ρ,z,_,rel,st,e1,hok l z1 e2⟩
 ·§⟨zA,ρ,z,_,rel,st,e1,her c z1 e2⟩
÷T00{α:Type}{k:Bool->M α}{r:R α}{Q':Bool->Hp->Prop}(rel:y50 K zA H ρ σ)(st:d70 zA z H)(h:M.bind (ev G.F a ρ) (λx=>M.bind (M.of ((pl x).bind asB)) k) z=some r)(her:∀ c z1,r=.er c z1->EPost G zA E c z1 H)
  (hok:∀ b z1,k b z1=some r->∀ H1,Ext zA H H1->d70 zA z1 H1->Q' b H1):tT K G E a σ H Q':=by
 rcases M.bind_some h with ⟨l,z1,e1,e2⟩ | ⟨c,z1,e1,e2⟩
 ·¶⟨b,e3,e4⟩:=M.a10 e2
  ¶⟨d,e5,e6⟩:=Î.mp e3
  have el:l=[.d (.bl b)]:=by
   ¶⟨s,rfl,hs⟩:=e90 e5
   cases s with
   |d y=>cases hs;cases d <;> first | (cases e6;rfl) | cases e6
   |fr ys=>cases hs;cases e6
   |z=>cases hs
  §⟨zA,ρ,z,_,rel,st,e1,b,el,hok b z1 e4⟩
 ·§⟨zA,ρ,z,_,rel,st,e1,her c z1 e2⟩
÷D80{l:List S}{s:S}(h:one l=some s):l=[s]:=by
 unfold one at h
 split at h
 ·cases h;rfl
 ·cases h
end
÷PE.imp(h:PE X e t)(i:∀ σ H Q,t' σ H Q->t σ H Q):PE X e t':=λpins s σ H Q I q=>h pins s σ H Q I (i _ _ _ q)
÷PT.imp(h:PT X e t)(i:∀ σ H Q,t' σ H Q->t σ H Q):PT X e t':=λpins s σ H Q I q=>h pins s σ H Q I (i _ _ _ q)
÷PW.imp(h:PW X e t)(i:∀ σ H Q,t' σ H Q->t σ H Q):PW X e t':=λw pins s σ H Q I q=>h w pins s σ H Q I (i _ _ _ q)
÷PA.imp(h:PA X e t)(i:∀ σ H Q,t' σ H Q->t σ H Q):PA X e t':=λp pins s σ H Q I q=>h p pins s σ H Q I (i _ _ _ q)
def noStar:Ò->Bool
 |.Starred ..=>false
 |_=>true
÷c60(h:noStar e=true)(es:List Ò)(env:È9):þ (e::es) env=(false,eval e env)::þ es env:=by
 cases e <;> first | rfl | cases h
÷q70:∀ {es:List Ò} (env:È9) (pos:Pos),es.all noStar=true->(Õ9 pos (þ es env)).any (·.1)=false
 |[],_,_,_=>rfl
 |e::es,env,pos,h=>by
  rw[Ä5,Á] at h
  rw[c60 h.1]
  show(false || (Õ9 pos (þ es env)).any (·.1))=false
  rw[q70 env pos h.2];rfl
def plainT:Ò->Bool
 |.UnaryOp .Not _ _=>false
 |.BoolOp ..=>false
 |.IfExp ..=>false
 |.Compare ..=>false
 |_=>true
÷x41(h:plainT e=true)(env:È9)(whole:Sem Ä):isTrue e env whole=(do let v ← whole;standAt e.pos;Ù7 [v] (truthy v)):=by
 cases e with
 |UnaryOp op _ _=>cases op <;> first | rfl | cases h
 |BoolOp _ _ _=>cases h
 |IfExp _ _ _ _=>cases h
 |Compare _ _ _ _=>cases h
 |_=>rfl
def D90:Ò->Bool
 |.Slice ..=>false
 |_=>true
÷H20(h:D90 e=true):r91 e:=λo i=>by
 cases e with
 |Slice _ _ _ _=>cases h
 |_=>rfl
def A20:Ò->Bool
 |.Set ..=>false
 |_=>true
÷x51(h:A20 e=true)(op:CmpOp):behindInMarks op e=false:=by
 cases e with
 |Set _ _ _=>cases h
 |_=>rfl
structure b00(X:Cx)(G:Gs)(E:XK)(x:Ex)(e:Expr):Prop where
 pe:PE X e (tI X.K G E x)
 pt:(∀ t a b p,e≠.IfExp t a b p)->PT X e (tT X.K G E x)
 pw:∀ op vs p,e=.BoolOp op vs p->PW X e (tT X.K G E x)
÷b10(h:PE X e (tI X.K G E x))(hp:plainT e=true):b00 X G E x e:=by
 ¤⟨h,λ_=>PT.imp (q71 h (x41 hp X.env)) λσ H Q q=>?_,λop vs p he=>?_⟩
 ·¶⟨zA,ρ,z,r,rel,st,e,po⟩:=q
  ¤⟨zA,ρ,z,r,rel,st,e,?_⟩
  cases r with
  |er c z1=>§po
  |ok l z1 =>
   ¶⟨b,rfl,po⟩:=po
   §⟨_,rfl,λv H' ex st' rv=>⟨b,Hd.bl_ (show Hd X.K (hz zA H') (.bl b) v from rv),po H' ex st'⟩⟩
 ·subst he;cases hp
def isL:Ex->Bool
 |.nil=>true
 |.cons _ _=>true
 |_=>false
def Good(X:Cx)(G:Gs)(E:XK):Ex->List Ò->Prop
 |.nil,es=>es=[]
 |.cons a r,es=>∃ e es',es=e::es'/\noStar e=true/\b00 X G E a e/\isL r=true/\Good X G E r es'
 |x,es=>∃ e,es=[e]/\b00 X G E x e
÷Good.args:∀ {x:Ex}{es:List Ò},isL x=true->Good X G E x es->PA X es (tA X.K G E x)/\es.all noStar=true:=by
 intro x
 induction x with
 |nil =>
  intro es _ h
  have h:es=[]:=h
  subst h
  ¤⟨PA.imp r60 λσ H Q q=>?_,rfl⟩
  ¶⟨zA,ρ,z,r,rel,st,e,po⟩:=q
  cases e
  §po [] H Ext.refl st .nil
 |cons a r _ ih =>
  intro es _ h
  ¶⟨e,es',rfl,ns,g,lr,gr⟩:=h
  ¶⟨h1,h2⟩:=ih lr gr
  ¤⟨PA.imp (d90 g.pe h1 (c60 ns es' X.env)) λσ H Q q=>?_,by rw[Ä5,ns,h2];rfl⟩
  ¶⟨zA,ρ,z,rr,rel,st,e,po⟩:=q
  have her:∀ c z1,rr=.er c z1->EPost G zA E c z1 H:=λc z1 e=>by subst e;§po
  ¤j40 rel st e her λl z1 e1=>?_
  ¶⟨s,hs,e2⟩:=M.a10 e1
  ¤⟨s,D80 hs,λv H1 x1 st1 rv=>?_⟩
  ¤a71 (rel.mono x1) st1 e2 (λc z2 q=>(her c z2 q).mono x1) λl2 z2 e3 vs H2 x2 st2 rvs=>?_
  cases e3
  §po (v::vs) H2 (x1.trans x2) st2 (.cons (rv.mono x2) (Å9.k72 rvs λ_ _ q=>q.from x1))
 |_=>intro es h;cases h
def f02:List Str:=["len","sorted","tuple","list","sum","min","max","abs","all","any","int","bool","str","isinstance","range","zip","enumerate","set"]
def lowG(G:Gs)(k:Nat):Gs:={ G with F:=n40 G.F,lv:=k }
structure H32(X:Cx)(G:Gs)(sc:Scope)(c P:Addr)(q:Str)(k:Nat)(fR:Addr)(fdR:FuncData):Prop where
 sco:X.env.scope=sc
 code:X.env.code=.ref c
 hd:PySem.W.codeHdIn X.K c P=true
 qual:X.env.qual++"<lambda>"=q
 tb:(P,q)∈TB.tb
 uq:∀ p∈TB.tb,p.1=P->p.2=q
 bm:BMain X.mg X.base
 lv:G.lv=k + 2
 cls:∀ j,j < 12->R80 X.K X.mg (G.cls j) j
 m:X.mg "_law_refused"=some (.ref fR)
 kp:PySem.W.keepIn X.K (.ref fR)=true
 bd:Binds X.K fdR ["_law_call"] []
 fn:n01 X.prog X.w X.K X.mg X.base CX0 (k + 2) fR fdR ["_law_call"] (b82 X.prog X.w X.K X.mg X.base (k + 1))
 low:∀ f nm ps,G.fns[f]?=some (nm,ps)->∃ fa fd,X.mg nm=some (.ref fa)/\PySem.W.keepIn X.K (.ref fa)=true/\Binds X.K fd ps []/\X20 X.prog X.w X.K X.mg X.base (CX1 X.prog X.w) k fa fd ps (spF X.K (lowG G k) f ps.length)
def H42(X:Cx)(G:Gs)(sc:ý):Prop:=∃ c P q k fR fdR,H32 X G sc c P q k fR fdR
structure XI(lm:Bool)(X:Cx)(G:Gs)(E:XK)(N:List Str)(sc:Scope):Prop where
 gok:∀ f nm ps,G.fns[f]?=some (nm,ps)->∃ fa fd,X.mg nm=some (.ref fa)/\PySem.W.keepIn X.K (.ref fa)=true/\Binds X.K fd ps []/\X20 X.prog X.w X.K X.mg X.base (CX1 X.prog X.w) G.lv fa fd ps (spF X.K G f ps.length)
 num:∀ p∈G.nums,∃ t,X.mg p.1=some (.int p.2 t)
 blt:∀ n∈f02,X.mg n=none
 hN:X.N=N
 nd:N.Nodup
 vis:∀ x∈N,Vis X.env.scope x
 glb:∀ x,sc.names.lookup x=some .globalImplicit->Gl X x
 cel:∀ x,(sc.names.lookup x=some .cell∨sc.names.lookup x=some .free)->(X.env.kindOf x=some .cell∨X.env.kindOf x=some .free)
 calm:X.calm=true
 room:A40 G.lv X.A
 pas:Passes (CX1 X.prog X.w) X E
 lam:lm=true->H42 X G sc
def glob(sc:ý)(x:Str):Bool:=sc.names.lookup x == some .globalImplicit&&!(x == ("__debug__":Str))&&!(x == ("__name__":Str))
def c80(x:Str):Bool:=!(x == ("__debug__":Str))&&!(x == ("__classdict__":Str))
def t82:Const->D->Bool
 |.int i,.int j=>i == j
 |.bool a,.bl b=>a == b
 |.str x,.str y=>x == y
 |.none,.non=>true
 |_,_=>false
def bfN:Bf->Str × Bool
 |.len=>("len",false) | .sorted=>("sorted",false) | .tuple=>("tuple",true) | .list=>("list",true) | .sum=>("sum",false) | .min=>("min",false) | .max=>("max",false) | .abs=>("abs",false)
 |.all=>("all",false) | .int=>("int",true) | .sset=>("sorted",false) | .B42=>("len",false)
def served:Bf->Bool
 |.len | .tuple | .list | .min | .max | .abs | .all | .int | .sorted | .sum=>true
 |_=>false
mutual
noncomputable def j50(N:List Str)(loc:Str->Bool):Pat->Ò->Bool
 |.v i=>λe=>match e with
  |.Name x _=>N[i]? == some x&&loc x
  |_=>false
 |.tup ps=>λe=>match e with
  |.Tuple es _ _=>n91 N loc ps es
  |_=>false
 |.nil=>λ_=>false
 |.cons _ _=>λ_=>false
noncomputable def n91(N:List Str)(loc:Str->Bool):Pat->List Ò->Bool
 |.nil=>λes=>es.isEmpty
 |.cons p r=>λes=>match es with
  |e::es=>noStar e&&j50 N loc p e&&n91 N loc r es
  |[]=>false
 |.v _=>λ_=>false
 |.tup _=>λ_=>false
end
def n60:Ò->Bool
 |.Tuple ..=>true
 |_=>false
def d10:Ò->List Str
 |.Name x _=>[x]
 |.Tuple es _ _=>names es
 |_=>[]
where names:List Ò->List Str
 |[]=>[]
 |.Name x _::r=>x::names r
 |.Tuple [.Name a _,.Name b _] _ _::r=>a::b::names r
 |_::r=>names r
def g31(csc sc:ý)(N own:List Str)(capt:List (Str × Nat)):Bool :=
 csc.kind == .function&&csc.names.all (λy=>y.2 != .cell)&&csc.names.all (λy=>y.2 != .local || csc.names.lookup y.1 == some .local) &&
  csc.names.all (λy=>y.2 != .free || (sc.names.lookup y.1 == some .cell || sc.names.lookup y.1 == some .free))&&capt.all (λp=>N[p.2]? == some p.1&&csc.names.lookup p.1 == some .free) &&
  own.all (λx=>csc.names.lookup x == some .local)&&decide (own++capt.map (·.1)).Nodup
def b70(N:List Str):List Nat->List (Str × Nat)
 |[]=>[]
 |i::r=>match N[i]? with
  |some x=>(x,i)::b70 N r
  |none=>b70 N r
def opt{α:Type}(o:Option α)(f:α->Bool):Bool:=match o with
 |some a=>f a
 |none=>false
÷a70{α:Type}{o:Option α}{f:α->Bool}(h:opt o f=true):∃ a,o=some a/\f a=true:=by
 cases o with
 |none=>cases h
 |some a=>§⟨a,rfl,h⟩
def P12:(e:List Ò)->Option {q:Str × Pos // e=[.Name q.1 q.2]}
 |[.Name n p]=>some ⟨(n,p),rfl⟩
 |_=>none
def H52:(e:List Ò)->Option {q:Const × Nat × Pos // e=[.Constant q.1 q.2.1 q.2.2]}
 |[.Constant c k p]=>some ⟨(c,k,p),rfl⟩
 |_=>none
def H62:(e:List Ò)->Option {q:Pos // e=[.Dict [] [] q]}
 |[.Dict [] [] p]=>some ⟨p,rfl⟩
 |_=>none
def H72:(e:List Ò)->Option {q:List Ò × Nat × Pos // e=[.Tuple q.1 q.2.1 q.2.2]}
 |[.Tuple l k p]=>some ⟨(l,k,p),rfl⟩
 |_=>none
def H82:(e:List Ò)->Option {q:List Ò × Pos // e=[.List q.1 q.2]}
 |[.List l p]=>some ⟨(l,p),rfl⟩
 |_=>none
def H92:(e:List Ò)->Option {q:Ò × Ý8 × Ò × Pos // e=[.BinOp q.1 q.2.1 q.2.2.1 q.2.2.2]}
 |[.BinOp l o r p]=>some ⟨(l,o,r,p),rfl⟩
 |_=>none
def I02:(e:List Ò)->Option {q:Ò × CmpOp × Ò × Pos // e=[.Compare q.1 [q.2.1] [q.2.2.1] q.2.2.2]}
 |[.Compare l [o] [r] p]=>some ⟨(l,o,r,p),rfl⟩
 |_=>none
def I12:(e:List Ò)->Option {q:Ò × Pos // e=[.UnaryOp .USub q.1 q.2]}
 |[.UnaryOp .USub x p]=>some ⟨(x,p),rfl⟩
 |_=>none
def I22:(e:List Ò)->Option {q:Ò × Pos // e=[.UnaryOp .Not q.1 q.2]}
 |[.UnaryOp .Not x p]=>some ⟨(x,p),rfl⟩
 |_=>none
def I32:(e:List Ò)->Option {q:Ò × Ò × List Ò × Pos // e=[.BoolOp .And (q.1::q.2.1::q.2.2.1) q.2.2.2]}
 |[.BoolOp .And (l::r::v) p]=>some ⟨(l,r,v,p),rfl⟩
 |_=>none
def P22:(e:List Ò)->Option {q:Ò × Ò × List Ò × Pos // e=[.BoolOp .Or (q.1::q.2.1::q.2.2.1) q.2.2.2]}
 |[.BoolOp .Or (l::r::v) p]=>some ⟨(l,r,v,p),rfl⟩
 |_=>none
def I42:(e:List Ò)->Option {q:Ò × Ò × Ò × Pos // e=[.IfExp q.1 q.2.1 q.2.2.1 q.2.2.2]}
 |[.IfExp t x y p]=>some ⟨(t,x,y,p),rfl⟩
 |_=>none
def V12:(e:List Ò)->Option {q:Ò × CmpOp × CmpOp × Ò × Ò × Pos // e=[.Compare q.1 [q.2.1,q.2.2.1] [q.2.2.2.1,q.2.2.2.2.1] q.2.2.2.2.2]}
 |[.Compare l [o,o2] [r,s] p]=>some ⟨(l,o,o2,r,s,p),rfl⟩
 |_=>none
def P32:(e:List Ò)->Option {q:Str × Pos × Ò × List Ò × Pos // e=[.Call (.Name q.1 q.2.1) (q.2.2.1::q.2.2.2.1) [] q.2.2.2.2]}
 |[.Call (.Name n q1) (x::l) [] p]=>some ⟨(n,q1,x,l,p),rfl⟩
 |_=>none
def V22:(e:List Ò)->Option {q:Str × Pos × Str × Pos × Ò × Pos × Pos // e=[.Call (.Name q.1 q.2.1) [.Call (.Name q.2.2.1 q.2.2.2.1) [q.2.2.2.2.1] [] q.2.2.2.2.2.1] [] q.2.2.2.2.2.2]}
 |[.Call (.Name n p1) [.Call (.Name m p2) [x] [] p3] [] p4]=>some ⟨(n,p1,m,p2,x,p3,p4),rfl⟩
 |_=>none
def V32:Bf->Bool
 |.sset=>true
 |_=>false
def I52:(e:List Ò)->Option {q:Str × Pos × Ò × Ò × Pos // e=[.Call (.Name q.1 q.2.1) [q.2.2.1,q.2.2.2.1] [] q.2.2.2.2]}
 |[.Call (.Name n q1) [x,ty] [] p]=>some ⟨(n,q1,x,ty,p),rfl⟩
 |_=>none
def V42:(e:List Ò)->Option {q:Ò × Ò × Pos // e=[.Subscript q.1 q.2.1 q.2.2]}
 |[.Subscript v x p]=>some ⟨(v,x,p),rfl⟩
 |_=>none
def V52:(e:List Ò)->Option {q:Ò × Option Ò × Option Ò × Pos × Pos // e=[.Subscript q.1 (.Slice q.2.1 q.2.2.1 none q.2.2.2.1) q.2.2.2.2]}
 |[.Subscript v (.Slice l h none q1) p]=>some ⟨(v,l,h,q1,p),rfl⟩
 |_=>none
def I62:(e:List Ò)->Option {q:Ò × Nat × Pos × Pos × Pos × Pos // e=[.Subscript q.1 (.Slice none none (some (.UnaryOp .USub (.Constant (.int 1) q.2.1 q.2.2.1) q.2.2.2.1)) q.2.2.2.2.1) q.2.2.2.2.2]}
 |[.Subscript v (.Slice none none (some (.UnaryOp .USub (.Constant (.int 1) k q1) q2)) q3) p]=>some ⟨(v,k,q1,q2,q3,p),rfl⟩
 |_=>none
def t92:(e:List Ò)->Option {q:Ò × Ò × Ò × List Ò × ý × Pos // e=[.ListComp q.1 [⟨q.2.1,q.2.2.1,q.2.2.2.1,0⟩] q.2.2.2.2.1 q.2.2.2.2.2]}
 |[.ListComp elt [⟨tg,Ä0,ifs,0⟩] csc p]=>some ⟨(elt,tg,Ä0,ifs,csc,p),rfl⟩
 |_=>none
def l12:(e:Ò)->Option {q:Str × Pos × Ò × Pos // e=.Call (.Name q.1 q.2.1) [q.2.2.1] [] q.2.2.2}
 |.Call (.Name n q1) [a] [] p=>some ⟨(n,q1,a,p),rfl⟩
 |_=>none
def l22:(e:Ò)->Option {q:Str × Pos × Ò × Ò × Pos // e=.Call (.Name q.1 q.2.1) [q.2.2.1,q.2.2.2.1] [] q.2.2.2.2}
 |.Call (.Name n q1) [a,b] [] p=>some ⟨(n,q1,a,b,p),rfl⟩
 |_=>none
def shN:(e:Ò)->Option {q:Str × Pos // e=.Name q.1 q.2}
 |.Name n p=>some ⟨(n,p),rfl⟩
 |_=>none
def P42:(e:Ò)->Option {q:Str × Pos × Str × Pos × Nat × Pos // e=.Tuple [.Name q.1 q.2.1,.Name q.2.2.1 q.2.2.2.1] q.2.2.2.2.1 q.2.2.2.2.2}
 |.Tuple [.Name a q1,.Name b q2] k p=>some ⟨(a,q1,b,q2,k,p),rfl⟩
 |_=>none
def V62:(e:List Ò)->Option {q:Str × Pos × Int × Nat × Pos × Pos // e=[.Subscript (.Name q.1 q.2.1) (.Constant (.int q.2.2.1) q.2.2.2.1 q.2.2.2.2.1) q.2.2.2.2.2]}
 |[.Subscript (.Name n p) (.Constant (.int j) c q1) r]=>some ⟨(n,p,j,c,q1,r),rfl⟩
 |_=>none
def V72:(e:List Ò)->Option {q:Str × Pos × Str × Pos × List Ò × Pos × Pos // e=[.Call (.Name q.1 q.2.1) [.Call (.Name q.2.2.1 q.2.2.2.1) q.2.2.2.2.1 [] q.2.2.2.2.2.1] [] q.2.2.2.2.2.2]}
 |[.Call (.Name n p) [.Call (.Name m q1) l [] r] [] t]=>some ⟨(n,p,m,q1,l,r,t),rfl⟩
 |_=>none
def I72:(e:List Ò)->Option {q:Str × Pos × Ò × ý × Pos × Pos // e=[.Call (.Name q.1 q.2.1) [.Lambda ⟨[],[],none,[],[],none,[]⟩ q.2.2.1 q.2.2.2.1 q.2.2.2.2.1] [] q.2.2.2.2.2]}
 |[.Call (.Name n p) [.Lambda ⟨[],[],none,[],[],none,[]⟩ b c l] [] t]=>some ⟨(n,p,b,c,l,t),rfl⟩
 |_=>none
def tyE(sc:ý):Ty->Ò->Bool
 |.seq=>λe=>opt (P42 e) λq=>q.1.1 == ("tuple":Str)&&q.1.2.2.1 == ("list":Str)&&glob sc "tuple"&&glob sc "list"
 |t=>λe=>opt (shN e) λq=>q.1.1 == Á0 (tyN t)&&glob sc (Á0 (tyN t))
def u02:D->Bool
 |.dct=>true
 |_=>false
def ifB:Ò->Bool
 |.IfExp ..=>true
 |_=>false
def f12(lsc sc:ý)(cs:List (Str × Nat)):Bool :=
 lsc.kind == .function&&!lsc.isCoroutine&&!lsc.isGenerator&&lsc.names.all (λy=>y.2 != .cell)&&lsc.names.all (λy=>y.2 != .free || sc.names.lookup y.1 == some .cell)&&cs.all (λp=>lsc.names.lookup p.1 == some .free)&&decide (cs.map (·.1)).Nodup
def mt:Bool->List (Str × List Str)->List (Str × Int)->Ex->ý->List Str->List Ò->Bool
 |lm,fns,nums,.nil=>λ_ _ es=>es.isEmpty
 |lm,fns,nums,.cons a r=>λsc N es=>match es with
  |e::es=>noStar e&&!isL a&&isL r&&mt lm fns nums a sc N [e]&&mt lm fns nums r sc N es
  |[]=>false
 |lm,fns,nums,.var i=>λ_ N es=>opt (P12 es) λq=>N[i]? == some q.1.1&&c80 q.1.1
 |lm,fns,nums,.con d=>λ_ _ es=>(opt (H52 es) λq=>t82 q.1.1 d) || opt (H62 es) λ_=>u02 d
 |lm,fns,nums,.gint g i=>λsc _ es=>opt (P12 es) λq=>q.1.1 == g&&glob sc q.1.1&&nums.contains (g,i)
 |lm,fns,nums,.tup as=>λsc N es=>opt (H72 es) λq=>isL as&&mt lm fns nums as sc N q.1.1
 |lm,fns,nums,.lst as=>λsc N es=>opt (H82 es) λq=>isL as&&mt lm fns nums as sc N q.1.1
 |lm,fns,nums,.bin o a b=>λsc N es=>opt (H92 es) λq=>q.1.2.1 == opB o&&!isL a&&!isL b&&mt lm fns nums a sc N [q.1.1]&&mt lm fns nums b sc N [q.1.2.2.1]
 |lm,fns,nums,.cmp o a b=>λsc N es=>opt (I02 es) λq=>q.1.2.1 == opC o&&A20 q.1.2.2.1&&!isL a&&!isL b&&mt lm fns nums a sc N [q.1.1]&&mt lm fns nums b sc N [q.1.2.2.1]
 |lm,fns,nums,.neg a=>λsc N es=>opt (I12 es) λq=>!isL a&&mt lm fns nums a sc N [q.1.1]
 |lm,fns,nums,.not a=>λsc N es=>opt (I22 es) λq=>!isL a&&!ifB q.1.1&&mt lm fns nums a sc N [q.1.1]
 |lm,fns,nums,.and a b=>λsc N es=>opt (I32 es) λq=>!isL a&&!isL b&&!ifB q.1.1&&mt lm fns nums a sc N [q.1.1]&&(if q.1.2.2.1.isEmpty then !ifB q.1.2.1&&mt lm fns nums b sc N [q.1.2.1] else mt lm fns nums b sc N [.BoolOp .And (q.1.2.1::q.1.2.2.1) q.1.2.2.2])
 |lm,fns,nums,.or a b=>λsc N es=>opt (P22 es) λq=>!isL a&&!isL b&&!ifB q.1.1&&mt lm fns nums a sc N [q.1.1]&&(if q.1.2.2.1.isEmpty then !ifB q.1.2.1&&mt lm fns nums b sc N [q.1.2.1] else mt lm fns nums b sc N [.BoolOp .Or (q.1.2.1::q.1.2.2.1) q.1.2.2.2])
 |lm,fns,nums,.orT a b=>λsc N es=>opt (P22 es) λq=>!isL a&&!isL b&&q.1.2.2.1.isEmpty&&mt lm fns nums a sc N [q.1.1]&&mt lm fns nums b sc N [q.1.2.1]
 |lm,fns,nums,.ite c a b=>λsc N es=>opt (I42 es) λq=>!isL c&&!isL a&&!isL b&&!ifB q.1.1&&mt lm fns nums c sc N [q.1.1]&&mt lm fns nums a sc N [q.1.2.1]&&mt lm fns nums b sc N [q.1.2.2.1]
 |lm,fns,nums,.ch o o' a b c=>λsc N es=>opt (V12 es) λq=>q.1.2.1 == opC o&&q.1.2.2.1 == opC o'&&A20 q.1.2.2.2.2.1&&!isL a&&!isL b&&!isL c&&mt lm fns nums a sc N [q.1.1]&&mt lm fns nums b sc N [q.1.2.2.2.1]&&mt lm fns nums c sc N [q.1.2.2.2.2.1]
 |lm,fns,nums,.bf f as=>λsc N es=>(opt (P32 es) λq=>served f&&q.1.1 == (bfN f).1&&glob sc q.1.1&&isL as&&mt lm fns nums as sc N (q.1.2.2.1::q.1.2.2.2.1)) || (V32 f&&opt (V22 es) λq=>q.1.1 == ("sorted":Str)&&q.1.2.2.1 == ("set":Str)&&glob sc "sorted"&&glob sc "set"&&isL as&&mt lm fns nums as sc N [q.1.2.2.2.2.1])
 |lm,fns,nums,.isi t a=>λsc N es=>opt (I52 es) λq=>q.1.1 == ("isinstance":Str)&&glob sc q.1.1&&noStar q.1.2.2.1&&!isL a&&mt lm fns nums a sc N [q.1.2.2.1]&&tyE sc t q.1.2.2.2.1
 |lm,fns,nums,.idx a i=>λsc N es=>opt (V42 es) λq=>D90 q.1.2.1&&!isL a&&!isL i&&mt lm fns nums a sc N [q.1.1]&&mt lm fns nums i sc N [q.1.2.1]
 |lm,fns,nums,.sl a lo hi=>λsc N es=>opt (V52 es) λq=>!isL a&&isL lo&&isL hi&&mt lm fns nums a sc N [q.1.1]&&mt lm fns nums lo sc N q.1.2.1.toList&&mt lm fns nums hi sc N q.1.2.2.1.toList
 |lm,fns,nums,.rev a=>λsc N es=>opt (I62 es) λq=>!isL a&&mt lm fns nums a sc N [q.1.1]
 |lm,fns,nums,.call f as=>λsc N es=>opt (P32 es) λq=>(opt fns[f]? λp=>p.1 == q.1.1&&p.2.length == q.1.2.2.2.1.length + 1)&&glob sc q.1.1&&isL as&&mt lm fns nums as sc N (q.1.2.2.1::q.1.2.2.2.1)
 |lm,fns,nums,.comp own capt p it src cond el=>λsc N es=>opt (t92 es) λq =>
   (d10 q.1.2.1).length == own&&(b70 N capt).length == capt.length&&g31 q.1.2.2.2.2.1 sc N (d10 q.1.2.1) (b70 N capt)&&j50 (d10 q.1.2.1++(b70 N capt).map (·.1)) (λx=>(d10 q.1.2.1).contains x) p q.1.2.1&&isL src&&!isL el&&isL cond&&q.1.2.2.2.1.length<=1&&noStar q.1.1&&A20 q.1.2.2.1 &&
    q.1.2.2.2.1.all (λc=>!ifB c) &&
    (match it with
    |.seq=>mt lm fns nums src sc N [q.1.2.2.1]
    |.rng1=>opt (l12 q.1.2.2.1) λr=>r.1.1 == ("range":Str)&&glob sc r.1.1&&mt lm fns nums src sc N [r.1.2.2.1]
    |.rng2=>opt (l22 q.1.2.2.1) λr=>r.1.1 == ("range":Str)&&glob sc r.1.1&&mt lm fns nums src sc N [r.1.2.2.1,r.1.2.2.2.1]
    |.zip=>opt (l22 q.1.2.2.1) λr=>r.1.1 == ("zip":Str)&&glob sc r.1.1&&n60 q.1.2.1&&mt lm fns nums src sc N [r.1.2.2.1,r.1.2.2.2.1]
    |.enum=>opt (l12 q.1.2.2.1) λr=>r.1.1 == ("enumerate":Str)&&glob sc r.1.1&&n60 q.1.2.1&&mt lm fns nums src sc N [r.1.2.2.1])&&mt false fns nums cond q.1.2.2.2.2.1 (d10 q.1.2.1++(b70 N capt).map (·.1)) q.1.2.2.2.1&&mt false fns nums el q.1.2.2.2.2.1 (d10 q.1.2.1++(b70 N capt).map (·.1)) [q.1.1]
 |lm,fns,nums,.lrng b as=>λsc N es=>opt (V72 es) λq=>q.1.1 == lrN b&&q.1.2.2.1 == ("range":Str)&&glob sc (lrN b)&&glob sc "range"&&isL as&&decide (1<=q.1.2.2.2.2.1.length/\q.1.2.2.2.2.1.length<=2)&&mt lm fns nums as sc N q.1.2.2.2.2.1
 |lm,fns,nums,.zget i k=>λ_ N es=>opt (V62 es) λq=>N[i]? == some q.1.1&&c80 q.1.1&&q.1.2.2.1 == (k:Int)
 |lm,fns,nums,.refd capt a=>λsc N es=>opt (I72 es) λq=>lm&&q.1.1 == ("_law_refused":Str)&&glob sc "_law_refused"&&(b70 N capt).length == capt.length&&f12 q.1.2.2.2.1 sc (b70 N capt)&&!isL a&&mt false fns nums a q.1.2.2.2.1 ((b70 N capt).map (·.1)) [q.1.2.2.1]
÷d20{sc:ý}{x:Str}(h:glob sc x=true):sc.names.lookup x=some .globalImplicit/\(x == ("__debug__":Str))=false/\x≠"__name__":=by
 unfold glob at h
 simp only[Á,À1,beq_iff_eq] at h
 ¤⟨h.1.1,h.1.2,λe=>?_⟩
 subst e
 simp at h
section
variable {lm:Bool}{X:Cx}{G:Gs}{E:XK}{N:List Str}{sc:ý}
÷u12{K:Â}{zA:Option Ç}{H0 H:Hp}{s:S}{v:V}(h:RvP K zA H s v):RvS K zA H0 H (plS s) v:=by cases s <;> §h
÷f22(h:(!ifB e)=true):∀ t a b p,e≠.IfExp t a b p:=by
 intro t a b p he
 subst he
 cases h
÷a90(hL:isL x=false)(h:Good X G E x [e]):b00 X G E x e:=by
 cases x with
 |nil=>cases hL
 |cons _ _=>cases hL
 |_ =>
  ¶⟨e',h1,h2⟩:=(show ∃ e',[e]=[e']/\b00 X G E _ e' from h)
  cases h1
  §h2
÷c00(hL:isL x=false)(h:b00 X G E x e):Good X G E x [e]:=by
 cases x with
 |nil=>cases hL
 |cons _ _=>cases hL
 |_=>§⟨e,rfl,h⟩
÷f50(po:a61 X.K G zA E H Q r):∀ c z1,r=.er c z1->EPost G zA E c z1 H:=λc z1 e=>by subst e;§po
÷T10(po:O01 G zA E H Q r):∀ c z1,r=.er c z1->EPost G zA E c z1 H:=λc z1 e=>by subst e;§po
÷I82(x:XI lm X G E N sc){i:Nat}{n:Str}{pos:Pos}(h1:N[i]?=some n)(h2:c80 n=true):b00 X G E (.var i) (.Name n pos):=by
 unfold c80 at h2
 simp only[Á,À1] at h2
 ¤b10 (PE.imp (o50 (i:=i) (by rw[x.hN];§h1) (x.vis n (è h1)) h2.1 h2.2) λσ H Q q=>?_) rfl
 ¶⟨zA,ρ,z,r,rel,st,e,po⟩:=q
 have e':(match ρ[i]? with | some (some s)=>M.ret [plS s] | _=>M.no) z=some r:=e
 cases hs:ρ[i]? with
 |none=>rw[hs] at e';cases e'
 |some o =>
  cases o with
  |none=>rw[hs] at e';cases e'
  |some s =>
   rw[hs] at e'
   cases e'
   ¶⟨v,hv,rv⟩:=rel i s hs
   ¶⟨s',e',po⟩:=po
   cases e'
   §⟨v,hv,po v H Ext.refl st (u12 rv)⟩
÷I92{c:Const}{d:D}{j:Nat}{pos:Pos}(h:t82 c d=true):b00 X G E (.con d) (.Constant c j pos):=by
 ¤b10 ?_ rfl
 have fin:∀ {v:V},(∀ H,Hd X.K H d v)->∀ σ H Q,tI X.K G E (.con d) σ H Q->tC v σ H Q:=λ{v} hd σ H Q q=>by
  ¶⟨zA,ρ,z,r,rel,st,e,po⟩:=q
  cases e
  ¶⟨s',e',po⟩:=po
  cases e'
  §po v H Ext.refl st (H01 (hd _))
 cases c with
 |int i=>cases d <;> first | (simp only[t82,beq_iff_eq] at h;subst h;§PE.imp P30 (fin λH=>Hd.int)) | (cases h)
 |bool b=>cases d <;> first | (simp only[t82,beq_iff_eq] at h;subst h;§PE.imp C72 (fin λH=>Hd.bl)) | (cases h)
 |str y=>cases d <;> first | (simp only[t82,beq_iff_eq] at h;subst h;§PE.imp S41 (fin λH=>Hd.str)) | (cases h)
 |none=>cases d <;> first | §PE.imp q61 (fin λH=>Hd.non) | (cases h)
 |_=>cases h
÷J02{pos:Pos}:b00 X G E (.con .dct) (.Dict [] [] pos):=by
 ¤b10 (PE.imp a92 λσ H Q q=>?_) rfl
 ¶⟨zA,ρ,z,r,rel,st,e,po⟩:=q
 cases e
 ¶⟨s',e',po⟩:=po
 cases e'
 intro p hp
 ¤po _ _ (Ext.of (a30.new _ hp)) (st.same (a30.new _ hp)) (H01 ?_)
 unfold Hd
 §⟨p,[],rfl,d50 b20 (st.w71 hp)⟩
÷u22(x:XI lm X G E N sc){g:Str}{i:Int}{pos:Pos}(h1:glob sc g=true)(h2:(g,i)∈G.nums):b00 X G E (.gint g i) (.Name g pos):=by
 ¶⟨k1,k2,_⟩:=d20 h1
 ¶⟨t,ht⟩:=x.num _ h2
 ¤b10 (PE.imp (f60 (v:=.int i) (x.glb g k1) ht ⟨t,rfl⟩ k2) λσ H Q q=>?_) rfl
 ¶⟨zA,ρ,z,r,rel,st,e,po⟩:=q
 cases e
 ¶⟨s',e',po⟩:=po
 cases e'
 §po _ H Ext.refl st i60
÷G30{K:Â}{zA:Option Ç}{H0 H:Hp}{l:List S}{vs:List V}{ds:List D}(h:Å9 (RvS K zA H0 H) l vs)(e:plA l=some ds):HdA K (hz zA H) ds vs:=RvA.ds (Å9.k72 h λ_ _ q=>q.pl) e
÷J12{as:Ex}{l:List Ò}{k:Nat}{pos:Pos}(hL:isL as=true)(g:Good X G E as l):b00 X G E (.tup as) (.Tuple l k pos):=by
 ¤b10 (PE.imp (T01 (g.args hL).1) λσ H Q q=>?_) rfl
 ¶⟨zA,ρ,z,r,rel,st,e,po⟩:=q
 ¤a71 rel st e (f50 po) λl z1 e1 vs H1 x1 st1 rvs=>?_
 ¶⟨ds,hd,e2⟩:=M.a10 e1
 split at e2
 ·rename_i hm
  cases e2
  ¶⟨s',e',po⟩:=po
  cases e'
  have h:=G30 rvs hd
  §⟨f00 (by rw[h.length];§hm),λp hp=>po _ _ (x1.trans (Ext.of (a30.new _ hp))) (st1.same (a30.new _ hp)) (H01 (Hd.tup ((st1.same (a30.new _ hp)).d02 (SqT.of b20)) (h.same (k30 (a30.new _ hp)))))⟩
 ·cases e2
÷J22{as:Ex}{l:List Ò}{pos:Pos}(hL:isL as=true)(g:Good X G E as l):b00 X G E (.lst as) (.List l pos):=by
 ¤b10 (PE.imp (T11 (g.args hL).1) λσ H Q q=>?_) rfl
 ¶⟨zA,ρ,z,r,rel,st,e,po⟩:=q
 ¤a71 rel st e (f50 po) λl z1 e1 vs H1 x1 st1 rvs=>?_
 ¶⟨ds,hd,e2⟩:=M.a10 e1
 split at e2
 ·rename_i hm
  cases e2
  ¶⟨s',e',po⟩:=po
  cases e'
  have h:=G30 rvs hd
  §⟨f00 (by rw[h.length];§hm),λp hp=>po _ _ (x1.trans (Ext.of (a30.new _ hp))) (st1.same (a30.new _ hp)) ((n50 st1 h hp).from x1)⟩
 ·cases e2
÷g41{α:Type}{a b:Ex}{k:D->D->M α}{zA:Option Ç}{ρ:Env}{z:Z}{r:R α}{σ:L2.St}{H:Hp}{Q:V->V->Hp->Prop}(rel:y50 X.K zA H ρ σ)(st:d70 zA z H)
  (h:M.bind (ev G.F a ρ) (λx=>M.bind (M.of (pl x)) λx=>M.bind (ev G.F b ρ) λy=>M.bind (M.of (pl y)) λy=>k x y) z=some r) (her:∀ c z1,r=.er c z1->EPost G zA E c z1 H)
  (hk:∀ dx dy z2 v w H2,k dx dy z2=some r->Ext zA H H2->d70 zA z2 H2->Hd X.K (hz zA H2) dx v->Hd X.K (hz zA H2) dy w->Q v w H2) :
  tI X.K G E a σ H λv H1=>tI X.K G E b σ H1 λw H2=>Q v w H2:=by
 ¤j40 rel st h her λl z1 e1=>?_
 ¶⟨dx,p1,e2⟩:=M.a10 e1
 ¶⟨s1,rfl,q1⟩:=e90 p1
 ¤⟨s1,rfl,λv H1 x1 st1 rv=>?_⟩
 ¤j40 (rel.mono x1) st1 e2 (λc z2 q=>(her c z2 q).mono x1) λm z2 e3=>?_
 ¶⟨dy,p2,e4⟩:=M.a10 e3
 ¶⟨s2,rfl,q2⟩:=e90 p2
 §⟨s2,rfl,λw H2 x2 st2 rw'=>hk dx dy z2 v w H2 e4 (x1.trans x2) st2 ((rv.pl.mono x2).d_ q1) (rw'.pl.d_ q2)⟩
÷e20{zA:Option Ç}{H H2:Hp}{z2:Z}{s:S}{Q:VK}(po:a61 X.K G zA E H Q (.ok [s] z2))(x:Ext zA H H2)(st:d70 zA z2 H2):∀ v H',a30 H2 H'->RvS X.K zA H2 H' s v->Q v H':=λv H' sm rv=>by
 ¶⟨s',e',po⟩:=po
 cases e'
 §po v H' (x.trans (Ext.of sm)) (st.same sm) (rv.from x)
÷J32{o:Bi}{a b:Ex}{l r:Ò}{pos:Pos}(ga:b00 X G E a l)(gb:b00 X G E b r):b00 X G E (.bin o a b) (.BinOp l (opB o) r pos):=by
 ¤b10 (PE.imp (H71 (opD o) ga.pe gb.pe) λσ H Q q=>?_) rfl
 ¶⟨zA,ρ,z,rr,rel,st,e,po⟩:=q
 ¤g41 rel st e (f50 po) λdx dy z2 v w H2 e2 x2 st2 h1 h2=>?_
 ¶⟨s,hs,e3⟩:=M.a10 e2
 cases e3
 §⟨zA,z2,dx,dy,s,st2,h1,h2,hs,e20 po x2 st2⟩
÷U91(po:O01 G zA E H Q r):a61 X.K G zA E H (λx H'=>∃ k,x=.bl k/\Q k H') r:=by
 cases r with
 |er c z1=>§po
 |ok l z1 =>
  ¶⟨b,rfl,po⟩:=po
  §⟨_,rfl,λv H' ex st' rv=>⟨b,Hd.bl_ (show Hd X.K (hz zA H') (.bl b) v from rv),po H' ex st'⟩⟩
÷J42(x:XI lm X G E N sc){o:Cm}{a b:Ex}{l r:Ò}{pos:Pos}(hs:A20 r=true)(ga:b00 X G E a l)(gb:b00 X G E b r):b00 X G E (.cmp o a b) (.Compare l [opC o] [r] pos):=by
 have key:∀ σ H Q,tI X.K G E (.cmp o a b) σ H Q->tOp (rD2 X.K λa b=>(A70 o a b).map λc=>.d (.bl c)) (tI X.K G E a) (tI X.K G E b) σ H Q:=λσ H Q q=>by
  ¶⟨zA,ρ,z,rr,rel,st,e,po⟩:=q
  ¤g41 rel st e (f50 po) λdx dy z2 v w H2 e2 x2 st2 h1 h2=>?_
  ¶⟨c,hc,e3⟩:=M.a10 e2
  cases e3
  §⟨zA,z2,dx,dy,_,st2,h1,h2,by show Î7 _ (A70 o dx dy)=_;rw[hc];rfl,e20 po x2 st2⟩
 ¤⟨PE.imp (Y21 (l02 x.room.units o) ga.pe gb.pe (x51 hs _)) key,λ_=>PT.imp (Y31 (l02 x.room.units o) ga.pe gb.pe (x51 hs _)) λσ H Q q=>?_,λop vs p h=>by cases h⟩
 ¶⟨zA,ρ,z,rr,rel,st,e,po⟩:=q
 §key σ H _ ⟨zA,ρ,z,rr,rel,st,e,U91 po⟩
÷J52{a:Ex}{l:Ò}{pos:Pos}(ga:b00 X G E a l):b00 X G E (.neg a) (.UnaryOp .USub l pos):=by
 ¤b10 (PE.imp (n72 S91 ga.pe) λσ H Q q=>?_) rfl
 ¶⟨zA,ρ,z,rr,rel,st,e,po⟩:=q
 ¤j40 rel st e (f50 po) λm z1 e1=>?_
 ¶⟨i,p1,e2⟩:=M.a10 e1
 ¶⟨d,p2,p3⟩:=Î.mp p1
 ¶⟨s1,rfl,q1⟩:=e90 p2
 cases e2
 ¤⟨s1,rfl,λv H1 x1 st1 rv=>?_⟩
 have hd:=rv.pl.d_ q1
 cases d with
 |int j =>
  cases p3
  §⟨i,hd.h90,e20 po x1 st1 _ _ (a30.refl H1) i60⟩
 |_=>cases p3
÷J62{a:Ex}{l:Ò}{pos:Pos}(ga:b00 X G E a l)(hn:∀ t x y p,l≠.IfExp t x y p):b00 X G E (.not a) (.UnaryOp .Not l pos):=by
 ¤⟨PE.imp (m72 ga.pe) λσ H Q q=>?_,λ_=>PT.imp (S51 (ga.pt hn)) λσ H Q q=>?_,λop vs p h=>by cases h⟩
 ·¶⟨zA,ρ,z,rr,rel,st,e,po⟩:=q
  ¤j40 rel st e (f50 po) λm z1 e1=>?_
  ¶⟨b,p1,e2⟩:=M.a10 e1
  ¶⟨d,p2,p3⟩:=Î.mp p1
  ¶⟨s1,rfl,q1⟩:=e90 p2
  cases e2
  ¤⟨s1,rfl,λv H1 x1 st1 rv=>?_⟩
  have hd:=rv.pl.d_ q1
  cases d with
  |bl c =>
   cases p3
   §⟨b,hd.bl_,e20 po x1 st1 _ _ (a30.refl H1) h50⟩
  |_=>cases p3
 ·¶⟨zA,ρ,z,rr,rel,st,e,po⟩:=q
  ¤T00 rel st e (T10 po) λb z1 e1 H1 x1 st1=>?_
  cases e1
  ¶⟨b',e',po⟩:=po
  cases e'
  §po H1 x1 st1
end
end Q
namespace Q
open PySem L2 PySem.Spec PyProof.Rows
variable [TB:Tb]
section
variable {lm:Bool}{X:Cx}{G:Gs}{E:XK}{N:List Str}{sc:ý}
÷M00(rel:y50 X.K zA H ρ σ)(st:d70 zA z H)
  (h:M.bind (ev G.F a ρ) (λx=>M.bind (M.of ((pl x).bind asB)) k) z=some r) (her:∀ c z1,r=.er c z1->EPost G zA E c z1 H)
  (hok:∀ b z1,k b z1=some r->∀ H1,Ext zA H H1->d70 zA z1 H1->Q' (.bl b) H1):tI X.K G E a σ H Q':=by
 ¤j40 rel st h her λm z1 e1=>?_
 ¶⟨b,p1,e2⟩:=M.a10 e1
 ¶⟨d,p2,p3⟩:=Î.mp p1
 ¶⟨s1,rfl,q1⟩:=e90 p2
 ¤⟨s1,rfl,λv H1 x1 st1 rv=>?_⟩
 have hd:=rv.pl.d_ q1
 cases d with
 |bl c =>
  cases p3
  rw[hd.bl_]
  §hok b z1 e2 H1 x1 st1
 |_=>cases p3
÷J72(ga:b00 X G E a l)(hl:∀ t x y p,l≠.IfExp t x y p)
  (gb:b00 X G E b (.BoolOp .And (r::vs) p)):b00 X G E (.and a b) (.BoolOp .And (l::r::vs) p):=by
 have pw:PW X (.BoolOp .And (l::r::vs) p) (tT X.K G E (.and a b)):=by
  ¤PW.imp (m42 (ga.pt hl) (gb.pw _ _ _ rfl)) λσ H Q q=>?_
  ¶⟨zA,ρ,z,rr,rel,st,e,po⟩:=q
  ¤T00 rel st e (T10 po) λc z1 e1 H1 x1 st1=>?_
  cases c with
  |true =>
   rw[if_pos rfl]
   rw[if_pos rfl] at e1
   ¤T00 (rel.mono x1) st1 e1 (λc z2 q=>((T10 po) c z2 q).mono x1) λc z2 e2 H2 x2 st2=>?_
   cases e2
   ¶⟨b',e',po⟩:=po
   cases e'
   §po H2 (x1.trans x2) st2
  |false =>
   rw[if_neg Ð]
   rw[if_neg Ð] at e1
   cases e1
   ¶⟨b',e',po⟩:=po
   cases e'
   §po H1 x1 st1
 ¤⟨PE.imp (m62 ga.pe gb.pe) λσ H Q q=>?_,λ_=>pw.pt,λop vs p h=>pw⟩
 ¶⟨zA,ρ,z,rr,rel,st,e,po⟩:=q
 ¤M00 rel st e (f50 po) λc z1 e1 H1 x1 st1=>⟨c,rfl,?_⟩
 cases c with
 |true =>
  rw[if_pos rfl]
  rw[if_pos rfl] at e1
  ¤M00 (rel.mono x1) st1 e1 (λc z2 q=>((f50 po) c z2 q).mono x1) λc z2 e2 H2 x2 st2=>?_
  cases e2
  §e20 po (x1.trans x2) st2 _ _ (a30.refl H2) h50
 |false =>
  rw[if_neg Ð]
  rw[if_neg Ð] at e1
  cases e1
  §e20 po x1 st1 _ _ (a30.refl H1) h50
÷V82(ga:b00 X G E a l)(hl:∀ t x y p,l≠.IfExp t x y p)
  (gb:b00 X G E b (.BoolOp .Or (r::vs) p)):b00 X G E (.or a b) (.BoolOp .Or (l::r::vs) p):=by
 have pw:PW X (.BoolOp .Or (l::r::vs) p) (tT X.K G E (.or a b)):=by
  ¤PW.imp (C82 (ga.pt hl) (gb.pw _ _ _ rfl)) λσ H Q q=>?_
  ¶⟨zA,ρ,z,rr,rel,st,e,po⟩:=q
  ¤T00 rel st e (T10 po) λc z1 e1 H1 x1 st1=>?_
  cases c with
  |false =>
   rw[if_neg Ð]
   rw[if_neg Ð] at e1
   ¤T00 (rel.mono x1) st1 e1 (λc z2 q=>((T10 po) c z2 q).mono x1) λc z2 e2 H2 x2 st2=>?_
   cases e2
   ¶⟨b',e',po⟩:=po
   cases e'
   §po H2 (x1.trans x2) st2
  |true =>
   rw[if_pos rfl]
   rw[if_pos rfl] at e1
   cases e1
   ¶⟨b',e',po⟩:=po
   cases e'
   §po H1 x1 st1
 ¤⟨PE.imp (D12 ga.pe gb.pe) λσ H Q q=>?_,λ_=>pw.pt,λop vs p h=>pw⟩
 ¶⟨zA,ρ,z,rr,rel,st,e,po⟩:=q
 ¤M00 rel st e (f50 po) λc z1 e1 H1 x1 st1=>⟨c,rfl,?_⟩
 cases c with
 |false =>
  rw[if_neg Ð]
  rw[if_neg Ð] at e1
  ¤M00 (rel.mono x1) st1 e1 (λc z2 q=>((f50 po) c z2 q).mono x1) λc z2 e2 H2 x2 st2=>?_
  cases e2
  §e20 po (x1.trans x2) st2 _ _ (a30.refl H2) h50
 |true =>
  rw[if_pos rfl]
  rw[if_pos rfl] at e1
  cases e1
  §e20 po x1 st1 _ _ (a30.refl H1) h50
÷u32(gb:b00 X G E b r)(hr:∀ t x y p,r≠.IfExp t x y p):b00 X G E b (.BoolOp op [r] p):=by
 have pw:PW X (.BoolOp op [r] p) (tT X.K G E b):=by
  cases op with
  |And=>§X71 (gb.pt hr)
  |Or=>§m32 (gb.pt hr)
 §⟨m52 gb.pe,λ_=>pw.pt,λ_ _ _ _=>pw⟩
÷a61.u42(po:a61 X.K G zA E H Q rr)(x1:Ext zA H H1):a61 X.K G zA E H1 Q rr:=by
 cases rr with
 |er c z1=>§EPost.mono po x1
 |ok l z2 =>
  ¶⟨s,e',po⟩:=po
  §⟨s,e',λv H' x' st' rv=>po v H' (x1.trans x') st' (rv.from x1)⟩
÷T20{α:Type}{m:M α}{z:Z}{r:R α}(h:M.calm m z=some r):m z=some r/\∃ a z1,r=.ok a z1:=by
 unfold M.calm at h
 split at h
 ·rename_i a z1 e
  cases h
  §⟨e,a,z1,rfl⟩
 ·cases h
÷u52{a b:Ò}{ta tb:TE}{pos:Pos}(ha:PE X a ta)(hb:PE X b tb):PE X (.BoolOp .Or [a,b] pos) (λσ H Q=>ta σ H λx H1=>∃ t xs,x=.ref t/\SqT X.K H1 t xs/\if xs.isEmpty=true then tb σ H1 Q else Q x H1):=by
 intro pins s σ H Q I h
 ¤BoolOp_or (thn (ha pins s σ H _ I h) λv s1 ⟨x,H1,I1,r1,q1⟩=>?_)
 ¶⟨t,xs,rfl,hq,q1⟩:=q1
 ¶⟨its,hv,ht,hl⟩:=I1.tuple hq
 have hlen:xs.length=its.length:=hv.length
 cases r1
 ¤truthy_tuple ht (by rw[Ó,← hlen];have:=Á3;omega) ?_
 cases xs with
 |nil =>
  cases its with
  |nil=>§BoolOp_one (hb pins _ σ H1 Q (I1.tok _) q1)
  |cons _ _=>cases hlen
 |cons y r =>
  cases its with
  |nil=>cases hlen
  |cons _ _=>§⟨.ref t,H1,I1.tok _,rfl,q1⟩
÷V01(h:(pl y).bind r22=some l):∃ s,y=[s]/\plD s=some (.tup l):=by
 ¶⟨d,p2,p3⟩:=Î.mp h
 ¶⟨s1,rfl,q1⟩:=e90 p2
 cases d with
 |tup l=>cases p3;§⟨s1,rfl,q1⟩
 |_=>cases p3
÷J82(ga:b00 X G E a l)(gb:b00 X G E b r):b00 X G E (.orT a b) (.BoolOp .Or [l,r] p):=by
 have no:∀ {zA:Option Ç}{ρ:Env}{z:Z}{rr:R (List S)}{H:Hp}{Q:Bool->Hp->Prop},ev G.F (.orT a b) ρ z=some rr->O01 G zA E H Q rr->False:=λe po=>by
  ¶⟨e,u,z1,rfl⟩:=T20 e
  ¶⟨c,rfl,_⟩:=po
  rcases M.bind_some e with ⟨m,z2,_,e2⟩ | ⟨c,z2,_,e2⟩
  ·¶⟨ds,_,e3⟩:=M.a10 e2
   split at e3
   ·rcases M.bind_some e3 with ⟨m,z2,_,e2⟩ | ⟨c,z2,_,e2⟩
    ·¶⟨ds,_,e3⟩:=M.a10 e2
     cases e3
    ·cases e2
   ·cases e3
  ·cases e2
 ¤⟨PE.imp (u52 ga.pe gb.pe) λσ H Q q=>?_,λ_ pins s σ H Q I ⟨_,_,_,_,_,_,e,po⟩=>(no e po).elim,λ_ _ _ _ wh pins s σ H Q I ⟨_,_,_,_,_,_,e,po⟩=>(no e po).elim⟩
 ¶⟨zA,ρ,z,rr,rel,st,e,po⟩:=q
 ¶⟨e,u,z1,rfl⟩:=T20 e
 ¤j40 rel st e (f50 po) λm z1 e1=>?_
 ¶⟨ds,p1,e2⟩:=M.a10 e1
 ¶⟨s1,rfl,q1⟩:=V01 p1
 ¤⟨s1,rfl,λv H1 x1 st1 rv=>?_⟩
 have hd:=rv.pl.d_ q1
 ¶⟨t,xs,rfl,h1,h2⟩:=hd.A10
 ¤⟨t,xs,rfl,(a20 zA H1).sqT h1,?_⟩
 cases ds with
 |nil =>
  cases h2.e80
  have po:=po.u42 x1
  ¤j40 (rel.mono x1) st1 e2 (f50 po) λm z1 e1=>?_
  ¶⟨ds,p1,e2⟩:=M.a10 e1
  ¶⟨s1,rfl,q1⟩:=V01 p1
  cases e2
  §⟨s1,rfl,λv H2 x2 st2 rv=>e20 po x2 st2 _ _ (a30.refl H2) (rv.pl.d_ q1)⟩
 |cons y r =>
  ¶⟨u,w,rfl,_⟩:=h2.c20
  cases e2
  §e20 po x1 st1 _ _ (a30.refl H1) hd
÷J92(gc:b00 X G E c t)(ht:∀ a b d p,t≠.IfExp a b d p)(ga:b00 X G E a x)(gb:b00 X G E b y):b00 X G E (.ite c a b) (.IfExp t x y p):=by
 ¤⟨PE.imp (H41 (gc.pt ht) ga.pe gb.pe) λσ H Q q=>?_,λh=>absurd rfl (h t x y p),λop vs p h=>by cases h⟩
 ¶⟨zA,ρ,z,rr,rel,st,e,po⟩:=q
 ¤T00 rel st e (f50 po) λk z1 e1 H1 x1 st1=>?_
 have po1:=po.u42 x1
 cases k with
 |true =>
  rw[if_pos rfl]
  rw[if_pos rfl] at e1
  §⟨zA,ρ,z1,rr,rel.mono x1,st1,e1,po1⟩
 |false =>
  rw[if_neg Ð]
  rw[if_neg Ð] at e1
  §⟨zA,ρ,z1,rr,rel.mono x1,st1,e1,po1⟩
÷V92(x:XI lm X G E N sc){o o':Cm}{a b c:Ex}{l r s:Ò}{pos:Pos}(hs:A20 s=true)(ga:b00 X G E a l)(gb:b00 X G E b r)(gc:b00 X G E c s):b00 X G E (.ch o o' a b c) (.Compare l [opC o,opC o'] [r,s] pos):=by
 have hm:lastMarks [opC o,opC o'] [r,s]=false:=x51 hs _
 have key:∀ σ H Q,tI X.K G E (.ch o o' a b c) σ H Q->r31 (rD2 X.K λa b=>(A70 o a b).map λc=>.d (.bl c)) (rD2 X.K λa b=>(A70 o' a b).map λc=>.d (.bl c)) (tI X.K G E a) (tI X.K G E b) (tI X.K G E c) σ H Q:=λσ H Q q=>by
  ¶⟨zA,ρ,z,rr,rel,st,e,po⟩:=q
  ¤g41 rel st e (f50 po) λdx dy z2 v w H2 e2 x2 st2 h1 h2=>?_
  ¶⟨k,hk,e3⟩:=M.a10 e2
  ¤⟨zA,z2,dx,dy,.d (.bl k),st2,h1,h2,by show Î7 _ (A70 o dx dy)=_;rw[hk];rfl,λv3 H3 sm rv=>⟨k,Hd.bl_ (show Hd X.K (hz zA H3) (.bl k) v3 from rv),?_⟩⟩
  have x3:=x2.trans (Ext.of sm)
  have st3:=st2.same sm
  cases k with
  |true =>
   rw[if_pos rfl]
   rw[if_pos rfl] at e3
   ¤j40 (rel.mono x3) st3 e3 (λc z2 q=>((f50 po) c z2 q).mono x3) λm z4 e4=>?_
   ¶⟨dw,p1,e5⟩:=M.a10 e4
   ¶⟨k',hk',e6⟩:=M.a10 e5
   ¶⟨s1,rfl,q1⟩:=e90 p1
   cases e6
   ¤⟨s1,rfl,λv4 H4 x4 st4 rv4=>?_⟩
   §⟨zA,z4,dy,dw,_,st4,(h2.same (a30.trans (k30 sm) x4)),rv4.pl.d_ q1,by show Î7 _ (A70 o' dy dw)=_;rw[hk'];rfl,e20 po (x3.trans x4) st4⟩
  |false =>
   rw[if_neg Ð]
   rw[if_neg Ð] at e3
   cases e3
   §e20 po x3 st3 _ _ (a30.refl H3) h50
 ¤⟨PE.imp (H81 (l02 x.room.units o) (l02 x.room.units o') ga.pe gb.pe gc.pe hm) key,λ_=>PT.imp (H91 (l02 x.room.units o) (l02 x.room.units o') ga.pe gb.pe gc.pe hm) λσ H Q q=>?_,λop vs p h=>by cases h⟩
 ¶⟨zA,ρ,z,rr,rel,st,e,po⟩:=q
 §key σ H _ ⟨zA,ρ,z,rr,rel,st,e,U91 po⟩
÷V11:∀ σ H Q,tI X.K G E (.bf f as) σ H Q->tCB (rDn X.K (bfD f)) (tA X.K G E as) σ H Q:=λσ H Q q=>by
 ¶⟨zA,ρ,z,rr,rel,st,e,po⟩:=q
 ¤a71 rel st e (f50 po) λl z1 e1 vs H1 x1 st1 rvs=>?_
 ¶⟨ds,hd,e2⟩:=M.a10 e1
 ¶⟨s,hs,e3⟩:=M.a10 e2
 cases e3
 §⟨zA,z1,ds,s,st1,G30 rvs hd,hs,e20 po x1 st1⟩
÷a81(x:XI lm X G E N sc){f:Bf}{as:Ex}{n:Str}{id:String}{e:Ò}{l:List Ò}{p pos:Pos}(hc:e50 X (.builtin id) (rDn X.K (bfD f)))(hb:n∈f02)(hv:ë n=some (.builtin id))(hg:glob sc n=true)(hL:isL as=true)(g:Good X G E as (e::l)):b00 X G E (.bf f as) (.Call (.Name n p) (e::l) [] pos):=by
 ¶⟨k1,k2,k3⟩:=d20 hg
 ¶⟨ha,hs⟩:=g.args hL
 rw[Ä5,Á] at hs
 §b10 (PE.imp (u00 hc (x.glb n k1) (x.blt n hb) hv ha k3 k2 (c60 hs.1 l X.env) (q70 X.env pos hs.2)) V11) rfl
÷f32(x:XI lm X G E N sc){f:Bf}{as:Ex}{n:Str}{T:String}{e:Ò}{l:List Ò}{p pos:Pos}(hc:e50 X (.type T) (rDn X.K (bfD f)))(hb:n∈f02)(hv:ë n=some (.type T))(hg:glob sc n=true)(hL:isL as=true)(g:Good X G E as (e::l)):b00 X G E (.bf f as) (.Call (.Name n p) (e::l) [] pos):=by
 ¶⟨k1,k2,k3⟩:=d20 hg
 ¶⟨ha,hs⟩:=g.args hL
 rw[Ä5,Á] at hs
 §b10 (PE.imp (Q40 hc (x.glb n k1) (x.blt n hb) hv ha k3 k2 (c60 hs.1 l X.env) (q70 X.env pos hs.2)) V11) rfl
÷u62:ë "len"=some (.builtin "len"):=by decide +kernel
÷T30:ë "sorted"=some (.builtin "sorted"):=by decide +kernel
÷u72:ë "all"=some (.builtin "all"):=by decide +kernel
÷u82:ë "sum"=some (.builtin "sum"):=by decide +kernel
÷u92:ë "min"=some (.builtin "min"):=by decide +kernel
÷v02:ë "max"=some (.builtin "max"):=by decide +kernel
÷v12:ë "abs"=some (.builtin "abs"):=by decide +kernel
÷u80:ë "isinstance"=some (.builtin "isinstance"):=by decide +kernel
÷v22:ë "int"=some (.type "int"):=by decide +kernel
÷M10:ë "tuple"=some (.type "tuple"):=by decide +kernel
÷a91:ë "list"=some (.type "list"):=by decide +kernel
÷W02(x:XI lm X G E N sc){f:Bf}{as:Ex}{n:Str}{e:Ò}{l:List Ò}{p pos:Pos}(hf:served f=true)(hn:n=(bfN f).1)(hg:glob sc n=true)(hL:isL as=true)(g:Good X G E as (e::l)):b00 X G E (.bf f as) (.Call (.Name n p) (e::l) [] pos):=by
 subst hn
 cases f with
 |len=>§a81 x s72 (by decide) u62 hg hL g
 |tuple=>§f32 x N41 (by decide) M10 hg hL g
 |list=>§f32 x e12 (by decide) a91 hg hL g
 |min=>§a81 x (t02 x.calm) (by decide) u92 hg hL g
 |max=>§a81 x (t12 x.calm) (by decide) v02 hg hL g
 |abs=>§a81 x t22 (by decide) v12 hg hL g
 |all=>§a81 x (s82 x.calm) (by decide) u72 hg hL g
 |int=>§f32 x t32 (by decide) v22 hg hL g
 |sorted=>§a81 x (x31 x.room.units) (by decide) T30 hg hL g
 |sum=>§a81 x (s92 x.calm) (by decide) u82 hg hL g
 |_=>cases hf
÷K02(t:Ty)(h:t≠.seq):Á0 (tyN t)∈f02/\ë (Á0 (tyN t))=some (.type (tyN t))/\tyN t∈["int","bool","tuple","list","str"]:=by
 cases t with
 |seq=>§absurd rfl h
 |_=>decide +kernel
÷v32(x:XI lm X G E N sc){t:Ty}{a:Ex}{n:Str}{e:Ò}{p pos p2:Pos}(hs:t≠.seq)
  (hg2:glob sc (Á0 (tyN t))=true) (hn:n="isinstance") (hg:glob sc n=true) (ns:noStar e=true) (ga:b00 X G E a e):b00 X G E (.isi t a) (.Call (.Name n p) [e,.Name (Á0 (tyN t)) p2] [] pos):=by
 ¶⟨hb,hv,ht⟩:=K02 t hs
 subst hn
 ¶⟨k1,k2,k3⟩:=d20 hg
 ¶⟨m1,m2,m3⟩:=d20 hg2
 ¤b10 (PE.imp (u00 K91 (x.glb _ k1) (x.blt _ (by decide)) u80 (d90 ga.pe (d90 (I80 (v:=.ty (tyN t)) (x.glb _ m1) (x.blt _ hb) hv rfl m3 m2) r60) (c60 ns _ _)) k3 k2 (c60 ns _ _) rfl) λσ H Q q=>?_) rfl
 ¶⟨zA,ρ,z,rr,rel,st,e,po⟩:=q
 ¤j40 rel st e (f50 po) λm z1 e1=>?_
 ¶⟨d,p1,e2⟩:=M.a10 e1
 ¶⟨s1,rfl,q1⟩:=e90 p1
 cases e2
 ¤⟨s1,rfl,λv H1 x1 st1 rv=>⟨d,v,tyN t,rfl,((rv.pl.d_ q1).same (a20 zA H1)).has,ht,?_⟩⟩
 rw[e22 t d hs]
 §e20 po x1 st1 _ _ (a30.refl H1) h50
÷v42(x:XI lm X G E N sc){a:Ex}{n:Str}{e:Ò}{p pos p1 p2 p3:Pos}{k:Nat}(hg2:glob sc "tuple"=true)(hg3:glob sc "list"=true)(hn:n="isinstance")(hg:glob sc n=true)(ns:noStar e=true)(ga:b00 X G E a e) :
  b00 X G E (.isi .seq a) (.Call (.Name n p) [e,.Tuple [.Name "tuple" p1,.Name "list" p2] k p3] [] pos):=by
 subst hn
 ¶⟨k1,k2,k3⟩:=d20 hg
 ¶⟨m1,m2,m3⟩:=d20 hg2
 ¶⟨l1,l2,l3⟩:=d20 hg3
 ¤b10 (PE.imp (u00 u11 (x.glb _ k1) (x.blt _ (by decide)) u80 (d90 ga.pe (d90 (T01 (d90 (I80 (v:=.ty "tuple") (x.glb _ m1) (x.blt _ (by decide)) M10 rfl m3 m2)
  (d90 (I80 (v:=.ty "list") (x.glb _ l1) (x.blt _ (by decide)) a91 rfl l3 l2) r60))) r60) (c60 ns _ _)) k3 k2 (c60 ns _ _) rfl) λσ H Q q=>?_) rfl
 ¶⟨zA,ρ,z,rr,rel,st,e,po⟩:=q
 ¤j40 rel st e (f50 po) λm z1 e1=>?_
 ¶⟨d,p1,e2⟩:=M.a10 e1
 ¶⟨s1,rfl,q1⟩:=e90 p1
 cases e2
 ¤⟨s1,rfl,λv H1 x1 st1 rv=>⟨by show 2<=Û;rw[Á3];decide,λt ht=>?_⟩⟩
 have sm:a30 H1 (upd H1 t (.tup [.ty "tuple",.ty "list"])):=a30.new _ ht
 ¤⟨d,v,t,rfl,((rv.pl.d_ q1).same (a30.trans (a20 zA H1) sm)).has,SqT.of b20,?_⟩
 rw[N61 d]
 §e20 po x1 st1 _ _ sm h50
÷K12{a i:Ex}{v x:Ò}{pos:Pos}(hs:D90 x=true)(ga:b00 X G E a v)(gi:b00 X G E i x):b00 X G E (.idx a i) (.Subscript v x pos):=by
 ¤b10 (PE.imp (Z01 ixD ga.pe gi.pe (H20 hs)) λσ H Q q=>?_) rfl
 ¶⟨zA,ρ,z,rr,rel,st,e,po⟩:=q
 ¤g41 rel st e (f50 po) λdx dy z2 v w H2 e2 x2 st2 h1 h2=>?_
 ¶⟨c,hc,e3⟩:=M.a10 e2
 cases e3
 §⟨zA,z2,dx,dy,_,st2,h1,h2,by show Î7 _ (Z60 dx dy)=_;rw[hc];rfl,e20 po x2 st2⟩
÷v52(x:XI lm X G E N sc){i k:Nat}{n:Str}{c:Nat}{p q pos:Pos}(h1:N[i]?=some n)(h2:c80 n=true):b00 X G E (.zget i k) (.Subscript (.Name n p) (.Constant (.int k) c q) pos):=by
 unfold c80 at h2
 simp only[Á,À1] at h2
 ¤b10 (PE.imp (Z01 Y10 (o50 (i:=i) (by rw[x.hN];§h1) (x.vis n (è h1)) h2.1 h2.2) P30 (H20 rfl)) λσ H Q qq=>?_) rfl
 ¶⟨zA,ρ,z,rr,rel,st,e,po⟩:=qq
 have e0:w31 k ρ[i]? z=some rr:=e
 unfold w31 at e0
 split at e0
 ·rename_i p hs
  ¶⟨v,hv,a,hz',rfl⟩:=rel i .z hs
  subst hz'
  have st':H a=some (.lst [.int p.1,.bl p.2]):=st.zat
  ¤⟨_,hv,a,[.int p.1,.bl p.2],(k:Int),?_⟩
  split at e0
  ·rename_i hk
   subst hk
   cases e0
   ¶⟨s',e',po⟩:=po
   cases e'
   §⟨_,rfl,rfl,SqL.of st',rfl,po _ H Ext.refl st i60⟩
  ·split at e0
   ·rename_i hk
    subst hk
    cases e0
    ¶⟨s',e',po⟩:=po
    cases e'
    §⟨_,rfl,rfl,SqL.of st',rfl,po _ H Ext.refl st (H01 Hd.bl)⟩
   ·cases e0
 ·cases e0
÷g51(a:Int):∀ (n:Nat) {its:List Ä},its.length=n->(∀ i,i < n->∃ v t,its[i]?=some v/\v=.int (a + (i:Nat)) t)->Vals ((î n).map λ(k:Nat)=>V.int (a + k)) its:=by
 intro n its hl h
 have:∀ (m:Nat) (l:List Ä) (o:Nat),l.length=m->(∀ i,i < m->∃ v t,l[i]?=some v/\v=.int (a + (o + i:Nat)) t)->Vals ((Á5 o m 1).map λ(k:Nat)=>V.int (a + k)) l:=by
  intro m
  induction m with
  |zero =>
   intro l o hl _
   rw[List.length_eq_zero_iff.mp hl]
   §.nil
  |succ m ih =>
   intro l o hl h
   cases l with
   |nil=>cases hl
   |cons x r =>
    ¶⟨v,t,e1,e2⟩:=h 0 (Nat.succ_pos m)
    simp only[Ë1,Ê3] at e1
    subst e1
    rw[û,Å7]
    ¤.cons ⟨t,by rw[e2];simp⟩ (ih r (o + 1) (by simpa using hl) λi hi=>?_)
    ¶⟨v,t,e1,e2⟩:=h (i + 1) (Nat.succ_lt_succ hi)
    §⟨v,t,by simpa using e1,by rw[e2];congr 1;omega⟩
 rw[Ç7]
 §this n its 0 hl λi hi=>by
  ¶⟨v,t,e1,e2⟩:=h i hi
  §⟨v,t,e1,by rw[e2];simp⟩
÷x61:ë "range"=some (.type "range"):=by decide +kernel
def lrV:List V->Option (Int × Int)
 |[.int j]=>some (0,j)
 |[.int i,.int j]=>some (i,j)
 |_=>none
def lrO:Bool->List V->HO
 |true=>HO.tup
 |false=>HO.lst
def lrT:Bool->String
 |true=>"tuple"
 |false=>"list"
def K22(b:Bool)(ta:TA):TE:=λσ H Q=>ta σ H λvs H1=>∃ i j:Int,lrV vs=some (i,j)/\-100000 < i/\i < 100000/\-100000 < j/\j < 100000/\∀ l,H1 l=none->Q (.ref l) (upd H1 l (lrO b ((î (j - i).toNat).map λ(k:Nat)=>V.int (i + k))))
÷v62{pins:List (Ç × Obj)}{σ:L2.St}{H1:Hp}{s1:Æ}{r:Ç}{i j:Int}{t u v:Tok}{Q:VK}(hc:X.calm=true)(I2:Inv X pins σ H1 s1)(hr:Ö0 s1.heap r i j 1 t u v)(i1:-100000 < i)(i2:i < 100000)(j1:-100000 < j)(j2:j < 100000)
  (q:∀ l,H1 l=none->Q (.ref l) (upd H1 l (.lst ((î (j - i).toNat).map λ(k:Nat)=>V.int (i + k))))):Ï (Ô X.prog X.w) X.A (call (.type "list") [.ref r]) (EP X pins σ Q) X.xe s1:=by
 have hz:Ã8 i j 1=(((j - i).toNat:Nat):Int):=by rw[rangeSize_one];split <;> omega
 ¤call_list_range (n:=(j - i).toNat) (I2.ok.hd hc) hr (small_one (by omega) (by omega) (by omega) (by omega)) hz (by omega) λh' tk acc' c' kp hS hacc=>?_
 have rv:Vals ((î (j - i).toNat).map λ(k:Nat)=>V.int (i + k)) acc'.toList:=by
  ¤g51 i (j - i).toNat ?_ λi hi=>?_
  ·rw[Ê8];§hacc.1
  ·have hlt:i < acc'.size:=by rw[hacc.1];§hi
   ¶⟨t,e⟩:=hacc.2 i acc'[i] (É4 hlt)
   §⟨acc'[i],t,by rw[õ];§É4 hlt,by rw[e];simp⟩
 have hlen:((î (j - i).toNat).map λ(k:Nat)=>V.int (i + k)).length<=sizeLine:=by rw[É,ù,Á3];omega
 have hn:=I2.hok.fresh (Í _)
 §⟨.ref _,_,I2.laid (t':=tk) kp (Í _) (show h00 X.prog X.w _ h' _ (.lst _) from⟨hlen,acc'.toList,c',rv,by rw[Ð1];§hS⟩),rfl,q _ hn⟩
÷f42{pins:List (Ç × Obj)}{σ:L2.St}{H1:Hp}{s1:Æ}{r:Ç}{i j:Int}{t u v:Tok}{Q:VK}(hc:X.calm=true)(I2:Inv X pins σ H1 s1)(hr:Ö0 s1.heap r i j 1 t u v)(i1:-100000 < i)(i2:i < 100000)(j1:-100000 < j)(j2:j < 100000)
  (q:∀ l,H1 l=none->Q (.ref l) (upd H1 l (.tup ((î (j - i).toNat).map λ(k:Nat)=>V.int (i + k))))):Ï (Ô X.prog X.w) X.A (call (.type "tuple") [.ref r]) (EP X pins σ Q) X.xe s1:=by
 have hz:Ã8 i j 1=(((j - i).toNat:Nat):Int):=by rw[rangeSize_one];split <;> omega
 ¤HT.tuple_range (n:=(j - i).toNat) (I2.ok.hd hc) hr (small_one (by omega) (by omega) (by omega) (by omega)) hz (by omega) λh' tk acc' kp hsz hacc=>?_
 have rv:Vals ((î (j - i).toNat).map λ(k:Nat)=>V.int (i + k)) acc'.toList:=by
  ¤g51 i (j - i).toNat ?_ λi hi=>?_
  ·rw[Ê8];§hacc.1
  ·have hlt:i < acc'.size:=by rw[hacc.1];§hi
   ¶⟨t,e⟩:=hacc.2 i acc'[i] (É4 hlt)
   §⟨acc'[i],t,by rw[õ];§É4 hlt,by rw[e];simp⟩
 have hlen:((î (j - i).toNat).map λ(k:Nat)=>V.int (i + k)).length<=sizeLine:=by rw[É,ù,Á3];omega
 §⟨.ref _,_,I2.laid (t':=tk) (λb o e=>Ã _ (kp b o e)) hsz (show h00 X.prog X.w _ _ _ (.tup _) from⟨hlen,acc'.toList,rv,⟨_,Ë _ rfl,rfl,0,by rw[Ð1]⟩⟩),rfl,q _ (I2.hok.fresh hsz)⟩
÷x71(b:Bool){pins:List (Ç × Obj)}{σ:L2.St}{H1:Hp}{s1:Æ}{r:Ç}{i j:Int}{t u v:Tok}{Q:VK}(hc:X.calm=true)(I2:Inv X pins σ H1 s1)(hr:Ö0 s1.heap r i j 1 t u v)(i1:-100000 < i)(i2:i < 100000)(j1:-100000 < j)(j2:j < 100000)
  (q:∀ l,H1 l=none->Q (.ref l) (upd H1 l (lrO b ((î (j - i).toNat).map λ(k:Nat)=>V.int (i + k))))):Ï (Ô X.prog X.w) X.A (call (.type (lrT b)) [.ref r]) (EP X pins σ Q) X.xe s1:=by
 cases b with
 |true=>§f42 hc I2 hr i1 i2 j1 j2 q
 |false=>§v62 hc I2 hr i1 i2 j1 j2 q
÷K32(b:Bool):ë (lrN b)=some (.type (lrT b)):=by
 cases b with
 |true=>§M10
 |false=>§a91
÷x81(b:Bool){e:Ò}{l:List Ò}{ta:TA}{p p2 pos pos2:Pos}(hc:X.calm=true)(hg:Gl X (lrN b))(hm:X.mg (lrN b)=none)(hg2:Gl X "range")(hm2:X.mg "range"=none)(ha:PA X (e::l) ta)(hs:noStar e=true)(hs2:l.all noStar=true) :
  PE X (.Call (.Name (lrN b) p) [.Call (.Name "range" p2) (e::l) [] pos2] [] pos) (K22 b ta):=by
 intro pins s σ H Q I h
 ¤Call_ (t90 I hg hm (K32 b) (Á2 (Ö8 ?_) rfl rfl) (by cases b <;> decide) (by cases b <;> decide))
 ¤Call_ (t90 I hg2 hm2 x61 (Á2 (thn (ha pos2 pins s σ H _ I h) λus s1 ⟨vs,H1,I1,r1,q1⟩=>?_) (c60 hs l X.env) (q70 X.env pos2 hs2)))
 ¶⟨i,j,hv,i1,i2,j1,j2,q⟩:=q1
 match vs,hv with
 |[.int _],hv =>
  cases hv
  ¶⟨u,rfl,r⟩:=vals1 r1
  ¶⟨t,rfl⟩:=r
  §call_range_1 (Ð3 (x71 b hc (I1.kept λb o e=>Ã _ e) (Ö0.new ..) i1 i2 j1 j2 q))
 |[.int _,.int _],hv =>
  cases hv
  ¶⟨u,u',rfl,r,r'⟩:=vals2 r1
  ¶⟨t,rfl⟩:=r
  ¶⟨t',rfl⟩:=r'
  §call_range_2 (Ð3 (x71 b hc (I1.kept λb o e=>Ã _ e) (Ö0.new ..) i1 i2 j1 j2 q))
÷O11:∀ {ds xs:List D},lrD ds=some xs->∃ i j:Int,((ds=[.int j]/\i=0)∨ds=[.int i,.int j])/\-100000 < i/\i < 100000/\-100000 < j/\j < 100000/\xs=(î (j - i).toNat).map λ(k:Nat)=>D.int (i + k)
 |[],_,h=>by cases h
 |[x],xs,h=>by
  cases x with
  |int j =>
   ¶⟨hj,h⟩:=f70 h
   have hj:=G20.mp hj
   §⟨0,j,.inl ⟨rfl,rfl⟩,by omega,by omega,hj.1,hj.2,by cases h;simp⟩
  |_=>cases h
 |[x,y],xs,h=>by
  cases x with
  |int i =>
   cases y with
   |int j =>
    ¶⟨hj,h⟩:=f70 h
    have h1:=G20.mp hj.1
    have h2:=G20.mp hj.2
    §⟨i,j,.inr rfl,h1.1,h1.2,h2.1,h2.2,by cases h;rfl⟩
   |_=>cases h
  |_=>cases h
 |x::y::_::_,_,h=>by
  cases x with
  |int i=>cases y <;> cases h
  |_=>cases h
÷v72(x:XI lm X G E N sc){b:Bool}{as:Ex}{a:Ò}{l:List Ò}{p p2 pos pos2:Pos}(h1:glob sc (lrN b)=true)(h2:glob sc "range"=true)(hL:isL as=true)(g:Good X G E as (a::l)):b00 X G E (.lrng b as) (.Call (.Name (lrN b) p) [.Call (.Name "range" p2) (a::l) [] pos2] [] pos):=by
 ¶⟨k1,_,_⟩:=d20 h1
 ¶⟨m1,_,_⟩:=d20 h2
 ¶⟨ha,hs⟩:=g.args hL
 rw[Ä5,Á] at hs
 ¤b10 (PE.imp (x81 b x.calm (x.glb _ k1) (x.blt _ (by cases b <;> decide)) (x.glb _ m1) (x.blt _ (by decide)) ha hs.1 hs.2) λσ H Q q=>?_) rfl
 ¶⟨zA,ρ,z,rr,rel,st,e,po⟩:=q
 ¤a71 rel st e (f50 po) λl z1 e1 vs H1 x1 st1 rvs=>?_
 ¶⟨xs,hx,e2⟩:=M.a10 e1
 cases e2
 ¶⟨s',e',po⟩:=po
 cases e'
 ¶⟨ds,h3,h4⟩:=Î.mp hx
 have hd:=G30 rvs h3
 have fin:∀ i j:Int,xs=(î (j - i).toNat).map (λ(k:Nat)=>D.int (i + k))->∀ lA,H1 lA=none->Q (.ref lA) (upd H1 lA (lrO b ((î (j - i).toNat).map λ(k:Nat)=>V.int (i + k)))):=λi j ex lA hn=>by
  subst ex
  have hI:=HdA.ints (K:=X.K) (H:=hz zA H1) ((î (j - i).toNat).map λ(k:Nat)=>i + (k:Int))
  rw[ï,ï] at hI
  cases b with
  |false=>§po _ _ (x1.trans (Ext.of (a30.new _ hn))) (st1.same (a30.new _ hn)) ((n50 st1 hI hn).from x1)
  |true=>§po _ _ (x1.trans (Ext.of (a30.new _ hn))) (st1.same (a30.new _ hn)) (H01 (Hd.tup ((st1.same (a30.new _ hn)).d02 (SqT.of b20)) (hI.same (k30 (a30.new _ hn)))))
 ¶⟨i,j,hds,j1,j2,j3,j4,ex⟩:=O11 h4
 ¤⟨i,j,?_,j1,j2,j3,j4,fin i j ex⟩
 rcases hds with ⟨rfl,rfl⟩ | rfl
 ·¶⟨v,rfl,h5⟩:=hd.one
  cases h5.h90
  rfl
 ·¶⟨v,w,rfl,h5,h6⟩:=hd.two
  cases h5.h90;cases h6.h90
  rfl
end
÷x91(val:Nat->Nat)(i:Nat):∀ n,(SS.met val n).testBit i=(î n).any λj=>val j == i
 |0=>Nat.zero_testBit i
 |n + 1=>by
  show(SS.met val n ||| 2 ^ val n).testBit i=_
  rw[Nat.testBit_or,x91 val i n,Nat.testBit_two_pow,List.range_succ,List.any_append]
  simp
  rfl
÷g61:∀ {l:List D}{ns:List Nat},D30 l=some ns->l=ns.map (λ(n:Nat)=>D.int n)/\∀ n∈ns,n < 8
 |[],ns,h=>by cases h;§⟨rfl,λn hn=>by cases hn⟩
 |x::r,ns,h=>by
  cases x with
  |int i =>
   ¶⟨hi,h⟩:=f70 h
   ¶⟨ms,h1,rfl⟩:=Ê.mp h
   ¶⟨e,k⟩:=g61 h1
   ¤⟨?_,λn hn=>?_⟩
   ·rw[Å7,← e,show((i.toNat:Nat):Int)=i from Int.toNat_of_nonneg hi.1]
   ·rcases ú.mp hn with rfl | hn
    ·omega
    ·§k n hn
  |_=>cases h
÷f52{ns:List Nat}:SS.bts (SS.met (λi=>ns.getD i 0) ns.length)=(î 8).filter λi=>ns.contains i:=by
 unfold SS.bts
 ¤List.filter_congr λi _=>?_
 rw[x91]
 rw[Í8,List.any_eq_true,Ì7]
 constructor
 ·rintro ⟨j,hj,e⟩
  rw[Ó2] at hj
  rw[← eq_of_beq e,Ø,æ hj]
  §É2 hj
 ·intro h
  ¶⟨j,hj,e⟩:=Õ3.mp h
  §⟨j,Â5.mpr hj,by rw[Ø,æ hj,← e];§beq_self_eq_true _⟩
÷y01{K:Â}{H:Hp}:∀ {ns:List Nat}{us:List V},HdA K H (ns.map λ(n:Nat)=>D.int n) us->us=ns.map λ(n:Nat)=>V.int n
 |[],_,h=>h.e80
 |n::r,_,h=>by
  ¶⟨y,q,rfl,h1,h2⟩:=HdA.c20 h
  rw[h1.h90,y01 h2];rfl
÷y11{K:Â}{H:Hp}:∀ ns:List Nat,HdA K H (ns.map λ(n:Nat)=>D.int n) (ns.map λ(n:Nat)=>V.int n)
 |[]=>.nil
 |n::r=>.cons Hd.int (y11 r)
÷y21{ns:List Nat}(h:∀ n∈ns,n < 8)(i:Nat):ns.getD i 0 < 8:=by
 rw[Ø]
 cases e:ns[i]? with
 |none=>decide
 |some n=>§h n (è e)
section
variable {lm:Bool}{X:Cx}{G:Gs}{E:XK}{N:List Str}{sc:ý}
def O21(w:ç)(p m:Nat):ì->Prop:=λh=>SS.z80 w h p m
÷y31(hc:X.calm=true):e50 X (.type "set") (λxs H Q=>∃ (a:Ç) (ns:List Nat) (us:List V),xs=[.ref a]/\(SqL X.K H a us∨SqT X.K H a us)/\us=ns.map (λ(n:Nat)=>V.int n)/\(∀ n∈ns,n < 8)/\∀ p,H p=none->Q (.ref p) (upd H p (.ext (O21 X.w p (SS.met (λi=>ns.getD i 0) ns.length))))):=by
 intro pins s σ H xs us Q I r h
 ¶⟨a,ns,vs,rfl,hq,rfl,h8,q⟩:=h
 ¶⟨u,rfl,rx⟩:=vals1 r
 cases rx
 have hv:∀ i,(λi=>ns.getD i 0) i < 8:=y21 h8
 have hp:∀ {its:List Ä},Vals (ns.map λ(n:Nat)=>V.int n) its->its.toArray.size=ns.length/\∀ (i:Nat) (v:Ä),its.toArray[i]?=some v->∃ t,v=.int ((λi=>ns.getD i 0) i:Nat) t:=λ{its} rv=>by
  ¤⟨by rw[Ó,← rv.length,É],λi v e=>?_⟩
  have e:its[i]?=some v:=by simpa using e
  have hi:i < ns.length:=by have:=(Ý.mp e).1;rw[← rv.length,É] at this;§this
  ¶⟨w',e1,e2⟩:=rv.get (i:=i) (x:=V.int (ns[i]:Nat)) (by simp[hi])
  rw[e] at e1;cases e1
  ¶⟨t,rfl⟩:=e2
  §⟨t,by simp[hi]⟩
 have fin:∀ (h':ì) (tk:Nat),SS.z80 X.w h' s.heap.objs.size (SS.met (λi=>ns.getD i 0) ns.length)->(∀ b u,s.heap.get? b=some u->h'.get? b=some u)->EP X pins σ Q (.ref s.heap.objs.size) { s with heap:=h',toks:=tk }:=λh' tk hS kp=>by
  ¤⟨.ref s.heap.objs.size,_,I.laid (t':=tk) (o:=.ext (O21 X.w s.heap.objs.size (SS.met (λi=>ns.getD i 0) ns.length))) kp (Í _) ⟨hS,?_,λh1 h2 p k=>p.keep k⟩,rfl,q _ (I.hok.fresh (Í _))⟩
  ¶⟨o,_,_,ho,_⟩:=hS
  §⟨o,ho⟩
 rcases hq with hq | hq
 ·¶⟨its,rv,pl,_⟩:=I.list hq
  ¶⟨o,ho,hcl,n,hd⟩:=pl.isList
  ¶⟨sz,pv⟩:=hp rv
  ¤SS.f41 (o:=o) (it:={ cls:=.type "list_iterator",data:=.fields #[.ref a,.int 0 0] }) (n:=its.toArray.size) (St:=λI i h=>h.IsListIter I a i/\h.IsList a its.toArray) (Pv:=λi v=>its.toArray[i]?=some v) (val:=λi=>ns.getD i 0)
   ⟨hcl,F.sub_list_set,F.sub_list_frozenset,by decide,λA E s Q e q=>Ý3 ⟨o,e,hcl,n,hd⟩ q,λA I hh hn=>Walks.list hh I a hn _,λh e=>⟨⟨_,Ë _ rfl,rfl,rfl⟩,⟨o,Ã _ e,hcl,n,hd⟩⟩⟩ (by §I.ok.hd hc) ho hv pv λh' tk x kp=>?_
  rw[sz] at x
  §fin h' tk x kp
 ·¶⟨its,rv,pl,_⟩:=I.tuple hq
  ¶⟨o,ho,hcl,n,hd⟩:=pl
  ¶⟨sz,pv⟩:=hp rv
  ¤SS.f41 (o:=o) (it:={ cls:=.type "tuple_iterator",data:=.fields #[.ref a,.int 0 0] }) (n:=its.toArray.size) (St:=λI i h=>h.IsTupleIter I a i/\h.IsTuple a its.toArray) (Pv:=λi v=>its.toArray[i]?=some v) (val:=λi=>ns.getD i 0)
   ⟨hcl,by rw[Ñ6];kernel_rfl,by rw[Ñ6];kernel_rfl,by decide,λA E s Q e q=>È0 ⟨o,e,hcl,n,hd⟩ q,λA I hh hn=>Walks.tuple hh I a hn _,λh e=>⟨⟨_,Ë _ rfl,rfl,rfl⟩,⟨o,Ã _ e,hcl,n,hd⟩⟩⟩ (by §I.ok.hd hc) ho hv pv λh' tk x kp=>?_
  rw[sz] at x
  §fin h' tk x kp
÷T40(hc:X.calm=true)(hu:X.A.units + 64 < Å8):e50 X (.builtin "sorted") (λxs H Q=>∃ (p:Ç) (m:Nat),xs=[.ref p]/\m < 256/\H p=some (.ext (O21 X.w p m))/\∀ l,H l=none->Q (.ref l) (upd H l (.lst ((SS.bts m).map λ(n:Nat)=>V.int n)))):=by
 intro pins s σ H xs us Q I r h
 ¶⟨p,m,rfl,hm,hp,q⟩:=h
 ¶⟨u,rfl,rx⟩:=vals1 r
 cases rx
 ¶⟨⟨o,ep,g,ho,hx,hd⟩,_⟩:=I.hok p _ hp
 ¤SS.n81 (by §I.ok.hd hc) hu hm ho hx hd λl h' tk c hl kp hD=>?_
 ¤⟨.ref l,_,I.laid (t':=tk) (o:=.lst ((SS.bts m).map λ(n:Nat)=>V.int n)) kp hl ⟨?_,_,c,?_,hD⟩,rfl,q _ (I.hok.fresh hl)⟩
 ·rw[É,Á3]
  have:(SS.bts m).length<=8:=Ñ (Å3 _ _) (by simp)
  omega
 ·clear hD hd
  generalize SS.bts m=l
  induction l with
  |nil=>§.nil
  |cons n r ih=>§.cons ⟨_,rfl⟩ ih
÷v82:ë "set"=some (.type "set"):=by decide +kernel
÷v92(x:XI lm X G E N sc){as:Ex}{e:Ò}{p1 p2 p3 p4:Pos}(h1:glob sc "sorted"=true)(h2:glob sc "set"=true)(hL:isL as=true)(g:Good X G E as [e]):b00 X G E (.bf .sset as) (.Call (.Name "sorted" p1) [.Call (.Name "set" p2) [e] [] p3] [] p4):=by
 ¶⟨k1,k2,k3⟩:=d20 h1
 ¶⟨j1,j2,j3⟩:=d20 h2
 ¶⟨ha,hs⟩:=g.args hL
 rw[Ä5,Á] at hs
 ¤b10 (PE.imp (u00 (T40 x.calm x.room.units) (x.glb _ k1) (x.blt _ (by decide)) T30 (d90 (Q40 (y31 x.calm) (x.glb _ j1) (x.blt _ (by decide)) v82 ha j3 j2 (c60 hs.1 [] X.env) (q70 X.env p3 hs.2)) r60) k3 k2) λσ H Q q=>?_) rfl
 ¶⟨zA,ρ,z,rr,rel,st,ee,po⟩:=q
 ¤a71 rel st ee (f50 po) λl z1 e1 vs H1 x1 st1 rvs=>?_
 ¶⟨ds,hd,e2⟩:=M.a10 e1
 ¶⟨s,hs',e3⟩:=M.a10 e2
 cases e3
 have hds:=G30 rvs hd
 match ds,hs' with
 |[d],hs' =>
  ¶⟨l,hl,hs'⟩:=Î.mp hs'
  ¶⟨ns,hn,rfl⟩:=Ê.mp hs'
  ¶⟨rfl,h8⟩:=g61 hn
  ¶⟨v,rfl,hv⟩:=hds.one
  obtain⟨a,us,rfl,hq,hd'⟩:∃ a us,v=.ref a/\(SqL X.K H1 a us∨SqT X.K H1 a us)/\HdA X.K (hz zA H1) (ns.map λ(n:Nat)=>D.int n) us:=by
   cases d with
   |tup m =>
    cases hl
    ¶⟨a,xs,rfl,m1,m2⟩:=hv.A10
    §⟨a,xs,rfl,.inr ((a20 zA H1).sqT m1),m2⟩
   |lst m =>
    cases hl
    ¶⟨a,xs,rfl,m1,m2⟩:=hv.X50
    §⟨a,xs,rfl,.inl (m1.same (a20 zA H1)).sq,m2⟩
   |_=>cases hl
  ¤⟨a,ns,us,rfl,hq,y01 hd',h8,λp hp=>⟨p,_,rfl,SS.v21 (y21 h8) _,b20,λl hl=>?_⟩⟩
  have sm:a30 H1 (upd H1 p (.ext (O21 X.w p (SS.met (λi=>ns.getD i 0) ns.length)))):=a30.new _ hp
  rw[f52]
  §e20 po x1 st1 _ _ (a30.trans sm (a30.new _ hl)) ((n50 (st1.same sm) (y11 _) hl).from (Ext.of sm))
def tPO(K:Â)(G:Gs)(E:XK)(x:Ex):TO:=λσ H Q=>∃ zA ρ z r,y50 K zA H ρ σ/\d70 zA z H/\ev G.F x ρ z=some r/\(match r with
 |.ok l z'=>∃ o,w21 l=some o/\∀ H',Ext zA H H'->d70 zA z' H'->Q o H'
 |.er c z'=>EPost G zA E c z' H)
÷w02(hL:isL x=true)(g:Good X G E x e.toList):PO X e (tPO X.K G E x):=by
 cases e with
 |none =>
  cases x with
  |nil =>
   ¤λpins s σ H Q I q=>Y81 pins s σ H Q I ?_
   ¶⟨zA,ρ,z,r,rel,st,e,po⟩:=q
   cases e
   ¶⟨o,e',po⟩:=po
   cases e'
   §po H Ext.refl st
  |cons a r=>¶⟨e,es,h,_⟩:=g;cases h
  |_=>cases hL
 |some e =>
  cases x with
  |nil=>cases (show [e]=[] from g)
  |cons a r =>
   ¶⟨e',es,h,ns,ga,lr,gr⟩:=g
   cases h
   ¤λpins s σ H Q I q=>Y91 ga.pe pins s σ H Q I ?_
   ¶⟨zA,ρ,z,rr,rel,st,e,po⟩:=q
   have her:∀ c z1,rr=.er c z1->EPost G zA E c z1 H:=λc z1 e=>by subst e;§po
   have rn:r=.nil:=by
    cases r with
    |nil=>rfl
    |cons b q=>¶⟨e,es,h,_⟩:=gr;cases h
    |_=>cases lr
   subst rn
   ¤j40 rel st e her λl z1 e1=>?_
   ¶⟨s,hs,e2⟩:=M.a10 e1
   cases e2
   ¶⟨o,e',po⟩:=po
   ¤⟨s,D80 hs,λv H1 x1 st1 rv=>?_⟩
   cases s with
   |d y =>
    cases y with
    |int i =>
     cases e'
     §⟨i,Hd.h90 (show Hd X.K (hz zA H1) (.int i) v from rv),po H1 x1 st1⟩
    |_=>cases e'
   |fr ys=>cases e'
   |z=>cases e'
  |_=>cases hL
÷W12{a lo hi:Ex}{v:Ò}{l h:Option Ò}{p pos:Pos}(ga:b00 X G E a v)(hl:isL lo=true)(hh:isL hi=true)(gl:Good X G E lo l.toList)(gh:Good X G E hi h.toList):b00 X G E (.sl a lo hi) (.Subscript v (.Slice l h none p) pos):=by
 ¤b10 (PE.imp (I31 V02 ga.pe (w02 hl gl) (w02 hh gh)) λσ H Q q=>?_) rfl
 ¶⟨zA,ρ,z,rr,rel,st,e,po⟩:=q
 ¤j40 rel st e (f50 po) λm z1 e1=>?_
 ¶⟨dx,p1,e2⟩:=M.a10 e1
 ¶⟨s1,rfl,q1⟩:=e90 p1
 ¤⟨s1,rfl,λw H1 x1 st1 rv=>?_⟩
 rcases M.bind_some e2 with ⟨u,z2,e3,e4⟩ | ⟨c,z2,e3,e4⟩
 ·¶⟨o,ho,e5⟩:=M.a10 e4
  ¤⟨zA,ρ,z1,_,rel.mono x1,st1,e3,o,ho,λH2 x2 st2=>?_⟩
  rcases M.bind_some e5 with ⟨u',z3,e6,e7⟩ | ⟨c,z3,e6,e7⟩
  ·¶⟨o',ho',e8⟩:=M.a10 e7
   ¤⟨zA,ρ,z2,_,(rel.mono x1).mono x2,st2,e6,o',ho',λH3 x3 st3=>?_⟩
   ¶⟨s,hs,e9⟩:=M.a10 e8
   cases e9
   §⟨zA,z3,dx,s,st3,((rv.pl.mono (x2.trans x3)).d_ q1),hs,e20 po ((x1.trans x2).trans x3) st3⟩
  ·§⟨zA,ρ,z2,_,(rel.mono x1).mono x2,st2,e6,((f50 po) c z3 e7).mono (x1.trans x2)⟩
 ·§⟨zA,ρ,z1,_,rel.mono x1,st1,e3,((f50 po) c z2 e4).mono x1⟩
÷K42{a:Ex}{v:Ò}{p1 p2 p3 pos:Pos}{k:Nat}(ga:b00 X G E a v):b00 X G E (.rev a) (.Subscript v (.Slice none none (some (.UnaryOp .USub (.Constant (.int 1) k p1) p2)) p3) pos):=by
 ¤b10 (PE.imp (p82 ga.pe (n72 S91 P30)) λσ H Q q=>?_) rfl
 ¶⟨zA,ρ,z,rr,rel,st,e,po⟩:=q
 ¤j40 rel st e (f50 po) λm z1 e1=>?_
 ¶⟨s,p1,e2⟩:=M.a10 e1
 ¶⟨d,p2,p3⟩:=Î.mp p1
 ¶⟨s1,rfl,q1⟩:=e90 p2
 cases e2
 ¤⟨s1,rfl,λw H1 x1 st1 rv=>⟨1,rfl,rfl,?_⟩⟩
 have hd:=rv.pl.d_ q1
 cases d with
 |tup l =>
  cases p3
  ¶⟨a,xs,rfl,h1,h2⟩:=hd.A10
  §.inl ⟨a,xs,rfl,(a20 zA H1).sqT h1,tupQ st1 h2.reverse (e20 po x1 st1)⟩
 |lst l =>
  cases p3
  ¶⟨a,xs,rfl,h1,h2⟩:=hd.X50
  §.inr ⟨a,xs,rfl,(h1.same (a20 zA H1)).sq,λp hp=>e20 po x1 st1 _ _ (a30.new _ hp) (n50 st1 h2.reverse hp)⟩
 |_=>cases p3
÷w12:∀ {x:Ex}{es:List Ò}{z z1:Z}{l:List S},isL x=true->Good X G E x es->ev G.F x ρ z=some (.ok l z1)->l.length=es.length:=by
 intro x
 induction x with
 |nil =>
  intro es z z1 l _ h e
  have h:es=[]:=h
  subst h
  cases e
  rfl
 |cons a r _ ih =>
  intro es z z1 l _ h e
  ¶⟨e',es',rfl,ns,g,lr,gr⟩:=h
  rcases M.bind_some e with ⟨m,z2,e1,e2⟩ | ⟨c,z2,e1,e2⟩
  ·¶⟨s,hs,e3⟩:=M.a10 e2
   rcases M.bind_some e3 with ⟨m',z3,e4,e5⟩ | ⟨c,z3,e4,e5⟩
   ·cases e5
    rw[Þ,Þ,ih lr gr e4]
   ·cases e5
  ·cases e2
 |_=>intro es z z1 l h;cases h
÷s_call(x:XI lm X G E N sc){f:Nat}{as:Ex}{n:Str}{ps:List Str}{e:Ò}{l:List Ò}{p pos:Pos}(hf:G.fns[f]?=some (n,ps))(hl:ps.length=l.length + 1)(hg:glob sc n=true)(hL:isL as=true)(g:Good X G E as (e::l)) :
  b00 X G E (.call f as) (.Call (.Name n p) (e::l) [] pos):=by
 ¶⟨k1,k2,k3⟩:=d20 hg
 ¶⟨fa,fd,m1,m2,m3,F⟩:=x.gok f n ps hf
 ¶⟨ha,hs⟩:=g.args hL
 rw[Ä5,Á] at hs
 ¤b10 (PE.imp (Y51 F x.room (x.glb n k1) m1 m2 m3 .nil x.pas ha k2 (c60 hs.1 l X.env) (q70 X.env pos hs.2)) λσ H Q q=>?_) rfl
 ¶⟨zA,ρ,z,rr,rel,st,e,po⟩:=q
 have e0:M.bind (ev G.F as ρ) (λl=>M.bind (G.F false f (l.map plS)) λs=>M.ret [s]) z=some rr:=e
 rcases M.bind_some e0 with ⟨m,z1,e1,e2⟩ | ⟨c,z1,e1,e2⟩
 ·¤⟨zA,ρ,z,_,rel,st,e1,λvs H1 x1 st1 rvs=>?_⟩
  have hv:vs.length=ps.length:=by rw[← rvs.length,w12 hL g e1,hl];rfl
  show spF X.K G f ps.length (vs++[]) H1 Q E
  rw[append_nil]
  ¤⟨hv,zA,z1,m.map plS,?_⟩
  have ra:RvA X.K zA H1 (m.map plS) vs:=RvA.plS (Å9.k72 rvs λ_ _ q=>q.pl)
  rcases M.bind_some e2 with ⟨s,z2,e3,e4⟩ | ⟨c,z2,e3,e4⟩
  ·cases e4
   ¤⟨_,ra,st1,e3,λv H2 x2 st2 rv=>?_⟩
   ¶⟨s',e',po⟩:=po
   cases e'
   §po v H2 (x1.trans x2) st2 (rv.from x1)
  ·§⟨_,ra,st1,e3,((f50 po) c z2 e4).mono x1⟩
 ·§⟨zA,ρ,z,_,rel,st,e1,(f50 po) c z1 e2⟩
def C02:Pat->Nat
 |.nil=>0
 |.cons _ r=>C02 r + 1
 |_=>0
mutual
noncomputable def gP(K:Â):Pat->TG
 |.v i=>X70 i
 |.tup ps=>N72 K (C02 ps) (gL K ps)
 |.nil=>λ_ _ _ _=>False
 |.cons _ _=>λ_ _ _ _=>False
noncomputable def gL(K:Â):Pat->TGs
 |.nil=>N62
 |.cons p r=>n02 (gP K p) (gL K r)
 |.v _=>λ_ _ _ _=>False
 |.tup _=>λ_ _ _ _=>False
end
end
end Q
namespace Q
open PySem L2 PySem.Spec PyProof.Rows
variable [TB:Tb]
÷V21(h:noStar e=true)(es:List Ò)(env:È9):Ê2 (e::es) env=(false,Ù3 e env)::Ê2 es env:=by
 cases e <;> first | rfl | cases h
structure O31(X:Cx)(N:List Str)(loc:Str->Bool):Prop where
 hN:X.N=N
 nd:N.Nodup
 lc:∀ x,loc x=true->Loc X.env.scope x
 fn:∀ x,loc x=true->(X.fn x=true∨X.env.scope.names.lookup x=some .local)
 calm:X.calm=true
÷H30:∀ {es:List Ò} (env:È9),es.all noStar=true->(Ê2 es env).length=es.length/\(Ê2 es env).findIdx? (·.1)=none
 |[],_,_=>⟨rfl,rfl⟩
 |e::es,env,h=>by
  rw[Ä5,Á] at h
  ¶⟨h1,h2⟩:=H30 env h.2
  rw[V21 h.1]
  ¤⟨by rw[Þ,Þ,h1],?_⟩
  rw[List.findIdx?_cons,h2];rfl
÷g71:∀ {r:Pat}{es:List Ò},n91 N loc r es=true->es.length=C02 r/\es.all noStar=true
 |.nil,es,h=>by
  unfold n91 at h
  have:es=[]:=Ì8.mp h
  subst this
  §⟨rfl,rfl⟩
 |.cons p r,es,h=>by
  unfold n91 at h
  cases es with
  |nil=>cases h
  |cons e es =>
   rw[Á,Á] at h
   ¶⟨h1,h2⟩:=g71 (r:=r) h.2
   §⟨by rw[Þ,h1];rfl,by rw[Ä5,h.1.1,h2];rfl⟩
 |.v _,_,h=>by unfold n91 at h;cases h
 |.tup _,_,h=>by unfold n91 at h;cases h
mutual
theorem y41(L:O31 X N loc):∀ {p:Pat}{e:Ò},j50 N loc p e=true->PG X e (gP X.K p)
 |.v i,e,h=>by
  unfold j50 at h
  cases e with
  |Name x pos =>
   rw[Á,beq_iff_eq] at h
   unfold gP
   §r01 (by rw[L.hN];§L.nd) (by rw[L.hN];§h.1) (L.lc x h.2) (L.fn x h.2)
  |_=>cases h
 |.tup ps,e,h=>by
  unfold j50 at h
  cases e with
  |Tuple es k pos =>
   ¶⟨h1,h2⟩:=g71 h
   ¶⟨h3,h4⟩:=H30 X.env h2
   unfold gP
   §n12 L.calm (V31 L h) (by rw[h3,h1]) h4
  |_=>cases h
 |.nil,e,h=>by unfold j50 at h;cases h
 |.cons _ _,e,h=>by unfold j50 at h;cases h
theorem V31(L:O31 X N loc):∀ {r:Pat}{es:List Ò},n91 N loc r es=true->PGs X es (gL X.K r)
 |.nil,es,h=>by
  unfold n91 at h
  have:es=[]:=Ì8.mp h
  subst this
  unfold gL
  §X91
 |.cons p r,es,h=>by
  unfold n91 at h
  cases es with
  |nil=>cases h
  |cons e es =>
   rw[Á,Á] at h
   unfold gL
   §H51 (y41 L h.1.2) (V31 L h.2) (by rw[V21 h.1.1];rfl)
 |.v _,_,h=>by unfold n91 at h;cases h
 |.tup _,_,h=>by unfold n91 at h;cases h
end
section
variable {K:Â}{zA:Option Ç}{H:Hp}
÷y50.set{ρ:Env}{σ:L2.St}{i:Nat}{s:S}{v:V}(h:y50 K zA H ρ σ)(hl:ρ.length=σ.length)(r:RvP K zA H s v):y50 K zA H (ρ.set i (some s)) (σ.set i (some v)):=by
 intro j t e
 by_cases hj:j=i
 ·subst hj
  have hlt:j < ρ.length:=by
   have:=(Ý.mp e).1
   simpa using this
  rw[ñ hlt] at e
  cases e
  §⟨v,ñ (by rw[← hl];§hlt),r⟩
 ·rw[ê (Â3 hj)] at e
  ¶⟨w,h1,h2⟩:=h j t e
  §⟨w,by rw[ê (Â3 hj)];§h1,h2⟩
÷E00:∀ {r:Pat}{l:List D}{ρ ρ':Env},bindL r l ρ=some ρ'->l.length=C02 r
 |.nil,l,ρ,ρ',e=>by
  unfold bindL at e
  cases l with
  |nil=>rfl
  |cons x l=>cases e
 |.cons p r,l,ρ,ρ',e=>by
  unfold bindL at e
  cases l with
  |nil=>cases e
  |cons x l =>
   ¶⟨ρ1,e1,e2⟩:=Î.mp e
   rw[Þ,E00 e2];rfl
 |.v _,_,_,_,e=>by unfold bindL at e;cases e
 |.tup _,_,_,_,e=>by unfold bindL at e;cases e
mutual
theorem y51:∀ {p:Pat}{d:D}{ρ ρ':Env},e70 p d ρ=some ρ'->∀ {σ:L2.St}{v:V}{R:L2.St->Hp->Prop},y50 K zA H ρ σ->ρ.length=σ.length->Hd K (hz zA H) d v ->
  (∀ σ',y50 K zA H ρ' σ'->ρ'.length=σ'.length->R σ' H)->gP K p v σ H R
 |.v i,d,ρ,ρ',e,σ,v,R,rel,hl,hd,k=>by
  unfold e70 at e
  cases e
  unfold gP
  §k _ (rel.set hl (show RvP K zA H (.d d) v from hd)) (by rw[Ä1,Ä1,hl])
 |.tup ps,d,ρ,ρ',e,σ,v,R,rel,hl,hd,k=>by
  unfold e70 at e
  cases d with
  |tup l =>
   ¶⟨a,xs,rfl,h1,h2⟩:=hd.A10
   unfold gP
   §⟨a,xs,rfl,(a20 zA H).sqT h1,by rw[h2.length];§E00 e,g81 e rel hl h2 k⟩
  |_=>cases e
 |.nil,_,_,_,e,_,_,_,_,_,_,_=>by unfold e70 at e;cases e
 |.cons _ _,_,_,_,e,_,_,_,_,_,_,_=>by unfold e70 at e;cases e
theorem g81:∀ {r:Pat}{l:List D}{ρ ρ':Env},bindL r l ρ=some ρ'->∀ {σ:L2.St}{vs:List V}{R:L2.St->Hp->Prop},y50 K zA H ρ σ->ρ.length=σ.length->HdA K (hz zA H) l vs ->
  (∀ σ',y50 K zA H ρ' σ'->ρ'.length=σ'.length->R σ' H)->gL K r vs σ H R
 |.nil,l,ρ,ρ',e,σ,vs,R,rel,hl,hd,k=>by
  unfold bindL at e
  cases l with
  |nil =>
   cases e
   unfold gL
   §⟨hd.e80,k σ rel hl⟩
  |cons x l=>cases e
 |.cons p r,l,ρ,ρ',e,σ,vs,R,rel,hl,hd,k=>by
  unfold bindL at e
  cases l with
  |nil=>cases e
  |cons x l =>
   ¶⟨ρ1,e1,e2⟩:=Î.mp e
   ¶⟨v,ws,rfl,h1,h2⟩:=hd.c20
   unfold gL
   §⟨v,ws,rfl,y51 e1 rel hl h1 λσ' r' l'=>g81 e2 r' l' h2 k⟩
 |.v _,_,_,_,e,_,_,_,_,_,_,_=>by unfold bindL at e;cases e
 |.tup _,_,_,_,e,_,_,_,_,_,_,_=>by unfold bindL at e;cases e
end
end
end Q
namespace Q
open PySem L2 PySem.Spec PyProof.Rows
variable [TB:Tb]
structure K52(K:PySem.W.Frag)(zA:Option Addr)(J:L2.It)(xs:List D)(H1:Hp):Prop where
 go:∀ i H,Ext zA H1 H->i < xs.length->J.go i H
 yld:∀ i H x H' z d,Ext zA H1 H->d70 zA z H->J.yld i H x H'->xs[i]?=some d->a30 H H'/\Hd K (hz zA H') d x
 stop:∀ H,Ext zA H1 H->J.stop xs.length H
structure ItB(K:PySem.W.Frag)(J:L2.It)(xs:List D)(B:Hp):Prop where
 go:∀ i H,a30 B H->i < xs.length->J.go i H
 yld:∀ i H x H' zA z d,a30 B (hz zA H)->d70 zA z H->J.yld i H x H'->xs[i]?=some d->a30 H H'/\∀ C,a30 B C->(∀ a ys,SqT K (hz zA H') a ys->SqT K C a ys)->Hd K C d x
 stop:∀ H,a30 B H->J.stop xs.length H
section
variable {K:Â}{B:Hp}
÷ItB.ok(h:ItB K J xs (hz zA H1)):K52 K zA J xs H1 :=
 ⟨λi H x=>h.go i H (a30.trans x (a20 zA H)),λi H x H' z d e st y k=>let ⟨s,f⟩:=h.yld i H x H' zA z d e st y k;⟨s,f _ (a30.trans e (k30 s)) λ_ _ q=>q⟩,λH x=>h.stop H (a30.trans x (a20 zA H))⟩
÷g91(h:q60 K B a ys)(r:HdA K B xs ys):ItB K (Itl K a) xs B where
 go:=λi H x hi=>⟨ys,ys[i]'(by rw[r.length];§hi),(h.same x).sq,by simp⟩
 yld:=λi H v H' zA z d x st y e=>by
  ¶⟨rfl,y⟩:=y
  have y1:=y ys ((h.same x).same (a20 zA _)).sq
  ¶⟨w,e1,e2⟩:=r.get e
  rw[y1] at e1;cases e1
  §⟨a30.refl _,λC c _=>e2.same c⟩
 stop:=λH x=>⟨ys,(h.same x).sq,by rw[r.length];§Í _⟩
÷y61(h:SqT K B a ys)(r:HdA K B xs ys):ItB K (Itt K a) xs B where
 go:=λi H x hi=>⟨ys,ys[i]'(by rw[r.length];§hi),a30.sqT x h,by simp⟩
 yld:=λi H v H' zA z d x st y e=>by
  ¶⟨rfl,y⟩:=y
  have y1:=y ys ((a20 zA _).sqT (a30.sqT x h))
  ¶⟨w,e1,e2⟩:=r.get e
  rw[y1] at e1;cases e1
  §⟨a30.refl _,λC c _=>e2.same c⟩
 stop:=λH x=>⟨ys,a30.sqT x h,by rw[r.length];§Í _⟩
÷y71(lo:Int)(n:Nat):ItB K (Itr lo n) ((î n).map λ(k:Nat)=>D.int (lo + k)) B where
 go:=λi H x hi=>by show i < n;simpa using hi
 yld:=λi H v H' zA z d x st y e=>by
  ¶⟨rfl,rfl⟩:=y
  rw[Ü] at e
  ¶⟨k,e1,rfl⟩:=Ê.mp e
  ¶⟨h1,h2⟩:=Ý.mp e1
  rw[Ò3] at h2
  subst h2
  §⟨a30.refl _,λ_ _ _=>Hd.int⟩
 stop:=λH x=>by show n<=_;simp
end
section
variable {K:Â}{zA:Option Ç}{H1:Hp}
÷zip_get:∀ {a b:List D}{i:Nat}{d:D},(n30 a b)[i]?=some d->∃ x y,a[i]?=some x/\b[i]?=some y/\d=.tup [x,y]
 |[],_,_,_,e=>by simp[n30] at e
 |_::_,[],_,_,e=>by simp[n30] at e
 |x::r,y::q,0,d,e=>by simp[n30] at e;§⟨x,y,rfl,rfl,e.symm⟩
 |x::r,y::q,i + 1,d,e=>by
  ¶⟨u,v,h1,h2,h3⟩:=zip_get (a:=r) (b:=q) (i:=i) (by simpa [n30] using e)
  §⟨u,v,by simpa using h1,by simpa using h2,h3⟩
÷b01:∀ (a b:List D),(n30 a b).length=min a.length b.length
 |[],_=>by simp[n30]
 |_::_,[]=>by simp[n30]
 |x::r,y::q=>by simp only[n30,Þ,b01 r q];omega
÷y81{B:Hp}{bb:Bool}{a b:Ç}{xs ys:List D}{us ws:List V}(h:∀ H,a30 B H->SqB bb K H a us)(r:HdA K B xs us)(h':∀ H,a30 B H->SqB bb K H b ws)(r':HdA K B ys ws):ItB K (Itz bb K a b) (n30 xs ys) B where
 go:=λi H x hi=>by
  rw[b01] at hi
  §⟨us,ws,us[i]'(by rw[r.length];omega),ws[i]'(by rw[r'.length];omega),h H x,h' H x,by simp,by simp⟩
 yld:=λi H v H' zA z d x st y e=>by
  ¶⟨T,rfl,hT,y⟩:=y
  ¶⟨d1,d2,e1,e2,rfl⟩:=zip_get e
  ¶⟨w1,f1,g1⟩:=r.get e1
  ¶⟨w2,f2,g2⟩:=r'.get e2
  have y1:=y us ws w1 w2 (h H (a30.trans x (a20 zA H))) (h' H (a30.trans x (a20 zA H))) f1 f2
  subst y1
  have sm:a30 H (upd H T (.tup [w1,w2])):=a30.new _ hT
  §⟨sm,λC c t=>Hd.tup (t _ _ ((st.same sm).d02 (SqT.of b20))) (.cons (g1.same c) (.cons (g2.same c) .nil))⟩
 stop:=λH x=>⟨us,ws,h H x,h' H x,by rw[b01,r.length,r'.length];omega⟩
end
def PX(P:D->Prop):D->Prop
 |.tup l=>∀ y∈l,P y
 |.lst l=>∀ y∈l,P y
 |_=>True
def ItX(K:Â)(zA:Option Ç)(H H':Hp)(l:List S)(J:L2.It)(xs:List D):Prop :=
 ∀ (P:D->Prop) (B:Hp),a30 B (hz zA H')->(∀ a ys,SqT K (hz zA H') a ys->SqT K B a ys)->(∀ d v,P d->Hd K (hz zA H') d v->Hd K B d v)->(∀ ds,plA l=some ds->∀ d∈ds,PX P d) ->
  (∀ a ys,q60 K (hz zA H') a ys->((H a=none/\H' a=some (.lst ys))∨n41 l=true)->q60 K B a ys)->ItB K J xs B
÷HdA.move{K:Â}{H B:Hp}{P:D->Prop}(mv:∀ d v,P d->Hd K H d v->Hd K B d v):∀ {ds:List D}{vs:List V},(∀ y∈ds,P y)->HdA K H ds vs->HdA K B ds vs
 |[],_,_,h=>by rw[h.e80];§.nil
 |d::ds,_,p,h=>by
  ¶⟨x,r,rfl,h1,h2⟩:=h.c20
  §.cons (mv d x (p d Ì) h1) (HdA.move mv (λy hy=>p y (È _ hy)) h2)
÷ItX.ok{K:Â}{zA:Option Ç}{H H':Hp}{l:List S}{J:L2.It}{xs:List D}(h:ItX K zA H H' l J xs):K52 K zA J xs H':=by
 ¤(h (λ_=>True) (hz zA H') (a30.refl _) (λ_ _ q=>q) (λ_ _ _ q=>q) (λds _ d _=>?_) λ_ _ q _=>q).ok
 cases d <;> first | trivial | §λ_ _=>trivial
def tIt(K:Â)(G:Gs)(E:XK)(it:It)(src:Ex):TI:=λσ H R=>∃ zA ρ z r,y50 K zA H ρ σ/\d70 zA z H/\ev G.F src ρ z=some r/\(match r with
 |.ok l z'=>∃ xs,(plA l).bind (itD it)=some xs/\∀ J H',Ext zA H H'->d70 zA z' H'->ItX K zA H H' l J xs->R J H'
 |.er c z'=>EPost G zA E c z' H)
section
variable {lm:Bool}{X:Cx}{G:Gs}{E:XK}{N:List Str}{sc:ý}
÷w22{zA:Option Ç}{H:Hp}{it:It}{P:L2.It->Hp->Prop}{r:R (List S)}(po:(match r with | .ok l z'=>∃ xs,(plA l).bind (itD it)=some xs/\∀ J H',Ext zA H H'->d70 zA z' H'->ItX X.K zA H H' l J xs->P J H' | .er c z'=>EPost G zA E c z' H)):∀ c z1,r=.er c z1->EPost G zA E c z1 H:=λc z1 e=>by subst e;§po
÷y91{s:S}{ds:List D}(h:plA [s]=some ds):∃ d,ds=[d]/\plD s=some d:=by
 cases s with
 |d x=>cases h;§⟨x,rfl,rfl⟩
 |fr xs=>cases h;§⟨_,rfl,rfl⟩
 |z=>cases h
÷V41{tg e:Ò}{a:Ex}(g:b00 X G E a e):PI X tg e (tIt X.K G E .seq (.cons a .nil)):=by
 intro pins s σ H R I q
 ¶⟨zA,ρ,z,rr,rel,st,ee,po⟩:=q
 have e0:M.bind (ev G.F a ρ) (λx=>M.bind (M.of (one x)) λs=>M.bind (ev G.F .nil ρ) λy=>M.ret (s::y)) z=some rr:=ee
 rcases M.bind_some e0 with ⟨m,z1,e1,e2⟩ | ⟨c,z1,e1,e2⟩
 ·¶⟨t,ht,e3⟩:=M.a10 e2
  cases e3
  have hm:=D80 ht
  subst hm
  ¶⟨xs,hx,po⟩:=po
  ¶⟨ds,h1,h2⟩:=Î.mp hx
  ¶⟨d,rfl,h3⟩:=y91 h1
  cases d with
  |tup l =>
   cases h2
   ¤S71 g.pe pins s σ H R I ⟨zA,ρ,z,_,rel,st,e1,t,rfl,λv H1 x1 st1 rv=>?_⟩
   ¶⟨b,ys,rfl,k1,k2⟩:=(rv.pl.d_ h3).A10
   §⟨b,rfl,⟨ys,(a20 zA H1).sqT k1⟩,po _ H1 x1 st1 λP B sub tup mv pa sf=>y61 (tup _ _ k1) (HdA.move mv (show ∀ y∈xs,P y from pa _ h1 _ Ì) k2)⟩
  |lst l =>
   cases h2
   ¤X90 g.pe pins s σ H R I ⟨zA,ρ,z,_,rel,st,e1,t,rfl,λv H1 x1 st1 rv=>?_⟩
   have fin:∀ {b:Ç}{ys:List V},q60 X.K (hz zA H1) b ys->HdA X.K (hz zA H1) xs ys->((H b=none/\H1 b=some (.lst ys))∨n41 [t]=true)->∃ a,V.ref b=.ref a/\(∃ xs,SqL X.K H1 a xs)/\R (Itl X.K a) H1:=λ{b ys} k1 k2 k5=>by
    §⟨b,rfl,⟨ys,(k1.same (a20 zA H1)).sq⟩,po _ H1 x1 st1 λP B sub tup mv pa sf=>g91 (sf _ _ k1 k5) (HdA.move mv (show ∀ y∈xs,P y from pa _ h1 _ Ì) k2)⟩
   cases t with
   |z=>cases h3
   |d x =>
    cases h3
    ¶⟨b,ys,rfl,k1,k2⟩:=Hd.X50 (show Hd X.K (hz zA H1) (.lst xs) v from rv)
    §fin k1 k2 (.inr rfl)
   |fr x =>
    cases h3
    ¶⟨b,ys,rfl,k0,k1,k2,k3⟩:=rv
    §fin (q60.of (d50 k2 k1)) (k3.same (e60 b _)) (.inl ⟨k0,k2⟩)
  |_=>cases h2
 ·§X90 g.pe pins s σ H R I ⟨zA,ρ,z,_,rel,st,e1,(w22 po) c z1 e2⟩
÷M20{l:List S}{it:It}{xs:List D}(h:(plA l).bind (itD it)=some xs):∃ ds,plA l=some ds/\itD it ds=some xs:=Î.mp h
÷z01(x:XI lm X G E N sc){tg a:Ò}{as:Ex}{n:Str}{p pos:Pos}(hn:n="range")(hg:glob sc n=true)(hL:isL as=true)(g:Good X G E as [a]):PI X tg (.Call (.Name n p) [a] [] pos) (tIt X.K G E .rng1 as):=by
 subst hn
 ¶⟨k1,k2,k3⟩:=d20 hg
 ¶⟨ha,hs⟩:=g.args hL
 rw[Ä5,Á] at hs
 intro pins s σ H R I q
 ¤P50 (x.glb _ k1) (x.blt _ (by decide)) ha (c60 hs.1 [] X.env) pins s σ H R I ?_
 ¶⟨zA,ρ,z,rr,rel,st,ee,po⟩:=q
 ¤⟨zA,ρ,z,rr,rel,st,ee,?_⟩
 cases rr with
 |er c z1=>§po
 |ok l z1 =>
  ¶⟨xs,hx,po⟩:=po
  intro vs H1 x1 st1 rvs
  ¶⟨ds,h1,h2⟩:=M20 hx
  have hd:=G30 rvs h1
  match ds,h2 with
  |[.int j],h2 =>
   ¶⟨hj,h2⟩:=f70 h2
   have hj:=G20.mp hj
   cases h2
   ¶⟨v,rfl,h3⟩:=hd.one
   cases h3.h90
   ¤⟨j,rfl,by omega,by omega,po _ H1 x1 st1 λP B sub tup mv pa sf=>?_⟩
   have:=y71 (K:=X.K) (B:=B) 0 j.toNat
   simpa using this
÷z11(x:XI lm X G E N sc){tg a b:Ò}{as:Ex}{n:Str}{p pos:Pos}(hn:n="range")(hg:glob sc n=true)(hL:isL as=true)(g:Good X G E as [a,b]):PI X tg (.Call (.Name n p) [a,b] [] pos) (tIt X.K G E .rng2 as):=by
 subst hn
 ¶⟨k1,k2,k3⟩:=d20 hg
 ¶⟨ha,hs⟩:=g.args hL
 rw[Ä5,Ä5,Á,Á] at hs
 intro pins s σ H R I q
 ¤r21 (x.glb _ k1) (x.blt _ (by decide)) ha (by rw[c60 hs.1,c60 hs.2.1];rfl) (c60 hs.2.1 [] X.env) pins s σ H R I ?_
 ¶⟨zA,ρ,z,rr,rel,st,ee,po⟩:=q
 ¤⟨zA,ρ,z,rr,rel,st,ee,?_⟩
 cases rr with
 |er c z1=>§po
 |ok l z1 =>
  ¶⟨xs,hx,po⟩:=po
  intro vs H1 x1 st1 rvs
  ¶⟨ds,h1,h2⟩:=M20 hx
  have hd:=G30 rvs h1
  match ds,h2 with
  |[.int i,.int j],h2 =>
   ¶⟨hj,h2⟩:=f70 h2
   have hi:=G20.mp hj.1
   have hj:=G20.mp hj.2
   cases h2
   ¶⟨v,w,rfl,h3,h4⟩:=hd.two
   cases h3.h90;cases h4.h90
   §⟨i,j,rfl,by omega,po _ H1 x1 st1 λP B sub tup mv pa sf=>y71 i (j - i).toNat⟩
÷z21{s:S}{r:List S}{ds:List D}(h:plA (s::r)=some ds):∃ x q,ds=x::q/\plD s=some x/\plA r=some q:=by
 cases s with
 |d y =>
  ¶⟨q,e,rfl⟩:=Ê.mp h
  §⟨y,q,rfl,rfl,e⟩
 |fr y =>
  ¶⟨q,e,rfl⟩:=Ê.mp h
  §⟨_,q,rfl,rfl,e⟩
 |z=>cases h
÷f62{l:List S}{x y:D}(h:plA l=some [x,y]):∃ s t,l=[s,t]/\plD s=some x/\plD t=some y:=by
 cases l with
 |nil=>cases h
 |cons s r =>
  ¶⟨_,_,e,h1,h2⟩:=z21 h
  cases e
  cases r with
  |nil=>cases h2
  |cons t r =>
   ¶⟨_,_,e,h3,h4⟩:=z21 h2
   cases e
   cases r with
   |nil=>§⟨s,t,rfl,h1,h3⟩
   |cons u r =>
    ¶⟨_,_,e,_⟩:=z21 h4
    cases e
÷O41{s t:S}(h:n41 [s]=true):n41 [s,t]=true:=by
 match s,h with
 |.d (.lst _),_=>rfl
÷O51{s t:S}(h:n41 [t]=true):n41 [s,t]=true:=by
 match s with
 |.d (.lst _)=>rfl
 |.d .non | .d (.bl _) | .d (.int _) | .d (.str _) | .d (.tup _) | .d .dct | .fr _ | .z=>§h
÷z31{K:Â}{zA:Option Ç}{H H1:Hp}{t:S}{v:V}{a:List D}(rv:RvS K zA H H1 t v)(h:plD t=some (.lst a)):∃ b ys,v=.ref b/\q60 K (hz zA H1) b ys/\HdA K (hz zA H1) a ys/\((H b=none/\H1 b=some (.lst ys))∨n41 [t]=true):=by
 cases t with
 |d x =>
  cases h
  ¶⟨b,ys,rfl,k1,k2⟩:=Hd.X50 (show Hd K (hz zA H1) (.lst a) _ from rv)
  §⟨b,ys,rfl,k1,k2,.inr rfl⟩
 |fr x =>
  cases h
  ¶⟨b,ys,rfl,k0,k1,k2,k3⟩:=rv
  §⟨b,ys,rfl,q60.of (d50 k2 k1),k3.same (e60 b _),.inl ⟨k0,k2⟩⟩
 |z=>cases h
÷z41(x:XI lm X G E N sc){tg a b:Ò}{as:Ex}{n:Str}{p pos:Pos}(ht:n60 tg=true)(hn:n="zip")(hg:glob sc n=true)(hL:isL as=true)(g:Good X G E as [a,b]):PI X tg (.Call (.Name n p) [a,b] [] pos) (tIt X.K G E .zip as):=by
 subst hn
 ¶⟨k1,k2,k3⟩:=d20 hg
 ¶⟨ha,hs⟩:=g.args hL
 rw[Ä5,Ä5,Á,Á] at hs
 cases tg with
 |Tuple es ek ep =>
  intro pins s σ H R I q
  ¤p12 (x.glb _ k1) (x.blt _ (by decide)) ha (by rw[c60 hs.1,c60 hs.2.1];rfl) (c60 hs.2.1 [] X.env) pins s σ H R I ?_
  ¶⟨zA,ρ,z,rr,rel,st,ee,po⟩:=q
  ¤⟨zA,ρ,z,rr,rel,st,ee,?_⟩
  cases rr with
  |er c z1=>§po
  |ok l z1 =>
   ¶⟨xs,hx,po⟩:=po
   intro vs H1 x1 st1 rvs
   ¶⟨ds,h1,h2⟩:=M20 hx
   have hd:=G30 rvs h1
   match ds,h2 with
   |[.tup a,.tup b],h2 =>
    cases h2
    ¶⟨v,w,rfl,h3,h4⟩:=hd.two
    ¶⟨p1,us,rfl,m1,m2⟩:=h3.A10
    ¶⟨p2,ws,rfl,m3,m4⟩:=h4.A10
    §⟨false,p1,p2,rfl,⟨us,(a20 zA H1).sqT m1⟩,⟨ws,(a20 zA H1).sqT m3⟩,po _ H1 x1 st1 λP B sub tup mv pa sf=>y81 (λ_ x=>a30.sqT x (tup _ _ m1)) (HdA.move mv (show ∀ y∈a,P y from pa _ h1 _ Ì) m2) (λ_ x=>a30.sqT x (tup _ _ m3)) (HdA.move mv (show ∀ y∈b,P y from pa _ h1 _ (È _ Ì)) m4)⟩
   |[.lst a,.lst b],h2 =>
    cases h2
    ¶⟨t1,t2,rfl,e1,e2⟩:=f62 h1
    cases rvs with
    |cons rv1 rn =>
     cases rn with
     |cons rv2 rn =>
      cases rn
      ¶⟨p1,us,rfl,m1,m2,m3⟩:=z31 rv1 e1
      ¶⟨p2,ws,rfl,m4,m5,m6⟩:=z31 rv2 e2
      ¤⟨true,p1,p2,rfl,⟨us,(m1.same (a20 zA H1)).sq⟩,⟨ws,(m4.same (a20 zA H1)).sq⟩,po _ H1 x1 st1 λP B sub tup mv pa sf=>y81 (λ_ x=>((sf _ _ m1 (m3.imp id λq=>?_)).same x).sq) (HdA.move mv (show ∀ y∈a,P y from pa _ h1 _ Ì) m2) (λ_ x=>((sf _ _ m4 (m6.imp id λq=>?_)).same x).sq) (HdA.move mv (show ∀ y∈b,P y from pa _ h1 _ (È _ Ì)) m5)⟩
      ·§O41 q
      ·§O51 q
 |_=>cases ht
÷h01:∀ {a:List D}{i n:Nat}{d:D},(w90 a n)[i]?=some d->∃ x,a[i]?=some x/\d=.tup [.int ((n + i:Nat):Int),x]
 |[],_,_,_,e=>by simp[w90] at e
 |x::r,0,n,d,e=>by simp[w90] at e;§⟨x,rfl,e.symm⟩
 |x::r,i + 1,n,d,e=>by
  ¶⟨u,h1,h2⟩:=h01 (a:=r) (i:=i) (n:=n + 1) (by simpa [w90] using e)
  §⟨u,by simpa using h1,by rw[h2,show n + 1 + i=n + (i + 1) by omega]⟩
÷M30:∀ (a:List D) (n:Nat),(w90 a n).length=a.length
 |[],_=>rfl
 |x::r,n=>by simp only[w90,Þ,M30 r]
÷h31(h:∀ H,a30 B H->SqB b X.K H a us)(r:HdA X.K B xs us):ItB X.K (Ite b X.K a) (w90 xs 0) B where
 go:=λi H x hi=>by
  rw[M30] at hi
  §⟨us,us[i]'(by rw[r.length];omega),h H x,by simp⟩
 yld:=λi H v H' zA z d x st y e=>by
  ¶⟨T,rfl,hT,y⟩:=y
  ¶⟨d1,e1,rfl⟩:=h01 e
  ¶⟨w1,f1,g1⟩:=r.get e1
  have y1:=y us w1 (h H (a30.trans x (a20 zA H))) f1
  subst y1
  have sm:a30 H (upd H T (.tup [.int i,w1])):=a30.new _ hT
  §⟨sm,λC c t=>Hd.tup (t _ _ ((st.same sm).d02 (SqT.of b20))) (.cons (by rw[É5];§Hd.int) (.cons (g1.same c) .nil))⟩
 stop:=λH x=>⟨us,h H x,by rw[M30,r.length]⟩
÷f72(h:plA l=some [d]):∃ s,l=[s]:=by
 cases l with
 |nil=>cases h
 |cons s r =>
  cases r with
  |nil=>§⟨s,rfl⟩
  |cons t q=>exfalso;cases s <;> cases t <;> first | (cases h;done) | (simp only[plA,Option.map_map,Õ0] at h;¶⟨_,_,h⟩:=h;cases h)
÷h41(x:XI lm X G E N sc){tg a:Ò}{as:Ex}{n:Str}{p pos:Pos}(ht:n60 tg=true)(hn:n="enumerate")(hg:glob sc n=true)(hL:isL as=true)(g:Good X G E as [a]):PI X tg (.Call (.Name n p) [a] [] pos) (tIt X.K G E .enum as):=by
 subst hn
 ¶⟨k1,k2,k3⟩:=d20 hg
 ¶⟨ha,hs⟩:=g.args hL
 rw[Ä5,Á] at hs
 cases tg with
 |Tuple es ek ep =>
  intro pins s σ H R I q
  ¤b32 (x.glb _ k1) (x.blt _ (by decide)) ha (c60 hs.1 [] X.env) pins s σ H R I ?_
  ¶⟨zA,ρ,z,rr,rel,st,ee,po⟩:=q
  ¤⟨zA,ρ,z,rr,rel,st,ee,?_⟩
  cases rr with
  |er c z1=>§po
  |ok l z1 =>
   ¶⟨xs,hx,po⟩:=po
   intro vs H1 x1 st1 rvs
   ¶⟨ds,h1,h2⟩:=M20 hx
   have hd:=G30 rvs h1
   match ds,h2 with
   |[.tup a],h2 =>
    cases h2
    ¶⟨v,rfl,h3⟩:=hd.one
    ¶⟨p1,us,rfl,m1,m2⟩:=h3.A10
    §⟨false,p1,rfl,⟨us,(a20 zA H1).sqT m1⟩,po _ H1 x1 st1 λP B sub tup mv pa sf=>h31 (λ_ x=>a30.sqT x (tup _ _ m1)) (HdA.move mv (show ∀ y∈a,P y from pa _ h1 _ Ì) m2)⟩
   |[.lst a],h2 =>
    cases h2
    have fin:∀ (b:Ç) (ys:List V),q60 X.K (hz zA H1) b ys->HdA X.K (hz zA H1) a ys->((H b=none/\H1 b=some (.lst ys))∨n41 l=true)->∃ bb p,[V.ref b]=[.ref p]/\(∃ xs,SqB bb X.K H1 p xs)/\R (Ite bb X.K p) H1:=λb ys k1 k2 k5 =>
     ⟨true,b,rfl,⟨ys,(k1.same (a20 zA H1)).sq⟩,po _ H1 x1 st1 λP B sub tup mv pa sf=>h31 (λ_ x=>((sf _ _ k1 k5).same x).sq) (HdA.move mv (show ∀ y∈a,P y from pa _ h1 _ Ì) k2)⟩
    ¶⟨t,rfl⟩:=f72 h1
    cases rvs with
    |cons rv rn =>
     cases rn
     cases t with
     |d x =>
      cases h1
      ¶⟨b,ys,rfl,k1,k2⟩:=Hd.X50 (show Hd X.K (hz zA H1) (.lst a) _ from rv)
      §fin _ _ k1 k2 (.inr rfl)
     |fr x =>
      cases h1
      ¶⟨b,ys,rfl,k0,k1,k2,k3⟩:=rv
      §fin _ _ (q60.of (d50 k2 k1)) (k3.same (e60 b _)) (.inl ⟨k0,k2⟩)
     |z=>cases h1
 |_=>cases ht
abbrev EF:XK:=λ_ _ _=>False
def ttC(K:Â)(G:Gs):Ex->TT
 |.nil=>I81
 |.cons c _=>tT K G EF c
 |_=>λ_ _ _=>False
÷o01(h:turns f (x::r) z=some (.ok ys z2)):∃ o z1 l,f x z=some (.ok o z1)/\turns f r z1=some (.ok l z2)/\ys=(match o with | some y=>y::l | none=>l):=by
 rcases M.bind_some (show M.bind (f x) _ z=_ from h) with ⟨o,z1,e1,e2⟩ | ⟨c,z1,e1,e2⟩
 ·rcases M.bind_some e2 with ⟨l,z3,e3,e4⟩ | ⟨c,z3,e3,e4⟩
  ·cases e4
   §⟨o,z1,l,e1,e3,rfl⟩
  ·cases e4
 ·cases e2
÷f82{zA:Option Ç}{J:L2.It}{xs ys:List D}{H1:Hp}{z1 z2:Z}{p:Pat}{cond el:Ex}{ρ0:Env}{σ0:L2.St}{Q:VK}(IT:K52 X.K zA J xs H1)(hm:xs.length<=most)(rel0:y50 X.K zA H1 ρ0 σ0)(len:ρ0.length=σ0.length)(st1:d70 zA z1 H1)
  (hc:cond=.nil∨∃ c,cond=.cons c .nil) (e:turns (o80 (ev G.F cond) (ev G.F el) p ρ0) xs z1=some (.ok ys z2))
  (fin:∀ H2 vs l,Ext zA H1 H2->d70 zA z2 H2->HdA X.K (hz zA H2) ys vs->H2 l=none->Q (.ref l) (upd H2 l (.lst vs))):s61 J σ0 H1 (gP X.K p) (ttC X.K G cond) (tI X.K G EF el) Q:=by
 ¤⟨λi m vs H=>m=xs.length - i/\i<=xs.length/\vs.length<=i/\∃ yd z rest,Ext zA H1 H/\d70 zA z H/\HdA X.K (hz zA H) yd vs/\turns (o80 (ev G.F cond) (ev G.F el) p ρ0) (xs.drop i) z=some (.ok rest z2)/\ys=yd++rest,
  ⟨xs.length,rfl,Æ6 _,Æ6 _,[],z1,ys,Ext.refl,st1,.nil,by simpa using e,rfl⟩,?_⟩
 rintro i m vs H ⟨rfl,hi,hv,yd,z,rest,x,st,hd,et,ey⟩
 by_cases hlt:i < xs.length
 ·¤.inr ⟨IT.go i H x hlt,Ç5 hv (Ú hlt (f00 hm)),
   λws H'=>ws.length<=i + 1/\∃ yd z rest,Ext zA H1 H'/\d70 zA z H'/\HdA X.K (hz zA H') yd ws/\turns (o80 (ev G.F cond) (ev G.F el) p ρ0) (xs.drop (i + 1)) z=some (.ok rest z2)/\ys=yd++rest,
   λws H' q=>⟨xs.length - (i + 1),by omega,rfl,hlt,q.1,q.2⟩,λv H' y=>?_⟩
  ¶⟨sm,hx⟩:=IT.yld i H v H' z xs[i] x st y (by simp[hlt])
  rw[ß6 hlt] at et
  ¶⟨o,z3,l,f1,f2,f3⟩:=o01 et
  ¶⟨ρ',b1,f4⟩:=M.a10 (show M.bind (M.of (e70 p xs[i] ρ0)) _ z=_ from f1)
  have x':Ext zA H1 H':=x.trans (Ext.of sm)
  have st':=st.same sm
  ¤y51 b1 (rel0.mono x') len hx λσ' rel' len'=>?_
  have yes:∀ {za:Z}{Ha:Hp},Ext zA H' Ha->d70 zA za Ha->M.bind (ev G.F el ρ') (λy=>M.bind (M.of (pl y)) λy=>M.ret (some y)) za=some (.ok o z3)->tI X.K G EF el σ' Ha (λy H4=>(vs++[y]).length<=i + 1/\∃ yd z rest,Ext zA H1 H4/\d70 zA z H4/\HdA X.K (hz zA H4) yd (vs++[y])/\turns (o80 (ev G.F cond) (ev G.F el) p ρ0) (xs.drop (i + 1)) z=some (.ok rest z2)/\ys=yd++rest):=λ{za Ha} xa sta ea=>by
   ¤j40 (rel'.mono xa) sta ea (λc z1 h=>by cases h) λm z4 e4=>?_
   ¶⟨d,p1,e5⟩:=M.a10 e4
   ¶⟨s1,rfl,q1⟩:=e90 p1
   cases e5
   ¤⟨s1,rfl,λw H4 x4 st4 rv=>⟨by rw[Â0];simp;omega,yd++[d],z3,l,(x'.trans xa).trans x4,st4,?_,f2,by rw[ey,f3,Ô7];rfl⟩⟩
   §(hd.same (a30.trans (k30 sm) (a30.trans xa.same x4.same))).append (.cons (rv.pl.d_ q1) .nil)
  rcases hc with rfl | ⟨c,rfl⟩
  ·have f5:M.bind (ev G.F el ρ') (λy=>M.bind (M.of (pl y)) λy=>M.ret (some y)) z=some (.ok o z3):=f4
   have ty:ttC X.K G .nil=I81:=rfl
   rw[ty]
   ¤L01 ?_
   dsimp only
   rw[if_pos rfl]
   §yes Ext.refl st' f5
  ·rcases M.bind_some (show M.bind (ev G.F (.cons c .nil) ρ') _ z=_ from f4) with ⟨m,za,e1,e2⟩ | ⟨q,za,e1,e2⟩
   ·rcases M.bind_some (show M.bind (ev G.F c ρ') _ z=_ from e1) with ⟨m',zb,e3,e4⟩ | ⟨q,zb,e3,e4⟩
    ·¶⟨s,hs,e5⟩:=M.a10 e4
     cases e5
     have hm':=D80 hs
     subst hm'
     show tT X.K G EF c σ' H' _
     have tb:∃ b,s=.d (.bl b):=by
      cases s with
      |d y=>cases y with
       |bl b=>§⟨b,rfl⟩
       |_=>cases e2
      |fr _=>cases e2
      |z=>cases e2
     ¶⟨b,rfl⟩:=tb
     ¤⟨zA,ρ',z,_,rel',st',e3,b,rfl,λHa xa sta=>?_⟩
     cases b with
     |true =>
      rw[if_pos rfl]
      §yes xa sta e2
     |false =>
      rw[if_neg Ð]
      cases e2
      §⟨Ñ hv (le_succ _),yd,z3,l,x'.trans xa,sta,hd.same (a30.trans (k30 sm) xa),f2,by rw[ey,f3]⟩
    ·cases e4
   ·cases e2
 ·have hi':i=xs.length:=by omega
  subst hi'
  rw[drop_length] at et
  cases et
  ¤.inl ⟨IT.stop H x,λl hl=>fin H vs l x st (by rw[ey,append_nil];§hd) hl⟩
end
section
variable {K:Â}{zA:Option Ç}{z:Z}{H H2:Hp}{P:Ç}{q:Str}
÷O61(KB:K90 P H H2)(t:Tab H P q)(t2:Tab H2 P q):Ext zA H H2:=by
 ¤⟨λb o h=>?_,λb ps h=>?_⟩
 ·¶⟨h1,h2⟩:=r30 h
  have nt:=s00 h
  ¶⟨ps,hp,_⟩:=t
  have hb:b≠P:=λz=>by
   subst z
   rw[hp] at h1
   cases h1
   §nt _ rfl
  §d50 (KB.same b o hb h1) h2 nt
 ·by_cases hb:b=P
  ·subst hb
   ¶⟨qs,e,_⟩:=t2
   §⟨qs,e⟩
  ·§⟨ps,KB.same b _ hb h⟩
÷f92(KB:K90 P H H2)(t:Tab H P q)(t2:Tab H2 P q)(uq:∀ p∈TB.tb,p.1=P->p.2=q)(st:d70 zA z H):d70 zA z H2:=by
 ¶⟨ps,hp,_⟩:=t
 have ne:∀ {b:Ç}{o:HO},H b=some o->(∀ l,o≠.tbl l)->b≠P:=λ{b o} e1 e2 z=>by
  subst z
  rw[hp] at e1
  cases e1
  §e2 _ rfl
 ¤⟨?_,λp hq=>?_⟩
 ·have h:=st.zat
  cases zA with
  |none=>cases z with
   |none=>trivial
   |some _=>§h.elim
  |some a=>cases z with
   |none=>§h.elim
   |some pr =>
    have h':H a=some (.lst [.int pr.1,.bl pr.2]):=h
    §KB.same _ _ (ne h' λ_ z=>nomatch z) h'
 ·by_cases hb:p.1=P
  ·rw[uq p hq hb,hb];§t2
  ·¶⟨qs,e,tr,k⟩:=st.tab p hq
   ¤⟨qs,KB.same _ _ hb e,tr,λpos c hc=>?_⟩
   ¶⟨c',e1,e2⟩:=k pos c hc
   §⟨c',e1,KB.same _ _ (ne e2 λ_ z=>nomatch z) e2⟩
÷z51:∀ l:List Nat,(b70 N l).length<=l.length
 |[]=>Í _
 |j::q=>by
  have ih:=z51 (N:=N) q
  unfold b70
  split
  ·rw[Þ,Þ];omega
  ·rw[Þ];omega
÷T50(rel:y50 K zA H ρ σ):∀ {capt:List Nat}{ss:List S},M91 ρ capt=some ss->(b70 N capt).length=capt.length ->
  ∃ vs,RvA K zA H ss vs/\vs.length=(b70 N capt).length/\∀ (i:Nat) (x:Str) (v:V),((b70 N capt).map (·.1))[i]?=some x->vs[i]?=some v->∃ j:Nat,N[j]?=some x/\σ[j]?=some (some v)
 |[],ss,h,_=>by
  cases h
  §⟨[],.nil,rfl,λi x v h=>by simp[b70] at h⟩
 |i::capt,ss,h,hl=>by
  have h:(match ρ[i]? with | some (some s)=>(M91 ρ capt).map (s::·) | _=>none)=some ss:=h
  have le:=z51 (N:=N) capt
  obtain⟨s,r,e2,h3,rfl⟩:∃ s r,ρ[i]?=some (some s)/\M91 ρ capt=some r/\ss=s::r:=by
   split at h
   ·rename_i s e
    ¶⟨r,h3,h4⟩:=Ê.mp h
    §⟨s,r,e,h3,h4.symm⟩
   ·cases h
  ¶⟨v,k1,k2⟩:=rel i s e2
  cases hN:N[i]? with
  |none =>
   unfold b70 at hl
   rw[hN] at hl
   simp only[Þ] at hl
   omega
  |some y =>
   unfold b70 at hl ⊢
   rw[hN] at hl ⊢
   simp only[Þ] at hl
   ¶⟨vs,a1,a2,a3⟩:=T50 rel (N:=N) (capt:=capt) h3 (by omega)
   ¤⟨v::vs,.cons k2 a1,by simp[a2],λj x u b1 b2=>?_⟩
   cases j with
   |zero =>
    simp only[Å7,Ë1,Ê3] at b1 b2
    subst b1;subst b2
    §⟨i,hN,k1⟩
   |succ j=>§a3 j x u (by simpa using b1) (by simpa using b2)
÷h51:∀ {ss:List S}{vs:List V},RvA K zA H ss vs->y50 K zA H (ss.map some) (vs.map some)
 |[],_,h,i,s,e=>by simp at e
 |a::ss,_,h,i,s,e=>by
  cases h with
  |cons h1 h2 =>
   cases i with
   |zero =>
    simp only[Å7,Ë1,Ê3] at e
    subst e
    §⟨_,rfl,h1⟩
   |succ i =>
    ¶⟨v,k1,k2⟩:=h51 h2 i s (by simpa using e)
    §⟨v,by simpa using k1,k2⟩
end
section
variable {lm:Bool}{X:Cx}{G:Gs}{E:XK}{N:List Str}{sc:ý}
÷w32(x:XI lm X G E N sc)(hlm:lm=true){capt:List Nat}{a:Ex}{body:Ò}{lsc:ý}{p lpos pos:Pos}(hg:glob sc "_law_refused"=true)(hc:(b70 N capt).length=capt.length)(hs:f12 lsc sc (b70 N capt)=true)(hL:isL a=false)
  (ih:∀ (k:Nat) {X:Cx}{E:XK},XI false X (lowG G k) E ((b70 N capt).map (·.1)) lsc->Good X (lowG G k) E a [body]):b00 X G E (.refd capt a) (.Call (.Name "_law_refused" p) [.Lambda ⟨[],[],none,[],[],none,[]⟩ body lsc lpos] [] pos):=by
 ¶⟨c,P,q,k,fR,fdR,L⟩:=x.lam hlm
 ¶⟨k1,k2,k3⟩:=d20 hg
 unfold f12 at hs
 simp only[Á,À1,beq_iff_eq,Æ9,decide_eq_true_eq] at hs
 ¶⟨⟨⟨⟨⟨⟨s1,s2⟩,s3⟩,s4⟩,s5⟩,s6⟩,s7⟩:=hs
 ¤b10 (λpins s σ H Q I qq=>?_) rfl
 ¶⟨zA,ρ,z,rr,rel,st,e,po⟩:=qq
 have e0:r42 (M91 ρ capt) (λρ'=>ev (n40 G.F) a ρ') z=some rr:=e
 unfold r42 at e0
 split at e0
 ·cases e0
 ·rename_i ss hss
  split at e0
  ·rename_i cc z1 he
   split at e0
   ·rename_i hc12
    cases e0
    ¶⟨vs,ra,hvl,hvs⟩:=T50 rel hss hc
    have tab:=st.tab _ L.tb
    have hfree:∀ y∈(b70 N capt).map (·.1),lsc.names.lookup y=some .free:=λy hy=>by
     ¶⟨pr,h1,rfl⟩:=Ö.mp hy
     §s6 pr h1
    ¤Z10 (RR:=λH2 H'=>Ext zA H2 H'/\d70 zA z1 H') (cls:=.ref (G.cls cc)) (N:=(b70 N capt).map (·.1)) (k:=k) (P:=P) (qual:=q) L.fn (by rw[← L.lv];§x.room) (x.glb _ k1) L.m L.kp L.bd L.code L.hd L.qual L.bm (λy hy hf=>?_) (λy hy=>by simpa using s4 y hy) hfree s1 s2 s3 rfl (λ_ _ _ _=>rfl) k2 rfl pins s σ H Q I ?_
    ·have:=s5 y hy
     rw[hf] at this
     unfold Env.kindOf
     rw[L.sco]
     simpa using this
    ·¤⟨tab,vs,by rw[É];§hvl,λi y v h1 h2=>by rw[x.hN];§hvs i y v h1 h2,λH2 KB TB2=>?_⟩
     have x2:Ext zA H H2:=O61 KB tab TB2
     have st2:d70 zA z H2:=f92 KB tab TB2 L.uq st
     ¤⟨λf c' cl A outer s3 H3 hr sm=>?_,λs2 f th=>?_⟩
     ·have XL:XI false (R60 X.prog X.w X.K X.mg X.base ((b70 N capt).map (·.1)) q lsc f (.ref c') cl A outer s3 H3 λc _ H'=>c=.ref (G.cls cc)/\Ext zA H2 H'/\d70 zA z1 H') (lowG G k) (λc _ H'=>c=.ref (G.cls cc)/\Ext zA H2 H'/\d70 zA z1 H') ((b70 N capt).map (·.1)) lsc :=
       { gok:=L.low,num:=x.num,blt:=x.blt,hN:=rfl,nd:=s7,vis:=λy hy=>.inr (.inr (hfree y hy)),glb:=λy h=>h,cel:=λy h=>h,calm:=rfl,room:=hr,pas:=b62,lam:=λh=>nomatch h }
      ¤⟨_,(a90 hL (ih k XL)).pe,?_⟩
      ¤⟨zA,ss.map some,z,_,h51 (RvA.mono ra (x2.trans (Ext.of sm))),st2.same sm,he,λea H' xx stt hn=>?_⟩
      §⟨rfl,(Ext.of sm).trans xx,stt⟩
     ·¤⟨f,G.cls cc,cc,_,rfl,th,L.cls cc hc12,λl H1 H' hRR sm hl=>?_⟩
      ¶⟨x1,st1⟩:=hRR
      ¶⟨s',e',po⟩:=po
      cases e'
      have xx:Ext zA H H':=(x2.trans x1).trans (Ext.of sm)
      have stt:=st1.same sm
      §po _ _ (xx.trans (Ext.of (a30.new _ hl))) (stt.same (a30.new _ hl)) ((n50 stt (HdA.cons Hd.int HdA.nil) hl).from xx)
   ·cases e0
  ·cases e0
end
÷i00{env:È9}{k0:Ë6}(hk:k0≠.free):∀ {names:List (Str × Ë6)}{x:Str},names.lookup x=some k0 ->
  (names.map λ(n,k)=>if (k == ó&&env.scope.kind == .function&&env.kindOf n == some .cell) then(n,Æ2) else(n,k)).lookup x=some k0
 |[],_,h=>by simp at h
 |(n,k)::r,x,h=>by
  have ih:=@i00 env k0 hk r x
  show Í3 x ((if (k == ó&&env.scope.kind == .function&&env.kindOf n == some .cell)=true then(n,Æ2) else(n,k))::_)=_
  cases hx:x == n with
  |true =>
   simp only[À9,hx] at h
   cases h
   have:(k0 == ó)=false:=by simpa using hk
   rw[this,Õ7,Õ7,if_neg Ð]
   simp only[À9,hx]
  |false =>
   simp only[À9,hx] at h
   by_cases hq:(k == ó&&env.scope.kind == .function&&env.kindOf n == some .cell)=true
   ·rw[if_pos hq];simp only[À9,hx];§ih h
   ·rw[if_neg hq];simp only[À9,hx];§ih h
section
variable {lm:Bool}{X:Cx}{G:Gs}{E:XK}{N:List Str}{sc csc:ý}{on:List Str}{cs:List (Str × Nat)}
structure w42(csc sc:Scope)(N on:List Str)(cs:List (Str × Nat)):Prop where
 kind:csc.kind=.function
 nocell:∀ y∈csc.names,y.2≠.cell
 locs:∀ y∈csc.names,y.2=.local->csc.names.lookup y.1=some .local
 frees:∀ y∈csc.names,y.2=.free->(sc.names.lookup y.1=some .cell∨sc.names.lookup y.1=some .free)
 captd:∀ p∈cs,N[p.2]?=some p.1/\csc.names.lookup p.1=some .free
 own:∀ x∈on,csc.names.lookup x=some .local
 nd:(on++cs.map (·.1)).Nodup
÷K62(h:g31 csc sc N on cs=true):w42 csc sc N on cs:=by
 unfold g31 at h
 simp only[Á] at h
 ¶⟨⟨⟨⟨⟨⟨h1,h2⟩,h3⟩,h4⟩,h5⟩,h6⟩,h7⟩:=h
 rw[Æ9] at h2 h3 h4 h5 h6
 ¤⟨by simpa using h1,λy hy=>by simpa using h2 y hy,λy hy hl=>?_,λy hy hf=>?_,λp hp=>by simpa using h5 p hp,λx hx=>by simpa using h6 x hx,of_decide_eq_true h7⟩
 ·have:=h3 y hy;rw[hl] at this;simpa using this
 ·have:=h4 y hy
  rw[hf] at this
  simpa using this
÷g02(x:XI lm X G E N sc)(c:w42 csc sc N on cs):r70 X csc on cs:=⟨c.kind,c.nocell,c.locs,λy hy hf=>x.cel _ (c.frees y hy hf),λp hp=>by rw[x.hN];§c.captd p hp⟩
÷z61(x:XI lm X G E N sc)(c:w42 csc sc N on cs)(cl:List (Str × Ç))(C:Ç)(s:Æ)(H:Hp)(fp:List Ç):XI false (c30 X (d30 on cs) csc cl C s H fp) G EF (on++cs.map (·.1)) csc where
 gok:=x.gok
 num:=x.num
 blt:=x.blt
 hN:=rfl
 nd:=c.nd
 vis:=λy hy=>by
  rcases Ã6.mp hy with h | h
  ·§.inl (i00 (by decide) (c.own y h))
  ·¶⟨p,hp,rfl⟩:=Ö.mp h
   rcases q00 (env:=X.env) (c.captd p hp).2 with h | h
   ·§.inr (.inl h)
   ·§.inr (.inr h)
 glb:=λy hy=>i00 (by decide) hy
 cel:=λy hy=>by
  rcases hy with h | h
  ·§.inl (i00 (by decide) h)
  ·§q00 (env:=X.env) h
 calm:=x.calm
 room:=x.room
 pas:=q72
 lam:=λh=>nomatch h
÷O71(x:XI lm X G E N sc)(c:w42 csc sc N on cs)(cl:List (Str × Ç))(C:Ç)(s:Æ)(H:Hp)(fp:List Ç):O31 (c30 X (d30 on cs) csc cl C s H fp) (on++cs.map (·.1)) (λy=>on.contains y) where
 hN:=rfl
 nd:=c.nd
 lc:=λy hy=>.inl (i00 (by decide) (c.own y (by simpa using hy)))
 fn:=λy hy=>.inr (i00 (by decide) (c.own y (by simpa using hy)))
 calm:=x.calm
÷h61:∀ {capt:List Nat},(b70 N capt).length=capt.length->(b70 N capt).map (·.2)=capt
 |[],_=>rfl
 |i::r,h=>by
  have le:∀ l:List Nat,(b70 N l).length<=l.length:=by
   intro l
   induction l with
   |nil=>§Í _
   |cons j q ih =>
    unfold b70
    split
    ·rw[Þ,Þ];omega
    ·rw[Þ];omega
  unfold b70 at h ⊢
  split at h
  ·rename_i y hy
   rw[Þ,Þ] at h
   rw[Å7,h61 (by omega)]
  ·have:=le r
   rw[Þ] at h
   omega
÷O81(rel:y50 X.K zA H ρ σ)(h:cs.map (·.2)=capt):y50 X.K zA H (í on.length none++capt.map λi=>(ρ[i]?).getD none) (r20 on cs σ) /\
  (í on.length (none:Option S)++capt.map λi=>(ρ[i]?).getD none).length=(r20 on cs σ).length:=by
 subst h
 constructor
 ·intro j s e
  unfold r20
  by_cases hj:j < on.length
  ·rw[Ð2 (by simpa using hj)] at e
   simp[Ò5,hj] at e
  ·rw[Å4 (by simpa using hj),á0,Ü,Ü] at e
   rw[Å4 (by simpa using hj),É,Ü]
   cases hp:cs[j - on.length]? with
   |none=>rw[hp] at e;simp at e
   |some p =>
    rw[hp] at e
    simp only[map_some,Ê3] at e
    have e2:ρ[p.2]?=some (some s):=by
     cases hr:ρ[p.2]? with
     |none=>rw[hr] at e;cases e
     |some o=>rw[hr] at e;§congrArg some e
    ¶⟨v,h1,h2⟩:=rel p.2 s e2
    §⟨v,by simp[h1],h2⟩
 ·unfold r20
  simp
÷z71(h:A20 e=true)(env:È9)(x:Ä):É3 e env x=pure x:=by
 cases e with
 |Set _ _ _=>cases h
 |_=>rfl
def H40(X:Cx)(G:Gs)(E:XK)(x:Ex)(elt tg Ä0:Ò)(ifs:List Ò)(csc:ý):Prop:=∃ (own:List Str) (capt:List (Str × Nat)) (wi:TI) (g:TG) (tt:TT) (te:TE),r70 X csc own capt/\PI X tg Ä0 wi /\
 (∀ cl C s H fp,PG (c30 X (d30 own capt) csc cl C s H fp) tg g)/\(∀ cl C s H fp,PTs (c30 X (d30 own capt) csc cl C s H fp) ifs tt)/\(∀ cl C s H fp,PE (c30 X (d30 own capt) csc cl C s H fp) elt te) /\
 (∀ x,É3 Ä0 X.env x=pure x)/\∀ σ H Q,tI X.K G E x σ H Q->Z51 own capt wi g tt te σ H Q
÷K72(x:XI lm X G E N sc){p:Pat}{it:It}{src cond el:Ex}{capt:List Nat}{elt tg Ä0:Ò}{ifs:List Ò}(c:w42 csc sc N on cs)(hcap:cs.map (·.2)=capt)(hp:j50 (on++cs.map (·.1)) (λy=>on.contains y) p tg=true)
  (hi:PI X tg Ä0 (tIt X.K G E it src)) (hns:A20 Ä0=true) (hc:(cond=.nil/\ifs=[])∨∃ q f,cond=.cons q .nil/\ifs=[f]/\∀ cl C s H fp,PT (c30 X (d30 on cs) csc cl C s H fp) f (tT X.K G EF q))
  (he:∀ cl C s H fp,PE (c30 X (d30 on cs) csc cl C s H fp) elt (tI X.K G EF el)):H40 X G E (.comp on.length capt p it src cond el) elt tg Ä0 ifs csc:=by
 have ht:∀ cl C s H fp,PTs (c30 X (d30 on cs) csc cl C s H fp) ifs (ttC X.K G cond):=by
  rcases hc with ⟨rfl,rfl⟩ | ⟨q,f,rfl,rfl,h⟩
  ·§λcl C s H fp=>Z31
  ·§λcl C s H fp=>s51 (h cl C s H fp)
 ¤⟨on,cs,tIt X.K G E it src,gP X.K p,ttC X.K G cond,tI X.K G EF el,g02 x c,hi,λcl C s H fp=>y41 (O71 x c cl C s H fp) hp,ht,he,z71 hns X.env,λσ H Q q=>?_⟩
 ¶⟨zA,ρ,z,rr,rel,st,e,po⟩:=q
 have e0:M.bind (ev G.F src ρ) (λl=>M.bind (M.of ((plA l).bind (itD it))) λxs=>if xs.length<=most then M.bind (M.calm (turns (o80 (ev G.F cond) (ev G.F el) p (í on.length none++capt.map λi=>(ρ[i]?).getD none)) xs)) λys=>M.ret [.fr ys] else M.no) z=some rr:=e
 rcases M.bind_some e0 with ⟨m,z1,e1,e2⟩ | ⟨k,z1,e1,e2⟩
 ·¶⟨xs,hx,e3⟩:=M.a10 e2
  ¤⟨zA,ρ,z,_,rel,st,e1,xs,hx,λJ H1 x1 st1 IT'=>?_⟩
  have IT:=IT'.ok
  split at e3
  ·rename_i hm
   rcases M.bind_some e3 with ⟨ys,z2,e4,e5⟩ | ⟨k,z2,e4,e5⟩
   ·cases e5
    have e6:turns (o80 (ev G.F cond) (ev G.F el) p (í on.length none++capt.map λi=>(ρ[i]?).getD none)) xs z1=some (.ok ys z2):=by
     unfold M.calm at e4
     split at e4
     ·rename_i h;cases e4;§h
     ·cases e4
    ¶⟨r1,r2⟩:=O81 (on:=on) (rel.mono x1) hcap
    ¤f82 IT hm r1 r2 st1 (by rcases hc with ⟨h,_⟩ | ⟨q,_,h,_⟩;§.inl h;§.inr ⟨q,h⟩) e6 λH2 vs l x2 st2 hd hl=>?_
    §e20 po (x1.trans x2) st2 _ _ (a30.new _ hl) (n50 st2 hd hl)
   ·unfold M.calm at e4
    split at e4 <;> cases e4
  ·cases e3
 ·§⟨zA,ρ,z,_,rel,st,e1,(f50 po) k z1 e2⟩
÷H40.good{x:Ex}{elt tg Ä0:Ò}{ifs:List Ò}{csc:ý}{pos:Pos}(hc:X.calm=true)(h:H40 X G E x elt tg Ä0 ifs csc):b00 X G E x (.ListComp elt [⟨tg,Ä0,ifs,0⟩] csc pos):=by
 ¶⟨own,capt,wi,g,tt,te,h1,h2,h3,h4,h5,h6,h7⟩:=h
 §b10 (PE.imp (s71 hc h1 h2 h3 h4 h5 h6) h7) rfl
÷b60(h:(!isL x)=true):isL x=false:=by simpa using h
÷z81(hL:isL x=true)(g:Good X G E x [e]):∃ a,x=.cons a .nil/\b00 X G E a e:=by
 cases x with
 |nil=>cases (show [e]=[] from g)
 |cons a r =>
  ¶⟨e',es,h,ns,ga,lr,gr⟩:=g
  cases h
  cases r with
  |nil=>§⟨a,rfl,ga⟩
  |cons b q=>¶⟨e,es,h,_⟩:=gr;cases h
  |_=>cases lr
 |_=>cases hL
÷T60{lm:Bool}{G:Gs}{own:Nat}{capt:List Nat}{p:Pat}{it:It}{src cond el:Ex}(ihs:(∀ {X:Cx}{E:XK}{N:List Str}{sc:ý},XI lm X G E N sc->∀ {es:List Ò},mt lm G.fns G.nums src sc N es=true->Good X G E src es))(ihc:(∀ {X:Cx}{E:XK}{N:List Str}{sc:ý},XI false X G E N sc->∀ {es:List Ò},mt false G.fns G.nums cond sc N es=true->Good X G E cond es))(ihe:(∀ {X:Cx}{E:XK}{N:List Str}{sc:ý},XI false X G E N sc->∀ {es:List Ò},mt false G.fns G.nums el sc N es=true->Good X G E el es))
  {X:Cx}{E:XK}{N:List Str}{sc:ý} (x:XI lm X G E N sc) {elt tg Ä0:Ò}{ifs:List Ò}{csc:ý} (h:(d10 tg).length == own&&(b70 N capt).length == capt.length&&g31 csc sc N (d10 tg) (b70 N capt)&&j50 (d10 tg++(b70 N capt).map (·.1)) (λx=>(d10 tg).contains x) p tg&&isL src&&!isL el&&isL cond&&ifs.length<=1&&noStar elt&&A20 Ä0&&ifs.all (λc=>!ifB c) &&
    (match it with
    |.seq=>mt lm G.fns G.nums src sc N [Ä0]
    |.rng1=>opt (l12 Ä0) λr=>r.1.1 == ("range":Str)&&glob sc r.1.1&&mt lm G.fns G.nums src sc N [r.1.2.2.1]
    |.rng2=>opt (l22 Ä0) λr=>r.1.1 == ("range":Str)&&glob sc r.1.1&&mt lm G.fns G.nums src sc N [r.1.2.2.1,r.1.2.2.2.1]
    |.zip=>opt (l22 Ä0) λr=>r.1.1 == ("zip":Str)&&glob sc r.1.1&&n60 tg&&mt lm G.fns G.nums src sc N [r.1.2.2.1,r.1.2.2.2.1]
    |.enum=>opt (l12 Ä0) λr=>r.1.1 == ("enumerate":Str)&&glob sc r.1.1&&n60 tg&&mt lm G.fns G.nums src sc N [r.1.2.2.1])&&mt false G.fns G.nums cond csc (d10 tg++(b70 N capt).map (·.1)) ifs&&mt false G.fns G.nums el csc (d10 tg++(b70 N capt).map (·.1)) [elt]):H40 X G E (.comp own capt p it src cond el) elt tg Ä0 ifs csc:=by
 simp only[Á,beq_iff_eq,decide_eq_true_eq] at h
 ¶⟨⟨⟨⟨⟨⟨⟨⟨⟨⟨⟨⟨⟨h1,h2⟩,h3⟩,h4⟩,h5⟩,h6⟩,h7⟩,h8⟩,h9⟩,h10⟩,h11⟩,h12⟩,h13⟩,h14⟩:=h
 subst h1
 have c:=K62 h3
 have hi:PI X tg Ä0 (tIt X.K G E it src):=by
  cases it with
  |seq =>
   ¶⟨a,rfl,ga⟩:=z81 h5 (ihs x h12)
   §V41 ga
  |rng1 =>
   ¶⟨⟨⟨n,_,a,_⟩,rfl⟩,-,h12⟩:=a70 h12
   simp only[Á,beq_iff_eq] at h12
   §z01 x h12.1.1 h12.1.2 h5 (ihs x h12.2)
  |rng2 =>
   ¶⟨⟨⟨n,_,a,b,_⟩,rfl⟩,-,h12⟩:=a70 h12
   simp only[Á,beq_iff_eq] at h12
   §z11 x h12.1.1 h12.1.2 h5 (ihs x h12.2)
  |zip =>
   ¶⟨⟨⟨n,_,a,b,_⟩,rfl⟩,-,h12⟩:=a70 h12
   simp only[Á,beq_iff_eq] at h12
   §z41 x h12.1.2 h12.1.1.1 h12.1.1.2 h5 (ihs x h12.2)
  |enum =>
   ¶⟨⟨⟨n,_,a,_⟩,rfl⟩,-,h12⟩:=a70 h12
   simp only[Á,beq_iff_eq] at h12
   §h41 x h12.1.2 h12.1.1.1 h12.1.1.2 h5 (ihs x h12.2)
 have hc:(cond=.nil/\ifs=[])∨∃ q f,cond=.cons q .nil/\ifs=[f]/\∀ cl C s H fp,PT (c30 X (d30 (d10 tg) (b70 N capt)) csc cl C s H fp) f (tT X.K G EF q):=by
  match ifs,h8,h11,h13 with
  |[],_,_,h13 =>
   cases cond with
   |nil=>§.inl ⟨rfl,rfl⟩
   |cons a r=>cases h13
   |_=>cases h7
  |[f],_,h11,h13 =>
   cases cond with
   |nil=>cases h13
   |cons a r =>
    have h13':(noStar f&&!isL a&&isL r&&mt false G.fns G.nums a csc (d10 tg++(b70 N capt).map (·.1)) [f]&&mt false G.fns G.nums r csc (d10 tg++(b70 N capt).map (·.1)) [])=true:=h13
    simp only[Á] at h13'
    have rn:r=.nil:=by
     cases r with
     |nil=>rfl
     |cons b q=>cases h13'.2
     |_=>cases h13'.1.1.2
    subst rn
    simp only[Ä5,all_nil,Ö9] at h11
    ¤.inr ⟨a,f,rfl,rfl,λcl C s H fp=>?_⟩
    ¶⟨e',es,he,ns,ga,lr,gr⟩:=ihc (z61 x c cl C s H fp) h13
    cases he
    §ga.pt (f22 h11)
   |_=>cases h7
 ¤K72 x c (h61 h2) h4 hi h10 hc λcl C s H fp=>?_
 §(a90 (b60 h6) (ihe (z61 x c cl C s H fp) h14)).pe
÷w52:∀ (t:Ex) {lm:Bool}{G:Gs}{X:Cx}{E:XK}{N:List Str}{sc:ý},XI lm X G E N sc->∀ {es:List Ò},mt lm G.fns G.nums t sc N es=true->Good X G E t es:=by
 intro t
 induction t with
 |nil =>
  intro lm G X E N sc x es h
  §Ì8.mp h
 |cons a r iha ihr =>
  intro lm G X E N sc x es h
  cases es with
  |nil=>cases h
  |cons e es =>
   have h:(noStar e&&!isL a&&isL r&&mt lm G.fns G.nums a sc N [e]&&mt lm G.fns G.nums r sc N es)=true:=h
   simp only[Á] at h
   ¶⟨⟨⟨⟨h1,h2⟩,h3⟩,h4⟩,h5⟩:=h
   §⟨e,es,rfl,h1,a90 (b60 h2) (iha x h4),h3,ihr x h5⟩
 |var i =>
  intro lm G X E N sc x es h
  ¶⟨⟨q,rfl⟩,-,h⟩:=a70 h
  simp only[Á,beq_iff_eq] at h
  §c00 rfl (I82 x h.1 h.2)
 |con d =>
  intro lm G X E N sc x es h
  rcases (Å6 _ _).mp h with h | h
  ·¶⟨⟨q,rfl⟩,-,h⟩:=a70 h
   §c00 rfl (I92 h)
  ·¶⟨⟨p,rfl⟩,-,h⟩:=a70 h
   cases d with
   |dct=>§c00 rfl J02
   |_=>cases h
 |gint g i =>
  intro lm G X E N sc x es h
  ¶⟨⟨⟨n,p⟩,rfl⟩,-,h⟩:=a70 h
  simp only[Á,beq_iff_eq,Ì7] at h
  ¶⟨⟨rfl,h2⟩,h3⟩:=h
  §c00 rfl (u22 x h2 h3)
 |tup as ih =>
  intro lm G X E N sc x es h
  ¶⟨⟨q,rfl⟩,-,h⟩:=a70 h
  simp only[Á] at h
  §c00 rfl (J12 h.1 (ih x h.2))
 |lst as ih =>
  intro lm G X E N sc x es h
  ¶⟨⟨q,rfl⟩,-,h⟩:=a70 h
  simp only[Á] at h
  §c00 rfl (J22 h.1 (ih x h.2))
 |bin o a b iha ihb =>
  intro lm G X E N sc x es h
  ¶⟨⟨⟨l,op,r,p⟩,rfl⟩,-,h⟩:=a70 h
  simp only[Á,beq_iff_eq] at h
  ¶⟨⟨⟨⟨rfl,h2⟩,h3⟩,h4⟩,h5⟩:=h
  §c00 rfl (J32 (a90 (b60 h2) (iha x h4)) (a90 (b60 h3) (ihb x h5)))
 |cmp o a b iha ihb =>
  intro lm G X E N sc x es h
  ¶⟨⟨⟨l,op,r,p⟩,rfl⟩,-,h⟩:=a70 h
  simp only[Á,beq_iff_eq] at h
  ¶⟨⟨⟨⟨⟨rfl,h1⟩,h2⟩,h3⟩,h4⟩,h5⟩:=h
  §c00 rfl (J42 x h1 (a90 (b60 h2) (iha x h4)) (a90 (b60 h3) (ihb x h5)))
 |neg a ih =>
  intro lm G X E N sc x es h
  ¶⟨⟨q,rfl⟩,-,h⟩:=a70 h
  simp only[Á] at h
  §c00 rfl (J52 (a90 (b60 h.1) (ih x h.2)))
 |not a ih =>
  intro lm G X E N sc x es h
  ¶⟨⟨q,rfl⟩,-,h⟩:=a70 h
  simp only[Á] at h
  ¶⟨⟨h1,h2⟩,h3⟩:=h
  §c00 rfl (J62 (a90 (b60 h1) (ih x h3)) (f22 h2))
 |and a b iha ihb =>
  intro lm G X E N sc x es h
  ¶⟨⟨⟨l,r,vs,p⟩,rfl⟩,-,h⟩:=a70 h
  simp only[Á] at h
  ¶⟨⟨⟨⟨h1,h2⟩,h3⟩,h4⟩,h5⟩:=h
  ¤c00 rfl (J72 (a90 (b60 h1) (iha x h4)) (f22 h3) ?_)
  cases vs with
  |nil =>
   rw[if_pos (show([]:List Ò).isEmpty=true from rfl),Á] at h5
   §u32 (a90 (b60 h2) (ihb x h5.2)) (f22 h5.1)
  |cons v vs =>
   rw[if_neg (by §Ð)] at h5
   §a90 (b60 h2) (ihb x h5)
 |or a b iha ihb =>
  intro lm G X E N sc x es h
  ¶⟨⟨⟨l,r,vs,p⟩,rfl⟩,-,h⟩:=a70 h
  simp only[Á] at h
  ¶⟨⟨⟨⟨h1,h2⟩,h3⟩,h4⟩,h5⟩:=h
  ¤c00 rfl (V82 (a90 (b60 h1) (iha x h4)) (f22 h3) ?_)
  cases vs with
  |nil =>
   rw[if_pos (show([]:List Ò).isEmpty=true from rfl),Á] at h5
   §u32 (a90 (b60 h2) (ihb x h5.2)) (f22 h5.1)
  |cons v vs =>
   rw[if_neg (by §Ð)] at h5
   §a90 (b60 h2) (ihb x h5)
 |orT a b iha ihb =>
  intro lm G X E N sc x es h
  ¶⟨⟨⟨l,r,vs,p⟩,rfl⟩,-,h⟩:=a70 h
  simp only[Á] at h
  ¶⟨⟨⟨⟨h1,h2⟩,h3⟩,h4⟩,h5⟩:=h
  cases vs with
  |nil=>§c00 rfl (J82 (a90 (b60 h1) (iha x h4)) (a90 (b60 h2) (ihb x h5)))
  |cons v vs=>cases h3
 |ite c a b ihc iha ihb =>
  intro lm G X E N sc x es h
  ¶⟨⟨q,rfl⟩,-,h⟩:=a70 h
  simp only[Á] at h
  ¶⟨⟨⟨⟨⟨⟨h1,h2⟩,h3⟩,h4⟩,h5⟩,h6⟩,h7⟩:=h
  §c00 rfl (J92 (a90 (b60 h1) (ihc x h5)) (f22 h4) (a90 (b60 h2) (iha x h6)) (a90 (b60 h3) (ihb x h7)))
 |ch o o' a b c iha ihb ihc =>
  intro lm G X E N sc x es h
  ¶⟨⟨⟨l,op,op',r,s,p⟩,rfl⟩,-,h⟩:=a70 h
  simp only[Á,beq_iff_eq] at h
  ¶⟨⟨⟨⟨⟨⟨⟨⟨rfl,rfl⟩,h1⟩,h2⟩,h3⟩,h4⟩,h5⟩,h6⟩,h7⟩:=h
  §c00 rfl (V92 x h1 (a90 (b60 h2) (iha x h5)) (a90 (b60 h3) (ihb x h6)) (a90 (b60 h4) (ihc x h7)))
 |bf f as ih =>
  intro lm G X E N sc x es h
  rcases (Å6 _ _).mp h with h | h
  rotate_left
  ·rw[Á] at h
   ¶⟨hf,h⟩:=h
   ¶⟨⟨⟨n,p1,m,p2,e,p3,p4⟩,rfl⟩,-,h⟩:=a70 h
   simp only[Á,beq_iff_eq] at h
   ¶⟨⟨⟨⟨⟨h1,h2⟩,h3⟩,h4⟩,h5⟩,h6⟩:=h
   have h1:n="sorted":=h1
   have h2:m="set":=h2
   subst h1;subst h2
   cases f with
   |sset=>§c00 rfl (v92 x h3 h4 h5 (ih x h6))
   |_=>cases hf
  ¶⟨⟨q,rfl⟩,-,h⟩:=a70 h
  simp only[Á,beq_iff_eq] at h
  ¶⟨⟨⟨⟨h1,h2⟩,h3⟩,h4⟩,h5⟩:=h
  §c00 rfl (W02 x h1 h2 h3 h4 (ih x h5))
 |isi t a ih =>
  intro lm G X E N sc x es h
  ¶⟨⟨⟨n,q,e,ty,p⟩,rfl⟩,-,h⟩:=a70 h
  simp only[Á,beq_iff_eq] at h
  ¶⟨⟨⟨⟨⟨h1,h2⟩,h3⟩,h4⟩,h5⟩,h6⟩:=h
  have g:=a90 (b60 h4) (ih x h5)
  ¤c00 rfl ?_
  have one:∀ t:Ty,t≠.seq->(opt (shN ty) λq=>q.1.1 == Á0 (tyN t)&&glob sc (Á0 (tyN t)))=true->b00 X G E (.isi t a) (.Call (.Name n q) [e,ty] [] p):=λt hs h6=>by
   ¶⟨⟨⟨a,_⟩,rfl⟩,-,h6⟩:=a70 h6
   simp only[Á,beq_iff_eq] at h6
   ¶⟨rfl,k1⟩:=h6
   §v32 x hs k1 h1 h2 h3 g
  cases t with
  |seq =>
   ¶⟨⟨⟨a,_,b,_,_,_⟩,rfl⟩,-,h6⟩:=a70 h6
   simp only[Á,beq_iff_eq] at h6
   ¶⟨⟨⟨rfl,rfl⟩,k1⟩,k2⟩:=h6
   §v42 x k1 k2 h1 h2 h3 g
  |_=>§one _ (λh=>by cases h) h6
 |idx a i iha ihi =>
  intro lm G X E N sc x es h
  ¶⟨⟨q,rfl⟩,-,h⟩:=a70 h
  simp only[Á] at h
  ¶⟨⟨⟨⟨h1,h2⟩,h3⟩,h4⟩,h5⟩:=h
  §c00 rfl (K12 h1 (a90 (b60 h2) (iha x h4)) (a90 (b60 h3) (ihi x h5)))
 |sl a lo hi iha ihl ihh =>
  intro lm G X E N sc x es h
  ¶⟨⟨q,rfl⟩,-,h⟩:=a70 h
  simp only[Á] at h
  ¶⟨⟨⟨⟨⟨h1,h2⟩,h3⟩,h4⟩,h5⟩,h6⟩:=h
  §c00 rfl (W12 (a90 (b60 h1) (iha x h4)) h2 h3 (ihl x h5) (ihh x h6))
 |rev a ih =>
  intro lm G X E N sc x es h
  ¶⟨⟨q,rfl⟩,-,h⟩:=a70 h
  simp only[Á] at h
  §c00 rfl (K42 (a90 (b60 h.1) (ih x h.2)))
 |call f as ih =>
  intro lm G X E N sc x es h
  ¶⟨⟨⟨n,q,e,l,p⟩,rfl⟩,-,h⟩:=a70 h
  simp only[Á] at h
  ¶⟨⟨⟨h1,h2⟩,h3⟩,h4⟩:=h
  ¶⟨pr,hf,h1'⟩:=a70 h1
  simp only[Á,beq_iff_eq] at h1'
  ¶⟨rfl,h7⟩:=h1'
  §c00 rfl (s_call x hf h7 h2 h3 (ih x h4))
 |comp own capt p it src cond el ihs ihc ihe =>
  intro lm G X E N sc x es h
  ¶⟨⟨q,rfl⟩,-,h⟩:=a70 h
  §c00 rfl ((T60 ihs ihc ihe x h).good x.calm)
 |lrng b as ih =>
  intro lm G X E N sc x es h
  ¶⟨⟨⟨n,p,m,q,a,r,t⟩,rfl⟩,-,h⟩:=a70 h
  simp only[Á,beq_iff_eq] at h
  ¶⟨⟨⟨⟨⟨⟨h1,h2⟩,h3⟩,h4⟩,h5⟩,h7⟩,h6⟩:=h
  subst h1;subst h2
  cases a with
  |nil=>simp at h7
  |cons a l=>§c00 rfl (v72 x h3 h4 h5 (ih x h6))
 |zget i k =>
  intro lm G X E N sc x es h
  ¶⟨⟨⟨n,p,j,c,q,r⟩,rfl⟩,-,h⟩:=a70 h
  simp only[Á,beq_iff_eq] at h
  ¶⟨⟨h1,h2⟩,h3⟩:=h
  have h3:j=(k:Int):=h3
  subst h3
  §c00 rfl (v52 x h1 h2)
 |refd capt a ih =>
  intro lm G X E N sc x es h
  ¶⟨⟨⟨n,p,body,lsc,lpos,pos⟩,rfl⟩,-,h⟩:=a70 h
  simp only[Á,beq_iff_eq] at h
  ¶⟨⟨⟨⟨⟨⟨h1,h2⟩,h3⟩,h4⟩,h5⟩,h6⟩,h7⟩:=h
  have h2:n="_law_refused":=h2
  subst h2
  §c00 rfl (w32 x h1 h3 h4 h5 (b60 h6) λk X E xl=>ih xl h7)
÷sound(G:Gs)(t:Ex)(x:XI lm X G E N sc)(h:mt lm G.fns G.nums t sc N es=true):Good X G E t es:=w52 t x h
end
open Classical in
def hw(ow:Nat->Option Ç)(H:Hp):Hp:=λb=>if ∃ i,ow i=some b then none else H b
section
variable {K:Â}{ow:Nat->Option Ç}{H H':Hp}
÷k40:a30 (hw ow H) H:=λb o e=>by
 unfold hw at e
 split at e
 ·cases e
 ·§e
÷i80(h:H b=some o)(n:∀ i,ow i≠some b):hw ow H b=some o:=by
 unfold hw
 rw[if_neg (λ⟨i,e⟩=>n i e)]
 §h
÷E10(h:hw ow H b=some o):H b=some o/\∀ i,ow i≠some b:=by
 ¤⟨k40 b o h,λi e=>?_⟩
 unfold hw at h
 rw[if_pos ⟨i,e⟩] at h
 cases h
÷c90(e:a30 H H'):a30 (hw ow H) (hw ow H'):=λb o h=>by
 ¶⟨h1,h2⟩:=E10 h
 §i80 (e b o h1) h2
÷x20:hw (λ_=>none) H=H:=by
 funext b
 unfold hw
 rw[if_neg (λ⟨i,e⟩=>by cases e)]
÷z91(h:SqT K H a xs)(hl:∀ i b,ow i=some b->∃ ys,H b=some (.lst ys)):SqT K (hw ow H) a xs:=by
 rcases h with (h | ⟨o,h⟩) | h
 ·¤.inl (.inl (i80 h λi e=>?_))
  ¶⟨ys,q⟩:=hl i a e
  rw[h] at q;cases q
 ·¤.inl (.inr ⟨o,i80 h λi e=>?_⟩)
  ¶⟨ys,q⟩:=hl i a e
  rw[h] at q;cases q
 ·§.inr h
mutual
theorem M40(hl:∀ i b,ow i=some b->∃ ys,H b=some (.lst ys)):∀ {d:D}{v:V},bare d=true->Hd K H d v->Hd K (hw ow H) d v
 |.non,_,_,h=>by rw[h.B92];§Hd.non
 |.bl _,_,_,h=>by rw[h.bl_];§Hd.bl
 |.int _,_,_,h=>by rw[h.h90];§Hd.int
 |.str _,_,_,h=>by rw[h.G72];§Hd.str
 |.tup l,_,b,h=>by
  ¶⟨a,xs,rfl,h1,h2⟩:=h.A10
  §Hd.tup (z91 h1 hl) (A90 hl (by simpa [bare] using b) h2)
 |.lst _,_,b,_=>by cases b
 |.dct,_,b,_=>by cases b
theorem A90(hl:∀ i b,ow i=some b->∃ ys,H b=some (.lst ys)):∀ {ds:List D}{vs:List V},o00 ds=true->HdA K H ds vs->HdA K (hw ow H) ds vs
 |[],_,_,h=>by rw[h.e80];§.nil
 |d::ds,_,b,h=>by
  ¶⟨x,r,rfl,h1,h2⟩:=h.c20
  simp only[o00,Á] at b
  §.cons (M40 hl b.1 h1) (A90 hl b.2 h2)
end
end
def RvW(K:Â)(zA:Option Ç)(ow:Nat->Option Ç)(H:Hp)(i:Nat):S->V->Prop
 |.d x,v=>ow i=none/\Hd K (hw ow (hz zA H)) x v
 |.fr xs,v=>∃ a ys,ow i=some a/\v=.ref a/\H a=some (.lst ys)/\HdA K (hw ow (hz zA H)) xs ys
 |.z,v=>ow i=none/\∃ a,zA=some a/\v=.ref a
structure RW(K:PySem.W.Frag)(H0:Hp)(zE zA:Option Addr)(ow:Nat->Option Addr)(H:Hp)(ρ:Env)(σ:L2.St):Prop where
 len:ρ.length=σ.length
 inj:∀ i j a,ow i=some a->ow j=some a->i=j
 zne:∀ i a,ow i=some a->zA≠some a
 own:∀ i a,ow i=some a->∃ xs,ρ[i]?=some (some (.fr xs))
 wor:∀ i s,ρ[i]?=some (some s)->∃ v,σ[i]?=some (some v)/\RvW K zA ow H i s v
 ext:Ext zE H0 H
 zok:zA=zE∨(zE=none/\∀ a,zA=some a->H0 a=none)
 new:∀ i a,ow i=some a->H0 a=none
section
variable {K:Â}{H0 H H':Hp}{zE zA:Option Ç}{ow:Nat->Option Ç}{ρ:Env}{σ:L2.St}
÷RW.lst(r:RW K H0 zE zA ow H ρ σ):∀ i a,ow i=some a->∃ ys,H a=some (.lst ys):=λi a e=>by
 ¶⟨xs,h⟩:=r.own i a e
 ¶⟨v,h1,a',ys,h2,h3,h4,h5⟩:=r.wor i _ h
 rw[e] at h2;cases h2
 §⟨ys,h4⟩
÷RW.g12(r:RW K H0 zE zA ow H ρ σ):∀ i a,ow i=some a->∃ ys,hz zA H a=some (.lst ys):=λi a e=>by
 ¶⟨ys,h⟩:=r.lst i a e
 §⟨ys,d50 h (r.zne i a e)⟩
÷RvW.pl{i:Nat}{s:S}{v:V}(h:RvW K zA ow H i s v)(hz':∀ a,ow i=some a->zA≠some a):RvP K zA H s v:=by
 cases s with
 |d x=>§h.2.same k40
 |z=>§h.2
 |fr xs =>
  ¶⟨a,ys,h1,rfl,h3,h4⟩:=h
  §Hd.lst (d50 h3 (hz' a h1)) (h4.same k40)
÷RW.P20(r:RW K H0 zE zA ow H ρ σ):y50 K zA H ρ σ:=λi s e=>by
 ¶⟨v,h1,h2⟩:=r.wor i s e
 §⟨v,h1,h2.pl λa q=>r.zne i a q⟩
÷RvW.mono{i:Nat}{s:S}{v:V}(h:RvW K zA ow H i s v)(hz':∀ a,ow i=some a->zA≠some a)(x:Ext zA H H'):RvW K zA ow H' i s v:=by
 cases s with
 |d y=>§⟨h.1,h.2.same (c90 x)⟩
 |z=>§h
 |fr xs =>
  ¶⟨a,ys,h1,rfl,h3,h4⟩:=h
  §⟨a,ys,h1,rfl,x.at h3 (hz' a h1),h4.same (c90 x)⟩
÷V51(zA:Option Ç)(H:Hp):a30 (hz zA H) (hz none H):=λ_ _ h=>d50 (r30 h).1 (λq=>nomatch q) (s00 h)
÷A01(e:Ext zE H0 H)(zok:zA=zE∨(zE=none/\∀ a,zA=some a->H0 a=none))(x:Ext zA H H'):Ext zE H0 H':=by
 rcases zok with rfl | ⟨rfl,hn⟩
 ·§e.trans x
 ·¤⟨λb o h=>?_,λb ps h=>let ⟨qs,q⟩:=e.tbl b ps h;x.tbl b qs q⟩
  have h1:=e.same b o h
  ¤d50 (x.at (r30 h1).1 (λq=>?_) (s00 h1)) (λq=>nomatch q) (s00 h1)
  have h0:=(r30 h).1
  rw[hn b q] at h0;cases h0
÷RW.mono(r:RW K H0 zE zA ow H ρ σ)(x:Ext zA H H'):RW K H0 zE zA ow H' ρ σ :=
 ⟨r.len,r.inj,r.zne,r.own,λi s e=>let ⟨v,h1,h2⟩:=r.wor i s e;⟨v,h1,h2.mono (λa q=>r.zne i a q) x⟩,A01 r.ext r.zok x,r.zok,r.new⟩
÷RW.young(r:RW K H0 zE zA ow H ρ σ)(h:H a=none)(n:zA≠some a):H0 a=none/\zE≠some a:=by
 have hE:zE≠some a:=λq=>by
  rcases r.zok with rfl | ⟨rfl,_⟩
  ·§n q
  ·cases q
 §⟨r.ext.free h hE,hE⟩
÷RW.out(r:RW K H0 zE zA ow H ρ σ){s:S}{v:V}(hs:s≠.z)(x:Ext zA H H')(h:RvS K zA H H' s v):RvS K zE H0 H' s v:=by
 have sm:a30 (hz zA H') (hz zE H'):=by
  rcases r.zok with rfl | ⟨rfl,_⟩
  ·§a30.refl _
  ·§V51 _ _
 cases s with
 |d y=>§Hd.same sm h
 |z=>§absurd rfl hs
 |fr xs =>
  ¶⟨a,ys,rfl,h1,h2,h3,h4⟩:=h
  ¶⟨k1,k2⟩:=r.young h1 h2
  §⟨a,ys,rfl,k1,k2,h3,h4.same (C50 λb o _ q=>sm b o q)⟩
÷RW.W22(r:RW K H0 zE zA ow H ρ σ){i:Nat}{s:S}(hs:s≠.z)(e:ρ[i]?=some (some s)):∃ v,σ[i]?=some (some v)/\RvS K zE H0 H s v:=by
 ¶⟨v,h1,h2⟩:=r.wor i s e
 have sm:a30 (hz zA H) (hz zE H):=by
  rcases r.zok with rfl | ⟨rfl,_⟩
  ·§a30.refl _
  ·§V51 _ _
 ¤⟨v,h1,?_⟩
 cases s with
 |d y=>§Hd.same (a30.trans k40 sm) h2.2
 |z=>§absurd rfl hs
 |fr xs =>
  ¶⟨a,ys,k1,rfl,k3,k4⟩:=h2
  have n:=r.zne i a k1
  have hE:zE≠some a:=λq=>by
   rcases r.zok with rfl | ⟨rfl,_⟩
   ·§n q
   ·cases q
  ¤⟨a,ys,rfl,r.new i a k1,hE,k3,k4.same λb o q=>?_⟩
  ¶⟨q1,q2⟩:=E10 q
  §K40 (sm b o q1) λz=>q2 i (by rw[z];§k1)
÷RW.Z70(r:RW K H0 zE zA ow H ρ σ):RW K H0 zE zA (λ_=>none) H (Z70 ρ) σ:=by
 ¤⟨by unfold Q.Z70;rw[É];§r.len,λi j a h=>(by cases h),λi a h=>(by cases h),λi a h=>(by cases h),λi s e=>?_,r.ext,r.zok,λi a h=>(by cases h)⟩
 unfold Q.Z70 at e
 rw[Ü] at e
 ¶⟨o,e1,e2⟩:=Ê.mp e
 cases o with
 |none=>cases e2
 |some s0 =>
  cases e2
  ¶⟨v,h1,h2⟩:=r.P20 i s0 e1
  ¤⟨v,h1,?_⟩
  cases s0 with
  |d y=>§⟨rfl,by rw[x20];§h2⟩
  |fr xs=>§⟨rfl,by rw[x20];§h2⟩
  |z=>§⟨rfl,h2⟩
def ow0(ow:Nat->Option Ç)(i:Nat):Nat->Option Addr:=λj=>if j=i then none else ow j
def ow1(ow:Nat->Option Ç)(i:Nat)(a:Ç):Nat->Option Addr:=λj=>if j=i then some a else ow j
÷RvW.move{ow':Nat->Option Ç}{j:Nat}{s:S}{v:V}(h:RvW K zA ow H j s v)(e:ow' j=ow j)(sm:a30 (hw ow (hz zA H)) (hw ow' (hz zA H')))(hk:∀ a,ow j=some a->H' a=H a):RvW K zA ow' H' j s v:=by
 cases s with
 |d y=>§⟨by rw[e];§h.1,h.2.same sm⟩
 |z=>§⟨by rw[e];§h.1,h.2⟩
 |fr xs =>
  ¶⟨a,ys,h1,rfl,h3,h4⟩:=h
  §⟨a,ys,by rw[e];§h1,rfl,by rw[hk a h1];§h3,h4.same sm⟩
÷getElem?_set'{α:Type}{l:List α}{i j:Nat}{x y:α}(h:(l.set i x)[j]?=some y):(j=i/\y=x/\i < l.length)∨(j≠i/\l[j]?=some y):=by
 by_cases hj:j=i
 ·subst hj
  have hlt:j < l.length:=by
   have:=(Ý.mp h).1
   simpa using this
  rw[ñ hlt] at h
  cases h
  §.inl ⟨rfl,rfl,hlt⟩
 ·rw[ê (Â3 hj)] at h
  §.inr ⟨hj,h⟩
÷RW.W32(r:RW K H0 zE zA ow H ρ σ){i:Nat}(h:Hd K (hw ow (hz zA H)) x v):RW K H0 zE zA (ow0 ow i) H (ρ.set i (some (.d x))) (σ.set i (some v)):=by
 have sub:∀ j a,ow0 ow i j=some a->j≠i/\ow j=some a:=λj a e=>by
  unfold ow0 at e
  split at e
  ·cases e
  ·rename_i n;§⟨n,e⟩
 have sm:a30 (hw ow (hz zA H)) (hw (ow0 ow i) (hz zA H)):=λb o e=>by
  ¶⟨e1,e2⟩:=E10 e
  §i80 e1 λj q=>e2 j (sub j b q).2
 ¤⟨by rw[Ä1,Ä1];§r.len,λj k a h1 h2=>r.inj j k a (sub j a h1).2 (sub k a h2).2,λj a h1=>r.zne j a (sub j a h1).2,λj a h1=>?_,λj s e=>?_,r.ext,r.zok,λj a h1=>r.new j a (sub j a h1).2⟩
 ·¶⟨n,h2⟩:=sub j a h1
  ¶⟨xs,h3⟩:=r.own j a h2
  §⟨xs,by rw[ê (Â3 n)];§h3⟩
 ·rcases getElem?_set' e with ⟨rfl,e1,hlt⟩ | ⟨n,e1⟩
  ·cases e1
   §⟨v,ñ (by rw[← r.len];§hlt),by unfold ow0;§if_pos rfl,h.same sm⟩
  ·¶⟨w,h1,h2⟩:=r.wor j s e1
   §⟨w,by rw[ê (Â3 n)];§h1,h2.move (by unfold ow0;§if_neg n) sm λ_ _=>rfl⟩
÷RW.W42(r:RW K H0 zE zA ow H ρ σ){i:Nat}(h:∃ a,zA=some a/\v=.ref a):RW K H0 zE zA (ow0 ow i) H (ρ.set i (some .z)) (σ.set i (some v)):=by
 have sub:∀ j a,ow0 ow i j=some a->j≠i/\ow j=some a:=λj a e=>by
  unfold ow0 at e
  split at e
  ·cases e
  ·rename_i n;§⟨n,e⟩
 have sm:a30 (hw ow (hz zA H)) (hw (ow0 ow i) (hz zA H)):=λb o e=>by
  ¶⟨e1,e2⟩:=E10 e
  §i80 e1 λj q=>e2 j (sub j b q).2
 ¤⟨by rw[Ä1,Ä1];§r.len,λj k a h1 h2=>r.inj j k a (sub j a h1).2 (sub k a h2).2,λj a h1=>r.zne j a (sub j a h1).2,λj a h1=>?_,λj s e=>?_,r.ext,r.zok,λj a h1=>r.new j a (sub j a h1).2⟩
 ·¶⟨n,h2⟩:=sub j a h1
  ¶⟨xs,h3⟩:=r.own j a h2
  §⟨xs,by rw[ê (Â3 n)];§h3⟩
 ·rcases getElem?_set' e with ⟨rfl,e1,hlt⟩ | ⟨n,e1⟩
  ·cases e1
   §⟨v,ñ (by rw[← r.len];§hlt),by unfold ow0;§if_pos rfl,h⟩
  ·¶⟨w,h1,h2⟩:=r.wor j s e1
   §⟨w,by rw[ê (Â3 n)];§h1,h2.move (by unfold ow0;§if_neg n) sm λ_ _=>rfl⟩
÷RW.W52(r:RW K H0 zE zA ow H ρ σ){i:Nat}(x:Ext zA H H')(hn:H a=none)(za:zA≠some a)(hl:H' a=some (.lst ys))(h:HdA K (hw (ow1 ow i a) (hz zA H')) xs ys)(hi:i < ρ.length) :
  RW K H0 zE zA (ow1 ow i a) H' (ρ.set i (some (.fr xs))) (σ.set i (some (.ref a))):=by
 have r':=r.mono x
 have old:∀ j b,ow j=some b->b≠a:=λj b e q=>by
  ¶⟨zs,h1⟩:=r.lst j b e
  rw[q,hn] at h1;cases h1
 have sub:∀ j b,ow1 ow i a j=some b->(j=i/\b=a)∨(j≠i/\ow j=some b):=λj b e=>by
  unfold ow1 at e
  split at e
  ·rename_i n;cases e;§.inl ⟨n,rfl⟩
  ·rename_i n;§.inr ⟨n,e⟩
 have sm:a30 (hw ow (hz zA H)) (hw (ow1 ow i a) (hz zA H')):=λb o e=>by
  ¶⟨e1,e2⟩:=E10 e
  have e3:=(r30 e1).1
  have hb:b≠a:=λq=>by rw[q,hn] at e3;cases e3
  ¤i80 (x b o e1) λj q=>?_
  rcases sub j b q with ⟨_,q⟩ | ⟨_,q⟩
  ·§hb q
  ·§e2 j q
 ¤⟨by rw[Ä1,Ä1];§r.len,λj k b h1 h2=>?_,λj b h1=>?_,λj b h1=>?_,λj s e=>?_,r'.ext,r.zok,λj b h1=>?_⟩
 ·rcases sub j b h1 with ⟨q1,q2⟩ | ⟨q1,q2⟩
  ·rcases sub k b h2 with ⟨p1,p2⟩ | ⟨p1,p2⟩
   ·rw[q1,p1]
   ·§absurd q2 (old k b p2)
  ·rcases sub k b h2 with ⟨p1,p2⟩ | ⟨p1,p2⟩
   ·§absurd p2 (old j b q2)
   ·§r.inj j k b q2 p2
 ·rcases sub j b h1 with ⟨_,q2⟩ | ⟨_,q2⟩
  ·rw[q2];§za
  ·§r.zne j b q2
 ·rcases sub j b h1 with ⟨q1,q2⟩ | ⟨q1,q2⟩
  ·rw[q1];§⟨xs,ñ hi⟩
  ·¶⟨zs,h3⟩:=r.own j b q2
   §⟨zs,by rw[ê (Â3 q1)];§h3⟩
 ·rcases getElem?_set' e with ⟨rfl,e1,hlt⟩ | ⟨n,e1⟩
  ·cases e1
   §⟨.ref a,ñ (by rw[← r.len];§hlt),a,ys,by unfold ow1;§if_pos rfl,rfl,hl,h⟩
  ·¶⟨w,h1,h2⟩:=r.wor j s e1
   ¤⟨w,by rw[ê (Â3 n)];§h1,h2.move (by unfold ow1;§if_neg n) sm λb q=>?_⟩
   ¶⟨zs,k⟩:=r.lst j b q
   rw[k]
   §x.at k (r.zne j b q)
 ·rcases sub j b h1 with ⟨_,q2⟩ | ⟨_,q2⟩
  ·rw[q2];§(r.young hn za).1
  ·§r.new j b q2
÷RW.upd(r:RW K H0 zE zA ow H ρ σ){i:Nat}(e:ow i=some a)(h:HdA K (hw ow (hz zA H)) xs ys):RW K H0 zE zA ow (upd H a (.lst ys)) (ρ.set i (some (.fr xs))) σ:=by
 have za:=r.zne i a e
 have sm:a30 (hw ow (hz zA H)) (hw ow (hz zA (L2.upd H a (.lst ys)))):=λb o q=>by
  ¶⟨e1,e2⟩:=E10 q
  ¶⟨e3,e4⟩:=r30 e1
  have hb:b≠a:=λz=>e2 i (by rw[z];§e)
  §i80 (d50 (by rw[a60 hb];§e3) e4 (s00 e1)) e2
 ¶⟨xs0,h0⟩:=r.own i a e
 have hi:i < ρ.length:=(Ý.mp h0).1
 ¶⟨v0,s0,a0,ys0,q1,q2,q3,q4⟩:=r.wor i _ h0
 rw[e] at q1;cases q1
 ¤⟨by rw[Ä1];§r.len,r.inj,r.zne,λj b h1=>?_,λj s q=>?_,⟨λb o q=>?_,λb ps q=>?_⟩,r.zok,r.new⟩
 ·by_cases hj:j=i
  ·subst hj;§⟨xs,ñ hi⟩
  ·¶⟨zs,h3⟩:=r.own j b h1
   §⟨zs,by rw[ê (Â3 hj)];§h3⟩
 ·rcases getElem?_set' q with ⟨rfl,e1,hlt⟩ | ⟨n,e1⟩
  ·cases e1
   §⟨v0,s0,a,ys,e,q2,b20,h.same sm⟩
  ·¶⟨w,h1,h2⟩:=r.wor j s e1
   ¤⟨w,h1,h2.move rfl sm λb q=>?_⟩
   have hb:b≠a:=λz=>n (r.inj j i b q (by rw[z];§e))
   §a60 hb
 ·¶⟨e1,e2⟩:=r30 (r.ext b o q)
  have hb:b≠a:=λz=>by
   have:=(r30 q).1
   rw[z,r.new i a e] at this;cases this
  §d50 (by rw[a60 hb];§e1) e2 (s00 q)
 ·¶⟨qs,e1⟩:=r.ext.tbl b ps q
  have hb:b≠a:=λz=>by rw[z,q3] at e1;cases e1
  §⟨qs,by rw[a60 hb];§e1⟩
end
end Q
namespace Q
open PySem L2 PySem.Spec PyProof.Rows
variable [TB:Tb]
def C12:Option Ç->Z->Z
 |none,_=>none
 |some _,z=>z
def r40(K:Â)(G:Gs)(E:XK)(H0:Hp)(zE:Option Ç)(B:Hp)(D:Ends):R O->Prop
 |.ok (.nx ρ) z=>∀ zA ow σ H,RW K H0 zE zA ow H ρ σ->d70 zA z H->a30 B (hw ow (hz zA H))->D.nx σ H
 |.ok (.rt s) z=>∀ v H,s≠.z->Ext zE H0 H->d70 zE (C12 zE z) H->RvS K zE H0 H s v->D.rt v H
 |.er c z=>∀ e H,Ext zE H0 H->d70 zE (C12 zE z) H->H e=none->E (.ref (G.cls c)) (some e) H
def tX(K:Â)(G:Gs)(E:XK)(H0:Hp)(zE:Option Ç)(x:Sm):TS:=λD σ H=>∃ zA ow ρ z r,RW K H0 zE zA ow H ρ σ/\d70 zA z H/\ex G.F zE.isNone x ρ z=some r/\r40 K G E H0 zE (hw ow (hz zA H)) D r
section
variable {K:Â}{G:Gs}{E:XK}{H0 H H':Hp}{zE zA:Option Ç}{ow:Nat->Option Ç}{ρ:Env}{σ:L2.St}{Dn:Ends}{z:Z}
÷l32(zok:zA=zE∨(zE=none/\∀ a,zA=some a->H0 a=none))(st:d70 zA z H):d70 zE (C12 zE z) H:=by
 cases zE with
 |none=>§⟨trivial,st.tab⟩
 |some a =>
  rcases zok with rfl | ⟨h,_⟩
  ·§st
  ·cases h
÷r40.er_(po:r40 K G E H0 zE B Dn (.er c z))(r:RW K H0 zE zA ow H ρ σ):EPost G zA E c z H:=λe H' x st n=>po e H' (A01 r.ext r.zok x) (l32 r.zok st) n
÷r40.ers(po:r40 K G E H0 zE B Dn rr)(r:RW K H0 zE zA ow H ρ σ):∀ c z1,rr=.er c z1->EPost G zA E c z1 H:=λc z1 e=>by subst e;§po.er_ r
÷r40.mono(po:r40 K G E H0 zE B Dn rr)(h:a30 B B'):r40 K G E H0 zE B' Dn rr:=by
 match rr,po with
 |.ok (.nx _) _,po=>§λzA ow σ H r st sm=>po zA ow σ H r st (a30.trans h sm)
 |.ok (.rt _) _,po=>§po
 |.er _ _,po=>§po
÷B00(ow:Nat->Option Ç)(i:Nat):a30 (hw ow H) (hw (ow0 ow i) H):=λb o e=>by
 ¶⟨e1,e2⟩:=E10 e
 ¤i80 e1 λj q=>?_
 unfold ow0 at q
 split at q
 ·cases q
 ·§e2 j q
÷E20(ow:Nat->Option Ç):a30 (hw ow H) (hw (λ_=>none) H):=λb o e=>i80 (E10 e).1 λj q=>nomatch q
÷O91(x:Ext zA H H')(hn:H a=none)(i:Nat):a30 (hw ow (hz zA H)) (hw (ow1 ow i a) (hz zA H')):=λb o e=>by
 ¶⟨e1,e2⟩:=E10 e
 have e3:=(r30 e1).1
 have hb:b≠a:=λq=>by rw[q,hn] at e3;cases e3
 ¤i80 (x b o e1) λj q=>?_
 unfold ow1 at q
 split at q
 ·cases q;§hb rfl
 ·§e2 j q
÷M50(e:ow i=some a):a30 (hw ow (hz zA H)) (hw ow (hz zA (upd H a o))):=λb u q=>by
 ¶⟨e1,e2⟩:=E10 q
 ¶⟨e3,e4⟩:=r30 e1
 have hb:b≠a:=λw=>e2 i (by rw[w];§e)
 §i80 (d50 (by rw[a60 hb];§e3) e4 (s00 e1)) e2
mutual
theorem P01:∀ {p:Pat}{d:D}{ρ ρ':Env},e70 p d ρ=some ρ'->∀ {ow:Nat->Option Ç}{σ:L2.St}{v:V}{R:L2.St->Hp->Prop},RW K H0 zE zA ow H ρ σ->Hd K (hw ow (hz zA H)) d v ->
  (∀ ow' σ',RW K H0 zE zA ow' H ρ' σ'->a30 (hw ow (hz zA H)) (hw ow' (hz zA H))->R σ' H)->gP K p v σ H R
 |.v i,d,ρ,ρ',e,ow,σ,v,R,r,hd,k=>by
  unfold e70 at e
  cases e
  unfold gP
  §k _ _ (r.W32 hd) (B00 ow i)
 |.tup ps,d,ρ,ρ',e,ow,σ,v,R,r,hd,k=>by
  unfold e70 at e
  cases d with
  |tup l =>
   ¶⟨a,xs,rfl,h1,h2⟩:=hd.A10
   unfold gP
   §⟨a,xs,rfl,(a20 zA H).sqT (a30.sqT k40 h1),by rw[h2.length];§E00 e,A11 e r h2 k⟩
  |_=>cases e
 |.nil,_,_,_,e,_,_,_,_,_,_,_=>by unfold e70 at e;cases e
 |.cons _ _,_,_,_,e,_,_,_,_,_,_,_=>by unfold e70 at e;cases e
theorem A11:∀ {r:Pat}{l:List D}{ρ ρ':Env},bindL r l ρ=some ρ'->∀ {ow:Nat->Option Ç}{σ:L2.St}{vs:List V}{R:L2.St->Hp->Prop},RW K H0 zE zA ow H ρ σ->HdA K (hw ow (hz zA H)) l vs ->
  (∀ ow' σ',RW K H0 zE zA ow' H ρ' σ'->a30 (hw ow (hz zA H)) (hw ow' (hz zA H))->R σ' H)->gL K r vs σ H R
 |.nil,l,ρ,ρ',e,ow,σ,vs,R,r,hd,k=>by
  unfold bindL at e
  cases l with
  |nil =>
   cases e
   unfold gL
   §⟨hd.e80,k ow σ r (a30.refl _)⟩
  |cons x l=>cases e
 |.cons p q,l,ρ,ρ',e,ow,σ,vs,R,r,hd,k=>by
  unfold bindL at e
  cases l with
  |nil=>cases e
  |cons x l =>
   ¶⟨ρ1,e1,e2⟩:=Î.mp e
   ¶⟨v,ws,rfl,h1,h2⟩:=hd.c20
   unfold gL
   §⟨v,ws,rfl,P01 e1 r h1 λow' σ' r' sm=>A11 e2 r' (h2.same sm) λow2 σ2 r2 sm2=>k ow2 σ2 r2 (a30.trans sm sm2)⟩
 |.v _,_,_,_,e,_,_,_,_,_,_,_=>by unfold bindL at e;cases e
 |.tup _,_,_,_,e,_,_,_,_,_,_,_=>by unfold bindL at e;cases e
end
÷A21(r:RW K H0 zE zA ow H ρ σ)(s:S):∃ ow',RW K H0 zE zA ow' H (k90 s ρ) σ/\a30 (hw ow (hz zA H)) (hw ow' (hz zA H))/\(A00 s=true∨∀ i,ow' i=none):=by
 unfold k90
 rw[S20]
 cases hb:A00 s with
 |true=>§⟨ow,r,a30.refl _,.inl rfl⟩
 |false=>§⟨_,r.Z70,E20 ow,.inr λ_=>rfl⟩
÷P11{p:Pat}{s:S}{v:V}{ρ':Env}{R:L2.St->Hp->Prop}(r:RW K H0 zE zA ow H ρ σ)(x:Ext zA H H')(rv:RvS K zA H H' s v)(e:S30 p s (k90 s ρ)=some ρ')
  (k:∀ ow' σ',RW K H0 zE zA ow' H' ρ' σ'->a30 (hw ow (hz zA H)) (hw ow' (hz zA H'))->R σ' H'):gP K p v σ H' R:=by
 ¶⟨owk,r1,s1,b1⟩:=A21 r s
 have r2:=r1.mono x
 have s2:a30 (hw ow (hz zA H)) (hw owk (hz zA H')):=a30.trans s1 (c90 x)
 cases s with
 |d y =>
  have e':e70 p y (k90 (.d y) ρ)=some ρ':=by cases p <;> §e
  ¤P01 e' r2 ?_ λow' σ' r3 s3=>k ow' σ' r3 (a30.trans s2 s3)
  rcases b1 with b1 | b1
  ·§M40 r2.g12 b1 rv
  ·have:owk=λ_=>none:=funext b1
   subst this
   rw[x20];§rv
 |z =>
  cases p with
  |v i =>
   simp only[S30] at e
   split at e
   ·cases e
    unfold gP
    §k _ _ (r2.W42 rv) (a30.trans s2 (B00 owk i))
   ·cases e
  |_=>cases e
 |fr xs =>
  cases p with
  |v i =>
   simp only[S30] at e
   split at e
   ·rename_i hi
    cases e
    unfold gP
    ¶⟨a,ys,rfl,h1,h2,h3,h4⟩:=rv
    ¤k _ _ (r1.W52 x h1 h2 h3 ?_ hi) (a30.trans s1 (O91 x h1 i))
    rcases b1 with b1 | b1
    ·¤A90 (λj b q=>?_) b1 (h4.same (e60 a _))
     unfold ow1 at q
     split at q
     ·cases q;§⟨ys,d50 h3 h2⟩
     ·§r2.g12 j b q
    ·¤h4.same λb o q=>?_
     have hb:b≠a:=λw=>by subst w;unfold hide at q;rw[if_pos rfl] at q;cases q
     ¤i80 (e60 a _ b o q) λj w=>?_
     unfold ow1 at w
     split at w
     ·cases w;§hb rfl
     ·rw[b1 j] at w;cases w
   ·cases e
  |_=>cases e
end
end Q
namespace Q
open PySem L2 PySem.Spec PyProof.Rows
variable [TB:Tb]
÷g22(h:n60 v=false):Ä6 [tg] v env=pure none:=by
 cases tg <;> first | rfl | (cases v <;> first | (cases h;done) | rfl)
÷g32(h:vs.all (Û8 8)=true):Ä6 [.Tuple ts k p] (.Tuple vs k' p') env=pure none:=by
 unfold Ä6
 simp only[h,if_true]
 split
 ·rfl
 ·split
  ·rfl
  ·split
   ·rfl
   ·rfl
def A31(look:Str->Option Ë6):Ò->Bool
 |.Name id _=>look id != some .local
 |_=>true
÷g42(h:ts.any (A31 env.kindOf)=true):Ä6 [.Tuple ts k p] (.Tuple vs k' p') env=pure none:=by
 have hl:∀ (l:Nat) (ts:List Ò),ts.any (A31 env.kindOf)=true->(ts.filterMap fun
   |.Name id pos=>if env.kindOf id == some .local&&pos.line == l then some id else none
   |_=>none).length < ts.length:=by
  intro l ts
  induction ts with
  |nil=>intro h;cases h
  |cons e r ih =>
   intro h
   have le:=List.length_filterMap_le (fun
    |.Name id pos=>if env.kindOf id == some .local&&pos.line == l then some id else none
    |_=>none:Ò->Option Str) r
   rw[List.any_cons,Å6] at h
   rw[Á4]
   split
   ·rw[Þ];omega
   ·rename_i b hb
    rcases h with h | h
    ·exfalso
     cases e with
     |Name id pos =>
      have h':(env.kindOf id != some .local)=true:=h
      simp only[bne_iff_ne,ne_eq] at h'
      simp[h'] at hb
     |_=>cases hb
    ·have:=ih h
     rw[Þ,Þ];omega
 unfold Ä6
 dsimp only
 split
 ·rfl
 ·split
  ·rfl
  ·have:=hl ((ts.head?.map (·.pos.line)).getD 0) ts h
   rw[if_pos]
   simp only[Å6,bne_iff_ne,ne_eq]
   §.inl (Ù this)
÷w62{x y:Str}{a b:Ò}{px py pt pt2:Pos}{k k2:Nat}{env:È9}(hb:env.blockKind=.function)(hx:env.kindOf x=some .local)(hy:env.kindOf y=some .local)(hxy:(x == y)=false)(hl:(py.line == px.line)=true)
  (ha:noStar a=true) (hb':noStar b=true) (hf:[a,b].all (Û8 8)=false) (hc:[a,b].all (constantsAlone 8)=false) :
  Ä6 [.Tuple [.Name x px,.Name y py] k pt] (.Tuple [a,b] k2 pt2) env=pure (some [x,y]):=by
 have hbk:(env.blockKind != .function)=false:=by rw[hb];rfl
 have e1:(x == x)=true:=beq_self_eq_true x
 have hyx:(y == x)=false:=by
  cases h:y == x with
  |false=>rfl
  |true=>rw[beq_iff_eq] at h;subst h;rw[e1] at hxy;cases hxy
 have hl2:(Ò.Name x px).pos.line=px.line:=rfl
 have hl3:(Ò.Name y py).pos.line=py.line:=rfl
 have hl':py.line=px.line:=by simpa using hl
 unfold Ä6
 simp only[List.filterMap,List.head?,Î7,Option.getD,hx,hy,hf,hc,hbk,hl2,hl']
 simp[List.eraseDups,List.eraseDupsBy,List.eraseDupsBy.loop,hyx,hxy]
 intro h
 rcases h with h | h
 ·cases a <;> first | (cases h;done) | (cases ha;done)
 ·cases b <;> first | (cases h;done) | (cases hb';done)
def T70:Ò->Bool
 |.ListComp ..=>false
 |.SetComp ..=>false
 |.DictComp ..=>false
 |_=>true
÷u90(h:T70 v=true)(t:Option Ò):Ô9 v t n env=pure false:=by
 cases v <;> first | rfl | (cases h;done)
÷T80(h:(match tg with | .Name ..=>true | _=>false)=false):Ô9 v (some tg) n env=pure false:=by
 cases v <;> first | rfl | (cases tg <;> first | rfl | (cases h;done))
÷P21{el:Ò}{gs:List Comprehension}{sc:ý}{p px:Pos}{t:Str}{n:Nat}{env:È9}:∃ b,Ô9 (.ListComp el gs sc p) (some (.Name t px)) n env=pure b:=⟨_,rfl⟩
structure XS(lm:Bool)(X:Cx)(G:Gs)(E:XK)(N:List Str)(sc:Scope)(cn:List Str):Prop extends XI lm X G E N sc where
 sco:X.env.scope=sc
 fnk:sc.kind=.function
 own:PassesOwn (model X.prog X.w) X.A X.env X.xe
 can:K80 X E
 fnx:∀ x,X.fn x=true
 cls:∀ c x,cn[c]?=some x->X.mg x=some (.ref (G.cls c))/\PySem.W.excIn X.K (G.cls c) [.type "ValueError",.type "Exception",.type "BaseException",.type "object"] "ValueError.__new__"=true
def T90(sc:ý)(x:Str):Bool:=sc.names.lookup x == some .local || sc.names.lookup x == some .cell
section
variable {lm:Bool}{X:Cx}{G:Gs}{E:XK}{N:List Str}{sc:ý}{cn:List Str}{H0:Hp}{zE:Option Ç}
÷XS.loc(x:XS lm X G E N sc cn):O31 X N (T90 sc):=by
 ¤⟨x.hN,x.nd,λy h=>?_,λy _=>.inl (x.fnx y),x.calm⟩
 unfold T90 at h
 rw[Å6,beq_iff_eq,beq_iff_eq] at h
 rw[x.sco];§h
÷XS.bk(x:XS lm X G E N sc cn):X.env.blockKind=.function:=by
 unfold Env.blockKind
 rw[x.sco,x.fnk];rfl
÷PS.imp{st:Å1}{t t':TS}(h:PS X st t)(i:∀ D σ H,t' D σ H->t D σ H):PS X st t':=λpins s σ H D I q=>h pins s σ H D I (i _ _ _ q)
÷PSs.imp{st:List Å1}{t t':TS}(h:PSs X st t)(i:∀ D σ H,t' D σ H->t D σ H):PSs X st t':=λpins s σ H D I q=>h pins s σ H D I (i _ _ _ q)
÷K82:PSs X [] (tX X.K G E H0 zE .nil):=PSs.imp q81 λD σ H q=>by
 ¶⟨zA,ow,ρ,z,r,rw,st,e,po⟩:=q
 cases e
 §po zA ow σ H rw st (a30.refl _)
÷K92{s r:Sm}{st:Å1}{rest:List Å1}(h1:PS X st (tX X.K G E H0 zE s))(h2:PSs X rest (tX X.K G E H0 zE r)):PSs X (st::rest) (tX X.K G E H0 zE (.seq s r)):=PSs.imp (j60 h1 h2) λD σ H q=>by
 ¶⟨zA,ow,ρ,z,rr,rw,st,e,po⟩:=q
 have e0:M.bind (ex G.F zE.isNone s ρ) (λo=>match o with | .nx ρ=>ex G.F zE.isNone r ρ | .rt s=>M.ret (.rt s)) z=some rr:=e
 rcases M.bind_some e0 with ⟨o,z1,e1,e2⟩ | ⟨c,z1,e1,e2⟩
 ·¤⟨zA,ow,ρ,z,_,rw,st,e1,?_⟩
  cases o with
  |nx ρ1=>§λzA' ow' σ' H' rw' st' sm=>⟨zA',ow',ρ1,z1,rr,rw',st',e2,po.mono sm⟩
  |rt s=>cases e2;§po
 ·subst e2
  §⟨zA,ow,ρ,z,_,rw,st,e1,po⟩
÷V61{p:Pat}{e:Ex}{D:Ends}{σ:L2.St}{H:Hp}(q:tX X.K G E H0 zE (.set p e) D σ H):n32 (tI X.K G E e) (gP X.K p) D σ H:=by
 ¶⟨zA,ow,ρ,z,rr,rw,st,ee,po⟩:=q
 ¤j40 rw.P20 st ee (po.ers rw) λl z1 e1=>?_
 ¶⟨s,hs,e2⟩:=M.a10 e1
 ¤⟨s,D80 hs,λv H1 x1 st1 rv=>?_⟩
 ¶⟨ρ',hb,e3⟩:=M.a10 e2
 cases e3
 §P11 rw x1 rv hb λow' σ' r' sm=>po zA ow' σ' H1 r' st1 sm
÷W62{K:Â}{i:Nat}:gP K (.v i)=X70 i:=by unfold gP;rfl
÷L02(x:XS lm X G E N sc cn){i:Nat}{e:Ex}{y:Str}{v:Ò}{px pos:Pos}(hi:N[i]?=some y)(hl:T90 sc y=true)(g:b00 X G E e v)
  (hc:∀ elt gs csc q,v=.ListComp elt gs csc q->∃ tg Ä0 ifs,gs=[⟨tg,Ä0,ifs,0⟩]/\H40 X G E e elt tg Ä0 ifs csc) (hno:∀ a b c d,v≠.SetComp a b c d) (hnd:∀ a b c d f,v≠.DictComp a b c d f) :
  PS X (.Assign [.Name y px] v pos) (tX X.K G E H0 zE (.set (.v i) e)):=by
 have L:=x.loc
 ¤PS.imp (t:=n32 (tI X.K G E e) (X70 i)) ?_ λD σ H q=>by rw[← W62 (K:=X.K)];§V61 q
 have h1:X.N.Nodup:=by rw[x.hN];§x.nd
 have h2:X.N[i]?=some y:=by rw[x.hN];§hi
 by_cases hv:∃ elt gs csc q,v=.ListComp elt gs csc q
 ·¶⟨elt,gs,csc,q,rfl⟩:=hv
  ¶⟨b,hb⟩:=P21 (el:=elt) (gs:=gs) (sc:=csc) (p:=q) (px:=px) (t:=y) (n:=pos.line) (env:=X.env)
  cases b with
  |false=>§y20 h1 h2 (L.lc y hl) g.pe hb (L.fn y hl)
  |true =>
   ¶⟨tg,Ä0,ifs,rfl,own,capt,wi,gg,tt,te,k1,k2,k3,k4,k5,k6,k7⟩:=hc elt gs csc q rfl
   ¤PS.imp (Z61 h1 h2 (L.lc y hl) hb x.calm k1 k2 k3 k4 k5 k6 (L.fn y hl)) λD σ H q=>k7 _ _ _ q
 ·§y20 h1 h2 (L.lc y hl) g.pe (u90 (by cases v <;> first | rfl | §absurd rfl (hno _ _ _ _) | §absurd rfl (hnd _ _ _ _ _) | §absurd ⟨_,_,_,_,rfl⟩ hv) _) (L.fn y hl)
÷A41(x:XS lm X G E N sc cn){p:Pat}{e:Ex}{tg v:Ò}{pos:Pos}(hp:j50 N (T90 sc) p tg=true)(g:b00 X G E e v)(ht:n60 tg=true)(hv:Ä6 [tg] v X.env=pure none) :
  PS X (.Assign [tg] v pos) (tX X.K G E H0 zE (.set p e)):=by
 ¤PS.imp (S61 g.pe (y41 x.loc hp) ?_ hv ?_) λD σ H q=>V61 q
 ·§T80 (by cases tg <;> first | rfl | (cases ht;done))
 ·cases tg <;> first | rfl | (cases ht;done)
÷L12(x:XS lm X G E N sc cn){i j:Nat}{ea eb:Ex}{a b:Ò}{y w:Str}{px py pt pt2 pos:Pos}{k k2:Nat}(hi:N[i]?=some y)(hj:N[j]?=some w)(hyw:(y == w)=false)(hy:sc.names.lookup y=some .local)(hw':sc.names.lookup w=some .local)
  (g:Good X G E (.cons ea (.cons eb .nil)) [a,b]) (hs:Ä6 [.Tuple [.Name y px,.Name w py] k pt] (.Tuple [a,b] k2 pt2) X.env=pure (some [y,w])) :
  PS X (.Assign [.Tuple [.Name y px,.Name w py] k pt] (.Tuple [a,b] k2 pt2) pos) (tX X.K G E H0 zE (.set (.tup (.cons (.v i) (.cons (.v j) .nil))) (.tup (.cons ea (.cons eb .nil))))):=by
 have hij:i≠j:=λh=>by
  subst h
  rw[hi] at hj;cases hj
  rw[beq_self_eq_true] at hyw;cases hyw
 ¤PS.imp (n42 x.calm (by rw[x.hN];§x.nd) (by rw[x.hN];§hi) (by rw[x.hN];§hj) hij (by rw[x.sco];§hy) (by rw[x.sco];§hw') (g.args rfl).1 hs rfl) λD σ H q=>?_
 ¶⟨zA,ow,ρ,z,rr,rw,st,ee,po⟩:=q
 have e0:M.bind (M.bind (ev G.F (.cons ea (.cons eb .nil)) ρ) λl=>M.bind (M.of (plA l)) λds=>if ds.length<=most then M.ret [S.d (.tup ds)] else M.no) (λl=>M.bind (M.of (one l)) λs=>M.bind (M.of (S30 (.tup (.cons (.v i) (.cons (.v j) .nil))) s (k90 s ρ))) λρ=>M.ret (O.nx ρ)) z=some rr:=ee
 rcases M.bind_some e0 with ⟨l0,z0,e1,e2⟩ | ⟨c,z1,e1,e2⟩
 ·rcases M.bind_some e1 with ⟨l,z1,e3,e4⟩ | ⟨c,z1,e3,e4⟩
  ·¶⟨ds,hds,e5⟩:=M.a10 e4
   split at e5
   ·cases e5
    ¶⟨s,hs',e6⟩:=M.a10 e2
    cases hs'
    ¶⟨ρ',hb,e7⟩:=M.a10 e6
    cases e7
    ¤⟨zA,ρ,z,_,rw.P20,st,e3,λvs H1 x1 st1 rvs=>?_⟩
    have hd:=G30 rvs hds
    ¶⟨owk,r1,s1,b1⟩:=A21 rw (.d (.tup ds))
    have hb':bindL (.cons (.v i) (.cons (.v j) .nil)) ds (k90 (.d (.tup ds)) ρ)=some ρ':=by
     have:e70 (.tup (.cons (.v i) (.cons (.v j) .nil))) (.tup ds) (k90 (.d (.tup ds)) ρ)=some ρ':=hb
     unfold e70 at this;§this
    have r2:=r1.mono x1
    have hd2:HdA X.K (hw owk (hz zA H1)) ds vs:=by
     rcases b1 with b1 | b1
     ·§A90 r2.g12 (by simpa [A00,bare] using b1) hd
     ·have:owk=λ_=>none:=funext b1
      subst this
      rw[x20];§hd
    have:=A11 hb' (R:=D.nx) r2 hd2 λow' σ' r' sm=>po zA ow' σ' H1 r' st1 (a30.trans s1 (a30.trans (c90 x1) sm))
    unfold gL at this
    ¶⟨v,vr,rfl,this⟩:=this
    unfold gP gL at this
    ¶⟨u,ur,rfl,this⟩:=this
    unfold gP gL at this
    ¶⟨rfl,this⟩:=this
    §⟨v,u,rfl,this⟩
   ·cases e5
  ·cases e4
 ·subst e2
  rcases M.bind_some e1 with ⟨l,z2,e3,e4⟩ | ⟨c,z2,e3,e4⟩
  ·¶⟨ds,hds,e5⟩:=M.a10 e4
   split at e5 <;> cases e5
  ·cases e4
   §⟨zA,ρ,z,_,rw.P20,st,e3,po.er_ rw⟩
÷V71{s t:S}(h:noS s=some t):s=t/\t≠.z:=by
 cases s with
 |z=>cases h
 |d _=>cases h;§⟨rfl,λh=>nomatch h⟩
 |fr _=>cases h;§⟨rfl,λh=>nomatch h⟩
÷w72(x:XS lm X G E N sc cn){i:Nat}{n:Str}{p pos:Pos}(h1:N[i]?=some n)(h2:c80 n=true):PS X (.Return (some (.Name n p)) pos) (tX X.K G E H0 zE (.ret (.var i))):=by
 unfold c80 at h2
 simp only[Á,À1] at h2
 ¤PS.imp (e11 (o50 (i:=i) (by rw[x.hN];§h1) (x.vis n (è h1)) h2.1 h2.2)) λD σ H q=>?_
 ¶⟨zA,ow,ρ,z,rr,rw,st,ee,po⟩:=q
 have e0:(match ρ[i]? with | some (some s)=>M.bind (M.of (noS s)) λs=>M.ret (O.rt s) | _=>M.no) z=some rr:=ee
 cases hs:ρ[i]? with
 |none=>rw[hs] at e0;cases e0
 |some o =>
  cases o with
  |none=>rw[hs] at e0;cases e0
  |some s =>
   rw[hs] at e0
   ¶⟨t,ht,e1⟩:=M.a10 e0
   cases e1
   ¶⟨rfl,nz⟩:=V71 ht
   ¶⟨v,k1,k2⟩:=rw.W22 nz hs
   §⟨v,k1,po v H nz rw.ext (l32 rw.zok st) k2⟩
÷L22{e:Ex}{v:Ò}{pos:Pos}(hv:∀ i,e≠.var i)(g:b00 X G E e v):PS X (.Return (some v) pos) (tX X.K G E H0 zE (.ret e)):=by
 ¤PS.imp (e11 g.pe) λD σ H q=>?_
 ¶⟨zA,ow,ρ,z,rr,rw,st,ee,po⟩:=q
 have e0:M.bind (ev G.F e ρ) (λl=>M.bind (M.of ((one l).bind noS)) λs=>M.ret (O.rt s)) z=some rr:=by
  cases e <;> first | §ee | §absurd rfl (hv _)
 ¤j40 rw.P20 st e0 (po.ers rw) λl z1 e1=>?_
 ¶⟨t,ht,e2⟩:=M.a10 e1
 cases e2
 ¶⟨s,hs,hn⟩:=Î.mp ht
 ¶⟨rfl,nz⟩:=V71 hn
 §⟨s,D80 hs,λv H1 x1 st1 rv=>po v H1 nz (A01 rw.ext rw.zok x1) (l32 rw.zok st1) (rw.out nz x1 rv)⟩
÷W72{c:Ex}{t u:Sm}{ce:Ò}{a b:List Å1}{pos:Pos}(g:b00 X G E c ce)(hn:∀ t a b p,ce≠.IfExp t a b p)(ha:PSs X a (tX X.K G E H0 zE t))(hb:PSs X b (tX X.K G E H0 zE u)) :
  PS X (.If ce a b pos) (tX X.K G E H0 zE (.iff c t u)):=by
 ¤PS.imp (m92 (g.pt hn) ha hb) λD σ H q=>?_
 ¶⟨zA,ow,ρ,z,rr,rw,st,ee,po⟩:=q
 ¤T00 rw.P20 st ee (po.ers rw) λb z1 e1 H1 x1 st1=>?_
 have r1:=rw.mono x1
 have sm:a30 (hw ow (hz zA H)) (hw ow (hz zA H1)):=c90 x1
 cases b with
 |true=>§⟨zA,ow,ρ,z1,rr,r1,st1,e1,po.mono sm⟩
 |false=>§⟨zA,ow,ρ,z1,rr,r1,st1,e1,po.mono sm⟩
÷L32{e:Ex}{v:Ò}{pos:Pos}(g:b00 X G E e v)(h:T70 v=true):PS X (.Expr v pos) (tX X.K G E H0 zE (.exp e)):=by
 ¤PS.imp (X60 g.pe (u90 h none)) λD σ H q=>?_
 ¶⟨zA,ow,ρ,z,rr,rw,st,ee,po⟩:=q
 have e0:M.bind (ev G.F e ρ) (λl=>M.bind (M.of (one l)) λ_=>M.ret (O.nx ρ)) z=some rr:=ee
 ¤j40 rw.P20 st e0 (po.ers rw) λl z1 e1=>?_
 ¶⟨s,hs,e2⟩:=M.a10 e1
 cases e2
 §⟨s,D80 hs,λv H1 x1 st1 rv=>po zA ow σ H1 (rw.mono x1) st1 (c90 x1)⟩
÷g52(h:asI d=some i):d=.int i:=by cases d <;> first | (cases h;rfl) | (cases h;done)
÷x_raise(x:XS lm X G E N sc cn){c:Nat}{n:Str}{y:Str}{k:Nat}{p1 p2 p3 p4:Pos}(hc:cn[c]?=some n)(hg:glob sc n=true):PS X (.Raise (some (.Call (.Name n p1) [.Constant (.str y) k p2] [] p3)) none p4) (tX X.K G E H0 zE (.rais c)):=by
 ¶⟨k1,k2,_⟩:=d20 hg
 ¶⟨m1,m2⟩:=x.cls c n hc
 ¤PS.imp (L11 x.can x.calm (x.glb n k1) m1 m2 (d90 S41 r60) k2 rfl rfl) λD σ H q=>?_
 ¶⟨zA,ow,ρ,z,rr,rw,st,ee,po⟩:=q
 cases ee
 §⟨by show 1<=Û;decide,λe hn=>po e H rw.ext (l32 rw.zok st) hn⟩
end
section
variable {K:Â}{H0 H H':Hp}{zE zA:Option Ç}{ow:Nat->Option Ç}{ρ:Env}{σ:L2.St}
÷g70(e:ow0 ow i j=some a):j≠i/\ow j=some a:=by
 unfold ow0 at e
 split at e
 ·cases e
 ·rename_i n;§⟨n,e⟩
÷B10:ow0 ow i i=none:=if_pos rfl
÷A51(h:j≠i):ow0 ow i j=ow j:=if_neg h
÷P31{ρ:Env}{j:Nat}{s:S}(h:(S10 ρ)[j]?=some (some s)):ρ[j]?=some (some s)/\s≠.z:=by
 unfold S10 at h
 rw[Ü] at h
 ¶⟨o,e1,e2⟩:=Ê.mp h
 cases o with
 |none=>cases e2
 |some t =>
  cases t with
  |z=>cases e2
  |d x=>cases e2;§⟨e1,λh=>nomatch h⟩
  |fr x=>cases e2;§⟨e1,λh=>nomatch h⟩
÷g62{j:Nat}(h:ρ[j]?=some (some (.fr xs))):(S10 ρ)[j]?=some (some (.fr xs)):=by
 unfold S10
 rw[Ü,h];rfl
÷RW.W82(r:RW K H0 none zA ow H ρ σ){i:Nat}(x:Ext zA H H')(hn:H a=none)(za:zA≠some a)(hl:H' a=some (.lst ys)) :
  RW K H0 none (some a) (ow0 ow i) H' ((S10 ρ).set i (some .z)) (σ.set i (some (.ref a)))/\a30 (hw ow (hz zA H)) (hw (ow0 ow i) (hz (some a) H')):=by
 have r':=r.mono x
 have old:∀ j b,ow j=some b->b≠a:=λj b e q=>by
  ¶⟨zs,h1⟩:=r.lst j b e
  rw[q,hn] at h1;cases h1
 have sm:a30 (hw ow (hz zA H)) (hw (ow0 ow i) (hz (some a) H')):=λb o e=>by
  ¶⟨e1,e2⟩:=E10 e
  have hb:b≠a:=λq=>by
   have e3:H b=some o:=(r30 e1).1
   rw[q,hn] at e3;cases e3
  §i80 (d50 (r30 (x b o e1)).1 (λq=>by cases q;§hb rfl) (s00 e1)) λj q=>e2 j (g70 q).2
 have dl:(S10 ρ).length=ρ.length:=by unfold S10;rw[É]
 ¤⟨⟨by rw[Ä1,Ä1,dl];§r.len,λj k b h1 h2=>r.inj j k b (g70 h1).2 (g70 h2).2,λj b h1 q=>?_,λj b h1=>?_,λj s e=>?_,r'.ext,.inr ⟨rfl,λb q=>?_⟩,λj b h1=>r.new j b (g70 h1).2⟩,sm⟩
 ·cases q
  §old j _ (g70 h1).2 rfl
 ·¶⟨n,h2⟩:=g70 h1
  ¶⟨xs,h3⟩:=r.own j b h2
  §⟨xs,by rw[ê (Â3 n)];§g62 h3⟩
 ·rcases getElem?_set' e with ⟨rfl,e1,hlt⟩ | ⟨n,e1⟩
  ·cases e1
   §⟨.ref a,ñ (by rw[← r.len,← dl];§hlt),B10,a,rfl,rfl⟩
  ·¶⟨e1,nz⟩:=P31 e1
   ¶⟨w,h1,h2⟩:=r.wor j s e1
   ¤⟨w,by rw[ê (Â3 n)];§h1,?_⟩
   cases s with
   |d y=>§⟨by rw[A51 n];§h2.1,h2.2.same sm⟩
   |z=>§absurd rfl nz
   |fr xs =>
    ¶⟨b,zs,k1,rfl,k3,k4⟩:=h2
    §⟨b,zs,by rw[A51 n];§k1,rfl,x.at k3 (r.zne j b k1),k4.same sm⟩
 ·cases q
  §(r.young hn za).1
÷RW.plain(r:RW K H0 zE zA ow H ρ σ)(i:Nat):RW K H0 zE zA (ow0 ow i) H (ρ.set i ((ρ[i]?.getD none).map plS)) σ:=by
 have sm:=B00 (H:=hz zA H) ow i
 ¤⟨by rw[Ä1];§r.len,λj k b h1 h2=>r.inj j k b (g70 h1).2 (g70 h2).2,λj b h1=>r.zne j b (g70 h1).2,λj b h1=>?_,λj s e=>?_,r.ext,r.zok,λj b h1=>r.new j b (g70 h1).2⟩
 ·¶⟨n,h2⟩:=g70 h1
  ¶⟨xs,h3⟩:=r.own j b h2
  §⟨xs,by rw[ê (Â3 n)];§h3⟩
 ·rcases getElem?_set' e with ⟨rfl,e1,hlt⟩ | ⟨n,e1⟩
  ·cases hs:ρ[j]? with
   |none=>rw[hs] at e1;cases e1
   |some o =>
    rw[hs] at e1
    cases o with
    |none=>cases e1
    |some s0 =>
     cases e1
     ¶⟨w,h1,h2⟩:=r.wor j s0 hs
     ¤⟨w,h1,?_⟩
     cases s0 with
     |d y=>§⟨B10,h2.2.same sm⟩
     |z=>§⟨B10,h2.2⟩
     |fr xs =>
      ¶⟨b,zs,k1,rfl,k3,k4⟩:=h2
      ¤⟨B10,Hd.lst (i80 (d50 k3 (r.zne j b k1)) λk q=>?_) (k4.same sm)⟩
      ¶⟨q1,q2⟩:=g70 q
      §q1 (r.inj k j b q2 k1)
  ·¶⟨w,h1,h2⟩:=r.wor j s e1
   §⟨w,h1,h2.move (A51 n) sm λ_ _=>rfl⟩
end
÷HdA.eraseIdx{K:Â}{H:Hp}:∀ {ds:List D}{vs:List V} (n:Nat),HdA K H ds vs->HdA K H (ds.eraseIdx n) (vs.eraseIdx n)
 |[],_,n,h=>by rw[h.e80];§.nil
 |d::ds,_,0,h=>by
  ¶⟨x,r,rfl,h1,h2⟩:=h.c20
  §h2
 |d::ds,_,n + 1,h=>by
  ¶⟨x,r,rfl,h1,h2⟩:=h.c20
  §.cons h1 (HdA.eraseIdx n h2)
section
variable {lm:Bool}{X:Cx}{G:Gs}{E:XK}{N:List Str}{sc:ý}{cn:List Str}{H0:Hp}{zE:Option Ç}
÷A61{α β:Type}{R:α->β->Prop}{a:α}{vs:List β}(h:Å9 R [a] vs):∃ v,vs=[v]/\R a v:=by
 cases h with
 |cons h1 h2=>cases h2;§⟨_,rfl,h1⟩
÷d70.a60(st:d70 zA z H)(n:zA≠some a)(h:H a=some (.lst xs)):d70 zA z (upd H a o):=by
 ¤⟨?_,λp hp=>Tab.upd (st.tab p hp) h⟩
 have st:=st.zat
 cases zA with
 |none=>cases z <;> §st
 |some b =>
  cases z with
  |none=>§st
  |some p =>
   have hb:b≠a:=λq=>n (by rw[q])
   §(L2.a60 hb).trans st
÷h71(h:ownAt ρ i=some xs):ρ[i]?=some (some (.fr xs)):=by
 unfold ownAt at h
 split at h
 ·rename_i h1;cases h;§h1
 ·cases h
÷A71{K:Â}{zA:Option Ç}{H0 H:Hp}{s:S}{v:V}{x:D}(h:RvS K zA H0 H s v)(e:plD s=some x):Hd K (hz zA H) x v:=h.pl.d_ e
÷L42(x:XS lm X G E N sc cn){i:Nat}{n:Str}{e:Ex}{v:Ò}{p apos cpos pos:Pos}(h1:N[i]?=some n)(h2:c80 n=true)(ns:noStar v=true)(g:b00 X G E e v)(hl:(apos.endLine == cpos.line)=true) :
  PS X (.Expr (.Call (.Attribute (.Name n p) "append" apos) [v] [] cpos) pos) (tX X.K G E H0 zE (.app i e)):=by
 unfold c80 at h2
 simp only[Á,À1] at h2
 have ga:Good X G E (.cons e .nil) [v]:=⟨v,[],rfl,ns,g,rfl,rfl⟩
 have hs:=c60 ns [] X.env
 ¤PS.imp (X60 (Z21 Ð7 Ý7 Ý6 Q90 (o50 (i:=i) (by rw[x.hN];§h1) (x.vis n (è h1)) h2.1 h2.2) (ga.args rfl).1 rfl (by rw[hs];rfl) hl hs rfl) (u90 rfl none)) λD σ H q=>?_
 ¶⟨zA,ow,ρ,z,rr,rw,st,ee,po⟩:=q
 ¶⟨xs,hx,e1⟩:=M.a10 ee
 have ho:=h71 hx
 ¶⟨w,k1,a,ys,k2,rfl,k3,k4⟩:=rw.wor i _ ho
 ¤⟨_,k1,.inl ⟨rfl,ys,SqL.of k3⟩,?_⟩
 have e2:M.bind (ev G.F (.cons e .nil) ρ) (λm=>M.bind (M.of (pl m)) λx=>if bare x=true/\xs.length < most then M.ret (O.nx (ρ.set i (some (.fr (xs++[x]))))) else M.no) z=some rr∨∃ c z1,ev G.F e ρ z=some (.er c z1)/\rr=.er c z1:=by
  rcases M.bind_some e1 with ⟨l,z1,e3,e4⟩ | ⟨c,z1,e3,e4⟩
  ·¶⟨y,hy,e5⟩:=M.a10 e4
   ¶⟨s,rfl,hs⟩:=e90 hy
   ¤.inl ?_
   show M.bind (M.bind (ev G.F e ρ) λx=>M.bind (M.of (one x)) λs=>M.bind (ev G.F .nil ρ) λy=>M.ret (s::y)) _ z=some rr
   simp only[M.bind,e3,M.of,one,M.ret,ev,hy]
   §e5
  ·§.inr ⟨c,z1,e3,e4⟩
 rcases e2 with e2 | ⟨c,z1,e3,rfl⟩
 ·¤a71 rw.P20 st e2 (po.ers rw) λl z1 e3 vs H1 x1 st1 rvs=>?_
  ¶⟨y,hy,e5⟩:=M.a10 e3
  ¶⟨s,rfl,hs⟩:=e90 hy
  split at e5
  ·rename_i hb
   cases e5
   ¶⟨u,rfl,ru⟩:=A61 rvs
   have r1:=rw.mono x1
   have k3':=x1.at k3 (rw.zne i a k2)
   have k4':HdA X.K (hw ow (hz zA H1)) xs ys:=k4.same (c90 x1)
   have hd:=M40 r1.g12 hb.1 (A71 ru hs)
   ¤⟨a,ys,u,rfl,rfl,k3',Ú (by rw[k4.length];§hb.2) (f00 (Í _)),?_⟩
   ¤po zA ow σ _ (r1.upd k2 (k4'.append (.cons hd .nil))) ?_ (a30.trans (c90 x1) (M50 k2))
   §st1.a60 (rw.zne i a k2) k3'
  ·cases e5
 ·¤⟨zA,ρ,z,.er c z1,rw.P20,st,?_,po.er_ rw⟩
  show M.bind (ev G.F e ρ) _ z=_
  simp only[M.bind,e3]
÷P41:N92 X (F02 X.K):=by
 intro pins s σ H x y v u Q I rx ry h
 ¶⟨p,xs,i,z,rfl,rfl,hq,he,q⟩:=h
 cases rx
 ¶⟨t,rfl⟩:=ry
 ¶⟨its,r,pl,hz⟩:=I.list hq
 ¶⟨j,h1,h2,h3,h4,h5⟩:=Y00 he
 ¶⟨w,ew,rw'⟩:=r.get h2
 have hl:=r.length
 have hn:=P70
 by_cases h0:0<=i
 ·have hj:i.toNat=j:=by
   rw[Ø9 h0 h5] at h1
   §À7 h1
  §wpAny_getItem_list pl.isList h0 (by omega) (by rw[hj];simpa using ew) ⟨z,H,I,rw',q⟩
 ·have hj:(i + (its.toArray.size:Int)).toNat=j:=by
   rw[seqIndex_neg (by omega) h4] at h1
   rw[Ó,← hl]
   §À7 h1
  §wpAny_getItem_list_neg pl.isList (by omega) (by rw[Ó] <;> omega) (by omega) (by rw[hj];simpa using ew) ⟨z,H,I,rw',q⟩
÷w82(x:XS lm X G E N sc cn){i:Nat}{n:Str}{e ix:Ex}{v w:Ò}{p tp pos:Pos}(h1:N[i]?=some n)(h2:c80 n=true)(g:b00 X G E e v)(gi:b00 X G E ix w)(hw':D90 w=true) :
  PS X (.AugAssign (.Subscript (.Name n p) w tp) .Add v pos) (tX X.K G E H0 zE (.augi i ix e)):=by
 unfold c80 at h2
 simp only[Á,À1] at h2
 ¤PS.imp (Y01 (o50 (i:=i) (by rw[x.hN];§h1) (x.vis n (è h1)) h2.1 h2.2) gi.pe P41 g.pe n52 set_list (by intros;cases w <;> first | rfl | (cases hw';done))) λD σ H q=>?_
 ¶⟨zA,ow,ρ,z,rr,rw,st,ee,po⟩:=q
 ¶⟨xs,hx,e1⟩:=M.a10 ee
 ¶⟨w',k1,a,ys,k2,rfl,k3,k4⟩:=rw.wor i _ (h71 hx)
 ¤⟨_,k1,?_⟩
 ¤j40 rw.P20 st e1 (po.ers rw) λl z1 e2=>?_
 ¶⟨j,hj,e3⟩:=M.a10 e2
 ¶⟨dj,hj1,hj2⟩:=Î.mp hj
 ¶⟨s1,rfl,hs1⟩:=e90 hj1
 ¤⟨s1,rfl,λu1 H1 x1 st1 rv1=>?_⟩
 have hdj:u1=.int j:=by
  have:=A71 rv1 hs1
  cases g52 hj2;§this.h90
 ¶⟨y,hy,e4⟩:=M.a10 e3
 have r1:=rw.mono x1
 have k3':=x1.at k3 (rw.zne i a k2)
 have k4a:HdA X.K (hw ow (hz zA H1)) xs ys:=k4.same (c90 x1)
 ¶⟨b,hb1,hb2⟩:=at_of k4a hy
 ¤⟨a,ys,j,b,rfl,hdj,SqL.of k3',hb1,?_⟩
 ¤j40 r1.P20 st1 e4 (po.ers r1) λl2 z2 e5=>?_
 ¶⟨dx,hx',e6⟩:=M.a10 e5
 ¶⟨s2,rfl,hs2⟩:=e90 hx'
 ¤⟨s2,rfl,λu2 H2 x2 st2 rv2=>?_⟩
 ¶⟨nv,hv,e7⟩:=M.a10 e6
 ¶⟨xi,hxi,hv⟩:=Î.mp hv
 ¶⟨yi,hyi,rfl⟩:=Ê.mp hv
 cases g52 hxi
 cases g52 hyi
 ¤⟨yi,xi,hb2.h90,(A71 rv2 hs2).h90,?_⟩
 ¶⟨xs2,hx2,e8⟩:=M.a10 e7
 cases e8
 unfold H00 at hx2
 ¶⟨m,hm1,rfl⟩:=Ê.mp hx2
 have r2:=r1.mono x2
 have k4':HdA X.K (hw ow (hz zA H2)) xs ys:=k4.same (c90 (x1.trans x2))
 ¤⟨a,ys,j,m,rfl,hdj,x2.at k3' (rw.zne i a k2),by rw[k4.length];§hm1,?_⟩
 §po zA ow σ _ (r2.upd k2 (k4'.set m Hd.int)) (st2.a60 (rw.zne i a k2) (x2.at k3' (rw.zne i a k2))) (a30.trans (c90 (x1.trans x2)) (M50 k2))
÷w92(x:XS lm X G E N sc cn){i f:Nat}{as:Ex}{y:Str}{v:Ò}{px pos:Pos}(hi:N[i]?=some y)(hl:T90 sc y=true)(g:b00 X G E (.call f as) v)(hv:T70 v=true) :
  PS X (.Assign [.Name y px] v pos) (tX X.K G E H0 zE (.newz i f as)):=by
 have L:=x.loc
 ¤PS.imp (y20 (i:=i) (by rw[x.hN];§x.nd) (by rw[x.hN];§hi) (L.lc y hl) g.pe (u90 hv _) (L.fn y hl)) λD σ H q=>?_
 ¶⟨zA,ow,ρ,z,rr,rw,st,ee,po⟩:=q
 ¤j40 rw.P20 st ee (po.ers rw) λl z1 e1=>?_
 have e2:w51 zE.isNone ρ i l=some rr:=e1
 unfold w51 at e2
 split at e2
 ·split at e2
  ·rename_i m b hz'
   cases e2
   have zn:zE=none:=by
    cases zE with
    |none=>rfl
    |some _=>cases hz'
   subst zn
   ¤⟨_,rfl,λu H1 x1 st1 rv=>?_⟩
   ¶⟨a,ys,rfl,k1,k2,k3,k4⟩:=rv
   ¶⟨v1,v2,rfl,h3,h4⟩:=k4.two
   cases h3.h90;cases h4.bl_
   ¶⟨r1,sm⟩:=rw.W82 (i:=i) x1 k1 k2 k3
   §po (some a) _ _ H1 r1 ⟨k3,st1.tab⟩ sm
  ·cases e2
 ·cases e2
÷x02(x:XS lm X G E N sc cn){i:Nat}{n:Str}{e:Ex}{v:Ò}{c:Nat}{p q tp pos:Pos}(h1:N[i]?=some n)(h2:c80 n=true)(g:b00 X G E e v) :
  PS X (.Assign [.Subscript (.Name n p) (.Constant (.int 0) c q) tp] v pos) (tX X.K G E H0 zE (.zset i e)):=by
 unfold c80 at h2
 simp only[Á,À1] at h2
 ¤PS.imp (S61 g.pe (n22 (o50 (i:=i) (by rw[x.hN];§h1) (x.vis n (è h1)) h2.1 h2.2) P30 set_list (by intro u;rfl)) (show Ô9 v (some (.Subscript (.Name n p) (.Constant (.int 0) c q) tp)) pos.line X.env=pure false from T80 rfl) (by cases v <;> rfl)) λD σ H q=>?_
 ¶⟨zA,ow,ρ,z,rr,rw,st,ee,po⟩:=q
 ¤j40 rw.P20 st ee (po.ers rw) λl z1 e1=>?_
 ¶⟨y,hy,e2⟩:=M.a10 e1
 ¶⟨dy,hy1,hy2⟩:=Î.mp hy
 ¶⟨s,rfl,hs⟩:=e90 hy1
 ¤⟨s,rfl,λu H1 x1 st1 rv=>?_⟩
 have e3:w61 ρ y ρ[i]? z1=some rr:=e2
 unfold w61 at e3
 split at e3
 ·rename_i p' hsl
  cases e3
  have r1:=rw.mono x1
  ¶⟨w,k1,k2,a,rfl,rfl⟩:=r1.wor i .z hsl
  have hu:u=.int y:=by
   have:=A71 rv hs
   cases dy <;> first | (cases hy2;§this.h90) | (cases hy2;done)
  subst hu
  have st':H1 a=some (.lst [.int p'.1,.bl p'.2]):=st1.zat
  ¤⟨_,k1,a,[.int p'.1,.bl p'.2],0,0,rfl,rfl,st',rfl,?_⟩
  have x2:Ext (some a) H1 (upd H1 a (.lst [.int y,.bl p'.2])):=by
   ¤⟨λb o h=>?_,λb ps h=>⟨ps,by rw[a60 (λz=>by rw[z,st'] at h;cases h)];§h⟩⟩
   ¶⟨h3,h4⟩:=r30 h
   §d50 (by rw[a60 (λz=>h4 (by rw[z]))];§h3) h4 (s00 h)
  §po (some a) ow σ _ (r1.mono x2) ⟨b20,λp hp=>Tab.upd (st1.tab p hp) st'⟩ (a30.trans (c90 x1.same) (c90 x2.same))
 ·cases e3
÷L52(x:XS lm X G E N sc cn){c:Ex}{b:Sm}{ce:Ò}{body:List Å1}{pos:Pos}(g:b00 X G E c ce)(hn:∀ t a b p,ce≠.IfExp t a b p)(hb:PSs X body (tX X.K G E H0 zE b)):PS X (.While ce body [] pos) (tX X.K G E H0 zE (.whl c b)):=by
 ¤PS.imp (H61 x.own (g.pt hn) hb) λD σ H q=>?_
 ¶⟨zA,ow,ρ,z,rr,rw,st,ee,po⟩:=q
 ¤⟨λm σ H=>∃ zA ow ρ z r,RW X.K H0 zE zA ow H ρ σ/\d70 zA z H/\U21 (ev G.F c) (ex G.F zE.isNone b) m ρ z=some r/\r40 X.K G E H0 zE (hw ow (hz zA H)) D r,⟨k92,zA,ow,ρ,z,rr,rw,st,ee,po⟩,?_⟩
 rintro m σ H ⟨zA,ow,ρ,z,rr,rw,st,ee,po⟩
 cases m with
 |zero=>cases ee
 |succ m =>
  ¤T00 rw.P20 st ee (po.ers rw) λk z1 e1 H1 x1 st1=>?_
  have r1:=rw.mono x1
  have sm:a30 (hw ow (hz zA H)) (hw ow (hz zA H1)):=c90 x1
  cases k with
  |false =>
   cases e1
   §po zA ow σ H1 r1 st1 sm
  |true =>
   rw[if_pos rfl]
   have e2:M.bind (ex G.F zE.isNone b ρ) (λo=>match o with | .nx ρ=>U21 (ev G.F c) (ex G.F zE.isNone b) m ρ | .rt s=>M.ret (.rt s)) z1=some rr:=e1
   ¤⟨λσ' H'=>∃ zA ow ρ z r,RW X.K H0 zE zA ow H' ρ σ'/\d70 zA z H'/\U21 (ev G.F c) (ex G.F zE.isNone b) m ρ z=some r/\r40 X.K G E H0 zE (hw ow (hz zA H')) D r,λσ' H' h=>⟨m,Ì2 m,h⟩,?_⟩
   rcases M.bind_some e2 with ⟨o,z2,e3,e4⟩ | ⟨k,z2,e3,e4⟩
   ·¤⟨zA,ow,ρ,z1,_,r1,st1,e3,?_⟩
    cases o with
    |nx ρ1=>§λzA' ow' σ' H' rw' st' sm'=>⟨zA',ow',ρ1,z2,rr,rw',st',e4,po.mono (a30.trans sm sm')⟩
    |rt s=>cases e4;§po
   ·subst e4
    §⟨zA,ow,ρ,z1,_,r1,st1,e3,po⟩
÷g72{i j:Nat}{e:Ex}{D:Ends}{σ:L2.St}{H:Hp}{zA:Option Ç}{ow:Nat->Option Ç}{ρ:Env}{z:Z}{rr:R O}(rw:RW X.K H0 zE zA ow H ρ σ)(st:d70 zA z H)(ee:r52 G.F i j e ρ z=some rr)(po:r40 X.K G E H0 zE (hw ow (hz zA H)) D rr) :
  m82 (tBM X.K "list" s01 (m22 i) (o42 (tBM X.K "list" T21 (m22 j) (tA X.K G E (.cons e .nil))) O32)) D σ H:=by
 ¶⟨xs,hx,e1⟩:=M.a10 ee
 ¶⟨ys,hy,e1⟩:=M.a10 e1
 have ho:=h71 hx
 have hp:=h71 hy
 ¶⟨w,k1,a,us,k2,rfl,k3,k4⟩:=rw.wor i _ ho
 ¶⟨w',m1,b,ws,m2,rfl,m3,m4⟩:=rw.wor j _ hp
 ¤⟨_,k1,.inl ⟨rfl,us,SqL.of k3⟩,⟨_,m1,.inl ⟨rfl,ws,SqL.of m3⟩,?_⟩⟩
 rcases M.bind_some e1 with ⟨l,z1,e3,e4⟩ | ⟨c,z1,e3,e4⟩
 ·¶⟨k,hk,e5⟩:=M.a10 e4
  ¶⟨dk,hk1,hk2⟩:=Î.mp hk
  ¶⟨s,rfl,hs⟩:=e90 hk1
  ¶⟨o,hv,e6⟩:=M.a10 e5
  cases e6
  ¤⟨zA,ρ,z,.ok [s] z1,rw.P20,st,?_,λvs H1 x1 st1 rvs=>?_⟩
  ·show M.bind (ev G.F e ρ) _ z=_
   simp only[M.bind,e3,M.of,one,M.ret,ev]
  ¶⟨u,rfl,ru⟩:=A61 rvs
  have hu:u=.int k:=by
   have:=A71 ru hs
   cases dk <;> first | (cases hk2;§this.h90) | (cases hk2;done)
  subst hu
  unfold c92 at hv
  split at hv
  ·rename_i hb
   have hkk:=G20.mp hb.2.2.1
   ¶⟨y,hy1,hv⟩:=Î.mp hv
   split at hv
   ·rename_i hby
    cases hv
    have r1:=rw.mono x1
    have m4':HdA X.K (hw ow (hz zA H1)) ys ws:=m4.same (c90 x1)
    have k4':HdA X.K (hw ow (hz zA H1)) xs us:=k4.same (c90 x1)
    ¶⟨yv,g1,g2⟩:=m4'.get hy1
    have hlt:k.toNat < ws.length:=(Ý.mp g1).1
    have hab:a≠b:=λq=>hb.1 (rw.inj i j a k2 (by rw[q];§m2))
    ¤⟨b,ws,k,k.toNat,yv,rfl,rfl,x1.at m3 (rw.zne j b m2),by omega,by omega,?_,g1,?_⟩
    ·have h0:(0:Int)<=k:=hb.2.1
     §Ø9 h0 (by omega)
    ·have r2:=r1.upd m2 (m4'.eraseIdx k.toNat)
     have sm2:=M50 (H:=H1) (zA:=zA) (o:=.lst (ws.eraseIdx k.toNat)) m2
     ¤⟨a,us,yv,rfl,rfl,?_,?_,?_⟩
     ·rw[a60 hab];§x1.at k3 (rw.zne i a k2)
     ·§Ú (by rw[k4.length];§hb.2.2.2) (f00 (Í _))
     ·§po zA ow σ _ (r2.upd k2 ((k4'.same sm2).append (.cons (g2.same sm2) .nil))) ((st1.a60 (rw.zne j b m2) (x1.at m3 (rw.zne j b m2))).a60 (rw.zne i a k2) (by rw[a60 hab];§x1.at k3 (rw.zne i a k2))) (a30.trans (c90 x1) (a30.trans sm2 (M50 k2)))
   ·cases hv
  ·cases hv
 ·subst e4
  ¤⟨zA,ρ,z,.er c z1,rw.P20,st,?_,po.er_ rw⟩
  show M.bind (ev G.F e ρ) _ z=_
  simp only[M.bind,e3]
÷x12(x:XS lm X G E N sc cn){i j:Nat}{n m:Str}{e:Ex}{v:Ò}{p p' apos cpos apos' cpos' pos:Pos}(h1:N[i]?=some n)(h2:c80 n=true)(h3:N[j]?=some m)(h4:c80 m=true)(ns:noStar v=true)(g:b00 X G E e v)(hl:(apos.endLine == cpos.line)=true)(hl':(apos'.endLine == cpos'.line)=true) :
  PS X (.Expr (.Call (.Attribute (.Name n p) "append" apos) [.Call (.Attribute (.Name m p') "pop" apos') [v] [] cpos'] [] cpos) pos) (tX X.K G E H0 zE (.apop i j e)):=by
 unfold c80 at h2 h4
 simp only[Á,À1] at h2 h4
 have ga:Good X G E (.cons e .nil) [v]:=⟨v,[],rfl,ns,g,rfl,rfl⟩
 have hs:=c60 ns [] X.env
 ¤PS.imp (X60 (Z21 Ð7 Ý7 Ý6 Q90 (o50 (i:=i) (by rw[x.hN];§h1) (x.vis n (è h1)) h2.1 h2.2)
  (d90 (Z21 Ð7 PySem.F.slot_list_pop PySem.F.type_list_pop I61 (o50 (i:=j) (by rw[x.hN];§h3) (x.vis m (è h3)) h4.1 h4.2) (ga.args rfl).1 rfl (by rw[hs];rfl) hl' hs rfl) r60) rfl rfl hl rfl rfl) (u90 rfl none)) λD σ H q=>?_
 ¶⟨zA,ow,ρ,z,rr,rw,st,ee,po⟩:=q
 §g72 rw st ee po
def L62(K:Â)(i:Nat):TI:=λσ H R=>∃ a,σ[i]?=some (some (.ref a))/\((∃ ys,SqT K H a ys)/\R (Itt K a) H∨(∃ ys,SqL K H a ys)/\R (Itl K a) H)
÷x22(x:XI lm X G E N sc){tg:Ò}{i:Nat}{n:Str}{pos:Pos}(h1:N[i]?=some n)(h2:c80 n=true):PI X tg (.Name n pos) (L62 X.K i):=by
 unfold c80 at h2
 simp only[Á,À1] at h2
 have hv:PE X (.Name n pos) (m22 i):=o50 (i:=i) (by rw[x.hN];§h1) (x.vis n (è h1)) h2.1 h2.2
 intro pins s σ H R I q
 ¶⟨a,k,q | q⟩:=q
 ·§S71 hv pins s σ H R I ⟨_,k,a,rfl,q.1,q.2⟩
 ·§X90 hv pins s σ H R I ⟨_,k,a,rfl,q.1,q.2⟩
def fBody(F:FT)(tp:Bool)(p:Pat)(b:Sm):D->Env->M O:=λx ρ=>M.bind (M.of (e70 p x ρ)) λρ=>ex F tp b ρ
÷E30:∀ {l:List D}{d:D},o00 l=true->d∈l->bare d=true
 |x::r,d,h,hd=>by
  simp only[o00,Á] at h
  rcases ú.mp hd with rfl | hd
  ·§h.1
  ·§E30 h.2 hd
÷h81{p:Pat}{b:Sm}{J:L2.It}{xs:List D}{B:Hp}{D:Ends}{σ:L2.St}{H:Hp}{zA:Option Ç}{ow:Nat->Option Ç}{ρ:Env}{z:Z}{rr:R O}(IT:ItB X.K J xs B)
  (rw:RW X.K H0 zE zA ow H ρ σ) (st:d70 zA z H) (sm:a30 B (hw ow (hz zA H))) (ee:X40 (fBody G.F zE.isNone p b) xs ρ z=some rr) (po:r40 X.K G E H0 zE (hw ow (hz zA H)) D rr) :
  ∃ W:Nat->Nat->L2.St->Hp->Prop,(∃ m,W 0 m σ H)/\∀ i m σ H,W i m σ H ->
   (J.stop i H/\D.nx σ H)∨(J.go i H/\∃ Nn:L2.St->Hp->Prop,(∀ σ' H',Nn σ' H'->∃ m',m' < m/\W (i + 1) m' σ' H')/\∀ x H',J.yld i H x H'->gP X.K p x σ H' λσ2 H2=>tX X.K G E H0 zE b { D with nx:=Nn,ct:=Nn,bk:=D.nx } σ2 H2):=by
 ¤⟨λi m σ H=>m=xs.length - i/\i<=xs.length/\∃ zA ow ρ z r,RW X.K H0 zE zA ow H ρ σ/\d70 zA z H/\a30 B (hw ow (hz zA H))/\X40 (fBody G.F zE.isNone p b) (xs.drop i) ρ z=some r/\r40 X.K G E H0 zE (hw ow (hz zA H)) D r,
  ⟨xs.length,by simp,Æ6 _,zA,ow,ρ,z,rr,rw,st,sm,by simpa using ee,po⟩,?_⟩
 rintro i m σ H ⟨rfl,hi,zA,ow,ρ,z,rr,rw,st,sm,ee,po⟩
 have sH:a30 B H:=a30.trans sm (a30.trans k40 (a20 zA H))
 by_cases hlt:i < xs.length
 ·¤.inr ⟨IT.go i H sH hlt,λσ' H'=>∃ zA ow ρ z r,RW X.K H0 zE zA ow H' ρ σ'/\d70 zA z H'/\a30 B (hw ow (hz zA H'))/\X40 (fBody G.F zE.isNone p b) (xs.drop (i + 1)) ρ z=some r/\r40 X.K G E H0 zE (hw ow (hz zA H')) D r,
   λσ' H' h=>⟨xs.length - (i + 1),by omega,rfl,hlt,h⟩,λx H' y=>?_⟩
  have hd0:xs[i]?=some xs[i]:=æ hlt
  ¶⟨s1,hd⟩:=IT.yld i H x H' zA z _ (a30.trans sm k40) st y hd0
  rw[ß6 hlt] at ee
  have e0:M.bind (fBody G.F zE.isNone p b xs[i] ρ) (λo=>match o with | .nx ρ=>X40 (fBody G.F zE.isNone p b) (xs.drop (i + 1)) ρ | .rt s=>M.ret (.rt s)) z=some rr:=ee
  have r1:=rw.mono (Ext.of s1)
  have st1:=st.same s1
  have sm1:a30 (hw ow (hz zA H)) (hw ow (hz zA H')):=c90 (k30 s1)
  have hd1:=hd (hw ow (hz zA H')) (a30.trans sm sm1) λ_ _ q=>z91 q r1.g12
  have fin:∀ {ρ1:Env}{o:O}{z1:Z},e70 p xs[i] ρ=some ρ1->ex G.F zE.isNone b ρ1 z=some (.ok o z1)->(match o with | .nx ρ=>X40 (fBody G.F zE.isNone p b) (xs.drop (i + 1)) ρ | .rt s=>M.ret (.rt s)) z1=some rr->gP X.K p x σ H' λσ2 H2=>tX X.K G E H0 zE b { D with nx:=λσ' H'=>∃ zA ow ρ z r,RW X.K H0 zE zA ow H' ρ σ'/\d70 zA z H'/\a30 B (hw ow (hz zA H'))/\X40 (fBody G.F zE.isNone p b) (xs.drop (i + 1)) ρ z=some r/\r40 X.K G E H0 zE (hw ow (hz zA H')) D r,ct:=λσ' H'=>∃ zA ow ρ z r,RW X.K H0 zE zA ow H' ρ σ'/\d70 zA z H'/\a30 B (hw ow (hz zA H'))/\X40 (fBody G.F zE.isNone p b) (xs.drop (i + 1)) ρ z=some r/\r40 X.K G E H0 zE (hw ow (hz zA H')) D r,bk:=D.nx } σ2 H2:=λ{ρ1 o z1} hbp e1 e2=>by
   ¤P01 hbp r1 hd1 λow' σ' r2 sm2=>⟨zA,ow',ρ1,z,_,r2,st1,e1,?_⟩
   cases o with
   |nx ρ2=>§λzA3 ow3 σ3 H3 r3 st3 sm3=>⟨zA3,ow3,ρ2,z1,rr,r3,st3,a30.trans sm (a30.trans sm1 (a30.trans sm2 sm3)),e2,po.mono (a30.trans sm1 (a30.trans sm2 sm3))⟩
   |rt s=>cases e2;§po
  rcases M.bind_some e0 with ⟨o,z1,e1,e2⟩ | ⟨c,z1,e1,e2⟩
  ·¶⟨ρ1,hbp,e3⟩:=M.a10 e1
   §fin hbp e3 e2
  ·subst e2
   ¶⟨ρ1,hbp,e3⟩:=M.a10 e1
   §P01 hbp r1 hd1 λow' σ' r2 sm2=>⟨zA,ow',ρ1,z,_,r2,st1,e3,po⟩
 ·have e:i=xs.length:=by omega
  subst e
  rw[drop_length] at ee
  cases ee
  §.inl ⟨IT.stop H sH,po zA ow σ H rw st (a30.refl _)⟩
÷x32(x:XS lm X G E N sc cn){p:Pat}{i:Nat}{n:Str}{b:Sm}{tg:Ò}{body:List Å1}{np pos:Pos}(hp:j50 N (T90 sc) p tg=true)(h1:N[i]?=some n)(h2:c80 n=true)(hb:PSs X body (tX X.K G E H0 zE b)) :
  PS X (.For tg (.Name n np) body [] pos) (tX X.K G E H0 zE (.fr p .seq (.cons (.var i) .nil) b)):=by
 ¤PS.imp (S81 x.own x.calm (x22 x.toXI h1 h2) (y41 x.loc hp) hb (λ_=>rfl)) λD σ H q=>?_
 ¶⟨zA,ow,ρ,z,rr,rw,st,ee,po⟩:=q
 have e0:M.bind (M.bind (match ρ[i]? with | some (some s)=>M.ret [plS s] | _=>M.no) λx=>M.bind (M.of (one x)) λs=>M.bind (ev G.F .nil ρ) λy=>M.ret (s::y)) (λl=>M.bind (M.of ((plA l).bind (itD .seq))) λxs=>X40 (fBody G.F zE.isNone p b) xs (w41 .seq (.cons (.var i) .nil) l ρ)) z=some rr:=ee
 cases hs:ρ[i]? with
 |none=>rw[hs] at e0;cases e0
 |some o =>
  cases o with
  |none=>rw[hs] at e0;cases e0
  |some s =>
   rw[hs] at e0
   have e1:M.bind (M.of ((plA [plS s]).bind (itD .seq))) (λxs=>X40 (fBody G.F zE.isNone p b) xs ((ρ.set i ((ρ[i]?.getD none).map plS)).map (L30 (S40 [plS s])))) z=some rr:=e0
   ¶⟨xs,hx,e2⟩:=M.a10 e1
   have r1:=rw.plain i
   have sm:=B00 (H:=hz zA H) ow i
   have hi:i < ρ.length:=(Ý.mp hs).1
   have hsl:(ρ.set i ((ρ[i]?.getD none).map plS))[i]?=some (some (plS s)):=by rw[ñ hi,hs];rfl
   ¶⟨w,k1,k2⟩:=r1.wor i _ hsl
   ¶⟨ds,h3,h4⟩:=Î.mp hx
   ¶⟨d,rfl,h5⟩:=y91 h3
   have hd:Hd X.K (hw (ow0 ow i) (hz zA H)) d w:=by
    cases s with
    |d y=>cases h5;§k2.2
    |fr ys=>cases h5;§k2.2
    |z=>cases h5
   obtain⟨ow',r2,sm2⟩:∃ ow',RW X.K H0 zE zA ow' H ((ρ.set i ((ρ[i]?.getD none).map plS)).map (L30 (S40 [plS s]))) σ/\a30 (hw (ow0 ow i) (hz zA H)) (hw ow' (hz zA H)):=by
    rw[S20]
    cases S40 [plS s] with
    |true=>§⟨_,r1,a30.refl _⟩
    |false=>§⟨_,r1.Z70,E20 _⟩
   cases d with
   |tup l =>
    cases h4
    ¶⟨a,ys,rfl,m1,m2⟩:=hd.A10
    §⟨a,k1,.inl ⟨⟨ys,(a20 zA H).sqT (a30.sqT k40 m1)⟩,h81 (y61 m1 m2) r2 st sm2 e2 (po.mono (a30.trans sm sm2))⟩⟩
   |lst l =>
    cases h4
    ¶⟨a,ys,rfl,m1,m2⟩:=hd.X50
    §⟨a,k1,.inr ⟨⟨ys,((m1.same k40).same (a20 zA H)).sq⟩,h81 (g91 m1 m2) r2 st sm2 e2 (po.mono (a30.trans sm sm2))⟩⟩
   |_=>cases h4
÷L72(x:XS lm X G E N sc cn){p:Pat}{it:It}{src:Ex}{b:Sm}{tg Ä0:Ò}{body:List Å1}{pos:Pos}(hp:j50 N (T90 sc) p tg=true)(hi:PI X tg Ä0 (tIt X.K G E it src))(hns:A20 Ä0=true)(hv:c82 it src=none)(hb:PSs X body (tX X.K G E H0 zE b)) :
  PS X (.For tg Ä0 body [] pos) (tX X.K G E H0 zE (.fr p it src b)):=by
 ¤PS.imp (S81 x.own x.calm hi (y41 x.loc hp) hb (z71 hns X.env)) λD σ H q=>?_
 ¶⟨zA,ow,ρ,z,rr,rw,st,ee,po⟩:=q
 have e0:M.bind (ev G.F src ρ) (λl=>M.bind (M.of ((plA l).bind (itD it))) λxs=>X40 (fBody G.F zE.isNone p b) xs ((S50 it src l ρ).map (L30 (S40 l)))) z=some rr:=ee
 rcases M.bind_some e0 with ⟨l,z1,e1,e2⟩ | ⟨c,z1,e1,e2⟩
 ·¶⟨xs,hx,e3⟩:=M.a10 e2
  ¤⟨zA,ρ,z,_,rw.P20,st,e1,xs,hx,λJ H1 x1 st1 IT=>?_⟩
  have r1:=rw.mono x1
  have frz:X40 (fBody G.F zE.isNone p b) xs (Z70 ρ) z1=some rr->_:=λe3=>h81 (G:=G) (E:=E) (D:=D) (IT (λ_=>True) (hz zA H1) (a30.refl _) (λ_ _ q=>q) (λ_ _ _ q=>q) (λds hds d hd=>by cases d <;> first | trivial | §λ_ _=>trivial) λ_ _ q _=>q) r1.Z70 st1 (by rw[x20];§a30.refl _) e3 (po.mono (a30.trans (c90 x1) (E20 ow)))
  rw[S20] at e3
  have he:S50 it src l ρ=match n41 l with | true=>Z70 ρ | false=>ρ:=by
   unfold S50;rw[hv] <;> cases n41 l <;> rfl
  have tt:Z70 (Z70 ρ)=Z70 ρ:=by
   unfold Z70
   rw[ï]
   ¤Ã5 λo _=>?_
   match o with
   |none=>rfl
   |some (.d _)=>rfl
   |some (.fr _)=>rfl
   |some .z=>rfl
  cases hl:n41 l with
  |true =>
   rw[hl] at he
   rw[he] at e3
   dsimp only at e3
   rw[tt,ite_self] at e3
   §frz e3
  |false =>
   rw[hl] at he
   rw[he] at e3
   dsimp only at e3
   split at e3
   ·rename_i hbb
    ¤h81 (IT (λy=>bare y=true) (hw ow (hz zA H1)) k40 (λa ys q=>z91 q r1.g12) (λd v hd q=>M40 r1.g12 hd q) (λds hds d hd=>?_) λa ys q hor=>?_) r1 st1 (a30.refl _) e3 (po.mono (c90 x1))
    ·have h:=hbb
     unfold S40 at h
     rw[hds] at h
     have:=Õ.mp h d hd
     cases d with
     |tup m=>§λy hy=>E30 this hy
     |lst m=>§λy hy=>E30 this hy
     |_=>trivial
    ·rcases hor with ⟨hn,hm1⟩ | hm
     ·¤q60.of (i80 (d50 hm1 (st.w71 hn)) λj w=>?_)
      ¶⟨zs,k⟩:=rw.lst j a w
      rw[hn] at k;cases k
     ·rw[hl] at hm;cases hm
   ·§frz e3
 ·subst e2
  §⟨zA,ρ,z,_,rw.P20,st,e1,po.er_ rw⟩
end
def isQ:Sm->Bool
 |.nil=>true
 |.seq _ _=>true
 |_=>false
def g82:Ò->Bool
 |.IfExp ..=>false
 |_=>true
def W92:Ò->Bool
 |.SetComp ..=>false
 |.DictComp ..=>false
 |_=>true
def mtI(lm:Bool)(fns:List (Str × List Str))(nums:List (Str × Int))(it:It)(src:Ex)(sc:ý)(N:List Str)(tg Ä0:Ò):Bool:=match it with
 |.seq=>mt lm fns nums src sc N [Ä0]
 |.rng1=>opt (l12 Ä0) λr=>r.1.1 == ("range":Str)&&glob sc r.1.1&&mt lm fns nums src sc N [r.1.2.2.1]
 |.rng2=>opt (l22 Ä0) λr=>r.1.1 == ("range":Str)&&glob sc r.1.1&&mt lm fns nums src sc N [r.1.2.2.1,r.1.2.2.2.1]
 |.zip=>opt (l22 Ä0) λr=>r.1.1 == ("zip":Str)&&glob sc r.1.1&&n60 tg&&mt lm fns nums src sc N [r.1.2.2.1,r.1.2.2.2.1]
 |.enum=>opt (l12 Ä0) λr=>r.1.1 == ("enumerate":Str)&&glob sc r.1.1&&n60 tg&&mt lm fns nums src sc N [r.1.2.2.1]
def X02:(p:Pat)->Option {q:Nat × Nat // p=.tup (.cons (.v q.1) (.cons (.v q.2) .nil))}
 |.tup (.cons (.v i) (.cons (.v j) .nil))=>some ⟨(i,j),rfl⟩
 |_=>none
def X12:(e:Ex)->Option {q:Ex × Ex // e=.tup (.cons q.1 (.cons q.2 .nil))}
 |.tup (.cons a (.cons b .nil))=>some ⟨(a,b),rfl⟩
 |_=>none
def X22:(e:Ò)->Option {q:Ò × Ò × Nat × Pos // e=.Tuple [q.1,q.2.1] q.2.2.1 q.2.2.2}
 |.Tuple [a,b] k p=>some ⟨(a,b,k,p),rfl⟩
 |_=>none
def X32(sc:ý)(p:Pat)(e:Ex)(tg v:Ò):Bool:=opt (X02 p) λ_=>opt (X12 e) λ_=>opt (P42 tg) λt=>opt (X22 v) λu =>
  !(t.1.1 == t.1.2.2.1)&&sc.names.lookup t.1.1 == some .local&&sc.names.lookup t.1.2.2.1 == some .local&&t.1.2.2.2.1.line == t.1.2.1.line&&noStar u.1.1&&noStar u.1.2.1&&!([u.1.1,u.1.2.1].all (Û8 8))&&!([u.1.1,u.1.2.1].all (constantsAlone 8))
def isNm:Ò->Bool
 |.Name ..=>true
 |_=>false
def setB(sc:ý)(p:Pat)(e:Ex)(tg v:Ò):Bool :=
 if isNm tg then W92 v else if n60 tg then(if n60 v then(match v with | .Tuple vs _ _=>vs.all (Û8 8) | _=>false) || (match tg with | .Tuple ts _ _=>ts.any (A31 λy=>sc.names.lookup y) | _=>false) || X32 sc p e tg v else true) else false
def g92:(e:List Å1)->Option {q:Ò × Ò × Pos // e=[.Assign [q.1] q.2.1 q.2.2]}
 |[.Assign [tg] v p]=>some ⟨(tg,v,p),rfl⟩
 |_=>none
def L82:(e:List Å1)->Option {q:Option Ò × Pos // e=[.Return q.1 q.2]}
 |[.Return v p]=>some ⟨(v,p),rfl⟩
 |_=>none
def X42:(e:List Å1)->Option {q:Ò × List Å1 × List Å1 × Pos // e=[.If q.1 q.2.1 q.2.2.1 q.2.2.2]}
 |[.If c a b p]=>some ⟨(c,a,b,p),rfl⟩
 |_=>none
def L92:(e:List Å1)->Option {q:Ò × Ò × List Å1 × Pos // e=[.For q.1 q.2.1 q.2.2.1 [] q.2.2.2]}
 |[.For tg Ä0 body [] p]=>some ⟨(tg,Ä0,body,p),rfl⟩
 |_=>none
def M02:(e:List Å1)->Option {q:Ò × List Å1 × Pos // e=[.While q.1 q.2.1 [] q.2.2]}
 |[.While c body [] p]=>some ⟨(c,body,p),rfl⟩
 |_=>none
def x42:(e:List Å1)->Option {q:Ò × Pos // e=[.Raise (some q.1) none q.2]}
 |[.Raise (some x) none p]=>some ⟨(x,p),rfl⟩
 |_=>none
def h02:(e:List Å1)->Option {q:Ò × Pos // e=[.Expr q.1 q.2]}
 |[.Expr v p]=>some ⟨(v,p),rfl⟩
 |_=>none
def M12:(e:Ò)->Option {q:Str × Pos × Str × Nat × Pos × Pos // e=.Call (.Name q.1 q.2.1) [.Constant (.str q.2.2.1) q.2.2.2.1 q.2.2.2.2.1] [] q.2.2.2.2.2}
 |.Call (.Name n p1) [.Constant (.str y) k p2] [] p3=>some ⟨(n,p1,y,k,p2,p3),rfl⟩
 |_=>none
def h32:(e:Ò)->Option {q:Str × Pos × Str × Pos × Ò × Pos // e=.Call (.Attribute (.Name q.1 q.2.1) q.2.2.1 q.2.2.2.1) [q.2.2.2.2.1] [] q.2.2.2.2.2}
 |.Call (.Attribute (.Name n p) a ap) [v] [] cp=>some ⟨(n,p,a,ap,v,cp),rfl⟩
 |_=>none
def X52:(e:Ò)->Option {q:Str × Pos × Nat × Pos × Pos // e=.Subscript (.Name q.1 q.2.1) (.Constant (.int 0) q.2.2.1 q.2.2.2.1) q.2.2.2.2}
 |.Subscript (.Name n p) (.Constant (.int 0) c q1) tp=>some ⟨(n,p,c,q1,tp),rfl⟩
 |_=>none
def X62:(e:Ò)->Option {q:Str × Pos × Ò × Pos // e=.Subscript (.Name q.1 q.2.1) q.2.2.1 q.2.2.2}
 |.Subscript (.Name n p) w tp=>some ⟨(n,p,w,tp),rfl⟩
 |_=>none
def X72:(e:Ò)->Option {q:Str × Pos // e=.Name q.1 q.2}
 |.Name n p=>some ⟨(n,p),rfl⟩
 |_=>none
def x52:(e:List Å1)->Option {q:Str × Pos × Ò × Pos × Ò × Pos // e=[.AugAssign (.Subscript (.Name q.1 q.2.1) q.2.2.1 q.2.2.2.1) .Add q.2.2.2.2.1 q.2.2.2.2.2]}
 |[.AugAssign (.Subscript (.Name n p) w tp) .Add v pos]=>some ⟨(n,p,w,tp,v,pos),rfl⟩
 |_=>none
def P51:Ex->Bool
 |.con .non=>true
 |_=>false
def mtS(lm:Bool)(fns:List (Str × List Str))(nums:List (Str × Int))(cn:List Str)(sc:ý)(N:List Str):Sm->List Å1->Bool
 |.nil,ss=>ss.isEmpty
 |.seq s r,ss=>opt ss.head? λst=>!isQ s&&isQ r&&mtS lm fns nums cn sc N s [st]&&mtS lm fns nums cn sc N r ss.tail
 |.set p e,ss=>opt (g92 ss) λq=>!isL e&&j50 N (T90 sc) p q.1.1&&mt lm fns nums e sc N [q.1.2.1]&&setB sc p e q.1.1 q.1.2.1
 |.ret e,ss=>opt (L82 ss) λq=>match q.1.1 with
  |some v=>!isL e&&mt lm fns nums e sc N [v]
  |none=>P51 e
 |.iff c t u,ss=>opt (X42 ss) λq=>!isL c&&g82 q.1.1&&isQ t&&isQ u&&mt lm fns nums c sc N [q.1.1]&&mtS lm fns nums cn sc N t q.1.2.1&&mtS lm fns nums cn sc N u q.1.2.2.1
 |.fr p it src b,ss=>opt (L92 ss) λq=>j50 N (T90 sc) p q.1.1&&isL src&&A20 q.1.2.1&&isQ b&&mtI lm fns nums it src sc N q.1.1 q.1.2.1&&mtS lm fns nums cn sc N b q.1.2.2.1
 |.whl c b,ss=>opt (M02 ss) λq=>!isL c&&g82 q.1.1&&isQ b&&mt lm fns nums c sc N [q.1.1]&&mtS lm fns nums cn sc N b q.1.2.1
 |.rais c,ss=>opt (x42 ss) λq=>opt (M12 q.1.1) λr=>cn[c]? == some r.1.1&&glob sc r.1.1
 |.exp e,ss=>opt (h02 ss) λq=>T70 q.1.1&&!isL e&&mt lm fns nums e sc N [q.1.1]
 |.app i e,ss=>opt (h02 ss) λq=>opt (h32 q.1.1) λr=>r.1.2.2.1 == ("append":Str)&&N[i]? == some r.1.1&&c80 r.1.1&&noStar r.1.2.2.2.2.1&&!isL e&&r.1.2.2.2.1.endLine == r.1.2.2.2.2.2.line&&mt lm fns nums e sc N [r.1.2.2.2.2.1]
 |.newz i f as,ss=>opt (g92 ss) λq=>opt (X72 q.1.1) λr=>N[i]? == some r.1.1&&T90 sc r.1.1&&T70 q.1.2.1&&mt lm fns nums (.call f as) sc N [q.1.2.1]
 |.zset i e,ss=>opt (g92 ss) λq=>opt (X52 q.1.1) λr=>N[i]? == some r.1.1&&c80 r.1.1&&!isL e&&mt lm fns nums e sc N [q.1.2.1]
 |.apop i j e,ss=>opt (h02 ss) λq=>opt (h32 q.1.1) λr=>opt (h32 r.1.2.2.2.2.1) λt=>r.1.2.2.1 == ("append":Str)&&t.1.2.2.1 == ("pop":Str)&&N[i]? == some r.1.1&&c80 r.1.1&&N[j]? == some t.1.1&&c80 t.1.1&&noStar t.1.2.2.2.2.1&&!isL e&&r.1.2.2.2.1.endLine == r.1.2.2.2.2.2.line&&t.1.2.2.2.1.endLine == t.1.2.2.2.2.2.line&&mt lm fns nums e sc N [t.1.2.2.2.2.1]
 |.augi i ix e,ss=>opt (x52 ss) λq=>N[i]? == some q.1.1&&c80 q.1.1&&D90 q.1.2.2.1&&!isL e&&!isL ix&&mt lm fns nums e sc N [q.1.2.2.2.2.1]&&mt lm fns nums ix sc N [q.1.2.2.1]
section
variable {lm:Bool}{X:Cx}{G:Gs}{E:XK}{N:List Str}{sc:ý}{cn:List Str}{H0:Hp}{zE:Option Ç}
÷M22(x:XI lm X G E N sc){it:It}{src:Ex}{tg Ä0:Ò}(hL:isL src=true)(h:mtI lm G.fns G.nums it src sc N tg Ä0=true):PI X tg Ä0 (tIt X.K G E it src):=by
 cases it with
 |seq =>
  ¶⟨a,rfl,ga⟩:=z81 hL (sound G src x h)
  §V41 ga
 |rng1 =>
  ¶⟨⟨⟨n,_,a,_⟩,rfl⟩,-,h⟩:=a70 h
  simp only[Á,beq_iff_eq] at h
  §z01 x h.1.1 h.1.2 hL (sound G src x h.2)
 |rng2 =>
  ¶⟨⟨⟨n,_,a,b,_⟩,rfl⟩,-,h⟩:=a70 h
  simp only[Á,beq_iff_eq] at h
  §z11 x h.1.1 h.1.2 hL (sound G src x h.2)
 |zip =>
  ¶⟨⟨⟨n,_,a,b,_⟩,rfl⟩,-,h⟩:=a70 h
  simp only[Á,beq_iff_eq] at h
  §z41 x h.1.2 h.1.1.1 h.1.1.2 hL (sound G src x h.2)
 |enum =>
  ¶⟨⟨⟨n,_,a,_⟩,rfl⟩,-,h⟩:=a70 h
  simp only[Á,beq_iff_eq] at h
  §h41 x h.1.2 h.1.1.1 h.1.1.2 hL (sound G src x h.2)
÷h91(h:g82 e=true):∀ t a b p,e≠.IfExp t a b p:=by
 intro t a b p he
 subst he
 cases h
def GS(X:Cx)(G:Gs)(E:XK)(H0:Hp)(zE:Option Ç)(s:Sm)(ss:List Å1):Prop:=(isQ s=true->PSs X ss (tX X.K G E H0 zE s))/\(isQ s=false->∃ st,ss=[st]/\PS X st (tX X.K G E H0 zE s))
÷n70{s:Sm}{st:Å1}(hq:isQ s=false)(h:PS X st (tX X.K G E H0 zE s)):GS X G E H0 zE s [st]:=⟨λk=>(by rw[hq] at k;cases k),λ_=>⟨st,rfl,h⟩⟩
÷h42{x:XI lm X G E N sc}{e:Ex}{elt:Ò}{gs:List Comprehension}{csc:ý}{q:Pos}(h:mt lm G.fns G.nums e sc N [.ListComp elt gs csc q]=true)(hL:isL e=false):∃ tg Ä0 ifs,gs=[⟨tg,Ä0,ifs,0⟩]/\H40 X G E e elt tg Ä0 ifs csc:=by
 cases e with
 |comp own capt p it src cond el =>
  match gs,h with
  |[⟨tg,Ä0,ifs,0⟩],h=>§⟨tg,Ä0,ifs,rfl,T60 (λx _=>sound G src x) (λx _=>sound G cond x) (λx _=>sound G el x) x h⟩
 |nil=>cases hL
 |cons _ _=>cases hL
 |bf f as=>cases f <;> cases h
 |_=>cases h
÷M32(x:XS lm X G E N sc cn){p:Pat}{e:Ex}{tg v:Ò}{pos:Pos}(h1:(!isL e)=true)(h2:j50 N (T90 sc) p tg=true)(h3:mt lm G.fns G.nums e sc N [v]=true)(h4:setB sc p e tg v=true):PS X (.Assign [tg] v pos) (tX X.K G E H0 zE (.set p e)):=by
 have g:=a90 (b60 h1) (sound G e x.toXI h3)
 unfold setB at h4
 split at h4
 ·rename_i hn
  cases tg with
  |Name y px =>
   cases p with
   |v i =>
    unfold j50 at h2
    rw[Á,beq_iff_eq] at h2
    ¤L02 x h2.1 h2.2 g (λelt gs csc q hv=>?_) (λa b c d hv=>?_) (λa b c d f hv=>?_)
    ·subst hv;§h42 (x:=x.toXI) h3 (b60 h1)
    ·subst hv;cases h4
    ·subst hv;cases h4
   |tup _=>unfold j50 at h2;cases h2
   |nil=>unfold j50 at h2;cases h2
   |cons _ _=>unfold j50 at h2;cases h2
  |_=>cases hn
 ·split at h4
  ·rename_i ht
   split at h4
   ·rename_i hv
    rw[Å6,Å6] at h4
    rcases h4 with (h4 | h4) | h4
    ·cases tg with
     |Tuple ts k tp =>
      cases v with
      |Tuple vs k' vp=>§A41 x h2 g rfl (g32 h4)
      |_=>cases hv
     |_=>cases ht
    ·cases tg with
     |Tuple ts k tp =>
      cases v with
      |Tuple vs k' vp =>
       ¤A41 x h2 g rfl (g42 ?_)
       have e:X.env.kindOf=λy=>sc.names.lookup y:=by funext y;unfold Env.kindOf;rw[x.sco]
       rw[e];§h4
      |_=>cases hv
     |_=>cases ht
    ·¶⟨⟨⟨i,j⟩,rfl⟩,-,h4⟩:=a70 h4
     ¶⟨⟨⟨ea,eb⟩,rfl⟩,-,h4⟩:=a70 h4
     ¶⟨⟨⟨y,px,w,py,kt,tp⟩,rfl⟩,-,h4⟩:=a70 h4
     ¶⟨⟨⟨a,b,kv,vp⟩,rfl⟩,-,h4⟩:=a70 h4
     simp only[Á,À1,beq_iff_eq] at h4
     ¶⟨⟨⟨⟨⟨⟨⟨k1,k2⟩,k3⟩,k4⟩,k5⟩,k6⟩,k7⟩,k8⟩:=h4
     unfold j50 at h2
     simp only[n91,j50,Á,beq_iff_eq] at h2
     ¶⟨⟨_,h21,_⟩,⟨_,h22,_⟩,_⟩:=h2
     have h3':(isL (.cons ea (.cons eb .nil))&&mt lm G.fns G.nums (.cons ea (.cons eb .nil)) sc N [a,b])=true:=h3
     rw[Á] at h3'
     have ga:Good X G E (.cons ea (.cons eb .nil)) [a,b]:=sound G (.cons ea (.cons eb .nil)) x.toXI h3'.2
     ¤L12 x h21 h22 (by simpa using k1) k2 k3 ga (w62 x.bk ?_ ?_ (by simpa using k1) (by rw[k4];§beq_self_eq_true _) k5 k6 k7 k8)
     ·unfold Env.kindOf;rw[x.sco];§k2
     ·unfold Env.kindOf;rw[x.sco];§k3
   ·rename_i hv
    §A41 x h2 g ht (g22 (by simpa using hv))
  ·cases h4
÷A81(h:P51 e=true):e=.con .non:=by
 unfold P51 at h
 split at h
 ·rfl
 ·cases h
÷M42(x:XS lm X G E N sc cn){e:Ex}{o:Option Ò}{pos:Pos}(h:(match o with | some v=>!isL e&&mt lm G.fns G.nums e sc N [v] | none=>P51 e)=true):PS X (.Return o pos) (tX X.K G E H0 zE (.ret e)):=by
 cases o with
 |some v =>
  have h:(!isL e&&mt lm G.fns G.nums e sc N [v])=true:=h
  rw[Á] at h
  by_cases hv:∃ i,e=.var i
  ·¶⟨i,rfl⟩:=hv
   have h2:=h.2
   cases v with
   |Name n p =>
    have h2:(N[i]? == some n&&c80 n)=true:=h2
    rw[Á,beq_iff_eq] at h2
    §w72 x h2.1 h2.2
   |_=>cases h2
  ·§L22 (λi hi=>hv ⟨i,hi⟩) (a90 (b60 h.1) (sound G e x.toXI h.2))
 |none =>
  have he:=A81 h
  subst he
  ¤PS.imp X81 λD σ H q=>?_
  ¶⟨zA,ow,ρ,z,rr,rw,st,ee,po⟩:=q
  cases ee
  §po .non H (λk=>nomatch k) rw.ext (l32 rw.zok st) (show Hd X.K (hz zE H) .non .non from Hd.non)
÷X82(x:XS lm X G E N sc cn){p:Pat}{it:It}{src:Ex}{b:Sm}{tg Ä0:Ò}{body:List Å1}{pos:Pos}(h1:j50 N (T90 sc) p tg=true)(h2:isL src=true)(h3:A20 Ä0=true)(h5:mtI lm G.fns G.nums it src sc N tg Ä0=true)(hb:PSs X body (tX X.K G E H0 zE b)) :
  PS X (.For tg Ä0 body [] pos) (tX X.K G E H0 zE (.fr p it src b)):=by
 cases hv:c82 it src with
 |some q =>
  ¶⟨i,rfl,rfl⟩:=q
  have h5':(noStar Ä0&&!isL (.var i)&&isL .nil&&mt lm G.fns G.nums (.var i) sc N [Ä0]&&mt lm G.fns G.nums .nil sc N [])=true:=h5
  simp only[Á] at h5'
  have h7:=h5'.1.2
  cases Ä0 with
  |Name n np =>
   have h7:(N[i]? == some n&&c80 n)=true:=h7
   rw[Á,beq_iff_eq] at h7
   §x32 x h1 h7.1 h7.2 hb
  |_=>cases h7
 |none=>§L72 x h1 (M22 x.toXI h2 h5) h3 hv hb
÷x62(x:XS lm X G E N sc cn):∀ (s:Sm) {ss:List Å1},mtS lm G.fns G.nums cn sc N s ss=true->GS X G E H0 zE s ss:=by
 intro s
 induction s with
 |nil =>
  intro ss h
  have:ss=[]:=Ì8.mp h
  subst this
  §⟨λ_=>K82,λk=>by cases k⟩
 |seq s r ihs ihr =>
  intro ss h
  ¶⟨st,h0,h⟩:=a70 h
  cases ss with
  |nil=>cases h0
  |cons st' rest =>
   cases h0
   simp only[Á,À1,List.tail_cons] at h
   ¶⟨⟨⟨h1,h2⟩,h3⟩,h4⟩:=h
   ¶⟨st',he,hs⟩:=(ihs h3).2 h1
   cases he
   §⟨λ_=>K92 hs ((ihr h4).1 h2),λk=>by cases k⟩
 |set p e =>
  intro ss h
  ¶⟨⟨q,rfl⟩,-,h⟩:=a70 h
  simp only[Á] at h
  §n70 rfl (M32 x h.1.1.1 h.1.1.2 h.1.2 h.2)
 |ret e =>
  intro ss h
  ¶⟨⟨q,rfl⟩,-,h⟩:=a70 h
  §n70 rfl (M42 x h)
 |iff c t u iht ihu =>
  intro ss h
  ¶⟨⟨q,rfl⟩,-,h⟩:=a70 h
  simp only[Á] at h
  ¶⟨⟨⟨⟨⟨⟨h1,h2⟩,h3⟩,h4⟩,h5⟩,h6⟩,h7⟩:=h
  §n70 rfl (W72 (a90 (b60 h1) (sound G c x.toXI h5)) (h91 h2) ((iht h6).1 h3) ((ihu h7).1 h4))
 |fr p it src b ih =>
  intro ss h
  ¶⟨⟨q,rfl⟩,-,h⟩:=a70 h
  simp only[Á] at h
  ¶⟨⟨⟨⟨⟨h1,h2⟩,h3⟩,h4⟩,h5⟩,h6⟩:=h
  §n70 rfl (X82 x h1 h2 h3 h5 ((ih h6).1 h4))
 |whl c b ih =>
  intro ss h
  ¶⟨⟨q,rfl⟩,-,h⟩:=a70 h
  simp only[Á] at h
  ¶⟨⟨⟨⟨h1,h2⟩,h3⟩,h4⟩,h5⟩:=h
  §n70 rfl (L52 x (a90 (b60 h1) (sound G c x.toXI h4)) (h91 h2) ((ih h5).1 h3))
 |rais c =>
  intro ss h
  ¶⟨⟨⟨e,pos⟩,rfl⟩,-,h⟩:=a70 h
  dsimp only at h
  ¶⟨⟨⟨n,p1,y,k,p2,p3⟩,rfl⟩,-,h⟩:=a70 h
  simp only[Á,beq_iff_eq] at h
  §n70 rfl (x_raise x h.1 h.2)
 |exp e =>
  intro ss h
  ¶⟨⟨q,rfl⟩,-,h⟩:=a70 h
  simp only[Á] at h
  §n70 rfl (L32 (a90 (b60 h.1.2) (sound G e x.toXI h.2)) h.1.1)
 |app i e =>
  intro ss h
  ¶⟨⟨⟨v0,pos⟩,rfl⟩,-,h⟩:=a70 h
  dsimp only at h
  ¶⟨⟨⟨n,p1,a,apos,v,cpos⟩,rfl⟩,-,h⟩:=a70 h
  simp only[Á,beq_iff_eq] at h
  ¶⟨⟨⟨⟨⟨⟨h7,h8⟩,h2⟩,h3⟩,h4⟩,h5⟩,h6⟩:=h
  subst h7
  §n70 rfl (L42 x h8 h2 h3 (a90 (b60 h4) (sound G e x.toXI h6)) (by rw[h5];§beq_self_eq_true _))
 |newz i f as =>
  intro ss h
  ¶⟨⟨⟨tg,v,pos⟩,rfl⟩,-,h⟩:=a70 h
  dsimp only at h
  ¶⟨⟨⟨y,p1⟩,rfl⟩,-,h⟩:=a70 h
  simp only[Á,beq_iff_eq] at h
  ¶⟨⟨⟨h1,h2⟩,h3⟩,h4⟩:=h
  §n70 rfl (w92 x h1 h2 (a90 rfl (sound G (.call f as) x.toXI h4)) h3)
 |zset i e =>
  intro ss h
  ¶⟨⟨⟨tg,v,pos⟩,rfl⟩,-,h⟩:=a70 h
  dsimp only at h
  ¶⟨⟨⟨n,p1,c,p2,p3⟩,rfl⟩,-,h⟩:=a70 h
  simp only[Á,beq_iff_eq] at h
  §n70 rfl (x02 x h.1.1.1 h.1.1.2 (a90 (b60 h.1.2) (sound G e x.toXI h.2)))
 |apop i j e =>
  intro ss h
  ¶⟨⟨⟨v0,pos⟩,rfl⟩,-,h⟩:=a70 h
  dsimp only at h
  ¶⟨⟨⟨n,p1,a,apos,v1,cpos⟩,rfl⟩,-,h⟩:=a70 h
  dsimp only at h
  ¶⟨⟨⟨m,p2,b,apos',v,cpos'⟩,rfl⟩,-,h⟩:=a70 h
  simp only[Á,beq_iff_eq] at h
  ¶⟨⟨⟨⟨⟨⟨⟨⟨⟨⟨g1,g2⟩,g3⟩,g4⟩,g5⟩,g6⟩,g7⟩,g8⟩,g9⟩,g10⟩,g11⟩:=h
  subst g1;subst g2
  §n70 rfl (x12 x g3 g4 g5 g6 g7 (a90 (b60 g8) (sound G e x.toXI g11)) (by rw[g9];§beq_self_eq_true _) (by rw[g10];§beq_self_eq_true _))
 |augi i ix e =>
  intro ss h
  ¶⟨⟨⟨n,p1,w,tp,v,pos⟩,rfl⟩,-,h⟩:=a70 h
  simp only[Á,beq_iff_eq] at h
  ¶⟨⟨⟨⟨⟨⟨h1,h2⟩,h3⟩,h4⟩,h5⟩,h6⟩,h7⟩:=h
  §n70 rfl (w82 x h1 h2 (a90 (b60 h4) (sound G e x.toXI h6)) (a90 (b60 h5) (sound G ix x.toXI h7)) h3)
end
structure GX(P:Program)(w:World)(K:PySem.W.Frag)(mg:Str->Option Value)(base:Heap)(G:Gs)(cn:List Str):Prop where
 gok:∀ f nm ps,G.fns[f]?=some (nm,ps)->∃ fa fd,mg nm=some (.ref fa)/\PySem.W.keepIn K (.ref fa)=true/\Binds K fd ps []/\X20 P w K mg base (CX1 P w) G.lv fa fd ps (spF K G f ps.length)
 num:∀ p∈G.nums,∃ t,mg p.1=some (.int p.2 t)
 blt:∀ n∈f02,mg n=none
 cls:∀ c x,cn[c]?=some x->mg x=some (.ref (G.cls c))/\PySem.W.excIn K (G.cls c) [.type "ValueError",.type "Exception",.type "BaseException",.type "object"] "ValueError.__new__"=true
section
variable {P:ß}{w:ç}{K:Â}{mg:Str->Option Ä}{base:ì}{G:Gs}{cn:List Str}
structure C22(P:Program)(w:World)(K:PySem.W.Frag)(mg:Str->Option Value)(base:Heap)(cls:Nat->Addr)(fR:Addr)(fdR:FuncData):Prop where
 bm:BMain mg base
 cls:∀ j,j < 12->R80 K mg (cls j) j
 m:mg "_law_refused"=some (.ref fR)
 kp:PySem.W.keepIn K (.ref fR)=true
 bd:Binds K fdR ["_law_call"] []
 fn:∀ k,n01 P w K mg base CX0 (k + 2) fR fdR ["_law_call"] (b82 P w K mg base (k + 1))
def C32(K:Â)(nm:Str)(fd:Å2):Prop:=∃ (c P:Ç) (q:Str),fd.code=.ref c/\Ä8 K c P=true/\(∀ sc n f cd,(Ï6 nm sc n f cd).qual++"<lambda>"=q)/\(P,q)∈TB.tb/\∀ p∈TB.tb,p.1=P->p.2=q
def Low(P:ß)(w:ç)(K:Â)(mg:Str->Option Ä)(base:ì)(G:Gs)(k:Nat):Prop:=∀ f nm ps,G.fns[f]?=some (nm,ps)->∃ fa fd,mg nm=some (.ref fa)/\Ó7 K (.ref fa)=true/\Binds K fd ps []/\X20 P w K mg base (CX1 P w) k fa fd ps (spF K (lowG G k) f ps.length)
÷x72(g:GX P w K mg base G cn){lm:Bool}{N ps:List Str}{qual:Str}{sc:ý}{f:Ç}{fd:Å2}{cd:Ä}{A:ø}{outer:List È9}{s:Æ}{H:Hp}{E:XK}(S:k20 N ps sc)(hl:N.all (T90 sc)=true)
  (hr:A40 G.lv (A.deeper (Ï6 qual sc s.heap.objs.size f cd))) (hc:fd.code=cd) (hlam:lm=true->∃ k fR fdR,G.lv=k + 2/\C22 P w K mg base G.cls fR fdR/\C32 K qual fd/\Low P w K mg base G k):XS lm (F90 (CX1 P w) P w K mg base N qual sc f cd A outer s H E) G E N sc cn where
 gok:=g.gok
 num:=g.num
 blt:=g.blt
 hN:=rfl
 nd:=S.nd
 vis:=λx hx=>by
  have:=Õ.mp hl x hx
  unfold T90 at this
  rw[Å6,beq_iff_eq,beq_iff_eq] at this
  rcases this with h | h
  ·§.inl h
  ·§.inr (.inl h)
 glb:=λx h=>h
 cel:=λx h=>h
 calm:=rfl
 room:=hr
 pas:=G32
 lam:=λh=>by
  ¶⟨k,fR,fdR,e1,L,⟨c,P',q,d1,d2,d3,d4,d5⟩,lo⟩:=hlam h
  §⟨c,P',q,k,fR,fdR,rfl,hc.symm.trans d1,d2,d3 _ _ _ _,d4,d5,L.bm,e1,L.cls,L.m,L.kp,L.bd,L.fn k,lo⟩
 sco:=rfl
 fnk:=S.kind
 own:=PassesOwn.leaving
 can:=u61
 fnx:=λ_=>rfl
 cls:=g.cls
÷X92{x qual:Str}{st:Å1}{f:Ç}{fd:Å2}{N ps:List Str}{k:Nat}{sp:Sp}(F:Fun K x qual st f fd)(S:k20 N ps (b90 st))(len:∀ vs H Q E,sp vs H Q E->vs.length=ps.length)
  (hb:∀ (cdv:Ä),fd.code=cdv->∀ (A:ø) (outer:List È9) (s:Æ) (H:Hp) (vs:List V) (Q:VK) (E:XK),A40 k (A.deeper (Ï6 qual (b90 st) s.heap.objs.size f cdv))->sp vs H Q E ->
   ∃ t,PSs (F90 (CX1 P w) P w K mg base N qual (b90 st) f cdv A outer s H E) (i30 st) t/\t { nx:=λ_ H'=>Q .non H',rt:=Q } (L2.start N vs) H):X20 P w K mg base (CX1 P w) (k + 1) f fd ps sp:=by
 ¶⟨oc,od,kV,doc,pm,an,cdv,ct,osl,rfl,lk,hcd⟩:=F.ex
 §E82 lk hcd S len λA outer s H vs Q E hr hsp=>hb cdv rfl A outer s H vs Q E hr hsp
÷i01:∀ {ss:List S}{vs:List V}{i:Nat}{s:S}{n:Nat},RvA K zA H ss vs->(ss.map some++í n none)[i]?=some (some s)->∃ v,(vs.map some++í n none)[i]?=some (some v)/\RvP K zA H s v
 |[],_,i,s,n,h,e=>by
  cases h
  simp only[map_nil,Í1] at e
  rw[Ò5] at e
  split at e <;> cases e
 |a::ss,_,0,s,n,h,e=>by
  cases h with
  |cons h1 h2 =>
   simp only[Å7,List.cons_append,Ë1] at e
   cases e
   §⟨_,rfl,h1⟩
 |a::ss,_,i + 1,s,n,h,e=>by
  cases h with
  |cons h1 h2 =>
   ¶⟨v,k1,k2⟩:=i01 (i:=i) (s:=s) (n:=n) h2 (by simpa using e)
   §⟨v,by simpa using k1,k2⟩
÷Å9.len{α β:Type}{R:α->β->Prop}:∀ {l:List α}{m:List β},Å9 R l m->l.length=m.length
 |[],_,h=>by cases h;rfl
 |_::_,_,h=>by
  cases h with
  |cons h1 h2=>simp[Å9.len h2]
÷P61(h:RvA K zA H ss vs)(hn:∀ s∈ss,∀ xs,s≠.fr xs):RW K H zA zA (λ_=>none) H (Q.start N.length ss) (L2.start N vs):=by
 have hl:ss.length=vs.length:=Å9.len h
 ¤⟨?_,λi j a e=>(nomatch e),λi a e=>(nomatch e),λi a e=>(nomatch e),λi s e=>?_,Ext.refl,.inl rfl,λi a e=>(nomatch e)⟩
 ·unfold Q.start L2.start
  simp[hl]
 ·unfold Q.start at e
  ¶⟨v,k1,k2⟩:=i01 h e
  ¤⟨v,?_,?_⟩
  ·unfold L2.start
   rw[← hl];§k1
  ·cases s with
   |d x=>§⟨rfl,by rw[x20];§k2⟩
   |z=>§⟨rfl,k2⟩
   |fr xs =>
    rcases Ã6.mp (è e) with q | q
    ·¶⟨s',q1,q2⟩:=Ö.mp q
     cases q2
     §absurd rfl (hn _ q1 xs)
    ·cases List.eq_of_mem_replicate q
÷h52(st:d70 zA z H):C12 zA z1=L40 z z1:=by
 have st:=st.zat
 cases zA with
 |none =>
  cases z with
  |none=>rfl
  |some p=>§st.elim
 |some a =>
  cases z with
  |none=>§st.elim
  |some p=>rfl
÷A91(st:d70 zA z H):z.isNone=zA.isNone:=by
 have st:=st.zat
 cases zA with
 |none =>
  cases z with
  |none=>rfl
  |some p=>§st.elim
 |some a =>
  cases z with
  |none=>§st.elim
  |some p=>rfl
÷B01(g:GX P w K mg base G cn){lm:Bool}{N ps:List Str}{nm:Str}{st:Å1}{fa:Ç}{fd:Å2}{b:Sm}{f:Nat}{F':FT}(Fn:Fun K nm nm st fa fd)(Sc:k20 N ps (b90 st))(hl:N.all (T90 (b90 st))=true)
  (ch:mtS lm G.fns G.nums cn (b90 st) N b (i30 st)=true) (hq:isQ b=true) (hlam:lm=true->∃ k fR fdR,G.lv=k + 2/\C22 P w K mg base G.cls fR fdR/\C32 K nm fd/\Low P w K mg base G k)
  (hF:∀ l z,F' false f l z=run G.F (.code ps.length N.length b) l z):X20 P w K mg base (CX1 P w) (G.lv + 1) fa fd ps (spF K { G with F:=F',lv:=G.lv + 1 } f ps.length):=by
 ¤X92 Fn Sc (λvs H Q E h=>h.1) λcdv hcd A outer s H vs Qv E hr hsp=>?_
 ¶⟨hlen,zA,z,ss,r,rv,st',e,po⟩:=hsp
 ¤⟨_,(x62 (H0:=H) (zE:=zA) (x72 g Sc hl hr hcd hlam) b ch).1 hq,?_⟩
 have e0:(if ss.length=ps.length/\ps.length<=N.length then(match ex G.F z.isNone b (Q.start N.length (ss.map plS)) z with
  |some (.ok (.nx _) z1)=>some (R.ok (S.d .non) (L40 z z1))
  |some (.ok (.rt s) z1)=>some (R.ok s (L40 z z1))
  |some (.er c z1)=>some (R.er c (L40 z z1))
  |none=>none) else none)=some r:=by
  have:=hF ss z
  §this.symm.trans e
 rw[A91 st'] at e0
 split at e0
 ·have rw0:RW K H zA zA (λ_=>none) H (Q.start N.length (ss.map plS)) (L2.start N vs):=P61 rv.plS λs hs xs=>by
   ¶⟨s',_,rfl⟩:=Ö.mp hs
   cases s' <;> §λh=>nomatch h
  split at e0
  ·rename_i ρ z1 e1
   cases e0
   ¤⟨zA,_,_,z,_,rw0,st',e1,λzA' ow' σ' H' r' st1 _=>?_⟩
   ¤po .non H' r'.ext ?_ (show Hd K (hz zA H') .non .non from Hd.non)
   rw[← h52 st'];§l32 r'.zok st1
  ·rename_i s1 z1 e1
   cases e0
   ¤⟨zA,_,_,z,_,rw0,st',e1,λv H' nz x st1 rv'=>?_⟩
   §po v H' x (by rw[← h52 st'];§st1) rv'
  ·rename_i c z1 e1
   cases e0
   ¤⟨zA,_,_,z,_,rw0,st',e1,λe H' x st1 hn=>?_⟩
   §po e H' x (by rw[← h52 st'];§st1) hn
  ·cases e0
 ·cases e0
def lev(G:Gs)(T:List Df)(k:Nat):Gs:={ G with F:=H10 T k,lv:=k }
÷x82{T:List Df}(num:∀ p∈G.nums,∃ t,mg p.1=some (.int p.2 t))(blt:∀ n∈f02,mg n=none)
  (cls:∀ c x,cn[c]?=some x->mg x=some (.ref (G.cls c))/\Ì5 K (G.cls c) [.type "ValueError",.type "Exception",.type "BaseException",.type "object"] "ValueError.__new__"=true)
  (hd:∀ (f:Nat) (nm:Str) (ps:List Str),G.fns[f]?=some (nm,ps)->∃ (fa:Ç) (fd:Å2),mg nm=some (.ref fa)/\Ó7 K (.ref fa)=true/\Binds K fd ps [] /\
   ((∃ (lm:Bool) (N:List Str) (st:Å1) (b:Sm),T[f]?=some (Df.code ps.length N.length b)/\Fun K nm nm st fa fd/\k20 N ps (b90 st)/\N.all (T90 (b90 st))=true/\isQ b=true/\mtS lm G.fns G.nums cn (b90 st) N b (i30 st)=true/\(lm=true->∃ fR fdR,C22 P w K mg base G.cls fR fdR/\C32 K nm fd)) ∨
    T[f]?=none)):∀ k,GX P w K mg base (lev G T k) cn:=by
 have zero:∀ k,k < 3->GX P w K mg base (lev G T k) cn:=λk hk=>by
  ¤⟨λf nm ps h=>?_,num,blt,cls⟩
  ¶⟨fa,fd,h1,h2,h3,_⟩:=hd f nm ps h
  ¤⟨fa,fd,h1,h2,h3,λvs H Q E q=>q.1,λA outer s H args us vs Q E hr he hb hv hs=>?_⟩
  ¶⟨_,zA,z,ss,r,_,_,e,_⟩:=hs
  match k,hk with
  |0,_=>cases e
  |1,_=>cases e
  |2,_=>cases e
 intro k
 induction k using Nat.strongRecOn with
 |ind k ih =>
  match k,ih with
  |0,_=>§zero 0 (by decide)
  |1,_=>§zero 1 (by decide)
  |2,_=>§zero 2 (by decide)
  |k + 3,ih =>
   ¤⟨λf nm ps h=>?_,num,blt,cls⟩
   ¶⟨fa,fd,h1,h2,h3,h4⟩:=hd f nm ps h
   ¤⟨fa,fd,h1,h2,h3,?_⟩
   rcases h4 with ⟨lm,N,st,b,k1,k2,k3,k4,k5,k6,k7⟩ | h4
   ·¤B01 (G:=lev G T (k + 2)) (F':=H10 T (k + 3)) (ih (k + 2) (by omega)) k2 k3 k4 k6 k5 (λhlm=>?_) λl z=>?_
    ·¶⟨fR,fdR,L,D⟩:=k7 hlm
     §⟨k,fR,fdR,rfl,L,D,λf nm ps h=>(ih k (by omega)).gok f nm ps h⟩
    ·show(match T[f]? with | some d=>run (H10 T (k + 2)) d l | none=>M.no) z=_
     rw[k1];rfl
   ·¤⟨λvs H Q E q=>q.1,λA outer s H args us vs Q E hr he hb hv hs=>?_⟩
    ¶⟨_,zA,z,ss,r,_,_,e,_⟩:=hs
    have e':(match T[f]? with | some d=>run (H10 T (k + 2)) d ss | none=>M.no) z=some r:=e
    rw[h4] at e'
    cases e'
end
end Q
namespace L2
open PySem PySem.W PySem.Calls PyProof.Rows
def E40(thr sok:Thread->Bool)(stp:SharedT->Thread->Option (SharedT × Thread)):Nat->SharedT->Thread->Option SharedT
 |0,_,_=>none
 |n + 1,s,t=>match thr t with
  |true=>some s
  |false=>match sok t with
   |false=>none
   |true=>match stp s t with
    |some (s',t')=>E40 thr sok stp n s' t'
    |none=>none
÷U00:∀ {n:Nat}{s s':SharedT}{t:Thread},E40 through (stepOk n₀ ann) (stepT (denote tb) p w) n s t=some s'->topRun tb p w n₀ ann n s.abs t=some s'.abs
 |0,_,_,_,h=>by cases h
 |n + 1,s,s',t,h=>by
  unfold E40 at h
  unfold topRun
  cases ht:through t with
  |true=>rw[ht] at h;cases h;rfl
  |false =>
   rw[ht] at h
   cases hok:stepOk n₀ ann t with
   |false=>rw[hok] at h;cases h
   |true =>
    rw[hok] at h
    cases hst:stepT (denote tb) p w s t with
    |none=>rw[hst] at h;cases h
    |some r=>¶⟨s₂,t₂⟩:=r;rw[hst] at h;rw[stepT_spec hst];§U00 h
def grow:List Obj->Nat->BT->BT
 |[],_,t=>t
 |o::r,i,t=>grow r (i + 1) (t.ins i o)
def h62(w:ç)(os:OsState):SharedT:=⟨grow (Ê5 w.params).objs.toList 0 .nil,11,(Ê5 w.params).life,Array.mk [],boot_drawn,boot_toks,os⟩
÷B11:∀ (w:ç) (os:OsState),(h62 w os).abs=⟨Ê5 w.params,Array.mk [],boot_drawn,boot_toks,os⟩:=λw os=>by kernel_rfl
÷B21:∀ w:ç,((Ê5 w.params).isNs ã&&(Array.mk []:Array Ý9).size == 0,(Ê5 w.params).objs.size,(Ê5 w.params).nsMap ã "__annotations__")=(true,11,some (.ref 6)):=λw=>by kernel_rfl
÷h72{p q:ß}{loose:List Str}{Xt:Æ->Bool}{α:Type}{Yf:Æ->α}{Ya:ç->α}{N:Nat}
  (e:opening p=plainProg p.main.scope.names) (hN:ble 600 N=true) (f:∀ s,fenceModules? p s=some s)
  (run:∀ (w:ç) (os:OsState),(E40 through (stepOk 11 (some (.ref 6))) (stepT (denote treeTable) p w) N (h62 w os) (topStub p)).map (λs =>
   (staticsOk (Ï5 p.main.body) (Ê5 w.params) s.abs.heap&&namesBound p s.abs.heap&&gensDone s.abs&&laidKept (Ê5 w.params) s.abs.heap,
    openSeen q loose (Ï5 p.main.body) Xt true s.abs,Yf s.abs))=some (true,openGood q loose,Ya w)):LeftO p q loose Xt Yf Ya N:=λw=>by
 ¶⟨⟨h,gs,d,k,os⟩,e1,e2⟩:=Ê.mp (boot_open (N:=N) e hN f w)
 obtain⟨rfl,rfl,rfl,rfl⟩:h=Ê5 w.params/\gs=Array.mk []/\d=boot_drawn/\k=boot_toks:=by simpa using e2
 obtain⟨z1,z2,z3⟩:_/\_/\_:=by simpa only [Ï8] using B21 w
 ¶⟨s1,r1,r2⟩:=Ê.mp (run w os)
 obtain⟨l1,l2,l3⟩:_/\_/\_:=by simpa only [Ï8] using r2
 have r:=U00 r1
 rw[B11] at r
 unfold openEnds
 rw[e1]
 show Î7 _ (topFrom treeTable p w N _)=_
 unfold topFrom
 dsimp only
 rw[z1,z2,z3,r]
 show Î7 _ (match staticsOk (Ï5 p.main.body) (Ê5 w.params) s1.abs.heap&&namesBound p s1.abs.heap&&gensDone s1.abs&&laidKept (Ê5 w.params) s1.abs.heap with | true=>_ | false=>_)=_
 rw[l1]
 §congrArg Option.some (Prod.ext l2 l3)
def U10(o:Obj):Bool:=match o with
 |⟨.none,none,.fields vs,sl⟩=>vs.isEmpty&&sl.isEmpty
 |_=>false
def M52(h:ì)(a:Ç):Option Obj:=match h.get? a with
 |some o=>if U10 o then none else some o
 |none=>none
def fragOf(h:ì):Frag:=(î h.objs.size).filterMap λa=>(M52 h a).map λo=>(a,o)
÷v00(g:Ç->Option Obj)(a:Ç):∀ l:List Ç,(l.filterMap λa=>(g a).map λo=>(a,o)).lookup a=if a∈l then g a else none
 |[]=>rfl
 |b::r=>by
  by_cases hb:a=b
  ·subst hb
   rw[if_pos Ì]
   cases hg:g a with
   |none =>
    rw[Á4,hg]
    show(r.filterMap λa=>(g a).map λo=>(a,o)).lookup a=none
    rw[v00 g a r]
    split
    ·§hg
    ·rfl
   |some o =>
    rw[Á4,hg]
    show Í3 a ((a,o)::_)=some o
    rw[List.lookup_cons_self]
  ·have hm:(a∈b::r)↔a∈r:=by rw[Â7];§⟨λh=>h.resolve_left hb,Ù9⟩
   have ih:=v00 g a r
   have e:(if a∈b::r then g a else none)=if a∈r then g a else none:=by simp only[hm]
   rw[e,← ih]
   cases hg:g b with
   |none=>rw[Á4,hg];rfl
   |some o =>
    rw[Á4,hg]
    show Í3 a ((b,o)::_)=_
    have:(a == b)=false:=by simpa using hb
    simp only[Í3,this]
÷B31(h:ì):(fragOf h).In h:=λa o e=>by
 unfold fragOf at e
 rw[v00] at e
 split at e
 ·unfold M52 at e
  cases hg:h.get? a with
  |none=>rw[hg] at e;cases e
  |some u =>
   rw[hg] at e
   dsimp only at e
   split at e
   ·cases e
   ·§e
 ·cases e
÷h82(h:U10 o=true):o=tabObj #[]:=by
 unfold U10 at h
 split at h
 ·rename_i vs sl
  rw[Á,Array.isEmpty_iff,Array.isEmpty_iff] at h
  ¶⟨rfl,rfl⟩:=h
  rfl
 ·cases h
÷o21(e:h.get? a=some o)(t:U10 o=true):(fragOf h).lookup a=none:=by
 unfold fragOf
 rw[v00]
 split
 ·unfold M52;rw[e];§if_pos t
 ·rfl
def B41(K:Frag)(x:Str):Option (Str × Str × Î4 × FuncBody × ý × Ç × List (Str × Ç) × Ä × Ç × Bool):=match nsIn K ã x with
 |some (some (.ref at0))=>(match K.lookup at0 with
  |some ⟨_,_,.func fd,_⟩=>some (fd.name,fd.qualname,fd.params,fd.body,fd.scope,fd.globals,fd.closure,fd.defaults,fd.builtins,codeIn K fd.code x)
  |_=>none)
 |_=>none
def h92(x:Str)(st:Å1):Option (Str × Str × Î4 × FuncBody × ý × Ç × List (Str × Ç) × Ä × Ç × Bool):=some (x,x,J30 st,.stmts (i30 st),b90 st,ã,[],.none,Î0,true)
÷b11{K:Frag}{x:Str}{st:Å1}(e:B41 K x=h92 x st):∃ f fd,nsIn K ã x=some (some (.ref f))/\Fun K x x st f fd/\∃ oc od sl,K.lookup f=some ⟨oc,od,.func fd,sl⟩:=by
 unfold B41 h92 at e
 split at e
 ·rename_i f hf
  split at e
  ·rename_i oc od fd sl hl
   ¶⟨nm,qn,pm,bd,sc,gl,cl,df,kd,dc,py,an,cd,ct,bl⟩:=fd
   simp only[Ï8,Ê3] at e
   ¶⟨rfl,rfl,rfl,rfl,rfl,rfl,rfl,rfl,rfl,hc⟩:=e
   §⟨f,_,hf,⟨⟨oc,od,kd,dc,py,an,cd,ct,sl,rfl,hl,hc⟩,by simp only[keepIn,hl]⟩,oc,od,sl,hl⟩
  ·cases e
 ·cases e
def tab0At(h:ì)(T:Ç):Bool:=match h.get? T with
 |some o=>U10 o
 |none=>false
÷B51{h:ì}{T:Ç}(e:tab0At h T=true):h.get? T=some (tabObj #[]):=by
 unfold tab0At at e
 split at e
 ·rename_i o ho
  rw[ho,h82 e]
 ·cases e
def B61(h:ì)(K:Frag)(x:Str):Option Addr:=match nsIn K ã x with
 |some (some (.ref at0))=>(match K.lookup at0 with
  |some ⟨_,_,.func fn0,_⟩=>(match fn0.code with
   |.ref c=>(match K.lookup c with
    |some ⟨_,_,.fields vs,_⟩=>(match (vs[11]?:Option Ä) with
     |some (.ref T)=>if codeHdIn K c T&&tab0At h T then some T else none
     |_=>none)
    |_=>none)
   |_=>none)
  |_=>none)
 |_=>none
÷o31{h:ì}{K:Frag}{x:Str}{T:Ç}(e:B61 h K x=some T):h.get? T=some (tabObj #[])/\∃ f oc od fd sl c,nsIn K ã x=some (some (.ref f))/\K.lookup f=some ⟨oc,od,.func fd,sl⟩/\fd.code=.ref c/\codeHdIn K c T=true:=by
 unfold B61 at e
 split at e
 ·rename_i f hf
  split at e
  ·rename_i oc od fd sl hl
   split at e
   ·rename_i c hc
    split at e
    ·split at e
     ·rename_i T' _
      split at e
      ·rename_i q
       cases e
       rw[Á] at q
       ¶⟨q1,q2⟩:=q
       §⟨B51 q2,f,oc,od,fd,sl,c,hf,hl,hc,q1⟩
      ·cases e
     ·cases e
    ·cases e
   ·cases e
  ·cases e
 ·cases e
def h60:List Str:=["NoWeb","NoLot","NoPlaces","NoPlace","NoTie","NoChance","NoChances","NoPaper","TooMany","NoText","NoLine","NoDeed"]
def U20(K:Frag)(x:Str):Option Addr:=match nsIn K ã x with
 |some (some (.ref f))=>some f
 |_=>none
÷M60{K:Frag}{x:Str}{f:Ç}(e:U20 K x=some f):nsIn K ã x=some (some (.ref f)):=by
 unfold U20 at e
 split at e
 ·cases e;assumption
 ·cases e
abbrev P52:=Option (Option Ä) × Option (Option Ä) × Option Bool × Option Bool × Option (Option Ä) × Bool × Option Bool × Option Bool × Bool × List (Option Bool)
def b21(K:Frag)(C:Ç):P52:=(findIn K (.ref C) "__getattribute__",findIn K (.ref C) "__getattr__",mroIn K C (.type "BaseException"),mroIn K C (.type "object"),findIn K (.ref C) "__class__",hasDictIn K C,kitOne K (.ref C) (.type "ValueError"),
 (U20 K "ChanceError").bind λD=>exmOne K (.ref C) (.ref D),excIn K C [.type "ValueError",.type "Exception",.type "BaseException",.type "object"] "ValueError.__new__",h60.map λy=>(U20 K y).bind λB=>kitOne K (.ref C) (.ref B))
def B71(x:Str):P52:=(some (some (Ð6 "BaseException.__getattribute__")),some (none:Option Ä),some true,some true,some (some (Ð6 "object.__class__")),true,some true,some true,true,h60.map λy=>some (decide (x=y)))
def b31(K:Frag)(x:Str):Option Int:=match nsIn K ã x with
 |some (some (.int i _))=>some i
 |_=>none
÷b41{K:Frag}{x:Str}{i:Int}(e:b31 K x=some i):∃ t,nsIn K ã x=some (some (.int i t)):=by
 unfold b31 at e
 split at e
 ·rename_i t h;cases e;§⟨t,h⟩
 ·cases e
def b51(K:Frag)(x:Str):Bool:=match nsIn K ã x with
 |some none=>true
 |_=>false
÷b61{K:Frag}{x:Str}(e:b51 K x=true):nsIn K ã x=some none:=by
 unfold b51 at e
 split at e
 ·assumption
 ·cases e
structure n90 where
 ds:List (Str × Stmt)
 is:List (Str × Int)
 ns:List Str
 ms:List Str
 cs:List Str
def n90.obs(q:n90)(s:Æ) :=
 let K:=fragOf s.heap
 (q.ds.map λd=>B41 K d.1,q.is.map λd=>b31 K d.1,q.ns.map (b51 K),q.ms.map λx=>(B61 s.heap K x).isSome,q.cs.map λx=>(U20 K x).map (b21 K),
  (specialIn K (.builtin "object.__class__") "__get__",takesIn K (.builtin "object.__class__")))
def n90.due(q:n90)(_:ç) :=
 (q.ds.map λd=>h92 d.1 d.2,q.is.map λd=>some d.2,q.ns.map λ_=>true,q.ms.map λ_=>true,q.cs.map λx=>some (B71 x),
  (some (some (Ð6 "getset_descriptor.__get__")),some true))
structure Facts(q:n90)(K:Frag)(h:Heap):Prop where
 fn:∀ d∈q.ds,∃ f fd,nsIn K mainGlobals d.1=some (some (.ref f))/\Fun K d.1 d.1 d.2 f fd/\∃ oc od sl,K.lookup f=some ⟨oc,od,.func fd,sl⟩
 it:∀ d∈q.is,∃ t,nsIn K mainGlobals d.1=some (some (.int d.2 t))
 no:∀ x∈q.ns,nsIn K mainGlobals x=some none
 mt:∀ x∈q.ms,∃ T,h.get? T=some (tabObj #[])/\K.lookup T=none/\∃ f oc od fd sl c,nsIn K mainGlobals x=some (some (.ref f))/\K.lookup f=some ⟨oc,od,.func fd,sl⟩/\fd.code=.ref c/\codeHdIn K c T=true
 cl:∀ x∈q.cs,∃ C,nsIn K mainGlobals x=some (some (.ref C))/\b21 K C=B71 x
 sp:specialIn K (.builtin "object.__class__") "__get__"=some (some (Value.builtin "getset_descriptor.__get__"))
 tk:takesIn K (.builtin "object.__class__")=some true
÷H50{α β:Type}{f g:α->β}:∀ {l:List α},l.map f=l.map g->∀ a∈l,f a=g a:=λ{l} h a ha=>List.map_inj_left.mp h a ha
÷n90.facts(q:n90)(w:ç)(s:Æ)(e:q.obs s=q.due w):Facts q (fragOf s.heap) s.heap:=by
 unfold n90.obs n90.due at e
 simp only[Ï8] at e
 ¶⟨e1,e2,e3,e4,e5,e6,e7⟩:=e
 ¤⟨λd hd=>b11 (H50 e1 d hd),λd hd=>b41 (H50 e2 d hd),λx hx=>b61 (H50 e3 x hx),λx hx=>?_,λx hx=>?_,e6,e7⟩
 ·¶⟨T,hT⟩:=Þ5.mp (H50 e4 x hx)
  ¶⟨h1,h2⟩:=o31 hT
  §⟨T,h1,o21 h1 rfl,h2⟩
 ·¶⟨C,h1,h2⟩:=Ê.mp (H50 e5 x hx)
  §⟨C,M60 h1,h2⟩
def n90.hook(q:n90):Hook where
 α:=_
 obs:=q.obs
 val:=q.due
 says:=λ_ h=>∃ K:Frag,K.In h/\Facts q K h
 of:=λw s e=>⟨_,B31 _,q.facts w s e⟩
 keeps:=λ_ h h' ⟨K,X,F⟩ k=>⟨K,X.keeps k,⟨F.fn,F.it,F.no,λx hx=>let ⟨T,a,b⟩:=F.mt x hx;⟨T,k _ _ a,b⟩,F.cl,F.sp,F.tk⟩⟩
end L2
namespace Q
open PySem L2 PySem.Spec PyProof.Rows
structure Row where
 nm:Str
 ps:List Str
 st:Stmt
 N:List Str
 b:Sm
 lm:Bool
def B81(N ps:List Str)(sc:ý):Bool:=sc.kind == .function&&!sc.isCoroutine&&!sc.isGenerator&&decide N.Nodup&&N.take ps.length == ps&&ps.all (λx=>sc.names.lookup x == some .local || sc.names.lookup x == some .cell)&&sc.names.all λy=>y.2 != .free
÷i11(h:B81 N ps sc=true):k20 N ps sc:=by
 unfold B81 at h
 simp only[Á,À1,beq_iff_eq,Æ9,decide_eq_true_eq,Å6] at h
 ¶⟨⟨⟨⟨⟨⟨h1,h2⟩,h3⟩,h4⟩,h5⟩,h6⟩,h7⟩:=h
 §⟨h1,h2,h3,h4,h5,h6,λy hy=>by simpa using h7 y hy⟩
def B91(r:Row):Prop:=∀ (kV doc pm:Ä) (an:Option Ç) (cdv ct:Ä) (us:List Ä),us.length=r.ps.length->bindArgs (fnOf r.nm r.nm (J30 r.st) (i30 r.st) (b90 r.st) .none kV doc pm an cdv ct) ⟨us,[]⟩=pure (r.ps.zip us)
def p10:List Row->Prop
 |[]=>True
 |r::l=>B91 r/\p10 l
÷p10.at:∀ {l:List Row}{r:Row},p10 l->r∈l->B91 r
 |_::_,_,h,.head _=>h.1
 |_::_,_,h,.tail _ m=>p10.at h.2 m
÷us1(h:us.length=1):∃ a,us=[a]:=List.length_eq_one_iff.mp h
÷us2(h:us.length=2):∃ a b,us=[a,b]:=by
 match us,h with
 |[a,b],_=>§⟨a,b,rfl⟩
÷us3(h:us.length=3):∃ a b c,us=[a,b,c]:=by
 match us,h with
 |[a,b,c],_=>§⟨a,b,c,rfl⟩
def l42(fns:List (Str × List Str))(nums:List (Str × Int))(r:Row):Bool:=mtS r.lm fns nums h60 (b90 r.st) r.N r.b (i30 r.st)&&isQ r.b&&r.N.all (T90 (b90 r.st))&&B81 r.N r.ps (b90 r.st)
def G40(rows:List Row):List (Str × List Str):=rows.map λr=>(r.nm,r.ps)
def tabOf(rows:List Row):List Df:=rows.map λr=>Df.code r.ps.length r.N.length r.b
def H60(rows:List Row)(nums:List (Str × Int))(mn:List Str)(ex:List (Str × Å1)):n90:=⟨rows.map (λr=>(r.nm,r.st))++ex,nums,"ValueError"::f02,mn,h60⟩
def clsAt(K:Â)(c:Nat):Addr:=(U20 K (h60.getD c "")).getD 0
÷x92{K:Â}{C:Ç}{c:Nat}{x:Str}(hc:h60[c]?=some x)(h:Ñ9 K ã x=some (some (.ref C))):clsAt K c=C:=by
 unfold clsAt
 rw[Ø,hc]
 show(U20 K x).getD 0=C
 unfold U20
 rw[h];rfl
÷y02{K:Â}{h:ì}{mg:Str->Option Ä}{q:n90}{x:Str}{j:Nat}(X:K.In h)(G:h.Ns ã mg)(F:Facts q K h)(hx:x∈q.cs)(hj:names12[j]?=some x)(hv:("ValueError":Str)∈q.ns):∃ C,Ñ9 K ã x=some (some (.ref C))/\R80 K mg C j/\Ì5 K C [.type "ValueError",.type "Exception",.type "BaseException",.type "object"] "ValueError.__new__"=true:=by
 ¶⟨C,hC,e⟩:=F.cl x hx
 unfold b21 B71 at e
 simp only[Ï8] at e
 ¶⟨u1,u2,u3,u4,u5,hd,ve,ce,ex,ys⟩:=e
 ¶⟨D,hD,ce⟩:=Î.mp ce
 have lt:j < 12:=(Ý.mp hj).1
 ¤⟨C,hC,⟨λi y hy=>?_,⟨u1,u2,u3,u4,u5,F.sp,F.tk⟩,hd,ve,mg_none_of X G (F.no _ hv),⟨D,mg_of X G (M60 hD),ce⟩,lt⟩,ex⟩
 have hm:=H50 ys y (è hy)
 ¶⟨B,hB,hk⟩:=Î.mp hm
 ¤⟨B,mg_of X G (M60 hB),hk.trans (congrArg some (decide_eq_decide.mpr ⟨λq=>?_,λq=>?_⟩))⟩
 ·subst q
  have nd:names12.Nodup:=by decide +kernel
  §(List.getElem?_inj (Ý.mp hy).1 nd).mp (hy.trans hj.symm)
 ·subst q
  rw[hj] at hy;cases hy;rfl
section
variable {P:ß}{w:ç}{K:Â}{mg:Str->Option Ä}{base:ì}
÷ok0(F:X20 P w K mg base (CX1 P w) k f fd ps sp):X20 P w K mg base CX0 k f fd ps (λvs H Q _=>sp vs H Q λ_ _ _=>False) :=
 ⟨λvs H Q E h=>F.len _ _ _ _ h,λA outer s H args us vs Q E hr he hb hv hs=>È3 (F.run A outer s H args us vs Q _ hr he hb hv hs) λr s' h=>by
  cases r with
  |error e =>
   ¶⟨_,_,_,_,_,_,_,_,_,_,_,_,_,hE⟩:=h
   §hE.elim
  |ok fl=>cases fl <;> §h⟩
÷Y02:ß3 (#[]:Array Ä).toList:=by first | trivial | (unfold ß3;trivial)
÷q60.noT[TB:Tb](h:q60 K H a xs):q60 K (hz none H) a xs:=by
 rcases h with (h | ⟨o,h⟩) | h
 ·§.inl (.inl (d50 h (λq=>nomatch q)))
 ·§.inl (.inr ⟨o,d50 h (λq=>nomatch q)⟩)
 ·§.inr h
÷y12[TB:Tb]{G:Gs}{T:List Df}{k f:Nat}{H:Hp}{a:Ç}{ns:List Int}(pure:b40 T k f [.d (.lst (ns.map D.int))] none=some (.ok (.d (.bl true)) none))(hH:∀ p∈TB.tb,H p.1=some (.tbl #[]))(hS:q60 K H a (ns.map V.int)) :
  spF K (lev G T k) f 1 [.ref a] H (λv _=>v=.bl true) λ_ _ _=>False:=by
 ¤⟨rfl,none,none,[.d (.lst (ns.map D.int))],_,.cons ?_ .nil,⟨trivial,λp hp=>⟨#[],hH p hp,Y02,λpos c e=>nomatch e⟩⟩,pure,λv H' x st rv=>Hd.bl_ (show Hd K (hz none H') (.bl true) v from rv)⟩
 show Hd K (hz none H) (.lst (ns.map D.int)) (.ref a)
 unfold Hd
 §⟨a,ns.map V.int,rfl,hS.noT,HdA.ints ns⟩
end
def P62(nm:Str):Str:=(Ï6 nm ⟨.function,[],false,false,[]⟩ 0 0 .none).qual++"<lambda>"
÷y22{rows:List Row}{f:Nat}{nm:Str}{ps:List Str}(h:(G40 rows)[f]?=some (nm,ps)):∃ r∈rows,rows[f]?=some r/\r.nm=nm/\r.ps=ps:=by
 unfold G40 at h
 rw[Ü] at h
 ¶⟨r,h1,h2⟩:=Ê.mp h
 cases h2
 §⟨r,è h1,h1,rfl,rfl⟩
section
variable [TB:Tb] {P:ß}{w:ç}{K:Â}{h:ì}{mg:Str->Option Ä}{base:ì}{rows:List Row}{nums:List (Str × Int)}{mn:List Str}{ex:List (Str × Å1)}
def y32(rows:List Row)(mn:List Str)(ex:List (Str × Å1)):Prop:=∀ r∈rows,r.lm=true->r.nm∈mn/\∃ (sR:Å1) (n:Nat),(("_law_refused":Str),sR)∈ex/\b90 sR=u50/\i30 sR=Z20 n/\B91 ⟨"_law_refused",["_law_call"],sR,[],.nil,false⟩
def M62[TB:Tb](K:Â)(rows:List Row):Prop:=∀ r∈rows,r.lm=true->∀ fd,(∃ f oc od sl,Ñ9 K ã r.nm=some (some (.ref f))/\K.lookup f=some ⟨oc,od,.func fd,sl⟩)->C32 K r.nm fd
÷C01(X:K.In h)(Gn:h.Ns ã mg)(Q:Facts (H60 rows nums mn ex) K h):∀ c x,h60[c]?=some x->Ñ9 K ã x=some (some (.ref (clsAt K c)))/\R80 K mg (clsAt K c) c/\Ì5 K (clsAt K c) [.type "ValueError",.type "Exception",.type "BaseException",.type "object"] "ValueError.__new__"=true:=λc x hc=>by
 ¶⟨C,h1,h2,h3⟩:=y02 (x:=x) (j:=c) X Gn Q (è hc) hc Ì
 rw[x92 hc h1]
 §⟨h1,h2,h3⟩
÷C11(X:K.In h)(Gn:h.Ns ã mg)(Q:Facts (H60 rows nums mn ex) K h)(bm:BMain mg base)(hR:y32 rows mn ex)(hr:r∈rows)(hlm:r.lm=true):∃ fR fdR,C22 P w K mg base (clsAt K) fR fdR:=by
 ¶⟨hmn,sR,n,g1,g2,g3,g4⟩:=hR r hr hlm
 obtain⟨fR,fdR,a2,F2,oc2,od2,sl2,lk2⟩:=Q.fn ("_law_refused",sR) (ð _ g1)
 ¤⟨fR,fdR,bm,λj hj=>?_,mg_of X Gn a2,F2.kp,F2.binds g4,λk=>r02 F2 g2 g3 (mg_none_of X Gn (Q.no _ (È _ (by decide)))) (mg_none_of X Gn (Q.no _ (È _ (by decide))))⟩
 have hx:∃ x,h60[j]?=some x:=⟨_,æ (by §hj)⟩
 ¶⟨x,hx⟩:=hx
 §(C01 X Gn Q j x hx).2.1
÷i02(X:K.In h)(Gn:h.Ns ã mg)(Q:Facts (H60 rows nums mn ex) K h)(ok:rows.all (l42 (G40 rows) nums)=true)(bd:p10 rows)(bm:BMain mg base)(hR:y32 rows mn ex)(hT:M62 K rows)(F0:FT):∀ k,GX P w K mg base (lev ⟨G40 rows,nums,F0,clsAt K,0⟩ (tabOf rows) k) h60:=by
 ¤x82 (λp hp=>?_) (λn hn=>?_) (λc x hc=>?_) λf nm ps hf=>?_
 ·¶⟨t,e⟩:=Q.it p hp
  §⟨t,mg_of X Gn e⟩
 ·§mg_none_of X Gn (Q.no n (È _ hn))
 ·¶⟨h1,_,h3⟩:=C01 X Gn Q c x hc
  §⟨mg_of X Gn h1,h3⟩
 ·¶⟨r,hr,hr2,rfl,rfl⟩:=y22 hf
  ¶⟨fa,fd,a1,F1,oc,od,sl,lk⟩:=Q.fn (r.nm,r.st) (Æ5 _ (Ö.mpr ⟨r,hr,rfl⟩))
  have rb:=Õ.mp ok r hr
  unfold l42 at rb
  simp only[Á] at rb
  ¶⟨⟨⟨b1,b2⟩,b3⟩,b4⟩:=rb
  ¤⟨fa,fd,mg_of X Gn a1,F1.kp,F1.binds (bd.at hr),.inl ⟨r.lm,r.N,r.st,r.b,?_,F1,i11 b4,b3,b2,b1,λhlm=>?_⟩⟩
  ·unfold tabOf
   rw[Ü,hr2];rfl
  ·¶⟨fR,fdR,L⟩:=C11 (P:=P) (w:=w) X Gn Q bm hR hr hlm
   §⟨fR,fdR,L,hT r hr hlm fd ⟨fa,oc,od,sl,a1,lk⟩⟩
÷y42(X:K.In h)(Gn:h.Ns ã mg)(Q:Facts (H60 rows nums mn ex) K h)(ok:rows.all (l42 (G40 rows) nums)=true)(bd:p10 rows)(bm:BMain mg base)(hR:y32 rows mn ex)(hT:M62 K rows)(F0:FT)(k:Nat)(hi:rows[i]?=some r)(F1:Fun K r.nm r.nm r.st fa fd)
  (hfd:∃ f oc od sl,Ñ9 K ã r.nm=some (some (.ref f))/\K.lookup f=some ⟨oc,od,.func fd,sl⟩):X20 P w K mg base (CX1 P w) (k + 3) fa fd r.ps (spF K (lev ⟨G40 rows,nums,F0,clsAt K,0⟩ (tabOf rows) (k + 3)) i r.ps.length):=by
 have hr:=è hi
 have rb:=Õ.mp ok r hr
 unfold l42 at rb
 simp only[Á] at rb
 ¶⟨⟨⟨b1,b2⟩,b3⟩,b4⟩:=rb
 have all:=i02 (P:=P) (w:=w) X Gn Q ok bd bm hR hT F0
 ¤B01 (G:=lev ⟨G40 rows,nums,F0,clsAt K,0⟩ (tabOf rows) (k + 2)) (F':=H10 (tabOf rows) (k + 3)) (all (k + 2)) F1 (i11 b4) b3 b1 b2 (λhlm=>?_) λl z=>?_
 ·¶⟨fR,fdR,L⟩:=C11 (P:=P) (w:=w) X Gn Q bm hR hr hlm
  §⟨k,fR,fdR,rfl,L,hT r hr hlm fd hfd,λf nm ps h=>(all k).gok f nm ps h⟩
 ·show(match (tabOf rows)[i]? with | some d=>run (H10 (tabOf rows) (k + 2)) d l | none=>M.no) z=_
  unfold tabOf
  rw[Ü,hi];rfl
end
÷C21{P:ß}{w:ç}{K:Â}{mg mb:Str->Option Ä}{k:Nat}{fa a:Ç}{fd:Å2}{x:Str}{sp:Sp}{s₁:Æ}{vs:List Ä}{ns:List Int}{ts:List Ç}
  (KX:K.In s₁.heap) (hns:s₁.heap.Ns ã mg) (hb:s₁.heap.Ns Î0 mb) (hbb:∀ x:Str,x≠"__name__"->mb x=ë x) (hlim:s₁.heap.NoLimit) (hg:s₁.gens=#[])
  (ha:s₁.heap.get? a=some { cls:=.type "list",data:=.seq vs.toArray }) (hi:Ë7 vs ns) (hl:ns.length<=Û) (hr:A40 k Ý4)
  (hT:∀ Pt∈ts,s₁.heap.get? Pt=some (È5 #[])/\K.lookup Pt=none/\∃ c,Ä8 K c Pt=true) (bmn:BMain mg s₁.heap)
  (F:∀ base:ì,K.In base->base.Ns ã mg->BMain mg base->X20 P w K mg base CX0 k fa fd [x] sp) (hbind:∀ (s:Æ) (u:Ä),BindsTo s fd ⟨[u],[]⟩ [(x,u)])
  (hsp:∀ H:Hp,(∀ Pt∈ts,H Pt=some (.tbl #[]))->q60 K H a (ns.map V.int)->sp [.ref a] H (λv _=>v=.bl true) λ_ _ _=>False) :
  Î6 (Ô P w) Ý4 (.call (.ref fa) ⟨[.ref a],[]⟩) (λr s'=>r=.ok (.ret (.bool true))/\OldK s₁.heap s'.heap/\s'.os=s₁.os/\Ó5 s'.gens) s₁:=by
 have rv:=R00 hi
 have lenV:=hi.length
 have naT:a ∉ ts:=λh=>by have:=(hT a h).1;rw[ha] at this;cases this
 have core:∀ H:Hp,(∀ Pt∈ts,H Pt=some (.tbl #[]))->(∀ b,H b=none∨b∈ts∨(b=a/\∃ xs,H b=some (.frz { cls:=.type "list",data:=.seq vs.toArray } (.lst xs))))->q60 K H a (ns.map V.int)->HOk P w H s₁.heap->(H a≠none->K.lookup a=none) ->
   Î6 (Ô P w) Ý4 (.call (.ref fa) ⟨[.ref a],[]⟩) (λr s'=>r=.ok (.ret (.bool true))/\OldK s₁.heap s'.heap/\s'.os=s₁.os/\Ó5 s'.gens) s₁:=by
  intro H hH hO hS hok hK
  have plainN:∀ {b:Ç}{o:Obj},s₁.heap.get? b=some o->(∀ xs n,o.data≠.seq xs n)->(∀ xs,o.data≠.fields xs)->H b=none:=λ{b o} e d1 d2=>by
   rcases hO b with z | z | ⟨z,_⟩
   ·§z
   ·have:=(hT b z).1
    rw[e] at this;cases this
    §absurd rfl (d2 _)
   ·rw[z,ha] at e;cases e
    §absurd rfl (d1 _ _)
  have nsK:∀ {b:Ç}{m:Str->Option Ä},s₁.heap.Ns b m->(H31 s₁.heap H).Ns b m:=λ{b m} ⟨o,es,ep,e,d,r⟩=>⟨o,es,ep,I60 e (plainN e (λxs n z=>by rw[d] at z;cases z) λxs z=>by rw[d] at z;cases z),d,r⟩
  have hKb:K.In (H31 s₁.heap H):=λb o e=>I60 (KX b o e) (by
   rcases hO b with z | z | ⟨z,xs,z2⟩
   ·§z
   ·rw[(hT b z).2.1] at e;cases e
   ·rw[z] at e z2
    rw[hK (by rw[z2];§λy=>nomatch y)] at e;cases e)
  have hM:Mod K mg (H31 s₁.heap H):=⟨hKb,nsK hns,⟨mb,nsK hb,hbb⟩,let ⟨mc,h1,h2⟩:=hlim;⟨mc,nsK h1,h2⟩⟩
  have hBM:BMain mg (H31 s₁.heap H):=by
   ¶⟨bm,ob,b1,b2,b3,b4,b5,b6⟩:=bmn
   §⟨bm,ob,b1,b2,I60 b3 (plainN b3 (λxs n z=>by rw[b6] at z;cases z) λxs z=>by rw[b6] at z;cases z),b4,b5,b6⟩
  have e0:Y41 P w K mg (H31 s₁.heap H) Ý4 [] s₁ H:=⟨rfl,hM,λb o e=>X61 e,Ú8 (q41 _ _),trivial,λb hb=>absurd (show b∈([]:List Ç) from hb) (by simp),hok,.of_eq hg⟩
  ¤È3 ((F _ hKb (nsK hns) hBM).run Ý4 [] s₁ H ⟨[.ref a],[]⟩ [.ref a] [.ref a] _ _ hr e0 (hbind s₁ (.ref a)) (.cons rfl .nil) (hsp H hH hS)) λr s' h=>?_
  cases r with
  |error e=>§À3 h
  |ok fl =>
   cases fl with
   |next=>§À3 h
   |brk=>§À3 h
   |cont=>§À3 h
   |ret u =>
    ¶⟨v,H',os,bare,un,hok',r',q⟩:=h
    have q':v=.bl true:=q
    subst q'
    obtain rfl:u=Ï0 true:=r'
    ¤⟨rfl,⟨λb o e=>?_,λb o e=>un.there b o e (by simp)⟩,os,bare⟩
    rcases hO b with z | z | ⟨z,xs,z2⟩
    ·§.inl (un.keep b o e z (by intro y;§absurd (show b∈([]:List Ç) from y) (by simp)) (by simp))
    ·¶⟨t1,_,c,t2⟩:=hT b z
     rw[e] at t1;cases t1
     ¶⟨more,m1⟩:=un.tbls b _ (hH b z)
     have m2:s'.heap.get? b=some { cls:=.none,data:=.fields (#[]++more) }:=hok' b _ m1
     have CH:=codeHd_of_K KX t2
     §.inr (.inl ⟨(CH.tab e).isCodeTable,rfl,#[],more,rfl,m2⟩)
    ·have z3:=un.frzs b _ _ z2
     ¶⟨e1,_⟩:=hok b _ z2
     ¶⟨e2,_⟩:=hok' b _ z3
     rw[e] at e1;cases e1
     §.inl e2
 cases hk:K.lookup a with
 |some o =>
  have e:=KX a o hk
  rw[ha] at e
  cases e
  ¤core (λb=>if b∈ts then some (.tbl #[]) else none) (λPt h=>if_pos h) (λb=>?_) (.inr ⟨vs.toArray,_,hk,by rw[Ó,lenV];§hl,by simpa using rv⟩) (λb u z=>?_) λz=>absurd (if_neg naT) z
  ·by_cases h:b∈ts
   ·§.inr (.inl h)
   ·§.inl (if_neg h)
  ·by_cases h:b∈ts
   ·have z':=(if_pos h).symm.trans z
    cases z'
    §(hT b h).1
   ·have z':=(if_neg h).symm.trans z
    cases z'
 |none =>
  ¤core (λb=>if b=a then some (.frz { cls:=.type "list",data:=.seq vs.toArray } (.lst (ns.map V.int))) else if b∈ts then some (.tbl #[]) else none) (λPt h=>?_) (λb=>?_) (.inl (.inr ⟨{ cls:=.type "list",data:=.seq vs.toArray },if_pos rfl⟩)) (λb u z=>?_) λ_=>hk
  ·rw[if_neg (λy=>naT (by rw[← y];§h)),if_pos h]
  ·by_cases hb:b=a
   ·§.inr (.inr ⟨hb,_,if_pos hb⟩)
   ·by_cases h:b∈ts
    ·§.inr (.inl h)
    ·§.inl (by rw[if_neg hb,if_neg h])
  ·by_cases hb:b=a
   ·have z':=(if_pos hb).symm.trans z
    cases z'
    subst hb
    §⟨ha,by rw[É];§hl,vs,_,rv,ha⟩
   ·replace z:=(if_neg hb).symm.trans z
    by_cases h:b∈ts
    ·have z':=(if_pos h).symm.trans z
     cases z'
     §(hT b h).1
    ·have z':=(if_neg h).symm.trans z
     cases z'
÷P71{l:PySem.W.OpenLaw}{n k:Nat}{q:ß}{loose:List Str}{XP:(Str->Option Ä)->ì->Prop}{d:DefRec}{A:n90}{x:Str}
  (hn:l.most=some n) (hn2:n<=Û) (hdf:d.params.defaults=[]) (hr:A40 k Ý4)
  (F:∀ (w:ç) (mg:Str->Option Ä) (fa:Ç) (h:ì) (K:Â),Facts A K h->K.In h->h.Ns ã mg->mg d.name=some (.ref fa) ->
   ∃ (fd:Å2) (ts:List Ç) (sp:Sp),(∀ Pt∈ts,h.get? Pt=some (È5 #[])/\K.lookup Pt=none/\∃ c,Ä8 K c Pt=true)/\(∀ (s:Æ) (u:Ä),BindsTo s fd ⟨[u],[]⟩ [(x,u)]) /\
    (∀ base:ì,K.In base->base.Ns ã mg->BMain mg base->X20 l.prog w K mg base CX0 k fa fd [x] sp) /\
    ∀ (H:Hp) (a:Ç) (ns:List Int),ns.length<=n->(∀ Pt∈ts,H Pt=some (.tbl #[]))->q60 K H a (ns.map V.int)->sp [.ref a] H (λv _=>v=.bl true) λ_ _ _=>False) :
  PySem.W.WalkO q loose XP A.hook.says l.row.toRowW d [] (λf vs=>PySem.call f vs):=by
 ¤Att.Y20 hn hdf λw s₀ s₁ mg mb fa o pm cd doc a vs ns G Y ho hd hcd hmg hobj hints hlen hg=>?_
 ¶⟨K,KX,FX⟩:=Y
 ¶⟨fd,ts,sp,hT,hb,hF,hsp⟩:=F w mg fa _ K FX KX G.T.g hmg
 §C21 KX G.T.g G.T.b G.T.builtins G.T.nolimit hg hobj hints (Ñ hlen hn2) hr hT G.T.bmain hF hb λH hH hS=>hsp H a ns hlen hH hS
÷i22{l:PySem.W.OpenLaw}{rows:List Row}{nums:List (Str × Int)}{mn:List Str}{ex:List (Str × Å1)}{k iL n:Nat}{rL:Row}(ok:rows.all (l42 (G40 rows) nums)=true)(bd:p10 rows)(hL:rows[iL]?=some rL)(hn:rL.nm="law")(hp:rL.ps=[("_law_script":Str)])(hmn:mn.length<=1)(hR:y32 rows mn ex)
  (pure:∀ ns:List Int,ns.length<=n->b40 (tabOf rows) (k + 3) iL [.d (.lst (ns.map D.int))] none=some (.ok (.d (.bl true)) none)) (w:ç) (mg:Str->Option Ä) (fa:Ç) (h:ì) (K:Â) (Q:Facts (H60 rows nums mn ex) K h) (X:K.In h) (Gn:h.Ns ã mg) (hfa:mg "law"=some (.ref fa)) :
   ∃ (fd:Å2) (ts:List Ç) (sp:Sp),(∀ Pt∈ts,h.get? Pt=some (È5 #[])/\K.lookup Pt=none/\∃ c,Ä8 K c Pt=true)/\(∀ (s:Æ) (u:Ä),BindsTo s fd ⟨[u],[]⟩ [("_law_script",u)]) /\
    (∀ base:ì,K.In base->base.Ns ã mg->BMain mg base->X20 l.prog w K mg base CX0 (k + 3) fa fd ["_law_script"] sp) /\
    ∀ (H:Hp) (a:Ç) (ns:List Int),ns.length<=n->(∀ Pt∈ts,H Pt=some (.tbl #[]))->q60 K H a (ns.map V.int)->sp [.ref a] H (λv _=>v=.bl true) λ_ _ _=>False:=by
 have hrL:rL∈rows:=è hL
 ¶⟨fL,fdL,aL,FL,ocL,odL,slL,lkL⟩:=Q.fn (rL.nm,rL.st) (Æ5 _ (Ö.mpr ⟨rL,hrL,rfl⟩))
 have bL:=bd.at hrL
 have e:=hfa.symm.trans (mg_of X Gn (by rw[← hn];§aL))
 cases e
 have bT:∀ (s:Æ) (u:Ä),BindsTo s fdL ⟨[u],[]⟩ [("_law_script",u)]:=by
  ¶⟨_,_,kV,doc,pm,an,cdv,ct,_,e,_,_⟩:=FL.ex
  subst e
  intro s u
  have:=bL kV doc pm an cdv ct [u] (by rw[hp];rfl)
  rw[hp] at this
  §.of_eq this
 have fin:∀ (TB:Tb) (ts:List Ç),(∀ p∈TB.tb,p.1∈ts)->(∀ Pt∈ts,h.get? Pt=some (È5 #[])/\K.lookup Pt=none/\∃ c,Ä8 K c Pt=true)->M62 K rows ->
   ∃ (fd:Å2) (ts:List Ç) (sp:Sp),(∀ Pt∈ts,h.get? Pt=some (È5 #[])/\K.lookup Pt=none/\∃ c,Ä8 K c Pt=true)/\(∀ (s:Æ) (u:Ä),BindsTo s fd ⟨[u],[]⟩ [("_law_script",u)]) /\
    (∀ base:ì,K.In base->base.Ns ã mg->BMain mg base->X20 l.prog w K mg base CX0 (k + 3) fa fd ["_law_script"] sp) /\
    ∀ (H:Hp) (a:Ç) (ns:List Int),ns.length<=n->(∀ Pt∈ts,H Pt=some (.tbl #[]))->q60 K H a (ns.map V.int)->sp [.ref a] H (λv _=>v=.bl true) λ_ _ _=>False:=λTB ts h1 h2 h3=>by
  ¤⟨fdL,ts,λvs H Q _=>spF K (lev ⟨G40 rows,nums,λ_ _ _=>M.no,clsAt K,0⟩ (tabOf rows) (k + 3)) iL 1 vs H Q λ_ _ _=>False,h2,bT,λbase kb nb bm=>?_,λH a ns hl hH hS=>y12 (pure ns hl) (λp hp=>hH p.1 (h1 p hp)) hS⟩
  have F:=ok0 (y42 (P:=l.prog) (w:=w) X Gn Q ok bd bm hR h3 (λ_ _ _=>M.no) k hL FL ⟨fa,ocL,odL,slL,aL,lkL⟩)
  rw[hp] at F
  §F
 match mn,hmn,Q with
 |[],_,Q =>
  §fin ⟨[]⟩ [] (λp hp=>by cases hp) (λp hp=>by cases hp) λr hr hlm=>by
   have:=(hR r hr hlm).1
   cases this
 |[m],_,Q =>
  ¶⟨T,t1,t2,f,oc,od,fd,sl,c,t3,t4,t5,t6⟩:=Q.mt m (.head _)
  ¤fin ⟨[(T,P62 m)]⟩ [T] (λp hp=>?_) (λp hp=>?_) λr hr hlm fd' h'=>?_
  ·cases é.mp hp
   §.head _
  ·cases é.mp hp
   §⟨t1,t2,c,t6⟩
  ·have hm:r.nm=m:=é.mp (hR r hr hlm).1
   rw[hm] at h' ⊢
   ¶⟨f',oc',od',sl',e1,e2⟩:=h'
   rw[t3] at e1;cases e1
   rw[t4] at e2;cases e2
   §⟨c,T,P62 m,t5,t6,λ_ _ _ _=>rfl,.head _,λp hp _=>by cases é.mp hp;rfl⟩
end Q
namespace Q
open L2 (D)
open PySem (Paired)
def i21:Ex->Bool
 |.var _=>false
 |_=>true
def Y12:Ex->Env->Option (Option S)
 |.var i,ρ=>ρ[i]?
 |_,_=>none
def P72:Option (Option S)->Option S
 |some (some s)=>noS s
 |_=>none
def blS:S->Option Bool
 |.d (.bl b)=>some b
 |_=>none
abbrev Du{α:Type}(_:α->Z->Prop)(_:Nat->Z->Prop):Type:=Unit
abbrev Dv{α:Type}(_:α->Prop):Type:=Unit
structure W{α:Type}(m:M α)(z:Z)(Q:α->Z->Prop)(E:Nat->Z->Prop)(du:Du Q E:=()):Prop where
 ex:∃ r,m z=some r/\match r with
  |.ok a z1=>Q a z1
  |.er c z1=>E c z1
÷W_e{α:Type}{m:M α}{Q:α->Z->Prop}:W m z Q E↔∃ r,m z=some r/\match r with
  |.ok a z1=>Q a z1
  |.er c z1=>E c z1:=⟨W.ex,W.mk⟩
abbrev NE:Nat->Z->Prop:=λ_ _=>False
def Get{α:Type}(o:Option α)(P:α->Prop)(_:Dv P:=()):Prop:=match o with
 |some a=>P a
 |none=>False
÷y52{α:Type}{a:α}{P:α->Prop}:Get (some a) P↔P a:=Û0
÷j70{α:Type}{o:Option α}{P:α->Prop}(h:Get o P):∃ a,o=some a/\P a:=by
 cases o with
 |none=>§h.elim
 |some a=>§⟨a,rfl,h⟩
÷a00{α:Type}{o:Option α}{a:α}{P:α->Prop}(h:o=some a)(hp:P a):Get o P:=by rw[h];§hp
÷C31{α:Type}{o:Option α}{P P':α->Prop}(h:∀ a,P a↔P' a):Get o P↔Get o P':=by
 cases o with
 |none=>§Û0
 |some a=>§h a
section
variable {α β:Type}{m:M α}{z z1:Z}{Q Q':α->Z->Prop}{E E':Nat->Z->Prop}
÷W.mono(h:W m z Q E)(hq:∀ a z,Q a z->Q' a z)(he:∀ c z,E c z->E' c z):W m z Q' E':=by
 ¶⟨r,e,h⟩:=h
 ¤⟨r,e,?_⟩
 cases r with
 |ok a z1=>§hq _ _ h
 |er c z1=>§he _ _ h
÷W.imp(h:W m z Q NE)(hq:∀ a z,Q a z->Q' a z):W m z Q' E':=h.mono hq λ_ _ h=>h.elim
÷W.ok{a:α}(h:W m z (λb z2=>b=a/\z2=z1) NE):m z=some (.ok a z1):=by
 ¶⟨r,e,h⟩:=h
 cases r with
 |ok b z2=>¶⟨rfl,rfl⟩:=h;§e
 |er c z2=>§h.elim
÷W.er(h:W m z (λ_ _=>False) (λd z2=>d=c/\z2=z1)):m z=some (.er c z1):=by
 ¶⟨r,e,h⟩:=h
 cases r with
 |ok b z2=>§h.elim
 |er d z2=>¶⟨rfl,rfl⟩:=h;§e
÷P82{a:α}(h:m z=some (.ok a z1)):W m z Q E↔Q a z1:=by
 rw[W_e]
 constructor
 ·rintro ⟨r,e,q⟩
  rw[h] at e;cases e
  §q
 ·§λq=>⟨_,h,q⟩
÷Y22{c:Nat}(h:m z=some (.er c z1)):W m z Q E↔E c z1:=by
 rw[W_e]
 constructor
 ·rintro ⟨r,e,q⟩
  rw[h] at e;cases e
  §q
 ·§λq=>⟨_,h,q⟩
÷A30{a:α}:W (M.ret a) z Q E↔Q a z:=P82 rfl
÷y62:W (M.no:M α) z Q E↔False:=⟨λ⟨_,e,_⟩=>(by cases e),À3⟩
÷p20{f:α->M β}{Q:β->Z->Prop}:W (M.bind m f) z Q E↔W m z (λa z1=>W (f a) z1 Q E) E:=by
 constructor
 ·rintro ⟨r,e,q⟩
  unfold M.bind at e
  split at e
  ·rename_i a z1 e1
   §⟨_,e1,r,e,q⟩
  ·rename_i c z1 e1
   cases e
   §⟨_,e1,q⟩
  ·cases e
 ·rintro ⟨r,e,q⟩
  cases r with
  |ok a z1 =>
   ¶⟨r,e2,q⟩:=q
   ¤⟨r,?_,q⟩
   unfold M.bind;rw[e];§e2
  |er c z1 =>
   ¤⟨.er c z1,?_,q⟩
   unfold M.bind;rw[e]
÷V81:W (M.calm m) z Q E↔W m z Q NE:=by
 rw[W_e,W_e]
 unfold M.calm
 constructor
 ·rintro ⟨r,e,q⟩
  split at e
  ·rename_i a z1 e1
   cases e
   §⟨_,e1,q⟩
  ·cases e
 ·rintro ⟨r,e,q⟩
  cases r with
  |ok a z1=>§⟨.ok a z1,by rw[e],q⟩
  |er c z1=>§q.elim
÷i32(h:∀ a z,Q a z↔Q' a z):W m z Q E↔W m z Q' E:=⟨λx=>x.mono (λa z=>(h a z).mp) λ_ _ h=>h,λx=>x.mono (λa z=>(h a z).mpr) λ_ _ h=>h⟩
÷wR{a:α}:Q a z↔W (M.ret a) z Q E:=A30.symm
÷wN:False↔W (M.no:M α) z Q E:=y62.symm
÷wT{c:Prop}[Decidable c]{a b:M α}{A B:Prop}(h1:A↔W a z Q E)(h2:B↔W b z Q E):(if c then A else B)↔W (if c then a else b) z Q E:=by
 split <;> assumption
÷wG{o:Option β}{f:β->M α}{K:β->Prop}(h:∀ a,K a↔W (f a) z Q E):Get o K↔W (M.bind (M.of o) f) z Q E:=by
 cases o with
 |none=>§y62.symm
 |some a=>§h a
÷wB{m:M β}{f:β->M α}{V:Prop}{K:β->Z->Prop}(h1:V↔W m z K E)(h2:∀ a z1,K a z1↔W (f a) z1 Q E):V↔W (M.bind m f) z Q E:=h1.trans ((i32 h2).trans p20.symm)
end
def Wm{α:Type}(o:Option (R α))(Q:α->Z->Prop)(E:Nat->Z->Prop):Prop:=match o with
 |some (.ok a z1)=>Q a z1
 |some (.er c z1)=>E c z1
 |none=>False
÷wM{α:Type}{m:M α}{z:Z}{Q:α->Z->Prop}{E:Nat->Z->Prop}:Wm (m z) Q E↔W m z Q E:=by
 rw[W_e]
 unfold Wm
 cases h:m z with
 |none=>§⟨À3,λ⟨_,e,_⟩=>by cases e⟩
 |some r =>
  ¤⟨λq=>⟨r,rfl,?_⟩,λ⟨_,e,q⟩=>?_⟩
  ·cases r <;> §q
  ·cases e;cases r <;> §q
def Vr(o:Option (Option S))(z:Z)(Q:List S->Z->Prop)(_:Du Q NE:=()):Prop:=match o with
 |some (some s)=>Q [plS s] z
 |_=>False
def WV:FT->Ex->Env->Z->(List S->Z->Prop)->(Nat->Z->Prop)->Prop
 |F,.nil=>λρ z Q E=>Q [] z
 |F,.cons a r=>λρ z Q E=>WV F a ρ z (λx z1=>Get (one x) λs=>WV F r ρ z1 (λy z2=>Q (s::y) z2) E) E
 |F,.con x=>λρ z Q E=>Q [.d x] z
 |F,.gint g i=>λρ z Q E=>Q [.d (.int i)] z
 |F,.tup as=>λρ z Q E=>WV F as ρ z (λl z1=>Get (plA l) λds=>if ds.length<=most then Q [.d (.tup ds)] z1 else False) E
 |F,.lst as=>λρ z Q E=>WV F as ρ z (λl z1=>Get (plA l) λds=>if ds.length<=most then Q [.fr ds] z1 else False) E
 |F,.bin o a b=>λρ z Q E=>WV F a ρ z (λx z1=>Get (pl x) λdx=>WV F b ρ z1 (λy z2=>Get (pl y) λdy=>Get (A60 o dx dy) λs=>Q [s] z2) E) E
 |F,.cmp o a b=>λρ z Q E=>WV F a ρ z (λx z1=>Get (pl x) λdx=>WV F b ρ z1 (λy z2=>Get (pl y) λdy=>Get (A70 o dx dy) λt=>Q [.d (.bl t)] z2) E) E
 |F,.neg a=>λρ z Q E=>WV F a ρ z (λx z1=>Get ((pl x).bind asI) λi=>Q [.d (.int (-i))] z1) E
 |F,.not a=>λρ z Q E=>WV F a ρ z (λx z1=>Get ((pl x).bind asB) λb=>Q [.d (.bl !b)] z1) E
 |F,.and a b=>λρ z Q E=>WV F a ρ z (λx z1=>Get ((pl x).bind asB) λc=>if c then WV F b ρ z1 (λy z2=>Get ((pl y).bind asB) λc=>Q [.d (.bl c)] z2) E else Q [.d (.bl false)] z1) E
 |F,.or a b=>λρ z Q E=>WV F a ρ z (λx z1=>Get ((pl x).bind asB) λc=>if c then Q [.d (.bl true)] z1 else WV F b ρ z1 (λy z2=>Get ((pl y).bind asB) λc=>Q [.d (.bl c)] z2) E) E
 |F,.orT a b=>λρ z Q E=>WV F a ρ z (λx z1=>Get ((pl x).bind r22) λl=>if l.isEmpty then WV F b ρ z1 (λy z2=>Get ((pl y).bind r22) λl=>Q [.d (.tup l)] z2) NE else Q [.d (.tup l)] z1) NE
 |F,.ite c a b=>λρ z Q E=>WV F c ρ z (λx z1=>Get ((pl x).bind asB) λc=>if c then WV F a ρ z1 Q E else WV F b ρ z1 Q E) E
 |F,.ch o o' a b c=>λρ z Q E=>WV F a ρ z (λx z1=>Get (pl x) λdx=>WV F b ρ z1 (λy z2=>Get (pl y) λdy=>Get (A70 o dx dy) λt=>if t then WV F c ρ z2 (λw z3=>Get (pl w) λdw=>Get (A70 o' dy dw) λt=>Q [.d (.bl t)] z3) E else Q [.d (.bl false)] z2) E) E
 |F,.bf f as=>λρ z Q E=>WV F as ρ z (λl z1=>Get (plA l) λds=>Get (bfD f ds) λs=>Q [s] z1) E
 |F,.isi t a=>λρ z Q E=>WV F a ρ z (λx z1=>Get (pl x) λx=>Q [.d (.bl (U11 t x))] z1) E
 |F,.idx a i=>λρ z Q E=>WV F a ρ z (λx z1=>Get (pl x) λdx=>WV F i ρ z1 (λy z2=>Get (pl y) λdy=>Get (Z60 dx dy) λr=>Q [.d r] z2) E) E
 |F,.sl a lo hi=>λρ z Q E=>WV F a ρ z (λx z1=>Get (pl x) λdx=>WV F lo ρ z1 (λu z2=>Get (w21 u) λu=>WV F hi ρ z2 (λv z3=>Get (w21 v) λv=>Get (slD dx u v) λs=>Q [s] z3) E) E) E
 |F,.rev a=>λρ z Q E=>WV F a ρ z (λx z1=>Get ((pl x).bind O92) λs=>Q [s] z1) E
 |F,.call f as=>λρ z Q E=>WV F as ρ z (λl z1=>W (F false f (l.map plS)) z1 (λs z2=>Q [s] z2) E) E
 |F,.comp own capt p it src cond el=>λρ z Q E=>WV F src ρ z (λl z1=>Get ((plA l).bind (itD it)) λxs=>if xs.length<=most then W (turns (o80 (ev F cond) (ev F el) p (í own none++capt.map λi=>(ρ[i]?).getD none)) xs) z1 (λys z2=>Q [.fr ys] z2) NE else False) E
 |F,.lrng b as=>λρ z Q E=>WV F as ρ z (λl z1=>Get ((plA l).bind lrD) λxs=>Q [lrS b xs] z1) E
 |F,.refd capt a=>λρ z Q E=>Get (M91 ρ capt) λss=>WV (λ_=>F true) a (ss.map some) z (λ_ _=>False) (λc z1=>if c < 12 then Q [.fr [.int c]] z1 else False)
 |F,.var i=>λρ z Q E=>Vr ρ[i]? z Q
 |F,.zget i k=>λρ z Q E=>Wm (w31 k ρ[i]? z) Q E
def WE(F:FT)(e:Ex)(ρ:Env)(z:Z)(Q:List S->Z->Prop)(E:Nat->Z->Prop)(_:Du Q E:=()):Prop:=WV F e ρ z Q E
def WX(F:FT)(tp:Bool):Sm->Env->Z->(O->Z->Prop)->(Nat->Z->Prop)->Prop
 |.nil=>λρ z Q E=>Q (.nx ρ) z
 |.seq s r=>λρ z Q E=>WX F tp s ρ z (λo z1=>match o with
  |.nx ρ=>WX F tp r ρ z1 Q E
  |.rt s=>Q (.rt s) z1) E
 |.set p e=>λρ z Q E=>WE F e ρ z (λl z1=>Get (one l) λs=>Get (S30 p s (k90 s ρ)) λρ'=>Q (.nx ρ') z1) E
 |.ret e=>λρ z Q E=>if i21 e then WE F e ρ z (λl z1=>Get ((one l).bind noS) λs=>Q (.rt s) z1) E else Get (P72 (Y12 e ρ)) λs=>Q (.rt s) z
 |.iff c t e=>λρ z Q E=>WE F c ρ z (λx z1=>Get ((pl x).bind asB) λb=>if b then WX F tp t ρ z1 Q E else WX F tp e ρ z1 Q E) E
 |.exp e=>λρ z Q E=>WE F e ρ z (λl z1=>Get (one l) λ_=>Q (.nx ρ) z1) E
 |.rais c=>λρ z Q E=>E c z
 |.fr p it src b=>λρ z Q E=>WE F src ρ z (λl z1=>Get ((plA l).bind (itD it)) λxs=>W (X40 (λx ρ=>M.bind (M.of (e70 p x ρ)) λρ=>ex F tp b ρ) xs (w41 it src l ρ)) z1 Q E) E
 |.whl c b=>λρ z Q E=>W (U21 (ev F c) (ex F tp b) k92 ρ) z Q E
 |.zset i e=>λρ z Q E=>WE F e ρ z (λl z1=>Get ((pl l).bind asI) λv=>Wm (w61 ρ v ρ[i]? z1) Q E) E
 |.app i e=>λρ z Q E=>Get (ownAt ρ i) λxs=>WE F e ρ z (λl z1=>Get (pl l) λx=>if bare x=true/\xs.length < most then Q (.nx (ρ.set i (some (.fr (xs++[x]))))) z1 else False) E
 |.apop i j e=>λρ z Q E=>Get (ownAt ρ i) λxs=>Get (ownAt ρ j) λys=>WE F e ρ z (λl z1=>Get ((pl l).bind asI) λk=>Get (c92 ρ i j xs ys k) λo=>Q o z1) E
 |.newz i f as=>λρ z Q E=>WE F (.call f as) ρ z (λl z1=>Wm (w51 tp ρ i l) Q E) E
 |.augi i ix e=>λρ z Q E=>Get (ownAt ρ i) λxs=>WE F ix ρ z (λj z1=>Get ((pl j).bind asI) λj=>Get (L2.atI xs j) λy=>WE F e ρ z1 (λl z2=>Get (pl l) λx=>Get ((asI x).bind λx=>(asI y).map λy=>D.int (y + x)) λv=>Get (H00 xs j v) λxs=>Q (.nx (ρ.set i (some (.fr xs)))) z2) E) E
def WS(F:FT)(tp:Bool)(s:Sm)(ρ:Env)(z:Z)(Q:O->Z->Prop)(E:Nat->Z->Prop)(_:Du Q E:=()):Prop:=WX F tp s ρ z Q E
÷y72:W (ev F (.refd capt a) ρ) z Q E↔Get (M91 ρ capt) λss=>W (ev (n40 F) a (ss.map some)) z (λ_ _=>False) (λc z1=>if c < 12 then Q [.fr [.int c]] z1 else False):=by
 show W (r42 (M91 ρ capt) λρ'=>ev (n40 F) a ρ') z Q E↔_
 rw[W_e]
 unfold r42
 constructor
 ·rintro ⟨r,e,q⟩
  split at e
  ·cases e
  ·rename_i ss h1
   split at e
   ·rename_i c z1 h2
    split at e
    ·rename_i h3
     cases e
     ¤a00 h1 ⟨_,h2,?_⟩
     dsimp only
     rw[if_pos h3];§q
    ·cases e
   ·cases e
 ·intro h
  ¶⟨ss,h1,r,h2,q⟩:=j70 h
  cases r with
  |ok a z1=>§q.elim
  |er c z1 =>
   dsimp only at q
   split at q
   ·rename_i h3
    ¤⟨.ok [.fr [.int c]] z1,?_,q⟩
    rw[h1]
    dsimp only
    rw[h2]
    dsimp only
    rw[if_pos h3]
   ·§q.elim
÷y82:∀ (e:Ex) {F:FT}{ρ:Env}{z:Z}{Q:List S->Z->Prop}{E:Nat->Z->Prop},WV F e ρ z Q E↔W (ev F e ρ) z Q E:=by
 intro e
 induction e with
 |nil=>intros;§wR
 |cons a r ha hr=>intros;§wB ha λx z1=>wG λs=>wB hr λy z2=>wR
 |var i =>
  intro F ρ z Q E
  show Vr ρ[i]? z Q↔W (match ρ[i]? with | some (some s)=>M.ret [plS s] | _=>M.no) z Q E
  generalize ρ[i]?=o
  match o with
  |some (some s)=>§wR
  |some none=>§wN
  |none=>§wN
 |con x=>intros;§wR
 |gint g i=>intros;§wR
 |tup a ha=>intros;§wB ha λl z1=>wG λds=>wT wR wN
 |lst a ha=>intros;§wB ha λl z1=>wG λds=>wT wR wN
 |bin o a b ha hb=>intros;§wB ha λx z1=>wG λdx=>wB hb λy z2=>wG λdy=>wG λs=>wR
 |cmp o a b ha hb=>intros;§wB ha λx z1=>wG λdx=>wB hb λy z2=>wG λdy=>wG λs=>wR
 |neg a ha=>intros;§wB ha λx z1=>wG λi=>wR
 |not a ha=>intros;§wB ha λx z1=>wG λi=>wR
 |and a b ha hb=>intros;§wB ha λx z1=>wG λc=>wT (wB hb λy z2=>wG λc=>wR) wR
 |or a b ha hb=>intros;§wB ha λx z1=>wG λc=>wT wR (wB hb λy z2=>wG λc=>wR)
 |orT a b ha hb=>intros;¤Iff.trans ?_ V81.symm;§wB ha λx z1=>wG λl=>wT (wB hb λy z2=>wG λl=>wR) wR
 |ite c a b hc ha hb=>intros;§wB hc λx z1=>wG λc=>wT ha hb
 |ch o o' a b c ha hb hc=>intros;§wB ha λx z1=>wG λdx=>wB hb λy z2=>wG λdy=>wG λt=>wT (wB hc λw z3=>wG λdw=>wG λt=>wR) wR
 |bf f a ha=>intros;§wB ha λl z1=>wG λds=>wG λs=>wR
 |isi t a ha=>intros;§wB ha λx z1=>wG λx=>wR
 |idx a i ha hi=>intros;§wB ha λx z1=>wG λdx=>wB hi λy z2=>wG λdy=>wG λr=>wR
 |sl a l h ha hl hh=>intros;§wB ha λx z1=>wG λdx=>wB hl λu z2=>wG λu=>wB hh λv z3=>wG λv=>wG λs=>wR
 |rev a ha=>intros;§wB ha λx z1=>wG λs=>wR
 |call f a ha=>intros;§wB ha λl z1=>wB Û0 λs z2=>wR
 |comp own capt p it src cond el hs hc he=>intros;§wB hs λl z1=>wG λxs=>wT (wB V81.symm λys z2=>wR) wN
 |zget i k=>intros;§wM (m:=w31 k _)
 |lrng b a ha=>intros;§wB ha λl z1=>wG λxs=>wR
 |refd capt a ha=>intros;§(C31 λss=>ha).trans y72.symm
÷c50{e:Ex}{F:FT}{ρ:Env}{z:Z}{Q:List S->Z->Prop}{E:Nat->Z->Prop}:WE F e ρ z Q E↔W (ev F e ρ) z Q E:=y82 e
÷M72{F:FT}{tp:Bool}{ρ:Env}{e:Ex}(h:i21 e=true):ex F tp (.ret e) ρ=M.bind (ev F e ρ) λl=>M.bind (M.of ((one l).bind noS)) λs=>M.ret (.rt s):=by
 cases e with
 |var i=>cases h
 |_=>rfl
÷y92{F:FT}{tp:Bool}:∀ (s:Sm) {ρ:Env}{z:Z}{Q:O->Z->Prop}{E:Nat->Z->Prop},WX F tp s ρ z Q E↔W (ex F tp s ρ) z Q E:=by
 intro s
 induction s with
 |nil=>intros;§wR
 |seq s r hs hr =>
  intros
  ¤wB hs λo z1=>?_
  cases o with
  |nx ρ=>§hr
  |rt s=>§wR
 |set p e=>intros;§wB c50 λl z1=>wG λs=>wG λρ'=>wR
 |ret e =>
  intro ρ z Q E
  show(if i21 e then _ else _)↔_
  cases h:i21 e with
  |true =>
   ¤(iff_of_eq (if_pos rfl)).trans ?_
   rw[M72 h]
   §wB c50 λl z1=>wG λs=>wR
  |false =>
   cases e with
   |var i =>
    ¤(iff_of_eq (if_neg Ð)).trans ?_
    show Get (P72 ρ[i]?) _↔W (match ρ[i]? with | some (some s)=>M.bind (M.of (noS s)) λs=>M.ret (O.rt s) | _=>M.no) z Q E
    generalize ρ[i]?=o
    match o with
    |some (some s)=>§wG λs=>wR
    |some none=>§wN
    |none=>§wN
   |_=>cases h
 |iff c t u ht hu=>intros;§wB c50 λx z1=>wG λc=>wT ht hu
 |exp e=>intros;§wB c50 λl z1=>wG λs=>wR
 |rais c=>intros;§(Y22 rfl).symm
 |fr p it src b ih=>intros;§wB c50 λl z1=>wG λxs=>Û0
 |whl c b ih=>intros;§Û0
 |zset i e=>intros;§wB c50 λl z1=>wG λv=>wM (m:=w61 _ v _)
 |app i e=>intros;§wG λxs=>wB c50 λl z1=>wG λx=>wT wR wN
 |apop i j e=>intros;§wG λxs=>wG λys=>wB c50 λl z1=>wG λk=>wG λo=>wR
 |newz i f as=>intros;§wB c50 λl z1=>wM (m:=λ_=>w51 tp _ i l)
 |augi i ix e=>intros;§wG λxs=>wB c50 λj z1=>wG λj=>wG λy=>wB c50 λl z2=>wG λx=>wG λv=>wG λxs=>wR
÷U30:WS F tp s ρ z Q E↔W (ex F tp s ρ) z Q E:=y92 s
÷WS.mono{s:Sm}{F:FT}{tp:Bool}{ρ:Env}{z:Z}{Q Q':O->Z->Prop}{E E':Nat->Z->Prop}(h:WS F tp s ρ z Q E)(hq:∀ a z,Q a z->Q' a z)(he:∀ c z,E c z->E' c z):WS F tp s ρ z Q' E':=U30.mpr (W.mono (U30.mp h) hq he)
÷i42(Mid:Env->Z->Prop)(h:WS F tp s ρ z (λo z1=>match o with
  |.nx ρ=>Mid ρ z1
  |.rt s=>Q (.rt s) z1) E) (h2:∀ ρ z,Mid ρ z->WS F tp r ρ z Q E):WS F tp (.seq s r) ρ z Q E:=by
 ¤WS.mono (s:=s) h (λo z1 h=>?_) λ_ _ h=>h
 cases o with
 |nx ρ=>§h2 ρ z1 h
 |rt s=>§h
section
variable {T:List Df}{k f ps ns:Nat}{b:Sm}{l:List S}{z:Z}{Q:S->Z->Prop}{E:Nat->Z->Prop}
÷z02(h:T[f]?=some (.code ps ns b))(hl:l.length=ps)(hn:ps<=ns):W (b40 T (k + 3) f l) z Q E↔WS (H10 T (k + 2)) z.isNone b (start ns (l.map plS)) z (λo z1=>match o with
  |.nx _=>Q (.d .non) (L40 z z1)
  |.rt s=>Q s (L40 z z1)) λc z1=>E c (L40 z z1):=by
 ¤Iff.trans ?_ U30.symm
 rw[Z80,h]
 show W (λz=>if l.length=ps/\ps<=ns then(match ex (H10 T (k + 2)) z.isNone b (start ns (l.map plS)) z with
  |some (.ok (.nx _) z1)=>some (R.ok (S.d .non) (L40 z z1))
  |some (.ok (.rt s) z1)=>some (.ok s (L40 z z1))
  |some (.er c z1)=>some (.er c (L40 z z1))
  |none=>none) else none) z Q E↔_
 rw[W_e,W_e]
 constructor
 ·rintro ⟨r,e,q⟩
  rw[if_pos ⟨hl,hn⟩] at e
  split at e
  ·rename_i ρ z1 e1
   cases e
   §⟨_,e1,q⟩
  ·rename_i s z1 e1
   cases e
   §⟨_,e1,q⟩
  ·rename_i c z1 e1
   cases e
   §⟨_,e1,q⟩
  ·cases e
 ·rintro ⟨r,e,q⟩
  rw[if_pos ⟨hl,hn⟩,e]
  match r,q with
  |.ok (.nx ρ) z1,q=>§⟨_,rfl,q⟩
  |.ok (.rt s) z1,q=>§⟨_,rfl,q⟩
  |.er c z1,q=>§⟨_,rfl,q⟩
end
section
variable {F:FT}{tp:Bool}{ρ:Env}{z:Z}{E:Nat->Z->Prop}
÷b71{f:D->M (Option D)}{o:D->Option D}:∀ {xs:List D}{Q:List D->Z->Prop},(∀ x∈xs,f x z=some (.ok (o x) z))->(W (turns f xs) z Q E↔Q (xs.filterMap o) z)
 |[],Q,_=>A30
 |x::r,Q,h=>by
  show W (M.bind (f x) _) z Q E↔_
  rw[p20,P82 (h x Ì),p20,b71 λy hy=>h y (È _ hy),A30]
  rw[Á4]
  cases o x <;> rfl
÷i31{f:D->M (Option D)}{I:Z->Prop}{P:D->D->Prop}:∀ {xs:List D}{z:Z}{Q:List D->Z->Prop},I z->(∀ x∈xs,∀ z,I z->W (f x) z (λo z1=>I z1/\∃ y,o=some y/\P x y) NE)->(∀ ys z1,I z1->Å9 P xs ys->Q ys z1)->W (turns f xs) z Q E
 |[],z,Q,hi,_,q=>A30.mpr (q [] z hi .nil)
 |x::r,z,Q,hi,h,q=>by
  show W (M.bind (f x) _) z Q E
  rw[p20]
  ¤(h x Ì z hi).imp λo z1 ⟨hi1,y,e,hp⟩=>?_
  subst e
  rw[p20]
  ¤i31 hi1 (λx' hx'=>h x' (È _ hx')) λys z2 hi2 hps=>?_
  §A30.mpr (q _ _ hi2 (.cons hp hps))
÷V91(I:List D->Env->Z->Prop):∀ (xs:List D) {ρ:Env}{z:Z},I xs ρ z->(∀ x r ρ z,I (x::r) ρ z->W (f x ρ) z (λo z1=>match o with
  |.nx ρ=>I r ρ z1
  |.rt s=>Q (.rt s) z1) E)->(∀ ρ z,I [] ρ z->Q (.nx ρ) z)->W (X40 f xs ρ) z Q E
 |[],ρ,z,hi,_,q=>A30.mpr (q _ _ hi)
 |x::r,ρ,z,hi,h,q=>by
  show W (M.bind (f x ρ) _) z Q E
  rw[p20]
  ¤(h x r ρ z hi).mono (λo z1 ho=>?_) λ_ _ h=>h
  cases o with
  |nx ρ1=>§V91 I r ho h q
  |rt s=>§A30.mpr ho
÷z12{c:Env->M (List S)}{f:Env->M O}{Q:O->Z->Prop}(I:Nat->Env->Z->Prop)(step:∀ n ρ z,I n ρ z->W (c ρ) z (λx z1=>Get ((pl x).bind asB) λk=>if k then W (f ρ) z1 (λo z2=>match o with
  |.nx ρ=>∃ m,m < n/\I m ρ z2
  |.rt s=>Q (.rt s) z2) E else Q (.nx ρ) z1) E):∀ (n m:Nat) {ρ:Env}{z:Z},I n ρ z->n < m->W (U21 c f m ρ) z Q E:=by
 intro n
 induction n using Nat.strongRecOn with
 |ind n ih =>
  intro m ρ z hi hm
  cases m with
  |zero=>omega
  |succ m =>
   show W (M.bind (c ρ) _) z Q E
   rw[p20]
   ¤(step n ρ z hi).mono (λx z1 h=>?_) λ_ _ h=>h
   ¶⟨k,e,h⟩:=j70 h
   ¤(wG (K:=λk=>if k=true then W (M.bind (f ρ) _) z1 Q E else W (M.ret (O.nx ρ)) z1 Q E) λk=>wT Û0 Û0).mp (a00 e ?_)
   cases k with
   |true =>
    rw[if_pos rfl] at h ⊢
    rw[p20]
    ¤h.mono (λo z2 h=>?_) λ_ _ h=>h
    cases o with
    |nx ρ1 =>
     ¶⟨j,hj,hi⟩:=h
     §ih j hj m hi (by omega)
    |rt s=>§A30.mpr h
   |false =>
    rw[if_neg Ð] at h ⊢
    §A30.mpr h
end
mutual
noncomputable def cE:D->Ex
 |.tup l=>.tup (cEs l)
 |.lst l=>.lst (cEs l)
 |.int i=>if i < 0 then .neg (.con (.int (-i))) else .con (.int i)
 |x=>.con x
noncomputable def cEs:List D->Ex
 |[]=>.nil
 |x::r=>.cons (cE x) (cEs r)
end
mutual
noncomputable def okC:D->Bool
 |.tup l=>decide (l.length<=most)&&M82 l
 |.lst l=>decide (l.length<=most)&&M82 l
 |_=>true
noncomputable def M82:List D->Bool
 |[]=>true
 |x::r=>okC x&&M82 r
end
def cX(d:D)(_:okC d=true):Ex:=cE d
section
variable {F:FT}{ρ:Env}{z:Z}{Q:List S->Z->Prop}{E:Nat->Z->Prop}{a b c as:Ex}{p:Pat}{ρ0:Env}{x:D}{Q1:Option D->Z->Prop}
÷C41:W (o80 (ev F .nil) (ev F a) p ρ0 x) z Q1 E↔Get (e70 p x ρ0) λρ=>WE F a ρ z (λy z1=>Get (pl y) λd=>Q1 (some d) z1) E :=
 (wG λρ=>show _↔W (M.bind (ev F a ρ) λy=>M.bind (M.of (pl y)) λy=>M.ret (some y)) z Q1 E from wB c50 λy z1=>wG λd=>wR).symm
÷z22{l:List S}{m:M (List S)}{V:Prop}(h:V↔W (M.bind m λy=>M.bind (M.of (pl y)) λy=>M.ret (some y)) z Q1 E):(match l with | [s]=>Get (blS s) λb=>if b then V else Q1 none z | _=>l=[]/\V)↔W (match l with
  |[]=>M.bind m λy=>M.bind (M.of (pl y)) λy=>M.ret (some y)
  |[.d (.bl true)]=>M.bind m λy=>M.bind (M.of (pl y)) λy=>M.ret (some y)
  |[.d (.bl false)]=>M.ret none
  |_=>M.no) z Q1 E:=by
 match l with
 |[]=>§⟨λx=>h.mp x.2,λx=>⟨rfl,h.mpr x⟩⟩
 |[.d (.bl true)]=>§y52.trans ((iff_of_eq (if_pos rfl)).trans h)
 |[.d (.bl false)]=>§y52.trans ((iff_of_eq (if_neg Ð)).trans wR)
 |[.d .non]=>§wN
 |[.d (.int _)]=>§wN
 |[.d (.str _)]=>§wN
 |[.d (.tup _)]=>§wN
 |[.d (.lst _)]=>§wN
 |[.d .dct]=>§wN
 |[.fr _]=>§wN
 |[.z]=>§wN
 |s::_::_ =>
  ¤⟨λx=>(by cases x.1),λx=>?_⟩
  cases s with
  |d y =>
   cases y with
   |bl b=>cases b <;> §(y62.mp x).elim
   |_=>§(y62.mp x).elim
  |_=>§(y62.mp x).elim
÷C51:W (o80 (ev F (.cons c .nil)) (ev F a) p ρ0 x) z Q1 E↔Get (e70 p x ρ0) λρ=>WE F c ρ z (λy z1=>Get (one y) λs=>Get (blS s) λb=>if b then WE F a ρ z1 (λy z2=>Get (pl y) λd=>Q1 (some d) z2) E else Q1 none z1) E:=by
 ¤Iff.symm (wG λρ=>?_)
 ¤wB (c50 (F:=F) (e:=.cons c .nil) (ρ:=ρ) (Q:=λl z1=>match l with | [s]=>Get (blS s) λb=>if b then WE F a ρ z1 (λy z2=>Get (pl y) λd=>Q1 (some d) z2) E else Q1 none z1 | _=>l=[]/\WE F a ρ z1 (λy z2=>Get (pl y) λd=>Q1 (some d) z2) E)) λl z1=>?_
 §z22 (wB c50 λy z1=>wG λd=>wR)
end
section
variable {α:Type}{m:M α}{z z1:Z}{Q Q':α->Z->Prop}{E:Nat->Z->Prop}
÷Wo(h:m z=some (.ok a z1))(q:Q a z1):W m z Q E:=⟨_,h,q⟩
÷We(h:m z=some (.er c z1))(q:E c z1):W m z Q E:=⟨_,h,q⟩
end
÷g60{T:List Df}{k f ps ns:Nat}{b:Sm}{l:List S}{z:Z}{Q:S->Z->Prop}{E:Nat->Z->Prop}(h:T[f]?=some (.code ps ns b))(hl:l.length=ps)(hn:ps<=ns)(q:WS (H10 T (k + 2)) z.isNone b (start ns (l.map plS)) z (λo z1=>match o with
  |.nx _=>Q (.d .non) (L40 z z1)
  |.rt s=>Q s (L40 z z1)) λc z1=>E c (L40 z z1)):W (b40 T (k + 3) f l) z Q E:=(z02 h hl hn).mpr q
÷ib{b:Bool}{A B:Prop}(ht:b=true->A)(hf:b=false->B):if b=true then A else B:=by
 cases b with
 |true=>§ht rfl
 |false=>§hf rfl
÷it{b:Bool}{A B:Prop}(h:b=true)(a:A):if b=true then A else B:=by rw[if_pos h];§a
÷ie{b:Bool}{A B:Prop}(h:b=false)(a:B):if b=true then A else B:=by rw[h];§a
÷ip{c:Prop}[Decidable c]{A B:Prop}(h:c)(a:A):if c then A else B:=by rw[if_pos h];§a
÷c40(z:Z):L40 z z=z:=by cases z <;> rfl
÷sd{s t:S}{z:Z}(h:s=t):s=t/\L40 z z=z:=⟨h,c40 z⟩
÷sb(h:b=c):S.d (.bl b)=S.d (.bl c)/\L40 z z=z:=sd (by rw[h])
section
variable {F:FT}{tp:Bool}{z:Z}{E:Nat->Z->Prop}{p:Pat}
÷r50(I:List D->Env->Z->Prop)(xs:List D)(hi:I xs ρ z)(h:∀ x r ρ z,I (x::r) ρ z->Get (e70 p x ρ) λρ=>WS F tp b ρ z (λo z1=>match o with
  |.nx ρ=>I r ρ z1
  |.rt s=>Q (.rt s) z1) E) (q:∀ ρ z,I [] ρ z->Q (.nx ρ) z):W (X40 (λx ρ=>M.bind (M.of (e70 p x ρ)) λρ=>ex F tp b ρ) xs ρ) z Q E :=
 V91 I xs hi (λx r ρ z hi=>(wG λρ=>U30).mp (h x r ρ z hi)) q
÷z32(I:Nat->Env->Z->Prop)(n:Nat)(hi:I n ρ z)(hn:n < k92)(h:∀ n ρ z,I n ρ z->WE F c ρ z (λx z1=>Get ((pl x).bind asB) λk=>if k then WS F tp b ρ z1 (λo z2=>match o with
  |.nx ρ=>∃ m,m < n/\I m ρ z2
  |.rt s=>Q (.rt s) z2) E else Q (.nx ρ) z1) E):W (U21 (ev F c) (ex F tp b) k92 ρ) z Q E:=by
 ¤z12 I (λn ρ z hi=>?_) n k92 hi hn
 ¤(c50.mp (h n ρ z hi)).mono (λx z1 h=>?_) λ_ _ h=>h
 ¶⟨k,e,h⟩:=j70 h
 ¤a00 e ?_
 cases k with
 |true=>§U30.mp h
 |false=>§h
variable {ρ0:Env}{cond el:Ex}{xs:List D}{Q:List D->Z->Prop}
÷q21(o:D->D)(h:∀ x∈xs,Get (e70 p x ρ0) λρ=>WE F el ρ z (λy z1=>Get (pl y) λd=>d=o x/\z1=z) NE)(q:Q (xs.map o) z):W (turns (o80 (ev F .nil) (ev F el) p ρ0) xs) z Q E:=by
 ¤(b71 (o:=λx=>some (o x)) λx hx=>?_).mpr ?_
 ·¤W.ok (C41.mpr ?_)
  ¶⟨ρ,e,h⟩:=j70 (h x hx)
  ¤a00 e (c50.mpr ((c50.mp h).imp λy z1 h=>?_))
  ¶⟨d,e,rfl,rfl⟩:=j70 h
  §a00 e ⟨rfl,rfl⟩
 ·rw[show xs.filterMap (λx=>some (o x))=xs.map o from congrFun (List.filterMap_eq_map (f:=o)) xs];§q
÷M92{c:D->Bool}{o:D->D}:∀ xs:List D,xs.filterMap (λx=>if c x then some (o x) else none)=(xs.filter c).map o
 |[]=>rfl
 |x::r=>by
  rw[Á4,Ñ8]
  cases hc:c x with
  |false=>§M92 r
  |true=>§congrArg (o x::·) (M92 r)
÷i52(c:D->Bool)(o:D->D)(h:∀ x∈xs,Get (e70 p x ρ0) λρ=>WE F cond ρ z (λy z1=>Get (one y) λs=>s=.d (.bl (c x))/\z1=z/\(c x=true->WE F el ρ z (λy z1=>Get (pl y) λd=>d=o x/\z1=z) NE)) NE)(q:Q ((xs.filter c).map o) z):W (turns (o80 (ev F (.cons cond .nil)) (ev F el) p ρ0) xs) z Q E:=by
 ¤(b71 (o:=λx=>if c x then some (o x) else none) λx hx=>?_).mpr ?_
 ·¤W.ok (C51.mpr ?_)
  ¶⟨ρ,e,h⟩:=j70 (h x hx)
  ¤a00 e (c50.mpr ((c50.mp h).imp λy z1 h=>?_))
  ¶⟨s,e,rfl,rfl,h⟩:=j70 h
  ¤a00 e ?_
  show if c x=true then _ else _
  cases hc:c x with
  |false=>§⟨rfl,rfl⟩
  |true =>
   ¤c50.mpr ((c50.mp (h hc)).imp λy z1 h=>?_)
   ¶⟨d,e,rfl,rfl⟩:=j70 h
   §a00 e ⟨rfl,rfl⟩
 ·rw[M92];§q
÷z42{I:Z->Prop}(o:D->D):∀ {xs:List D}{z:Z}{Q:List D->Z->Prop},I z->(∀ x∈xs,∀ z,I z->Get (e70 p x ρ0) λρ=>WE F cond ρ z (λy z1=>Get (one y) λs=>I z1/\∃ b,s=.d (.bl b)/\(b=true->WE F el ρ z1 (λy z2=>Get (pl y) λd=>d=o x/\z2=z1) NE)) NE) ->
  (∀ ys z1,I z1->ys.Sublist (xs.map o)->Q ys z1)->W (turns (o80 (ev F (.cons cond .nil)) (ev F el) p ρ0) xs) z Q E
 |[],z,Q,hi,_,q=>A30.mpr (q [] z hi .slnil)
 |x::r,z,Q,hi,h,q=>by
  show W (M.bind (o80 _ _ p ρ0 x) _) z Q E
  ¤p20.mpr (C51.mpr ?_)
  ¶⟨ρ,e,h0⟩:=j70 (h x Ì z hi)
  ¤a00 e (c50.mpr ((c50.mp h0).imp λy z1 h1=>?_))
  ¶⟨s,e,hi1,b,rfl,h2⟩:=j70 h1
  ¤a00 e ?_
  show if b=true then _ else _
  have hr:=λ{Q:List D->Z->Prop} (q:∀ ys z1,I z1->ys.Sublist (r.map o)->Q ys z1)=>z42 o (z:=z1) hi1 (λy hy=>h y (È _ hy)) q
  cases b with
  |false=>§p20.mpr (hr λys z2 hi2 hs=>A30.mpr (q ys z2 hi2 (hs.cons _)))
  |true =>
   ¤c50.mpr ((c50.mp (h2 rfl)).imp λy z2 h3=>?_)
   ¶⟨d,e,rfl,rfl⟩:=j70 h3
   §a00 e (p20.mpr (hr λys z2 hi2 hs=>A30.mpr (q _ z2 hi2 (hs.cons_cons _))))
÷Y32{I:Z->Prop}{P:D->D->Prop}(hi:I z)(h:∀ x∈xs,∀ z,I z->Get (e70 p x ρ0) λρ=>WE F el ρ z (λy z1=>Get (pl y) λd=>I z1/\P x d) NE)(q:∀ ys z1,I z1->Å9 P xs ys->Q ys z1):W (turns (o80 (ev F .nil) (ev F el) p ρ0) xs) z Q E:=by
 ¤i31 hi (λx hx z hz=>C41.mpr ?_) q
 ¶⟨ρ,e,h⟩:=j70 (h x hx z hz)
 ¤a00 e (c50.mpr ((c50.mp h).imp λy z1 h=>?_))
 ¶⟨d,e,h⟩:=j70 h
 §a00 e ⟨h.1,d,rfl,h.2⟩
end
÷E50{s:S}{ρ:Env}(h:A00 s=true):k90 s ρ=ρ:=by
 unfold k90
 rw[S20,h];rfl
÷M70{F:FT}{tp:Bool}{p:Pat}{e:Ex}{r:Sm}{ρ:Env}{z:Z}{Q:O->Z->Prop}{E:Nat->Z->Prop}(s:S)(ρ':Env)(he:WE F e ρ z (λl z1=>Get (one l) λt=>t=s/\z1=z) NE)(hb:S30 p s (k90 s ρ)=some ρ')(q:WS F tp r ρ' z Q E):WS F tp (.seq (.set p e) r) ρ z Q E:=by
 show WE F e ρ z (λl z1=>Get (one l) λs=>Get (S30 p s (k90 s ρ)) λρ'=>WX F tp r ρ' z1 Q E) E
 ¤c50.mpr ((c50.mp he).imp λl z1 h=>?_)
 ¶⟨t,e,rfl,rfl⟩:=j70 h
 §a00 e (a00 hb q)
end Q
namespace K3
open PySem L2 Q
def top(i:Nat):Stmt:=ò.main.body.getD i (.Pass ⟨0,0,0,0⟩)
def nums:List (Str × Int):=[(("MOST_PLACES":Str),(6:Int)),(("MOST_TIES":Str),(8:Int)),(("MOST_BOTTOM":Str),(1000:Int))]
abbrev v0:Ex:=.var 0
abbrev v1:Ex:=.var 1
abbrev v2:Ex:=.var 2
abbrev v3:Ex:=.var 3
abbrev v4:Ex:=.var 4
abbrev v5:Ex:=.var 5
abbrev v6:Ex:=.var 6
abbrev v7:Ex:=.var 7
abbrev v8:Ex:=.var 8
abbrev v10:Ex:=.var 10
abbrev n0:Ex:=.con (.int 0)
abbrev n1:Ex:=.con (.int 1)
abbrev n2:Ex:=.con (.int 2)
abbrev c1(a:Ex):Ex:=.cons a .nil
abbrev c2(a b:Ex):Ex:=.cons a (.cons b .nil)
abbrev c3(a b c:Ex):Ex:=.cons a (.cons b (.cons c .nil))
abbrev c4(a b c d:Ex):Ex:=.cons a (.cons b (.cons c (.cons d .nil)))
abbrev c5(a b c d e:Ex):Ex:=.cons a (.cons b (.cons c (.cons d (.cons e .nil))))
abbrev s1(a:Sm):Sm:=.seq a .nil
abbrev p2(a b:Pat):Pat:=.tup (.cons a (.cons b .nil))
abbrev g80:Nat:=0
abbrev M80:Nat:=1
abbrev W01:Nat:=2
abbrev C61:Nat:=3
abbrev l00:Nat:=4
abbrev q80:Nat:=5
abbrev i41:Nat:=6
abbrev H70:Nat:=7
abbrev i51:Nat:=8
abbrev C71:Nat:=9
abbrev l10:Nat:=10
abbrev l80:Nat:=11
abbrev f90:Nat:=12
abbrev H80:Nat:=13
abbrev y60:Nat:=14
abbrev E60:Nat:=15
abbrev k50:Nat:=16
abbrev H90:Nat:=17
abbrev E70:Nat:=18
abbrev B20:Nat:=19
abbrev l90:Nat:=20
abbrev e40:Nat:=21
abbrev s10:Nat:=22
abbrev y70:Nat:=23
abbrev a50:Nat:=24
abbrev I00:Nat:=25
abbrev v40:Nat:=26
abbrev m00:Nat:=27
abbrev v50:Nat:=28
abbrev E80:Nat:=29
abbrev E90:Nat:=30
abbrev F00:Nat:=31
abbrev y80:Nat:=32
abbrev m20:Nat:=33
abbrev j80:Nat:=34
abbrev j90:Nat:=35
abbrev s20:Nat:=36
abbrev e30:Nat:=37
abbrev v60:Nat:=38
abbrev U40:Nat:=39
abbrev z52:Nat:=40
def g90:Sm:=(.seq (.whl (.cmp .gt v1 n0) (s1 (.set (p2 (.v 0) (.v 1)) (.tup (c2 v1 (.bin .mod v0 v1)))))) (s1 (.ret v0)))
def M90:Sm:=(.seq (.set (.v 2) (.call g80 (c2 v0 v1))) (s1 (.ret (.tup (c2 (.bin .fdiv v0 v2) (.bin .fdiv v1 v2))))))
def C81:Sm:=(s1 (.ret (.call M80 (c2 (.bin .add (.bin .mul (.idx v0 n0) (.idx v1 n1)) (.bin .mul (.idx v1 n0) (.idx v0 n1))) (.bin .mul (.idx v0 n1) (.idx v1 n1))))))
def b81:Sm:=(s1 (.ret (.call M80 (c2 (.bin .mul (.idx v0 n0) (.idx v1 n0)) (.bin .mul (.idx v0 n1) (.idx v1 n1))))))
def I10:Sm:=(s1 (.ret (.and (.isi .int v0) (.not (.isi .bool v0)))))
def x30:Sm:=(s1 (.ret (.and (.call l00 (c1 v0)) (.ch .le .lt n0 v0 v1))))
def N00:Sm:=(.seq (.iff (.or (.not (.isi .tuple v0)) (.cmp .ne (.bf .len (c1 v0)) n2)) (s1 (.ret (.con (.bl false)))) .nil) (.seq (.set (p2 (.v 2) (.v 3)) v0) (s1 (.ret (.and (.call q80 (c2 v2 v1)) (.and (.call q80 (c2 v3 v1)) (.cmp .lt v2 v3)))))))
def x40:Sm:=(.seq (.iff (.or (.not (.isi .tuple v0)) (.cmp .gt (.bf .len (c1 v0)) (.gint "MOST_TIES" 8))) (s1 (.ret (.con (.bl false)))) .nil) (.seq (.iff (.not (.bf .all (c1 (.comp 1 [1] (.v 0) .seq (c1 v0) .nil (.call i41 (c2 v0 v1)))))) (s1 (.ret (.con (.bl false)))) .nil) (s1 (.ret (.bf .all (c1 (.comp 2 [] (p2 (.v 0) (.v 1)) .zip (c2 v0 (.sl v0 (c1 n1) .nil)) .nil (.cmp .le v0 v1))))))))
def N10:Sm:=(.seq (.iff (.or (.not (.isi .tuple v0)) (.cmp .ne (.bf .len (c1 v0)) n2)) (s1 (.ret (.con (.bl false)))) .nil) (.seq (.set (p2 (.v 1) (.v 2)) v0) (s1 (.ret (.and (.call l00 (c1 v1)) (.and (.ch .le .le n1 v1 (.gint "MOST_PLACES" 6)) (.call H70 (c2 v2 v1))))))))
def b91:Sm:=(s1 (.ret (.bf .all (c1 (.comp 2 [] (p2 (.v 0) (.v 1)) .zip (c2 v0 (.sl v0 (c1 n1) .nil)) .nil (.cmp .lt v0 v1))))))
def f80:Sm:=(.seq (.iff (.not (.isi .tuple v0)) (s1 (.ret (.con (.bl false)))) .nil) (s1 (.ret (.and (.bf .all (c1 (.comp 1 [1] (.v 0) .seq (c1 v0) .nil (.call q80 (c2 v0 v1))))) (.call C71 (c1 v0))))))
def m30:Sm:=(s1 (.iff (.not (.call i51 (c1 v0))) (s1 (.rais 0)) .nil))
def g00:Sm:=(s1 (.iff (.or (.not (.call l10 (c2 v1 (.idx v0 n0)))) (.cmp .eq (.bf .len (c1 v1)) n0)) (s1 (.rais 2)) .nil))
def x50:Sm:=(.seq (.set (p2 (.v 2) (.v 3)) v0) (.seq (.set (.v 4) (.lrng false (c1 v2))) (.seq (.fr (.v 5) .seq (c1 v1) (.seq (.set (p2 (.v 6) (.v 7)) (.idx v3 v5)) (.seq (.set (.v 8) (.idx v4 v6)) (.seq (.set (.v 9) (.idx v4 v7)) (s1 (.set (.v 4) (.comp 1 [8,9] (.v 0) .seq (c1 v4) .nil (.ite (.cmp .eq v0 v2) v1 v0)))))))) (s1 (.ret v4)))))
def p30:Sm:=(.seq (.set (.v 3) (.call H80 (c2 v0 v1))) (s1 (.ret (.bf .all (c1 (.comp 1 [2,3] (.v 0) .seq (c1 v2) .nil (.cmp .eq (.idx v2 v0) (.idx v2 (.idx v1 n0)))))))))
def s80:Sm:=(.seq (.iff (.or (.not (.isi .tuple v0)) (.cmp .ne (.bf .len (c1 v0)) n2)) (s1 (.ret (.con (.bl false)))) .nil) (.seq (.set (p2 (.v 1) (.v 2)) v0) (.seq (.iff (.or (.not (.call l00 (c1 v1))) (.not (.call l00 (c1 v2)))) (s1 (.ret (.con (.bl false)))) .nil) (.seq (.iff (.or (.not (.ch .le .le n1 v2 (.gint "MOST_BOTTOM" 1000))) (.not (.ch .le .le n0 v1 v2))) (s1 (.ret (.con (.bl false)))) .nil) (s1 (.ret (.cmp .eq (.call g80 (c2 v1 v2)) n1)))))))
def g20:Sm:=(s1 (.iff (.not (.call E60 (c1 v0))) (s1 (.rais 5)) .nil))
def q90:Sm:=(.seq (.set (.v 1) (cX (.lst [(.tup [])]) (by decide))) (.seq (.fr (.v 2) .rng1 (c1 (.bf .len (c1 (.idx v0 n1)))) (s1 (.set (.v 1) (.bin .add v1 (.comp 1 [2] (.v 0) .seq (c1 v1) .nil (.bin .add v0 (.tup (c1 v1)))))))) (s1 (.ret (.bf .sorted (c1 v1))))))
def i90:Sm:=(.seq (.exp (.call l80 (c1 v0))) (.seq (.exp (.call f90 (c2 v0 v1))) (s1 (.ret (.comp 1 [0,1] (.v 0) .seq (c1 (.call H90 (c1 v0))) (c1 (.call y60 (c3 v1 v0 v2))) v0)))))
def v70:Sm:=(.seq (.set (.v 2) (.call E70 (c2 v0 v1))) (.seq (.set (.v 3) (.bin .mul (cX (.lst [(.int 0)]) (by decide)) (.bin .add (.bf .len (c1 (.idx v0 n1))) n1))) (.seq (.fr (.v 4) .seq (c1 v2) (s1 (.augi 3 (.bf .len (c1 v4)) n1))) (s1 (.ret v3)))))
def v80:Sm:=(.seq (.set (.v 2) (.call B20 (c2 v0 v1))) (.seq (.set (.v 3) (.bin .mul (cX (.lst [(.int 0)]) (by decide)) (.bf .len (c1 v2)))) (.seq (.fr (p2 (.v 4) (.v 5)) .enum (c1 v2) (.seq (.set (.v 3) (.comp 2 [] (p2 (.v 0) (.v 1)) .zip (c2 v3 (.bin .add (cX (.lst [(.int 0)]) (by decide)) v3)) .nil (.bin .sub v0 v1))) (s1 (.augi 3 v4 v5)))) (s1 (.ret v3)))))
def i10:Sm:=(.seq (.exp (.call l80 (c1 v0))) (.seq (.exp (.call f90 (c2 v0 v1))) (.seq (.exp (.call k50 (c1 v2))) (.seq (.set (.v 3) (cX (.tup [(.int 0),(.int 1)]) (by decide))) (.seq (.fr (.v 4) .seq (c1 (.rev (.call l90 (c2 v0 v1)))) (s1 (.set (.v 3) (.call W01 (c2 (.call C61 (c2 v3 v2)) (.tup (c2 v4 n1))))))) (s1 (.ret v3)))))))
def g30:Sm:=(.seq (.iff (.cmp .lt v1 (.bf .len (c1 v0))) (s1 (.ret (.idx v0 v1))) .nil) (s1 (.ret n0)))
def k00:Sm:=(.seq (.set (.v 2) (.call s10 (c2 v0 v1))) (.seq (.iff (.cmp .ge v2 (.bin .pow (.con (.int 10)) (.con (.int 18)))) (s1 (.ret (.lst (c2 (.bin .sub v2 (.bin .pow (.con (.int 10)) (.con (.int 18)))) (.con (.bl true)))))) .nil) (s1 (.ret (.lst (c2 (.bin .mod v2 (.con (.int 2147483647))) (.con (.bl false))))))))
def s90:Sm:=(.seq (.iff (.zget 0 1) (.seq (.set (.v 2) (.bin .mod (.zget 0 0) v1)) (.seq (.zset 0 (.bin .fdiv (.zget 0 0) v1)) (s1 (.ret v2)))) .nil) (.seq (.zset 0 (.bin .mod (.bin .add (.bin .mul (.zget 0 0) (.con (.int 48271))) (.con (.int 29))) (.con (.int 2147483647)))) (.seq (.set (.v 3) (.bin .mod (.bin .add (.bin .add (.bin .mul (.zget 0 0) (.zget 0 0)) (.bin .mul (.con (.int 39373)) (.zget 0 0))) (.con (.int 7))) (.con (.int 2147483629)))) (.seq (.set (.v 3) (.bin .mod (.bin .add (.bin .mul v3 v3) (.bin .mul (.con (.int 16807)) v3)) (.con (.int 2147483587)))) (s1 (.ret (.bin .mod (.bin .fdiv v3 (.con (.int 8))) v1)))))))
def x60:Sm:=(.seq (.set (.v 2) (.idx (cX (.lst [(.int 6),(.int 5),(.int 4),(.int 3),(.int 4),(.int 5),(.int 2),(.int 1)]) (by decide)) (.call a50 (c2 v0 (.con (.int 8)))))) (.seq (.set (.v 3) (.lst .nil)) (.seq (.iff (.and (.cmp .gt v2 n1) (.cmp .gt (.call a50 (c2 v0 (.con (.int 5)))) n0)) (s1 (.set (.v 3) (.comp 1 [0] (.v 0) .rng2 (c2 n1 v2) .nil (.tup (c2 (.call a50 (c2 v1 v0)) v0))))) .nil) (.seq (.fr (.v 4) .rng1 (c1 (.bin .mul (.call a50 (c2 v0 (.bin .add v1 n1))) (.bf .int (c1 (.cmp .gt v2 n1))))) (.seq (.set (.v 5) (.call a50 (c2 v0 v2))) (.seq (.set (.v 6) (.bin .mod (.bin .add (.bin .add v5 n1) (.call a50 (c2 v0 (.bin .sub v2 n1)))) v2)) (s1 (.app 3 (.tup (c2 (.bf .min (c2 v5 v6)) (.bf .max (c2 v5 v6))))))))) (s1 (.ret (.tup (c2 v2 (.bf .tuple (c1 (.bf .sorted (c1 (.sl v3 .nil (c1 v1))))))))))))))
def m40:Sm:=(.seq (.set (.v 2) (.call a50 (c2 v0 (.con (.int 4))))) (.seq (.iff (.or (.cmp .lt v2 n2) (.cmp .eq (.idx v1 n0) n1)) (s1 (.ret (.lrng true (c1 (.idx v1 n0))))) .nil) (.seq (.iff (.cmp .eq v2 n2) (.seq (.set (.v 3) (.call a50 (c2 v0 (.idx v1 n0)))) (s1 (.ret (.bf .tuple (c1 (.bf .sorted (c1 (.lst (c2 v3 (.bin .mod (.bin .add (.bin .add v3 n1) (.call a50 (c2 v0 (.bin .sub (.idx v1 n0) n1)))) (.idx v1 n0))))))))))) .nil) (s1 (.ret (.orT (.bf .tuple (c1 (.comp 1 [0] (.v 0) .rng1 (c1 (.idx v1 n0)) (c1 (.cmp .eq (.call a50 (c2 v1 n2)) n1)) v0))) (.tup (c1 (.bin .sub (.idx v1 n0) n1)))))))))
def m50:Sm:=(.seq (.set (p2 (.v 2) (.v 3)) (.tup (c2 v0 v1))) (.seq (.whl (.cmp .ne v3 n0) (s1 (.set (p2 (.v 2) (.v 3)) (.tup (c2 v3 (.bin .mod v2 v3)))))) (s1 (.ret (.tup (c2 (.bin .fdiv v0 v2) (.bin .fdiv v1 v2)))))))
def m60:Sm:=(.seq (.set (.v 1) (cX (.lst [(.tup [(.int 1),(.int 2)]),(.tup [(.int 2),(.int 3)]),(.tup [(.int 1),(.int 3)]),(.tup [(.int 3),(.int 4)]),(.tup [(.int 9),(.int 10)]),(.tup [(.int 0),(.int 1)]),(.tup [(.int 1),(.int 1)]),(.tup [(.int 1),(.int 1000)]),(.tup [(.int 999),(.int 1000)])]) (by decide))) (.seq (.set (.v 2) (.call a50 (c2 v0 (.con (.int 16))))) (.seq (.iff (.cmp .lt v2 (.con (.int 9))) (s1 (.ret (.idx v1 v2))) .nil) (.seq (.set (.v 3) (.bin .add n1 (.call a50 (c2 v0 (.idx (cX (.lst [(.int 12),(.int 1000)]) (by decide)) (.call a50 (c2 v0 n2))))))) (s1 (.ret (.call m00 (c2 (.call a50 (c2 v0 (.bin .add v3 n1))) v3))))))))
def t00:Sm:=(.seq (.set (.v 3) (.lst (c1 v2))) (.seq (.fr (.v 4) .rng1 (c1 (.idx v0 n0)) (s1 (.fr (.v 5) .seq (c1 v1) (.seq (.set (p2 (.v 6) (.v 7)) (.idx (.idx v0 n1) v5)) (.seq (.iff (.and (.cmp .mem v6 v3) (.cmp .nmem v7 v3)) (s1 (.set (.v 3) (.bin .add v3 (.lst (c1 v7))))) .nil) (s1 (.iff (.and (.cmp .mem v7 v3) (.cmp .nmem v6 v3)) (s1 (.set (.v 3) (.bin .add v3 (.lst (c1 v6))))) .nil))))))) (s1 (.ret (.bf .tuple (c1 (.bf .sorted (c1 v3))))))))
def t10:Sm:=(.seq (.set (.v 3) (.call E80 (c3 v0 v1 (.idx v2 n0)))) (s1 (.ret (.cmp .eq (.comp 1 [3] (.v 0) .seq (c1 v2) (c1 (.cmp .nmem v0 v1)) v0) (.lst .nil)))))
def F10:Sm:=(.seq (.set (.v 1) (cX (.lst [(.tup [])]) (by decide))) (.seq (.fr (.v 2) .rng1 (c1 (.bf .len (c1 (.idx v0 n1)))) (s1 (.set (.v 1) (.bin .add v1 (.comp 1 [2] (.v 0) .seq (c1 v1) .nil (.bin .add v0 (.tup (c1 v1)))))))) (s1 (.ret (.bf .sorted (c1 v1))))))
def p40:Sm:=(s1 (.ret (.and (.isi .int v0) (.not (.isi .bool v0)))))
def d80:Sm:=(.seq (.iff (.or (.not (.isi .tuple v1)) (.cmp .ne (.comp 1 [] (.v 0) .seq (c1 v1) (c1 (.not (.call y80 (c1 v0)))) v0) (.lst .nil))) (s1 (.ret (.con (.bl false)))) .nil) (.seq (.iff (.cmp .ne (.comp 1 [0] (.v 0) .seq (c1 v1) (c1 (.not (.ch .le .lt n0 v0 v1))) v0) (.lst .nil)) (s1 (.ret (.con (.bl false)))) .nil) (s1 (.ret (.cmp .eq (.bf .list (c1 v1)) (.bf .sset (c1 v1)))))))
def f10:Sm:=(.seq (.set (.v 3) (.call a50 (c2 v0 (.bin .add (.bf .len (c1 v2)) n1)))) (.seq (.set (.v 4) (.idx (.lst (.cons (.call a50 (c2 v0 (.bin .add v1 n1))) (.cons v1 (.cons (.neg n1) (.cons (.con (.bl true)) (.cons (.con .non) (c5 (.con (.str "0")) (cX (.tup [(.int 0)]) (by decide)) (.con (.bl false)) (.bin .pow (.con (.int 10)) (.con (.int 29))) n0))))))) (.call a50 (c2 v0 (.con (.int 10)))))) (.seq (.set (.v 5) (.lst (c4 (.bin .add (.bin .add (.sl v2 .nil (c1 v3)) (.tup (c1 v4))) (.sl v2 (c1 v3) .nil)) (.bin .add (.bin .add (.sl v2 .nil (c1 v3)) (.tup (c1 v4))) (.sl v2 (c1 (.bin .add v3 n1)) .nil)) (.bin .add (.sl v2 .nil (c1 v3)) (.sl v2 (c1 (.bin .add v3 n1)) .nil)) (.bf .list (c1 v2))))) (s1 (.ret (.idx (.bin .add v5 (.lst (.cons (.rev v2) (.cons (.bin .add v2 (.sl v2 (c1 (.neg n1)) .nil)) (c5 (.con .non) (.con .dct) n0 (.tup (c1 v2)) (.tup .nil)))))) (.call a50 (c2 v0 (.con (.int 11))))))))))
def f20:Sm:=(.seq (.set (.v 2) (.call a50 (c2 v0 (.bin .add (.bf .len (c1 v1)) n1)))) (.seq (.set (.v 3) (cX (.lst [(.tup [(.int 2),(.int 4)]),(.tup [(.int 1),(.int 0)]),(.tup [(.int 3),(.int 2)]),(.tup [(.int (-1)),(.int 2)]),(.tup [(.bl true),(.int 2)]),(.tup [(.int 1),(.bl true)]),(.tup [(.int 1),(.int 1001)]),(.tup [(.int 1)]),(.tup [(.int 1),(.int 2),(.int 3)]),(.lst [(.int 1),(.int 2)]),.non,(.str "1/2"),(.int 1)]) (by decide))) (.seq (.set (.v 3) (.idx v3 (.call a50 (c2 v0 (.con (.int 13)))))) (.seq (.set (.v 4) (.lst (c5 (.bin .add (.bin .add (.sl v1 .nil (c1 v2)) (.tup (c1 v3))) (.sl v1 (c1 v2) .nil)) (.bin .add v1 (cX (.tup [(.tup [(.int 1),(.int 2)])]) (by decide))) (.bf .list (c1 v1)) (.con .non) (.con .dct)))) (.seq (.iff (.cmp .ne v1 (.tup .nil)) (.seq (.set (.v 2) (.call a50 (c2 v0 (.bf .len (c1 v1))))) (s1 (.set (.v 4) (.bin .add (.bin .add v4 (.bin .mul (.lst (c1 (.bin .add (.bin .add (.sl v1 .nil (c1 v2)) (.tup (c1 v3))) (.sl v1 (c1 (.bin .add v2 n1)) .nil)))) (.con (.int 5)))) (.lst (c2 (.sl v1 (c1 n1) .nil) (.bin .add (.tup (c1 v1)) (.sl v1 (c1 n1) .nil)))))))) .nil) (s1 (.ret (.idx v4 (.call a50 (c2 v0 (.bf .len (c1 v4))))))))))))
def k60:Sm:=(.seq (.set (.v 1) (cX (.lst [.non,(.int 0),(.tup []),(.tup [(.int 7),(.tup [])]),(.tup [(.int 0),(.tup [])]),(.tup [(.int (-1)),(.tup [])]),(.tup [(.bl true),(.tup [])]),(.tup [(.int 2),(.lst [])]),(.lst [(.int 2),(.tup [])]),(.tup [(.int 2),(.tup [(.tup [(.int 1),(.int 0)])])]),(.tup [(.int 2),(.tup [(.tup [(.int 0),(.int 0)])])]),.dct]) (by decide))) (.seq (.set (.v 1) (.bin .add v1 (.lst (c5 (.tup (c2 n2 (.bin .mul (cX (.tup [(.tup [(.int 0),(.int 1)])]) (by decide)) (.con (.int 9))))) (cX (.tup [(.int 3),(.tup [(.tup [(.int 0),(.int 2)]),(.tup [(.int 0),(.int 1)])])]) (by decide)) (cX (.tup [(.int 2),(.tup [(.tup [(.int 0),(.int 2)])])]) (by decide)) (cX (.tup [(.int 2),(.tup [(.tup [(.int 0),(.bl true)])])]) (by decide)) (cX (.tup [(.int 2),(.tup [(.tup [(.int 0),(.int 1),(.int 1)])])]) (by decide)))))) (.seq (.set (.v 1) (.bin .add v1 (cX (.lst [(.tup [(.int 2),(.tup [(.int 0),(.int 1)])]),(.tup [(.int 2),.non]),(.tup [(.int 2),(.tup []),(.tup [])]),(.tup [(.int 2)]),(.tup [(.int 2),(.tup [(.lst [(.int 0),(.int 1)])])]),(.tup [(.int 2),(.tup [.non])]),(.tup [(.str "2"),(.tup [])]),(.str "2:")]) (by decide)))) (s1 (.ret (.idx v1 (.call a50 (c2 v0 (.con (.int 25))))))))))
def j00:Sm:=(.seq (.iff (.isi .seq v1) (.seq (.iff (.or (.cmp .ne (.isi .tuple v0) (.isi .tuple v1)) (.cmp .ne (.isi .list v0) (.isi .list v1))) (s1 (.ret (.con (.bl false)))) .nil) (.seq (.iff (.cmp .ne (.bf .len (c1 v0)) (.bf .len (c1 v1))) (s1 (.ret (.con (.bl false)))) .nil) (s1 (.ret (.bf .all (c1 (.comp 2 [] (p2 (.v 0) (.v 1)) .zip (c2 v0 v1) .nil (.call e30 (c2 v0 v1))))))))) .nil) (s1 (.ret (.and (.cmp .eq v0 v1) (.cmp .eq (.isi .bool v0) (.isi .bool v1))))))
def h70:Sm:=(.seq (.set (.v 2) (.bin .mul (cX (.lst [(.int 0)]) (by decide)) (.bin .add (.bf .len (c1 (.idx v0 n1))) n1))) (.seq (.fr (.v 3) .seq (c1 (.call F00 (c1 v0))) (s1 (.iff (.call E90 (c3 v0 v3 v1)) (.seq (.set (.v 4) (.bin .add (.bin .add (.bin .mul (cX (.lst [(.int 0)]) (by decide)) (.bf .len (c1 v3))) (cX (.lst [(.int 1)]) (by decide))) (.bin .mul (cX (.lst [(.int 0)]) (by decide)) (.bin .sub (.bf .len (c1 (.idx v0 n1))) (.bf .len (c1 v3)))))) (.seq (.fr (.v 5) .rng1 (c1 (.bin .sub (.bf .len (c1 (.idx v0 n1))) (.bf .len (c1 v3)))) (s1 (.set (.v 4) (.comp 1 [4] (.v 0) .rng1 (c1 (.bf .len (c1 v4))) .nil (.bin .sub (.idx v1 v0) (.idx (.bin .add (cX (.lst [(.int 0)]) (by decide)) v1) v0)))))) (s1 (.set (.v 2) (.comp 1 [2,4] (.v 0) .rng1 (c1 (.bf .len (c1 v2))) .nil (.bin .add (.idx v1 v0) (.idx v2 v0))))))) .nil))) (s1 (.ret v2))))
def F20:Sm:=(.seq (.set (p2 (.v 2) (.v 3)) v1) (.seq (.set (.v 4) n0) (.seq (.fr (.v 5) .rng1 (c1 (.bf .len (c1 v0))) (.seq (.set (.v 6) (.idx v0 v5)) (.seq (.fr (.v 7) .rng1 (c1 (.bin .sub (.bf .len (c1 v0)) n1)) (s1 (.set (.v 6) (.bin .mul v6 (.ite (.cmp .lt v7 v5) v2 v3))))) (s1 (.set (.v 4) (.bin .add v4 v6)))))) (.seq (.set (.v 8) n1) (.seq (.fr (.v 7) .rng1 (c1 (.bin .sub (.bf .len (c1 v0)) n1)) (s1 (.set (.v 8) (.bin .mul v8 v3)))) (s1 (.ret (.call m00 (c2 v4 v8)))))))))
def P81:Sm:=(.seq (.fr (.v 1) .rng1 (c1 (.bf .max (c2 n1 (.bf .min (c2 (.bf .len (c1 v0)) (.con (.int 4))))))) (.seq (.newz 2 y70 (c2 v0 v1)) (.seq (.set (.v 3) (.call I00 (c2 v2 (.idx (cX (.lst [(.int 8),(.int 6),(.int 7)]) (by decide)) (.call a50 (c2 v2 (.con (.int 3)))))))) (.seq (.set (.v 4) (.call v40 (c2 v2 v3))) (.seq (.set (.v 5) (.call v60 (c2 v3 v4))) (.seq (.fr (.v 6) .rng1 (c1 n2) (.seq (.set (.v 7) (.call l90 (c2 v3 v4))) (.seq (.iff (.not (.call e30 (c2 v7 v5))) (s1 (.ret (.con (.bl false)))) .nil) (s1 (.app 7 n0))))) (.seq (.fr (.v 8) .seq (c1 (.lst (c4 (.call v50 (c1 v2)) (cX (.tup [(.int 0),(.int 1)]) (by decide)) (cX (.tup [(.int 1),(.int 1)]) (by decide)) (cX (.tup [(.int 1),(.int 2)]) (by decide))))) (s1 (.iff (.not (.call e30 (c2 (.call e40 (c3 v3 v4 v8)) (.call U40 (c2 v5 v8))))) (s1 (.ret (.con (.bl false)))) .nil))) (.seq (.set (p2 (.v 9) (.v 10)) (.tup (c2 (.call s20 (c1 v2)) (.call j80 (c3 v2 (.idx v3 n0) v4))))) (.seq (.set (.v 11) (.call j90 (c2 v2 (.tup .nil)))) (.seq (.iff (.cmp .ne (.refd [9,10] (.call l90 (c2 v0 v1))) (cX (.lst [(.int 0)]) (by decide))) (s1 (.ret (.con (.bl false)))) .nil) (.seq (.iff (.cmp .ne (.refd [9,10,11] (.call e40 (c3 v0 v1 v2))) (cX (.lst [(.int 0)]) (by decide))) (s1 (.ret (.con (.bl false)))) .nil) (.seq (.iff (.cmp .ne (.refd [3,4,11] (.call e40 (c3 v0 v1 v2))) (cX (.lst [(.int 5)]) (by decide))) (s1 (.ret (.con (.bl false)))) .nil) (s1 (.iff (.or (.not (.call m20 (c2 (.idx v3 n0) v10))) (.cmp .eq v10 (.tup .nil))) (.seq (.iff (.cmp .ne (.refd [3,10] (.call l90 (c2 v0 v1))) (cX (.lst [(.int 2)]) (by decide))) (s1 (.ret (.con (.bl false)))) .nil) (s1 (.iff (.cmp .ne (.refd [3,10,11] (.call e40 (c3 v0 v1 v2))) (cX (.lst [(.int 2)]) (by decide))) (s1 (.ret (.con (.bl false)))) .nil))) .nil)))))))))))))) (s1 (.ret (.con (.bl true)))))
def rows:List Row:=[(⟨"common_divisor",["one","other"],top 15,["one","other"],g90,false⟩:Row),
 (⟨"lowest",["top","bottom"],top 16,["top","bottom","divisor"],M90,false⟩:Row),
 (⟨"plus",["one","other"],top 17,["one","other"],C81,false⟩:Row),
 (⟨"times",["one","other"],top 18,["one","other"],b81,false⟩:Row),
 (⟨"is_whole",["thing"],top 22,["thing"],I10,false⟩:Row),
 (⟨"is_below",["thing","many"],top 23,["thing","many"],x30,false⟩:Row),
 (⟨"is_tie",["thing","many"],top 24,["thing","many","a","b"],N00,false⟩:Row),
 (⟨"are_ties",["thing","many"],top 25,["thing","many"],x40,false⟩:Row),
 (⟨"is_web",["thing"],top 26,["thing","many","ties"],N10,false⟩:Row),
 (⟨"rises",["things"],top 27,["things"],b91,false⟩:Row),
 (⟨"is_rising_below",["thing","many"],top 28,["thing","many"],f80,false⟩:Row),
 (⟨"check_web",["thing"],top 29,["thing"],m30,false⟩:Row),
 (⟨"check_places",["web","thing"],top 30,["web","thing"],g00,false⟩:Row),
 (⟨"marks_by",["web","lot"],top 31,["web","lot","many","ties","marks","number","a","b","kept","gone"],x50,false⟩:Row),
 (⟨"are_joined",["web","lot","places"],top 32,["web","lot","places","marks"],p30,false⟩:Row),
 (⟨"is_chance",["thing"],top 35,["thing","top","bottom"],s80,false⟩:Row),
 (⟨"check_chance",["thing"],top 36,["thing"],g20,false⟩:Row),
 (⟨"all_lots",["web"],top 38,["web","lots","number"],q90,false⟩:Row),
 (⟨"good_lots",["web","places"],top 39,["web","places"],i90,false⟩:Row),
 (⟨"counts",["web","places"],top 41,["web","places","lots","found","lot"],v70,false⟩:Row),
 (⟨"powers",["web","places"],top 42,["web","places","numbers","found","k","many"],v80,false⟩:Row),
 (⟨"share_at",["web","places","chance"],top 43,["web","places","chance","found","number"],i10,false⟩:Row),
 (⟨"_law_cell_at",["_law_script","_law_k"],top 45,["_law_script","_law_k"],g30,false⟩:Row),
 (⟨"_law_state",["_law_script","_law_k"],top 46,["_law_script","_law_k","_law_cell"],k00,false⟩:Row),
 (⟨"_law_take",["_law_state_here","_law_many"],top 47,["_law_state_here","_law_many","_law_found","_law_stirred"],s90,false⟩:Row),
 (⟨"_law_web",["_law_state_here","_law_most"],top 48,["_law_state_here","_law_most","_law_many","_law_ties","_law_turn","_law_one","_law_other"],x60,false⟩:Row),
 (⟨"_law_places",["_law_state_here","_law_web_here"],top 49,["_law_state_here","_law_web_here","_law_way","_law_one"],m40,false⟩:Row),
 (⟨"_law_lowest",["_law_top","_law_bottom"],top 50,["_law_top","_law_bottom","_law_one","_law_other"],m50,false⟩:Row),
 (⟨"_law_chance",["_law_state_here"],top 51,["_law_state_here","_law_some","_law_way","_law_bottom"],m60,false⟩:Row),
 (⟨"_law_with",["_law_web_here","_law_lot","_law_place"],top 52,["_law_web_here","_law_lot","_law_place","_law_found","_law_turn","_law_number","_law_one","_law_other"],t00,false⟩:Row),
 (⟨"_law_good",["_law_web_here","_law_lot","_law_places_here"],top 53,["_law_web_here","_law_lot","_law_places_here","_law_here"],t10,false⟩:Row),
 (⟨"_law_lots",["_law_web_here"],top 54,["_law_web_here","_law_found","_law_number"],F10,false⟩:Row),
 (⟨"_law_whole",["_law_thing"],top 55,["_law_thing"],p40,false⟩:Row),
 (⟨"_law_rising",["_law_many","_law_thing"],top 56,["_law_many","_law_thing"],d80,false⟩:Row),
 (⟨"_law_bent_rising",["_law_state_here","_law_many","_law_some"],top 57,["_law_state_here","_law_many","_law_some","_law_at_here","_law_odd","_law_found"],f10,false⟩:Row),
 (⟨"_law_bad_chances",["_law_state_here","_law_chances"],top 58,["_law_state_here","_law_chances","_law_at_here","_law_odd","_law_some"],f20,false⟩:Row),
 (⟨"_law_bad_web",["_law_state_here"],top 59,["_law_state_here","_law_some"],k60,false⟩:Row),
 (⟨"_law_same",["_law_found","_law_due"],top 60,["_law_found","_law_due"],j00,false⟩:Row),
 (⟨"_law_powers",["_law_web_here","_law_places_here"],top 62,["_law_web_here","_law_places_here","_law_found","_law_lot","_law_row","_law_turn"],h70,false⟩:Row),
 (⟨"_law_at",["_law_numbers","_law_chance_here"],top 63,["_law_numbers","_law_chance_here","_law_top","_law_bottom","_law_found","_law_at_here","_law_part","_law_turn","_law_whole_here"],F20,false⟩:Row),
 (⟨"law",["_law_script"],top 64,["_law_script","_law_k","_law_state_here","_law_web_here","_law_places_here","_law_due","_law_lap","_law_found","_law_chance_here","_law_bad","_law_odd","_law_none"],P81,true⟩:Row)]
def T:List Df:=[(Df.code 2 2 g90:Df),(Df.code 2 3 M90:Df),(Df.code 2 2 C81:Df),(Df.code 2 2 b81:Df),(Df.code 1 1 I10:Df),(Df.code 2 2 x30:Df),(Df.code 2 4 N00:Df),(Df.code 2 2 x40:Df),(Df.code 1 3 N10:Df),(Df.code 1 1 b91:Df),(Df.code 2 2 f80:Df),(Df.code 1 1 m30:Df),(Df.code 2 2 g00:Df),(Df.code 2 10 x50:Df),(Df.code 3 4 p30:Df),(Df.code 1 3 s80:Df),(Df.code 1 1 g20:Df),(Df.code 1 3 q90:Df),(Df.code 2 2 i90:Df),(Df.code 2 5 v70:Df),(Df.code 2 6 v80:Df),(Df.code 3 5 i10:Df),(Df.code 2 2 g30:Df),(Df.code 2 3 k00:Df),(Df.code 2 4 s90:Df),(Df.code 2 7 x60:Df),(Df.code 2 4 m40:Df),(Df.code 2 4 m50:Df),(Df.code 1 4 m60:Df),(Df.code 3 8 t00:Df),(Df.code 3 4 t10:Df),(Df.code 1 3 F10:Df),(Df.code 1 1 p40:Df),(Df.code 2 2 d80:Df),(Df.code 3 6 f10:Df),(Df.code 2 5 f20:Df),(Df.code 1 2 k60:Df),(Df.code 2 2 j00:Df),(Df.code 2 6 h70:Df),(Df.code 2 9 F20:Df),(Df.code 1 12 P81:Df)]
÷Y42:tabOf rows=T:=rfl
end K3
namespace K3
open Q
open L2 (D)
def p50:D->Bool
 |.int _=>true
 |_=>false
÷m70(k:Nat)(x:D)(z:Z):b40 T (k + 3) l00 [.d x] z=some (.ok (.d (.bl (p50 x))) z):=by
 cases z <;> cases x <;> rfl
def b80(x:D)(m:Int):Bool:=match x with
 |.int i=>decide (0<=i)&&decide (i < m)
 |_=>false
÷t20(k:Nat)(x:D)(m:Int)(z:Z):b40 T (k + 4) q80 [.d x,.d (.int m)] z=some (.ok (.d (.bl (b80 x m))) z):=by
 ¤W.ok (g60 (ps:=2) (ns:=2) (b:=x30) rfl rfl (by decide) (Wo (m70 (k:=k) x z) ?_))
 cases x with
 |int i=>§ib (b:=decide (0<=i)) (λh=>sb (show decide (i < m)=(decide (0<=i)&&decide (i < m)) by rw[h];rfl)) λh=>sb (show false=(decide (0<=i)&&decide (i < m)) by rw[h];rfl)
 |_=>§sb rfl
def H11(x:D)(m:Int):Bool:=match x with
 |.tup [a,b]=>b80 a m&&(b80 b m&&(match a,b with
  |.int i,.int j=>decide (i < j)
  |_,_=>false))
 |_=>false
÷j10(h:b80 x m=true):∃ i,x=.int i/\0<=i/\i < m:=by
 cases x with
 |int i =>
  unfold b80 at h
  rw[Á,decide_eq_true_eq,decide_eq_true_eq] at h
  §⟨i,rfl,h⟩
 |_=>cases h
÷C91(k:Nat)(x:D)(m:Int)(z:Z):b40 T (k + 5) i41 [.d x,.d (.int m)] z=some (.ok (.d (.bl (H11 x m))) z):=by
 ¤W.ok (g60 (ps:=2) (ns:=4) (b:=N00) rfl rfl (by decide) ?_)
 cases x with
 |tup l =>
  match l with
  |[a,b] =>
   ¤Wo (t20 k a m z) (ib (b:=b80 a m) (λh1=>Wo (t20 k b m z) (ib (b:=b80 b m) (λh2=>?_) λh=>?_)) λh=>?_)
   ·¶⟨i,rfl,_⟩:=j10 h1
    ¶⟨j,rfl,_⟩:=j10 h2
    §sb (show decide (i < j)=(b80 (.int i) m&&(b80 (.int j) m&&decide (i < j))) by rw[h1,h2];rfl)
   ·§sb (show false=(b80 a m&&(b80 b m&&_)) by rw[h1,h];rfl)
   ·§sb (show false=(b80 a m&&_) by rw[h];rfl)
  |[]=>§sb rfl
  |[_]=>§sb rfl
  |_::_::_::_=>§sb rfl
 |_=>§sb rfl
÷F30(l:List D)(p:D->Bool):bfD .all [.lst (l.map λx=>D.bl (p x))]=some (.d (.bl (l.all p))):=by
 have h:(l.map λx=>D.bl (p x)).mapM asB=some (l.map p):=by
  induction l with
  |nil=>rfl
  |cons x r ih =>
   rw[Å7,mapM_cons,ih];rfl
 show((l.map λx=>D.bl (p x)).mapM asB).map _=_
 rw[h]
 simp[all_map]
÷i61(l:List D)(n:Nat):cutD l (some (n:Int)) none=l.drop n:=by
 have h1:HT.sIx l.length 0 (some (n:Int))=min n l.length:=HT.r61 l.length 0 n
 unfold cutD
 rw[h1]
 show((l.drop (min n l.length)).take (l.length - min n l.length))=_
 rcases Nat.le_total n l.length with h | h
 ·rw[Ñ3 h,È7 (by rw[Í6];omega)]
 ·rw[Ì1 h,drop_length,List.take_nil,List.drop_of_length_le h]
÷r00:∀ a b:List D,(n30 a b).length<=a.length
 |[],_=>Í _
 |_::_,[]=>Æ6 _
 |_::r,_::q=>Ü6 (r00 r q)
÷N20:∀ {a b:List D}{d:D},d∈n30 a b->∃ x∈a,∃ y∈b,d=.tup [x,y]
 |x::r,y::q,d,h=>by
  rcases ú.mp h with h | h
  ·§⟨x,Ì,y,Ì,h⟩
  ·¶⟨u,hu,v,hv,e⟩:=N20 h
   §⟨u,È _ hu,v,È _ hv,e⟩
def leD:D->Bool
 |.tup [.tup a,.tup b]=>(match Z40 a,Z40 b with
  |some ns,some ms=>HT.leB ns ms
  |_,_=>false)
 |_=>false
def i71(l:List D):Bool:=(n30 l (l.drop 1)).all leD
def c01(x:D)(m:Int):Bool:=match x with
 |.tup l=>decide (l.length<=8)&&(l.all (λt=>H11 t m)&&i71 l)
 |_=>false
÷U50(h:H11 x m=true):∃ i j,x=.tup [.int i,.int j]/\0<=i/\i < j/\j < m:=by
 cases x with
 |tup l =>
  match l,h with
  |[a,b],h =>
   unfold H11 at h
   rw[Á,Á] at h
   ¶⟨h1,h2,h3⟩:=h
   ¶⟨i,rfl,i1,i2⟩:=j10 h1
   ¶⟨j,rfl,j1,j2⟩:=j10 h2
   §⟨i,j,rfl,i1,of_decide_eq_true h3,j2⟩
 |_=>cases h
÷o20(h:n<=1000):n<=most:=Ñ h (by decide)
÷c21(k:Nat)(x:D)(m:Int)(z:Z):b40 T (k + 6) H70 [.d x,.d (.int m)] z=some (.ok (.d (.bl (c01 x m))) z):=by
 ¤W.ok (g60 (ps:=2) (ns:=2) (b:=x40) rfl rfl (by decide) ?_)
 cases x with
 |tup l =>
  ¤ib (b:=decide ((8:Int) < (l.length:Int))) (λh=>?_) λh=>?_
  ·¤sb (show false=(decide (l.length<=8)&&_) from ?_)
   rw[decide_eq_true_eq] at h
   rw[decide_eq_false (by omega)];rfl
  ·rw[decide_eq_false_iff_not] at h
   have h8:l.length<=8:=by omega
   ¤ip (o20 (by omega)) (q21 (λx=>.bl (H11 x m)) (λx _=>Wo (C91 k x m z) ⟨rfl,rfl⟩) ?_)
   ¤(a00 (F30 l λx=>H11 x m) ?_ :)
   ¤ib (b:=!l.all λx=>H11 x m) (λh=>?_) λh2=>?_
   ·§sb (show false=(decide (l.length<=8)&&(l.all (λt=>H11 t m)&&i71 l)) by rw[À1] at h;rw[h,Õ7,Bool.and_false])
   ·rw[Í4] at h2
    have ha:=Õ.mp h2
    have e1:cutD l (some 1) none=l.drop 1:=i61 l 1
    ¤ip (c:=(n30 l (cutD l (some 1) none)).length<=most) (Ñ (r00 _ _) (o20 (by omega))) (q21 (λx=>.bl (leD x)) (λx hx=>?_) (a00 (F30 _ leD) ?_ :))
    ·¶⟨u,hu,v,hv,rfl⟩:=N20 hx
     rw[e1] at hv
     ¶⟨i,j,rfl,_⟩:=U50 (ha u hu)
     ¶⟨i',j',rfl,_⟩:=U50 (ha v (List.mem_of_mem_drop hv))
     §⟨rfl,rfl⟩
    ·¤sb (b:=(n30 l (cutD l (some 1) none)).all leD) ?_
     show _=(decide (l.length<=8)&&(l.all (λt=>H11 t m)&&i71 l))
     rw[e1,h2,decide_eq_true h8,Ä9,Ä9];rfl
 |_=>§sb rfl
def P92(a t:D):Bool:=match a with
 |.int m=>decide (1<=m)&&(decide (m<=6)&&c01 t m)
 |_=>false
def o41(x:D):Bool:=match x with
 |.tup [a,t]=>P92 a t
 |_=>false
÷U60(k:Nat)(x:D)(z:Z):b40 T (k + 7) i51 [.d x] z=some (.ok (.d (.bl (o41 x))) z):=by
 ¤W.ok (g60 (ps:=1) (ns:=3) (b:=N10) rfl rfl (by decide) ?_)
 cases x with
 |tup l =>
  match l with
  |[a,t] =>
   ¤Wo (m70 (k + 3) a _) ?_
   cases a with
   |int m =>
    ¤ib (b:=decide (1<=m)) (λg1=>ib (b:=decide (m<=6)) (λg2=>Wo (c21 k t m _) ?_) λg2=>?_) λg1=>?_
    ·§sb (show c01 t m=(decide (1<=m)&&(decide (m<=6)&&c01 t m)) by rw[g1,g2];rfl)
    ·§sb (show false=(decide (1<=m)&&(decide (m<=6)&&c01 t m)) by rw[g1,g2];rfl)
    ·§sb (show false=(decide (1<=m)&&(decide (m<=6)&&c01 t m)) by rw[g1];rfl)
   |_=>§sb rfl
  |[]=>§sb rfl
  |[_]=>§sb rfl
  |_::_::_::_=>§sb rfl
 |_=>§sb rfl
÷g40(k:Nat)(z:Z)(h:o41 x=true):b40 T (k + 8) l80 [.d x] z=some (.ok (.d .non) z) :=
 W.ok (g60 (ps:=1) (ns:=1) (b:=m30) rfl rfl (by decide) (Wo (U60 k x z) (ie (b:=!o41 x) (by rw[h];rfl) (sd rfl))))
÷y90(k:Nat)(z:Z)(h:o41 x=false):b40 T (k + 8) l80 [.d x] z=some (.er 0 z) :=
 W.er (g60 (ps:=1) (ns:=1) (b:=m30) rfl rfl (by decide) (Wo (U60 k x z) (it (b:=!o41 x) (by rw[h];rfl) ⟨rfl,c40 z⟩)))
÷o51(hj:0 < j):A60 .mod (.int i) (.int j)=some (.d (.int (i % j))):=by
 show(if 0 < j then some (S.d (.int (i % j))) else none)=_
 rw[if_pos hj]
def GT(n:Nat)(a b:Int):Prop:=0<=b/\((∃ k:Nat,n=2 * k + 1/\b < 2 ^ k)∨∃ k:Nat,n=2 * k/\b < a/\a < 2 ^ k)
÷GT.step(h:GT n a b)(hb:0 < b):∃ m,m < n/\GT m b (a % b):=by
 ¶⟨h0,h⟩:=h
 have r0:=Ö2 a (show b≠0 by omega)
 have r1:=emod_lt_of_pos a hb
 rcases h with ⟨k,rfl,hk⟩ | ⟨k,rfl,hba,hk⟩
 ·§⟨2 * k,Ì2 _,r0,.inr ⟨k,rfl,r1,hk⟩⟩
 ·cases k with
  |zero=>simp at hk;omega
  |succ k =>
   ¤⟨2 * k + 1,by omega,r0,.inl ⟨k,rfl,?_⟩⟩
   have e:=Int.emod_add_mul_ediv a b
   have q1:1<=a / b:=Int.le_ediv_of_mul_le hb (by omega)
   have:b * 1<=b * (a / b):=Int.mul_le_mul_of_nonneg_left q1 (by omega)
   have h2:(2:Int) ^ (k + 1)=2 * 2 ^ k:=by rw[Ç6,Ú9]
   rw[h2] at hk
   omega
÷D01(a b:Int):gcd b (a % b)=gcd a b:=by
 rw[Int.emod_def,Int.gcd_sub_mul_left_right,Int.gcd_comm]
def big(b:Int):Prop:=b < 2 ^ 4000
÷i62(h0:0<=b)(h:big b):b.natAbs < P00:=by
 have h:b < 2 ^ 4000:=h
 have e:((2 ^ 4000:Nat):Int)=2 ^ 4000:=by rw[Int.natCast_pow];rfl
 show b.natAbs < 2 ^ 4000
 omega
÷U70(h:b<=2 ^ 64):big b:=Int.lt_of_le_of_lt h (by decide)
÷l20(k:Nat)(a b:Int)(z:Z)(h0:0 < b)(h1:big b):b40 T (k + 3) g80 [.d (.int a),.d (.int b)] z=some (.ok (.d (.int (gcd a b))) z):=by
 ¤W.ok (g60 (ps:=2) (ns:=2) (b:=g90) rfl rfl (by decide) (z32 (λn ρ z1=>z1=z/\∃ c d:Int,ρ=[some (.d (.int c)),some (.d (.int d))]/\GT n c d/\gcd c d=gcd a b/\(d=0->0<=c)) (2 * 4000 + 1) ⟨rfl,a,b,rfl,⟨Int.le_of_lt h0,.inl ⟨4000,rfl,h1⟩⟩,rfl,λh=>by omega⟩ (by decide) ?_))
 rintro n ρ z1 ⟨rfl,c,d,rfl,g,hg,hc⟩
 ¤ib (b:=decide (0 < d)) (λhd=>?_) λhd=>?_
 ·rw[decide_eq_true_eq] at hd
  ¶⟨m,hm,g'⟩:=g.step hd
  ¤(a00 (o51 (i:=c) hd) ?_ :)
  §⟨m,hm,rfl,d,c % d,rfl,g',(D01 c d).trans hg,λ_=>Int.le_of_lt hd⟩
 ·rw[decide_eq_false_iff_not] at hd
  have hz:d=0:=by have:=g.1;omega
  subst hz
  rw[Int.gcd_zero_right] at hg
  ¤sd (s:=.d (.int c)) ?_
  rw[← hg,show((c.natAbs:Nat):Int)=c by have:=hc rfl;omega]
def chI(t b:Int):Bool:=(decide (1<=b)&&decide (b<=1000))&&((decide (0<=t)&&decide (t<=b))&&(((gcd t b:Nat):Int) == 1))
def chP:D->D->Bool
 |.int t,.int b=>chI t b
 |_,_=>false
def chD:D->Bool
 |.tup [d,e]=>chP d e
 |_=>false
÷i81(h:¬ (1<=u/\u<=1000/\0<=t/\t<=u)):false=chI t u:=by
 unfold chI
 ¤Eq.symm ?_
 rw[Bool.eq_false_iff]
 intro q
 rw[Á,Á,Á,Á,decide_eq_true_eq,decide_eq_true_eq,decide_eq_true_eq,decide_eq_true_eq] at q
 §h ⟨q.1.1,q.1.2,q.2.1.1,q.2.1.2⟩
÷z00(k:Nat)(x:D)(z:Z):b40 T (k + 4) E60 [.d x] z=some (.ok (.d (.bl (chD x))) z):=by
 ¤W.ok (g60 (ps:=1) (ns:=3) (b:=s80) rfl rfl (by decide) ?_)
 cases x with
 |tup l =>
  match l with
  |[a,b] =>
   ¤Wo (m70 k a z) ?_
   cases a with
   |int t =>
    ¤Wo (m70 k b z) ?_
    cases b with
    |int u =>
     ¤ib (b:=decide (1<=u)) (λh1=>ib (b:=!decide (u<=1000)) (λh2=>?_) λh2=>ib (b:=decide (0<=t)) (λh3=>ib (b:=!decide (t<=u)) (λh4=>?_) λh4=>?_) λh3=>?_) λh1=>?_
     ·§sb (i81 λq=>by rw[À1,decide_eq_false_iff_not] at h2;§h2 q.2.1)
     ·§sb (i81 λq=>by rw[À1,decide_eq_false_iff_not] at h4;§h4 q.2.2.2)
     ·rw[Í4,decide_eq_true_eq] at h2 h4
      rw[decide_eq_true_eq] at h1 h3
      ¤Wo (l20 k t u z (by omega) (U70 (by omega))) (sb (show(((gcd t u:Nat):Int) == 1)=chI t u from ?_))
      unfold chI
      rw[decide_eq_true h1,decide_eq_true h2,decide_eq_true h3,decide_eq_true h4];rfl
     ·§sb (i81 λq=>by rw[decide_eq_false_iff_not] at h3;§h3 q.2.2.1)
     ·§sb (i81 λq=>by rw[decide_eq_false_iff_not] at h1;§h1 q.1)
    |_=>§sb rfl
   |_=>§sb rfl
  |[]=>§sb rfl
  |[_]=>§sb rfl
  |_::_::_::_=>§sb rfl
 |_=>§sb rfl
def ZI(z:Z):Prop:=∃ n b,z=some (n,b)/\0<=n/\(b=false->n < 2147483647)
÷i72{T:List Df}{k f ps ns:Nat}{b:Sm}{l:List S}{z:Z}{Q:S->Z->Prop}{E:Nat->Z->Prop}(hz:ZI z)(h:T[f]?=some (.code ps ns b))(hl:l.length=ps)(hn:ps<=ns)(q:WS (H10 T (k + 2)) false b (start ns (l.map plS)) z (λo z1=>match o with
  |.nx _=>Q (.d .non) z1
  |.rt s=>Q s z1) E):W (b40 T (k + 3) f l) z Q E:=by
 ¶⟨n,c,rfl,_⟩:=hz
 ¤g60 h hl hn (q.mono (λo z1 h=>?_) λ_ _ h=>h)
 cases o <;> §h
÷D11{a:Int}{n:Nat}(h:a.natAbs < n)(hn:n<=2 ^ 64:=by decide):a.natAbs < P00:=Ú h (Ñ hn (by decide))
÷o61{i j:Int}(hi:i.natAbs < 2 ^ 64)(hj:j.natAbs < 2 ^ 64):A60 .mul (.int i) (.int j)=some (.d (.int (i * j))):=by
 show(if i.natAbs < P00/\j.natAbs < P00 then some (S.d (.int (i * j))) else none)=_
 rw[if_pos ⟨D11 hi,D11 hj⟩]
÷N02{i j:Int}(hj:0 < j)(hb:j.natAbs < 2 ^ 64):A60 .fdiv (.int i) (.int j)=some (.d (.int (i / j))):=by
 show(if 0 < j/\j.natAbs < P00 then some (S.d (.int (i / j))) else none)=_
 rw[if_pos ⟨hj,D11 hb⟩]
def Drawn(m:Int)(s:S)(z1:Z):Prop:=ZI z1/\∃ r:Nat,s=.d (.int r)/\(r:Int) < m
÷d60(k:Nat)(m:Int)(hz:ZI z)(m0:0 < m)(m1:m < 2 ^ 32):W (b40 T (k + 3) a50 [.z,.d (.int m)]) z (Drawn m) NE:=by
 have fin:∀ (a:Int) (z1:Z),ZI z1->Drawn m (.d (.int (a % m))) z1:=λa z1 h=>by
  have h0:=Ö2 a (show m≠0 by omega)
  §⟨h,(a % m).toNat,by rw[Int.toNat_of_nonneg h0],by rw[Int.toNat_of_nonneg h0];§emod_lt_of_pos _ m0⟩
 ¤i72 hz (ps:=2) (ns:=4) (b:=s90) rfl rfl (by decide) ?_
 ¶⟨n,b,rfl,n0,n1⟩:=hz
 cases b with
 |true =>
  ¤(a00 (o51 (i:=n) m0) ?_ :)
  ¤(a00 (N02 (i:=n) m0 (by omega)) ?_ :)
  §fin n _ ⟨n / m,true,rfl,Int.ediv_nonneg n0 (by omega),λh=>nomatch h⟩
 |false =>
  have n1:=n1 rfl
  have e1:∀ a:Int,0<=a % 2147483647/\a % 2147483647 < 2147483647:=λa=>⟨emod_nonneg _ (by decide),emod_lt_of_pos _ (by decide)⟩
  have e2:∀ a:Int,0<=a % 2147483629/\a % 2147483629 < 2147483629:=λa=>⟨emod_nonneg _ (by decide),emod_lt_of_pos _ (by decide)⟩
  have s1:∀ a:Int,(a % 2147483647).natAbs < 2 ^ 64:=λa=>by have:=e1 a;omega
  have s2:∀ a:Int,(a % 2147483629).natAbs < 2 ^ 64:=λa=>by have:=e2 a;omega
  ¤(a00 (o61 (i:=n) (j:=48271) (by omega) (by decide)) ?_ :)
  have a1:=e1 (n * 48271 + 29)
  ¤(a00 (o61 (s1 (n * 48271 + 29)) (s1 (n * 48271 + 29))) ?_ :)
  ¤(a00 (o61 (i:=39373) (by decide) (s1 (n * 48271 + 29))) ?_ :)
  ¤(a00 (o61 (s2 _) (s2 _)) ?_ :)
  ¤(a00 (o61 (i:=16807) (by decide) (s2 _)) ?_ :)
  ¤(a00 (o51 m0) ?_ :)
  §fin _ _ ⟨_,false,rfl,a1.1,λ_=>a1.2⟩
÷o71(k:Nat)(ns:List Int)(j:Nat)(z:Z):∃ c:Int,b40 T (k + 3) s10 [.d (.lst (ns.map D.int)),.d (.int j)] z=some (.ok (.d (.int c)) z):=by
 by_cases h:j < ns.length
 ·¤⟨ns[j],W.ok (g60 (ps:=2) (ns:=2) (b:=g30) rfl rfl (by decide) (it (b:=decide ((j:Int) < ((ns.map D.int).length:Int))) (by simp[h]) ?_))⟩
  ¤(a00 (o:=Z60 (.lst (ns.map D.int)) (.int j)) (L2.w60 (v:=.int ns[j]) (by simp[h])) ?_ :)
  §sd rfl
 ·§⟨0,W.ok (g60 (ps:=2) (ns:=2) (b:=g30) rfl rfl (by decide) (ie (b:=decide ((j:Int) < ((ns.map D.int).length:Int))) (by simp;omega) (sd rfl)))⟩
÷P91(k:Nat)(ns:List Int)(j:Nat)(z:Z):∃ (n:Int) (b:Bool),ZI (some (n,b))/\b40 T (k + 4) y70 [.d (.lst (ns.map D.int)),.d (.int j)] z=some (.ok (.fr [.int n,.bl b]) z):=by
 ¶⟨c,hc⟩:=o71 k ns j z
 by_cases h:(10 ^ 18:Int)<=c
 ·§⟨c - 10 ^ 18,true,⟨_,_,rfl,by omega,λh=>nomatch h⟩,W.ok (g60 (ps:=2) (ns:=3) (b:=k00) rfl rfl (by decide) (Wo hc (it (b:=decide ((10 ^ 18:Int)<=c)) (decide_eq_true h) (sd rfl))))⟩
 ·¤⟨c % 2147483647,false,⟨_,_,rfl,emod_nonneg _ (by decide),λ_=>emod_lt_of_pos _ (by decide)⟩,W.ok (g60 (ps:=2) (ns:=3) (b:=k00) rfl rfl (by decide) (Wo hc (ie (b:=decide ((10 ^ 18:Int)<=c)) (decide_eq_false h) (sd rfl))))⟩
÷U80(h0:0<=m)(h1:m < 100000):itD .rng1 [.int m]=some ((î m.toNat).map λ(i:Nat)=>D.int i):=by
 show(if inR m=true then _ else none)=_
 rw[if_pos (G20.mpr ⟨by omega,h1⟩)]
÷ne_nil(h:okD (.lst l)=true):A70 .ne (.lst l) (.lst [])=some (!l.isEmpty):=by
 show(eqO (.lst l) (.lst [])).map (!·)=_
 unfold eqO
 rw[h]
 cases l <;> rfl
÷N30:∀ l:List Int,e00 (l.map D.int)=true/\f40 (l.map D.int)=0
 |[]=>⟨rfl,rfl⟩
 |x::r=>by
  ¶⟨h1,h2⟩:=N30 r
  ¤⟨h1,?_⟩
  show Ð9 0 (f40 (r.map D.int))=0
  rw[h2];rfl
÷D21(l:List Int):okD (.lst (l.map D.int))=true:=by
 ¶⟨h1,h2⟩:=N30 l
 show(e00 (l.map D.int)&&decide (f40 (l.map D.int) + 1<=40))=true
 rw[h1,h2];rfl
÷Q01(n:Nat):(î n).map (λ(i:Nat)=>D.int i)=((î n).map λ(i:Nat)=>(i:Int)).map D.int:=by
 rw[ï];rfl
÷I20:∀ l:List Int,o00 (l.map D.int)=true
 |[]=>rfl
 |_::r=>I20 r
÷i82{l:List Int}{j:Nat}(h:j < l.length):(l.map D.int)[j]?=some (.int l[j]):=by rw[Ü,æ h];rfl
÷c31{j:Nat}(h:l[j]?=some x):Z60 (.lst l) (.int j)=some x:=L2.w60 h
÷z62{j:Nat}(h:l[j]?=some x):Z60 (.tup l) (.int j)=some x:=L2.w60 h
def pr(p:Int × Int):D:=.tup [.int p.1,.int p.2]
def ky(p:Int × Int):List Int:=[p.1,p.2]
÷Y52(a b c d:Int):MySort.h30 [a,b] [c,d]=if a=c then(if b=d then false else decide (b < d)) else decide (a < c):=rfl
def Ch:List (Int × Int)->Prop
 |a::b::r=>HT.leB (ky a) (ky b)=true/\Ch (b::r)
 |_=>True
÷i91(h:MySort.h30 (ky p) (ky q)=true):HT.leB (ky p) (ky q)=true:=by
 unfold HT.leB
 unfold ky at h ⊢
 rw[Y52] at h ⊢
 by_cases h1:p.1=q.1
 ·rw[if_pos h1] at h
  rw[if_pos h1.symm]
  by_cases h2:p.2=q.2
  ·rw[if_pos h2] at h;cases h
  ·rw[if_neg h2] at h
   rw[if_neg (Â3 h2)]
   simp only[decide_eq_true_eq] at h
   simp;omega
 ·rw[if_neg h1] at h
  rw[if_neg (Â3 h1)]
  simp only[decide_eq_true_eq] at h
  simp;omega
def H21(k:Int × Int):List (Int × Int)->List (Int × Int)
 |[]=>[k]
 |y::r=>if MySort.h30 (ky y) (ky k) then y::H21 k r else k::y::r
def o81:List (Int × Int)->List (Int × Int)
 |[]=>[]
 |k::r=>H21 k (o81 r)
÷U90(k:Int × Int):∀ l,(H21 k l).Perm (k::l)
 |[]=>.refl _
 |y::r=>by
  unfold H21
  split
  ·§((U90 k r).cons y).trans (.swap _ _ _)
  ·§.refl _
÷I30:∀ l,(o81 l).Perm l
 |[]=>.refl _
 |k::r=>(U90 k _).trans ((I30 r).cons k)
÷D31(k:Int × Int):∀ l,Ch l->Ch (H21 k l)
 |[],_=>trivial
 |[y],_=>by
  unfold H21
  split
  ·rename_i h;§⟨i91 h,trivial⟩
  ·rename_i h
   ¤⟨?_,trivial⟩
   unfold HT.leB
   simpa using h
 |y::x::r,h=>by
  ¶⟨h1,h2⟩:=h
  have ih:=D31 k (x::r) h2
  unfold H21
  split
  ·rename_i hy
   unfold H21 at ih ⊢
   split at ih
   ·rename_i hx
    rw[if_pos hx]
    §⟨h1,ih⟩
   ·rename_i hx
    rw[if_neg hx]
    §⟨i91 hy,ih⟩
  ·rename_i hy
   ¤⟨?_,h1,h2⟩
   unfold HT.leB
   simpa using hy
÷j01:∀ l,Ch (o81 l)
 |[]=>trivial
 |k::r=>D31 k _ (j01 r)
÷j11(k:Int × Int):∀ l:List (Int × Int),q11 (pr k) (l.map pr)=(H21 k l).map pr
 |[]=>rfl
 |y::r=>by
  unfold H21
  show(if MySort.h30 (ky y) (ky k) then pr y::q11 (pr k) (r.map pr) else pr k::pr y::r.map pr)=_
  split
  ·rw[j11 k r];rfl
  ·rfl
÷V00:∀ l:List (Int × Int),u60 (l.map pr)=(o81 l).map pr
 |[]=>rfl
 |k::r=>by
  show q11 (pr k) (u60 (r.map pr))=_
  rw[V00 r,j11];rfl
÷N12(p q:Int × Int):ltD (pr p) (pr q)=some (MySort.h30 (ky p) (ky q)):=by
 show(if (p.1 == q.1)=true then(if (p.2 == q.2)=true then some false else some (decide (p.2 < q.2))) else some (decide (p.1 < q.1)))=some (if p.1=q.1 then(if p.2=q.2 then false else decide (p.2 < q.2)) else decide (p.1 < q.1))
 simp only[beq_iff_eq]
 split
 ·split <;> rfl
 ·rfl
÷i92(p q:Int × Int):i50 (pr p) (pr q)=true:=by
 unfold i50
 rw[N12]
 show(true&&((some (MySort.h30 (ky p) (ky q)) == some (MySort.h30 (ky p) (ky q)))&&(((p.1 == q.1)&&((p.2 == q.2)&&true)) || !([p.1,p.2] == [q.1,q.2]))))=true
 rw[beq_self_eq_true,Ä9,Ä9,Ö9]
 by_cases h1:p.1=q.1 <;> by_cases h2:p.2=q.2 <;> simp[h1,h2]
÷D41(l:List (Int × Int)):n10 (l.map pr)=true:=by
 ¤Õ.mpr λx hx=>?_
 ¶⟨p,_,rfl⟩:=Ö.mp hx
 show(true&&(true&&(l.map pr).all (i50 (pr p))))=true
 ¤Õ.mpr λy hy=>?_
 ¶⟨q,_,rfl⟩:=Ö.mp hy
 §i92 p q
÷D51(h:l.length < 64):bfD .sorted [.lst (l.map pr)]=some (.fr ((o81 l).map pr)):=by
 show(if (l.map pr).length < 64/\n10 (l.map pr)=true then some (S.fr (u60 (l.map pr))) else(O82 (l.map pr)).map S.fr)=_
 rw[if_pos ⟨by rw[É];§h,D41 l⟩,V00]
÷j21:∀ {l:List (Int × Int)},Ch l->i71 (l.map pr)=true
 |[],_=>rfl
 |[_],_=>rfl
 |a::b::r,h=>by
  have ih:=j21 h.2
  show((n30 (pr a::pr b::r.map pr) (pr b::r.map pr)).all leD)=true
  have e:n30 (pr a::pr b::r.map pr) (pr b::r.map pr)=.tup [pr a,pr b]::n30 (pr b::r.map pr) (r.map pr):=rfl
  rw[e,Ä5,Á]
  §⟨h.1,ih⟩
def B30(m:Int)(ps:List (Int × Int)):D:=.tup [.int m,.tup (ps.map pr)]
structure f30(m:Int)(ps:List (Int × Int)):Prop where
 m1:1<=m
 m6:m<=6
 len:ps.length<=8
 tie:∀ p∈ps,0<=p.1/\p.1 < p.2/\p.2 < m
 ch:Ch ps
÷f30.web(g:f30 m ps):o41 (B30 m ps)=true:=by
 unfold B30 o41 P92 c01
 simp only[Á,decide_eq_true_eq,Æ9,É]
 ¤⟨g.m1,g.m6,g.len,λt ht=>?_,j21 g.ch⟩
 ¶⟨p,hp,rfl⟩:=Ö.mp ht
 ¶⟨h1,h2,h3⟩:=g.tie p hp
 unfold pr H11 b80
 simp only[Á,decide_eq_true_eq]
 omega
÷z72(h1:0<=i)(hi:i < 100)(h0:-100 < m)(h:m < 100000):itD .rng2 [.int i,.int m]=some ((î (m - i).toNat).map λ(k:Nat)=>D.int (i + k)):=by
 show(if inR i=true/\inR m=true then _ else none)=_
 rw[if_pos ⟨G20.mpr (by omega),G20.mpr (by omega)⟩]
÷F40{L:List D}{n:Nat}(f:D->Bool)(h:n < L.length)(ha:L.all f=true):∃ x,L[n]?=some x/\f x=true :=
 ⟨L[n],æ h,Õ.mp ha _ (É2 h)⟩
def btw(a b:Int):D->Bool
 |.int i=>decide (a<=i)&&decide (i<=b)
 |_=>false
÷D61(h:btw a b x=true):∃ i,x=.int i/\a<=i/\i<=b:=by
 cases x with
 |int i =>
  unfold btw at h
  rw[Á,decide_eq_true_eq,decide_eq_true_eq] at h
  §⟨i,rfl,h⟩
 |_=>cases h
÷z82(l:List D)(h:0<=n):cutD l none (some n)=l.take n.toNat:=by
 ¶⟨k,rfl⟩:=Ë3 h
 have h1:HT.sIx l.length l.length (some (k:Int))=min k l.length:=HT.r61 _ _ k
 unfold cutD
 rw[h1]
 show(l.drop 0).take (min k l.length - 0)=_
 rw[List.drop_zero,Nat.sub_zero,Á9]
 rcases Nat.le_total k l.length with h | h
 ·rw[Ñ3 h]
 ·rw[Ì1 h,List.take_length,È7 h]
÷Q11{α:Type}{l:List α}{a:α}:(l++[a]).length=l.length + 1:=by rw[Â0];rfl
÷W11(a b:Int):(if b < a then b else a)=min a b/\(if b > a then b else a)=max a b:=by
 constructor <;> (split <;> omega)
÷V10{P:Int × Int->Prop}:∀ {xs ys:List D},PySem.Paired (λ_ y=>∃ c,y=pr c/\P c) xs ys->∃ cs:List (Int × Int),ys=cs.map pr/\cs.length=xs.length/\∀ c∈cs,P c
 |[],_,h=>by cases h;§⟨[],rfl,rfl,λc hc=>nomatch hc⟩
 |x::r,_,h=>by
  cases h with
  |cons h1 h2 =>
   ¶⟨c,rfl,hc⟩:=h1
   ¶⟨cs,rfl,hl,ha⟩:=V10 h2
   ¤⟨c::cs,rfl,by rw[Þ,hl];rfl,λd hd=>?_⟩
   rcases ú.mp hd with rfl | hd
   ·§hc
   ·§ha d hd
def C42(m:Int)(p:Int × Int):Prop:=0<=p.1/\p.1 < p.2/\p.2 < m
abbrev z92(mo m:Int)(ps:List (Int × Int))(o4 o5 o6:Option S):Env:=[some .z,some (.d (.int mo)),some (.d (.int m)),some (.fr (ps.map pr)),o4,o5,o6]
÷A02:z92 mo m (ps++[p]) o4 o5 o6=[some .z,some (.d (.int mo)),some (.d (.int m)),some (.fr (ps.map pr++[pr p])),o4,o5,o6]:=by rw[z92,Æ3];rfl
÷Q21{mo m:Int}{ps:List (Int × Int)}(m1:1<=m)(m6:m<=6)(h0:0<=mo)(h8:mo<=8)(hp:∀ p∈ps,C42 m p)(hl:ps.length < 64):∃ qs,bfD .sorted [.lst (cutD (ps.map pr) none (some mo))]=some (.fr (qs.map pr))/\f30 m qs/\(qs.length:Int)<=mo:=by
 have hl':(ps.take mo.toNat).length < 64:=by rw[Æ7];omega
 ¤⟨o81 (ps.take mo.toNat),by rw[z82 _ h0,← List.map_take];§D51 hl',?_⟩
 have hperm:=I30 (ps.take mo.toNat)
 have hlen:=hperm.length_eq
 rw[Æ7] at hlen
 §⟨⟨m1,m6,by omega,λq hq=>hp q (List.mem_of_mem_take (hperm.mem_iff.mp hq)),j01 _⟩,by omega⟩
÷D71(k:Nat){mo:Int}{z:Z}(hz:ZI z)(h0:0<=mo)(h8:mo<=8):W (b40 T (k + 5) I00 [.z,.d (.int mo)]) z (λs z1=>ZI z1/\∃ m ps,s=.d (B30 m ps)/\f30 m ps/\(ps.length:Int)<=mo) NE:=by
 ¤i72 hz (ps:=2) (ns:=7) (b:=x60) rfl rfl (by decide) ?_
 ¤(d60 (k + 1) 8 hz (by decide) (by decide)).imp λs z1 ⟨hz1,n,e,hn⟩=>?_
 subst e
 ¶⟨x,ex,hx⟩:=F40 (L:=[D.int 6,.int 5,.int 4,.int 3,.int 4,.int 5,.int 2,.int 1]) (n:=n) (btw 1 6) (by simp only[Þ,Á1];omega) (by decide)
 ¶⟨m,rfl,m1,m6⟩:=D61 hx
 ¤(a00 (c31 ex) ?_ :)
 ¤(M70 (.fr []) (z92 mo m [] none none none) ?_ ?_ ?_ :)
 ·§⟨rfl,rfl⟩
 ·rfl
 ¤i42 (λρ z2=>ZI z2/\∃ ps:List (Int × Int),ρ=z92 mo m ps none none none/\(∀ p∈ps,C42 m p)/\ps.length<=5) ?_ ?_
 ·¤ib (b:=decide (1 < m)) (λh=>?_) λh=>⟨hz1,[],rfl,(λp hp=>nomatch hp),by simp⟩
  have h:=of_decide_eq_true h
  ¤(d60 (k + 1) 5 hz1 (by decide) (by decide)).imp λs z2 ⟨hz2,v,e,hv⟩=>?_
  subst e
  ¤ib (b:=decide (0 < (v:Int))) (λh1=>?_) λh1=>⟨hz2,[],rfl,(λp hp=>nomatch hp),by simp⟩
  ¤(a00 (z72 (i:=1) (m:=m) (by decide) (by decide) (by omega) (by omega)) ?_ :)
  ¤ip (by rw[É,ù];simp only[most];omega) (Y32 (I:=ZI) (P:=λ_ y=>∃ c,y=pr c/\C42 m c) hz2 (λx hx z3 hz3=>?_) λys z3 hz3 hys=>?_)
  ·¶⟨i,hi,rfl⟩:=Ö.mp hx
   have hi:=Â5.mp hi
   ¤(d60 (k + 1) (1 + (i:Int)) hz3 (by omega) (by omega)).imp λs z4 ⟨hz4,a,e,ha⟩=>?_
   subst e
   §⟨hz4,((a:Int),1 + (i:Int)),rfl,by show(0:Int)<=a;omega,ha,by show 1 + (i:Int) < m;omega⟩
  ·¶⟨cs,rfl,hl,ha⟩:=V10 hys
   rw[É,ù] at hl
   §⟨hz3,cs,rfl,ha,by omega⟩
 ·rintro ρ z2 ⟨hz2,ps,rfl,hp,hl⟩
  ¤(d60 (k + 1) (mo + 1) hz2 (by omega) (by omega)).imp λs z3 ⟨hz3,t,e,ht⟩=>?_
  subst e
  have hj:(if decide (1 < m)=true then(1:Int) else 0)=0∨((if decide (1 < m)=true then(1:Int) else 0)=1/\1 < m):=by
   by_cases h:1 < m
   ·§.inr ⟨by rw[decide_eq_true h];rfl,h⟩
   ·§.inl (by rw[decide_eq_false h];rfl)
  ¤(a00 (o61 (i:=(t:Int)) (j:=if decide (1 < m)=true then(1:Int) else 0) (by omega) (by rcases hj with h | h <;> (first | rw[h] | rw[h.1]) <;> decide)) ?_ :)
  have hc:∃ c:Nat,(t:Int) * (if decide (1 < m)=true then(1:Int) else 0)=c/\c<=8/\(0 < c->1 < m):=by
   rcases hj with h | h
   ·§⟨0,by rw[h,Ô2];rfl,by omega,λh=>absurd h (by omega)⟩
   ·§⟨t,by rw[h.1,mul_one],by omega,λ_=>h.2⟩
  ¶⟨c,ec,hc8,hcm⟩:=hc
  ¤(a00 (o:=itD .rng1 [.int ((t:Int) * (if decide (1 < m)=true then(1:Int) else 0))]) (a:=(î c).map λ(i:Nat)=>D.int i) (by rw[ec,U80 (by omega) (by omega),Á9]) ?_ :)
  ¤r50 (λxs ρ z=>ZI z/\(0 < xs.length->1 < m)/\∃ (ps:List (Int × Int)) (o4 o5 o6:Option S),ρ=z92 mo m ps o4 o5 o6/\(∀ p∈ps,C42 m p)/\ps.length + xs.length<=13) _ ⟨hz3,λh=>hcm (by rw[É,ù] at h;§h),ps,_,_,_,rfl,hp,by rw[É,ù];omega⟩ ?_ ?_
  ·rintro x r ρ z4 ⟨hz4,hm,ps,o4,o5,o6,rfl,hp,hl⟩
   have hm:=hm (by simp)
   ¤(d60 (k + 1) m hz4 (by omega) (by omega)).imp λs z5 ⟨hz5,a,e,ha⟩=>?_
   subst e
   ¤(d60 (k + 1) (m - 1) hz5 (by omega) (by omega)).imp λs z6 ⟨hz6,b,e,hb⟩=>?_
   subst e
   ¤(a00 (o51 (i:=(a:Int) + 1 + b) (j:=m) (by omega)) ?_ :)
   have hq:0<=((a:Int) + 1 + b) % m/\((a:Int) + 1 + b) % m < m/\((a:Int) + 1 + b) % m≠a:=by
    ¤⟨Ö2 _ (by omega),emod_lt_of_pos _ (by omega),?_⟩
    by_cases h:(a:Int) + 1 + b < m
    ·rw[Ñ0 (by omega) h];omega
    ·rw[show(a:Int) + 1 + b=((a:Int) + 1 + b - m) + m from by omega,Int.add_emod_right,Ñ0 (by omega) (by omega)];omega
   generalize ((a:Int) + 1 + b) % m=q at hq ⊢
   ¤ip ⟨rfl,by rw[É];simp only[most,Þ] at hl ⊢;omega⟩ ?_
   ¤⟨hz6,λ_=>hm,ps++[(min (a:Int) q,max (a:Int) q)],some (.d x),some (.d (.int a)),some (.d (.int q)),?_,λp hp'=>?_,by rw[Q11];simp only[Þ] at hl;omega⟩
   ·rw[A02,← (W11 (a:Int) q).1,← (W11 (a:Int) q).2];rfl
   ·rcases Ã6.mp hp' with h | h
    ·§hp p h
    ·rw[é.mp h]
     show 0<=min (a:Int) q/\min (a:Int) q < max (a:Int) q/\max (a:Int) q < m
     omega
  ·rintro ρ z4 ⟨hz4,_,ps,o4,o5,o6,rfl,hp,hl⟩
   ¶⟨qs,e,g,hq⟩:=Q21 m1 m6 h0 h8 hp (by simp only[Á1] at hl;omega)
   ¤(a00 e ?_ :)
   §⟨hz4,m,qs,rfl,g,hq⟩
÷Q31(hj:0 < j)(hb:big j):A60 .fdiv (.int i) (.int j)=some (.d (.int (i / j))):=by
 show(if 0 < j/\j.natAbs < P00 then some (S.d (.int (i / j))) else none)=_
 rw[if_pos ⟨hj,i62 (by omega) hb⟩]
÷t30(h:0 < b):0 < ((gcd t b:Nat):Int):=by
 have:=Int.gcd_pos_of_ne_zero_right (a:=t) (b:=b) (by omega)
 omega
÷N40(h:0 < b)(hb:big b):big (gcd t b:Int):=Int.lt_of_le_of_lt (à6 h (Int.gcd_dvd_right t b)) hb
def n40(t b:Int):Int × Int:=(t / gcd t b,b / gcd t b)
÷V20(k:Nat)(t b:Int)(z:Z)(h0:0 < b)(h1:big b):b40 T (k + 4) M80 [.d (.int t),.d (.int b)] z=some (.ok (.d (pr (n40 t b))) z):=by
 ¤W.ok (g60 (ps:=2) (ns:=3) (b:=M90) rfl rfl (by decide) (Wo (l20 k t b z h0 h1) ?_))
 ¤(a00 (Q31 (i:=t) (t30 (t:=t) h0) (N40 h0 h1)) ?_ :)
 ¤(a00 (Q31 (i:=b) (t30 (t:=t) h0) (N40 h0 h1)) ?_ :)
 §sd rfl
÷N50(h0:0 < b):t=gcd t b * (n40 t b).1/\b=gcd t b * (n40 t b).2:=by
 constructor
 ·§(Int.mul_ediv_cancel' (Int.gcd_dvd_left t b)).symm
 ·§(Int.mul_ediv_cancel' (Int.gcd_dvd_right t b)).symm
÷D81(h0:0 < b):gcd (n40 t b).1 (n40 t b).2=1:=Int.gcd_ediv_gcd_ediv_gcd_of_ne_zero_right (by omega)
÷N60(h0:0 < b):0 < (n40 t b).2:=by
 have g0:=t30 (t:=t) h0
 ¶⟨_,e⟩:=N50 (t:=t) h0
 ¤Int.pos_of_mul_pos_right (a:=gcd t b) ?_ g0
 omega
÷j02(h0:0 < b)(h1:0<=t)(h2:t<=b):0<=(n40 t b).1/\(n40 t b).1<=(n40 t b).2/\(n40 t b).2<=b:=by
 have g0:=t30 (t:=t) h0
 have p0:=N60 (t:=t) h0
 ¶⟨e1,e2⟩:=N50 (t:=t) h0
 ¤⟨Int.ediv_nonneg h1 (Int.le_of_lt g0),Int.le_of_mul_le_mul_left (a:=gcd t b) (by omega) g0,?_⟩
 have:1 * (n40 t b).2<=(gcd t b:Int) * (n40 t b).2:=Int.mul_le_mul_of_nonneg_right (by omega) (by omega)
 omega
÷W21(h:gcd a b=1)(hd:b∣a * d):b∣d:=by
 have h1:Nat.Coprime b.natAbs a.natAbs:=by rw[Nat.coprime_comm];§h
 §Int.natAbs_dvd_natAbs.mp (h1.dvd_of_dvd_mul_left (by rw[← natAbs_mul];§Int.natAbs_dvd_natAbs.mpr hd))
÷o91(hb:0 < b)(hd:0 < d)(h1:gcd a b=1)(h2:gcd c d=1)(h:a * d=c * b):a=c/\b=d:=by
 have k1:b∣d:=W21 h1 ⟨c,by rw[h,Ú9]⟩
 have k2:d∣b:=W21 h2 ⟨a,by rw[← h,Ú9]⟩
 have e:b=d:=Int.le_antisymm (à6 hd k1) (à6 hb k2)
 subst e
 §⟨Ð0 (by omega) h,rfl⟩
def IsC(c:Int × Int):Prop:=1<=c.2/\c.2<=1000/\0<=c.1/\c.1<=c.2/\gcd c.1 c.2=1
÷IsC.ch(h:IsC c):chD (pr c)=true:=by
 ¶⟨h1,h2,h3,h4,h5⟩:=h
 show chI c.1 c.2=true
 unfold chI
 rw[h5,decide_eq_true h1,decide_eq_true h2,decide_eq_true h3,decide_eq_true h4];rfl
÷j12(h0:0 < b)(hb:b<=1000)(h1:0<=t)(h2:t<=b):IsC (n40 t b):=by
 ¶⟨y0,yx,xb⟩:=j02 h0 h1 h2
 have:=N60 (t:=t) h0
 §⟨by omega,by omega,y0,yx,D81 h0⟩
÷v90(k:Nat)(t b:Int)(z:Z)(h0:0 < b)(h1:big b):b40 T (k + 3) m00 [.d (.int t),.d (.int b)] z=some (.ok (.d (pr (n40 t b))) z):=by
 ¤W.ok (g60 (ps:=2) (ns:=4) (b:=m50) rfl rfl (by decide) (z32 (λn ρ z1=>z1=z/\∃ c d:Int,ρ=[some (.d (.int t)),some (.d (.int b)),some (.d (.int c)),some (.d (.int d))]/\GT n c d/\gcd c d=gcd t b/\(d=0->0<=c)) (2 * 4000 + 1) ⟨rfl,_,b,rfl,⟨Int.le_of_lt h0,.inl ⟨4000,rfl,h1⟩⟩,rfl,λh=>by omega⟩ (by decide) ?_))
 rintro n ρ z1 ⟨rfl,c,d,rfl,g,hg,hc⟩
 ¤ib (b:=!(d == 0)) (λhd=>?_) λhd=>?_
 ·rw[À1,beq_eq_false_iff_ne] at hd
  have hd':0 < d:=by have:=g.1;omega
  ¶⟨m,hm,g'⟩:=g.step hd'
  ¤(a00 (o51 (i:=c) hd') ?_ :)
  §⟨m,hm,rfl,d,c % d,rfl,g',(D01 c d).trans hg,λ_=>Int.le_of_lt hd'⟩
 ·rw[Í4,beq_iff_eq] at hd
  subst hd
  rw[Int.gcd_zero_right] at hg
  have e:c=((gcd t b:Nat):Int):=by have:=hc rfl;omega
  subst e
  ¤(a00 (Q31 (i:=t) (t30 (t:=t) h0) (N40 h0 h1)) ?_ :)
  ¤(a00 (Q31 (i:=b) (t30 (t:=t) h0) (N40 h0 h1)) ?_ :)
  §sd rfl
def N22:D->Bool
 |.tup [.int t,.int b]=>chI t b
 |_=>false
÷j22(h:N22 x=true):∃ c,x=pr c/\IsC c:=by
 unfold N22 at h
 split at h
 ·rename_i t b
  unfold chI at h
  simp only[Á,decide_eq_true_eq,beq_iff_eq] at h
  §⟨(t,b),rfl,h.1.1,h.1.2,h.2.1.1,h.2.1.2,by have:=h.2.2;show gcd t b=1;omega⟩
 ·cases h
÷V30(k:Nat)(hz:ZI z):W (b40 T (k + 4) v50 [.z]) z (λs z1=>ZI z1/\∃ c,s=.d (pr c)/\IsC c) NE:=by
 ¤i72 hz (ps:=1) (ns:=4) (b:=m60) rfl rfl (by decide) ?_
 ¤(d60 k 16 hz (by decide) (by decide)).imp λs z1 ⟨hz1,v,e,v1⟩=>?_
 subst e
 ¤ib (b:=decide ((v:Int) < 9)) (λh2=>?_) λh2=>?_
 ·have h2:=of_decide_eq_true h2
  ¶⟨x,ex,hx⟩:=F40 (L:=[pr (1,2),pr (2,3),pr (1,3),pr (3,4),pr (9,10),pr (0,1),pr (1,1),pr (1,1000),pr (999,1000)]) (n:=v) N22 (by simp only[Þ,Á1];omega) (by decide +kernel)
  ¶⟨c,rfl,hc⟩:=j22 hx
  ¤(a00 (c31 ex) ?_ :)
  §⟨hz1,c,rfl,hc⟩
 ·¤(d60 k 2 hz1 (by decide) (by decide)).imp λs z2 ⟨hz2,a,e,a1⟩=>?_
  subst e
  ¶⟨x,ex,hx⟩:=F40 (L:=[D.int 12,.int 1000]) (n:=a) (btw 1 1000) (by simp only[Þ,Á1];omega) (by decide)
  ¶⟨u,rfl,u1,u2⟩:=D61 hx
  ¤(a00 (c31 ex) ?_ :)
  ¤(d60 k u hz2 (by omega) (by omega)).imp λs z3 ⟨hz3,b,e,b1⟩=>?_
  subst e
  ¤(d60 k (1 + (b:Int) + 1) hz3 (by omega) (by omega)).imp λs z4 ⟨hz4,t,e,t1⟩=>?_
  subst e
  §Wo (v90 k _ _ _ (by omega) (U70 (by omega))) ⟨hz4,n40 t (1 + (b:Int)),rfl,j12 (by omega) (by omega) (by omega) (by omega)⟩
÷D91{n:Nat}(f:D->Bool)(h:n < L.length)(ha:L.all f=true)(hp:∀ x,f x=true->P x):Get (Z60 (.lst L) (.int n)) P:=by
 ¶⟨x,e,hx⟩:=F40 f h ha
 §a00 (c31 e) (hp x hx)
÷E01(k:Nat)(hz:ZI z):W (b40 T (k + 4) s20 [.z]) z (λs z1=>ZI z1/\∃ x,s=.d x/\o41 x=false) NE:=by
 ¤i72 hz (ps:=1) (ns:=2) (b:=k60) rfl rfl (by decide) ?_
 ¤(d60 k 25 hz (by decide) (by decide)).imp λs z1 ⟨hz1,v,e,v1⟩=>?_
 subst e
 ¤(D91 (n:=v) (λx=>!o41 x) ?_ ?_ ?_ :)
 ·show v < 25
  omega
 ·decide +kernel
 ·§λx hx=>⟨hz1,x,rfl,by simpa using hx⟩
def ltP:D->Bool
 |.tup [.int a,.int b]=>decide (a < b)
 |_=>false
def V40(l:List D):Bool:=(n30 l (l.drop 1)).all ltP
def E11(m:Int):D->Bool
 |.tup l=>(l.all (λx=>b80 x m)&&V40 l)&&!l.isEmpty
 |_=>false
def short:D->Bool
 |.tup l=>decide (l.length<=1000)
 |_=>true
÷Q41(k:Nat)(h:∀ x∈l,b80 x m=true)(hl:l.length<=1000)(z:Z):b40 T (k + 3) C71 [.d (.tup l)] z=some (.ok (.d (.bl (V40 l))) z):=by
 have e1:cutD l (some 1) none=l.drop 1:=i61 l 1
 ¤W.ok (g60 (ps:=1) (ns:=1) (b:=b91) rfl rfl (by decide) (ip (c:=(n30 l (cutD l (some 1) none)).length<=most) (Ñ (r00 _ _) (o20 hl)) (q21 (λx=>.bl (ltP x)) (λx hx=>?_) (a00 (F30 _ ltP) ?_ :))))
 ·¶⟨u,hu,v,hv,rfl⟩:=N20 hx
  rw[e1] at hv
  ¶⟨i,rfl,_⟩:=j10 (h u hu)
  ¶⟨j,rfl,_⟩:=j10 (h v (List.mem_of_mem_drop hv))
  §⟨rfl,rfl⟩
 ·§sb (b:=(n30 l (cutD l (some 1) none)).all ltP) (by rw[e1];rfl)
÷z20(k:Nat)(m:Int)(hs:short x=true)(z:Z):b40 T (k + 5) l10 [.d x,.d (.int m)] z=some (.ok (.d (.bl (match x with | .tup l=>l.all (λx=>b80 x m)&&V40 l | _=>false))) z):=by
 ¤W.ok (g60 (ps:=2) (ns:=2) (b:=f80) rfl rfl (by decide) ?_)
 cases x with
 |tup l =>
  have hl:l.length<=1000:=of_decide_eq_true hs
  ¤ip (o20 hl) (q21 (λx=>.bl (b80 x m)) (λx _=>Wo (t20 k x m z) ⟨rfl,rfl⟩) (a00 (F30 l λx=>b80 x m) ?_ :))
  ¤ib (b:=l.all λx=>b80 x m) (λh=>?_) λh=>sb (show false=(l.all (λx=>b80 x m)&&V40 l) by rw[h];rfl)
  §Wo (Q41 (k + 1) (Õ.mp h) hl z) (sb (show V40 l=(l.all (λx=>b80 x m)&&V40 l) by rw[h];rfl))
 |_=>§sb rfl
÷j20(k:Nat)(z:Z)(h:E11 m x=true)(hs:short x=true):b40 T (k + 6) f90 [.d (.tup [.int m,t]),.d x] z=some (.ok (.d .non) z):=by
 ¤W.ok (g60 (ps:=2) (ns:=2) (b:=g00) rfl rfl (by decide) (Wo (z20 k m hs z) ?_))
 cases x with
 |tup l =>
  have h:((l.all (λx=>b80 x m)&&V40 l)&&!l.isEmpty)=true:=h
  rw[Á] at h
  ¤ie (b:=!(l.all (λx=>b80 x m)&&V40 l)) (by rw[h.1];rfl) ?_
  cases l with
  |nil=>cases h.2
  |cons y r=>§sd rfl
 |_=>cases h
÷p60(k:Nat)(z:Z)(h:E11 m x=false)(hs:short x=true):b40 T (k + 6) f90 [.d (.tup [.int m,t]),.d x] z=some (.er 2 z):=by
 ¤W.er (g60 (ps:=2) (ns:=2) (b:=g00) rfl rfl (by decide) (Wo (z20 k m hs z) ?_))
 cases x with
 |tup l =>
  have h:((l.all (λx=>b80 x m)&&V40 l)&&!l.isEmpty)=false:=h
  ¤ib (b:=!(l.all (λx=>b80 x m)&&V40 l)) (λ_=>⟨rfl,c40 z⟩) λh1=>?_
  rw[Í4] at h1
  rw[h1,Ä9,Í4] at h
  cases l with
  |nil=>§⟨rfl,c40 z⟩
  |cons y r=>cases h
 |_=>§⟨rfl,c40 z⟩
def a40(n:Nat):D:=.int n
structure l30(m:Int)(l:List Nat):Prop where
 ne:l≠[]
 up:l.Pairwise (· < ·)
 lt:∀ p∈l,(p:Int) < m
÷W31:∀ {l:List Nat},l.Pairwise (· < ·)->V40 (l.map a40)=true
 |[],_=>rfl
 |[_],_=>rfl
 |a::b::r,h=>by
  have ih:=W31 (ß9.of_cons h)
  show(decide ((a:Int) < (b:Int))&&V40 ((b::r).map a40))=true
  rw[ih,decide_eq_true (by have:=(Ë0.mp h).1 b Ì;omega)];rfl
÷l30.pls(g:l30 m l):E11 m (.tup (l.map a40))=true:=by
 show(((l.map a40).all (λx=>b80 x m)&&V40 (l.map a40))&&!(l.map a40).isEmpty)=true
 rw[W31 g.up,Ö9,Á]
 ¤⟨Õ.mpr λx hx=>?_,?_⟩
 ·¶⟨p,hp,rfl⟩:=Ö.mp hx
  have:=g.lt p hp
  show(decide (0<=(p:Int))&&decide ((p:Int) < m))=true
  rw[decide_eq_true this,decide_eq_true (by omega)];rfl
 ·cases l with
  |nil=>§absurd rfl g.ne
  |cons _ _=>rfl
÷l30.len(g:l30 m l)(h6:m<=6):l.length<=6:=by
 have:l.Sublist (î 6):=by
  have e:l=(î 6).filter λx=>l.contains x:=by
   ¤É0 (le:=(· < ·)) ?_ g.up (Ë2 _ È8) ?_
   ·intro a b _ _ h1 h2;omega
   ·¤(Þ6 (g.up.imp λh e=>by omega) (Ë2 _ List.nodup_range)).mpr λa=>?_
    rw[mem_filter,Ó2,Ì7]
    §⟨λh=>⟨by have:=g.lt a h;omega,h⟩,λh=>h.2⟩
  rw[e];§List.filter_sublist
 simpa using this.length_le
÷Q51:∀ {ys:List D}{l:List Nat},ys.Sublist (l.map a40)->∃ l':List Nat,ys=l'.map a40/\l'.Sublist l:=λ{ys l} h=>by
 ¶⟨l',h1,h2⟩:=List.sublist_map_iff.mp h
 §⟨l',h2,h1⟩
÷j32(n:Nat):((î n).map λ(i:Nat)=>D.int i)=(î n).map a40:=rfl
÷N32(a b:Int):MySort.h30 [a] [b]=decide (a < b):=by
 show(if a=b then false else decide (a < b))=_
 by_cases h:a=b
 ·rw[if_pos h,h];simp
 ·rw[if_neg h]
÷N70(a b:Nat):i50 (a40 a) (a40 b)=true:=by
 show(true&&((some (decide ((a:Int) < b)) == some (MySort.h30 [(a:Int)] [(b:Int)]))&&(((a:Int) == b) || !([(a:Int)] == [(b:Int)]))))=true
 rw[N32,beq_self_eq_true,Ä9,Ä9]
 by_cases h:(a:Int)=b <;> simp[h]
÷p01(x y:Nat):bfD .sorted [.lst [a40 x,a40 y]]=some (.fr [a40 (min x y),a40 (max x y)]):=by
 have ok:n10 [a40 x,a40 y]=true:=by
  ¤Õ.mpr λu hu=>?_
  have one:∀ a:Nat,(true&&(true&&[a40 x,a40 y].all (i50 (a40 a))))=true:=λa=>by
   show(i50 (a40 a) (a40 x)&&(i50 (a40 a) (a40 y)&&true))=true
   rw[N70,N70];rfl
  simp only[Â7,À0,or_false] at hu
  rcases hu with rfl | rfl
  ·§one x
  ·§one y
 have e:u60 [a40 x,a40 y]=[a40 (min x y),a40 (max x y)]:=by
  show(if MySort.h30 [(y:Int)] [(x:Int)] then [a40 y,a40 x] else [a40 x,a40 y])=_
  rw[N32]
  by_cases h:(y:Int) < x
  ·rw[decide_eq_true h,if_pos rfl,Ì1 (by omega),Nat.max_eq_left (by omega)]
  ·rw[decide_eq_false h,if_neg (by decide),Ñ3 (by omega),Nat.max_eq_right (by omega)]
 show(if [a40 x,a40 y].length < 64/\n10 [a40 x,a40 y]=true then some (S.fr (u60 [a40 x,a40 y])) else _)=_
 rw[if_pos ⟨by show 2 < 64;decide,ok⟩,e]
÷V50(k:Nat)(m1:1<=m)(m6:m<=6)(hz:ZI z):W (b40 T (k + 4) v40 [.z,.d (.tup [.int m,t])]) z (λs z1=>ZI z1/\∃ l,s=.d (.tup (l.map a40))/\l30 m l) NE:=by
 have g2:l30 m (î m.toNat):=⟨by intro h;have:=congrArg List.length h;rw[ù] at this;simp at this;omega,È8,λp hp=>by have:=Â5.mp hp;omega⟩
 ¤i72 hz (ps:=2) (ns:=4) (b:=m40) rfl rfl (by decide) ?_
 ¤(d60 k 4 hz (by decide) (by decide)).imp λs z1 ⟨hz1,v,e,v1⟩=>?_
 subst e
 ¤i42 (λρ z2=>z2=z1/\1 < m/\ρ=[some .z,some (.d (.tup [.int m,t])),some (.d (.int v)),none]) ?_ ?_
 ·¤ib (b:=decide ((v:Int) < 2)) (λh=>?_) λh=>?_
  ·¤(a00 (U80 (m:=m) (by omega) (by omega)) ?_ :)
   §⟨hz1,_,rfl,g2⟩
  ·¤ib (b:=m == 1) (λh=>?_) λh=>?_
   ·¤(a00 (U80 (m:=m) (by omega) (by omega)) ?_ :)
    §⟨hz1,_,rfl,g2⟩
   ·have h:=ne_of_beq_false h
    §⟨rfl,by omega,rfl⟩
 ·rintro ρ z2 ⟨rfl,hm,rfl⟩
  ¤ib (b:=(v:Int) == 2) (λh=>?_) λh=>?_
  ·¤(d60 k m hz1 (by omega) (by omega)).imp λs z3 ⟨hz3,a,e,ha⟩=>?_
   subst e
   ¤(d60 k (m - 1) hz3 (by omega) (by omega)).imp λs z4 ⟨hz4,b,e,hb⟩=>?_
   subst e
   ¤(a00 (o51 (i:=(a:Int) + 1 + b) (j:=m) (by omega)) ?_ :)
   have hq:0<=((a:Int) + 1 + b) % m/\((a:Int) + 1 + b) % m < m/\((a:Int) + 1 + b) % m≠a:=by
    ¤⟨Ö2 _ (by omega),emod_lt_of_pos _ (by omega),?_⟩
    by_cases h:(a:Int) + 1 + b < m
    ·rw[Ñ0 (by omega) h];omega
    ·rw[show(a:Int) + 1 + b=((a:Int) + 1 + b - m) + m from by omega,Int.add_emod_right,Ñ0 (by omega) (by omega)];omega
   generalize ((a:Int) + 1 + b) % m=q at hq ⊢
   ¶⟨q,rfl⟩:=Ë3 hq.1
   ¤(a00 (p01 a q) ?_ :)
   ¤⟨hz4,[min a q,max a q],rfl,by simp,?_,λp hp=>?_⟩
   ·¤.cons (λx hx=>?_) (.cons (λ_ h=>nomatch h) .nil)
    rw[é.mp hx];omega
   ·simp only[Â7,À0,or_false] at hp
    rcases hp with rfl | rfl <;> omega
  ·¤(a00 (U80 (m:=m) (by omega) (by omega)) ?_ :)
   ¤ip (by rw[É,ù];simp only[most];omega) (z42 (I:=ZI) (λx=>x) hz1 (λx hx z3 hz3=>?_) λys z3 hz3 hs=>?_)
   ·¤(d60 k 2 hz3 (by decide) (by decide)).imp λs z4 ⟨hz4,a,e,a1⟩=>?_
    subst e
    §⟨hz4,(a:Int) == 1,rfl,λ_=>⟨rfl,rfl⟩⟩
   ·rw[map_id',j32] at hs
    ¶⟨l,rfl,hl⟩:=Q51 hs
    cases l with
    |nil =>
     ¤⟨hz3,[m.toNat - 1],?_,by simp,.cons (λ_ h=>nomatch h) .nil,λq hq=>by rw[é.mp hq];omega⟩
     show S.d (.tup [.int (m - 1)])=S.d (.tup [.int ((m.toNat - 1:Nat):Int)])
     rw[show(m - 1)=((m.toNat - 1:Nat):Int) by omega]
    |cons p r=>§⟨hz3,p::r,rfl,by simp,ß9.sublist hl È8,λq hq=>by have:=Â5.mp (hl.mem hq);omega⟩
section
variable (ps:List (Int × Int))
abbrev tA(n:Nat):Nat:=(ps.getD n (0,0)).1.toNat
abbrev tB(n:Nat):Nat:=(ps.getD n (0,0)).2.toNat
def t40(mk:List Int)(n:Nat):List Int:=mk.map λx=>if x=mk.getD (tB ps n) 0 then mk.getD (tA ps n) 0 else x
def z30(m:Nat)(lot:List Nat):List Int:=lot.foldl (t40 ps) ((î m).map λ(i:Nat)=>(i:Int))
def A12(mk:List Int)(pl:List Nat):Bool:=pl.all λp=>mk.getD p 0 == mk.getD (pl.getD 0 0) 0
def F50(m:Nat)(pl lot:List Nat):Bool:=A12 (z30 ps m lot) pl
variable {ps}
÷N80(mk:List Int)(n:Nat):(t40 ps mk n).length=mk.length:=É _
÷step_get(h:x < mk.length):(t40 ps mk n).getD x 0=if mk.getD x 0=mk.getD (tB ps n) 0 then mk.getD (tA ps n) 0 else mk.getD x 0:=by
 unfold t40
 rw[Ø,Ü,æ h]
 simp[Ø,æ h]
÷E21:(z30 ps m lot).length=m:=by
 unfold z30
 have:∀ (l:List Nat) (mk:List Int),(l.foldl (t40 ps) mk).length=mk.length:=by
  intro l
  induction l with
  |nil=>intro mk;rfl
  |cons n r ih=>intro mk;rw[List.foldl_cons,ih,N80]
 rw[this];simp
÷p11(hr:∀ n < ps.length,tA ps n < m/\tB ps n < m):∀ (lot:List Nat) (mk:List Int),mk.length=m->(∀ n∈lot,n < ps.length) ->
  (∀ x y,x < m->y < m->mk.getD x 0=mk.getD y 0->(lot.foldl (t40 ps) mk).getD x 0=(lot.foldl (t40 ps) mk).getD y 0)/\(∀ n∈lot,(lot.foldl (t40 ps) mk).getD (tA ps n) 0=(lot.foldl (t40 ps) mk).getD (tB ps n) 0) /\
  ∀ f:Nat->Int,(∀ x y,x < m->y < m->mk.getD x 0=mk.getD y 0->f x=f y)->(∀ n∈lot,f (tA ps n)=f (tB ps n))->∀ x y,x < m->y < m->(lot.foldl (t40 ps) mk).getD x 0=(lot.foldl (t40 ps) mk).getD y 0->f x=f y:=by
 intro lot
 induction lot with
 |nil=>§λmk _ _=>⟨λ_ _ _ _ h=>h,(λ_ h=>nomatch h),λf h _=>h⟩
 |cons n r ih =>
  intro mk hl hn
  ¶⟨ha,hb⟩:=hr n (hn n Ì)
  ¶⟨i1,i2,i3⟩:=ih (t40 ps mk n) (by rw[N80];§hl) λk hk=>hn k (È _ hk)
  have st:∀ x,x < m->(t40 ps mk n).getD x 0=if mk.getD x 0=mk.getD (tB ps n) 0 then mk.getD (tA ps n) 0 else mk.getD x 0:=λx hx=>step_get (by omega)
  ¤⟨λx y hx hy h=>i1 x y hx hy (by rw[st x hx,st y hy,h]),λk hk=>?_,λf h1 h2=>?_⟩
  ·rcases ú.mp hk with rfl | hk
   ·¤i1 _ _ ha hb ?_
    rw[st _ ha,st _ hb,if_pos rfl]
    split <;> rfl
   ·§i2 k hk
  ·¤i3 f (λx y hx hy h=>?_) λk hk=>h2 k (È _ hk)
   have e:=h2 n Ì
   rw[st x hx,st y hy] at h
   split at h
   ·rename_i hxb
    have fx:=h1 _ _ hx hb hxb
    split at h
    ·rename_i hyb
     rw[fx,h1 _ _ hy hb hyb]
    ·rw[fx,← e];§h1 _ _ ha hy h
   ·split at h
    ·rename_i hyb
     rw[h1 _ _ hy hb hyb,← e];§h1 _ _ hx ha h
    ·§h1 _ _ hx hy h
÷V60(h:x < m):(((î m).map λ(i:Nat)=>(i:Int))).getD x 0=(x:Int):=by
 rw[Ø,Ü,Ê0 h];rfl
÷Q61{m:Nat}(hr:∀ n < ps.length,tA ps n < m/\tB ps n < m){pl lot:List Nat}(hp:∀ p∈pl,p < m)(hl:∀ n∈lot,n < ps.length):F50 ps m pl lot=true↔∀ f:Nat->Int,(∀ n∈lot,f (tA ps n)=f (tB ps n))->∀ p∈pl,f p=f (pl.getD 0 0):=by
 ¶⟨_,h2,h3⟩:=p11 hr lot ((î m).map λ(i:Nat)=>(i:Int)) (by simp) hl
 unfold F50 A12
 rw[Æ9]
 have h0:∀ p∈pl,pl.getD 0 0 < m:=λp hp'=>by
  cases pl with
  |nil=>cases hp'
  |cons q r=>§hp q Ì
 constructor
 ·intro h f hf p hp'
  ¤h3 f (λx y hx hy e=>?_) hf p _ (hp p hp') (h0 p hp') (beq_iff_eq.mp (h p hp'))
  rw[V60 hx,V60 hy] at e
  rw[Int.ofNat_inj.mp e]
 ·intro h p hp'
  rw[beq_iff_eq]
  §h (λx=>(z30 ps m lot).getD x 0) h2 p hp'
end
section
variable (g:List Nat->Bool) (c:Nat->Int × Int)
variable {g c}
def o30:Nat->List (List Nat)
 |0=>[[]]
 |j + 1=>o30 j++(o30 j).map (·++[j])
÷c41:∀ {j:Nat}{lot:List Nat},lot∈o30 j->∀ n∈lot,n < j
 |0,lot,h,n,hn=>by rw[é.mp h] at hn;cases hn
 |j + 1,lot,h,n,hn=>by
  rcases Ã6.mp h with h | h
  ·§Å0 (c41 h n hn)
  ·¶⟨l,hl,rfl⟩:=Ö.mp h
   rcases Ã6.mp hn with hn | hn
   ·§Å0 (c41 hl n hn)
   ·rw[é.mp hn];§Ì2 j
def A22(l:List (List Nat))(f:List Nat->Int):Int:=(l.map f).foldr (· + ·) 0
end
÷itE{it:It}{e:Ex}{l:List S}{ρ:Env}(h:S40 l=true):w41 it e l ρ=S50 it e l ρ:=by unfold w41;rw[h,S20];rfl
÷x70:∀ l:List Nat,o00 (l.map a40)=true
 |[]=>rfl
 |_::r=>x70 r
structure Row(x:D)(lot:List Nat):Prop where
 sq:Z50 x=some (lot.map a40)
 br:c72 x=true
÷Row.t(lot:List Nat):Row (.tup (lot.map a40)) lot:=⟨rfl,x70 lot⟩
÷Row.ba(h:Row x lot):S40 [.d x]=true:=by
 show(c72 x&&true)=true
 rw[h.br];rfl
÷E31{mk:List Int}{a:Int}(h0:0<=a)(h:a.toNat < mk.length):Z60 (.lst (mk.map D.int)) (.int a)=some (.int (mk.getD a.toNat 0)):=by
 ¶⟨n,rfl⟩:=Ë3 h0
 rw[Á9] at h ⊢
 rw[Ø,æ h]
 §c31 (i82 h)
÷W41{ps:List (Int × Int)}{n:Nat}(h:n < ps.length):Z60 (.tup (ps.map pr)) (.int n)=some (pr (ps.getD n (0,0))):=by
 rw[Ø,æ h]
 §z62 (by rw[Ü,æ h];rfl)
÷getD_mem{ps:List (Int × Int)}{n:Nat}(h:n < ps.length):ps.getD n (0,0)∈ps:=by
 rw[Ø,æ h];§É2 h
÷f30.rng{m:Int}{ps:List (Int × Int)}(g:f30 m ps):∀ n < ps.length,tA ps n < m.toNat/\tB ps n < m.toNat:=λn hn=>by
 have:=g.tie _ (getD_mem hn)
 unfold tA tB
 omega
def Q02(a b:Int):D->D
 |.int v=>.int (if v=b then a else v)
 |x=>x
÷j42{F:FT}{z:Z}{mk:List Int}(a b:Int){Q:List D->Z->Prop}{E:Nat->Z->Prop}(q:Q ((mk.map λx=>if x=b then a else x).map D.int) z):W (turns (o80 (ev F .nil) (ev F (.ite (.cmp .eq (.var 0) (.var 2)) (.var 1) (.var 0))) (.v 0) [none,some (.d (.int a)),some (.d (.int b))]) (mk.map D.int)) z Q E:=by
 ¤q21 (Q02 a b) (λx hx=>?_) ?_
 ·¶⟨v,_,rfl⟩:=Ö.mp hx
  ¤ib (b:=v == b) (λh=>⟨?_,rfl⟩) λh=>⟨?_,rfl⟩
  ·show D.int a=.int (if v=b then a else v)
   rw[if_pos (beq_iff_eq.mp h)]
  ·show D.int v=.int (if v=b then a else v)
   rw[if_neg (by simpa using h)]
 ·have e:(mk.map D.int).map (Q02 a b)=(mk.map λx=>if x=b then a else x).map D.int:=by rw[ï,ï];rfl
  rw[e];§q
÷c51(k:Nat){m:Int}{ps:List (Int × Int)}(g:f30 m ps){x:D}{lot:List Nat}(hx:Row x lot)(hl:∀ n∈lot,n < ps.length)(z:Z):b40 T (k + 3) H80 [.d (B30 m ps),.d x] z=some (.ok (.fr ((z30 ps m.toNat lot).map D.int)) z):=by
 have m6:=g.m6
 have m1:=g.m1
 ¤W.ok (g60 (ps:=2) (ns:=10) (b:=x50) rfl rfl (by decide) ?_)
 ¤(a00 (o:=lrD [.int m]) (U80 (by omega) (by omega)) ?_ :)
 ¤a00 (o:=Z50 x) hx.sq ?_
 ¤r50 (λxs ρ z1=>z1=z/\∃ (rest:List Nat) (mk:List Int) (o5 o6 o7 o8 o9:Option S),xs=rest.map a40/\(∀ n∈rest,n < ps.length)/\mk.length=m.toNat/\rest.foldl (t40 ps) mk=z30 ps m.toNat lot/\ρ=[some (.d (B30 m ps)),some (.d x),some (.d (.int m)),some (.d (.tup (ps.map pr))),some (.fr (mk.map D.int)),o5,o6,o7,o8,o9]) _ ⟨rfl,lot,(î m.toNat).map λ(i:Nat)=>(i:Int),none,none,none,none,none,rfl,hl,by simp,rfl,(itE hx.ba).trans ?_⟩ ?_ ?_
 ·rw[← Q01];rfl
 ·rintro y r ρ z1 ⟨rfl,rest,mk,o5,o6,o7,o8,o9,e,hr,hm,hf,rfl⟩
  cases rest with
  |nil=>cases e
  |cons n rest =>
   cases e
   have hn:=hr n Ì
   have ht:=g.tie _ (getD_mem hn)
   ¤(a00 (W41 hn) ?_ :)
   ¤(a00 (E31 (mk:=mk) ht.1 (by omega)) ?_ :)
   ¤(a00 (E31 (mk:=mk) (a:=(ps.getD n (0,0)).2) (by omega) (by omega)) ?_ :)
   ¤ip (by rw[É];simp only[most];omega) (j42 _ _ ?_)
   §⟨rfl,rest,t40 ps mk n,_,_,_,_,_,rfl,λk hk=>hr k (È _ hk),by rw[N80];§hm,hf,rfl⟩
 ·rintro ρ z1 ⟨rfl,rest,mk,o5,o6,o7,o8,o9,e,hr,hm,hf,rfl⟩
  cases rest with
  |nil=>§sd (by rw[← hf];rfl)
  |cons _ _=>cases e
section
variable {m:Int}{ps:List (Int × Int)}{pl lot:List Nat}
÷A32{mk:List Int}{p:Nat}(h:p < mk.length):Z60 (.lst (mk.map D.int)) (.int p)=some (.int (mk.getD p 0)):=E31 (a:=(p:Int)) (by omega) (by rw[Á9];§h)
÷W51(h:pl≠[]):Z60 (.tup (pl.map a40)) (.int 0)=some (a40 (pl.getD 0 0)):=by
 cases pl with
 |nil=>§absurd rfl h
 |cons p r=>§z62 (j:=0) rfl
÷l30.p0(hp:l30 m pl):pl.getD 0 0 < m.toNat:=by
 have h:=hp.ne
 have h2:=hp.lt
 cases pl with
 |nil=>§absurd rfl h
 |cons p r=>have:=h2 p Ì;show p < _;omega
def eqM(mk:List Int)(p0:Nat):D->Bool
 |.int p=>mk.getD p.toNat 0 == mk.getD p0 0
 |_=>false
÷j52(l:List Nat):(l.map a40).all (eqM mk p0)=l.all λp=>mk.getD p 0 == mk.getD p0 0:=by rw[all_map];rfl
÷N90(k:Nat)(g:f30 m ps)(hp:l30 m pl){x:D}(hx:Row x lot)(hl:∀ n∈lot,n < ps.length)(z:Z):b40 T (k + 4) y60 [.d (B30 m ps),.d x,.d (.tup (pl.map a40))] z=some (.ok (.d (.bl (F50 ps m.toNat pl lot))) z):=by
 have hlen:=hp.len g.m6
 ¤W.ok (g60 (ps:=3) (ns:=4) (b:=p30) rfl rfl (by decide) (Wo (c51 k g hx hl z) ?_))
 have ml:(z30 ps m.toNat lot).length=m.toNat:=E21
 generalize hmk:z30 ps m.toNat lot=mk at ml
 ¤ip (by rw[É];simp only[most];omega) (q21 (λx=>.bl (eqM mk (pl.getD 0 0) x)) (λy hy=>?_) (a00 (F30 _ (eqM mk (pl.getD 0 0))) ?_ :))
 ·¶⟨p,hp',rfl⟩:=Ö.mp hy
  have:=hp.lt p hp'
  ¤(a00 (A32 (mk:=mk) (p:=p) (by omega)) ?_ :)
  ¤(a00 (W51 hp.ne) ?_ :)
  ¤(a00 (A32 (mk:=mk) (by rw[ml];§hp.p0)) ?_ :)
  §⟨rfl,rfl⟩
 ·¤sb (b:=(pl.map a40).all (eqM mk (pl.getD 0 0))) ?_
  rw[j52,← hmk];rfl
÷j62(h:okD (.lst l)=true):A70 .eq (.lst l) (.lst [])=some l.isEmpty:=by
 show(if okD (.lst l)&&okD (.lst []) then some (eqD (.lst l) (.lst [])) else eqE (.lst l) (.lst []))=_
 rw[h]
 cases l <;> rfl
÷O00(l:List Nat):okD (.lst (l.map a40))=true:=by
 have e:l.map a40=(l.map λ(n:Nat)=>(n:Int)).map D.int:=by rw[ï];rfl
 rw[e];§D21 _
end
def n20(l:List Nat):D:=.tup (l.map a40)
÷r10:∀ {j:Nat}{lot:List Nat},lot∈o30 j->lot.length<=j
 |0,lot,h=>by rw[é.mp h];§Í _
 |j + 1,lot,h=>by
  rcases Ã6.mp h with h | h
  ·§Nat.le_succ_of_le (r10 h)
  ·¶⟨l,hl,rfl⟩:=Ö.mp h
   rw[Q11];§Ü6 (r10 hl)
÷B40:∀ j:Nat,(o30 j).length=2 ^ j
 |0=>rfl
 |j + 1=>by
  show(o30 j++(o30 j).map (·++[j])).length=_
  rw[Â0,É,B40 j,Ú6];omega
÷E41(h:j<=8):2 ^ j<=256:=À4 (n:=2) (by decide) h
÷add_l(h:a.length + b.length<=1000):A60 .add (.lst a) (.lst b)=some (.fr (a++b)):=by
 show(if a.length + b.length<=most then some (S.fr (a++b)) else none)=_
 rw[if_pos (o20 h)]
÷p21(h:a.length + b.length<=1000):A60 .add (.tup a) (.tup b)=some (.d (.tup (a++b))):=by
 show(if a.length + b.length<=most then some (S.d (.tup (a++b))) else none)=_
 rw[if_pos (o20 h)]
def Q12(j:Nat):D->D
 |.tup l=>.tup (l++[a40 j])
 |x=>x
÷Q71:((o30 j).map n20).map (Q12 j)=((o30 j).map (·++[j])).map n20:=by
 rw[ï,ï]
 ¤Ã5 λl _=>?_
 show D.tup (l.map a40++[a40 j])=.tup ((l++[j]).map a40)
 rw[Æ3];rfl
÷O10{n:Nat}(h:n < 100000):itD .rng1 [.int n]=some ((Á5 0 n).map a40):=by
 rw[U80 (by omega) (by omega),Á9,Ç7];rfl
÷j31(n:Nat):∀ l:List Nat,memD (a40 n) (l.map a40)=decide (n∈l)
 |[]=>rfl
 |x::r=>by
  show((x:Int) == (n:Int) || memD (a40 n) (r.map a40))=_
  rw[j31 n r,Í8,Å6,beq_iff_eq,decide_eq_true_eq,decide_eq_true_eq,Â7]
  constructor
  ·rintro (h | h)
   ·§.inl (by omega)
   ·§.inr h
  ·rintro (h | h)
   ·§.inl (by omega)
   ·§.inr h
÷w00(l:List Nat):G10 (l.map a40)=true:=by
 have e:l.map a40=(l.map λ(n:Nat)=>(n:Int)).map D.int:=by rw[ï];rfl
 ¶⟨h1,h2⟩:=N30 (l.map λ(n:Nat)=>(n:Int))
 unfold G10
 rw[e,h1,h2];rfl
÷c61{n:Nat}{l:List Nat}:M71 (a40 n) (l.map a40)=some (decide (n∈l)):=by
 unfold M71
 rw[w00,j31];rfl
÷E51(h0:0 < b):(n40 t b).1 * b=(n40 t b).2 * t:=by
 ¶⟨e1,e2⟩:=N50 (t:=t) h0
 generalize (n40 t b).1=x at *
 generalize (n40 t b).2=y at *
 generalize ((gcd t b:Nat):Int)=k at *
 rw[e1,e2]
 grind
def t50(k:Nat):List (List Nat):=(TS.sN k).map (TS.C40 k 0)
÷V70(h:k<=8):o30 k=(î (2 ^ k)).map (TS.C40 k 0):=by
 have:∀ k,k < 9->o30 k=(î (2 ^ k)).map (TS.C40 k 0):=by decide +kernel
 §this k (by omega)
÷w10(h:k<=8):(t50 k).Perm (o30 k):=by
 have:∀ k,k < 9->(TS.sN k).isPerm (î (2 ^ k))=true:=by decide +kernel
 rw[V70 h]
 §(List.isPerm_iff.mp (this k (by omega))).map _
÷A42(h:k<=8):(o30 k).map n20=h40 k:=by
 rw[V70 h]
 unfold h40
 rw[ï];rfl
÷c71(h:k<=8):bfD .sorted [.lst ((o30 k).map n20)]=some (.fr ((t50 k).map n20)):=by
 have h1:∀ k,k < 9->n10 (h40 k)=false:=by decide +kernel
 have h2:∀ k,k < 9->((î 9).find? λj=>X30 (h40 k) (h40 j))=some k:=by decide +kernel
 rw[A42 h]
 show(if (h40 k).length < 64/\n10 (h40 k)=true then some (S.fr (u60 (h40 k))) else((((î 9).find? λj=>X30 (h40 k) (h40 j)).map M81).map S.fr))=_
 rw[if_neg (λq=>by rw[h1 k (by omega)] at q;cases q.2),h2 k (by omega)]
 show some (S.fr (M81 k))=some (S.fr ((t50 k).map n20))
 rw[t50,ï];rfl
÷j41{i:Nat}(hi:T[i]?=some (.code 1 3 q90))(k:Nat){m:Int}{ts:List D}(h8:ts.length<=8)(z:Z):b40 T (k + 3) i [.d (.tup [.int m,.tup ts])] z=some (.ok (.fr ((t50 ts.length).map n20)) z):=by
 ¤W.ok (g60 (ps:=1) (ns:=3) (b:=q90) hi rfl (by decide) ?_)
 ¤(a00 (O10 (n:=ts.length) (by omega)) ?_ :)
 ¤r50 (λxs ρ z1=>z1=z/\∃ (j r:Nat) (o2:Option S),j + r=ts.length/\xs=(Á5 j r).map a40/\ρ=[some (.d (.tup [.int m,.tup ts])),some (.fr ((o30 j).map n20)),o2]) _ ⟨rfl,0,ts.length,none,É5 _,rfl,rfl⟩ ?_ ?_
 ·rintro x r ρ z1 ⟨rfl,j,r',o2,hj,e,rfl⟩
  cases r' with
  |zero=>cases e
  |succ r' =>
   rw[û] at e
   cases e
   have hp:=E41 (j:=j) (by omega)
   ¤ip (by rw[É,B40];simp only[most];omega) (q21 (Q12 j) (λy hy=>?_) ?_)
   ·¶⟨l,hl,rfl⟩:=Ö.mp hy
    have:=r10 hl
    ¤(a00 (p21 (a:=l.map a40) (b:=[a40 j]) (by rw[É];show _ + 1<=_;omega)) ?_ :)
    §⟨rfl,rfl⟩
   ·rw[Q71]
    ¤(a00 (add_l (a:=(o30 j).map n20) (b:=((o30 j).map (·++[j])).map n20) (by rw[É,É,É,B40];omega)) ?_ :)
    ¤⟨rfl,j + 1,r',some (.d (a40 j)),by omega,rfl,?_⟩
    §congrArg (λl=>[some (S.d (.tup [.int m,.tup ts])),some (.fr l),some (.d (a40 j))]) Æ3.symm
 ·rintro ρ z1 ⟨rfl,j,r',o2,hj,e,rfl⟩
  cases r' with
  |zero =>
   have hj:j=ts.length:=hj
   subst hj
   ¤(a00 (c71 h8) ?_ :)
   §sd rfl
  |succ r'=>rw[û] at e;cases e
÷c81(k:Nat){m:Int}{ts:List D}(h8:ts.length<=8)(z:Z):b40 T (k + 3) H90 [.d (.tup [.int m,.tup ts])] z=some (.ok (.fr ((t50 ts.length).map n20)) z):=j41 rfl k h8 z
def Q81:D->List Nat
 |.tup l=>l.map λx=>match x with | .int i=>i.toNat | _=>0
 |_=>[]
÷j51(l:List Nat):Q81 (n20 l)=l:=by
 show(l.map a40).map _=l
 rw[ï]
 §map_id l
÷E61(h:k<=8)(hl:lot∈t50 k):∀ n∈lot,n < k:=c41 ((w10 h).mem_iff.mp hl)
÷j61(h:k<=8):(t50 k).length<=256:=by rw[(w10 h).length_eq,B40];§E41 h
section
variable {m:Int}{ps cs:List (Int × Int)}{pl:List Nat}
abbrev n80(m:Int)(ps:List (Int × Int))(pl:List Nat):List (List Nat):=(t50 ps.length).filter (F50 ps m.toNat pl)
÷V80(k:Nat)(g:f30 m ps)(hp:l30 m pl)(z:Z):b40 T (k + 9) E70 [.d (B30 m ps),.d (.tup (pl.map a40))] z=some (.ok (.fr ((n80 m ps pl).map n20)) z):=by
 have h8:=g.len
 have h6:=hp.len g.m6
 ¤W.ok (g60 (ps:=2) (ns:=2) (b:=i90) rfl rfl (by decide) (Wo (g40 k z g.web) (Wo (j20 (k + 2) (t:=.tup (ps.map pr)) z hp.pls (decide_eq_true (by rw[É];omega))) (Wo (c81 (k + 5) (m:=m) (ts:=ps.map pr) (by rw[É];§h8) z) ?_))))
 rw[É]
 ¤ip (by rw[É];§o20 (Ñ (j61 h8) (by decide))) (i52 (λx=>F50 ps m.toNat pl (Q81 x)) id (λx hx=>?_) ?_)
 ·¶⟨l,hl,rfl⟩:=Ö.mp hx
  ¤Wo (N90 (k + 4) g hp (Row.t l) (E61 h8 hl) z) ⟨?_,rfl,λ_=>⟨rfl,rfl⟩⟩
  rw[j51]
 ·¤sd ?_
  rw[map_id,List.filter_map]
  have:(t50 ps.length).filter ((λx=>F50 ps m.toNat pl (Q81 x)) ∘ n20)=n80 m ps pl:=List.filter_congr λl _=>by show F50 ps m.toNat pl (Q81 (n20 l))=_;rw[j51]
  rw[this]
end
def tl:Sm->Sm
 |.seq _ r=>r
 |s=>s
structure Bs(n:Nat)(c:Int × Int):Prop where
 t:c.1.natAbs<=2 ^ n
 b0:0 < c.2
 b:c.2.natAbs<=2 ^ n
÷O20(h:n<=3999)(hi:i<=2 ^ n):i < P00:=Ç5 hi (Nat.pow_lt_pow_right (by decide) (by omega))
÷V90(h:n<=3999)(hi:i.natAbs<=2 ^ n)(hj:j.natAbs<=2 ^ n):A60 .mul (.int i) (.int j)=some (.d (.int (i * j))):=by
 show(if i.natAbs < P00/\j.natAbs < P00 then some (S.d (.int (i * j))) else none)=_
 rw[if_pos ⟨O20 h hi,O20 h hj⟩]
÷p70{n m:Nat}{i j:Int}(hi:i.natAbs<=2 ^ n)(hj:j.natAbs<=2 ^ m):(i * j).natAbs<=2 ^ (n + m):=by
 rw[natAbs_mul,Nat.pow_add];§Nat.mul_le_mul hi hj
÷c91(h:n<=3999)(hi:i.natAbs<=2 ^ n):big i:=by
 have:=O20 h hi
 show i < 2 ^ 4000
 have e:((P00:Nat):Int)=2 ^ 4000:=by unfold P00;§Int.natCast_pow 2 4000
 rw[← e];omega
÷IsC.s(h:IsC c):Bs 10 c:=by
 ¶⟨h1,h2,h3,h4,_⟩:=h
 §⟨by show _<=1024;omega,by omega,by show _<=1024;omega⟩
÷A52(k:Nat)(hc:Bs n c)(hd:Bs n d)(hn:n + n<=3999)(z:Z):b40 T (k + 5) W01 [.d (pr c),.d (pr d)] z=some (.ok (.d (pr (n40 (c.1 * d.2 + d.1 * c.2) (c.2 * d.2)))) z):=by
 have h1:n<=3999:=by omega
 ¤W.ok (g60 (ps:=2) (ns:=2) (b:=C81) rfl rfl (by decide) ?_)
 ¤(a00 (V90 h1 hc.t hd.b) ?_ :)
 ¤(a00 (V90 h1 hd.t hc.b) ?_ :)
 ¤(a00 (V90 h1 hc.b hd.b) ?_ :)
 §Wo (V20 k _ _ z (Ô6 hc.b0 hd.b0) (c91 hn (p70 hc.b hd.b))) (sd rfl)
÷E71(h0:0 < b):(n40 t b).1.natAbs<=t.natAbs/\(n40 t b).2.natAbs<=b.natAbs:=by
 ¶⟨e1,e2⟩:=N50 (t:=t) h0
 have g0:=t30 (t:=t) h0
 generalize n40 t b=v at *
 generalize hg:gcd t b=g at *
 have g1:1<=g:=by omega
 constructor
 ·rw[e1,natAbs_mul,Int.natAbs_natCast];§à9 _ g1
 ·rw[e2,natAbs_mul,Int.natAbs_natCast];§à9 _ g1
÷F60(k:Nat)(z:Z)(h:chD x=true):b40 T (k + 5) k50 [.d x] z=some (.ok (.d .non) z) :=
 W.ok (g60 (ps:=1) (ns:=1) (b:=g20) rfl rfl (by decide) (Wo (z00 k x z) (ie (b:=!chD x) (by rw[h];rfl) (sd rfl))))
÷F70(k:Nat)(z:Z)(h:chD x=false):b40 T (k + 5) k50 [.d x] z=some (.er 5 z) :=
 W.er (g60 (ps:=1) (ns:=1) (b:=g20) rfl rfl (by decide) (Wo (z00 k x z) (it (b:=!chD x) (by rw[h];rfl) ⟨rfl,c40 z⟩)))
structure Rt(v:Int × Int)(t b:Int):Prop where
 b0:0 < v.2
 one:gcd v.1 v.2=1
 eq:v.1 * b=t * v.2
÷Rt.low{t b:Int}(hb:0 < b):Rt (n40 t b) t b:=⟨N60 hb,D81 hb,by rw[E51 hb,Ú9]⟩
÷Rt.conv{v:Int × Int}{t b t' b':Int}(h:Rt v t b)(hb:0 < b)(e:t * b'=t' * b):Rt v t' b':=by
 ¤⟨h.b0,h.one,Ð0 (a:=b) (by omega) ?_⟩
 have:=h.eq
 calc v.1 * b' * b=(v.1 * b) * b':=by grind
  _=(t * b') * v.2:=by rw[this];grind
  _=t' * v.2 * b:=by rw[e];grind
÷Rt.eqv{v w:Int × Int}{t b:Int}(hv:Rt v t b)(hw:Rt w t b)(hb:0 < b):v=w:=by
 have e:v.1 * w.2=w.1 * v.2:=by
  have h1:=hv.eq
  have h2:=hw.eq
  ¤Ð0 (a:=b) (by omega) ?_
  calc v.1 * w.2 * b=(v.1 * b) * w.2:=by grind
   _=(t * w.2) * v.2:=by rw[h1];grind
   _=w.1 * v.2 * b:=by rw[← h2];grind
 ¶⟨a,b'⟩:=o91 hv.b0 hw.b0 hv.one hw.one e
 §Prod.ext a b'
÷Rt.add{v w:Int × Int}{t b t' b':Int}(hv:Rt v t b)(hw:Rt w t' b'):Rt (n40 (v.1 * w.2 + w.1 * v.2) (v.2 * w.2)) (t * b' + t' * b) (b * b'):=by
 have y:=Ô6 hv.b0 hw.b0
 ¤(Rt.low y).conv y ?_
 have h1:=hv.eq
 have h2:=hw.eq
 calc (v.1 * w.2 + w.1 * v.2) * (b * b')=(v.1 * b) * (w.2 * b') + (w.1 * b') * (v.2 * b):=by grind
  _=(t * b' + t' * b) * (v.2 * w.2):=by rw[h1,h2];grind
÷Rt.mul{v w:Int × Int}{t b t' b':Int}(hv:Rt v t b)(hw:Rt w t' b'):Rt (n40 (v.1 * w.1) (v.2 * w.2)) (t * t') (b * b'):=by
 have y:=Ô6 hv.b0 hw.b0
 ¤(Rt.low y).conv y ?_
 have h1:=hv.eq
 have h2:=hw.eq
 calc v.1 * w.1 * (b * b')=(v.1 * b) * (w.1 * b'):=by grind
  _=t * t' * (v.2 * w.2):=by rw[h1,h2];grind
÷IsC.rt{c:Int × Int}(h:IsC c):Rt c c.1 c.2:=⟨by have:=h.1;omega,h.2.2.2.2,rfl⟩
÷Y62:IsC (1,1):=⟨by decide,by decide,by decide,by decide,by decide⟩
÷Y72:IsC (0,1):=⟨by decide,by decide,by decide,by decide,by decide⟩
÷Bs.up{n m:Nat}{c:Int × Int}(h:Bs n c)(hm:n<=m):Bs m c :=
 have e:=À4 (n:=2) (by decide) hm
 ⟨Ñ h.t e,h.b0,Ñ h.b e⟩
÷Bs.low{n:Nat}{t b:Int}(h0:0 < b)(ht:t.natAbs<=2 ^ n)(hb:b.natAbs<=2 ^ n):Bs n (n40 t b) :=
 ⟨Ñ (E71 h0).1 ht,N60 h0,Ñ (E71 h0).2 hb⟩
÷Bs.mul{n:Nat}{c d:Int × Int}(hc:Bs n c)(hd:Bs n d):Bs (n + n) (n40 (c.1 * d.1) (c.2 * d.2)):=.low (Ô6 hc.b0 hd.b0) (p70 hc.t hd.t) (p70 hc.b hd.b)
def p80(f:Nat->Int):Nat->Int
 |0=>0
 |n + 1=>p80 f n + f n
÷i20:∀ {n:Nat},(∀ i < n,f i=g i)->p80 f n=p80 g n
 |0,_=>rfl
 |n + 1,h=>by
  show p80 f n + f n=p80 g n + g n
  rw[i20 λi hi=>h i (by omega),h n (by omega)]
÷O30:∀ n:Nat,p80 (λi=>f i + g i) n=p80 f n + p80 g n
 |0=>rfl
 |n + 1=>by
  show p80 (λi=>f i + g i) n + (f n + g n)=(p80 f n + f n) + (p80 g n + g n)
  rw[O30 n];omega
÷j71(k:Int):∀ n:Nat,p80 (λi=>k * f i) n=k * p80 f n
 |0=>(Ô2 k).symm
 |n + 1=>by
  show p80 (λi=>k * f i) n + k * f n=k * (p80 f n + f n)
  rw[j71 k n,Int.mul_add]
÷j81:∀ {n:Nat},i < n->p80 (λj=>if j=i then v else 0) n=v
 |n + 1,h=>by
  show p80 (λj=>if j=i then v else 0) n + (if n=i then v else 0)=v
  by_cases e:n=i
  ·subst e
   rw[if_pos rfl]
   have:p80 (λj=>if j=n then v else 0) n=0:=by
    have z:p80 (λj=>if j=n then v else 0) n=p80 (λ_=>0) n:=i20 λj hj=>if_neg (by omega)
    have z2:∀ k,p80 (λ_=>0) k=0:=λk=>by
     induction k with
     |zero=>rfl
     |succ k ih=>show p80 (λ_=>0) k + 0=0;rw[ih];rfl
    rw[z,z2]
   rw[this];omega
  ·rw[if_neg e,j81 (n:=n) (by omega)];omega
def cnt(ls:List (List Nat))(j:Nat):Int:=((ls.filter λl=>l.length == j).length:Nat)
÷cnt_cons(l:List Nat)(r:List (List Nat))(j:Nat):cnt (l::r) j=cnt r j + if j=l.length then 1 else 0:=by
 unfold cnt
 rw[Ñ8]
 by_cases h:j=l.length
 ·rw[if_pos h,h,beq_self_eq_true,if_pos rfl,Þ];omega
 ·rw[if_neg h,beq_eq_false_iff_ne.mpr (Â3 h),if_neg (by decide)];omega
÷W61(ls:List (List Nat))(j:Nat):0<=cnt ls j/\cnt ls j<=ls.length:=by
 unfold cnt
 have:=Å3 (λl=>l.length == j) ls
 omega
÷E81(h:Nat->Int):∀ {ls:List (List Nat)},(∀ l∈ls,l.length < n)->p80 (λj=>cnt ls j * h j) n=A22 ls λl=>h l.length
 |[],_=>by
  have:∀ k,p80 (λj=>cnt [] j * h j) k=0:=λk=>by
   induction k with
   |zero=>rfl
   |succ k ih=>show p80 (λj=>cnt [] j * h j) k + 0 * h k=0;rw[ih,zero_mul];rfl
  rw[this];rfl
 |l::r,hl=>by
  have ih:=E81 h (n:=n) λx hx=>hl x (È _ hx)
  have e:p80 (λj=>cnt (l::r) j * h j) n=p80 (λj=>cnt r j * h j + (if j=l.length then h l.length else 0)) n:=i20 λj _=>by
   rw[cnt_cons,Int.add_mul]
   by_cases e:j=l.length
   ·rw[if_pos e,if_pos e,Int.one_mul,e]
   ·rw[if_neg e,if_neg e,zero_mul]
  rw[e,O30,ih,j81 (hl l Ì)]
  show _=h l.length + A22 r _
  omega
def lag(f:Nat->Int)(j:Nat):Int:=f j - if j=0 then 0 else f (j - 1)
def w30(c:Nat->Int):Nat->Nat->Int
 |0,_=>0
 |k + 1,j=>lag (w30 c k) j + if j=k then c k else 0
÷d01(hc:∀ i,0<=c i/\c i<=256):∀ k j,(w30 c k j).natAbs<=256 * (2 ^ k - 1)
 |0,_=>by show(0:Int).natAbs<=_;decide
 |k + 1,j=>by
  show(lag (w30 c k) j + (if j=k then c k else 0)).natAbs<=_
  have h1:=d01 hc k j
  have h2:(if j=0 then(0:Int) else w30 c k (j - 1)).natAbs<=256 * (2 ^ k - 1):=by
   split
   ·§Æ6 _
   ·§d01 hc k (j - 1)
  have h3:(if j=k then c k else 0).natAbs<=256:=by
   have:=hc k
   split <;> omega
  have h4:(lag (w30 c k) j).natAbs<=256 * (2 ^ k - 1) + 256 * (2 ^ k - 1):=Ñ (Int.natAbs_sub_le _ _) (Nat.add_le_add h1 h2)
  ¤Ñ (Ñ (Int.natAbs_add_le _ _) (Nat.add_le_add h4 h3)) ?_
  have hp:0 < 2 ^ k:=Nat.pow_pos (by decide)
  rw[Ú6]
  generalize 2 ^ k=P at hp
  clear h1 h2 h3 h4
  omega
section
variable (t b:Int)
def evN(K:Nat)(f:Nat->Int)(n:Nat):Int:=p80 (λj=>f j * (t ^ j * b ^ (K - j))) n
end
def fl(n:Nat)(f:Nat->Int):List D:=(î n).map λj=>.int (f j)
÷l40(n:Nat)(f:Nat->Int):(fl n f).length=n:=by unfold fl;rw[É,ù]
÷j72(h:i < n):(fl n f)[i]?=some (.int (f i)):=by unfold fl;rw[Ü,Ê0 h];rfl
÷W71(h:i < n):L2.atI (fl n f) (i:Int)=some (.int (f i)):=L2.w60 (j72 h)
÷j91(h:i < n):Z60 (.lst (fl n f)) (a40 i)=some (.int (f i)):=L2.w60 (j72 h)
÷k01(h:∀ i < n,f i=g i):fl n f=fl n g:=Ã5 λi hi=>by rw[h i (Â5.mp hi)]
÷W81(h:i < n):H00 (fl n f) (i:Int) (.int v)=some (fl n λj=>if j=i then v else f j):=by
 have hx:L2.ixN (fl n f).length (i:Int)=some i:=by
  rw[l40]
  unfold L2.ixN
  simp
  omega
 unfold H00
 rw[hx]
 show some (((î n).map λj=>D.int (f j)).set i (.int v))=some ((î n).map λj=>D.int (if j=i then v else f j))
 ¤congrArg some (ext_getElem (by rw[Ä1,É,É]) λj h1 h2=>?_)
 rw[List.getElem_set,Ñ7,Ñ7,Ò3]
 by_cases e:j=i
 ·rw[if_pos e.symm,if_pos e]
 ·rw[if_neg (Â3 e),if_neg e]
÷g50(n:Nat)(f:Nat->Int):o00 (fl n f)=true:=by
 unfold fl
 rw[show((î n).map λj=>D.int (f j))=((î n).map f).map D.int from by rw[ï];rfl]
 §I20 _
÷E91:∀ n:Nat,(í n [D.int 0]).flatten=fl n λ_=>0
 |0=>rfl
 |n + 1=>by
  rw[Å5,É9,E91 n]
  unfold fl
  rw[List.range_succ_eq_map,Å7,ï];rfl
÷zeros{n:Nat}(h:n<=1000):A60 .mul (.lst [.int 0]) (.int n)=some (.fr (fl n λ_=>0)):=by
 show(if 0<=(n:Int)/\(n:Int).toNat * 1<=most/\(n:Int) < 1000000 then some (S.fr (í (n:Int).toNat [D.int 0]).flatten) else none)=_
 rw[if_pos ⟨by omega,by rw[Á9];§o20 (by omega),by omega⟩,Á9,E91]
÷W00{i:Int}{n:Nat}(e:i=n)(h:n<=1000):A60 .mul (.lst [.int 0]) (.int i)=some (.fr (fl n λ_=>0)):=by rw[e];§zeros h
÷j82(n:Nat)(f:Nat->Int):w90 (fl n f) 0=(Á5 0 n).map λi=>.tup [a40 i,.int (f i)]:=by
 have:∀ (r j:Nat),w90 ((Á5 j r).map λi=>D.int (f i)) j=(Á5 j r).map λi=>.tup [a40 i,.int (f i)]:=by
  intro r
  induction r with
  |zero=>intro _;rfl
  |succ r ih =>
   intro j
   rw[û]
   show .tup [.int j,.int (f j)]::w90 ((Á5 (j + 1) r).map λi=>D.int (f i)) (j + 1)=_
   rw[ih];rfl
 unfold fl
 rw[Ç7]
 §this n 0
def C52:D->D
 |.tup [.int a,.int b]=>.int (a - b)
 |x=>x
÷k21:∀ a b:List Int,(n30 (a.map D.int) (b.map D.int)).map C52=(List.zipWith (· - ·) a b).map D.int
 |[],_=>rfl
 |_::_,[]=>rfl
 |x::r,y::q=>by
  show D.int (x - y)::(n30 (r.map D.int) (q.map D.int)).map C52=_
  rw[k21 r q];rfl
÷A62(n:Nat)(f:Nat->Int):(n30 (fl n f) (.int 0::fl n f)).map C52=fl n (lag f):=by
 have e:∀ g:Nat->Int,fl n g=((î n).map g).map D.int:=λg=>by unfold fl;rw[ï];rfl
 rw[e f,show D.int 0::((î n).map f).map D.int=(0::(î n).map f).map D.int from rfl,k21,e (lag f)]
 ¤congrArg _ (ext_getElem ?_ λi h1 h2=>?_)
 ·rw[List.length_zipWith,Þ,É,É,ù];omega
 ·rw[List.getElem_zipWith,Ñ7,Ñ7,Ò3]
  unfold lag
  cases i with
  |zero=>rfl
  |succ i=>rw[List.getElem_cons_succ,Ñ7,Ò3];rfl
÷d11{a b:List Int}{d:D}(h:d∈n30 (a.map D.int) (b.map D.int)):∃ x y,d=.tup [.int x,.int y]:=by
 ¶⟨x,hx,y,hy,rfl⟩:=N20 h
 ¶⟨i,_,rfl⟩:=Ö.mp hx
 ¶⟨j,_,rfl⟩:=Ö.mp hy
 §⟨i,j,rfl⟩
÷p31{n:Nat}{f:Nat->Int}{d:D}(h:d∈n30 (fl n f) (.int 0::fl n f)):∃ x y,d=.tup [.int x,.int y]:=by
 have e:fl n f=((î n).map f).map D.int:=by unfold fl;rw[ï];rfl
 rw[e] at h
 §d11 (b:=0::(î n).map f) h
÷x80:∀ ls:List (List Nat),o00 (ls.map n20)=true
 |[]=>rfl
 |l::r=>by
  show(o00 (l.map a40)&&o00 (r.map n20))=true
  rw[x70,x80];rfl
section
variable {m:Int}{ps:List (Int × Int)}{pl:List Nat}
÷k31(g:f30 m ps)(h:l∈n80 m ps pl):l∈o30 ps.length:=(w10 g.len).mem_iff.mp (Ý0.mp h).1
÷p41(g:f30 m ps):(n80 m ps pl).length<=256:=Ñ (Å3 _ _) (j61 g.len)
abbrev s30(m:Int)(ps:List (Int × Int))(pl:List Nat):Nat->Int:=cnt (n80 m ps pl)
÷F01(k:Nat)(g:f30 m ps)(hp:l30 m pl)(z:Z):b40 T (k + 10) B20 [.d (B30 m ps),.d (.tup (pl.map a40))] z=some (.ok (.fr (fl (ps.length + 1) (s30 m ps pl))) z):=by
 have h8:=g.len
 ¤W.ok (g60 (ps:=2) (ns:=5) (b:=v70) rfl rfl (by decide) (Wo (V80 k g hp z) ?_))
 ¤(M70 (.fr (fl (ps.length + 1) λ_=>0)) [some (.d (B30 m ps)),some (.d (.tup (pl.map a40))),some (.fr ((n80 m ps pl).map n20)),some (.fr (fl (ps.length + 1) λ_=>0)),none] ?_ ?_ ?_ :)
 ·¤(a00 (W00 (i:=((ps.map pr).length:Int) + 1) (n:=ps.length + 1) (by rw[É];rfl) (by omega)) ?_ :)
  §⟨rfl,rfl⟩
 ·rw[E50 (show A00 (.fr (fl (ps.length + 1) λ_=>0))=true from g50 _ _)];rfl
 ¤r50 (λxs ρ z1=>z1=z/\∃ (r:List (List Nat)) (f:Nat->Int) (o2 o4:Option S),xs=r.map n20/\(∀ l∈r,l.length < ps.length + 1)/\(∀ j,f j + cnt r j=s30 m ps pl j)/\ρ=[some (.d (B30 m ps)),some (.d (.tup (pl.map a40))),o2,some (.fr (fl (ps.length + 1) f)),o4]) _ ⟨rfl,n80 m ps pl,λ_=>0,_,none,rfl,λl hl=>Ú7 (r10 (k31 g hl)),λj=>Ô1 _,(itE (l:=[.d (.lst ((n80 m ps pl).map n20))]) (by show(o00 ((n80 m ps pl).map n20)&&true)=true;rw[x80];rfl)).trans rfl⟩ ?_ ?_
 ·rintro x r ρ z1 ⟨rfl,ls,f,o2,o4,e,hl,hf,rfl⟩
  cases ls with
  |nil=>cases e
  |cons l ls =>
   cases e
   have hl0:=hl l Ì
   have el:((l.map a40).length:Int)=(l.length:Nat):=by rw[É]
   ¤(a00 (o:=L2.atI (fl (ps.length + 1) f) ((l.map a40).length:Int)) (a:=.int (f l.length)) (by rw[el];§W71 hl0) ?_ :)
   ¤(a00 (o:=H00 (fl (ps.length + 1) f) ((l.map a40).length:Int) (.int (f l.length + 1))) (a:=fl (ps.length + 1) λj=>if j=l.length then f l.length + 1 else f j) (by rw[el];§W81 hl0) ?_ :)
   ¤⟨rfl,ls,λj=>if j=l.length then f l.length + 1 else f j,_,_,rfl,λl' h'=>hl l' (È _ h'),λj=>?_,rfl⟩
   have:=hf j
   rw[cnt_cons] at this
   show(if j=l.length then f l.length + 1 else f j) + cnt ls j=s30 m ps pl j
   by_cases e:j=l.length
   ·rw[if_pos e] at this
    rw[if_pos e,← e]
    omega
   ·rw[if_neg e] at this
    rw[if_neg e]
    omega
 ·rintro ρ z1 ⟨rfl,ls,f,o2,o4,e,hl,hf,rfl⟩
  cases ls with
  |cons l ls=>cases e
  |nil =>
   ¤sd ?_
   rw[show f=s30 m ps pl from funext λj=>by have:=hf j;show f j=_;rw[← this];§(add_zero _).symm]
÷Q91(k:Nat)(g:f30 m ps)(hx:E11 m x=false)(hs:short x=true)(z:Z):b40 T (k + 10) B20 [.d (B30 m ps),.d x] z=some (.er 2 z) :=
 W.er (g60 (ps:=2) (ns:=5) (b:=v70) rfl rfl (by decide) (We (W.er (g60 (ps:=2) (ns:=2) (b:=i90) rfl rfl (by decide) (Wo (g40 k z g.web) (We (p60 (k + 2) (t:=.tup (ps.map pr)) z hx hs) ⟨rfl,c40 z⟩)))) ⟨rfl,c40 z⟩))
÷R01(k:Nat)(hw:o41 w=false)(z:Z):b40 T (k + 10) B20 [.d w,.d x] z=some (.er 0 z) :=
 W.er (g60 (ps:=2) (ns:=5) (b:=v70) rfl rfl (by decide) (We (W.er (g60 (ps:=2) (ns:=2) (b:=i90) rfl rfl (by decide) (We (y90 k z hw) ⟨rfl,c40 z⟩))) ⟨rfl,c40 z⟩))
abbrev z40(m:Int)(ps:List (Int × Int))(pl:List Nat):Nat->Int:=w30 (s30 m ps pl) (ps.length + 1)
abbrev pwE(m:Int)(ps:List (Int × Int))(pl:List Nat)(o2 o3 o4 o5:Option S):Env:=[some (.d (B30 m ps)),some (.d (.tup (pl.map a40))),o2,o3,o4,o5]
÷W10(k:Nat)(g:f30 m ps)(hp:l30 m pl)(z:Z):b40 T (k + 11) l90 [.d (B30 m ps),.d (.tup (pl.map a40))] z=some (.ok (.fr (fl (ps.length + 1) (z40 m ps pl))) z):=by
 have h8:=g.len
 ¤W.ok (g60 (ps:=2) (ns:=6) (b:=v80) rfl rfl (by decide) (Wo (F01 k g hp z) ?_))
 ¤(M70 (.fr (fl (ps.length + 1) λ_=>0)) (pwE m ps pl (some (.fr (fl (ps.length + 1) (s30 m ps pl)))) (some (.fr (fl (ps.length + 1) λ_=>0))) none none) ?_ ?_ ?_ :)
 ·¤(a00 (W00 (i:=((fl (ps.length + 1) (s30 m ps pl)).length:Int)) (n:=ps.length + 1) (by rw[l40]) (by omega)) ?_ :)
  §⟨rfl,rfl⟩
 ·rw[E50 (show A00 (.fr (fl (ps.length + 1) λ_=>0))=true from g50 _ _)];rfl
 ¤r50 (λxs ρ z1=>z1=z/\∃ (j r:Nat) (s3:S) (o2 o4 o5:Option S),j + r=ps.length + 1/\xs=(Á5 j r).map (λi=>.tup [a40 i,.int (s30 m ps pl i)])/\((j=0/\s3=.d (.lst (fl (ps.length + 1) (w30 (s30 m ps pl) j))))∨s3=.fr (fl (ps.length + 1) (w30 (s30 m ps pl) j)))/\ρ=pwE m ps pl o2 (some s3) o4 o5) _ ⟨rfl,0,ps.length + 1,.d (.lst (fl (ps.length + 1) λ_=>0)),_,_,_,É5 _,j82 _ _,.inl ⟨rfl,rfl⟩,(itE (l:=[.d (.lst (fl (ps.length + 1) (s30 m ps pl)))]) (by show(o00 (fl (ps.length + 1) (s30 m ps pl))&&true)=true;rw[g50];rfl)).trans rfl⟩ ?_ ?_
 ·rintro x r ρ z1 ⟨rfl,j,r',s3,o2,o4,o5,hj,e,hs,rfl⟩
  cases r' with
  |zero=>cases e
  |succ r' =>
   rw[û] at e
   cases e
   ¤(M70 (.fr (fl (ps.length + 1) (lag (w30 (s30 m ps pl) j)))) (pwE m ps pl o2 (some (.fr (fl (ps.length + 1) (lag (w30 (s30 m ps pl) j))))) (some (.d (a40 j))) (some (.d (.int (s30 m ps pl j))))) ?_ ?_ ?_ :)
   ·have st:∀ {Q:List D->Z->Prop}{F:FT},Q (fl (ps.length + 1) (lag (w30 (s30 m ps pl) j))) z1->(if (n30 (fl (ps.length + 1) (w30 (s30 m ps pl) j)) (.int 0::fl (ps.length + 1) (w30 (s30 m ps pl) j))).length<=most then W (turns (o80 (ev F .nil) (ev F (.bin .sub v0 v1)) (p2 (.v 0) (.v 1)) [none,none]) (n30 (fl (ps.length + 1) (w30 (s30 m ps pl) j)) (.int 0::fl (ps.length + 1) (w30 (s30 m ps pl) j)))) z1 Q NE else False):=λ{Q F} q=>by
     ¤ip (Ñ (r00 _ _) (by rw[l40];§o20 (by omega))) (q21 C52 (λx hx=>?_) ?_)
     ·¶⟨a,b,rfl⟩:=p31 hx
      §⟨rfl,rfl⟩
     ·rw[A62];§q
    have ad:A60 .add (.lst [.int 0]) (.lst (fl (ps.length + 1) (w30 (s30 m ps pl) j)))=some (.fr (.int 0::fl (ps.length + 1) (w30 (s30 m ps pl) j))):=add_l (by rw[l40];show 1 + _<=1000;omega)
    rcases hs with ⟨_,rfl⟩ | rfl
    ·¤(a00 ad ?_ :)
     §st (F:=H10 T (k + 10)) ⟨rfl,rfl⟩
    ·¤(a00 ad ?_ :)
     §st (F:=H10 T (k + 10)) ⟨rfl,rfl⟩
   ·rw[E50 (show A00 (.fr (fl (ps.length + 1) (lag (w30 (s30 m ps pl) j))))=true from g50 _ _)]
    rfl
   ·¤(a00 (W71 (f:=lag (w30 (s30 m ps pl) j)) (i:=j) (n:=ps.length + 1) (by omega)) ?_ :)
    ¤(a00 (W81 (f:=lag (w30 (s30 m ps pl) j)) (i:=j) (n:=ps.length + 1) (v:=lag (w30 (s30 m ps pl) j) j + s30 m ps pl j) (by omega)) ?_ :)
    ¤⟨rfl,j + 1,r',_,_,_,_,by omega,rfl,.inr (congrArg S.fr (k01 λi _=>?_)),rfl⟩
    show(if i=j then lag (w30 (s30 m ps pl) j) j + s30 m ps pl j else lag (w30 (s30 m ps pl) j) i)=lag (w30 (s30 m ps pl) j) i + (if i=j then s30 m ps pl j else 0)
    by_cases e:i=j
    ·rw[if_pos e,if_pos e,e]
    ·rw[if_neg e,if_neg e,add_zero]
 ·rintro ρ z1 ⟨rfl,j,r',s3,o2,o4,o5,hj,e,hs,rfl⟩
  cases r' with
  |succ r'=>rw[û] at e;cases e
  |zero =>
   have hj:j=ps.length + 1:=hj
   subst hj
   rcases hs with ⟨h,_⟩ | rfl
   ·cases h
   ·§sd rfl
÷R11(k:Nat)(g:f30 m ps)(hx:E11 m x=false)(hs:short x=true)(z:Z):b40 T (k + 11) l90 [.d (B30 m ps),.d x] z=some (.er 2 z) :=
 W.er (g60 (ps:=2) (ns:=6) (b:=v80) rfl rfl (by decide) (We (Q91 k g hx hs z) ⟨rfl,c40 z⟩))
÷R21(k:Nat)(hw:o41 w=false)(z:Z):b40 T (k + 11) l90 [.d w,.d x] z=some (.er 0 z) :=
 W.er (g60 (ps:=2) (ns:=6) (b:=v80) rfl rfl (by decide) (We (R01 k hw z) ⟨rfl,c40 z⟩))
end
÷j92(k:Nat)(hc:Bs n c)(hd:Bs n d)(hn:n + n<=3999)(z:Z):b40 T (k + 5) C61 [.d (pr c),.d (pr d)] z=some (.ok (.d (pr (n40 (c.1 * d.1) (c.2 * d.2)))) z):=by
 have h1:n<=3999:=by omega
 ¤W.ok (g60 (ps:=2) (ns:=2) (b:=b81) rfl rfl (by decide) ?_)
 ¤(a00 (V90 h1 hc.t hd.t) ?_ :)
 ¤(a00 (V90 h1 hc.b hd.b) ?_ :)
 §Wo (V20 k _ _ z (Ô6 hc.b0 hd.b0) (c91 hn (p70 hc.b hd.b))) (sd rfl)
÷Rt.is(h:Rt v t b)(hb:0 < b):v=n40 t b:=h.eqv (.low hb) hb
÷Rt.bs(h:Rt v t b)(hb:0 < b)(h1:t.natAbs<=2 ^ n)(h2:b.natAbs<=2 ^ n):Bs n v:=by
 rw[h.is hb];§.low hb h1 h2
def F11(t b:Int)(f:Nat->Int)(K:Nat):Nat->Int
 |0=>0
 |s + 1=>t * F11 t b f K s + f (K - s) * b ^ (s + 1)
÷F21(t b:Int)(f:Nat->Int)(K:Nat):∀ s,s<=K + 1->t ^ (K + 1 - s) * F11 t b f K s + b * evN t b K f (K + 1 - s)=b * evN t b K f (K + 1)
 |0,_=>by show t ^ (K + 1) * 0 + _=_;rw[Ô2,Ô1];rfl
 |s + 1,h=>by
  rw[← F21 t b f K s (by omega)]
  have e1:K + 1 - s=(K - s) + 1:=by omega
  have e2:K + 1 - (s + 1)=K - s:=by omega
  rw[e1,e2]
  show t ^ (K - s) * (t * F11 t b f K s + f (K - s) * b ^ (s + 1)) + b * evN t b K f (K - s)=t ^ (K - s + 1) * F11 t b f K s + b * (evN t b K f (K - s) + f (K - s) * (t ^ (K - s) * b ^ (K - (K - s))))
  rw[show K - (K - s)=s by omega,Ç6,Ç6]
  generalize t ^ (K - s)=X
  generalize b ^ s=B
  generalize F11 t b f K s=H
  generalize evN t b K f (K - s)=V
  grind
÷R31(t b:Int)(f:Nat->Int)(K:Nat):F11 t b f K (K + 1)=b * evN t b K f (K + 1):=by
 have h:=F21 t b f K (K + 1) (Í _)
 rw[sub_self,Ó1,Int.one_mul] at h
 rw[← h]
 show _=F11 t b f K (K + 1) + b * 0
 rw[Ô2,add_zero]
÷k02{a b:Int}:(a + b).natAbs<=a.natAbs + b.natAbs:=Int.natAbs_add_le a b
÷t60(hc:IsC c):∀ s:Nat,(c.2 ^ s).natAbs<=2 ^ (10 * s)/\0 < c.2 ^ s
 |0=>⟨by rw[Ó1];decide,by rw[Ó1];decide⟩
 |s + 1=>by
  ¶⟨h1,h2⟩:=t60 hc s
  rw[Ç6]
  have:=hc.s.b
  §⟨p70 h1 this,Ô6 h2 hc.s.b0⟩
÷F31(hc:IsC c)(hf:∀ j,(f j).natAbs<=2 ^ 17){K:Nat}:∀ s,(F11 c.1 c.2 f K s).natAbs<=2 ^ (17 + 11 * s)
 |0=>Æ6 _
 |s + 1=>by
  have ih:=F31 hc hf (K:=K) s
  have h1:=p70 hc.s.t ih
  have h2:=p70 (hf (K - s)) (t60 hc (s + 1)).1
  ¤Ñ k02 ?_
  have e1:2 ^ (10 + (17 + 11 * s))<=2 ^ (16 + 11 * (s + 1)):=À4 (by decide) (by omega)
  have e2:2 ^ (17 + 10 * (s + 1))<=2 ^ (16 + 11 * (s + 1)):=À4 (by decide) (by omega)
  have e3:2 ^ (17 + 11 * (s + 1))=2 * 2 ^ (16 + 11 * (s + 1)):=by rw[show 17 + 11 * (s + 1)=(16 + 11 * (s + 1)) + 1 by omega,Ú6,Ó9]
  rw[e3]
  omega
section
variable {m:Int}{ps:List (Int × Int)}{pl:List Nat}{c:Int × Int}
÷F41(g:f30 m ps)(j:Nat):(z40 m ps pl j).natAbs<=2 ^ 17:=by
 have h8:=g.len
 ¤Ñ (d01 (λi=>?_) _ _) ?_
 ·have:=W61 (n80 m ps pl) i
  have:=p41 g (pl:=pl)
  §⟨(W61 (n80 m ps pl) i).1,by show cnt (n80 m ps pl) i<=256;omega⟩
 ·have:2 ^ (ps.length + 1)<=2 ^ 9:=À4 (by decide) (by omega)
  have e9:2 ^ 9=512:=by decide
  have e17:2 ^ 17=131072:=by decide
  omega
def Q22(m:Int)(ps:List (Int × Int))(pl:List Nat)(c:Int × Int):Int × Int:=n40 (evN c.1 c.2 ps.length (z40 m ps pl) (ps.length + 1)) (c.2 ^ ps.length)
÷F51(f:Nat->Int):∀ n,(fl (n + 1) f).reverse=.int (f n)::(fl n f).reverse:=λn=>by
 unfold fl
 rw[List.range_succ,Æ3,List.reverse_append];rfl
÷d21(k:Nat)(g:f30 m ps)(hp:l30 m pl)(hc:IsC c)(z:Z):b40 T (k + 12) e40 [.d (B30 m ps),.d (.tup (pl.map a40)),.d (pr c)] z=some (.ok (.d (pr (Q22 m ps pl c))) z):=by
 have h8:=g.len
 have h6:=hp.len g.m6
 ¤W.ok (g60 (ps:=3) (ns:=5) (b:=i10) rfl rfl (by decide) (Wo (g40 (k + 3) z g.web) (Wo (j20 (k + 5) (t:=.tup (ps.map pr)) z hp.pls (decide_eq_true (by rw[É];omega))) (Wo (F60 (k + 6) z hc.ch) (Wo (W10 k g hp z) ?_)))))
 ¤r50 (λxs ρ z1=>z1=z/\∃ (s:Nat) (v:Int × Int) (o4:Option S),s<=ps.length + 1/\xs=(fl (ps.length + 1 - s) (z40 m ps pl)).reverse/\Rt v (F11 c.1 c.2 (z40 m ps pl) ps.length s) (c.2 ^ s)/\ρ=[some (.d (B30 m ps)),some (.d (.tup (pl.map a40))),some (.d (pr c)),some (.d (pr v)),o4]) _ ⟨rfl,0,(0,1),none,Æ6 _,rfl,⟨by decide,by decide,by show(0:Int) * _=0 * _;rw[zero_mul,zero_mul]⟩,rfl⟩ ?_ ?_
 ·rintro x r ρ z1 ⟨rfl,s,v,o4,hs,e,hv,rfl⟩
  by_cases h:s=ps.length + 1
  ·subst h
   rw[sub_self] at e
   cases e
  ·rw[show ps.length + 1 - s=(ps.length - s) + 1 by omega,F51] at e
   cases e
   have hb:=t60 hc s
   have hbs:Bs 116 v:=hv.bs hb.2 (Ñ (F31 hc (F41 g) s) (À4 (by decide) (by omega))) (Ñ hb.1 (À4 (by decide) (by omega)))
   have hcs:Bs 116 c:=hc.s.up (by decide)
   have hi:Bs 232 (z40 m ps pl (ps.length - s),(1:Int)):=⟨Ñ (F41 g _) (À4 (by decide) (by decide)),by show(0:Int) < 1;decide,by show(1:Int).natAbs<=2 ^ 232;decide⟩
   ¤Wo (j92 (k + 6) hbs hcs (by decide) z1) (Wo (A52 (k + 6) (hbs.mul hcs) hi (by decide) z1) ?_)
   ¤⟨rfl,s + 1,_,_,by omega,by rw[show ps.length + 1 - (s + 1)=ps.length - s by omega],?_,rfl⟩
   have hr:Rt (z40 m ps pl (ps.length - s),(1:Int)) (z40 m ps pl (ps.length - s)) 1:=⟨by show(0:Int) < 1;decide,Int.gcd_one_right _,rfl⟩
   ¤((hv.mul hc.rt).add hr).conv ?_ ?_
   ·§Ô6 (Ô6 hb.2 hc.s.b0) (by decide)
   ·show _ * c.2 ^ (s + 1)=(c.1 * F11 c.1 c.2 (z40 m ps pl) ps.length s + z40 m ps pl (ps.length - s) * c.2 ^ (s + 1)) * _
    rw[Ç6]
    generalize c.2 ^ s=B
    generalize F11 c.1 c.2 (z40 m ps pl) ps.length s=H
    grind
 ·rintro ρ z1 ⟨rfl,s,v,o4,hs,e,hv,rfl⟩
  have hs':s=ps.length + 1:=by
   have:=congrArg List.length e
   rw[Ì3,l40] at this
   simp only[Á1] at this
   omega
  subst hs'
  ¤sd ?_
  rw[R31] at hv
  have hb:=t60 hc ps.length
  have:Rt v (evN c.1 c.2 ps.length (z40 m ps pl) (ps.length + 1)) (c.2 ^ ps.length):=hv.conv (t60 hc (ps.length + 1)).2 (by rw[Ç6];generalize c.2 ^ ps.length=B;generalize evN c.1 c.2 ps.length (z40 m ps pl) (ps.length + 1)=V;grind)
  rw[this.is hb.2];rfl
÷p51(k:Nat)(g:f30 m ps)(hp:l30 m pl)(hx:chD x=false)(z:Z):b40 T (k + 12) e40 [.d (B30 m ps),.d (.tup (pl.map a40)),.d x] z=some (.er 5 z):=by
 have h6:=hp.len g.m6
 §W.er (g60 (ps:=3) (ns:=5) (b:=i10) rfl rfl (by decide) (Wo (g40 (k + 3) z g.web) (Wo (j20 (k + 5) (t:=.tup (ps.map pr)) z hp.pls (decide_eq_true (by rw[É];omega))) (We (F70 (k + 6) z hx) ⟨rfl,c40 z⟩))))
÷p61(k:Nat)(g:f30 m ps)(hy:E11 m y=false)(hs:short y=true)(z:Z):b40 T (k + 12) e40 [.d (B30 m ps),.d y,.d x] z=some (.er 2 z) :=
 W.er (g60 (ps:=3) (ns:=5) (b:=i10) rfl rfl (by decide) (Wo (g40 (k + 3) z g.web) (We (p60 (k + 5) (t:=.tup (ps.map pr)) z hy hs) ⟨rfl,c40 z⟩)))
÷p71(k:Nat)(hw:o41 w=false)(z:Z):b40 T (k + 12) e40 [.d w,.d y,.d x] z=some (.er 0 z) :=
 W.er (g60 (ps:=3) (ns:=5) (b:=i10) rfl rfl (by decide) (We (y90 (k + 3) z hw) ⟨rfl,c40 z⟩))
end
÷eq_self(h:okD x=true)(hs:U11 .seq x=false):A70 .eq x x=some true:=by
 show(if okD x&&okD x then some (eqD x x) else eqE x x)=some true
 rw[h]
 cases x with
 |non=>rfl
 |bl b=>show some (b == b)=_;rw[beq_self_eq_true]
 |int i=>show some (i == i)=_;rw[beq_self_eq_true]
 |str s=>show some (s == s)=_;rw[beq_self_eq_true]
 |tup l=>cases hs
 |lst l=>cases hs
 |dct=>rfl
÷O40:∀ {l:List D}{d:D},d∈n30 l l->∃ x∈l,d=.tup [x,x]
 |x::r,d,h=>by
  rcases ú.mp h with h | h
  ·§⟨x,Ì,h⟩
  ·¶⟨u,hu,e⟩:=O40 h
   §⟨u,È _ hu,e⟩
mutual
noncomputable def flat:Nat->D->Bool
 |_,.non=>true
 |_,.bl _=>true
 |_,.int _=>true
 |_,.str _=>false
 |0,.tup _=>false
 |d + 1,.tup l=>decide (l.length<=1000)&&d31 d l
 |_,.lst _=>false
 |_,.dct=>false
noncomputable def d31:Nat->List D->Bool
 |_,[]=>true
 |d,x::r=>flat d x&&d31 d r
end
÷W20:∀ {d:Nat}{l:List D}{x:D},d31 d l=true->x∈l->flat d x=true
 |d,y::r,x,h,hx=>by
  unfold d31 at h
  rw[Á] at h
  rcases ú.mp hx with rfl | hx
  ·§h.1
  ·§W20 h.2 hx
÷F61:∀ (d k:Nat) (x:D) (z:Z),flat d x=true->b40 T (k + d + 3) e30 [.d x,.d x] z=some (.ok (.d (.bl true)) z):=by
 have one:∀ (k:Nat) (x:D) (z:Z),okD x=true->U11 .seq x=false->b40 T (k + 3) e30 [.d x,.d x] z=some (.ok (.d (.bl true)) z):=λk x z h hs=>by
  ¤W.ok (g60 (ps:=2) (ns:=2) (b:=j00) rfl rfl (by decide) (ie hs ?_))
  ¤(a00 (eq_self h hs) ?_ :)
  cases x with
  |tup l=>cases hs
  |lst l=>cases hs
  |_=>§sb rfl
 intro d
 induction d with
 |zero =>
  intro k x z h
  cases x with
  |non=>§one k _ z rfl rfl
  |bl b=>§one k _ z rfl rfl
  |int i=>§one k _ z rfl rfl
  |_=>unfold flat at h;cases h
 |succ d ih =>
  intro k x z h
  cases x with
  |non=>§one _ _ z rfl rfl
  |bl b=>§one _ _ z rfl rfl
  |int i=>§one _ _ z rfl rfl
  |tup l =>
   unfold flat at h
   rw[Á,decide_eq_true_eq] at h
   ¤W.ok (g60 (ps:=2) (ns:=2) (b:=j00) rfl rfl (by decide) ?_)
   ¤ie (b:=!((l.length:Int) == (l.length:Int))) (by rw[beq_self_eq_true];rfl) ?_
   ¤ip (c:=(n30 l l).length<=most) (Ñ (r00 _ _) (o20 h.1)) (q21 (λ_=>.bl true) (λq hq=>?_) (a00 (F30 (n30 l l) λ_=>true) ?_ :))
   ·¶⟨x,hx,rfl⟩:=O40 hq
    §Wo (ih k x z (W20 h.2 hx)) ⟨rfl,rfl⟩
   ·§sb (b:=(n30 l l).all λ_=>true) (Õ.mpr λ_ _=>rfl)
  |_=>unfold flat at h;cases h
÷k41{d:Nat}:∀ {l:List D},(∀ x∈l,flat d x=true)->d31 d l=true
 |[],_=>by unfold d31;rfl
 |x::r,h=>by
  unfold d31
  rw[h x Ì,k41 λy hy=>h y (È _ hy)];rfl
÷R41{d:Nat}{l:List D}(h:l.length<=1000)(ha:∀ x∈l,flat d x=true):flat (d + 1) (.tup l)=true:=by
 unfold flat
 rw[decide_eq_true h,k41 ha];rfl
÷R51{d:Nat}{i:Int}:flat d (.int i)=true:=by unfold flat;rfl
÷k12{d:Nat}{p:Int × Int}:flat (d + 1) (pr p)=true:=R41 (by decide:2<=1000) λx hx=>by
 simp only[Â7,À0,or_false] at hx
 rcases hx with rfl | rfl <;> §R51
÷F71(k:Nat){l:List D}(hl:l.length<=1000)(h:∀ x∈l,flat 0 x=true)(z:Z):b40 T (k + 4) e30 [.d (.lst l),.d (.lst l)] z=some (.ok (.d (.bl true)) z):=by
 ¤W.ok (g60 (ps:=2) (ns:=2) (b:=j00) rfl rfl (by decide) ?_)
 ¤ie (b:=!((l.length:Int) == (l.length:Int))) (by rw[beq_self_eq_true];rfl) ?_
 ¤ip (c:=(n30 l l).length<=most) (Ñ (r00 _ _) (o20 hl)) (q21 (λ_=>.bl true) (λq hq=>?_) (a00 (F30 (n30 l l) λ_=>true) ?_ :))
 ·¶⟨x,hx,rfl⟩:=O40 hq
  §Wo (F61 0 k x z (h x hx)) ⟨rfl,rfl⟩
 ·§sb (b:=(n30 l l).all λ_=>true) (Õ.mpr λ_ _=>rfl)
÷k22(k n:Nat)(hn:n<=1000)(f:Nat->Int)(z:Z):b40 T (k + 4) e30 [.d (.lst (fl n f)),.d (.lst (fl n f))] z=some (.ok (.d (.bl true)) z) :=
 F71 k (by rw[l40];§hn) (λx hx=>by
  ¶⟨i,_,rfl⟩:=Ö.mp hx
  unfold flat;rfl) z
abbrev pf(ps:List (Int × Int))(i:Nat):Int × Int:=ps.getD i (0,0)
section
variable {m:Int}{ps cs:List (Int × Int)}{pl:List Nat}
÷A72{i:Nat}(h:i < ps.length):pf ps i∈ps:=by
 rw[pf,Ø,æ h];§É2 h
÷f30.ab(g:f30 m ps){n:Nat}(hn:n < ps.length):tA ps n < tB ps n/\tB ps n < m.toNat/\pf ps n=((tA ps n:Int),(tB ps n:Int)):=by
 have:=g.tie _ (A72 hn)
 ¤⟨by show(pf ps n).1.toNat < (pf ps n).2.toNat;omega,by show(pf ps n).2.toNat < _;omega,Prod.ext ?_ ?_⟩
 ·show(pf ps n).1=((pf ps n).1.toNat:Int);omega
 ·show(pf ps n).2=((pf ps n).2.toNat:Int);omega
end
def W30(F:List Nat)(a b:Nat):List Nat:=if a∈F/\b ∉ F then F++[b] else F
÷k51(h:x∈F):x∈W30 F a b:=by
 unfold W30
 split
 ·§Æ5 _ h
 ·§h
÷d41(F:List Nat)(a b:Nat):(W30 F a b=F/\(a∈F->b∈F))∨F.length < (W30 F a b).length:=by
 unfold W30
 split
 ·§.inr (by rw[Q11];omega)
 ·rename_i h
  §.inl ⟨rfl,λha=>Ü0 λhb=>h ⟨ha,hb⟩⟩
def Pls(m:Nat)(F:List Nat):Prop:=F.Nodup/\∀ x∈F,x < m
÷p90:∀ {m:Nat}{F:List Nat},Pls m F->F.length<=m
 |0,[],_=>Í _
 |0,x::_,h=>absurd (h.2 x Ì) (Ö1 _)
 |m + 1,F,h=>by
  have h1:(F.erase m).length<=m:=p90 ⟨h.1.erase m,λx hx=>by
   have h2:=h.2 x (List.mem_of_mem_erase hx)
   have h3:x≠m:=(List.Nodup.mem_erase_iff h.1).mp hx |>.1
   omega⟩
  by_cases hm:m∈F
  ·rw[List.length_erase_of_mem hm] at h1;omega
  ·rw[List.erase_of_not_mem hm] at h1;omega
÷B50(h:Pls m F)(hb:b < m):Pls m (W30 F a b):=by
 unfold W30
 split
 ·rename_i hh
  ¤⟨List.nodup_append.mpr ⟨h.1,by simp,λx hx y hy=>?_⟩,λx hx=>?_⟩
  ·rw[é.mp hy];§λe=>hh.2 (e ▸ hx)
  ·rcases Ã6.mp hx with hx | hx
   ·§h.2 x hx
   ·rw[é.mp hx];§hb
 ·§h
÷W91{F:List Nat}{a b:Nat}{f:Nat->Int}{v:Int}(h:∀ x∈F,f x=v)(e:f a=f b):∀ x∈W30 F a b,f x=v:=by
 unfold W30
 split
 ·rename_i hh
  intro x hx
  rcases Ã6.mp hx with hx | hx
  ·§h x hx
  ·rw[é.mp hx,← e];§h a hh.1
 ·§h
section
variable (ps:List (Int × Int))
def spr(F:List Nat)(n:Nat):List Nat:=W30 (W30 F (tA ps n) (tB ps n)) (tB ps n) (tA ps n)
def rnd(lot:List Nat)(F:List Nat):List Nat:=lot.foldl (spr ps) F
def x90(lot:List Nat):Nat->List Nat->List Nat
 |0,F=>F
 |j + 1,F=>x90 lot j (rnd ps lot F)
variable {ps:List (Int × Int)}
÷A82(F:List Nat)(n:Nat):(spr ps F n=F/\(tA ps n∈F↔tB ps n∈F))∨F.length < (spr ps F n).length:=by
 unfold spr
 rcases d41 F (tA ps n) (tB ps n) with ⟨h1,h2⟩ | h1
 ·rw[h1]
  rcases d41 F (tB ps n) (tA ps n) with ⟨h3,h4⟩ | h3
  ·§.inl ⟨h3,h2,h4⟩
  ·§.inr h3
 ·rcases d41 (W30 F (tA ps n) (tB ps n)) (tB ps n) (tA ps n) with ⟨h3,_⟩ | h3
  ·rw[h3];§.inr h1
  ·§.inr (Nat.lt_trans h1 h3)
÷F81:∀ (lot F:List Nat),(rnd ps lot F=F/\∀ n∈lot,(tA ps n∈F↔tB ps n∈F))∨F.length < (rnd ps lot F).length
 |[],F=>.inl ⟨rfl,λ_ h=>nomatch h⟩
 |n::r,F=>by
  show(rnd ps r (spr ps F n)=F/\_)∨F.length < (rnd ps r (spr ps F n)).length
  rcases A82 (ps:=ps) F n with ⟨h1,h2⟩ | h1
  ·rw[h1]
   rcases F81 r F with ⟨h3,h4⟩ | h3
   ·¤.inl ⟨h3,λk hk=>?_⟩
    rcases ú.mp hk with rfl | hk
    ·§h2
    ·§h4 k hk
   ·§.inr h3
  ·rcases F81 r (spr ps F n) with ⟨h3,_⟩ | h3
   ·rw[h3];§.inr h1
   ·§.inr (Nat.lt_trans h1 h3)
÷F91:∀ {lot F:List Nat},Pls m F->(∀ n∈lot,tA ps n < m/\tB ps n < m)->Pls m (rnd ps lot F)
 |[],_,h,_=>h
 |n::r,F,h,hl=>F91 (lot:=r) (F:=spr ps F n) (B50 (B50 h (hl n Ì).2) (hl n Ì).1) λk hk=>hl k (È _ hk)
÷A92{f:Nat->Int}{v:Int}:∀ {lot F:List Nat},(∀ x∈F,f x=v)->(∀ n∈lot,f (tA ps n)=f (tB ps n))->∀ x∈rnd ps lot F,f x=v
 |[],_,h,_=>h
 |n::r,F,h,hl=>A92 (lot:=r) (F:=spr ps F n) (W91 (W91 h (hl n Ì)) (hl n Ì).symm) λk hk=>hl k (È _ hk)
÷G01:∀ {lot F:List Nat}{x:Nat},x∈F->x∈rnd ps lot F
 |[],_,_,h=>h
 |n::r,F,x,h=>G01 (lot:=r) (F:=spr ps F n) (k51 (k51 h))
÷k61(hl:∀ n∈lot,tA ps n < m/\tB ps n < m):∀ {j:Nat}{F:List Nat},Pls m F->Pls m (x90 ps lot j F)
 |0,_,h=>h
 |j + 1,_,h=>k61 hl (j:=j) (F91 h hl)
÷X01{f:Nat->Int}{v:Int}{lot:List Nat}(hl:∀ n∈lot,f (tA ps n)=f (tB ps n)):∀ {j:Nat}{F:List Nat},(∀ x∈F,f x=v)->∀ x∈x90 ps lot j F,f x=v
 |0,_,h=>h
 |j + 1,_,h=>X01 hl (j:=j) (A92 h hl)
÷k71:∀ {j:Nat}{F:List Nat}{x:Nat},x∈F->x∈x90 ps lot j F
 |0,_,_,h=>h
 |j + 1,_,_,h=>k71 (j:=j) (G01 h)
÷G11:∀ (j:Nat) (F:List Nat),(∀ n∈lot,(tA ps n∈x90 ps lot j F↔tB ps n∈x90 ps lot j F))∨F.length + j<=(x90 ps lot j F).length
 |0,F=>.inr (Í _)
 |j + 1,F=>by
  show(∀ n∈lot,(tA ps n∈x90 ps lot j (rnd ps lot F)↔tB ps n∈x90 ps lot j (rnd ps lot F)))∨F.length + (j + 1)<=(x90 ps lot j (rnd ps lot F)).length
  rcases F81 (ps:=ps) lot F with ⟨h1,h2⟩ | h1
  ·have e:∀ i,x90 ps lot i F=F:=λi=>by
    induction i with
    |zero=>rfl
    |succ i ih=>show x90 ps lot i (rnd ps lot F)=F;rw[h1];§ih
   ¤.inl ?_
   rw[h1,e];§h2
  ·rcases G11 (lot:=lot) j (rnd ps lot F) with h2 | h2
   ·§.inl h2
   ·§.inr (by omega)
÷G21{m:Int}{pl lot:List Nat}(g:f30 m ps)(hp:l30 m pl)(hl:∀ n∈lot,n < ps.length):(∀ p∈pl,p∈x90 ps lot m.toNat [pl.getD 0 0])↔F50 ps m.toNat pl lot=true:=by
 have hr:∀ n∈lot,tA ps n < m.toNat/\tB ps n < m.toNat:=λn hn=>g.rng n (hl n hn)
 have hpm:∀ p∈pl,p < m.toNat:=λp h=>by have:=hp.lt p h;omega
 have p0:pl.getD 0 0 < m.toNat:=hp.p0
 rw[Q61 g.rng hpm hl]
 constructor
 ·§λh f hf p hpp=>X01 hf (λx hx=>by rw[é.mp hx]) p (h p hpp)
 ·intro h p hpp
  have cl:∀ n∈lot,(tA ps n∈x90 ps lot m.toNat [pl.getD 0 0]↔tB ps n∈x90 ps lot m.toNat [pl.getD 0 0]):=by
   rcases G11 (ps:=ps) (lot:=lot) m.toNat [pl.getD 0 0] with h1 | h1
   ·§h1
   ·have:=p90 (k61 hr (j:=m.toNat) (F:=[pl.getD 0 0]) ⟨by simp,λx hx=>by rw[é.mp hx];§p0⟩)
    simp only[Þ,Á1] at h1
    omega
  have h2:=h (λx=>if x∈x90 ps lot m.toNat [pl.getD 0 0] then 1 else 0) (λn hn=>by
   by_cases hx:tA ps n∈x90 ps lot m.toNat [pl.getD 0 0]
   ·rw[if_pos hx,if_pos ((cl n hn).mp hx)]
   ·rw[if_neg hx,if_neg λhy=>hx ((cl n hn).mpr hy)]) p hpp
  rw[if_pos (k71 (é.mpr rfl))] at h2
  §Ü0 λhx=>by rw[if_neg hx] at h2;cases h2
end
def l52(k:Nat):List Nat->List Nat
 |[]=>[k]
 |y::r=>if y < k then y::l52 k r else k::y::r
def d51:List Nat->List Nat
 |[]=>[]
 |k::r=>l52 k (d51 r)
÷W40(k:Nat):∀ l,(l52 k l).Perm (k::l)
 |[]=>.refl _
 |y::r=>by
  unfold l52
  split
  ·§((W40 k r).cons y).trans (.swap _ _ _)
  ·§.refl _
÷I40:∀ l,(d51 l).Perm l
 |[]=>.refl _
 |k::r=>(W40 k _).trans ((I40 r).cons k)
÷k81(k:Nat):∀ l:List Nat,q11 (a40 k) (l.map a40)=(l52 k l).map a40
 |[]=>rfl
 |y::r=>by
  unfold l52
  show(if MySort.h30 [(y:Int)] [(k:Int)] then a40 y::q11 (a40 k) (r.map a40) else a40 k::a40 y::r.map a40)=_
  rw[N32,k81 k r]
  by_cases h:y < k
  ·rw[decide_eq_true (by omega:(y:Int) < k),if_pos rfl,if_pos h];rfl
  ·rw[decide_eq_false (by omega:¬ (y:Int) < k),if_neg (by decide),if_neg h];rfl
÷W50:∀ l:List Nat,u60 (l.map a40)=(d51 l).map a40
 |[]=>rfl
 |k::r=>by
  show q11 (a40 k) (u60 (r.map a40))=_
  rw[W50 r,k81];rfl
÷d61(h:l.length < 64):bfD .sorted [.lst (l.map a40)]=some (.fr ((d51 l).map a40)):=by
 have ok:n10 (l.map a40)=true:=by
  ¤Õ.mpr λx hx=>?_
  ¶⟨p,_,rfl⟩:=Ö.mp hx
  show(true&&(true&&(l.map a40).all (i50 (a40 p))))=true
  ¤Õ.mpr λy hy=>?_
  ¶⟨q,_,rfl⟩:=Ö.mp hy
  §N70 p q
 show(if (l.map a40).length < 64/\n10 (l.map a40)=true then some (S.fr (u60 (l.map a40))) else _)=_
 rw[if_pos ⟨by rw[É];§h,ok⟩,W50]
÷O50{n:Nat}{l:List Nat}:(M71 (a40 n) (l.map a40)).map (!·)=some (!decide (n∈l)):=by rw[c61];rfl
def G31:D->Nat
 |.int i=>i.toNat
 |_=>0
section
variable {m:Int}{ps:List (Int × Int)}{pl lot:List Nat}
abbrev wiE(m:Int)(ps:List (Int × Int))(lot:List Nat)(p0:Nat)(F:List Nat)(o4 o5 o6 o7:Option S):Env:=[some (.d (B30 m ps)),some (.d (.tup (lot.map a40))),some (.d (a40 p0)),some (.fr (F.map a40)),o4,o5,o6,o7]
÷k91:F.map a40++[a40 b]=(F++[b]).map a40:=by rw[Æ3];rfl
÷d71(k:Nat)(g:f30 m ps)(hl:∀ n∈lot,n < ps.length){p0:Nat}(h0:p0 < m.toNat)(z:Z):b40 T (k + 3) E80 [.d (B30 m ps),.d (.tup (lot.map a40)),.d (a40 p0)] z=some (.ok (.d (.tup ((d51 (x90 ps lot m.toNat [p0])).map a40))) z):=by
 have m6:=g.m6
 have m1:=g.m1
 have hr:∀ n∈lot,tA ps n < m.toNat/\tB ps n < m.toNat:=λn hn=>g.rng n (hl n hn)
 ¤W.ok (g60 (ps:=3) (ns:=8) (b:=t00) rfl rfl (by decide) ?_)
 ¤(M70 (.fr [a40 p0]) (wiE m ps lot p0 [p0] none none none none) ?_ ?_ ?_ :)
 ·§⟨rfl,rfl⟩
 ·rfl
 ¤(a00 (U80 (m:=m) (by omega) (by omega)) ?_ :)
 ¤r50 (λxs ρ z1=>z1=z/\∃ (F:List Nat) (o4 o5 o6 o7:Option S),Pls m.toNat F/\x90 ps lot xs.length F=x90 ps lot m.toNat [p0]/\ρ=wiE m ps lot p0 F o4 o5 o6 o7) _ ⟨rfl,[p0],none,none,none,none,⟨by simp,λx hx=>by rw[é.mp hx];§h0⟩,by rw[É,ù],rfl⟩ ?_ ?_
 ·rintro x r ρ z1 ⟨rfl,F,o4,o5,o6,o7,hF,e,rfl⟩
  ¤r50 (λxs ρ z2=>z2=z1/\∃ (l G:List Nat) (o4 o5 o6 o7:Option S),xs=l.map a40/\(∀ n∈l,n < ps.length)/\Pls m.toNat G/\rnd ps l G=rnd ps lot F/\ρ=wiE m ps lot p0 G o4 o5 o6 o7) _ ⟨rfl,lot,F,some (.d x),o5,o6,o7,rfl,hl,hF,rfl,(itE (Row.t lot).ba).trans rfl⟩ ?_ ?_
  ·rintro y r' ρ z2 ⟨rfl,l,G,o4,o5,o6,o7,e1,hl1,hG,e2,rfl⟩
   cases l with
   |nil=>cases e1
   |cons n l =>
    cases e1
    have hn:=hl1 n Ì
    have ab:=(g.ab hn).2.2
    have rb:=g.rng n hn
    have len:=p90 hG
    ¤(a00 (show Z60 (.tup (ps.map pr)) (.int n)=some (pr ((tA ps n:Int),(tB ps n:Int))) from by rw[W41 hn];§congrArg (λx=>some (pr x)) ab) ?_ :)
    ¤i42 (λρ z3=>z3=z2/\∃ (o4 o5:Option S),ρ=wiE m ps lot p0 (W30 G (tA ps n) (tB ps n)) o4 o5 (some (.d (a40 (tA ps n)))) (some (.d (a40 (tB ps n))))) ?_ ?_
    ·have no:∀ h:¬ (tA ps n∈G/\tB ps n ∉ G),W30 G (tA ps n) (tB ps n)=G:=λh=>if_neg h
     ¤(a00 (c61 (n:=tA ps n) (l:=G)) ?_ :)
     ¤ib (b:=decide (tA ps n∈G)) (λh1=>?_) λh1=>⟨rfl,_,_,by rw[no λh=>of_decide_eq_false h1 h.1];rfl⟩
     ¤(a00 (O50 (n:=tB ps n) (l:=G)) ?_ :)
     ¤ib (b:=!decide (tB ps n∈G)) (λh2=>?_) λh2=>⟨rfl,_,_,by rw[no λh=>by rw[decide_eq_false h.2] at h2;cases h2];rfl⟩
     ¤(a00 (add_l (a:=G.map a40) (b:=[a40 (tB ps n)]) (by rw[É];show G.length + 1<=1000;omega)) ?_ :)
     rw[k91,show W30 G (tA ps n) (tB ps n)=G++[tB ps n] from if_pos ⟨of_decide_eq_true h1,by simpa using h2⟩]
     §⟨rfl,_,_,rfl⟩
    ·rintro ρ z3 ⟨rfl,o4,o5,rfl⟩
     have hG1:=B50 (a:=tA ps n) (b:=tB ps n) hG rb.2
     have Q11:=p90 hG1
     have fin:∀ (ρ:Env) (G':List Nat) (o4 o5 o6 o7:Option S),G'=spr ps G n->ρ=wiE m ps lot p0 G' o4 o5 o6 o7->(z3=z3/\∃ (l' G:List Nat) (o4 o5 o6 o7:Option S),List.map a40 l=l'.map a40/\(∀ n∈l',n < ps.length)/\Pls m.toNat G/\rnd ps l' G=rnd ps lot F/\ρ=wiE m ps lot p0 G o4 o5 o6 o7):=λρ G' o4 o5 o6 o7 e he=>⟨rfl,l,G',o4,o5,o6,o7,rfl,λk hk=>hl1 k (È _ hk),by rw[e];§B50 hG1 rb.1,by rw[e];§e2,he⟩
     unfold spr at fin
     generalize W30 G (tA ps n) (tB ps n)=G1 at fin hG1 Q11
     have no:∀ h:¬ (tB ps n∈G1/\tA ps n ∉ G1),G1=W30 G1 (tB ps n) (tA ps n):=λh=>(if_neg h).symm
     ¤(a00 (c61 (n:=tB ps n) (l:=G1)) ?_ :)
     ¤ib (b:=decide (tB ps n∈G1)) (λh1=>?_) λh1=>fin _ G1 _ _ _ _ (no λh=>of_decide_eq_false h1 h.1) rfl
     ¤(a00 (O50 (n:=tA ps n) (l:=G1)) ?_ :)
     ¤ib (b:=!decide (tA ps n∈G1)) (λh2=>?_) λh2=>fin _ G1 _ _ _ _ (no λh=>by rw[decide_eq_false h.2] at h2;cases h2) rfl
     ¤(a00 (add_l (a:=G1.map a40) (b:=[a40 (tA ps n)]) (by rw[É];show G1.length + 1<=1000;omega)) ?_ :)
     rw[k91]
     §fin _ (G1++[tA ps n]) _ _ _ _ (if_pos ⟨of_decide_eq_true h1,by simpa using h2⟩).symm rfl
  ·rintro ρ z2 ⟨rfl,l,G,o4,o5,o6,o7,e1,hl1,hG,e2,rfl⟩
   cases l with
   |cons n l=>cases e1
   |nil=>§⟨rfl,G,_,_,_,_,hG,by rw[show G=rnd ps lot F from e2];§e,rfl⟩
 ·rintro ρ z1 ⟨rfl,F,o4,o5,o6,o7,hF,e,rfl⟩
  have len:=p90 hF
  have e:F=x90 ps lot m.toNat [p0]:=e
  ¤(a00 (d61 (l:=F) (by omega)) ?_ :)
  rw[← e]
  §sd rfl
÷W60(k:Nat)(g:f30 m ps)(hp:l30 m pl)(hl:∀ n∈lot,n < ps.length)(z:Z):b40 T (k + 4) E90 [.d (B30 m ps),.d (.tup (lot.map a40)),.d (.tup (pl.map a40))] z=some (.ok (.d (.bl (F50 ps m.toNat pl lot))) z):=by
 have hlen:=hp.len g.m6
 ¤W.ok (g60 (ps:=3) (ns:=4) (b:=t10) rfl rfl (by decide) ?_)
 ¤(a00 (W51 hp.ne) ?_ :)
 ¤Wo (d71 k g hl hp.p0 z) ?_
 ¤ip (by rw[É];simp only[most];omega) (i52 (λx=>!decide (G31 x∈x90 ps lot m.toNat [pl.getD 0 0])) (λx=>x) (λy hy=>?_) ?_)
 ·¶⟨p,hp',rfl⟩:=Ö.mp hy
  ¤(a00 (O50 (n:=p) (l:=d51 (x90 ps lot m.toNat [pl.getD 0 0]))) ?_ :)
  ¤⟨?_,rfl,λ_=>⟨rfl,rfl⟩⟩
  rw[show decide (p∈d51 (x90 ps lot m.toNat [pl.getD 0 0]))=decide (G31 (a40 p)∈x90 ps lot m.toNat [pl.getD 0 0]) from by
   rw[Í8,decide_eq_true_eq,decide_eq_true_eq,(I40 _).mem_iff];rfl]
 ·rw[map_id',List.filter_map]
  ¤(a00 (j62 (O00 _)) ?_ :)
  ¤sb ?_
  rw[Í8,← G21 g hp hl,List.isEmpty_map,Ì8,Ç2]
  constructor
  ·intro h p hpp
   have h1:¬ (!decide (p∈x90 ps lot m.toNat [pl.getD 0 0]))=true:=h p hpp
   simpa using h1
  ·intro h p hpp
   show ¬ (!decide (p∈x90 ps lot m.toNat [pl.getD 0 0]))=true
   simpa using h p hpp
÷W70(k:Nat)(h8:ts.length<=8)(z:Z):b40 T (k + 3) F00 [.d (.tup [.int m,.tup ts])] z=some (.ok (.fr ((t50 ts.length).map n20)) z):=j41 rfl k h8 z
end
÷W80:∀ {a b:List D},e00 (a++b)=(e00 a&&e00 b)
 |[],b=>rfl
 |x::a,b=>by
  show(n00 x&&e00 (a++b))=((n00 x&&e00 a)&&e00 b)
  rw[W80,Bool.and_assoc]
÷W90:∀ {a b:List D},f40 (a++b)=Ð9 (f40 a) (f40 b)
 |[],b=>(Nat.zero_max _).symm
 |x::a,b=>by
  show Ð9 (deep x) (f40 (a++b))=Ð9 (Ð9 (deep x) (f40 a)) (f40 b)
  rw[W90]
  §(Nat.max_assoc _ _ _).symm
÷l01{a b:List D}(ha:G10 a=true)(hb:G10 b=true):G10 (a++b)=true:=by
 unfold G10 at ha hb ⊢
 rw[Á,decide_eq_true_eq] at ha hb ⊢
 rw[W80,W90,ha.1,hb.1]
 §⟨rfl,ß5.mpr ⟨ha.2,hb.2⟩⟩
÷N42{l:List D}(h:G10 l=true):okD (.tup l)=true:=by
 unfold G10 at h
 unfold okD
 rw[Á,decide_eq_true_eq] at h ⊢
 §⟨h.1,by show f40 l + 1<=40;omega⟩
÷R61{x:D}(h:n00 x=true)(h2:deep x<=39):G10 [x]=true:=by
 unfold G10
 rw[Á,decide_eq_true_eq]
 ¤⟨by show(n00 x&&true)=true;rw[h];rfl,?_⟩
 show Ð9 (deep x) 0<=39
 §ß5.mpr ⟨h2,by omega⟩
÷O60(k:Nat)(x:D)(z:Z):b40 T (k + 3) y80 [.d x] z=some (.ok (.d (.bl (p50 x))) z):=by
 ¤W.ok (g60 (ps:=1) (ns:=1) (b:=p40) rfl rfl (by decide) ?_)
 cases x with
 |_=>§sd rfl
÷G41(h:p50 x=true):∃ i,x=.int i:=by
 cases x with
 |int i=>§⟨i,rfl⟩
 |_=>cases h
÷F80(c:D->Bool):∀ {l:List D},G10 l=true->G10 (l.filter c)=true:=λ{l} h=>by
 unfold G10 at h ⊢
 rw[Á,decide_eq_true_eq] at h ⊢
 induction l with
 |nil=>§h
 |cons x r ih =>
  have h1:(n00 x&&e00 r)=true:=h.1
  have h2:Ð9 (deep x) (f40 r)<=39:=h.2
  rw[Á] at h1
  rw[ß5] at h2
  have ih:=ih ⟨h1.2,h2.2⟩
  rw[Ñ8]
  split
  ·¤⟨?_,?_⟩
   ·show(n00 x&&e00 (r.filter c))=true
    rw[h1.1,ih.1];rfl
   ·show Ð9 (deep x) (f40 (r.filter c))<=39
    §ß5.mpr ⟨h2.1,ih.2⟩
  ·§ih
÷B02(h:G10 l=true):okD (.lst l)=true:=N42 h
def R71:D->Bool
 |.tup l=>G10 l&&decide (l.length<=1000)
 |_=>true
÷p81(h:R71 x=true):short x=true:=by
 cases x with
 |tup l =>
  unfold R71 at h
  rw[Á] at h
  §h.2
 |_=>rfl
÷x00:∀ {l:List D},(∀ x∈l,p50 x=true)->∃ ns:List Int,l=ns.map D.int
 |[],_=>⟨[],rfl⟩
 |x::r,h=>by
  ¶⟨i,rfl⟩:=G41 (h x Ì)
  ¶⟨ns,rfl⟩:=x00 λy hy=>h y (È _ hy)
  §⟨i::ns,rfl⟩
÷G51:∀ {ns:List Int},(∀ x∈ns,0<=x)->∃ l:List Nat,ns.map D.int=l.map a40
 |[],_=>⟨[],rfl⟩
 |x::r,h=>by
  ¶⟨i,rfl⟩:=Ë3 (h x Ì)
  ¶⟨l,e⟩:=G51 λy hy=>h y (È _ hy)
  §⟨i::l,by rw[Å7,Å7,e];rfl⟩
÷I50:∀ {l:List Nat},(∀ x∈l,x < 8)->D30 (l.map a40)=some l
 |[],_=>rfl
 |x::r,h=>by
  have hx:=h x Ì
  show(if 0<=(x:Int)/\(x:Int) < 8 then(D30 (r.map a40)).map ((x:Int).toNat::·) else none)=_
  rw[if_pos (by omega),I50 λy hy=>h y (È _ hy),Á9];rfl
def dedup(l:List Nat):List Nat:=(î 8).filter λi=>l.contains i
÷R81(h:∀ x∈l,x < 8)(hu:l.Pairwise (· < ·)):dedup l=l:=by
 have h2:(dedup l).Pairwise (· < ·):=Ë2 _ È8
 ¤É0 (le:=λa b=>a < b) (λa b _ _ h1 h2=>by omega) h2 hu ?_
 ¤(Þ6 (h2.imp λh=>by omega) (hu.imp λh=>by omega)).mpr λx=>?_
 unfold dedup
 rw[mem_filter,Ó2]
 constructor
 ·§λhx=>by simpa using hx.2
 ·§λhx=>⟨h x hx,by simpa using hx⟩
÷X00:∀ {l:List Nat},M51 (l.map a40) (l.map a40)=true
 |[]=>rfl
 |x::r=>by
  show((x:Int) == (x:Int)&&M51 (r.map a40) (r.map a40))=true
  rw[beq_self_eq_true,X00];rfl
÷X11:∀ {l:List Nat},V40 (l.map a40)=true->l.Pairwise (· < ·)
 |[],_=>.nil
 |[_],_=>.cons (λ_ h=>nomatch h) .nil
 |x::y::r,h=>by
  have h:(decide ((x:Int) < y)&&V40 ((y::r).map a40))=true:=h
  rw[Á,decide_eq_true_eq] at h
  have ih:=X11 (l:=y::r) h.2
  ¤.cons (λz hz=>?_) ih
  rcases ú.mp hz with rfl | hz
  ·omega
  ·have:=(Ë0.mp ih).1 z hz
   omega
÷R91(k:Nat)(m6:m<=6)(h:R71 x=true)(z:Z):∃ b,b40 T (k + 4) m20 [.d (.int m),.d x] z=some (.ok (.d (.bl b)) z)/\(b=false->E11 m x=false)/\(b=true->∃ l,x=.tup l):=by
 have no:∀ {x:D},(∀ l,x≠.tup l)->U11 .tuple x=false->∃ b,b40 T (k + 4) m20 [.d (.int m),.d x] z=some (.ok (.d (.bl b)) z)/\(b=false->E11 m x=false)/\(b=true->∃ l,x=.tup l):=λ{x} h1 h2=>by
  ¤⟨false,W.ok (g60 (ps:=2) (ns:=2) (b:=d80) rfl rfl (by decide) ?_),λ_=>?_,λh=>nomatch h⟩
  ·¤it (b:=!U11 .tuple x) (by rw[h2];rfl) ?_
   §sd rfl
  ·cases x with
   |tup l=>§absurd rfl (h1 l)
   |_=>rfl
 cases x with
 |tup l =>
  unfold R71 at h
  rw[Á,decide_eq_true_eq] at h
  by_cases hw:(l.filter λx=>!p50 x)=[]
  ·have hw':∀ x∈l,p50 x=true:=λx hx=>by
    have:=Ç2.mp hw x hx
    simpa using this
   ¶⟨ns,rfl⟩:=x00 hw'
   by_cases hr:((ns.map D.int).filter λx=>!b80 x m)=[]
   ·have hr':∀ x∈ns,0<=x/\x < m:=λx hx=>by
     have:=Ç2.mp hr _ (Ö.mpr ⟨x,hx,rfl⟩)
     unfold b80 at this
     simpa using this
    ¶⟨ps,e⟩:=G51 λx hx=>(hr' x hx).1
    have hlt:∀ p∈ps,p < 8:=λp hp=>by
     have:a40 p∈ns.map D.int:=by rw[e];§Ö.mpr ⟨p,hp,rfl⟩
     ¶⟨i,hi,e2⟩:=Ö.mp this
     have h1:=hr' i hi
     have e3:i=(p:Int):=by injection e2
     omega
    ¤⟨M51 (ps.map a40) ((dedup ps).map a40),W.ok (g60 (ps:=2) (ns:=2) (b:=d80) rfl rfl (by decide) ?_),λhb=>?_,λ_=>⟨_,rfl⟩⟩
    ·¤ip (o20 h.2) (i52 (λx=>!p50 x) (λx=>x) (λx hx=>?_) ?_)
     ·§Wo (O60 k x z) ⟨rfl,rfl,λ_=>⟨rfl,rfl⟩⟩
     ·rw[hw]
      ¤ip (o20 h.2) (i52 (λx=>!b80 x m) (λx=>x) (λx hx=>?_) ?_)
      ·¶⟨i,hi,rfl⟩:=Ö.mp hx
       have h1:=hr' i hi
       ¤it (b:=decide ((0:Int)<=i)) (decide_eq_true h1.1) ?_
       ¤⟨?_,rfl,λ_=>⟨rfl,rfl⟩⟩
       show S.d (.bl (!decide (i < m)))=S.d (.bl (!(decide (0<=i)&&decide (i < m))))
       rw[decide_eq_true h1.1];rfl
      ·rw[hr,e]
       ¤(a00 (o:=Option.bind (Z50 (.tup (ps.map a40))) λl=>(D30 l).map λns=>S.fr (((î 8).filter λi=>ns.contains i).map λ(n:Nat)=>.int n)) (a:=.fr ((dedup ps).map a40)) (by show(D30 (ps.map a40)).map _=_;rw[I50 hlt];rfl) ?_ :)
       ¤(a00 (o:=eqQ (.lst (ps.map a40)) (.lst ((dedup ps).map a40))) (a:=M51 (ps.map a40) ((dedup ps).map a40)) (by unfold eqQ;rw[O00,O00];rfl) ?_ :)
       §sd rfl
    ·cases hp:E11 m (.tup (ns.map D.int)) with
     |false=>rfl
     |true =>
      exfalso
      rw[e] at hp
      unfold E11 at hp
      rw[Á,Á] at hp
      have up:=X11 hp.1.2
      rw[R81 hlt up,X00] at hb
      cases hb
   ·¤⟨false,W.ok (g60 (ps:=2) (ns:=2) (b:=d80) rfl rfl (by decide) ?_),λ_=>?_,λh=>nomatch h⟩
    ·¤ip (o20 h.2) (i52 (λx=>!p50 x) (λx=>x) (λx hx=>?_) ?_)
     ·§Wo (O60 k x z) ⟨rfl,rfl,λ_=>⟨rfl,rfl⟩⟩
     ·rw[hw]
      ¤ip (o20 h.2) (i52 (λx=>!b80 x m) (λx=>x) (λx hx=>?_) ?_)
      ·¶⟨i,hi,rfl⟩:=Ö.mp hx
       ¤ib (b:=decide ((0:Int)<=i)) (λh1=>?_) λh1=>?_
       ·¤⟨?_,rfl,λ_=>⟨rfl,rfl⟩⟩
        show S.d (.bl (!decide (i < m)))=S.d (.bl (!(decide (0<=i)&&decide (i < m))))
        rw[h1];rfl
       ·¤⟨?_,rfl,λ_=>⟨rfl,rfl⟩⟩
        show S.d (.bl (!false))=S.d (.bl (!(decide (0<=i)&&decide (i < m))))
        rw[h1];rfl
      ·rw[map_id']
       ¤(a00 (ne_nil (B02 (F80 _ h.1))) ?_ :)
       ¤it (b:=!((ns.map D.int).filter λx=>!b80 x m).isEmpty) ?_ ?_
       ·cases hh:(ns.map D.int).filter λx=>!b80 x m with
        |nil=>§absurd hh hr
        |cons _ _=>rfl
       ·§sd rfl
    ·show((ns.map D.int).all (λx=>b80 x m)&&V40 (ns.map D.int)&&!(ns.map D.int).isEmpty)=false
     have:(ns.map D.int).all (λx=>b80 x m)=false:=by
      cases ha:(ns.map D.int).all (λx=>b80 x m) with
      |false=>rfl
      |true=>§absurd (Ç2.mpr λx hx=>by rw[Õ.mp ha x hx];decide) hr
     rw[this];rfl
  ·¤⟨false,W.ok (g60 (ps:=2) (ns:=2) (b:=d80) rfl rfl (by decide) ?_),λ_=>?_,λh=>nomatch h⟩
   ·¤ip (o20 h.2) (i52 (λx=>!p50 x) (λx=>x) (λx hx=>?_) ?_)
    ·§Wo (O60 k x z) ⟨rfl,rfl,λ_=>⟨rfl,rfl⟩⟩
    ·rw[map_id']
     ¤(a00 (ne_nil (B02 (F80 _ h.1))) ?_ :)
     ¤it (b:=!(l.filter λx=>!p50 x).isEmpty) ?_ ?_
     ·cases hh:l.filter λx=>!p50 x with
      |nil=>§absurd hh hw
      |cons _ _=>rfl
     ·§sd rfl
   ·show(l.all (λx=>b80 x m)&&V40 l&&!l.isEmpty)=false
    have:l.all (λx=>b80 x m)=false:=by
     cases ha:l.all (λx=>b80 x m) with
     |false=>rfl
     |true=>§absurd (Ç2.mpr λx hx=>by
       ¶⟨i,rfl,_⟩:=j10 (Õ.mp ha x hx)
       §λh=>nomatch h) hw
    rw[this];rfl
 |_=>§no (λl h=>nomatch h) rfl
÷B60(l:List Nat)(lo hi:Option Int):∃ l':List Nat,cutD (l.map a40) lo hi=l'.map a40/\l'.length<=l.length:=by
 unfold cutD
 ¤⟨(l.drop _).take _,by rw[← List.map_drop,← List.map_take],?_⟩
 rw[Æ7,Í6];omega
÷d81{a b:List Nat}(ha:a.length<=10)(hb:b.length<=10)(hx:(n00 x&&decide (deep x<=39))=true):R71 (.tup (a.map a40++[x]++b.map a40))=true:=by
 rw[Á,decide_eq_true_eq] at hx
 show(G10 (a.map a40++[x]++b.map a40)&&decide ((a.map a40++[x]++b.map a40).length<=1000))=true
 rw[l01 (l01 (w00 a) (R61 hx.1 hx.2)) (w00 b)]
 ¤decide_eq_true ?_
 rw[Â0,Q11,É,É];omega
÷O70{a:List Nat}(ha:a.length<=100):R71 (.tup (a.map a40))=true:=by
 show(G10 (a.map a40)&&decide ((a.map a40).length<=1000))=true
 rw[w00 a]
 §decide_eq_true (by rw[É];omega)
÷G61(l:List Nat):(n00 (.tup (l.map a40))&&decide (deep (.tup (l.map a40))<=39))=true:=by
 have e:l.map a40=(l.map λ(n:Nat)=>(n:Int)).map D.int:=by rw[ï];rfl
 ¶⟨h1,h2⟩:=N30 (l.map λ(n:Nat)=>(n:Int))
 show(e00 (l.map a40)&&decide (f40 (l.map a40) + 1<=39))=true
 rw[e,h1,h2];rfl
÷O80(k:Nat){m:Int}(m1:1<=m)(m6:m<=6){pl:List Nat}(hl:pl.length<=6)(hz:ZI z):W (b40 T (k + 4) j80 [.z,.d (.int m),.d (.tup (pl.map a40))]) z (λs z1=>ZI z1/\∃ x,s=.d x/\R71 x=true) NE:=by
 have hll:(pl.map a40).length=pl.length:=É _
 ¤i72 hz (ps:=3) (ns:=6) (b:=f10) rfl rfl (by decide) ?_
 ¤(d60 k (((pl.map a40).length:Int) + 1) hz (by omega) (by omega)).imp λs z1 ⟨hz1,a,e,a1⟩=>?_
 subst e
 ¤(d60 k (m + 1) hz1 (by omega) (by omega)).imp λs z2 ⟨hz2,w,e,w1⟩=>?_
 subst e
 ¤(d60 k 10 hz2 (by decide) (by decide)).imp λs z3 ⟨hz3,v,e,v1⟩=>?_
 subst e
 ¤(D91 (n:=v) (λx=>n00 x&&decide (deep x<=39)) ?_ ?_ ?_ :)
 ·show v < 10
  omega
 ·have hs:(n00 (.str "0")&&decide (deep (.str "0")<=39))=true:=by decide +kernel
  show List.all [D.int w,.int m,.int (-1),.bl true,.non,.str "0",.tup [.int 0],.bl false,.int ((10:Int) ^ (29:Int).toNat),.int 0] (λx=>n00 x&&decide (deep x<=39))=true
  ¤Õ.mpr λy hy=>?_
  simp only[Â7,À0,or_false] at hy
  rcases hy with rfl | rfl | rfl | rfl | rfl | rfl | rfl | rfl | rfl | rfl
  ·rfl
  ·rfl
  ·rfl
  ·rfl
  ·rfl
  ·§hs
  ·rfl
  ·rfl
  ·rfl
  ·rfl
 ·intro x hx
  ¶⟨l1,e1,c1⟩:=B60 pl none (some (a:Int))
  ¶⟨l2,e2,c2⟩:=B60 pl (some (a:Int)) none
  ¶⟨l3,e3,c3⟩:=B60 pl (some ((a:Int) + 1)) none
  ¶⟨l4,e4,c4⟩:=B60 pl (some (-1)) none
  have t1:A60 .add (.tup (cutD (pl.map a40) none (some (a:Int)))) (.tup [x])=some (.d (.tup (l1.map a40++[x]))):=by rw[e1];§p21 (by rw[É];show _ + 1<=_;omega)
  ¤(a00 t1 ?_ :)
  ¤(a00 (show A60 .add (.tup (l1.map a40++[x])) (.tup (cutD (pl.map a40) (some (a:Int)) none))=some (.d (.tup (l1.map a40++[x]++l2.map a40))) from by rw[e2];§p21 (by rw[Q11,É,É];omega)) ?_ :)
  ¤(a00 t1 ?_ :)
  ¤(a00 (show A60 .add (.tup (l1.map a40++[x])) (.tup (cutD (pl.map a40) (some ((a:Int) + 1)) none))=some (.d (.tup (l1.map a40++[x]++l3.map a40))) from by rw[e3];§p21 (by rw[Q11,É,É];omega)) ?_ :)
  ¤(a00 (show A60 .add (.tup (cutD (pl.map a40) none (some (a:Int)))) (.tup (cutD (pl.map a40) (some ((a:Int) + 1)) none))=some (.d (.tup (l1.map a40++l3.map a40))) from by rw[e1,e3];§p21 (by rw[É,É];omega)) ?_ :)
  ¤(a00 (show A60 .add (.tup (pl.map a40)) (.tup (cutD (pl.map a40) (some (-1)) none))=some (.d (.tup (pl.map a40++l4.map a40))) from by rw[e4];§p21 (by rw[É,É];omega)) ?_ :)
  ¤(d60 k 11 hz3 (by decide) (by decide)).imp λs z4 ⟨hz4,u,e,u1⟩=>?_
  subst e
  ¤(D91 (L:=[.tup (l1.map a40++[x]++l2.map a40),.tup (l1.map a40++[x]++l3.map a40),.tup (l1.map a40++l3.map a40),.lst (pl.map a40),.tup (pl.map a40).reverse,.tup (pl.map a40++l4.map a40),.non,.dct,.int 0,.tup [.tup (pl.map a40)],.tup []]) (n:=u) R71 ?_ ?_ ?_ :)
  ·show u < 11
   omega
  ·rw[← Æ3,← Æ3,← List.map_reverse]
   simp only[Ä5,all_nil,Ö9,Á]
   ¤⟨d81 (by omega) (by omega) hx,d81 (by omega) (by omega) hx,O70 (by rw[Â0];omega),rfl,O70 (by rw[Ì3];omega),O70 (by rw[Â0];omega),rfl,rfl,rfl,d81 (a:=[]) (b:=[]) (by decide) (by decide) (G61 pl),rfl⟩
  ·§λy hy=>⟨hz4,y,rfl,hy⟩
÷X10(k:Nat)(hz:ZI z):W (b40 T (k + 4) j90 [.z,.d (.tup [])]) z (λs z1=>ZI z1/\∃ x,s=.d x/\chD x=false) NE:=by
 ¤i72 hz (ps:=2) (ns:=5) (b:=f20) rfl rfl (by decide) ?_
 ¤(d60 k 1 hz (by decide) (by decide)).imp λs z1 ⟨hz1,a,e,a1⟩=>?_
 subst e
 have a0:a=0:=by omega
 subst a0
 ¤(d60 k 13 hz1 (by decide) (by decide)).imp λs z2 ⟨hz2,v,e,v1⟩=>?_
 subst e
 ¤(D91 (n:=v) (λ_=>true) ?_ ?_ ?_ :)
 ·show v < 13
  omega
 ·rfl
 ·intro x hx
  ¤(d60 k 5 hz2 (by decide) (by decide)).imp λs z3 ⟨hz3,u,e,u1⟩=>?_
  subst e
  ¤(D91 (L:=[.tup [x],.tup [.tup [.int 1,.int 2]],.lst [],.non,.dct]) (n:=u) (λx=>!chD x) ?_ ?_ ?_ :)
  ·show u < 5
   omega
  ·rfl
  ·§λy hy=>⟨hz3,y,rfl,by simpa using hy⟩
def t70(i j:Nat):Int:=if j=i then 1 else 0
def y00:Nat->(Nat->Int)->Nat->Int
 |0,f=>f
 |s + 1,f=>lag (y00 s f)
÷k32{F:Nat->Nat->Int}{n:Nat}(j:Nat):lag (λj=>p80 (λi=>F i j) n) j=p80 (λi=>lag (F i) j) n:=by
 unfold lag
 by_cases h:j=0
 ·rw[if_pos h,sub_zero]
  §i20 λi _=>by rw[if_pos h,sub_zero]
 ·rw[if_neg h,Int.sub_eq_add_neg,show -p80 (λi=>F i (j - 1)) n=p80 (λi=>-1 * F i (j - 1)) n from by rw[j71];omega,← O30]
  §i20 λi _=>by rw[if_neg h];omega
÷l11(c:Nat->Int):∀ n j,w30 c n j=p80 (λi=>c i * y00 (n - 1 - i) (t70 i) j) n
 |0,_=>rfl
 |n + 1,j=>by
  show lag (w30 c n) j + (if j=n then c n else 0)=p80 (λi=>c i * y00 (n - i) (t70 i) j) n + c n * y00 (n - n) (t70 n) j
  rw[sub_self,show w30 c n=λj=>p80 (λi=>c i * y00 (n - 1 - i) (t70 i) j) n from funext (l11 c n),k32]
  congr 1
  ·¤i20 λi hi=>?_
   rw[show n - i=(n - 1 - i) + 1 by omega]
   show c i * _ - (if j=0 then 0 else c i * _)=c i * (_ - if j=0 then 0 else _)
   by_cases h:j=0
   ·rw[if_pos h,if_pos h,sub_zero,sub_zero]
   ·rw[if_neg h,if_neg h,Int.mul_sub]
  ·show _=c n * (if j=n then 1 else 0)
   by_cases h:j=n
   ·rw[if_pos h,if_pos h,mul_one]
   ·rw[if_neg h,if_neg h,Ô2]
÷S01{K:Nat}{ls:List (List Nat)}(hl:∀ l∈ls,l.length < K + 1)(j:Nat):w30 (cnt ls) (K + 1) j=A22 ls λl=>y00 (K - l.length) (t70 l.length) j:=by
 rw[l11]
 §E81 (λi=>y00 (K - i) (t70 i) j) hl
÷X21{a b:Nat}{f g:Nat->Int}:fl a f++fl b g=fl (a + b) λj=>if j < a then f j else g (j - a):=by
 unfold fl
 rw[List.range_add,Æ3,ï]
 congr 1
 ·§Ã5 λi hi=>by
   show D.int (f i)=.int (if i < a then f i else g (i - a))
   rw[if_pos (Â5.mp hi)]
 ·§Ã5 λi hi=>by
   show D.int (g i)=.int (if a + i < a then f (a + i) else g (a + i - a))
   rw[if_neg (by omega),show a + i - a=i by omega]
÷k42{K l:Nat}(h:l<=K):fl l (λ_=>0)++[.int 1]++fl (K - l) (λ_=>0)=fl (K + 1) (t70 l):=by
 rw[show [D.int 1]=fl 1 (λ_=>1) from rfl,X21,X21,show l + 1 + (K - l)=K + 1 by omega]
 ¤k01 λi hi=>?_
 unfold t70
 by_cases h1:i < l
 ·rw[if_pos (by omega),if_pos h1,if_neg (by omega)]
 ·by_cases h2:i=l
  ·rw[if_pos (by omega),if_neg h1,if_pos h2]
  ·rw[if_neg (by omega),if_neg h2]
÷X31{n:Nat}{o:D->D}{f:Nat->Int}(h:∀ i < n,o (a40 i)=.int (f i)):(List.map a40 (Á5 0 n)).map o=fl n f:=by
 unfold fl
 rw[← Ç7,ï]
 §Ã5 λi hi=>h i (Â5.mp hi)
÷k52{n i:Nat}{f:Nat->Int}(h:i < n):Z60 (.lst (.int 0::fl n f)) (a40 i)=some (.int (if i=0 then 0 else f (i - 1))):=by
 ¤c31 ?_
 cases i with
 |zero=>rfl
 |succ i=>rw[List.getElem?_cons_succ,j72 (by omega)];rfl
÷G71{n:Nat}{f:Nat->Int}(h:n < 100000):itD .rng1 [.int ((fl n f).length:Nat)]=some ((Á5 0 n).map a40):=by rw[l40];§O10 h
section
variable {m:Int}{ps:List (Int × Int)}{pl:List Nat}{c:Int × Int}
abbrev lpE(m:Int)(ps:List (Int × Int))(pl:List Nat)(o2 o3 o4 o5:Option S):Env:=[some (.d (B30 m ps)),some (.d (.tup (pl.map a40))),o2,o3,o4,o5]
÷k62(k:Nat)(g:f30 m ps){l:List Nat}(hl:l.length<=ps.length){f:Nat->Int}{z:Z}{tp:Bool}{o4 o5:Option S}{Q:O->Z->Prop}{E:Nat->Z->Prop}
  (q:∀ o4 o5:Option S,Q (.nx (lpE m ps pl (some (.fr (fl (ps.length + 1) λj=>f j + y00 (ps.length - l.length) (t70 l.length) j))) (some (.d (n20 l))) o4 o5)) z) :
  WS (H10 T k) tp (match h70 with | .seq _ (.seq (.fr _ _ _ (.seq (.iff _ t _) _)) _)=>t | _=>.nil) (lpE m ps pl (some (.fr (fl (ps.length + 1) f))) (some (.d (n20 l))) o4 o5) z Q E:=by
 have h8:=g.len
 ¤(M70 (.fr (fl (ps.length + 1) (t70 l.length))) (lpE m ps pl (some (.fr (fl (ps.length + 1) f))) (some (.d (n20 l))) (some (.fr (fl (ps.length + 1) (t70 l.length)))) o5) ?_ ?_ ?_ :)
 ·¤(a00 (W00 (i:=((l.map a40).length:Int)) (n:=l.length) (by rw[É]) (by omega)) ?_ :)
  ¤(a00 (add_l (a:=fl l.length λ_=>0) (b:=[.int 1]) (by rw[l40];show _ + 1<=1000;omega)) ?_ :)
  ¤(a00 (W00 (i:=((ps.map pr).length:Int) - ((l.map a40).length:Int)) (n:=ps.length - l.length) (by rw[É,É];omega) (by omega)) ?_ :)
  ¤(a00 (add_l (a:=fl l.length (λ_=>0)++[.int 1]) (b:=fl (ps.length - l.length) λ_=>0) (by rw[Q11,l40,l40];omega)) ?_ :)
  rw[k42 hl]
  §⟨rfl,rfl⟩
 ·rw[E50 (show A00 (.fr (fl (ps.length + 1) (t70 l.length)))=true from g50 _ _)];rfl
 ¤(a00 (o:=itD .rng1 [.int (((ps.map pr).length:Int) - ((l.map a40).length:Int))]) (a:=(Á5 0 (ps.length - l.length)).map a40) (by rw[show((ps.map pr).length:Int) - ((l.map a40).length:Int)=((ps.length - l.length:Nat):Int) by rw[É,É];omega];§O10 (by omega)) ?_ :)
 ¤r50 (λxs ρ z1=>z1=z/\∃ (j r:Nat) (o5:Option S),j + r=ps.length - l.length/\xs=(Á5 j r).map a40/\ρ=lpE m ps pl (some (.fr (fl (ps.length + 1) f))) (some (.d (n20 l))) (some (.fr (fl (ps.length + 1) (y00 j (t70 l.length))))) o5) _ ⟨rfl,0,ps.length - l.length,_,É5 _,rfl,rfl⟩ ?_ ?_
 ·rintro x r ρ z1 ⟨rfl,j,r',o5,hj,e,rfl⟩
  cases r' with
  |zero=>cases e
  |succ r' =>
   rw[û] at e
   cases e
   ¤(M70 (.fr (fl (ps.length + 1) (y00 (j + 1) (t70 l.length)))) (lpE m ps pl (some (.fr (fl (ps.length + 1) f))) (some (.d (n20 l))) (some (.fr (fl (ps.length + 1) (y00 (j + 1) (t70 l.length))))) (some (.d (a40 j)))) ?_ ?_ ?_ :)
   ·¤(a00 (G71 (n:=ps.length + 1) (f:=y00 j (t70 l.length)) (by omega)) ?_ :)
    ¤ip (by rw[É,List.length_range'];§o20 (by omega)) (q21 (λx=>.int (y00 (j + 1) (t70 l.length) (G31 x))) (λx hx=>?_) ?_)
    ·¶⟨i,hi,rfl⟩:=Ö.mp hx
     rw[← Ç7,Ó2] at hi
     ¤(a00 (j91 (n:=ps.length + 1) (f:=y00 j (t70 l.length)) hi) ?_ :)
     ¤(a00 (add_l (a:=[.int 0]) (b:=fl (ps.length + 1) (y00 j (t70 l.length))) (by rw[l40];show 1 + _<=1000;omega)) ?_ :)
     ¤(a00 (k52 (n:=ps.length + 1) (f:=y00 j (t70 l.length)) hi) ?_ :)
     §⟨rfl,rfl⟩
    ·rw[X31 (f:=y00 (j + 1) (t70 l.length)) λi _=>rfl]
     §⟨rfl,rfl⟩
   ·rw[E50 (show A00 (.fr (fl (ps.length + 1) (y00 (j + 1) (t70 l.length))))=true from g50 _ _)];rfl
   ·§⟨rfl,j + 1,r',_,by omega,rfl,rfl⟩
 ·rintro ρ z1 ⟨rfl,j,r',o5,hj,e,rfl⟩
  cases r' with
  |succ r'=>rw[û] at e;cases e
  |zero =>
   have hj:j=ps.length - l.length:=hj
   subst hj
   ¤(M70 (.fr (fl (ps.length + 1) λj=>f j + y00 (ps.length - l.length) (t70 l.length) j)) (lpE m ps pl (some (.fr (fl (ps.length + 1) λj=>f j + y00 (ps.length - l.length) (t70 l.length) j))) (some (.d (n20 l))) (some (.fr (fl (ps.length + 1) (y00 (ps.length - l.length) (t70 l.length))))) o5) ?_ ?_ ?_ :)
   ·¤(a00 (G71 (n:=ps.length + 1) (f:=f) (by omega)) ?_ :)
    ¤ip (by rw[É,List.length_range'];§o20 (by omega)) (q21 (λx=>.int (f (G31 x) + y00 (ps.length - l.length) (t70 l.length) (G31 x))) (λx hx=>?_) ?_)
    ·¶⟨i,hi,rfl⟩:=Ö.mp hx
     rw[← Ç7,Ó2] at hi
     ¤(a00 (j91 (n:=ps.length + 1) (f:=f) hi) ?_ :)
     ¤(a00 (j91 (n:=ps.length + 1) (f:=y00 (ps.length - l.length) (t70 l.length)) hi) ?_ :)
     §⟨rfl,rfl⟩
    ·rw[X31 (f:=λj=>f j + y00 (ps.length - l.length) (t70 l.length) j) λi _=>rfl]
     §⟨rfl,rfl⟩
   ·rw[E50 (show A00 (.fr (fl (ps.length + 1) λj=>f j + y00 (ps.length - l.length) (t70 l.length) j))=true from g50 _ _)];rfl
   ·§q _ _
÷O90(k:Nat)(g:f30 m ps)(hp:l30 m pl)(z:Z):b40 T (k + 5) v60 [.d (B30 m ps),.d (.tup (pl.map a40))] z=some (.ok (.fr (fl (ps.length + 1) (z40 m ps pl))) z):=by
 have h8:=g.len
 ¤W.ok (g60 (ps:=2) (ns:=6) (b:=h70) rfl rfl (by decide) ?_)
 ¤(a00 (W00 (i:=((ps.map pr).length:Int) + 1) (n:=ps.length + 1) (by rw[É];rfl) (by omega)) ?_ :)
 ¤Wo (W70 (k + 1) (m:=m) (ts:=ps.map pr) (by rw[É];§h8) z) ?_
 rw[É]
 ¤r50 (λxs ρ z2=>z2=z/\∃ (rest:List (List Nat)) (f:Nat->Int) (o3 o4 o5:Option S),xs=rest.map n20/\(∀ l∈rest,l∈t50 ps.length)/\(∀ j,f j + A22 (rest.filter (F50 ps m.toNat pl)) (λl=>y00 (ps.length - l.length) (t70 l.length) j)=z40 m ps pl j)/\ρ=lpE m ps pl (some (.fr (fl (ps.length + 1) f))) o3 o4 o5) _ ⟨rfl,t50 ps.length,λ_=>0,_,_,_,rfl,λ_ h=>h,λj=>?_,(itE (l:=[.fr ((t50 ps.length).map n20)]) (by show(o00 ((t50 ps.length).map n20)&&true)=true;rw[x80];rfl)).trans rfl⟩ ?_ ?_
 ·rw[Ô1]
  §(S01 (λl h=>Ú7 (r10 (k31 g h))) j).symm
 ·rintro x r ρ z2 ⟨rfl,rest,f,o3,o4,o5,e,hr,hf,rfl⟩
  cases rest with
  |nil=>cases e
  |cons l rest =>
   cases e
   have hl:=hr l Ì
   ¤Wo (W60 k g hp (E61 h8 hl) z2) ?_
   ¤ib (b:=F50 ps m.toNat pl l) (λhg=>?_) λhg=>?_
   ·¤(k62 (k + 4) g (l:=l) (f:=f) (r10 ((w10 h8).mem_iff.mp hl)) λo4 o5=>?_ :)
    ¤⟨rfl,rest,_,_,_,_,rfl,λl' h'=>hr l' (È _ h'),λj=>?_,rfl⟩
    have:=hf j
    rw[Ñ8,if_pos hg] at this
    rw[← this]
    show _=f j + (y00 (ps.length - l.length) (t70 l.length) j + A22 _ _)
    omega
   ·¤⟨rfl,rest,f,_,_,_,rfl,λl' h'=>hr l' (È _ h'),λj=>?_,rfl⟩
    have:=hf j
    rw[Ñ8,if_neg (by rw[hg];decide)] at this
    §this
 ·rintro ρ z2 ⟨rfl,rest,f,o3,o4,o5,e,hr,hf,rfl⟩
  cases rest with
  |cons l rest=>cases e
  |nil =>
   ¤sd ?_
   rw[show f=z40 m ps pl from funext λj=>by rw[← hf j];§(add_zero _).symm]
def prt(c:Int × Int)(v:Int)(a:Nat):Nat->Int
 |0=>v
 |j + 1=>prt c v a j * (if j < a then c.1 else c.2)
÷B12{c:Int × Int}{v:Int}{a:Nat}:∀ j,prt c v a j=v * (c.1 ^ (min j a) * c.2 ^ (j - min j a))
 |0=>by show v=_;rw[Nat.zero_min,Ó1,Nat.sub_zero,Ó1,mul_one,mul_one]
 |j + 1=>by
  show prt c v a j * _=_
  rw[B12 j]
  by_cases h:j < a
  ·rw[if_pos h,Ñ3 (by omega),Ñ3 (by omega),sub_self,sub_self,Ó1,Ç6]
   generalize c.1 ^ j=X
   grind
  ·rw[if_neg h,Ì1 (by omega),Ì1 (by omega),show j + 1 - a=(j - a) + 1 by omega,Ç6]
   generalize c.1 ^ a=X
   generalize c.2 ^ (j - a)=Y
   grind
÷X41{c:Int × Int}(hc:IsC c){v:Int}(hv:v.natAbs<=2 ^ 17){a:Nat}:∀ j,(prt c v a j).natAbs<=2 ^ (17 + 10 * j)
 |0=>hv
 |j + 1=>by
  have h:(if j < a then c.1 else c.2).natAbs<=2 ^ 10:=by
   split
   ·§hc.s.t
   ·§hc.s.b
  have:=p70 (X41 hc hv (a:=a) j) h
  rw[show 17 + 10 * (j + 1)=17 + 10 * j + 10 by omega]
  §this
abbrev laE(n:Nat)(f:Nat->Int)(c:Int × Int)(v4:Int)(o5 o6 o7 o8:Option S):Env:=[some (.d (.lst (fl n f))),some (.d (pr c)),some (.d (.int c.1)),some (.d (.int c.2)),some (.d (.int v4)),o5,o6,o7,o8]
÷X51{n:Nat}{f:Nat->Int}(h:n < 1000):itD .rng1 [.int (((fl (n + 1) f).length:Nat) - 1)]=some ((Á5 0 n).map a40):=by
 rw[l40,show(((n + 1:Nat):Int) - 1)=(n:Nat) by omega];§O10 (by omega)
÷G81(k:Nat){K:Nat}(hK:K<=8){f:Nat->Int}(hf:∀ j,(f j).natAbs<=2 ^ 17)(hc:IsC c)(z:Z):b40 T (k + 4) U40 [.d (.lst (fl (K + 1) f)),.d (pr c)] z=some (.ok (.d (pr (n40 (evN c.1 c.2 K f (K + 1)) (c.2 ^ K)))) z):=by
 ¤W.ok (g60 (ps:=2) (ns:=9) (b:=F20) rfl rfl (by decide) ?_)
 ¤(a00 (G71 (n:=K + 1) (f:=f) (by omega)) ?_ :)
 ¤r50 (λxs ρ z1=>z1=z/\∃ (j r:Nat) (o5 o6 o7:Option S),j + r=K + 1/\xs=(Á5 j r).map a40/\ρ=laE (K + 1) f c (evN c.1 c.2 K f j) o5 o6 o7 none) _ ⟨rfl,0,K + 1,none,none,none,É5 _,rfl,rfl⟩ ?_ ?_
 ·rintro x r ρ z1 ⟨rfl,a,r',o5,o6,o7,ha,e,rfl⟩
  cases r' with
  |zero=>cases e
  |succ r' =>
   rw[û] at e
   cases e
   ¤(a00 (j91 (n:=K + 1) (f:=f) (i:=a) (by omega)) ?_ :)
   ¤(a00 (X51 (n:=K) (f:=f) (by omega)) ?_ :)
   ¤r50 (λxs ρ z2=>z2=z1/\∃ (j r:Nat) (o7:Option S),j + r=K/\xs=(Á5 j r).map a40/\ρ=laE (K + 1) f c (evN c.1 c.2 K f a) (some (.d (a40 a))) (some (.d (.int (prt c (f a) a j)))) o7 none) _ ⟨rfl,0,K,_,É5 _,rfl,rfl⟩ ?_ ?_
   ·rintro x r ρ z2 ⟨rfl,j,r2,o7,hj,e,rfl⟩
    cases r2 with
    |zero=>cases e
    |succ r2 =>
     rw[û] at e
     cases e
     have pb:=Ñ (X41 hc (hf a) (a:=a) j) (À4 (by decide) (show 17 + 10 * j<=110 by omega))
     ¤ib (b:=decide ((j:Int) < a)) (λh=>?_) λh=>?_
     ·¤(a00 (V90 (n:=110) (i:=prt c (f a) a j) (j:=c.1) (by decide) pb (Ñ hc.s.t (by decide))) ?_ :)
      ¤⟨rfl,j + 1,r2,some (.d (a40 j)),by omega,rfl,?_⟩
      have h:=of_decide_eq_true h
      rw[show prt c (f a) a (j + 1)=prt c (f a) a j * c.1 from by show _ * (if j < a then c.1 else c.2)=_;rw[if_pos (by omega)]];rfl
     ·¤(a00 (V90 (n:=110) (i:=prt c (f a) a j) (j:=c.2) (by decide) pb (Ñ hc.s.b (by decide))) ?_ :)
      ¤⟨rfl,j + 1,r2,some (.d (a40 j)),by omega,rfl,?_⟩
      have h:=of_decide_eq_false h
      rw[show prt c (f a) a (j + 1)=prt c (f a) a j * c.2 from by show _ * (if j < a then c.1 else c.2)=_;rw[if_neg (by omega)]];rfl
   ·rintro ρ z2 ⟨rfl,j,r2,o7,hj,e,rfl⟩
    cases r2 with
    |succ r2=>rw[û] at e;cases e
    |zero =>
     have hj:j=K:=hj
     subst hj
     ¤⟨rfl,a + 1,r',some (.d (a40 a)),some (.d (.int (prt c (f a) a j))),L30 true o7,by omega,rfl,?_⟩
     rw[show evN c.1 c.2 j f (a + 1)=evN c.1 c.2 j f a + prt c (f a) a j from by rw[B12,Ì1 (by omega)];rfl];rfl
 ·rintro ρ z1 ⟨rfl,a,r',o5,o6,o7,ha,e,rfl⟩
  cases r' with
  |succ r'=>rw[û] at e;cases e
  |zero =>
   have ha:a=K + 1:=ha
   subst ha
   ¤(a00 (X51 (n:=K) (f:=f) (by omega)) ?_ :)
   ¤r50 (λxs ρ z2=>z2=z1/\∃ (j r:Nat) (o5 o6 o7:Option S),j + r=K/\xs=(Á5 j r).map a40/\ρ=laE (K + 1) f c (evN c.1 c.2 K f (K + 1)) o5 o6 o7 (some (.d (.int (c.2 ^ j))))) _ ⟨rfl,0,K,_,_,_,É5 _,rfl,by rw[Ó1];rfl⟩ ?_ ?_
   ·rintro x r ρ z2 ⟨rfl,j,r2,o5,o6,o7,hj,e,rfl⟩
    cases r2 with
    |zero=>cases e
    |succ r2 =>
     rw[û] at e
     cases e
     ¤(a00 (V90 (n:=90) (by decide) (Ñ (t60 hc j).1 (À4 (by decide) (by omega))) (Ñ hc.s.b (by decide))) ?_ :)
     §⟨rfl,j + 1,r2,_,_,_,by omega,rfl,by rw[Ç6];rfl⟩
   ·rintro ρ z2 ⟨rfl,j,r2,o5,o6,o7,hj,e,rfl⟩
    cases r2 with
    |succ r2=>rw[û] at e;cases e
    |zero =>
     have hj:j=K:=hj
     subst hj
     have hb:=t60 hc j
     §Wo (v90 k _ _ z2 hb.2 (c91 (n:=90) (by decide) (Ñ hb.1 (À4 (by decide) (by omega))))) (sd rfl)
÷Y82:IsC (1,2):=⟨by decide,by decide,by decide,by decide,by decide⟩
abbrev lE(ns:List Int)(j:Nat)(m:Int)(ps:List (Int × Int))(pl:List Nat)(o5 o6 o7 o8 o9 o10 o11:Option S):Env:=[some (.d (.lst (ns.map D.int))),some (.d (.int j)),some .z,some (.d (B30 m ps)),some (.d (.tup (pl.map a40))),o5,o6,o7,o8,o9,o10,o11]
abbrev bIn(n:Nat):Sm:=match P81 with
 |.seq (.fr _ _ _ b) _=>Nat.rec b (λ_ r=>tl r) n
 |_=>.nil
÷S11(k:Nat){ns:List Int}{j:Nat}{z:Z}(g:f30 m ps)(hp:l30 m pl){o6 o7 o8 o9 o10 o11:Option S}{Q:O->Z->Prop}{E:Nat->Z->Prop}
  (q:∀ (o6 o7 o8 o9 o10 o11:Option S),WS (H10 T (k + 37 + 2)) true (bIn 5) (lE ns j m ps pl (some (.fr (fl (ps.length + 1) (z40 m ps pl)))) o6 o7 o8 o9 o10 o11) z Q E) :
  WS (H10 T (k + 37 + 2)) true (bIn 4) (lE ns j m ps pl (some (.fr (fl (ps.length + 1) (z40 m ps pl)))) o6 o7 o8 o9 o10 o11) z Q E:=by
 have h8:=g.len
 ¤r50 (λxs ρ z2=>z2=z/\∃ (o6 o7 o8 o9 o10 o11:Option S),ρ=lE ns j m ps pl (some (.fr (fl (ps.length + 1) (z40 m ps pl)))) o6 o7 o8 o9 o10 o11) _ ⟨rfl,_,_,_,_,_,_,rfl⟩ ?_ ?_
 ·rintro x r ρ z2 ⟨rfl,o6,o7,o8,o9,o10,o11,rfl⟩
  ¤(M70 (.fr (fl (ps.length + 1) (z40 m ps pl))) (lE ns j m ps pl (some (.fr (fl (ps.length + 1) (z40 m ps pl)))) (some (.d x)) (some (.fr (fl (ps.length + 1) (z40 m ps pl)))) o8 o9 o10 o11) ?_ ?_ ?_ :)
  ·§Wo (W10 (k + 28) g hp z2) ⟨rfl,rfl⟩
  ·rw[E50 (show A00 (.fr (fl (ps.length + 1) (z40 m ps pl)))=true from g50 _ _)];rfl
  ·¤Wo (k22 (k + 35) (ps.length + 1) (by omega) (z40 m ps pl) z2) ?_
   ¤ip ⟨rfl,by rw[l40];§Ç5 (show _<=9 by omega) (by decide)⟩ ?_
   §⟨rfl,_,_,_,_,_,_,rfl⟩
 ·rintro ρ z2 ⟨rfl,o6,o7,o8,o9,o10,o11,rfl⟩
  §q _ _ _ _ _ _
÷S21(k:Nat){ns:List Int}{j:Nat}{z:Z}(g:f30 m ps)(hp:l30 m pl)(hz:ZI z){o6 o7 o8 o9 o10 o11:Option S}{Q:O->Z->Prop}{E:Nat->Z->Prop}
  (q:∀ (z:Z) (o5 o6 o7 o8 o9 o10 o11:Option S),ZI z->WS (H10 T (k + 37 + 2)) true (bIn 6) (lE ns j m ps pl o5 o6 o7 o8 o9 o10 o11) z Q E) :
  WS (H10 T (k + 37 + 2)) true (bIn 5) (lE ns j m ps pl (some (.fr (fl (ps.length + 1) (z40 m ps pl)))) o6 o7 o8 o9 o10 o11) z Q E:=by
 have h8:=g.len
 ¤(V30 (k + 35) hz).imp λs z1 ⟨hz1,c,e,hc⟩=>?_
 subst e
 ¤r50 (λxs ρ z2=>z2=z1/\(∀ x∈xs,∃ d,x=pr d/\IsC d)/\∃ (o6 o7 o8 o9 o10 o11:Option S),ρ=lE ns j m ps pl (some (.fr (fl (ps.length + 1) (z40 m ps pl)))) o6 o7 o8 o9 o10 o11) _ ⟨rfl,λx hx=>?_,_,_,_,_,_,_,(itE (by rfl)).trans rfl⟩ ?_ ?_
 ·have hx:x∈[pr c,pr (0,1),pr (1,1),pr (1,2)]:=hx
  simp only[Â7,À0,or_false] at hx
  rcases hx with rfl | rfl | rfl | rfl
  ·§⟨c,rfl,hc⟩
  ·§⟨_,rfl,Y72⟩
  ·§⟨_,rfl,Y62⟩
  ·§⟨_,rfl,Y82⟩
 ·rintro x r ρ z2 ⟨rfl,hx,o6,o7,o8,o9,o10,o11,rfl⟩
  ¶⟨d,rfl,hd⟩:=hx x Ì
  ¤Wo (d21 (k + 27) g hp hd z2) (Wo (G81 (k + 35) h8 (F41 g) hd z2) (Wo (F61 1 (k + 35) (pr (Q22 m ps pl d)) z2 k12) ?_))
  §⟨rfl,λx hx'=>hx x (È _ hx'),_,_,_,_,_,_,rfl⟩
 ·rintro ρ z2 ⟨rfl,_,o6,o7,o8,o9,o10,o11,rfl⟩
  §q _ _ _ _ _ _ _ _ hz1
÷S31(k:Nat){ns:List Int}{j:Nat}{z:Z}(g:f30 m ps)(hp:l30 m pl){bw bc x:D}(hw:o41 bw=false)(hc:chD bc=false)(hx:R71 x=true){o5 o6 o7 o8:Option S}{Q:O->Z->Prop}{E:Nat->Z->Prop}
  (q:∀ (z:Z) (o5 o6 o7 o8 o9 o10 o11:Option S),Q (.nx (lE ns j m ps pl o5 o6 o7 o8 o9 o10 o11)) z) :
  WS (H10 T (k + 37 + 2)) true (bIn 8) (lE ns j m ps pl o5 o6 o7 o8 (some (.d bw)) (some (.d x)) (some (.d bc))) z Q E:=by
 have hs:=p81 hx
 ¤We (R21 (k + 26) hw z) ?_
 ¤We (p71 (k + 25) hw z) ?_
 ¤We (p51 (k + 25) g hp hc z) ?_
 ¶⟨b,hb,b0,b1⟩:=R91 (k + 35) g.m6 hx z
 ¤Wo hb ?_
 have bad:E11 m x=false->WS (H10 T (k + 37 + 2)) true (match bIn 11 with | .seq (.iff _ t _) _=>t | _=>.nil) (lE ns j m ps pl o5 o6 o7 o8 (some (.d bw)) (some (.d x)) (some (.d bc))) z Q E:=λhpl=>by
  ¤We (R11 (k + 26) g hpl hs z) ?_
  ¤We (p61 (k + 25) g hpl hs z) ?_
  §q _ _ _ _ _ _ _ _
 cases b with
 |false=>§bad (b0 rfl)
 |true =>
  ¶⟨l,rfl⟩:=b1 rfl
  have eq:A70 .eq (.tup l) (.tup [])=some l.isEmpty:=by
   show eqQ (.tup l) (.tup [])=_
   unfold eqQ
   split
   ·cases l <;> rfl
   ·rfl
  ¤(a00 eq ?_ :)
  ¤ib (b:=l.isEmpty) (λh=>?_) λh=>?_
  ·§bad (by cases l with | nil=>rfl | cons _ _=>cases h)
  ·§q _ _ _ _ _ _ _ _
end
abbrev C62(L:Int):Int:=if (if (4:Int) < L then 4 else L) > 1 then(if (4:Int) < L then 4 else L) else 1
÷B22(k:Nat)(ns:List Int):b40 T (k + 40) z52 [.d (.lst (ns.map D.int))] none=some (.ok (.d (.bl true)) none):=by
 ¤W.ok (g60 (k:=k + 37) (ps:=1) (ns:=12) (b:=P81) rfl rfl (by decide) ?_)
 have hN:0<=C62 ((ns.map D.int).length:Int)/\C62 ((ns.map D.int).length:Int) < 100000:=by
  unfold C62
  split <;> (try split) <;> omega
 ¤(a00 (U80 (m:=C62 ((ns.map D.int).length:Int)) hN.1 hN.2) ?_ :)
 ¤r50 (λxs ρ z=>(∀ x∈xs,∃ j:Nat,x=.int j)/\∃ o1 o2 o3 o4 o5 o6 o7 o8 o9 o10 o11:Option S,ρ=[some (.d (.lst (ns.map D.int))),o1,o2,o3,o4,o5,o6,o7,o8,o9,o10,o11]) _ ⟨λx hx=>?_,_,_,_,_,_,_,_,_,_,_,_,rfl⟩ ?_ ?_
 ·¶⟨i,_,rfl⟩:=Ö.mp hx
  §⟨i,rfl⟩
 ·rintro x r ρ z1 ⟨hx,o1,o2,o3,o4,o5,o6,o7,o8,o9,o10,o11,rfl⟩
  ¶⟨j,rfl⟩:=hx x Ì
  ¶⟨sn,sb,hz1,hst⟩:=P91 (k + 35) ns j z1
  ¤Wo hst ?_
  ¤(d60 (k + 36) 3 hz1 (by decide) (by decide)).imp λs z2 ⟨hz2,v,e,v1⟩=>?_
  subst e
  ¶⟨y,ey,hy⟩:=F40 (L:=[D.int 8,.int 6,.int 7]) (n:=v) (btw 0 8) (by simp only[Þ,Á1];omega) (by decide)
  ¶⟨mo,rfl,mo0,mo8⟩:=D61 hy
  ¤(a00 (c31 ey) ?_ :)
  ¤(D71 (k + 34) hz2 mo0 mo8).imp λs z3 ⟨hz3,m,ps,e,g,_⟩=>?_
  subst e
  ¤(V50 (k + 35) (t:=.tup (ps.map pr)) g.m1 g.m6 hz3).imp λs z5 ⟨hz5,pl,e,hp⟩=>?_
  subst e
  ¤Wo (O90 (k + 34) g hp z5) ?_
  ¤(S11 k g hp λo6 o7 o8 o9 o10 o11=>?_ :)
  ¤(S21 k g hp hz5 λz7 o5 o6 o7 o8 o9 o10 o11 hz7=>?_ :)
  ¤(E01 (k + 35) hz7).imp λs z8 ⟨hz8,bw,e,hbw⟩=>?_
  subst e
  ¤(O80 (k + 35) g.m1 g.m6 (hp.len g.m6) hz8).imp λs z9 ⟨hz9,x,e,hox⟩=>?_
  subst e
  ¤(X10 (k + 35) hz9).imp λs z10 ⟨hz10,bc,e,hbc⟩=>?_
  subst e
  §S31 k g hp hbw hbc hox λ_ _ _ _ _ _ _ _=>⟨λx hx'=>hx x (È _ hx'),_,_,_,_,_,_,_,_,_,_,_,rfl⟩
 ·rintro ρ z1 ⟨_,o1,o2,o3,o4,o5,o6,o7,o8,o9,o10,o11,rfl⟩
  §⟨rfl,rfl⟩
÷pure:∀ ns:List Int,ns.length<=63->b40 (tabOf rows) 40 z52 [.d (.lst (ns.map D.int))] none=some (.ok (.d (.bl true)) none):=λns _=>by
 rw[Y42]
 §B22 0 ns
end K3
namespace K3
open PySem L2 Q
÷ok:rows.all (l42 (G40 rows) nums)=true:=by decide +kernel
÷bd:p10 rows:=⟨λ_ _ _ _ _ _ us hl=>by ¶⟨_,_,rfl⟩:=us2 hl;rfl,
 λ_ _ _ _ _ _ us hl=>by ¶⟨_,_,rfl⟩:=us2 hl;rfl,
 λ_ _ _ _ _ _ us hl=>by ¶⟨_,_,rfl⟩:=us2 hl;rfl,
 λ_ _ _ _ _ _ us hl=>by ¶⟨_,_,rfl⟩:=us2 hl;rfl,
 λ_ _ _ _ _ _ us hl=>by ¶⟨_,rfl⟩:=us1 hl;rfl,
 λ_ _ _ _ _ _ us hl=>by ¶⟨_,_,rfl⟩:=us2 hl;rfl,
 λ_ _ _ _ _ _ us hl=>by ¶⟨_,_,rfl⟩:=us2 hl;rfl,
 λ_ _ _ _ _ _ us hl=>by ¶⟨_,_,rfl⟩:=us2 hl;rfl,
 λ_ _ _ _ _ _ us hl=>by ¶⟨_,rfl⟩:=us1 hl;rfl,
 λ_ _ _ _ _ _ us hl=>by ¶⟨_,rfl⟩:=us1 hl;rfl,
 λ_ _ _ _ _ _ us hl=>by ¶⟨_,_,rfl⟩:=us2 hl;rfl,
 λ_ _ _ _ _ _ us hl=>by ¶⟨_,rfl⟩:=us1 hl;rfl,
 λ_ _ _ _ _ _ us hl=>by ¶⟨_,_,rfl⟩:=us2 hl;rfl,
 λ_ _ _ _ _ _ us hl=>by ¶⟨_,_,rfl⟩:=us2 hl;rfl,
 λ_ _ _ _ _ _ us hl=>by ¶⟨_,_,_,rfl⟩:=us3 hl;rfl,
 λ_ _ _ _ _ _ us hl=>by ¶⟨_,rfl⟩:=us1 hl;rfl,
 λ_ _ _ _ _ _ us hl=>by ¶⟨_,rfl⟩:=us1 hl;rfl,
 λ_ _ _ _ _ _ us hl=>by ¶⟨_,rfl⟩:=us1 hl;rfl,
 λ_ _ _ _ _ _ us hl=>by ¶⟨_,_,rfl⟩:=us2 hl;rfl,
 λ_ _ _ _ _ _ us hl=>by ¶⟨_,_,rfl⟩:=us2 hl;rfl,
 λ_ _ _ _ _ _ us hl=>by ¶⟨_,_,rfl⟩:=us2 hl;rfl,
 λ_ _ _ _ _ _ us hl=>by ¶⟨_,_,_,rfl⟩:=us3 hl;rfl,
 λ_ _ _ _ _ _ us hl=>by ¶⟨_,_,rfl⟩:=us2 hl;rfl,
 λ_ _ _ _ _ _ us hl=>by ¶⟨_,_,rfl⟩:=us2 hl;rfl,
 λ_ _ _ _ _ _ us hl=>by ¶⟨_,_,rfl⟩:=us2 hl;rfl,
 λ_ _ _ _ _ _ us hl=>by ¶⟨_,_,rfl⟩:=us2 hl;rfl,
 λ_ _ _ _ _ _ us hl=>by ¶⟨_,_,rfl⟩:=us2 hl;rfl,
 λ_ _ _ _ _ _ us hl=>by ¶⟨_,_,rfl⟩:=us2 hl;rfl,
 λ_ _ _ _ _ _ us hl=>by ¶⟨_,rfl⟩:=us1 hl;rfl,
 λ_ _ _ _ _ _ us hl=>by ¶⟨_,_,_,rfl⟩:=us3 hl;rfl,
 λ_ _ _ _ _ _ us hl=>by ¶⟨_,_,_,rfl⟩:=us3 hl;rfl,
 λ_ _ _ _ _ _ us hl=>by ¶⟨_,rfl⟩:=us1 hl;rfl,
 λ_ _ _ _ _ _ us hl=>by ¶⟨_,rfl⟩:=us1 hl;rfl,
 λ_ _ _ _ _ _ us hl=>by ¶⟨_,_,rfl⟩:=us2 hl;rfl,
 λ_ _ _ _ _ _ us hl=>by ¶⟨_,_,_,rfl⟩:=us3 hl;rfl,
 λ_ _ _ _ _ _ us hl=>by ¶⟨_,_,rfl⟩:=us2 hl;rfl,
 λ_ _ _ _ _ _ us hl=>by ¶⟨_,rfl⟩:=us1 hl;rfl,
 λ_ _ _ _ _ _ us hl=>by ¶⟨_,_,rfl⟩:=us2 hl;rfl,
 λ_ _ _ _ _ _ us hl=>by ¶⟨_,_,rfl⟩:=us2 hl;rfl,
 λ_ _ _ _ _ _ us hl=>by ¶⟨_,_,rfl⟩:=us2 hl;rfl,
 λ_ _ _ _ _ _ us hl=>by ¶⟨_,rfl⟩:=us1 hl;rfl,trivial⟩
÷hR:y32 rows ["law"] [("_law_refused",top 61)]:=λr hr hlm=>by
 have h:=Õ.mp (show rows.all (λr=>!r.lm || (["law"]:List Str).contains r.nm)=true from by decide +kernel) r hr
 rw[hlm] at h
 §⟨Ì7.mp h,top 61,236,.head _,rfl,rfl,λ_ _ _ _ _ _ us hl=>by ¶⟨_,rfl⟩:=us1 hl;rfl⟩
def asks:n90:=H60 rows nums ["law"] [("_law_refused",top 61)]
def prg:Program:=ò
def vq:Program:=view prg [64]
def loose:List Str:=prg.boundNames.filter λx=>!(x == ("law":Str))
def runL(w:ç)(os:OsState):=(E40 PySem.W.through (PySem.W.stepOk 11 (some (.ref 6))) (PySem.W.stepT (denote treeTable) prg w) 20000 (h62 w os) (PySem.W.topStub prg)).map (λs =>
   (PySem.W.staticsOk (Ï5 prg.main.body) (PySem.W.boot_heap w.params) s.abs.heap&&PySem.W.namesBound prg s.abs.heap&&PySem.W.gensDone s.abs&&PySem.W.laidKept (PySem.W.boot_heap w.params) s.abs.heap,
    PySem.W.openSeen vq loose (Ï5 prg.main.body) (λ_=>true) true s.abs,asks.obs s.abs))
def runR(w:ç):=some (true,PySem.W.openGood vq loose,asks.due w)
def _root_.PySem.W.Fast.tw17877291313540759335:PySem.Program:=ò
÷_root_.PySem.W.Fast.te17877291313540759335:ò=PySem.W.Fast.tw17877291313540759335:=rfl
÷twins:(λ(_:runL=runL/\runR=runR)=>true) ⟨rfl,rfl⟩=true:=by k_qdec
÷run_eq:∀ (w:ç) (os:OsState),PySem.W.Fast.tw14075725262101462980 w os=PySem.W.Fast.tw18139657281711212703 w:=λw os=>by kernel_rfl
÷left:PySem.W.LeftO ò vq loose (λ_=>true) asks.hook.obs asks.hook.val 20000:=h72 (by kernel_rfl) rfl (λ_=>by kernel_rfl) λw os =>
 (congrFun (congrFun PySem.W.Fast.te14075725262101462980 w) os).trans ((run_eq w os).trans (congrFun PySem.W.Fast.te18139657281711212703 w).symm)
end K3
open PySem PySem.W PyProof.Rows
set_option maxRecDepth 100000 in
set_option maxHeartbeats 0 in
theorem PySem.Challenge.cw_tiechances_k81_powers_of_one_chance_holds : PySem.Challenge.rw_tiechances_k81_powers_of_one_chance.Holds := by
 w_on;o_law
 ¤holds_open (q:=K3.vq) (loose:=K3.loose) (Xt:=λ_=>true) (XP:=λ_ _=>True) (Yf:=K3.asks.hook.obs) (Ya:=K3.asks.hook.val) (YP:=K3.asks.hook.says) K3.left K3.asks.hook.of K3.asks.hook.keeps (λ_ _=>trivial) (λ_ _ _ _ _=>trivial) (by rfl) (by rfl) (by rfl) (λs _=>recFacts_of rfl) rfl (by first | assumption | decide +kernel) (by decide +kernel) ⟨rfl,rfl,rfl,rfl,rfl,by decide +kernel⟩ ?hw ?hc
 case hw=>w_witness2
 case hc=>§Q.P71 (l:=PySem.Challenge.rw_tiechances_k81_powers_of_one_chance) (n:=63) (k:=40) (x:="_law_script") rfl (by decide) rfl ⟨rfl,by decide,by decide⟩ (Q.i22 (k:=37) (iL:=40) K3.ok K3.bd rfl rfl rfl (by decide) K3.hR K3.pure)