import PyProof.Rows.All
import Wide.All
import OpenK.AllK
import Wide.FinOn
import Lean
import PyProof.EqAt
import PyProof.EqKinds
import PyProof.TupleCall
import KE.KSortTup
import OpenK.KRaise
import OpenK.KOwn
import PyProof.ExcBaseAll.ValueError
import KE.KIsAll
import PyProof.ExcAttrAll.ValueError
import PyProof.NsDelKeeps
import PyProof.RulesAs
import KE.KTryMore
import KE.KLam
import KE.KNestM
import OpenK.KEqL
import PyProof.Rows.EqDataRows
import PyProof.NeKinds
import PyProof.FactsAll.dict
import PyProof.FactsAll.subtypes
import PyProof.ListRange
import PyProof.TupleOfGen
import PyProof.TupleOfSeq
import KE.KTupSum
import PyProof.Rows.SumAny
import PyProof.Rows.SetFrom
import KE.KRevSl
import PyProof.WalksMore
import PyProof.SetRoads
import PySem.Challenge.RW_tiechances_k81_powers_of_one_chance
local macro_rules
|`(∅)=>`(by omega)
|`(-0)=>`(by decide)
local macro_rules
|`(tactic|omega)=>`(tactic|lia)
open PySem renaming wpAny_bind→À,Value→Ä,wpAny_pure→Å,Shared→Æ,Addr→Ç,wpAny→Î,Expr→Ï,model→Ô,sizeLine→Ú,Program→Ý,mainGlobals→ã,wpAny_newObj_type→å,World→ç,Heap→é,bootBuiltins→ï,Around→ø,compareOp→ü,Scope→ý,starEach→þ,Builtin→ÿ,wpAny_call_entry→À5,wpAny_callSpecial?_slot→À6,wpAny_holding→À8,sizeLine_eq→Á3,wpAny_field→Á6,wpAny_mono→Â1,codeAny_builtin→Â2,mem_of_lookup→Â4,wpAny_truthy_bool→Â6,wpAny_setField_rec→Ã0,rawInt→Ã7,binaryOp→Ä2,swappedStores→Ä6,Stmt→Ä8,FuncData→Å2,cLine→Å8,Paired→Å9,IsPair→Æ4,wpAny_seqItems→Ç4,wpAny_typeOf→Ç9,wpAny_pyIter_tuple→È0,codeAny_mono→È3,call_meets→È4,wpAny_passesOwn→È6,Env→È8,foldedSetIterable→É2,wpAny_rule→Ê0,assignEach→Ê1,wpAny_attempt→Ë3,NameKind→Ë5,wpAny_Call_Name_kw→Ì0,wpAny_askSetting→Í8,builtinsNs→Í9,Arguments→Î3,plainId_quiet→Î4,codeAny→Î5,wpAny_loadName_local→Î7,sliceBounds→Î8,SetTable→Ï1,wpAny_execs_nil→Ï4,importedModules→Ï5,wpAny_Name→Ñ0,pyNext→Ñ1,isSubtype_type→Ñ5,IsZip→Ò0,wpAny_setState_of→Ò9,getItem→Ó2,wpAny_comprehension_free→Ó5,wpAny_execs_cons→Ô7,swapsWith→Ô8,checkBuiltinCall→Õ0,wpAny_call→Õ7,backTo→Õ8,IsRange→Õ9,wpAny_updateSeq_pair→Ø5,wpAny_runValue→Ø6,firstArgMember→Ø9,codeAny_call_builtin→Ù0,assign→Ù1,IsPart→Ù2,intKind→Ù4,holding→Ù5,codeAmong→Ù6,wpAny_setEntries_of→Ú2,wpAny_loadName_cell→Ú3,wpAny_standAt→Û2,wpAny_onRaise→Û3,wpAny_newList→Û4,foldedForSure→Û6,typeIs_int→Û9,intKind_is→Ü0,wpAny_sequenceKey→Ý0,wpAny_pyIter_list→Ý1,callerA→Ý2,Operator→Ý4,GenState→Ý5,wpAny_isInstance→Þ5,pickOrder→Þ6,noFill_tuple_add→Þ7,TriplesOk→Þ9,wpAny_of_eq→ß4,seqIndex_of→ß5,letOwnedTupleGo→à0,codeAny_of_tree→à2,wpAny_newFunctionEnv_cells→à5
open Bool renaming and_eq_true→Á,false_ne_true→Ð,not_eq_true'→À3,false_eq_true→Ã4,true_and→Å0,or_eq_true→Å6,not_eq_false'→Í3,eq_iff_iff→Í7,false_and→Õ6,and_true→Ö8,not_true→ß9
open PySem.W renaming Frag→Â,kas_item→ö,kas_desc→Ã2,kas_place→Ä4,codeHdIn→Ä9,kia_one→Ç1,kas_rev→È1,kas_asc→È2,tabObj→È5,boot_heap→Ê4,excIn→Ì5,kitOne→Î0,kas_descPart→Ð5,kas_sort→Ñ4,nsIn→Ñ8,keepIn→Ó6,kia_tup→Ö4,kas_count→Þ8
open PySem.Heap renaming get?_push_of_some→Ã,get?_push_size→Ê,lt_size→à,get?_update_self→Ç8,size_push→Ë4,get?_update_other→Ë8,SameBut→Ë9,IsTuple→Ó3
open List renaming mem_cons_of_mem→È,length_map→É,mem_cons_self→Ë,size_toArray→Ó,all_eq_true→Õ,mem_map→Ö,getD_eq_getElem?_getD→Ø,getElem?_map→Û,length_cons→Ü,getElem?_eq_some_iff→ß,getElem?_eq_getElem→æ,mem_singleton→è,getElem?_set_ne→ê,replicate→ë,range→ì,mem_of_getElem?→í,map_map→î,mem_append_right→ð,getElem?_set_self→ñ,length_range→ù,mem_cons→ú,range'_succ→û,not_mem_nil→À0,lookup_cons→À9,length_nil→Á1,filterMap_cons→Á4,range'→Á5,length_append→Â0,mem_range→Â5,mem_cons→Â7,map_congr_left→Ã5,mem_append→Ã6,length_set→Ä1,all_cons→Ä5,length_filter_le→Å3,getElem?_append_right→Å4,replicate_succ→Å5,map_cons→Å7,map_append→Æ3,mem_append_left→Æ5,length_take→Æ7,all_eq_true→Æ9,filter_eq_nil_iff→Ç2,range_eq_range'→Ç7,pairwise_lt_range→È7,getElem_mem→É1,flatten_cons→É8,getElem?_range→É9,zip_cons_cons→Ê5,pairwise_cons→Ê9,getElem?_cons_zero→Ë0,take_of_length_le→Ë6,length_reverse→Ì3,contains_iff_mem→Ì7,isEmpty_iff→Ì8,nil_append→Í0,forIn_cons→Í1,lookup→Í2,length_drop→Í5,getElem?_append_left→Ð2,getElem_map→Ñ6,filter_cons→Ñ7,getElem_range→Ò2,getElem?_replicate→Ò4,mem_range→Ó1,nodup_cons→Ó9,reverse_cons→Ô4,append_assoc→Ô6,mem_iff_getElem→Õ2,getElem?_append→Õ3,forIn_nil→Ö5,mem_filterMap→Ø0,getElem?_take→Ø1,getElem?_drop→Ø2,zip_nil_left→Ù8,pairwise_map→Ù9,mem_filter→Ü8,perm_ext_iff_of_nodup→Þ2,drop_eq_getElem_cons→ß2,Pairwise→ß6,length_replicate→à7,getElem?_eq_none→à8
open Option renaming map_eq_some_iff→Ì,bind_eq_some_iff→Ñ,map→Î6,map_eq_some_iff→Ô9,ne_none_iff_exists'→Ü7,isSome_iff_exists→Þ1
open Nat renaming le_refl→Í,le_trans→Ò,ne_of_lt→Ù,lt_of_lt_of_le→Þ,pow_le_pow_right→À4,lt_irrefl→Á8,lt_succ_of_lt→Å1,zero_le→Æ6,lt_of_le_of_lt→Ç5,zero_add→É4,le_of_lt→É5,le_add_right→É7,ne_of_gt→Ê6,min_eq_right→Ì1,lt_succ_self→Ì2,max→Ð8,min_eq_left→Ñ2,mul_comm→Ó8,not_lt_zero→Ö0,pow_succ→Ú4,lt_succ_of_le→Ú5,le_of_eq→Ú6,succ_le_succ→Ü4,max_le→ß1,le_mul_of_pos_left→à6
open ForInStep renaming yield→á,done→ä
open PySem.Value renaming none→â,type→Á7,ref→Ã3,int→Æ1,bool→Î9,builtin→Ð6,notImplemented→Õ1
open PySem.Challenge renaming pw_tiechances_k81_powers_of_one_chance→ò
open PySem.NameKind renaming free→ó,cell→Æ2
open PyProof.Rows renaming slot_tuple_getitem→ô,callWith_type1→Á2,SortSt→Â9,seqObj→Ã1,IntsAre→Ë7,SortKind→Ï0,IsTup→Ï2,envOfC→Ï6,listItems_at→Ð4,AllBare→Ó4,slicePart_none→Ø7,oneType'→Ø8,pendingOf→Ù3,listUpdate_at→Û5,assignInOrder_cons→Ü1,args_tuple_getitem→Ü2,get?_update_seq→à1
open Array renaming getElem?_toList→õ,extract→Æ8,getElem?_eq_getElem→É3,length_toList→Ê7,getD_eq_getD_getElem?→Î2,toArray_toList→Ð1,map_extract→Ñ3,size→Ö9,toList_inj→Û0,map_append→Û1
open PySem.Obj renaming mapSeq→À1
open False renaming elim→À2
open Option.some renaming inj→À7,injEq→Ê2
open PySem.Str renaming ofString→Á0
open Int renaming toNat_natCast→Á9,pow_succ→Ç6,eq_ofNat_of_zero_le→Ë2,eq_of_mul_eq_mul_right→Ð0,emod_eq_of_lt→Ð9,pow_zero→Ó0,zero_add→Ô0,mul_zero→Ô1,mul_pos→Ô5,emod_nonneg→Ö1,mul_comm→Ú7,le_of_dvd→à3
open Ne renaming symm→Â3
open PySem.Around renaming under_plainId→Â8,frames_deeper→à4
open PySem.Builtin.Range renaming rangeSize→Ã8,small→Ò1
open PySem.AutoSeq1 renaming wpAny_loadPart'→Ã9,wpAny_loadPart'→Ä7,idx_int→Ø4,sub_tuple_tuple→Ü9
open PySem.Builtin renaming iter→Ä0
open PySem.Builtin.List renaming listExtendWith→Ä3,listTooLong→Í6,listSameRef→Ú1
open PySem.Heap.SameBut renaming update→Æ0
open PySem.Builtin.Tuple renaming tupleExact→Ç0
open PyProof.Rows.KeyOrd renaming kle_refl→Ç3,kle_of_klt→Ï9,kle_trans→Ú0
open List.Perm renaming eq_of_pairwise→È9
open PySem.Builtin.Slice renaming slicePlaces→É0,sliceAdjust→Í4,sliceApplied→Ô3
open PySem.F renaming slot_tuple_iterator_next→É6,called_set→Ê3,args_tuple_add_2→Ï7,entry_tuple_add→Ð7,slot_tuple_add→Ñ9,slot_tuple_lt→Ò7,called_tuple→Ó7,slot_zip_next→Õ4,slot_int_rmul→Õ5,args_tuple_mul_2→Ú9,excBase_ValueError→Ü3,entry_tuple_mul→Ü5,slot_tuple_mul→Ý6,plain_tuple_new→Ý8,plain_list_iadd→Ý9,args_tuple_lt_2→Þ0,entry_tuple_lt→ß0,args_tuple_iterator_next_1→ß3,entry_tuple_iterator_next→ß7
open True renaming intro→Ê8
open List.Pairwise renaming filter→Ë1
open PyProof.Rows.SortSt renaming mk'→Ì4
open Array.Perm renaming refl→Ì6
open PySem.Builtin.SmallTypes renaming ownedTupleIsFree→Ì9
open PySem.W.Looks renaming ld→Î1,of_pure→Û7,here→Ý3
open PySem.Calls renaming Name_function_global→Ï3,spliced_nil→Ð3,spliced_cons→Ö7,call_function_entry→Þ3,loadGlobal_global→ß8,evalArgs_plain→à9
open Prod.mk renaming injEq→Ï8
open Or renaming inl→Ò3,inr→Ù7
open PySem.W.KasT renaming ret→Ò5
open PySem.Heap.IsSliceOf renaming new→Ò6
open PySem.PyData renaming depthAll→Ò8,eqv→Ü6
open PyProof.Rows.F renaming plain_set_update_loop→Ô2
open Sum renaming inr→Ö2,inl→Ö3
open PySem.SeqAt renaming EqAt→Ö6
open PySem.Code renaming quiet_builtin→Ø3
open Iff renaming rfl→Ú8
open Classical renaming byContradiction→Û8
open PySem.Shared renaming TypeIs→Ý7
open PySem.Builtin.Int renaming intBits→Þ4
local macro_rules
|`(command|def $i:declId $s:optDeclSig $v)=>`(noncomputable def $i:declId $s:optDeclSig $v)
|`(command|abbrev $i:declId $s:optDeclSig $v)=>`(noncomputable abbrev $i:declId $s:optDeclSig $v)
open PySem.W (methodObj hideAll hideAll_get of_hideAll callWith_K cellsFrom_some fnOf codeRec_of kitx_none kitx_bool kitx_int kitx_str kitx_tuple kitx_list kitx_dict kitAny kia_tup envX kla_fn codeHd_of_K kla_obj mg_none_of mg_of view)
open PySem.Heap (lt_size size_push)
open List (range filterMap_cons mem_cons_self mem_cons_of_mem mem_append_left mem_append_right append_nil of_mem_zip replicate length_take mem_of_getElem? length_append length_map size_toArray length_drop map_nil map_cons length_set reverse_cons replicate_succ flatten_cons foldl append_assoc lookup_cons forIn_cons toArray forIn_nil mem_cons not_mem_nil ext_getElem range' map_toArray length_nil nil_append length_range zip_cons_cons length_cons length_reverse all_eq_true mem_filter mem_range map_congr_left length_filter_le getElem_mem isEmpty_nil map_id all_nil mapM_cons all_map pairwise_lt_range all_cons range_eq_range' getElem_range drop_length filter_cons map_id' getElem_map)
open Array (length_toList toList getD size_map map_extract push extract setIfInBounds toArray_toList)
open Nat (ne_of_gt le_succ zero_le le_add_right not_lt_zero ble beq lt_succ_of_lt lt_succ_self pow_le_pow_right min_eq_left min_eq_right sub_self)
open Int (mul_one toNat_natCast emod_nonneg emod_lt_of_pos gcd natAbs_mul mul_pos zero_mul add_zero pow_zero sub_zero)
open PyProof.Rows (lt_int)
open PySem.Builtin.Slice (sliceAdjust slicePlaces sliceApplied sliceFields)
open PySem.Builtin.Tuple (tupleItemsOf tupleExact tupleCompareSizes tupleTooMany tupleIsExact)
open Bool (and_eq_true false_eq_true not_eq_true' or_eq_true not_eq_false')
open Option (getD_none map_some map_eq_some_iff)
open PySem.Builtin.SmallTypes (nextOf ownedTupleIsFree ownedTupleHandOut)
set_option bootstrap.genMatcherCode false
set_option compiler.extract_closed false
set_option genInjectivity false
set_option genSizeOf false
set_option autoImplicit true
set_option relaxedAutoImplicit true
set_option Elab.async false
set_option linter.all false
set_option maxRecDepth 100000
namespace L2
open PySem PySem.Spec PyProof.Rows
abbrev Key:=Sum Int Str
def k42:Key->Ä->Bool
 |.inl k,v=>Ä.isInt k v|.inr x,v=>Ä.isStrOf x v
def P02(w:ç):Key->Int
 |.inl k=>hashInt k|.inr x=>hashStr w x
theorem c80:∀ {k:Key}{v:Ä},k42 k v=true->(∃ i t,k=Ö3 i/\v=Æ1 i t)∨(∃ x t,k=Ö2 x/\v=Ä.str x t)
 |.inl i,v,h=>by
  obtain⟨t,e⟩:=Ä.isInt_shape (k:=i) (v:=v) h;exact .inl ⟨i,t,rfl,e⟩
 |.inr x,v,h=>by
  obtain⟨t,e⟩:=Ä.isStrOf_shape (x:=x) (v:=v) h;exact .inr ⟨x,t,rfl,e⟩
theorem k52(a b:Int):decide ((Ö3 a:Key)=Ö3 b)=(a == b):=by
 by_cases e:a=b
 ·subst e;simp
 ·have h:¬ (Ö3 a:Key)=Ö3 b:=λq=>e (Ö3.inj q);rw[decide_eq_false h];exact(beq_eq_false_iff_ne.mpr e).symm
theorem k62(a b:Str):decide ((Ö2 a:Key)=Ö2 b)=decide (a=b):=by
 by_cases e:a=b
 ·subst e;simp
 ·have h:¬ (Ö2 a:Key)=Ö2 b:=λq=>e (Ö2.inj q);rw[decide_eq_false h,decide_eq_false e]
theorem k72(a:Int)(b:Str):decide ((Ö3 a:Key)=Ö2 b)=false:=decide_eq_false (λq=>nomatch q)
theorem k82(a:Str)(b:Int):decide ((Ö2 a:Key)=Ö3 b)=false:=decide_eq_false (λq=>nomatch q)
def p51(prog:Ý)(w:ç):PySem.KeyKind prog w Key where
 is:=k42
 hash:=P02 w
 inj:=λv a b ha hb=>by
  rcases c80 ha with ⟨i,t,rfl,rfl⟩ | ⟨x,t,rfl,rfl⟩
  ·rcases c80 hb with ⟨j,u,rfl,e⟩ | ⟨y,u,rfl,e⟩
   ·injection e with e1 _;rw[e1]
   ·exact nomatch e
  ·rcases c80 hb with ⟨j,u,rfl,e⟩ | ⟨y,u,rfl,e⟩
   ·exact nomatch e
   ·injection e with e1 _;rw[e1]
 byValue:=λk v h=>by
  rcases c80 h with ⟨i,t,rfl,rfl⟩ | ⟨x,t,rfl,rfl⟩ <;> rfl
 pyHash:=λhv h=>by
  rcases c80 hv with ⟨i,t,rfl,rfl⟩ | ⟨x,t,rfl,rfl⟩
  ·exact wpAny_pyHash_int h
  ·exact wpAny_pyHash_str h
 eqBool:=λhu hv h=>by
  rcases c80 hu with ⟨i,t,rfl,rfl⟩ | ⟨x,t,rfl,rfl⟩
  ·rcases c80 hv with ⟨j,u,rfl,rfl⟩ | ⟨y,u,rfl,rfl⟩
   ·rw[k52] at h;exact wpAny_eqBool_int h
   ·rw[k72] at h;exact Ö6.int_str i t y u _ _ _ _ h
  ·rcases c80 hv with ⟨j,u,rfl,rfl⟩ | ⟨y,u,rfl,rfl⟩
   ·rw[k82] at h;exact Ö6.str_int x t j u _ _ _ _ h
   ·rw[k62] at h;exact wpAny_eqBool_str h
 «strs»:=λk x t v h=>by
  rcases c80 h with ⟨i,u,rfl,e⟩ | ⟨y,u,rfl,e⟩
  ·exact nomatch e
  ·injection e with e1 _;subst e1;cases v <;> rfl
inductive V where
 |non | bl (b:Bool) | int (i:Int) | str (x:Str) | byt (b:Array UInt8) | flt (b:UInt64) | ref (a:Addr) | ty (n:String)
 deriving DecidableEq
def RelV:V->Ä->Prop
 |.non,u=>u=â|.bl b,u=>u=Î9 b|.int i,u=>∃ t,u=Æ1 i t|.str x,u=>∃ t,u=Ä.str x t|.byt b,u=>∃ t,u=Ä.bytes b t|.flt b,u=>∃ t,u=Ä.float b t|.ref a,u=>u=Ã3 a|.ty n,u=>u=Á7 n
abbrev Vals:List V->List Ä->Prop:=Å9 RelV
theorem Vals.length{xs:List V}{us:List Ä}(r:Vals xs us):xs.length=us.length:=Å9.length r
theorem Vals.get:∀ {xs:List V}{us:List Ä}{i:Nat}{x:V},Vals xs us->xs[i]?=some x->∃ u,us[i]?=some u/\RelV x u
 |_,_,_,_,.nil,e=>by simp at e|_,_,0,_,.cons r _,e=>by simp at e;subst e;exact⟨_,rfl,r⟩
 |_,_,i + 1,x,.cons _ t,e=>by
  obtain⟨u,h1,h2⟩:=Vals.get (i:=i) (x:=x) t (by simpa using e)
  exact⟨u,by simpa using h1,h2⟩
theorem Vals.set{x:V}{u:Ä}(r:RelV x u):∀ {xs:List V}{us:List Ä} (i:Nat),Vals xs us->Vals (xs.set i x) (us.set i u)
 |_,_,_,.nil=>.nil|_,_,0,.cons _ t=>.cons r t|_,_,i + 1,.cons q t=>.cons q (Vals.set r i t)
theorem Vals.append:∀ {xs ys:List V}{us ws:List Ä},Vals xs us->Vals ys ws->Vals (xs++ys) (us++ws)
 |_,_,_,_,.nil,s=>s|_,_,_,_,.cons r t,s=>.cons r (Vals.append t s)
theorem Vals.take:∀ {xs:List V}{us:List Ä} (n:Nat),Vals xs us->Vals (xs.take n) (us.take n)
 |_,_,0,_=>.nil|_,_,_ + 1,.nil=>.nil|_,_,n + 1,.cons r t=>.cons r (Vals.take n t)
theorem Vals.drop:∀ {xs:List V}{us:List Ä} (n:Nat),Vals xs us->Vals (xs.drop n) (us.drop n)
 |_,_,0,r=>r|_,_,_ + 1,.nil=>.nil|_,_,n + 1,.cons _ t=>Vals.drop n t
def M12:Option V->Option Ä->Prop
 |some v,some u=>RelV v u|none,none=>True|_,_=>False
def KV{κ:Type}:List (κ × V)->List (κ × Ä)->Prop:=Å9 λ(p:κ × V) (q:κ × Ä)=>p.1=q.1/\RelV p.2 q.2
def kV:Key->V
 |.inl i=>.int i|.inr x=>.str x
inductive HO where
 |lst (xs:List V)
 |tup (xs:List V)
 |dK (kvs:List (Key × V)) | dT (kvs:List (List Key × V))
 |set (S:Int->Bool) (n:Nat)
 |ins (C dx:Addr) (fs:List (Str × V))
 |own (x:Addr)
 |xd (fs:List (Str × V))
 |met (f x:Addr)
 |rng (lo hi:Int)
 |frz (o:Obj) (u:HO)
 |tbl (ps:Array Value)
 |ext (φ:Heap->Prop)
abbrev Hp:=Ç->Option HO
def upd(H:Hp)(a:Ç)(o:HO):Hp:=λb=>if b=a then some o else H b
theorem b20{H:Hp}{a:Ç}{o:HO}:upd H a o a=some o:=by unfold upd;rw[if_pos rfl]
theorem a60{H:Hp}{a b:Ç}{o:HO}(h:b≠a):upd H a o b=H b:=by unfold upd;rw[if_neg h]
theorem a80{H:Hp}{a b:Ç}{o:HO}(h:H a=some o)(h':H b=none):a≠b:=by
 intro e;subst e;rw[h] at h';cases h'
section
variable (P:Ý) (w:ç)
def g90(H:Hp)(h:é)(a:Ç):HO->Prop
 |.lst xs=>xs.length<=Ú/\∃ (its:List Ä) (n:Nat),Vals xs its/\h.get? a=some { cls:=.type "list",data:=.seq its.toArray n }|.tup xs=>xs.length<=Ú/\∃ its:List Ä,Vals xs its/\Ï2 h a its.toArray|.dK kvs=>kvs.length<=Ú/\(a == sysModules)=false/\∃ vs,KV kvs vs/\h.DictOf (p51 P w) a vs
 |.dT kvs=>kvs.length<=Ú/\(a == sysModules)=false/\∃ xs:List (List Key × Ç × Ä),
   Å9 (λ(p:List Key × V) (q:List Key × Ç × Ä)=>p.1=q.1/\H q.2.1=some (.tup (p.1.map kV))/\RelV p.2 q.2.2) kvs xs /\
   ∃ o es ep,h.get? a=some o/\o.ExactDict/\o.data=.dict es ep/\es.toList=xs.map (entryOfKey (tupleKind (p51 P w)))/\(xs.map (·.1)).Nodup
 |.set S n=>h.SetOf (Ù4 P w) a S n
 |.ins C dx fs=>H dx=some (.own a)/\fs.length<=1000/\dx≠a/\h.get? a=some (PySem.W.instObj C dx) /\
   ∃ mA,h.Ns1 dx mA/\(∀ f,M12 (fs.lookup f) (mA f))/\PySem.Within mA (fs.map (·.1))
 |.own _=>∃ o,h.get? a=some o|.xd fs=>∃ mA,h.Ns1 a mA/\∀ f,M12 (fs.lookup f) (mA f)|.rng lo hi=>∃ t u v,h.get? a=some { cls:=.type "range",data:=.fields #[.int lo t,.int hi u,.int 1 v] }|.frz o u=>h.get? a=some o/\g90 H h a u|.tbl ps=>h.get? a=some { cls:=.none,data:=.fields ps }|.met f x=>h.get? a=some (methodObj (.ref f) (.ref x))|.ext φ=>φ h/\(∃ o,h.get? a=some o)/\∀ h1 h2:é,φ h1->(∀ o,h1.get? a=some o->h2.get? a=some o)->φ h2
def HOk(H:Hp)(h:é):Prop:=∀ a o,H a=some o->g90 P w H h a o
end
section
variable {P:Ý}{w:ç}{H H':Hp}{h h':é}{a:Ç}{o:HO}
theorem g90.lt(x:g90 P w H h a o):a < h.objs.size:=by
 cases o with
 |lst xs=>obtain⟨_,_,_,_,e⟩:=x;exact à e
 |tup xs=>obtain⟨_,_,_,p⟩:=x;exact p.lt
 |dK kvs=>obtain⟨_,_,_,_,o,_,_,e,_⟩:=x;exact à e
 |dT kvs=>obtain⟨_,_,_,_,o,_,_,e,_⟩:=x;exact à e
 |set S n=>obtain⟨o,_,_,_,e,_⟩:=x;exact à e
 |ins C dx fs=>obtain⟨_,_,_,e,_⟩:=x;exact à e
 |own y=>obtain⟨_,e⟩:=x;exact à e
 |xd fs=>obtain⟨_,⟨_,_,_,e,_⟩,_⟩:=x;exact à e
 |rng lo hi=>obtain⟨_,_,_,e⟩:=x;exact à e
 |frz ob u=>obtain⟨e,_⟩:=x;exact à e
 |tbl ps=>exact à (show h.get? a=some _ from x)|met f y=>exact à (show h.get? a=some _ from x)|ext φ=>obtain⟨_,⟨_,e⟩,_⟩:=x;exact à e
theorem Å9.j52{α β:Type}{F G:α->β->Prop}:∀ {l₁:List α}{l₂:List β},Å9 F l₁ l₂->(∀ a b,F a b->G a b)->Å9 G l₁ l₂
 |_,_,.nil,_=>.nil|_,_,.cons r t,f=>.cons (f _ _ r) (Å9.j52 t f)
theorem g90.k31(x:g90 P w H h a o)(k:∀ b u,(b=a∨H b=some (.own a))->h.get? b=some u->h'.get? b=some u)
  (ho:∀ b,H b=some (.own a)->H' b=some (.own a)) (ht:∀ b xs,H b=some (.tup xs)->H' b=some (.tup xs)):g90 P w H' h' a o:=by
 induction o with
 |lst xs=>obtain⟨z,its,n,r,e⟩:=x;exact⟨z,its,n,r,k _ _ (.inl rfl) e⟩
 |tup xs=>obtain⟨z,its,r,ob,e,c⟩:=x;exact⟨z,its,r,ob,k _ _ (.inl rfl) e,c⟩
 |dK kvs=>obtain⟨z,y,vs,r,ob,es,ep,e,c⟩:=x;exact⟨z,y,vs,r,ob,es,ep,k _ _ (.inl rfl) e,c⟩
 |dT kvs =>
  obtain⟨z,y,xs,r,ob,es,ep,e,c⟩:=x;exact⟨z,y,xs,Å9.j52 r λp q z=>⟨z.1,ht _ _ z.2.1,z.2.2⟩,ob,es,ep,k _ _ (.inl rfl) e,c⟩
 |set S n=>obtain⟨ob,es,ep,t,e,c⟩:=x;exact⟨ob,es,ep,t,k _ _ (.inl rfl) e,c⟩
 |ins C dx fs =>
  obtain⟨d,z,ne,e,mA,⟨od,es,ep,e2,c⟩,r⟩:=x;exact⟨ho _ d,z,ne,k _ _ (.inl rfl) e,mA,⟨od,es,ep,k _ _ (.inr d) e2,c⟩,r⟩
 |own y=>obtain⟨ob,e⟩:=x;exact⟨ob,k _ _ (.inl rfl) e⟩
 |xd fs=>obtain⟨mA,⟨od,es,ep,e,c⟩,r⟩:=x;exact⟨mA,⟨od,es,ep,k _ _ (.inl rfl) e,c⟩,r⟩
 |rng lo hi=>obtain⟨t,u,v,e⟩:=x;exact⟨t,u,v,k _ _ (.inl rfl) e⟩
 |frz ob u ih=>obtain⟨e,q⟩:=x;exact⟨k _ _ (.inl rfl) e,ih q⟩
 |tbl ps =>
  have e:h.get? a=some { cls:=.none,data:=.fields ps }:=x;show h'.get? a=some { cls:=.none,data:=.fields ps };exact k a _ (.inl rfl) e
 |met f y =>
  have e:h.get? a=some (methodObj (.ref f) (.ref y)):=x;show h'.get? a=some (methodObj (.ref f) (.ref y));exact k a _ (.inl rfl) e
 |ext φ=>obtain⟨p,⟨o,e⟩,st⟩:=x;exact⟨st _ _ p λo q=>k _ _ (.inl rfl) q,⟨o,k _ _ (.inl rfl) e⟩,st⟩
theorem HOk.lt(x:HOk P w H h)(e:H a=some o):a < h.objs.size:=(x a o e).lt
theorem HOk.fresh(x:HOk P w H h)(e:h.objs.size<=a):H a=none:=by
 cases q:H a with
 |none=>rfl|some u=>exact absurd (Þ (x.lt q) e) (Á8 _)
theorem HOk.kept(x:HOk P w H h)(k:∀ b u,h.get? b=some u->h'.get? b=some u):HOk P w H h':=λa o e =>
 (x a o e).k31 (λb u _ q=>k b u q) (λ_ q=>q) λ_ _ q=>q
theorem HOk.laid(x:HOk P w H h)(k:∀ b u,h.get? b=some u->h'.get? b=some u)(hp:h.objs.size<=a)(new:g90 P w (upd H a o) h' a o):HOk P w (upd H a o) h':=λb u e=>by
 have hn:=x.fresh hp;by_cases hb:b=a
 ·subst hb;rw[b20] at e;cases e;exact new
 ·rw[a60 hb] at e;exact(x b u e).k31 (λc v _ q=>k c v q) (λc q=>by rw[a60 (a80 q hn)];exact q) λc xs q=>by rw[a60 (a80 q hn)];exact q
end
def Rd(H:Hp)(a:Ç)(u:HO):Prop:=H a=some u∨∃ o,H a=some (.frz o u)
theorem Rd.ok{P:Ý}{w:ç}{H:Hp}{h:é}{a:Ç}{u:HO}(r:Rd H a u)(x:HOk P w H h):g90 P w H h a u:=by
 rcases r with r | ⟨o,r⟩
 ·exact x a u r
 ·obtain⟨_,q⟩:=x a _ r;exact q
def Mut:Option HO->Prop
 |some (.lst _)=>True|some (.dK _)=>True|some (.dT _)=>True|some (.set _ _)=>True|some (.ins _ _ _)=>True|some (.ext _)=>True|_=>False
section
variable {P:Ý}{w:ç}{H:Hp}{h h':é}{x e:Ç}{o':HO}
theorem HOk.write(ok:HOk P w H h)(mu:Mut (H x))(he:e=x∨H e=some (.own x))(k:∀ b u,b≠e->h.get? b=some u->h'.get? b=some u)(heo:∃ u,h'.get? e=some u)
  (new:g90 P w (upd H x o') h' x o'):HOk P w (upd H x o') h':=λb u q=>by
 have nown:∀ c y,H c=some (.own y)->c≠x:=λc y r z=>by subst z;rw[r] at mu;exact mu
 have ntup:∀ c xs,H c=some (.tup xs)->c≠x:=λc xs r z=>by subst z;rw[r] at mu;exact mu
 by_cases hb:b=x
 ·subst hb;rw[b20] at q;cases q;exact new
 ·rw[a60 hb] at q;by_cases hbe:b=e
  ·have q':H b=some (.own x):=by
    rcases he with z | z
    ·exact absurd (hbe.trans z) hb
    ·rw[hbe];exact z
   rw[q] at q';cases q';obtain⟨v,hv⟩:=heo;exact⟨v,by rw[hbe];exact hv⟩
  ·refine(ok b u q).k31 (λc v hc r=>k c v ?_ r) (λc r=>by rw[a60 (nown c b r)];exact r) λc xs r=>by rw[a60 (ntup c xs r)];exact r
   rcases hc with rfl | hc
   ·exact hbe
   ·rintro rfl;rcases he with z | z
    ·exact nown c b hc z
    ·rw[hc] at z;cases z;exact hb rfl
end
structure Un(fs ex:List Addr)(H H':Hp)(h h':Heap):Prop where
 keep:∀ b o,h.get? b=some o->H b=none->b ∉ fs->b ∉ ex->h'.get? b=some o
 slot:∀ b o,h.get? b=some o->H b=none->b∈fs->b ∉ ex->∃ sl,h'.get? b=some { o with slots:=sl }
 free:∀ b o,h.get? b=some o->H b=none->b ∉ ex->H' b=none
 there:∀ b o,h.get? b=some o->b ∉ ex->∃ o',h'.get? b=some o'
 tups:∀ b xs,H b=some (.tup xs)->H' b=some (.tup xs)
 frzs:∀ b o u,H b=some (.frz o u)->H' b=some (.frz o u)
 tbls:∀ b ps,H b=some (.tbl ps)->∃ more,H' b=some (.tbl (ps++more))
section
variable {fs fs' ex ex':List Ç}{H H1 H2:Hp}{h h1 h2 h':é}{a x e:Ç}{o:HO}
theorem Un.any(u:Un fs ex H H1 h h1){b:Ç}{ob:Obj}(q:h.get? b=some ob)(n:H b=none)(hx:b ∉ ex):∃ sl,h1.get? b=some { ob with slots:=sl }:=by
 by_cases hb:b∈fs
 ·exact u.slot b ob q n hb hx
 ·exact⟨ob.slots,u.keep b ob q n hb hx⟩
theorem Un.trans(a:Un fs ex H H1 h h1)(b:Un fs ex H1 H2 h1 h2):Un fs ex H H2 h h2 where
 keep:=λc ob q n hc hx=>b.keep c ob (a.keep c ob q n hc hx) (a.free c ob q n hx) hc hx
 slot:=λc ob q n hc hx=>by
  obtain⟨sl,e1⟩:=a.slot c ob q n hc hx;obtain⟨sl',e2⟩:=b.slot c _ e1 (a.free c ob q n hx) hc hx;exact⟨sl',e2⟩
 free:=λc ob q n hx=>by
  obtain⟨o',e1⟩:=a.there c ob q hx;exact b.free c o' e1 (a.free c ob q n hx) hx
 there:=λc ob q hx=>by
  obtain⟨o',e1⟩:=a.there c ob q hx;exact b.there c o' e1 hx
 tups:=λc xs q=>b.tups c xs (a.tups c xs q)
 frzs:=λc ob xs q=>b.frzs c ob xs (a.frzs c ob xs q)
 tbls:=λc ps q=>by
  obtain⟨m1,e1⟩:=a.tbls c ps q;obtain⟨m2,e2⟩:=b.tbls c _ e1;exact⟨m1++m2,by rw[e2,Array.append_assoc]⟩
theorem Un.kept(k:∀ b u,h.get? b=some u->h'.get? b=some u):Un fs ex H H h h' :=
 ⟨λb ob q _ _ _=>k b ob q,λb ob q _ _ _=>⟨ob.slots,k b ob q⟩,λ_ _ _ n _=>n,λb ob q _=>⟨ob,k b ob q⟩,λ_ _ q=>q,λ_ _ _ q=>q,λ_ ps q=>⟨#[],by rw[q];simp⟩⟩
theorem Un.refl:Un fs ex H H h h:=Un.kept λ_ _ q=>q
theorem Un.laid(k:∀ b u,h.get? b=some u->h'.get? b=some u)(hp:h.objs.size<=a)(hn:H a=none):Un fs ex H (upd H a o) h h' where
 keep:=λb u q _ _ _=>k b u q
 slot:=λb u q _ _ _=>⟨u.slots,k b u q⟩
 free:=λb u q n _=>by rw[a60 (Ù (Þ (à q) hp))];exact n
 there:=λb u q _=>⟨u,k b u q⟩
 tups:=λb xs q=>by rw[a60 (a80 q hn)];exact q
 frzs:=λb u xs q=>by rw[a60 (a80 q hn)];exact q
 tbls:=λb ps q=>⟨#[],by rw[a60 (a80 q hn),q];simp⟩
theorem Un.write(mu:Mut (H x))(he:e=x∨H e=some (.own x))(k:∀ b u,b≠e->h.get? b=some u->h'.get? b=some u)(heo:∃ u,h'.get? e=some u):Un fs ex H (upd H x o) h h':=by
 have hx:∀ b,H b=none->b≠x:=λb n z=>by subst z;rw[n] at mu;exact mu
 have hb:∀ b,H b=none->b≠e:=λb n z=>by
  subst z;rcases he with r | r
  ·exact hx b n r
  ·rw[n] at r;cases r
 have hm:∀ b u,H b=some u->¬ Mut (some u)->b≠x:=λb u q nm z=>by subst z;rw[q] at mu;exact nm mu
 refine⟨λb u q n _ _=>k b u (hb b n) q,λb u q n _ _=>⟨u.slots,k b u (hb b n) q⟩,λb u q n _=>by rw[a60 (hx b n)];exact n,λb u q _=>?_,
  λb xs q=>by rw[a60 (hm b _ q λz=>z)];exact q,λb u xs q=>by rw[a60 (hm b _ q λz=>z)];exact q,λb ps q=>⟨#[],by rw[a60 (hm b _ q λz=>z),q];simp⟩⟩
 by_cases hbe:b=e
 ·subst hbe;exact heo
 ·exact⟨u,k b u hbe q⟩
theorem Un.mono(u:Un fs ex H H1 h h1)(hs:∀ b∈fs,b∈fs')(hx:∀ b∈ex,b∈ex'):Un fs' ex' H H1 h h1 :=
 ⟨λb ob q n hb he=>u.keep b ob q n (λz=>hb (hs b z)) λz=>he (hx b z),λ_ _ q n _ he=>u.any q n λz=>he (hx _ z),λb ob q n he=>u.free b ob q n λz=>he (hx b z),λb ob q he=>u.there b ob q λz=>he (hx b z),u.tups,u.frzs,u.tbls⟩
end
def trk(h:é)(H:Hp):List Addr:=(ì h.objs.size).filter λa=>(H a).isSome
def G61(h:é)(H:Hp):Heap:=hideAll h (trk h H)
theorem p61(h:é)(H:Hp):(G61 h H).objs.size=h.objs.size:=PySem.W.hideAll_size _ _
theorem I50{h:é}{H:Hp}{b:Ç}{o:Obj}(e:h.get? b=some o)(n:H b=none):(G61 h H).get? b=some o :=
 hideAll_get _ e λhm=>by
  have q:(H b).isSome=true:=(Ü8.mp hm).2;rw[n] at q;simp at q
theorem W61{h:é}{H:Hp}{b:Ç}{o:Obj}(e:(G61 h H).get? b=some o):h.get? b=some o/\H b=none:=by
 have e':h.get? b=some o:=of_hideAll (trk h H) e;refine⟨e',?_⟩;cases q:H b with
 |none=>rfl
 |some x =>
  have hm:b∈trk h H:=Ü8.mpr ⟨Â5.mpr (à e'),by simp[q]⟩
  have z:(G61 h H).get? b=none:=PySem.W.hideAll_none (trk h H) hm;rw[z] at e;cases e
structure Mod(K:PySem.W.Frag)(mg:Str->Option Value)(base:Heap):Prop where
 kin:K.In base
 glob:base.Ns mainGlobals mg
 blt:∃ mb,base.Ns builtinsNs mb/\∀ x:Str,x≠"__name__"->mb x=bootBuiltins x
 nolimit:base.NoLimit
structure Cx where
 prog:Program
 w:World
 K:PySem.W.Frag
 mg:Str->Option Value
 base:Heap
 A:Around
 N:List Str
 s₀:Shared
 H₀:Hp
 env:Env
 outer:List Env
 stack:List Env
 ex:List Addr
 fn:Str->Bool
 calm:Bool
 pn:List (Addr × Obj)
 xe:Value->Shared->Prop
def frs(l:List Env):List Addr:=l.filterMap (·.frame)
abbrev Cx.fs(X:Cx):List Addr:=frs X.outer
def Vis(sc:ý)(x:Str):Prop:=sc.names.lookup x=some .local∨sc.names.lookup x=some .cell∨sc.names.lookup x=some .free
def Loc(sc:ý)(x:Str):Prop:=sc.names.lookup x=some .local∨sc.names.lookup x=some .cell
def Look(env:Env)(h:é)(m:Str->Option Ä)(x:Str)(u:Ä):Prop :=
 (env.kindOf x=some .local/\m x=some u)∨((env.kindOf x=some .cell∨env.kindOf x=some .free)/\∃ c,env.cells.lookup x=some c/\h.IsCell c (some u))
structure Cx.Ok(X:Cx):Prop where
 mod:Mod X.K X.mg X.base
 kind:X.env.scope.kind=.function
 glob:X.env.globals=mainGlobals
 blt:X.env.builtins=builtinsNs
 above:X.s₀.heap.objs.size<=X.env.locals
 inj:∀ x y c,X.env.cells.lookup x=some c->X.env.cells.lookup y=some c->x=y
 has:∀ x,(X.env.kindOf x=some .cell∨X.env.kindOf x=some .free)->∃ c,X.env.cells.lookup x=some c
 cab:∀ x c,X.fn x=true->X.env.cells.lookup x=some c->X.s₀.heap.objs.size<=c
 hd:X.calm=true->X.A.handled=none
 frames:X.A.frames=some X.stack
 stk:X.stack=X.outer∨(X.stack=X.env::X.outer/\X.env.frame=some X.env.locals)
 exf:∀ b∈X.ex,b≠X.env.locals/\∀ x c,X.env.cells.lookup x=some c->c≠b
 bs:∀ b o,X.base.get? b=some o->X.s₀.heap.get? b=some o/\X.H₀ b=none
 bsz:X.base.objs.size<=X.s₀.heap.objs.size
 noex:∀ b o,X.base.get? b=some o->b ∉ X.ex
 exfs:∀ b∈X.ex,b ∉ X.fs
 k41:X.s₀.heap.FunFrames X.base X.outer
 frf:∀ b∈X.fs,X.H₀ b=none
structure Inv(X:Cx)(pins:List (Addr × Obj))(σ:List (Option V))(H:Hp)(s:Shared):Prop where
 ok:X.Ok
 os:s.os=X.s₀.os
 bare:AllBare s.gens
 base:Un X.fs X.ex X.H₀ H X.s₀.heap s.heap
 loc:∃ m,s.heap.Ns X.env.locals m/\∀ (i:Nat) (x:Str) (v:V),X.N[i]?=some x->σ[i]?=some (some v)->Vis X.env.scope x->∃ u,RelV v u/\Look X.env s.heap m x u
 cell:∀ x c,X.env.cells.lookup x=some c->∃ v,s.heap.IsCell c v
 free:H X.env.locals=none
 freeC:∀ x c,X.env.cells.lookup x=some c->H c=none
 pin:∀ p∈X.pn++pins,s.heap.get? p.1=some p.2/\H p.1=none/\p.1≠X.env.locals/\p.1 ∉ X.fs/\∀ v,p.2.data≠.cell v
 hok:HOk X.prog X.w H s.heap
 len:σ.length=X.N.length
section
variable {X:Cx}{pins:List (Ç × Obj)}{σ:List (Option V)}{H H':Hp}{s:Æ}{h':é}
theorem Cx.Ok.P12(ok:X.Ok){b:Ç}{o:Obj}(e:X.base.get? b=some o):b ∉ X.fs:=λhb=>by
 have:=(ok.k41.mem hb).1;rw[e] at this;cases this
theorem Inv.bs(I:Inv X pins σ H s):∀ b o,X.base.get? b=some o->s.heap.get? b=some o/\H b=none:=λb o e =>
 ⟨I.base.keep b o (I.ok.bs b o e).1 (I.ok.bs b o e).2 (I.ok.P12 e) (I.ok.noex b o e),I.base.free b o (I.ok.bs b o e).1 (I.ok.bs b o e).2 (I.ok.noex b o e)⟩
theorem Inv.bk(I:Inv X pins σ H s):∀ b o,X.base.get? b=some o->s.heap.get? b=some o:=λb o e=>(I.bs b o e).1
theorem Inv.mod(I:Inv X pins σ H s):Mod X.K X.mg X.base:=I.ok.mod
theorem Inv.kIn(I:Inv X pins σ H s):X.K.In s.heap:=I.ok.mod.kin.keeps I.bk
theorem Inv.lt(I:Inv X pins σ H s):X.env.locals < s.heap.objs.size:=let ⟨_,hn,_⟩:=I.loc;hn.lt
theorem Inv.sz(I:Inv X pins σ H s):X.s₀.heap.objs.size<=s.heap.objs.size:=Ò I.ok.above (É5 I.lt)
theorem Inv.P22(I:Inv X pins σ H s){a:Ç}(h:s.heap.objs.size<=a):a ∉ X.fs:=λhb=>by
 obtain⟨_,o,ho,_⟩:=I.ok.k41.mem hb;exact absurd (Þ (à ho) (Ò I.sz h)) (Á8 _)
theorem Inv.cne(I:Inv X pins σ H s):∀ x c,X.env.cells.lookup x=some c->c≠X.env.locals:=λx c e z=>by
 obtain⟨v,o,ho,hd⟩:=I.cell x c e;obtain⟨m,⟨o',es,ep,ho',hd',_⟩,_⟩:=I.loc;rw[z,ho'] at ho;cases ho;rw[hd'] at hd;cases hd
theorem Inv.k41(I:Inv X pins σ H s):s.heap.FunFrames X.base X.outer:=by
 have all:∀ (l:List Env),(∀ b∈frs l,b∈X.fs)->X.s₀.heap.FunFrames X.base l->s.heap.FunFrames X.base l:=by
  intro l
  induction l with
  |nil=>intro _ _;trivial
  |cons env r ih =>
   intro hs hl;obtain⟨hk,⟨L,o,hf,hn,ho,hd⟩,hr⟩:=hl;have hL:L∈X.fs:=hs L (by unfold frs;rw[Á4,hf];exact Ë)
   obtain⟨sl,e⟩:=I.base.slot L o ho (I.ok.frf L hL) hL λz=>I.ok.exfs L z hL;exact⟨hk,⟨L,_,hf,hn,e,hd⟩,ih (λb hb=>hs b (by unfold frs;rw[Á4,hf];exact È _ hb)) hr⟩
 exact all X.outer (λ_ hb=>hb) I.ok.k41
theorem Inv.stack(I:Inv X pins σ H s):s.heap.FunFrames X.base X.stack:=by
 rcases I.ok.stk with e | ⟨e,hf⟩
 ·rw[e];exact I.k41
 ·rw[e];obtain⟨m,hn,_⟩:=I.loc;refine .cons (by rw[I.ok.kind];decide) hf hn ?_ I.k41
  exact é.get?_none_of_le (Ò I.ok.bsz I.ok.above)
theorem Inv.p71(I:Inv X pins σ H s):∀ b∈frs X.stack,b∈X.env.locals::X.fs:=λb hb=>by
 rcases I.ok.stk with e | ⟨e,hf⟩
 ·rw[e] at hb;exact È _ hb
 ·rw[e] at hb;unfold frs at hb;rw[Á4,hf] at hb;exact hb
theorem Inv.w30(I:Inv X pins σ H s):∀ b∈frs X.stack,H b=none:=λb hb=>by
 rcases ú.mp (I.p71 b hb) with e | hb
 ·rw[e];exact I.free
 ·obtain⟨_,o,ho,_⟩:=I.ok.k41.mem hb;exact I.base.free b o ho (I.ok.frf b hb) λz=>I.ok.exfs b z hb
theorem Inv.step{g':Array Ý5}{t':Nat}{d':Drawn}{ch:List Ç}(I:Inv X pins σ H s)
  (hch:∀ b∈ch,(b∈X.ex∨X.s₀.heap.objs.size<=b)/\b≠X.env.locals/\(∀ x c,X.env.cells.lookup x=some c->c≠b)/\∀ p∈X.pn++pins,p.1≠b)
  (keep:∀ b o,b≠X.env.locals->b ∉ X.fs->b ∉ ch->s.heap.get? b=some o->H b=none->h'.get? b=some o)
  (slot:∀ b o,b≠X.env.locals->b∈X.fs->b ∉ ch->s.heap.get? b=some o->H b=none->∃ sl,h'.get? b=some { o with slots:=sl }) (free:∀ b o,b ∉ ch->s.heap.get? b=some o->H b=none->H' b=none)
  (there:∀ b o,b ∉ ch->s.heap.get? b=some o->∃ o',h'.get? b=some o')
  (tups:∀ b xs,H b=some (.tup xs)->H' b=some (.tup xs)) (frzs:∀ b o u,H b=some (.frz o u)->H' b=some (.frz o u)) (tbls:∀ b ps,H b=some (.tbl ps)->∃ more,H' b=some (.tbl (ps++more)))
  (ns:∀ m,s.heap.Ns X.env.locals m->h'.Ns X.env.locals m) (hok:HOk X.prog X.w H' h') (hg:Ó4 g') :
  Inv X pins σ H' { s with heap:=h',gens:=g',drawn:=d',toks:=t' }:=by
 have neL:∀ b o,X.s₀.heap.get? b=some o->b≠X.env.locals:=λb o e=>Ù (Þ (à e) I.ok.above);have neC:∀ b o,X.s₀.heap.get? b=some o->b ∉ X.ex->b ∉ ch:=λb o e hx hb=>by
  rcases (hch b hb).1 with z | z
  ·exact hx z
  ·exact absurd (Þ (à e) z) (Á8 _)
 have cellK:∀ x c,X.env.cells.lookup x=some c->∀ v,s.heap.IsCell c v->h'.IsCell c v:=λx c e v ⟨o,ho,hd⟩=>by
  have nch:c ∉ ch:=λz=>(hch c z).2.2.1 x c e rfl;by_cases hc:c∈X.fs
  ·obtain⟨sl,q⟩:=slot c o (I.cne x c e) hc nch ho (I.freeC x c e);exact⟨_,q,hd⟩
  ·exact⟨o,keep c o (I.cne x c e) hc nch ho (I.freeC x c e),hd⟩
 refine⟨I.ok,I.os,hg,⟨λb o e n hb hx=>?_,λb o e n hb hx=>?_,λb o e n hx=>?_,λb o e hx=>?_,λb xs e=>tups b xs (I.base.tups b xs e),λb o xs e=>frzs b o xs (I.base.frzs b o xs e),λb ps e=>?_⟩,?_,λx c e=>?_,?_,λx c e=>?_,λp hp=>?_,hok,I.len⟩
 ·exact keep b o (neL b o e) hb (neC b o e hx) (I.base.keep b o e n hb hx) (I.base.free b o e n hx)
 ·obtain⟨sl,e1⟩:=I.base.slot b o e n hb hx;obtain⟨sl',e2⟩:=slot b _ (neL b o e) hb (neC b o e hx) e1 (I.base.free b o e n hx);exact⟨sl',e2⟩
 ·obtain⟨o',e1⟩:=I.base.there b o e hx;exact free b o' (neC b o e hx) e1 (I.base.free b o e n hx)
 ·obtain⟨o',e1⟩:=I.base.there b o e hx;exact there b o' (neC b o e hx) e1
 ·obtain⟨m1,e1⟩:=I.base.tbls b ps e;obtain⟨m2,e2⟩:=tbls b _ e1;exact⟨m1++m2,by rw[e2,Array.append_assoc]⟩
 ·obtain⟨m,hn,hl⟩:=I.loc;refine⟨m,ns m hn,λi x v e1 e2 e3=>?_⟩;obtain⟨u,r,l⟩:=hl i x v e1 e2 e3;refine⟨u,r,?_⟩;rcases l with l | ⟨k,c,e,z⟩
  ·exact .inl l
  ·exact .inr ⟨k,c,e,cellK x c e _ z⟩
 ·obtain⟨v,z⟩:=I.cell x c e;exact⟨v,cellK x c e v z⟩
 ·obtain⟨m,⟨o,_,_,ho,_⟩,_⟩:=I.loc;exact free _ o (λz=>(hch _ z).2.1 rfl) ho I.free
 ·obtain⟨v,o,ho,hd⟩:=I.cell x c e;exact free c o (λz=>(hch c z).2.2.1 x c e rfl) ho (I.freeC x c e)
 ·obtain⟨e,n,ne,nf,d⟩:=I.pin p hp;have nch:p.1 ∉ ch:=λz=>(hch p.1 z).2.2.2 p hp rfl;exact⟨keep p.1 p.2 ne nf nch e n,free p.1 p.2 nch e n,ne,nf,d⟩
theorem Inv.un{t':Nat}(I:Inv X pins σ H s)(u:Un X.fs [] H H' s.heap h')(hok:HOk X.prog X.w H' h'):Inv X pins σ H' { s with heap:=h',toks:=t' }:=by
 obtain⟨m,⟨o,es,ep,ho,r⟩,_⟩:=id I.loc;obtain⟨sl,hL⟩:=u.any ho I.free (by simp)
 exact I.step (g':=s.gens) (d':=s.drawn) (ch:=[]) (λ_ z=>nomatch z) (λb o _ hb _ e n=>u.keep b o e n hb (by simp)) (λb o _ hb _ e n=>u.slot b o e n hb (by simp)) (λb o _ e n=>u.free b o e n (by simp)) (λb o _ e=>u.there b o e (by simp)) u.tups u.frzs u.tbls (λm' hm=>by
  obtain⟨o',es',ep',ho',r'⟩:=hm;rw[ho] at ho';cases ho';exact⟨_,es',ep',hL,r'⟩) hok I.bare
theorem Inv.call{g':Array Ý5}{t':Nat}{d':Drawn}{ch:List Ç}(I:Inv X pins σ H s)(u:Un (frs X.stack) ch H H' s.heap h')(hok:HOk X.prog X.w H' h')(hg:Ó4 g')
  (hch:∀ b∈ch,(b∈X.ex∨X.s₀.heap.objs.size<=b)/\b≠X.env.locals/\(∀ x c,X.env.cells.lookup x=some c->c≠b)/\∀ p∈X.pn++pins,p.1≠b) :
  Inv X pins σ H' { s with heap:=h',gens:=g',drawn:=d',toks:=t' }:=by
 obtain⟨m,⟨o,es,ep,ho,r⟩,_⟩:=id I.loc;obtain⟨sl,hL⟩:=u.any ho I.free λz=>(hch _ z).2.1 rfl;exact I.step (ch:=ch) hch (λb o hL hb hc e n=>u.keep b o e n (λz=>(ú.mp (I.p71 b z)).elim hL hb) hc) (λb o _ _ hc e n=>u.any e n hc) (λb o hc e n=>u.free b o e n hc) (λb o hc e=>u.there b o e hc) u.tups u.frzs u.tbls (λm' hm=>by
  obtain⟨o',es',ep',ho',r'⟩:=hm;rw[ho] at ho';cases ho';exact⟨_,es',ep',hL,r'⟩) hok hg
theorem Inv.turned{t':Nat}{it:Ç}(I:Inv X pins σ H s)(k:∀ b o,b≠it->s.heap.get? b=some o->h'.get? b=some o)(hn:H it=none)(hL:it≠X.env.locals)
  (h1:it∈X.ex∨X.s₀.heap.objs.size<=it) (h2:∀ x c,X.env.cells.lookup x=some c->c≠it) (h3:∀ p∈X.pn++pins,p.1≠it):Inv X pins σ H { s with heap:=h',toks:=t' }:=by
 have nit:∀ b u,H b=some u->b≠it:=λb u e z=>by rw[z,hn] at e;cases e
 refine I.step (g':=s.gens) (d':=s.drawn) (ch:=[it]) (λb hb=>?_) (λb o _ _ hc e _=>k b o (λz=>hc (by simp[z])) e) (λb o _ _ hc e _=>⟨o.slots,k b o (λz=>hc (by simp[z])) e⟩) (λ_ _ _ _ n=>n)
  (λb o hc e=>⟨o,k b o (λz=>hc (by simp[z])) e⟩) (λ_ _ e=>e) (λ_ _ _ e=>e) (λb ps e=>⟨#[],by rw[e];simp⟩) (λm hm=>?_) (λb u e=>?_) I.bare
 ·have e:b=it:=by simpa using hb
  subst e;exact⟨h1,hL,h2,h3⟩
 ·obtain⟨o,es,ep,ho,r⟩:=hm;exact⟨o,es,ep,k _ o (Â3 hL) ho,r⟩
 ·refine(I.hok b u e).k31 (λc v hc q=>k c v ?_ q) (λ_ q=>q) λ_ _ q=>q;rcases hc with z | z
  ·rw[z];exact nit b u e
  ·exact nit c _ z
theorem Inv.tok(I:Inv X pins σ H s)(t:Nat):Inv X pins σ H { s with toks:=t }:=I.un (h':=s.heap) (t':=t) Un.refl I.hok
theorem Inv.kept{t':Nat}(I:Inv X pins σ H s)(k:∀ b u,s.heap.get? b=some u->h'.get? b=some u):Inv X pins σ H { s with heap:=h',toks:=t' }:=I.un (Un.kept k) (I.hok.kept k)
theorem Inv.laid{a:Ç}{o:HO}{t':Nat}(I:Inv X pins σ H s)(k:∀ b u,s.heap.get? b=some u->h'.get? b=some u)(hp:s.heap.objs.size<=a)(new:g90 X.prog X.w (upd H a o) h' a o) :
  Inv X pins σ (upd H a o) { s with heap:=h',toks:=t' }:=I.un (Un.laid k hp (I.hok.fresh hp)) (I.hok.laid k hp new)
theorem Inv.write{x e:Ç}{o:HO}{t':Nat}(I:Inv X pins σ H s)(mu:Mut (H x))(he:e=x∨H e=some (.own x))(k:∀ b u,b≠e->s.heap.get? b=some u->h'.get? b=some u)(heo:∃ u,h'.get? e=some u)
  (new:g90 X.prog X.w (upd H x o) h' x o):Inv X pins σ (upd H x o) { s with heap:=h',toks:=t' }:=I.un (Un.write mu he k heo) (I.hok.write mu he k heo new)
theorem Inv.B60{pins':List (Ç × Obj)}(I:Inv X pins σ H s)(h:∀ p∈pins',s.heap.get? p.1=some p.2/\H p.1=none/\p.1≠X.env.locals/\p.1 ∉ X.fs/\∀ v,p.2.data≠.cell v):Inv X pins' σ H s :=
 ⟨I.ok,I.os,I.bare,I.base,I.loc,I.cell,I.free,I.freeC,λp hp=>(Ã6.mp hp).elim (λz=>I.pin p (Æ5 _ z)) (h p),I.hok,I.len⟩
theorem d41{N:List Str}(hN:N.Nodup){i j:Nat}{x:Str}(a:N[i]?=some x)(b:N[j]?=some x):i=j:=by
 obtain⟨h1,e1⟩:=ß.mp a;obtain⟨h2,e2⟩:=ß.mp b;exact(List.getElem_inj hN).mp (e1.trans e2.symm)
theorem B70{M:Model}{A:ø}{E:Ä->Æ->Prop}{i:Nat}{x:Str}{v:V}{u:Ä}{Q:Unit->Æ->Prop}(I:Inv X pins σ H s)(hN:X.N.Nodup)(hi:X.N[i]?=some x)(hx:Loc X.env.scope x)(r:RelV v u)
  (h:∀ s',Inv X pins (σ.set i (some v)) H s'->(∃ a,Ë9 a s.heap s'.heap/\(a=X.env.locals∨X.env.cells.lookup x=some a))->Q () s') (hf:X.fn x=true∨X.env.scope.names.lookup x=some .local:=by first | exact .inl rfl | exact .inr rfl | assumption):Î M A (storeName X.env x u) Q E s:=by
 obtain⟨m,hn,hl⟩:=id I.loc;have hcls:(X.env.scope.kind == .class || (X.env.scope.kind == .module&&X.env.locals != X.env.globals))=false:=by rw[I.ok.kind];rfl
 have hiσ:i < σ.length:=by rw[I.len];exact(ß.mp hi).1
 have cne:=I.cne;have tracked:∀ {a:Ç}{h':é},(∃ o,s.heap.get? a=some o/\H a=none)->Ë9 a s.heap h'->HOk X.prog X.w H h':=λ{a h'} ha hs b ob e=>by
  obtain⟨_,_,hfree⟩:=ha;refine(I.hok b ob e).k31 (λc w' hc q=>(hs.2 c ?_).trans q) (λ_ q=>q) λ_ _ q=>q;rintro rfl;rcases hc with rfl | hc
  ·rw[hfree] at e;cases e
  ·rw[hfree] at hc;cases hc
 rcases hx with hk | hk
 ·refine wpAny_storeName_local hk hn (λh' hn' hs=>?_) hcls;obtain⟨oL,_,_,hoL,_⟩:=id hn;refine h _ ⟨I.ok,I.os,I.bare,⟨λb o e n hb hx=>?_,λb o e n hb hx=>?_,I.base.free,λb o e hx=>?_,I.base.tups,I.base.frzs,I.base.tbls⟩,⟨_,hn',λj y v' e1 e2 e3=>?_⟩,λy c e=>?_,I.free,I.freeC,λp hp=>?_,tracked ⟨oL,hoL,I.free⟩ hs,by simpa using I.len⟩ ⟨_,hs,.inl rfl⟩
  ·exact(hs.2 b (Ù (Þ (à e) I.ok.above))).trans (I.base.keep b o e n hb hx)
  ·obtain⟨sl,e1⟩:=I.base.slot b o e n hb hx;exact⟨sl,(hs.2 b (Ù (Þ (à e) I.ok.above))).trans e1⟩
  ·obtain⟨o',e1⟩:=I.base.there b o e hx;exact⟨o',(hs.2 b (Ù (Þ (à e) I.ok.above))).trans e1⟩
  ·by_cases hj:j=i
   ·subst hj;rw[hi] at e1;cases e1;rw[ñ hiσ] at e2;cases e2;exact⟨u,r,.inl ⟨hk,by simp⟩⟩
   ·rw[ê (Â3 hj)] at e2;obtain⟨u',r',q⟩:=hl j y v' e1 e2 e3;refine⟨u',r',?_⟩;rcases q with ⟨k,e⟩ | ⟨k,c,e,z⟩
    ·refine .inl ⟨k,?_⟩;have:y≠x:=λe=>hj (d41 hN e1 (e ▸ hi));simp[this,e]
    ·exact .inr ⟨k,c,e,z.sameBut hs (cne y c e)⟩
  ·obtain⟨w',z⟩:=I.cell y c e;exact⟨w',z.sameBut hs (cne y c e)⟩
  ·obtain⟨e,n,ne,nf,d⟩:=I.pin p hp;exact⟨(hs.2 p.1 ne).trans e,n,ne,nf,d⟩
 ·have hfn:X.fn x=true:=by
   rcases hf with z | z
   ·exact z
   ·rw[z] at hk;cases hk
  obtain⟨c,hc⟩:=I.ok.has x (.inl hk);obtain⟨w',z⟩:=I.cell x c hc;refine wpAny_storeName_cell I.ok.kind hk hc z (λh' hc' hs=>?_);obtain⟨oc,hoc,hocd⟩:=id z;refine h { s with heap:=h' } ⟨I.ok,I.os,I.bare,⟨λb o e n hb hx=>?_,λb o e n hb hx=>?_,I.base.free,λb o e hx=>?_,I.base.tups,I.base.frzs,I.base.tbls⟩,⟨m,hn.sameBut hs (Â3 (cne x c hc)),λj y v' e1 e2 e3=>?_⟩,λy c' e=>?_,I.free,I.freeC,λp hp=>?_,tracked ⟨oc,hoc,I.freeC x c hc⟩ hs,by simpa using I.len⟩ ⟨c,hs,.inr hc⟩
  ·exact(hs.2 b (Ù (Þ (à e) (I.ok.cab x c hfn hc)))).trans (I.base.keep b o e n hb hx)
  ·obtain⟨sl,e1⟩:=I.base.slot b o e n hb hx;exact⟨sl,(hs.2 b (Ù (Þ (à e) (I.ok.cab x c hfn hc)))).trans e1⟩
  ·obtain⟨o',e1⟩:=I.base.there b o e hx;exact⟨o',(hs.2 b (Ù (Þ (à e) (I.ok.cab x c hfn hc)))).trans e1⟩
  ·by_cases hj:j=i
   ·subst hj;rw[hi] at e1;cases e1;rw[ñ hiσ] at e2;cases e2;exact⟨u,r,.inr ⟨.inl hk,c,hc,hc'⟩⟩
   ·rw[ê (Â3 hj)] at e2;obtain⟨u',r',q⟩:=hl j y v' e1 e2 e3;refine⟨u',r',?_⟩;rcases q with q | ⟨k,c',e,z'⟩
    ·exact .inl q
    ·refine .inr ⟨k,c',e,z'.sameBut hs ?_⟩;rintro rfl;exact hj (d41 hN e1 (I.ok.inj _ _ _ e hc ▸ hi))
  ·by_cases hcc:c'=c
   ·subst hcc;exact⟨_,hc'⟩
   ·obtain⟨w2,z2⟩:=I.cell y c' e;exact⟨w2,z2.sameBut hs hcc⟩
  ·obtain⟨e,n,ne,nf,d⟩:=I.pin p hp;refine⟨(hs.2 p.1 ?_).trans e,n,ne,nf,d⟩;intro q;rw[q,hoc] at e;have q':oc=p.2:=À7 e;exact d w' (by rw[← q'];exact hocd)
theorem t50{M:Model}{A:ø}{E:Ä->Æ->Prop}{i:Nat}{x:Str}{v:V}{u:Ä}{Q:Unit->Æ->Prop}(I:Inv X pins σ H s)(hN:X.N.Nodup)(hi:X.N[i]?=some x)(hx:Loc X.env.scope x)(r:RelV v u)
  (h:∀ s',Inv X pins (σ.set i (some v)) H s'->Q () s') (hf:X.fn x=true∨X.env.scope.names.lookup x=some .local:=by first | exact .inl rfl | exact .inr rfl | assumption):Î M A (storeName X.env x u) Q E s :=
 B70 I hN hi hx r (λs' I' _=>h s' I') hf
theorem Inv.k92{s':Æ}{ch:List Ç}(I:Inv X pins σ H s)(ho:s'.os=s.os)(u:Un (frs X.stack) ch H H' s.heap s'.heap)(hok:HOk X.prog X.w H' s'.heap)(hg:Ó4 s'.gens)
  (hch:∀ b∈ch,(b∈X.ex∨X.s₀.heap.objs.size<=b)/\b≠X.env.locals/\(∀ x c,X.env.cells.lookup x=some c->c≠b)/\∀ p∈X.pn++pins,p.1≠b):Inv X pins σ H' s':=by
 obtain⟨h',g',d',t',o'⟩:=s';have e:o'=s.os:=ho;subst e;exact I.call (g':=g') (t':=t') (d':=d') u hok hg hch
end
abbrev XK:=Ä->Option Ç->Hp->Prop
abbrev St:=List (Option V)
abbrev VK:=V->Hp->Prop
abbrev TE:=St->Hp->VK->Prop
abbrev TT:=St->Hp->(Bool->Hp->Prop)->Prop
abbrev TA:=St->Hp->(List V->Hp->Prop)->Prop
structure Ends where
 nx:St->Hp->Prop
 rt:VK
 bk:St->Hp->Prop:=λ_ _=>False
 ct:St->Hp->Prop:=λ_ _=>False
abbrev TS:=Ends->St->Hp->Prop
def EP(X:Cx)(pins:List (Ç × Obj))(σ:St)(Q:VK)(u:Ä)(s':Æ):Prop:=∃ v H',Inv X pins σ H' s'/\RelV v u/\Q v H'
def TP(X:Cx)(pins:List (Ç × Obj))(σ:St)(Q:Bool->Hp->Prop)(b:Bool)(s':Æ):Prop:=∃ H',Inv X pins σ H' s'/\Q b H'
def AP(X:Cx)(pins:List (Ç × Obj))(σ:St)(Q:List V->Hp->Prop)(us:List Ä)(s':Æ):Prop:=∃ vs H',Inv X pins σ H' s'/\Vals vs us/\Q vs H'
def SP(X:Cx)(pins:List (Ç × Obj))(D:Ends)(f:Flow)(s':Æ):Prop :=
 match f with
 |.next=>∃ σ' H',Inv X pins σ' H' s'/\D.nx σ' H'
 |.brk=>∃ σ' H',Inv X pins σ' H' s'/\D.bk σ' H'|.cont=>∃ σ' H',Inv X pins σ' H' s'/\D.ct σ' H'|.ret u=>∃ v σ' H',Inv X pins σ' H' s'/\RelV v u/\D.rt v H'
def PE(X:Cx)(e:Ï)(t:TE):Prop :=
 ∀ (pins:List (Ç × Obj)) (s:Æ) (σ:St) (H:Hp) (Q:VK),Inv X pins σ H s->t σ H Q->Î (Ô X.prog X.w) X.A (eval e X.env) (EP X pins σ Q) X.xe s
def PT(X:Cx)(e:Ï)(t:TT):Prop :=
 ∀ (pins:List (Ç × Obj)) (s:Æ) (σ:St) (H:Hp) (Q:Bool->Hp->Prop),Inv X pins σ H s->t σ H Q->Î (Ô X.prog X.w) X.A (isTrue e X.env (eval e X.env)) (TP X pins σ Q) X.xe s
def PW(X:Cx)(e:Ï)(t:TT):Prop :=
 ∀ (whole:Sem Ä) (pins:List (Ç × Obj)) (s:Æ) (σ:St) (H:Hp) (Q:Bool->Hp->Prop),Inv X pins σ H s->t σ H Q->Î (Ô X.prog X.w) X.A (isTrue e X.env whole) (TP X pins σ Q) X.xe s
theorem PW.pt{X:Cx}{e:Ï}{t:TT}(h:PW X e t):PT X e t:=h _
def PA(X:Cx)(es:List Ï)(t:TA):Prop :=
 ∀ (pos:Pos) (pins:List (Ç × Obj)) (s:Æ) (σ:St) (H:Hp) (Q:List V->Hp->Prop),Inv X pins σ H s->t σ H Q->Î (Ô X.prog X.w) X.A (spliced (Õ8 pos (þ es X.env))) (AP X pins σ Q) X.xe s
def PS(X:Cx)(st:Ä8)(t:TS):Prop :=
 ∀ (pins:List (Ç × Obj)) (s:Æ) (σ:St) (H:Hp) (D:Ends),Inv X pins σ H s->t D σ H->Î (Ô X.prog X.w) X.A (exec st X.env) (SP X pins D) X.xe s
def PSs(X:Cx)(st:List Ä8)(t:TS):Prop :=
 ∀ (pins:List (Ç × Obj)) (s:Æ) (σ:St) (H:Hp) (D:Ends),Inv X pins σ H s->t D σ H->Î (Ô X.prog X.w) X.A (execs st X.env) (SP X pins D) X.xe s
theorem thn{α:Type}{t:Sem α}{Q Q':α->Æ->Prop}{M:Model}{A:ø}{E:Ä->Æ->Prop}{s:Æ}(h:Î M A t Q E s)(hQ:∀ a s,Q a s->Q' a s):Î M A t Q' E s:=Â1 h hQ λ_ _ x=>x
section
variable {X:Cx}
def A72(i:Nat):TE:=λσ H Q=>∃ v,σ[i]?=some (some v)/\Q v H
def tC(v:V):TE:=λ_ H Q=>Q v H
theorem t60{i:Nat}{x:Str}{pos:Pos}(hN:X.N[i]?=some x)(hv:Vis X.env.scope x)(hd:(x == ("__debug__":Str))=false:=by decide)(hcd:(x == ("__classdict__":Str))=false:=by decide):PE X (.Name x pos) (A72 i):=by
 intro pins s σ H Q I h;obtain⟨v,e,h⟩:=h;obtain⟨m,hn,hl⟩:=I.loc;obtain⟨u,r,l⟩:=hl i x v hN e hv;have fin:EP X pins σ Q u s:=⟨v,H,I,r,h⟩;rcases l with ⟨hk,hm⟩ | ⟨hk,c,hc,hcell⟩
 ·exact Ñ0 (Î7 I.ok.kind hk hn hm fin) hd
 ·rcases hk with hk | hk
  ·exact Ñ0 (Ú3 I.ok.kind hk hc hcell fin) hd
  ·exact Ñ0 (wpAny_loadName_free I.ok.kind hk hc hcell fin hcd) hd
theorem P10{i j pos}:PE X (.Constant (.int i) j pos) (tC (.int i)):=λ_ _ _ H _ I h=>wpAny_Constant_int ⟨.int i,H,I.tok _,⟨_,rfl⟩,h⟩
theorem A82{b j pos}:PE X (.Constant (.bool b) j pos) (tC (.bl b)):=λ_ _ _ H _ I h=>Constant_bool ⟨.bl b,H,I,rfl,h⟩
theorem p81{j pos}:PE X (.Constant .none j pos) (tC .non):=λ_ _ _ H _ I h=>Constant_none ⟨.non,H,I,rfl,h⟩
theorem R51{x j pos}:PE X (.Constant (.str x) j pos) (tC (.str x)):=λ_ _ _ H _ I h=>Calls.Constant_str ⟨.str x,H,I.tok _,⟨_,rfl⟩,h⟩
def Gl(X:Cx)(x:Str):Prop:=X.env.kindOf x=some .globalImplicit
theorem I60{E:Ä->Æ->Prop}{pins:List (Ç × Obj)}{s:Æ}{σ:St}{H:Hp}{x:Str}{u:Ä}{pos:Pos}{Q:Ä->Æ->Prop}(I:Inv X pins σ H s)(hg:Gl X x)(hm:X.mg x=some u)(h:Q u s)
  (hd:(x == ("__debug__":Str))=false:=by decide):Î (Ô X.prog X.w) X.A (eval (.Name x pos) X.env) Q E s :=
 Ï3 I.ok.kind hg (ß8 (by rw[I.ok.glob];exact I.mod.glob.keeps I.bk) hm h) hd
theorem t70{E:Ä->Æ->Prop}{pins:List (Ç × Obj)}{s:Æ}{σ:St}{H:Hp}{x:Str}{u:Ä}{pos:Pos}{Q:Ä->Æ->Prop}(I:Inv X pins σ H s)(hg:Gl X x)(hm:X.mg x=none)(hv:ï x=some u)(h:Q u s)
  (hn:x≠"__name__":=by decide) (hd:(x == ("__debug__":Str))=false:=by decide):Î (Ô X.prog X.w) X.A (eval (.Name x pos) X.env) Q E s:=by
 obtain⟨mb,h1,h2⟩:=I.mod.blt;exact Ï3 I.ok.kind hg (Calls.loadGlobal_builtin (by rw[I.ok.glob];exact I.mod.glob.keeps I.bk) hm (by rw[I.ok.blt];exact h1.keeps I.bk) ((h2 x hn).trans hv) h) hd
theorem f40{x:Str}{v:V}{u:Ä}{pos:Pos}(hg:Gl X x)(hm:X.mg x=some u)(r:RelV v u)(hd:(x == ("__debug__":Str))=false:=by decide):PE X (.Name x pos) (tC v) :=
 λ_ _ _ H _ I h=>I60 I hg hm ⟨v,H,I,r,h⟩ hd
theorem I70{x:Str}{v:V}{u:Ä}{pos:Pos}(hg:Gl X x)(hm:X.mg x=none)(hv:ï x=some u)(r:RelV v u)(hn:x≠"__name__":=by decide)(hd:(x == ("__debug__":Str))=false:=by decide):PE X (.Name x pos) (tC v) :=
 λ_ _ _ H _ I h=>t70 I hg hm hv ⟨v,H,I,r,h⟩ hn hd
variable {a b:Ï}{ta tb:TE}{pos:Pos}
def tB(t:TE):TT:=λσ H Q=>t σ H λx H1=>∃ c,x=.bl c/\Q c H1
theorem p91{e:Ï}{t:TE}(h:PE X e t)(he:∀ whole,isTrue e X.env whole=(do let v ← whole;standAt e.pos;Ù5 [v] (truthy v)):=by intro _;rfl):PT X e (tB t):=by
 intro pins s σ H Q I hw;refine isTrue_plain (thn (h pins s σ H _ I hw) λv s1 ⟨x,H1,I1,r1,q1⟩=>?_) (he _);obtain⟨d,rfl,q⟩:=q1;cases r1;exact Â6 ⟨H1,I1,q⟩
variable {tA tB':TT}{rest:List Ï}
def P32(t u:TT):TT:=λσ H Q=>t σ H λc H1=>if c=true then u σ H1 Q else Q false H1
def tOr(t u:TT):TT:=λσ H Q=>t σ H λc H1=>if c=true then Q true H1 else u σ H1 Q
def P42(t:TT):TT:=λσ H Q=>t σ H λc H1=>Q (!c) H1
theorem W71(ha:PT X a tA):PW X (.BoolOp .And [a] pos) tA:=by
 intro wh pins s σ H Q I h;refine isTrue_and (thn (ha pins s σ H Q I h) λc s1 e=>?_);cases c with
 |true=>exact isTrue_and_nil e|false=>exact e
theorem l02(ha:PT X a tA):PW X (.BoolOp .Or [a] pos) tA:=by
 intro wh pins s σ H Q I h;refine isTrue_or (thn (ha pins s σ H Q I h) λc s1 e=>?_);cases c with
 |false=>exact isTrue_or_nil e|true=>exact e
theorem l12(ha:PT X a tA)(hb:PW X (.BoolOp .And (b::rest) pos) tB'):PW X (.BoolOp .And (a::b::rest) pos) (P32 tA tB'):=by
 intro wh pins s σ H Q I h;refine isTrue_and (thn (ha pins s σ H _ I h) λc s1 ⟨H1,I1,q1⟩=>?_);cases c with
 |true=>exact hb wh pins s1 σ H1 Q I1 q1|false=>exact⟨H1,I1,q1⟩
theorem A92(ha:PT X a tA)(hb:PW X (.BoolOp .Or (b::rest) pos) tB'):PW X (.BoolOp .Or (a::b::rest) pos) (tOr tA tB'):=by
 intro wh pins s σ H Q I h;refine isTrue_or (thn (ha pins s σ H _ I h) λc s1 ⟨H1,I1,q1⟩=>?_);cases c with
 |true=>exact⟨H1,I1,q1⟩|false=>exact hb wh pins s1 σ H1 Q I1 q1
theorem R61(ha:PT X a tA):PT X (.UnaryOp .Not a pos) (P42 tA):=by
 intro pins s σ H Q I h;exact isTrue_not (ha pins s σ H (λc H1=>Q (!c) H1) I h)
def B02(ta tb:TE):TE:=λσ H Q=>ta σ H λx H1=>∃ c,x=.bl c/\if c=true then tb σ H1 Q else Q (.bl false) H1
def P52(ta tb:TE):TE:=λσ H Q=>ta σ H λx H1=>∃ c,x=.bl c/\if c=true then Q (.bl true) H1 else tb σ H1 Q
def B12(ta:TE):TE:=λσ H Q=>ta σ H λx H1=>∃ c,x=.bl c/\Q (.bl (!c)) H1
theorem l22{op}{t:TE}(h:PE X a t):PE X (.BoolOp op [a] pos) t:=λpins s σ H Q I hw=>BoolOp_one (h pins s σ H Q I hw)
theorem l32(ha:PE X a ta)(hb:PE X (.BoolOp .And (b::rest) pos) tb):PE X (.BoolOp .And (a::b::rest) pos) (B02 ta tb):=by
 intro pins s σ H Q I h;refine BoolOp_and (thn (ha pins s σ H _ I h) λv s1 ⟨x,H1,I1,r1,q1⟩=>?_);obtain⟨c,rfl,q1⟩:=q1;cases r1;refine Â6 ?_;cases c with
 |true=>exact hb pins s1 σ H1 Q I1 q1|false=>exact⟨.bl false,H1,I1,rfl,q1⟩
theorem B22(ha:PE X a ta)(hb:PE X (.BoolOp .Or (b::rest) pos) tb):PE X (.BoolOp .Or (a::b::rest) pos) (P52 ta tb):=by
 intro pins s σ H Q I h;refine BoolOp_or (thn (ha pins s σ H _ I h) λv s1 ⟨x,H1,I1,r1,q1⟩=>?_);obtain⟨c,rfl,q1⟩:=q1;cases r1;refine Â6 ?_;cases c with
 |false=>exact hb pins s1 σ H1 Q I1 q1|true=>exact⟨.bl true,H1,I1,rfl,q1⟩
theorem l42(ha:PE X a ta):PE X (.UnaryOp .Not a pos) (B12 ta):=by
 intro pins s σ H Q I h;refine UnaryOp_ (thn (ha pins s σ H _ I h) λv s1 ⟨x,H1,I1,r1,q1⟩=>?_);obtain⟨c,rfl,q1⟩:=q1;cases r1;exact not_of (Â6 ⟨.bl (!c),H1,I1,rfl,q1⟩)
def tIf(t:TT)(ta tb:TE):TE:=λσ H Q=>t σ H λc H1=>if c=true then ta σ H1 Q else tb σ H1 Q
theorem G71{c:Ï}(hc:PT X c tA)(ha:PE X a ta)(hb:PE X b tb):PE X (.IfExp c a b pos) (tIf tA ta tb):=by
 intro pins s σ H Q I h;refine wpAny_IfExp (thn (hc pins s σ H _ I h) λd s1 ⟨H1,I1,q1⟩=>?_);cases d with
 |true=>exact ha pins s1 σ H1 Q I1 q1|false=>exact hb pins s1 σ H1 Q I1 q1
end
def SqL(K:Â)(H:Hp)(a:Ç)(xs:List V):Prop :=
 Rd H a (.lst xs) ∨
  ∃ (o:Obj) (its:Array Ä) (n:Nat),K.lookup a=some o/\o.cls=.type "list"/\o.dict=none/\o.data=.seq its n/\its.size<=Ú/\Vals xs its.toList
def SqT(K:Â)(H:Hp)(a:Ç)(xs:List V):Prop :=
 Rd H a (.tup xs) ∨
  ∃ (o:Obj) (its:Array Ä) (n:Nat),K.lookup a=some o/\o.cls=.type "tuple"/\o.data=.seq its n/\its.size<=Ú/\Vals xs its.toList
def P62:Ä->Option V
 |.none=>some .non|.bool b=>some (.bl b)|.int i _=>some (.int i)|.str x _=>some (.str x)|.bytes b _=>some (.byt b)|.float b _=>some (.flt b)|.ref a=>some (.ref a)|.type n=>some (.ty n)|_=>none
theorem RelV.abs{x:V}{u:Ä}(r:RelV x u):P62 u=some x:=by
 cases x with
 |non=>cases r;rfl
 |bl _=>cases r;rfl
 |int _=>obtain⟨t,rfl⟩:=r;rfl
 |str _=>obtain⟨t,rfl⟩:=r;rfl
 |byt _=>obtain⟨t,rfl⟩:=r;rfl
 |flt _=>obtain⟨t,rfl⟩:=r;rfl
 |ref _=>cases r;rfl
 |ty _=>cases r;rfl
theorem RelV.inj{x y:V}{u:Ä}(r:RelV x u)(q:RelV y u):x=y:=À7 (r.abs.symm.trans q.abs)
theorem Vals.inj:∀ {xs ys:List V}{us:List Ä},Vals xs us->Vals ys us->xs=ys
 |_,_,_,.nil,.nil=>rfl|_,_,_,.cons r t,.cons r' t'=>by rw[r.inj r',Vals.inj t t']
section
variable {X:Cx}{pins:List (Ç × Obj)}{σ:St}{H:Hp}{s:Æ}{a:Ç}{xs ys:List V}
theorem SqL.of{K:Â}(h:H a=some (.lst xs)):SqL K H a xs:=.inl (.inl h)
theorem SqT.of{K:Â}(h:H a=some (.tup xs)):SqT K H a xs:=.inl (.inl h)
theorem Inv.list(I:Inv X pins σ H s)(h:SqL X.K H a xs):∃ its:List Ä,Vals xs its/\PlainL s.heap a its.toArray/\xs.length<=sizeLine:=by
 rcases h with h | ⟨o,its,n,hk,hc,hd,hs,hz,r⟩
 ·obtain⟨z,its,n,r,e⟩:=h.ok I.hok;exact⟨its,r,⟨_,n,e,rfl,rfl,rfl⟩,z⟩
 ·refine⟨its.toList,r,⟨o,n,I.kIn a o hk,hc,hd,by simpa using hs⟩,?_⟩
  have e:=r.length;simp only[Ê7] at e;omega
theorem Inv.tuple(I:Inv X pins σ H s)(h:SqT X.K H a xs):∃ its:List Ä,Vals xs its/\Ï2 s.heap a its.toArray/\xs.length<=sizeLine:=by
 rcases h with h | ⟨o,its,n,hk,hc,hs,hz,r⟩
 ·obtain⟨z,its,r,p⟩:=h.ok I.hok;exact⟨its,r,p,z⟩
 ·refine⟨its.toList,r,⟨o,I.kIn a o hk,hc,n,by simpa using hs⟩,?_⟩
  have e:=r.length;simp only[Ê7] at e;omega
theorem Inv.d51(I:Inv X pins σ H s)(h:SqL X.K H a xs)(h':SqL X.K H a ys):xs=ys:=by
 obtain⟨its,r,⟨o,n,e,_,_,d⟩,_⟩:=I.list h;obtain⟨its',r',⟨o',n',e',_,_,d'⟩,_⟩:=I.list h';rw[e] at e';cases e';rw[d] at d';injection d' with d1 _;have:its=its':=by simpa using congrArg toList d1
 subst this;exact r.inj r'
theorem Inv.P20(I:Inv X pins σ H s)(h:SqT X.K H a xs)(h':SqT X.K H a ys):xs=ys:=by
 obtain⟨its,r,⟨o,e,_,n,d⟩,_⟩:=I.tuple h;obtain⟨its',r',⟨o',e',_,n',d'⟩,_⟩:=I.tuple h';rw[e] at e';cases e';rw[d] at d';injection d' with d1 _;have:its=its':=by simpa using congrArg toList d1
 subst this;exact r.inj r'
end
abbrev Cx.G21(X:Cx)(E:Ä->Æ->Prop):Cx:={ X with xe:=E }
abbrev Cx.nox(X:Cx):Cx:=X.G21 λ_ _=>False
theorem Cx.Ok.G21{X:Cx}(ok:X.Ok)(E:Ä->Æ->Prop):(X.G21 E).Ok :=
 ⟨ok.mod,ok.kind,ok.glob,ok.blt,ok.above,ok.inj,ok.has,ok.cab,ok.hd,ok.frames,ok.stk,ok.exf,ok.bs,ok.bsz,ok.noex,ok.exfs,ok.k41,ok.frf⟩
theorem Cx.Ok.y00{X:Cx}{E:Ä->Æ->Prop}(ok:(X.G21 E).Ok):X.Ok :=
 ⟨ok.mod,ok.kind,ok.glob,ok.blt,ok.above,ok.inj,ok.has,ok.cab,ok.hd,ok.frames,ok.stk,ok.exf,ok.bs,ok.bsz,ok.noex,ok.exfs,ok.k41,ok.frf⟩
section
variable {X:Cx}{pins:List (Ç × Obj)}{σ:St}{H:Hp}{s:Æ}{E:Ä->Æ->Prop}
theorem Inv.G21(I:Inv X pins σ H s)(E:Ä->Æ->Prop):Inv (X.G21 E) pins σ H s:=⟨I.ok.G21 E,I.os,I.bare,I.base,I.loc,I.cell,I.free,I.freeC,I.pin,I.hok,I.len⟩
theorem Inv.y00(I:Inv (X.G21 E) pins σ H s):Inv X pins σ H s:=⟨I.ok.y00,I.os,I.bare,I.base,I.loc,I.cell,I.free,I.freeC,I.pin,I.hok,I.len⟩
theorem SP.y00{D:Ends}{f:Flow}{s':Æ}(h:SP (X.G21 E) pins D f s'):SP X pins D f s':=by
 cases f with
 |next=>obtain⟨σ',H',I,q⟩:=h;exact⟨σ',H',I.y00,q⟩
 |brk=>obtain⟨σ',H',I,q⟩:=h;exact⟨σ',H',I.y00,q⟩
 |cont=>obtain⟨σ',H',I,q⟩:=h;exact⟨σ',H',I.y00,q⟩
 |ret u=>obtain⟨v,σ',H',I,r,q⟩:=h;exact⟨v,σ',H',I.y00,r,q⟩
theorem PSs.nox{st:List Ä8}{t:TS}(h:PSs X.nox st t):PSs X st t:=λpins s σ H D I hw =>
 Â1 (h pins s σ H D (I.G21 _) hw) (λ_ _ q=>q.y00) λ_ _ z=>À2 z
end
section
variable {X:Cx}{st:Ä8}{rest:List Ä8}{t u:TS}{e:Ï}{te:TE}{pos:Pos}
def B32:TS:=λD σ H=>D.nx σ H
def P72(t u:TS):TS:=λD σ H=>t { D with nx:=u D } σ H
theorem q01:PSs X [] B32:=λ_ _ σ H _ I h=>Ï4 ⟨σ,H,I,h⟩
theorem j40(h1:PS X st t)(h2:PSs X rest u):PSs X (st::rest) (P72 t u):=by
 intro pins s σ H D I h;refine Ô7 (thn (h1 pins s σ H { D with nx:=u D } I h) λf s1 q=>?_);cases f with
 |next =>
  obtain⟨σ',H',I',q⟩:=q;exact h2 pins s1 σ' H' D I' q
 |ret v=>exact q|brk=>exact q|cont=>exact q
theorem q11(h1:PS X st t):PSs X [st] t:=by
 intro pins s σ H D I h;refine Ô7 (thn (h1 pins s σ H D I h) λf s1 q=>?_);cases f with
 |next=>exact Ï4 q
 |ret v=>exact q|brk=>exact q|cont=>exact q
theorem Inv.quiet{pins:List (Ç × Obj)}{σ:St}{H:Hp}{s:Æ}(I:Inv X pins σ H s):interactive X.env=false:=by simp[interactive,I.ok.kind]
def B42(te:TE):TS:=λD σ H=>te σ H λ_ H1=>D.nx σ H1
theorem q21(he:PE X e te)(hs:Ô8 e none pos.line X.env=pure false:=by rfl):PS X (.Expr e pos) (B42 te):=by
 intro pins s σ H D I h;exact wpAny_Expr_any (thn (he pins s σ H _ I h) λv s1 ⟨x,H1,I1,r1,q1⟩=>⟨σ,H1,I1,q1⟩) I.quiet hs
def P82(te:TE):TS:=λD σ H=>te σ H D.rt
theorem d61(he:PE X e te):PS X (.Return (some e) pos) (P82 te):=by
 intro pins s σ H D I h;exact wpAny_Return_some (thn (he pins s σ H _ I h) λv s1 ⟨x,H1,I1,r1,q1⟩=>⟨x,σ,H1,I1,r1,q1⟩)
def B52:TS:=λD _ H=>D.rt .non H
theorem W81:PS X (.Return none pos) B52:=λ_ _ σ H _ I h=>wpAny_Return_none ⟨.non,σ,H,I,rfl,h⟩
def P92(c:TT)(t u:TS):TS:=λD σ H=>c σ H λb H1=>if b=true then t D σ H1 else u D σ H1
theorem l52{c:Ï}{a b:List Ä8}{tc:TT}(hc:PT X c tc)(ha:PSs X a t)(hb:PSs X b u):PS X (.If c a b pos) (P92 tc t u):=by
 intro pins s σ H D I h;refine wpAny_If (thn (hc pins s σ H _ I h) λd s1 ⟨H1,I1,q1⟩=>?_);cases d with
 |true=>exact ha pins s1 σ H1 D I1 q1|false=>exact hb pins s1 σ H1 D I1 q1
end
abbrev TG:=V->St->Hp->(St->Hp->Prop)->Prop
abbrev TGs:=List V->St->Hp->(St->Hp->Prop)->Prop
def PG(X:Cx)(target:Ï)(t:TG):Prop :=
 ∀ (pins:List (Ç × Obj)) (s:Æ) (σ:St) (H:Hp) (v:V) (u:Ä) (Q:St->Hp->Prop),Inv X pins σ H s->RelV v u->t v σ H Q ->
  Î (Ô X.prog X.w) X.A (Ù1 target X.env u) (λ_ s'=>∃ σ' H',Inv X pins σ' H' s'/\Q σ' H') X.xe s
def PGs(X:Cx)(ts:List Ï)(t:TGs):Prop :=
 ∀ (pins:List (Ç × Obj)) (s:Æ) (σ:St) (H:Hp) (vs:List V) (us:List Ä) (Q:St->Hp->Prop),Inv X pins σ H s->Vals vs us->t vs σ H Q ->
  Î (Ô X.prog X.w) X.A (assignInOrder ((Ê1 ts X.env).map (·.2)) us) (λ_ s'=>∃ σ' H',Inv X pins σ' H' s'/\Q σ' H') X.xe s
abbrev l62:=V->V->V->Hp->(Hp->Prop)->Prop
def B62(X:Cx)(t:l62):Prop :=
 ∀ (pins:List (Ç × Obj)) (s:Æ) (σ:St) (H:Hp) (o i v:V) (ov iv u:Ä) (Q:Hp->Prop),Inv X pins σ H s->RelV o ov->RelV i iv->RelV v u->t o i v H Q ->
  Î (Ô X.prog X.w) X.A (setItem ov iv u) (λ_ s'=>∃ H',Inv X pins σ H' s'/\Q H') X.xe s
abbrev TIp:=V->V->Hp->VK->Prop
def PIp(X:Cx)(op:Ý4)(t:TIp):Prop :=
 ∀ (pins:List (Ç × Obj)) (s:Æ) (σ:St) (H:Hp) (x y:V) (v u:Ä) (Q:VK),Inv X pins σ H s->RelV x v->RelV y u->t x y H Q ->
  Î (Ô X.prog X.w) X.A (inplaceOp op v u) (EP X pins σ Q) X.xe s
section
variable {X:Cx}{pos:Pos}
def X40(i:Nat):TG:=λv σ H Q=>Q (σ.set i (some v)) H
theorem q31{i:Nat}{x:Str}(hN:X.N.Nodup)(hi:X.N[i]?=some x)(hx:Loc X.env.scope x)(hf:X.fn x=true∨X.env.scope.names.lookup x=some .local:=by first | exact .inl rfl | exact .inr rfl | assumption):PG X (.Name x pos) (X40 i):=by
 intro pins s σ H v u Q I r h;exact wpAny_assign_Name (t50 I hN hi hx r (λs' I'=>⟨_,H,I',h⟩) hf)
def M22:TGs:=λvs σ H Q=>vs=[]/\Q σ H
def l72(t:TG)(u:TGs):TGs:=λvs σ H Q=>∃ v r,vs=v::r/\t v σ H λσ' H'=>u r σ' H' Q
theorem W91:PGs X [] M22:=by
 intro pins s σ H vs us Q I r h;obtain⟨e,h⟩:=h;subst e;cases r;exact assignInOrder_nil ⟨σ,H,I,h⟩
theorem G81{e:Ï}{es:List Ï}{t:TG}{u:TGs}(h1:PG X e t)(h2:PGs X es u)
  (hs:(Ê1 (e::es) X.env).map (·.2)=Ù1 e X.env::(Ê1 es X.env).map (·.2):=by rfl):PGs X (e::es) (l72 t u):=by
 intro pins s σ H vs us Q I r h;obtain⟨v,vr,e1,h⟩:=h;subst e1;cases r with
 |cons r rr =>
  rw[hs];refine Ü1 (thn (h1 pins s σ H _ _ _ I r h) λ_ s1 ⟨σ1,H1,I1,q1⟩=>?_);exact h2 pins s1 σ1 H1 _ _ Q I1 rr q1
def M32(K:Â)(n:Nat)(t:TGs):TG:=λv σ H Q=>∃ a xs,v=.ref a/\SqT K H a xs/\xs.length=n/\t xs σ H Q
theorem l82{es:List Ï}{k:Nat}{t:TGs}{n:Nat}(hc:X.calm=true)(h:PGs X es t)
  (hn:(Ê1 es X.env).length=n:=by rfl) (hst:(Ê1 es X.env).findIdx? (·.1)=none:=by rfl):PG X (.Tuple es k pos) (M32 X.K n t):=by
 intro pins s σ H v u Q I r hw;obtain⟨a,xs,e1,hq,hl,hw⟩:=hw;subst e1;cases r;obtain⟨its,rv,ht,hz⟩:=I.tuple hq;refine assign_Tuple_tuple (I.ok.hd hc) ht (by simp[hn,← hl,rv.length]) hst λh' hx=>?_
 have I1:Inv X pins σ H { s with heap:=h' }:=I.kept (t':=s.toks) λb o e=>hx b o (Ù (à e)) e;exact h pins _ σ H xs _ Q I1 (by simpa using rv) hw
def Q02(to ti:TE)(t:l62):TG:=λv σ H Q=>to σ H λo H1=>ti σ H1 λi H2=>t o i v H2 λH3=>Q σ H3
theorem l92{o i:Ï}{to ti:TE}{t:l62}(ho:PE X o to)(hi:PE X i ti)(hs:B62 X t)
  (ha:∀ v,Ù1 (.Subscript o i pos) X.env v=(do
   let ov ← Ù5 [v] (eval o X.env)
   let iv ← Ù5 [v,ov] (eval i X.env)
   standAt pos
   Ù5 [v,ov,iv] (setItem ov iv v)
   release [v,ov,iv] []):=by intro _;rfl):PG X (.Subscript o i pos) (Q02 to ti t):=by
 intro pins s σ H v u Q I r h;rw[ha];refine À (À8 (thn (ho pins s σ H _ I h) λov s1 ⟨x,H1,I1,r1,q1⟩=>?_));refine À (À8 (thn (hi pins s1 σ H1 _ I1 q1) λiv s2 ⟨y,H2,I2,r2,q2⟩=>?_));refine À (Û2 (À (À8 (thn (hs pins s2 σ H2 x y v ov iv u _ I2 r1 r2 r q2) λ_ s3 ⟨H3,I3,q3⟩=>?_))));exact wpAny_release ⟨σ,H3,I3,q3⟩
def m02(te:TE)(g:TG):TS:=λD σ H=>te σ H λx H1=>g x σ H1 D.nx
theorem R71{tg e:Ï}{te:TE}{g:TG}(he:PE X e te)(hg:PG X tg g)(hs:swapsWithSole [tg] e pos.line X.env=pure false:=by rfl)(hw:Ä6 [tg] e X.env=pure none:=by rfl)
  (h1:(Ê1 [tg] X.env).map (·.2)=[Ù1 tg X.env]:=by rfl):PS X (.Assign [tg] e pos) (m02 te g):=by
 intro pins s σ H D I h;refine wpAny_Assign_stores (thn (he pins s σ H _ I h) λv s1 ⟨x,H1,I1,r1,q1⟩=>?_) hs hw;rw[h1];exact thn (hg pins s1 σ H1 x v _ I1 r1 q1) λ_ s2 q=>q
theorem y10{i:Nat}{x:Str}{e:Ï}{te:TE}{pos':Pos}(hN:X.N.Nodup)(hi:X.N[i]?=some x)(hx:Loc X.env.scope x)(he:PE X e te)(hs:Ô8 e (some (.Name x pos')) pos.line X.env=pure false:=by rfl)(hf:X.fn x=true∨X.env.scope.names.lookup x=some .local:=by first | exact .inl rfl | exact .inr rfl | assumption) :
  PS X (.Assign [.Name x pos'] e pos) (m02 te (X40 i)):=by
 intro pins s σ H D I h;refine wpAny_Assign_Name (thn (he pins s σ H _ I h) λv s1 ⟨y,H1,I1,r1,q1⟩=>?_) hs;exact t50 I1 hN hi hx r1 (λs2 I2=>⟨_,H1,I2,q1⟩) hf
def Q12(i j:Nat)(ta:TA):TS:=λD σ H=>ta σ H λvs H1=>∃ v w,vs=[v,w]/\D.nx ((σ.set i (some v)).set j (some w)) H1
theorem m12{i j:Nat}{x y:Str}{a b:Ï}{ta:TA}{px py pt:Pos}{kt k2 pt2}(hc:X.calm=true)(hN:X.N.Nodup)(hi:X.N[i]?=some x)(hj:X.N[j]?=some y)(hij:i≠j)
  (hx:X.env.scope.names.lookup x=some .local) (hy:X.env.scope.names.lookup y=some .local) (ha:PA X [a,b] ta)
  (hw:Ä6 [.Tuple [.Name x px,.Name y py] kt pt] (.Tuple [a,b] k2 pt2) X.env=pure (some [x,y]))
  (hs:swapsWithSole [.Tuple [.Name x px,.Name y py] kt pt] (.Tuple [a,b] k2 pt2) pos.line X.env=pure false:=by rfl) :
  PS X (.Assign [.Tuple [.Name x px,.Name y py] kt pt] (.Tuple [a,b] k2 pt2) pos) (Q12 i j ta):=by
 intro pins s σ H D I h;rw[exec_Assign_arm];refine À (Û2 ?_);rw[hs];refine À (Å ?_);rw[if_neg (-0)]
 refine À (Tuple_ (thn (ha _ pins s σ H _ I h) λus s1 ⟨vs,H1,I1,r1,q1⟩=>?_));obtain⟨v,w,e1,q1⟩:=q1;subst e1;obtain⟨u1,u2,rfl,rv,rw'⟩:∃ u1 u2,us=[u1,u2]/\RelV v u1/\RelV w u2:=by
  cases r1 with
  |cons p q =>
   cases q with
   |cons p' q' =>
    cases q';exact⟨_,_,rfl,p,p'⟩
 refine å ?_ (by show 2<=Ú;decide)
 have I2:Inv X pins σ H1 { s1 with heap:=s1.heap.push { cls:=.type "tuple",data:=.seq [u1,u2].toArray } }:=I1.kept (t':=s1.toks) λb o e=>Ã _ e;rw[hw];refine À (Å ?_);show Î (Ô X.prog X.w) X.A (do rule "assign.swapped-stores";let items ← unpackItems (.ref s1.heap.objs.size) 2 none;assignInOrder [λv=>bindName X.env y v,λv=>bindName X.env x v] items.reverse;pure Flow.next) _ _ _;refine À (Ê0 (À (unpackItems_tuple (items:=#[u1,u2]) (I.ok.hd hc) (Ï2.new s1.heap _) λh' hx'=>?_)));have I3:=I2.kept (h':=h') (t':=s1.toks) λb o e=>hx' b o (Ù (à e)) e;show Î _ _ (assignInOrder [λv=>bindName X.env y v,λv=>bindName X.env x v] [u2,u1] >>= λ_=>pure Flow.next) _ _ _;refine À (Ü1 (wpAny_bindName (t50 I3 hN hj (.inl hy) rw' (λs2 I4=>?_) (.inr hy))));refine Ü1 (wpAny_bindName (t50 I4 hN hi (.inl hx) rv (λs3 I5=>assignInOrder_nil (Å ?_)) (.inr hx)));rw[List.set_comm _ _ (Â3 hij)] at I5;exact⟨_,H1,I5,q1⟩
def Q22(i:Nat)(te:TE)(ti:TIp):TS:=λD σ H=>∃ x,σ[i]?=some (some x)/\te σ H λy H1=>ti x y H1 λz H2=>D.nx (σ.set i (some z)) H2
theorem M42{i:Nat}{x:Str}{e:Ï}{te:TE}{op:Ý4}{ti:TIp}{pos':Pos}(hN:X.N.Nodup)(hi:X.N[i]?=some x)(hx:Loc X.env.scope x)(he:PE X e te)(ho:PIp X op ti)(hf:X.fn x=true∨X.env.scope.names.lookup x=some .local:=by first | exact .inl rfl | exact .inr rfl | assumption) :
  PS X (.AugAssign (.Name x pos') op e pos) (Q22 i te ti):=by
 intro pins s σ H D I h;obtain⟨v,e1,h⟩:=h;obtain⟨m,hn,hl⟩:=I.loc;have vis:Vis X.env.scope x:=by rcases hx with k | k;exact .inl k;exact .inr (.inl k)
 obtain⟨u,r,l⟩:=hl i x v hi e1 vis;refine wpAny_AugAssign_Name ?_;have go:Î (Ô X.prog X.w) X.A (eval e X.env) (λw s₂=>Î (Ô X.prog X.w) X.A (inplaceOp op u w) (λr s₃=>Î (Ô X.prog X.w) X.A (storeName X.env x r) (λ_=>SP X pins D .next) X.xe s₃) X.xe s₂) X.xe s:=by
  refine thn (he pins s σ H _ I h) λw s1 ⟨y,H1,I1,r1,q1⟩=>?_;refine thn (ho pins s1 σ H1 v y u w _ I1 r r1 q1) λz s2 ⟨zv,H2,I2,r2,q2⟩=>?_;exact t50 I2 hN hi hx r2 (λs3 I3=>⟨_,H2,I3,q2⟩) hf
 rcases l with ⟨hk,hm⟩ | ⟨hk,c,hc,hcell⟩
 ·exact Î7 I.ok.kind hk hn hm go
 ·rcases hk with hk | hk
  ·exact Ú3 I.ok.kind hk hc hcell go
  ·rcases hx with k | k
   ·have:X.env.scope.names.lookup x=some .free:=hk;rw[k] at this;cases this
   ·have:X.env.scope.names.lookup x=some .free:=hk;rw[k] at this;cases this
def B72(to ti te:TE)(tget:V->V->Hp->VK->Prop)(tip:TIp)(tset:l62):TS:=λD σ H=>to σ H λo H1=>ti σ H1 λi H2=>tget o i H2 λx H3=>te σ H3 λy H4=>tip x y H4 λz H5=>tset o i z H5 λH6=>D.nx σ H6
def M52(X:Cx)(t:V->V->Hp->VK->Prop):Prop :=
 ∀ (pins:List (Ç × Obj)) (s:Æ) (σ:St) (H:Hp) (o i:V) (ov iv:Ä) (Q:VK),Inv X pins σ H s->RelV o ov->RelV i iv->t o i H Q ->
  Î (Ô X.prog X.w) X.A (Ó2 ov iv) (EP X pins σ Q) X.xe s
theorem X01{o i e:Ï}{to ti te:TE}{tget:V->V->Hp->VK->Prop}{tip:TIp}{tset:l62}{op:Ý4}{tpos:Pos}(ho:PE X o to)(hi:PE X i ti)(hg:M52 X tget)(he:PE X e te)(hp:PIp X op tip)(hs:B62 X tset)
  (ha:∀ ov iv new,augStore i ov iv new=(do Ù5 [new,ov,iv] (setItem ov iv new);release [new,ov,iv] [];pure .next):=by intros;rfl):PS X (.AugAssign (.Subscript o i tpos) op e pos) (B72 to ti te tget tip tset):=by
 intro pins s σ H D I h;refine wpAny_AugAssign_SubscriptAny (thn (ho pins s σ H _ I h) λov s1 ⟨x1,H1,I1,r1,q1⟩=>?_) ha;refine thn (hi pins s1 σ H1 _ I1 q1) λiv s2 ⟨x2,H2,I2,r2,q2⟩=>?_;refine thn (hg pins s2 σ H2 x1 x2 ov iv _ I2 r1 r2 q2) λold s3 ⟨x3,H3,I3,r3,q3⟩=>?_;refine thn (he pins s3 σ H3 _ I3 q3) λv s4 ⟨x4,H4,I4,r4,q4⟩=>?_;refine thn (hp pins s4 σ H4 x3 x4 old v _ I4 r3 r4 q4) λnew s5 ⟨x5,H5,I5,r5,q5⟩=>?_;exact thn (hs pins s5 σ H5 x1 x2 x5 ov iv new _ I5 r1 r2 r5 q5) λ_ s6 ⟨H6,I6,q6⟩=>⟨σ,H6,I6,q6⟩
def ipI(f:Int->Int->Int):TIp:=λx y H Q=>∃ i j,x=.int i/\y=.int j/\Q (.int (f i j)) H
theorem m22:PIp X .Add (ipI λi j=>i + j):=by
 intro pins s σ H x y v u Q I r1 r2 h;obtain⟨i,j,e1,e2,q⟩:=h;subst e1;subst e2;obtain⟨t,rfl⟩:=r1;obtain⟨t',rfl⟩:=r2;exact iadd_int ⟨.int _,H,I.tok _,⟨_,rfl⟩,q⟩
def m32(c:TT)(tb:TS):TS:=λD σ H=>∃ W:Nat->St->Hp->Prop,(∃ m,W m σ H)/\∀ m σ H,W m σ H ->
 c σ H λb H1=>if b=true then ∃ N:St->Hp->Prop,(∀ σ' H',N σ' H'->∃ m',m' < m/\W m' σ' H')/\tb { D with nx:=N,ct:=N,bk:=D.nx } σ H1 else D.nx σ H1
theorem G91{c:Ï}{body:List Ä8}{tc:TT}{tb:TS}(hp:PassesOwn (Ô X.prog X.w) X.A X.env X.xe)(hc:PT X c tc)(hb:PSs X body tb):PS X (.While c body [] pos) (m32 tc tb):=by
 intro pins s σ H D I h;obtain⟨W,⟨m0,w0⟩,turn⟩:=h;refine wpAny_While (codeAny_whileLoop (λn s'=>∃ σ' H',Inv X pins σ' H' s'/\W n σ' H') ?_ m0 ⟨σ,H,I,w0⟩);rintro n s1 ⟨σ1,H1,I1,w1⟩;refine È6 hp (thn (hc pins s1 σ1 H1 _ I1 (turn n σ1 H1 w1)) λb s2 ⟨H2,I2,q2⟩=>?_);cases b with
 |true =>
  obtain⟨N,hN,q2⟩:=q2;rw[if_pos rfl];refine È6 hp (thn (hb pins s2 σ1 H2 _ I2 q2) λf s3 q3=>?_);cases f with
  |next =>
   obtain⟨σ3,H3,I3,n3⟩:=q3;obtain⟨m',hm,w3⟩:=hN σ3 H3 n3;exact⟨m',hm,σ3,H3,I3,w3⟩
  |cont =>
   obtain⟨σ3,H3,I3,n3⟩:=q3;obtain⟨m',hm,w3⟩:=hN σ3 H3 n3;exact⟨m',hm,σ3,H3,I3,w3⟩
  |brk=>exact q3|ret v=>exact q3
 |false =>
  rw[if_neg Ð];exact Ï4 ⟨σ1,H2,I2,q2⟩
end
structure It where
 go:Nat->Hp->Prop
 yld:Nat->Hp->V->Hp->Prop
 stop:Nat->Hp->Prop
def X50(X:Cx)(pins:List (Ç × Obj))(H:Hp)(b:Ç):Prop :=
 H b=none/\b≠X.env.locals/\b ∉ X.fs/\(b∈X.ex∨X.s₀.heap.objs.size<=b)/\(∀ x c,X.env.cells.lookup x=some c->c≠b)/\∀ p∈X.pn++pins,p.1≠b
theorem Inv.p11{X:Cx}{pins:List (Ç × Obj)}{σ:St}{H H':Hp}{s:Æ}{b:Ç}(I:Inv X pins σ H s)(hb:s.heap.objs.size<=b)(hn:H' b=none):X50 X pins H' b:=by
 refine⟨hn,Ê6 (Þ I.lt hb),I.P22 hb,.inr (Ò I.sz hb),λx c e z=>?_,λp hp z=>?_⟩
 ·obtain⟨v,q⟩:=I.cell x c e;exact absurd (Þ q.lt (by rw[z];exact hb)) (Á8 _)
 ·exact absurd (Þ (à (I.pin p hp).1) (by rw[z];exact hb)) (Á8 _)
structure Turn(P:Program)(w:World)(K:PySem.W.Frag)(tg:Expr)(J:It)(fp:List Addr)(it:Addr)(tn:Nat->Heap->Prop):Prop where
 mem:it∈fp
 obj:∀ i h,tn i h->∀ b∈fp,∃ o,h.get? b=some o/\∀ v,o.data≠.cell v
 keep:∀ i h h',tn i h->(∀ b∈fp,∀ o,h.get? b=some o->h'.get? b=some o)->tn i h'
 item:∀ (X:Cx),X.prog=P->X.w=w->X.K=K->X.calm=true->∀ (i:Nat) (pins:List (Addr × Obj)) (s:Shared) (σ:St) (H:Hp) (E:Value->Shared->Prop),Inv X pins σ H s->(∀ b∈fp,X50 X pins H b)->tn i s.heap->J.go i H ->
  wpAny (model P w) X.A (pyNext (.ref it)) (λr s1=>∃ u,r=some u /\
   wpAny (model P w) X.A (letOwnedTupleGo tg (.ref it) u) (λ_ s2=>∃ x H',Inv X pins σ H' s2/\RelV x u/\J.yld i H x H'/\tn (i + 1) s2.heap/\∀ b∈fp,H' b=none) E s1) E s
 done:∀ (X:Cx),X.prog=P->X.w=w->X.K=K->X.calm=true->∀ (i:Nat) (pins:List (Addr × Obj)) (s:Shared) (σ:St) (H:Hp) (E:Value->Shared->Prop),Inv X pins σ H s->(∀ b∈fp,X50 X pins H b)->tn i s.heap->J.stop i H ->
  wpAny (model P w) X.A (pyNext (.ref it)) (λr s1=>r=none/\Inv X pins σ H s1) E s
 self:∀ (A:Around) (i:Nat) (s:Shared) (Q:Value->Shared->Prop) (E:Value->Shared->Prop),tn i s.heap->Q (.ref it) s->wpAny (model P w) A (pyIter (.ref it)) Q E s
abbrev TI:=St->Hp->(It->Hp->Prop)->Prop
def PIE(X:Cx)(pins:List (Ç × Obj))(σ:St)(tg:Ï)(R:It->Hp->Prop)(itv:Ä)(s2:Æ):Prop :=
 ∃ (it:Ç) (fp:List Ç) (tn:Nat->é->Prop) (J:It) (H':Hp),itv=.ref it/\Inv X pins σ H' s2/\Turn X.prog X.w X.K tg J fp it tn/\tn 0 s2.heap/\(∀ b∈fp,X50 X pins H' b)/\R J H'
def PI(X:Cx)(tg Ä0:Ï)(wi:TI):Prop :=
 ∀ (pins:List (Ç × Obj)) (s:Æ) (σ:St) (H:Hp) (R:It->Hp->Prop),Inv X pins σ H s->wi σ H R ->
  Î (Ô X.prog X.w) X.A (eval Ä0 X.env) (λv s1=>Î (Ô X.prog X.w) X.A (pyIter v) (PIE X pins σ tg R) X.xe s1) X.xe s
theorem X11{M:Model}{A:ø}{E:Ä->Æ->Prop}{s:Æ}{tg:Ï}{it:Ç}{u:Ä}{o:Obj}{n:String}{vs:Array Ä}{Q:Unit->Æ->Prop}(ho:s.heap.get? it=some o)(hc:o.cls=.type n)(hd:o.data=.fields vs)
  (hn:["enumerate","zip","dict_itemiterator","dict_reverseitemiterator","odict_iterator","itertools.zip_longest","itertools.pairwise"].contains n=false) (hQ:Q () s):Î M A (à0 tg (.ref it) u) Q E s:=by
 unfold à0;cases tg <;> first
  |exact Å hQ
  |(cases u <;> first
    |exact Å hQ
    |(refine À (wpAny_load ho ?_)
      rw[hc,hd];show Î M A (if (["enumerate","zip","dict_itemiterator","dict_reverseitemiterator","odict_iterator","itertools.zip_longest","itertools.pairwise"].contains n&&vs[0]? == some (Ã7 _))=true then _ else _) Q E s;rw[if_neg (by intro h;rw[hn,Õ6] at h;cases h)]
      exact Å hQ))
def Itl(K:Â)(a:Ç):It :=
 ⟨λi H=>∃ xs x,SqL K H a xs/\xs[i]?=some x,λi H x H'=>H'=H/\∀ xs,SqL K H a xs->xs[i]?=some x,λi H=>∃ xs,SqL K H a xs/\xs.length<=i⟩
def Itt(K:Â)(a:Ç):It :=
 ⟨λi H=>∃ xs x,SqT K H a xs/\xs[i]?=some x,λi H x H'=>H'=H/\∀ xs,SqT K H a xs->xs[i]?=some x,λi H=>∃ xs,SqT K H a xs/\xs.length<=i⟩
def Itr(lo:Int)(n:Nat):It:=⟨λi _=>i < n,λi H x H'=>H'=H/\x=.int (lo + i),λi _=>n<=i⟩
theorem q41{P:Ý}{w:ç}{K:Â}{tg:Ï}(a it:Ç):Turn P w K tg (Itl K a) [it] it (λi h=>h.IsListIter it a i) where
 mem:=by simp
 obj:=λi h st b hb=>by
  have e:b=it:=by simpa using hb
  subst e;obtain⟨o,e,c,d⟩:=st;exact⟨o,e,λv z=>by rw[d] at z;cases z⟩
 keep:=λi h h' st k=>st.at λo e=>k it (by simp) o e
 item:=by
  intro X hP hw hK hc i pins s σ H E I hf st hg;subst hP hw hK;obtain⟨xs,x,hq,hx⟩:=hg;obtain⟨its,rv,p,hz⟩:=I.list hq;obtain⟨u,hu,ru⟩:=rv.get hx;obtain⟨f0,f1,f2,f3,f4,f5⟩:=hf it (by simp)
  refine wpAny_pyNext_list_item st p.isList (x:=u) (by simpa using hu) λh' st' sb=>?_
  have I1:Inv X pins σ H { s with heap:=h' }:=I.turned (t':=s.toks) (λb o hb e=>(sb.2 b hb).trans e) f0 f1 f3 f4 f5;obtain⟨o,e,c,d⟩:=id st';exact⟨u,rfl,X11 (s:={ s with heap:=h' }) e c d (-0) ⟨x,H,I1,ru,⟨rfl,λys hy=>by rw[I.d51 hy hq];exact hx⟩,st',λb hb=>(hf b hb).1⟩⟩
 done:=by
  intro X hP hw hK hc i pins s σ H E I hf st hg;subst hP hw hK;obtain⟨xs,hq,hx⟩:=hg;obtain⟨its,rv,p,hz⟩:=I.list hq;obtain⟨f0,f1,f2,f3,f4,f5⟩:=hf it (by simp)
  have hl:=rv.length;exact wpAny_pyNext_list_end (I.ok.hd hc) st p.isList (by simp;omega) λh' eb=>⟨rfl,I.turned (t':=s.toks) (λb o hb e=>eb b o hb e) f0 f1 f3 f4 f5⟩
 self:=λ_ _ _ _ _ st h=>wpAny_pyIter_listiter st h
theorem k51{P:Ý}{w:ç}{K:Â}{tg:Ï}(a it:Ç):Turn P w K tg (Itt K a) [it] it (λi h=>h.IsTupleIter it a i) where
 mem:=by simp
 obj:=λi h st b hb=>by
  have e:b=it:=by simpa using hb
  subst e;obtain⟨o,e,c,d⟩:=st;exact⟨o,e,λv z=>by rw[d] at z;cases z⟩
 keep:=λi h h' st k=>st.at λo e=>k it (by simp) o e
 item:=by
  intro X hP hw hK hc i pins s σ H E I hf st hg;subst hP hw hK;obtain⟨xs,x,hq,hx⟩:=hg;obtain⟨its,rv,p,hz⟩:=I.tuple hq;obtain⟨u,hu,ru⟩:=rv.get hx;obtain⟨f0,f1,f2,f3,f4,f5⟩:=hf it (by simp)
  refine wpAny_pyNext_tuple_item st (show s.heap.IsTuple a its.toArray from p) (x:=u) (by simpa using hu) λh' st' sb=>?_
  have I1:Inv X pins σ H { s with heap:=h' }:=I.turned (t':=s.toks) (λb o hb e=>(sb.2 b hb).trans e) f0 f1 f3 f4 f5;obtain⟨o,e,c,d⟩:=id st';exact⟨u,rfl,X11 (s:={ s with heap:=h' }) e c d (-0) ⟨x,H,I1,ru,⟨rfl,λys hy=>by rw[I.P20 hy hq];exact hx⟩,st',λb hb=>(hf b hb).1⟩⟩
 done:=by
  intro X hP hw hK hc i pins s σ H E I hf st hg;subst hP hw hK;obtain⟨xs,hq,hx⟩:=hg;obtain⟨its,rv,p,hz⟩:=I.tuple hq;obtain⟨f0,f1,f2,f3,f4,f5⟩:=hf it (by simp)
  have hl:=rv.length;exact wpAny_pyNext_tuple_end (I.ok.hd hc) st (show s.heap.IsTuple a its.toArray from p) (by simp;omega) λh' eb=>⟨rfl,I.turned (t':=s.toks) (λb o hb e=>eb b o hb e) f0 f1 f3 f4 f5⟩
 self:=λ_ _ _ _ _ st h=>wpAny_pyIter_tupleiter st h
theorem k61{P:Ý}{w:ç}{K:Â}{tg:Ï}(it:Ç)(lo:Int)(n:Nat):Turn P w K tg (Itr lo n) [it] it (λi h=>IsRangeIter h it (lo + (i:Nat) * 1) ((n:Int) - (i:Nat)) 1) where
 mem:=by simp
 obj:=λi h st b hb=>by
  have e:b=it:=by simpa using hb
  subst e;exact⟨_,st,λv z=>by
   have z':Data.fields _=Data.cell v:=z;cases z'⟩
 keep:=λi h h' st k=>k it (by simp) _ st
 item:=by
  intro X hP hw hK hc i pins s σ H E I hf st hg;subst hP hw hK;obtain⟨f0,f1,f2,f3,f4,f5⟩:=hf it (by simp)
  have W:=Walks.range (prog:=X.prog) (w:=X.w) (I.ok.hd hc) it lo 1 n;refine W.item i s _ _ hg st λv h' tk hv st' kk=>?_;obtain⟨t,rfl⟩:=hv;have I1:Inv X pins σ H { s with heap:=h',toks:=tk }:=I.turned (λb o hb e=>kk b o (by simpa using hb) e) f0 f1 f3 f4 f5
  refine⟨_,rfl,X11 (s:={ s with heap:=h',toks:=tk }) (n:="range_iterator") st' rfl rfl (-0) ⟨.int (lo + i),H,I1,⟨t,?_⟩,⟨rfl,rfl⟩,st',λb hb=>(hf b hb).1⟩⟩
  rw[mul_one]
 done:=by
  intro X hP hw hK hc i pins s σ H E I hf st hg;subst hP hw hK;obtain⟨f0,f1,f2,f3,f4,f5⟩:=hf it (by simp)
  exact wpAny_pyNext_range_end (I.ok.hd hc) st (by have:n<=i:=hg;omega) λh' eb=>⟨rfl,I.turned (t':=s.toks) (λb o hb e=>eb b o hb e) f0 f1 f3 f4 f5⟩
 self:=λ_ _ _ _ _ st h=>wpAny_pyIter_rangeiter st h
section
variable {X:Cx}{tg:Ï}
def B82(K:Â)(tl:TE):TI:=λσ H R=>tl σ H λx H1=>∃ a,x=.ref a/\(∃ xs,SqL K H1 a xs)/\R (Itl K a) H1
def Q32(K:Â)(tl:TE):TI:=λσ H R=>tl σ H λx H1=>∃ a,x=.ref a/\(∃ xs,SqT K H1 a xs)/\R (Itt K a) H1
theorem X60{l:Ï}{tl:TE}(hl:PE X l tl):PI X tg l (B82 X.K tl):=by
 intro pins s σ H R I h;refine thn (hl pins s σ H _ I h) λv s1 ⟨x,H1,I1,r1,q1⟩=>?_;obtain⟨a,e,⟨xs,hq⟩,q⟩:=q1;subst e;cases r1;obtain⟨its,rv,p,hz⟩:=I1.list hq;refine Ý1 p.isList ?_;refine⟨s1.heap.objs.size,[s1.heap.objs.size],_,_,H1,rfl,I1.kept (t':=s1.toks) λb o e=>Ã _ e,q41 a _,⟨_,Ê _ rfl,rfl,rfl⟩,λb hb=>?_,q⟩;have e:b=s1.heap.objs.size:=by simpa using hb
 subst e;exact I1.p11 (Í _) (I1.hok.fresh (Í _))
theorem R81{l:Ï}{tl:TE}(hl:PE X l tl):PI X tg l (Q32 X.K tl):=by
 intro pins s σ H R I h;refine thn (hl pins s σ H _ I h) λv s1 ⟨x,H1,I1,r1,q1⟩=>?_;obtain⟨a,e,⟨xs,hq⟩,q⟩:=q1;subst e;cases r1;obtain⟨its,rv,p,hz⟩:=I1.tuple hq;refine È0 (show s1.heap.IsTuple a its.toArray from p) ?_;refine⟨s1.heap.objs.size,[s1.heap.objs.size],_,_,H1,rfl,I1.kept (t':=s1.toks) λb o e=>Ã _ e,k51 a _,⟨_,Ê _ rfl,rfl,rfl⟩,λb hb=>?_,q⟩;have e:b=s1.heap.objs.size:=by simpa using hb
 subst e;exact I1.p11 (Í _) (I1.hok.fresh (Í _))
theorem d71{pins:List (Ç × Obj)}{σ:St}{H:Hp}{s:Æ}{R:It->Hp->Prop}{E:Ä->Æ->Prop}{lo hi:Int}{t u v:Tok}{tk:Nat}(I:Inv X pins σ H s)(h1:-(2 ^ 62)<=lo)(h2:lo < 2 ^ 62)(h3:-(2 ^ 62)<=hi)(h4:hi < 2 ^ 62)
  (q:R (Itr lo (hi - lo).toNat) H):Î (Ô X.prog X.w) X.A (pyIter (.ref s.heap.objs.size)) (PIE X pins σ tg R) E { s with heap:=s.heap.push { cls:=.type "range",data:=.fields #[.int lo t,.int hi u,.int 1 v] },toks:=tk }:=by
 refine wpAny_pyIter_range (Õ9.new ..) (small_one h1 h2 h3 h4) ?_;have I1:Inv X pins σ H { s with heap:=s.heap.push { cls:=.type "range",data:=.fields #[.int lo t,.int hi u,.int 1 v] },toks:=tk }:=I.kept λb o e=>Ã _ e;refine⟨(s.heap.push { cls:=.type "range",data:=.fields #[.int lo t,.int hi u,.int 1 v] }).objs.size,[(s.heap.push { cls:=.type "range",data:=.fields #[.int lo t,.int hi u,.int 1 v] }).objs.size],_,_,H,rfl,
  I1.kept (t':=tk) λb o e=>Ã _ e,k61 _ lo (hi - lo).toNat,?_,λb hb=>?_,q⟩
 ·have e1:lo + ((0:Nat):Int) * 1=lo:=by simp
  have e2:(((hi - lo).toNat:Nat):Int) - ((0:Nat):Int)=Ã8 lo hi 1:=by rw[rangeSize_one];split <;> omega
  show IsRangeIter _ _ (lo + ((0:Nat):Int) * 1) ((((hi - lo).toNat:Nat):Int) - ((0:Nat):Int)) 1;rw[e1,e2];exact Ê _ rfl
 ·have e:b=(s.heap.push { cls:=.type "range",data:=.fields #[.int lo t,.int hi u,.int 1 v] }).objs.size:=by simpa using hb
  subst e;exact I1.p11 (Í _) (I1.hok.fresh (Í _))
def B92(ta:TA):TI:=λσ H R=>ta σ H λvs H1=>∃ j:Int,vs=[.int j]/\-(2 ^ 62)<=j/\j < 2 ^ 62/\R (Itr 0 j.toNat) H1
def C02(ta:TA):TI:=λσ H R=>ta σ H λvs H1=>∃ i j:Int,vs=[.int i,.int j]/\(-(2 ^ 62)<=i/\i < 2 ^ 62/\-(2 ^ 62)<=j/\j < 2 ^ 62)/\R (Itr i (j - i).toNat) H1
theorem P30{a:Ï}{ta:TA}{p pos:Pos}(hg:Gl X "range")(hm:X.mg "range"=none)(ha:PA X [a] ta)(hs:þ [a] X.env=[(false,eval a X.env)]:=by rfl):PI X tg (.Call (.Name "range" p) [a] [] pos) (B92 ta):=by
 intro pins s σ H R I h;refine Call_ (t70 I hg hm boot_range (Á2 (thn (ha pos pins s σ H _ I h) λus s1 ⟨vs,H1,I1,r1,q1⟩=>?_) hs rfl));obtain⟨j,e,q1,q2,q⟩:=q1;subst e;cases r1 with
 |cons r rr =>
  cases rr;obtain⟨t,rfl⟩:=r;exact call_range_1 (d71 I1 ∅ ∅ q1 q2 (by simpa using q))
theorem q51{a b:Ï}{ta:TA}{p pos:Pos}(hg:Gl X "range")(hm:X.mg "range"=none)(ha:PA X [a,b] ta)(hs:þ [a,b] X.env=[(false,eval a X.env),(false,eval b X.env)]:=by rfl)(hs2:þ [b] X.env=[(false,eval b X.env)]:=by rfl) :
  PI X tg (.Call (.Name "range" p) [a,b] [] pos) (C02 ta):=by
 intro pins s σ H R I h;refine Call_ (t70 I hg hm boot_range (Á2 (thn (ha pos pins s σ H _ I h) λus s1 ⟨vs,H1,I1,r1,q1⟩=>?_) (by rw[hs,hs2]) (by rw[hs2];rfl)))
 obtain⟨i,j,e,⟨q1,q2,q3,q4⟩,q⟩:=q1;subst e;cases r1 with
 |cons r rr =>
  cases rr with
  |cons r' rr =>
   cases rr;obtain⟨t,rfl⟩:=r;obtain⟨t',rfl⟩:=r';exact call_range_2 (d71 I1 q1 q2 q3 q4 q)
def Q42(wi:TI)(g:TG)(tb:TS):TS:=λD σ H=>wi σ H λJ H1=>∃ W:Nat->Nat->St->Hp->Prop,(∃ m,W 0 m σ H1)/\∀ i m σ H,W i m σ H ->
 (J.stop i H/\D.nx σ H)∨(J.go i H/\∃ N:St->Hp->Prop,(∀ σ' H',N σ' H'->∃ m',m' < m/\W (i + 1) m' σ' H')/\∀ x H',J.yld i H x H'->g x σ H' λσ2 H2=>tb { D with nx:=N,ct:=N,bk:=D.nx } σ2 H2)
def B80(fp:List Ç)(h:é):List (Ç × Obj):=fp.filterMap λb=>(h.get? b).map λo=>(b,o)
theorem k70{fp:List Ç}{h:é}{b:Ç}{o:Obj}(hb:b∈fp)(e:h.get? b=some o):(b,o)∈B80 fp h:=Ø0.mpr ⟨b,hb,by rw[e];rfl⟩
theorem P40{fp:List Ç}{h:é}{p:Ç × Obj}(hp:p∈B80 fp h):p.1∈fp/\h.get? p.1=some p.2:=by
 obtain⟨b,hb,e⟩:=Ø0.mp hp;cases q:h.get? b with
 |none=>rw[q] at e;cases e
 |some o =>
  rw[q] at e;have e':(b,o)=p:=À7 e;subst e';exact⟨hb,q⟩
theorem Inv.pinned{pins:List (Ç × Obj)}{σ:St}{H:Hp}{s:Æ}{fp:List Ç}(I:Inv X pins σ H s)(hf:∀ b∈fp,X50 X pins H b)(ho:∀ b∈fp,∃ o,s.heap.get? b=some o/\∀ v,o.data≠.cell v):Inv X (pins++B80 fp s.heap) σ H s :=
 I.B60 λp hp=>(Ã6.mp hp).elim (λz=>I.pin p (ð _ z)) λz=>by
  obtain⟨hb,e⟩:=P40 z;obtain⟨f0,f1,f2,_⟩:=hf p.1 hb;obtain⟨o,e',d⟩:=ho p.1 hb;rw[e] at e';cases e';exact⟨e,f0,f1,f2,d⟩
theorem Inv.I80{pins pl:List (Ç × Obj)}{σ:St}{H:Hp}{s:Æ}(I:Inv X (pins++pl) σ H s):Inv X pins σ H s:=I.B60 λp hp=>I.pin p (ð _ (Æ5 _ hp))
theorem R91{Ä0:Ï}{body:List Ä8}{wi:TI}{g:TG}{tb:TS}{pos:Pos}(hp:PassesOwn (Ô X.prog X.w) X.A X.env X.xe)(hc:X.calm=true)(hi:PI X tg Ä0 wi)(hg:PG X tg g)(hb:PSs X body tb)
  (hs:∀ x,É2 Ä0 X.env x=pure x:=by intro _;rfl):PS X (.For tg Ä0 body [] pos) (Q42 wi g tb):=by
 intro pins s σ H D I h;refine wpAny_For (thn (hi pins s σ H _ I h) λv s1 h1=>thn h1 λitv s2 h2=>?_) hs;obtain⟨it,fp,tn,J,H2,e,I2,T,st2,f2,W,⟨m0,w0⟩,turn⟩:=h2;subst e;have stat:∀ {H':Hp},(∀ b∈fp,H' b=none)->∀ b∈fp,X50 X pins H' b:=λhn b hb=>⟨hn b hb,(f2 b hb).2⟩;refine codeAny_forLoop_any (λn s'=>∃ i σ' H',Inv X pins σ' H' s'/\tn i s'.heap/\(∀ b∈fp,H' b=none)/\W i n σ' H') ?_ m0 ⟨0,σ,H2,I2,st2,λb hb=>(f2 b hb).1,w0⟩;rintro n s3 ⟨i,σ3,H3,I3,st3,fr3,w3⟩;rcases turn i n σ3 H3 w3 with ⟨stop,qn⟩ | ⟨go,N,hN,step⟩
 ·refine È6 hp (thn (T.done X rfl rfl rfl hc i pins s3 σ3 H3 X.xe I3 (stat fr3) st3 stop) λr s4 ⟨hr,I4⟩=>?_);subst hr;exact Ï4 ⟨σ3,H3,I4,qn⟩
 ·refine È6 hp (thn (T.item X rfl rfl rfl hc i pins s3 σ3 H3 X.xe I3 (stat fr3) st3 go) λr s4 ⟨u,hr,h4⟩=>?_);subst hr;refine È6 hp (thn h4 λ_ s5 ⟨x,H5,I5,r5,y5,st5,fr5⟩=>?_);have I5':=I5.pinned (stat fr5) (T.obj _ _ st5);refine È6 hp (thn (hg _ s5 σ3 H5 x u _ I5' r5 (step x H5 y5)) λ_ s6 ⟨σ6,H6,I6,q6⟩=>?_);refine È6 hp (thn (hb _ s6 σ6 H6 _ I6 q6) λf s7 q7=>?_);have again:∀ {σ7:St}{H7:Hp},Inv X (pins++B80 fp s5.heap) σ7 H7 s7->N σ7 H7->∃ m,m < n/\∃ i σ' H',Inv X pins σ' H' s7/\tn i s7.heap/\(∀ b∈fp,H' b=none)/\W i m σ' H':=λ{σ7 H7} I7 n7=>by
   obtain⟨m',hm,w7⟩:=hN σ7 H7 n7;refine⟨m',hm,i + 1,σ7,H7,I7.I80,T.keep _ _ _ st5 λb hb o e=>(I7.pin (b,o) (ð _ (ð _ (k70 hb e)))).1,λb hb=>?_,w7⟩;obtain⟨o,e,d⟩:=T.obj _ _ st5 b hb;exact(I7.pin (b,o) (ð _ (ð _ (k70 hb e)))).2.1
  cases f with
  |next=>obtain⟨σ7,H7,I7,n7⟩:=q7;exact again I7 n7
  |cont=>obtain⟨σ7,H7,I7,n7⟩:=q7;exact again I7 n7
  |brk=>obtain⟨σ7,H7,I7,q7⟩:=q7;exact⟨σ7,H7,I7.I80,q7⟩
  |ret v=>obtain⟨x7,σ7,H7,I7,r7,q7⟩:=q7;exact⟨x7,σ7,H7,I7.I80,r7,q7⟩
end
abbrev R2:=V->V->Hp->VK->Prop
def OpR(X:Cx)(f:Ä->Ä->Sem Ä)(r:R2):Prop :=
 ∀ (pins:List (Ç × Obj)) (s:Æ) (σ:St) (H:Hp) (x y:V) (v u:Ä) (Q:VK),Inv X pins σ H s->RelV x v->RelV y u->r x y H Q ->
  Î (Ô X.prog X.w) X.A (f v u) (EP X pins σ Q) X.xe s
def UnR(X:Cx)(f:Ä->Sem Ä)(r:V->Hp->VK->Prop):Prop :=
 ∀ (pins:List (Ç × Obj)) (s:Æ) (σ:St) (H:Hp) (x:V) (v:Ä) (Q:VK),Inv X pins σ H s->RelV x v->r x H Q ->
  Î (Ô X.prog X.w) X.A (f v) (EP X pins σ Q) X.xe s
def g10(X:Cx)(f:Ä)(r:List V->Hp->VK->Prop):Prop :=
 ∀ (pins:List (Ç × Obj)) (s:Æ) (σ:St) (H:Hp) (xs:List V) (us:List Ä) (Q:VK),Inv X pins σ H s->Vals xs us->r xs H Q ->
  Î (Ô X.prog X.w) X.A (call f us) (EP X pins σ Q) X.xe s
def tOp(r:R2)(ta tb:TE):TE:=λσ H Q=>ta σ H λx H1=>tb σ H1 λy H2=>r x y H2 Q
def tUn(r:V->Hp->VK->Prop)(ta:TE):TE:=λσ H Q=>ta σ H λx H1=>r x H1 Q
def rI(C:Int->Int->Prop)(g:Int->Int->V):R2:=λx y H Q=>∃ i j,x=.int i/\y=.int j/\C i j/\Q (g i j) H
def rI0(g:Int->Int->V):R2:=λx y H Q=>∃ i j,x=.int i/\y=.int j/\Q (g i j) H
def rU(g:Int->V):V->Hp->VK->Prop:=λx H Q=>∃ i,x=.int i/\Q (g i) H
section
variable {X:Cx}{a b c:Ï}{ta tb tc:TE}{pos:Pos}
theorem C12(ha:PE X a ta)(hb:PE X b tb){pins:List (Ç × Obj)}{s:Æ}{σ:St}{H:Hp}{R:V->V->Hp->Prop}(I:Inv X pins σ H s)
  (h:ta σ H λx H1=>tb σ H1 λy H2=>R x y H2) {Q:Ä->Æ->Prop}{f:Ä->Ä->Sem Ä}
  (hf:∀ v u s2 x y H2,Inv X pins σ H2 s2->RelV x v->RelV y u->R x y H2->Î (Ô X.prog X.w) X.A (f v u) Q X.xe s2) :
  Î (Ô X.prog X.w) X.A (eval a X.env) (λv s₁=>Î (Ô X.prog X.w) X.A (eval b X.env) (λu s₂=>Î (Ô X.prog X.w) X.A (f v u) Q X.xe s₂) X.xe s₁) X.xe s:=by
 refine thn (ha pins s σ H _ I h) λv s1 ⟨x,H1,I1,r1,q1⟩=>?_;refine thn (hb pins s1 σ H1 _ I1 q1) λu s2 ⟨y,H2,I2,r2,q2⟩=>?_;exact hf v u s2 x y H2 I2 r1 r2 q2
theorem H01{op:Ý4}{r:R2}(ho:OpR X (Ä2 op) r)(ha:PE X a ta)(hb:PE X b tb):PE X (.BinOp a op b pos) (tOp r ta tb):=by
 intro pins s σ H Q I h;exact wpAny_BinOp (C12 ha hb I h λv u s2 x y H2 I2 rx ry q=>ho pins s2 σ H2 x y v u Q I2 rx ry q)
theorem m42{op:UnaryOp}{r:V->Hp->VK->Prop}(ho:UnR X (unaryOp op) r)(ha:PE X a ta):PE X (.UnaryOp op a pos) (tUn r ta):=by
 intro pins s σ H Q I h;exact UnaryOp_ (thn (ha pins s σ H _ I h) λv s1 ⟨x,H1,I1,r1,q1⟩=>ho pins s1 σ H1 x v Q I1 r1 q1)
theorem opI{f:Ä->Ä->Sem Ä}{C:Int->Int->Prop}{g:Int->Int->Int}
  (rule:∀ (i j:Int) (t u:Tok) (s:Æ) (Q:Ä->Æ->Prop) (E:Ä->Æ->Prop),C i j->Q (.int (g i j) s.toks) { s with toks:=s.toks + 1 }->Î (Ô X.prog X.w) X.A (f (.int i t) (.int j u)) Q E s) :
  OpR X f (rI C λi j=>.int (g i j)):=by
 intro pins s σ H x y v u Q I rx ry h;obtain⟨i,j,rfl,rfl,hc,q⟩:=h;obtain⟨t,rfl⟩:=rx;obtain⟨t',rfl⟩:=ry;exact rule i j t t' s _ _ hc ⟨.int (g i j),H,I.tok _,⟨_,rfl⟩,q⟩
theorem C22{f:Ä->Ä->Sem Ä}{g:Int->Int->Int}
  (rule:∀ (i j:Int) (t u:Tok) (s:Æ) (Q:Ä->Æ->Prop) (E:Ä->Æ->Prop),Q (.int (g i j) s.toks) { s with toks:=s.toks + 1 }->Î (Ô X.prog X.w) X.A (f (.int i t) (.int j u)) Q E s) :
  OpR X f (rI0 λi j=>.int (g i j)):=by
 intro pins s σ H x y v u Q I rx ry h;obtain⟨i,j,rfl,rfl,q⟩:=h;obtain⟨t,rfl⟩:=rx;obtain⟨t',rfl⟩:=ry;exact rule i j t t' s _ _ ⟨.int (g i j),H,I.tok _,⟨_,rfl⟩,q⟩
theorem C32{f:Ä->Ä->Sem Ä}{g:Int->Int->Bool}
  (rule:∀ (i j:Int) (t u:Tok) (s:Æ) (Q:Ä->Æ->Prop) (E:Ä->Æ->Prop),Q (.bool (g i j)) s->Î (Ô X.prog X.w) X.A (f (.int i t) (.int j u)) Q E s) :
  OpR X f (rI0 λi j=>.bl (g i j)):=by
 intro pins s σ H x y v u Q I rx ry h;obtain⟨i,j,rfl,rfl,q⟩:=h;obtain⟨t,rfl⟩:=rx;obtain⟨t',rfl⟩:=ry;exact rule i j t t' s _ _ ⟨.bl (g i j),H,I,rfl,q⟩
def M62(i j:Int):Prop:=0<=j/\j<=1000000/\i.natAbs < 2 ^ 64
theorem m52:OpR X (Ä2 .Add) (rI0 λi j=>.int (i + j)):=C22 λ_ _ _ _ _ _ _ q=>add_int q
theorem m62:OpR X (Ä2 .Sub) (rI0 λi j=>.int (i - j)):=C22 λ_ _ _ _ _ _ _ q=>sub_int q
theorem m72:OpR X (binaryOp .Mod) (rI (λ_ j=>0 < j) λi j=>.int (i % j)):=opI λi j _ _ _ _ _ hc q=>by
 have h1:(0:Int) < j:=hc;exact mod_int' ∅ (by rw[Int.fmod_eq_emod_of_nonneg i ∅];exact q)
theorem m82:OpR X (Ä2 .Pow) (rI M62 λi j=>.int (i ^ j.toNat)):=opI λ_ _ _ _ _ _ _ hc q=>pow_int_small hc.1 hc.2.1 hc.2.2 q
theorem M72:OpR X (Ä2 .LShift) (rI M62 λi j=>.int (i * 2 ^ j.toNat)):=opI λ_ _ _ _ _ _ _ hc q=>lshift_int_small hc.1 hc.2.1 hc.2.2 q
theorem M82:OpR X (Ä2 .BitAnd) (rI0 λi j=>.int (ÿ.bitAnd i j)):=C22 λ_ _ _ _ _ _ _ q=>and_int q
theorem unI{f:Ä->Sem Ä}{g:Int->Int}
  (rule:∀ (i:Int) (t:Tok) (s:Æ) (Q:Ä->Æ->Prop) (E:Ä->Æ->Prop),Q (.int (g i) s.toks) { s with toks:=s.toks + 1 }->Î (Ô X.prog X.w) X.A (f (.int i t)) Q E s) :
  UnR X f (rU λi=>.int (g i)):=by
 intro pins s σ H x v Q I rx h;obtain⟨i,rfl,q⟩:=h;obtain⟨t,rfl⟩:=rx;exact rule i t s _ _ ⟨.int (g i),H,I.tok _,⟨_,rfl⟩,q⟩
theorem S01:UnR X (unaryOp .USub) (rU λi=>.int (-i)):=unI λ_ _ _ _ _ q=>neg_int q
theorem d81{pins:List (Ç × Obj)}{σ:St}{H:Hp}{s:Æ}{Q:VK}{k k':Bool}(I:Inv X pins σ H s)(q:Q (.bl k) H)(e:k=k'):EP X pins σ Q (.bool k') s:=by
 subst e;exact⟨.bl k,H,I,rfl,q⟩
theorem C42:OpR X (ü .LtE) (rI0 λi j=>.bl (decide (i<=j))):=C32 λ_ _ _ _ _ _ _ q=>le_int q
theorem C52:OpR X (ü .Gt) (rI0 λi j=>.bl (decide (j < i))):=C32 λ_ _ _ _ _ _ _ q=>gt_int q
theorem C62:OpR X (ü .GtE) (rI0 λi j=>.bl (decide (j<=i))):=C32 λ_ _ _ _ _ _ _ q=>ge_int q
theorem M92:OpR X (ü .Is) (λx y H Q=>y=.non/\Q (.bl (decide (x=.non))) H):=by
 intro pins s σ H x y v u Q I rx ry h;obtain⟨rfl,q⟩:=h;cases ry;refine is_none_gen (d81 I q ?_);cases x <;> first
  |(cases rx;rfl)
  |(obtain⟨t,rfl⟩:=rx;rfl)
theorem C72:OpR X (ü .IsNot) (λx y H Q=>y=.non/\Q (.bl (!decide (x=.non))) H):=by
 intro pins s σ H x y v u Q I rx ry h;obtain⟨rfl,q⟩:=h;cases ry;refine isnot_none_gen (d81 I q ?_);cases x <;> first
  |(cases rx;rfl)
  |(obtain⟨t,rfl⟩:=rx;rfl)
theorem X21{op:CmpOp}{r:R2}(ho:OpR X (ü op) r)(ha:PE X a ta)(hb:PE X b tb)(hm:behindInMarks op b=false):PE X (.Compare a [op] [b] pos) (tOp r ta tb):=by
 intro pins s σ H Q I h;exact wpAny_Compare1 (C12 ha hb I h λv u s2 x y H2 I2 rx ry q=>ho pins s2 σ H2 x y v u Q I2 rx ry q) hm
def m92(t:TE):TT:=λσ H Q=>t σ H λx H'=>∃ k,x=.bl k/\Q k H'
theorem X31{op:CmpOp}{r:R2}(ho:OpR X (ü op) r)(ha:PE X a ta)(hb:PE X b tb)(hm:behindInMarks op b=false):PT X (.Compare a [op] [b] pos) (m92 (tOp r ta tb)):=by
 intro pins s σ H Q I h;refine wpAny_isTrue_Compare1 (thn (ha pins s σ H _ I h) λv s1 ⟨x,H1,I1,r1,q1⟩=>thn (hb pins s1 σ H1 _ I1 q1) λu s2 ⟨y,H2,I2,r2,q2⟩ =>
  thn (ho pins s2 σ H2 x y v u _ I2 r1 r2 q2) λc s3 ⟨z,H3,I3,r3,k,e,q3⟩=>?_) hm
 subst e;cases r3;exact Â6 ⟨H3,I3,q3⟩
def q61(r r':R2)(ta tb tc:TE):TE:=λσ H Q=>ta σ H λx H1=>tb σ H1 λy H2=>r x y H2 λz H3=>∃ k,z=.bl k /\
 (if k=true then tc σ H3 λw' H4=>r' y w' H4 Q else Q (.bl false) H3)
theorem H11{op op':CmpOp}{r r':R2}(ho:OpR X (ü op) r)(ho':OpR X (ü op') r')(ha:PE X a ta)(hb:PE X b tb)(hc:PE X c tc)
  (hm:lastMarks [op,op'] [b,c]=false:=by with_unfolding_all rfl):PE X (.Compare a [op,op'] [b,c] pos) (q61 r r' ta tb tc):=by
 intro pins s σ H Q I h;refine Compare_chain (thn (ha pins s σ H _ I h) λv s1 ⟨x,H1,I1,r1,q1⟩=>chain_link (thn (hb pins s1 σ H1 _ I1 q1) λu s2 ⟨y,H2,I2,r2,q2⟩ =>
  thn (ho pins s2 σ H2 x y v u _ I2 r1 r2 q2) λd s3 ⟨z,H3,I3,r3,k,e,q3⟩=>?_)) hm
 subst e;cases r3;refine Â6 ?_;cases k with
 |false=>exact ite_ff ⟨.bl false,H3,I3,rfl,q3⟩|true=>exact ite_tt (chain_last (thn (hc pins s3 σ H3 _ I3 q3) λw' s4 ⟨z',H4,I4,r4,q4⟩=>ho' pins s4 σ H4 y z' u w' Q I4 r2 r4 q4))
theorem H21{op op':CmpOp}{r r':R2}(ho:OpR X (ü op) r)(ho':OpR X (ü op') r')(ha:PE X a ta)(hb:PE X b tb)(hc:PE X c tc)
  (hm:lastMarks [op,op'] [b,c]=false:=by with_unfolding_all rfl):PT X (.Compare a [op,op'] [b,c] pos) (m92 (q61 r r' ta tb tc)):=by
 intro pins s σ H Q I h;refine isTrue_chain (thn (ha pins s σ H _ I h) λv s1 ⟨x,H1,I1,r1,q1⟩=>test_link (thn (hb pins s1 σ H1 _ I1 q1) λu s2 ⟨y,H2,I2,r2,q2⟩ =>
  thn (ho pins s2 σ H2 x y v u _ I2 r1 r2 q2) λd s3 ⟨z,H3,I3,r3,k,e,q3⟩=>?_)) hm
 subst e;cases r3;refine Â6 ?_;cases k with
 |false =>
  obtain⟨k',e',q'⟩:=q3;cases e';exact ite_ff ⟨H3,I3,q'⟩
 |true =>
  refine ite_tt (test_last (thn (hc pins s3 σ H3 _ I3 q3) λw' s4 ⟨z',H4,I4,r4,q4⟩=>thn (ho' pins s4 σ H4 y z' u w' _ I4 r2 r4 q4) λd' s5 ⟨z2,H5,I5,r5,k2,e2,q5⟩=>?_));subst e2;cases r5;exact Â6 ⟨H5,I5,q5⟩
theorem P50:(Ú:Nat) < 2 ^ 63:=by rw[Á3];decide
theorem vals1{x:V}{us:List Ä}(r:Vals [x] us):∃ u,us=[u]/\RelV x u:=by
 cases r with
 |cons r1 r2=>cases r2;exact⟨_,rfl,r1⟩
theorem vals2{x y:V}{us:List Ä}(r:Vals [x,y] us):∃ u w',us=[u,w']/\RelV x u/\RelV y w':=by
 cases r with
 |cons r1 r2 =>
  cases r2 with
  |cons r3 r4=>cases r4;exact⟨_,_,rfl,r1,r3⟩
theorem z22:g10 X (.builtin "abs") (λxs H Q=>∃ i,xs=[.int i]/\Q (.int (if i < 0 then -i else i)) H):=by
 intro pins s σ H xs us Q I r h;obtain⟨i,rfl,q⟩:=h;obtain⟨u,rfl,t,rfl⟩:=vals1 r;exact call_abs_int λu tk=>⟨.int (if i < 0 then -i else i),H,I.tok _,⟨_,rfl⟩,q⟩
theorem q71(hc:X.calm=true):g10 X (.builtin "max") (λxs H Q=>∃ i j,xs=[.int i,.int j]/\Q (.int (if j > i then j else i)) H):=by
 intro pins s σ H xs us Q I r h;obtain⟨i,j,rfl,q⟩:=h;obtain⟨u,w',rfl,⟨t,rfl⟩,⟨t',rfl⟩⟩:=vals2 r;refine max_two_ints (I.ok.hd hc) λh' tk k=>⟨_,H,I.kept k,?_,q⟩;by_cases hj:j > i
 ·rw[if_pos hj,if_pos hj];exact⟨_,rfl⟩
 ·rw[if_neg hj,if_neg hj];exact⟨_,rfl⟩
theorem q81(hc:X.calm=true):g10 X (.builtin "min") (λxs H Q=>∃ i j,xs=[.int i,.int j]/\Q (.int (if j < i then j else i)) H):=by
 intro pins s σ H xs us Q I r h;obtain⟨i,j,rfl,q⟩:=h;obtain⟨u,w',rfl,⟨t,rfl⟩,⟨t',rfl⟩⟩:=vals2 r;refine min_two_ints (I.ok.hd hc) λh' tk k=>⟨_,H,I.kept k,?_,q⟩;by_cases hj:j < i
 ·rw[if_pos hj,if_pos hj];exact⟨_,rfl⟩
 ·rw[if_neg hj,if_neg hj];exact⟨_,rfl⟩
theorem P60:g10 X (.type "int") (λxs H Q=>(∃ i,xs=[.int i]/\Q (.int i) H)∨∃ k,xs=[.bl k]/\Q (.int (if k then 1 else 0)) H):=by
 intro pins s σ H xs us Q I r h;rcases h with ⟨i,rfl,q⟩ | ⟨k,rfl,q⟩
 ·obtain⟨u,rfl,t,rfl⟩:=vals1 r;exact call_int_int ⟨.int i,H,I,⟨_,rfl⟩,q⟩
 ·obtain⟨u,rfl,r1⟩:=vals1 r;cases r1;exact call_int_bool ⟨.int (if k then 1 else 0),H,I.tok _,⟨_,rfl⟩,q⟩
end
structure A30(k:Nat)(A:Around):Prop where
 hd:A.handled=none
 dp:A.depth + 3 * k + 5 < recursionLimit
 un:A.units + 16 * k + 200 < cLine
theorem A30.deeper{k:Nat}{A:ø}(r:A30 (k + 1) A)(env:Env):A30 k (A.deeper env) :=
 ⟨r.hd,by have:=r.dp;show A.depth + 1 + 3 * k + 5 < _;omega,by have:=r.un;show A.units + 3 + 16 * k + 200 < _;omega⟩
theorem A30.depth{k:Nat}{A:ø}(r:A30 k A):A.depth < recursionLimit:=by have:=r.dp;omega
theorem A30.units{k:Nat}{A:ø}(r:A30 k A):A.units + 64 < cLine:=by have:=r.un;omega
def Q52:TA:=λ_ H Q=>Q [] H
def C82(ta:TE)(tr:TA):TA:=λσ H Q=>ta σ H λx H1=>tr σ H1 λxs H2=>Q (x::xs) H2
section
variable {X:Cx}{e:Ï}{es:List Ï}{te:TE}{t:TA}{pos:Pos}
theorem t80:PA X [] Q52:=λ_ _ _ _ H Q I h=>Ð3 ⟨[],H,I,.nil,h⟩
theorem e20(ha:PE X e te)(hr:PA X es t)(hs:þ (e::es) X.env=(false,eval e X.env)::þ es X.env:=by rfl):PA X (e::es) (C82 te t):=by
 intro pos pins s σ H Q I h;rw[hs];show Î _ _ (spliced ((false,eval e X.env)::Õ8 pos (þ es X.env))) _ _ s;refine Ö7 (thn (ha pins s σ H _ I h) λu s1 ⟨x,H1,I1,r1,q1⟩=>?_);exact thn (hr pos pins s1 σ H1 _ I1 q1) λus s2 ⟨xs,H2,I2,r2,q2⟩=>⟨x::xs,H2,I2,.cons r1 r2,q2⟩
def Q62(t:TA):TE:=λσ H Q=>t σ H λxs H1=>xs.length<=Ú/\∀ p,H1 p=none->Q (.ref p) (upd H1 p (.tup xs))
def Q72(t:TA):TE:=λσ H Q=>t σ H λxs H1=>xs.length<=Ú/\∀ p,H1 p=none->Q (.ref p) (upd H1 p (.lst xs))
theorem S11{x1}(h:PA X es t):PE X (.Tuple es x1 pos) (Q62 t):=by
 intro pins s σ H Q I hq;refine wpAny_Tuple_spliced (thn (h pos pins s σ H _ I hq) λus s1 ⟨xs,H1,I1,r,z,q⟩=>⟨by rw[← r.length];exact z,?_⟩)
 have hf:H1 s1.heap.objs.size=none:=I1.hok.fresh (Í _);refine⟨.ref s1.heap.objs.size,upd H1 s1.heap.objs.size (.tup xs),I1.laid (t':=s1.toks) (λb u e=>Ã _ e) (Í _) ?_,rfl,q _ hf⟩;exact⟨z,us,r,⟨_,Ê _ rfl,rfl,_,rfl⟩⟩
theorem S21(h:PA X es t):PE X (.List es pos) (Q72 t):=by
 intro pins s σ H Q I hq;refine wpAny_List_spliced (thn (h pos pins s σ H _ I hq) λus s1 ⟨xs,H1,I1,r,z,q⟩=>⟨by rw[← r.length];exact z,?_⟩)
 have hf:H1 s1.heap.objs.size=none:=I1.hok.fresh (Í _);refine⟨.ref s1.heap.objs.size,upd H1 s1.heap.objs.size (.lst xs),I1.laid (t':=s1.toks) (λb u e=>Ã _ e) (Í _) ?_,rfl,q _ hf⟩;exact⟨z,us,0,r,Ê _ rfl⟩
end
abbrev Sp:=List V->Hp->VK->XK->Prop
abbrev CXT:=List Env->Hp->Æ->XK->Ä->Æ->Prop
structure X41(P:Program)(w:World)(K:PySem.W.Frag)(mg:Str->Option Value)(base:Heap)(A:Around)(outer:List Env)(s:Shared)(H:Hp):Prop where
 frames:A.frames=some outer
 mod:Mod K mg base
 bs:∀ b o,base.get? b=some o->s.heap.get? b=some o/\H b=none
 bsz:base.objs.size<=s.heap.objs.size
 k41:s.heap.FunFrames base outer
 frf:∀ b∈frs outer,H b=none
 hok:HOk P w H s.heap
 bare:AllBare s.gens
def CE(outer:List Env)(P:Ý)(w:ç)(H:Hp)(s:Æ)(Q:VK)(u:Ä)(s':Æ):Prop :=
 ∃ v H',s'.os=s.os/\Ó4 s'.gens/\Un (frs outer) [] H H' s.heap s'.heap/\HOk P w H' s'.heap/\RelV v u/\Q v H'
def CR(CX:CXT)(outer:List Env)(P:Ý)(w:ç)(H:Hp)(s:Æ)(Q:VK)(E:XK)(r:Result)(s':Æ):Prop :=
 match r with
 |.ok (.ret u)=>CE outer P w H s Q u s'|.ok _=>False|.error e=>CX outer H s E e s'
structure W90(P:Program)(w:World)(K:PySem.W.Frag)(mg:Str->Option Value)(base:Heap)(CX:CXT)(k:Nat)(f:Addr)(fd:FuncData)(ps:List Str)(sp:Sp):Prop where
 len:∀ vs H Q E,sp vs H Q E->vs.length=ps.length
 run:∀ (A:Around) (outer:List Env) (s:Shared) (H:Hp) (args:Args) (us:List Value) (vs:List V) (Q:VK) (E:XK),A30 k A->X41 P w K mg base A outer s H->BindsTo s fd args (ps.zip us)->Vals vs us->sp vs H Q E ->
  codeAny (model P w) A (.call (.ref f) args) (CR CX outer P w H s Q E) s
section
variable {X:Cx}{pins:List (Ç × Obj)}{σ:St}{H:Hp}{s s':Æ}
theorem Inv.C92(I:Inv X pins σ H s):X41 X.prog X.w X.K X.mg X.base X.A X.stack s H :=
 ⟨I.ok.frames,I.ok.mod,I.bs,Ò I.ok.bsz I.sz,I.stack,I.w30,I.hok,I.bare⟩
theorem Inv.after{Q:VK}{u:Ä}(I:Inv X pins σ H s)(h:CE X.stack X.prog X.w H s Q u s'):EP X pins σ Q u s':=by
 obtain⟨v,H',os,bare,un,hok,r,q⟩:=h;obtain⟨hh,g,d,t,os'⟩:=s';obtain rfl:os'=s.os:=os;exact⟨v,H',I.call (h':=hh) (g':=g) (d':=d) (t':=t) (ch:=[]) un hok bare (λb z=>absurd z (by simp)),r,q⟩
end
def D02(sp:Sp)(dvs:List V)(E:XK)(t:TA):TE:=λσ H Q=>t σ H λvs H1=>sp (vs++dvs) H1 Q E
def Binds(K:Â)(fd:Å2)(ps:List Str)(ds:List Ä):Prop :=
 ∀ (s:Æ) (us:List Ä),K.In s.heap->(us++ds).length=ps.length->BindsTo s fd ⟨us,[]⟩ (ps.zip (us++ds))
theorem Binds.all{K:Â}{fd:Å2}{ps:List Str}(h:∀ us:List Ä,us.length=ps.length->bindArgs fd ⟨us,[]⟩=pure (ps.zip us)):Binds K fd ps []:=λs us _ hl=>by
 rw[append_nil] at hl ⊢;exact .of_eq (h us hl)
def Passes(CX:CXT)(X:Cx)(E:XK):Prop:=∀ (pins:List (Ç × Obj)) (σ:St) (H:Hp) (s:Æ) (e:Ä) (s':Æ),Inv X pins σ H s->CX X.stack H s E e s'->X.xe e s'
section
variable {X:Cx}{CX:CXT}{k:Nat}{f C:Ç}{fd:Å2}{ps:List Str}{sp:Sp}{dvs:List V}{ds:List Ä}{E:XK}{x m:Str}{p pos apos:Pos}{e o:Ï}{es:List Ï}{ta:TE}{t:TA}
theorem n02{pins:List (Ç × Obj)}{σ:St}{H:Hp}{s:Æ}{Q:VK}{us:List Ä}{vs:List V}(F:W90 X.prog X.w X.K X.mg X.base CX k f fd ps sp)(hr:A30 k X.A)(hb:Binds X.K fd ps ds)(hd:Vals dvs ds)(hx:Passes CX X E)
  (I:Inv X pins σ H s) (r:Vals vs us) (h:sp (vs++dvs) H Q E):Î (Ô X.prog X.w) X.A (call (.ref f) us) (EP X pins σ Q) X.xe s:=by
 have r2:Vals (vs++dvs) (us++ds):=r.append hd;have hl:(us++ds).length=ps.length:=by rw[← r2.length];exact F.len _ _ _ _ h
 refine Õ7 (È3 (F.run X.A X.stack s H ⟨us,[]⟩ (us++ds) (vs++dvs) Q E hr I.C92 (hb s us I.kIn hl) r2 h) λr s' hq=>?_);cases r with
 |error e=>exact hx pins σ H s e s' I hq
 |ok fl =>
  cases fl with
  |ret u=>exact I.after hq|next=>exact À2 hq
  |brk=>exact À2 hq|cont=>exact À2 hq
theorem X51(F:W90 X.prog X.w X.K X.mg X.base CX k f fd ps sp)(hr:A30 k X.A)(hg:Gl X x)(hm:X.mg x=some (.ref f))(hk:Ó6 X.K (.ref f)=true)(hb:Binds X.K fd ps ds)(hd:Vals dvs ds)(hx:Passes CX X E)
  (ha:PA X (e::es) t) (hdb:(x == ("__debug__":Str))=false:=by decide) (he:þ (e::es) X.env=(false,eval e X.env)::þ es X.env:=by rfl) (hpl:(Õ8 pos (þ es X.env)).any (·.1)=false:=by rfl) :
  PE X (.Call (.Name x p) (e::es) [] pos) (D02 sp dvs E t):=by
 intro pins s σ H Q I h;refine Ì0 (I60 I hg hm ?_ hdb);refine callWith_K (h₀:=X.base) I.ok.mod.kin hk (thn (ha pos pins s σ H _ I h) λus s1 ⟨vs,H1,I1,r,q⟩=>⟨I1.kIn,?_⟩) he hpl;exact n02 F hr hb hd hx I1 r q
end
structure k00(N P:List Str)(sc:Scope):Prop where
 kind:sc.kind=.function
 co:sc.isCoroutine=false
 gen:sc.isGenerator=false
 nd:N.Nodup
 pre:N.take P.length=P
 par:∀ x∈P,sc.names.lookup x=some .local∨sc.names.lookup x=some .cell
 nofree:∀ y∈sc.names,y.2≠.free
theorem P70{kindOf:Str->Option Ë5}{x:Str}:∀ {binds:List (Str × Ä)}{m:Str->Option Ä},(∀ v,(x,v) ∉ binds)->bindL kindOf binds m x=m x
 |[],_,_=>rfl
 |(n,v)::r,m,h=>by
  unfold bindL;rw[P70 λw hw=>h w (È _ hw)];split
  ·have:x≠n:=by rintro rfl;exact h v Ë
   simp[this]
  ·rfl
theorem P80{kindOf:Str->Option Ë5}{x:Str}:∀ {binds:List (Str × Ä)}{m:Str->Option Ä},(∀ v,(x,v) ∉ binds)->bindC kindOf binds m x=m x
 |[],_,_=>rfl
 |(n,v)::r,m,h=>by
  unfold bindC;rw[P80 λw hw=>h w (È _ hw)];split
  ·rfl
  ·have:x≠n:=by rintro rfl;exact h v Ë
   simp[this]
theorem P90{kindOf:Str->Option Ë5}{x:Str}{v:Ä}:∀ {P:List Str}{vs:List Ä}{i:Nat}{m:Str->Option Ä},P.Nodup->P[i]?=some x->vs[i]?=some v->kindOf x=some .local ->
  bindL kindOf (P.zip vs) m x=some v
 |[],_,_,_,_,h,_,_=>by simp at h|_::_,[],_,_,_,_,h,_=>by simp at h
 |p::P,w::vs,0,m,nd,h1,h2,hk=>by
  simp at h1 h2;subst h1;subst h2;show bindL kindOf ((p,w)::P.zip vs) m p=_;unfold bindL;rw[P70 λv hv=>(Ó9.mp nd).1 (of_mem_zip hv).1,if_pos hk];simp
 |p::P,w::vs,i + 1,m,nd,h1,h2,hk=>by
  show bindL kindOf ((p,w)::P.zip vs) m x=_;unfold bindL;exact P90 (i:=i) (Ó9.mp nd).2 (by simpa using h1) (by simpa using h2) hk
theorem Q00{kindOf:Str->Option Ë5}{x:Str}{v:Ä}:∀ {P:List Str}{vs:List Ä}{i:Nat}{m:Str->Option Ä},P.Nodup->P[i]?=some x->vs[i]?=some v->kindOf x≠some .local ->
  bindC kindOf (P.zip vs) m x=some v
 |[],_,_,_,_,h,_,_=>by simp at h|_::_,[],_,_,_,_,h,_=>by simp at h
 |p::P,w::vs,0,m,nd,h1,h2,hk=>by
  simp at h1 h2;subst h1;subst h2;show bindC kindOf ((p,w)::P.zip vs) m p=_;unfold bindC;rw[P80 λv hv=>(Ó9.mp nd).1 (of_mem_zip hv).1,if_neg hk];simp
 |p::P,w::vs,i + 1,m,nd,h1,h2,hk=>by
  show bindC kindOf ((p,w)::P.zip vs) m x=_;unfold bindC;exact Q00 (i:=i) (Ó9.mp nd).2 (by simpa using h1) (by simpa using h2) hk
def start(N:List Str)(vs:List V):St:=vs.map some++ë (N.length - vs.length) none
def F90(CX:CXT)(P:Ý)(w:ç)(K:Â)(mg:Str->Option Ä)(base:é)(N:List Str)(qual:Str)(scope:ý)(f:Ç)(cd:Ä)(A:ø)(outer:List Env)(s:Æ)(H:Hp)(E:XK):Cx where
 prog:=P
 w:=w
 K:=K
 mg:=mg
 base:=base
 A:=A.deeper (Ï6 qual scope s.heap.objs.size f cd)
 N:=N
 s₀:=s
 H₀:=H
 env:=Ï6 qual scope s.heap.objs.size f cd
 outer:=outer
 stack:=Ï6 qual scope s.heap.objs.size f cd::outer
 ex:=[]
 calm:=true
 fn:=λ_=>true
 pn:=[]
 xe:=λe s'=>Î (Ô P w) (A.deeper (Ï6 qual scope s.heap.objs.size f cd)) (leaving (Ï6 qual scope s.heap.objs.size f cd) e) (λ_ s''=>CX outer H s E e s'') (λe' s''=>CX outer H s E e' s'') s'
theorem d91{sc:ý}{n:Nat}{x:Str}(h:sc.names.lookup x=some .cell):∃ c,(cellsFrom n sc.names []).lookup x=some c:=by
 have q:=cellsFrom_some sc.names n [] (.inl h);exact Þ1.mp q
theorem Q10{CX:CXT}{P:Ý}{w:ç}{K:Â}{mg:Str->Option Ä}{base:é}{N ps:List Str}{qual:Str}{scope:ý}{f:Ç}{cd:Ä}{A:ø}{outer:List Env}{s s1:Æ}{H:Hp}{E:XK}{us:List Ä}{vs:List V}
  (S:k00 N ps scope) (hd:A.handled=none) (e0:X41 P w K mg base A outer s H) (hl:vs.length=ps.length) (r:Vals vs us)
  (x:InCallC s s.heap.objs.size (bindL (Ï6 qual scope s.heap.objs.size f cd).kindOf (ps.zip us) λ_=>none) (cellsFrom (s.heap.objs.size + 1) scope.names []) (bindC (Ï6 qual scope s.heap.objs.size f cd).kindOf (ps.zip us) λ_=>none) s1) :
  Inv (F90 CX P w K mg base N qual scope f cd A outer s H E) [] (start N vs) H s1:=by
 have hpl:ps.length<=N.length:=by have:=congrArg List.length S.pre;rw[Æ7] at this;omega
 obtain⟨h1,tk,rfl,hk⟩:=x.done;have noA:∀ b:Ç,b ∉ (F90 CX P w K mg base N qual scope f cd A outer s H E).ex:=λb z=>absurd (show b∈([]:List Ç) from z) (by simp)
 refine⟨⟨e0.mod,S.kind,rfl,rfl,Í _,λy z c h1 h2=>?_,λy hy=>?_,λy c _ h=>?_,λ_=>hd,à4 e0.frames,.inr ⟨rfl,rfl⟩,λb z=>absurd z (noA b),e0.bs,e0.bsz,λb _ _=>noA b,λb z=>absurd z (noA b),e0.k41,e0.frf⟩,
  rfl,e0.bare,Un.kept hk,⟨_,x.toInCall.ns,λi y v h1 h2 h3=>?_⟩,λy c h=>⟨_,x.cell y c h⟩,e0.hok.fresh (Í _),λy c h=>?_,λp hp=>absurd (show p∈([]:List (Ç × Obj)) from hp) (by simp),e0.hok.kept hk,?_⟩
 ·exact name_of_addr x.apart (Â4 h1) (Â4 h2)
 ·have hy:scope.names.lookup y=some .cell∨scope.names.lookup y=some .free:=hy;rcases hy with hy | hy
  ·exact d91 hy
  ·exact absurd rfl (S.nofree _ (Â4 hy))
 ·exact É5 (x.above y c (Â4 h))
 ·have hi:i < vs.length:=by
   unfold start at h2;by_cases hi:i < vs.length
   ·exact hi
   ·rw[Å4 (by simpa using hi)] at h2
    rw[Ò4] at h2;split at h2 <;> cases h2
  have ha:vs[i]?=some v:=by
   unfold start at h2;rw[Ð2 (by simpa using hi),Û] at h2
   cases e:vs[i]? with
   |none=>rw[e] at h2;cases h2
   |some a=>rw[e] at h2;cases h2;rfl
  obtain⟨u,hu,rv⟩:=r.get ha;have hp:ps[i]?=some y:=by
   rw[← S.pre,List.getElem?_take_of_lt ∅];exact h1
  have ndP:ps.Nodup:=by rw[← S.pre];exact S.nd.sublist (List.take_sublist _ _)
  refine⟨u,rv,?_⟩;rcases S.par y (í hp) with k | k
  ·exact .inl ⟨k,P90 ndP hp hu k⟩
  ·obtain⟨c,e⟩:=d91 (n:=s.heap.objs.size + 1) k;refine .inr ⟨.inl k,c,e,?_⟩;have q:=x.cell y c e;rw[Q00 ndP hp hu (by show scope.names.lookup y≠_;rw[k];decide)] at q
   exact q
 ·exact e0.hok.fresh (É5 (x.above y c (Â4 h)))
 ·unfold start;show _=N.length;rw[Â0,É,à7];omega
theorem D12{CX:CXT}{P:Ý}{w:ç}{K:Â}{mg:Str->Option Ä}{base:é}{k:Nat}{f:Ç}{name qual:Str}{params:Î3}{body:List Ä8}{scope:ý}{dV kV doc pm cdv ct oc:Ä}{an od:Option Ç}
  {osl:Array (Option Ä)}{N ps:List Str}{sp:Sp} (lk:K.lookup f=some ⟨oc,od,.func (fnOf name qual params body scope dV kV doc pm an cdv ct),osl⟩) (hcd:PySem.W.codeIn K cdv qual=true) (S:k00 N ps scope)
  (len:∀ vs H Q E,sp vs H Q E->vs.length=ps.length)
  (hbody:∀ (A:ø) (outer:List Env) (s:Æ) (H:Hp) (vs:List V) (Q:VK) (E:XK),A30 k (A.deeper (Ï6 qual scope s.heap.objs.size f cdv))->sp vs H Q E ->
   ∃ t,PSs (F90 CX P w K mg base N qual scope f cdv A outer s H E) body t/\t { nx:=λ_ H'=>Q .non H',rt:=Q } (start N vs) H) :
  W90 P w K mg base CX (k + 1) f (fnOf name qual params body scope dV kV doc pm an cdv ct) ps sp:=by
 refine⟨len,λA outer s H args us vs Q E hr e0 hb r hsp=>?_⟩;have hl:=len _ _ _ _ hsp;have KX:K.In s.heap:=e0.mod.kin.keeps λb o e=>(e0.bs b o e).1;have lim:s.heap.NoLimit:=e0.mod.nolimit.keeps λb o e=>(e0.bs b o e).1;have hkind:∀ y∈ps.zip us,scope.names.lookup y.1=some .local∨(scope.names.lookup y.1=some .cell/\((cellsFrom (s.heap.objs.size + 1) scope.names []).lookup y.1).isSome=true):=λ⟨n,v⟩ hy=>by
  rcases S.par n (of_mem_zip hy).1 with q | q
  ·exact .inl q
  ·exact .inr ⟨q,cellsFrom_some _ _ _ (.inl q)⟩
 refine codeAny_call_function hr.depth (KX _ _ lk) rfl S.co S.gen rfl (codeRec_of KX hcd) (hb _ _ _ _ ?_);refine à5 S.kind hkind λenv he s1 x=>?_;subst he;refine⟨lim.keeps x.toInCall.keep,codeAny_func ?_⟩;obtain⟨t,ht,hq⟩:=hbody A outer s H vs Q E (hr.deeper _) hsp;have I:Inv (F90 CX P w K mg base N qual scope f cdv A outer s H E) [] (start N vs) H s1:=Q10 S hr.hd e0 hl r x;refine Â1 (ht [] s1 (start N vs) H _ I hq) (λfl s' hs=>?_) λe s' hs=>hs;have fin:∀ {σ':St}{H':Hp}{v:V}{u:Ä},Inv (F90 CX P w K mg base N qual scope f cdv A outer s H E) [] σ' H' s'->RelV v u->Q v H'->CE outer P w H s Q u s' :=
  λ{σ' H' v u} J rv q=>⟨v,H',J.os,J.bare,J.base,J.hok,rv,q⟩
 cases fl with
 |ret u =>
  obtain⟨v,σ',H',J,rv,q⟩:=hs;exact fin J rv q
 |next =>
  obtain⟨σ',H',J,q⟩:=hs;exact fin (v:=V.non) (u:=â) J rfl q
 |brk =>
  obtain⟨_,_,_,q⟩:=hs;exact À2 q
 |cont =>
  obtain⟨_,_,_,q⟩:=hs;exact À2 q
section
variable {X:Cx}{x:Str}{p pos:Pos}{e:Ï}{es:List Ï}{t:TA}{id T:String}{r:List V->Hp->VK->Prop}
def tCB(r:List V->Hp->VK->Prop)(t:TA):TE:=λσ H Q=>t σ H λvs H1=>r vs H1 Q
theorem t90(hc:g10 X (.builtin id) r)(hg:Gl X x)(hm:X.mg x=none)(hv:ï x=some (.builtin id))(ha:PA X (e::es) t)(hn:x≠"__name__":=by decide)(hdb:(x == ("__debug__":Str))=false:=by decide)
  (he:þ (e::es) X.env=(false,eval e X.env)::þ es X.env:=by rfl) (hpl:(Õ8 pos (þ es X.env)).any (·.1)=false:=by rfl):PE X (.Call (.Name x p) (e::es) [] pos) (tCB r t):=by
 intro pins s σ H Q I h;refine Ì0 (t70 I hg hm hv ?_ hn hdb);exact PyProof.Rows.callWith_builtin1 (thn (ha pos pins s σ H _ I h) λus s1 ⟨vs,H1,I1,r1,q1⟩=>hc pins s1 σ H1 vs us Q I1 r1 q1) he hpl
theorem Q20(hc:g10 X (.type T) r)(hg:Gl X x)(hm:X.mg x=none)(hv:ï x=some (.type T))(ha:PA X (e::es) t)(hn:x≠"__name__":=by decide)(hdb:(x == ("__debug__":Str))=false:=by decide)
  (he:þ (e::es) X.env=(false,eval e X.env)::þ es X.env:=by rfl) (hpl:(Õ8 pos (þ es X.env)).any (·.1)=false:=by rfl):PE X (.Call (.Name x p) (e::es) [] pos) (tCB r t):=by
 intro pins s σ H Q I h;refine Ì0 (t70 I hg hm hv ?_ hn hdb);exact Á2 (thn (ha pos pins s σ H _ I h) λus s1 ⟨vs,H1,I1,r1,q1⟩=>hc pins s1 σ H1 vs us Q I1 r1 q1) he hpl
end
end L2
namespace HT
open PySem PyProof.Rows
theorem H31(A:ø)(s:Æ)(a:Int)(t:Tok)(c:Int)(u:Tok):∃ e,Ö6 A s (.int a t) (.int c u) e/\(e=true↔a=c) :=
 ⟨(a == c),Ö6.int_int a t c u,by simp⟩
theorem e01(A:ø)(s:Æ)(a:Int)(t:Tok)(c:Int)(u:Tok)(prog:Ý)(w:ç)(E:Ä->Æ->Prop)(Q:Ä->Æ->Prop)(h:Q (.bool (decide (a < c))) s) :
  Î (Ô prog w) A (richCompare .Lt (.int a t) (.int c u)) Q E s :=
 (lt_int h:Î (Ô prog w) A (ü .Lt (.int a t) (.int c u)) Q E s)
section
variable {prog:Ý}{w:ç}{A:ø}{E:Ä->Æ->Prop}{s:Æ}
theorem X61{t b:Ç}{vs ws:List Ä}{Q:Ä->Æ->Prop}(ht:Ï2 s.heap t vs.toArray)(hb:Ï2 s.heap b ws.toArray)(hv:vs≠[])
  (h1:ws=[]->Q (.ref t) s) (h2:ws≠[]->Q (.ref s.heap.objs.size) { s with heap:=s.heap.push { cls:=.type "tuple",data:=.seq (vs++ws).toArray } })
  (hsz:vs.length + ws.length<=Ú):Î (Ô prog w) A (Ä2 .Add (.ref t) (.ref b)) Q E s:=by
 obtain⟨⟨cls,dd,data,sl⟩,ho,hc,n,hd⟩:=id ht;obtain⟨⟨cls2,dd2,data2,sl2⟩,ho2,hc2,n2,hd2⟩:=id hb;simp only at hc hd hc2 hd2;subst hc hd hc2 hd2;have e:vs.toArray++ws.toArray=(vs++ws).toArray:=by simp
 by_cases hw:ws=[]
 ·exact concat_meets ⟨_,ho,rfl⟩ ⟨_,ho2,rfl⟩ Þ7 seq_tuple_add Ñ9 Ð7 (Ï7 _ _)
   (tuple_addW1 t b vs.toArray ws.toArray n n2 dd dd2 sl sl2 (by simpa using hv) (by simp[hw])) ⟨ho,ho2,h1 hw⟩
 ·refine concat_meets ⟨_,ho,rfl⟩ ⟨_,ho2,rfl⟩ Þ7 seq_tuple_add Ñ9 Ð7 (Ï7 _ _)
   (tuple_addW2 t b vs.toArray ws.toArray n n2 dd dd2 sl sl2 (by simpa using hv) (by simpa using hw) (by rw[Ó,Ó];exact hsz)) ⟨ho,ho2,?_⟩
  rw[e];exact h2 hw
def sIx(n d:Nat):Option Int->Nat
 |none=>d|some v=>if v < 0 then(v + (n:Int)).toNat else min v.toNat n
theorem q91(n d k:Nat):sIx n d (some (k:Int))=min k n:=by
 show(if (k:Int) < 0 then((k:Int) + (n:Int)).toNat else min (k:Int).toNat n)=min k n;rw[if_neg ∅,Á9]
theorem n12(n d:Nat)(hd:d<=n)(o:Option Int):sIx n d o<=n:=by
 cases o with
 |none=>exact hd
 |some v =>
  show(if v < 0 then(v + (n:Int)).toNat else min v.toNat n)<=n;by_cases hv:v < 0
  ·rw[if_pos hv];omega
  ·rw[if_neg hv];exact Nat.min_le_right _ _
theorem r01(v:Int)(n d:Nat):(if v < 0 then max (v + (n:Int)) 0 else min v (n:Int))=((sIx n d (some v):Nat):Int):=by
 show(if v < 0 then max (v + (n:Int)) 0 else min v (n:Int))=(((if v < 0 then(v + (n:Int)).toNat else min v.toNat n):Nat):Int);by_cases hv:v < 0
 ·simp only[if_pos hv];omega
 ·simp only[if_neg hv];omega
theorem k71(lo hi:Option Int)(n:Nat):Í4 lo hi 1 (n:Int)=(((sIx n 0 lo:Nat):Int),((sIx n n hi:Nat):Int)):=by
 have h1:¬ ((1:Int) < 0):=by omega
 unfold Í4;simp only[h1,if_false];refine Prod.ext ?_ ?_
 ·cases lo with
  |none=>rfl|some v=>exact r01 v n 0
 ·cases hi with
  |none=>rfl|some v=>exact r01 v n n
theorem k81(i j:Nat):É0 (i:Int) (j:Int) 1=j - i:=by
 unfold É0;have h1:(1:Int) > 0:=by omega
 simp only[h1,if_true,Int.ediv_one];split <;> omega
theorem G40{v:Ä}{o:Option Int}{Q:Option Int->Æ->Prop}(p:Ù2 v o)(h:Q o s):Î (Ô prog w) A (ÿ.Slice.slicePartIndex v) Q E s:=by
 cases p with
 |none=>exact Ø7 h|int i t=>exact slicePart_int h
theorem m80{sl:Ç}{vl vu:Ä}{lo hi:Option Int}{n:Nat}{Q:Int × Int × Nat->Æ->Prop}(hs:s.heap.IsSliceOf sl vl vu .none)(pl:Ù2 vl lo)(pu:Ù2 vu hi)
  (h:Q (((sIx n 0 lo:Nat):Int),1,sIx n n hi - sIx n 0 lo) s):Î (Ô prog w) A (Ô3 (.ref sl) (pure (n:Int))) Q E s:=by
 obtain⟨os,hos,hcs,hds⟩:=id hs;unfold Ô3 sliceFields;refine À (À (Á6 hos hds (x:=vl) rfl (À (Á6 hos hds (x:=vu) rfl (À (Á6 hos hds (x:=.none) rfl (Å ?_)))))));refine À (Ø7 ?_);show Î _ _ (if ((1:Int) == 0)=true then _ else _) _ _ s;rw[if_neg (-0)]
 refine À (G40 pl (À (G40 pu (À (Å ?_)))));show Î _ _ (match Í4 lo hi 1 (n:Int) with | (lo,hi)=>pure (lo,(1:Int),É0 lo hi 1)) _ _ s
 rw[k71 lo hi n];show Î _ _ (pure (((sIx n 0 lo:Nat):Int),(1:Int),É0 ((sIx n 0 lo:Nat):Int) ((sIx n n hi:Nat):Int) 1)) _ _ s;rw[k81];exact Å h
theorem H41(xs:Array Ä)(i k:Nat):((ì k).filterMap λ(m:Nat)=>xs[((i:Int) + (m:Int) * 1).toNat]?).toArray=((xs.toList.drop i).take k).toArray:=by
 have e:(λ(m:Nat)=>xs[((i:Int) + (m:Int) * 1).toNat]?)=λm=>xs[i + m]?:=by
  funext m
  have:((i:Int) + (m:Int) * 1).toNat=i + m:=by omega
  rw[this]
 rw[e];have:=pick_run xs i k;rw[List.filterMap_map] at this;have e2:((λx=>xs[x]?) ∘ λx=>i + x)=λm=>xs[i + m]?:=rfl;rw[e2] at this;rw[this]
theorem w40{t sl:Ç}{items:Array Ä}{vl vu:Ä}{lo hi:Option Int}{Q:Ä->Æ->Prop}(ht:Ï2 s.heap t items)(hs:s.heap.IsSliceOf sl vl vu .none)(pl:Ù2 vl lo)(pu:Ù2 vu hi)
  (hw:¬ (sIx items.size 0 lo=0/\sIx items.size items.size hi=items.size))
  (h:Q (.ref s.heap.objs.size) { s with heap:=s.heap.push { cls:=.type "tuple",data:=.seq ((items.toList.drop (sIx items.size 0 lo)).take (sIx items.size items.size hi - sIx items.size 0 lo)).toArray } })
  (hsz:items.size<=Ú):Î (Ô prog w) A (Ó2 (.ref t) (.ref sl)) Q E s:=by
 have htake:sizeOk (.seq ((items.toList.drop (sIx items.size 0 lo)).take (sIx items.size items.size hi - sIx items.size 0 lo)).toArray):=by
  show((items.toList.drop (sIx items.size 0 lo)).take (sIx items.size items.size hi - sIx items.size 0 lo)).toArray.size<=Ú;rw[Ó,Æ7,Í5,Ê7];omega
 have hj:sIx items.size items.size hi<=items.size:=n12 _ _ (Í _) hi;obtain⟨os,hos,hcs,hds⟩:=id hs;have hTs:s.TypeIs (.ref sl) "slice":=⟨os,hos,hcs⟩;unfold Ó2
 try with_reducible refine À8 ?_
 first | refine À (Å ?_) | skip
 refine À (Ý0 ht.typeIs (-0) ?_)
 refine À (À6 (name:=Á0 "__getitem__") ht.typeIs ô
  (À5 ô ht.typeIs entry_tuple_getitem ?_ (Ü2 _ _)))
 show Î _ _ (tupleItemsOf (.ref t) >>= _) _ _ s;refine À (tupleItemsOf_ ht ?_);refine À (Ç9 hTs ?_);rw[if_pos (-0)]
 refine À (m80 hs pl pu ?_);have hno:¬ ((((sIx items.size 0 lo:Nat):Int) == 0&&(1:Int) == 1&&(sIx items.size items.size hi - sIx items.size 0 lo) == items.size)=true):=by
  intro q;rw[Á,Á] at q;have q1:((sIx items.size 0 lo:Nat):Int)=0:=eq_of_beq q.1.1;have q2:sIx items.size items.size hi - sIx items.size 0 lo=items.size:=eq_of_beq q.2;exact hw ⟨by omega,by omega⟩
 show Î _ _ (if (((sIx items.size 0 lo:Nat):Int) == 0&&(1:Int) == 1&&(sIx items.size items.size hi - sIx items.size 0 lo) == items.size)=true then _ else _) _ _ s;rw[if_neg hno,H41]
 first
  |exact À (m:=Ç0 _) (å (Å ⟨_,rfl,Å h⟩) htake)
  |exact À (m:=Ç0 _) (å (À (Å (Å ⟨_,rfl,Å h⟩))) htake)
  |exact À (À (m:=Ç0 _) (å (Å (Å ⟨_,rfl,Å h⟩)) htake))
  |exact À (À (m:=Ç0 _) (å (Å ⟨_,rfl,Å h⟩) htake))
end
end HT
namespace L2
open PySem PySem.Spec PyProof.Rows
abbrev TO:=St->Hp->(Option Int->Hp->Prop)->Prop
def PO(X:Cx)(e:Option Ï)(t:TO):Prop :=
 ∀ (pins:List (Ç × Obj)) (s:Æ) (σ:St) (H:Hp) (Q:Option Int->Hp->Prop),Inv X pins σ H s->t σ H Q ->
  Î (Ô X.prog X.w) X.A (evalPart e X.env) (λu s'=>∃ o H',Inv X pins σ H' s'/\Ù2 u o/\Q o H') X.xe s
def X71:TO:=λ_ H Q=>Q none H
def D22(t:TE):TO:=λσ H Q=>t σ H λx H1=>∃ i,x=.int i/\Q (some i) H1
theorem intsAre_of{ns:List Int}:∀ {us:List Ä},Vals (ns.map V.int) us->Ë7 us ns:=by
 induction ns with
 |nil=>intro us r;rw[map_nil] at r;cases r;exact .nil
 |cons n ns ih =>
  intro us r;rw[Å7] at r;cases r with
  |cons r1 r2 =>
   obtain⟨t,e⟩:=r1;subst e;exact .cons n t (ih r2)
section
variable {X:Cx}{e:Ï}{te:TE}{lo hi:Option Ï}{tl th:TO}{pos p2:Pos}
theorem X81:PO X none X71:=by
 intro pins s σ H Q I h;rw[evalPart_none];exact Å ⟨none,H,I,.none,h⟩
theorem X91(h:PE X e te):PO X (some e) (D22 te):=by
 intro pins s σ H Q I hw;rw[evalPart_some];refine thn (h pins s σ H _ I hw) λu s1 ⟨x,H1,I1,r1,q1⟩=>?_;obtain⟨i,rfl,q⟩:=q1;obtain⟨t,rfl⟩:=r1;exact⟨some i,H1,I1,.int i t,q⟩
def SlR(X:Cx)(r:V->Option Int->Option Int->Hp->VK->Prop):Prop :=
 ∀ (pins:List (Ç × Obj)) (s:Æ) (σ:St) (H:Hp) (x:V) (v vl vu:Ä) (lo hi:Option Int) (sl:Ç) (Q:VK),Inv X pins σ H s->RelV x v->s.heap.IsSliceOf sl vl vu .none->Ù2 vl lo->Ù2 vu hi->r x lo hi H Q ->
  ∃ T id,typeLookup (.type T) "__getitem__"=pure (some (.builtin id))/\s.TypeIs v T/\Î (Ô X.prog X.w) X.A (Ó2 v (.ref sl)) (EP X pins σ Q) X.xe s
def tSl(r:V->Option Int->Option Int->Hp->VK->Prop)(te:TE)(tl th:TO):TE:=λσ H Q=>te σ H λx H1=>tl σ H1 λl H2=>th σ H2 λu H3=>r x l u H3 Q
theorem H51{r:V->Option Int->Option Int->Hp->VK->Prop}(hr:SlR X r)(he:PE X e te)(hl:PO X lo tl)(hu:PO X hi th):PE X (.Subscript e (.Slice lo hi none p2) pos) (tSl r te tl th):=by
 intro pins s σ H Q I h;refine Subscript_ (thn (he pins s σ H _ I h) λv s1 ⟨x,H1,I1,r1,q1⟩=>?_);refine wpAny_Slice (thn (hl pins s1 σ H1 _ I1 q1) λvl s2 ⟨l,H2,I2,pl,q2⟩=>thn (hu pins s2 σ H2 _ I2 q2) λvu s3 ⟨u,H3,I3,pu,q3⟩=>?_);rw[evalPart_none];refine Å ?_;have I4:Inv X pins σ H3 { s3 with heap:=s3.heap.push { cls:=.type "slice",data:=.fields #[vl,vu,.none] } }:=I3.kept (t':=s3.toks) λb ob q=>Ã _ q;obtain⟨T,id,hT,ht,hg⟩:=hr pins { s3 with heap:=s3.heap.push { cls:=.type "slice",data:=.fields #[vl,vu,.none] } } σ H3 x v vl vu l u s3.heap.objs.size Q I4 r1 (Ò6 ..) pl pu q3;show Î (Ô X.prog X.w) X.A (subscriptTail e (.Slice lo hi none p2) v (.ref s3.heap.objs.size)) (EP X pins σ Q) X.xe { s3 with heap:=s3.heap.push { cls:=.type "slice",data:=.fields #[vl,vu,.none] } };exact tail_any (ops:=[.ref s3.heap.objs.size,v]) ht hT hg (by with_unfolding_all rfl)
def H61(xs:List V)(lo hi:Option Int):List V:=(xs.drop (HT.sIx xs.length 0 lo)).take (HT.sIx xs.length xs.length hi - HT.sIx xs.length 0 lo)
theorem B90(xs:List V)(lo hi:Option Int):(H61 xs lo hi).length<=xs.length:=by
 unfold H61;rw[Æ7,Í5];omega
theorem Vals.I90{xs:List V}{us:List Ä}(r:Vals xs us):us=[]↔xs=[]:=by
 cases r with
 |nil=>simp|cons _ _=>simp
end
def ixN(n:Nat)(i:Int):Option Nat:=if 0<=i then(if i < n then some i.toNat else none) else if -(n:Int)<=i then some (i + n).toNat else none
def atI{α:Type}(xs:List α)(i:Int):Option α:=(ixN xs.length i).bind λj=>xs[j]?
theorem r11{n:Nat}{i:Int}{j:Nat}(h:ixN n i=some j):seqIndex? i n=some j/\j < n/\-(n:Int)<=i/\i < n:=by
 unfold ixN at h;by_cases h0:0<=i
 ·rw[if_pos h0] at h;by_cases h1:i < n
  ·rw[if_pos h1] at h;have e:i.toNat=j:=À7 h;exact⟨by rw[ß5 h0 h1,e],by omega,by omega,h1⟩
  ·rw[if_neg h1] at h;cases h
 ·rw[if_neg h0] at h;by_cases h1:-(n:Int)<=i
  ·rw[if_pos h1] at h;have e:(i + n).toNat=j:=À7 h;exact⟨by rw[seqIndex_neg ∅ h1,e],by omega,h1,by omega⟩
  ·rw[if_neg h1] at h;cases h
theorem X70{α:Type}{xs:List α}{i:Int}{v:α}(h:atI xs i=some v):∃ j,seqIndex? i xs.length=some j/\xs[j]?=some v/\j < xs.length/\-(xs.length:Int)<=i/\i < xs.length:=by
 unfold atI at h;cases e:ixN xs.length i with
 |none=>rw[e] at h;cases h
 |some j =>
  rw[e] at h;obtain⟨h1,h2,h3,h4⟩:=r11 e;exact⟨j,h1,h,h2,h3,h4⟩
theorem w50{α:Type}{xs:List α}{j:Nat}{v:α}(h:xs[j]?=some v):atI xs (j:Int)=some v:=by
 have hj:j < xs.length:=(ß.mp h).1;have e:ixN xs.length (j:Int)=some j:=by
  unfold ixN;rw[if_pos ∅,if_pos ∅];simp
 unfold atI;rw[e];exact h
def r21(b:Ï):Prop:=∀ o i,subscripted b false o i=operate [o,i] (Ó2 o i)
def IxR(X:Cx)(r:R2):Prop :=
 ∀ (value slice:Ï) (pins:List (Ç × Obj)) (s:Æ) (σ:St) (H:Hp) (x y:V) (v u:Ä) (Q:VK),Inv X pins σ H s->RelV x v->RelV y u->r x y H Q ->
  subscripted slice false v u=operate [v,u] (Ó2 v u)->Î (Ô X.prog X.w) X.A (subscriptTail value slice v u) (EP X pins σ Q) X.xe s
def MtR(X:Cx)(id:String)(r:V->List V->Hp->VK->Prop):Prop :=
 ∀ (pins:List (Ç × Obj)) (s:Æ) (σ:St) (H:Hp) (x:V) (xs:List V) (v:Ä) (us:List Ä) (Q:VK),Inv X pins σ H s->RelV x v->Vals xs us->r x xs H Q ->
  Î (Ô X.prog X.w) X.A (call (.builtin id) (v::us)) (EP X pins σ Q) X.xe s
section
variable {X:Cx}{a b:Ï}{ta tb:TE}{pos:Pos}
theorem Y01{r:R2}(hr:IxR X r)(ha:PE X a ta)(hb:PE X b tb)(hs:r21 b):PE X (.Subscript a b pos) (tOp r ta tb):=by
 intro pins s σ H Q I h;exact Subscript_ (C12 ha hb I h λv u s2 x y H2 I2 rx ry q=>hr a b pins s2 σ H2 x y v u Q I2 rx ry q (hs _ _))
def D32(K:Â):R2:=λx y H Q=>∃ p xs i v,x=.ref p/\y=.int i/\SqL K H p xs/\atI xs i=some v/\Q v H
def Q82(K:Â):R2:=λx y H Q=>∃ p xs i v,x=.ref p/\y=.int i/\SqT K H p xs/\atI xs i=some v/\Q v H
theorem X80:IxR X (D32 X.K):=by
 intro value slice pins s σ H x y v u Q I rx ry h hs;obtain⟨p,xs,i,z,rfl,rfl,hq,he,q⟩:=h;cases rx;obtain⟨t,rfl⟩:=ry;obtain⟨its,r,pl,hz⟩:=I.list hq;obtain⟨j,h1,h2,h3,h4,h5⟩:=X70 he;obtain⟨w,ew,rw'⟩:=r.get h2;have hl:=r.length;have hn:=P50;have fin:EP X pins σ Q w s:=⟨z,H,I,rw',q⟩;by_cases h0:0<=i
 ·have hj:i.toNat=j:=by
   rw[ß5 h0 h5] at h1;exact À7 h1
  exact item_listR pl.isList h0 ∅ (by rw[hj];simpa using ew) fin hs
 ·have hj:(i + (its.toArray.size:Int)).toNat=j:=by
   rw[seqIndex_neg ∅ h4] at h1
   rw[Ó,← hl];exact À7 h1
  exact subscriptTail_builtinR (x:=w) pl.isList.typeIs slot_list_getitem.lookup
   (wpAny_getItem_list_neg (Q:=λr s'=>r=w/\EP X pins σ Q r s') pl.isList ∅ (by rw[Ó] <;> omega) ∅ (by rw[hj];simpa using ew) ⟨rfl,fin⟩) hs
theorem n22:IxR X (Q82 X.K):=by
 intro value slice pins s σ H x y v u Q I rx ry h hs;obtain⟨p,xs,i,z,rfl,rfl,hq,he,q⟩:=h;cases rx;obtain⟨t,rfl⟩:=ry;obtain⟨its,r,pl,hz⟩:=I.tuple hq;obtain⟨j,h1,h2,h3,h4,h5⟩:=X70 he;obtain⟨w,ew,rw'⟩:=r.get h2;have hl:=r.length;have hn:=P50;have fin:EP X pins σ Q w s:=⟨z,H,I,rw',q⟩;exact subscriptTail_builtinR (x:=w) pl.typeIs slot_tuple_getitem.lookup
  (getItem_tuple (j:=j) (Q:=λr s'=>r=w/\EP X pins σ Q r s') pl ∅ ∅ (by rw[Ó,← hl];exact h1) (by simpa using ew) ⟨rfl,fin⟩) hs
theorem k91(its:List Ä)(n j:Nat)(u:Ä):À1 (·.setIfInBounds j u) { cls:=.type "list",data:=.seq its.toArray n }={ cls:=.type "list",data:=.seq (its.set j u).toArray n }:=by
 simp[À1]
theorem Inv.lst{pins:List (Ç × Obj)}{σ:St}{H:Hp}{s:Æ}{p:Ç}{xs:List V}(I:Inv X pins σ H s)(h:H p=some (.lst xs)) :
  ∃ (its:List Ä) (n:Nat),Vals xs its/\s.heap.get? p=some { cls:=.type "list",data:=.seq its.toArray n }/\xs.length<=sizeLine:=by
 obtain⟨z,its,n,r,e⟩:=I.hok p _ h;exact⟨its,n,r,e,z⟩
theorem Inv.n32{pins:List (Ç × Obj)}{σ:St}{H:Hp}{s:Æ}{p:Ç}{xs ys:List V}{its its':List Ä}{n n':Nat}{f:Obj->Obj}(I:Inv X pins σ H s)(h:H p=some (.lst xs))
  (ho:s.heap.get? p=some { cls:=.type "list",data:=.seq its.toArray n }) (hf:f { cls:=.type "list",data:=.seq its.toArray n }={ cls:=.type "list",data:=.seq its'.toArray n' }) (r:Vals ys its') (hz:ys.length<=Ú) (t:Nat) :
  Inv X pins σ (upd H p (.lst ys)) { s with heap:=s.heap.update p f,toks:=t }:=by
 have e:(s.heap.update p f).get? p=some { cls:=.type "list",data:=.seq its'.toArray n' }:=by
  rw[Ç8 f ho (by rw[hf] <;> rfl),hf]
 refine I.write (x:=p) (e:=p) (by rw[h];trivial) (.inl rfl) (λb u hb q=>(Ë8 _ _ (Â3 hb)).trans q) ⟨_,e⟩ ?_
 exact⟨hz,its',n',r,e⟩
def D42:V->V->V->Hp->(Hp->Prop)->Prop:=λo i v H Q=>∃ p xs k j,o=.ref p/\i=.int k/\H p=some (.lst xs)/\ixN xs.length k=some j/\Q (upd H p (.lst (xs.set j v)))
theorem set_list:B62 X D42:=by
 intro pins s σ H o i v ov iv u Q I ro ri rv h;obtain⟨p,xs,k,j,rfl,rfl,hp,hj,q⟩:=h;cases ro;obtain⟨t,rfl⟩:=ri;obtain⟨its,n,r,ho,hz⟩:=I.lst hp;obtain⟨h1,h2,h3,h4⟩:=r11 hj;have hl:=r.length;have hn:=P50;have I':Inv X pins σ (upd H p (.lst (xs.set j v))) { s with heap:=s.heap.update p (À1 (·.setIfInBounds j u)) } :=
  I.n32 hp ho (k91 its n j u) (r.set rv j) (by rw[Ä1];exact hz) s.toks
 by_cases h0:0<=k
 ·have hk:k.toNat=j:=by
   rw[ß5 h0 h4] at h1;exact À7 h1
  exact PySem.W.ki_setAt ho h0 ∅ (by rw[Ó,← hl];exact h4) (by rw[hk];exact⟨_,I',q⟩)
 ·have hk:(k + (its.toArray.size:Int)).toNat=j:=by
   rw[seqIndex_neg ∅ h3] at h1
   rw[Ó,← hl];exact À7 h1
  exact PySem.W.ki_setBack ho ∅ (by rw[Ó,← hl];exact h3) ∅ (by rw[hk];exact⟨_,I',q⟩)
theorem Q30(lo hi:Option Int)(n:Nat):(Î8 lo hi none n).1=((HT.sIx n 0 lo:Nat):Int)/\(Î8 lo hi none n).2.1=((HT.sIx n n hi:Nat):Int)/\(Î8 lo hi none n).2.2=1:=by
 refine⟨?_,?_,rfl⟩
 ·cases lo with
  |none=>simp[Î8,HT.sIx]
  |some i =>
   simp only[Î8,HT.sIx,getD_none,show(1:Int) > 0 by decide,if_true]
   by_cases h:i < 0
   ·simp only[h,if_true] <;> omega
   ·simp only[h,if_false] <;> omega
 ·cases hi with
  |none=>simp[Î8,HT.sIx]
  |some i =>
   simp only[Î8,HT.sIx,getD_none,show(1:Int) > 0 by decide,if_true]
   by_cases h:i < 0
   ·simp only[h,if_true] <;> omega
   ·simp only[h,if_false] <;> omega
theorem J00(its:List Ä)(lo hi:Option Int):slicePick its.toArray lo hi none=((its.drop (HT.sIx its.length 0 lo)).take (HT.sIx its.length its.length hi - HT.sIx its.length 0 lo)).toArray:=by
 obtain⟨h1,h2,h3⟩:=Q30 lo hi its.toArray.size;unfold slicePick;rw[h1,h2,h3];simp only[sliceRange_one,pick_run,Ó] <;> rfl
def Q92(K:Â):V->Option Int->Option Int->Hp->VK->Prop:=λx lo hi H Q=>∃ a xs,x=.ref a/\SqL K H a xs/\∀ p,H p=none->Q (.ref p) (upd H p (.lst (H61 xs lo hi)))
theorem Y11:SlR X (Q92 X.K):=by
 intro pins s σ H x v vl vu lo hi sl Q I rx hs pl pu h;obtain⟨a,xs,rfl,hx,q⟩:=h;cases rx;obtain⟨its,r,ht,hz⟩:=I.list hx;have hlen:=r.length;refine⟨"list",_,slot_list_getitem.lookup,ht.isList.typeIs,?_⟩;refine wpAny_getItem_list_slice ht.isList hs pl pu .none (by simp) ?_ (by rw[Ó] <;> omega)
 rw[J00,← hlen];refine⟨.ref s.heap.objs.size,_,I.laid (t':=s.toks) (o:=.lst (H61 xs lo hi)) (λb ob q=>Ã _ q) (Í _) ?_,rfl,q _ (I.hok.fresh (Í _))⟩;exact⟨Ò (B90 xs lo hi) hz,_,0,(r.drop (HT.sIx xs.length 0 lo)).take (HT.sIx xs.length xs.length hi - HT.sIx xs.length 0 lo),Ê _ rfl⟩
theorem Q40:g10 X (.builtin "len") (λxs H Q=>∃ p ys,xs=[.ref p]/\(SqL X.K H p ys∨SqT X.K H p ys)/\Q (.int ys.length) H):=by
 intro pins s σ H xs us Q I r h;obtain⟨p,ys,rfl,hq,q⟩:=h;obtain⟨u,rfl,rx⟩:=vals1 r;cases rx;have hn:=P50;rcases hq with hq | hq
 ·obtain⟨its,r',pl,hz⟩:=I.list hq;have hlen:=r'.length;exact Calls.call_len_list pl.isList (by simp only[Ó] <;> omega) ⟨.int ys.length,H,I.tok _,⟨s.toks + 1,by rw[Ó,hlen]⟩,q⟩
 ·obtain⟨its,r',pl,hz⟩:=I.tuple hq;have hlen:=r'.length;exact len_tuple pl (by simp only[Ó] <;> omega) ⟨.int ys.length,H,I.tok _,⟨s.toks + 1,by rw[Ó,hlen]⟩,q⟩
theorem Q50:g10 X (.type "list") (λxs H Q=>∃ p ys,xs=[.ref p]/\(SqL X.K H p ys∨SqT X.K H p ys)/\∀ l,H l=none->Q (.ref l) (upd H l (.lst ys))):=by
 intro pins s σ H xs us Q I r h;obtain⟨p,ys,rfl,hq,q⟩:=h;obtain⟨u,rfl,rx⟩:=vals1 r;cases rx;have fin:∀ (its:List Ä),Vals ys its->ys.length<=Ú->∀ (h':é) (c':Nat),(∀ b o',s.heap.get? b=some o'->h'.get? b=some o') ->
   h'.get? s.heap.objs.size=some { cls:=.type "list",dict:=none,data:=.seq its.toArray c',slots:=#[] }->EP X pins σ Q (.ref s.heap.objs.size) { s with heap:=h' }:=λits r' hz h' c' kp e =>
  ⟨.ref s.heap.objs.size,_,I.laid (t':=s.toks) kp (Í _) (show g90 X.prog X.w _ h' _ (.lst ys) from⟨hz,its,c',r',e⟩),rfl,q _ (I.hok.fresh (Í _))⟩
 rcases hq with hq | hq
 ·obtain⟨its,r',pl,hz⟩:=I.list hq;have hlen:=r'.length;obtain⟨o,ho,hc,n,hd⟩:=pl.isList;exact call_list_seq p (.inl rfl) ho hc hd (λh' c' kp e=>fin its r' hz h' c' kp e) (by simp only[Ó] <;> omega)
 ·obtain⟨its,r',pl,hz⟩:=I.tuple hq;have hlen:=r'.length;obtain⟨o,ho,hc,n,hd⟩:=pl;exact call_list_seq p (.inr rfl) ho hc hd (λh' c' kp e=>fin its r' hz h' c' kp e) (by simp only[Ó] <;> omega)
theorem J10:g10 X (.type "tuple") (λxs H Q=>∃ p ys,xs=[.ref p]/\((SqL X.K H p ys/\∀ l,H l=none->Q (.ref l) (upd H l (.tup ys)))∨(SqT X.K H p ys/\Q (.ref p) H))):=by
 intro pins s σ H xs us Q I r h;obtain⟨p,ys,rfl,h⟩:=h;obtain⟨u,rfl,rx⟩:=vals1 r;cases rx;rcases h with ⟨hq,q⟩ | ⟨hq,q⟩
 ·obtain⟨its,r',pl,hz⟩:=I.list hq;have hlen:=r'.length;refine call_tuple_list pl.isList (λh' kp=>?_) (by simp only[Ó] <;> omega)
  have I1:Inv X pins σ H { s with heap:=h' }:=I.kept (t':=s.toks) kp;have I2:Inv X pins σ (upd H h'.objs.size (.tup ys)) { s with heap:=h'.push { cls:=.type "tuple",data:=.seq its.toArray } } :=
   I1.laid (t':=s.toks) (λb o e=>Ã _ e) (Í _) (show g90 X.prog X.w _ _ _ (.tup ys) from⟨hz,its,r',Ï2.new _ _⟩)
  exact⟨.ref h'.objs.size,_,I2,rfl,q _ (I1.hok.fresh (Í _))⟩
 ·obtain⟨its,r',pl,hz⟩:=I.tuple hq;exact call_tuple_same pl ⟨.ref p,H,I,rfl,q⟩
def tyV(K:Â)(T:String)(x:V)(H:Hp):Prop:=match x with
 |.str _=>T="str"|.int _=>T="int"
 |.ref p=>(T="list"/\∃ xs,SqL K H p xs)∨(T="tuple"/\∃ o,K.lookup p=some o/\o.cls=.type "tuple"/\o.dict=none) ∨
   (T="dict"/\((∃ kvs,H p=some (.dK kvs))∨∃ kvs,H p=some (.dT kvs)))∨(T="set"/\∃ S n,H p=some (.set S n))
 |_=>False
theorem n42{pins:List (Ç × Obj)}{σ:St}{H:Hp}{s:Æ}{T:String}{x:V}{v:Ä}(I:Inv X pins σ H s)(r:RelV x v)(ty:tyV X.K T x H) :
  s.TypeIs v T/\∀ a,v=.ref a->∃ ob,s.heap.get? a=some ob/\ob.dict=none:=by
 cases x with
 |str z =>
  obtain⟨t,rfl⟩:=r;cases (show T="str" from ty);exact⟨typeIs_str s z t,λ_ e=>nomatch e⟩
 |int i =>
  obtain⟨t,rfl⟩:=r;cases (show T="int" from ty);exact⟨Û9 s i t,λ_ e=>nomatch e⟩
 |ref p =>
  cases r;rcases ty with ⟨rfl,xs,hq⟩ | ⟨rfl,o,hk,hc,hd⟩ | ⟨rfl,hk⟩ | ⟨rfl,S,n,hk⟩
  ·obtain⟨its,_,pl,_⟩:=I.list hq;refine⟨pl.isList.typeIs,λa e=>?_⟩;cases e;obtain⟨o,n,e,c,hd,_⟩:=pl;exact⟨o,e,hd⟩
  ·refine⟨⟨o,I.kIn p o hk,hc⟩,λa e=>?_⟩;cases e;exact⟨o,I.kIn _ o hk,hd⟩
  ·have z:∃ o,s.heap.get? p=some o/\o.ExactDict:=by
    rcases hk with ⟨kvs,hk⟩ | ⟨kvs,hk⟩
    ·obtain⟨_,_,_,_,o,_,_,e,ex,_⟩:=I.hok p _ hk;exact⟨o,e,ex⟩
    ·obtain⟨_,_,_,_,o,_,_,e,ex,_⟩:=I.hok p _ hk;exact⟨o,e,ex⟩
   obtain⟨o,e,ex⟩:=z;refine⟨⟨o,e,ex.1⟩,λa e2=>?_⟩;cases e2;exact⟨o,e,ex.2.1⟩
  ·obtain⟨o,_,_,_,e,ex,_⟩:=I.hok p _ hk;refine⟨⟨o,e,ex.1⟩,λa e2=>?_⟩;cases e2;exact⟨o,e,ex.2.1⟩
 |_=>exact À2 ty
def tBM(K:Â)(T:String)(r:V->List V->Hp->VK->Prop)(to:TE)(t:TA):TE:=λσ H Q=>to σ H λx H1=>tyV K T x H1/\t σ H1 λxs H2=>r x xs H2 Q
variable {o e:Ï}{es:List Ï}{to:TE}{t:TA}{name:Str}{apos cpos:Pos}{T id:String}{r:V->List V->Hp->VK->Prop}
theorem D52(pa:PlainAttrs T)(slot:Slot T name id)(hty:typeOf (.builtin id)=pure (.type "method_descriptor"))(hm:MtR X id r)(ho:PE X o to)(ha:PA X (e::es) t)
  (hbase:attributeBase o name X.env (eval o X.env)=eval o X.env:=by rfl)
  (hfew:((Õ8 cpos (þ (e::es) X.env)).all (λx=>!x.1)&&(backToKw cpos (keywordEach [] X.env)).all (λx=>x.1.isSome)
   &&decide ((e::es).length + ([]:List Keyword).length + (if ([]:List Keyword).isEmpty then 0 else 1) < 30))=true:=by rfl)
  (hline:(apos.endLine == cpos.line)=true:=by rfl) (hs:þ (e::es) X.env=(false,eval e X.env)::þ es X.env:=by rfl) (hplain:(Õ8 cpos (þ es X.env)).any (·.1)=false:=by rfl) :
  PE X (.Call (.Attribute o name apos) (e::es) [] cpos) (tBM X.K T r to t):=by
 intro pins s σ H Q I h;refine wpAny_Call_method_late hbase hfew hline rfl (thn (ho pins s σ H _ I h) λv s1 ⟨x,H1,I1,r1,ty,q1⟩=>?_);obtain⟨h1,h2⟩:=n42 I1 r1 ty;refine⟨T,id,pa,slot,hty,h1,h2,?_⟩;have hA:=ha cpos pins s1 σ H1 _ I1 q1;rw[hs] at hA ⊢;refine Calls.callWith_builtin (by show(false || (Õ8 cpos (þ es X.env)).any (·.1))=false;rw[hplain] <;> rfl) (à9 ?_)
 exact thn hA λus s2 ⟨vs,H2,I2,r2,q2⟩=>hm pins s2 σ H2 x vs v us Q I2 r1 r2 q2
end
def MtM(X:Cx)(id:String)(r:V->List V->Hp->VK->Prop):Prop :=
 ∀ (pins:List (Ç × Obj)) (s:Æ) (σ:St) (H:Hp) (x:V) (xs:List V) (v:Ä) (us:List Ä) (Q:VK),Inv X pins σ H s->RelV x v->Vals xs us->r x xs H Q ->
  Î (Ô X.prog X.w) X.A (call (.builtin id) (v::us)) (EP X pins σ Q) X.xe s
theorem Vals.one:∀ {x:V}{us:List Ä},Vals [x] us->∃ u,us=[u]/\RelV x u
 |_,_,.cons r .nil=>⟨_,rfl,r⟩
theorem Vals.eraseIdx:∀ {xs:List V}{us:List Ä} (i:Nat),Vals xs us->Vals (xs.eraseIdx i) (us.eraseIdx i)
 |_,_,_,.nil=>.nil|_,_,0,.cons _ t=>t|_,_,i + 1,.cons r t=>.cons r (Vals.eraseIdx i t)
theorem Vals.reverse{xs:List V}{us:List Ä}(h:Vals xs us):Vals xs.reverse us.reverse:=by
 induction h with
 |nil=>exact .nil|cons r t ih=>rw[Ô4,Ô4];exact Vals.append ih (.cons r .nil)
theorem Vals.rep{xs:List V}{us:List Ä}(h:Vals xs us):∀ k:Nat,Vals (ë k xs).flatten (ë k us).flatten
 |0=>.nil
 |k + 1=>by
  rw[Å5,Å5,É8,É8];exact Vals.append h (Vals.rep h k)
theorem Q60{α:Type}:∀ (l:List α) (i:Nat),(l.eraseIdx i).length<=l.length
 |[],_=>Í _|_::_,0=>le_succ _|_::r,i + 1=>Ü4 (Q60 r i)
theorem foldl_rep(its:List Ä):∀ (k:Nat) (acc:List Ä),
  foldl (λx1 x2=>x1++x2) acc.toArray (ë k its.toArray)=(acc++(ë k its).flatten).toArray
 |0,acc=>by simp
 |k + 1,acc=>by
  have e:acc.toArray++its.toArray=(acc++its).toArray:=by simp
  have e2:(acc++its)++(ë k its).flatten=acc++(ë (k + 1) its).flatten:=by
   rw[Å5,É8,Ô6]
  rw[← e2,← foldl_rep its k (acc++its),← e,Å5,List.foldl_cons]
section
variable {X:Cx}{pins:List (Ç × Obj)}{σ:St}{H:Hp}{s:Æ}{l b:Ç}{xs ys zs:List V}
theorem Inv.z32{its its':List Ä}{n:Nat}{f:Array Ä->Array Ä}{t':Nat}(I:Inv X pins σ H s)(hH:H l=some (.lst xs))
  (e:s.heap.get? l=some { cls:=.type "list",data:=.seq its.toArray n }) (hf:f its.toArray=its'.toArray) (hv:Vals ys its') (hz:ys.length<=Ú) :
  Inv X pins σ (upd H l (.lst ys)) { s with heap:=s.heap.update l (À1 f),toks:=t' }:=by
 have q:=PySem.IsL.update e f;rw[hf] at q;refine I.write (x:=l) (e:=l) (by rw[hH];exact trivial) (.inl rfl) (λb' u hb hu=>(Ë8 s.heap (À1 f) (Â3 hb)).trans hu) ⟨_,q⟩ ?_
 exact⟨hz,its',_,hv,q⟩
theorem Inv.D62{its:List Ä}{t':Nat}(I:Inv X pins σ H s)(hv:Vals ys its)(hz:ys.length<=Ú) :
  Inv X pins σ (upd H s.heap.objs.size (.lst ys)) { s with heap:=s.heap.push { cls:=.type "list",data:=.seq its.toArray },toks:=t' } :=
 I.laid (λ_ _ q=>Ã _ q) (Í _) ⟨hz,its,0,hv,Ê _ rfl⟩
theorem Inv.fresh(I:Inv X pins σ H s):H s.heap.objs.size=none:=I.hok.fresh (Í _)
theorem Inv.n52(I:Inv X pins σ H s)(hH:H l=some (.lst xs)):xs.length<=Ú/\∃ (its:List Ä) (n:Nat),Vals xs its/\xs.length=its.length/\s.heap.get? l=some { cls:=.type "list",data:=.seq its.toArray n }:=by
 obtain⟨z,its,n,r,e⟩:=I.hok l _ hH;exact⟨z,its,n,r,r.length,e⟩
theorem H71{n:Nat}(h:n<=Ú):Í6 n=false:=by
 unfold Í6;exact decide_eq_false ∅
end
section
variable {X:Cx}
def Y21:V->List V->Hp->VK->Prop:=λx vs H Q=>∃ l xs y,x=.ref l/\vs=[y]/\H l=some (.lst xs)/\xs.length < Ú/\Q .non (upd H l (.lst (xs++[y])))
theorem r31:MtM X "list.append" Y21:=by
 intro pins s σ H x vs v us Q I rx rv h;obtain⟨l,xs,y,rfl,rfl,hH,hz,q⟩:=h;cases rx;obtain⟨u,rfl,ru⟩:=rv.one;obtain⟨z,its,n,r,hl,e⟩:=I.n52 hH;refine È4 F.slot_list_append ⟨_,e,rfl⟩ F.entry_list_append (F.args_list_append_2 _ _) (PySem.list_append l its.toArray n u (by rw[Ó];omega)) ⟨e,?_⟩
 refine⟨.non,_,I.z32 (its':=its++[u]) hH e (by simp) (r.append (.cons ru .nil)) ?_,rfl,q⟩
 rw[Â0,List.length_singleton];omega
def n62:V->List V->Hp->VK->Prop:=λx vs H Q=>∃ l xs i k y,x=.ref l/\vs=[.int i]/\H l=some (.lst xs)/\-(2 ^ 63)<=i/\i < 2 ^ 63/\seqIndex? i xs.length=some k/\xs[k]?=some y/\Q y (upd H l (.lst (xs.eraseIdx k)))
theorem z42:MtM X "list.pop" n62:=by
 intro pins s σ H x vs v us Q I rx rv h;obtain⟨l,xs,i,k,y,rfl,rfl,hH,h1,h2,hk,hy,q⟩:=h;cases rx;obtain⟨u,rfl,ru⟩:=rv.one;obtain⟨t,rfl⟩:=ru;obtain⟨z,its,n,r,hl,e⟩:=I.n52 hH;obtain⟨w,hw,rw'⟩:=r.get hy;refine È4 F.slot_list_pop ⟨_,e,rfl⟩ F.entry_list_pop (F.args_list_pop_2 _ _)
  (MeetsSeq.list_pop_at l its.toArray n i t k w (fitsIndex_both h1 h2) (by rw[Ó,← hl];exact hk) (by rw[← õ];exact hw) (by rw[Ó];omega)) ⟨e,?_⟩
 refine⟨y,_,I.z32 (its':=its.eraseIdx k) hH e ?_ (r.eraseIdx k) ?_,rw',q⟩
 ·show its.toArray.eraseIdxIfInBounds k=(its.eraseIdx k).toArray;rw[List.eraseIdxIfInBounds_toArray]
 ·have:=Q60 xs k;omega
def R02:R2:=λx y H Q=>∃ l b xs zs,x=.ref l/\y=.ref b/\H l=some (.lst xs)/\H b=some (.lst zs)/\xs.length + zs.length<=Ú/\∀ p,H p=none->Q (.ref p) (upd H p (.lst (xs++zs)))
theorem r41:OpR X (Ä2 .Add) R02:=by
 intro pins s σ H x y v u Q I rx ry h;obtain⟨l,b,xs,zs,rfl,rfl,hH,hB,hz,q⟩:=h;cases rx;cases ry;obtain⟨z,its,n,r,hl,e⟩:=I.n52 hH;obtain⟨z2,its2,n2,r2,hl2,e2⟩:=I.n52 hB;refine PySem.P.add_list e e2 ?_ (by rw[Ó,Ó];omega)
 have ea:its.toArray++its2.toArray=(its++its2).toArray:=by simp
 rw[ea];exact⟨.ref _,_,I.D62 (t':=s.toks) (r.append r2) (by rw[Â0];omega),rfl,q _ I.fresh⟩
theorem len_rep{α:Type}(xs:List α)(k:Nat):(ë k xs).flatten.length=k * xs.length:=by
 induction k with
 |zero=>simp|succ k ih=>rw[Å5,É8,Â0,ih,Nat.succ_mul,Nat.add_comm]
end
end L2
namespace Att
open PySem PySem.W PySem.Calls PyProof.Rows
theorem C00{P:Params}{h:é}:∀ (ns:List Int) (vs:List Ä),WellAll P h vs (ns.map WData.int)->Ë7 vs ns:=by
 intro ns
 induction ns with
 |nil =>
  intro vs w;rw[map_nil] at w;cases w;exact .nil
 |cons n ns ih =>
  intro vs w;rw[Å7] at w;cases w with
  |cons a b =>
   cases a;exact .cons _ _ (ih _ b)
theorem r51{l:OpenLaw}{n:Nat}(hn:l.most=some n){P:Params}{h:é}{args:List WData}{vals:List Ä}
  (hpre:l.row.toRowW.claim.pre args=true) (hwl:WellAll P h vals args) :
  ∃ a vs ns,vals=[Ã3 a]/\args=[WData.list (ns.map WData.int)]/\h.get? a=some { cls:=.type "list",data:=.seq vs.toArray }/\Ë7 vs ns/\ns.length<=n:=by
 have hsh:WShape.hasAll [] args [.list .int]=true:=(pre_splitW hpre).1;have hc:l.pre.holds [] { args:=args }=true:=(pre_splitW hpre).2;obtain⟨d,r,rfl,h1,h2⟩:=hasAllW_cons hsh;obtain rfl:=hasAllW_nil h2;obtain⟨xs,rfl,h3⟩:=hasW_list h1;obtain⟨ns,rfl⟩:=items_int h3;have hlen:ns.length<=n:=by
  unfold OpenLaw.pre at hc;have h4:(WTm.not (.lt (.lit (.int (n:Int))) (.len (.arg 0)))).holds [] { args:=[.list (ns.map .int)] }=true:=by
   have h4:=(holds_andW hc).1;rw[hn] at h4;exact h4
  have h5:=condW_of h4 (w_not (w_lt w_lit (w_len_list (w_arg rfl))));rw[É] at h5;refine Nat.le_of_not_lt λq=>?_;have q':(n:Int) < ((ns.length:Nat):Int):=by omega
  first
   |(rw[decide_eq_true q'] at h5;exact absurd h5 (-0))
   |(simp at h5;omega)
 cases hwl with
 |cons w1 w2 =>
  cases w2;cases w1 with
  |list ho hall=>exact⟨_,_,ns,rfl,rfl,ho,C00 ns _ hall,hlen⟩
theorem r61(l:OpenLaw)(args:List WData):l.row.toRowW.claim.post args (.bool true) args=true :=
 postW_of (r:=l.row.toRowW) (X:=(true == true))
  (show WShape.has [] (.bool true) .bool=true by first | rfl | decide | simp[WShape.has,WShape.arms,WShape.armsAll])
  (show(WTm.eq .res (.lit (.bool true))).value [] { args:=args,res:=some (.bool true),after:=args }=some (.bool (true == true)) from w_eq_bool (w_res rfl) w_lit) rfl
theorem X90{l:OpenLaw}{n:Nat}{q:Ý}{loose:List Str}{XP:(Str->Option Ä)->é->Prop}{YP:ç->é->Prop}{d:DefRec}
  (hn:l.most=some n) (hdf:d.params.defaults=[])
  (call:∀ (w:ç) (s₀ s₁:Æ) (mg mb:Str->Option Ä) (fa:Ç) (o:Obj) (pm cd doc:Ä) (a:Ç) (vs:List Ä) (ns:List Int),
   Ground q loose [] XP w s₀ mg mb s₁.heap->YP w s₁.heap ->
   s₁.heap.get? fa=some o->o.data=.func (docDef d.name d.params d.body d.scope pm cd doc)->s₁.heap.CodeRec cd d.name->mg d.name=some (.ref fa) ->
   s₁.heap.get? a=some { cls:=.type "list",data:=.seq vs.toArray }->Ë7 vs ns->ns.length<=n->s₁.gens=#[] ->
   Î5 (Ô l.prog w) Ý2 (.call (.ref fa) ⟨[.ref a],[]⟩) (λr s'=>r=.ok (.ret (.bool true))/\OldK s₁.heap s'.heap/\s'.os=s₁.os/\Ó4 s'.gens) s₁) :
  WalkO q loose XP YP l.row.toRowW d [] (λf vs=>PySem.call f vs):=by
 intro w s₀ s₁ mg mb G Y fa o pm cd doc dV kV ho hd hcd hD hmg hg args vals as hpre hlay hrd hwl hlo;obtain rfl:dV=.none:=Dflts.none hD hdf;obtain rfl:kV=.none:=Dflts.noKw hD;obtain⟨a,vs,ns,rfl,rfl,hobj,hints,hlen⟩:=r51 hn hpre hwl;refine enter_call (È3 (call w s₀ s₁ mg mb fa o pm cd doc a vs ns G Y ho (fd_plain hd) hcd hmg hobj hints hlen hg) λr s' hq=>?_);obtain⟨rfl,h2,h3,h4⟩:=hq;exact⟨.inl ⟨.bool true,.bool true,[],rfl,λ_=>rfl,.bool true,r61 l _,λ_=>⟨ß6.nil,λ_ hm=>(nomatch hm)⟩⟩,h2,h3,h4⟩
end Att
namespace L2
open PySem PySem.Spec PyProof.Rows
theorem Q70:∀ {vs:List Ä}{ns:List Int},Ë7 vs ns->Vals (ns.map V.int) vs
 |_,_,.nil=>.nil|_,_,.cons n t h=>.cons ⟨t,rfl⟩ (Q70 h)
def J20(s:Ä8):Arguments:=match s with
 |.FunctionDef _ a _ _ _ _ _ _ _ _=>a|_=>{ posonlyargs:=[],args:=[],vararg:=none,kwonlyargs:=[],kw_defaults:=[],kwarg:=none,defaults:=[] }
def i00(s:Ä8):List Stmt:=match s with
 |.FunctionDef _ _ b _ _ _ _ _ _ _=>b|_=>[]
def b90(s:Ä8):Scope:=match s with
 |.FunctionDef _ _ _ _ _ _ sc _ _ _=>sc|_=>{ kind:=.function,names:=[],isGenerator:=false,isCoroutine:=false }
abbrev CX0:CXT:=λ_ _ _ _ _ _=>False
structure Fun(K:PySem.W.Frag)(x qual:Str)(st:Stmt)(f:Addr)(fd:FuncData):Prop where
 ex:∃ (oc:Value) (od:Option Addr) (kV doc pm:Value) (an:Option Addr) (cdv ct:Value) (osl:Array (Option Value)),
  fd=fnOf x qual (J20 st) (i00 st) (b90 st) .none kV doc pm an cdv ct/\K.lookup f=some ⟨oc,od,.func fd,osl⟩/\PySem.W.codeIn K cdv qual=true
 kp:PySem.W.keepIn K (.ref f)=true
section
variable {P:Ý}{w:ç}{K:Â}{mg:Str->Option Ä}{base:é}
theorem Fun.binds{x qual:Str}{st:Ä8}{f:Ç}{fd:Å2}{ps:List Str}(F:Fun K x qual st f fd)
  (h:∀ (kV doc pm:Ä) (an:Option Ç) (cdv ct:Ä) (us:List Ä),us.length=ps.length->bindArgs (fnOf x qual (J20 st) (i00 st) (b90 st) .none kV doc pm an cdv ct) ⟨us,[]⟩=pure (ps.zip us)):Binds K fd ps []:=by
 obtain⟨oc,od,kV,doc,pm,an,cdv,ct,osl,rfl,lk,hcd⟩:=F.ex;exact .all (h kV doc pm an cdv ct)
end
section
variable {X:Cx}
theorem pv(i:Nat){x:Str}{pos:Pos}(hN:X.N[i]?=some x:=by rfl)(hv:Vis X.env.scope x:=by first | exact Ò3 rfl | exact Ù7 (Ò3 rfl) | exact Ù7 (Ù7 rfl))(hd:(x == ("__debug__":Str))=false:=by decide)
  (hcd:(x == ("__classdict__":Str))=false:=by decide):PE X (.Name x pos) (A72 i):=t60 hN hv hd hcd
end
theorem R12{A B:Prop}(h:B):if false=true then A else B:=by
 rw[if_neg Ð];exact h
theorem R22{c A B:Prop}[Decidable c](h1:c->A)(h2:¬ c->B):if c then A else B:=by
 by_cases h:c
 ·rw[if_pos h];exact h1 h
 ·rw[if_neg h];exact h2 h
def a30(H H':Hp):Prop:=∀ b o,H b=some o->H' b=some o
theorem a30.refl(H:Hp):a30 H H:=λ_ _ h=>h
theorem a30.trans{H H1 H2:Hp}(a:a30 H H1)(b:a30 H1 H2):a30 H H2:=λc o h=>b c o (a c o h)
end L2
set_option maxHeartbeats 4000000
namespace L2
open PySem
abbrev NoX:Ä->Æ->Prop:=λ_ _=>False
theorem J30(env:Env):∀ (names:List (Str × Ë5)) (acc:List (Str × Ç)),(∀ y∈names,y.2=.free->∃ c,env.cells.lookup y.1=some c)->(∀ x c,acc.lookup x=some c->env.cells.lookup x=some c) ->
  ∃ cl:List (Str × Ç),(forIn names acc λ(x:Str × Ë5) (r:List (Str × Ç))=>(if (x.2 == .free)=true then do let c ← cellOf env x.1;pure (á ((x.1,c)::r)) else pure (á r):Sem (ForInStep (List (Str × Ç)))))=pure cl /\
   (∀ x c,cl.lookup x=some c->env.cells.lookup x=some c)/\(∀ x c,acc.lookup x=some c->∃ c',cl.lookup x=some c')/\(∀ y∈names,y.2=.free->∃ c,cl.lookup y.1=some c)
 |[],acc,_,ha=>⟨acc,by simp,ha,λx c e=>⟨c,e⟩,λy hy=>absurd hy (by simp)⟩
 |(n,k)::r,acc,hf,ha=>by
  by_cases hk:k=.free
  ·subst hk;obtain⟨c,hc⟩:=hf (n,.free) Ë rfl;have hcell:cellOf env n=pure c:=by unfold cellOf;rw[hc]
   obtain⟨cl,e,h1,h2,h3⟩:=J30 env r ((n,c)::acc) (λy hy=>hf y (È _ hy)) (λx c' e=>by
    rw[À9] at e;by_cases hx:(x == n)=true
    ·rw[hx] at e;have:x=n:=by simpa using hx
     subst this;cases e;exact hc
    ·rw[show(x == n)=false by simpa using hx] at e
     exact ha x c' e)
   refine⟨cl,?_,h1,λx c' e'=>?_,λy hy hyk=>?_⟩
   ·rw[Í1];simp only[beq_self_eq_true,if_true,hcell,pure_bind];exact e
   ·by_cases hx:(x == n)=true
    ·exact h2 x c (by rw[À9,hx])
    ·exact h2 x c' (by rw[À9,show(x == n)=false by simpa using hx];exact e')
   ·rcases ú.mp hy with rfl | hy
    ·exact h2 n c (by simp[À9])
    ·exact h3 y hy hyk
  ·obtain⟨cl,e,h1,h2,h3⟩:=J30 env r acc (λy hy=>hf y (È _ hy)) ha;refine⟨cl,?_,h1,h2,λy hy hyk=>?_⟩
   ·rw[Í1];have hb:((k == ó)=true)=False:=by simpa using hk
    simp only[hb,if_false,pure_bind];exact e
   ·rcases ú.mp hy with rfl | hy
    ·exact absurd hyk hk
    ·exact h3 y hy hyk
theorem Y00(hf:∀ y∈scope.names,y.2=.free->∃ c,env.cells.lookup y.1=some c) :
  ∃ cl:List (Str × Ç),closureFor scope env=pure cl/\(∀ x c,cl.lookup x=some c->env.cells.lookup x=some c)/\(∀ y∈scope.names,y.2=.free->∃ c,cl.lookup y.1=some c):=by
 obtain⟨cl,e,h1,_,h3⟩:=J30 env scope.names [] hf (λx c e=>by simp at e)
 refine⟨cl,?_,h1,h3⟩;simp only[closureFor];exact(congrArg (λt=>t >>= λr=>(pure r:Sem _)) e).trans (by simp)
section
variable {P:Ý}{w:ç}{A:ø}{R:Result->Æ->Prop}{s:Æ}
theorem r71{el tg src:Ï}{tests:List Ï}{sc:ý}{ps:Pos}{itv av:Ä}{en:Env}(J:Nat->Æ->Prop)
  (turn:∀ n s,J n s->Î (Ô P w) A (Ñ1 itv) (λr s1=>match r with
   |none=>R (.ok .next) s1
   |some v=>Î (Ô P w) A (à0 tg itv v) (λ_ s2=>Î (Ô P w) A (Ù1 tg en v) (λ_ s3 =>
     Î (Ô P w) A (forIn tests true λc r=>if r=true then do let ok ← isTrue c en (eval c en);pure (á ok) else pure (á r)) (λok s4 =>
      if ok=true then Î (Ô P w) A (eval el en) (λx s5 =>
       Î (Ô P w) A (call (.builtin "list.append") [av,x]) (λ_ s6=>∃ m,m < n/\J m s6) NoX s5) NoX s4
      else ∃ m,m < n/\J m s4) NoX s3) NoX s2) NoX s1) NoX s)
  (n:Nat) (h:J n s) :
  Î5 (Ô P w) A (.compLoop (.ListComp el [⟨tg,src,tests,0⟩] sc ps) 0 itv av en) R s:=by
 refine codeAny_loop rfl J (λn s hI=>?_) n h;show Î _ A ((compTurn (.ListComp el [⟨tg,src,tests,0⟩] sc ps) 0 itv av en).onRaise (λx=>do noteFrame x en;theTreesLotGoes x)) _ _ s;refine wpAny_noted ?_;rw[compTurn_list];refine À (Û2 (À (Â1 (turn n s hI) (λr s1 h1=>?_) λ_ _ x=>x.elim)));cases r with
 |none=>exact Å h1
 |some v =>
  refine À (Â1 h1 (λ_ s2 h2=>?_) λ_ _ x=>x.elim);refine À (Â1 h2 (λ_ s3 h3=>À (Â1 h3 (λok s4 h4=>?_) λ_ _ x=>x.elim)) λ_ _ x=>x.elim);cases ok with
  |false=>exact Å ⟨rfl,h4⟩|true=>exact À (À (Â1 h4 (λx s5 h5=>À (Â1 h5 (λ_ s6 h6=>Å (Å ⟨rfl,h6⟩)) λ_ _ x=>x.elim)) λ_ _ x=>x.elim))
end
open PySem PySem.Spec PyProof.Rows
abbrev c20(X:Cx)(N':List Str)(sc:ý)(cl:List (Str × Ç))(C:Ç)(s:Æ)(H:Hp)(fp:List Ç):Cx :=
 { X with N:=N',s₀:=s,H₀:=H,env:=compEnvC sc cl C X.env,outer:=X.stack,stack:=X.stack,ex:=fp,fn:=λ_=>false,pn:=[],xe:=NoX }
def d10(own:List Str)(capt:List (Str × Nat)):List Str:=own++capt.map (·.1)
def r00(own:List Str)(capt:List (Str × Nat))(σ:St):St:=own.map (λ_=>none)++capt.map λp=>(σ[p.2]?).getD none
structure r30(X:Cx)(sc:Scope)(own:List Str)(capt:List (Str × Nat)):Prop where
 kind:sc.kind=.function
 nocell:∀ y∈sc.names,y.2≠.cell
 locs:∀ y∈sc.names,y.2=.local->sc.names.lookup y.1=some .local
 frees:∀ y∈sc.names,y.2=.free->X.env.kindOf y.1=some .cell∨X.env.kindOf y.1=some .free
 captd:∀ p∈capt,X.N[p.2]?=some p.1/\sc.names.lookup p.1=some .free
theorem J40{env:Env}:∀ {names:List (Str × Ë5)}{x:Str}{k:Ë5},
  (names.map λ(n,k)=>if (k == ó&&env.scope.kind == .function&&env.kindOf n == some .cell) then(n,Æ2) else(n,k)).lookup x=some k->(k=.cell∨k=.free)->(∀ y∈names,y.2≠.cell)->(x,ó)∈names
 |[],_,_,h,_,_=>by simp at h
 |(n,k0)::r,x,k,h,hk,hn=>by
  have h:Í2 x ((if (k0 == ó&&env.scope.kind == .function&&env.kindOf n == some .cell)=true then(n,Æ2) else(n,k0))::_)=some k:=h;have hn0:k0≠.cell:=hn (n,k0) Ë;cases hx:x == n with
  |true =>
   have e:x=n:=by simpa using hx
   subst e;by_cases hc:(k0 == ó&&env.scope.kind == .function&&env.kindOf x == some .cell)=true
   ·have:k0=.free:=by
     cases k0 <;> simp_all
    subst this;exact Ë
   ·rw[if_neg hc] at h;simp only[À9,hx] at h;cases h;rcases hk with hk | hk
    ·exact absurd hk hn0
    ·subst hk;exact Ë
  |false =>
   have h':(r.map λ(n,k)=>if (k == ó&&env.scope.kind == .function&&env.kindOf n == some .cell) then(n,Æ2) else(n,k)).lookup x=some k:=by
    by_cases hc:(k0 == ó&&env.scope.kind == .function&&env.kindOf n == some .cell)=true
    ·rw[if_pos hc] at h;simp only[À9,hx] at h;exact h
    ·rw[if_neg hc] at h;simp only[À9,hx] at h;exact h
   exact È _ (J40 h' hk λy hy=>hn y (È _ hy))
theorem p80{env:Env}:∀ {names:List (Str × Ë5)}{x:Str},names.lookup x=some .free ->
  (names.map λ(n,k)=>if (k == ó&&env.scope.kind == .function&&env.kindOf n == some .cell) then(n,Æ2) else(n,k)).lookup x=some .cell ∨
  (names.map λ(n,k)=>if (k == ó&&env.scope.kind == .function&&env.kindOf n == some .cell) then(n,Æ2) else(n,k)).lookup x=some .free
 |[],_,h=>by simp at h
 |(n,k)::r,x,h=>by
  have ih:=@p80 env r x;show Í2 x ((if (k == ó&&env.scope.kind == .function&&env.kindOf n == some .cell)=true then(n,Æ2) else(n,k))::_)=_∨Í2 x ((if (k == ó&&env.scope.kind == .function&&env.kindOf n == some .cell)=true then(n,Æ2) else(n,k))::_)=_;cases hx:x == n with
  |true =>
   simp only[À9,hx] at h;cases h;by_cases hc:(ó == ó&&env.scope.kind == .function&&env.kindOf n == some .cell)=true
   ·rw[if_pos hc];left;simp only[À9,hx]
   ·rw[if_neg hc];right;simp only[À9,hx]
  |false =>
   simp only[À9,hx] at h;by_cases hc:(k == ó&&env.scope.kind == .function&&env.kindOf n == some .cell)=true
   ·rw[if_pos hc];simp only[À9,hx];exact ih h
   ·rw[if_neg hc];simp only[À9,hx];exact ih h
theorem HOk.H81{P:Ý}{w:ç}{H:Hp}{h:é}{D:Ç}{ys:List V}{its:List Ä}{n:Nat}(x:HOk P w H h)(hn:H D=none)(hv:Vals ys its)(hz:ys.length<=Ú)
  (ho:h.get? D=some { cls:=.type "list",data:=.seq its.toArray n }):HOk P w (upd H D (.lst ys)) h:=λb u e=>by
 by_cases hb:b=D
 ·subst hb;rw[b20] at e;cases e;exact⟨hz,its,n,hv,ho⟩
 ·rw[a60 hb] at e;exact(x b u e).k31 (λc v _ q=>q) (λc q=>by rw[a60 (a80 q hn)];exact q) λc xs q=>by rw[a60 (a80 q hn)];exact q
def PTs(X:Cx)(tests:List Ï)(t:TT):Prop :=
 ∀ (pins:List (Ç × Obj)) (s:Æ) (σ:St) (H:Hp) (Q:Bool->Hp->Prop),Inv X pins σ H s->t σ H Q ->
  Î (Ô X.prog X.w) X.A (forIn tests true λc r=>if r=true then do let ok ← isTrue c X.env (eval c X.env);pure (á ok) else pure (á r)) (TP X pins σ Q) X.xe s
def H91:TT:=λ_ H Q=>Q true H
theorem Y31:PTs X [] H91:=λ_ _ _ H _ I h=>wpAny_tests_nil ⟨H,I,h⟩
theorem r81(hc:PT X c t):PTs X [c] t:=λpins s σ H Q I h=>wpAny_tests_one (hc pins s σ H Q I h)
section
variable {X:Cx}{pins:List (Ç × Obj)}{σ:St}{H2:Hp}{s2:Æ}{sc:ý}{own:List Str}{capt:List (Str × Nat)}{cl:List (Str × Ç)}{fp:List Ç}{C:Ç}
theorem Q80(I:Inv X pins σ H2 s2)(S:r30 X sc own capt)(hcl:∀ x c,cl.lookup x=some c->X.env.cells.lookup x=some c)(hcf:∀ y∈sc.names,y.2=.free->∃ c,cl.lookup y.1=some c)
  (hx:∀ x c,X.env.cells.lookup x=some c->c ∉ fp) {h':é} (un:∀ c o,s2.heap.get? c=some o->H2 c=none->c ∉ fp->∃ sl,h'.get? c=some { o with slots:=sl }) (m:Str->Option Ä) :
  ∀ (i:Nat) (x:Str) (v:V),(d10 own capt)[i]?=some x->(r00 own capt σ)[i]?=some (some v)->∃ u,RelV v u/\Look (compEnvC sc cl C X.env) h' m x u:=by
 intro i x v e1 e2;unfold d10 at e1;unfold r00 at e2;by_cases hi:i < own.length
 ·rw[Ð2 (by simpa using hi),Û] at e2
  cases q:own[i]? with
  |none=>rw[q] at e2;cases e2
  |some y=>rw[q] at e2;cases e2
 ·rw[Å4 (by simpa using hi),É,Û] at e2
  rw[Å4 (by simpa using hi),Û] at e1
  cases q:capt[i - own.length]? with
  |none=>rw[q] at e1;cases e1
  |some p =>
   rw[q] at e1 e2;obtain rfl:p.1=x:=À7 e1;have e3:(σ[p.2]?).getD none=some v:=À7 e2;have e4:σ[p.2]?=some (some v):=by
    cases z:σ[p.2]? with
    |none=>rw[z] at e3;cases e3
    |some w=>rw[z] at e3;exact congrArg some e3
   obtain⟨hN,hf⟩:=S.captd p (í q);have hmem:(p.1,ó)∈sc.names:=Â4 hf;have hk:=S.frees _ hmem rfl;obtain⟨m0,_,hl⟩:=I.loc;have vis:Vis X.env.scope p.1:=.inr hk;obtain⟨u,r,lk⟩:=hl p.2 p.1 v hN e4 vis;refine⟨u,r,.inr ⟨?_,?_⟩⟩
   ·exact p80 hf
   ·rcases lk with ⟨hl0,_⟩ | ⟨_,c,hc,o,ho,hd⟩
    ·rcases hk with hk | hk <;> (rw[hk] at hl0;cases hl0)
    ·obtain⟨c',hc'⟩:=hcf _ hmem rfl;have:=hcl _ _ hc';rw[hc] at this;cases this;obtain⟨sl,q'⟩:=un c o ho (I.freeC _ _ hc) (hx _ _ hc);exact⟨c,hc',_,q',hd⟩
end
def Y41(X:Cx)(pins:List (Ç × Obj))(σ:St)(R:V->Hp->Prop)(acc:Ä)(C:Ç)(s':Æ):Prop :=
 ∃ D H' m',acc=.ref D/\Inv X pins σ H' s'/\X50 X pins H' C/\s'.heap.Ns C m'/\R (.ref D) H'
def r91(J:It)(σ0:St)(H1:Hp)(g:TG)(tt:TT)(te:TE)(Q:VK):Prop:=∃ W:Nat->Nat->List V->Hp->Prop,(∃ m,W 0 m [] H1)/\∀ i m ys H,W i m ys H ->
 (J.stop i H/\∀ p,H p=none->Q (.ref p) (upd H p (.lst ys))) ∨
 (J.go i H/\ys.length < Ú/\∃ N:List V->Hp->Prop,(∀ zs H',N zs H'->∃ m',m' < m/\W (i + 1) m' zs H')/\∀ x H',J.yld i H x H'->g x σ0 H' λσ2 H2=>tt σ2 H2 λb H3 =>
  if b=true then te σ2 H3 (λy H4=>N (ys++[y]) H4) else N ys H3)
def Y51(own:List Str)(capt:List (Str × Nat))(wi:TI)(g:TG)(tt:TT)(te:TE):TE:=λσ H Q=>wi σ H λJ H1=>r91 J (r00 own capt σ) H1 g tt te Q
section
variable {X:Cx}{pins:List (Ç × Obj)}{σ:St}{H2:Hp}{s2:Æ}{sc:ý}{own:List Str}{capt:List (Str × Nat)}{cl:List (Str × Ç)}{el tg src:Ï}{tests:List Ï}{ps:Pos}{g:TG}{tt:TT}{te:TE}
theorem w60(hc:X.calm=true)(S:r30 X sc own capt)(hcl:∀ x c,cl.lookup x=some c->X.env.cells.lookup x=some c)(hcf:∀ y∈sc.names,y.2=.free->∃ c,cl.lookup y.1=some c)
  (hg:∀ C s H fp,PG (c20 X (d10 own capt) sc cl C s H fp) tg g) (ht:∀ C s H fp,PTs (c20 X (d10 own capt) sc cl C s H fp) tests tt) (he:∀ C fp,(∀ b∈fp,X50 X pins H2 b)->PE (c20 X (d10 own capt) sc cl C s2 H2 fp) el te)
  {it:Ç}{fp:List Ç}{tn:Nat->é->Prop}{J:It} (I2:Inv X pins σ H2 s2) (T:Turn X.prog X.w X.K tg J fp it tn) (st2:tn 0 s2.heap) (f2:∀ b∈fp,X50 X pins H2 b)
  {R:VK} (h:r91 J (r00 own capt σ) H2 g tt te R) {RR:Ä->Ç->Result->Æ->Prop} (hRR:∀ acc C s',Y41 X pins σ R acc C s'->RR acc C (.ok .next) s') {E:Ä->Æ->Prop} :
  Î (Ô X.prog X.w) X.A (newList []) (λacc s3=>Î (Ô X.prog X.w) X.A (newFunctionEnv sc X.env.globals cl [] X.env.qual none .none (some X.env)) (λce s4 =>
   Î5 (Ô X.prog X.w) X.A (.compStart (.ListComp el [⟨tg,src,tests,0⟩] sc ps) 0 (.ref it) acc { ce with scope:=relabel sc X.env }) (RR acc ce.locals) s4) E s3) E s2:=by
 obtain⟨W,⟨m0,w0⟩,turn⟩:=h;refine å (wpAny_newFunctionEnv S.nocell (by intro y hy;simp at hy) (λh1 hns1 hsb1=>?_) S.kind)
 dsimp only at hns1 hsb1 ⊢;generalize hH3:s2.heap.push { cls:=.type "list",dict:=none,data:=.seq ([]:List Ä).toArray }=h3 at hns1 hsb1 ⊢;have hC:h3.objs.size=s2.heap.objs.size + 1:=by rw[← hH3,Ë4]
 have below:∀ b,b < s2.heap.objs.size->b≠h3.objs.size/\b≠s2.heap.objs.size:=λb hb=>⟨by omega,by omega⟩
 have hDC:s2.heap.objs.size≠h3.objs.size:=by omega
 have old:∀ b o,s2.heap.get? b=some o->h1.get? b=some o:=λb o e=>hsb1.extBut b o (below b (à e)).1 (Ã _ (hH3 ▸ Ã _ e));have hacc:h1.get? s2.heap.objs.size=some { cls:=.type "list",data:=.seq ([]:List Ä).toArray 0 }:=hsb1.extBut _ _ hDC (Ã _ (hH3 ▸ Ê _ rfl));have fpLt:∀ b∈fp,b < s2.heap.objs.size:=λb hb=>by
  obtain⟨o,e,_⟩:=T.obj _ _ st2 b hb;exact à e
 have celLt:∀ x c,X.env.cells.lookup x=some c->c < s2.heap.objs.size:=λx c e=>by
  obtain⟨v,o,q,_⟩:=I2.cell x c e;exact à q
 have frLt:∀ b∈frs X.stack,b < s2.heap.objs.size:=λb hb=>by
  obtain⟨_,o,q,_⟩:=I2.stack.mem hb;exact à q
 have celFp:∀ x c,X.env.cells.lookup x=some c->c ∉ fp:=λx c e hb=>(f2 c hb).2.2.2.2.1 x c e rfl;have fpFr:∀ b∈fp,b ∉ frs X.stack:=λb hb hf=>by
  rcases ú.mp (I2.p71 b hf) with z | z
  ·exact(f2 b hb).2.1 z
  ·exact(f2 b hb).2.2.1 z
 have okX:(c20 X (d10 own capt) sc cl h3.objs.size s2 H2 fp).Ok:=by
  refine⟨I2.ok.mod,S.kind,I2.ok.glob,I2.ok.blt,(by show s2.heap.objs.size<=h3.objs.size;omega),λx y c e1 e2=>I2.ok.inj x y c (hcl x c e1) (hcl y c e2),λx hx=>?_,λx c hx=>(by cases hx),I2.ok.hd,I2.ok.frames,.inl rfl,
   λb hb=>⟨(below b (fpLt b hb)).1,λx c e z=>celFp x c (hcl x c e) (z ▸ hb)⟩,I2.bs,Ò I2.ok.bsz I2.sz,λb o e hb=>?_,fpFr,I2.stack,I2.w30⟩
  ·have hx':(x,ó)∈sc.names:=by
    rcases hx with hx | hx
    ·exact J40 hx (.inl rfl) S.nocell
    ·exact J40 hx (.inr rfl) S.nocell
   exact hcf _ hx' rfl
  ·rcases (f2 b hb).2.2.2.1 with z | z
   ·exact I2.ok.noex b o e z
   ·have l1:b < X.base.objs.size:=à e;have l2:X.base.objs.size<=X.s₀.heap.objs.size:=I2.ok.bsz;have l3:X.s₀.heap.objs.size<=b:=z;exact absurd l1 (Nat.not_lt.mpr (Ò l2 l3))
 have reset:∀ {pl:List (Ç × Obj)}{σ':St}{H':Hp}{s':Æ},Inv (c20 X (d10 own capt) sc cl h3.objs.size s2 H2 fp) pl σ' H' s'->Inv (c20 X (d10 own capt) sc cl h3.objs.size s2 H2 fp) pl (r00 own capt σ) H' s':=λ{pl σ' H' s'} I'=>by
  obtain⟨m,hn,_⟩:=I'.loc;refine⟨I'.ok,I'.os,I'.bare,I'.base,⟨m,hn,λi x v e1 e2 _=>Q80 I2 S hcl hcf celFp (λc o q n hx=>I'.base.any q n hx) m i x v e1 e2⟩,I'.cell,I'.free,I'.freeC,I'.pin,I'.hok,?_⟩;show(r00 own capt σ).length=(d10 own capt).length;simp[r00,d10]
 have start:Inv (c20 X (d10 own capt) sc cl h3.objs.size s2 H2 fp) [(s2.heap.objs.size,{ cls:=.type "list",data:=.seq ([]:List Ä).toArray 0 })] (r00 own capt σ) H2 { s2 with heap:=h1,toks:=s2.toks + ([]:List (Str × Ä)).length }:=by
  refine⟨okX,rfl,I2.bare,Un.kept old,⟨_,hns1,λi x v e1 e2 _=>Q80 I2 S hcl hcf celFp (λc o q _ _=>⟨o.slots,old c o q⟩) _ i x v e1 e2⟩,λx c e=>?_,?_,λx c e=>I2.freeC x c (hcl x c e),λp hp=>?_,I2.hok.kept old,?_⟩
  ·obtain⟨v,q⟩:=I2.cell x c (hcl x c e);exact⟨v,q.keeps old⟩
  ·exact I2.hok.fresh (by show s2.heap.objs.size<=h3.objs.size;omega)
  ·have hp':p=(s2.heap.objs.size,{ cls:=.type "list",data:=.seq ([]:List Ä).toArray 0 }):=by simpa using hp
   subst hp';exact⟨hacc,I2.hok.fresh (Í _),hDC,λz=>Á8 _ (frLt _ z),λv z=>by cases z⟩
  ·show(r00 own capt σ).length=(d10 own capt).length;simp[r00,d10]
 have p11:∀ {pl:List (Ç × Obj)}{H':Hp},(∀ p∈pl,p.1 ∉ fp)->(∀ b∈fp,H' b=none)->∀ b∈fp,X50 (c20 X (d10 own capt) sc cl h3.objs.size s2 H2 fp) pl H' b:=λ{pl H'} hp hn b hb =>
  ⟨hn b hb,(below b (fpLt b hb)).1,fpFr b hb,.inl hb,λx c e z=>celFp x c (hcl x c e) (z ▸ hb),λp hpp z=>hp p (by simpa using hpp) (z ▸ hb)⟩
 have hDfp:s2.heap.objs.size ∉ fp:=λz=>Á8 _ (fpLt _ z);have loop:∀ s3:Æ,s3={ s2 with heap:=h1,toks:=s2.toks + ([]:List (Str × Ä)).length } ->
   Î5 (Ô X.prog X.w) X.A (.compLoop (.ListComp el [⟨tg,src,tests,0⟩] sc ps) 0 (.ref it) (.ref s2.heap.objs.size) (compEnvC sc cl h3.objs.size X.env)) (RR (.ref s2.heap.objs.size) h3.objs.size) s3:=by
  rintro s3 rfl;refine r71 (λn s'=>∃ i ys H' its k,Inv (c20 X (d10 own capt) sc cl h3.objs.size s2 H2 fp) [(s2.heap.objs.size,{ cls:=.type "list",data:=.seq (toArray its) k })] (r00 own capt σ) H' s'/\tn i s'.heap/\(∀ b∈fp,H' b=none)/\Vals ys its/\ys.length<=Ú/\W i n ys H') ?_ m0
   ⟨0,[],H2,[],0,start,T.keep _ _ _ st2 λb _ o e=>old b o e,λb hb=>(f2 b hb).1,.nil,Æ6 _,w0⟩
  rintro n s' ⟨i,ys,H',its,k,I',st',fr',hv,hz,w'⟩;have pinD:∀ p∈[((s2.heap.objs.size:Ç),({ cls:=.type "list",data:=.seq (toArray its) k }:Obj))],p.1 ∉ fp:=λp hp=>by
   have hp':p=(s2.heap.objs.size,{ cls:=.type "list",data:=.seq (toArray its) k }):=by simpa using hp
   subst hp';exact hDfp
  rcases turn i n ys H' w' with ⟨stop,q⟩ | ⟨go,hlt,N,hN,step⟩
  ·refine thn (T.done (c20 X (d10 own capt) sc cl h3.objs.size s2 H2 fp) rfl rfl rfl hc i _ s' _ H' NoX I' (p11 pinD fr') st' stop) λr s1 hr=>?_;obtain⟨hr,I1⟩:=hr;subst hr;obtain⟨gD,nD,_,_,_⟩:=I1.pin _ (ð _ Ë);obtain⟨m',hn',_⟩:=id I1.loc;have un:Un (frs X.stack) fp H2 (upd H' s2.heap.objs.size (.lst ys)) s2.heap s1.heap:=by
    have u:=I1.base;have nD2:H2 s2.heap.objs.size=none:=I2.hok.fresh (Í _);refine⟨u.keep,u.slot,λb o e n hx=>?_,u.there,λb xs e=>?_,λb o xs e=>?_,λb ps' e=>?_⟩
    ·rw[a60 (below b (à e)).2];exact u.free b o e n hx
    ·rw[a60 (a80 e nD2)];exact u.tups b xs e
    ·rw[a60 (a80 e nD2)];exact u.frzs b o xs e
    ·obtain⟨more,e'⟩:=u.tbls b ps' e;exact⟨more,by rw[a60 (a80 e nD2)];exact e'⟩
   have IX:Inv X pins σ (upd H' s2.heap.objs.size (.lst ys)) s1:=I2.k92 I1.os un (I1.hok.H81 nD hv hz gD) I1.bare λb hb=>⟨(f2 b hb).2.2.2.1,(f2 b hb).2.1,(f2 b hb).2.2.2.2.1,(f2 b hb).2.2.2.2.2⟩;refine hRR _ _ _ ⟨_,_,m',rfl,IX,?_,hn',q _ nD⟩;exact I2.p11 ∅ (by rw[a60 hDC.symm];exact I1.free)
  ·refine thn (T.item (c20 X (d10 own capt) sc cl h3.objs.size s2 H2 fp) rfl rfl rfl hc i _ s' _ H' NoX I' (p11 pinD fr') st' go) λr s1 hr=>?_;obtain⟨u,hr,h4⟩:=hr;subst hr;refine thn h4 λ_ s5 hr5=>?_;obtain⟨x,H5,I5,r5,y5,st5,fr5⟩:=hr5;have I5p:=I5.pinned (p11 pinD fr5) (T.obj _ _ st5);refine thn (hg _ _ _ _ _ s5 _ H5 x u _ I5p r5 (step x H5 y5)) λ_ s6 hr6=>?_;obtain⟨σ6,H6,I6,q6⟩:=hr6;refine thn (ht _ _ _ _ _ s6 σ6 H6 _ I6 q6) λok s7 hr7=>?_;obtain⟨H7,I7,q7⟩:=hr7;have memFp:∀ {pl:List (Ç × Obj)}{b:Ç}{o:Obj},b∈fp->s5.heap.get? b=some o->(b,o)∈([]:List (Ç × Obj))++(pl++B80 fp s5.heap):=λhb e=>ð _ (ð _ (k70 hb e));cases ok with
   |false =>
    rw[if_neg Ð] at q7 ⊢;obtain⟨m',hm,w7⟩:=hN _ _ q7;refine⟨m',hm,i + 1,ys,H7,its,k,reset (I7.B60 λp hp=>I7.pin p (ð _ (Æ5 _ hp))),T.keep _ _ _ st5 λb hb o e=>(I7.pin (b,o) (memFp hb e)).1,λb hb=>?_,hv,hz,w7⟩;obtain⟨o,e,_⟩:=T.obj _ _ st5 b hb;exact(I7.pin (b,o) (memFp hb e)).2.1
   |true =>
    rw[if_pos rfl] at q7 ⊢;refine thn (he _ _ f2 _ s7 σ6 H7 _ I7 q7) λuv s8 hr8=>?_;obtain⟨y,H8,I8,r8,q8⟩:=hr8;obtain⟨m',hm,w8⟩:=hN _ _ q8;obtain⟨gD,nD,dC,dF,_⟩:=I8.pin _ (ð _ (Æ5 _ Ë));refine append_at gD (λh9 sb hD9=>?_) (by show(toArray its).size<=Ú;rw[Ó,← hv.length];exact hz)
    have I8a:Inv (c20 X (d10 own capt) sc cl h3.objs.size s2 H2 fp) (B80 fp s5.heap) σ6 H8 s8:=I8.B60 λp hp=>I8.pin p (ð _ (ð _ hp));have I9:Inv (c20 X (d10 own capt) sc cl h3.objs.size s2 H2 fp) (B80 fp s5.heap) σ6 H8 { s8 with heap:=h9 }:=I8a.turned (t':=s8.toks) (λb o hb e=>(sb.2 b hb).trans e) nD dC (.inr (Í _))
     (λx c e z=>Á8 s2.heap.objs.size (by have:=celLt x c (hcl x c e);rw[z] at this;exact this)) (λp hp z=>hDfp (z ▸ (P40 (by simpa using hp)).1))
    rw[List.push_toArray] at hD9;refine⟨m',hm,i + 1,ys++[y],H8,its++[uv],k + 1,(reset I9).B60 λp hp=>?_,T.keep _ _ _ st5 λb hb o e=>?_,λb hb=>?_,hv.append (.cons r8 .nil),by rw[Â0];exact hlt,w8⟩
    ·have hp':p=(s2.heap.objs.size,{ cls:=.type "list",data:=.seq (toArray (its++[uv])) (k + 1) }):=by simpa using hp
     subst hp';exact⟨hD9,nD,dC,dF,λv z=>by cases z⟩
    ·exact(I9.pin (b,o) (ð _ (k70 hb e))).1
    ·obtain⟨o,e,_⟩:=T.obj _ _ st5 b hb;exact(I9.pin (b,o) (ð _ (k70 hb e))).2.1
 exact codeAny_compStart_list (loop _ rfl) (T.self _ 0 _ _ _ (T.keep _ _ _ st2 λb _ o e=>old b o e) (loop _ rfl))
end
section
variable {X:Cx}{sc:ý}{own:List Str}{capt:List (Str × Nat)}{el tg src:Ï}{tests:List Ï}{ps pos:Pos}{wi:TI}{g:TG}{tt:TT}{te:TE}
theorem s01(hc:X.calm=true)(S:r30 X sc own capt)(hi:PI X tg src wi)(hg:∀ cl C s H fp,PG (c20 X (d10 own capt) sc cl C s H fp) tg g)
  (ht:∀ cl C s H fp,PTs (c20 X (d10 own capt) sc cl C s H fp) tests tt) (he:∀ cl C s H fp,PE (c20 X (d10 own capt) sc cl C s H fp) el te)
  (hs:∀ x,É2 src X.env x=pure x:=by intro _;rfl):PE X (.ListComp el [⟨tg,src,tests,0⟩] sc ps) (Y51 own capt wi g tt te):=by
 intro pins s σ H Q I h;obtain⟨cl,hclos,hcl,hcf⟩:=Y00 (scope:=sc) (env:=X.env) λy hy hk=>I.ok.has y.1 (S.frees y hy hk);rw[eval_ListComp];refine Ó5 (use:=none) rfl hs hclos S.kind S.locs (thn (hi pins s σ H _ I h) λv s1 h1=>thn h1 λitv s2 h2=>?_);obtain⟨it,fp,tn,J,H2,e,I2,T,st2,f2,hw⟩:=h2;subst e;refine w60 hc S hcl hcf (hg cl) (ht cl) (λC fp _=>he cl C _ _ fp) I2 T st2 f2 hw (RR:=λacc C=>compPost (Ô X.prog X.w) X.A X.xe none (EP X pins σ Q) acc C) λacc C s' hf=>?_;obtain⟨D,H',m',rfl,I',f',ns',r⟩:=hf;exact⟨m',ns',λh' sb=>⟨.ref D,H',I'.turned (t':=s'.toks) (λb o hb e=>(sb.2 b hb).trans e) f'.1 f'.2.1 f'.2.2.2.1 f'.2.2.2.2.1 f'.2.2.2.2.2,rfl,r⟩⟩
theorem z52{te:St->Hp->TE}{Cond:St->Hp->Prop}(hc:X.calm=true)(S:r30 X sc own capt)(hi:PI X tg src wi)(hg:∀ cl C s H fp,PG (c20 X (d10 own capt) sc cl C s H fp) tg g)
  (ht:∀ cl C s H fp,PTs (c20 X (d10 own capt) sc cl C s H fp) tests tt) (he:∀ cl pins σ H s,Inv X pins σ H s->(∀ x c,cl.lookup x=some c->X.env.cells.lookup x=some c)->Cond σ H->∀ C fp,(∀ b∈fp,X50 X pins H b)->PE (c20 X (d10 own capt) sc cl C s H fp) el (te σ H))
  (hs:∀ x,É2 src X.env x=pure x:=by intro _;rfl):PE X (.ListComp el [⟨tg,src,tests,0⟩] sc ps) (λσ H Q=>wi σ H λJ H1=>Cond σ H1/\r91 J (r00 own capt σ) H1 g tt (te σ H1) Q):=by
 intro pins s σ H Q I h;obtain⟨cl,hclos,hcl,hcf⟩:=Y00 (scope:=sc) (env:=X.env) λy hy hk=>I.ok.has y.1 (S.frees y hy hk);rw[eval_ListComp];refine Ó5 (use:=none) rfl hs hclos S.kind S.locs (thn (hi pins s σ H _ I h) λv s1 h1=>thn h1 λitv s2 h2=>?_);obtain⟨it,fp,tn,J,H2,e,I2,T,st2,f2,cd,hw⟩:=h2;subst e;refine w60 hc S hcl hcf (hg cl) (ht cl) (λC fp hf=>he cl _ _ _ _ I2 hcl cd C fp hf) I2 T st2 f2 hw (RR:=λacc C=>compPost (Ô X.prog X.w) X.A X.xe none (EP X pins σ Q) acc C) λacc C s' hf=>?_;obtain⟨D,H',m',rfl,I',f',ns',r⟩:=hf;exact⟨m',ns',λh' sb=>⟨.ref D,H',I'.turned (t':=s'.toks) (λb o hb e=>(sb.2 b hb).trans e) f'.1 f'.2.1 f'.2.2.2.1 f'.2.2.2.2.1 f'.2.2.2.2.2,rfl,r⟩⟩
theorem Y61{i:Nat}{y:Str}{py:Pos}(hN:X.N.Nodup)(hiN:X.N[i]?=some y)(hy:Loc X.env.scope y)(hsw:Ô8 (.ListComp el [⟨tg,src,tests,0⟩] sc ps) (some (.Name y py)) pos.line X.env=pure true)
  (hc:X.calm=true) (S:r30 X sc own capt) (hi:PI X tg src wi) (hg:∀ cl C s H fp,PG (c20 X (d10 own capt) sc cl C s H fp) tg g)
  (ht:∀ cl C s H fp,PTs (c20 X (d10 own capt) sc cl C s H fp) tests tt) (he:∀ cl C s H fp,PE (c20 X (d10 own capt) sc cl C s H fp) el te)
  (hs:∀ x,É2 src X.env x=pure x:=by intro _;rfl) (hf:X.fn y=true∨X.env.scope.names.lookup y=some .local:=by first | exact .inl rfl | exact .inr rfl | assumption) :
  PS X (.Assign [.Name y py] (.ListComp el [⟨tg,src,tests,0⟩] sc ps) pos) (m02 (Y51 own capt wi g tt te) (X40 i)):=by
 intro pins s σ H D I h;obtain⟨cl,hclos,hcl,hcf⟩:=Y00 (scope:=sc) (env:=X.env) λy hy hk=>I.ok.has y.1 (S.frees y hy hk);rw[exec_Assign_Name_used _ _ _ _ hsw];refine À (Û2 (À ?_));show Î _ X.A (do let _ ← comprehension (.ListComp el [⟨tg,src,tests,0⟩] sc ps) sc X.env _ (newList []) false (eval src X.env) (some (Ù1 (.Name y py) X.env))) _ _ s;refine À (Â1 (Ó5 (use:=some (Ù1 (.Name y py) X.env)) (Q:=λ_ s'=>SP X pins D .next s') rfl hs hclos S.kind S.locs
  (thn (hi pins s σ H _ I h) λv s1 h1=>thn h1 λitv s2 h2=>?_)) (λ_ s' hq=>Å (Å hq)) λ_ _ e=>e)
 obtain⟨it,fp,tn,J,H2,e,I2,T,st2,f2,hw⟩:=h2;subst e;refine w60 hc S hcl hcf (hg cl) (ht cl) (λC fp _=>he cl C _ _ fp) I2 T st2 f2 hw (RR:=λacc C=>compPost (Ô X.prog X.w) X.A X.xe (some (Ù1 (.Name y py) X.env)) (λ_ s'=>SP X pins D .next s') acc C) λacc C s' hfn=>?_;obtain⟨DA,H',m',rfl,I',f',ns',r⟩:=hfn;show Î _ X.A (Ù1 (.Name y py) X.env (.ref DA)) _ _ _;refine wpAny_assign_Name (B70 (v:=.ref DA) I' hN hiN hy rfl (λs3 I3 ha=>?_) hf);obtain⟨a,sb,ha⟩:=ha;have hCa:C≠a:=λz=>by
  rcases ha with q | q
  ·exact f'.2.1 (z.trans q)
  ·exact f'.2.2.2.2.1 _ _ q z.symm
 exact⟨m',ns'.sameBut sb hCa,λh' sb'=>⟨_,H',I3.turned (t':=s3.toks) (λb o hb e=>(sb'.2 b hb).trans e) f'.1 f'.2.1 f'.2.2.2.1 f'.2.2.2.2.1 f'.2.2.2.2.2,r⟩⟩
end
end L2
namespace L2
open PySem
section
variable {P:Ý}{w:ç}{A:ø}{E:Ä->Æ->Prop}{s:Æ}
theorem p90(hr:s.heap.IsTupleIter r t k)(ht:s.heap.IsTuple t vs)(hx:vs[k]?=some x)
  (hQ:∀ h',h'.IsTupleIter r t (k + 1)->Ë9 r s.heap h'->Q x { s with heap:=h' }):Î (Ô P w) A (nextOf (.ref r)) Q E s:=by
 obtain⟨o,ho,hc,hd⟩:=id hr;obtain⟨ot,hot,_,nt,hdt⟩:=ht;unfold nextOf;refine À (À6 (name:=Á0 "__next__") hr.typeIs É6 (À5 É6 hr.typeIs ß7 ?_ (ß3 _)));show Î _ _ (field (.ref r) 0 >>= _) _ _ s;refine À (Á6 ho hd (x:=.ref t) rfl ?_);show Î _ _ (if (Ã3 t == â)=true then _ else _) _ _ s;rw[if_neg (show ¬ ((Ã3 t == â)=true) from Ð)];show Î _ _ (field (.ref r) 1 >>= _) _ _ s;refine À (Á6 ho hd (x:=.int k 0) rfl ?_);show Î _ _ (seqItems? (.ref t) >>= _) _ _ s;refine À (Ç4 hot hdt ?_);simp only[Á9,hx];refine À (wpAny_setField ho hd (by simp) (Å ⟨x,rfl,Å (hQ _ ⟨_,Ç8 _ ho (Obj.isFreed_of_fields (Obj.data_mapFields hd _)),(Obj.cls_mapFields ..).trans hc,by rw[Obj.data_mapFields hd];simp[Ã7]⟩ (Æ0 ..))⟩))
theorem l50(hh:A.handled=none)(hr:s.heap.IsTupleIter r t k)(ht:s.heap.IsTuple t vs)(hx:vs[k]?=none)
  (hE:∀ h' e,é.ExtBut r s.heap h'->(∃ o,h'.get? e=some o/\o.cls=.type "StopIteration")->E (.ref e) { s with heap:=h' }):Î (Ô P w) A (nextOf (.ref r)) Q E s:=by
 obtain⟨o,ho,hc,hd⟩:=id hr;obtain⟨ot,hot,_,nt,hdt⟩:=ht;unfold nextOf;refine À (À6 (name:=Á0 "__next__") hr.typeIs É6 (À5 É6 hr.typeIs ß7 ?_ (ß3 _)));show Î _ _ (field (.ref r) 0 >>= _) _ _ s;refine À (Á6 ho hd (x:=.ref t) rfl ?_);show Î _ _ (if (Ã3 t == â)=true then _ else _) _ _ s;rw[if_neg (show ¬ ((Ã3 t == â)=true) from Ð)];show Î _ _ (field (.ref r) 1 >>= _) _ _ s;refine À (Á6 ho hd (x:=.int k 0) rfl ?_);show Î _ _ (seqItems? (.ref t) >>= _) _ _ s;refine À (Ç4 hot hdt ?_);simp only[Á9,hx];refine À (Ê0 (À (wpAny_setField ho hd (by simp) ?_)));show Î _ _ (newExc (.type "StopIteration") [] >>= _) _ _ _
 refine À ?_;simp only[newExc,newTuple];refine À (å ?_ (by size_fits));refine À (m:=Ø9 _ _) (ß4 (a:=â) (by first | rfl | (simp only[Ø9];rfl)) ?_)
 refine å ?_ (by size_fits);simp only[raiseNew];refine À (wpAny_handled ?_)
 first | rw[show A.in1.handled=none from hh] | rw[hh]
 refine À (Å (wpAny_throw (hE _ _ (((Æ0 ..).extBut.push _).push _) ⟨_,Ê _ rfl,rfl⟩)))
theorem s11{z TI TO i1 i2 l1 l2:Ç}{k:Nat}{xs ys:Array Ä}{x y a b:Ä}{Q:Option Ä->Æ->Prop}(D:ZipApart z TI TO i1 i2 l1 l2)(hz:Ò0 s.heap z TI TO .none)
  (hTI:Æ4 s.heap TI (.ref i1) (.ref i2)) (hTO:Æ4 s.heap TO a b) (h1:s.heap.IsTupleIter i1 l1 k) (h2:s.heap.IsTupleIter i2 l2 k) (hl1:s.heap.IsTuple l1 xs) (hl2:s.heap.IsTuple l2 ys)
  (hx:xs[k]?=some x) (hy:ys[k]?=some y)
  (hQ:∀ h',Ò0 h' z TI TO (Ã7 s.heap.objs.size)->Æ4 h' TO x y->h'.IsTupleIter i1 l1 (k + 1)->h'.IsTupleIter i2 l2 (k + 1)->Æ4 h' s.heap.objs.size x y->h'.objs.size=s.heap.objs.size + 1 ->
   (∀ c o,c≠z->c≠TO->c≠i1->c≠i2->s.heap.get? c=some o->h'.get? c=some o)->Q (some (.ref s.heap.objs.size)) { s with heap:=h' }):Î (Ô P w) A (Ñ1 (.ref z)) Q E s:=by
 have hT:s.TypeIs (.ref z) "zip":=⟨_,hz,rfl⟩;unfold Ñ1;refine À (Ë3 (À6 (name:=Á0 "__next__") hT Õ4 (À5 Õ4 hT F.entry_zip_next ?_ (F.args_zip_next_1 _))));show Î _ _ (field (.ref z) 2 >>= _) _ _ _;refine À (Á6 hz rfl (x:=.bool false) rfl ?_);show Î _ _ (field (.ref z) 3 >>= _) _ _ _;refine À (Á6 hz rfl (x:=.ref TI) rfl ?_);refine À (Ç4 hTI rfl ?_);show Î _ _ (Ì9 (.ref z) >>= _) _ _ _;refine À ?_;unfold Ì9;refine À (Á6 hz rfl (x:=.none) rfl (Å ?_));simp only[if_true];refine À (Ê0 (À (Á6 hz rfl (x:=.ref TO) rfl (À (Ã0 hz (by simp) λg1 z1 e1=>?_)))))
 replace z1:Ò0 g1 z TI TO .ellipsis:=z1
 refine À ?_;simp only[List.zipIdx_cons,List.zipIdx_nil,Í1,Ö5];refine À (À (Û3 ?_));show Î _ _ (nextOf (.ref i1) >>= _) _ _ _;refine À (p90 (h1.extBut e1.extBut D.i1z) (hl1.extBut e1.extBut D.l1z) hx λg2 r2 e2=>Å ?_);have t2:Æ4 g2 TO a b:=e2.extBut _ _ D.TOi1 (e1.extBut _ _ D.TOz hTO);refine À (Ç4 t2 rfl (À (Ø5 t2 λg3 t3 e3=>?_)))
 replace t3:Æ4 g3 TO x b:=t3
 refine À (wpAny_letGo (Å ?_));refine À (À (Û3 ?_));show Î _ _ (nextOf (.ref i2) >>= _) _ _ _;refine À (p90 (((h2.extBut e1.extBut D.i2z).extBut e2.extBut D.i12.symm).extBut e3.extBut D.TOi2.symm) (((hl2.extBut e1.extBut D.l2z).extBut e2.extBut D.l2i1).extBut e3.extBut D.l2TO) hy λg4 r4 e4=>Å ?_);have t4:Æ4 g4 TO x b:=e4.extBut _ _ D.TOi2 t3;refine À (Ç4 t4 rfl (À (Ø5 t4 λg5 t5 e5=>?_)))
 replace t5:Æ4 g5 TO x y:=t5
 refine À (wpAny_letGo (Å (Å ?_)));refine À (Ç4 t5 rfl (À (wpAny_newTuple ?_)));have sz:g5.objs.size=s.heap.objs.size:=by rw[e5.1,e4.1,e3.1,e2.1,e1.1]
 have z5:Ò0 g5 z TI TO .ellipsis:=e5.extBut _ _ D.TOz.symm (e4.extBut _ _ D.i2z.symm (e3.extBut _ _ D.TOz.symm (e2.extBut _ _ D.i1z.symm z1)));have kp:∀ c o,c≠z->c≠TO->c≠i1->c≠i2->s.heap.get? c=some o->g5.get? c=some o:=λc o c1 c2 c3 c4 e=>e5.extBut _ _ c2 (e4.extBut _ _ c4 (e3.extBut _ _ c2 (e2.extBut _ _ c3 (e1.extBut _ _ c1 e))));have r1:g5.IsTupleIter i1 l1 (k + 1):=((r2.extBut e3.extBut D.TOi1.symm).extBut e4.extBut D.i12).extBut e5.extBut D.TOi1.symm;have r5:g5.IsTupleIter i2 l2 (k + 1):=r4.extBut e5.extBut D.TOi2.symm;have zl:z < g5.objs.size:=à z5;show Î _ _ (ownedTupleHandOut (.ref z) (.ref g5.objs.size) >>= _) _ _ _;refine À ?_;unfold ownedTupleHandOut;have z6:Ò0 (g5.push { cls:=.type "tuple",data:=.seq #[x,y] }) z TI TO .ellipsis:=Ã _ z5;refine À (Ã0 z6 (by simp) λg7 z7 e7=>?_)
 replace z7:Ò0 g7 z TI TO (Ã7 g5.objs.size):=z7
 refine Ã0 z7 (by simp) λg8 z8 e8=>?_
 replace z8:Ò0 g8 z TI TO (Ã7 g5.objs.size):=z8
 have up:∀ c o,c≠z->g5.get? c=some o->g8.get? c=some o:=λc o c1 e=>e8.extBut _ _ c1 (e7.extBut _ _ c1 (Ã _ e));have t8:Æ4 g8 g5.objs.size x y:=e8.extBut _ _ (Ê6 zl) (e7.extBut _ _ (Ê6 zl) (Ê _ rfl));have s8:g8.objs.size=g5.objs.size + 1:=by rw[e8.1,e7.1,Ë4]
 rw[sz] at z8 t8 s8;refine Å ⟨_,rfl,?_⟩;refine Å ?_;show Q (some (.ref g5.objs.size)) _;rw[sz];exact hQ g8 z8 (up _ _ D.TOz t5) (by obtain⟨o,ho,q⟩:=r1;exact⟨o,up _ o D.i1z ho,q⟩) (by obtain⟨o,ho,q⟩:=r5;exact⟨o,up _ o D.i2z ho,q⟩) t8 s8 λc o c1 c2 c3 c4 e=>up c o c1 (kp c o c1 c2 c3 c4 e)
theorem I01{z TI TO i1 i2 l1 l2:Ç}{k:Nat}{xs ys:Array Ä}{a b:Ä}{Q:Option Ä->Æ->Prop}(hh:A.handled=none)(D:ZipApart z TI TO i1 i2 l1 l2)(hz:Ò0 s.heap z TI TO .none)
  (hTI:Æ4 s.heap TI (.ref i1) (.ref i2)) (hTO:Æ4 s.heap TO a b) (h1:s.heap.IsTupleIter i1 l1 k) (h2:s.heap.IsTupleIter i2 l2 k) (hl1:s.heap.IsTuple l1 xs) (hl2:s.heap.IsTuple l2 ys)
  (hend:xs[k]?=none∨ys[k]?=none) (hQ:∀ h',(∀ c o,c≠z->c≠TO->c≠i1->c≠i2->s.heap.get? c=some o->h'.get? c=some o)->Q none { s with heap:=h' }):Î (Ô P w) A (Ñ1 (.ref z)) Q E s:=by
 have hT:s.TypeIs (.ref z) "zip":=⟨_,hz,rfl⟩;have fin:∀ (h':é) (e:Ç),(∀ c o,c≠z->c≠TO->c≠i1->c≠i2->s.heap.get? c=some o->h'.get? c=some o)->(∃ o,h'.get? e=some o/\o.cls=.type "StopIteration") ->
   Î (Ô P w) A (isInstance (.ref e) (.type "StopIteration") >>= λb=>if b=true then pure none else throw (.ref e)) Q E { s with heap:=h' }:=λh' e kp he=>by
  obtain⟨o,ho,hc⟩:=he;exact À (Þ5 (T:="StopIteration") (b:=true) ⟨o,ho,hc⟩ isSubtype_stop (Å (hQ _ kp)))
 unfold Ñ1;refine À (Ë3 (À6 (name:=Á0 "__next__") hT Õ4 (À5 Õ4 hT F.entry_zip_next ?_ (F.args_zip_next_1 _))));show Î _ _ (field (.ref z) 2 >>= _) _ _ _;refine À (Á6 hz rfl (x:=.bool false) rfl ?_);show Î _ _ (field (.ref z) 3 >>= _) _ _ _;refine À (Á6 hz rfl (x:=.ref TI) rfl ?_);refine À (Ç4 hTI rfl ?_);show Î _ _ (Ì9 (.ref z) >>= _) _ _ _;refine À ?_;unfold Ì9;refine À (Á6 hz rfl (x:=.none) rfl (Å ?_));simp only[if_true];refine À (Ê0 (À (Á6 hz rfl (x:=.ref TO) rfl (À (Ã0 hz (by simp) λg1 z1 e1=>?_)))))
 replace z1:Ò0 g1 z TI TO .ellipsis:=z1
 refine À ?_;simp only[List.zipIdx_cons,List.zipIdx_nil,Í1,Ö5];refine À (À (Û3 ?_));show Î _ _ (nextOf (.ref i1) >>= _) _ _ _;cases hx:xs[k]? with
 |none =>
  refine À (l50 hh (h1.extBut e1.extBut D.i1z) (hl1.extBut e1.extBut D.l1z) hx λg2 e e2 he=>?_);obtain⟨oe,hoe,hce⟩:=he;have z2:Ò0 g2 z TI TO .ellipsis:=e2 _ _ D.i1z.symm z1;have hez:e≠z:=λq=>by subst q;rw[z2] at hoe;cases hoe;simp at hce
  exact Ã0 z2 (by simp) λg3 _ e3=>fin g3 e (λc o c1 _ c3 _ q=>e3.extBut _ _ c1 (e2 _ _ c3 (e1.extBut _ _ c1 q))) ⟨oe,e3.extBut _ _ hez hoe,hce⟩
 |some x =>
  have hy:ys[k]?=none:=by rcases hend with q | q;rw[hx] at q;cases q;exact q
  refine À (p90 (h1.extBut e1.extBut D.i1z) (hl1.extBut e1.extBut D.l1z) hx λg2 r2 e2=>Å ?_);have t2:Æ4 g2 TO a b:=e2.extBut _ _ D.TOi1 (e1.extBut _ _ D.TOz hTO);refine À (Ç4 t2 rfl (À (Ø5 t2 λg3 t3 e3=>?_)));refine À (wpAny_letGo (Å ?_));refine À (À (Û3 ?_));show Î _ _ (nextOf (.ref i2) >>= _) _ _ _;refine À (l50 hh (((h2.extBut e1.extBut D.i2z).extBut e2.extBut D.i12.symm).extBut e3.extBut D.TOi2.symm) (((hl2.extBut e1.extBut D.l2z).extBut e2.extBut D.l2i1).extBut e3.extBut D.l2TO) hy λg4 e e4 he=>?_);obtain⟨oe,hoe,hce⟩:=he;have z4:Ò0 g4 z TI TO .ellipsis:=e4 _ _ D.i2z.symm (e3.extBut _ _ D.TOz.symm (e2.extBut _ _ D.i1z.symm z1));have hez:e≠z:=λq=>by subst q;rw[z4] at hoe;cases hoe;simp at hce
  exact Ã0 z4 (by simp) λg5 _ e5=>fin g5 e (λc o c1 c2 c3 c4 q=>e5.extBut _ _ c1 (e4 _ _ c4 (e3.extBut _ _ c2 (e2.extBut _ _ c3 (e1.extBut _ _ c1 q))))) ⟨oe,e5.extBut _ _ hez hoe,hce⟩
abbrev zT1(h:é)(l1:Ç):Heap:=h.push { cls:=.type "tuple_iterator",data:=.fields #[.ref l1,.int 0 0] }
abbrev zT2(h:é)(l1 l2:Ç):Heap:=(zT1 h l1).push { cls:=.type "tuple_iterator",data:=.fields #[.ref l2,.int 0 0] }
abbrev zT3(h:é)(l1 l2:Ç):Heap:=(zT2 h l1 l2).push { cls:=.type "tuple",data:=.seq #[.ref h.objs.size,.ref (zT1 h l1).objs.size] }
abbrev zT4(h:é)(l1 l2:Ç):Heap:=(zT3 h l1 l2).push { cls:=.type "tuple",data:=.seq #[.none,.none] }
abbrev zT5(h:é)(l1 l2:Ç):Heap:=(zT4 h l1 l2).push { cls:=.type "zip",data:=.fields #[.none,.bool false,.bool false,.ref (zT2 h l1 l2).objs.size,.ref (zT3 h l1 l2).objs.size] }
theorem l01(l1 l2:Ç)(xs ys:Array Ä) :
  Meets (ÿ.«zip.__new__» ⟨[.type "zip",.ref l1,.ref l2],[]⟩) (λ_ R s=>s.heap.IsTuple l1 xs/\s.heap.IsTuple l2 ys/\R (.ok (.ret (.ref (zT4 s.heap l1 l2).objs.size))) { s with heap:=zT5 s.heap l1 l2 }) :=
 .of_wp λP w A R s h=>by
  obtain⟨hp,g,d,tk,os⟩:=s;obtain⟨hl1,hl2,h⟩:=h;have hsub:=sub_zip;have hL1:Ó3 (Æ.heap ⟨hp,g,d,tk,os⟩) l1 xs:=hl1;have hL2:Ó3 (Æ.heap ⟨hp.push { cls:=.type "tuple_iterator",data:=.fields #[.ref l1,.int 0 0] },g,d,tk,os⟩) l2 ys:=Ó3.push hl2 _
  wp_walk using È0 hL1,È0 hL2
  exact⟨_,rfl,h⟩
theorem s21(hl1:s.heap.IsTuple l1 xs)(hl2:s.heap.IsTuple l2 ys)
  (h:∀ h',Ò0 h' (s.heap.objs.size + 4) (s.heap.objs.size + 2) (s.heap.objs.size + 3) .none->Æ4 h' (s.heap.objs.size + 2) (.ref s.heap.objs.size) (.ref (s.heap.objs.size + 1))->Æ4 h' (s.heap.objs.size + 3) .none .none ->
   h'.IsTupleIter s.heap.objs.size l1 0->h'.IsTupleIter (s.heap.objs.size + 1) l2 0->(∀ c o,s.heap.get? c=some o->h'.get? c=some o)->Q (.ref (s.heap.objs.size + 4)) { s with heap:=h' }) :
  Î (Ô P w) A (call (.type "zip") [.ref l1,.ref l2]) Q E s:=by
 refine callType_new F.called_zip (-0) (F.typeCall_zip_2 _ _) (F.newCall_zip_2 _ _) (λobj=>F.args_object_init_3 obj _ _) F.entry_zip_new (l01 l1 l2 xs ys) ⟨hl1,hl2,?_⟩
 have n1:(zT1 s.heap l1).objs.size=s.heap.objs.size + 1:=Ë4 ..;have n2:(zT2 s.heap l1 l2).objs.size=s.heap.objs.size + 2:=by rw[Ë4,n1]
 have n3:(zT3 s.heap l1 l2).objs.size=s.heap.objs.size + 3:=by rw[Ë4,n2]
 have n4:(zT4 s.heap l1 l2).objs.size=s.heap.objs.size + 4:=by rw[Ë4,n3]
 have g5:(zT5 s.heap l1 l2).get? (zT4 s.heap l1 l2).objs.size=some _:=Ê _ rfl;have g4:(zT5 s.heap l1 l2).get? (zT3 s.heap l1 l2).objs.size=some _:=Ã _ (Ê _ rfl);have g3:(zT5 s.heap l1 l2).get? (zT2 s.heap l1 l2).objs.size=some _:=Ã _ (Ã _ (Ê _ rfl));have g2:(zT5 s.heap l1 l2).get? (zT1 s.heap l1).objs.size=some _:=Ã _ (Ã _ (Ã _ (Ê _ rfl)));have g1:(zT5 s.heap l1 l2).get? s.heap.objs.size=some _:=Ã _ (Ã _ (Ã _ (Ã _ (Ê _ rfl))));show _/\_;rw[n2,n3,n4] at g5;rw[n1,n2] at g3;rw[n3] at g4;rw[n1] at g2;rw[n4];exact⟨⟨_,g5,rfl⟩,h _ g5 g3 g4 ⟨_,g1,rfl,rfl⟩ ⟨_,g2,rfl,rfl⟩ λc o q=>Ã _ (Ã _ (Ã _ (Ã _ (Ã _ q))))⟩
end
open PySem PySem.Spec PyProof.Rows
section
variable {X:Cx}{pins:List (Ç × Obj)}{σ:St}{H:Hp}{s:Æ}{h':é}
theorem Inv.J50{t':Nat}{ch:List Ç}(I:Inv X pins σ H s)(hf:∀ b∈ch,X50 X pins H b)(k:∀ b o,b ∉ ch->s.heap.get? b=some o->h'.get? b=some o):Inv X pins σ H { s with heap:=h',toks:=t' }:=by
 have nch:∀ b u,H b=some u->b ∉ ch:=λb u e z=>by rw[(hf b z).1] at e;cases e
 refine I.step (g':=s.gens) (d':=s.drawn) (ch:=ch) (λb hb=>⟨(hf b hb).2.2.2.1,(hf b hb).2.1,(hf b hb).2.2.2.2.1,(hf b hb).2.2.2.2.2⟩) (λb o _ _ hc e _=>k b o hc e) (λb o _ _ hc e _=>⟨o.slots,k b o hc e⟩) (λ_ _ _ _ n=>n)
  (λb o hc e=>⟨o,k b o hc e⟩) (λ_ _ e=>e) (λ_ _ _ e=>e) (λb ps e=>⟨#[],by rw[e];simp⟩) (λm hm=>?_) (λb u e=>?_) I.bare
 ·obtain⟨o,es,ep,ho,r⟩:=hm;exact⟨o,es,ep,k _ o (λz=>(hf _ z).2.1 rfl) ho,r⟩
 ·refine(I.hok b u e).k31 (λc v hc q=>k c v ?_ q) (λ_ q=>q) λ_ _ q=>q;rcases hc with z | z
  ·rw[z];exact nch b u e
  ·exact nch c _ z
theorem Inv.H81{T:Ç}{o:HO}(I:Inv X pins σ H s)(f:X50 X pins H T)(h0:X.s₀.heap.objs.size<=T)(hok:HOk X.prog X.w (upd H T o) s.heap):Inv X pins σ (upd H T o) s:=by
 have u:=I.base;refine⟨I.ok,I.os,I.bare,⟨u.keep,u.slot,λb ob e n hx=>?_,u.there,λb xs e=>?_,λb ob xs e=>?_,λb ps e=>?_⟩,I.loc,I.cell,?_,λx c e=>?_,λp hp=>?_,hok,I.len⟩
 ·rw[a60 (Ù (Þ (à e) h0))];exact u.free b ob e n hx
 ·have z:=u.tups b xs e;rw[a60 (a80 z f.1)];exact z
 ·have z:=u.frzs b ob xs e;rw[a60 (a80 z f.1)];exact z
 ·obtain⟨more,z⟩:=u.tbls b ps e;exact⟨more,by rw[a60 (a80 z f.1)];exact z⟩
 ·rw[a60 f.2.1.symm];exact I.free
 ·rw[a60 (f.2.2.2.2.1 x c e)];exact I.freeC x c e
 ·obtain⟨e,n,r⟩:=I.pin p hp;exact⟨e,by rw[a60 (f.2.2.2.2.2 p hp)];exact n,r⟩
theorem HOk.S31{P:Ý}{w:ç}{H:Hp}{h:é}{D:Ç}{ys:List V}{its:List Ä}(x:HOk P w H h)(hn:H D=none)(hv:Vals ys its)(hz:ys.length<=Ú)(ho:Ï2 h D its.toArray):HOk P w (upd H D (.tup ys)) h:=λb u e=>by
 by_cases hb:b=D
 ·subst hb;rw[b20] at e;cases e;exact⟨hz,its,hv,ho⟩
 ·rw[a60 hb] at e;exact(x b u e).k31 (λc v _ q=>q) (λc q=>by rw[a60 (a80 q hn)];exact q) λc xs q=>by rw[a60 (a80 q hn)];exact q
end
def SqB:Bool->Â->Hp->Ç->List V->Prop
 |true=>SqL|false=>SqT
def Q90:Bool->é->Ç->Ç->Nat->Prop
 |true=>é.IsListIter|false=>é.IsTupleIter
def I11:Bool->é->Ç->Array Ä->Prop
 |true=>é.IsList|false=>Ó3
theorem Q90.obj{b:Bool}{h:é}{it a:Ç}{i:Nat}(st:Q90 b h it a i):∃ o,h.get? it=some o/\(∀ v,o.data=.cell v->False)/\∀ h':é,h'.get? it=some o->Q90 b h' it a i:=by
 cases b with
 |true=>obtain⟨o,g,c,d⟩:=st;exact⟨o,g,(λv e=>by rw[d] at e;cases e),λh' k=>⟨o,k,c,d⟩⟩
 |false=>obtain⟨o,g,c,d⟩:=st;exact⟨o,g,(λv e=>by rw[d] at e;cases e),λh' k=>⟨o,k,c,d⟩⟩
theorem Inv.I21(I:Inv X pins σ H s)(h:SqB b X.K H a xs):∃ its:List Ä,Vals xs its/\I11 b s.heap a its.toArray/\a < s.heap.objs.size/\∀ ys,SqB b X.K H a ys->ys=xs:=by
 cases b with
 |true=>obtain⟨its,r,p,_⟩:=I.list h;exact⟨its,r,p.isList,by obtain⟨o,e,_⟩:=p.isList;exact à e,λys h'=>I.d51 h' h⟩
 |false=>obtain⟨its,r,p,_⟩:=I.tuple h;exact⟨its,r,p,by obtain⟨o,e,_⟩:=p;exact à e,λys h'=>I.P20 h' h⟩
section
variable {P:Ý}{w:ç}{A:ø}{E:Ä->Æ->Prop}{s:Æ}{b:Bool}{z TI TO i1 i2 l1 l2:Ç}{k:Nat}{xs ys:Array Ä}{x y p q:Ä}
theorem s31{Q:Option Ä->Æ->Prop}(D:ZipApart z TI TO i1 i2 l1 l2)(hz:Ò0 s.heap z TI TO .none)(hTI:Æ4 s.heap TI (.ref i1) (.ref i2))(hTO:Æ4 s.heap TO p q)(h1:Q90 b s.heap i1 l1 k)(h2:Q90 b s.heap i2 l2 k)(hl1:I11 b s.heap l1 xs)(hl2:I11 b s.heap l2 ys)(hx:xs[k]?=some x)(hy:ys[k]?=some y)
  (hQ:∀ h',Ò0 h' z TI TO (Ã7 s.heap.objs.size)->Æ4 h' TO x y->Q90 b h' i1 l1 (k + 1)->Q90 b h' i2 l2 (k + 1)->Æ4 h' s.heap.objs.size x y->h'.objs.size=s.heap.objs.size + 1 ->
   (∀ c o,c≠z->c≠TO->c≠i1->c≠i2->s.heap.get? c=some o->h'.get? c=some o)->Q (some (.ref s.heap.objs.size)) { s with heap:=h' }):Î (Ô P w) A (Ñ1 (.ref z)) Q E s:=match b,h1,h2,hl1,hl2,hQ with
 |true,h1,h2,hl1,hl2,hQ=>wpAny_pyNext_zip_item D hz hTI hTO h1 h2 hl1 hl2 hx hy hQ|false,h1,h2,hl1,hl2,hQ=>s11 D hz hTI hTO h1 h2 hl1 hl2 hx hy hQ
theorem I31{Q:Option Ä->Æ->Prop}(hh:A.handled=none)(D:ZipApart z TI TO i1 i2 l1 l2)(hz:Ò0 s.heap z TI TO .none)(hTI:Æ4 s.heap TI (.ref i1) (.ref i2))(hTO:Æ4 s.heap TO p q)(h1:Q90 b s.heap i1 l1 k)(h2:Q90 b s.heap i2 l2 k)(hl1:I11 b s.heap l1 xs)(hl2:I11 b s.heap l2 ys)
  (hend:xs[k]?=none∨ys[k]?=none) (hQ:∀ h',(∀ c o,c≠z->c≠TO->c≠i1->c≠i2->s.heap.get? c=some o->h'.get? c=some o)->Q none { s with heap:=h' }):Î (Ô P w) A (Ñ1 (.ref z)) Q E s:=match b,h1,h2,hl1,hl2 with
 |true,h1,h2,hl1,hl2=>wpAny_pyNext_zip_end hh D hz hTI hTO h1 h2 hl1 hl2 hend hQ|false,h1,h2,hl1,hl2=>I01 hh D hz hTI hTO h1 h2 hl1 hl2 hend hQ
theorem s41{Q:Ä->Æ->Prop}(hl1:I11 b s.heap l1 xs)(hl2:I11 b s.heap l2 ys)
  (h:∀ h',Ò0 h' (s.heap.objs.size + 4) (s.heap.objs.size + 2) (s.heap.objs.size + 3) .none->Æ4 h' (s.heap.objs.size + 2) (.ref s.heap.objs.size) (.ref (s.heap.objs.size + 1))->Æ4 h' (s.heap.objs.size + 3) .none .none ->
   Q90 b h' s.heap.objs.size l1 0->Q90 b h' (s.heap.objs.size + 1) l2 0->(∀ c o,s.heap.get? c=some o->h'.get? c=some o)->Q (.ref (s.heap.objs.size + 4)) { s with heap:=h' }):Î (Ô P w) A (call (.type "zip") [.ref l1,.ref l2]) Q E s:=match b,hl1,hl2,h with
 |true,hl1,hl2,h=>call_zip_2 hl1 hl2 λh' a1 a2 a3 a4 a5 _ a6=>h h' a1 a2 a3 a4 a5 a6|false,hl1,hl2,h=>s21 hl1 hl2 h
end
def Itz(b:Bool)(K:Â)(a c:Ç):It :=
 ⟨λi H=>∃ xs ys x y,SqB b K H a xs/\SqB b K H c ys/\xs[i]?=some x/\ys[i]?=some y,
  λi H v H'=>∃ T,v=.ref T/\H T=none/\∀ xs ys x y,SqB b K H a xs->SqB b K H c ys->xs[i]?=some x->ys[i]?=some y->H'=upd H T (.tup [x,y]),
  λi H=>∃ xs ys,SqB b K H a xs/\SqB b K H c ys/\(xs.length<=i∨ys.length<=i)⟩
theorem I41{P:Ý}{w:ç}{K:Â}{es:List Ï}{ek:Nat}{ep:Pos}{b:Bool}{a c z TI TO i1 i2:Ç}(D:ZipApart z TI TO i1 i2 a c) :
  Turn P w K (.Tuple es ek ep) (Itz b K a c) [z,TI,TO,i1,i2] z (λi h=>Ò0 h z TI TO .none/\Æ4 h TI (.ref i1) (.ref i2)/\(∃ p q,Æ4 h TO p q)/\Q90 b h i1 a i/\Q90 b h i2 c i) where
 mem:=by simp
 obj:=λi h st c hc=>by
  obtain⟨hz,hTI,⟨p,q,hTO⟩,h1,h2⟩:=st;obtain⟨o1,h1,d1,_⟩:=h1.obj;obtain⟨o2,h2,d2,_⟩:=h2.obj;simp only[Â7,À0,or_false] at hc;rcases hc with rfl | rfl | rfl | rfl | rfl
  ·exact⟨_,hz,λv e=>by cases e⟩
  ·exact⟨_,hTI,λv e=>by cases e⟩
  ·exact⟨_,hTO,λv e=>by cases e⟩
  ·exact⟨_,h1,d1⟩
  ·exact⟨_,h2,d2⟩
 keep:=λi h h' st k=>by
  obtain⟨hz,hTI,⟨p,q,hTO⟩,h1,h2⟩:=st;obtain⟨o1,h1,_,r1⟩:=h1.obj;obtain⟨o2,h2,_,r2⟩:=h2.obj;exact⟨k z (by simp) _ hz,k TI (by simp) _ hTI,⟨p,q,k TO (by simp) _ hTO⟩,r1 _ (k i1 (by simp) _ h1),r2 _ (k i2 (by simp) _ h2)⟩
 item:=by
  intro X hP hw hK hc i pins s σ H E I hf st hg;subst hP hw hK;obtain⟨xs,ys,x,y,hq1,hq2,hx,hy⟩:=hg;obtain⟨v1,rv1,p1,_,z1⟩:=I.I21 hq1;obtain⟨v2,rv2,p2,_,z2⟩:=I.I21 hq2;obtain⟨u1,hu1,ru1⟩:=rv1.get hx;obtain⟨u2,hu2,ru2⟩:=rv2.get hy;obtain⟨hz,hTI,⟨p,q,hTO⟩,h1,h2⟩:=st;refine s31 D hz hTI hTO h1 h2 p1 p2 (x:=u1) (y:=u2) (by simpa using hu1) (by simpa using hu2) λg1 gz gTO g1' g2' gT gs kp=>⟨_,rfl,?_⟩
  refine wpAny_letOwnedTupleGo_zip (s:={ s with heap:=g1 }) gz λg2 gz2 sb=>?_;have hT:H s.heap.objs.size=none:=I.hok.fresh (Í _);have kall:∀ c o,c ∉ [z,TI,TO,i1,i2]->s.heap.get? c=some o->g2.get? c=some o:=λc o hc e=>by
   simp only[Â7,À0,or_false,not_or] at hc;exact sb.extBut _ _ hc.1 (kp c o hc.1 hc.2.2.1 hc.2.2.2.1 hc.2.2.2.2 e)
  have I2:Inv X pins σ H { s with heap:=g2 }:=I.J50 (t':=s.toks) hf kall;have fT:X50 X pins H s.heap.objs.size:=I.p11 (Í _) hT;have gT2:g2.get? s.heap.objs.size=some { cls:=.type "tuple",data:=.seq #[u1,u2] }:=sb.extBut _ _ (λe=>Á8 _ (by have:=à hz;rw[← e] at this;exact this)) gT
  have I3:Inv X pins σ (upd H s.heap.objs.size (.tup [x,y])) { s with heap:=g2 }:=I2.H81 fT I.sz (I2.hok.S31 hT (its:=[u1,u2]) (.cons ru1 (.cons ru2 .nil)) (by show 2<=Ú;rw[Á3];decide) ⟨_,gT2,rfl,_,rfl⟩)
  have TI0:Æ4 g2 TI (.ref i1) (.ref i2):=sb.extBut _ _ D.TIz (kp _ _ D.TIz D.TITO D.TIi1 D.TIi2 hTI);obtain⟨o1,w1,_,r1⟩:=g1'.obj;obtain⟨o2,w2,_,r2⟩:=g2'.obj;refine⟨.ref s.heap.objs.size,_,I3,rfl,⟨_,rfl,hT,λxs' ys' x' y' e1 e2 e3 e4=>?_⟩,⟨gz2,TI0,⟨_,_,sb.extBut _ _ D.TOz gTO⟩,r1 _ (sb.extBut _ _ D.i1z w1),r2 _ (sb.extBut _ _ D.i2z w2)⟩,λc hc=>?_⟩
  ·rw[z1 _ e1] at e3;rw[z2 _ e2] at e4;rw[hx] at e3;rw[hy] at e4;cases e3;cases e4;rfl
  ·rw[a60]
   ·exact(hf c hc).1
   ·intro e;obtain⟨o1,h1,_⟩:=h1.obj;obtain⟨o2,h2,_⟩:=h2.obj;have lt:c < s.heap.objs.size:=by
     simp only[Â7,À0,or_false] at hc;rcases hc with rfl | rfl | rfl | rfl | rfl
     ·exact à hz
     ·exact à hTI
     ·exact à hTO
     ·exact à h1
     ·exact à h2
    rw[e] at lt;exact Á8 _ lt
 done:=by
  intro X hP hw hK hc i pins s σ H E I hf st hg;subst hP hw hK;obtain⟨xs,ys,hq1,hq2,hend⟩:=hg;obtain⟨v1,rv1,p1,_⟩:=I.I21 hq1;obtain⟨v2,rv2,p2,_⟩:=I.I21 hq2;obtain⟨hz,hTI,⟨p,q,hTO⟩,h1,h2⟩:=st;have l1:=rv1.length;have l2:=rv2.length;refine I31 (I.ok.hd hc) D hz hTI hTO h1 h2 p1 p2 (hend.elim (λe=>.inl (by simp;omega)) λe=>.inr (by simp;omega)) λg kp=>⟨rfl,I.J50 (t':=s.toks) hf λc o hcn e=>?_⟩
  simp only[Â7,À0,or_false,not_or] at hcn;exact kp c o hcn.1 hcn.2.2.1 hcn.2.2.2.1 hcn.2.2.2.2 e
 self:=λ_ _ _ _ _ st h=>wpAny_pyIter_zip st.1 h
def R32(K:Â)(ta:TA):TI:=λσ H R=>ta σ H λvs H1=>∃ b a c,vs=[.ref a,.ref c]/\(∃ xs,SqB b K H1 a xs)/\(∃ ys,SqB b K H1 c ys)/\R (Itz b K a c) H1
theorem boot_zip:ï "zip"=some (.type "zip"):=by decide +kernel
theorem n72{X:Cx}{a b:Ï}{es:List Ï}{ek:Nat}{ep:Pos}{ta:TA}{p pos:Pos}(hg:Gl X "zip")(hm:X.mg "zip"=none)(ha:PA X [a,b] ta)(hs:þ [a,b] X.env=[(false,eval a X.env),(false,eval b X.env)]:=by rfl)(hs2:þ [b] X.env=[(false,eval b X.env)]:=by rfl) :
  PI X (.Tuple es ek ep) (.Call (.Name "zip" p) [a,b] [] pos) (R32 X.K ta):=by
 intro pins s σ H R I h;refine Call_ (t70 I hg hm boot_zip (Á2 (thn (ha pos pins s σ H _ I h) λus s1 ⟨vs,H1,I1,r1,q1⟩=>?_) (by rw[hs,hs2]) (by rw[hs2];rfl)))
 obtain⟨b,l1,l2,e,⟨xs,hq1⟩,⟨ys,hq2⟩,q⟩:=q1;subst e;obtain⟨u,w',rfl,r,r'⟩:=vals2 r1;cases r;cases r';obtain⟨v1,rv1,p1,a1,_⟩:=I1.I21 hq1;obtain⟨v2,rv2,p2,a2,_⟩:=I1.I21 hq2;refine s41 p1 p2 λh' hz hTI hTO h1 h2 kp=>wpAny_pyIter_zip (s:={ s1 with heap:=h' }) hz ?_;refine⟨_,[s1.heap.objs.size + 4,s1.heap.objs.size + 2,s1.heap.objs.size + 3,s1.heap.objs.size,s1.heap.objs.size + 1],_,_,H1,rfl,I1.kept (t':=s1.toks) kp,I41 (PyProof.Rows.zipApart_new a1 a2),⟨hz,hTI,⟨_,_,hTO⟩,h1,h2⟩,λc hc=>?_,q⟩;have hc':s1.heap.objs.size<=c:=by
  simp only[Â7,À0,or_false] at hc;rcases hc with rfl | rfl | rfl | rfl | rfl
  ·exact É7 _ 4
  ·exact É7 _ 2
  ·exact É7 _ 3
  ·exact Í _
  ·exact É7 _ 1
 exact I1.p11 hc' (I1.hok.fresh hc')
theorem I51(hc:X.calm=true):g10 X (.builtin "all") (λxs H Q=>∃ (a:Ç) (bs:List Bool),xs=[.ref a]/\SqL X.K H a (bs.map V.bl)/\Q (.bl (bs.all id)) H):=by
 intro pins s σ H xs us Q I r h;obtain⟨a,bs,rfl,hq,q⟩:=h;obtain⟨u,rfl,rx⟩:=vals1 r;cases rx;obtain⟨its,rv,pl,hz⟩:=I.list hq;have hlt:a < s.heap.objs.size:=by obtain⟨_,e,_⟩:=pl.isList;exact à e
 have hlen:its.length=bs.length:=by have:=rv.length;simpa using this.symm
 refine call_all_walk (Ý1 pl.isList ⟨_,_,_,_,_,_,λi=>(bs[i]?).getD true,rfl,Walks.list (by exact I.ok.hd hc) s.heap.objs.size a (Ù hlt) its.toArray,⟨⟨_,Ê _ rfl,rfl,rfl⟩,pl.isList.push _⟩,?_,?_⟩)
 ·intro i v s' Q' E' hP hQ;have hP':its[i]?=some v:=by simpa using hP
  have hi:i < bs.length:=by rw[← hlen];exact(ß.mp hP').1
  obtain⟨v',hv',rv'⟩:=rv.get (i:=i) (x:=.bl bs[i]) (by simp[hi])
  rw[hP'] at hv';cases hv';cases (show v=Î9 _ from rv');exact Â6 (by simpa [hi] using hQ)
 ·intro h' tk kp;refine⟨.bl (bs.all id),H,I.kept λb o e=>kp b o (by simpa using Ù (à e)) (Ã _ e),?_,q⟩
  show Î9 _=Î9 _;rw[Ó,hlen,PyProof.Rows.LSm.range_all]
end L2
namespace MySort
open PySem PySem.W PyProof.Rows
def run{α:Type}(cmp:Nat->Nat->Bool):KasT α->α
 |.ret a=>a|.ask i j k=>run cmp (k (cmp i j))
theorem run_bind(cmp:Nat->Nat->Bool)(f:α->KasT β):∀ t:KasT α,run cmp (t.bind f)=run cmp (f (run cmp t))
 |.ret _=>rfl|.ask i j k=>run_bind cmp f (k (cmp i j))
section
variable (O:KeyOrd) (key:Nat->O.α)
def kk(p:Array Nat)(i:Nat):O.α:=key (p.getD i 0)
abbrev k60:Nat->Nat->Bool:=λi j=>O.blt (key i) (key j)
def Up(p:Array Nat)(n:Nat):Prop:=∀ i j,i<=j->j < n->O.kle (kk O key p i) (kk O key p j)
def Dn(p:Array Nat)(n:Nat):Prop:=∀ i j,i<=j->j < n->O.kle (kk O key p j) (kk O key p i)
variable {O key}
theorem u00(h:p[i]?=q[j]?):kk O key p i=kk O key q j:=by
 unfold kk;rw[Î2,Î2,h]
theorem s51(hj:j<=p.size)(k:Nat):kk O key (È1 p i j) k=if i<=k/\k < j then kk O key p (i + j - 1 - k) else kk O key p k:=by
 have e:=getElem?_mirror_all (i:=i) hj k;unfold È1;by_cases h1:i<=k/\k < j
 ·rw[if_pos h1] at e ⊢;exact u00 e
 ·rw[if_neg h1] at e ⊢;exact u00 e
theorem n82(hs:k < p.size)(hd:d<=k)(i:Nat) :
  kk O key (bubble p k d) i=if i=k - d then kk O key p k else if k - d < i/\i<=k then kk O key p (i - 1) else kk O key p i:=by
 have e:=getElem?_bubble hs d hd i;by_cases h1:i=k - d
 ·rw[if_pos h1] at e ⊢;exact u00 e
 ·rw[if_neg h1] at e ⊢;by_cases h2:k - d < i/\i<=k
  ·rw[if_pos h2] at e ⊢;exact u00 e
  ·rw[if_neg h2] at e ⊢;exact u00 e
theorem Up.more(h:Up O key p n)(h1:1<=n)(hl:O.kle (kk O key p (n - 1)) (kk O key p n)):Up O key p (n + 1):=by
 intro i j hij hj;by_cases e:j=n
 ·subst e;by_cases e2:i=j
  ·subst e2;exact Ç3 _
  ·exact Ú0 (h i (j - 1) ∅ ∅) hl
 ·exact h i j hij ∅
theorem Dn.more(h:Dn O key p n)(h1:1<=n)(hl:O.kle (kk O key p n) (kk O key p (n - 1))):Dn O key p (n + 1):=by
 intro i j hij hj;by_cases e:j=n
 ·subst e;by_cases e2:i=j
  ·subst e2;exact Ç3 _
  ·exact Ú0 hl (h i (j - 1) ∅ ∅)
 ·exact h i j hij ∅
theorem s61:∀ (f n:Nat),1<=n->Up O key p n ->
  n<=run (k60 O key) (È2 p f n)/\run (k60 O key) (È2 p f n)<=n + f/\Up O key p (run (k60 O key) (È2 p f n)) /\
   (run (k60 O key) (È2 p f n) < n + f->O.klt (kk O key p (run (k60 O key) (È2 p f n))) (kk O key p (run (k60 O key) (È2 p f n) - 1)))
 |0,n,h1,hu=>⟨Í _,Í _,hu,λh=>absurd h (Á8 _)⟩
 |f + 1,n,h1,hu=>by
  show n<=run _ (if O.blt (kk O key p n) (kk O key p (n - 1))=true then Ò5 n else È2 p f (n + 1))/\run _ (if O.blt (kk O key p n) (kk O key p (n - 1))=true then Ò5 n else È2 p f (n + 1))<=n + (f + 1) /\
   Up O key p (run _ (if O.blt (kk O key p n) (kk O key p (n - 1))=true then Ò5 n else È2 p f (n + 1))) /\
   (run _ (if O.blt (kk O key p n) (kk O key p (n - 1))=true then Ò5 n else È2 p f (n + 1)) < n + (f + 1) ->
    O.klt (kk O key p (run _ (if O.blt (kk O key p n) (kk O key p (n - 1))=true then Ò5 n else È2 p f (n + 1)))) (kk O key p (run _ (if O.blt (kk O key p n) (kk O key p (n - 1))=true then Ò5 n else È2 p f (n + 1)) - 1)))
  cases hb:O.blt (kk O key p n) (kk O key p (n - 1)) with
  |true =>
   simp only[if_true];exact⟨Í _,by show n<=n + (f + 1);omega,hu,λ_=>hb⟩
  |false =>
   simp only[Ã4,if_false];have ih:=s61 f (n + 1) ∅ (hu.more h1 hb)
   refine⟨by omega,by omega,ih.2.2.1,λh=>ih.2.2.2 ∅⟩
theorem rev_eq(hj:j<=p.size)(he:∀ k,i<=k->k < j->kk O key p k=kk O key p (j - 1))(k:Nat):kk O key (È1 p i j) k=kk O key p k:=by
 rw[s51 hj];split
 ·rw[he _ ∅ ∅,he k ∅ ∅]
 ·rfl
theorem J60(p:Array Nat)(i j:Nat):(È1 p i j).Perm p:=mirror_perm _ _ _ _
theorem J70(p:Array Nat)(i j:Nat):(È1 p i j).size=p.size:=mirror_size _ _ _ _
structure DnR(O:KeyOrd)(key:Nat->O.α)(p0 p:Array Nat)(n q:Nat):Prop where
 perm:p.Perm p0
 size:p.size=p0.size
 pos:q + 1<=n
 dn:Dn O key p n
 eq:∀ k,n - (q + 1)<=k->k < n->kk O key p k=kk O key p (n - 1)
theorem DnR.rev(h:DnR O key p0 p n q)(hn:n<=p0.size):DnR O key p0 (È1 p (n - (q + 1)) n) n q:=by
 have hz:=h.size;have e:=rev_eq (O:=O) (key:=key) (i:=n - (q + 1)) (j:=n) (p:=p) ∅ h.eq
 exact⟨(J60 _ _ _).trans h.perm,(J70 _ _ _).trans hz,h.pos,λi j hij hj=>by rw[e,e];exact h.dn i j hij hj,λk h1 h2=>by rw[e,e];exact h.eq k h1 h2⟩
theorem Y10:∀ (f:Nat) (p:Array Nat) (n q:Nat),DnR O key p0 p n q->n + f<=p0.size ->
  n<=(run (k60 O key) (Ã2 f p n q)).2.1/\(run (k60 O key) (Ã2 f p n q)).2.1<=n + f /\
   DnR O key p0 (run (k60 O key) (Ã2 f p n q)).1 (run (k60 O key) (Ã2 f p n q)).2.1 (run (k60 O key) (Ã2 f p n q)).2.2
 |0,p,n,q,h,_=>⟨Í _,Í _,h⟩
 |f + 1,p,n,q,h,hn=>by
  have hp:=h.pos;have hz:=h.size;have unf:run (k60 O key) (Ã2 (f + 1) p n q)=run (k60 O key) (if O.blt (kk O key p n) (kk O key p (n - 1))=true then(if q > 0 then Ã2 f (È1 p (n - (q + 1)) n) (n + 1) 0 else Ã2 f p (n + 1) 0)
   else .ask (p.getD (n - 1) 0) (p.getD n 0) λd=>if d=true then .ret (p,n,q) else Ã2 f p (n + 1) (q + 1)):=rfl
  rw[unf];cases hb:O.blt (kk O key p n) (kk O key p (n - 1)) with
  |true =>
   simp only[if_true];have go:∀ p',DnR O key p0 p' n q->(∀ k,kk O key p' k=kk O key p k)->n<=(run (k60 O key) (Ã2 f p' (n + 1) 0)).2.1/\(run (k60 O key) (Ã2 f p' (n + 1) 0)).2.1<=n + (f + 1) /\
     DnR O key p0 (run (k60 O key) (Ã2 f p' (n + 1) 0)).1 (run (k60 O key) (Ã2 f p' (n + 1) 0)).2.1 (run (k60 O key) (Ã2 f p' (n + 1) 0)).2.2:=λp' h' e=>by
    have ih:=Y10 f p' (n + 1) 0 ⟨h'.perm,h'.size,by omega,h'.dn.more ∅ (by rw[e,e];exact Ï9 hb),λk h1 h2=>by
     have:k=n:=by omega
     subst this;rfl⟩ ∅
    exact⟨by omega,by omega,ih.2.2⟩
   split
   ·exact go _ (h.rev ∅) (rev_eq ∅ h.eq)
   ·exact go _ h λ_=>rfl
  |false =>
   simp only[Ã4,if_false];have unf2:run (k60 O key) (KasT.ask (p.getD (n - 1) 0) (p.getD n 0) λd=>if d=true then .ret (p,n,q) else Ã2 f p (n + 1) (q + 1)) =
    run (k60 O key) (if O.blt (kk O key p (n - 1)) (kk O key p n)=true then .ret (p,n,q) else Ã2 f p (n + 1) (q + 1)):=rfl
   rw[unf2];cases hc:O.blt (kk O key p (n - 1)) (kk O key p n) with
   |true =>
    simp only[if_true];exact⟨Í _,by show n<=n + (f + 1);omega,h⟩
   |false =>
    simp only[Ã4,if_false];have e:kk O key p n=kk O key p (n - 1):=O.total _ _ hb hc;have ih:=Y10 f p (n + 1) (q + 1) ⟨h.perm,h.size,by omega,h.dn.more ∅ (by rw[e];exact Ç3 _),λk h1 h2=>by
     show _=kk O key p n;by_cases hk:k=n
     ·rw[hk]
     ·rw[e];exact h.eq k ∅ ∅⟩ ∅
    exact⟨by omega,by omega,ih.2.2⟩
structure D72(O:KeyOrd)(key:Nat->O.α)(p0:Array Nat)(nrem:Nat)(r:Nat × Array Nat):Prop where
 perm:r.2.Perm p0
 size:r.2.size=p0.size
 lo:1<=r.1
 hi:r.1<=nrem
 up:Up O key r.2 r.1
theorem e11(hp:p.Perm p0)(hz:p.size=p0.size)(hd:Dn O key p n)(h1:1<=n)(hn:n<=nrem)(hr:nrem<=p0.size):D72 O key p0 nrem (run (k60 O key) (kas_tail3 n nrem p)):=by
 unfold kas_tail3;rw[run_bind];have hu:Up O key (È1 p 0 n) n:=λi j hij hj=>by
  rw[s51 ∅,s51 ∅,if_pos ∅,if_pos ∅]
  exact hd _ _ ∅ ∅
 have a:=s61 (O:=O) (key:=key) (p:=È1 p 0 n) (nrem - n) n h1 hu;exact⟨(J60 _ _ _).trans hp,(J70 _ _ _).trans hz,by show 1<=run _ (È2 _ _ _);omega,by show run _ (È2 _ _ _)<=_;omega,a.2.2.1⟩
theorem C10(hp:p.Perm p0)(hz:p.size=p0.size)(hd:Dn O key p (n + 1))(hn:n + 1<=nrem)(hr:nrem<=p0.size):D72 O key p0 nrem (run (k60 O key) (Ð5 n nrem p)):=by
 unfold Ð5;rw[run_bind];have d:=Y10 (O:=O) (key:=key) (p0:=p0) (nrem - (n + 1)) p (n + 1) 0 ⟨hp,hz,by omega,hd,λk h1 h2=>by
  have:k=n:=by omega
  subst this;rfl⟩ ∅
 obtain⟨d1,d2,d3⟩:=d;have hpos:=d3.pos;split
 ·have d4:=d3.rev ∅
  exact e11 d4.perm d4.size d4.dn ∅ ∅ hr
 ·exact e11 d3.perm d3.size d3.dn ∅ ∅ hr
theorem I61(h1:1<=nrem)(hr:nrem<=p.size):D72 O key p nrem (run (k60 O key) (Þ8 nrem p)):=by
 unfold Þ8;rw[run_bind];have a:=s61 (O:=O) (key:=key) (p:=p) (nrem - 1) 1 (Í _) (λi j hij hj=>by
  have:i=j:=by omega
  subst this;exact Ç3 _)
 generalize run (k60 O key) (È2 p (nrem - 1) 1)=n at a ⊢;obtain⟨a1,a2,a3,a4⟩:=a;split
 ·exact⟨Ì6 _,rfl,a1,by show n<=nrem;omega,a3⟩
 ·rename_i hne;have hlt:n < nrem:=by
   have:n≠nrem:=by simpa using hne
   omega
  have hl:=a4 ∅
  split
  ·rename_i h2;have unf:run (k60 O key) (KasT.ask (p.getD 0 0) (p.getD (n - 1) 0) λc=>if c=true then .ret (n,p) else Ð5 n nrem (È1 p 0 n)) =
    run (k60 O key) (if O.blt (kk O key p 0) (kk O key p (n - 1))=true then .ret (n,p) else Ð5 n nrem (È1 p 0 n)):=rfl
   rw[unf];cases hb:O.blt (kk O key p 0) (kk O key p (n - 1)) with
   |true =>
    simp only[if_true];exact⟨Ì6 _,rfl,a1,by show n<=nrem;omega,a3⟩
   |false =>
    simp only[Ã4,if_false];have e0:kk O key p 0=kk O key p (n - 1):=O.total _ _ hb (a3 0 (n - 1) ∅ ∅)
    have e:∀ k,0<=k->k < n->kk O key p k=kk O key p (n - 1):=λk _ hk=>by
     refine KeyOrd.kle_antisymm (a3 k (n - 1) ∅ ∅) ?_
     rw[← e0];exact a3 0 k ∅ hk
    have er:=rev_eq (O:=O) (key:=key) (i:=0) (j:=n) (p:=p) ∅ e
    refine C10 (J60 _ _ _) (J70 _ _ _) ?_ ∅ hr
    have dn:Dn O key (È1 p 0 n) n:=λi j hij hj=>by
     rw[er,er,e i ∅ ∅,e j ∅ ∅];exact Ç3 _
    refine dn.more a1 ?_;rw[er,er];exact Ï9 hl
  ·have h2:n=1:=by omega
   subst h2;refine C10 (Ì6 _) rfl ?_ ∅ hr
   have dn:Dn O key p 1:=λi j hij hj=>by
    have:i=j:=by omega
    subst this;exact Ç3 _
   exact dn.more (Í _) (Ï9 hl)
theorem J80(hu:Up O key p k):∀ (f l r:Nat),l<=r->r<=k->r - l<=f->(∀ i,i < l->O.kle (kk O key p i) (kk O key p k))->(∀ i,r<=i->i < k->O.klt (kk O key p k) (kk O key p i)) ->
  run (k60 O key) (Ä4 p k f l r)<=k/\(∀ i,i < run (k60 O key) (Ä4 p k f l r)->O.kle (kk O key p i) (kk O key p k))/\(∀ i,run (k60 O key) (Ä4 p k f l r)<=i->i < k->O.klt (kk O key p k) (kk O key p i))
 |0,l,r,h1,h2,h3,h4,h5=>by
  have:l=r:=by omega
  subst this;exact⟨h2,h4,h5⟩
 |f + 1,l,r,h1,h2,h3,h4,h5=>by
  have unf:Ä4 p k (f + 1) l r=(if l ≥ r then .ret l else .ask (p.getD k 0) (p.getD ((l + r) / 2) 0) λc=>if c=true then Ä4 p k f l ((l + r) / 2) else Ä4 p k f ((l + r) / 2 + 1) r):=rfl;rw[unf];by_cases hlr:l ≥ r
  ·rw[if_pos hlr];have:l=r:=by omega
   subst this;exact⟨h2,h4,h5⟩
  ·rw[if_neg hlr];have unf2:run (k60 O key) (KasT.ask (p.getD k 0) (p.getD ((l + r) / 2) 0) λc=>if c=true then Ä4 p k f l ((l + r) / 2) else Ä4 p k f ((l + r) / 2 + 1) r) =
    run (k60 O key) (if O.blt (kk O key p k) (kk O key p ((l + r) / 2))=true then Ä4 p k f l ((l + r) / 2) else Ä4 p k f ((l + r) / 2 + 1) r):=rfl
   rw[unf2];cases hb:O.blt (kk O key p k) (kk O key p ((l + r) / 2)) with
   |true =>
    simp only[if_true];exact J80 hu f l ((l + r) / 2) ∅ ∅ ∅ h4 λi hi hk=>KeyOrd.klt_of_klt_of_kle hb (hu _ i hi hk)
   |false =>
    simp only[Ã4,if_false];exact J80 hu f ((l + r) / 2 + 1) r ∅ ∅ ∅ (λi hi=>Ú0 (hu i ((l + r) / 2) ∅ ∅) hb) h5
theorem S41:∀ (f:Nat) (p:Array Nat) (k:Nat),p.Perm p0->p.size=p0.size->Up O key p k->k + f<=p0.size ->
  (run (k60 O key) (kas_bin f p k)).Perm p0/\Up O key (run (k60 O key) (kas_bin f p k)) (k + f)
 |0,p,k,hp,_,hu,_=>⟨hp,hu⟩
 |f + 1,p,k,hp,hz,hu,hk=>by
  have unf:kas_bin (f + 1) p k=(Ä4 p k k 0 k).bind λl=>kas_bin f (bubble p k (k - l)) (k + 1):=rfl;rw[unf,run_bind];have pl:=J80 (O:=O) (key:=key) hu k 0 k ∅ ∅ ∅ (λi hi=>absurd hi (Ö0 _)) (λi h1 h2=>absurd h2 ∅)
  generalize run (k60 O key) (Ä4 p k k 0 k)=l at pl ⊢;obtain⟨l1,l2,l3⟩:=pl;have hb:=n82 (O:=O) (key:=key) (p:=p) (k:=k) (d:=k - l) ∅ ∅
  have hu':Up O key (bubble p k (k - l)) (k + 1):=λi j hij hj=>by
   rw[hb,hb];have el:k - (k - l)=l:=by omega
   rw[el];by_cases ei:i=l
   ·rw[if_pos ei];by_cases ej:j=l
    ·rw[if_pos ej];exact Ç3 _
    ·rw[if_neg ej,if_pos ∅]
     exact Ï9 (l3 _ ∅ ∅)
   ·rw[if_neg ei];by_cases hi:l < i/\i<=k
    ·rw[if_pos hi,if_neg ∅,if_pos ∅]
     exact hu _ _ ∅ ∅
    ·rw[if_neg hi];by_cases ej:j=l
     ·rw[if_pos ej];exact l2 _ ∅
     ·rw[if_neg ej];by_cases hj':l < j/\j<=k
      ·rw[if_pos hj'];exact hu _ _ ∅ ∅
      ·rw[if_neg hj'];exact hu _ _ hij ∅
  have ih:=S41 (p0:=p0) f (bubble p k (k - l)) (k + 1) ((bubble_perm _ _ _).trans hp) ((bubble_size _ _ _).trans hz) hu' ∅
  exact⟨ih.1,by have:=ih.2;rwa [show k + 1 + f=k + (f + 1) by omega] at this⟩
theorem Y71(h1:1<=n):(run (k60 O key) (Ñ4 n)).Perm (ì n).toArray/\Up O key (run (k60 O key) (Ñ4 n)) n:=by
 unfold Ñ4;rw[run_bind];have c:=I61 (O:=O) (key:=key) (p:=(ì n).toArray) h1 (by simp)
 generalize run (k60 O key) (Þ8 n (ì n).toArray)=r at c ⊢;obtain⟨c1,c2,c3,c4,c5⟩:=c;split
 ·have b:=S41 (O:=O) (key:=key) (n - max r.1 1) r.2 (max r.1 1) c1 c2 (by rw[Nat.max_eq_left c3];exact c5) (by simp;omega)
  exact⟨b.1,by have:=b.2;rwa [show max r.1 1 + (n - max r.1 1)=n by omega] at this⟩
 ·have:r.1=n:=by omega
  rw[this] at c5;exact⟨c1,c5⟩
end
def n70{α:Type}(n:Nat):KasT α->Prop
 |.ret _=>True|.ask i j k=>(i < n/\j < n)/\∀ b,n70 n (k b)
def R00{α:Type}(G:α->Prop):KasT α->Prop
 |.ret a=>G a|.ask _ _ k=>∀ b,R00 G (k b)
theorem n70.bind{α β:Type}{n:Nat}{f:α->KasT β}{G:α->Prop}(hf:∀ a,G a->n70 n (f a)):∀ {t:KasT α},n70 n t->R00 G t->n70 n (t.bind f)
 |.ret a,_,g=>hf a g|.ask _ _ _,h,g=>⟨h.1,λb=>n70.bind hf (h.2 b) (g b)⟩
theorem R00.bind{α β:Type}{f:α->KasT β}{G:α->Prop}{G':β->Prop}(hf:∀ a,G a->R00 G' (f a)):∀ {t:KasT α},R00 G t->R00 G' (t.bind f)
 |.ret a,g=>hf a g|.ask _ _ _,g=>λb=>R00.bind hf (g b)
def Low(n:Nat)(p:Array Nat):Prop:=∀ i,p.getD i 0 < n
theorem s71(h1:1<=n)(hp:p.Perm q)(hq:∀ x∈q.toList,x < n):Low n p:=λi=>by
 by_cases hi:i < p.size
 ·have e:p.getD i 0=p[i]:=by simp[getD,hi]
  rw[e];exact hq _ (hp.toList.mem_iff.mp (by simp))
 ·have e:p.getD i 0=0:=by simp[getD,hi]
  rw[e];exact h1
structure Good(n:Nat)(q p:Array Nat):Prop where
 low:Low n p
 perm:p.Perm q
theorem Good.rev(h1:1<=n)(hq:∀ x∈q.toList,x < n)(g:Good n q p)(i j:Nat):Good n q (È1 p i j) :=
 have e:=(mirror_perm p i j ((j - i) / 2)).trans g.perm
 ⟨s71 h1 e hq,e⟩
theorem Good.bub(h1:1<=n)(hq:∀ x∈q.toList,x < n)(g:Good n q p)(i j:Nat):Good n q (bubble p i j) :=
 have e:=(bubble_perm p i j).trans g.perm
 ⟨s71 h1 e hq,e⟩
section
variable {n:Nat}{q:Array Nat}
theorem J90(g:Low n p):∀ (f k:Nat),n70 n (È2 p f k)
 |0,_=>trivial|f + 1,k=>⟨⟨g _,g _⟩,λb=>by cases b with | true=>exact trivial | false=>exact J90 g f (k + 1)⟩
theorem u10:∀ (f k:Nat),R00 (λ_=>True) (È2 p f k)
 |0,_=>trivial|f + 1,k=>λb=>by cases b with | true=>exact trivial | false=>exact u10 f (k + 1)
theorem C20(h1:1<=n)(hq:∀ x∈q.toList,x < n):∀ (f:Nat) (p:Array Nat) (k c:Nat),Good n q p->n70 n (Ã2 f p k c)/\R00 (λr=>Good n q r.1) (Ã2 f p k c)
 |0,p,k,c,g=>⟨trivial,g⟩
 |f + 1,p,k,c,g=>by
  have a:=λp' k' c' g'=>(C20 h1 hq f p' k' c' g').1;have r:=λp' k' c' g'=>(C20 h1 hq f p' k' c' g').2;refine⟨⟨⟨g.low _,g.low _⟩,λb=>?_⟩,λb=>?_⟩
  ·cases b with
   |true =>
    show n70 n (if c > 0 then Ã2 f (È1 p (k - (c + 1)) k) (k + 1) 0 else Ã2 f p (k + 1) 0);split
    ·exact a _ _ _ (g.rev h1 hq _ _)
    ·exact a _ _ _ g
   |false=>exact⟨⟨g.low _,g.low _⟩,λd=>by cases d with | true=>exact trivial | false=>exact a _ _ _ g⟩
  ·cases b with
   |true =>
    show R00 _ (if c > 0 then Ã2 f (È1 p (k - (c + 1)) k) (k + 1) 0 else Ã2 f p (k + 1) 0);split
    ·exact r _ _ _ (g.rev h1 hq _ _)
    ·exact r _ _ _ g
   |false=>exact λd=>by cases d with | true=>exact g | false=>exact r _ _ _ g
theorem q00(h1:1<=n)(hq:∀ x∈q.toList,x < n)(g:Good n q p)(k m:Nat):n70 n (kas_tail3 k m p)/\R00 (λr=>Good n q r.2) (kas_tail3 k m p) :=
 have g':=g.rev h1 hq 0 k
 And.intro (n70.bind (f:=λm'=>Ò5 (m',È1 p 0 k)) (λ_ _=>Ê8) (J90 g'.low (m - k) k) (u10 (m - k) k)) (R00.bind (f:=λm'=>Ò5 (m',È1 p 0 k)) (G':=λr=>Good n q r.2) (λ_ _=>g') (u10 (m - k) k))
theorem h00(h1:1<=n)(hq:∀ x∈q.toList,x < n)(g:Good n q p)(k m:Nat):n70 n (Ð5 k m p)/\R00 (λr=>Good n q r.2) (Ð5 k m p):=by
 have d:=C20 h1 hq (m - (k + 1)) p (k + 1) 0 g;refine⟨n70.bind (λr gr=>?_) d.1 d.2,R00.bind (λr gr=>?_) d.2⟩
 ·split
  ·exact(q00 h1 hq (gr.rev h1 hq _ _) _ _).1
  ·exact(q00 h1 hq gr _ _).1
 ·split
  ·exact(q00 h1 hq (gr.rev h1 hq _ _) _ _).2
  ·exact(q00 h1 hq gr _ _).2
theorem l11(h1:1<=n)(hq:∀ x∈q.toList,x < n)(g:Good n q p)(m:Nat):n70 n (Þ8 m p)/\R00 (λr=>Good n q r.2) (Þ8 m p):=by
 refine⟨n70.bind (λk _=>?_) (J90 g.low _ _) (u10 _ _),R00.bind (λk _=>?_) (u10 _ _)⟩
 ·split
  ·exact trivial
  ·split
   ·exact⟨⟨g.low _,g.low _⟩,λb=>by cases b with | true=>exact trivial | false=>exact(h00 h1 hq (g.rev h1 hq _ _) _ _).1⟩
   ·exact(h00 h1 hq g _ _).1
 ·split
  ·exact g
  ·split
   ·exact λb=>by cases b with | true=>exact g | false=>exact(h00 h1 hq (g.rev h1 hq _ _) _ _).2
   ·exact(h00 h1 hq g _ _).2
theorem h60(g:Low n p)(k:Nat):∀ (f l r:Nat),n70 n (Ä4 p k f l r)/\R00 (λ_=>True) (Ä4 p k f l r)
 |0,_,_=>⟨trivial,trivial⟩
 |f + 1,l,r=>by
  have e:Ä4 p k (f + 1) l r=(if l ≥ r then .ret l else .ask (p.getD k 0) (p.getD ((l + r) / 2) 0) λc=>if c=true then Ä4 p k f l ((l + r) / 2) else Ä4 p k f ((l + r) / 2 + 1) r):=rfl;rw[e];split
  ·exact⟨trivial,trivial⟩
  ·refine⟨⟨⟨g _,g _⟩,λb=>?_⟩,λb=>?_⟩
   ·cases b with
    |true=>exact(h60 g k f _ _).1|false=>exact(h60 g k f _ _).1
   ·cases b with
    |true=>exact(h60 g k f _ _).2|false=>exact(h60 g k f _ _).2
theorem e21(h1:1<=n)(hq:∀ x∈q.toList,x < n):∀ (f:Nat) (p:Array Nat) (k:Nat),Good n q p->n70 n (kas_bin f p k)
 |0,_,_,_=>trivial|f + 1,p,k,g=>n70.bind (λl _=>e21 h1 hq f _ _ (g.bub h1 hq _ _)) (h60 g.low k k 0 k).1 (h60 g.low k k 0 k).2
theorem s81(h1:1<=n):n70 n (Ñ4 n):=by
 have hq:∀ x∈((ì n).toArray).toList,x < n:=λx hx=>by simpa using hx
 have g:Good n (ì n).toArray (ì n).toArray:=⟨s71 h1 (Ì6 _) hq,Ì6 _⟩;have c:=l11 h1 hq g n;refine n70.bind (λr gr=>?_) c.1 c.2;split
 ·exact e21 h1 hq _ _ _ gr
 ·exact trivial
end
theorem R10{α:Type}{n:Nat}{cmp:Nat->Nat->Bool}{ask:Nat->Nat->(Bool->Æ->Prop)->Æ->Prop}{s:Æ}(h:∀ i j (C:Bool->Æ->Prop),i < n->j < n->C (cmp i j) s->ask i j C s){Q:α->Æ->Prop} :
  ∀ (t:KasT α),n70 n t->Q (run cmp t) s->t.kasWp ask Q s
 |.ret _,_,q=>q|.ask i j k,a,q=>h i j _ a.1.1 a.1.2 (R10 h (k (cmp i j)) (a.2 _) q)
def h20:List Int->List Int->Bool
 |[],[]=>false|[],_::_=>true|_::_,[]=>false|x::r,y::q=>if x=y then h20 r q else decide (x < y)
theorem s00:∀ a,h20 a a=false
 |[]=>rfl|x::r=>by show(if x=x then h20 r r else _)=_;rw[if_pos rfl];exact s00 r
theorem q10:∀ a b c,h20 a b=true->h20 b c=true->h20 a c=true
 |[],[],_,h,_=>by cases h
 |[],_::_,[],_,h=>by cases h
 |[],_::_,_::_,_,_=>rfl|_::_,[],_,h,_=>by cases h
 |_::_,_::_,[],_,h=>by cases h
 |x::a,y::b,z::c,h1,h2=>by
  have h1:(if x=y then h20 a b else decide (x < y))=true:=h1;have h2:(if y=z then h20 b c else decide (y < z))=true:=h2;show(if x=z then h20 a c else decide (x < z))=true;by_cases e1:x=y
  ·rw[if_pos e1] at h1;by_cases e2:y=z
   ·rw[if_pos e2] at h2;rw[if_pos (e1.trans e2)];exact q10 a b c h1 h2
   ·rw[if_neg e2] at h2;rw[if_neg ∅]
    rw[e1];exact h2
  ·rw[if_neg e1] at h1;have l1:x < y:=by simpa using h1
   by_cases e2:y=z
   ·rw[if_neg ∅];exact decide_eq_true ∅
   ·rw[if_neg e2] at h2;have l2:y < z:=by simpa using h2
    rw[if_neg ∅];exact decide_eq_true ∅
theorem q20:∀ a b,h20 a b=false->h20 b a=false->a=b
 |[],[],_,_=>rfl|[],_::_,h,_=>by cases h
 |_::_,[],_,h=>by cases h
 |x::a,y::b,h1,h2=>by
  have h1:(if x=y then h20 a b else decide (x < y))=false:=h1;have h2:(if y=x then h20 b a else decide (y < x))=false:=h2;by_cases e:x=y
  ·subst e;rw[if_pos rfl] at h1 h2;rw[q20 a b h1 h2]
  ·rw[if_neg e] at h1;rw[if_neg (Â3 e)] at h2;have l1:¬ x < y:=by simpa using h1
   have l2:¬ y < x:=by simpa using h2
   omega
theorem e31(a b c:List Int)(h:h20 a c=true):h20 a b=true∨h20 b c=true:=by
 cases hab:h20 a b with
 |true=>exact .inl rfl
 |false =>
  right;cases hba:h20 b a with
  |true=>exact q10 b a c hba h|false=>rw[← q20 a b hab hba];exact h
def Y81:KeyOrd:=⟨List Int,h20,s00,q10,e31,q20⟩
section
variable {P:Ý}{w:ç}{A:ø}{E:Ä->Æ->Prop}{s:Æ}
def sortedBy(ks:List (List Int))(p:List Nat):Prop:=p.Perm (ì ks.length)/\(p.map λi=>ks.getD i []).Pairwise λx y=>h20 y x=false
theorem range_getD(d:α):∀ (l:List α),(ì l.length).map (λi=>l.getD i d)=l:=λl=>by
 refine ext_getElem (by simp) λi h1 h2=>?_
 simp at h1;simp[h1]
def D82(P:Ý)(w:ç)(A:ø)(s:Æ)(vs:List Ä)(Pr:List Nat->Prop)(kd:Ï0):Prop:=∃ p:List Nat,Pr p/\∀ (E:Ä->Æ->Prop) (Q:Unit × Â9->Æ->Prop),(∀ st',failedOf st'=none->arrOf st'=(p.toArray).map (ö (vs.toArray.zip vs.toArray))->Q ((),st') s)->Î (Ô P w) A (sortRuns'.run (Ì4 kd (vs.toArray.zip vs.toArray) #[] 7 none)) Q E s
structure j62(P:Program)(w:World)(A:Around)(s:Shared)(vs:List Value)(Pr:List Nat->Prop)(kd:SortKind):Prop where
 len:vs.length<=1000
 few:vs.length < 2->Pr (range vs.length)
 all:∀ p,Pr p->p.length=vs.length
 kind:2<=vs.length->∀ (E:Value->Shared->Prop) (Q:SortKind->Shared->Prop),Q kd s->wpAny (model P w) A (keyKind' vs.toArray) Q E s
 run:2<=vs.length->D82 P w A s vs Pr kd
theorem n92(hl:n=ks.length)(h2:n < 2):sortedBy ks (ì n):=by
 subst hl;refine⟨.refl _,?_⟩;rw[range_getD]
 match ks,h2 with
 |[],_=>exact .nil|[_],_=>simp|_::_::_,q=>simp at q;omega
theorem Y91{vs:List Ä}{ks:List (List Int)}{kd:Ï0}(hlen:vs.length=ks.length)(h64:vs.length < 64)(ask:∀ i j,i < vs.length->j < vs.length->∀ (E:Ä->Æ->Prop) (C:Bool->Æ->Prop),C (h20 (ks.getD i []) (ks.getD j [])) s->Î (Ô P w) A (keyLt' kd (vs.getD i â) (vs.getD j â)) C E s)(h2':2<=vs.length):D82 P w A s vs (sortedBy ks) kd:=by
 have so:=Y71 (O:=Y81) (key:=λi=>ks.getD i []) (n:=vs.length) ∅
 refine⟨(run (k60 Y81 λi=>ks.getD i []) (Ñ4 vs.length)).toList,?_,λE Q q=>?_⟩
 ·generalize run (k60 Y81 λi=>ks.getD i []) (Ñ4 vs.length)=p at so;refine⟨?_,?_⟩
  ·have:=so.1.toList;rw[hlen] at this;simpa using this
  ·rw[List.pairwise_iff_getElem];intro i j hi hj hij;have hsz:p.size=vs.length:=by have:=so.1.size_eq;simpa using this
   have hi':i < p.size:=by simpa using hi
   have hj':j < p.size:=by simpa using hj
   have u:=so.2 i j (É5 hij) ∅
   have g:∀ k,k < p.size->kk Y81 (λi=>ks.getD i []) p k=ks.getD (p.toList.getD k 0) []:=λk hk=>by show ks.getD (p.getD k 0) []=_;rw[Î2,Ø (l:=p.toList),õ]
   have u':h20 (ks.getD (p.toList.getD j 0) []) (ks.getD (p.toList.getD i 0) [])=false:=by
    have:=u;unfold KeyOrd.kle at this;rw[g i hi',g j hj'] at this;exact this
   simpa [hi',hj'] using u'
 ·refine Â1 (kat_run (s:=s) (Q:=λst' s'=>s'=s/\failedOf st'=none/\arrOf st'=(run (k60 Y81 λi=>ks.getD i []) (Ñ4 vs.length)).map (ö (vs.toArray.zip vs.toArray)))
   (G:=λp s'=>s'=s/\p=run (k60 Y81 λi=>ks.getD i []) (Ñ4 vs.length)) rfl h2' h64 (λp st' s' a1 a2 a3 a4=>⟨a4.1,a3,by rw[a2,a4.2]⟩)
   (R10 (n:=vs.length) (cmp:=k60 Y81 λi=>ks.getD i []) (λi j C hi hj hC=>ask i j hi hj _ C hC) (Ñ4 vs.length) (s81 ∅) ⟨rfl,rfl⟩)) ?_ λ_ _ e=>e
  rintro ⟨⟨⟩,st'⟩ s' ⟨hs',hf,har⟩;subst hs';exact q st' hf har
def s91(h h':é):Prop:=∀ b o,h.get? b=some o->o.cls=.type "tuple"->h'.get? b=some o
theorem e41{a:Ç}{vs:List Ä}{Pr:List Nat->Prop}{kd:Ï0}{n:Nat}{R:PySem.Fin->Æ->Prop}(ho:s.heap.get? a=some (Ã1 "list" vs.toArray n))(hk:∀ h',s91 s.heap h'->j62 P w A { s with heap:=h' } vs Pr kd)
  (h:∀ (p:List Nat) (h':é) (c:Nat),Pr p->(∀ b o,b≠a->s.heap.get? b=some o->h'.get? b=some o)->h'.get? a=some (Ã1 "list" (p.map λi=>vs.getD i â).toArray c)->R (.done (.ret .none)) { s with heap:=h' }) :
  Î (Ô P w) A (ÿ.«list.sort» ⟨[.ref a],[]⟩) R E s:=by
 have ha:a < s.heap.objs.size:=à ho;have h64:=(hk s.heap λ_ _ e _=>e).len;have s1:=Æ0 s.heap a (À1 λ_=>(#[]:Array Ä));obtain⟨e1,ho1⟩:∃ e1,(s.heap.update a (À1 λ_=>(#[]:Array Ä))).get? a=some (Ã1 "list" #[] e1):=⟨_,à1 ho λ_=>#[]⟩;have kp:∀ b o,b≠a->s.heap.get? b=some o->(((s.heap.update a (À1 λ_=>(#[]:Array Ä))).push (Ã1 "tuple" vs.toArray 0)).push (Ã1 "list" #[] 0)).get? b=some o:=λb o hb e=>Ã _ (Ã _ ((s1.2 b hb).trans e));have ho6:(((s.heap.update a (À1 λ_=>(#[]:Array Ä))).push (Ã1 "tuple" vs.toArray 0)).push (Ã1 "list" #[] 0)).get? a=some (Ã1 "list" #[] e1):=Ã _ (Ã _ ho1);have hk6:=hk (((s.heap.update a (À1 λ_=>(#[]:Array Ä))).push (Ã1 "tuple" vs.toArray 0)).push (Ã1 "list" #[] 0)) (λb o e hc=>kp b o (λq=>by subst q;rw[ho] at e;cases e;have hc':Á7 "list"=Á7 "tuple":=hc;injection hc' with hc';exact absurd hc' (-0)) e)
 rw[list_sort_plain];refine À (Ð4 ho rfl (À (Û5 ho rfl ?_ (by rw[Ó,Á3];omega) (Æ6 _))))
 refine À (seqEpoch_at ho1 rfl (À (wpAny_newTuple ?_ (by show vs.length<=_;rw[Á3];omega))));refine À (Û4 (À8 ?_) (Æ6 _))
 show Î (Ô P w) A _ R E { s with heap:=((s.heap.update a (À1 λ_=>(#[]:Array Ä))).push (Ã1 "tuple" vs.toArray 0)).push (Ã1 "list" #[] 0) };generalize hH:((s.heap.update a (À1 λ_=>(#[]:Array Ä))).push (Ã1 "tuple" vs.toArray 0)).push (Ã1 "list" #[] 0)=h6 at kp ho6 hk6 ⊢;have fin:∀ (p:List Nat) (out:Array Ä),out=(p.map λi=>vs.getD i â).toArray->Pr p->Î (Ô P w) A (do
   let touched:=(← seqEpoch a) != e1
   ÿ.List.listUpdate (.ref a) λ_=>out
   if touched then rule "list.sort.modified";raiseError "ValueError" "list modified during sort"
   ret .none) R E { s with heap:=h6 }:=λp out eo hp=>by
  subst eo;have hsz:(p.map λi=>vs.getD i â).toArray.size=vs.length:=by rw[Ó,É,(hk s.heap λ_ _ e _=>e).all p hp]
  have s2:=Æ0 h6 a (À1 λ_=>(p.map λi=>vs.getD i â).toArray);refine À (seqEpoch_at ho6 rfl (À (Û5 ho6 rfl ?_ (Æ6 _) (Ò (Ú6 hsz) (by rw[Á3];omega)))))
  simp only[bne_self_eq_false,Ã4,if_false];exact Å (h p _ _ hp (λb o hb e=>(s2.2 b hb).trans (kp b o hb e)) (à1 ho6 λ_=>(p.map λi=>vs.getD i â).toArray))
 dsimp only;by_cases h2:vs.toArray.size < 2
 ·rw[if_pos h2,if_pos h2];refine À (Å ?_);rw[StateT.run_pure];refine À (Å ?_);dsimp only;refine fin (ì vs.length) _ ?_ ((hk s.heap λ_ _ e _=>e).few (by simpa using h2))
  rw[range_getD];apply Û0.mp;rw[Array.toList_map];show List.map _ (vs.toArray.zip vs.toArray).toList=vs;rw[ksk_zip];exact List.map_snd_zip (Í _)
 ·rw[if_neg h2,if_neg h2];have h2':2<=vs.length:=by simpa using h2
  refine À (hk6.kind h2' _ _ ?_);obtain⟨p,hp,hr⟩:=hk6.run h2';refine À (hr _ _ λst' hf har=>?_);dsimp only;rw[hf];exact fin p _ (kat_snds rfl har) hp
end
end MySort
namespace TS
open PySem PySem.W PyProof.Rows
structure Tw where
 a:Array Nat
 pending:Array (Nat × Nat × Nat)
 minGallop:Nat
abbrev TM:=StateT Tw Option
section
variable (n:Nat) (cmp:Nat->Nat->Bool)
def ltT(x y:Nat):TM Bool:=if x < n/\y < n then pure (cmp x y) else λ_=>none
def t01(arr:Array Nat)(i:Nat):TM Nat:=match arr.toList[i]? with
 |some p=>pure p|none=>λ_=>none
def Z01(i j:Nat):TM Bool:=do
 let a:=(← get).a
 ltT n cmp (← t01 a i) (← t01 a j)
def N02(i j:Nat):TM Unit:=modify λs=>{ s with a:=mirror s.a i j ((j - i) / 2) }
def mvL(a:Array Nat)(src dst:Nat):Array Nat:=⟨a.toList.take dst++((a.toList.drop src).take 1++((a.toList.take src).drop dst++a.toList.drop (src + 1)))⟩
theorem o02(h:src < a.size)(h2:dst<=src):mvL a src dst=bubble a src (src - dst):=by
 apply Array.ext_getElem?;intro k;rw[getElem?_bubble h (src - dst) ∅ k,show src - (src - dst)=dst by omega]
 have hl:src < a.toList.length:=h;rw[← õ,← õ,← õ,← õ];show(a.toList.take dst++((a.toList.drop src).take 1++((a.toList.take src).drop dst++a.toList.drop (src + 1))))[k]?=_;generalize a.toList=l at hl;rw[Õ3,Õ3,Õ3,Æ7,Æ7,Í5,Í5,Æ7,show min dst l.length=dst by omega,show min 1 (l.length - src)=1 by omega,show min src l.length - dst=src - dst by omega,Ø1,Ø1,Ø2,Ø2,Ø2,Ø1]
 by_cases c1:k < dst
 ·rw[if_pos c1,if_pos c1,if_neg ∅,if_neg ∅]
 ·rw[if_neg c1];by_cases c2:k=dst
  ·rw[if_pos ∅,if_pos ∅,if_pos c2,show src + (k - dst)=src by omega]
  ·rw[if_neg ∅,if_neg c2]
   by_cases c3:k<=src
   ·rw[if_pos ∅,if_pos ∅,if_pos ∅,show dst + (k - dst - 1)=k - 1 by omega]
   ·rw[if_neg ∅,if_neg ∅,show src + 1 + (k - dst - 1 - (src - dst))=k by omega]
def Z11(src dst:Nat):TM Unit:=λt=>if src < t.a.size/\dst<=src then some ((),{ t with a:=mvL t.a src dst }) else none
end
section
variable {prog:Ý}{w:ç}{A:ø}{E:Ä->Æ->Prop}{s:Æ}{κ:Ï0}{it:Array Keyed}{n:Nat}{cmp:Nat->Nat->Bool}
def co(κ:Ï0)(it:Array Keyed)(t:Tw):SortSt:=Ì4 κ (t.a.map (ö it)) t.pending t.minGallop none
def Sim(prog:Ý)(w:ç)(A:ø)(E:Ä->Æ->Prop)(s:Æ)(κ:Ï0)(it:Array Keyed){α β:Type}(rel:β->α)(m:StateT Â9 Sem α)(f:TM β):Prop :=
 ∀ (t:Tw) (b:β) (t':Tw),f t=some (b,t')->∀ Q:α->Â9->Æ->Prop,Q (rel b) (co κ it t') s->kasC (Ô prog w) A E m Q (co κ it t) s
local macro_rules | `(tactic| trivial)=>`(tactic| skip)
section
variable {α β α' β':Type}{r:β->α}{r':β'->α'}
theorem A40(b:β)(e:a=r b):Sim prog w A E s κ it r (pure a) (pure b):=λt b' t' h Q q=>by
 cases h;subst e;exact kasC_pure q
theorem l60(h:Sim prog w A E s κ it r m f)(hk:∀ b,Sim prog w A E s κ it r' (k (r b)) (g b)):Sim prog w A E s κ it r' (m >>= k) (f >>= g):=λt b t' e Q q=>by
 have e:(f t).bind (λx=>g x.1 x.2)=some (b,t'):=e;obtain⟨⟨b1,t1⟩,e1,e2⟩:=Ñ.mp e;exact kasC_bind (h t b1 t1 e1 _ (hk b1 t1 b t' e2 Q q))
theorem Y20:Sim prog w A E s κ it (co κ it) (get:StateT Â9 Sem Â9) (get:TM Tw):=λt b t' e Q q=>by
 cases e;exact kasC_get q
theorem q30(h:∀ t,F (co κ it t)=co κ it (G t)):Sim prog w A E s κ it (λu:Unit=>u) (modify F:StateT Â9 Sem Unit) (modify G:TM Unit):=λt b t' e Q q=>by
 cases e;refine kasC_modify ?_;rw[h t];exact q
theorem I71:Sim prog w A E s κ it (λu:Unit=>u) (liftM (rule x):StateT Â9 Sem Unit) (pure ():TM Unit):=λt b t' e Q q=>by
 cases e;exact kasC_lift (Ê0 q)
theorem Z21[Decidable c](h1:c->Sim prog w A E s κ it r m f)(h2:¬ c->Sim prog w A E s κ it r m' f'):Sim prog w A E s κ it r (if c then m else m') (if c then f else f'):=by
 split
 ·exact h1 (by assumption)
 ·exact h2 (by assumption)
def z40(r:β->α):ForInStep β->ForInStep α
 |.done b=>.done (r b)|.yield b=>.yield (r b)
theorem e51(h:∀ x b,Sim prog w A E s κ it (z40 r) (body x (r b)) (body' x b)):∀ (l:List Nat) (b:β),Sim prog w A E s κ it r (forIn l (r b) body) (forIn l b body')
 |[],b=>by
  rw[Ö5,Ö5];exact A40 b rfl
 |x::l,b=>by
  rw[Í1,Í1];refine l60 (h x b) λst=>?_;cases st with
  |done b'=>exact A40 b' rfl|yield b'=>exact e51 h l b'
end
def Ora(prog:Ý)(w:ç)(A:ø)(s:Æ)(κ:Ï0)(it:Array Keyed)(n:Nat)(cmp:Nat->Nat->Bool):Prop:=∀ i j (C:Bool->Æ->Prop),i < n->j < n->C (cmp i j) s->kas_cmp prog w A κ it i j C s
theorem S51(O:Ora prog w A s κ it n cmp)(x y:Nat):Sim prog w A E s κ it (λo:Bool=>some o) (lt' (ö it x) (ö it y)) (ltT n cmp x y):=λt b t' e Q q=>by
 unfold ltT at e;split at e
 ·rename_i h;cases e;rw[lt'_eq];refine kasC_bind (kasC_get ?_);exact kasC_bind (kasC_lift (Ë3 (Â1 (O x y (λc s'=>s'=s/\c=cmp x y) h.1 h.2 ⟨rfl,rfl⟩) (λc s' hc=>by obtain⟨rfl,rfl⟩:=hc;exact kasC_pure q) λ_ _ hF=>hF.elim)))
 ·cases e
theorem K00(p:Array Nat)(i:Nat):Sim prog w A E s κ it (ö it) (elem' (p.map (ö it)) i) (t01 p i):=by
 rw[elem'_eq];unfold t01;rw[Array.getElem?_map,õ];cases p[i]? with
 |none=>exact λt b t' e=>by cases e
 |some x=>exact A40 x rfl
theorem I81(O:Ora prog w A s κ it n cmp)(i j:Nat):Sim prog w A E s κ it (λo:Bool=>some o) (ltAt' i j) (Z01 n cmp i j):=by
 rw[ltAt'_eq];unfold Z01;refine l60 Y20 λt=>?_;exact l60 (K00 t.a i) λx=>l60 (K00 t.a j) λy=>S51 O x y
theorem Z31(i j:Nat):Sim prog w A E s κ it (λu:Unit=>u) (reverseSlice' i j) (N02 i j):=by
 rw[reverseSlice'_eq];refine q30 λt=>?_;show Ì4 κ (mirror (t.a.map (ö it)) i j ((j - i) / 2)) t.pending t.minGallop none=Ì4 κ ((mirror t.a i j ((j - i) / 2)).map (ö it)) t.pending t.minGallop none;rw[show mirror (t.a.map (ö it)) i j ((j - i) / 2)=(mirror t.a i j ((j - i) / 2)).map (ö it) from kas_swaps_map (ö it) (λk=>i + k) (λk=>j - 1 - k) _ t.a]
theorem I91(k l:Nat):Sim prog w A E s κ it (λu:Unit=>u) (moveDown' k l) (Z11 k l):=λt b t' e Q q=>by
 rw[moveDown'_eq];unfold Z11 at e;split at e
 ·rename_i h;cases e;refine kasC_modify ?_;have e:bubble (t.a.map (ö it)) k (k - l)=(mvL t.a k l).map (ö it):=by
   rw[o02 h.1 h.2];exact kas_swaps_map (ö it) (λi=>k - i) (λi=>k - i - 1) _ t.a
  show Q () (Ì4 κ (bubble (t.a.map (ö it)) k (k - l)) t.pending t.minGallop none) s;rw[e];exact q
 ·cases e
def u20{β:Type}(f:Nat->β->TM (ForInStep β)):Nat->Nat->β->TM β
 |0,_,b=>pure b
 |n + 1,i,b=>f i b >>= λx=>match x with
  |.done b=>pure b|.yield b=>u20 f n (i + 1) b
theorem e61(f:Nat->β->TM (ForInStep β)):∀ (n i:Nat) (b:β),u20 f n i b=forIn (Á5 i n 1) b f
 |0,_,_=>by rw[List.range'_zero,Ö5];rfl
 |n + 1,i,b=>by
  rw[û,Í1];show(f i b >>= λx=>_)=_
  congr 1
  funext x
  cases x with
  |done b=>rfl|yield b=>exact e61 f n (i + 1) b
theorem K10{α β:Type}{r:β->α}{a b:Nat}{c:β}{body:Nat->α->StateT Â9 Sem (ForInStep α)}{body':Nat->β->TM (ForInStep β)}(h:∀ x b,Sim prog w A E s κ it (z40 r) (body x (r b)) (body' x b)):Sim prog w A E s κ it r (forIn [a:b] (r c) body) (u20 body' (b - a) a c):=by
 rw[Std.Legacy.Range.forIn_eq_forIn_range',e61];have e:[a:b].size=b - a:=by simp[Std.Legacy.Range.size]
 show Sim prog w A E s κ it r (forIn (Á5 a [a:b].size 1) (r c) body) _;rw[e];exact e51 h _ c
def o20(prog:Ý)(w:ç)(A:ø)(E:Ä->Æ->Prop)(s:Æ)(κ:Ï0)(it:Array Keyed){α β:Type}(r:β->α)(m:StateT Â9 Sem α):Type:={f:TM β // Sim prog w A E s κ it r m f}
section
variable {α β α' β':Type}{r:β->α}{r':β'->α'}
def b50{a:α}(b:β)(e:a=r b):o20 prog w A E s κ it r (pure a):=⟨pure b,A40 b e⟩
def b30{m:StateT Â9 Sem α}{k:α->StateT Â9 Sem α'}(h:o20 prog w A E s κ it r m)(hk:∀ b,o20 prog w A E s κ it r' (k (r b))):o20 prog w A E s κ it r' (m >>= k):=⟨h.1 >>= λb=>(hk b).1,l60 h.2 λb=>(hk b).2⟩
def l70{c:Prop}[Decidable c]{m m':StateT Â9 Sem α}(h1:o20 prog w A E s κ it r m)(h2:o20 prog w A E s κ it r m'):o20 prog w A E s κ it r (if c then m else m'):=⟨if c then h1.1 else h2.1,Z21 (λ_=>h1.2) λ_=>h2.2⟩
def r40{m:StateT Â9 Sem α}:o20 prog w A E s κ it r m:=⟨λ_=>none,λ_ _ _ e=>by cases e⟩
def J01{m m':StateT Â9 Sem α}(e:m=m')(h:o20 prog w A E s κ it r m'):o20 prog w A E s κ it r m:=⟨h.1,by rw[e];exact h.2⟩
def r50{a b:Nat}(c:β){body:Nat->α->StateT Â9 Sem (ForInStep α)}(h:∀ x b,o20 prog w A E s κ it (z40 r) (body x (r b))):o20 prog w A E s κ it r (forIn [a:b] (r c) body):=⟨u20 (λx b=>(h x b).1) (b - a) a c,K10 λx b=>(h x b).2⟩
end
def l21(O:Ora prog w A s κ it n cmp)(i j:Nat):o20 prog w A E s κ it (λo:Bool=>some o) (ltAt' i j):=⟨Z01 n cmp i j,I81 O i j⟩
def z62(i j:Nat):o20 prog w A E s κ it (λu:Unit=>u) (reverseSlice' i j):=⟨N02 i j,Z31 i j⟩
def D92(i j:Nat):o20 prog w A E s κ it (λu:Unit=>u) (moveDown' i j):=⟨Z11 i j,I91 i j⟩
def J11(x:String):o20 prog w A E s κ it (λu:Unit=>u) (liftM (rule x):StateT Â9 Sem Unit):=⟨pure (),I71⟩
def R42(O:Ora prog w A s κ it n cmp)(lo n' ok:Nat):o20 prog w A E s κ it (λ_:Unit=>true) (binarySort' lo n' ok):=by
 refine J01 (binarySort'_eq lo n' ok) ?_;refine b30 (r:=λ_:Unit=>((none,()):Option Bool × Unit)) (r50 () λk _=>?_) λ_=>b50 () rfl;refine b30 (r:=λx:Nat × Nat=>((none,x):Option Bool × Nat × Nat)) (r50 (0,k) λ_ x=>?_) λx=>b30 (D92 _ _) λ_=>b50 (á ()) rfl;exact l70 (b50 (ä x) rfl) (b30 (l21 O _ _) λo=>l70 (b50 (á (x.1,_)) rfl) (b50 (á (_,x.2)) rfl))
def o12(O:Ora prog w A s κ it n cmp)(lo z:Nat):o20 prog w A E s κ it (λm:Nat=>some m) (countRun' lo z):=by
 refine J01 (countRun'_eq lo z) ?_;refine b30 (r:=λm:Nat=>((none,m):Option (Option Nat) × Nat)) (r50 1 λ_ m=>b30 (l21 O _ _) λ_=>l70 (b50 (ä m) rfl) (b50 (á (m + 1)) rfl)) λm=>?_;refine l70 (b50 m rfl) (l70 (b30 (l21 O _ _) λ_=>l70 (b50 m rfl) (b30 (z62 _ _) λ_=>?_)) ?_)
 all_goals
  refine b30 (J11 _) λ_=>b30 (r:=λm:Nat=>((none,m,0):Option (Option Nat) × Nat × Nat)) (r50 (m + 1) λ_ m=>b30 (l21 O _ _) λ_=>l70 (l70 r40 (b50 (á (m + 1)) rfl)) (b30 (l21 O _ _) λ_=>l70 (b50 (ä m) rfl) r40)) λm=>?_;exact l70 r40 (b30 (z62 _ _) λ_=>b30 (r:=λm:Nat=>((none,m):Option (Option Nat) × Nat)) (r50 m λ_ m=>b30 (l21 O _ _) λ_=>l70 (b50 (ä m) rfl) (b50 (á (m + 1)) rfl)) λm=>b50 m rfl)
def tLt(O:Ora prog w A s κ it n cmp)(x y:Nat):o20 prog w A E s κ it (λo:Bool=>some o) (lt' (ö it x) (ö it y)):=⟨ltT n cmp x y,S51 O x y⟩
def s10(p:Array Nat)(i:Nat):o20 prog w A E s κ it (ö it) (elem' (p.map (ö it)) i):=⟨t01 p i,K00 p i⟩
def t11:Bool->Keyed->Array Keyed->Nat->Nat->Nat->StateT SortSt Sem (Option Nat):=sortPriv% PySem.Builtin.gallop
def Y30(O:Ora prog w A s κ it n cmp)(left:Bool)(y:Nat)(p:Array Nat)(base z hint:Nat):o20 prog w A E s κ it (λm:Nat=>some m) (t11 left (ö it y) (p.map (ö it)) base z hint):=by
 refine b30 (r:=λb:Bool=>some b) (b30 (s10 p (base + hint)) λx=>l70 (tLt O x y) (b30 (tLt O y x) λb=>b50 (!b) rfl)) λb=>?_;refine l70 ?_ ?_ <;> refine b30 (r:=λx:Nat × Nat=>((none,x):Option (Option Nat) × Nat × Nat)) (r50 (0,1) λ_ x=>l70 (b50 (ä x) rfl) (b30 (r:=λb:Bool=>some b) (b30 (s10 p _) λx=>l70 (tLt O x y) (b30 (tLt O y x) λb=>b50 (!b) rfl)) λb=>l70 (b50 (ä x) rfl) (b50 (á (x.2,2 * x.2 + 1)) rfl))) λx=>?_
 ·exact b30 (r:=λx:Nat × Nat=>((none,x):Option (Option Nat) × Nat × Nat)) (r50 (hint + x.1 + 1,hint + min x.2 (z - hint)) λ_ x=>l70 (b50 (ä x) rfl) (b30 (r:=λb:Bool=>some b) (b30 (s10 p _) λx=>l70 (tLt O x y) (b30 (tLt O y x) λb=>b50 (!b) rfl)) λb=>l70 (b50 (á (_,x.2)) rfl) (b50 (á (x.1,_)) rfl))) λx=>b50 x.2 rfl
 ·exact b30 (r:=λx:Nat × Nat=>((none,x):Option (Option Nat) × Nat × Nat)) (r50 (hint + 1 - min x.2 (hint + 1),hint - x.1) λ_ x=>l70 (b50 (ä x) rfl) (b30 (r:=λb:Bool=>some b) (b30 (s10 p _) λx=>l70 (tLt O x y) (b30 (tLt O y x) λb=>b50 (!b) rfl)) λb=>l70 (b50 (á (_,x.2)) rfl) (b50 (á (x.1,_)) rfl))) λx=>b50 x.2 rfl
def Y40{α β:Type}{r:β->α}{a b:Nat}{i:α}(b':Nat)(eb:b=b')(c:β)(ec:i=r c){body:Nat->α->StateT Â9 Sem (ForInStep α)}(h:∀ x b,o20 prog w A E s κ it (z40 r) (body x (r b))):o20 prog w A E s κ it r (forIn [a:b] i body):=⟨u20 (λx b=>(h x b).1) (b' - a) a c,by subst eb;subst ec;exact K10 λx b=>(h x b).2⟩
def tIf{α β:Type}{r:β->α}{c:Prop}[Decidable c]{m m':StateT Â9 Sem α}(c':Bool)(e:c↔c'=true)(h1:o20 prog w A E s κ it r m)(h2:o20 prog w A E s κ it r m'):o20 prog w A E s κ it r (if c then m else m'):=⟨match c' with
 |true=>h1.1
 |false=>h2.1,by
 cases c' with
 |true=>rw[if_pos (e.mpr rfl)];exact h1.2
 |false=>rw[if_neg λh=>by cases e.mp h];exact h2.2⟩
def Z41:o20 prog w A E s κ it (co κ it) (get:StateT Â9 Sem Â9):=⟨get,Y20⟩
def E02:Nat->StateT SortSt Sem Unit:=sortPriv% PySem.Builtin.setMinGallop
def o22(g:Nat):o20 prog w A E s κ it (λu:Unit=>u) (E02 g):=⟨modify λt=>{ t with minGallop:=g },q30 λ_=>rfl⟩
def N12(O:Ora prog w A s κ it n cmp)(left:Bool)(y:Nat)(p:Array Nat)(base z z' hint:Nat)(e:z=z'):o20 prog w A E s κ it (λm:Nat=>some m) (t11 left (ö it y) (p.map (ö it)) base z hint):=J01 (by rw[e]) (Y30 O left y p base z' hint)
def J21:Array Keyed->Array Keyed->StateT SortSt Sem (Array Keyed):=sortPriv% PySem.Builtin.mergeLo
def rs{γ:Type}(it:Array Keyed)(x:Option (Array Nat) × Array Nat × γ):Option (Array Keyed) × Array Keyed × γ:=(x.1.map (Array.map (ö it)),x.2.1.map (ö it),x.2.2)
theorem sz(it:Array Keyed)(i:Nat)(p:Array Nat):(i == (p.map (ö it)).size)=true↔(i == p.size)=true:=by rw[size_map]
local macro_rules
 | `(tactic| ac_rfl)=>`(tactic| simp only[rs,z40,map_some,Option.map_none,Û1,Array.map_push,Ñ3,size_map])| `(tactic| rwa [$O:term,$p:term,$q:term,$out:term,$ia:term,$ib:term,$mg:term,$ac:term,$bc:term])=>`(tactic| exact b30 (s10 $p $ia) λy=>tIf _ (sz _ _ _) (b50 (ä (some (push $out y++Æ8 $q $ib++Æ8 $p ($ia + 1)),push $out y,$ia + 1,$ib,$mg,$ac,$bc)) (by ac_rfl)) (l70 (b50 (ä (none,push $out y,$ia + 1,$ib,$mg,$ac,$bc)) (by ac_rfl)) (b50 (á (none,push $out y,$ia + 1,$ib,$mg,$ac,$bc)) (by ac_rfl))))| `(tactic| rwa [$O:term,$p:term,$q:term,$out:term,$ia:term,$ib:term,$mg:term,$ac:term,$bc:term,$_x0:term])=>`(tactic| exact b30 (s10 $q $ib) λy=>tIf _ (sz _ _ _) (b50 (ä (some (push $out y++Æ8 $p $ia++Æ8 $q ($ib + 1)),push $out y,$ia,$ib + 1,$mg,$ac,$bc)) (by ac_rfl)) (b30 (s10 $p $ia) λz=>b30 (N12 $O true z $q ($ib + 1) _ (Ö9 $q - ($ib + 1)) 0 (by simp[rs])) λk=>l70 (tIf _ (sz _ _ _) (b50 (ä (some (push $out y++Æ8 $q ($ib + 1) ($ib + 1 + k)++Æ8 $p $ia++Æ8 $q ($ib + 1 + k)),push $out y++Æ8 $q ($ib + 1) ($ib + 1 + k),$ia,$ib + 1 + k,$mg,$ac,k)) (by ac_rfl)) ((by rwa [$O:term,$p:term,$q:term,(push $out y++Æ8 $q ($ib + 1) ($ib + 1 + k)),$ia:term,($ib + 1 + k),$mg:term,$ac:term,k]))) ((by rwa [$O:term,$p:term,$q:term,(push $out y),$ia:term,($ib + 1),$mg:term,$ac:term,k]))))| `(tactic| rwa [$O:term,$p:term,$q:term,$out:term,$ia:term,$ib:term,$mg:term,$bc:term,$_x0:term,$_x1:term,$_x2:term])=>`(tactic| exact b30 (o22 $mg) λ_=>b30 (s10 $q $ib) λy=>b30 (N12 $O false y $p $ia _ (Ö9 $p - $ia) 0 (by simp[rs])) λk=>l70 (tIf _ (sz _ _ _) (b50 (ä (some ($out++Æ8 $p $ia ($ia + k)++Æ8 $q $ib++Æ8 $p ($ia + k)),$out++Æ8 $p $ia ($ia + k),$ia + k,$ib,$mg,k,$bc)) (by ac_rfl)) (tIf _ (sz _ _ _) (b50 (ä (some ($out++Æ8 $p $ia ($ia + k)++Æ8 $p ($ia + k)++Æ8 $q $ib),$out++Æ8 $p $ia ($ia + k),$ia + k,$ib,$mg,k,$bc)) (by ac_rfl)) ((by rwa [$O:term,$p:term,$q:term,($out++Æ8 $p $ia ($ia + k)),($ia + k),$ib:term,$mg:term,k,$bc:term,rfl])))) ((by rwa [$O:term,$p:term,$q:term,$out:term,$ia:term,$ib:term,$mg:term,k,$bc:term,rfl])))
def J31(O:Ora prog w A s κ it n cmp)(p q:Array Nat):o20 prog w A E s κ it (Array.map (ö it)) (J21 (p.map (ö it)) (q.map (ö it))):=by
 refine b30 (J11 _) λ_=>b30 (s10 q 0) λx=>?_;refine tIf _ (sz it _ _) (b50 (#[x]++p.extract 0++q.extract 1) (by simp only[Û1,Ñ3,size_map,map_toArray,Å7,map_nil])) ?_
 refine tIf _ (sz it _ _) (b50 (#[x]++q.extract 1++p.extract 0) (by simp only[Û1,Ñ3,size_map,map_toArray,Å7,map_nil])) ?_
 refine b30 Z41 λt=>?_;refine b30 (r:=rs it) (Y40 (p.size + q.size) (by simp) (none,#[x],0,1,t.minGallop) (by simp[rs];rfl) λ_ st=>?_) λst=>?_
 ·obtain⟨_,out,ia,ib,mg⟩:=st;refine b30 (r:=rs it) (Y40 (p.size + q.size) (by simp) (none,out,ia,ib,0,0) (by simp[rs]) λ_ st=>?_) λst=>?_
  ·obtain⟨_,out,ia,ib,ac,bc⟩:=st;refine b30 (s10 q ib) λy=>b30 (s10 p ia) λz=>b30 (tLt O y z) λo=>l70 (b30 (s10 q ib) λy=>?_) (b30 (s10 p ia) λy=>?_)
   ·exact tIf _ (sz it _ _) (b50 (ä (some (out.push y++p.extract ia++q.extract (ib + 1)),out.push y,ia,ib + 1,0,bc + 1)) (by simp[rs,z40])) (l70 (b50 (ä (none,out.push y,ia,ib + 1,0,bc + 1)) (by simp[rs,z40])) (b50 (á (none,out.push y,ia,ib + 1,0,bc + 1)) (by simp[rs,z40])))
   ·exact tIf _ (sz it _ _) (b50 (ä (some (out.push y++q.extract ib++p.extract (ia + 1)),out.push y,ia + 1,ib,ac + 1,0)) (by simp[rs,z40])) (l70 (b50 (ä (none,out.push y,ia + 1,ib,ac + 1,0)) (by simp[rs,z40])) (b50 (á (none,out.push y,ia + 1,ib,ac + 1,0)) (by simp[rs,z40])))
  ·obtain⟨o,out,ia,ib,ac,bc⟩:=st;cases o with
   |some v=>exact b50 (ä (some v,out,ia,ib,mg)) rfl
   |none =>
    refine b30 (J11 _) λ_=>?_;refine b30 (r:=rs it) (Y40 (p.size + q.size) (by simp) (none,out,ia,ib,mg + 1,ac,bc) (by simp[rs]) λ_ st=>?_) λst=>?_
    ·obtain⟨_,out,ia,ib,mg,ac,bc⟩:=st;exact l70 ((by rwa [O,p,q,out,ia,ib,(mg - 1),bc,rfl,rfl,rfl])) ((by rwa [O,p,q,out,ia,ib,mg,bc,rfl,rfl,rfl]))
    ·obtain⟨o,out,ia,ib,mg,ac,bc⟩:=st;cases o with
     |some v=>exact b50 (ä (some v,out,ia,ib,mg)) rfl|none=>exact b30 (o22 (mg + 1)) λ_=>b50 (á (none,out,ia,ib,mg + 1)) rfl
 ·obtain⟨o,_⟩:=st;cases o with
  |none=>exact r40|some v=>exact b50 v rfl
def R52(t':Tw){S:Â9}(e:S=co κ it t'):o20 prog w A E s κ it (λu:PUnit=>u) (set S:StateT Â9 Sem PUnit):=⟨modify λ_=>t',by subst e;exact q30 (F:=λ_=>co κ it t') λ_=>rfl⟩
def E12{F:Â9->Â9}(G:Tw->Tw)(h:∀ t,F (co κ it t)=co κ it (G t)):o20 prog w A E s κ it (λu:Unit=>u) (modify F:StateT Â9 Sem Unit):=⟨modify G,q30 h⟩
theorem fold_map(f:Nat->Keyed)(d:Nat):∀ (l:List Nat) (j:Nat) (a:Array Nat),((l.map f).zipIdx j).foldl (λa x=>setIfInBounds a (d + x.2) x.1) (a.map f)=((l.zipIdx j).foldl (λa x=>setIfInBounds a (d + x.2) x.1) a).map f
 |[],_,_=>rfl
 |x::l,j,a=>by
  have e:(a.map f).setIfInBounds (d + j) (f x)=(a.setIfInBounds (d + j) x).map f:=by simp
  show((l.map f).zipIdx (j + 1)).foldl _ ((a.map f).setIfInBounds (d + j) (f x))=_;rw[e];exact fold_map f d l (j + 1) _
def spl(a:Array Nat)(d:Nat)(l:List Nat):Array Nat:=⟨a.toList.take d++(l++a.toList.drop (d + l.length))⟩
theorem S61(d:Nat):∀ (l:List Nat) (j:Nat) (a:Array Nat),d + j + l.length<=a.size->(l.zipIdx j).foldl (λa x=>setIfInBounds a (d + x.2) x.1) a=spl a (d + j) l
 |[],j,a,_=>by
  show a=_;unfold spl;rw[Á1,Nat.add_zero,Í0,List.take_append_drop]
 |x::l,j,a,h=>by
  have hl:d + j + (l.length + 1)<=a.toList.length:=h;show(l.zipIdx (j + 1)).foldl _ (a.setIfInBounds (d + j) x)=_;rw[S61 d l (j + 1) _ (by rw[Array.size_setIfInBounds];have:a.toList.length=a.size:=rfl;omega)]
  unfold spl;rw[Array.toList_setIfInBounds,List.set_eq_take_append_cons_drop,if_pos ∅]
  generalize a.toList=m at hl;have e1:(m.take (d + j)).length=d + j:=by rw[Æ7];omega
  have e2:(m.take (d + j)++x::m.drop (d + j + 1)).take (d + (j + 1))=m.take (d + j)++[x]:=by
   rw[List.take_append,e1,show d + (j + 1) - (d + j)=1 by omega,Ë6 (Ò (Ú6 e1) ∅)]
   rfl
  have e3:(m.take (d + j)++x::m.drop (d + j + 1)).drop (d + (j + 1) + l.length)=m.drop (d + j + (l.length + 1)):=by
   rw[List.drop_append,e1,show d + (j + 1) + l.length - (d + j)=l.length + 1 by omega,List.drop_eq_nil_of_le (Ò (Ú6 e1) ∅),List.drop_succ_cons,List.drop_drop,Í0,show d + j + 1 + l.length=d + j + (l.length + 1) by omega]
  rw[e2,e3,Ô6];rfl
def E22{F:Â9->Â9}(c:Tw->Bool)(G:Tw->Tw)(h:∀ t,c t=true->F (co κ it t)=co κ it (G t)):o20 prog w A E s κ it (λu:Unit=>u) (modify F:StateT Â9 Sem Unit):=⟨λt=>match c t with
 |true=>some ((),G t)
 |false=>none,λt b t' e Q q=>by
 dsimp only at e;cases hc:c t with
 |false=>rw[hc] at e;cases e
 |true =>
  rw[hc] at e;cases e;refine kasC_modify ?_;rw[h t hc];exact q⟩
def e71(O:Ora prog w A s κ it n cmp)(i:Nat):o20 prog w A E s κ it (λ_:Unit=>true) (mergeAt' i):=by
 refine b30 Z41 λt=>?_;generalize (Ù3 (co κ it t))[i]?=o1;generalize (Ù3 (co κ it t))[i + 1]?=o2;rcases o1 with _ | ⟨sa,na,pw⟩
 ·exact r40
 rcases o2 with _ | ⟨sb,nb,_⟩
 ·exact r40
 refine b30 (R52 { t with pending:=(t.pending.setIfInBounds i (sa,na + nb,pw)).eraseIdxIfInBounds (i + 1) } rfl) λ_=>?_;refine b30 (s10 t.a sb) λy=>b30 (Y30 O false y t.a sa na 0) λk=>?_;refine l70 (b50 () rfl) (b30 (s10 t.a _) λy=>b30 (Y30 O true y t.a sb nb (nb - 1)) λnb=>l70 (b50 () rfl) (l70 (b30 (J01 ?_ (J31 O (t.a.extract (sa + k) sb) (t.a.extract sb (sb + nb)))) λv=>?_) r40))
 ·rw[Ñ3,Ñ3];rfl
 ·refine b30 (E22 (λu=>ble (sa + k + v.toList.length) u.a.size) (λu=>{ u with a:=spl u.a (sa + k) v.toList }) λu hu=>?_) λ_=>b30 Z41 λ_=>b50 () rfl;have e:=fold_map (ö it) (sa + k) v.toList 0 u.a;rw[← Array.toList_map,S61 (sa + k) v.toList 0 u.a (Nat.le_of_ble_eq_true hu)] at e;exact congrArg (λa=>Ì4 κ a u.pending u.minGallop none) e
structure N22(prog:Program)(w:World)(A:Around)(E:Value->Shared->Prop)(s:Shared)(κ:SortKind)(it:Array Keyed)(z:Nat)(m:StateT SortSt Sem Unit) where
 body:Nat->Nat->TM (ForInStep Nat)
 tail:Nat->TM Unit
 sim:Sim prog w A E s κ it (λu:Unit=>u) m (u20 body z 0 0 >>= tail)
def mkH{α:Type}{r:Nat->α}{i:α}{z:Nat}(e0:i=r 0){B:Nat->α->StateT Â9 Sem (ForInStep α)}{k:α->StateT Â9 Sem Unit}(hb:∀ x lo,o20 prog w A E s κ it (z40 r) (B x (r lo)))(hk:∀ lo,o20 prog w A E s κ it (λu:Unit=>u) (k (r lo))) :
  N22 prog w A E s κ it z (forIn [0:z] i B >>= k) where
 body:=λx lo=>(hb x lo).1
 tail:=λlo=>(hk lo).1
 sim:=by
  subst e0;exact l60 (K10 λx b=>(hb x b).2) λb=>(hk b).2
structure l31(prog:Program)(w:World)(A:Around)(E:Value->Shared->Prop)(s:Shared)(κ:SortKind)(it:Array Keyed)(m:StateT SortSt Sem Unit) where
 body:Tw->Nat->Nat->TM (ForInStep Nat)
 tail:Tw->Nat->TM Unit
 sim:Sim prog w A E s κ it (λu:Unit=>u) m (get >>= λt=>u20 (body t) t.a.size 0 0 >>= tail t)
def mkW{F:Â9->StateT Â9 Sem Unit}(h:∀ t:Tw,N22 prog w A E s κ it t.a.size (F (co κ it t))):l31 prog w A E s κ it (get >>= F) where
 body:=λt=>(h t).body
 tail:=λt=>(h t).tail
 sim:=l60 Y20 λt=>(h t).sim
def l31.cast{m m':StateT Â9 Sem Unit}(e:m=m')(h:l31 prog w A E s κ it m'):l31 prog w A E s κ it m:=⟨h.body,h.tail,by rw[e];exact h.sim⟩
def i90(O:Ora prog w A s κ it n cmp):l31 prog w A E s κ it sortRuns':=by
 refine l31.cast sortRuns'_eq (mkW λt=>?_);generalize hz:Ö9 (arrOf (co κ it t))=z;have hz':t.a.size=z:=Array.size_map.symm.trans hz;clear hz;subst hz';refine mkH (r:=λm:Nat=>((none,m):Option Unit × Nat)) rfl (λ_ lo=>l70 (b50 (ä lo) rfl) (b30 (o12 O _ _) λm=>?_)) (λ_=>?_)
 ·refine l70 (b30 (J11 _) λ_=>b30 (R42 O _ _ _) λ_=>l70 r40 (b30 Z41 λu=>?_)) (b30 Z41 λu=>?_)
  all_goals
   generalize Array.back? (Ù3 (co κ it u))=o1;rcases o1 with _ | ⟨s1,n1,_⟩
   ·exact b30 (E12 (λu=>{ u with pending:=u.pending.push (lo,_,0) }) λ_=>rfl) λ_=>b50 (á (lo + _)) rfl
   ·refine b30 (r:=λ_:Unit=>((none,()):Option Unit × Unit)) (r50 () λ_ _=>b30 Z41 λu=>?_) λ_=>b30 (E12 (λu=>{ u with pending:=u.pending.modify (u.pending.size - 1) λx=>(x.1,x.2.1,_) }) λ_=>rfl) λ_=>b30 (E12 (λu=>{ u with pending:=u.pending.push (lo,_,0) }) λ_=>rfl) λ_=>b50 (á (lo + _)) rfl;dsimp only;generalize (if Ö9 (Ù3 (co κ it u)) > 1 then(Ù3 (co κ it u))[Ö9 (Ù3 (co κ it u)) - 2]? else none)=o2;rcases o2 with _ | ⟨_,_,old⟩
    ·exact b50 (ä ()) rfl
    ·exact l70 (b50 (ä ()) rfl) (b30 (e71 O _) λ_=>l70 r40 (b50 (á ()) rfl))
 ·exact b30 (r:=λ_:Unit=>((none,()):Option Unit × Unit)) (r50 () λ_ _=>b30 Z41 λu=>l70 (b50 (ä ()) rfl) (b30 (e71 O _) λ_=>l70 r40 (b50 (á ()) rfl))) λ_=>b50 () rfl
end
def upN:Nat->Nat->Nat->List Nat
 |0,_,h=>[h]|b + 1,v,h=>upN b (2 * v) (h + v)++upN b (2 * v) h
def neN:Nat->Nat->Nat->List Nat
 |0,_,_=>[]|b + 1,v,h=>(h + v)::(neN b (2 * v) (h + v)++neN b (2 * v) h)
def sN(b:Nat):List Nat:=0::neN b 1 0
def C30:Nat->Nat->Nat->List Nat
 |0,_,_=>[]|k + 1,i,m=>if Nat.testBit m 0 then i::C30 k (i + 1) (m / 2) else C30 k (i + 1) (m / 2)
def z72:List Nat->List Nat->Bool
 |[],[]=>false|[],_::_=>true|_::_,[]=>false|a::r,b::q=>if beq a b then z72 r q else Nat.blt a b
def w10(K i j:Nat):Bool:=z72 (C30 K 0 i) (C30 K 0 j)
section
variable {prog:Ý}{w:ç}{A:ø}{E:Ä->Æ->Prop}{s:Æ}{κ:Ï0}{it:Array Keyed}
def T0(K:Nat):Tw:=⟨⟨ì (2 ^ K)⟩,#[],7⟩
def TZ(K p:Nat):Tw:=⟨⟨sN K⟩,#[(0,2 ^ K,p)],7⟩
theorem z50{β:Type}{f:Nat->β->TM (ForInStep β)}{n i:Nat}{b b':β}{t t':Tw}{r:Option (β × Tw)}(h:f i b t=some (.yield b',t'))(h2:u20 f n (i + 1) b' t'=r):u20 f (n + 1) i b t=r:=by
 show Option.bind (f i b t) _=r;rw[h];exact h2
def goW{K:Nat}(O:Ora prog w A s κ it (2 ^ K) (w10 K)):TM Unit:=get >>= λt=>u20 ((i90 (E:=E) O).body t) t.a.size 0 0 >>= (i90 (E:=E) O).tail t
theorem two{K n:Nat}{t:Tw}{r:Option (Unit × Tw)}(O:Ora prog w A s κ it (2 ^ K) (w10 K))(h:u20 ((i90 (E:=E) O).body (T0 K)) (2 ^ K) 0 0 (T0 K)=some (n,t))(h2:(i90 (E:=E) O).tail (T0 K) n t=r):goW (E:=E) O (T0 K)=r:=by
 show Option.bind (u20 ((i90 (E:=E) O).body (T0 K)) (ì (2 ^ K)).length 0 0 (T0 K)) _=r;rw[ù,h];exact h2
theorem w1(O:Ora prog w A s κ it (2 ^ 1) (w10 1)):goW (E:=E) O (T0 1)=some ((),TZ 1 0):=by kernel_rfl
theorem w2(O:Ora prog w A s κ it (2 ^ 2) (w10 2)):goW (E:=E) O (T0 2)=some ((),TZ 2 0):=by kernel_rfl
theorem w3(O:Ora prog w A s κ it (2 ^ 3) (w10 3)):goW (E:=E) O (T0 3)=some ((),TZ 3 0):=by kernel_rfl
theorem w4(O:Ora prog w A s κ it (2 ^ 4) (w10 4)):goW (E:=E) O (T0 4)=some ((),TZ 4 0):=by kernel_rfl
theorem w5(O:Ora prog w A s κ it (2 ^ 5) (w10 5)):goW (E:=E) O (T0 5)=some ((),TZ 5 0):=by kernel_rfl
theorem w6(O:Ora prog w A s κ it (2 ^ 6) (w10 6)):goW (E:=E) O (T0 6)=some ((),TZ 6 1):=by kernel_rfl
theorem R62(O:Ora prog w A s κ it (2 ^ 7) (w10 7)):(i90 (E:=E) O).body (T0 7) 0 0 (T0 7)=some (.yield 32,⟨⟨sN 5++Á5 32 96⟩,#[(0,32,0)],7⟩):=by kernel_rfl
theorem R72(O:Ora prog w A s κ it (2 ^ 7) (w10 7)):(i90 (E:=E) O).body (T0 7) 1 32 ⟨⟨sN 5++Á5 32 96⟩,#[(0,32,0)],7⟩=some (.yield 64,⟨⟨sN 5++(upN 5 1 32++Á5 64 64)⟩,#[(0,32,2),(32,32,0)],7⟩):=by kernel_rfl
theorem R82(O:Ora prog w A s κ it (2 ^ 7) (w10 7)):(i90 (E:=E) O).body (T0 7) 2 64 ⟨⟨sN 5++(upN 5 1 32++Á5 64 64)⟩,#[(0,32,2),(32,32,0)],7⟩=some (.yield 96,⟨⟨sN 6++(upN 5 1 64++Á5 96 32)⟩,#[(0,64,1),(64,32,0)],7⟩):=by kernel_rfl
theorem R92(O:Ora prog w A s κ it (2 ^ 7) (w10 7)):(i90 (E:=E) O).body (T0 7) 3 96 ⟨⟨sN 6++(upN 5 1 64++Á5 96 32)⟩,#[(0,64,1),(64,32,0)],7⟩=some (.yield 128,⟨⟨sN 6++(upN 5 1 64++upN 5 1 96)⟩,#[(0,64,1),(64,32,2),(96,32,0)],7⟩):=by kernel_rfl
theorem S02(O:Ora prog w A s κ it (2 ^ 7) (w10 7)):u20 ((i90 (E:=E) O).body (T0 7)) 124 4 128 ⟨⟨sN 6++(upN 5 1 64++upN 5 1 96)⟩,#[(0,64,1),(64,32,2),(96,32,0)],7⟩=some (128,⟨⟨sN 6++(upN 5 1 64++upN 5 1 96)⟩,#[(0,64,1),(64,32,2),(96,32,0)],7⟩):=by kernel_rfl
theorem S12(O:Ora prog w A s κ it (2 ^ 7) (w10 7)):(i90 (E:=E) O).tail (T0 7) 128 ⟨⟨sN 6++(upN 5 1 64++upN 5 1 96)⟩,#[(0,64,1),(64,32,2),(96,32,0)],7⟩=some ((),TZ 7 1):=by kernel_rfl
theorem w7(O:Ora prog w A s κ it (2 ^ 7) (w10 7)):goW (E:=E) O (T0 7)=some ((),TZ 7 1):=two O (z50 (R62 O) (z50 (R72 O) (z50 (R82 O) (z50 (R92 O) (S02 O))))) (S12 O)
theorem S22(O:Ora prog w A s κ it (2 ^ 8) (w10 8)):(i90 (E:=E) O).body (T0 8) 0 0 (T0 8)=some (.yield 32,⟨⟨sN 5++Á5 32 224⟩,#[(0,32,0)],7⟩):=by kernel_rfl
theorem S32(O:Ora prog w A s κ it (2 ^ 8) (w10 8)):(i90 (E:=E) O).body (T0 8) 1 32 ⟨⟨sN 5++Á5 32 224⟩,#[(0,32,0)],7⟩=some (.yield 64,⟨⟨sN 5++(upN 5 1 32++Á5 64 192)⟩,#[(0,32,3),(32,32,0)],7⟩):=by kernel_rfl
theorem S42(O:Ora prog w A s κ it (2 ^ 8) (w10 8)):(i90 (E:=E) O).body (T0 8) 2 64 ⟨⟨sN 5++(upN 5 1 32++Á5 64 192)⟩,#[(0,32,3),(32,32,0)],7⟩=some (.yield 96,⟨⟨sN 6++(upN 5 1 64++Á5 96 160)⟩,#[(0,64,2),(64,32,0)],7⟩):=by kernel_rfl
theorem S52(O:Ora prog w A s κ it (2 ^ 8) (w10 8)):(i90 (E:=E) O).body (T0 8) 3 96 ⟨⟨sN 6++(upN 5 1 64++Á5 96 160)⟩,#[(0,64,2),(64,32,0)],7⟩=some (.yield 128,⟨⟨sN 6++(upN 5 1 64++(upN 5 1 96++Á5 128 128))⟩,#[(0,64,2),(64,32,3),(96,32,0)],7⟩):=by kernel_rfl
theorem S62(O:Ora prog w A s κ it (2 ^ 8) (w10 8)):(i90 (E:=E) O).body (T0 8) 4 128 ⟨⟨sN 6++(upN 5 1 64++(upN 5 1 96++Á5 128 128))⟩,#[(0,64,2),(64,32,3),(96,32,0)],7⟩=some (.yield 160,⟨⟨sN 7++(upN 5 1 128++Á5 160 96)⟩,#[(0,128,1),(128,32,0)],7⟩):=by kernel_rfl
theorem S72(O:Ora prog w A s κ it (2 ^ 8) (w10 8)):(i90 (E:=E) O).body (T0 8) 5 160 ⟨⟨sN 7++(upN 5 1 128++Á5 160 96)⟩,#[(0,128,1),(128,32,0)],7⟩=some (.yield 192,⟨⟨sN 7++(upN 5 1 128++(upN 5 1 160++Á5 192 64))⟩,#[(0,128,1),(128,32,3),(160,32,0)],7⟩):=by kernel_rfl
theorem S82(O:Ora prog w A s κ it (2 ^ 8) (w10 8)):(i90 (E:=E) O).body (T0 8) 6 192 ⟨⟨sN 7++(upN 5 1 128++(upN 5 1 160++Á5 192 64))⟩,#[(0,128,1),(128,32,3),(160,32,0)],7⟩=some (.yield 224,⟨⟨sN 7++(upN 6 1 128++(upN 5 1 192++Á5 224 32))⟩,#[(0,128,1),(128,64,2),(192,32,0)],7⟩):=by kernel_rfl
theorem S92(O:Ora prog w A s κ it (2 ^ 8) (w10 8)):(i90 (E:=E) O).body (T0 8) 7 224 ⟨⟨sN 7++(upN 6 1 128++(upN 5 1 192++Á5 224 32))⟩,#[(0,128,1),(128,64,2),(192,32,0)],7⟩=some (.yield 256,⟨⟨sN 7++(upN 6 1 128++(upN 5 1 192++upN 5 1 224))⟩,#[(0,128,1),(128,64,2),(192,32,3),(224,32,0)],7⟩):=by kernel_rfl
theorem T02(O:Ora prog w A s κ it (2 ^ 8) (w10 8)):u20 ((i90 (E:=E) O).body (T0 8)) 248 8 256 ⟨⟨sN 7++(upN 6 1 128++(upN 5 1 192++upN 5 1 224))⟩,#[(0,128,1),(128,64,2),(192,32,3),(224,32,0)],7⟩=some (256,⟨⟨sN 7++(upN 6 1 128++(upN 5 1 192++upN 5 1 224))⟩,#[(0,128,1),(128,64,2),(192,32,3),(224,32,0)],7⟩):=by kernel_rfl
theorem T12(O:Ora prog w A s κ it (2 ^ 8) (w10 8)):(i90 (E:=E) O).tail (T0 8) 256 ⟨⟨sN 7++(upN 6 1 128++(upN 5 1 192++upN 5 1 224))⟩,#[(0,128,1),(128,64,2),(192,32,3),(224,32,0)],7⟩=some ((),TZ 8 1):=by kernel_rfl
theorem w8(O:Ora prog w A s κ it (2 ^ 8) (w10 8)):goW (E:=E) O (T0 8)=some ((),TZ 8 1):=two O (z50 (S22 O) (z50 (S32 O) (z50 (S42 O) (z50 (S52 O) (z50 (S62 O) (z50 (S72 O) (z50 (S82 O) (z50 (S92 O) (T02 O))))))))) (T12 O)
theorem T22{K:Nat}(h1:1<=K)(h8:K<=8)(O:Ora prog w A s κ it (2 ^ K) (w10 K)):∃ p,goW (E:=E) O (T0 K)=some ((),TZ K p):=by
 match K,h1,h8,O with
 |1,_,_,O=>exact⟨_,w1 O⟩|2,_,_,O=>exact⟨_,w2 O⟩|3,_,_,O=>exact⟨_,w3 O⟩|4,_,_,O=>exact⟨_,w4 O⟩|5,_,_,O=>exact⟨_,w5 O⟩|6,_,_,O=>exact⟨_,w6 O⟩|7,_,_,O=>exact⟨_,w7 O⟩|8,_,_,O=>exact⟨_,w8 O⟩
theorem runL{K:Nat}{vs:List Ä}(h1:1<=K)(h8:K<=8)(hv:vs.length=2 ^ K)(O:Ora prog w A s κ (vs.toArray.zip vs.toArray) (2 ^ K) (w10 K)):MySort.D82 prog w A s vs (λp=>p=sN K) κ:=by
 refine⟨sN K,rfl,λE Q q=>?_⟩;obtain⟨pp,e⟩:=T22 (E:=E) h1 h8 O;have r:=(i90 (E:=E) O).sim (T0 K) () (TZ K pp) e (λu st s'=>s'=s/\failedOf st=none/\arrOf st=((sN K).toArray).map (ö (vs.toArray.zip vs.toArray))) ⟨rfl,rfl,rfl⟩;have est:Ì4 κ (vs.toArray.zip vs.toArray) #[] 7 none=co κ (vs.toArray.zip vs.toArray) (T0 K):=by
  have e:=kas_range (vs.toArray.zip vs.toArray);rw[show(vs.toArray.zip vs.toArray).size=2 ^ K by simp[hv]] at e
  show _=Ì4 κ ((toArray (ì (2 ^ K))).map (ö (vs.toArray.zip vs.toArray))) #[] 7 none;rw[e]
 rw[est];refine Â1 r (λx s' h=>?_) λ_ _ e=>e;obtain⟨rfl,h2,h3⟩:=h;exact q x.2 h2 h3
end
end TS
namespace HT
open PySem PyProof.Rows
section
open PySem.SeqAt
open PySem.AutoSeq1 (wpAny_loadPart')
open PySem.MeetsSeq PySem.MeetsSeq2 PySem.MeetsSeq3
open MySort (h20)
def leB(ns ms:List Int):Bool:=!h20 ms ns
theorem J41(x y:Int)(r q:List Int):leB (x::r) (y::q)=if x=y then leB r q else decide (x<=y):=by
 show(!(if y=x then h20 q r else decide (y < x)))=_;by_cases e:x=y
 ·rw[if_pos e,if_pos e.symm];rfl
 ·rw[if_neg e,if_neg (Â3 e)];by_cases l:y < x
  ·rw[decide_eq_true l,decide_eq_false ∅];rfl
  ·rw[decide_eq_false l,decide_eq_true ∅];rfl
theorem J51(A:ø)(s:Æ)(a:Int)(t:Tok)(c:Int)(u:Tok)(P:Ý)(w:ç)(E:Ä->Æ->Prop)(Q:Ä->Æ->Prop)(h:Q (.bool (decide (a<=c))) s):Î (Ô P w) A (richCompare .LtE (.int a t) (.int c u)) Q E s :=
 (PyProof.Rows.le_int h:Î (Ô P w) A (ü .LtE (.int a t) (.int c u)) Q E s)
theorem K20(l b:Ç)(i1 i2:Array Ä)(n n2:Nat)(dd dd2:Option Ç)(sl sl2:Array (Option Ä))(ns ms:List Int)(hi:Ë7 i1.toList ns)(hj:Ë7 i2.toList ms) :
  Meets (ÿ.«tuple.__le__» ⟨[.ref l,.ref b],[]⟩) (λ_ R s=>s.heap.get? l=some { cls:=.type "tuple",dict:=dd,data:=.seq i1 n,slots:=sl }/\s.heap.get? b=some { cls:=.type "tuple",dict:=dd2,data:=.seq i2 n2,slots:=sl2 }/\R (.ok (.ret (.bool (leB ns ms)))) s) :=
 .of_wp λP w A R s h=>by
  obtain⟨hp,g,d,tk,os⟩:=s;obtain⟨hl,hb,h⟩:=h;have f2:=Ü9;have z1:i1.size=ns.length:=by rw[← hi.length];simp
  have z2:i2.size=ms.length:=by rw[← hj.length];simp
  wp_walk using Ä7 hl,Ä7 hb,wpAny_forIn_list _ (λrest b s'=>b.1=none/\s'=⟨hp,g,d,tk,os⟩/\∃ (vs ws:List Ä) (ns' ms':List Int),rest=vs.zip ws/\Ë7 vs ns'/\Ë7 ws ms'/\ns'.length + i2.size=ms'.length + i1.size/\R (.ok (.ret (.bool (leB ns' ms')))) ⟨hp,g,d,tk,os⟩) _
  case turn =>
   rintro ⟨y,x⟩ rest b s' ⟨hb',rfl,vs,ws,ns',ms',hz,hvi,hwi,hlen,hR⟩;cases hvi with
   |nil=>rw[Ù8] at hz;cases hz
   |cons a t hvi' =>
    cases hwi with
    |nil=>rw[List.zip_nil_right] at hz;cases hz
    |cons c u hwi' =>
     rw[Ê5] at hz;injection hz with hyx hrest;injection hyx with hy hx;subst hy hx;rw[J41] at hR;simp only[Ü] at hlen;obtain⟨e,he,hiff⟩:=H31 A.in1 ⟨hp,g,d,tk,os⟩ a t c u;refine À (he P w _ _ ?_);cases e with
     |true =>
      rw[if_pos (hiff.mp rfl)] at hR;wp_walk;exact⟨rfl,rfl,_,_,_,_,hrest,hvi',hwi',by omega,hR⟩
     |false =>
      rw[if_neg (λq=>absurd (hiff.mpr q) Ð)] at hR;have hri:=J51 A.in1 ⟨hp,g,d,tk,os⟩ a t c u P w
      wp_walk using hri
      exact⟨_,rfl,by simpa using hR⟩
  case fin =>
   rintro ⟨b1,b2⟩ s' ⟨hb',rfl,vs,ws,ns',ms',hz,hvi,hwi,hlen,hR⟩;simp only at hb';subst hb';have hv:leB ns' ms'=decide (i1.size<=i2.size):=by
    cases hvi with
    |nil =>
     cases hwi with
     |nil=>simp only[Á1] at hlen;exact(decide_eq_true ∅).symm|cons c u hw=>simp only[Á1,Ü] at hlen;exact(decide_eq_true ∅).symm
    |cons a t hv =>
     cases hwi with
     |nil=>simp only[Á1,Ü] at hlen;exact(decide_eq_false ∅).symm|cons c u hw=>rw[Ê5] at hz;cases hz
   rw[hv] at hR;wp_walk;exact⟨_,rfl,by simpa [tupleCompareSizes] using hR⟩
  case h=>exact⟨rfl,rfl,i1.toList,i2.toList,ns,ms,rfl,hi,hj,by omega,h⟩
end
section
variable {P:Ý}{w:ç}{A:ø}{E:Ä->Æ->Prop}{s:Æ}
theorem l41(hl:Ï2 s.heap l i1)(hb:Ï2 s.heap b i2)(hi:Ë7 i1.toList ns)(hj:Ë7 i2.toList ms)
  (hu:A.units < Å8) (h:Q (.bool (leB ns ms)) s):Î (Ô P w) A (ü .LtE (.ref l) (.ref b)) Q E s:=by
 obtain⟨⟨cls,dd,data,sl⟩,ho,hc,n,hd⟩:=id hl;obtain⟨⟨cls2,dd2,data2,sl2⟩,ho2,hc2,n2,hd2⟩:=id hb;simp only at hc hd hc2 hd2;subst hc hd hc2 hd2;exact richCompare_meets_room (op:=.LtE) ⟨_,ho,rfl⟩ ⟨_,ho2,rfl⟩ PySem.F.slot_tuple_le PySem.F.entry_tuple_le (PySem.F.args_tuple_le_2 _ _) (K20 l b i1 i2 n n2 dd dd2 sl sl2 ns ms hi hj)
  ⟨ho,ho2,show Î9 (leB ns ms)≠Õ1/\Q (.bool (leB ns ms)) s from⟨(λx=>nomatch x),h⟩⟩ hu
theorem Z51{t b:Ç}{ws:List Ä}{Q:Ä->Æ->Prop}(ht:Ï2 s.heap t #[])(hb:Ï2 s.heap b ws.toArray)(h:Q (.ref b) s):Î (Ô P w) A (Ä2 .Add (.ref t) (.ref b)) Q E s:=by
 obtain⟨⟨cls,dd,data,sl⟩,ho,hc,n,hd⟩:=id ht;obtain⟨⟨cls2,dd2,data2,sl2⟩,ho2,hc2,n2,hd2⟩:=id hb;simp only at hc hd hc2 hd2;subst hc hd hc2 hd2;exact concat_meets ⟨_,ho,rfl⟩ ⟨_,ho2,rfl⟩ Þ7 seq_tuple_add Ñ9 Ð7 (Ï7 _ _) (tuple_addW0 t b #[] ws.toArray n n2 dd dd2 sl sl2 (by simp)) ⟨ho,ho2,h⟩
theorem R20:seqRepeat? (.type "tuple")=pure (some (.builtin "tuple.__mul__")):=by
 first | kernel_rfl | rfl | (unfold seqRepeat?;kernel_rfl)
theorem z60:fillsNumberSlot (.type "tuple") "mul"=pure false:=by
 first | kernel_rfl | rfl
theorem l51(a:Int)(t:Tok)(l:Ç)(xs:Array Ä)(n:Nat)(dd:Option Ç)(sl:Array (Option Ä)) :
  Meets (ÿ.«int.__rmul__» ⟨[.int a t,.ref l],[]⟩) (λ_ R s=>s.heap.get? l=some { cls:=.type "tuple",dict:=dd,data:=.seq xs n,slots:=sl }/\R (.ok (.ret Õ1)) s) :=
 .of_wp λP w A R s h=>by obtain⟨hp,g,d,tk,os⟩:=s;obtain⟨hl,h⟩:=h;wp_walk;exact⟨_,rfl,h⟩
theorem J61(l:Ç)(xs:Array Ä)(k:Int)(u:Tok)(n:Nat)(dd:Option Ç)(sl:Array (Option Ä))(h1:¬ (decide (k < -(2 ^ 63)) || decide (k ≥ 2 ^ 63))=true)(h2:(xs.isEmpty || k == 1)=true) :
  Meets (ÿ.«tuple.__mul__» ⟨[.ref l,.int k u],[]⟩) (λ_ R s=>s.heap.get? l=some { cls:=.type "tuple",dict:=dd,data:=.seq xs n,slots:=sl }/\R (.ok (.ret (.ref l))) s) :=
 .of_wp λP w A R s h=>by
  obtain⟨hp,g,d,tk,os⟩:=s;obtain⟨hl,h⟩:=h;have f1:=Ø4
  wp_walk using Ã9 hl
  simp only[h1,if_false]
  wp_walk using Ã9 hl
  exact⟨_,rfl,h⟩
theorem mul_zero(l:Ç)(xs:Array Ä)(k:Int)(u:Tok)(n:Nat)(dd:Option Ç)(sl:Array (Option Ä))(h1:¬ (decide (k < -(2 ^ 63)) || decide (k ≥ 2 ^ 63))=true)(h2:¬ (xs.isEmpty || k == 1)=true)(h3:(decide (k<=0) || xs.isEmpty)=true) :
  Meets (ÿ.«tuple.__mul__» ⟨[.ref l,.int k u],[]⟩) (λ_ R s=>s.heap.get? l=some { cls:=.type "tuple",dict:=dd,data:=.seq xs n,slots:=sl }/\R (.ok (.ret (.ref s.heap.objs.size))) { s with heap:=s.heap.push { cls:=.type "tuple",data:=.seq #[] } }) :=
 .of_wp λP w A R s h=>by
  obtain⟨hp,g,d,tk,os⟩:=s;obtain⟨hl,h⟩:=h;have f1:=Ø4
  wp_walk using Ã9 hl
  simp only[h1,if_false]
  wp_walk using Ã9 hl
  exact⟨_,rfl,h⟩
theorem J71(l:Ç)(xs:Array Ä)(k:Int)(u:Tok)(n:Nat)(dd:Option Ç)(sl:Array (Option Ä))(h1:¬ (decide (k < -(2 ^ 63)) || decide (k ≥ 2 ^ 63))=true)(h2:¬ (xs.isEmpty || k == 1)=true)(h3:¬ (decide (k<=0) || xs.isEmpty)=true)
  (h4:¬ (xs.size:Int) * k > (2 ^ 63 - 1) / 8) (h5:¬ tupleTooMany ((xs.size:Int) * k)=true) (h6:(foldl (λx y=>x++y) #[] (ë k.toNat xs)).size<=Ú) :
  Meets (ÿ.«tuple.__mul__» ⟨[.ref l,.int k u],[]⟩) (λ_ R s=>s.heap.get? l=some { cls:=.type "tuple",dict:=dd,data:=.seq xs n,slots:=sl }/\R (.ok (.ret (.ref s.heap.objs.size))) { s with heap:=s.heap.push { cls:=.type "tuple",data:=.seq (foldl (λx y=>x++y) #[] (ë k.toNat xs)) } }) :=
 .of_wp λP w A R s h=>by
  obtain⟨hp,g,d,tk,os⟩:=s;obtain⟨hl,h⟩:=h;have f1:=Ø4
  wp_walk using Ã9 hl
  simp only[h1,if_false]
  wp_walk using Ã9 hl
  simp only[h4,h5,if_false];refine À (m:=Ç0 _) (å (Å ?_) h6);exact⟨_,rfl,h⟩
end
theorem u30(f:α->Option β)(g:α->β):∀ (l:List α),(∀ k∈l,f k=some (g k))->l.filterMap f=l.map g
 |[],_=>rfl|x::r,h=>by rw[Á4,h x Ë,Å7,u30 f g r λk hk=>h k (È _ hk)]
section
variable {P:Ý}{w:ç}{A:ø}{E:Ä->Æ->Prop}{s:Æ}
theorem s20{t sl:Ç}{xs:Array Ä}{vl vu:Ä}{lo hi:Option Int}{Q:Ä->Æ->Prop}(ht:Ï2 s.heap t xs)(hs:s.heap.IsSliceOf sl vl vu .none)(pl:Ù2 vl lo)(pu:Ù2 vu hi)
  (hw:sIx xs.size 0 lo=0/\sIx xs.size xs.size hi=xs.size) (h:Q (.ref t) s):Î (Ô P w) A (Ó2 (.ref t) (.ref sl)) Q E s:=by
 obtain⟨os,hos,hcs,hds⟩:=id hs;have hTs:s.TypeIs (.ref sl) "slice":=⟨os,hos,hcs⟩;unfold Ó2;try with_reducible refine À8 ?_
 first | refine À (Å ?_) | skip
 refine À (Ý0 ht.typeIs (-0) ?_);refine À (À6 (name:=Á0 "__getitem__") ht.typeIs ô (À5 ô ht.typeIs entry_tuple_getitem ?_ (Ü2 _ _)))
 show Î _ _ (tupleItemsOf (.ref t) >>= _) _ _ s;refine À (tupleItemsOf_ ht (À (Ç9 hTs ?_)));rw[if_pos (-0)];refine À (m80 hs pl pu ?_)
 rw[hw.1,hw.2];show Î _ _ (if (((0:Nat):Int) == 0&&(1:Int) == 1&&(xs.size - 0) == xs.size)=true then _ else _) _ _ s;rw[if_pos (by simp)]
 refine À (m:=tupleIsExact _) ?_;unfold tupleIsExact;refine À (Ç9 ht.typeIs (Å ?_));rw[if_pos (-0)]
 first
  |exact À (Ê0 (Å ⟨_,rfl,Å h⟩))
  |exact À (Ê0 (À (Å (Å ⟨_,rfl,Å h⟩))))
theorem w70{t sl:Ç}{xs:List Ä}{u:Tok}{Q:Ä->Æ->Prop}(ht:Ï2 s.heap t xs.toArray)(hs:s.heap.IsSliceOf sl .none .none (.int (-1) u))
  (h:Q (.ref s.heap.objs.size) { s with heap:=s.heap.push { cls:=.type "tuple",data:=.seq xs.reverse.toArray } }) (hz:xs.length<=Ú):Î (Ô P w) A (Ó2 (.ref t) (.ref sl)) Q E s:=by
 obtain⟨os,hos,hcs,hds⟩:=id hs;have hTs:s.TypeIs (.ref sl) "slice":=⟨os,hos,hcs⟩;unfold Ó2;try with_reducible refine À8 ?_
 first | refine À (Å ?_) | skip
 refine À (Ý0 ht.typeIs (-0) ?_);refine À (À6 (name:=Á0 "__getitem__") ht.typeIs ô (À5 ô ht.typeIs entry_tuple_getitem ?_ (Ü2 _ _)))
 show Î _ _ (tupleItemsOf (.ref t) >>= _) _ _ s;refine À (tupleItemsOf_ ht (À (Ç9 hTs ?_)));rw[if_pos (-0)]
 have app:∀ {R:Int × Int × Nat->Æ->Prop},R ((xs.length:Int) - 1,-1,xs.length) s->Î (Ô P w) A.in1 (Ô3 (.ref sl) (pure (xs.toArray.size:Int))) R E s:=λ{R} q=>by
  unfold Ô3 sliceFields;refine À (À (Á6 hos hds (x:=.none) rfl (À (Á6 hos hds (x:=.none) rfl (À (Á6 hos hds (x:=.int (-1) u) rfl (Å ?_)))))));refine À (slicePart_int ?_);show Î _ _ (if ((-1:Int) == 0)=true then _ else _) _ _ s;rw[if_neg (-0)]
  refine À (Ø7 (À (Ø7 (À (Å ?_)))));have e1:Í4 none none (-1) (xs.toArray.size:Int)=((xs.length:Int) - 1,-1):=by simp[Í4]
  have e2:É0 ((xs.length:Int) - 1) (-1) (-1)=xs.length:=by
   unfold É0;rw[if_neg (-0)]
   split
   ·simp only[Int.neg_neg,Int.ediv_one];omega
   ·omega
  show Î _ _ (match Í4 none none (-1) (xs.toArray.size:Int) with | (lo,hi)=>pure (lo,(-1:Int),É0 lo hi (-1))) _ _ s
  rw[e1];show Î _ _ (pure ((xs.length:Int) - 1,(-1:Int),É0 ((xs.length:Int) - 1) (-1) (-1))) _ _ s;rw[e2];exact Å q
 refine À (app ?_);show Î _ _ (if (((xs.length:Int) - 1) == 0&&(-1:Int) == 1&&xs.length == xs.toArray.size)=true then _ else _) _ _ s;rw[if_neg (by simp)]
 have pick:((ì xs.length).filterMap λ(k:Nat)=>xs.toArray[((xs.length:Int) - 1 + (k:Int) * -1).toNat]?)=xs.reverse:=by
  refine List.ext_getElem? λi=>?_;have hall:∀ k∈ì xs.length,xs.toArray[((xs.length:Int) - 1 + (k:Int) * -1).toNat]?=some (xs.getD (xs.length - 1 - k) â):=λk hk=>by
   have hk':k < xs.length:=by simpa using hk
   have e:((xs.length:Int) - 1 + (k:Int) * -1).toNat=xs.length - 1 - k:=by omega
   rw[e];have:xs.length - 1 - k < xs.length:=by omega
   simp[this]
  rw[u30 _ _ _ hall,Û];by_cases hi:i < xs.length
  ·have h2:xs.length - 1 - i < xs.length:=by omega
   rw[É9 hi,List.getElem?_reverse hi];simp[h2]
  ·rw[à8 (by simpa using hi),à8 (by simpa using hi)];rfl
 rw[pick];have hsz:sizeOk (.seq xs.reverse.toArray):=by show xs.reverse.toArray.size<=Ú;rw[Ó,Ì3];exact hz
 first
  |exact À (m:=Ç0 _) (å (Å ⟨_,rfl,Å h⟩) hsz)
  |exact À (m:=Ç0 _) (å (À (Å (Å ⟨_,rfl,Å h⟩))) hsz)
  |exact À (À (m:=Ç0 _) (å (Å (Å ⟨_,rfl,Å h⟩)) hsz))
  |exact À (À (m:=Ç0 _) (å (Å ⟨_,rfl,Å h⟩) hsz))
end
end HT
namespace L2
open PySem PySem.Spec PyProof.Rows
theorem a30.sqT{K:Â}{H H':Hp}{a:Ç}{xs:List V}(e:a30 H H')(h:SqT K H a xs):SqT K H' a xs:=by
 rcases h with (h | ⟨o,h⟩) | h
 ·exact .inl (.inl (e _ _ h))
 ·exact .inl (.inr ⟨o,e _ _ h⟩)
 ·exact .inr h
theorem a30.new(o:HO)(n:H p=none):a30 H (upd H p o):=λb u e=>by rw[a60 (a80 e n)];exact e
def J81(K:Â)(H:Hp)(zs:List V)(Q:VK):Prop:=∀ p H',a30 H H'->SqT K H' p zs->Q (.ref p) H'
section
variable {X:Cx}{pins:List (Ç × Obj)}{σ:St}{H:Hp}{s:Æ}
theorem J81.here(q:J81 X.K H zs Q)(I:Inv X pins σ H s)(h:SqT X.K H a zs):EP X pins σ Q (.ref a) s:=⟨.ref a,H,I,rfl,q a H (a30.refl H) h⟩
theorem J81.new(q:J81 X.K H zs Q)(I:Inv X pins σ H s)(r:Vals zs us)(hz:zs.length<=Ú) :
  EP X pins σ Q (.ref s.heap.objs.size) { s with heap:=s.heap.push { cls:=.type "tuple",data:=.seq us.toArray } } :=
 have hn:H s.heap.objs.size=none:=I.hok.fresh (Í _)
 ⟨.ref s.heap.objs.size,_,I.laid (t':=s.toks) (o:=.tup zs) (λb ob q=>Ã _ q) (Í _) ⟨hz,_,r,Ï2.new _ _⟩,rfl,q _ _ (a30.new _ hn) (SqT.of b20)⟩
end
section
variable {X:Cx}
def T32(K:Â):R2:=λx y H Q=>∃ a b ns ms,x=.ref a/\y=.ref b/\SqT K H a (ns.map V.int)/\SqT K H b (ms.map V.int)/\Q (.bl (HT.leB ns ms)) H
theorem o32(hu:X.A.units < Å8):OpR X (ü .LtE) (T32 X.K):=by
 intro pins s σ H x y v u Q I rx ry h;obtain⟨a,b,ns,ms,rfl,rfl,ha,hb,q⟩:=h;cases rx;cases ry;obtain⟨v1,r1,p1,_⟩:=I.tuple ha;obtain⟨v2,r2,p2,_⟩:=I.tuple hb;exact HT.l41 p1 p2 (show Ë7 v1.toArray.toList ns from intsAre_of r1) (show Ë7 v2.toArray.toList ms from intsAre_of r2) hu ⟨.bl (HT.leB ns ms),H,I,rfl,q⟩
def E32(K:Â):R2:=λx y H Q=>∃ a b xs ys,x=.ref a/\y=.ref b/\SqT K H a xs/\SqT K H b ys/\xs.length + ys.length<=Ú/\J81 K H (xs++ys) Q
theorem Z61:OpR X (Ä2 .Add) (E32 X.K):=by
 intro pins s σ H x y v u Q I rx ry h;obtain⟨a,b,xs,ys,rfl,rfl,ha,hb,hz,q⟩:=h;cases rx;cases ry;obtain⟨v1,r1,p1,_⟩:=I.tuple ha;obtain⟨v2,r2,p2,_⟩:=I.tuple hb;by_cases hx:xs=[]
 ·subst hx;have e:=r1.I90.mpr rfl;subst e;exact HT.Z51 p1 p2 (q.here I hb)
 ·refine HT.X61 p1 p2 (λz=>hx (r1.I90.mp z)) (λz=>?_) (λz=>q.new I (r1.append r2) (by rw[Â0];exact hz)) (by rw[← r1.length,← r2.length];exact hz)
  have e:=r2.I90.mp z;subst e;rw[append_nil] at q;exact q.here I ha
def E42(K:Â):R2:=λx y H Q=>∃ a k xs,x=.ref a/\y=.int k/\SqT K H a xs/\0<=k/\k < 1000000/\k.toNat * xs.length<=Ú/\J81 K H (ë k.toNat xs).flatten Q
theorem Z71:OpR X (Ä2 .Mult) (E42 X.K):=by
 intro pins s σ H x y v u Q I rx ry h;obtain⟨a,k,xs,rfl,rfl,ha,hk,hk2,hz,q⟩:=h;cases rx;obtain⟨t,rfl⟩:=ry;obtain⟨v1,r1,p1,_⟩:=I.tuple ha;have hl:=r1.length;obtain⟨⟨cls,dd,data,sl⟩,ho,hc,n,hd⟩:=id p1;simp only at hc hd;subst hc hd;have h1:¬ (decide (k < -(2 ^ 63)) || decide (k ≥ 2 ^ 63))=true:=by simp;omega
 refine wpAny_binaryOp_repeat_ref (T:="tuple") (U:="int") (-0) ⟨_,ho,rfl⟩ (λs'=>Û9 s' k t) HT.z60 F.fills_int_mul Õ5 HT.R20 F.slot_int_index.lookup
  (È4 Õ5 (Û9 s k t) F.entry_int_rmul (F.args_int_rmul_2 _ _) (HT.l51 k t a v1.toArray n dd sl) ⟨ho,rfl,⟨_,ho,rfl⟩,?_⟩)
 by_cases hx:v1=[]∨k=1
 ·refine È4 Ý6 ⟨_,ho,rfl⟩ Ü5 (Ú9 _ _) (HT.J61 a v1.toArray k t n dd sl h1 (by rcases hx with hx | hx <;> simp[hx])) ⟨ho,?_⟩
  have e2:(ë k.toNat xs).flatten=xs:=by
   rcases hx with hx | hx
   ·rw[r1.I90.mp hx];simp
   ·rw[hx];simp
  rw[e2] at q;exact q.here I ha
 ·have hv:v1≠[]:=λz=>hx (.inl z);have h2:¬ (v1.toArray.isEmpty || k == 1)=true:=by simp[hv];exact λz=>hx (.inr z)
  by_cases hk0:k=0
  ·refine È4 Ý6 ⟨_,ho,rfl⟩ Ü5 (Ú9 _ _) (HT.mul_zero a v1.toArray k t n dd sl h1 h2 (by simp[hk0])) ⟨ho,?_⟩
   rw[show(ë k.toNat xs).flatten=[] by rw[hk0];rfl] at q
   exact q.new I .nil (Æ6 _)
  have hpos:0 < v1.length:=List.length_pos_iff.mpr hv;have hfl:foldl (λx y=>x++y) #[] (ë k.toNat v1.toArray)=(ë k.toNat v1).flatten.toArray:=by
   have:=foldl_rep v1 k.toNat [];rw[Í0] at this;exact this
  have hsz:v1.length * k.toNat<=sizeLine:=by rw[← hl,Ó8];exact hz
  have hcast:((v1.toArray.size:Nat):Int) * k=((v1.length * k.toNat:Nat):Int):=by rw[Ó,Int.natCast_mul,Int.toNat_of_nonneg ∅]
  have hline:(Ú:Nat)<=(2 ^ 63 - 1) / 8:=by decide
  refine È4 Ý6 ⟨_,ho,rfl⟩ Ü5 (Ú9 _ _) (HT.J71 a v1.toArray k t n dd sl h1 h2 (by simp[hv];omega) (by rw[hcast];generalize v1.length * k.toNat=m at hsz;omega) (by rw[hcast];generalize v1.length * k.toNat=m at hsz;unfold tupleTooMany;intro z;have z':=of_decide_eq_true z;omega)
   (by rw[hfl,Ó,len_rep,Ó8];exact hsz)) ⟨ho,?_⟩
  rw[hfl];exact q.new I (r1.rep k.toNat) (by rw[len_rep];exact hz)
def T42(K:Â):V->Option Int->Option Int->Hp->VK->Prop:=λx lo hi H Q=>∃ a xs,x=.ref a/\SqT K H a xs/\J81 K H (H61 xs lo hi) Q
theorem Z81:SlR X (T42 X.K):=by
 intro pins s σ H x v vl vu lo hi sl Q I rx hs pl pu h;obtain⟨a,xs,rfl,hx,q⟩:=h;cases rx;obtain⟨its,r,ht,hz⟩:=I.tuple hx;have hlen:its.toArray.size=xs.length:=by rw[Ó];exact r.length.symm
 refine⟨"tuple",_,ô.lookup,ht.typeIs,?_⟩;by_cases hw:HT.sIx xs.length 0 lo=0/\HT.sIx xs.length xs.length hi=xs.length
 ·refine HT.s20 ht hs pl pu (by rw[hlen];exact hw) ?_
  have e:H61 xs lo hi=xs:=by unfold H61;rw[hw.1,hw.2];simp
  rw[e] at q;exact q.here I hx
 ·refine HT.w40 ht hs pl pu (by rw[hlen];exact hw) ?_ (by rw[hlen];exact hz)
  rw[hlen];exact q.new I ((r.drop (HT.sIx xs.length 0 lo)).take (HT.sIx xs.length xs.length hi - HT.sIx xs.length 0 lo)) (Ò (B90 xs lo hi) hz)
def z62(K:Â)(te ts:TE):TE:=λσ H Q=>te σ H λx H1=>ts σ H1 λy H2=>y=.int (-1)/\((∃ a xs,x=.ref a/\SqT K H2 a xs/\J81 K H2 xs.reverse Q)∨∃ a xs,x=.ref a/\SqL K H2 a xs/\∀ p,H2 p=none->Q (.ref p) (upd H2 p (.lst xs.reverse)))
theorem o42{e st:Ï}{te ts:TE}{p2 pos:Pos}(he:PE X e te)(hst:PE X st ts):PE X (.Subscript e (.Slice none none (some st) p2) pos) (z62 X.K te ts):=by
 intro pins s σ H Q I h;refine Subscript_ (thn (he pins s σ H _ I h) λv s1 ⟨x,H1,I1,r1,q1⟩=>?_);refine wpAny_Slice ?_;rw[evalPart_none];refine Å (Å ?_);rw[evalPart_some];refine thn (hst pins s1 σ H1 _ I1 q1) λw' s2 ⟨y,H2,I2,r2,q2⟩=>?_;obtain⟨rfl,q2⟩:=q2;obtain⟨t,rfl⟩:=r2;have I4:Inv X pins σ H2 { s2 with heap:=s2.heap.push { cls:=.type "slice",data:=.fields #[.none,.none,.int (-1) t] } }:=I2.kept (t':=s2.toks) λb ob q=>Ã _ q;show Î (Ô X.prog X.w) X.A (subscriptTail e (.Slice none none (some st) p2) v (.ref s2.heap.objs.size)) (EP X pins σ Q) X.xe { s2 with heap:=s2.heap.push { cls:=.type "slice",data:=.fields #[.none,.none,.int (-1) t] } };rcases q2 with ⟨a,xs,rfl,hq,q⟩ | ⟨a,xs,rfl,hq,q⟩
 ·cases r1;obtain⟨its,r,ht,hz⟩:=I4.tuple hq;exact tail_any (ops:=[.ref a,.ref s2.heap.objs.size]) ht.typeIs ô.lookup (HT.w70 ht (Ò6 ..) (q.new I4 r.reverse (by rw[Ì3];exact hz)) (by rw[← r.length];exact hz)) (by with_unfolding_all rfl)
 ·cases r1;obtain⟨its,r,ht,hz⟩:=I4.list hq;have hlen:=r.length;refine tail_any (ops:=[.ref a,.ref s2.heap.objs.size]) ht.isList.typeIs slot_list_getitem.lookup (wpAny_getItem_list_slice ht.isList (Ò6 ..) .none .none (.int (-1) t) (by simp) ?_ (by rw[Ó] <;> omega)) (by with_unfolding_all rfl)
  rw[PySem.W.krv_pick];refine⟨.ref _,_,I4.laid (t':=s2.toks) (o:=.lst xs.reverse) (λb ob q=>Ã _ q) (Í _) ?_,rfl,q _ (I4.hok.fresh (Í _))⟩;exact⟨by rw[Ì3];exact hz,its.reverse,0,r.reverse,Ê _ rfl⟩
theorem N32:OpR X (ü .Is) (λx y H Q=>∃ b c,x=.bl b/\y=.bl c/\Q (.bl (b == c)) H):=by
 intro pins s σ H x y v u Q I rx ry h;obtain⟨b,c,rfl,rfl,q⟩:=h;cases rx;cases ry;exact is_bool (d81 I q rfl)
theorem o52:OpR X (ü .IsNot) (λx y H Q=>∃ b c,x=.bl b/\y=.bl c/\Q (.bl (b != c)) H):=by
 intro pins s σ H x y v u Q I rx ry h;obtain⟨b,c,rfl,rfl,q⟩:=h;cases rx;cases ry;exact isnot_bool (d81 I q rfl)
theorem Inv.big(I:Inv X pins σ H s):sysModules < s.heap.objs.size:=by
 have h:ã < s.heap.objs.size:=(I.mod.glob.keeps I.bk).lt;exact Nat.lt_trans (-0) h
def E52:TE:=λ_ H Q=>∀ p,H p=none->Q (.ref p) (upd H p (.dK []))
theorem Z91{pos:Pos}:PE X (.Dict [] [] pos) E52:=λpins s σ H Q I h =>
 wpAny_Dict_empty ⟨.ref s.heap.objs.size,_,I.laid (a:=s.heap.objs.size) (o:=.dK []) (t':=s.toks) (λ_ _ q=>Ã _ q) (Í _) ⟨Æ6 _,beq_eq_false_iff_ne.mpr (Â3 (Ù I.big)),[],.nil,é.DictOf.new _⟩,rfl,h _ (I.hok.fresh (Í _))⟩
end
end L2
namespace MySort
open PySem PySem.W PyProof.Rows
section
variable {P:Ý}{w:ç}{A:ø}{E:Ä->Æ->Prop}{s:Æ}
theorem Y50(ho:s.heap.get? l=some o)(hc:o.cls=.type "list"∨o.cls=.type "tuple")(hd:o.data=.seq vs.toArray n)
  (h:Q vs { s with heap:=(s.heap.push (Ã1 "list" #[] 0)).update s.heap.objs.size (À1 (·++vs.toArray)) }) (hz:vs.length<=Ú):Î (Ô P w) A (collect (.ref l)) Q E s:=by
 unfold collect;refine À (Ø6 (Â2 entry_proto_collect' ?_));show Î _ _ (do again (.builtin "list.__iadd__" ⟨[← newList [],.ref l],[]⟩)) _ _ s;refine À (Û4 (Å ⟨Ø3 _ (by decide +kernel),Â2 entry_list_iadd' ?_⟩))
 show Î _ _ (Ä3 (.ref s.heap.objs.size) (.ref l) (.ref s.heap.objs.size)) _ _ { s with heap:=s.heap.push (Ã1 "list" #[] 0) };unfold Ä3;have ho':(s.heap.push (Ã1 "list" #[] 0)).get? l=some o:=Ã _ ho;have fin:Î (Ô P w) A (do
   let o ← load s.heap.objs.size
   match o.data with
   |.seq xs _=>pure xs.toList
   |_=>unsupported "internal:collect") Q E { s with heap:=(s.heap.push (Ã1 "list" #[] 0)).update s.heap.objs.size (À1 (·++vs.toArray)) }:=by
  refine À (wpAny_load (à1 (Ê _ rfl) _) ?_);show Î _ _ (pure ((#[]:Array Ä)++vs.toArray).toList) Q E _;rw[show((#[]:Array Ä)++vs.toArray).toList=vs by simp];exact Å h
 rcases hc with hc | hc
 ·refine À (Ç9 (T:="list") ⟨o,ho',hc⟩ ?_);rw[if_pos (by rw[show(Á7 "list" == Á7 "list")=true by rfl];simp)]
  refine À (Ð4 ho' hd (À (Ð4 (xs:=#[]) (n:=0) (Ê _ rfl) rfl ?_)));rw[if_neg (by simp)]
  exact À (Û5 (xs:=#[]) (n:=0) (Ê _ rfl) rfl (Å fin) (Æ6 _) (by show(#[]++vs.toArray).size<=Ú + 1;simp only[Array.size_append,Ó,Á1];omega))
 ·refine À (Ç9 (T:="tuple") ⟨o,ho',hc⟩ ?_);rw[if_pos (by rw[show(Á7 "tuple" == Á7 "tuple")=true by rfl];simp)]
  refine À (Ð4 ho' hd (À (Ð4 (xs:=#[]) (n:=0) (Ê _ rfl) rfl ?_)));rw[if_neg (by simp)]
  exact À (Û5 (xs:=#[]) (n:=0) (Ê _ rfl) rfl (Å fin) (Æ6 _) (by show(#[]++vs.toArray).size<=Ú + 1;simp only[Array.size_append,Ó,Á1];omega))
theorem t21(ho:s.heap.get? l=some o)(hc:o.cls=.type "list"∨o.cls=.type "tuple")(hd:o.data=.seq vs.toArray n)
  (hk:∀ h',s91 s.heap h'->j62 P w A.in1.in1 { s with heap:=h' } vs Pr kd)
  (h:∀ (p:List Nat) (h':é) (c:Nat),Pr p->(∀ b o,s.heap.get? b=some o->h'.get? b=some o)->h'.get? (s.heap.objs.size + 1)=some (Ã1 "list" (p.map λi=>vs.getD i â).toArray c)->Q (.ref (s.heap.objs.size + 1)) { s with heap:=h' }) :
  Î (Ô P w) A (call (.builtin "sorted") [.ref l]) Q E s:=by
 have h64:=(hk s.heap λ_ _ e _=>e).len;refine Þ3 kind_sorted plain_sorted entry_sorted (args_sorted1 _) ?_;unfold ÿ.«sorted»;refine À (m:=checkCount "sorted" 1 1 _) (Å ?_);refine À (Y50 ho hc hd ?_ (by rw[Á3];omega));refine À (Û4 ?_ (by rw[Á3];omega))
 have hsz:((s.heap.push (Ã1 "list" #[] 0)).update s.heap.objs.size (À1 (·++vs.toArray))).objs.size=s.heap.objs.size + 1:=by rw[é.size_update,size_push']
 have hoL:(((s.heap.push (Ã1 "list" #[] 0)).update s.heap.objs.size (À1 (·++vs.toArray))).push (Ã1 "list" vs.toArray 0)).get? (s.heap.objs.size + 1)=some (Ã1 "list" vs.toArray 0):=by rw[← hsz];exact Ê _ rfl
 have keep:∀ b o,s.heap.get? b=some o->(((s.heap.push (Ã1 "list" #[] 0)).update s.heap.objs.size (À1 (·++vs.toArray))).push (Ã1 "list" vs.toArray 0)).get? b=some o:=λb o q=>by
  have hlt:b < s.heap.objs.size:=à q;rw[é.get?_push_ne _ _ _ (by rw[hsz];exact Ù (Å1 hlt)),é.get?_update_ne _ _ _ _ (Ù hlt),é.get?_push_ne _ _ _ (Ù hlt)];exact q
 show Î _ _ _ _ _ { s with heap:=((s.heap.push (Ã1 "list" #[] 0)).update s.heap.objs.size (À1 (·++vs.toArray))).push (Ã1 "list" vs.toArray 0) };rw[hsz];refine À (À8 (À5 slot_list_sort ⟨_,hoL,rfl⟩ entry_list_sort (e41 hoL (λh' kp=>hk h' λb o e hc=>kp b o (keep b o e) hc) λp h' c hp kp hD=>⟨_,rfl,Å ⟨_,rfl,h p h' c hp (λb o e=>kp b o (Ù (Å1 (à e))) (keep b o e)) hD⟩⟩) (args_list_sort _)))
end
end MySort
namespace L2
open PySem PySem.Spec PyProof.Rows
open MySort (sortedBy)
section
variable {X:Cx}
def a02(X:Cx)(H:Hp)(xs:List V)(Pr:List Nat->Prop):Prop:=∀ (pins:List (Ç × Obj)) (σ:St) (s:Æ) (us:List Ä),Inv X pins σ H s->Vals xs us->∃ kd,∀ h',MySort.s91 s.heap h'->MySort.j62 X.prog X.w X.A.in1.in1 { s with heap:=h' } us Pr kd
theorem y20:g10 X (.builtin "sorted") (λargs H Q=>∃ a xs,∃ Pr:List Nat->Prop,args=[.ref a]/\(SqL X.K H a xs∨SqT X.K H a xs)/\a02 X H xs Pr/\(∀ p,Pr p->∀ i∈p,i < xs.length)/\∀ p l,Pr p->H l=none->Q (.ref l) (upd H l (.lst (p.map λi=>xs.getD i .non)))):=by
 intro pins s σ H args us Q I r h;obtain⟨a,xs,Pr,rfl,hq,hk,hpr,q⟩:=h;obtain⟨u,rfl,rx⟩:=vals1 r;cases rx;have go:∀ (its:List Ä) (o:Obj) (n:Nat),Vals xs its->s.heap.get? a=some o->(o.cls=.type "list"∨o.cls=.type "tuple")->o.data=.seq its.toArray n->Î (Ô X.prog X.w) X.A (call (.builtin "sorted") [.ref a]) (EP X pins σ Q) X.xe s:=λits o n rv ho hc hd=>by
  obtain⟨kd,kw⟩:=hk pins σ s its I rv;have k0:=kw s.heap λ_ _ e _=>e;refine MySort.t21 ho hc hd kw λp h' c hp kp hD=>?_;have hn:H (s.heap.objs.size + 1)=none:=I.hok.fresh (É7 _ 1);have hlen:(p.map λi=>xs.getD i .non).length<=sizeLine:=by rw[É,k0.all p hp,Á3];have:=k0.len;omega
  have rv':Vals (p.map λi=>xs.getD i .non) (p.map λi=>its.getD i â):=by
   have hall:=hpr p hp;clear hp hD hlen
   induction p with
   |nil=>exact .nil
   |cons i r ih =>
    refine .cons ?_ (ih λj hj=>hall j (È _ hj));have hi:=hall i Ë;obtain⟨u,hu,ru⟩:=rv.get (i:=i) (x:=xs[i]) (by simp[hi])
    have e1:xs.getD i V.non=xs[i]:=by simp[hi]
    have e2:its.getD i â=u:=by rw[Ø,hu];rfl
    show RelV (xs.getD i V.non) (its.getD i â);rw[e1,e2];exact ru
  exact⟨.ref (s.heap.objs.size + 1),_,I.laid (t':=s.toks) kp (É7 _ 1) (show g90 X.prog X.w _ h' _ (.lst _) from⟨hlen,_,c,rv',hD⟩),rfl,q p _ hp hn⟩
 rcases hq with hq | hq
 ·obtain⟨its,rv,pl,_⟩:=I.list hq;obtain⟨o,ho,hc,n,hd⟩:=pl.isList;exact go its o n rv ho (.inl hc) hd
 ·obtain⟨its,rv,⟨o,ho,hc,n,hd⟩,_⟩:=I.tuple hq;exact go its o n rv ho (.inr hc) hd
end
section
variable {K:Â}{g:TG}{tt:TT}{te:TE}{σ0:St}{H:Hp}{Q:VK}
theorem J91{lo:Int}{n:Nat}(Pv:Nat->List V->Hp->Prop)(hz:n<=Ú)(h0:Pv 0 [] H)(hl:∀ i ys H,Pv i ys H->ys.length<=i)
  (hs:∀ i ys H,i < n->Pv i ys H->g (.int (lo + i)) σ0 H λσ2 H2=>tt σ2 H2 λb H3=>if b=true then te σ2 H3 (λy H4=>Pv (i + 1) (ys++[y]) H4) else Pv (i + 1) ys H3)
  (hd:∀ ys H p,Pv n ys H->H p=none->Q (.ref p) (upd H p (.lst ys))):r91 (Itr lo n) σ0 H g tt te Q:=by
 refine⟨λi m ys H=>m=n - i/\i<=n/\Pv i ys H,⟨n,by simp,Æ6 _,h0⟩,?_⟩
 rintro i m ys H ⟨rfl,hi,p⟩;have hy:=hl i ys H p;by_cases hlt:i < n
 ·refine .inr ⟨hlt,by omega,Pv (i + 1),λzs H' p'=>⟨n - (i + 1),by omega,rfl,hlt,p'⟩,λx H' y=>?_⟩
  obtain⟨e,y⟩:=y;subst e y;exact hs i ys _ hlt p
 ·have e:i=n:=by omega
  subst e;exact .inl ⟨Í _,λz hz=>hd ys H z p hz⟩
end
inductive D where
 |non | bl (b:Bool) | int (i:Int) | str (x:Str) | tup (ds:List D) | lst (ds:List D) | dct
def D.ty:D->String
 |.non=>"NoneType"|.bl _=>"bool"|.int _=>"int"|.str _=>"str"|.tup _=>"tuple"|.lst _=>"list"|.dct=>"dict"
mutual
def Has(K:Â)(H:Hp):D->V->Prop
 |.non,v=>v=.non|.bl b,v=>v=.bl b|.int i,v=>v=.int i|.str x,v=>v=.str x|.tup ds,v=>∃ a xs,v=.ref a/\SqT K H a xs/\G50 K H ds xs|.lst ds,v=>∃ a xs,v=.ref a/\SqL K H a xs/\G50 K H ds xs|.dct,v=>∃ a kvs,v=.ref a/\H a=some (.dK kvs)
def G50(K:Â)(H:Hp):List D->List V->Prop
 |[],xs=>xs=[]|d::ds,xs=>∃ x r,xs=x::r/\Has K H d x/\G50 K H ds r
end
def isB(T C:String):Bool:=T == C || (T == "bool"&&C == "int")
theorem a12(K:Â)(d:D):∀ C∈["int","bool","tuple","list","str"],Î0 K (.type d.ty) (.type C)=some (isB d.ty C):=by
 intro C hC;simp only[Â7,À0,or_false] at hC;rcases hC with rfl | rfl | rfl | rfl | rfl <;> cases d <;> first | rfl | kernel_rfl | decide +kernel
section
variable {X:Cx}
theorem K01:g10 X (.builtin "isinstance") (λxs H Q=>∃ d x C,xs=[x,.ty C]/\Has X.K H d x/\C∈["int","bool","tuple","list","str"]/\Q (.bl (isB d.ty C)) H):=by
 intro pins s σ H xs us Q I r h;obtain⟨d,x,C,rfl,hd,hC,q⟩:=h;obtain⟨u,w',rfl,rx,rt⟩:=vals2 r;cases (show w'=Á7 C from rt);have e:=a12 X.K d C hC;have fin:∀ tk,EP X pins σ Q (.bool (isB d.ty C)) { s with toks:=tk }:=λtk=>⟨.bl _,H,I.tok tk,rfl,q⟩;cases d with
 |non=>unfold Has at hd;subst hd;cases rx;exact Ç1 kitx_none I.kIn Ê8 e (λz=>nomatch z) fin
 |bl b=>unfold Has at hd;subst hd;cases rx;exact Ç1 kitx_bool I.kIn Ê8 e (λz=>nomatch z) fin
 |int i=>unfold Has at hd;subst hd;obtain⟨t,rfl⟩:=rx;exact Ç1 kitx_int I.kIn Ê8 e (λz=>nomatch z) fin
 |str y=>unfold Has at hd;subst hd;obtain⟨t,rfl⟩:=rx;exact Ç1 kitx_str I.kIn Ê8 e (λz=>nomatch z) fin
 |tup ds =>
  unfold Has at hd;obtain⟨a,ys,rfl,hq,_⟩:=hd;cases rx;obtain⟨its,_,⟨o,h1,h2,_⟩,_⟩:=I.tuple hq;exact Ç1 kitx_tuple I.kIn ⟨o,h1,h2⟩ e (λz=>nomatch z) fin
 |lst ds =>
  unfold Has at hd;obtain⟨a,ys,rfl,hq,_⟩:=hd;cases rx;obtain⟨its,_,pl,_⟩:=I.list hq;obtain⟨o,h1,h2,_⟩:=pl.isList;exact Ç1 kitx_list I.kIn ⟨o,h1,h2⟩ e (λz=>nomatch z) fin
 |dct =>
  unfold Has at hd;obtain⟨a,kvs,rfl,hq⟩:=hd;cases rx;obtain⟨_,_,vs,_,p⟩:=(show g90 X.prog X.w H s.heap a (.dK kvs) from I.hok a _ hq);obtain⟨o,es,ep,h1,h2,_⟩:=p;exact Ç1 kitx_dict I.kIn ⟨o,h1,h2.1⟩ e (λz=>nomatch z) fin
end
def hide(st:Ç)(H:Hp):Hp:=λb=>if b=st then none else H b
theorem e50(st:Ç)(H:Hp):a30 (hide st H) H:=λb o e=>by
 unfold hide at e;split at e
 ·cases e
 ·exact e
theorem C40{st:Ç}{H H':Hp}(e:∀ b o,b≠st->H b=some o->H' b=some o):a30 (hide st H) (hide st H'):=λb o h=>by
 unfold hide at h ⊢;by_cases q:b=st
 ·rw[if_pos q] at h;cases h
 ·rw[if_neg q] at h ⊢;exact e b o q h
theorem K30{st b:Ç}{H:Hp}{o:HO}(h:H b=some o)(n:b≠st):hide st H b=some o:=by
 unfold hide;rw[if_neg n];exact h
end L2
namespace L2
open PySem PySem.Spec PyProof.Rows
def t31(sc scX:ý)(N own:List Str)(capt:List (Str × Nat)):Bool :=
 sc.kind == .function&&sc.names.all (λy=>y.2 != .cell)&&sc.names.all (λy=>y.2 != .local || sc.names.lookup y.1 == some .local) &&
  sc.names.all (λy=>y.2 != .free || (scX.names.lookup y.1 == some .cell || scX.names.lookup y.1 == some .free))&&capt.all λp=>N[p.2]? == some p.1&&sc.names.lookup p.1 == some .free
theorem r30.of{X:Cx}{sc scX:ý}{N own:List Str}{capt:List (Str × Nat)}(e:X.env.scope=scX)(eN:X.N=N)(h:t31 sc scX N own capt=true):r30 X sc own capt:=by
 unfold t31 at h;simp only[Á] at h;obtain⟨⟨⟨⟨h1,h2⟩,h3⟩,h4⟩,h5⟩:=h;rw[Æ9] at h2 h3 h4 h5;refine⟨by simpa using h1,λy hy=>by simpa using h2 y hy,λy hy hl=>?_,λy hy hf=>?_,λp hp=>?_⟩
 ·have:=h3 y hy;rw[hl] at this;simpa using this
 ·have:=h4 y hy;rw[hf] at this;show X.env.scope.names.lookup y.1=_∨X.env.scope.names.lookup y.1=_;rw[e];simpa using this
 ·have:=h5 p hp;rw[eN];simpa using this
theorem gN{i:Nat}{v:V}{σ:St}{H:Hp}{R:St->Hp->Prop}(h:R (σ.set i (some v)) H):X40 i v σ H R:=h
theorem K11{σ:St}{H:Hp}{R:Bool->Hp->Prop}(h:R true H):H91 σ H R:=h
theorem C50{n:Nat}(h:n<=64):n<=sizeLine:=Ò h (-0)
section
variable {X:Cx}
theorem o62(K:Â)(d:D):kitAny K (.type d.ty) [.type "tuple",.type "list"]=some (isB d.ty "tuple" || isB d.ty "list"):=by
 have e1:=a12 K d "tuple" (by simp)
 have e2:=a12 K d "list" (by simp)
 unfold kitAny;rw[e1];cases isB d.ty "tuple" with
 |true=>rfl
 |false =>
  show kitAny K (.type d.ty) [.type "list"]=_;unfold kitAny;rw[e2];cases isB d.ty "list" <;> rfl
theorem t41:g10 X (.builtin "isinstance") (λxs H Q=>∃ d x a,xs=[x,.ref a]/\Has X.K H d x/\SqT X.K H a [.ty "tuple",.ty "list"]/\Q (.bl (isB d.ty "tuple" || isB d.ty "list")) H):=by
 intro pins s σ H xs us Q I r h;obtain⟨d,x,a,rfl,hd,hq,q⟩:=h;obtain⟨u,w',rfl,rx,rt⟩:=vals2 r;cases (show w'=Ã3 a from rt);obtain⟨its,rv,⟨⟨cls,dd,data,sl⟩,ho,hc,n,hdt⟩,_⟩:=I.tuple hq;simp only at hc hdt;subst hc hdt;have eits:its=[.type "tuple",.type "list"]:=by
  cases rv with
  |cons p r=>cases r with
   |cons p2 r2=>cases r2;rw[show _=Á7 "tuple" from p,show _=Á7 "list" from p2]
 subst eits;have e:=o62 X.K d;have fin:∀ tk,EP X pins σ Q (.bool (isB d.ty "tuple" || isB d.ty "list")) { s with toks:=tk }:=λtk=>⟨.bl _,H,I.tok tk,rfl,q⟩;cases d with
 |non=>unfold Has at hd;subst hd;cases rx;exact Ö4 kitx_none I.kIn Ê8 ho e (λz=>nomatch z) fin
 |bl b=>unfold Has at hd;subst hd;cases rx;exact Ö4 kitx_bool I.kIn Ê8 ho e (λz=>nomatch z) fin
 |int i=>unfold Has at hd;subst hd;obtain⟨t,rfl⟩:=rx;exact Ö4 kitx_int I.kIn Ê8 ho e (λz=>nomatch z) fin
 |str y=>unfold Has at hd;subst hd;obtain⟨t,rfl⟩:=rx;exact Ö4 kitx_str I.kIn Ê8 ho e (λz=>nomatch z) fin
 |tup ds =>
  unfold Has at hd;obtain⟨b,ys,rfl,hq',_⟩:=hd;cases rx;obtain⟨_,_,⟨o,h1,h2,_⟩,_⟩:=I.tuple hq';exact Ö4 kitx_tuple I.kIn ⟨o,h1,h2⟩ ho e (λz=>nomatch z) fin
 |lst ds =>
  unfold Has at hd;obtain⟨b,ys,rfl,hq',_⟩:=hd;cases rx;obtain⟨_,_,pl,_⟩:=I.list hq';obtain⟨o,h1,h2,_⟩:=pl.isList;exact Ö4 kitx_list I.kIn ⟨o,h1,h2⟩ ho e (λz=>nomatch z) fin
 |dct =>
  unfold Has at hd;obtain⟨b,kvs,rfl,hq'⟩:=hd;cases rx;obtain⟨_,_,vs,_,p⟩:=(show g90 X.prog X.w H s.heap b (.dK kvs) from I.hok b _ hq');obtain⟨o,es,ep,h1,h2,_⟩:=p;exact Ö4 kitx_dict I.kIn ⟨o,h1,h2.1⟩ ho e (λz=>nomatch z) fin
end
open PySem PySem.Spec PyProof.Rows PySem.SeqAt
theorem K40(l b:Ç)(es:Array DictEntry)(n:Nat)(it:Array Ä)(n2:Nat)(dd dd2:Option Ç)(sl sl2:Array (Option Ä)) :
  Meets (ÿ.«dict.__ne__» ⟨[.ref l,.ref b],[]⟩) (λ_ R s=>s.heap.get? l=some { cls:=.type "dict",dict:=dd,data:=.dict es n,slots:=sl }/\s.heap.get? b=some { cls:=.type "tuple",dict:=dd2,data:=.seq it n2,slots:=sl2 }/\R (.ok (.ret .notImplemented)) s) :=
 .of_wp λprog w A R s h=>by
  obtain⟨hp,g,d,tk,os⟩:=s;obtain⟨hl,hb,h⟩:=h;have f1:=F.sub_tuple_dict
  wp_walk using Ä7 hl,Ä7 hb
  exact⟨_,rfl,h⟩
theorem K50(l b:Ç)(es:Array DictEntry)(n:Nat)(it:Array Ä)(n2:Nat)(dd dd2:Option Ç)(sl sl2:Array (Option Ä)) :
  Meets (ÿ.«tuple.__ne__» ⟨[.ref b,.ref l],[]⟩) (λ_ R s=>s.heap.get? l=some { cls:=.type "dict",dict:=dd,data:=.dict es n,slots:=sl }/\s.heap.get? b=some { cls:=.type "tuple",dict:=dd2,data:=.seq it n2,slots:=sl2 }/\R (.ok (.ret .notImplemented)) s) :=
 .of_wp λprog w A R s h=>by
  obtain⟨hp,g,d,tk,os⟩:=s;obtain⟨hl,hb,h⟩:=h;have f1:=F.sub_dict_tuple
  wp_walk using Ä7 hl,Ä7 hb
  exact⟨_,rfl,h⟩
section
variable {X:Cx}
theorem a22(hu:X.A.units + 64 < Å8):OpR X (ü .NotEq) (λx y H Q=>∃ a b kvs xs,x=.ref a/\y=.ref b/\H a=some (.dK kvs)/\SqT X.K H b xs/\Q (.bl true) H):=by
 intro pins s σ H x y v u Q I rx ry h;obtain⟨a,b,kvs,xs,rfl,rfl,ha,hb,q⟩:=h;cases rx;cases ry;obtain⟨v2,r2,⟨o2,h2,c2,n2,d2⟩,_⟩:=I.tuple hb;obtain⟨_,_,vs,_,p⟩:=(show g90 X.prog X.w H s.heap a (.dK kvs) from I.hok a _ ha);obtain⟨o1,es,n1,h1,c1,d1,_⟩:=p;have c1:=c1.1;obtain⟨cls,dd,data,sl⟩:=o1;obtain⟨cls2,dd2,data2,sl2⟩:=o2;simp only at c1 d1 c2 d2;subst c1 d1 c2 d2;have hne:a≠b:=λe=>by
  subst e;rw[h1] at h2;simp at h2
 have hu':X.A.units < cLine:=by omega
 refine rc_ne_decline_or (k:=false) ⟨_,h1,rfl⟩ ⟨_,h2,rfl⟩ (-0) F.sub_tuple_dict F.slot_dict_ne F.slot_tuple_ne_refl
  (λ_ hq=>È4 F.slot_dict_ne ⟨_,h1,rfl⟩ F.entry_dict_ne (F.args_dict_ne_2 _ _) (K40 a b es n1 v2.toArray n2 dd dd2 sl sl2) ⟨h1,h2,hq⟩)
  (λ_ hq=>È4 F.slot_tuple_ne_refl ⟨_,h2,rfl⟩ F.entry_tuple_ne (F.args_tuple_ne_2 _ _) (K50 a b es n1 v2.toArray n2 dd dd2 sl sl2) ⟨h1,h2,hq⟩)
  (λ_ hq=>wpAny_isSame_ref_other hne h1 h2 (by simp) hq) (.inr hu') ⟨.bl true,H,I,rfl,q⟩
end
end L2
namespace L2
open PySem PySem.Spec PyProof.Rows
section
variable {P:Ý}{w:ç}{A:ø}{E:Ä->Æ->Prop}{s:Æ}
abbrev eT1(h:é)(l:Ç):Heap:=h.push { cls:=.type "tuple_iterator",data:=.fields #[.ref l,.int 0 0] }
abbrev eT2(h:é)(l:Ç):Heap:=(eT1 h l).push { cls:=.type "enumerate",data:=.fields #[.none,.bool false,.ref h.objs.size,Ã7 0,.none,.none] }
theorem Y60(l:Ç)(xs:Array Ä) :
  Meets (ÿ.«enumerate.__new__» ⟨[.type "enumerate",.ref l],[]⟩) (λ_ R s=>s.heap.IsTuple l xs/\R (.ok (.ret (.ref (eT1 s.heap l).objs.size))) { s with heap:=eT2 s.heap l }) :=
 .of_wp λP w A R s h=>by
  obtain⟨hp,g,d,tk,os⟩:=s;obtain⟨hl,h⟩:=h;have hsub:=sub_enumerate;have hL1:Ó3 (Æ.heap ⟨hp,g,d,tk,os⟩) l xs:=hl
  wp_walk;refine wpAny_stack_any λq=>Å ?_;split
  ·rename_i c _ _ _ _ _;cases (c == Á7 "enumerate") <;> (wp_walk using È0 hL1) <;> exact⟨_,rfl,h⟩
  ·wp_walk using È0 hL1
   exact⟨_,rfl,h⟩
theorem l61(hl:s.heap.IsTuple l xs)
  (h:∀ h',IsEnum h' (s.heap.objs.size + 1) s.heap.objs.size 0 .none->h'.IsTupleIter s.heap.objs.size l 0->(∀ c o,s.heap.get? c=some o->h'.get? c=some o)->Q (.ref (s.heap.objs.size + 1)) { s with heap:=h' }) :
  Î (Ô P w) A (call (.type "enumerate") [.ref l]) Q E s:=by
 refine callType_new F.called_enumerate (-0) (F.typeCall_enumerate_1 _) (F.newCall_enumerate_1 _) (λobj=>F.args_object_init_2 obj _) F.entry_enumerate_new (Y60 l xs) ⟨hl,?_⟩
 have n1:(eT1 s.heap l).objs.size=s.heap.objs.size + 1:=Ë4 ..;have g2:(eT2 s.heap l).get? (eT1 s.heap l).objs.size=some _:=Ê _ rfl;have g1:(eT2 s.heap l).get? s.heap.objs.size=some _:=Ã _ (Ê _ rfl);show _/\_;rw[n1] at g2;rw[n1];exact⟨⟨_,g2,rfl⟩,h _ g2 ⟨_,g1,rfl,rfl⟩ λc o q=>Ã _ (Ã _ q)⟩
theorem t51(hh:A.handled=none){it l:Ç}{xs:Array Ä}(n:l≠it):Draws P w A it [it,l] xs.size (λi x=>xs[i]?=some x) (λi h=>h.IsTupleIter it l i/\h.IsTuple l xs) where
 live:=λi h q=>by obtain⟨⟨o,e,_⟩,_⟩:=q;exact⟨o,e⟩
 frame:=λi h h' q k=>by
  obtain⟨⟨o,e,r⟩,⟨o',e',r'⟩⟩:=q;exact⟨⟨o,k it (by simp) _ e,r⟩,⟨o',k l (by simp) _ e',r'⟩⟩
 item:=λi s Q E hi q k=>p90 q.1 q.2 (x:=xs[i]) (by simp[hi]) λh' h1 h2=>k _ h' s.toks (by simp[hi]) ⟨h1,q.2.extBut h2.extBut n⟩ h2
 done:=λs Q E q k=>l50 hh q.1 q.2 (by simp) λh' e h1 h2=>k h' e h1 h2
end
theorem S71{P:Ý}{w:ç}{A:ø}(b:Bool)(hh:A.handled=none){it l:Ç}{xs:Array Ä}(n:l≠it):Draws P w A it [it,l] xs.size (λi x=>xs[i]?=some x) (λi h=>Q90 b h it l i/\I11 b h l xs):=match b with
 |true=>Draws.list hh it l n xs|false=>t51 hh n
def Ite(b:Bool)(K:Â)(a:Ç):It :=
 ⟨λi H=>∃ xs x,SqB b K H a xs/\xs[i]?=some x,
  λi H v H'=>∃ T,v=.ref T/\H T=none/\∀ xs x,SqB b K H a xs->xs[i]?=some x->H'=upd H T (.tup [.int i,x]),
  λi H=>∃ xs,SqB b K H a xs/\xs.length=i⟩
theorem t61{P:Ý}{w:ç}{K:Â}{es:List Ï}{ek:Nat}{ep:Pos}{a e it:Ç}{b:Bool}(h1:e≠it)(h2:a≠e)(h3:a≠it) :
  Turn P w K (.Tuple es ek ep) (Ite b K a) [e,it] e (λi h=>(∃ old,IsEnum h e it i old)/\Q90 b h it a i) where
 mem:=by simp
 obj:=λi h st c hc=>by
  obtain⟨⟨old,he⟩,st⟩:=st;obtain⟨o1,g1,d1,_⟩:=st.obj;simp only[Â7,À0,or_false] at hc;rcases hc with rfl | rfl
  ·exact⟨_,he,λv e=>by cases e⟩
  ·exact⟨_,g1,d1⟩
 keep:=λi h h' st k=>by
  obtain⟨⟨old,he⟩,st⟩:=st;obtain⟨o1,g1,_,r1⟩:=st.obj;exact⟨⟨old,k e (by simp) _ he⟩,r1 h' (k it (by simp) _ g1)⟩
 item:=by
  intro X hP hw hK hc i pins s σ H E I hf st hg;subst hP hw hK;obtain⟨xs,x,hq,hx⟩:=hg;obtain⟨v1,rv,p1,_,z1⟩:=I.I21 hq;obtain⟨u,hu,ru⟩:=rv.get hx;obtain⟨⟨old,he⟩,hi⟩:=st;have hl:i < v1.toArray.size:=by simpa using (ß.mp hu).1
  refine wpAny_pyNext_enum_itemD (S71 (A:=X.A.in1) b (by exact I.ok.hd hc) h3) he ⟨hi,p1⟩ hl h1 (by simp[h1,h2.symm]) λy g1 tk hy ge gs gT sz kp=>⟨_,rfl,?_⟩
  have hy':v1[i]?=some y:=by simpa using hy
  rw[hu] at hy';cases hy';refine wpAny_letOwnedTupleGo_enum (s:={ s with heap:=g1,toks:=tk + 1 }) ge λg2 ge2 sb=>?_;have hT:H s.heap.objs.size=none:=I.hok.fresh (Í _);have kall:∀ c o,c ∉ [e,it]->s.heap.get? c=some o->g2.get? c=some o:=λc o hc q=>by
   simp only[Â7,À0,or_false,not_or] at hc;exact sb.extBut _ _ hc.1 (kp c o hc.1 hc.2 q)
  have I2:Inv X pins σ H { s with heap:=g2,toks:=tk + 1 }:=I.J50 (t':=tk + 1) hf kall;have fT:X50 X pins H s.heap.objs.size:=I.p11 (Í _) hT;have gT2:g2.get? s.heap.objs.size=some { cls:=.type "tuple",data:=.seq #[.int i tk,u] }:=sb.extBut _ _ (λq=>Á8 _ (by have:=à he;rw[← q] at this;exact this)) gT
  have I3:Inv X pins σ (upd H s.heap.objs.size (.tup [.int i,x])) { s with heap:=g2,toks:=tk + 1 }:=I2.H81 fT I.sz (I2.hok.S31 hT (its:=[.int i tk,u]) (.cons ⟨_,rfl⟩ (.cons ru .nil)) (by show 2<=Ú;rw[Á3];decide) ⟨_,gT2,rfl,_,rfl⟩)
  refine⟨.ref s.heap.objs.size,_,I3,rfl,⟨_,rfl,hT,λxs' x' e1 e2=>?_⟩,⟨⟨_,ge2⟩,by obtain⟨o,q1,_,q2⟩:=gs.1.obj;exact q2 _ (sb.extBut _ _ h1.symm q1)⟩,λc hc=>?_⟩
  ·rw[z1 _ e1] at e2;rw[hx] at e2;cases e2;rfl
  ·rw[a60]
   ·exact(hf c hc).1
   ·intro q;simp only[Â7,À0,or_false] at hc;rcases hc with hc | hc
    ·exact Á8 _ (by have:=à he;rw[← hc,q] at this;exact this)
    ·obtain⟨o,ho,_⟩:=Q90.obj hi;exact Á8 _ (by have:=à ho;rw[← hc,q] at this;exact this)
 done:=by
  intro X hP hw hK hc i pins s σ H E I hf st hg;subst hP hw hK;obtain⟨xs,hq,rfl⟩:=hg;obtain⟨v1,rv,p1,_,z1⟩:=I.I21 hq;obtain⟨⟨old,he⟩,hi⟩:=st;refine wpAny_pyNext_enum_endD (S71 (A:=X.A.in1) (xs:=v1.toArray) b (by exact I.ok.hd hc) h3) he ⟨by rw[show v1.toArray.size=xs.length by simpa using rv.length.symm];exact hi,p1⟩ λg kp=>⟨rfl,I.J50 (t':=s.toks) hf λc o hcn q=>?_⟩
  simp only[Â7,À0,or_false,not_or] at hcn;exact kp c o hcn.2 q
 self:=λ_ _ _ _ _ st h=>by obtain⟨⟨_,he⟩,_⟩:=st;exact wpAny_pyIter_enum he h
def E62(K:Â)(ta:TA):TI:=λσ H R=>ta σ H λvs H1=>∃ b a,vs=[.ref a]/\(∃ xs,SqB b K H1 a xs)/\R (Ite b K a) H1
theorem l71(hl:I11 b s.heap l xs)
  (h:∀ h',IsEnum h' (s.heap.objs.size + 1) s.heap.objs.size 0 .none->Q90 b h' s.heap.objs.size l 0->(∀ c o,s.heap.get? c=some o->h'.get? c=some o)->Q (.ref (s.heap.objs.size + 1)) { s with heap:=h' }) :
  Î (Ô P w) A (call (.type "enumerate") [.ref l]) Q E s:=match b,hl,h with
 |true,hl,h=>call_enumerate_list hl λh' a b _ c=>h h' a b c|false,hl,h=>l61 hl h
theorem t71:ï "enumerate"=some (.type "enumerate"):=by decide +kernel
theorem a32{X:Cx}{a:Ï}{es:List Ï}{ek:Nat}{ep:Pos}{ta:TA}{p pos:Pos}(hg:Gl X "enumerate")(hm:X.mg "enumerate"=none)(ha:PA X [a] ta)(hs:þ [a] X.env=[(false,eval a X.env)]:=by rfl) :
  PI X (.Tuple es ek ep) (.Call (.Name "enumerate" p) [a] [] pos) (E62 X.K ta):=by
 intro pins s σ H R I h;refine Call_ (t70 I hg hm t71 (Á2 (thn (ha pos pins s σ H _ I h) λus s1 ⟨vs,H1,I1,r1,q1⟩=>?_) (by rw[hs];rfl) (by rfl)))
 obtain⟨b,l1,e,⟨xs,hq1⟩,q⟩:=q1;subst e;obtain⟨u,rfl,r⟩:=vals1 r1;cases r;obtain⟨v1,rv1,p1,a1,_⟩:=I1.I21 hq1;refine l71 p1 λh' he h1 kp=>wpAny_pyIter_enum (s:={ s1 with heap:=h' }) he ?_;refine⟨_,[s1.heap.objs.size + 1,s1.heap.objs.size],_,_,H1,rfl,I1.kept (t':=s1.toks) kp,t61 (Nat.succ_ne_self _) (Ù (Å1 a1)) (Ù a1),⟨⟨_,he⟩,h1⟩,λc hc=>?_,q⟩;have hc':s1.heap.objs.size<=c:=by
  simp only[Â7,À0,or_false] at hc;rcases hc with rfl | rfl
  ·exact É7 _ 1
  ·exact Í _
 exact I1.p11 hc' (I1.hok.fresh hc')
end L2
namespace HT
open PySem PySem.W PyProof.Rows
set_option maxRecDepth 100000
section
variable {P:Ý}{w:ç}{A:ø}{E:Ä->Æ->Prop}{s:Æ}
theorem K60{a b c:Int}{n:Nat}(hh:A.handled=none)(hr:Õ9 s.heap r a b c t u v)(hs:Ò1 a b c=true)(hn:Ã8 a b c=n)(hl:n<=2 ^ 24)
  (hQ:∀ (h':é) (tk:Nat) (acc:Array Ä),(∀ b o,s.heap.get? b=some o->h'.get? b=some o)->s.heap.objs.size<=h'.objs.size->ItemsOf (λi v=>∃ t,v=.int (a + i * c) t) acc n->Q acc.toList { s with heap:=h',toks:=tk }):Î (Ô P w) A (collect (.ref r)) Q E s:=by
 unfold collect;refine À (Ø6 (Â2 PySem.F.entry_proto_collect ?_));rw[Â8 PySem.F.plain_proto_collect _];show Î _ A.in1 (newList [] >>= λl=>again (.builtin "list.__iadd__" ⟨[l,.ref r],[]⟩)) _ _ s;refine À (å (Å ⟨Î4 Ý9 _,Â2 PySem.F.entry_list_iadd ?_⟩));rw[Â8 Ý9 _];show Î _ A.in1 (Ä3 (.ref s.heap.objs.size) (.ref r) (.ref s.heap.objs.size)) _ _ { s with heap:=s.heap.push (Ã1 "list" #[] 0) };have hS:(s.heap.push (Ã1 "list" #[] 0)).get? s.heap.objs.size=some { cls:=.type "list",data:=.seq #[] 0 }:=Ê _ rfl;refine Â1 (wpAny_extend_range (A:=A) (s:={ s with heap:=s.heap.push (Ã1 "list" #[] 0) }) (R:=λx s'=>x=.ok (.ret (.ref s.heap.objs.size))/\∃ h' tk acc c',s'={ s with heap:=h',toks:=tk }/\(∀ b o,s.heap.get? b=some o->h'.get? b=some o)/\h'.get? s.heap.objs.size=some { cls:=.type "list",dict:=none,data:=.seq acc c',slots:=#[] }/\ItemsOf (λi v=>∃ t,v=.int (a + i * c) t) acc n) hh (Ã _ hr) hs hn hl _ (.ref s.heap.objs.size) 0 hS λh' tk acc c' hk hS' hi=>⟨rfl,h',tk,acc,c',rfl,λb o e=>hk b o (Ù (à e)) (Ã _ e),hS',hi⟩) (λfin s' h=>?_) λe s' h=>?_
 ·have go:∀ s',(∃ h' tk acc c',s'={ s with heap:=h',toks:=tk }/\(∀ b o,s.heap.get? b=some o->h'.get? b=some o)/\h'.get? s.heap.objs.size=some { cls:=.type "list",dict:=none,data:=.seq acc c',slots:=#[] }/\ItemsOf (λi v=>∃ t,v=.int (a + i * c) t) acc n)->Î (Ô P w) A (match Ã3 s.heap.objs.size with
   |Ã3 a=>do
    match (← load a).data with
     |Data.seq xs _=>pure xs.toList|_=>unsupported "internal:collect"
   |_=>unsupported "internal:collect") Q E s':=λs' ⟨h',tk,acc,c',e,hk,hS',hi⟩=>by
   subst e;show Î _ A (load s.heap.objs.size >>= _) _ _ _;exact À (wpAny_load hS' (Å (hQ h' tk acc hk (É5 (à hS')) hi)))
  cases fin with
  |done f =>
   obtain⟨e,h⟩:=h;cases e;exact go _ h
  |again c'=>exact⟨h.1,È3 h.2 λx s'' hx=>by obtain⟨rfl,hx⟩:=hx;exact go _ hx⟩
 ·exact absurd h.1 (by simp)
open AutoSeq1 (wpAny_loadPart')
theorem C60{a b c:Int}{n:Nat}(hh:A.handled=none)(hr:Õ9 s.heap r a b c t u v)(hs:Ò1 a b c=true)(hn:Ã8 a b c=n)(hl:n<=200000)
  (hQ:∀ (h':é) (tk:Nat) (acc:Array Ä),(∀ b o,s.heap.get? b=some o->h'.get? b=some o)->s.heap.objs.size<=h'.objs.size->ItemsOf (λi v=>∃ t,v=.int (a + i * c) t) acc n->Q (.ref h'.objs.size) { s with heap:=h'.push { cls:=.type "tuple",data:=.seq acc },toks:=tk }) :
  Î5 (Ô P w) A (.call (.builtin "tuple.__new__") ⟨[.type "tuple",.ref r],[]⟩) (wants Q E) s:=by
 refine à2 ?_;show Î _ A.in1 (do Õ0 "tuple.__new__" ⟨[.type "tuple",.ref r],[]⟩;again (.builtin "tuple.__new__" ⟨[.type "tuple",.ref r],[]⟩)) _ _ s;refine À (ß4 (PySem.F.newCall_tuple_1 _) (Å ⟨Î4 Ý8 _,Â2 PySem.F.entry_tuple_new ?_⟩));rw[Â8 Ý8 _];have k1:=sub_tuple_self;have k2:=init_tuple_lookup;have k3:=madeHere_tuple;have k4:s.TypeIs (.ref r) "range":=⟨_,hr,rfl⟩
 wp_walk using Ç9 k4,K60 (n:=n) (show A.in1.handled=none from hh) hr hs hn ∅
 intro h' tk acc hk hz hi;show Î _ _ (Ç0 acc.toList.toArray >>= λv=>ret v) _ _ _;unfold Ç0;rw[Ð1];refine À (å (Å (hQ h' tk acc hk hz hi)) (by show acc.size<=_;rw[hi.1,Á3];omega))
theorem tuple_range{a b c:Int}{n:Nat}(hh:A.handled=none)(hr:Õ9 s.heap r a b c t u v)(hs:Ò1 a b c=true)(hn:Ã8 a b c=n)(hl:n<=200000)
  (hQ:∀ (h':é) (tk:Nat) (acc:Array Ä),(∀ b o,s.heap.get? b=some o->h'.get? b=some o)->s.heap.objs.size<=h'.objs.size->ItemsOf (λi v=>∃ t,v=.int (a + i * c) t) acc n->Q (.ref h'.objs.size) { s with heap:=h'.push { cls:=.type "tuple",data:=.seq acc },toks:=tk }):Î (Ô P w) A (call (.type "tuple") [.ref r]) Q E s:=by
 refine callType_codes (Q₁:=λobj s₁=>s₁.TypeIs obj "tuple"/\Q obj s₁) Ó7 (PySem.F.typeCall_tuple_1 _) PySem.F.entry_object_init (C60 hh hr hs hn hl λh' tk acc hk hz hi=>⟨⟨_,Ê _ rfl,rfl⟩,hQ h' tk acc hk hz hi⟩) λobj s₁ h₁=>?_;exact⟨h₁.1,PySem.F.args_object_init_2 obj _,object_init_meets Ó7.init.lookup Ó7.made (-0) P w A.in1 _ s₁ ⟨h₁.1,rfl,h₁.2⟩⟩
end
end HT
namespace L2
open PySem PySem.Spec PyProof.Rows
theorem g90.there(x:g90 P w H h a o):∃ u,h.get? a=some u:=by
 cases o with
 |lst xs=>obtain⟨_,_,_,_,e⟩:=x;exact⟨_,e⟩
 |tup xs=>obtain⟨_,_,_,o,e,_⟩:=x;exact⟨_,e⟩
 |dK kvs=>obtain⟨_,_,_,_,o,_,_,e,_⟩:=x;exact⟨_,e⟩
 |dT kvs=>obtain⟨_,_,_,_,o,_,_,e,_⟩:=x;exact⟨_,e⟩
 |set S n=>obtain⟨o,_,_,_,e,_⟩:=x;exact⟨_,e⟩
 |ins C dx fs=>obtain⟨_,_,_,e,_⟩:=x;exact⟨_,e⟩
 |own y=>obtain⟨_,e⟩:=x;exact⟨_,e⟩
 |xd fs=>obtain⟨_,⟨_,_,_,e,_⟩,_⟩:=x;exact⟨_,e⟩
 |rng lo hi=>obtain⟨_,_,_,e⟩:=x;exact⟨_,e⟩
 |frz ob u=>obtain⟨e,_⟩:=x;exact⟨_,e⟩
 |tbl ps=>exact⟨_,(show h.get? a=some _ from x)⟩|met f y=>exact⟨_,(show h.get? a=some _ from x)⟩|ext φ=>obtain⟨_,⟨_,e⟩,_⟩:=x;exact⟨_,e⟩
def InB(B:é)(fs:List Ç)(H':Hp)(h h':é):Prop:=∀ b u,h'.get? b=some u->b ∉ fs->((∃ o,h.get? b=some o)∨H' b≠none)->B.get? b=some u
def CX1(P:Ý)(w:ç):CXT:=λouter H s E e s'=>∃ (a:Ç) (cls a0:Ä) (H':Hp) (B:é),e=.ref a/\s'.os=s.os/\Ó4 s'.gens/\Un (frs outer) [] H H' s.heap s'.heap/\HOk P w H' s'.heap /\
 é.FlyingW B outer a cls a0 s'.heap/\H' a=none/\InB B (frs outer) H' s.heap s'.heap/\E cls (some a) H'
section
variable {X:Cx}{pins:List (Ç × Obj)}{σ:St}{H H':Hp}{s s':Æ}{B h'':é}{a:Ç}{cls a0:Ä}{E:XK}
theorem Y70(hS:X.stack=X.env::X.outer)(hx:X.ex=[])(hf:X.env.frame=some X.env.locals)(I:Inv X pins σ H s)(os:s'.os=s.os)(bare:Ó4 s'.gens)(un:Un (frs X.stack) [] H H' s.heap s'.heap)(hok:HOk X.prog X.w H' s'.heap)
  (bB:InB B (frs X.stack) H' s.heap s'.heap) (na:H' a=none) (fl:é.FlyingW B X.outer a cls a0 h'') (sm:s'.heap.UpToSlots h'') (he:E cls (some a) H'):CX1 X.prog X.w X.outer X.H₀ X.s₀ E (.ref a) { s' with heap:=h'' }:=by
 have hfs:frs X.stack=X.env.locals::frs X.outer:=by rw[hS];unfold frs;rw[Á4,hf]
 have U1:=I.base;rw[hx] at U1;have U:Un (frs X.stack) [] X.H₀ H' X.s₀.heap s'.heap:=(U1.mono (λb hb=>by rw[hfs];exact È _ hb) λb hb=>hb).trans un
 have nL:∀ b o,X.s₀.heap.get? b=some o->b ∉ frs X.outer->b ∉ frs X.stack:=λb o e hn hm=>by
  rw[hfs] at hm;rcases ú.mp hm with z | z
  ·exact absurd (à e) (by rw[z];exact Nat.not_lt.mpr I.ok.above)
  ·exact hn z
 have frN:∀ b∈frs X.stack,H' b=none:=λb hb=>by
  obtain⟨_,o,ho,_⟩:=I.stack.mem hb;exact un.free b o ho (I.w30 b hb) (by simp)
 have old:∀ b o,X.s₀.heap.get? b=some o->b ∉ frs X.outer->∃ u,s'.heap.get? b=some u/\B.get? b=some u:=λb o e hn=>by
  obtain⟨o1,e1⟩:=U1.there b o e (by simp)
  obtain⟨o2,e2⟩:=un.there b o1 e1 (by simp)
  exact⟨o2,e2,bB b o2 e2 (nL b o e hn) (.inl ⟨o1,e1⟩)⟩
 have trk:∀ b,H' b≠none->∃ u,s'.heap.get? b=some u/\B.get? b=some u:=λb hb=>by
  obtain⟨o,e⟩:=Ü7.mp hb;obtain⟨u,eu⟩:=(hok b o e).there;exact⟨u,eu,bB b u eu (λhm=>by rw[frN b hm] at e;cases e) (.inr hb)⟩
 refine⟨a,cls,a0,H',B,rfl,os.trans I.os,bare,⟨λb o e n hb _=>?_,λb o e n hb _=>?_,λb o e n hb=>U.free b o e n hb,λb o e _=>?_,U.tups,U.frzs,U.tbls⟩,λc o e=>?_,fl,na,λb u e hn hor=>?_,he⟩
 ·obtain⟨u,e1,e2⟩:=old b o e hb;have e3:=U.keep b o e n (nL b o e hb) (by simp)
  rw[e1] at e3;cases e3;exact fl.1 b _ e2
 ·obtain⟨sl,e1⟩:=U.slot b o e n (by rw[hfs];exact È _ hb) (by simp)
  obtain⟨_,o',ho',hd⟩:=I.ok.k41.mem hb;rw[e] at ho';cases ho';obtain⟨sl',e2⟩:=sm b _ e1 hd;exact⟨sl',e2⟩
 ·by_cases hb:b∈frs X.outer
  ·obtain⟨_,o',ho',_⟩:=fl.2.2.1.mem hb;exact⟨o',ho'⟩
  ·obtain⟨u,_,e2⟩:=old b o e hb;exact⟨u,fl.1 b _ e2⟩
 ·refine(hok c o e).k31 (λb u hb q=>?_) (λ_ q=>q) λ_ _ q=>q;have hbn:H' b≠none:=by
   rcases hb with rfl | hb
   ·rw[e];exact λz=>nomatch z
   ·rw[hb];exact λz=>nomatch z
  obtain⟨u',e1,e2⟩:=trk b hbn;rw[q] at e1;cases e1;exact fl.1 b _ e2
 ·have:∃ u',B.get? b=some u':=by
   rcases hor with ⟨o,ho⟩ | hor
   ·obtain⟨u',_,e2⟩:=old b o ho hn;exact⟨u',e2⟩
   ·obtain⟨u',_,e2⟩:=trk b hor;exact⟨u',e2⟩
  obtain⟨u',e2⟩:=this;have e3:=fl.1 b _ e2;rw[e] at e3;cases e3;exact e2
end
section
variable {P:Ý}{w:ç}{K:Â}{mg:Str->Option Ä}{base:é}{N:List Str}{qual:Str}{scope:ý}{f:Ç}{cd:Ä}{A:ø}{outer:List Env}{s₀:Æ}{H₀:Hp}{E:XK}
theorem t81(I:Inv (F90 (CX1 P w) P w K mg base N qual scope f cd A outer s₀ H₀ E) pins σ H s)(hx:é.MadeExcOf s.heap h' e cls vs)(he:E cls (some e) H) :
  (F90 (CX1 P w) P w K mg base N qual scope f cd A outer s₀ H₀ E).xe (.ref e) { s with heap:=h' }:=by
 have hin:∀ env∈(F90 (CX1 P w) P w K mg base N qual scope f cd A outer s₀ H₀ E).stack,∀ a,env.frame=some a->a∈frs (F90 (CX1 P w) P w K mg base N qual scope f cd A outer s₀ H₀ E).stack:=λenv he a ha=>Ø0.mpr ⟨env,he,ha⟩;have kB:(hideAll s.heap (frs (F90 (CX1 P w) P w K mg base N qual scope f cd A outer s₀ H₀ E).stack)).StaysIn s.heap:=λb o q=>of_hideAll _ q;show Î _ _ (leaving _ _) _ _ _;refine wpAny_leaves_madeW (base:=hideAll s.heap (frs (F90 (CX1 P w) P w K mg base N qual scope f cd A outer s₀ H₀ E).stack)) (h:=s.heap) I.ok.frames rfl kB (PySem.W.funFrames_hide I.stack hin) hx λh'' t fl _ _ sm=>?_;have na:H e=none:=by
  cases z:H e with
  |none=>rfl|some o=>obtain⟨u,eu⟩:=(I.hok e o z).there;rw[hx.new] at eu;cases eu
 refine Y70 (X:=F90 (CX1 P w) P w K mg base N qual scope f cd A outer s₀ H₀ E) (s':={ s with heap:=h' }) rfl rfl rfl I rfl I.bare (Un.kept hx.keeps) (I.hok.kept hx.keeps) (λb u q hn hor=>?_) na fl sm he;have:∃ o,s.heap.get? b=some o:=by
  rcases hor with hor | hor
  ·exact hor
  ·obtain⟨o,z⟩:=Ü7.mp hor;exact(I.hok b o z).there
 obtain⟨o,ho⟩:=this;have:=hx.keeps b o ho;have q':h'.get? b=some u:=q;rw[this] at q';cases q';exact hideAll_get _ ho hn
theorem E72:Passes (CX1 P w) (F90 (CX1 P w) P w K mg base N qual scope f cd A outer s₀ H₀ E) E:=by
 intro pins σ H s e s' I h;obtain⟨a,cls,a0,H',B,rfl,os,bare,un,hok,fl,na,bB,he⟩:=h;show Î _ _ (leaving _ _) _ _ _;refine wpAny_leaves_onW I.ok.frames rfl fl λh'' fl' sm=>?_;exact Y70 (X:=F90 (CX1 P w) P w K mg base N qual scope f cd A outer s₀ H₀ E) (s':=s') rfl rfl rfl I os bare un hok bB na fl' sm he
end
theorem a42{K:Â}{h:é}{C:Ç}{bmB:List Ä}{newId:String}(KX:K.In h)(hq:Ì5 K C bmB newId=true) :
  ∃ bm N nm q bs hdct sn sub ab col dd k0 k1 k2 k3 k5 mN,h.get? C=some (excClassObj nm q C N bs bm hdct sn sub ab col dd k0 k1 k2 k3 k5 newId)/\h.Ns N mN/\mN "__init__"=none/\OwnTail h bmB bm:=by
 unfold Ì5 at hq;split at hq
 case h_2=>cases hq
 case h_1 dd cd sl ho =>
  split at hq
  case h_2=>cases hq
  case h_1 C' bm k0 k1 k2 k3 n k5 hm hs =>
   simp only[Á,beq_iff_eq,À3] at hq;obtain⟨⟨⟨⟨⟨z1,z2⟩,hdel⟩,ht⟩,hok⟩,hni⟩:=hq;subst z1 z2;cases cd with
   |mk nm bs mro ns qn hd sn sub ab col del =>
    dsimp only at hm hdel hok hni;subst hm hdel;have esl:sl=#[k0,k1,k2,k3,some (.builtin n),k5]:=by cases sl with | mk l=>simp only at hs;rw[hs]
    subst esl;refine⟨bm,ns,nm,qn,bs,hd,sn,sub,ab,col,dd,k0,k1,k2,k3,k5,h.nsMap ns,KX _ _ ho,?_,PySem.W.nsMap_none_of_in KX hok hni,PySem.W.tail_of_in KX ht⟩;exact .of_isNs (PySem.W.isNs_of_in KX hok)
def K70(X:Cx)(E:XK):Prop:=∀ (pins:List (Ç × Obj)) (σ:St) (H:Hp) (s:Æ) (h':é) (e:Ç) (cls:Ä) (vs:List Ä),Inv X pins σ H s->é.MadeExcOf s.heap h' e cls vs->E cls (some e) H->X.xe (.ref e) { s with heap:=h' }
theorem t91{P:Ý}{w:ç}{K:Â}{mg:Str->Option Ä}{base:é}{N:List Str}{qual:Str}{scope:ý}{f:Ç}{cd:Ä}{A:ø}{outer:List Env}{s₀:Æ}{H₀:Hp}{E:XK} :
  K70 (F90 (CX1 P w) P w K mg base N qual scope f cd A outer s₀ H₀ E) E:=λ_ _ _ _ _ _ _ _ I hx he=>t81 I hx he
def o72(E:XK)(C:Ç)(t:TA):TS:=λ_ σ H=>t σ H λvs H1=>vs.length<=Ú/\∀ e,H1 e=none->E (.ref C) (some e) H1
section
variable {X:Cx}{x:Str}{C:Ç}{E:XK}{e₀:Ï}{rest:List Ï}{t:TA}{np cpos pos:Pos}
theorem K21(hE:K70 X E)(hc:X.calm=true)(hg:Gl X x)(hm:X.mg x=some (.ref C))(hq:Ì5 X.K C [.type "ValueError",.type "Exception",.type "BaseException",.type "object"] "ValueError.__new__"=true)(ha:PA X (e₀::rest) t)
  (hdb:(x == ("__debug__":Str))=false:=by decide) (he:þ (e₀::rest) X.env=(false,eval e₀ X.env)::þ rest X.env:=by rfl) (hpl:(Õ8 cpos (þ rest X.env)).any (·.1)=false:=by rfl) :
  PS X (.Raise (some (.Call (.Name x np) (e₀::rest) [] cpos)) none pos) (o72 E C t):=by
 intro pins s σ H D I h;obtain⟨bm,N,nm,q,bs,hdct,sn,sub,ab,col,dd,k0,k1,k2,k3,k5,mN,hC,hN,hni,T⟩:=a42 I.ok.mod.kin hq;refine wpAny_Raise_call_subT (C:=C) (nm:=nm) (q:=q) (N:=N) (bs:=bs) (bm:=bm) (hdct:=hdct) (sn:=sn) (sub:=sub) (ab:=ab) (col:=col) (dd:=dd) (k0:=k0) (k1:=k1) (k2:=k2) (k3:=k3) (k5:=k5)
  Ü3 (mN:=mN) (T.hasType Ü3.hasBase) (I.ok.hd hc) (by rw[he];exact hpl) hni (I60 I hg hm ⟨rfl,?_⟩ hdb)
 have k:=ha cpos pins s σ H _ I h;rw[he] at k ⊢;refine à9 (thn k λus s2 ⟨vs,H2,I2,r,z,q⟩=>⟨rfl,by show us.length<=_;rw[← r.length];exact z,I2.bk _ _ hC,hN.keeps I2.bk,T.keeps I2.bk,λh' e hx=>?_⟩)
 refine hE pins σ H2 s2 h' e _ us I2 hx (q e ?_);cases z:H2 e with
 |none=>rfl|some o=>obtain⟨u,eu⟩:=(I2.hok e o z).there;rw[hx.new] at eu;cases eu
end
open PySem PySem.Spec PyProof.Rows PySem.W PySem.Builtin PySem.Builtin.ObjectAttr PySem.Builtin.Getset_descriptor
section
variable {prog:Ý}{w:ç}{A:ø}{E:Ä->Æ->Prop}{K:Â}{h:é}{gg:Array Ý5}{d:Drawn}{t:Nat}{os:OsState}{x D:Ç}{ox:Obj}
structure i10(K:PySem.W.Frag)(D:Addr):Prop where
 ga:findIn K (.ref D) "__getattribute__"=some (some (.builtin "BaseException.__getattribute__"))
 gh:findIn K (.ref D) "__getattr__"=some none
 mb:mroIn K D (.type "BaseException")=some true
 mo:mroIn K D (.type "object")=some true
 fc:findIn K (.ref D) "__class__"=some (some (.builtin "object.__class__"))
 fg:specialIn K (.builtin "object.__class__") "__get__"=some (some (.builtin "getset_descriptor.__get__"))
 ft:takesIn K (.builtin "object.__class__")=some true
def excAt(a D:Ç)(h:é):Prop:=∃ ox,h.get? a=some ox/\ox.cls=.ref D
theorem excAt.ty{M:Model}{a D:Ç}{h:é}(p:excAt a D h):Looks M h (typeOf (.ref a)) (.ref D):=by
 obtain⟨ox,e,c⟩:=p;rw[← c];exact(Looks.ld e).andThen .now
theorem K31{M:Model}(KX:K.In h)(L:i10 K D):Looks M h (find (.ref x) (.ref D) "__class__") (.bind (.builtin "getset_descriptor.__get__") (.builtin "object.__class__")):=by
 have l1:=looks_takesIn (M:=M) KX L.ft;have l2:Looks M h (dataDescriptor? (some (.builtin "object.__class__")) (some (.builtin "getset_descriptor.__get__"))) (some (.builtin "getset_descriptor.__get__",.builtin "object.__class__")):=l1.andThen .now;exact(looks_findIn KX L.fc).andThen ((looks_specialIn KX L.fg).andThen (l2.andThen (Looks.tag .now)))
theorem a52{R:Result->Æ->Prop}{tp:Ä}(KX:K.In h)(I:excAt x D h)(hm:mroIn K D (.type "object")=some true)(hq:R (.ok (.ret (.ref D))) ⟨h,gg,d,t,os⟩) :
  Î5 (Ô prog w) A (.call (.builtin "getset_descriptor.__get__") ⟨[.builtin "object.__class__",.ref x,tp],[]⟩) R ⟨h,gg,d,t,os⟩:=by
 have L0:=I.ty (M:=Ô prog w);have L1:=looks_mroIn (M:=Ô prog w) KX hm
 (refine Ù0 KF.slot_gs.plain KF.entry_gs (KF.slot_gs.check _ _ _ _ _ _ _ _ KF.type_class (KF.args_gs _ _ _) ?_);unfold ÿ.«getset_descriptor.__get__» descrGet;rw[dga_obj];refine À (Å ?_);unfold descrGetter descrCheckInstance descrNameAndClass isInstance;simp only[KF.owner_class];repeat lk)
 (refine⟨Ø3 _ (by decide +kernel),Â2 KF.entry_class ?_⟩;unfold ÿ.«object.__class__» shownTypeOf;repeat lk)
 exact hq
theorem u01{M:Model}{nameV:Ä}{Q:Unit->Æ->Prop}(KX:K.In h)(I:excAt x D h)(L:i10 K D)(hq:Q () ⟨h,gg,d,t,os⟩) :
  Î M A (Õ0 "BaseException.__getattribute__" ⟨[.ref x,nameV],[]⟩) Q E ⟨h,gg,d,t,os⟩:=by
 have hkd:builtinKind "BaseException.__getattribute__"=some .slot:=by decide +kernel
 have hsp:splitId "BaseException.__getattribute__"=some ("BaseException","__getattribute__"):=by decide +kernel
 have L0:=I.ty (M:=M);have L1:=looks_mroIn (M:=M) KX L.mb;have ha:=F.args_bexc_ga (.ref x) nameV;simp only[Õ0,hkd,hsp];unfold isInstance;refine À (À (L0.at (L1.at ?_)))
 repeat (first | assumption | wp_step)
theorem u11(KX:K.In h)(I:excAt x D h)(L:i10 K D)(hq:Q (.done (.ret (.ref D))) ⟨h,gg,d,t,os⟩) :
  Î (Ô prog w) A (ÿ.«object.__getattribute__» ⟨[.ref x,.str "__class__" tk],[]⟩) Q E ⟨h,gg,d,t,os⟩:=by
 have L0:=I.ty (M:=Ô prog w);have L1:=K31 (M:=Ô prog w) (x:=x) KX L
 (unfold ÿ.«object.__getattribute__»);refine À (Å (À (Å (À (L0.at (À (L1.at ?_)))))))
 show Î _ _ (Ù5 [Ð6 "object.__class__"] (call (.builtin "getset_descriptor.__get__") [.builtin "object.__class__",.ref x,.ref D]) >>= _) _ _ _;refine À (À8 (Õ7 (a52 KX I L.mo ?_)));exact Å hq
theorem K41{tk:Tok}{R:Result->Æ->Prop}(KX:K.In h)(I:excAt x D h)(L:i10 K D)(hq:R (.ok (.ret (.ref D))) ⟨h,gg,d,t,os⟩) :
  Î5 (Ô prog w) A (.call (.builtin "BaseException.__getattribute__") ⟨[.ref x,.str "__class__" tk],[]⟩) R ⟨h,gg,d,t,os⟩ :=
 Ù0 F.attr_ValueError.ga.plain F.entry_bexc_ga (u01 KX I L (u11 KX I L hq))
theorem o82{fill expr:Bool}(KX:K.In h)(I:excAt x D h)(L:i10 K D)(hq:Q (.ref D) ⟨h,gg,d,t,os⟩) :
  Î (Ô prog w) A (getAttrBy (.ref x) (.str "__class__" tk) fill expr) Q E ⟨h,gg,d,t,os⟩:=by
 have L0:=I.ty (M:=Ô prog w);have L1:=looks_findIn (M:=Ô prog w) KX L.ga;have L2:=looks_findIn (M:=Ô prog w) KX L.gh;have f3:=F.attr_ValueError.ga.bind (.ref x);have hno:(expr&&onTheHeap (Ð6 "BaseException.__getattribute__"))=false:=by cases expr <;> rfl
 unfold getAttrBy
 (refine À8 (À (L0.at (À (L1.at ?_)))));
 show Î _ _ (getAttrByItsOwn _ _ _ _ _ _) _ _ _;unfold getAttrByItsOwn hookBefore;rw[if_pos (show onTheHeap (Ã3 D)=true from rfl)];refine À (L2.at ?_);unfold callGetattribute;rw[hno,if_neg (-0)]
 unfold boundAndCalled
 (refine À (Ë3 (À8 ?_)))
 repeat (any_goals (first | assumption | (with_reducible refine Õ7 (K41 KX I L ?_)) | wp_step))
theorem K51(KX:K.In s.heap)(I:excAt x D s.heap)(L:i10 K D)(hq:Q (some (.ref D)) { s with toks:=s.toks + 1 }):Î (Ô prog w) A (getAttr? (.ref x) "__class__") Q E s:=by
 obtain⟨h,gg,d,t,os⟩:=s;unfold getAttr? getAttrBy?;refine À (wpAny_mkText (À (Ë3 (o82 KX I L ?_))));exact Å hq
theorem K61(L:i10 K D)(hd:hasDictIn K D=true):KitX K (.ref x) (.ref D) (excAt x D) where
 ty:=λ_ _ _ I=>I.ty
 it:=λM h KX _=>by
  obtain⟨cdD,hcD,_⟩:=any_some hd;unfold clsIn at hcD;split at hcD
  case h_2=>cases hcD
  case h_1 ho =>
   intro A' Q' E' s' k q;unfold isType loadHead;exact À (wpAny_loadPart (k _ _ (KX _ _ ho)) (Å q))
 ne:=λh tp dd its n sl KX htp=>by
  obtain⟨cdD,hcD,_⟩:=any_some hd;refine Bool.eq_false_iff.mpr λsame=>?_;cases Ã3.inj (beq_iff_eq.mp same);unfold clsIn at hcD;split at hcD
  case h_2=>cases hcD
  case h_1 ho=>cases (KX _ _ ho).symm.trans htp
 ca:=λKX I k=>K51 KX I L k
end
def o92(H:Hp)(a D:Ç):Prop:=H a=some (.ext (excAt a D))
theorem l81{a D:Ç}{h1 h2:é}(h:excAt a D h1)(k:∀ o,h1.get? a=some o->h2.get? a=some o):excAt a D h2:=by
 obtain⟨ox,e,c⟩:=h;exact⟨ox,k _ e,c⟩
section
variable {X:Cx}
theorem l91:g10 X (.builtin "isinstance") (λxs H Q=>∃ (a D:Ç) (c:V) (cv:Ä) (b:Bool),xs=[.ref a,c]/\((∃ C,c=.ref C/\cv=.ref C)∨∃ T,c=.ty T/\cv=.type T)/\o92 H a D/\i10 X.K D/\hasDictIn X.K D=true/\kitOne X.K (.ref D) cv=some b/\Q (.bl b) H):=by
 intro pins s σ H xs us Q I r h;obtain⟨a,D,c,cv,b,rfl,hc,hx,L,hd,e,q⟩:=h;obtain⟨u,w',rfl,rx,rt⟩:=vals2 r;cases (show u=Ã3 a from rx);obtain⟨hp,_,_⟩:=(show g90 X.prog X.w H s.heap a (.ext (excAt a D)) from I.hok a _ hx);have fin:∀ tk,EP X pins σ Q (.bool b) { s with toks:=tk }:=λtk=>⟨.bl b,H,I.tok tk,rfl,q⟩;have ew:w'=cv:=by
  rcases hc with ⟨C,rfl,rfl⟩ | ⟨T,rfl,rfl⟩
  ·exact rt
  ·exact rt
 subst ew;exact kia_one (K61 L hd) I.kIn hp e (λz=>by rcases hc with ⟨C,_,rfl⟩ | ⟨T,_,rfl⟩ <;> exact nomatch z) fin
end
end L2
namespace L2
open PySem PySem.Spec PyProof.Rows
section
variable {X:Cx}{pins:List (Ç × Obj)}{σ:St}{H H':Hp}{s s':Æ}{B h4:é}
theorem S81(I:Inv X pins σ H s)(os:s'.os=s.os)(bare:Ó4 s'.gens)(un:Un (frs X.stack) [] H H' s.heap s'.heap)(hok:HOk X.prog X.w H' s'.heap)(bB:InB B (frs X.stack) H' s.heap s'.heap)(kB:B.StaysIn h4)(sm:s'.heap.UpToSlots h4) :
  Inv X pins σ H' { s' with heap:=h4 }:=by
 have frN:∀ b∈frs X.stack,H' b=none:=λb hb=>by
  obtain⟨_,o,ho,_⟩:=I.stack.mem hb;exact un.free b o ho (I.w30 b hb) (by simp)
 have fr4:∀ b o,s.heap.get? b=some o->b∈frs X.stack->∃ sl,h4.get? b=some { o with slots:=sl }:=λb o e hb=>by
  obtain⟨sl,e1⟩:=un.slot b o e (I.w30 b hb) hb (by simp)
  obtain⟨_,o',ho',hd⟩:=I.stack.mem hb;rw[e] at ho';cases ho';obtain⟨sl',e2⟩:=sm b _ e1 hd;exact⟨sl',e2⟩
 have old:∀ b o,s.heap.get? b=some o->b ∉ frs X.stack->∃ u,s'.heap.get? b=some u/\h4.get? b=some u:=λb o e hn=>by
  obtain⟨o2,e2⟩:=un.there b o e (by simp)
  exact⟨o2,e2,kB b _ (bB b o2 e2 hn (.inl ⟨o,e⟩))⟩
 refine I.k92 (s':={ s' with heap:=h4 }) (ch:=[]) os ⟨λb o e n hb _=>?_,λb o e n hb _=>fr4 b o e hb,un.free,λb o e _=>?_,un.tups,un.frzs,un.tbls⟩ (λc o e=>?_) bare λb hb=>absurd hb (by simp)
 ·obtain⟨u,e1,e2⟩:=old b o e hb;have e3:=un.keep b o e n hb (by simp)
  rw[e1] at e3;cases e3;exact e2
 ·by_cases hb:b∈frs X.stack
  ·obtain⟨sl,e1⟩:=fr4 b o e hb;exact⟨_,e1⟩
  ·obtain⟨u,_,e2⟩:=old b o e hb;exact⟨u,e2⟩
 ·refine(hok c o e).k31 (λb u hb q=>?_) (λ_ q=>q) λ_ _ q=>q;have hbn:H' b≠none:=by
   rcases hb with rfl | hb
   ·rw[e];exact λz=>nomatch z
   ·rw[hb];exact λz=>nomatch z
  exact kB b _ (bB b u q (λhm=>hbn (frN b hm)) (.inr hbn))
theorem Inv.u21(I:Inv X pins σ H s)(hl:∀ (i:Nat) (x:Str) (v:V),X.N[i]?=some x->σ[i]?=some (some v)->Vis X.env.scope x->∃ u,RelV v u/\Look X.env s.heap m x u)
  (hn':h'.Ns X.env.locals m') (hs:Ë9 X.env.locals s.heap h') (hm:∀ (i:Nat) (x:Str),X.N[i]?=some x->m' x=m x):Inv X pins σ H { s with heap:=h',toks:=t' }:=by
 have oth:∀ b o,b≠X.env.locals->s.heap.get? b=some o->h'.get? b=some o:=λb o hb e=>(hs.2 b hb).trans e;have neL:∀ b o,X.s₀.heap.get? b=some o->b≠X.env.locals:=λb o e=>Ù (Þ (à e) I.ok.above);have cel:∀ x c v,X.env.cells.lookup x=some c->s.heap.IsCell c v->h'.IsCell c v:=λx c v e ⟨o,ho,hd⟩=>⟨o,oth c o (I.cne x c e) ho,hd⟩;refine⟨I.ok,I.os,I.bare,⟨λb o e n hb hx=>oth b o (neL b o e) (I.base.keep b o e n hb hx),λb o e n hb hx=>?_,I.base.free,λb o e hx=>?_,I.base.tups,I.base.frzs,I.base.tbls⟩,⟨m',hn',λi x v e1 e2 e3=>?_⟩,λx c e=>?_,I.free,I.freeC,λp hp=>?_,λc o e=>?_,I.len⟩
 ·obtain⟨sl,e1⟩:=I.base.slot b o e n hb hx;exact⟨sl,oth b _ (neL b o e) e1⟩
 ·obtain⟨o',e1⟩:=I.base.there b o e hx;exact⟨o',oth b _ (neL b o e) e1⟩
 ·obtain⟨u,r,l⟩:=hl i x v e1 e2 e3;refine⟨u,r,?_⟩;rcases l with ⟨k,z⟩ | ⟨k,c,ec,z⟩
  ·exact .inl ⟨k,(hm i x e1).trans z⟩
  ·exact .inr ⟨k,c,ec,cel x c _ ec z⟩
 ·obtain⟨v,z⟩:=I.cell x c e;exact⟨v,cel x c v e z⟩
 ·obtain⟨e,n,ne,nf,d⟩:=I.pin p hp;exact⟨oth _ _ ne e,n,ne,nf,d⟩
 ·refine(I.hok c o e).k31 (λb u hb q=>oth b u (λz=>?_) q) (λ_ q=>q) λ_ _ q=>q;rcases hb with rfl | hb
  ·rw[z,I.free] at e;cases e
  ·rw[z,I.free] at hb;cases hb
theorem Inv.p02{T:Ç}{o:HO}(I:Inv X pins σ H s)(nT:H T=none)(n0:X.s₀.heap.get? T=none)(hL:T≠X.env.locals)(hc:∀ x c,X.env.cells.lookup x=some c->c≠T)(hp:∀ p∈X.pn++pins,p.1≠T)(new:g90 X.prog X.w (upd H T o) s.heap T o) :
  Inv X pins σ (upd H T o) s:=by
 have u:=I.base;refine⟨I.ok,I.os,I.bare,⟨u.keep,u.slot,λb ob e n hx=>?_,u.there,λb xs e=>?_,λb ob xs e=>?_,λb ps e=>?_⟩,I.loc,I.cell,?_,λx c e=>?_,λp hpp=>?_,λc v e=>?_,I.len⟩
 ·rw[a60 (λz=>by rw[z,n0] at e;cases e)];exact u.free b ob e n hx
 ·have z:=u.tups b xs e;rw[a60 (a80 z nT)];exact z
 ·have z:=u.frzs b ob xs e;rw[a60 (a80 z nT)];exact z
 ·obtain⟨more,z⟩:=u.tbls b ps e;exact⟨more,by rw[a60 (a80 z nT)];exact z⟩
 ·rw[a60 hL.symm];exact I.free
 ·rw[a60 (hc x c e)];exact I.freeC x c e
 ·obtain⟨e,n,r⟩:=I.pin p hpp;exact⟨e,by rw[a60 (hp p hpp)];exact n,r⟩
 ·by_cases hcT:c=T
  ·subst hcT;rw[b20] at e;cases e;exact new
  ·rw[a60 hcT] at e;exact(I.hok c v e).k31 (λ_ _ _ q=>q) (λb q=>by rw[a60 (a80 q nT)];exact q) λb xs q=>by rw[a60 (a80 q nT)];exact q
end
structure m01(P:Program)(w:World)(K:PySem.W.Frag)(mg:Str->Option Value)(base:Heap)(CX:CXT)(k:Nat)(f:Addr)(fd:FuncData)(ps:List Str)(sp:Shared->Sp):Prop where
 len:∀ s vs H Q E,sp s vs H Q E->vs.length=ps.length
 run:∀ (A:Around) (outer:List Env) (s:Shared) (H:Hp) (args:Args) (us:List Value) (vs:List V) (Q:VK) (E:XK),A30 k A->X41 P w K mg base A outer s H->BindsTo s fd args (ps.zip us)->Vals vs us->sp s vs H Q E ->
  codeAny (model P w) A (.call (.ref f) args) (CR CX outer P w H s Q E) s
theorem p12{CX:CXT}{P:Ý}{w:ç}{K:Â}{mg:Str->Option Ä}{base:é}{k:Nat}{f:Ç}{name qual:Str}{params:Î3}{body:List Ä8}{scope:ý}{dV kV doc pm cdv ct oc:Ä}{an od:Option Ç}
  {osl:Array (Option Ä)}{N ps:List Str}{sp:Æ->Sp} (lk:K.lookup f=some ⟨oc,od,.func (fnOf name qual params body scope dV kV doc pm an cdv ct),osl⟩) (hcd:PySem.W.codeIn K cdv qual=true) (S:k00 N ps scope)
  (len:∀ s vs H Q E,sp s vs H Q E->vs.length=ps.length)
  (hbody:∀ (A:ø) (outer:List Env) (s:Æ) (H:Hp) (vs:List V) (Q:VK) (E:XK),A30 k (A.deeper (Ï6 qual scope s.heap.objs.size f cdv))->sp s vs H Q E ->
   ∃ t,PSs (F90 CX P w K mg base N qual scope f cdv A outer s H E) body t/\t { nx:=λ_ H'=>Q .non H',rt:=Q } (start N vs) H) :
  m01 P w K mg base CX (k + 1) f (fnOf name qual params body scope dV kV doc pm an cdv ct) ps sp:=by
 refine⟨len,λA outer s H args us vs Q E hr e0 hb r hsp=>?_⟩;have hl:=len _ _ _ _ _ hsp;have KX:K.In s.heap:=e0.mod.kin.keeps λb o e=>(e0.bs b o e).1;have lim:s.heap.NoLimit:=e0.mod.nolimit.keeps λb o e=>(e0.bs b o e).1;have hkind:∀ y∈ps.zip us,scope.names.lookup y.1=some .local∨(scope.names.lookup y.1=some .cell/\((cellsFrom (s.heap.objs.size + 1) scope.names []).lookup y.1).isSome=true):=λ⟨n,v⟩ hy=>by
  rcases S.par n (of_mem_zip hy).1 with q | q
  ·exact .inl q
  ·exact .inr ⟨q,cellsFrom_some _ _ _ (.inl q)⟩
 refine codeAny_call_function hr.depth (KX _ _ lk) rfl S.co S.gen rfl (codeRec_of KX hcd) (hb _ _ _ _ ?_);refine à5 S.kind hkind λenv he s1 x=>?_;subst he;refine⟨lim.keeps x.toInCall.keep,codeAny_func ?_⟩;obtain⟨t,ht,hq⟩:=hbody A outer s H vs Q E (hr.deeper _) hsp;have I:Inv (F90 CX P w K mg base N qual scope f cdv A outer s H E) [] (start N vs) H s1:=Q10 S hr.hd e0 hl r x;refine Â1 (ht [] s1 (start N vs) H _ I hq) (λfl s' hs=>?_) λe s' hs=>hs;have fin:∀ {σ':St}{H':Hp}{v:V}{u:Ä},Inv (F90 CX P w K mg base N qual scope f cdv A outer s H E) [] σ' H' s'->RelV v u->Q v H'->CE outer P w H s Q u s' :=
  λ{σ' H' v u} J rv q=>⟨v,H',J.os,J.bare,J.base,J.hok,rv,q⟩
 cases fl with
 |ret u =>
  obtain⟨v,σ',H',J,rv,q⟩:=hs;exact fin J rv q
 |next =>
  obtain⟨σ',H',J,q⟩:=hs;exact fin (v:=V.non) (u:=â) J rfl q
 |brk =>
  obtain⟨_,_,_,q⟩:=hs;exact À2 q
 |cont =>
  obtain⟨_,_,_,q⟩:=hs;exact À2 q
theorem Fun.okS{P:Ý}{w:ç}{K:Â}{mg:Str->Option Ä}{base:é}{x qual:Str}{st:Ä8}{f:Ç}{fd:Å2}{N ps:List Str}{k:Nat}{sp:Æ->Sp}(F:Fun K x qual st f fd)(S:k00 N ps (b90 st))(len:∀ s vs H Q E,sp s vs H Q E->vs.length=ps.length)
  (hb:∀ (cdv:Ä) (A:ø) (outer:List Env) (s:Æ) (H:Hp) (vs:List V) (Q:VK) (E:XK),A30 k (A.deeper (Ï6 qual (b90 st) s.heap.objs.size f cdv))->sp s vs H Q E ->
   ∃ t,PSs (F90 CX0 P w K mg base N qual (b90 st) f cdv A outer s H E).nox (i00 st) t/\t { nx:=λ_ H'=>Q .non H',rt:=Q } (start N vs) H):m01 P w K mg base CX0 (k + 1) f fd ps sp:=by
 obtain⟨oc,od,kV,doc,pm,an,cdv,ct,osl,rfl,lk,hcd⟩:=F.ex;refine p12 lk hcd S len λA outer s H vs Q E hr hsp=>?_;obtain⟨t,h,q⟩:=hb cdv A outer s H vs Q E hr hsp;exact⟨t,h.nox,q⟩
def R30(P:Ý)(w:ç)(K:Â)(mg:Str->Option Ä)(base:é)(N:List Str)(qual:Str)(scope:ý)(f:Ç)(cd:Ä)(cl:List (Str × Ç))(A:ø)(outer:List Env)(s:Æ)(H:Hp)(E:XK):Cx where
 prog:=P
 w:=w
 K:=K
 mg:=mg
 base:=base
 A:=A.deeper (envX qual scope s.heap.objs.size f cd cl)
 N:=N
 s₀:=s
 H₀:=H
 env:=envX qual scope s.heap.objs.size f cd cl
 outer:=outer
 stack:=envX qual scope s.heap.objs.size f cd cl::outer
 ex:=[]
 calm:=true
 fn:=λ_=>false
 pn:=[]
 xe:=λe s'=>Î (Ô P w) (A.deeper (envX qual scope s.heap.objs.size f cd cl)) (leaving (envX qual scope s.heap.objs.size f cd cl) e) (λ_ s''=>CX1 P w outer H s E e s'') (λe' s''=>CX1 P w outer H s E e' s'') s'
section
variable {P:Ý}{w:ç}{K:Â}{mg:Str->Option Ä}{base:é}{N:List Str}{qual:Str}{scope:ý}{f:Ç}{cd:Ä}{cl:List (Str × Ç)}{A:ø}{outer:List Env}{s₀:Æ}{H₀:Hp}{E:XK}
theorem a62:Passes (CX1 P w) (R30 P w K mg base N qual scope f cd cl A outer s₀ H₀ E) E:=by
 intro pins σ H s e s' I h;obtain⟨a,cls,a0,H',B,rfl,os,bare,un,hok,fl,na,bB,he⟩:=h;show Î _ _ (leaving _ _) _ _ _;refine wpAny_leaves_onW I.ok.frames rfl fl λh'' fl' sm=>?_;exact Y70 (X:=R30 P w K mg base N qual scope f cd cl A outer s₀ H₀ E) (s':=s') rfl rfl rfl I os bare un hok bB na fl' sm he
structure m21(scope:Scope)(cl:List (Str × Addr))(N:List Str)(vs:List V)(H:Hp)(h:Heap):Prop where
 inj:∀ x y c,cl.lookup x=some c->cl.lookup y=some c->x=y
 has:∀ x,(scope.names.lookup x=some .cell∨scope.names.lookup x=some .free)->∃ c,cl.lookup x=some c
 cell:∀ x c,cl.lookup x=some c->∃ v,h.IsCell c v
 free:∀ x c,cl.lookup x=some c->H c=none
 val:∀ (i:Nat) (x:Str) (v:V),N[i]?=some x->vs[i]?=some v->scope.names.lookup x=some .free/\∃ c u,cl.lookup x=some c/\RelV v u/\h.IsCell c (some u)
 len:vs.length=N.length
theorem a72(e0:X41 P w K mg base A outer s₀ H₀)(hd:A.handled=none)(hk:scope.kind=.function)(FR:m21 scope cl N vs H₀ s₀.heap)(hns:h₁.Ns s₀.heap.objs.size λ_=>none)
  (hkp:∀ b o,s₀.heap.get? b=some o->h₁.get? b=some o) :
  Inv (R30 P w K mg base N qual scope f cd cl A outer s₀ H₀ E) [] (vs.map some) H₀ { s₀ with heap:=h₁,toks:=t }:=by
 have noA:∀ b:Ç,b ∉ (R30 P w K mg base N qual scope f cd cl A outer s₀ H₀ E).ex:=λb z=>absurd (show b∈([]:List Ç) from z) (by simp)
 have cel:∀ c v,s₀.heap.IsCell c v->h₁.IsCell c v:=λc v ⟨o,ho,hd⟩=>⟨o,hkp c o ho,hd⟩;refine⟨⟨e0.mod,hk,rfl,rfl,Í _,FR.inj,FR.has,(λ_ _ z=>nomatch z),(λ_=>hd),à4 e0.frames,.inr ⟨rfl,rfl⟩,λb z=>absurd z (noA b),e0.bs,e0.bsz,λb _ _=>noA b,λb z=>absurd z (noA b),e0.k41,e0.frf⟩,
  rfl,e0.bare,Un.kept hkp,⟨_,hns,λi x v h1 h2 h3=>?_⟩,λx c h=>?_,e0.hok.fresh (Í _),FR.free,λp hp=>absurd (show p∈([]:List (Ç × Obj)) from hp) (by simp),e0.hok.kept hkp,?_⟩
 ·have hv:vs[i]?=some v:=by
   rw[Û] at h2;cases e:vs[i]? with
   |none=>rw[e] at h2;cases h2
   |some a=>rw[e] at h2;cases h2;rfl
  obtain⟨k,c,u,ec,r,z⟩:=FR.val i x v h1 hv;exact⟨u,r,.inr ⟨.inr k,c,ec,cel c _ z⟩⟩
 ·obtain⟨v,z⟩:=FR.cell x c h;exact⟨v,cel c v z⟩
 ·rw[É];exact FR.len
end
def recAt(c:Ç)(qual:Str):é->Prop:=λh=>h.CodeRec (.ref c) qual
theorem G60{c:Ç}{qual:Str}{h1 h2:é}(h:recAt c qual h1)(k:∀ o,h1.get? c=some o->h2.get? c=some o):recAt c qual h2:=by
 obtain⟨c',oc,vs,tq,e,ho,hd,hq⟩:=h;cases e;exact⟨c,oc,vs,tq,rfl,k _ ho,hd,hq⟩
section
variable {P:Ý}{w:ç}{K:Â}{mg:Str->Option Ä}{base:é}{N:List Str}{qual:Str}{scope:ý}{f c':Ç}{cl:List (Str × Ç)}{s₀:Æ}{H₀:Hp}{k:Nat}{pm ctv cls:Ä}{params:Î3}{body:Ï}{vs:List V}
theorem m21.later{outer:List Env}{H:Hp}{s:Æ}(FR:m21 scope cl N vs H₀ s₀.heap)(un:Un (frs outer) [] H₀ H s₀.heap s.heap):m21 scope cl N vs H s.heap:=by
 have cel:∀ x c v,cl.lookup x=some c->s₀.heap.IsCell c v->s.heap.IsCell c v:=λx c v e ⟨o,ho,hd⟩=>by
  obtain⟨sl,e1⟩:=un.any ho (FR.free x c e) (by simp)
  exact⟨_,e1,hd⟩
 refine⟨FR.inj,FR.has,λx c e=>?_,λx c e=>?_,λi x v h1 h2=>?_,FR.len⟩
 ·obtain⟨v,z⟩:=FR.cell x c e;exact⟨v,cel x c v e z⟩
 ·obtain⟨v,o,ho,_⟩:=FR.cell x c e;exact un.free c o ho (FR.free x c e) (by simp)
 ·obtain⟨k,c,u,ec,r,z⟩:=FR.val i x v h1 h2;exact⟨k,c,u,ec,r,cel x c _ ec z⟩
end
def Tab(H:Hp)(P:Ç)(qual:Str):Prop:=∃ ps:Array Ä,H P=some (.tbl ps)/\Þ9 ps.toList/\∀ pos c,Ù6 pos ps.toList=some c->∃ c',c=.ref c'/\H c'=some (.ext (recAt c' qual))
theorem m31{line col:Int}{pos':Pos}{c c2:Ä}(tl:List Ä)(h:Þ9 tl)(e:Ù6 pos' (tl++[Ã7 line,Ã7 col,c])=some c2):c2=c∨Ù6 pos' tl=some c2:=by
 fun_induction Þ9 tl with
 |case1 =>
  simp only[Í0,Ù6,Ã7] at e;split at e
  ·cases e;exact .inl rfl
  ·cases e
 |case2 a t b u x rest ih =>
  simp only[List.cons_append,Ù6] at e ⊢;split at e
  ·rename_i hc;rw[if_pos hc];exact .inr e
  ·rename_i hc;rw[if_neg hc];exact ih h e
 |case3 tl h1 h2=>exact h.elim
theorem K71(hf:∀ y∈lsc.names,y.2=.free->∃ c,env.cells.lookup y.1=some c):∃ cl,closureFor lsc env=pure cl/\(∀ x c,cl.lookup x=some c->env.cells.lookup x=some c)/\∀ y∈lsc.names,y.2=.free->∃ c,cl.lookup y.1=some c:=by
 obtain⟨cl,e,h1,_,h3⟩:=J30 env lsc.names [] hf (λx c z=>by simp at z)
 refine⟨cl,?_,h1,h3⟩;unfold closureFor
 first
  |(rw[show(forIn lsc.names ([]:List (Str × Ç)) _:Sem _)=_ from e];rfl)
  |(simp only[bind_pure];exact e)
structure K80(P:Addr)(H H':Hp):Prop where
 same:∀ b o,b≠P->H b=some o->H' b=some o
section
variable {X:Cx}{pins:List (Ç × Obj)}{σ:St}{H:Hp}{s:Æ}{c P:Ç}{qual:Str}{params:Î3}{body:Ï}{lsc:ý}{lpos:Pos}{A:ø}{Q:Ä->Æ->Prop}{E:Ä->Æ->Prop}
theorem K81(I:Inv X pins σ H s)(hdef:defaultsOf params X.env=([],[]))(hcode:X.env.code=.ref c)(hhd:Ä9 X.K c P=true)(TB:Tab H P qual)(hqu:X.env.qual++"<lambda>"=qual)
  (hbm:∃ bm ob,X.mg "__builtins__"=some (.ref bm)/\bm≠Í9/\X.base.get? bm=some ob/\ob.cls=.type "module"/\ob.dict=some Í9/\ob.data=.plain)
  (hfr:∀ y∈lsc.names,y.2=.free->∃ c,X.env.cells.lookup y.1=some c)
  (k:∀ (cl:List (Str × Ç)) (f c':Ç) (pm ctv:Ä) (h2:é) (tk:Tok) (H2:Hp),(∀ x c,cl.lookup x=some c->X.env.cells.lookup x=some c)->(∀ y∈lsc.names,y.2=.free->∃ c,cl.lookup y.1=some c) ->
   Inv X pins σ H2 { s with heap:=h2,toks:=tk }->Tab H2 P qual->K80 P H H2->(∃ o,h2.get? f=some o/\o.data=.func (kla_fn "<lambda>" qual params body lsc cl pm (.ref c') ctv))->H2 f=none->H2 c'=some (.ext (recAt c' qual))->s.heap.objs.size<=f ->
   Q (.ref f) { s with heap:=h2,toks:=tk }):Î (Ô X.prog X.w) A (eval (.Lambda params body lsc lpos) X.env) Q E s:=by
 refine PySem.W.kla_eval hdef ?_;rw[hqu];obtain⟨cl,ecl,cl1,cl2⟩:=K71 hfr;obtain⟨ps,hP,ht,hall⟩:=TB;have hPt:s.heap.get? P=some (È5 ps):=I.hok P _ hP;have hg:=I.mod.glob.keeps I.bk;have bsN:∀ b o,X.base.get? b=some o->b≠P:=λb o e z=>by have:=(I.bs b o e).2;rw[z,hP] at this;cases this
 have hgP:ã≠P:=by obtain⟨o,_,_,e,_⟩:=I.mod.glob;exact bsN _ o e
 obtain⟨bm,ob,b1,b2,b3,b4,b5,b6⟩:=hbm;have hbGl:bm≠mainGlobals:=λq=>by
  obtain⟨o,es,ep,e,hd,_⟩:=I.mod.glob;rw[q,e] at b3;(cases b3;rw[hd] at b6;cases b6)
 have BA:s.heap.BuiltinsAt X.mg P:=⟨bm,ob,b1,b2,hbGl,bsN _ _ b3,I.bk _ _ b3,b4,b5,b6⟩;have CH:=codeHd_of_K I.kIn hhd;cases hca:Ù6 lpos ps.toList with
 |some cv =>
  obtain⟨c',rfl,hc'⟩:=hall lpos cv hca;refine PySem.W.kla_makeFunctionHit ecl I.ok.glob hg hcode CH hPt ht hca BA λctv h' tk hk hsz=>?_;have kp:∀ b o,s.heap.get? b=some o->(h'.push { cls:=.type "function",data:=.func (kla_fn "<lambda>" qual params body lsc cl ((X.mg "__name__").getD .none) (.ref c') ctv) }).get? b=some o:=λb o e=>Ã _ (hk b o e);have nf:H h'.objs.size=none:=I.hok.fresh hsz;exact k cl h'.objs.size c' _ ctv _ tk H cl1 cl2 (I.kept (t':=tk) kp) ⟨ps,hP,ht,hall⟩ ⟨λ_ _ _ e=>e⟩ ⟨_,Ê _ rfl,rfl⟩ nf hc' hsz
 |none =>
  refine PySem.W.kla_makeFunction ecl I.ok.glob hg hcode CH hPt ht hca hgP BA λc' ctv h' tk hx hge hlt hrec htb=>?_;have lP:P < s.heap.objs.size:=à hPt;have cP:c'≠P:=Ê6 (Þ lP hge);have nC:H c'=none:=I.hok.fresh hge;have kp:∀ b o,b≠P->s.heap.get? b=some o->(h'.push (kla_obj "<lambda>" qual params body lsc cl ((X.mg "__name__").getD .none) c' ctv)).get? b=some o:=λb o hb e=>Ã _ (hx b o hb e);have tb:(h'.push (kla_obj "<lambda>" qual params body lsc cl ((X.mg "__name__").getD .none) c' ctv)).get? P=some (È5 (ps++#[Ã7 lpos.line,Ã7 lpos.col,.ref c'])):=Ã _ htb;have rc:recAt c' qual (h'.push (kla_obj "<lambda>" qual params body lsc cl ((X.mg "__name__").getD .none) c' ctv)):=G60 hrec λo q=>Ã _ q;have h2P:upd (upd H P (.tbl (ps++#[Ã7 lpos.line,Ã7 lpos.col,.ref c']))) c' (.ext (recAt c' qual)) P=some (.tbl (ps++#[Ã7 lpos.line,Ã7 lpos.col,.ref c'])):=by rw[a60 cP.symm];exact b20
  have oth:∀ b,b≠P->b≠c'->upd (upd H P (.tbl (ps++#[Ã7 lpos.line,Ã7 lpos.col,.ref c']))) c' (.ext (recAt c' qual)) b=H b:=λb h1 h2=>by rw[a60 h2,a60 h1]
  have neC:∀ b o,H b=some o->b≠c':=λb o e=>a80 e nC;have I2:Inv X pins σ (upd (upd H P (.tbl (ps++#[Ã7 lpos.line,Ã7 lpos.col,.ref c']))) c' (.ext (recAt c' qual))) { s with heap:=h'.push (kla_obj "<lambda>" qual params body lsc cl ((X.mg "__name__").getD .none) c' ctv),toks:=tk }:=by
   have nP:∀ b,H b=none->b≠P:=λb n z=>by rw[z,hP] at n;cases n
   refine I.step (g':=s.gens) (d':=s.drawn) (ch:=[]) (λb hb=>absurd hb (by simp)) (λb o _ _ _ e n=>kp b o (nP b n) e) (λb o _ _ _ e n=>⟨o.slots,kp b o (nP b n) e⟩) (λb o _ e n=>?_) (λb o _ e=>?_) (λb xs e=>?_) (λb o u e=>?_) (λb qs e=>?_) (λm hm=>?_) (λb u e=>?_) I.bare
   ·rw[oth b (nP b n) (Ù (Þ (à e) hge))];exact n
   ·by_cases hb:b=P
    ·subst hb;exact⟨_,tb⟩
    ·exact⟨o,kp b o hb e⟩
   ·rw[oth b (λz=>by rw[z,hP] at e;cases e) (neC b _ e)];exact e
   ·rw[oth b (λz=>by rw[z,hP] at e;cases e) (neC b _ e)];exact e
   ·by_cases hb:b=P
    ·subst hb;rw[hP] at e;cases e;exact⟨_,h2P⟩
    ·exact⟨#[],by rw[oth b hb (neC b _ e),e];simp⟩
   ·obtain⟨o,es,ep,ho,r⟩:=hm;exact⟨o,es,ep,kp _ o (nP _ I.free) ho,r⟩
   ·by_cases hbc:b=c'
    ·subst hbc;rw[b20] at e;cases e;obtain⟨_,oc,_,_,e1,e2,_⟩:=id rc;cases e1;exact⟨rc,⟨oc,e2⟩,λh1 h2 p kk=>G60 p kk⟩
    ·by_cases hb:b=P
     ·subst hb;rw[h2P] at e;cases e;exact tb
     ·rw[oth b hb hbc] at e;refine(I.hok b u e).k31 (λb2 u2 hb2 q=>kp b2 u2 (λz=>?_) q) (λb2 q=>?_) λb2 xs q=>?_
      ·rcases hb2 with y | y
       ·exact hb (y.symm.trans z)
       ·rw[z,hP] at y;cases y
      ·rw[oth b2 (λz=>by rw[z,hP] at q;cases q) (neC b2 _ q)];exact q
      ·rw[oth b2 (λz=>by rw[z,hP] at q;cases q) (neC b2 _ q)];exact q
  have lf:s.heap.objs.size<=h'.objs.size:=É5 (Ç5 hge hlt);refine k cl h'.objs.size c' _ ctv _ tk _ cl1 cl2 I2 ⟨_,h2P,?_,λpos cc e=>?_⟩ ⟨λb o hb e=>by rw[oth b hb (neC b _ e)];exact e⟩ ⟨_,Ê _ rfl,rfl⟩ ?_ b20 lf
  ·rw[Array.toList_append];exact TriplesOk_snoc _ _ _ _ ht
  ·rw[Array.toList_append] at e;rcases m31 _ ht e with z | z
   ·exact⟨c',z,b20⟩
   ·obtain⟨c2,rfl,hc2⟩:=hall pos cc z;exact⟨c2,rfl,by rw[oth c2 (λy=>by rw[y,hP] at hc2;cases hc2) (neC c2 _ hc2)];exact hc2⟩
  ·rw[oth _ (Ê6 (Þ lP lf)) (Ê6 hlt)];exact I.hok.fresh lf
end
def BMain(mg:Str->Option Ä)(h:é):Prop:=∃ bm ob,mg "__builtins__"=some (.ref bm)/\bm≠Í9/\h.get? bm=some ob/\ob.cls=.type "module"/\ob.dict=some Í9/\ob.data=.plain
theorem p22{P:Ý}{w:ç}{X:Cx}:Passes (CX1 P w) X (λ_ _ _=>False):=λ_ _ _ _ _ _ _ h=>by
 obtain⟨_,_,_,_,_,_,_,_,_,_,_,_,_,e⟩:=h;exact e.elim
theorem Tab.same{H H':Hp}{P:Ç}{q:Str}(t:Tab H P q)(s:a30 H H'):Tab H' P q:=by
 obtain⟨ps,e,tr,h⟩:=t;refine⟨ps,s _ _ e,tr,λpos c hc=>?_⟩;obtain⟨c',e1,e2⟩:=h pos c hc;exact⟨c',e1,s _ _ e2⟩
def FnL(P:Ý)(w:ç)(H₀:Hp)(s₀:Æ)(f:Ç)(fd:Å2):Prop:=∀ (outer:List Env) (s:Æ) (H:Hp),Un (frs outer) [] H₀ H s₀.heap s.heap->a30 H₀ H->HOk P w H s.heap->∃ c d sl,s.heap.get? f=some ⟨c,d,.func fd,sl⟩
theorem FnL.new{P:Ý}{w:ç}{H₀:Hp}{s₀:Æ}{f:Ç}{fd:Å2}(ho:∃ o,s₀.heap.get? f=some o/\o.data=.func fd)(nf:H₀ f=none):FnL P w H₀ s₀ f fd:=λouter s H un _ _=>by
 obtain⟨⟨c,d,dt,sl⟩,e,hd⟩:=ho;have hd:dt=.func fd:=hd;subst hd;obtain⟨sl,h⟩:=un.any e nf (by simp)
 exact⟨_,_,sl,h⟩
structure R40(P:Program)(w:World)(K:PySem.W.Frag)(mg:Str->Option Value)(base:Heap)(k:Nat)(f:Addr)(H₀:Hp)(s₀:Shared)(cls:Value)(RR:Hp->Prop):Prop where
 fn:∃ fd,FnL P w H₀ s₀ f fd
 run:∀ (A:Around) (outer:List Env) (s:Shared) (H:Hp),A30 k A->X41 P w K mg base A outer s H->Un (frs outer) [] H₀ H s₀.heap s.heap->a30 H₀ H ->
  codeAny (model P w) A (.call (.ref f) ⟨[],[]⟩) (CR (CX1 P w) outer P w H s (λ_ _=>False) λc _ H'=>c=cls/\RR H') s
def E82(X:Cx)(i j:Nat)(f C:Ç)(RR:Hp->Prop):TS:=λD σ H=>σ[i]?=some (some (.ref f))/\a30 X.H₀ H/\∀ a H',RR H'->H' a=none->D.nx (σ.set j (some (.ref a))) (upd H' a (.ext (excAt a C)))
section
variable {X:Cx}{k i j:Nat}{f C D:Ç}{x y z n:Str}{p1 p2 p3 p4 p5 p6 p7 p8 p9:Pos}
theorem u31(hx0:X.ex=[])(hS:X.stack=X.env::X.outer)(hf:X.env.frame=some X.env.locals)(hr:A30 k X.A)(th:R40 X.prog X.w X.K X.mg X.base k f X.H₀ X.s₀ (.ref C) RR)
  (hy:X.N[i]?=some y) (vy:Vis X.env.scope y) (dy:(y == ("__debug__":Str))=false) (cy:(y == ("__classdict__":Str))=false)
  (hg:Gl X x) (hm:X.mg x=some (.ref D)) (dx:(x == ("__debug__":Str))=false) (he:PySem.W.exmOne X.K (.ref C) (.ref D)=some true)
  (hn:X.env.kindOf n=some .local) (nN:n ∉ X.N) (dn:(n == ("__debug__":Str))=false) (hN:X.N.Nodup) (hz:X.N[j]?=some z) (lz:Loc X.env.scope z) (hfn:X.fn z=true) :
  PS X (.Try [.Expr (.Call (.Name y p1) [] [] p2) p3] [.ExceptHandler (some (.Name x p4)) (some n) [.Assign [.Name z p5] (.Name n p6) p7] p8] [] [] p9) (E82 X i j f C RR):=by
 intro pins s σ H Dd I h;obtain⟨eσ,sH,q⟩:=h;have U0:Un (frs X.stack) [] X.H₀ H X.s₀.heap s.heap:=by
  have u:=I.base;rw[hx0] at u;exact u.mono (λb hb=>by rw[hS];unfold frs;rw[Á4,hf];exact È _ hb) λb hb=>hb
 obtain⟨fd,hfd⟩:=th.fn;obtain⟨c0,d0,sl,hof⟩:=hfd X.stack s H U0 sH I.hok;have hkind:(X.env.scope.kind == .class || (X.env.scope.kind == .module&&X.env.locals != X.env.globals))=false:=by rw[I.ok.kind];rfl
 refine wpAny_Try_except (Ô7 ?_);refine wpAny_Expr_any ?_ I.quiet rfl;refine Ì0 ?_;have ld:∀ {Q:Ä->Æ->Prop}{E:Ä->Æ->Prop},Q (.ref f) s->Î (Ô X.prog X.w) X.A (eval (.Name y p1) X.env) Q E s:=λ{Q E} hq=>by
  obtain⟨m,hnm,hl⟩:=I.loc;obtain⟨u,r,l⟩:=hl i y _ hy eσ vy;cases (show u=Ã3 f from r);rcases l with ⟨hk,hv⟩ | ⟨hk,c,hc,hcell⟩
  ·exact Ñ0 (Î7 I.ok.kind hk hnm hv hq) dy
  ·rcases hk with hk | hk
   ·exact Ñ0 (Ú3 I.ok.kind hk hc hcell hq) dy
   ·exact Ñ0 (wpAny_loadName_free I.ok.kind hk hc hcell hq cy) dy
 refine ld ?_;refine PySem.W.callWith_of (P:=λh=>h.get? f=some ⟨c0,d0,.func fd,sl⟩) rfl (λh e=>⟨.frame,.inl rfl,?_⟩) (evalArgs_nil3 ⟨hof,?_⟩)
 ·exact(Î1 (part:=none) e).andThen .now
 refine Õ7 (È3 (th.run X.A X.stack s H hr I.C92 U0 sH) λr s1 hq=>?_);cases r with
 |ok fl =>
  cases fl with
  |ret u=>obtain⟨_,_,_,_,_,_,_,z⟩:=hq;exact z.elim
  |next=>exact À2 hq
  |brk=>exact À2 hq|cont=>exact À2 hq
 |error e =>
  obtain⟨a,cls,a0,H1,B,rfl,os1,bare1,un,hok,fl,na,bB,rfl,s1H⟩:=hq;have nA:s.heap.get? a=none:=by
   cases ea:s.heap.get? a with
   |none=>rfl
   |some o =>
    exfalso;obtain⟨oe,vs,hoe,_,hde,_⟩:=fl.first;by_cases hb:a∈frs X.stack
    ·obtain⟨sl',e1⟩:=un.slot a o ea (I.w30 a hb) hb (by simp)
     obtain⟨_,o',ho',hd'⟩:=I.stack.mem hb;rw[ea] at ho';cases ho';rw[hoe] at e1;cases e1;exact hd' vs hde
    ·have:=bB a oe hoe hb (.inl ⟨o,ea⟩);rw[fl.2.1] at this;cases this
  have n0:X.s₀.heap.get? a=none:=by
   cases ea:X.s₀.heap.get? a with
   |none=>rfl
   |some o =>
    obtain⟨o',e1⟩:=U0.there a o ea (by simp)
    rw[nA] at e1;cases e1
  have aL:a≠X.env.locals:=λz=>by
   obtain⟨m,⟨o,_,_,ho,_⟩,_⟩:=I.loc;rw[z,ho] at nA;cases nA
  have aC:∀ x c,X.env.cells.lookup x=some c->c≠a:=λx c e z=>by
   obtain⟨v,o,ho,_⟩:=I.cell x c e;rw[z,nA] at ho;cases ho
  have aP:∀ p∈X.pn++pins,p.1≠a:=λp hp z=>by
   have:=(I.pin p hp).1;rw[z,nA] at this;cases this
  refine wpAny_looks_onW (I.ok.frames.trans (by rw[hS])) hf (by rw[← hS];exact fl) λh2 held2 sm2=>?_
  refine wpAny_landsW held2 λh3 fl3 sm3=>?_;have I3:Inv X pins σ H1 { s1 with heap:=h3 }:=S81 I os1 bare1 un hok bB fl3.1 (sm2.trans sm3);have at3:excAt a C h3:=by obtain⟨oe,e1,e2⟩:=fl3.there;exact⟨oe,e1,e2⟩
  refine wpAny_handleBy_cons (codeAny_handlers_test ?_) (λz=>nomatch z);refine Ï3 I3.ok.kind hg (ß8 (by rw[I3.ok.glob];exact I3.mod.glob.keeps I3.bk) hm ?_) dx
  refine(PySem.W.exm_one (h:=h3) I3.kIn at3.ty he).here ?_;refine codeAny_handlers_suite_as (lands_againW fl3 λh4 fl4 sm4=>?_);have I4:Inv X pins σ H1 { s1 with heap:=h4 }:=S81 I os1 bare1 un hok bB fl4.1 ((sm2.trans sm3).trans sm4);have at4:excAt a C h4:=by obtain⟨oe,e1,e2⟩:=fl4.there;exact⟨oe,e1,e2⟩
  obtain⟨m4,hn4,hl4⟩:=id I4.loc;refine wpAny_storeName_local hn hn4 (λh5 hn5 hs5=>?_) hkind;have offN:∀ (i:Nat) (x:Str),X.N[i]?=some x->x≠n:=λi x e z=>nN (by rw[← z];exact í e)
  have I5:Inv X pins σ H1 { s1 with heap:=h5,toks:=s1.toks + 1 }:=Inv.u21 (s:={ s1 with heap:=h4 }) I4 hl4 hn5 hs5 λi x e=>if_neg (offN i x e);refine Ô7 (wpAny_Assign_Name ?_ rfl);refine Ñ0 (Î7 I.ok.kind hn hn5 (if_pos rfl) ?_) dn;refine B70 (v:=.ref a) I5 hN hz lz rfl (λs6 I6 hsame=>?_) (.inl hfn);refine Ï4 ?_;show Î _ _ (do bindName X.env n .none;unbindBehindTheSuite X.env n p8) _ _ _;obtain⟨m6,hn6,hl6⟩:=id I6.loc;refine wpAny_nameGoes_keeps hn hn6 hkind λh7 v7 hn7 hs7=>?_;have I7:=Inv.u21 (t':=s6.toks + 1) I6 hl6 hn7 hs7 λi x e=>if_neg (offN i x e);have at7:excAt a C h7:=by
   obtain⟨oe,e1,e2⟩:=at4;obtain⟨b6,hb6,hor⟩:=hsame;have e5:h5.get? a=some oe:=(hs5.2 a aL).trans e1;have e6:s6.heap.get? a=some oe:=(hb6.2 a (λz=>by
    rcases hor with y | y
    ·exact aL (z.trans y)
    ·exact aC _ _ y z.symm)).trans e5
   exact⟨oe,(hs7.2 a aL).trans e6,e2⟩
  have nT:H1 a=none:=na;have I8:=Inv.p02 (T:=a) (o:=.ext (excAt a C)) I7 nT n0 aL aC aP ⟨at7,by obtain⟨oe,e1,_⟩:=at7;exact⟨oe,e1⟩,λh1 h2 p kk=>l81 p kk⟩
  exact⟨_,_,I8,q a H1 s1H na⟩
end
section
variable {P:Ý}{w:ç}{K:Â}{mg:Str->Option Ä}{base:é}{N:List Str}{qual:Str}{scope:ý}{f c':Ç}{cl:List (Str × Ç)}{s₀:Æ}{H₀:Hp}{k:Nat}{pm ctv cls:Ä}{params:Î3}{body:Ï}{vs:List V}
theorem m41{RR:Hp->Prop}(hf:FnL P w H₀ s₀ f (kla_fn "<lambda>" qual params body scope cl pm (.ref c') ctv))(hc:H₀ c'=some (.ext (recAt c' qual)))
  (hk:scope.kind=.function) (hco:scope.isCoroutine=false) (hgen:scope.isGenerator=false) (hcell:∀ x∈scope.names,x.2≠.cell)
  (hb:bindArgs (kla_fn "<lambda>" qual params body scope cl pm (.ref c') ctv) ⟨[],[]⟩=pure []) (FR:m21 scope cl N vs H₀ s₀.heap)
  (hbody:∀ (A:ø) (outer:List Env) (s:Æ) (H:Hp),A30 k (A.deeper (envX qual scope s.heap.objs.size f (.ref c') cl))->a30 H₀ H ->
   ∃ t,PE (R30 P w K mg base N qual scope f (.ref c') cl A outer s H λc _ H'=>c=cls/\RR H') body t/\t (vs.map some) H λ_ _=>False) :
  R40 P w K mg base (k + 1) f H₀ s₀ cls RR:=by
 refine⟨⟨_,hf⟩,λA outer s H hr e0 un sm=>?_⟩;obtain⟨c0,d0,sl,hof⟩:=hf outer s H un sm e0.hok;have hrec:s.heap.CodeRec (.ref c') qual:=(e0.hok c' _ (sm _ _ hc)).1;have lim:s.heap.NoLimit:=e0.mod.nolimit.keeps λb o e=>(e0.bs b o e).1;refine PySem.W.kla_callFunE hr.depth hof rfl hco hgen rfl hrec ?_;rw[hb];refine Å (wpAny_newFunctionEnv hcell (λy hy=>absurd hy (by simp)) (λh₁ hns hsb=>⟨lim.fresh _ hsb,?_⟩) hk)
 show Î5 _ _ (.expr body (envX qual scope s.heap.objs.size f (.ref c') cl)) _ _;have hkeep1:∀ b o,s.heap.get? b=some o->h₁.get? b=some o:=λb o e=>hsb.extBut b o (Ù (à e)) (Ã _ e);obtain⟨t,ht,hq⟩:=hbody A outer s H (hr.deeper _) sm;have I:Inv (R30 P w K mg base N qual scope f (.ref c') cl A outer s H λc _ H'=>c=cls/\RR H') [] (vs.map some) H { s with heap:=h₁,toks:=s.toks + 0 }:=a72 e0 hr.hd hk (FR.later un) hns hkeep1;refine PySem.W.kla_codeExpr (Â1 (ht [] _ _ H _ I hq) (λv s' hv=>?_) λe s' he=>he);obtain⟨_,_,_,_,z⟩:=hv;exact z.elim
end
def E92(X:Cx)(P:Ç)(qual:Str)(N:List Str)(lsc:ý)(body:Ï)(k:Nat)(cls:Ä)(RR:Hp->Hp->Prop)(sp:Æ->Sp):TE:=λσ H Q=>Tab H P qual/\∃ vs:List V,vs.length=N.length /\
 (∀ (i:Nat) (x:Str) (v:V),N[i]?=some x->vs[i]?=some v->∃ j:Nat,X.N[j]?=some x/\σ[j]?=some (some v)) /\
 ∀ H2,K80 P H H2->Tab H2 P qual ->
  (∀ (f c':Ç) (cl:List (Str × Ç)) (A:ø) (outer:List Env) (s:Æ) (H3:Hp),A30 k (A.deeper (envX qual lsc s.heap.objs.size f (.ref c') cl))->a30 H2 H3 ->
   ∃ t,PE (R30 X.prog X.w X.K X.mg X.base N qual lsc f (.ref c') cl A outer s H3 λc _ H'=>c=cls/\RR H2 H') body t/\t (vs.map some) H3 λ_ _=>False) /\
  ∀ (s2:Æ) (f:Ç),R40 X.prog X.w X.K X.mg X.base (k + 1) f H2 s2 cls (RR H2)->sp s2 [.ref f] H2 Q λ_ _ _=>False
section
variable {X:Cx}{c P f:Ç}{fd:Å2}{qual g par:Str}{N:List Str}{params:Î3}{body:Ï}{lsc:ý}{lpos p pos:Pos}{k kr:Nat}{cls:Ä}{sp:Æ->Sp}
theorem Y80{RR:Hp->Hp->Prop}(F:m01 X.prog X.w X.K X.mg X.base CX0 kr f fd [par] sp)(hr:A30 kr X.A)(hg:Gl X g)(hm:X.mg g=some (.ref f))(hk:Ó6 X.K (.ref f)=true)(hb:Binds X.K fd [par] [])
  (hcode:X.env.code=.ref c) (hhd:Ä9 X.K c P=true) (hqu:X.env.qual++"<lambda>"=qual)
  (hbm:∃ bm ob,X.mg "__builtins__"=some (.ref bm)/\bm≠Í9/\X.base.get? bm=some ob/\ob.cls=.type "module"/\ob.dict=some Í9/\ob.data=.plain)
  (hfr:∀ y∈lsc.names,y.2=.free->X.env.kindOf y.1=some .cell) (hnc:∀ y∈lsc.names,y.2≠.cell) (hNf:∀ x∈N,lsc.names.lookup x=some .free)
  (lk:lsc.kind=.function) (lco:lsc.isCoroutine=false) (lge:lsc.isGenerator=false) (hdef:defaultsOf params X.env=([],[]))
  (hbd:∀ (cl:List (Str × Ç)) (pm ctv:Ä) (c':Ç),bindArgs (kla_fn "<lambda>" qual params body lsc cl pm (.ref c') ctv) ⟨[],[]⟩=pure [])
  (hdb:(g == ("__debug__":Str))=false:=by decide) (he:þ [.Lambda params body lsc lpos] X.env=[(false,eval (.Lambda params body lsc lpos) X.env)]:=by rfl) :
  PE X (.Call (.Name g p) [.Lambda params body lsc lpos] [] pos) (E92 X P qual N lsc body k cls RR sp):=by
 intro pins s σ H Q I h;obtain⟨TB,vs,hlen,hvs,q⟩:=h;refine Ì0 (I60 I hg hm ?_ hdb);refine callWith_K (h₀:=X.base) I.ok.mod.kin hk ?_ he rfl;rw[he];refine Ö7 (K81 I hdef hcode hhd TB hqu hbm (λy hy hf=>I.ok.has y.1 (.inl (hfr y hy hf))) λcl f' c' pm ctv h2 tk H2 cl1 cl2 I2 TB2 KB ho nf hc _=>?_);have FR:m21 lsc cl N vs H2 h2:=by
  refine⟨λx y c e1 e2=>I2.ok.inj x y c (cl1 x c e1) (cl1 y c e2),λx hx=>?_,λx c e=>I2.cell x c (cl1 x c e),λx c e=>I2.freeC x c (cl1 x c e),λi x v h1 h2=>?_,hlen⟩
  ·rcases hx with hx | hx
   ·exact absurd rfl (hnc _ (Â4 hx))
   ·exact cl2 _ (Â4 hx) rfl
  ·have hf:=hNf x (í h1);have mem:=Â4 hf;have kc:X.env.kindOf x=some .cell:=hfr _ mem rfl;obtain⟨j,e1,e2⟩:=hvs i x v h1 h2;obtain⟨m,_,hl⟩:=I2.loc;obtain⟨u,r,l⟩:=hl j x v e1 e2 (Ù7 (Ò3 kc));obtain⟨c2,ec2⟩:=cl2 _ mem rfl;refine⟨hf,c2,u,ec2,r,?_⟩;rcases l with ⟨kl,_⟩ | ⟨_,c3,ec3,z⟩
   ·rw[kc] at kl;cases kl
   ·have:=cl1 _ _ ec2;rw[ec3] at this;cases this;exact z
 obtain⟨q1,q2⟩:=q H2 KB TB2;have th:R40 X.prog X.w X.K X.mg X.base (k + 1) f' H2 { s with heap:=h2,toks:=tk } cls (RR H2):=m41 (s₀:={ s with heap:=h2,toks:=tk }) (.new ho nf) hc lk lco lge hnc (hbd cl pm ctv c') FR λA outer s H3 hr sm=>q1 f' c' cl A outer s H3 hr sm;refine Ð3 ⟨I2.kIn,?_⟩;have hsp:=q2 { s with heap:=h2,toks:=tk } f' th;refine Õ7 (È3 (F.run X.A X.stack { s with heap:=h2,toks:=tk } H2 ⟨[.ref f'],[]⟩ [.ref f'] [.ref f'] Q _ hr I2.C92 (hb _ [.ref f'] I2.kIn rfl) (.cons rfl .nil) hsp) λr s' hq=>?_);cases r with
 |error e=>exact À2 hq
 |ok fl =>
  cases fl with
  |ret u=>exact I2.after hq|next=>exact À2 hq
  |brk=>exact À2 hq|cont=>exact À2 hq
end
abbrev z82:List Str:=["_law_call","_law_error","_law_marks"]
abbrev p32:Scope:={ kind:=.function,names:=[(".0",.local),("_law_k",.local),("_law_marks",.free)],isGenerator:=false,isCoroutine:=false,more:=[] }
abbrev u40:Scope:={ kind:=.function,names:=[("_law_call",.local),("_law_error",.local),("e",.local),("_law_marks",.cell),("ChanceError",.globalImplicit),("isinstance",.globalImplicit),("NoWeb",.globalImplicit),("NoLot",.globalImplicit),("NoPlaces",.globalImplicit),("NoPlace",.globalImplicit),("NoTie",.globalImplicit),("NoChance",.globalImplicit),("NoChances",.globalImplicit),("NoPaper",.globalImplicit),("TooMany",.globalImplicit),("NoText",.globalImplicit),("NoLine",.globalImplicit),("NoDeed",.globalImplicit),("ValueError",.globalImplicit),("range",.globalImplicit)],isGenerator:=false,isCoroutine:=false,more:=[("fast",.str "_law_call"),("fast",.str "_law_error"),("fast",.str "e"),("fast",.str "_law_marks"),("fast",.str "_law_k")] }
def Y90(n:Nat):List Stmt:=[.Assign [(.Name "_law_error" ⟨n,4,n,14⟩)] (.Constant .none 0 ⟨n,17,n,21⟩) ⟨n,4,n,21⟩,
   .Try [.Expr (.Call (.Name "_law_call" ⟨n + 2,8,n + 2,17⟩) [] [] ⟨n + 2,8,n + 2,19⟩) ⟨n + 2,8,n + 2,19⟩] [.ExceptHandler (some (.Name "ChanceError" ⟨n + 3,11,n + 3,22⟩)) (some "e") [.Assign [(.Name "_law_error" ⟨n + 4,8,n + 4,18⟩)] (.Name "e" ⟨n + 4,21,n + 4,22⟩) ⟨n + 4,8,n + 4,22⟩] ⟨n + 3,4,n + 4,22⟩] [] [] ⟨n + 1,4,n + 4,22⟩,
   .Assign [(.Name "_law_marks" ⟨n + 5,4,n + 5,14⟩)] (.List [(.Call (.Name "isinstance" ⟨n + 5,18,n + 5,28⟩) [(.Name "_law_error" ⟨n + 5,29,n + 5,39⟩),(.Name "NoWeb" ⟨n + 5,41,n + 5,46⟩)] [] ⟨n + 5,18,n + 5,47⟩),(.Call (.Name "isinstance" ⟨n + 5,49,n + 5,59⟩) [(.Name "_law_error" ⟨n + 5,60,n + 5,70⟩),(.Name "NoLot" ⟨n + 5,72,n + 5,77⟩)] [] ⟨n + 5,49,n + 5,78⟩),(.Call (.Name "isinstance" ⟨n + 5,80,n + 5,90⟩) [(.Name "_law_error" ⟨n + 5,91,n + 5,101⟩),(.Name "NoPlaces" ⟨n + 5,103,n + 5,111⟩)] [] ⟨n + 5,80,n + 5,112⟩)] ⟨n + 5,17,n + 5,113⟩) ⟨n + 5,4,n + 5,113⟩,
   .Assign [(.Name "_law_marks" ⟨n + 6,4,n + 6,14⟩)] (.BinOp (.Name "_law_marks" ⟨n + 6,17,n + 6,27⟩) .Add (.List [(.Call (.Name "isinstance" ⟨n + 6,31,n + 6,41⟩) [(.Name "_law_error" ⟨n + 6,42,n + 6,52⟩),(.Name "NoPlace" ⟨n + 6,54,n + 6,61⟩)] [] ⟨n + 6,31,n + 6,62⟩),(.Call (.Name "isinstance" ⟨n + 6,64,n + 6,74⟩) [(.Name "_law_error" ⟨n + 6,75,n + 6,85⟩),(.Name "NoTie" ⟨n + 6,87,n + 6,92⟩)] [] ⟨n + 6,64,n + 6,93⟩),(.Call (.Name "isinstance" ⟨n + 6,95,n + 6,105⟩) [(.Name "_law_error" ⟨n + 6,106,n + 6,116⟩),(.Name "NoChance" ⟨n + 6,118,n + 6,126⟩)] [] ⟨n + 6,95,n + 6,127⟩)] ⟨n + 6,30,n + 6,128⟩) ⟨n + 6,17,n + 6,128⟩) ⟨n + 6,4,n + 6,128⟩,
   .Assign [(.Name "_law_marks" ⟨n + 7,4,n + 7,14⟩)] (.BinOp (.Name "_law_marks" ⟨n + 7,17,n + 7,27⟩) .Add (.List [(.Call (.Name "isinstance" ⟨n + 7,31,n + 7,41⟩) [(.Name "_law_error" ⟨n + 7,42,n + 7,52⟩),(.Name "NoChances" ⟨n + 7,54,n + 7,63⟩)] [] ⟨n + 7,31,n + 7,64⟩),(.Call (.Name "isinstance" ⟨n + 7,66,n + 7,76⟩) [(.Name "_law_error" ⟨n + 7,77,n + 7,87⟩),(.Name "NoPaper" ⟨n + 7,89,n + 7,96⟩)] [] ⟨n + 7,66,n + 7,97⟩),(.Call (.Name "isinstance" ⟨n + 7,99,n + 7,109⟩) [(.Name "_law_error" ⟨n + 7,110,n + 7,120⟩),(.Name "TooMany" ⟨n + 7,122,n + 7,129⟩)] [] ⟨n + 7,99,n + 7,130⟩)] ⟨n + 7,30,n + 7,131⟩) ⟨n + 7,17,n + 7,131⟩) ⟨n + 7,4,n + 7,131⟩,
   .Assign [(.Name "_law_marks" ⟨n + 8,4,n + 8,14⟩)] (.BinOp (.Name "_law_marks" ⟨n + 8,17,n + 8,27⟩) .Add (.List [(.Call (.Name "isinstance" ⟨n + 8,31,n + 8,41⟩) [(.Name "_law_error" ⟨n + 8,42,n + 8,52⟩),(.Name "NoText" ⟨n + 8,54,n + 8,60⟩)] [] ⟨n + 8,31,n + 8,61⟩),(.Call (.Name "isinstance" ⟨n + 8,63,n + 8,73⟩) [(.Name "_law_error" ⟨n + 8,74,n + 8,84⟩),(.Name "NoLine" ⟨n + 8,86,n + 8,92⟩)] [] ⟨n + 8,63,n + 8,93⟩),(.Call (.Name "isinstance" ⟨n + 8,95,n + 8,105⟩) [(.Name "_law_error" ⟨n + 8,106,n + 8,116⟩),(.Name "NoDeed" ⟨n + 8,118,n + 8,124⟩)] [] ⟨n + 8,95,n + 8,125⟩)] ⟨n + 8,30,n + 8,126⟩) ⟨n + 8,17,n + 8,126⟩) ⟨n + 8,4,n + 8,126⟩,
   .If (.UnaryOp .Not (.Call (.Name "isinstance" ⟨n + 9,11,n + 9,21⟩) [(.Name "_law_error" ⟨n + 9,22,n + 9,32⟩),(.Name "ValueError" ⟨n + 9,34,n + 9,44⟩)] [] ⟨n + 9,11,n + 9,45⟩) ⟨n + 9,7,n + 9,45⟩) [.Return (some (.Constant .none 0 ⟨n + 10,15,n + 10,19⟩)) ⟨n + 10,8,n + 10,19⟩] [] ⟨n + 9,4,n + 10,19⟩,
   .Return (some (.ListComp (.Name "_law_k" ⟨n + 11,12,n + 11,18⟩) [{ target:=(.Name "_law_k" ⟨n + 11,23,n + 11,29⟩),iter:=(.Call (.Name "range" ⟨n + 11,33,n + 11,38⟩) [(.Constant (.int 12) 0 ⟨n + 11,39,n + 11,41⟩)] [] ⟨n + 11,33,n + 11,42⟩),ifs:=[(.Subscript (.Name "_law_marks" ⟨n + 11,46,n + 11,56⟩) (.Name "_law_k" ⟨n + 11,57,n + 11,63⟩) ⟨n + 11,46,n + 11,64⟩)],is_async:=0 }] p32 ⟨n + 11,11,n + 11,65⟩)) ⟨n + 11,4,n + 11,65⟩]
theorem p42:t31 p32 u40 z82 ["_law_k"] [("_law_marks",2)]=true:=by decide +kernel
theorem K91(K:Â)(hK:X.K=K:=by rfl):IxR X (D32 K):=by subst hK;exact X80
abbrev names12:List Str:=["NoWeb","NoLot","NoPlaces","NoPlace","NoTie","NoChance","NoChances","NoPaper","TooMany","NoText","NoLine","NoDeed"]
structure R50(K:PySem.W.Frag)(mg:Str->Option Value)(C:Addr)(j:Nat):Prop where
 cl:∀ (i:Nat) (x:Str),names12[i]?=some x->∃ Ci,mg x=some (.ref Ci)/\PySem.W.kitOne K (.ref C) (.ref Ci)=some (decide (i=j))
 lk:i10 K C
 hd:PySem.W.hasDictIn K C=true
 ve:PySem.W.kitOne K (.ref C) (.type "ValueError")=some true
 nv:mg "ValueError"=none
 ce:∃ D,mg "ChanceError"=some (.ref D)/\PySem.W.exmOne K (.ref C) (.ref D)=some true
 lt:j < 12
theorem R60:ï "ValueError"=some (.type "ValueError"):=by decide +kernel
theorem K90:ï "isinstance"=some (.builtin "isinstance"):=by decide +kernel
def a82(P:Ý)(w:ç)(K:Â)(mg:Str->Option Ä)(base:é)(k:Nat):Æ->Sp:=λs vs H Q _=>∃ (f C:Ç) (j:Nat) (RR:Hp->Prop),vs=[.ref f]/\R40 P w K mg base k f H s (.ref C) RR/\R50 K mg C j/\∀ l H1 H',RR H1->a30 H1 H'->H' l=none->Q (.ref l) (upd H' l (.lst [.int j]))
abbrev C70(j:Nat):List V:=[V.bl (decide (0=j)),.bl (decide (1=j)),.bl (decide (2=j))]++[.bl (decide (3=j)),.bl (decide (4=j)),.bl (decide (5=j))]++[.bl (decide (6=j)),.bl (decide (7=j)),.bl (decide (8=j))]++[.bl (decide (9=j)),.bl (decide (10=j)),.bl (decide (11=j))]
theorem L01{i j:Nat}(h:i < 12):atI (C70 j) (0 + (i:Int))=some (.bl (decide (i=j))):=by
 rw[Ô0];refine w50 ?_;rw[show C70 j=(ì 12).map λi=>V.bl (decide (i=j)) from rfl,Û,É9 h];rfl
section
variable {P:Ý}{w:ç}{K:Â}{mg:Str->Option Ä}{base:é}
theorem scR:k00 z82 ["_law_call"] u40:=⟨rfl,rfl,rfl,by decide +kernel,rfl,by decide +kernel,by decide +kernel⟩
theorem ndR:(d10 ["_law_k"] [("_law_marks",2)]).Nodup:=by decide +kernel
def tIs(K:Â)(c:V)(cv:Ä):TE:=λσ H Q=>∃ (a C:Ç) (b:Bool),σ[1]?=some (some (.ref a))/\o92 H a C/\i10 K C/\PySem.W.hasDictIn K C=true/\Î0 K (.ref C) cv=some b/\Q (.bl b) H
def T52(K:Â)(c0 c1 c2:Ç):TE:=λσ H Q=>∃ (a C:Ç) (b0 b1 b2:Bool),σ[1]?=some (some (.ref a))/\o92 H a C/\i10 K C/\PySem.W.hasDictIn K C=true/\Î0 K (.ref C) (.ref c0)=some b0/\Î0 K (.ref C) (.ref c1)=some b1/\Î0 K (.ref C) (.ref c2)=some b2/\∀ l,H l=none->Q (.ref l) (upd H l (.lst [.bl b0,.bl b1,.bl b2]))
section
variable {X:Cx}{c0 c1 c2:Ç}{x x0 x1 x2:Str}{p p0 p1 p2 p3 q0 q1 q2 q3 r0 r1 r2 r3:Pos}
theorem L11(hN:X.N[1]?=some ("_law_error":Str))(hv:Vis X.env.scope "_law_error")(hi:Gl X "isinstance")(Ti:X.mg "isinstance"=none)(hc:PE X (.Name x p2) (tC c))(hcv:(∃ C,c=.ref C/\cv=.ref C)∨∃ T,c=.ty T/\cv=.type T):PE X (.Call (.Name "isinstance" p0) [.Name "_law_error" p1,.Name x p2] [] p3) (tIs X.K c cv) :=
 λpins s σ H Q I q=>by
  obtain⟨a,C,b,e,h1,h2,h3,h4,h5⟩:=q;have g:=t90 (p:=p0) (pos:=p3) l91 hi Ti K90 (e20 (t60 (i:=1) (pos:=p1) hN hv) (e20 hc t80));exact g pins s σ H Q I ⟨_,e,a,C,_,_,b,rfl,hcv,h1,h2,h3,h4,h5⟩
theorem e81(hN:X.N[1]?=some ("_law_error":Str))(hv:Vis X.env.scope "_law_error")(hi:Gl X "isinstance")(Ti:X.mg "isinstance"=none)(g0:PE X (.Name x0 p2) (tC (.ref c0)))(g1:PE X (.Name x1 q2) (tC (.ref c1)))(g2:PE X (.Name x2 r2) (tC (.ref c2))) :
  PE X (.List [.Call (.Name "isinstance" p0) [.Name "_law_error" p1,.Name x0 p2] [] p3,.Call (.Name "isinstance" q0) [.Name "_law_error" q1,.Name x1 q2] [] q3,.Call (.Name "isinstance" r0) [.Name "_law_error" r1,.Name x2 r2] [] r3] p) (T52 X.K c0 c1 c2) :=
 λpins s σ H Q I q=>by
  obtain⟨a,C,b0,b1,b2,e,h1,h2,h3,k0,k1,k2,h5⟩:=q;exact S21 (e20 (L11 hN hv hi Ti g0 (.inl ⟨c0,rfl,rfl⟩)) (e20 (L11 hN hv hi Ti g1 (.inl ⟨c1,rfl,rfl⟩)) (e20 (L11 hN hv hi Ti g2 (.inl ⟨c2,rfl,rfl⟩)) t80))) pins s σ H Q I
   ⟨a,C,b0,e,h1,h2,h3,k0,a,C,b1,e,h1,h2,h3,k1,a,C,b2,e,h1,h2,h3,k2,C50 (by show 3<=64;decide),h5⟩
end
theorem p52{st:Ä8}{f:Ç}{fd:Å2}{k n:Nat}(F:Fun K "_law_refused" "_law_refused" st f fd)(es:b90 st=u40)(eb:i00 st=Y90 n)(Ti:mg "isinstance"=none)(Tr:mg "range"=none):m01 P w K mg base CX0 (k + 1) f fd ["_law_call"] (a82 P w K mg base k):=by
 refine F.okS (by rw[es];exact scR) (λs vs H Q E h=>?_) (λcdv A outer s H vs Q E hr h=>?_)
 ·obtain⟨f,C,j,RR,rfl,_⟩:=h;rfl
 ·obtain⟨g,C,j,RR,rfl,th,R,q⟩:=h;have hsc:=p42;rw[es] at hr;rw[es,eb];unfold Y90;clear eb;obtain⟨c0,m0,k0⟩:=R.cl 0 _ rfl;obtain⟨c1,m1,k1⟩:=R.cl 1 _ rfl;obtain⟨c2,m2,k2⟩:=R.cl 2 _ rfl;obtain⟨c3,m3,k3⟩:=R.cl 3 _ rfl;obtain⟨c4,m4,k4⟩:=R.cl 4 _ rfl;obtain⟨c5,m5,k5⟩:=R.cl 5 _ rfl;obtain⟨c6,m6,k6⟩:=R.cl 6 _ rfl;obtain⟨c7,m7,k7⟩:=R.cl 7 _ rfl;obtain⟨c8,m8,k8⟩:=R.cl 8 _ rfl;obtain⟨c9,m9,k9⟩:=R.cl 9 _ rfl;obtain⟨c10,m10,k10⟩:=R.cl 10 _ rfl;obtain⟨c11,m11,k11⟩:=R.cl 11 _ rfl;obtain⟨D,mD,kD⟩:=R.ce;refine⟨_,j40 (y10 (i:=1) scR.nd rfl (Ò3 rfl) p81)
   (j40 (u31 (i:=0) (j:=1) (f:=g) (C:=C) (D:=D) (k:=k) rfl rfl rfl hr th rfl (Ò3 rfl) (-0) (-0) rfl mD (-0) kD rfl (by show ¬ (("e":Str)∈z82);decide +kernel) (-0) scR.nd rfl (Ò3 rfl) rfl)
   (j40 (y10 (i:=2) scR.nd rfl (Ù7 rfl) (e81 rfl (Ò3 rfl) rfl Ti (f40 rfl m0 rfl) (f40 rfl m1 rfl) (f40 rfl m2 rfl)))
   (j40 (y10 (i:=2) scR.nd rfl (Ù7 rfl) (H01 r41 (pv 2) (e81 rfl (Ò3 rfl) rfl Ti (f40 rfl m3 rfl) (f40 rfl m4 rfl) (f40 rfl m5 rfl))))
   (j40 (y10 (i:=2) scR.nd rfl (Ù7 rfl) (H01 r41 (pv 2) (e81 rfl (Ò3 rfl) rfl Ti (f40 rfl m6 rfl) (f40 rfl m7 rfl) (f40 rfl m8 rfl))))
   (j40 (y10 (i:=2) scR.nd rfl (Ù7 rfl) (H01 r41 (pv 2) (e81 rfl (Ò3 rfl) rfl Ti (f40 rfl m9 rfl) (f40 rfl m10 rfl) (f40 rfl m11 rfl))))
   (j40 (l52 (R61 (p91 (L11 (cv:=.type "ValueError") rfl (Ò3 rfl) rfl Ti (I70 (v:=.ty "ValueError") rfl R.nv R60 rfl) (.inr ⟨_,rfl,rfl⟩)))) (q11 (d61 p81)) q01)
   (q11 (d61 (s01 (own:=["_law_k"]) (capt:=[("_law_marks",2)]) rfl (by exact r30.of (scX:=u40) (N:=z82) rfl rfl hsc) (P30 rfl Tr (e20 P10 t80))
    (λcl C s H fp=>q31 (i:=0) ndR rfl (Ò3 rfl)) (λcl C s H fp=>r81 (p91 (Y01 (K91 K) (pv 1) (pv 0) (λ_ _=>rfl)))) (λcl C s H fp=>pv 0)))))))))),?_⟩
  refine⟨rfl,a30.refl H,λa H1 s1 na=>?_⟩;have hX:o92 (upd H1 a (.ext (excAt a C))) a C:=b20;have keep:∀ {H'},a30 (upd H1 a (.ext (excAt a C))) H'->o92 H' a C:=λsm=>sm _ _ hX;refine⟨a,C,_,_,_,rfl,hX,R.lk,R.hd,k0,k1,k2,λl1 hl1=>?_⟩;have t1:=a30.new (.lst [.bl (decide (0=j)),.bl (decide (1=j)),.bl (decide (2=j))]) hl1;refine⟨_,rfl,a,C,_,_,_,rfl,keep t1,R.lk,R.hd,k3,k4,k5,λl2 hl2=>?_⟩;have t2:=a30.new (.lst [.bl (decide (3=j)),.bl (decide (4=j)),.bl (decide (5=j))]) hl2;refine⟨l1,l2,_,_,rfl,rfl,t2 _ _ b20,b20,C50 (by show 3 + 3<=64;decide),λl3 hl3=>?_⟩
  have t3:=t1.trans (t2.trans (a30.new (.lst ([.bl (decide (0=j)),.bl (decide (1=j)),.bl (decide (2=j))]++[.bl (decide (3=j)),.bl (decide (4=j)),.bl (decide (5=j))])) hl3));refine⟨_,rfl,a,C,_,_,_,rfl,keep t3,R.lk,R.hd,k6,k7,k8,λl4 hl4=>?_⟩;have t4:=a30.new (.lst [.bl (decide (6=j)),.bl (decide (7=j)),.bl (decide (8=j))]) hl4;refine⟨l3,l4,_,_,rfl,rfl,t4 _ _ b20,b20,C50 (by show 6 + 3<=64;decide),λl5 hl5=>?_⟩
  have t5:=t3.trans (t4.trans (a30.new (.lst ([.bl (decide (0=j)),.bl (decide (1=j)),.bl (decide (2=j))]++[.bl (decide (3=j)),.bl (decide (4=j)),.bl (decide (5=j))]++[.bl (decide (6=j)),.bl (decide (7=j)),.bl (decide (8=j))])) hl5));refine⟨_,rfl,a,C,_,_,_,rfl,keep t5,R.lk,R.hd,k9,k10,k11,λl6 hl6=>?_⟩;have t6:=a30.new (.lst [.bl (decide (9=j)),.bl (decide (10=j)),.bl (decide (11=j))]) hl6;refine⟨l5,l6,_,_,rfl,rfl,t6 _ _ b20,b20,C50 (by show 9 + 3<=64;decide),λl7 hl7=>?_⟩
  have t7:=t5.trans (t6.trans (a30.new (.lst (C70 j)) hl7));refine⟨a,C,_,rfl,keep t7,R.lk,R.hd,R.ve,_,rfl,R12 ?_⟩;refine⟨12,rfl,by decide,by decide,J91 (lo:=0) (n:=12) (λi ys H'=>a30 (upd H1 a (.ext (excAt a C))) H'/\H' l7=some (.lst (C70 j))/\ys=if j < i then [.int j] else []) (C50 (-0)) ⟨t7,b20,by rw[if_neg ∅]⟩ (λi ys H' p=>by rw[p.2.2];split <;> simp <;> omega) ?_ ?_⟩
  ·rintro i ys H' hi ⟨s8,h8,rfl⟩;refine gN ?_;refine⟨_,rfl,_,rfl,l7,C70 j,0 + (i:Int),.bl (decide (i=j)),rfl,rfl,SqL.of h8,L01 hi,_,rfl,?_⟩;refine R22 (λe=>?_) (λe=>?_)
   ·have ej:i=j:=of_decide_eq_true e;subst ej;refine⟨_,rfl,s8,h8,?_⟩;rw[if_neg ∅,if_pos ∅,Ô0];rfl
   ·have ej:¬ i=j:=λz=>e (decide_eq_true z);refine⟨s8,h8,?_⟩;by_cases hj:j < i
    ·rw[if_pos hj,if_pos ∅]
    ·rw[if_neg hj,if_neg ∅]
  ·rintro ys H' p ⟨s8,_,rfl⟩ hp;rw[if_pos R.lt];exact q p H1 H' s1 ((a30.new _ na).trans s8) hp
end
end L2
namespace SS
open PySem
def bts(m:Nat):List Nat:=(ì 8).filter λi=>m.testBit i
def add(m v:Nat):Nat:=m ||| 2 ^ v
def tbl(led:Bool)(m:Nat):SetTable:=if (bts m).length < 5 then⟨7,(bts m).toArray,#[],0,led,0,true⟩ else⟨31,(bts m).toArray,#[],0,led,1,true⟩
def p21(led:Bool)(m v:Nat):SetTable:={ tbl led m with place:=(bts (add m v)).toArray }
def pos(m v:Nat):Nat:=((bts m).filter (· < v)).length
def hs(m:Nat):Array Int:=((bts m).map Int.ofNat).toArray
def full(led:Bool)(m v:Nat):Bool:=if (p21 led m v).tooFull then decide ((p21 led m v).relaid (hs (add m v)) (Ï1.grown ((bts m).length + 1))=some (tbl led (add m v),(ì ((bts m).length + 1)).toArray)) else decide (p21 led m v=tbl led (add m v))
def chk(led:Bool)(m v:Nat):Bool:=if m.testBit v then decide (add m v=m) else decide (add m v < 256)&&decide ((tbl led m).freeSlot (v:Int)=some (v,false))&&decide ((tbl led m).put v=(p21 led m v,pos m v))&&(p21 led m v).fits ((bts m).length + 1) &&
 decide ((bts m).take (pos m v)++v::(bts m).drop (pos m v)=bts (add m v))&&decide ((bts (add m v)).length=(bts m).length + 1)&&(tbl led (add m v)).fits ((bts m).length + 1)&&full led m v
theorem a92:([true,false].all λled=>(ì 256).all λm=>(tbl led m).fits (bts m).length&&(ì 8).all λv=>chk led m v)=true:=by decide +kernel
theorem C80(led:Bool)(hm:m < 256):(tbl led m).fits (bts m).length=true/\∀ v,v < 8->chk led m v=true:=by
 have h:=Õ.mp (Õ.mp a92 led (by cases led <;> simp)) m (Â5.mpr hm)
 rw[Á] at h;exact⟨h.1,λv hv=>Õ.mp h.2 v (Â5.mpr hv)⟩
theorem C90:i∈bts m↔i < 8/\m.testBit i=true:=by unfold bts;rw[mem_filter,Ó1]
abbrev led(w:ç):Bool:=!(w.params.followText "set-order")
def ent(g:Nat->Tok)(m:Nat):Array (Int × Ä):=((bts m).map λ(i:Nat)=>((i:Int),Æ1 i (g i))).toArray
def z70(w:ç)(h:é)(a:Ç)(m:Nat):Prop:=∃ o ep g,h.get? a=some o/\o.ExactSet/\o.data=.set (ent g m) ep (tbl (led w) m)
theorem d20(g:Nat->Tok)(m:Nat):(ent g m).size=(bts m).length:=by unfold ent;simp
theorem b02(g:Nat->Tok)(u:Tok)(hv:m.testBit v=false)(h:(bts m).take (pos m v)++v::(bts m).drop (pos m v)=bts (add m v)):Ï1.insertAt (ent g m) (pos m v) ((v:Int),Æ1 v u)=ent (λi=>if i=v then u else g i) (add m v):=by
 have hne:∀ i∈bts m,i≠v:=λi hi e=>by subst e;rw[(C90.mp hi).2] at hv;cases hv
 have e1:(bts m).map (λ(i:Nat)=>((i:Int),Æ1 i (g i)))=(bts m).map λ(i:Nat)=>((i:Int),Æ1 i (if i=v then u else g i)):=Ã5 λi hi=>by rw[if_neg (hne i hi)]
 unfold ent;rw[← h,e1];apply Û0.mp;unfold Ï1.insertAt;simp;exact Ë6 (by simp)
theorem L21(g:Nat->Tok)(m:Nat):(ent g m).map (·.1)=hs m:=by
 unfold ent hs;rw[map_toArray,î];rfl
theorem L31{α:Type}(xs:Array α):((ì xs.size).toArray).filterMap (xs[·]?)=xs:=by
 apply Û0.mp;rw[Array.toList_filterMap];exact PySem.W.krv_all xs
section
variable {P:Ý}{w:ç}{A:ø}{E:Ä->Æ->Prop}{s:Æ}{a:Ç}{m:Nat}
theorem G70{v:Nat}(h:v < 8):(Ù4 P w).hash (v:Int)=v:=by
 have:∀ v:Nat,v < 8->hashInt (v:Int)=v:=by decide
 exact this v h
theorem elems(g:Nat->Tok)(m:Nat):ElemsOf (Ù4 P w) (ent g m).toList:=λe he=>by
 unfold ent at he;obtain⟨i,hi,rfl⟩:=Ö.mp he;exact⟨⟨i,Ü0 _ _ _ _,(G70 (C90.mp hi).1).symm⟩,rfl⟩
theorem F02(g:Nat->Tok){v:Nat}(u:Tok){led:Bool}(hm:m < 256)(hv:v < 8)(hb:m.testBit v=false):layNew (tbl led m) (ent g m) (v:Int) (.int v u)=(ent (λi=>if i=v then u else g i) (add m v),p21 led m v,false,false):=by
 have h:=(C80 led hm).2 v hv;unfold chk at h;rw[hb,if_neg Ð] at h;simp only[Á,decide_eq_true_eq] at h;obtain⟨⟨⟨⟨⟨⟨⟨_,h1⟩,h2⟩,h3⟩,h4⟩,h5⟩,_⟩,_⟩:=h;unfold layNew;rw[h1];dsimp only;rw[h2];dsimp only;rw[b02 g u hb h4,d20,h5];unfold Ï1.orStandIn;rw[h3];rfl
theorem b12(g:Nat->Tok){v:Nat}{led:Bool}(hm:m < 256)(hv:v < 8)(hb:m.testBit v=false)(ht:(p21 led m v).tooFull=true):relayAll (p21 led m v) (ent g (add m v)) (Ï1.grown (ent g (add m v)).size)=(ent g (add m v),tbl led (add m v),false):=by
 have h:=(C80 led hm).2 v hv;unfold chk at h;rw[hb,if_neg Ð] at h;simp only[Á,decide_eq_true_eq] at h;obtain⟨⟨⟨⟨⟨⟨⟨_,_⟩,_⟩,_⟩,_⟩,h5⟩,h6⟩,h7⟩:=h;unfold full at h7;rw[if_pos ht,decide_eq_true_eq] at h7;unfold relayAll;rw[L21,d20,h5,h7];dsimp only;have e:((ì ((bts m).length + 1)).toArray).filterMap ((ent g (add m v))[·]?)=ent g (add m v):=by
  have:=L31 (ent g (add m v));rw[d20,h5] at this;exact this
 rw[e,d20,h5,h6];have c:coversAll (ì ((bts m).length + 1)).toArray ((bts m).length + 1)=true:=by
  unfold coversAll;rw[List.isPerm_iff]
 rw[c];rfl
theorem S91(hm:m < 256)(hv:v < 8):add m v < 256:=by
 have h:=(C80 true hm).2 v hv;unfold chk at h;cases hb:m.testBit v with
 |true=>rw[hb,if_pos rfl,decide_eq_true_eq] at h;rw[h];exact hm
 |false =>
  rw[hb,if_neg Ð] at h;simp only[Á,decide_eq_true_eq] at h;exact h.1.1.1.1.1.1.1
theorem add_same(hm:m < 256)(hv:v < 8)(hb:m.testBit v=true):add m v=m:=by
 have h:=(C80 true hm).2 v hv;unfold chk at h;rw[hb,if_pos rfl,decide_eq_true_eq] at h;exact h
theorem p62{v:Nat}(hm:m < 256)(hv:v < 8)(hS:z70 w s.heap a m)(h:∀ b h',Ë9 a s.heap h'->z70 w h' a (add m v)->Q b { s with heap:=h' }) :
  Î (Ô P w) A (setAddHashed a (.int v u) ((Ù4 P w).hash v)) Q E s:=by
 obtain⟨o,ep,g,ho,hex,hd⟩:=hS;have hf:(tbl (led w) m).fits (ent g m).size=true:=by rw[d20];exact(C80 _ hm).1
 have hsz:(bts m).length<=8:=Ò (Å3 _ _) (by simp)
 have hb:(ent g m).size < scanBound:=by rw[d20];unfold scanBound;omega
 have hel:=elems (P:=P) (w:=w) g m;unfold setAddHashed setAddHashedIn;refine À8 (À (Ò9 ho hd hf ?_));dsimp only;rw[byScan_of (knd:=Ù4 P w) rfl hb hel];simp only[↓reduceIte];unfold setAddByScan;refine À ?_;refine À (Ê0 ?_);refine À (wpAny_setScan_of (Ü0 _ _ _ _) ho hd hf hel ?_);cases hr:List.findIdx? (λe=>(Ù4 P w).is (v:Int) e.2) (ent g m).toList with
 |some j =>
  dsimp only;obtain⟨hj,hpj,_⟩:=List.findIdx?_eq_some_iff_getElem.mp hr;have hmem:(ent g m).toList[j]∈(ent g m).toList:=É1 hj;unfold ent at hmem;obtain⟨i,hi,e⟩:=Ö.mp hmem;rw[show(ent g m).toList[j]=((i:Int),Æ1 i (g i)) from e.symm] at hpj;have hiv:i=v:=by
   have:=(Ù4 P w).inj _ _ _ hpj (Ü0 P w i (g i));omega
  subst hiv;have q:=h false s.heap (Ë9.refl a s.heap) (by rw[add_same hm hv (C90.mp hi).2];exact⟨o,ep,g,ho,hex,hd⟩)
  exact Å (Å q)
 |none =>
  dsimp only;have hbt:m.testBit v=false:=by
   cases hk:m.testBit v with
   |false=>rfl
   |true =>
    have:((v:Int),Æ1 v (g v))∈(ent g m).toList:=Ö.mpr ⟨v,C90.mpr ⟨hv,hk⟩,rfl⟩;have:=List.findIdx?_eq_none_iff.mp hr _ this;rw[Ü0] at this;cases this
  rw[G70 hv,F02 g u hm hv hbt];have hgw:∀ (b:Bool) {s₁:Æ}{Q':Unit->Æ->Prop},Q' () s₁->Î (Ô P w) A (match b with | true=>rule "set.scan.the-table-gave-way" | false=>pure ()) Q' E s₁:=λb s₁ Q' hq=>by cases b <;> first | exact Å hq | exact Ê0 hq
  dsimp only;refine À (Å ?_);have hpl:(p21 (led w) m v).plain=true:=by unfold p21 tbl;split <;> rfl
  rw[if_pos hpl,hashByValue_scannable 8 rfl];refine À (Å ?_);simp only[plainKind,↓reduceIte];have hk:=(C80 (led w) hm).2 v hv;unfold chk at hk;rw[hbt,if_neg Ð] at hk;simp only[Á,decide_eq_true_eq] at hk;obtain⟨⟨_,h6⟩,h7⟩:=hk;have hlt:=S91 hm hv;have hsz2:(bts (add m v)).length<=8:=Ò (Å3 _ _) (by simp)
  have hb2:∀ g,(ent g (add m v)).size<=sizeLine:=λg=>by rw[d20,Á3];omega
  have get:∀ {h0:é}{o:Obj}{es ep t} (es':Array (Int × Ä)) (t':Ï1),h0.get? a=some o->o.data=.set es ep t->(h0.update a (Obj.putSet es' t')).get? a=some { o with data:=.set es' (ep + 1) t' }:=λ{h0 o es ep t} es' t' e1 e2=>by
   have:=Ç8 (Obj.putSet es' t') e1 (by rw[putSet_of es' t' e2];rfl)
   rw[putSet_of es' t' e2] at this;exact this
  refine À (wpAny_storeSet_of ho hd ?_ (hb2 _));have g1:=get (ent (λi=>if i=v then u else g i) (add m v)) (p21 (led w) m v) ho hd;have sb1:=Æ0 s.heap a (Obj.putSet (ent (λi=>if i=v then u else g i) (add m v)) (p21 (led w) m v));simp only[Bool.not_false,Å0];unfold full at h7;split
  ·rename_i ht;rw[if_pos ht] at h7;rw[b12 _ hm hv hbt ht];dsimp only;refine À (Å ?_);refine À (wpAny_storeSet_of g1 rfl ?_ (hb2 _));exact Å (Å (h _ _ (sb1.trans (Æ0 _ a _)) ⟨_,_,_,get _ _ g1 rfl,hex,rfl⟩))
  ·rename_i ht;rw[if_neg ht,decide_eq_true_eq] at h7;exact Å (Å (h _ _ sb1 ⟨_,ep + 1,_,g1,hex,congrArg _ h7⟩))
end
open PySem PySem.W PyProof.Rows
def met(val:Nat->Nat):Nat->Nat
 |0=>0|i + 1=>add (met val i) (val i)
theorem u41(h:∀ i,val i < 8):∀ i,met val i < 256
 |0=>by show(0:Nat) < 256;decide|i + 1=>S91 (u41 h i) (h i)
section
variable {P:Ý}{w:ç}{A:ø}
theorem z70.keep(x:z70 w h a m)(k:∀ o,h.get? a=some o->h'.get? a=some o):z70 w h' a m:=by
 obtain⟨o,ep,g,ho,r⟩:=x;exact⟨o,ep,g,k o ho,r⟩
theorem b22{R:Result->Æ->Prop}{I:Ç}{fp wr:List Ç}{G:Array Ý5->Array Ý5->Prop}{n:Nat}{Pv:Nat->Ä->Prop}{St:Nat->Æ->Prop}(W:WalksS P w A.in1 I fp wr G n Pv St)(S:Ç)(hf:S ∉ fp){val:Nat->Nat}(hv:∀ i,val i < 8)(hp:∀ i v,Pv i v->∃ t,v=.int (val i) t) :
  ∀ (k i:Nat) (s:Æ),i + k=n->St i s->z70 w s.heap S (met val i)->(∀ s',Moved (S::wr) G s s'->z70 w s'.heap S (met val n)->R (.ok (.ret .none)) s')->Î5 (Ô P w) A (.builtin "set.update.loop" ⟨[.ref S,.ref I],[]⟩) R s:=by
 have hw:S ∉ wr:=λh=>hf (W.sub _ h);intro k
 induction k with
 |zero =>
  intro i s hk st x q;have hk:i=n:=hk;subst hk;refine Â2 F.entry_set_update_loop ?_;rw[Â8 Ô2 _];refine À (m:=Ñ1 (.ref I)) (W.done s _ _ st λs1 mv=>?_);exact Å (q s1 (mv.mono λb hb=>È _ hb) (x.keep λo=>mv.heap S o hw))
 |succ k ih =>
  intro i s hk st x q;refine Â2 F.entry_set_update_loop ?_;rw[Â8 Ô2 _];refine À (m:=Ñ1 (.ref I)) (W.item i s _ _ ∅ st λv s1 pv st1 mv=>?_)
  obtain⟨t,rfl⟩:=hp i v pv;refine À (m:=Ù5 _ (setAdd S (.int (val i) t))) (À8 ?_);unfold setAdd;refine À8 (À ((Ù4 P w).pyHash (k:=(val i:Int)) (Ü0 _ _ _ _) ?_));refine p62 (s:={ s1 with toks:=s1.toks + 1 }) (u41 hv i) (hv i) (x.keep λo=>mv.heap S o hw) λb h2 sb x2=>?_;have off:∀ c o,c≠S->s1.heap.get? c=some o->h2.get? c=some o:=λc o hc e=>(sb.2 c hc).trans e;refine Å ⟨Î4 Ô2 _,ih (i + 1) _ ∅ (W.frame _ s1 _ _ st1 (le_succ _) λc hc o e=>off c o (λz=>hf (z ▸ hc)) e) x2 λs2 mv2 x3=>?_⟩
  exact q s2 (Moved.trans W.gtrans ((mv.mono λb hb=>È _ hb).then_heap (le_succ _) λc o hc e=>off c o (λz=>hc (z ▸ Ë)) e) mv2) x3
end
section
variable {P:Ý}{w:ç}{A:ø}{E:Ä->Æ->Prop}{s:Æ}
abbrev T01(w:ç):Obj:={ cls:=.type "set",dict:=none,data:=.set #[] 0 (.fresh 0 0 (led w)) }
theorem b32(a:Ä)(h:Q (.ref s.heap.objs.size) { s with heap:=s.heap.push (T01 w) }):Î5 (Ô P w) A (.call (.builtin "set.__new__") ⟨[.type "set",a],[]⟩) (wants Q E) s:=by
 refine à2 ?_;refine À (m:=Õ0 _ _) (ß4 (F.newCall_set_1 a) (Å ⟨Î4 F.plain_set_new _,Â2 F.entry_set_new ?_⟩));rw[Â8 F.plain_set_new _];have hsub:=sub_set_self;obtain⟨hp,g,d,tk,os⟩:=s;unfold ÿ.«set.__new__» ÿ.Frozenset.newClass;dsimp only
 wp_walk
 refine Í8 (Å ?_);dsimp only;simp only[newObj];exact À (wpAny_alloc (Å (Å h)))
theorem b42{h:é}:z70 w (h.push (T01 w)) h.objs.size 0:=⟨_,0,λ_=>0,Ê _ rfl,⟨rfl,rfl,rfl⟩,rfl⟩
structure T62(P:Program)(w:World)(T:String)(l:Addr)(o it:Obj)(n:Nat)(Pv:Nat->Value->Prop)(St:Addr->Nat->Heap->Prop):Prop where
 ty:o.cls=.type T
 f1:isSubtype (.type T) (.type "set")=pure false
 f2:isSubtype (.type T) (.type "frozenset")=pure false
 f3:(Value.type T == Value.type "dict")=false
 iter:∀ (A:Around) (E:Value->Shared->Prop) (s:Shared) (Q:Value->Shared->Prop),s.heap.get? l=some o->Q (.ref s.heap.objs.size) { s with heap:=s.heap.push it }->wpAny (model P w) A (pyIter (.ref l)) Q E s
 walk:∀ (A:Around) (I:Addr),A.handled=none->l≠I->Walks P w A I [I,l] [I] n Pv (St I)
 zero:∀ h:Heap,h.get? l=some o->St h.objs.size 0 (h.push it)
set_option maxHeartbeats 3200000 in
theorem e91{T:String}{l:Ç}{o it:Obj}{n:Nat}{Pv:Nat->Ä->Prop}{St:Ç->Nat->é->Prop}{val:Nat->Nat}{Q:Ä->Æ->Prop}(D:T62 P w T l o it n Pv St)(hh:A.handled=none)(ho:s.heap.get? l=some o)(hv:∀ i,val i < 8)(hp:∀ i v,Pv i v->∃ t,v=.int (val i) t)
  (h:∀ (h':é) (tk:Nat),z70 w h' s.heap.objs.size (met val n)->(∀ b u,s.heap.get? b=some u->h'.get? b=some u)->Q (.ref s.heap.objs.size) { s with heap:=h',toks:=tk }):Î (Ô P w) A (call (.type "set") [.ref l]) Q E s:=by
 obtain⟨c,tl,hmro⟩:=Ê3.mro;have hmade:=Ê3.made;have hsub:=Ê3.sub;have h1:=Ê3.notType;have h2:=Ê3.canCreate;have hct:=F.typeCall_set_1 (.ref l);refine Õ7 (à2 ?_);show Î _ _ (callAny (.type "set") _) _ _ _;refine Å ⟨Ø3 _ (by decide +kernel),Â2 F.entry_type_call ?_⟩
 rw[ø.under_plain (weight_type_call_type "set" [.ref l] []) rfl]
 repeat (any_goals (first | assumption | wp_step))
 refine È3 (b32 (.ref l) (E:=E) (Q:=λv s1=>v=.ref s.heap.objs.size/\s1={ s with heap:=s.heap.push (T01 w) }) ⟨rfl,rfl⟩) λr s1 hr=>?_;cases r with
 |error e=>exact hr
 |ok fl =>
  cases fl with
  |ret v =>
   obtain⟨rfl,rfl⟩:=hr;have hT:Ý7 { s with heap:=s.heap.push (T01 w) } (.ref s.heap.objs.size) "set":=⟨_,Ê _ rfl,rfl⟩;have hli:=Ê3.init.lookup;have hbi:=Ê3.init.bind (.ref s.heap.objs.size);have lS:l < s.heap.objs.size:=à ho;have ho1:(s.heap.push (T01 w)).get? l=some o:=Ã _ ho
   repeat (any_goals (first | assumption | wp_step))
   refine È3 (Ù0 (R:=wants (λr s2=>r=.none/\∃ h' tk,s2={ s with heap:=h',toks:=tk }/\z70 w h' s.heap.objs.size (met val n)/\∀ b u,s.heap.get? b=some u->h'.get? b=some u) E) Ê3.init.plain F.entry_set_init (check_set_init_1 hT ?_)) λr2 s2 hr2=>?_
   ·have f1:=D.f1;have f2:=D.f2;have f3:=D.f3;obtain⟨ocls,odict,odata,oslots⟩:=o;have hc:ocls=.type T:=D.ty;subst hc;unfold ÿ.«set.__init__» noKeywords ÿ.Frozenset.updateFrom;generalize hPI:pyIter=PI
    wp_walk
    subst hPI;refine D.iter _ _ _ _ ho1 ?_;refine À (Ø6 ?_);have hI:(s.heap.push (T01 w)).objs.size=s.heap.objs.size + 1:=Ë4 ..;have nI:l≠(s.heap.push (T01 w)).objs.size:=by rw[hI];exact Ù (Å1 lS)
    have nS:s.heap.objs.size ∉ [(s.heap.push (T01 w)).objs.size,l]:=by
     rw[hI];simp only[Â7,À0,or_false,not_or];exact⟨Ù (Ì2 _),Ê6 lS⟩
    refine b22 ((D.walk _ _ (by simp[hh]) nI).toS) s.heap.objs.size nS hv hp n 0 _ (É4 _) (D.zero _ ho1) (b42.keep λu e=>Ã _ e) λs' mv x=>?_
    obtain⟨h',g',d',tk',os'⟩:=s';have eg:g'=s.gens:=mv.gens;have ed:d'=s.drawn:=mv.drawn;have eo:os'=s.os:=mv.os;subst eg;subst ed;subst eo;refine Å (Å ⟨rfl,h',tk',rfl,x,λb u e=>?_⟩);have lb:=à e;refine mv.heap b u (λz=>?_) (Ã _ (Ã _ e));simp only[Â7,À0,or_false] at z;rw[hI] at z;rcases z with z | z
    ·exact Ù lb z
    ·exact Ù (Å1 lb) z
   ·cases r2 with
    |error e=>exact hr2
    |ok fl2 =>
     cases fl2 with
     |ret r =>
      obtain⟨rfl,h',tk,rfl,x,kp⟩:=hr2
      repeat (any_goals (first | assumption | wp_step))
      exact h _ _ x kp
     |_=>exact hr2.elim
  |_=>exact hr.elim
end
def f01(m:Nat):Nat->Nat
 |0=>0|i + 1=>(bts m).getD i 0 + 1
theorem u51:((ì 256).all λm=>(ì ((bts m).length + 1)).all λi=>Ï1.below (bts m).toArray (f01 m i) == i)=true:=by decide +kernel
theorem below_at(hm:m < 256)(hi:i<=(bts m).length):Ï1.below (bts m).toArray (f01 m i)=i :=
 eq_of_beq (Õ.mp (Õ.mp u51 m (Â5.mpr hm)) i (Â5.mpr (Ú5 hi)))
theorem G80:∀ {l:List α}{i:Nat} (h:i < l.length),(l[i]::l.eraseIdx i).Perm l
 |x::r,0,_=>.refl _|x::r,i + 1,h=>(List.Perm.swap x _ _).trans ((G80 (l:=r) (i:=i) (Nat.lt_of_succ_lt_succ h)).cons x)
theorem u61(next:Nat->Nat):∀ (n k:Nat) (left:List α) (out:Array α),left.length=n->((Þ6.go next n k left out).toList).Perm (out.toList++left)
 |0,k,left,out,h=>by
  have:left=[]:=List.eq_nil_of_length_eq_zero h;subst this;simp[Þ6.go]
 |n + 1,k,left,out,h=>by
  have hl:next k % left.length < left.length:=Nat.mod_lt _ ∅
  have e:left[next k % left.length]?=some left[next k % left.length]:=List.getElem?_eq_getElem hl;unfold Þ6.go;rw[e];refine(u61 next n (k + 1) _ _ (by rw[List.length_eraseIdx_of_lt hl];omega)).trans ?_
  rw[Array.toList_push,Ô6];exact List.Perm.append_left _ (G80 hl)
theorem u71(next:Nat->Nat)(xs:Array α):(Þ6 next xs).toList.Perm xs.toList:=by
 have:=u61 next xs.size 0 xs.toList #[] (by simp)
 rw[Í0] at this;exact this
def ord(w:ç)(a ep:Nat)(es:Array (Int × Ä)):Array (Int × Ä):=if w.params.followText "set-order" then Þ6 (w.params.setOrder a ep) es else es
theorem f11(w:ç)(a ep:Nat)(es:Array (Int × Ä)):(ord w a ep es).toList.Perm es.toList:=by
 unfold ord;split
 ·exact u71 _ _
 ·exact .refl _
theorem L00(w:ç)(a ep:Nat)(es:Array (Int × Ä)):(ord w a ep es).size=es.size:=by
 have:=(f11 w a ep es).length_eq;simpa using this
def u81(w:ç)(m i:Nat):Nat:=if w.params.followText "set-order" then 0 else f01 m i
def itO(w:ç)(S ep n m i:Nat):Obj:={ cls:=.type "set_iterator",data:=.fields #[Ã7 (u81 w m i),Ã7 i,.ref S,Ã7 n,Ã7 ep] }
theorem c60:Slot "set_iterator" "__next__" "set_iterator.__next__":=.of (owner:="set_iterator") (n:="__next__") (by rw[typeLookup_type,builtinLookup_eq_fast];kernel_rfl) (by decide +kernel) (by decide +kernel) (by decide +kernel) (by first | exact .inl (by decide +kernel) | exact .inr (by decide +kernel)) (by rw[Ñ5];kernel_rfl)
theorem o30:Slot "set_iterator" "__iter__" "set_iterator.__iter__":=.of (owner:="set_iterator") (n:="__iter__") (by rw[typeLookup_type,builtinLookup_eq_fast];kernel_rfl) (by decide +kernel) (by decide +kernel) (by decide +kernel) (by first | exact .inl (by decide +kernel) | exact .inr (by decide +kernel)) (by rw[Ñ5];kernel_rfl)
theorem m90:entryFor table "set_iterator.__next__"=some ÿ.«set_iterator.__next__»:=entryFor_of_tree (by kernel_rfl)
theorem G00:entryFor table "set.__iter__"=some ÿ.«frozenset.__iter__»:=entryFor_alias (id':="frozenset.__iter__") (by kernel_rfl) rfl (by decide +kernel) (by kernel_rfl)
theorem z80:entryFor table "set_iterator.__iter__"=some ÿ.«dict_keyiterator.__iter__»:=entryFor_alias (id':="dict_keyiterator.__iter__") (by kernel_rfl) rfl (by decide +kernel) (by kernel_rfl)
theorem D00:Manifest.owners.lookup (String.ofList "rotareti_tes".toList.reverse)=some Manifest.sig_set_iterator:=by kernel_rfl
theorem o40(a:Ä):argsOk "set_iterator.__next__" ⟨[a],[]⟩:=by
 unfold argsOk;rw[signature?_of (id:="set_iterator.__next__") (n:="__txen__".toList) (o:="rotareti_tes".toList) (by kernel_rfl) D00];kernel_rfl
theorem D10(a:Ä):argsOk "set_iterator.__iter__" ⟨[a],[]⟩:=by
 unfold argsOk;rw[signature?_of (id:="set_iterator.__iter__") (n:="__reti__".toList) (o:="rotareti_tes".toList) (by kernel_rfl) D00];kernel_rfl
section
variable {P:Ý}{w:ç}{A:ø}{E:Ä->Æ->Prop}{s:Æ}{S ep m:Nat}{g:Nat->Tok}{o:Obj}
theorem R70(b:Bool)(m:Nat):(tbl b m).plain=true:=by unfold tbl;split <;> rfl
theorem b52(b:Bool)(m:Nat):(tbl b m).led=b:=by unfold tbl;split <;> rfl
theorem u91(b:Bool)(m:Nat):(tbl b m).place=(bts m).toArray:=by unfold tbl;split <;> rfl
theorem L10(hm:m < 256):(tbl (led w) m).fits (ent g m).size=true:=by rw[d20];exact(C80 _ hm).1
theorem L41(hm:m < 256)(ho:s.heap.get? S=some o)(hx:o.ExactSet)(hd:o.data=.set (ent g m) ep (tbl (led w) m))(h:Q (.ref s.heap.objs.size) { s with heap:=s.heap.push (itO w S ep (bts m).length m 0) }):Î (Ô P w) A (pyIter (.ref S)) Q E s:=by
 have hT:s.TypeIs (.ref S) "set":=⟨o,ho,hx.1⟩;have hf:=L10 (w:=w) (g:=g) hm;have hp:=R70 (led w) m;refine wpAny_pyIter_slot hT F.slot_set_iter (À5 F.slot_set_iter hT G00 ?_ (F.args_set_iter_1 _));unfold ÿ.«frozenset.__iter__» ÿ.Frozenset.slot0 slotArgs;simp only[isEmpty_nil,ß9,Ã4,↓reduceIte,bind_assoc,Á1,bne_self_eq_false];unfold ÿ.Frozenset.addrOf ÿ.Frozenset.sizeOf;refine À (Å (À (Å (À (À (Ú2 ho hd hf (Å ?_)))))));refine À ?_;have dr:Î (Ô P w) A.in1 (setDrawn S) (λb s'=>b=false/\s'=s) E s:=by
  unfold setDrawn setsByText;refine À (Ò9 ho hd hf (À (À (Í8 (Å (Å ⟨?_,rfl⟩))))));generalize tbl (led w) m=t at hp;obtain⟨t1,t2,t3,t4,t5,t6,t7⟩:=t;cases hp;show(!w.params.followText "set-order"&&_)=false;cases w.params.followText "set-order" <;> rfl
 refine Â1 dr (λb s' hb=>?_) λ_ _ e=>e;obtain⟨rfl,rfl⟩:=hb;rw[if_neg Ð];refine À (Å ?_);refine À (wpAny_setEpoch_of ho hd hf ?_);refine À (å (Å ⟨_,rfl,"set_iterator",_,⟨_,Ê _ rfl,rfl⟩,c60.lookup,?_⟩));have e:itO w S ep (bts m).length m 0={ cls:=.type "set_iterator",data:=.fields #[Ã7 0,Ã7 0,.ref S,Ã7 (ent g m).size,Ã7 ep] }:=by
  unfold itO u81;rw[d20];split <;> rfl
 rw[e] at h;exact h
theorem v01(hm:m < 256)(hi:i<=(bts m).length)(ho:s.heap.get? S=some o)(hd:o.data=.set (ent g m) ep (tbl (led w) m)):Î (Ô P w) A (setNext S (u81 w m i) i ep) (λr s'=>s'=s/\r=(ord w S ep (ent g m))[i]?.map λe=>(e.2,u81 w m (i + 1))) E s:=by
 have hf:=L10 (w:=w) (g:=g) hm;have hp:=R70 (led w) m;have hl:=b52 (led w) m;have hpl:=u91 (led w) m;unfold setNext;refine À (Ò9 ho hd hf ?_);unfold setsByText;refine À (À (Í8 (Å ?_)));dsimp only;unfold ord u81;show Î _ _ (if w.params.followText "set-order"=true then _ else _) _ _ _;cases hb:w.params.followText "set-order" with
 |true =>
  rw[if_pos rfl];rw[if_neg (by simp)]
  refine À ?_;unfold setWalk setsByText;refine À (Ò9 ho hd hf (À (À (Í8 (Å ?_)))));show Î _ _ (if w.params.followText "set-order"=true then _ else _) _ _ _;rw[hb,if_pos rfl];refine À (Í8 (Å (Å ⟨rfl,?_⟩)));simp only[↓reduceIte];rfl
 |false =>
  simp only[Ã4,↓reduceIte];have hl:(tbl (led w) m).led=true:=by rw[hl];show(!w.params.followText "set-order")=true;rw[hb];rfl
  generalize tbl (led w) m=t at hp hl hpl;obtain⟨t1,t2,t3,t4,t5,t6,t7⟩:=t;cases hp;cases hl;have hpl:t2=(bts m).toArray:=hpl;subst hpl;refine À (Å (Å ⟨rfl,?_⟩));rw[below_at hm hi];by_cases hi':i < (bts m).length
  ·have e1:(ent g m)[i]?=some (((bts m)[i]:Int),Æ1 ((bts m)[i]:Nat) (g (bts m)[i])):=by unfold ent;simp[hi']
   have e2:(bts m).toArray[i]?=some (bts m)[i]:=by simp[hi']
   rw[e1,e2];show some _=some _;have e3:f01 m (i + 1)=(bts m)[i] + 1:=by show(bts m).getD i 0 + 1=_;simp[hi']
   rw[e3]
  ·have e1:(ent g m)[i]?=none:=by unfold ent;simp;omega
   rw[e1];rfl
theorem L51(hm:m < 256)(hi:i < (bts m).length)(ho:s.heap.get? S=some o)(hd:o.data=.set (ent g m) ep (tbl (led w) m))(hI:s.heap.get? I=some (itO w S ep (bts m).length m i))
  (h:∀ v h',(ord w S ep (ent g m))[i]?.map (·.2)=some v->Ë9 I s.heap h'->h'.get? I=some (itO w S ep (bts m).length m (i + 1))->Q (some v) { s with heap:=h' }):Î (Ô P w) A (Ñ1 (.ref I)) Q E s:=by
 have hT:s.TypeIs (.ref I) "set_iterator":=⟨_,hI,rfl⟩;have hf:=L10 (w:=w) (g:=g) hm;unfold Ñ1;refine À (Ë3 (À6 (name:=Á0 "__next__") hT c60 (À5 c60 hT m90 ?_ (o40 _))));unfold ÿ.«set_iterator.__next__» slotArgs;simp only[isEmpty_nil,ß9,Ã4,↓reduceIte,bind_assoc,Á1,bne_self_eq_false];refine À (Å ?_);refine À (wpAny_fieldsOf hI rfl ?_);dsimp only [Ã7];refine À (Ú2 ho hd hf ?_);rw[if_neg (by rw[d20];simp)]
 refine À (Â1 (v01 (i:=i) hm (É5 hi) ho hd) (λr s' hr=>?_) λ_ _ e=>e);obtain⟨rfl,rfl⟩:=hr;have hsz:i < (ord w S ep (ent g m)).size:=by rw[L00,d20];exact hi
 have e1:(ord w S ep (ent g m))[i]?=some (ord w S ep (ent g m))[i]:=by simp[hsz]
 simp only[Á9,e1,map_some];unfold itO at hI;refine À (Ã0 hI (by simp) λh1 hI1 sb1=>?_)
 refine À (Ã0 hI1 (by simp) λh2 hI2 sb2=>?_)
 refine Å ⟨_,rfl,Å (h _ h2 (by rw[e1];rfl) (sb1.trans sb2) ?_)⟩
 unfold itO;simpa [Ã7] using hI2
theorem b62(hh:A.handled=none)(hm:m < 256)(ho:s.heap.get? S=some o)(hd:o.data=.set (ent g m) ep (tbl (led w) m))(hI:s.heap.get? I=some (itO w S ep (bts m).length m (bts m).length))
  (h:∀ h',é.ExtBut I s.heap h'->Q none { s with heap:=h' }):Î (Ô P w) A (Ñ1 (.ref I)) Q E s:=by
 have hT:s.TypeIs (.ref I) "set_iterator":=⟨_,hI,rfl⟩;have hf:=L10 (w:=w) (g:=g) hm;unfold Ñ1;refine À (Ë3 (À6 (name:=Á0 "__next__") hT c60 (À5 c60 hT m90 ?_ (o40 _))));unfold ÿ.«set_iterator.__next__» slotArgs;simp only[isEmpty_nil,ß9,Ã4,↓reduceIte,bind_assoc,Á1,bne_self_eq_false];refine À (Å ?_);refine À (wpAny_fieldsOf hI rfl ?_);dsimp only [Ã7];refine À (Ú2 ho hd hf ?_);rw[if_neg (by rw[d20];simp)]
 refine À (Â1 (v01 (i:=(bts m).length) hm (Í _) ho hd) (λr s' hr=>?_) λ_ _ e=>e);obtain⟨rfl,rfl⟩:=hr;have e1:(ord w S ep (ent g m))[(bts m).length]?=none:=by simp[L00,d20]
 simp only[Á9,e1,Option.map_none];unfold itO at hI;refine À (Ã0 hI (by simp) λh1 hI1 sb1=>À ?_)
 simp only[newExc,newTuple];refine À (å ?_ (by size_fits))
 refine À (m:=Ø9 _ _) (ß4 (a:=â) (by first | rfl | (simp only[Ø9];rfl)) ?_)
 refine å ?_ (by size_fits)
 simp only[raiseNew];refine À (wpAny_handled ?_);rw[show A.in1.handled=none from hh];refine À (Å (wpAny_throw ?_));refine À (Þ5 (T:="StopIteration") (b:=true) ⟨_,Ê _ rfl,rfl⟩ isSubtype_stop ?_);exact Å (h _ ((sb1.extBut.push _).push _))
theorem v21(hh:A.handled=none)(hm:m < 256)(hx:o.ExactSet)(hd:o.data=.set (ent g m) ep (tbl (led w) m))(hn:S≠I):Walks P w A I [I,S] [I] (bts m).length (λi v=>(ord w S ep (ent g m))[i]?.map (·.2)=some v) (λi h=>h.get? S=some o/\h.get? I=some (itO w S ep (bts m).length m i)) where
 sub:=λb hb=>by simp at hb;simp[hb]
 frame:=λ_ _ _ st hk=>⟨hk S (by simp) _ st.1,hk I (by simp) _ st.2⟩
 item:=λi s Q E hi st hQ=>L51 hm hi st.1 hd st.2 λv h' hv sb hI=>hQ v h' s.toks hv ⟨(sb.2 S hn).trans st.1,hI⟩ λb u hb e=>(sb.2 b λz=>hb (by simp[z])).trans e
 done:=λs Q E st hQ=>b62 hh hm st.1 hd st.2 λh' kp=>hQ h' s.toks λb u hb e=>kp b u (λz=>hb (by simp[z])) e
 self:=λi s Q E st hQ=>by
  have hT:s.TypeIs (.ref I) "set_iterator":=⟨_,st.2,rfl⟩;refine wpAny_pyIter_slot hT o30 (À5 o30 hT z80 ?_ (D10 _));show Î _ _ (ret (.ref I)) _ _ s;exact Å ⟨_,rfl,"set_iterator",_,hT,c60.lookup,hQ⟩
set_option maxHeartbeats 3200000 in
theorem Z00(hh:A.handled=none)(hm:m < 256)(ho:s.heap.get? S=some o)(hx:o.ExactSet)(hd:o.data=.set (ent g m) ep (tbl (led w) m))
  (hQ:∀ h' tk,s.heap.objs.size < h'.objs.size->(∀ b u,s.heap.get? b=some u->h'.get? b=some u)->Q ((ord w S ep (ent g m)).toList.map (·.2)) { s with heap:=h',toks:=tk }):Î (Ô P w) A (collect (.ref S)) Q E s:=by
 have lS:S < s.heap.objs.size:=à ho;have hsz:(bts m).length<=8:=Ò (Å3 _ _) (by simp)
 unfold collect;refine À (Ø6 (Â2 F.entry_proto_collect ?_));rw[Â8 F.plain_proto_collect _];refine À (m:=newList []) (å (Å ⟨Î4 F.plain_list_iadd _,Â2 F.entry_list_iadd ?_⟩));rw[Â8 F.plain_list_iadd _];show Î _ A.in1 (Ä3 (.ref s.heap.objs.size) (.ref S) (.ref s.heap.objs.size)) _ _ _;have oS:(s.heap.push { cls:=.type "list",data:=.seq ([]:List Ä).toArray }).get? S=some o:=Ã _ ho;have hL:(s.heap.push { cls:=.type "list",data:=.seq ([]:List Ä).toArray }).get? s.heap.objs.size=some { cls:=.type "list",data:=.seq ([]:List Ä).toArray }:=Ê _ rfl;have hT:Ý7 { s with heap:=s.heap.push { cls:=.type "list",data:=.seq ([]:List Ä).toArray } } (.ref S) "set":=⟨o,oS,hx.1⟩;unfold Ä3;refine À (Ç9 hT ?_);have c1:Ú1 (.ref s.heap.objs.size) (.ref S)=false:=by simp[Ú1];exact Ê6 lS
 have c2:(Á7 "set" == Á7 "list")=false:=by decide
 have c3:(Á7 "set" == Á7 "tuple")=false:=by decide
 simp only[c1,c2,c3,Bool.or_false,Ã4,if_false];refine À (L41 hm oS hx hd (À (À8 ?_)));have hT2:∀ u,Ý7 { s with heap:=(s.heap.push { cls:=.type "list",data:=.seq ([]:List Ä).toArray }).push u } (.ref S) "set":=λu=>⟨o,Ã _ oS,hx.1⟩;unfold ÿ.List.listLengthHint;refine À (wpAny_specialOf (hT2 _) F.slot_set_len.lookup ?_)
 wp_delta
 refine À (Þ5 (T:="set") (b:=true) (hT2 _) (by rw[Ñ5];kernel_rfl) ?_)
 show Î _ A.in1 (typeOf (Ã3 S) >>= _) _ _ _;refine À (Ç9 (hT2 _) (Å ?_));rw[if_pos (-0)]
 refine À (Ê0 ?_);generalize hI:s.heap.push { cls:=.type "list",data:=.seq ([]:List Ä).toArray }=h1 at oS hL hT2;have sz1:h1.objs.size=s.heap.objs.size + 1:=by rw[← hI];exact Ë4 ..
 have hL2:(h1.push (itO w S ep (bts m).length m 0)).get? s.heap.objs.size=some { cls:=.type "list",data:=.seq ([]:List Ä).toArray }:=Ã _ hL;refine À (m:=ÿ.List.listTouch (.ref s.heap.objs.size)) ?_;show Î _ A.in1 (updateSeq s.heap.objs.size (·.push .none) >>= λ_=>updateSeq s.heap.objs.size (·.pop)) _ _ _;refine À (wpAny_updateSeq hL2 rfl ?_);have hL3:=Ç8 (À1 (·.push â)) hL2 rfl;refine wpAny_updateSeq hL3 rfl ?_;have hL4:=Ç8 (À1 (·.pop)) hL3 rfl;have off:∀ b u,b≠s.heap.objs.size->(h1.push (itO w S ep (bts m).length m 0)).get? b=some u->(((h1.push (itO w S ep (bts m).length m 0)).update s.heap.objs.size (À1 (·.push â))).update s.heap.objs.size (À1 (·.pop))).get? b=some u :=
  λb u hb e=>(Ë8 _ _ (Â3 hb)).trans ((Ë8 _ _ (Â3 hb)).trans e)
 have nI:S≠h1.objs.size:=by rw[sz1];exact Ù (Å1 lS)
 have nS:s.heap.objs.size ∉ [h1.objs.size,S]:=by
  rw[sz1];simp only[Â7,À0,or_false,not_or];exact⟨Ù (Ì2 _),Ê6 lS⟩
 refine Å ⟨Î4 F.plain_extend_loop _,codeAny_extend_loopS (v21 (P:=P) (by simp[hh]) hm hx hd nI).toS (by rw[Á3];omega) s.heap.objs.size nS _ (bts m).length 0 _ _ _ rfl (Æ6 _) ⟨off _ _ (Ù lS) (Ã _ oS),off _ _ (by rw[sz1];exact(Ù (Ì2 _)).symm) (Ê _ rfl)⟩ hL4 (ItemsOf.nil _) λs' acc c mv hS' it=>?_⟩
 refine À (m:=load s.heap.objs.size) (wpAny_load hS' (Å ?_));have ea:acc.toList=(ord w S ep (ent g m)).toList.map (·.2):=by
  refine List.ext_getElem? λj=>?_;rw[Û,õ,õ];cases e:acc[j]? with
  |none =>
   have hj:(bts m).length<=j:=by rw[← it.1];simpa using e
   have:(ord w S ep (ent g m))[j]?=none:=by simp[L00,d20,hj]
   rw[this];rfl
  |some v=>rw[it.2 j v e]
 rw[ea];obtain⟨h',g',d',tk',os'⟩:=s';have eg:g'=s.gens:=mv.gens;have ed:d'=s.drawn:=mv.drawn;have eo:os'=s.os:=mv.os;subst eg;subst ed;subst eo;refine hQ h' tk' (à hS') λb u e=>mv.heap b u (λz=>?_) (off b u (Ù (à e)) (Ã _ (hI ▸ Ã _ e)));have lb:=à e;simp only[Â7,À0,or_false] at z;rw[sz1] at z;rcases z with z | z
 ·exact Ù lb z
 ·exact Ù (Å1 lb) z
end
end SS
namespace Q
open PySem L2
abbrev Z:=Option (Int × Bool)
inductive S where
 |d (x:D) | fr (xs:List D) | z
inductive R (α:Type) where
 |ok (a:α) (z:Z) | er (c:Nat) (z:Z)
abbrev M(α:Type):=Z->Option (R α)
def M.ret{α:Type}(a:α):M α:=λz=>some (.ok a z)
def M.no{α:Type}:M α:=λ_=>none
def M.of{α:Type}:Option α->M α
 |some a=>M.ret a|none=>M.no
def M.bind{α β:Type}(m:M α)(f:α->M β):M β:=λz=>match m z with
 |some (.ok a z1)=>f a z1|some (.er c z1)=>some (.er c z1)|none=>none
def M.calm{α:Type}(m:M α):M α:=λz=>match m z with
 |some (.ok a z1)=>some (.ok a z1)|_=>none
abbrev Env:=List (Option S)
def pl:List S->Option D
 |[.d x]=>some x|[.fr xs]=>some (.lst xs)|_=>none
def one:List S->Option S
 |[s]=>some s|_=>none
def plS:S->S
 |.fr xs=>.d (.lst xs)|s=>s
def plD:S->Option D
 |.d x=>some x|.fr xs=>some (.lst xs)|.z=>none
def plA:List S->Option (List D)
 |[]=>some []|.d x::r=>(plA r).map (x::·)|.fr xs::r=>(plA r).map (.lst xs::·)|.z::_=>none
inductive Bi where
 |add | sub | mul | fdiv | mod | pow
inductive Cm where
 |eq | ne | lt | le | gt | ge | mem | nmem
inductive Bf where
 |len | sorted | tuple | list | min | max | all | int | sset | z32
inductive Ty where
 |int | bool | tuple | list | str | seq
inductive Pat where
 |v (i:Nat) | tup (ps:Pat) | nil | cons (p r:Pat)
inductive It where
 |seq | rng1 | rng2 | zip | enum
inductive Ex where
 |nil | cons (a r:Ex)
 |var (i:Nat) | con (x:D) | gint (g:Str) (i:Int)
 |tup (as:Ex) | lst (as:Ex)
 |bin (o:Bi) (a b:Ex) | cmp (o:Cm) (a b:Ex) | neg (a:Ex)
 |not (a:Ex) | and (a b:Ex) | or (a b:Ex) | orT (a b:Ex) | ite (c a b:Ex)
 |ch (o o':Cm) (a b c:Ex)
 |bf (f:Bf) (as:Ex) | isi (t:Ty) (a:Ex)
 |idx (a i:Ex) | sl (a lo hi:Ex) | rev (a:Ex)
 |call (f:Nat) (as:Ex)
 |comp (own:Nat) (capt:List Nat) (p:Pat) (it:It) (src cond el:Ex)
 |zget (i k:Nat) | lrng (b:Bool) (as:Ex)
 |refd (capt:List Nat) (a:Ex)
abbrev most:Nat:=100000
def O90:Nat:=2 ^ 4000
mutual
noncomputable def eqD:D->D->Bool
 |.non,.non=>true|.bl a,.bl b=>a == b|.int a,.int b=>a == b|.str a,.str b=>a == b|.bl a,.int b=>(if a then 1 else 0) == b|.int a,.bl b=>a == (if b then 1 else 0)|.tup a,.tup b=>L61 a b|.lst a,.lst b=>L61 a b|.dct,.dct=>true|_,_=>false
noncomputable def L61:List D->List D->Bool
 |[],[]=>true|a::r,b::q=>eqD a b&&L61 r q|_,_=>false
end
mutual
noncomputable def ltD:D->D->Option Bool
 |.int a,.int b=>some (decide (a < b))|.tup a,.tup b=>L71 a b|_,_=>none
noncomputable def L71:List D->List D->Option Bool
 |[],[]=>some false|[],_::_=>some true|_::_,[]=>some false|a::r,b::q=>if eqD a b then L71 r q else ltD a b
end
mutual
noncomputable def n00:D->Bool
 |.dct=>false|.tup l=>d90 l|.lst l=>d90 l|.str x=>PyData.strOk x|_=>true
noncomputable def d90:List D->Bool
 |[]=>true|x::r=>n00 x&&d90 r
end
mutual
noncomputable def deep:D->Nat
 |.tup l=>f00 l + 1|.lst l=>f00 l + 1|_=>0
noncomputable def f00:List D->Nat
 |[]=>0|x::r=>Ð8 (deep x) (f00 r)
end
def okD(d:D):Bool:=n00 d&&decide (deep d<=40)
def G10(l:List D):Bool:=d90 l&&decide (f00 l<=39)
theorem f50{c:Prop}[Decidable c]{α:Type}{a:Option α}{b:α}(h:(if c then a else none)=some b):c/\a=some b:=by
 by_cases k:c
 ·rw[if_pos k] at h;exact⟨k,h⟩
 ·rw[if_neg k] at h;cases h
def eqO(a b:D):Option Bool:=if okD a&&okD b then some (eqD a b) else none
def eqE:D->D->Option Bool
 |.tup l,.tup []=>some l.isEmpty|_,_=>none
def eqQ(a b:D):Option Bool:=if okD a&&okD b then some (eqD a b) else eqE a b
def ltO(a b:D):Option Bool:=if okD a&&okD b then ltD a b else none
def memD(x:D)(l:List D):Bool:=l.any λy=>eqD y x
def L81(x:D)(l:List D):Option Bool:=if okD x&&G10 l then some (memD x l) else none
def Z10:List D->Option (List Int)
 |[]=>some []|.int i::r=>(Z10 r).map (i::·)|_=>none
def A50:Bi->D->D->Option S
 |.add,.int i,.int j=>some (.d (.int (i + j)))|.add,.tup a,.tup b=>if a.length + b.length<=most then some (.d (.tup (a++b))) else none|.add,.lst a,.lst b=>if a.length + b.length<=most then some (.fr (a++b)) else none|.sub,.int i,.int j=>some (.d (.int (i - j)))|.mul,.int i,.int j=>if i.natAbs < O90/\j.natAbs < O90 then some (.d (.int (i * j))) else none|.mul,.tup a,.int j=>if 0<=j/\j.toNat * a.length<=most/\j < 1000000 then some (.d (.tup (ë j.toNat a).flatten)) else none|.mul,.lst a,.int j=>if 0<=j/\j.toNat * a.length<=most/\j < 1000000 then some (.fr (ë j.toNat a).flatten) else none|.fdiv,.int i,.int j=>if 0 < j/\j.natAbs < O90 then some (.d (.int (i / j))) else none|.mod,.int i,.int j=>if 0 < j then some (.d (.int (i % j))) else none|.pow,.int i,.int j=>if 0<=j/\j<=1000/\i.natAbs < 2 ^ 64 then some (.d (.int (i ^ j.toNat))) else none|_,_,_=>none
def p72:D->Bool
 |.non=>true|_=>false
def neO:D->D->Option Bool
 |.dct,.tup _=>some true|a,b=>(eqO a b).map (!·)
def D20:Cm->D->D->Option Bool
 |.eq,a,b=>eqQ a b|.ne,a,b=>neO a b|.lt,a,b=>ltO a b|.gt,.int a,.int b=>some (decide (b < a))|.le,.int a,.int b=>some (decide (a<=b))|.le,.tup a,.tup b=>(Z10 a).bind λns=>(Z10 b).map λms=>HT.leB ns ms|.ge,.int a,.int b=>some (decide (b<=a))|.mem,a,.tup l=>L81 a l|.mem,a,.lst l=>L81 a l|.nmem,a,.tup l=>(L81 a l).map (!·)|.nmem,a,.lst l=>(L81 a l).map (!·)|_,_,_=>none
def T11:Ty->D->Bool
 |.int,.int _=>true|.int,.bl _=>true|.bool,.bl _=>true|.tuple,.tup _=>true|.list,.lst _=>true|.str,.str _=>true|.seq,.tup _=>true|.seq,.lst _=>true|_,_=>false
def asB:D->Option Bool
 |.bl b=>some b|_=>none
def p82:D->Option (List D)
 |.tup l=>some l|_=>none
def asI:D->Option Int
 |.int i=>some i|_=>none
def m51:D->Option (List D)
 |.tup l=>some l|.lst l=>some l|_=>none
mutual
noncomputable def flt:D->List Int
 |.int i=>[i]|.tup l=>N42 l|_=>[]
noncomputable def N42:List D->List Int
 |[]=>[]|x::r=>flt x++N42 r
end
mutual
noncomputable def eqT:D->D->Bool
 |.int i,.int j=>i == j|.tup a,.tup b=>X00 a b|_,_=>false
noncomputable def X00:List D->List D->Bool
 |[],[]=>true|x::r,y::q=>eqT x y&&X00 r q|_,_=>false
end
def v31:D->Nat
 |.int _=>0|.tup (.int _::_)=>1|.tup (.tup _::_)=>2|_=>3
def i20(x y:D):Bool:=v31 y == v31 x&&(ltD x y == some (MySort.h20 (flt x) (flt y))&&(eqT x y || !(flt x == flt y)))
def n10(l:List D):Bool:=l.all λx=>decide (v31 x < 3)&&(okD x&&l.all (i20 x))
def p31(k:D):List D->List D
 |[]=>[k]|y::r=>if MySort.h20 (flt y) (flt k) then y::p31 k r else k::y::r
def u50:List D->List D
 |[]=>[]|k::r=>p31 k (u50 r)
def n20(k m:Nat):D:=.tup ((TS.C30 k 0 m).map λ(i:Nat)=>.int i)
def h30(k:Nat):List D:=(ì (2 ^ k)).map (n20 k)
def L91(k:Nat):List D:=(TS.sN k).map (n20 k)
def N52(l:List D):Option (List D):=((ì 9).find? λk=>X00 l (h30 k)).map L91
def sortedS(x:D):Option S:=(m51 x).bind λl=>if l.length < 64/\n10 l=true then some (.fr (u50 l)) else(N52 l).map S.fr
def D30:List D->Option (List Nat)
 |[]=>some []|.int i::r=>if 0<=i/\i < 8 then(D30 r).map (i.toNat::·) else none|_=>none
def bfD:Bf->List D->Option S
 |.len,[x]=>(m51 x).map λl=>.d (.int l.length)|.tuple,[x]=>(m51 x).map λl=>.d (.tup l)|.list,[x]=>(m51 x).map λl=>.fr l|.all,[.lst l]=>(l.mapM asB).map λbs=>.d (.bl (bs.all id))|.sorted,[x]=>sortedS x|.min,[.int i,.int j]=>some (.d (.int (if j < i then j else i)))|.max,[.int i,.int j]=>some (.d (.int (if j > i then j else i)))|.int,[.bl b]=>some (.d (.int (if b then 1 else 0)))|.int,[.int i]=>some (.d (.int i))|.sset,[x]=>(m51 x).bind λl=>(D30 l).map λns=>.fr (((ì 8).filter λi=>ns.contains i).map λ(n:Nat)=>.int n)|_,_=>none
def Z20:D->D->Option D
 |.tup l,.int i=>atI l i|.lst l,.int i=>atI l i|_,_=>none
def cutD(l:List D)(lo hi:Option Int):List D:=(l.drop (HT.sIx l.length 0 lo)).take (HT.sIx l.length l.length hi - HT.sIx l.length 0 lo)
def slD:D->Option Int->Option Int->Option S
 |.tup l,lo,hi=>some (.d (.tup (cutD l lo hi)))|.lst l,lo,hi=>some (.fr (cutD l lo hi))|_,_,_=>none
def N62:D->Option S
 |.tup l=>some (.d (.tup l.reverse))|.lst l=>some (.fr l.reverse)|_=>none
def v41:List S->Option (Option Int)
 |[]=>some none|[.d (.int i)]=>some (some i)|_=>none
def w80:List D->Nat->List D
 |[],_=>[]|x::r,i=>.tup [.int i,x]::w80 r (i + 1)
def n30:List D->List D->List D
 |x::r,y::q=>.tup [x,y]::n30 r q|_,_=>[]
def inR:Int->Bool
 |.ofNat n=>Nat.blt n 100000|.negSucc n=>Nat.blt n 99999
theorem L20:inR j=true↔-100000 < j/\j < 100000:=by
 cases j with
 |ofNat n=>show ble (n + 1) 100000=true↔_;rw[Nat.ble_eq];show _↔-100000 < (n:Int)/\(n:Int) < 100000;omega|negSucc n=>show ble (n + 1) 99999=true↔_;rw[Nat.ble_eq,Int.negSucc_eq];omega
def itD:It->List D->Option (List D)
 |.seq,[x]=>m51 x|.rng1,[.int j]=>if inR j=true then some ((ì j.toNat).map λ(i:Nat)=>D.int i) else none|.rng2,[.int i,.int j]=>if inR i=true/\inR j=true then some ((ì (j - i).toNat).map λ(k:Nat)=>D.int (i + k)) else none|.zip,[.tup a,.tup b]=>some (n30 a b)|.zip,[.lst a,.lst b]=>some (n30 a b)|.enum,[.tup a]=>some (w80 a 0)|.enum,[.lst a]=>some (w80 a 0)|_,_=>none
def lrS:Bool->List D->S
 |true,xs=>.d (.tup xs)|false,xs=>.fr xs
def lrN:Bool->Str
 |true=>"tuple"|false=>"list"
def lrD:List D->Option (List D)
 |[x]=>itD .rng1 [x]|l=>itD .rng2 l
mutual
noncomputable def e60:Pat->D->Env->Option Env
 |.v i=>λx ρ=>some (ρ.set i (some (.d x)))
 |.tup ps=>λx ρ=>match x with
  |.tup l=>bindL ps l ρ|_=>none
 |.nil=>λ_ _=>none|.cons _ _=>λ_ _=>none
noncomputable def bindL:Pat->List D->Env->Option Env
 |.nil=>λl ρ=>match l with
  |[]=>some ρ|_=>none
 |.cons p r=>λl ρ=>match l with
  |x::l=>(e60 p x ρ).bind λρ=>bindL r l ρ|_=>none
 |.v _=>λ_ _=>none|.tup _=>λ_ _=>none
end
def turns(f:D->M (Option D)):List D->M (List D)
 |[]=>M.ret []|x::r=>M.bind (f x) λo=>M.bind (turns f r) λl=>M.ret (match o with | some y=>y::l | none=>l)
def o50(fc fe:Env->M (List S))(p:Pat)(ρ0:Env)(x:D):M (Option D):=M.bind (M.of (e60 p x ρ0)) λρ'=>M.bind (fc ρ') λc=>match c with
 |[]=>M.bind (fe ρ') λy=>M.bind (M.of (pl y)) λy=>M.ret (some y)|[.d (.bl true)]=>M.bind (fe ρ') λy=>M.bind (M.of (pl y)) λy=>M.ret (some y)|[.d (.bl false)]=>M.ret none|_=>M.no
def v51(k:Nat):Option (Option S)->Z->Option (R (List S))
 |some (some .z),some p=>if k=0 then some (.ok [.d (.int p.1)] (some p)) else if k=1 then some (.ok [.d (.bl p.2)] (some p)) else none|_,_=>none
abbrev FT:=Bool->Nat->List S->M S
abbrev n40(F:FT):FT:=λ_=>F true
def M01(ρ:Env):List Nat->Option (List S)
 |[]=>some []
 |i::r=>match ρ[i]? with
  |some (some s)=>(M01 ρ r).map (s::·)|_=>none
def p92(o:Option (List S))(m:Env->M (List S)):M (List S):=λz=>match o with
 |none=>none
 |some ss=>match m (ss.map some) z with
  |some (.er c z1)=>if c < 12 then some (.ok [.fr [.int c]] z1) else none|_=>none
def ev:FT->Ex->Env->M (List S)
 |F,.nil=>λ_=>M.ret []|F,.cons a r=>λρ=>M.bind (ev F a ρ) λx=>M.bind (M.of (one x)) λs=>M.bind (ev F r ρ) λy=>M.ret (s::y)
 |F,.var i=>λρ=>match ρ[i]? with
  |some (some s)=>M.ret [plS s]|_=>M.no
 |F,.con x=>λ_=>M.ret [.d x]|F,.gint _ i=>λ_=>M.ret [.d (.int i)]|F,.tup as=>λρ=>M.bind (ev F as ρ) λl=>M.bind (M.of (plA l)) λds=>if ds.length<=most then M.ret [.d (.tup ds)] else M.no|F,.lst as=>λρ=>M.bind (ev F as ρ) λl=>M.bind (M.of (plA l)) λds=>if ds.length<=most then M.ret [.fr ds] else M.no|F,.bin o a b=>λρ=>M.bind (ev F a ρ) λx=>M.bind (M.of (pl x)) λx=>M.bind (ev F b ρ) λy=>M.bind (M.of (pl y)) λy=>M.bind (M.of (A50 o x y)) λs=>M.ret [s]|F,.cmp o a b=>λρ=>M.bind (ev F a ρ) λx=>M.bind (M.of (pl x)) λx=>M.bind (ev F b ρ) λy=>M.bind (M.of (pl y)) λy=>M.bind (M.of (D20 o x y)) λb=>M.ret [.d (.bl b)]|F,.neg a=>λρ=>M.bind (ev F a ρ) λx=>M.bind (M.of ((pl x).bind asI)) λi=>M.ret [.d (.int (-i))]|F,.not a=>λρ=>M.bind (ev F a ρ) λx=>M.bind (M.of ((pl x).bind asB)) λb=>M.ret [.d (.bl !b)]|F,.and a b=>λρ=>M.bind (ev F a ρ) λx=>M.bind (M.of ((pl x).bind asB)) λc=>if c then M.bind (ev F b ρ) λy=>M.bind (M.of ((pl y).bind asB)) λc=>M.ret [.d (.bl c)] else M.ret [.d (.bl false)]|F,.or a b=>λρ=>M.bind (ev F a ρ) λx=>M.bind (M.of ((pl x).bind asB)) λc=>if c then M.ret [.d (.bl true)] else M.bind (ev F b ρ) λy=>M.bind (M.of ((pl y).bind asB)) λc=>M.ret [.d (.bl c)]|F,.orT a b=>λρ=>M.calm (M.bind (ev F a ρ) λx=>M.bind (M.of ((pl x).bind p82)) λl=>if l.isEmpty then M.bind (ev F b ρ) λy=>M.bind (M.of ((pl y).bind p82)) λl=>M.ret [.d (.tup l)] else M.ret [.d (.tup l)])|F,.ite c a b=>λρ=>M.bind (ev F c ρ) λx=>M.bind (M.of ((pl x).bind asB)) λc=>if c then ev F a ρ else ev F b ρ
 |F,.ch o o' a b c=>λρ=>M.bind (ev F a ρ) λx=>M.bind (M.of (pl x)) λx=>M.bind (ev F b ρ) λy=>M.bind (M.of (pl y)) λy=>M.bind (M.of (D20 o x y)) λk =>
   if k then M.bind (ev F c ρ) λw=>M.bind (M.of (pl w)) λw=>M.bind (M.of (D20 o' y w)) λk=>M.ret [.d (.bl k)] else M.ret [.d (.bl false)]
 |F,.bf f as=>λρ=>M.bind (ev F as ρ) λl=>M.bind (M.of (plA l)) λds=>M.bind (M.of (bfD f ds)) λs=>M.ret [s]|F,.isi t a=>λρ=>M.bind (ev F a ρ) λx=>M.bind (M.of (pl x)) λx=>M.ret [.d (.bl (T11 t x))]|F,.idx a i=>λρ=>M.bind (ev F a ρ) λx=>M.bind (M.of (pl x)) λx=>M.bind (ev F i ρ) λy=>M.bind (M.of (pl y)) λy=>M.bind (M.of (Z20 x y)) λr=>M.ret [.d r]|F,.sl a lo hi=>λρ=>M.bind (ev F a ρ) λx=>M.bind (M.of (pl x)) λx=>M.bind (ev F lo ρ) λu=>M.bind (M.of (v41 u)) λu=>M.bind (ev F hi ρ) λv=>M.bind (M.of (v41 v)) λv=>M.bind (M.of (slD x u v)) λs=>M.ret [s]|F,.rev a=>λρ=>M.bind (ev F a ρ) λx=>M.bind (M.of ((pl x).bind N62)) λs=>M.ret [s]|F,.call f as=>λρ=>M.bind (ev F as ρ) λl=>M.bind (F false f (l.map plS)) λs=>M.ret [s]|F,.comp own capt p it src cond el=>λρ=>M.bind (ev F src ρ) λl=>M.bind (M.of ((plA l).bind (itD it))) λxs=>if xs.length<=most then M.bind (M.calm (turns (o50 (ev F cond) (ev F el) p (ë own none++capt.map λi=>(ρ[i]?).getD none)) xs)) λys=>M.ret [.fr ys] else M.no|F,.zget i k=>λρ z=>v51 k ρ[i]? z|F,.lrng b as=>λρ=>M.bind (ev F as ρ) λl=>M.bind (M.of ((plA l).bind lrD)) λxs=>M.ret [lrS b xs]|F,.refd capt a=>λρ=>p92 (M01 ρ capt) λρ'=>ev (n40 F) a ρ'
def R80(ρ:Env):Env:=ρ.map λo=>match o with
 |some .z=>none|o=>o
inductive Sm where
 |nil | seq (s r:Sm)
 |set (p:Pat) (e:Ex) | ret (e:Ex) | iff (c:Ex) (t e:Sm)
 |fr (p:Pat) (it:It) (src:Ex) (b:Sm) | whl (c:Ex) (b:Sm)
 |rais (c:Nat) | exp (e:Ex)
 |app (i:Nat) (e:Ex) | augi (i:Nat) (x e:Ex)
 |newz (i:Nat) (f:Nat) (as:Ex) | zset (i:Nat) (e:Ex)
inductive O where
 |nx (ρ:Env) | rt (s:S)
mutual
noncomputable def bare:D->Bool
 |.lst _=>false|.tup l=>n80 l|.dct=>false|_=>true
noncomputable def n80:List D->Bool
 |[]=>true|x::r=>bare x&&n80 r
end
def z90:S->Bool
 |.d x=>bare x|.fr xs=>n80 xs|.z=>true
def Z30(ρ:Env):Env:=ρ.map λo=>o.map plS
def L30(b:Bool):Option S->Option S
 |some (.fr xs)=>some (if b then .fr xs else .d (.lst xs))|o=>o
theorem R90(b:Bool)(ρ:Env):ρ.map (L30 b)=if b then ρ else Z30 ρ:=by
 have h:∀ o:Option S,L30 b o=if b then o else o.map plS:=λo=>by
  match o with
  |some (.fr xs)=>cases b <;> rfl
  |some (.d _)=>cases b <;> rfl
  |some .z=>cases b <;> rfl
  |none=>cases b <;> rfl
 rw[show L30 b=λo=>if b then o else o.map plS from funext h];cases b with
 |true=>exact map_id ρ|false=>rfl
def k80(s:S)(ρ:Env):Env:=ρ.map (L30 (z90 s))
def S00:Pat->S->Env->Option Env
 |p,.d x,ρ=>e60 p x ρ|.v i,s,ρ=>if i < ρ.length then some (ρ.set i (some s)) else none|_,_,_=>none
def X10(f:D->Env->M O):List D->Env->M O
 |[],ρ=>M.ret (.nx ρ)
 |x::r,ρ=>M.bind (f x ρ) λo=>match o with
  |.nx ρ=>X10 f r ρ|.rt s=>M.ret (.rt s)
def T21(c:Env->M (List S))(f:Env->M O):Nat->Env->M O
 |0,_=>M.no
 |n + 1,ρ=>M.bind (c ρ) λx=>M.bind (M.of ((pl x).bind asB)) λk=>if k then M.bind (f ρ) λo=>match o with
  |.nx ρ=>T21 c f n ρ|.rt s=>M.ret (.rt s)
  else M.ret (.nx ρ)
def ownAt(ρ:Env)(i:Nat):Option (List D):=match ρ[i]? with
 |some (some (.fr xs))=>some xs|_=>none
def G90(xs:List D)(i:Int)(y:D):Option (List D):=(ixN xs.length i).map λj=>xs.set j y
def b72:D->Bool
 |.tup l=>n80 l|.lst l=>n80 l|_=>true
def S10(l:List S):Bool:=match plA l with
 |some ds=>ds.all b72|none=>false
def noS:S->Option S
 |.z=>none|s=>some s
def b82:(it:It)->(e:Ex)->Option {i:Nat // it=.seq/\e=.cons (.var i) .nil}
 |.seq,.cons (.var i) .nil=>some ⟨i,rfl,rfl⟩|_,_=>none
def m61:List S->Bool
 |[]=>false|.d (.lst _)::_=>true|_::r=>m61 r
def S20(it:It)(e:Ex)(l:List S)(ρ:Env):Env:=match b82 it e with
 |some i=>ρ.set i.1 ((ρ[i.1]?.getD none).map plS)
 |none=>match m61 l with
  |true=>Z30 ρ|false=>ρ
def v61(it:It)(e:Ex)(l:List S)(ρ:Env):Env:=(S20 it e l ρ).map (L30 (S10 l))
abbrev j72:Nat:=20000
def v71(tp:Bool)(ρ:Env)(i:Nat):List S->Option (R O)
 |[.fr [.int n,.bl b]]=>if tp then some (.ok (.nx ((R80 ρ).set i (some .z))) (some (n,b))) else none|_=>none
def v81(ρ:Env)(v:Int):Option (Option S)->Z->Option (R O)
 |some (some .z),some p=>some (.ok (.nx ρ) (some (v,p.2)))|_,_=>none
def ex(F:FT)(tp:Bool):Sm->Env->M O
 |.nil=>λρ=>M.ret (.nx ρ)
 |.seq s r=>λρ=>M.bind (ex F tp s ρ) λo=>match o with
  |.nx ρ=>ex F tp r ρ|.rt s=>M.ret (.rt s)
 |.set p e=>λρ=>M.bind (ev F e ρ) λl=>M.bind (M.of (one l)) λs=>M.bind (M.of (S00 p s (k80 s ρ))) λρ=>M.ret (.nx ρ)
 |.ret e=>λρ=>match e with
  |.var i=>(match ρ[i]? with
   |some (some s)=>M.bind (M.of (noS s)) λs=>M.ret (.rt s)
   |_=>M.no)
  |e=>M.bind (ev F e ρ) λl=>M.bind (M.of ((one l).bind noS)) λs=>M.ret (.rt s)
 |.iff c t e=>λρ=>M.bind (ev F c ρ) λx=>M.bind (M.of ((pl x).bind asB)) λc=>if c then ex F tp t ρ else ex F tp e ρ|.fr p it src b=>λρ=>M.bind (ev F src ρ) λl=>M.bind (M.of ((plA l).bind (itD it))) λxs=>X10 (λx ρ=>M.bind (M.of (e60 p x ρ)) λρ=>ex F tp b ρ) xs (v61 it src l ρ)|.whl c b=>λρ=>T21 (ev F c) (ex F tp b) j72 ρ|.rais c=>λ_ z=>some (.er c z)|.exp e=>λρ=>M.bind (ev F e ρ) λl=>M.bind (M.of (one l)) λ_=>M.ret (.nx ρ)|.app i e=>λρ=>M.bind (M.of (ownAt ρ i)) λxs=>M.bind (ev F e ρ) λl=>M.bind (M.of (pl l)) λx=>if bare x=true/\xs.length < most then M.ret (.nx (ρ.set i (some (.fr (xs++[x]))))) else M.no
 |.augi i ix e=>λρ=>M.bind (M.of (ownAt ρ i)) λxs=>M.bind (ev F ix ρ) λj=>M.bind (M.of ((pl j).bind asI)) λj=>M.bind (M.of (atI xs j)) λy=>M.bind (ev F e ρ) λl=>M.bind (M.of (pl l)) λx =>
   M.bind (M.of ((asI x).bind λx=>(asI y).map λy=>D.int (y + x))) λv=>M.bind (M.of (G90 xs j v)) λxs=>M.ret (.nx (ρ.set i (some (.fr xs))))
 |.newz i f as=>λρ=>M.bind (ev F (.call f as) ρ) λl=>λ_=>v71 tp ρ i l|.zset i e=>λρ=>M.bind (ev F e ρ) λl=>M.bind (M.of ((pl l).bind asI)) λv=>λz=>v81 ρ v ρ[i]? z
inductive Df where
 |code (ps ns:Nat) (b:Sm) | prim (f:List S->M S)
def L40:Z->Z->Z
 |none,_=>none|some _,z=>z
def start(ns:Nat)(l:List S):Env:=l.map some++ë (ns - l.length) none
def run(F:FT):Df->List S->M S
 |.code ps ns b,l=>λz=>if l.length=ps/\ps<=ns then(match ex F z.isNone b (start ns (l.map plS)) z with
  |some (.ok (.nx _) z1)=>some (.ok (.d .non) (L40 z z1))|some (.ok (.rt s) z1)=>some (.ok s (L40 z z1))|some (.er c z1)=>some (.er c (L40 z z1))
  |none=>none) else none
 |.prim f,l=>f l
def b40(T:List Df):Nat->Nat->List S->M S
 |k + 3,f,l=>match T[f]? with
  |some d=>run (λb g m=>match b with | true=>b40 T k g m | false=>b40 T (k + 2) g m) d l
  |none=>M.no
 |_,_,_=>M.no
abbrev H00(T:List Df)(k:Nat):FT:=λb g m=>match b with | true=>b40 T (k - 2) g m | false=>b40 T k g m
theorem Z40(T:List Df)(k f:Nat)(l:List S):b40 T (k + 3) f l=match T[f]? with
  |some d=>run (H00 T (k + 2)) d l|none=>M.no:=rfl
end Q
namespace Q
open PySem L2 PySem.Spec PyProof.Rows
def q40(K:Â)(H:Hp)(a:Ç)(xs:List V):Prop:=Rd H a (.lst xs)∨∃ (its:Array Ä) (n:Nat),K.lookup a=some { cls:=.type "list",data:=.seq its n }/\its.size<=Ú/\Vals xs its.toList
theorem q40.of{K:Â}{H:Hp}{a:Ç}{xs:List V}(h:H a=some (.lst xs)):q40 K H a xs:=.inl (.inl h)
theorem q40.sq{K:Â}{H:Hp}{a:Ç}{xs:List V}(h:q40 K H a xs):SqL K H a xs:=by
 rcases h with h | ⟨its,n,h1,h2,h3⟩
 ·exact .inl h
 ·exact .inr ⟨_,its,n,h1,rfl,rfl,rfl,h2,h3⟩
theorem q40.same{K:Â}{H H':Hp}{a:Ç}{xs:List V}(h:q40 K H a xs)(e:a30 H H'):q40 K H' a xs:=by
 rcases h with (h | ⟨o,h⟩) | h
 ·exact .inl (.inl (e _ _ h))
 ·exact .inl (.inr ⟨o,e _ _ h⟩)
 ·exact .inr h
theorem q40.mem(I:Inv X pins σ H s)(h:q40 X.K H a xs):xs.length<=Ú/\∃ (its:List Ä) (n:Nat),Vals xs its/\xs.length=its.length/\s.heap.get? a=some { cls:=.type "list",data:=.seq its.toArray n }:=by
 rcases h with (h | ⟨o,h⟩) | ⟨its,n,h1,h2,h3⟩
 ·exact I.n52 h
 ·obtain⟨e,z,its,n,r,e2⟩:=I.hok a _ h;exact⟨z,its,n,r,r.length,e2⟩
 ·refine⟨by rw[h3.length,Ê7];exact h2,its.toList,n,h3,h3.length,?_⟩
  have:=I.kIn a _ h1;rw[Ð1];exact this
mutual
def Hd(K:Â)(H:Hp):D->V->Prop
 |.non,v=>v=.non|.bl b,v=>v=.bl b|.int i,v=>v=.int i|.str x,v=>v=.str x|.tup ds,v=>∃ a xs,v=.ref a/\SqT K H a xs/\HdA K H ds xs|.lst ds,v=>∃ a xs,v=.ref a/\q40 K H a xs/\HdA K H ds xs|.dct,v=>∃ a kvs,v=.ref a/\H a=some (.dK kvs)
def HdA(K:Â)(H:Hp):List D->List V->Prop
 |[],xs=>xs=[]|d::ds,xs=>∃ x r,xs=x::r/\Hd K H d x/\HdA K H ds r
end
section
variable {K:Â}{H H':Hp}
mutual
theorem Hd.same(e:a30 H H'):∀ {d:D}{v:V},Hd K H d v->Hd K H' d v
 |.non,_,h=>by unfold Hd at h ⊢;exact h|.bl _,_,h=>by unfold Hd at h ⊢;exact h|.int _,_,h=>by unfold Hd at h ⊢;exact h|.str _,_,h=>by unfold Hd at h ⊢;exact h
 |.tup ds,_,h=>by
  unfold Hd at h ⊢;obtain⟨a,xs,rfl,h1,h2⟩:=h;exact⟨a,xs,rfl,e.sqT h1,HdA.same e h2⟩
 |.lst ds,_,h=>by
  unfold Hd at h ⊢;obtain⟨a,xs,rfl,h1,h2⟩:=h;exact⟨a,xs,rfl,h1.same e,HdA.same e h2⟩
 |.dct,_,h=>by
  unfold Hd at h ⊢;obtain⟨a,kvs,rfl,h1⟩:=h;exact⟨a,kvs,rfl,e _ _ h1⟩
theorem HdA.same(e:a30 H H'):∀ {ds:List D}{xs:List V},HdA K H ds xs->HdA K H' ds xs
 |[],_,h=>by unfold HdA at h ⊢;exact h
 |d::ds,_,h=>by
  unfold HdA at h ⊢;obtain⟨x,r,rfl,h1,h2⟩:=h;exact⟨x,r,rfl,Hd.same e h1,HdA.same e h2⟩
end
mutual
theorem Hd.has:∀ {d:D}{v:V},Hd K H d v->Has K H d v
 |.non,_,h=>by unfold Hd at h;unfold Has;exact h|.bl _,_,h=>by unfold Hd at h;unfold Has;exact h|.int _,_,h=>by unfold Hd at h;unfold Has;exact h|.str _,_,h=>by unfold Hd at h;unfold Has;exact h
 |.tup ds,_,h=>by
  unfold Hd at h;unfold Has;obtain⟨a,xs,rfl,h1,h2⟩:=h;exact⟨a,xs,rfl,h1,HdA.has h2⟩
 |.lst ds,_,h=>by
  unfold Hd at h;unfold Has;obtain⟨a,xs,rfl,h1,h2⟩:=h;exact⟨a,xs,rfl,h1.sq,HdA.has h2⟩
 |.dct,_,h=>by unfold Hd at h;unfold Has;exact h
theorem HdA.has:∀ {ds:List D}{xs:List V},HdA K H ds xs->G50 K H ds xs
 |[],_,h=>by unfold HdA at h;unfold G50;exact h
 |d::ds,_,h=>by
  unfold HdA at h;unfold G50;obtain⟨x,r,rfl,h1,h2⟩:=h;exact⟨x,r,rfl,Hd.has h1,HdA.has h2⟩
end
theorem HdA.nil:HdA K H [] []:=by unfold HdA;rfl
theorem HdA.cons(h:Hd K H d x)(r:HdA K H ds xs):HdA K H (d::ds) (x::xs):=by unfold HdA;exact⟨x,xs,rfl,h,r⟩
theorem HdA.c30(h:HdA K H (d::ds) xs):∃ x r,xs=x::r/\Hd K H d x/\HdA K H ds r:=by unfold HdA at h;exact h
theorem HdA.f10(h:HdA K H [] xs):xs=[]:=by unfold HdA at h;exact h
theorem HdA.length:∀ {ds:List D}{xs:List V},HdA K H ds xs->xs.length=ds.length
 |[],_,h=>by rw[h.f10];rfl
 |d::ds,_,h=>by
  obtain⟨x,r,rfl,_,h2⟩:=h.c30;simp[h2.length]
theorem HdA.get:∀ {ds:List D}{xs:List V}{i:Nat}{d:D},HdA K H ds xs->ds[i]?=some d->∃ x,xs[i]?=some x/\Hd K H d x
 |[],_,_,_,_,e=>by simp at e
 |d::ds,_,i,d',h,e=>by
  obtain⟨y,r,rfl,h1,h2⟩:=h.c30;cases i with
  |zero=>simp at e;subst e;exact⟨y,rfl,h1⟩
  |succ i =>
   obtain⟨x',e1,e2⟩:=HdA.get (i:=i) h2 (by simpa using e)
   exact⟨x',by simpa using e1,e2⟩
theorem HdA.append:∀ {ds es:List D}{xs ys:List V},HdA K H ds xs->HdA K H es ys->HdA K H (ds++es) (xs++ys)
 |[],_,_,_,h,g=>by rw[h.f10];exact g
 |d::ds,_,_,_,h,g=>by
  obtain⟨x,r,rfl,h1,h2⟩:=h.c30;exact .cons h1 (HdA.append h2 g)
theorem HdA.take:∀ {ds:List D}{xs:List V} (n:Nat),HdA K H ds xs->HdA K H (ds.take n) (xs.take n)
 |ds,xs,0,_=>by simp;exact .nil|[],_,n + 1,h=>by rw[h.f10];simp;exact .nil
 |d::ds,_,n + 1,h=>by
  obtain⟨x,r,rfl,h1,h2⟩:=h.c30;exact .cons h1 (HdA.take n h2)
theorem HdA.drop:∀ {ds:List D}{xs:List V} (n:Nat),HdA K H ds xs->HdA K H (ds.drop n) (xs.drop n)
 |ds,xs,0,h=>by simpa using h|[],_,n + 1,h=>by rw[h.f10];simp;exact .nil
 |d::ds,_,n + 1,h=>by
  obtain⟨x,r,rfl,h1,h2⟩:=h.c30;exact HdA.drop n h2
theorem HdA.reverse:∀ {ds:List D}{xs:List V},HdA K H ds xs->HdA K H ds.reverse xs.reverse
 |[],_,h=>by rw[h.f10];simp;exact .nil
 |d::ds,_,h=>by
  obtain⟨x,r,rfl,h1,h2⟩:=h.c30;rw[Ô4,Ô4];exact(HdA.reverse h2).append (.cons h1 .nil)
theorem HdA.rep(h:HdA K H ds xs):∀ n:Nat,HdA K H (ë n ds).flatten (ë n xs).flatten
 |0=>by simp;exact .nil|n + 1=>by rw[Å5,Å5,É8,É8];exact h.append (h.rep n)
theorem HdA.set:∀ {ds:List D}{xs:List V}{d:D}{x:V} (i:Nat),HdA K H ds xs->Hd K H d x->HdA K H (ds.set i d) (xs.set i x)
 |[],_,_,_,_,h,_=>by rw[h.f10];simp;exact .nil
 |e::ds,_,d,x,i,h,g=>by
  obtain⟨y,r,rfl,h1,h2⟩:=h.c30;cases i with
  |zero=>exact .cons g h2|succ i=>exact .cons h1 (HdA.set i h2 g)
theorem HdA.ints:∀ ns:List Int,HdA K H (ns.map D.int) (ns.map V.int)
 |[]=>.nil|n::r=>.cons (by unfold Hd;rfl) (HdA.ints r)
theorem Hd.j00(h:Hd K H (.int i) v):v=.int i:=by unfold Hd at h;exact h
theorem Hd.bl_(h:Hd K H (.bl b) v):v=.bl b:=by unfold Hd at h;exact h
theorem Hd.F12(h:Hd K H .non v):v=.non:=by unfold Hd at h;exact h
theorem Hd.F22{x:Str}{v:V}(h:Hd K H (.str x) v):v=.str x:=by unfold Hd at h;exact h
theorem Hd.A00(h:Hd K H (.tup ds) v):∃ a xs,v=.ref a/\SqT K H a xs/\HdA K H ds xs:=by unfold Hd at h;exact h
theorem Hd.X20(h:Hd K H (.lst ds) v):∃ a xs,v=.ref a/\q40 K H a xs/\HdA K H ds xs:=by unfold Hd at h;exact h
theorem Hd.int:Hd K H (.int i) (.int i):=by unfold Hd;rfl
theorem Hd.bl:Hd K H (.bl b) (.bl b):=by unfold Hd;rfl
theorem Hd.non:Hd K H .non .non:=by unfold Hd;rfl
theorem Hd.str{x:Str}:Hd K H (.str x) (.str x):=by unfold Hd;rfl
theorem Hd.tup(h:SqT K H a xs)(r:HdA K H ds xs):Hd K H (.tup ds) (.ref a):=by unfold Hd;exact⟨a,xs,rfl,h,r⟩
theorem Hd.lst(h:H a=some (.lst xs))(r:HdA K H ds xs):Hd K H (.lst ds) (.ref a):=by unfold Hd;exact⟨a,xs,rfl,q40.of h,r⟩
end
def noT(H:Hp):Hp:=λb=>match H b with
 |some (.tbl _)=>none|o=>o
theorem S30(h:noT H b=some o):H b=some o/\∀ ps,o≠.tbl ps:=by
 unfold noT at h;split at h
 ·cases h
 ·rename_i n;exact⟨h,λps e=>n ps (by rw[h,e])⟩
theorem Z50(h:H b=some o)(n:∀ ps,o≠.tbl ps):noT H b=some o:=by
 unfold noT;split
 ·rename_i ps e;rw[h] at e;cases e;exact absurd rfl (n ps)
 ·exact h
theorem A60(H:Hp):a30 (noT H) H:=λ_ _ h=>(S30 h).1
theorem f21(e:a30 H H'):a30 (noT H) (noT H'):=λb o h=>Z50 (e b o (S30 h).1) (S30 h).2
def hz(zA:Option Ç)(H:Hp):Hp:=match zA with
 |some a=>hide a (noT H)|none=>noT H
class Tb where
 tb:List (Addr × Str)
variable [TB:Tb]
def zAt(zA:Option Ç)(z:Z)(H:Hp):Prop:=match zA,z with
 |some a,some (n,b)=>H a=some (.lst [.int n,.bl b])|none,none=>True|_,_=>False
structure d60(zA:Option Addr)(z:Z)(H:Hp):Prop where
 zat:zAt zA z H
 tab:∀ p∈TB.tb,Tab H p.1 p.2
theorem a10(zA:Option Ç)(H:Hp):a30 (hz zA H) H:=by
 cases zA with
 |none=>exact A60 H|some a=>exact a30.trans (e50 a _) (A60 H)
theorem k20(e:a30 H H'):a30 (hz zA H) (hz zA H'):=by
 cases zA with
 |none=>exact f21 e|some a=>exact C40 λb o _ h=>f21 e b o h
theorem d30(h:H b=some o)(n:zA≠some b)(ht:∀ ps,o≠.tbl ps:=by exact λ_ h=>nomatch h):hz zA H b=some o:=by
 cases zA with
 |none=>exact Z50 h ht|some a=>exact K30 (Z50 h ht) λe=>n (by rw[e])
theorem r10(h:hz zA H b=some o):H b=some o/\zA≠some b:=by
 cases zA with
 |none=>exact⟨A60 H b o h,λe=>nomatch e⟩
 |some a =>
  refine⟨A60 H b o (e50 a _ b o h),λe=>?_⟩;cases e;have:hide b (noT H) b=some o:=h;unfold hide at this;rw[if_pos rfl] at this;cases this
theorem r60(h:hz zA H b=some o):∀ ps,o≠.tbl ps:=by
 cases zA with
 |none=>exact(S30 h).2|some a=>exact(S30 (e50 a _ b o h)).2
structure Ext(zA:Option Addr)(H H':Hp):Prop where
 same:a30 (hz zA H) (hz zA H')
 tbl:∀ b ps,H b=some (.tbl ps)->∃ qs,H' b=some (.tbl qs)
instance {zA:Option Ç}{H H':Hp}:CoeFun (Ext zA H H') (λ_=>∀ b o,hz zA H b=some o->hz zA H' b=some o):=⟨λx=>x.same⟩
instance {zA:Option Ç}{H H':Hp}:CoeOut (Ext zA H H') (a30 (hz zA H) (hz zA H')):=⟨λx=>x.same⟩
theorem Ext.refl:Ext zA H H:=⟨a30.refl _,λb ps h=>⟨ps,h⟩⟩
theorem Ext.trans(a:Ext zA H H1)(b:Ext zA H1 H2):Ext zA H H2:=⟨a30.trans a.same b.same,λc ps h=>let ⟨qs,h1⟩:=a.tbl c ps h;b.tbl c qs h1⟩
theorem Ext.of(e:a30 H H'):Ext zA H H':=⟨k20 e,λb ps h=>⟨ps,e b _ h⟩⟩
theorem Ext.at(e:Ext zA H H')(h:H a=some o)(n:zA≠some a)(ht:∀ ps,o≠.tbl ps:=by exact λ_ h=>nomatch h):H' a=some o:=(r10 (e.same a o (d30 h n ht))).1
theorem Ext.free(e:Ext zA H H')(h:H' a=none)(n:zA≠some a):H a=none:=by
 cases q:H a with
 |none=>rfl
 |some o =>
  by_cases ht:∃ ps,o=.tbl ps
  ·obtain⟨ps,rfl⟩:=ht;obtain⟨qs,q'⟩:=e.tbl a ps q;rw[q'] at h;cases h
  ·rw[e.at q n λps z=>ht ⟨ps,z⟩] at h;cases h
theorem zAt.same(h:zAt zA z H)(e:a30 H H'):zAt zA z H':=by
 cases zA with
 |none=>cases z with
  |none=>trivial|some _=>exact h.elim
 |some a=>cases z with
  |none=>exact h.elim|some p=>exact e _ _ h
theorem d60.same(h:d60 zA z H)(e:a30 H H'):d60 zA z H':=⟨h.zat.same e,λp hp=>(h.tab p hp).same e⟩
theorem Tab.upd{H:Hp}{P a:Ç}{q:Str}{xs:List V}{o:HO}(t:Tab H P q)(h:H a=some (.lst xs)):Tab (upd H a o) P q:=by
 obtain⟨ps,e,tr,k⟩:=t;have ne:∀ {b:Ç}{u:HO},H b=some u->(∀ l,u≠.lst l)->b≠a:=λ{b u} e1 e2 z=>by
  subst z;rw[h] at e1;cases e1;exact e2 _ rfl
 refine⟨ps,by rw[a60 (ne e λ_ z=>nomatch z)];exact e,tr,λpos c hc=>?_⟩
 obtain⟨c',e1,e2⟩:=k pos c hc;exact⟨c',e1,by rw[a60 (ne e2 λ_ z=>nomatch z)];exact e2⟩
theorem d60.b92{K:Â}{zA:Option Ç}{z:Z}{H:Hp}(h:d60 zA z H){a:Ç}{xs:List V}(t:SqT K H a xs):SqT K (hz zA H) a xs:=by
 have h:=h.zat;rcases t with (t | ⟨o,t⟩) | t
 ·refine .inl (.inl (d30 t λe=>?_));subst e;cases z with
  |none=>exact h.elim
  |some p =>
   have h':H a=some (.lst [.int p.1,.bl p.2]):=h;rw[t] at h';cases h'
 ·refine .inl (.inr ⟨o,d30 t λe=>?_⟩);subst e;cases z with
  |none=>exact h.elim
  |some p =>
   have h':H a=some (.lst [.int p.1,.bl p.2]):=h;rw[t] at h';cases h'
 ·exact .inr t
theorem d60.v91(h:d60 zA z H)(n:H a=none):zA≠some a:=λe=>by
 have h:=h.zat;subst e;cases z with
 |none=>exact h.elim
 |some p =>
  have h':H a=some (.lst [.int p.1,.bl p.2]):=h;rw[n] at h';cases h'
def RvS(K:Â)(zA:Option Ç)(H0 H:Hp):S->V->Prop
 |.d x,v=>Hd K (hz zA H) x v|.fr xs,v=>∃ a ys,v=.ref a/\H0 a=none/\zA≠some a/\H a=some (.lst ys)/\HdA K (hide a (hz zA H)) xs ys|.z,v=>∃ a,zA=some a/\v=.ref a
def RvP(K:Â)(zA:Option Ç)(H:Hp):S->V->Prop
 |.d x,v=>Hd K (hz zA H) x v|.fr xs,v=>Hd K (hz zA H) (.lst xs) v|.z,v=>∃ a,zA=some a/\v=.ref a
section
variable {K:Â}{zA:Option Ç}{H0 H H':Hp}
theorem RvS.pl{s:S}{v:V}(h:RvS K zA H0 H s v):RvP K zA H s v:=by
 cases s with
 |d x=>exact h|z=>exact h
 |fr xs =>
  obtain⟨a,ys,rfl,_,h2,h3,h4⟩:=h;exact Hd.lst (d30 h3 h2) (h4.same (e50 a _))
theorem RvP.plS{s:S}{v:V}(h:RvP K zA H s v):RvP K zA H (plS s) v:=by cases s <;> exact h
theorem RvP.mono{s:S}{v:V}(h:RvP K zA H s v)(e:Ext zA H H'):RvP K zA H' s v:=by
 cases s with
 |d x=>exact Hd.same e h|z=>exact h|fr xs=>exact Hd.same e h
theorem RvS.mono{s:S}{v:V}(h:RvS K zA H0 H s v)(e:Ext zA H H'):RvS K zA H0 H' s v:=by
 cases s with
 |d x=>exact Hd.same e h|z=>exact h
 |fr xs =>
  obtain⟨a,ys,rfl,h1,h2,h3,h4⟩:=h;exact⟨a,ys,rfl,h1,h2,e.at h3 h2,h4.same (C40 λb o _ q=>e b o q)⟩
theorem RvS.from{H1:Hp}{s:S}{v:V}(h:RvS K zA H1 H s v)(e:Ext zA H0 H1):RvS K zA H0 H s v:=by
 cases s with
 |d x=>exact h|z=>exact h
 |fr xs =>
  obtain⟨a,ys,rfl,h1,h2,h3⟩:=h;exact⟨a,ys,rfl,e.free h1 h2,h2,h3⟩
theorem RvP.d_{s:S}{v:V}{x:D}(h:RvP K zA H s v)(e:plD s=some x):Hd K (hz zA H) x v:=by
 cases s with
 |d y=>cases e;exact h
 |fr xs=>cases e;exact h
 |z=>cases e
end
abbrev RvA(K:Â)(zA:Option Ç)(H:Hp):List S->List V->Prop:=Å9 (RvP K zA H)
theorem RvA.mono{K:Â}{zA:Option Ç}{H H':Hp}{l:List S}{vs:List V}(h:RvA K zA H l vs)(e:Ext zA H H'):RvA K zA H' l vs:=Å9.j52 h λ_ _ q=>q.mono e
theorem RvA.plS{K:Â}{zA:Option Ç}{H:Hp}:∀ {l:List S}{vs:List V},RvA K zA H l vs->RvA K zA H (l.map plS) vs
 |_,_,.nil=>.nil|_,_,.cons r t=>.cons r.plS (RvA.plS t)
theorem RvA.ds{K:Â}{zA:Option Ç}{H:Hp}:∀ {l:List S}{vs:List V}{ds:List D},RvA K zA H l vs->plA l=some ds->HdA K (hz zA H) ds vs
 |_,_,_,.nil,e=>by cases e;exact .nil
 |.d x::r,_,_,.cons h t,e=>by
  simp only[plA,Ô9] at e;obtain⟨l,e,rfl⟩:=e;exact .cons h (RvA.ds t e)
 |.fr x::r,_,_,.cons h t,e=>by
  simp only[plA,Ô9] at e;obtain⟨l,e,rfl⟩:=e;exact .cons h (RvA.ds t e)
 |.z::r,_,_,.cons h t,e=>by simp[plA] at e
theorem f30(h:pl l=some x):∃ s,l=[s]/\plD s=some x:=by
 unfold pl at h;split at h
 ·exact⟨_,rfl,h⟩
 ·exact⟨_,rfl,h⟩
 ·cases h
theorem M.bind_some{α β:Type}{m:M α}{f:α->M β}{z:Z}{r:R β}(h:M.bind m f z=some r):(∃ a z1,m z=some (.ok a z1)/\f a z1=some r)∨(∃ c z1,m z=some (.er c z1)/\r=.er c z1):=by
 unfold M.bind at h;split at h
 ·exact .inl ⟨_,_,by assumption,h⟩
 ·cases h;exact .inr ⟨_,_,by assumption,rfl⟩
 ·cases h
theorem M.a20{α β:Type}{o:Option α}{f:α->M β}{z:Z}{r:R β}(h:M.bind (M.of o) f z=some r):∃ a,o=some a/\f a z=some r:=by
 cases o with
 |none=>cases h
 |some a=>exact⟨a,rfl,h⟩
end Q
set_option exponentiation.threshold 5000
namespace Q
open PySem L2 PySem.Spec PyProof.Rows
variable [TB:Tb]
section
variable {K:Â}{zA:Option Ç}{z:Z}{H:Hp}
theorem M11(hp:H p=none):a30 (hz zA H) (hide p (hz zA (upd H p o))):=λb u e=>by
 obtain⟨e1,e2⟩:=r10 e;have hb:b≠p:=λq=>by subst q;rw[hp] at e1;cases e1
 exact K30 (d30 (by rw[a60 hb];exact e1) e2 (r60 e)) hb
theorem j50:RvS K zA H0 H (.d (.int i)) (.int i):=Hd.int (K:=K) (H:=hz zA H)
theorem j10:RvS K zA H0 H (.d (.bl b)) (.bl b):=Hd.bl (K:=K) (H:=hz zA H)
theorem G31(h:Hd K (hz zA H) x v):RvS K zA H0 H (.d x) v:=h
theorem n50(st:d60 zA z H)(h:HdA K (hz zA H) xs ys)(hp:H p=none):RvS K zA H (upd H p (.lst ys)) (.fr xs) (.ref p) :=
 ⟨p,ys,rfl,hp,st.v91 hp,b20,h.same (M11 hp)⟩
theorem tupQ(st:d60 zA z H)(h:HdA K (hz zA H) xs ys)(q:∀ v H',a30 H H'->RvS K zA H H' (.d (.tup xs)) v->Q v H'):J81 K H ys Q :=
 λp H' sm hq=>q _ _ sm (G31 (Hd.tup ((st.same sm).b92 hq) (h.same (k20 sm))))
end
def rD2(K:Â)(f:D->D->Option S):R2:=λx y H Q=>∃ zA z dx dy s,d60 zA z H/\Hd K (hz zA H) dx x/\Hd K (hz zA H) dy y/\f dx dy=some s/\∀ v H',a30 H H'->RvS K zA H H' s v->Q v H'
def rDn(K:Â)(f:List D->Option S):List V->Hp->VK->Prop:=λxs H Q=>∃ zA z ds s,d60 zA z H/\HdA K (hz zA H) ds xs/\f ds=some s/\∀ v H',a30 H H'->RvS K zA H H' s v->Q v H'
section
variable {X:Cx}
theorem bits_le(h:k.natAbs < O90):Þ4 k<=4000:=by
 unfold Þ4;split
 ·exact Æ6 _
 ·have hn:k.natAbs < 2 ^ 4000:=h;have:k.natAbs.log2 < 4000:=by
   rcases Nat.eq_zero_or_pos k.natAbs with h0 | hp
   ·rw[h0];decide
   ·exact(Nat.log2_lt (Ê6 hp)).mpr hn
  omega
theorem q02(hi:i.natAbs < O90)(hj:j.natAbs < O90):IntMulOk i j:=by
 have h1:=bits_le hi;have h2:=bits_le hj;unfold IntMulOk;intro h;rw[Á] at h;have h3:=h.2;unfold ÿ.Int.intTooBig at h3;simp only[decide_eq_true_eq] at h3;have:(8000:Nat) < bitsLine:=by decide
 omega
theorem w01(hj:j.natAbs < O90):ÿ.divisionGoesByPylong i j=false:=by
 refine PyProof.noPylong_of_log2 ?_;rcases Nat.eq_zero_or_pos j.natAbs with h0 | hp
 ·rw[h0];decide
 ·have:j.natAbs.log2 < 4000:=(Nat.log2_lt (Ê6 hp)).mpr hj;omega
theorem g20(h:n<=most):n<=sizeLine:=Ò h (by rw[Á3];decide)
def F32(K:Â):R2:=λx y H Q=>∃ l b xs zs,x=.ref l/\y=.ref b/\q40 K H l xs/\q40 K H b zs/\xs.length + zs.length<=Ú/\∀ p,H p=none->Q (.ref p) (upd H p (.lst (xs++zs)))
def F42(K:Â):R2:=λx y H Q=>∃ l k xs,x=.ref l/\y=.int k/\q40 K H l xs/\-(2 ^ 63)<=k/\k < 2 ^ 63/\xs.length * k.toNat<=Ú/\∀ p,H p=none->Q (.ref p) (upd H p (.lst (ë k.toNat xs).flatten))
theorem c02:OpR X (Ä2 .Add) (F32 X.K):=by
 intro pins s σ H x y v u Q I rx ry h;obtain⟨l,b,xs,zs,rfl,rfl,hH,hB,hz,q⟩:=h;cases rx;cases ry;obtain⟨z,its,n,r,hl,e⟩:=hH.mem I;obtain⟨z2,its2,n2,r2,hl2,e2⟩:=hB.mem I;refine PySem.P.add_list e e2 ?_ (by rw[Ó,Ó];omega)
 have ea:its.toArray++its2.toArray=(its++its2).toArray:=by simp
 rw[ea];exact⟨.ref _,_,I.D62 (t':=s.toks) (r.append r2) (by rw[Â0];omega),rfl,q _ I.fresh⟩
theorem c12:OpR X (Ä2 .Mult) (F42 X.K):=by
 intro pins s σ H x y v u Q I rx ry h;obtain⟨l,k,xs,rfl,rfl,hH,h1,h2,hz,q⟩:=h;cases rx;obtain⟨t,rfl⟩:=ry;obtain⟨z,its,n,r,hl,e⟩:=hH.mem I;have hlen:its.toArray.size * k.toNat<=sizeLine:=by rw[Ó,← hl];exact hz
 have hcap:¬ its.toArray.size * k.toNat > (2 ^ 63 - 1) / 8:=by
  have:(Ú:Nat)<=(2 ^ 63 - 1) / 8:=by decide
  omega
 have hfit:¬ (!ÿ.List.listFitsIndex k)=true:=by
  rw[fitsIndex_both h1 h2];exact Ð
 have hlong:¬ Í6 (its.toArray.size * k.toNat)=true:=by
  rw[H71 hlen];exact Ð
 have hnew:foldl (λx1 x2=>x1++x2) #[] (ë (if its.toArray.isEmpty=true then 0 else k.toNat) its.toArray)=(ë k.toNat its).flatten.toArray:=by
  have f0:∀ m:Nat,foldl (λx1 x2=>x1++x2) #[] (ë m its.toArray)=(ë m its).flatten.toArray:=λm=>by
   have:=foldl_rep its m [];rw[Í0] at this;exact this
  rw[f0];cases its with
  |nil=>simp|cons a r'=>rw[if_neg (by simp)]
 refine wpAny_binaryOp_repeat_ref (T:="list") (U:="int") (-0) ⟨_,e,rfl⟩ (λs'=>Û9 s' k t) noFill_list_mul F.fills_int_mul Õ5 repeat_list F.slot_int_index.lookup
  (È4 Õ5 (Û9 s k t) F.entry_int_rmul (F.args_int_rmul_2 _ _) (int___rmul___int_list k t l its.toArray n)
   ⟨e,rfl,⟨_,e,rfl⟩,È4 F.slot_list_mul ⟨_,e,rfl⟩ F.entry_list_mul (F.args_list_mul_2 _ _) (AutoListH.list___mul___list_int_3 l its.toArray n k t hfit hcap hlong) ⟨e,?_⟩⟩)
 rw[hnew];exact⟨.ref _,_,I.D62 (t':=s.toks) (r.rep k.toNat) (by rw[len_rep,Ó8];exact hz),rfl,q _ I.fresh⟩
theorem c22:OpR X (Ä2 .Add) (rD2 X.K (A50 .add)):=by
 intro pins s σ H x y v u Q I rx ry h;obtain⟨zA,z,dx,dy,w,st,hx,hy,e,q⟩:=h;cases dx with
 |int i =>
  cases dy with
  |int j =>
   cases e;cases hx.j00;cases hy.j00;exact m52 pins s σ H _ _ v u Q I rx ry ⟨i,j,rfl,rfl,q _ _ (a30.refl H) j50⟩
  |_=>cases e
 |tup a =>
  cases dy with
  |tup b =>
   obtain⟨hl,e⟩:=f50 e;cases e;obtain⟨p,xs,rfl,h1,h2⟩:=hx.A00;obtain⟨p',ys,rfl,h3,h4⟩:=hy.A00;exact Z61 pins s σ H _ _ v u Q I rx ry ⟨p,p',xs,ys,rfl,rfl,(a10 zA H).sqT h1,(a10 zA H).sqT h3,g20 (by rw[h2.length,h4.length];exact hl),tupQ st (h2.append h4) q⟩
  |_=>cases e
 |lst a =>
  cases dy with
  |lst b =>
   obtain⟨hl,e⟩:=f50 e;cases e;obtain⟨p,xs,rfl,h1,h2⟩:=hx.X20;obtain⟨p',ys,rfl,h3,h4⟩:=hy.X20;exact c02 pins s σ H _ _ v u Q I rx ry ⟨p,p',xs,ys,rfl,rfl,h1.same (a10 zA H),h3.same (a10 zA H),g20 (by rw[h2.length,h4.length];exact hl),λr hr=>q _ _ (a30.new _ hr) (n50 st (h2.append h4) hr)⟩
  |_=>cases e
 |_=>cases e
theorem c32:OpR X (Ä2 .Sub) (rD2 X.K (A50 .sub)):=by
 intro pins s σ H x y v u Q I rx ry h;obtain⟨zA,z,dx,dy,w,st,hx,hy,e,q⟩:=h;cases dx with
 |int i =>
  cases dy with
  |int j =>
   cases e;cases hx.j00;cases hy.j00;exact m62 pins s σ H _ _ v u Q I rx ry ⟨i,j,rfl,rfl,q _ _ (a30.refl H) j50⟩
  |_=>cases e
 |_=>cases e
theorem c42:OpR X (Ä2 .Mult) (rD2 X.K (A50 .mul)):=by
 intro pins s σ H x y v u Q I rx ry h;obtain⟨zA,z,dx,dy,w,st,hx,hy,e,q⟩:=h;cases dx with
 |int i =>
  cases dy with
  |int j =>
   obtain⟨hl,e⟩:=f50 e;cases e;cases hx.j00;cases hy.j00;obtain⟨t,rfl⟩:=rx;obtain⟨t',rfl⟩:=ry;exact mul_int ⟨.int (i * j),H,I.tok _,⟨_,rfl⟩,q _ _ (a30.refl H) j50⟩ (q02 hl.1 hl.2)
  |_=>cases e
 |tup a =>
  cases dy with
  |int j =>
   obtain⟨hl,e⟩:=f50 e;cases e;cases hy.j00;obtain⟨p,xs,rfl,h1,h2⟩:=hx.A00;exact Z71 pins s σ H _ _ v u Q I rx ry ⟨p,j,xs,rfl,rfl,(a10 zA H).sqT h1,hl.1,hl.2.2,g20 (by rw[h2.length];exact hl.2.1),tupQ st (h2.rep _) q⟩
  |_=>cases e
 |lst a =>
  cases dy with
  |int j =>
   obtain⟨hl,e⟩:=f50 e;cases e;cases hy.j00;obtain⟨p,xs,rfl,h1,h2⟩:=hx.X20;exact c12 pins s σ H _ _ v u Q I rx ry ⟨p,j,xs,rfl,rfl,h1.same (a10 zA H),by omega,by omega,g20 (by rw[h2.length,Ó8];exact hl.2.1),λr hr=>q _ _ (a30.new _ hr) (n50 st (h2.rep _) hr)⟩
  |_=>cases e
 |_=>cases e
theorem M21:OpR X (Ä2 .FloorDiv) (rD2 X.K (A50 .fdiv)):=by
 intro pins s σ H x y v u Q I rx ry h;obtain⟨zA,z,dx,dy,w,st,hx,hy,e,q⟩:=h;cases dx with
 |int i =>
  cases dy with
  |int j =>
   obtain⟨hl,e⟩:=f50 e;cases e;cases hx.j00;cases hy.j00;obtain⟨t,rfl⟩:=rx;obtain⟨t',rfl⟩:=ry;refine floordiv_int ∅ ⟨.int (i / j),H,I.tok _,⟨s.toks,?_⟩,q _ _ (a30.refl H) j50⟩ (.inl (w01 hl.2))
   rw[Int.fdiv_eq_ediv_of_nonneg _ ∅]
  |_=>cases e
 |_=>cases e
theorem c52:OpR X (Ä2 .Mod) (rD2 X.K (A50 .mod)):=by
 intro pins s σ H x y v u Q I rx ry h;obtain⟨zA,z,dx,dy,w,st,hx,hy,e,q⟩:=h;cases dx with
 |int i =>
  cases dy with
  |int j =>
   obtain⟨hl,e⟩:=f50 e;cases e;cases hx.j00;cases hy.j00;exact m72 pins s σ H _ _ v u Q I rx ry ⟨i,j,rfl,rfl,hl,q _ _ (a30.refl H) j50⟩
  |_=>cases e
 |_=>cases e
theorem c62:OpR X (Ä2 .Pow) (rD2 X.K (A50 .pow)):=by
 intro pins s σ H x y v u Q I rx ry h;obtain⟨zA,z,dx,dy,w,st,hx,hy,e,q⟩:=h;cases dx with
 |int i =>
  cases dy with
  |int j =>
   obtain⟨hl,e⟩:=f50 e;cases e;cases hx.j00;cases hy.j00;exact m82 pins s σ H _ _ v u Q I rx ry ⟨i,j,rfl,rfl,⟨hl.1,by omega,hl.2.2⟩,q _ _ (a30.refl H) j50⟩
  |_=>cases e
 |_=>cases e
def opB:Bi->Ý4
 |.add=>.Add | .sub=>.Sub | .mul=>.Mult | .fdiv=>.FloorDiv | .mod=>.Mod | .pow=>.Pow
theorem opD(o:Bi):OpR X (Ä2 (opB o)) (rD2 X.K (A50 o)):=by
 cases o
 ·exact c22
 ·exact c32
 ·exact c42
 ·exact M21
 ·exact c52
 ·exact c62
mutual
noncomputable def toP:D->PyData
 |.non=>.none|.bl b=>.bool b|.int i=>.int i|.str x=>.str x|.tup l=>.tuple (P00 l)|.lst l=>.list (P00 l)|.dct=>.none
noncomputable def P00:List D->List PyData
 |[]=>[]|x::r=>toP x::P00 r
end
end
end Q
namespace Q
open PySem L2 PySem.Spec PyProof.Rows
variable [TB:Tb]
mutual
theorem S40:∀ a b:D,n00 a=true->n00 b=true->Ü6 (toP a) (toP b)=eqD a b
 |.non,b,_,h=>by cases b <;> first | rfl | (simp[n00] at h)
 |.bl _,b,_,h=>by cases b <;> first | rfl | (simp[n00] at h)
 |.int _,b,_,h=>by cases b <;> first | rfl | (simp[n00] at h)
 |.str _,b,_,h=>by cases b <;> first | rfl | (simp[n00] at h)
 |.tup l,b,ha,h=>by
  cases b with
  |tup q =>
   exact Z60 l q (by simpa [n00] using ha) (by simpa [n00] using h)
  |dct=>simp[n00] at h|_=>rfl
 |.lst l,b,ha,h=>by
  cases b with
  |lst q =>
   exact Z60 l q (by simpa [n00] using ha) (by simpa [n00] using h)
  |dct=>simp[n00] at h|_=>rfl
 |.dct,_,h,_=>by simp[n00] at h
theorem Z60:∀ a b:List D,d90 a=true->d90 b=true->PyData.eqvAll (P00 a) (P00 b)=L61 a b
 |[],[],_,_=>rfl|[],_::_,_,_=>rfl|_::_,[],_,_=>rfl
 |x::r,y::q,ha,hb=>by
  simp only[d90,Á] at ha hb;simp only[P00,PyData.eqvAll,L61];rw[S40 x y ha.1 hb.1,Z60 r q ha.2 hb.2]
end
mutual
theorem y30:∀ a:D,n00 a=true->(toP a).canLay0=true
 |.non,_=>rfl|.bl _,_=>rfl|.int _,_=>rfl|.str _,h=>h|.tup l,h=>s30 l h|.lst l,h=>s30 l h|.dct,h=>by cases h
theorem s30:∀ a:List D,d90 a=true->PyData.canLayAll0 (P00 a)=true
 |[],_=>rfl
 |x::r,h=>by
  simp only[d90,Á] at h;simp only[P00,PyData.canLayAll0,y30 x h.1,s30 r h.2,Bool.and_self]
end
mutual
theorem L50:∀ a:D,(toP a).depth=deep a
 |.non=>rfl|.bl _=>rfl|.int _=>rfl|.str _=>rfl|.tup l=>congrArg (· + 1) (L60 l)|.lst l=>congrArg (· + 1) (L60 l)|.dct=>rfl
theorem L60:∀ a:List D,Ò8 (P00 a)=f00 a
 |[]=>rfl
 |x::r=>by
  simp only[P00,Ò8,f00];rw[L50 x,L60 r]
end
def m71(h:é)(u:Ä)(d:D):Prop:=n00 d=true/\∃ as,Reads h u (toP d) as
def e00(h:é)(us:List Ä)(ds:List D):Prop:=d90 ds=true/\∃ as,ReadsAll h us (P00 ds) as
section
variable {X:Cx}{pins:List (Ç × Obj)}{σ:L2.St}{H:Hp}{s:Æ}
mutual
theorem i30(I:Inv X pins σ H s):∀ {d:D}{v:V}{u:Ä},Hd X.K H d v->RelV v u->n00 d=true->∃ as,Reads s.heap u (toP d) as
 |.non,_,_,h,r,_=>by cases h.F12;cases r;exact⟨_,.none⟩
 |.bl b,_,_,h,r,_=>by cases h.bl_;cases r;exact⟨_,.bool b⟩
 |.int i,_,_,h,r,_=>by cases h.j00;obtain⟨t,rfl⟩:=r;exact⟨_,.int i t⟩
 |.str x,_,_,h,r,_=>by cases h.F22;obtain⟨t,rfl⟩:=r;exact⟨_,.str x t⟩
 |.tup l,_,_,h,r,f=>by
  obtain⟨a,xs,rfl,h1,h2⟩:=h.A00;cases r;obtain⟨its,rv,⟨o,e1,e2,n,e3⟩,_⟩:=I.tuple h1;obtain⟨as,ra⟩:=D40 I h2 rv f;exact⟨_,.tuple e1 e2 e3 (by simpa using ra)⟩
 |.lst l,_,_,h,r,f=>by
  obtain⟨a,xs,rfl,h1,h2⟩:=h.X20;cases r;obtain⟨its,rv,⟨o,n,e1,e2,_,e3⟩,_⟩:=I.list h1.sq;obtain⟨as,ra⟩:=D40 I h2 rv f;exact⟨_,.list e1 e2 e3 (by simpa using ra)⟩
 |.dct,_,_,_,_,f=>by cases f
theorem D40(I:Inv X pins σ H s):∀ {ds:List D}{vs:List V}{us:List Ä},HdA X.K H ds vs->Vals vs us->d90 ds=true->∃ as,ReadsAll s.heap us (P00 ds) as
 |[],_,_,h,r,_=>by cases h.f10;cases r;exact⟨_,.nil⟩
 |d::ds,_,_,h,r,f=>by
  obtain⟨x,xs,rfl,h1,h2⟩:=h.c30;cases r with
  |cons r1 r2 =>
   simp only[d90,Á] at f;obtain⟨_,a1⟩:=i30 I h1 r1 f.1;obtain⟨_,a2⟩:=D40 I h2 r2 f.2;exact⟨_,.cons a1 a2⟩
end
end
theorem o60(h:okD d=true):n00 d=true/\SeqAt.shaped (toP d)=true:=by
 unfold okD at h;rw[Á,decide_eq_true_eq] at h;refine⟨h.1,?_⟩;unfold SeqAt.shaped;rw[y30 d h.1,L50,Å0,decide_eq_true_eq];omega
section
variable {X:Cx}
theorem q12(h:eqE a b=some c):∃ l,a=.tup l/\b=.tup []/\c=l.isEmpty:=by
 unfold eqE at h;split at h
 ·cases h;exact⟨_,rfl,rfl,rfl⟩
 ·cases h
theorem q22(hu:X.A.units + 64 < Å8):OpR X (ü .Eq) (rD2 X.K λa b=>(eqQ a b).map λc=>.d (.bl c)):=by
 intro pins s σ H x y v u Q I rx ry h;obtain⟨zA,z,dx,dy,w,st,hx,hy,e,q⟩:=h;unfold eqQ at e;dsimp only at e;split at e
 ·rename_i ok;cases e;rw[Á] at ok;obtain⟨f1,s1⟩:=o60 ok.1;obtain⟨f2,s2⟩:=o60 ok.2;obtain⟨as,r1⟩:=i30 I (hx.same (a10 zA H)) rx f1;obtain⟨bs,r2⟩:=i30 I (hy.same (a10 zA H)) ry f2;exact eq_dataH r1 r2 s1 s2 hu ⟨.bl _,H,I,rfl,by rw[S40 dx dy f1 f2];exact q _ _ (a30.refl H) j10⟩
 ·obtain⟨c,h1,h2⟩:=Ì.mp e;obtain⟨l,rfl,rfl,rfl⟩:=q12 h1;subst h2;obtain⟨a,xs,rfl,k1,k2⟩:=hx.A00;obtain⟨b,ys,rfl,k3,k4⟩:=hy.A00;cases k4.f10;cases rx;cases ry;obtain⟨its,rv,ht,_⟩:=I.tuple ((a10 zA H).sqT k1);obtain⟨iu,ru,hu2,_⟩:=I.tuple ((a10 zA H).sqT k3);cases ru;have e1:its.length=l.length:=by rw[← rv.length,k2.length]
  refine SeqAt.eq_tupleAt (e:=λ_=>true) ht hu2 ∅ (λj _ h2=>absurd h2 (Ö0 j)) ⟨.bl _,H,I,rfl,?_⟩
  have e2:((ì (min its.toArray.size ([]:List Ä).toArray.size)).all (λ_=>true)&&its.toArray.size == ([]:List Ä).toArray.size)=l.isEmpty:=by
   simp only[Ó,Á1,Nat.min_zero,List.range_zero,all_nil,Å0,e1];cases l <;> rfl
  rw[e2];exact q _ _ (a30.refl H) j10
theorem q32(hu:X.A.units + 64 < Å8):OpR X (ü .NotEq) (rD2 X.K λa b=>(eqO a b).map λc=>.d (.bl !c)):=by
 intro pins s σ H x y v u Q I rx ry h;obtain⟨zA,z,dx,dy,w,st,hx,hy,e,q⟩:=h;unfold eqO at e;dsimp only at e;split at e
 ·rename_i ok;cases e;rw[Á] at ok;obtain⟨f1,s1⟩:=o60 ok.1;obtain⟨f2,s2⟩:=o60 ok.2;obtain⟨as,r1⟩:=i30 I (hx.same (a10 zA H)) rx f1;obtain⟨bs,r2⟩:=i30 I (hy.same (a10 zA H)) ry f2;exact ne_dataH r1 r2 s1 s2 hu ⟨.bl _,H,I,rfl,by rw[S40 dx dy f1 f2];exact q _ _ (a30.refl H) j10⟩
 ·cases e
theorem c72(hu:X.A.units + 64 < Å8):OpR X (ü .NotEq) (rD2 X.K λa b=>(neO a b).map λc=>.d (.bl c)):=by
 intro pins s σ H x y v u Q I rx ry h;obtain⟨zA,z,dx,dy,w,st,hx,hy,e,q⟩:=h;unfold neO at e;dsimp only at e;split at e
 ·cases e;unfold Hd at hx;obtain⟨a,kvs,rfl,h1⟩:=hx;obtain⟨b,xs,rfl,h2,_⟩:=hy.A00;exact a22 hu pins s σ H _ _ v u Q I rx ry ⟨a,b,kvs,xs,rfl,rfl,(r10 h1).1,(a10 zA H).sqT h2,q _ _ (a30.refl H) j10⟩
 ·refine q32 hu pins s σ H _ _ v u Q I rx ry ⟨zA,z,dx,dy,w,st,hx,hy,?_,q⟩;rw[← e,Option.map_map];rfl
end
theorem L70(h:G10 l=true):d90 l=true/\f00 l<=39:=by
 unfold G10 at h;rw[Á,decide_eq_true_eq] at h;exact h
theorem L80(h:okD d=true):deep d<=40:=by
 unfold okD at h;rw[Á,decide_eq_true_eq] at h;exact h.2
theorem D50(x:D)(fx:n00 x=true):∀ l:List D,d90 l=true->((P00 l).any λy=>Ü6 y (toP x))=memD x l
 |[],_=>rfl
 |y::r,h=>by
  simp only[d90,Á] at h;show(Ü6 (toP y) (toP x) || (P00 r).any λy=>Ü6 y (toP x))=(eqD y x || memD x r);rw[S40 y x h.1 fx,D50 x fx r h.2]
section
variable {X:Cx}
theorem L90(h:L81 x l=some b):okD x=true/\G10 l=true/\b=memD x l:=by
 unfold L81 at h;split at h
 ·rename_i ok;rw[Á] at ok;cases h;exact⟨ok.1,ok.2,rfl⟩
 ·cases h
theorem room_in{A:ø}(hu:A.units + 64 < Å8){l:List D}{x:D}(h:okD x=true):A.units + 1 + min (Ò8 (P00 l)) (toP x).depth < cLine:=by
 have h1:=L80 h;have h2:min (Ò8 (P00 l)) (toP x).depth<=(toP x).depth:=Nat.min_le_right _ _;have h3:=L50 x;omega
theorem c82(hu:X.A.units + 64 < Å8):OpR X (ü .In) (rD2 X.K λa b=>(D20 .mem a b).map λc=>.d (.bl c)):=by
 intro pins s σ H x y v u Q I rx ry h;obtain⟨zA,z,dx,dy,w,st,hx,hy,e,q⟩:=h;cases dy with
 |tup l =>
  obtain⟨b,e1,e2⟩:=Ì.mp e;subst e2;obtain⟨o1,o2,rfl⟩:=L90 e1;obtain⟨f2,_⟩:=L70 o2;obtain⟨f1,_⟩:=o60 o1;obtain⟨as,r1⟩:=i30 I (hx.same (a10 zA H)) rx f1;obtain⟨bs,r2⟩:=i30 I (hy.same (a10 zA H)) ry (by simpa [n00] using f2)
  exact SeqAt.in_tuple_reads r2 r1 (s30 l f2) (y30 dx f1) (room_in hu o1) ⟨.bl _,H,I,rfl,by rw[D50 dx f1 l f2];exact q _ _ (a30.refl H) j10⟩
 |lst l =>
  obtain⟨b,e1,e2⟩:=Ì.mp e;subst e2;obtain⟨o1,o2,rfl⟩:=L90 e1;obtain⟨f2,_⟩:=L70 o2;obtain⟨f1,_⟩:=o60 o1;obtain⟨as,r1⟩:=i30 I (hx.same (a10 zA H)) rx f1;obtain⟨bs,r2⟩:=i30 I (hy.same (a10 zA H)) ry (by simpa [n00] using f2)
  exact SeqAt.in_list_reads r2 r1 (s30 l f2) (y30 dx f1) (room_in hu o1) ⟨.bl _,H,I,rfl,by rw[D50 dx f1 l f2];exact q _ _ (a30.refl H) j10⟩
 |_=>cases e
theorem M31(hu:X.A.units + 64 < Å8):OpR X (ü .NotIn) (rD2 X.K λa b=>(D20 .nmem a b).map λc=>.d (.bl c)):=by
 intro pins s σ H x y v u Q I rx ry h;obtain⟨zA,z,dx,dy,w,st,hx,hy,e,q⟩:=h;cases dy with
 |tup l =>
  obtain⟨b,e1,e2⟩:=Ì.mp e;subst e2;obtain⟨b',e3,rfl⟩:=Ì.mp e1;obtain⟨o1,o2,rfl⟩:=L90 e3;obtain⟨f2,_⟩:=L70 o2;obtain⟨f1,_⟩:=o60 o1;obtain⟨as,r1⟩:=i30 I (hx.same (a10 zA H)) rx f1;obtain⟨bs,r2⟩:=i30 I (hy.same (a10 zA H)) ry (by simpa [n00] using f2)
  exact SeqAt.notIn_tuple_reads r2 r1 (s30 l f2) (y30 dx f1) (room_in hu o1) ⟨.bl _,H,I,rfl,by rw[D50 dx f1 l f2];exact q _ _ (a30.refl H) j10⟩
 |lst l =>
  obtain⟨b,e1,e2⟩:=Ì.mp e;subst e2;obtain⟨b',e3,rfl⟩:=Ì.mp e1;obtain⟨o1,o2,rfl⟩:=L90 e3;obtain⟨f2,_⟩:=L70 o2;obtain⟨f1,_⟩:=o60 o1;obtain⟨as,r1⟩:=i30 I (hx.same (a10 zA H)) rx f1;obtain⟨bs,r2⟩:=i30 I (hy.same (a10 zA H)) ry (by simpa [n00] using f2)
  exact SeqAt.notIn_list_reads r2 r1 (s30 l f2) (y30 dx f1) (room_in hu o1) ⟨.bl _,H,I,rfl,by rw[D50 dx f1 l f2];exact q _ _ (a30.refl H) j10⟩
 |_=>cases e
end
end Q
namespace Q
open PySem L2 PySem.Spec PyProof.Rows
variable [TB:Tb]
def F52(A:ø)(s:Æ)(v u:Ä)(b:Bool):Prop:=∀ (P:Ý) (w:ç) (E:Ä->Æ->Prop) (Q:Ä->Æ->Prop),Q (.bool b) s->Î (Ô P w) A (richCompare .Lt v u) Q E s
section
open PySem.SeqAt
open PySem.AutoSeq1 (wpAny_loadPart')
open PySem.MeetsSeq PySem.MeetsSeq2 PySem.MeetsSeq3
inductive Lx (A:Around) (s:Shared):List Value->List Value->Bool->Prop
 |nn:Lx A s [] [] false
 |nc {u us}:Lx A s [] (u::us) true
 |cn {v vs}:Lx A s (v::vs) [] false
 |eq {v u vs us b}:EqAt A s v u true->Lx A s vs us b->Lx A s (v::vs) (u::us) b
 |ne {v u vs us b}:EqAt A s v u false->F52 A s v u b->Lx A s (v::vs) (u::us) b
theorem D60(l b:Ç)(items items2:Array Ä)(n n2:Nat)(dd dd2:Option Ç)(sl sl2:Array (Option Ä))(c:Bool) :
  Meets (ÿ.«tuple.__lt__» ⟨[.ref l,.ref b],[]⟩)
   (λA R s=>s.heap.get? l=some { cls:=.type "tuple",dict:=dd,data:=.seq items n,slots:=sl }/\s.heap.get? b=some { cls:=.type "tuple",dict:=dd2,data:=.seq items2 n2,slots:=sl2 } /\
    Lx A.in1 s items.toList items2.toList c/\R (.ok (.ret (.bool c))) s) :=
 .of_wp λprog w A R s h=>by
  obtain⟨hp,g,d,tk,os⟩:=s;obtain⟨hl,hb,hx,h⟩:=h;have f2:=Ü9
  wp_walk using Ä7 hl,Ä7 hb,wpAny_forIn_list _ (λrest b s'=>b.1=none/\s'=⟨hp,g,d,tk,os⟩/\∃ (vs ws:List Ä),rest=vs.zip ws /\
   vs.length + items2.size=ws.length + items.size/\Lx A.in1 ⟨hp,g,d,tk,os⟩ vs ws c) _
  case turn =>
   rintro ⟨y,x⟩ rest b s' ⟨hb',rfl,vs,ws,hz,hlen,hR⟩;cases hR with
   |nn=>rw[Ù8] at hz;cases hz
   |nc=>rw[Ù8] at hz;cases hz
   |cn=>rw[List.zip_nil_right] at hz;cases hz
   |eq he hr =>
    rw[Ê5] at hz;injection hz with hyx hrest;injection hyx with hy hx';subst hy hx';simp only[Ü] at hlen;refine À (he prog w _ _ ?_)
    wp_walk
    exact⟨rfl,rfl,_,_,hrest,by omega,hr⟩
   |ne he hr =>
    rw[Ê5] at hz;injection hz with hyx hrest;injection hyx with hy hx';subst hy hx';refine À (he prog w _ _ ?_);have hri:=λE Q q=>hr prog w E Q q
    wp_walk using hri
    exact⟨_,rfl,by simpa using h⟩
  case fin =>
   rintro ⟨b1,b2⟩ s' ⟨hb',rfl,vs,ws,hz,hlen,hR⟩;simp only at hb';subst hb';have hv:c=decide (items.size < items2.size):=by
    cases hR with
    |nn=>simp only[Á1] at hlen;exact(decide_eq_false ∅).symm|nc=>simp only[Á1,Ü] at hlen;exact(decide_eq_true ∅).symm|cn=>simp only[Á1,Ü] at hlen;exact(decide_eq_false ∅).symm|eq he hr=>rw[Ê5] at hz;cases hz
    |ne he hr=>rw[Ê5] at hz;cases hz
   rw[hv] at h
   wp_walk
   exact⟨_,rfl,by simpa [tupleCompareSizes] using h⟩
  case h =>
   exact⟨rfl,rfl,items.toList,items2.toList,rfl,by simp;omega,hx⟩
end
theorem w11(hl:Ï2 s.heap l i1)(hb:Ï2 s.heap b i2)(hu:A.units < Å8)(hx:Lx A.in1 s i1.toList i2.toList c):F52 A s (.ref l) (.ref b) c:=by
 intro P w E Q h;obtain⟨⟨cls,dd,data,sl⟩,ho,hc,n,hd⟩:=id hl;obtain⟨⟨cls2,dd2,data2,sl2⟩,ho2,hc2,n2,hd2⟩:=id hb;simp only at hc hd hc2 hd2;subst hc hd hc2 hd2;exact richCompare_meets_room (op:=.Lt) ⟨_,ho,rfl⟩ ⟨_,ho2,rfl⟩ Ò7 ß0 (Þ0 _ _) (D60 l b i1 i2 n n2 dd dd2 sl sl2 c)
  ⟨ho,ho2,hx,show Î9 c≠Õ1/\Q (.bool c) s from⟨(λx=>nomatch x),h⟩⟩ hu
theorem q42(ha:m71 s.heap v a)(hb:m71 s.heap u b)(hu:A.units + deep a < Å8):Ö6 A s v u (eqD a b):=by
 obtain⟨f1,as,r1⟩:=ha;obtain⟨f2,bs,r2⟩:=hb;rw[← S40 a b f1 f2];have h:=L50 a;have h2:min (toP a).depth (toP b).depth<=(toP a).depth:=Nat.min_le_left _ _;exact SeqAt.eqAt_reads (toP a) (toP b) A s v u as bs r1 r2 (y30 a f1) (y30 b f2) ∅
theorem e00.c30(x:e00 h us (d::ds)):∃ u r,us=u::r/\m71 h u d/\e00 h r ds:=by
 obtain⟨f,as,r⟩:=x;simp only[d90,Á] at f;cases r with
 |cons r1 r2=>exact⟨_,_,rfl,⟨f.1,_,r1⟩,f.2,_,r2⟩
theorem e00.f10(x:e00 h us []):us=[]:=by
 obtain⟨_,as,r⟩:=x;cases r;rfl
theorem in1_units(A:ø):A.in1.units=A.units + 1:=rfl
theorem c92:∀ (n:Nat) {A:ø}{s:Æ},
  (∀ (a b:D) (v u:Ä) (c:Bool),deep a<=n->m71 s.heap v a->m71 s.heap u b->ltD a b=some c->A.units + n < Å8->F52 A s v u c) /\
  (∀ (a b:List D) (vs us:List Ä) (c:Bool),f00 a < n->e00 s.heap vs a->e00 s.heap us b->L71 a b=some c->A.units + n < Å8->Lx A.in1 s vs us c):=by
 intro n
 induction n with
 |zero =>
  intro A s;refine⟨λa b v u c hd ha hb e hu=>?_,λa b vs us c hd=>absurd hd (Ö0 _)⟩;cases a with
  |int i =>
   cases b with
   |int j =>
    cases e;obtain⟨_,_,r1⟩:=ha;obtain⟨_,_,r2⟩:=hb;cases r1;cases r2;exact λP w E Q h=>HT.e01 A s i _ j _ P w E Q h
   |_=>cases e
  |tup l=>simp[deep] at hd|_=>cases e
 |succ n ih =>
  have rows:∀ {A:ø}{s:Æ} (a b:List D) (vs us:List Ä) (c:Bool),f00 a < n + 1->e00 s.heap vs a->e00 s.heap us b->L71 a b=some c->A.units + (n + 1) < Å8->Lx A.in1 s vs us c:=by
   intro A s a
   induction a with
   |nil =>
    intro b vs us c _ ha hb e hu;cases ha.f10;cases b with
    |nil=>cases hb.f10;cases e;exact .nn
    |cons y q=>obtain⟨u,r,rfl,_⟩:=hb.c30;cases e;exact .nc
   |cons x r ihr =>
    intro b vs us c hd ha hb e hu;obtain⟨v,vs',rfl,a1,a2⟩:=ha.c30;cases b with
    |nil=>cases hb.f10;cases e;exact .cn
    |cons y q =>
     obtain⟨u,us',rfl,b1,b2⟩:=hb.c30;simp only[f00] at hd;have d1:deep x<=n:=Nat.le_of_lt_succ (Ç5 (Nat.le_max_left _ _) hd);have d2:f00 r < n + 1:=Ç5 (Nat.le_max_right _ _) hd;have hu1:A.in1.units + n < cLine:=by rw[in1_units];omega
     have he:=q42 (A:=A.in1) a1 b1 ∅
     simp only[L71] at e;cases hq:eqD x y with
     |true =>
      rw[hq] at he e;exact .eq he (ihr q vs' us' c d2 a2 b2 (by simpa using e) hu)
     |false =>
      rw[hq] at he e;exact .ne he ((ih (A:=A.in1) (s:=s)).1 x y v u c d1 a1 b1 (by simpa using e) hu1)
  intro A s;refine⟨λa b v u c hd ha hb e hu=>?_,rows⟩;cases a with
  |int i =>
   cases b with
   |int j =>
    cases e;obtain⟨_,_,r1⟩:=ha;obtain⟨_,_,r2⟩:=hb;cases r1;cases r2;exact λP w E Q h=>HT.e01 A s i _ j _ P w E Q h
   |_=>cases e
  |tup l =>
   cases b with
   |tup q =>
    obtain⟨f1,as,r1⟩:=ha;obtain⟨f2,bs,r2⟩:=hb;simp only[deep] at hd;cases r1 with
    |tuple k1 k2 k3 k4 =>
     cases r2 with
     |tuple m1 m2 m3 m4 =>
      exact w11 ⟨_,k1,k2,_,k3⟩ ⟨_,m1,m2,_,m3⟩ ∅ (rows l q _ _ c ∅ ⟨by simpa [n00] using f1,_,k4⟩ ⟨by simpa [n00] using f2,_,m4⟩ e hu)
   |_=>cases e
  |_=>cases e
section
variable {X:Cx}
theorem q52(h:ltO a b=some c):okD a=true/\okD b=true/\ltD a b=some c:=by
 unfold ltO at h;split at h
 ·rename_i ok;rw[Á] at ok;exact⟨ok.1,ok.2,h⟩
 ·cases h
theorem q62(hu:X.A.units + 64 < Å8):OpR X (ü .Lt) (rD2 X.K λa b=>(D20 .lt a b).map λc=>.d (.bl c)):=by
 intro pins s σ H x y v u Q I rx ry h;obtain⟨zA,z,dx,dy,w,st,hx,hy,e,q⟩:=h;obtain⟨b,e1,e2⟩:=Ì.mp e;subst e2;obtain⟨o1,o2,e3⟩:=q52 (show ltO dx dy=some b from e1);obtain⟨f1,_⟩:=o60 o1;obtain⟨f2,_⟩:=o60 o2;obtain⟨as,r1⟩:=i30 I (hx.same (a10 zA H)) rx f1;obtain⟨bs,r2⟩:=i30 I (hy.same (a10 zA H)) ry f2;exact(c92 40 (A:=X.A) (s:=s)).1 dx dy v u b (L80 o1) ⟨f1,as,r1⟩ ⟨f2,bs,r2⟩ e3 ∅ _ _ _ _ ⟨.bl b,H,I,rfl,q _ _ (a30.refl H) j10⟩
theorem w90{K:Â}{H:Hp}:∀ {l:List D}{ns:List Int}{vs:List V},Z10 l=some ns->HdA K H l vs->vs=ns.map V.int/\l=ns.map D.int
 |[],_,_,e,h=>by cases e;rw[h.f10];exact⟨rfl,rfl⟩
 |.int i::r,_,_,e,h=>by
  obtain⟨ms,e1,rfl⟩:=Ì.mp e;obtain⟨x,xs,rfl,h1,h2⟩:=h.c30;cases h1.j00;obtain⟨rfl,rfl⟩:=w90 e1 h2;exact⟨rfl,rfl⟩
 |.non::_,_,_,e,_=>by cases e
 |.bl _::_,_,_,e,_=>by cases e
 |.str _::_,_,_,e,_=>by cases e
 |.tup _::_,_,_,e,_=>by cases e
 |.lst _::_,_,_,e,_=>by cases e
 |.dct::_,_,_,e,_=>by cases e
theorem q72(hu:X.A.units + 64 < Å8):OpR X (ü .LtE) (rD2 X.K λa b=>(D20 .le a b).map λc=>.d (.bl c)):=by
 intro pins s σ H x y v u Q I rx ry h;obtain⟨zA,z,dx,dy,w,st,hx,hy,e,q⟩:=h;cases dx with
 |int i =>
  cases dy with
  |int j =>
   cases e;cases hx.j00;cases hy.j00;exact C42 pins s σ H _ _ v u Q I rx ry ⟨i,j,rfl,rfl,q _ _ (a30.refl H) j10⟩
  |_=>cases e
 |tup a =>
  cases dy with
  |tup b =>
   obtain⟨c,e1,e2⟩:=Ì.mp e;subst e2;obtain⟨ns,n1,e1⟩:=Ñ.mp (show(Z10 a).bind _=_ from e1);obtain⟨ms,n2,rfl⟩:=Ì.mp e1;obtain⟨p,xs,rfl,h1,h2⟩:=hx.A00;obtain⟨p',ys,rfl,h3,h4⟩:=hy.A00;obtain⟨rfl,_⟩:=w90 n1 h2;obtain⟨rfl,_⟩:=w90 n2 h4;exact o32 ∅ pins s σ H _ _ v u Q I rx ry ⟨p,p',ns,ms,rfl,rfl,(a10 zA H).sqT h1,(a10 zA H).sqT h3,q _ _ (a30.refl H) j10⟩
  |_=>cases e
 |_=>cases e
theorem q82:OpR X (ü .Gt) (rD2 X.K λa b=>(D20 .gt a b).map λc=>.d (.bl c)):=by
 intro pins s σ H x y v u Q I rx ry h;obtain⟨zA,z,dx,dy,w,st,hx,hy,e,q⟩:=h;cases dx with
 |int i =>
  cases dy with
  |int j =>
   cases e;cases hx.j00;cases hy.j00;exact C52 pins s σ H _ _ v u Q I rx ry ⟨i,j,rfl,rfl,q _ _ (a30.refl H) j10⟩
  |_=>cases e
 |_=>cases e
theorem q92:OpR X (ü .GtE) (rD2 X.K λa b=>(D20 .ge a b).map λc=>.d (.bl c)):=by
 intro pins s σ H x y v u Q I rx ry h;obtain⟨zA,z,dx,dy,w,st,hx,hy,e,q⟩:=h;cases dx with
 |int i =>
  cases dy with
  |int j =>
   cases e;cases hx.j00;cases hy.j00;exact C62 pins s σ H _ _ v u Q I rx ry ⟨i,j,rfl,rfl,q _ _ (a30.refl H) j10⟩
  |_=>cases e
 |_=>cases e
theorem z92{K:Â}{H:Hp}{d:D}{v:V}(h:Hd K H d v):decide (v=.non)=p72 d:=by
 cases d with
 |non=>cases h.F12;rfl
 |bl b=>cases h.bl_;rfl
 |int i=>cases h.j00;rfl
 |str x=>cases h.F22;rfl
 |tup l=>obtain⟨a,xs,rfl,_⟩:=h.A00;rfl
 |lst l=>obtain⟨a,xs,rfl,_⟩:=h.X20;rfl
 |dct=>unfold Hd at h;obtain⟨a,kvs,rfl,_⟩:=h;rfl
def opC:Cm->CmpOp
 |.eq=>.Eq | .ne=>.NotEq | .lt=>.Lt | .le=>.LtE | .gt=>.Gt | .ge=>.GtE | .mem=>.In | .nmem=>.NotIn
theorem j82(hu:X.A.units + 64 < Å8)(o:Cm):OpR X (ü (opC o)) (rD2 X.K λa b=>(D20 o a b).map λc=>.d (.bl c)):=by
 cases o
 ·exact q22 hu
 ·exact c72 hu
 ·exact q62 hu
 ·exact q72 hu
 ·exact q82
 ·exact q92
 ·exact c82 hu
 ·exact M31 hu
theorem HdA.one{K:Â}{H:Hp}{d:D}{xs:List V}(h:HdA K H [d] xs):∃ x,xs=[x]/\Hd K H d x:=by
 obtain⟨x,r,rfl,h1,h2⟩:=h.c30;rw[h2.f10];exact⟨x,rfl,h1⟩
theorem HdA.two{K:Â}{H:Hp}{d e:D}{xs:List V}(h:HdA K H [d,e] xs):∃ x y,xs=[x,y]/\Hd K H d x/\Hd K H e y:=by
 obtain⟨x,r,rfl,h1,h2⟩:=h.c30;obtain⟨y,rfl,h3⟩:=h2.one;exact⟨x,y,rfl,h1,h3⟩
theorem w21{K:Â}{zA:Option Ç}{H:Hp}{d:D}{l:List D}{v:V}(h:Hd K (hz zA H) d v)(e:m51 d=some l):∃ a xs,v=.ref a/\(SqL K H a xs∨SqT K H a xs)/\HdA K (hz zA H) l xs:=by
 cases d with
 |tup m =>
  cases e;obtain⟨a,xs,rfl,h1,h2⟩:=h.A00;exact⟨a,xs,rfl,.inr ((a10 zA H).sqT h1),h2⟩
 |lst m =>
  cases e;obtain⟨a,xs,rfl,h1,h2⟩:=h.X20;exact⟨a,xs,rfl,.inl (h1.same (a10 zA H)).sq,h2⟩
 |_=>cases e
theorem r02:g10 X (.builtin "len") (rDn X.K (bfD .len)):=by
 intro pins s σ H xs us Q I r h;obtain⟨zA,z,ds,w,st,hx,e,q⟩:=h
 match ds,e with
 |[d],e =>
  obtain⟨l,e1,rfl⟩:=Ì.mp (show(m51 d).map _=some w from e);obtain⟨x,rfl,h1⟩:=hx.one;obtain⟨a,ys,rfl,h2,h3⟩:=w21 h1 e1;exact Q40 pins s σ H _ us Q I r ⟨a,ys,rfl,h2,by rw[h3.length];exact q _ _ (a30.refl H) j50⟩
theorem M41:g10 X (.type "tuple") (rDn X.K (bfD .tuple)):=by
 intro pins s σ H xs us Q I r h;obtain⟨zA,z,ds,w,st,hx,e,q⟩:=h
 match ds,e with
 |[d],e =>
  obtain⟨l,e1,rfl⟩:=Ì.mp (show(m51 d).map _=some w from e);obtain⟨x,rfl,h1⟩:=hx.one;obtain⟨a,ys,rfl,h2,h3⟩:=w21 h1 e1;refine J10 pins s σ H _ us Q I r ⟨a,ys,rfl,?_⟩;rcases h2 with h2 | h2
  ·refine .inl ⟨h2,λp hp=>q _ _ (a30.new _ hp) (G31 (Hd.tup ((st.same (a30.new _ hp)).b92 (SqT.of b20)) (h3.same (k20 (a30.new _ hp)))))⟩
  ·exact .inr ⟨h2,q _ _ (a30.refl H) (G31 (Hd.tup (st.b92 h2) h3))⟩
theorem d02:g10 X (.type "list") (rDn X.K (bfD .list)):=by
 intro pins s σ H xs us Q I r h;obtain⟨zA,z,ds,w,st,hx,e,q⟩:=h
 match ds,e with
 |[d],e =>
  obtain⟨l,e1,rfl⟩:=Ì.mp (show(m51 d).map _=some w from e);obtain⟨x,rfl,h1⟩:=hx.one;obtain⟨a,ys,rfl,h2,h3⟩:=w21 h1 e1;exact Q50 pins s σ H _ us Q I r ⟨a,ys,rfl,h2,λp hp=>q _ _ (a30.new _ hp) (n50 st h3 hp)⟩
theorem T31{K:Â}{H:Hp}:∀ {l:List D}{bs:List Bool}{vs:List V},l.mapM asB=some bs->HdA K H l vs->vs=bs.map V.bl
 |[],_,_,e,h=>by simp at e;subst e;rw[h.f10];rfl
 |x::r,_,_,e,h=>by
  simp only[mapM_cons,bind,Ñ] at e;obtain⟨b,e1,bs,e2,e3⟩:=e;cases e3;obtain⟨y,ys,rfl,h1,h2⟩:=h.c30;cases x with
  |bl c=>cases e1;cases h1.bl_;rw[T31 e2 h2];rfl
  |_=>cases e1
theorem r12(hc:X.calm=true):g10 X (.builtin "all") (rDn X.K (bfD .all)):=by
 intro pins s σ H xs us Q I r h;obtain⟨zA,z,ds,w,st,hx,e,q⟩:=h
 match ds,e with
 |[.lst l],e =>
  obtain⟨bs,e1,rfl⟩:=Ì.mp (show(l.mapM asB).map _=some w from e);obtain⟨x,rfl,h1⟩:=hx.one;obtain⟨a,ys,rfl,h2,h3⟩:=h1.X20;rw[T31 e1 h3] at h2;exact I51 hc pins s σ H _ us Q I r ⟨a,bs,rfl,(h2.same (a10 zA H)).sq,q _ _ (a30.refl H) j10⟩
theorem M51:∀ {ns:List Int}{vs:List Ä},Vals (ns.map V.int) vs->∃ xs:List (Int × Tok),vs=xs.map (λp=>.int p.1 p.2)/\xs.map (·.1)=ns
 |[],_,h=>by cases h;exact⟨[],rfl,rfl⟩
 |n::r,_,h=>by
  cases h with
  |cons h1 h2 =>
   obtain⟨t,rfl⟩:=h1;obtain⟨xs,rfl,e⟩:=M51 h2;exact⟨(n,t)::xs,rfl,by rw[Å7,e]⟩
theorem r22(hc:X.calm=true):g10 X (.builtin "min") (rDn X.K (bfD .min)):=by
 intro pins s σ H xs us Q I r h;obtain⟨zA,z,ds,w,st,hx,e,q⟩:=h
 match ds,e with
 |[.int i,.int j],e =>
  cases e;obtain⟨x,y,rfl,h1,h2⟩:=hx.two;cases h1.j00;cases h2.j00;exact q81 hc pins s σ H _ us Q I r ⟨i,j,rfl,q _ _ (a30.refl H) j50⟩
theorem r32(hc:X.calm=true):g10 X (.builtin "max") (rDn X.K (bfD .max)):=by
 intro pins s σ H xs us Q I r h;obtain⟨zA,z,ds,w,st,hx,e,q⟩:=h
 match ds,e with
 |[.int i,.int j],e =>
  cases e;obtain⟨x,y,rfl,h1,h2⟩:=hx.two;cases h1.j00;cases h2.j00;exact q71 hc pins s σ H _ us Q I r ⟨i,j,rfl,q _ _ (a30.refl H) j50⟩
theorem r42:g10 X (.type "int") (rDn X.K (bfD .int)):=by
 intro pins s σ H xs us Q I r h;obtain⟨zA,z,ds,w,st,hx,e,q⟩:=h
 match ds,e with
 |[.int i],e =>
  cases e;obtain⟨x,rfl,h1⟩:=hx.one;cases h1.j00;exact P60 pins s σ H _ us Q I r (.inl ⟨i,rfl,q _ _ (a30.refl H) j50⟩)
 |[.bl b],e =>
  cases e;obtain⟨x,rfl,h1⟩:=hx.one;cases h1.bl_;exact P60 pins s σ H _ us Q I r (.inr ⟨b,rfl,q _ _ (a30.refl H) j50⟩)
def tyN:Ty->String
 |.int=>"int" | .bool=>"bool" | .tuple=>"tuple" | .list=>"list" | .str=>"str" | .seq=>""
theorem d12(t:Ty)(d:D)(h:t≠.seq):isB d.ty (tyN t)=T11 t d:=by
 cases t <;> cases d <;> first | rfl | (exact absurd rfl h) | decide
theorem M61(d:D):(isB d.ty "tuple" || isB d.ty "list")=T11 .seq d:=by cases d <;> rfl
theorem at_of{K:Â}{H:Hp}{l:List D}{xs:List V}{i:Int}{d:D}(h:HdA K H l xs)(e:atI l i=some d):∃ v,atI xs i=some v/\Hd K H d v:=by
 unfold atI at e ⊢;obtain⟨j,e1,e2⟩:=Ñ.mp e;rw[h.length,e1];exact h.get e2
theorem ixD:IxR X (rD2 X.K λa b=>(Z20 a b).map S.d):=by
 intro value slice pins s σ H x y v u Q I rx ry h hs;obtain⟨zA,z,dx,dy,w,st,hx,hy,e,q⟩:=h;obtain⟨r,e1,rfl⟩:=Ì.mp e;cases dx with
 |tup l =>
  cases dy with
  |int i =>
   cases hy.j00;obtain⟨a,xs,rfl,h1,h2⟩:=hx.A00;obtain⟨v',e2,h3⟩:=at_of h2 e1;exact n22 value slice pins s σ H _ _ v u Q I rx ry ⟨a,xs,i,v',rfl,rfl,(a10 zA H).sqT h1,e2,q _ _ (a30.refl H) (G31 h3)⟩ hs
  |_=>cases e1
 |lst l =>
  cases dy with
  |int i =>
   cases hy.j00;obtain⟨a,xs,rfl,h1,h2⟩:=hx.X20;obtain⟨v',e2,h3⟩:=at_of h2 e1;exact X80 value slice pins s σ H _ _ v u Q I rx ry ⟨a,xs,i,v',rfl,rfl,(h1.same (a10 zA H)).sq,e2,q _ _ (a30.refl H) (G31 h3)⟩ hs
  |_=>cases e1
 |_=>cases e1
theorem T41{K:Â}{H:Hp}{l:List D}{xs:List V}(h:HdA K H l xs)(lo hi:Option Int):HdA K H (cutD l lo hi) (H61 xs lo hi):=by
 unfold cutD H61;rw[h.length];exact(h.drop _).take _
def T72(K:Â):V->Option Int->Option Int->Hp->VK->Prop:=λx lo hi H Q=>∃ zA z dx s,d60 zA z H/\Hd K (hz zA H) dx x/\slD dx lo hi=some s/\∀ v H',a30 H H'->RvS K zA H H' s v->Q v H'
theorem T82:SlR X (T72 X.K):=by
 intro pins s σ H x v vl vu lo hi sl Q I rx hs pl pu h;obtain⟨zA,z,dx,w,st,hx,e,q⟩:=h;cases dx with
 |tup l =>
  cases e;obtain⟨a,xs,rfl,h1,h2⟩:=hx.A00;exact Z81 pins s σ H _ v vl vu lo hi sl Q I rx hs pl pu ⟨a,xs,rfl,(a10 zA H).sqT h1,tupQ st (T41 h2 lo hi) q⟩
 |lst l =>
  cases e;obtain⟨a,xs,rfl,h1,h2⟩:=hx.X20;exact Y11 pins s σ H _ v vl vu lo hi sl Q I rx hs pl pu ⟨a,xs,rfl,(h1.same (a10 zA H)).sq,λp hp=>q _ _ (a30.new _ hp) (n50 st (T41 h2 lo hi) hp)⟩
 |_=>cases e
end
end Q
namespace Q
open PySem L2 PySem.Spec PyProof.Rows
open PySem.W (KatLex KatTups kat_nil kat_cons kat_go kat_yes kat_no kat_one kat_lt kat_kind kas_kind kat_lt_int)
theorem D70(k:D):∀ l,(p31 k l).Perm (k::l)
 |[]=>.refl _
 |y::r=>by
  unfold p31;split
  ·exact((D70 k r).cons y).trans (.swap _ _ _)
  ·exact .refl _
theorem x00:∀ l,(u50 l).Perm l
 |[]=>.refl _|k::r=>(D70 k _).trans ((x00 r).cons k)
theorem w31(k:D):∀ l,l.Pairwise (λx y=>MySort.h20 (flt y) (flt x)=false)->(p31 k l).Pairwise (λx y=>MySort.h20 (flt y) (flt x)=false)
 |[],_=>List.pairwise_singleton _ _
 |y::r,h=>by
  obtain⟨h1,h2⟩:=Ê9.mp h;unfold p31;split
  ·rename_i hy;refine Ê9.mpr ⟨λz hz=>?_,w31 k r h2⟩;rcases ú.mp ((D70 k r).mem_iff.mp hz) with rfl | hz
   ·cases q:MySort.h20 (flt z) (flt y) with
    |false=>rfl|true=>have:=MySort.q10 _ _ _ hy q;rw[MySort.s00] at this;cases this
   ·exact h1 z hz
  ·rename_i hy;refine Ê9.mpr ⟨λz hz=>?_,h⟩;rcases ú.mp hz with rfl | hz
   ·simpa using hy
   ·cases q:MySort.h20 (flt z) (flt k) with
    |false=>rfl
    |true =>
     rcases MySort.e31 _ (flt y) _ q with q | q
     ·rw[h1 z hz] at q;cases q
     ·exact absurd q hy
theorem f31:∀ l,(u50 l).Pairwise (λx y=>MySort.h20 (flt y) (flt x)=false)
 |[]=>.nil|k::r=>w31 k _ (f31 r)
mutual
theorem T51:∀ x y:D,eqT x y=true->x=y
 |.int i,y,h=>by
  cases y with
  |int j=>rw[eq_of_beq (show(i == j)=true from h)]|_=>cases h
 |.tup a,y,h=>by
  cases y with
  |tup b=>rw[Z70 a b h]|_=>cases h
 |.non,y,h=>by cases y <;> cases h
 |.bl _,y,h=>by cases y <;> cases h
 |.str _,y,h=>by cases y <;> cases h
 |.lst _,y,h=>by cases y <;> cases h
 |.dct,y,h=>by cases y <;> cases h
theorem Z70:∀ x y:List D,X00 x y=true->x=y
 |[],[],_=>rfl|[],_::_,h=>by cases h
 |_::_,[],h=>by cases h
 |x::r,y::q,h=>by
  have h:(eqT x y&&X00 r q)=true:=h;rw[Á] at h;rw[T51 x y h.1,Z70 r q h.2]
end
variable [TB:Tb]
theorem d22(ok:∀ x∈l,∀ y∈l,flt x=flt y->x=y)(h:MySort.sortedBy (l.map flt) p):(p.map λi=>l.getD i .non)=u50 l:=by
 have h1:=h.1.map λi=>l.getD i .non;rw[É,MySort.range_getD] at h1;have e:((p.map λi=>l.getD i .non).map flt)=p.map λi=>(l.map flt).getD i []:=by
  rw[î];refine Ã5 λi hi=>?_;have:i < l.length:=by have:=h.1.mem_iff.mp hi;simpa using this
  simp[this]
 have h2:(p.map λi=>l.getD i .non).Pairwise λx y=>MySort.h20 (flt y) (flt x)=false:=by
  have:=h.2;rw[← e,Ù9] at this;exact this
 refine È9 (le:=λx y=>MySort.h20 (flt y) (flt x)=false) (λa b ha hb p q=>?_) h2 (f31 l) (h1.trans (x00 l).symm);exact ok a (h1.mem_iff.mp ha) b ((x00 l).mem_iff.mp hb) (MySort.q20 _ _ q p)
mutual
theorem M71(kp:MySort.s91 h h'):∀ (d:D) {u:Ä}{as:List Ç},eqT d d=true->Reads h u (toP d) as->Reads h' u (toP d) as
 |.int i,_,_,_,r=>by cases r;exact .int _ _
 |.tup l,_,_,e,r=>by
  cases r with
  |tuple k1 k2 k3 k4=>exact .tuple (kp _ _ k1 k2) k2 k3 (o70 kp l e k4)
 |.non,_,_,e,_=>by cases e
 |.bl _,_,_,e,_=>by cases e
 |.str _,_,_,e,_=>by cases e
 |.lst _,_,_,e,_=>by cases e
 |.dct,_,_,e,_=>by cases e
theorem o70(kp:MySort.s91 h h'):∀ (l:List D) {us:List Ä}{as:List Ç},X00 l l=true->ReadsAll h us (P00 l) as->ReadsAll h' us (P00 l) as
 |[],_,_,_,r=>by cases r;exact .nil
 |x::q,_,_,e,r=>by
  have e:(eqT x x&&X00 q q)=true:=e;rw[Á] at e;cases r with
  |cons r1 r2=>exact .cons (M71 kp x e.1 r1) (o70 kp q e.2 r2)
end
theorem e00.get:∀ {us:List Ä}{l:List D}{i:Nat}{d:D},e00 h us l->l[i]?=some d->m71 h (us.getD i â) d
 |_,[],i,d,_,e=>by cases e
 |us,x::r,i,d,hd,e=>by
  obtain⟨u,q,rfl,h1,h2⟩:=hd.c30;cases i with
  |zero=>cases e;simpa using h1
  |succ i=>simpa using e00.get h2 (by simpa using e)
theorem e00.len:∀ {us:List Ä}{l:List D},e00 h us l->us.length=l.length
 |_,[],hd=>by rw[hd.f10];rfl
 |us,x::r,hd=>by
  obtain⟨u,q,rfl,h1,h2⟩:=hd.c30;simp[e00.len h2]
def T61(l:List D):Prop:=∀ x r,l=x::r->∃ i,x=.int i
theorem N72(hu:A.units + 40 < Å8):∀ (a c:List D) {vs us:List Ä}{r:Bool} (i:Nat),e00 s.heap vs a->e00 s.heap us c->L71 a c=some r->f00 a<=39 ->
  ((b&&i == 0)=true->T61 a/\T61 c)->fin=decide (vs.length < us.length)->Q r s->KatLex P w A b fin Q (vs.zip us) i s
 |[],[],_,_,r,i,ha,hc,e,_,_,hf,q=>by
  cases ha.f10;cases hc.f10;cases e;subst hf;exact kat_nil q
 |[],y::t,_,_,r,i,ha,hc,e,_,_,hf,q=>by
  cases ha.f10;obtain⟨u,us,rfl,_,_⟩:=hc.c30;cases e;subst hf;exact kat_nil q
 |x::l,[],_,_,r,i,ha,hc,e,_,_,hf,q=>by
  cases hc.f10;obtain⟨v,vs,rfl,_,_⟩:=ha.c30;cases e;subst hf;exact kat_nil q
 |x::l,y::t,_,_,r,i,ha,hc,e,hd,hi,hf,q=>by
  obtain⟨v,vs,rfl,a1,a2⟩:=ha.c30;obtain⟨u,us,rfl,c1,c2⟩:=hc.c30;have d1:deep x<=39:=Ò (Nat.le_max_left _ _) hd;have d2:f00 l<=39:=Ò (Nat.le_max_right _ _) hd;have e:(if eqD x y=true then L71 l t else ltD x y)=some r:=e;refine kat_cons (q42 (A:=A) a1 c1 ∅ P w _ _ ?_)
  refine kat_go (λz=>?_) λz=>?_
  ·rw[if_pos z] at e;refine kat_yes (N72 hu l t (i + 1) a2 c2 e d2 (λk=>?_) (by rw[hf];simp) q)
   simp at k
  ·rw[if_neg (by rw[z];exact Ð)] at e
   refine kat_no ?_;cases hb:(b&&i == 0) with
   |true =>
    obtain⟨f1,f2⟩:=hi hb;obtain⟨m,rfl⟩:=f1 x l rfl;obtain⟨n,rfl⟩:=f2 y t rfl;cases e;obtain⟨_,_,r1⟩:=a1;obtain⟨_,_,r2⟩:=c1;cases r1;cases r2;exact oneLt_int q
   |false=>exact kat_one _ _ ((c92 39 (A:=A) (s:=s)).1 x y v u r d1 a1 c1 e ∅ P w _ _ q)
theorem Z80(h:v31 x=0):∃ i,x=.int i:=by
 cases x with
 |int i=>exact⟨i,rfl⟩
 |tup l =>
  cases l with
  |nil=>cases h
  |cons y r=>cases y <;> cases h
 |_=>cases h
theorem Z90(h:v31 x=k)(h1:1<=k)(h3:k < 3):∃ y r,x=.tup (y::r)/\(k=1->∃ i,y=.int i)/\(k=2->∃ l,y=.tup l):=by
 cases x with
 |tup l =>
  cases l with
  |nil=>have:k=3:=h.symm;omega
  |cons y r =>
   refine⟨y,r,rfl,λe=>?_,λe=>?_⟩ <;> subst e <;> cases y <;> first | exact⟨_,rfl⟩ | cases h
 |int i=>have:k=0:=h.symm;omega|_=>have:k=3:=h.symm;omega
theorem d32(h1:1<=k)(h3:k < 3):∀ {us:List Ä}{l:List D},e00 h us l->(∀ x∈l,v31 x=k)->∃ fs,KatTups h us fs/\fs.length=us.length/\∀ v∈fs,(k=1->∃ i t,v=Æ1 i t)/\(k=2->∃ a o,v=Ã3 a/\h.get? a=some o/\o.cls=.type "tuple")
 |_,[],hd,_=>by rw[hd.f10];exact⟨[],.nil,rfl,λv hv=>absurd hv (by simp)⟩
 |_,x::r,hd,hk=>by
  obtain⟨u,q,rfl,⟨_,as,r1⟩,h2⟩:=hd.c30;obtain⟨fs,t1,t2,t3⟩:=d32 h1 h3 h2 λy hy=>hk y (È _ hy);obtain⟨y,l,rfl,y1,y2⟩:=Z90 (hk x Ë) h1 h3;cases r1 with
  | @tuple a o vs n xs as k1 k2 k3 k4 =>
   cases hv:vs.toList with
   |nil=>rw[hv] at k4;cases k4
   |cons f fr =>
    rw[hv] at k4;cases k4 with
    |cons f1 f2 =>
     refine⟨f::fs,.cons k1 k2 k3 (by rw[← õ,hv];rfl) t1,by simp[t2],λv hm=>?_⟩
     rcases ú.mp hm with rfl | hm
     ·refine⟨λe=>?_,λe=>?_⟩
      ·obtain⟨i,rfl⟩:=y1 e;cases f1;exact⟨_,_,rfl⟩
      ·obtain⟨m,rfl⟩:=y2 e;cases f1 with
       |tuple g1 g2 g3 g4=>exact⟨_,_,rfl,g1,g2⟩
     ·exact t3 v hm
def kdOf:Nat->Ï0
 |0=>Ø8|1=>tuples' true|_=>tuples' false
theorem a01(h:i20 x y=true):v31 y=v31 x/\ltD x y=some (MySort.h20 (flt x) (flt y))/\(flt x=flt y->x=y):=by
 unfold i20 at h;rw[Á,Á,Å6] at h;refine⟨eq_of_beq h.1,eq_of_beq h.2.1,λe=>?_⟩;rcases h.2.2 with k | k
 ·exact T51 _ _ k
 ·rw[e] at k;simp at k
theorem w41(h64:us.length < 64)(hd:e00 s.heap us l)(hu:A.units + 40 < Å8)(k3:k < 3)(hk:∀ x∈l,v31 x=k)(ho:∀ x∈l,okD x=true)(hp:∀ x∈l,∀ y∈l,i20 x y=true):MySort.j62 P w A s us (MySort.sortedBy (l.map flt)) (kdOf k) where
 len:=by omega
 few h2:=MySort.n92 (by rw[É];exact hd.len) h2
 all p hp:=by rw[hp.1.length_eq,ù,É,hd.len]
 kind h2 E Q q:=by
  match k,k3,hk,q with
  |0,_,hk,q =>
   refine kas_kind h2 (T:=.type "int") (λv hv=>?_) rfl rfl q;obtain⟨i,hi,rfl⟩:=Õ2.mp hv;have hi':i < l.length:=by rw[← hd.len];exact hi
   obtain⟨_,as,r⟩:=hd.get (i:=i) (d:=l[i]) (by simp[hi'])
   obtain⟨n,hn⟩:=Z80 (hk l[i] (É1 hi'));rw[hn] at r;have e:us.getD i â=us[i]:=by simp[hi]
   rw[e] at r;generalize us[i]=v at r;cases r;exact Û7 rfl
  |1,_,hk,q =>
   obtain⟨fs,t1,t2,t3⟩:=d32 (-0) (-0) hd hk
   exact kat_kind (T:=.type "int") t1 ∅ (λv hv=>by obtain⟨i,t,rfl⟩:=(t3 v hv).1 rfl;exact Û7 rfl) rfl q
  |2,_,hk,q =>
   obtain⟨fs,t1,t2,t3⟩:=d32 (-0) (-0) hd hk
   exact kat_kind (T:=.type "tuple") t1 ∅ (λv hv=>by
    obtain⟨a,o,rfl,g1,g2⟩:=(t3 v hv).2 rfl;rw[← g2];exact(Î1 g1).andThen .now) rfl q
 run:=MySort.Y91 (by rw[É];exact hd.len) h64 λi j hi hj E C hC=>by
  have hi':i < l.length:=by rw[← hd.len];exact hi
  have hj':j < l.length:=by rw[← hd.len];exact hj
  have mi:=É1 hi';have mj:=É1 hj';obtain⟨_,h2,_⟩:=a01 (hp _ mi _ mj);have a1:=hd.get (i:=i) (d:=l[i]) (by simp[hi'])
  have b1:=hd.get (i:=j) (d:=l[j]) (by simp[hj'])
  have e1:(l.map flt).getD i []=flt l[i]:=by simp[hi']
  have e2:(l.map flt).getD j []=flt l[j]:=by simp[hj']
  rw[e1,e2] at hC;generalize MySort.h20 (flt l[i]) (flt l[j])=c at h2 hC;have kx:=hk _ mi;have ky:=hk _ mj;have ox:=L80 (ho _ mi);generalize l[i]=x at *
  generalize l[j]=y at *
  have tup:∀ b:Bool,1<=k->(b=true->k=1)->Î (Ô P w) A (keyLt' (tuples' b) (us.getD i â) (us.getD j â)) C E s:=λb h1 hb=>by
   obtain⟨x1,xr,rfl,x2,_⟩:=Z90 kx h1 k3;obtain⟨y1,yr,rfl,y2,_⟩:=Z90 ky h1 k3;obtain⟨f1,as,r1⟩:=a1;obtain⟨f2,bs,r2⟩:=b1;generalize us.getD i â=v at r1;generalize us.getD j â=u at r2;cases r1 with
   |tuple p1 p2 p3 p4 =>
    cases r2 with
    |tuple q1 q2 q3 q4 =>
     refine kat_lt p1 p3 q1 q3 (N72 hu (x1::xr) (y1::yr) 0 ⟨f1,_,p4⟩ ⟨f2,_,q4⟩ h2 (by have:deep (.tup (x1::xr))=f00 (x1::xr) + 1:=rfl;omega) (λz=>?_) (by simp) hC)
     have hb1:=hb (by simpa using z)
     exact⟨λa q e=>by cases e;exact x2 hb1,λa q e=>by cases e;exact y2 hb1⟩
  match k,k3,kx,ky,tup with
  |0,_,kx,ky,_ =>
   obtain⟨m,rfl⟩:=Z80 kx;obtain⟨n,rfl⟩:=Z80 ky;cases h2;obtain⟨_,_,r1⟩:=a1;obtain⟨_,_,r2⟩:=b1;generalize us.getD i â=v at r1;generalize us.getD j â=u at r2;cases r1;cases r2;exact kat_lt_int hC
  |1,_,_,_,tup=>exact tup true (-0) λ_=>rfl|2,_,_,_,tup=>exact tup false (-0) λh=>by cases h
theorem HdA.pick{K:Â}{H:Hp}{l:List D}{vs:List V}(h:HdA K H l vs):∀ {p:List Nat},(∀ i∈p,i < l.length)->HdA K H (p.map λi=>l.getD i .non) (p.map λi=>vs.getD i .non)
 |[],_=>.nil
 |i::p,hp=>by
  have hi:=hp i Ë;refine .cons ?_ (HdA.pick h λj hj=>hp j (È _ hj));obtain⟨v,e1,e2⟩:=h.get (i:=i) (d:=l[i]) (by simp[hi])
  have g1:l.getD i .non=l[i]:=by simp[hi]
  have g2:vs.getD i .non=v:=by rw[Ø,e1];rfl
  show Hd K H (l.getD i .non) (vs.getD i .non);rw[g1,g2];exact e2
end Q
namespace Q
open PySem L2 PySem.Spec PyProof.Rows
open PySem.W (kas_mapM kas_first_eq kas_item kas_item_eq kas_cmp)
theorem d42(h:k<=8):∀ i∈TS.sN k,i < 2 ^ k:=by
 have:∀ k,k < 9->((TS.sN k).all λi=>Nat.blt i (2 ^ k))=true:=by decide +kernel
 intro i hi;exact Nat.blt_eq.mp (Õ.mp (this k ∅) i hi)
theorem r52(h:k<=8):(TS.sN k).length=2 ^ k:=by
 have:∀ k,k < 9->beq (TS.sN k).length (2 ^ k)=true:=by decide +kernel
 exact Nat.eq_of_beq_eq_true (this k ∅)
theorem u60(h:i < 2 ^ k):(h30 k)[i]?=some (n20 k i):=by
 unfold h30;rw[Û,É9 h];rfl
theorem r62(h:k<=8):((TS.sN k).map λi=>(h30 k).getD i .non)=L91 k :=
 Ã5 λi hi=>by rw[Ø,u60 (d42 h i hi)];rfl
theorem w51:∀ a b:List Nat,L71 (a.map λ(i:Nat)=>.int i) (b.map λ(i:Nat)=>.int i)=some (TS.z72 a b)
 |[],[]=>rfl|[],_::_=>rfl|_::_,[]=>rfl
 |a::r,b::q=>by
  show(if ((a:Int) == (b:Int))=true then L71 (r.map λ(i:Nat)=>.int i) (q.map λ(i:Nat)=>.int i) else some (decide ((a:Int) < b)))=some (if beq a b=true then TS.z72 r q else Nat.blt a b);rw[w51 r q];by_cases h:a=b
  ·subst h;rw[if_pos (by simp),if_pos (Nat.beq_refl a)]
  ·rw[if_neg (by simp;omega),if_neg λe=>h (Nat.eq_of_beq_eq_true e)]
   congr 1
   rw[Í7,decide_eq_true_eq,Nat.blt_eq];omega
variable [TB:Tb]
section
variable {P:Ý}{w:ç}{A:ø}{E:Ä->Æ->Prop}{s:Æ}
def TupAt(h:é)(v:Ä):Prop:=∃ a o xs n,v=.ref a/\h.get? a=some o/\o.cls=.type "tuple"/\o.data=.seq xs n
theorem f41(ho:s.heap.get? a=some o)(hc:o.cls=.type "tuple")(hd:o.data=.seq xs n)(q:Q xs[0]? s):Î (Ô P w) A (firstOfTuple' (.ref a)) Q E s:=by
 rw[kas_first_eq];refine À (Ý3 (show PySem.W.Looks (Ô P w) s.heap (typeOf (.ref a)) o.cls from(Î1 ho).andThen .now) ?_);rw[hc,if_neg (by first | decide | simp)]
 exact À (Ð4 ho hd (Å q))
theorem S50:∀ (vs:List Ä),(∀ v∈vs,TupAt s.heap v)->∃ fs:List (Option Ä),∀ Q,Q fs s->Î (Ô P w) A (vs.mapM firstOfTuple') Q E s
 |[],_=>⟨[],λQ q=>by rw[List.mapM_nil];exact Å q⟩
 |v::vs,h=>by
  obtain⟨fs,hf⟩:=S50 vs λu hu=>h u (È _ hu);obtain⟨a,o,xs,n,rfl,ho,hc,hd⟩:=h v Ë;refine⟨xs[0]?::fs,λQ q=>?_⟩;rw[mapM_cons];exact À (f41 ho hc hd (À (hf _ (Å q))))
theorem d52(ho:s.heap.get? a=some o)(hc:o.cls=.type "tuple")(hd:o.data=.seq #[] n)(h:∀ v∈vs,TupAt s.heap v)(q:Q Ø8 s):Î (Ô P w) A (keyKind' (Ã3 a::vs).toArray) Q E s:=by
 obtain⟨fs,hf⟩:=S50 (P:=P) (w:=w) (A:=A) (E:=E) vs h;rw[keyKind'_eq,List.mapM_toArray,map_eq_pure_bind,mapM_cons];refine À (À (À (f41 ho hc hd (À (hf _ (Å (Å ?_)))))));rw[if_neg (by simp),if_neg (by simp)]
 rw[oneTypeOnly'_eq,List.mapM_toArray,map_eq_pure_bind];refine À (À (À (kas_mapM (r:=.type "tuple") _ (λv hv Q' hq=>?_) (Å ?_))))
 ·have:TupAt s.heap v:=by
   rcases ú.mp hv with rfl | hv
   ·exact⟨_,_,_,_,rfl,ho,hc,hd⟩
   ·exact h v hv
  obtain⟨b,o',xs,m,rfl,ho',hc',_⟩:=this;rw[← hc'] at hq;exact Ý3 (show PySem.W.Looks (Ô P w) s.heap (typeOf (.ref b)) o'.cls from(Î1 ho').andThen .now) hq
 ·have hall:((List.map (λ_=>Á7 "tuple") (Ã3 a::vs)).toArray.all λx=>x == Á7 "tuple")=true:=by
   simp only[List.all_toArray,all_map,Æ9];intro _ _;rfl
  have h0:(List.map (λ_=>Á7 "tuple") (Ã3 a::vs)).toArray[0]?=some (Á7 "tuple"):=by simp
  rw[h0];simp only[hall,if_true];exact Å (Å q)
theorem r72(hl:Ï2 s.heap l i1)(hb:Ï2 s.heap b i2)(hu:A.units < Å8)(hx:Lx A.in1 s i1.toList i2.toList c)(q:Q c s):Î (Ô P w) A (keyLt' Ø8 (.ref l) (.ref b)) Q E s:=by
 obtain⟨⟨cls,dd,data,sl⟩,ho,hc,n,hd⟩:=id hl;obtain⟨⟨cls2,dd2,data2,sl2⟩,ho2,hc2,n2,hd2⟩:=id hb;simp only at hc hd hc2 hd2;subst hc hd hc2 hd2;rw[keyLt'_oneType,oneLt'_eq];simp only[if_true];refine À (wpAny_cRoomFor hu (À (wpAny_callSpecialIfBound?_slot ⟨_,ho,rfl⟩ Ò7 (È4 Ò7 ⟨_,ho,rfl⟩ ß0 (Þ0 _ _) (D60 l b i1 i2 n n2 dd dd2 sl sl2 c) ⟨ho,ho2,hx,?_⟩))));exact Â6 q
theorem r82(h8:k<=8)(hd:e00 s.heap us (h30 k))(hu:A.units + 40 < Å8):MySort.j62 P w A s us (λp=>p=TS.sN k) Ø8 where
 len:=by rw[hd.len,h30,É,ù];exact Ò (À4 (-0) h8) (-0)
 few h2:=by
  rw[hd.len,h30,É,ù] at h2 ⊢;cases k with
  |zero=>rfl|succ k=>have:=Nat.one_le_two_pow (n:=k);rw[Ú4] at h2;omega
 all p hp:=by subst hp;rw[hd.len,h30,É,ù,r52 h8]
 kind h2 E Q q:=by
  have ht:∀ i v,us[i]?=some v->∃ xs n a o,v=.ref a/\s.heap.get? a=some o/\o.cls=.type "tuple"/\o.data=.seq xs n/\(i=0->xs=#[]):=λi v e=>by
   have hi:i < us.length:=(ß.mp e).1;have hi':i < 2 ^ k:=by rw[hd.len,h30,É,ù] at hi;exact hi
   obtain⟨_,as,r⟩:=hd.get (u60 hi');have e2:us.getD i â=v:=by rw[Ø,e];rfl
   rw[e2] at r;have z0:∀ k,TS.C30 k 0 0=[]:=λk=>by
    have:∀ k i,TS.C30 k i 0=[]:=λk=>by
     induction k with
     |zero=>exact λ_=>rfl|succ k ih=>exact λi=>ih (i + 1)
    exact this k 0
   cases i with
   |zero =>
    have r:Reads s.heap v (toP (.tup ((TS.C30 k 0 0).map λ(i:Nat)=>.int i))) as:=r;rw[z0] at r;cases r with
    | @tuple a o vs n xs as k1 k2 k3 k4 =>
     have:vs.toList=[]:=by cases hv:vs.toList with | nil=>rfl | cons _ _=>rw[hv] at k4;cases k4
     exact⟨vs,n,a,o,rfl,k1,k2,k3,λ_=>Array.toList_eq_nil_iff.mp this⟩
   |succ i =>
    cases r with
    | @tuple a o vs n xs as k1 k2 k3 k4=>exact⟨vs,n,a,o,rfl,k1,k2,k3,λe=>by cases e⟩
  match us,ht with
  |[],_=>simp at h2
  |v::vs,ht =>
   obtain⟨xs,n,a,o,rfl,h1,h3,h4,h5⟩:=ht 0 v rfl;cases h5 rfl;refine d52 h1 h3 h4 (λu hu=>?_) q;obtain⟨i,hi,rfl⟩:=Õ2.mp hu;obtain⟨xs,n,a,o,e,h1,h3,h4,_⟩:=ht (i + 1) vs[i] (by simp[hi])
   exact⟨a,o,xs,n,e,h1,h3,h4⟩
 run h2:=by
  have hl:us.length=2 ^ k:=by rw[hd.len,h30,É,ù]
  have h1:1<=k:=by
   cases k with
   |zero=>rw[hl] at h2;exact absurd h2 (-0)|succ k=>omega
  refine TS.runL h1 h8 hl λi j C hi hj hC=>?_;have e1:=kas_item_eq us i;have e2:=kas_item_eq us j;show Î (Ô P w) A (keyLt' Ø8 (ö (pairsOf us) i).1 (ö (pairsOf us) j).1) C _ s;rw[e1,e2];obtain⟨f1,as,r1⟩:=hd.get (u60 hi);obtain⟨f2,bs,r2⟩:=hd.get (u60 hj);show Î (Ô P w) A (keyLt' Ø8 (us.getD i â) (us.getD j â)) C _ s;generalize us.getD i â=v at r1;generalize us.getD j â=u at r2;cases r1 with
  |tuple p1 p2 p3 p4 =>
   cases r2 with
   |tuple q1 q2 q3 q4 =>
    refine r72 ⟨_,p1,p2,_,p3⟩ ⟨_,q1,q2,_,q3⟩ ∅ ((c92 40).2 _ _ _ _ _ ?_ ⟨f1,_,p4⟩ ⟨f2,_,q4⟩ (w51 _ _) ∅) hC
    have:∀ l:List Nat,f00 (l.map λ(i:Nat)=>.int i)=0:=λl=>by
     induction l with
     |nil=>rfl|cons x r ih=>show Ð8 0 _=0;rw[ih];rfl
    rw[this];decide
end
section
variable {X:Cx}
theorem d62{zA:Option Ç}{H:Hp}{k:Nat}{xs:List V}(hu:X.A.units + 64 < Å8)(hd:HdA X.K H (h30 k) xs)(h8:k<=8):a02 X H xs (λp=>p=TS.sN k):=by
 intro pins σ s us I rv;have ci:∀ l:List Nat,d90 (l.map λ(i:Nat)=>.int i)=true/\X00 (l.map λ(i:Nat)=>.int i) (l.map λ(i:Nat)=>.int i)=true:=λl=>by
  induction l with
  |nil=>exact⟨rfl,rfl⟩|cons x r ih=>exact⟨ih.1,by show((x:Int) == (x:Int)&&_)=true;rw[ih.2];simp⟩
 have cl:∀ l:List Nat,d90 (l.map (n20 k))=true/\X00 (l.map (n20 k)) (l.map (n20 k))=true:=λl=>by
  induction l with
  |nil=>exact⟨rfl,rfl⟩
  |cons x r ih =>
   refine⟨?_,?_⟩
   ·show(d90 _&&_)=true;rw[(ci _).1,ih.1];rfl
   ·show(X00 _ _&&_)=true;rw[(ci _).2,ih.2];rfl
 obtain⟨as,ra⟩:=D40 I hd rv (cl _).1;exact⟨Ø8,λh' kp=>r82 h8 ⟨(cl _).1,_,o70 kp _ (cl _).2 ra⟩ (by show X.A.units + 1 + 1 + 40 < Å8;omega)⟩
theorem d72{zA:Option Ç}{H:Hp}{l:List D}{xs:List V}(hu:X.A.units + 64 < Å8)(hd:HdA X.K H l xs)(h64:l.length < 64)(ok:n10 l=true):a02 X H xs (MySort.sortedBy (l.map flt)):=by
 intro pins σ s us I rv
 replace h64:us.length < 64:=by rw[← rv.length,hd.length];exact h64
 have all:∀ x∈l,v31 x < 3/\okD x=true/\∀ y∈l,i20 x y=true:=λx hx=>by
  have:=Õ.mp ok x hx;rw[Á,Á,decide_eq_true_eq,Æ9] at this;exact⟨this.1,this.2.1,this.2.2⟩
 have hf:d90 l=true:=by
  clear hd
  induction l with
  |nil=>rfl
  |cons x r ih =>
   have h1:=(o60 (all x Ë).2.1).1;show(n00 x&&d90 r)=true;rw[h1];have ok':n10 r=true:=Õ.mpr λy hy=>by
    obtain⟨a,b,c⟩:=all y (È _ hy);rw[Á,Á,decide_eq_true_eq,Æ9];exact⟨a,b,λz hz=>c z (È _ hz)⟩
   exact ih ok' λy hy=>⟨(all y (È _ hy)).1,(all y (È _ hy)).2.1,λz hz=>(all y (È _ hy)).2.2 z (È _ hz)⟩
 obtain⟨as,ra⟩:=D40 I hd rv hf;have pure:X00 l l=true:=by
  clear hd ra hf ok;have:∀ q:List D,(∀ x∈q,eqT x x=true)->X00 q q=true:=λq=>by
   induction q with
   |nil=>intro _;rfl|cons x r ih=>intro h;show(eqT x x&&X00 r r)=true;rw[h x Ë,ih λy hy=>h y (È _ hy)];rfl
  refine this l λx hx=>?_;have h:=(all x hx).2.2 x hx;unfold i20 at h;rw[Á,Á,Å6] at h;rcases h.2.2 with k | k
  ·exact k
  ·simp at k
 cases l with
 |nil=>exact⟨kdOf 0,λh' kp=>w41 h64 ⟨hf,_,o70 kp _ pure ra⟩ (by show X.A.units + 1 + 1 + 40 < Å8;omega) (-0) (λx hx=>absurd hx (by simp)) (λx hx=>absurd hx (by simp)) λx hx=>absurd hx (by simp)⟩
 |cons x r =>
  have hx:=all x Ë;exact⟨kdOf (v31 x),λh' kp=>w41 h64 ⟨hf,_,o70 kp _ pure ra⟩ (by show X.A.units + 1 + 1 + 40 < Å8;omega) hx.1 (λy hy=>(a01 (hx.2.2 y hy)).1) (λy hy=>(all y hy).2.1) λy hy=>(all y hy).2.2⟩
theorem w61(hu:X.A.units + 64 < Å8):g10 X (.builtin "sorted") (rDn X.K (bfD .sorted)):=by
 intro pins s σ H xs us Q I r h;obtain⟨zA,z,ds,w,st,hx,e,q⟩:=h
 match ds,e with
 |[x],e =>
  have e:sortedS x=some w:=e;unfold sortedS at e;obtain⟨l,h1,e⟩:=Ñ.mp e;obtain⟨v,rfl,hv⟩:=hx.one;have go:∀ (a:Ç) (ys:List V),v=.ref a->(SqL X.K H a ys∨SqT X.K H a ys)->HdA X.K (hz zA H) l ys->Î (Ô X.prog X.w) X.A (call (.builtin "sorted") us) (EP X pins σ Q) X.xe s:=λa ys hva hq hd=>by
   subst hva;by_cases c:l.length < 64/\n10 l=true
   ·rw[if_pos c] at e;cases e;obtain⟨h64,ok⟩:=c;refine y20 pins s σ H _ us Q I r ⟨a,ys,MySort.sortedBy (l.map flt),rfl,hq,d72 (zA:=zA) hu (hd.same (a10 zA H)) h64 ok,λp hp i hi=>by have:=hp.1.mem_iff.mp hi;rw[hd.length];simpa using this,λp lA hp hn=>?_⟩
    have hd2:=hd.pick (p:=p) λi hi=>by have:=hp.1.mem_iff.mp hi;simpa using this
    rw[d22 (λx hx y hy=>?_) hp] at hd2
    ·exact q _ _ (a30.new _ hn) (n50 st hd2 hn)
    ·have:=Õ.mp ok x hx;rw[Á,Á,Æ9] at this;exact(a01 (this.2.2 y hy)).2.2
   ·rw[if_neg c] at e;obtain⟨l',e1,rfl⟩:=Ì.mp e;obtain⟨k,e2,rfl⟩:=Ì.mp e1;have e3:=Z70 _ _ (List.find?_some (p:=λk=>X00 l (h30 k)) e2);have k8:k<=8:=by have:=List.mem_of_find?_eq_some e2;simp at this;omega
    subst e3;refine y20 pins s σ H _ us Q I r ⟨a,ys,λp=>p=TS.sN k,rfl,hq,d62 (zA:=zA) hu (hd.same (a10 zA H)) k8,λp hp i hi=>?_,λp lA hp hn=>?_⟩
    ·subst hp;rw[hd.length,h30,É,ù];exact d42 k8 i hi
    ·subst hp;have hd2:=hd.pick (p:=TS.sN k) λi hi=>by rw[h30,É,ù];exact d42 k8 i hi
     rw[r62 k8] at hd2;exact q _ _ (a30.new _ hn) (n50 st hd2 hn)
  cases x with
  |tup m =>
   cases h1;obtain⟨a,ys,rfl,k1,k2⟩:=hv.A00;exact go a ys rfl (.inr ((a10 zA H).sqT k1)) k2
  |lst m =>
   cases h1;obtain⟨a,ys,rfl,k1,k2⟩:=hv.X20;exact go a ys rfl (.inl (k1.same (a10 zA H)).sq) k2
  |_=>cases h1
end
end Q
namespace SS
open PySem PySem.W PyProof.Rows MySort
def key:Ä->Int
 |.int i _=>i|_=>0
theorem M81(m:Nat):(bts m).Pairwise (· < ·):=Ë1 _ È7
theorem m81:∀ a:Nat,a < 8->∀ b:Nat,b < 8->Q.i20 (.int a) (.int b)=true:=by decide
section
variable {P:Ý}{w:ç}{A:ø}{E:Ä->Æ->Prop}{s:Æ}{S ep m:Nat}{g:Nat->Tok}{o:Obj}
def m91(w:ç)(S ep:Nat)(g:Nat->Tok)(m:Nat):List Value:=(ord w S ep (ent g m)).toList.map (·.2)
def d82(w:ç)(S ep:Nat)(g:Nat->Tok)(m:Nat):List L2.D:=(m91 w S ep g m).map λv=>.int (key v)
theorem a11:(m91 w S ep g m).Perm ((bts m).map λ(i:Nat)=>Æ1 i (g i)):=by
 have:=(f11 w S ep (ent g m)).map (·.2);unfold ent at this;rw[î] at this;exact this
theorem T71(h:v∈m91 w S ep g m):∃ i,i < 8/\v=.int (i:Nat) (g i):=by
 obtain⟨i,hi,rfl⟩:=Ö.mp (a11.mem_iff.mp h);exact⟨i,(C90.mp hi).1,rfl⟩
theorem S60(h:é):∀ vs:List Ä,(∀ v∈vs,∃ (i:Nat) (t:Tok),v=.int i t)->Q.e00 h vs (vs.map λv=>.int (key v))
 |[],_=>⟨rfl,[],.nil⟩
 |v::r,k=>by
  obtain⟨i,t,rfl⟩:=k v Ë;obtain⟨h1,as,h2⟩:=S60 h r λv hv=>k v (È _ hv);exact⟨h1,_,.cons (.int _ _) h2⟩
theorem M91(hp:sortedBy ((d82 w S ep g m).map Q.flt) p):(p.map λi=>(m91 w S ep g m).getD i â)=(bts m).map λ(i:Nat)=>Æ1 i (g i):=by
 obtain⟨h1,h2⟩:=hp;have len:((d82 w S ep g m).map Q.flt).length=(m91 w S ep g m).length:=by unfold d82;simp
 rw[len] at h1;have h3:(p.map λi=>(m91 w S ep g m).getD i â).Perm ((bts m).map λ(i:Nat)=>Æ1 i (g i)):=by
  refine List.Perm.trans (h1.map _) ?_;rw[MySort.range_getD];exact a11
 refine È9 (le:=λu v=>key u<=key v) (λu v hu hv l1 l2=>?_) ?_ ?_ h3
 ·obtain⟨i,hi,rfl⟩:=Ö.mp (h3.mem_iff.mp hu);obtain⟨j,hj,rfl⟩:=Ö.mp hv;have l1:(i:Int)<=j:=l1;have l2:(j:Int)<=i:=l2;have:i=j:=by omega
  rw[this]
 ·have e:(p.map λi=>((d82 w S ep g m).map Q.flt).getD i [])=(p.map λi=>(m91 w S ep g m).getD i â).map λv=>[key v]:=by
   rw[î];refine Ã5 λi hi=>?_;have hi:i < (m91 w S ep g m).length:=by simpa using h1.mem_iff.mp hi
   unfold d82;simp[hi,Q.flt]
  rw[e,Ù9] at h2;refine h2.imp λ{u v} h=>?_;have:h20 [key v] [key u]=false:=h;simp[h20] at this;omega
 ·rw[Ù9];exact(M81 m).imp λ{a b} h=>by show(a:Int)<=b;omega
theorem n01{R:Ä->Æ->Prop}(hh:A.handled=none)(hu:A.units + 64 < Å8)(hm:m < 256)(ho:s.heap.get? S=some o)(hx:o.ExactSet)(hd:o.data=.set (ent g m) ep (tbl (led w) m))
  (h:∀ lA h' tk c,s.heap.objs.size<=lA->(∀ b u,s.heap.get? b=some u->h'.get? b=some u)->h'.get? lA=some (Ã1 "list" ((bts m).map λ(i:Nat)=>Æ1 i (g i)).toArray c)->R (.ref lA) { s with heap:=h',toks:=tk }):Î (Ô P w) A (call (.builtin "sorted") [.ref S]) R E s:=by
 have h64:(m91 w S ep g m).length<=8:=by
  rw[a11.length_eq,É];exact Ò (Å3 _ _) (by simp)
 refine Þ3 kind_sorted plain_sorted entry_sorted (args_sorted1 _) ?_;unfold ÿ.«sorted»;refine À (m:=checkCount "sorted" 1 1 _) (Å ?_);refine À (Z00 (by simp[hh]) hm ho hx hd λh1 tk lS kp1=>?_)
 refine À (Û4 ?_ (by show(m91 w S ep g m).length<=_;rw[Á3];omega))
 have hoL:(h1.push (Ã1 "list" (m91 w S ep g m).toArray 0)).get? h1.objs.size=some (Ã1 "list" (m91 w S ep g m).toArray 0):=Ê _ rfl;have kw:∀ h',j62 P w A.in1.in1 { s with heap:=h',toks:=tk } (m91 w S ep g m) (sortedBy ((d82 w S ep g m).map Q.flt)) (Q.kdOf 0):=λh'=>by
  have dm:∀ d∈d82 w S ep g m,∃ i:Nat,i < 8/\d=.int i:=λd hd=>by
   obtain⟨v,hv,rfl⟩:=Ö.mp hd;obtain⟨i,hi,rfl⟩:=T71 hv;exact⟨i,hi,rfl⟩
  letI:Q.Tb:=⟨[]⟩
  refine Q.w41 ∅ (S60 h' _ λv hv=>by obtain⟨i,_,rfl⟩:=T71 hv;exact⟨i,_,rfl⟩) (by show A.units + 1 + 1 + 40 < Å8;omega) (-0) (λd hd=>?_) (λd hd=>?_) λd hd e he=>?_
  ·obtain⟨i,_,rfl⟩:=dm d hd;rfl
  ·obtain⟨i,_,rfl⟩:=dm d hd;rfl
  ·obtain⟨i,hi,rfl⟩:=dm d hd;obtain⟨j,hj,rfl⟩:=dm e he;exact m81 i hi j hj
 refine À (À8 (À5 slot_list_sort ⟨_,hoL,rfl⟩ entry_list_sort (e41 hoL (λh' _=>kw h') λp h' c hp kp hD=>⟨_,rfl,Å ⟨_,rfl,?_⟩⟩) (args_list_sort _)));rw[M91 hp] at hD;exact h _ h' tk c (É5 lS) (λb u e=>kp b u (Ù (à (kp1 b u e))) (Ã _ (kp1 b u e))) hD
end
end SS
namespace Q
open PySem L2 PySem.Spec PyProof.Rows
variable [TB:Tb]
structure Gs where
 fns:List (Str × List Str)
 nums:List (Str × Int)
 F:FT
 cls:Nat->Addr
 lv:Nat
def EPost(G:Gs)(zA:Option Ç)(E:XK)(c:Nat)(z:Z)(H:Hp):Prop:=∀ e H',Ext zA H H'->d60 zA z H'->H' e=none->E (.ref (G.cls c)) (some e) H'
theorem EPost.mono(h:EPost G zA E c z H)(e:Ext zA H H1):EPost G zA E c z H1:=λa H' x s n=>h a H' (e.trans x) s n
def F62(K:Â)(G:Gs)(zA:Option Ç)(E:XK)(H:Hp)(Q:VK):R S->Prop
 |.ok s z'=>∀ v H',Ext zA H H'->d60 zA z' H'->RvS K zA H H' s v->Q v H'|.er c z'=>EPost G zA E c z' H
def a21(K:Â)(G:Gs)(zA:Option Ç)(E:XK)(H:Hp)(Q:VK):R (List S)->Prop
 |.ok l z'=>∃ s,l=[s]/\∀ v H',Ext zA H H'->d60 zA z' H'->RvS K zA H H' s v->Q v H'|.er c z'=>EPost G zA E c z' H
def F72(K:Â)(G:Gs)(zA:Option Ç)(E:XK)(H:Hp)(Q:List V->Hp->Prop):R (List S)->Prop
 |.ok l z'=>∀ vs H',Ext zA H H'->d60 zA z' H'->Å9 (RvS K zA H H') l vs->Q vs H'|.er c z'=>EPost G zA E c z' H
def N01(G:Gs)(zA:Option Ç)(E:XK)(H:Hp)(Q:Bool->Hp->Prop):R (List S)->Prop
 |.ok l z'=>∃ b,l=[.d (.bl b)]/\∀ H',Ext zA H H'->d60 zA z' H'->Q b H'|.er c z'=>EPost G zA E c z' H
def y40(K:Â)(zA:Option Ç)(H:Hp)(ρ:Env)(σ:L2.St):Prop:=∀ (i:Nat) (s:S),ρ[i]?=some (some s)->∃ v,σ[i]?=some (some v)/\RvP K zA H s v
theorem y40.mono{K:Â}{zA:Option Ç}{H H':Hp}{ρ:Env}{σ:L2.St}(h:y40 K zA H ρ σ)(e:Ext zA H H'):y40 K zA H' ρ σ:=λi s q=>let ⟨v,a,b⟩:=h i s q;⟨v,a,b.mono e⟩
def tI(K:Â)(G:Gs)(E:XK)(x:Ex):TE:=λσ H Q=>∃ zA ρ z r,y40 K zA H ρ σ/\d60 zA z H/\ev G.F x ρ z=some r/\a21 K G zA E H Q r
def tA(K:Â)(G:Gs)(E:XK)(x:Ex):TA:=λσ H Q=>∃ zA ρ z r,y40 K zA H ρ σ/\d60 zA z H/\ev G.F x ρ z=some r/\F72 K G zA E H Q r
def tT(K:Â)(G:Gs)(E:XK)(x:Ex):TT:=λσ H Q=>∃ zA ρ z r,y40 K zA H ρ σ/\d60 zA z H/\ev G.F x ρ z=some r/\N01 G zA E H Q r
def spF(K:Â)(G:Gs)(f n:Nat):Sp:=λvs H Q E=>vs.length=n/\∃ zA z ss r,RvA K zA H ss vs/\d60 zA z H/\G.F false f ss z=some r/\F62 K G zA E H Q r
section
variable {K:Â}{G:Gs}{E:XK}{a x:Ex}{ρ:Env}{z:Z}{zA:Option Ç}{σ:L2.St}{H:Hp}
theorem j20{α:Type}{k:List S->M α}{r:R α}{Q':VK}(rel:y40 K zA H ρ σ)(st:d60 zA z H)(h:M.bind (ev G.F a ρ) k z=some r)(her:∀ c z1,r=.er c z1->EPost G zA E c z1 H)
  (hok:∀ l z1,k l z1=some r->∃ s,l=[s]/\∀ v H1,Ext zA H H1->d60 zA z1 H1->RvS K zA H H1 s v->Q' v H1):tI K G E a σ H Q':=by
 rcases M.bind_some h with ⟨l,z1,e1,e2⟩ | ⟨c,z1,e1,e2⟩
 ·exact⟨zA,ρ,z,_,rel,st,e1,hok l z1 e2⟩
 ·exact⟨zA,ρ,z,_,rel,st,e1,her c z1 e2⟩
theorem a31{α:Type}{k:List S->M α}{r:R α}{Q':List V->Hp->Prop}(rel:y40 K zA H ρ σ)(st:d60 zA z H)(h:M.bind (ev G.F a ρ) k z=some r)(her:∀ c z1,r=.er c z1->EPost G zA E c z1 H)
  (hok:∀ l z1,k l z1=some r->∀ vs H1,Ext zA H H1->d60 zA z1 H1->Å9 (RvS K zA H H1) l vs->Q' vs H1):tA K G E a σ H Q':=by
 rcases M.bind_some h with ⟨l,z1,e1,e2⟩ | ⟨c,z1,e1,e2⟩
 ·exact⟨zA,ρ,z,_,rel,st,e1,hok l z1 e2⟩
 ·exact⟨zA,ρ,z,_,rel,st,e1,her c z1 e2⟩
theorem S70{α:Type}{k:Bool->M α}{r:R α}{Q':Bool->Hp->Prop}(rel:y40 K zA H ρ σ)(st:d60 zA z H)(h:M.bind (ev G.F a ρ) (λx=>M.bind (M.of ((pl x).bind asB)) k) z=some r)(her:∀ c z1,r=.er c z1->EPost G zA E c z1 H)
  (hok:∀ b z1,k b z1=some r->∀ H1,Ext zA H H1->d60 zA z1 H1->Q' b H1):tT K G E a σ H Q':=by
 rcases M.bind_some h with ⟨l,z1,e1,e2⟩ | ⟨c,z1,e1,e2⟩
 ·obtain⟨b,e3,e4⟩:=M.a20 e2;obtain⟨d,e5,e6⟩:=Ñ.mp e3;have el:l=[.d (.bl b)]:=by
   obtain⟨s,rfl,hs⟩:=f30 e5;cases s with
   |d y=>cases hs;cases d <;> first | (cases e6;rfl) | cases e6
   |fr ys=>cases hs;cases e6
   |z=>cases hs
  exact⟨zA,ρ,z,_,rel,st,e1,b,el,hok b z1 e4⟩
 ·exact⟨zA,ρ,z,_,rel,st,e1,her c z1 e2⟩
theorem D80{l:List S}{s:S}(h:one l=some s):l=[s]:=by
 unfold one at h;split at h
 ·cases h;rfl
 ·cases h
end
theorem PE.imp(h:PE X e t)(i:∀ σ H Q,t' σ H Q->t σ H Q):PE X e t':=λpins s σ H Q I q=>h pins s σ H Q I (i _ _ _ q)
theorem PT.imp(h:PT X e t)(i:∀ σ H Q,t' σ H Q->t σ H Q):PT X e t':=λpins s σ H Q I q=>h pins s σ H Q I (i _ _ _ q)
theorem PW.imp(h:PW X e t)(i:∀ σ H Q,t' σ H Q->t σ H Q):PW X e t':=λw pins s σ H Q I q=>h w pins s σ H Q I (i _ _ _ q)
theorem PA.imp(h:PA X e t)(i:∀ σ H Q,t' σ H Q->t σ H Q):PA X e t':=λp pins s σ H Q I q=>h p pins s σ H Q I (i _ _ _ q)
def noStar:Ï->Bool
 |.Starred ..=>false|_=>true
theorem c70(h:noStar e=true)(es:List Ï)(env:È8):þ (e::es) env=(false,eval e env)::þ es env:=by
 cases e <;> first | rfl | cases h
theorem q50:∀ {es:List Ï} (env:È8) (pos:Pos),es.all noStar=true->(Õ8 pos (þ es env)).any (·.1)=false
 |[],_,_,_=>rfl
 |e::es,env,pos,h=>by
  rw[Ä5,Á] at h;rw[c70 h.1];show(false || (Õ8 pos (þ es env)).any (·.1))=false;rw[q50 env pos h.2];rfl
def plainT:Ï->Bool
 |.UnaryOp .Not _ _=>false|.BoolOp ..=>false|.IfExp ..=>false|.Compare ..=>false|_=>true
theorem w71(h:plainT e=true)(env:È8)(whole:Sem Ä):isTrue e env whole=(do let v ← whole;standAt e.pos;Ù5 [v] (truthy v)):=by
 cases e with
 |UnaryOp op _ _=>cases op <;> first | rfl | cases h
 |BoolOp _ _ _=>cases h
 |IfExp _ _ _ _=>cases h
 |Compare _ _ _ _=>cases h
 |_=>rfl
def D90:Ï->Bool
 |.Slice ..=>false|_=>true
theorem H10(h:D90 e=true):r21 e:=λo i=>by
 cases e with
 |Slice _ _ _ _=>cases h
 |_=>rfl
def A10:Ï->Bool
 |.Set ..=>false|_=>true
theorem w81(h:A10 e=true)(op:CmpOp):behindInMarks op e=false:=by
 cases e with
 |Set _ _ _=>cases h
 |_=>rfl
structure b10(X:Cx)(G:Gs)(E:XK)(x:Ex)(e:Expr):Prop where
 pe:PE X e (tI X.K G E x)
 pt:(∀ t a b p,e≠.IfExp t a b p)->PT X e (tT X.K G E x)
 pw:∀ op vs p,e=.BoolOp op vs p->PW X e (tT X.K G E x)
theorem b00(h:PE X e (tI X.K G E x))(hp:plainT e=true):b10 X G E x e:=by
 refine⟨h,λ_=>PT.imp (p91 h (w71 hp X.env)) λσ H Q q=>?_,λop vs p he=>?_⟩
 ·obtain⟨zA,ρ,z,r,rel,st,e,po⟩:=q;refine⟨zA,ρ,z,r,rel,st,e,?_⟩;cases r with
  |er c z1=>exact po
  |ok l z1 =>
   obtain⟨b,rfl,po⟩:=po;exact⟨_,rfl,λv H' ex st' rv=>⟨b,Hd.bl_ (show Hd X.K (hz zA H') (.bl b) v from rv),po H' ex st'⟩⟩
 ·subst he;cases hp
def isL:Ex->Bool
 |.nil=>true|.cons _ _=>true|_=>false
def Good(X:Cx)(G:Gs)(E:XK):Ex->List Ï->Prop
 |.nil,es=>es=[]|.cons a r,es=>∃ e es',es=e::es'/\noStar e=true/\b10 X G E a e/\isL r=true/\Good X G E r es'|x,es=>∃ e,es=[e]/\b10 X G E x e
theorem Good.args:∀ {x:Ex}{es:List Ï},isL x=true->Good X G E x es->PA X es (tA X.K G E x)/\es.all noStar=true:=by
 intro x
 induction x with
 |nil =>
  intro es _ h;have h:es=[]:=h;subst h;refine⟨PA.imp t80 λσ H Q q=>?_,rfl⟩;obtain⟨zA,ρ,z,r,rel,st,e,po⟩:=q;cases e;exact po [] H Ext.refl st .nil
 |cons a r _ ih =>
  intro es _ h;obtain⟨e,es',rfl,ns,g,lr,gr⟩:=h;obtain⟨h1,h2⟩:=ih lr gr;refine⟨PA.imp (e20 g.pe h1 (c70 ns es' X.env)) λσ H Q q=>?_,by rw[Ä5,ns,h2];rfl⟩
  obtain⟨zA,ρ,z,rr,rel,st,e,po⟩:=q;have her:∀ c z1,rr=.er c z1->EPost G zA E c z1 H:=λc z1 e=>by subst e;exact po
  refine j20 rel st e her λl z1 e1=>?_;obtain⟨s,hs,e2⟩:=M.a20 e1;refine⟨s,D80 hs,λv H1 x1 st1 rv=>?_⟩;refine a31 (rel.mono x1) st1 e2 (λc z2 q=>(her c z2 q).mono x1) λl2 z2 e3 vs H2 x2 st2 rvs=>?_;cases e3;exact po (v::vs) H2 (x1.trans x2) st2 (.cons (rv.mono x2) (Å9.j52 rvs λ_ _ q=>q.from x1))
 |_=>intro es h;cases h
def d92:List Str:=["len","sorted","tuple","list","sum","min","max","abs","all","any","int","bool","str","isinstance","range","zip","enumerate","set"]
def lowG(G:Gs)(k:Nat):Gs:={ G with F:=n40 G.F,lv:=k }
structure F82(X:Cx)(G:Gs)(sc:Scope)(c P:Addr)(q:Str)(k:Nat)(fR:Addr)(fdR:FuncData):Prop where
 sco:X.env.scope=sc
 code:X.env.code=.ref c
 hd:PySem.W.codeHdIn X.K c P=true
 qual:X.env.qual++"<lambda>"=q
 tb:(P,q)∈TB.tb
 uq:∀ p∈TB.tb,p.1=P->p.2=q
 bm:BMain X.mg X.base
 lv:G.lv=k + 2
 cls:∀ j,j < 12->R50 X.K X.mg (G.cls j) j
 m:X.mg "_law_refused"=some (.ref fR)
 kp:PySem.W.keepIn X.K (.ref fR)=true
 bd:Binds X.K fdR ["_law_call"] []
 fn:m01 X.prog X.w X.K X.mg X.base CX0 (k + 2) fR fdR ["_law_call"] (a82 X.prog X.w X.K X.mg X.base (k + 1))
 low:∀ f nm ps,G.fns[f]?=some (nm,ps)->∃ fa fd,X.mg nm=some (.ref fa)/\PySem.W.keepIn X.K (.ref fa)=true/\Binds X.K fd ps []/\W90 X.prog X.w X.K X.mg X.base (CX1 X.prog X.w) k fa fd ps (spF X.K (lowG G k) f ps.length)
def F92(X:Cx)(G:Gs)(sc:ý):Prop:=∃ c P q k fR fdR,F82 X G sc c P q k fR fdR
structure XI(lm:Bool)(X:Cx)(G:Gs)(E:XK)(N:List Str)(sc:Scope):Prop where
 gok:∀ f nm ps,G.fns[f]?=some (nm,ps)->∃ fa fd,X.mg nm=some (.ref fa)/\PySem.W.keepIn X.K (.ref fa)=true/\Binds X.K fd ps []/\W90 X.prog X.w X.K X.mg X.base (CX1 X.prog X.w) G.lv fa fd ps (spF X.K G f ps.length)
 num:∀ p∈G.nums,∃ t,X.mg p.1=some (.int p.2 t)
 blt:∀ n∈d92,X.mg n=none
 hN:X.N=N
 nd:N.Nodup
 vis:∀ x∈N,Vis X.env.scope x
 glb:∀ x,sc.names.lookup x=some .globalImplicit->Gl X x
 cel:∀ x,(sc.names.lookup x=some .cell∨sc.names.lookup x=some .free)->(X.env.kindOf x=some .cell∨X.env.kindOf x=some .free)
 calm:X.calm=true
 room:A30 G.lv X.A
 pas:Passes (CX1 X.prog X.w) X E
 lam:lm=true->F92 X G sc
def glob(sc:ý)(x:Str):Bool:=sc.names.lookup x == some .globalImplicit&&!(x == ("__debug__":Str))&&!(x == ("__name__":Str))
def d80(x:Str):Bool:=!(x == ("__debug__":Str))&&!(x == ("__classdict__":Str))
def r92:Const->D->Bool
 |.int i,.int j=>i == j|.bool a,.bl b=>a == b|.str x,.str y=>x == y|.none,.non=>true|_,_=>false
def bfN:Bf->Str × Bool
 |.len=>("len",false) | .sorted=>("sorted",false) | .tuple=>("tuple",true) | .list=>("list",true) | .min=>("min",false) | .max=>("max",false)|.all=>("all",false) | .int=>("int",true) | .sset=>("sorted",false) | .z32=>("len",false)
def served:Bf->Bool
 |.len | .tuple | .list | .min | .max | .all | .int | .sorted=>true|_=>false
mutual
noncomputable def j30(N:List Str)(loc:Str->Bool):Pat->Ï->Bool
 |.v i=>λe=>match e with
  |.Name x _=>N[i]? == some x&&loc x|_=>false
 |.tup ps=>λe=>match e with
  |.Tuple es _ _=>n11 N loc ps es|_=>false
 |.nil=>λ_=>false|.cons _ _=>λ_=>false
noncomputable def n11(N:List Str)(loc:Str->Bool):Pat->List Ï->Bool
 |.nil=>λes=>es.isEmpty
 |.cons p r=>λes=>match es with
  |e::es=>noStar e&&j30 N loc p e&&n11 N loc r es|[]=>false
 |.v _=>λ_=>false|.tup _=>λ_=>false
end
def k90:Ï->Bool
 |.Tuple ..=>true|_=>false
def c90:Ï->List Str
 |.Name x _=>[x]|.Tuple es _ _=>names es|_=>[]
where names:List Ï->List Str
 |[]=>[]|.Name x _::r=>x::names r|.Tuple [.Name a _,.Name b _] _ _::r=>a::b::names r|_::r=>names r
def f51(csc sc:ý)(N own:List Str)(capt:List (Str × Nat)):Bool :=
 csc.kind == .function&&csc.names.all (λy=>y.2 != .cell)&&csc.names.all (λy=>y.2 != .local || csc.names.lookup y.1 == some .local) &&
  csc.names.all (λy=>y.2 != .free || (sc.names.lookup y.1 == some .cell || sc.names.lookup y.1 == some .free))&&capt.all (λp=>N[p.2]? == some p.1&&csc.names.lookup p.1 == some .free) &&
  own.all (λx=>csc.names.lookup x == some .local)&&decide (own++capt.map (·.1)).Nodup
def b60(N:List Str):List Nat->List (Str × Nat)
 |[]=>[]
 |i::r=>match N[i]? with
  |some x=>(x,i)::b60 N r|none=>b60 N r
def opt{α:Type}(o:Option α)(f:α->Bool):Bool:=match o with
 |some a=>f a|none=>false
theorem a70{α:Type}{o:Option α}{f:α->Bool}(h:opt o f=true):∃ a,o=some a/\f a=true:=by
 cases o with
 |none=>cases h
 |some a=>exact⟨a,rfl,h⟩
def N82:(e:List Ï)->Option {q:Str × Pos // e=[.Name q.1 q.2]}
 |[.Name n p]=>some ⟨(n,p),rfl⟩|_=>none
def G02:(e:List Ï)->Option {q:Const × Nat × Pos // e=[.Constant q.1 q.2.1 q.2.2]}
 |[.Constant c k p]=>some ⟨(c,k,p),rfl⟩|_=>none
def G12:(e:List Ï)->Option {q:Pos // e=[.Dict [] [] q]}
 |[.Dict [] [] p]=>some ⟨p,rfl⟩|_=>none
def G22:(e:List Ï)->Option {q:List Ï × Nat × Pos // e=[.Tuple q.1 q.2.1 q.2.2]}
 |[.Tuple l k p]=>some ⟨(l,k,p),rfl⟩|_=>none
def G32:(e:List Ï)->Option {q:List Ï × Pos // e=[.List q.1 q.2]}
 |[.List l p]=>some ⟨(l,p),rfl⟩|_=>none
def G42:(e:List Ï)->Option {q:Ï × Ý4 × Ï × Pos // e=[.BinOp q.1 q.2.1 q.2.2.1 q.2.2.2]}
 |[.BinOp l o r p]=>some ⟨(l,o,r,p),rfl⟩|_=>none
def G52:(e:List Ï)->Option {q:Ï × CmpOp × Ï × Pos // e=[.Compare q.1 [q.2.1] [q.2.2.1] q.2.2.2]}
 |[.Compare l [o] [r] p]=>some ⟨(l,o,r,p),rfl⟩|_=>none
def G62:(e:List Ï)->Option {q:Ï × Pos // e=[.UnaryOp .USub q.1 q.2]}
 |[.UnaryOp .USub x p]=>some ⟨(x,p),rfl⟩|_=>none
def G72:(e:List Ï)->Option {q:Ï × Pos // e=[.UnaryOp .Not q.1 q.2]}
 |[.UnaryOp .Not x p]=>some ⟨(x,p),rfl⟩|_=>none
def G82:(e:List Ï)->Option {q:Ï × Ï × List Ï × Pos // e=[.BoolOp .And (q.1::q.2.1::q.2.2.1) q.2.2.2]}
 |[.BoolOp .And (l::r::v) p]=>some ⟨(l,r,v,p),rfl⟩|_=>none
def N92:(e:List Ï)->Option {q:Ï × Ï × List Ï × Pos // e=[.BoolOp .Or (q.1::q.2.1::q.2.2.1) q.2.2.2]}
 |[.BoolOp .Or (l::r::v) p]=>some ⟨(l,r,v,p),rfl⟩|_=>none
def G92:(e:List Ï)->Option {q:Ï × Ï × Ï × Pos // e=[.IfExp q.1 q.2.1 q.2.2.1 q.2.2.2]}
 |[.IfExp t x y p]=>some ⟨(t,x,y,p),rfl⟩|_=>none
def T92:(e:List Ï)->Option {q:Ï × CmpOp × CmpOp × Ï × Ï × Pos // e=[.Compare q.1 [q.2.1,q.2.2.1] [q.2.2.2.1,q.2.2.2.2.1] q.2.2.2.2.2]}
 |[.Compare l [o,o2] [r,s] p]=>some ⟨(l,o,o2,r,s,p),rfl⟩|_=>none
def O02:(e:List Ï)->Option {q:Str × Pos × Ï × List Ï × Pos // e=[.Call (.Name q.1 q.2.1) (q.2.2.1::q.2.2.2.1) [] q.2.2.2.2]}
 |[.Call (.Name n q1) (x::l) [] p]=>some ⟨(n,q1,x,l,p),rfl⟩|_=>none
def U02:(e:List Ï)->Option {q:Str × Pos × Str × Pos × Ï × Pos × Pos // e=[.Call (.Name q.1 q.2.1) [.Call (.Name q.2.2.1 q.2.2.2.1) [q.2.2.2.2.1] [] q.2.2.2.2.2.1] [] q.2.2.2.2.2.2]}
 |[.Call (.Name n p1) [.Call (.Name m p2) [x] [] p3] [] p4]=>some ⟨(n,p1,m,p2,x,p3,p4),rfl⟩|_=>none
def U12:Bf->Bool
 |.sset=>true|_=>false
def H02:(e:List Ï)->Option {q:Str × Pos × Ï × Ï × Pos // e=[.Call (.Name q.1 q.2.1) [q.2.2.1,q.2.2.2.1] [] q.2.2.2.2]}
 |[.Call (.Name n q1) [x,ty] [] p]=>some ⟨(n,q1,x,ty,p),rfl⟩|_=>none
def U22:(e:List Ï)->Option {q:Ï × Ï × Pos // e=[.Subscript q.1 q.2.1 q.2.2]}
 |[.Subscript v x p]=>some ⟨(v,x,p),rfl⟩|_=>none
def U32:(e:List Ï)->Option {q:Ï × Option Ï × Option Ï × Pos × Pos // e=[.Subscript q.1 (.Slice q.2.1 q.2.2.1 none q.2.2.2.1) q.2.2.2.2]}
 |[.Subscript v (.Slice l h none q1) p]=>some ⟨(v,l,h,q1,p),rfl⟩|_=>none
def H12:(e:List Ï)->Option {q:Ï × Nat × Pos × Pos × Pos × Pos // e=[.Subscript q.1 (.Slice none none (some (.UnaryOp .USub (.Constant (.int 1) q.2.1 q.2.2.1) q.2.2.2.1)) q.2.2.2.2.1) q.2.2.2.2.2]}
 |[.Subscript v (.Slice none none (some (.UnaryOp .USub (.Constant (.int 1) k q1) q2)) q3) p]=>some ⟨(v,k,q1,q2,q3,p),rfl⟩|_=>none
def s02:(e:List Ï)->Option {q:Ï × Ï × Ï × List Ï × ý × Pos // e=[.ListComp q.1 [⟨q.2.1,q.2.2.1,q.2.2.2.1,0⟩] q.2.2.2.2.1 q.2.2.2.2.2]}
 |[.ListComp elt [⟨tg,Ä0,ifs,0⟩] csc p]=>some ⟨(elt,tg,Ä0,ifs,csc,p),rfl⟩|_=>none
def j92:(e:Ï)->Option {q:Str × Pos × Ï × Pos // e=.Call (.Name q.1 q.2.1) [q.2.2.1] [] q.2.2.2}
 |.Call (.Name n q1) [a] [] p=>some ⟨(n,q1,a,p),rfl⟩|_=>none
def k02:(e:Ï)->Option {q:Str × Pos × Ï × Ï × Pos // e=.Call (.Name q.1 q.2.1) [q.2.2.1,q.2.2.2.1] [] q.2.2.2.2}
 |.Call (.Name n q1) [a,b] [] p=>some ⟨(n,q1,a,b,p),rfl⟩|_=>none
def shN:(e:Ï)->Option {q:Str × Pos // e=.Name q.1 q.2}
 |.Name n p=>some ⟨(n,p),rfl⟩|_=>none
def O12:(e:Ï)->Option {q:Str × Pos × Str × Pos × Nat × Pos // e=.Tuple [.Name q.1 q.2.1,.Name q.2.2.1 q.2.2.2.1] q.2.2.2.2.1 q.2.2.2.2.2}
 |.Tuple [.Name a q1,.Name b q2] k p=>some ⟨(a,q1,b,q2,k,p),rfl⟩|_=>none
def U42:(e:List Ï)->Option {q:Str × Pos × Int × Nat × Pos × Pos // e=[.Subscript (.Name q.1 q.2.1) (.Constant (.int q.2.2.1) q.2.2.2.1 q.2.2.2.2.1) q.2.2.2.2.2]}
 |[.Subscript (.Name n p) (.Constant (.int j) c q1) r]=>some ⟨(n,p,j,c,q1,r),rfl⟩|_=>none
def U52:(e:List Ï)->Option {q:Str × Pos × Str × Pos × List Ï × Pos × Pos // e=[.Call (.Name q.1 q.2.1) [.Call (.Name q.2.2.1 q.2.2.2.1) q.2.2.2.2.1 [] q.2.2.2.2.2.1] [] q.2.2.2.2.2.2]}
 |[.Call (.Name n p) [.Call (.Name m q1) l [] r] [] t]=>some ⟨(n,p,m,q1,l,r,t),rfl⟩|_=>none
def H22:(e:List Ï)->Option {q:Str × Pos × Ï × ý × Pos × Pos // e=[.Call (.Name q.1 q.2.1) [.Lambda ⟨[],[],none,[],[],none,[]⟩ q.2.2.1 q.2.2.2.1 q.2.2.2.2.1] [] q.2.2.2.2.2]}
 |[.Call (.Name n p) [.Lambda ⟨[],[],none,[],[],none,[]⟩ b c l] [] t]=>some ⟨(n,p,b,c,l,t),rfl⟩|_=>none
def tyE(sc:ý):Ty->Ï->Bool
 |.seq=>λe=>opt (O12 e) λq=>q.1.1 == ("tuple":Str)&&q.1.2.2.1 == ("list":Str)&&glob sc "tuple"&&glob sc "list"|t=>λe=>opt (shN e) λq=>q.1.1 == Á0 (tyN t)&&glob sc (Á0 (tyN t))
def s12:D->Bool
 |.dct=>true|_=>false
def ifB:Ï->Bool
 |.IfExp ..=>true|_=>false
def e02(lsc sc:ý)(cs:List (Str × Nat)):Bool :=
 lsc.kind == .function&&!lsc.isCoroutine&&!lsc.isGenerator&&lsc.names.all (λy=>y.2 != .cell)&&lsc.names.all (λy=>y.2 != .free || sc.names.lookup y.1 == some .cell)&&cs.all (λp=>lsc.names.lookup p.1 == some .free)&&decide (cs.map (·.1)).Nodup
def mt:Bool->List (Str × List Str)->List (Str × Int)->Ex->ý->List Str->List Ï->Bool
 |lm,fns,nums,.nil=>λ_ _ es=>es.isEmpty
 |lm,fns,nums,.cons a r=>λsc N es=>match es with
  |e::es=>noStar e&&!isL a&&isL r&&mt lm fns nums a sc N [e]&&mt lm fns nums r sc N es|[]=>false
 |lm,fns,nums,.var i=>λ_ N es=>opt (N82 es) λq=>N[i]? == some q.1.1&&d80 q.1.1|lm,fns,nums,.con d=>λ_ _ es=>(opt (G02 es) λq=>r92 q.1.1 d) || opt (G12 es) λ_=>s12 d|lm,fns,nums,.gint g i=>λsc _ es=>opt (N82 es) λq=>q.1.1 == g&&glob sc q.1.1&&nums.contains (g,i)|lm,fns,nums,.tup as=>λsc N es=>opt (G22 es) λq=>isL as&&mt lm fns nums as sc N q.1.1|lm,fns,nums,.lst as=>λsc N es=>opt (G32 es) λq=>isL as&&mt lm fns nums as sc N q.1.1|lm,fns,nums,.bin o a b=>λsc N es=>opt (G42 es) λq=>q.1.2.1 == opB o&&!isL a&&!isL b&&mt lm fns nums a sc N [q.1.1]&&mt lm fns nums b sc N [q.1.2.2.1]|lm,fns,nums,.cmp o a b=>λsc N es=>opt (G52 es) λq=>q.1.2.1 == opC o&&A10 q.1.2.2.1&&!isL a&&!isL b&&mt lm fns nums a sc N [q.1.1]&&mt lm fns nums b sc N [q.1.2.2.1]|lm,fns,nums,.neg a=>λsc N es=>opt (G62 es) λq=>!isL a&&mt lm fns nums a sc N [q.1.1]|lm,fns,nums,.not a=>λsc N es=>opt (G72 es) λq=>!isL a&&!ifB q.1.1&&mt lm fns nums a sc N [q.1.1]|lm,fns,nums,.and a b=>λsc N es=>opt (G82 es) λq=>!isL a&&!isL b&&!ifB q.1.1&&mt lm fns nums a sc N [q.1.1]&&(if q.1.2.2.1.isEmpty then !ifB q.1.2.1&&mt lm fns nums b sc N [q.1.2.1] else mt lm fns nums b sc N [.BoolOp .And (q.1.2.1::q.1.2.2.1) q.1.2.2.2])|lm,fns,nums,.or a b=>λsc N es=>opt (N92 es) λq=>!isL a&&!isL b&&!ifB q.1.1&&mt lm fns nums a sc N [q.1.1]&&(if q.1.2.2.1.isEmpty then !ifB q.1.2.1&&mt lm fns nums b sc N [q.1.2.1] else mt lm fns nums b sc N [.BoolOp .Or (q.1.2.1::q.1.2.2.1) q.1.2.2.2])|lm,fns,nums,.orT a b=>λsc N es=>opt (N92 es) λq=>!isL a&&!isL b&&q.1.2.2.1.isEmpty&&mt lm fns nums a sc N [q.1.1]&&mt lm fns nums b sc N [q.1.2.1]|lm,fns,nums,.ite c a b=>λsc N es=>opt (G92 es) λq=>!isL c&&!isL a&&!isL b&&!ifB q.1.1&&mt lm fns nums c sc N [q.1.1]&&mt lm fns nums a sc N [q.1.2.1]&&mt lm fns nums b sc N [q.1.2.2.1]|lm,fns,nums,.ch o o' a b c=>λsc N es=>opt (T92 es) λq=>q.1.2.1 == opC o&&q.1.2.2.1 == opC o'&&A10 q.1.2.2.2.2.1&&!isL a&&!isL b&&!isL c&&mt lm fns nums a sc N [q.1.1]&&mt lm fns nums b sc N [q.1.2.2.2.1]&&mt lm fns nums c sc N [q.1.2.2.2.2.1]|lm,fns,nums,.bf f as=>λsc N es=>(opt (O02 es) λq=>served f&&q.1.1 == (bfN f).1&&glob sc q.1.1&&isL as&&mt lm fns nums as sc N (q.1.2.2.1::q.1.2.2.2.1)) || (U12 f&&opt (U02 es) λq=>q.1.1 == ("sorted":Str)&&q.1.2.2.1 == ("set":Str)&&glob sc "sorted"&&glob sc "set"&&isL as&&mt lm fns nums as sc N [q.1.2.2.2.2.1])|lm,fns,nums,.isi t a=>λsc N es=>opt (H02 es) λq=>q.1.1 == ("isinstance":Str)&&glob sc q.1.1&&noStar q.1.2.2.1&&!isL a&&mt lm fns nums a sc N [q.1.2.2.1]&&tyE sc t q.1.2.2.2.1|lm,fns,nums,.idx a i=>λsc N es=>opt (U22 es) λq=>D90 q.1.2.1&&!isL a&&!isL i&&mt lm fns nums a sc N [q.1.1]&&mt lm fns nums i sc N [q.1.2.1]|lm,fns,nums,.sl a lo hi=>λsc N es=>opt (U32 es) λq=>!isL a&&isL lo&&isL hi&&mt lm fns nums a sc N [q.1.1]&&mt lm fns nums lo sc N q.1.2.1.toList&&mt lm fns nums hi sc N q.1.2.2.1.toList|lm,fns,nums,.rev a=>λsc N es=>opt (H12 es) λq=>!isL a&&mt lm fns nums a sc N [q.1.1]|lm,fns,nums,.call f as=>λsc N es=>opt (O02 es) λq=>(opt fns[f]? λp=>p.1 == q.1.1&&p.2.length == q.1.2.2.2.1.length + 1)&&glob sc q.1.1&&isL as&&mt lm fns nums as sc N (q.1.2.2.1::q.1.2.2.2.1)
 |lm,fns,nums,.comp own capt p it src cond el=>λsc N es=>opt (s02 es) λq =>
   (c90 q.1.2.1).length == own&&(b60 N capt).length == capt.length&&f51 q.1.2.2.2.2.1 sc N (c90 q.1.2.1) (b60 N capt)&&j30 (c90 q.1.2.1++(b60 N capt).map (·.1)) (λx=>(c90 q.1.2.1).contains x) p q.1.2.1&&isL src&&!isL el&&isL cond&&q.1.2.2.2.1.length<=1&&noStar q.1.1&&A10 q.1.2.2.1 &&
    q.1.2.2.2.1.all (λc=>!ifB c) &&
    (match it with
    |.seq=>mt lm fns nums src sc N [q.1.2.2.1]|.rng1=>opt (j92 q.1.2.2.1) λr=>r.1.1 == ("range":Str)&&glob sc r.1.1&&mt lm fns nums src sc N [r.1.2.2.1]|.rng2=>opt (k02 q.1.2.2.1) λr=>r.1.1 == ("range":Str)&&glob sc r.1.1&&mt lm fns nums src sc N [r.1.2.2.1,r.1.2.2.2.1]|.zip=>opt (k02 q.1.2.2.1) λr=>r.1.1 == ("zip":Str)&&glob sc r.1.1&&k90 q.1.2.1&&mt lm fns nums src sc N [r.1.2.2.1,r.1.2.2.2.1]
    |.enum=>opt (j92 q.1.2.2.1) λr=>r.1.1 == ("enumerate":Str)&&glob sc r.1.1&&k90 q.1.2.1&&mt lm fns nums src sc N [r.1.2.2.1])&&mt false fns nums cond q.1.2.2.2.2.1 (c90 q.1.2.1++(b60 N capt).map (·.1)) q.1.2.2.2.1&&mt false fns nums el q.1.2.2.2.2.1 (c90 q.1.2.1++(b60 N capt).map (·.1)) [q.1.1]
 |lm,fns,nums,.lrng b as=>λsc N es=>opt (U52 es) λq=>q.1.1 == lrN b&&q.1.2.2.1 == ("range":Str)&&glob sc (lrN b)&&glob sc "range"&&isL as&&decide (1<=q.1.2.2.2.2.1.length/\q.1.2.2.2.2.1.length<=2)&&mt lm fns nums as sc N q.1.2.2.2.2.1|lm,fns,nums,.zget i k=>λ_ N es=>opt (U42 es) λq=>N[i]? == some q.1.1&&d80 q.1.1&&q.1.2.2.1 == (k:Int)|lm,fns,nums,.refd capt a=>λsc N es=>opt (H22 es) λq=>lm&&q.1.1 == ("_law_refused":Str)&&glob sc "_law_refused"&&(b60 N capt).length == capt.length&&e02 q.1.2.2.2.1 sc (b60 N capt)&&!isL a&&mt false fns nums a q.1.2.2.2.1 ((b60 N capt).map (·.1)) [q.1.2.2.1]
theorem d00{sc:ý}{x:Str}(h:glob sc x=true):sc.names.lookup x=some .globalImplicit/\(x == ("__debug__":Str))=false/\x≠"__name__":=by
 unfold glob at h;simp only[Á,À3,beq_iff_eq] at h;refine⟨h.1.1,h.1.2,λe=>?_⟩;subst e;simp at h
section
variable {lm:Bool}{X:Cx}{G:Gs}{E:XK}{N:List Str}{sc:ý}
theorem s22{K:Â}{zA:Option Ç}{H0 H:Hp}{s:S}{v:V}(h:RvP K zA H s v):RvS K zA H0 H (plS s) v:=by cases s <;> exact h
theorem e12(h:(!ifB e)=true):∀ t a b p,e≠.IfExp t a b p:=by
 intro t a b p he;subst he;cases h
theorem a90(hL:isL x=false)(h:Good X G E x [e]):b10 X G E x e:=by
 cases x with
 |nil=>cases hL
 |cons _ _=>cases hL
 |_ =>
  obtain⟨e',h1,h2⟩:=(show ∃ e',[e]=[e']/\b10 X G E _ e' from h);cases h1;exact h2
theorem c00(hL:isL x=false)(h:b10 X G E x e):Good X G E x [e]:=by
 cases x with
 |nil=>cases hL
 |cons _ _=>cases hL
 |_=>exact⟨e,rfl,h⟩
theorem f20(po:a21 X.K G zA E H Q r):∀ c z1,r=.er c z1->EPost G zA E c z1 H:=λc z1 e=>by subst e;exact po
theorem S80(po:N01 G zA E H Q r):∀ c z1,r=.er c z1->EPost G zA E c z1 H:=λc z1 e=>by subst e;exact po
theorem H32(x:XI lm X G E N sc){i:Nat}{n:Str}{pos:Pos}(h1:N[i]?=some n)(h2:d80 n=true):b10 X G E (.var i) (.Name n pos):=by
 unfold d80 at h2;simp only[Á,À3] at h2;refine b00 (PE.imp (t60 (i:=i) (by rw[x.hN];exact h1) (x.vis n (í h1)) h2.1 h2.2) λσ H Q q=>?_) rfl
 obtain⟨zA,ρ,z,r,rel,st,e,po⟩:=q;have e':(match ρ[i]? with | some (some s)=>M.ret [plS s] | _=>M.no) z=some r:=e
 cases hs:ρ[i]? with
 |none=>rw[hs] at e';cases e'
 |some o =>
  cases o with
  |none=>rw[hs] at e';cases e'
  |some s =>
   rw[hs] at e';cases e';obtain⟨v,hv,rv⟩:=rel i s hs;obtain⟨s',e',po⟩:=po;cases e';exact⟨v,hv,po v H Ext.refl st (s22 rv)⟩
theorem H42{c:Const}{d:D}{j:Nat}{pos:Pos}(h:r92 c d=true):b10 X G E (.con d) (.Constant c j pos):=by
 refine b00 ?_ rfl;have fin:∀ {v:V},(∀ H,Hd X.K H d v)->∀ σ H Q,tI X.K G E (.con d) σ H Q->tC v σ H Q:=λ{v} hd σ H Q q=>by
  obtain⟨zA,ρ,z,r,rel,st,e,po⟩:=q;cases e;obtain⟨s',e',po⟩:=po;cases e';exact po v H Ext.refl st (G31 (hd _))
 cases c with
 |int i=>cases d <;> first | (simp only[r92,beq_iff_eq] at h;subst h;exact PE.imp P10 (fin λH=>Hd.int)) | (cases h)
 |bool b=>cases d <;> first | (simp only[r92,beq_iff_eq] at h;subst h;exact PE.imp A82 (fin λH=>Hd.bl)) | (cases h)
 |str y=>cases d <;> first | (simp only[r92,beq_iff_eq] at h;subst h;exact PE.imp R51 (fin λH=>Hd.str)) | (cases h)
 |none=>cases d <;> first | exact PE.imp p81 (fin λH=>Hd.non) | (cases h)
 |_=>cases h
theorem H52{pos:Pos}:b10 X G E (.con .dct) (.Dict [] [] pos):=by
 refine b00 (PE.imp Z91 λσ H Q q=>?_) rfl;obtain⟨zA,ρ,z,r,rel,st,e,po⟩:=q;cases e;obtain⟨s',e',po⟩:=po;cases e';intro p hp;refine po _ _ (Ext.of (a30.new _ hp)) (st.same (a30.new _ hp)) (G31 ?_);unfold Hd;exact⟨p,[],rfl,d30 b20 (st.v91 hp)⟩
theorem s32(x:XI lm X G E N sc){g:Str}{i:Int}{pos:Pos}(h1:glob sc g=true)(h2:(g,i)∈G.nums):b10 X G E (.gint g i) (.Name g pos):=by
 obtain⟨k1,k2,_⟩:=d00 h1;obtain⟨t,ht⟩:=x.num _ h2;refine b00 (PE.imp (f40 (v:=.int i) (x.glb g k1) ht ⟨t,rfl⟩ k2) λσ H Q q=>?_) rfl;obtain⟨zA,ρ,z,r,rel,st,e,po⟩:=q;cases e;obtain⟨s',e',po⟩:=po;cases e';exact po _ H Ext.refl st j50
theorem G20{K:Â}{zA:Option Ç}{H0 H:Hp}{l:List S}{vs:List V}{ds:List D}(h:Å9 (RvS K zA H0 H) l vs)(e:plA l=some ds):HdA K (hz zA H) ds vs:=RvA.ds (Å9.j52 h λ_ _ q=>q.pl) e
theorem H62{as:Ex}{l:List Ï}{k:Nat}{pos:Pos}(hL:isL as=true)(g:Good X G E as l):b10 X G E (.tup as) (.Tuple l k pos):=by
 refine b00 (PE.imp (S11 (g.args hL).1) λσ H Q q=>?_) rfl;obtain⟨zA,ρ,z,r,rel,st,e,po⟩:=q;refine a31 rel st e (f20 po) λl z1 e1 vs H1 x1 st1 rvs=>?_;obtain⟨ds,hd,e2⟩:=M.a20 e1;split at e2
 ·rename_i hm;cases e2;obtain⟨s',e',po⟩:=po;cases e';have h:=G20 rvs hd;exact⟨g20 (by rw[h.length];exact hm),λp hp=>po _ _ (x1.trans (Ext.of (a30.new _ hp))) (st1.same (a30.new _ hp)) (G31 (Hd.tup ((st1.same (a30.new _ hp)).b92 (SqT.of b20)) (h.same (k20 (a30.new _ hp)))))⟩
 ·cases e2
theorem H72{as:Ex}{l:List Ï}{pos:Pos}(hL:isL as=true)(g:Good X G E as l):b10 X G E (.lst as) (.List l pos):=by
 refine b00 (PE.imp (S21 (g.args hL).1) λσ H Q q=>?_) rfl;obtain⟨zA,ρ,z,r,rel,st,e,po⟩:=q;refine a31 rel st e (f20 po) λl z1 e1 vs H1 x1 st1 rvs=>?_;obtain⟨ds,hd,e2⟩:=M.a20 e1;split at e2
 ·rename_i hm;cases e2;obtain⟨s',e',po⟩:=po;cases e';have h:=G20 rvs hd;exact⟨g20 (by rw[h.length];exact hm),λp hp=>po _ _ (x1.trans (Ext.of (a30.new _ hp))) (st1.same (a30.new _ hp)) ((n50 st1 h hp).from x1)⟩
 ·cases e2
theorem f61{α:Type}{a b:Ex}{k:D->D->M α}{zA:Option Ç}{ρ:Env}{z:Z}{r:R α}{σ:L2.St}{H:Hp}{Q:V->V->Hp->Prop}(rel:y40 X.K zA H ρ σ)(st:d60 zA z H)
  (h:M.bind (ev G.F a ρ) (λx=>M.bind (M.of (pl x)) λx=>M.bind (ev G.F b ρ) λy=>M.bind (M.of (pl y)) λy=>k x y) z=some r) (her:∀ c z1,r=.er c z1->EPost G zA E c z1 H)
  (hk:∀ dx dy z2 v w H2,k dx dy z2=some r->Ext zA H H2->d60 zA z2 H2->Hd X.K (hz zA H2) dx v->Hd X.K (hz zA H2) dy w->Q v w H2) :
  tI X.K G E a σ H λv H1=>tI X.K G E b σ H1 λw H2=>Q v w H2:=by
 refine j20 rel st h her λl z1 e1=>?_;obtain⟨dx,p1,e2⟩:=M.a20 e1;obtain⟨s1,rfl,q1⟩:=f30 p1;refine⟨s1,rfl,λv H1 x1 st1 rv=>?_⟩;refine j20 (rel.mono x1) st1 e2 (λc z2 q=>(her c z2 q).mono x1) λm z2 e3=>?_;obtain⟨dy,p2,e4⟩:=M.a20 e3;obtain⟨s2,rfl,q2⟩:=f30 p2;exact⟨s2,rfl,λw H2 x2 st2 rw'=>hk dx dy z2 v w H2 e4 (x1.trans x2) st2 ((rv.pl.mono x2).d_ q1) (rw'.pl.d_ q2)⟩
theorem e10{zA:Option Ç}{H H2:Hp}{z2:Z}{s:S}{Q:VK}(po:a21 X.K G zA E H Q (.ok [s] z2))(x:Ext zA H H2)(st:d60 zA z2 H2):∀ v H',a30 H2 H'->RvS X.K zA H2 H' s v->Q v H':=λv H' sm rv=>by
 obtain⟨s',e',po⟩:=po;cases e';exact po v H' (x.trans (Ext.of sm)) (st.same sm) (rv.from x)
theorem H82{o:Bi}{a b:Ex}{l r:Ï}{pos:Pos}(ga:b10 X G E a l)(gb:b10 X G E b r):b10 X G E (.bin o a b) (.BinOp l (opB o) r pos):=by
 refine b00 (PE.imp (H01 (opD o) ga.pe gb.pe) λσ H Q q=>?_) rfl;obtain⟨zA,ρ,z,rr,rel,st,e,po⟩:=q;refine f61 rel st e (f20 po) λdx dy z2 v w H2 e2 x2 st2 h1 h2=>?_;obtain⟨s,hs,e3⟩:=M.a20 e2;cases e3;exact⟨zA,z2,dx,dy,s,st2,h1,h2,hs,e10 po x2 st2⟩
theorem T81(po:N01 G zA E H Q r):a21 X.K G zA E H (λx H'=>∃ k,x=.bl k/\Q k H') r:=by
 cases r with
 |er c z1=>exact po
 |ok l z1 =>
  obtain⟨b,rfl,po⟩:=po;exact⟨_,rfl,λv H' ex st' rv=>⟨b,Hd.bl_ (show Hd X.K (hz zA H') (.bl b) v from rv),po H' ex st'⟩⟩
theorem H92(x:XI lm X G E N sc){o:Cm}{a b:Ex}{l r:Ï}{pos:Pos}(hs:A10 r=true)(ga:b10 X G E a l)(gb:b10 X G E b r):b10 X G E (.cmp o a b) (.Compare l [opC o] [r] pos):=by
 have key:∀ σ H Q,tI X.K G E (.cmp o a b) σ H Q->tOp (rD2 X.K λa b=>(D20 o a b).map λc=>.d (.bl c)) (tI X.K G E a) (tI X.K G E b) σ H Q:=λσ H Q q=>by
  obtain⟨zA,ρ,z,rr,rel,st,e,po⟩:=q;refine f61 rel st e (f20 po) λdx dy z2 v w H2 e2 x2 st2 h1 h2=>?_;obtain⟨c,hc,e3⟩:=M.a20 e2;cases e3;exact⟨zA,z2,dx,dy,_,st2,h1,h2,by show Î6 _ (D20 o dx dy)=_;rw[hc];rfl,e10 po x2 st2⟩
 refine⟨PE.imp (X21 (j82 x.room.units o) ga.pe gb.pe (w81 hs _)) key,λ_=>PT.imp (X31 (j82 x.room.units o) ga.pe gb.pe (w81 hs _)) λσ H Q q=>?_,λop vs p h=>by cases h⟩
 obtain⟨zA,ρ,z,rr,rel,st,e,po⟩:=q;exact key σ H _ ⟨zA,ρ,z,rr,rel,st,e,T81 po⟩
theorem I02{a:Ex}{l:Ï}{pos:Pos}(ga:b10 X G E a l):b10 X G E (.neg a) (.UnaryOp .USub l pos):=by
 refine b00 (PE.imp (m42 S01 ga.pe) λσ H Q q=>?_) rfl;obtain⟨zA,ρ,z,rr,rel,st,e,po⟩:=q;refine j20 rel st e (f20 po) λm z1 e1=>?_;obtain⟨i,p1,e2⟩:=M.a20 e1;obtain⟨d,p2,p3⟩:=Ñ.mp p1;obtain⟨s1,rfl,q1⟩:=f30 p2;cases e2;refine⟨s1,rfl,λv H1 x1 st1 rv=>?_⟩;have hd:=rv.pl.d_ q1;cases d with
 |int j =>
  cases p3;exact⟨i,hd.j00,e10 po x1 st1 _ _ (a30.refl H1) j50⟩
 |_=>cases p3
theorem I12{a:Ex}{l:Ï}{pos:Pos}(ga:b10 X G E a l)(hn:∀ t x y p,l≠.IfExp t x y p):b10 X G E (.not a) (.UnaryOp .Not l pos):=by
 refine⟨PE.imp (l42 ga.pe) λσ H Q q=>?_,λ_=>PT.imp (R61 (ga.pt hn)) λσ H Q q=>?_,λop vs p h=>by cases h⟩
 ·obtain⟨zA,ρ,z,rr,rel,st,e,po⟩:=q;refine j20 rel st e (f20 po) λm z1 e1=>?_;obtain⟨b,p1,e2⟩:=M.a20 e1;obtain⟨d,p2,p3⟩:=Ñ.mp p1;obtain⟨s1,rfl,q1⟩:=f30 p2;cases e2;refine⟨s1,rfl,λv H1 x1 st1 rv=>?_⟩;have hd:=rv.pl.d_ q1;cases d with
  |bl c =>
   cases p3;exact⟨b,hd.bl_,e10 po x1 st1 _ _ (a30.refl H1) j10⟩
  |_=>cases p3
 ·obtain⟨zA,ρ,z,rr,rel,st,e,po⟩:=q;refine S70 rel st e (S80 po) λb z1 e1 H1 x1 st1=>?_;cases e1;obtain⟨b',e',po⟩:=po;cases e';exact po H1 x1 st1
end
end Q
namespace Q
open PySem L2 PySem.Spec PyProof.Rows
variable [TB:Tb]
section
variable {lm:Bool}{X:Cx}{G:Gs}{E:XK}{N:List Str}{sc:ý}
theorem M00(rel:y40 X.K zA H ρ σ)(st:d60 zA z H)
  (h:M.bind (ev G.F a ρ) (λx=>M.bind (M.of ((pl x).bind asB)) k) z=some r) (her:∀ c z1,r=.er c z1->EPost G zA E c z1 H)
  (hok:∀ b z1,k b z1=some r->∀ H1,Ext zA H H1->d60 zA z1 H1->Q' (.bl b) H1):tI X.K G E a σ H Q':=by
 refine j20 rel st h her λm z1 e1=>?_;obtain⟨b,p1,e2⟩:=M.a20 e1;obtain⟨d,p2,p3⟩:=Ñ.mp p1;obtain⟨s1,rfl,q1⟩:=f30 p2;refine⟨s1,rfl,λv H1 x1 st1 rv=>?_⟩;have hd:=rv.pl.d_ q1;cases d with
 |bl c =>
  cases p3;rw[hd.bl_];exact hok b z1 e2 H1 x1 st1
 |_=>cases p3
theorem I22(ga:b10 X G E a l)(hl:∀ t x y p,l≠.IfExp t x y p)
  (gb:b10 X G E b (.BoolOp .And (r::vs) p)):b10 X G E (.and a b) (.BoolOp .And (l::r::vs) p):=by
 have pw:PW X (.BoolOp .And (l::r::vs) p) (tT X.K G E (.and a b)):=by
  refine PW.imp (l12 (ga.pt hl) (gb.pw _ _ _ rfl)) λσ H Q q=>?_;obtain⟨zA,ρ,z,rr,rel,st,e,po⟩:=q;refine S70 rel st e (S80 po) λc z1 e1 H1 x1 st1=>?_;cases c with
  |true =>
   rw[if_pos rfl];rw[if_pos rfl] at e1;refine S70 (rel.mono x1) st1 e1 (λc z2 q=>((S80 po) c z2 q).mono x1) λc z2 e2 H2 x2 st2=>?_;cases e2;obtain⟨b',e',po⟩:=po;cases e';exact po H2 (x1.trans x2) st2
  |false =>
   rw[if_neg Ð];rw[if_neg Ð] at e1;cases e1;obtain⟨b',e',po⟩:=po;cases e';exact po H1 x1 st1
 refine⟨PE.imp (l32 ga.pe gb.pe) λσ H Q q=>?_,λ_=>pw.pt,λop vs p h=>pw⟩;obtain⟨zA,ρ,z,rr,rel,st,e,po⟩:=q;refine M00 rel st e (f20 po) λc z1 e1 H1 x1 st1=>⟨c,rfl,?_⟩;cases c with
 |true =>
  rw[if_pos rfl];rw[if_pos rfl] at e1;refine M00 (rel.mono x1) st1 e1 (λc z2 q=>((f20 po) c z2 q).mono x1) λc z2 e2 H2 x2 st2=>?_;cases e2;exact e10 po (x1.trans x2) st2 _ _ (a30.refl H2) j10
 |false =>
  rw[if_neg Ð];rw[if_neg Ð] at e1;cases e1;exact e10 po x1 st1 _ _ (a30.refl H1) j10
theorem U62(ga:b10 X G E a l)(hl:∀ t x y p,l≠.IfExp t x y p)
  (gb:b10 X G E b (.BoolOp .Or (r::vs) p)):b10 X G E (.or a b) (.BoolOp .Or (l::r::vs) p):=by
 have pw:PW X (.BoolOp .Or (l::r::vs) p) (tT X.K G E (.or a b)):=by
  refine PW.imp (A92 (ga.pt hl) (gb.pw _ _ _ rfl)) λσ H Q q=>?_;obtain⟨zA,ρ,z,rr,rel,st,e,po⟩:=q;refine S70 rel st e (S80 po) λc z1 e1 H1 x1 st1=>?_;cases c with
  |false =>
   rw[if_neg Ð];rw[if_neg Ð] at e1;refine S70 (rel.mono x1) st1 e1 (λc z2 q=>((S80 po) c z2 q).mono x1) λc z2 e2 H2 x2 st2=>?_;cases e2;obtain⟨b',e',po⟩:=po;cases e';exact po H2 (x1.trans x2) st2
  |true =>
   rw[if_pos rfl];rw[if_pos rfl] at e1;cases e1;obtain⟨b',e',po⟩:=po;cases e';exact po H1 x1 st1
 refine⟨PE.imp (B22 ga.pe gb.pe) λσ H Q q=>?_,λ_=>pw.pt,λop vs p h=>pw⟩;obtain⟨zA,ρ,z,rr,rel,st,e,po⟩:=q;refine M00 rel st e (f20 po) λc z1 e1 H1 x1 st1=>⟨c,rfl,?_⟩;cases c with
 |false =>
  rw[if_neg Ð];rw[if_neg Ð] at e1;refine M00 (rel.mono x1) st1 e1 (λc z2 q=>((f20 po) c z2 q).mono x1) λc z2 e2 H2 x2 st2=>?_;cases e2;exact e10 po (x1.trans x2) st2 _ _ (a30.refl H2) j10
 |true =>
  rw[if_pos rfl];rw[if_pos rfl] at e1;cases e1;exact e10 po x1 st1 _ _ (a30.refl H1) j10
theorem s42(gb:b10 X G E b r)(hr:∀ t x y p,r≠.IfExp t x y p):b10 X G E b (.BoolOp op [r] p):=by
 have pw:PW X (.BoolOp op [r] p) (tT X.K G E b):=by
  cases op with
  |And=>exact W71 (gb.pt hr)|Or=>exact l02 (gb.pt hr)
 exact⟨l22 gb.pe,λ_=>pw.pt,λ_ _ _ _=>pw⟩
theorem a21.s52(po:a21 X.K G zA E H Q rr)(x1:Ext zA H H1):a21 X.K G zA E H1 Q rr:=by
 cases rr with
 |er c z1=>exact EPost.mono po x1
 |ok l z2 =>
  obtain⟨s,e',po⟩:=po;exact⟨s,e',λv H' x' st' rv=>po v H' (x1.trans x') st' (rv.from x1)⟩
theorem S90{α:Type}{m:M α}{z:Z}{r:R α}(h:M.calm m z=some r):m z=some r/\∃ a z1,r=.ok a z1:=by
 unfold M.calm at h;split at h
 ·rename_i a z1 e;cases h;exact⟨e,a,z1,rfl⟩
 ·cases h
theorem s62{a b:Ï}{ta tb:TE}{pos:Pos}(ha:PE X a ta)(hb:PE X b tb):PE X (.BoolOp .Or [a,b] pos) (λσ H Q=>ta σ H λx H1=>∃ t xs,x=.ref t/\SqT X.K H1 t xs/\if xs.isEmpty=true then tb σ H1 Q else Q x H1):=by
 intro pins s σ H Q I h;refine BoolOp_or (thn (ha pins s σ H _ I h) λv s1 ⟨x,H1,I1,r1,q1⟩=>?_);obtain⟨t,xs,rfl,hq,q1⟩:=q1;obtain⟨its,hv,ht,hl⟩:=I1.tuple hq;have hlen:xs.length=its.length:=hv.length;cases r1;refine truthy_tuple ht (by rw[Ó,← hlen];have:=Á3;omega) ?_
 cases xs with
 |nil =>
  cases its with
  |nil=>exact BoolOp_one (hb pins _ σ H1 Q (I1.tok _) q1)|cons _ _=>cases hlen
 |cons y r =>
  cases its with
  |nil=>cases hlen
  |cons _ _=>exact⟨.ref t,H1,I1.tok _,rfl,q1⟩
theorem T91(h:(pl y).bind p82=some l):∃ s,y=[s]/\plD s=some (.tup l):=by
 obtain⟨d,p2,p3⟩:=Ñ.mp h;obtain⟨s1,rfl,q1⟩:=f30 p2;cases d with
 |tup l=>cases p3;exact⟨s1,rfl,q1⟩
 |_=>cases p3
theorem I32(ga:b10 X G E a l)(gb:b10 X G E b r):b10 X G E (.orT a b) (.BoolOp .Or [l,r] p):=by
 have no:∀ {zA:Option Ç}{ρ:Env}{z:Z}{rr:R (List S)}{H:Hp}{Q:Bool->Hp->Prop},ev G.F (.orT a b) ρ z=some rr->N01 G zA E H Q rr->False:=λe po=>by
  obtain⟨e,u,z1,rfl⟩:=S90 e;obtain⟨c,rfl,_⟩:=po;rcases M.bind_some e with ⟨m,z2,_,e2⟩ | ⟨c,z2,_,e2⟩
  ·obtain⟨ds,_,e3⟩:=M.a20 e2;split at e3
   ·rcases M.bind_some e3 with ⟨m,z2,_,e2⟩ | ⟨c,z2,_,e2⟩
    ·obtain⟨ds,_,e3⟩:=M.a20 e2;cases e3
    ·cases e2
   ·cases e3
  ·cases e2
 refine⟨PE.imp (s62 ga.pe gb.pe) λσ H Q q=>?_,λ_ pins s σ H Q I ⟨_,_,_,_,_,_,e,po⟩=>(no e po).elim,λ_ _ _ _ wh pins s σ H Q I ⟨_,_,_,_,_,_,e,po⟩=>(no e po).elim⟩;obtain⟨zA,ρ,z,rr,rel,st,e,po⟩:=q;obtain⟨e,u,z1,rfl⟩:=S90 e;refine j20 rel st e (f20 po) λm z1 e1=>?_;obtain⟨ds,p1,e2⟩:=M.a20 e1;obtain⟨s1,rfl,q1⟩:=T91 p1;refine⟨s1,rfl,λv H1 x1 st1 rv=>?_⟩;have hd:=rv.pl.d_ q1;obtain⟨t,xs,rfl,h1,h2⟩:=hd.A00;refine⟨t,xs,rfl,(a10 zA H1).sqT h1,?_⟩;cases ds with
 |nil =>
  cases h2.f10;have po:=po.s52 x1;refine j20 (rel.mono x1) st1 e2 (f20 po) λm z1 e1=>?_;obtain⟨ds,p1,e2⟩:=M.a20 e1;obtain⟨s1,rfl,q1⟩:=T91 p1;cases e2;exact⟨s1,rfl,λv H2 x2 st2 rv=>e10 po x2 st2 _ _ (a30.refl H2) (rv.pl.d_ q1)⟩
 |cons y r =>
  obtain⟨u,w,rfl,_⟩:=h2.c30;cases e2;exact e10 po x1 st1 _ _ (a30.refl H1) hd
theorem I42(gc:b10 X G E c t)(ht:∀ a b d p,t≠.IfExp a b d p)(ga:b10 X G E a x)(gb:b10 X G E b y):b10 X G E (.ite c a b) (.IfExp t x y p):=by
 refine⟨PE.imp (G71 (gc.pt ht) ga.pe gb.pe) λσ H Q q=>?_,λh=>absurd rfl (h t x y p),λop vs p h=>by cases h⟩
 obtain⟨zA,ρ,z,rr,rel,st,e,po⟩:=q;refine S70 rel st e (f20 po) λk z1 e1 H1 x1 st1=>?_;have po1:=po.s52 x1;cases k with
 |true =>
  rw[if_pos rfl];rw[if_pos rfl] at e1;exact⟨zA,ρ,z1,rr,rel.mono x1,st1,e1,po1⟩
 |false =>
  rw[if_neg Ð];rw[if_neg Ð] at e1;exact⟨zA,ρ,z1,rr,rel.mono x1,st1,e1,po1⟩
theorem U72(x:XI lm X G E N sc){o o':Cm}{a b c:Ex}{l r s:Ï}{pos:Pos}(hs:A10 s=true)(ga:b10 X G E a l)(gb:b10 X G E b r)(gc:b10 X G E c s):b10 X G E (.ch o o' a b c) (.Compare l [opC o,opC o'] [r,s] pos):=by
 have hm:lastMarks [opC o,opC o'] [r,s]=false:=w81 hs _;have key:∀ σ H Q,tI X.K G E (.ch o o' a b c) σ H Q->q61 (rD2 X.K λa b=>(D20 o a b).map λc=>.d (.bl c)) (rD2 X.K λa b=>(D20 o' a b).map λc=>.d (.bl c)) (tI X.K G E a) (tI X.K G E b) (tI X.K G E c) σ H Q:=λσ H Q q=>by
  obtain⟨zA,ρ,z,rr,rel,st,e,po⟩:=q;refine f61 rel st e (f20 po) λdx dy z2 v w H2 e2 x2 st2 h1 h2=>?_;obtain⟨k,hk,e3⟩:=M.a20 e2;refine⟨zA,z2,dx,dy,.d (.bl k),st2,h1,h2,by show Î6 _ (D20 o dx dy)=_;rw[hk];rfl,λv3 H3 sm rv=>⟨k,Hd.bl_ (show Hd X.K (hz zA H3) (.bl k) v3 from rv),?_⟩⟩
  have x3:=x2.trans (Ext.of sm);have st3:=st2.same sm;cases k with
  |true =>
   rw[if_pos rfl];rw[if_pos rfl] at e3;refine j20 (rel.mono x3) st3 e3 (λc z2 q=>((f20 po) c z2 q).mono x3) λm z4 e4=>?_;obtain⟨dw,p1,e5⟩:=M.a20 e4;obtain⟨k',hk',e6⟩:=M.a20 e5;obtain⟨s1,rfl,q1⟩:=f30 p1;cases e6;refine⟨s1,rfl,λv4 H4 x4 st4 rv4=>?_⟩;exact⟨zA,z4,dy,dw,_,st4,(h2.same (a30.trans (k20 sm) x4)),rv4.pl.d_ q1,by show Î6 _ (D20 o' dy dw)=_;rw[hk'];rfl,e10 po (x3.trans x4) st4⟩
  |false =>
   rw[if_neg Ð];rw[if_neg Ð] at e3;cases e3;exact e10 po x3 st3 _ _ (a30.refl H3) j10
 refine⟨PE.imp (H11 (j82 x.room.units o) (j82 x.room.units o') ga.pe gb.pe gc.pe hm) key,λ_=>PT.imp (H21 (j82 x.room.units o) (j82 x.room.units o') ga.pe gb.pe gc.pe hm) λσ H Q q=>?_,λop vs p h=>by cases h⟩
 obtain⟨zA,ρ,z,rr,rel,st,e,po⟩:=q;exact key σ H _ ⟨zA,ρ,z,rr,rel,st,e,T81 po⟩
theorem U01:∀ σ H Q,tI X.K G E (.bf f as) σ H Q->tCB (rDn X.K (bfD f)) (tA X.K G E as) σ H Q:=λσ H Q q=>by
 obtain⟨zA,ρ,z,rr,rel,st,e,po⟩:=q;refine a31 rel st e (f20 po) λl z1 e1 vs H1 x1 st1 rvs=>?_;obtain⟨ds,hd,e2⟩:=M.a20 e1;obtain⟨s,hs,e3⟩:=M.a20 e2;cases e3;exact⟨zA,z1,ds,s,st1,G20 rvs hd,hs,e10 po x1 st1⟩
theorem w91(x:XI lm X G E N sc){f:Bf}{as:Ex}{n:Str}{id:String}{e:Ï}{l:List Ï}{p pos:Pos}(hc:g10 X (.builtin id) (rDn X.K (bfD f)))(hb:n∈d92)(hv:ï n=some (.builtin id))(hg:glob sc n=true)(hL:isL as=true)(g:Good X G E as (e::l)):b10 X G E (.bf f as) (.Call (.Name n p) (e::l) [] pos):=by
 obtain⟨k1,k2,k3⟩:=d00 hg;obtain⟨ha,hs⟩:=g.args hL;rw[Ä5,Á] at hs;exact b00 (PE.imp (t90 hc (x.glb n k1) (x.blt n hb) hv ha k3 k2 (c70 hs.1 l X.env) (q50 X.env pos hs.2)) U01) rfl
theorem e22(x:XI lm X G E N sc){f:Bf}{as:Ex}{n:Str}{T:String}{e:Ï}{l:List Ï}{p pos:Pos}(hc:g10 X (.type T) (rDn X.K (bfD f)))(hb:n∈d92)(hv:ï n=some (.type T))(hg:glob sc n=true)(hL:isL as=true)(g:Good X G E as (e::l)):b10 X G E (.bf f as) (.Call (.Name n p) (e::l) [] pos):=by
 obtain⟨k1,k2,k3⟩:=d00 hg;obtain⟨ha,hs⟩:=g.args hL;rw[Ä5,Á] at hs;exact b00 (PE.imp (Q20 hc (x.glb n k1) (x.blt n hb) hv ha k3 k2 (c70 hs.1 l X.env) (q50 X.env pos hs.2)) U01) rfl
theorem s72:ï "len"=some (.builtin "len"):=by decide +kernel
theorem T00:ï "sorted"=some (.builtin "sorted"):=by decide +kernel
theorem s82:ï "all"=some (.builtin "all"):=by decide +kernel
theorem s92:ï "min"=some (.builtin "min"):=by decide +kernel
theorem t02:ï "max"=some (.builtin "max"):=by decide +kernel
theorem u70:ï "isinstance"=some (.builtin "isinstance"):=by decide +kernel
theorem t12:ï "int"=some (.type "int"):=by decide +kernel
theorem M10:ï "tuple"=some (.type "tuple"):=by decide +kernel
theorem a41:ï "list"=some (.type "list"):=by decide +kernel
theorem U82(x:XI lm X G E N sc){f:Bf}{as:Ex}{n:Str}{e:Ï}{l:List Ï}{p pos:Pos}(hf:served f=true)(hn:n=(bfN f).1)(hg:glob sc n=true)(hL:isL as=true)(g:Good X G E as (e::l)):b10 X G E (.bf f as) (.Call (.Name n p) (e::l) [] pos):=by
 subst hn;cases f with
 |len=>exact w91 x r02 (-0) s72 hg hL g|tuple=>exact e22 x M41 (-0) M10 hg hL g|list=>exact e22 x d02 (-0) a41 hg hL g|min=>exact w91 x (r22 x.calm) (-0) s92 hg hL g|max=>exact w91 x (r32 x.calm) (-0) t02 hg hL g|all=>exact w91 x (r12 x.calm) (-0) s82 hg hL g|int=>exact e22 x r42 (-0) t12 hg hL g|sorted=>exact w91 x (w61 x.room.units) (-0) T00 hg hL g|_=>cases hf
theorem I52(t:Ty)(h:t≠.seq):Á0 (tyN t)∈d92/\ï (Á0 (tyN t))=some (.type (tyN t))/\tyN t∈["int","bool","tuple","list","str"]:=by
 cases t with
 |seq=>exact absurd rfl h|_=>decide +kernel
theorem t22(x:XI lm X G E N sc){t:Ty}{a:Ex}{n:Str}{e:Ï}{p pos p2:Pos}(hs:t≠.seq)
  (hg2:glob sc (Á0 (tyN t))=true) (hn:n="isinstance") (hg:glob sc n=true) (ns:noStar e=true) (ga:b10 X G E a e):b10 X G E (.isi t a) (.Call (.Name n p) [e,.Name (Á0 (tyN t)) p2] [] pos):=by
 obtain⟨hb,hv,ht⟩:=I52 t hs;subst hn;obtain⟨k1,k2,k3⟩:=d00 hg;obtain⟨m1,m2,m3⟩:=d00 hg2;refine b00 (PE.imp (t90 K01 (x.glb _ k1) (x.blt _ (-0)) u70 (e20 ga.pe (e20 (I70 (v:=.ty (tyN t)) (x.glb _ m1) (x.blt _ hb) hv rfl m3 m2) t80) (c70 ns _ _)) k3 k2 (c70 ns _ _) rfl) λσ H Q q=>?_) rfl
 obtain⟨zA,ρ,z,rr,rel,st,e,po⟩:=q;refine j20 rel st e (f20 po) λm z1 e1=>?_;obtain⟨d,p1,e2⟩:=M.a20 e1;obtain⟨s1,rfl,q1⟩:=f30 p1;cases e2;refine⟨s1,rfl,λv H1 x1 st1 rv=>⟨d,v,tyN t,rfl,((rv.pl.d_ q1).same (a10 zA H1)).has,ht,?_⟩⟩;rw[d12 t d hs];exact e10 po x1 st1 _ _ (a30.refl H1) j10
theorem t32(x:XI lm X G E N sc){a:Ex}{n:Str}{e:Ï}{p pos p1 p2 p3:Pos}{k:Nat}(hg2:glob sc "tuple"=true)(hg3:glob sc "list"=true)(hn:n="isinstance")(hg:glob sc n=true)(ns:noStar e=true)(ga:b10 X G E a e) :
  b10 X G E (.isi .seq a) (.Call (.Name n p) [e,.Tuple [.Name "tuple" p1,.Name "list" p2] k p3] [] pos):=by
 subst hn;obtain⟨k1,k2,k3⟩:=d00 hg;obtain⟨m1,m2,m3⟩:=d00 hg2;obtain⟨l1,l2,l3⟩:=d00 hg3;refine b00 (PE.imp (t90 t41 (x.glb _ k1) (x.blt _ (-0)) u70 (e20 ga.pe (e20 (S11 (e20 (I70 (v:=.ty "tuple") (x.glb _ m1) (x.blt _ (-0)) M10 rfl m3 m2)
  (e20 (I70 (v:=.ty "list") (x.glb _ l1) (x.blt _ (-0)) a41 rfl l3 l2) t80))) t80) (c70 ns _ _)) k3 k2 (c70 ns _ _) rfl) λσ H Q q=>?_) rfl
 obtain⟨zA,ρ,z,rr,rel,st,e,po⟩:=q;refine j20 rel st e (f20 po) λm z1 e1=>?_;obtain⟨d,p1,e2⟩:=M.a20 e1;obtain⟨s1,rfl,q1⟩:=f30 p1;cases e2;refine⟨s1,rfl,λv H1 x1 st1 rv=>⟨by show 2<=Ú;rw[Á3];decide,λt ht=>?_⟩⟩
 have sm:a30 H1 (upd H1 t (.tup [.ty "tuple",.ty "list"])):=a30.new _ ht;refine⟨d,v,t,rfl,((rv.pl.d_ q1).same (a30.trans (a10 zA H1) sm)).has,SqT.of b20,?_⟩;rw[M61 d];exact e10 po x1 st1 _ _ sm j10
theorem I62{a i:Ex}{v x:Ï}{pos:Pos}(hs:D90 x=true)(ga:b10 X G E a v)(gi:b10 X G E i x):b10 X G E (.idx a i) (.Subscript v x pos):=by
 refine b00 (PE.imp (Y01 ixD ga.pe gi.pe (H10 hs)) λσ H Q q=>?_) rfl;obtain⟨zA,ρ,z,rr,rel,st,e,po⟩:=q;refine f61 rel st e (f20 po) λdx dy z2 v w H2 e2 x2 st2 h1 h2=>?_;obtain⟨c,hc,e3⟩:=M.a20 e2;cases e3;exact⟨zA,z2,dx,dy,_,st2,h1,h2,by show Î6 _ (Z20 dx dy)=_;rw[hc];rfl,e10 po x2 st2⟩
theorem t42(x:XI lm X G E N sc){i k:Nat}{n:Str}{c:Nat}{p q pos:Pos}(h1:N[i]?=some n)(h2:d80 n=true):b10 X G E (.zget i k) (.Subscript (.Name n p) (.Constant (.int k) c q) pos):=by
 unfold d80 at h2;simp only[Á,À3] at h2;refine b00 (PE.imp (Y01 X80 (t60 (i:=i) (by rw[x.hN];exact h1) (x.vis n (í h1)) h2.1 h2.2) P10 (H10 rfl)) λσ H Q qq=>?_) rfl
 obtain⟨zA,ρ,z,rr,rel,st,e,po⟩:=qq;have e0:v51 k ρ[i]? z=some rr:=e;unfold v51 at e0;split at e0
 ·rename_i p hs;obtain⟨v,hv,a,hz',rfl⟩:=rel i .z hs;subst hz';have st':H a=some (.lst [.int p.1,.bl p.2]):=st.zat;refine⟨_,hv,a,[.int p.1,.bl p.2],(k:Int),?_⟩;split at e0
  ·rename_i hk;subst hk;cases e0;obtain⟨s',e',po⟩:=po;cases e';exact⟨_,rfl,rfl,SqL.of st',rfl,po _ H Ext.refl st j50⟩
  ·split at e0
   ·rename_i hk;subst hk;cases e0;obtain⟨s',e',po⟩:=po;cases e';exact⟨_,rfl,rfl,SqL.of st',rfl,po _ H Ext.refl st (G31 Hd.bl)⟩
   ·cases e0
 ·cases e0
theorem f71(a:Int):∀ (n:Nat) {its:List Ä},its.length=n->(∀ i,i < n->∃ v t,its[i]?=some v/\v=.int (a + (i:Nat)) t)->Vals ((ì n).map λ(k:Nat)=>V.int (a + k)) its:=by
 intro n its hl h;have:∀ (m:Nat) (l:List Ä) (o:Nat),l.length=m->(∀ i,i < m->∃ v t,l[i]?=some v/\v=.int (a + (o + i:Nat)) t)->Vals ((Á5 o m 1).map λ(k:Nat)=>V.int (a + k)) l:=by
  intro m
  induction m with
  |zero =>
   intro l o hl _;rw[List.length_eq_zero_iff.mp hl];exact .nil
  |succ m ih =>
   intro l o hl h;cases l with
   |nil=>cases hl
   |cons x r =>
    obtain⟨v,t,e1,e2⟩:=h 0 (Nat.succ_pos m);simp only[Ë0,Ê2] at e1;subst e1;rw[û,Å7];refine .cons ⟨t,by rw[e2];simp⟩ (ih r (o + 1) (by simpa using hl) λi hi=>?_)
    obtain⟨v,t,e1,e2⟩:=h (i + 1) (Nat.succ_lt_succ hi);exact⟨v,t,by simpa using e1,by rw[e2];congr 1;omega⟩
 rw[Ç7];exact this n its 0 hl λi hi=>by
  obtain⟨v,t,e1,e2⟩:=h i hi;exact⟨v,t,e1,by rw[e2];simp⟩
theorem x01:ï "range"=some (.type "range"):=by decide +kernel
def lrV:List V->Option (Int × Int)
 |[.int j]=>some (0,j)|[.int i,.int j]=>some (i,j)|_=>none
def lrO:Bool->List V->HO
 |true=>HO.tup|false=>HO.lst
def lrT:Bool->String
 |true=>"tuple"|false=>"list"
def I72(b:Bool)(ta:TA):TE:=λσ H Q=>ta σ H λvs H1=>∃ i j:Int,lrV vs=some (i,j)/\-100000 < i/\i < 100000/\-100000 < j/\j < 100000/\∀ l,H1 l=none->Q (.ref l) (upd H1 l (lrO b ((ì (j - i).toNat).map λ(k:Nat)=>V.int (i + k))))
theorem t52{pins:List (Ç × Obj)}{σ:L2.St}{H1:Hp}{s1:Æ}{r:Ç}{i j:Int}{t u v:Tok}{Q:VK}(hc:X.calm=true)(I2:Inv X pins σ H1 s1)(hr:Õ9 s1.heap r i j 1 t u v)(i1:-100000 < i)(i2:i < 100000)(j1:-100000 < j)(j2:j < 100000)
  (q:∀ l,H1 l=none->Q (.ref l) (upd H1 l (.lst ((ì (j - i).toNat).map λ(k:Nat)=>V.int (i + k))))):Î (Ô X.prog X.w) X.A (call (.type "list") [.ref r]) (EP X pins σ Q) X.xe s1:=by
 have hz:Ã8 i j 1=(((j - i).toNat:Nat):Int):=by rw[rangeSize_one];split <;> omega
 refine call_list_range (n:=(j - i).toNat) (I2.ok.hd hc) hr (small_one ∅ ∅ ∅ ∅) hz ∅ λh' tk acc' c' kp hS hacc=>?_
 have rv:Vals ((ì (j - i).toNat).map λ(k:Nat)=>V.int (i + k)) acc'.toList:=by
  refine f71 i (j - i).toNat ?_ λi hi=>?_
  ·rw[Ê7];exact hacc.1
  ·have hlt:i < acc'.size:=by rw[hacc.1];exact hi
   obtain⟨t,e⟩:=hacc.2 i acc'[i] (É3 hlt);exact⟨acc'[i],t,by rw[õ];exact É3 hlt,by rw[e];simp⟩
 have hlen:((ì (j - i).toNat).map λ(k:Nat)=>V.int (i + k)).length<=sizeLine:=by rw[É,ù,Á3];omega
 have hn:=I2.hok.fresh (Í _);exact⟨.ref _,_,I2.laid (t':=tk) kp (Í _) (show g90 X.prog X.w _ h' _ (.lst _) from⟨hlen,acc'.toList,c',rv,by rw[Ð1];exact hS⟩),rfl,q _ hn⟩
theorem e32{pins:List (Ç × Obj)}{σ:L2.St}{H1:Hp}{s1:Æ}{r:Ç}{i j:Int}{t u v:Tok}{Q:VK}(hc:X.calm=true)(I2:Inv X pins σ H1 s1)(hr:Õ9 s1.heap r i j 1 t u v)(i1:-100000 < i)(i2:i < 100000)(j1:-100000 < j)(j2:j < 100000)
  (q:∀ l,H1 l=none->Q (.ref l) (upd H1 l (.tup ((ì (j - i).toNat).map λ(k:Nat)=>V.int (i + k))))):Î (Ô X.prog X.w) X.A (call (.type "tuple") [.ref r]) (EP X pins σ Q) X.xe s1:=by
 have hz:Ã8 i j 1=(((j - i).toNat:Nat):Int):=by rw[rangeSize_one];split <;> omega
 refine HT.tuple_range (n:=(j - i).toNat) (I2.ok.hd hc) hr (small_one ∅ ∅ ∅ ∅) hz ∅ λh' tk acc' kp hsz hacc=>?_
 have rv:Vals ((ì (j - i).toNat).map λ(k:Nat)=>V.int (i + k)) acc'.toList:=by
  refine f71 i (j - i).toNat ?_ λi hi=>?_
  ·rw[Ê7];exact hacc.1
  ·have hlt:i < acc'.size:=by rw[hacc.1];exact hi
   obtain⟨t,e⟩:=hacc.2 i acc'[i] (É3 hlt);exact⟨acc'[i],t,by rw[õ];exact É3 hlt,by rw[e];simp⟩
 have hlen:((ì (j - i).toNat).map λ(k:Nat)=>V.int (i + k)).length<=sizeLine:=by rw[É,ù,Á3];omega
 exact⟨.ref _,_,I2.laid (t':=tk) (λb o e=>Ã _ (kp b o e)) hsz (show g90 X.prog X.w _ _ _ (.tup _) from⟨hlen,acc'.toList,rv,⟨_,Ê _ rfl,rfl,0,by rw[Ð1]⟩⟩),rfl,q _ (I2.hok.fresh hsz)⟩
theorem x11(b:Bool){pins:List (Ç × Obj)}{σ:L2.St}{H1:Hp}{s1:Æ}{r:Ç}{i j:Int}{t u v:Tok}{Q:VK}(hc:X.calm=true)(I2:Inv X pins σ H1 s1)(hr:Õ9 s1.heap r i j 1 t u v)(i1:-100000 < i)(i2:i < 100000)(j1:-100000 < j)(j2:j < 100000)
  (q:∀ l,H1 l=none->Q (.ref l) (upd H1 l (lrO b ((ì (j - i).toNat).map λ(k:Nat)=>V.int (i + k))))):Î (Ô X.prog X.w) X.A (call (.type (lrT b)) [.ref r]) (EP X pins σ Q) X.xe s1:=by
 cases b with
 |true=>exact e32 hc I2 hr i1 i2 j1 j2 q|false=>exact t52 hc I2 hr i1 i2 j1 j2 q
theorem I82(b:Bool):ï (lrN b)=some (.type (lrT b)):=by
 cases b with
 |true=>exact M10|false=>exact a41
theorem x21(b:Bool){e:Ï}{l:List Ï}{ta:TA}{p p2 pos pos2:Pos}(hc:X.calm=true)(hg:Gl X (lrN b))(hm:X.mg (lrN b)=none)(hg2:Gl X "range")(hm2:X.mg "range"=none)(ha:PA X (e::l) ta)(hs:noStar e=true)(hs2:l.all noStar=true) :
  PE X (.Call (.Name (lrN b) p) [.Call (.Name "range" p2) (e::l) [] pos2] [] pos) (I72 b ta):=by
 intro pins s σ H Q I h;refine Call_ (t70 I hg hm (I82 b) (Á2 (Ö7 ?_) rfl rfl) (by cases b <;> decide) (by cases b <;> decide))
 refine Call_ (t70 I hg2 hm2 x01 (Á2 (thn (ha pos2 pins s σ H _ I h) λus s1 ⟨vs,H1,I1,r1,q1⟩=>?_) (c70 hs l X.env) (q50 X.env pos2 hs2)));obtain⟨i,j,hv,i1,i2,j1,j2,q⟩:=q1
 match vs,hv with
 |[.int _],hv =>
  cases hv;obtain⟨u,rfl,r⟩:=vals1 r1;obtain⟨t,rfl⟩:=r;exact call_range_1 (Ð3 (x11 b hc (I1.kept λb o e=>Ã _ e) (Õ9.new ..) i1 i2 j1 j2 q))
 |[.int _,.int _],hv =>
  cases hv;obtain⟨u,u',rfl,r,r'⟩:=vals2 r1;obtain⟨t,rfl⟩:=r;obtain⟨t',rfl⟩:=r';exact call_range_2 (Ð3 (x11 b hc (I1.kept λb o e=>Ã _ e) (Õ9.new ..) i1 i2 j1 j2 q))
theorem N11:∀ {ds xs:List D},lrD ds=some xs->∃ i j:Int,((ds=[.int j]/\i=0)∨ds=[.int i,.int j])/\-100000 < i/\i < 100000/\-100000 < j/\j < 100000/\xs=(ì (j - i).toNat).map λ(k:Nat)=>D.int (i + k)
 |[],_,h=>by cases h
 |[x],xs,h=>by
  cases x with
  |int j =>
   obtain⟨hj,h⟩:=f50 h;have hj:=L20.mp hj;exact⟨0,j,.inl ⟨rfl,rfl⟩,by omega,by omega,hj.1,hj.2,by cases h;simp⟩
  |_=>cases h
 |[x,y],xs,h=>by
  cases x with
  |int i =>
   cases y with
   |int j =>
    obtain⟨hj,h⟩:=f50 h;have h1:=L20.mp hj.1;have h2:=L20.mp hj.2;exact⟨i,j,.inr rfl,h1.1,h1.2,h2.1,h2.2,by cases h;rfl⟩
   |_=>cases h
  |_=>cases h
 |x::y::_::_,_,h=>by
  cases x with
  |int i=>cases y <;> cases h
  |_=>cases h
theorem t62(x:XI lm X G E N sc){b:Bool}{as:Ex}{a:Ï}{l:List Ï}{p p2 pos pos2:Pos}(h1:glob sc (lrN b)=true)(h2:glob sc "range"=true)(hL:isL as=true)(g:Good X G E as (a::l)):b10 X G E (.lrng b as) (.Call (.Name (lrN b) p) [.Call (.Name "range" p2) (a::l) [] pos2] [] pos):=by
 obtain⟨k1,_,_⟩:=d00 h1;obtain⟨m1,_,_⟩:=d00 h2;obtain⟨ha,hs⟩:=g.args hL;rw[Ä5,Á] at hs;refine b00 (PE.imp (x21 b x.calm (x.glb _ k1) (x.blt _ (by cases b <;> decide)) (x.glb _ m1) (x.blt _ (-0)) ha hs.1 hs.2) λσ H Q q=>?_) rfl
 obtain⟨zA,ρ,z,rr,rel,st,e,po⟩:=q;refine a31 rel st e (f20 po) λl z1 e1 vs H1 x1 st1 rvs=>?_;obtain⟨xs,hx,e2⟩:=M.a20 e1;cases e2;obtain⟨s',e',po⟩:=po;cases e';obtain⟨ds,h3,h4⟩:=Ñ.mp hx;have hd:=G20 rvs h3;have fin:∀ i j:Int,xs=(ì (j - i).toNat).map (λ(k:Nat)=>D.int (i + k))->∀ lA,H1 lA=none->Q (.ref lA) (upd H1 lA (lrO b ((ì (j - i).toNat).map λ(k:Nat)=>V.int (i + k)))):=λi j ex lA hn=>by
  subst ex;have hI:=HdA.ints (K:=X.K) (H:=hz zA H1) ((ì (j - i).toNat).map λ(k:Nat)=>i + (k:Int));rw[î,î] at hI;cases b with
  |false=>exact po _ _ (x1.trans (Ext.of (a30.new _ hn))) (st1.same (a30.new _ hn)) ((n50 st1 hI hn).from x1)|true=>exact po _ _ (x1.trans (Ext.of (a30.new _ hn))) (st1.same (a30.new _ hn)) (G31 (Hd.tup ((st1.same (a30.new _ hn)).b92 (SqT.of b20)) (hI.same (k20 (a30.new _ hn)))))
 obtain⟨i,j,hds,j1,j2,j3,j4,ex⟩:=N11 h4;refine⟨i,j,?_,j1,j2,j3,j4,fin i j ex⟩;rcases hds with ⟨rfl,rfl⟩ | rfl
 ·obtain⟨v,rfl,h5⟩:=hd.one;cases h5.j00;rfl
 ·obtain⟨v,w,rfl,h5,h6⟩:=hd.two;cases h5.j00;cases h6.j00;rfl
end
theorem x31(val:Nat->Nat)(i:Nat):∀ n,(SS.met val n).testBit i=(ì n).any λj=>val j == i
 |0=>Nat.zero_testBit i
 |n + 1=>by
  show(SS.met val n ||| 2 ^ val n).testBit i=_;rw[Nat.testBit_or,x31 val i n,Nat.testBit_two_pow,List.range_succ,List.any_append];simp;rfl
theorem f81:∀ {l:List D}{ns:List Nat},D30 l=some ns->l=ns.map (λ(n:Nat)=>D.int n)/\∀ n∈ns,n < 8
 |[],ns,h=>by cases h;exact⟨rfl,λn hn=>by cases hn⟩
 |x::r,ns,h=>by
  cases x with
  |int i =>
   obtain⟨hi,h⟩:=f50 h;obtain⟨ms,h1,rfl⟩:=Ì.mp h;obtain⟨e,k⟩:=f81 h1;refine⟨?_,λn hn=>?_⟩
   ·rw[Å7,← e,show((i.toNat:Nat):Int)=i from Int.toNat_of_nonneg hi.1]
   ·rcases ú.mp hn with rfl | hn
    ·omega
    ·exact k n hn
  |_=>cases h
theorem e42{ns:List Nat}:SS.bts (SS.met (λi=>ns.getD i 0) ns.length)=(ì 8).filter λi=>ns.contains i:=by
 unfold SS.bts;refine List.filter_congr λi _=>?_;rw[x31];rw[Í7,List.any_eq_true,Ì7];constructor
 ·rintro ⟨j,hj,e⟩;rw[Ó1] at hj;rw[← eq_of_beq e,Ø,æ hj];exact É1 hj
 ·intro h;obtain⟨j,hj,e⟩:=Õ2.mp h;exact⟨j,Â5.mpr hj,by rw[Ø,æ hj,← e];exact beq_self_eq_true _⟩
theorem x41{K:Â}{H:Hp}:∀ {ns:List Nat}{us:List V},HdA K H (ns.map λ(n:Nat)=>D.int n) us->us=ns.map λ(n:Nat)=>V.int n
 |[],_,h=>h.f10
 |n::r,_,h=>by
  obtain⟨y,q,rfl,h1,h2⟩:=HdA.c30 h;rw[h1.j00,x41 h2];rfl
theorem x51{K:Â}{H:Hp}:∀ ns:List Nat,HdA K H (ns.map λ(n:Nat)=>D.int n) (ns.map λ(n:Nat)=>V.int n)
 |[]=>.nil|n::r=>.cons Hd.int (x51 r)
theorem x61{ns:List Nat}(h:∀ n∈ns,n < 8)(i:Nat):ns.getD i 0 < 8:=by
 rw[Ø];cases e:ns[i]? with
 |none=>decide|some n=>exact h n (í e)
section
variable {lm:Bool}{X:Cx}{G:Gs}{E:XK}{N:List Str}{sc:ý}
def N21(w:ç)(p m:Nat):é->Prop:=λh=>SS.z70 w h p m
theorem x71(hc:X.calm=true):g10 X (.type "set") (λxs H Q=>∃ (a:Ç) (ns:List Nat) (us:List V),xs=[.ref a]/\(SqL X.K H a us∨SqT X.K H a us)/\us=ns.map (λ(n:Nat)=>V.int n)/\(∀ n∈ns,n < 8)/\∀ p,H p=none->Q (.ref p) (upd H p (.ext (N21 X.w p (SS.met (λi=>ns.getD i 0) ns.length))))):=by
 intro pins s σ H xs us Q I r h;obtain⟨a,ns,vs,rfl,hq,rfl,h8,q⟩:=h;obtain⟨u,rfl,rx⟩:=vals1 r;cases rx;have hv:∀ i,(λi=>ns.getD i 0) i < 8:=x61 h8;have hp:∀ {its:List Ä},Vals (ns.map λ(n:Nat)=>V.int n) its->its.toArray.size=ns.length/\∀ (i:Nat) (v:Ä),its.toArray[i]?=some v->∃ t,v=.int ((λi=>ns.getD i 0) i:Nat) t:=λ{its} rv=>by
  refine⟨by rw[Ó,← rv.length,É],λi v e=>?_⟩
  have e:its[i]?=some v:=by simpa using e
  have hi:i < ns.length:=by have:=(ß.mp e).1;rw[← rv.length,É] at this;exact this
  obtain⟨w',e1,e2⟩:=rv.get (i:=i) (x:=V.int (ns[i]:Nat)) (by simp[hi])
  rw[e] at e1;cases e1;obtain⟨t,rfl⟩:=e2;exact⟨t,by simp[hi]⟩
 have fin:∀ (h':é) (tk:Nat),SS.z70 X.w h' s.heap.objs.size (SS.met (λi=>ns.getD i 0) ns.length)->(∀ b u,s.heap.get? b=some u->h'.get? b=some u)->EP X pins σ Q (.ref s.heap.objs.size) { s with heap:=h',toks:=tk }:=λh' tk hS kp=>by
  refine⟨.ref s.heap.objs.size,_,I.laid (t':=tk) (o:=.ext (N21 X.w s.heap.objs.size (SS.met (λi=>ns.getD i 0) ns.length))) kp (Í _) ⟨hS,?_,λh1 h2 p k=>p.keep k⟩,rfl,q _ (I.hok.fresh (Í _))⟩;obtain⟨o,_,_,ho,_⟩:=hS;exact⟨o,ho⟩
 rcases hq with hq | hq
 ·obtain⟨its,rv,pl,_⟩:=I.list hq;obtain⟨o,ho,hcl,n,hd⟩:=pl.isList;obtain⟨sz,pv⟩:=hp rv;refine SS.e91 (o:=o) (it:={ cls:=.type "list_iterator",data:=.fields #[.ref a,.int 0 0] }) (n:=its.toArray.size) (St:=λI i h=>h.IsListIter I a i/\h.IsList a its.toArray) (Pv:=λi v=>its.toArray[i]?=some v) (val:=λi=>ns.getD i 0)
   ⟨hcl,F.sub_list_set,F.sub_list_frozenset,by decide,λA E s Q e q=>Ý1 ⟨o,e,hcl,n,hd⟩ q,λA I hh hn=>Walks.list hh I a hn _,λh e=>⟨⟨_,Ê _ rfl,rfl,rfl⟩,⟨o,Ã _ e,hcl,n,hd⟩⟩⟩ (by exact I.ok.hd hc) ho hv pv λh' tk x kp=>?_
  rw[sz] at x;exact fin h' tk x kp
 ·obtain⟨its,rv,pl,_⟩:=I.tuple hq;obtain⟨o,ho,hcl,n,hd⟩:=pl;obtain⟨sz,pv⟩:=hp rv;refine SS.e91 (o:=o) (it:={ cls:=.type "tuple_iterator",data:=.fields #[.ref a,.int 0 0] }) (n:=its.toArray.size) (St:=λI i h=>h.IsTupleIter I a i/\h.IsTuple a its.toArray) (Pv:=λi v=>its.toArray[i]?=some v) (val:=λi=>ns.getD i 0)
   ⟨hcl,by rw[Ñ5];kernel_rfl,by rw[Ñ5];kernel_rfl,by decide,λA E s Q e q=>È0 ⟨o,e,hcl,n,hd⟩ q,λA I hh hn=>Walks.tuple hh I a hn _,λh e=>⟨⟨_,Ê _ rfl,rfl,rfl⟩,⟨o,Ã _ e,hcl,n,hd⟩⟩⟩ (by exact I.ok.hd hc) ho hv pv λh' tk x kp=>?_
  rw[sz] at x;exact fin h' tk x kp
theorem T10(hc:X.calm=true)(hu:X.A.units + 64 < Å8):g10 X (.builtin "sorted") (λxs H Q=>∃ (p:Ç) (m:Nat),xs=[.ref p]/\m < 256/\H p=some (.ext (N21 X.w p m))/\∀ l,H l=none->Q (.ref l) (upd H l (.lst ((SS.bts m).map λ(n:Nat)=>V.int n)))):=by
 intro pins s σ H xs us Q I r h;obtain⟨p,m,rfl,hm,hp,q⟩:=h;obtain⟨u,rfl,rx⟩:=vals1 r;cases rx;obtain⟨⟨o,ep,g,ho,hx,hd⟩,_⟩:=I.hok p _ hp;refine SS.n01 (by exact I.ok.hd hc) hu hm ho hx hd λl h' tk c hl kp hD=>?_
 refine⟨.ref l,_,I.laid (t':=tk) (o:=.lst ((SS.bts m).map λ(n:Nat)=>V.int n)) kp hl ⟨?_,_,c,?_,hD⟩,rfl,q _ (I.hok.fresh hl)⟩
 ·rw[É,Á3];have:(SS.bts m).length<=8:=Ò (Å3 _ _) (by simp)
  omega
 ·clear hD hd;generalize SS.bts m=l
  induction l with
  |nil=>exact .nil|cons n r ih=>exact .cons ⟨_,rfl⟩ ih
theorem t72:ï "set"=some (.type "set"):=by decide +kernel
theorem t82(x:XI lm X G E N sc){as:Ex}{e:Ï}{p1 p2 p3 p4:Pos}(h1:glob sc "sorted"=true)(h2:glob sc "set"=true)(hL:isL as=true)(g:Good X G E as [e]):b10 X G E (.bf .sset as) (.Call (.Name "sorted" p1) [.Call (.Name "set" p2) [e] [] p3] [] p4):=by
 obtain⟨k1,k2,k3⟩:=d00 h1;obtain⟨j1,j2,j3⟩:=d00 h2;obtain⟨ha,hs⟩:=g.args hL;rw[Ä5,Á] at hs;refine b00 (PE.imp (t90 (T10 x.calm x.room.units) (x.glb _ k1) (x.blt _ (-0)) T00 (e20 (Q20 (x71 x.calm) (x.glb _ j1) (x.blt _ (-0)) t72 ha j3 j2 (c70 hs.1 [] X.env) (q50 X.env p3 hs.2)) t80) k3 k2) λσ H Q q=>?_) rfl
 obtain⟨zA,ρ,z,rr,rel,st,ee,po⟩:=q;refine a31 rel st ee (f20 po) λl z1 e1 vs H1 x1 st1 rvs=>?_;obtain⟨ds,hd,e2⟩:=M.a20 e1;obtain⟨s,hs',e3⟩:=M.a20 e2;cases e3;have hds:=G20 rvs hd
 match ds,hs' with
 |[d],hs' =>
  obtain⟨l,hl,hs'⟩:=Ñ.mp hs';obtain⟨ns,hn,rfl⟩:=Ì.mp hs';obtain⟨rfl,h8⟩:=f81 hn;obtain⟨v,rfl,hv⟩:=hds.one;obtain⟨a,us,rfl,hq,hd'⟩:∃ a us,v=.ref a/\(SqL X.K H1 a us∨SqT X.K H1 a us)/\HdA X.K (hz zA H1) (ns.map λ(n:Nat)=>D.int n) us:=by
   cases d with
   |tup m =>
    cases hl;obtain⟨a,xs,rfl,m1,m2⟩:=hv.A00;exact⟨a,xs,rfl,.inr ((a10 zA H1).sqT m1),m2⟩
   |lst m =>
    cases hl;obtain⟨a,xs,rfl,m1,m2⟩:=hv.X20;exact⟨a,xs,rfl,.inl (m1.same (a10 zA H1)).sq,m2⟩
   |_=>cases hl
  refine⟨a,ns,us,rfl,hq,x41 hd',h8,λp hp=>⟨p,_,rfl,SS.u41 (x61 h8) _,b20,λl hl=>?_⟩⟩;have sm:a30 H1 (upd H1 p (.ext (N21 X.w p (SS.met (λi=>ns.getD i 0) ns.length)))):=a30.new _ hp;rw[e42];exact e10 po x1 st1 _ _ (a30.trans sm (a30.new _ hl)) ((n50 (st1.same sm) (x51 _) hl).from (Ext.of sm))
def tPO(K:Â)(G:Gs)(E:XK)(x:Ex):TO:=λσ H Q=>∃ zA ρ z r,y40 K zA H ρ σ/\d60 zA z H/\ev G.F x ρ z=some r/\(match r with
 |.ok l z'=>∃ o,v41 l=some o/\∀ H',Ext zA H H'->d60 zA z' H'->Q o H'
 |.er c z'=>EPost G zA E c z' H)
theorem t92(hL:isL x=true)(g:Good X G E x e.toList):PO X e (tPO X.K G E x):=by
 cases e with
 |none =>
  cases x with
  |nil =>
   refine λpins s σ H Q I q=>X81 pins s σ H Q I ?_;obtain⟨zA,ρ,z,r,rel,st,e,po⟩:=q;cases e;obtain⟨o,e',po⟩:=po;cases e';exact po H Ext.refl st
  |cons a r=>obtain⟨e,es,h,_⟩:=g;cases h
  |_=>cases hL
 |some e =>
  cases x with
  |nil=>cases (show [e]=[] from g)
  |cons a r =>
   obtain⟨e',es,h,ns,ga,lr,gr⟩:=g;cases h;refine λpins s σ H Q I q=>X91 ga.pe pins s σ H Q I ?_;obtain⟨zA,ρ,z,rr,rel,st,e,po⟩:=q;have her:∀ c z1,rr=.er c z1->EPost G zA E c z1 H:=λc z1 e=>by subst e;exact po
   have rn:r=.nil:=by
    cases r with
    |nil=>rfl|cons b q=>obtain⟨e,es,h,_⟩:=gr;cases h
    |_=>cases lr
   subst rn;refine j20 rel st e her λl z1 e1=>?_;obtain⟨s,hs,e2⟩:=M.a20 e1;cases e2;obtain⟨o,e',po⟩:=po;refine⟨s,D80 hs,λv H1 x1 st1 rv=>?_⟩;cases s with
   |d y =>
    cases y with
    |int i =>
     cases e';exact⟨i,Hd.j00 (show Hd X.K (hz zA H1) (.int i) v from rv),po H1 x1 st1⟩
    |_=>cases e'
   |fr ys=>cases e'
   |z=>cases e'
  |_=>cases hL
theorem U92{a lo hi:Ex}{v:Ï}{l h:Option Ï}{p pos:Pos}(ga:b10 X G E a v)(hl:isL lo=true)(hh:isL hi=true)(gl:Good X G E lo l.toList)(gh:Good X G E hi h.toList):b10 X G E (.sl a lo hi) (.Subscript v (.Slice l h none p) pos):=by
 refine b00 (PE.imp (H51 T82 ga.pe (t92 hl gl) (t92 hh gh)) λσ H Q q=>?_) rfl;obtain⟨zA,ρ,z,rr,rel,st,e,po⟩:=q;refine j20 rel st e (f20 po) λm z1 e1=>?_;obtain⟨dx,p1,e2⟩:=M.a20 e1;obtain⟨s1,rfl,q1⟩:=f30 p1;refine⟨s1,rfl,λw H1 x1 st1 rv=>?_⟩;rcases M.bind_some e2 with ⟨u,z2,e3,e4⟩ | ⟨c,z2,e3,e4⟩
 ·obtain⟨o,ho,e5⟩:=M.a20 e4;refine⟨zA,ρ,z1,_,rel.mono x1,st1,e3,o,ho,λH2 x2 st2=>?_⟩;rcases M.bind_some e5 with ⟨u',z3,e6,e7⟩ | ⟨c,z3,e6,e7⟩
  ·obtain⟨o',ho',e8⟩:=M.a20 e7;refine⟨zA,ρ,z2,_,(rel.mono x1).mono x2,st2,e6,o',ho',λH3 x3 st3=>?_⟩;obtain⟨s,hs,e9⟩:=M.a20 e8;cases e9;exact⟨zA,z3,dx,s,st3,((rv.pl.mono (x2.trans x3)).d_ q1),hs,e10 po ((x1.trans x2).trans x3) st3⟩
  ·exact⟨zA,ρ,z2,_,(rel.mono x1).mono x2,st2,e6,((f20 po) c z3 e7).mono (x1.trans x2)⟩
 ·exact⟨zA,ρ,z1,_,rel.mono x1,st1,e3,((f20 po) c z2 e4).mono x1⟩
theorem I92{a:Ex}{v:Ï}{p1 p2 p3 pos:Pos}{k:Nat}(ga:b10 X G E a v):b10 X G E (.rev a) (.Subscript v (.Slice none none (some (.UnaryOp .USub (.Constant (.int 1) k p1) p2)) p3) pos):=by
 refine b00 (PE.imp (o42 ga.pe (m42 S01 P10)) λσ H Q q=>?_) rfl;obtain⟨zA,ρ,z,rr,rel,st,e,po⟩:=q;refine j20 rel st e (f20 po) λm z1 e1=>?_;obtain⟨s,p1,e2⟩:=M.a20 e1;obtain⟨d,p2,p3⟩:=Ñ.mp p1;obtain⟨s1,rfl,q1⟩:=f30 p2;cases e2;refine⟨s1,rfl,λw H1 x1 st1 rv=>⟨1,rfl,rfl,?_⟩⟩;have hd:=rv.pl.d_ q1;cases d with
 |tup l =>
  cases p3;obtain⟨a,xs,rfl,h1,h2⟩:=hd.A00;exact .inl ⟨a,xs,rfl,(a10 zA H1).sqT h1,tupQ st1 h2.reverse (e10 po x1 st1)⟩
 |lst l =>
  cases p3;obtain⟨a,xs,rfl,h1,h2⟩:=hd.X20;exact .inr ⟨a,xs,rfl,(h1.same (a10 zA H1)).sq,λp hp=>e10 po x1 st1 _ _ (a30.new _ hp) (n50 st1 h2.reverse hp)⟩
 |_=>cases p3
theorem u02:∀ {x:Ex}{es:List Ï}{z z1:Z}{l:List S},isL x=true->Good X G E x es->ev G.F x ρ z=some (.ok l z1)->l.length=es.length:=by
 intro x
 induction x with
 |nil =>
  intro es z z1 l _ h e;have h:es=[]:=h;subst h;cases e;rfl
 |cons a r _ ih =>
  intro es z z1 l _ h e;obtain⟨e',es',rfl,ns,g,lr,gr⟩:=h;rcases M.bind_some e with ⟨m,z2,e1,e2⟩ | ⟨c,z2,e1,e2⟩
  ·obtain⟨s,hs,e3⟩:=M.a20 e2;rcases M.bind_some e3 with ⟨m',z3,e4,e5⟩ | ⟨c,z3,e4,e5⟩
   ·cases e5;rw[Ü,Ü,ih lr gr e4]
   ·cases e5
  ·cases e2
 |_=>intro es z z1 l h;cases h
theorem s_call(x:XI lm X G E N sc){f:Nat}{as:Ex}{n:Str}{ps:List Str}{e:Ï}{l:List Ï}{p pos:Pos}(hf:G.fns[f]?=some (n,ps))(hl:ps.length=l.length + 1)(hg:glob sc n=true)(hL:isL as=true)(g:Good X G E as (e::l)) :
  b10 X G E (.call f as) (.Call (.Name n p) (e::l) [] pos):=by
 obtain⟨k1,k2,k3⟩:=d00 hg;obtain⟨fa,fd,m1,m2,m3,F⟩:=x.gok f n ps hf;obtain⟨ha,hs⟩:=g.args hL;rw[Ä5,Á] at hs;refine b00 (PE.imp (X51 F x.room (x.glb n k1) m1 m2 m3 .nil x.pas ha k2 (c70 hs.1 l X.env) (q50 X.env pos hs.2)) λσ H Q q=>?_) rfl;obtain⟨zA,ρ,z,rr,rel,st,e,po⟩:=q;have e0:M.bind (ev G.F as ρ) (λl=>M.bind (G.F false f (l.map plS)) λs=>M.ret [s]) z=some rr:=e;rcases M.bind_some e0 with ⟨m,z1,e1,e2⟩ | ⟨c,z1,e1,e2⟩
 ·refine⟨zA,ρ,z,_,rel,st,e1,λvs H1 x1 st1 rvs=>?_⟩;have hv:vs.length=ps.length:=by rw[← rvs.length,u02 hL g e1,hl];rfl
  show spF X.K G f ps.length (vs++[]) H1 Q E;rw[append_nil];refine⟨hv,zA,z1,m.map plS,?_⟩;have ra:RvA X.K zA H1 (m.map plS) vs:=RvA.plS (Å9.j52 rvs λ_ _ q=>q.pl);rcases M.bind_some e2 with ⟨s,z2,e3,e4⟩ | ⟨c,z2,e3,e4⟩
  ·cases e4;refine⟨_,ra,st1,e3,λv H2 x2 st2 rv=>?_⟩;obtain⟨s',e',po⟩:=po;cases e';exact po v H2 (x1.trans x2) st2 (rv.from x1)
  ·exact⟨_,ra,st1,e3,((f20 po) c z2 e4).mono x1⟩
 ·exact⟨zA,ρ,z,_,rel,st,e1,(f20 po) c z1 e2⟩
def A02:Pat->Nat
 |.nil=>0|.cons _ r=>A02 r + 1|_=>0
mutual
noncomputable def gP(K:Â):Pat->TG
 |.v i=>X40 i|.tup ps=>M32 K (A02 ps) (gL K ps)|.nil=>λ_ _ _ _=>False|.cons _ _=>λ_ _ _ _=>False
noncomputable def gL(K:Â):Pat->TGs
 |.nil=>M22|.cons p r=>l72 (gP K p) (gL K r)|.v _=>λ_ _ _ _=>False|.tup _=>λ_ _ _ _=>False
end
end
end Q
namespace Q
open PySem L2 PySem.Spec PyProof.Rows
variable [TB:Tb]
theorem U11(h:noStar e=true)(es:List Ï)(env:È8):Ê1 (e::es) env=(false,Ù1 e env)::Ê1 es env:=by
 cases e <;> first | rfl | cases h
structure N31(X:Cx)(N:List Str)(loc:Str->Bool):Prop where
 hN:X.N=N
 nd:N.Nodup
 lc:∀ x,loc x=true->Loc X.env.scope x
 fn:∀ x,loc x=true->(X.fn x=true∨X.env.scope.names.lookup x=some .local)
 calm:X.calm=true
theorem H20:∀ {es:List Ï} (env:È8),es.all noStar=true->(Ê1 es env).length=es.length/\(Ê1 es env).findIdx? (·.1)=none
 |[],_,_=>⟨rfl,rfl⟩
 |e::es,env,h=>by
  rw[Ä5,Á] at h;obtain⟨h1,h2⟩:=H20 env h.2;rw[U11 h.1];refine⟨by rw[Ü,Ü,h1],?_⟩
  rw[List.findIdx?_cons,h2];rfl
theorem f91:∀ {r:Pat}{es:List Ï},n11 N loc r es=true->es.length=A02 r/\es.all noStar=true
 |.nil,es,h=>by
  unfold n11 at h;have:es=[]:=Ì8.mp h;subst this;exact⟨rfl,rfl⟩
 |.cons p r,es,h=>by
  unfold n11 at h;cases es with
  |nil=>cases h
  |cons e es =>
   rw[Á,Á] at h;obtain⟨h1,h2⟩:=f91 (r:=r) h.2;exact⟨by rw[Ü,h1];rfl,by rw[Ä5,h.1.1,h2];rfl⟩
 |.v _,_,h=>by unfold n11 at h;cases h
 |.tup _,_,h=>by unfold n11 at h;cases h
mutual
theorem x81(L:N31 X N loc):∀ {p:Pat}{e:Ï},j30 N loc p e=true->PG X e (gP X.K p)
 |.v i,e,h=>by
  unfold j30 at h;cases e with
  |Name x pos =>
   rw[Á,beq_iff_eq] at h;unfold gP;exact q31 (by rw[L.hN];exact L.nd) (by rw[L.hN];exact h.1) (L.lc x h.2) (L.fn x h.2)
  |_=>cases h
 |.tup ps,e,h=>by
  unfold j30 at h;cases e with
  |Tuple es k pos =>
   obtain⟨h1,h2⟩:=f91 h;obtain⟨h3,h4⟩:=H20 X.env h2;unfold gP;exact l82 L.calm (U21 L h) (by rw[h3,h1]) h4
  |_=>cases h
 |.nil,e,h=>by unfold j30 at h;cases h
 |.cons _ _,e,h=>by unfold j30 at h;cases h
theorem U21(L:N31 X N loc):∀ {r:Pat}{es:List Ï},n11 N loc r es=true->PGs X es (gL X.K r)
 |.nil,es,h=>by
  unfold n11 at h;have:es=[]:=Ì8.mp h;subst this;unfold gL;exact W91
 |.cons p r,es,h=>by
  unfold n11 at h;cases es with
  |nil=>cases h
  |cons e es =>
   rw[Á,Á] at h;unfold gL;exact G81 (x81 L h.1.2) (U21 L h.2) (by rw[U11 h.1.1];rfl)
 |.v _,_,h=>by unfold n11 at h;cases h
 |.tup _,_,h=>by unfold n11 at h;cases h
end
section
variable {K:Â}{zA:Option Ç}{H:Hp}
theorem y40.set{ρ:Env}{σ:L2.St}{i:Nat}{s:S}{v:V}(h:y40 K zA H ρ σ)(hl:ρ.length=σ.length)(r:RvP K zA H s v):y40 K zA H (ρ.set i (some s)) (σ.set i (some v)):=by
 intro j t e;by_cases hj:j=i
 ·subst hj;have hlt:j < ρ.length:=by
   have:=(ß.mp e).1;simpa using this
  rw[ñ hlt] at e;cases e;exact⟨v,ñ (by rw[← hl];exact hlt),r⟩
 ·rw[ê (Â3 hj)] at e;obtain⟨w,h1,h2⟩:=h j t e;exact⟨w,by rw[ê (Â3 hj)];exact h1,h2⟩
theorem E00:∀ {r:Pat}{l:List D}{ρ ρ':Env},bindL r l ρ=some ρ'->l.length=A02 r
 |.nil,l,ρ,ρ',e=>by
  unfold bindL at e;cases l with
  |nil=>rfl|cons x l=>cases e
 |.cons p r,l,ρ,ρ',e=>by
  unfold bindL at e;cases l with
  |nil=>cases e
  |cons x l =>
   obtain⟨ρ1,e1,e2⟩:=Ñ.mp e;rw[Ü,E00 e2];rfl
 |.v _,_,_,_,e=>by unfold bindL at e;cases e
 |.tup _,_,_,_,e=>by unfold bindL at e;cases e
mutual
theorem x91:∀ {p:Pat}{d:D}{ρ ρ':Env},e60 p d ρ=some ρ'->∀ {σ:L2.St}{v:V}{R:L2.St->Hp->Prop},y40 K zA H ρ σ->ρ.length=σ.length->Hd K (hz zA H) d v ->
  (∀ σ',y40 K zA H ρ' σ'->ρ'.length=σ'.length->R σ' H)->gP K p v σ H R
 |.v i,d,ρ,ρ',e,σ,v,R,rel,hl,hd,k=>by
  unfold e60 at e;cases e;unfold gP;exact k _ (rel.set hl (show RvP K zA H (.d d) v from hd)) (by rw[Ä1,Ä1,hl])
 |.tup ps,d,ρ,ρ',e,σ,v,R,rel,hl,hd,k=>by
  unfold e60 at e;cases d with
  |tup l =>
   obtain⟨a,xs,rfl,h1,h2⟩:=hd.A00;unfold gP;exact⟨a,xs,rfl,(a10 zA H).sqT h1,by rw[h2.length];exact E00 e,g01 e rel hl h2 k⟩
  |_=>cases e
 |.nil,_,_,_,e,_,_,_,_,_,_,_=>by unfold e60 at e;cases e
 |.cons _ _,_,_,_,e,_,_,_,_,_,_,_=>by unfold e60 at e;cases e
theorem g01:∀ {r:Pat}{l:List D}{ρ ρ':Env},bindL r l ρ=some ρ'->∀ {σ:L2.St}{vs:List V}{R:L2.St->Hp->Prop},y40 K zA H ρ σ->ρ.length=σ.length->HdA K (hz zA H) l vs ->
  (∀ σ',y40 K zA H ρ' σ'->ρ'.length=σ'.length->R σ' H)->gL K r vs σ H R
 |.nil,l,ρ,ρ',e,σ,vs,R,rel,hl,hd,k=>by
  unfold bindL at e;cases l with
  |nil =>
   cases e;unfold gL;exact⟨hd.f10,k σ rel hl⟩
  |cons x l=>cases e
 |.cons p r,l,ρ,ρ',e,σ,vs,R,rel,hl,hd,k=>by
  unfold bindL at e;cases l with
  |nil=>cases e
  |cons x l =>
   obtain⟨ρ1,e1,e2⟩:=Ñ.mp e;obtain⟨v,ws,rfl,h1,h2⟩:=hd.c30;unfold gL;exact⟨v,ws,rfl,x91 e1 rel hl h1 λσ' r' l'=>g01 e2 r' l' h2 k⟩
 |.v _,_,_,_,e,_,_,_,_,_,_,_=>by unfold bindL at e;cases e
 |.tup _,_,_,_,e,_,_,_,_,_,_,_=>by unfold bindL at e;cases e
end
end
end Q
namespace Q
open PySem L2 PySem.Spec PyProof.Rows
variable [TB:Tb]
structure J02(K:PySem.W.Frag)(zA:Option Addr)(J:L2.It)(xs:List D)(H1:Hp):Prop where
 go:∀ i H,Ext zA H1 H->i < xs.length->J.go i H
 yld:∀ i H x H' z d,Ext zA H1 H->d60 zA z H->J.yld i H x H'->xs[i]?=some d->a30 H H'/\Hd K (hz zA H') d x
 stop:∀ H,Ext zA H1 H->J.stop xs.length H
structure ItB(K:PySem.W.Frag)(J:L2.It)(xs:List D)(B:Hp):Prop where
 go:∀ i H,a30 B H->i < xs.length->J.go i H
 yld:∀ i H x H' zA z d,a30 B (hz zA H)->d60 zA z H->J.yld i H x H'->xs[i]?=some d->a30 H H'/\∀ C,a30 B C->(∀ a ys,SqT K (hz zA H') a ys->SqT K C a ys)->Hd K C d x
 stop:∀ H,a30 B H->J.stop xs.length H
section
variable {K:Â}{B:Hp}
theorem ItB.ok(h:ItB K J xs (hz zA H1)):J02 K zA J xs H1 :=
 ⟨λi H x=>h.go i H (a30.trans x (a10 zA H)),λi H x H' z d e st y k=>let ⟨s,f⟩:=h.yld i H x H' zA z d e st y k;⟨s,f _ (a30.trans e (k20 s)) λ_ _ q=>q⟩,λH x=>h.stop H (a30.trans x (a10 zA H))⟩
theorem g11(h:q40 K B a ys)(r:HdA K B xs ys):ItB K (Itl K a) xs B where
 go:=λi H x hi=>⟨ys,ys[i]'(by rw[r.length];exact hi),(h.same x).sq,by simp⟩
 yld:=λi H v H' zA z d x st y e=>by
  obtain⟨rfl,y⟩:=y;have y1:=y ys ((h.same x).same (a10 zA _)).sq;obtain⟨w,e1,e2⟩:=r.get e;rw[y1] at e1;cases e1;exact⟨a30.refl _,λC c _=>e2.same c⟩
 stop:=λH x=>⟨ys,(h.same x).sq,by rw[r.length];exact Í _⟩
theorem y01(h:SqT K B a ys)(r:HdA K B xs ys):ItB K (Itt K a) xs B where
 go:=λi H x hi=>⟨ys,ys[i]'(by rw[r.length];exact hi),a30.sqT x h,by simp⟩
 yld:=λi H v H' zA z d x st y e=>by
  obtain⟨rfl,y⟩:=y;have y1:=y ys ((a10 zA _).sqT (a30.sqT x h));obtain⟨w,e1,e2⟩:=r.get e;rw[y1] at e1;cases e1;exact⟨a30.refl _,λC c _=>e2.same c⟩
 stop:=λH x=>⟨ys,a30.sqT x h,by rw[r.length];exact Í _⟩
theorem y11(lo:Int)(n:Nat):ItB K (Itr lo n) ((ì n).map λ(k:Nat)=>D.int (lo + k)) B where
 go:=λi H x hi=>by show i < n;simpa using hi
 yld:=λi H v H' zA z d x st y e=>by
  obtain⟨rfl,rfl⟩:=y;rw[Û] at e;obtain⟨k,e1,rfl⟩:=Ì.mp e;obtain⟨h1,h2⟩:=ß.mp e1;rw[Ò2] at h2;subst h2;exact⟨a30.refl _,λ_ _ _=>Hd.int⟩
 stop:=λH x=>by show n<=_;simp
end
section
variable {K:Â}{zA:Option Ç}{H1:Hp}
theorem zip_get:∀ {a b:List D}{i:Nat}{d:D},(n30 a b)[i]?=some d->∃ x y,a[i]?=some x/\b[i]?=some y/\d=.tup [x,y]
 |[],_,_,_,e=>by simp[n30] at e|_::_,[],_,_,e=>by simp[n30] at e|x::r,y::q,0,d,e=>by simp[n30] at e;exact⟨x,y,rfl,rfl,e.symm⟩
 |x::r,y::q,i + 1,d,e=>by
  obtain⟨u,v,h1,h2,h3⟩:=zip_get (a:=r) (b:=q) (i:=i) (by simpa [n30] using e)
  exact⟨u,v,by simpa using h1,by simpa using h2,h3⟩
theorem a51:∀ (a b:List D),(n30 a b).length=min a.length b.length
 |[],_=>by simp[n30]|_::_,[]=>by simp[n30]|x::r,y::q=>by simp only[n30,Ü,a51 r q];omega
theorem y21(h:∀ H,a30 B H->SqB bb K H a us)(r:HdA K B xs us)(h':∀ H,a30 B H->SqB bb K H b ws)(r':HdA K B ys ws):ItB K (Itz bb K a b) (n30 xs ys) B where
 go:=λi H x hi=>by
  rw[a51] at hi;exact⟨us,ws,us[i]'(by rw[r.length];omega),ws[i]'(by rw[r'.length];omega),h H x,h' H x,by simp,by simp⟩
 yld:=λi H v H' zA z d x st y e=>by
  obtain⟨T,rfl,hT,y⟩:=y;obtain⟨d1,d2,e1,e2,rfl⟩:=zip_get e;obtain⟨w1,f1,g1⟩:=r.get e1;obtain⟨w2,f2,g2⟩:=r'.get e2;have y1:=y us ws w1 w2 (h H (a30.trans x (a10 zA H))) (h' H (a30.trans x (a10 zA H))) f1 f2;subst y1;have sm:a30 H (upd H T (.tup [w1,w2])):=a30.new _ hT;exact⟨sm,λC c t=>Hd.tup (t _ _ ((st.same sm).b92 (SqT.of b20))) (.cons (g1.same c) (.cons (g2.same c) .nil))⟩
 stop:=λH x=>⟨us,ws,h H x,h' H x,by rw[a51,r.length,r'.length];omega⟩
end
def PX(P:D->Prop):D->Prop
 |.tup l=>∀ y∈l,P y|.lst l=>∀ y∈l,P y|_=>True
def ItX(K:Â)(zA:Option Ç)(H H':Hp)(l:List S)(J:L2.It)(xs:List D):Prop :=
 ∀ (P:D->Prop) (B:Hp),a30 B (hz zA H')->(∀ a ys,SqT K (hz zA H') a ys->SqT K B a ys)->(∀ d v,P d->Hd K (hz zA H') d v->Hd K B d v)->(∀ ds,plA l=some ds->∀ d∈ds,PX P d) ->
  (∀ a ys,q40 K (hz zA H') a ys->((H a=none/\H' a=some (.lst ys))∨m61 l=true)->q40 K B a ys)->ItB K J xs B
theorem HdA.move{K:Â}{H B:Hp}{P:D->Prop}(mv:∀ d v,P d->Hd K H d v->Hd K B d v):∀ {ds:List D}{vs:List V},(∀ y∈ds,P y)->HdA K H ds vs->HdA K B ds vs
 |[],_,_,h=>by rw[h.f10];exact .nil
 |d::ds,_,p,h=>by
  obtain⟨x,r,rfl,h1,h2⟩:=h.c30;exact .cons (mv d x (p d Ë) h1) (HdA.move mv (λy hy=>p y (È _ hy)) h2)
theorem ItX.ok{K:Â}{zA:Option Ç}{H H':Hp}{l:List S}{J:L2.It}{xs:List D}(h:ItX K zA H H' l J xs):J02 K zA J xs H':=by
 refine(h (λ_=>True) (hz zA H') (a30.refl _) (λ_ _ q=>q) (λ_ _ _ q=>q) (λds _ d _=>?_) λ_ _ q _=>q).ok;cases d <;> first | trivial | exact λ_ _=>trivial
def tIt(K:Â)(G:Gs)(E:XK)(it:It)(src:Ex):TI:=λσ H R=>∃ zA ρ z r,y40 K zA H ρ σ/\d60 zA z H/\ev G.F src ρ z=some r/\(match r with
 |.ok l z'=>∃ xs,(plA l).bind (itD it)=some xs/\∀ J H',Ext zA H H'->d60 zA z' H'->ItX K zA H H' l J xs->R J H'
 |.er c z'=>EPost G zA E c z' H)
section
variable {lm:Bool}{X:Cx}{G:Gs}{E:XK}{N:List Str}{sc:ý}
theorem u12{zA:Option Ç}{H:Hp}{it:It}{P:L2.It->Hp->Prop}{r:R (List S)}(po:(match r with | .ok l z'=>∃ xs,(plA l).bind (itD it)=some xs/\∀ J H',Ext zA H H'->d60 zA z' H'->ItX X.K zA H H' l J xs->P J H' | .er c z'=>EPost G zA E c z' H)):∀ c z1,r=.er c z1->EPost G zA E c z1 H:=λc z1 e=>by subst e;exact po
theorem y31{s:S}{ds:List D}(h:plA [s]=some ds):∃ d,ds=[d]/\plD s=some d:=by
 cases s with
 |d x=>cases h;exact⟨x,rfl,rfl⟩
 |fr xs=>cases h;exact⟨_,rfl,rfl⟩
 |z=>cases h
theorem U31{tg e:Ï}{a:Ex}(g:b10 X G E a e):PI X tg e (tIt X.K G E .seq (.cons a .nil)):=by
 intro pins s σ H R I q;obtain⟨zA,ρ,z,rr,rel,st,ee,po⟩:=q;have e0:M.bind (ev G.F a ρ) (λx=>M.bind (M.of (one x)) λs=>M.bind (ev G.F .nil ρ) λy=>M.ret (s::y)) z=some rr:=ee;rcases M.bind_some e0 with ⟨m,z1,e1,e2⟩ | ⟨c,z1,e1,e2⟩
 ·obtain⟨t,ht,e3⟩:=M.a20 e2;cases e3;have hm:=D80 ht;subst hm;obtain⟨xs,hx,po⟩:=po;obtain⟨ds,h1,h2⟩:=Ñ.mp hx;obtain⟨d,rfl,h3⟩:=y31 h1;cases d with
  |tup l =>
   cases h2;refine R81 g.pe pins s σ H R I ⟨zA,ρ,z,_,rel,st,e1,t,rfl,λv H1 x1 st1 rv=>?_⟩;obtain⟨b,ys,rfl,k1,k2⟩:=(rv.pl.d_ h3).A00;exact⟨b,rfl,⟨ys,(a10 zA H1).sqT k1⟩,po _ H1 x1 st1 λP B sub tup mv pa sf=>y01 (tup _ _ k1) (HdA.move mv (show ∀ y∈xs,P y from pa _ h1 _ Ë) k2)⟩
  |lst l =>
   cases h2;refine X60 g.pe pins s σ H R I ⟨zA,ρ,z,_,rel,st,e1,t,rfl,λv H1 x1 st1 rv=>?_⟩;have fin:∀ {b:Ç}{ys:List V},q40 X.K (hz zA H1) b ys->HdA X.K (hz zA H1) xs ys->((H b=none/\H1 b=some (.lst ys))∨m61 [t]=true)->∃ a,V.ref b=.ref a/\(∃ xs,SqL X.K H1 a xs)/\R (Itl X.K a) H1:=λ{b ys} k1 k2 k5=>by
    exact⟨b,rfl,⟨ys,(k1.same (a10 zA H1)).sq⟩,po _ H1 x1 st1 λP B sub tup mv pa sf=>g11 (sf _ _ k1 k5) (HdA.move mv (show ∀ y∈xs,P y from pa _ h1 _ Ë) k2)⟩
   cases t with
   |z=>cases h3
   |d x =>
    cases h3;obtain⟨b,ys,rfl,k1,k2⟩:=Hd.X20 (show Hd X.K (hz zA H1) (.lst xs) v from rv);exact fin k1 k2 (.inr rfl)
   |fr x =>
    cases h3;obtain⟨b,ys,rfl,k0,k1,k2,k3⟩:=rv;exact fin (q40.of (d30 k2 k1)) (k3.same (e50 b _)) (.inl ⟨k0,k2⟩)
  |_=>cases h2
 ·exact X60 g.pe pins s σ H R I ⟨zA,ρ,z,_,rel,st,e1,(u12 po) c z1 e2⟩
theorem M20{l:List S}{it:It}{xs:List D}(h:(plA l).bind (itD it)=some xs):∃ ds,plA l=some ds/\itD it ds=some xs:=Ñ.mp h
theorem y41(x:XI lm X G E N sc){tg a:Ï}{as:Ex}{n:Str}{p pos:Pos}(hn:n="range")(hg:glob sc n=true)(hL:isL as=true)(g:Good X G E as [a]):PI X tg (.Call (.Name n p) [a] [] pos) (tIt X.K G E .rng1 as):=by
 subst hn;obtain⟨k1,k2,k3⟩:=d00 hg;obtain⟨ha,hs⟩:=g.args hL;rw[Ä5,Á] at hs;intro pins s σ H R I q;refine P30 (x.glb _ k1) (x.blt _ (-0)) ha (c70 hs.1 [] X.env) pins s σ H R I ?_
 obtain⟨zA,ρ,z,rr,rel,st,ee,po⟩:=q;refine⟨zA,ρ,z,rr,rel,st,ee,?_⟩;cases rr with
 |er c z1=>exact po
 |ok l z1 =>
  obtain⟨xs,hx,po⟩:=po;intro vs H1 x1 st1 rvs;obtain⟨ds,h1,h2⟩:=M20 hx;have hd:=G20 rvs h1
  match ds,h2 with
  |[.int j],h2 =>
   obtain⟨hj,h2⟩:=f50 h2;have hj:=L20.mp hj;cases h2;obtain⟨v,rfl,h3⟩:=hd.one;cases h3.j00;refine⟨j,rfl,by omega,by omega,po _ H1 x1 st1 λP B sub tup mv pa sf=>?_⟩
   have:=y11 (K:=X.K) (B:=B) 0 j.toNat;simpa using this
theorem y51(x:XI lm X G E N sc){tg a b:Ï}{as:Ex}{n:Str}{p pos:Pos}(hn:n="range")(hg:glob sc n=true)(hL:isL as=true)(g:Good X G E as [a,b]):PI X tg (.Call (.Name n p) [a,b] [] pos) (tIt X.K G E .rng2 as):=by
 subst hn;obtain⟨k1,k2,k3⟩:=d00 hg;obtain⟨ha,hs⟩:=g.args hL;rw[Ä5,Ä5,Á,Á] at hs;intro pins s σ H R I q;refine q51 (x.glb _ k1) (x.blt _ (-0)) ha (by rw[c70 hs.1,c70 hs.2.1];rfl) (c70 hs.2.1 [] X.env) pins s σ H R I ?_
 obtain⟨zA,ρ,z,rr,rel,st,ee,po⟩:=q;refine⟨zA,ρ,z,rr,rel,st,ee,?_⟩;cases rr with
 |er c z1=>exact po
 |ok l z1 =>
  obtain⟨xs,hx,po⟩:=po;intro vs H1 x1 st1 rvs;obtain⟨ds,h1,h2⟩:=M20 hx;have hd:=G20 rvs h1
  match ds,h2 with
  |[.int i,.int j],h2 =>
   obtain⟨hj,h2⟩:=f50 h2;have hi:=L20.mp hj.1;have hj:=L20.mp hj.2;cases h2;obtain⟨v,w,rfl,h3,h4⟩:=hd.two;cases h3.j00;cases h4.j00;exact⟨i,j,rfl,by omega,po _ H1 x1 st1 λP B sub tup mv pa sf=>y11 i (j - i).toNat⟩
theorem y61{s:S}{r:List S}{ds:List D}(h:plA (s::r)=some ds):∃ x q,ds=x::q/\plD s=some x/\plA r=some q:=by
 cases s with
 |d y =>
  obtain⟨q,e,rfl⟩:=Ì.mp h;exact⟨y,q,rfl,rfl,e⟩
 |fr y =>
  obtain⟨q,e,rfl⟩:=Ì.mp h;exact⟨_,q,rfl,rfl,e⟩
 |z=>cases h
theorem e52(h:plA l=some [x,y]):∃ s t,l=[s,t]/\plD s=some x/\plD t=some y:=by
 cases l with
 |nil=>cases h
 |cons s r =>
  obtain⟨_,_,e,h1,h2⟩:=y61 h;cases e;cases r with
  |nil=>cases h2
  |cons t r =>
   obtain⟨_,_,e,h3,h4⟩:=y61 h2;cases e;cases r with
   |nil=>exact⟨s,t,rfl,h1,h3⟩
   |cons u r =>
    obtain⟨_,_,e,_⟩:=y61 h4;cases e
theorem N41{s t:S}(h:m61 [s]=true):m61 [s,t]=true:=by
 match s,h with
 |.d (.lst _),_=>rfl
theorem N51{s t:S}(h:m61 [t]=true):m61 [s,t]=true:=by
 match s with
 |.d (.lst _)=>rfl|.d .non | .d (.bl _) | .d (.int _) | .d (.str _) | .d (.tup _) | .d .dct | .fr _ | .z=>exact h
theorem y71{K:Â}{zA:Option Ç}{H H1:Hp}{t:S}{v:V}{a:List D}(rv:RvS K zA H H1 t v)(h:plD t=some (.lst a)):∃ b ys,v=.ref b/\q40 K (hz zA H1) b ys/\HdA K (hz zA H1) a ys/\((H b=none/\H1 b=some (.lst ys))∨m61 [t]=true):=by
 cases t with
 |d x =>
  cases h;obtain⟨b,ys,rfl,k1,k2⟩:=Hd.X20 (show Hd K (hz zA H1) (.lst a) _ from rv);exact⟨b,ys,rfl,k1,k2,.inr rfl⟩
 |fr x =>
  cases h;obtain⟨b,ys,rfl,k0,k1,k2,k3⟩:=rv;exact⟨b,ys,rfl,q40.of (d30 k2 k1),k3.same (e50 b _),.inl ⟨k0,k2⟩⟩
 |z=>cases h
theorem y81(x:XI lm X G E N sc){tg a b:Ï}{as:Ex}{n:Str}{p pos:Pos}(ht:k90 tg=true)(hn:n="zip")(hg:glob sc n=true)(hL:isL as=true)(g:Good X G E as [a,b]):PI X tg (.Call (.Name n p) [a,b] [] pos) (tIt X.K G E .zip as):=by
 subst hn;obtain⟨k1,k2,k3⟩:=d00 hg;obtain⟨ha,hs⟩:=g.args hL;rw[Ä5,Ä5,Á,Á] at hs;cases tg with
 |Tuple es ek ep =>
  intro pins s σ H R I q;refine n72 (x.glb _ k1) (x.blt _ (-0)) ha (by rw[c70 hs.1,c70 hs.2.1];rfl) (c70 hs.2.1 [] X.env) pins s σ H R I ?_
  obtain⟨zA,ρ,z,rr,rel,st,ee,po⟩:=q;refine⟨zA,ρ,z,rr,rel,st,ee,?_⟩;cases rr with
  |er c z1=>exact po
  |ok l z1 =>
   obtain⟨xs,hx,po⟩:=po;intro vs H1 x1 st1 rvs;obtain⟨ds,h1,h2⟩:=M20 hx;have hd:=G20 rvs h1
   match ds,h2 with
   |[.tup a,.tup b],h2 =>
    cases h2;obtain⟨v,w,rfl,h3,h4⟩:=hd.two;obtain⟨p1,us,rfl,m1,m2⟩:=h3.A00;obtain⟨p2,ws,rfl,m3,m4⟩:=h4.A00;exact⟨false,p1,p2,rfl,⟨us,(a10 zA H1).sqT m1⟩,⟨ws,(a10 zA H1).sqT m3⟩,po _ H1 x1 st1 λP B sub tup mv pa sf=>y21 (λ_ x=>a30.sqT x (tup _ _ m1)) (HdA.move mv (show ∀ y∈a,P y from pa _ h1 _ Ë) m2) (λ_ x=>a30.sqT x (tup _ _ m3)) (HdA.move mv (show ∀ y∈b,P y from pa _ h1 _ (È _ Ë)) m4)⟩
   |[.lst a,.lst b],h2 =>
    cases h2;obtain⟨t1,t2,rfl,e1,e2⟩:=e52 h1;cases rvs with
    |cons rv1 rn =>
     cases rn with
     |cons rv2 rn =>
      cases rn;obtain⟨p1,us,rfl,m1,m2,m3⟩:=y71 rv1 e1;obtain⟨p2,ws,rfl,m4,m5,m6⟩:=y71 rv2 e2;refine⟨true,p1,p2,rfl,⟨us,(m1.same (a10 zA H1)).sq⟩,⟨ws,(m4.same (a10 zA H1)).sq⟩,po _ H1 x1 st1 λP B sub tup mv pa sf=>y21 (λ_ x=>((sf _ _ m1 (m3.imp id λq=>?_)).same x).sq) (HdA.move mv (show ∀ y∈a,P y from pa _ h1 _ Ë) m2) (λ_ x=>((sf _ _ m4 (m6.imp id λq=>?_)).same x).sq) (HdA.move mv (show ∀ y∈b,P y from pa _ h1 _ (È _ Ë)) m5)⟩
      ·exact N41 q
      ·exact N51 q
 |_=>cases ht
theorem g21:∀ {a:List D}{i n:Nat}{d:D},(w80 a n)[i]?=some d->∃ x,a[i]?=some x/\d=.tup [.int ((n + i:Nat):Int),x]
 |[],_,_,_,e=>by simp[w80] at e|x::r,0,n,d,e=>by simp[w80] at e;exact⟨x,rfl,e.symm⟩
 |x::r,i + 1,n,d,e=>by
  obtain⟨u,h1,h2⟩:=g21 (a:=r) (i:=i) (n:=n + 1) (by simpa [w80] using e)
  exact⟨u,by simpa using h1,by rw[h2,show n + 1 + i=n + (i + 1) by omega]⟩
theorem M30:∀ (a:List D) (n:Nat),(w80 a n).length=a.length
 |[],_=>rfl|x::r,n=>by simp only[w80,Ü,M30 r]
theorem g31(h:∀ H,a30 B H->SqB b X.K H a us)(r:HdA X.K B xs us):ItB X.K (Ite b X.K a) (w80 xs 0) B where
 go:=λi H x hi=>by
  rw[M30] at hi;exact⟨us,us[i]'(by rw[r.length];omega),h H x,by simp⟩
 yld:=λi H v H' zA z d x st y e=>by
  obtain⟨T,rfl,hT,y⟩:=y;obtain⟨d1,e1,rfl⟩:=g21 e;obtain⟨w1,f1,g1⟩:=r.get e1;have y1:=y us w1 (h H (a30.trans x (a10 zA H))) f1;subst y1;have sm:a30 H (upd H T (.tup [.int i,w1])):=a30.new _ hT;exact⟨sm,λC c t=>Hd.tup (t _ _ ((st.same sm).b92 (SqT.of b20))) (.cons (by rw[É4];exact Hd.int) (.cons (g1.same c) .nil))⟩
 stop:=λH x=>⟨us,h H x,by rw[M30,r.length]⟩
theorem e62(h:plA l=some [d]):∃ s,l=[s]:=by
 cases l with
 |nil=>cases h
 |cons s r =>
  cases r with
  |nil=>exact⟨s,rfl⟩|cons t q=>exfalso;cases s <;> cases t <;> first | (cases h;done) | (simp only[plA,Option.map_map,Ô9] at h;obtain⟨_,_,h⟩:=h;cases h)
theorem g41(x:XI lm X G E N sc){tg a:Ï}{as:Ex}{n:Str}{p pos:Pos}(ht:k90 tg=true)(hn:n="enumerate")(hg:glob sc n=true)(hL:isL as=true)(g:Good X G E as [a]):PI X tg (.Call (.Name n p) [a] [] pos) (tIt X.K G E .enum as):=by
 subst hn;obtain⟨k1,k2,k3⟩:=d00 hg;obtain⟨ha,hs⟩:=g.args hL;rw[Ä5,Á] at hs;cases tg with
 |Tuple es ek ep =>
  intro pins s σ H R I q;refine a32 (x.glb _ k1) (x.blt _ (-0)) ha (c70 hs.1 [] X.env) pins s σ H R I ?_
  obtain⟨zA,ρ,z,rr,rel,st,ee,po⟩:=q;refine⟨zA,ρ,z,rr,rel,st,ee,?_⟩;cases rr with
  |er c z1=>exact po
  |ok l z1 =>
   obtain⟨xs,hx,po⟩:=po;intro vs H1 x1 st1 rvs;obtain⟨ds,h1,h2⟩:=M20 hx;have hd:=G20 rvs h1
   match ds,h2 with
   |[.tup a],h2 =>
    cases h2;obtain⟨v,rfl,h3⟩:=hd.one;obtain⟨p1,us,rfl,m1,m2⟩:=h3.A00;exact⟨false,p1,rfl,⟨us,(a10 zA H1).sqT m1⟩,po _ H1 x1 st1 λP B sub tup mv pa sf=>g31 (λ_ x=>a30.sqT x (tup _ _ m1)) (HdA.move mv (show ∀ y∈a,P y from pa _ h1 _ Ë) m2)⟩
   |[.lst a],h2 =>
    cases h2;have fin:∀ (b:Ç) (ys:List V),q40 X.K (hz zA H1) b ys->HdA X.K (hz zA H1) a ys->((H b=none/\H1 b=some (.lst ys))∨m61 l=true)->∃ bb p,[V.ref b]=[.ref p]/\(∃ xs,SqB bb X.K H1 p xs)/\R (Ite bb X.K p) H1:=λb ys k1 k2 k5 =>
     ⟨true,b,rfl,⟨ys,(k1.same (a10 zA H1)).sq⟩,po _ H1 x1 st1 λP B sub tup mv pa sf=>g31 (λ_ x=>((sf _ _ k1 k5).same x).sq) (HdA.move mv (show ∀ y∈a,P y from pa _ h1 _ Ë) k2)⟩
    obtain⟨t,rfl⟩:=e62 h1;cases rvs with
    |cons rv rn =>
     cases rn;cases t with
     |d x =>
      cases h1;obtain⟨b,ys,rfl,k1,k2⟩:=Hd.X20 (show Hd X.K (hz zA H1) (.lst a) _ from rv);exact fin _ _ k1 k2 (.inr rfl)
     |fr x =>
      cases h1;obtain⟨b,ys,rfl,k0,k1,k2,k3⟩:=rv;exact fin _ _ (q40.of (d30 k2 k1)) (k3.same (e50 b _)) (.inl ⟨k0,k2⟩)
     |z=>cases h1
 |_=>cases ht
abbrev EF:XK:=λ_ _ _=>False
def ttC(K:Â)(G:Gs):Ex->TT
 |.nil=>H91|.cons c _=>tT K G EF c|_=>λ_ _ _=>False
theorem n21(h:turns f (x::r) z=some (.ok ys z2)):∃ o z1 l,f x z=some (.ok o z1)/\turns f r z1=some (.ok l z2)/\ys=(match o with | some y=>y::l | none=>l):=by
 rcases M.bind_some (show M.bind (f x) _ z=_ from h) with ⟨o,z1,e1,e2⟩ | ⟨c,z1,e1,e2⟩
 ·rcases M.bind_some e2 with ⟨l,z3,e3,e4⟩ | ⟨c,z3,e3,e4⟩
  ·cases e4;exact⟨o,z1,l,e1,e3,rfl⟩
  ·cases e4
 ·cases e2
theorem e72{zA:Option Ç}{J:L2.It}{xs ys:List D}{H1:Hp}{z1 z2:Z}{p:Pat}{cond el:Ex}{ρ0:Env}{σ0:L2.St}{Q:VK}(IT:J02 X.K zA J xs H1)(hm:xs.length<=most)(rel0:y40 X.K zA H1 ρ0 σ0)(len:ρ0.length=σ0.length)(st1:d60 zA z1 H1)
  (hc:cond=.nil∨∃ c,cond=.cons c .nil) (e:turns (o50 (ev G.F cond) (ev G.F el) p ρ0) xs z1=some (.ok ys z2))
  (fin:∀ H2 vs l,Ext zA H1 H2->d60 zA z2 H2->HdA X.K (hz zA H2) ys vs->H2 l=none->Q (.ref l) (upd H2 l (.lst vs))):r91 J σ0 H1 (gP X.K p) (ttC X.K G cond) (tI X.K G EF el) Q:=by
 refine⟨λi m vs H=>m=xs.length - i/\i<=xs.length/\vs.length<=i/\∃ yd z rest,Ext zA H1 H/\d60 zA z H/\HdA X.K (hz zA H) yd vs/\turns (o50 (ev G.F cond) (ev G.F el) p ρ0) (xs.drop i) z=some (.ok rest z2)/\ys=yd++rest,
  ⟨xs.length,rfl,Æ6 _,Æ6 _,[],z1,ys,Ext.refl,st1,.nil,by simpa using e,rfl⟩,?_⟩
 rintro i m vs H ⟨rfl,hi,hv,yd,z,rest,x,st,hd,et,ey⟩;by_cases hlt:i < xs.length
 ·refine .inr ⟨IT.go i H x hlt,Ç5 hv (Þ hlt (g20 hm)),
   λws H'=>ws.length<=i + 1/\∃ yd z rest,Ext zA H1 H'/\d60 zA z H'/\HdA X.K (hz zA H') yd ws/\turns (o50 (ev G.F cond) (ev G.F el) p ρ0) (xs.drop (i + 1)) z=some (.ok rest z2)/\ys=yd++rest,
   λws H' q=>⟨xs.length - (i + 1),by omega,rfl,hlt,q.1,q.2⟩,λv H' y=>?_⟩
  obtain⟨sm,hx⟩:=IT.yld i H v H' z xs[i] x st y (by simp[hlt])
  rw[ß2 hlt] at et;obtain⟨o,z3,l,f1,f2,f3⟩:=n21 et;obtain⟨ρ',b1,f4⟩:=M.a20 (show M.bind (M.of (e60 p xs[i] ρ0)) _ z=_ from f1);have x':Ext zA H1 H':=x.trans (Ext.of sm);have st':=st.same sm;refine x91 b1 (rel0.mono x') len hx λσ' rel' len'=>?_;have yes:∀ {za:Z}{Ha:Hp},Ext zA H' Ha->d60 zA za Ha->M.bind (ev G.F el ρ') (λy=>M.bind (M.of (pl y)) λy=>M.ret (some y)) za=some (.ok o z3)->tI X.K G EF el σ' Ha (λy H4=>(vs++[y]).length<=i + 1/\∃ yd z rest,Ext zA H1 H4/\d60 zA z H4/\HdA X.K (hz zA H4) yd (vs++[y])/\turns (o50 (ev G.F cond) (ev G.F el) p ρ0) (xs.drop (i + 1)) z=some (.ok rest z2)/\ys=yd++rest):=λ{za Ha} xa sta ea=>by
   refine j20 (rel'.mono xa) sta ea (λc z1 h=>by cases h) λm z4 e4=>?_
   obtain⟨d,p1,e5⟩:=M.a20 e4;obtain⟨s1,rfl,q1⟩:=f30 p1;cases e5;refine⟨s1,rfl,λw H4 x4 st4 rv=>⟨by rw[Â0];simp;omega,yd++[d],z3,l,(x'.trans xa).trans x4,st4,?_,f2,by rw[ey,f3,Ô6];rfl⟩⟩
   exact(hd.same (a30.trans (k20 sm) (a30.trans xa.same x4.same))).append (.cons (rv.pl.d_ q1) .nil)
  rcases hc with rfl | ⟨c,rfl⟩
  ·have f5:M.bind (ev G.F el ρ') (λy=>M.bind (M.of (pl y)) λy=>M.ret (some y)) z=some (.ok o z3):=f4;have ty:ttC X.K G .nil=H91:=rfl;rw[ty];refine K11 ?_;dsimp only;rw[if_pos rfl];exact yes Ext.refl st' f5
  ·rcases M.bind_some (show M.bind (ev G.F (.cons c .nil) ρ') _ z=_ from f4) with ⟨m,za,e1,e2⟩ | ⟨q,za,e1,e2⟩
   ·rcases M.bind_some (show M.bind (ev G.F c ρ') _ z=_ from e1) with ⟨m',zb,e3,e4⟩ | ⟨q,zb,e3,e4⟩
    ·obtain⟨s,hs,e5⟩:=M.a20 e4;cases e5;have hm':=D80 hs;subst hm';show tT X.K G EF c σ' H' _;have tb:∃ b,s=.d (.bl b):=by
      cases s with
      |d y=>cases y with
       |bl b=>exact⟨b,rfl⟩|_=>cases e2
      |fr _=>cases e2
      |z=>cases e2
     obtain⟨b,rfl⟩:=tb;refine⟨zA,ρ',z,_,rel',st',e3,b,rfl,λHa xa sta=>?_⟩;cases b with
     |true =>
      rw[if_pos rfl];exact yes xa sta e2
     |false =>
      rw[if_neg Ð];cases e2;exact⟨Ò hv (le_succ _),yd,z3,l,x'.trans xa,sta,hd.same (a30.trans (k20 sm) xa),f2,by rw[ey,f3]⟩
    ·cases e4
   ·cases e2
 ·have hi':i=xs.length:=by omega
  subst hi';rw[drop_length] at et;cases et;refine .inl ⟨IT.stop H x,λl hl=>fin H vs l x st (by rw[ey,append_nil];exact hd) hl⟩
end
section
variable {K:Â}{zA:Option Ç}{z:Z}{H H2:Hp}{P:Ç}{q:Str}
theorem N61(KB:K80 P H H2)(t:Tab H P q)(t2:Tab H2 P q):Ext zA H H2:=by
 refine⟨λb o h=>?_,λb ps h=>?_⟩
 ·obtain⟨h1,h2⟩:=r10 h;have nt:=r60 h;obtain⟨ps,hp,_⟩:=t;have hb:b≠P:=λz=>by
   subst z;rw[hp] at h1;cases h1;exact nt _ rfl
  exact d30 (KB.same b o hb h1) h2 nt
 ·by_cases hb:b=P
  ·subst hb;obtain⟨qs,e,_⟩:=t2;exact⟨qs,e⟩
  ·exact⟨ps,KB.same b _ hb h⟩
theorem e82(KB:K80 P H H2)(t:Tab H P q)(t2:Tab H2 P q)(uq:∀ p∈TB.tb,p.1=P->p.2=q)(st:d60 zA z H):d60 zA z H2:=by
 obtain⟨ps,hp,_⟩:=t;have ne:∀ {b:Ç}{o:HO},H b=some o->(∀ l,o≠.tbl l)->b≠P:=λ{b o} e1 e2 z=>by
  subst z;rw[hp] at e1;cases e1;exact e2 _ rfl
 refine⟨?_,λp hq=>?_⟩
 ·have h:=st.zat;cases zA with
  |none=>cases z with
   |none=>trivial|some _=>exact h.elim
  |some a=>cases z with
   |none=>exact h.elim
   |some pr =>
    have h':H a=some (.lst [.int pr.1,.bl pr.2]):=h;exact KB.same _ _ (ne h' λ_ z=>nomatch z) h'
 ·by_cases hb:p.1=P
  ·rw[uq p hq hb,hb];exact t2
  ·obtain⟨qs,e,tr,k⟩:=st.tab p hq;refine⟨qs,KB.same _ _ hb e,tr,λpos c hc=>?_⟩;obtain⟨c',e1,e2⟩:=k pos c hc;exact⟨c',e1,KB.same _ _ (ne e2 λ_ z=>nomatch z) e2⟩
theorem y91:∀ l:List Nat,(b60 N l).length<=l.length
 |[]=>Í _
 |j::q=>by
  have ih:=y91 (N:=N) q;unfold b60;split
  ·rw[Ü,Ü];omega
  ·rw[Ü];omega
theorem T20(rel:y40 K zA H ρ σ):∀ {capt:List Nat}{ss:List S},M01 ρ capt=some ss->(b60 N capt).length=capt.length ->
  ∃ vs,RvA K zA H ss vs/\vs.length=(b60 N capt).length/\∀ (i:Nat) (x:Str) (v:V),((b60 N capt).map (·.1))[i]?=some x->vs[i]?=some v->∃ j:Nat,N[j]?=some x/\σ[j]?=some (some v)
 |[],ss,h,_=>by
  cases h;exact⟨[],.nil,rfl,λi x v h=>by simp[b60] at h⟩
 |i::capt,ss,h,hl=>by
  have h:(match ρ[i]? with | some (some s)=>(M01 ρ capt).map (s::·) | _=>none)=some ss:=h
  have le:=y91 (N:=N) capt;obtain⟨s,r,e2,h3,rfl⟩:∃ s r,ρ[i]?=some (some s)/\M01 ρ capt=some r/\ss=s::r:=by
   split at h
   ·rename_i s e;obtain⟨r,h3,h4⟩:=Ì.mp h;exact⟨s,r,e,h3,h4.symm⟩
   ·cases h
  obtain⟨v,k1,k2⟩:=rel i s e2;cases hN:N[i]? with
  |none =>
   unfold b60 at hl;rw[hN] at hl;simp only[Ü] at hl;omega
  |some y =>
   unfold b60 at hl ⊢;rw[hN] at hl ⊢;simp only[Ü] at hl;obtain⟨vs,a1,a2,a3⟩:=T20 rel (N:=N) (capt:=capt) h3 ∅
   refine⟨v::vs,.cons k2 a1,by simp[a2],λj x u b1 b2=>?_⟩
   cases j with
   |zero =>
    simp only[Å7,Ë0,Ê2] at b1 b2;subst b1;subst b2;exact⟨i,hN,k1⟩
   |succ j=>exact a3 j x u (by simpa using b1) (by simpa using b2)
theorem g51:∀ {ss:List S}{vs:List V},RvA K zA H ss vs->y40 K zA H (ss.map some) (vs.map some)
 |[],_,h,i,s,e=>by simp at e
 |a::ss,_,h,i,s,e=>by
  cases h with
  |cons h1 h2 =>
   cases i with
   |zero =>
    simp only[Å7,Ë0,Ê2] at e;subst e;exact⟨_,rfl,h1⟩
   |succ i =>
    obtain⟨v,k1,k2⟩:=g51 h2 i s (by simpa using e)
    exact⟨v,by simpa using k1,k2⟩
end
section
variable {lm:Bool}{X:Cx}{G:Gs}{E:XK}{N:List Str}{sc:ý}
theorem u22(x:XI lm X G E N sc)(hlm:lm=true){capt:List Nat}{a:Ex}{body:Ï}{lsc:ý}{p lpos pos:Pos}(hg:glob sc "_law_refused"=true)(hc:(b60 N capt).length=capt.length)(hs:e02 lsc sc (b60 N capt)=true)(hL:isL a=false)
  (ih:∀ (k:Nat) {X:Cx}{E:XK},XI false X (lowG G k) E ((b60 N capt).map (·.1)) lsc->Good X (lowG G k) E a [body]):b10 X G E (.refd capt a) (.Call (.Name "_law_refused" p) [.Lambda ⟨[],[],none,[],[],none,[]⟩ body lsc lpos] [] pos):=by
 obtain⟨c,P,q,k,fR,fdR,L⟩:=x.lam hlm;obtain⟨k1,k2,k3⟩:=d00 hg;unfold e02 at hs;simp only[Á,À3,beq_iff_eq,Æ9,decide_eq_true_eq] at hs;obtain⟨⟨⟨⟨⟨⟨s1,s2⟩,s3⟩,s4⟩,s5⟩,s6⟩,s7⟩:=hs;refine b00 (λpins s σ H Q I qq=>?_) rfl;obtain⟨zA,ρ,z,rr,rel,st,e,po⟩:=qq;have e0:p92 (M01 ρ capt) (λρ'=>ev (n40 G.F) a ρ') z=some rr:=e;unfold p92 at e0;split at e0
 ·cases e0
 ·rename_i ss hss;split at e0
  ·rename_i cc z1 he;split at e0
   ·rename_i hc12;cases e0;obtain⟨vs,ra,hvl,hvs⟩:=T20 rel hss hc;have tab:=st.tab _ L.tb;have hfree:∀ y∈(b60 N capt).map (·.1),lsc.names.lookup y=some .free:=λy hy=>by
     obtain⟨pr,h1,rfl⟩:=Ö.mp hy;exact s6 pr h1
    refine Y80 (RR:=λH2 H'=>Ext zA H2 H'/\d60 zA z1 H') (cls:=.ref (G.cls cc)) (N:=(b60 N capt).map (·.1)) (k:=k) (P:=P) (qual:=q) L.fn (by rw[← L.lv];exact x.room) (x.glb _ k1) L.m L.kp L.bd L.code L.hd L.qual L.bm (λy hy hf=>?_) (λy hy=>by simpa using s4 y hy) hfree s1 s2 s3 rfl (λ_ _ _ _=>rfl) k2 rfl pins s σ H Q I ?_
    ·have:=s5 y hy;rw[hf] at this;unfold Env.kindOf;rw[L.sco];simpa using this
    ·refine⟨tab,vs,by rw[É];exact hvl,λi y v h1 h2=>by rw[x.hN];exact hvs i y v h1 h2,λH2 KB TB2=>?_⟩
     have x2:Ext zA H H2:=N61 KB tab TB2;have st2:d60 zA z H2:=e82 KB tab TB2 L.uq st;refine⟨λf c' cl A outer s3 H3 hr sm=>?_,λs2 f th=>?_⟩
     ·have XL:XI false (R30 X.prog X.w X.K X.mg X.base ((b60 N capt).map (·.1)) q lsc f (.ref c') cl A outer s3 H3 λc _ H'=>c=.ref (G.cls cc)/\Ext zA H2 H'/\d60 zA z1 H') (lowG G k) (λc _ H'=>c=.ref (G.cls cc)/\Ext zA H2 H'/\d60 zA z1 H') ((b60 N capt).map (·.1)) lsc :=
       { gok:=L.low,num:=x.num,blt:=x.blt,hN:=rfl,nd:=s7,vis:=λy hy=>.inr (.inr (hfree y hy)),glb:=λy h=>h,cel:=λy h=>h,calm:=rfl,room:=hr,pas:=a62,lam:=λh=>nomatch h }
      refine⟨_,(a90 hL (ih k XL)).pe,?_⟩;refine⟨zA,ss.map some,z,_,g51 (RvA.mono ra (x2.trans (Ext.of sm))),st2.same sm,he,λea H' xx stt hn=>?_⟩;exact⟨rfl,(Ext.of sm).trans xx,stt⟩
     ·refine⟨f,G.cls cc,cc,_,rfl,th,L.cls cc hc12,λl H1 H' hRR sm hl=>?_⟩;obtain⟨x1,st1⟩:=hRR;obtain⟨s',e',po⟩:=po;cases e';have xx:Ext zA H H':=(x2.trans x1).trans (Ext.of sm);have stt:=st1.same sm;exact po _ _ (xx.trans (Ext.of (a30.new _ hl))) (stt.same (a30.new _ hl)) ((n50 stt (HdA.cons Hd.int HdA.nil) hl).from xx)
   ·cases e0
  ·cases e0
end
theorem h70{env:È8}{k0:Ë5}(hk:k0≠.free):∀ {names:List (Str × Ë5)}{x:Str},names.lookup x=some k0 ->
  (names.map λ(n,k)=>if (k == ó&&env.scope.kind == .function&&env.kindOf n == some .cell) then(n,Æ2) else(n,k)).lookup x=some k0
 |[],_,h=>by simp at h
 |(n,k)::r,x,h=>by
  have ih:=@h70 env k0 hk r x;show Í2 x ((if (k == ó&&env.scope.kind == .function&&env.kindOf n == some .cell)=true then(n,Æ2) else(n,k))::_)=_;cases hx:x == n with
  |true =>
   simp only[À9,hx] at h;cases h;have:(k0 == ó)=false:=by simpa using hk
   rw[this,Õ6,Õ6,if_neg Ð];simp only[À9,hx]
  |false =>
   simp only[À9,hx] at h;by_cases hq:(k == ó&&env.scope.kind == .function&&env.kindOf n == some .cell)=true
   ·rw[if_pos hq];simp only[À9,hx];exact ih h
   ·rw[if_neg hq];simp only[À9,hx];exact ih h
section
variable {lm:Bool}{X:Cx}{G:Gs}{E:XK}{N:List Str}{sc csc:ý}{on:List Str}{cs:List (Str × Nat)}
structure u32(csc sc:Scope)(N on:List Str)(cs:List (Str × Nat)):Prop where
 kind:csc.kind=.function
 nocell:∀ y∈csc.names,y.2≠.cell
 locs:∀ y∈csc.names,y.2=.local->csc.names.lookup y.1=some .local
 frees:∀ y∈csc.names,y.2=.free->(sc.names.lookup y.1=some .cell∨sc.names.lookup y.1=some .free)
 captd:∀ p∈cs,N[p.2]?=some p.1/\csc.names.lookup p.1=some .free
 own:∀ x∈on,csc.names.lookup x=some .local
 nd:(on++cs.map (·.1)).Nodup
theorem J12(h:f51 csc sc N on cs=true):u32 csc sc N on cs:=by
 unfold f51 at h;simp only[Á] at h;obtain⟨⟨⟨⟨⟨⟨h1,h2⟩,h3⟩,h4⟩,h5⟩,h6⟩,h7⟩:=h;rw[Æ9] at h2 h3 h4 h5 h6;refine⟨by simpa using h1,λy hy=>by simpa using h2 y hy,λy hy hl=>?_,λy hy hf=>?_,λp hp=>by simpa using h5 p hp,λx hx=>by simpa using h6 x hx,of_decide_eq_true h7⟩
 ·have:=h3 y hy;rw[hl] at this;simpa using this
 ·have:=h4 y hy;rw[hf] at this;simpa using this
theorem e92(x:XI lm X G E N sc)(c:u32 csc sc N on cs):r30 X csc on cs:=⟨c.kind,c.nocell,c.locs,λy hy hf=>x.cel _ (c.frees y hy hf),λp hp=>by rw[x.hN];exact c.captd p hp⟩
theorem z01(x:XI lm X G E N sc)(c:u32 csc sc N on cs)(cl:List (Str × Ç))(C:Ç)(s:Æ)(H:Hp)(fp:List Ç):XI false (c20 X (d10 on cs) csc cl C s H fp) G EF (on++cs.map (·.1)) csc where
 gok:=x.gok
 num:=x.num
 blt:=x.blt
 hN:=rfl
 nd:=c.nd
 vis:=λy hy=>by
  rcases Ã6.mp hy with h | h
  ·exact .inl (h70 (-0) (c.own y h))
  ·obtain⟨p,hp,rfl⟩:=Ö.mp h;rcases p80 (env:=X.env) (c.captd p hp).2 with h | h
   ·exact .inr (.inl h)
   ·exact .inr (.inr h)
 glb:=λy hy=>h70 (-0) hy
 cel:=λy hy=>by
  rcases hy with h | h
  ·exact .inl (h70 (-0) h)
  ·exact p80 (env:=X.env) h
 calm:=x.calm
 room:=x.room
 pas:=p22
 lam:=λh=>nomatch h
theorem N71(x:XI lm X G E N sc)(c:u32 csc sc N on cs)(cl:List (Str × Ç))(C:Ç)(s:Æ)(H:Hp)(fp:List Ç):N31 (c20 X (d10 on cs) csc cl C s H fp) (on++cs.map (·.1)) (λy=>on.contains y) where
 hN:=rfl
 nd:=c.nd
 lc:=λy hy=>.inl (h70 (-0) (c.own y (by simpa using hy)))
 fn:=λy hy=>.inr (h70 (-0) (c.own y (by simpa using hy)))
 calm:=x.calm
theorem g61:∀ {capt:List Nat},(b60 N capt).length=capt.length->(b60 N capt).map (·.2)=capt
 |[],_=>rfl
 |i::r,h=>by
  have le:∀ l:List Nat,(b60 N l).length<=l.length:=by
   intro l
   induction l with
   |nil=>exact Í _
   |cons j q ih =>
    unfold b60;split
    ·rw[Ü,Ü];omega
    ·rw[Ü];omega
  unfold b60 at h ⊢;split at h
  ·rename_i y hy;rw[Ü,Ü] at h;rw[Å7,g61 ∅]
  ·have:=le r;rw[Ü] at h;omega
theorem N81(rel:y40 X.K zA H ρ σ)(h:cs.map (·.2)=capt):y40 X.K zA H (ë on.length none++capt.map λi=>(ρ[i]?).getD none) (r00 on cs σ) /\
  (ë on.length (none:Option S)++capt.map λi=>(ρ[i]?).getD none).length=(r00 on cs σ).length:=by
 subst h;constructor
 ·intro j s e;unfold r00;by_cases hj:j < on.length
  ·rw[Ð2 (by simpa using hj)] at e
   simp[Ò4,hj] at e
  ·rw[Å4 (by simpa using hj),à7,Û,Û] at e
   rw[Å4 (by simpa using hj),É,Û]
   cases hp:cs[j - on.length]? with
   |none=>rw[hp] at e;simp at e
   |some p =>
    rw[hp] at e;simp only[map_some,Ê2] at e;have e2:ρ[p.2]?=some (some s):=by
     cases hr:ρ[p.2]? with
     |none=>rw[hr] at e;cases e
     |some o=>rw[hr] at e;exact congrArg some e
    obtain⟨v,h1,h2⟩:=rel p.2 s e2;exact⟨v,by simp[h1],h2⟩
 ·unfold r00;simp
theorem z11(h:A10 e=true)(env:È8)(x:Ä):É2 e env x=pure x:=by
 cases e with
 |Set _ _ _=>cases h
 |_=>rfl
def H30(X:Cx)(G:Gs)(E:XK)(x:Ex)(elt tg Ä0:Ï)(ifs:List Ï)(csc:ý):Prop:=∃ (own:List Str) (capt:List (Str × Nat)) (wi:TI) (g:TG) (tt:TT) (te:TE),r30 X csc own capt/\PI X tg Ä0 wi /\
 (∀ cl C s H fp,PG (c20 X (d10 own capt) csc cl C s H fp) tg g)/\(∀ cl C s H fp,PTs (c20 X (d10 own capt) csc cl C s H fp) ifs tt)/\(∀ cl C s H fp,PE (c20 X (d10 own capt) csc cl C s H fp) elt te) /\
 (∀ x,É2 Ä0 X.env x=pure x)/\∀ σ H Q,tI X.K G E x σ H Q->Y51 own capt wi g tt te σ H Q
theorem J22(x:XI lm X G E N sc){p:Pat}{it:It}{src cond el:Ex}{capt:List Nat}{elt tg Ä0:Ï}{ifs:List Ï}(c:u32 csc sc N on cs)(hcap:cs.map (·.2)=capt)(hp:j30 (on++cs.map (·.1)) (λy=>on.contains y) p tg=true)
  (hi:PI X tg Ä0 (tIt X.K G E it src)) (hns:A10 Ä0=true) (hc:(cond=.nil/\ifs=[])∨∃ q f,cond=.cons q .nil/\ifs=[f]/\∀ cl C s H fp,PT (c20 X (d10 on cs) csc cl C s H fp) f (tT X.K G EF q))
  (he:∀ cl C s H fp,PE (c20 X (d10 on cs) csc cl C s H fp) elt (tI X.K G EF el)):H30 X G E (.comp on.length capt p it src cond el) elt tg Ä0 ifs csc:=by
 have ht:∀ cl C s H fp,PTs (c20 X (d10 on cs) csc cl C s H fp) ifs (ttC X.K G cond):=by
  rcases hc with ⟨rfl,rfl⟩ | ⟨q,f,rfl,rfl,h⟩
  ·exact λcl C s H fp=>Y31
  ·exact λcl C s H fp=>r81 (h cl C s H fp)
 refine⟨on,cs,tIt X.K G E it src,gP X.K p,ttC X.K G cond,tI X.K G EF el,e92 x c,hi,λcl C s H fp=>x81 (N71 x c cl C s H fp) hp,ht,he,z11 hns X.env,λσ H Q q=>?_⟩;obtain⟨zA,ρ,z,rr,rel,st,e,po⟩:=q;have e0:M.bind (ev G.F src ρ) (λl=>M.bind (M.of ((plA l).bind (itD it))) λxs=>if xs.length<=most then M.bind (M.calm (turns (o50 (ev G.F cond) (ev G.F el) p (ë on.length none++capt.map λi=>(ρ[i]?).getD none)) xs)) λys=>M.ret [.fr ys] else M.no) z=some rr:=e;rcases M.bind_some e0 with ⟨m,z1,e1,e2⟩ | ⟨k,z1,e1,e2⟩
 ·obtain⟨xs,hx,e3⟩:=M.a20 e2;refine⟨zA,ρ,z,_,rel,st,e1,xs,hx,λJ H1 x1 st1 IT'=>?_⟩;have IT:=IT'.ok;split at e3
  ·rename_i hm;rcases M.bind_some e3 with ⟨ys,z2,e4,e5⟩ | ⟨k,z2,e4,e5⟩
   ·cases e5;have e6:turns (o50 (ev G.F cond) (ev G.F el) p (ë on.length none++capt.map λi=>(ρ[i]?).getD none)) xs z1=some (.ok ys z2):=by
     unfold M.calm at e4;split at e4
     ·rename_i h;cases e4;exact h
     ·cases e4
    obtain⟨r1,r2⟩:=N81 (on:=on) (rel.mono x1) hcap;refine e72 IT hm r1 r2 st1 (by rcases hc with ⟨h,_⟩ | ⟨q,_,h,_⟩;exact .inl h;exact .inr ⟨q,h⟩) e6 λH2 vs l x2 st2 hd hl=>?_
    exact e10 po (x1.trans x2) st2 _ _ (a30.new _ hl) (n50 st2 hd hl)
   ·unfold M.calm at e4;split at e4 <;> cases e4
  ·cases e3
 ·exact⟨zA,ρ,z,_,rel,st,e1,(f20 po) k z1 e2⟩
theorem H30.good{x:Ex}{elt tg Ä0:Ï}{ifs:List Ï}{csc:ý}{pos:Pos}(hc:X.calm=true)(h:H30 X G E x elt tg Ä0 ifs csc):b10 X G E x (.ListComp elt [⟨tg,Ä0,ifs,0⟩] csc pos):=by
 obtain⟨own,capt,wi,g,tt,te,h1,h2,h3,h4,h5,h6,h7⟩:=h;exact b00 (PE.imp (s01 hc h1 h2 h3 h4 h5 h6) h7) rfl
theorem b70(h:(!isL x)=true):isL x=false:=by simpa using h
theorem z21(hL:isL x=true)(g:Good X G E x [e]):∃ a,x=.cons a .nil/\b10 X G E a e:=by
 cases x with
 |nil=>cases (show [e]=[] from g)
 |cons a r =>
  obtain⟨e',es,h,ns,ga,lr,gr⟩:=g;cases h;cases r with
  |nil=>exact⟨a,rfl,ga⟩|cons b q=>obtain⟨e,es,h,_⟩:=gr;cases h
  |_=>cases lr
 |_=>cases hL
theorem T30{lm:Bool}{G:Gs}{own:Nat}{capt:List Nat}{p:Pat}{it:It}{src cond el:Ex}(ihs:(∀ {X:Cx}{E:XK}{N:List Str}{sc:ý},XI lm X G E N sc->∀ {es:List Ï},mt lm G.fns G.nums src sc N es=true->Good X G E src es))(ihc:(∀ {X:Cx}{E:XK}{N:List Str}{sc:ý},XI false X G E N sc->∀ {es:List Ï},mt false G.fns G.nums cond sc N es=true->Good X G E cond es))(ihe:(∀ {X:Cx}{E:XK}{N:List Str}{sc:ý},XI false X G E N sc->∀ {es:List Ï},mt false G.fns G.nums el sc N es=true->Good X G E el es))
  {X:Cx}{E:XK}{N:List Str}{sc:ý} (x:XI lm X G E N sc) {elt tg Ä0:Ï}{ifs:List Ï}{csc:ý} (h:(c90 tg).length == own&&(b60 N capt).length == capt.length&&f51 csc sc N (c90 tg) (b60 N capt)&&j30 (c90 tg++(b60 N capt).map (·.1)) (λx=>(c90 tg).contains x) p tg&&isL src&&!isL el&&isL cond&&ifs.length<=1&&noStar elt&&A10 Ä0&&ifs.all (λc=>!ifB c) &&
    (match it with
    |.seq=>mt lm G.fns G.nums src sc N [Ä0]|.rng1=>opt (j92 Ä0) λr=>r.1.1 == ("range":Str)&&glob sc r.1.1&&mt lm G.fns G.nums src sc N [r.1.2.2.1]|.rng2=>opt (k02 Ä0) λr=>r.1.1 == ("range":Str)&&glob sc r.1.1&&mt lm G.fns G.nums src sc N [r.1.2.2.1,r.1.2.2.2.1]|.zip=>opt (k02 Ä0) λr=>r.1.1 == ("zip":Str)&&glob sc r.1.1&&k90 tg&&mt lm G.fns G.nums src sc N [r.1.2.2.1,r.1.2.2.2.1]
    |.enum=>opt (j92 Ä0) λr=>r.1.1 == ("enumerate":Str)&&glob sc r.1.1&&k90 tg&&mt lm G.fns G.nums src sc N [r.1.2.2.1])&&mt false G.fns G.nums cond csc (c90 tg++(b60 N capt).map (·.1)) ifs&&mt false G.fns G.nums el csc (c90 tg++(b60 N capt).map (·.1)) [elt]):H30 X G E (.comp own capt p it src cond el) elt tg Ä0 ifs csc:=by
 simp only[Á,beq_iff_eq,decide_eq_true_eq] at h;obtain⟨⟨⟨⟨⟨⟨⟨⟨⟨⟨⟨⟨⟨h1,h2⟩,h3⟩,h4⟩,h5⟩,h6⟩,h7⟩,h8⟩,h9⟩,h10⟩,h11⟩,h12⟩,h13⟩,h14⟩:=h;subst h1;have c:=J12 h3;have hi:PI X tg Ä0 (tIt X.K G E it src):=by
  cases it with
  |seq =>
   obtain⟨a,rfl,ga⟩:=z21 h5 (ihs x h12);exact U31 ga
  |rng1 =>
   obtain⟨⟨⟨n,_,a,_⟩,rfl⟩,-,h12⟩:=a70 h12;simp only[Á,beq_iff_eq] at h12;exact y41 x h12.1.1 h12.1.2 h5 (ihs x h12.2)
  |rng2 =>
   obtain⟨⟨⟨n,_,a,b,_⟩,rfl⟩,-,h12⟩:=a70 h12;simp only[Á,beq_iff_eq] at h12;exact y51 x h12.1.1 h12.1.2 h5 (ihs x h12.2)
  |zip =>
   obtain⟨⟨⟨n,_,a,b,_⟩,rfl⟩,-,h12⟩:=a70 h12;simp only[Á,beq_iff_eq] at h12;exact y81 x h12.1.2 h12.1.1.1 h12.1.1.2 h5 (ihs x h12.2)
  |enum =>
   obtain⟨⟨⟨n,_,a,_⟩,rfl⟩,-,h12⟩:=a70 h12;simp only[Á,beq_iff_eq] at h12;exact g41 x h12.1.2 h12.1.1.1 h12.1.1.2 h5 (ihs x h12.2)
 have hc:(cond=.nil/\ifs=[])∨∃ q f,cond=.cons q .nil/\ifs=[f]/\∀ cl C s H fp,PT (c20 X (d10 (c90 tg) (b60 N capt)) csc cl C s H fp) f (tT X.K G EF q):=by
  match ifs,h8,h11,h13 with
  |[],_,_,h13 =>
   cases cond with
   |nil=>exact .inl ⟨rfl,rfl⟩|cons a r=>cases h13
   |_=>cases h7
  |[f],_,h11,h13 =>
   cases cond with
   |nil=>cases h13
   |cons a r =>
    have h13':(noStar f&&!isL a&&isL r&&mt false G.fns G.nums a csc (c90 tg++(b60 N capt).map (·.1)) [f]&&mt false G.fns G.nums r csc (c90 tg++(b60 N capt).map (·.1)) [])=true:=h13;simp only[Á] at h13';have rn:r=.nil:=by
     cases r with
     |nil=>rfl|cons b q=>cases h13'.2
     |_=>cases h13'.1.1.2
    subst rn;simp only[Ä5,all_nil,Ö8] at h11;refine .inr ⟨a,f,rfl,rfl,λcl C s H fp=>?_⟩;obtain⟨e',es,he,ns,ga,lr,gr⟩:=ihc (z01 x c cl C s H fp) h13;cases he;exact ga.pt (e12 h11)
   |_=>cases h7
 refine J22 x c (g61 h2) h4 hi h10 hc λcl C s H fp=>?_;exact(a90 (b70 h6) (ihe (z01 x c cl C s H fp) h14)).pe
theorem u42:∀ (t:Ex) {lm:Bool}{G:Gs}{X:Cx}{E:XK}{N:List Str}{sc:ý},XI lm X G E N sc->∀ {es:List Ï},mt lm G.fns G.nums t sc N es=true->Good X G E t es:=by
 intro t
 induction t with
 |nil =>
  intro lm G X E N sc x es h;exact Ì8.mp h
 |cons a r iha ihr =>
  intro lm G X E N sc x es h;cases es with
  |nil=>cases h
  |cons e es =>
   have h:(noStar e&&!isL a&&isL r&&mt lm G.fns G.nums a sc N [e]&&mt lm G.fns G.nums r sc N es)=true:=h;simp only[Á] at h;obtain⟨⟨⟨⟨h1,h2⟩,h3⟩,h4⟩,h5⟩:=h;exact⟨e,es,rfl,h1,a90 (b70 h2) (iha x h4),h3,ihr x h5⟩
 |var i =>
  intro lm G X E N sc x es h;obtain⟨⟨q,rfl⟩,-,h⟩:=a70 h;simp only[Á,beq_iff_eq] at h;exact c00 rfl (H32 x h.1 h.2)
 |con d =>
  intro lm G X E N sc x es h;rcases (Å6 _ _).mp h with h | h
  ·obtain⟨⟨q,rfl⟩,-,h⟩:=a70 h;exact c00 rfl (H42 h)
  ·obtain⟨⟨p,rfl⟩,-,h⟩:=a70 h;cases d with
   |dct=>exact c00 rfl H52|_=>cases h
 |gint g i =>
  intro lm G X E N sc x es h;obtain⟨⟨⟨n,p⟩,rfl⟩,-,h⟩:=a70 h;simp only[Á,beq_iff_eq,Ì7] at h;obtain⟨⟨rfl,h2⟩,h3⟩:=h;exact c00 rfl (s32 x h2 h3)
 |tup as ih =>
  intro lm G X E N sc x es h;obtain⟨⟨q,rfl⟩,-,h⟩:=a70 h;simp only[Á] at h;exact c00 rfl (H62 h.1 (ih x h.2))
 |lst as ih =>
  intro lm G X E N sc x es h;obtain⟨⟨q,rfl⟩,-,h⟩:=a70 h;simp only[Á] at h;exact c00 rfl (H72 h.1 (ih x h.2))
 |bin o a b iha ihb =>
  intro lm G X E N sc x es h;obtain⟨⟨⟨l,op,r,p⟩,rfl⟩,-,h⟩:=a70 h;simp only[Á,beq_iff_eq] at h;obtain⟨⟨⟨⟨rfl,h2⟩,h3⟩,h4⟩,h5⟩:=h;exact c00 rfl (H82 (a90 (b70 h2) (iha x h4)) (a90 (b70 h3) (ihb x h5)))
 |cmp o a b iha ihb =>
  intro lm G X E N sc x es h;obtain⟨⟨⟨l,op,r,p⟩,rfl⟩,-,h⟩:=a70 h;simp only[Á,beq_iff_eq] at h;obtain⟨⟨⟨⟨⟨rfl,h1⟩,h2⟩,h3⟩,h4⟩,h5⟩:=h;exact c00 rfl (H92 x h1 (a90 (b70 h2) (iha x h4)) (a90 (b70 h3) (ihb x h5)))
 |neg a ih =>
  intro lm G X E N sc x es h;obtain⟨⟨q,rfl⟩,-,h⟩:=a70 h;simp only[Á] at h;exact c00 rfl (I02 (a90 (b70 h.1) (ih x h.2)))
 |not a ih =>
  intro lm G X E N sc x es h;obtain⟨⟨q,rfl⟩,-,h⟩:=a70 h;simp only[Á] at h;obtain⟨⟨h1,h2⟩,h3⟩:=h;exact c00 rfl (I12 (a90 (b70 h1) (ih x h3)) (e12 h2))
 |and a b iha ihb =>
  intro lm G X E N sc x es h;obtain⟨⟨⟨l,r,vs,p⟩,rfl⟩,-,h⟩:=a70 h;simp only[Á] at h;obtain⟨⟨⟨⟨h1,h2⟩,h3⟩,h4⟩,h5⟩:=h;refine c00 rfl (I22 (a90 (b70 h1) (iha x h4)) (e12 h3) ?_);cases vs with
  |nil =>
   rw[if_pos (show([]:List Ï).isEmpty=true from rfl),Á] at h5;exact s42 (a90 (b70 h2) (ihb x h5.2)) (e12 h5.1)
  |cons v vs =>
   rw[if_neg (by exact Ð)] at h5
   exact a90 (b70 h2) (ihb x h5)
 |or a b iha ihb =>
  intro lm G X E N sc x es h;obtain⟨⟨⟨l,r,vs,p⟩,rfl⟩,-,h⟩:=a70 h;simp only[Á] at h;obtain⟨⟨⟨⟨h1,h2⟩,h3⟩,h4⟩,h5⟩:=h;refine c00 rfl (U62 (a90 (b70 h1) (iha x h4)) (e12 h3) ?_);cases vs with
  |nil =>
   rw[if_pos (show([]:List Ï).isEmpty=true from rfl),Á] at h5;exact s42 (a90 (b70 h2) (ihb x h5.2)) (e12 h5.1)
  |cons v vs =>
   rw[if_neg (by exact Ð)] at h5
   exact a90 (b70 h2) (ihb x h5)
 |orT a b iha ihb =>
  intro lm G X E N sc x es h;obtain⟨⟨⟨l,r,vs,p⟩,rfl⟩,-,h⟩:=a70 h;simp only[Á] at h;obtain⟨⟨⟨⟨h1,h2⟩,h3⟩,h4⟩,h5⟩:=h;cases vs with
  |nil=>exact c00 rfl (I32 (a90 (b70 h1) (iha x h4)) (a90 (b70 h2) (ihb x h5)))|cons v vs=>cases h3
 |ite c a b ihc iha ihb =>
  intro lm G X E N sc x es h;obtain⟨⟨q,rfl⟩,-,h⟩:=a70 h;simp only[Á] at h;obtain⟨⟨⟨⟨⟨⟨h1,h2⟩,h3⟩,h4⟩,h5⟩,h6⟩,h7⟩:=h;exact c00 rfl (I42 (a90 (b70 h1) (ihc x h5)) (e12 h4) (a90 (b70 h2) (iha x h6)) (a90 (b70 h3) (ihb x h7)))
 |ch o o' a b c iha ihb ihc =>
  intro lm G X E N sc x es h;obtain⟨⟨⟨l,op,op',r,s,p⟩,rfl⟩,-,h⟩:=a70 h;simp only[Á,beq_iff_eq] at h;obtain⟨⟨⟨⟨⟨⟨⟨⟨rfl,rfl⟩,h1⟩,h2⟩,h3⟩,h4⟩,h5⟩,h6⟩,h7⟩:=h;exact c00 rfl (U72 x h1 (a90 (b70 h2) (iha x h5)) (a90 (b70 h3) (ihb x h6)) (a90 (b70 h4) (ihc x h7)))
 |bf f as ih =>
  intro lm G X E N sc x es h;rcases (Å6 _ _).mp h with h | h
  rotate_left
  ·rw[Á] at h;obtain⟨hf,h⟩:=h;obtain⟨⟨⟨n,p1,m,p2,e,p3,p4⟩,rfl⟩,-,h⟩:=a70 h;simp only[Á,beq_iff_eq] at h;obtain⟨⟨⟨⟨⟨h1,h2⟩,h3⟩,h4⟩,h5⟩,h6⟩:=h;have h1:n="sorted":=h1;have h2:m="set":=h2;subst h1;subst h2;cases f with
   |sset=>exact c00 rfl (t82 x h3 h4 h5 (ih x h6))|_=>cases hf
  obtain⟨⟨q,rfl⟩,-,h⟩:=a70 h;simp only[Á,beq_iff_eq] at h;obtain⟨⟨⟨⟨h1,h2⟩,h3⟩,h4⟩,h5⟩:=h;exact c00 rfl (U82 x h1 h2 h3 h4 (ih x h5))
 |isi t a ih =>
  intro lm G X E N sc x es h;obtain⟨⟨⟨n,q,e,ty,p⟩,rfl⟩,-,h⟩:=a70 h;simp only[Á,beq_iff_eq] at h;obtain⟨⟨⟨⟨⟨h1,h2⟩,h3⟩,h4⟩,h5⟩,h6⟩:=h;have g:=a90 (b70 h4) (ih x h5);refine c00 rfl ?_;have one:∀ t:Ty,t≠.seq->(opt (shN ty) λq=>q.1.1 == Á0 (tyN t)&&glob sc (Á0 (tyN t)))=true->b10 X G E (.isi t a) (.Call (.Name n q) [e,ty] [] p):=λt hs h6=>by
   obtain⟨⟨⟨a,_⟩,rfl⟩,-,h6⟩:=a70 h6;simp only[Á,beq_iff_eq] at h6;obtain⟨rfl,k1⟩:=h6;exact t22 x hs k1 h1 h2 h3 g
  cases t with
  |seq =>
   obtain⟨⟨⟨a,_,b,_,_,_⟩,rfl⟩,-,h6⟩:=a70 h6;simp only[Á,beq_iff_eq] at h6;obtain⟨⟨⟨rfl,rfl⟩,k1⟩,k2⟩:=h6;exact t32 x k1 k2 h1 h2 h3 g
  |_=>exact one _ (λh=>by cases h) h6
 |idx a i iha ihi =>
  intro lm G X E N sc x es h;obtain⟨⟨q,rfl⟩,-,h⟩:=a70 h;simp only[Á] at h;obtain⟨⟨⟨⟨h1,h2⟩,h3⟩,h4⟩,h5⟩:=h;exact c00 rfl (I62 h1 (a90 (b70 h2) (iha x h4)) (a90 (b70 h3) (ihi x h5)))
 |sl a lo hi iha ihl ihh =>
  intro lm G X E N sc x es h;obtain⟨⟨q,rfl⟩,-,h⟩:=a70 h;simp only[Á] at h;obtain⟨⟨⟨⟨⟨h1,h2⟩,h3⟩,h4⟩,h5⟩,h6⟩:=h;exact c00 rfl (U92 (a90 (b70 h1) (iha x h4)) h2 h3 (ihl x h5) (ihh x h6))
 |rev a ih =>
  intro lm G X E N sc x es h;obtain⟨⟨q,rfl⟩,-,h⟩:=a70 h;simp only[Á] at h;exact c00 rfl (I92 (a90 (b70 h.1) (ih x h.2)))
 |call f as ih =>
  intro lm G X E N sc x es h;obtain⟨⟨⟨n,q,e,l,p⟩,rfl⟩,-,h⟩:=a70 h;simp only[Á] at h;obtain⟨⟨⟨h1,h2⟩,h3⟩,h4⟩:=h;obtain⟨pr,hf,h1'⟩:=a70 h1;simp only[Á,beq_iff_eq] at h1';obtain⟨rfl,h7⟩:=h1';exact c00 rfl (s_call x hf h7 h2 h3 (ih x h4))
 |comp own capt p it src cond el ihs ihc ihe =>
  intro lm G X E N sc x es h;obtain⟨⟨q,rfl⟩,-,h⟩:=a70 h;exact c00 rfl ((T30 ihs ihc ihe x h).good x.calm)
 |lrng b as ih =>
  intro lm G X E N sc x es h;obtain⟨⟨⟨n,p,m,q,a,r,t⟩,rfl⟩,-,h⟩:=a70 h;simp only[Á,beq_iff_eq] at h;obtain⟨⟨⟨⟨⟨⟨h1,h2⟩,h3⟩,h4⟩,h5⟩,h7⟩,h6⟩:=h;subst h1;subst h2;cases a with
  |nil=>simp at h7|cons a l=>exact c00 rfl (t62 x h3 h4 h5 (ih x h6))
 |zget i k =>
  intro lm G X E N sc x es h;obtain⟨⟨⟨n,p,j,c,q,r⟩,rfl⟩,-,h⟩:=a70 h;simp only[Á,beq_iff_eq] at h;obtain⟨⟨h1,h2⟩,h3⟩:=h;have h3:j=(k:Int):=h3;subst h3;exact c00 rfl (t42 x h1 h2)
 |refd capt a ih =>
  intro lm G X E N sc x es h;obtain⟨⟨⟨n,p,body,lsc,lpos,pos⟩,rfl⟩,-,h⟩:=a70 h;simp only[Á,beq_iff_eq] at h;obtain⟨⟨⟨⟨⟨⟨h1,h2⟩,h3⟩,h4⟩,h5⟩,h6⟩,h7⟩:=h;have h2:n="_law_refused":=h2;subst h2;exact c00 rfl (u22 x h1 h3 h4 h5 (b70 h6) λk X E xl=>ih xl h7)
theorem sound(G:Gs)(t:Ex)(x:XI lm X G E N sc)(h:mt lm G.fns G.nums t sc N es=true):Good X G E t es:=u42 t x h
end
open Classical in
def hw(ow:Nat->Option Ç)(H:Hp):Hp:=λb=>if ∃ i,ow i=some b then none else H b
section
variable {K:Â}{ow:Nat->Option Ç}{H H':Hp}
theorem k30:a30 (hw ow H) H:=λb o e=>by
 unfold hw at e;split at e
 ·cases e
 ·exact e
theorem i40(h:H b=some o)(n:∀ i,ow i≠some b):hw ow H b=some o:=by
 unfold hw;rw[if_neg (λ⟨i,e⟩=>n i e)];exact h
theorem E10(h:hw ow H b=some o):H b=some o/\∀ i,ow i≠some b:=by
 refine⟨k30 b o h,λi e=>?_⟩;unfold hw at h;rw[if_pos ⟨i,e⟩] at h;cases h
theorem d40(e:a30 H H'):a30 (hw ow H) (hw ow H'):=λb o h=>by
 obtain⟨h1,h2⟩:=E10 h;exact i40 (e b o h1) h2
theorem x10:hw (λ_=>none) H=H:=by
 funext b
 unfold hw;rw[if_neg (λ⟨i,e⟩=>by cases e)]
theorem z31(h:SqT K H a xs)(hl:∀ i b,ow i=some b->∃ ys,H b=some (.lst ys)):SqT K (hw ow H) a xs:=by
 rcases h with (h | ⟨o,h⟩) | h
 ·refine .inl (.inl (i40 h λi e=>?_));obtain⟨ys,q⟩:=hl i a e;rw[h] at q;cases q
 ·refine .inl (.inr ⟨o,i40 h λi e=>?_⟩);obtain⟨ys,q⟩:=hl i a e;rw[h] at q;cases q
 ·exact .inr h
mutual
theorem M40(hl:∀ i b,ow i=some b->∃ ys,H b=some (.lst ys)):∀ {d:D}{v:V},bare d=true->Hd K H d v->Hd K (hw ow H) d v
 |.non,_,_,h=>by rw[h.F12];exact Hd.non|.bl _,_,_,h=>by rw[h.bl_];exact Hd.bl|.int _,_,_,h=>by rw[h.j00];exact Hd.int|.str _,_,_,h=>by rw[h.F22];exact Hd.str
 |.tup l,_,b,h=>by
  obtain⟨a,xs,rfl,h1,h2⟩:=h.A00;exact Hd.tup (z31 h1 hl) (A70 hl (by simpa [bare] using b) h2)
 |.lst _,_,b,_=>by cases b
 |.dct,_,b,_=>by cases b
theorem A70(hl:∀ i b,ow i=some b->∃ ys,H b=some (.lst ys)):∀ {ds:List D}{vs:List V},n80 ds=true->HdA K H ds vs->HdA K (hw ow H) ds vs
 |[],_,_,h=>by rw[h.f10];exact .nil
 |d::ds,_,b,h=>by
  obtain⟨x,r,rfl,h1,h2⟩:=h.c30;simp only[n80,Á] at b;exact .cons (M40 hl b.1 h1) (A70 hl b.2 h2)
end
end
def RvW(K:Â)(zA:Option Ç)(ow:Nat->Option Ç)(H:Hp)(i:Nat):S->V->Prop
 |.d x,v=>ow i=none/\Hd K (hw ow (hz zA H)) x v|.fr xs,v=>∃ a ys,ow i=some a/\v=.ref a/\H a=some (.lst ys)/\HdA K (hw ow (hz zA H)) xs ys|.z,v=>ow i=none/\∃ a,zA=some a/\v=.ref a
structure RW(K:PySem.W.Frag)(H0:Hp)(zE zA:Option Addr)(ow:Nat->Option Addr)(H:Hp)(ρ:Env)(σ:L2.St):Prop where
 len:ρ.length=σ.length
 inj:∀ i j a,ow i=some a->ow j=some a->i=j
 zne:∀ i a,ow i=some a->zA≠some a
 own:∀ i a,ow i=some a->∃ xs,ρ[i]?=some (some (.fr xs))
 wor:∀ i s,ρ[i]?=some (some s)->∃ v,σ[i]?=some (some v)/\RvW K zA ow H i s v
 ext:Ext zE H0 H
 zok:zA=zE∨(zE=none/\∀ a,zA=some a->H0 a=none)
 new:∀ i a,ow i=some a->H0 a=none
section
variable {K:Â}{H0 H H':Hp}{zE zA:Option Ç}{ow:Nat->Option Ç}{ρ:Env}{σ:L2.St}
theorem RW.lst(r:RW K H0 zE zA ow H ρ σ):∀ i a,ow i=some a->∃ ys,H a=some (.lst ys):=λi a e=>by
 obtain⟨xs,h⟩:=r.own i a e;obtain⟨v,h1,a',ys,h2,h3,h4,h5⟩:=r.wor i _ h;rw[e] at h2;cases h2;exact⟨ys,h4⟩
theorem RW.f02(r:RW K H0 zE zA ow H ρ σ):∀ i a,ow i=some a->∃ ys,hz zA H a=some (.lst ys):=λi a e=>by
 obtain⟨ys,h⟩:=r.lst i a e;exact⟨ys,d30 h (r.zne i a e)⟩
theorem RvW.pl{i:Nat}{s:S}{v:V}(h:RvW K zA ow H i s v)(hz':∀ a,ow i=some a->zA≠some a):RvP K zA H s v:=by
 cases s with
 |d x=>exact h.2.same k30|z=>exact h.2
 |fr xs =>
  obtain⟨a,ys,h1,rfl,h3,h4⟩:=h;exact Hd.lst (d30 h3 (hz' a h1)) (h4.same k30)
theorem RW.X30(r:RW K H0 zE zA ow H ρ σ):y40 K zA H ρ σ:=λi s e=>by
 obtain⟨v,h1,h2⟩:=r.wor i s e;exact⟨v,h1,h2.pl λa q=>r.zne i a q⟩
theorem RvW.mono{i:Nat}{s:S}{v:V}(h:RvW K zA ow H i s v)(hz':∀ a,ow i=some a->zA≠some a)(x:Ext zA H H'):RvW K zA ow H' i s v:=by
 cases s with
 |d y=>exact⟨h.1,h.2.same (d40 x)⟩|z=>exact h
 |fr xs =>
  obtain⟨a,ys,h1,rfl,h3,h4⟩:=h;exact⟨a,ys,h1,rfl,x.at h3 (hz' a h1),h4.same (d40 x)⟩
theorem U41(zA:Option Ç)(H:Hp):a30 (hz zA H) (hz none H):=λ_ _ h=>d30 (r10 h).1 (λq=>nomatch q) (r60 h)
theorem z41(e:Ext zE H0 H)(zok:zA=zE∨(zE=none/\∀ a,zA=some a->H0 a=none))(x:Ext zA H H'):Ext zE H0 H':=by
 rcases zok with rfl | ⟨rfl,hn⟩
 ·exact e.trans x
 ·refine⟨λb o h=>?_,λb ps h=>let ⟨qs,q⟩:=e.tbl b ps h;x.tbl b qs q⟩;have h1:=e.same b o h;refine d30 (x.at (r10 h1).1 (λq=>?_) (r60 h1)) (λq=>nomatch q) (r60 h1);have h0:=(r10 h).1;rw[hn b q] at h0;cases h0
theorem RW.mono(r:RW K H0 zE zA ow H ρ σ)(x:Ext zA H H'):RW K H0 zE zA ow H' ρ σ :=
 ⟨r.len,r.inj,r.zne,r.own,λi s e=>let ⟨v,h1,h2⟩:=r.wor i s e;⟨v,h1,h2.mono (λa q=>r.zne i a q) x⟩,z41 r.ext r.zok x,r.zok,r.new⟩
theorem RW.young(r:RW K H0 zE zA ow H ρ σ)(h:H a=none)(n:zA≠some a):H0 a=none/\zE≠some a:=by
 have hE:zE≠some a:=λq=>by
  rcases r.zok with rfl | ⟨rfl,_⟩
  ·exact n q
  ·cases q
 exact⟨r.ext.free h hE,hE⟩
theorem RW.out(r:RW K H0 zE zA ow H ρ σ){s:S}{v:V}(hs:s≠.z)(x:Ext zA H H')(h:RvS K zA H H' s v):RvS K zE H0 H' s v:=by
 have sm:a30 (hz zA H') (hz zE H'):=by
  rcases r.zok with rfl | ⟨rfl,_⟩
  ·exact a30.refl _
  ·exact U41 _ _
 cases s with
 |d y=>exact Hd.same sm h|z=>exact absurd rfl hs
 |fr xs =>
  obtain⟨a,ys,rfl,h1,h2,h3,h4⟩:=h;obtain⟨k1,k2⟩:=r.young h1 h2;exact⟨a,ys,rfl,k1,k2,h3,h4.same (C40 λb o _ q=>sm b o q)⟩
theorem RW.V02(r:RW K H0 zE zA ow H ρ σ){i:Nat}{s:S}(hs:s≠.z)(e:ρ[i]?=some (some s)):∃ v,σ[i]?=some (some v)/\RvS K zE H0 H s v:=by
 obtain⟨v,h1,h2⟩:=r.wor i s e;have sm:a30 (hz zA H) (hz zE H):=by
  rcases r.zok with rfl | ⟨rfl,_⟩
  ·exact a30.refl _
  ·exact U41 _ _
 refine⟨v,h1,?_⟩;cases s with
 |d y=>exact Hd.same (a30.trans k30 sm) h2.2|z=>exact absurd rfl hs
 |fr xs =>
  obtain⟨a,ys,k1,rfl,k3,k4⟩:=h2;have n:=r.zne i a k1;have hE:zE≠some a:=λq=>by
   rcases r.zok with rfl | ⟨rfl,_⟩
   ·exact n q
   ·cases q
  refine⟨a,ys,rfl,r.new i a k1,hE,k3,k4.same λb o q=>?_⟩;obtain⟨q1,q2⟩:=E10 q;exact K30 (sm b o q1) λz=>q2 i (by rw[z];exact k1)
theorem RW.Z30(r:RW K H0 zE zA ow H ρ σ):RW K H0 zE zA (λ_=>none) H (Z30 ρ) σ:=by
 refine⟨by unfold Q.Z30;rw[É];exact r.len,λi j a h=>(by cases h),λi a h=>(by cases h),λi a h=>(by cases h),λi s e=>?_,r.ext,r.zok,λi a h=>(by cases h)⟩
 unfold Q.Z30 at e;rw[Û] at e;obtain⟨o,e1,e2⟩:=Ì.mp e;cases o with
 |none=>cases e2
 |some s0 =>
  cases e2;obtain⟨v,h1,h2⟩:=r.X30 i s0 e1;refine⟨v,h1,?_⟩;cases s0 with
  |d y=>exact⟨rfl,by rw[x10];exact h2⟩|fr xs=>exact⟨rfl,by rw[x10];exact h2⟩|z=>exact⟨rfl,h2⟩
def ow0(ow:Nat->Option Ç)(i:Nat):Nat->Option Addr:=λj=>if j=i then none else ow j
def ow1(ow:Nat->Option Ç)(i:Nat)(a:Ç):Nat->Option Addr:=λj=>if j=i then some a else ow j
theorem RvW.move{ow':Nat->Option Ç}{j:Nat}{s:S}{v:V}(h:RvW K zA ow H j s v)(e:ow' j=ow j)(sm:a30 (hw ow (hz zA H)) (hw ow' (hz zA H')))(hk:∀ a,ow j=some a->H' a=H a):RvW K zA ow' H' j s v:=by
 cases s with
 |d y=>exact⟨by rw[e];exact h.1,h.2.same sm⟩|z=>exact⟨by rw[e];exact h.1,h.2⟩
 |fr xs =>
  obtain⟨a,ys,h1,rfl,h3,h4⟩:=h;exact⟨a,ys,by rw[e];exact h1,rfl,by rw[hk a h1];exact h3,h4.same sm⟩
theorem getElem?_set'{α:Type}{l:List α}{i j:Nat}{x y:α}(h:(l.set i x)[j]?=some y):(j=i/\y=x/\i < l.length)∨(j≠i/\l[j]?=some y):=by
 by_cases hj:j=i
 ·subst hj;have hlt:j < l.length:=by
   have:=(ß.mp h).1;simpa using this
  rw[ñ hlt] at h;cases h;exact .inl ⟨rfl,rfl,hlt⟩
 ·rw[ê (Â3 hj)] at h;exact .inr ⟨hj,h⟩
theorem RW.V12(r:RW K H0 zE zA ow H ρ σ){i:Nat}(h:Hd K (hw ow (hz zA H)) x v):RW K H0 zE zA (ow0 ow i) H (ρ.set i (some (.d x))) (σ.set i (some v)):=by
 have sub:∀ j a,ow0 ow i j=some a->j≠i/\ow j=some a:=λj a e=>by
  unfold ow0 at e;split at e
  ·cases e
  ·rename_i n;exact⟨n,e⟩
 have sm:a30 (hw ow (hz zA H)) (hw (ow0 ow i) (hz zA H)):=λb o e=>by
  obtain⟨e1,e2⟩:=E10 e;exact i40 e1 λj q=>e2 j (sub j b q).2
 refine⟨by rw[Ä1,Ä1];exact r.len,λj k a h1 h2=>r.inj j k a (sub j a h1).2 (sub k a h2).2,λj a h1=>r.zne j a (sub j a h1).2,λj a h1=>?_,λj s e=>?_,r.ext,r.zok,λj a h1=>r.new j a (sub j a h1).2⟩
 ·obtain⟨n,h2⟩:=sub j a h1;obtain⟨xs,h3⟩:=r.own j a h2;exact⟨xs,by rw[ê (Â3 n)];exact h3⟩
 ·rcases getElem?_set' e with ⟨rfl,e1,hlt⟩ | ⟨n,e1⟩
  ·cases e1;exact⟨v,ñ (by rw[← r.len];exact hlt),by unfold ow0;exact if_pos rfl,h.same sm⟩
  ·obtain⟨w,h1,h2⟩:=r.wor j s e1;exact⟨w,by rw[ê (Â3 n)];exact h1,h2.move (by unfold ow0;exact if_neg n) sm λ_ _=>rfl⟩
theorem RW.V22(r:RW K H0 zE zA ow H ρ σ){i:Nat}(h:∃ a,zA=some a/\v=.ref a):RW K H0 zE zA (ow0 ow i) H (ρ.set i (some .z)) (σ.set i (some v)):=by
 have sub:∀ j a,ow0 ow i j=some a->j≠i/\ow j=some a:=λj a e=>by
  unfold ow0 at e;split at e
  ·cases e
  ·rename_i n;exact⟨n,e⟩
 have sm:a30 (hw ow (hz zA H)) (hw (ow0 ow i) (hz zA H)):=λb o e=>by
  obtain⟨e1,e2⟩:=E10 e;exact i40 e1 λj q=>e2 j (sub j b q).2
 refine⟨by rw[Ä1,Ä1];exact r.len,λj k a h1 h2=>r.inj j k a (sub j a h1).2 (sub k a h2).2,λj a h1=>r.zne j a (sub j a h1).2,λj a h1=>?_,λj s e=>?_,r.ext,r.zok,λj a h1=>r.new j a (sub j a h1).2⟩
 ·obtain⟨n,h2⟩:=sub j a h1;obtain⟨xs,h3⟩:=r.own j a h2;exact⟨xs,by rw[ê (Â3 n)];exact h3⟩
 ·rcases getElem?_set' e with ⟨rfl,e1,hlt⟩ | ⟨n,e1⟩
  ·cases e1;exact⟨v,ñ (by rw[← r.len];exact hlt),by unfold ow0;exact if_pos rfl,h⟩
  ·obtain⟨w,h1,h2⟩:=r.wor j s e1;exact⟨w,by rw[ê (Â3 n)];exact h1,h2.move (by unfold ow0;exact if_neg n) sm λ_ _=>rfl⟩
theorem RW.V32(r:RW K H0 zE zA ow H ρ σ){i:Nat}(x:Ext zA H H')(hn:H a=none)(za:zA≠some a)(hl:H' a=some (.lst ys))(h:HdA K (hw (ow1 ow i a) (hz zA H')) xs ys)(hi:i < ρ.length) :
  RW K H0 zE zA (ow1 ow i a) H' (ρ.set i (some (.fr xs))) (σ.set i (some (.ref a))):=by
 have r':=r.mono x;have old:∀ j b,ow j=some b->b≠a:=λj b e q=>by
  obtain⟨zs,h1⟩:=r.lst j b e;rw[q,hn] at h1;cases h1
 have sub:∀ j b,ow1 ow i a j=some b->(j=i/\b=a)∨(j≠i/\ow j=some b):=λj b e=>by
  unfold ow1 at e;split at e
  ·rename_i n;cases e;exact .inl ⟨n,rfl⟩
  ·rename_i n;exact .inr ⟨n,e⟩
 have sm:a30 (hw ow (hz zA H)) (hw (ow1 ow i a) (hz zA H')):=λb o e=>by
  obtain⟨e1,e2⟩:=E10 e;have e3:=(r10 e1).1;have hb:b≠a:=λq=>by rw[q,hn] at e3;cases e3
  refine i40 (x b o e1) λj q=>?_;rcases sub j b q with ⟨_,q⟩ | ⟨_,q⟩
  ·exact hb q
  ·exact e2 j q
 refine⟨by rw[Ä1,Ä1];exact r.len,λj k b h1 h2=>?_,λj b h1=>?_,λj b h1=>?_,λj s e=>?_,r'.ext,r.zok,λj b h1=>?_⟩
 ·rcases sub j b h1 with ⟨q1,q2⟩ | ⟨q1,q2⟩
  ·rcases sub k b h2 with ⟨p1,p2⟩ | ⟨p1,p2⟩
   ·rw[q1,p1]
   ·exact absurd q2 (old k b p2)
  ·rcases sub k b h2 with ⟨p1,p2⟩ | ⟨p1,p2⟩
   ·exact absurd p2 (old j b q2)
   ·exact r.inj j k b q2 p2
 ·rcases sub j b h1 with ⟨_,q2⟩ | ⟨_,q2⟩
  ·rw[q2];exact za
  ·exact r.zne j b q2
 ·rcases sub j b h1 with ⟨q1,q2⟩ | ⟨q1,q2⟩
  ·rw[q1];exact⟨xs,ñ hi⟩
  ·obtain⟨zs,h3⟩:=r.own j b q2;exact⟨zs,by rw[ê (Â3 q1)];exact h3⟩
 ·rcases getElem?_set' e with ⟨rfl,e1,hlt⟩ | ⟨n,e1⟩
  ·cases e1;exact⟨.ref a,ñ (by rw[← r.len];exact hlt),a,ys,by unfold ow1;exact if_pos rfl,rfl,hl,h⟩
  ·obtain⟨w,h1,h2⟩:=r.wor j s e1;refine⟨w,by rw[ê (Â3 n)];exact h1,h2.move (by unfold ow1;exact if_neg n) sm λb q=>?_⟩
   obtain⟨zs,k⟩:=r.lst j b q;rw[k];exact x.at k (r.zne j b q)
 ·rcases sub j b h1 with ⟨_,q2⟩ | ⟨_,q2⟩
  ·rw[q2];exact(r.young hn za).1
  ·exact r.new j b q2
theorem RW.upd(r:RW K H0 zE zA ow H ρ σ){i:Nat}(e:ow i=some a)(h:HdA K (hw ow (hz zA H)) xs ys):RW K H0 zE zA ow (upd H a (.lst ys)) (ρ.set i (some (.fr xs))) σ:=by
 have za:=r.zne i a e;have sm:a30 (hw ow (hz zA H)) (hw ow (hz zA (L2.upd H a (.lst ys)))):=λb o q=>by
  obtain⟨e1,e2⟩:=E10 q;obtain⟨e3,e4⟩:=r10 e1;have hb:b≠a:=λz=>e2 i (by rw[z];exact e)
  exact i40 (d30 (by rw[a60 hb];exact e3) e4 (r60 e1)) e2
 obtain⟨xs0,h0⟩:=r.own i a e;have hi:i < ρ.length:=(ß.mp h0).1;obtain⟨v0,s0,a0,ys0,q1,q2,q3,q4⟩:=r.wor i _ h0;rw[e] at q1;cases q1;refine⟨by rw[Ä1];exact r.len,r.inj,r.zne,λj b h1=>?_,λj s q=>?_,⟨λb o q=>?_,λb ps q=>?_⟩,r.zok,r.new⟩
 ·by_cases hj:j=i
  ·subst hj;exact⟨xs,ñ hi⟩
  ·obtain⟨zs,h3⟩:=r.own j b h1;exact⟨zs,by rw[ê (Â3 hj)];exact h3⟩
 ·rcases getElem?_set' q with ⟨rfl,e1,hlt⟩ | ⟨n,e1⟩
  ·cases e1;exact⟨v0,s0,a,ys,e,q2,b20,h.same sm⟩
  ·obtain⟨w,h1,h2⟩:=r.wor j s e1;refine⟨w,h1,h2.move rfl sm λb q=>?_⟩;have hb:b≠a:=λz=>n (r.inj j i b q (by rw[z];exact e))
   exact a60 hb
 ·obtain⟨e1,e2⟩:=r10 (r.ext b o q);have hb:b≠a:=λz=>by
   have:=(r10 q).1;rw[z,r.new i a e] at this;cases this
  exact d30 (by rw[a60 hb];exact e1) e2 (r60 q)
 ·obtain⟨qs,e1⟩:=r.ext.tbl b ps q;have hb:b≠a:=λz=>by rw[z,q3] at e1;cases e1
  exact⟨qs,by rw[a60 hb];exact e1⟩
end
end Q
namespace Q
open PySem L2 PySem.Spec PyProof.Rows
variable [TB:Tb]
def A12:Option Ç->Z->Z
 |none,_=>none|some _,z=>z
def s40(K:Â)(G:Gs)(E:XK)(H0:Hp)(zE:Option Ç)(B:Hp)(D:Ends):R O->Prop
 |.ok (.nx ρ) z=>∀ zA ow σ H,RW K H0 zE zA ow H ρ σ->d60 zA z H->a30 B (hw ow (hz zA H))->D.nx σ H|.ok (.rt s) z=>∀ v H,s≠.z->Ext zE H0 H->d60 zE (A12 zE z) H->RvS K zE H0 H s v->D.rt v H|.er c z=>∀ e H,Ext zE H0 H->d60 zE (A12 zE z) H->H e=none->E (.ref (G.cls c)) (some e) H
def tX(K:Â)(G:Gs)(E:XK)(H0:Hp)(zE:Option Ç)(x:Sm):TS:=λD σ H=>∃ zA ow ρ z r,RW K H0 zE zA ow H ρ σ/\d60 zA z H/\ex G.F zE.isNone x ρ z=some r/\s40 K G E H0 zE (hw ow (hz zA H)) D r
section
variable {K:Â}{G:Gs}{E:XK}{H0 H H':Hp}{zE zA:Option Ç}{ow:Nat->Option Ç}{ρ:Env}{σ:L2.St}{Dn:Ends}{z:Z}
theorem k12(zok:zA=zE∨(zE=none/\∀ a,zA=some a->H0 a=none))(st:d60 zA z H):d60 zE (A12 zE z) H:=by
 cases zE with
 |none=>exact⟨trivial,st.tab⟩
 |some a =>
  rcases zok with rfl | ⟨h,_⟩
  ·exact st
  ·cases h
theorem s40.er_(po:s40 K G E H0 zE B Dn (.er c z))(r:RW K H0 zE zA ow H ρ σ):EPost G zA E c z H:=λe H' x st n=>po e H' (z41 r.ext r.zok x) (k12 r.zok st) n
theorem s40.ers(po:s40 K G E H0 zE B Dn rr)(r:RW K H0 zE zA ow H ρ σ):∀ c z1,rr=.er c z1->EPost G zA E c z1 H:=λc z1 e=>by subst e;exact po.er_ r
theorem s40.mono(po:s40 K G E H0 zE B Dn rr)(h:a30 B B'):s40 K G E H0 zE B' Dn rr:=by
 match rr,po with
 |.ok (.nx _) _,po=>exact λzA ow σ H r st sm=>po zA ow σ H r st (a30.trans h sm)|.ok (.rt _) _,po=>exact po|.er _ _,po=>exact po
theorem A80(ow:Nat->Option Ç)(i:Nat):a30 (hw ow H) (hw (ow0 ow i) H):=λb o e=>by
 obtain⟨e1,e2⟩:=E10 e;refine i40 e1 λj q=>?_;unfold ow0 at q;split at q
 ·cases q
 ·exact e2 j q
theorem E20(ow:Nat->Option Ç):a30 (hw ow H) (hw (λ_=>none) H):=λb o e=>i40 (E10 e).1 λj q=>nomatch q
theorem N91(x:Ext zA H H')(hn:H a=none)(i:Nat):a30 (hw ow (hz zA H)) (hw (ow1 ow i a) (hz zA H')):=λb o e=>by
 obtain⟨e1,e2⟩:=E10 e;have e3:=(r10 e1).1;have hb:b≠a:=λq=>by rw[q,hn] at e3;cases e3
 refine i40 (x b o e1) λj q=>?_;unfold ow1 at q;split at q
 ·cases q;exact hb rfl
 ·exact e2 j q
theorem z51(e:ow i=some a):a30 (hw ow (hz zA H)) (hw ow (hz zA (upd H a o))):=λb u q=>by
 obtain⟨e1,e2⟩:=E10 q;obtain⟨e3,e4⟩:=r10 e1;have hb:b≠a:=λw=>e2 i (by rw[w];exact e)
 exact i40 (d30 (by rw[a60 hb];exact e3) e4 (r60 e1)) e2
mutual
theorem O01:∀ {p:Pat}{d:D}{ρ ρ':Env},e60 p d ρ=some ρ'->∀ {ow:Nat->Option Ç}{σ:L2.St}{v:V}{R:L2.St->Hp->Prop},RW K H0 zE zA ow H ρ σ->Hd K (hw ow (hz zA H)) d v ->
  (∀ ow' σ',RW K H0 zE zA ow' H ρ' σ'->a30 (hw ow (hz zA H)) (hw ow' (hz zA H))->R σ' H)->gP K p v σ H R
 |.v i,d,ρ,ρ',e,ow,σ,v,R,r,hd,k=>by
  unfold e60 at e;cases e;unfold gP;exact k _ _ (r.V12 hd) (A80 ow i)
 |.tup ps,d,ρ,ρ',e,ow,σ,v,R,r,hd,k=>by
  unfold e60 at e;cases d with
  |tup l =>
   obtain⟨a,xs,rfl,h1,h2⟩:=hd.A00;unfold gP;exact⟨a,xs,rfl,(a10 zA H).sqT (a30.sqT k30 h1),by rw[h2.length];exact E00 e,z61 e r h2 k⟩
  |_=>cases e
 |.nil,_,_,_,e,_,_,_,_,_,_,_=>by unfold e60 at e;cases e
 |.cons _ _,_,_,_,e,_,_,_,_,_,_,_=>by unfold e60 at e;cases e
theorem z61:∀ {r:Pat}{l:List D}{ρ ρ':Env},bindL r l ρ=some ρ'->∀ {ow:Nat->Option Ç}{σ:L2.St}{vs:List V}{R:L2.St->Hp->Prop},RW K H0 zE zA ow H ρ σ->HdA K (hw ow (hz zA H)) l vs ->
  (∀ ow' σ',RW K H0 zE zA ow' H ρ' σ'->a30 (hw ow (hz zA H)) (hw ow' (hz zA H))->R σ' H)->gL K r vs σ H R
 |.nil,l,ρ,ρ',e,ow,σ,vs,R,r,hd,k=>by
  unfold bindL at e;cases l with
  |nil =>
   cases e;unfold gL;exact⟨hd.f10,k ow σ r (a30.refl _)⟩
  |cons x l=>cases e
 |.cons p q,l,ρ,ρ',e,ow,σ,vs,R,r,hd,k=>by
  unfold bindL at e;cases l with
  |nil=>cases e
  |cons x l =>
   obtain⟨ρ1,e1,e2⟩:=Ñ.mp e;obtain⟨v,ws,rfl,h1,h2⟩:=hd.c30;unfold gL;exact⟨v,ws,rfl,O01 e1 r h1 λow' σ' r' sm=>z61 e2 r' (h2.same sm) λow2 σ2 r2 sm2=>k ow2 σ2 r2 (a30.trans sm sm2)⟩
 |.v _,_,_,_,e,_,_,_,_,_,_,_=>by unfold bindL at e;cases e
 |.tup _,_,_,_,e,_,_,_,_,_,_,_=>by unfold bindL at e;cases e
end
theorem z71(r:RW K H0 zE zA ow H ρ σ)(s:S):∃ ow',RW K H0 zE zA ow' H (k80 s ρ) σ/\a30 (hw ow (hz zA H)) (hw ow' (hz zA H))/\(z90 s=true∨∀ i,ow' i=none):=by
 unfold k80;rw[R90];cases hb:z90 s with
 |true=>exact⟨ow,r,a30.refl _,.inl rfl⟩|false=>exact⟨_,r.Z30,E20 ow,.inr λ_=>rfl⟩
theorem O11{p:Pat}{s:S}{v:V}{ρ':Env}{R:L2.St->Hp->Prop}(r:RW K H0 zE zA ow H ρ σ)(x:Ext zA H H')(rv:RvS K zA H H' s v)(e:S00 p s (k80 s ρ)=some ρ')
  (k:∀ ow' σ',RW K H0 zE zA ow' H' ρ' σ'->a30 (hw ow (hz zA H)) (hw ow' (hz zA H'))->R σ' H'):gP K p v σ H' R:=by
 obtain⟨owk,r1,s1,b1⟩:=z71 r s;have r2:=r1.mono x;have s2:a30 (hw ow (hz zA H)) (hw owk (hz zA H')):=a30.trans s1 (d40 x);cases s with
 |d y =>
  have e':e60 p y (k80 (.d y) ρ)=some ρ':=by cases p <;> exact e
  refine O01 e' r2 ?_ λow' σ' r3 s3=>k ow' σ' r3 (a30.trans s2 s3);rcases b1 with b1 | b1
  ·exact M40 r2.f02 b1 rv
  ·have:owk=λ_=>none:=funext b1;subst this;rw[x10];exact rv
 |z =>
  cases p with
  |v i =>
   simp only[S00] at e;split at e
   ·cases e;unfold gP;exact k _ _ (r2.V22 rv) (a30.trans s2 (A80 owk i))
   ·cases e
  |_=>cases e
 |fr xs =>
  cases p with
  |v i =>
   simp only[S00] at e;split at e
   ·rename_i hi;cases e;unfold gP;obtain⟨a,ys,rfl,h1,h2,h3,h4⟩:=rv;refine k _ _ (r1.V32 x h1 h2 h3 ?_ hi) (a30.trans s1 (N91 x h1 i));rcases b1 with b1 | b1
    ·refine A70 (λj b q=>?_) b1 (h4.same (e50 a _));unfold ow1 at q;split at q
     ·cases q;exact⟨ys,d30 h3 h2⟩
     ·exact r2.f02 j b q
    ·refine h4.same λb o q=>?_;have hb:b≠a:=λw=>by subst w;unfold hide at q;rw[if_pos rfl] at q;cases q
     refine i40 (e50 a _ b o q) λj w=>?_;unfold ow1 at w;split at w
     ·cases w;exact hb rfl
     ·rw[b1 j] at w;cases w
   ·cases e
  |_=>cases e
end
end Q
namespace Q
open PySem L2 PySem.Spec PyProof.Rows
variable [TB:Tb]
theorem f12(h:k90 v=false):Ä6 [tg] v env=pure none:=by
 cases tg <;> first | rfl | (cases v <;> first | (cases h;done) | rfl)
theorem f22(h:vs.all (Û6 8)=true):Ä6 [.Tuple ts k p] (.Tuple vs k' p') env=pure none:=by
 unfold Ä6;simp only[h,if_true];split
 ·rfl
 ·split
  ·rfl
  ·split
   ·rfl
   ·rfl
def z81(look:Str->Option Ë5):Ï->Bool
 |.Name id _=>look id != some .local|_=>true
theorem f32(h:ts.any (z81 env.kindOf)=true):Ä6 [.Tuple ts k p] (.Tuple vs k' p') env=pure none:=by
 have hl:∀ (l:Nat) (ts:List Ï),ts.any (z81 env.kindOf)=true->(ts.filterMap fun
   |.Name id pos=>if env.kindOf id == some .local&&pos.line == l then some id else none
   |_=>none).length < ts.length:=by
  intro l ts
  induction ts with
  |nil=>intro h;cases h
  |cons e r ih =>
   intro h;have le:=List.length_filterMap_le (fun
    |.Name id pos=>if env.kindOf id == some .local&&pos.line == l then some id else none
    |_=>none:Ï->Option Str) r
   rw[List.any_cons,Å6] at h;rw[Á4];split
   ·rw[Ü];omega
   ·rename_i b hb;rcases h with h | h
    ·exfalso;cases e with
     |Name id pos =>
      have h':(env.kindOf id != some .local)=true:=h;simp only[bne_iff_ne,ne_eq] at h';simp[h'] at hb
     |_=>cases hb
    ·have:=ih h;rw[Ü,Ü];omega
 unfold Ä6;dsimp only;split
 ·rfl
 ·split
  ·rfl
  ·have:=hl ((ts.head?.map (·.pos.line)).getD 0) ts h;rw[if_pos];simp only[Å6,bne_iff_ne,ne_eq];exact .inl (Ù this)
theorem u52{x y:Str}{a b:Ï}{px py pt pt2:Pos}{k k2:Nat}{env:È8}(hb:env.blockKind=.function)(hx:env.kindOf x=some .local)(hy:env.kindOf y=some .local)(hxy:(x == y)=false)(hl:(py.line == px.line)=true)
  (ha:noStar a=true) (hb':noStar b=true) (hf:[a,b].all (Û6 8)=false) (hc:[a,b].all (constantsAlone 8)=false) :
  Ä6 [.Tuple [.Name x px,.Name y py] k pt] (.Tuple [a,b] k2 pt2) env=pure (some [x,y]):=by
 have hbk:(env.blockKind != .function)=false:=by rw[hb];rfl
 have e1:(x == x)=true:=beq_self_eq_true x;have hyx:(y == x)=false:=by
  cases h:y == x with
  |false=>rfl|true=>rw[beq_iff_eq] at h;subst h;rw[e1] at hxy;cases hxy
 have hl2:(Ï.Name x px).pos.line=px.line:=rfl;have hl3:(Ï.Name y py).pos.line=py.line:=rfl;have hl':py.line=px.line:=by simpa using hl
 unfold Ä6;simp only[List.filterMap,List.head?,Î6,Option.getD,hx,hy,hf,hc,hbk,hl2,hl'];simp[List.eraseDups,List.eraseDupsBy,List.eraseDupsBy.loop,hyx,hxy];intro h;rcases h with h | h
 ·cases a <;> first | (cases h;done) | (cases ha;done)
 ·cases b <;> first | (cases h;done) | (cases hb';done)
def T40:Ï->Bool
 |.ListComp ..=>false|.SetComp ..=>false|.DictComp ..=>false|_=>true
theorem A90(h:T40 v=true)(t:Option Ï):Ô8 v t n env=pure false:=by
 cases v <;> first | rfl | (cases h;done)
theorem T50(h:(match tg with | .Name ..=>true | _=>false)=false):Ô8 v (some tg) n env=pure false:=by
 cases v <;> first | rfl | (cases tg <;> first | rfl | (cases h;done))
theorem O21{el:Ï}{gs:List Comprehension}{sc:ý}{p px:Pos}{t:Str}{n:Nat}{env:È8}:∃ b,Ô8 (.ListComp el gs sc p) (some (.Name t px)) n env=pure b:=⟨_,rfl⟩
structure XS(lm:Bool)(X:Cx)(G:Gs)(E:XK)(N:List Str)(sc:Scope)(cn:List Str):Prop extends XI lm X G E N sc where
 sco:X.env.scope=sc
 fnk:sc.kind=.function
 own:PassesOwn (model X.prog X.w) X.A X.env X.xe
 can:K70 X E
 fnx:∀ x,X.fn x=true
 cls:∀ c x,cn[c]?=some x->X.mg x=some (.ref (G.cls c))/\PySem.W.excIn X.K (G.cls c) [.type "ValueError",.type "Exception",.type "BaseException",.type "object"] "ValueError.__new__"=true
def T60(sc:ý)(x:Str):Bool:=sc.names.lookup x == some .local || sc.names.lookup x == some .cell
section
variable {lm:Bool}{X:Cx}{G:Gs}{E:XK}{N:List Str}{sc:ý}{cn:List Str}{H0:Hp}{zE:Option Ç}
theorem XS.loc(x:XS lm X G E N sc cn):N31 X N (T60 sc):=by
 refine⟨x.hN,x.nd,λy h=>?_,λy _=>.inl (x.fnx y),x.calm⟩;unfold T60 at h;rw[Å6,beq_iff_eq,beq_iff_eq] at h;rw[x.sco];exact h
theorem XS.bk(x:XS lm X G E N sc cn):X.env.blockKind=.function:=by
 unfold Env.blockKind;rw[x.sco,x.fnk];rfl
theorem PS.imp{st:Ä8}{t t':TS}(h:PS X st t)(i:∀ D σ H,t' D σ H->t D σ H):PS X st t':=λpins s σ H D I q=>h pins s σ H D I (i _ _ _ q)
theorem PSs.imp{st:List Ä8}{t t':TS}(h:PSs X st t)(i:∀ D σ H,t' D σ H->t D σ H):PSs X st t':=λpins s σ H D I q=>h pins s σ H D I (i _ _ _ q)
theorem J32:PSs X [] (tX X.K G E H0 zE .nil):=PSs.imp q01 λD σ H q=>by
 obtain⟨zA,ow,ρ,z,r,rw,st,e,po⟩:=q;cases e;exact po zA ow σ H rw st (a30.refl _)
theorem J42{s r:Sm}{st:Ä8}{rest:List Ä8}(h1:PS X st (tX X.K G E H0 zE s))(h2:PSs X rest (tX X.K G E H0 zE r)):PSs X (st::rest) (tX X.K G E H0 zE (.seq s r)):=PSs.imp (j40 h1 h2) λD σ H q=>by
 obtain⟨zA,ow,ρ,z,rr,rw,st,e,po⟩:=q;have e0:M.bind (ex G.F zE.isNone s ρ) (λo=>match o with | .nx ρ=>ex G.F zE.isNone r ρ | .rt s=>M.ret (.rt s)) z=some rr:=e
 rcases M.bind_some e0 with ⟨o,z1,e1,e2⟩ | ⟨c,z1,e1,e2⟩
 ·refine⟨zA,ow,ρ,z,_,rw,st,e1,?_⟩;cases o with
  |nx ρ1=>exact λzA' ow' σ' H' rw' st' sm=>⟨zA',ow',ρ1,z1,rr,rw',st',e2,po.mono sm⟩|rt s=>cases e2;exact po
 ·subst e2;exact⟨zA,ow,ρ,z,_,rw,st,e1,po⟩
theorem U51{p:Pat}{e:Ex}{D:Ends}{σ:L2.St}{H:Hp}(q:tX X.K G E H0 zE (.set p e) D σ H):m02 (tI X.K G E e) (gP X.K p) D σ H:=by
 obtain⟨zA,ow,ρ,z,rr,rw,st,ee,po⟩:=q;refine j20 rw.X30 st ee (po.ers rw) λl z1 e1=>?_;obtain⟨s,hs,e2⟩:=M.a20 e1;refine⟨s,D80 hs,λv H1 x1 st1 rv=>?_⟩;obtain⟨ρ',hb,e3⟩:=M.a20 e2;cases e3;exact O11 rw x1 rv hb λow' σ' r' sm=>po zA ow' σ' H1 r' st1 sm
theorem V42{K:Â}{i:Nat}:gP K (.v i)=X40 i:=by unfold gP;rfl
theorem J52(x:XS lm X G E N sc cn){i:Nat}{e:Ex}{y:Str}{v:Ï}{px pos:Pos}(hi:N[i]?=some y)(hl:T60 sc y=true)(g:b10 X G E e v)
  (hc:∀ elt gs csc q,v=.ListComp elt gs csc q->∃ tg Ä0 ifs,gs=[⟨tg,Ä0,ifs,0⟩]/\H30 X G E e elt tg Ä0 ifs csc) (hno:∀ a b c d,v≠.SetComp a b c d) (hnd:∀ a b c d f,v≠.DictComp a b c d f) :
  PS X (.Assign [.Name y px] v pos) (tX X.K G E H0 zE (.set (.v i) e)):=by
 have L:=x.loc;refine PS.imp (t:=m02 (tI X.K G E e) (X40 i)) ?_ λD σ H q=>by rw[← V42 (K:=X.K)];exact U51 q
 have h1:X.N.Nodup:=by rw[x.hN];exact x.nd
 have h2:X.N[i]?=some y:=by rw[x.hN];exact hi
 by_cases hv:∃ elt gs csc q,v=.ListComp elt gs csc q
 ·obtain⟨elt,gs,csc,q,rfl⟩:=hv;obtain⟨b,hb⟩:=O21 (el:=elt) (gs:=gs) (sc:=csc) (p:=q) (px:=px) (t:=y) (n:=pos.line) (env:=X.env);cases b with
  |false=>exact y10 h1 h2 (L.lc y hl) g.pe hb (L.fn y hl)
  |true =>
   obtain⟨tg,Ä0,ifs,rfl,own,capt,wi,gg,tt,te,k1,k2,k3,k4,k5,k6,k7⟩:=hc elt gs csc q rfl;refine PS.imp (Y61 h1 h2 (L.lc y hl) hb x.calm k1 k2 k3 k4 k5 k6 (L.fn y hl)) λD σ H q=>k7 _ _ _ q
 ·exact y10 h1 h2 (L.lc y hl) g.pe (A90 (by cases v <;> first | rfl | exact absurd rfl (hno _ _ _ _) | exact absurd rfl (hnd _ _ _ _ _) | exact absurd ⟨_,_,_,_,rfl⟩ hv) _) (L.fn y hl)
theorem z91(x:XS lm X G E N sc cn){p:Pat}{e:Ex}{tg v:Ï}{pos:Pos}(hp:j30 N (T60 sc) p tg=true)(g:b10 X G E e v)(ht:k90 tg=true)(hv:Ä6 [tg] v X.env=pure none) :
  PS X (.Assign [tg] v pos) (tX X.K G E H0 zE (.set p e)):=by
 refine PS.imp (R71 g.pe (x81 x.loc hp) ?_ hv ?_) λD σ H q=>U51 q
 ·exact T50 (by cases tg <;> first | rfl | (cases ht;done))
 ·cases tg <;> first | rfl | (cases ht;done)
theorem J62(x:XS lm X G E N sc cn){i j:Nat}{ea eb:Ex}{a b:Ï}{y w:Str}{px py pt pt2 pos:Pos}{k k2:Nat}(hi:N[i]?=some y)(hj:N[j]?=some w)(hyw:(y == w)=false)(hy:sc.names.lookup y=some .local)(hw':sc.names.lookup w=some .local)
  (g:Good X G E (.cons ea (.cons eb .nil)) [a,b]) (hs:Ä6 [.Tuple [.Name y px,.Name w py] k pt] (.Tuple [a,b] k2 pt2) X.env=pure (some [y,w])) :
  PS X (.Assign [.Tuple [.Name y px,.Name w py] k pt] (.Tuple [a,b] k2 pt2) pos) (tX X.K G E H0 zE (.set (.tup (.cons (.v i) (.cons (.v j) .nil))) (.tup (.cons ea (.cons eb .nil))))):=by
 have hij:i≠j:=λh=>by
  subst h;rw[hi] at hj;cases hj;rw[beq_self_eq_true] at hyw;cases hyw
 refine PS.imp (m12 x.calm (by rw[x.hN];exact x.nd) (by rw[x.hN];exact hi) (by rw[x.hN];exact hj) hij (by rw[x.sco];exact hy) (by rw[x.sco];exact hw') (g.args rfl).1 hs rfl) λD σ H q=>?_
 obtain⟨zA,ow,ρ,z,rr,rw,st,ee,po⟩:=q;have e0:M.bind (M.bind (ev G.F (.cons ea (.cons eb .nil)) ρ) λl=>M.bind (M.of (plA l)) λds=>if ds.length<=most then M.ret [S.d (.tup ds)] else M.no) (λl=>M.bind (M.of (one l)) λs=>M.bind (M.of (S00 (.tup (.cons (.v i) (.cons (.v j) .nil))) s (k80 s ρ))) λρ=>M.ret (O.nx ρ)) z=some rr:=ee;rcases M.bind_some e0 with ⟨l0,z0,e1,e2⟩ | ⟨c,z1,e1,e2⟩
 ·rcases M.bind_some e1 with ⟨l,z1,e3,e4⟩ | ⟨c,z1,e3,e4⟩
  ·obtain⟨ds,hds,e5⟩:=M.a20 e4;split at e5
   ·cases e5;obtain⟨s,hs',e6⟩:=M.a20 e2;cases hs';obtain⟨ρ',hb,e7⟩:=M.a20 e6;cases e7;refine⟨zA,ρ,z,_,rw.X30,st,e3,λvs H1 x1 st1 rvs=>?_⟩;have hd:=G20 rvs hds;obtain⟨owk,r1,s1,b1⟩:=z71 rw (.d (.tup ds));have hb':bindL (.cons (.v i) (.cons (.v j) .nil)) ds (k80 (.d (.tup ds)) ρ)=some ρ':=by
     have:e60 (.tup (.cons (.v i) (.cons (.v j) .nil))) (.tup ds) (k80 (.d (.tup ds)) ρ)=some ρ':=hb;unfold e60 at this;exact this
    have r2:=r1.mono x1;have hd2:HdA X.K (hw owk (hz zA H1)) ds vs:=by
     rcases b1 with b1 | b1
     ·exact A70 r2.f02 (by simpa [z90,bare] using b1) hd
     ·have:owk=λ_=>none:=funext b1;subst this;rw[x10];exact hd
    have:=z61 hb' (R:=D.nx) r2 hd2 λow' σ' r' sm=>po zA ow' σ' H1 r' st1 (a30.trans s1 (a30.trans (d40 x1) sm));unfold gL at this;obtain⟨v,vr,rfl,this⟩:=this;unfold gP gL at this;obtain⟨u,ur,rfl,this⟩:=this;unfold gP gL at this;obtain⟨rfl,this⟩:=this;exact⟨v,u,rfl,this⟩
   ·cases e5
  ·cases e4
 ·subst e2;rcases M.bind_some e1 with ⟨l,z2,e3,e4⟩ | ⟨c,z2,e3,e4⟩
  ·obtain⟨ds,hds,e5⟩:=M.a20 e4;split at e5 <;> cases e5
  ·cases e4;exact⟨zA,ρ,z,_,rw.X30,st,e3,po.er_ rw⟩
theorem U61{s t:S}(h:noS s=some t):s=t/\t≠.z:=by
 cases s with
 |z=>cases h
 |d _=>cases h;exact⟨rfl,λh=>nomatch h⟩
 |fr _=>cases h;exact⟨rfl,λh=>nomatch h⟩
theorem u62(x:XS lm X G E N sc cn){i:Nat}{n:Str}{p pos:Pos}(h1:N[i]?=some n)(h2:d80 n=true):PS X (.Return (some (.Name n p)) pos) (tX X.K G E H0 zE (.ret (.var i))):=by
 unfold d80 at h2;simp only[Á,À3] at h2;refine PS.imp (d61 (t60 (i:=i) (by rw[x.hN];exact h1) (x.vis n (í h1)) h2.1 h2.2)) λD σ H q=>?_
 obtain⟨zA,ow,ρ,z,rr,rw,st,ee,po⟩:=q;have e0:(match ρ[i]? with | some (some s)=>M.bind (M.of (noS s)) λs=>M.ret (O.rt s) | _=>M.no) z=some rr:=ee
 cases hs:ρ[i]? with
 |none=>rw[hs] at e0;cases e0
 |some o =>
  cases o with
  |none=>rw[hs] at e0;cases e0
  |some s =>
   rw[hs] at e0;obtain⟨t,ht,e1⟩:=M.a20 e0;cases e1;obtain⟨rfl,nz⟩:=U61 ht;obtain⟨v,k1,k2⟩:=rw.V02 nz hs;exact⟨v,k1,po v H nz rw.ext (k12 rw.zok st) k2⟩
theorem J72{e:Ex}{v:Ï}{pos:Pos}(hv:∀ i,e≠.var i)(g:b10 X G E e v):PS X (.Return (some v) pos) (tX X.K G E H0 zE (.ret e)):=by
 refine PS.imp (d61 g.pe) λD σ H q=>?_;obtain⟨zA,ow,ρ,z,rr,rw,st,ee,po⟩:=q;have e0:M.bind (ev G.F e ρ) (λl=>M.bind (M.of ((one l).bind noS)) λs=>M.ret (O.rt s)) z=some rr:=by
  cases e <;> first | exact ee | exact absurd rfl (hv _)
 refine j20 rw.X30 st e0 (po.ers rw) λl z1 e1=>?_;obtain⟨t,ht,e2⟩:=M.a20 e1;cases e2;obtain⟨s,hs,hn⟩:=Ñ.mp ht;obtain⟨rfl,nz⟩:=U61 hn;exact⟨s,D80 hs,λv H1 x1 st1 rv=>po v H1 nz (z41 rw.ext rw.zok x1) (k12 rw.zok st1) (rw.out nz x1 rv)⟩
theorem V52{c:Ex}{t u:Sm}{ce:Ï}{a b:List Ä8}{pos:Pos}(g:b10 X G E c ce)(hn:∀ t a b p,ce≠.IfExp t a b p)(ha:PSs X a (tX X.K G E H0 zE t))(hb:PSs X b (tX X.K G E H0 zE u)) :
  PS X (.If ce a b pos) (tX X.K G E H0 zE (.iff c t u)):=by
 refine PS.imp (l52 (g.pt hn) ha hb) λD σ H q=>?_;obtain⟨zA,ow,ρ,z,rr,rw,st,ee,po⟩:=q;refine S70 rw.X30 st ee (po.ers rw) λb z1 e1 H1 x1 st1=>?_;have r1:=rw.mono x1;have sm:a30 (hw ow (hz zA H)) (hw ow (hz zA H1)):=d40 x1;cases b with
 |true=>exact⟨zA,ow,ρ,z1,rr,r1,st1,e1,po.mono sm⟩|false=>exact⟨zA,ow,ρ,z1,rr,r1,st1,e1,po.mono sm⟩
theorem J82{e:Ex}{v:Ï}{pos:Pos}(g:b10 X G E e v)(h:T40 v=true):PS X (.Expr v pos) (tX X.K G E H0 zE (.exp e)):=by
 refine PS.imp (q21 g.pe (A90 h none)) λD σ H q=>?_;obtain⟨zA,ow,ρ,z,rr,rw,st,ee,po⟩:=q;have e0:M.bind (ev G.F e ρ) (λl=>M.bind (M.of (one l)) λ_=>M.ret (O.nx ρ)) z=some rr:=ee;refine j20 rw.X30 st e0 (po.ers rw) λl z1 e1=>?_;obtain⟨s,hs,e2⟩:=M.a20 e1;cases e2;exact⟨s,D80 hs,λv H1 x1 st1 rv=>po zA ow σ H1 (rw.mono x1) st1 (d40 x1)⟩
theorem f42(h:asI d=some i):d=.int i:=by cases d <;> first | (cases h;rfl) | (cases h;done)
theorem x_raise(x:XS lm X G E N sc cn){c:Nat}{n:Str}{y:Str}{k:Nat}{p1 p2 p3 p4:Pos}(hc:cn[c]?=some n)(hg:glob sc n=true):PS X (.Raise (some (.Call (.Name n p1) [.Constant (.str y) k p2] [] p3)) none p4) (tX X.K G E H0 zE (.rais c)):=by
 obtain⟨k1,k2,_⟩:=d00 hg;obtain⟨m1,m2⟩:=x.cls c n hc;refine PS.imp (K21 x.can x.calm (x.glb n k1) m1 m2 (e20 R51 t80) k2 rfl rfl) λD σ H q=>?_;obtain⟨zA,ow,ρ,z,rr,rw,st,ee,po⟩:=q;cases ee;exact⟨by show 1<=Ú;decide,λe hn=>po e H rw.ext (k12 rw.zok st) hn⟩
end
section
variable {K:Â}{H0 H H':Hp}{zE zA:Option Ç}{ow:Nat->Option Ç}{ρ:Env}{σ:L2.St}
theorem g60(e:ow0 ow i j=some a):j≠i/\ow j=some a:=by
 unfold ow0 at e;split at e
 ·cases e
 ·rename_i n;exact⟨n,e⟩
theorem B00:ow0 ow i i=none:=if_pos rfl
theorem A01(h:j≠i):ow0 ow i j=ow j:=if_neg h
theorem O31{ρ:Env}{j:Nat}{s:S}(h:(R80 ρ)[j]?=some (some s)):ρ[j]?=some (some s)/\s≠.z:=by
 unfold R80 at h;rw[Û] at h;obtain⟨o,e1,e2⟩:=Ì.mp h;cases o with
 |none=>cases e2
 |some t =>
  cases t with
  |z=>cases e2
  |d x=>cases e2;exact⟨e1,λh=>nomatch h⟩
  |fr x=>cases e2;exact⟨e1,λh=>nomatch h⟩
theorem f52{j:Nat}(h:ρ[j]?=some (some (.fr xs))):(R80 ρ)[j]?=some (some (.fr xs)):=by
 unfold R80;rw[Û,h];rfl
theorem RW.V62(r:RW K H0 none zA ow H ρ σ){i:Nat}(x:Ext zA H H')(hn:H a=none)(za:zA≠some a)(hl:H' a=some (.lst ys)) :
  RW K H0 none (some a) (ow0 ow i) H' ((R80 ρ).set i (some .z)) (σ.set i (some (.ref a)))/\a30 (hw ow (hz zA H)) (hw (ow0 ow i) (hz (some a) H')):=by
 have r':=r.mono x;have old:∀ j b,ow j=some b->b≠a:=λj b e q=>by
  obtain⟨zs,h1⟩:=r.lst j b e;rw[q,hn] at h1;cases h1
 have sm:a30 (hw ow (hz zA H)) (hw (ow0 ow i) (hz (some a) H')):=λb o e=>by
  obtain⟨e1,e2⟩:=E10 e;have hb:b≠a:=λq=>by
   have e3:H b=some o:=(r10 e1).1;rw[q,hn] at e3;cases e3
  exact i40 (d30 (r10 (x b o e1)).1 (λq=>by cases q;exact hb rfl) (r60 e1)) λj q=>e2 j (g60 q).2
 have dl:(R80 ρ).length=ρ.length:=by unfold R80;rw[É]
 refine⟨⟨by rw[Ä1,Ä1,dl];exact r.len,λj k b h1 h2=>r.inj j k b (g60 h1).2 (g60 h2).2,λj b h1 q=>?_,λj b h1=>?_,λj s e=>?_,r'.ext,.inr ⟨rfl,λb q=>?_⟩,λj b h1=>r.new j b (g60 h1).2⟩,sm⟩
 ·cases q;exact old j _ (g60 h1).2 rfl
 ·obtain⟨n,h2⟩:=g60 h1;obtain⟨xs,h3⟩:=r.own j b h2;exact⟨xs,by rw[ê (Â3 n)];exact f52 h3⟩
 ·rcases getElem?_set' e with ⟨rfl,e1,hlt⟩ | ⟨n,e1⟩
  ·cases e1;exact⟨.ref a,ñ (by rw[← r.len,← dl];exact hlt),B00,a,rfl,rfl⟩
  ·obtain⟨e1,nz⟩:=O31 e1;obtain⟨w,h1,h2⟩:=r.wor j s e1;refine⟨w,by rw[ê (Â3 n)];exact h1,?_⟩
   cases s with
   |d y=>exact⟨by rw[A01 n];exact h2.1,h2.2.same sm⟩|z=>exact absurd rfl nz
   |fr xs =>
    obtain⟨b,zs,k1,rfl,k3,k4⟩:=h2;exact⟨b,zs,by rw[A01 n];exact k1,rfl,x.at k3 (r.zne j b k1),k4.same sm⟩
 ·cases q;exact(r.young hn za).1
theorem RW.plain(r:RW K H0 zE zA ow H ρ σ)(i:Nat):RW K H0 zE zA (ow0 ow i) H (ρ.set i ((ρ[i]?.getD none).map plS)) σ:=by
 have sm:=A80 (H:=hz zA H) ow i;refine⟨by rw[Ä1];exact r.len,λj k b h1 h2=>r.inj j k b (g60 h1).2 (g60 h2).2,λj b h1=>r.zne j b (g60 h1).2,λj b h1=>?_,λj s e=>?_,r.ext,r.zok,λj b h1=>r.new j b (g60 h1).2⟩
 ·obtain⟨n,h2⟩:=g60 h1;obtain⟨xs,h3⟩:=r.own j b h2;exact⟨xs,by rw[ê (Â3 n)];exact h3⟩
 ·rcases getElem?_set' e with ⟨rfl,e1,hlt⟩ | ⟨n,e1⟩
  ·cases hs:ρ[j]? with
   |none=>rw[hs] at e1;cases e1
   |some o =>
    rw[hs] at e1;cases o with
    |none=>cases e1
    |some s0 =>
     cases e1;obtain⟨w,h1,h2⟩:=r.wor j s0 hs;refine⟨w,h1,?_⟩;cases s0 with
     |d y=>exact⟨B00,h2.2.same sm⟩|z=>exact⟨B00,h2.2⟩
     |fr xs =>
      obtain⟨b,zs,k1,rfl,k3,k4⟩:=h2;refine⟨B00,Hd.lst (i40 (d30 k3 (r.zne j b k1)) λk q=>?_) (k4.same sm)⟩;obtain⟨q1,q2⟩:=g60 q;exact q1 (r.inj k j b q2 k1)
  ·obtain⟨w,h1,h2⟩:=r.wor j s e1;exact⟨w,h1,h2.move (A01 n) sm λ_ _=>rfl⟩
end
theorem HdA.eraseIdx{K:Â}{H:Hp}:∀ {ds:List D}{vs:List V} (n:Nat),HdA K H ds vs->HdA K H (ds.eraseIdx n) (vs.eraseIdx n)
 |[],_,n,h=>by rw[h.f10];exact .nil
 |d::ds,_,0,h=>by
  obtain⟨x,r,rfl,h1,h2⟩:=h.c30;exact h2
 |d::ds,_,n + 1,h=>by
  obtain⟨x,r,rfl,h1,h2⟩:=h.c30;exact .cons h1 (HdA.eraseIdx n h2)
section
variable {lm:Bool}{X:Cx}{G:Gs}{E:XK}{N:List Str}{sc:ý}{cn:List Str}{H0:Hp}{zE:Option Ç}
theorem f62{α β:Type}{R:α->β->Prop}{a:α}{vs:List β}(h:Å9 R [a] vs):∃ v,vs=[v]/\R a v:=by
 cases h with
 |cons h1 h2=>cases h2;exact⟨_,rfl,h1⟩
theorem d60.a60(st:d60 zA z H)(n:zA≠some a)(h:H a=some (.lst xs)):d60 zA z (upd H a o):=by
 refine⟨?_,λp hp=>Tab.upd (st.tab p hp) h⟩;have st:=st.zat;cases zA with
 |none=>cases z <;> exact st
 |some b =>
  cases z with
  |none=>exact st
  |some p =>
   have hb:b≠a:=λq=>n (by rw[q])
   exact(L2.a60 hb).trans st
theorem U71(h:ownAt ρ i=some xs):ρ[i]?=some (some (.fr xs)):=by
 unfold ownAt at h;split at h
 ·rename_i h1;cases h;exact h1
 ·cases h
theorem O41{K:Â}{zA:Option Ç}{H0 H:Hp}{s:S}{v:V}{x:D}(h:RvS K zA H0 H s v)(e:plD s=some x):Hd K (hz zA H) x v:=h.pl.d_ e
theorem J92(x:XS lm X G E N sc cn){i:Nat}{n:Str}{e:Ex}{v:Ï}{p apos cpos pos:Pos}(h1:N[i]?=some n)(h2:d80 n=true)(ns:noStar v=true)(g:b10 X G E e v)(hl:(apos.endLine == cpos.line)=true) :
  PS X (.Expr (.Call (.Attribute (.Name n p) "append" apos) [v] [] cpos) pos) (tX X.K G E H0 zE (.app i e)):=by
 unfold d80 at h2;simp only[Á,À3] at h2;have ga:Good X G E (.cons e .nil) [v]:=⟨v,[],rfl,ns,g,rfl,rfl⟩;have hs:=c70 ns [] X.env;refine PS.imp (q21 (D52 PySem.F.plainAttrs_list PySem.F.slot_list_append PySem.F.type_list_append r31 (t60 (i:=i) (by rw[x.hN];exact h1) (x.vis n (í h1)) h2.1 h2.2) (ga.args rfl).1 rfl (by rw[hs];rfl) hl hs rfl) (A90 rfl none)) λD σ H q=>?_
 obtain⟨zA,ow,ρ,z,rr,rw,st,ee,po⟩:=q;obtain⟨xs,hx,e1⟩:=M.a20 ee;have ho:=U71 hx;obtain⟨w,k1,a,ys,k2,rfl,k3,k4⟩:=rw.wor i _ ho;refine⟨_,k1,.inl ⟨rfl,ys,SqL.of k3⟩,?_⟩;have e2:M.bind (ev G.F (.cons e .nil) ρ) (λm=>M.bind (M.of (pl m)) λx=>if bare x=true/\xs.length < most then M.ret (O.nx (ρ.set i (some (.fr (xs++[x]))))) else M.no) z=some rr∨∃ c z1,ev G.F e ρ z=some (.er c z1)/\rr=.er c z1:=by
  rcases M.bind_some e1 with ⟨l,z1,e3,e4⟩ | ⟨c,z1,e3,e4⟩
  ·obtain⟨y,hy,e5⟩:=M.a20 e4;obtain⟨s,rfl,hs⟩:=f30 hy;refine .inl ?_;show M.bind (M.bind (ev G.F e ρ) λx=>M.bind (M.of (one x)) λs=>M.bind (ev G.F .nil ρ) λy=>M.ret (s::y)) _ z=some rr;simp only[M.bind,e3,M.of,one,M.ret,ev,hy];exact e5
  ·exact .inr ⟨c,z1,e3,e4⟩
 rcases e2 with e2 | ⟨c,z1,e3,rfl⟩
 ·refine a31 rw.X30 st e2 (po.ers rw) λl z1 e3 vs H1 x1 st1 rvs=>?_;obtain⟨y,hy,e5⟩:=M.a20 e3;obtain⟨s,rfl,hs⟩:=f30 hy;split at e5
  ·rename_i hb;cases e5;obtain⟨u,rfl,ru⟩:=f62 rvs;have r1:=rw.mono x1;have k3':=x1.at k3 (rw.zne i a k2);have k4':HdA X.K (hw ow (hz zA H1)) xs ys:=k4.same (d40 x1);have hd:=M40 r1.f02 hb.1 (O41 ru hs);refine⟨a,ys,u,rfl,rfl,k3',Þ (by rw[k4.length];exact hb.2) (g20 (Í _)),?_⟩
   refine po zA ow σ _ (r1.upd k2 (k4'.append (.cons hd .nil))) ?_ (a30.trans (d40 x1) (z51 k2));exact st1.a60 (rw.zne i a k2) k3'
  ·cases e5
 ·refine⟨zA,ρ,z,.er c z1,rw.X30,st,?_,po.er_ rw⟩;show M.bind (ev G.F e ρ) _ z=_;simp only[M.bind,e3]
theorem O51:M52 X (D32 X.K):=by
 intro pins s σ H x y v u Q I rx ry h;obtain⟨p,xs,i,z,rfl,rfl,hq,he,q⟩:=h;cases rx;obtain⟨t,rfl⟩:=ry;obtain⟨its,r,pl,hz⟩:=I.list hq;obtain⟨j,h1,h2,h3,h4,h5⟩:=X70 he;obtain⟨w,ew,rw'⟩:=r.get h2;have hl:=r.length;have hn:=P50;by_cases h0:0<=i
 ·have hj:i.toNat=j:=by
   rw[ß5 h0 h5] at h1;exact À7 h1
  exact wpAny_getItem_list pl.isList h0 ∅ (by rw[hj];simpa using ew) ⟨z,H,I,rw',q⟩
 ·have hj:(i + (its.toArray.size:Int)).toNat=j:=by
   rw[seqIndex_neg ∅ h4] at h1
   rw[Ó,← hl];exact À7 h1
  exact wpAny_getItem_list_neg pl.isList ∅ (by rw[Ó] <;> omega) ∅ (by rw[hj];simpa using ew) ⟨z,H,I,rw',q⟩
theorem u72(x:XS lm X G E N sc cn){i:Nat}{n:Str}{e ix:Ex}{v w:Ï}{p tp pos:Pos}(h1:N[i]?=some n)(h2:d80 n=true)(g:b10 X G E e v)(gi:b10 X G E ix w)(hw':D90 w=true) :
  PS X (.AugAssign (.Subscript (.Name n p) w tp) .Add v pos) (tX X.K G E H0 zE (.augi i ix e)):=by
 unfold d80 at h2;simp only[Á,À3] at h2;refine PS.imp (X01 (t60 (i:=i) (by rw[x.hN];exact h1) (x.vis n (í h1)) h2.1 h2.2) gi.pe O51 g.pe m22 set_list (by intros;cases w <;> first | rfl | (cases hw';done))) λD σ H q=>?_
 obtain⟨zA,ow,ρ,z,rr,rw,st,ee,po⟩:=q;obtain⟨xs,hx,e1⟩:=M.a20 ee;obtain⟨w',k1,a,ys,k2,rfl,k3,k4⟩:=rw.wor i _ (U71 hx);refine⟨_,k1,?_⟩;refine j20 rw.X30 st e1 (po.ers rw) λl z1 e2=>?_;obtain⟨j,hj,e3⟩:=M.a20 e2;obtain⟨dj,hj1,hj2⟩:=Ñ.mp hj;obtain⟨s1,rfl,hs1⟩:=f30 hj1;refine⟨s1,rfl,λu1 H1 x1 st1 rv1=>?_⟩;have hdj:u1=.int j:=by
  have:=O41 rv1 hs1;cases f42 hj2;exact this.j00
 obtain⟨y,hy,e4⟩:=M.a20 e3;have r1:=rw.mono x1;have k3':=x1.at k3 (rw.zne i a k2);have k4a:HdA X.K (hw ow (hz zA H1)) xs ys:=k4.same (d40 x1);obtain⟨b,hb1,hb2⟩:=at_of k4a hy;refine⟨a,ys,j,b,rfl,hdj,SqL.of k3',hb1,?_⟩;refine j20 r1.X30 st1 e4 (po.ers r1) λl2 z2 e5=>?_;obtain⟨dx,hx',e6⟩:=M.a20 e5;obtain⟨s2,rfl,hs2⟩:=f30 hx';refine⟨s2,rfl,λu2 H2 x2 st2 rv2=>?_⟩;obtain⟨nv,hv,e7⟩:=M.a20 e6;obtain⟨xi,hxi,hv⟩:=Ñ.mp hv;obtain⟨yi,hyi,rfl⟩:=Ì.mp hv;cases f42 hxi;cases f42 hyi;refine⟨yi,xi,hb2.j00,(O41 rv2 hs2).j00,?_⟩;obtain⟨xs2,hx2,e8⟩:=M.a20 e7;cases e8;unfold G90 at hx2;obtain⟨m,hm1,rfl⟩:=Ì.mp hx2;have r2:=r1.mono x2;have k4':HdA X.K (hw ow (hz zA H2)) xs ys:=k4.same (d40 (x1.trans x2));refine⟨a,ys,j,m,rfl,hdj,x2.at k3' (rw.zne i a k2),by rw[k4.length];exact hm1,?_⟩
 exact po zA ow σ _ (r2.upd k2 (k4'.set m Hd.int)) (st2.a60 (rw.zne i a k2) (x2.at k3' (rw.zne i a k2))) (a30.trans (d40 (x1.trans x2)) (z51 k2))
theorem u82(x:XS lm X G E N sc cn){i f:Nat}{as:Ex}{y:Str}{v:Ï}{px pos:Pos}(hi:N[i]?=some y)(hl:T60 sc y=true)(g:b10 X G E (.call f as) v)(hv:T40 v=true) :
  PS X (.Assign [.Name y px] v pos) (tX X.K G E H0 zE (.newz i f as)):=by
 have L:=x.loc;refine PS.imp (y10 (i:=i) (by rw[x.hN];exact x.nd) (by rw[x.hN];exact hi) (L.lc y hl) g.pe (A90 hv _) (L.fn y hl)) λD σ H q=>?_
 obtain⟨zA,ow,ρ,z,rr,rw,st,ee,po⟩:=q;refine j20 rw.X30 st ee (po.ers rw) λl z1 e1=>?_;have e2:v71 zE.isNone ρ i l=some rr:=e1;unfold v71 at e2;split at e2
 ·split at e2
  ·rename_i m b hz';cases e2;have zn:zE=none:=by
    cases zE with
    |none=>rfl|some _=>cases hz'
   subst zn;refine⟨_,rfl,λu H1 x1 st1 rv=>?_⟩;obtain⟨a,ys,rfl,k1,k2,k3,k4⟩:=rv;obtain⟨v1,v2,rfl,h3,h4⟩:=k4.two;cases h3.j00;cases h4.bl_;obtain⟨r1,sm⟩:=rw.V62 (i:=i) x1 k1 k2 k3;exact po (some a) _ _ H1 r1 ⟨k3,st1.tab⟩ sm
  ·cases e2
 ·cases e2
theorem u92(x:XS lm X G E N sc cn){i:Nat}{n:Str}{e:Ex}{v:Ï}{c:Nat}{p q tp pos:Pos}(h1:N[i]?=some n)(h2:d80 n=true)(g:b10 X G E e v) :
  PS X (.Assign [.Subscript (.Name n p) (.Constant (.int 0) c q) tp] v pos) (tX X.K G E H0 zE (.zset i e)):=by
 unfold d80 at h2;simp only[Á,À3] at h2;refine PS.imp (R71 g.pe (l92 (t60 (i:=i) (by rw[x.hN];exact h1) (x.vis n (í h1)) h2.1 h2.2) P10 set_list (by intro u;rfl)) (show Ô8 v (some (.Subscript (.Name n p) (.Constant (.int 0) c q) tp)) pos.line X.env=pure false from T50 rfl) (by cases v <;> rfl)) λD σ H q=>?_
 obtain⟨zA,ow,ρ,z,rr,rw,st,ee,po⟩:=q;refine j20 rw.X30 st ee (po.ers rw) λl z1 e1=>?_;obtain⟨y,hy,e2⟩:=M.a20 e1;obtain⟨dy,hy1,hy2⟩:=Ñ.mp hy;obtain⟨s,rfl,hs⟩:=f30 hy1;refine⟨s,rfl,λu H1 x1 st1 rv=>?_⟩;have e3:v81 ρ y ρ[i]? z1=some rr:=e2;unfold v81 at e3;split at e3
 ·rename_i p' hsl;cases e3;have r1:=rw.mono x1;obtain⟨w,k1,k2,a,rfl,rfl⟩:=r1.wor i .z hsl;have hu:u=.int y:=by
   have:=O41 rv hs;cases dy <;> first | (cases hy2;exact this.j00) | (cases hy2;done)
  subst hu;have st':H1 a=some (.lst [.int p'.1,.bl p'.2]):=st1.zat;refine⟨_,k1,a,[.int p'.1,.bl p'.2],0,0,rfl,rfl,st',rfl,?_⟩;have x2:Ext (some a) H1 (upd H1 a (.lst [.int y,.bl p'.2])):=by
   refine⟨λb o h=>?_,λb ps h=>⟨ps,by rw[a60 (λz=>by rw[z,st'] at h;cases h)];exact h⟩⟩
   obtain⟨h3,h4⟩:=r10 h;exact d30 (by rw[a60 (λz=>h4 (by rw[z]))];exact h3) h4 (r60 h)
  exact po (some a) ow σ _ (r1.mono x2) ⟨b20,λp hp=>Tab.upd (st1.tab p hp) st'⟩ (a30.trans (d40 x1.same) (d40 x2.same))
 ·cases e3
theorem K02(x:XS lm X G E N sc cn){c:Ex}{b:Sm}{ce:Ï}{body:List Ä8}{pos:Pos}(g:b10 X G E c ce)(hn:∀ t a b p,ce≠.IfExp t a b p)(hb:PSs X body (tX X.K G E H0 zE b)):PS X (.While ce body [] pos) (tX X.K G E H0 zE (.whl c b)):=by
 refine PS.imp (G91 x.own (g.pt hn) hb) λD σ H q=>?_;obtain⟨zA,ow,ρ,z,rr,rw,st,ee,po⟩:=q;refine⟨λm σ H=>∃ zA ow ρ z r,RW X.K H0 zE zA ow H ρ σ/\d60 zA z H/\T21 (ev G.F c) (ex G.F zE.isNone b) m ρ z=some r/\s40 X.K G E H0 zE (hw ow (hz zA H)) D r,⟨j72,zA,ow,ρ,z,rr,rw,st,ee,po⟩,?_⟩;rintro m σ H ⟨zA,ow,ρ,z,rr,rw,st,ee,po⟩;cases m with
 |zero=>cases ee
 |succ m =>
  refine S70 rw.X30 st ee (po.ers rw) λk z1 e1 H1 x1 st1=>?_;have r1:=rw.mono x1;have sm:a30 (hw ow (hz zA H)) (hw ow (hz zA H1)):=d40 x1;cases k with
  |false =>
   cases e1;exact po zA ow σ H1 r1 st1 sm
  |true =>
   rw[if_pos rfl];have e2:M.bind (ex G.F zE.isNone b ρ) (λo=>match o with | .nx ρ=>T21 (ev G.F c) (ex G.F zE.isNone b) m ρ | .rt s=>M.ret (.rt s)) z1=some rr:=e1
   refine⟨λσ' H'=>∃ zA ow ρ z r,RW X.K H0 zE zA ow H' ρ σ'/\d60 zA z H'/\T21 (ev G.F c) (ex G.F zE.isNone b) m ρ z=some r/\s40 X.K G E H0 zE (hw ow (hz zA H')) D r,λσ' H' h=>⟨m,Ì2 m,h⟩,?_⟩;rcases M.bind_some e2 with ⟨o,z2,e3,e4⟩ | ⟨k,z2,e3,e4⟩
   ·refine⟨zA,ow,ρ,z1,_,r1,st1,e3,?_⟩;cases o with
    |nx ρ1=>exact λzA' ow' σ' H' rw' st' sm'=>⟨zA',ow',ρ1,z2,rr,rw',st',e4,po.mono (a30.trans sm sm')⟩|rt s=>cases e4;exact po
   ·subst e4;exact⟨zA,ow,ρ,z1,_,r1,st1,e3,po⟩
def K12(K:Â)(i:Nat):TI:=λσ H R=>∃ a,σ[i]?=some (some (.ref a))/\((∃ ys,SqT K H a ys)/\R (Itt K a) H∨(∃ ys,SqL K H a ys)/\R (Itl K a) H)
theorem v02(x:XI lm X G E N sc){tg:Ï}{i:Nat}{n:Str}{pos:Pos}(h1:N[i]?=some n)(h2:d80 n=true):PI X tg (.Name n pos) (K12 X.K i):=by
 unfold d80 at h2;simp only[Á,À3] at h2;have hv:PE X (.Name n pos) (A72 i):=t60 (i:=i) (by rw[x.hN];exact h1) (x.vis n (í h1)) h2.1 h2.2
 intro pins s σ H R I q;obtain⟨a,k,q | q⟩:=q
 ·exact R81 hv pins s σ H R I ⟨_,k,a,rfl,q.1,q.2⟩
 ·exact X60 hv pins s σ H R I ⟨_,k,a,rfl,q.1,q.2⟩
def fBody(F:FT)(tp:Bool)(p:Pat)(b:Sm):D->Env->M O:=λx ρ=>M.bind (M.of (e60 p x ρ)) λρ=>ex F tp b ρ
theorem E30:∀ {l:List D}{d:D},n80 l=true->d∈l->bare d=true
 |x::r,d,h,hd=>by
  simp only[n80,Á] at h;rcases ú.mp hd with rfl | hd
  ·exact h.1
  ·exact E30 h.2 hd
theorem g71{p:Pat}{b:Sm}{J:L2.It}{xs:List D}{B:Hp}{D:Ends}{σ:L2.St}{H:Hp}{zA:Option Ç}{ow:Nat->Option Ç}{ρ:Env}{z:Z}{rr:R O}(IT:ItB X.K J xs B)
  (rw:RW X.K H0 zE zA ow H ρ σ) (st:d60 zA z H) (sm:a30 B (hw ow (hz zA H))) (ee:X10 (fBody G.F zE.isNone p b) xs ρ z=some rr) (po:s40 X.K G E H0 zE (hw ow (hz zA H)) D rr) :
  ∃ W:Nat->Nat->L2.St->Hp->Prop,(∃ m,W 0 m σ H)/\∀ i m σ H,W i m σ H ->
   (J.stop i H/\D.nx σ H)∨(J.go i H/\∃ Nn:L2.St->Hp->Prop,(∀ σ' H',Nn σ' H'->∃ m',m' < m/\W (i + 1) m' σ' H')/\∀ x H',J.yld i H x H'->gP X.K p x σ H' λσ2 H2=>tX X.K G E H0 zE b { D with nx:=Nn,ct:=Nn,bk:=D.nx } σ2 H2):=by
 refine⟨λi m σ H=>m=xs.length - i/\i<=xs.length/\∃ zA ow ρ z r,RW X.K H0 zE zA ow H ρ σ/\d60 zA z H/\a30 B (hw ow (hz zA H))/\X10 (fBody G.F zE.isNone p b) (xs.drop i) ρ z=some r/\s40 X.K G E H0 zE (hw ow (hz zA H)) D r,
  ⟨xs.length,by simp,Æ6 _,zA,ow,ρ,z,rr,rw,st,sm,by simpa using ee,po⟩,?_⟩
 rintro i m σ H ⟨rfl,hi,zA,ow,ρ,z,rr,rw,st,sm,ee,po⟩;have sH:a30 B H:=a30.trans sm (a30.trans k30 (a10 zA H));by_cases hlt:i < xs.length
 ·refine .inr ⟨IT.go i H sH hlt,λσ' H'=>∃ zA ow ρ z r,RW X.K H0 zE zA ow H' ρ σ'/\d60 zA z H'/\a30 B (hw ow (hz zA H'))/\X10 (fBody G.F zE.isNone p b) (xs.drop (i + 1)) ρ z=some r/\s40 X.K G E H0 zE (hw ow (hz zA H')) D r,
   λσ' H' h=>⟨xs.length - (i + 1),by omega,rfl,hlt,h⟩,λx H' y=>?_⟩
  have hd0:xs[i]?=some xs[i]:=æ hlt;obtain⟨s1,hd⟩:=IT.yld i H x H' zA z _ (a30.trans sm k30) st y hd0;rw[ß2 hlt] at ee;have e0:M.bind (fBody G.F zE.isNone p b xs[i] ρ) (λo=>match o with | .nx ρ=>X10 (fBody G.F zE.isNone p b) (xs.drop (i + 1)) ρ | .rt s=>M.ret (.rt s)) z=some rr:=ee
  have r1:=rw.mono (Ext.of s1);have st1:=st.same s1;have sm1:a30 (hw ow (hz zA H)) (hw ow (hz zA H')):=d40 (k20 s1);have hd1:=hd (hw ow (hz zA H')) (a30.trans sm sm1) λ_ _ q=>z31 q r1.f02;have fin:∀ {ρ1:Env}{o:O}{z1:Z},e60 p xs[i] ρ=some ρ1->ex G.F zE.isNone b ρ1 z=some (.ok o z1)->(match o with | .nx ρ=>X10 (fBody G.F zE.isNone p b) (xs.drop (i + 1)) ρ | .rt s=>M.ret (.rt s)) z1=some rr->gP X.K p x σ H' λσ2 H2=>tX X.K G E H0 zE b { D with nx:=λσ' H'=>∃ zA ow ρ z r,RW X.K H0 zE zA ow H' ρ σ'/\d60 zA z H'/\a30 B (hw ow (hz zA H'))/\X10 (fBody G.F zE.isNone p b) (xs.drop (i + 1)) ρ z=some r/\s40 X.K G E H0 zE (hw ow (hz zA H')) D r,ct:=λσ' H'=>∃ zA ow ρ z r,RW X.K H0 zE zA ow H' ρ σ'/\d60 zA z H'/\a30 B (hw ow (hz zA H'))/\X10 (fBody G.F zE.isNone p b) (xs.drop (i + 1)) ρ z=some r/\s40 X.K G E H0 zE (hw ow (hz zA H')) D r,bk:=D.nx } σ2 H2:=λ{ρ1 o z1} hbp e1 e2=>by
   refine O01 hbp r1 hd1 λow' σ' r2 sm2=>⟨zA,ow',ρ1,z,_,r2,st1,e1,?_⟩;cases o with
   |nx ρ2=>exact λzA3 ow3 σ3 H3 r3 st3 sm3=>⟨zA3,ow3,ρ2,z1,rr,r3,st3,a30.trans sm (a30.trans sm1 (a30.trans sm2 sm3)),e2,po.mono (a30.trans sm1 (a30.trans sm2 sm3))⟩|rt s=>cases e2;exact po
  rcases M.bind_some e0 with ⟨o,z1,e1,e2⟩ | ⟨c,z1,e1,e2⟩
  ·obtain⟨ρ1,hbp,e3⟩:=M.a20 e1;exact fin hbp e3 e2
  ·subst e2;obtain⟨ρ1,hbp,e3⟩:=M.a20 e1;exact O01 hbp r1 hd1 λow' σ' r2 sm2=>⟨zA,ow',ρ1,z,_,r2,st1,e3,po⟩
 ·have e:i=xs.length:=by omega
  subst e;rw[drop_length] at ee;cases ee;exact .inl ⟨IT.stop H sH,po zA ow σ H rw st (a30.refl _)⟩
theorem v12(x:XS lm X G E N sc cn){p:Pat}{i:Nat}{n:Str}{b:Sm}{tg:Ï}{body:List Ä8}{np pos:Pos}(hp:j30 N (T60 sc) p tg=true)(h1:N[i]?=some n)(h2:d80 n=true)(hb:PSs X body (tX X.K G E H0 zE b)) :
  PS X (.For tg (.Name n np) body [] pos) (tX X.K G E H0 zE (.fr p .seq (.cons (.var i) .nil) b)):=by
 refine PS.imp (R91 x.own x.calm (v02 x.toXI h1 h2) (x81 x.loc hp) hb (λ_=>rfl)) λD σ H q=>?_;obtain⟨zA,ow,ρ,z,rr,rw,st,ee,po⟩:=q;have e0:M.bind (M.bind (match ρ[i]? with | some (some s)=>M.ret [plS s] | _=>M.no) λx=>M.bind (M.of (one x)) λs=>M.bind (ev G.F .nil ρ) λy=>M.ret (s::y)) (λl=>M.bind (M.of ((plA l).bind (itD .seq))) λxs=>X10 (fBody G.F zE.isNone p b) xs (v61 .seq (.cons (.var i) .nil) l ρ)) z=some rr:=ee
 cases hs:ρ[i]? with
 |none=>rw[hs] at e0;cases e0
 |some o =>
  cases o with
  |none=>rw[hs] at e0;cases e0
  |some s =>
   rw[hs] at e0;have e1:M.bind (M.of ((plA [plS s]).bind (itD .seq))) (λxs=>X10 (fBody G.F zE.isNone p b) xs ((ρ.set i ((ρ[i]?.getD none).map plS)).map (L30 (S10 [plS s])))) z=some rr:=e0;obtain⟨xs,hx,e2⟩:=M.a20 e1;have r1:=rw.plain i;have sm:=A80 (H:=hz zA H) ow i;have hi:i < ρ.length:=(ß.mp hs).1;have hsl:(ρ.set i ((ρ[i]?.getD none).map plS))[i]?=some (some (plS s)):=by rw[ñ hi,hs];rfl
   obtain⟨w,k1,k2⟩:=r1.wor i _ hsl;obtain⟨ds,h3,h4⟩:=Ñ.mp hx;obtain⟨d,rfl,h5⟩:=y31 h3;have hd:Hd X.K (hw (ow0 ow i) (hz zA H)) d w:=by
    cases s with
    |d y=>cases h5;exact k2.2
    |fr ys=>cases h5;exact k2.2
    |z=>cases h5
   obtain⟨ow',r2,sm2⟩:∃ ow',RW X.K H0 zE zA ow' H ((ρ.set i ((ρ[i]?.getD none).map plS)).map (L30 (S10 [plS s]))) σ/\a30 (hw (ow0 ow i) (hz zA H)) (hw ow' (hz zA H)):=by
    rw[R90];cases S10 [plS s] with
    |true=>exact⟨_,r1,a30.refl _⟩|false=>exact⟨_,r1.Z30,E20 _⟩
   cases d with
   |tup l =>
    cases h4;obtain⟨a,ys,rfl,m1,m2⟩:=hd.A00;exact⟨a,k1,.inl ⟨⟨ys,(a10 zA H).sqT (a30.sqT k30 m1)⟩,g71 (y01 m1 m2) r2 st sm2 e2 (po.mono (a30.trans sm sm2))⟩⟩
   |lst l =>
    cases h4;obtain⟨a,ys,rfl,m1,m2⟩:=hd.X20;exact⟨a,k1,.inr ⟨⟨ys,((m1.same k30).same (a10 zA H)).sq⟩,g71 (g11 m1 m2) r2 st sm2 e2 (po.mono (a30.trans sm sm2))⟩⟩
   |_=>cases h4
theorem K22(x:XS lm X G E N sc cn){p:Pat}{it:It}{src:Ex}{b:Sm}{tg Ä0:Ï}{body:List Ä8}{pos:Pos}(hp:j30 N (T60 sc) p tg=true)(hi:PI X tg Ä0 (tIt X.K G E it src))(hns:A10 Ä0=true)(hv:b82 it src=none)(hb:PSs X body (tX X.K G E H0 zE b)) :
  PS X (.For tg Ä0 body [] pos) (tX X.K G E H0 zE (.fr p it src b)):=by
 refine PS.imp (R91 x.own x.calm hi (x81 x.loc hp) hb (z11 hns X.env)) λD σ H q=>?_;obtain⟨zA,ow,ρ,z,rr,rw,st,ee,po⟩:=q;have e0:M.bind (ev G.F src ρ) (λl=>M.bind (M.of ((plA l).bind (itD it))) λxs=>X10 (fBody G.F zE.isNone p b) xs ((S20 it src l ρ).map (L30 (S10 l)))) z=some rr:=ee;rcases M.bind_some e0 with ⟨l,z1,e1,e2⟩ | ⟨c,z1,e1,e2⟩
 ·obtain⟨xs,hx,e3⟩:=M.a20 e2;refine⟨zA,ρ,z,_,rw.X30,st,e1,xs,hx,λJ H1 x1 st1 IT=>?_⟩;have r1:=rw.mono x1;have frz:X10 (fBody G.F zE.isNone p b) xs (Z30 ρ) z1=some rr->_:=λe3=>g71 (G:=G) (E:=E) (D:=D) (IT (λ_=>True) (hz zA H1) (a30.refl _) (λ_ _ q=>q) (λ_ _ _ q=>q) (λds hds d hd=>by cases d <;> first | trivial | exact λ_ _=>trivial) λ_ _ q _=>q) r1.Z30 st1 (by rw[x10];exact a30.refl _) e3 (po.mono (a30.trans (d40 x1) (E20 ow)))
  rw[R90] at e3;have he:S20 it src l ρ=match m61 l with | true=>Z30 ρ | false=>ρ:=by
   unfold S20;rw[hv] <;> cases m61 l <;> rfl
  have tt:Z30 (Z30 ρ)=Z30 ρ:=by
   unfold Z30;rw[î];refine Ã5 λo _=>?_
   match o with
   |none=>rfl|some (.d _)=>rfl|some (.fr _)=>rfl|some .z=>rfl
  cases hl:m61 l with
  |true =>
   rw[hl] at he;rw[he] at e3;dsimp only at e3;rw[tt,ite_self] at e3;exact frz e3
  |false =>
   rw[hl] at he;rw[he] at e3;dsimp only at e3;split at e3
   ·rename_i hbb;refine g71 (IT (λy=>bare y=true) (hw ow (hz zA H1)) k30 (λa ys q=>z31 q r1.f02) (λd v hd q=>M40 r1.f02 hd q) (λds hds d hd=>?_) λa ys q hor=>?_) r1 st1 (a30.refl _) e3 (po.mono (d40 x1))
    ·have h:=hbb;unfold S10 at h;rw[hds] at h;have:=Õ.mp h d hd;cases d with
     |tup m=>exact λy hy=>E30 this hy|lst m=>exact λy hy=>E30 this hy|_=>trivial
    ·rcases hor with ⟨hn,hm1⟩ | hm
     ·refine q40.of (i40 (d30 hm1 (st.v91 hn)) λj w=>?_);obtain⟨zs,k⟩:=rw.lst j a w;rw[hn] at k;cases k
     ·rw[hl] at hm;cases hm
   ·exact frz e3
 ·subst e2;exact⟨zA,ρ,z,_,rw.X30,st,e1,po.er_ rw⟩
end
def isQ:Sm->Bool
 |.nil=>true|.seq _ _=>true|_=>false
def f72:Ï->Bool
 |.IfExp ..=>false|_=>true
def V72:Ï->Bool
 |.SetComp ..=>false|.DictComp ..=>false|_=>true
def mtI(lm:Bool)(fns:List (Str × List Str))(nums:List (Str × Int))(it:It)(src:Ex)(sc:ý)(N:List Str)(tg Ä0:Ï):Bool:=match it with
 |.seq=>mt lm fns nums src sc N [Ä0]|.rng1=>opt (j92 Ä0) λr=>r.1.1 == ("range":Str)&&glob sc r.1.1&&mt lm fns nums src sc N [r.1.2.2.1]|.rng2=>opt (k02 Ä0) λr=>r.1.1 == ("range":Str)&&glob sc r.1.1&&mt lm fns nums src sc N [r.1.2.2.1,r.1.2.2.2.1]|.zip=>opt (k02 Ä0) λr=>r.1.1 == ("zip":Str)&&glob sc r.1.1&&k90 tg&&mt lm fns nums src sc N [r.1.2.2.1,r.1.2.2.2.1]|.enum=>opt (j92 Ä0) λr=>r.1.1 == ("enumerate":Str)&&glob sc r.1.1&&k90 tg&&mt lm fns nums src sc N [r.1.2.2.1]
def V82:(p:Pat)->Option {q:Nat × Nat // p=.tup (.cons (.v q.1) (.cons (.v q.2) .nil))}
 |.tup (.cons (.v i) (.cons (.v j) .nil))=>some ⟨(i,j),rfl⟩|_=>none
def V92:(e:Ex)->Option {q:Ex × Ex // e=.tup (.cons q.1 (.cons q.2 .nil))}
 |.tup (.cons a (.cons b .nil))=>some ⟨(a,b),rfl⟩|_=>none
def W02:(e:Ï)->Option {q:Ï × Ï × Nat × Pos // e=.Tuple [q.1,q.2.1] q.2.2.1 q.2.2.2}
 |.Tuple [a,b] k p=>some ⟨(a,b,k,p),rfl⟩|_=>none
def W12(sc:ý)(p:Pat)(e:Ex)(tg v:Ï):Bool:=opt (V82 p) λ_=>opt (V92 e) λ_=>opt (O12 tg) λt=>opt (W02 v) λu =>
  !(t.1.1 == t.1.2.2.1)&&sc.names.lookup t.1.1 == some .local&&sc.names.lookup t.1.2.2.1 == some .local&&t.1.2.2.2.1.line == t.1.2.1.line&&noStar u.1.1&&noStar u.1.2.1&&!([u.1.1,u.1.2.1].all (Û6 8))&&!([u.1.1,u.1.2.1].all (constantsAlone 8))
def isNm:Ï->Bool
 |.Name ..=>true|_=>false
def setB(sc:ý)(p:Pat)(e:Ex)(tg v:Ï):Bool :=
 if isNm tg then V72 v else if k90 tg then(if k90 v then(match v with | .Tuple vs _ _=>vs.all (Û6 8) | _=>false) || (match tg with | .Tuple ts _ _=>ts.any (z81 λy=>sc.names.lookup y) | _=>false) || W12 sc p e tg v else true) else false
def f82:(e:List Ä8)->Option {q:Ï × Ï × Pos // e=[.Assign [q.1] q.2.1 q.2.2]}
 |[.Assign [tg] v p]=>some ⟨(tg,v,p),rfl⟩|_=>none
def K32:(e:List Ä8)->Option {q:Option Ï × Pos // e=[.Return q.1 q.2]}
 |[.Return v p]=>some ⟨(v,p),rfl⟩|_=>none
def W22:(e:List Ä8)->Option {q:Ï × List Ä8 × List Ä8 × Pos // e=[.If q.1 q.2.1 q.2.2.1 q.2.2.2]}
 |[.If c a b p]=>some ⟨(c,a,b,p),rfl⟩|_=>none
def K42:(e:List Ä8)->Option {q:Ï × Ï × List Ä8 × Pos // e=[.For q.1 q.2.1 q.2.2.1 [] q.2.2.2]}
 |[.For tg Ä0 body [] p]=>some ⟨(tg,Ä0,body,p),rfl⟩|_=>none
def K52:(e:List Ä8)->Option {q:Ï × List Ä8 × Pos // e=[.While q.1 q.2.1 [] q.2.2]}
 |[.While c body [] p]=>some ⟨(c,body,p),rfl⟩|_=>none
def v22:(e:List Ä8)->Option {q:Ï × Pos // e=[.Raise (some q.1) none q.2]}
 |[.Raise (some x) none p]=>some ⟨(x,p),rfl⟩|_=>none
def v32:(e:List Ä8)->Option {q:Ï × Pos // e=[.Expr q.1 q.2]}
 |[.Expr v p]=>some ⟨(v,p),rfl⟩|_=>none
def K62:(e:Ï)->Option {q:Str × Pos × Str × Nat × Pos × Pos // e=.Call (.Name q.1 q.2.1) [.Constant (.str q.2.2.1) q.2.2.2.1 q.2.2.2.2.1] [] q.2.2.2.2.2}
 |.Call (.Name n p1) [.Constant (.str y) k p2] [] p3=>some ⟨(n,p1,y,k,p2,p3),rfl⟩|_=>none
def K72:(e:Ï)->Option {q:Str × Pos × Str × Pos × Ï × Pos // e=.Call (.Attribute (.Name q.1 q.2.1) q.2.2.1 q.2.2.2.1) [q.2.2.2.2.1] [] q.2.2.2.2.2}
 |.Call (.Attribute (.Name n p) a ap) [v] [] cp=>some ⟨(n,p,a,ap,v,cp),rfl⟩|_=>none
def W32:(e:Ï)->Option {q:Str × Pos × Nat × Pos × Pos // e=.Subscript (.Name q.1 q.2.1) (.Constant (.int 0) q.2.2.1 q.2.2.2.1) q.2.2.2.2}
 |.Subscript (.Name n p) (.Constant (.int 0) c q1) tp=>some ⟨(n,p,c,q1,tp),rfl⟩|_=>none
def W42:(e:Ï)->Option {q:Str × Pos × Ï × Pos // e=.Subscript (.Name q.1 q.2.1) q.2.2.1 q.2.2.2}
 |.Subscript (.Name n p) w tp=>some ⟨(n,p,w,tp),rfl⟩|_=>none
def W52:(e:Ï)->Option {q:Str × Pos // e=.Name q.1 q.2}
 |.Name n p=>some ⟨(n,p),rfl⟩|_=>none
def v42:(e:List Ä8)->Option {q:Str × Pos × Ï × Pos × Ï × Pos // e=[.AugAssign (.Subscript (.Name q.1 q.2.1) q.2.2.1 q.2.2.2.1) .Add q.2.2.2.2.1 q.2.2.2.2.2]}
 |[.AugAssign (.Subscript (.Name n p) w tp) .Add v pos]=>some ⟨(n,p,w,tp,v,pos),rfl⟩|_=>none
def O61:Ex->Bool
 |.con .non=>true|_=>false
def mtS(lm:Bool)(fns:List (Str × List Str))(nums:List (Str × Int))(cn:List Str)(sc:ý)(N:List Str):Sm->List Ä8->Bool
 |.nil,ss=>ss.isEmpty|.seq s r,ss=>opt ss.head? λst=>!isQ s&&isQ r&&mtS lm fns nums cn sc N s [st]&&mtS lm fns nums cn sc N r ss.tail|.set p e,ss=>opt (f82 ss) λq=>!isL e&&j30 N (T60 sc) p q.1.1&&mt lm fns nums e sc N [q.1.2.1]&&setB sc p e q.1.1 q.1.2.1
 |.ret e,ss=>opt (K32 ss) λq=>match q.1.1 with
  |some v=>!isL e&&mt lm fns nums e sc N [v]|none=>O61 e
 |.iff c t u,ss=>opt (W22 ss) λq=>!isL c&&f72 q.1.1&&isQ t&&isQ u&&mt lm fns nums c sc N [q.1.1]&&mtS lm fns nums cn sc N t q.1.2.1&&mtS lm fns nums cn sc N u q.1.2.2.1|.fr p it src b,ss=>opt (K42 ss) λq=>j30 N (T60 sc) p q.1.1&&isL src&&A10 q.1.2.1&&isQ b&&mtI lm fns nums it src sc N q.1.1 q.1.2.1&&mtS lm fns nums cn sc N b q.1.2.2.1|.whl c b,ss=>opt (K52 ss) λq=>!isL c&&f72 q.1.1&&isQ b&&mt lm fns nums c sc N [q.1.1]&&mtS lm fns nums cn sc N b q.1.2.1|.rais c,ss=>opt (v22 ss) λq=>opt (K62 q.1.1) λr=>cn[c]? == some r.1.1&&glob sc r.1.1|.exp e,ss=>opt (v32 ss) λq=>T40 q.1.1&&!isL e&&mt lm fns nums e sc N [q.1.1]|.app i e,ss=>opt (v32 ss) λq=>opt (K72 q.1.1) λr=>r.1.2.2.1 == ("append":Str)&&N[i]? == some r.1.1&&d80 r.1.1&&noStar r.1.2.2.2.2.1&&!isL e&&r.1.2.2.2.1.endLine == r.1.2.2.2.2.2.line&&mt lm fns nums e sc N [r.1.2.2.2.2.1]|.newz i f as,ss=>opt (f82 ss) λq=>opt (W52 q.1.1) λr=>N[i]? == some r.1.1&&T60 sc r.1.1&&T40 q.1.2.1&&mt lm fns nums (.call f as) sc N [q.1.2.1]|.zset i e,ss=>opt (f82 ss) λq=>opt (W32 q.1.1) λr=>N[i]? == some r.1.1&&d80 r.1.1&&!isL e&&mt lm fns nums e sc N [q.1.2.1]|.augi i ix e,ss=>opt (v42 ss) λq=>N[i]? == some q.1.1&&d80 q.1.1&&D90 q.1.2.2.1&&!isL e&&!isL ix&&mt lm fns nums e sc N [q.1.2.2.2.2.1]&&mt lm fns nums ix sc N [q.1.2.2.1]
section
variable {lm:Bool}{X:Cx}{G:Gs}{E:XK}{N:List Str}{sc:ý}{cn:List Str}{H0:Hp}{zE:Option Ç}
theorem K82(x:XI lm X G E N sc){it:It}{src:Ex}{tg Ä0:Ï}(hL:isL src=true)(h:mtI lm G.fns G.nums it src sc N tg Ä0=true):PI X tg Ä0 (tIt X.K G E it src):=by
 cases it with
 |seq =>
  obtain⟨a,rfl,ga⟩:=z21 hL (sound G src x h);exact U31 ga
 |rng1 =>
  obtain⟨⟨⟨n,_,a,_⟩,rfl⟩,-,h⟩:=a70 h;simp only[Á,beq_iff_eq] at h;exact y41 x h.1.1 h.1.2 hL (sound G src x h.2)
 |rng2 =>
  obtain⟨⟨⟨n,_,a,b,_⟩,rfl⟩,-,h⟩:=a70 h;simp only[Á,beq_iff_eq] at h;exact y51 x h.1.1 h.1.2 hL (sound G src x h.2)
 |zip =>
  obtain⟨⟨⟨n,_,a,b,_⟩,rfl⟩,-,h⟩:=a70 h;simp only[Á,beq_iff_eq] at h;exact y81 x h.1.2 h.1.1.1 h.1.1.2 hL (sound G src x h.2)
 |enum =>
  obtain⟨⟨⟨n,_,a,_⟩,rfl⟩,-,h⟩:=a70 h;simp only[Á,beq_iff_eq] at h;exact g41 x h.1.2 h.1.1.1 h.1.1.2 hL (sound G src x h.2)
theorem g81(h:f72 e=true):∀ t a b p,e≠.IfExp t a b p:=by
 intro t a b p he;subst he;cases h
def GS(X:Cx)(G:Gs)(E:XK)(H0:Hp)(zE:Option Ç)(s:Sm)(ss:List Ä8):Prop:=(isQ s=true->PSs X ss (tX X.K G E H0 zE s))/\(isQ s=false->∃ st,ss=[st]/\PS X st (tX X.K G E H0 zE s))
theorem o80{s:Sm}{st:Ä8}(hq:isQ s=false)(h:PS X st (tX X.K G E H0 zE s)):GS X G E H0 zE s [st]:=⟨λk=>(by rw[hq] at k;cases k),λ_=>⟨st,rfl,h⟩⟩
theorem f92{x:XI lm X G E N sc}{e:Ex}{elt:Ï}{gs:List Comprehension}{csc:ý}{q:Pos}(h:mt lm G.fns G.nums e sc N [.ListComp elt gs csc q]=true)(hL:isL e=false):∃ tg Ä0 ifs,gs=[⟨tg,Ä0,ifs,0⟩]/\H30 X G E e elt tg Ä0 ifs csc:=by
 cases e with
 |comp own capt p it src cond el =>
  match gs,h with
  |[⟨tg,Ä0,ifs,0⟩],h=>exact⟨tg,Ä0,ifs,rfl,T30 (λx _=>sound G src x) (λx _=>sound G cond x) (λx _=>sound G el x) x h⟩
 |nil=>cases hL
 |cons _ _=>cases hL
 |bf f as=>cases f <;> cases h
 |_=>cases h
theorem g02(h:isNm e=true):∃ y p,e=.Name y p:=by
 cases e <;> first | exact⟨_,_,rfl⟩ | cases h
theorem u80(h:k90 e=true):∃ ts k p,e=.Tuple ts k p:=by
 cases e <;> first | exact⟨_,_,_,rfl⟩ | cases h
theorem K92(x:XS lm X G E N sc cn){p:Pat}{e:Ex}{tg v:Ï}{pos:Pos}(h1:(!isL e)=true)(h2:j30 N (T60 sc) p tg=true)(h3:mt lm G.fns G.nums e sc N [v]=true)(h4:setB sc p e tg v=true):PS X (.Assign [tg] v pos) (tX X.K G E H0 zE (.set p e)):=by
 have g:=a90 (b70 h1) (sound G e x.toXI h3);unfold setB at h4;split at h4
 ·rename_i hn;obtain⟨y,px,rfl⟩:=g02 hn;cases p with
  |v i =>
   unfold j30 at h2;rw[Á,beq_iff_eq] at h2;refine J52 x h2.1 h2.2 g (λelt gs csc q hv=>?_) (λa b c d hv=>?_) (λa b c d f hv=>?_)
   ·subst hv;exact f92 (x:=x.toXI) h3 (b70 h1)
   ·subst hv;cases h4
   ·subst hv;cases h4
  |tup _=>unfold j30 at h2;cases h2
  |nil=>unfold j30 at h2;cases h2
  |cons _ _=>unfold j30 at h2;cases h2
 ·split at h4
  ·rename_i ht;split at h4
   ·rename_i hv;rw[Å6,Å6] at h4;rcases h4 with (h4 | h4) | h4
    ·obtain⟨ts,k,tp,rfl⟩:=u80 ht;obtain⟨vs,k',vp,rfl⟩:=u80 hv;exact z91 x h2 g rfl (f22 h4)
    ·obtain⟨ts,k,tp,rfl⟩:=u80 ht;obtain⟨vs,k',vp,rfl⟩:=u80 hv;refine z91 x h2 g rfl (f32 ?_);have e:X.env.kindOf=λy=>sc.names.lookup y:=by funext y;unfold Env.kindOf;rw[x.sco]
     rw[e];exact h4
    ·clear g h1 ht hv;obtain⟨⟨⟨i,j⟩,rfl⟩,-,h4⟩:=a70 h4;obtain⟨⟨⟨ea,eb⟩,rfl⟩,-,h4⟩:=a70 h4;obtain⟨⟨⟨y,px,w,py,kt,tp⟩,rfl⟩,-,h4⟩:=a70 h4;obtain⟨⟨⟨a,b,kv,vp⟩,rfl⟩,-,h4⟩:=a70 h4;simp only[Á,À3,beq_iff_eq] at h4;obtain⟨⟨⟨⟨⟨⟨⟨k1,k2⟩,k3⟩,k4⟩,k5⟩,k6⟩,k7⟩,k8⟩:=h4;unfold j30 at h2;simp only[n11,j30,Á,beq_iff_eq] at h2;obtain⟨⟨_,h21,_⟩,⟨_,h22,_⟩,_⟩:=h2;have h3':(isL (.cons ea (.cons eb .nil))&&mt lm G.fns G.nums (.cons ea (.cons eb .nil)) sc N [a,b])=true:=h3;rw[Á] at h3';have ga:Good X G E (.cons ea (.cons eb .nil)) [a,b]:=sound G (.cons ea (.cons eb .nil)) x.toXI h3'.2;refine J62 x h21 h22 (by simpa using k1) k2 k3 ga (u52 x.bk ?_ ?_ (by simpa using k1) (by rw[k4];exact beq_self_eq_true _) k5 k6 k7 k8)
     ·unfold Env.kindOf;rw[x.sco];exact k2
     ·unfold Env.kindOf;rw[x.sco];exact k3
   ·rename_i hv;exact z91 x h2 g ht (f12 (by simpa using hv))
  ·cases h4
theorem A11(h:O61 e=true):e=.con .non:=by
 unfold O61 at h;split at h
 ·rfl
 ·cases h
theorem L02(x:XS lm X G E N sc cn){e:Ex}{o:Option Ï}{pos:Pos}(h:(match o with | some v=>!isL e&&mt lm G.fns G.nums e sc N [v] | none=>O61 e)=true):PS X (.Return o pos) (tX X.K G E H0 zE (.ret e)):=by
 cases o with
 |some v =>
  have h:(!isL e&&mt lm G.fns G.nums e sc N [v])=true:=h;rw[Á] at h;by_cases hv:∃ i,e=.var i
  ·obtain⟨i,rfl⟩:=hv;have h2:=h.2;cases v with
   |Name n p =>
    have h2:(N[i]? == some n&&d80 n)=true:=h2;rw[Á,beq_iff_eq] at h2;exact u62 x h2.1 h2.2
   |_=>cases h2
  ·exact J72 (λi hi=>hv ⟨i,hi⟩) (a90 (b70 h.1) (sound G e x.toXI h.2))
 |none =>
  have he:=A11 h;subst he;refine PS.imp W81 λD σ H q=>?_;obtain⟨zA,ow,ρ,z,rr,rw,st,ee,po⟩:=q;cases ee;exact po .non H (λk=>nomatch k) rw.ext (k12 rw.zok st) (show Hd X.K (hz zE H) .non .non from Hd.non)
theorem W62(x:XS lm X G E N sc cn){p:Pat}{it:It}{src:Ex}{b:Sm}{tg Ä0:Ï}{body:List Ä8}{pos:Pos}(h1:j30 N (T60 sc) p tg=true)(h2:isL src=true)(h3:A10 Ä0=true)(h5:mtI lm G.fns G.nums it src sc N tg Ä0=true)(hb:PSs X body (tX X.K G E H0 zE b)) :
  PS X (.For tg Ä0 body [] pos) (tX X.K G E H0 zE (.fr p it src b)):=by
 cases hv:b82 it src with
 |some q =>
  obtain⟨i,rfl,rfl⟩:=q;have h5':(noStar Ä0&&!isL (.var i)&&isL .nil&&mt lm G.fns G.nums (.var i) sc N [Ä0]&&mt lm G.fns G.nums .nil sc N [])=true:=h5;simp only[Á] at h5';have h7:=h5'.1.2;cases Ä0 with
  |Name n np =>
   have h7:(N[i]? == some n&&d80 n)=true:=h7;rw[Á,beq_iff_eq] at h7;exact v12 x h1 h7.1 h7.2 hb
  |_=>cases h7
 |none=>exact K22 x h1 (K82 x.toXI h2 h5) h3 hv hb
theorem v52(x:XS lm X G E N sc cn):∀ (s:Sm) {ss:List Ä8},mtS lm G.fns G.nums cn sc N s ss=true->GS X G E H0 zE s ss:=by
 intro s
 induction s with
 |nil =>
  intro ss h;have:ss=[]:=Ì8.mp h;subst this;exact⟨λ_=>J32,λk=>by cases k⟩
 |seq s r ihs ihr =>
  intro ss h;obtain⟨st,h0,h⟩:=a70 h;cases ss with
  |nil=>cases h0
  |cons st' rest =>
   cases h0;simp only[Á,À3,List.tail_cons] at h;obtain⟨⟨⟨h1,h2⟩,h3⟩,h4⟩:=h;obtain⟨st',he,hs⟩:=(ihs h3).2 h1;cases he;exact⟨λ_=>J42 hs ((ihr h4).1 h2),λk=>by cases k⟩
 |set p e =>
  intro ss h;obtain⟨⟨q,rfl⟩,-,h⟩:=a70 h;simp only[Á] at h;exact o80 rfl (K92 x h.1.1.1 h.1.1.2 h.1.2 h.2)
 |ret e =>
  intro ss h;obtain⟨⟨q,rfl⟩,-,h⟩:=a70 h;exact o80 rfl (L02 x h)
 |iff c t u iht ihu =>
  intro ss h;obtain⟨⟨q,rfl⟩,-,h⟩:=a70 h;simp only[Á] at h;obtain⟨⟨⟨⟨⟨⟨h1,h2⟩,h3⟩,h4⟩,h5⟩,h6⟩,h7⟩:=h;exact o80 rfl (V52 (a90 (b70 h1) (sound G c x.toXI h5)) (g81 h2) ((iht h6).1 h3) ((ihu h7).1 h4))
 |fr p it src b ih =>
  intro ss h;obtain⟨⟨q,rfl⟩,-,h⟩:=a70 h;simp only[Á] at h;obtain⟨⟨⟨⟨⟨h1,h2⟩,h3⟩,h4⟩,h5⟩,h6⟩:=h;exact o80 rfl (W62 x h1 h2 h3 h5 ((ih h6).1 h4))
 |whl c b ih =>
  intro ss h;obtain⟨⟨q,rfl⟩,-,h⟩:=a70 h;simp only[Á] at h;obtain⟨⟨⟨⟨h1,h2⟩,h3⟩,h4⟩,h5⟩:=h;exact o80 rfl (K02 x (a90 (b70 h1) (sound G c x.toXI h4)) (g81 h2) ((ih h5).1 h3))
 |rais c =>
  intro ss h;obtain⟨⟨⟨e,pos⟩,rfl⟩,-,h⟩:=a70 h;dsimp only at h;obtain⟨⟨⟨n,p1,y,k,p2,p3⟩,rfl⟩,-,h⟩:=a70 h;simp only[Á,beq_iff_eq] at h;exact o80 rfl (x_raise x h.1 h.2)
 |exp e =>
  intro ss h;obtain⟨⟨q,rfl⟩,-,h⟩:=a70 h;simp only[Á] at h;exact o80 rfl (J82 (a90 (b70 h.1.2) (sound G e x.toXI h.2)) h.1.1)
 |app i e =>
  intro ss h;obtain⟨⟨⟨v0,pos⟩,rfl⟩,-,h⟩:=a70 h;dsimp only at h;obtain⟨⟨⟨n,p1,a,apos,v,cpos⟩,rfl⟩,-,h⟩:=a70 h;simp only[Á,beq_iff_eq] at h;obtain⟨⟨⟨⟨⟨⟨h7,h8⟩,h2⟩,h3⟩,h4⟩,h5⟩,h6⟩:=h;subst h7;exact o80 rfl (J92 x h8 h2 h3 (a90 (b70 h4) (sound G e x.toXI h6)) (by rw[h5];exact beq_self_eq_true _))
 |newz i f as =>
  intro ss h;obtain⟨⟨⟨tg,v,pos⟩,rfl⟩,-,h⟩:=a70 h;dsimp only at h;obtain⟨⟨⟨y,p1⟩,rfl⟩,-,h⟩:=a70 h;simp only[Á,beq_iff_eq] at h;obtain⟨⟨⟨h1,h2⟩,h3⟩,h4⟩:=h;exact o80 rfl (u82 x h1 h2 (a90 rfl (sound G (.call f as) x.toXI h4)) h3)
 |zset i e =>
  intro ss h;obtain⟨⟨⟨tg,v,pos⟩,rfl⟩,-,h⟩:=a70 h;dsimp only at h;obtain⟨⟨⟨n,p1,c,p2,p3⟩,rfl⟩,-,h⟩:=a70 h;simp only[Á,beq_iff_eq] at h;exact o80 rfl (u92 x h.1.1.1 h.1.1.2 (a90 (b70 h.1.2) (sound G e x.toXI h.2)))
 |augi i ix e =>
  intro ss h;obtain⟨⟨⟨n,p1,w,tp,v,pos⟩,rfl⟩,-,h⟩:=a70 h;simp only[Á,beq_iff_eq] at h;obtain⟨⟨⟨⟨⟨⟨h1,h2⟩,h3⟩,h4⟩,h5⟩,h6⟩,h7⟩:=h;exact o80 rfl (u72 x h1 h2 (a90 (b70 h4) (sound G e x.toXI h6)) (a90 (b70 h5) (sound G ix x.toXI h7)) h3)
end
structure GX(P:Program)(w:World)(K:PySem.W.Frag)(mg:Str->Option Value)(base:Heap)(G:Gs)(cn:List Str):Prop where
 gok:∀ f nm ps,G.fns[f]?=some (nm,ps)->∃ fa fd,mg nm=some (.ref fa)/\PySem.W.keepIn K (.ref fa)=true/\Binds K fd ps []/\W90 P w K mg base (CX1 P w) G.lv fa fd ps (spF K G f ps.length)
 num:∀ p∈G.nums,∃ t,mg p.1=some (.int p.2 t)
 blt:∀ n∈d92,mg n=none
 cls:∀ c x,cn[c]?=some x->mg x=some (.ref (G.cls c))/\PySem.W.excIn K (G.cls c) [.type "ValueError",.type "Exception",.type "BaseException",.type "object"] "ValueError.__new__"=true
section
variable {P:Ý}{w:ç}{K:Â}{mg:Str->Option Ä}{base:é}{G:Gs}{cn:List Str}
structure A22(P:Program)(w:World)(K:PySem.W.Frag)(mg:Str->Option Value)(base:Heap)(cls:Nat->Addr)(fR:Addr)(fdR:FuncData):Prop where
 bm:BMain mg base
 cls:∀ j,j < 12->R50 K mg (cls j) j
 m:mg "_law_refused"=some (.ref fR)
 kp:PySem.W.keepIn K (.ref fR)=true
 bd:Binds K fdR ["_law_call"] []
 fn:∀ k,m01 P w K mg base CX0 (k + 2) fR fdR ["_law_call"] (a82 P w K mg base (k + 1))
def A32(K:Â)(nm:Str)(fd:Å2):Prop:=∃ (c P:Ç) (q:Str),fd.code=.ref c/\Ä9 K c P=true/\(∀ sc n f cd,(Ï6 nm sc n f cd).qual++"<lambda>"=q)/\(P,q)∈TB.tb/\∀ p∈TB.tb,p.1=P->p.2=q
def Low(P:Ý)(w:ç)(K:Â)(mg:Str->Option Ä)(base:é)(G:Gs)(k:Nat):Prop:=∀ f nm ps,G.fns[f]?=some (nm,ps)->∃ fa fd,mg nm=some (.ref fa)/\Ó6 K (.ref fa)=true/\Binds K fd ps []/\W90 P w K mg base (CX1 P w) k fa fd ps (spF K (lowG G k) f ps.length)
theorem v62(g:GX P w K mg base G cn){lm:Bool}{N ps:List Str}{qual:Str}{sc:ý}{f:Ç}{fd:Å2}{cd:Ä}{A:ø}{outer:List È8}{s:Æ}{H:Hp}{E:XK}(S:k00 N ps sc)(hl:N.all (T60 sc)=true)
  (hr:A30 G.lv (A.deeper (Ï6 qual sc s.heap.objs.size f cd))) (hc:fd.code=cd) (hlam:lm=true->∃ k fR fdR,G.lv=k + 2/\A22 P w K mg base G.cls fR fdR/\A32 K qual fd/\Low P w K mg base G k):XS lm (F90 (CX1 P w) P w K mg base N qual sc f cd A outer s H E) G E N sc cn where
 gok:=g.gok
 num:=g.num
 blt:=g.blt
 hN:=rfl
 nd:=S.nd
 vis:=λx hx=>by
  have:=Õ.mp hl x hx;unfold T60 at this;rw[Å6,beq_iff_eq,beq_iff_eq] at this;rcases this with h | h
  ·exact .inl h
  ·exact .inr (.inl h)
 glb:=λx h=>h
 cel:=λx h=>h
 calm:=rfl
 room:=hr
 pas:=E72
 lam:=λh=>by
  obtain⟨k,fR,fdR,e1,L,⟨c,P',q,d1,d2,d3,d4,d5⟩,lo⟩:=hlam h;exact⟨c,P',q,k,fR,fdR,rfl,hc.symm.trans d1,d2,d3 _ _ _ _,d4,d5,L.bm,e1,L.cls,L.m,L.kp,L.bd,L.fn k,lo⟩
 sco:=rfl
 fnk:=S.kind
 own:=PassesOwn.leaving
 can:=t91
 fnx:=λ_=>rfl
 cls:=g.cls
theorem W72{x qual:Str}{st:Ä8}{f:Ç}{fd:Å2}{N ps:List Str}{k:Nat}{sp:Sp}(F:Fun K x qual st f fd)(S:k00 N ps (b90 st))(len:∀ vs H Q E,sp vs H Q E->vs.length=ps.length)
  (hb:∀ (cdv:Ä),fd.code=cdv->∀ (A:ø) (outer:List È8) (s:Æ) (H:Hp) (vs:List V) (Q:VK) (E:XK),A30 k (A.deeper (Ï6 qual (b90 st) s.heap.objs.size f cdv))->sp vs H Q E ->
   ∃ t,PSs (F90 (CX1 P w) P w K mg base N qual (b90 st) f cdv A outer s H E) (i00 st) t/\t { nx:=λ_ H'=>Q .non H',rt:=Q } (L2.start N vs) H):W90 P w K mg base (CX1 P w) (k + 1) f fd ps sp:=by
 obtain⟨oc,od,kV,doc,pm,an,cdv,ct,osl,rfl,lk,hcd⟩:=F.ex;exact D12 lk hcd S len λA outer s H vs Q E hr hsp=>hb cdv rfl A outer s H vs Q E hr hsp
theorem g91:∀ {ss:List S}{vs:List V}{i:Nat}{s:S}{n:Nat},RvA K zA H ss vs->(ss.map some++ë n none)[i]?=some (some s)->∃ v,(vs.map some++ë n none)[i]?=some (some v)/\RvP K zA H s v
 |[],_,i,s,n,h,e=>by
  cases h;simp only[map_nil,Í0] at e;rw[Ò4] at e;split at e <;> cases e
 |a::ss,_,0,s,n,h,e=>by
  cases h with
  |cons h1 h2 =>
   simp only[Å7,List.cons_append,Ë0] at e;cases e;exact⟨_,rfl,h1⟩
 |a::ss,_,i + 1,s,n,h,e=>by
  cases h with
  |cons h1 h2 =>
   obtain⟨v,k1,k2⟩:=g91 (i:=i) (s:=s) (n:=n) h2 (by simpa using e)
   exact⟨v,by simpa using k1,k2⟩
theorem Å9.len{α β:Type}{R:α->β->Prop}:∀ {l:List α}{m:List β},Å9 R l m->l.length=m.length
 |[],_,h=>by cases h;rfl
 |_::_,_,h=>by
  cases h with
  |cons h1 h2=>simp[Å9.len h2]
theorem O71(h:RvA K zA H ss vs)(hn:∀ s∈ss,∀ xs,s≠.fr xs):RW K H zA zA (λ_=>none) H (Q.start N.length ss) (L2.start N vs):=by
 have hl:ss.length=vs.length:=Å9.len h;refine⟨?_,λi j a e=>(nomatch e),λi a e=>(nomatch e),λi a e=>(nomatch e),λi s e=>?_,Ext.refl,.inl rfl,λi a e=>(nomatch e)⟩
 ·unfold Q.start L2.start;simp[hl]
 ·unfold Q.start at e;obtain⟨v,k1,k2⟩:=g91 h e;refine⟨v,?_,?_⟩
  ·unfold L2.start;rw[← hl];exact k1
  ·cases s with
   |d x=>exact⟨rfl,by rw[x10];exact k2⟩|z=>exact⟨rfl,k2⟩
   |fr xs =>
    rcases Ã6.mp (í e) with q | q
    ·obtain⟨s',q1,q2⟩:=Ö.mp q;cases q2;exact absurd rfl (hn _ q1 xs)
    ·cases List.eq_of_mem_replicate q
theorem g12(st:d60 zA z H):A12 zA z1=L40 z z1:=by
 have st:=st.zat;cases zA with
 |none =>
  cases z with
  |none=>rfl|some p=>exact st.elim
 |some a =>
  cases z with
  |none=>exact st.elim|some p=>rfl
theorem A21(st:d60 zA z H):z.isNone=zA.isNone:=by
 have st:=st.zat;cases zA with
 |none =>
  cases z with
  |none=>rfl|some p=>exact st.elim
 |some a =>
  cases z with
  |none=>exact st.elim|some p=>rfl
theorem A31(g:GX P w K mg base G cn){lm:Bool}{N ps:List Str}{nm:Str}{st:Ä8}{fa:Ç}{fd:Å2}{b:Sm}{f:Nat}{F':FT}(Fn:Fun K nm nm st fa fd)(Sc:k00 N ps (b90 st))(hl:N.all (T60 (b90 st))=true)
  (ch:mtS lm G.fns G.nums cn (b90 st) N b (i00 st)=true) (hq:isQ b=true) (hlam:lm=true->∃ k fR fdR,G.lv=k + 2/\A22 P w K mg base G.cls fR fdR/\A32 K nm fd/\Low P w K mg base G k)
  (hF:∀ l z,F' false f l z=run G.F (.code ps.length N.length b) l z):W90 P w K mg base (CX1 P w) (G.lv + 1) fa fd ps (spF K { G with F:=F',lv:=G.lv + 1 } f ps.length):=by
 refine W72 Fn Sc (λvs H Q E h=>h.1) λcdv hcd A outer s H vs Qv E hr hsp=>?_;obtain⟨hlen,zA,z,ss,r,rv,st',e,po⟩:=hsp;refine⟨_,(v52 (H0:=H) (zE:=zA) (v62 g Sc hl hr hcd hlam) b ch).1 hq,?_⟩;have e0:(if ss.length=ps.length/\ps.length<=N.length then(match ex G.F z.isNone b (Q.start N.length (ss.map plS)) z with
  |some (.ok (.nx _) z1)=>some (R.ok (S.d .non) (L40 z z1))|some (.ok (.rt s) z1)=>some (R.ok s (L40 z z1))|some (.er c z1)=>some (R.er c (L40 z z1))
  |none=>none) else none)=some r:=by
  have:=hF ss z;exact this.symm.trans e
 rw[A21 st'] at e0;split at e0
 ·have rw0:RW K H zA zA (λ_=>none) H (Q.start N.length (ss.map plS)) (L2.start N vs):=O71 rv.plS λs hs xs=>by
   obtain⟨s',_,rfl⟩:=Ö.mp hs;cases s' <;> exact λh=>nomatch h
  split at e0
  ·rename_i ρ z1 e1;cases e0;refine⟨zA,_,_,z,_,rw0,st',e1,λzA' ow' σ' H' r' st1 _=>?_⟩;refine po .non H' r'.ext ?_ (show Hd K (hz zA H') .non .non from Hd.non);rw[← g12 st'];exact k12 r'.zok st1
  ·rename_i s1 z1 e1;cases e0;refine⟨zA,_,_,z,_,rw0,st',e1,λv H' nz x st1 rv'=>?_⟩;exact po v H' x (by rw[← g12 st'];exact st1) rv'
  ·rename_i c z1 e1;cases e0;refine⟨zA,_,_,z,_,rw0,st',e1,λe H' x st1 hn=>?_⟩;exact po e H' x (by rw[← g12 st'];exact st1) hn
  ·cases e0
 ·cases e0
def lev(G:Gs)(T:List Df)(k:Nat):Gs:={ G with F:=H00 T k,lv:=k }
theorem v72{T:List Df}(num:∀ p∈G.nums,∃ t,mg p.1=some (.int p.2 t))(blt:∀ n∈d92,mg n=none)
  (cls:∀ c x,cn[c]?=some x->mg x=some (.ref (G.cls c))/\Ì5 K (G.cls c) [.type "ValueError",.type "Exception",.type "BaseException",.type "object"] "ValueError.__new__"=true)
  (hd:∀ (f:Nat) (nm:Str) (ps:List Str),G.fns[f]?=some (nm,ps)->∃ (fa:Ç) (fd:Å2),mg nm=some (.ref fa)/\Ó6 K (.ref fa)=true/\Binds K fd ps [] /\
   ((∃ (lm:Bool) (N:List Str) (st:Ä8) (b:Sm),T[f]?=some (Df.code ps.length N.length b)/\Fun K nm nm st fa fd/\k00 N ps (b90 st)/\N.all (T60 (b90 st))=true/\isQ b=true/\mtS lm G.fns G.nums cn (b90 st) N b (i00 st)=true/\(lm=true->∃ fR fdR,A22 P w K mg base G.cls fR fdR/\A32 K nm fd)) ∨
    T[f]?=none)):∀ k,GX P w K mg base (lev G T k) cn:=by
 have zero:∀ k,k < 3->GX P w K mg base (lev G T k) cn:=λk hk=>by
  refine⟨λf nm ps h=>?_,num,blt,cls⟩;obtain⟨fa,fd,h1,h2,h3,_⟩:=hd f nm ps h;refine⟨fa,fd,h1,h2,h3,λvs H Q E q=>q.1,λA outer s H args us vs Q E hr he hb hv hs=>?_⟩;obtain⟨_,zA,z,ss,r,_,_,e,_⟩:=hs
  match k,hk with
  |0,_=>cases e
  |1,_=>cases e
  |2,_=>cases e
 intro k
 induction k using Nat.strongRecOn with
 |ind k ih =>
  match k,ih with
  |0,_=>exact zero 0 (-0)|1,_=>exact zero 1 (-0)|2,_=>exact zero 2 (-0)
  |k + 3,ih =>
   refine⟨λf nm ps h=>?_,num,blt,cls⟩;obtain⟨fa,fd,h1,h2,h3,h4⟩:=hd f nm ps h;refine⟨fa,fd,h1,h2,h3,?_⟩;rcases h4 with ⟨lm,N,st,b,k1,k2,k3,k4,k5,k6,k7⟩ | h4
   ·refine A31 (G:=lev G T (k + 2)) (F':=H00 T (k + 3)) (ih (k + 2) ∅) k2 k3 k4 k6 k5 (λhlm=>?_) λl z=>?_
    ·obtain⟨fR,fdR,L,D⟩:=k7 hlm;exact⟨k,fR,fdR,rfl,L,D,λf nm ps h=>(ih k ∅).gok f nm ps h⟩
    ·show(match T[f]? with | some d=>run (H00 T (k + 2)) d l | none=>M.no) z=_
     rw[k1];rfl
   ·refine⟨λvs H Q E q=>q.1,λA outer s H args us vs Q E hr he hb hv hs=>?_⟩;obtain⟨_,zA,z,ss,r,_,_,e,_⟩:=hs;have e':(match T[f]? with | some d=>run (H00 T (k + 2)) d ss | none=>M.no) z=some r:=e
    rw[h4] at e';cases e'
end
end Q
namespace L2
open PySem PySem.W PySem.Calls PyProof.Rows
def E40(thr sok:Thread->Bool)(stp:SharedT->Thread->Option (SharedT × Thread)):Nat->SharedT->Thread->Option SharedT
 |0,_,_=>none
 |n + 1,s,t=>match thr t with
  |true=>some s
  |false=>match sok t with
   |false=>none
   |true=>match stp s t with
    |some (s',t')=>E40 thr sok stp n s' t'|none=>none
theorem T70:∀ {n:Nat}{s s':SharedT}{t:Thread},E40 through (stepOk n₀ ann) (stepT (denote tb) p w) n s t=some s'->topRun tb p w n₀ ann n s.abs t=some s'.abs
 |0,_,_,_,h=>by cases h
 |n + 1,s,s',t,h=>by
  unfold E40 at h;unfold topRun;cases ht:through t with
  |true=>rw[ht] at h;cases h;rfl
  |false =>
   rw[ht] at h;cases hok:stepOk n₀ ann t with
   |false=>rw[hok] at h;cases h
   |true =>
    rw[hok] at h;cases hst:stepT (denote tb) p w s t with
    |none=>rw[hst] at h;cases h
    |some r=>obtain⟨s₂,t₂⟩:=r;rw[hst] at h;rw[stepT_spec hst];exact T70 h
def grow:List Obj->Nat->BT->BT
 |[],_,t=>t|o::r,i,t=>grow r (i + 1) (t.ins i o)
def g22(w:ç)(os:OsState):SharedT:=⟨grow (Ê4 w.params).objs.toList 0 .nil,11,(Ê4 w.params).life,Array.mk [],boot_drawn,boot_toks,os⟩
theorem A41:∀ (w:ç) (os:OsState),(g22 w os).abs=⟨Ê4 w.params,Array.mk [],boot_drawn,boot_toks,os⟩:=λw os=>by kernel_rfl
theorem A51:∀ w:ç,((Ê4 w.params).isNs ã&&(Array.mk []:Array Ý5).size == 0,(Ê4 w.params).objs.size,(Ê4 w.params).nsMap ã "__annotations__")=(true,11,some (.ref 6)):=λw=>by kernel_rfl
theorem g32{p q:Ý}{loose:List Str}{Xt:Æ->Bool}{α:Type}{Yf:Æ->α}{Ya:ç->α}{N:Nat}
  (e:opening p=plainProg p.main.scope.names) (hN:ble 600 N=true) (f:∀ s,fenceModules? p s=some s)
  (run:∀ (w:ç) (os:OsState),(E40 through (stepOk 11 (some (.ref 6))) (stepT (denote treeTable) p w) N (g22 w os) (topStub p)).map (λs =>
   (staticsOk (Ï5 p.main.body) (Ê4 w.params) s.abs.heap&&namesBound p s.abs.heap&&gensDone s.abs&&laidKept (Ê4 w.params) s.abs.heap,
    openSeen q loose (Ï5 p.main.body) Xt true s.abs,Yf s.abs))=some (true,openGood q loose,Ya w)):LeftO p q loose Xt Yf Ya N:=λw=>by
 obtain⟨⟨h,gs,d,k,os⟩,e1,e2⟩:=Ì.mp (boot_open (N:=N) e hN f w);obtain⟨rfl,rfl,rfl,rfl⟩:h=Ê4 w.params/\gs=Array.mk []/\d=boot_drawn/\k=boot_toks:=by simpa using e2
 obtain⟨z1,z2,z3⟩:_/\_/\_:=by simpa only [Ï8] using A51 w
 obtain⟨s1,r1,r2⟩:=Ì.mp (run w os);obtain⟨l1,l2,l3⟩:_/\_/\_:=by simpa only [Ï8] using r2
 have r:=T70 r1;rw[A41] at r;unfold openEnds;rw[e1];show Î6 _ (topFrom treeTable p w N _)=_;unfold topFrom;dsimp only;rw[z1,z2,z3,r];show Î6 _ (match staticsOk (Ï5 p.main.body) (Ê4 w.params) s1.abs.heap&&namesBound p s1.abs.heap&&gensDone s1.abs&&laidKept (Ê4 w.params) s1.abs.heap with | true=>_ | false=>_)=_
 rw[l1];exact congrArg Option.some (Prod.ext l2 l3)
def T80(o:Obj):Bool:=match o with
 |⟨.none,none,.fields vs,sl⟩=>vs.isEmpty&&sl.isEmpty|_=>false
def L12(h:é)(a:Ç):Option Obj:=match h.get? a with
 |some o=>if T80 o then none else some o|none=>none
def fragOf(h:é):Frag:=(ì h.objs.size).filterMap λa=>(L12 h a).map λo=>(a,o)
theorem u90(g:Ç->Option Obj)(a:Ç):∀ l:List Ç,(l.filterMap λa=>(g a).map λo=>(a,o)).lookup a=if a∈l then g a else none
 |[]=>rfl
 |b::r=>by
  by_cases hb:a=b
  ·subst hb;rw[if_pos Ë];cases hg:g a with
   |none =>
    rw[Á4,hg];show(r.filterMap λa=>(g a).map λo=>(a,o)).lookup a=none;rw[u90 g a r];split
    ·exact hg
    ·rfl
   |some o =>
    rw[Á4,hg];show Í2 a ((a,o)::_)=some o;rw[List.lookup_cons_self]
  ·have hm:(a∈b::r)↔a∈r:=by rw[Â7];exact⟨λh=>h.resolve_left hb,Ù7⟩
   have ih:=u90 g a r;have e:(if a∈b::r then g a else none)=if a∈r then g a else none:=by simp only[hm]
   rw[e,← ih];cases hg:g b with
   |none=>rw[Á4,hg];rfl
   |some o =>
    rw[Á4,hg];show Í2 a ((b,o)::_)=_;have:(a == b)=false:=by simpa using hb
    simp only[Í2,this]
theorem A61(h:é):(fragOf h).In h:=λa o e=>by
 unfold fragOf at e;rw[u90] at e;split at e
 ·unfold L12 at e;cases hg:h.get? a with
  |none=>rw[hg] at e;cases e
  |some u =>
   rw[hg] at e;dsimp only at e;split at e
   ·cases e
   ·exact e
 ·cases e
theorem g42(h:T80 o=true):o=tabObj #[]:=by
 unfold T80 at h;split at h
 ·rename_i vs sl;rw[Á,Array.isEmpty_iff,Array.isEmpty_iff] at h;obtain⟨rfl,rfl⟩:=h;rfl
 ·cases h
theorem n31(e:h.get? a=some o)(t:T80 o=true):(fragOf h).lookup a=none:=by
 unfold fragOf;rw[u90];split
 ·unfold L12;rw[e];exact if_pos t
 ·rfl
def A71(K:Frag)(x:Str):Option (Str × Str × Î3 × FuncBody × ý × Ç × List (Str × Ç) × Ä × Ç × Bool):=match nsIn K ã x with
 |some (some (.ref at0))=>(match K.lookup at0 with
  |some ⟨_,_,.func fd,_⟩=>some (fd.name,fd.qualname,fd.params,fd.body,fd.scope,fd.globals,fd.closure,fd.defaults,fd.builtins,codeIn K fd.code x)
  |_=>none)
 |_=>none
def g52(x:Str)(st:Ä8):Option (Str × Str × Î3 × FuncBody × ý × Ç × List (Str × Ç) × Ä × Ç × Bool):=some (x,x,J20 st,.stmts (i00 st),b90 st,ã,[],.none,Í9,true)
theorem a61{K:Frag}{x:Str}{st:Ä8}(e:A71 K x=g52 x st):∃ f fd,nsIn K ã x=some (some (.ref f))/\Fun K x x st f fd/\∃ oc od sl,K.lookup f=some ⟨oc,od,.func fd,sl⟩:=by
 unfold A71 g52 at e;split at e
 ·rename_i f hf;split at e
  ·rename_i oc od fd sl hl;obtain⟨nm,qn,pm,bd,sc,gl,cl,df,kd,dc,py,an,cd,ct,bl⟩:=fd;simp only[Ï8,Ê2] at e;obtain⟨rfl,rfl,rfl,rfl,rfl,rfl,rfl,rfl,rfl,hc⟩:=e;exact⟨f,_,hf,⟨⟨oc,od,kd,dc,py,an,cd,ct,sl,rfl,hl,hc⟩,by simp only[keepIn,hl]⟩,oc,od,sl,hl⟩
  ·cases e
 ·cases e
def tab0At(h:é)(T:Ç):Bool:=match h.get? T with
 |some o=>T80 o|none=>false
theorem A81{h:é}{T:Ç}(e:tab0At h T=true):h.get? T=some (tabObj #[]):=by
 unfold tab0At at e;split at e
 ·rename_i o ho;rw[ho,g42 e]
 ·cases e
def A91(h:é)(K:Frag)(x:Str):Option Addr:=match nsIn K ã x with
 |some (some (.ref at0))=>(match K.lookup at0 with
  |some ⟨_,_,.func fn0,_⟩=>(match fn0.code with
   |.ref c=>(match K.lookup c with
    |some ⟨_,_,.fields vs,_⟩=>(match (vs[11]?:Option Ä) with
     |some (.ref T)=>if codeHdIn K c T&&tab0At h T then some T else none
     |_=>none)
    |_=>none)
   |_=>none)
  |_=>none)
 |_=>none
theorem n41{h:é}{K:Frag}{x:Str}{T:Ç}(e:A91 h K x=some T):h.get? T=some (tabObj #[])/\∃ f oc od fd sl c,nsIn K ã x=some (some (.ref f))/\K.lookup f=some ⟨oc,od,.func fd,sl⟩/\fd.code=.ref c/\codeHdIn K c T=true:=by
 unfold A91 at e;split at e
 ·rename_i f hf;split at e
  ·rename_i oc od fd sl hl;split at e
   ·rename_i c hc;split at e
    ·split at e
     ·rename_i T' _;split at e
      ·rename_i q;cases e;rw[Á] at q;obtain⟨q1,q2⟩:=q;exact⟨A81 q2,f,oc,od,fd,sl,c,hf,hl,hc,q1⟩
      ·cases e
     ·cases e
    ·cases e
   ·cases e
  ·cases e
 ·cases e
def h40:List Str:=["NoWeb","NoLot","NoPlaces","NoPlace","NoTie","NoChance","NoChances","NoPaper","TooMany","NoText","NoLine","NoDeed"]
def T90(K:Frag)(x:Str):Option Addr:=match nsIn K ã x with
 |some (some (.ref f))=>some f|_=>none
theorem M50{K:Frag}{x:Str}{f:Ç}(e:T90 K x=some f):nsIn K ã x=some (some (.ref f)):=by
 unfold T90 at e;split at e
 ·cases e;assumption
 ·cases e
abbrev O22:=Option (Option Ä) × Option (Option Ä) × Option Bool × Option Bool × Option (Option Ä) × Bool × Option Bool × Option Bool × Bool × List (Option Bool)
def a71(K:Frag)(C:Ç):O22:=(findIn K (.ref C) "__getattribute__",findIn K (.ref C) "__getattr__",mroIn K C (.type "BaseException"),mroIn K C (.type "object"),findIn K (.ref C) "__class__",hasDictIn K C,kitOne K (.ref C) (.type "ValueError"),
 (T90 K "ChanceError").bind λD=>exmOne K (.ref C) (.ref D),excIn K C [.type "ValueError",.type "Exception",.type "BaseException",.type "object"] "ValueError.__new__",h40.map λy=>(T90 K y).bind λB=>kitOne K (.ref C) (.ref B))
def B01(x:Str):O22:=(some (some (Ð6 "BaseException.__getattribute__")),some (none:Option Ä),some true,some true,some (some (Ð6 "object.__class__")),true,some true,some true,true,h40.map λy=>some (decide (x=y)))
def a81(K:Frag)(x:Str):Option Int:=match nsIn K ã x with
 |some (some (.int i _))=>some i|_=>none
theorem a91{K:Frag}{x:Str}{i:Int}(e:a81 K x=some i):∃ t,nsIn K ã x=some (some (.int i t)):=by
 unfold a81 at e;split at e
 ·rename_i t h;cases e;exact⟨t,h⟩
 ·cases e
def b01(K:Frag)(x:Str):Bool:=match nsIn K ã x with
 |some none=>true|_=>false
theorem b11{K:Frag}{x:Str}(e:b01 K x=true):nsIn K ã x=some none:=by
 unfold b01 at e;split at e
 ·assumption
 ·cases e
structure n70 where
 ds:List (Str × Stmt)
 is:List (Str × Int)
 ns:List Str
 ms:List Str
 cs:List Str
def n70.obs(q:n70)(s:Æ) :=
 let K:=fragOf s.heap
 (q.ds.map λd=>A71 K d.1,q.is.map λd=>a81 K d.1,q.ns.map (b01 K),q.ms.map λx=>(A91 s.heap K x).isSome,q.cs.map λx=>(T90 K x).map (a71 K),
  (specialIn K (.builtin "object.__class__") "__get__",takesIn K (.builtin "object.__class__")))
def n70.due(q:n70)(_:ç) :=
 (q.ds.map λd=>g52 d.1 d.2,q.is.map λd=>some d.2,q.ns.map λ_=>true,q.ms.map λ_=>true,q.cs.map λx=>some (B01 x),
  (some (some (Ð6 "getset_descriptor.__get__")),some true))
structure Facts(q:n70)(K:Frag)(h:Heap):Prop where
 fn:∀ d∈q.ds,∃ f fd,nsIn K mainGlobals d.1=some (some (.ref f))/\Fun K d.1 d.1 d.2 f fd/\∃ oc od sl,K.lookup f=some ⟨oc,od,.func fd,sl⟩
 it:∀ d∈q.is,∃ t,nsIn K mainGlobals d.1=some (some (.int d.2 t))
 no:∀ x∈q.ns,nsIn K mainGlobals x=some none
 mt:∀ x∈q.ms,∃ T,h.get? T=some (tabObj #[])/\K.lookup T=none/\∃ f oc od fd sl c,nsIn K mainGlobals x=some (some (.ref f))/\K.lookup f=some ⟨oc,od,.func fd,sl⟩/\fd.code=.ref c/\codeHdIn K c T=true
 cl:∀ x∈q.cs,∃ C,nsIn K mainGlobals x=some (some (.ref C))/\a71 K C=B01 x
 sp:specialIn K (.builtin "object.__class__") "__get__"=some (some (Value.builtin "getset_descriptor.__get__"))
 tk:takesIn K (.builtin "object.__class__")=some true
theorem H40{α β:Type}{f g:α->β}:∀ {l:List α},l.map f=l.map g->∀ a∈l,f a=g a:=λ{l} h a ha=>List.map_inj_left.mp h a ha
theorem n70.facts(q:n70)(w:ç)(s:Æ)(e:q.obs s=q.due w):Facts q (fragOf s.heap) s.heap:=by
 unfold n70.obs n70.due at e;simp only[Ï8] at e;obtain⟨e1,e2,e3,e4,e5,e6,e7⟩:=e;refine⟨λd hd=>a61 (H40 e1 d hd),λd hd=>a91 (H40 e2 d hd),λx hx=>b11 (H40 e3 x hx),λx hx=>?_,λx hx=>?_,e6,e7⟩
 ·obtain⟨T,hT⟩:=Þ1.mp (H40 e4 x hx);obtain⟨h1,h2⟩:=n41 hT;exact⟨T,h1,n31 h1 rfl,h2⟩
 ·obtain⟨C,h1,h2⟩:=Ì.mp (H40 e5 x hx);exact⟨C,M50 h1,h2⟩
def n70.hook(q:n70):Hook where
 α:=_
 obs:=q.obs
 val:=q.due
 says:=λ_ h=>∃ K:Frag,K.In h/\Facts q K h
 of:=λw s e=>⟨_,A61 _,q.facts w s e⟩
 keeps:=λ_ h h' ⟨K,X,F⟩ k=>⟨K,X.keeps k,⟨F.fn,F.it,F.no,λx hx=>let ⟨T,a,b⟩:=F.mt x hx;⟨T,k _ _ a,b⟩,F.cl,F.sp,F.tk⟩⟩
end L2
namespace Q
open PySem L2 PySem.Spec PyProof.Rows
structure Row where
 nm:Str
 ps:List Str
 st:Stmt
 N:List Str
 b:Sm
 lm:Bool
def B11(N ps:List Str)(sc:ý):Bool:=sc.kind == .function&&!sc.isCoroutine&&!sc.isGenerator&&decide N.Nodup&&N.take ps.length == ps&&ps.all (λx=>sc.names.lookup x == some .local || sc.names.lookup x == some .cell)&&sc.names.all λy=>y.2 != .free
theorem h01(h:B11 N ps sc=true):k00 N ps sc:=by
 unfold B11 at h;simp only[Á,À3,beq_iff_eq,Æ9,decide_eq_true_eq,Å6] at h;obtain⟨⟨⟨⟨⟨⟨h1,h2⟩,h3⟩,h4⟩,h5⟩,h6⟩,h7⟩:=h;exact⟨h1,h2,h3,h4,h5,h6,λy hy=>by simpa using h7 y hy⟩
def B21(r:Row):Prop:=∀ (kV doc pm:Ä) (an:Option Ç) (cdv ct:Ä) (us:List Ä),us.length=r.ps.length->bindArgs (fnOf r.nm r.nm (J20 r.st) (i00 r.st) (b90 r.st) .none kV doc pm an cdv ct) ⟨us,[]⟩=pure (r.ps.zip us)
def o90:List Row->Prop
 |[]=>True|r::l=>B21 r/\o90 l
theorem o90.at:∀ {l:List Row}{r:Row},o90 l->r∈l->B21 r
 |_::_,_,h,.head _=>h.1|_::_,_,h,.tail _ m=>o90.at h.2 m
theorem us1(h:us.length=1):∃ a,us=[a]:=List.length_eq_one_iff.mp h
theorem us2(h:us.length=2):∃ a b,us=[a,b]:=by
 match us,h with
 |[a,b],_=>exact⟨a,b,rfl⟩
theorem us3(h:us.length=3):∃ a b c,us=[a,b,c]:=by
 match us,h with
 |[a,b,c],_=>exact⟨a,b,c,rfl⟩
def k22(fns:List (Str × List Str))(nums:List (Str × Int))(r:Row):Bool:=mtS r.lm fns nums h40 (b90 r.st) r.N r.b (i00 r.st)&&isQ r.b&&r.N.all (T60 (b90 r.st))&&B11 r.N r.ps (b90 r.st)
def G30(rows:List Row):List (Str × List Str):=rows.map λr=>(r.nm,r.ps)
def tabOf(rows:List Row):List Df:=rows.map λr=>Df.code r.ps.length r.N.length r.b
def H50(rows:List Row)(nums:List (Str × Int))(mn:List Str)(ex:List (Str × Ä8)):n70:=⟨rows.map (λr=>(r.nm,r.st))++ex,nums,"ValueError"::d92,mn,h40⟩
def clsAt(K:Â)(c:Nat):Addr:=(T90 K (h40.getD c "")).getD 0
theorem v82{K:Â}{C:Ç}{c:Nat}{x:Str}(hc:h40[c]?=some x)(h:Ñ8 K ã x=some (some (.ref C))):clsAt K c=C:=by
 unfold clsAt;rw[Ø,hc];show(T90 K x).getD 0=C;unfold T90;rw[h];rfl
theorem v92{K:Â}{h:é}{mg:Str->Option Ä}{q:n70}{x:Str}{j:Nat}(X:K.In h)(G:h.Ns ã mg)(F:Facts q K h)(hx:x∈q.cs)(hj:names12[j]?=some x)(hv:("ValueError":Str)∈q.ns):∃ C,Ñ8 K ã x=some (some (.ref C))/\R50 K mg C j/\Ì5 K C [.type "ValueError",.type "Exception",.type "BaseException",.type "object"] "ValueError.__new__"=true:=by
 obtain⟨C,hC,e⟩:=F.cl x hx;unfold a71 B01 at e;simp only[Ï8] at e;obtain⟨u1,u2,u3,u4,u5,hd,ve,ce,ex,ys⟩:=e;obtain⟨D,hD,ce⟩:=Ñ.mp ce;have lt:j < 12:=(ß.mp hj).1;refine⟨C,hC,⟨λi y hy=>?_,⟨u1,u2,u3,u4,u5,F.sp,F.tk⟩,hd,ve,mg_none_of X G (F.no _ hv),⟨D,mg_of X G (M50 hD),ce⟩,lt⟩,ex⟩;have hm:=H40 ys y (í hy);obtain⟨B,hB,hk⟩:=Ñ.mp hm;refine⟨B,mg_of X G (M50 hB),hk.trans (congrArg some (decide_eq_decide.mpr ⟨λq=>?_,λq=>?_⟩))⟩
 ·subst q;have nd:names12.Nodup:=by decide +kernel
  exact(List.getElem?_inj (ß.mp hy).1 nd).mp (hy.trans hj.symm)
 ·subst q;rw[hj] at hy;cases hy;rfl
section
variable {P:Ý}{w:ç}{K:Â}{mg:Str->Option Ä}{base:é}
theorem ok0(F:W90 P w K mg base (CX1 P w) k f fd ps sp):W90 P w K mg base CX0 k f fd ps (λvs H Q _=>sp vs H Q λ_ _ _=>False) :=
 ⟨λvs H Q E h=>F.len _ _ _ _ h,λA outer s H args us vs Q E hr he hb hv hs=>È3 (F.run A outer s H args us vs Q _ hr he hb hv hs) λr s' h=>by
  cases r with
  |error e =>
   obtain⟨_,_,_,_,_,_,_,_,_,_,_,_,_,hE⟩:=h;exact hE.elim
  |ok fl=>cases fl <;> exact h⟩
theorem W82:Þ9 (#[]:Array Ä).toList:=by first | trivial | (unfold Þ9;trivial)
theorem q40.noT[TB:Tb](h:q40 K H a xs):q40 K (hz none H) a xs:=by
 rcases h with (h | ⟨o,h⟩) | h
 ·exact .inl (.inl (d30 h (λq=>nomatch q)))
 ·exact .inl (.inr ⟨o,d30 h (λq=>nomatch q)⟩)
 ·exact .inr h
theorem w02[TB:Tb]{G:Gs}{T:List Df}{k f:Nat}{H:Hp}{a:Ç}{ns:List Int}(pure:b40 T k f [.d (.lst (ns.map D.int))] none=some (.ok (.d (.bl true)) none))(hH:∀ p∈TB.tb,H p.1=some (.tbl #[]))(hS:q40 K H a (ns.map V.int)) :
  spF K (lev G T k) f 1 [.ref a] H (λv _=>v=.bl true) λ_ _ _=>False:=by
 refine⟨rfl,none,none,[.d (.lst (ns.map D.int))],_,.cons ?_ .nil,⟨trivial,λp hp=>⟨#[],hH p hp,W82,λpos c e=>nomatch e⟩⟩,pure,λv H' x st rv=>Hd.bl_ (show Hd K (hz none H') (.bl true) v from rv)⟩;show Hd K (hz none H) (.lst (ns.map D.int)) (.ref a);unfold Hd;exact⟨a,ns.map V.int,rfl,hS.noT,HdA.ints ns⟩
end
def O32(nm:Str):Str:=(Ï6 nm ⟨.function,[],false,false,[]⟩ 0 0 .none).qual++"<lambda>"
theorem w12{rows:List Row}{f:Nat}{nm:Str}{ps:List Str}(h:(G30 rows)[f]?=some (nm,ps)):∃ r∈rows,rows[f]?=some r/\r.nm=nm/\r.ps=ps:=by
 unfold G30 at h;rw[Û] at h;obtain⟨r,h1,h2⟩:=Ì.mp h;cases h2;exact⟨r,í h1,h1,rfl,rfl⟩
section
variable [TB:Tb] {P:Ý}{w:ç}{K:Â}{h:é}{mg:Str->Option Ä}{base:é}{rows:List Row}{nums:List (Str × Int)}{mn:List Str}{ex:List (Str × Ä8)}
def w22(rows:List Row)(mn:List Str)(ex:List (Str × Ä8)):Prop:=∀ r∈rows,r.lm=true->r.nm∈mn/\∃ (sR:Ä8) (n:Nat),(("_law_refused":Str),sR)∈ex/\b90 sR=u40/\i00 sR=Y90 n/\B21 ⟨"_law_refused",["_law_call"],sR,[],.nil,false⟩
def L22[TB:Tb](K:Â)(rows:List Row):Prop:=∀ r∈rows,r.lm=true->∀ fd,(∃ f oc od sl,Ñ8 K ã r.nm=some (some (.ref f))/\K.lookup f=some ⟨oc,od,.func fd,sl⟩)->A32 K r.nm fd
theorem B31(X:K.In h)(Gn:h.Ns ã mg)(Q:Facts (H50 rows nums mn ex) K h):∀ c x,h40[c]?=some x->Ñ8 K ã x=some (some (.ref (clsAt K c)))/\R50 K mg (clsAt K c) c/\Ì5 K (clsAt K c) [.type "ValueError",.type "Exception",.type "BaseException",.type "object"] "ValueError.__new__"=true:=λc x hc=>by
 obtain⟨C,h1,h2,h3⟩:=v92 (x:=x) (j:=c) X Gn Q (í hc) hc Ë;rw[v82 hc h1];exact⟨h1,h2,h3⟩
theorem B41(X:K.In h)(Gn:h.Ns ã mg)(Q:Facts (H50 rows nums mn ex) K h)(bm:BMain mg base)(hR:w22 rows mn ex)(hr:r∈rows)(hlm:r.lm=true):∃ fR fdR,A22 P w K mg base (clsAt K) fR fdR:=by
 obtain⟨hmn,sR,n,g1,g2,g3,g4⟩:=hR r hr hlm;obtain⟨fR,fdR,a2,F2,oc2,od2,sl2,lk2⟩:=Q.fn ("_law_refused",sR) (ð _ g1);refine⟨fR,fdR,bm,λj hj=>?_,mg_of X Gn a2,F2.kp,F2.binds g4,λk=>p52 F2 g2 g3 (mg_none_of X Gn (Q.no _ (È _ (-0)))) (mg_none_of X Gn (Q.no _ (È _ (-0))))⟩
 have hx:∃ x,h40[j]?=some x:=⟨_,æ (by exact hj)⟩
 obtain⟨x,hx⟩:=hx;exact(B31 X Gn Q j x hx).2.1
theorem g62(X:K.In h)(Gn:h.Ns ã mg)(Q:Facts (H50 rows nums mn ex) K h)(ok:rows.all (k22 (G30 rows) nums)=true)(bd:o90 rows)(bm:BMain mg base)(hR:w22 rows mn ex)(hT:L22 K rows)(F0:FT):∀ k,GX P w K mg base (lev ⟨G30 rows,nums,F0,clsAt K,0⟩ (tabOf rows) k) h40:=by
 refine v72 (λp hp=>?_) (λn hn=>?_) (λc x hc=>?_) λf nm ps hf=>?_
 ·obtain⟨t,e⟩:=Q.it p hp;exact⟨t,mg_of X Gn e⟩
 ·exact mg_none_of X Gn (Q.no n (È _ hn))
 ·obtain⟨h1,_,h3⟩:=B31 X Gn Q c x hc;exact⟨mg_of X Gn h1,h3⟩
 ·obtain⟨r,hr,hr2,rfl,rfl⟩:=w12 hf;obtain⟨fa,fd,a1,F1,oc,od,sl,lk⟩:=Q.fn (r.nm,r.st) (Æ5 _ (Ö.mpr ⟨r,hr,rfl⟩));have rb:=Õ.mp ok r hr;unfold k22 at rb;simp only[Á] at rb;obtain⟨⟨⟨b1,b2⟩,b3⟩,b4⟩:=rb;refine⟨fa,fd,mg_of X Gn a1,F1.kp,F1.binds (bd.at hr),.inl ⟨r.lm,r.N,r.st,r.b,?_,F1,h01 b4,b3,b2,b1,λhlm=>?_⟩⟩
  ·unfold tabOf;rw[Û,hr2];rfl
  ·obtain⟨fR,fdR,L⟩:=B41 (P:=P) (w:=w) X Gn Q bm hR hr hlm;exact⟨fR,fdR,L,hT r hr hlm fd ⟨fa,oc,od,sl,a1,lk⟩⟩
theorem w32(X:K.In h)(Gn:h.Ns ã mg)(Q:Facts (H50 rows nums mn ex) K h)(ok:rows.all (k22 (G30 rows) nums)=true)(bd:o90 rows)(bm:BMain mg base)(hR:w22 rows mn ex)(hT:L22 K rows)(F0:FT)(k:Nat)(hi:rows[i]?=some r)(F1:Fun K r.nm r.nm r.st fa fd)
  (hfd:∃ f oc od sl,Ñ8 K ã r.nm=some (some (.ref f))/\K.lookup f=some ⟨oc,od,.func fd,sl⟩):W90 P w K mg base (CX1 P w) (k + 3) fa fd r.ps (spF K (lev ⟨G30 rows,nums,F0,clsAt K,0⟩ (tabOf rows) (k + 3)) i r.ps.length):=by
 have hr:=í hi;have rb:=Õ.mp ok r hr;unfold k22 at rb;simp only[Á] at rb;obtain⟨⟨⟨b1,b2⟩,b3⟩,b4⟩:=rb;have all:=g62 (P:=P) (w:=w) X Gn Q ok bd bm hR hT F0;refine A31 (G:=lev ⟨G30 rows,nums,F0,clsAt K,0⟩ (tabOf rows) (k + 2)) (F':=H00 (tabOf rows) (k + 3)) (all (k + 2)) F1 (h01 b4) b3 b1 b2 (λhlm=>?_) λl z=>?_
 ·obtain⟨fR,fdR,L⟩:=B41 (P:=P) (w:=w) X Gn Q bm hR hr hlm;exact⟨k,fR,fdR,rfl,L,hT r hr hlm fd hfd,λf nm ps h=>(all k).gok f nm ps h⟩
 ·show(match (tabOf rows)[i]? with | some d=>run (H00 (tabOf rows) (k + 2)) d l | none=>M.no) z=_
  unfold tabOf;rw[Û,hi];rfl
end
theorem B51{P:Ý}{w:ç}{K:Â}{mg mb:Str->Option Ä}{k:Nat}{fa a:Ç}{fd:Å2}{x:Str}{sp:Sp}{s₁:Æ}{vs:List Ä}{ns:List Int}{ts:List Ç}
  (KX:K.In s₁.heap) (hns:s₁.heap.Ns ã mg) (hb:s₁.heap.Ns Í9 mb) (hbb:∀ x:Str,x≠"__name__"->mb x=ï x) (hlim:s₁.heap.NoLimit) (hg:s₁.gens=#[])
  (ha:s₁.heap.get? a=some { cls:=.type "list",data:=.seq vs.toArray }) (hi:Ë7 vs ns) (hl:ns.length<=Ú) (hr:A30 k Ý2)
  (hT:∀ Pt∈ts,s₁.heap.get? Pt=some (È5 #[])/\K.lookup Pt=none/\∃ c,Ä9 K c Pt=true) (bmn:BMain mg s₁.heap)
  (F:∀ base:é,K.In base->base.Ns ã mg->BMain mg base->W90 P w K mg base CX0 k fa fd [x] sp) (hbind:∀ (s:Æ) (u:Ä),BindsTo s fd ⟨[u],[]⟩ [(x,u)])
  (hsp:∀ H:Hp,(∀ Pt∈ts,H Pt=some (.tbl #[]))->q40 K H a (ns.map V.int)->sp [.ref a] H (λv _=>v=.bl true) λ_ _ _=>False) :
  Î5 (Ô P w) Ý2 (.call (.ref fa) ⟨[.ref a],[]⟩) (λr s'=>r=.ok (.ret (.bool true))/\OldK s₁.heap s'.heap/\s'.os=s₁.os/\Ó4 s'.gens) s₁:=by
 have rv:=Q70 hi;have lenV:=hi.length;have naT:a ∉ ts:=λh=>by have:=(hT a h).1;rw[ha] at this;cases this
 have core:∀ H:Hp,(∀ Pt∈ts,H Pt=some (.tbl #[]))->(∀ b,H b=none∨b∈ts∨(b=a/\∃ xs,H b=some (.frz { cls:=.type "list",data:=.seq vs.toArray } (.lst xs))))->q40 K H a (ns.map V.int)->HOk P w H s₁.heap->(H a≠none->K.lookup a=none) ->
   Î5 (Ô P w) Ý2 (.call (.ref fa) ⟨[.ref a],[]⟩) (λr s'=>r=.ok (.ret (.bool true))/\OldK s₁.heap s'.heap/\s'.os=s₁.os/\Ó4 s'.gens) s₁:=by
  intro H hH hO hS hok hK;have plainN:∀ {b:Ç}{o:Obj},s₁.heap.get? b=some o->(∀ xs n,o.data≠.seq xs n)->(∀ xs,o.data≠.fields xs)->H b=none:=λ{b o} e d1 d2=>by
   rcases hO b with z | z | ⟨z,_⟩
   ·exact z
   ·have:=(hT b z).1;rw[e] at this;cases this;exact absurd rfl (d2 _)
   ·rw[z,ha] at e;cases e;exact absurd rfl (d1 _ _)
  have nsK:∀ {b:Ç}{m:Str->Option Ä},s₁.heap.Ns b m->(G61 s₁.heap H).Ns b m:=λ{b m} ⟨o,es,ep,e,d,r⟩=>⟨o,es,ep,I50 e (plainN e (λxs n z=>by rw[d] at z;cases z) λxs z=>by rw[d] at z;cases z),d,r⟩
  have hKb:K.In (G61 s₁.heap H):=λb o e=>I50 (KX b o e) (by
   rcases hO b with z | z | ⟨z,xs,z2⟩
   ·exact z
   ·rw[(hT b z).2.1] at e;cases e
   ·rw[z] at e z2;rw[hK (by rw[z2];exact λy=>nomatch y)] at e;cases e)
  have hM:Mod K mg (G61 s₁.heap H):=⟨hKb,nsK hns,⟨mb,nsK hb,hbb⟩,let ⟨mc,h1,h2⟩:=hlim;⟨mc,nsK h1,h2⟩⟩;have hBM:BMain mg (G61 s₁.heap H):=by
   obtain⟨bm,ob,b1,b2,b3,b4,b5,b6⟩:=bmn;exact⟨bm,ob,b1,b2,I50 b3 (plainN b3 (λxs n z=>by rw[b6] at z;cases z) λxs z=>by rw[b6] at z;cases z),b4,b5,b6⟩
  have e0:X41 P w K mg (G61 s₁.heap H) Ý2 [] s₁ H:=⟨rfl,hM,λb o e=>W61 e,Ú6 (p61 _ _),trivial,λb hb=>absurd (show b∈([]:List Ç) from hb) (by simp),hok,.of_eq hg⟩
  refine È3 ((F _ hKb (nsK hns) hBM).run Ý2 [] s₁ H ⟨[.ref a],[]⟩ [.ref a] [.ref a] _ _ hr e0 (hbind s₁ (.ref a)) (.cons rfl .nil) (hsp H hH hS)) λr s' h=>?_;cases r with
  |error e=>exact À2 h
  |ok fl =>
   cases fl with
   |next=>exact À2 h
   |brk=>exact À2 h|cont=>exact À2 h
   |ret u =>
    obtain⟨v,H',os,bare,un,hok',r',q⟩:=h;have q':v=.bl true:=q;subst q';obtain rfl:u=Î9 true:=r';refine⟨rfl,⟨λb o e=>?_,λb o e=>un.there b o e (by simp)⟩,os,bare⟩
    rcases hO b with z | z | ⟨z,xs,z2⟩
    ·exact .inl (un.keep b o e z (by intro y;exact absurd (show b∈([]:List Ç) from y) (by simp)) (by simp))
    ·obtain⟨t1,_,c,t2⟩:=hT b z;rw[e] at t1;cases t1;obtain⟨more,m1⟩:=un.tbls b _ (hH b z);have m2:s'.heap.get? b=some { cls:=.none,data:=.fields (#[]++more) }:=hok' b _ m1;have CH:=codeHd_of_K KX t2;exact .inr (.inl ⟨(CH.tab e).isCodeTable,rfl,#[],more,rfl,m2⟩)
    ·have z3:=un.frzs b _ _ z2;obtain⟨e1,_⟩:=hok b _ z2;obtain⟨e2,_⟩:=hok' b _ z3;rw[e] at e1;cases e1;exact .inl e2
 cases hk:K.lookup a with
 |some o =>
  have e:=KX a o hk;rw[ha] at e;cases e;refine core (λb=>if b∈ts then some (.tbl #[]) else none) (λPt h=>if_pos h) (λb=>?_) (.inr ⟨vs.toArray,_,hk,by rw[Ó,lenV];exact hl,by simpa using rv⟩) (λb u z=>?_) λz=>absurd (if_neg naT) z
  ·by_cases h:b∈ts
   ·exact .inr (.inl h)
   ·exact .inl (if_neg h)
  ·by_cases h:b∈ts
   ·have z':=(if_pos h).symm.trans z;cases z';exact(hT b h).1
   ·have z':=(if_neg h).symm.trans z;cases z'
 |none =>
  refine core (λb=>if b=a then some (.frz { cls:=.type "list",data:=.seq vs.toArray } (.lst (ns.map V.int))) else if b∈ts then some (.tbl #[]) else none) (λPt h=>?_) (λb=>?_) (.inl (.inr ⟨{ cls:=.type "list",data:=.seq vs.toArray },if_pos rfl⟩)) (λb u z=>?_) λ_=>hk
  ·rw[if_neg (λy=>naT (by rw[← y];exact h)),if_pos h]
  ·by_cases hb:b=a
   ·exact .inr (.inr ⟨hb,_,if_pos hb⟩)
   ·by_cases h:b∈ts
    ·exact .inr (.inl h)
    ·exact .inl (by rw[if_neg hb,if_neg h])
  ·by_cases hb:b=a
   ·have z':=(if_pos hb).symm.trans z;cases z';subst hb;exact⟨ha,by rw[É];exact hl,vs,_,rv,ha⟩
   ·replace z:=(if_neg hb).symm.trans z
    by_cases h:b∈ts
    ·have z':=(if_pos h).symm.trans z;cases z';exact(hT b h).1
    ·have z':=(if_neg h).symm.trans z;cases z'
theorem O81{l:PySem.W.OpenLaw}{n k:Nat}{q:Ý}{loose:List Str}{XP:(Str->Option Ä)->é->Prop}{d:DefRec}{A:n70}{x:Str}
  (hn:l.most=some n) (hn2:n<=Ú) (hdf:d.params.defaults=[]) (hr:A30 k Ý2)
  (F:∀ (w:ç) (mg:Str->Option Ä) (fa:Ç) (h:é) (K:Â),Facts A K h->K.In h->h.Ns ã mg->mg d.name=some (.ref fa) ->
   ∃ (fd:Å2) (ts:List Ç) (sp:Sp),(∀ Pt∈ts,h.get? Pt=some (È5 #[])/\K.lookup Pt=none/\∃ c,Ä9 K c Pt=true)/\(∀ (s:Æ) (u:Ä),BindsTo s fd ⟨[u],[]⟩ [(x,u)]) /\
    (∀ base:é,K.In base->base.Ns ã mg->BMain mg base->W90 l.prog w K mg base CX0 k fa fd [x] sp) /\
    ∀ (H:Hp) (a:Ç) (ns:List Int),ns.length<=n->(∀ Pt∈ts,H Pt=some (.tbl #[]))->q40 K H a (ns.map V.int)->sp [.ref a] H (λv _=>v=.bl true) λ_ _ _=>False) :
  PySem.W.WalkO q loose XP A.hook.says l.row.toRowW d [] (λf vs=>PySem.call f vs):=by
 refine Att.X90 hn hdf λw s₀ s₁ mg mb fa o pm cd doc a vs ns G Y ho hd hcd hmg hobj hints hlen hg=>?_;obtain⟨K,KX,FX⟩:=Y;obtain⟨fd,ts,sp,hT,hb,hF,hsp⟩:=F w mg fa _ K FX KX G.T.g hmg;exact B51 KX G.T.g G.T.b G.T.builtins G.T.nolimit hg hobj hints (Ò hlen hn2) hr hT G.T.bmain hF hb λH hH hS=>hsp H a ns hlen hH hS
theorem g72{l:PySem.W.OpenLaw}{rows:List Row}{nums:List (Str × Int)}{mn:List Str}{ex:List (Str × Ä8)}{k iL n:Nat}{rL:Row}(ok:rows.all (k22 (G30 rows) nums)=true)(bd:o90 rows)(hL:rows[iL]?=some rL)(hn:rL.nm="law")(hp:rL.ps=[("_law_script":Str)])(hmn:mn.length<=1)(hR:w22 rows mn ex)
  (pure:∀ ns:List Int,ns.length<=n->b40 (tabOf rows) (k + 3) iL [.d (.lst (ns.map D.int))] none=some (.ok (.d (.bl true)) none)) (w:ç) (mg:Str->Option Ä) (fa:Ç) (h:é) (K:Â) (Q:Facts (H50 rows nums mn ex) K h) (X:K.In h) (Gn:h.Ns ã mg) (hfa:mg "law"=some (.ref fa)) :
   ∃ (fd:Å2) (ts:List Ç) (sp:Sp),(∀ Pt∈ts,h.get? Pt=some (È5 #[])/\K.lookup Pt=none/\∃ c,Ä9 K c Pt=true)/\(∀ (s:Æ) (u:Ä),BindsTo s fd ⟨[u],[]⟩ [("_law_script",u)]) /\
    (∀ base:é,K.In base->base.Ns ã mg->BMain mg base->W90 l.prog w K mg base CX0 (k + 3) fa fd ["_law_script"] sp) /\
    ∀ (H:Hp) (a:Ç) (ns:List Int),ns.length<=n->(∀ Pt∈ts,H Pt=some (.tbl #[]))->q40 K H a (ns.map V.int)->sp [.ref a] H (λv _=>v=.bl true) λ_ _ _=>False:=by
 have hrL:rL∈rows:=í hL;obtain⟨fL,fdL,aL,FL,ocL,odL,slL,lkL⟩:=Q.fn (rL.nm,rL.st) (Æ5 _ (Ö.mpr ⟨rL,hrL,rfl⟩));have bL:=bd.at hrL;have e:=hfa.symm.trans (mg_of X Gn (by rw[← hn];exact aL))
 cases e;have bT:∀ (s:Æ) (u:Ä),BindsTo s fdL ⟨[u],[]⟩ [("_law_script",u)]:=by
  obtain⟨_,_,kV,doc,pm,an,cdv,ct,_,e,_,_⟩:=FL.ex;subst e;intro s u;have:=bL kV doc pm an cdv ct [u] (by rw[hp];rfl)
  rw[hp] at this;exact .of_eq this
 have fin:∀ (TB:Tb) (ts:List Ç),(∀ p∈TB.tb,p.1∈ts)->(∀ Pt∈ts,h.get? Pt=some (È5 #[])/\K.lookup Pt=none/\∃ c,Ä9 K c Pt=true)->L22 K rows ->
   ∃ (fd:Å2) (ts:List Ç) (sp:Sp),(∀ Pt∈ts,h.get? Pt=some (È5 #[])/\K.lookup Pt=none/\∃ c,Ä9 K c Pt=true)/\(∀ (s:Æ) (u:Ä),BindsTo s fd ⟨[u],[]⟩ [("_law_script",u)]) /\
    (∀ base:é,K.In base->base.Ns ã mg->BMain mg base->W90 l.prog w K mg base CX0 (k + 3) fa fd ["_law_script"] sp) /\
    ∀ (H:Hp) (a:Ç) (ns:List Int),ns.length<=n->(∀ Pt∈ts,H Pt=some (.tbl #[]))->q40 K H a (ns.map V.int)->sp [.ref a] H (λv _=>v=.bl true) λ_ _ _=>False:=λTB ts h1 h2 h3=>by
  refine⟨fdL,ts,λvs H Q _=>spF K (lev ⟨G30 rows,nums,λ_ _ _=>M.no,clsAt K,0⟩ (tabOf rows) (k + 3)) iL 1 vs H Q λ_ _ _=>False,h2,bT,λbase kb nb bm=>?_,λH a ns hl hH hS=>w02 (pure ns hl) (λp hp=>hH p.1 (h1 p hp)) hS⟩;have F:=ok0 (w32 (P:=l.prog) (w:=w) X Gn Q ok bd bm hR h3 (λ_ _ _=>M.no) k hL FL ⟨fa,ocL,odL,slL,aL,lkL⟩);rw[hp] at F;exact F
 match mn,hmn,Q with
 |[],_,Q =>
  exact fin ⟨[]⟩ [] (λp hp=>by cases hp) (λp hp=>by cases hp) λr hr hlm=>by
   have:=(hR r hr hlm).1;cases this
 |[m],_,Q =>
  obtain⟨T,t1,t2,f,oc,od,fd,sl,c,t3,t4,t5,t6⟩:=Q.mt m (.head _);refine fin ⟨[(T,O32 m)]⟩ [T] (λp hp=>?_) (λp hp=>?_) λr hr hlm fd' h'=>?_
  ·cases è.mp hp;exact .head _
  ·cases è.mp hp;exact⟨t1,t2,c,t6⟩
  ·have hm:r.nm=m:=è.mp (hR r hr hlm).1;rw[hm] at h' ⊢;obtain⟨f',oc',od',sl',e1,e2⟩:=h';rw[t3] at e1;cases e1;rw[t4] at e2;cases e2;exact⟨c,T,O32 m,t5,t6,λ_ _ _ _=>rfl,.head _,λp hp _=>by cases è.mp hp;rfl⟩
end Q
namespace Q
open L2 (D)
open PySem (Paired)
def h31:Ex->Bool
 |.var _=>false|_=>true
def W92:Ex->Env->Option (Option S)
 |.var i,ρ=>ρ[i]?|_,_=>none
def O42:Option (Option S)->Option S
 |some (some s)=>noS s|_=>none
def blS:S->Option Bool
 |.d (.bl b)=>some b|_=>none
abbrev Du{α:Type}(_:α->Z->Prop)(_:Nat->Z->Prop):Type:=Unit
abbrev Dv{α:Type}(_:α->Prop):Type:=Unit
structure W{α:Type}(m:M α)(z:Z)(Q:α->Z->Prop)(E:Nat->Z->Prop)(du:Du Q E:=()):Prop where
 ex:∃ r,m z=some r/\match r with
  |.ok a z1=>Q a z1|.er c z1=>E c z1
theorem W_e{α:Type}{m:M α}{Q:α->Z->Prop}:W m z Q E↔∃ r,m z=some r/\match r with
  |.ok a z1=>Q a z1|.er c z1=>E c z1:=⟨W.ex,W.mk⟩
abbrev NE:Nat->Z->Prop:=λ_ _=>False
def Get{α:Type}(o:Option α)(P:α->Prop)(_:Dv P:=()):Prop:=match o with
 |some a=>P a|none=>False
theorem w42{α:Type}{a:α}{P:α->Prop}:Get (some a) P↔P a:=Ú8
theorem j60{α:Type}{o:Option α}{P:α->Prop}(h:Get o P):∃ a,o=some a/\P a:=by
 cases o with
 |none=>exact h.elim|some a=>exact⟨a,rfl,h⟩
theorem a00{α:Type}{o:Option α}{a:α}{P:α->Prop}(h:o=some a)(hp:P a):Get o P:=by rw[h];exact hp
theorem B61{α:Type}{o:Option α}{P P':α->Prop}(h:∀ a,P a↔P' a):Get o P↔Get o P':=by
 cases o with
 |none=>exact Ú8|some a=>exact h a
section
variable {α β:Type}{m:M α}{z z1:Z}{Q Q':α->Z->Prop}{E E':Nat->Z->Prop}
theorem W.mono(h:W m z Q E)(hq:∀ a z,Q a z->Q' a z)(he:∀ c z,E c z->E' c z):W m z Q' E':=by
 obtain⟨r,e,h⟩:=h;refine⟨r,e,?_⟩;cases r with
 |ok a z1=>exact hq _ _ h|er c z1=>exact he _ _ h
theorem W.imp(h:W m z Q NE)(hq:∀ a z,Q a z->Q' a z):W m z Q' E':=h.mono hq λ_ _ h=>h.elim
theorem W.ok{a:α}(h:W m z (λb z2=>b=a/\z2=z1) NE):m z=some (.ok a z1):=by
 obtain⟨r,e,h⟩:=h;cases r with
 |ok b z2=>obtain⟨rfl,rfl⟩:=h;exact e
 |er c z2=>exact h.elim
theorem W.er(h:W m z (λ_ _=>False) (λd z2=>d=c/\z2=z1)):m z=some (.er c z1):=by
 obtain⟨r,e,h⟩:=h;cases r with
 |ok b z2=>exact h.elim|er d z2=>obtain⟨rfl,rfl⟩:=h;exact e
theorem O52{a:α}(h:m z=some (.ok a z1)):W m z Q E↔Q a z1:=by
 rw[W_e];constructor
 ·rintro ⟨r,e,q⟩;rw[h] at e;cases e;exact q
 ·exact λq=>⟨_,h,q⟩
theorem X02{c:Nat}(h:m z=some (.er c z1)):W m z Q E↔E c z1:=by
 rw[W_e];constructor
 ·rintro ⟨r,e,q⟩;rw[h] at e;cases e;exact q
 ·exact λq=>⟨_,h,q⟩
theorem A20{a:α}:W (M.ret a) z Q E↔Q a z:=O52 rfl
theorem w52:W (M.no:M α) z Q E↔False:=⟨λ⟨_,e,_⟩=>(by cases e),À2⟩
theorem p00{f:α->M β}{Q:β->Z->Prop}:W (M.bind m f) z Q E↔W m z (λa z1=>W (f a) z1 Q E) E:=by
 constructor
 ·rintro ⟨r,e,q⟩;unfold M.bind at e;split at e
  ·rename_i a z1 e1;exact⟨_,e1,r,e,q⟩
  ·rename_i c z1 e1;cases e;exact⟨_,e1,q⟩
  ·cases e
 ·rintro ⟨r,e,q⟩;cases r with
  |ok a z1 =>
   obtain⟨r,e2,q⟩:=q;refine⟨r,?_,q⟩;unfold M.bind;rw[e];exact e2
  |er c z1 =>
   refine⟨.er c z1,?_,q⟩;unfold M.bind;rw[e]
theorem U81:W (M.calm m) z Q E↔W m z Q NE:=by
 rw[W_e,W_e];unfold M.calm;constructor
 ·rintro ⟨r,e,q⟩;split at e
  ·rename_i a z1 e1;cases e;exact⟨_,e1,q⟩
  ·cases e
 ·rintro ⟨r,e,q⟩;cases r with
  |ok a z1=>exact⟨.ok a z1,by rw[e],q⟩|er c z1=>exact q.elim
theorem g82(h:∀ a z,Q a z↔Q' a z):W m z Q E↔W m z Q' E:=⟨λx=>x.mono (λa z=>(h a z).mp) λ_ _ h=>h,λx=>x.mono (λa z=>(h a z).mpr) λ_ _ h=>h⟩
theorem wR{a:α}:Q a z↔W (M.ret a) z Q E:=A20.symm
theorem wN:False↔W (M.no:M α) z Q E:=w52.symm
theorem wT{c:Prop}[Decidable c]{a b:M α}{A B:Prop}(h1:A↔W a z Q E)(h2:B↔W b z Q E):(if c then A else B)↔W (if c then a else b) z Q E:=by
 split <;> assumption
theorem wG{o:Option β}{f:β->M α}{K:β->Prop}(h:∀ a,K a↔W (f a) z Q E):Get o K↔W (M.bind (M.of o) f) z Q E:=by
 cases o with
 |none=>exact w52.symm|some a=>exact h a
theorem wB{m:M β}{f:β->M α}{V:Prop}{K:β->Z->Prop}(h1:V↔W m z K E)(h2:∀ a z1,K a z1↔W (f a) z1 Q E):V↔W (M.bind m f) z Q E:=h1.trans ((g82 h2).trans p00.symm)
end
def Wm{α:Type}(o:Option (R α))(Q:α->Z->Prop)(E:Nat->Z->Prop):Prop:=match o with
 |some (.ok a z1)=>Q a z1|some (.er c z1)=>E c z1|none=>False
theorem wM{α:Type}{m:M α}{z:Z}{Q:α->Z->Prop}{E:Nat->Z->Prop}:Wm (m z) Q E↔W m z Q E:=by
 rw[W_e];unfold Wm;cases h:m z with
 |none=>exact⟨À2,λ⟨_,e,_⟩=>by cases e⟩
 |some r =>
  refine⟨λq=>⟨r,rfl,?_⟩,λ⟨_,e,q⟩=>?_⟩
  ·cases r <;> exact q
  ·cases e;cases r <;> exact q
def Vr(o:Option (Option S))(z:Z)(Q:List S->Z->Prop)(_:Du Q NE:=()):Prop:=match o with
 |some (some s)=>Q [plS s] z|_=>False
def WV:FT->Ex->Env->Z->(List S->Z->Prop)->(Nat->Z->Prop)->Prop
 |F,.nil=>λρ z Q E=>Q [] z|F,.cons a r=>λρ z Q E=>WV F a ρ z (λx z1=>Get (one x) λs=>WV F r ρ z1 (λy z2=>Q (s::y) z2) E) E|F,.con x=>λρ z Q E=>Q [.d x] z|F,.gint g i=>λρ z Q E=>Q [.d (.int i)] z|F,.tup as=>λρ z Q E=>WV F as ρ z (λl z1=>Get (plA l) λds=>if ds.length<=most then Q [.d (.tup ds)] z1 else False) E|F,.lst as=>λρ z Q E=>WV F as ρ z (λl z1=>Get (plA l) λds=>if ds.length<=most then Q [.fr ds] z1 else False) E|F,.bin o a b=>λρ z Q E=>WV F a ρ z (λx z1=>Get (pl x) λdx=>WV F b ρ z1 (λy z2=>Get (pl y) λdy=>Get (A50 o dx dy) λs=>Q [s] z2) E) E|F,.cmp o a b=>λρ z Q E=>WV F a ρ z (λx z1=>Get (pl x) λdx=>WV F b ρ z1 (λy z2=>Get (pl y) λdy=>Get (D20 o dx dy) λt=>Q [.d (.bl t)] z2) E) E|F,.neg a=>λρ z Q E=>WV F a ρ z (λx z1=>Get ((pl x).bind asI) λi=>Q [.d (.int (-i))] z1) E|F,.not a=>λρ z Q E=>WV F a ρ z (λx z1=>Get ((pl x).bind asB) λb=>Q [.d (.bl !b)] z1) E|F,.and a b=>λρ z Q E=>WV F a ρ z (λx z1=>Get ((pl x).bind asB) λc=>if c then WV F b ρ z1 (λy z2=>Get ((pl y).bind asB) λc=>Q [.d (.bl c)] z2) E else Q [.d (.bl false)] z1) E|F,.or a b=>λρ z Q E=>WV F a ρ z (λx z1=>Get ((pl x).bind asB) λc=>if c then Q [.d (.bl true)] z1 else WV F b ρ z1 (λy z2=>Get ((pl y).bind asB) λc=>Q [.d (.bl c)] z2) E) E|F,.orT a b=>λρ z Q E=>WV F a ρ z (λx z1=>Get ((pl x).bind p82) λl=>if l.isEmpty then WV F b ρ z1 (λy z2=>Get ((pl y).bind p82) λl=>Q [.d (.tup l)] z2) NE else Q [.d (.tup l)] z1) NE|F,.ite c a b=>λρ z Q E=>WV F c ρ z (λx z1=>Get ((pl x).bind asB) λc=>if c then WV F a ρ z1 Q E else WV F b ρ z1 Q E) E|F,.ch o o' a b c=>λρ z Q E=>WV F a ρ z (λx z1=>Get (pl x) λdx=>WV F b ρ z1 (λy z2=>Get (pl y) λdy=>Get (D20 o dx dy) λt=>if t then WV F c ρ z2 (λw z3=>Get (pl w) λdw=>Get (D20 o' dy dw) λt=>Q [.d (.bl t)] z3) E else Q [.d (.bl false)] z2) E) E|F,.bf f as=>λρ z Q E=>WV F as ρ z (λl z1=>Get (plA l) λds=>Get (bfD f ds) λs=>Q [s] z1) E|F,.isi t a=>λρ z Q E=>WV F a ρ z (λx z1=>Get (pl x) λx=>Q [.d (.bl (T11 t x))] z1) E|F,.idx a i=>λρ z Q E=>WV F a ρ z (λx z1=>Get (pl x) λdx=>WV F i ρ z1 (λy z2=>Get (pl y) λdy=>Get (Z20 dx dy) λr=>Q [.d r] z2) E) E|F,.sl a lo hi=>λρ z Q E=>WV F a ρ z (λx z1=>Get (pl x) λdx=>WV F lo ρ z1 (λu z2=>Get (v41 u) λu=>WV F hi ρ z2 (λv z3=>Get (v41 v) λv=>Get (slD dx u v) λs=>Q [s] z3) E) E) E|F,.rev a=>λρ z Q E=>WV F a ρ z (λx z1=>Get ((pl x).bind N62) λs=>Q [s] z1) E|F,.call f as=>λρ z Q E=>WV F as ρ z (λl z1=>W (F false f (l.map plS)) z1 (λs z2=>Q [s] z2) E) E|F,.comp own capt p it src cond el=>λρ z Q E=>WV F src ρ z (λl z1=>Get ((plA l).bind (itD it)) λxs=>if xs.length<=most then W (turns (o50 (ev F cond) (ev F el) p (ë own none++capt.map λi=>(ρ[i]?).getD none)) xs) z1 (λys z2=>Q [.fr ys] z2) NE else False) E|F,.lrng b as=>λρ z Q E=>WV F as ρ z (λl z1=>Get ((plA l).bind lrD) λxs=>Q [lrS b xs] z1) E|F,.refd capt a=>λρ z Q E=>Get (M01 ρ capt) λss=>WV (λ_=>F true) a (ss.map some) z (λ_ _=>False) (λc z1=>if c < 12 then Q [.fr [.int c]] z1 else False)|F,.var i=>λρ z Q E=>Vr ρ[i]? z Q|F,.zget i k=>λρ z Q E=>Wm (v51 k ρ[i]? z) Q E
def WE(F:FT)(e:Ex)(ρ:Env)(z:Z)(Q:List S->Z->Prop)(E:Nat->Z->Prop)(_:Du Q E:=()):Prop:=WV F e ρ z Q E
def WX(F:FT)(tp:Bool):Sm->Env->Z->(O->Z->Prop)->(Nat->Z->Prop)->Prop
 |.nil=>λρ z Q E=>Q (.nx ρ) z
 |.seq s r=>λρ z Q E=>WX F tp s ρ z (λo z1=>match o with
  |.nx ρ=>WX F tp r ρ z1 Q E
  |.rt s=>Q (.rt s) z1) E
 |.set p e=>λρ z Q E=>WE F e ρ z (λl z1=>Get (one l) λs=>Get (S00 p s (k80 s ρ)) λρ'=>Q (.nx ρ') z1) E|.ret e=>λρ z Q E=>if h31 e then WE F e ρ z (λl z1=>Get ((one l).bind noS) λs=>Q (.rt s) z1) E else Get (O42 (W92 e ρ)) λs=>Q (.rt s) z|.iff c t e=>λρ z Q E=>WE F c ρ z (λx z1=>Get ((pl x).bind asB) λb=>if b then WX F tp t ρ z1 Q E else WX F tp e ρ z1 Q E) E|.exp e=>λρ z Q E=>WE F e ρ z (λl z1=>Get (one l) λ_=>Q (.nx ρ) z1) E|.rais c=>λρ z Q E=>E c z|.fr p it src b=>λρ z Q E=>WE F src ρ z (λl z1=>Get ((plA l).bind (itD it)) λxs=>W (X10 (λx ρ=>M.bind (M.of (e60 p x ρ)) λρ=>ex F tp b ρ) xs (v61 it src l ρ)) z1 Q E) E|.whl c b=>λρ z Q E=>W (T21 (ev F c) (ex F tp b) j72 ρ) z Q E|.zset i e=>λρ z Q E=>WE F e ρ z (λl z1=>Get ((pl l).bind asI) λv=>Wm (v81 ρ v ρ[i]? z1) Q E) E|.app i e=>λρ z Q E=>Get (ownAt ρ i) λxs=>WE F e ρ z (λl z1=>Get (pl l) λx=>if bare x=true/\xs.length < most then Q (.nx (ρ.set i (some (.fr (xs++[x]))))) z1 else False) E|.newz i f as=>λρ z Q E=>WE F (.call f as) ρ z (λl z1=>Wm (v71 tp ρ i l) Q E) E|.augi i ix e=>λρ z Q E=>Get (ownAt ρ i) λxs=>WE F ix ρ z (λj z1=>Get ((pl j).bind asI) λj=>Get (L2.atI xs j) λy=>WE F e ρ z1 (λl z2=>Get (pl l) λx=>Get ((asI x).bind λx=>(asI y).map λy=>D.int (y + x)) λv=>Get (G90 xs j v) λxs=>Q (.nx (ρ.set i (some (.fr xs)))) z2) E) E
def WS(F:FT)(tp:Bool)(s:Sm)(ρ:Env)(z:Z)(Q:O->Z->Prop)(E:Nat->Z->Prop)(_:Du Q E:=()):Prop:=WX F tp s ρ z Q E
theorem w62:W (ev F (.refd capt a) ρ) z Q E↔Get (M01 ρ capt) λss=>W (ev (n40 F) a (ss.map some)) z (λ_ _=>False) (λc z1=>if c < 12 then Q [.fr [.int c]] z1 else False):=by
 show W (p92 (M01 ρ capt) λρ'=>ev (n40 F) a ρ') z Q E↔_;rw[W_e];unfold p92;constructor
 ·rintro ⟨r,e,q⟩;split at e
  ·cases e
  ·rename_i ss h1;split at e
   ·rename_i c z1 h2;split at e
    ·rename_i h3;cases e;refine a00 h1 ⟨_,h2,?_⟩;dsimp only;rw[if_pos h3];exact q
    ·cases e
   ·cases e
 ·intro h;obtain⟨ss,h1,r,h2,q⟩:=j60 h;cases r with
  |ok a z1=>exact q.elim
  |er c z1 =>
   dsimp only at q;split at q
   ·rename_i h3;refine⟨.ok [.fr [.int c]] z1,?_,q⟩;rw[h1];dsimp only;rw[h2];dsimp only;rw[if_pos h3]
   ·exact q.elim
theorem w72:∀ (e:Ex) {F:FT}{ρ:Env}{z:Z}{Q:List S->Z->Prop}{E:Nat->Z->Prop},WV F e ρ z Q E↔W (ev F e ρ) z Q E:=by
 intro e
 induction e with
 |nil=>intros;exact wR|cons a r ha hr=>intros;exact wB ha λx z1=>wG λs=>wB hr λy z2=>wR
 |var i =>
  intro F ρ z Q E;show Vr ρ[i]? z Q↔W (match ρ[i]? with | some (some s)=>M.ret [plS s] | _=>M.no) z Q E
  generalize ρ[i]?=o
  match o with
  |some (some s)=>exact wR|some none=>exact wN|none=>exact wN
 |con x=>intros;exact wR|gint g i=>intros;exact wR|tup a ha=>intros;exact wB ha λl z1=>wG λds=>wT wR wN|lst a ha=>intros;exact wB ha λl z1=>wG λds=>wT wR wN|bin o a b ha hb=>intros;exact wB ha λx z1=>wG λdx=>wB hb λy z2=>wG λdy=>wG λs=>wR|cmp o a b ha hb=>intros;exact wB ha λx z1=>wG λdx=>wB hb λy z2=>wG λdy=>wG λs=>wR|neg a ha=>intros;exact wB ha λx z1=>wG λi=>wR|not a ha=>intros;exact wB ha λx z1=>wG λi=>wR|and a b ha hb=>intros;exact wB ha λx z1=>wG λc=>wT (wB hb λy z2=>wG λc=>wR) wR|or a b ha hb=>intros;exact wB ha λx z1=>wG λc=>wT wR (wB hb λy z2=>wG λc=>wR)|orT a b ha hb=>intros;refine Iff.trans ?_ U81.symm;exact wB ha λx z1=>wG λl=>wT (wB hb λy z2=>wG λl=>wR) wR|ite c a b hc ha hb=>intros;exact wB hc λx z1=>wG λc=>wT ha hb|ch o o' a b c ha hb hc=>intros;exact wB ha λx z1=>wG λdx=>wB hb λy z2=>wG λdy=>wG λt=>wT (wB hc λw z3=>wG λdw=>wG λt=>wR) wR|bf f a ha=>intros;exact wB ha λl z1=>wG λds=>wG λs=>wR|isi t a ha=>intros;exact wB ha λx z1=>wG λx=>wR|idx a i ha hi=>intros;exact wB ha λx z1=>wG λdx=>wB hi λy z2=>wG λdy=>wG λr=>wR|sl a l h ha hl hh=>intros;exact wB ha λx z1=>wG λdx=>wB hl λu z2=>wG λu=>wB hh λv z3=>wG λv=>wG λs=>wR|rev a ha=>intros;exact wB ha λx z1=>wG λs=>wR|call f a ha=>intros;exact wB ha λl z1=>wB Ú8 λs z2=>wR|comp own capt p it src cond el hs hc he=>intros;exact wB hs λl z1=>wG λxs=>wT (wB U81.symm λys z2=>wR) wN|zget i k=>intros;exact wM (m:=v51 k _)|lrng b a ha=>intros;exact wB ha λl z1=>wG λxs=>wR|refd capt a ha=>intros;exact(B61 λss=>ha).trans w62.symm
theorem c50{e:Ex}{F:FT}{ρ:Env}{z:Z}{Q:List S->Z->Prop}{E:Nat->Z->Prop}:WE F e ρ z Q E↔W (ev F e ρ) z Q E:=w72 e
theorem L32{F:FT}{tp:Bool}{ρ:Env}{e:Ex}(h:h31 e=true):ex F tp (.ret e) ρ=M.bind (ev F e ρ) λl=>M.bind (M.of ((one l).bind noS)) λs=>M.ret (.rt s):=by
 cases e with
 |var i=>cases h
 |_=>rfl
theorem w82{F:FT}{tp:Bool}:∀ (s:Sm) {ρ:Env}{z:Z}{Q:O->Z->Prop}{E:Nat->Z->Prop},WX F tp s ρ z Q E↔W (ex F tp s ρ) z Q E:=by
 intro s
 induction s with
 |nil=>intros;exact wR
 |seq s r hs hr =>
  intros;refine wB hs λo z1=>?_;cases o with
  |nx ρ=>exact hr|rt s=>exact wR
 |set p e=>intros;exact wB c50 λl z1=>wG λs=>wG λρ'=>wR
 |ret e =>
  intro ρ z Q E;show(if h31 e then _ else _)↔_;cases h:h31 e with
  |true =>
   refine(iff_of_eq (if_pos rfl)).trans ?_;rw[L32 h];exact wB c50 λl z1=>wG λs=>wR
  |false =>
   cases e with
   |var i =>
    refine(iff_of_eq (if_neg Ð)).trans ?_;show Get (O42 ρ[i]?) _↔W (match ρ[i]? with | some (some s)=>M.bind (M.of (noS s)) λs=>M.ret (O.rt s) | _=>M.no) z Q E
    generalize ρ[i]?=o
    match o with
    |some (some s)=>exact wG λs=>wR|some none=>exact wN|none=>exact wN
   |_=>cases h
 |iff c t u ht hu=>intros;exact wB c50 λx z1=>wG λc=>wT ht hu|exp e=>intros;exact wB c50 λl z1=>wG λs=>wR|rais c=>intros;exact(X02 rfl).symm|fr p it src b ih=>intros;exact wB c50 λl z1=>wG λxs=>Ú8|whl c b ih=>intros;exact Ú8|zset i e=>intros;exact wB c50 λl z1=>wG λv=>wM (m:=v81 _ v _)|app i e=>intros;exact wG λxs=>wB c50 λl z1=>wG λx=>wT wR wN|newz i f as=>intros;exact wB c50 λl z1=>wM (m:=λ_=>v71 tp _ i l)|augi i ix e=>intros;exact wG λxs=>wB c50 λj z1=>wG λj=>wG λy=>wB c50 λl z2=>wG λx=>wG λv=>wG λxs=>wR
theorem U00:WS F tp s ρ z Q E↔W (ex F tp s ρ) z Q E:=w82 s
theorem WS.mono{s:Sm}{F:FT}{tp:Bool}{ρ:Env}{z:Z}{Q Q':O->Z->Prop}{E E':Nat->Z->Prop}(h:WS F tp s ρ z Q E)(hq:∀ a z,Q a z->Q' a z)(he:∀ c z,E c z->E' c z):WS F tp s ρ z Q' E':=U00.mpr (W.mono (U00.mp h) hq he)
theorem g92(Mid:Env->Z->Prop)(h:WS F tp s ρ z (λo z1=>match o with
  |.nx ρ=>Mid ρ z1
  |.rt s=>Q (.rt s) z1) E) (h2:∀ ρ z,Mid ρ z->WS F tp r ρ z Q E):WS F tp (.seq s r) ρ z Q E:=by
 refine WS.mono (s:=s) h (λo z1 h=>?_) λ_ _ h=>h;cases o with
 |nx ρ=>exact h2 ρ z1 h|rt s=>exact h
section
variable {T:List Df}{k f ps ns:Nat}{b:Sm}{l:List S}{z:Z}{Q:S->Z->Prop}{E:Nat->Z->Prop}
theorem w92(h:T[f]?=some (.code ps ns b))(hl:l.length=ps)(hn:ps<=ns):W (b40 T (k + 3) f l) z Q E↔WS (H00 T (k + 2)) z.isNone b (start ns (l.map plS)) z (λo z1=>match o with
  |.nx _=>Q (.d .non) (L40 z z1)
  |.rt s=>Q s (L40 z z1)) λc z1=>E c (L40 z z1):=by
 refine Iff.trans ?_ U00.symm;rw[Z40,h];show W (λz=>if l.length=ps/\ps<=ns then(match ex (H00 T (k + 2)) z.isNone b (start ns (l.map plS)) z with
  |some (.ok (.nx _) z1)=>some (R.ok (S.d .non) (L40 z z1))|some (.ok (.rt s) z1)=>some (.ok s (L40 z z1))|some (.er c z1)=>some (.er c (L40 z z1))
  |none=>none) else none) z Q E↔_
 rw[W_e,W_e];constructor
 ·rintro ⟨r,e,q⟩;rw[if_pos ⟨hl,hn⟩] at e;split at e
  ·rename_i ρ z1 e1;cases e;exact⟨_,e1,q⟩
  ·rename_i s z1 e1;cases e;exact⟨_,e1,q⟩
  ·rename_i c z1 e1;cases e;exact⟨_,e1,q⟩
  ·cases e
 ·rintro ⟨r,e,q⟩;rw[if_pos ⟨hl,hn⟩,e]
  match r,q with
  |.ok (.nx ρ) z1,q=>exact⟨_,rfl,q⟩|.ok (.rt s) z1,q=>exact⟨_,rfl,q⟩|.er c z1,q=>exact⟨_,rfl,q⟩
end
section
variable {F:FT}{tp:Bool}{ρ:Env}{z:Z}{E:Nat->Z->Prop}
theorem b21{f:D->M (Option D)}{o:D->Option D}:∀ {xs:List D}{Q:List D->Z->Prop},(∀ x∈xs,f x z=some (.ok (o x) z))->(W (turns f xs) z Q E↔Q (xs.filterMap o) z)
 |[],Q,_=>A20
 |x::r,Q,h=>by
  show W (M.bind (f x) _) z Q E↔_;rw[p00,O52 (h x Ë),p00,b21 λy hy=>h y (È _ hy),A20];rw[Á4];cases o x <;> rfl
theorem h41{f:D->M (Option D)}{I:Z->Prop}{P:D->D->Prop}:∀ {xs:List D}{z:Z}{Q:List D->Z->Prop},I z->(∀ x∈xs,∀ z,I z->W (f x) z (λo z1=>I z1/\∃ y,o=some y/\P x y) NE)->(∀ ys z1,I z1->Å9 P xs ys->Q ys z1)->W (turns f xs) z Q E
 |[],z,Q,hi,_,q=>A20.mpr (q [] z hi .nil)
 |x::r,z,Q,hi,h,q=>by
  show W (M.bind (f x) _) z Q E;rw[p00];refine(h x Ë z hi).imp λo z1 ⟨hi1,y,e,hp⟩=>?_;subst e;rw[p00];refine h41 hi1 (λx' hx'=>h x' (È _ hx')) λys z2 hi2 hps=>?_;exact A20.mpr (q _ _ hi2 (.cons hp hps))
theorem U91(I:List D->Env->Z->Prop):∀ (xs:List D) {ρ:Env}{z:Z},I xs ρ z->(∀ x r ρ z,I (x::r) ρ z->W (f x ρ) z (λo z1=>match o with
  |.nx ρ=>I r ρ z1
  |.rt s=>Q (.rt s) z1) E)->(∀ ρ z,I [] ρ z->Q (.nx ρ) z)->W (X10 f xs ρ) z Q E
 |[],ρ,z,hi,_,q=>A20.mpr (q _ _ hi)
 |x::r,ρ,z,hi,h,q=>by
  show W (M.bind (f x ρ) _) z Q E;rw[p00];refine(h x r ρ z hi).mono (λo z1 ho=>?_) λ_ _ h=>h;cases o with
  |nx ρ1=>exact U91 I r ho h q|rt s=>exact A20.mpr ho
theorem x02{c:Env->M (List S)}{f:Env->M O}{Q:O->Z->Prop}(I:Nat->Env->Z->Prop)(step:∀ n ρ z,I n ρ z->W (c ρ) z (λx z1=>Get ((pl x).bind asB) λk=>if k then W (f ρ) z1 (λo z2=>match o with
  |.nx ρ=>∃ m,m < n/\I m ρ z2
  |.rt s=>Q (.rt s) z2) E else Q (.nx ρ) z1) E):∀ (n m:Nat) {ρ:Env}{z:Z},I n ρ z->n < m->W (T21 c f m ρ) z Q E:=by
 intro n
 induction n using Nat.strongRecOn with
 |ind n ih =>
  intro m ρ z hi hm;cases m with
  |zero=>omega
  |succ m =>
   show W (M.bind (c ρ) _) z Q E;rw[p00];refine(step n ρ z hi).mono (λx z1 h=>?_) λ_ _ h=>h;obtain⟨k,e,h⟩:=j60 h;refine(wG (K:=λk=>if k=true then W (M.bind (f ρ) _) z1 Q E else W (M.ret (O.nx ρ)) z1 Q E) λk=>wT Ú8 Ú8).mp (a00 e ?_);cases k with
   |true =>
    rw[if_pos rfl] at h ⊢;rw[p00];refine h.mono (λo z2 h=>?_) λ_ _ h=>h;cases o with
    |nx ρ1 =>
     obtain⟨j,hj,hi⟩:=h;exact ih j hj m hi ∅
    |rt s=>exact A20.mpr h
   |false =>
    rw[if_neg Ð] at h ⊢;exact A20.mpr h
end
mutual
noncomputable def cE:D->Ex
 |.tup l=>.tup (cEs l)|.lst l=>.lst (cEs l)|.int i=>if i < 0 then .neg (.con (.int (-i))) else .con (.int i)|x=>.con x
noncomputable def cEs:List D->Ex
 |[]=>.nil|x::r=>.cons (cE x) (cEs r)
end
mutual
noncomputable def okC:D->Bool
 |.tup l=>decide (l.length<=most)&&L42 l|.lst l=>decide (l.length<=most)&&L42 l|_=>true
noncomputable def L42:List D->Bool
 |[]=>true|x::r=>okC x&&L42 r
end
def cX(d:D)(_:okC d=true):Ex:=cE d
section
variable {F:FT}{ρ:Env}{z:Z}{Q:List S->Z->Prop}{E:Nat->Z->Prop}{a b c as:Ex}{p:Pat}{ρ0:Env}{x:D}{Q1:Option D->Z->Prop}
theorem B71:W (o50 (ev F .nil) (ev F a) p ρ0 x) z Q1 E↔Get (e60 p x ρ0) λρ=>WE F a ρ z (λy z1=>Get (pl y) λd=>Q1 (some d) z1) E :=
 (wG λρ=>show _↔W (M.bind (ev F a ρ) λy=>M.bind (M.of (pl y)) λy=>M.ret (some y)) z Q1 E from wB c50 λy z1=>wG λd=>wR).symm
theorem x12{l:List S}{m:M (List S)}{V:Prop}(h:V↔W (M.bind m λy=>M.bind (M.of (pl y)) λy=>M.ret (some y)) z Q1 E):(match l with | [s]=>Get (blS s) λb=>if b then V else Q1 none z | _=>l=[]/\V)↔W (match l with
  |[]=>M.bind m λy=>M.bind (M.of (pl y)) λy=>M.ret (some y)|[.d (.bl true)]=>M.bind m λy=>M.bind (M.of (pl y)) λy=>M.ret (some y)|[.d (.bl false)]=>M.ret none
  |_=>M.no) z Q1 E:=by
 match l with
 |[]=>exact⟨λx=>h.mp x.2,λx=>⟨rfl,h.mpr x⟩⟩|[.d (.bl true)]=>exact w42.trans ((iff_of_eq (if_pos rfl)).trans h)|[.d (.bl false)]=>exact w42.trans ((iff_of_eq (if_neg Ð)).trans wR)|[.d .non]=>exact wN|[.d (.int _)]=>exact wN|[.d (.str _)]=>exact wN|[.d (.tup _)]=>exact wN|[.d (.lst _)]=>exact wN|[.d .dct]=>exact wN|[.fr _]=>exact wN|[.z]=>exact wN
 |s::_::_ =>
  refine⟨λx=>(by cases x.1),λx=>?_⟩
  cases s with
  |d y =>
   cases y with
   |bl b=>cases b <;> exact(w52.mp x).elim
   |_=>exact(w52.mp x).elim
  |_=>exact(w52.mp x).elim
theorem B81:W (o50 (ev F (.cons c .nil)) (ev F a) p ρ0 x) z Q1 E↔Get (e60 p x ρ0) λρ=>WE F c ρ z (λy z1=>Get (one y) λs=>Get (blS s) λb=>if b then WE F a ρ z1 (λy z2=>Get (pl y) λd=>Q1 (some d) z2) E else Q1 none z1) E:=by
 refine Iff.symm (wG λρ=>?_);refine wB (c50 (F:=F) (e:=.cons c .nil) (ρ:=ρ) (Q:=λl z1=>match l with | [s]=>Get (blS s) λb=>if b then WE F a ρ z1 (λy z2=>Get (pl y) λd=>Q1 (some d) z2) E else Q1 none z1 | _=>l=[]/\WE F a ρ z1 (λy z2=>Get (pl y) λd=>Q1 (some d) z2) E)) λl z1=>?_
 exact x12 (wB c50 λy z1=>wG λd=>wR)
end
section
variable {α:Type}{m:M α}{z z1:Z}{Q Q':α->Z->Prop}{E:Nat->Z->Prop}
theorem Wo(h:m z=some (.ok a z1))(q:Q a z1):W m z Q E:=⟨_,h,q⟩
theorem We(h:m z=some (.er c z1))(q:E c z1):W m z Q E:=⟨_,h,q⟩
end
theorem g50{T:List Df}{k f ps ns:Nat}{b:Sm}{l:List S}{z:Z}{Q:S->Z->Prop}{E:Nat->Z->Prop}(h:T[f]?=some (.code ps ns b))(hl:l.length=ps)(hn:ps<=ns)(q:WS (H00 T (k + 2)) z.isNone b (start ns (l.map plS)) z (λo z1=>match o with
  |.nx _=>Q (.d .non) (L40 z z1)
  |.rt s=>Q s (L40 z z1)) λc z1=>E c (L40 z z1)):W (b40 T (k + 3) f l) z Q E:=(w92 h hl hn).mpr q
theorem ib{b:Bool}{A B:Prop}(ht:b=true->A)(hf:b=false->B):if b=true then A else B:=by
 cases b with
 |true=>exact ht rfl|false=>exact hf rfl
theorem it{b:Bool}{A B:Prop}(h:b=true)(a:A):if b=true then A else B:=by rw[if_pos h];exact a
theorem ie{b:Bool}{A B:Prop}(h:b=false)(a:B):if b=true then A else B:=by rw[h];exact a
theorem ip{c:Prop}[Decidable c]{A B:Prop}(h:c)(a:A):if c then A else B:=by rw[if_pos h];exact a
theorem c40(z:Z):L40 z z=z:=by cases z <;> rfl
theorem sd{s t:S}{z:Z}(h:s=t):s=t/\L40 z z=z:=⟨h,c40 z⟩
theorem sb(h:b=c):S.d (.bl b)=S.d (.bl c)/\L40 z z=z:=sd (by rw[h])
section
variable {F:FT}{tp:Bool}{z:Z}{E:Nat->Z->Prop}{p:Pat}
theorem r20(I:List D->Env->Z->Prop)(xs:List D)(hi:I xs ρ z)(h:∀ x r ρ z,I (x::r) ρ z->Get (e60 p x ρ) λρ=>WS F tp b ρ z (λo z1=>match o with
  |.nx ρ=>I r ρ z1
  |.rt s=>Q (.rt s) z1) E) (q:∀ ρ z,I [] ρ z->Q (.nx ρ) z):W (X10 (λx ρ=>M.bind (M.of (e60 p x ρ)) λρ=>ex F tp b ρ) xs ρ) z Q E :=
 U91 I xs hi (λx r ρ z hi=>(wG λρ=>U00).mp (h x r ρ z hi)) q
theorem x22(I:Nat->Env->Z->Prop)(n:Nat)(hi:I n ρ z)(hn:n < j72)(h:∀ n ρ z,I n ρ z->WE F c ρ z (λx z1=>Get ((pl x).bind asB) λk=>if k then WS F tp b ρ z1 (λo z2=>match o with
  |.nx ρ=>∃ m,m < n/\I m ρ z2
  |.rt s=>Q (.rt s) z2) E else Q (.nx ρ) z1) E):W (T21 (ev F c) (ex F tp b) j72 ρ) z Q E:=by
 refine x02 I (λn ρ z hi=>?_) n j72 hi hn;refine(c50.mp (h n ρ z hi)).mono (λx z1 h=>?_) λ_ _ h=>h;obtain⟨k,e,h⟩:=j60 h;refine a00 e ?_;cases k with
 |true=>exact U00.mp h|false=>exact h
variable {ρ0:Env}{cond el:Ex}{xs:List D}{Q:List D->Z->Prop}
theorem p41(o:D->D)(h:∀ x∈xs,Get (e60 p x ρ0) λρ=>WE F el ρ z (λy z1=>Get (pl y) λd=>d=o x/\z1=z) NE)(q:Q (xs.map o) z):W (turns (o50 (ev F .nil) (ev F el) p ρ0) xs) z Q E:=by
 refine(b21 (o:=λx=>some (o x)) λx hx=>?_).mpr ?_
 ·refine W.ok (B71.mpr ?_);obtain⟨ρ,e,h⟩:=j60 (h x hx);refine a00 e (c50.mpr ((c50.mp h).imp λy z1 h=>?_));obtain⟨d,e,rfl,rfl⟩:=j60 h;exact a00 e ⟨rfl,rfl⟩
 ·rw[show xs.filterMap (λx=>some (o x))=xs.map o from congrFun (List.filterMap_eq_map (f:=o)) xs];exact q
theorem L52{c:D->Bool}{o:D->D}:∀ xs:List D,xs.filterMap (λx=>if c x then some (o x) else none)=(xs.filter c).map o
 |[]=>rfl
 |x::r=>by
  rw[Á4,Ñ7];cases hc:c x with
  |false=>exact L52 r|true=>exact congrArg (o x::·) (L52 r)
theorem h02(c:D->Bool)(o:D->D)(h:∀ x∈xs,Get (e60 p x ρ0) λρ=>WE F cond ρ z (λy z1=>Get (one y) λs=>s=.d (.bl (c x))/\z1=z/\(c x=true->WE F el ρ z (λy z1=>Get (pl y) λd=>d=o x/\z1=z) NE)) NE)(q:Q ((xs.filter c).map o) z):W (turns (o50 (ev F (.cons cond .nil)) (ev F el) p ρ0) xs) z Q E:=by
 refine(b21 (o:=λx=>if c x then some (o x) else none) λx hx=>?_).mpr ?_
 ·refine W.ok (B81.mpr ?_);obtain⟨ρ,e,h⟩:=j60 (h x hx);refine a00 e (c50.mpr ((c50.mp h).imp λy z1 h=>?_));obtain⟨s,e,rfl,rfl,h⟩:=j60 h;refine a00 e ?_;show if c x=true then _ else _;cases hc:c x with
  |false=>exact⟨rfl,rfl⟩
  |true =>
   refine c50.mpr ((c50.mp (h hc)).imp λy z1 h=>?_);obtain⟨d,e,rfl,rfl⟩:=j60 h;exact a00 e ⟨rfl,rfl⟩
 ·rw[L52];exact q
theorem x32{I:Z->Prop}(o:D->D):∀ {xs:List D}{z:Z}{Q:List D->Z->Prop},I z->(∀ x∈xs,∀ z,I z->Get (e60 p x ρ0) λρ=>WE F cond ρ z (λy z1=>Get (one y) λs=>I z1/\∃ b,s=.d (.bl b)/\(b=true->WE F el ρ z1 (λy z2=>Get (pl y) λd=>d=o x/\z2=z1) NE)) NE) ->
  (∀ ys z1,I z1->ys.Sublist (xs.map o)->Q ys z1)->W (turns (o50 (ev F (.cons cond .nil)) (ev F el) p ρ0) xs) z Q E
 |[],z,Q,hi,_,q=>A20.mpr (q [] z hi .slnil)
 |x::r,z,Q,hi,h,q=>by
  show W (M.bind (o50 _ _ p ρ0 x) _) z Q E;refine p00.mpr (B81.mpr ?_);obtain⟨ρ,e,h0⟩:=j60 (h x Ë z hi);refine a00 e (c50.mpr ((c50.mp h0).imp λy z1 h1=>?_));obtain⟨s,e,hi1,b,rfl,h2⟩:=j60 h1;refine a00 e ?_;show if b=true then _ else _;have hr:=λ{Q:List D->Z->Prop} (q:∀ ys z1,I z1->ys.Sublist (r.map o)->Q ys z1)=>x32 o (z:=z1) hi1 (λy hy=>h y (È _ hy)) q;cases b with
  |false=>exact p00.mpr (hr λys z2 hi2 hs=>A20.mpr (q ys z2 hi2 (hs.cons _)))
  |true =>
   refine c50.mpr ((c50.mp (h2 rfl)).imp λy z2 h3=>?_);obtain⟨d,e,rfl,rfl⟩:=j60 h3;exact a00 e (p00.mpr (hr λys z2 hi2 hs=>A20.mpr (q _ z2 hi2 (hs.cons_cons _))))
theorem X12{I:Z->Prop}{P:D->D->Prop}(hi:I z)(h:∀ x∈xs,∀ z,I z->Get (e60 p x ρ0) λρ=>WE F el ρ z (λy z1=>Get (pl y) λd=>I z1/\P x d) NE)(q:∀ ys z1,I z1->Å9 P xs ys->Q ys z1):W (turns (o50 (ev F .nil) (ev F el) p ρ0) xs) z Q E:=by
 refine h41 hi (λx hx z hz=>B71.mpr ?_) q;obtain⟨ρ,e,h⟩:=j60 (h x hx z hz);refine a00 e (c50.mpr ((c50.mp h).imp λy z1 h=>?_));obtain⟨d,e,h⟩:=j60 h;exact a00 e ⟨h.1,d,rfl,h.2⟩
end
theorem E50{s:S}{ρ:Env}(h:z90 s=true):k80 s ρ=ρ:=by
 unfold k80;rw[R90,h];rfl
theorem M60{F:FT}{tp:Bool}{p:Pat}{e:Ex}{r:Sm}{ρ:Env}{z:Z}{Q:O->Z->Prop}{E:Nat->Z->Prop}(s:S)(ρ':Env)(he:WE F e ρ z (λl z1=>Get (one l) λt=>t=s/\z1=z) NE)(hb:S00 p s (k80 s ρ)=some ρ')(q:WS F tp r ρ' z Q E):WS F tp (.seq (.set p e) r) ρ z Q E:=by
 show WE F e ρ z (λl z1=>Get (one l) λs=>Get (S00 p s (k80 s ρ)) λρ'=>WX F tp r ρ' z1 Q E) E;refine c50.mpr ((c50.mp he).imp λl z1 h=>?_);obtain⟨t,e,rfl,rfl⟩:=j60 h;exact a00 e (a00 hb q)
end Q
namespace K3
open PySem L2 Q
def top(i:Nat):Stmt:=ò.main.body.getD i (.Pass ⟨0,0,0,0⟩)
def nums:List (Str × Int):=[(("MOST_PLACES":Str),(6:Int)),(("MOST_TIES":Str),(8:Int)),(("MOST_BOTTOM":Str),(1000:Int))]
abbrev v0:Ex:=.var 0
abbrev v1:Ex:=.var 1
abbrev v2:Ex:=.var 2
abbrev v3:Ex:=.var 3
abbrev v4:Ex:=.var 4
abbrev v5:Ex:=.var 5
abbrev v6:Ex:=.var 6
abbrev v7:Ex:=.var 7
abbrev v8:Ex:=.var 8
abbrev v10:Ex:=.var 10
abbrev n0:Ex:=.con (.int 0)
abbrev n1:Ex:=.con (.int 1)
abbrev n2:Ex:=.con (.int 2)
abbrev c1(a:Ex):Ex:=.cons a .nil
abbrev c2(a b:Ex):Ex:=.cons a (.cons b .nil)
abbrev c3(a b c:Ex):Ex:=.cons a (.cons b (.cons c .nil))
abbrev c4(a b c d:Ex):Ex:=.cons a (.cons b (.cons c (.cons d .nil)))
abbrev c5(a b c d e:Ex):Ex:=.cons a (.cons b (.cons c (.cons d (.cons e .nil))))
abbrev s1(a:Sm):Sm:=.seq a .nil
abbrev p2(a b:Pat):Pat:=.tup (.cons a (.cons b .nil))
abbrev g70:Nat:=0
abbrev M70:Nat:=1
abbrev V01:Nat:=2
abbrev B91:Nat:=3
abbrev l00:Nat:=4
abbrev q60:Nat:=5
abbrev h51:Nat:=6
abbrev H60:Nat:=7
abbrev h61:Nat:=8
abbrev C01:Nat:=9
abbrev l10:Nat:=10
abbrev l80:Nat:=11
abbrev f70:Nat:=12
abbrev H70:Nat:=13
abbrev y50:Nat:=14
abbrev E60:Nat:=15
abbrev k40:Nat:=16
abbrev H80:Nat:=17
abbrev E70:Nat:=18
abbrev B10:Nat:=19
abbrev l90:Nat:=20
abbrev e40:Nat:=21
abbrev r70:Nat:=22
abbrev y60:Nat:=23
abbrev a50:Nat:=24
abbrev H90:Nat:=25
abbrev v00:Nat:=26
abbrev m00:Nat:=27
abbrev v40:Nat:=28
abbrev E80:Nat:=29
abbrev E90:Nat:=30
abbrev F00:Nat:=31
abbrev y70:Nat:=32
abbrev m20:Nat:=33
abbrev j70:Nat:=34
abbrev j80:Nat:=35
abbrev r80:Nat:=36
abbrev e30:Nat:=37
abbrev v50:Nat:=38
abbrev U10:Nat:=39
abbrev x42:Nat:=40
def g80:Sm:=(.seq (.whl (.cmp .gt v1 n0) (s1 (.set (p2 (.v 0) (.v 1)) (.tup (c2 v1 (.bin .mod v0 v1)))))) (s1 (.ret v0)))
def M80:Sm:=(.seq (.set (.v 2) (.call g70 (c2 v0 v1))) (s1 (.ret (.tup (c2 (.bin .fdiv v0 v2) (.bin .fdiv v1 v2))))))
def C11:Sm:=(s1 (.ret (.call M70 (c2 (.bin .add (.bin .mul (.idx v0 n0) (.idx v1 n1)) (.bin .mul (.idx v1 n0) (.idx v0 n1))) (.bin .mul (.idx v0 n1) (.idx v1 n1))))))
def b31:Sm:=(s1 (.ret (.call M70 (c2 (.bin .mul (.idx v0 n0) (.idx v1 n0)) (.bin .mul (.idx v0 n1) (.idx v1 n1))))))
def I00:Sm:=(s1 (.ret (.and (.isi .int v0) (.not (.isi .bool v0)))))
def x20:Sm:=(s1 (.ret (.and (.call l00 (c1 v0)) (.ch .le .lt n0 v0 v1))))
def M90:Sm:=(.seq (.iff (.or (.not (.isi .tuple v0)) (.cmp .ne (.bf .len (c1 v0)) n2)) (s1 (.ret (.con (.bl false)))) .nil) (.seq (.set (p2 (.v 2) (.v 3)) v0) (s1 (.ret (.and (.call q60 (c2 v2 v1)) (.and (.call q60 (c2 v3 v1)) (.cmp .lt v2 v3)))))))
def x30:Sm:=(.seq (.iff (.or (.not (.isi .tuple v0)) (.cmp .gt (.bf .len (c1 v0)) (.gint "MOST_TIES" 8))) (s1 (.ret (.con (.bl false)))) .nil) (.seq (.iff (.not (.bf .all (c1 (.comp 1 [1] (.v 0) .seq (c1 v0) .nil (.call h51 (c2 v0 v1)))))) (s1 (.ret (.con (.bl false)))) .nil) (s1 (.ret (.bf .all (c1 (.comp 2 [] (p2 (.v 0) (.v 1)) .zip (c2 v0 (.sl v0 (c1 n1) .nil)) .nil (.cmp .le v0 v1))))))))
def N00:Sm:=(.seq (.iff (.or (.not (.isi .tuple v0)) (.cmp .ne (.bf .len (c1 v0)) n2)) (s1 (.ret (.con (.bl false)))) .nil) (.seq (.set (p2 (.v 1) (.v 2)) v0) (s1 (.ret (.and (.call l00 (c1 v1)) (.and (.ch .le .le n1 v1 (.gint "MOST_PLACES" 6)) (.call H60 (c2 v2 v1))))))))
def b41:Sm:=(s1 (.ret (.bf .all (c1 (.comp 2 [] (p2 (.v 0) (.v 1)) .zip (c2 v0 (.sl v0 (c1 n1) .nil)) .nil (.cmp .lt v0 v1))))))
def f60:Sm:=(.seq (.iff (.not (.isi .tuple v0)) (s1 (.ret (.con (.bl false)))) .nil) (s1 (.ret (.and (.bf .all (c1 (.comp 1 [1] (.v 0) .seq (c1 v0) .nil (.call q60 (c2 v0 v1))))) (.call C01 (c1 v0))))))
def m30:Sm:=(s1 (.iff (.not (.call h61 (c1 v0))) (s1 (.rais 0)) .nil))
def f80:Sm:=(s1 (.iff (.or (.not (.call l10 (c2 v1 (.idx v0 n0)))) (.cmp .eq (.bf .len (c1 v1)) n0)) (s1 (.rais 2)) .nil))
def x40:Sm:=(.seq (.set (p2 (.v 2) (.v 3)) v0) (.seq (.set (.v 4) (.lrng false (c1 v2))) (.seq (.fr (.v 5) .seq (c1 v1) (.seq (.set (p2 (.v 6) (.v 7)) (.idx v3 v5)) (.seq (.set (.v 8) (.idx v4 v6)) (.seq (.set (.v 9) (.idx v4 v7)) (s1 (.set (.v 4) (.comp 1 [8,9] (.v 0) .seq (c1 v4) .nil (.ite (.cmp .eq v0 v2) v1 v0)))))))) (s1 (.ret v4)))))
def p10:Sm:=(.seq (.set (.v 3) (.call H70 (c2 v0 v1))) (s1 (.ret (.bf .all (c1 (.comp 1 [2,3] (.v 0) .seq (c1 v2) .nil (.cmp .eq (.idx v2 v0) (.idx v2 (.idx v1 n0)))))))))
def s50:Sm:=(.seq (.iff (.or (.not (.isi .tuple v0)) (.cmp .ne (.bf .len (c1 v0)) n2)) (s1 (.ret (.con (.bl false)))) .nil) (.seq (.set (p2 (.v 1) (.v 2)) v0) (.seq (.iff (.or (.not (.call l00 (c1 v1))) (.not (.call l00 (c1 v2)))) (s1 (.ret (.con (.bl false)))) .nil) (.seq (.iff (.or (.not (.ch .le .le n1 v2 (.gint "MOST_BOTTOM" 1000))) (.not (.ch .le .le n0 v1 v2))) (s1 (.ret (.con (.bl false)))) .nil) (s1 (.ret (.cmp .eq (.call g70 (c2 v1 v2)) n1)))))))
def f90:Sm:=(s1 (.iff (.not (.call E60 (c1 v0))) (s1 (.rais 5)) .nil))
def q70:Sm:=(.seq (.set (.v 1) (cX (.lst [(.tup [])]) (-0))) (.seq (.fr (.v 2) .rng1 (c1 (.bf .len (c1 (.idx v0 n1)))) (s1 (.set (.v 1) (.bin .add v1 (.comp 1 [2] (.v 0) .seq (c1 v1) .nil (.bin .add v0 (.tup (c1 v1)))))))) (s1 (.ret (.bf .sorted (c1 v1))))))
def i50:Sm:=(.seq (.exp (.call l80 (c1 v0))) (.seq (.exp (.call f70 (c2 v0 v1))) (s1 (.ret (.comp 1 [0,1] (.v 0) .seq (c1 (.call H80 (c1 v0))) (c1 (.call y50 (c3 v1 v0 v2))) v0)))))
def v60:Sm:=(.seq (.set (.v 2) (.call E70 (c2 v0 v1))) (.seq (.set (.v 3) (.bin .mul (cX (.lst [(.int 0)]) (-0)) (.bin .add (.bf .len (c1 (.idx v0 n1))) n1))) (.seq (.fr (.v 4) .seq (c1 v2) (s1 (.augi 3 (.bf .len (c1 v4)) n1))) (s1 (.ret v3)))))
def v70:Sm:=(.seq (.set (.v 2) (.call B10 (c2 v0 v1))) (.seq (.set (.v 3) (.bin .mul (cX (.lst [(.int 0)]) (-0)) (.bf .len (c1 v2)))) (.seq (.fr (p2 (.v 4) (.v 5)) .enum (c1 v2) (.seq (.set (.v 3) (.comp 2 [] (p2 (.v 0) (.v 1)) .zip (c2 v3 (.bin .add (cX (.lst [(.int 0)]) (-0)) v3)) .nil (.bin .sub v0 v1))) (s1 (.augi 3 v4 v5)))) (s1 (.ret v3)))))
def h80:Sm:=(.seq (.exp (.call l80 (c1 v0))) (.seq (.exp (.call f70 (c2 v0 v1))) (.seq (.exp (.call k40 (c1 v2))) (.seq (.set (.v 3) (cX (.tup [(.int 0),(.int 1)]) (-0))) (.seq (.fr (.v 4) .seq (c1 (.rev (.call l90 (c2 v0 v1)))) (s1 (.set (.v 3) (.call V01 (c2 (.call B91 (c2 v3 v2)) (.tup (c2 v4 n1))))))) (s1 (.ret v3)))))))
def g00:Sm:=(.seq (.iff (.cmp .lt v1 (.bf .len (c1 v0))) (s1 (.ret (.idx v0 v1))) .nil) (s1 (.ret n0)))
def j90:Sm:=(.seq (.set (.v 2) (.call r70 (c2 v0 v1))) (.seq (.iff (.cmp .ge v2 (.bin .pow (.con (.int 10)) (.con (.int 18)))) (s1 (.ret (.lst (c2 (.bin .sub v2 (.bin .pow (.con (.int 10)) (.con (.int 18)))) (.con (.bl true)))))) .nil) (s1 (.ret (.lst (c2 (.bin .mod v2 (.con (.int 2147483647))) (.con (.bl false))))))))
def s60:Sm:=(.seq (.iff (.zget 0 1) (.seq (.set (.v 2) (.bin .mod (.zget 0 0) v1)) (.seq (.zset 0 (.bin .fdiv (.zget 0 0) v1)) (s1 (.ret v2)))) .nil) (.seq (.zset 0 (.bin .mod (.bin .add (.bin .mul (.zget 0 0) (.con (.int 48271))) (.con (.int 29))) (.con (.int 2147483647)))) (.seq (.set (.v 3) (.bin .mod (.bin .add (.bin .add (.bin .mul (.zget 0 0) (.zget 0 0)) (.bin .mul (.con (.int 39373)) (.zget 0 0))) (.con (.int 7))) (.con (.int 2147483629)))) (.seq (.set (.v 3) (.bin .mod (.bin .add (.bin .mul v3 v3) (.bin .mul (.con (.int 16807)) v3)) (.con (.int 2147483587)))) (s1 (.ret (.bin .mod (.bin .fdiv v3 (.con (.int 8))) v1)))))))
def x50:Sm:=(.seq (.set (.v 2) (.idx (cX (.lst [(.int 6),(.int 5),(.int 4),(.int 3),(.int 4),(.int 5),(.int 2),(.int 1)]) (-0)) (.call a50 (c2 v0 (.con (.int 8)))))) (.seq (.set (.v 3) (.lst .nil)) (.seq (.iff (.and (.cmp .gt v2 n1) (.cmp .gt (.call a50 (c2 v0 (.con (.int 5)))) n0)) (s1 (.set (.v 3) (.comp 1 [0] (.v 0) .rng2 (c2 n1 v2) .nil (.tup (c2 (.call a50 (c2 v1 v0)) v0))))) .nil) (.seq (.fr (.v 4) .rng1 (c1 (.bin .mul (.call a50 (c2 v0 (.bin .add v1 n1))) (.bf .int (c1 (.cmp .gt v2 n1))))) (.seq (.set (.v 5) (.call a50 (c2 v0 v2))) (.seq (.set (.v 6) (.bin .mod (.bin .add (.bin .add v5 n1) (.call a50 (c2 v0 (.bin .sub v2 n1)))) v2)) (s1 (.app 3 (.tup (c2 (.bf .min (c2 v5 v6)) (.bf .max (c2 v5 v6))))))))) (s1 (.ret (.tup (c2 v2 (.bf .tuple (c1 (.bf .sorted (c1 (.sl v3 .nil (c1 v1))))))))))))))
def m40:Sm:=(.seq (.set (.v 2) (.call a50 (c2 v0 (.con (.int 4))))) (.seq (.iff (.or (.cmp .lt v2 n2) (.cmp .eq (.idx v1 n0) n1)) (s1 (.ret (.lrng true (c1 (.idx v1 n0))))) .nil) (.seq (.iff (.cmp .eq v2 n2) (.seq (.set (.v 3) (.call a50 (c2 v0 (.idx v1 n0)))) (s1 (.ret (.bf .tuple (c1 (.bf .sorted (c1 (.lst (c2 v3 (.bin .mod (.bin .add (.bin .add v3 n1) (.call a50 (c2 v0 (.bin .sub (.idx v1 n0) n1)))) (.idx v1 n0))))))))))) .nil) (s1 (.ret (.orT (.bf .tuple (c1 (.comp 1 [0] (.v 0) .rng1 (c1 (.idx v1 n0)) (c1 (.cmp .eq (.call a50 (c2 v1 n2)) n1)) v0))) (.tup (c1 (.bin .sub (.idx v1 n0) n1)))))))))
def m50:Sm:=(.seq (.set (p2 (.v 2) (.v 3)) (.tup (c2 v0 v1))) (.seq (.whl (.cmp .ne v3 n0) (s1 (.set (p2 (.v 2) (.v 3)) (.tup (c2 v3 (.bin .mod v2 v3)))))) (s1 (.ret (.tup (c2 (.bin .fdiv v0 v2) (.bin .fdiv v1 v2)))))))
def m60:Sm:=(.seq (.set (.v 1) (cX (.lst [(.tup [(.int 1),(.int 2)]),(.tup [(.int 2),(.int 3)]),(.tup [(.int 1),(.int 3)]),(.tup [(.int 3),(.int 4)]),(.tup [(.int 9),(.int 10)]),(.tup [(.int 0),(.int 1)]),(.tup [(.int 1),(.int 1)]),(.tup [(.int 1),(.int 1000)]),(.tup [(.int 999),(.int 1000)])]) (-0))) (.seq (.set (.v 2) (.call a50 (c2 v0 (.con (.int 16))))) (.seq (.iff (.cmp .lt v2 (.con (.int 9))) (s1 (.ret (.idx v1 v2))) .nil) (.seq (.set (.v 3) (.bin .add n1 (.call a50 (c2 v0 (.idx (cX (.lst [(.int 12),(.int 1000)]) (-0)) (.call a50 (c2 v0 n2))))))) (s1 (.ret (.call m00 (c2 (.call a50 (c2 v0 (.bin .add v3 n1))) v3))))))))
def s70:Sm:=(.seq (.set (.v 3) (.lst (c1 v2))) (.seq (.fr (.v 4) .rng1 (c1 (.idx v0 n0)) (s1 (.fr (.v 5) .seq (c1 v1) (.seq (.set (p2 (.v 6) (.v 7)) (.idx (.idx v0 n1) v5)) (.seq (.iff (.and (.cmp .mem v6 v3) (.cmp .nmem v7 v3)) (s1 (.set (.v 3) (.bin .add v3 (.lst (c1 v7))))) .nil) (s1 (.iff (.and (.cmp .mem v7 v3) (.cmp .nmem v6 v3)) (s1 (.set (.v 3) (.bin .add v3 (.lst (c1 v6))))) .nil))))))) (s1 (.ret (.bf .tuple (c1 (.bf .sorted (c1 v3))))))))
def s80:Sm:=(.seq (.set (.v 3) (.call E80 (c3 v0 v1 (.idx v2 n0)))) (s1 (.ret (.cmp .eq (.comp 1 [3] (.v 0) .seq (c1 v2) (c1 (.cmp .nmem v0 v1)) v0) (.lst .nil)))))
def F10:Sm:=(.seq (.set (.v 1) (cX (.lst [(.tup [])]) (-0))) (.seq (.fr (.v 2) .rng1 (c1 (.bf .len (c1 (.idx v0 n1)))) (s1 (.set (.v 1) (.bin .add v1 (.comp 1 [2] (.v 0) .seq (c1 v1) .nil (.bin .add v0 (.tup (c1 v1)))))))) (s1 (.ret (.bf .sorted (c1 v1))))))
def p20:Sm:=(s1 (.ret (.and (.isi .int v0) (.not (.isi .bool v0)))))
def d70:Sm:=(.seq (.iff (.or (.not (.isi .tuple v1)) (.cmp .ne (.comp 1 [] (.v 0) .seq (c1 v1) (c1 (.not (.call y70 (c1 v0)))) v0) (.lst .nil))) (s1 (.ret (.con (.bl false)))) .nil) (.seq (.iff (.cmp .ne (.comp 1 [0] (.v 0) .seq (c1 v1) (c1 (.not (.ch .le .lt n0 v0 v1))) v0) (.lst .nil)) (s1 (.ret (.con (.bl false)))) .nil) (s1 (.ret (.cmp .eq (.bf .list (c1 v1)) (.bf .sset (c1 v1)))))))
def e70:Sm:=(.seq (.set (.v 3) (.call a50 (c2 v0 (.bin .add (.bf .len (c1 v2)) n1)))) (.seq (.set (.v 4) (.idx (.lst (.cons (.call a50 (c2 v0 (.bin .add v1 n1))) (.cons v1 (.cons (.neg n1) (.cons (.con (.bl true)) (.cons (.con .non) (c5 (.con (.str "0")) (cX (.tup [(.int 0)]) (-0)) (.con (.bl false)) (.bin .pow (.con (.int 10)) (.con (.int 29))) n0))))))) (.call a50 (c2 v0 (.con (.int 10)))))) (.seq (.set (.v 5) (.lst (c4 (.bin .add (.bin .add (.sl v2 .nil (c1 v3)) (.tup (c1 v4))) (.sl v2 (c1 v3) .nil)) (.bin .add (.bin .add (.sl v2 .nil (c1 v3)) (.tup (c1 v4))) (.sl v2 (c1 (.bin .add v3 n1)) .nil)) (.bin .add (.sl v2 .nil (c1 v3)) (.sl v2 (c1 (.bin .add v3 n1)) .nil)) (.bf .list (c1 v2))))) (s1 (.ret (.idx (.bin .add v5 (.lst (.cons (.rev v2) (.cons (.bin .add v2 (.sl v2 (c1 (.neg n1)) .nil)) (c5 (.con .non) (.con .dct) n0 (.tup (c1 v2)) (.tup .nil)))))) (.call a50 (c2 v0 (.con (.int 11))))))))))
def e80:Sm:=(.seq (.set (.v 2) (.call a50 (c2 v0 (.bin .add (.bf .len (c1 v1)) n1)))) (.seq (.set (.v 3) (cX (.lst [(.tup [(.int 2),(.int 4)]),(.tup [(.int 1),(.int 0)]),(.tup [(.int 3),(.int 2)]),(.tup [(.int (-1)),(.int 2)]),(.tup [(.bl true),(.int 2)]),(.tup [(.int 1),(.bl true)]),(.tup [(.int 1),(.int 1001)]),(.tup [(.int 1)]),(.tup [(.int 1),(.int 2),(.int 3)]),(.lst [(.int 1),(.int 2)]),.non,(.str "1/2"),(.int 1)]) (-0))) (.seq (.set (.v 3) (.idx v3 (.call a50 (c2 v0 (.con (.int 13)))))) (.seq (.set (.v 4) (.lst (c5 (.bin .add (.bin .add (.sl v1 .nil (c1 v2)) (.tup (c1 v3))) (.sl v1 (c1 v2) .nil)) (.bin .add v1 (cX (.tup [(.tup [(.int 1),(.int 2)])]) (-0))) (.bf .list (c1 v1)) (.con .non) (.con .dct)))) (.seq (.iff (.cmp .ne v1 (.tup .nil)) (.seq (.set (.v 2) (.call a50 (c2 v0 (.bf .len (c1 v1))))) (s1 (.set (.v 4) (.bin .add (.bin .add v4 (.bin .mul (.lst (c1 (.bin .add (.bin .add (.sl v1 .nil (c1 v2)) (.tup (c1 v3))) (.sl v1 (c1 (.bin .add v2 n1)) .nil)))) (.con (.int 5)))) (.lst (c2 (.sl v1 (c1 n1) .nil) (.bin .add (.tup (c1 v1)) (.sl v1 (c1 n1) .nil)))))))) .nil) (s1 (.ret (.idx v4 (.call a50 (c2 v0 (.bf .len (c1 v4))))))))))))
def k50:Sm:=(.seq (.set (.v 1) (cX (.lst [.non,(.int 0),(.tup []),(.tup [(.int 7),(.tup [])]),(.tup [(.int 0),(.tup [])]),(.tup [(.int (-1)),(.tup [])]),(.tup [(.bl true),(.tup [])]),(.tup [(.int 2),(.lst [])]),(.lst [(.int 2),(.tup [])]),(.tup [(.int 2),(.tup [(.tup [(.int 1),(.int 0)])])]),(.tup [(.int 2),(.tup [(.tup [(.int 0),(.int 0)])])]),.dct]) (-0))) (.seq (.set (.v 1) (.bin .add v1 (.lst (c5 (.tup (c2 n2 (.bin .mul (cX (.tup [(.tup [(.int 0),(.int 1)])]) (-0)) (.con (.int 9))))) (cX (.tup [(.int 3),(.tup [(.tup [(.int 0),(.int 2)]),(.tup [(.int 0),(.int 1)])])]) (-0)) (cX (.tup [(.int 2),(.tup [(.tup [(.int 0),(.int 2)])])]) (-0)) (cX (.tup [(.int 2),(.tup [(.tup [(.int 0),(.bl true)])])]) (-0)) (cX (.tup [(.int 2),(.tup [(.tup [(.int 0),(.int 1),(.int 1)])])]) (-0)))))) (.seq (.set (.v 1) (.bin .add v1 (cX (.lst [(.tup [(.int 2),(.tup [(.int 0),(.int 1)])]),(.tup [(.int 2),.non]),(.tup [(.int 2),(.tup []),(.tup [])]),(.tup [(.int 2)]),(.tup [(.int 2),(.tup [(.lst [(.int 0),(.int 1)])])]),(.tup [(.int 2),(.tup [.non])]),(.tup [(.str "2"),(.tup [])]),(.str "2:")]) (-0)))) (s1 (.ret (.idx v1 (.call a50 (c2 v0 (.con (.int 25))))))))))
def i60:Sm:=(.seq (.iff (.isi .seq v1) (.seq (.iff (.or (.cmp .ne (.isi .tuple v0) (.isi .tuple v1)) (.cmp .ne (.isi .list v0) (.isi .list v1))) (s1 (.ret (.con (.bl false)))) .nil) (.seq (.iff (.cmp .ne (.bf .len (c1 v0)) (.bf .len (c1 v1))) (s1 (.ret (.con (.bl false)))) .nil) (s1 (.ret (.bf .all (c1 (.comp 2 [] (p2 (.v 0) (.v 1)) .zip (c2 v0 v1) .nil (.call e30 (c2 v0 v1))))))))) .nil) (s1 (.ret (.and (.cmp .eq v0 v1) (.cmp .eq (.isi .bool v0) (.isi .bool v1))))))
def h50:Sm:=(.seq (.set (.v 2) (.bin .mul (cX (.lst [(.int 0)]) (-0)) (.bin .add (.bf .len (c1 (.idx v0 n1))) n1))) (.seq (.fr (.v 3) .seq (c1 (.call F00 (c1 v0))) (s1 (.iff (.call E90 (c3 v0 v3 v1)) (.seq (.set (.v 4) (.bin .add (.bin .add (.bin .mul (cX (.lst [(.int 0)]) (-0)) (.bf .len (c1 v3))) (cX (.lst [(.int 1)]) (-0))) (.bin .mul (cX (.lst [(.int 0)]) (-0)) (.bin .sub (.bf .len (c1 (.idx v0 n1))) (.bf .len (c1 v3)))))) (.seq (.fr (.v 5) .rng1 (c1 (.bin .sub (.bf .len (c1 (.idx v0 n1))) (.bf .len (c1 v3)))) (s1 (.set (.v 4) (.comp 1 [4] (.v 0) .rng1 (c1 (.bf .len (c1 v4))) .nil (.bin .sub (.idx v1 v0) (.idx (.bin .add (cX (.lst [(.int 0)]) (-0)) v1) v0)))))) (s1 (.set (.v 2) (.comp 1 [2,4] (.v 0) .rng1 (c1 (.bf .len (c1 v2))) .nil (.bin .add (.idx v1 v0) (.idx v2 v0))))))) .nil))) (s1 (.ret v2))))
def F20:Sm:=(.seq (.set (p2 (.v 2) (.v 3)) v1) (.seq (.set (.v 4) n0) (.seq (.fr (.v 5) .rng1 (c1 (.bf .len (c1 v0))) (.seq (.set (.v 6) (.idx v0 v5)) (.seq (.fr (.v 7) .rng1 (c1 (.bin .sub (.bf .len (c1 v0)) n1)) (s1 (.set (.v 6) (.bin .mul v6 (.ite (.cmp .lt v7 v5) v2 v3))))) (s1 (.set (.v 4) (.bin .add v4 v6)))))) (.seq (.set (.v 8) n1) (.seq (.fr (.v 7) .rng1 (c1 (.bin .sub (.bf .len (c1 v0)) n1)) (s1 (.set (.v 8) (.bin .mul v8 v3)))) (s1 (.ret (.call m00 (c2 v4 v8)))))))))
def O91:Sm:=(.seq (.fr (.v 1) .rng1 (c1 (.bf .max (c2 n1 (.bf .min (c2 (.bf .len (c1 v0)) (.con (.int 4))))))) (.seq (.newz 2 y60 (c2 v0 v1)) (.seq (.set (.v 3) (.call H90 (c2 v2 (.idx (cX (.lst [(.int 8),(.int 6),(.int 7)]) (-0)) (.call a50 (c2 v2 (.con (.int 3)))))))) (.seq (.set (.v 4) (.call v00 (c2 v2 v3))) (.seq (.set (.v 5) (.call v50 (c2 v3 v4))) (.seq (.fr (.v 6) .rng1 (c1 n2) (.seq (.set (.v 7) (.call l90 (c2 v3 v4))) (.seq (.iff (.not (.call e30 (c2 v7 v5))) (s1 (.ret (.con (.bl false)))) .nil) (s1 (.app 7 n0))))) (.seq (.fr (.v 8) .seq (c1 (.lst (c4 (.call v40 (c1 v2)) (cX (.tup [(.int 0),(.int 1)]) (-0)) (cX (.tup [(.int 1),(.int 1)]) (-0)) (cX (.tup [(.int 1),(.int 2)]) (-0))))) (s1 (.iff (.not (.call e30 (c2 (.call e40 (c3 v3 v4 v8)) (.call U10 (c2 v5 v8))))) (s1 (.ret (.con (.bl false)))) .nil))) (.seq (.set (p2 (.v 9) (.v 10)) (.tup (c2 (.call r80 (c1 v2)) (.call j70 (c3 v2 (.idx v3 n0) v4))))) (.seq (.set (.v 11) (.call j80 (c2 v2 (.tup .nil)))) (.seq (.iff (.cmp .ne (.refd [9,10] (.call l90 (c2 v0 v1))) (cX (.lst [(.int 0)]) (-0))) (s1 (.ret (.con (.bl false)))) .nil) (.seq (.iff (.cmp .ne (.refd [9,10,11] (.call e40 (c3 v0 v1 v2))) (cX (.lst [(.int 0)]) (-0))) (s1 (.ret (.con (.bl false)))) .nil) (.seq (.iff (.cmp .ne (.refd [3,4,11] (.call e40 (c3 v0 v1 v2))) (cX (.lst [(.int 5)]) (-0))) (s1 (.ret (.con (.bl false)))) .nil) (s1 (.iff (.or (.not (.call m20 (c2 (.idx v3 n0) v10))) (.cmp .eq v10 (.tup .nil))) (.seq (.iff (.cmp .ne (.refd [3,10] (.call l90 (c2 v0 v1))) (cX (.lst [(.int 2)]) (-0))) (s1 (.ret (.con (.bl false)))) .nil) (s1 (.iff (.cmp .ne (.refd [3,10,11] (.call e40 (c3 v0 v1 v2))) (cX (.lst [(.int 2)]) (-0))) (s1 (.ret (.con (.bl false)))) .nil))) .nil)))))))))))))) (s1 (.ret (.con (.bl true)))))
def rows:List Row:=[(⟨"common_divisor",["one","other"],top 15,["one","other"],g80,false⟩:Row),
 (⟨"lowest",["top","bottom"],top 16,["top","bottom","divisor"],M80,false⟩:Row),
 (⟨"plus",["one","other"],top 17,["one","other"],C11,false⟩:Row),
 (⟨"times",["one","other"],top 18,["one","other"],b31,false⟩:Row),
 (⟨"is_whole",["thing"],top 22,["thing"],I00,false⟩:Row),
 (⟨"is_below",["thing","many"],top 23,["thing","many"],x20,false⟩:Row),
 (⟨"is_tie",["thing","many"],top 24,["thing","many","a","b"],M90,false⟩:Row),
 (⟨"are_ties",["thing","many"],top 25,["thing","many"],x30,false⟩:Row),
 (⟨"is_web",["thing"],top 26,["thing","many","ties"],N00,false⟩:Row),
 (⟨"rises",["things"],top 27,["things"],b41,false⟩:Row),
 (⟨"is_rising_below",["thing","many"],top 28,["thing","many"],f60,false⟩:Row),
 (⟨"check_web",["thing"],top 29,["thing"],m30,false⟩:Row),
 (⟨"check_places",["web","thing"],top 30,["web","thing"],f80,false⟩:Row),
 (⟨"marks_by",["web","lot"],top 31,["web","lot","many","ties","marks","number","a","b","kept","gone"],x40,false⟩:Row),
 (⟨"are_joined",["web","lot","places"],top 32,["web","lot","places","marks"],p10,false⟩:Row),
 (⟨"is_chance",["thing"],top 35,["thing","top","bottom"],s50,false⟩:Row),
 (⟨"check_chance",["thing"],top 36,["thing"],f90,false⟩:Row),
 (⟨"all_lots",["web"],top 38,["web","lots","number"],q70,false⟩:Row),
 (⟨"good_lots",["web","places"],top 39,["web","places"],i50,false⟩:Row),
 (⟨"counts",["web","places"],top 41,["web","places","lots","found","lot"],v60,false⟩:Row),
 (⟨"powers",["web","places"],top 42,["web","places","numbers","found","k","many"],v70,false⟩:Row),
 (⟨"share_at",["web","places","chance"],top 43,["web","places","chance","found","number"],h80,false⟩:Row),
 (⟨"_law_cell_at",["_law_script","_law_k"],top 45,["_law_script","_law_k"],g00,false⟩:Row),
 (⟨"_law_state",["_law_script","_law_k"],top 46,["_law_script","_law_k","_law_cell"],j90,false⟩:Row),
 (⟨"_law_take",["_law_state_here","_law_many"],top 47,["_law_state_here","_law_many","_law_found","_law_stirred"],s60,false⟩:Row),
 (⟨"_law_web",["_law_state_here","_law_most"],top 48,["_law_state_here","_law_most","_law_many","_law_ties","_law_turn","_law_one","_law_other"],x50,false⟩:Row),
 (⟨"_law_places",["_law_state_here","_law_web_here"],top 49,["_law_state_here","_law_web_here","_law_way","_law_one"],m40,false⟩:Row),
 (⟨"_law_lowest",["_law_top","_law_bottom"],top 50,["_law_top","_law_bottom","_law_one","_law_other"],m50,false⟩:Row),
 (⟨"_law_chance",["_law_state_here"],top 51,["_law_state_here","_law_some","_law_way","_law_bottom"],m60,false⟩:Row),
 (⟨"_law_with",["_law_web_here","_law_lot","_law_place"],top 52,["_law_web_here","_law_lot","_law_place","_law_found","_law_turn","_law_number","_law_one","_law_other"],s70,false⟩:Row),
 (⟨"_law_good",["_law_web_here","_law_lot","_law_places_here"],top 53,["_law_web_here","_law_lot","_law_places_here","_law_here"],s80,false⟩:Row),
 (⟨"_law_lots",["_law_web_here"],top 54,["_law_web_here","_law_found","_law_number"],F10,false⟩:Row),
 (⟨"_law_whole",["_law_thing"],top 55,["_law_thing"],p20,false⟩:Row),
 (⟨"_law_rising",["_law_many","_law_thing"],top 56,["_law_many","_law_thing"],d70,false⟩:Row),
 (⟨"_law_bent_rising",["_law_state_here","_law_many","_law_some"],top 57,["_law_state_here","_law_many","_law_some","_law_at_here","_law_odd","_law_found"],e70,false⟩:Row),
 (⟨"_law_bad_chances",["_law_state_here","_law_chances"],top 58,["_law_state_here","_law_chances","_law_at_here","_law_odd","_law_some"],e80,false⟩:Row),
 (⟨"_law_bad_web",["_law_state_here"],top 59,["_law_state_here","_law_some"],k50,false⟩:Row),
 (⟨"_law_same",["_law_found","_law_due"],top 60,["_law_found","_law_due"],i60,false⟩:Row),
 (⟨"_law_powers",["_law_web_here","_law_places_here"],top 62,["_law_web_here","_law_places_here","_law_found","_law_lot","_law_row","_law_turn"],h50,false⟩:Row),
 (⟨"_law_at",["_law_numbers","_law_chance_here"],top 63,["_law_numbers","_law_chance_here","_law_top","_law_bottom","_law_found","_law_at_here","_law_part","_law_turn","_law_whole_here"],F20,false⟩:Row),
 (⟨"law",["_law_script"],top 64,["_law_script","_law_k","_law_state_here","_law_web_here","_law_places_here","_law_due","_law_lap","_law_found","_law_chance_here","_law_bad","_law_odd","_law_none"],O91,true⟩:Row)]
def T:List Df:=[(Df.code 2 2 g80:Df),(Df.code 2 3 M80:Df),(Df.code 2 2 C11:Df),(Df.code 2 2 b31:Df),(Df.code 1 1 I00:Df),(Df.code 2 2 x20:Df),(Df.code 2 4 M90:Df),(Df.code 2 2 x30:Df),(Df.code 1 3 N00:Df),(Df.code 1 1 b41:Df),(Df.code 2 2 f60:Df),(Df.code 1 1 m30:Df),(Df.code 2 2 f80:Df),(Df.code 2 10 x40:Df),(Df.code 3 4 p10:Df),(Df.code 1 3 s50:Df),(Df.code 1 1 f90:Df),(Df.code 1 3 q70:Df),(Df.code 2 2 i50:Df),(Df.code 2 5 v60:Df),(Df.code 2 6 v70:Df),(Df.code 3 5 h80:Df),(Df.code 2 2 g00:Df),(Df.code 2 3 j90:Df),(Df.code 2 4 s60:Df),(Df.code 2 7 x50:Df),(Df.code 2 4 m40:Df),(Df.code 2 4 m50:Df),(Df.code 1 4 m60:Df),(Df.code 3 8 s70:Df),(Df.code 3 4 s80:Df),(Df.code 1 3 F10:Df),(Df.code 1 1 p20:Df),(Df.code 2 2 d70:Df),(Df.code 3 6 e70:Df),(Df.code 2 5 e80:Df),(Df.code 1 2 k50:Df),(Df.code 2 2 i60:Df),(Df.code 2 6 h50:Df),(Df.code 2 9 F20:Df),(Df.code 1 12 O91:Df)]
theorem X22:tabOf rows=T:=rfl
end K3
namespace K3
open Q
open L2 (D)
def p30:D->Bool
 |.int _=>true|_=>false
theorem m70(k:Nat)(x:D)(z:Z):b40 T (k + 3) l00 [.d x] z=some (.ok (.d (.bl (p30 x))) z):=by
 cases z <;> cases x <;> rfl
def b80(x:D)(m:Int):Bool:=match x with
 |.int i=>decide (0<=i)&&decide (i < m)|_=>false
theorem s90(k:Nat)(x:D)(m:Int)(z:Z):b40 T (k + 4) q60 [.d x,.d (.int m)] z=some (.ok (.d (.bl (b80 x m))) z):=by
 refine W.ok (g50 (ps:=2) (ns:=2) (b:=x20) rfl rfl (-0) (Wo (m70 (k:=k) x z) ?_))
 cases x with
 |int i=>exact ib (b:=decide (0<=i)) (λh=>sb (show decide (i < m)=(decide (0<=i)&&decide (i < m)) by rw[h];rfl)) λh=>sb (show false=(decide (0<=i)&&decide (i < m)) by rw[h];rfl)|_=>exact sb rfl
def G41(x:D)(m:Int):Bool:=match x with
 |.tup [a,b]=>b80 a m&&(b80 b m&&(match a,b with
  |.int i,.int j=>decide (i < j)
  |_,_=>false))
 |_=>false
theorem i70(h:b80 x m=true):∃ i,x=.int i/\0<=i/\i < m:=by
 cases x with
 |int i =>
  unfold b80 at h;rw[Á,decide_eq_true_eq,decide_eq_true_eq] at h;exact⟨i,rfl,h⟩
 |_=>cases h
theorem C21(k:Nat)(x:D)(m:Int)(z:Z):b40 T (k + 5) h51 [.d x,.d (.int m)] z=some (.ok (.d (.bl (G41 x m))) z):=by
 refine W.ok (g50 (ps:=2) (ns:=4) (b:=M90) rfl rfl (-0) ?_)
 cases x with
 |tup l =>
  match l with
  |[a,b] =>
   refine Wo (s90 k a m z) (ib (b:=b80 a m) (λh1=>Wo (s90 k b m z) (ib (b:=b80 b m) (λh2=>?_) λh=>?_)) λh=>?_)
   ·obtain⟨i,rfl,_⟩:=i70 h1;obtain⟨j,rfl,_⟩:=i70 h2;exact sb (show decide (i < j)=(b80 (.int i) m&&(b80 (.int j) m&&decide (i < j))) by rw[h1,h2];rfl)
   ·exact sb (show false=(b80 a m&&(b80 b m&&_)) by rw[h1,h];rfl)
   ·exact sb (show false=(b80 a m&&_) by rw[h];rfl)
  |[]=>exact sb rfl|[_]=>exact sb rfl|_::_::_::_=>exact sb rfl
 |_=>exact sb rfl
theorem F30(l:List D)(p:D->Bool):bfD .all [.lst (l.map λx=>D.bl (p x))]=some (.d (.bl (l.all p))):=by
 have h:(l.map λx=>D.bl (p x)).mapM asB=some (l.map p):=by
  induction l with
  |nil=>rfl
  |cons x r ih =>
   rw[Å7,mapM_cons,ih];rfl
 show((l.map λx=>D.bl (p x)).mapM asB).map _=_;rw[h];simp[all_map]
theorem h71(l:List D)(n:Nat):cutD l (some (n:Int)) none=l.drop n:=by
 have h1:HT.sIx l.length 0 (some (n:Int))=min n l.length:=HT.q91 l.length 0 n;unfold cutD;rw[h1];show((l.drop (min n l.length)).take (l.length - min n l.length))=_;rcases Nat.le_total n l.length with h | h
 ·rw[Ñ2 h,Ë6 (by rw[Í5];omega)]
 ·rw[Ì1 h,drop_length,List.take_nil,List.drop_of_length_le h]
theorem q80:∀ a b:List D,(n30 a b).length<=a.length
 |[],_=>Í _|_::_,[]=>Æ6 _|_::r,_::q=>Ü4 (q80 r q)
theorem N10:∀ {a b:List D}{d:D},d∈n30 a b->∃ x∈a,∃ y∈b,d=.tup [x,y]
 |x::r,y::q,d,h=>by
  rcases ú.mp h with h | h
  ·exact⟨x,Ë,y,Ë,h⟩
  ·obtain⟨u,hu,v,hv,e⟩:=N10 h;exact⟨u,È _ hu,v,È _ hv,e⟩
def leD:D->Bool
 |.tup [.tup a,.tup b]=>(match Z10 a,Z10 b with
  |some ns,some ms=>HT.leB ns ms
  |_,_=>false)
 |_=>false
def h81(l:List D):Bool:=(n30 l (l.drop 1)).all leD
def b51(x:D)(m:Int):Bool:=match x with
 |.tup l=>decide (l.length<=8)&&(l.all (λt=>G41 t m)&&h81 l)|_=>false
theorem U20(h:G41 x m=true):∃ i j,x=.tup [.int i,.int j]/\0<=i/\i < j/\j < m:=by
 cases x with
 |tup l =>
  match l,h with
  |[a,b],h =>
   unfold G41 at h;rw[Á,Á] at h;obtain⟨h1,h2,h3⟩:=h;obtain⟨i,rfl,i1,i2⟩:=i70 h1;obtain⟨j,rfl,j1,j2⟩:=i70 h2;exact⟨i,j,rfl,i1,of_decide_eq_true h3,j2⟩
 |_=>cases h
theorem n90(h:n<=1000):n<=most:=Ò h (-0)
theorem b61(k:Nat)(x:D)(m:Int)(z:Z):b40 T (k + 6) H60 [.d x,.d (.int m)] z=some (.ok (.d (.bl (b51 x m))) z):=by
 refine W.ok (g50 (ps:=2) (ns:=2) (b:=x30) rfl rfl (-0) ?_)
 cases x with
 |tup l =>
  refine ib (b:=decide ((8:Int) < (l.length:Int))) (λh=>?_) λh=>?_
  ·refine sb (show false=(decide (l.length<=8)&&_) from ?_);rw[decide_eq_true_eq] at h;rw[decide_eq_false ∅];rfl
  ·rw[decide_eq_false_iff_not] at h;have h8:l.length<=8:=by omega
   refine ip (n90 ∅) (p41 (λx=>.bl (G41 x m)) (λx _=>Wo (C21 k x m z) ⟨rfl,rfl⟩) ?_)
   refine(a00 (F30 l λx=>G41 x m) ?_ :);refine ib (b:=!l.all λx=>G41 x m) (λh=>?_) λh2=>?_
   ·exact sb (show false=(decide (l.length<=8)&&(l.all (λt=>G41 t m)&&h81 l)) by rw[À3] at h;rw[h,Õ6,Bool.and_false])
   ·rw[Í3] at h2;have ha:=Õ.mp h2;have e1:cutD l (some 1) none=l.drop 1:=h71 l 1;refine ip (c:=(n30 l (cutD l (some 1) none)).length<=most) (Ò (q80 _ _) (n90 ∅)) (p41 (λx=>.bl (leD x)) (λx hx=>?_) (a00 (F30 _ leD) ?_ :))
    ·obtain⟨u,hu,v,hv,rfl⟩:=N10 hx;rw[e1] at hv;obtain⟨i,j,rfl,_⟩:=U20 (ha u hu);obtain⟨i',j',rfl,_⟩:=U20 (ha v (List.mem_of_mem_drop hv));exact⟨rfl,rfl⟩
    ·refine sb (b:=(n30 l (cutD l (some 1) none)).all leD) ?_;show _=(decide (l.length<=8)&&(l.all (λt=>G41 t m)&&h81 l));rw[e1,h2,decide_eq_true h8,Å0,Å0];rfl
 |_=>exact sb rfl
def O62(a t:D):Bool:=match a with
 |.int m=>decide (1<=m)&&(decide (m<=6)&&b51 t m)|_=>false
def n51(x:D):Bool:=match x with
 |.tup [a,t]=>O62 a t|_=>false
theorem U30(k:Nat)(x:D)(z:Z):b40 T (k + 7) h61 [.d x] z=some (.ok (.d (.bl (n51 x))) z):=by
 refine W.ok (g50 (ps:=1) (ns:=3) (b:=N00) rfl rfl (-0) ?_)
 cases x with
 |tup l =>
  match l with
  |[a,t] =>
   refine Wo (m70 (k + 3) a _) ?_;cases a with
   |int m =>
    refine ib (b:=decide (1<=m)) (λg1=>ib (b:=decide (m<=6)) (λg2=>Wo (b61 k t m _) ?_) λg2=>?_) λg1=>?_
    ·exact sb (show b51 t m=(decide (1<=m)&&(decide (m<=6)&&b51 t m)) by rw[g1,g2];rfl)
    ·exact sb (show false=(decide (1<=m)&&(decide (m<=6)&&b51 t m)) by rw[g1,g2];rfl)
    ·exact sb (show false=(decide (1<=m)&&(decide (m<=6)&&b51 t m)) by rw[g1];rfl)
   |_=>exact sb rfl
  |[]=>exact sb rfl|[_]=>exact sb rfl|_::_::_::_=>exact sb rfl
 |_=>exact sb rfl
theorem g30(k:Nat)(z:Z)(h:n51 x=true):b40 T (k + 8) l80 [.d x] z=some (.ok (.d .non) z) :=
 W.ok (g50 (ps:=1) (ns:=1) (b:=m30) rfl rfl (-0) (Wo (U30 k x z) (ie (b:=!n51 x) (by rw[h];rfl) (sd rfl))))
theorem y80(k:Nat)(z:Z)(h:n51 x=false):b40 T (k + 8) l80 [.d x] z=some (.er 0 z) :=
 W.er (g50 (ps:=1) (ns:=1) (b:=m30) rfl rfl (-0) (Wo (U30 k x z) (it (b:=!n51 x) (by rw[h];rfl) ⟨rfl,c40 z⟩)))
theorem n61(hj:0 < j):A50 .mod (.int i) (.int j)=some (.d (.int (i % j))):=by
 show(if 0 < j then some (S.d (.int (i % j))) else none)=_;rw[if_pos hj]
def GT(n:Nat)(a b:Int):Prop:=0<=b/\((∃ k:Nat,n=2 * k + 1/\b < 2 ^ k)∨∃ k:Nat,n=2 * k/\b < a/\a < 2 ^ k)
theorem GT.step(h:GT n a b)(hb:0 < b):∃ m,m < n/\GT m b (a % b):=by
 obtain⟨h0,h⟩:=h;have r0:=Ö1 a (show b≠0 by omega)
 have r1:=emod_lt_of_pos a hb;rcases h with ⟨k,rfl,hk⟩ | ⟨k,rfl,hba,hk⟩
 ·exact⟨2 * k,Ì2 _,r0,.inr ⟨k,rfl,r1,hk⟩⟩
 ·cases k with
  |zero=>simp at hk;omega
  |succ k =>
   refine⟨2 * k + 1,by omega,r0,.inl ⟨k,rfl,?_⟩⟩
   have e:=Int.emod_add_mul_ediv a b;have q1:1<=a / b:=Int.le_ediv_of_mul_le hb ∅
   have:b * 1<=b * (a / b):=Int.mul_le_mul_of_nonneg_left q1 ∅
   have h2:(2:Int) ^ (k + 1)=2 * 2 ^ k:=by rw[Ç6,Ú7]
   rw[h2] at hk;omega
theorem C31(a b:Int):gcd b (a % b)=gcd a b:=by
 rw[Int.emod_def,Int.gcd_sub_mul_left_right,Int.gcd_comm]
def big(b:Int):Prop:=b < 2 ^ 4000
theorem h32(h0:0<=b)(h:big b):b.natAbs < O90:=by
 have h:b < 2 ^ 4000:=h;have e:((2 ^ 4000:Nat):Int)=2 ^ 4000:=by rw[Int.natCast_pow];rfl
 show b.natAbs < 2 ^ 4000;omega
theorem U40(h:b<=2 ^ 64):big b:=Int.lt_of_le_of_lt h (-0)
theorem l20(k:Nat)(a b:Int)(z:Z)(h0:0 < b)(h1:big b):b40 T (k + 3) g70 [.d (.int a),.d (.int b)] z=some (.ok (.d (.int (gcd a b))) z):=by
 refine W.ok (g50 (ps:=2) (ns:=2) (b:=g80) rfl rfl (-0) (x22 (λn ρ z1=>z1=z/\∃ c d:Int,ρ=[some (.d (.int c)),some (.d (.int d))]/\GT n c d/\gcd c d=gcd a b/\(d=0->0<=c)) (2 * 4000 + 1) ⟨rfl,a,b,rfl,⟨Int.le_of_lt h0,.inl ⟨4000,rfl,h1⟩⟩,rfl,λh=>by omega⟩ (-0) ?_))
 rintro n ρ z1 ⟨rfl,c,d,rfl,g,hg,hc⟩;refine ib (b:=decide (0 < d)) (λhd=>?_) λhd=>?_
 ·rw[decide_eq_true_eq] at hd;obtain⟨m,hm,g'⟩:=g.step hd;refine(a00 (n61 (i:=c) hd) ?_ :);exact⟨m,hm,rfl,d,c % d,rfl,g',(C31 c d).trans hg,λ_=>Int.le_of_lt hd⟩
 ·rw[decide_eq_false_iff_not] at hd;have hz:d=0:=by have:=g.1;omega
  subst hz;rw[Int.gcd_zero_right] at hg;refine sd (s:=.d (.int c)) ?_;rw[← hg,show((c.natAbs:Nat):Int)=c by have:=hc rfl;omega]
def chI(t b:Int):Bool:=(decide (1<=b)&&decide (b<=1000))&&((decide (0<=t)&&decide (t<=b))&&(((gcd t b:Nat):Int) == 1))
def chP:D->D->Bool
 |.int t,.int b=>chI t b|_,_=>false
def chD:D->Bool
 |.tup [d,e]=>chP d e|_=>false
theorem h91(h:¬ (1<=u/\u<=1000/\0<=t/\t<=u)):false=chI t u:=by
 unfold chI;refine Eq.symm ?_;rw[Bool.eq_false_iff];intro q;rw[Á,Á,Á,Á,decide_eq_true_eq,decide_eq_true_eq,decide_eq_true_eq,decide_eq_true_eq] at q;exact h ⟨q.1.1,q.1.2,q.2.1.1,q.2.1.2⟩
theorem y90(k:Nat)(x:D)(z:Z):b40 T (k + 4) E60 [.d x] z=some (.ok (.d (.bl (chD x))) z):=by
 refine W.ok (g50 (ps:=1) (ns:=3) (b:=s50) rfl rfl (-0) ?_)
 cases x with
 |tup l =>
  match l with
  |[a,b] =>
   refine Wo (m70 k a z) ?_;cases a with
   |int t =>
    refine Wo (m70 k b z) ?_;cases b with
    |int u =>
     refine ib (b:=decide (1<=u)) (λh1=>ib (b:=!decide (u<=1000)) (λh2=>?_) λh2=>ib (b:=decide (0<=t)) (λh3=>ib (b:=!decide (t<=u)) (λh4=>?_) λh4=>?_) λh3=>?_) λh1=>?_
     ·exact sb (h91 λq=>by rw[À3,decide_eq_false_iff_not] at h2;exact h2 q.2.1)
     ·exact sb (h91 λq=>by rw[À3,decide_eq_false_iff_not] at h4;exact h4 q.2.2.2)
     ·rw[Í3,decide_eq_true_eq] at h2 h4;rw[decide_eq_true_eq] at h1 h3;refine Wo (l20 k t u z ∅ (U40 ∅)) (sb (show(((gcd t u:Nat):Int) == 1)=chI t u from ?_))
      unfold chI;rw[decide_eq_true h1,decide_eq_true h2,decide_eq_true h3,decide_eq_true h4];rfl
     ·exact sb (h91 λq=>by rw[decide_eq_false_iff_not] at h3;exact h3 q.2.2.1)
     ·exact sb (h91 λq=>by rw[decide_eq_false_iff_not] at h1;exact h1 q.1)
    |_=>exact sb rfl
   |_=>exact sb rfl
  |[]=>exact sb rfl|[_]=>exact sb rfl|_::_::_::_=>exact sb rfl
 |_=>exact sb rfl
def ZI(z:Z):Prop:=∃ n b,z=some (n,b)/\0<=n/\(b=false->n < 2147483647)
theorem h42{T:List Df}{k f ps ns:Nat}{b:Sm}{l:List S}{z:Z}{Q:S->Z->Prop}{E:Nat->Z->Prop}(hz:ZI z)(h:T[f]?=some (.code ps ns b))(hl:l.length=ps)(hn:ps<=ns)(q:WS (H00 T (k + 2)) false b (start ns (l.map plS)) z (λo z1=>match o with
  |.nx _=>Q (.d .non) z1
  |.rt s=>Q s z1) E):W (b40 T (k + 3) f l) z Q E:=by
 obtain⟨n,c,rfl,_⟩:=hz;refine g50 h hl hn (q.mono (λo z1 h=>?_) λ_ _ h=>h);cases o <;> exact h
theorem C41{a:Int}{n:Nat}(h:a.natAbs < n)(hn:n<=2 ^ 64:=by decide):a.natAbs < O90:=Þ h (Ò hn (-0))
theorem n71{i j:Int}(hi:i.natAbs < 2 ^ 64)(hj:j.natAbs < 2 ^ 64):A50 .mul (.int i) (.int j)=some (.d (.int (i * j))):=by
 show(if i.natAbs < O90/\j.natAbs < O90 then some (S.d (.int (i * j))) else none)=_;rw[if_pos ⟨C41 hi,C41 hj⟩]
theorem L62{i j:Int}(hj:0 < j)(hb:j.natAbs < 2 ^ 64):A50 .fdiv (.int i) (.int j)=some (.d (.int (i / j))):=by
 show(if 0 < j/\j.natAbs < O90 then some (S.d (.int (i / j))) else none)=_;rw[if_pos ⟨hj,C41 hb⟩]
def Drawn(m:Int)(s:S)(z1:Z):Prop:=ZI z1/\∃ r:Nat,s=.d (.int r)/\(r:Int) < m
theorem d50(k:Nat)(m:Int)(hz:ZI z)(m0:0 < m)(m1:m < 2 ^ 32):W (b40 T (k + 3) a50 [.z,.d (.int m)]) z (Drawn m) NE:=by
 have fin:∀ (a:Int) (z1:Z),ZI z1->Drawn m (.d (.int (a % m))) z1:=λa z1 h=>by
  have h0:=Ö1 a (show m≠0 by omega)
  exact⟨h,(a % m).toNat,by rw[Int.toNat_of_nonneg h0],by rw[Int.toNat_of_nonneg h0];exact emod_lt_of_pos _ m0⟩
 refine h42 hz (ps:=2) (ns:=4) (b:=s60) rfl rfl (-0) ?_
 obtain⟨n,b,rfl,n0,n1⟩:=hz;cases b with
 |true =>
  refine(a00 (n61 (i:=n) m0) ?_ :);refine(a00 (L62 (i:=n) m0 ∅) ?_ :)
  exact fin n _ ⟨n / m,true,rfl,Int.ediv_nonneg n0 ∅,λh=>nomatch h⟩
 |false =>
  have n1:=n1 rfl;have e1:∀ a:Int,0<=a % 2147483647/\a % 2147483647 < 2147483647:=λa=>⟨emod_nonneg _ (-0),emod_lt_of_pos _ (-0)⟩
  have e2:∀ a:Int,0<=a % 2147483629/\a % 2147483629 < 2147483629:=λa=>⟨emod_nonneg _ (-0),emod_lt_of_pos _ (-0)⟩
  have s1:∀ a:Int,(a % 2147483647).natAbs < 2 ^ 64:=λa=>by have:=e1 a;omega
  have s2:∀ a:Int,(a % 2147483629).natAbs < 2 ^ 64:=λa=>by have:=e2 a;omega
  refine(a00 (n71 (i:=n) (j:=48271) ∅ (-0)) ?_ :)
  have a1:=e1 (n * 48271 + 29);refine(a00 (n71 (s1 (n * 48271 + 29)) (s1 (n * 48271 + 29))) ?_ :);refine(a00 (n71 (i:=39373) (-0) (s1 (n * 48271 + 29))) ?_ :)
  refine(a00 (n71 (s2 _) (s2 _)) ?_ :);refine(a00 (n71 (i:=16807) (-0) (s2 _)) ?_ :)
  refine(a00 (n61 m0) ?_ :);exact fin _ _ ⟨_,false,rfl,a1.1,λ_=>a1.2⟩
theorem n81(k:Nat)(ns:List Int)(j:Nat)(z:Z):∃ c:Int,b40 T (k + 3) r70 [.d (.lst (ns.map D.int)),.d (.int j)] z=some (.ok (.d (.int c)) z):=by
 by_cases h:j < ns.length
 ·refine⟨ns[j],W.ok (g50 (ps:=2) (ns:=2) (b:=g00) rfl rfl (-0) (it (b:=decide ((j:Int) < ((ns.map D.int).length:Int))) (by simp[h]) ?_))⟩
  refine(a00 (o:=Z20 (.lst (ns.map D.int)) (.int j)) (L2.w50 (v:=.int ns[j]) (by simp[h])) ?_ :)
  exact sd rfl
 ·exact⟨0,W.ok (g50 (ps:=2) (ns:=2) (b:=g00) rfl rfl (-0) (ie (b:=decide ((j:Int) < ((ns.map D.int).length:Int))) (by simp;omega) (sd rfl)))⟩
theorem P01(k:Nat)(ns:List Int)(j:Nat)(z:Z):∃ (n:Int) (b:Bool),ZI (some (n,b))/\b40 T (k + 4) y60 [.d (.lst (ns.map D.int)),.d (.int j)] z=some (.ok (.fr [.int n,.bl b]) z):=by
 obtain⟨c,hc⟩:=n81 k ns j z;by_cases h:(10 ^ 18:Int)<=c
 ·exact⟨c - 10 ^ 18,true,⟨_,_,rfl,by omega,λh=>nomatch h⟩,W.ok (g50 (ps:=2) (ns:=3) (b:=j90) rfl rfl (-0) (Wo hc (it (b:=decide ((10 ^ 18:Int)<=c)) (decide_eq_true h) (sd rfl))))⟩
 ·refine⟨c % 2147483647,false,⟨_,_,rfl,emod_nonneg _ (-0),λ_=>emod_lt_of_pos _ (-0)⟩,W.ok (g50 (ps:=2) (ns:=3) (b:=j90) rfl rfl (-0) (Wo hc (ie (b:=decide ((10 ^ 18:Int)<=c)) (decide_eq_false h) (sd rfl))))⟩
theorem U50(h0:0<=m)(h1:m < 100000):itD .rng1 [.int m]=some ((ì m.toNat).map λ(i:Nat)=>D.int i):=by
 show(if inR m=true then _ else none)=_;rw[if_pos (L20.mpr ⟨by omega,h1⟩)]
theorem ne_nil(h:okD (.lst l)=true):D20 .ne (.lst l) (.lst [])=some (!l.isEmpty):=by
 show(eqO (.lst l) (.lst [])).map (!·)=_;unfold eqO;rw[h];cases l <;> rfl
theorem N20:∀ l:List Int,d90 (l.map D.int)=true/\f00 (l.map D.int)=0
 |[]=>⟨rfl,rfl⟩
 |x::r=>by
  obtain⟨h1,h2⟩:=N20 r;refine⟨h1,?_⟩;show Ð8 0 (f00 (r.map D.int))=0;rw[h2];rfl
theorem C51(l:List Int):okD (.lst (l.map D.int))=true:=by
 obtain⟨h1,h2⟩:=N20 l;show(d90 (l.map D.int)&&decide (f00 (l.map D.int) + 1<=40))=true;rw[h1,h2];rfl
theorem P11(n:Nat):(ì n).map (λ(i:Nat)=>D.int i)=((ì n).map λ(i:Nat)=>(i:Int)).map D.int:=by
 rw[î];rfl
theorem I10:∀ l:List Int,n80 (l.map D.int)=true
 |[]=>rfl|_::r=>I10 r
theorem h52{l:List Int}{j:Nat}(h:j < l.length):(l.map D.int)[j]?=some (.int l[j]):=by rw[Û,æ h];rfl
theorem b71{j:Nat}(h:l[j]?=some x):Z20 (.lst l) (.int j)=some x:=L2.w50 h
theorem x52{j:Nat}(h:l[j]?=some x):Z20 (.tup l) (.int j)=some x:=L2.w50 h
def pr(p:Int × Int):D:=.tup [.int p.1,.int p.2]
def ky(p:Int × Int):List Int:=[p.1,p.2]
theorem X32(a b c d:Int):MySort.h20 [a,b] [c,d]=if a=c then(if b=d then false else decide (b < d)) else decide (a < c):=rfl
def Ch:List (Int × Int)->Prop
 |a::b::r=>HT.leB (ky a) (ky b)=true/\Ch (b::r)|_=>True
theorem i01(h:MySort.h20 (ky p) (ky q)=true):HT.leB (ky p) (ky q)=true:=by
 unfold HT.leB;unfold ky at h ⊢;rw[X32] at h ⊢;by_cases h1:p.1=q.1
 ·rw[if_pos h1] at h;rw[if_pos h1.symm];by_cases h2:p.2=q.2
  ·rw[if_pos h2] at h;cases h
  ·rw[if_neg h2] at h;rw[if_neg (Â3 h2)];simp only[decide_eq_true_eq] at h;simp;omega
 ·rw[if_neg h1] at h;rw[if_neg (Â3 h1)];simp only[decide_eq_true_eq] at h;simp;omega
def G51(k:Int × Int):List (Int × Int)->List (Int × Int)
 |[]=>[k]|y::r=>if MySort.h20 (ky y) (ky k) then y::G51 k r else k::y::r
def n91:List (Int × Int)->List (Int × Int)
 |[]=>[]|k::r=>G51 k (n91 r)
theorem U60(k:Int × Int):∀ l,(G51 k l).Perm (k::l)
 |[]=>.refl _
 |y::r=>by
  unfold G51;split
  ·exact((U60 k r).cons y).trans (.swap _ _ _)
  ·exact .refl _
theorem I20:∀ l,(n91 l).Perm l
 |[]=>.refl _|k::r=>(U60 k _).trans ((I20 r).cons k)
theorem C61(k:Int × Int):∀ l,Ch l->Ch (G51 k l)
 |[],_=>trivial
 |[y],_=>by
  unfold G51;split
  ·rename_i h;exact⟨i01 h,trivial⟩
  ·rename_i h;refine⟨?_,trivial⟩;unfold HT.leB;simpa using h
 |y::x::r,h=>by
  obtain⟨h1,h2⟩:=h;have ih:=C61 k (x::r) h2;unfold G51;split
  ·rename_i hy;unfold G51 at ih ⊢;split at ih
   ·rename_i hx;rw[if_pos hx];exact⟨h1,ih⟩
   ·rename_i hx;rw[if_neg hx];exact⟨i01 hy,ih⟩
  ·rename_i hy;refine⟨?_,h1,h2⟩;unfold HT.leB;simpa using hy
theorem i11:∀ l,Ch (n91 l)
 |[]=>trivial|k::r=>C61 k _ (i11 r)
theorem i21(k:Int × Int):∀ l:List (Int × Int),p31 (pr k) (l.map pr)=(G51 k l).map pr
 |[]=>rfl
 |y::r=>by
  unfold G51;show(if MySort.h20 (ky y) (ky k) then pr y::p31 (pr k) (r.map pr) else pr k::pr y::r.map pr)=_;split
  ·rw[i21 k r];rfl
  ·rfl
theorem U70:∀ l:List (Int × Int),u50 (l.map pr)=(n91 l).map pr
 |[]=>rfl
 |k::r=>by
  show p31 (pr k) (u50 (r.map pr))=_;rw[U70 r,i21];rfl
theorem L72(p q:Int × Int):ltD (pr p) (pr q)=some (MySort.h20 (ky p) (ky q)):=by
 show(if (p.1 == q.1)=true then(if (p.2 == q.2)=true then some false else some (decide (p.2 < q.2))) else some (decide (p.1 < q.1)))=some (if p.1=q.1 then(if p.2=q.2 then false else decide (p.2 < q.2)) else decide (p.1 < q.1));simp only[beq_iff_eq];split
 ·split <;> rfl
 ·rfl
theorem h62(p q:Int × Int):i20 (pr p) (pr q)=true:=by
 unfold i20;rw[L72];show(true&&((some (MySort.h20 (ky p) (ky q)) == some (MySort.h20 (ky p) (ky q)))&&(((p.1 == q.1)&&((p.2 == q.2)&&true)) || !([p.1,p.2] == [q.1,q.2]))))=true;rw[beq_self_eq_true,Å0,Å0,Ö8];by_cases h1:p.1=q.1 <;> by_cases h2:p.2=q.2 <;> simp[h1,h2]
theorem C71(l:List (Int × Int)):n10 (l.map pr)=true:=by
 refine Õ.mpr λx hx=>?_;obtain⟨p,_,rfl⟩:=Ö.mp hx;show(true&&(true&&(l.map pr).all (i20 (pr p))))=true;refine Õ.mpr λy hy=>?_;obtain⟨q,_,rfl⟩:=Ö.mp hy;exact h62 p q
theorem C81(h:l.length < 64):bfD .sorted [.lst (l.map pr)]=some (.fr ((n91 l).map pr)):=by
 show(if (l.map pr).length < 64/\n10 (l.map pr)=true then some (S.fr (u50 (l.map pr))) else(N52 (l.map pr)).map S.fr)=_;rw[if_pos ⟨by rw[É];exact h,C71 l⟩,U70]
theorem i31:∀ {l:List (Int × Int)},Ch l->h81 (l.map pr)=true
 |[],_=>rfl|[_],_=>rfl
 |a::b::r,h=>by
  have ih:=i31 h.2;show((n30 (pr a::pr b::r.map pr) (pr b::r.map pr)).all leD)=true;have e:n30 (pr a::pr b::r.map pr) (pr b::r.map pr)=.tup [pr a,pr b]::n30 (pr b::r.map pr) (r.map pr):=rfl;rw[e,Ä5,Á];exact⟨h.1,ih⟩
def B20(m:Int)(ps:List (Int × Int)):D:=.tup [.int m,.tup (ps.map pr)]
structure e90(m:Int)(ps:List (Int × Int)):Prop where
 m1:1<=m
 m6:m<=6
 len:ps.length<=8
 tie:∀ p∈ps,0<=p.1/\p.1 < p.2/\p.2 < m
 ch:Ch ps
theorem e90.web(g:e90 m ps):n51 (B20 m ps)=true:=by
 unfold B20 n51 O62 b51;simp only[Á,decide_eq_true_eq,Æ9,É];refine⟨g.m1,g.m6,g.len,λt ht=>?_,i31 g.ch⟩;obtain⟨p,hp,rfl⟩:=Ö.mp ht;obtain⟨h1,h2,h3⟩:=g.tie p hp;unfold pr G41 b80;simp only[Á,decide_eq_true_eq];omega
theorem x62(h1:0<=i)(hi:i < 100)(h0:-100 < m)(h:m < 100000):itD .rng2 [.int i,.int m]=some ((ì (m - i).toNat).map λ(k:Nat)=>D.int (i + k)):=by
 show(if inR i=true/\inR m=true then _ else none)=_;rw[if_pos ⟨L20.mpr ∅,L20.mpr ∅⟩]
theorem F40{L:List D}{n:Nat}(f:D->Bool)(h:n < L.length)(ha:L.all f=true):∃ x,L[n]?=some x/\f x=true :=
 ⟨L[n],æ h,Õ.mp ha _ (É1 h)⟩
def btw(a b:Int):D->Bool
 |.int i=>decide (a<=i)&&decide (i<=b)|_=>false
theorem C91(h:btw a b x=true):∃ i,x=.int i/\a<=i/\i<=b:=by
 cases x with
 |int i =>
  unfold btw at h;rw[Á,decide_eq_true_eq,decide_eq_true_eq] at h;exact⟨i,rfl,h⟩
 |_=>cases h
theorem x72(l:List D)(h:0<=n):cutD l none (some n)=l.take n.toNat:=by
 obtain⟨k,rfl⟩:=Ë2 h;have h1:HT.sIx l.length l.length (some (k:Int))=min k l.length:=HT.q91 _ _ k;unfold cutD;rw[h1];show(l.drop 0).take (min k l.length - 0)=_;rw[List.drop_zero,Nat.sub_zero,Á9];rcases Nat.le_total k l.length with h | h
 ·rw[Ñ2 h]
 ·rw[Ì1 h,List.take_length,Ë6 h]
theorem P21{α:Type}{l:List α}{a:α}:(l++[a]).length=l.length + 1:=by rw[Â0];rfl
theorem V11(a b:Int):(if b < a then b else a)=min a b/\(if b > a then b else a)=max a b:=by
 constructor <;> (split <;> omega)
theorem U80{P:Int × Int->Prop}:∀ {xs ys:List D},PySem.Paired (λ_ y=>∃ c,y=pr c/\P c) xs ys->∃ cs:List (Int × Int),ys=cs.map pr/\cs.length=xs.length/\∀ c∈cs,P c
 |[],_,h=>by cases h;exact⟨[],rfl,rfl,λc hc=>nomatch hc⟩
 |x::r,_,h=>by
  cases h with
  |cons h1 h2 =>
   obtain⟨c,rfl,hc⟩:=h1;obtain⟨cs,rfl,hl,ha⟩:=U80 h2;refine⟨c::cs,rfl,by rw[Ü,hl];rfl,λd hd=>?_⟩
   rcases ú.mp hd with rfl | hd
   ·exact hc
   ·exact ha d hd
def A42(m:Int)(p:Int × Int):Prop:=0<=p.1/\p.1 < p.2/\p.2 < m
abbrev x82(mo m:Int)(ps:List (Int × Int))(o4 o5 o6:Option S):Env:=[some .z,some (.d (.int mo)),some (.d (.int m)),some (.fr (ps.map pr)),o4,o5,o6]
theorem x92:x82 mo m (ps++[p]) o4 o5 o6=[some .z,some (.d (.int mo)),some (.d (.int m)),some (.fr (ps.map pr++[pr p])),o4,o5,o6]:=by rw[x82,Æ3];rfl
theorem P31{mo m:Int}{ps:List (Int × Int)}(m1:1<=m)(m6:m<=6)(h0:0<=mo)(h8:mo<=8)(hp:∀ p∈ps,A42 m p)(hl:ps.length < 64):∃ qs,bfD .sorted [.lst (cutD (ps.map pr) none (some mo))]=some (.fr (qs.map pr))/\e90 m qs/\(qs.length:Int)<=mo:=by
 have hl':(ps.take mo.toNat).length < 64:=by rw[Æ7];omega
 refine⟨n91 (ps.take mo.toNat),by rw[x72 _ h0,← List.map_take];exact C81 hl',?_⟩
 have hperm:=I20 (ps.take mo.toNat);have hlen:=hperm.length_eq;rw[Æ7] at hlen;exact⟨⟨m1,m6,by omega,λq hq=>hp q (List.mem_of_mem_take (hperm.mem_iff.mp hq)),i11 _⟩,by omega⟩
theorem D01(k:Nat){mo:Int}{z:Z}(hz:ZI z)(h0:0<=mo)(h8:mo<=8):W (b40 T (k + 5) H90 [.z,.d (.int mo)]) z (λs z1=>ZI z1/\∃ m ps,s=.d (B20 m ps)/\e90 m ps/\(ps.length:Int)<=mo) NE:=by
 refine h42 hz (ps:=2) (ns:=7) (b:=x50) rfl rfl (-0) ?_
 refine(d50 (k + 1) 8 hz (-0) (-0)).imp λs z1 ⟨hz1,n,e,hn⟩=>?_
 subst e;obtain⟨x,ex,hx⟩:=F40 (L:=[D.int 6,.int 5,.int 4,.int 3,.int 4,.int 5,.int 2,.int 1]) (n:=n) (btw 1 6) (by simp only[Ü,Á1];omega) (-0)
 obtain⟨m,rfl,m1,m6⟩:=C91 hx;refine(a00 (b71 ex) ?_ :);refine(M60 (.fr []) (x82 mo m [] none none none) ?_ ?_ ?_ :)
 ·exact⟨rfl,rfl⟩
 ·rfl
 refine g92 (λρ z2=>ZI z2/\∃ ps:List (Int × Int),ρ=x82 mo m ps none none none/\(∀ p∈ps,A42 m p)/\ps.length<=5) ?_ ?_
 ·refine ib (b:=decide (1 < m)) (λh=>?_) λh=>⟨hz1,[],rfl,(λp hp=>nomatch hp),by simp⟩
  have h:=of_decide_eq_true h;refine(d50 (k + 1) 5 hz1 (-0) (-0)).imp λs z2 ⟨hz2,v,e,hv⟩=>?_
  subst e;refine ib (b:=decide (0 < (v:Int))) (λh1=>?_) λh1=>⟨hz2,[],rfl,(λp hp=>nomatch hp),by simp⟩
  refine(a00 (x62 (i:=1) (m:=m) (-0) (-0) ∅ ∅) ?_ :)
  refine ip (by rw[É,ù];simp only[most];omega) (X12 (I:=ZI) (P:=λ_ y=>∃ c,y=pr c/\A42 m c) hz2 (λx hx z3 hz3=>?_) λys z3 hz3 hys=>?_)
  ·obtain⟨i,hi,rfl⟩:=Ö.mp hx;have hi:=Â5.mp hi;refine(d50 (k + 1) (1 + (i:Int)) hz3 ∅ ∅).imp λs z4 ⟨hz4,a,e,ha⟩=>?_
   subst e;exact⟨hz4,((a:Int),1 + (i:Int)),rfl,by show(0:Int)<=a;omega,ha,by show 1 + (i:Int) < m;omega⟩
  ·obtain⟨cs,rfl,hl,ha⟩:=U80 hys;rw[É,ù] at hl;exact⟨hz3,cs,rfl,ha,by omega⟩
 ·rintro ρ z2 ⟨hz2,ps,rfl,hp,hl⟩;refine(d50 (k + 1) (mo + 1) hz2 ∅ ∅).imp λs z3 ⟨hz3,t,e,ht⟩=>?_
  subst e;have hj:(if decide (1 < m)=true then(1:Int) else 0)=0∨((if decide (1 < m)=true then(1:Int) else 0)=1/\1 < m):=by
   by_cases h:1 < m
   ·exact .inr ⟨by rw[decide_eq_true h];rfl,h⟩
   ·exact .inl (by rw[decide_eq_false h];rfl)
  refine(a00 (n71 (i:=(t:Int)) (j:=if decide (1 < m)=true then(1:Int) else 0) ∅ (by rcases hj with h | h <;> (first | rw[h] | rw[h.1]) <;> decide)) ?_ :)
  have hc:∃ c:Nat,(t:Int) * (if decide (1 < m)=true then(1:Int) else 0)=c/\c<=8/\(0 < c->1 < m):=by
   rcases hj with h | h
   ·exact⟨0,by rw[h,Ô1];rfl,by omega,λh=>absurd h ∅⟩
   ·exact⟨t,by rw[h.1,mul_one],by omega,λ_=>h.2⟩
  obtain⟨c,ec,hc8,hcm⟩:=hc;refine(a00 (o:=itD .rng1 [.int ((t:Int) * (if decide (1 < m)=true then(1:Int) else 0))]) (a:=(ì c).map λ(i:Nat)=>D.int i) (by rw[ec,U50 ∅ ∅,Á9]) ?_ :)
  refine r20 (λxs ρ z=>ZI z/\(0 < xs.length->1 < m)/\∃ (ps:List (Int × Int)) (o4 o5 o6:Option S),ρ=x82 mo m ps o4 o5 o6/\(∀ p∈ps,A42 m p)/\ps.length + xs.length<=13) _ ⟨hz3,λh=>hcm (by rw[É,ù] at h;exact h),ps,_,_,_,rfl,hp,by rw[É,ù];omega⟩ ?_ ?_
  ·rintro x r ρ z4 ⟨hz4,hm,ps,o4,o5,o6,rfl,hp,hl⟩;have hm:=hm (by simp)
   refine(d50 (k + 1) m hz4 ∅ ∅).imp λs z5 ⟨hz5,a,e,ha⟩=>?_
   subst e;refine(d50 (k + 1) (m - 1) hz5 ∅ ∅).imp λs z6 ⟨hz6,b,e,hb⟩=>?_
   subst e;refine(a00 (n61 (i:=(a:Int) + 1 + b) (j:=m) ∅) ?_ :)
   have hq:0<=((a:Int) + 1 + b) % m/\((a:Int) + 1 + b) % m < m/\((a:Int) + 1 + b) % m≠a:=by
    refine⟨Ö1 _ ∅,emod_lt_of_pos _ ∅,?_⟩
    by_cases h:(a:Int) + 1 + b < m
    ·rw[Ð9 ∅ h];omega
    ·rw[show(a:Int) + 1 + b=((a:Int) + 1 + b - m) + m from by omega,Int.add_emod_right,Ð9 ∅ ∅];omega
   generalize ((a:Int) + 1 + b) % m=q at hq ⊢;refine ip ⟨rfl,by rw[É];simp only[most,Ü] at hl ⊢;omega⟩ ?_
   refine⟨hz6,λ_=>hm,ps++[(min (a:Int) q,max (a:Int) q)],some (.d x),some (.d (.int a)),some (.d (.int q)),?_,λp hp'=>?_,by rw[P21];simp only[Ü] at hl;omega⟩
   ·rw[x92,← (V11 (a:Int) q).1,← (V11 (a:Int) q).2];rfl
   ·rcases Ã6.mp hp' with h | h
    ·exact hp p h
    ·rw[è.mp h];show 0<=min (a:Int) q/\min (a:Int) q < max (a:Int) q/\max (a:Int) q < m;omega
  ·rintro ρ z4 ⟨hz4,_,ps,o4,o5,o6,rfl,hp,hl⟩;obtain⟨qs,e,g,hq⟩:=P31 m1 m6 h0 h8 hp (by simp only[Á1] at hl;omega)
   refine(a00 e ?_ :);exact⟨hz4,m,qs,rfl,g,hq⟩
theorem P41(hj:0 < j)(hb:big j):A50 .fdiv (.int i) (.int j)=some (.d (.int (i / j))):=by
 show(if 0 < j/\j.natAbs < O90 then some (S.d (.int (i / j))) else none)=_;rw[if_pos ⟨hj,h32 ∅ hb⟩]
theorem t00(h:0 < b):0 < ((gcd t b:Nat):Int):=by
 have:=Int.gcd_pos_of_ne_zero_right (a:=t) (b:=b) ∅
 omega
theorem N30(h:0 < b)(hb:big b):big (gcd t b:Int):=Int.lt_of_le_of_lt (à3 h (Int.gcd_dvd_right t b)) hb
def n40(t b:Int):Int × Int:=(t / gcd t b,b / gcd t b)
theorem U90(k:Nat)(t b:Int)(z:Z)(h0:0 < b)(h1:big b):b40 T (k + 4) M70 [.d (.int t),.d (.int b)] z=some (.ok (.d (pr (n40 t b))) z):=by
 refine W.ok (g50 (ps:=2) (ns:=3) (b:=M80) rfl rfl (-0) (Wo (l20 k t b z h0 h1) ?_))
 refine(a00 (P41 (i:=t) (t00 (t:=t) h0) (N30 h0 h1)) ?_ :);refine(a00 (P41 (i:=b) (t00 (t:=t) h0) (N30 h0 h1)) ?_ :);exact sd rfl
theorem N40(h0:0 < b):t=gcd t b * (n40 t b).1/\b=gcd t b * (n40 t b).2:=by
 constructor
 ·exact(Int.mul_ediv_cancel' (Int.gcd_dvd_left t b)).symm
 ·exact(Int.mul_ediv_cancel' (Int.gcd_dvd_right t b)).symm
theorem D11(h0:0 < b):gcd (n40 t b).1 (n40 t b).2=1:=Int.gcd_ediv_gcd_ediv_gcd_of_ne_zero_right ∅
theorem N50(h0:0 < b):0 < (n40 t b).2:=by
 have g0:=t00 (t:=t) h0;obtain⟨_,e⟩:=N40 (t:=t) h0;refine Int.pos_of_mul_pos_right (a:=gcd t b) ?_ g0;omega
theorem h72(h0:0 < b)(h1:0<=t)(h2:t<=b):0<=(n40 t b).1/\(n40 t b).1<=(n40 t b).2/\(n40 t b).2<=b:=by
 have g0:=t00 (t:=t) h0;have p0:=N50 (t:=t) h0;obtain⟨e1,e2⟩:=N40 (t:=t) h0;refine⟨Int.ediv_nonneg h1 (Int.le_of_lt g0),Int.le_of_mul_le_mul_left (a:=gcd t b) ∅ g0,?_⟩
 have:1 * (n40 t b).2<=(gcd t b:Int) * (n40 t b).2:=Int.mul_le_mul_of_nonneg_right ∅ ∅
 omega
theorem V21(h:gcd a b=1)(hd:b∣a * d):b∣d:=by
 have h1:Nat.Coprime b.natAbs a.natAbs:=by rw[Nat.coprime_comm];exact h
 exact Int.natAbs_dvd_natAbs.mp (h1.dvd_of_dvd_mul_left (by rw[← natAbs_mul];exact Int.natAbs_dvd_natAbs.mpr hd))
theorem o01(hb:0 < b)(hd:0 < d)(h1:gcd a b=1)(h2:gcd c d=1)(h:a * d=c * b):a=c/\b=d:=by
 have k1:b∣d:=V21 h1 ⟨c,by rw[h,Ú7]⟩
 have k2:d∣b:=V21 h2 ⟨a,by rw[← h,Ú7]⟩
 have e:b=d:=Int.le_antisymm (à3 hd k1) (à3 hb k2);subst e;exact⟨Ð0 ∅ h,rfl⟩
def IsC(c:Int × Int):Prop:=1<=c.2/\c.2<=1000/\0<=c.1/\c.1<=c.2/\gcd c.1 c.2=1
theorem IsC.ch(h:IsC c):chD (pr c)=true:=by
 obtain⟨h1,h2,h3,h4,h5⟩:=h;show chI c.1 c.2=true;unfold chI;rw[h5,decide_eq_true h1,decide_eq_true h2,decide_eq_true h3,decide_eq_true h4];rfl
theorem h82(h0:0 < b)(hb:b<=1000)(h1:0<=t)(h2:t<=b):IsC (n40 t b):=by
 obtain⟨y0,yx,xb⟩:=h72 h0 h1 h2;have:=N50 (t:=t) h0;exact⟨by omega,by omega,y0,yx,D11 h0⟩
theorem v80(k:Nat)(t b:Int)(z:Z)(h0:0 < b)(h1:big b):b40 T (k + 3) m00 [.d (.int t),.d (.int b)] z=some (.ok (.d (pr (n40 t b))) z):=by
 refine W.ok (g50 (ps:=2) (ns:=4) (b:=m50) rfl rfl (-0) (x22 (λn ρ z1=>z1=z/\∃ c d:Int,ρ=[some (.d (.int t)),some (.d (.int b)),some (.d (.int c)),some (.d (.int d))]/\GT n c d/\gcd c d=gcd t b/\(d=0->0<=c)) (2 * 4000 + 1) ⟨rfl,_,b,rfl,⟨Int.le_of_lt h0,.inl ⟨4000,rfl,h1⟩⟩,rfl,λh=>by omega⟩ (-0) ?_))
 rintro n ρ z1 ⟨rfl,c,d,rfl,g,hg,hc⟩;refine ib (b:=!(d == 0)) (λhd=>?_) λhd=>?_
 ·rw[À3,beq_eq_false_iff_ne] at hd;have hd':0 < d:=by have:=g.1;omega
  obtain⟨m,hm,g'⟩:=g.step hd';refine(a00 (n61 (i:=c) hd') ?_ :);exact⟨m,hm,rfl,d,c % d,rfl,g',(C31 c d).trans hg,λ_=>Int.le_of_lt hd'⟩
 ·rw[Í3,beq_iff_eq] at hd;subst hd;rw[Int.gcd_zero_right] at hg;have e:c=((gcd t b:Nat):Int):=by have:=hc rfl;omega
  subst e;refine(a00 (P41 (i:=t) (t00 (t:=t) h0) (N30 h0 h1)) ?_ :);refine(a00 (P41 (i:=b) (t00 (t:=t) h0) (N30 h0 h1)) ?_ :);exact sd rfl
def L82:D->Bool
 |.tup [.int t,.int b]=>chI t b|_=>false
theorem h92(h:L82 x=true):∃ c,x=pr c/\IsC c:=by
 unfold L82 at h;split at h
 ·rename_i t b;unfold chI at h;simp only[Á,decide_eq_true_eq,beq_iff_eq] at h;exact⟨(t,b),rfl,h.1.1,h.1.2,h.2.1.1,h.2.1.2,by have:=h.2.2;show gcd t b=1;omega⟩
 ·cases h
theorem V00(k:Nat)(hz:ZI z):W (b40 T (k + 4) v40 [.z]) z (λs z1=>ZI z1/\∃ c,s=.d (pr c)/\IsC c) NE:=by
 refine h42 hz (ps:=1) (ns:=4) (b:=m60) rfl rfl (-0) ?_
 refine(d50 k 16 hz (-0) (-0)).imp λs z1 ⟨hz1,v,e,v1⟩=>?_
 subst e;refine ib (b:=decide ((v:Int) < 9)) (λh2=>?_) λh2=>?_
 ·have h2:=of_decide_eq_true h2;obtain⟨x,ex,hx⟩:=F40 (L:=[pr (1,2),pr (2,3),pr (1,3),pr (3,4),pr (9,10),pr (0,1),pr (1,1),pr (1,1000),pr (999,1000)]) (n:=v) L82 (by simp only[Ü,Á1];omega) (by decide +kernel)
  obtain⟨c,rfl,hc⟩:=h92 hx;refine(a00 (b71 ex) ?_ :);exact⟨hz1,c,rfl,hc⟩
 ·refine(d50 k 2 hz1 (-0) (-0)).imp λs z2 ⟨hz2,a,e,a1⟩=>?_
  subst e;obtain⟨x,ex,hx⟩:=F40 (L:=[D.int 12,.int 1000]) (n:=a) (btw 1 1000) (by simp only[Ü,Á1];omega) (-0)
  obtain⟨u,rfl,u1,u2⟩:=C91 hx;refine(a00 (b71 ex) ?_ :);refine(d50 k u hz2 ∅ ∅).imp λs z3 ⟨hz3,b,e,b1⟩=>?_
  subst e;refine(d50 k (1 + (b:Int) + 1) hz3 ∅ ∅).imp λs z4 ⟨hz4,t,e,t1⟩=>?_
  subst e;exact Wo (v80 k _ _ _ ∅ (U40 ∅)) ⟨hz4,n40 t (1 + (b:Int)),rfl,h82 ∅ ∅ ∅ ∅⟩
theorem D21{n:Nat}(f:D->Bool)(h:n < L.length)(ha:L.all f=true)(hp:∀ x,f x=true->P x):Get (Z20 (.lst L) (.int n)) P:=by
 obtain⟨x,e,hx⟩:=F40 f h ha;exact a00 (b71 e) (hp x hx)
theorem D31(k:Nat)(hz:ZI z):W (b40 T (k + 4) r80 [.z]) z (λs z1=>ZI z1/\∃ x,s=.d x/\n51 x=false) NE:=by
 refine h42 hz (ps:=1) (ns:=2) (b:=k50) rfl rfl (-0) ?_
 refine(d50 k 25 hz (-0) (-0)).imp λs z1 ⟨hz1,v,e,v1⟩=>?_
 subst e;refine(D21 (n:=v) (λx=>!n51 x) ?_ ?_ ?_ :)
 ·show v < 25;omega
 ·decide +kernel
 ·exact λx hx=>⟨hz1,x,rfl,by simpa using hx⟩
def ltP:D->Bool
 |.tup [.int a,.int b]=>decide (a < b)|_=>false
def V10(l:List D):Bool:=(n30 l (l.drop 1)).all ltP
def D41(m:Int):D->Bool
 |.tup l=>(l.all (λx=>b80 x m)&&V10 l)&&!l.isEmpty|_=>false
def short:D->Bool
 |.tup l=>decide (l.length<=1000)|_=>true
theorem P51(k:Nat)(h:∀ x∈l,b80 x m=true)(hl:l.length<=1000)(z:Z):b40 T (k + 3) C01 [.d (.tup l)] z=some (.ok (.d (.bl (V10 l))) z):=by
 have e1:cutD l (some 1) none=l.drop 1:=h71 l 1;refine W.ok (g50 (ps:=1) (ns:=1) (b:=b41) rfl rfl (-0) (ip (c:=(n30 l (cutD l (some 1) none)).length<=most) (Ò (q80 _ _) (n90 hl)) (p41 (λx=>.bl (ltP x)) (λx hx=>?_) (a00 (F30 _ ltP) ?_ :))))
 ·obtain⟨u,hu,v,hv,rfl⟩:=N10 hx;rw[e1] at hv;obtain⟨i,rfl,_⟩:=i70 (h u hu);obtain⟨j,rfl,_⟩:=i70 (h v (List.mem_of_mem_drop hv));exact⟨rfl,rfl⟩
 ·exact sb (b:=(n30 l (cutD l (some 1) none)).all ltP) (by rw[e1];rfl)
theorem z00(k:Nat)(m:Int)(hs:short x=true)(z:Z):b40 T (k + 5) l10 [.d x,.d (.int m)] z=some (.ok (.d (.bl (match x with | .tup l=>l.all (λx=>b80 x m)&&V10 l | _=>false))) z):=by
 refine W.ok (g50 (ps:=2) (ns:=2) (b:=f60) rfl rfl (-0) ?_)
 cases x with
 |tup l =>
  have hl:l.length<=1000:=of_decide_eq_true hs;refine ip (n90 hl) (p41 (λx=>.bl (b80 x m)) (λx _=>Wo (s90 k x m z) ⟨rfl,rfl⟩) (a00 (F30 l λx=>b80 x m) ?_ :));refine ib (b:=l.all λx=>b80 x m) (λh=>?_) λh=>sb (show false=(l.all (λx=>b80 x m)&&V10 l) by rw[h];rfl)
  exact Wo (P51 (k + 1) (Õ.mp h) hl z) (sb (show V10 l=(l.all (λx=>b80 x m)&&V10 l) by rw[h];rfl))
 |_=>exact sb rfl
theorem i80(k:Nat)(z:Z)(h:D41 m x=true)(hs:short x=true):b40 T (k + 6) f70 [.d (.tup [.int m,t]),.d x] z=some (.ok (.d .non) z):=by
 refine W.ok (g50 (ps:=2) (ns:=2) (b:=f80) rfl rfl (-0) (Wo (z00 k m hs z) ?_))
 cases x with
 |tup l =>
  have h:((l.all (λx=>b80 x m)&&V10 l)&&!l.isEmpty)=true:=h;rw[Á] at h;refine ie (b:=!(l.all (λx=>b80 x m)&&V10 l)) (by rw[h.1];rfl) ?_
  cases l with
  |nil=>cases h.2
  |cons y r=>exact sd rfl
 |_=>cases h
theorem p40(k:Nat)(z:Z)(h:D41 m x=false)(hs:short x=true):b40 T (k + 6) f70 [.d (.tup [.int m,t]),.d x] z=some (.er 2 z):=by
 refine W.er (g50 (ps:=2) (ns:=2) (b:=f80) rfl rfl (-0) (Wo (z00 k m hs z) ?_))
 cases x with
 |tup l =>
  have h:((l.all (λx=>b80 x m)&&V10 l)&&!l.isEmpty)=false:=h;refine ib (b:=!(l.all (λx=>b80 x m)&&V10 l)) (λ_=>⟨rfl,c40 z⟩) λh1=>?_;rw[Í3] at h1;rw[h1,Å0,Í3] at h;cases l with
  |nil=>exact⟨rfl,c40 z⟩|cons y r=>cases h
 |_=>exact⟨rfl,c40 z⟩
def a40(n:Nat):D:=.int n
structure l30(m:Int)(l:List Nat):Prop where
 ne:l≠[]
 up:l.Pairwise (· < ·)
 lt:∀ p∈l,(p:Int) < m
theorem V31:∀ {l:List Nat},l.Pairwise (· < ·)->V10 (l.map a40)=true
 |[],_=>rfl|[_],_=>rfl
 |a::b::r,h=>by
  have ih:=V31 (ß6.of_cons h);show(decide ((a:Int) < (b:Int))&&V10 ((b::r).map a40))=true;rw[ih,decide_eq_true (by have:=(Ê9.mp h).1 b Ë;omega)];rfl
theorem l30.pls(g:l30 m l):D41 m (.tup (l.map a40))=true:=by
 show(((l.map a40).all (λx=>b80 x m)&&V10 (l.map a40))&&!(l.map a40).isEmpty)=true;rw[V31 g.up,Ö8,Á];refine⟨Õ.mpr λx hx=>?_,?_⟩
 ·obtain⟨p,hp,rfl⟩:=Ö.mp hx;have:=g.lt p hp;show(decide (0<=(p:Int))&&decide ((p:Int) < m))=true;rw[decide_eq_true this,decide_eq_true ∅];rfl
 ·cases l with
  |nil=>exact absurd rfl g.ne|cons _ _=>rfl
theorem l30.len(g:l30 m l)(h6:m<=6):l.length<=6:=by
 have:l.Sublist (ì 6):=by
  have e:l=(ì 6).filter λx=>l.contains x:=by
   refine È9 (le:=(· < ·)) ?_ g.up (Ë1 _ È7) ?_
   ·intro a b _ _ h1 h2;omega
   ·refine(Þ2 (g.up.imp λh e=>by omega) (Ë1 _ List.nodup_range)).mpr λa=>?_
    rw[mem_filter,Ó1,Ì7];exact⟨λh=>⟨by have:=g.lt a h;omega,h⟩,λh=>h.2⟩
  rw[e];exact List.filter_sublist
 simpa using this.length_le
theorem P61:∀ {ys:List D}{l:List Nat},ys.Sublist (l.map a40)->∃ l':List Nat,ys=l'.map a40/\l'.Sublist l:=λ{ys l} h=>by
 obtain⟨l',h1,h2⟩:=List.sublist_map_iff.mp h;exact⟨l',h2,h1⟩
theorem i02(n:Nat):((ì n).map λ(i:Nat)=>D.int i)=(ì n).map a40:=rfl
theorem L92(a b:Int):MySort.h20 [a] [b]=decide (a < b):=by
 show(if a=b then false else decide (a < b))=_;by_cases h:a=b
 ·rw[if_pos h,h];simp
 ·rw[if_neg h]
theorem N60(a b:Nat):i20 (a40 a) (a40 b)=true:=by
 show(true&&((some (decide ((a:Int) < b)) == some (MySort.h20 [(a:Int)] [(b:Int)]))&&(((a:Int) == b) || !([(a:Int)] == [(b:Int)]))))=true;rw[L92,beq_self_eq_true,Å0,Å0];by_cases h:(a:Int)=b <;> simp[h]
theorem o21(x y:Nat):bfD .sorted [.lst [a40 x,a40 y]]=some (.fr [a40 (min x y),a40 (max x y)]):=by
 have ok:n10 [a40 x,a40 y]=true:=by
  refine Õ.mpr λu hu=>?_;have one:∀ a:Nat,(true&&(true&&[a40 x,a40 y].all (i20 (a40 a))))=true:=λa=>by
   show(i20 (a40 a) (a40 x)&&(i20 (a40 a) (a40 y)&&true))=true;rw[N60,N60];rfl
  simp only[Â7,À0,or_false] at hu;rcases hu with rfl | rfl
  ·exact one x
  ·exact one y
 have e:u50 [a40 x,a40 y]=[a40 (min x y),a40 (max x y)]:=by
  show(if MySort.h20 [(y:Int)] [(x:Int)] then [a40 y,a40 x] else [a40 x,a40 y])=_;rw[L92];by_cases h:(y:Int) < x
  ·rw[decide_eq_true h,if_pos rfl,Ì1 ∅,Nat.max_eq_left ∅]
  ·rw[decide_eq_false h,if_neg (-0),Ñ2 ∅,Nat.max_eq_right ∅]
 show(if [a40 x,a40 y].length < 64/\n10 [a40 x,a40 y]=true then some (S.fr (u50 [a40 x,a40 y])) else _)=_;rw[if_pos ⟨by show 2 < 64;decide,ok⟩,e]
theorem V20(k:Nat)(m1:1<=m)(m6:m<=6)(hz:ZI z):W (b40 T (k + 4) v00 [.z,.d (.tup [.int m,t])]) z (λs z1=>ZI z1/\∃ l,s=.d (.tup (l.map a40))/\l30 m l) NE:=by
 have g2:l30 m (ì m.toNat):=⟨by intro h;have:=congrArg List.length h;rw[ù] at this;simp at this;omega,È7,λp hp=>by have:=Â5.mp hp;omega⟩
 refine h42 hz (ps:=2) (ns:=4) (b:=m40) rfl rfl (-0) ?_
 refine(d50 k 4 hz (-0) (-0)).imp λs z1 ⟨hz1,v,e,v1⟩=>?_
 subst e;refine g92 (λρ z2=>z2=z1/\1 < m/\ρ=[some .z,some (.d (.tup [.int m,t])),some (.d (.int v)),none]) ?_ ?_
 ·refine ib (b:=decide ((v:Int) < 2)) (λh=>?_) λh=>?_
  ·refine(a00 (U50 (m:=m) ∅ ∅) ?_ :)
   exact⟨hz1,_,rfl,g2⟩
  ·refine ib (b:=m == 1) (λh=>?_) λh=>?_
   ·refine(a00 (U50 (m:=m) ∅ ∅) ?_ :)
    exact⟨hz1,_,rfl,g2⟩
   ·have h:=ne_of_beq_false h;exact⟨rfl,by omega,rfl⟩
 ·rintro ρ z2 ⟨rfl,hm,rfl⟩;refine ib (b:=(v:Int) == 2) (λh=>?_) λh=>?_
  ·refine(d50 k m hz1 ∅ ∅).imp λs z3 ⟨hz3,a,e,ha⟩=>?_
   subst e;refine(d50 k (m - 1) hz3 ∅ ∅).imp λs z4 ⟨hz4,b,e,hb⟩=>?_
   subst e;refine(a00 (n61 (i:=(a:Int) + 1 + b) (j:=m) ∅) ?_ :)
   have hq:0<=((a:Int) + 1 + b) % m/\((a:Int) + 1 + b) % m < m/\((a:Int) + 1 + b) % m≠a:=by
    refine⟨Ö1 _ ∅,emod_lt_of_pos _ ∅,?_⟩
    by_cases h:(a:Int) + 1 + b < m
    ·rw[Ð9 ∅ h];omega
    ·rw[show(a:Int) + 1 + b=((a:Int) + 1 + b - m) + m from by omega,Int.add_emod_right,Ð9 ∅ ∅];omega
   generalize ((a:Int) + 1 + b) % m=q at hq ⊢;obtain⟨q,rfl⟩:=Ë2 hq.1;refine(a00 (o21 a q) ?_ :);refine⟨hz4,[min a q,max a q],rfl,by simp,?_,λp hp=>?_⟩
   ·refine .cons (λx hx=>?_) (.cons (λ_ h=>nomatch h) .nil);rw[è.mp hx];omega
   ·simp only[Â7,À0,or_false] at hp;rcases hp with rfl | rfl <;> omega
  ·refine(a00 (U50 (m:=m) ∅ ∅) ?_ :)
   refine ip (by rw[É,ù];simp only[most];omega) (x32 (I:=ZI) (λx=>x) hz1 (λx hx z3 hz3=>?_) λys z3 hz3 hs=>?_)
   ·refine(d50 k 2 hz3 (-0) (-0)).imp λs z4 ⟨hz4,a,e,a1⟩=>?_
    subst e;exact⟨hz4,(a:Int) == 1,rfl,λ_=>⟨rfl,rfl⟩⟩
   ·rw[map_id',i02] at hs;obtain⟨l,rfl,hl⟩:=P61 hs;cases l with
    |nil =>
     refine⟨hz3,[m.toNat - 1],?_,by simp,.cons (λ_ h=>nomatch h) .nil,λq hq=>by rw[è.mp hq];omega⟩
     show S.d (.tup [.int (m - 1)])=S.d (.tup [.int ((m.toNat - 1:Nat):Int)]);rw[show(m - 1)=((m.toNat - 1:Nat):Int) by omega]
    |cons p r=>exact⟨hz3,p::r,rfl,by simp,ß6.sublist hl È7,λq hq=>by have:=Â5.mp (hl.mem hq);omega⟩
section
variable (ps:List (Int × Int))
abbrev tA(n:Nat):Nat:=(ps.getD n (0,0)).1.toNat
abbrev tB(n:Nat):Nat:=(ps.getD n (0,0)).2.toNat
def t10(mk:List Int)(n:Nat):List Int:=mk.map λx=>if x=mk.getD (tB ps n) 0 then mk.getD (tA ps n) 0 else x
def z20(m:Nat)(lot:List Nat):List Int:=lot.foldl (t10 ps) ((ì m).map λ(i:Nat)=>(i:Int))
def y02(mk:List Int)(pl:List Nat):Bool:=pl.all λp=>mk.getD p 0 == mk.getD (pl.getD 0 0) 0
def F50(m:Nat)(pl lot:List Nat):Bool:=y02 (z20 ps m lot) pl
variable {ps}
theorem N70(mk:List Int)(n:Nat):(t10 ps mk n).length=mk.length:=É _
theorem step_get(h:x < mk.length):(t10 ps mk n).getD x 0=if mk.getD x 0=mk.getD (tB ps n) 0 then mk.getD (tA ps n) 0 else mk.getD x 0:=by
 unfold t10;rw[Ø,Û,æ h];simp[Ø,æ h]
theorem D51:(z20 ps m lot).length=m:=by
 unfold z20;have:∀ (l:List Nat) (mk:List Int),(l.foldl (t10 ps) mk).length=mk.length:=by
  intro l
  induction l with
  |nil=>intro mk;rfl|cons n r ih=>intro mk;rw[List.foldl_cons,ih,N70]
 rw[this];simp
theorem o31(hr:∀ n < ps.length,tA ps n < m/\tB ps n < m):∀ (lot:List Nat) (mk:List Int),mk.length=m->(∀ n∈lot,n < ps.length) ->
  (∀ x y,x < m->y < m->mk.getD x 0=mk.getD y 0->(lot.foldl (t10 ps) mk).getD x 0=(lot.foldl (t10 ps) mk).getD y 0)/\(∀ n∈lot,(lot.foldl (t10 ps) mk).getD (tA ps n) 0=(lot.foldl (t10 ps) mk).getD (tB ps n) 0) /\
  ∀ f:Nat->Int,(∀ x y,x < m->y < m->mk.getD x 0=mk.getD y 0->f x=f y)->(∀ n∈lot,f (tA ps n)=f (tB ps n))->∀ x y,x < m->y < m->(lot.foldl (t10 ps) mk).getD x 0=(lot.foldl (t10 ps) mk).getD y 0->f x=f y:=by
 intro lot
 induction lot with
 |nil=>exact λmk _ _=>⟨λ_ _ _ _ h=>h,(λ_ h=>nomatch h),λf h _=>h⟩
 |cons n r ih =>
  intro mk hl hn;obtain⟨ha,hb⟩:=hr n (hn n Ë);obtain⟨i1,i2,i3⟩:=ih (t10 ps mk n) (by rw[N70];exact hl) λk hk=>hn k (È _ hk)
  have st:∀ x,x < m->(t10 ps mk n).getD x 0=if mk.getD x 0=mk.getD (tB ps n) 0 then mk.getD (tA ps n) 0 else mk.getD x 0:=λx hx=>step_get ∅
  refine⟨λx y hx hy h=>i1 x y hx hy (by rw[st x hx,st y hy,h]),λk hk=>?_,λf h1 h2=>?_⟩
  ·rcases ú.mp hk with rfl | hk
   ·refine i1 _ _ ha hb ?_;rw[st _ ha,st _ hb,if_pos rfl];split <;> rfl
   ·exact i2 k hk
  ·refine i3 f (λx y hx hy h=>?_) λk hk=>h2 k (È _ hk);have e:=h2 n Ë;rw[st x hx,st y hy] at h;split at h
   ·rename_i hxb;have fx:=h1 _ _ hx hb hxb;split at h
    ·rename_i hyb;rw[fx,h1 _ _ hy hb hyb]
    ·rw[fx,← e];exact h1 _ _ ha hy h
   ·split at h
    ·rename_i hyb;rw[h1 _ _ hy hb hyb,← e];exact h1 _ _ hx ha h
    ·exact h1 _ _ hx hy h
theorem V30(h:x < m):(((ì m).map λ(i:Nat)=>(i:Int))).getD x 0=(x:Int):=by
 rw[Ø,Û,É9 h];rfl
theorem P71{m:Nat}(hr:∀ n < ps.length,tA ps n < m/\tB ps n < m){pl lot:List Nat}(hp:∀ p∈pl,p < m)(hl:∀ n∈lot,n < ps.length):F50 ps m pl lot=true↔∀ f:Nat->Int,(∀ n∈lot,f (tA ps n)=f (tB ps n))->∀ p∈pl,f p=f (pl.getD 0 0):=by
 obtain⟨_,h2,h3⟩:=o31 hr lot ((ì m).map λ(i:Nat)=>(i:Int)) (by simp) hl
 unfold F50 y02;rw[Æ9];have h0:∀ p∈pl,pl.getD 0 0 < m:=λp hp'=>by
  cases pl with
  |nil=>cases hp'
  |cons q r=>exact hp q Ë
 constructor
 ·intro h f hf p hp';refine h3 f (λx y hx hy e=>?_) hf p _ (hp p hp') (h0 p hp') (beq_iff_eq.mp (h p hp'));rw[V30 hx,V30 hy] at e;rw[Int.ofNat_inj.mp e]
 ·intro h p hp';rw[beq_iff_eq];exact h (λx=>(z20 ps m lot).getD x 0) h2 p hp'
end
section
variable (g:List Nat->Bool) (c:Nat->Int × Int)
variable {g c}
def o00:Nat->List (List Nat)
 |0=>[[]]|j + 1=>o00 j++(o00 j).map (·++[j])
theorem b81:∀ {j:Nat}{lot:List Nat},lot∈o00 j->∀ n∈lot,n < j
 |0,lot,h,n,hn=>by rw[è.mp h] at hn;cases hn
 |j + 1,lot,h,n,hn=>by
  rcases Ã6.mp h with h | h
  ·exact Å1 (b81 h n hn)
  ·obtain⟨l,hl,rfl⟩:=Ö.mp h;rcases Ã6.mp hn with hn | hn
   ·exact Å1 (b81 hl n hn)
   ·rw[è.mp hn];exact Ì2 j
def y12(l:List (List Nat))(f:List Nat->Int):Int:=(l.map f).foldr (· + ·) 0
end
theorem itE{it:It}{e:Ex}{l:List S}{ρ:Env}(h:S10 l=true):v61 it e l ρ=S20 it e l ρ:=by unfold v61;rw[h,R90];rfl
theorem x60:∀ l:List Nat,n80 (l.map a40)=true
 |[]=>rfl|_::r=>x60 r
structure Row(x:D)(lot:List Nat):Prop where
 sq:m51 x=some (lot.map a40)
 br:b72 x=true
theorem Row.t(lot:List Nat):Row (.tup (lot.map a40)) lot:=⟨rfl,x60 lot⟩
theorem Row.ba(h:Row x lot):S10 [.d x]=true:=by
 show(b72 x&&true)=true;rw[h.br];rfl
theorem D61{mk:List Int}{a:Int}(h0:0<=a)(h:a.toNat < mk.length):Z20 (.lst (mk.map D.int)) (.int a)=some (.int (mk.getD a.toNat 0)):=by
 obtain⟨n,rfl⟩:=Ë2 h0;rw[Á9] at h ⊢;rw[Ø,æ h];exact b71 (h52 h)
theorem V41{ps:List (Int × Int)}{n:Nat}(h:n < ps.length):Z20 (.tup (ps.map pr)) (.int n)=some (pr (ps.getD n (0,0))):=by
 rw[Ø,æ h];exact x52 (by rw[Û,æ h];rfl)
theorem getD_mem{ps:List (Int × Int)}{n:Nat}(h:n < ps.length):ps.getD n (0,0)∈ps:=by
 rw[Ø,æ h];exact É1 h
theorem e90.rng{m:Int}{ps:List (Int × Int)}(g:e90 m ps):∀ n < ps.length,tA ps n < m.toNat/\tB ps n < m.toNat:=λn hn=>by
 have:=g.tie _ (getD_mem hn);unfold tA tB;omega
def O72(a b:Int):D->D
 |.int v=>.int (if v=b then a else v)|x=>x
theorem i22{F:FT}{z:Z}{mk:List Int}(a b:Int){Q:List D->Z->Prop}{E:Nat->Z->Prop}(q:Q ((mk.map λx=>if x=b then a else x).map D.int) z):W (turns (o50 (ev F .nil) (ev F (.ite (.cmp .eq (.var 0) (.var 2)) (.var 1) (.var 0))) (.v 0) [none,some (.d (.int a)),some (.d (.int b))]) (mk.map D.int)) z Q E:=by
 refine p41 (O72 a b) (λx hx=>?_) ?_
 ·obtain⟨v,_,rfl⟩:=Ö.mp hx;refine ib (b:=v == b) (λh=>⟨?_,rfl⟩) λh=>⟨?_,rfl⟩
  ·show D.int a=.int (if v=b then a else v);rw[if_pos (beq_iff_eq.mp h)]
  ·show D.int v=.int (if v=b then a else v);rw[if_neg (by simpa using h)]
 ·have e:(mk.map D.int).map (O72 a b)=(mk.map λx=>if x=b then a else x).map D.int:=by rw[î,î];rfl
  rw[e];exact q
theorem b91(k:Nat){m:Int}{ps:List (Int × Int)}(g:e90 m ps){x:D}{lot:List Nat}(hx:Row x lot)(hl:∀ n∈lot,n < ps.length)(z:Z):b40 T (k + 3) H70 [.d (B20 m ps),.d x] z=some (.ok (.fr ((z20 ps m.toNat lot).map D.int)) z):=by
 have m6:=g.m6;have m1:=g.m1;refine W.ok (g50 (ps:=2) (ns:=10) (b:=x40) rfl rfl (-0) ?_)
 refine(a00 (o:=lrD [.int m]) (U50 ∅ ∅) ?_ :)
 refine a00 (o:=m51 x) hx.sq ?_;refine r20 (λxs ρ z1=>z1=z/\∃ (rest:List Nat) (mk:List Int) (o5 o6 o7 o8 o9:Option S),xs=rest.map a40/\(∀ n∈rest,n < ps.length)/\mk.length=m.toNat/\rest.foldl (t10 ps) mk=z20 ps m.toNat lot/\ρ=[some (.d (B20 m ps)),some (.d x),some (.d (.int m)),some (.d (.tup (ps.map pr))),some (.fr (mk.map D.int)),o5,o6,o7,o8,o9]) _ ⟨rfl,lot,(ì m.toNat).map λ(i:Nat)=>(i:Int),none,none,none,none,none,rfl,hl,by simp,rfl,(itE hx.ba).trans ?_⟩ ?_ ?_
 ·rw[← P11];rfl
 ·rintro y r ρ z1 ⟨rfl,rest,mk,o5,o6,o7,o8,o9,e,hr,hm,hf,rfl⟩;cases rest with
  |nil=>cases e
  |cons n rest =>
   cases e;have hn:=hr n Ë;have ht:=g.tie _ (getD_mem hn);refine(a00 (V41 hn) ?_ :);refine(a00 (D61 (mk:=mk) ht.1 ∅) ?_ :)
   refine(a00 (D61 (mk:=mk) (a:=(ps.getD n (0,0)).2) ∅ ∅) ?_ :)
   refine ip (by rw[É];simp only[most];omega) (i22 _ _ ?_)
   exact⟨rfl,rest,t10 ps mk n,_,_,_,_,_,rfl,λk hk=>hr k (È _ hk),by rw[N70];exact hm,hf,rfl⟩
 ·rintro ρ z1 ⟨rfl,rest,mk,o5,o6,o7,o8,o9,e,hr,hm,hf,rfl⟩;cases rest with
  |nil=>exact sd (by rw[← hf];rfl)|cons _ _=>cases e
section
variable {m:Int}{ps:List (Int × Int)}{pl lot:List Nat}
theorem y22{mk:List Int}{p:Nat}(h:p < mk.length):Z20 (.lst (mk.map D.int)) (.int p)=some (.int (mk.getD p 0)):=D61 (a:=(p:Int)) ∅ (by rw[Á9];exact h)
theorem V51(h:pl≠[]):Z20 (.tup (pl.map a40)) (.int 0)=some (a40 (pl.getD 0 0)):=by
 cases pl with
 |nil=>exact absurd rfl h|cons p r=>exact x52 (j:=0) rfl
theorem l30.p0(hp:l30 m pl):pl.getD 0 0 < m.toNat:=by
 have h:=hp.ne;have h2:=hp.lt;cases pl with
 |nil=>exact absurd rfl h|cons p r=>have:=h2 p Ë;show p < _;omega
def eqM(mk:List Int)(p0:Nat):D->Bool
 |.int p=>mk.getD p.toNat 0 == mk.getD p0 0|_=>false
theorem i32(l:List Nat):(l.map a40).all (eqM mk p0)=l.all λp=>mk.getD p 0 == mk.getD p0 0:=by rw[all_map];rfl
theorem N80(k:Nat)(g:e90 m ps)(hp:l30 m pl){x:D}(hx:Row x lot)(hl:∀ n∈lot,n < ps.length)(z:Z):b40 T (k + 4) y50 [.d (B20 m ps),.d x,.d (.tup (pl.map a40))] z=some (.ok (.d (.bl (F50 ps m.toNat pl lot))) z):=by
 have hlen:=hp.len g.m6;refine W.ok (g50 (ps:=3) (ns:=4) (b:=p10) rfl rfl (-0) (Wo (b91 k g hx hl z) ?_))
 have ml:(z20 ps m.toNat lot).length=m.toNat:=D51;generalize hmk:z20 ps m.toNat lot=mk at ml;refine ip (by rw[É];simp only[most];omega) (p41 (λx=>.bl (eqM mk (pl.getD 0 0) x)) (λy hy=>?_) (a00 (F30 _ (eqM mk (pl.getD 0 0))) ?_ :))
 ·obtain⟨p,hp',rfl⟩:=Ö.mp hy;have:=hp.lt p hp';refine(a00 (y22 (mk:=mk) (p:=p) ∅) ?_ :)
  refine(a00 (V51 hp.ne) ?_ :);refine(a00 (y22 (mk:=mk) (by rw[ml];exact hp.p0)) ?_ :)
  exact⟨rfl,rfl⟩
 ·refine sb (b:=(pl.map a40).all (eqM mk (pl.getD 0 0))) ?_;rw[i32,← hmk];rfl
theorem i42(h:okD (.lst l)=true):D20 .eq (.lst l) (.lst [])=some l.isEmpty:=by
 show(if okD (.lst l)&&okD (.lst []) then some (eqD (.lst l) (.lst [])) else eqE (.lst l) (.lst []))=_;rw[h];cases l <;> rfl
theorem N90(l:List Nat):okD (.lst (l.map a40))=true:=by
 have e:l.map a40=(l.map λ(n:Nat)=>(n:Int)).map D.int:=by rw[î];rfl
 rw[e];exact C51 _
end
def n20(l:List Nat):D:=.tup (l.map a40)
theorem q90:∀ {j:Nat}{lot:List Nat},lot∈o00 j->lot.length<=j
 |0,lot,h=>by rw[è.mp h];exact Í _
 |j + 1,lot,h=>by
  rcases Ã6.mp h with h | h
  ·exact Nat.le_succ_of_le (q90 h)
  ·obtain⟨l,hl,rfl⟩:=Ö.mp h;rw[P21];exact Ü4 (q90 hl)
theorem B30:∀ j:Nat,(o00 j).length=2 ^ j
 |0=>rfl
 |j + 1=>by
  show(o00 j++(o00 j).map (·++[j])).length=_;rw[Â0,É,B30 j,Ú4];omega
theorem D71(h:j<=8):2 ^ j<=256:=À4 (n:=2) (-0) h
theorem add_l(h:a.length + b.length<=1000):A50 .add (.lst a) (.lst b)=some (.fr (a++b)):=by
 show(if a.length + b.length<=most then some (S.fr (a++b)) else none)=_;rw[if_pos (n90 h)]
theorem o41(h:a.length + b.length<=1000):A50 .add (.tup a) (.tup b)=some (.d (.tup (a++b))):=by
 show(if a.length + b.length<=most then some (S.d (.tup (a++b))) else none)=_;rw[if_pos (n90 h)]
def O82(j:Nat):D->D
 |.tup l=>.tup (l++[a40 j])|x=>x
theorem P81:((o00 j).map n20).map (O82 j)=((o00 j).map (·++[j])).map n20:=by
 rw[î,î];refine Ã5 λl _=>?_;show D.tup (l.map a40++[a40 j])=.tup ((l++[j]).map a40);rw[Æ3];rfl
theorem O00{n:Nat}(h:n < 100000):itD .rng1 [.int n]=some ((Á5 0 n).map a40):=by
 rw[U50 ∅ ∅,Á9,Ç7];rfl
theorem i41(n:Nat):∀ l:List Nat,memD (a40 n) (l.map a40)=decide (n∈l)
 |[]=>rfl
 |x::r=>by
  show((x:Int) == (n:Int) || memD (a40 n) (r.map a40))=_;rw[i41 n r,Í7,Å6,beq_iff_eq,decide_eq_true_eq,decide_eq_true_eq,Â7];constructor
  ·rintro (h | h)
   ·exact .inl ∅
   ·exact .inr h
  ·rintro (h | h)
   ·exact .inl ∅
   ·exact .inr h
theorem v90(l:List Nat):G10 (l.map a40)=true:=by
 have e:l.map a40=(l.map λ(n:Nat)=>(n:Int)).map D.int:=by rw[î];rfl
 obtain⟨h1,h2⟩:=N20 (l.map λ(n:Nat)=>(n:Int));unfold G10;rw[e,h1,h2];rfl
theorem c01{n:Nat}{l:List Nat}:L81 (a40 n) (l.map a40)=some (decide (n∈l)):=by
 unfold L81;rw[v90,i41];rfl
theorem D81(h0:0 < b):(n40 t b).1 * b=(n40 t b).2 * t:=by
 obtain⟨e1,e2⟩:=N40 (t:=t) h0;generalize (n40 t b).1=x at *
 generalize (n40 t b).2=y at *
 generalize ((gcd t b:Nat):Int)=k at *
 rw[e1,e2]
 grind
def t20(k:Nat):List (List Nat):=(TS.sN k).map (TS.C30 k 0)
theorem V40(h:k<=8):o00 k=(ì (2 ^ k)).map (TS.C30 k 0):=by
 have:∀ k,k < 9->o00 k=(ì (2 ^ k)).map (TS.C30 k 0):=by decide +kernel
 exact this k ∅
theorem w00(h:k<=8):(t20 k).Perm (o00 k):=by
 have:∀ k,k < 9->(TS.sN k).isPerm (ì (2 ^ k))=true:=by decide +kernel
 rw[V40 h];exact(List.isPerm_iff.mp (this k ∅)).map _
theorem y32(h:k<=8):(o00 k).map n20=h30 k:=by
 rw[V40 h];unfold h30;rw[î];rfl
theorem c21(h:k<=8):bfD .sorted [.lst ((o00 k).map n20)]=some (.fr ((t20 k).map n20)):=by
 have h1:∀ k,k < 9->n10 (h30 k)=false:=by decide +kernel
 have h2:∀ k,k < 9->((ì 9).find? λj=>X00 (h30 k) (h30 j))=some k:=by decide +kernel
 rw[y32 h];show(if (h30 k).length < 64/\n10 (h30 k)=true then some (S.fr (u50 (h30 k))) else((((ì 9).find? λj=>X00 (h30 k) (h30 j)).map L91).map S.fr))=_;rw[if_neg (λq=>by rw[h1 k ∅] at q;cases q.2),h2 k ∅]
 show some (S.fr (L91 k))=some (S.fr ((t20 k).map n20));rw[t20,î];rfl
theorem i51{i:Nat}(hi:T[i]?=some (.code 1 3 q70))(k:Nat){m:Int}{ts:List D}(h8:ts.length<=8)(z:Z):b40 T (k + 3) i [.d (.tup [.int m,.tup ts])] z=some (.ok (.fr ((t20 ts.length).map n20)) z):=by
 refine W.ok (g50 (ps:=1) (ns:=3) (b:=q70) hi rfl (-0) ?_)
 refine(a00 (O00 (n:=ts.length) ∅) ?_ :)
 refine r20 (λxs ρ z1=>z1=z/\∃ (j r:Nat) (o2:Option S),j + r=ts.length/\xs=(Á5 j r).map a40/\ρ=[some (.d (.tup [.int m,.tup ts])),some (.fr ((o00 j).map n20)),o2]) _ ⟨rfl,0,ts.length,none,É4 _,rfl,rfl⟩ ?_ ?_
 ·rintro x r ρ z1 ⟨rfl,j,r',o2,hj,e,rfl⟩;cases r' with
  |zero=>cases e
  |succ r' =>
   rw[û] at e;cases e;have hp:=D71 (j:=j) ∅
   refine ip (by rw[É,B30];simp only[most];omega) (p41 (O82 j) (λy hy=>?_) ?_)
   ·obtain⟨l,hl,rfl⟩:=Ö.mp hy;have:=q90 hl;refine(a00 (o41 (a:=l.map a40) (b:=[a40 j]) (by rw[É];show _ + 1<=_;omega)) ?_ :)
    exact⟨rfl,rfl⟩
   ·rw[P81];refine(a00 (add_l (a:=(o00 j).map n20) (b:=((o00 j).map (·++[j])).map n20) (by rw[É,É,É,B30];omega)) ?_ :)
    refine⟨rfl,j + 1,r',some (.d (a40 j)),by omega,rfl,?_⟩
    exact congrArg (λl=>[some (S.d (.tup [.int m,.tup ts])),some (.fr l),some (.d (a40 j))]) Æ3.symm
 ·rintro ρ z1 ⟨rfl,j,r',o2,hj,e,rfl⟩;cases r' with
  |zero =>
   have hj:j=ts.length:=hj;subst hj;refine(a00 (c21 h8) ?_ :);exact sd rfl
  |succ r'=>rw[û] at e;cases e
theorem c31(k:Nat){m:Int}{ts:List D}(h8:ts.length<=8)(z:Z):b40 T (k + 3) H80 [.d (.tup [.int m,.tup ts])] z=some (.ok (.fr ((t20 ts.length).map n20)) z):=i51 rfl k h8 z
def P91:D->List Nat
 |.tup l=>l.map λx=>match x with | .int i=>i.toNat | _=>0
 |_=>[]
theorem i61(l:List Nat):P91 (n20 l)=l:=by
 show(l.map a40).map _=l;rw[î];exact map_id l
theorem D91(h:k<=8)(hl:lot∈t20 k):∀ n∈lot,n < k:=b81 ((w00 h).mem_iff.mp hl)
theorem i71(h:k<=8):(t20 k).length<=256:=by rw[(w00 h).length_eq,B30];exact D71 h
section
variable {m:Int}{ps cs:List (Int × Int)}{pl:List Nat}
abbrev n60(m:Int)(ps:List (Int × Int))(pl:List Nat):List (List Nat):=(t20 ps.length).filter (F50 ps m.toNat pl)
theorem V50(k:Nat)(g:e90 m ps)(hp:l30 m pl)(z:Z):b40 T (k + 9) E70 [.d (B20 m ps),.d (.tup (pl.map a40))] z=some (.ok (.fr ((n60 m ps pl).map n20)) z):=by
 have h8:=g.len;have h6:=hp.len g.m6;refine W.ok (g50 (ps:=2) (ns:=2) (b:=i50) rfl rfl (-0) (Wo (g30 k z g.web) (Wo (i80 (k + 2) (t:=.tup (ps.map pr)) z hp.pls (decide_eq_true (by rw[É];omega))) (Wo (c31 (k + 5) (m:=m) (ts:=ps.map pr) (by rw[É];exact h8) z) ?_))))
 rw[É];refine ip (by rw[É];exact n90 (Ò (i71 h8) (-0))) (h02 (λx=>F50 ps m.toNat pl (P91 x)) id (λx hx=>?_) ?_)
 ·obtain⟨l,hl,rfl⟩:=Ö.mp hx;refine Wo (N80 (k + 4) g hp (Row.t l) (D91 h8 hl) z) ⟨?_,rfl,λ_=>⟨rfl,rfl⟩⟩;rw[i61]
 ·refine sd ?_;rw[map_id,List.filter_map];have:(t20 ps.length).filter ((λx=>F50 ps m.toNat pl (P91 x)) ∘ n20)=n60 m ps pl:=List.filter_congr λl _=>by show F50 ps m.toNat pl (P91 (n20 l))=_;rw[i61]
  rw[this]
end
def tl:Sm->Sm
 |.seq _ r=>r|s=>s
structure Bs(n:Nat)(c:Int × Int):Prop where
 t:c.1.natAbs<=2 ^ n
 b0:0 < c.2
 b:c.2.natAbs<=2 ^ n
theorem O10(h:n<=3999)(hi:i<=2 ^ n):i < O90:=Ç5 hi (Nat.pow_lt_pow_right (-0) ∅)
theorem V60(h:n<=3999)(hi:i.natAbs<=2 ^ n)(hj:j.natAbs<=2 ^ n):A50 .mul (.int i) (.int j)=some (.d (.int (i * j))):=by
 show(if i.natAbs < O90/\j.natAbs < O90 then some (S.d (.int (i * j))) else none)=_;rw[if_pos ⟨O10 h hi,O10 h hj⟩]
theorem p50{n m:Nat}{i j:Int}(hi:i.natAbs<=2 ^ n)(hj:j.natAbs<=2 ^ m):(i * j).natAbs<=2 ^ (n + m):=by
 rw[natAbs_mul,Nat.pow_add];exact Nat.mul_le_mul hi hj
theorem c41(h:n<=3999)(hi:i.natAbs<=2 ^ n):big i:=by
 have:=O10 h hi;show i < 2 ^ 4000;have e:((O90:Nat):Int)=2 ^ 4000:=by unfold O90;exact Int.natCast_pow 2 4000
 rw[← e];omega
theorem IsC.s(h:IsC c):Bs 10 c:=by
 obtain⟨h1,h2,h3,h4,_⟩:=h;exact⟨by show _<=1024;omega,by omega,by show _<=1024;omega⟩
theorem y42(k:Nat)(hc:Bs n c)(hd:Bs n d)(hn:n + n<=3999)(z:Z):b40 T (k + 5) V01 [.d (pr c),.d (pr d)] z=some (.ok (.d (pr (n40 (c.1 * d.2 + d.1 * c.2) (c.2 * d.2)))) z):=by
 have h1:n<=3999:=by omega
 refine W.ok (g50 (ps:=2) (ns:=2) (b:=C11) rfl rfl (-0) ?_)
 refine(a00 (V60 h1 hc.t hd.b) ?_ :);refine(a00 (V60 h1 hd.t hc.b) ?_ :);refine(a00 (V60 h1 hc.b hd.b) ?_ :);exact Wo (U90 k _ _ z (Ô5 hc.b0 hd.b0) (c41 hn (p50 hc.b hd.b))) (sd rfl)
theorem E01(h0:0 < b):(n40 t b).1.natAbs<=t.natAbs/\(n40 t b).2.natAbs<=b.natAbs:=by
 obtain⟨e1,e2⟩:=N40 (t:=t) h0;have g0:=t00 (t:=t) h0;generalize n40 t b=v at *
 generalize hg:gcd t b=g at *
 have g1:1<=g:=by omega
 constructor
 ·rw[e1,natAbs_mul,Int.natAbs_natCast];exact à6 _ g1
 ·rw[e2,natAbs_mul,Int.natAbs_natCast];exact à6 _ g1
theorem F60(k:Nat)(z:Z)(h:chD x=true):b40 T (k + 5) k40 [.d x] z=some (.ok (.d .non) z) :=
 W.ok (g50 (ps:=1) (ns:=1) (b:=f90) rfl rfl (-0) (Wo (y90 k x z) (ie (b:=!chD x) (by rw[h];rfl) (sd rfl))))
theorem F70(k:Nat)(z:Z)(h:chD x=false):b40 T (k + 5) k40 [.d x] z=some (.er 5 z) :=
 W.er (g50 (ps:=1) (ns:=1) (b:=f90) rfl rfl (-0) (Wo (y90 k x z) (it (b:=!chD x) (by rw[h];rfl) ⟨rfl,c40 z⟩)))
structure Rt(v:Int × Int)(t b:Int):Prop where
 b0:0 < v.2
 one:gcd v.1 v.2=1
 eq:v.1 * b=t * v.2
theorem Rt.low{t b:Int}(hb:0 < b):Rt (n40 t b) t b:=⟨N50 hb,D11 hb,by rw[D81 hb,Ú7]⟩
theorem Rt.conv{v:Int × Int}{t b t' b':Int}(h:Rt v t b)(hb:0 < b)(e:t * b'=t' * b):Rt v t' b':=by
 refine⟨h.b0,h.one,Ð0 (a:=b) ∅ ?_⟩
 have:=h.eq
 calc v.1 * b' * b=(v.1 * b) * b':=by grind
  _=(t * b') * v.2:=by rw[this];grind
  _=t' * v.2 * b:=by rw[e];grind
theorem Rt.eqv{v w:Int × Int}{t b:Int}(hv:Rt v t b)(hw:Rt w t b)(hb:0 < b):v=w:=by
 have e:v.1 * w.2=w.1 * v.2:=by
  have h1:=hv.eq;have h2:=hw.eq;refine Ð0 (a:=b) ∅ ?_
  calc v.1 * w.2 * b=(v.1 * b) * w.2:=by grind
   _=(t * w.2) * v.2:=by rw[h1];grind
   _=w.1 * v.2 * b:=by rw[← h2];grind
 obtain⟨a,b'⟩:=o01 hv.b0 hw.b0 hv.one hw.one e;exact Prod.ext a b'
theorem Rt.add{v w:Int × Int}{t b t' b':Int}(hv:Rt v t b)(hw:Rt w t' b'):Rt (n40 (v.1 * w.2 + w.1 * v.2) (v.2 * w.2)) (t * b' + t' * b) (b * b'):=by
 have y:=Ô5 hv.b0 hw.b0;refine(Rt.low y).conv y ?_;have h1:=hv.eq;have h2:=hw.eq
 calc (v.1 * w.2 + w.1 * v.2) * (b * b')=(v.1 * b) * (w.2 * b') + (w.1 * b') * (v.2 * b):=by grind
  _=(t * b' + t' * b) * (v.2 * w.2):=by rw[h1,h2];grind
theorem Rt.mul{v w:Int × Int}{t b t' b':Int}(hv:Rt v t b)(hw:Rt w t' b'):Rt (n40 (v.1 * w.1) (v.2 * w.2)) (t * t') (b * b'):=by
 have y:=Ô5 hv.b0 hw.b0;refine(Rt.low y).conv y ?_;have h1:=hv.eq;have h2:=hw.eq
 calc v.1 * w.1 * (b * b')=(v.1 * b) * (w.1 * b'):=by grind
  _=t * t' * (v.2 * w.2):=by rw[h1,h2];grind
theorem IsC.rt{c:Int × Int}(h:IsC c):Rt c c.1 c.2:=⟨by have:=h.1;omega,h.2.2.2.2,rfl⟩
theorem X42:IsC (1,1):=⟨by decide,by decide,by decide,by decide,by decide⟩
theorem X52:IsC (0,1):=⟨by decide,by decide,by decide,by decide,by decide⟩
theorem Bs.up{n m:Nat}{c:Int × Int}(h:Bs n c)(hm:n<=m):Bs m c :=
 have e:=À4 (n:=2) (-0) hm
 ⟨Ò h.t e,h.b0,Ò h.b e⟩
theorem Bs.low{n:Nat}{t b:Int}(h0:0 < b)(ht:t.natAbs<=2 ^ n)(hb:b.natAbs<=2 ^ n):Bs n (n40 t b) :=
 ⟨Ò (E01 h0).1 ht,N50 h0,Ò (E01 h0).2 hb⟩
theorem Bs.mul{n:Nat}{c d:Int × Int}(hc:Bs n c)(hd:Bs n d):Bs (n + n) (n40 (c.1 * d.1) (c.2 * d.2)):=.low (Ô5 hc.b0 hd.b0) (p50 hc.t hd.t) (p50 hc.b hd.b)
def p60(f:Nat->Int):Nat->Int
 |0=>0|n + 1=>p60 f n + f n
theorem h90:∀ {n:Nat},(∀ i < n,f i=g i)->p60 f n=p60 g n
 |0,_=>rfl
 |n + 1,h=>by
  show p60 f n + f n=p60 g n + g n;rw[h90 λi hi=>h i ∅,h n ∅]
theorem O20:∀ n:Nat,p60 (λi=>f i + g i) n=p60 f n + p60 g n
 |0=>rfl
 |n + 1=>by
  show p60 (λi=>f i + g i) n + (f n + g n)=(p60 f n + f n) + (p60 g n + g n);rw[O20 n];omega
theorem i81(k:Int):∀ n:Nat,p60 (λi=>k * f i) n=k * p60 f n
 |0=>(Ô1 k).symm
 |n + 1=>by
  show p60 (λi=>k * f i) n + k * f n=k * (p60 f n + f n);rw[i81 k n,Int.mul_add]
theorem i91:∀ {n:Nat},i < n->p60 (λj=>if j=i then v else 0) n=v
 |n + 1,h=>by
  show p60 (λj=>if j=i then v else 0) n + (if n=i then v else 0)=v;by_cases e:n=i
  ·subst e;rw[if_pos rfl];have:p60 (λj=>if j=n then v else 0) n=0:=by
    have z:p60 (λj=>if j=n then v else 0) n=p60 (λ_=>0) n:=h90 λj hj=>if_neg ∅
    have z2:∀ k,p60 (λ_=>0) k=0:=λk=>by
     induction k with
     |zero=>rfl|succ k ih=>show p60 (λ_=>0) k + 0=0;rw[ih];rfl
    rw[z,z2]
   rw[this];omega
  ·rw[if_neg e,i91 (n:=n) ∅];omega
def cnt(ls:List (List Nat))(j:Nat):Int:=((ls.filter λl=>l.length == j).length:Nat)
theorem cnt_cons(l:List Nat)(r:List (List Nat))(j:Nat):cnt (l::r) j=cnt r j + if j=l.length then 1 else 0:=by
 unfold cnt;rw[Ñ7];by_cases h:j=l.length
 ·rw[if_pos h,h,beq_self_eq_true,if_pos rfl,Ü];omega
 ·rw[if_neg h,beq_eq_false_iff_ne.mpr (Â3 h),if_neg (-0)];omega
theorem V61(ls:List (List Nat))(j:Nat):0<=cnt ls j/\cnt ls j<=ls.length:=by
 unfold cnt;have:=Å3 (λl=>l.length == j) ls;omega
theorem E11(h:Nat->Int):∀ {ls:List (List Nat)},(∀ l∈ls,l.length < n)->p60 (λj=>cnt ls j * h j) n=y12 ls λl=>h l.length
 |[],_=>by
  have:∀ k,p60 (λj=>cnt [] j * h j) k=0:=λk=>by
   induction k with
   |zero=>rfl|succ k ih=>show p60 (λj=>cnt [] j * h j) k + 0 * h k=0;rw[ih,zero_mul];rfl
  rw[this];rfl
 |l::r,hl=>by
  have ih:=E11 h (n:=n) λx hx=>hl x (È _ hx);have e:p60 (λj=>cnt (l::r) j * h j) n=p60 (λj=>cnt r j * h j + (if j=l.length then h l.length else 0)) n:=h90 λj _=>by
   rw[cnt_cons,Int.add_mul];by_cases e:j=l.length
   ·rw[if_pos e,if_pos e,Int.one_mul,e]
   ·rw[if_neg e,if_neg e,zero_mul]
  rw[e,O20,ih,i91 (hl l Ë)];show _=h l.length + y12 r _;omega
def lag(f:Nat->Int)(j:Nat):Int:=f j - if j=0 then 0 else f (j - 1)
def w20(c:Nat->Int):Nat->Nat->Int
 |0,_=>0|k + 1,j=>lag (w20 c k) j + if j=k then c k else 0
theorem c51(hc:∀ i,0<=c i/\c i<=256):∀ k j,(w20 c k j).natAbs<=256 * (2 ^ k - 1)
 |0,_=>by show(0:Int).natAbs<=_;decide
 |k + 1,j=>by
  show(lag (w20 c k) j + (if j=k then c k else 0)).natAbs<=_;have h1:=c51 hc k j;have h2:(if j=0 then(0:Int) else w20 c k (j - 1)).natAbs<=256 * (2 ^ k - 1):=by
   split
   ·exact Æ6 _
   ·exact c51 hc k (j - 1)
  have h3:(if j=k then c k else 0).natAbs<=256:=by
   have:=hc k;split <;> omega
  have h4:(lag (w20 c k) j).natAbs<=256 * (2 ^ k - 1) + 256 * (2 ^ k - 1):=Ò (Int.natAbs_sub_le _ _) (Nat.add_le_add h1 h2);refine Ò (Ò (Int.natAbs_add_le _ _) (Nat.add_le_add h4 h3)) ?_;have hp:0 < 2 ^ k:=Nat.pow_pos (-0)
  rw[Ú4];generalize 2 ^ k=P at hp;clear h1 h2 h3 h4;omega
section
variable (t b:Int)
def evN(K:Nat)(f:Nat->Int)(n:Nat):Int:=p60 (λj=>f j * (t ^ j * b ^ (K - j))) n
end
def fl(n:Nat)(f:Nat->Int):List D:=(ì n).map λj=>.int (f j)
theorem l40(n:Nat)(f:Nat->Int):(fl n f).length=n:=by unfold fl;rw[É,ù]
theorem i52(h:i < n):(fl n f)[i]?=some (.int (f i)):=by unfold fl;rw[Û,É9 h];rfl
theorem V71(h:i < n):L2.atI (fl n f) (i:Int)=some (.int (f i)):=L2.w50 (i52 h)
theorem j01(h:i < n):Z20 (.lst (fl n f)) (a40 i)=some (.int (f i)):=L2.w50 (i52 h)
theorem j11(h:∀ i < n,f i=g i):fl n f=fl n g:=Ã5 λi hi=>by rw[h i (Â5.mp hi)]
theorem V81(h:i < n):G90 (fl n f) (i:Int) (.int v)=some (fl n λj=>if j=i then v else f j):=by
 have hx:L2.ixN (fl n f).length (i:Int)=some i:=by
  rw[l40];unfold L2.ixN;simp;omega
 unfold G90;rw[hx];show some (((ì n).map λj=>D.int (f j)).set i (.int v))=some ((ì n).map λj=>D.int (if j=i then v else f j));refine congrArg some (ext_getElem (by rw[Ä1,É,É]) λj h1 h2=>?_)
 rw[List.getElem_set,Ñ6,Ñ6,Ò2];by_cases e:j=i
 ·rw[if_pos e.symm,if_pos e]
 ·rw[if_neg (Â3 e),if_neg e]
theorem g40(n:Nat)(f:Nat->Int):n80 (fl n f)=true:=by
 unfold fl;rw[show((ì n).map λj=>D.int (f j))=((ì n).map f).map D.int from by rw[î];rfl]
 exact I10 _
theorem E21:∀ n:Nat,(ë n [D.int 0]).flatten=fl n λ_=>0
 |0=>rfl
 |n + 1=>by
  rw[Å5,É8,E21 n];unfold fl;rw[List.range_succ_eq_map,Å7,î];rfl
theorem zeros{n:Nat}(h:n<=1000):A50 .mul (.lst [.int 0]) (.int n)=some (.fr (fl n λ_=>0)):=by
 show(if 0<=(n:Int)/\(n:Int).toNat * 1<=most/\(n:Int) < 1000000 then some (S.fr (ë (n:Int).toNat [D.int 0]).flatten) else none)=_;rw[if_pos ⟨by omega,by rw[Á9];exact n90 ∅,by omega⟩,Á9,E21]
theorem V70{i:Int}{n:Nat}(e:i=n)(h:n<=1000):A50 .mul (.lst [.int 0]) (.int i)=some (.fr (fl n λ_=>0)):=by rw[e];exact zeros h
theorem i62(n:Nat)(f:Nat->Int):w80 (fl n f) 0=(Á5 0 n).map λi=>.tup [a40 i,.int (f i)]:=by
 have:∀ (r j:Nat),w80 ((Á5 j r).map λi=>D.int (f i)) j=(Á5 j r).map λi=>.tup [a40 i,.int (f i)]:=by
  intro r
  induction r with
  |zero=>intro _;rfl
  |succ r ih =>
   intro j;rw[û];show .tup [.int j,.int (f j)]::w80 ((Á5 (j + 1) r).map λi=>D.int (f i)) (j + 1)=_;rw[ih];rfl
 unfold fl;rw[Ç7];exact this n 0
def A52:D->D
 |.tup [.int a,.int b]=>.int (a - b)|x=>x
theorem j21:∀ a b:List Int,(n30 (a.map D.int) (b.map D.int)).map A52=(List.zipWith (· - ·) a b).map D.int
 |[],_=>rfl|_::_,[]=>rfl
 |x::r,y::q=>by
  show D.int (x - y)::(n30 (r.map D.int) (q.map D.int)).map A52=_;rw[j21 r q];rfl
theorem y52(n:Nat)(f:Nat->Int):(n30 (fl n f) (.int 0::fl n f)).map A52=fl n (lag f):=by
 have e:∀ g:Nat->Int,fl n g=((ì n).map g).map D.int:=λg=>by unfold fl;rw[î];rfl
 rw[e f,show D.int 0::((ì n).map f).map D.int=(0::(ì n).map f).map D.int from rfl,j21,e (lag f)];refine congrArg _ (ext_getElem ?_ λi h1 h2=>?_)
 ·rw[List.length_zipWith,Ü,É,É,ù];omega
 ·rw[List.getElem_zipWith,Ñ6,Ñ6,Ò2];unfold lag;cases i with
  |zero=>rfl|succ i=>rw[List.getElem_cons_succ,Ñ6,Ò2];rfl
theorem c61{a b:List Int}{d:D}(h:d∈n30 (a.map D.int) (b.map D.int)):∃ x y,d=.tup [.int x,.int y]:=by
 obtain⟨x,hx,y,hy,rfl⟩:=N10 h;obtain⟨i,_,rfl⟩:=Ö.mp hx;obtain⟨j,_,rfl⟩:=Ö.mp hy;exact⟨i,j,rfl⟩
theorem o51{n:Nat}{f:Nat->Int}{d:D}(h:d∈n30 (fl n f) (.int 0::fl n f)):∃ x y,d=.tup [.int x,.int y]:=by
 have e:fl n f=((ì n).map f).map D.int:=by unfold fl;rw[î];rfl
 rw[e] at h;exact c61 (b:=0::(ì n).map f) h
theorem x70:∀ ls:List (List Nat),n80 (ls.map n20)=true
 |[]=>rfl
 |l::r=>by
  show(n80 (l.map a40)&&n80 (r.map n20))=true;rw[x60,x70];rfl
section
variable {m:Int}{ps:List (Int × Int)}{pl:List Nat}
theorem j31(g:e90 m ps)(h:l∈n60 m ps pl):l∈o00 ps.length:=(w00 g.len).mem_iff.mp (Ü8.mp h).1
theorem o61(g:e90 m ps):(n60 m ps pl).length<=256:=Ò (Å3 _ _) (i71 g.len)
abbrev r90(m:Int)(ps:List (Int × Int))(pl:List Nat):Nat->Int:=cnt (n60 m ps pl)
theorem E31(k:Nat)(g:e90 m ps)(hp:l30 m pl)(z:Z):b40 T (k + 10) B10 [.d (B20 m ps),.d (.tup (pl.map a40))] z=some (.ok (.fr (fl (ps.length + 1) (r90 m ps pl))) z):=by
 have h8:=g.len;refine W.ok (g50 (ps:=2) (ns:=5) (b:=v60) rfl rfl (-0) (Wo (V50 k g hp z) ?_))
 refine(M60 (.fr (fl (ps.length + 1) λ_=>0)) [some (.d (B20 m ps)),some (.d (.tup (pl.map a40))),some (.fr ((n60 m ps pl).map n20)),some (.fr (fl (ps.length + 1) λ_=>0)),none] ?_ ?_ ?_ :)
 ·refine(a00 (V70 (i:=((ps.map pr).length:Int) + 1) (n:=ps.length + 1) (by rw[É];rfl) ∅) ?_ :)
  exact⟨rfl,rfl⟩
 ·rw[E50 (show z90 (.fr (fl (ps.length + 1) λ_=>0))=true from g40 _ _)];rfl
 refine r20 (λxs ρ z1=>z1=z/\∃ (r:List (List Nat)) (f:Nat->Int) (o2 o4:Option S),xs=r.map n20/\(∀ l∈r,l.length < ps.length + 1)/\(∀ j,f j + cnt r j=r90 m ps pl j)/\ρ=[some (.d (B20 m ps)),some (.d (.tup (pl.map a40))),o2,some (.fr (fl (ps.length + 1) f)),o4]) _ ⟨rfl,n60 m ps pl,λ_=>0,_,none,rfl,λl hl=>Ú5 (q90 (j31 g hl)),λj=>Ô0 _,(itE (l:=[.d (.lst ((n60 m ps pl).map n20))]) (by show(n80 ((n60 m ps pl).map n20)&&true)=true;rw[x70];rfl)).trans rfl⟩ ?_ ?_
 ·rintro x r ρ z1 ⟨rfl,ls,f,o2,o4,e,hl,hf,rfl⟩;cases ls with
  |nil=>cases e
  |cons l ls =>
   cases e;have hl0:=hl l Ë;have el:((l.map a40).length:Int)=(l.length:Nat):=by rw[É]
   refine(a00 (o:=L2.atI (fl (ps.length + 1) f) ((l.map a40).length:Int)) (a:=.int (f l.length)) (by rw[el];exact V71 hl0) ?_ :)
   refine(a00 (o:=G90 (fl (ps.length + 1) f) ((l.map a40).length:Int) (.int (f l.length + 1))) (a:=fl (ps.length + 1) λj=>if j=l.length then f l.length + 1 else f j) (by rw[el];exact V81 hl0) ?_ :)
   refine⟨rfl,ls,λj=>if j=l.length then f l.length + 1 else f j,_,_,rfl,λl' h'=>hl l' (È _ h'),λj=>?_,rfl⟩;have:=hf j;rw[cnt_cons] at this;show(if j=l.length then f l.length + 1 else f j) + cnt ls j=r90 m ps pl j;by_cases e:j=l.length
   ·rw[if_pos e] at this;rw[if_pos e,← e];omega
   ·rw[if_neg e] at this;rw[if_neg e];omega
 ·rintro ρ z1 ⟨rfl,ls,f,o2,o4,e,hl,hf,rfl⟩;cases ls with
  |cons l ls=>cases e
  |nil =>
   refine sd ?_;rw[show f=r90 m ps pl from funext λj=>by have:=hf j;show f j=_;rw[← this];exact(add_zero _).symm]
theorem Q01(k:Nat)(g:e90 m ps)(hx:D41 m x=false)(hs:short x=true)(z:Z):b40 T (k + 10) B10 [.d (B20 m ps),.d x] z=some (.er 2 z) :=
 W.er (g50 (ps:=2) (ns:=5) (b:=v60) rfl rfl (-0) (We (W.er (g50 (ps:=2) (ns:=2) (b:=i50) rfl rfl (-0) (Wo (g30 k z g.web) (We (p40 (k + 2) (t:=.tup (ps.map pr)) z hx hs) ⟨rfl,c40 z⟩)))) ⟨rfl,c40 z⟩))
theorem Q11(k:Nat)(hw:n51 w=false)(z:Z):b40 T (k + 10) B10 [.d w,.d x] z=some (.er 0 z) :=
 W.er (g50 (ps:=2) (ns:=5) (b:=v60) rfl rfl (-0) (We (W.er (g50 (ps:=2) (ns:=2) (b:=i50) rfl rfl (-0) (We (y80 k z hw) ⟨rfl,c40 z⟩))) ⟨rfl,c40 z⟩))
abbrev z30(m:Int)(ps:List (Int × Int))(pl:List Nat):Nat->Int:=w20 (r90 m ps pl) (ps.length + 1)
abbrev pwE(m:Int)(ps:List (Int × Int))(pl:List Nat)(o2 o3 o4 o5:Option S):Env:=[some (.d (B20 m ps)),some (.d (.tup (pl.map a40))),o2,o3,o4,o5]
theorem V80(k:Nat)(g:e90 m ps)(hp:l30 m pl)(z:Z):b40 T (k + 11) l90 [.d (B20 m ps),.d (.tup (pl.map a40))] z=some (.ok (.fr (fl (ps.length + 1) (z30 m ps pl))) z):=by
 have h8:=g.len;refine W.ok (g50 (ps:=2) (ns:=6) (b:=v70) rfl rfl (-0) (Wo (E31 k g hp z) ?_))
 refine(M60 (.fr (fl (ps.length + 1) λ_=>0)) (pwE m ps pl (some (.fr (fl (ps.length + 1) (r90 m ps pl)))) (some (.fr (fl (ps.length + 1) λ_=>0))) none none) ?_ ?_ ?_ :)
 ·refine(a00 (V70 (i:=((fl (ps.length + 1) (r90 m ps pl)).length:Int)) (n:=ps.length + 1) (by rw[l40]) ∅) ?_ :)
  exact⟨rfl,rfl⟩
 ·rw[E50 (show z90 (.fr (fl (ps.length + 1) λ_=>0))=true from g40 _ _)];rfl
 refine r20 (λxs ρ z1=>z1=z/\∃ (j r:Nat) (s3:S) (o2 o4 o5:Option S),j + r=ps.length + 1/\xs=(Á5 j r).map (λi=>.tup [a40 i,.int (r90 m ps pl i)])/\((j=0/\s3=.d (.lst (fl (ps.length + 1) (w20 (r90 m ps pl) j))))∨s3=.fr (fl (ps.length + 1) (w20 (r90 m ps pl) j)))/\ρ=pwE m ps pl o2 (some s3) o4 o5) _ ⟨rfl,0,ps.length + 1,.d (.lst (fl (ps.length + 1) λ_=>0)),_,_,_,É4 _,i62 _ _,.inl ⟨rfl,rfl⟩,(itE (l:=[.d (.lst (fl (ps.length + 1) (r90 m ps pl)))]) (by show(n80 (fl (ps.length + 1) (r90 m ps pl))&&true)=true;rw[g40];rfl)).trans rfl⟩ ?_ ?_
 ·rintro x r ρ z1 ⟨rfl,j,r',s3,o2,o4,o5,hj,e,hs,rfl⟩;cases r' with
  |zero=>cases e
  |succ r' =>
   rw[û] at e;cases e;refine(M60 (.fr (fl (ps.length + 1) (lag (w20 (r90 m ps pl) j)))) (pwE m ps pl o2 (some (.fr (fl (ps.length + 1) (lag (w20 (r90 m ps pl) j))))) (some (.d (a40 j))) (some (.d (.int (r90 m ps pl j))))) ?_ ?_ ?_ :)
   ·have st:∀ {Q:List D->Z->Prop}{F:FT},Q (fl (ps.length + 1) (lag (w20 (r90 m ps pl) j))) z1->(if (n30 (fl (ps.length + 1) (w20 (r90 m ps pl) j)) (.int 0::fl (ps.length + 1) (w20 (r90 m ps pl) j))).length<=most then W (turns (o50 (ev F .nil) (ev F (.bin .sub v0 v1)) (p2 (.v 0) (.v 1)) [none,none]) (n30 (fl (ps.length + 1) (w20 (r90 m ps pl) j)) (.int 0::fl (ps.length + 1) (w20 (r90 m ps pl) j)))) z1 Q NE else False):=λ{Q F} q=>by
     refine ip (Ò (q80 _ _) (by rw[l40];exact n90 ∅)) (p41 A52 (λx hx=>?_) ?_)
     ·obtain⟨a,b,rfl⟩:=o51 hx;exact⟨rfl,rfl⟩
     ·rw[y52];exact q
    have ad:A50 .add (.lst [.int 0]) (.lst (fl (ps.length + 1) (w20 (r90 m ps pl) j)))=some (.fr (.int 0::fl (ps.length + 1) (w20 (r90 m ps pl) j))):=add_l (by rw[l40];show 1 + _<=1000;omega)
    rcases hs with ⟨_,rfl⟩ | rfl
    ·refine(a00 ad ?_ :);exact st (F:=H00 T (k + 10)) ⟨rfl,rfl⟩
    ·refine(a00 ad ?_ :);exact st (F:=H00 T (k + 10)) ⟨rfl,rfl⟩
   ·rw[E50 (show z90 (.fr (fl (ps.length + 1) (lag (w20 (r90 m ps pl) j))))=true from g40 _ _)];rfl
   ·refine(a00 (V71 (f:=lag (w20 (r90 m ps pl) j)) (i:=j) (n:=ps.length + 1) ∅) ?_ :)
    refine(a00 (V81 (f:=lag (w20 (r90 m ps pl) j)) (i:=j) (n:=ps.length + 1) (v:=lag (w20 (r90 m ps pl) j) j + r90 m ps pl j) ∅) ?_ :)
    refine⟨rfl,j + 1,r',_,_,_,_,by omega,rfl,.inr (congrArg S.fr (j11 λi _=>?_)),rfl⟩
    show(if i=j then lag (w20 (r90 m ps pl) j) j + r90 m ps pl j else lag (w20 (r90 m ps pl) j) i)=lag (w20 (r90 m ps pl) j) i + (if i=j then r90 m ps pl j else 0);by_cases e:i=j
    ·rw[if_pos e,if_pos e,e]
    ·rw[if_neg e,if_neg e,add_zero]
 ·rintro ρ z1 ⟨rfl,j,r',s3,o2,o4,o5,hj,e,hs,rfl⟩;cases r' with
  |succ r'=>rw[û] at e;cases e
  |zero =>
   have hj:j=ps.length + 1:=hj;subst hj;rcases hs with ⟨h,_⟩ | rfl
   ·cases h
   ·exact sd rfl
theorem Q21(k:Nat)(g:e90 m ps)(hx:D41 m x=false)(hs:short x=true)(z:Z):b40 T (k + 11) l90 [.d (B20 m ps),.d x] z=some (.er 2 z) :=
 W.er (g50 (ps:=2) (ns:=6) (b:=v70) rfl rfl (-0) (We (Q01 k g hx hs z) ⟨rfl,c40 z⟩))
theorem Q31(k:Nat)(hw:n51 w=false)(z:Z):b40 T (k + 11) l90 [.d w,.d x] z=some (.er 0 z) :=
 W.er (g50 (ps:=2) (ns:=6) (b:=v70) rfl rfl (-0) (We (Q11 k hw z) ⟨rfl,c40 z⟩))
end
theorem i72(k:Nat)(hc:Bs n c)(hd:Bs n d)(hn:n + n<=3999)(z:Z):b40 T (k + 5) B91 [.d (pr c),.d (pr d)] z=some (.ok (.d (pr (n40 (c.1 * d.1) (c.2 * d.2)))) z):=by
 have h1:n<=3999:=by omega
 refine W.ok (g50 (ps:=2) (ns:=2) (b:=b31) rfl rfl (-0) ?_)
 refine(a00 (V60 h1 hc.t hd.t) ?_ :);refine(a00 (V60 h1 hc.b hd.b) ?_ :);exact Wo (U90 k _ _ z (Ô5 hc.b0 hd.b0) (c41 hn (p50 hc.b hd.b))) (sd rfl)
theorem Rt.is(h:Rt v t b)(hb:0 < b):v=n40 t b:=h.eqv (.low hb) hb
theorem Rt.bs(h:Rt v t b)(hb:0 < b)(h1:t.natAbs<=2 ^ n)(h2:b.natAbs<=2 ^ n):Bs n v:=by
 rw[h.is hb];exact .low hb h1 h2
def E41(t b:Int)(f:Nat->Int)(K:Nat):Nat->Int
 |0=>0|s + 1=>t * E41 t b f K s + f (K - s) * b ^ (s + 1)
theorem E51(t b:Int)(f:Nat->Int)(K:Nat):∀ s,s<=K + 1->t ^ (K + 1 - s) * E41 t b f K s + b * evN t b K f (K + 1 - s)=b * evN t b K f (K + 1)
 |0,_=>by show t ^ (K + 1) * 0 + _=_;rw[Ô1,Ô0];rfl
 |s + 1,h=>by
  rw[← E51 t b f K s ∅]
  have e1:K + 1 - s=(K - s) + 1:=by omega
  have e2:K + 1 - (s + 1)=K - s:=by omega
  rw[e1,e2];show t ^ (K - s) * (t * E41 t b f K s + f (K - s) * b ^ (s + 1)) + b * evN t b K f (K - s)=t ^ (K - s + 1) * E41 t b f K s + b * (evN t b K f (K - s) + f (K - s) * (t ^ (K - s) * b ^ (K - (K - s))));rw[show K - (K - s)=s by omega,Ç6,Ç6]
  generalize t ^ (K - s)=X;generalize b ^ s=B;generalize E41 t b f K s=H;generalize evN t b K f (K - s)=V
  grind
theorem Q41(t b:Int)(f:Nat->Int)(K:Nat):E41 t b f K (K + 1)=b * evN t b K f (K + 1):=by
 have h:=E51 t b f K (K + 1) (Í _);rw[sub_self,Ó0,Int.one_mul] at h;rw[← h];show _=E41 t b f K (K + 1) + b * 0;rw[Ô1,add_zero]
theorem i82{a b:Int}:(a + b).natAbs<=a.natAbs + b.natAbs:=Int.natAbs_add_le a b
theorem t30(hc:IsC c):∀ s:Nat,(c.2 ^ s).natAbs<=2 ^ (10 * s)/\0 < c.2 ^ s
 |0=>⟨by rw[Ó0];decide,by rw[Ó0];decide⟩
 |s + 1=>by
  obtain⟨h1,h2⟩:=t30 hc s;rw[Ç6];have:=hc.s.b;exact⟨p50 h1 this,Ô5 h2 hc.s.b0⟩
theorem E61(hc:IsC c)(hf:∀ j,(f j).natAbs<=2 ^ 17){K:Nat}:∀ s,(E41 c.1 c.2 f K s).natAbs<=2 ^ (17 + 11 * s)
 |0=>Æ6 _
 |s + 1=>by
  have ih:=E61 hc hf (K:=K) s;have h1:=p50 hc.s.t ih;have h2:=p50 (hf (K - s)) (t30 hc (s + 1)).1;refine Ò i82 ?_;have e1:2 ^ (10 + (17 + 11 * s))<=2 ^ (16 + 11 * (s + 1)):=À4 (-0) ∅
  have e2:2 ^ (17 + 10 * (s + 1))<=2 ^ (16 + 11 * (s + 1)):=À4 (-0) ∅
  have e3:2 ^ (17 + 11 * (s + 1))=2 * 2 ^ (16 + 11 * (s + 1)):=by rw[show 17 + 11 * (s + 1)=(16 + 11 * (s + 1)) + 1 by omega,Ú4,Ó8]
  rw[e3];omega
section
variable {m:Int}{ps:List (Int × Int)}{pl:List Nat}{c:Int × Int}
theorem E71(g:e90 m ps)(j:Nat):(z30 m ps pl j).natAbs<=2 ^ 17:=by
 have h8:=g.len;refine Ò (c51 (λi=>?_) _ _) ?_
 ·have:=V61 (n60 m ps pl) i;have:=o61 g (pl:=pl);exact⟨(V61 (n60 m ps pl) i).1,by show cnt (n60 m ps pl) i<=256;omega⟩
 ·have:2 ^ (ps.length + 1)<=2 ^ 9:=À4 (-0) ∅
  have e9:2 ^ 9=512:=by decide
  have e17:2 ^ 17=131072:=by decide
  omega
def O92(m:Int)(ps:List (Int × Int))(pl:List Nat)(c:Int × Int):Int × Int:=n40 (evN c.1 c.2 ps.length (z30 m ps pl) (ps.length + 1)) (c.2 ^ ps.length)
theorem E81(f:Nat->Int):∀ n,(fl (n + 1) f).reverse=.int (f n)::(fl n f).reverse:=λn=>by
 unfold fl;rw[List.range_succ,Æ3,List.reverse_append];rfl
theorem c71(k:Nat)(g:e90 m ps)(hp:l30 m pl)(hc:IsC c)(z:Z):b40 T (k + 12) e40 [.d (B20 m ps),.d (.tup (pl.map a40)),.d (pr c)] z=some (.ok (.d (pr (O92 m ps pl c))) z):=by
 have h8:=g.len;have h6:=hp.len g.m6;refine W.ok (g50 (ps:=3) (ns:=5) (b:=h80) rfl rfl (-0) (Wo (g30 (k + 3) z g.web) (Wo (i80 (k + 5) (t:=.tup (ps.map pr)) z hp.pls (decide_eq_true (by rw[É];omega))) (Wo (F60 (k + 6) z hc.ch) (Wo (V80 k g hp z) ?_)))))
 refine r20 (λxs ρ z1=>z1=z/\∃ (s:Nat) (v:Int × Int) (o4:Option S),s<=ps.length + 1/\xs=(fl (ps.length + 1 - s) (z30 m ps pl)).reverse/\Rt v (E41 c.1 c.2 (z30 m ps pl) ps.length s) (c.2 ^ s)/\ρ=[some (.d (B20 m ps)),some (.d (.tup (pl.map a40))),some (.d (pr c)),some (.d (pr v)),o4]) _ ⟨rfl,0,(0,1),none,Æ6 _,rfl,⟨by decide,by decide,by show(0:Int) * _=0 * _;rw[zero_mul,zero_mul]⟩,rfl⟩ ?_ ?_
 ·rintro x r ρ z1 ⟨rfl,s,v,o4,hs,e,hv,rfl⟩;by_cases h:s=ps.length + 1
  ·subst h;rw[sub_self] at e;cases e
  ·rw[show ps.length + 1 - s=(ps.length - s) + 1 by omega,E81] at e
   cases e;have hb:=t30 hc s;have hbs:Bs 116 v:=hv.bs hb.2 (Ò (E61 hc (E71 g) s) (À4 (-0) ∅)) (Ò hb.1 (À4 (-0) ∅))
   have hcs:Bs 116 c:=hc.s.up (-0)
   have hi:Bs 232 (z30 m ps pl (ps.length - s),(1:Int)):=⟨Ò (E71 g _) (À4 (-0) (-0)),by show(0:Int) < 1;decide,by show(1:Int).natAbs<=2 ^ 232;decide⟩
   refine Wo (i72 (k + 6) hbs hcs (-0) z1) (Wo (y42 (k + 6) (hbs.mul hcs) hi (-0) z1) ?_)
   refine⟨rfl,s + 1,_,_,by omega,by rw[show ps.length + 1 - (s + 1)=ps.length - s by omega],?_,rfl⟩
   have hr:Rt (z30 m ps pl (ps.length - s),(1:Int)) (z30 m ps pl (ps.length - s)) 1:=⟨by show(0:Int) < 1;decide,Int.gcd_one_right _,rfl⟩
   refine((hv.mul hc.rt).add hr).conv ?_ ?_
   ·exact Ô5 (Ô5 hb.2 hc.s.b0) (-0)
   ·show _ * c.2 ^ (s + 1)=(c.1 * E41 c.1 c.2 (z30 m ps pl) ps.length s + z30 m ps pl (ps.length - s) * c.2 ^ (s + 1)) * _;rw[Ç6];generalize c.2 ^ s=B;generalize E41 c.1 c.2 (z30 m ps pl) ps.length s=H
    grind
 ·rintro ρ z1 ⟨rfl,s,v,o4,hs,e,hv,rfl⟩;have hs':s=ps.length + 1:=by
   have:=congrArg List.length e;rw[Ì3,l40] at this;simp only[Á1] at this;omega
  subst hs';refine sd ?_;rw[Q41] at hv;have hb:=t30 hc ps.length;have:Rt v (evN c.1 c.2 ps.length (z30 m ps pl) (ps.length + 1)) (c.2 ^ ps.length):=hv.conv (t30 hc (ps.length + 1)).2 (by rw[Ç6];generalize c.2 ^ ps.length=B;generalize evN c.1 c.2 ps.length (z30 m ps pl) (ps.length + 1)=V;grind)
  rw[this.is hb.2];rfl
theorem o71(k:Nat)(g:e90 m ps)(hp:l30 m pl)(hx:chD x=false)(z:Z):b40 T (k + 12) e40 [.d (B20 m ps),.d (.tup (pl.map a40)),.d x] z=some (.er 5 z):=by
 have h6:=hp.len g.m6;exact W.er (g50 (ps:=3) (ns:=5) (b:=h80) rfl rfl (-0) (Wo (g30 (k + 3) z g.web) (Wo (i80 (k + 5) (t:=.tup (ps.map pr)) z hp.pls (decide_eq_true (by rw[É];omega))) (We (F70 (k + 6) z hx) ⟨rfl,c40 z⟩))))
theorem o81(k:Nat)(g:e90 m ps)(hy:D41 m y=false)(hs:short y=true)(z:Z):b40 T (k + 12) e40 [.d (B20 m ps),.d y,.d x] z=some (.er 2 z) :=
 W.er (g50 (ps:=3) (ns:=5) (b:=h80) rfl rfl (-0) (Wo (g30 (k + 3) z g.web) (We (p40 (k + 5) (t:=.tup (ps.map pr)) z hy hs) ⟨rfl,c40 z⟩)))
theorem o91(k:Nat)(hw:n51 w=false)(z:Z):b40 T (k + 12) e40 [.d w,.d y,.d x] z=some (.er 0 z) :=
 W.er (g50 (ps:=3) (ns:=5) (b:=h80) rfl rfl (-0) (We (y80 (k + 3) z hw) ⟨rfl,c40 z⟩))
end
theorem eq_self(h:okD x=true)(hs:T11 .seq x=false):D20 .eq x x=some true:=by
 show(if okD x&&okD x then some (eqD x x) else eqE x x)=some true;rw[h];cases x with
 |non=>rfl|bl b=>show some (b == b)=_;rw[beq_self_eq_true]|int i=>show some (i == i)=_;rw[beq_self_eq_true]|str s=>show some (s == s)=_;rw[beq_self_eq_true]|tup l=>cases hs
 |lst l=>cases hs
 |dct=>rfl
theorem O30:∀ {l:List D}{d:D},d∈n30 l l->∃ x∈l,d=.tup [x,x]
 |x::r,d,h=>by
  rcases ú.mp h with h | h
  ·exact⟨x,Ë,h⟩
  ·obtain⟨u,hu,e⟩:=O30 h;exact⟨u,È _ hu,e⟩
mutual
noncomputable def flat:Nat->D->Bool
 |_,.non=>true|_,.bl _=>true|_,.int _=>true|_,.str _=>false|0,.tup _=>false|d + 1,.tup l=>decide (l.length<=1000)&&c81 d l|_,.lst _=>false|_,.dct=>false
noncomputable def c81:Nat->List D->Bool
 |_,[]=>true|d,x::r=>flat d x&&c81 d r
end
theorem V90:∀ {d:Nat}{l:List D}{x:D},c81 d l=true->x∈l->flat d x=true
 |d,y::r,x,h,hx=>by
  unfold c81 at h;rw[Á] at h;rcases ú.mp hx with rfl | hx
  ·exact h.1
  ·exact V90 h.2 hx
theorem E91:∀ (d k:Nat) (x:D) (z:Z),flat d x=true->b40 T (k + d + 3) e30 [.d x,.d x] z=some (.ok (.d (.bl true)) z):=by
 have one:∀ (k:Nat) (x:D) (z:Z),okD x=true->T11 .seq x=false->b40 T (k + 3) e30 [.d x,.d x] z=some (.ok (.d (.bl true)) z):=λk x z h hs=>by
  refine W.ok (g50 (ps:=2) (ns:=2) (b:=i60) rfl rfl (-0) (ie hs ?_))
  refine(a00 (eq_self h hs) ?_ :);cases x with
  |tup l=>cases hs
  |lst l=>cases hs
  |_=>exact sb rfl
 intro d
 induction d with
 |zero =>
  intro k x z h;cases x with
  |non=>exact one k _ z rfl rfl|bl b=>exact one k _ z rfl rfl|int i=>exact one k _ z rfl rfl|_=>unfold flat at h;cases h
 |succ d ih =>
  intro k x z h;cases x with
  |non=>exact one _ _ z rfl rfl|bl b=>exact one _ _ z rfl rfl|int i=>exact one _ _ z rfl rfl
  |tup l =>
   unfold flat at h;rw[Á,decide_eq_true_eq] at h;refine W.ok (g50 (ps:=2) (ns:=2) (b:=i60) rfl rfl (-0) ?_)
   refine ie (b:=!((l.length:Int) == (l.length:Int))) (by rw[beq_self_eq_true];rfl) ?_
   refine ip (c:=(n30 l l).length<=most) (Ò (q80 _ _) (n90 h.1)) (p41 (λ_=>.bl true) (λq hq=>?_) (a00 (F30 (n30 l l) λ_=>true) ?_ :))
   ·obtain⟨x,hx,rfl⟩:=O30 hq;exact Wo (ih k x z (V90 h.2 hx)) ⟨rfl,rfl⟩
   ·exact sb (b:=(n30 l l).all λ_=>true) (Õ.mpr λ_ _=>rfl)
  |_=>unfold flat at h;cases h
theorem j41{d:Nat}:∀ {l:List D},(∀ x∈l,flat d x=true)->c81 d l=true
 |[],_=>by unfold c81;rfl
 |x::r,h=>by
  unfold c81;rw[h x Ë,j41 λy hy=>h y (È _ hy)];rfl
theorem Q51{d:Nat}{l:List D}(h:l.length<=1000)(ha:∀ x∈l,flat d x=true):flat (d + 1) (.tup l)=true:=by
 unfold flat;rw[decide_eq_true h,j41 ha];rfl
theorem Q61{d:Nat}{i:Int}:flat d (.int i)=true:=by unfold flat;rfl
theorem i92{d:Nat}{p:Int × Int}:flat (d + 1) (pr p)=true:=Q51 (by decide:2<=1000) λx hx=>by
 simp only[Â7,À0,or_false] at hx;rcases hx with rfl | rfl <;> exact Q61
theorem F01(k:Nat)(hl:l.length<=1000)(h:∀ x∈l,flat 0 x=true)(z:Z):b40 T (k + 4) e30 [.d (.lst l),.d (.lst l)] z=some (.ok (.d (.bl true)) z):=by
 refine W.ok (g50 (ps:=2) (ns:=2) (b:=i60) rfl rfl (-0) ?_)
 refine ie (b:=!((l.length:Int) == (l.length:Int))) (by rw[beq_self_eq_true];rfl) ?_
 refine ip (c:=(n30 l l).length<=most) (Ò (q80 _ _) (n90 hl)) (p41 (λ_=>.bl true) (λq hq=>?_) (a00 (F30 (n30 l l) λ_=>true) ?_ :))
 ·obtain⟨x,hx,rfl⟩:=O30 hq;exact Wo (E91 0 k x z (h x hx)) ⟨rfl,rfl⟩
 ·exact sb (b:=(n30 l l).all λ_=>true) (Õ.mpr λ_ _=>rfl)
theorem j02(k n:Nat)(hn:n<=1000)(f:Nat->Int)(z:Z):b40 T (k + 4) e30 [.d (.lst (fl n f)),.d (.lst (fl n f))] z=some (.ok (.d (.bl true)) z) :=
 F01 k (by rw[l40];exact hn) (λx hx=>by
  obtain⟨i,_,rfl⟩:=Ö.mp hx;unfold flat;rfl) z
abbrev pf(ps:List (Int × Int))(i:Nat):Int × Int:=ps.getD i (0,0)
section
variable {m:Int}{ps cs:List (Int × Int)}{pl:List Nat}
theorem y62{i:Nat}(h:i < ps.length):pf ps i∈ps:=by
 rw[pf,Ø,æ h];exact É1 h
theorem e90.ab(g:e90 m ps){n:Nat}(hn:n < ps.length):tA ps n < tB ps n/\tB ps n < m.toNat/\pf ps n=((tA ps n:Int),(tB ps n:Int)):=by
 have:=g.tie _ (y62 hn);refine⟨by show(pf ps n).1.toNat < (pf ps n).2.toNat;omega,by show(pf ps n).2.toNat < _;omega,Prod.ext ?_ ?_⟩
 ·show(pf ps n).1=((pf ps n).1.toNat:Int);omega
 ·show(pf ps n).2=((pf ps n).2.toNat:Int);omega
end
def W00(F:List Nat)(a b:Nat):List Nat:=if a∈F/\b ∉ F then F++[b] else F
theorem j51(h:x∈F):x∈W00 F a b:=by
 unfold W00;split
 ·exact Æ5 _ h
 ·exact h
theorem c91(F:List Nat)(a b:Nat):(W00 F a b=F/\(a∈F->b∈F))∨F.length < (W00 F a b).length:=by
 unfold W00;split
 ·exact .inr (by rw[P21];omega)
 ·rename_i h;exact .inl ⟨rfl,λha=>Û8 λhb=>h ⟨ha,hb⟩⟩
def Pls(m:Nat)(F:List Nat):Prop:=F.Nodup/\∀ x∈F,x < m
theorem p70:∀ {m:Nat}{F:List Nat},Pls m F->F.length<=m
 |0,[],_=>Í _|0,x::_,h=>absurd (h.2 x Ë) (Ö0 _)
 |m + 1,F,h=>by
  have h1:(F.erase m).length<=m:=p70 ⟨h.1.erase m,λx hx=>by
   have h2:=h.2 x (List.mem_of_mem_erase hx);have h3:x≠m:=(List.Nodup.mem_erase_iff h.1).mp hx |>.1;omega⟩
  by_cases hm:m∈F
  ·rw[List.length_erase_of_mem hm] at h1;omega
  ·rw[List.erase_of_not_mem hm] at h1;omega
theorem B40(h:Pls m F)(hb:b < m):Pls m (W00 F a b):=by
 unfold W00;split
 ·rename_i hh;refine⟨List.nodup_append.mpr ⟨h.1,by simp,λx hx y hy=>?_⟩,λx hx=>?_⟩
  ·rw[è.mp hy];exact λe=>hh.2 (e ▸ hx)
  ·rcases Ã6.mp hx with hx | hx
   ·exact h.2 x hx
   ·rw[è.mp hx];exact hb
 ·exact h
theorem V91{F:List Nat}{a b:Nat}{f:Nat->Int}{v:Int}(h:∀ x∈F,f x=v)(e:f a=f b):∀ x∈W00 F a b,f x=v:=by
 unfold W00;split
 ·rename_i hh;intro x hx;rcases Ã6.mp hx with hx | hx
  ·exact h x hx
  ·rw[è.mp hx,← e];exact h a hh.1
 ·exact h
section
variable (ps:List (Int × Int))
def spr(F:List Nat)(n:Nat):List Nat:=W00 (W00 F (tA ps n) (tB ps n)) (tB ps n) (tA ps n)
def rnd(lot:List Nat)(F:List Nat):List Nat:=lot.foldl (spr ps) F
def x80(lot:List Nat):Nat->List Nat->List Nat
 |0,F=>F|j + 1,F=>x80 lot j (rnd ps lot F)
variable {ps:List (Int × Int)}
theorem y72(F:List Nat)(n:Nat):(spr ps F n=F/\(tA ps n∈F↔tB ps n∈F))∨F.length < (spr ps F n).length:=by
 unfold spr;rcases c91 F (tA ps n) (tB ps n) with ⟨h1,h2⟩ | h1
 ·rw[h1];rcases c91 F (tB ps n) (tA ps n) with ⟨h3,h4⟩ | h3
  ·exact .inl ⟨h3,h2,h4⟩
  ·exact .inr h3
 ·rcases c91 (W00 F (tA ps n) (tB ps n)) (tB ps n) (tA ps n) with ⟨h3,_⟩ | h3
  ·rw[h3];exact .inr h1
  ·exact .inr (Nat.lt_trans h1 h3)
theorem F11:∀ (lot F:List Nat),(rnd ps lot F=F/\∀ n∈lot,(tA ps n∈F↔tB ps n∈F))∨F.length < (rnd ps lot F).length
 |[],F=>.inl ⟨rfl,λ_ h=>nomatch h⟩
 |n::r,F=>by
  show(rnd ps r (spr ps F n)=F/\_)∨F.length < (rnd ps r (spr ps F n)).length;rcases y72 (ps:=ps) F n with ⟨h1,h2⟩ | h1
  ·rw[h1];rcases F11 r F with ⟨h3,h4⟩ | h3
   ·refine .inl ⟨h3,λk hk=>?_⟩;rcases ú.mp hk with rfl | hk
    ·exact h2
    ·exact h4 k hk
   ·exact .inr h3
  ·rcases F11 r (spr ps F n) with ⟨h3,_⟩ | h3
   ·rw[h3];exact .inr h1
   ·exact .inr (Nat.lt_trans h1 h3)
theorem F21:∀ {lot F:List Nat},Pls m F->(∀ n∈lot,tA ps n < m/\tB ps n < m)->Pls m (rnd ps lot F)
 |[],_,h,_=>h|n::r,F,h,hl=>F21 (lot:=r) (F:=spr ps F n) (B40 (B40 h (hl n Ë).2) (hl n Ë).1) λk hk=>hl k (È _ hk)
theorem y82{f:Nat->Int}{v:Int}:∀ {lot F:List Nat},(∀ x∈F,f x=v)->(∀ n∈lot,f (tA ps n)=f (tB ps n))->∀ x∈rnd ps lot F,f x=v
 |[],_,h,_=>h|n::r,F,h,hl=>y82 (lot:=r) (F:=spr ps F n) (V91 (V91 h (hl n Ë)) (hl n Ë).symm) λk hk=>hl k (È _ hk)
theorem F31:∀ {lot F:List Nat}{x:Nat},x∈F->x∈rnd ps lot F
 |[],_,_,h=>h|n::r,F,x,h=>F31 (lot:=r) (F:=spr ps F n) (j51 (j51 h))
theorem j61(hl:∀ n∈lot,tA ps n < m/\tB ps n < m):∀ {j:Nat}{F:List Nat},Pls m F->Pls m (x80 ps lot j F)
 |0,_,h=>h|j + 1,_,h=>j61 hl (j:=j) (F21 h hl)
theorem W01{f:Nat->Int}{v:Int}{lot:List Nat}(hl:∀ n∈lot,f (tA ps n)=f (tB ps n)):∀ {j:Nat}{F:List Nat},(∀ x∈F,f x=v)->∀ x∈x80 ps lot j F,f x=v
 |0,_,h=>h|j + 1,_,h=>W01 hl (j:=j) (y82 h hl)
theorem j71:∀ {j:Nat}{F:List Nat}{x:Nat},x∈F->x∈x80 ps lot j F
 |0,_,_,h=>h|j + 1,_,_,h=>j71 (j:=j) (F31 h)
theorem F41:∀ (j:Nat) (F:List Nat),(∀ n∈lot,(tA ps n∈x80 ps lot j F↔tB ps n∈x80 ps lot j F))∨F.length + j<=(x80 ps lot j F).length
 |0,F=>.inr (Í _)
 |j + 1,F=>by
  show(∀ n∈lot,(tA ps n∈x80 ps lot j (rnd ps lot F)↔tB ps n∈x80 ps lot j (rnd ps lot F)))∨F.length + (j + 1)<=(x80 ps lot j (rnd ps lot F)).length;rcases F11 (ps:=ps) lot F with ⟨h1,h2⟩ | h1
  ·have e:∀ i,x80 ps lot i F=F:=λi=>by
    induction i with
    |zero=>rfl|succ i ih=>show x80 ps lot i (rnd ps lot F)=F;rw[h1];exact ih
   refine .inl ?_;rw[h1,e];exact h2
  ·rcases F41 (lot:=lot) j (rnd ps lot F) with h2 | h2
   ·exact .inl h2
   ·exact .inr ∅
theorem F51{m:Int}{pl lot:List Nat}(g:e90 m ps)(hp:l30 m pl)(hl:∀ n∈lot,n < ps.length):(∀ p∈pl,p∈x80 ps lot m.toNat [pl.getD 0 0])↔F50 ps m.toNat pl lot=true:=by
 have hr:∀ n∈lot,tA ps n < m.toNat/\tB ps n < m.toNat:=λn hn=>g.rng n (hl n hn);have hpm:∀ p∈pl,p < m.toNat:=λp h=>by have:=hp.lt p h;omega
 have p0:pl.getD 0 0 < m.toNat:=hp.p0;rw[P71 g.rng hpm hl];constructor
 ·exact λh f hf p hpp=>W01 hf (λx hx=>by rw[è.mp hx]) p (h p hpp)
 ·intro h p hpp;have cl:∀ n∈lot,(tA ps n∈x80 ps lot m.toNat [pl.getD 0 0]↔tB ps n∈x80 ps lot m.toNat [pl.getD 0 0]):=by
   rcases F41 (ps:=ps) (lot:=lot) m.toNat [pl.getD 0 0] with h1 | h1
   ·exact h1
   ·have:=p70 (j61 hr (j:=m.toNat) (F:=[pl.getD 0 0]) ⟨by simp,λx hx=>by rw[è.mp hx];exact p0⟩)
    simp only[Ü,Á1] at h1;omega
  have h2:=h (λx=>if x∈x80 ps lot m.toNat [pl.getD 0 0] then 1 else 0) (λn hn=>by
   by_cases hx:tA ps n∈x80 ps lot m.toNat [pl.getD 0 0]
   ·rw[if_pos hx,if_pos ((cl n hn).mp hx)]
   ·rw[if_neg hx,if_neg λhy=>hx ((cl n hn).mpr hy)]) p hpp
  rw[if_pos (j71 (è.mpr rfl))] at h2;exact Û8 λhx=>by rw[if_neg hx] at h2;cases h2
end
def k32(k:Nat):List Nat->List Nat
 |[]=>[k]|y::r=>if y < k then y::k32 k r else k::y::r
def d01:List Nat->List Nat
 |[]=>[]|k::r=>k32 k (d01 r)
theorem W10(k:Nat):∀ l,(k32 k l).Perm (k::l)
 |[]=>.refl _
 |y::r=>by
  unfold k32;split
  ·exact((W10 k r).cons y).trans (.swap _ _ _)
  ·exact .refl _
theorem I30:∀ l,(d01 l).Perm l
 |[]=>.refl _|k::r=>(W10 k _).trans ((I30 r).cons k)
theorem j81(k:Nat):∀ l:List Nat,p31 (a40 k) (l.map a40)=(k32 k l).map a40
 |[]=>rfl
 |y::r=>by
  unfold k32;show(if MySort.h20 [(y:Int)] [(k:Int)] then a40 y::p31 (a40 k) (r.map a40) else a40 k::a40 y::r.map a40)=_;rw[L92,j81 k r];by_cases h:y < k
  ·rw[decide_eq_true (by omega:(y:Int) < k),if_pos rfl,if_pos h];rfl
  ·rw[decide_eq_false (by omega:¬ (y:Int) < k),if_neg (-0),if_neg h];rfl
theorem W20:∀ l:List Nat,u50 (l.map a40)=(d01 l).map a40
 |[]=>rfl
 |k::r=>by
  show p31 (a40 k) (u50 (r.map a40))=_;rw[W20 r,j81];rfl
theorem d11(h:l.length < 64):bfD .sorted [.lst (l.map a40)]=some (.fr ((d01 l).map a40)):=by
 have ok:n10 (l.map a40)=true:=by
  refine Õ.mpr λx hx=>?_;obtain⟨p,_,rfl⟩:=Ö.mp hx;show(true&&(true&&(l.map a40).all (i20 (a40 p))))=true;refine Õ.mpr λy hy=>?_;obtain⟨q,_,rfl⟩:=Ö.mp hy;exact N60 p q
 show(if (l.map a40).length < 64/\n10 (l.map a40)=true then some (S.fr (u50 (l.map a40))) else _)=_;rw[if_pos ⟨by rw[É];exact h,ok⟩,W20]
theorem O40{n:Nat}{l:List Nat}:(L81 (a40 n) (l.map a40)).map (!·)=some (!decide (n∈l)):=by rw[c01];rfl
def F61:D->Nat
 |.int i=>i.toNat|_=>0
section
variable {m:Int}{ps:List (Int × Int)}{pl lot:List Nat}
abbrev wiE(m:Int)(ps:List (Int × Int))(lot:List Nat)(p0:Nat)(F:List Nat)(o4 o5 o6 o7:Option S):Env:=[some (.d (B20 m ps)),some (.d (.tup (lot.map a40))),some (.d (a40 p0)),some (.fr (F.map a40)),o4,o5,o6,o7]
theorem j91:F.map a40++[a40 b]=(F++[b]).map a40:=by rw[Æ3];rfl
theorem d21(k:Nat)(g:e90 m ps)(hl:∀ n∈lot,n < ps.length){p0:Nat}(h0:p0 < m.toNat)(z:Z):b40 T (k + 3) E80 [.d (B20 m ps),.d (.tup (lot.map a40)),.d (a40 p0)] z=some (.ok (.d (.tup ((d01 (x80 ps lot m.toNat [p0])).map a40))) z):=by
 have m6:=g.m6;have m1:=g.m1;have hr:∀ n∈lot,tA ps n < m.toNat/\tB ps n < m.toNat:=λn hn=>g.rng n (hl n hn);refine W.ok (g50 (ps:=3) (ns:=8) (b:=s70) rfl rfl (-0) ?_)
 refine(M60 (.fr [a40 p0]) (wiE m ps lot p0 [p0] none none none none) ?_ ?_ ?_ :)
 ·exact⟨rfl,rfl⟩
 ·rfl
 refine(a00 (U50 (m:=m) ∅ ∅) ?_ :)
 refine r20 (λxs ρ z1=>z1=z/\∃ (F:List Nat) (o4 o5 o6 o7:Option S),Pls m.toNat F/\x80 ps lot xs.length F=x80 ps lot m.toNat [p0]/\ρ=wiE m ps lot p0 F o4 o5 o6 o7) _ ⟨rfl,[p0],none,none,none,none,⟨by simp,λx hx=>by rw[è.mp hx];exact h0⟩,by rw[É,ù],rfl⟩ ?_ ?_
 ·rintro x r ρ z1 ⟨rfl,F,o4,o5,o6,o7,hF,e,rfl⟩;refine r20 (λxs ρ z2=>z2=z1/\∃ (l G:List Nat) (o4 o5 o6 o7:Option S),xs=l.map a40/\(∀ n∈l,n < ps.length)/\Pls m.toNat G/\rnd ps l G=rnd ps lot F/\ρ=wiE m ps lot p0 G o4 o5 o6 o7) _ ⟨rfl,lot,F,some (.d x),o5,o6,o7,rfl,hl,hF,rfl,(itE (Row.t lot).ba).trans rfl⟩ ?_ ?_
  ·rintro y r' ρ z2 ⟨rfl,l,G,o4,o5,o6,o7,e1,hl1,hG,e2,rfl⟩;cases l with
   |nil=>cases e1
   |cons n l =>
    cases e1;have hn:=hl1 n Ë;have ab:=(g.ab hn).2.2;have rb:=g.rng n hn;have len:=p70 hG;refine(a00 (show Z20 (.tup (ps.map pr)) (.int n)=some (pr ((tA ps n:Int),(tB ps n:Int))) from by rw[V41 hn];exact congrArg (λx=>some (pr x)) ab) ?_ :)
    refine g92 (λρ z3=>z3=z2/\∃ (o4 o5:Option S),ρ=wiE m ps lot p0 (W00 G (tA ps n) (tB ps n)) o4 o5 (some (.d (a40 (tA ps n)))) (some (.d (a40 (tB ps n))))) ?_ ?_
    ·have no:∀ h:¬ (tA ps n∈G/\tB ps n ∉ G),W00 G (tA ps n) (tB ps n)=G:=λh=>if_neg h;refine(a00 (c01 (n:=tA ps n) (l:=G)) ?_ :);refine ib (b:=decide (tA ps n∈G)) (λh1=>?_) λh1=>⟨rfl,_,_,by rw[no λh=>of_decide_eq_false h1 h.1];rfl⟩
     refine(a00 (O40 (n:=tB ps n) (l:=G)) ?_ :);refine ib (b:=!decide (tB ps n∈G)) (λh2=>?_) λh2=>⟨rfl,_,_,by rw[no λh=>by rw[decide_eq_false h.2] at h2;cases h2];rfl⟩
     refine(a00 (add_l (a:=G.map a40) (b:=[a40 (tB ps n)]) (by rw[É];show G.length + 1<=1000;omega)) ?_ :)
     rw[j91,show W00 G (tA ps n) (tB ps n)=G++[tB ps n] from if_pos ⟨of_decide_eq_true h1,by simpa using h2⟩]
     exact⟨rfl,_,_,rfl⟩
    ·rintro ρ z3 ⟨rfl,o4,o5,rfl⟩;have hG1:=B40 (a:=tA ps n) (b:=tB ps n) hG rb.2;have P21:=p70 hG1;have fin:∀ (ρ:Env) (G':List Nat) (o4 o5 o6 o7:Option S),G'=spr ps G n->ρ=wiE m ps lot p0 G' o4 o5 o6 o7->(z3=z3/\∃ (l' G:List Nat) (o4 o5 o6 o7:Option S),List.map a40 l=l'.map a40/\(∀ n∈l',n < ps.length)/\Pls m.toNat G/\rnd ps l' G=rnd ps lot F/\ρ=wiE m ps lot p0 G o4 o5 o6 o7):=λρ G' o4 o5 o6 o7 e he=>⟨rfl,l,G',o4,o5,o6,o7,rfl,λk hk=>hl1 k (È _ hk),by rw[e];exact B40 hG1 rb.1,by rw[e];exact e2,he⟩
     unfold spr at fin;generalize W00 G (tA ps n) (tB ps n)=G1 at fin hG1 P21;have no:∀ h:¬ (tB ps n∈G1/\tA ps n ∉ G1),G1=W00 G1 (tB ps n) (tA ps n):=λh=>(if_neg h).symm;refine(a00 (c01 (n:=tB ps n) (l:=G1)) ?_ :);refine ib (b:=decide (tB ps n∈G1)) (λh1=>?_) λh1=>fin _ G1 _ _ _ _ (no λh=>of_decide_eq_false h1 h.1) rfl;refine(a00 (O40 (n:=tA ps n) (l:=G1)) ?_ :);refine ib (b:=!decide (tA ps n∈G1)) (λh2=>?_) λh2=>fin _ G1 _ _ _ _ (no λh=>by rw[decide_eq_false h.2] at h2;cases h2) rfl
     refine(a00 (add_l (a:=G1.map a40) (b:=[a40 (tA ps n)]) (by rw[É];show G1.length + 1<=1000;omega)) ?_ :)
     rw[j91];exact fin _ (G1++[tA ps n]) _ _ _ _ (if_pos ⟨of_decide_eq_true h1,by simpa using h2⟩).symm rfl
  ·rintro ρ z2 ⟨rfl,l,G,o4,o5,o6,o7,e1,hl1,hG,e2,rfl⟩;cases l with
   |cons n l=>cases e1
   |nil=>exact⟨rfl,G,_,_,_,_,hG,by rw[show G=rnd ps lot F from e2];exact e,rfl⟩
 ·rintro ρ z1 ⟨rfl,F,o4,o5,o6,o7,hF,e,rfl⟩;have len:=p70 hF;have e:F=x80 ps lot m.toNat [p0]:=e;refine(a00 (d11 (l:=F) ∅) ?_ :)
  rw[← e];exact sd rfl
theorem W30(k:Nat)(g:e90 m ps)(hp:l30 m pl)(hl:∀ n∈lot,n < ps.length)(z:Z):b40 T (k + 4) E90 [.d (B20 m ps),.d (.tup (lot.map a40)),.d (.tup (pl.map a40))] z=some (.ok (.d (.bl (F50 ps m.toNat pl lot))) z):=by
 have hlen:=hp.len g.m6;refine W.ok (g50 (ps:=3) (ns:=4) (b:=s80) rfl rfl (-0) ?_)
 refine(a00 (V51 hp.ne) ?_ :);refine Wo (d21 k g hl hp.p0 z) ?_;refine ip (by rw[É];simp only[most];omega) (h02 (λx=>!decide (F61 x∈x80 ps lot m.toNat [pl.getD 0 0])) (λx=>x) (λy hy=>?_) ?_)
 ·obtain⟨p,hp',rfl⟩:=Ö.mp hy;refine(a00 (O40 (n:=p) (l:=d01 (x80 ps lot m.toNat [pl.getD 0 0]))) ?_ :);refine⟨?_,rfl,λ_=>⟨rfl,rfl⟩⟩;rw[show decide (p∈d01 (x80 ps lot m.toNat [pl.getD 0 0]))=decide (F61 (a40 p)∈x80 ps lot m.toNat [pl.getD 0 0]) from by
   rw[Í7,decide_eq_true_eq,decide_eq_true_eq,(I30 _).mem_iff];rfl]
 ·rw[map_id',List.filter_map];refine(a00 (i42 (N90 _)) ?_ :);refine sb ?_;rw[Í7,← F51 g hp hl,List.isEmpty_map,Ì8,Ç2];constructor
  ·intro h p hpp;have h1:¬ (!decide (p∈x80 ps lot m.toNat [pl.getD 0 0]))=true:=h p hpp;simpa using h1
  ·intro h p hpp;show ¬ (!decide (p∈x80 ps lot m.toNat [pl.getD 0 0]))=true;simpa using h p hpp
theorem W40(k:Nat)(h8:ts.length<=8)(z:Z):b40 T (k + 3) F00 [.d (.tup [.int m,.tup ts])] z=some (.ok (.fr ((t20 ts.length).map n20)) z):=i51 rfl k h8 z
end
theorem W50:∀ {a b:List D},d90 (a++b)=(d90 a&&d90 b)
 |[],b=>rfl
 |x::a,b=>by
  show(n00 x&&d90 (a++b))=((n00 x&&d90 a)&&d90 b);rw[W50,Bool.and_assoc]
theorem W60:∀ {a b:List D},f00 (a++b)=Ð8 (f00 a) (f00 b)
 |[],b=>(Nat.zero_max _).symm
 |x::a,b=>by
  show Ð8 (deep x) (f00 (a++b))=Ð8 (Ð8 (deep x) (f00 a)) (f00 b);rw[W60];exact(Nat.max_assoc _ _ _).symm
theorem k01{a b:List D}(ha:G10 a=true)(hb:G10 b=true):G10 (a++b)=true:=by
 unfold G10 at ha hb ⊢;rw[Á,decide_eq_true_eq] at ha hb ⊢;rw[W50,W60,ha.1,hb.1];exact⟨rfl,ß1.mpr ⟨ha.2,hb.2⟩⟩
theorem M02{l:List D}(h:G10 l=true):okD (.tup l)=true:=by
 unfold G10 at h;unfold okD;rw[Á,decide_eq_true_eq] at h ⊢;exact⟨h.1,by show f00 l + 1<=40;omega⟩
theorem Q71{x:D}(h:n00 x=true)(h2:deep x<=39):G10 [x]=true:=by
 unfold G10;rw[Á,decide_eq_true_eq];refine⟨by show(n00 x&&true)=true;rw[h];rfl,?_⟩
 show Ð8 (deep x) 0<=39;exact ß1.mpr ⟨h2,by omega⟩
theorem O50(k:Nat)(x:D)(z:Z):b40 T (k + 3) y70 [.d x] z=some (.ok (.d (.bl (p30 x))) z):=by
 refine W.ok (g50 (ps:=1) (ns:=1) (b:=p20) rfl rfl (-0) ?_)
 cases x with
 |_=>exact sd rfl
theorem F71(h:p30 x=true):∃ i,x=.int i:=by
 cases x with
 |int i=>exact⟨i,rfl⟩|_=>cases h
theorem F80(c:D->Bool):∀ {l:List D},G10 l=true->G10 (l.filter c)=true:=λ{l} h=>by
 unfold G10 at h ⊢;rw[Á,decide_eq_true_eq] at h ⊢
 induction l with
 |nil=>exact h
 |cons x r ih =>
  have h1:(n00 x&&d90 r)=true:=h.1;have h2:Ð8 (deep x) (f00 r)<=39:=h.2;rw[Á] at h1;rw[ß1] at h2;have ih:=ih ⟨h1.2,h2.2⟩;rw[Ñ7];split
  ·refine⟨?_,?_⟩
   ·show(n00 x&&d90 (r.filter c))=true;rw[h1.1,ih.1];rfl
   ·show Ð8 (deep x) (f00 (r.filter c))<=39;exact ß1.mpr ⟨h2.1,ih.2⟩
  ·exact ih
theorem y92(h:G10 l=true):okD (.lst l)=true:=M02 h
def Q81:D->Bool
 |.tup l=>G10 l&&decide (l.length<=1000)|_=>true
theorem p01(h:Q81 x=true):short x=true:=by
 cases x with
 |tup l =>
  unfold Q81 at h;rw[Á] at h;exact h.2
 |_=>rfl
theorem w90:∀ {l:List D},(∀ x∈l,p30 x=true)->∃ ns:List Int,l=ns.map D.int
 |[],_=>⟨[],rfl⟩
 |x::r,h=>by
  obtain⟨i,rfl⟩:=F71 (h x Ë);obtain⟨ns,rfl⟩:=w90 λy hy=>h y (È _ hy);exact⟨i::ns,rfl⟩
theorem F81:∀ {ns:List Int},(∀ x∈ns,0<=x)->∃ l:List Nat,ns.map D.int=l.map a40
 |[],_=>⟨[],rfl⟩
 |x::r,h=>by
  obtain⟨i,rfl⟩:=Ë2 (h x Ë);obtain⟨l,e⟩:=F81 λy hy=>h y (È _ hy);exact⟨i::l,by rw[Å7,Å7,e];rfl⟩
theorem I40:∀ {l:List Nat},(∀ x∈l,x < 8)->D30 (l.map a40)=some l
 |[],_=>rfl
 |x::r,h=>by
  have hx:=h x Ë;show(if 0<=(x:Int)/\(x:Int) < 8 then(D30 (r.map a40)).map ((x:Int).toNat::·) else none)=_;rw[if_pos ∅,I40 λy hy=>h y (È _ hy),Á9];rfl
def dedup(l:List Nat):List Nat:=(ì 8).filter λi=>l.contains i
theorem Q91(h:∀ x∈l,x < 8)(hu:l.Pairwise (· < ·)):dedup l=l:=by
 have h2:(dedup l).Pairwise (· < ·):=Ë1 _ È7;refine È9 (le:=λa b=>a < b) (λa b _ _ h1 h2=>by omega) h2 hu ?_
 refine(Þ2 (h2.imp λh=>by omega) (hu.imp λh=>by omega)).mpr λx=>?_
 unfold dedup;rw[mem_filter,Ó1];constructor
 ·exact λhx=>by simpa using hx.2
 ·exact λhx=>⟨h x hx,by simpa using hx⟩
theorem W70:∀ {l:List Nat},L61 (l.map a40) (l.map a40)=true
 |[]=>rfl
 |x::r=>by
  show((x:Int) == (x:Int)&&L61 (r.map a40) (r.map a40))=true;rw[beq_self_eq_true,W70];rfl
theorem W11:∀ {l:List Nat},V10 (l.map a40)=true->l.Pairwise (· < ·)
 |[],_=>.nil|[_],_=>.cons (λ_ h=>nomatch h) .nil
 |x::y::r,h=>by
  have h:(decide ((x:Int) < y)&&V10 ((y::r).map a40))=true:=h;rw[Á,decide_eq_true_eq] at h;have ih:=W11 (l:=y::r) h.2;refine .cons (λz hz=>?_) ih;rcases ú.mp hz with rfl | hz
  ·omega
  ·have:=(Ê9.mp ih).1 z hz;omega
theorem R01(k:Nat)(m6:m<=6)(h:Q81 x=true)(z:Z):∃ b,b40 T (k + 4) m20 [.d (.int m),.d x] z=some (.ok (.d (.bl b)) z)/\(b=false->D41 m x=false)/\(b=true->∃ l,x=.tup l):=by
 have no:∀ {x:D},(∀ l,x≠.tup l)->T11 .tuple x=false->∃ b,b40 T (k + 4) m20 [.d (.int m),.d x] z=some (.ok (.d (.bl b)) z)/\(b=false->D41 m x=false)/\(b=true->∃ l,x=.tup l):=λ{x} h1 h2=>by
  refine⟨false,W.ok (g50 (ps:=2) (ns:=2) (b:=d70) rfl rfl (-0) ?_),λ_=>?_,λh=>nomatch h⟩
  ·refine it (b:=!T11 .tuple x) (by rw[h2];rfl) ?_
   exact sd rfl
  ·cases x with
   |tup l=>exact absurd rfl (h1 l)|_=>rfl
 cases x with
 |tup l =>
  unfold Q81 at h;rw[Á,decide_eq_true_eq] at h;by_cases hw:(l.filter λx=>!p30 x)=[]
  ·have hw':∀ x∈l,p30 x=true:=λx hx=>by
    have:=Ç2.mp hw x hx;simpa using this
   obtain⟨ns,rfl⟩:=w90 hw';by_cases hr:((ns.map D.int).filter λx=>!b80 x m)=[]
   ·have hr':∀ x∈ns,0<=x/\x < m:=λx hx=>by
     have:=Ç2.mp hr _ (Ö.mpr ⟨x,hx,rfl⟩);unfold b80 at this;simpa using this
    obtain⟨ps,e⟩:=F81 λx hx=>(hr' x hx).1;have hlt:∀ p∈ps,p < 8:=λp hp=>by
     have:a40 p∈ns.map D.int:=by rw[e];exact Ö.mpr ⟨p,hp,rfl⟩
     obtain⟨i,hi,e2⟩:=Ö.mp this;have h1:=hr' i hi;have e3:i=(p:Int):=by injection e2
     omega
    refine⟨L61 (ps.map a40) ((dedup ps).map a40),W.ok (g50 (ps:=2) (ns:=2) (b:=d70) rfl rfl (-0) ?_),λhb=>?_,λ_=>⟨_,rfl⟩⟩
    ·refine ip (n90 h.2) (h02 (λx=>!p30 x) (λx=>x) (λx hx=>?_) ?_)
     ·exact Wo (O50 k x z) ⟨rfl,rfl,λ_=>⟨rfl,rfl⟩⟩
     ·rw[hw];refine ip (n90 h.2) (h02 (λx=>!b80 x m) (λx=>x) (λx hx=>?_) ?_)
      ·obtain⟨i,hi,rfl⟩:=Ö.mp hx;have h1:=hr' i hi;refine it (b:=decide ((0:Int)<=i)) (decide_eq_true h1.1) ?_;refine⟨?_,rfl,λ_=>⟨rfl,rfl⟩⟩;show S.d (.bl (!decide (i < m)))=S.d (.bl (!(decide (0<=i)&&decide (i < m))));rw[decide_eq_true h1.1];rfl
      ·rw[hr,e];refine(a00 (o:=Option.bind (m51 (.tup (ps.map a40))) λl=>(D30 l).map λns=>S.fr (((ì 8).filter λi=>ns.contains i).map λ(n:Nat)=>.int n)) (a:=.fr ((dedup ps).map a40)) (by show(D30 (ps.map a40)).map _=_;rw[I40 hlt];rfl) ?_ :)
       refine(a00 (o:=eqQ (.lst (ps.map a40)) (.lst ((dedup ps).map a40))) (a:=L61 (ps.map a40) ((dedup ps).map a40)) (by unfold eqQ;rw[N90,N90];rfl) ?_ :)
       exact sd rfl
    ·cases hp:D41 m (.tup (ns.map D.int)) with
     |false=>rfl
     |true =>
      exfalso;rw[e] at hp;unfold D41 at hp;rw[Á,Á] at hp;have up:=W11 hp.1.2;rw[Q91 hlt up,W70] at hb;cases hb
   ·refine⟨false,W.ok (g50 (ps:=2) (ns:=2) (b:=d70) rfl rfl (-0) ?_),λ_=>?_,λh=>nomatch h⟩
    ·refine ip (n90 h.2) (h02 (λx=>!p30 x) (λx=>x) (λx hx=>?_) ?_)
     ·exact Wo (O50 k x z) ⟨rfl,rfl,λ_=>⟨rfl,rfl⟩⟩
     ·rw[hw];refine ip (n90 h.2) (h02 (λx=>!b80 x m) (λx=>x) (λx hx=>?_) ?_)
      ·obtain⟨i,hi,rfl⟩:=Ö.mp hx;refine ib (b:=decide ((0:Int)<=i)) (λh1=>?_) λh1=>?_
       ·refine⟨?_,rfl,λ_=>⟨rfl,rfl⟩⟩;show S.d (.bl (!decide (i < m)))=S.d (.bl (!(decide (0<=i)&&decide (i < m))));rw[h1];rfl
       ·refine⟨?_,rfl,λ_=>⟨rfl,rfl⟩⟩;show S.d (.bl (!false))=S.d (.bl (!(decide (0<=i)&&decide (i < m))));rw[h1];rfl
      ·rw[map_id'];refine(a00 (ne_nil (y92 (F80 _ h.1))) ?_ :);refine it (b:=!((ns.map D.int).filter λx=>!b80 x m).isEmpty) ?_ ?_
       ·cases hh:(ns.map D.int).filter λx=>!b80 x m with
        |nil=>exact absurd hh hr|cons _ _=>rfl
       ·exact sd rfl
    ·show((ns.map D.int).all (λx=>b80 x m)&&V10 (ns.map D.int)&&!(ns.map D.int).isEmpty)=false;have:(ns.map D.int).all (λx=>b80 x m)=false:=by
      cases ha:(ns.map D.int).all (λx=>b80 x m) with
      |false=>rfl|true=>exact absurd (Ç2.mpr λx hx=>by rw[Õ.mp ha x hx];decide) hr
     rw[this];rfl
  ·refine⟨false,W.ok (g50 (ps:=2) (ns:=2) (b:=d70) rfl rfl (-0) ?_),λ_=>?_,λh=>nomatch h⟩
   ·refine ip (n90 h.2) (h02 (λx=>!p30 x) (λx=>x) (λx hx=>?_) ?_)
    ·exact Wo (O50 k x z) ⟨rfl,rfl,λ_=>⟨rfl,rfl⟩⟩
    ·rw[map_id'];refine(a00 (ne_nil (y92 (F80 _ h.1))) ?_ :);refine it (b:=!(l.filter λx=>!p30 x).isEmpty) ?_ ?_
     ·cases hh:l.filter λx=>!p30 x with
      |nil=>exact absurd hh hw|cons _ _=>rfl
     ·exact sd rfl
   ·show(l.all (λx=>b80 x m)&&V10 l&&!l.isEmpty)=false;have:l.all (λx=>b80 x m)=false:=by
     cases ha:l.all (λx=>b80 x m) with
     |false=>rfl
     |true=>exact absurd (Ç2.mpr λx hx=>by
       obtain⟨i,rfl,_⟩:=i70 (Õ.mp ha x hx);exact λh=>nomatch h) hw
    rw[this];rfl
 |_=>exact no (λl h=>nomatch h) rfl
theorem B50(l:List Nat)(lo hi:Option Int):∃ l':List Nat,cutD (l.map a40) lo hi=l'.map a40/\l'.length<=l.length:=by
 unfold cutD;refine⟨(l.drop _).take _,by rw[← List.map_drop,← List.map_take],?_⟩
 rw[Æ7,Í5];omega
theorem d31{a b:List Nat}(ha:a.length<=10)(hb:b.length<=10)(hx:(n00 x&&decide (deep x<=39))=true):Q81 (.tup (a.map a40++[x]++b.map a40))=true:=by
 rw[Á,decide_eq_true_eq] at hx;show(G10 (a.map a40++[x]++b.map a40)&&decide ((a.map a40++[x]++b.map a40).length<=1000))=true;rw[k01 (k01 (v90 a) (Q71 hx.1 hx.2)) (v90 b)];refine decide_eq_true ?_;rw[Â0,P21,É,É];omega
theorem O60{a:List Nat}(ha:a.length<=100):Q81 (.tup (a.map a40))=true:=by
 show(G10 (a.map a40)&&decide ((a.map a40).length<=1000))=true;rw[v90 a];exact decide_eq_true (by rw[É];omega)
theorem F91(l:List Nat):(n00 (.tup (l.map a40))&&decide (deep (.tup (l.map a40))<=39))=true:=by
 have e:l.map a40=(l.map λ(n:Nat)=>(n:Int)).map D.int:=by rw[î];rfl
 obtain⟨h1,h2⟩:=N20 (l.map λ(n:Nat)=>(n:Int));show(d90 (l.map a40)&&decide (f00 (l.map a40) + 1<=39))=true;rw[e,h1,h2];rfl
theorem O70(k:Nat){m:Int}(m1:1<=m)(m6:m<=6){pl:List Nat}(hl:pl.length<=6)(hz:ZI z):W (b40 T (k + 4) j70 [.z,.d (.int m),.d (.tup (pl.map a40))]) z (λs z1=>ZI z1/\∃ x,s=.d x/\Q81 x=true) NE:=by
 have hll:(pl.map a40).length=pl.length:=É _;refine h42 hz (ps:=3) (ns:=6) (b:=e70) rfl rfl (-0) ?_
 refine(d50 k (((pl.map a40).length:Int) + 1) hz ∅ ∅).imp λs z1 ⟨hz1,a,e,a1⟩=>?_
 subst e;refine(d50 k (m + 1) hz1 ∅ ∅).imp λs z2 ⟨hz2,w,e,w1⟩=>?_
 subst e;refine(d50 k 10 hz2 (-0) (-0)).imp λs z3 ⟨hz3,v,e,v1⟩=>?_
 subst e;refine(D21 (n:=v) (λx=>n00 x&&decide (deep x<=39)) ?_ ?_ ?_ :)
 ·show v < 10;omega
 ·have hs:(n00 (.str "0")&&decide (deep (.str "0")<=39))=true:=by decide +kernel
  show List.all [D.int w,.int m,.int (-1),.bl true,.non,.str "0",.tup [.int 0],.bl false,.int ((10:Int) ^ (29:Int).toNat),.int 0] (λx=>n00 x&&decide (deep x<=39))=true;refine Õ.mpr λy hy=>?_;simp only[Â7,À0,or_false] at hy;rcases hy with rfl | rfl | rfl | rfl | rfl | rfl | rfl | rfl | rfl | rfl
  ·rfl
  ·rfl
  ·rfl
  ·rfl
  ·rfl
  ·exact hs
  ·rfl
  ·rfl
  ·rfl
  ·rfl
 ·intro x hx;obtain⟨l1,e1,c1⟩:=B50 pl none (some (a:Int));obtain⟨l2,e2,c2⟩:=B50 pl (some (a:Int)) none;obtain⟨l3,e3,c3⟩:=B50 pl (some ((a:Int) + 1)) none;obtain⟨l4,e4,c4⟩:=B50 pl (some (-1)) none;have t1:A50 .add (.tup (cutD (pl.map a40) none (some (a:Int)))) (.tup [x])=some (.d (.tup (l1.map a40++[x]))):=by rw[e1];exact o41 (by rw[É];show _ + 1<=_;omega)
  refine(a00 t1 ?_ :);refine(a00 (show A50 .add (.tup (l1.map a40++[x])) (.tup (cutD (pl.map a40) (some (a:Int)) none))=some (.d (.tup (l1.map a40++[x]++l2.map a40))) from by rw[e2];exact o41 (by rw[P21,É,É];omega)) ?_ :)
  refine(a00 t1 ?_ :);refine(a00 (show A50 .add (.tup (l1.map a40++[x])) (.tup (cutD (pl.map a40) (some ((a:Int) + 1)) none))=some (.d (.tup (l1.map a40++[x]++l3.map a40))) from by rw[e3];exact o41 (by rw[P21,É,É];omega)) ?_ :)
  refine(a00 (show A50 .add (.tup (cutD (pl.map a40) none (some (a:Int)))) (.tup (cutD (pl.map a40) (some ((a:Int) + 1)) none))=some (.d (.tup (l1.map a40++l3.map a40))) from by rw[e1,e3];exact o41 (by rw[É,É];omega)) ?_ :)
  refine(a00 (show A50 .add (.tup (pl.map a40)) (.tup (cutD (pl.map a40) (some (-1)) none))=some (.d (.tup (pl.map a40++l4.map a40))) from by rw[e4];exact o41 (by rw[É,É];omega)) ?_ :)
  refine(d50 k 11 hz3 (-0) (-0)).imp λs z4 ⟨hz4,u,e,u1⟩=>?_
  subst e;refine(D21 (L:=[.tup (l1.map a40++[x]++l2.map a40),.tup (l1.map a40++[x]++l3.map a40),.tup (l1.map a40++l3.map a40),.lst (pl.map a40),.tup (pl.map a40).reverse,.tup (pl.map a40++l4.map a40),.non,.dct,.int 0,.tup [.tup (pl.map a40)],.tup []]) (n:=u) Q81 ?_ ?_ ?_ :)
  ·show u < 11;omega
  ·rw[← Æ3,← Æ3,← List.map_reverse];simp only[Ä5,all_nil,Ö8,Á];refine⟨d31 ∅ ∅ hx,d31 ∅ ∅ hx,O60 (by rw[Â0];omega),rfl,O60 (by rw[Ì3];omega),O60 (by rw[Â0];omega),rfl,rfl,rfl,d31 (a:=[]) (b:=[]) (-0) (-0) (F91 pl),rfl⟩
  ·exact λy hy=>⟨hz4,y,rfl,hy⟩
theorem W80(k:Nat)(hz:ZI z):W (b40 T (k + 4) j80 [.z,.d (.tup [])]) z (λs z1=>ZI z1/\∃ x,s=.d x/\chD x=false) NE:=by
 refine h42 hz (ps:=2) (ns:=5) (b:=e80) rfl rfl (-0) ?_
 refine(d50 k 1 hz (-0) (-0)).imp λs z1 ⟨hz1,a,e,a1⟩=>?_
 subst e;have a0:a=0:=by omega
 subst a0;refine(d50 k 13 hz1 (-0) (-0)).imp λs z2 ⟨hz2,v,e,v1⟩=>?_
 subst e;refine(D21 (n:=v) (λ_=>true) ?_ ?_ ?_ :)
 ·show v < 13;omega
 ·rfl
 ·intro x hx;refine(d50 k 5 hz2 (-0) (-0)).imp λs z3 ⟨hz3,u,e,u1⟩=>?_
  subst e;refine(D21 (L:=[.tup [x],.tup [.tup [.int 1,.int 2]],.lst [],.non,.dct]) (n:=u) (λx=>!chD x) ?_ ?_ ?_ :)
  ·show u < 5;omega
  ·rfl
  ·exact λy hy=>⟨hz3,y,rfl,by simpa using hy⟩
def t40(i j:Nat):Int:=if j=i then 1 else 0
def x90:Nat->(Nat->Int)->Nat->Int
 |0,f=>f|s + 1,f=>lag (x90 s f)
theorem j12{F:Nat->Nat->Int}{n:Nat}(j:Nat):lag (λj=>p60 (λi=>F i j) n) j=p60 (λi=>lag (F i) j) n:=by
 unfold lag;by_cases h:j=0
 ·rw[if_pos h,sub_zero];exact h90 λi _=>by rw[if_pos h,sub_zero]
 ·rw[if_neg h,Int.sub_eq_add_neg,show -p60 (λi=>F i (j - 1)) n=p60 (λi=>-1 * F i (j - 1)) n from by rw[i81];omega,← O20]
  exact h90 λi _=>by rw[if_neg h];omega
theorem k21(c:Nat->Int):∀ n j,w20 c n j=p60 (λi=>c i * x90 (n - 1 - i) (t40 i) j) n
 |0,_=>rfl
 |n + 1,j=>by
  show lag (w20 c n) j + (if j=n then c n else 0)=p60 (λi=>c i * x90 (n - i) (t40 i) j) n + c n * x90 (n - n) (t40 n) j;rw[sub_self,show w20 c n=λj=>p60 (λi=>c i * x90 (n - 1 - i) (t40 i) j) n from funext (k21 c n),j12]
  congr 1
  ·refine h90 λi hi=>?_;rw[show n - i=(n - 1 - i) + 1 by omega]
   show c i * _ - (if j=0 then 0 else c i * _)=c i * (_ - if j=0 then 0 else _);by_cases h:j=0
   ·rw[if_pos h,if_pos h,sub_zero,sub_zero]
   ·rw[if_neg h,if_neg h,Int.mul_sub]
  ·show _=c n * (if j=n then 1 else 0);by_cases h:j=n
   ·rw[if_pos h,if_pos h,mul_one]
   ·rw[if_neg h,if_neg h,Ô1]
theorem R11{K:Nat}{ls:List (List Nat)}(hl:∀ l∈ls,l.length < K + 1)(j:Nat):w20 (cnt ls) (K + 1) j=y12 ls λl=>x90 (K - l.length) (t40 l.length) j:=by
 rw[k21];exact E11 (λi=>x90 (K - i) (t40 i) j) hl
theorem W21{a b:Nat}{f g:Nat->Int}:fl a f++fl b g=fl (a + b) λj=>if j < a then f j else g (j - a):=by
 unfold fl;rw[List.range_add,Æ3,î]
 congr 1
 ·exact Ã5 λi hi=>by
   show D.int (f i)=.int (if i < a then f i else g (i - a));rw[if_pos (Â5.mp hi)]
 ·exact Ã5 λi hi=>by
   show D.int (g i)=.int (if a + i < a then f (a + i) else g (a + i - a));rw[if_neg ∅,show a + i - a=i by omega]
theorem j22{K l:Nat}(h:l<=K):fl l (λ_=>0)++[.int 1]++fl (K - l) (λ_=>0)=fl (K + 1) (t40 l):=by
 rw[show [D.int 1]=fl 1 (λ_=>1) from rfl,W21,W21,show l + 1 + (K - l)=K + 1 by omega]
 refine j11 λi hi=>?_;unfold t40;by_cases h1:i < l
 ·rw[if_pos ∅,if_pos h1,if_neg ∅]
 ·by_cases h2:i=l
  ·rw[if_pos ∅,if_neg h1,if_pos h2]
  ·rw[if_neg ∅,if_neg h2]
theorem W31{n:Nat}{o:D->D}{f:Nat->Int}(h:∀ i < n,o (a40 i)=.int (f i)):(List.map a40 (Á5 0 n)).map o=fl n f:=by
 unfold fl;rw[← Ç7,î];exact Ã5 λi hi=>h i (Â5.mp hi)
theorem j32{n i:Nat}{f:Nat->Int}(h:i < n):Z20 (.lst (.int 0::fl n f)) (a40 i)=some (.int (if i=0 then 0 else f (i - 1))):=by
 refine b71 ?_;cases i with
 |zero=>rfl|succ i=>rw[List.getElem?_cons_succ,i52 ∅];rfl
theorem G01{n:Nat}{f:Nat->Int}(h:n < 100000):itD .rng1 [.int ((fl n f).length:Nat)]=some ((Á5 0 n).map a40):=by rw[l40];exact O00 h
section
variable {m:Int}{ps:List (Int × Int)}{pl:List Nat}{c:Int × Int}
abbrev lpE(m:Int)(ps:List (Int × Int))(pl:List Nat)(o2 o3 o4 o5:Option S):Env:=[some (.d (B20 m ps)),some (.d (.tup (pl.map a40))),o2,o3,o4,o5]
theorem j42(k:Nat)(g:e90 m ps){l:List Nat}(hl:l.length<=ps.length){f:Nat->Int}{z:Z}{tp:Bool}{o4 o5:Option S}{Q:O->Z->Prop}{E:Nat->Z->Prop}
  (q:∀ o4 o5:Option S,Q (.nx (lpE m ps pl (some (.fr (fl (ps.length + 1) λj=>f j + x90 (ps.length - l.length) (t40 l.length) j))) (some (.d (n20 l))) o4 o5)) z) :
  WS (H00 T k) tp (match h50 with | .seq _ (.seq (.fr _ _ _ (.seq (.iff _ t _) _)) _)=>t | _=>.nil) (lpE m ps pl (some (.fr (fl (ps.length + 1) f))) (some (.d (n20 l))) o4 o5) z Q E:=by
 have h8:=g.len;refine(M60 (.fr (fl (ps.length + 1) (t40 l.length))) (lpE m ps pl (some (.fr (fl (ps.length + 1) f))) (some (.d (n20 l))) (some (.fr (fl (ps.length + 1) (t40 l.length)))) o5) ?_ ?_ ?_ :)
 ·refine(a00 (V70 (i:=((l.map a40).length:Int)) (n:=l.length) (by rw[É]) ∅) ?_ :)
  refine(a00 (add_l (a:=fl l.length λ_=>0) (b:=[.int 1]) (by rw[l40];show _ + 1<=1000;omega)) ?_ :)
  refine(a00 (V70 (i:=((ps.map pr).length:Int) - ((l.map a40).length:Int)) (n:=ps.length - l.length) (by rw[É,É];omega) ∅) ?_ :)
  refine(a00 (add_l (a:=fl l.length (λ_=>0)++[.int 1]) (b:=fl (ps.length - l.length) λ_=>0) (by rw[P21,l40,l40];omega)) ?_ :)
  rw[j22 hl];exact⟨rfl,rfl⟩
 ·rw[E50 (show z90 (.fr (fl (ps.length + 1) (t40 l.length)))=true from g40 _ _)];rfl
 refine(a00 (o:=itD .rng1 [.int (((ps.map pr).length:Int) - ((l.map a40).length:Int))]) (a:=(Á5 0 (ps.length - l.length)).map a40) (by rw[show((ps.map pr).length:Int) - ((l.map a40).length:Int)=((ps.length - l.length:Nat):Int) by rw[É,É];omega];exact O00 ∅) ?_ :)
 refine r20 (λxs ρ z1=>z1=z/\∃ (j r:Nat) (o5:Option S),j + r=ps.length - l.length/\xs=(Á5 j r).map a40/\ρ=lpE m ps pl (some (.fr (fl (ps.length + 1) f))) (some (.d (n20 l))) (some (.fr (fl (ps.length + 1) (x90 j (t40 l.length))))) o5) _ ⟨rfl,0,ps.length - l.length,_,É4 _,rfl,rfl⟩ ?_ ?_
 ·rintro x r ρ z1 ⟨rfl,j,r',o5,hj,e,rfl⟩;cases r' with
  |zero=>cases e
  |succ r' =>
   rw[û] at e;cases e;refine(M60 (.fr (fl (ps.length + 1) (x90 (j + 1) (t40 l.length)))) (lpE m ps pl (some (.fr (fl (ps.length + 1) f))) (some (.d (n20 l))) (some (.fr (fl (ps.length + 1) (x90 (j + 1) (t40 l.length))))) (some (.d (a40 j)))) ?_ ?_ ?_ :)
   ·refine(a00 (G01 (n:=ps.length + 1) (f:=x90 j (t40 l.length)) ∅) ?_ :)
    refine ip (by rw[É,List.length_range'];exact n90 ∅) (p41 (λx=>.int (x90 (j + 1) (t40 l.length) (F61 x))) (λx hx=>?_) ?_)
    ·obtain⟨i,hi,rfl⟩:=Ö.mp hx;rw[← Ç7,Ó1] at hi;refine(a00 (j01 (n:=ps.length + 1) (f:=x90 j (t40 l.length)) hi) ?_ :);refine(a00 (add_l (a:=[.int 0]) (b:=fl (ps.length + 1) (x90 j (t40 l.length))) (by rw[l40];show 1 + _<=1000;omega)) ?_ :)
     refine(a00 (j32 (n:=ps.length + 1) (f:=x90 j (t40 l.length)) hi) ?_ :);exact⟨rfl,rfl⟩
    ·rw[W31 (f:=x90 (j + 1) (t40 l.length)) λi _=>rfl];exact⟨rfl,rfl⟩
   ·rw[E50 (show z90 (.fr (fl (ps.length + 1) (x90 (j + 1) (t40 l.length))))=true from g40 _ _)];rfl
   ·exact⟨rfl,j + 1,r',_,by omega,rfl,rfl⟩
 ·rintro ρ z1 ⟨rfl,j,r',o5,hj,e,rfl⟩;cases r' with
  |succ r'=>rw[û] at e;cases e
  |zero =>
   have hj:j=ps.length - l.length:=hj;subst hj;refine(M60 (.fr (fl (ps.length + 1) λj=>f j + x90 (ps.length - l.length) (t40 l.length) j)) (lpE m ps pl (some (.fr (fl (ps.length + 1) λj=>f j + x90 (ps.length - l.length) (t40 l.length) j))) (some (.d (n20 l))) (some (.fr (fl (ps.length + 1) (x90 (ps.length - l.length) (t40 l.length))))) o5) ?_ ?_ ?_ :)
   ·refine(a00 (G01 (n:=ps.length + 1) (f:=f) ∅) ?_ :)
    refine ip (by rw[É,List.length_range'];exact n90 ∅) (p41 (λx=>.int (f (F61 x) + x90 (ps.length - l.length) (t40 l.length) (F61 x))) (λx hx=>?_) ?_)
    ·obtain⟨i,hi,rfl⟩:=Ö.mp hx;rw[← Ç7,Ó1] at hi;refine(a00 (j01 (n:=ps.length + 1) (f:=f) hi) ?_ :);refine(a00 (j01 (n:=ps.length + 1) (f:=x90 (ps.length - l.length) (t40 l.length)) hi) ?_ :);exact⟨rfl,rfl⟩
    ·rw[W31 (f:=λj=>f j + x90 (ps.length - l.length) (t40 l.length) j) λi _=>rfl];exact⟨rfl,rfl⟩
   ·rw[E50 (show z90 (.fr (fl (ps.length + 1) λj=>f j + x90 (ps.length - l.length) (t40 l.length) j))=true from g40 _ _)];rfl
   ·exact q _ _
theorem O80(k:Nat)(g:e90 m ps)(hp:l30 m pl)(z:Z):b40 T (k + 5) v50 [.d (B20 m ps),.d (.tup (pl.map a40))] z=some (.ok (.fr (fl (ps.length + 1) (z30 m ps pl))) z):=by
 have h8:=g.len;refine W.ok (g50 (ps:=2) (ns:=6) (b:=h50) rfl rfl (-0) ?_)
 refine(a00 (V70 (i:=((ps.map pr).length:Int) + 1) (n:=ps.length + 1) (by rw[É];rfl) ∅) ?_ :)
 refine Wo (W40 (k + 1) (m:=m) (ts:=ps.map pr) (by rw[É];exact h8) z) ?_
 rw[É];refine r20 (λxs ρ z2=>z2=z/\∃ (rest:List (List Nat)) (f:Nat->Int) (o3 o4 o5:Option S),xs=rest.map n20/\(∀ l∈rest,l∈t20 ps.length)/\(∀ j,f j + y12 (rest.filter (F50 ps m.toNat pl)) (λl=>x90 (ps.length - l.length) (t40 l.length) j)=z30 m ps pl j)/\ρ=lpE m ps pl (some (.fr (fl (ps.length + 1) f))) o3 o4 o5) _ ⟨rfl,t20 ps.length,λ_=>0,_,_,_,rfl,λ_ h=>h,λj=>?_,(itE (l:=[.fr ((t20 ps.length).map n20)]) (by show(n80 ((t20 ps.length).map n20)&&true)=true;rw[x70];rfl)).trans rfl⟩ ?_ ?_
 ·rw[Ô0];exact(R11 (λl h=>Ú5 (q90 (j31 g h))) j).symm
 ·rintro x r ρ z2 ⟨rfl,rest,f,o3,o4,o5,e,hr,hf,rfl⟩;cases rest with
  |nil=>cases e
  |cons l rest =>
   cases e;have hl:=hr l Ë;refine Wo (W30 k g hp (D91 h8 hl) z2) ?_;refine ib (b:=F50 ps m.toNat pl l) (λhg=>?_) λhg=>?_
   ·refine(j42 (k + 4) g (l:=l) (f:=f) (q90 ((w00 h8).mem_iff.mp hl)) λo4 o5=>?_ :);refine⟨rfl,rest,_,_,_,_,rfl,λl' h'=>hr l' (È _ h'),λj=>?_,rfl⟩;have:=hf j;rw[Ñ7,if_pos hg] at this;rw[← this];show _=f j + (x90 (ps.length - l.length) (t40 l.length) j + y12 _ _);omega
   ·refine⟨rfl,rest,f,_,_,_,rfl,λl' h'=>hr l' (È _ h'),λj=>?_,rfl⟩;have:=hf j;rw[Ñ7,if_neg (by rw[hg];decide)] at this
    exact this
 ·rintro ρ z2 ⟨rfl,rest,f,o3,o4,o5,e,hr,hf,rfl⟩;cases rest with
  |cons l rest=>cases e
  |nil =>
   refine sd ?_;rw[show f=z30 m ps pl from funext λj=>by rw[← hf j];exact(add_zero _).symm]
def prt(c:Int × Int)(v:Int)(a:Nat):Nat->Int
 |0=>v|j + 1=>prt c v a j * (if j < a then c.1 else c.2)
theorem z02{c:Int × Int}{v:Int}{a:Nat}:∀ j,prt c v a j=v * (c.1 ^ (min j a) * c.2 ^ (j - min j a))
 |0=>by show v=_;rw[Nat.zero_min,Ó0,Nat.sub_zero,Ó0,mul_one,mul_one]
 |j + 1=>by
  show prt c v a j * _=_;rw[z02 j];by_cases h:j < a
  ·rw[if_pos h,Ñ2 ∅,Ñ2 ∅,sub_self,sub_self,Ó0,Ç6]
   generalize c.1 ^ j=X
   grind
  ·rw[if_neg h,Ì1 ∅,Ì1 ∅,show j + 1 - a=(j - a) + 1 by omega,Ç6]
   generalize c.1 ^ a=X;generalize c.2 ^ (j - a)=Y
   grind
theorem W41{c:Int × Int}(hc:IsC c){v:Int}(hv:v.natAbs<=2 ^ 17){a:Nat}:∀ j,(prt c v a j).natAbs<=2 ^ (17 + 10 * j)
 |0=>hv
 |j + 1=>by
  have h:(if j < a then c.1 else c.2).natAbs<=2 ^ 10:=by
   split
   ·exact hc.s.t
   ·exact hc.s.b
  have:=p50 (W41 hc hv (a:=a) j) h;rw[show 17 + 10 * (j + 1)=17 + 10 * j + 10 by omega]
  exact this
abbrev laE(n:Nat)(f:Nat->Int)(c:Int × Int)(v4:Int)(o5 o6 o7 o8:Option S):Env:=[some (.d (.lst (fl n f))),some (.d (pr c)),some (.d (.int c.1)),some (.d (.int c.2)),some (.d (.int v4)),o5,o6,o7,o8]
theorem W51{n:Nat}{f:Nat->Int}(h:n < 1000):itD .rng1 [.int (((fl (n + 1) f).length:Nat) - 1)]=some ((Á5 0 n).map a40):=by
 rw[l40,show(((n + 1:Nat):Int) - 1)=(n:Nat) by omega];exact O00 ∅
theorem G11(k:Nat){K:Nat}(hK:K<=8){f:Nat->Int}(hf:∀ j,(f j).natAbs<=2 ^ 17)(hc:IsC c)(z:Z):b40 T (k + 4) U10 [.d (.lst (fl (K + 1) f)),.d (pr c)] z=some (.ok (.d (pr (n40 (evN c.1 c.2 K f (K + 1)) (c.2 ^ K)))) z):=by
 refine W.ok (g50 (ps:=2) (ns:=9) (b:=F20) rfl rfl (-0) ?_)
 refine(a00 (G01 (n:=K + 1) (f:=f) ∅) ?_ :)
 refine r20 (λxs ρ z1=>z1=z/\∃ (j r:Nat) (o5 o6 o7:Option S),j + r=K + 1/\xs=(Á5 j r).map a40/\ρ=laE (K + 1) f c (evN c.1 c.2 K f j) o5 o6 o7 none) _ ⟨rfl,0,K + 1,none,none,none,É4 _,rfl,rfl⟩ ?_ ?_
 ·rintro x r ρ z1 ⟨rfl,a,r',o5,o6,o7,ha,e,rfl⟩;cases r' with
  |zero=>cases e
  |succ r' =>
   rw[û] at e;cases e;refine(a00 (j01 (n:=K + 1) (f:=f) (i:=a) ∅) ?_ :)
   refine(a00 (W51 (n:=K) (f:=f) ∅) ?_ :)
   refine r20 (λxs ρ z2=>z2=z1/\∃ (j r:Nat) (o7:Option S),j + r=K/\xs=(Á5 j r).map a40/\ρ=laE (K + 1) f c (evN c.1 c.2 K f a) (some (.d (a40 a))) (some (.d (.int (prt c (f a) a j)))) o7 none) _ ⟨rfl,0,K,_,É4 _,rfl,rfl⟩ ?_ ?_
   ·rintro x r ρ z2 ⟨rfl,j,r2,o7,hj,e,rfl⟩;cases r2 with
    |zero=>cases e
    |succ r2 =>
     rw[û] at e;cases e;have pb:=Ò (W41 hc (hf a) (a:=a) j) (À4 (-0) (show 17 + 10 * j<=110 by omega))
     refine ib (b:=decide ((j:Int) < a)) (λh=>?_) λh=>?_
     ·refine(a00 (V60 (n:=110) (i:=prt c (f a) a j) (j:=c.1) (-0) pb (Ò hc.s.t (-0))) ?_ :)
      refine⟨rfl,j + 1,r2,some (.d (a40 j)),by omega,rfl,?_⟩
      have h:=of_decide_eq_true h;rw[show prt c (f a) a (j + 1)=prt c (f a) a j * c.1 from by show _ * (if j < a then c.1 else c.2)=_;rw[if_pos ∅]];rfl
     ·refine(a00 (V60 (n:=110) (i:=prt c (f a) a j) (j:=c.2) (-0) pb (Ò hc.s.b (-0))) ?_ :)
      refine⟨rfl,j + 1,r2,some (.d (a40 j)),by omega,rfl,?_⟩
      have h:=of_decide_eq_false h;rw[show prt c (f a) a (j + 1)=prt c (f a) a j * c.2 from by show _ * (if j < a then c.1 else c.2)=_;rw[if_neg ∅]];rfl
   ·rintro ρ z2 ⟨rfl,j,r2,o7,hj,e,rfl⟩;cases r2 with
    |succ r2=>rw[û] at e;cases e
    |zero =>
     have hj:j=K:=hj;subst hj;refine⟨rfl,a + 1,r',some (.d (a40 a)),some (.d (.int (prt c (f a) a j))),L30 true o7,by omega,rfl,?_⟩
     rw[show evN c.1 c.2 j f (a + 1)=evN c.1 c.2 j f a + prt c (f a) a j from by rw[z02,Ì1 ∅];rfl];rfl
 ·rintro ρ z1 ⟨rfl,a,r',o5,o6,o7,ha,e,rfl⟩;cases r' with
  |succ r'=>rw[û] at e;cases e
  |zero =>
   have ha:a=K + 1:=ha;subst ha;refine(a00 (W51 (n:=K) (f:=f) ∅) ?_ :)
   refine r20 (λxs ρ z2=>z2=z1/\∃ (j r:Nat) (o5 o6 o7:Option S),j + r=K/\xs=(Á5 j r).map a40/\ρ=laE (K + 1) f c (evN c.1 c.2 K f (K + 1)) o5 o6 o7 (some (.d (.int (c.2 ^ j))))) _ ⟨rfl,0,K,_,_,_,É4 _,rfl,by rw[Ó0];rfl⟩ ?_ ?_
   ·rintro x r ρ z2 ⟨rfl,j,r2,o5,o6,o7,hj,e,rfl⟩;cases r2 with
    |zero=>cases e
    |succ r2 =>
     rw[û] at e;cases e;refine(a00 (V60 (n:=90) (-0) (Ò (t30 hc j).1 (À4 (-0) ∅)) (Ò hc.s.b (-0))) ?_ :)
     exact⟨rfl,j + 1,r2,_,_,_,by omega,rfl,by rw[Ç6];rfl⟩
   ·rintro ρ z2 ⟨rfl,j,r2,o5,o6,o7,hj,e,rfl⟩;cases r2 with
    |succ r2=>rw[û] at e;cases e
    |zero =>
     have hj:j=K:=hj;subst hj;have hb:=t30 hc j;exact Wo (v80 k _ _ z2 hb.2 (c41 (n:=90) (-0) (Ò hb.1 (À4 (-0) ∅)))) (sd rfl)
theorem X62:IsC (1,2):=⟨by decide,by decide,by decide,by decide,by decide⟩
abbrev lE(ns:List Int)(j:Nat)(m:Int)(ps:List (Int × Int))(pl:List Nat)(o5 o6 o7 o8 o9 o10 o11:Option S):Env:=[some (.d (.lst (ns.map D.int))),some (.d (.int j)),some .z,some (.d (B20 m ps)),some (.d (.tup (pl.map a40))),o5,o6,o7,o8,o9,o10,o11]
abbrev bIn(n:Nat):Sm:=match O91 with
 |.seq (.fr _ _ _ b) _=>Nat.rec b (λ_ r=>tl r) n|_=>.nil
theorem R21(k:Nat){ns:List Int}{j:Nat}{z:Z}(g:e90 m ps)(hp:l30 m pl){o6 o7 o8 o9 o10 o11:Option S}{Q:O->Z->Prop}{E:Nat->Z->Prop}
  (q:∀ (o6 o7 o8 o9 o10 o11:Option S),WS (H00 T (k + 37 + 2)) true (bIn 5) (lE ns j m ps pl (some (.fr (fl (ps.length + 1) (z30 m ps pl)))) o6 o7 o8 o9 o10 o11) z Q E) :
  WS (H00 T (k + 37 + 2)) true (bIn 4) (lE ns j m ps pl (some (.fr (fl (ps.length + 1) (z30 m ps pl)))) o6 o7 o8 o9 o10 o11) z Q E:=by
 have h8:=g.len;refine r20 (λxs ρ z2=>z2=z/\∃ (o6 o7 o8 o9 o10 o11:Option S),ρ=lE ns j m ps pl (some (.fr (fl (ps.length + 1) (z30 m ps pl)))) o6 o7 o8 o9 o10 o11) _ ⟨rfl,_,_,_,_,_,_,rfl⟩ ?_ ?_
 ·rintro x r ρ z2 ⟨rfl,o6,o7,o8,o9,o10,o11,rfl⟩;refine(M60 (.fr (fl (ps.length + 1) (z30 m ps pl))) (lE ns j m ps pl (some (.fr (fl (ps.length + 1) (z30 m ps pl)))) (some (.d x)) (some (.fr (fl (ps.length + 1) (z30 m ps pl)))) o8 o9 o10 o11) ?_ ?_ ?_ :)
  ·exact Wo (V80 (k + 28) g hp z2) ⟨rfl,rfl⟩
  ·rw[E50 (show z90 (.fr (fl (ps.length + 1) (z30 m ps pl)))=true from g40 _ _)];rfl
  ·refine Wo (j02 (k + 35) (ps.length + 1) ∅ (z30 m ps pl) z2) ?_
   refine ip ⟨rfl,by rw[l40];exact Ç5 (show _<=9 by omega) (-0)⟩ ?_
   exact⟨rfl,_,_,_,_,_,_,rfl⟩
 ·rintro ρ z2 ⟨rfl,o6,o7,o8,o9,o10,o11,rfl⟩;exact q _ _ _ _ _ _
theorem R31(k:Nat){ns:List Int}{j:Nat}{z:Z}(g:e90 m ps)(hp:l30 m pl)(hz:ZI z){o6 o7 o8 o9 o10 o11:Option S}{Q:O->Z->Prop}{E:Nat->Z->Prop}
  (q:∀ (z:Z) (o5 o6 o7 o8 o9 o10 o11:Option S),ZI z->WS (H00 T (k + 37 + 2)) true (bIn 6) (lE ns j m ps pl o5 o6 o7 o8 o9 o10 o11) z Q E) :
  WS (H00 T (k + 37 + 2)) true (bIn 5) (lE ns j m ps pl (some (.fr (fl (ps.length + 1) (z30 m ps pl)))) o6 o7 o8 o9 o10 o11) z Q E:=by
 have h8:=g.len;refine(V00 (k + 35) hz).imp λs z1 ⟨hz1,c,e,hc⟩=>?_;subst e;refine r20 (λxs ρ z2=>z2=z1/\(∀ x∈xs,∃ d,x=pr d/\IsC d)/\∃ (o6 o7 o8 o9 o10 o11:Option S),ρ=lE ns j m ps pl (some (.fr (fl (ps.length + 1) (z30 m ps pl)))) o6 o7 o8 o9 o10 o11) _ ⟨rfl,λx hx=>?_,_,_,_,_,_,_,(itE (by rfl)).trans rfl⟩ ?_ ?_
 ·have hx:x∈[pr c,pr (0,1),pr (1,1),pr (1,2)]:=hx;simp only[Â7,À0,or_false] at hx;rcases hx with rfl | rfl | rfl | rfl
  ·exact⟨c,rfl,hc⟩
  ·exact⟨_,rfl,X52⟩
  ·exact⟨_,rfl,X42⟩
  ·exact⟨_,rfl,X62⟩
 ·rintro x r ρ z2 ⟨rfl,hx,o6,o7,o8,o9,o10,o11,rfl⟩;obtain⟨d,rfl,hd⟩:=hx x Ë;refine Wo (c71 (k + 27) g hp hd z2) (Wo (G11 (k + 35) h8 (E71 g) hd z2) (Wo (E91 1 (k + 35) (pr (O92 m ps pl d)) z2 i92) ?_));exact⟨rfl,λx hx'=>hx x (È _ hx'),_,_,_,_,_,_,rfl⟩
 ·rintro ρ z2 ⟨rfl,_,o6,o7,o8,o9,o10,o11,rfl⟩;exact q _ _ _ _ _ _ _ _ hz1
theorem R41(k:Nat){ns:List Int}{j:Nat}{z:Z}(g:e90 m ps)(hp:l30 m pl){bw bc x:D}(hw:n51 bw=false)(hc:chD bc=false)(hx:Q81 x=true){o5 o6 o7 o8:Option S}{Q:O->Z->Prop}{E:Nat->Z->Prop}
  (q:∀ (z:Z) (o5 o6 o7 o8 o9 o10 o11:Option S),Q (.nx (lE ns j m ps pl o5 o6 o7 o8 o9 o10 o11)) z) :
  WS (H00 T (k + 37 + 2)) true (bIn 8) (lE ns j m ps pl o5 o6 o7 o8 (some (.d bw)) (some (.d x)) (some (.d bc))) z Q E:=by
 have hs:=p01 hx;refine We (Q31 (k + 26) hw z) ?_;refine We (o91 (k + 25) hw z) ?_;refine We (o71 (k + 25) g hp hc z) ?_;obtain⟨b,hb,b0,b1⟩:=R01 (k + 35) g.m6 hx z;refine Wo hb ?_;have bad:D41 m x=false->WS (H00 T (k + 37 + 2)) true (match bIn 11 with | .seq (.iff _ t _) _=>t | _=>.nil) (lE ns j m ps pl o5 o6 o7 o8 (some (.d bw)) (some (.d x)) (some (.d bc))) z Q E:=λhpl=>by
  refine We (Q21 (k + 26) g hpl hs z) ?_;refine We (o81 (k + 25) g hpl hs z) ?_;exact q _ _ _ _ _ _ _ _
 cases b with
 |false=>exact bad (b0 rfl)
 |true =>
  obtain⟨l,rfl⟩:=b1 rfl;have eq:D20 .eq (.tup l) (.tup [])=some l.isEmpty:=by
   show eqQ (.tup l) (.tup [])=_;unfold eqQ;split
   ·cases l <;> rfl
   ·rfl
  refine(a00 eq ?_ :);refine ib (b:=l.isEmpty) (λh=>?_) λh=>?_
  ·exact bad (by cases l with | nil=>rfl | cons _ _=>cases h)
  ·exact q _ _ _ _ _ _ _ _
end
abbrev A62(L:Int):Int:=if (if (4:Int) < L then 4 else L) > 1 then(if (4:Int) < L then 4 else L) else 1
theorem z12(k:Nat)(ns:List Int):b40 T (k + 40) x42 [.d (.lst (ns.map D.int))] none=some (.ok (.d (.bl true)) none):=by
 refine W.ok (g50 (k:=k + 37) (ps:=1) (ns:=12) (b:=O91) rfl rfl (-0) ?_)
 have hN:0<=A62 ((ns.map D.int).length:Int)/\A62 ((ns.map D.int).length:Int) < 100000:=by
  unfold A62;split <;> (try split) <;> omega
 refine(a00 (U50 (m:=A62 ((ns.map D.int).length:Int)) hN.1 hN.2) ?_ :);refine r20 (λxs ρ z=>(∀ x∈xs,∃ j:Nat,x=.int j)/\∃ o1 o2 o3 o4 o5 o6 o7 o8 o9 o10 o11:Option S,ρ=[some (.d (.lst (ns.map D.int))),o1,o2,o3,o4,o5,o6,o7,o8,o9,o10,o11]) _ ⟨λx hx=>?_,_,_,_,_,_,_,_,_,_,_,_,rfl⟩ ?_ ?_
 ·obtain⟨i,_,rfl⟩:=Ö.mp hx;exact⟨i,rfl⟩
 ·rintro x r ρ z1 ⟨hx,o1,o2,o3,o4,o5,o6,o7,o8,o9,o10,o11,rfl⟩;obtain⟨j,rfl⟩:=hx x Ë;obtain⟨sn,sb,hz1,hst⟩:=P01 (k + 35) ns j z1;refine Wo hst ?_;refine(d50 (k + 36) 3 hz1 (-0) (-0)).imp λs z2 ⟨hz2,v,e,v1⟩=>?_
  subst e;obtain⟨y,ey,hy⟩:=F40 (L:=[D.int 8,.int 6,.int 7]) (n:=v) (btw 0 8) (by simp only[Ü,Á1];omega) (-0)
  obtain⟨mo,rfl,mo0,mo8⟩:=C91 hy;refine(a00 (b71 ey) ?_ :);refine(D01 (k + 34) hz2 mo0 mo8).imp λs z3 ⟨hz3,m,ps,e,g,_⟩=>?_;subst e;refine(V20 (k + 35) (t:=.tup (ps.map pr)) g.m1 g.m6 hz3).imp λs z5 ⟨hz5,pl,e,hp⟩=>?_;subst e;refine Wo (O80 (k + 34) g hp z5) ?_;refine(R21 k g hp λo6 o7 o8 o9 o10 o11=>?_ :);refine(R31 k g hp hz5 λz7 o5 o6 o7 o8 o9 o10 o11 hz7=>?_ :);refine(D31 (k + 35) hz7).imp λs z8 ⟨hz8,bw,e,hbw⟩=>?_;subst e;refine(O70 (k + 35) g.m1 g.m6 (hp.len g.m6) hz8).imp λs z9 ⟨hz9,x,e,hox⟩=>?_;subst e;refine(W80 (k + 35) hz9).imp λs z10 ⟨hz10,bc,e,hbc⟩=>?_;subst e;exact R41 k g hp hbw hbc hox λ_ _ _ _ _ _ _ _=>⟨λx hx'=>hx x (È _ hx'),_,_,_,_,_,_,_,_,_,_,_,rfl⟩
 ·rintro ρ z1 ⟨_,o1,o2,o3,o4,o5,o6,o7,o8,o9,o10,o11,rfl⟩;exact⟨rfl,rfl⟩
theorem pure:∀ ns:List Int,ns.length<=63->b40 (tabOf rows) 40 x42 [.d (.lst (ns.map D.int))] none=some (.ok (.d (.bl true)) none):=λns _=>by
 rw[X22];exact z12 0 ns
end K3
namespace K3
open PySem L2 Q
theorem ok:rows.all (k22 (G30 rows) nums)=true:=by decide +kernel
theorem bd:o90 rows:=⟨λ_ _ _ _ _ _ us hl=>by obtain⟨_,_,rfl⟩:=us2 hl;rfl,
 λ_ _ _ _ _ _ us hl=>by obtain⟨_,_,rfl⟩:=us2 hl;rfl,
 λ_ _ _ _ _ _ us hl=>by obtain⟨_,_,rfl⟩:=us2 hl;rfl,
 λ_ _ _ _ _ _ us hl=>by obtain⟨_,_,rfl⟩:=us2 hl;rfl,
 λ_ _ _ _ _ _ us hl=>by obtain⟨_,rfl⟩:=us1 hl;rfl,
 λ_ _ _ _ _ _ us hl=>by obtain⟨_,_,rfl⟩:=us2 hl;rfl,
 λ_ _ _ _ _ _ us hl=>by obtain⟨_,_,rfl⟩:=us2 hl;rfl,
 λ_ _ _ _ _ _ us hl=>by obtain⟨_,_,rfl⟩:=us2 hl;rfl,
 λ_ _ _ _ _ _ us hl=>by obtain⟨_,rfl⟩:=us1 hl;rfl,
 λ_ _ _ _ _ _ us hl=>by obtain⟨_,rfl⟩:=us1 hl;rfl,
 λ_ _ _ _ _ _ us hl=>by obtain⟨_,_,rfl⟩:=us2 hl;rfl,
 λ_ _ _ _ _ _ us hl=>by obtain⟨_,rfl⟩:=us1 hl;rfl,
 λ_ _ _ _ _ _ us hl=>by obtain⟨_,_,rfl⟩:=us2 hl;rfl,
 λ_ _ _ _ _ _ us hl=>by obtain⟨_,_,rfl⟩:=us2 hl;rfl,
 λ_ _ _ _ _ _ us hl=>by obtain⟨_,_,_,rfl⟩:=us3 hl;rfl,
 λ_ _ _ _ _ _ us hl=>by obtain⟨_,rfl⟩:=us1 hl;rfl,
 λ_ _ _ _ _ _ us hl=>by obtain⟨_,rfl⟩:=us1 hl;rfl,
 λ_ _ _ _ _ _ us hl=>by obtain⟨_,rfl⟩:=us1 hl;rfl,
 λ_ _ _ _ _ _ us hl=>by obtain⟨_,_,rfl⟩:=us2 hl;rfl,
 λ_ _ _ _ _ _ us hl=>by obtain⟨_,_,rfl⟩:=us2 hl;rfl,
 λ_ _ _ _ _ _ us hl=>by obtain⟨_,_,rfl⟩:=us2 hl;rfl,
 λ_ _ _ _ _ _ us hl=>by obtain⟨_,_,_,rfl⟩:=us3 hl;rfl,
 λ_ _ _ _ _ _ us hl=>by obtain⟨_,_,rfl⟩:=us2 hl;rfl,
 λ_ _ _ _ _ _ us hl=>by obtain⟨_,_,rfl⟩:=us2 hl;rfl,
 λ_ _ _ _ _ _ us hl=>by obtain⟨_,_,rfl⟩:=us2 hl;rfl,
 λ_ _ _ _ _ _ us hl=>by obtain⟨_,_,rfl⟩:=us2 hl;rfl,
 λ_ _ _ _ _ _ us hl=>by obtain⟨_,_,rfl⟩:=us2 hl;rfl,
 λ_ _ _ _ _ _ us hl=>by obtain⟨_,_,rfl⟩:=us2 hl;rfl,
 λ_ _ _ _ _ _ us hl=>by obtain⟨_,rfl⟩:=us1 hl;rfl,
 λ_ _ _ _ _ _ us hl=>by obtain⟨_,_,_,rfl⟩:=us3 hl;rfl,
 λ_ _ _ _ _ _ us hl=>by obtain⟨_,_,_,rfl⟩:=us3 hl;rfl,
 λ_ _ _ _ _ _ us hl=>by obtain⟨_,rfl⟩:=us1 hl;rfl,
 λ_ _ _ _ _ _ us hl=>by obtain⟨_,rfl⟩:=us1 hl;rfl,
 λ_ _ _ _ _ _ us hl=>by obtain⟨_,_,rfl⟩:=us2 hl;rfl,
 λ_ _ _ _ _ _ us hl=>by obtain⟨_,_,_,rfl⟩:=us3 hl;rfl,
 λ_ _ _ _ _ _ us hl=>by obtain⟨_,_,rfl⟩:=us2 hl;rfl,
 λ_ _ _ _ _ _ us hl=>by obtain⟨_,rfl⟩:=us1 hl;rfl,
 λ_ _ _ _ _ _ us hl=>by obtain⟨_,_,rfl⟩:=us2 hl;rfl,
 λ_ _ _ _ _ _ us hl=>by obtain⟨_,_,rfl⟩:=us2 hl;rfl,
 λ_ _ _ _ _ _ us hl=>by obtain⟨_,_,rfl⟩:=us2 hl;rfl,
 λ_ _ _ _ _ _ us hl=>by obtain⟨_,rfl⟩:=us1 hl;rfl,trivial⟩
theorem hR:w22 rows ["law"] [("_law_refused",top 61)]:=λr hr hlm=>by
 have h:=Õ.mp (show rows.all (λr=>!r.lm || (["law"]:List Str).contains r.nm)=true from by decide +kernel) r hr
 rw[hlm] at h;exact⟨Ì7.mp h,top 61,236,.head _,rfl,rfl,λ_ _ _ _ _ _ us hl=>by obtain⟨_,rfl⟩:=us1 hl;rfl⟩
def asks:n70:=H50 rows nums ["law"] [("_law_refused",top 61)]
def prg:Program:=ò
def vq:Program:=view prg [64]
def loose:List Str:=prg.boundNames.filter λx=>!(x == ("law":Str))
def runL(w:ç)(os:OsState):=(E40 PySem.W.through (PySem.W.stepOk 11 (some (.ref 6))) (PySem.W.stepT (denote treeTable) prg w) 20000 (g22 w os) (PySem.W.topStub prg)).map (λs =>
   (PySem.W.staticsOk (Ï5 prg.main.body) (PySem.W.boot_heap w.params) s.abs.heap&&PySem.W.namesBound prg s.abs.heap&&PySem.W.gensDone s.abs&&PySem.W.laidKept (PySem.W.boot_heap w.params) s.abs.heap,
    PySem.W.openSeen vq loose (Ï5 prg.main.body) (λ_=>true) true s.abs,asks.obs s.abs))
def runR(w:ç):=some (true,PySem.W.openGood vq loose,asks.due w)
def _root_.PySem.W.Fast.tw17877291313540759335:PySem.Program:=ò
theorem _root_.PySem.W.Fast.te17877291313540759335:ò=PySem.W.Fast.tw17877291313540759335:=rfl
theorem twins:(λ(_:runL=runL/\runR=runR)=>true) ⟨rfl,rfl⟩=true:=by k_qdec
theorem run_eq:∀ (w:ç) (os:OsState),PySem.W.Fast.tw14075725262101462980 w os=PySem.W.Fast.tw18139657281711212703 w:=λw os=>by kernel_rfl
theorem left:PySem.W.LeftO ò vq loose (λ_=>true) asks.hook.obs asks.hook.val 20000:=g32 (by kernel_rfl) rfl (λ_=>by kernel_rfl) λw os =>
 (congrFun (congrFun PySem.W.Fast.te14075725262101462980 w) os).trans ((run_eq w os).trans (congrFun PySem.W.Fast.te18139657281711212703 w).symm)
end K3
open PySem PySem.W PyProof.Rows
set_option maxRecDepth 100000 in
set_option maxHeartbeats 0 in
theorem PySem.Challenge.cw_tiechances_k81_powers_of_one_chance_holds : PySem.Challenge.rw_tiechances_k81_powers_of_one_chance.Holds := by
 w_on;o_law
 refine holds_open (q:=K3.vq) (loose:=K3.loose) (Xt:=λ_=>true) (XP:=λ_ _=>True) (Yf:=K3.asks.hook.obs) (Ya:=K3.asks.hook.val) (YP:=K3.asks.hook.says) K3.left K3.asks.hook.of K3.asks.hook.keeps (λ_ _=>trivial) (λ_ _ _ _ _=>trivial) (by rfl) (by rfl) (by rfl) (λs _=>recFacts_of rfl) rfl (by first | assumption | decide +kernel) (by decide +kernel) ⟨rfl,rfl,rfl,rfl,rfl,by decide +kernel⟩ ?hw ?hc
 case hw=>w_witness2
 case hc=>exact Q.O81 (l:=PySem.Challenge.rw_tiechances_k81_powers_of_one_chance) (n:=63) (k:=40) (x:="_law_script") rfl (-0) rfl ⟨rfl,by decide,by decide⟩ (Q.g72 (k:=37) (iL:=40) K3.ok K3.bd rfl rfl rfl (-0) K3.hR K3.pure)