import PyProof.Rows.All
import Wide.All
import OpenK.AllK
import Wide.FinOn
import Lean
import PyProof.EqAt
import PyProof.EqKinds
import PyProof.TupleCall
import KE.KSortTup
import OpenK.KRaise
import OpenK.KOwn
import PyProof.ExcBaseAll.ValueError
import KE.KIsAll
import PyProof.ExcAttrAll.ValueError
import PyProof.NsDelKeeps
import PyProof.RulesAs
import KE.KTryMore
import KE.KLam
import KE.KNestM
import OpenK.KEqL
import PyProof.Rows.EqDataRows
import PyProof.NeKinds
import PyProof.FactsAll.dict
import PyProof.FactsAll.subtypes
import PyProof.ListRange
import PyProof.TupleOfGen
import PyProof.TupleOfSeq
import KE.KTupSum
import PyProof.Rows.SumAny
import PyProof.Rows.SetFrom
import KE.KRevSl
import PyProof.WalksMore
import PyProof.SetRoads
import PySem.Challenge.RW_tiechances_k80_counts_and_likes
local macro_rules
|`(∅)=>`(by omega)
|`(-0)=>`(by decide)
local macro_rules
|`(tactic|omega)=>`(tactic|lia)
open PySem renaming wpAny_bind→À,Value→Ä,wpAny_pure→Å,Shared→Æ,Addr→Ç,Expr→Ð,wpAny→Ñ,model→Ö,sizeLine→Ý,Program→à,mainGlobals→æ,wpAny_newObj_type→é,World→ê,Heap→ë,Scope→í,bootBuiltins→ñ,Around→ö,mem_of_lookup→ÿ,starEach→À0,compareOp→À2,Builtin→À3,wpAny_call_entry→À8,wpAny_callSpecial?_slot→À9,wpAny_holding→Á0,sizeLine_eq→Á4,wpAny_field→Á7,Paired→Á8,wpAny_mono→Â2,Stmt→Â3,codeAny_builtin→Â4,FuncData→Â5,wpAny_truthy_bool→Â6,wpAny_setField_rec→Ã2,rawInt→Ã6,binaryOp→Ä1,swappedStores→Ä6,cLine→Å7,IsPair→Æ1,foldedSetIterable→Æ7,codeAny_mono→Æ8,wpAny_seqItems→Ç4,wpAny_typeOf→Ç6,wpAny_pyIter_tuple→Ç7,wpAny_Call_Name_kw→Ç8,call_meets→È1,wpAny_passesOwn→È4,Arguments→È6,Env→È7,wpAny_rule→É9,builtinsNs→Ê0,assignEach→Ê1,wpAny_attempt→Ë5,NameKind→Ë7,wpAny_askSetting→Í8,swapsWith→Í9,plainId_quiet→Î3,codeAny→Î4,wpAny_loadName_local→Î5,sliceBounds→Î6,SetTable→Î9,wpAny_execs_nil→Ï6,importedModules→Ï7,wpAny_call→Ñ6,wpAny_Name→Ñ7,pyNext→Ñ8,isSubtype_type→Ò1,IsZip→Ò4,wpAny_setState_of→Ó2,getItem→Ó3,wpAny_comprehension_free→Ó6,wpAny_execs_cons→Ô3,checkBuiltinCall→Ô5,backTo→Õ2,IsRange→Õ4,wpAny_updateSeq_pair→Ø0,wpAny_runValue→Ø1,seqIndex_of→Ø3,firstArgMember→Ø5,codeAny_call_builtin→Ø6,assign→Ø7,IsPart→Ø9,intKind→Ù1,holding→Ù2,codeAmong→Ù3,wpAny_setEntries_of→Ù7,wpAny_loadName_cell→Ù8,wpAny_standAt→Ú6,wpAny_onRaise→Ú7,wpAny_newList→Ú8,foldedForSure→Û0,typeIs_int→Û3,intKind_is→Û4,wpAny_sequenceKey→Ü6,wpAny_pyIter_list→Ü7,callerA→Ü8,Operator→Ý0,GenState→Ý2,wpAny_isInstance→Þ2,pickOrder→Þ3,noFill_tuple_add→Þ4,TriplesOk→Þ6,wpAny_of_eq→Þ9,letOwnedTupleGo→ß4,codeAny_of_tree→ß6,wpAny_newFunctionEnv_cells→à0
open Bool renaming and_eq_true→Á,false_ne_true→Ï,not_eq_true'→ý,false_eq_true→Ã5,true_and→Ä9,or_eq_true→Å5,eq_iff_iff→Í7,false_and→Õ1,and_true→Ö3,not_eq_false'→Ö8,not_true→ß3
open PySem.W renaming Frag→Â,kas_item→ù,kas_desc→Ã4,codeHdIn→Ã7,kas_place→Ä4,kia_one→Ç0,kas_rev→Ç9,kas_asc→È0,tabObj→È2,boot_heap→Ê5,keepIn→Ë0,excIn→Ì5,kitOne→Î0,kas_descPart→Ñ1,kas_sort→Ò0,nsIn→Ò2,kia_tup→Ö0,kas_count→Þ5
open PySem.Heap renaming get?_push_of_some→Ã,get?_push_size→Ë,lt_size→á,get?_update_self→Ç5,size_push→Ë6,get?_update_other→Ì1,SameBut→Ì2,IsTuple→Ó4
open List renaming length_map→È,mem_cons_of_mem→Ê,mem_cons_self→Ì,getD_eq_getElem?_getD→Ò,getElem?_eq_getElem→Ó,size_toArray→Ô,getElem?_map→Ø,mem_map→Ù,all_eq_true→Ú,length_cons→Û,getElem?_eq_some_iff→ß,mem_of_getElem?→â,getElem?_set_ne→ä,mem_singleton→è,getElem?_set_self→ì,replicate→î,map_map→ï,range→ð,mem_append_right→ò,mem_cons→ó,length_range→þ,length_append→À5,not_mem_nil→À6,lookup_cons→Á1,filterMap_cons→Á5,length_set→Â0,length_nil→Â1,mem_append→Â7,mem_cons→Ã1,mem_range→Ä2,all_cons→Ä5,map_append→Ä7,range'→Å0,all_eq_true→Å2,getElem?_append_right→Å3,replicate_succ→Å4,map_cons→Å6,mem_append_left→Æ2,length_take→Æ3,getElem_mem→Æ4,pairwise_cons→Ç1,filter_eq_nil_iff→Ç2,pairwise_lt_range→È5,map_congr_left→É0,length_filter_le→É4,flatten_cons→É6,append_assoc→É7,getElem?_range→É8,zip_cons_cons→Ê6,getElem?_cons_zero→Ë2,append_nil→Ë4,take_of_length_le→Ë9,contains_iff_mem→Ì8,isEmpty_iff→Ì9,nil_append→Í1,forIn_cons→Í2,lookup→Í3,length_drop→Í5,length_eraseIdx_of_lt→Ï4,getElem?_drop→Ï5,length_reverse→Ð6,getElem?_append_left→Ð8,drop_eq_getElem_cons→Ð9,pairwise_map→Ñ4,range'_succ→Ò6,getElem?_replicate→Ò7,nodup_cons→Ó8,reverse_cons→Ô2,mem_iff_getElem→Ô7,getElem?_append→Ô8,filter_cons→Õ6,forIn_nil→Ö1,mem_filterMap→Ö5,getElem?_take→Ö6,zip_nil_left→Ù4,eq_nil_of_length_eq_zero→Ü0,mem_filter→Ü4,perm_ext_iff_of_nodup→Ý9,Pairwise→ß0,Perm→ß7,drop_eq_nil_of_le→ß8,length_singleton→à3,length_replicate→à4,getElem?_eq_none→à5
open Option renaming map_eq_some_iff→É,bind_eq_some_iff→Í,map→Ì6,map_eq_some_iff→Ô4,ne_none_iff_exists'→Ü3,isSome_iff_exists→Ý8
open Nat renaming le_refl→Î,lt_of_lt_of_le→Õ,ne_of_lt→Ü,le_trans→Þ,lt_irrefl→À7,lt_succ_of_lt→Å1,zero_le→È3,le_of_lt→É2,le_add_right→É5,ne_of_gt→Ê7,lt_of_le_of_lt→Ë1,lt_succ_self→Ì3,max→Ï0,pow_le_pow_right→Õ3,not_lt_zero→Õ5,max_le→Ø8,mul_comm→Ù9,lt_succ_of_le→Ú0,le_of_eq→Ú1,succ_le_succ→Û8,min_eq_right→Û9,min_eq_left→Ý1,lt_of_succ_lt_succ→à1,le_mul_of_pos_left→à2
open ForInStep renaming yield→ã,done→ç
open PySem.Value renaming none→å,type→Á9,ref→Â9,int→Å9,bool→Î7,builtin→Ñ2,notImplemented→Ô6
open PySem.NameKind renaming free→ô,cell→Æ0
open PyProof.Rows renaming slot_tuple_getitem→õ,callWith_type1→Á3,SortSt→Ã0,seqObj→Ã3,IntsAre→Ì0,SortKind→Î8,IsTup→Ï1,envOfC→Ï8,listItems_at→Ñ0,AllBare→Ó5,slicePart_none→Ø2,oneType'→Ø4,pendingOf→Ù0,listUpdate_at→Ú9,assignInOrder_cons→Û5,args_tuple_getitem→Û6,get?_update_seq→ß5
open Array renaming getElem?_toList→ø,extract→Æ5,getElem?_eq_getElem→É1,length_toList→Ê8,getD_eq_getD_getElem?→Î2,toArray_toList→Ð5,map_extract→Ñ9,size→Ö4,toList_inj→Ú4,map_append→Ú5
open PySem.Challenge renaming pw_tiechances_k80_counts_and_likes→ú
open Option.some renaming inj→û,injEq→Ê2
open False renaming elim→ü
open Int renaming toNat_natCast→À1,eq_ofNat_of_zero_le→Æ9,eq_of_mul_eq_mul_right→Ð4,emod_eq_of_lt→Ñ5,zero_add→Ú2
open PySem.Obj renaming mapSeq→À4
open PySem.Str renaming ofString→Á2
open Ne renaming symm→Á6
open PySem.Around renaming under_plainId→Â8,frames_deeper→ß9
open PySem.Builtin.Range renaming rangeSize→Ã8,small→Ò5
open PySem.AutoSeq1 renaming wpAny_loadPart'→Ã9,wpAny_loadPart'→Ä8,idx_int→Ö9,sub_tuple_tuple→Ü5
open PySem.Builtin renaming iter→Ä0
open PySem.Builtin.List renaming listExtendWith→Ä3,listTooLong→Í6,listSameRef→Ù6
open PySem.Heap.SameBut renaming update→Å8
open PySem.Builtin.Tuple renaming tupleExact→Æ6
open PyProof.Rows.KeyOrd renaming kle_refl→Ç3,kle_of_klt→Ð3,kle_trans→Ù5
open List.Perm renaming eq_of_pairwise→È8
open PySem.Builtin.Slice renaming slicePlaces→È9,sliceAdjust→Í4,sliceApplied→Ô1
open PySem.F renaming slot_tuple_iterator_next→É3,called_set→Ê3,plainAttrs_list→Ê4,type_list_append→Ï9,slot_list_append→Ð0,args_tuple_add_2→Ð1,entry_tuple_add→Ñ3,slot_tuple_add→Ò3,slot_tuple_lt→Ó0,called_tuple→Ó7,slot_zip_next→Ô9,slot_int_rmul→Õ0,args_tuple_mul_2→Ú3,excBase_ValueError→Û7,entry_tuple_mul→Ü1,slot_tuple_mul→Ý3,plain_tuple_new→Ý5,plain_list_iadd→Ý6,args_tuple_lt_2→Ý7,entry_tuple_lt→Þ7,args_tuple_iterator_next_1→Þ8,entry_tuple_iterator_next→ß1
open True renaming intro→Ê9
open List.Pairwise renaming filter→Ë3
open PySem.Calls renaming spliced_nil→Ë8,spliced_cons→Ï2,Name_function_global→Ï3,call_function_entry→Þ0,loadGlobal_global→ß2,evalArgs_plain→à6
open PyProof.Rows.SortSt renaming mk'→Ì4
open Array.Perm renaming refl→Ì7
open PySem.Builtin.SmallTypes renaming ownedTupleIsFree→Í0
open PySem.W.Looks renaming ld→Î1,of_pure→Û1,here→Ü9
open Prod.mk renaming injEq→Ð2
open Or renaming inl→Ð7,inr→Õ9
open PySem.W.KasT renaming ret→Ò8
open PySem.Heap.IsSliceOf renaming new→Ò9
open PySem.PyData renaming depthAll→Ó1,eqv→Ü2
open Iff renaming rfl→Ó9
open PyProof.Rows.F renaming plain_set_update_loop→Ô0
open Sum renaming inr→Õ7,inl→Õ8
open PySem.SeqAt renaming EqAt→Ö2
open PySem.Code renaming quiet_builtin→Ö7
open Classical renaming byContradiction→Û2
open PySem.Shared renaming TypeIs→Ý4
open PySem.Builtin.Int renaming intBits→Þ1
local macro_rules
|`(command|def $i:declId $s:optDeclSig $v)=>`(noncomputable def $i:declId $s:optDeclSig $v)
|`(command|abbrev $i:declId $s:optDeclSig $v)=>`(noncomputable abbrev $i:declId $s:optDeclSig $v)
open PySem.W (methodObj hideAll hideAll_get of_hideAll callWith_K cellsFrom_some fnOf codeRec_of kitx_none kitx_bool kitx_int kitx_str kitx_tuple kitx_list kitx_dict kitAny kia_tup envX kla_fn codeHd_of_K kla_obj mg_none_of mg_of view)
open PySem.Heap (lt_size size_push)
open List (range filterMap_cons mem_cons_self mem_cons_of_mem mem_append_left mem_append_right append_nil of_mem_zip replicate length_take mem_of_getElem? length_append length_map size_toArray length_drop map_nil map_cons length_set reverse_cons replicate_succ flatten_cons foldl append_assoc lookup_cons forIn_cons toArray forIn_nil mem_cons not_mem_nil range' map_toArray length_nil nil_append length_range zip_cons_cons length_cons length_reverse all_eq_true mem_filter mem_range map_congr_left length_filter_le getElem_mem isEmpty_nil map_id all_nil mapM_cons all_map pairwise_lt_range all_cons drop_length filter_cons map_id')
open Array (length_toList toList getD size_map map_extract push extract setIfInBounds toArray_toList)
open Nat (ne_of_gt le_succ zero_le le_add_right not_lt_zero ble beq lt_succ_of_lt lt_succ_self)
open PyProof.Rows (lt_int)
open Int (toNat_natCast gcd emod_nonneg emod_lt_of_pos natAbs_mul mul_pos)
open PySem.Builtin.Slice (sliceAdjust slicePlaces sliceApplied sliceFields)
open PySem.Builtin.Tuple (tupleItemsOf tupleExact tupleCompareSizes tupleTooMany tupleIsExact)
open Bool (and_eq_true false_eq_true not_eq_true' or_eq_true)
open Option (getD_none map_some map_eq_some_iff)
open PySem.Builtin.SmallTypes (nextOf ownedTupleIsFree ownedTupleHandOut)
set_option bootstrap.genMatcherCode false
set_option compiler.extract_closed false
set_option genInjectivity false
set_option genSizeOf false
set_option autoImplicit true
set_option relaxedAutoImplicit true
set_option Elab.async false
set_option linter.all false
set_option maxRecDepth 100000
namespace L2
open PySem PySem.Spec PyProof.Rows
abbrev Key:=Sum Int Str
def i52:Key->Ä->Bool
 |.inl k,v=>Ä.isInt k v|.inr x,v=>Ä.isStrOf x v
def O42(w:ê):Key->Int
 |.inl k=>hashInt k|.inr x=>hashStr w x
theorem d40:∀ {k:Key}{v:Ä},i52 k v=true->(∃ i t,k=Õ8 i/\v=Å9 i t)∨(∃ x t,k=Õ7 x/\v=Ä.str x t)
 |.inl i,v,h=>by
  obtain⟨t,e⟩:=Ä.isInt_shape (k:=i) (v:=v) h;exact .inl ⟨i,t,rfl,e⟩
 |.inr x,v,h=>by
  obtain⟨t,e⟩:=Ä.isStrOf_shape (x:=x) (v:=v) h;exact .inr ⟨x,t,rfl,e⟩
theorem i62(a b:Int):decide ((Õ8 a:Key)=Õ8 b)=(a == b):=by
 by_cases e:a=b
 ·subst e;simp
 ·have h:¬ (Õ8 a:Key)=Õ8 b:=λq=>e (Õ8.inj q);rw[decide_eq_false h];exact(beq_eq_false_iff_ne.mpr e).symm
theorem i72(a b:Str):decide ((Õ7 a:Key)=Õ7 b)=decide (a=b):=by
 by_cases e:a=b
 ·subst e;simp
 ·have h:¬ (Õ7 a:Key)=Õ7 b:=λq=>e (Õ7.inj q);rw[decide_eq_false h,decide_eq_false e]
theorem i82(a:Int)(b:Str):decide ((Õ8 a:Key)=Õ7 b)=false:=decide_eq_false (λq=>nomatch q)
theorem i92(a:Str)(b:Int):decide ((Õ7 a:Key)=Õ8 b)=false:=decide_eq_false (λq=>nomatch q)
def n31(prog:à)(w:ê):PySem.KeyKind prog w Key where
 is:=i52
 hash:=O42 w
 inj:=λv a b ha hb=>by
  rcases d40 ha with ⟨i,t,rfl,rfl⟩ | ⟨x,t,rfl,rfl⟩
  ·rcases d40 hb with ⟨j,u,rfl,e⟩ | ⟨y,u,rfl,e⟩
   ·injection e with e1 _;rw[e1]
   ·exact nomatch e
  ·rcases d40 hb with ⟨j,u,rfl,e⟩ | ⟨y,u,rfl,e⟩
   ·exact nomatch e
   ·injection e with e1 _;rw[e1]
 byValue:=λk v h=>by
  rcases d40 h with ⟨i,t,rfl,rfl⟩ | ⟨x,t,rfl,rfl⟩ <;> rfl
 pyHash:=λhv h=>by
  rcases d40 hv with ⟨i,t,rfl,rfl⟩ | ⟨x,t,rfl,rfl⟩
  ·exact wpAny_pyHash_int h
  ·exact wpAny_pyHash_str h
 eqBool:=λhu hv h=>by
  rcases d40 hu with ⟨i,t,rfl,rfl⟩ | ⟨x,t,rfl,rfl⟩
  ·rcases d40 hv with ⟨j,u,rfl,rfl⟩ | ⟨y,u,rfl,rfl⟩
   ·rw[i62] at h;exact wpAny_eqBool_int h
   ·rw[i82] at h;exact Ö2.int_str i t y u _ _ _ _ h
  ·rcases d40 hv with ⟨j,u,rfl,rfl⟩ | ⟨y,u,rfl,rfl⟩
   ·rw[i92] at h;exact Ö2.str_int x t j u _ _ _ _ h
   ·rw[i72] at h;exact wpAny_eqBool_str h
 «strs»:=λk x t v h=>by
  rcases d40 h with ⟨i,u,rfl,e⟩ | ⟨y,u,rfl,e⟩
  ·exact nomatch e
  ·injection e with e1 _;subst e1;cases v <;> rfl
inductive V where
 |non | bl (b:Bool) | int (i:Int) | str (x:Str) | byt (b:Array UInt8) | flt (b:UInt64) | ref (a:Addr) | ty (n:String)
 deriving DecidableEq
def RelV:V->Ä->Prop
 |.non,u=>u=å|.bl b,u=>u=Î7 b|.int i,u=>∃ t,u=Å9 i t|.str x,u=>∃ t,u=Ä.str x t|.byt b,u=>∃ t,u=Ä.bytes b t|.flt b,u=>∃ t,u=Ä.float b t|.ref a,u=>u=Â9 a|.ty n,u=>u=Á9 n
abbrev Vals:List V->List Ä->Prop:=Á8 RelV
theorem Vals.length{xs:List V}{us:List Ä}(r:Vals xs us):xs.length=us.length:=Á8.length r
theorem Vals.get:∀ {xs:List V}{us:List Ä}{i:Nat}{x:V},Vals xs us->xs[i]?=some x->∃ u,us[i]?=some u/\RelV x u
 |_,_,_,_,.nil,e=>by simp at e|_,_,0,_,.cons r _,e=>by simp at e;subst e;exact⟨_,rfl,r⟩
 |_,_,i + 1,x,.cons _ t,e=>by
  obtain⟨u,h1,h2⟩:=Vals.get (i:=i) (x:=x) t (by simpa using e)
  exact⟨u,by simpa using h1,h2⟩
theorem Vals.set{x:V}{u:Ä}(r:RelV x u):∀ {xs:List V}{us:List Ä} (i:Nat),Vals xs us->Vals (xs.set i x) (us.set i u)
 |_,_,_,.nil=>.nil|_,_,0,.cons _ t=>.cons r t|_,_,i + 1,.cons q t=>.cons q (Vals.set r i t)
theorem Vals.append:∀ {xs ys:List V}{us ws:List Ä},Vals xs us->Vals ys ws->Vals (xs++ys) (us++ws)
 |_,_,_,_,.nil,s=>s|_,_,_,_,.cons r t,s=>.cons r (Vals.append t s)
theorem Vals.take:∀ {xs:List V}{us:List Ä} (n:Nat),Vals xs us->Vals (xs.take n) (us.take n)
 |_,_,0,_=>.nil|_,_,_ + 1,.nil=>.nil|_,_,n + 1,.cons r t=>.cons r (Vals.take n t)
theorem Vals.drop:∀ {xs:List V}{us:List Ä} (n:Nat),Vals xs us->Vals (xs.drop n) (us.drop n)
 |_,_,0,r=>r|_,_,_ + 1,.nil=>.nil|_,_,n + 1,.cons _ t=>Vals.drop n t
def L22:Option V->Option Ä->Prop
 |some v,some u=>RelV v u|none,none=>True|_,_=>False
def KV{κ:Type}:List (κ × V)->List (κ × Ä)->Prop:=Á8 λ(p:κ × V) (q:κ × Ä)=>p.1=q.1/\RelV p.2 q.2
def kV:Key->V
 |.inl i=>.int i|.inr x=>.str x
inductive HO where
 |lst (xs:List V)
 |tup (xs:List V)
 |dK (kvs:List (Key × V)) | dT (kvs:List (List Key × V))
 |set (S:Int->Bool) (n:Nat)
 |ins (C dx:Addr) (fs:List (Str × V))
 |own (x:Addr)
 |xd (fs:List (Str × V))
 |met (f x:Addr)
 |rng (lo hi:Int)
 |frz (o:Obj) (u:HO)
 |tbl (ps:Array Value)
 |ext (φ:Heap->Prop)
abbrev Hp:=Ç->Option HO
def upd(H:Hp)(a:Ç)(o:HO):Hp:=λb=>if b=a then some o else H b
theorem b00{H:Hp}{a:Ç}{o:HO}:upd H a o a=some o:=by unfold upd;rw[if_pos rfl]
theorem a50{H:Hp}{a b:Ç}{o:HO}(h:b≠a):upd H a o b=H b:=by unfold upd;rw[if_neg h]
theorem a90{H:Hp}{a b:Ç}{o:HO}(h:H a=some o)(h':H b=none):a≠b:=by
 intro e;subst e;rw[h] at h';cases h'
section
variable (P:à) (w:ê)
def h20(H:Hp)(h:ë)(a:Ç):HO->Prop
 |.lst xs=>xs.length<=Ý/\∃ (its:List Ä) (n:Nat),Vals xs its/\h.get? a=some { cls:=.type "list",data:=.seq its.toArray n }|.tup xs=>xs.length<=Ý/\∃ its:List Ä,Vals xs its/\Ï1 h a its.toArray|.dK kvs=>kvs.length<=Ý/\(a == sysModules)=false/\∃ vs,KV kvs vs/\h.DictOf (n31 P w) a vs
 |.dT kvs=>kvs.length<=Ý/\(a == sysModules)=false/\∃ xs:List (List Key × Ç × Ä),
   Á8 (λ(p:List Key × V) (q:List Key × Ç × Ä)=>p.1=q.1/\H q.2.1=some (.tup (p.1.map kV))/\RelV p.2 q.2.2) kvs xs /\
   ∃ o es ep,h.get? a=some o/\o.ExactDict/\o.data=.dict es ep/\es.toList=xs.map (entryOfKey (tupleKind (n31 P w)))/\(xs.map (·.1)).Nodup
 |.set S n=>h.SetOf (Ù1 P w) a S n
 |.ins C dx fs=>H dx=some (.own a)/\fs.length<=1000/\dx≠a/\h.get? a=some (PySem.W.instObj C dx) /\
   ∃ mA,h.Ns1 dx mA/\(∀ f,L22 (fs.lookup f) (mA f))/\PySem.Within mA (fs.map (·.1))
 |.own _=>∃ o,h.get? a=some o|.xd fs=>∃ mA,h.Ns1 a mA/\∀ f,L22 (fs.lookup f) (mA f)|.rng lo hi=>∃ t u v,h.get? a=some { cls:=.type "range",data:=.fields #[.int lo t,.int hi u,.int 1 v] }|.frz o u=>h.get? a=some o/\h20 H h a u|.tbl ps=>h.get? a=some { cls:=.none,data:=.fields ps }|.met f x=>h.get? a=some (methodObj (.ref f) (.ref x))|.ext φ=>φ h/\(∃ o,h.get? a=some o)/\∀ h1 h2:ë,φ h1->(∀ o,h1.get? a=some o->h2.get? a=some o)->φ h2
def HOk(H:Hp)(h:ë):Prop:=∀ a o,H a=some o->h20 P w H h a o
end
section
variable {P:à}{w:ê}{H H':Hp}{h h':ë}{a:Ç}{o:HO}
theorem h20.lt(x:h20 P w H h a o):a < h.objs.size:=by
 cases o with
 |lst xs=>obtain⟨_,_,_,_,e⟩:=x;exact á e
 |tup xs=>obtain⟨_,_,_,p⟩:=x;exact p.lt
 |dK kvs=>obtain⟨_,_,_,_,o,_,_,e,_⟩:=x;exact á e
 |dT kvs=>obtain⟨_,_,_,_,o,_,_,e,_⟩:=x;exact á e
 |set S n=>obtain⟨o,_,_,_,e,_⟩:=x;exact á e
 |ins C dx fs=>obtain⟨_,_,_,e,_⟩:=x;exact á e
 |own y=>obtain⟨_,e⟩:=x;exact á e
 |xd fs=>obtain⟨_,⟨_,_,_,e,_⟩,_⟩:=x;exact á e
 |rng lo hi=>obtain⟨_,_,_,e⟩:=x;exact á e
 |frz ob u=>obtain⟨e,_⟩:=x;exact á e
 |tbl ps=>exact á (show h.get? a=some _ from x)|met f y=>exact á (show h.get? a=some _ from x)|ext φ=>obtain⟨_,⟨_,e⟩,_⟩:=x;exact á e
theorem Á8.P81{α β:Type}{F G:α->β->Prop}:∀ {l₁:List α}{l₂:List β},Á8 F l₁ l₂->(∀ a b,F a b->G a b)->Á8 G l₁ l₂
 |_,_,.nil,_=>.nil|_,_,.cons r t,f=>.cons (f _ _ r) (Á8.P81 t f)
theorem h20.i61(x:h20 P w H h a o)(k:∀ b u,(b=a∨H b=some (.own a))->h.get? b=some u->h'.get? b=some u)
  (ho:∀ b,H b=some (.own a)->H' b=some (.own a)) (ht:∀ b xs,H b=some (.tup xs)->H' b=some (.tup xs)):h20 P w H' h' a o:=by
 induction o with
 |lst xs=>obtain⟨z,its,n,r,e⟩:=x;exact⟨z,its,n,r,k _ _ (.inl rfl) e⟩
 |tup xs=>obtain⟨z,its,r,ob,e,c⟩:=x;exact⟨z,its,r,ob,k _ _ (.inl rfl) e,c⟩
 |dK kvs=>obtain⟨z,y,vs,r,ob,es,ep,e,c⟩:=x;exact⟨z,y,vs,r,ob,es,ep,k _ _ (.inl rfl) e,c⟩
 |dT kvs =>
  obtain⟨z,y,xs,r,ob,es,ep,e,c⟩:=x;exact⟨z,y,xs,Á8.P81 r λp q z=>⟨z.1,ht _ _ z.2.1,z.2.2⟩,ob,es,ep,k _ _ (.inl rfl) e,c⟩
 |set S n=>obtain⟨ob,es,ep,t,e,c⟩:=x;exact⟨ob,es,ep,t,k _ _ (.inl rfl) e,c⟩
 |ins C dx fs =>
  obtain⟨d,z,ne,e,mA,⟨od,es,ep,e2,c⟩,r⟩:=x;exact⟨ho _ d,z,ne,k _ _ (.inl rfl) e,mA,⟨od,es,ep,k _ _ (.inr d) e2,c⟩,r⟩
 |own y=>obtain⟨ob,e⟩:=x;exact⟨ob,k _ _ (.inl rfl) e⟩
 |xd fs=>obtain⟨mA,⟨od,es,ep,e,c⟩,r⟩:=x;exact⟨mA,⟨od,es,ep,k _ _ (.inl rfl) e,c⟩,r⟩
 |rng lo hi=>obtain⟨t,u,v,e⟩:=x;exact⟨t,u,v,k _ _ (.inl rfl) e⟩
 |frz ob u ih=>obtain⟨e,q⟩:=x;exact⟨k _ _ (.inl rfl) e,ih q⟩
 |tbl ps =>
  have e:h.get? a=some { cls:=.none,data:=.fields ps }:=x;show h'.get? a=some { cls:=.none,data:=.fields ps };exact k a _ (.inl rfl) e
 |met f y =>
  have e:h.get? a=some (methodObj (.ref f) (.ref y)):=x;show h'.get? a=some (methodObj (.ref f) (.ref y));exact k a _ (.inl rfl) e
 |ext φ=>obtain⟨p,⟨o,e⟩,st⟩:=x;exact⟨st _ _ p λo q=>k _ _ (.inl rfl) q,⟨o,k _ _ (.inl rfl) e⟩,st⟩
theorem HOk.lt(x:HOk P w H h)(e:H a=some o):a < h.objs.size:=(x a o e).lt
theorem HOk.fresh(x:HOk P w H h)(e:h.objs.size<=a):H a=none:=by
 cases q:H a with
 |none=>rfl|some u=>exact absurd (Õ (x.lt q) e) (À7 _)
theorem HOk.kept(x:HOk P w H h)(k:∀ b u,h.get? b=some u->h'.get? b=some u):HOk P w H h':=λa o e =>
 (x a o e).i61 (λb u _ q=>k b u q) (λ_ q=>q) λ_ _ q=>q
theorem HOk.laid(x:HOk P w H h)(k:∀ b u,h.get? b=some u->h'.get? b=some u)(hp:h.objs.size<=a)(new:h20 P w (upd H a o) h' a o):HOk P w (upd H a o) h':=λb u e=>by
 have hn:=x.fresh hp;by_cases hb:b=a
 ·subst hb;rw[b00] at e;cases e;exact new
 ·rw[a50 hb] at e;exact(x b u e).i61 (λc v _ q=>k c v q) (λc q=>by rw[a50 (a90 q hn)];exact q) λc xs q=>by rw[a50 (a90 q hn)];exact q
end
def Rd(H:Hp)(a:Ç)(u:HO):Prop:=H a=some u∨∃ o,H a=some (.frz o u)
theorem Rd.ok{P:à}{w:ê}{H:Hp}{h:ë}{a:Ç}{u:HO}(r:Rd H a u)(x:HOk P w H h):h20 P w H h a u:=by
 rcases r with r | ⟨o,r⟩
 ·exact x a u r
 ·obtain⟨_,q⟩:=x a _ r;exact q
def Mut:Option HO->Prop
 |some (.lst _)=>True|some (.dK _)=>True|some (.dT _)=>True|some (.set _ _)=>True|some (.ins _ _ _)=>True|some (.ext _)=>True|_=>False
section
variable {P:à}{w:ê}{H:Hp}{h h':ë}{x e:Ç}{o':HO}
theorem HOk.write(ok:HOk P w H h)(mu:Mut (H x))(he:e=x∨H e=some (.own x))(k:∀ b u,b≠e->h.get? b=some u->h'.get? b=some u)(heo:∃ u,h'.get? e=some u)
  (new:h20 P w (upd H x o') h' x o'):HOk P w (upd H x o') h':=λb u q=>by
 have nown:∀ c y,H c=some (.own y)->c≠x:=λc y r z=>by subst z;rw[r] at mu;exact mu
 have ntup:∀ c xs,H c=some (.tup xs)->c≠x:=λc xs r z=>by subst z;rw[r] at mu;exact mu
 by_cases hb:b=x
 ·subst hb;rw[b00] at q;cases q;exact new
 ·rw[a50 hb] at q;by_cases hbe:b=e
  ·have q':H b=some (.own x):=by
    rcases he with z | z
    ·exact absurd (hbe.trans z) hb
    ·rw[hbe];exact z
   rw[q] at q';cases q';obtain⟨v,hv⟩:=heo;exact⟨v,by rw[hbe];exact hv⟩
  ·refine(ok b u q).i61 (λc v hc r=>k c v ?_ r) (λc r=>by rw[a50 (nown c b r)];exact r) λc xs r=>by rw[a50 (ntup c xs r)];exact r
   rcases hc with rfl | hc
   ·exact hbe
   ·rintro rfl;rcases he with z | z
    ·exact nown c b hc z
    ·rw[hc] at z;cases z;exact hb rfl
end
structure Un(fs ex:List Addr)(H H':Hp)(h h':Heap):Prop where
 keep:∀ b o,h.get? b=some o->H b=none->b ∉ fs->b ∉ ex->h'.get? b=some o
 slot:∀ b o,h.get? b=some o->H b=none->b∈fs->b ∉ ex->∃ sl,h'.get? b=some { o with slots:=sl }
 free:∀ b o,h.get? b=some o->H b=none->b ∉ ex->H' b=none
 there:∀ b o,h.get? b=some o->b ∉ ex->∃ o',h'.get? b=some o'
 tups:∀ b xs,H b=some (.tup xs)->H' b=some (.tup xs)
 frzs:∀ b o u,H b=some (.frz o u)->H' b=some (.frz o u)
 tbls:∀ b ps,H b=some (.tbl ps)->∃ more,H' b=some (.tbl (ps++more))
section
variable {fs fs' ex ex':List Ç}{H H1 H2:Hp}{h h1 h2 h':ë}{a x e:Ç}{o:HO}
theorem Un.any(u:Un fs ex H H1 h h1){b:Ç}{ob:Obj}(q:h.get? b=some ob)(n:H b=none)(hx:b ∉ ex):∃ sl,h1.get? b=some { ob with slots:=sl }:=by
 by_cases hb:b∈fs
 ·exact u.slot b ob q n hb hx
 ·exact⟨ob.slots,u.keep b ob q n hb hx⟩
theorem Un.trans(a:Un fs ex H H1 h h1)(b:Un fs ex H1 H2 h1 h2):Un fs ex H H2 h h2 where
 keep:=λc ob q n hc hx=>b.keep c ob (a.keep c ob q n hc hx) (a.free c ob q n hx) hc hx
 slot:=λc ob q n hc hx=>by
  obtain⟨sl,e1⟩:=a.slot c ob q n hc hx;obtain⟨sl',e2⟩:=b.slot c _ e1 (a.free c ob q n hx) hc hx;exact⟨sl',e2⟩
 free:=λc ob q n hx=>by
  obtain⟨o',e1⟩:=a.there c ob q hx;exact b.free c o' e1 (a.free c ob q n hx) hx
 there:=λc ob q hx=>by
  obtain⟨o',e1⟩:=a.there c ob q hx;exact b.there c o' e1 hx
 tups:=λc xs q=>b.tups c xs (a.tups c xs q)
 frzs:=λc ob xs q=>b.frzs c ob xs (a.frzs c ob xs q)
 tbls:=λc ps q=>by
  obtain⟨m1,e1⟩:=a.tbls c ps q;obtain⟨m2,e2⟩:=b.tbls c _ e1;exact⟨m1++m2,by rw[e2,Array.append_assoc]⟩
theorem Un.kept(k:∀ b u,h.get? b=some u->h'.get? b=some u):Un fs ex H H h h' :=
 ⟨λb ob q _ _ _=>k b ob q,λb ob q _ _ _=>⟨ob.slots,k b ob q⟩,λ_ _ _ n _=>n,λb ob q _=>⟨ob,k b ob q⟩,λ_ _ q=>q,λ_ _ _ q=>q,λ_ ps q=>⟨#[],by rw[q];simp⟩⟩
theorem Un.refl:Un fs ex H H h h:=Un.kept λ_ _ q=>q
theorem Un.laid(k:∀ b u,h.get? b=some u->h'.get? b=some u)(hp:h.objs.size<=a)(hn:H a=none):Un fs ex H (upd H a o) h h' where
 keep:=λb u q _ _ _=>k b u q
 slot:=λb u q _ _ _=>⟨u.slots,k b u q⟩
 free:=λb u q n _=>by rw[a50 (Ü (Õ (á q) hp))];exact n
 there:=λb u q _=>⟨u,k b u q⟩
 tups:=λb xs q=>by rw[a50 (a90 q hn)];exact q
 frzs:=λb u xs q=>by rw[a50 (a90 q hn)];exact q
 tbls:=λb ps q=>⟨#[],by rw[a50 (a90 q hn),q];simp⟩
theorem Un.write(mu:Mut (H x))(he:e=x∨H e=some (.own x))(k:∀ b u,b≠e->h.get? b=some u->h'.get? b=some u)(heo:∃ u,h'.get? e=some u):Un fs ex H (upd H x o) h h':=by
 have hx:∀ b,H b=none->b≠x:=λb n z=>by subst z;rw[n] at mu;exact mu
 have hb:∀ b,H b=none->b≠e:=λb n z=>by
  subst z;rcases he with r | r
  ·exact hx b n r
  ·rw[n] at r;cases r
 have hm:∀ b u,H b=some u->¬ Mut (some u)->b≠x:=λb u q nm z=>by subst z;rw[q] at mu;exact nm mu
 refine⟨λb u q n _ _=>k b u (hb b n) q,λb u q n _ _=>⟨u.slots,k b u (hb b n) q⟩,λb u q n _=>by rw[a50 (hx b n)];exact n,λb u q _=>?_,
  λb xs q=>by rw[a50 (hm b _ q λz=>z)];exact q,λb u xs q=>by rw[a50 (hm b _ q λz=>z)];exact q,λb ps q=>⟨#[],by rw[a50 (hm b _ q λz=>z),q];simp⟩⟩
 by_cases hbe:b=e
 ·subst hbe;exact heo
 ·exact⟨u,k b u hbe q⟩
theorem Un.mono(u:Un fs ex H H1 h h1)(hs:∀ b∈fs,b∈fs')(hx:∀ b∈ex,b∈ex'):Un fs' ex' H H1 h h1 :=
 ⟨λb ob q n hb he=>u.keep b ob q n (λz=>hb (hs b z)) λz=>he (hx b z),λ_ _ q n _ he=>u.any q n λz=>he (hx _ z),λb ob q n he=>u.free b ob q n λz=>he (hx b z),λb ob q he=>u.there b ob q λz=>he (hx b z),u.tups,u.frzs,u.tbls⟩
end
def trk(h:ë)(H:Hp):List Addr:=(ð h.objs.size).filter λa=>(H a).isSome
def E61(h:ë)(H:Hp):Heap:=hideAll h (trk h H)
theorem n41(h:ë)(H:Hp):(E61 h H).objs.size=h.objs.size:=PySem.W.hideAll_size _ _
theorem I30{h:ë}{H:Hp}{b:Ç}{o:Obj}(e:h.get? b=some o)(n:H b=none):(E61 h H).get? b=some o :=
 hideAll_get _ e λhm=>by
  have q:(H b).isSome=true:=(Ü4.mp hm).2;rw[n] at q;simp at q
theorem V61{h:ë}{H:Hp}{b:Ç}{o:Obj}(e:(E61 h H).get? b=some o):h.get? b=some o/\H b=none:=by
 have e':h.get? b=some o:=of_hideAll (trk h H) e;refine⟨e',?_⟩;cases q:H b with
 |none=>rfl
 |some x =>
  have hm:b∈trk h H:=Ü4.mpr ⟨Ä2.mpr (á e'),by simp[q]⟩
  have z:(E61 h H).get? b=none:=PySem.W.hideAll_none (trk h H) hm;rw[z] at e;cases e
structure Mod(K:PySem.W.Frag)(mg:Str->Option Value)(base:Heap):Prop where
 kin:K.In base
 glob:base.Ns mainGlobals mg
 blt:∃ mb,base.Ns builtinsNs mb/\∀ x:Str,x≠"__name__"->mb x=bootBuiltins x
 nolimit:base.NoLimit
structure Cx where
 prog:Program
 w:World
 K:PySem.W.Frag
 mg:Str->Option Value
 base:Heap
 A:Around
 N:List Str
 s₀:Shared
 H₀:Hp
 env:Env
 outer:List Env
 stack:List Env
 ex:List Addr
 fn:Str->Bool
 calm:Bool
 pn:List (Addr × Obj)
 xe:Value->Shared->Prop
def frs(l:List Env):List Addr:=l.filterMap (·.frame)
abbrev Cx.fs(X:Cx):List Addr:=frs X.outer
def Vis(sc:í)(x:Str):Prop:=sc.names.lookup x=some .local∨sc.names.lookup x=some .cell∨sc.names.lookup x=some .free
def Loc(sc:í)(x:Str):Prop:=sc.names.lookup x=some .local∨sc.names.lookup x=some .cell
def Look(env:Env)(h:ë)(m:Str->Option Ä)(x:Str)(u:Ä):Prop :=
 (env.kindOf x=some .local/\m x=some u)∨((env.kindOf x=some .cell∨env.kindOf x=some .free)/\∃ c,env.cells.lookup x=some c/\h.IsCell c (some u))
structure Cx.Ok(X:Cx):Prop where
 mod:Mod X.K X.mg X.base
 kind:X.env.scope.kind=.function
 glob:X.env.globals=mainGlobals
 blt:X.env.builtins=builtinsNs
 above:X.s₀.heap.objs.size<=X.env.locals
 inj:∀ x y c,X.env.cells.lookup x=some c->X.env.cells.lookup y=some c->x=y
 has:∀ x,(X.env.kindOf x=some .cell∨X.env.kindOf x=some .free)->∃ c,X.env.cells.lookup x=some c
 cab:∀ x c,X.fn x=true->X.env.cells.lookup x=some c->X.s₀.heap.objs.size<=c
 hd:X.calm=true->X.A.handled=none
 frames:X.A.frames=some X.stack
 stk:X.stack=X.outer∨(X.stack=X.env::X.outer/\X.env.frame=some X.env.locals)
 exf:∀ b∈X.ex,b≠X.env.locals/\∀ x c,X.env.cells.lookup x=some c->c≠b
 bs:∀ b o,X.base.get? b=some o->X.s₀.heap.get? b=some o/\X.H₀ b=none
 bsz:X.base.objs.size<=X.s₀.heap.objs.size
 noex:∀ b o,X.base.get? b=some o->b ∉ X.ex
 exfs:∀ b∈X.ex,b ∉ X.fs
 i71:X.s₀.heap.FunFrames X.base X.outer
 frf:∀ b∈X.fs,X.H₀ b=none
structure Inv(X:Cx)(pins:List (Addr × Obj))(σ:List (Option V))(H:Hp)(s:Shared):Prop where
 ok:X.Ok
 os:s.os=X.s₀.os
 bare:AllBare s.gens
 base:Un X.fs X.ex X.H₀ H X.s₀.heap s.heap
 loc:∃ m,s.heap.Ns X.env.locals m/\∀ (i:Nat) (x:Str) (v:V),X.N[i]?=some x->σ[i]?=some (some v)->Vis X.env.scope x->∃ u,RelV v u/\Look X.env s.heap m x u
 cell:∀ x c,X.env.cells.lookup x=some c->∃ v,s.heap.IsCell c v
 free:H X.env.locals=none
 freeC:∀ x c,X.env.cells.lookup x=some c->H c=none
 pin:∀ p∈X.pn++pins,s.heap.get? p.1=some p.2/\H p.1=none/\p.1≠X.env.locals/\p.1 ∉ X.fs/\∀ v,p.2.data≠.cell v
 hok:HOk X.prog X.w H s.heap
 len:σ.length=X.N.length
section
variable {X:Cx}{pins:List (Ç × Obj)}{σ:List (Option V)}{H H':Hp}{s:Æ}{h':ë}
theorem Cx.Ok.O52(ok:X.Ok){b:Ç}{o:Obj}(e:X.base.get? b=some o):b ∉ X.fs:=λhb=>by
 have:=(ok.i71.mem hb).1;rw[e] at this;cases this
theorem Inv.bs(I:Inv X pins σ H s):∀ b o,X.base.get? b=some o->s.heap.get? b=some o/\H b=none:=λb o e =>
 ⟨I.base.keep b o (I.ok.bs b o e).1 (I.ok.bs b o e).2 (I.ok.O52 e) (I.ok.noex b o e),I.base.free b o (I.ok.bs b o e).1 (I.ok.bs b o e).2 (I.ok.noex b o e)⟩
theorem Inv.bk(I:Inv X pins σ H s):∀ b o,X.base.get? b=some o->s.heap.get? b=some o:=λb o e=>(I.bs b o e).1
theorem Inv.mod(I:Inv X pins σ H s):Mod X.K X.mg X.base:=I.ok.mod
theorem Inv.kIn(I:Inv X pins σ H s):X.K.In s.heap:=I.ok.mod.kin.keeps I.bk
theorem Inv.lt(I:Inv X pins σ H s):X.env.locals < s.heap.objs.size:=let ⟨_,hn,_⟩:=I.loc;hn.lt
theorem Inv.sz(I:Inv X pins σ H s):X.s₀.heap.objs.size<=s.heap.objs.size:=Þ I.ok.above (É2 I.lt)
theorem Inv.O62(I:Inv X pins σ H s){a:Ç}(h:s.heap.objs.size<=a):a ∉ X.fs:=λhb=>by
 obtain⟨_,o,ho,_⟩:=I.ok.i71.mem hb;exact absurd (Õ (á ho) (Þ I.sz h)) (À7 _)
theorem Inv.cne(I:Inv X pins σ H s):∀ x c,X.env.cells.lookup x=some c->c≠X.env.locals:=λx c e z=>by
 obtain⟨v,o,ho,hd⟩:=I.cell x c e;obtain⟨m,⟨o',es,ep,ho',hd',_⟩,_⟩:=I.loc;rw[z,ho'] at ho;cases ho;rw[hd'] at hd;cases hd
theorem Inv.i71(I:Inv X pins σ H s):s.heap.FunFrames X.base X.outer:=by
 have all:∀ (l:List Env),(∀ b∈frs l,b∈X.fs)->X.s₀.heap.FunFrames X.base l->s.heap.FunFrames X.base l:=by
  intro l
  induction l with
  |nil=>intro _ _;trivial
  |cons env r ih =>
   intro hs hl;obtain⟨hk,⟨L,o,hf,hn,ho,hd⟩,hr⟩:=hl;have hL:L∈X.fs:=hs L (by unfold frs;rw[Á5,hf];exact Ì)
   obtain⟨sl,e⟩:=I.base.slot L o ho (I.ok.frf L hL) hL λz=>I.ok.exfs L z hL;exact⟨hk,⟨L,_,hf,hn,e,hd⟩,ih (λb hb=>hs b (by unfold frs;rw[Á5,hf];exact Ê _ hb)) hr⟩
 exact all X.outer (λ_ hb=>hb) I.ok.i71
theorem Inv.stack(I:Inv X pins σ H s):s.heap.FunFrames X.base X.stack:=by
 rcases I.ok.stk with e | ⟨e,hf⟩
 ·rw[e];exact I.i71
 ·rw[e];obtain⟨m,hn,_⟩:=I.loc;refine .cons (by rw[I.ok.kind];decide) hf hn ?_ I.i71
  exact ë.get?_none_of_le (Þ I.ok.bsz I.ok.above)
theorem Inv.n51(I:Inv X pins σ H s):∀ b∈frs X.stack,b∈X.env.locals::X.fs:=λb hb=>by
 rcases I.ok.stk with e | ⟨e,hf⟩
 ·rw[e] at hb;exact Ê _ hb
 ·rw[e] at hb;unfold frs at hb;rw[Á5,hf] at hb;exact hb
theorem Inv.v40(I:Inv X pins σ H s):∀ b∈frs X.stack,H b=none:=λb hb=>by
 rcases ó.mp (I.n51 b hb) with e | hb
 ·rw[e];exact I.free
 ·obtain⟨_,o,ho,_⟩:=I.ok.i71.mem hb;exact I.base.free b o ho (I.ok.frf b hb) λz=>I.ok.exfs b z hb
theorem Inv.step{g':Array Ý2}{t':Nat}{d':Drawn}{ch:List Ç}(I:Inv X pins σ H s)
  (hch:∀ b∈ch,(b∈X.ex∨X.s₀.heap.objs.size<=b)/\b≠X.env.locals/\(∀ x c,X.env.cells.lookup x=some c->c≠b)/\∀ p∈X.pn++pins,p.1≠b)
  (keep:∀ b o,b≠X.env.locals->b ∉ X.fs->b ∉ ch->s.heap.get? b=some o->H b=none->h'.get? b=some o)
  (slot:∀ b o,b≠X.env.locals->b∈X.fs->b ∉ ch->s.heap.get? b=some o->H b=none->∃ sl,h'.get? b=some { o with slots:=sl }) (free:∀ b o,b ∉ ch->s.heap.get? b=some o->H b=none->H' b=none)
  (there:∀ b o,b ∉ ch->s.heap.get? b=some o->∃ o',h'.get? b=some o')
  (tups:∀ b xs,H b=some (.tup xs)->H' b=some (.tup xs)) (frzs:∀ b o u,H b=some (.frz o u)->H' b=some (.frz o u)) (tbls:∀ b ps,H b=some (.tbl ps)->∃ more,H' b=some (.tbl (ps++more)))
  (ns:∀ m,s.heap.Ns X.env.locals m->h'.Ns X.env.locals m) (hok:HOk X.prog X.w H' h') (hg:Ó5 g') :
  Inv X pins σ H' { s with heap:=h',gens:=g',drawn:=d',toks:=t' }:=by
 have neL:∀ b o,X.s₀.heap.get? b=some o->b≠X.env.locals:=λb o e=>Ü (Õ (á e) I.ok.above);have neC:∀ b o,X.s₀.heap.get? b=some o->b ∉ X.ex->b ∉ ch:=λb o e hx hb=>by
  rcases (hch b hb).1 with z | z
  ·exact hx z
  ·exact absurd (Õ (á e) z) (À7 _)
 have cellK:∀ x c,X.env.cells.lookup x=some c->∀ v,s.heap.IsCell c v->h'.IsCell c v:=λx c e v ⟨o,ho,hd⟩=>by
  have nch:c ∉ ch:=λz=>(hch c z).2.2.1 x c e rfl;by_cases hc:c∈X.fs
  ·obtain⟨sl,q⟩:=slot c o (I.cne x c e) hc nch ho (I.freeC x c e);exact⟨_,q,hd⟩
  ·exact⟨o,keep c o (I.cne x c e) hc nch ho (I.freeC x c e),hd⟩
 refine⟨I.ok,I.os,hg,⟨λb o e n hb hx=>?_,λb o e n hb hx=>?_,λb o e n hx=>?_,λb o e hx=>?_,λb xs e=>tups b xs (I.base.tups b xs e),λb o xs e=>frzs b o xs (I.base.frzs b o xs e),λb ps e=>?_⟩,?_,λx c e=>?_,?_,λx c e=>?_,λp hp=>?_,hok,I.len⟩
 ·exact keep b o (neL b o e) hb (neC b o e hx) (I.base.keep b o e n hb hx) (I.base.free b o e n hx)
 ·obtain⟨sl,e1⟩:=I.base.slot b o e n hb hx;obtain⟨sl',e2⟩:=slot b _ (neL b o e) hb (neC b o e hx) e1 (I.base.free b o e n hx);exact⟨sl',e2⟩
 ·obtain⟨o',e1⟩:=I.base.there b o e hx;exact free b o' (neC b o e hx) e1 (I.base.free b o e n hx)
 ·obtain⟨o',e1⟩:=I.base.there b o e hx;exact there b o' (neC b o e hx) e1
 ·obtain⟨m1,e1⟩:=I.base.tbls b ps e;obtain⟨m2,e2⟩:=tbls b _ e1;exact⟨m1++m2,by rw[e2,Array.append_assoc]⟩
 ·obtain⟨m,hn,hl⟩:=I.loc;refine⟨m,ns m hn,λi x v e1 e2 e3=>?_⟩;obtain⟨u,r,l⟩:=hl i x v e1 e2 e3;refine⟨u,r,?_⟩;rcases l with l | ⟨k,c,e,z⟩
  ·exact .inl l
  ·exact .inr ⟨k,c,e,cellK x c e _ z⟩
 ·obtain⟨v,z⟩:=I.cell x c e;exact⟨v,cellK x c e v z⟩
 ·obtain⟨m,⟨o,_,_,ho,_⟩,_⟩:=I.loc;exact free _ o (λz=>(hch _ z).2.1 rfl) ho I.free
 ·obtain⟨v,o,ho,hd⟩:=I.cell x c e;exact free c o (λz=>(hch c z).2.2.1 x c e rfl) ho (I.freeC x c e)
 ·obtain⟨e,n,ne,nf,d⟩:=I.pin p hp;have nch:p.1 ∉ ch:=λz=>(hch p.1 z).2.2.2 p hp rfl;exact⟨keep p.1 p.2 ne nf nch e n,free p.1 p.2 nch e n,ne,nf,d⟩
theorem Inv.un{t':Nat}(I:Inv X pins σ H s)(u:Un X.fs [] H H' s.heap h')(hok:HOk X.prog X.w H' h'):Inv X pins σ H' { s with heap:=h',toks:=t' }:=by
 obtain⟨m,⟨o,es,ep,ho,r⟩,_⟩:=id I.loc;obtain⟨sl,hL⟩:=u.any ho I.free (by simp)
 exact I.step (g':=s.gens) (d':=s.drawn) (ch:=[]) (λ_ z=>nomatch z) (λb o _ hb _ e n=>u.keep b o e n hb (by simp)) (λb o _ hb _ e n=>u.slot b o e n hb (by simp)) (λb o _ e n=>u.free b o e n (by simp)) (λb o _ e=>u.there b o e (by simp)) u.tups u.frzs u.tbls (λm' hm=>by
  obtain⟨o',es',ep',ho',r'⟩:=hm;rw[ho] at ho';cases ho';exact⟨_,es',ep',hL,r'⟩) hok I.bare
theorem Inv.call{g':Array Ý2}{t':Nat}{d':Drawn}{ch:List Ç}(I:Inv X pins σ H s)(u:Un (frs X.stack) ch H H' s.heap h')(hok:HOk X.prog X.w H' h')(hg:Ó5 g')
  (hch:∀ b∈ch,(b∈X.ex∨X.s₀.heap.objs.size<=b)/\b≠X.env.locals/\(∀ x c,X.env.cells.lookup x=some c->c≠b)/\∀ p∈X.pn++pins,p.1≠b) :
  Inv X pins σ H' { s with heap:=h',gens:=g',drawn:=d',toks:=t' }:=by
 obtain⟨m,⟨o,es,ep,ho,r⟩,_⟩:=id I.loc;obtain⟨sl,hL⟩:=u.any ho I.free λz=>(hch _ z).2.1 rfl;exact I.step (ch:=ch) hch (λb o hL hb hc e n=>u.keep b o e n (λz=>(ó.mp (I.n51 b z)).elim hL hb) hc) (λb o _ _ hc e n=>u.any e n hc) (λb o hc e n=>u.free b o e n hc) (λb o hc e=>u.there b o e hc) u.tups u.frzs u.tbls (λm' hm=>by
  obtain⟨o',es',ep',ho',r'⟩:=hm;rw[ho] at ho';cases ho';exact⟨_,es',ep',hL,r'⟩) hok hg
theorem Inv.turned{t':Nat}{it:Ç}(I:Inv X pins σ H s)(k:∀ b o,b≠it->s.heap.get? b=some o->h'.get? b=some o)(hn:H it=none)(hL:it≠X.env.locals)
  (h1:it∈X.ex∨X.s₀.heap.objs.size<=it) (h2:∀ x c,X.env.cells.lookup x=some c->c≠it) (h3:∀ p∈X.pn++pins,p.1≠it):Inv X pins σ H { s with heap:=h',toks:=t' }:=by
 have nit:∀ b u,H b=some u->b≠it:=λb u e z=>by rw[z,hn] at e;cases e
 refine I.step (g':=s.gens) (d':=s.drawn) (ch:=[it]) (λb hb=>?_) (λb o _ _ hc e _=>k b o (λz=>hc (by simp[z])) e) (λb o _ _ hc e _=>⟨o.slots,k b o (λz=>hc (by simp[z])) e⟩) (λ_ _ _ _ n=>n)
  (λb o hc e=>⟨o,k b o (λz=>hc (by simp[z])) e⟩) (λ_ _ e=>e) (λ_ _ _ e=>e) (λb ps e=>⟨#[],by rw[e];simp⟩) (λm hm=>?_) (λb u e=>?_) I.bare
 ·have e:b=it:=by simpa using hb
  subst e;exact⟨h1,hL,h2,h3⟩
 ·obtain⟨o,es,ep,ho,r⟩:=hm;exact⟨o,es,ep,k _ o (Á6 hL) ho,r⟩
 ·refine(I.hok b u e).i61 (λc v hc q=>k c v ?_ q) (λ_ q=>q) λ_ _ q=>q;rcases hc with z | z
  ·rw[z];exact nit b u e
  ·exact nit c _ z
theorem Inv.tok(I:Inv X pins σ H s)(t:Nat):Inv X pins σ H { s with toks:=t }:=I.un (h':=s.heap) (t':=t) Un.refl I.hok
theorem Inv.kept{t':Nat}(I:Inv X pins σ H s)(k:∀ b u,s.heap.get? b=some u->h'.get? b=some u):Inv X pins σ H { s with heap:=h',toks:=t' }:=I.un (Un.kept k) (I.hok.kept k)
theorem Inv.laid{a:Ç}{o:HO}{t':Nat}(I:Inv X pins σ H s)(k:∀ b u,s.heap.get? b=some u->h'.get? b=some u)(hp:s.heap.objs.size<=a)(new:h20 X.prog X.w (upd H a o) h' a o) :
  Inv X pins σ (upd H a o) { s with heap:=h',toks:=t' }:=I.un (Un.laid k hp (I.hok.fresh hp)) (I.hok.laid k hp new)
theorem Inv.write{x e:Ç}{o:HO}{t':Nat}(I:Inv X pins σ H s)(mu:Mut (H x))(he:e=x∨H e=some (.own x))(k:∀ b u,b≠e->s.heap.get? b=some u->h'.get? b=some u)(heo:∃ u,h'.get? e=some u)
  (new:h20 X.prog X.w (upd H x o) h' x o):Inv X pins σ (upd H x o) { s with heap:=h',toks:=t' }:=I.un (Un.write mu he k heo) (I.hok.write mu he k heo new)
theorem Inv.A40{pins':List (Ç × Obj)}(I:Inv X pins σ H s)(h:∀ p∈pins',s.heap.get? p.1=some p.2/\H p.1=none/\p.1≠X.env.locals/\p.1 ∉ X.fs/\∀ v,p.2.data≠.cell v):Inv X pins' σ H s :=
 ⟨I.ok,I.os,I.bare,I.base,I.loc,I.cell,I.free,I.freeC,λp hp=>(Â7.mp hp).elim (λz=>I.pin p (Æ2 _ z)) (h p),I.hok,I.len⟩
theorem b91{N:List Str}(hN:N.Nodup){i j:Nat}{x:Str}(a:N[i]?=some x)(b:N[j]?=some x):i=j:=by
 obtain⟨h1,e1⟩:=ß.mp a;obtain⟨h2,e2⟩:=ß.mp b;exact(List.getElem_inj hN).mp (e1.trans e2.symm)
theorem A50{M:Model}{A:ö}{E:Ä->Æ->Prop}{i:Nat}{x:Str}{v:V}{u:Ä}{Q:Unit->Æ->Prop}(I:Inv X pins σ H s)(hN:X.N.Nodup)(hi:X.N[i]?=some x)(hx:Loc X.env.scope x)(r:RelV v u)
  (h:∀ s',Inv X pins (σ.set i (some v)) H s'->(∃ a,Ì2 a s.heap s'.heap/\(a=X.env.locals∨X.env.cells.lookup x=some a))->Q () s') (hf:X.fn x=true∨X.env.scope.names.lookup x=some .local:=by first | exact .inl rfl | exact .inr rfl | assumption):Ñ M A (storeName X.env x u) Q E s:=by
 obtain⟨m,hn,hl⟩:=id I.loc;have hcls:(X.env.scope.kind == .class || (X.env.scope.kind == .module&&X.env.locals != X.env.globals))=false:=by rw[I.ok.kind];rfl
 have hiσ:i < σ.length:=by rw[I.len];exact(ß.mp hi).1
 have cne:=I.cne;have tracked:∀ {a:Ç}{h':ë},(∃ o,s.heap.get? a=some o/\H a=none)->Ì2 a s.heap h'->HOk X.prog X.w H h':=λ{a h'} ha hs b ob e=>by
  obtain⟨_,_,hfree⟩:=ha;refine(I.hok b ob e).i61 (λc w' hc q=>(hs.2 c ?_).trans q) (λ_ q=>q) λ_ _ q=>q;rintro rfl;rcases hc with rfl | hc
  ·rw[hfree] at e;cases e
  ·rw[hfree] at hc;cases hc
 rcases hx with hk | hk
 ·refine wpAny_storeName_local hk hn (λh' hn' hs=>?_) hcls;obtain⟨oL,_,_,hoL,_⟩:=id hn;refine h _ ⟨I.ok,I.os,I.bare,⟨λb o e n hb hx=>?_,λb o e n hb hx=>?_,I.base.free,λb o e hx=>?_,I.base.tups,I.base.frzs,I.base.tbls⟩,⟨_,hn',λj y v' e1 e2 e3=>?_⟩,λy c e=>?_,I.free,I.freeC,λp hp=>?_,tracked ⟨oL,hoL,I.free⟩ hs,by simpa using I.len⟩ ⟨_,hs,.inl rfl⟩
  ·exact(hs.2 b (Ü (Õ (á e) I.ok.above))).trans (I.base.keep b o e n hb hx)
  ·obtain⟨sl,e1⟩:=I.base.slot b o e n hb hx;exact⟨sl,(hs.2 b (Ü (Õ (á e) I.ok.above))).trans e1⟩
  ·obtain⟨o',e1⟩:=I.base.there b o e hx;exact⟨o',(hs.2 b (Ü (Õ (á e) I.ok.above))).trans e1⟩
  ·by_cases hj:j=i
   ·subst hj;rw[hi] at e1;cases e1;rw[ì hiσ] at e2;cases e2;exact⟨u,r,.inl ⟨hk,by simp⟩⟩
   ·rw[ä (Á6 hj)] at e2;obtain⟨u',r',q⟩:=hl j y v' e1 e2 e3;refine⟨u',r',?_⟩;rcases q with ⟨k,e⟩ | ⟨k,c,e,z⟩
    ·refine .inl ⟨k,?_⟩;have:y≠x:=λe=>hj (b91 hN e1 (e ▸ hi));simp[this,e]
    ·exact .inr ⟨k,c,e,z.sameBut hs (cne y c e)⟩
  ·obtain⟨w',z⟩:=I.cell y c e;exact⟨w',z.sameBut hs (cne y c e)⟩
  ·obtain⟨e,n,ne,nf,d⟩:=I.pin p hp;exact⟨(hs.2 p.1 ne).trans e,n,ne,nf,d⟩
 ·have hfn:X.fn x=true:=by
   rcases hf with z | z
   ·exact z
   ·rw[z] at hk;cases hk
  obtain⟨c,hc⟩:=I.ok.has x (.inl hk);obtain⟨w',z⟩:=I.cell x c hc;refine wpAny_storeName_cell I.ok.kind hk hc z (λh' hc' hs=>?_);obtain⟨oc,hoc,hocd⟩:=id z;refine h { s with heap:=h' } ⟨I.ok,I.os,I.bare,⟨λb o e n hb hx=>?_,λb o e n hb hx=>?_,I.base.free,λb o e hx=>?_,I.base.tups,I.base.frzs,I.base.tbls⟩,⟨m,hn.sameBut hs (Á6 (cne x c hc)),λj y v' e1 e2 e3=>?_⟩,λy c' e=>?_,I.free,I.freeC,λp hp=>?_,tracked ⟨oc,hoc,I.freeC x c hc⟩ hs,by simpa using I.len⟩ ⟨c,hs,.inr hc⟩
  ·exact(hs.2 b (Ü (Õ (á e) (I.ok.cab x c hfn hc)))).trans (I.base.keep b o e n hb hx)
  ·obtain⟨sl,e1⟩:=I.base.slot b o e n hb hx;exact⟨sl,(hs.2 b (Ü (Õ (á e) (I.ok.cab x c hfn hc)))).trans e1⟩
  ·obtain⟨o',e1⟩:=I.base.there b o e hx;exact⟨o',(hs.2 b (Ü (Õ (á e) (I.ok.cab x c hfn hc)))).trans e1⟩
  ·by_cases hj:j=i
   ·subst hj;rw[hi] at e1;cases e1;rw[ì hiσ] at e2;cases e2;exact⟨u,r,.inr ⟨.inl hk,c,hc,hc'⟩⟩
   ·rw[ä (Á6 hj)] at e2;obtain⟨u',r',q⟩:=hl j y v' e1 e2 e3;refine⟨u',r',?_⟩;rcases q with q | ⟨k,c',e,z'⟩
    ·exact .inl q
    ·refine .inr ⟨k,c',e,z'.sameBut hs ?_⟩;rintro rfl;exact hj (b91 hN e1 (I.ok.inj _ _ _ e hc ▸ hi))
  ·by_cases hcc:c'=c
   ·subst hcc;exact⟨_,hc'⟩
   ·obtain⟨w2,z2⟩:=I.cell y c' e;exact⟨w2,z2.sameBut hs hcc⟩
  ·obtain⟨e,n,ne,nf,d⟩:=I.pin p hp;refine⟨(hs.2 p.1 ?_).trans e,n,ne,nf,d⟩;intro q;rw[q,hoc] at e;have q':oc=p.2:=û e;exact d w' (by rw[← q'];exact hocd)
theorem t00{M:Model}{A:ö}{E:Ä->Æ->Prop}{i:Nat}{x:Str}{v:V}{u:Ä}{Q:Unit->Æ->Prop}(I:Inv X pins σ H s)(hN:X.N.Nodup)(hi:X.N[i]?=some x)(hx:Loc X.env.scope x)(r:RelV v u)
  (h:∀ s',Inv X pins (σ.set i (some v)) H s'->Q () s') (hf:X.fn x=true∨X.env.scope.names.lookup x=some .local:=by first | exact .inl rfl | exact .inr rfl | assumption):Ñ M A (storeName X.env x u) Q E s :=
 A50 I hN hi hx r (λs' I' _=>h s' I') hf
theorem Inv.j02{s':Æ}{ch:List Ç}(I:Inv X pins σ H s)(ho:s'.os=s.os)(u:Un (frs X.stack) ch H H' s.heap s'.heap)(hok:HOk X.prog X.w H' s'.heap)(hg:Ó5 s'.gens)
  (hch:∀ b∈ch,(b∈X.ex∨X.s₀.heap.objs.size<=b)/\b≠X.env.locals/\(∀ x c,X.env.cells.lookup x=some c->c≠b)/\∀ p∈X.pn++pins,p.1≠b):Inv X pins σ H' s':=by
 obtain⟨h',g',d',t',o'⟩:=s';have e:o'=s.os:=ho;subst e;exact I.call (g':=g') (t':=t') (d':=d') u hok hg hch
end
abbrev XK:=Ä->Option Ç->Hp->Prop
abbrev St:=List (Option V)
abbrev VK:=V->Hp->Prop
abbrev TE:=St->Hp->VK->Prop
abbrev TT:=St->Hp->(Bool->Hp->Prop)->Prop
abbrev TA:=St->Hp->(List V->Hp->Prop)->Prop
structure Ends where
 nx:St->Hp->Prop
 rt:VK
 bk:St->Hp->Prop:=λ_ _=>False
 ct:St->Hp->Prop:=λ_ _=>False
abbrev TS:=Ends->St->Hp->Prop
def EP(X:Cx)(pins:List (Ç × Obj))(σ:St)(Q:VK)(u:Ä)(s':Æ):Prop:=∃ v H',Inv X pins σ H' s'/\RelV v u/\Q v H'
def TP(X:Cx)(pins:List (Ç × Obj))(σ:St)(Q:Bool->Hp->Prop)(b:Bool)(s':Æ):Prop:=∃ H',Inv X pins σ H' s'/\Q b H'
def AP(X:Cx)(pins:List (Ç × Obj))(σ:St)(Q:List V->Hp->Prop)(us:List Ä)(s':Æ):Prop:=∃ vs H',Inv X pins σ H' s'/\Vals vs us/\Q vs H'
def SP(X:Cx)(pins:List (Ç × Obj))(D:Ends)(f:Flow)(s':Æ):Prop :=
 match f with
 |.next=>∃ σ' H',Inv X pins σ' H' s'/\D.nx σ' H'
 |.brk=>∃ σ' H',Inv X pins σ' H' s'/\D.bk σ' H'|.cont=>∃ σ' H',Inv X pins σ' H' s'/\D.ct σ' H'|.ret u=>∃ v σ' H',Inv X pins σ' H' s'/\RelV v u/\D.rt v H'
def PE(X:Cx)(e:Ð)(t:TE):Prop :=
 ∀ (pins:List (Ç × Obj)) (s:Æ) (σ:St) (H:Hp) (Q:VK),Inv X pins σ H s->t σ H Q->Ñ (Ö X.prog X.w) X.A (eval e X.env) (EP X pins σ Q) X.xe s
def PT(X:Cx)(e:Ð)(t:TT):Prop :=
 ∀ (pins:List (Ç × Obj)) (s:Æ) (σ:St) (H:Hp) (Q:Bool->Hp->Prop),Inv X pins σ H s->t σ H Q->Ñ (Ö X.prog X.w) X.A (isTrue e X.env (eval e X.env)) (TP X pins σ Q) X.xe s
def PW(X:Cx)(e:Ð)(t:TT):Prop :=
 ∀ (whole:Sem Ä) (pins:List (Ç × Obj)) (s:Æ) (σ:St) (H:Hp) (Q:Bool->Hp->Prop),Inv X pins σ H s->t σ H Q->Ñ (Ö X.prog X.w) X.A (isTrue e X.env whole) (TP X pins σ Q) X.xe s
theorem PW.pt{X:Cx}{e:Ð}{t:TT}(h:PW X e t):PT X e t:=h _
def PA(X:Cx)(es:List Ð)(t:TA):Prop :=
 ∀ (pos:Pos) (pins:List (Ç × Obj)) (s:Æ) (σ:St) (H:Hp) (Q:List V->Hp->Prop),Inv X pins σ H s->t σ H Q->Ñ (Ö X.prog X.w) X.A (spliced (Õ2 pos (À0 es X.env))) (AP X pins σ Q) X.xe s
def PS(X:Cx)(st:Â3)(t:TS):Prop :=
 ∀ (pins:List (Ç × Obj)) (s:Æ) (σ:St) (H:Hp) (D:Ends),Inv X pins σ H s->t D σ H->Ñ (Ö X.prog X.w) X.A (exec st X.env) (SP X pins D) X.xe s
def PSs(X:Cx)(st:List Â3)(t:TS):Prop :=
 ∀ (pins:List (Ç × Obj)) (s:Æ) (σ:St) (H:Hp) (D:Ends),Inv X pins σ H s->t D σ H->Ñ (Ö X.prog X.w) X.A (execs st X.env) (SP X pins D) X.xe s
theorem thn{α:Type}{t:Sem α}{Q Q':α->Æ->Prop}{M:Model}{A:ö}{E:Ä->Æ->Prop}{s:Æ}(h:Ñ M A t Q E s)(hQ:∀ a s,Q a s->Q' a s):Ñ M A t Q' E s:=Â2 h hQ λ_ _ x=>x
section
variable {X:Cx}
def h52(i:Nat):TE:=λσ H Q=>∃ v,σ[i]?=some (some v)/\Q v H
def tC(v:V):TE:=λ_ H Q=>Q v H
theorem h00{i:Nat}{x:Str}{pos:Pos}(hN:X.N[i]?=some x)(hv:Vis X.env.scope x)(hd:(x == ("__debug__":Str))=false:=by decide)(hcd:(x == ("__classdict__":Str))=false:=by decide):PE X (.Name x pos) (h52 i):=by
 intro pins s σ H Q I h;obtain⟨v,e,h⟩:=h;obtain⟨m,hn,hl⟩:=I.loc;obtain⟨u,r,l⟩:=hl i x v hN e hv;have fin:EP X pins σ Q u s:=⟨v,H,I,r,h⟩;rcases l with ⟨hk,hm⟩ | ⟨hk,c,hc,hcell⟩
 ·exact Ñ7 (Î5 I.ok.kind hk hn hm fin) hd
 ·rcases hk with hk | hk
  ·exact Ñ7 (Ù8 I.ok.kind hk hc hcell fin) hd
  ·exact Ñ7 (wpAny_loadName_free I.ok.kind hk hc hcell fin hcd) hd
theorem O40{i j pos}:PE X (.Constant (.int i) j pos) (tC (.int i)):=λ_ _ _ H _ I h=>wpAny_Constant_int ⟨.int i,H,I.tok _,⟨_,rfl⟩,h⟩
theorem A12{b j pos}:PE X (.Constant (.bool b) j pos) (tC (.bl b)):=λ_ _ _ H _ I h=>Constant_bool ⟨.bl b,H,I,rfl,h⟩
theorem n61{j pos}:PE X (.Constant .none j pos) (tC .non):=λ_ _ _ H _ I h=>Constant_none ⟨.non,H,I,rfl,h⟩
theorem P91{x j pos}:PE X (.Constant (.str x) j pos) (tC (.str x)):=λ_ _ _ H _ I h=>Calls.Constant_str ⟨.str x,H,I.tok _,⟨_,rfl⟩,h⟩
def Gl(X:Cx)(x:Str):Prop:=X.env.kindOf x=some .globalImplicit
theorem A60{E:Ä->Æ->Prop}{pins:List (Ç × Obj)}{s:Æ}{σ:St}{H:Hp}{x:Str}{u:Ä}{pos:Pos}{Q:Ä->Æ->Prop}(I:Inv X pins σ H s)(hg:Gl X x)(hm:X.mg x=some u)(h:Q u s)
  (hd:(x == ("__debug__":Str))=false:=by decide):Ñ (Ö X.prog X.w) X.A (eval (.Name x pos) X.env) Q E s :=
 Ï3 I.ok.kind hg (ß2 (by rw[I.ok.glob];exact I.mod.glob.keeps I.bk) hm h) hd
theorem t10{E:Ä->Æ->Prop}{pins:List (Ç × Obj)}{s:Æ}{σ:St}{H:Hp}{x:Str}{u:Ä}{pos:Pos}{Q:Ä->Æ->Prop}(I:Inv X pins σ H s)(hg:Gl X x)(hm:X.mg x=none)(hv:ñ x=some u)(h:Q u s)
  (hn:x≠"__name__":=by decide) (hd:(x == ("__debug__":Str))=false:=by decide):Ñ (Ö X.prog X.w) X.A (eval (.Name x pos) X.env) Q E s:=by
 obtain⟨mb,h1,h2⟩:=I.mod.blt;exact Ï3 I.ok.kind hg (Calls.loadGlobal_builtin (by rw[I.ok.glob];exact I.mod.glob.keeps I.bk) hm (by rw[I.ok.blt];exact h1.keeps I.bk) ((h2 x hn).trans hv) h) hd
theorem g20{x:Str}{v:V}{u:Ä}{pos:Pos}(hg:Gl X x)(hm:X.mg x=some u)(r:RelV v u)(hd:(x == ("__debug__":Str))=false:=by decide):PE X (.Name x pos) (tC v) :=
 λ_ _ _ H _ I h=>A60 I hg hm ⟨v,H,I,r,h⟩ hd
theorem I40{x:Str}{v:V}{u:Ä}{pos:Pos}(hg:Gl X x)(hm:X.mg x=none)(hv:ñ x=some u)(r:RelV v u)(hn:x≠"__name__":=by decide)(hd:(x == ("__debug__":Str))=false:=by decide):PE X (.Name x pos) (tC v) :=
 λ_ _ _ H _ I h=>t10 I hg hm hv ⟨v,H,I,r,h⟩ hn hd
variable {a b:Ð}{ta tb:TE}{pos:Pos}
def tB(t:TE):TT:=λσ H Q=>t σ H λx H1=>∃ c,x=.bl c/\Q c H1
theorem c01{e:Ð}{t:TE}(h:PE X e t)(he:∀ whole,isTrue e X.env whole=(do let v ← whole;standAt e.pos;Ù2 [v] (truthy v)):=by intro _;rfl):PT X e (tB t):=by
 intro pins s σ H Q I hw;refine isTrue_plain (thn (h pins s σ H _ I hw) λv s1 ⟨x,H1,I1,r1,q1⟩=>?_) (he _);obtain⟨d,rfl,q⟩:=q1;cases r1;exact Â6 ⟨H1,I1,q⟩
variable {tA tB':TT}{rest:List Ð}
def O72(t u:TT):TT:=λσ H Q=>t σ H λc H1=>if c=true then u σ H1 Q else Q false H1
def tOr(t u:TT):TT:=λσ H Q=>t σ H λc H1=>if c=true then Q true H1 else u σ H1 Q
def O82(t:TT):TT:=λσ H Q=>t σ H λc H1=>Q (!c) H1
theorem n71(ha:PT X a tA):PW X (.BoolOp .And [a] pos) tA:=by
 intro wh pins s σ H Q I h;refine isTrue_and (thn (ha pins s σ H Q I h) λc s1 e=>?_);cases c with
 |true=>exact isTrue_and_nil e|false=>exact e
theorem j12(ha:PT X a tA):PW X (.BoolOp .Or [a] pos) tA:=by
 intro wh pins s σ H Q I h;refine isTrue_or (thn (ha pins s σ H Q I h) λc s1 e=>?_);cases c with
 |false=>exact isTrue_or_nil e|true=>exact e
theorem Q01(ha:PT X a tA)(hb:PW X (.BoolOp .And (b::rest) pos) tB'):PW X (.BoolOp .And (a::b::rest) pos) (O72 tA tB'):=by
 intro wh pins s σ H Q I h;refine isTrue_and (thn (ha pins s σ H _ I h) λc s1 ⟨H1,I1,q1⟩=>?_);cases c with
 |true=>exact hb wh pins s1 σ H1 Q I1 q1|false=>exact⟨H1,I1,q1⟩
theorem A22(ha:PT X a tA)(hb:PW X (.BoolOp .Or (b::rest) pos) tB'):PW X (.BoolOp .Or (a::b::rest) pos) (tOr tA tB'):=by
 intro wh pins s σ H Q I h;refine isTrue_or (thn (ha pins s σ H _ I h) λc s1 ⟨H1,I1,q1⟩=>?_);cases c with
 |true=>exact⟨H1,I1,q1⟩|false=>exact hb wh pins s1 σ H1 Q I1 q1
theorem Q11(ha:PT X a tA):PT X (.UnaryOp .Not a pos) (O82 tA):=by
 intro pins s σ H Q I h;exact isTrue_not (ha pins s σ H (λc H1=>Q (!c) H1) I h)
def A32(ta tb:TE):TE:=λσ H Q=>ta σ H λx H1=>∃ c,x=.bl c/\if c=true then tb σ H1 Q else Q (.bl false) H1
def O92(ta tb:TE):TE:=λσ H Q=>ta σ H λx H1=>∃ c,x=.bl c/\if c=true then Q (.bl true) H1 else tb σ H1 Q
def A42(ta:TE):TE:=λσ H Q=>ta σ H λx H1=>∃ c,x=.bl c/\Q (.bl (!c)) H1
theorem j22{op}{t:TE}(h:PE X a t):PE X (.BoolOp op [a] pos) t:=λpins s σ H Q I hw=>BoolOp_one (h pins s σ H Q I hw)
theorem j32(ha:PE X a ta)(hb:PE X (.BoolOp .And (b::rest) pos) tb):PE X (.BoolOp .And (a::b::rest) pos) (A32 ta tb):=by
 intro pins s σ H Q I h;refine BoolOp_and (thn (ha pins s σ H _ I h) λv s1 ⟨x,H1,I1,r1,q1⟩=>?_);obtain⟨c,rfl,q1⟩:=q1;cases r1;refine Â6 ?_;cases c with
 |true=>exact hb pins s1 σ H1 Q I1 q1|false=>exact⟨.bl false,H1,I1,rfl,q1⟩
theorem A52(ha:PE X a ta)(hb:PE X (.BoolOp .Or (b::rest) pos) tb):PE X (.BoolOp .Or (a::b::rest) pos) (O92 ta tb):=by
 intro pins s σ H Q I h;refine BoolOp_or (thn (ha pins s σ H _ I h) λv s1 ⟨x,H1,I1,r1,q1⟩=>?_);obtain⟨c,rfl,q1⟩:=q1;cases r1;refine Â6 ?_;cases c with
 |false=>exact hb pins s1 σ H1 Q I1 q1|true=>exact⟨.bl true,H1,I1,rfl,q1⟩
theorem j42(ha:PE X a ta):PE X (.UnaryOp .Not a pos) (A42 ta):=by
 intro pins s σ H Q I h;refine UnaryOp_ (thn (ha pins s σ H _ I h) λv s1 ⟨x,H1,I1,r1,q1⟩=>?_);obtain⟨c,rfl,q1⟩:=q1;cases r1;exact not_of (Â6 ⟨.bl (!c),H1,I1,rfl,q1⟩)
def tIf(t:TT)(ta tb:TE):TE:=λσ H Q=>t σ H λc H1=>if c=true then ta σ H1 Q else tb σ H1 Q
theorem E71{c:Ð}(hc:PT X c tA)(ha:PE X a ta)(hb:PE X b tb):PE X (.IfExp c a b pos) (tIf tA ta tb):=by
 intro pins s σ H Q I h;refine wpAny_IfExp (thn (hc pins s σ H _ I h) λd s1 ⟨H1,I1,q1⟩=>?_);cases d with
 |true=>exact ha pins s1 σ H1 Q I1 q1|false=>exact hb pins s1 σ H1 Q I1 q1
end
def SqL(K:Â)(H:Hp)(a:Ç)(xs:List V):Prop :=
 Rd H a (.lst xs) ∨
  ∃ (o:Obj) (its:Array Ä) (n:Nat),K.lookup a=some o/\o.cls=.type "list"/\o.dict=none/\o.data=.seq its n/\its.size<=Ý/\Vals xs its.toList
def SqT(K:Â)(H:Hp)(a:Ç)(xs:List V):Prop :=
 Rd H a (.tup xs) ∨
  ∃ (o:Obj) (its:Array Ä) (n:Nat),K.lookup a=some o/\o.cls=.type "tuple"/\o.data=.seq its n/\its.size<=Ý/\Vals xs its.toList
def P02:Ä->Option V
 |.none=>some .non|.bool b=>some (.bl b)|.int i _=>some (.int i)|.str x _=>some (.str x)|.bytes b _=>some (.byt b)|.float b _=>some (.flt b)|.ref a=>some (.ref a)|.type n=>some (.ty n)|_=>none
theorem RelV.abs{x:V}{u:Ä}(r:RelV x u):P02 u=some x:=by
 cases x with
 |non=>cases r;rfl
 |bl _=>cases r;rfl
 |int _=>obtain⟨t,rfl⟩:=r;rfl
 |str _=>obtain⟨t,rfl⟩:=r;rfl
 |byt _=>obtain⟨t,rfl⟩:=r;rfl
 |flt _=>obtain⟨t,rfl⟩:=r;rfl
 |ref _=>cases r;rfl
 |ty _=>cases r;rfl
theorem RelV.inj{x y:V}{u:Ä}(r:RelV x u)(q:RelV y u):x=y:=û (r.abs.symm.trans q.abs)
theorem Vals.inj:∀ {xs ys:List V}{us:List Ä},Vals xs us->Vals ys us->xs=ys
 |_,_,_,.nil,.nil=>rfl|_,_,_,.cons r t,.cons r' t'=>by rw[r.inj r',Vals.inj t t']
section
variable {X:Cx}{pins:List (Ç × Obj)}{σ:St}{H:Hp}{s:Æ}{a:Ç}{xs ys:List V}
theorem SqL.of{K:Â}(h:H a=some (.lst xs)):SqL K H a xs:=.inl (.inl h)
theorem SqT.of{K:Â}(h:H a=some (.tup xs)):SqT K H a xs:=.inl (.inl h)
theorem Inv.list(I:Inv X pins σ H s)(h:SqL X.K H a xs):∃ its:List Ä,Vals xs its/\PlainL s.heap a its.toArray/\xs.length<=sizeLine:=by
 rcases h with h | ⟨o,its,n,hk,hc,hd,hs,hz,r⟩
 ·obtain⟨z,its,n,r,e⟩:=h.ok I.hok;exact⟨its,r,⟨_,n,e,rfl,rfl,rfl⟩,z⟩
 ·refine⟨its.toList,r,⟨o,n,I.kIn a o hk,hc,hd,by simpa using hs⟩,?_⟩
  have e:=r.length;simp only[Ê8] at e;omega
theorem Inv.tuple(I:Inv X pins σ H s)(h:SqT X.K H a xs):∃ its:List Ä,Vals xs its/\Ï1 s.heap a its.toArray/\xs.length<=sizeLine:=by
 rcases h with h | ⟨o,its,n,hk,hc,hs,hz,r⟩
 ·obtain⟨z,its,r,p⟩:=h.ok I.hok;exact⟨its,r,p,z⟩
 ·refine⟨its.toList,r,⟨o,I.kIn a o hk,hc,n,by simpa using hs⟩,?_⟩
  have e:=r.length;simp only[Ê8] at e;omega
theorem Inv.c21(I:Inv X pins σ H s)(h:SqL X.K H a xs)(h':SqL X.K H a ys):xs=ys:=by
 obtain⟨its,r,⟨o,n,e,_,_,d⟩,_⟩:=I.list h;obtain⟨its',r',⟨o',n',e',_,_,d'⟩,_⟩:=I.list h';rw[e] at e';cases e';rw[d] at d';injection d' with d1 _;have:its=its':=by simpa using congrArg toList d1
 subst this;exact r.inj r'
theorem Inv.O50(I:Inv X pins σ H s)(h:SqT X.K H a xs)(h':SqT X.K H a ys):xs=ys:=by
 obtain⟨its,r,⟨o,e,_,n,d⟩,_⟩:=I.tuple h;obtain⟨its',r',⟨o',e',_,n',d'⟩,_⟩:=I.tuple h';rw[e] at e';cases e';rw[d] at d';injection d' with d1 _;have:its=its':=by simpa using congrArg toList d1
 subst this;exact r.inj r'
end
abbrev Cx.E21(X:Cx)(E:Ä->Æ->Prop):Cx:={ X with xe:=E }
abbrev Cx.nox(X:Cx):Cx:=X.E21 λ_ _=>False
theorem Cx.Ok.E21{X:Cx}(ok:X.Ok)(E:Ä->Æ->Prop):(X.E21 E).Ok :=
 ⟨ok.mod,ok.kind,ok.glob,ok.blt,ok.above,ok.inj,ok.has,ok.cab,ok.hd,ok.frames,ok.stk,ok.exf,ok.bs,ok.bsz,ok.noex,ok.exfs,ok.i71,ok.frf⟩
theorem Cx.Ok.x30{X:Cx}{E:Ä->Æ->Prop}(ok:(X.E21 E).Ok):X.Ok :=
 ⟨ok.mod,ok.kind,ok.glob,ok.blt,ok.above,ok.inj,ok.has,ok.cab,ok.hd,ok.frames,ok.stk,ok.exf,ok.bs,ok.bsz,ok.noex,ok.exfs,ok.i71,ok.frf⟩
section
variable {X:Cx}{pins:List (Ç × Obj)}{σ:St}{H:Hp}{s:Æ}{E:Ä->Æ->Prop}
theorem Inv.E21(I:Inv X pins σ H s)(E:Ä->Æ->Prop):Inv (X.E21 E) pins σ H s:=⟨I.ok.E21 E,I.os,I.bare,I.base,I.loc,I.cell,I.free,I.freeC,I.pin,I.hok,I.len⟩
theorem Inv.x30(I:Inv (X.E21 E) pins σ H s):Inv X pins σ H s:=⟨I.ok.x30,I.os,I.bare,I.base,I.loc,I.cell,I.free,I.freeC,I.pin,I.hok,I.len⟩
theorem SP.x30{D:Ends}{f:Flow}{s':Æ}(h:SP (X.E21 E) pins D f s'):SP X pins D f s':=by
 cases f with
 |next=>obtain⟨σ',H',I,q⟩:=h;exact⟨σ',H',I.x30,q⟩
 |brk=>obtain⟨σ',H',I,q⟩:=h;exact⟨σ',H',I.x30,q⟩
 |cont=>obtain⟨σ',H',I,q⟩:=h;exact⟨σ',H',I.x30,q⟩
 |ret u=>obtain⟨v,σ',H',I,r,q⟩:=h;exact⟨v,σ',H',I.x30,r,q⟩
theorem PSs.nox{st:List Â3}{t:TS}(h:PSs X.nox st t):PSs X st t:=λpins s σ H D I hw =>
 Â2 (h pins s σ H D (I.E21 _) hw) (λ_ _ q=>q.x30) λ_ _ z=>ü z
end
section
variable {X:Cx}{st:Â3}{rest:List Â3}{t u:TS}{e:Ð}{te:TE}{pos:Pos}
def A62:TS:=λD σ H=>D.nx σ H
def P12(t u:TS):TS:=λD σ H=>t { D with nx:=u D } σ H
theorem I50:PSs X [] A62:=λ_ _ σ H _ I h=>Ï6 ⟨σ,H,I,h⟩
theorem e30(h1:PS X st t)(h2:PSs X rest u):PSs X (st::rest) (P12 t u):=by
 intro pins s σ H D I h;refine Ô3 (thn (h1 pins s σ H { D with nx:=u D } I h) λf s1 q=>?_);cases f with
 |next =>
  obtain⟨σ',H',I',q⟩:=q;exact h2 pins s1 σ' H' D I' q
 |ret v=>exact q|brk=>exact q|cont=>exact q
theorem n81(h1:PS X st t):PSs X [st] t:=by
 intro pins s σ H D I h;refine Ô3 (thn (h1 pins s σ H D I h) λf s1 q=>?_);cases f with
 |next=>exact Ï6 q
 |ret v=>exact q|brk=>exact q|cont=>exact q
theorem Inv.quiet{pins:List (Ç × Obj)}{σ:St}{H:Hp}{s:Æ}(I:Inv X pins σ H s):interactive X.env=false:=by simp[interactive,I.ok.kind]
def j52(te:TE):TS:=λD σ H=>te σ H λ_ H1=>D.nx σ H1
theorem I60(he:PE X e te)(hs:Í9 e none pos.line X.env=pure false:=by rfl):PS X (.Expr e pos) (j52 te):=by
 intro pins s σ H D I h;exact wpAny_Expr_any (thn (he pins s σ H _ I h) λv s1 ⟨x,H1,I1,r1,q1⟩=>⟨σ,H1,I1,q1⟩) I.quiet hs
def P22(te:TE):TS:=λD σ H=>te σ H D.rt
theorem c31(he:PE X e te):PS X (.Return (some e) pos) (P22 te):=by
 intro pins s σ H D I h;exact wpAny_Return_some (thn (he pins s σ H _ I h) λv s1 ⟨x,H1,I1,r1,q1⟩=>⟨x,σ,H1,I1,r1,q1⟩)
def A72:TS:=λD _ H=>D.rt .non H
theorem V71:PS X (.Return none pos) A72:=λ_ _ σ H _ I h=>wpAny_Return_none ⟨.non,σ,H,I,rfl,h⟩
def P32(c:TT)(t u:TS):TS:=λD σ H=>c σ H λb H1=>if b=true then t D σ H1 else u D σ H1
theorem E81{c:Ð}{a b:List Â3}{tc:TT}(hc:PT X c tc)(ha:PSs X a t)(hb:PSs X b u):PS X (.If c a b pos) (P32 tc t u):=by
 intro pins s σ H D I h;refine wpAny_If (thn (hc pins s σ H _ I h) λd s1 ⟨H1,I1,q1⟩=>?_);cases d with
 |true=>exact ha pins s1 σ H1 D I1 q1|false=>exact hb pins s1 σ H1 D I1 q1
end
abbrev TG:=V->St->Hp->(St->Hp->Prop)->Prop
abbrev TGs:=List V->St->Hp->(St->Hp->Prop)->Prop
def PG(X:Cx)(target:Ð)(t:TG):Prop :=
 ∀ (pins:List (Ç × Obj)) (s:Æ) (σ:St) (H:Hp) (v:V) (u:Ä) (Q:St->Hp->Prop),Inv X pins σ H s->RelV v u->t v σ H Q ->
  Ñ (Ö X.prog X.w) X.A (Ø7 target X.env u) (λ_ s'=>∃ σ' H',Inv X pins σ' H' s'/\Q σ' H') X.xe s
def PGs(X:Cx)(ts:List Ð)(t:TGs):Prop :=
 ∀ (pins:List (Ç × Obj)) (s:Æ) (σ:St) (H:Hp) (vs:List V) (us:List Ä) (Q:St->Hp->Prop),Inv X pins σ H s->Vals vs us->t vs σ H Q ->
  Ñ (Ö X.prog X.w) X.A (assignInOrder ((Ê1 ts X.env).map (·.2)) us) (λ_ s'=>∃ σ' H',Inv X pins σ' H' s'/\Q σ' H') X.xe s
abbrev j62:=V->V->V->Hp->(Hp->Prop)->Prop
def A82(X:Cx)(t:j62):Prop :=
 ∀ (pins:List (Ç × Obj)) (s:Æ) (σ:St) (H:Hp) (o i v:V) (ov iv u:Ä) (Q:Hp->Prop),Inv X pins σ H s->RelV o ov->RelV i iv->RelV v u->t o i v H Q ->
  Ñ (Ö X.prog X.w) X.A (setItem ov iv u) (λ_ s'=>∃ H',Inv X pins σ H' s'/\Q H') X.xe s
abbrev TIp:=V->V->Hp->VK->Prop
def PIp(X:Cx)(op:Ý0)(t:TIp):Prop :=
 ∀ (pins:List (Ç × Obj)) (s:Æ) (σ:St) (H:Hp) (x y:V) (v u:Ä) (Q:VK),Inv X pins σ H s->RelV x v->RelV y u->t x y H Q ->
  Ñ (Ö X.prog X.w) X.A (inplaceOp op v u) (EP X pins σ Q) X.xe s
section
variable {X:Cx}{pos:Pos}
def I70(i:Nat):TG:=λv σ H Q=>Q (σ.set i (some v)) H
theorem W40{i:Nat}{x:Str}(hN:X.N.Nodup)(hi:X.N[i]?=some x)(hx:Loc X.env.scope x)(hf:X.fn x=true∨X.env.scope.names.lookup x=some .local:=by first | exact .inl rfl | exact .inr rfl | assumption):PG X (.Name x pos) (I70 i):=by
 intro pins s σ H v u Q I r h;exact wpAny_assign_Name (t00 I hN hi hx r (λs' I'=>⟨_,H,I',h⟩) hf)
def L32:TGs:=λvs σ H Q=>vs=[]/\Q σ H
def j72(t:TG)(u:TGs):TGs:=λvs σ H Q=>∃ v r,vs=v::r/\t v σ H λσ' H'=>u r σ' H' Q
theorem V81:PGs X [] L32:=by
 intro pins s σ H vs us Q I r h;obtain⟨e,h⟩:=h;subst e;cases r;exact assignInOrder_nil ⟨σ,H,I,h⟩
theorem E91{e:Ð}{es:List Ð}{t:TG}{u:TGs}(h1:PG X e t)(h2:PGs X es u)
  (hs:(Ê1 (e::es) X.env).map (·.2)=Ø7 e X.env::(Ê1 es X.env).map (·.2):=by rfl):PGs X (e::es) (j72 t u):=by
 intro pins s σ H vs us Q I r h;obtain⟨v,vr,e1,h⟩:=h;subst e1;cases r with
 |cons r rr =>
  rw[hs];refine Û5 (thn (h1 pins s σ H _ _ _ I r h) λ_ s1 ⟨σ1,H1,I1,q1⟩=>?_);exact h2 pins s1 σ1 H1 _ _ Q I1 rr q1
def L42(K:Â)(n:Nat)(t:TGs):TG:=λv σ H Q=>∃ a xs,v=.ref a/\SqT K H a xs/\xs.length=n/\t xs σ H Q
theorem j82{es:List Ð}{k:Nat}{t:TGs}{n:Nat}(hc:X.calm=true)(h:PGs X es t)
  (hn:(Ê1 es X.env).length=n:=by rfl) (hst:(Ê1 es X.env).findIdx? (·.1)=none:=by rfl):PG X (.Tuple es k pos) (L42 X.K n t):=by
 intro pins s σ H v u Q I r hw;obtain⟨a,xs,e1,hq,hl,hw⟩:=hw;subst e1;cases r;obtain⟨its,rv,ht,hz⟩:=I.tuple hq;refine assign_Tuple_tuple (I.ok.hd hc) ht (by simp[hn,← hl,rv.length]) hst λh' hx=>?_
 have I1:Inv X pins σ H { s with heap:=h' }:=I.kept (t':=s.toks) λb o e=>hx b o (Ü (á e)) e;exact h pins _ σ H xs _ Q I1 (by simpa using rv) hw
def P42(to ti:TE)(t:j62):TG:=λv σ H Q=>to σ H λo H1=>ti σ H1 λi H2=>t o i v H2 λH3=>Q σ H3
theorem Q21{o i:Ð}{to ti:TE}{t:j62}(ho:PE X o to)(hi:PE X i ti)(hs:A82 X t)
  (ha:∀ v,Ø7 (.Subscript o i pos) X.env v=(do
   let ov ← Ù2 [v] (eval o X.env)
   let iv ← Ù2 [v,ov] (eval i X.env)
   standAt pos
   Ù2 [v,ov,iv] (setItem ov iv v)
   release [v,ov,iv] []):=by intro _;rfl):PG X (.Subscript o i pos) (P42 to ti t):=by
 intro pins s σ H v u Q I r h;rw[ha];refine À (Á0 (thn (ho pins s σ H _ I h) λov s1 ⟨x,H1,I1,r1,q1⟩=>?_));refine À (Á0 (thn (hi pins s1 σ H1 _ I1 q1) λiv s2 ⟨y,H2,I2,r2,q2⟩=>?_));refine À (Ú6 (À (Á0 (thn (hs pins s2 σ H2 x y v ov iv u _ I2 r1 r2 r q2) λ_ s3 ⟨H3,I3,q3⟩=>?_))));exact wpAny_release ⟨σ,H3,I3,q3⟩
def j92(te:TE)(g:TG):TS:=λD σ H=>te σ H λx H1=>g x σ H1 D.nx
theorem n91{tg e:Ð}{te:TE}{g:TG}(he:PE X e te)(hg:PG X tg g)(hs:swapsWithSole [tg] e pos.line X.env=pure false:=by rfl)(hw:Ä6 [tg] e X.env=pure none:=by rfl)
  (h1:(Ê1 [tg] X.env).map (·.2)=[Ø7 tg X.env]:=by rfl):PS X (.Assign [tg] e pos) (j92 te g):=by
 intro pins s σ H D I h;refine wpAny_Assign_stores (thn (he pins s σ H _ I h) λv s1 ⟨x,H1,I1,r1,q1⟩=>?_) hs hw;rw[h1];exact thn (hg pins s1 σ H1 x v _ I1 r1 q1) λ_ s2 q=>q
theorem r00{i:Nat}{x:Str}{e:Ð}{te:TE}{pos':Pos}(hN:X.N.Nodup)(hi:X.N[i]?=some x)(hx:Loc X.env.scope x)(he:PE X e te)(hs:Í9 e (some (.Name x pos')) pos.line X.env=pure false:=by rfl)(hf:X.fn x=true∨X.env.scope.names.lookup x=some .local:=by first | exact .inl rfl | exact .inr rfl | assumption) :
  PS X (.Assign [.Name x pos'] e pos) (j92 te (I70 i)):=by
 intro pins s σ H D I h;refine wpAny_Assign_Name (thn (he pins s σ H _ I h) λv s1 ⟨y,H1,I1,r1,q1⟩=>?_) hs;exact t00 I1 hN hi hx r1 (λs2 I2=>⟨_,H1,I2,q1⟩) hf
def P52(i j:Nat)(ta:TA):TS:=λD σ H=>ta σ H λvs H1=>∃ v w,vs=[v,w]/\D.nx ((σ.set i (some v)).set j (some w)) H1
theorem k02{i j:Nat}{x y:Str}{a b:Ð}{ta:TA}{px py pt:Pos}{kt k2 pt2}(hc:X.calm=true)(hN:X.N.Nodup)(hi:X.N[i]?=some x)(hj:X.N[j]?=some y)(hij:i≠j)
  (hx:X.env.scope.names.lookup x=some .local) (hy:X.env.scope.names.lookup y=some .local) (ha:PA X [a,b] ta)
  (hw:Ä6 [.Tuple [.Name x px,.Name y py] kt pt] (.Tuple [a,b] k2 pt2) X.env=pure (some [x,y]))
  (hs:swapsWithSole [.Tuple [.Name x px,.Name y py] kt pt] (.Tuple [a,b] k2 pt2) pos.line X.env=pure false:=by rfl) :
  PS X (.Assign [.Tuple [.Name x px,.Name y py] kt pt] (.Tuple [a,b] k2 pt2) pos) (P52 i j ta):=by
 intro pins s σ H D I h;rw[exec_Assign_arm];refine À (Ú6 ?_);rw[hs];refine À (Å ?_);rw[if_neg (-0)]
 refine À (Tuple_ (thn (ha _ pins s σ H _ I h) λus s1 ⟨vs,H1,I1,r1,q1⟩=>?_));obtain⟨v,w,e1,q1⟩:=q1;subst e1;obtain⟨u1,u2,rfl,rv,rw'⟩:∃ u1 u2,us=[u1,u2]/\RelV v u1/\RelV w u2:=by
  cases r1 with
  |cons p q =>
   cases q with
   |cons p' q' =>
    cases q';exact⟨_,_,rfl,p,p'⟩
 refine é ?_ (by show 2<=Ý;decide)
 have I2:Inv X pins σ H1 { s1 with heap:=s1.heap.push { cls:=.type "tuple",data:=.seq [u1,u2].toArray } }:=I1.kept (t':=s1.toks) λb o e=>Ã _ e;rw[hw];refine À (Å ?_);show Ñ (Ö X.prog X.w) X.A (do rule "assign.swapped-stores";let items ← unpackItems (.ref s1.heap.objs.size) 2 none;assignInOrder [λv=>bindName X.env y v,λv=>bindName X.env x v] items.reverse;pure Flow.next) _ _ _;refine À (É9 (À (unpackItems_tuple (items:=#[u1,u2]) (I.ok.hd hc) (Ï1.new s1.heap _) λh' hx'=>?_)));have I3:=I2.kept (h':=h') (t':=s1.toks) λb o e=>hx' b o (Ü (á e)) e;show Ñ _ _ (assignInOrder [λv=>bindName X.env y v,λv=>bindName X.env x v] [u2,u1] >>= λ_=>pure Flow.next) _ _ _;refine À (Û5 (wpAny_bindName (t00 I3 hN hj (.inl hy) rw' (λs2 I4=>?_) (.inr hy))));refine Û5 (wpAny_bindName (t00 I4 hN hi (.inl hx) rv (λs3 I5=>assignInOrder_nil (Å ?_)) (.inr hx)));rw[List.set_comm _ _ (Á6 hij)] at I5;exact⟨_,H1,I5,q1⟩
def A92(to ti te:TE)(tget:V->V->Hp->VK->Prop)(tip:TIp)(tset:j62):TS:=λD σ H=>to σ H λo H1=>ti σ H1 λi H2=>tget o i H2 λx H3=>te σ H3 λy H4=>tip x y H4 λz H5=>tset o i z H5 λH6=>D.nx σ H6
def L62(X:Cx)(t:V->V->Hp->VK->Prop):Prop :=
 ∀ (pins:List (Ç × Obj)) (s:Æ) (σ:St) (H:Hp) (o i:V) (ov iv:Ä) (Q:VK),Inv X pins σ H s->RelV o ov->RelV i iv->t o i H Q ->
  Ñ (Ö X.prog X.w) X.A (Ó3 ov iv) (EP X pins σ Q) X.xe s
theorem V91{o i e:Ð}{to ti te:TE}{tget:V->V->Hp->VK->Prop}{tip:TIp}{tset:j62}{op:Ý0}{tpos:Pos}(ho:PE X o to)(hi:PE X i ti)(hg:L62 X tget)(he:PE X e te)(hp:PIp X op tip)(hs:A82 X tset)
  (ha:∀ ov iv new,augStore i ov iv new=(do Ù2 [new,ov,iv] (setItem ov iv new);release [new,ov,iv] [];pure .next):=by intros;rfl):PS X (.AugAssign (.Subscript o i tpos) op e pos) (A92 to ti te tget tip tset):=by
 intro pins s σ H D I h;refine wpAny_AugAssign_SubscriptAny (thn (ho pins s σ H _ I h) λov s1 ⟨x1,H1,I1,r1,q1⟩=>?_) ha;refine thn (hi pins s1 σ H1 _ I1 q1) λiv s2 ⟨x2,H2,I2,r2,q2⟩=>?_;refine thn (hg pins s2 σ H2 x1 x2 ov iv _ I2 r1 r2 q2) λold s3 ⟨x3,H3,I3,r3,q3⟩=>?_;refine thn (he pins s3 σ H3 _ I3 q3) λv s4 ⟨x4,H4,I4,r4,q4⟩=>?_;refine thn (hp pins s4 σ H4 x3 x4 old v _ I4 r3 r4 q4) λnew s5 ⟨x5,H5,I5,r5,q5⟩=>?_;exact thn (hs pins s5 σ H5 x1 x2 x5 ov iv new _ I5 r1 r2 r5 q5) λ_ s6 ⟨H6,I6,q6⟩=>⟨σ,H6,I6,q6⟩
def ipI(f:Int->Int->Int):TIp:=λx y H Q=>∃ i j,x=.int i/\y=.int j/\Q (.int (f i j)) H
theorem k12:PIp X .Add (ipI λi j=>i + j):=by
 intro pins s σ H x y v u Q I r1 r2 h;obtain⟨i,j,e1,e2,q⟩:=h;subst e1;subst e2;obtain⟨t,rfl⟩:=r1;obtain⟨t',rfl⟩:=r2;exact iadd_int ⟨.int _,H,I.tok _,⟨_,rfl⟩,q⟩
def k22(c:TT)(tb:TS):TS:=λD σ H=>∃ W:Nat->St->Hp->Prop,(∃ m,W m σ H)/\∀ m σ H,W m σ H ->
 c σ H λb H1=>if b=true then ∃ N:St->Hp->Prop,(∀ σ' H',N σ' H'->∃ m',m' < m/\W m' σ' H')/\tb { D with nx:=N,ct:=N,bk:=D.nx } σ H1 else D.nx σ H1
theorem F01{c:Ð}{body:List Â3}{tc:TT}{tb:TS}(hp:PassesOwn (Ö X.prog X.w) X.A X.env X.xe)(hc:PT X c tc)(hb:PSs X body tb):PS X (.While c body [] pos) (k22 tc tb):=by
 intro pins s σ H D I h;obtain⟨W,⟨m0,w0⟩,turn⟩:=h;refine wpAny_While (codeAny_whileLoop (λn s'=>∃ σ' H',Inv X pins σ' H' s'/\W n σ' H') ?_ m0 ⟨σ,H,I,w0⟩);rintro n s1 ⟨σ1,H1,I1,w1⟩;refine È4 hp (thn (hc pins s1 σ1 H1 _ I1 (turn n σ1 H1 w1)) λb s2 ⟨H2,I2,q2⟩=>?_);cases b with
 |true =>
  obtain⟨N,hN,q2⟩:=q2;rw[if_pos rfl];refine È4 hp (thn (hb pins s2 σ1 H2 _ I2 q2) λf s3 q3=>?_);cases f with
  |next =>
   obtain⟨σ3,H3,I3,n3⟩:=q3;obtain⟨m',hm,w3⟩:=hN σ3 H3 n3;exact⟨m',hm,σ3,H3,I3,w3⟩
  |cont =>
   obtain⟨σ3,H3,I3,n3⟩:=q3;obtain⟨m',hm,w3⟩:=hN σ3 H3 n3;exact⟨m',hm,σ3,H3,I3,w3⟩
  |brk=>exact q3|ret v=>exact q3
 |false =>
  rw[if_neg Ï];exact Ï6 ⟨σ1,H2,I2,q2⟩
end
structure It where
 go:Nat->Hp->Prop
 yld:Nat->Hp->V->Hp->Prop
 stop:Nat->Hp->Prop
def W50(X:Cx)(pins:List (Ç × Obj))(H:Hp)(b:Ç):Prop :=
 H b=none/\b≠X.env.locals/\b ∉ X.fs/\(b∈X.ex∨X.s₀.heap.objs.size<=b)/\(∀ x c,X.env.cells.lookup x=some c->c≠b)/\∀ p∈X.pn++pins,p.1≠b
theorem Inv.m91{X:Cx}{pins:List (Ç × Obj)}{σ:St}{H H':Hp}{s:Æ}{b:Ç}(I:Inv X pins σ H s)(hb:s.heap.objs.size<=b)(hn:H' b=none):W50 X pins H' b:=by
 refine⟨hn,Ê7 (Õ I.lt hb),I.O62 hb,.inr (Þ I.sz hb),λx c e z=>?_,λp hp z=>?_⟩
 ·obtain⟨v,q⟩:=I.cell x c e;exact absurd (Õ q.lt (by rw[z];exact hb)) (À7 _)
 ·exact absurd (Õ (á (I.pin p hp).1) (by rw[z];exact hb)) (À7 _)
structure Turn(P:Program)(w:World)(K:PySem.W.Frag)(tg:Expr)(J:It)(fp:List Addr)(it:Addr)(tn:Nat->Heap->Prop):Prop where
 mem:it∈fp
 obj:∀ i h,tn i h->∀ b∈fp,∃ o,h.get? b=some o/\∀ v,o.data≠.cell v
 keep:∀ i h h',tn i h->(∀ b∈fp,∀ o,h.get? b=some o->h'.get? b=some o)->tn i h'
 item:∀ (X:Cx),X.prog=P->X.w=w->X.K=K->X.calm=true->∀ (i:Nat) (pins:List (Addr × Obj)) (s:Shared) (σ:St) (H:Hp) (E:Value->Shared->Prop),Inv X pins σ H s->(∀ b∈fp,W50 X pins H b)->tn i s.heap->J.go i H ->
  wpAny (model P w) X.A (pyNext (.ref it)) (λr s1=>∃ u,r=some u /\
   wpAny (model P w) X.A (letOwnedTupleGo tg (.ref it) u) (λ_ s2=>∃ x H',Inv X pins σ H' s2/\RelV x u/\J.yld i H x H'/\tn (i + 1) s2.heap/\∀ b∈fp,H' b=none) E s1) E s
 done:∀ (X:Cx),X.prog=P->X.w=w->X.K=K->X.calm=true->∀ (i:Nat) (pins:List (Addr × Obj)) (s:Shared) (σ:St) (H:Hp) (E:Value->Shared->Prop),Inv X pins σ H s->(∀ b∈fp,W50 X pins H b)->tn i s.heap->J.stop i H ->
  wpAny (model P w) X.A (pyNext (.ref it)) (λr s1=>r=none/\Inv X pins σ H s1) E s
 self:∀ (A:Around) (i:Nat) (s:Shared) (Q:Value->Shared->Prop) (E:Value->Shared->Prop),tn i s.heap->Q (.ref it) s->wpAny (model P w) A (pyIter (.ref it)) Q E s
abbrev TI:=St->Hp->(It->Hp->Prop)->Prop
def PIE(X:Cx)(pins:List (Ç × Obj))(σ:St)(tg:Ð)(R:It->Hp->Prop)(itv:Ä)(s2:Æ):Prop :=
 ∃ (it:Ç) (fp:List Ç) (tn:Nat->ë->Prop) (J:It) (H':Hp),itv=.ref it/\Inv X pins σ H' s2/\Turn X.prog X.w X.K tg J fp it tn/\tn 0 s2.heap/\(∀ b∈fp,W50 X pins H' b)/\R J H'
def PI(X:Cx)(tg Ä0:Ð)(wi:TI):Prop :=
 ∀ (pins:List (Ç × Obj)) (s:Æ) (σ:St) (H:Hp) (R:It->Hp->Prop),Inv X pins σ H s->wi σ H R ->
  Ñ (Ö X.prog X.w) X.A (eval Ä0 X.env) (λv s1=>Ñ (Ö X.prog X.w) X.A (pyIter v) (PIE X pins σ tg R) X.xe s1) X.xe s
theorem W01{M:Model}{A:ö}{E:Ä->Æ->Prop}{s:Æ}{tg:Ð}{it:Ç}{u:Ä}{o:Obj}{n:String}{vs:Array Ä}{Q:Unit->Æ->Prop}(ho:s.heap.get? it=some o)(hc:o.cls=.type n)(hd:o.data=.fields vs)
  (hn:["enumerate","zip","dict_itemiterator","dict_reverseitemiterator","odict_iterator","itertools.zip_longest","itertools.pairwise"].contains n=false) (hQ:Q () s):Ñ M A (ß4 tg (.ref it) u) Q E s:=by
 unfold ß4;cases tg <;> first
  |exact Å hQ
  |(cases u <;> first
    |exact Å hQ
    |(refine À (wpAny_load ho ?_)
      rw[hc,hd];show Ñ M A (if (["enumerate","zip","dict_itemiterator","dict_reverseitemiterator","odict_iterator","itertools.zip_longest","itertools.pairwise"].contains n&&vs[0]? == some (Ã6 _))=true then _ else _) Q E s;rw[if_neg (by intro h;rw[hn,Õ1] at h;cases h)]
      exact Å hQ))
def Itl(K:Â)(a:Ç):It :=
 ⟨λi H=>∃ xs x,SqL K H a xs/\xs[i]?=some x,λi H x H'=>H'=H/\∀ xs,SqL K H a xs->xs[i]?=some x,λi H=>∃ xs,SqL K H a xs/\xs.length<=i⟩
def Itt(K:Â)(a:Ç):It :=
 ⟨λi H=>∃ xs x,SqT K H a xs/\xs[i]?=some x,λi H x H'=>H'=H/\∀ xs,SqT K H a xs->xs[i]?=some x,λi H=>∃ xs,SqT K H a xs/\xs.length<=i⟩
def Itr(lo:Int)(n:Nat):It:=⟨λi _=>i < n,λi H x H'=>H'=H/\x=.int (lo + i),λi _=>n<=i⟩
theorem o01{P:à}{w:ê}{K:Â}{tg:Ð}(a it:Ç):Turn P w K tg (Itl K a) [it] it (λi h=>h.IsListIter it a i) where
 mem:=by simp
 obj:=λi h st b hb=>by
  have e:b=it:=by simpa using hb
  subst e;obtain⟨o,e,c,d⟩:=st;exact⟨o,e,λv z=>by rw[d] at z;cases z⟩
 keep:=λi h h' st k=>st.at λo e=>k it (by simp) o e
 item:=by
  intro X hP hw hK hc i pins s σ H E I hf st hg;subst hP hw hK;obtain⟨xs,x,hq,hx⟩:=hg;obtain⟨its,rv,p,hz⟩:=I.list hq;obtain⟨u,hu,ru⟩:=rv.get hx;obtain⟨f0,f1,f2,f3,f4,f5⟩:=hf it (by simp)
  refine wpAny_pyNext_list_item st p.isList (x:=u) (by simpa using hu) λh' st' sb=>?_
  have I1:Inv X pins σ H { s with heap:=h' }:=I.turned (t':=s.toks) (λb o hb e=>(sb.2 b hb).trans e) f0 f1 f3 f4 f5;obtain⟨o,e,c,d⟩:=id st';exact⟨u,rfl,W01 (s:={ s with heap:=h' }) e c d (-0) ⟨x,H,I1,ru,⟨rfl,λys hy=>by rw[I.c21 hy hq];exact hx⟩,st',λb hb=>(hf b hb).1⟩⟩
 done:=by
  intro X hP hw hK hc i pins s σ H E I hf st hg;subst hP hw hK;obtain⟨xs,hq,hx⟩:=hg;obtain⟨its,rv,p,hz⟩:=I.list hq;obtain⟨f0,f1,f2,f3,f4,f5⟩:=hf it (by simp)
  have hl:=rv.length;exact wpAny_pyNext_list_end (I.ok.hd hc) st p.isList (by simp;omega) λh' eb=>⟨rfl,I.turned (t':=s.toks) (λb o hb e=>eb b o hb e) f0 f1 f3 f4 f5⟩
 self:=λ_ _ _ _ _ st h=>wpAny_pyIter_listiter st h
theorem i81{P:à}{w:ê}{K:Â}{tg:Ð}(a it:Ç):Turn P w K tg (Itt K a) [it] it (λi h=>h.IsTupleIter it a i) where
 mem:=by simp
 obj:=λi h st b hb=>by
  have e:b=it:=by simpa using hb
  subst e;obtain⟨o,e,c,d⟩:=st;exact⟨o,e,λv z=>by rw[d] at z;cases z⟩
 keep:=λi h h' st k=>st.at λo e=>k it (by simp) o e
 item:=by
  intro X hP hw hK hc i pins s σ H E I hf st hg;subst hP hw hK;obtain⟨xs,x,hq,hx⟩:=hg;obtain⟨its,rv,p,hz⟩:=I.tuple hq;obtain⟨u,hu,ru⟩:=rv.get hx;obtain⟨f0,f1,f2,f3,f4,f5⟩:=hf it (by simp)
  refine wpAny_pyNext_tuple_item st (show s.heap.IsTuple a its.toArray from p) (x:=u) (by simpa using hu) λh' st' sb=>?_
  have I1:Inv X pins σ H { s with heap:=h' }:=I.turned (t':=s.toks) (λb o hb e=>(sb.2 b hb).trans e) f0 f1 f3 f4 f5;obtain⟨o,e,c,d⟩:=id st';exact⟨u,rfl,W01 (s:={ s with heap:=h' }) e c d (-0) ⟨x,H,I1,ru,⟨rfl,λys hy=>by rw[I.O50 hy hq];exact hx⟩,st',λb hb=>(hf b hb).1⟩⟩
 done:=by
  intro X hP hw hK hc i pins s σ H E I hf st hg;subst hP hw hK;obtain⟨xs,hq,hx⟩:=hg;obtain⟨its,rv,p,hz⟩:=I.tuple hq;obtain⟨f0,f1,f2,f3,f4,f5⟩:=hf it (by simp)
  have hl:=rv.length;exact wpAny_pyNext_tuple_end (I.ok.hd hc) st (show s.heap.IsTuple a its.toArray from p) (by simp;omega) λh' eb=>⟨rfl,I.turned (t':=s.toks) (λb o hb e=>eb b o hb e) f0 f1 f3 f4 f5⟩
 self:=λ_ _ _ _ _ st h=>wpAny_pyIter_tupleiter st h
theorem i91{P:à}{w:ê}{K:Â}{tg:Ð}(it:Ç)(lo:Int)(n:Nat):Turn P w K tg (Itr lo n) [it] it (λi h=>IsRangeIter h it (lo + (i:Nat) * 1) ((n:Int) - (i:Nat)) 1) where
 mem:=by simp
 obj:=λi h st b hb=>by
  have e:b=it:=by simpa using hb
  subst e;exact⟨_,st,λv z=>by
   have z':Data.fields _=Data.cell v:=z;cases z'⟩
 keep:=λi h h' st k=>k it (by simp) _ st
 item:=by
  intro X hP hw hK hc i pins s σ H E I hf st hg;subst hP hw hK;obtain⟨f0,f1,f2,f3,f4,f5⟩:=hf it (by simp)
  have W:=Walks.range (prog:=X.prog) (w:=X.w) (I.ok.hd hc) it lo 1 n;refine W.item i s _ _ hg st λv h' tk hv st' kk=>?_;obtain⟨t,rfl⟩:=hv;have I1:Inv X pins σ H { s with heap:=h',toks:=tk }:=I.turned (λb o hb e=>kk b o (by simpa using hb) e) f0 f1 f3 f4 f5
  refine⟨_,rfl,W01 (s:={ s with heap:=h',toks:=tk }) (n:="range_iterator") st' rfl rfl (-0) ⟨.int (lo + i),H,I1,⟨t,?_⟩,⟨rfl,rfl⟩,st',λb hb=>(hf b hb).1⟩⟩
  rw[Int.mul_one]
 done:=by
  intro X hP hw hK hc i pins s σ H E I hf st hg;subst hP hw hK;obtain⟨f0,f1,f2,f3,f4,f5⟩:=hf it (by simp)
  exact wpAny_pyNext_range_end (I.ok.hd hc) st (by have:n<=i:=hg;omega) λh' eb=>⟨rfl,I.turned (t':=s.toks) (λb o hb e=>eb b o hb e) f0 f1 f3 f4 f5⟩
 self:=λ_ _ _ _ _ st h=>wpAny_pyIter_rangeiter st h
section
variable {X:Cx}{tg:Ð}
def k32(K:Â)(tl:TE):TI:=λσ H R=>tl σ H λx H1=>∃ a,x=.ref a/\(∃ xs,SqL K H1 a xs)/\R (Itl K a) H1
def P72(K:Â)(tl:TE):TI:=λσ H R=>tl σ H λx H1=>∃ a,x=.ref a/\(∃ xs,SqT K H1 a xs)/\R (Itt K a) H1
theorem I80{l:Ð}{tl:TE}(hl:PE X l tl):PI X tg l (k32 X.K tl):=by
 intro pins s σ H R I h;refine thn (hl pins s σ H _ I h) λv s1 ⟨x,H1,I1,r1,q1⟩=>?_;obtain⟨a,e,⟨xs,hq⟩,q⟩:=q1;subst e;cases r1;obtain⟨its,rv,p,hz⟩:=I1.list hq;refine Ü7 p.isList ?_;refine⟨s1.heap.objs.size,[s1.heap.objs.size],_,_,H1,rfl,I1.kept (t':=s1.toks) λb o e=>Ã _ e,o01 a _,⟨_,Ë _ rfl,rfl,rfl⟩,λb hb=>?_,q⟩;have e:b=s1.heap.objs.size:=by simpa using hb
 subst e;exact I1.m91 (Î _) (I1.hok.fresh (Î _))
theorem Q31{l:Ð}{tl:TE}(hl:PE X l tl):PI X tg l (P72 X.K tl):=by
 intro pins s σ H R I h;refine thn (hl pins s σ H _ I h) λv s1 ⟨x,H1,I1,r1,q1⟩=>?_;obtain⟨a,e,⟨xs,hq⟩,q⟩:=q1;subst e;cases r1;obtain⟨its,rv,p,hz⟩:=I1.tuple hq;refine Ç7 (show s1.heap.IsTuple a its.toArray from p) ?_;refine⟨s1.heap.objs.size,[s1.heap.objs.size],_,_,H1,rfl,I1.kept (t':=s1.toks) λb o e=>Ã _ e,i81 a _,⟨_,Ë _ rfl,rfl,rfl⟩,λb hb=>?_,q⟩;have e:b=s1.heap.objs.size:=by simpa using hb
 subst e;exact I1.m91 (Î _) (I1.hok.fresh (Î _))
theorem c41{pins:List (Ç × Obj)}{σ:St}{H:Hp}{s:Æ}{R:It->Hp->Prop}{E:Ä->Æ->Prop}{lo hi:Int}{t u v:Tok}{tk:Nat}(I:Inv X pins σ H s)(h1:-(2 ^ 62)<=lo)(h2:lo < 2 ^ 62)(h3:-(2 ^ 62)<=hi)(h4:hi < 2 ^ 62)
  (q:R (Itr lo (hi - lo).toNat) H):Ñ (Ö X.prog X.w) X.A (pyIter (.ref s.heap.objs.size)) (PIE X pins σ tg R) E { s with heap:=s.heap.push { cls:=.type "range",data:=.fields #[.int lo t,.int hi u,.int 1 v] },toks:=tk }:=by
 refine wpAny_pyIter_range (Õ4.new ..) (small_one h1 h2 h3 h4) ?_;have I1:Inv X pins σ H { s with heap:=s.heap.push { cls:=.type "range",data:=.fields #[.int lo t,.int hi u,.int 1 v] },toks:=tk }:=I.kept λb o e=>Ã _ e;refine⟨(s.heap.push { cls:=.type "range",data:=.fields #[.int lo t,.int hi u,.int 1 v] }).objs.size,[(s.heap.push { cls:=.type "range",data:=.fields #[.int lo t,.int hi u,.int 1 v] }).objs.size],_,_,H,rfl,
  I1.kept (t':=tk) λb o e=>Ã _ e,i91 _ lo (hi - lo).toNat,?_,λb hb=>?_,q⟩
 ·have e1:lo + ((0:Nat):Int) * 1=lo:=by simp
  have e2:(((hi - lo).toNat:Nat):Int) - ((0:Nat):Int)=Ã8 lo hi 1:=by rw[rangeSize_one];split <;> omega
  show IsRangeIter _ _ (lo + ((0:Nat):Int) * 1) ((((hi - lo).toNat:Nat):Int) - ((0:Nat):Int)) 1;rw[e1,e2];exact Ë _ rfl
 ·have e:b=(s.heap.push { cls:=.type "range",data:=.fields #[.int lo t,.int hi u,.int 1 v] }).objs.size:=by simpa using hb
  subst e;exact I1.m91 (Î _) (I1.hok.fresh (Î _))
def B02(ta:TA):TI:=λσ H R=>ta σ H λvs H1=>∃ j:Int,vs=[.int j]/\-(2 ^ 62)<=j/\j < 2 ^ 62/\R (Itr 0 j.toNat) H1
def B12(ta:TA):TI:=λσ H R=>ta σ H λvs H1=>∃ i j:Int,vs=[.int i,.int j]/\(-(2 ^ 62)<=i/\i < 2 ^ 62/\-(2 ^ 62)<=j/\j < 2 ^ 62)/\R (Itr i (j - i).toNat) H1
theorem O60{a:Ð}{ta:TA}{p pos:Pos}(hg:Gl X "range")(hm:X.mg "range"=none)(ha:PA X [a] ta)(hs:À0 [a] X.env=[(false,eval a X.env)]:=by rfl):PI X tg (.Call (.Name "range" p) [a] [] pos) (B02 ta):=by
 intro pins s σ H R I h;refine Call_ (t10 I hg hm boot_range (Á3 (thn (ha pos pins s σ H _ I h) λus s1 ⟨vs,H1,I1,r1,q1⟩=>?_) hs rfl));obtain⟨j,e,q1,q2,q⟩:=q1;subst e;cases r1 with
 |cons r rr =>
  cases rr;obtain⟨t,rfl⟩:=r;exact call_range_1 (c41 I1 ∅ ∅ q1 q2 (by simpa using q))
theorem o21{a b:Ð}{ta:TA}{p pos:Pos}(hg:Gl X "range")(hm:X.mg "range"=none)(ha:PA X [a,b] ta)(hs:À0 [a,b] X.env=[(false,eval a X.env),(false,eval b X.env)]:=by rfl)(hs2:À0 [b] X.env=[(false,eval b X.env)]:=by rfl) :
  PI X tg (.Call (.Name "range" p) [a,b] [] pos) (B12 ta):=by
 intro pins s σ H R I h;refine Call_ (t10 I hg hm boot_range (Á3 (thn (ha pos pins s σ H _ I h) λus s1 ⟨vs,H1,I1,r1,q1⟩=>?_) (by rw[hs,hs2]) (by rw[hs2];rfl)))
 obtain⟨i,j,e,⟨q1,q2,q3,q4⟩,q⟩:=q1;subst e;cases r1 with
 |cons r rr =>
  cases rr with
  |cons r' rr =>
   cases rr;obtain⟨t,rfl⟩:=r;obtain⟨t',rfl⟩:=r';exact call_range_2 (c41 I1 q1 q2 q3 q4 q)
def P82(wi:TI)(g:TG)(tb:TS):TS:=λD σ H=>wi σ H λJ H1=>∃ W:Nat->Nat->St->Hp->Prop,(∃ m,W 0 m σ H1)/\∀ i m σ H,W i m σ H ->
 (J.stop i H/\D.nx σ H)∨(J.go i H/\∃ N:St->Hp->Prop,(∀ σ' H',N σ' H'->∃ m',m' < m/\W (i + 1) m' σ' H')/\∀ x H',J.yld i H x H'->g x σ H' λσ2 H2=>tb { D with nx:=N,ct:=N,bk:=D.nx } σ2 H2)
def A70(fp:List Ç)(h:ë):List (Ç × Obj):=fp.filterMap λb=>(h.get? b).map λo=>(b,o)
theorem l00{fp:List Ç}{h:ë}{b:Ç}{o:Obj}(hb:b∈fp)(e:h.get? b=some o):(b,o)∈A70 fp h:=Ö5.mpr ⟨b,hb,by rw[e];rfl⟩
theorem O70{fp:List Ç}{h:ë}{p:Ç × Obj}(hp:p∈A70 fp h):p.1∈fp/\h.get? p.1=some p.2:=by
 obtain⟨b,hb,e⟩:=Ö5.mp hp;cases q:h.get? b with
 |none=>rw[q] at e;cases e
 |some o =>
  rw[q] at e;have e':(b,o)=p:=û e;subst e';exact⟨hb,q⟩
theorem Inv.pinned{pins:List (Ç × Obj)}{σ:St}{H:Hp}{s:Æ}{fp:List Ç}(I:Inv X pins σ H s)(hf:∀ b∈fp,W50 X pins H b)(ho:∀ b∈fp,∃ o,s.heap.get? b=some o/\∀ v,o.data≠.cell v):Inv X (pins++A70 fp s.heap) σ H s :=
 I.A40 λp hp=>(Â7.mp hp).elim (λz=>I.pin p (ò _ z)) λz=>by
  obtain⟨hb,e⟩:=O70 z;obtain⟨f0,f1,f2,_⟩:=hf p.1 hb;obtain⟨o,e',d⟩:=ho p.1 hb;rw[e] at e';cases e';exact⟨e,f0,f1,f2,d⟩
theorem Inv.I90{pins pl:List (Ç × Obj)}{σ:St}{H:Hp}{s:Æ}(I:Inv X (pins++pl) σ H s):Inv X pins σ H s:=I.A40 λp hp=>I.pin p (ò _ (Æ2 _ hp))
theorem Q41{Ä0:Ð}{body:List Â3}{wi:TI}{g:TG}{tb:TS}{pos:Pos}(hp:PassesOwn (Ö X.prog X.w) X.A X.env X.xe)(hc:X.calm=true)(hi:PI X tg Ä0 wi)(hg:PG X tg g)(hb:PSs X body tb)
  (hs:∀ x,Æ7 Ä0 X.env x=pure x:=by intro _;rfl):PS X (.For tg Ä0 body [] pos) (P82 wi g tb):=by
 intro pins s σ H D I h;refine wpAny_For (thn (hi pins s σ H _ I h) λv s1 h1=>thn h1 λitv s2 h2=>?_) hs;obtain⟨it,fp,tn,J,H2,e,I2,T,st2,f2,W,⟨m0,w0⟩,turn⟩:=h2;subst e;have stat:∀ {H':Hp},(∀ b∈fp,H' b=none)->∀ b∈fp,W50 X pins H' b:=λhn b hb=>⟨hn b hb,(f2 b hb).2⟩;refine codeAny_forLoop_any (λn s'=>∃ i σ' H',Inv X pins σ' H' s'/\tn i s'.heap/\(∀ b∈fp,H' b=none)/\W i n σ' H') ?_ m0 ⟨0,σ,H2,I2,st2,λb hb=>(f2 b hb).1,w0⟩;rintro n s3 ⟨i,σ3,H3,I3,st3,fr3,w3⟩;rcases turn i n σ3 H3 w3 with ⟨stop,qn⟩ | ⟨go,N,hN,step⟩
 ·refine È4 hp (thn (T.done X rfl rfl rfl hc i pins s3 σ3 H3 X.xe I3 (stat fr3) st3 stop) λr s4 ⟨hr,I4⟩=>?_);subst hr;exact Ï6 ⟨σ3,H3,I4,qn⟩
 ·refine È4 hp (thn (T.item X rfl rfl rfl hc i pins s3 σ3 H3 X.xe I3 (stat fr3) st3 go) λr s4 ⟨u,hr,h4⟩=>?_);subst hr;refine È4 hp (thn h4 λ_ s5 ⟨x,H5,I5,r5,y5,st5,fr5⟩=>?_);have I5':=I5.pinned (stat fr5) (T.obj _ _ st5);refine È4 hp (thn (hg _ s5 σ3 H5 x u _ I5' r5 (step x H5 y5)) λ_ s6 ⟨σ6,H6,I6,q6⟩=>?_);refine È4 hp (thn (hb _ s6 σ6 H6 _ I6 q6) λf s7 q7=>?_);have again:∀ {σ7:St}{H7:Hp},Inv X (pins++A70 fp s5.heap) σ7 H7 s7->N σ7 H7->∃ m,m < n/\∃ i σ' H',Inv X pins σ' H' s7/\tn i s7.heap/\(∀ b∈fp,H' b=none)/\W i m σ' H':=λ{σ7 H7} I7 n7=>by
   obtain⟨m',hm,w7⟩:=hN σ7 H7 n7;refine⟨m',hm,i + 1,σ7,H7,I7.I90,T.keep _ _ _ st5 λb hb o e=>(I7.pin (b,o) (ò _ (ò _ (l00 hb e)))).1,λb hb=>?_,w7⟩;obtain⟨o,e,d⟩:=T.obj _ _ st5 b hb;exact(I7.pin (b,o) (ò _ (ò _ (l00 hb e)))).2.1
  cases f with
  |next=>obtain⟨σ7,H7,I7,n7⟩:=q7;exact again I7 n7
  |cont=>obtain⟨σ7,H7,I7,n7⟩:=q7;exact again I7 n7
  |brk=>obtain⟨σ7,H7,I7,q7⟩:=q7;exact⟨σ7,H7,I7.I90,q7⟩
  |ret v=>obtain⟨x7,σ7,H7,I7,r7,q7⟩:=q7;exact⟨x7,σ7,H7,I7.I90,r7,q7⟩
end
abbrev R2:=V->V->Hp->VK->Prop
def OpR(X:Cx)(f:Ä->Ä->Sem Ä)(r:R2):Prop :=
 ∀ (pins:List (Ç × Obj)) (s:Æ) (σ:St) (H:Hp) (x y:V) (v u:Ä) (Q:VK),Inv X pins σ H s->RelV x v->RelV y u->r x y H Q ->
  Ñ (Ö X.prog X.w) X.A (f v u) (EP X pins σ Q) X.xe s
def UnR(X:Cx)(f:Ä->Sem Ä)(r:V->Hp->VK->Prop):Prop :=
 ∀ (pins:List (Ç × Obj)) (s:Æ) (σ:St) (H:Hp) (x:V) (v:Ä) (Q:VK),Inv X pins σ H s->RelV x v->r x H Q ->
  Ñ (Ö X.prog X.w) X.A (f v) (EP X pins σ Q) X.xe s
def g70(X:Cx)(f:Ä)(r:List V->Hp->VK->Prop):Prop :=
 ∀ (pins:List (Ç × Obj)) (s:Æ) (σ:St) (H:Hp) (xs:List V) (us:List Ä) (Q:VK),Inv X pins σ H s->Vals xs us->r xs H Q ->
  Ñ (Ö X.prog X.w) X.A (call f us) (EP X pins σ Q) X.xe s
def tOp(r:R2)(ta tb:TE):TE:=λσ H Q=>ta σ H λx H1=>tb σ H1 λy H2=>r x y H2 Q
def tUn(r:V->Hp->VK->Prop)(ta:TE):TE:=λσ H Q=>ta σ H λx H1=>r x H1 Q
def rI(C:Int->Int->Prop)(g:Int->Int->V):R2:=λx y H Q=>∃ i j,x=.int i/\y=.int j/\C i j/\Q (g i j) H
def rI0(g:Int->Int->V):R2:=λx y H Q=>∃ i j,x=.int i/\y=.int j/\Q (g i j) H
def rU(g:Int->V):V->Hp->VK->Prop:=λx H Q=>∃ i,x=.int i/\Q (g i) H
section
variable {X:Cx}{a b c:Ð}{ta tb tc:TE}{pos:Pos}
theorem B22(ha:PE X a ta)(hb:PE X b tb){pins:List (Ç × Obj)}{s:Æ}{σ:St}{H:Hp}{R:V->V->Hp->Prop}(I:Inv X pins σ H s)
  (h:ta σ H λx H1=>tb σ H1 λy H2=>R x y H2) {Q:Ä->Æ->Prop}{f:Ä->Ä->Sem Ä}
  (hf:∀ v u s2 x y H2,Inv X pins σ H2 s2->RelV x v->RelV y u->R x y H2->Ñ (Ö X.prog X.w) X.A (f v u) Q X.xe s2) :
  Ñ (Ö X.prog X.w) X.A (eval a X.env) (λv s₁=>Ñ (Ö X.prog X.w) X.A (eval b X.env) (λu s₂=>Ñ (Ö X.prog X.w) X.A (f v u) Q X.xe s₂) X.xe s₁) X.xe s:=by
 refine thn (ha pins s σ H _ I h) λv s1 ⟨x,H1,I1,r1,q1⟩=>?_;refine thn (hb pins s1 σ H1 _ I1 q1) λu s2 ⟨y,H2,I2,r2,q2⟩=>?_;exact hf v u s2 x y H2 I2 r1 r2 q2
theorem F11{op:Ý0}{r:R2}(ho:OpR X (Ä1 op) r)(ha:PE X a ta)(hb:PE X b tb):PE X (.BinOp a op b pos) (tOp r ta tb):=by
 intro pins s σ H Q I h;exact wpAny_BinOp (B22 ha hb I h λv u s2 x y H2 I2 rx ry q=>ho pins s2 σ H2 x y v u Q I2 rx ry q)
theorem k42{op:UnaryOp}{r:V->Hp->VK->Prop}(ho:UnR X (unaryOp op) r)(ha:PE X a ta):PE X (.UnaryOp op a pos) (tUn r ta):=by
 intro pins s σ H Q I h;exact UnaryOp_ (thn (ha pins s σ H _ I h) λv s1 ⟨x,H1,I1,r1,q1⟩=>ho pins s1 σ H1 x v Q I1 r1 q1)
theorem opI{f:Ä->Ä->Sem Ä}{C:Int->Int->Prop}{g:Int->Int->Int}
  (rule:∀ (i j:Int) (t u:Tok) (s:Æ) (Q:Ä->Æ->Prop) (E:Ä->Æ->Prop),C i j->Q (.int (g i j) s.toks) { s with toks:=s.toks + 1 }->Ñ (Ö X.prog X.w) X.A (f (.int i t) (.int j u)) Q E s) :
  OpR X f (rI C λi j=>.int (g i j)):=by
 intro pins s σ H x y v u Q I rx ry h;obtain⟨i,j,rfl,rfl,hc,q⟩:=h;obtain⟨t,rfl⟩:=rx;obtain⟨t',rfl⟩:=ry;exact rule i j t t' s _ _ hc ⟨.int (g i j),H,I.tok _,⟨_,rfl⟩,q⟩
theorem B32{f:Ä->Ä->Sem Ä}{g:Int->Int->Int}
  (rule:∀ (i j:Int) (t u:Tok) (s:Æ) (Q:Ä->Æ->Prop) (E:Ä->Æ->Prop),Q (.int (g i j) s.toks) { s with toks:=s.toks + 1 }->Ñ (Ö X.prog X.w) X.A (f (.int i t) (.int j u)) Q E s) :
  OpR X f (rI0 λi j=>.int (g i j)):=by
 intro pins s σ H x y v u Q I rx ry h;obtain⟨i,j,rfl,rfl,q⟩:=h;obtain⟨t,rfl⟩:=rx;obtain⟨t',rfl⟩:=ry;exact rule i j t t' s _ _ ⟨.int (g i j),H,I.tok _,⟨_,rfl⟩,q⟩
theorem B42{f:Ä->Ä->Sem Ä}{g:Int->Int->Bool}
  (rule:∀ (i j:Int) (t u:Tok) (s:Æ) (Q:Ä->Æ->Prop) (E:Ä->Æ->Prop),Q (.bool (g i j)) s->Ñ (Ö X.prog X.w) X.A (f (.int i t) (.int j u)) Q E s) :
  OpR X f (rI0 λi j=>.bl (g i j)):=by
 intro pins s σ H x y v u Q I rx ry h;obtain⟨i,j,rfl,rfl,q⟩:=h;obtain⟨t,rfl⟩:=rx;obtain⟨t',rfl⟩:=ry;exact rule i j t t' s _ _ ⟨.bl (g i j),H,I,rfl,q⟩
def L72(i j:Int):Prop:=0<=j/\j<=1000000/\i.natAbs < 2 ^ 64
theorem k52:OpR X (Ä1 .Add) (rI0 λi j=>.int (i + j)):=B32 λ_ _ _ _ _ _ _ q=>add_int q
theorem k62:OpR X (Ä1 .Sub) (rI0 λi j=>.int (i - j)):=B32 λ_ _ _ _ _ _ _ q=>sub_int q
theorem k72:OpR X (binaryOp .Mod) (rI (λ_ j=>0 < j) λi j=>.int (i % j)):=opI λi j _ _ _ _ _ hc q=>by
 have h1:(0:Int) < j:=hc;exact mod_int' ∅ (by rw[Int.fmod_eq_emod_of_nonneg i ∅];exact q)
theorem k82:OpR X (Ä1 .Pow) (rI L72 λi j=>.int (i ^ j.toNat)):=opI λ_ _ _ _ _ _ _ hc q=>pow_int_small hc.1 hc.2.1 hc.2.2 q
theorem unI{f:Ä->Sem Ä}{g:Int->Int}
  (rule:∀ (i:Int) (t:Tok) (s:Æ) (Q:Ä->Æ->Prop) (E:Ä->Æ->Prop),Q (.int (g i) s.toks) { s with toks:=s.toks + 1 }->Ñ (Ö X.prog X.w) X.A (f (.int i t)) Q E s) :
  UnR X f (rU λi=>.int (g i)):=by
 intro pins s σ H x v Q I rx h;obtain⟨i,rfl,q⟩:=h;obtain⟨t,rfl⟩:=rx;exact rule i t s _ _ ⟨.int (g i),H,I.tok _,⟨_,rfl⟩,q⟩
theorem Q51:UnR X (unaryOp .USub) (rU λi=>.int (-i)):=unI λ_ _ _ _ _ q=>neg_int q
theorem B52:OpR X (À2 .LtE) (rI0 λi j=>.bl (decide (i<=j))):=B42 λ_ _ _ _ _ _ _ q=>le_int q
theorem B62:OpR X (À2 .Gt) (rI0 λi j=>.bl (decide (j < i))):=B42 λ_ _ _ _ _ _ _ q=>gt_int q
theorem B72:OpR X (À2 .GtE) (rI0 λi j=>.bl (decide (j<=i))):=B42 λ_ _ _ _ _ _ _ q=>ge_int q
theorem W11{op:CmpOp}{r:R2}(ho:OpR X (À2 op) r)(ha:PE X a ta)(hb:PE X b tb)(hm:behindInMarks op b=false):PE X (.Compare a [op] [b] pos) (tOp r ta tb):=by
 intro pins s σ H Q I h;exact wpAny_Compare1 (B22 ha hb I h λv u s2 x y H2 I2 rx ry q=>ho pins s2 σ H2 x y v u Q I2 rx ry q) hm
def W21(t:TE):TT:=λσ H Q=>t σ H λx H'=>∃ k,x=.bl k/\Q k H'
theorem W60{op:CmpOp}{r:R2}(ho:OpR X (À2 op) r)(ha:PE X a ta)(hb:PE X b tb)(hm:behindInMarks op b=false):PT X (.Compare a [op] [b] pos) (W21 (tOp r ta tb)):=by
 intro pins s σ H Q I h;refine wpAny_isTrue_Compare1 (thn (ha pins s σ H _ I h) λv s1 ⟨x,H1,I1,r1,q1⟩=>thn (hb pins s1 σ H1 _ I1 q1) λu s2 ⟨y,H2,I2,r2,q2⟩ =>
  thn (ho pins s2 σ H2 x y v u _ I2 r1 r2 q2) λc s3 ⟨z,H3,I3,r3,k,e,q3⟩=>?_) hm
 subst e;cases r3;exact Â6 ⟨H3,I3,q3⟩
def o31(r r':R2)(ta tb tc:TE):TE:=λσ H Q=>ta σ H λx H1=>tb σ H1 λy H2=>r x y H2 λz H3=>∃ k,z=.bl k /\
 (if k=true then tc σ H3 λw' H4=>r' y w' H4 Q else Q (.bl false) H3)
theorem F21{op op':CmpOp}{r r':R2}(ho:OpR X (À2 op) r)(ho':OpR X (À2 op') r')(ha:PE X a ta)(hb:PE X b tb)(hc:PE X c tc)
  (hm:lastMarks [op,op'] [b,c]=false:=by with_unfolding_all rfl):PE X (.Compare a [op,op'] [b,c] pos) (o31 r r' ta tb tc):=by
 intro pins s σ H Q I h;refine Compare_chain (thn (ha pins s σ H _ I h) λv s1 ⟨x,H1,I1,r1,q1⟩=>chain_link (thn (hb pins s1 σ H1 _ I1 q1) λu s2 ⟨y,H2,I2,r2,q2⟩ =>
  thn (ho pins s2 σ H2 x y v u _ I2 r1 r2 q2) λd s3 ⟨z,H3,I3,r3,k,e,q3⟩=>?_)) hm
 subst e;cases r3;refine Â6 ?_;cases k with
 |false=>exact ite_ff ⟨.bl false,H3,I3,rfl,q3⟩|true=>exact ite_tt (chain_last (thn (hc pins s3 σ H3 _ I3 q3) λw' s4 ⟨z',H4,I4,r4,q4⟩=>ho' pins s4 σ H4 y z' u w' Q I4 r2 r4 q4))
theorem F31{op op':CmpOp}{r r':R2}(ho:OpR X (À2 op) r)(ho':OpR X (À2 op') r')(ha:PE X a ta)(hb:PE X b tb)(hc:PE X c tc)
  (hm:lastMarks [op,op'] [b,c]=false:=by with_unfolding_all rfl):PT X (.Compare a [op,op'] [b,c] pos) (W21 (o31 r r' ta tb tc)):=by
 intro pins s σ H Q I h;refine isTrue_chain (thn (ha pins s σ H _ I h) λv s1 ⟨x,H1,I1,r1,q1⟩=>test_link (thn (hb pins s1 σ H1 _ I1 q1) λu s2 ⟨y,H2,I2,r2,q2⟩ =>
  thn (ho pins s2 σ H2 x y v u _ I2 r1 r2 q2) λd s3 ⟨z,H3,I3,r3,k,e,q3⟩=>?_)) hm
 subst e;cases r3;refine Â6 ?_;cases k with
 |false =>
  obtain⟨k',e',q'⟩:=q3;cases e';exact ite_ff ⟨H3,I3,q'⟩
 |true =>
  refine ite_tt (test_last (thn (hc pins s3 σ H3 _ I3 q3) λw' s4 ⟨z',H4,I4,r4,q4⟩=>thn (ho' pins s4 σ H4 y z' u w' _ I4 r2 r4 q4) λd' s5 ⟨z2,H5,I5,r5,k2,e2,q5⟩=>?_));subst e2;cases r5;exact Â6 ⟨H5,I5,q5⟩
theorem O80:(Ý:Nat) < 2 ^ 63:=by rw[Á4];decide
theorem vals1{x:V}{us:List Ä}(r:Vals [x] us):∃ u,us=[u]/\RelV x u:=by
 cases r with
 |cons r1 r2=>cases r2;exact⟨_,rfl,r1⟩
theorem vals2{x y:V}{us:List Ä}(r:Vals [x,y] us):∃ u w',us=[u,w']/\RelV x u/\RelV y w':=by
 cases r with
 |cons r1 r2 =>
  cases r2 with
  |cons r3 r4=>cases r4;exact⟨_,_,rfl,r1,r3⟩
theorem o41(hc:X.calm=true):g70 X (.builtin "max") (λxs H Q=>∃ i j,xs=[.int i,.int j]/\Q (.int (if j > i then j else i)) H):=by
 intro pins s σ H xs us Q I r h;obtain⟨i,j,rfl,q⟩:=h;obtain⟨u,w',rfl,⟨t,rfl⟩,⟨t',rfl⟩⟩:=vals2 r;refine max_two_ints (I.ok.hd hc) λh' tk k=>⟨_,H,I.kept k,?_,q⟩;by_cases hj:j > i
 ·rw[if_pos hj,if_pos hj];exact⟨_,rfl⟩
 ·rw[if_neg hj,if_neg hj];exact⟨_,rfl⟩
theorem o51(hc:X.calm=true):g70 X (.builtin "min") (λxs H Q=>∃ i j,xs=[.int i,.int j]/\Q (.int (if j < i then j else i)) H):=by
 intro pins s σ H xs us Q I r h;obtain⟨i,j,rfl,q⟩:=h;obtain⟨u,w',rfl,⟨t,rfl⟩,⟨t',rfl⟩⟩:=vals2 r;refine min_two_ints (I.ok.hd hc) λh' tk k=>⟨_,H,I.kept k,?_,q⟩;by_cases hj:j < i
 ·rw[if_pos hj,if_pos hj];exact⟨_,rfl⟩
 ·rw[if_neg hj,if_neg hj];exact⟨_,rfl⟩
theorem O90:g70 X (.type "int") (λxs H Q=>(∃ i,xs=[.int i]/\Q (.int i) H)∨∃ k,xs=[.bl k]/\Q (.int (if k then 1 else 0)) H):=by
 intro pins s σ H xs us Q I r h;rcases h with ⟨i,rfl,q⟩ | ⟨k,rfl,q⟩
 ·obtain⟨u,rfl,t,rfl⟩:=vals1 r;exact call_int_int ⟨.int i,H,I,⟨_,rfl⟩,q⟩
 ·obtain⟨u,rfl,r1⟩:=vals1 r;cases r1;exact call_int_bool ⟨.int (if k then 1 else 0),H,I.tok _,⟨_,rfl⟩,q⟩
end
structure v50(k:Nat)(A:Around):Prop where
 hd:A.handled=none
 dp:A.depth + 3 * k + 5 < recursionLimit
 un:A.units + 16 * k + 200 < cLine
theorem v50.deeper{k:Nat}{A:ö}(r:v50 (k + 1) A)(env:Env):v50 k (A.deeper env) :=
 ⟨r.hd,by have:=r.dp;show A.depth + 1 + 3 * k + 5 < _;omega,by have:=r.un;show A.units + 3 + 16 * k + 200 < _;omega⟩
theorem v50.depth{k:Nat}{A:ö}(r:v50 k A):A.depth < recursionLimit:=by have:=r.dp;omega
theorem v50.units{k:Nat}{A:ö}(r:v50 k A):A.units + 64 < cLine:=by have:=r.un;omega
def M12:TA:=λ_ H Q=>Q [] H
def k92(ta:TE)(tr:TA):TA:=λσ H Q=>ta σ H λx H1=>tr σ H1 λxs H2=>Q (x::xs) H2
section
variable {X:Cx}{e:Ð}{es:List Ð}{te:TE}{t:TA}{pos:Pos}
theorem n00:PA X [] M12:=λ_ _ _ _ H Q I h=>Ë8 ⟨[],H,I,.nil,h⟩
theorem d90(ha:PE X e te)(hr:PA X es t)(hs:À0 (e::es) X.env=(false,eval e X.env)::À0 es X.env:=by rfl):PA X (e::es) (k92 te t):=by
 intro pos pins s σ H Q I h;rw[hs];show Ñ _ _ (spliced ((false,eval e X.env)::Õ2 pos (À0 es X.env))) _ _ s;refine Ï2 (thn (ha pins s σ H _ I h) λu s1 ⟨x,H1,I1,r1,q1⟩=>?_);exact thn (hr pos pins s1 σ H1 _ I1 q1) λus s2 ⟨xs,H2,I2,r2,q2⟩=>⟨x::xs,H2,I2,.cons r1 r2,q2⟩
def P92(t:TA):TE:=λσ H Q=>t σ H λxs H1=>xs.length<=Ý/\∀ p,H1 p=none->Q (.ref p) (upd H1 p (.tup xs))
def Q02(t:TA):TE:=λσ H Q=>t σ H λxs H1=>xs.length<=Ý/\∀ p,H1 p=none->Q (.ref p) (upd H1 p (.lst xs))
theorem Q61{x1}(h:PA X es t):PE X (.Tuple es x1 pos) (P92 t):=by
 intro pins s σ H Q I hq;refine wpAny_Tuple_spliced (thn (h pos pins s σ H _ I hq) λus s1 ⟨xs,H1,I1,r,z,q⟩=>⟨by rw[← r.length];exact z,?_⟩)
 have hf:H1 s1.heap.objs.size=none:=I1.hok.fresh (Î _);refine⟨.ref s1.heap.objs.size,upd H1 s1.heap.objs.size (.tup xs),I1.laid (t':=s1.toks) (λb u e=>Ã _ e) (Î _) ?_,rfl,q _ hf⟩;exact⟨z,us,r,⟨_,Ë _ rfl,rfl,_,rfl⟩⟩
theorem o61(h:PA X es t):PE X (.List es pos) (Q02 t):=by
 intro pins s σ H Q I hq;refine wpAny_List_spliced (thn (h pos pins s σ H _ I hq) λus s1 ⟨xs,H1,I1,r,z,q⟩=>⟨by rw[← r.length];exact z,?_⟩)
 have hf:H1 s1.heap.objs.size=none:=I1.hok.fresh (Î _);refine⟨.ref s1.heap.objs.size,upd H1 s1.heap.objs.size (.lst xs),I1.laid (t':=s1.toks) (λb u e=>Ã _ e) (Î _) ?_,rfl,q _ hf⟩;exact⟨z,us,0,r,Ë _ rfl⟩
end
abbrev Sp:=List V->Hp->VK->XK->Prop
abbrev CXT:=List Env->Hp->Æ->XK->Ä->Æ->Prop
structure W31(P:Program)(w:World)(K:PySem.W.Frag)(mg:Str->Option Value)(base:Heap)(A:Around)(outer:List Env)(s:Shared)(H:Hp):Prop where
 frames:A.frames=some outer
 mod:Mod K mg base
 bs:∀ b o,base.get? b=some o->s.heap.get? b=some o/\H b=none
 bsz:base.objs.size<=s.heap.objs.size
 i71:s.heap.FunFrames base outer
 frf:∀ b∈frs outer,H b=none
 hok:HOk P w H s.heap
 bare:AllBare s.gens
def CE(outer:List Env)(P:à)(w:ê)(H:Hp)(s:Æ)(Q:VK)(u:Ä)(s':Æ):Prop :=
 ∃ v H',s'.os=s.os/\Ó5 s'.gens/\Un (frs outer) [] H H' s.heap s'.heap/\HOk P w H' s'.heap/\RelV v u/\Q v H'
def CR(CX:CXT)(outer:List Env)(P:à)(w:ê)(H:Hp)(s:Æ)(Q:VK)(E:XK)(r:Result)(s':Æ):Prop :=
 match r with
 |.ok (.ret u)=>CE outer P w H s Q u s'|.ok _=>False|.error e=>CX outer H s E e s'
structure V90(P:Program)(w:World)(K:PySem.W.Frag)(mg:Str->Option Value)(base:Heap)(CX:CXT)(k:Nat)(f:Addr)(fd:FuncData)(ps:List Str)(sp:Sp):Prop where
 len:∀ vs H Q E,sp vs H Q E->vs.length=ps.length
 run:∀ (A:Around) (outer:List Env) (s:Shared) (H:Hp) (args:Args) (us:List Value) (vs:List V) (Q:VK) (E:XK),v50 k A->W31 P w K mg base A outer s H->BindsTo s fd args (ps.zip us)->Vals vs us->sp vs H Q E ->
  codeAny (model P w) A (.call (.ref f) args) (CR CX outer P w H s Q E) s
section
variable {X:Cx}{pins:List (Ç × Obj)}{σ:St}{H:Hp}{s s':Æ}
theorem Inv.y72(I:Inv X pins σ H s):W31 X.prog X.w X.K X.mg X.base X.A X.stack s H :=
 ⟨I.ok.frames,I.ok.mod,I.bs,Þ I.ok.bsz I.sz,I.stack,I.v40,I.hok,I.bare⟩
theorem Inv.after{Q:VK}{u:Ä}(I:Inv X pins σ H s)(h:CE X.stack X.prog X.w H s Q u s'):EP X pins σ Q u s':=by
 obtain⟨v,H',os,bare,un,hok,r,q⟩:=h;obtain⟨hh,g,d,t,os'⟩:=s';obtain rfl:os'=s.os:=os;exact⟨v,H',I.call (h':=hh) (g':=g) (d':=d) (t':=t) (ch:=[]) un hok bare (λb z=>absurd z (by simp)),r,q⟩
end
def B92(sp:Sp)(dvs:List V)(E:XK)(t:TA):TE:=λσ H Q=>t σ H λvs H1=>sp (vs++dvs) H1 Q E
def Binds(K:Â)(fd:Â5)(ps:List Str)(ds:List Ä):Prop :=
 ∀ (s:Æ) (us:List Ä),K.In s.heap->(us++ds).length=ps.length->BindsTo s fd ⟨us,[]⟩ (ps.zip (us++ds))
theorem Binds.all{K:Â}{fd:Â5}{ps:List Str}(h:∀ us:List Ä,us.length=ps.length->bindArgs fd ⟨us,[]⟩=pure (ps.zip us)):Binds K fd ps []:=λs us _ hl=>by
 rw[Ë4] at hl ⊢;exact .of_eq (h us hl)
def Passes(CX:CXT)(X:Cx)(E:XK):Prop:=∀ (pins:List (Ç × Obj)) (σ:St) (H:Hp) (s:Æ) (e:Ä) (s':Æ),Inv X pins σ H s->CX X.stack H s E e s'->X.xe e s'
section
variable {X:Cx}{CX:CXT}{k:Nat}{f C:Ç}{fd:Â5}{ps:List Str}{sp:Sp}{dvs:List V}{ds:List Ä}{E:XK}{x m:Str}{p pos apos:Pos}{e o:Ð}{es:List Ð}{ta:TE}{t:TA}
theorem l02{pins:List (Ç × Obj)}{σ:St}{H:Hp}{s:Æ}{Q:VK}{us:List Ä}{vs:List V}(F:V90 X.prog X.w X.K X.mg X.base CX k f fd ps sp)(hr:v50 k X.A)(hb:Binds X.K fd ps ds)(hd:Vals dvs ds)(hx:Passes CX X E)
  (I:Inv X pins σ H s) (r:Vals vs us) (h:sp (vs++dvs) H Q E):Ñ (Ö X.prog X.w) X.A (call (.ref f) us) (EP X pins σ Q) X.xe s:=by
 have r2:Vals (vs++dvs) (us++ds):=r.append hd;have hl:(us++ds).length=ps.length:=by rw[← r2.length];exact F.len _ _ _ _ h
 refine Ñ6 (Æ8 (F.run X.A X.stack s H ⟨us,[]⟩ (us++ds) (vs++dvs) Q E hr I.y72 (hb s us I.kIn hl) r2 h) λr s' hq=>?_);cases r with
 |error e=>exact hx pins σ H s e s' I hq
 |ok fl =>
  cases fl with
  |ret u=>exact I.after hq|next=>exact ü hq
  |brk=>exact ü hq|cont=>exact ü hq
theorem W41(F:V90 X.prog X.w X.K X.mg X.base CX k f fd ps sp)(hr:v50 k X.A)(hg:Gl X x)(hm:X.mg x=some (.ref f))(hk:Ë0 X.K (.ref f)=true)(hb:Binds X.K fd ps ds)(hd:Vals dvs ds)(hx:Passes CX X E)
  (ha:PA X (e::es) t) (hdb:(x == ("__debug__":Str))=false:=by decide) (he:À0 (e::es) X.env=(false,eval e X.env)::À0 es X.env:=by rfl) (hpl:(Õ2 pos (À0 es X.env)).any (·.1)=false:=by rfl) :
  PE X (.Call (.Name x p) (e::es) [] pos) (B92 sp dvs E t):=by
 intro pins s σ H Q I h;refine Ç8 (A60 I hg hm ?_ hdb);refine callWith_K (h₀:=X.base) I.ok.mod.kin hk (thn (ha pos pins s σ H _ I h) λus s1 ⟨vs,H1,I1,r,q⟩=>⟨I1.kIn,?_⟩) he hpl;exact l02 F hr hb hd hx I1 r q
end
structure k30(N P:List Str)(sc:Scope):Prop where
 kind:sc.kind=.function
 co:sc.isCoroutine=false
 gen:sc.isGenerator=false
 nd:N.Nodup
 pre:N.take P.length=P
 par:∀ x∈P,sc.names.lookup x=some .local∨sc.names.lookup x=some .cell
 nofree:∀ y∈sc.names,y.2≠.free
theorem P00{kindOf:Str->Option Ë7}{x:Str}:∀ {binds:List (Str × Ä)}{m:Str->Option Ä},(∀ v,(x,v) ∉ binds)->bindL kindOf binds m x=m x
 |[],_,_=>rfl
 |(n,v)::r,m,h=>by
  unfold bindL;rw[P00 λw hw=>h w (Ê _ hw)];split
  ·have:x≠n:=by rintro rfl;exact h v Ì
   simp[this]
  ·rfl
theorem P10{kindOf:Str->Option Ë7}{x:Str}:∀ {binds:List (Str × Ä)}{m:Str->Option Ä},(∀ v,(x,v) ∉ binds)->bindC kindOf binds m x=m x
 |[],_,_=>rfl
 |(n,v)::r,m,h=>by
  unfold bindC;rw[P10 λw hw=>h w (Ê _ hw)];split
  ·rfl
  ·have:x≠n:=by rintro rfl;exact h v Ì
   simp[this]
theorem P20{kindOf:Str->Option Ë7}{x:Str}{v:Ä}:∀ {P:List Str}{vs:List Ä}{i:Nat}{m:Str->Option Ä},P.Nodup->P[i]?=some x->vs[i]?=some v->kindOf x=some .local ->
  bindL kindOf (P.zip vs) m x=some v
 |[],_,_,_,_,h,_,_=>by simp at h|_::_,[],_,_,_,_,h,_=>by simp at h
 |p::P,w::vs,0,m,nd,h1,h2,hk=>by
  simp at h1 h2;subst h1;subst h2;show bindL kindOf ((p,w)::P.zip vs) m p=_;unfold bindL;rw[P00 λv hv=>(Ó8.mp nd).1 (of_mem_zip hv).1,if_pos hk];simp
 |p::P,w::vs,i + 1,m,nd,h1,h2,hk=>by
  show bindL kindOf ((p,w)::P.zip vs) m x=_;unfold bindL;exact P20 (i:=i) (Ó8.mp nd).2 (by simpa using h1) (by simpa using h2) hk
theorem P30{kindOf:Str->Option Ë7}{x:Str}{v:Ä}:∀ {P:List Str}{vs:List Ä}{i:Nat}{m:Str->Option Ä},P.Nodup->P[i]?=some x->vs[i]?=some v->kindOf x≠some .local ->
  bindC kindOf (P.zip vs) m x=some v
 |[],_,_,_,_,h,_,_=>by simp at h|_::_,[],_,_,_,_,h,_=>by simp at h
 |p::P,w::vs,0,m,nd,h1,h2,hk=>by
  simp at h1 h2;subst h1;subst h2;show bindC kindOf ((p,w)::P.zip vs) m p=_;unfold bindC;rw[P10 λv hv=>(Ó8.mp nd).1 (of_mem_zip hv).1,if_neg hk];simp
 |p::P,w::vs,i + 1,m,nd,h1,h2,hk=>by
  show bindC kindOf ((p,w)::P.zip vs) m x=_;unfold bindC;exact P30 (i:=i) (Ó8.mp nd).2 (by simpa using h1) (by simpa using h2) hk
def start(N:List Str)(vs:List V):St:=vs.map some++î (N.length - vs.length) none
def F70(CX:CXT)(P:à)(w:ê)(K:Â)(mg:Str->Option Ä)(base:ë)(N:List Str)(qual:Str)(scope:í)(f:Ç)(cd:Ä)(A:ö)(outer:List Env)(s:Æ)(H:Hp)(E:XK):Cx where
 prog:=P
 w:=w
 K:=K
 mg:=mg
 base:=base
 A:=A.deeper (Ï8 qual scope s.heap.objs.size f cd)
 N:=N
 s₀:=s
 H₀:=H
 env:=Ï8 qual scope s.heap.objs.size f cd
 outer:=outer
 stack:=Ï8 qual scope s.heap.objs.size f cd::outer
 ex:=[]
 calm:=true
 fn:=λ_=>true
 pn:=[]
 xe:=λe s'=>Ñ (Ö P w) (A.deeper (Ï8 qual scope s.heap.objs.size f cd)) (leaving (Ï8 qual scope s.heap.objs.size f cd) e) (λ_ s''=>CX outer H s E e s'') (λe' s''=>CX outer H s E e' s'') s'
theorem c61{sc:í}{n:Nat}{x:Str}(h:sc.names.lookup x=some .cell):∃ c,(cellsFrom n sc.names []).lookup x=some c:=by
 have q:=cellsFrom_some sc.names n [] (.inl h);exact Ý8.mp q
theorem P40{CX:CXT}{P:à}{w:ê}{K:Â}{mg:Str->Option Ä}{base:ë}{N ps:List Str}{qual:Str}{scope:í}{f:Ç}{cd:Ä}{A:ö}{outer:List Env}{s s1:Æ}{H:Hp}{E:XK}{us:List Ä}{vs:List V}
  (S:k30 N ps scope) (hd:A.handled=none) (e0:W31 P w K mg base A outer s H) (hl:vs.length=ps.length) (r:Vals vs us)
  (x:InCallC s s.heap.objs.size (bindL (Ï8 qual scope s.heap.objs.size f cd).kindOf (ps.zip us) λ_=>none) (cellsFrom (s.heap.objs.size + 1) scope.names []) (bindC (Ï8 qual scope s.heap.objs.size f cd).kindOf (ps.zip us) λ_=>none) s1) :
  Inv (F70 CX P w K mg base N qual scope f cd A outer s H E) [] (start N vs) H s1:=by
 have hpl:ps.length<=N.length:=by have:=congrArg List.length S.pre;rw[Æ3] at this;omega
 obtain⟨h1,tk,rfl,hk⟩:=x.done;have noA:∀ b:Ç,b ∉ (F70 CX P w K mg base N qual scope f cd A outer s H E).ex:=λb z=>absurd (show b∈([]:List Ç) from z) (by simp)
 refine⟨⟨e0.mod,S.kind,rfl,rfl,Î _,λy z c h1 h2=>?_,λy hy=>?_,λy c _ h=>?_,λ_=>hd,ß9 e0.frames,.inr ⟨rfl,rfl⟩,λb z=>absurd z (noA b),e0.bs,e0.bsz,λb _ _=>noA b,λb z=>absurd z (noA b),e0.i71,e0.frf⟩,
  rfl,e0.bare,Un.kept hk,⟨_,x.toInCall.ns,λi y v h1 h2 h3=>?_⟩,λy c h=>⟨_,x.cell y c h⟩,e0.hok.fresh (Î _),λy c h=>?_,λp hp=>absurd (show p∈([]:List (Ç × Obj)) from hp) (by simp),e0.hok.kept hk,?_⟩
 ·exact name_of_addr x.apart (ÿ h1) (ÿ h2)
 ·have hy:scope.names.lookup y=some .cell∨scope.names.lookup y=some .free:=hy;rcases hy with hy | hy
  ·exact c61 hy
  ·exact absurd rfl (S.nofree _ (ÿ hy))
 ·exact É2 (x.above y c (ÿ h))
 ·have hi:i < vs.length:=by
   unfold start at h2;by_cases hi:i < vs.length
   ·exact hi
   ·rw[Å3 (by simpa using hi)] at h2
    rw[Ò7] at h2;split at h2 <;> cases h2
  have ha:vs[i]?=some v:=by
   unfold start at h2;rw[Ð8 (by simpa using hi),Ø] at h2
   cases e:vs[i]? with
   |none=>rw[e] at h2;cases h2
   |some a=>rw[e] at h2;cases h2;rfl
  obtain⟨u,hu,rv⟩:=r.get ha;have hp:ps[i]?=some y:=by
   rw[← S.pre,List.getElem?_take_of_lt ∅];exact h1
  have ndP:ps.Nodup:=by rw[← S.pre];exact S.nd.sublist (List.take_sublist _ _)
  refine⟨u,rv,?_⟩;rcases S.par y (â hp) with k | k
  ·exact .inl ⟨k,P20 ndP hp hu k⟩
  ·obtain⟨c,e⟩:=c61 (n:=s.heap.objs.size + 1) k;refine .inr ⟨.inl k,c,e,?_⟩;have q:=x.cell y c e;rw[P30 ndP hp hu (by show scope.names.lookup y≠_;rw[k];decide)] at q
   exact q
 ·exact e0.hok.fresh (É2 (x.above y c (ÿ h)))
 ·unfold start;show _=N.length;rw[À5,È,à4];omega
theorem C02{CX:CXT}{P:à}{w:ê}{K:Â}{mg:Str->Option Ä}{base:ë}{k:Nat}{f:Ç}{name qual:Str}{params:È6}{body:List Â3}{scope:í}{dV kV doc pm cdv ct oc:Ä}{an od:Option Ç}
  {osl:Array (Option Ä)}{N ps:List Str}{sp:Sp} (lk:K.lookup f=some ⟨oc,od,.func (fnOf name qual params body scope dV kV doc pm an cdv ct),osl⟩) (hcd:PySem.W.codeIn K cdv qual=true) (S:k30 N ps scope)
  (len:∀ vs H Q E,sp vs H Q E->vs.length=ps.length)
  (hbody:∀ (A:ö) (outer:List Env) (s:Æ) (H:Hp) (vs:List V) (Q:VK) (E:XK),v50 k (A.deeper (Ï8 qual scope s.heap.objs.size f cdv))->sp vs H Q E ->
   ∃ t,PSs (F70 CX P w K mg base N qual scope f cdv A outer s H E) body t/\t { nx:=λ_ H'=>Q .non H',rt:=Q } (start N vs) H) :
  V90 P w K mg base CX (k + 1) f (fnOf name qual params body scope dV kV doc pm an cdv ct) ps sp:=by
 refine⟨len,λA outer s H args us vs Q E hr e0 hb r hsp=>?_⟩;have hl:=len _ _ _ _ hsp;have KX:K.In s.heap:=e0.mod.kin.keeps λb o e=>(e0.bs b o e).1;have lim:s.heap.NoLimit:=e0.mod.nolimit.keeps λb o e=>(e0.bs b o e).1;have hkind:∀ y∈ps.zip us,scope.names.lookup y.1=some .local∨(scope.names.lookup y.1=some .cell/\((cellsFrom (s.heap.objs.size + 1) scope.names []).lookup y.1).isSome=true):=λ⟨n,v⟩ hy=>by
  rcases S.par n (of_mem_zip hy).1 with q | q
  ·exact .inl q
  ·exact .inr ⟨q,cellsFrom_some _ _ _ (.inl q)⟩
 refine codeAny_call_function hr.depth (KX _ _ lk) rfl S.co S.gen rfl (codeRec_of KX hcd) (hb _ _ _ _ ?_);refine à0 S.kind hkind λenv he s1 x=>?_;subst he;refine⟨lim.keeps x.toInCall.keep,codeAny_func ?_⟩;obtain⟨t,ht,hq⟩:=hbody A outer s H vs Q E (hr.deeper _) hsp;have I:Inv (F70 CX P w K mg base N qual scope f cdv A outer s H E) [] (start N vs) H s1:=P40 S hr.hd e0 hl r x;refine Â2 (ht [] s1 (start N vs) H _ I hq) (λfl s' hs=>?_) λe s' hs=>hs;have fin:∀ {σ':St}{H':Hp}{v:V}{u:Ä},Inv (F70 CX P w K mg base N qual scope f cdv A outer s H E) [] σ' H' s'->RelV v u->Q v H'->CE outer P w H s Q u s' :=
  λ{σ' H' v u} J rv q=>⟨v,H',J.os,J.bare,J.base,J.hok,rv,q⟩
 cases fl with
 |ret u =>
  obtain⟨v,σ',H',J,rv,q⟩:=hs;exact fin J rv q
 |next =>
  obtain⟨σ',H',J,q⟩:=hs;exact fin (v:=V.non) (u:=å) J rfl q
 |brk =>
  obtain⟨_,_,_,q⟩:=hs;exact ü q
 |cont =>
  obtain⟨_,_,_,q⟩:=hs;exact ü q
section
variable {X:Cx}{x:Str}{p pos:Pos}{e:Ð}{es:List Ð}{t:TA}{id T:String}{r:List V->Hp->VK->Prop}
def tCB(r:List V->Hp->VK->Prop)(t:TA):TE:=λσ H Q=>t σ H λvs H1=>r vs H1 Q
theorem t20(hc:g70 X (.builtin id) r)(hg:Gl X x)(hm:X.mg x=none)(hv:ñ x=some (.builtin id))(ha:PA X (e::es) t)(hn:x≠"__name__":=by decide)(hdb:(x == ("__debug__":Str))=false:=by decide)
  (he:À0 (e::es) X.env=(false,eval e X.env)::À0 es X.env:=by rfl) (hpl:(Õ2 pos (À0 es X.env)).any (·.1)=false:=by rfl):PE X (.Call (.Name x p) (e::es) [] pos) (tCB r t):=by
 intro pins s σ H Q I h;refine Ç8 (t10 I hg hm hv ?_ hn hdb);exact PyProof.Rows.callWith_builtin1 (thn (ha pos pins s σ H _ I h) λus s1 ⟨vs,H1,I1,r1,q1⟩=>hc pins s1 σ H1 vs us Q I1 r1 q1) he hpl
theorem P50(hc:g70 X (.type T) r)(hg:Gl X x)(hm:X.mg x=none)(hv:ñ x=some (.type T))(ha:PA X (e::es) t)(hn:x≠"__name__":=by decide)(hdb:(x == ("__debug__":Str))=false:=by decide)
  (he:À0 (e::es) X.env=(false,eval e X.env)::À0 es X.env:=by rfl) (hpl:(Õ2 pos (À0 es X.env)).any (·.1)=false:=by rfl):PE X (.Call (.Name x p) (e::es) [] pos) (tCB r t):=by
 intro pins s σ H Q I h;refine Ç8 (t10 I hg hm hv ?_ hn hdb);exact Á3 (thn (ha pos pins s σ H _ I h) λus s1 ⟨vs,H1,I1,r1,q1⟩=>hc pins s1 σ H1 vs us Q I1 r1 q1) he hpl
end
end L2
namespace HT
open PySem PyProof.Rows
theorem F41(A:ö)(s:Æ)(a:Int)(t:Tok)(c:Int)(u:Tok):∃ e,Ö2 A s (.int a t) (.int c u) e/\(e=true↔a=c) :=
 ⟨(a == c),Ö2.int_int a t c u,by simp⟩
theorem c71(A:ö)(s:Æ)(a:Int)(t:Tok)(c:Int)(u:Tok)(prog:à)(w:ê)(E:Ä->Æ->Prop)(Q:Ä->Æ->Prop)(h:Q (.bool (decide (a < c))) s) :
  Ñ (Ö prog w) A (richCompare .Lt (.int a t) (.int c u)) Q E s :=
 (lt_int h:Ñ (Ö prog w) A (À2 .Lt (.int a t) (.int c u)) Q E s)
section
variable {prog:à}{w:ê}{A:ö}{E:Ä->Æ->Prop}{s:Æ}
theorem W51{t b:Ç}{vs ws:List Ä}{Q:Ä->Æ->Prop}(ht:Ï1 s.heap t vs.toArray)(hb:Ï1 s.heap b ws.toArray)(hv:vs≠[])
  (h1:ws=[]->Q (.ref t) s) (h2:ws≠[]->Q (.ref s.heap.objs.size) { s with heap:=s.heap.push { cls:=.type "tuple",data:=.seq (vs++ws).toArray } })
  (hsz:vs.length + ws.length<=Ý):Ñ (Ö prog w) A (Ä1 .Add (.ref t) (.ref b)) Q E s:=by
 obtain⟨⟨cls,dd,data,sl⟩,ho,hc,n,hd⟩:=id ht;obtain⟨⟨cls2,dd2,data2,sl2⟩,ho2,hc2,n2,hd2⟩:=id hb;simp only at hc hd hc2 hd2;subst hc hd hc2 hd2;have e:vs.toArray++ws.toArray=(vs++ws).toArray:=by simp
 by_cases hw:ws=[]
 ·exact concat_meets ⟨_,ho,rfl⟩ ⟨_,ho2,rfl⟩ Þ4 seq_tuple_add Ò3 Ñ3 (Ð1 _ _)
   (tuple_addW1 t b vs.toArray ws.toArray n n2 dd dd2 sl sl2 (by simpa using hv) (by simp[hw])) ⟨ho,ho2,h1 hw⟩
 ·refine concat_meets ⟨_,ho,rfl⟩ ⟨_,ho2,rfl⟩ Þ4 seq_tuple_add Ò3 Ñ3 (Ð1 _ _)
   (tuple_addW2 t b vs.toArray ws.toArray n n2 dd dd2 sl sl2 (by simpa using hv) (by simpa using hw) (by rw[Ô,Ô];exact hsz)) ⟨ho,ho2,?_⟩
  rw[e];exact h2 hw
def sIx(n d:Nat):Option Int->Nat
 |none=>d|some v=>if v < 0 then(v + (n:Int)).toNat else min v.toNat n
theorem o71(n d k:Nat):sIx n d (some (k:Int))=min k n:=by
 show(if (k:Int) < 0 then((k:Int) + (n:Int)).toNat else min (k:Int).toNat n)=min k n;rw[if_neg ∅,À1]
theorem l12(n d:Nat)(hd:d<=n)(o:Option Int):sIx n d o<=n:=by
 cases o with
 |none=>exact hd
 |some v =>
  show(if v < 0 then(v + (n:Int)).toNat else min v.toNat n)<=n;by_cases hv:v < 0
  ·rw[if_pos hv];omega
  ·rw[if_neg hv];exact Nat.min_le_right _ _
theorem o81(v:Int)(n d:Nat):(if v < 0 then max (v + (n:Int)) 0 else min v (n:Int))=((sIx n d (some v):Nat):Int):=by
 show(if v < 0 then max (v + (n:Int)) 0 else min v (n:Int))=(((if v < 0 then(v + (n:Int)).toNat else min v.toNat n):Nat):Int);by_cases hv:v < 0
 ·simp only[if_pos hv];omega
 ·simp only[if_neg hv];omega
theorem j01(lo hi:Option Int)(n:Nat):Í4 lo hi 1 (n:Int)=(((sIx n 0 lo:Nat):Int),((sIx n n hi:Nat):Int)):=by
 have h1:¬ ((1:Int) < 0):=by omega
 unfold Í4;simp only[h1,if_false];refine Prod.ext ?_ ?_
 ·cases lo with
  |none=>rfl|some v=>exact o81 v n 0
 ·cases hi with
  |none=>rfl|some v=>exact o81 v n n
theorem j11(i j:Nat):È9 (i:Int) (j:Int) 1=j - i:=by
 unfold È9;have h1:(1:Int) > 0:=by omega
 simp only[h1,if_true,Int.ediv_one];split <;> omega
theorem G60{v:Ä}{o:Option Int}{Q:Option Int->Æ->Prop}(p:Ø9 v o)(h:Q o s):Ñ (Ö prog w) A (À3.Slice.slicePartIndex v) Q E s:=by
 cases p with
 |none=>exact Ø2 h|int i t=>exact slicePart_int h
theorem n10{sl:Ç}{vl vu:Ä}{lo hi:Option Int}{n:Nat}{Q:Int × Int × Nat->Æ->Prop}(hs:s.heap.IsSliceOf sl vl vu .none)(pl:Ø9 vl lo)(pu:Ø9 vu hi)
  (h:Q (((sIx n 0 lo:Nat):Int),1,sIx n n hi - sIx n 0 lo) s):Ñ (Ö prog w) A (Ô1 (.ref sl) (pure (n:Int))) Q E s:=by
 obtain⟨os,hos,hcs,hds⟩:=id hs;unfold Ô1 sliceFields;refine À (À (Á7 hos hds (x:=vl) rfl (À (Á7 hos hds (x:=vu) rfl (À (Á7 hos hds (x:=.none) rfl (Å ?_)))))));refine À (Ø2 ?_);show Ñ _ _ (if ((1:Int) == 0)=true then _ else _) _ _ s;rw[if_neg (-0)]
 refine À (G60 pl (À (G60 pu (À (Å ?_)))));show Ñ _ _ (match Í4 lo hi 1 (n:Int) with | (lo,hi)=>pure (lo,(1:Int),È9 lo hi 1)) _ _ s
 rw[j01 lo hi n];show Ñ _ _ (pure (((sIx n 0 lo:Nat):Int),(1:Int),È9 ((sIx n 0 lo:Nat):Int) ((sIx n n hi:Nat):Int) 1)) _ _ s;rw[j11];exact Å h
theorem F51(xs:Array Ä)(i k:Nat):((ð k).filterMap λ(m:Nat)=>xs[((i:Int) + (m:Int) * 1).toNat]?).toArray=((xs.toList.drop i).take k).toArray:=by
 have e:(λ(m:Nat)=>xs[((i:Int) + (m:Int) * 1).toNat]?)=λm=>xs[i + m]?:=by
  funext m
  have:((i:Int) + (m:Int) * 1).toNat=i + m:=by omega
  rw[this]
 rw[e];have:=pick_run xs i k;rw[List.filterMap_map] at this;have e2:((λx=>xs[x]?) ∘ λx=>i + x)=λm=>xs[i + m]?:=rfl;rw[e2] at this;rw[this]
theorem v60{t sl:Ç}{items:Array Ä}{vl vu:Ä}{lo hi:Option Int}{Q:Ä->Æ->Prop}(ht:Ï1 s.heap t items)(hs:s.heap.IsSliceOf sl vl vu .none)(pl:Ø9 vl lo)(pu:Ø9 vu hi)
  (hw:¬ (sIx items.size 0 lo=0/\sIx items.size items.size hi=items.size))
  (h:Q (.ref s.heap.objs.size) { s with heap:=s.heap.push { cls:=.type "tuple",data:=.seq ((items.toList.drop (sIx items.size 0 lo)).take (sIx items.size items.size hi - sIx items.size 0 lo)).toArray } })
  (hsz:items.size<=Ý):Ñ (Ö prog w) A (Ó3 (.ref t) (.ref sl)) Q E s:=by
 have htake:sizeOk (.seq ((items.toList.drop (sIx items.size 0 lo)).take (sIx items.size items.size hi - sIx items.size 0 lo)).toArray):=by
  show((items.toList.drop (sIx items.size 0 lo)).take (sIx items.size items.size hi - sIx items.size 0 lo)).toArray.size<=Ý;rw[Ô,Æ3,Í5,Ê8];omega
 have hj:sIx items.size items.size hi<=items.size:=l12 _ _ (Î _) hi;obtain⟨os,hos,hcs,hds⟩:=id hs;have hTs:s.TypeIs (.ref sl) "slice":=⟨os,hos,hcs⟩;unfold Ó3
 try with_reducible refine Á0 ?_
 first | refine À (Å ?_) | skip
 refine À (Ü6 ht.typeIs (-0) ?_)
 refine À (À9 (name:=Á2 "__getitem__") ht.typeIs õ
  (À8 õ ht.typeIs entry_tuple_getitem ?_ (Û6 _ _)))
 show Ñ _ _ (tupleItemsOf (.ref t) >>= _) _ _ s;refine À (tupleItemsOf_ ht ?_);refine À (Ç6 hTs ?_);rw[if_pos (-0)]
 refine À (n10 hs pl pu ?_);have hno:¬ ((((sIx items.size 0 lo:Nat):Int) == 0&&(1:Int) == 1&&(sIx items.size items.size hi - sIx items.size 0 lo) == items.size)=true):=by
  intro q;rw[Á,Á] at q;have q1:((sIx items.size 0 lo:Nat):Int)=0:=eq_of_beq q.1.1;have q2:sIx items.size items.size hi - sIx items.size 0 lo=items.size:=eq_of_beq q.2;exact hw ⟨by omega,by omega⟩
 show Ñ _ _ (if (((sIx items.size 0 lo:Nat):Int) == 0&&(1:Int) == 1&&(sIx items.size items.size hi - sIx items.size 0 lo) == items.size)=true then _ else _) _ _ s;rw[if_neg hno,F51]
 first
  |exact À (m:=Æ6 _) (é (Å ⟨_,rfl,Å h⟩) htake)
  |exact À (m:=Æ6 _) (é (À (Å (Å ⟨_,rfl,Å h⟩))) htake)
  |exact À (À (m:=Æ6 _) (é (Å (Å ⟨_,rfl,Å h⟩)) htake))
  |exact À (À (m:=Æ6 _) (é (Å ⟨_,rfl,Å h⟩) htake))
end
end HT
namespace L2
open PySem PySem.Spec PyProof.Rows
abbrev TO:=St->Hp->(Option Int->Hp->Prop)->Prop
def PO(X:Cx)(e:Option Ð)(t:TO):Prop :=
 ∀ (pins:List (Ç × Obj)) (s:Æ) (σ:St) (H:Hp) (Q:Option Int->Hp->Prop),Inv X pins σ H s->t σ H Q ->
  Ñ (Ö X.prog X.w) X.A (evalPart e X.env) (λu s'=>∃ o H',Inv X pins σ H' s'/\Ø9 u o/\Q o H') X.xe s
def W61:TO:=λ_ H Q=>Q none H
def C12(t:TE):TO:=λσ H Q=>t σ H λx H1=>∃ i,x=.int i/\Q (some i) H1
theorem intsAre_of{ns:List Int}:∀ {us:List Ä},Vals (ns.map V.int) us->Ì0 us ns:=by
 induction ns with
 |nil=>intro us r;rw[map_nil] at r;cases r;exact .nil
 |cons n ns ih =>
  intro us r;rw[Å6] at r;cases r with
  |cons r1 r2 =>
   obtain⟨t,e⟩:=r1;subst e;exact .cons n t (ih r2)
section
variable {X:Cx}{e:Ð}{te:TE}{lo hi:Option Ð}{tl th:TO}{pos p2:Pos}
theorem W71:PO X none W61:=by
 intro pins s σ H Q I h;rw[evalPart_none];exact Å ⟨none,H,I,.none,h⟩
theorem W81(h:PE X e te):PO X (some e) (C12 te):=by
 intro pins s σ H Q I hw;rw[evalPart_some];refine thn (h pins s σ H _ I hw) λu s1 ⟨x,H1,I1,r1,q1⟩=>?_;obtain⟨i,rfl,q⟩:=q1;obtain⟨t,rfl⟩:=r1;exact⟨some i,H1,I1,.int i t,q⟩
def SlR(X:Cx)(r:V->Option Int->Option Int->Hp->VK->Prop):Prop :=
 ∀ (pins:List (Ç × Obj)) (s:Æ) (σ:St) (H:Hp) (x:V) (v vl vu:Ä) (lo hi:Option Int) (sl:Ç) (Q:VK),Inv X pins σ H s->RelV x v->s.heap.IsSliceOf sl vl vu .none->Ø9 vl lo->Ø9 vu hi->r x lo hi H Q ->
  ∃ T id,typeLookup (.type T) "__getitem__"=pure (some (.builtin id))/\s.TypeIs v T/\Ñ (Ö X.prog X.w) X.A (Ó3 v (.ref sl)) (EP X pins σ Q) X.xe s
def tSl(r:V->Option Int->Option Int->Hp->VK->Prop)(te:TE)(tl th:TO):TE:=λσ H Q=>te σ H λx H1=>tl σ H1 λl H2=>th σ H2 λu H3=>r x l u H3 Q
theorem F61{r:V->Option Int->Option Int->Hp->VK->Prop}(hr:SlR X r)(he:PE X e te)(hl:PO X lo tl)(hu:PO X hi th):PE X (.Subscript e (.Slice lo hi none p2) pos) (tSl r te tl th):=by
 intro pins s σ H Q I h;refine Subscript_ (thn (he pins s σ H _ I h) λv s1 ⟨x,H1,I1,r1,q1⟩=>?_);refine wpAny_Slice (thn (hl pins s1 σ H1 _ I1 q1) λvl s2 ⟨l,H2,I2,pl,q2⟩=>thn (hu pins s2 σ H2 _ I2 q2) λvu s3 ⟨u,H3,I3,pu,q3⟩=>?_);rw[evalPart_none];refine Å ?_;have I4:Inv X pins σ H3 { s3 with heap:=s3.heap.push { cls:=.type "slice",data:=.fields #[vl,vu,.none] } }:=I3.kept (t':=s3.toks) λb ob q=>Ã _ q;obtain⟨T,id,hT,ht,hg⟩:=hr pins { s3 with heap:=s3.heap.push { cls:=.type "slice",data:=.fields #[vl,vu,.none] } } σ H3 x v vl vu l u s3.heap.objs.size Q I4 r1 (Ò9 ..) pl pu q3;show Ñ (Ö X.prog X.w) X.A (subscriptTail e (.Slice lo hi none p2) v (.ref s3.heap.objs.size)) (EP X pins σ Q) X.xe { s3 with heap:=s3.heap.push { cls:=.type "slice",data:=.fields #[vl,vu,.none] } };exact tail_any (ops:=[.ref s3.heap.objs.size,v]) ht hT hg (by with_unfolding_all rfl)
def F71(xs:List V)(lo hi:Option Int):List V:=(xs.drop (HT.sIx xs.length 0 lo)).take (HT.sIx xs.length xs.length hi - HT.sIx xs.length 0 lo)
theorem A80(xs:List V)(lo hi:Option Int):(F71 xs lo hi).length<=xs.length:=by
 unfold F71;rw[Æ3,Í5];omega
theorem Vals.J00{xs:List V}{us:List Ä}(r:Vals xs us):us=[]↔xs=[]:=by
 cases r with
 |nil=>simp|cons _ _=>simp
end
def ixN(n:Nat)(i:Int):Option Nat:=if 0<=i then(if i < n then some i.toNat else none) else if -(n:Int)<=i then some (i + n).toNat else none
def atI{α:Type}(xs:List α)(i:Int):Option α:=(ixN xs.length i).bind λj=>xs[j]?
theorem o91{n:Nat}{i:Int}{j:Nat}(h:ixN n i=some j):seqIndex? i n=some j/\j < n/\-(n:Int)<=i/\i < n:=by
 unfold ixN at h;by_cases h0:0<=i
 ·rw[if_pos h0] at h;by_cases h1:i < n
  ·rw[if_pos h1] at h;have e:i.toNat=j:=û h;exact⟨by rw[Ø3 h0 h1,e],by omega,by omega,h1⟩
  ·rw[if_neg h1] at h;cases h
 ·rw[if_neg h0] at h;by_cases h1:-(n:Int)<=i
  ·rw[if_pos h1] at h;have e:(i + n).toNat=j:=û h;exact⟨by rw[seqIndex_neg ∅ h1,e],by omega,h1,by omega⟩
  ·rw[if_neg h1] at h;cases h
theorem W70{α:Type}{xs:List α}{i:Int}{v:α}(h:atI xs i=some v):∃ j,seqIndex? i xs.length=some j/\xs[j]?=some v/\j < xs.length/\-(xs.length:Int)<=i/\i < xs.length:=by
 unfold atI at h;cases e:ixN xs.length i with
 |none=>rw[e] at h;cases h
 |some j =>
  rw[e] at h;obtain⟨h1,h2,h3,h4⟩:=o91 e;exact⟨j,h1,h,h2,h3,h4⟩
theorem v70{α:Type}{xs:List α}{j:Nat}{v:α}(h:xs[j]?=some v):atI xs (j:Int)=some v:=by
 have hj:j < xs.length:=(ß.mp h).1;have e:ixN xs.length (j:Int)=some j:=by
  unfold ixN;rw[if_pos ∅,if_pos ∅];simp
 unfold atI;rw[e];exact h
def p01(b:Ð):Prop:=∀ o i,subscripted b false o i=operate [o,i] (Ó3 o i)
def IxR(X:Cx)(r:R2):Prop :=
 ∀ (value slice:Ð) (pins:List (Ç × Obj)) (s:Æ) (σ:St) (H:Hp) (x y:V) (v u:Ä) (Q:VK),Inv X pins σ H s->RelV x v->RelV y u->r x y H Q ->
  subscripted slice false v u=operate [v,u] (Ó3 v u)->Ñ (Ö X.prog X.w) X.A (subscriptTail value slice v u) (EP X pins σ Q) X.xe s
def MtR(X:Cx)(id:String)(r:V->List V->Hp->VK->Prop):Prop :=
 ∀ (pins:List (Ç × Obj)) (s:Æ) (σ:St) (H:Hp) (x:V) (xs:List V) (v:Ä) (us:List Ä) (Q:VK),Inv X pins σ H s->RelV x v->Vals xs us->r x xs H Q ->
  Ñ (Ö X.prog X.w) X.A (call (.builtin id) (v::us)) (EP X pins σ Q) X.xe s
section
variable {X:Cx}{a b:Ð}{ta tb:TE}{pos:Pos}
theorem W91{r:R2}(hr:IxR X r)(ha:PE X a ta)(hb:PE X b tb)(hs:p01 b):PE X (.Subscript a b pos) (tOp r ta tb):=by
 intro pins s σ H Q I h;exact Subscript_ (B22 ha hb I h λv u s2 x y H2 I2 rx ry q=>hr a b pins s2 σ H2 x y v u Q I2 rx ry q (hs _ _))
def C22(K:Â):R2:=λx y H Q=>∃ p xs i v,x=.ref p/\y=.int i/\SqL K H p xs/\atI xs i=some v/\Q v H
def Q12(K:Â):R2:=λx y H Q=>∃ p xs i v,x=.ref p/\y=.int i/\SqT K H p xs/\atI xs i=some v/\Q v H
theorem W80:IxR X (C22 X.K):=by
 intro value slice pins s σ H x y v u Q I rx ry h hs;obtain⟨p,xs,i,z,rfl,rfl,hq,he,q⟩:=h;cases rx;obtain⟨t,rfl⟩:=ry;obtain⟨its,r,pl,hz⟩:=I.list hq;obtain⟨j,h1,h2,h3,h4,h5⟩:=W70 he;obtain⟨w,ew,rw'⟩:=r.get h2;have hl:=r.length;have hn:=O80;have fin:EP X pins σ Q w s:=⟨z,H,I,rw',q⟩;by_cases h0:0<=i
 ·have hj:i.toNat=j:=by
   rw[Ø3 h0 h5] at h1;exact û h1
  exact item_listR pl.isList h0 ∅ (by rw[hj];simpa using ew) fin hs
 ·have hj:(i + (its.toArray.size:Int)).toNat=j:=by
   rw[seqIndex_neg ∅ h4] at h1
   rw[Ô,← hl];exact û h1
  exact subscriptTail_builtinR (x:=w) pl.isList.typeIs slot_list_getitem.lookup
   (wpAny_getItem_list_neg (Q:=λr s'=>r=w/\EP X pins σ Q r s') pl.isList ∅ (by rw[Ô] <;> omega) ∅ (by rw[hj];simpa using ew) ⟨rfl,fin⟩) hs
theorem l22:IxR X (Q12 X.K):=by
 intro value slice pins s σ H x y v u Q I rx ry h hs;obtain⟨p,xs,i,z,rfl,rfl,hq,he,q⟩:=h;cases rx;obtain⟨t,rfl⟩:=ry;obtain⟨its,r,pl,hz⟩:=I.tuple hq;obtain⟨j,h1,h2,h3,h4,h5⟩:=W70 he;obtain⟨w,ew,rw'⟩:=r.get h2;have hl:=r.length;have hn:=O80;have fin:EP X pins σ Q w s:=⟨z,H,I,rw',q⟩;exact subscriptTail_builtinR (x:=w) pl.typeIs slot_tuple_getitem.lookup
  (getItem_tuple (j:=j) (Q:=λr s'=>r=w/\EP X pins σ Q r s') pl ∅ ∅ (by rw[Ô,← hl];exact h1) (by simpa using ew) ⟨rfl,fin⟩) hs
theorem j21(its:List Ä)(n j:Nat)(u:Ä):À4 (·.setIfInBounds j u) { cls:=.type "list",data:=.seq its.toArray n }={ cls:=.type "list",data:=.seq (its.set j u).toArray n }:=by
 simp[À4]
theorem Inv.lst{pins:List (Ç × Obj)}{σ:St}{H:Hp}{s:Æ}{p:Ç}{xs:List V}(I:Inv X pins σ H s)(h:H p=some (.lst xs)) :
  ∃ (its:List Ä) (n:Nat),Vals xs its/\s.heap.get? p=some { cls:=.type "list",data:=.seq its.toArray n }/\xs.length<=sizeLine:=by
 obtain⟨z,its,n,r,e⟩:=I.hok p _ h;exact⟨its,n,r,e,z⟩
theorem Inv.l32{pins:List (Ç × Obj)}{σ:St}{H:Hp}{s:Æ}{p:Ç}{xs ys:List V}{its its':List Ä}{n n':Nat}{f:Obj->Obj}(I:Inv X pins σ H s)(h:H p=some (.lst xs))
  (ho:s.heap.get? p=some { cls:=.type "list",data:=.seq its.toArray n }) (hf:f { cls:=.type "list",data:=.seq its.toArray n }={ cls:=.type "list",data:=.seq its'.toArray n' }) (r:Vals ys its') (hz:ys.length<=Ý) (t:Nat) :
  Inv X pins σ (upd H p (.lst ys)) { s with heap:=s.heap.update p f,toks:=t }:=by
 have e:(s.heap.update p f).get? p=some { cls:=.type "list",data:=.seq its'.toArray n' }:=by
  rw[Ç5 f ho (by rw[hf] <;> rfl),hf]
 refine I.write (x:=p) (e:=p) (by rw[h];trivial) (.inl rfl) (λb u hb q=>(Ì1 _ _ (Á6 hb)).trans q) ⟨_,e⟩ ?_
 exact⟨hz,its',n',r,e⟩
def C32:V->V->V->Hp->(Hp->Prop)->Prop:=λo i v H Q=>∃ p xs k j,o=.ref p/\i=.int k/\H p=some (.lst xs)/\ixN xs.length k=some j/\Q (upd H p (.lst (xs.set j v)))
theorem set_list:A82 X C32:=by
 intro pins s σ H o i v ov iv u Q I ro ri rv h;obtain⟨p,xs,k,j,rfl,rfl,hp,hj,q⟩:=h;cases ro;obtain⟨t,rfl⟩:=ri;obtain⟨its,n,r,ho,hz⟩:=I.lst hp;obtain⟨h1,h2,h3,h4⟩:=o91 hj;have hl:=r.length;have hn:=O80;have I':Inv X pins σ (upd H p (.lst (xs.set j v))) { s with heap:=s.heap.update p (À4 (·.setIfInBounds j u)) } :=
  I.l32 hp ho (j21 its n j u) (r.set rv j) (by rw[Â0];exact hz) s.toks
 by_cases h0:0<=k
 ·have hk:k.toNat=j:=by
   rw[Ø3 h0 h4] at h1;exact û h1
  exact PySem.W.ki_setAt ho h0 ∅ (by rw[Ô,← hl];exact h4) (by rw[hk];exact⟨_,I',q⟩)
 ·have hk:(k + (its.toArray.size:Int)).toNat=j:=by
   rw[seqIndex_neg ∅ h3] at h1
   rw[Ô,← hl];exact û h1
  exact PySem.W.ki_setBack ho ∅ (by rw[Ô,← hl];exact h3) ∅ (by rw[hk];exact⟨_,I',q⟩)
theorem P60(lo hi:Option Int)(n:Nat):(Î6 lo hi none n).1=((HT.sIx n 0 lo:Nat):Int)/\(Î6 lo hi none n).2.1=((HT.sIx n n hi:Nat):Int)/\(Î6 lo hi none n).2.2=1:=by
 refine⟨?_,?_,rfl⟩
 ·cases lo with
  |none=>simp[Î6,HT.sIx]
  |some i =>
   simp only[Î6,HT.sIx,getD_none,show(1:Int) > 0 by decide,if_true]
   by_cases h:i < 0
   ·simp only[h,if_true] <;> omega
   ·simp only[h,if_false] <;> omega
 ·cases hi with
  |none=>simp[Î6,HT.sIx]
  |some i =>
   simp only[Î6,HT.sIx,getD_none,show(1:Int) > 0 by decide,if_true]
   by_cases h:i < 0
   ·simp only[h,if_true] <;> omega
   ·simp only[h,if_false] <;> omega
theorem J10(its:List Ä)(lo hi:Option Int):slicePick its.toArray lo hi none=((its.drop (HT.sIx its.length 0 lo)).take (HT.sIx its.length its.length hi - HT.sIx its.length 0 lo)).toArray:=by
 obtain⟨h1,h2,h3⟩:=P60 lo hi its.toArray.size;unfold slicePick;rw[h1,h2,h3];simp only[sliceRange_one,pick_run,Ô] <;> rfl
def Q22(K:Â):V->Option Int->Option Int->Hp->VK->Prop:=λx lo hi H Q=>∃ a xs,x=.ref a/\SqL K H a xs/\∀ p,H p=none->Q (.ref p) (upd H p (.lst (F71 xs lo hi)))
theorem X01:SlR X (Q22 X.K):=by
 intro pins s σ H x v vl vu lo hi sl Q I rx hs pl pu h;obtain⟨a,xs,rfl,hx,q⟩:=h;cases rx;obtain⟨its,r,ht,hz⟩:=I.list hx;have hlen:=r.length;refine⟨"list",_,slot_list_getitem.lookup,ht.isList.typeIs,?_⟩;refine wpAny_getItem_list_slice ht.isList hs pl pu .none (by simp) ?_ (by rw[Ô] <;> omega)
 rw[J10,← hlen];refine⟨.ref s.heap.objs.size,_,I.laid (t':=s.toks) (o:=.lst (F71 xs lo hi)) (λb ob q=>Ã _ q) (Î _) ?_,rfl,q _ (I.hok.fresh (Î _))⟩;exact⟨Þ (A80 xs lo hi) hz,_,0,(r.drop (HT.sIx xs.length 0 lo)).take (HT.sIx xs.length xs.length hi - HT.sIx xs.length 0 lo),Ë _ rfl⟩
theorem P70:g70 X (.builtin "len") (λxs H Q=>∃ p ys,xs=[.ref p]/\(SqL X.K H p ys∨SqT X.K H p ys)/\Q (.int ys.length) H):=by
 intro pins s σ H xs us Q I r h;obtain⟨p,ys,rfl,hq,q⟩:=h;obtain⟨u,rfl,rx⟩:=vals1 r;cases rx;have hn:=O80;rcases hq with hq | hq
 ·obtain⟨its,r',pl,hz⟩:=I.list hq;have hlen:=r'.length;exact Calls.call_len_list pl.isList (by simp only[Ô] <;> omega) ⟨.int ys.length,H,I.tok _,⟨s.toks + 1,by rw[Ô,hlen]⟩,q⟩
 ·obtain⟨its,r',pl,hz⟩:=I.tuple hq;have hlen:=r'.length;exact len_tuple pl (by simp only[Ô] <;> omega) ⟨.int ys.length,H,I.tok _,⟨s.toks + 1,by rw[Ô,hlen]⟩,q⟩
theorem P80:g70 X (.type "list") (λxs H Q=>∃ p ys,xs=[.ref p]/\(SqL X.K H p ys∨SqT X.K H p ys)/\∀ l,H l=none->Q (.ref l) (upd H l (.lst ys))):=by
 intro pins s σ H xs us Q I r h;obtain⟨p,ys,rfl,hq,q⟩:=h;obtain⟨u,rfl,rx⟩:=vals1 r;cases rx;have fin:∀ (its:List Ä),Vals ys its->ys.length<=Ý->∀ (h':ë) (c':Nat),(∀ b o',s.heap.get? b=some o'->h'.get? b=some o') ->
   h'.get? s.heap.objs.size=some { cls:=.type "list",dict:=none,data:=.seq its.toArray c',slots:=#[] }->EP X pins σ Q (.ref s.heap.objs.size) { s with heap:=h' }:=λits r' hz h' c' kp e =>
  ⟨.ref s.heap.objs.size,_,I.laid (t':=s.toks) kp (Î _) (show h20 X.prog X.w _ h' _ (.lst ys) from⟨hz,its,c',r',e⟩),rfl,q _ (I.hok.fresh (Î _))⟩
 rcases hq with hq | hq
 ·obtain⟨its,r',pl,hz⟩:=I.list hq;have hlen:=r'.length;obtain⟨o,ho,hc,n,hd⟩:=pl.isList;exact call_list_seq p (.inl rfl) ho hc hd (λh' c' kp e=>fin its r' hz h' c' kp e) (by simp only[Ô] <;> omega)
 ·obtain⟨its,r',pl,hz⟩:=I.tuple hq;have hlen:=r'.length;obtain⟨o,ho,hc,n,hd⟩:=pl;exact call_list_seq p (.inr rfl) ho hc hd (λh' c' kp e=>fin its r' hz h' c' kp e) (by simp only[Ô] <;> omega)
theorem J20:g70 X (.type "tuple") (λxs H Q=>∃ p ys,xs=[.ref p]/\((SqL X.K H p ys/\∀ l,H l=none->Q (.ref l) (upd H l (.tup ys)))∨(SqT X.K H p ys/\Q (.ref p) H))):=by
 intro pins s σ H xs us Q I r h;obtain⟨p,ys,rfl,h⟩:=h;obtain⟨u,rfl,rx⟩:=vals1 r;cases rx;rcases h with ⟨hq,q⟩ | ⟨hq,q⟩
 ·obtain⟨its,r',pl,hz⟩:=I.list hq;have hlen:=r'.length;refine call_tuple_list pl.isList (λh' kp=>?_) (by simp only[Ô] <;> omega)
  have I1:Inv X pins σ H { s with heap:=h' }:=I.kept (t':=s.toks) kp;have I2:Inv X pins σ (upd H h'.objs.size (.tup ys)) { s with heap:=h'.push { cls:=.type "tuple",data:=.seq its.toArray } } :=
   I1.laid (t':=s.toks) (λb o e=>Ã _ e) (Î _) (show h20 X.prog X.w _ _ _ (.tup ys) from⟨hz,its,r',Ï1.new _ _⟩)
  exact⟨.ref h'.objs.size,_,I2,rfl,q _ (I1.hok.fresh (Î _))⟩
 ·obtain⟨its,r',pl,hz⟩:=I.tuple hq;exact call_tuple_same pl ⟨.ref p,H,I,rfl,q⟩
def tyV(K:Â)(T:String)(x:V)(H:Hp):Prop:=match x with
 |.str _=>T="str"|.int _=>T="int"
 |.ref p=>(T="list"/\∃ xs,SqL K H p xs)∨(T="tuple"/\∃ o,K.lookup p=some o/\o.cls=.type "tuple"/\o.dict=none) ∨
   (T="dict"/\((∃ kvs,H p=some (.dK kvs))∨∃ kvs,H p=some (.dT kvs)))∨(T="set"/\∃ S n,H p=some (.set S n))
 |_=>False
theorem l42{pins:List (Ç × Obj)}{σ:St}{H:Hp}{s:Æ}{T:String}{x:V}{v:Ä}(I:Inv X pins σ H s)(r:RelV x v)(ty:tyV X.K T x H) :
  s.TypeIs v T/\∀ a,v=.ref a->∃ ob,s.heap.get? a=some ob/\ob.dict=none:=by
 cases x with
 |str z =>
  obtain⟨t,rfl⟩:=r;cases (show T="str" from ty);exact⟨typeIs_str s z t,λ_ e=>nomatch e⟩
 |int i =>
  obtain⟨t,rfl⟩:=r;cases (show T="int" from ty);exact⟨Û3 s i t,λ_ e=>nomatch e⟩
 |ref p =>
  cases r;rcases ty with ⟨rfl,xs,hq⟩ | ⟨rfl,o,hk,hc,hd⟩ | ⟨rfl,hk⟩ | ⟨rfl,S,n,hk⟩
  ·obtain⟨its,_,pl,_⟩:=I.list hq;refine⟨pl.isList.typeIs,λa e=>?_⟩;cases e;obtain⟨o,n,e,c,hd,_⟩:=pl;exact⟨o,e,hd⟩
  ·refine⟨⟨o,I.kIn p o hk,hc⟩,λa e=>?_⟩;cases e;exact⟨o,I.kIn _ o hk,hd⟩
  ·have z:∃ o,s.heap.get? p=some o/\o.ExactDict:=by
    rcases hk with ⟨kvs,hk⟩ | ⟨kvs,hk⟩
    ·obtain⟨_,_,_,_,o,_,_,e,ex,_⟩:=I.hok p _ hk;exact⟨o,e,ex⟩
    ·obtain⟨_,_,_,_,o,_,_,e,ex,_⟩:=I.hok p _ hk;exact⟨o,e,ex⟩
   obtain⟨o,e,ex⟩:=z;refine⟨⟨o,e,ex.1⟩,λa e2=>?_⟩;cases e2;exact⟨o,e,ex.2.1⟩
  ·obtain⟨o,_,_,_,e,ex,_⟩:=I.hok p _ hk;refine⟨⟨o,e,ex.1⟩,λa e2=>?_⟩;cases e2;exact⟨o,e,ex.2.1⟩
 |_=>exact ü ty
def tBM(K:Â)(T:String)(r:V->List V->Hp->VK->Prop)(to:TE)(t:TA):TE:=λσ H Q=>to σ H λx H1=>tyV K T x H1/\t σ H1 λxs H2=>r x xs H2 Q
variable {o e:Ð}{es:List Ð}{to:TE}{t:TA}{name:Str}{apos cpos:Pos}{T id:String}{r:V->List V->Hp->VK->Prop}
theorem F81(pa:PlainAttrs T)(slot:Slot T name id)(hty:typeOf (.builtin id)=pure (.type "method_descriptor"))(hm:MtR X id r)(ho:PE X o to)(ha:PA X (e::es) t)
  (hbase:attributeBase o name X.env (eval o X.env)=eval o X.env:=by rfl)
  (hfew:((Õ2 cpos (À0 (e::es) X.env)).all (λx=>!x.1)&&(backToKw cpos (keywordEach [] X.env)).all (λx=>x.1.isSome)
   &&decide ((e::es).length + ([]:List Keyword).length + (if ([]:List Keyword).isEmpty then 0 else 1) < 30))=true:=by rfl)
  (hline:(apos.endLine == cpos.line)=true:=by rfl) (hs:À0 (e::es) X.env=(false,eval e X.env)::À0 es X.env:=by rfl) (hplain:(Õ2 cpos (À0 es X.env)).any (·.1)=false:=by rfl) :
  PE X (.Call (.Attribute o name apos) (e::es) [] cpos) (tBM X.K T r to t):=by
 intro pins s σ H Q I h;refine wpAny_Call_method_late hbase hfew hline rfl (thn (ho pins s σ H _ I h) λv s1 ⟨x,H1,I1,r1,ty,q1⟩=>?_);obtain⟨h1,h2⟩:=l42 I1 r1 ty;refine⟨T,id,pa,slot,hty,h1,h2,?_⟩;have hA:=ha cpos pins s1 σ H1 _ I1 q1;rw[hs] at hA ⊢;refine Calls.callWith_builtin (by show(false || (Õ2 cpos (À0 es X.env)).any (·.1))=false;rw[hplain] <;> rfl) (à6 ?_)
 exact thn hA λus s2 ⟨vs,H2,I2,r2,q2⟩=>hm pins s2 σ H2 x vs v us Q I2 r1 r2 q2
end
def MtM(X:Cx)(id:String)(r:V->List V->Hp->VK->Prop):Prop :=
 ∀ (pins:List (Ç × Obj)) (s:Æ) (σ:St) (H:Hp) (x:V) (xs:List V) (v:Ä) (us:List Ä) (Q:VK),Inv X pins σ H s->RelV x v->Vals xs us->r x xs H Q ->
  Ñ (Ö X.prog X.w) X.A (call (.builtin id) (v::us)) (EP X pins σ Q) X.xe s
theorem Vals.one:∀ {x:V}{us:List Ä},Vals [x] us->∃ u,us=[u]/\RelV x u
 |_,_,.cons r .nil=>⟨_,rfl,r⟩
theorem Vals.eraseIdx:∀ {xs:List V}{us:List Ä} (i:Nat),Vals xs us->Vals (xs.eraseIdx i) (us.eraseIdx i)
 |_,_,_,.nil=>.nil|_,_,0,.cons _ t=>t|_,_,i + 1,.cons r t=>.cons r (Vals.eraseIdx i t)
theorem Vals.reverse{xs:List V}{us:List Ä}(h:Vals xs us):Vals xs.reverse us.reverse:=by
 induction h with
 |nil=>exact .nil|cons r t ih=>rw[Ô2,Ô2];exact Vals.append ih (.cons r .nil)
theorem Vals.rep{xs:List V}{us:List Ä}(h:Vals xs us):∀ k:Nat,Vals (î k xs).flatten (î k us).flatten
 |0=>.nil
 |k + 1=>by
  rw[Å4,Å4,É6,É6];exact Vals.append h (Vals.rep h k)
theorem P90{α:Type}:∀ (l:List α) (i:Nat),(l.eraseIdx i).length<=l.length
 |[],_=>Î _|_::_,0=>le_succ _|_::r,i + 1=>Û8 (P90 r i)
theorem foldl_rep(its:List Ä):∀ (k:Nat) (acc:List Ä),
  foldl (λx1 x2=>x1++x2) acc.toArray (î k its.toArray)=(acc++(î k its).flatten).toArray
 |0,acc=>by simp
 |k + 1,acc=>by
  have e:acc.toArray++its.toArray=(acc++its).toArray:=by simp
  have e2:(acc++its)++(î k its).flatten=acc++(î (k + 1) its).flatten:=by
   rw[Å4,É6,É7]
  rw[← e2,← foldl_rep its k (acc++its),← e,Å4,List.foldl_cons]
section
variable {X:Cx}{pins:List (Ç × Obj)}{σ:St}{H:Hp}{s:Æ}{l b:Ç}{xs ys zs:List V}
theorem Inv.y82{its its':List Ä}{n:Nat}{f:Array Ä->Array Ä}{t':Nat}(I:Inv X pins σ H s)(hH:H l=some (.lst xs))
  (e:s.heap.get? l=some { cls:=.type "list",data:=.seq its.toArray n }) (hf:f its.toArray=its'.toArray) (hv:Vals ys its') (hz:ys.length<=Ý) :
  Inv X pins σ (upd H l (.lst ys)) { s with heap:=s.heap.update l (À4 f),toks:=t' }:=by
 have q:=PySem.IsL.update e f;rw[hf] at q;refine I.write (x:=l) (e:=l) (by rw[hH];exact trivial) (.inl rfl) (λb' u hb hu=>(Ì1 s.heap (À4 f) (Á6 hb)).trans hu) ⟨_,q⟩ ?_
 exact⟨hz,its',_,hv,q⟩
theorem Inv.C42{its:List Ä}{t':Nat}(I:Inv X pins σ H s)(hv:Vals ys its)(hz:ys.length<=Ý) :
  Inv X pins σ (upd H s.heap.objs.size (.lst ys)) { s with heap:=s.heap.push { cls:=.type "list",data:=.seq its.toArray },toks:=t' } :=
 I.laid (λ_ _ q=>Ã _ q) (Î _) ⟨hz,its,0,hv,Ë _ rfl⟩
theorem Inv.fresh(I:Inv X pins σ H s):H s.heap.objs.size=none:=I.hok.fresh (Î _)
theorem Inv.l52(I:Inv X pins σ H s)(hH:H l=some (.lst xs)):xs.length<=Ý/\∃ (its:List Ä) (n:Nat),Vals xs its/\xs.length=its.length/\s.heap.get? l=some { cls:=.type "list",data:=.seq its.toArray n }:=by
 obtain⟨z,its,n,r,e⟩:=I.hok l _ hH;exact⟨z,its,n,r,r.length,e⟩
theorem F91{n:Nat}(h:n<=Ý):Í6 n=false:=by
 unfold Í6;exact decide_eq_false ∅
end
section
variable {X:Cx}
def p11:V->List V->Hp->VK->Prop:=λx vs H Q=>∃ l xs y,x=.ref l/\vs=[y]/\H l=some (.lst xs)/\xs.length < Ý/\Q .non (upd H l (.lst (xs++[y])))
theorem A90:MtM X "list.append" p11:=by
 intro pins s σ H x vs v us Q I rx rv h;obtain⟨l,xs,y,rfl,rfl,hH,hz,q⟩:=h;cases rx;obtain⟨u,rfl,ru⟩:=rv.one;obtain⟨z,its,n,r,hl,e⟩:=I.l52 hH;refine È1 F.slot_list_append ⟨_,e,rfl⟩ F.entry_list_append (F.args_list_append_2 _ _) (PySem.list_append l its.toArray n u (by rw[Ô];omega)) ⟨e,?_⟩
 refine⟨.non,_,I.y82 (its':=its++[u]) hH e (by simp) (r.append (.cons ru .nil)) ?_,rfl,q⟩
 rw[À5,à3];omega
def Q71:V->List V->Hp->VK->Prop:=λx vs H Q=>∃ l xs i k y,x=.ref l/\vs=[.int i]/\H l=some (.lst xs)/\-(2 ^ 63)<=i/\i < 2 ^ 63/\seqIndex? i xs.length=some k/\xs[k]?=some y/\Q y (upd H l (.lst (xs.eraseIdx k)))
theorem G01:MtM X "list.pop" Q71:=by
 intro pins s σ H x vs v us Q I rx rv h;obtain⟨l,xs,i,k,y,rfl,rfl,hH,h1,h2,hk,hy,q⟩:=h;cases rx;obtain⟨u,rfl,ru⟩:=rv.one;obtain⟨t,rfl⟩:=ru;obtain⟨z,its,n,r,hl,e⟩:=I.l52 hH;obtain⟨w,hw,rw'⟩:=r.get hy;refine È1 F.slot_list_pop ⟨_,e,rfl⟩ F.entry_list_pop (F.args_list_pop_2 _ _)
  (MeetsSeq.list_pop_at l its.toArray n i t k w (fitsIndex_both h1 h2) (by rw[Ô,← hl];exact hk) (by rw[← ø];exact hw) (by rw[Ô];omega)) ⟨e,?_⟩
 refine⟨y,_,I.y82 (its':=its.eraseIdx k) hH e ?_ (r.eraseIdx k) ?_,rw',q⟩
 ·show its.toArray.eraseIdxIfInBounds k=(its.eraseIdx k).toArray;rw[List.eraseIdxIfInBounds_toArray]
 ·have:=P90 xs k;omega
def Q32:R2:=λx y H Q=>∃ l b xs zs,x=.ref l/\y=.ref b/\H l=some (.lst xs)/\H b=some (.lst zs)/\xs.length + zs.length<=Ý/\∀ p,H p=none->Q (.ref p) (upd H p (.lst (xs++zs)))
theorem p21:OpR X (Ä1 .Add) Q32:=by
 intro pins s σ H x y v u Q I rx ry h;obtain⟨l,b,xs,zs,rfl,rfl,hH,hB,hz,q⟩:=h;cases rx;cases ry;obtain⟨z,its,n,r,hl,e⟩:=I.l52 hH;obtain⟨z2,its2,n2,r2,hl2,e2⟩:=I.l52 hB;refine PySem.P.add_list e e2 ?_ (by rw[Ô,Ô];omega)
 have ea:its.toArray++its2.toArray=(its++its2).toArray:=by simp
 rw[ea];exact⟨.ref _,_,I.C42 (t':=s.toks) (r.append r2) (by rw[À5];omega),rfl,q _ I.fresh⟩
theorem len_rep{α:Type}(xs:List α)(k:Nat):(î k xs).flatten.length=k * xs.length:=by
 induction k with
 |zero=>simp|succ k ih=>rw[Å4,É6,À5,ih,Nat.succ_mul,Nat.add_comm]
end
end L2
namespace Att
open PySem PySem.W PySem.Calls PyProof.Rows
theorem B00{P:Params}{h:ë}:∀ (ns:List Int) (vs:List Ä),WellAll P h vs (ns.map WData.int)->Ì0 vs ns:=by
 intro ns
 induction ns with
 |nil =>
  intro vs w;rw[map_nil] at w;cases w;exact .nil
 |cons n ns ih =>
  intro vs w;rw[Å6] at w;cases w with
  |cons a b =>
   cases a;exact .cons _ _ (ih _ b)
theorem p31{l:OpenLaw}{n:Nat}(hn:l.most=some n){P:Params}{h:ë}{args:List WData}{vals:List Ä}
  (hpre:l.row.toRowW.claim.pre args=true) (hwl:WellAll P h vals args) :
  ∃ a vs ns,vals=[Â9 a]/\args=[WData.list (ns.map WData.int)]/\h.get? a=some { cls:=.type "list",data:=.seq vs.toArray }/\Ì0 vs ns/\ns.length<=n:=by
 have hsh:WShape.hasAll [] args [.list .int]=true:=(pre_splitW hpre).1;have hc:l.pre.holds [] { args:=args }=true:=(pre_splitW hpre).2;obtain⟨d,r,rfl,h1,h2⟩:=hasAllW_cons hsh;obtain rfl:=hasAllW_nil h2;obtain⟨xs,rfl,h3⟩:=hasW_list h1;obtain⟨ns,rfl⟩:=items_int h3;have hlen:ns.length<=n:=by
  unfold OpenLaw.pre at hc;have h4:(WTm.not (.lt (.lit (.int (n:Int))) (.len (.arg 0)))).holds [] { args:=[.list (ns.map .int)] }=true:=by
   have h4:=(holds_andW hc).1;rw[hn] at h4;exact h4
  have h5:=condW_of h4 (w_not (w_lt w_lit (w_len_list (w_arg rfl))));rw[È] at h5;refine Nat.le_of_not_lt λq=>?_;have q':(n:Int) < ((ns.length:Nat):Int):=by omega
  first
   |(rw[decide_eq_true q'] at h5;exact absurd h5 (-0))
   |(simp at h5;omega)
 cases hwl with
 |cons w1 w2 =>
  cases w2;cases w1 with
  |list ho hall=>exact⟨_,_,ns,rfl,rfl,ho,B00 ns _ hall,hlen⟩
theorem p41(l:OpenLaw)(args:List WData):l.row.toRowW.claim.post args (.bool true) args=true :=
 postW_of (r:=l.row.toRowW) (X:=(true == true))
  (show WShape.has [] (.bool true) .bool=true by first | rfl | decide | simp[WShape.has,WShape.arms,WShape.armsAll])
  (show(WTm.eq .res (.lit (.bool true))).value [] { args:=args,res:=some (.bool true),after:=args }=some (.bool (true == true)) from w_eq_bool (w_res rfl) w_lit) rfl
theorem W90{l:OpenLaw}{n:Nat}{q:à}{loose:List Str}{XP:(Str->Option Ä)->ë->Prop}{YP:ê->ë->Prop}{d:DefRec}
  (hn:l.most=some n) (hdf:d.params.defaults=[])
  (call:∀ (w:ê) (s₀ s₁:Æ) (mg mb:Str->Option Ä) (fa:Ç) (o:Obj) (pm cd doc:Ä) (a:Ç) (vs:List Ä) (ns:List Int),
   Ground q loose [] XP w s₀ mg mb s₁.heap->YP w s₁.heap ->
   s₁.heap.get? fa=some o->o.data=.func (docDef d.name d.params d.body d.scope pm cd doc)->s₁.heap.CodeRec cd d.name->mg d.name=some (.ref fa) ->
   s₁.heap.get? a=some { cls:=.type "list",data:=.seq vs.toArray }->Ì0 vs ns->ns.length<=n->s₁.gens=#[] ->
   Î4 (Ö l.prog w) Ü8 (.call (.ref fa) ⟨[.ref a],[]⟩) (λr s'=>r=.ok (.ret (.bool true))/\OldK s₁.heap s'.heap/\s'.os=s₁.os/\Ó5 s'.gens) s₁) :
  WalkO q loose XP YP l.row.toRowW d [] (λf vs=>PySem.call f vs):=by
 intro w s₀ s₁ mg mb G Y fa o pm cd doc dV kV ho hd hcd hD hmg hg args vals as hpre hlay hrd hwl hlo;obtain rfl:dV=.none:=Dflts.none hD hdf;obtain rfl:kV=.none:=Dflts.noKw hD;obtain⟨a,vs,ns,rfl,rfl,hobj,hints,hlen⟩:=p31 hn hpre hwl;refine enter_call (Æ8 (call w s₀ s₁ mg mb fa o pm cd doc a vs ns G Y ho (fd_plain hd) hcd hmg hobj hints hlen hg) λr s' hq=>?_);obtain⟨rfl,h2,h3,h4⟩:=hq;exact⟨.inl ⟨.bool true,.bool true,[],rfl,λ_=>rfl,.bool true,p41 l _,λ_=>⟨ß0.nil,λ_ hm=>(nomatch hm)⟩⟩,h2,h3,h4⟩
end Att
namespace L2
open PySem PySem.Spec PyProof.Rows
theorem Q00:∀ {vs:List Ä}{ns:List Int},Ì0 vs ns->Vals (ns.map V.int) vs
 |_,_,.nil=>.nil|_,_,.cons n t h=>.cons ⟨t,rfl⟩ (Q00 h)
def J30(s:Â3):Arguments:=match s with
 |.FunctionDef _ a _ _ _ _ _ _ _ _=>a|_=>{ posonlyargs:=[],args:=[],vararg:=none,kwonlyargs:=[],kw_defaults:=[],kwarg:=none,defaults:=[] }
def i00(s:Â3):List Stmt:=match s with
 |.FunctionDef _ _ b _ _ _ _ _ _ _=>b|_=>[]
def c20(s:Â3):Scope:=match s with
 |.FunctionDef _ _ _ _ _ _ sc _ _ _=>sc|_=>{ kind:=.function,names:=[],isGenerator:=false,isCoroutine:=false }
abbrev CX0:CXT:=λ_ _ _ _ _ _=>False
structure Fun(K:PySem.W.Frag)(x qual:Str)(st:Stmt)(f:Addr)(fd:FuncData):Prop where
 ex:∃ (oc:Value) (od:Option Addr) (kV doc pm:Value) (an:Option Addr) (cdv ct:Value) (osl:Array (Option Value)),
  fd=fnOf x qual (J30 st) (i00 st) (c20 st) .none kV doc pm an cdv ct/\K.lookup f=some ⟨oc,od,.func fd,osl⟩/\PySem.W.codeIn K cdv qual=true
 kp:PySem.W.keepIn K (.ref f)=true
section
variable {P:à}{w:ê}{K:Â}{mg:Str->Option Ä}{base:ë}
theorem Fun.binds{x qual:Str}{st:Â3}{f:Ç}{fd:Â5}{ps:List Str}(F:Fun K x qual st f fd)
  (h:∀ (kV doc pm:Ä) (an:Option Ç) (cdv ct:Ä) (us:List Ä),us.length=ps.length->bindArgs (fnOf x qual (J30 st) (i00 st) (c20 st) .none kV doc pm an cdv ct) ⟨us,[]⟩=pure (ps.zip us)):Binds K fd ps []:=by
 obtain⟨oc,od,kV,doc,pm,an,cdv,ct,osl,rfl,lk,hcd⟩:=F.ex;exact .all (h kV doc pm an cdv ct)
end
section
variable {X:Cx}
theorem pv(i:Nat){x:Str}{pos:Pos}(hN:X.N[i]?=some x:=by rfl)(hv:Vis X.env.scope x:=by first | exact Ð7 rfl | exact Õ9 (Ð7 rfl) | exact Õ9 (Õ9 rfl))(hd:(x == ("__debug__":Str))=false:=by decide)
  (hcd:(x == ("__classdict__":Str))=false:=by decide):PE X (.Name x pos) (h52 i):=h00 hN hv hd hcd
end
theorem Q42{A B:Prop}(h:B):if false=true then A else B:=by
 rw[if_neg Ï];exact h
theorem Q52{c A B:Prop}[Decidable c](h1:c->A)(h2:¬ c->B):if c then A else B:=by
 by_cases h:c
 ·rw[if_pos h];exact h1 h
 ·rw[if_neg h];exact h2 h
def a30(H H':Hp):Prop:=∀ b o,H b=some o->H' b=some o
theorem a30.refl(H:Hp):a30 H H:=λ_ _ h=>h
theorem a30.trans{H H1 H2:Hp}(a:a30 H H1)(b:a30 H1 H2):a30 H H2:=λc o h=>b c o (a c o h)
end L2
set_option maxHeartbeats 4000000
namespace L2
open PySem
abbrev NoX:Ä->Æ->Prop:=λ_ _=>False
theorem J40(env:Env):∀ (names:List (Str × Ë7)) (acc:List (Str × Ç)),(∀ y∈names,y.2=.free->∃ c,env.cells.lookup y.1=some c)->(∀ x c,acc.lookup x=some c->env.cells.lookup x=some c) ->
  ∃ cl:List (Str × Ç),(forIn names acc λ(x:Str × Ë7) (r:List (Str × Ç))=>(if (x.2 == .free)=true then do let c ← cellOf env x.1;pure (ã ((x.1,c)::r)) else pure (ã r):Sem (ForInStep (List (Str × Ç)))))=pure cl /\
   (∀ x c,cl.lookup x=some c->env.cells.lookup x=some c)/\(∀ x c,acc.lookup x=some c->∃ c',cl.lookup x=some c')/\(∀ y∈names,y.2=.free->∃ c,cl.lookup y.1=some c)
 |[],acc,_,ha=>⟨acc,by simp,ha,λx c e=>⟨c,e⟩,λy hy=>absurd hy (by simp)⟩
 |(n,k)::r,acc,hf,ha=>by
  by_cases hk:k=.free
  ·subst hk;obtain⟨c,hc⟩:=hf (n,.free) Ì rfl;have hcell:cellOf env n=pure c:=by unfold cellOf;rw[hc]
   obtain⟨cl,e,h1,h2,h3⟩:=J40 env r ((n,c)::acc) (λy hy=>hf y (Ê _ hy)) (λx c' e=>by
    rw[Á1] at e;by_cases hx:(x == n)=true
    ·rw[hx] at e;have:x=n:=by simpa using hx
     subst this;cases e;exact hc
    ·rw[show(x == n)=false by simpa using hx] at e
     exact ha x c' e)
   refine⟨cl,?_,h1,λx c' e'=>?_,λy hy hyk=>?_⟩
   ·rw[Í2];simp only[beq_self_eq_true,if_true,hcell,pure_bind];exact e
   ·by_cases hx:(x == n)=true
    ·exact h2 x c (by rw[Á1,hx])
    ·exact h2 x c' (by rw[Á1,show(x == n)=false by simpa using hx];exact e')
   ·rcases ó.mp hy with rfl | hy
    ·exact h2 n c (by simp[Á1])
    ·exact h3 y hy hyk
  ·obtain⟨cl,e,h1,h2,h3⟩:=J40 env r acc (λy hy=>hf y (Ê _ hy)) ha;refine⟨cl,?_,h1,h2,λy hy hyk=>?_⟩
   ·rw[Í2];have hb:((k == ô)=true)=False:=by simpa using hk
    simp only[hb,if_false,pure_bind];exact e
   ·rcases ó.mp hy with rfl | hy
    ·exact absurd hyk hk
    ·exact h3 y hy hyk
theorem X00(hf:∀ y∈scope.names,y.2=.free->∃ c,env.cells.lookup y.1=some c) :
  ∃ cl:List (Str × Ç),closureFor scope env=pure cl/\(∀ x c,cl.lookup x=some c->env.cells.lookup x=some c)/\(∀ y∈scope.names,y.2=.free->∃ c,cl.lookup y.1=some c):=by
 obtain⟨cl,e,h1,_,h3⟩:=J40 env scope.names [] hf (λx c e=>by simp at e)
 refine⟨cl,?_,h1,h3⟩;simp only[closureFor];exact(congrArg (λt=>t >>= λr=>(pure r:Sem _)) e).trans (by simp)
section
variable {P:à}{w:ê}{A:ö}{R:Result->Æ->Prop}{s:Æ}
theorem p51{el tg src:Ð}{tests:List Ð}{sc:í}{ps:Pos}{itv av:Ä}{en:Env}(J:Nat->Æ->Prop)
  (turn:∀ n s,J n s->Ñ (Ö P w) A (Ñ8 itv) (λr s1=>match r with
   |none=>R (.ok .next) s1
   |some v=>Ñ (Ö P w) A (ß4 tg itv v) (λ_ s2=>Ñ (Ö P w) A (Ø7 tg en v) (λ_ s3 =>
     Ñ (Ö P w) A (forIn tests true λc r=>if r=true then do let ok ← isTrue c en (eval c en);pure (ã ok) else pure (ã r)) (λok s4 =>
      if ok=true then Ñ (Ö P w) A (eval el en) (λx s5 =>
       Ñ (Ö P w) A (call (.builtin "list.append") [av,x]) (λ_ s6=>∃ m,m < n/\J m s6) NoX s5) NoX s4
      else ∃ m,m < n/\J m s4) NoX s3) NoX s2) NoX s1) NoX s)
  (n:Nat) (h:J n s) :
  Î4 (Ö P w) A (.compLoop (.ListComp el [⟨tg,src,tests,0⟩] sc ps) 0 itv av en) R s:=by
 refine codeAny_loop rfl J (λn s hI=>?_) n h;show Ñ _ A ((compTurn (.ListComp el [⟨tg,src,tests,0⟩] sc ps) 0 itv av en).onRaise (λx=>do noteFrame x en;theTreesLotGoes x)) _ _ s;refine wpAny_noted ?_;rw[compTurn_list];refine À (Ú6 (À (Â2 (turn n s hI) (λr s1 h1=>?_) λ_ _ x=>x.elim)));cases r with
 |none=>exact Å h1
 |some v =>
  refine À (Â2 h1 (λ_ s2 h2=>?_) λ_ _ x=>x.elim);refine À (Â2 h2 (λ_ s3 h3=>À (Â2 h3 (λok s4 h4=>?_) λ_ _ x=>x.elim)) λ_ _ x=>x.elim);cases ok with
  |false=>exact Å ⟨rfl,h4⟩|true=>exact À (À (Â2 h4 (λx s5 h5=>À (Â2 h5 (λ_ s6 h6=>Å (Å ⟨rfl,h6⟩)) λ_ _ x=>x.elim)) λ_ _ x=>x.elim))
end
open PySem PySem.Spec PyProof.Rows
abbrev c30(X:Cx)(N':List Str)(sc:í)(cl:List (Str × Ç))(C:Ç)(s:Æ)(H:Hp)(fp:List Ç):Cx :=
 { X with N:=N',s₀:=s,H₀:=H,env:=compEnvC sc cl C X.env,outer:=X.stack,stack:=X.stack,ex:=fp,fn:=λ_=>false,pn:=[],xe:=NoX }
def d00(own:List Str)(capt:List (Str × Nat)):List Str:=own++capt.map (·.1)
def q70(own:List Str)(capt:List (Str × Nat))(σ:St):St:=own.map (λ_=>none)++capt.map λp=>(σ[p.2]?).getD none
structure o00(X:Cx)(sc:Scope)(own:List Str)(capt:List (Str × Nat)):Prop where
 kind:sc.kind=.function
 nocell:∀ y∈sc.names,y.2≠.cell
 locs:∀ y∈sc.names,y.2=.local->sc.names.lookup y.1=some .local
 frees:∀ y∈sc.names,y.2=.free->X.env.kindOf y.1=some .cell∨X.env.kindOf y.1=some .free
 captd:∀ p∈capt,X.N[p.2]?=some p.1/\sc.names.lookup p.1=some .free
theorem J50{env:Env}:∀ {names:List (Str × Ë7)}{x:Str}{k:Ë7},
  (names.map λ(n,k)=>if (k == ô&&env.scope.kind == .function&&env.kindOf n == some .cell) then(n,Æ0) else(n,k)).lookup x=some k->(k=.cell∨k=.free)->(∀ y∈names,y.2≠.cell)->(x,ô)∈names
 |[],_,_,h,_,_=>by simp at h
 |(n,k0)::r,x,k,h,hk,hn=>by
  have h:Í3 x ((if (k0 == ô&&env.scope.kind == .function&&env.kindOf n == some .cell)=true then(n,Æ0) else(n,k0))::_)=some k:=h;have hn0:k0≠.cell:=hn (n,k0) Ì;cases hx:x == n with
  |true =>
   have e:x=n:=by simpa using hx
   subst e;by_cases hc:(k0 == ô&&env.scope.kind == .function&&env.kindOf x == some .cell)=true
   ·have:k0=.free:=by
     cases k0 <;> simp_all
    subst this;exact Ì
   ·rw[if_neg hc] at h;simp only[Á1,hx] at h;cases h;rcases hk with hk | hk
    ·exact absurd hk hn0
    ·subst hk;exact Ì
  |false =>
   have h':(r.map λ(n,k)=>if (k == ô&&env.scope.kind == .function&&env.kindOf n == some .cell) then(n,Æ0) else(n,k)).lookup x=some k:=by
    by_cases hc:(k0 == ô&&env.scope.kind == .function&&env.kindOf n == some .cell)=true
    ·rw[if_pos hc] at h;simp only[Á1,hx] at h;exact h
    ·rw[if_neg hc] at h;simp only[Á1,hx] at h;exact h
   exact Ê _ (J50 h' hk λy hy=>hn y (Ê _ hy))
theorem p50{env:Env}:∀ {names:List (Str × Ë7)}{x:Str},names.lookup x=some .free ->
  (names.map λ(n,k)=>if (k == ô&&env.scope.kind == .function&&env.kindOf n == some .cell) then(n,Æ0) else(n,k)).lookup x=some .cell ∨
  (names.map λ(n,k)=>if (k == ô&&env.scope.kind == .function&&env.kindOf n == some .cell) then(n,Æ0) else(n,k)).lookup x=some .free
 |[],_,h=>by simp at h
 |(n,k)::r,x,h=>by
  have ih:=@p50 env r x;show Í3 x ((if (k == ô&&env.scope.kind == .function&&env.kindOf n == some .cell)=true then(n,Æ0) else(n,k))::_)=_∨Í3 x ((if (k == ô&&env.scope.kind == .function&&env.kindOf n == some .cell)=true then(n,Æ0) else(n,k))::_)=_;cases hx:x == n with
  |true =>
   simp only[Á1,hx] at h;cases h;by_cases hc:(ô == ô&&env.scope.kind == .function&&env.kindOf n == some .cell)=true
   ·rw[if_pos hc];left;simp only[Á1,hx]
   ·rw[if_neg hc];right;simp only[Á1,hx]
  |false =>
   simp only[Á1,hx] at h;by_cases hc:(k == ô&&env.scope.kind == .function&&env.kindOf n == some .cell)=true
   ·rw[if_pos hc];simp only[Á1,hx];exact ih h
   ·rw[if_neg hc];simp only[Á1,hx];exact ih h
theorem HOk.G11{P:à}{w:ê}{H:Hp}{h:ë}{D:Ç}{ys:List V}{its:List Ä}{n:Nat}(x:HOk P w H h)(hn:H D=none)(hv:Vals ys its)(hz:ys.length<=Ý)
  (ho:h.get? D=some { cls:=.type "list",data:=.seq its.toArray n }):HOk P w (upd H D (.lst ys)) h:=λb u e=>by
 by_cases hb:b=D
 ·subst hb;rw[b00] at e;cases e;exact⟨hz,its,n,hv,ho⟩
 ·rw[a50 hb] at e;exact(x b u e).i61 (λc v _ q=>q) (λc q=>by rw[a50 (a90 q hn)];exact q) λc xs q=>by rw[a50 (a90 q hn)];exact q
def PTs(X:Cx)(tests:List Ð)(t:TT):Prop :=
 ∀ (pins:List (Ç × Obj)) (s:Æ) (σ:St) (H:Hp) (Q:Bool->Hp->Prop),Inv X pins σ H s->t σ H Q ->
  Ñ (Ö X.prog X.w) X.A (forIn tests true λc r=>if r=true then do let ok ← isTrue c X.env (eval c X.env);pure (ã ok) else pure (ã r)) (TP X pins σ Q) X.xe s
def p61:TT:=λ_ H Q=>Q true H
theorem p71:PTs X [] p61:=λ_ _ _ H _ I h=>wpAny_tests_nil ⟨H,I,h⟩
theorem p81(hc:PT X c t):PTs X [c] t:=λpins s σ H Q I h=>wpAny_tests_one (hc pins s σ H Q I h)
section
variable {X:Cx}{pins:List (Ç × Obj)}{σ:St}{H2:Hp}{s2:Æ}{sc:í}{own:List Str}{capt:List (Str × Nat)}{cl:List (Str × Ç)}{fp:List Ç}{C:Ç}
theorem Q10(I:Inv X pins σ H2 s2)(S:o00 X sc own capt)(hcl:∀ x c,cl.lookup x=some c->X.env.cells.lookup x=some c)(hcf:∀ y∈sc.names,y.2=.free->∃ c,cl.lookup y.1=some c)
  (hx:∀ x c,X.env.cells.lookup x=some c->c ∉ fp) {h':ë} (un:∀ c o,s2.heap.get? c=some o->H2 c=none->c ∉ fp->∃ sl,h'.get? c=some { o with slots:=sl }) (m:Str->Option Ä) :
  ∀ (i:Nat) (x:Str) (v:V),(d00 own capt)[i]?=some x->(q70 own capt σ)[i]?=some (some v)->∃ u,RelV v u/\Look (compEnvC sc cl C X.env) h' m x u:=by
 intro i x v e1 e2;unfold d00 at e1;unfold q70 at e2;by_cases hi:i < own.length
 ·rw[Ð8 (by simpa using hi),Ø] at e2
  cases q:own[i]? with
  |none=>rw[q] at e2;cases e2
  |some y=>rw[q] at e2;cases e2
 ·rw[Å3 (by simpa using hi),È,Ø] at e2
  rw[Å3 (by simpa using hi),Ø] at e1
  cases q:capt[i - own.length]? with
  |none=>rw[q] at e1;cases e1
  |some p =>
   rw[q] at e1 e2;obtain rfl:p.1=x:=û e1;have e3:(σ[p.2]?).getD none=some v:=û e2;have e4:σ[p.2]?=some (some v):=by
    cases z:σ[p.2]? with
    |none=>rw[z] at e3;cases e3
    |some w=>rw[z] at e3;exact congrArg some e3
   obtain⟨hN,hf⟩:=S.captd p (â q);have hmem:(p.1,ô)∈sc.names:=ÿ hf;have hk:=S.frees _ hmem rfl;obtain⟨m0,_,hl⟩:=I.loc;have vis:Vis X.env.scope p.1:=.inr hk;obtain⟨u,r,lk⟩:=hl p.2 p.1 v hN e4 vis;refine⟨u,r,.inr ⟨?_,?_⟩⟩
   ·exact p50 hf
   ·rcases lk with ⟨hl0,_⟩ | ⟨_,c,hc,o,ho,hd⟩
    ·rcases hk with hk | hk <;> (rw[hk] at hl0;cases hl0)
    ·obtain⟨c',hc'⟩:=hcf _ hmem rfl;have:=hcl _ _ hc';rw[hc] at this;cases this;obtain⟨sl,q'⟩:=un c o ho (I.freeC _ _ hc) (hx _ _ hc);exact⟨c,hc',_,q',hd⟩
end
def X11(X:Cx)(pins:List (Ç × Obj))(σ:St)(R:V->Hp->Prop)(acc:Ä)(C:Ç)(s':Æ):Prop :=
 ∃ D H' m',acc=.ref D/\Inv X pins σ H' s'/\W50 X pins H' C/\s'.heap.Ns C m'/\R (.ref D) H'
def j31(J:It)(σ0:St)(H1:Hp)(g:TG)(tt:TT)(te:TE)(Q:VK):Prop:=∃ W:Nat->Nat->List V->Hp->Prop,(∃ m,W 0 m [] H1)/\∀ i m ys H,W i m ys H ->
 (J.stop i H/\∀ p,H p=none->Q (.ref p) (upd H p (.lst ys))) ∨
 (J.go i H/\ys.length < Ý/\∃ N:List V->Hp->Prop,(∀ zs H',N zs H'->∃ m',m' < m/\W (i + 1) m' zs H')/\∀ x H',J.yld i H x H'->g x σ0 H' λσ2 H2=>tt σ2 H2 λb H3 =>
  if b=true then te σ2 H3 (λy H4=>N (ys++[y]) H4) else N ys H3)
def X21(own:List Str)(capt:List (Str × Nat))(wi:TI)(g:TG)(tt:TT)(te:TE):TE:=λσ H Q=>wi σ H λJ H1=>j31 J (q70 own capt σ) H1 g tt te Q
section
variable {X:Cx}{pins:List (Ç × Obj)}{σ:St}{H2:Hp}{s2:Æ}{sc:í}{own:List Str}{capt:List (Str × Nat)}{cl:List (Str × Ç)}{el tg src:Ð}{tests:List Ð}{ps:Pos}{g:TG}{tt:TT}{te:TE}
theorem v80(hc:X.calm=true)(S:o00 X sc own capt)(hcl:∀ x c,cl.lookup x=some c->X.env.cells.lookup x=some c)(hcf:∀ y∈sc.names,y.2=.free->∃ c,cl.lookup y.1=some c)
  (hg:∀ C s H fp,PG (c30 X (d00 own capt) sc cl C s H fp) tg g) (ht:∀ C s H fp,PTs (c30 X (d00 own capt) sc cl C s H fp) tests tt) (he:∀ C fp,(∀ b∈fp,W50 X pins H2 b)->PE (c30 X (d00 own capt) sc cl C s2 H2 fp) el te)
  {it:Ç}{fp:List Ç}{tn:Nat->ë->Prop}{J:It} (I2:Inv X pins σ H2 s2) (T:Turn X.prog X.w X.K tg J fp it tn) (st2:tn 0 s2.heap) (f2:∀ b∈fp,W50 X pins H2 b)
  {R:VK} (h:j31 J (q70 own capt σ) H2 g tt te R) {RR:Ä->Ç->Result->Æ->Prop} (hRR:∀ acc C s',X11 X pins σ R acc C s'->RR acc C (.ok .next) s') {E:Ä->Æ->Prop} :
  Ñ (Ö X.prog X.w) X.A (newList []) (λacc s3=>Ñ (Ö X.prog X.w) X.A (newFunctionEnv sc X.env.globals cl [] X.env.qual none .none (some X.env)) (λce s4 =>
   Î4 (Ö X.prog X.w) X.A (.compStart (.ListComp el [⟨tg,src,tests,0⟩] sc ps) 0 (.ref it) acc { ce with scope:=relabel sc X.env }) (RR acc ce.locals) s4) E s3) E s2:=by
 obtain⟨W,⟨m0,w0⟩,turn⟩:=h;refine é (wpAny_newFunctionEnv S.nocell (by intro y hy;simp at hy) (λh1 hns1 hsb1=>?_) S.kind)
 dsimp only at hns1 hsb1 ⊢;generalize hH3:s2.heap.push { cls:=.type "list",dict:=none,data:=.seq ([]:List Ä).toArray }=h3 at hns1 hsb1 ⊢;have hC:h3.objs.size=s2.heap.objs.size + 1:=by rw[← hH3,Ë6]
 have below:∀ b,b < s2.heap.objs.size->b≠h3.objs.size/\b≠s2.heap.objs.size:=λb hb=>⟨by omega,by omega⟩
 have hDC:s2.heap.objs.size≠h3.objs.size:=by omega
 have old:∀ b o,s2.heap.get? b=some o->h1.get? b=some o:=λb o e=>hsb1.extBut b o (below b (á e)).1 (Ã _ (hH3 ▸ Ã _ e));have hacc:h1.get? s2.heap.objs.size=some { cls:=.type "list",data:=.seq ([]:List Ä).toArray 0 }:=hsb1.extBut _ _ hDC (Ã _ (hH3 ▸ Ë _ rfl));have fpLt:∀ b∈fp,b < s2.heap.objs.size:=λb hb=>by
  obtain⟨o,e,_⟩:=T.obj _ _ st2 b hb;exact á e
 have celLt:∀ x c,X.env.cells.lookup x=some c->c < s2.heap.objs.size:=λx c e=>by
  obtain⟨v,o,q,_⟩:=I2.cell x c e;exact á q
 have frLt:∀ b∈frs X.stack,b < s2.heap.objs.size:=λb hb=>by
  obtain⟨_,o,q,_⟩:=I2.stack.mem hb;exact á q
 have celFp:∀ x c,X.env.cells.lookup x=some c->c ∉ fp:=λx c e hb=>(f2 c hb).2.2.2.2.1 x c e rfl;have fpFr:∀ b∈fp,b ∉ frs X.stack:=λb hb hf=>by
  rcases ó.mp (I2.n51 b hf) with z | z
  ·exact(f2 b hb).2.1 z
  ·exact(f2 b hb).2.2.1 z
 have okX:(c30 X (d00 own capt) sc cl h3.objs.size s2 H2 fp).Ok:=by
  refine⟨I2.ok.mod,S.kind,I2.ok.glob,I2.ok.blt,(by show s2.heap.objs.size<=h3.objs.size;omega),λx y c e1 e2=>I2.ok.inj x y c (hcl x c e1) (hcl y c e2),λx hx=>?_,λx c hx=>(by cases hx),I2.ok.hd,I2.ok.frames,.inl rfl,
   λb hb=>⟨(below b (fpLt b hb)).1,λx c e z=>celFp x c (hcl x c e) (z ▸ hb)⟩,I2.bs,Þ I2.ok.bsz I2.sz,λb o e hb=>?_,fpFr,I2.stack,I2.v40⟩
  ·have hx':(x,ô)∈sc.names:=by
    rcases hx with hx | hx
    ·exact J50 hx (.inl rfl) S.nocell
    ·exact J50 hx (.inr rfl) S.nocell
   exact hcf _ hx' rfl
  ·rcases (f2 b hb).2.2.2.1 with z | z
   ·exact I2.ok.noex b o e z
   ·have l1:b < X.base.objs.size:=á e;have l2:X.base.objs.size<=X.s₀.heap.objs.size:=I2.ok.bsz;have l3:X.s₀.heap.objs.size<=b:=z;exact absurd l1 (Nat.not_lt.mpr (Þ l2 l3))
 have reset:∀ {pl:List (Ç × Obj)}{σ':St}{H':Hp}{s':Æ},Inv (c30 X (d00 own capt) sc cl h3.objs.size s2 H2 fp) pl σ' H' s'->Inv (c30 X (d00 own capt) sc cl h3.objs.size s2 H2 fp) pl (q70 own capt σ) H' s':=λ{pl σ' H' s'} I'=>by
  obtain⟨m,hn,_⟩:=I'.loc;refine⟨I'.ok,I'.os,I'.bare,I'.base,⟨m,hn,λi x v e1 e2 _=>Q10 I2 S hcl hcf celFp (λc o q n hx=>I'.base.any q n hx) m i x v e1 e2⟩,I'.cell,I'.free,I'.freeC,I'.pin,I'.hok,?_⟩;show(q70 own capt σ).length=(d00 own capt).length;simp[q70,d00]
 have start:Inv (c30 X (d00 own capt) sc cl h3.objs.size s2 H2 fp) [(s2.heap.objs.size,{ cls:=.type "list",data:=.seq ([]:List Ä).toArray 0 })] (q70 own capt σ) H2 { s2 with heap:=h1,toks:=s2.toks + ([]:List (Str × Ä)).length }:=by
  refine⟨okX,rfl,I2.bare,Un.kept old,⟨_,hns1,λi x v e1 e2 _=>Q10 I2 S hcl hcf celFp (λc o q _ _=>⟨o.slots,old c o q⟩) _ i x v e1 e2⟩,λx c e=>?_,?_,λx c e=>I2.freeC x c (hcl x c e),λp hp=>?_,I2.hok.kept old,?_⟩
  ·obtain⟨v,q⟩:=I2.cell x c (hcl x c e);exact⟨v,q.keeps old⟩
  ·exact I2.hok.fresh (by show s2.heap.objs.size<=h3.objs.size;omega)
  ·have hp':p=(s2.heap.objs.size,{ cls:=.type "list",data:=.seq ([]:List Ä).toArray 0 }):=by simpa using hp
   subst hp';exact⟨hacc,I2.hok.fresh (Î _),hDC,λz=>À7 _ (frLt _ z),λv z=>by cases z⟩
  ·show(q70 own capt σ).length=(d00 own capt).length;simp[q70,d00]
 have m91:∀ {pl:List (Ç × Obj)}{H':Hp},(∀ p∈pl,p.1 ∉ fp)->(∀ b∈fp,H' b=none)->∀ b∈fp,W50 (c30 X (d00 own capt) sc cl h3.objs.size s2 H2 fp) pl H' b:=λ{pl H'} hp hn b hb =>
  ⟨hn b hb,(below b (fpLt b hb)).1,fpFr b hb,.inl hb,λx c e z=>celFp x c (hcl x c e) (z ▸ hb),λp hpp z=>hp p (by simpa using hpp) (z ▸ hb)⟩
 have hDfp:s2.heap.objs.size ∉ fp:=λz=>À7 _ (fpLt _ z);have loop:∀ s3:Æ,s3={ s2 with heap:=h1,toks:=s2.toks + ([]:List (Str × Ä)).length } ->
   Î4 (Ö X.prog X.w) X.A (.compLoop (.ListComp el [⟨tg,src,tests,0⟩] sc ps) 0 (.ref it) (.ref s2.heap.objs.size) (compEnvC sc cl h3.objs.size X.env)) (RR (.ref s2.heap.objs.size) h3.objs.size) s3:=by
  rintro s3 rfl;refine p51 (λn s'=>∃ i ys H' its k,Inv (c30 X (d00 own capt) sc cl h3.objs.size s2 H2 fp) [(s2.heap.objs.size,{ cls:=.type "list",data:=.seq (toArray its) k })] (q70 own capt σ) H' s'/\tn i s'.heap/\(∀ b∈fp,H' b=none)/\Vals ys its/\ys.length<=Ý/\W i n ys H') ?_ m0
   ⟨0,[],H2,[],0,start,T.keep _ _ _ st2 λb _ o e=>old b o e,λb hb=>(f2 b hb).1,.nil,È3 _,w0⟩
  rintro n s' ⟨i,ys,H',its,k,I',st',fr',hv,hz,w'⟩;have pinD:∀ p∈[((s2.heap.objs.size:Ç),({ cls:=.type "list",data:=.seq (toArray its) k }:Obj))],p.1 ∉ fp:=λp hp=>by
   have hp':p=(s2.heap.objs.size,{ cls:=.type "list",data:=.seq (toArray its) k }):=by simpa using hp
   subst hp';exact hDfp
  rcases turn i n ys H' w' with ⟨stop,q⟩ | ⟨go,hlt,N,hN,step⟩
  ·refine thn (T.done (c30 X (d00 own capt) sc cl h3.objs.size s2 H2 fp) rfl rfl rfl hc i _ s' _ H' NoX I' (m91 pinD fr') st' stop) λr s1 hr=>?_;obtain⟨hr,I1⟩:=hr;subst hr;obtain⟨gD,nD,_,_,_⟩:=I1.pin _ (ò _ Ì);obtain⟨m',hn',_⟩:=id I1.loc;have un:Un (frs X.stack) fp H2 (upd H' s2.heap.objs.size (.lst ys)) s2.heap s1.heap:=by
    have u:=I1.base;have nD2:H2 s2.heap.objs.size=none:=I2.hok.fresh (Î _);refine⟨u.keep,u.slot,λb o e n hx=>?_,u.there,λb xs e=>?_,λb o xs e=>?_,λb ps' e=>?_⟩
    ·rw[a50 (below b (á e)).2];exact u.free b o e n hx
    ·rw[a50 (a90 e nD2)];exact u.tups b xs e
    ·rw[a50 (a90 e nD2)];exact u.frzs b o xs e
    ·obtain⟨more,e'⟩:=u.tbls b ps' e;exact⟨more,by rw[a50 (a90 e nD2)];exact e'⟩
   have IX:Inv X pins σ (upd H' s2.heap.objs.size (.lst ys)) s1:=I2.j02 I1.os un (I1.hok.G11 nD hv hz gD) I1.bare λb hb=>⟨(f2 b hb).2.2.2.1,(f2 b hb).2.1,(f2 b hb).2.2.2.2.1,(f2 b hb).2.2.2.2.2⟩;refine hRR _ _ _ ⟨_,_,m',rfl,IX,?_,hn',q _ nD⟩;exact I2.m91 ∅ (by rw[a50 hDC.symm];exact I1.free)
  ·refine thn (T.item (c30 X (d00 own capt) sc cl h3.objs.size s2 H2 fp) rfl rfl rfl hc i _ s' _ H' NoX I' (m91 pinD fr') st' go) λr s1 hr=>?_;obtain⟨u,hr,h4⟩:=hr;subst hr;refine thn h4 λ_ s5 hr5=>?_;obtain⟨x,H5,I5,r5,y5,st5,fr5⟩:=hr5;have I5p:=I5.pinned (m91 pinD fr5) (T.obj _ _ st5);refine thn (hg _ _ _ _ _ s5 _ H5 x u _ I5p r5 (step x H5 y5)) λ_ s6 hr6=>?_;obtain⟨σ6,H6,I6,q6⟩:=hr6;refine thn (ht _ _ _ _ _ s6 σ6 H6 _ I6 q6) λok s7 hr7=>?_;obtain⟨H7,I7,q7⟩:=hr7;have memFp:∀ {pl:List (Ç × Obj)}{b:Ç}{o:Obj},b∈fp->s5.heap.get? b=some o->(b,o)∈([]:List (Ç × Obj))++(pl++A70 fp s5.heap):=λhb e=>ò _ (ò _ (l00 hb e));cases ok with
   |false =>
    rw[if_neg Ï] at q7 ⊢;obtain⟨m',hm,w7⟩:=hN _ _ q7;refine⟨m',hm,i + 1,ys,H7,its,k,reset (I7.A40 λp hp=>I7.pin p (ò _ (Æ2 _ hp))),T.keep _ _ _ st5 λb hb o e=>(I7.pin (b,o) (memFp hb e)).1,λb hb=>?_,hv,hz,w7⟩;obtain⟨o,e,_⟩:=T.obj _ _ st5 b hb;exact(I7.pin (b,o) (memFp hb e)).2.1
   |true =>
    rw[if_pos rfl] at q7 ⊢;refine thn (he _ _ f2 _ s7 σ6 H7 _ I7 q7) λuv s8 hr8=>?_;obtain⟨y,H8,I8,r8,q8⟩:=hr8;obtain⟨m',hm,w8⟩:=hN _ _ q8;obtain⟨gD,nD,dC,dF,_⟩:=I8.pin _ (ò _ (Æ2 _ Ì));refine append_at gD (λh9 sb hD9=>?_) (by show(toArray its).size<=Ý;rw[Ô,← hv.length];exact hz)
    have I8a:Inv (c30 X (d00 own capt) sc cl h3.objs.size s2 H2 fp) (A70 fp s5.heap) σ6 H8 s8:=I8.A40 λp hp=>I8.pin p (ò _ (ò _ hp));have I9:Inv (c30 X (d00 own capt) sc cl h3.objs.size s2 H2 fp) (A70 fp s5.heap) σ6 H8 { s8 with heap:=h9 }:=I8a.turned (t':=s8.toks) (λb o hb e=>(sb.2 b hb).trans e) nD dC (.inr (Î _))
     (λx c e z=>À7 s2.heap.objs.size (by have:=celLt x c (hcl x c e);rw[z] at this;exact this)) (λp hp z=>hDfp (z ▸ (O70 (by simpa using hp)).1))
    rw[List.push_toArray] at hD9;refine⟨m',hm,i + 1,ys++[y],H8,its++[uv],k + 1,(reset I9).A40 λp hp=>?_,T.keep _ _ _ st5 λb hb o e=>?_,λb hb=>?_,hv.append (.cons r8 .nil),by rw[À5];exact hlt,w8⟩
    ·have hp':p=(s2.heap.objs.size,{ cls:=.type "list",data:=.seq (toArray (its++[uv])) (k + 1) }):=by simpa using hp
     subst hp';exact⟨hD9,nD,dC,dF,λv z=>by cases z⟩
    ·exact(I9.pin (b,o) (ò _ (l00 hb e))).1
    ·obtain⟨o,e,_⟩:=T.obj _ _ st5 b hb;exact(I9.pin (b,o) (ò _ (l00 hb e))).2.1
 exact codeAny_compStart_list (loop _ rfl) (T.self _ 0 _ _ _ (T.keep _ _ _ st2 λb _ o e=>old b o e) (loop _ rfl))
end
section
variable {X:Cx}{sc:í}{own:List Str}{capt:List (Str × Nat)}{el tg src:Ð}{tests:List Ð}{ps pos:Pos}{wi:TI}{g:TG}{tt:TT}{te:TE}
theorem p91(hc:X.calm=true)(S:o00 X sc own capt)(hi:PI X tg src wi)(hg:∀ cl C s H fp,PG (c30 X (d00 own capt) sc cl C s H fp) tg g)
  (ht:∀ cl C s H fp,PTs (c30 X (d00 own capt) sc cl C s H fp) tests tt) (he:∀ cl C s H fp,PE (c30 X (d00 own capt) sc cl C s H fp) el te)
  (hs:∀ x,Æ7 src X.env x=pure x:=by intro _;rfl):PE X (.ListComp el [⟨tg,src,tests,0⟩] sc ps) (X21 own capt wi g tt te):=by
 intro pins s σ H Q I h;obtain⟨cl,hclos,hcl,hcf⟩:=X00 (scope:=sc) (env:=X.env) λy hy hk=>I.ok.has y.1 (S.frees y hy hk);rw[eval_ListComp];refine Ó6 (use:=none) rfl hs hclos S.kind S.locs (thn (hi pins s σ H _ I h) λv s1 h1=>thn h1 λitv s2 h2=>?_);obtain⟨it,fp,tn,J,H2,e,I2,T,st2,f2,hw⟩:=h2;subst e;refine v80 hc S hcl hcf (hg cl) (ht cl) (λC fp _=>he cl C _ _ fp) I2 T st2 f2 hw (RR:=λacc C=>compPost (Ö X.prog X.w) X.A X.xe none (EP X pins σ Q) acc C) λacc C s' hf=>?_;obtain⟨D,H',m',rfl,I',f',ns',r⟩:=hf;exact⟨m',ns',λh' sb=>⟨.ref D,H',I'.turned (t':=s'.toks) (λb o hb e=>(sb.2 b hb).trans e) f'.1 f'.2.1 f'.2.2.2.1 f'.2.2.2.2.1 f'.2.2.2.2.2,rfl,r⟩⟩
theorem G21{te:St->Hp->TE}{Cond:St->Hp->Prop}(hc:X.calm=true)(S:o00 X sc own capt)(hi:PI X tg src wi)(hg:∀ cl C s H fp,PG (c30 X (d00 own capt) sc cl C s H fp) tg g)
  (ht:∀ cl C s H fp,PTs (c30 X (d00 own capt) sc cl C s H fp) tests tt) (he:∀ cl pins σ H s,Inv X pins σ H s->(∀ x c,cl.lookup x=some c->X.env.cells.lookup x=some c)->Cond σ H->∀ C fp,(∀ b∈fp,W50 X pins H b)->PE (c30 X (d00 own capt) sc cl C s H fp) el (te σ H))
  (hs:∀ x,Æ7 src X.env x=pure x:=by intro _;rfl):PE X (.ListComp el [⟨tg,src,tests,0⟩] sc ps) (λσ H Q=>wi σ H λJ H1=>Cond σ H1/\j31 J (q70 own capt σ) H1 g tt (te σ H1) Q):=by
 intro pins s σ H Q I h;obtain⟨cl,hclos,hcl,hcf⟩:=X00 (scope:=sc) (env:=X.env) λy hy hk=>I.ok.has y.1 (S.frees y hy hk);rw[eval_ListComp];refine Ó6 (use:=none) rfl hs hclos S.kind S.locs (thn (hi pins s σ H _ I h) λv s1 h1=>thn h1 λitv s2 h2=>?_);obtain⟨it,fp,tn,J,H2,e,I2,T,st2,f2,cd,hw⟩:=h2;subst e;refine v80 hc S hcl hcf (hg cl) (ht cl) (λC fp hf=>he cl _ _ _ _ I2 hcl cd C fp hf) I2 T st2 f2 hw (RR:=λacc C=>compPost (Ö X.prog X.w) X.A X.xe none (EP X pins σ Q) acc C) λacc C s' hf=>?_;obtain⟨D,H',m',rfl,I',f',ns',r⟩:=hf;exact⟨m',ns',λh' sb=>⟨.ref D,H',I'.turned (t':=s'.toks) (λb o hb e=>(sb.2 b hb).trans e) f'.1 f'.2.1 f'.2.2.2.1 f'.2.2.2.2.1 f'.2.2.2.2.2,rfl,r⟩⟩
theorem X31{i:Nat}{y:Str}{py:Pos}(hN:X.N.Nodup)(hiN:X.N[i]?=some y)(hy:Loc X.env.scope y)(hsw:Í9 (.ListComp el [⟨tg,src,tests,0⟩] sc ps) (some (.Name y py)) pos.line X.env=pure true)
  (hc:X.calm=true) (S:o00 X sc own capt) (hi:PI X tg src wi) (hg:∀ cl C s H fp,PG (c30 X (d00 own capt) sc cl C s H fp) tg g)
  (ht:∀ cl C s H fp,PTs (c30 X (d00 own capt) sc cl C s H fp) tests tt) (he:∀ cl C s H fp,PE (c30 X (d00 own capt) sc cl C s H fp) el te)
  (hs:∀ x,Æ7 src X.env x=pure x:=by intro _;rfl) (hf:X.fn y=true∨X.env.scope.names.lookup y=some .local:=by first | exact .inl rfl | exact .inr rfl | assumption) :
  PS X (.Assign [.Name y py] (.ListComp el [⟨tg,src,tests,0⟩] sc ps) pos) (j92 (X21 own capt wi g tt te) (I70 i)):=by
 intro pins s σ H D I h;obtain⟨cl,hclos,hcl,hcf⟩:=X00 (scope:=sc) (env:=X.env) λy hy hk=>I.ok.has y.1 (S.frees y hy hk);rw[exec_Assign_Name_used _ _ _ _ hsw];refine À (Ú6 (À ?_));show Ñ _ X.A (do let _ ← comprehension (.ListComp el [⟨tg,src,tests,0⟩] sc ps) sc X.env _ (newList []) false (eval src X.env) (some (Ø7 (.Name y py) X.env))) _ _ s;refine À (Â2 (Ó6 (use:=some (Ø7 (.Name y py) X.env)) (Q:=λ_ s'=>SP X pins D .next s') rfl hs hclos S.kind S.locs
  (thn (hi pins s σ H _ I h) λv s1 h1=>thn h1 λitv s2 h2=>?_)) (λ_ s' hq=>Å (Å hq)) λ_ _ e=>e)
 obtain⟨it,fp,tn,J,H2,e,I2,T,st2,f2,hw⟩:=h2;subst e;refine v80 hc S hcl hcf (hg cl) (ht cl) (λC fp _=>he cl C _ _ fp) I2 T st2 f2 hw (RR:=λacc C=>compPost (Ö X.prog X.w) X.A X.xe (some (Ø7 (.Name y py) X.env)) (λ_ s'=>SP X pins D .next s') acc C) λacc C s' hfn=>?_;obtain⟨DA,H',m',rfl,I',f',ns',r⟩:=hfn;show Ñ _ X.A (Ø7 (.Name y py) X.env (.ref DA)) _ _ _;refine wpAny_assign_Name (A50 (v:=.ref DA) I' hN hiN hy rfl (λs3 I3 ha=>?_) hf);obtain⟨a,sb,ha⟩:=ha;have hCa:C≠a:=λz=>by
  rcases ha with q | q
  ·exact f'.2.1 (z.trans q)
  ·exact f'.2.2.2.2.1 _ _ q z.symm
 exact⟨m',ns'.sameBut sb hCa,λh' sb'=>⟨_,H',I3.turned (t':=s3.toks) (λb o hb e=>(sb'.2 b hb).trans e) f'.1 f'.2.1 f'.2.2.2.1 f'.2.2.2.2.1 f'.2.2.2.2.2,r⟩⟩
end
end L2
namespace L2
open PySem
section
variable {P:à}{w:ê}{A:ö}{E:Ä->Æ->Prop}{s:Æ}
theorem p60(hr:s.heap.IsTupleIter r t k)(ht:s.heap.IsTuple t vs)(hx:vs[k]?=some x)
  (hQ:∀ h',h'.IsTupleIter r t (k + 1)->Ì2 r s.heap h'->Q x { s with heap:=h' }):Ñ (Ö P w) A (nextOf (.ref r)) Q E s:=by
 obtain⟨o,ho,hc,hd⟩:=id hr;obtain⟨ot,hot,_,nt,hdt⟩:=ht;unfold nextOf;refine À (À9 (name:=Á2 "__next__") hr.typeIs É3 (À8 É3 hr.typeIs ß1 ?_ (Þ8 _)));show Ñ _ _ (field (.ref r) 0 >>= _) _ _ s;refine À (Á7 ho hd (x:=.ref t) rfl ?_);show Ñ _ _ (if (Â9 t == å)=true then _ else _) _ _ s;rw[if_neg (show ¬ ((Â9 t == å)=true) from Ï)];show Ñ _ _ (field (.ref r) 1 >>= _) _ _ s;refine À (Á7 ho hd (x:=.int k 0) rfl ?_);show Ñ _ _ (seqItems? (.ref t) >>= _) _ _ s;refine À (Ç4 hot hdt ?_);simp only[À1,hx];refine À (wpAny_setField ho hd (by simp) (Å ⟨x,rfl,Å (hQ _ ⟨_,Ç5 _ ho (Obj.isFreed_of_fields (Obj.data_mapFields hd _)),(Obj.cls_mapFields ..).trans hc,by rw[Obj.data_mapFields hd];simp[Ã6]⟩ (Å8 ..))⟩))
theorem l70(hh:A.handled=none)(hr:s.heap.IsTupleIter r t k)(ht:s.heap.IsTuple t vs)(hx:vs[k]?=none)
  (hE:∀ h' e,ë.ExtBut r s.heap h'->(∃ o,h'.get? e=some o/\o.cls=.type "StopIteration")->E (.ref e) { s with heap:=h' }):Ñ (Ö P w) A (nextOf (.ref r)) Q E s:=by
 obtain⟨o,ho,hc,hd⟩:=id hr;obtain⟨ot,hot,_,nt,hdt⟩:=ht;unfold nextOf;refine À (À9 (name:=Á2 "__next__") hr.typeIs É3 (À8 É3 hr.typeIs ß1 ?_ (Þ8 _)));show Ñ _ _ (field (.ref r) 0 >>= _) _ _ s;refine À (Á7 ho hd (x:=.ref t) rfl ?_);show Ñ _ _ (if (Â9 t == å)=true then _ else _) _ _ s;rw[if_neg (show ¬ ((Â9 t == å)=true) from Ï)];show Ñ _ _ (field (.ref r) 1 >>= _) _ _ s;refine À (Á7 ho hd (x:=.int k 0) rfl ?_);show Ñ _ _ (seqItems? (.ref t) >>= _) _ _ s;refine À (Ç4 hot hdt ?_);simp only[À1,hx];refine À (É9 (À (wpAny_setField ho hd (by simp) ?_)));show Ñ _ _ (newExc (.type "StopIteration") [] >>= _) _ _ _
 refine À ?_;simp only[newExc,newTuple];refine À (é ?_ (by size_fits));refine À (m:=Ø5 _ _) (Þ9 (a:=å) (by first | rfl | (simp only[Ø5];rfl)) ?_)
 refine é ?_ (by size_fits);simp only[raiseNew];refine À (wpAny_handled ?_)
 first | rw[show A.in1.handled=none from hh] | rw[hh]
 refine À (Å (wpAny_throw (hE _ _ (((Å8 ..).extBut.push _).push _) ⟨_,Ë _ rfl,rfl⟩)))
theorem q01{z TI TO i1 i2 l1 l2:Ç}{k:Nat}{xs ys:Array Ä}{x y a b:Ä}{Q:Option Ä->Æ->Prop}(D:ZipApart z TI TO i1 i2 l1 l2)(hz:Ò4 s.heap z TI TO .none)
  (hTI:Æ1 s.heap TI (.ref i1) (.ref i2)) (hTO:Æ1 s.heap TO a b) (h1:s.heap.IsTupleIter i1 l1 k) (h2:s.heap.IsTupleIter i2 l2 k) (hl1:s.heap.IsTuple l1 xs) (hl2:s.heap.IsTuple l2 ys)
  (hx:xs[k]?=some x) (hy:ys[k]?=some y)
  (hQ:∀ h',Ò4 h' z TI TO (Ã6 s.heap.objs.size)->Æ1 h' TO x y->h'.IsTupleIter i1 l1 (k + 1)->h'.IsTupleIter i2 l2 (k + 1)->Æ1 h' s.heap.objs.size x y->h'.objs.size=s.heap.objs.size + 1 ->
   (∀ c o,c≠z->c≠TO->c≠i1->c≠i2->s.heap.get? c=some o->h'.get? c=some o)->Q (some (.ref s.heap.objs.size)) { s with heap:=h' }):Ñ (Ö P w) A (Ñ8 (.ref z)) Q E s:=by
 have hT:s.TypeIs (.ref z) "zip":=⟨_,hz,rfl⟩;unfold Ñ8;refine À (Ë5 (À9 (name:=Á2 "__next__") hT Ô9 (À8 Ô9 hT F.entry_zip_next ?_ (F.args_zip_next_1 _))));show Ñ _ _ (field (.ref z) 2 >>= _) _ _ _;refine À (Á7 hz rfl (x:=.bool false) rfl ?_);show Ñ _ _ (field (.ref z) 3 >>= _) _ _ _;refine À (Á7 hz rfl (x:=.ref TI) rfl ?_);refine À (Ç4 hTI rfl ?_);show Ñ _ _ (Í0 (.ref z) >>= _) _ _ _;refine À ?_;unfold Í0;refine À (Á7 hz rfl (x:=.none) rfl (Å ?_));simp only[if_true];refine À (É9 (À (Á7 hz rfl (x:=.ref TO) rfl (À (Ã2 hz (by simp) λg1 z1 e1=>?_)))))
 replace z1:Ò4 g1 z TI TO .ellipsis:=z1
 refine À ?_;simp only[List.zipIdx_cons,List.zipIdx_nil,Í2,Ö1];refine À (À (Ú7 ?_));show Ñ _ _ (nextOf (.ref i1) >>= _) _ _ _;refine À (p60 (h1.extBut e1.extBut D.i1z) (hl1.extBut e1.extBut D.l1z) hx λg2 r2 e2=>Å ?_);have t2:Æ1 g2 TO a b:=e2.extBut _ _ D.TOi1 (e1.extBut _ _ D.TOz hTO);refine À (Ç4 t2 rfl (À (Ø0 t2 λg3 t3 e3=>?_)))
 replace t3:Æ1 g3 TO x b:=t3
 refine À (wpAny_letGo (Å ?_));refine À (À (Ú7 ?_));show Ñ _ _ (nextOf (.ref i2) >>= _) _ _ _;refine À (p60 (((h2.extBut e1.extBut D.i2z).extBut e2.extBut D.i12.symm).extBut e3.extBut D.TOi2.symm) (((hl2.extBut e1.extBut D.l2z).extBut e2.extBut D.l2i1).extBut e3.extBut D.l2TO) hy λg4 r4 e4=>Å ?_);have t4:Æ1 g4 TO x b:=e4.extBut _ _ D.TOi2 t3;refine À (Ç4 t4 rfl (À (Ø0 t4 λg5 t5 e5=>?_)))
 replace t5:Æ1 g5 TO x y:=t5
 refine À (wpAny_letGo (Å (Å ?_)));refine À (Ç4 t5 rfl (À (wpAny_newTuple ?_)));have sz:g5.objs.size=s.heap.objs.size:=by rw[e5.1,e4.1,e3.1,e2.1,e1.1]
 have z5:Ò4 g5 z TI TO .ellipsis:=e5.extBut _ _ D.TOz.symm (e4.extBut _ _ D.i2z.symm (e3.extBut _ _ D.TOz.symm (e2.extBut _ _ D.i1z.symm z1)));have kp:∀ c o,c≠z->c≠TO->c≠i1->c≠i2->s.heap.get? c=some o->g5.get? c=some o:=λc o c1 c2 c3 c4 e=>e5.extBut _ _ c2 (e4.extBut _ _ c4 (e3.extBut _ _ c2 (e2.extBut _ _ c3 (e1.extBut _ _ c1 e))));have r1:g5.IsTupleIter i1 l1 (k + 1):=((r2.extBut e3.extBut D.TOi1.symm).extBut e4.extBut D.i12).extBut e5.extBut D.TOi1.symm;have r5:g5.IsTupleIter i2 l2 (k + 1):=r4.extBut e5.extBut D.TOi2.symm;have zl:z < g5.objs.size:=á z5;show Ñ _ _ (ownedTupleHandOut (.ref z) (.ref g5.objs.size) >>= _) _ _ _;refine À ?_;unfold ownedTupleHandOut;have z6:Ò4 (g5.push { cls:=.type "tuple",data:=.seq #[x,y] }) z TI TO .ellipsis:=Ã _ z5;refine À (Ã2 z6 (by simp) λg7 z7 e7=>?_)
 replace z7:Ò4 g7 z TI TO (Ã6 g5.objs.size):=z7
 refine Ã2 z7 (by simp) λg8 z8 e8=>?_
 replace z8:Ò4 g8 z TI TO (Ã6 g5.objs.size):=z8
 have up:∀ c o,c≠z->g5.get? c=some o->g8.get? c=some o:=λc o c1 e=>e8.extBut _ _ c1 (e7.extBut _ _ c1 (Ã _ e));have t8:Æ1 g8 g5.objs.size x y:=e8.extBut _ _ (Ê7 zl) (e7.extBut _ _ (Ê7 zl) (Ë _ rfl));have s8:g8.objs.size=g5.objs.size + 1:=by rw[e8.1,e7.1,Ë6]
 rw[sz] at z8 t8 s8;refine Å ⟨_,rfl,?_⟩;refine Å ?_;show Q (some (.ref g5.objs.size)) _;rw[sz];exact hQ g8 z8 (up _ _ D.TOz t5) (by obtain⟨o,ho,q⟩:=r1;exact⟨o,up _ o D.i1z ho,q⟩) (by obtain⟨o,ho,q⟩:=r5;exact⟨o,up _ o D.i2z ho,q⟩) t8 s8 λc o c1 c2 c3 c4 e=>up c o c1 (kp c o c1 c2 c3 c4 e)
theorem G31{z TI TO i1 i2 l1 l2:Ç}{k:Nat}{xs ys:Array Ä}{a b:Ä}{Q:Option Ä->Æ->Prop}(hh:A.handled=none)(D:ZipApart z TI TO i1 i2 l1 l2)(hz:Ò4 s.heap z TI TO .none)
  (hTI:Æ1 s.heap TI (.ref i1) (.ref i2)) (hTO:Æ1 s.heap TO a b) (h1:s.heap.IsTupleIter i1 l1 k) (h2:s.heap.IsTupleIter i2 l2 k) (hl1:s.heap.IsTuple l1 xs) (hl2:s.heap.IsTuple l2 ys)
  (hend:xs[k]?=none∨ys[k]?=none) (hQ:∀ h',(∀ c o,c≠z->c≠TO->c≠i1->c≠i2->s.heap.get? c=some o->h'.get? c=some o)->Q none { s with heap:=h' }):Ñ (Ö P w) A (Ñ8 (.ref z)) Q E s:=by
 have hT:s.TypeIs (.ref z) "zip":=⟨_,hz,rfl⟩;have fin:∀ (h':ë) (e:Ç),(∀ c o,c≠z->c≠TO->c≠i1->c≠i2->s.heap.get? c=some o->h'.get? c=some o)->(∃ o,h'.get? e=some o/\o.cls=.type "StopIteration") ->
   Ñ (Ö P w) A (isInstance (.ref e) (.type "StopIteration") >>= λb=>if b=true then pure none else throw (.ref e)) Q E { s with heap:=h' }:=λh' e kp he=>by
  obtain⟨o,ho,hc⟩:=he;exact À (Þ2 (T:="StopIteration") (b:=true) ⟨o,ho,hc⟩ isSubtype_stop (Å (hQ _ kp)))
 unfold Ñ8;refine À (Ë5 (À9 (name:=Á2 "__next__") hT Ô9 (À8 Ô9 hT F.entry_zip_next ?_ (F.args_zip_next_1 _))));show Ñ _ _ (field (.ref z) 2 >>= _) _ _ _;refine À (Á7 hz rfl (x:=.bool false) rfl ?_);show Ñ _ _ (field (.ref z) 3 >>= _) _ _ _;refine À (Á7 hz rfl (x:=.ref TI) rfl ?_);refine À (Ç4 hTI rfl ?_);show Ñ _ _ (Í0 (.ref z) >>= _) _ _ _;refine À ?_;unfold Í0;refine À (Á7 hz rfl (x:=.none) rfl (Å ?_));simp only[if_true];refine À (É9 (À (Á7 hz rfl (x:=.ref TO) rfl (À (Ã2 hz (by simp) λg1 z1 e1=>?_)))))
 replace z1:Ò4 g1 z TI TO .ellipsis:=z1
 refine À ?_;simp only[List.zipIdx_cons,List.zipIdx_nil,Í2,Ö1];refine À (À (Ú7 ?_));show Ñ _ _ (nextOf (.ref i1) >>= _) _ _ _;cases hx:xs[k]? with
 |none =>
  refine À (l70 hh (h1.extBut e1.extBut D.i1z) (hl1.extBut e1.extBut D.l1z) hx λg2 e e2 he=>?_);obtain⟨oe,hoe,hce⟩:=he;have z2:Ò4 g2 z TI TO .ellipsis:=e2 _ _ D.i1z.symm z1;have hez:e≠z:=λq=>by subst q;rw[z2] at hoe;cases hoe;simp at hce
  exact Ã2 z2 (by simp) λg3 _ e3=>fin g3 e (λc o c1 _ c3 _ q=>e3.extBut _ _ c1 (e2 _ _ c3 (e1.extBut _ _ c1 q))) ⟨oe,e3.extBut _ _ hez hoe,hce⟩
 |some x =>
  have hy:ys[k]?=none:=by rcases hend with q | q;rw[hx] at q;cases q;exact q
  refine À (p60 (h1.extBut e1.extBut D.i1z) (hl1.extBut e1.extBut D.l1z) hx λg2 r2 e2=>Å ?_);have t2:Æ1 g2 TO a b:=e2.extBut _ _ D.TOi1 (e1.extBut _ _ D.TOz hTO);refine À (Ç4 t2 rfl (À (Ø0 t2 λg3 t3 e3=>?_)));refine À (wpAny_letGo (Å ?_));refine À (À (Ú7 ?_));show Ñ _ _ (nextOf (.ref i2) >>= _) _ _ _;refine À (l70 hh (((h2.extBut e1.extBut D.i2z).extBut e2.extBut D.i12.symm).extBut e3.extBut D.TOi2.symm) (((hl2.extBut e1.extBut D.l2z).extBut e2.extBut D.l2i1).extBut e3.extBut D.l2TO) hy λg4 e e4 he=>?_);obtain⟨oe,hoe,hce⟩:=he;have z4:Ò4 g4 z TI TO .ellipsis:=e4 _ _ D.i2z.symm (e3.extBut _ _ D.TOz.symm (e2.extBut _ _ D.i1z.symm z1));have hez:e≠z:=λq=>by subst q;rw[z4] at hoe;cases hoe;simp at hce
  exact Ã2 z4 (by simp) λg5 _ e5=>fin g5 e (λc o c1 c2 c3 c4 q=>e5.extBut _ _ c1 (e4 _ _ c4 (e3.extBut _ _ c2 (e2.extBut _ _ c3 (e1.extBut _ _ c1 q))))) ⟨oe,e5.extBut _ _ hez hoe,hce⟩
abbrev zT1(h:ë)(l1:Ç):Heap:=h.push { cls:=.type "tuple_iterator",data:=.fields #[.ref l1,.int 0 0] }
abbrev zT2(h:ë)(l1 l2:Ç):Heap:=(zT1 h l1).push { cls:=.type "tuple_iterator",data:=.fields #[.ref l2,.int 0 0] }
abbrev zT3(h:ë)(l1 l2:Ç):Heap:=(zT2 h l1 l2).push { cls:=.type "tuple",data:=.seq #[.ref h.objs.size,.ref (zT1 h l1).objs.size] }
abbrev zT4(h:ë)(l1 l2:Ç):Heap:=(zT3 h l1 l2).push { cls:=.type "tuple",data:=.seq #[.none,.none] }
abbrev zT5(h:ë)(l1 l2:Ç):Heap:=(zT4 h l1 l2).push { cls:=.type "zip",data:=.fields #[.none,.bool false,.bool false,.ref (zT2 h l1 l2).objs.size,.ref (zT3 h l1 l2).objs.size] }
theorem j41(l1 l2:Ç)(xs ys:Array Ä) :
  Meets (À3.«zip.__new__» ⟨[.type "zip",.ref l1,.ref l2],[]⟩) (λ_ R s=>s.heap.IsTuple l1 xs/\s.heap.IsTuple l2 ys/\R (.ok (.ret (.ref (zT4 s.heap l1 l2).objs.size))) { s with heap:=zT5 s.heap l1 l2 }) :=
 .of_wp λP w A R s h=>by
  obtain⟨hp,g,d,tk,os⟩:=s;obtain⟨hl1,hl2,h⟩:=h;have hsub:=sub_zip;have hL1:Ó4 (Æ.heap ⟨hp,g,d,tk,os⟩) l1 xs:=hl1;have hL2:Ó4 (Æ.heap ⟨hp.push { cls:=.type "tuple_iterator",data:=.fields #[.ref l1,.int 0 0] },g,d,tk,os⟩) l2 ys:=Ó4.push hl2 _
  wp_walk using Ç7 hL1,Ç7 hL2
  exact⟨_,rfl,h⟩
theorem q11(hl1:s.heap.IsTuple l1 xs)(hl2:s.heap.IsTuple l2 ys)
  (h:∀ h',Ò4 h' (s.heap.objs.size + 4) (s.heap.objs.size + 2) (s.heap.objs.size + 3) .none->Æ1 h' (s.heap.objs.size + 2) (.ref s.heap.objs.size) (.ref (s.heap.objs.size + 1))->Æ1 h' (s.heap.objs.size + 3) .none .none ->
   h'.IsTupleIter s.heap.objs.size l1 0->h'.IsTupleIter (s.heap.objs.size + 1) l2 0->(∀ c o,s.heap.get? c=some o->h'.get? c=some o)->Q (.ref (s.heap.objs.size + 4)) { s with heap:=h' }) :
  Ñ (Ö P w) A (call (.type "zip") [.ref l1,.ref l2]) Q E s:=by
 refine callType_new F.called_zip (-0) (F.typeCall_zip_2 _ _) (F.newCall_zip_2 _ _) (λobj=>F.args_object_init_3 obj _ _) F.entry_zip_new (j41 l1 l2 xs ys) ⟨hl1,hl2,?_⟩
 have n1:(zT1 s.heap l1).objs.size=s.heap.objs.size + 1:=Ë6 ..;have n2:(zT2 s.heap l1 l2).objs.size=s.heap.objs.size + 2:=by rw[Ë6,n1]
 have n3:(zT3 s.heap l1 l2).objs.size=s.heap.objs.size + 3:=by rw[Ë6,n2]
 have n4:(zT4 s.heap l1 l2).objs.size=s.heap.objs.size + 4:=by rw[Ë6,n3]
 have g5:(zT5 s.heap l1 l2).get? (zT4 s.heap l1 l2).objs.size=some _:=Ë _ rfl;have g4:(zT5 s.heap l1 l2).get? (zT3 s.heap l1 l2).objs.size=some _:=Ã _ (Ë _ rfl);have g3:(zT5 s.heap l1 l2).get? (zT2 s.heap l1 l2).objs.size=some _:=Ã _ (Ã _ (Ë _ rfl));have g2:(zT5 s.heap l1 l2).get? (zT1 s.heap l1).objs.size=some _:=Ã _ (Ã _ (Ã _ (Ë _ rfl)));have g1:(zT5 s.heap l1 l2).get? s.heap.objs.size=some _:=Ã _ (Ã _ (Ã _ (Ã _ (Ë _ rfl))));show _/\_;rw[n2,n3,n4] at g5;rw[n1,n2] at g3;rw[n3] at g4;rw[n1] at g2;rw[n4];exact⟨⟨_,g5,rfl⟩,h _ g5 g3 g4 ⟨_,g1,rfl,rfl⟩ ⟨_,g2,rfl,rfl⟩ λc o q=>Ã _ (Ã _ (Ã _ (Ã _ (Ã _ q))))⟩
end
open PySem PySem.Spec PyProof.Rows
section
variable {X:Cx}{pins:List (Ç × Obj)}{σ:St}{H:Hp}{s:Æ}{h':ë}
theorem Inv.J60{t':Nat}{ch:List Ç}(I:Inv X pins σ H s)(hf:∀ b∈ch,W50 X pins H b)(k:∀ b o,b ∉ ch->s.heap.get? b=some o->h'.get? b=some o):Inv X pins σ H { s with heap:=h',toks:=t' }:=by
 have nch:∀ b u,H b=some u->b ∉ ch:=λb u e z=>by rw[(hf b z).1] at e;cases e
 refine I.step (g':=s.gens) (d':=s.drawn) (ch:=ch) (λb hb=>⟨(hf b hb).2.2.2.1,(hf b hb).2.1,(hf b hb).2.2.2.2.1,(hf b hb).2.2.2.2.2⟩) (λb o _ _ hc e _=>k b o hc e) (λb o _ _ hc e _=>⟨o.slots,k b o hc e⟩) (λ_ _ _ _ n=>n)
  (λb o hc e=>⟨o,k b o hc e⟩) (λ_ _ e=>e) (λ_ _ _ e=>e) (λb ps e=>⟨#[],by rw[e];simp⟩) (λm hm=>?_) (λb u e=>?_) I.bare
 ·obtain⟨o,es,ep,ho,r⟩:=hm;exact⟨o,es,ep,k _ o (λz=>(hf _ z).2.1 rfl) ho,r⟩
 ·refine(I.hok b u e).i61 (λc v hc q=>k c v ?_ q) (λ_ q=>q) λ_ _ q=>q;rcases hc with z | z
  ·rw[z];exact nch b u e
  ·exact nch c _ z
theorem Inv.G11{T:Ç}{o:HO}(I:Inv X pins σ H s)(f:W50 X pins H T)(h0:X.s₀.heap.objs.size<=T)(hok:HOk X.prog X.w (upd H T o) s.heap):Inv X pins σ (upd H T o) s:=by
 have u:=I.base;refine⟨I.ok,I.os,I.bare,⟨u.keep,u.slot,λb ob e n hx=>?_,u.there,λb xs e=>?_,λb ob xs e=>?_,λb ps e=>?_⟩,I.loc,I.cell,?_,λx c e=>?_,λp hp=>?_,hok,I.len⟩
 ·rw[a50 (Ü (Õ (á e) h0))];exact u.free b ob e n hx
 ·have z:=u.tups b xs e;rw[a50 (a90 z f.1)];exact z
 ·have z:=u.frzs b ob xs e;rw[a50 (a90 z f.1)];exact z
 ·obtain⟨more,z⟩:=u.tbls b ps e;exact⟨more,by rw[a50 (a90 z f.1)];exact z⟩
 ·rw[a50 f.2.1.symm];exact I.free
 ·rw[a50 (f.2.2.2.2.1 x c e)];exact I.freeC x c e
 ·obtain⟨e,n,r⟩:=I.pin p hp;exact⟨e,by rw[a50 (f.2.2.2.2.2 p hp)];exact n,r⟩
theorem HOk.Q81{P:à}{w:ê}{H:Hp}{h:ë}{D:Ç}{ys:List V}{its:List Ä}(x:HOk P w H h)(hn:H D=none)(hv:Vals ys its)(hz:ys.length<=Ý)(ho:Ï1 h D its.toArray):HOk P w (upd H D (.tup ys)) h:=λb u e=>by
 by_cases hb:b=D
 ·subst hb;rw[b00] at e;cases e;exact⟨hz,its,hv,ho⟩
 ·rw[a50 hb] at e;exact(x b u e).i61 (λc v _ q=>q) (λc q=>by rw[a50 (a90 q hn)];exact q) λc xs q=>by rw[a50 (a90 q hn)];exact q
end
def SqB:Bool->Â->Hp->Ç->List V->Prop
 |true=>SqL|false=>SqT
def Q20:Bool->ë->Ç->Ç->Nat->Prop
 |true=>ë.IsListIter|false=>ë.IsTupleIter
def G41:Bool->ë->Ç->Array Ä->Prop
 |true=>ë.IsList|false=>Ó4
theorem Q20.obj{b:Bool}{h:ë}{it a:Ç}{i:Nat}(st:Q20 b h it a i):∃ o,h.get? it=some o/\(∀ v,o.data=.cell v->False)/\∀ h':ë,h'.get? it=some o->Q20 b h' it a i:=by
 cases b with
 |true=>obtain⟨o,g,c,d⟩:=st;exact⟨o,g,(λv e=>by rw[d] at e;cases e),λh' k=>⟨o,k,c,d⟩⟩
 |false=>obtain⟨o,g,c,d⟩:=st;exact⟨o,g,(λv e=>by rw[d] at e;cases e),λh' k=>⟨o,k,c,d⟩⟩
theorem Inv.G51(I:Inv X pins σ H s)(h:SqB b X.K H a xs):∃ its:List Ä,Vals xs its/\G41 b s.heap a its.toArray/\a < s.heap.objs.size/\∀ ys,SqB b X.K H a ys->ys=xs:=by
 cases b with
 |true=>obtain⟨its,r,p,_⟩:=I.list h;exact⟨its,r,p.isList,by obtain⟨o,e,_⟩:=p.isList;exact á e,λys h'=>I.c21 h' h⟩
 |false=>obtain⟨its,r,p,_⟩:=I.tuple h;exact⟨its,r,p,by obtain⟨o,e,_⟩:=p;exact á e,λys h'=>I.O50 h' h⟩
section
variable {P:à}{w:ê}{A:ö}{E:Ä->Æ->Prop}{s:Æ}{b:Bool}{z TI TO i1 i2 l1 l2:Ç}{k:Nat}{xs ys:Array Ä}{x y p q:Ä}
theorem q21{Q:Option Ä->Æ->Prop}(D:ZipApart z TI TO i1 i2 l1 l2)(hz:Ò4 s.heap z TI TO .none)(hTI:Æ1 s.heap TI (.ref i1) (.ref i2))(hTO:Æ1 s.heap TO p q)(h1:Q20 b s.heap i1 l1 k)(h2:Q20 b s.heap i2 l2 k)(hl1:G41 b s.heap l1 xs)(hl2:G41 b s.heap l2 ys)(hx:xs[k]?=some x)(hy:ys[k]?=some y)
  (hQ:∀ h',Ò4 h' z TI TO (Ã6 s.heap.objs.size)->Æ1 h' TO x y->Q20 b h' i1 l1 (k + 1)->Q20 b h' i2 l2 (k + 1)->Æ1 h' s.heap.objs.size x y->h'.objs.size=s.heap.objs.size + 1 ->
   (∀ c o,c≠z->c≠TO->c≠i1->c≠i2->s.heap.get? c=some o->h'.get? c=some o)->Q (some (.ref s.heap.objs.size)) { s with heap:=h' }):Ñ (Ö P w) A (Ñ8 (.ref z)) Q E s:=match b,h1,h2,hl1,hl2,hQ with
 |true,h1,h2,hl1,hl2,hQ=>wpAny_pyNext_zip_item D hz hTI hTO h1 h2 hl1 hl2 hx hy hQ|false,h1,h2,hl1,hl2,hQ=>q01 D hz hTI hTO h1 h2 hl1 hl2 hx hy hQ
theorem G61{Q:Option Ä->Æ->Prop}(hh:A.handled=none)(D:ZipApart z TI TO i1 i2 l1 l2)(hz:Ò4 s.heap z TI TO .none)(hTI:Æ1 s.heap TI (.ref i1) (.ref i2))(hTO:Æ1 s.heap TO p q)(h1:Q20 b s.heap i1 l1 k)(h2:Q20 b s.heap i2 l2 k)(hl1:G41 b s.heap l1 xs)(hl2:G41 b s.heap l2 ys)
  (hend:xs[k]?=none∨ys[k]?=none) (hQ:∀ h',(∀ c o,c≠z->c≠TO->c≠i1->c≠i2->s.heap.get? c=some o->h'.get? c=some o)->Q none { s with heap:=h' }):Ñ (Ö P w) A (Ñ8 (.ref z)) Q E s:=match b,h1,h2,hl1,hl2 with
 |true,h1,h2,hl1,hl2=>wpAny_pyNext_zip_end hh D hz hTI hTO h1 h2 hl1 hl2 hend hQ|false,h1,h2,hl1,hl2=>G31 hh D hz hTI hTO h1 h2 hl1 hl2 hend hQ
theorem q31{Q:Ä->Æ->Prop}(hl1:G41 b s.heap l1 xs)(hl2:G41 b s.heap l2 ys)
  (h:∀ h',Ò4 h' (s.heap.objs.size + 4) (s.heap.objs.size + 2) (s.heap.objs.size + 3) .none->Æ1 h' (s.heap.objs.size + 2) (.ref s.heap.objs.size) (.ref (s.heap.objs.size + 1))->Æ1 h' (s.heap.objs.size + 3) .none .none ->
   Q20 b h' s.heap.objs.size l1 0->Q20 b h' (s.heap.objs.size + 1) l2 0->(∀ c o,s.heap.get? c=some o->h'.get? c=some o)->Q (.ref (s.heap.objs.size + 4)) { s with heap:=h' }):Ñ (Ö P w) A (call (.type "zip") [.ref l1,.ref l2]) Q E s:=match b,hl1,hl2,h with
 |true,hl1,hl2,h=>call_zip_2 hl1 hl2 λh' a1 a2 a3 a4 a5 _ a6=>h h' a1 a2 a3 a4 a5 a6|false,hl1,hl2,h=>q11 hl1 hl2 h
end
def Itz(b:Bool)(K:Â)(a c:Ç):It :=
 ⟨λi H=>∃ xs ys x y,SqB b K H a xs/\SqB b K H c ys/\xs[i]?=some x/\ys[i]?=some y,
  λi H v H'=>∃ T,v=.ref T/\H T=none/\∀ xs ys x y,SqB b K H a xs->SqB b K H c ys->xs[i]?=some x->ys[i]?=some y->H'=upd H T (.tup [x,y]),
  λi H=>∃ xs ys,SqB b K H a xs/\SqB b K H c ys/\(xs.length<=i∨ys.length<=i)⟩
theorem G71{P:à}{w:ê}{K:Â}{es:List Ð}{ek:Nat}{ep:Pos}{b:Bool}{a c z TI TO i1 i2:Ç}(D:ZipApart z TI TO i1 i2 a c) :
  Turn P w K (.Tuple es ek ep) (Itz b K a c) [z,TI,TO,i1,i2] z (λi h=>Ò4 h z TI TO .none/\Æ1 h TI (.ref i1) (.ref i2)/\(∃ p q,Æ1 h TO p q)/\Q20 b h i1 a i/\Q20 b h i2 c i) where
 mem:=by simp
 obj:=λi h st c hc=>by
  obtain⟨hz,hTI,⟨p,q,hTO⟩,h1,h2⟩:=st;obtain⟨o1,h1,d1,_⟩:=h1.obj;obtain⟨o2,h2,d2,_⟩:=h2.obj;simp only[Ã1,À6,or_false] at hc;rcases hc with rfl | rfl | rfl | rfl | rfl
  ·exact⟨_,hz,λv e=>by cases e⟩
  ·exact⟨_,hTI,λv e=>by cases e⟩
  ·exact⟨_,hTO,λv e=>by cases e⟩
  ·exact⟨_,h1,d1⟩
  ·exact⟨_,h2,d2⟩
 keep:=λi h h' st k=>by
  obtain⟨hz,hTI,⟨p,q,hTO⟩,h1,h2⟩:=st;obtain⟨o1,h1,_,r1⟩:=h1.obj;obtain⟨o2,h2,_,r2⟩:=h2.obj;exact⟨k z (by simp) _ hz,k TI (by simp) _ hTI,⟨p,q,k TO (by simp) _ hTO⟩,r1 _ (k i1 (by simp) _ h1),r2 _ (k i2 (by simp) _ h2)⟩
 item:=by
  intro X hP hw hK hc i pins s σ H E I hf st hg;subst hP hw hK;obtain⟨xs,ys,x,y,hq1,hq2,hx,hy⟩:=hg;obtain⟨v1,rv1,p1,_,z1⟩:=I.G51 hq1;obtain⟨v2,rv2,p2,_,z2⟩:=I.G51 hq2;obtain⟨u1,hu1,ru1⟩:=rv1.get hx;obtain⟨u2,hu2,ru2⟩:=rv2.get hy;obtain⟨hz,hTI,⟨p,q,hTO⟩,h1,h2⟩:=st;refine q21 D hz hTI hTO h1 h2 p1 p2 (x:=u1) (y:=u2) (by simpa using hu1) (by simpa using hu2) λg1 gz gTO g1' g2' gT gs kp=>⟨_,rfl,?_⟩
  refine wpAny_letOwnedTupleGo_zip (s:={ s with heap:=g1 }) gz λg2 gz2 sb=>?_;have hT:H s.heap.objs.size=none:=I.hok.fresh (Î _);have kall:∀ c o,c ∉ [z,TI,TO,i1,i2]->s.heap.get? c=some o->g2.get? c=some o:=λc o hc e=>by
   simp only[Ã1,À6,or_false,not_or] at hc;exact sb.extBut _ _ hc.1 (kp c o hc.1 hc.2.2.1 hc.2.2.2.1 hc.2.2.2.2 e)
  have I2:Inv X pins σ H { s with heap:=g2 }:=I.J60 (t':=s.toks) hf kall;have fT:W50 X pins H s.heap.objs.size:=I.m91 (Î _) hT;have gT2:g2.get? s.heap.objs.size=some { cls:=.type "tuple",data:=.seq #[u1,u2] }:=sb.extBut _ _ (λe=>À7 _ (by have:=á hz;rw[← e] at this;exact this)) gT
  have I3:Inv X pins σ (upd H s.heap.objs.size (.tup [x,y])) { s with heap:=g2 }:=I2.G11 fT I.sz (I2.hok.Q81 hT (its:=[u1,u2]) (.cons ru1 (.cons ru2 .nil)) (by show 2<=Ý;rw[Á4];decide) ⟨_,gT2,rfl,_,rfl⟩)
  have TI0:Æ1 g2 TI (.ref i1) (.ref i2):=sb.extBut _ _ D.TIz (kp _ _ D.TIz D.TITO D.TIi1 D.TIi2 hTI);obtain⟨o1,w1,_,r1⟩:=g1'.obj;obtain⟨o2,w2,_,r2⟩:=g2'.obj;refine⟨.ref s.heap.objs.size,_,I3,rfl,⟨_,rfl,hT,λxs' ys' x' y' e1 e2 e3 e4=>?_⟩,⟨gz2,TI0,⟨_,_,sb.extBut _ _ D.TOz gTO⟩,r1 _ (sb.extBut _ _ D.i1z w1),r2 _ (sb.extBut _ _ D.i2z w2)⟩,λc hc=>?_⟩
  ·rw[z1 _ e1] at e3;rw[z2 _ e2] at e4;rw[hx] at e3;rw[hy] at e4;cases e3;cases e4;rfl
  ·rw[a50]
   ·exact(hf c hc).1
   ·intro e;obtain⟨o1,h1,_⟩:=h1.obj;obtain⟨o2,h2,_⟩:=h2.obj;have lt:c < s.heap.objs.size:=by
     simp only[Ã1,À6,or_false] at hc;rcases hc with rfl | rfl | rfl | rfl | rfl
     ·exact á hz
     ·exact á hTI
     ·exact á hTO
     ·exact á h1
     ·exact á h2
    rw[e] at lt;exact À7 _ lt
 done:=by
  intro X hP hw hK hc i pins s σ H E I hf st hg;subst hP hw hK;obtain⟨xs,ys,hq1,hq2,hend⟩:=hg;obtain⟨v1,rv1,p1,_⟩:=I.G51 hq1;obtain⟨v2,rv2,p2,_⟩:=I.G51 hq2;obtain⟨hz,hTI,⟨p,q,hTO⟩,h1,h2⟩:=st;have l1:=rv1.length;have l2:=rv2.length;refine G61 (I.ok.hd hc) D hz hTI hTO h1 h2 p1 p2 (hend.elim (λe=>.inl (by simp;omega)) λe=>.inr (by simp;omega)) λg kp=>⟨rfl,I.J60 (t':=s.toks) hf λc o hcn e=>?_⟩
  simp only[Ã1,À6,or_false,not_or] at hcn;exact kp c o hcn.1 hcn.2.2.1 hcn.2.2.2.1 hcn.2.2.2.2 e
 self:=λ_ _ _ _ _ st h=>wpAny_pyIter_zip st.1 h
def Q62(K:Â)(ta:TA):TI:=λσ H R=>ta σ H λvs H1=>∃ b a c,vs=[.ref a,.ref c]/\(∃ xs,SqB b K H1 a xs)/\(∃ ys,SqB b K H1 c ys)/\R (Itz b K a c) H1
theorem boot_zip:ñ "zip"=some (.type "zip"):=by decide +kernel
theorem l62{X:Cx}{a b:Ð}{es:List Ð}{ek:Nat}{ep:Pos}{ta:TA}{p pos:Pos}(hg:Gl X "zip")(hm:X.mg "zip"=none)(ha:PA X [a,b] ta)(hs:À0 [a,b] X.env=[(false,eval a X.env),(false,eval b X.env)]:=by rfl)(hs2:À0 [b] X.env=[(false,eval b X.env)]:=by rfl) :
  PI X (.Tuple es ek ep) (.Call (.Name "zip" p) [a,b] [] pos) (Q62 X.K ta):=by
 intro pins s σ H R I h;refine Call_ (t10 I hg hm boot_zip (Á3 (thn (ha pos pins s σ H _ I h) λus s1 ⟨vs,H1,I1,r1,q1⟩=>?_) (by rw[hs,hs2]) (by rw[hs2];rfl)))
 obtain⟨b,l1,l2,e,⟨xs,hq1⟩,⟨ys,hq2⟩,q⟩:=q1;subst e;obtain⟨u,w',rfl,r,r'⟩:=vals2 r1;cases r;cases r';obtain⟨v1,rv1,p1,a1,_⟩:=I1.G51 hq1;obtain⟨v2,rv2,p2,a2,_⟩:=I1.G51 hq2;refine q31 p1 p2 λh' hz hTI hTO h1 h2 kp=>wpAny_pyIter_zip (s:={ s1 with heap:=h' }) hz ?_;refine⟨_,[s1.heap.objs.size + 4,s1.heap.objs.size + 2,s1.heap.objs.size + 3,s1.heap.objs.size,s1.heap.objs.size + 1],_,_,H1,rfl,I1.kept (t':=s1.toks) kp,G71 (PyProof.Rows.zipApart_new a1 a2),⟨hz,hTI,⟨_,_,hTO⟩,h1,h2⟩,λc hc=>?_,q⟩;have hc':s1.heap.objs.size<=c:=by
  simp only[Ã1,À6,or_false] at hc;rcases hc with rfl | rfl | rfl | rfl | rfl
  ·exact É5 _ 4
  ·exact É5 _ 2
  ·exact É5 _ 3
  ·exact Î _
  ·exact É5 _ 1
 exact I1.m91 hc' (I1.hok.fresh hc')
theorem G81(hc:X.calm=true):g70 X (.builtin "all") (λxs H Q=>∃ (a:Ç) (bs:List Bool),xs=[.ref a]/\SqL X.K H a (bs.map V.bl)/\Q (.bl (bs.all id)) H):=by
 intro pins s σ H xs us Q I r h;obtain⟨a,bs,rfl,hq,q⟩:=h;obtain⟨u,rfl,rx⟩:=vals1 r;cases rx;obtain⟨its,rv,pl,hz⟩:=I.list hq;have hlt:a < s.heap.objs.size:=by obtain⟨_,e,_⟩:=pl.isList;exact á e
 have hlen:its.length=bs.length:=by have:=rv.length;simpa using this.symm
 refine call_all_walk (Ü7 pl.isList ⟨_,_,_,_,_,_,λi=>(bs[i]?).getD true,rfl,Walks.list (by exact I.ok.hd hc) s.heap.objs.size a (Ü hlt) its.toArray,⟨⟨_,Ë _ rfl,rfl,rfl⟩,pl.isList.push _⟩,?_,?_⟩)
 ·intro i v s' Q' E' hP hQ;have hP':its[i]?=some v:=by simpa using hP
  have hi:i < bs.length:=by rw[← hlen];exact(ß.mp hP').1
  obtain⟨v',hv',rv'⟩:=rv.get (i:=i) (x:=.bl bs[i]) (by simp[hi])
  rw[hP'] at hv';cases hv';cases (show v=Î7 _ from rv');exact Â6 (by simpa [hi] using hQ)
 ·intro h' tk kp;refine⟨.bl (bs.all id),H,I.kept λb o e=>kp b o (by simpa using Ü (á e)) (Ã _ e),?_,q⟩
  show Î7 _=Î7 _;rw[Ô,hlen,PyProof.Rows.LSm.range_all]
end L2
namespace MySort
open PySem PySem.W PyProof.Rows
def run{α:Type}(cmp:Nat->Nat->Bool):KasT α->α
 |.ret a=>a|.ask i j k=>run cmp (k (cmp i j))
theorem run_bind(cmp:Nat->Nat->Bool)(f:α->KasT β):∀ t:KasT α,run cmp (t.bind f)=run cmp (f (run cmp t))
 |.ret _=>rfl|.ask i j k=>run_bind cmp f (k (cmp i j))
section
variable (O:KeyOrd) (key:Nat->O.α)
def kk(p:Array Nat)(i:Nat):O.α:=key (p.getD i 0)
abbrev k90:Nat->Nat->Bool:=λi j=>O.blt (key i) (key j)
def Up(p:Array Nat)(n:Nat):Prop:=∀ i j,i<=j->j < n->O.kle (kk O key p i) (kk O key p j)
def Dn(p:Array Nat)(n:Nat):Prop:=∀ i j,i<=j->j < n->O.kle (kk O key p j) (kk O key p i)
variable {O key}
theorem t30(h:p[i]?=q[j]?):kk O key p i=kk O key q j:=by
 unfold kk;rw[Î2,Î2,h]
theorem q41(hj:j<=p.size)(k:Nat):kk O key (Ç9 p i j) k=if i<=k/\k < j then kk O key p (i + j - 1 - k) else kk O key p k:=by
 have e:=getElem?_mirror_all (i:=i) hj k;unfold Ç9;by_cases h1:i<=k/\k < j
 ·rw[if_pos h1] at e ⊢;exact t30 e
 ·rw[if_neg h1] at e ⊢;exact t30 e
theorem l72(hs:k < p.size)(hd:d<=k)(i:Nat) :
  kk O key (bubble p k d) i=if i=k - d then kk O key p k else if k - d < i/\i<=k then kk O key p (i - 1) else kk O key p i:=by
 have e:=getElem?_bubble hs d hd i;by_cases h1:i=k - d
 ·rw[if_pos h1] at e ⊢;exact t30 e
 ·rw[if_neg h1] at e ⊢;by_cases h2:k - d < i/\i<=k
  ·rw[if_pos h2] at e ⊢;exact t30 e
  ·rw[if_neg h2] at e ⊢;exact t30 e
theorem Up.more(h:Up O key p n)(h1:1<=n)(hl:O.kle (kk O key p (n - 1)) (kk O key p n)):Up O key p (n + 1):=by
 intro i j hij hj;by_cases e:j=n
 ·subst e;by_cases e2:i=j
  ·subst e2;exact Ç3 _
  ·exact Ù5 (h i (j - 1) ∅ ∅) hl
 ·exact h i j hij ∅
theorem Dn.more(h:Dn O key p n)(h1:1<=n)(hl:O.kle (kk O key p n) (kk O key p (n - 1))):Dn O key p (n + 1):=by
 intro i j hij hj;by_cases e:j=n
 ·subst e;by_cases e2:i=j
  ·subst e2;exact Ç3 _
  ·exact Ù5 hl (h i (j - 1) ∅ ∅)
 ·exact h i j hij ∅
theorem q51:∀ (f n:Nat),1<=n->Up O key p n ->
  n<=run (k90 O key) (È0 p f n)/\run (k90 O key) (È0 p f n)<=n + f/\Up O key p (run (k90 O key) (È0 p f n)) /\
   (run (k90 O key) (È0 p f n) < n + f->O.klt (kk O key p (run (k90 O key) (È0 p f n))) (kk O key p (run (k90 O key) (È0 p f n) - 1)))
 |0,n,h1,hu=>⟨Î _,Î _,hu,λh=>absurd h (À7 _)⟩
 |f + 1,n,h1,hu=>by
  show n<=run _ (if O.blt (kk O key p n) (kk O key p (n - 1))=true then Ò8 n else È0 p f (n + 1))/\run _ (if O.blt (kk O key p n) (kk O key p (n - 1))=true then Ò8 n else È0 p f (n + 1))<=n + (f + 1) /\
   Up O key p (run _ (if O.blt (kk O key p n) (kk O key p (n - 1))=true then Ò8 n else È0 p f (n + 1))) /\
   (run _ (if O.blt (kk O key p n) (kk O key p (n - 1))=true then Ò8 n else È0 p f (n + 1)) < n + (f + 1) ->
    O.klt (kk O key p (run _ (if O.blt (kk O key p n) (kk O key p (n - 1))=true then Ò8 n else È0 p f (n + 1)))) (kk O key p (run _ (if O.blt (kk O key p n) (kk O key p (n - 1))=true then Ò8 n else È0 p f (n + 1)) - 1)))
  cases hb:O.blt (kk O key p n) (kk O key p (n - 1)) with
  |true =>
   simp only[if_true];exact⟨Î _,by show n<=n + (f + 1);omega,hu,λ_=>hb⟩
  |false =>
   simp only[Ã5,if_false];have ih:=q51 f (n + 1) ∅ (hu.more h1 hb)
   refine⟨by omega,by omega,ih.2.2.1,λh=>ih.2.2.2 ∅⟩
theorem rev_eq(hj:j<=p.size)(he:∀ k,i<=k->k < j->kk O key p k=kk O key p (j - 1))(k:Nat):kk O key (Ç9 p i j) k=kk O key p k:=by
 rw[q41 hj];split
 ·rw[he _ ∅ ∅,he k ∅ ∅]
 ·rfl
theorem J70(p:Array Nat)(i j:Nat):(Ç9 p i j).Perm p:=mirror_perm _ _ _ _
theorem J80(p:Array Nat)(i j:Nat):(Ç9 p i j).size=p.size:=mirror_size _ _ _ _
structure DnR(O:KeyOrd)(key:Nat->O.α)(p0 p:Array Nat)(n q:Nat):Prop where
 perm:p.Perm p0
 size:p.size=p0.size
 pos:q + 1<=n
 dn:Dn O key p n
 eq:∀ k,n - (q + 1)<=k->k < n->kk O key p k=kk O key p (n - 1)
theorem DnR.rev(h:DnR O key p0 p n q)(hn:n<=p0.size):DnR O key p0 (Ç9 p (n - (q + 1)) n) n q:=by
 have hz:=h.size;have e:=rev_eq (O:=O) (key:=key) (i:=n - (q + 1)) (j:=n) (p:=p) ∅ h.eq
 exact⟨(J70 _ _ _).trans h.perm,(J80 _ _ _).trans hz,h.pos,λi j hij hj=>by rw[e,e];exact h.dn i j hij hj,λk h1 h2=>by rw[e,e];exact h.eq k h1 h2⟩
theorem X10:∀ (f:Nat) (p:Array Nat) (n q:Nat),DnR O key p0 p n q->n + f<=p0.size ->
  n<=(run (k90 O key) (Ã4 f p n q)).2.1/\(run (k90 O key) (Ã4 f p n q)).2.1<=n + f /\
   DnR O key p0 (run (k90 O key) (Ã4 f p n q)).1 (run (k90 O key) (Ã4 f p n q)).2.1 (run (k90 O key) (Ã4 f p n q)).2.2
 |0,p,n,q,h,_=>⟨Î _,Î _,h⟩
 |f + 1,p,n,q,h,hn=>by
  have hp:=h.pos;have hz:=h.size;have unf:run (k90 O key) (Ã4 (f + 1) p n q)=run (k90 O key) (if O.blt (kk O key p n) (kk O key p (n - 1))=true then(if q > 0 then Ã4 f (Ç9 p (n - (q + 1)) n) (n + 1) 0 else Ã4 f p (n + 1) 0)
   else .ask (p.getD (n - 1) 0) (p.getD n 0) λd=>if d=true then .ret (p,n,q) else Ã4 f p (n + 1) (q + 1)):=rfl
  rw[unf];cases hb:O.blt (kk O key p n) (kk O key p (n - 1)) with
  |true =>
   simp only[if_true];have go:∀ p',DnR O key p0 p' n q->(∀ k,kk O key p' k=kk O key p k)->n<=(run (k90 O key) (Ã4 f p' (n + 1) 0)).2.1/\(run (k90 O key) (Ã4 f p' (n + 1) 0)).2.1<=n + (f + 1) /\
     DnR O key p0 (run (k90 O key) (Ã4 f p' (n + 1) 0)).1 (run (k90 O key) (Ã4 f p' (n + 1) 0)).2.1 (run (k90 O key) (Ã4 f p' (n + 1) 0)).2.2:=λp' h' e=>by
    have ih:=X10 f p' (n + 1) 0 ⟨h'.perm,h'.size,by omega,h'.dn.more ∅ (by rw[e,e];exact Ð3 hb),λk h1 h2=>by
     have:k=n:=by omega
     subst this;rfl⟩ ∅
    exact⟨by omega,by omega,ih.2.2⟩
   split
   ·exact go _ (h.rev ∅) (rev_eq ∅ h.eq)
   ·exact go _ h λ_=>rfl
  |false =>
   simp only[Ã5,if_false];have unf2:run (k90 O key) (KasT.ask (p.getD (n - 1) 0) (p.getD n 0) λd=>if d=true then .ret (p,n,q) else Ã4 f p (n + 1) (q + 1)) =
    run (k90 O key) (if O.blt (kk O key p (n - 1)) (kk O key p n)=true then .ret (p,n,q) else Ã4 f p (n + 1) (q + 1)):=rfl
   rw[unf2];cases hc:O.blt (kk O key p (n - 1)) (kk O key p n) with
   |true =>
    simp only[if_true];exact⟨Î _,by show n<=n + (f + 1);omega,h⟩
   |false =>
    simp only[Ã5,if_false];have e:kk O key p n=kk O key p (n - 1):=O.total _ _ hb hc;have ih:=X10 f p (n + 1) (q + 1) ⟨h.perm,h.size,by omega,h.dn.more ∅ (by rw[e];exact Ç3 _),λk h1 h2=>by
     show _=kk O key p n;by_cases hk:k=n
     ·rw[hk]
     ·rw[e];exact h.eq k ∅ ∅⟩ ∅
    exact⟨by omega,by omega,ih.2.2⟩
structure C52(O:KeyOrd)(key:Nat->O.α)(p0:Array Nat)(nrem:Nat)(r:Nat × Array Nat):Prop where
 perm:r.2.Perm p0
 size:r.2.size=p0.size
 lo:1<=r.1
 hi:r.1<=nrem
 up:Up O key r.2 r.1
theorem c81(hp:p.Perm p0)(hz:p.size=p0.size)(hd:Dn O key p n)(h1:1<=n)(hn:n<=nrem)(hr:nrem<=p0.size):C52 O key p0 nrem (run (k90 O key) (kas_tail3 n nrem p)):=by
 unfold kas_tail3;rw[run_bind];have hu:Up O key (Ç9 p 0 n) n:=λi j hij hj=>by
  rw[q41 ∅,q41 ∅,if_pos ∅,if_pos ∅]
  exact hd _ _ ∅ ∅
 have a:=q51 (O:=O) (key:=key) (p:=Ç9 p 0 n) (nrem - n) n h1 hu;exact⟨(J70 _ _ _).trans hp,(J80 _ _ _).trans hz,by show 1<=run _ (È0 _ _ _);omega,by show run _ (È0 _ _ _)<=_;omega,a.2.2.1⟩
theorem B10(hp:p.Perm p0)(hz:p.size=p0.size)(hd:Dn O key p (n + 1))(hn:n + 1<=nrem)(hr:nrem<=p0.size):C52 O key p0 nrem (run (k90 O key) (Ñ1 n nrem p)):=by
 unfold Ñ1;rw[run_bind];have d:=X10 (O:=O) (key:=key) (p0:=p0) (nrem - (n + 1)) p (n + 1) 0 ⟨hp,hz,by omega,hd,λk h1 h2=>by
  have:k=n:=by omega
  subst this;rfl⟩ ∅
 obtain⟨d1,d2,d3⟩:=d;have hpos:=d3.pos;split
 ·have d4:=d3.rev ∅
  exact c81 d4.perm d4.size d4.dn ∅ ∅ hr
 ·exact c81 d3.perm d3.size d3.dn ∅ ∅ hr
theorem G91(h1:1<=nrem)(hr:nrem<=p.size):C52 O key p nrem (run (k90 O key) (Þ5 nrem p)):=by
 unfold Þ5;rw[run_bind];have a:=q51 (O:=O) (key:=key) (p:=p) (nrem - 1) 1 (Î _) (λi j hij hj=>by
  have:i=j:=by omega
  subst this;exact Ç3 _)
 generalize run (k90 O key) (È0 p (nrem - 1) 1)=n at a ⊢;obtain⟨a1,a2,a3,a4⟩:=a;split
 ·exact⟨Ì7 _,rfl,a1,by show n<=nrem;omega,a3⟩
 ·rename_i hne;have hlt:n < nrem:=by
   have:n≠nrem:=by simpa using hne
   omega
  have hl:=a4 ∅
  split
  ·rename_i h2;have unf:run (k90 O key) (KasT.ask (p.getD 0 0) (p.getD (n - 1) 0) λc=>if c=true then .ret (n,p) else Ñ1 n nrem (Ç9 p 0 n)) =
    run (k90 O key) (if O.blt (kk O key p 0) (kk O key p (n - 1))=true then .ret (n,p) else Ñ1 n nrem (Ç9 p 0 n)):=rfl
   rw[unf];cases hb:O.blt (kk O key p 0) (kk O key p (n - 1)) with
   |true =>
    simp only[if_true];exact⟨Ì7 _,rfl,a1,by show n<=nrem;omega,a3⟩
   |false =>
    simp only[Ã5,if_false];have e0:kk O key p 0=kk O key p (n - 1):=O.total _ _ hb (a3 0 (n - 1) ∅ ∅)
    have e:∀ k,0<=k->k < n->kk O key p k=kk O key p (n - 1):=λk _ hk=>by
     refine KeyOrd.kle_antisymm (a3 k (n - 1) ∅ ∅) ?_
     rw[← e0];exact a3 0 k ∅ hk
    have er:=rev_eq (O:=O) (key:=key) (i:=0) (j:=n) (p:=p) ∅ e
    refine B10 (J70 _ _ _) (J80 _ _ _) ?_ ∅ hr
    have dn:Dn O key (Ç9 p 0 n) n:=λi j hij hj=>by
     rw[er,er,e i ∅ ∅,e j ∅ ∅];exact Ç3 _
    refine dn.more a1 ?_;rw[er,er];exact Ð3 hl
  ·have h2:n=1:=by omega
   subst h2;refine B10 (Ì7 _) rfl ?_ ∅ hr
   have dn:Dn O key p 1:=λi j hij hj=>by
    have:i=j:=by omega
    subst this;exact Ç3 _
   exact dn.more (Î _) (Ð3 hl)
theorem J90(hu:Up O key p k):∀ (f l r:Nat),l<=r->r<=k->r - l<=f->(∀ i,i < l->O.kle (kk O key p i) (kk O key p k))->(∀ i,r<=i->i < k->O.klt (kk O key p k) (kk O key p i)) ->
  run (k90 O key) (Ä4 p k f l r)<=k/\(∀ i,i < run (k90 O key) (Ä4 p k f l r)->O.kle (kk O key p i) (kk O key p k))/\(∀ i,run (k90 O key) (Ä4 p k f l r)<=i->i < k->O.klt (kk O key p k) (kk O key p i))
 |0,l,r,h1,h2,h3,h4,h5=>by
  have:l=r:=by omega
  subst this;exact⟨h2,h4,h5⟩
 |f + 1,l,r,h1,h2,h3,h4,h5=>by
  have unf:Ä4 p k (f + 1) l r=(if l ≥ r then .ret l else .ask (p.getD k 0) (p.getD ((l + r) / 2) 0) λc=>if c=true then Ä4 p k f l ((l + r) / 2) else Ä4 p k f ((l + r) / 2 + 1) r):=rfl;rw[unf];by_cases hlr:l ≥ r
  ·rw[if_pos hlr];have:l=r:=by omega
   subst this;exact⟨h2,h4,h5⟩
  ·rw[if_neg hlr];have unf2:run (k90 O key) (KasT.ask (p.getD k 0) (p.getD ((l + r) / 2) 0) λc=>if c=true then Ä4 p k f l ((l + r) / 2) else Ä4 p k f ((l + r) / 2 + 1) r) =
    run (k90 O key) (if O.blt (kk O key p k) (kk O key p ((l + r) / 2))=true then Ä4 p k f l ((l + r) / 2) else Ä4 p k f ((l + r) / 2 + 1) r):=rfl
   rw[unf2];cases hb:O.blt (kk O key p k) (kk O key p ((l + r) / 2)) with
   |true =>
    simp only[if_true];exact J90 hu f l ((l + r) / 2) ∅ ∅ ∅ h4 λi hi hk=>KeyOrd.klt_of_klt_of_kle hb (hu _ i hi hk)
   |false =>
    simp only[Ã5,if_false];exact J90 hu f ((l + r) / 2 + 1) r ∅ ∅ ∅ (λi hi=>Ù5 (hu i ((l + r) / 2) ∅ ∅) hb) h5
theorem Q91:∀ (f:Nat) (p:Array Nat) (k:Nat),p.Perm p0->p.size=p0.size->Up O key p k->k + f<=p0.size ->
  (run (k90 O key) (kas_bin f p k)).Perm p0/\Up O key (run (k90 O key) (kas_bin f p k)) (k + f)
 |0,p,k,hp,_,hu,_=>⟨hp,hu⟩
 |f + 1,p,k,hp,hz,hu,hk=>by
  have unf:kas_bin (f + 1) p k=(Ä4 p k k 0 k).bind λl=>kas_bin f (bubble p k (k - l)) (k + 1):=rfl;rw[unf,run_bind];have pl:=J90 (O:=O) (key:=key) hu k 0 k ∅ ∅ ∅ (λi hi=>absurd hi (Õ5 _)) (λi h1 h2=>absurd h2 ∅)
  generalize run (k90 O key) (Ä4 p k k 0 k)=l at pl ⊢;obtain⟨l1,l2,l3⟩:=pl;have hb:=l72 (O:=O) (key:=key) (p:=p) (k:=k) (d:=k - l) ∅ ∅
  have hu':Up O key (bubble p k (k - l)) (k + 1):=λi j hij hj=>by
   rw[hb,hb];have el:k - (k - l)=l:=by omega
   rw[el];by_cases ei:i=l
   ·rw[if_pos ei];by_cases ej:j=l
    ·rw[if_pos ej];exact Ç3 _
    ·rw[if_neg ej,if_pos ∅]
     exact Ð3 (l3 _ ∅ ∅)
   ·rw[if_neg ei];by_cases hi:l < i/\i<=k
    ·rw[if_pos hi,if_neg ∅,if_pos ∅]
     exact hu _ _ ∅ ∅
    ·rw[if_neg hi];by_cases ej:j=l
     ·rw[if_pos ej];exact l2 _ ∅
     ·rw[if_neg ej];by_cases hj':l < j/\j<=k
      ·rw[if_pos hj'];exact hu _ _ ∅ ∅
      ·rw[if_neg hj'];exact hu _ _ hij ∅
  have ih:=Q91 (p0:=p0) f (bubble p k (k - l)) (k + 1) ((bubble_perm _ _ _).trans hp) ((bubble_size _ _ _).trans hz) hu' ∅
  exact⟨ih.1,by have:=ih.2;rwa [show k + 1 + f=k + (f + 1) by omega] at this⟩
theorem X41(h1:1<=n):(run (k90 O key) (Ò0 n)).Perm (ð n).toArray/\Up O key (run (k90 O key) (Ò0 n)) n:=by
 unfold Ò0;rw[run_bind];have c:=G91 (O:=O) (key:=key) (p:=(ð n).toArray) h1 (by simp)
 generalize run (k90 O key) (Þ5 n (ð n).toArray)=r at c ⊢;obtain⟨c1,c2,c3,c4,c5⟩:=c;split
 ·have b:=Q91 (O:=O) (key:=key) (n - max r.1 1) r.2 (max r.1 1) c1 c2 (by rw[Nat.max_eq_left c3];exact c5) (by simp;omega)
  exact⟨b.1,by have:=b.2;rwa [show max r.1 1 + (n - max r.1 1)=n by omega] at this⟩
 ·have:r.1=n:=by omega
  rw[this] at c5;exact⟨c1,c5⟩
end
def n60{α:Type}(n:Nat):KasT α->Prop
 |.ret _=>True|.ask i j k=>(i < n/\j < n)/\∀ b,n60 n (k b)
def Q30{α:Type}(G:α->Prop):KasT α->Prop
 |.ret a=>G a|.ask _ _ k=>∀ b,Q30 G (k b)
theorem n60.bind{α β:Type}{n:Nat}{f:α->KasT β}{G:α->Prop}(hf:∀ a,G a->n60 n (f a)):∀ {t:KasT α},n60 n t->Q30 G t->n60 n (t.bind f)
 |.ret a,_,g=>hf a g|.ask _ _ _,h,g=>⟨h.1,λb=>n60.bind hf (h.2 b) (g b)⟩
theorem Q30.bind{α β:Type}{f:α->KasT β}{G:α->Prop}{G':β->Prop}(hf:∀ a,G a->Q30 G' (f a)):∀ {t:KasT α},Q30 G t->Q30 G' (t.bind f)
 |.ret a,g=>hf a g|.ask _ _ _,g=>λb=>Q30.bind hf (g b)
def Low(n:Nat)(p:Array Nat):Prop:=∀ i,p.getD i 0 < n
theorem q61(h1:1<=n)(hp:p.Perm q)(hq:∀ x∈q.toList,x < n):Low n p:=λi=>by
 by_cases hi:i < p.size
 ·have e:p.getD i 0=p[i]:=by simp[getD,hi]
  rw[e];exact hq _ (hp.toList.mem_iff.mp (by simp))
 ·have e:p.getD i 0=0:=by simp[getD,hi]
  rw[e];exact h1
structure Good(n:Nat)(q p:Array Nat):Prop where
 low:Low n p
 perm:p.Perm q
theorem Good.rev(h1:1<=n)(hq:∀ x∈q.toList,x < n)(g:Good n q p)(i j:Nat):Good n q (Ç9 p i j) :=
 have e:=(mirror_perm p i j ((j - i) / 2)).trans g.perm
 ⟨q61 h1 e hq,e⟩
theorem Good.bub(h1:1<=n)(hq:∀ x∈q.toList,x < n)(g:Good n q p)(i j:Nat):Good n q (bubble p i j) :=
 have e:=(bubble_perm p i j).trans g.perm
 ⟨q61 h1 e hq,e⟩
section
variable {n:Nat}{q:Array Nat}
theorem K00(g:Low n p):∀ (f k:Nat),n60 n (È0 p f k)
 |0,_=>trivial|f + 1,k=>⟨⟨g _,g _⟩,λb=>by cases b with | true=>exact trivial | false=>exact K00 g f (k + 1)⟩
theorem t40:∀ (f k:Nat),Q30 (λ_=>True) (È0 p f k)
 |0,_=>trivial|f + 1,k=>λb=>by cases b with | true=>exact trivial | false=>exact t40 f (k + 1)
theorem B20(h1:1<=n)(hq:∀ x∈q.toList,x < n):∀ (f:Nat) (p:Array Nat) (k c:Nat),Good n q p->n60 n (Ã4 f p k c)/\Q30 (λr=>Good n q r.1) (Ã4 f p k c)
 |0,p,k,c,g=>⟨trivial,g⟩
 |f + 1,p,k,c,g=>by
  have a:=λp' k' c' g'=>(B20 h1 hq f p' k' c' g').1;have r:=λp' k' c' g'=>(B20 h1 hq f p' k' c' g').2;refine⟨⟨⟨g.low _,g.low _⟩,λb=>?_⟩,λb=>?_⟩
  ·cases b with
   |true =>
    show n60 n (if c > 0 then Ã4 f (Ç9 p (k - (c + 1)) k) (k + 1) 0 else Ã4 f p (k + 1) 0);split
    ·exact a _ _ _ (g.rev h1 hq _ _)
    ·exact a _ _ _ g
   |false=>exact⟨⟨g.low _,g.low _⟩,λd=>by cases d with | true=>exact trivial | false=>exact a _ _ _ g⟩
  ·cases b with
   |true =>
    show Q30 _ (if c > 0 then Ã4 f (Ç9 p (k - (c + 1)) k) (k + 1) 0 else Ã4 f p (k + 1) 0);split
    ·exact r _ _ _ (g.rev h1 hq _ _)
    ·exact r _ _ _ g
   |false=>exact λd=>by cases d with | true=>exact g | false=>exact r _ _ _ g
theorem p70(h1:1<=n)(hq:∀ x∈q.toList,x < n)(g:Good n q p)(k m:Nat):n60 n (kas_tail3 k m p)/\Q30 (λr=>Good n q r.2) (kas_tail3 k m p) :=
 have g':=g.rev h1 hq 0 k
 And.intro (n60.bind (f:=λm'=>Ò8 (m',Ç9 p 0 k)) (λ_ _=>Ê9) (K00 g'.low (m - k) k) (t40 (m - k) k)) (Q30.bind (f:=λm'=>Ò8 (m',Ç9 p 0 k)) (G':=λr=>Good n q r.2) (λ_ _=>g') (t40 (m - k) k))
theorem h30(h1:1<=n)(hq:∀ x∈q.toList,x < n)(g:Good n q p)(k m:Nat):n60 n (Ñ1 k m p)/\Q30 (λr=>Good n q r.2) (Ñ1 k m p):=by
 have d:=B20 h1 hq (m - (k + 1)) p (k + 1) 0 g;refine⟨n60.bind (λr gr=>?_) d.1 d.2,Q30.bind (λr gr=>?_) d.2⟩
 ·split
  ·exact(p70 h1 hq (gr.rev h1 hq _ _) _ _).1
  ·exact(p70 h1 hq gr _ _).1
 ·split
  ·exact(p70 h1 hq (gr.rev h1 hq _ _) _ _).2
  ·exact(p70 h1 hq gr _ _).2
theorem j51(h1:1<=n)(hq:∀ x∈q.toList,x < n)(g:Good n q p)(m:Nat):n60 n (Þ5 m p)/\Q30 (λr=>Good n q r.2) (Þ5 m p):=by
 refine⟨n60.bind (λk _=>?_) (K00 g.low _ _) (t40 _ _),Q30.bind (λk _=>?_) (t40 _ _)⟩
 ·split
  ·exact trivial
  ·split
   ·exact⟨⟨g.low _,g.low _⟩,λb=>by cases b with | true=>exact trivial | false=>exact(h30 h1 hq (g.rev h1 hq _ _) _ _).1⟩
   ·exact(h30 h1 hq g _ _).1
 ·split
  ·exact g
  ·split
   ·exact λb=>by cases b with | true=>exact g | false=>exact(h30 h1 hq (g.rev h1 hq _ _) _ _).2
   ·exact(h30 h1 hq g _ _).2
theorem h80(g:Low n p)(k:Nat):∀ (f l r:Nat),n60 n (Ä4 p k f l r)/\Q30 (λ_=>True) (Ä4 p k f l r)
 |0,_,_=>⟨trivial,trivial⟩
 |f + 1,l,r=>by
  have e:Ä4 p k (f + 1) l r=(if l ≥ r then .ret l else .ask (p.getD k 0) (p.getD ((l + r) / 2) 0) λc=>if c=true then Ä4 p k f l ((l + r) / 2) else Ä4 p k f ((l + r) / 2 + 1) r):=rfl;rw[e];split
  ·exact⟨trivial,trivial⟩
  ·refine⟨⟨⟨g _,g _⟩,λb=>?_⟩,λb=>?_⟩
   ·cases b with
    |true=>exact(h80 g k f _ _).1|false=>exact(h80 g k f _ _).1
   ·cases b with
    |true=>exact(h80 g k f _ _).2|false=>exact(h80 g k f _ _).2
theorem c91(h1:1<=n)(hq:∀ x∈q.toList,x < n):∀ (f:Nat) (p:Array Nat) (k:Nat),Good n q p->n60 n (kas_bin f p k)
 |0,_,_,_=>trivial|f + 1,p,k,g=>n60.bind (λl _=>c91 h1 hq f _ _ (g.bub h1 hq _ _)) (h80 g.low k k 0 k).1 (h80 g.low k k 0 k).2
theorem q71(h1:1<=n):n60 n (Ò0 n):=by
 have hq:∀ x∈((ð n).toArray).toList,x < n:=λx hx=>by simpa using hx
 have g:Good n (ð n).toArray (ð n).toArray:=⟨q61 h1 (Ì7 _) hq,Ì7 _⟩;have c:=j51 h1 hq g n;refine n60.bind (λr gr=>?_) c.1 c.2;split
 ·exact c91 h1 hq _ _ _ gr
 ·exact trivial
end
theorem Q40{α:Type}{n:Nat}{cmp:Nat->Nat->Bool}{ask:Nat->Nat->(Bool->Æ->Prop)->Æ->Prop}{s:Æ}(h:∀ i j (C:Bool->Æ->Prop),i < n->j < n->C (cmp i j) s->ask i j C s){Q:α->Æ->Prop} :
  ∀ (t:KasT α),n60 n t->Q (run cmp t) s->t.kasWp ask Q s
 |.ret _,_,q=>q|.ask i j k,a,q=>h i j _ a.1.1 a.1.2 (Q40 h (k (cmp i j)) (a.2 _) q)
def h40:List Int->List Int->Bool
 |[],[]=>false|[],_::_=>true|_::_,[]=>false|x::r,y::q=>if x=y then h40 r q else decide (x < y)
theorem r60:∀ a,h40 a a=false
 |[]=>rfl|x::r=>by show(if x=x then h40 r r else _)=_;rw[if_pos rfl];exact r60 r
theorem p80:∀ a b c,h40 a b=true->h40 b c=true->h40 a c=true
 |[],[],_,h,_=>by cases h
 |[],_::_,[],_,h=>by cases h
 |[],_::_,_::_,_,_=>rfl|_::_,[],_,h,_=>by cases h
 |_::_,_::_,[],_,h=>by cases h
 |x::a,y::b,z::c,h1,h2=>by
  have h1:(if x=y then h40 a b else decide (x < y))=true:=h1;have h2:(if y=z then h40 b c else decide (y < z))=true:=h2;show(if x=z then h40 a c else decide (x < z))=true;by_cases e1:x=y
  ·rw[if_pos e1] at h1;by_cases e2:y=z
   ·rw[if_pos e2] at h2;rw[if_pos (e1.trans e2)];exact p80 a b c h1 h2
   ·rw[if_neg e2] at h2;rw[if_neg ∅]
    rw[e1];exact h2
  ·rw[if_neg e1] at h1;have l1:x < y:=by simpa using h1
   by_cases e2:y=z
   ·rw[if_neg ∅];exact decide_eq_true ∅
   ·rw[if_neg e2] at h2;have l2:y < z:=by simpa using h2
    rw[if_neg ∅];exact decide_eq_true ∅
theorem p90:∀ a b,h40 a b=false->h40 b a=false->a=b
 |[],[],_,_=>rfl|[],_::_,h,_=>by cases h
 |_::_,[],_,h=>by cases h
 |x::a,y::b,h1,h2=>by
  have h1:(if x=y then h40 a b else decide (x < y))=false:=h1;have h2:(if y=x then h40 b a else decide (y < x))=false:=h2;by_cases e:x=y
  ·subst e;rw[if_pos rfl] at h1 h2;rw[p90 a b h1 h2]
  ·rw[if_neg e] at h1;rw[if_neg (Á6 e)] at h2;have l1:¬ x < y:=by simpa using h1
   have l2:¬ y < x:=by simpa using h2
   omega
theorem d01(a b c:List Int)(h:h40 a c=true):h40 a b=true∨h40 b c=true:=by
 cases hab:h40 a b with
 |true=>exact .inl rfl
 |false =>
  right;cases hba:h40 b a with
  |true=>exact p80 b a c hba h|false=>rw[← p90 a b hab hba];exact h
def X51:KeyOrd:=⟨List Int,h40,r60,p80,d01,p90⟩
section
variable {P:à}{w:ê}{A:ö}{E:Ä->Æ->Prop}{s:Æ}
def sortedBy(ks:List (List Int))(p:List Nat):Prop:=p.Perm (ð ks.length)/\(p.map λi=>ks.getD i []).Pairwise λx y=>h40 y x=false
theorem range_getD(d:α):∀ (l:List α),(ð l.length).map (λi=>l.getD i d)=l:=λl=>by
 refine List.ext_getElem (by simp) λi h1 h2=>?_
 simp at h1;simp[h1]
def C62(P:à)(w:ê)(A:ö)(s:Æ)(vs:List Ä)(Pr:List Nat->Prop)(kd:Î8):Prop:=∃ p:List Nat,Pr p/\∀ (E:Ä->Æ->Prop) (Q:Unit × Ã0->Æ->Prop),(∀ st',failedOf st'=none->arrOf st'=(p.toArray).map (ù (vs.toArray.zip vs.toArray))->Q ((),st') s)->Ñ (Ö P w) A (sortRuns'.run (Ì4 kd (vs.toArray.zip vs.toArray) #[] 7 none)) Q E s
structure h62(P:Program)(w:World)(A:Around)(s:Shared)(vs:List Value)(Pr:List Nat->Prop)(kd:SortKind):Prop where
 len:vs.length<=1000
 few:vs.length < 2->Pr (range vs.length)
 all:∀ p,Pr p->p.length=vs.length
 kind:2<=vs.length->∀ (E:Value->Shared->Prop) (Q:SortKind->Shared->Prop),Q kd s->wpAny (model P w) A (keyKind' vs.toArray) Q E s
 run:2<=vs.length->C62 P w A s vs Pr kd
theorem l82(hl:n=ks.length)(h2:n < 2):sortedBy ks (ð n):=by
 subst hl;refine⟨.refl _,?_⟩;rw[range_getD]
 match ks,h2 with
 |[],_=>exact .nil|[_],_=>simp|_::_::_,q=>simp at q;omega
theorem X61{vs:List Ä}{ks:List (List Int)}{kd:Î8}(hlen:vs.length=ks.length)(h64:vs.length < 64)(ask:∀ i j,i < vs.length->j < vs.length->∀ (E:Ä->Æ->Prop) (C:Bool->Æ->Prop),C (h40 (ks.getD i []) (ks.getD j [])) s->Ñ (Ö P w) A (keyLt' kd (vs.getD i å) (vs.getD j å)) C E s)(h2':2<=vs.length):C62 P w A s vs (sortedBy ks) kd:=by
 have so:=X41 (O:=X51) (key:=λi=>ks.getD i []) (n:=vs.length) ∅
 refine⟨(run (k90 X51 λi=>ks.getD i []) (Ò0 vs.length)).toList,?_,λE Q q=>?_⟩
 ·generalize run (k90 X51 λi=>ks.getD i []) (Ò0 vs.length)=p at so;refine⟨?_,?_⟩
  ·have:=so.1.toList;rw[hlen] at this;simpa using this
  ·rw[List.pairwise_iff_getElem];intro i j hi hj hij;have hsz:p.size=vs.length:=by have:=so.1.size_eq;simpa using this
   have hi':i < p.size:=by simpa using hi
   have hj':j < p.size:=by simpa using hj
   have u:=so.2 i j (É2 hij) ∅
   have g:∀ k,k < p.size->kk X51 (λi=>ks.getD i []) p k=ks.getD (p.toList.getD k 0) []:=λk hk=>by show ks.getD (p.getD k 0) []=_;rw[Î2,Ò (l:=p.toList),ø]
   have u':h40 (ks.getD (p.toList.getD j 0) []) (ks.getD (p.toList.getD i 0) [])=false:=by
    have:=u;unfold KeyOrd.kle at this;rw[g i hi',g j hj'] at this;exact this
   simpa [hi',hj'] using u'
 ·refine Â2 (kat_run (s:=s) (Q:=λst' s'=>s'=s/\failedOf st'=none/\arrOf st'=(run (k90 X51 λi=>ks.getD i []) (Ò0 vs.length)).map (ù (vs.toArray.zip vs.toArray)))
   (G:=λp s'=>s'=s/\p=run (k90 X51 λi=>ks.getD i []) (Ò0 vs.length)) rfl h2' h64 (λp st' s' a1 a2 a3 a4=>⟨a4.1,a3,by rw[a2,a4.2]⟩)
   (Q40 (n:=vs.length) (cmp:=k90 X51 λi=>ks.getD i []) (λi j C hi hj hC=>ask i j hi hj _ C hC) (Ò0 vs.length) (q71 ∅) ⟨rfl,rfl⟩)) ?_ λ_ _ e=>e
  rintro ⟨⟨⟩,st'⟩ s' ⟨hs',hf,har⟩;subst hs';exact q st' hf har
def q81(h h':ë):Prop:=∀ b o,h.get? b=some o->o.cls=.type "tuple"->h'.get? b=some o
theorem d11{a:Ç}{vs:List Ä}{Pr:List Nat->Prop}{kd:Î8}{n:Nat}{R:PySem.Fin->Æ->Prop}(ho:s.heap.get? a=some (Ã3 "list" vs.toArray n))(hk:∀ h',q81 s.heap h'->h62 P w A { s with heap:=h' } vs Pr kd)
  (h:∀ (p:List Nat) (h':ë) (c:Nat),Pr p->(∀ b o,b≠a->s.heap.get? b=some o->h'.get? b=some o)->h'.get? a=some (Ã3 "list" (p.map λi=>vs.getD i å).toArray c)->R (.done (.ret .none)) { s with heap:=h' }) :
  Ñ (Ö P w) A (À3.«list.sort» ⟨[.ref a],[]⟩) R E s:=by
 have ha:a < s.heap.objs.size:=á ho;have h64:=(hk s.heap λ_ _ e _=>e).len;have s1:=Å8 s.heap a (À4 λ_=>(#[]:Array Ä));obtain⟨e1,ho1⟩:∃ e1,(s.heap.update a (À4 λ_=>(#[]:Array Ä))).get? a=some (Ã3 "list" #[] e1):=⟨_,ß5 ho λ_=>#[]⟩;have kp:∀ b o,b≠a->s.heap.get? b=some o->(((s.heap.update a (À4 λ_=>(#[]:Array Ä))).push (Ã3 "tuple" vs.toArray 0)).push (Ã3 "list" #[] 0)).get? b=some o:=λb o hb e=>Ã _ (Ã _ ((s1.2 b hb).trans e));have ho6:(((s.heap.update a (À4 λ_=>(#[]:Array Ä))).push (Ã3 "tuple" vs.toArray 0)).push (Ã3 "list" #[] 0)).get? a=some (Ã3 "list" #[] e1):=Ã _ (Ã _ ho1);have hk6:=hk (((s.heap.update a (À4 λ_=>(#[]:Array Ä))).push (Ã3 "tuple" vs.toArray 0)).push (Ã3 "list" #[] 0)) (λb o e hc=>kp b o (λq=>by subst q;rw[ho] at e;cases e;have hc':Á9 "list"=Á9 "tuple":=hc;injection hc' with hc';exact absurd hc' (-0)) e)
 rw[list_sort_plain];refine À (Ñ0 ho rfl (À (Ú9 ho rfl ?_ (by rw[Ô,Á4];omega) (È3 _))))
 refine À (seqEpoch_at ho1 rfl (À (wpAny_newTuple ?_ (by show vs.length<=_;rw[Á4];omega))));refine À (Ú8 (Á0 ?_) (È3 _))
 show Ñ (Ö P w) A _ R E { s with heap:=((s.heap.update a (À4 λ_=>(#[]:Array Ä))).push (Ã3 "tuple" vs.toArray 0)).push (Ã3 "list" #[] 0) };generalize hH:((s.heap.update a (À4 λ_=>(#[]:Array Ä))).push (Ã3 "tuple" vs.toArray 0)).push (Ã3 "list" #[] 0)=h6 at kp ho6 hk6 ⊢;have fin:∀ (p:List Nat) (out:Array Ä),out=(p.map λi=>vs.getD i å).toArray->Pr p->Ñ (Ö P w) A (do
   let touched:=(← seqEpoch a) != e1
   À3.List.listUpdate (.ref a) λ_=>out
   if touched then rule "list.sort.modified";raiseError "ValueError" "list modified during sort"
   ret .none) R E { s with heap:=h6 }:=λp out eo hp=>by
  subst eo;have hsz:(p.map λi=>vs.getD i å).toArray.size=vs.length:=by rw[Ô,È,(hk s.heap λ_ _ e _=>e).all p hp]
  have s2:=Å8 h6 a (À4 λ_=>(p.map λi=>vs.getD i å).toArray);refine À (seqEpoch_at ho6 rfl (À (Ú9 ho6 rfl ?_ (È3 _) (Þ (Ú1 hsz) (by rw[Á4];omega)))))
  simp only[bne_self_eq_false,Ã5,if_false];exact Å (h p _ _ hp (λb o hb e=>(s2.2 b hb).trans (kp b o hb e)) (ß5 ho6 λ_=>(p.map λi=>vs.getD i å).toArray))
 dsimp only;by_cases h2:vs.toArray.size < 2
 ·rw[if_pos h2,if_pos h2];refine À (Å ?_);rw[StateT.run_pure];refine À (Å ?_);dsimp only;refine fin (ð vs.length) _ ?_ ((hk s.heap λ_ _ e _=>e).few (by simpa using h2))
  rw[range_getD];apply Ú4.mp;rw[Array.toList_map];show List.map _ (vs.toArray.zip vs.toArray).toList=vs;rw[ksk_zip];exact List.map_snd_zip (Î _)
 ·rw[if_neg h2,if_neg h2];have h2':2<=vs.length:=by simpa using h2
  refine À (hk6.kind h2' _ _ ?_);obtain⟨p,hp,hr⟩:=hk6.run h2';refine À (hr _ _ λst' hf har=>?_);dsimp only;rw[hf];exact fin p _ (kat_snds rfl har) hp
end
end MySort
namespace TS
open PySem PySem.W PyProof.Rows
structure Tw where
 a:Array Nat
 pending:Array (Nat × Nat × Nat)
 minGallop:Nat
abbrev TM:=StateT Tw Option
section
variable (n:Nat) (cmp:Nat->Nat->Bool)
def ltT(x y:Nat):TM Bool:=if x < n/\y < n then pure (cmp x y) else λ_=>none
def q91(arr:Array Nat)(i:Nat):TM Nat:=match arr.toList[i]? with
 |some p=>pure p|none=>λ_=>none
def X71(i j:Nat):TM Bool:=do
 let a:=(← get).a
 ltT n cmp (← q91 a i) (← q91 a j)
def M22(i j:Nat):TM Unit:=modify λs=>{ s with a:=mirror s.a i j ((j - i) / 2) }
def mvL(a:Array Nat)(src dst:Nat):Array Nat:=⟨a.toList.take dst++((a.toList.drop src).take 1++((a.toList.take src).drop dst++a.toList.drop (src + 1)))⟩
theorem l92(h:src < a.size)(h2:dst<=src):mvL a src dst=bubble a src (src - dst):=by
 apply Array.ext_getElem?;intro k;rw[getElem?_bubble h (src - dst) ∅ k,show src - (src - dst)=dst by omega]
 have hl:src < a.toList.length:=h;rw[← ø,← ø,← ø,← ø];show(a.toList.take dst++((a.toList.drop src).take 1++((a.toList.take src).drop dst++a.toList.drop (src + 1))))[k]?=_;generalize a.toList=l at hl;rw[Ô8,Ô8,Ô8,Æ3,Æ3,Í5,Í5,Æ3,show min dst l.length=dst by omega,show min 1 (l.length - src)=1 by omega,show min src l.length - dst=src - dst by omega,Ö6,Ö6,Ï5,Ï5,Ï5,Ö6]
 by_cases c1:k < dst
 ·rw[if_pos c1,if_pos c1,if_neg ∅,if_neg ∅]
 ·rw[if_neg c1];by_cases c2:k=dst
  ·rw[if_pos ∅,if_pos ∅,if_pos c2,show src + (k - dst)=src by omega]
  ·rw[if_neg ∅,if_neg c2]
   by_cases c3:k<=src
   ·rw[if_pos ∅,if_pos ∅,if_pos ∅,show dst + (k - dst - 1)=k - 1 by omega]
   ·rw[if_neg ∅,if_neg ∅,show src + 1 + (k - dst - 1 - (src - dst))=k by omega]
def X81(src dst:Nat):TM Unit:=λt=>if src < t.a.size/\dst<=src then some ((),{ t with a:=mvL t.a src dst }) else none
end
section
variable {prog:à}{w:ê}{A:ö}{E:Ä->Æ->Prop}{s:Æ}{κ:Î8}{it:Array Keyed}{n:Nat}{cmp:Nat->Nat->Bool}
def co(κ:Î8)(it:Array Keyed)(t:Tw):SortSt:=Ì4 κ (t.a.map (ù it)) t.pending t.minGallop none
def Sim(prog:à)(w:ê)(A:ö)(E:Ä->Æ->Prop)(s:Æ)(κ:Î8)(it:Array Keyed){α β:Type}(rel:β->α)(m:StateT Ã0 Sem α)(f:TM β):Prop :=
 ∀ (t:Tw) (b:β) (t':Tw),f t=some (b,t')->∀ Q:α->Ã0->Æ->Prop,Q (rel b) (co κ it t') s->kasC (Ö prog w) A E m Q (co κ it t) s
local macro_rules | `(tactic| trivial)=>`(tactic| skip)
section
variable {α β α' β':Type}{r:β->α}{r':β'->α'}
theorem z40(b:β)(e:a=r b):Sim prog w A E s κ it r (pure a) (pure b):=λt b' t' h Q q=>by
 cases h;subst e;exact kasC_pure q
theorem l80(h:Sim prog w A E s κ it r m f)(hk:∀ b,Sim prog w A E s κ it r' (k (r b)) (g b)):Sim prog w A E s κ it r' (m >>= k) (f >>= g):=λt b t' e Q q=>by
 have e:(f t).bind (λx=>g x.1 x.2)=some (b,t'):=e;obtain⟨⟨b1,t1⟩,e1,e2⟩:=Í.mp e;exact kasC_bind (h t b1 t1 e1 _ (hk b1 t1 b t' e2 Q q))
theorem X20:Sim prog w A E s κ it (co κ it) (get:StateT Ã0 Sem Ã0) (get:TM Tw):=λt b t' e Q q=>by
 cases e;exact kasC_get q
theorem q00(h:∀ t,F (co κ it t)=co κ it (G t)):Sim prog w A E s κ it (λu:Unit=>u) (modify F:StateT Ã0 Sem Unit) (modify G:TM Unit):=λt b t' e Q q=>by
 cases e;refine kasC_modify ?_;rw[h t];exact q
theorem H01:Sim prog w A E s κ it (λu:Unit=>u) (liftM (rule x):StateT Ã0 Sem Unit) (pure ():TM Unit):=λt b t' e Q q=>by
 cases e;exact kasC_lift (É9 q)
theorem X91[Decidable c](h1:c->Sim prog w A E s κ it r m f)(h2:¬ c->Sim prog w A E s κ it r m' f'):Sim prog w A E s κ it r (if c then m else m') (if c then f else f'):=by
 split
 ·exact h1 (by assumption)
 ·exact h2 (by assumption)
def y60(r:β->α):ForInStep β->ForInStep α
 |.done b=>.done (r b)|.yield b=>.yield (r b)
theorem d21(h:∀ x b,Sim prog w A E s κ it (y60 r) (body x (r b)) (body' x b)):∀ (l:List Nat) (b:β),Sim prog w A E s κ it r (forIn l (r b) body) (forIn l b body')
 |[],b=>by
  rw[Ö1,Ö1];exact z40 b rfl
 |x::l,b=>by
  rw[Í2,Í2];refine l80 (h x b) λst=>?_;cases st with
  |done b'=>exact z40 b' rfl|yield b'=>exact d21 h l b'
end
def Ora(prog:à)(w:ê)(A:ö)(s:Æ)(κ:Î8)(it:Array Keyed)(n:Nat)(cmp:Nat->Nat->Bool):Prop:=∀ i j (C:Bool->Æ->Prop),i < n->j < n->C (cmp i j) s->kas_cmp prog w A κ it i j C s
theorem R01(O:Ora prog w A s κ it n cmp)(x y:Nat):Sim prog w A E s κ it (λo:Bool=>some o) (lt' (ù it x) (ù it y)) (ltT n cmp x y):=λt b t' e Q q=>by
 unfold ltT at e;split at e
 ·rename_i h;cases e;rw[lt'_eq];refine kasC_bind (kasC_get ?_);exact kasC_bind (kasC_lift (Ë5 (Â2 (O x y (λc s'=>s'=s/\c=cmp x y) h.1 h.2 ⟨rfl,rfl⟩) (λc s' hc=>by obtain⟨rfl,rfl⟩:=hc;exact kasC_pure q) λ_ _ hF=>hF.elim)))
 ·cases e
theorem K10(p:Array Nat)(i:Nat):Sim prog w A E s κ it (ù it) (elem' (p.map (ù it)) i) (q91 p i):=by
 rw[elem'_eq];unfold q91;rw[Array.getElem?_map,ø];cases p[i]? with
 |none=>exact λt b t' e=>by cases e
 |some x=>exact z40 x rfl
theorem H11(O:Ora prog w A s κ it n cmp)(i j:Nat):Sim prog w A E s κ it (λo:Bool=>some o) (ltAt' i j) (X71 n cmp i j):=by
 rw[ltAt'_eq];unfold X71;refine l80 X20 λt=>?_;exact l80 (K10 t.a i) λx=>l80 (K10 t.a j) λy=>R01 O x y
theorem Y01(i j:Nat):Sim prog w A E s κ it (λu:Unit=>u) (reverseSlice' i j) (M22 i j):=by
 rw[reverseSlice'_eq];refine q00 λt=>?_;show Ì4 κ (mirror (t.a.map (ù it)) i j ((j - i) / 2)) t.pending t.minGallop none=Ì4 κ ((mirror t.a i j ((j - i) / 2)).map (ù it)) t.pending t.minGallop none;rw[show mirror (t.a.map (ù it)) i j ((j - i) / 2)=(mirror t.a i j ((j - i) / 2)).map (ù it) from kas_swaps_map (ù it) (λk=>i + k) (λk=>j - 1 - k) _ t.a]
theorem H21(k l:Nat):Sim prog w A E s κ it (λu:Unit=>u) (moveDown' k l) (X81 k l):=λt b t' e Q q=>by
 rw[moveDown'_eq];unfold X81 at e;split at e
 ·rename_i h;cases e;refine kasC_modify ?_;have e:bubble (t.a.map (ù it)) k (k - l)=(mvL t.a k l).map (ù it):=by
   rw[l92 h.1 h.2];exact kas_swaps_map (ù it) (λi=>k - i) (λi=>k - i - 1) _ t.a
  show Q () (Ì4 κ (bubble (t.a.map (ù it)) k (k - l)) t.pending t.minGallop none) s;rw[e];exact q
 ·cases e
def t50{β:Type}(f:Nat->β->TM (ForInStep β)):Nat->Nat->β->TM β
 |0,_,b=>pure b
 |n + 1,i,b=>f i b >>= λx=>match x with
  |.done b=>pure b|.yield b=>t50 f n (i + 1) b
theorem d31(f:Nat->β->TM (ForInStep β)):∀ (n i:Nat) (b:β),t50 f n i b=forIn (Å0 i n 1) b f
 |0,_,_=>by rw[List.range'_zero,Ö1];rfl
 |n + 1,i,b=>by
  rw[Ò6,Í2];show(f i b >>= λx=>_)=_
  congr 1
  funext x
  cases x with
  |done b=>rfl|yield b=>exact d31 f n (i + 1) b
theorem K20{α β:Type}{r:β->α}{a b:Nat}{c:β}{body:Nat->α->StateT Ã0 Sem (ForInStep α)}{body':Nat->β->TM (ForInStep β)}(h:∀ x b,Sim prog w A E s κ it (y60 r) (body x (r b)) (body' x b)):Sim prog w A E s κ it r (forIn [a:b] (r c) body) (t50 body' (b - a) a c):=by
 rw[Std.Legacy.Range.forIn_eq_forIn_range',d31];have e:[a:b].size=b - a:=by simp[Std.Legacy.Range.size]
 show Sim prog w A E s κ it r (forIn (Å0 a [a:b].size 1) (r c) body) _;rw[e];exact d21 h _ c
def n90(prog:à)(w:ê)(A:ö)(E:Ä->Æ->Prop)(s:Æ)(κ:Î8)(it:Array Keyed){α β:Type}(r:β->α)(m:StateT Ã0 Sem α):Type:={f:TM β // Sim prog w A E s κ it r m f}
section
variable {α β α' β':Type}{r:β->α}{r':β'->α'}
def b70{a:α}(b:β)(e:a=r b):n90 prog w A E s κ it r (pure a):=⟨pure b,z40 b e⟩
def b20{m:StateT Ã0 Sem α}{k:α->StateT Ã0 Sem α'}(h:n90 prog w A E s κ it r m)(hk:∀ b,n90 prog w A E s κ it r' (k (r b))):n90 prog w A E s κ it r' (m >>= k):=⟨h.1 >>= λb=>(hk b).1,l80 h.2 λb=>(hk b).2⟩
def l90{c:Prop}[Decidable c]{m m':StateT Ã0 Sem α}(h1:n90 prog w A E s κ it r m)(h2:n90 prog w A E s κ it r m'):n90 prog w A E s κ it r (if c then m else m'):=⟨if c then h1.1 else h2.1,X91 (λ_=>h1.2) λ_=>h2.2⟩
def r10{m:StateT Ã0 Sem α}:n90 prog w A E s κ it r m:=⟨λ_=>none,λ_ _ _ e=>by cases e⟩
def H31{m m':StateT Ã0 Sem α}(e:m=m')(h:n90 prog w A E s κ it r m'):n90 prog w A E s κ it r m:=⟨h.1,by rw[e];exact h.2⟩
def r20{a b:Nat}(c:β){body:Nat->α->StateT Ã0 Sem (ForInStep α)}(h:∀ x b,n90 prog w A E s κ it (y60 r) (body x (r b))):n90 prog w A E s κ it r (forIn [a:b] (r c) body):=⟨t50 (λx b=>(h x b).1) (b - a) a c,K20 λx b=>(h x b).2⟩
end
def j61(O:Ora prog w A s κ it n cmp)(i j:Nat):n90 prog w A E s κ it (λo:Bool=>some o) (ltAt' i j):=⟨X71 n cmp i j,H11 O i j⟩
def y92(i j:Nat):n90 prog w A E s κ it (λu:Unit=>u) (reverseSlice' i j):=⟨M22 i j,Y01 i j⟩
def C72(i j:Nat):n90 prog w A E s κ it (λu:Unit=>u) (moveDown' i j):=⟨X81 i j,H21 i j⟩
def H41(x:String):n90 prog w A E s κ it (λu:Unit=>u) (liftM (rule x):StateT Ã0 Sem Unit):=⟨pure (),H01⟩
def Q72(O:Ora prog w A s κ it n cmp)(lo n' ok:Nat):n90 prog w A E s κ it (λ_:Unit=>true) (binarySort' lo n' ok):=by
 refine H31 (binarySort'_eq lo n' ok) ?_;refine b20 (r:=λ_:Unit=>((none,()):Option Bool × Unit)) (r20 () λk _=>?_) λ_=>b70 () rfl;refine b20 (r:=λx:Nat × Nat=>((none,x):Option Bool × Nat × Nat)) (r20 (0,k) λ_ x=>?_) λx=>b20 (C72 _ _) λ_=>b70 (ã ()) rfl;exact l90 (b70 (ç x) rfl) (b20 (j61 O _ _) λo=>l90 (b70 (ã (x.1,_)) rfl) (b70 (ã (_,x.2)) rfl))
def m02(O:Ora prog w A s κ it n cmp)(lo z:Nat):n90 prog w A E s κ it (λm:Nat=>some m) (countRun' lo z):=by
 refine H31 (countRun'_eq lo z) ?_;refine b20 (r:=λm:Nat=>((none,m):Option (Option Nat) × Nat)) (r20 1 λ_ m=>b20 (j61 O _ _) λ_=>l90 (b70 (ç m) rfl) (b70 (ã (m + 1)) rfl)) λm=>?_;refine l90 (b70 m rfl) (l90 (b20 (j61 O _ _) λ_=>l90 (b70 m rfl) (b20 (y92 _ _) λ_=>?_)) ?_)
 all_goals
  refine b20 (H41 _) λ_=>b20 (r:=λm:Nat=>((none,m,0):Option (Option Nat) × Nat × Nat)) (r20 (m + 1) λ_ m=>b20 (j61 O _ _) λ_=>l90 (l90 r10 (b70 (ã (m + 1)) rfl)) (b20 (j61 O _ _) λ_=>l90 (b70 (ç m) rfl) r10)) λm=>?_;exact l90 r10 (b20 (y92 _ _) λ_=>b20 (r:=λm:Nat=>((none,m):Option (Option Nat) × Nat)) (r20 m λ_ m=>b20 (j61 O _ _) λ_=>l90 (b70 (ç m) rfl) (b70 (ã (m + 1)) rfl)) λm=>b70 m rfl)
def tLt(O:Ora prog w A s κ it n cmp)(x y:Nat):n90 prog w A E s κ it (λo:Bool=>some o) (lt' (ù it x) (ù it y)):=⟨ltT n cmp x y,R01 O x y⟩
def r70(p:Array Nat)(i:Nat):n90 prog w A E s κ it (ù it) (elem' (p.map (ù it)) i):=⟨q91 p i,K10 p i⟩
def r01:Bool->Keyed->Array Keyed->Nat->Nat->Nat->StateT SortSt Sem (Option Nat):=sortPriv% PySem.Builtin.gallop
def X30(O:Ora prog w A s κ it n cmp)(left:Bool)(y:Nat)(p:Array Nat)(base z hint:Nat):n90 prog w A E s κ it (λm:Nat=>some m) (r01 left (ù it y) (p.map (ù it)) base z hint):=by
 refine b20 (r:=λb:Bool=>some b) (b20 (r70 p (base + hint)) λx=>l90 (tLt O x y) (b20 (tLt O y x) λb=>b70 (!b) rfl)) λb=>?_;refine l90 ?_ ?_ <;> refine b20 (r:=λx:Nat × Nat=>((none,x):Option (Option Nat) × Nat × Nat)) (r20 (0,1) λ_ x=>l90 (b70 (ç x) rfl) (b20 (r:=λb:Bool=>some b) (b20 (r70 p _) λx=>l90 (tLt O x y) (b20 (tLt O y x) λb=>b70 (!b) rfl)) λb=>l90 (b70 (ç x) rfl) (b70 (ã (x.2,2 * x.2 + 1)) rfl))) λx=>?_
 ·exact b20 (r:=λx:Nat × Nat=>((none,x):Option (Option Nat) × Nat × Nat)) (r20 (hint + x.1 + 1,hint + min x.2 (z - hint)) λ_ x=>l90 (b70 (ç x) rfl) (b20 (r:=λb:Bool=>some b) (b20 (r70 p _) λx=>l90 (tLt O x y) (b20 (tLt O y x) λb=>b70 (!b) rfl)) λb=>l90 (b70 (ã (_,x.2)) rfl) (b70 (ã (x.1,_)) rfl))) λx=>b70 x.2 rfl
 ·exact b20 (r:=λx:Nat × Nat=>((none,x):Option (Option Nat) × Nat × Nat)) (r20 (hint + 1 - min x.2 (hint + 1),hint - x.1) λ_ x=>l90 (b70 (ç x) rfl) (b20 (r:=λb:Bool=>some b) (b20 (r70 p _) λx=>l90 (tLt O x y) (b20 (tLt O y x) λb=>b70 (!b) rfl)) λb=>l90 (b70 (ã (_,x.2)) rfl) (b70 (ã (x.1,_)) rfl))) λx=>b70 x.2 rfl
def X40{α β:Type}{r:β->α}{a b:Nat}{i:α}(b':Nat)(eb:b=b')(c:β)(ec:i=r c){body:Nat->α->StateT Ã0 Sem (ForInStep α)}(h:∀ x b,n90 prog w A E s κ it (y60 r) (body x (r b))):n90 prog w A E s κ it r (forIn [a:b] i body):=⟨t50 (λx b=>(h x b).1) (b' - a) a c,by subst eb;subst ec;exact K20 λx b=>(h x b).2⟩
def tIf{α β:Type}{r:β->α}{c:Prop}[Decidable c]{m m':StateT Ã0 Sem α}(c':Bool)(e:c↔c'=true)(h1:n90 prog w A E s κ it r m)(h2:n90 prog w A E s κ it r m'):n90 prog w A E s κ it r (if c then m else m'):=⟨match c' with
 |true=>h1.1
 |false=>h2.1,by
 cases c' with
 |true=>rw[if_pos (e.mpr rfl)];exact h1.2
 |false=>rw[if_neg λh=>by cases e.mp h];exact h2.2⟩
def Y11:n90 prog w A E s κ it (co κ it) (get:StateT Ã0 Sem Ã0):=⟨get,X20⟩
def C82:Nat->StateT SortSt Sem Unit:=sortPriv% PySem.Builtin.setMinGallop
def m12(g:Nat):n90 prog w A E s κ it (λu:Unit=>u) (C82 g):=⟨modify λt=>{ t with minGallop:=g },q00 λ_=>rfl⟩
def M32(O:Ora prog w A s κ it n cmp)(left:Bool)(y:Nat)(p:Array Nat)(base z z' hint:Nat)(e:z=z'):n90 prog w A E s κ it (λm:Nat=>some m) (r01 left (ù it y) (p.map (ù it)) base z hint):=H31 (by rw[e]) (X30 O left y p base z' hint)
def H51:Array Keyed->Array Keyed->StateT SortSt Sem (Array Keyed):=sortPriv% PySem.Builtin.mergeLo
def rs{γ:Type}(it:Array Keyed)(x:Option (Array Nat) × Array Nat × γ):Option (Array Keyed) × Array Keyed × γ:=(x.1.map (Array.map (ù it)),x.2.1.map (ù it),x.2.2)
theorem sz(it:Array Keyed)(i:Nat)(p:Array Nat):(i == (p.map (ù it)).size)=true↔(i == p.size)=true:=by rw[size_map]
local macro_rules
 | `(tactic| ac_rfl)=>`(tactic| simp only[rs,y60,map_some,Option.map_none,Ú5,Array.map_push,Ñ9,size_map])| `(tactic| rwa [$O:term,$p:term,$q:term,$out:term,$ia:term,$ib:term,$mg:term,$ac:term,$bc:term])=>`(tactic| exact b20 (r70 $p $ia) λy=>tIf _ (sz _ _ _) (b70 (ç (some (push $out y++Æ5 $q $ib++Æ5 $p ($ia + 1)),push $out y,$ia + 1,$ib,$mg,$ac,$bc)) (by ac_rfl)) (l90 (b70 (ç (none,push $out y,$ia + 1,$ib,$mg,$ac,$bc)) (by ac_rfl)) (b70 (ã (none,push $out y,$ia + 1,$ib,$mg,$ac,$bc)) (by ac_rfl))))| `(tactic| rwa [$O:term,$p:term,$q:term,$out:term,$ia:term,$ib:term,$mg:term,$ac:term,$bc:term,$_x0:term])=>`(tactic| exact b20 (r70 $q $ib) λy=>tIf _ (sz _ _ _) (b70 (ç (some (push $out y++Æ5 $p $ia++Æ5 $q ($ib + 1)),push $out y,$ia,$ib + 1,$mg,$ac,$bc)) (by ac_rfl)) (b20 (r70 $p $ia) λz=>b20 (M32 $O true z $q ($ib + 1) _ (Ö4 $q - ($ib + 1)) 0 (by simp[rs])) λk=>l90 (tIf _ (sz _ _ _) (b70 (ç (some (push $out y++Æ5 $q ($ib + 1) ($ib + 1 + k)++Æ5 $p $ia++Æ5 $q ($ib + 1 + k)),push $out y++Æ5 $q ($ib + 1) ($ib + 1 + k),$ia,$ib + 1 + k,$mg,$ac,k)) (by ac_rfl)) ((by rwa [$O:term,$p:term,$q:term,(push $out y++Æ5 $q ($ib + 1) ($ib + 1 + k)),$ia:term,($ib + 1 + k),$mg:term,$ac:term,k]))) ((by rwa [$O:term,$p:term,$q:term,(push $out y),$ia:term,($ib + 1),$mg:term,$ac:term,k]))))| `(tactic| rwa [$O:term,$p:term,$q:term,$out:term,$ia:term,$ib:term,$mg:term,$bc:term,$_x0:term,$_x1:term,$_x2:term])=>`(tactic| exact b20 (m12 $mg) λ_=>b20 (r70 $q $ib) λy=>b20 (M32 $O false y $p $ia _ (Ö4 $p - $ia) 0 (by simp[rs])) λk=>l90 (tIf _ (sz _ _ _) (b70 (ç (some ($out++Æ5 $p $ia ($ia + k)++Æ5 $q $ib++Æ5 $p ($ia + k)),$out++Æ5 $p $ia ($ia + k),$ia + k,$ib,$mg,k,$bc)) (by ac_rfl)) (tIf _ (sz _ _ _) (b70 (ç (some ($out++Æ5 $p $ia ($ia + k)++Æ5 $p ($ia + k)++Æ5 $q $ib),$out++Æ5 $p $ia ($ia + k),$ia + k,$ib,$mg,k,$bc)) (by ac_rfl)) ((by rwa [$O:term,$p:term,$q:term,($out++Æ5 $p $ia ($ia + k)),($ia + k),$ib:term,$mg:term,k,$bc:term,rfl])))) ((by rwa [$O:term,$p:term,$q:term,$out:term,$ia:term,$ib:term,$mg:term,k,$bc:term,rfl])))
def H61(O:Ora prog w A s κ it n cmp)(p q:Array Nat):n90 prog w A E s κ it (Array.map (ù it)) (H51 (p.map (ù it)) (q.map (ù it))):=by
 refine b20 (H41 _) λ_=>b20 (r70 q 0) λx=>?_;refine tIf _ (sz it _ _) (b70 (#[x]++p.extract 0++q.extract 1) (by simp only[Ú5,Ñ9,size_map,map_toArray,Å6,map_nil])) ?_
 refine tIf _ (sz it _ _) (b70 (#[x]++q.extract 1++p.extract 0) (by simp only[Ú5,Ñ9,size_map,map_toArray,Å6,map_nil])) ?_
 refine b20 Y11 λt=>?_;refine b20 (r:=rs it) (X40 (p.size + q.size) (by simp) (none,#[x],0,1,t.minGallop) (by simp[rs];rfl) λ_ st=>?_) λst=>?_
 ·obtain⟨_,out,ia,ib,mg⟩:=st;refine b20 (r:=rs it) (X40 (p.size + q.size) (by simp) (none,out,ia,ib,0,0) (by simp[rs]) λ_ st=>?_) λst=>?_
  ·obtain⟨_,out,ia,ib,ac,bc⟩:=st;refine b20 (r70 q ib) λy=>b20 (r70 p ia) λz=>b20 (tLt O y z) λo=>l90 (b20 (r70 q ib) λy=>?_) (b20 (r70 p ia) λy=>?_)
   ·exact tIf _ (sz it _ _) (b70 (ç (some (out.push y++p.extract ia++q.extract (ib + 1)),out.push y,ia,ib + 1,0,bc + 1)) (by simp[rs,y60])) (l90 (b70 (ç (none,out.push y,ia,ib + 1,0,bc + 1)) (by simp[rs,y60])) (b70 (ã (none,out.push y,ia,ib + 1,0,bc + 1)) (by simp[rs,y60])))
   ·exact tIf _ (sz it _ _) (b70 (ç (some (out.push y++q.extract ib++p.extract (ia + 1)),out.push y,ia + 1,ib,ac + 1,0)) (by simp[rs,y60])) (l90 (b70 (ç (none,out.push y,ia + 1,ib,ac + 1,0)) (by simp[rs,y60])) (b70 (ã (none,out.push y,ia + 1,ib,ac + 1,0)) (by simp[rs,y60])))
  ·obtain⟨o,out,ia,ib,ac,bc⟩:=st;cases o with
   |some v=>exact b70 (ç (some v,out,ia,ib,mg)) rfl
   |none =>
    refine b20 (H41 _) λ_=>?_;refine b20 (r:=rs it) (X40 (p.size + q.size) (by simp) (none,out,ia,ib,mg + 1,ac,bc) (by simp[rs]) λ_ st=>?_) λst=>?_
    ·obtain⟨_,out,ia,ib,mg,ac,bc⟩:=st;exact l90 ((by rwa [O,p,q,out,ia,ib,(mg - 1),bc,rfl,rfl,rfl])) ((by rwa [O,p,q,out,ia,ib,mg,bc,rfl,rfl,rfl]))
    ·obtain⟨o,out,ia,ib,mg,ac,bc⟩:=st;cases o with
     |some v=>exact b70 (ç (some v,out,ia,ib,mg)) rfl|none=>exact b20 (m12 (mg + 1)) λ_=>b70 (ã (none,out,ia,ib,mg + 1)) rfl
 ·obtain⟨o,_⟩:=st;cases o with
  |none=>exact r10|some v=>exact b70 v rfl
def Q82(t':Tw){S:Ã0}(e:S=co κ it t'):n90 prog w A E s κ it (λu:PUnit=>u) (set S:StateT Ã0 Sem PUnit):=⟨modify λ_=>t',by subst e;exact q00 (F:=λ_=>co κ it t') λ_=>rfl⟩
def C92{F:Ã0->Ã0}(G:Tw->Tw)(h:∀ t,F (co κ it t)=co κ it (G t)):n90 prog w A E s κ it (λu:Unit=>u) (modify F:StateT Ã0 Sem Unit):=⟨modify G,q00 h⟩
theorem fold_map(f:Nat->Keyed)(d:Nat):∀ (l:List Nat) (j:Nat) (a:Array Nat),((l.map f).zipIdx j).foldl (λa x=>setIfInBounds a (d + x.2) x.1) (a.map f)=((l.zipIdx j).foldl (λa x=>setIfInBounds a (d + x.2) x.1) a).map f
 |[],_,_=>rfl
 |x::l,j,a=>by
  have e:(a.map f).setIfInBounds (d + j) (f x)=(a.setIfInBounds (d + j) x).map f:=by simp
  show((l.map f).zipIdx (j + 1)).foldl _ ((a.map f).setIfInBounds (d + j) (f x))=_;rw[e];exact fold_map f d l (j + 1) _
def spl(a:Array Nat)(d:Nat)(l:List Nat):Array Nat:=⟨a.toList.take d++(l++a.toList.drop (d + l.length))⟩
theorem R11(d:Nat):∀ (l:List Nat) (j:Nat) (a:Array Nat),d + j + l.length<=a.size->(l.zipIdx j).foldl (λa x=>setIfInBounds a (d + x.2) x.1) a=spl a (d + j) l
 |[],j,a,_=>by
  show a=_;unfold spl;rw[Â1,Nat.add_zero,Í1,List.take_append_drop]
 |x::l,j,a,h=>by
  have hl:d + j + (l.length + 1)<=a.toList.length:=h;show(l.zipIdx (j + 1)).foldl _ (a.setIfInBounds (d + j) x)=_;rw[R11 d l (j + 1) _ (by rw[Array.size_setIfInBounds];have:a.toList.length=a.size:=rfl;omega)]
  unfold spl;rw[Array.toList_setIfInBounds,List.set_eq_take_append_cons_drop,if_pos ∅]
  generalize a.toList=m at hl;have e1:(m.take (d + j)).length=d + j:=by rw[Æ3];omega
  have e2:(m.take (d + j)++x::m.drop (d + j + 1)).take (d + (j + 1))=m.take (d + j)++[x]:=by
   rw[List.take_append,e1,show d + (j + 1) - (d + j)=1 by omega,Ë9 (Þ (Ú1 e1) ∅)]
   rfl
  have e3:(m.take (d + j)++x::m.drop (d + j + 1)).drop (d + (j + 1) + l.length)=m.drop (d + j + (l.length + 1)):=by
   rw[List.drop_append,e1,show d + (j + 1) + l.length - (d + j)=l.length + 1 by omega,ß8 (Þ (Ú1 e1) ∅),List.drop_succ_cons,List.drop_drop,Í1,show d + j + 1 + l.length=d + j + (l.length + 1) by omega]
  rw[e2,e3,É7];rfl
def D02{F:Ã0->Ã0}(c:Tw->Bool)(G:Tw->Tw)(h:∀ t,c t=true->F (co κ it t)=co κ it (G t)):n90 prog w A E s κ it (λu:Unit=>u) (modify F:StateT Ã0 Sem Unit):=⟨λt=>match c t with
 |true=>some ((),G t)
 |false=>none,λt b t' e Q q=>by
 dsimp only at e;cases hc:c t with
 |false=>rw[hc] at e;cases e
 |true =>
  rw[hc] at e;cases e;refine kasC_modify ?_;rw[h t hc];exact q⟩
def d41(O:Ora prog w A s κ it n cmp)(i:Nat):n90 prog w A E s κ it (λ_:Unit=>true) (mergeAt' i):=by
 refine b20 Y11 λt=>?_;generalize (Ù0 (co κ it t))[i]?=o1;generalize (Ù0 (co κ it t))[i + 1]?=o2;rcases o1 with _ | ⟨sa,na,pw⟩
 ·exact r10
 rcases o2 with _ | ⟨sb,nb,_⟩
 ·exact r10
 refine b20 (Q82 { t with pending:=(t.pending.setIfInBounds i (sa,na + nb,pw)).eraseIdxIfInBounds (i + 1) } rfl) λ_=>?_;refine b20 (r70 t.a sb) λy=>b20 (X30 O false y t.a sa na 0) λk=>?_;refine l90 (b70 () rfl) (b20 (r70 t.a _) λy=>b20 (X30 O true y t.a sb nb (nb - 1)) λnb=>l90 (b70 () rfl) (l90 (b20 (H31 ?_ (H61 O (t.a.extract (sa + k) sb) (t.a.extract sb (sb + nb)))) λv=>?_) r10))
 ·rw[Ñ9,Ñ9];rfl
 ·refine b20 (D02 (λu=>ble (sa + k + v.toList.length) u.a.size) (λu=>{ u with a:=spl u.a (sa + k) v.toList }) λu hu=>?_) λ_=>b20 Y11 λ_=>b70 () rfl;have e:=fold_map (ù it) (sa + k) v.toList 0 u.a;rw[← Array.toList_map,R11 (sa + k) v.toList 0 u.a (Nat.le_of_ble_eq_true hu)] at e;exact congrArg (λa=>Ì4 κ a u.pending u.minGallop none) e
structure M42(prog:Program)(w:World)(A:Around)(E:Value->Shared->Prop)(s:Shared)(κ:SortKind)(it:Array Keyed)(z:Nat)(m:StateT SortSt Sem Unit) where
 body:Nat->Nat->TM (ForInStep Nat)
 tail:Nat->TM Unit
 sim:Sim prog w A E s κ it (λu:Unit=>u) m (t50 body z 0 0 >>= tail)
def mkH{α:Type}{r:Nat->α}{i:α}{z:Nat}(e0:i=r 0){B:Nat->α->StateT Ã0 Sem (ForInStep α)}{k:α->StateT Ã0 Sem Unit}(hb:∀ x lo,n90 prog w A E s κ it (y60 r) (B x (r lo)))(hk:∀ lo,n90 prog w A E s κ it (λu:Unit=>u) (k (r lo))) :
  M42 prog w A E s κ it z (forIn [0:z] i B >>= k) where
 body:=λx lo=>(hb x lo).1
 tail:=λlo=>(hk lo).1
 sim:=by
  subst e0;exact l80 (K20 λx b=>(hb x b).2) λb=>(hk b).2
structure j71(prog:Program)(w:World)(A:Around)(E:Value->Shared->Prop)(s:Shared)(κ:SortKind)(it:Array Keyed)(m:StateT SortSt Sem Unit) where
 body:Tw->Nat->Nat->TM (ForInStep Nat)
 tail:Tw->Nat->TM Unit
 sim:Sim prog w A E s κ it (λu:Unit=>u) m (get >>= λt=>t50 (body t) t.a.size 0 0 >>= tail t)
def mkW{F:Ã0->StateT Ã0 Sem Unit}(h:∀ t:Tw,M42 prog w A E s κ it t.a.size (F (co κ it t))):j71 prog w A E s κ it (get >>= F) where
 body:=λt=>(h t).body
 tail:=λt=>(h t).tail
 sim:=l80 X20 λt=>(h t).sim
def j71.cast{m m':StateT Ã0 Sem Unit}(e:m=m')(h:j71 prog w A E s κ it m'):j71 prog w A E s κ it m:=⟨h.body,h.tail,by rw[e];exact h.sim⟩
def j50(O:Ora prog w A s κ it n cmp):j71 prog w A E s κ it sortRuns':=by
 refine j71.cast sortRuns'_eq (mkW λt=>?_);generalize hz:Ö4 (arrOf (co κ it t))=z;have hz':t.a.size=z:=Array.size_map.symm.trans hz;clear hz;subst hz';refine mkH (r:=λm:Nat=>((none,m):Option Unit × Nat)) rfl (λ_ lo=>l90 (b70 (ç lo) rfl) (b20 (m02 O _ _) λm=>?_)) (λ_=>?_)
 ·refine l90 (b20 (H41 _) λ_=>b20 (Q72 O _ _ _) λ_=>l90 r10 (b20 Y11 λu=>?_)) (b20 Y11 λu=>?_)
  all_goals
   generalize Array.back? (Ù0 (co κ it u))=o1;rcases o1 with _ | ⟨s1,n1,_⟩
   ·exact b20 (C92 (λu=>{ u with pending:=u.pending.push (lo,_,0) }) λ_=>rfl) λ_=>b70 (ã (lo + _)) rfl
   ·refine b20 (r:=λ_:Unit=>((none,()):Option Unit × Unit)) (r20 () λ_ _=>b20 Y11 λu=>?_) λ_=>b20 (C92 (λu=>{ u with pending:=u.pending.modify (u.pending.size - 1) λx=>(x.1,x.2.1,_) }) λ_=>rfl) λ_=>b20 (C92 (λu=>{ u with pending:=u.pending.push (lo,_,0) }) λ_=>rfl) λ_=>b70 (ã (lo + _)) rfl;dsimp only;generalize (if Ö4 (Ù0 (co κ it u)) > 1 then(Ù0 (co κ it u))[Ö4 (Ù0 (co κ it u)) - 2]? else none)=o2;rcases o2 with _ | ⟨_,_,old⟩
    ·exact b70 (ç ()) rfl
    ·exact l90 (b70 (ç ()) rfl) (b20 (d41 O _) λ_=>l90 r10 (b70 (ã ()) rfl))
 ·exact b20 (r:=λ_:Unit=>((none,()):Option Unit × Unit)) (r20 () λ_ _=>b20 Y11 λu=>l90 (b70 (ç ()) rfl) (b20 (d41 O _) λ_=>l90 r10 (b70 (ã ()) rfl))) λ_=>b70 () rfl
end
def upN:Nat->Nat->Nat->List Nat
 |0,_,h=>[h]|b + 1,v,h=>upN b (2 * v) (h + v)++upN b (2 * v) h
def neN:Nat->Nat->Nat->List Nat
 |0,_,_=>[]|b + 1,v,h=>(h + v)::(neN b (2 * v) (h + v)++neN b (2 * v) h)
def sN(b:Nat):List Nat:=0::neN b 1 0
def B30:Nat->Nat->Nat->List Nat
 |0,_,_=>[]|k + 1,i,m=>if Nat.testBit m 0 then i::B30 k (i + 1) (m / 2) else B30 k (i + 1) (m / 2)
def z02:List Nat->List Nat->Bool
 |[],[]=>false|[],_::_=>true|_::_,[]=>false|a::r,b::q=>if beq a b then z02 r q else Nat.blt a b
def v00(K i j:Nat):Bool:=z02 (B30 K 0 i) (B30 K 0 j)
section
variable {prog:à}{w:ê}{A:ö}{E:Ä->Æ->Prop}{s:Æ}{κ:Î8}{it:Array Keyed}
def T0(K:Nat):Tw:=⟨⟨ð (2 ^ K)⟩,#[],7⟩
def TZ(K p:Nat):Tw:=⟨⟨sN K⟩,#[(0,2 ^ K,p)],7⟩
theorem y70{β:Type}{f:Nat->β->TM (ForInStep β)}{n i:Nat}{b b':β}{t t':Tw}{r:Option (β × Tw)}(h:f i b t=some (.yield b',t'))(h2:t50 f n (i + 1) b' t'=r):t50 f (n + 1) i b t=r:=by
 show Option.bind (f i b t) _=r;rw[h];exact h2
def goW{K:Nat}(O:Ora prog w A s κ it (2 ^ K) (v00 K)):TM Unit:=get >>= λt=>t50 ((j50 (E:=E) O).body t) t.a.size 0 0 >>= (j50 (E:=E) O).tail t
theorem two{K n:Nat}{t:Tw}{r:Option (Unit × Tw)}(O:Ora prog w A s κ it (2 ^ K) (v00 K))(h:t50 ((j50 (E:=E) O).body (T0 K)) (2 ^ K) 0 0 (T0 K)=some (n,t))(h2:(j50 (E:=E) O).tail (T0 K) n t=r):goW (E:=E) O (T0 K)=r:=by
 show Option.bind (t50 ((j50 (E:=E) O).body (T0 K)) (ð (2 ^ K)).length 0 0 (T0 K)) _=r;rw[þ,h];exact h2
theorem w1(O:Ora prog w A s κ it (2 ^ 1) (v00 1)):goW (E:=E) O (T0 1)=some ((),TZ 1 0):=by kernel_rfl
theorem w2(O:Ora prog w A s κ it (2 ^ 2) (v00 2)):goW (E:=E) O (T0 2)=some ((),TZ 2 0):=by kernel_rfl
theorem w3(O:Ora prog w A s κ it (2 ^ 3) (v00 3)):goW (E:=E) O (T0 3)=some ((),TZ 3 0):=by kernel_rfl
theorem w4(O:Ora prog w A s κ it (2 ^ 4) (v00 4)):goW (E:=E) O (T0 4)=some ((),TZ 4 0):=by kernel_rfl
theorem w5(O:Ora prog w A s κ it (2 ^ 5) (v00 5)):goW (E:=E) O (T0 5)=some ((),TZ 5 0):=by kernel_rfl
theorem w6(O:Ora prog w A s κ it (2 ^ 6) (v00 6)):goW (E:=E) O (T0 6)=some ((),TZ 6 1):=by kernel_rfl
theorem Q92(O:Ora prog w A s κ it (2 ^ 7) (v00 7)):(j50 (E:=E) O).body (T0 7) 0 0 (T0 7)=some (.yield 32,⟨⟨sN 5++Å0 32 96⟩,#[(0,32,0)],7⟩):=by kernel_rfl
theorem R02(O:Ora prog w A s κ it (2 ^ 7) (v00 7)):(j50 (E:=E) O).body (T0 7) 1 32 ⟨⟨sN 5++Å0 32 96⟩,#[(0,32,0)],7⟩=some (.yield 64,⟨⟨sN 5++(upN 5 1 32++Å0 64 64)⟩,#[(0,32,2),(32,32,0)],7⟩):=by kernel_rfl
theorem R12(O:Ora prog w A s κ it (2 ^ 7) (v00 7)):(j50 (E:=E) O).body (T0 7) 2 64 ⟨⟨sN 5++(upN 5 1 32++Å0 64 64)⟩,#[(0,32,2),(32,32,0)],7⟩=some (.yield 96,⟨⟨sN 6++(upN 5 1 64++Å0 96 32)⟩,#[(0,64,1),(64,32,0)],7⟩):=by kernel_rfl
theorem R22(O:Ora prog w A s κ it (2 ^ 7) (v00 7)):(j50 (E:=E) O).body (T0 7) 3 96 ⟨⟨sN 6++(upN 5 1 64++Å0 96 32)⟩,#[(0,64,1),(64,32,0)],7⟩=some (.yield 128,⟨⟨sN 6++(upN 5 1 64++upN 5 1 96)⟩,#[(0,64,1),(64,32,2),(96,32,0)],7⟩):=by kernel_rfl
theorem R32(O:Ora prog w A s κ it (2 ^ 7) (v00 7)):t50 ((j50 (E:=E) O).body (T0 7)) 124 4 128 ⟨⟨sN 6++(upN 5 1 64++upN 5 1 96)⟩,#[(0,64,1),(64,32,2),(96,32,0)],7⟩=some (128,⟨⟨sN 6++(upN 5 1 64++upN 5 1 96)⟩,#[(0,64,1),(64,32,2),(96,32,0)],7⟩):=by kernel_rfl
theorem R42(O:Ora prog w A s κ it (2 ^ 7) (v00 7)):(j50 (E:=E) O).tail (T0 7) 128 ⟨⟨sN 6++(upN 5 1 64++upN 5 1 96)⟩,#[(0,64,1),(64,32,2),(96,32,0)],7⟩=some ((),TZ 7 1):=by kernel_rfl
theorem w7(O:Ora prog w A s κ it (2 ^ 7) (v00 7)):goW (E:=E) O (T0 7)=some ((),TZ 7 1):=two O (y70 (Q92 O) (y70 (R02 O) (y70 (R12 O) (y70 (R22 O) (R32 O))))) (R42 O)
theorem R52(O:Ora prog w A s κ it (2 ^ 8) (v00 8)):(j50 (E:=E) O).body (T0 8) 0 0 (T0 8)=some (.yield 32,⟨⟨sN 5++Å0 32 224⟩,#[(0,32,0)],7⟩):=by kernel_rfl
theorem R62(O:Ora prog w A s κ it (2 ^ 8) (v00 8)):(j50 (E:=E) O).body (T0 8) 1 32 ⟨⟨sN 5++Å0 32 224⟩,#[(0,32,0)],7⟩=some (.yield 64,⟨⟨sN 5++(upN 5 1 32++Å0 64 192)⟩,#[(0,32,3),(32,32,0)],7⟩):=by kernel_rfl
theorem R72(O:Ora prog w A s κ it (2 ^ 8) (v00 8)):(j50 (E:=E) O).body (T0 8) 2 64 ⟨⟨sN 5++(upN 5 1 32++Å0 64 192)⟩,#[(0,32,3),(32,32,0)],7⟩=some (.yield 96,⟨⟨sN 6++(upN 5 1 64++Å0 96 160)⟩,#[(0,64,2),(64,32,0)],7⟩):=by kernel_rfl
theorem R82(O:Ora prog w A s κ it (2 ^ 8) (v00 8)):(j50 (E:=E) O).body (T0 8) 3 96 ⟨⟨sN 6++(upN 5 1 64++Å0 96 160)⟩,#[(0,64,2),(64,32,0)],7⟩=some (.yield 128,⟨⟨sN 6++(upN 5 1 64++(upN 5 1 96++Å0 128 128))⟩,#[(0,64,2),(64,32,3),(96,32,0)],7⟩):=by kernel_rfl
theorem R92(O:Ora prog w A s κ it (2 ^ 8) (v00 8)):(j50 (E:=E) O).body (T0 8) 4 128 ⟨⟨sN 6++(upN 5 1 64++(upN 5 1 96++Å0 128 128))⟩,#[(0,64,2),(64,32,3),(96,32,0)],7⟩=some (.yield 160,⟨⟨sN 7++(upN 5 1 128++Å0 160 96)⟩,#[(0,128,1),(128,32,0)],7⟩):=by kernel_rfl
theorem S02(O:Ora prog w A s κ it (2 ^ 8) (v00 8)):(j50 (E:=E) O).body (T0 8) 5 160 ⟨⟨sN 7++(upN 5 1 128++Å0 160 96)⟩,#[(0,128,1),(128,32,0)],7⟩=some (.yield 192,⟨⟨sN 7++(upN 5 1 128++(upN 5 1 160++Å0 192 64))⟩,#[(0,128,1),(128,32,3),(160,32,0)],7⟩):=by kernel_rfl
theorem S12(O:Ora prog w A s κ it (2 ^ 8) (v00 8)):(j50 (E:=E) O).body (T0 8) 6 192 ⟨⟨sN 7++(upN 5 1 128++(upN 5 1 160++Å0 192 64))⟩,#[(0,128,1),(128,32,3),(160,32,0)],7⟩=some (.yield 224,⟨⟨sN 7++(upN 6 1 128++(upN 5 1 192++Å0 224 32))⟩,#[(0,128,1),(128,64,2),(192,32,0)],7⟩):=by kernel_rfl
theorem S22(O:Ora prog w A s κ it (2 ^ 8) (v00 8)):(j50 (E:=E) O).body (T0 8) 7 224 ⟨⟨sN 7++(upN 6 1 128++(upN 5 1 192++Å0 224 32))⟩,#[(0,128,1),(128,64,2),(192,32,0)],7⟩=some (.yield 256,⟨⟨sN 7++(upN 6 1 128++(upN 5 1 192++upN 5 1 224))⟩,#[(0,128,1),(128,64,2),(192,32,3),(224,32,0)],7⟩):=by kernel_rfl
theorem S32(O:Ora prog w A s κ it (2 ^ 8) (v00 8)):t50 ((j50 (E:=E) O).body (T0 8)) 248 8 256 ⟨⟨sN 7++(upN 6 1 128++(upN 5 1 192++upN 5 1 224))⟩,#[(0,128,1),(128,64,2),(192,32,3),(224,32,0)],7⟩=some (256,⟨⟨sN 7++(upN 6 1 128++(upN 5 1 192++upN 5 1 224))⟩,#[(0,128,1),(128,64,2),(192,32,3),(224,32,0)],7⟩):=by kernel_rfl
theorem S42(O:Ora prog w A s κ it (2 ^ 8) (v00 8)):(j50 (E:=E) O).tail (T0 8) 256 ⟨⟨sN 7++(upN 6 1 128++(upN 5 1 192++upN 5 1 224))⟩,#[(0,128,1),(128,64,2),(192,32,3),(224,32,0)],7⟩=some ((),TZ 8 1):=by kernel_rfl
theorem w8(O:Ora prog w A s κ it (2 ^ 8) (v00 8)):goW (E:=E) O (T0 8)=some ((),TZ 8 1):=two O (y70 (R52 O) (y70 (R62 O) (y70 (R72 O) (y70 (R82 O) (y70 (R92 O) (y70 (S02 O) (y70 (S12 O) (y70 (S22 O) (S32 O))))))))) (S42 O)
theorem S52{K:Nat}(h1:1<=K)(h8:K<=8)(O:Ora prog w A s κ it (2 ^ K) (v00 K)):∃ p,goW (E:=E) O (T0 K)=some ((),TZ K p):=by
 match K,h1,h8,O with
 |1,_,_,O=>exact⟨_,w1 O⟩|2,_,_,O=>exact⟨_,w2 O⟩|3,_,_,O=>exact⟨_,w3 O⟩|4,_,_,O=>exact⟨_,w4 O⟩|5,_,_,O=>exact⟨_,w5 O⟩|6,_,_,O=>exact⟨_,w6 O⟩|7,_,_,O=>exact⟨_,w7 O⟩|8,_,_,O=>exact⟨_,w8 O⟩
theorem runL{K:Nat}{vs:List Ä}(h1:1<=K)(h8:K<=8)(hv:vs.length=2 ^ K)(O:Ora prog w A s κ (vs.toArray.zip vs.toArray) (2 ^ K) (v00 K)):MySort.C62 prog w A s vs (λp=>p=sN K) κ:=by
 refine⟨sN K,rfl,λE Q q=>?_⟩;obtain⟨pp,e⟩:=S52 (E:=E) h1 h8 O;have r:=(j50 (E:=E) O).sim (T0 K) () (TZ K pp) e (λu st s'=>s'=s/\failedOf st=none/\arrOf st=((sN K).toArray).map (ù (vs.toArray.zip vs.toArray))) ⟨rfl,rfl,rfl⟩;have est:Ì4 κ (vs.toArray.zip vs.toArray) #[] 7 none=co κ (vs.toArray.zip vs.toArray) (T0 K):=by
  have e:=kas_range (vs.toArray.zip vs.toArray);rw[show(vs.toArray.zip vs.toArray).size=2 ^ K by simp[hv]] at e
  show _=Ì4 κ ((toArray (ð (2 ^ K))).map (ù (vs.toArray.zip vs.toArray))) #[] 7 none;rw[e]
 rw[est];refine Â2 r (λx s' h=>?_) λ_ _ e=>e;obtain⟨rfl,h2,h3⟩:=h;exact q x.2 h2 h3
end
end TS
namespace HT
open PySem PyProof.Rows
section
open PySem.SeqAt
open PySem.AutoSeq1 (wpAny_loadPart')
open PySem.MeetsSeq PySem.MeetsSeq2 PySem.MeetsSeq3
open MySort (h40)
def leB(ns ms:List Int):Bool:=!h40 ms ns
theorem H71(x y:Int)(r q:List Int):leB (x::r) (y::q)=if x=y then leB r q else decide (x<=y):=by
 show(!(if y=x then h40 q r else decide (y < x)))=_;by_cases e:x=y
 ·rw[if_pos e,if_pos e.symm];rfl
 ·rw[if_neg e,if_neg (Á6 e)];by_cases l:y < x
  ·rw[decide_eq_true l,decide_eq_false ∅];rfl
  ·rw[decide_eq_false l,decide_eq_true ∅];rfl
theorem H81(A:ö)(s:Æ)(a:Int)(t:Tok)(c:Int)(u:Tok)(P:à)(w:ê)(E:Ä->Æ->Prop)(Q:Ä->Æ->Prop)(h:Q (.bool (decide (a<=c))) s):Ñ (Ö P w) A (richCompare .LtE (.int a t) (.int c u)) Q E s :=
 (PyProof.Rows.le_int h:Ñ (Ö P w) A (À2 .LtE (.int a t) (.int c u)) Q E s)
theorem K30(l b:Ç)(i1 i2:Array Ä)(n n2:Nat)(dd dd2:Option Ç)(sl sl2:Array (Option Ä))(ns ms:List Int)(hi:Ì0 i1.toList ns)(hj:Ì0 i2.toList ms) :
  Meets (À3.«tuple.__le__» ⟨[.ref l,.ref b],[]⟩) (λ_ R s=>s.heap.get? l=some { cls:=.type "tuple",dict:=dd,data:=.seq i1 n,slots:=sl }/\s.heap.get? b=some { cls:=.type "tuple",dict:=dd2,data:=.seq i2 n2,slots:=sl2 }/\R (.ok (.ret (.bool (leB ns ms)))) s) :=
 .of_wp λP w A R s h=>by
  obtain⟨hp,g,d,tk,os⟩:=s;obtain⟨hl,hb,h⟩:=h;have f2:=Ü5;have z1:i1.size=ns.length:=by rw[← hi.length];simp
  have z2:i2.size=ms.length:=by rw[← hj.length];simp
  wp_walk using Ä8 hl,Ä8 hb,wpAny_forIn_list _ (λrest b s'=>b.1=none/\s'=⟨hp,g,d,tk,os⟩/\∃ (vs ws:List Ä) (ns' ms':List Int),rest=vs.zip ws/\Ì0 vs ns'/\Ì0 ws ms'/\ns'.length + i2.size=ms'.length + i1.size/\R (.ok (.ret (.bool (leB ns' ms')))) ⟨hp,g,d,tk,os⟩) _
  case turn =>
   rintro ⟨y,x⟩ rest b s' ⟨hb',rfl,vs,ws,ns',ms',hz,hvi,hwi,hlen,hR⟩;cases hvi with
   |nil=>rw[Ù4] at hz;cases hz
   |cons a t hvi' =>
    cases hwi with
    |nil=>rw[List.zip_nil_right] at hz;cases hz
    |cons c u hwi' =>
     rw[Ê6] at hz;injection hz with hyx hrest;injection hyx with hy hx;subst hy hx;rw[H71] at hR;simp only[Û] at hlen;obtain⟨e,he,hiff⟩:=F41 A.in1 ⟨hp,g,d,tk,os⟩ a t c u;refine À (he P w _ _ ?_);cases e with
     |true =>
      rw[if_pos (hiff.mp rfl)] at hR;wp_walk;exact⟨rfl,rfl,_,_,_,_,hrest,hvi',hwi',by omega,hR⟩
     |false =>
      rw[if_neg (λq=>absurd (hiff.mpr q) Ï)] at hR;have hri:=H81 A.in1 ⟨hp,g,d,tk,os⟩ a t c u P w
      wp_walk using hri
      exact⟨_,rfl,by simpa using hR⟩
  case fin =>
   rintro ⟨b1,b2⟩ s' ⟨hb',rfl,vs,ws,ns',ms',hz,hvi,hwi,hlen,hR⟩;simp only at hb';subst hb';have hv:leB ns' ms'=decide (i1.size<=i2.size):=by
    cases hvi with
    |nil =>
     cases hwi with
     |nil=>simp only[Â1] at hlen;exact(decide_eq_true ∅).symm|cons c u hw=>simp only[Â1,Û] at hlen;exact(decide_eq_true ∅).symm
    |cons a t hv =>
     cases hwi with
     |nil=>simp only[Â1,Û] at hlen;exact(decide_eq_false ∅).symm|cons c u hw=>rw[Ê6] at hz;cases hz
   rw[hv] at hR;wp_walk;exact⟨_,rfl,by simpa [tupleCompareSizes] using hR⟩
  case h=>exact⟨rfl,rfl,i1.toList,i2.toList,ns,ms,rfl,hi,hj,by omega,h⟩
end
section
variable {P:à}{w:ê}{A:ö}{E:Ä->Æ->Prop}{s:Æ}
theorem j81(hl:Ï1 s.heap l i1)(hb:Ï1 s.heap b i2)(hi:Ì0 i1.toList ns)(hj:Ì0 i2.toList ms)
  (hu:A.units < Å7) (h:Q (.bool (leB ns ms)) s):Ñ (Ö P w) A (À2 .LtE (.ref l) (.ref b)) Q E s:=by
 obtain⟨⟨cls,dd,data,sl⟩,ho,hc,n,hd⟩:=id hl;obtain⟨⟨cls2,dd2,data2,sl2⟩,ho2,hc2,n2,hd2⟩:=id hb;simp only at hc hd hc2 hd2;subst hc hd hc2 hd2;exact richCompare_meets_room (op:=.LtE) ⟨_,ho,rfl⟩ ⟨_,ho2,rfl⟩ PySem.F.slot_tuple_le PySem.F.entry_tuple_le (PySem.F.args_tuple_le_2 _ _) (K30 l b i1 i2 n n2 dd dd2 sl sl2 ns ms hi hj)
  ⟨ho,ho2,show Î7 (leB ns ms)≠Ô6/\Q (.bool (leB ns ms)) s from⟨(λx=>nomatch x),h⟩⟩ hu
theorem Y21{t b:Ç}{ws:List Ä}{Q:Ä->Æ->Prop}(ht:Ï1 s.heap t #[])(hb:Ï1 s.heap b ws.toArray)(h:Q (.ref b) s):Ñ (Ö P w) A (Ä1 .Add (.ref t) (.ref b)) Q E s:=by
 obtain⟨⟨cls,dd,data,sl⟩,ho,hc,n,hd⟩:=id ht;obtain⟨⟨cls2,dd2,data2,sl2⟩,ho2,hc2,n2,hd2⟩:=id hb;simp only at hc hd hc2 hd2;subst hc hd hc2 hd2;exact concat_meets ⟨_,ho,rfl⟩ ⟨_,ho2,rfl⟩ Þ4 seq_tuple_add Ò3 Ñ3 (Ð1 _ _) (tuple_addW0 t b #[] ws.toArray n n2 dd dd2 sl sl2 (by simp)) ⟨ho,ho2,h⟩
theorem Q50:seqRepeat? (.type "tuple")=pure (some (.builtin "tuple.__mul__")):=by
 first | kernel_rfl | rfl | (unfold seqRepeat?;kernel_rfl)
theorem y80:fillsNumberSlot (.type "tuple") "mul"=pure false:=by
 first | kernel_rfl | rfl
theorem j91(a:Int)(t:Tok)(l:Ç)(xs:Array Ä)(n:Nat)(dd:Option Ç)(sl:Array (Option Ä)) :
  Meets (À3.«int.__rmul__» ⟨[.int a t,.ref l],[]⟩) (λ_ R s=>s.heap.get? l=some { cls:=.type "tuple",dict:=dd,data:=.seq xs n,slots:=sl }/\R (.ok (.ret Ô6)) s) :=
 .of_wp λP w A R s h=>by obtain⟨hp,g,d,tk,os⟩:=s;obtain⟨hl,h⟩:=h;wp_walk;exact⟨_,rfl,h⟩
theorem H91(l:Ç)(xs:Array Ä)(k:Int)(u:Tok)(n:Nat)(dd:Option Ç)(sl:Array (Option Ä))(h1:¬ (decide (k < -(2 ^ 63)) || decide (k ≥ 2 ^ 63))=true)(h2:(xs.isEmpty || k == 1)=true) :
  Meets (À3.«tuple.__mul__» ⟨[.ref l,.int k u],[]⟩) (λ_ R s=>s.heap.get? l=some { cls:=.type "tuple",dict:=dd,data:=.seq xs n,slots:=sl }/\R (.ok (.ret (.ref l))) s) :=
 .of_wp λP w A R s h=>by
  obtain⟨hp,g,d,tk,os⟩:=s;obtain⟨hl,h⟩:=h;have f1:=Ö9
  wp_walk using Ã9 hl
  simp only[h1,if_false]
  wp_walk using Ã9 hl
  exact⟨_,rfl,h⟩
theorem mul_zero(l:Ç)(xs:Array Ä)(k:Int)(u:Tok)(n:Nat)(dd:Option Ç)(sl:Array (Option Ä))(h1:¬ (decide (k < -(2 ^ 63)) || decide (k ≥ 2 ^ 63))=true)(h2:¬ (xs.isEmpty || k == 1)=true)(h3:(decide (k<=0) || xs.isEmpty)=true) :
  Meets (À3.«tuple.__mul__» ⟨[.ref l,.int k u],[]⟩) (λ_ R s=>s.heap.get? l=some { cls:=.type "tuple",dict:=dd,data:=.seq xs n,slots:=sl }/\R (.ok (.ret (.ref s.heap.objs.size))) { s with heap:=s.heap.push { cls:=.type "tuple",data:=.seq #[] } }) :=
 .of_wp λP w A R s h=>by
  obtain⟨hp,g,d,tk,os⟩:=s;obtain⟨hl,h⟩:=h;have f1:=Ö9
  wp_walk using Ã9 hl
  simp only[h1,if_false]
  wp_walk using Ã9 hl
  exact⟨_,rfl,h⟩
theorem I01(l:Ç)(xs:Array Ä)(k:Int)(u:Tok)(n:Nat)(dd:Option Ç)(sl:Array (Option Ä))(h1:¬ (decide (k < -(2 ^ 63)) || decide (k ≥ 2 ^ 63))=true)(h2:¬ (xs.isEmpty || k == 1)=true)(h3:¬ (decide (k<=0) || xs.isEmpty)=true)
  (h4:¬ (xs.size:Int) * k > (2 ^ 63 - 1) / 8) (h5:¬ tupleTooMany ((xs.size:Int) * k)=true) (h6:(foldl (λx y=>x++y) #[] (î k.toNat xs)).size<=Ý) :
  Meets (À3.«tuple.__mul__» ⟨[.ref l,.int k u],[]⟩) (λ_ R s=>s.heap.get? l=some { cls:=.type "tuple",dict:=dd,data:=.seq xs n,slots:=sl }/\R (.ok (.ret (.ref s.heap.objs.size))) { s with heap:=s.heap.push { cls:=.type "tuple",data:=.seq (foldl (λx y=>x++y) #[] (î k.toNat xs)) } }) :=
 .of_wp λP w A R s h=>by
  obtain⟨hp,g,d,tk,os⟩:=s;obtain⟨hl,h⟩:=h;have f1:=Ö9
  wp_walk using Ã9 hl
  simp only[h1,if_false]
  wp_walk using Ã9 hl
  simp only[h4,h5,if_false];refine À (m:=Æ6 _) (é (Å ?_) h6);exact⟨_,rfl,h⟩
end
theorem t60(f:α->Option β)(g:α->β):∀ (l:List α),(∀ k∈l,f k=some (g k))->l.filterMap f=l.map g
 |[],_=>rfl|x::r,h=>by rw[Á5,h x Ì,Å6,t60 f g r λk hk=>h k (Ê _ hk)]
section
variable {P:à}{w:ê}{A:ö}{E:Ä->Æ->Prop}{s:Æ}
theorem r80{t sl:Ç}{xs:Array Ä}{vl vu:Ä}{lo hi:Option Int}{Q:Ä->Æ->Prop}(ht:Ï1 s.heap t xs)(hs:s.heap.IsSliceOf sl vl vu .none)(pl:Ø9 vl lo)(pu:Ø9 vu hi)
  (hw:sIx xs.size 0 lo=0/\sIx xs.size xs.size hi=xs.size) (h:Q (.ref t) s):Ñ (Ö P w) A (Ó3 (.ref t) (.ref sl)) Q E s:=by
 obtain⟨os,hos,hcs,hds⟩:=id hs;have hTs:s.TypeIs (.ref sl) "slice":=⟨os,hos,hcs⟩;unfold Ó3;try with_reducible refine Á0 ?_
 first | refine À (Å ?_) | skip
 refine À (Ü6 ht.typeIs (-0) ?_);refine À (À9 (name:=Á2 "__getitem__") ht.typeIs õ (À8 õ ht.typeIs entry_tuple_getitem ?_ (Û6 _ _)))
 show Ñ _ _ (tupleItemsOf (.ref t) >>= _) _ _ s;refine À (tupleItemsOf_ ht (À (Ç6 hTs ?_)));rw[if_pos (-0)];refine À (n10 hs pl pu ?_)
 rw[hw.1,hw.2];show Ñ _ _ (if (((0:Nat):Int) == 0&&(1:Int) == 1&&(xs.size - 0) == xs.size)=true then _ else _) _ _ s;rw[if_pos (by simp)]
 refine À (m:=tupleIsExact _) ?_;unfold tupleIsExact;refine À (Ç6 ht.typeIs (Å ?_));rw[if_pos (-0)]
 first
  |exact À (É9 (Å ⟨_,rfl,Å h⟩))
  |exact À (É9 (À (Å (Å ⟨_,rfl,Å h⟩))))
theorem v90{t sl:Ç}{xs:List Ä}{u:Tok}{Q:Ä->Æ->Prop}(ht:Ï1 s.heap t xs.toArray)(hs:s.heap.IsSliceOf sl .none .none (.int (-1) u))
  (h:Q (.ref s.heap.objs.size) { s with heap:=s.heap.push { cls:=.type "tuple",data:=.seq xs.reverse.toArray } }) (hz:xs.length<=Ý):Ñ (Ö P w) A (Ó3 (.ref t) (.ref sl)) Q E s:=by
 obtain⟨os,hos,hcs,hds⟩:=id hs;have hTs:s.TypeIs (.ref sl) "slice":=⟨os,hos,hcs⟩;unfold Ó3;try with_reducible refine Á0 ?_
 first | refine À (Å ?_) | skip
 refine À (Ü6 ht.typeIs (-0) ?_);refine À (À9 (name:=Á2 "__getitem__") ht.typeIs õ (À8 õ ht.typeIs entry_tuple_getitem ?_ (Û6 _ _)))
 show Ñ _ _ (tupleItemsOf (.ref t) >>= _) _ _ s;refine À (tupleItemsOf_ ht (À (Ç6 hTs ?_)));rw[if_pos (-0)]
 have app:∀ {R:Int × Int × Nat->Æ->Prop},R ((xs.length:Int) - 1,-1,xs.length) s->Ñ (Ö P w) A.in1 (Ô1 (.ref sl) (pure (xs.toArray.size:Int))) R E s:=λ{R} q=>by
  unfold Ô1 sliceFields;refine À (À (Á7 hos hds (x:=.none) rfl (À (Á7 hos hds (x:=.none) rfl (À (Á7 hos hds (x:=.int (-1) u) rfl (Å ?_)))))));refine À (slicePart_int ?_);show Ñ _ _ (if ((-1:Int) == 0)=true then _ else _) _ _ s;rw[if_neg (-0)]
  refine À (Ø2 (À (Ø2 (À (Å ?_)))));have e1:Í4 none none (-1) (xs.toArray.size:Int)=((xs.length:Int) - 1,-1):=by simp[Í4]
  have e2:È9 ((xs.length:Int) - 1) (-1) (-1)=xs.length:=by
   unfold È9;rw[if_neg (-0)]
   split
   ·simp only[Int.neg_neg,Int.ediv_one];omega
   ·omega
  show Ñ _ _ (match Í4 none none (-1) (xs.toArray.size:Int) with | (lo,hi)=>pure (lo,(-1:Int),È9 lo hi (-1))) _ _ s
  rw[e1];show Ñ _ _ (pure ((xs.length:Int) - 1,(-1:Int),È9 ((xs.length:Int) - 1) (-1) (-1))) _ _ s;rw[e2];exact Å q
 refine À (app ?_);show Ñ _ _ (if (((xs.length:Int) - 1) == 0&&(-1:Int) == 1&&xs.length == xs.toArray.size)=true then _ else _) _ _ s;rw[if_neg (by simp)]
 have pick:((ð xs.length).filterMap λ(k:Nat)=>xs.toArray[((xs.length:Int) - 1 + (k:Int) * -1).toNat]?)=xs.reverse:=by
  refine List.ext_getElem? λi=>?_;have hall:∀ k∈ð xs.length,xs.toArray[((xs.length:Int) - 1 + (k:Int) * -1).toNat]?=some (xs.getD (xs.length - 1 - k) å):=λk hk=>by
   have hk':k < xs.length:=by simpa using hk
   have e:((xs.length:Int) - 1 + (k:Int) * -1).toNat=xs.length - 1 - k:=by omega
   rw[e];have:xs.length - 1 - k < xs.length:=by omega
   simp[this]
  rw[t60 _ _ _ hall,Ø];by_cases hi:i < xs.length
  ·have h2:xs.length - 1 - i < xs.length:=by omega
   rw[É8 hi,List.getElem?_reverse hi];simp[h2]
  ·rw[à5 (by simpa using hi),à5 (by simpa using hi)];rfl
 rw[pick];have hsz:sizeOk (.seq xs.reverse.toArray):=by show xs.reverse.toArray.size<=Ý;rw[Ô,Ð6];exact hz
 first
  |exact À (m:=Æ6 _) (é (Å ⟨_,rfl,Å h⟩) hsz)
  |exact À (m:=Æ6 _) (é (À (Å (Å ⟨_,rfl,Å h⟩))) hsz)
  |exact À (À (m:=Æ6 _) (é (Å (Å ⟨_,rfl,Å h⟩)) hsz))
  |exact À (À (m:=Æ6 _) (é (Å ⟨_,rfl,Å h⟩) hsz))
end
end HT
namespace L2
open PySem PySem.Spec PyProof.Rows
theorem a30.sqT{K:Â}{H H':Hp}{a:Ç}{xs:List V}(e:a30 H H')(h:SqT K H a xs):SqT K H' a xs:=by
 rcases h with (h | ⟨o,h⟩) | h
 ·exact .inl (.inl (e _ _ h))
 ·exact .inl (.inr ⟨o,e _ _ h⟩)
 ·exact .inr h
theorem a30.new(o:HO)(n:H p=none):a30 H (upd H p o):=λb u e=>by rw[a50 (a90 e n)];exact e
def I11(K:Â)(H:Hp)(zs:List V)(Q:VK):Prop:=∀ p H',a30 H H'->SqT K H' p zs->Q (.ref p) H'
section
variable {X:Cx}{pins:List (Ç × Obj)}{σ:St}{H:Hp}{s:Æ}
theorem I11.here(q:I11 X.K H zs Q)(I:Inv X pins σ H s)(h:SqT X.K H a zs):EP X pins σ Q (.ref a) s:=⟨.ref a,H,I,rfl,q a H (a30.refl H) h⟩
theorem I11.new(q:I11 X.K H zs Q)(I:Inv X pins σ H s)(r:Vals zs us)(hz:zs.length<=Ý) :
  EP X pins σ Q (.ref s.heap.objs.size) { s with heap:=s.heap.push { cls:=.type "tuple",data:=.seq us.toArray } } :=
 have hn:H s.heap.objs.size=none:=I.hok.fresh (Î _)
 ⟨.ref s.heap.objs.size,_,I.laid (t':=s.toks) (o:=.tup zs) (λb ob q=>Ã _ q) (Î _) ⟨hz,_,r,Ï1.new _ _⟩,rfl,q _ _ (a30.new _ hn) (SqT.of b00)⟩
end
section
variable {X:Cx}
def S62(K:Â):R2:=λx y H Q=>∃ a b ns ms,x=.ref a/\y=.ref b/\SqT K H a (ns.map V.int)/\SqT K H b (ms.map V.int)/\Q (.bl (HT.leB ns ms)) H
theorem m22(hu:X.A.units < Å7):OpR X (À2 .LtE) (S62 X.K):=by
 intro pins s σ H x y v u Q I rx ry h;obtain⟨a,b,ns,ms,rfl,rfl,ha,hb,q⟩:=h;cases rx;cases ry;obtain⟨v1,r1,p1,_⟩:=I.tuple ha;obtain⟨v2,r2,p2,_⟩:=I.tuple hb;exact HT.j81 p1 p2 (show Ì0 v1.toArray.toList ns from intsAre_of r1) (show Ì0 v2.toArray.toList ms from intsAre_of r2) hu ⟨.bl (HT.leB ns ms),H,I,rfl,q⟩
def D12(K:Â):R2:=λx y H Q=>∃ a b xs ys,x=.ref a/\y=.ref b/\SqT K H a xs/\SqT K H b ys/\xs.length + ys.length<=Ý/\I11 K H (xs++ys) Q
theorem Y31:OpR X (Ä1 .Add) (D12 X.K):=by
 intro pins s σ H x y v u Q I rx ry h;obtain⟨a,b,xs,ys,rfl,rfl,ha,hb,hz,q⟩:=h;cases rx;cases ry;obtain⟨v1,r1,p1,_⟩:=I.tuple ha;obtain⟨v2,r2,p2,_⟩:=I.tuple hb;by_cases hx:xs=[]
 ·subst hx;have e:=r1.J00.mpr rfl;subst e;exact HT.Y21 p1 p2 (q.here I hb)
 ·refine HT.W51 p1 p2 (λz=>hx (r1.J00.mp z)) (λz=>?_) (λz=>q.new I (r1.append r2) (by rw[À5];exact hz)) (by rw[← r1.length,← r2.length];exact hz)
  have e:=r2.J00.mp z;subst e;rw[Ë4] at q;exact q.here I ha
def D22(K:Â):R2:=λx y H Q=>∃ a k xs,x=.ref a/\y=.int k/\SqT K H a xs/\0<=k/\k < 1000000/\k.toNat * xs.length<=Ý/\I11 K H (î k.toNat xs).flatten Q
theorem Y41:OpR X (Ä1 .Mult) (D22 X.K):=by
 intro pins s σ H x y v u Q I rx ry h;obtain⟨a,k,xs,rfl,rfl,ha,hk,hk2,hz,q⟩:=h;cases rx;obtain⟨t,rfl⟩:=ry;obtain⟨v1,r1,p1,_⟩:=I.tuple ha;have hl:=r1.length;obtain⟨⟨cls,dd,data,sl⟩,ho,hc,n,hd⟩:=id p1;simp only at hc hd;subst hc hd;have h1:¬ (decide (k < -(2 ^ 63)) || decide (k ≥ 2 ^ 63))=true:=by simp;omega
 refine wpAny_binaryOp_repeat_ref (T:="tuple") (U:="int") (-0) ⟨_,ho,rfl⟩ (λs'=>Û3 s' k t) HT.y80 F.fills_int_mul Õ0 HT.Q50 F.slot_int_index.lookup
  (È1 Õ0 (Û3 s k t) F.entry_int_rmul (F.args_int_rmul_2 _ _) (HT.j91 k t a v1.toArray n dd sl) ⟨ho,rfl,⟨_,ho,rfl⟩,?_⟩)
 by_cases hx:v1=[]∨k=1
 ·refine È1 Ý3 ⟨_,ho,rfl⟩ Ü1 (Ú3 _ _) (HT.H91 a v1.toArray k t n dd sl h1 (by rcases hx with hx | hx <;> simp[hx])) ⟨ho,?_⟩
  have e2:(î k.toNat xs).flatten=xs:=by
   rcases hx with hx | hx
   ·rw[r1.J00.mp hx];simp
   ·rw[hx];simp
  rw[e2] at q;exact q.here I ha
 ·have hv:v1≠[]:=λz=>hx (.inl z);have h2:¬ (v1.toArray.isEmpty || k == 1)=true:=by simp[hv];exact λz=>hx (.inr z)
  by_cases hk0:k=0
  ·refine È1 Ý3 ⟨_,ho,rfl⟩ Ü1 (Ú3 _ _) (HT.mul_zero a v1.toArray k t n dd sl h1 h2 (by simp[hk0])) ⟨ho,?_⟩
   rw[show(î k.toNat xs).flatten=[] by rw[hk0];rfl] at q
   exact q.new I .nil (È3 _)
  have hpos:0 < v1.length:=List.length_pos_iff.mpr hv;have hfl:foldl (λx y=>x++y) #[] (î k.toNat v1.toArray)=(î k.toNat v1).flatten.toArray:=by
   have:=foldl_rep v1 k.toNat [];rw[Í1] at this;exact this
  have hsz:v1.length * k.toNat<=sizeLine:=by rw[← hl,Ù9];exact hz
  have hcast:((v1.toArray.size:Nat):Int) * k=((v1.length * k.toNat:Nat):Int):=by rw[Ô,Int.natCast_mul,Int.toNat_of_nonneg ∅]
  have hline:(Ý:Nat)<=(2 ^ 63 - 1) / 8:=by decide
  refine È1 Ý3 ⟨_,ho,rfl⟩ Ü1 (Ú3 _ _) (HT.I01 a v1.toArray k t n dd sl h1 h2 (by simp[hv];omega) (by rw[hcast];generalize v1.length * k.toNat=m at hsz;omega) (by rw[hcast];generalize v1.length * k.toNat=m at hsz;unfold tupleTooMany;intro z;have z':=of_decide_eq_true z;omega)
   (by rw[hfl,Ô,len_rep,Ù9];exact hsz)) ⟨ho,?_⟩
  rw[hfl];exact q.new I (r1.rep k.toNat) (by rw[len_rep];exact hz)
def S72(K:Â):V->Option Int->Option Int->Hp->VK->Prop:=λx lo hi H Q=>∃ a xs,x=.ref a/\SqT K H a xs/\I11 K H (F71 xs lo hi) Q
theorem Y51:SlR X (S72 X.K):=by
 intro pins s σ H x v vl vu lo hi sl Q I rx hs pl pu h;obtain⟨a,xs,rfl,hx,q⟩:=h;cases rx;obtain⟨its,r,ht,hz⟩:=I.tuple hx;have hlen:its.toArray.size=xs.length:=by rw[Ô];exact r.length.symm
 refine⟨"tuple",_,õ.lookup,ht.typeIs,?_⟩;by_cases hw:HT.sIx xs.length 0 lo=0/\HT.sIx xs.length xs.length hi=xs.length
 ·refine HT.r80 ht hs pl pu (by rw[hlen];exact hw) ?_
  have e:F71 xs lo hi=xs:=by unfold F71;rw[hw.1,hw.2];simp
  rw[e] at q;exact q.here I hx
 ·refine HT.v60 ht hs pl pu (by rw[hlen];exact hw) ?_ (by rw[hlen];exact hz)
  rw[hlen];exact q.new I ((r.drop (HT.sIx xs.length 0 lo)).take (HT.sIx xs.length xs.length hi - HT.sIx xs.length 0 lo)) (Þ (A80 xs lo hi) hz)
def y92(K:Â)(te ts:TE):TE:=λσ H Q=>te σ H λx H1=>ts σ H1 λy H2=>y=.int (-1)/\((∃ a xs,x=.ref a/\SqT K H2 a xs/\I11 K H2 xs.reverse Q)∨∃ a xs,x=.ref a/\SqL K H2 a xs/\∀ p,H2 p=none->Q (.ref p) (upd H2 p (.lst xs.reverse)))
theorem m32{e st:Ð}{te ts:TE}{p2 pos:Pos}(he:PE X e te)(hst:PE X st ts):PE X (.Subscript e (.Slice none none (some st) p2) pos) (y92 X.K te ts):=by
 intro pins s σ H Q I h;refine Subscript_ (thn (he pins s σ H _ I h) λv s1 ⟨x,H1,I1,r1,q1⟩=>?_);refine wpAny_Slice ?_;rw[evalPart_none];refine Å (Å ?_);rw[evalPart_some];refine thn (hst pins s1 σ H1 _ I1 q1) λw' s2 ⟨y,H2,I2,r2,q2⟩=>?_;obtain⟨rfl,q2⟩:=q2;obtain⟨t,rfl⟩:=r2;have I4:Inv X pins σ H2 { s2 with heap:=s2.heap.push { cls:=.type "slice",data:=.fields #[.none,.none,.int (-1) t] } }:=I2.kept (t':=s2.toks) λb ob q=>Ã _ q;show Ñ (Ö X.prog X.w) X.A (subscriptTail e (.Slice none none (some st) p2) v (.ref s2.heap.objs.size)) (EP X pins σ Q) X.xe { s2 with heap:=s2.heap.push { cls:=.type "slice",data:=.fields #[.none,.none,.int (-1) t] } };rcases q2 with ⟨a,xs,rfl,hq,q⟩ | ⟨a,xs,rfl,hq,q⟩
 ·cases r1;obtain⟨its,r,ht,hz⟩:=I4.tuple hq;exact tail_any (ops:=[.ref a,.ref s2.heap.objs.size]) ht.typeIs õ.lookup (HT.v90 ht (Ò9 ..) (q.new I4 r.reverse (by rw[Ð6];exact hz)) (by rw[← r.length];exact hz)) (by with_unfolding_all rfl)
 ·cases r1;obtain⟨its,r,ht,hz⟩:=I4.list hq;have hlen:=r.length;refine tail_any (ops:=[.ref a,.ref s2.heap.objs.size]) ht.isList.typeIs slot_list_getitem.lookup (wpAny_getItem_list_slice ht.isList (Ò9 ..) .none .none (.int (-1) t) (by simp) ?_ (by rw[Ô] <;> omega)) (by with_unfolding_all rfl)
  rw[PySem.W.krv_pick];refine⟨.ref _,_,I4.laid (t':=s2.toks) (o:=.lst xs.reverse) (λb ob q=>Ã _ q) (Î _) ?_,rfl,q _ (I4.hok.fresh (Î _))⟩;exact⟨by rw[Ð6];exact hz,its.reverse,0,r.reverse,Ë _ rfl⟩
theorem Inv.big(I:Inv X pins σ H s):sysModules < s.heap.objs.size:=by
 have h:æ < s.heap.objs.size:=(I.mod.glob.keeps I.bk).lt;exact Nat.lt_trans (-0) h
def D32:TE:=λ_ H Q=>∀ p,H p=none->Q (.ref p) (upd H p (.dK []))
theorem Y61{pos:Pos}:PE X (.Dict [] [] pos) D32:=λpins s σ H Q I h =>
 wpAny_Dict_empty ⟨.ref s.heap.objs.size,_,I.laid (a:=s.heap.objs.size) (o:=.dK []) (t':=s.toks) (λ_ _ q=>Ã _ q) (Î _) ⟨È3 _,beq_eq_false_iff_ne.mpr (Á6 (Ü I.big)),[],.nil,ë.DictOf.new _⟩,rfl,h _ (I.hok.fresh (Î _))⟩
end
end L2
namespace MySort
open PySem PySem.W PyProof.Rows
section
variable {P:à}{w:ê}{A:ö}{E:Ä->Æ->Prop}{s:Æ}
theorem X50(ho:s.heap.get? l=some o)(hc:o.cls=.type "list"∨o.cls=.type "tuple")(hd:o.data=.seq vs.toArray n)
  (h:Q vs { s with heap:=(s.heap.push (Ã3 "list" #[] 0)).update s.heap.objs.size (À4 (·++vs.toArray)) }) (hz:vs.length<=Ý):Ñ (Ö P w) A (collect (.ref l)) Q E s:=by
 unfold collect;refine À (Ø1 (Â4 entry_proto_collect' ?_));show Ñ _ _ (do again (.builtin "list.__iadd__" ⟨[← newList [],.ref l],[]⟩)) _ _ s;refine À (Ú8 (Å ⟨Ö7 _ (by decide +kernel),Â4 entry_list_iadd' ?_⟩))
 show Ñ _ _ (Ä3 (.ref s.heap.objs.size) (.ref l) (.ref s.heap.objs.size)) _ _ { s with heap:=s.heap.push (Ã3 "list" #[] 0) };unfold Ä3;have ho':(s.heap.push (Ã3 "list" #[] 0)).get? l=some o:=Ã _ ho;have fin:Ñ (Ö P w) A (do
   let o ← load s.heap.objs.size
   match o.data with
   |.seq xs _=>pure xs.toList
   |_=>unsupported "internal:collect") Q E { s with heap:=(s.heap.push (Ã3 "list" #[] 0)).update s.heap.objs.size (À4 (·++vs.toArray)) }:=by
  refine À (wpAny_load (ß5 (Ë _ rfl) _) ?_);show Ñ _ _ (pure ((#[]:Array Ä)++vs.toArray).toList) Q E _;rw[show((#[]:Array Ä)++vs.toArray).toList=vs by simp];exact Å h
 rcases hc with hc | hc
 ·refine À (Ç6 (T:="list") ⟨o,ho',hc⟩ ?_);rw[if_pos (by rw[show(Á9 "list" == Á9 "list")=true by rfl];simp)]
  refine À (Ñ0 ho' hd (À (Ñ0 (xs:=#[]) (n:=0) (Ë _ rfl) rfl ?_)));rw[if_neg (by simp)]
  exact À (Ú9 (xs:=#[]) (n:=0) (Ë _ rfl) rfl (Å fin) (È3 _) (by show(#[]++vs.toArray).size<=Ý + 1;simp only[Array.size_append,Ô,Â1];omega))
 ·refine À (Ç6 (T:="tuple") ⟨o,ho',hc⟩ ?_);rw[if_pos (by rw[show(Á9 "tuple" == Á9 "tuple")=true by rfl];simp)]
  refine À (Ñ0 ho' hd (À (Ñ0 (xs:=#[]) (n:=0) (Ë _ rfl) rfl ?_)));rw[if_neg (by simp)]
  exact À (Ú9 (xs:=#[]) (n:=0) (Ë _ rfl) rfl (Å fin) (È3 _) (by show(#[]++vs.toArray).size<=Ý + 1;simp only[Array.size_append,Ô,Â1];omega))
theorem r11(ho:s.heap.get? l=some o)(hc:o.cls=.type "list"∨o.cls=.type "tuple")(hd:o.data=.seq vs.toArray n)
  (hk:∀ h',q81 s.heap h'->h62 P w A.in1.in1 { s with heap:=h' } vs Pr kd)
  (h:∀ (p:List Nat) (h':ë) (c:Nat),Pr p->(∀ b o,s.heap.get? b=some o->h'.get? b=some o)->h'.get? (s.heap.objs.size + 1)=some (Ã3 "list" (p.map λi=>vs.getD i å).toArray c)->Q (.ref (s.heap.objs.size + 1)) { s with heap:=h' }) :
  Ñ (Ö P w) A (call (.builtin "sorted") [.ref l]) Q E s:=by
 have h64:=(hk s.heap λ_ _ e _=>e).len;refine Þ0 kind_sorted plain_sorted entry_sorted (args_sorted1 _) ?_;unfold À3.«sorted»;refine À (m:=checkCount "sorted" 1 1 _) (Å ?_);refine À (X50 ho hc hd ?_ (by rw[Á4];omega));refine À (Ú8 ?_ (by rw[Á4];omega))
 have hsz:((s.heap.push (Ã3 "list" #[] 0)).update s.heap.objs.size (À4 (·++vs.toArray))).objs.size=s.heap.objs.size + 1:=by rw[ë.size_update,size_push']
 have hoL:(((s.heap.push (Ã3 "list" #[] 0)).update s.heap.objs.size (À4 (·++vs.toArray))).push (Ã3 "list" vs.toArray 0)).get? (s.heap.objs.size + 1)=some (Ã3 "list" vs.toArray 0):=by rw[← hsz];exact Ë _ rfl
 have keep:∀ b o,s.heap.get? b=some o->(((s.heap.push (Ã3 "list" #[] 0)).update s.heap.objs.size (À4 (·++vs.toArray))).push (Ã3 "list" vs.toArray 0)).get? b=some o:=λb o q=>by
  have hlt:b < s.heap.objs.size:=á q;rw[ë.get?_push_ne _ _ _ (by rw[hsz];exact Ü (Å1 hlt)),ë.get?_update_ne _ _ _ _ (Ü hlt),ë.get?_push_ne _ _ _ (Ü hlt)];exact q
 show Ñ _ _ _ _ _ { s with heap:=((s.heap.push (Ã3 "list" #[] 0)).update s.heap.objs.size (À4 (·++vs.toArray))).push (Ã3 "list" vs.toArray 0) };rw[hsz];refine À (Á0 (À8 slot_list_sort ⟨_,hoL,rfl⟩ entry_list_sort (d11 hoL (λh' kp=>hk h' λb o e hc=>kp b o (keep b o e) hc) λp h' c hp kp hD=>⟨_,rfl,Å ⟨_,rfl,h p h' c hp (λb o e=>kp b o (Ü (Å1 (á e))) (keep b o e)) hD⟩⟩) (args_list_sort _)))
end
end MySort
namespace L2
open PySem PySem.Spec PyProof.Rows
open MySort (sortedBy)
section
variable {X:Cx}
def Y71(X:Cx)(H:Hp)(xs:List V)(Pr:List Nat->Prop):Prop:=∀ (pins:List (Ç × Obj)) (σ:St) (s:Æ) (us:List Ä),Inv X pins σ H s->Vals xs us->∃ kd,∀ h',MySort.q81 s.heap h'->MySort.h62 X.prog X.w X.A.in1.in1 { s with heap:=h' } us Pr kd
theorem x40:g70 X (.builtin "sorted") (λargs H Q=>∃ a xs,∃ Pr:List Nat->Prop,args=[.ref a]/\(SqL X.K H a xs∨SqT X.K H a xs)/\Y71 X H xs Pr/\(∀ p,Pr p->∀ i∈p,i < xs.length)/\∀ p l,Pr p->H l=none->Q (.ref l) (upd H l (.lst (p.map λi=>xs.getD i .non)))):=by
 intro pins s σ H args us Q I r h;obtain⟨a,xs,Pr,rfl,hq,hk,hpr,q⟩:=h;obtain⟨u,rfl,rx⟩:=vals1 r;cases rx;have go:∀ (its:List Ä) (o:Obj) (n:Nat),Vals xs its->s.heap.get? a=some o->(o.cls=.type "list"∨o.cls=.type "tuple")->o.data=.seq its.toArray n->Ñ (Ö X.prog X.w) X.A (call (.builtin "sorted") [.ref a]) (EP X pins σ Q) X.xe s:=λits o n rv ho hc hd=>by
  obtain⟨kd,kw⟩:=hk pins σ s its I rv;have k0:=kw s.heap λ_ _ e _=>e;refine MySort.r11 ho hc hd kw λp h' c hp kp hD=>?_;have hn:H (s.heap.objs.size + 1)=none:=I.hok.fresh (É5 _ 1);have hlen:(p.map λi=>xs.getD i .non).length<=sizeLine:=by rw[È,k0.all p hp,Á4];have:=k0.len;omega
  have rv':Vals (p.map λi=>xs.getD i .non) (p.map λi=>its.getD i å):=by
   have hall:=hpr p hp;clear hp hD hlen
   induction p with
   |nil=>exact .nil
   |cons i r ih =>
    refine .cons ?_ (ih λj hj=>hall j (Ê _ hj));have hi:=hall i Ì;obtain⟨u,hu,ru⟩:=rv.get (i:=i) (x:=xs[i]) (by simp[hi])
    have e1:xs.getD i V.non=xs[i]:=by simp[hi]
    have e2:its.getD i å=u:=by rw[Ò,hu];rfl
    show RelV (xs.getD i V.non) (its.getD i å);rw[e1,e2];exact ru
  exact⟨.ref (s.heap.objs.size + 1),_,I.laid (t':=s.toks) kp (É5 _ 1) (show h20 X.prog X.w _ h' _ (.lst _) from⟨hlen,_,c,rv',hD⟩),rfl,q p _ hp hn⟩
 rcases hq with hq | hq
 ·obtain⟨its,rv,pl,_⟩:=I.list hq;obtain⟨o,ho,hc,n,hd⟩:=pl.isList;exact go its o n rv ho (.inl hc) hd
 ·obtain⟨its,rv,⟨o,ho,hc,n,hd⟩,_⟩:=I.tuple hq;exact go its o n rv ho (.inr hc) hd
end
section
variable {K:Â}{g:TG}{tt:TT}{te:TE}{σ0:St}{H:Hp}{Q:VK}
theorem I21{lo:Int}{n:Nat}(Pv:Nat->List V->Hp->Prop)(hz:n<=Ý)(h0:Pv 0 [] H)(hl:∀ i ys H,Pv i ys H->ys.length<=i)
  (hs:∀ i ys H,i < n->Pv i ys H->g (.int (lo + i)) σ0 H λσ2 H2=>tt σ2 H2 λb H3=>if b=true then te σ2 H3 (λy H4=>Pv (i + 1) (ys++[y]) H4) else Pv (i + 1) ys H3)
  (hd:∀ ys H p,Pv n ys H->H p=none->Q (.ref p) (upd H p (.lst ys))):j31 (Itr lo n) σ0 H g tt te Q:=by
 refine⟨λi m ys H=>m=n - i/\i<=n/\Pv i ys H,⟨n,by simp,È3 _,h0⟩,?_⟩
 rintro i m ys H ⟨rfl,hi,p⟩;have hy:=hl i ys H p;by_cases hlt:i < n
 ·refine .inr ⟨hlt,by omega,Pv (i + 1),λzs H' p'=>⟨n - (i + 1),by omega,rfl,hlt,p'⟩,λx H' y=>?_⟩
  obtain⟨e,y⟩:=y;subst e y;exact hs i ys _ hlt p
 ·have e:i=n:=by omega
  subst e;exact .inl ⟨Î _,λz hz=>hd ys H z p hz⟩
end
inductive D where
 |non | bl (b:Bool) | int (i:Int) | str (x:Str) | tup (ds:List D) | lst (ds:List D) | dct
def D.ty:D->String
 |.non=>"NoneType"|.bl _=>"bool"|.int _=>"int"|.str _=>"str"|.tup _=>"tuple"|.lst _=>"list"|.dct=>"dict"
mutual
def Has(K:Â)(H:Hp):D->V->Prop
 |.non,v=>v=.non|.bl b,v=>v=.bl b|.int i,v=>v=.int i|.str x,v=>v=.str x|.tup ds,v=>∃ a xs,v=.ref a/\SqT K H a xs/\G70 K H ds xs|.lst ds,v=>∃ a xs,v=.ref a/\SqL K H a xs/\G70 K H ds xs|.dct,v=>∃ a kvs,v=.ref a/\H a=some (.dK kvs)
def G70(K:Â)(H:Hp):List D->List V->Prop
 |[],xs=>xs=[]|d::ds,xs=>∃ x r,xs=x::r/\Has K H d x/\G70 K H ds r
end
def isB(T C:String):Bool:=T == C || (T == "bool"&&C == "int")
theorem Y81(K:Â)(d:D):∀ C∈["int","bool","tuple","list","str"],Î0 K (.type d.ty) (.type C)=some (isB d.ty C):=by
 intro C hC;simp only[Ã1,À6,or_false] at hC;rcases hC with rfl | rfl | rfl | rfl | rfl <;> cases d <;> first | rfl | kernel_rfl | decide +kernel
section
variable {X:Cx}
theorem I31:g70 X (.builtin "isinstance") (λxs H Q=>∃ d x C,xs=[x,.ty C]/\Has X.K H d x/\C∈["int","bool","tuple","list","str"]/\Q (.bl (isB d.ty C)) H):=by
 intro pins s σ H xs us Q I r h;obtain⟨d,x,C,rfl,hd,hC,q⟩:=h;obtain⟨u,w',rfl,rx,rt⟩:=vals2 r;cases (show w'=Á9 C from rt);have e:=Y81 X.K d C hC;have fin:∀ tk,EP X pins σ Q (.bool (isB d.ty C)) { s with toks:=tk }:=λtk=>⟨.bl _,H,I.tok tk,rfl,q⟩;cases d with
 |non=>unfold Has at hd;subst hd;cases rx;exact Ç0 kitx_none I.kIn Ê9 e (λz=>nomatch z) fin
 |bl b=>unfold Has at hd;subst hd;cases rx;exact Ç0 kitx_bool I.kIn Ê9 e (λz=>nomatch z) fin
 |int i=>unfold Has at hd;subst hd;obtain⟨t,rfl⟩:=rx;exact Ç0 kitx_int I.kIn Ê9 e (λz=>nomatch z) fin
 |str y=>unfold Has at hd;subst hd;obtain⟨t,rfl⟩:=rx;exact Ç0 kitx_str I.kIn Ê9 e (λz=>nomatch z) fin
 |tup ds =>
  unfold Has at hd;obtain⟨a,ys,rfl,hq,_⟩:=hd;cases rx;obtain⟨its,_,⟨o,h1,h2,_⟩,_⟩:=I.tuple hq;exact Ç0 kitx_tuple I.kIn ⟨o,h1,h2⟩ e (λz=>nomatch z) fin
 |lst ds =>
  unfold Has at hd;obtain⟨a,ys,rfl,hq,_⟩:=hd;cases rx;obtain⟨its,_,pl,_⟩:=I.list hq;obtain⟨o,h1,h2,_⟩:=pl.isList;exact Ç0 kitx_list I.kIn ⟨o,h1,h2⟩ e (λz=>nomatch z) fin
 |dct =>
  unfold Has at hd;obtain⟨a,kvs,rfl,hq⟩:=hd;cases rx;obtain⟨_,_,vs,_,p⟩:=(show h20 X.prog X.w H s.heap a (.dK kvs) from I.hok a _ hq);obtain⟨o,es,ep,h1,h2,_⟩:=p;exact Ç0 kitx_dict I.kIn ⟨o,h1,h2.1⟩ e (λz=>nomatch z) fin
end
def hide(st:Ç)(H:Hp):Hp:=λb=>if b=st then none else H b
theorem f30(st:Ç)(H:Hp):a30 (hide st H) H:=λb o e=>by
 unfold hide at e;split at e
 ·cases e
 ·exact e
theorem B40{st:Ç}{H H':Hp}(e:∀ b o,b≠st->H b=some o->H' b=some o):a30 (hide st H) (hide st H'):=λb o h=>by
 unfold hide at h ⊢;by_cases q:b=st
 ·rw[if_pos q] at h;cases h
 ·rw[if_neg q] at h ⊢;exact e b o q h
theorem K40{st b:Ç}{H:Hp}{o:HO}(h:H b=some o)(n:b≠st):hide st H b=some o:=by
 unfold hide;rw[if_neg n];exact h
end L2
namespace L2
open PySem PySem.Spec PyProof.Rows
def r21(sc scX:í)(N own:List Str)(capt:List (Str × Nat)):Bool :=
 sc.kind == .function&&sc.names.all (λy=>y.2 != .cell)&&sc.names.all (λy=>y.2 != .local || sc.names.lookup y.1 == some .local) &&
  sc.names.all (λy=>y.2 != .free || (scX.names.lookup y.1 == some .cell || scX.names.lookup y.1 == some .free))&&capt.all λp=>N[p.2]? == some p.1&&sc.names.lookup p.1 == some .free
theorem o00.of{X:Cx}{sc scX:í}{N own:List Str}{capt:List (Str × Nat)}(e:X.env.scope=scX)(eN:X.N=N)(h:r21 sc scX N own capt=true):o00 X sc own capt:=by
 unfold r21 at h;simp only[Á] at h;obtain⟨⟨⟨⟨h1,h2⟩,h3⟩,h4⟩,h5⟩:=h;rw[Å2] at h2 h3 h4 h5;refine⟨by simpa using h1,λy hy=>by simpa using h2 y hy,λy hy hl=>?_,λy hy hf=>?_,λp hp=>?_⟩
 ·have:=h3 y hy;rw[hl] at this;simpa using this
 ·have:=h4 y hy;rw[hf] at this;show X.env.scope.names.lookup y.1=_∨X.env.scope.names.lookup y.1=_;rw[e];simpa using this
 ·have:=h5 p hp;rw[eN];simpa using this
theorem gN{i:Nat}{v:V}{σ:St}{H:Hp}{R:St->Hp->Prop}(h:R (σ.set i (some v)) H):I70 i v σ H R:=h
theorem I41{σ:St}{H:Hp}{R:Bool->Hp->Prop}(h:R true H):p61 σ H R:=h
theorem B50{n:Nat}(h:n<=64):n<=sizeLine:=Þ h (-0)
section
variable {X:Cx}
theorem m52(K:Â)(d:D):kitAny K (.type d.ty) [.type "tuple",.type "list"]=some (isB d.ty "tuple" || isB d.ty "list"):=by
 have e1:=Y81 K d "tuple" (by simp)
 have e2:=Y81 K d "list" (by simp)
 unfold kitAny;rw[e1];cases isB d.ty "tuple" with
 |true=>rfl
 |false =>
  show kitAny K (.type d.ty) [.type "list"]=_;unfold kitAny;rw[e2];cases isB d.ty "list" <;> rfl
theorem r31:g70 X (.builtin "isinstance") (λxs H Q=>∃ d x a,xs=[x,.ref a]/\Has X.K H d x/\SqT X.K H a [.ty "tuple",.ty "list"]/\Q (.bl (isB d.ty "tuple" || isB d.ty "list")) H):=by
 intro pins s σ H xs us Q I r h;obtain⟨d,x,a,rfl,hd,hq,q⟩:=h;obtain⟨u,w',rfl,rx,rt⟩:=vals2 r;cases (show w'=Â9 a from rt);obtain⟨its,rv,⟨⟨cls,dd,data,sl⟩,ho,hc,n,hdt⟩,_⟩:=I.tuple hq;simp only at hc hdt;subst hc hdt;have eits:its=[.type "tuple",.type "list"]:=by
  cases rv with
  |cons p r=>cases r with
   |cons p2 r2=>cases r2;rw[show _=Á9 "tuple" from p,show _=Á9 "list" from p2]
 subst eits;have e:=m52 X.K d;have fin:∀ tk,EP X pins σ Q (.bool (isB d.ty "tuple" || isB d.ty "list")) { s with toks:=tk }:=λtk=>⟨.bl _,H,I.tok tk,rfl,q⟩;cases d with
 |non=>unfold Has at hd;subst hd;cases rx;exact Ö0 kitx_none I.kIn Ê9 ho e (λz=>nomatch z) fin
 |bl b=>unfold Has at hd;subst hd;cases rx;exact Ö0 kitx_bool I.kIn Ê9 ho e (λz=>nomatch z) fin
 |int i=>unfold Has at hd;subst hd;obtain⟨t,rfl⟩:=rx;exact Ö0 kitx_int I.kIn Ê9 ho e (λz=>nomatch z) fin
 |str y=>unfold Has at hd;subst hd;obtain⟨t,rfl⟩:=rx;exact Ö0 kitx_str I.kIn Ê9 ho e (λz=>nomatch z) fin
 |tup ds =>
  unfold Has at hd;obtain⟨b,ys,rfl,hq',_⟩:=hd;cases rx;obtain⟨_,_,⟨o,h1,h2,_⟩,_⟩:=I.tuple hq';exact Ö0 kitx_tuple I.kIn ⟨o,h1,h2⟩ ho e (λz=>nomatch z) fin
 |lst ds =>
  unfold Has at hd;obtain⟨b,ys,rfl,hq',_⟩:=hd;cases rx;obtain⟨_,_,pl,_⟩:=I.list hq';obtain⟨o,h1,h2,_⟩:=pl.isList;exact Ö0 kitx_list I.kIn ⟨o,h1,h2⟩ ho e (λz=>nomatch z) fin
 |dct =>
  unfold Has at hd;obtain⟨b,kvs,rfl,hq'⟩:=hd;cases rx;obtain⟨_,_,vs,_,p⟩:=(show h20 X.prog X.w H s.heap b (.dK kvs) from I.hok b _ hq');obtain⟨o,es,ep,h1,h2,_⟩:=p;exact Ö0 kitx_dict I.kIn ⟨o,h1,h2.1⟩ ho e (λz=>nomatch z) fin
end
open PySem PySem.Spec PyProof.Rows PySem.SeqAt
theorem K50(l b:Ç)(es:Array DictEntry)(n:Nat)(it:Array Ä)(n2:Nat)(dd dd2:Option Ç)(sl sl2:Array (Option Ä)) :
  Meets (À3.«dict.__ne__» ⟨[.ref l,.ref b],[]⟩) (λ_ R s=>s.heap.get? l=some { cls:=.type "dict",dict:=dd,data:=.dict es n,slots:=sl }/\s.heap.get? b=some { cls:=.type "tuple",dict:=dd2,data:=.seq it n2,slots:=sl2 }/\R (.ok (.ret .notImplemented)) s) :=
 .of_wp λprog w A R s h=>by
  obtain⟨hp,g,d,tk,os⟩:=s;obtain⟨hl,hb,h⟩:=h;have f1:=F.sub_tuple_dict
  wp_walk using Ä8 hl,Ä8 hb
  exact⟨_,rfl,h⟩
theorem K60(l b:Ç)(es:Array DictEntry)(n:Nat)(it:Array Ä)(n2:Nat)(dd dd2:Option Ç)(sl sl2:Array (Option Ä)) :
  Meets (À3.«tuple.__ne__» ⟨[.ref b,.ref l],[]⟩) (λ_ R s=>s.heap.get? l=some { cls:=.type "dict",dict:=dd,data:=.dict es n,slots:=sl }/\s.heap.get? b=some { cls:=.type "tuple",dict:=dd2,data:=.seq it n2,slots:=sl2 }/\R (.ok (.ret .notImplemented)) s) :=
 .of_wp λprog w A R s h=>by
  obtain⟨hp,g,d,tk,os⟩:=s;obtain⟨hl,hb,h⟩:=h;have f1:=F.sub_dict_tuple
  wp_walk using Ä8 hl,Ä8 hb
  exact⟨_,rfl,h⟩
section
variable {X:Cx}
theorem Y91(hu:X.A.units + 64 < Å7):OpR X (À2 .NotEq) (λx y H Q=>∃ a b kvs xs,x=.ref a/\y=.ref b/\H a=some (.dK kvs)/\SqT X.K H b xs/\Q (.bl true) H):=by
 intro pins s σ H x y v u Q I rx ry h;obtain⟨a,b,kvs,xs,rfl,rfl,ha,hb,q⟩:=h;cases rx;cases ry;obtain⟨v2,r2,⟨o2,h2,c2,n2,d2⟩,_⟩:=I.tuple hb;obtain⟨_,_,vs,_,p⟩:=(show h20 X.prog X.w H s.heap a (.dK kvs) from I.hok a _ ha);obtain⟨o1,es,n1,h1,c1,d1,_⟩:=p;have c1:=c1.1;obtain⟨cls,dd,data,sl⟩:=o1;obtain⟨cls2,dd2,data2,sl2⟩:=o2;simp only at c1 d1 c2 d2;subst c1 d1 c2 d2;have hne:a≠b:=λe=>by
  subst e;rw[h1] at h2;simp at h2
 have hu':X.A.units < cLine:=by omega
 refine rc_ne_decline_or (k:=false) ⟨_,h1,rfl⟩ ⟨_,h2,rfl⟩ (-0) F.sub_tuple_dict F.slot_dict_ne F.slot_tuple_ne_refl
  (λ_ hq=>È1 F.slot_dict_ne ⟨_,h1,rfl⟩ F.entry_dict_ne (F.args_dict_ne_2 _ _) (K50 a b es n1 v2.toArray n2 dd dd2 sl sl2) ⟨h1,h2,hq⟩)
  (λ_ hq=>È1 F.slot_tuple_ne_refl ⟨_,h2,rfl⟩ F.entry_tuple_ne (F.args_tuple_ne_2 _ _) (K60 a b es n1 v2.toArray n2 dd dd2 sl sl2) ⟨h1,h2,hq⟩)
  (λ_ hq=>wpAny_isSame_ref_other hne h1 h2 (by simp) hq) (.inr hu') ⟨.bl true,H,I,rfl,q⟩
end
end L2
namespace L2
open PySem PySem.Spec PyProof.Rows
section
variable {P:à}{w:ê}{A:ö}{E:Ä->Æ->Prop}{s:Æ}
abbrev eT1(h:ë)(l:Ç):Heap:=h.push { cls:=.type "tuple_iterator",data:=.fields #[.ref l,.int 0 0] }
abbrev eT2(h:ë)(l:Ç):Heap:=(eT1 h l).push { cls:=.type "enumerate",data:=.fields #[.none,.bool false,.ref h.objs.size,Ã6 0,.none,.none] }
theorem X60(l:Ç)(xs:Array Ä) :
  Meets (À3.«enumerate.__new__» ⟨[.type "enumerate",.ref l],[]⟩) (λ_ R s=>s.heap.IsTuple l xs/\R (.ok (.ret (.ref (eT1 s.heap l).objs.size))) { s with heap:=eT2 s.heap l }) :=
 .of_wp λP w A R s h=>by
  obtain⟨hp,g,d,tk,os⟩:=s;obtain⟨hl,h⟩:=h;have hsub:=sub_enumerate;have hL1:Ó4 (Æ.heap ⟨hp,g,d,tk,os⟩) l xs:=hl
  wp_walk;refine wpAny_stack_any λq=>Å ?_;split
  ·rename_i c _ _ _ _ _;cases (c == Á9 "enumerate") <;> (wp_walk using Ç7 hL1) <;> exact⟨_,rfl,h⟩
  ·wp_walk using Ç7 hL1
   exact⟨_,rfl,h⟩
theorem k01(hl:s.heap.IsTuple l xs)
  (h:∀ h',IsEnum h' (s.heap.objs.size + 1) s.heap.objs.size 0 .none->h'.IsTupleIter s.heap.objs.size l 0->(∀ c o,s.heap.get? c=some o->h'.get? c=some o)->Q (.ref (s.heap.objs.size + 1)) { s with heap:=h' }) :
  Ñ (Ö P w) A (call (.type "enumerate") [.ref l]) Q E s:=by
 refine callType_new F.called_enumerate (-0) (F.typeCall_enumerate_1 _) (F.newCall_enumerate_1 _) (λobj=>F.args_object_init_2 obj _) F.entry_enumerate_new (X60 l xs) ⟨hl,?_⟩
 have n1:(eT1 s.heap l).objs.size=s.heap.objs.size + 1:=Ë6 ..;have g2:(eT2 s.heap l).get? (eT1 s.heap l).objs.size=some _:=Ë _ rfl;have g1:(eT2 s.heap l).get? s.heap.objs.size=some _:=Ã _ (Ë _ rfl);show _/\_;rw[n1] at g2;rw[n1];exact⟨⟨_,g2,rfl⟩,h _ g2 ⟨_,g1,rfl,rfl⟩ λc o q=>Ã _ (Ã _ q)⟩
theorem r41(hh:A.handled=none){it l:Ç}{xs:Array Ä}(n:l≠it):Draws P w A it [it,l] xs.size (λi x=>xs[i]?=some x) (λi h=>h.IsTupleIter it l i/\h.IsTuple l xs) where
 live:=λi h q=>by obtain⟨⟨o,e,_⟩,_⟩:=q;exact⟨o,e⟩
 frame:=λi h h' q k=>by
  obtain⟨⟨o,e,r⟩,⟨o',e',r'⟩⟩:=q;exact⟨⟨o,k it (by simp) _ e,r⟩,⟨o',k l (by simp) _ e',r'⟩⟩
 item:=λi s Q E hi q k=>p60 q.1 q.2 (x:=xs[i]) (by simp[hi]) λh' h1 h2=>k _ h' s.toks (by simp[hi]) ⟨h1,q.2.extBut h2.extBut n⟩ h2
 done:=λs Q E q k=>l70 hh q.1 q.2 (by simp) λh' e h1 h2=>k h' e h1 h2
end
theorem R21{P:à}{w:ê}{A:ö}(b:Bool)(hh:A.handled=none){it l:Ç}{xs:Array Ä}(n:l≠it):Draws P w A it [it,l] xs.size (λi x=>xs[i]?=some x) (λi h=>Q20 b h it l i/\G41 b h l xs):=match b with
 |true=>Draws.list hh it l n xs|false=>r41 hh n
def Ite(b:Bool)(K:Â)(a:Ç):It :=
 ⟨λi H=>∃ xs x,SqB b K H a xs/\xs[i]?=some x,
  λi H v H'=>∃ T,v=.ref T/\H T=none/\∀ xs x,SqB b K H a xs->xs[i]?=some x->H'=upd H T (.tup [.int i,x]),
  λi H=>∃ xs,SqB b K H a xs/\xs.length=i⟩
theorem r51{P:à}{w:ê}{K:Â}{es:List Ð}{ek:Nat}{ep:Pos}{a e it:Ç}{b:Bool}(h1:e≠it)(h2:a≠e)(h3:a≠it) :
  Turn P w K (.Tuple es ek ep) (Ite b K a) [e,it] e (λi h=>(∃ old,IsEnum h e it i old)/\Q20 b h it a i) where
 mem:=by simp
 obj:=λi h st c hc=>by
  obtain⟨⟨old,he⟩,st⟩:=st;obtain⟨o1,g1,d1,_⟩:=st.obj;simp only[Ã1,À6,or_false] at hc;rcases hc with rfl | rfl
  ·exact⟨_,he,λv e=>by cases e⟩
  ·exact⟨_,g1,d1⟩
 keep:=λi h h' st k=>by
  obtain⟨⟨old,he⟩,st⟩:=st;obtain⟨o1,g1,_,r1⟩:=st.obj;exact⟨⟨old,k e (by simp) _ he⟩,r1 h' (k it (by simp) _ g1)⟩
 item:=by
  intro X hP hw hK hc i pins s σ H E I hf st hg;subst hP hw hK;obtain⟨xs,x,hq,hx⟩:=hg;obtain⟨v1,rv,p1,_,z1⟩:=I.G51 hq;obtain⟨u,hu,ru⟩:=rv.get hx;obtain⟨⟨old,he⟩,hi⟩:=st;have hl:i < v1.toArray.size:=by simpa using (ß.mp hu).1
  refine wpAny_pyNext_enum_itemD (R21 (A:=X.A.in1) b (by exact I.ok.hd hc) h3) he ⟨hi,p1⟩ hl h1 (by simp[h1,h2.symm]) λy g1 tk hy ge gs gT sz kp=>⟨_,rfl,?_⟩
  have hy':v1[i]?=some y:=by simpa using hy
  rw[hu] at hy';cases hy';refine wpAny_letOwnedTupleGo_enum (s:={ s with heap:=g1,toks:=tk + 1 }) ge λg2 ge2 sb=>?_;have hT:H s.heap.objs.size=none:=I.hok.fresh (Î _);have kall:∀ c o,c ∉ [e,it]->s.heap.get? c=some o->g2.get? c=some o:=λc o hc q=>by
   simp only[Ã1,À6,or_false,not_or] at hc;exact sb.extBut _ _ hc.1 (kp c o hc.1 hc.2 q)
  have I2:Inv X pins σ H { s with heap:=g2,toks:=tk + 1 }:=I.J60 (t':=tk + 1) hf kall;have fT:W50 X pins H s.heap.objs.size:=I.m91 (Î _) hT;have gT2:g2.get? s.heap.objs.size=some { cls:=.type "tuple",data:=.seq #[.int i tk,u] }:=sb.extBut _ _ (λq=>À7 _ (by have:=á he;rw[← q] at this;exact this)) gT
  have I3:Inv X pins σ (upd H s.heap.objs.size (.tup [.int i,x])) { s with heap:=g2,toks:=tk + 1 }:=I2.G11 fT I.sz (I2.hok.Q81 hT (its:=[.int i tk,u]) (.cons ⟨_,rfl⟩ (.cons ru .nil)) (by show 2<=Ý;rw[Á4];decide) ⟨_,gT2,rfl,_,rfl⟩)
  refine⟨.ref s.heap.objs.size,_,I3,rfl,⟨_,rfl,hT,λxs' x' e1 e2=>?_⟩,⟨⟨_,ge2⟩,by obtain⟨o,q1,_,q2⟩:=gs.1.obj;exact q2 _ (sb.extBut _ _ h1.symm q1)⟩,λc hc=>?_⟩
  ·rw[z1 _ e1] at e2;rw[hx] at e2;cases e2;rfl
  ·rw[a50]
   ·exact(hf c hc).1
   ·intro q;simp only[Ã1,À6,or_false] at hc;rcases hc with hc | hc
    ·exact À7 _ (by have:=á he;rw[← hc,q] at this;exact this)
    ·obtain⟨o,ho,_⟩:=Q20.obj hi;exact À7 _ (by have:=á ho;rw[← hc,q] at this;exact this)
 done:=by
  intro X hP hw hK hc i pins s σ H E I hf st hg;subst hP hw hK;obtain⟨xs,hq,rfl⟩:=hg;obtain⟨v1,rv,p1,_,z1⟩:=I.G51 hq;obtain⟨⟨old,he⟩,hi⟩:=st;refine wpAny_pyNext_enum_endD (R21 (A:=X.A.in1) (xs:=v1.toArray) b (by exact I.ok.hd hc) h3) he ⟨by rw[show v1.toArray.size=xs.length by simpa using rv.length.symm];exact hi,p1⟩ λg kp=>⟨rfl,I.J60 (t':=s.toks) hf λc o hcn q=>?_⟩
  simp only[Ã1,À6,or_false,not_or] at hcn;exact kp c o hcn.2 q
 self:=λ_ _ _ _ _ st h=>by obtain⟨⟨_,he⟩,_⟩:=st;exact wpAny_pyIter_enum he h
def D42(K:Â)(ta:TA):TI:=λσ H R=>ta σ H λvs H1=>∃ b a,vs=[.ref a]/\(∃ xs,SqB b K H1 a xs)/\R (Ite b K a) H1
theorem k21(hl:G41 b s.heap l xs)
  (h:∀ h',IsEnum h' (s.heap.objs.size + 1) s.heap.objs.size 0 .none->Q20 b h' s.heap.objs.size l 0->(∀ c o,s.heap.get? c=some o->h'.get? c=some o)->Q (.ref (s.heap.objs.size + 1)) { s with heap:=h' }) :
  Ñ (Ö P w) A (call (.type "enumerate") [.ref l]) Q E s:=match b,hl,h with
 |true,hl,h=>call_enumerate_list hl λh' a b _ c=>h h' a b c|false,hl,h=>k01 hl h
theorem r61:ñ "enumerate"=some (.type "enumerate"):=by decide +kernel
theorem Z01{X:Cx}{a:Ð}{es:List Ð}{ek:Nat}{ep:Pos}{ta:TA}{p pos:Pos}(hg:Gl X "enumerate")(hm:X.mg "enumerate"=none)(ha:PA X [a] ta)(hs:À0 [a] X.env=[(false,eval a X.env)]:=by rfl) :
  PI X (.Tuple es ek ep) (.Call (.Name "enumerate" p) [a] [] pos) (D42 X.K ta):=by
 intro pins s σ H R I h;refine Call_ (t10 I hg hm r61 (Á3 (thn (ha pos pins s σ H _ I h) λus s1 ⟨vs,H1,I1,r1,q1⟩=>?_) (by rw[hs];rfl) (by rfl)))
 obtain⟨b,l1,e,⟨xs,hq1⟩,q⟩:=q1;subst e;obtain⟨u,rfl,r⟩:=vals1 r1;cases r;obtain⟨v1,rv1,p1,a1,_⟩:=I1.G51 hq1;refine k21 p1 λh' he h1 kp=>wpAny_pyIter_enum (s:={ s1 with heap:=h' }) he ?_;refine⟨_,[s1.heap.objs.size + 1,s1.heap.objs.size],_,_,H1,rfl,I1.kept (t':=s1.toks) kp,r51 (Nat.succ_ne_self _) (Ü (Å1 a1)) (Ü a1),⟨⟨_,he⟩,h1⟩,λc hc=>?_,q⟩;have hc':s1.heap.objs.size<=c:=by
  simp only[Ã1,À6,or_false] at hc;rcases hc with rfl | rfl
  ·exact É5 _ 1
  ·exact Î _
 exact I1.m91 hc' (I1.hok.fresh hc')
end L2
namespace HT
open PySem PySem.W PyProof.Rows
set_option maxRecDepth 100000
section
variable {P:à}{w:ê}{A:ö}{E:Ä->Æ->Prop}{s:Æ}
theorem K70{a b c:Int}{n:Nat}(hh:A.handled=none)(hr:Õ4 s.heap r a b c t u v)(hs:Ò5 a b c=true)(hn:Ã8 a b c=n)(hl:n<=2 ^ 24)
  (hQ:∀ (h':ë) (tk:Nat) (acc:Array Ä),(∀ b o,s.heap.get? b=some o->h'.get? b=some o)->s.heap.objs.size<=h'.objs.size->ItemsOf (λi v=>∃ t,v=.int (a + i * c) t) acc n->Q acc.toList { s with heap:=h',toks:=tk }):Ñ (Ö P w) A (collect (.ref r)) Q E s:=by
 unfold collect;refine À (Ø1 (Â4 PySem.F.entry_proto_collect ?_));rw[Â8 PySem.F.plain_proto_collect _];show Ñ _ A.in1 (newList [] >>= λl=>again (.builtin "list.__iadd__" ⟨[l,.ref r],[]⟩)) _ _ s;refine À (é (Å ⟨Î3 Ý6 _,Â4 PySem.F.entry_list_iadd ?_⟩));rw[Â8 Ý6 _];show Ñ _ A.in1 (Ä3 (.ref s.heap.objs.size) (.ref r) (.ref s.heap.objs.size)) _ _ { s with heap:=s.heap.push (Ã3 "list" #[] 0) };have hS:(s.heap.push (Ã3 "list" #[] 0)).get? s.heap.objs.size=some { cls:=.type "list",data:=.seq #[] 0 }:=Ë _ rfl;refine Â2 (wpAny_extend_range (A:=A) (s:={ s with heap:=s.heap.push (Ã3 "list" #[] 0) }) (R:=λx s'=>x=.ok (.ret (.ref s.heap.objs.size))/\∃ h' tk acc c',s'={ s with heap:=h',toks:=tk }/\(∀ b o,s.heap.get? b=some o->h'.get? b=some o)/\h'.get? s.heap.objs.size=some { cls:=.type "list",dict:=none,data:=.seq acc c',slots:=#[] }/\ItemsOf (λi v=>∃ t,v=.int (a + i * c) t) acc n) hh (Ã _ hr) hs hn hl _ (.ref s.heap.objs.size) 0 hS λh' tk acc c' hk hS' hi=>⟨rfl,h',tk,acc,c',rfl,λb o e=>hk b o (Ü (á e)) (Ã _ e),hS',hi⟩) (λfin s' h=>?_) λe s' h=>?_
 ·have go:∀ s',(∃ h' tk acc c',s'={ s with heap:=h',toks:=tk }/\(∀ b o,s.heap.get? b=some o->h'.get? b=some o)/\h'.get? s.heap.objs.size=some { cls:=.type "list",dict:=none,data:=.seq acc c',slots:=#[] }/\ItemsOf (λi v=>∃ t,v=.int (a + i * c) t) acc n)->Ñ (Ö P w) A (match Â9 s.heap.objs.size with
   |Â9 a=>do
    match (← load a).data with
     |Data.seq xs _=>pure xs.toList|_=>unsupported "internal:collect"
   |_=>unsupported "internal:collect") Q E s':=λs' ⟨h',tk,acc,c',e,hk,hS',hi⟩=>by
   subst e;show Ñ _ A (load s.heap.objs.size >>= _) _ _ _;exact À (wpAny_load hS' (Å (hQ h' tk acc hk (É2 (á hS')) hi)))
  cases fin with
  |done f =>
   obtain⟨e,h⟩:=h;cases e;exact go _ h
  |again c'=>exact⟨h.1,Æ8 h.2 λx s'' hx=>by obtain⟨rfl,hx⟩:=hx;exact go _ hx⟩
 ·exact absurd h.1 (by simp)
open AutoSeq1 (wpAny_loadPart')
theorem B60{a b c:Int}{n:Nat}(hh:A.handled=none)(hr:Õ4 s.heap r a b c t u v)(hs:Ò5 a b c=true)(hn:Ã8 a b c=n)(hl:n<=200000)
  (hQ:∀ (h':ë) (tk:Nat) (acc:Array Ä),(∀ b o,s.heap.get? b=some o->h'.get? b=some o)->s.heap.objs.size<=h'.objs.size->ItemsOf (λi v=>∃ t,v=.int (a + i * c) t) acc n->Q (.ref h'.objs.size) { s with heap:=h'.push { cls:=.type "tuple",data:=.seq acc },toks:=tk }) :
  Î4 (Ö P w) A (.call (.builtin "tuple.__new__") ⟨[.type "tuple",.ref r],[]⟩) (wants Q E) s:=by
 refine ß6 ?_;show Ñ _ A.in1 (do Ô5 "tuple.__new__" ⟨[.type "tuple",.ref r],[]⟩;again (.builtin "tuple.__new__" ⟨[.type "tuple",.ref r],[]⟩)) _ _ s;refine À (Þ9 (PySem.F.newCall_tuple_1 _) (Å ⟨Î3 Ý5 _,Â4 PySem.F.entry_tuple_new ?_⟩));rw[Â8 Ý5 _];have k1:=sub_tuple_self;have k2:=init_tuple_lookup;have k3:=madeHere_tuple;have k4:s.TypeIs (.ref r) "range":=⟨_,hr,rfl⟩
 wp_walk using Ç6 k4,K70 (n:=n) (show A.in1.handled=none from hh) hr hs hn ∅
 intro h' tk acc hk hz hi;show Ñ _ _ (Æ6 acc.toList.toArray >>= λv=>ret v) _ _ _;unfold Æ6;rw[Ð5];refine À (é (Å (hQ h' tk acc hk hz hi)) (by show acc.size<=_;rw[hi.1,Á4];omega))
theorem tuple_range{a b c:Int}{n:Nat}(hh:A.handled=none)(hr:Õ4 s.heap r a b c t u v)(hs:Ò5 a b c=true)(hn:Ã8 a b c=n)(hl:n<=200000)
  (hQ:∀ (h':ë) (tk:Nat) (acc:Array Ä),(∀ b o,s.heap.get? b=some o->h'.get? b=some o)->s.heap.objs.size<=h'.objs.size->ItemsOf (λi v=>∃ t,v=.int (a + i * c) t) acc n->Q (.ref h'.objs.size) { s with heap:=h'.push { cls:=.type "tuple",data:=.seq acc },toks:=tk }):Ñ (Ö P w) A (call (.type "tuple") [.ref r]) Q E s:=by
 refine callType_codes (Q₁:=λobj s₁=>s₁.TypeIs obj "tuple"/\Q obj s₁) Ó7 (PySem.F.typeCall_tuple_1 _) PySem.F.entry_object_init (B60 hh hr hs hn hl λh' tk acc hk hz hi=>⟨⟨_,Ë _ rfl,rfl⟩,hQ h' tk acc hk hz hi⟩) λobj s₁ h₁=>?_;exact⟨h₁.1,PySem.F.args_object_init_2 obj _,object_init_meets Ó7.init.lookup Ó7.made (-0) P w A.in1 _ s₁ ⟨h₁.1,rfl,h₁.2⟩⟩
end
end HT
namespace L2
open PySem PySem.Spec PyProof.Rows
theorem h20.there(x:h20 P w H h a o):∃ u,h.get? a=some u:=by
 cases o with
 |lst xs=>obtain⟨_,_,_,_,e⟩:=x;exact⟨_,e⟩
 |tup xs=>obtain⟨_,_,_,o,e,_⟩:=x;exact⟨_,e⟩
 |dK kvs=>obtain⟨_,_,_,_,o,_,_,e,_⟩:=x;exact⟨_,e⟩
 |dT kvs=>obtain⟨_,_,_,_,o,_,_,e,_⟩:=x;exact⟨_,e⟩
 |set S n=>obtain⟨o,_,_,_,e,_⟩:=x;exact⟨_,e⟩
 |ins C dx fs=>obtain⟨_,_,_,e,_⟩:=x;exact⟨_,e⟩
 |own y=>obtain⟨_,e⟩:=x;exact⟨_,e⟩
 |xd fs=>obtain⟨_,⟨_,_,_,e,_⟩,_⟩:=x;exact⟨_,e⟩
 |rng lo hi=>obtain⟨_,_,_,e⟩:=x;exact⟨_,e⟩
 |frz ob u=>obtain⟨e,_⟩:=x;exact⟨_,e⟩
 |tbl ps=>exact⟨_,(show h.get? a=some _ from x)⟩|met f y=>exact⟨_,(show h.get? a=some _ from x)⟩|ext φ=>obtain⟨_,⟨_,e⟩,_⟩:=x;exact⟨_,e⟩
def InB(B:ë)(fs:List Ç)(H':Hp)(h h':ë):Prop:=∀ b u,h'.get? b=some u->b ∉ fs->((∃ o,h.get? b=some o)∨H' b≠none)->B.get? b=some u
def CX1(P:à)(w:ê):CXT:=λouter H s E e s'=>∃ (a:Ç) (cls a0:Ä) (H':Hp) (B:ë),e=.ref a/\s'.os=s.os/\Ó5 s'.gens/\Un (frs outer) [] H H' s.heap s'.heap/\HOk P w H' s'.heap /\
 ë.FlyingW B outer a cls a0 s'.heap/\H' a=none/\InB B (frs outer) H' s.heap s'.heap/\E cls (some a) H'
section
variable {X:Cx}{pins:List (Ç × Obj)}{σ:St}{H H':Hp}{s s':Æ}{B h'':ë}{a:Ç}{cls a0:Ä}{E:XK}
theorem X70(hS:X.stack=X.env::X.outer)(hx:X.ex=[])(hf:X.env.frame=some X.env.locals)(I:Inv X pins σ H s)(os:s'.os=s.os)(bare:Ó5 s'.gens)(un:Un (frs X.stack) [] H H' s.heap s'.heap)(hok:HOk X.prog X.w H' s'.heap)
  (bB:InB B (frs X.stack) H' s.heap s'.heap) (na:H' a=none) (fl:ë.FlyingW B X.outer a cls a0 h'') (sm:s'.heap.UpToSlots h'') (he:E cls (some a) H'):CX1 X.prog X.w X.outer X.H₀ X.s₀ E (.ref a) { s' with heap:=h'' }:=by
 have hfs:frs X.stack=X.env.locals::frs X.outer:=by rw[hS];unfold frs;rw[Á5,hf]
 have U1:=I.base;rw[hx] at U1;have U:Un (frs X.stack) [] X.H₀ H' X.s₀.heap s'.heap:=(U1.mono (λb hb=>by rw[hfs];exact Ê _ hb) λb hb=>hb).trans un
 have nL:∀ b o,X.s₀.heap.get? b=some o->b ∉ frs X.outer->b ∉ frs X.stack:=λb o e hn hm=>by
  rw[hfs] at hm;rcases ó.mp hm with z | z
  ·exact absurd (á e) (by rw[z];exact Nat.not_lt.mpr I.ok.above)
  ·exact hn z
 have frN:∀ b∈frs X.stack,H' b=none:=λb hb=>by
  obtain⟨_,o,ho,_⟩:=I.stack.mem hb;exact un.free b o ho (I.v40 b hb) (by simp)
 have old:∀ b o,X.s₀.heap.get? b=some o->b ∉ frs X.outer->∃ u,s'.heap.get? b=some u/\B.get? b=some u:=λb o e hn=>by
  obtain⟨o1,e1⟩:=U1.there b o e (by simp)
  obtain⟨o2,e2⟩:=un.there b o1 e1 (by simp)
  exact⟨o2,e2,bB b o2 e2 (nL b o e hn) (.inl ⟨o1,e1⟩)⟩
 have trk:∀ b,H' b≠none->∃ u,s'.heap.get? b=some u/\B.get? b=some u:=λb hb=>by
  obtain⟨o,e⟩:=Ü3.mp hb;obtain⟨u,eu⟩:=(hok b o e).there;exact⟨u,eu,bB b u eu (λhm=>by rw[frN b hm] at e;cases e) (.inr hb)⟩
 refine⟨a,cls,a0,H',B,rfl,os.trans I.os,bare,⟨λb o e n hb _=>?_,λb o e n hb _=>?_,λb o e n hb=>U.free b o e n hb,λb o e _=>?_,U.tups,U.frzs,U.tbls⟩,λc o e=>?_,fl,na,λb u e hn hor=>?_,he⟩
 ·obtain⟨u,e1,e2⟩:=old b o e hb;have e3:=U.keep b o e n (nL b o e hb) (by simp)
  rw[e1] at e3;cases e3;exact fl.1 b _ e2
 ·obtain⟨sl,e1⟩:=U.slot b o e n (by rw[hfs];exact Ê _ hb) (by simp)
  obtain⟨_,o',ho',hd⟩:=I.ok.i71.mem hb;rw[e] at ho';cases ho';obtain⟨sl',e2⟩:=sm b _ e1 hd;exact⟨sl',e2⟩
 ·by_cases hb:b∈frs X.outer
  ·obtain⟨_,o',ho',_⟩:=fl.2.2.1.mem hb;exact⟨o',ho'⟩
  ·obtain⟨u,_,e2⟩:=old b o e hb;exact⟨u,fl.1 b _ e2⟩
 ·refine(hok c o e).i61 (λb u hb q=>?_) (λ_ q=>q) λ_ _ q=>q;have hbn:H' b≠none:=by
   rcases hb with rfl | hb
   ·rw[e];exact λz=>nomatch z
   ·rw[hb];exact λz=>nomatch z
  obtain⟨u',e1,e2⟩:=trk b hbn;rw[q] at e1;cases e1;exact fl.1 b _ e2
 ·have:∃ u',B.get? b=some u':=by
   rcases hor with ⟨o,ho⟩ | hor
   ·obtain⟨u',_,e2⟩:=old b o ho hn;exact⟨u',e2⟩
   ·obtain⟨u',_,e2⟩:=trk b hor;exact⟨u',e2⟩
  obtain⟨u',e2⟩:=this;have e3:=fl.1 b _ e2;rw[e] at e3;cases e3;exact e2
end
section
variable {P:à}{w:ê}{K:Â}{mg:Str->Option Ä}{base:ë}{N:List Str}{qual:Str}{scope:í}{f:Ç}{cd:Ä}{A:ö}{outer:List Env}{s₀:Æ}{H₀:Hp}{E:XK}
theorem r71(I:Inv (F70 (CX1 P w) P w K mg base N qual scope f cd A outer s₀ H₀ E) pins σ H s)(hx:ë.MadeExcOf s.heap h' e cls vs)(he:E cls (some e) H) :
  (F70 (CX1 P w) P w K mg base N qual scope f cd A outer s₀ H₀ E).xe (.ref e) { s with heap:=h' }:=by
 have hin:∀ env∈(F70 (CX1 P w) P w K mg base N qual scope f cd A outer s₀ H₀ E).stack,∀ a,env.frame=some a->a∈frs (F70 (CX1 P w) P w K mg base N qual scope f cd A outer s₀ H₀ E).stack:=λenv he a ha=>Ö5.mpr ⟨env,he,ha⟩;have kB:(hideAll s.heap (frs (F70 (CX1 P w) P w K mg base N qual scope f cd A outer s₀ H₀ E).stack)).StaysIn s.heap:=λb o q=>of_hideAll _ q;show Ñ _ _ (leaving _ _) _ _ _;refine wpAny_leaves_madeW (base:=hideAll s.heap (frs (F70 (CX1 P w) P w K mg base N qual scope f cd A outer s₀ H₀ E).stack)) (h:=s.heap) I.ok.frames rfl kB (PySem.W.funFrames_hide I.stack hin) hx λh'' t fl _ _ sm=>?_;have na:H e=none:=by
  cases z:H e with
  |none=>rfl|some o=>obtain⟨u,eu⟩:=(I.hok e o z).there;rw[hx.new] at eu;cases eu
 refine X70 (X:=F70 (CX1 P w) P w K mg base N qual scope f cd A outer s₀ H₀ E) (s':={ s with heap:=h' }) rfl rfl rfl I rfl I.bare (Un.kept hx.keeps) (I.hok.kept hx.keeps) (λb u q hn hor=>?_) na fl sm he;have:∃ o,s.heap.get? b=some o:=by
  rcases hor with hor | hor
  ·exact hor
  ·obtain⟨o,z⟩:=Ü3.mp hor;exact(I.hok b o z).there
 obtain⟨o,ho⟩:=this;have:=hx.keeps b o ho;have q':h'.get? b=some u:=q;rw[this] at q';cases q';exact hideAll_get _ ho hn
theorem D52:Passes (CX1 P w) (F70 (CX1 P w) P w K mg base N qual scope f cd A outer s₀ H₀ E) E:=by
 intro pins σ H s e s' I h;obtain⟨a,cls,a0,H',B,rfl,os,bare,un,hok,fl,na,bB,he⟩:=h;show Ñ _ _ (leaving _ _) _ _ _;refine wpAny_leaves_onW I.ok.frames rfl fl λh'' fl' sm=>?_;exact X70 (X:=F70 (CX1 P w) P w K mg base N qual scope f cd A outer s₀ H₀ E) (s':=s') rfl rfl rfl I os bare un hok bB na fl' sm he
end
theorem Z11{K:Â}{h:ë}{C:Ç}{bmB:List Ä}{newId:String}(KX:K.In h)(hq:Ì5 K C bmB newId=true) :
  ∃ bm N nm q bs hdct sn sub ab col dd k0 k1 k2 k3 k5 mN,h.get? C=some (excClassObj nm q C N bs bm hdct sn sub ab col dd k0 k1 k2 k3 k5 newId)/\h.Ns N mN/\mN "__init__"=none/\OwnTail h bmB bm:=by
 unfold Ì5 at hq;split at hq
 case h_2=>cases hq
 case h_1 dd cd sl ho =>
  split at hq
  case h_2=>cases hq
  case h_1 C' bm k0 k1 k2 k3 n k5 hm hs =>
   simp only[Á,beq_iff_eq,ý] at hq;obtain⟨⟨⟨⟨⟨z1,z2⟩,hdel⟩,ht⟩,hok⟩,hni⟩:=hq;subst z1 z2;cases cd with
   |mk nm bs mro ns qn hd sn sub ab col del =>
    dsimp only at hm hdel hok hni;subst hm hdel;have esl:sl=#[k0,k1,k2,k3,some (.builtin n),k5]:=by cases sl with | mk l=>simp only at hs;rw[hs]
    subst esl;refine⟨bm,ns,nm,qn,bs,hd,sn,sub,ab,col,dd,k0,k1,k2,k3,k5,h.nsMap ns,KX _ _ ho,?_,PySem.W.nsMap_none_of_in KX hok hni,PySem.W.tail_of_in KX ht⟩;exact .of_isNs (PySem.W.isNs_of_in KX hok)
def K80(X:Cx)(E:XK):Prop:=∀ (pins:List (Ç × Obj)) (σ:St) (H:Hp) (s:Æ) (h':ë) (e:Ç) (cls:Ä) (vs:List Ä),Inv X pins σ H s->ë.MadeExcOf s.heap h' e cls vs->E cls (some e) H->X.xe (.ref e) { s with heap:=h' }
theorem r81{P:à}{w:ê}{K:Â}{mg:Str->Option Ä}{base:ë}{N:List Str}{qual:Str}{scope:í}{f:Ç}{cd:Ä}{A:ö}{outer:List Env}{s₀:Æ}{H₀:Hp}{E:XK} :
  K80 (F70 (CX1 P w) P w K mg base N qual scope f cd A outer s₀ H₀ E) E:=λ_ _ _ _ _ _ _ _ I hx he=>r71 I hx he
def m62(E:XK)(C:Ç)(t:TA):TS:=λ_ σ H=>t σ H λvs H1=>vs.length<=Ý/\∀ e,H1 e=none->E (.ref C) (some e) H1
section
variable {X:Cx}{x:Str}{C:Ç}{E:XK}{e₀:Ð}{rest:List Ð}{t:TA}{np cpos pos:Pos}
theorem I51(hE:K80 X E)(hc:X.calm=true)(hg:Gl X x)(hm:X.mg x=some (.ref C))(hq:Ì5 X.K C [.type "ValueError",.type "Exception",.type "BaseException",.type "object"] "ValueError.__new__"=true)(ha:PA X (e₀::rest) t)
  (hdb:(x == ("__debug__":Str))=false:=by decide) (he:À0 (e₀::rest) X.env=(false,eval e₀ X.env)::À0 rest X.env:=by rfl) (hpl:(Õ2 cpos (À0 rest X.env)).any (·.1)=false:=by rfl) :
  PS X (.Raise (some (.Call (.Name x np) (e₀::rest) [] cpos)) none pos) (m62 E C t):=by
 intro pins s σ H D I h;obtain⟨bm,N,nm,q,bs,hdct,sn,sub,ab,col,dd,k0,k1,k2,k3,k5,mN,hC,hN,hni,T⟩:=Z11 I.ok.mod.kin hq;refine wpAny_Raise_call_subT (C:=C) (nm:=nm) (q:=q) (N:=N) (bs:=bs) (bm:=bm) (hdct:=hdct) (sn:=sn) (sub:=sub) (ab:=ab) (col:=col) (dd:=dd) (k0:=k0) (k1:=k1) (k2:=k2) (k3:=k3) (k5:=k5)
  Û7 (mN:=mN) (T.hasType Û7.hasBase) (I.ok.hd hc) (by rw[he];exact hpl) hni (A60 I hg hm ⟨rfl,?_⟩ hdb)
 have k:=ha cpos pins s σ H _ I h;rw[he] at k ⊢;refine à6 (thn k λus s2 ⟨vs,H2,I2,r,z,q⟩=>⟨rfl,by show us.length<=_;rw[← r.length];exact z,I2.bk _ _ hC,hN.keeps I2.bk,T.keeps I2.bk,λh' e hx=>?_⟩)
 refine hE pins σ H2 s2 h' e _ us I2 hx (q e ?_);cases z:H2 e with
 |none=>rfl|some o=>obtain⟨u,eu⟩:=(I2.hok e o z).there;rw[hx.new] at eu;cases eu
end
open PySem PySem.Spec PyProof.Rows PySem.W PySem.Builtin PySem.Builtin.ObjectAttr PySem.Builtin.Getset_descriptor
section
variable {prog:à}{w:ê}{A:ö}{E:Ä->Æ->Prop}{K:Â}{h:ë}{gg:Array Ý2}{d:Drawn}{t:Nat}{os:OsState}{x D:Ç}{ox:Obj}
structure i10(K:PySem.W.Frag)(D:Addr):Prop where
 ga:findIn K (.ref D) "__getattribute__"=some (some (.builtin "BaseException.__getattribute__"))
 gh:findIn K (.ref D) "__getattr__"=some none
 mb:mroIn K D (.type "BaseException")=some true
 mo:mroIn K D (.type "object")=some true
 fc:findIn K (.ref D) "__class__"=some (some (.builtin "object.__class__"))
 fg:specialIn K (.builtin "object.__class__") "__get__"=some (some (.builtin "getset_descriptor.__get__"))
 ft:takesIn K (.builtin "object.__class__")=some true
def excAt(a D:Ç)(h:ë):Prop:=∃ ox,h.get? a=some ox/\ox.cls=.ref D
theorem excAt.ty{M:Model}{a D:Ç}{h:ë}(p:excAt a D h):Looks M h (typeOf (.ref a)) (.ref D):=by
 obtain⟨ox,e,c⟩:=p;rw[← c];exact(Looks.ld e).andThen .now
theorem I61{M:Model}(KX:K.In h)(L:i10 K D):Looks M h (find (.ref x) (.ref D) "__class__") (.bind (.builtin "getset_descriptor.__get__") (.builtin "object.__class__")):=by
 have l1:=looks_takesIn (M:=M) KX L.ft;have l2:Looks M h (dataDescriptor? (some (.builtin "object.__class__")) (some (.builtin "getset_descriptor.__get__"))) (some (.builtin "getset_descriptor.__get__",.builtin "object.__class__")):=l1.andThen .now;exact(looks_findIn KX L.fc).andThen ((looks_specialIn KX L.fg).andThen (l2.andThen (Looks.tag .now)))
theorem Z21{R:Result->Æ->Prop}{tp:Ä}(KX:K.In h)(I:excAt x D h)(hm:mroIn K D (.type "object")=some true)(hq:R (.ok (.ret (.ref D))) ⟨h,gg,d,t,os⟩) :
  Î4 (Ö prog w) A (.call (.builtin "getset_descriptor.__get__") ⟨[.builtin "object.__class__",.ref x,tp],[]⟩) R ⟨h,gg,d,t,os⟩:=by
 have L0:=I.ty (M:=Ö prog w);have L1:=looks_mroIn (M:=Ö prog w) KX hm
 (refine Ø6 KF.slot_gs.plain KF.entry_gs (KF.slot_gs.check _ _ _ _ _ _ _ _ KF.type_class (KF.args_gs _ _ _) ?_);unfold À3.«getset_descriptor.__get__» descrGet;rw[dga_obj];refine À (Å ?_);unfold descrGetter descrCheckInstance descrNameAndClass isInstance;simp only[KF.owner_class];repeat lk)
 (refine⟨Ö7 _ (by decide +kernel),Â4 KF.entry_class ?_⟩;unfold À3.«object.__class__» shownTypeOf;repeat lk)
 exact hq
theorem r91{M:Model}{nameV:Ä}{Q:Unit->Æ->Prop}(KX:K.In h)(I:excAt x D h)(L:i10 K D)(hq:Q () ⟨h,gg,d,t,os⟩) :
  Ñ M A (Ô5 "BaseException.__getattribute__" ⟨[.ref x,nameV],[]⟩) Q E ⟨h,gg,d,t,os⟩:=by
 have hkd:builtinKind "BaseException.__getattribute__"=some .slot:=by decide +kernel
 have hsp:splitId "BaseException.__getattribute__"=some ("BaseException","__getattribute__"):=by decide +kernel
 have L0:=I.ty (M:=M);have L1:=looks_mroIn (M:=M) KX L.mb;have ha:=F.args_bexc_ga (.ref x) nameV;simp only[Ô5,hkd,hsp];unfold isInstance;refine À (À (L0.at (L1.at ?_)))
 repeat (first | assumption | wp_step)
theorem s01(KX:K.In h)(I:excAt x D h)(L:i10 K D)(hq:Q (.done (.ret (.ref D))) ⟨h,gg,d,t,os⟩) :
  Ñ (Ö prog w) A (À3.«object.__getattribute__» ⟨[.ref x,.str "__class__" tk],[]⟩) Q E ⟨h,gg,d,t,os⟩:=by
 have L0:=I.ty (M:=Ö prog w);have L1:=I61 (M:=Ö prog w) (x:=x) KX L
 (unfold À3.«object.__getattribute__»);refine À (Å (À (Å (À (L0.at (À (L1.at ?_)))))))
 show Ñ _ _ (Ù2 [Ñ2 "object.__class__"] (call (.builtin "getset_descriptor.__get__") [.builtin "object.__class__",.ref x,.ref D]) >>= _) _ _ _;refine À (Á0 (Ñ6 (Z21 KX I L.mo ?_)));exact Å hq
theorem I71{tk:Tok}{R:Result->Æ->Prop}(KX:K.In h)(I:excAt x D h)(L:i10 K D)(hq:R (.ok (.ret (.ref D))) ⟨h,gg,d,t,os⟩) :
  Î4 (Ö prog w) A (.call (.builtin "BaseException.__getattribute__") ⟨[.ref x,.str "__class__" tk],[]⟩) R ⟨h,gg,d,t,os⟩ :=
 Ø6 F.attr_ValueError.ga.plain F.entry_bexc_ga (r91 KX I L (s01 KX I L hq))
theorem m72{fill expr:Bool}(KX:K.In h)(I:excAt x D h)(L:i10 K D)(hq:Q (.ref D) ⟨h,gg,d,t,os⟩) :
  Ñ (Ö prog w) A (getAttrBy (.ref x) (.str "__class__" tk) fill expr) Q E ⟨h,gg,d,t,os⟩:=by
 have L0:=I.ty (M:=Ö prog w);have L1:=looks_findIn (M:=Ö prog w) KX L.ga;have L2:=looks_findIn (M:=Ö prog w) KX L.gh;have f3:=F.attr_ValueError.ga.bind (.ref x);have hno:(expr&&onTheHeap (Ñ2 "BaseException.__getattribute__"))=false:=by cases expr <;> rfl
 unfold getAttrBy
 (refine Á0 (À (L0.at (À (L1.at ?_)))));
 show Ñ _ _ (getAttrByItsOwn _ _ _ _ _ _) _ _ _;unfold getAttrByItsOwn hookBefore;rw[if_pos (show onTheHeap (Â9 D)=true from rfl)];refine À (L2.at ?_);unfold callGetattribute;rw[hno,if_neg (-0)]
 unfold boundAndCalled
 (refine À (Ë5 (Á0 ?_)))
 repeat (any_goals (first | assumption | (with_reducible refine Ñ6 (I71 KX I L ?_)) | wp_step))
theorem I81(KX:K.In s.heap)(I:excAt x D s.heap)(L:i10 K D)(hq:Q (some (.ref D)) { s with toks:=s.toks + 1 }):Ñ (Ö prog w) A (getAttr? (.ref x) "__class__") Q E s:=by
 obtain⟨h,gg,d,t,os⟩:=s;unfold getAttr? getAttrBy?;refine À (wpAny_mkText (À (Ë5 (m72 KX I L ?_))));exact Å hq
theorem I91(L:i10 K D)(hd:hasDictIn K D=true):KitX K (.ref x) (.ref D) (excAt x D) where
 ty:=λ_ _ _ I=>I.ty
 it:=λM h KX _=>by
  obtain⟨cdD,hcD,_⟩:=any_some hd;unfold clsIn at hcD;split at hcD
  case h_2=>cases hcD
  case h_1 ho =>
   intro A' Q' E' s' k q;unfold isType loadHead;exact À (wpAny_loadPart (k _ _ (KX _ _ ho)) (Å q))
 ne:=λh tp dd its n sl KX htp=>by
  obtain⟨cdD,hcD,_⟩:=any_some hd;refine Bool.eq_false_iff.mpr λsame=>?_;cases Â9.inj (beq_iff_eq.mp same);unfold clsIn at hcD;split at hcD
  case h_2=>cases hcD
  case h_1 ho=>cases (KX _ _ ho).symm.trans htp
 ca:=λKX I k=>I81 KX I L k
end
def m82(H:Hp)(a D:Ç):Prop:=H a=some (.ext (excAt a D))
theorem k31{a D:Ç}{h1 h2:ë}(h:excAt a D h1)(k:∀ o,h1.get? a=some o->h2.get? a=some o):excAt a D h2:=by
 obtain⟨ox,e,c⟩:=h;exact⟨ox,k _ e,c⟩
section
variable {X:Cx}
theorem k41:g70 X (.builtin "isinstance") (λxs H Q=>∃ (a D:Ç) (c:V) (cv:Ä) (b:Bool),xs=[.ref a,c]/\((∃ C,c=.ref C/\cv=.ref C)∨∃ T,c=.ty T/\cv=.type T)/\m82 H a D/\i10 X.K D/\hasDictIn X.K D=true/\kitOne X.K (.ref D) cv=some b/\Q (.bl b) H):=by
 intro pins s σ H xs us Q I r h;obtain⟨a,D,c,cv,b,rfl,hc,hx,L,hd,e,q⟩:=h;obtain⟨u,w',rfl,rx,rt⟩:=vals2 r;cases (show u=Â9 a from rx);obtain⟨hp,_,_⟩:=(show h20 X.prog X.w H s.heap a (.ext (excAt a D)) from I.hok a _ hx);have fin:∀ tk,EP X pins σ Q (.bool b) { s with toks:=tk }:=λtk=>⟨.bl b,H,I.tok tk,rfl,q⟩;have ew:w'=cv:=by
  rcases hc with ⟨C,rfl,rfl⟩ | ⟨T,rfl,rfl⟩
  ·exact rt
  ·exact rt
 subst ew;exact kia_one (I91 L hd) I.kIn hp e (λz=>by rcases hc with ⟨C,_,rfl⟩ | ⟨T,_,rfl⟩ <;> exact nomatch z) fin
end
end L2
namespace L2
open PySem PySem.Spec PyProof.Rows
section
variable {X:Cx}{pins:List (Ç × Obj)}{σ:St}{H H':Hp}{s s':Æ}{B h4:ë}
theorem R31(I:Inv X pins σ H s)(os:s'.os=s.os)(bare:Ó5 s'.gens)(un:Un (frs X.stack) [] H H' s.heap s'.heap)(hok:HOk X.prog X.w H' s'.heap)(bB:InB B (frs X.stack) H' s.heap s'.heap)(kB:B.StaysIn h4)(sm:s'.heap.UpToSlots h4) :
  Inv X pins σ H' { s' with heap:=h4 }:=by
 have frN:∀ b∈frs X.stack,H' b=none:=λb hb=>by
  obtain⟨_,o,ho,_⟩:=I.stack.mem hb;exact un.free b o ho (I.v40 b hb) (by simp)
 have fr4:∀ b o,s.heap.get? b=some o->b∈frs X.stack->∃ sl,h4.get? b=some { o with slots:=sl }:=λb o e hb=>by
  obtain⟨sl,e1⟩:=un.slot b o e (I.v40 b hb) hb (by simp)
  obtain⟨_,o',ho',hd⟩:=I.stack.mem hb;rw[e] at ho';cases ho';obtain⟨sl',e2⟩:=sm b _ e1 hd;exact⟨sl',e2⟩
 have old:∀ b o,s.heap.get? b=some o->b ∉ frs X.stack->∃ u,s'.heap.get? b=some u/\h4.get? b=some u:=λb o e hn=>by
  obtain⟨o2,e2⟩:=un.there b o e (by simp)
  exact⟨o2,e2,kB b _ (bB b o2 e2 hn (.inl ⟨o,e⟩))⟩
 refine I.j02 (s':={ s' with heap:=h4 }) (ch:=[]) os ⟨λb o e n hb _=>?_,λb o e n hb _=>fr4 b o e hb,un.free,λb o e _=>?_,un.tups,un.frzs,un.tbls⟩ (λc o e=>?_) bare λb hb=>absurd hb (by simp)
 ·obtain⟨u,e1,e2⟩:=old b o e hb;have e3:=un.keep b o e n hb (by simp)
  rw[e1] at e3;cases e3;exact e2
 ·by_cases hb:b∈frs X.stack
  ·obtain⟨sl,e1⟩:=fr4 b o e hb;exact⟨_,e1⟩
  ·obtain⟨u,_,e2⟩:=old b o e hb;exact⟨u,e2⟩
 ·refine(hok c o e).i61 (λb u hb q=>?_) (λ_ q=>q) λ_ _ q=>q;have hbn:H' b≠none:=by
   rcases hb with rfl | hb
   ·rw[e];exact λz=>nomatch z
   ·rw[hb];exact λz=>nomatch z
  exact kB b _ (bB b u q (λhm=>hbn (frN b hm)) (.inr hbn))
theorem Inv.s11(I:Inv X pins σ H s)(hl:∀ (i:Nat) (x:Str) (v:V),X.N[i]?=some x->σ[i]?=some (some v)->Vis X.env.scope x->∃ u,RelV v u/\Look X.env s.heap m x u)
  (hn':h'.Ns X.env.locals m') (hs:Ì2 X.env.locals s.heap h') (hm:∀ (i:Nat) (x:Str),X.N[i]?=some x->m' x=m x):Inv X pins σ H { s with heap:=h',toks:=t' }:=by
 have oth:∀ b o,b≠X.env.locals->s.heap.get? b=some o->h'.get? b=some o:=λb o hb e=>(hs.2 b hb).trans e;have neL:∀ b o,X.s₀.heap.get? b=some o->b≠X.env.locals:=λb o e=>Ü (Õ (á e) I.ok.above);have cel:∀ x c v,X.env.cells.lookup x=some c->s.heap.IsCell c v->h'.IsCell c v:=λx c v e ⟨o,ho,hd⟩=>⟨o,oth c o (I.cne x c e) ho,hd⟩;refine⟨I.ok,I.os,I.bare,⟨λb o e n hb hx=>oth b o (neL b o e) (I.base.keep b o e n hb hx),λb o e n hb hx=>?_,I.base.free,λb o e hx=>?_,I.base.tups,I.base.frzs,I.base.tbls⟩,⟨m',hn',λi x v e1 e2 e3=>?_⟩,λx c e=>?_,I.free,I.freeC,λp hp=>?_,λc o e=>?_,I.len⟩
 ·obtain⟨sl,e1⟩:=I.base.slot b o e n hb hx;exact⟨sl,oth b _ (neL b o e) e1⟩
 ·obtain⟨o',e1⟩:=I.base.there b o e hx;exact⟨o',oth b _ (neL b o e) e1⟩
 ·obtain⟨u,r,l⟩:=hl i x v e1 e2 e3;refine⟨u,r,?_⟩;rcases l with ⟨k,z⟩ | ⟨k,c,ec,z⟩
  ·exact .inl ⟨k,(hm i x e1).trans z⟩
  ·exact .inr ⟨k,c,ec,cel x c _ ec z⟩
 ·obtain⟨v,z⟩:=I.cell x c e;exact⟨v,cel x c v e z⟩
 ·obtain⟨e,n,ne,nf,d⟩:=I.pin p hp;exact⟨oth _ _ ne e,n,ne,nf,d⟩
 ·refine(I.hok c o e).i61 (λb u hb q=>oth b u (λz=>?_) q) (λ_ q=>q) λ_ _ q=>q;rcases hb with rfl | hb
  ·rw[z,I.free] at e;cases e
  ·rw[z,I.free] at hb;cases hb
theorem Inv.R41{T:Ç}{o:HO}(I:Inv X pins σ H s)(nT:H T=none)(n0:X.s₀.heap.get? T=none)(hL:T≠X.env.locals)(hc:∀ x c,X.env.cells.lookup x=some c->c≠T)(hp:∀ p∈X.pn++pins,p.1≠T)(new:h20 X.prog X.w (upd H T o) s.heap T o) :
  Inv X pins σ (upd H T o) s:=by
 have u:=I.base;refine⟨I.ok,I.os,I.bare,⟨u.keep,u.slot,λb ob e n hx=>?_,u.there,λb xs e=>?_,λb ob xs e=>?_,λb ps e=>?_⟩,I.loc,I.cell,?_,λx c e=>?_,λp hpp=>?_,λc v e=>?_,I.len⟩
 ·rw[a50 (λz=>by rw[z,n0] at e;cases e)];exact u.free b ob e n hx
 ·have z:=u.tups b xs e;rw[a50 (a90 z nT)];exact z
 ·have z:=u.frzs b ob xs e;rw[a50 (a90 z nT)];exact z
 ·obtain⟨more,z⟩:=u.tbls b ps e;exact⟨more,by rw[a50 (a90 z nT)];exact z⟩
 ·rw[a50 hL.symm];exact I.free
 ·rw[a50 (hc x c e)];exact I.freeC x c e
 ·obtain⟨e,n,r⟩:=I.pin p hpp;exact⟨e,by rw[a50 (hp p hpp)];exact n,r⟩
 ·by_cases hcT:c=T
  ·subst hcT;rw[b00] at e;cases e;exact new
  ·rw[a50 hcT] at e;exact(I.hok c v e).i61 (λ_ _ _ q=>q) (λb q=>by rw[a50 (a90 q nT)];exact q) λb xs q=>by rw[a50 (a90 q nT)];exact q
end
structure Q60(P:Program)(w:World)(K:PySem.W.Frag)(mg:Str->Option Value)(base:Heap)(CX:CXT)(k:Nat)(f:Addr)(fd:FuncData)(ps:List Str)(sp:Shared->Sp):Prop where
 len:∀ s vs H Q E,sp s vs H Q E->vs.length=ps.length
 run:∀ (A:Around) (outer:List Env) (s:Shared) (H:Hp) (args:Args) (us:List Value) (vs:List V) (Q:VK) (E:XK),v50 k A->W31 P w K mg base A outer s H->BindsTo s fd args (ps.zip us)->Vals vs us->sp s vs H Q E ->
  codeAny (model P w) A (.call (.ref f) args) (CR CX outer P w H s Q E) s
theorem m92{CX:CXT}{P:à}{w:ê}{K:Â}{mg:Str->Option Ä}{base:ë}{k:Nat}{f:Ç}{name qual:Str}{params:È6}{body:List Â3}{scope:í}{dV kV doc pm cdv ct oc:Ä}{an od:Option Ç}
  {osl:Array (Option Ä)}{N ps:List Str}{sp:Æ->Sp} (lk:K.lookup f=some ⟨oc,od,.func (fnOf name qual params body scope dV kV doc pm an cdv ct),osl⟩) (hcd:PySem.W.codeIn K cdv qual=true) (S:k30 N ps scope)
  (len:∀ s vs H Q E,sp s vs H Q E->vs.length=ps.length)
  (hbody:∀ (A:ö) (outer:List Env) (s:Æ) (H:Hp) (vs:List V) (Q:VK) (E:XK),v50 k (A.deeper (Ï8 qual scope s.heap.objs.size f cdv))->sp s vs H Q E ->
   ∃ t,PSs (F70 CX P w K mg base N qual scope f cdv A outer s H E) body t/\t { nx:=λ_ H'=>Q .non H',rt:=Q } (start N vs) H) :
  Q60 P w K mg base CX (k + 1) f (fnOf name qual params body scope dV kV doc pm an cdv ct) ps sp:=by
 refine⟨len,λA outer s H args us vs Q E hr e0 hb r hsp=>?_⟩;have hl:=len _ _ _ _ _ hsp;have KX:K.In s.heap:=e0.mod.kin.keeps λb o e=>(e0.bs b o e).1;have lim:s.heap.NoLimit:=e0.mod.nolimit.keeps λb o e=>(e0.bs b o e).1;have hkind:∀ y∈ps.zip us,scope.names.lookup y.1=some .local∨(scope.names.lookup y.1=some .cell/\((cellsFrom (s.heap.objs.size + 1) scope.names []).lookup y.1).isSome=true):=λ⟨n,v⟩ hy=>by
  rcases S.par n (of_mem_zip hy).1 with q | q
  ·exact .inl q
  ·exact .inr ⟨q,cellsFrom_some _ _ _ (.inl q)⟩
 refine codeAny_call_function hr.depth (KX _ _ lk) rfl S.co S.gen rfl (codeRec_of KX hcd) (hb _ _ _ _ ?_);refine à0 S.kind hkind λenv he s1 x=>?_;subst he;refine⟨lim.keeps x.toInCall.keep,codeAny_func ?_⟩;obtain⟨t,ht,hq⟩:=hbody A outer s H vs Q E (hr.deeper _) hsp;have I:Inv (F70 CX P w K mg base N qual scope f cdv A outer s H E) [] (start N vs) H s1:=P40 S hr.hd e0 hl r x;refine Â2 (ht [] s1 (start N vs) H _ I hq) (λfl s' hs=>?_) λe s' hs=>hs;have fin:∀ {σ':St}{H':Hp}{v:V}{u:Ä},Inv (F70 CX P w K mg base N qual scope f cdv A outer s H E) [] σ' H' s'->RelV v u->Q v H'->CE outer P w H s Q u s' :=
  λ{σ' H' v u} J rv q=>⟨v,H',J.os,J.bare,J.base,J.hok,rv,q⟩
 cases fl with
 |ret u =>
  obtain⟨v,σ',H',J,rv,q⟩:=hs;exact fin J rv q
 |next =>
  obtain⟨σ',H',J,q⟩:=hs;exact fin (v:=V.non) (u:=å) J rfl q
 |brk =>
  obtain⟨_,_,_,q⟩:=hs;exact ü q
 |cont =>
  obtain⟨_,_,_,q⟩:=hs;exact ü q
theorem Fun.okS{P:à}{w:ê}{K:Â}{mg:Str->Option Ä}{base:ë}{x qual:Str}{st:Â3}{f:Ç}{fd:Â5}{N ps:List Str}{k:Nat}{sp:Æ->Sp}(F:Fun K x qual st f fd)(S:k30 N ps (c20 st))(len:∀ s vs H Q E,sp s vs H Q E->vs.length=ps.length)
  (hb:∀ (cdv:Ä) (A:ö) (outer:List Env) (s:Æ) (H:Hp) (vs:List V) (Q:VK) (E:XK),v50 k (A.deeper (Ï8 qual (c20 st) s.heap.objs.size f cdv))->sp s vs H Q E ->
   ∃ t,PSs (F70 CX0 P w K mg base N qual (c20 st) f cdv A outer s H E).nox (i00 st) t/\t { nx:=λ_ H'=>Q .non H',rt:=Q } (start N vs) H):Q60 P w K mg base CX0 (k + 1) f fd ps sp:=by
 obtain⟨oc,od,kV,doc,pm,an,cdv,ct,osl,rfl,lk,hcd⟩:=F.ex;refine m92 lk hcd S len λA outer s H vs Q E hr hsp=>?_;obtain⟨t,h,q⟩:=hb cdv A outer s H vs Q E hr hsp;exact⟨t,h.nox,q⟩
def K90(P:à)(w:ê)(K:Â)(mg:Str->Option Ä)(base:ë)(N:List Str)(qual:Str)(scope:í)(f:Ç)(cd:Ä)(cl:List (Str × Ç))(A:ö)(outer:List Env)(s:Æ)(H:Hp)(E:XK):Cx where
 prog:=P
 w:=w
 K:=K
 mg:=mg
 base:=base
 A:=A.deeper (envX qual scope s.heap.objs.size f cd cl)
 N:=N
 s₀:=s
 H₀:=H
 env:=envX qual scope s.heap.objs.size f cd cl
 outer:=outer
 stack:=envX qual scope s.heap.objs.size f cd cl::outer
 ex:=[]
 calm:=true
 fn:=λ_=>false
 pn:=[]
 xe:=λe s'=>Ñ (Ö P w) (A.deeper (envX qual scope s.heap.objs.size f cd cl)) (leaving (envX qual scope s.heap.objs.size f cd cl) e) (λ_ s''=>CX1 P w outer H s E e s'') (λe' s''=>CX1 P w outer H s E e' s'') s'
section
variable {P:à}{w:ê}{K:Â}{mg:Str->Option Ä}{base:ë}{N:List Str}{qual:Str}{scope:í}{f:Ç}{cd:Ä}{cl:List (Str × Ç)}{A:ö}{outer:List Env}{s₀:Æ}{H₀:Hp}{E:XK}
theorem Z31:Passes (CX1 P w) (K90 P w K mg base N qual scope f cd cl A outer s₀ H₀ E) E:=by
 intro pins σ H s e s' I h;obtain⟨a,cls,a0,H',B,rfl,os,bare,un,hok,fl,na,bB,he⟩:=h;show Ñ _ _ (leaving _ _) _ _ _;refine wpAny_leaves_onW I.ok.frames rfl fl λh'' fl' sm=>?_;exact X70 (X:=K90 P w K mg base N qual scope f cd cl A outer s₀ H₀ E) (s':=s') rfl rfl rfl I os bare un hok bB na fl' sm he
structure B70(scope:Scope)(cl:List (Str × Addr))(N:List Str)(vs:List V)(H:Hp)(h:Heap):Prop where
 inj:∀ x y c,cl.lookup x=some c->cl.lookup y=some c->x=y
 has:∀ x,(scope.names.lookup x=some .cell∨scope.names.lookup x=some .free)->∃ c,cl.lookup x=some c
 cell:∀ x c,cl.lookup x=some c->∃ v,h.IsCell c v
 free:∀ x c,cl.lookup x=some c->H c=none
 val:∀ (i:Nat) (x:Str) (v:V),N[i]?=some x->vs[i]?=some v->scope.names.lookup x=some .free/\∃ c u,cl.lookup x=some c/\RelV v u/\h.IsCell c (some u)
 len:vs.length=N.length
theorem Z41(e0:W31 P w K mg base A outer s₀ H₀)(hd:A.handled=none)(hk:scope.kind=.function)(FR:B70 scope cl N vs H₀ s₀.heap)(hns:h₁.Ns s₀.heap.objs.size λ_=>none)
  (hkp:∀ b o,s₀.heap.get? b=some o->h₁.get? b=some o) :
  Inv (K90 P w K mg base N qual scope f cd cl A outer s₀ H₀ E) [] (vs.map some) H₀ { s₀ with heap:=h₁,toks:=t }:=by
 have noA:∀ b:Ç,b ∉ (K90 P w K mg base N qual scope f cd cl A outer s₀ H₀ E).ex:=λb z=>absurd (show b∈([]:List Ç) from z) (by simp)
 have cel:∀ c v,s₀.heap.IsCell c v->h₁.IsCell c v:=λc v ⟨o,ho,hd⟩=>⟨o,hkp c o ho,hd⟩;refine⟨⟨e0.mod,hk,rfl,rfl,Î _,FR.inj,FR.has,(λ_ _ z=>nomatch z),(λ_=>hd),ß9 e0.frames,.inr ⟨rfl,rfl⟩,λb z=>absurd z (noA b),e0.bs,e0.bsz,λb _ _=>noA b,λb z=>absurd z (noA b),e0.i71,e0.frf⟩,
  rfl,e0.bare,Un.kept hkp,⟨_,hns,λi x v h1 h2 h3=>?_⟩,λx c h=>?_,e0.hok.fresh (Î _),FR.free,λp hp=>absurd (show p∈([]:List (Ç × Obj)) from hp) (by simp),e0.hok.kept hkp,?_⟩
 ·have hv:vs[i]?=some v:=by
   rw[Ø] at h2;cases e:vs[i]? with
   |none=>rw[e] at h2;cases h2
   |some a=>rw[e] at h2;cases h2;rfl
  obtain⟨k,c,u,ec,r,z⟩:=FR.val i x v h1 hv;exact⟨u,r,.inr ⟨.inr k,c,ec,cel c _ z⟩⟩
 ·obtain⟨v,z⟩:=FR.cell x c h;exact⟨v,cel c v z⟩
 ·rw[È];exact FR.len
end
def recAt(c:Ç)(qual:Str):ë->Prop:=λh=>h.CodeRec (.ref c) qual
theorem G80{c:Ç}{qual:Str}{h1 h2:ë}(h:recAt c qual h1)(k:∀ o,h1.get? c=some o->h2.get? c=some o):recAt c qual h2:=by
 obtain⟨c',oc,vs,tq,e,ho,hd,hq⟩:=h;cases e;exact⟨c,oc,vs,tq,rfl,k _ ho,hd,hq⟩
section
variable {P:à}{w:ê}{K:Â}{mg:Str->Option Ä}{base:ë}{N:List Str}{qual:Str}{scope:í}{f c':Ç}{cl:List (Str × Ç)}{s₀:Æ}{H₀:Hp}{k:Nat}{pm ctv cls:Ä}{params:È6}{body:Ð}{vs:List V}
theorem B70.later{outer:List Env}{H:Hp}{s:Æ}(FR:B70 scope cl N vs H₀ s₀.heap)(un:Un (frs outer) [] H₀ H s₀.heap s.heap):B70 scope cl N vs H s.heap:=by
 have cel:∀ x c v,cl.lookup x=some c->s₀.heap.IsCell c v->s.heap.IsCell c v:=λx c v e ⟨o,ho,hd⟩=>by
  obtain⟨sl,e1⟩:=un.any ho (FR.free x c e) (by simp)
  exact⟨_,e1,hd⟩
 refine⟨FR.inj,FR.has,λx c e=>?_,λx c e=>?_,λi x v h1 h2=>?_,FR.len⟩
 ·obtain⟨v,z⟩:=FR.cell x c e;exact⟨v,cel x c v e z⟩
 ·obtain⟨v,o,ho,_⟩:=FR.cell x c e;exact un.free c o ho (FR.free x c e) (by simp)
 ·obtain⟨k,c,u,ec,r,z⟩:=FR.val i x v h1 h2;exact⟨k,c,u,ec,r,cel x c _ ec z⟩
end
def Tab(H:Hp)(P:Ç)(qual:Str):Prop:=∃ ps:Array Ä,H P=some (.tbl ps)/\Þ6 ps.toList/\∀ pos c,Ù3 pos ps.toList=some c->∃ c',c=.ref c'/\H c'=some (.ext (recAt c' qual))
theorem k51{line col:Int}{pos':Pos}{c c2:Ä}(tl:List Ä)(h:Þ6 tl)(e:Ù3 pos' (tl++[Ã6 line,Ã6 col,c])=some c2):c2=c∨Ù3 pos' tl=some c2:=by
 fun_induction Þ6 tl with
 |case1 =>
  simp only[Í1,Ù3,Ã6] at e;split at e
  ·cases e;exact .inl rfl
  ·cases e
 |case2 a t b u x rest ih =>
  simp only[List.cons_append,Ù3] at e ⊢;split at e
  ·rename_i hc;rw[if_pos hc];exact .inr e
  ·rename_i hc;rw[if_neg hc];exact ih h e
 |case3 tl h1 h2=>exact h.elim
theorem J01(hf:∀ y∈lsc.names,y.2=.free->∃ c,env.cells.lookup y.1=some c):∃ cl,closureFor lsc env=pure cl/\(∀ x c,cl.lookup x=some c->env.cells.lookup x=some c)/\∀ y∈lsc.names,y.2=.free->∃ c,cl.lookup y.1=some c:=by
 obtain⟨cl,e,h1,_,h3⟩:=J40 env lsc.names [] hf (λx c z=>by simp at z)
 refine⟨cl,?_,h1,h3⟩;unfold closureFor
 first
  |(rw[show(forIn lsc.names ([]:List (Str × Ç)) _:Sem _)=_ from e];rfl)
  |(simp only[bind_pure];exact e)
structure B80(P:Addr)(H H':Hp):Prop where
 same:∀ b o,b≠P->H b=some o->H' b=some o
section
variable {X:Cx}{pins:List (Ç × Obj)}{σ:St}{H:Hp}{s:Æ}{c P:Ç}{qual:Str}{params:È6}{body:Ð}{lsc:í}{lpos:Pos}{A:ö}{Q:Ä->Æ->Prop}{E:Ä->Æ->Prop}
theorem d51(I:Inv X pins σ H s)(hdef:defaultsOf params X.env=([],[]))(hcode:X.env.code=.ref c)(hhd:Ã7 X.K c P=true)(TB:Tab H P qual)(hqu:X.env.qual++"<lambda>"=qual)
  (hbm:∃ bm ob,X.mg "__builtins__"=some (.ref bm)/\bm≠Ê0/\X.base.get? bm=some ob/\ob.cls=.type "module"/\ob.dict=some Ê0/\ob.data=.plain)
  (hfr:∀ y∈lsc.names,y.2=.free->∃ c,X.env.cells.lookup y.1=some c)
  (k:∀ (cl:List (Str × Ç)) (f c':Ç) (pm ctv:Ä) (h2:ë) (tk:Tok) (H2:Hp),(∀ x c,cl.lookup x=some c->X.env.cells.lookup x=some c)->(∀ y∈lsc.names,y.2=.free->∃ c,cl.lookup y.1=some c) ->
   Inv X pins σ H2 { s with heap:=h2,toks:=tk }->Tab H2 P qual->B80 P H H2->(∃ o,h2.get? f=some o/\o.data=.func (kla_fn "<lambda>" qual params body lsc cl pm (.ref c') ctv))->H2 f=none->H2 c'=some (.ext (recAt c' qual))->s.heap.objs.size<=f ->
   Q (.ref f) { s with heap:=h2,toks:=tk }):Ñ (Ö X.prog X.w) A (eval (.Lambda params body lsc lpos) X.env) Q E s:=by
 refine PySem.W.kla_eval hdef ?_;rw[hqu];obtain⟨cl,ecl,cl1,cl2⟩:=J01 hfr;obtain⟨ps,hP,ht,hall⟩:=TB;have hPt:s.heap.get? P=some (È2 ps):=I.hok P _ hP;have hg:=I.mod.glob.keeps I.bk;have bsN:∀ b o,X.base.get? b=some o->b≠P:=λb o e z=>by have:=(I.bs b o e).2;rw[z,hP] at this;cases this
 have hgP:æ≠P:=by obtain⟨o,_,_,e,_⟩:=I.mod.glob;exact bsN _ o e
 obtain⟨bm,ob,b1,b2,b3,b4,b5,b6⟩:=hbm;have hbGl:bm≠mainGlobals:=λq=>by
  obtain⟨o,es,ep,e,hd,_⟩:=I.mod.glob;rw[q,e] at b3;(cases b3;rw[hd] at b6;cases b6)
 have BA:s.heap.BuiltinsAt X.mg P:=⟨bm,ob,b1,b2,hbGl,bsN _ _ b3,I.bk _ _ b3,b4,b5,b6⟩;have CH:=codeHd_of_K I.kIn hhd;cases hca:Ù3 lpos ps.toList with
 |some cv =>
  obtain⟨c',rfl,hc'⟩:=hall lpos cv hca;refine PySem.W.kla_makeFunctionHit ecl I.ok.glob hg hcode CH hPt ht hca BA λctv h' tk hk hsz=>?_;have kp:∀ b o,s.heap.get? b=some o->(h'.push { cls:=.type "function",data:=.func (kla_fn "<lambda>" qual params body lsc cl ((X.mg "__name__").getD .none) (.ref c') ctv) }).get? b=some o:=λb o e=>Ã _ (hk b o e);have nf:H h'.objs.size=none:=I.hok.fresh hsz;exact k cl h'.objs.size c' _ ctv _ tk H cl1 cl2 (I.kept (t':=tk) kp) ⟨ps,hP,ht,hall⟩ ⟨λ_ _ _ e=>e⟩ ⟨_,Ë _ rfl,rfl⟩ nf hc' hsz
 |none =>
  refine PySem.W.kla_makeFunction ecl I.ok.glob hg hcode CH hPt ht hca hgP BA λc' ctv h' tk hx hge hlt hrec htb=>?_;have lP:P < s.heap.objs.size:=á hPt;have cP:c'≠P:=Ê7 (Õ lP hge);have nC:H c'=none:=I.hok.fresh hge;have kp:∀ b o,b≠P->s.heap.get? b=some o->(h'.push (kla_obj "<lambda>" qual params body lsc cl ((X.mg "__name__").getD .none) c' ctv)).get? b=some o:=λb o hb e=>Ã _ (hx b o hb e);have tb:(h'.push (kla_obj "<lambda>" qual params body lsc cl ((X.mg "__name__").getD .none) c' ctv)).get? P=some (È2 (ps++#[Ã6 lpos.line,Ã6 lpos.col,.ref c'])):=Ã _ htb;have rc:recAt c' qual (h'.push (kla_obj "<lambda>" qual params body lsc cl ((X.mg "__name__").getD .none) c' ctv)):=G80 hrec λo q=>Ã _ q;have h2P:upd (upd H P (.tbl (ps++#[Ã6 lpos.line,Ã6 lpos.col,.ref c']))) c' (.ext (recAt c' qual)) P=some (.tbl (ps++#[Ã6 lpos.line,Ã6 lpos.col,.ref c'])):=by rw[a50 cP.symm];exact b00
  have oth:∀ b,b≠P->b≠c'->upd (upd H P (.tbl (ps++#[Ã6 lpos.line,Ã6 lpos.col,.ref c']))) c' (.ext (recAt c' qual)) b=H b:=λb h1 h2=>by rw[a50 h2,a50 h1]
  have neC:∀ b o,H b=some o->b≠c':=λb o e=>a90 e nC;have I2:Inv X pins σ (upd (upd H P (.tbl (ps++#[Ã6 lpos.line,Ã6 lpos.col,.ref c']))) c' (.ext (recAt c' qual))) { s with heap:=h'.push (kla_obj "<lambda>" qual params body lsc cl ((X.mg "__name__").getD .none) c' ctv),toks:=tk }:=by
   have nP:∀ b,H b=none->b≠P:=λb n z=>by rw[z,hP] at n;cases n
   refine I.step (g':=s.gens) (d':=s.drawn) (ch:=[]) (λb hb=>absurd hb (by simp)) (λb o _ _ _ e n=>kp b o (nP b n) e) (λb o _ _ _ e n=>⟨o.slots,kp b o (nP b n) e⟩) (λb o _ e n=>?_) (λb o _ e=>?_) (λb xs e=>?_) (λb o u e=>?_) (λb qs e=>?_) (λm hm=>?_) (λb u e=>?_) I.bare
   ·rw[oth b (nP b n) (Ü (Õ (á e) hge))];exact n
   ·by_cases hb:b=P
    ·subst hb;exact⟨_,tb⟩
    ·exact⟨o,kp b o hb e⟩
   ·rw[oth b (λz=>by rw[z,hP] at e;cases e) (neC b _ e)];exact e
   ·rw[oth b (λz=>by rw[z,hP] at e;cases e) (neC b _ e)];exact e
   ·by_cases hb:b=P
    ·subst hb;rw[hP] at e;cases e;exact⟨_,h2P⟩
    ·exact⟨#[],by rw[oth b hb (neC b _ e),e];simp⟩
   ·obtain⟨o,es,ep,ho,r⟩:=hm;exact⟨o,es,ep,kp _ o (nP _ I.free) ho,r⟩
   ·by_cases hbc:b=c'
    ·subst hbc;rw[b00] at e;cases e;obtain⟨_,oc,_,_,e1,e2,_⟩:=id rc;cases e1;exact⟨rc,⟨oc,e2⟩,λh1 h2 p kk=>G80 p kk⟩
    ·by_cases hb:b=P
     ·subst hb;rw[h2P] at e;cases e;exact tb
     ·rw[oth b hb hbc] at e;refine(I.hok b u e).i61 (λb2 u2 hb2 q=>kp b2 u2 (λz=>?_) q) (λb2 q=>?_) λb2 xs q=>?_
      ·rcases hb2 with y | y
       ·exact hb (y.symm.trans z)
       ·rw[z,hP] at y;cases y
      ·rw[oth b2 (λz=>by rw[z,hP] at q;cases q) (neC b2 _ q)];exact q
      ·rw[oth b2 (λz=>by rw[z,hP] at q;cases q) (neC b2 _ q)];exact q
  have lf:s.heap.objs.size<=h'.objs.size:=É2 (Ë1 hge hlt);refine k cl h'.objs.size c' _ ctv _ tk _ cl1 cl2 I2 ⟨_,h2P,?_,λpos cc e=>?_⟩ ⟨λb o hb e=>by rw[oth b hb (neC b _ e)];exact e⟩ ⟨_,Ë _ rfl,rfl⟩ ?_ b00 lf
  ·rw[Array.toList_append];exact TriplesOk_snoc _ _ _ _ ht
  ·rw[Array.toList_append] at e;rcases k51 _ ht e with z | z
   ·exact⟨c',z,b00⟩
   ·obtain⟨c2,rfl,hc2⟩:=hall pos cc z;exact⟨c2,rfl,by rw[oth c2 (λy=>by rw[y,hP] at hc2;cases hc2) (neC c2 _ hc2)];exact hc2⟩
  ·rw[oth _ (Ê7 (Õ lP lf)) (Ê7 hlt)];exact I.hok.fresh lf
end
def BMain(mg:Str->Option Ä)(h:ë):Prop:=∃ bm ob,mg "__builtins__"=some (.ref bm)/\bm≠Ê0/\h.get? bm=some ob/\ob.cls=.type "module"/\ob.dict=some Ê0/\ob.data=.plain
theorem n02{P:à}{w:ê}{X:Cx}:Passes (CX1 P w) X (λ_ _ _=>False):=λ_ _ _ _ _ _ _ h=>by
 obtain⟨_,_,_,_,_,_,_,_,_,_,_,_,_,e⟩:=h;exact e.elim
theorem Tab.same{H H':Hp}{P:Ç}{q:Str}(t:Tab H P q)(s:a30 H H'):Tab H' P q:=by
 obtain⟨ps,e,tr,h⟩:=t;refine⟨ps,s _ _ e,tr,λpos c hc=>?_⟩;obtain⟨c',e1,e2⟩:=h pos c hc;exact⟨c',e1,s _ _ e2⟩
def FnL(P:à)(w:ê)(H₀:Hp)(s₀:Æ)(f:Ç)(fd:Â5):Prop:=∀ (outer:List Env) (s:Æ) (H:Hp),Un (frs outer) [] H₀ H s₀.heap s.heap->a30 H₀ H->HOk P w H s.heap->∃ c d sl,s.heap.get? f=some ⟨c,d,.func fd,sl⟩
theorem FnL.new{P:à}{w:ê}{H₀:Hp}{s₀:Æ}{f:Ç}{fd:Â5}(ho:∃ o,s₀.heap.get? f=some o/\o.data=.func fd)(nf:H₀ f=none):FnL P w H₀ s₀ f fd:=λouter s H un _ _=>by
 obtain⟨⟨c,d,dt,sl⟩,e,hd⟩:=ho;have hd:dt=.func fd:=hd;subst hd;obtain⟨sl,h⟩:=un.any e nf (by simp)
 exact⟨_,_,sl,h⟩
structure t70(P:Program)(w:World)(K:PySem.W.Frag)(mg:Str->Option Value)(base:Heap)(k:Nat)(f:Addr)(H₀:Hp)(s₀:Shared)(cls:Value)(RR:Hp->Prop):Prop where
 fn:∃ fd,FnL P w H₀ s₀ f fd
 run:∀ (A:Around) (outer:List Env) (s:Shared) (H:Hp),v50 k A->W31 P w K mg base A outer s H->Un (frs outer) [] H₀ H s₀.heap s.heap->a30 H₀ H ->
  codeAny (model P w) A (.call (.ref f) ⟨[],[]⟩) (CR (CX1 P w) outer P w H s (λ_ _=>False) λc _ H'=>c=cls/\RR H') s
def D62(X:Cx)(i j:Nat)(f C:Ç)(RR:Hp->Prop):TS:=λD σ H=>σ[i]?=some (some (.ref f))/\a30 X.H₀ H/\∀ a H',RR H'->H' a=none->D.nx (σ.set j (some (.ref a))) (upd H' a (.ext (excAt a C)))
section
variable {X:Cx}{k i j:Nat}{f C D:Ç}{x y z n:Str}{p1 p2 p3 p4 p5 p6 p7 p8 p9:Pos}
theorem s21(hx0:X.ex=[])(hS:X.stack=X.env::X.outer)(hf:X.env.frame=some X.env.locals)(hr:v50 k X.A)(th:t70 X.prog X.w X.K X.mg X.base k f X.H₀ X.s₀ (.ref C) RR)
  (hy:X.N[i]?=some y) (vy:Vis X.env.scope y) (dy:(y == ("__debug__":Str))=false) (cy:(y == ("__classdict__":Str))=false)
  (hg:Gl X x) (hm:X.mg x=some (.ref D)) (dx:(x == ("__debug__":Str))=false) (he:PySem.W.exmOne X.K (.ref C) (.ref D)=some true)
  (hn:X.env.kindOf n=some .local) (nN:n ∉ X.N) (dn:(n == ("__debug__":Str))=false) (hN:X.N.Nodup) (hz:X.N[j]?=some z) (lz:Loc X.env.scope z) (hfn:X.fn z=true) :
  PS X (.Try [.Expr (.Call (.Name y p1) [] [] p2) p3] [.ExceptHandler (some (.Name x p4)) (some n) [.Assign [.Name z p5] (.Name n p6) p7] p8] [] [] p9) (D62 X i j f C RR):=by
 intro pins s σ H Dd I h;obtain⟨eσ,sH,q⟩:=h;have U0:Un (frs X.stack) [] X.H₀ H X.s₀.heap s.heap:=by
  have u:=I.base;rw[hx0] at u;exact u.mono (λb hb=>by rw[hS];unfold frs;rw[Á5,hf];exact Ê _ hb) λb hb=>hb
 obtain⟨fd,hfd⟩:=th.fn;obtain⟨c0,d0,sl,hof⟩:=hfd X.stack s H U0 sH I.hok;have hkind:(X.env.scope.kind == .class || (X.env.scope.kind == .module&&X.env.locals != X.env.globals))=false:=by rw[I.ok.kind];rfl
 refine wpAny_Try_except (Ô3 ?_);refine wpAny_Expr_any ?_ I.quiet rfl;refine Ç8 ?_;have ld:∀ {Q:Ä->Æ->Prop}{E:Ä->Æ->Prop},Q (.ref f) s->Ñ (Ö X.prog X.w) X.A (eval (.Name y p1) X.env) Q E s:=λ{Q E} hq=>by
  obtain⟨m,hnm,hl⟩:=I.loc;obtain⟨u,r,l⟩:=hl i y _ hy eσ vy;cases (show u=Â9 f from r);rcases l with ⟨hk,hv⟩ | ⟨hk,c,hc,hcell⟩
  ·exact Ñ7 (Î5 I.ok.kind hk hnm hv hq) dy
  ·rcases hk with hk | hk
   ·exact Ñ7 (Ù8 I.ok.kind hk hc hcell hq) dy
   ·exact Ñ7 (wpAny_loadName_free I.ok.kind hk hc hcell hq cy) dy
 refine ld ?_;refine PySem.W.callWith_of (P:=λh=>h.get? f=some ⟨c0,d0,.func fd,sl⟩) rfl (λh e=>⟨.frame,.inl rfl,?_⟩) (evalArgs_nil3 ⟨hof,?_⟩)
 ·exact(Î1 (part:=none) e).andThen .now
 refine Ñ6 (Æ8 (th.run X.A X.stack s H hr I.y72 U0 sH) λr s1 hq=>?_);cases r with
 |ok fl =>
  cases fl with
  |ret u=>obtain⟨_,_,_,_,_,_,_,z⟩:=hq;exact z.elim
  |next=>exact ü hq
  |brk=>exact ü hq|cont=>exact ü hq
 |error e =>
  obtain⟨a,cls,a0,H1,B,rfl,os1,bare1,un,hok,fl,na,bB,rfl,s1H⟩:=hq;have nA:s.heap.get? a=none:=by
   cases ea:s.heap.get? a with
   |none=>rfl
   |some o =>
    exfalso;obtain⟨oe,vs,hoe,_,hde,_⟩:=fl.first;by_cases hb:a∈frs X.stack
    ·obtain⟨sl',e1⟩:=un.slot a o ea (I.v40 a hb) hb (by simp)
     obtain⟨_,o',ho',hd'⟩:=I.stack.mem hb;rw[ea] at ho';cases ho';rw[hoe] at e1;cases e1;exact hd' vs hde
    ·have:=bB a oe hoe hb (.inl ⟨o,ea⟩);rw[fl.2.1] at this;cases this
  have n0:X.s₀.heap.get? a=none:=by
   cases ea:X.s₀.heap.get? a with
   |none=>rfl
   |some o =>
    obtain⟨o',e1⟩:=U0.there a o ea (by simp)
    rw[nA] at e1;cases e1
  have aL:a≠X.env.locals:=λz=>by
   obtain⟨m,⟨o,_,_,ho,_⟩,_⟩:=I.loc;rw[z,ho] at nA;cases nA
  have aC:∀ x c,X.env.cells.lookup x=some c->c≠a:=λx c e z=>by
   obtain⟨v,o,ho,_⟩:=I.cell x c e;rw[z,nA] at ho;cases ho
  have aP:∀ p∈X.pn++pins,p.1≠a:=λp hp z=>by
   have:=(I.pin p hp).1;rw[z,nA] at this;cases this
  refine wpAny_looks_onW (I.ok.frames.trans (by rw[hS])) hf (by rw[← hS];exact fl) λh2 held2 sm2=>?_
  refine wpAny_landsW held2 λh3 fl3 sm3=>?_;have I3:Inv X pins σ H1 { s1 with heap:=h3 }:=R31 I os1 bare1 un hok bB fl3.1 (sm2.trans sm3);have at3:excAt a C h3:=by obtain⟨oe,e1,e2⟩:=fl3.there;exact⟨oe,e1,e2⟩
  refine wpAny_handleBy_cons (codeAny_handlers_test ?_) (λz=>nomatch z);refine Ï3 I3.ok.kind hg (ß2 (by rw[I3.ok.glob];exact I3.mod.glob.keeps I3.bk) hm ?_) dx
  refine(PySem.W.exm_one (h:=h3) I3.kIn at3.ty he).here ?_;refine codeAny_handlers_suite_as (lands_againW fl3 λh4 fl4 sm4=>?_);have I4:Inv X pins σ H1 { s1 with heap:=h4 }:=R31 I os1 bare1 un hok bB fl4.1 ((sm2.trans sm3).trans sm4);have at4:excAt a C h4:=by obtain⟨oe,e1,e2⟩:=fl4.there;exact⟨oe,e1,e2⟩
  obtain⟨m4,hn4,hl4⟩:=id I4.loc;refine wpAny_storeName_local hn hn4 (λh5 hn5 hs5=>?_) hkind;have offN:∀ (i:Nat) (x:Str),X.N[i]?=some x->x≠n:=λi x e z=>nN (by rw[← z];exact â e)
  have I5:Inv X pins σ H1 { s1 with heap:=h5,toks:=s1.toks + 1 }:=Inv.s11 (s:={ s1 with heap:=h4 }) I4 hl4 hn5 hs5 λi x e=>if_neg (offN i x e);refine Ô3 (wpAny_Assign_Name ?_ rfl);refine Ñ7 (Î5 I.ok.kind hn hn5 (if_pos rfl) ?_) dn;refine A50 (v:=.ref a) I5 hN hz lz rfl (λs6 I6 hsame=>?_) (.inl hfn);refine Ï6 ?_;show Ñ _ _ (do bindName X.env n .none;unbindBehindTheSuite X.env n p8) _ _ _;obtain⟨m6,hn6,hl6⟩:=id I6.loc;refine wpAny_nameGoes_keeps hn hn6 hkind λh7 v7 hn7 hs7=>?_;have I7:=Inv.s11 (t':=s6.toks + 1) I6 hl6 hn7 hs7 λi x e=>if_neg (offN i x e);have at7:excAt a C h7:=by
   obtain⟨oe,e1,e2⟩:=at4;obtain⟨b6,hb6,hor⟩:=hsame;have e5:h5.get? a=some oe:=(hs5.2 a aL).trans e1;have e6:s6.heap.get? a=some oe:=(hb6.2 a (λz=>by
    rcases hor with y | y
    ·exact aL (z.trans y)
    ·exact aC _ _ y z.symm)).trans e5
   exact⟨oe,(hs7.2 a aL).trans e6,e2⟩
  have nT:H1 a=none:=na;have I8:=Inv.R41 (T:=a) (o:=.ext (excAt a C)) I7 nT n0 aL aC aP ⟨at7,by obtain⟨oe,e1,_⟩:=at7;exact⟨oe,e1⟩,λh1 h2 p kk=>k31 p kk⟩
  exact⟨_,_,I8,q a H1 s1H na⟩
end
section
variable {P:à}{w:ê}{K:Â}{mg:Str->Option Ä}{base:ë}{N:List Str}{qual:Str}{scope:í}{f c':Ç}{cl:List (Str × Ç)}{s₀:Æ}{H₀:Hp}{k:Nat}{pm ctv cls:Ä}{params:È6}{body:Ð}{vs:List V}
theorem G90{RR:Hp->Prop}(hf:FnL P w H₀ s₀ f (kla_fn "<lambda>" qual params body scope cl pm (.ref c') ctv))(hc:H₀ c'=some (.ext (recAt c' qual)))
  (hk:scope.kind=.function) (hco:scope.isCoroutine=false) (hgen:scope.isGenerator=false) (hcell:∀ x∈scope.names,x.2≠.cell)
  (hb:bindArgs (kla_fn "<lambda>" qual params body scope cl pm (.ref c') ctv) ⟨[],[]⟩=pure []) (FR:B70 scope cl N vs H₀ s₀.heap)
  (hbody:∀ (A:ö) (outer:List Env) (s:Æ) (H:Hp),v50 k (A.deeper (envX qual scope s.heap.objs.size f (.ref c') cl))->a30 H₀ H ->
   ∃ t,PE (K90 P w K mg base N qual scope f (.ref c') cl A outer s H λc _ H'=>c=cls/\RR H') body t/\t (vs.map some) H λ_ _=>False) :
  t70 P w K mg base (k + 1) f H₀ s₀ cls RR:=by
 refine⟨⟨_,hf⟩,λA outer s H hr e0 un sm=>?_⟩;obtain⟨c0,d0,sl,hof⟩:=hf outer s H un sm e0.hok;have hrec:s.heap.CodeRec (.ref c') qual:=(e0.hok c' _ (sm _ _ hc)).1;have lim:s.heap.NoLimit:=e0.mod.nolimit.keeps λb o e=>(e0.bs b o e).1;refine PySem.W.kla_callFunE hr.depth hof rfl hco hgen rfl hrec ?_;rw[hb];refine Å (wpAny_newFunctionEnv hcell (λy hy=>absurd hy (by simp)) (λh₁ hns hsb=>⟨lim.fresh _ hsb,?_⟩) hk)
 show Î4 _ _ (.expr body (envX qual scope s.heap.objs.size f (.ref c') cl)) _ _;have hkeep1:∀ b o,s.heap.get? b=some o->h₁.get? b=some o:=λb o e=>hsb.extBut b o (Ü (á e)) (Ã _ e);obtain⟨t,ht,hq⟩:=hbody A outer s H (hr.deeper _) sm;have I:Inv (K90 P w K mg base N qual scope f (.ref c') cl A outer s H λc _ H'=>c=cls/\RR H') [] (vs.map some) H { s with heap:=h₁,toks:=s.toks + 0 }:=Z41 e0 hr.hd hk (FR.later un) hns hkeep1;refine PySem.W.kla_codeExpr (Â2 (ht [] _ _ H _ I hq) (λv s' hv=>?_) λe s' he=>he);obtain⟨_,_,_,_,z⟩:=hv;exact z.elim
end
section
variable {X:Cx}{c P f:Ç}{fd:Â5}{qual g par:Str}{N:List Str}{params:È6}{body:Ð}{lsc:í}{lpos p pos:Pos}{k kr:Nat}{cls:Ä}{sp:Æ->Sp}
end
def fnAt(f:Ç)(fd:Â5):ë->Prop:=λh=>∃ o,h.get? f=some o/\o.data=.func fd
theorem s31(h:fnAt f fd h1)(k:∀ o,h1.get? f=some o->h2.get? f=some o):fnAt f fd h2:=by
 obtain⟨o,e,d⟩:=h;exact⟨o,k _ e,d⟩
theorem FnL.at(h:H₀ f=some (.ext (fnAt f fd))):FnL P w H₀ s₀ f fd:=λouter s H _ sm hok=>by
 obtain⟨⟨⟨c,d,dt,sl⟩,e,hd⟩,_⟩:=hok f _ (sm _ _ h);have hd:dt=.func fd:=hd;subst hd;exact⟨_,_,_,e⟩
def D82(X:Cx)(P:Ç)(qual:Str)(params:È6)(body:Ð)(lsc:í):TE:=λσ H Q=>Tab H P qual/\∀ (cl:List (Str × Ç)) (f c':Ç) (pm ctv:Ä) (H2:Hp),(∀ x c,cl.lookup x=some c->X.env.cells.lookup x=some c)->(∀ y∈lsc.names,y.2=.free->∃ c,cl.lookup y.1=some c) ->
 Tab H2 P qual->B80 P H H2->H f=none->H2 f=some (.ext (fnAt f (kla_fn "<lambda>" qual params body lsc cl pm (.ref c') ctv)))->H2 c'=some (.ext (recAt c' qual))->Q (.ref f) H2
section
variable {X:Cx}{c P:Ç}{qual:Str}{params:È6}{body:Ð}{lsc:í}{lpos:Pos}
theorem n12(hcode:X.env.code=.ref c)(hhd:Ã7 X.K c P=true)(hqu:X.env.qual++"<lambda>"=qual)(hdef:defaultsOf params X.env=([],[]))
  (hbm:∃ bm ob,X.mg "__builtins__"=some (.ref bm)/\bm≠Ê0/\X.base.get? bm=some ob/\ob.cls=.type "module"/\ob.dict=some Ê0/\ob.data=.plain)
  (hfr:∀ y∈lsc.names,y.2=.free->X.env.kindOf y.1=some .cell):PE X (.Lambda params body lsc lpos) (D82 X P qual params body lsc):=by
 intro pins s σ H Q I h;obtain⟨TB,q⟩:=h;refine d51 I hdef hcode hhd TB hqu hbm (λy hy hf=>I.ok.has y.1 (.inl (hfr y hy hf))) λcl f c' pm ctv h2 tk H2 cl1 cl2 I2 TB2 KB ho nf hc hsz=>?_;have old:∀ {b:Ç}{o:Obj},s.heap.get? b=some o->b≠f:=λe z=>by subst z;exact À7 _ (Õ (á e) hsz)
 have n0:X.s₀.heap.get? f=none:=by
  cases e:X.s₀.heap.get? f with
  |none=>rfl|some o=>exact absurd (Õ (á e) (Þ I.sz hsz)) (À7 _)
 have hL:f≠X.env.locals:=λz=>by
  obtain⟨m,⟨o,_,_,e,_⟩,_⟩:=I.loc;exact old e z.symm
 have hC:∀ x c,X.env.cells.lookup x=some c->c≠f:=λx c e=>by
  obtain⟨v,o,e1,_⟩:=I.cell x c e;exact old e1
 have hP:∀ p∈X.pn++pins,p.1≠f:=λp hp=>old (I.pin p hp).1;have fP:f≠P:=λz=>by
  obtain⟨ps,e,_⟩:=TB;subst z;exact old (I.hok f _ e) rfl
 have fC:f≠c':=λz=>by subst z;rw[nf] at hc;cases hc
 have Hf:H f=none:=I.hok.fresh hsz;have I3:=Inv.R41 (T:=f) (o:=.ext (fnAt f (kla_fn "<lambda>" qual params body lsc cl pm (.ref c') ctv))) I2 nf n0 hL hC hP ⟨ho,by obtain⟨o,e,_⟩:=ho;exact⟨o,e⟩,λh1 h2 p kk=>s31 p kk⟩
 refine⟨.ref f,_,I3,rfl,q cl f c' pm ctv _ cl1 cl2 ?_ ⟨λb o hb e=>?_⟩ Hf b00 ?_⟩
 ·obtain⟨ps,e,tr,k⟩:=TB2;refine⟨ps,by rw[a50 fP.symm];exact e,tr,λpos cc h=>?_⟩
  obtain⟨c2,e1,e2⟩:=k pos cc h;exact⟨c2,e1,by rw[a50 (λz=>by rw[z,nf] at e2;cases e2)];exact e2⟩
 ·rw[a50 (λz=>by rw[z,Hf] at e;cases e)];exact KB.same b o hb e
 ·rw[a50 fC.symm];exact hc
end
section
variable {X:Cx}{f:Ç}{fd:Â5}{g par n:Str}{p p2 pos:Pos}{i k kr:Nat}{sp:Æ->Sp}{Ok:Ç->Ä->(Hp->Prop)->Hp->Prop}
theorem Q70(F:Q60 X.prog X.w X.K X.mg X.base CX0 kr f fd [par] sp)(hr:v50 kr X.A)(hg:Gl X g)(hm:X.mg g=some (.ref f))(hk:Ë0 X.K (.ref f)=true)(hb:Binds X.K fd [par] [])
  (hi:X.N[i]?=some n) (hv:Vis X.env.scope n) (d1:(n == ("__debug__":Str))=false) (d2:(n == ("__classdict__":Str))=false)
  (th:∀ pins σ H s,Inv X pins σ H s->∀ a cls RR,Ok a cls RR H->t70 X.prog X.w X.K X.mg X.base (k + 1) a H s cls RR)
  (hdb:(g == ("__debug__":Str))=false:=by decide) :
  PE X (.Call (.Name g p) [.Name n p2] [] pos) (λσ H Q=>∃ a cls RR,σ[i]?=some (some (.ref a))/\Ok a cls RR H/\∀ s2:Æ,t70 X.prog X.w X.K X.mg X.base (k + 1) a H s2 cls RR->sp s2 [.ref a] H Q λ_ _ _=>False):=by
 intro pins s σ H Q I h;obtain⟨a,cls,RR,e,ok,q⟩:=h;have he:À0 [.Name n p2] X.env=[(false,eval (.Name n p2) X.env)]:=rfl;refine Ç8 (A60 I hg hm ?_ hdb);refine callWith_K (h₀:=X.base) I.ok.mod.kin hk ?_ he rfl;rw[he];refine Ï2 (thn (h00 (i:=i) hi hv d1 d2 pins s σ H (λv H'=>v=.ref a/\H'=H) I ⟨_,e,rfl,rfl⟩) λv s1 hr1=>?_);obtain⟨y,H1,I1,r1,rfl,rfl⟩:=hr1;cases (show v=Â9 a from r1);refine Ë8 ⟨I1.kIn,?_⟩;refine Ñ6 (Æ8 (F.run X.A X.stack s1 H1 ⟨[.ref a],[]⟩ [.ref a] [.ref a] Q _ hr I1.y72 (hb _ [.ref a] I1.kIn rfl) (.cons rfl .nil) (q s1 (th _ _ _ _ I1 _ _ _ ok))) λr s' hq=>?_);cases r with
 |error e=>exact ü hq
 |ok fl =>
  cases fl with
  |ret u=>exact I1.after hq|next=>exact ü hq
  |brk=>exact ü hq|cont=>exact ü hq
end
theorem PE.mp(h:PE X e t)(i:∀ σ H Q,t' σ H Q->t σ H Q):PE X e t':=λpins s σ H Q I q=>h pins s σ H Q I (i _ _ _ q)
structure LT where
 f:Addr
 c':Addr
 cl:List (Str × Addr)
 pm:Value
 ctv:Value
 lsc:Scope
 body:Expr
 N:List Str
def noArgs:Arguments:=⟨[],[],none,[],[],none,[]⟩
def LT.fd(t:LT)(qual:Str):FuncData:=kla_fn "<lambda>" qual noArgs t.body t.lsc t.cl t.pm (.ref t.c') t.ctv
structure LTf(X:Cx)(lsc:Scope)(N:List Str):Prop where
 hfr:∀ y∈lsc.names,y.2=.free->X.env.kindOf y.1=some .cell
 hnc:∀ y∈lsc.names,y.2≠.cell
 hNf:∀ x∈N,lsc.names.lookup x=some .free
 lk:lsc.kind=.function
 lco:lsc.isCoroutine=false
 lge:lsc.isGenerator=false
structure J11(X:Cx)(qual:Str)(H:Hp)(t:LT):Prop where
 form:LTf X t.lsc t.N
 fn:H t.f=some (.ext (fnAt t.f (t.fd qual)))
 rc:H t.c'=some (.ext (recAt t.c' qual))
 cl1:∀ x c,t.cl.lookup x=some c->X.env.cells.lookup x=some c
 cl2:∀ y∈t.lsc.names,y.2=.free->∃ c,t.cl.lookup y.1=some c
structure LTv(X:Cx)(σ:St)(t:LT)(vs:List V):Prop where
 len:vs.length=t.N.length
 vals:∀ (i:Nat) (x:Str) (v:V),t.N[i]?=some x->vs[i]?=some v->∃ j:Nat,X.N[j]?=some x/\σ[j]?=some (some v)
theorem J11.frees{X:Cx}{qual:Str}{σ:St}{H:Hp}{t:LT}{vs:List V}{pins:List (Ç × Obj)}{s:Æ}(k:J11 X qual H t)(kv:LTv X σ t vs)(I:Inv X pins σ H s):B70 t.lsc t.cl t.N vs H s.heap:=by
 refine⟨λx y c e1 e2=>I.ok.inj x y c (k.cl1 x c e1) (k.cl1 y c e2),λx hx=>?_,λx c e=>I.cell x c (k.cl1 x c e),λx c e=>I.freeC x c (k.cl1 x c e),λi x v h1 h2=>?_,kv.len⟩
 ·rcases hx with hx | hx
  ·exact absurd rfl (k.form.hnc _ (ÿ hx))
  ·exact k.cl2 _ (ÿ hx) rfl
 ·have hf:=k.form.hNf x (â h1);have mem:=ÿ hf;have kc:X.env.kindOf x=some .cell:=k.form.hfr _ mem rfl;obtain⟨j,e1,e2⟩:=kv.vals i x v h1 h2;obtain⟨m,_,hl⟩:=I.loc;obtain⟨u,r,l⟩:=hl j x v e1 e2 (Õ9 (Ð7 kc));obtain⟨c2,ec2⟩:=k.cl2 _ mem rfl;refine⟨hf,c2,u,ec2,r,?_⟩;rcases l with ⟨kl,_⟩ | ⟨_,c3,ec3,z⟩
  ·rw[kc] at kl;cases kl
  ·have:=k.cl1 _ _ ec2;rw[ec3] at this;cases this;exact z
theorem B70.n22{scope:í}{cl:List (Str × Ç)}{N:List Str}{vs:List V}{H₀ H:Hp}{h₀ h:ë}{fs ex:List Ç}(FR:B70 scope cl N vs H₀ h₀)(un:Un fs ex H₀ H h₀ h)(hx:∀ x c,cl.lookup x=some c->c ∉ ex):B70 scope cl N vs H h:=by
 have cel:∀ x c v,cl.lookup x=some c->h₀.IsCell c v->h.IsCell c v:=λx c v e ⟨o,ho,hd⟩=>by
  obtain⟨sl,e1⟩:=un.any ho (FR.free x c e) (hx x c e);exact⟨_,e1,hd⟩
 refine⟨FR.inj,FR.has,λx c e=>?_,λx c e=>?_,λi x v h1 h2=>?_,FR.len⟩
 ·obtain⟨v,z⟩:=FR.cell x c e;exact⟨v,cel x c v e z⟩
 ·obtain⟨v,o,ho,_⟩:=FR.cell x c e;exact un.free c o ho (FR.free x c e) (hx x c e)
 ·obtain⟨k,c,u,ec,r,z⟩:=FR.val i x v h1 h2;exact⟨k,c,u,ec,r,cel x c _ ec z⟩
def Raises(X:Cx)(qual:Str)(k:Nat)(H:Hp)(t:LT)(vs:List V)(cls:Ä)(RR:Hp->Prop):Prop:=∀ (A:ö) (outer:List Env) (s:Æ) (H3:Hp),v50 k (A.deeper (envX qual t.lsc s.heap.objs.size t.f (.ref t.c') t.cl))->a30 H H3 ->
 ∃ u,PE (K90 X.prog X.w X.K X.mg X.base t.N qual t.lsc t.f (.ref t.c') t.cl A outer s H3 λc _ H'=>c=cls/\RR H') t.body u/\u (vs.map some) H3 λ_ _=>False
def z12(H:Hp)(qual:Str)(t:LT):Prop:=H t.f=some (.ext (fnAt t.f (t.fd qual)))/\H t.c'=some (.ext (recAt t.c' qual))
theorem J21{X:Cx}{qual:Str}{k:Nat}{H:Hp}{s:Æ}{t:LT}{vs:List V}{cls:Ä}{RR:Hp->Prop}(fm:LTf X t.lsc t.N)(h:z12 H qual t)(FR:B70 t.lsc t.cl t.N vs H s.heap)(r:Raises X qual k H t vs cls RR):t70 X.prog X.w X.K X.mg X.base (k + 1) t.f H s cls RR :=
 G90 (FnL.at h.1) h.2 fm.lk fm.lco fm.lge fm.hnc rfl FR r
section
variable {X:Cx}{f:Ç}{fd:Â5}{g par n qual:Str}{p p2 p3 pos ps:Pos}{k kr:Nat}{sp:Æ->Sp}{src:Ð}{wi:TI}{sc:í}
def teL(X:Cx)(qual:Str)(k:Nat)(sp:Æ->Sp)(σ1:St)(H1:Hp):TE:=λσ H Q=>∃ t vs cls RR,J11 X qual H1 t/\LTv X σ1 t vs/\σ[0]?=some (some (.ref t.f))/\z12 H qual t/\Raises X qual k H t vs cls RR/\∀ s2:Æ,t70 X.prog X.w X.K X.mg X.base (k + 1) t.f H s2 cls RR->sp s2 [.ref t.f] H Q λ_ _ _=>False
theorem k61(hc:X.calm=true)(S:o00 X sc [n] [])(hi:PI X (.Name n p3) src wi)(F:Q60 X.prog X.w X.K X.mg X.base CX0 kr f fd [par] sp)(hr:v50 kr X.A)(hg:∀ cl C s H fp,Gl (c30 X (d00 [n] []) sc cl C s H fp) g)(hm:X.mg g=some (.ref f))(hk:Ë0 X.K (.ref f)=true)(hb:Binds X.K fd [par] [])
  (hp:∀ cl C s H fp,PG (c30 X (d00 [n] []) sc cl C s H fp) (.Name n p3) (I70 0)) (hv:∀ cl C s H fp,Vis (c30 X (d00 [n] []) sc cl C s H fp).env.scope n) (d1:(n == ("__debug__":Str))=false) (d2:(n == ("__classdict__":Str))=false) (hdb:(g == ("__debug__":Str))=false) (hs:∀ x,Æ7 src X.env x=pure x) :
  PE X (.ListComp (.Call (.Name g p) [.Name n p2] [] pos) [⟨.Name n p3,src,[],0⟩] sc ps) (λσ H Q=>wi σ H λJ H1=>True/\j31 J [none] H1 (I70 0) p61 (teL X qual k sp σ H1) Q):=by
 refine G21 (te:=teL X qual k sp) (Cond:=λ_ _=>True) hc S hi hp (λ_ _ _ _ _=>p71) (λcl pins σ H s I hcl _ C fp hf=>?_) hs
 ·refine PE.mp (Q70 (k:=k) (X:=c30 X (d00 [n] []) sc cl C s H fp) (Ok:=λa cls RR H'=>∃ t vs,J11 X qual H t/\LTv X σ t vs/\a=t.f/\z12 H' qual t/\Raises X qual k H' t vs cls RR) (i:=0) F hr (hg cl C s H fp) hm hk hb rfl (hv cl C s H fp) d1 d2 (λpins' σ' H' s' I' a cls RR ok=>?_) hdb) λσ' H' Q' q'=>?_
  ·obtain⟨t,vs,lt,lv,rfl,la,rs⟩:=ok;exact J21 (X:=X) lt.form la ((lt.frees lv I).n22 I'.base λx c e z=>(hf c z).2.2.2.2.1 x c (lt.cl1 x c e) rfl) rs
  ·obtain⟨t,vs,cls,RR,lt,lv,e,la,rs,q2⟩:=q';exact⟨t.f,cls,RR,e,⟨t,vs,lt,lv,rfl,la,rs⟩,q2⟩
end
abbrev z22:List Str:=["_law_call","_law_error","_law_marks"]
abbrev n32:Scope:={ kind:=.function,names:=[(".0",.local),("_law_k",.local),("_law_marks",.free)],isGenerator:=false,isCoroutine:=false,more:=[] }
abbrev t80:Scope:={ kind:=.function,names:=[("_law_call",.local),("_law_error",.local),("e",.local),("_law_marks",.cell),("ChanceError",.globalImplicit),("isinstance",.globalImplicit),("NoWeb",.globalImplicit),("NoLot",.globalImplicit),("NoPlaces",.globalImplicit),("NoPlace",.globalImplicit),("NoTie",.globalImplicit),("NoChance",.globalImplicit),("NoChances",.globalImplicit),("NoPaper",.globalImplicit),("TooMany",.globalImplicit),("NoText",.globalImplicit),("NoLine",.globalImplicit),("NoDeed",.globalImplicit),("ValueError",.globalImplicit),("range",.globalImplicit)],isGenerator:=false,isCoroutine:=false,more:=[("fast",.str "_law_call"),("fast",.str "_law_error"),("fast",.str "e"),("fast",.str "_law_marks"),("fast",.str "_law_k")] }
def X80(n:Nat):List Stmt:=[.Assign [(.Name "_law_error" ⟨n,4,n,14⟩)] (.Constant .none 0 ⟨n,17,n,21⟩) ⟨n,4,n,21⟩,
   .Try [.Expr (.Call (.Name "_law_call" ⟨n + 2,8,n + 2,17⟩) [] [] ⟨n + 2,8,n + 2,19⟩) ⟨n + 2,8,n + 2,19⟩] [.ExceptHandler (some (.Name "ChanceError" ⟨n + 3,11,n + 3,22⟩)) (some "e") [.Assign [(.Name "_law_error" ⟨n + 4,8,n + 4,18⟩)] (.Name "e" ⟨n + 4,21,n + 4,22⟩) ⟨n + 4,8,n + 4,22⟩] ⟨n + 3,4,n + 4,22⟩] [] [] ⟨n + 1,4,n + 4,22⟩,
   .Assign [(.Name "_law_marks" ⟨n + 5,4,n + 5,14⟩)] (.List [(.Call (.Name "isinstance" ⟨n + 5,18,n + 5,28⟩) [(.Name "_law_error" ⟨n + 5,29,n + 5,39⟩),(.Name "NoWeb" ⟨n + 5,41,n + 5,46⟩)] [] ⟨n + 5,18,n + 5,47⟩),(.Call (.Name "isinstance" ⟨n + 5,49,n + 5,59⟩) [(.Name "_law_error" ⟨n + 5,60,n + 5,70⟩),(.Name "NoLot" ⟨n + 5,72,n + 5,77⟩)] [] ⟨n + 5,49,n + 5,78⟩),(.Call (.Name "isinstance" ⟨n + 5,80,n + 5,90⟩) [(.Name "_law_error" ⟨n + 5,91,n + 5,101⟩),(.Name "NoPlaces" ⟨n + 5,103,n + 5,111⟩)] [] ⟨n + 5,80,n + 5,112⟩)] ⟨n + 5,17,n + 5,113⟩) ⟨n + 5,4,n + 5,113⟩,
   .Assign [(.Name "_law_marks" ⟨n + 6,4,n + 6,14⟩)] (.BinOp (.Name "_law_marks" ⟨n + 6,17,n + 6,27⟩) .Add (.List [(.Call (.Name "isinstance" ⟨n + 6,31,n + 6,41⟩) [(.Name "_law_error" ⟨n + 6,42,n + 6,52⟩),(.Name "NoPlace" ⟨n + 6,54,n + 6,61⟩)] [] ⟨n + 6,31,n + 6,62⟩),(.Call (.Name "isinstance" ⟨n + 6,64,n + 6,74⟩) [(.Name "_law_error" ⟨n + 6,75,n + 6,85⟩),(.Name "NoTie" ⟨n + 6,87,n + 6,92⟩)] [] ⟨n + 6,64,n + 6,93⟩),(.Call (.Name "isinstance" ⟨n + 6,95,n + 6,105⟩) [(.Name "_law_error" ⟨n + 6,106,n + 6,116⟩),(.Name "NoChance" ⟨n + 6,118,n + 6,126⟩)] [] ⟨n + 6,95,n + 6,127⟩)] ⟨n + 6,30,n + 6,128⟩) ⟨n + 6,17,n + 6,128⟩) ⟨n + 6,4,n + 6,128⟩,
   .Assign [(.Name "_law_marks" ⟨n + 7,4,n + 7,14⟩)] (.BinOp (.Name "_law_marks" ⟨n + 7,17,n + 7,27⟩) .Add (.List [(.Call (.Name "isinstance" ⟨n + 7,31,n + 7,41⟩) [(.Name "_law_error" ⟨n + 7,42,n + 7,52⟩),(.Name "NoChances" ⟨n + 7,54,n + 7,63⟩)] [] ⟨n + 7,31,n + 7,64⟩),(.Call (.Name "isinstance" ⟨n + 7,66,n + 7,76⟩) [(.Name "_law_error" ⟨n + 7,77,n + 7,87⟩),(.Name "NoPaper" ⟨n + 7,89,n + 7,96⟩)] [] ⟨n + 7,66,n + 7,97⟩),(.Call (.Name "isinstance" ⟨n + 7,99,n + 7,109⟩) [(.Name "_law_error" ⟨n + 7,110,n + 7,120⟩),(.Name "TooMany" ⟨n + 7,122,n + 7,129⟩)] [] ⟨n + 7,99,n + 7,130⟩)] ⟨n + 7,30,n + 7,131⟩) ⟨n + 7,17,n + 7,131⟩) ⟨n + 7,4,n + 7,131⟩,
   .Assign [(.Name "_law_marks" ⟨n + 8,4,n + 8,14⟩)] (.BinOp (.Name "_law_marks" ⟨n + 8,17,n + 8,27⟩) .Add (.List [(.Call (.Name "isinstance" ⟨n + 8,31,n + 8,41⟩) [(.Name "_law_error" ⟨n + 8,42,n + 8,52⟩),(.Name "NoText" ⟨n + 8,54,n + 8,60⟩)] [] ⟨n + 8,31,n + 8,61⟩),(.Call (.Name "isinstance" ⟨n + 8,63,n + 8,73⟩) [(.Name "_law_error" ⟨n + 8,74,n + 8,84⟩),(.Name "NoLine" ⟨n + 8,86,n + 8,92⟩)] [] ⟨n + 8,63,n + 8,93⟩),(.Call (.Name "isinstance" ⟨n + 8,95,n + 8,105⟩) [(.Name "_law_error" ⟨n + 8,106,n + 8,116⟩),(.Name "NoDeed" ⟨n + 8,118,n + 8,124⟩)] [] ⟨n + 8,95,n + 8,125⟩)] ⟨n + 8,30,n + 8,126⟩) ⟨n + 8,17,n + 8,126⟩) ⟨n + 8,4,n + 8,126⟩,
   .If (.UnaryOp .Not (.Call (.Name "isinstance" ⟨n + 9,11,n + 9,21⟩) [(.Name "_law_error" ⟨n + 9,22,n + 9,32⟩),(.Name "ValueError" ⟨n + 9,34,n + 9,44⟩)] [] ⟨n + 9,11,n + 9,45⟩) ⟨n + 9,7,n + 9,45⟩) [.Return (some (.Constant .none 0 ⟨n + 10,15,n + 10,19⟩)) ⟨n + 10,8,n + 10,19⟩] [] ⟨n + 9,4,n + 10,19⟩,
   .Return (some (.ListComp (.Name "_law_k" ⟨n + 11,12,n + 11,18⟩) [{ target:=(.Name "_law_k" ⟨n + 11,23,n + 11,29⟩),iter:=(.Call (.Name "range" ⟨n + 11,33,n + 11,38⟩) [(.Constant (.int 12) 0 ⟨n + 11,39,n + 11,41⟩)] [] ⟨n + 11,33,n + 11,42⟩),ifs:=[(.Subscript (.Name "_law_marks" ⟨n + 11,46,n + 11,56⟩) (.Name "_law_k" ⟨n + 11,57,n + 11,63⟩) ⟨n + 11,46,n + 11,64⟩)],is_async:=0 }] n32 ⟨n + 11,11,n + 11,65⟩)) ⟨n + 11,4,n + 11,65⟩]
theorem n42:r21 n32 t80 z22 ["_law_k"] [("_law_marks",2)]=true:=by decide +kernel
theorem J31(K:Â)(hK:X.K=K:=by rfl):IxR X (C22 K):=by subst hK;exact W80
abbrev names12:List Str:=["NoWeb","NoLot","NoPlaces","NoPlace","NoTie","NoChance","NoChances","NoPaper","TooMany","NoText","NoLine","NoDeed"]
structure Q80(K:PySem.W.Frag)(mg:Str->Option Value)(C:Addr)(j:Nat):Prop where
 cl:∀ (i:Nat) (x:Str),names12[i]?=some x->∃ Ci,mg x=some (.ref Ci)/\PySem.W.kitOne K (.ref C) (.ref Ci)=some (decide (i=j))
 lk:i10 K C
 hd:PySem.W.hasDictIn K C=true
 ve:PySem.W.kitOne K (.ref C) (.type "ValueError")=some true
 nv:mg "ValueError"=none
 ce:∃ D,mg "ChanceError"=some (.ref D)/\PySem.W.exmOne K (.ref C) (.ref D)=some true
 lt:j < 12
theorem Q90:ñ "ValueError"=some (.type "ValueError"):=by decide +kernel
theorem L00:ñ "isinstance"=some (.builtin "isinstance"):=by decide +kernel
def Z61(P:à)(w:ê)(K:Â)(mg:Str->Option Ä)(base:ë)(k:Nat):Æ->Sp:=λs vs H Q _=>∃ (f C:Ç) (j:Nat) (RR:Hp->Prop),vs=[.ref f]/\t70 P w K mg base k f H s (.ref C) RR/\Q80 K mg C j/\∀ l H1 H',RR H1->a30 H1 H'->H' l=none->Q (.ref l) (upd H' l (.lst [.int j]))
abbrev B90(j:Nat):List V:=[V.bl (decide (0=j)),.bl (decide (1=j)),.bl (decide (2=j))]++[.bl (decide (3=j)),.bl (decide (4=j)),.bl (decide (5=j))]++[.bl (decide (6=j)),.bl (decide (7=j)),.bl (decide (8=j))]++[.bl (decide (9=j)),.bl (decide (10=j)),.bl (decide (11=j))]
theorem J41{i j:Nat}(h:i < 12):atI (B90 j) (0 + (i:Int))=some (.bl (decide (i=j))):=by
 rw[Ú2];refine v70 ?_;rw[show B90 j=(ð 12).map λi=>V.bl (decide (i=j)) from rfl,Ø,É8 h];rfl
section
variable {P:à}{w:ê}{K:Â}{mg:Str->Option Ä}{base:ë}
theorem scR:k30 z22 ["_law_call"] t80:=⟨rfl,rfl,rfl,by decide +kernel,rfl,by decide +kernel,by decide +kernel⟩
theorem ndR:(d00 ["_law_k"] [("_law_marks",2)]).Nodup:=by decide +kernel
def tIs(K:Â)(c:V)(cv:Ä):TE:=λσ H Q=>∃ (a C:Ç) (b:Bool),σ[1]?=some (some (.ref a))/\m82 H a C/\i10 K C/\PySem.W.hasDictIn K C=true/\Î0 K (.ref C) cv=some b/\Q (.bl b) H
def S82(K:Â)(c0 c1 c2:Ç):TE:=λσ H Q=>∃ (a C:Ç) (b0 b1 b2:Bool),σ[1]?=some (some (.ref a))/\m82 H a C/\i10 K C/\PySem.W.hasDictIn K C=true/\Î0 K (.ref C) (.ref c0)=some b0/\Î0 K (.ref C) (.ref c1)=some b1/\Î0 K (.ref C) (.ref c2)=some b2/\∀ l,H l=none->Q (.ref l) (upd H l (.lst [.bl b0,.bl b1,.bl b2]))
section
variable {X:Cx}{c0 c1 c2:Ç}{x x0 x1 x2:Str}{p p0 p1 p2 p3 q0 q1 q2 q3 r0 r1 r2 r3:Pos}
theorem J51(hN:X.N[1]?=some ("_law_error":Str))(hv:Vis X.env.scope "_law_error")(hi:Gl X "isinstance")(Ti:X.mg "isinstance"=none)(hc:PE X (.Name x p2) (tC c))(hcv:(∃ C,c=.ref C/\cv=.ref C)∨∃ T,c=.ty T/\cv=.type T):PE X (.Call (.Name "isinstance" p0) [.Name "_law_error" p1,.Name x p2] [] p3) (tIs X.K c cv) :=
 λpins s σ H Q I q=>by
  obtain⟨a,C,b,e,h1,h2,h3,h4,h5⟩:=q;have g:=t20 (p:=p0) (pos:=p3) k41 hi Ti L00 (d90 (h00 (i:=1) (pos:=p1) hN hv) (d90 hc n00));exact g pins s σ H Q I ⟨_,e,a,C,_,_,b,rfl,hcv,h1,h2,h3,h4,h5⟩
theorem d61(hN:X.N[1]?=some ("_law_error":Str))(hv:Vis X.env.scope "_law_error")(hi:Gl X "isinstance")(Ti:X.mg "isinstance"=none)(g0:PE X (.Name x0 p2) (tC (.ref c0)))(g1:PE X (.Name x1 q2) (tC (.ref c1)))(g2:PE X (.Name x2 r2) (tC (.ref c2))) :
  PE X (.List [.Call (.Name "isinstance" p0) [.Name "_law_error" p1,.Name x0 p2] [] p3,.Call (.Name "isinstance" q0) [.Name "_law_error" q1,.Name x1 q2] [] q3,.Call (.Name "isinstance" r0) [.Name "_law_error" r1,.Name x2 r2] [] r3] p) (S82 X.K c0 c1 c2) :=
 λpins s σ H Q I q=>by
  obtain⟨a,C,b0,b1,b2,e,h1,h2,h3,k0,k1,k2,h5⟩:=q;exact o61 (d90 (J51 hN hv hi Ti g0 (.inl ⟨c0,rfl,rfl⟩)) (d90 (J51 hN hv hi Ti g1 (.inl ⟨c1,rfl,rfl⟩)) (d90 (J51 hN hv hi Ti g2 (.inl ⟨c2,rfl,rfl⟩)) n00))) pins s σ H Q I
   ⟨a,C,b0,e,h1,h2,h3,k0,a,C,b1,e,h1,h2,h3,k1,a,C,b2,e,h1,h2,h3,k2,B50 (by show 3<=64;decide),h5⟩
end
theorem n52{st:Â3}{f:Ç}{fd:Â5}{k n:Nat}(F:Fun K "_law_refused" "_law_refused" st f fd)(es:c20 st=t80)(eb:i00 st=X80 n)(Ti:mg "isinstance"=none)(Tr:mg "range"=none):Q60 P w K mg base CX0 (k + 1) f fd ["_law_call"] (Z61 P w K mg base k):=by
 refine F.okS (by rw[es];exact scR) (λs vs H Q E h=>?_) (λcdv A outer s H vs Q E hr h=>?_)
 ·obtain⟨f,C,j,RR,rfl,_⟩:=h;rfl
 ·obtain⟨g,C,j,RR,rfl,th,R,q⟩:=h;have hsc:=n42;rw[es] at hr;rw[es,eb];unfold X80;clear eb;obtain⟨c0,m0,k0⟩:=R.cl 0 _ rfl;obtain⟨c1,m1,k1⟩:=R.cl 1 _ rfl;obtain⟨c2,m2,k2⟩:=R.cl 2 _ rfl;obtain⟨c3,m3,k3⟩:=R.cl 3 _ rfl;obtain⟨c4,m4,k4⟩:=R.cl 4 _ rfl;obtain⟨c5,m5,k5⟩:=R.cl 5 _ rfl;obtain⟨c6,m6,k6⟩:=R.cl 6 _ rfl;obtain⟨c7,m7,k7⟩:=R.cl 7 _ rfl;obtain⟨c8,m8,k8⟩:=R.cl 8 _ rfl;obtain⟨c9,m9,k9⟩:=R.cl 9 _ rfl;obtain⟨c10,m10,k10⟩:=R.cl 10 _ rfl;obtain⟨c11,m11,k11⟩:=R.cl 11 _ rfl;obtain⟨D,mD,kD⟩:=R.ce;refine⟨_,e30 (r00 (i:=1) scR.nd rfl (Ð7 rfl) n61)
   (e30 (s21 (i:=0) (j:=1) (f:=g) (C:=C) (D:=D) (k:=k) rfl rfl rfl hr th rfl (Ð7 rfl) (-0) (-0) rfl mD (-0) kD rfl (by show ¬ (("e":Str)∈z22);decide +kernel) (-0) scR.nd rfl (Ð7 rfl) rfl)
   (e30 (r00 (i:=2) scR.nd rfl (Õ9 rfl) (d61 rfl (Ð7 rfl) rfl Ti (g20 rfl m0 rfl) (g20 rfl m1 rfl) (g20 rfl m2 rfl)))
   (e30 (r00 (i:=2) scR.nd rfl (Õ9 rfl) (F11 p21 (pv 2) (d61 rfl (Ð7 rfl) rfl Ti (g20 rfl m3 rfl) (g20 rfl m4 rfl) (g20 rfl m5 rfl))))
   (e30 (r00 (i:=2) scR.nd rfl (Õ9 rfl) (F11 p21 (pv 2) (d61 rfl (Ð7 rfl) rfl Ti (g20 rfl m6 rfl) (g20 rfl m7 rfl) (g20 rfl m8 rfl))))
   (e30 (r00 (i:=2) scR.nd rfl (Õ9 rfl) (F11 p21 (pv 2) (d61 rfl (Ð7 rfl) rfl Ti (g20 rfl m9 rfl) (g20 rfl m10 rfl) (g20 rfl m11 rfl))))
   (e30 (E81 (Q11 (c01 (J51 (cv:=.type "ValueError") rfl (Ð7 rfl) rfl Ti (I40 (v:=.ty "ValueError") rfl R.nv Q90 rfl) (.inr ⟨_,rfl,rfl⟩)))) (n81 (c31 n61)) I50)
   (n81 (c31 (p91 (own:=["_law_k"]) (capt:=[("_law_marks",2)]) rfl (by exact o00.of (scX:=t80) (N:=z22) rfl rfl hsc) (O60 rfl Tr (d90 O40 n00))
    (λcl C s H fp=>W40 (i:=0) ndR rfl (Ð7 rfl)) (λcl C s H fp=>p81 (c01 (W91 (J31 K) (pv 1) (pv 0) (λ_ _=>rfl)))) (λcl C s H fp=>pv 0)))))))))),?_⟩
  refine⟨rfl,a30.refl H,λa H1 s1 na=>?_⟩;have hX:m82 (upd H1 a (.ext (excAt a C))) a C:=b00;have keep:∀ {H'},a30 (upd H1 a (.ext (excAt a C))) H'->m82 H' a C:=λsm=>sm _ _ hX;refine⟨a,C,_,_,_,rfl,hX,R.lk,R.hd,k0,k1,k2,λl1 hl1=>?_⟩;have t1:=a30.new (.lst [.bl (decide (0=j)),.bl (decide (1=j)),.bl (decide (2=j))]) hl1;refine⟨_,rfl,a,C,_,_,_,rfl,keep t1,R.lk,R.hd,k3,k4,k5,λl2 hl2=>?_⟩;have t2:=a30.new (.lst [.bl (decide (3=j)),.bl (decide (4=j)),.bl (decide (5=j))]) hl2;refine⟨l1,l2,_,_,rfl,rfl,t2 _ _ b00,b00,B50 (by show 3 + 3<=64;decide),λl3 hl3=>?_⟩
  have t3:=t1.trans (t2.trans (a30.new (.lst ([.bl (decide (0=j)),.bl (decide (1=j)),.bl (decide (2=j))]++[.bl (decide (3=j)),.bl (decide (4=j)),.bl (decide (5=j))])) hl3));refine⟨_,rfl,a,C,_,_,_,rfl,keep t3,R.lk,R.hd,k6,k7,k8,λl4 hl4=>?_⟩;have t4:=a30.new (.lst [.bl (decide (6=j)),.bl (decide (7=j)),.bl (decide (8=j))]) hl4;refine⟨l3,l4,_,_,rfl,rfl,t4 _ _ b00,b00,B50 (by show 6 + 3<=64;decide),λl5 hl5=>?_⟩
  have t5:=t3.trans (t4.trans (a30.new (.lst ([.bl (decide (0=j)),.bl (decide (1=j)),.bl (decide (2=j))]++[.bl (decide (3=j)),.bl (decide (4=j)),.bl (decide (5=j))]++[.bl (decide (6=j)),.bl (decide (7=j)),.bl (decide (8=j))])) hl5));refine⟨_,rfl,a,C,_,_,_,rfl,keep t5,R.lk,R.hd,k9,k10,k11,λl6 hl6=>?_⟩;have t6:=a30.new (.lst [.bl (decide (9=j)),.bl (decide (10=j)),.bl (decide (11=j))]) hl6;refine⟨l5,l6,_,_,rfl,rfl,t6 _ _ b00,b00,B50 (by show 9 + 3<=64;decide),λl7 hl7=>?_⟩
  have t7:=t5.trans (t6.trans (a30.new (.lst (B90 j)) hl7));refine⟨a,C,_,rfl,keep t7,R.lk,R.hd,R.ve,_,rfl,Q42 ?_⟩;refine⟨12,rfl,by decide,by decide,I21 (lo:=0) (n:=12) (λi ys H'=>a30 (upd H1 a (.ext (excAt a C))) H'/\H' l7=some (.lst (B90 j))/\ys=if j < i then [.int j] else []) (B50 (-0)) ⟨t7,b00,by rw[if_neg ∅]⟩ (λi ys H' p=>by rw[p.2.2];split <;> simp <;> omega) ?_ ?_⟩
  ·rintro i ys H' hi ⟨s8,h8,rfl⟩;refine gN ?_;refine⟨_,rfl,_,rfl,l7,B90 j,0 + (i:Int),.bl (decide (i=j)),rfl,rfl,SqL.of h8,J41 hi,_,rfl,?_⟩;refine Q52 (λe=>?_) (λe=>?_)
   ·have ej:i=j:=of_decide_eq_true e;subst ej;refine⟨_,rfl,s8,h8,?_⟩;rw[if_neg ∅,if_pos ∅,Ú2];rfl
   ·have ej:¬ i=j:=λz=>e (decide_eq_true z);refine⟨s8,h8,?_⟩;by_cases hj:j < i
    ·rw[if_pos hj,if_pos ∅]
    ·rw[if_neg hj,if_neg ∅]
  ·rintro ys H' p ⟨s8,_,rfl⟩ hp;rw[if_pos R.lt];exact q p H1 H' s1 ((a30.new _ na).trans s8) hp
end
end L2
namespace SS
open PySem
def bts(m:Nat):List Nat:=(ð 8).filter λi=>m.testBit i
def add(m v:Nat):Nat:=m ||| 2 ^ v
def tbl(led:Bool)(m:Nat):SetTable:=if (bts m).length < 5 then⟨7,(bts m).toArray,#[],0,led,0,true⟩ else⟨31,(bts m).toArray,#[],0,led,1,true⟩
def n01(led:Bool)(m v:Nat):SetTable:={ tbl led m with place:=(bts (add m v)).toArray }
def pos(m v:Nat):Nat:=((bts m).filter (· < v)).length
def hs(m:Nat):Array Int:=((bts m).map Int.ofNat).toArray
def full(led:Bool)(m v:Nat):Bool:=if (n01 led m v).tooFull then decide ((n01 led m v).relaid (hs (add m v)) (Î9.grown ((bts m).length + 1))=some (tbl led (add m v),(ð ((bts m).length + 1)).toArray)) else decide (n01 led m v=tbl led (add m v))
def chk(led:Bool)(m v:Nat):Bool:=if m.testBit v then decide (add m v=m) else decide (add m v < 256)&&decide ((tbl led m).freeSlot (v:Int)=some (v,false))&&decide ((tbl led m).put v=(n01 led m v,pos m v))&&(n01 led m v).fits ((bts m).length + 1) &&
 decide ((bts m).take (pos m v)++v::(bts m).drop (pos m v)=bts (add m v))&&decide ((bts (add m v)).length=(bts m).length + 1)&&(tbl led (add m v)).fits ((bts m).length + 1)&&full led m v
theorem Z71:([true,false].all λled=>(ð 256).all λm=>(tbl led m).fits (bts m).length&&(ð 8).all λv=>chk led m v)=true:=by decide +kernel
theorem C00(led:Bool)(hm:m < 256):(tbl led m).fits (bts m).length=true/\∀ v,v < 8->chk led m v=true:=by
 have h:=Ú.mp (Ú.mp Z71 led (by cases led <;> simp)) m (Ä2.mpr hm)
 rw[Á] at h;exact⟨h.1,λv hv=>Ú.mp h.2 v (Ä2.mpr hv)⟩
theorem C10:i∈bts m↔i < 8/\m.testBit i=true:=by unfold bts;rw[mem_filter,mem_range]
abbrev led(w:ê):Bool:=!(w.params.followText "set-order")
def ent(g:Nat->Tok)(m:Nat):Array (Int × Ä):=((bts m).map λ(i:Nat)=>((i:Int),Å9 i (g i))).toArray
def y90(w:ê)(h:ë)(a:Ç)(m:Nat):Prop:=∃ o ep g,h.get? a=some o/\o.ExactSet/\o.data=.set (ent g m) ep (tbl (led w) m)
theorem e00(g:Nat->Tok)(m:Nat):(ent g m).size=(bts m).length:=by unfold ent;simp
theorem Z81(g:Nat->Tok)(u:Tok)(hv:m.testBit v=false)(h:(bts m).take (pos m v)++v::(bts m).drop (pos m v)=bts (add m v)):Î9.insertAt (ent g m) (pos m v) ((v:Int),Å9 v u)=ent (λi=>if i=v then u else g i) (add m v):=by
 have hne:∀ i∈bts m,i≠v:=λi hi e=>by subst e;rw[(C10.mp hi).2] at hv;cases hv
 have e1:(bts m).map (λ(i:Nat)=>((i:Int),Å9 i (g i)))=(bts m).map λ(i:Nat)=>((i:Int),Å9 i (if i=v then u else g i)):=É0 λi hi=>by rw[if_neg (hne i hi)]
 unfold ent;rw[← h,e1];apply Ú4.mp;unfold Î9.insertAt;simp;exact Ë9 (by simp)
theorem J61(g:Nat->Tok)(m:Nat):(ent g m).map (·.1)=hs m:=by
 unfold ent hs;rw[map_toArray,ï];rfl
theorem J71{α:Type}(xs:Array α):((ð xs.size).toArray).filterMap (xs[·]?)=xs:=by
 apply Ú4.mp;rw[Array.toList_filterMap];exact PySem.W.krv_all xs
section
variable {P:à}{w:ê}{A:ö}{E:Ä->Æ->Prop}{s:Æ}{a:Ç}{m:Nat}
theorem H00{v:Nat}(h:v < 8):(Ù1 P w).hash (v:Int)=v:=by
 have:∀ v:Nat,v < 8->hashInt (v:Int)=v:=by decide
 exact this v h
theorem elems(g:Nat->Tok)(m:Nat):ElemsOf (Ù1 P w) (ent g m).toList:=λe he=>by
 unfold ent at he;obtain⟨i,hi,rfl⟩:=Ù.mp he;exact⟨⟨i,Û4 _ _ _ _,(H00 (C10.mp hi).1).symm⟩,rfl⟩
theorem D92(g:Nat->Tok){v:Nat}(u:Tok){led:Bool}(hm:m < 256)(hv:v < 8)(hb:m.testBit v=false):layNew (tbl led m) (ent g m) (v:Int) (.int v u)=(ent (λi=>if i=v then u else g i) (add m v),n01 led m v,false,false):=by
 have h:=(C00 led hm).2 v hv;unfold chk at h;rw[hb,if_neg Ï] at h;simp only[Á,decide_eq_true_eq] at h;obtain⟨⟨⟨⟨⟨⟨⟨_,h1⟩,h2⟩,h3⟩,h4⟩,h5⟩,_⟩,_⟩:=h;unfold layNew;rw[h1];dsimp only;rw[h2];dsimp only;rw[Z81 g u hb h4,e00,h5];unfold Î9.orStandIn;rw[h3];rfl
theorem Z91(g:Nat->Tok){v:Nat}{led:Bool}(hm:m < 256)(hv:v < 8)(hb:m.testBit v=false)(ht:(n01 led m v).tooFull=true):relayAll (n01 led m v) (ent g (add m v)) (Î9.grown (ent g (add m v)).size)=(ent g (add m v),tbl led (add m v),false):=by
 have h:=(C00 led hm).2 v hv;unfold chk at h;rw[hb,if_neg Ï] at h;simp only[Á,decide_eq_true_eq] at h;obtain⟨⟨⟨⟨⟨⟨⟨_,_⟩,_⟩,_⟩,_⟩,h5⟩,h6⟩,h7⟩:=h;unfold full at h7;rw[if_pos ht,decide_eq_true_eq] at h7;unfold relayAll;rw[J61,e00,h5,h7];dsimp only;have e:((ð ((bts m).length + 1)).toArray).filterMap ((ent g (add m v))[·]?)=ent g (add m v):=by
  have:=J71 (ent g (add m v));rw[e00,h5] at this;exact this
 rw[e,e00,h5,h6];have c:coversAll (ð ((bts m).length + 1)).toArray ((bts m).length + 1)=true:=by
  unfold coversAll;rw[List.isPerm_iff]
 rw[c];rfl
theorem R51(hm:m < 256)(hv:v < 8):add m v < 256:=by
 have h:=(C00 true hm).2 v hv;unfold chk at h;cases hb:m.testBit v with
 |true=>rw[hb,if_pos rfl,decide_eq_true_eq] at h;rw[h];exact hm
 |false =>
  rw[hb,if_neg Ï] at h;simp only[Á,decide_eq_true_eq] at h;exact h.1.1.1.1.1.1.1
theorem add_same(hm:m < 256)(hv:v < 8)(hb:m.testBit v=true):add m v=m:=by
 have h:=(C00 true hm).2 v hv;unfold chk at h;rw[hb,if_pos rfl,decide_eq_true_eq] at h;exact h
theorem n62{v:Nat}(hm:m < 256)(hv:v < 8)(hS:y90 w s.heap a m)(h:∀ b h',Ì2 a s.heap h'->y90 w h' a (add m v)->Q b { s with heap:=h' }) :
  Ñ (Ö P w) A (setAddHashed a (.int v u) ((Ù1 P w).hash v)) Q E s:=by
 obtain⟨o,ep,g,ho,hex,hd⟩:=hS;have hf:(tbl (led w) m).fits (ent g m).size=true:=by rw[e00];exact(C00 _ hm).1
 have hsz:(bts m).length<=8:=Þ (É4 _ _) (by simp)
 have hb:(ent g m).size < scanBound:=by rw[e00];unfold scanBound;omega
 have hel:=elems (P:=P) (w:=w) g m;unfold setAddHashed setAddHashedIn;refine Á0 (À (Ó2 ho hd hf ?_));dsimp only;rw[byScan_of (knd:=Ù1 P w) rfl hb hel];simp only[↓reduceIte];unfold setAddByScan;refine À ?_;refine À (É9 ?_);refine À (wpAny_setScan_of (Û4 _ _ _ _) ho hd hf hel ?_);cases hr:List.findIdx? (λe=>(Ù1 P w).is (v:Int) e.2) (ent g m).toList with
 |some j =>
  dsimp only;obtain⟨hj,hpj,_⟩:=List.findIdx?_eq_some_iff_getElem.mp hr;have hmem:(ent g m).toList[j]∈(ent g m).toList:=Æ4 hj;unfold ent at hmem;obtain⟨i,hi,e⟩:=Ù.mp hmem;rw[show(ent g m).toList[j]=((i:Int),Å9 i (g i)) from e.symm] at hpj;have hiv:i=v:=by
   have:=(Ù1 P w).inj _ _ _ hpj (Û4 P w i (g i));omega
  subst hiv;have q:=h false s.heap (Ì2.refl a s.heap) (by rw[add_same hm hv (C10.mp hi).2];exact⟨o,ep,g,ho,hex,hd⟩)
  exact Å (Å q)
 |none =>
  dsimp only;have hbt:m.testBit v=false:=by
   cases hk:m.testBit v with
   |false=>rfl
   |true =>
    have:((v:Int),Å9 v (g v))∈(ent g m).toList:=Ù.mpr ⟨v,C10.mpr ⟨hv,hk⟩,rfl⟩;have:=List.findIdx?_eq_none_iff.mp hr _ this;rw[Û4] at this;cases this
  rw[H00 hv,D92 g u hm hv hbt];have hgw:∀ (b:Bool) {s₁:Æ}{Q':Unit->Æ->Prop},Q' () s₁->Ñ (Ö P w) A (match b with | true=>rule "set.scan.the-table-gave-way" | false=>pure ()) Q' E s₁:=λb s₁ Q' hq=>by cases b <;> first | exact Å hq | exact É9 hq
  dsimp only;refine À (Å ?_);have hpl:(n01 (led w) m v).plain=true:=by unfold n01 tbl;split <;> rfl
  rw[if_pos hpl,hashByValue_scannable 8 rfl];refine À (Å ?_);simp only[plainKind,↓reduceIte];have hk:=(C00 (led w) hm).2 v hv;unfold chk at hk;rw[hbt,if_neg Ï] at hk;simp only[Á,decide_eq_true_eq] at hk;obtain⟨⟨_,h6⟩,h7⟩:=hk;have hlt:=R51 hm hv;have hsz2:(bts (add m v)).length<=8:=Þ (É4 _ _) (by simp)
  have hb2:∀ g,(ent g (add m v)).size<=sizeLine:=λg=>by rw[e00,Á4];omega
  have get:∀ {h0:ë}{o:Obj}{es ep t} (es':Array (Int × Ä)) (t':Î9),h0.get? a=some o->o.data=.set es ep t->(h0.update a (Obj.putSet es' t')).get? a=some { o with data:=.set es' (ep + 1) t' }:=λ{h0 o es ep t} es' t' e1 e2=>by
   have:=Ç5 (Obj.putSet es' t') e1 (by rw[putSet_of es' t' e2];rfl)
   rw[putSet_of es' t' e2] at this;exact this
  refine À (wpAny_storeSet_of ho hd ?_ (hb2 _));have g1:=get (ent (λi=>if i=v then u else g i) (add m v)) (n01 (led w) m v) ho hd;have sb1:=Å8 s.heap a (Obj.putSet (ent (λi=>if i=v then u else g i) (add m v)) (n01 (led w) m v));simp only[Bool.not_false,Ä9];unfold full at h7;split
  ·rename_i ht;rw[if_pos ht] at h7;rw[Z91 _ hm hv hbt ht];dsimp only;refine À (Å ?_);refine À (wpAny_storeSet_of g1 rfl ?_ (hb2 _));exact Å (Å (h _ _ (sb1.trans (Å8 _ a _)) ⟨_,_,_,get _ _ g1 rfl,hex,rfl⟩))
  ·rename_i ht;rw[if_neg ht,decide_eq_true_eq] at h7;exact Å (Å (h _ _ sb1 ⟨_,ep + 1,_,g1,hex,congrArg _ h7⟩))
end
open PySem PySem.W PyProof.Rows
def met(val:Nat->Nat):Nat->Nat
 |0=>0|i + 1=>add (met val i) (val i)
theorem s41(h:∀ i,val i < 8):∀ i,met val i < 256
 |0=>by show(0:Nat) < 256;decide|i + 1=>R51 (s41 h i) (h i)
section
variable {P:à}{w:ê}{A:ö}
theorem y90.keep(x:y90 w h a m)(k:∀ o,h.get? a=some o->h'.get? a=some o):y90 w h' a m:=by
 obtain⟨o,ep,g,ho,r⟩:=x;exact⟨o,ep,g,k o ho,r⟩
theorem a02{R:Result->Æ->Prop}{I:Ç}{fp wr:List Ç}{G:Array Ý2->Array Ý2->Prop}{n:Nat}{Pv:Nat->Ä->Prop}{St:Nat->Æ->Prop}(W:WalksS P w A.in1 I fp wr G n Pv St)(S:Ç)(hf:S ∉ fp){val:Nat->Nat}(hv:∀ i,val i < 8)(hp:∀ i v,Pv i v->∃ t,v=.int (val i) t) :
  ∀ (k i:Nat) (s:Æ),i + k=n->St i s->y90 w s.heap S (met val i)->(∀ s',Moved (S::wr) G s s'->y90 w s'.heap S (met val n)->R (.ok (.ret .none)) s')->Î4 (Ö P w) A (.builtin "set.update.loop" ⟨[.ref S,.ref I],[]⟩) R s:=by
 have hw:S ∉ wr:=λh=>hf (W.sub _ h);intro k
 induction k with
 |zero =>
  intro i s hk st x q;have hk:i=n:=hk;subst hk;refine Â4 F.entry_set_update_loop ?_;rw[Â8 Ô0 _];refine À (m:=Ñ8 (.ref I)) (W.done s _ _ st λs1 mv=>?_);exact Å (q s1 (mv.mono λb hb=>Ê _ hb) (x.keep λo=>mv.heap S o hw))
 |succ k ih =>
  intro i s hk st x q;refine Â4 F.entry_set_update_loop ?_;rw[Â8 Ô0 _];refine À (m:=Ñ8 (.ref I)) (W.item i s _ _ ∅ st λv s1 pv st1 mv=>?_)
  obtain⟨t,rfl⟩:=hp i v pv;refine À (m:=Ù2 _ (setAdd S (.int (val i) t))) (Á0 ?_);unfold setAdd;refine Á0 (À ((Ù1 P w).pyHash (k:=(val i:Int)) (Û4 _ _ _ _) ?_));refine n62 (s:={ s1 with toks:=s1.toks + 1 }) (s41 hv i) (hv i) (x.keep λo=>mv.heap S o hw) λb h2 sb x2=>?_;have off:∀ c o,c≠S->s1.heap.get? c=some o->h2.get? c=some o:=λc o hc e=>(sb.2 c hc).trans e;refine Å ⟨Î3 Ô0 _,ih (i + 1) _ ∅ (W.frame _ s1 _ _ st1 (le_succ _) λc hc o e=>off c o (λz=>hf (z ▸ hc)) e) x2 λs2 mv2 x3=>?_⟩
  exact q s2 (Moved.trans W.gtrans ((mv.mono λb hb=>Ê _ hb).then_heap (le_succ _) λc o hc e=>off c o (λz=>hc (z ▸ Ì)) e) mv2) x3
end
section
variable {P:à}{w:ê}{A:ö}{E:Ä->Æ->Prop}{s:Æ}
abbrev R61(w:ê):Obj:={ cls:=.type "set",dict:=none,data:=.set #[] 0 (.fresh 0 0 (led w)) }
theorem a12(a:Ä)(h:Q (.ref s.heap.objs.size) { s with heap:=s.heap.push (R61 w) }):Î4 (Ö P w) A (.call (.builtin "set.__new__") ⟨[.type "set",a],[]⟩) (wants Q E) s:=by
 refine ß6 ?_;refine À (m:=Ô5 _ _) (Þ9 (F.newCall_set_1 a) (Å ⟨Î3 F.plain_set_new _,Â4 F.entry_set_new ?_⟩));rw[Â8 F.plain_set_new _];have hsub:=sub_set_self;obtain⟨hp,g,d,tk,os⟩:=s;unfold À3.«set.__new__» À3.Frozenset.newClass;dsimp only
 wp_walk
 refine Í8 (Å ?_);dsimp only;simp only[newObj];exact À (wpAny_alloc (Å (Å h)))
theorem a22{h:ë}:y90 w (h.push (R61 w)) h.objs.size 0:=⟨_,0,λ_=>0,Ë _ rfl,⟨rfl,rfl,rfl⟩,rfl⟩
structure S92(P:Program)(w:World)(T:String)(l:Addr)(o it:Obj)(n:Nat)(Pv:Nat->Value->Prop)(St:Addr->Nat->Heap->Prop):Prop where
 ty:o.cls=.type T
 f1:isSubtype (.type T) (.type "set")=pure false
 f2:isSubtype (.type T) (.type "frozenset")=pure false
 f3:(Value.type T == Value.type "dict")=false
 iter:∀ (A:Around) (E:Value->Shared->Prop) (s:Shared) (Q:Value->Shared->Prop),s.heap.get? l=some o->Q (.ref s.heap.objs.size) { s with heap:=s.heap.push it }->wpAny (model P w) A (pyIter (.ref l)) Q E s
 walk:∀ (A:Around) (I:Addr),A.handled=none->l≠I->Walks P w A I [I,l] [I] n Pv (St I)
 zero:∀ h:Heap,h.get? l=some o->St h.objs.size 0 (h.push it)
set_option maxHeartbeats 3200000 in
theorem d71{T:String}{l:Ç}{o it:Obj}{n:Nat}{Pv:Nat->Ä->Prop}{St:Ç->Nat->ë->Prop}{val:Nat->Nat}{Q:Ä->Æ->Prop}(D:S92 P w T l o it n Pv St)(hh:A.handled=none)(ho:s.heap.get? l=some o)(hv:∀ i,val i < 8)(hp:∀ i v,Pv i v->∃ t,v=.int (val i) t)
  (h:∀ (h':ë) (tk:Nat),y90 w h' s.heap.objs.size (met val n)->(∀ b u,s.heap.get? b=some u->h'.get? b=some u)->Q (.ref s.heap.objs.size) { s with heap:=h',toks:=tk }):Ñ (Ö P w) A (call (.type "set") [.ref l]) Q E s:=by
 obtain⟨c,tl,hmro⟩:=Ê3.mro;have hmade:=Ê3.made;have hsub:=Ê3.sub;have h1:=Ê3.notType;have h2:=Ê3.canCreate;have hct:=F.typeCall_set_1 (.ref l);refine Ñ6 (ß6 ?_);show Ñ _ _ (callAny (.type "set") _) _ _ _;refine Å ⟨Ö7 _ (by decide +kernel),Â4 F.entry_type_call ?_⟩
 rw[ö.under_plain (weight_type_call_type "set" [.ref l] []) rfl]
 repeat (any_goals (first | assumption | wp_step))
 refine Æ8 (a12 (.ref l) (E:=E) (Q:=λv s1=>v=.ref s.heap.objs.size/\s1={ s with heap:=s.heap.push (R61 w) }) ⟨rfl,rfl⟩) λr s1 hr=>?_;cases r with
 |error e=>exact hr
 |ok fl =>
  cases fl with
  |ret v =>
   obtain⟨rfl,rfl⟩:=hr;have hT:Ý4 { s with heap:=s.heap.push (R61 w) } (.ref s.heap.objs.size) "set":=⟨_,Ë _ rfl,rfl⟩;have hli:=Ê3.init.lookup;have hbi:=Ê3.init.bind (.ref s.heap.objs.size);have lS:l < s.heap.objs.size:=á ho;have ho1:(s.heap.push (R61 w)).get? l=some o:=Ã _ ho
   repeat (any_goals (first | assumption | wp_step))
   refine Æ8 (Ø6 (R:=wants (λr s2=>r=.none/\∃ h' tk,s2={ s with heap:=h',toks:=tk }/\y90 w h' s.heap.objs.size (met val n)/\∀ b u,s.heap.get? b=some u->h'.get? b=some u) E) Ê3.init.plain F.entry_set_init (check_set_init_1 hT ?_)) λr2 s2 hr2=>?_
   ·have f1:=D.f1;have f2:=D.f2;have f3:=D.f3;obtain⟨ocls,odict,odata,oslots⟩:=o;have hc:ocls=.type T:=D.ty;subst hc;unfold À3.«set.__init__» noKeywords À3.Frozenset.updateFrom;generalize hPI:pyIter=PI
    wp_walk
    subst hPI;refine D.iter _ _ _ _ ho1 ?_;refine À (Ø1 ?_);have hI:(s.heap.push (R61 w)).objs.size=s.heap.objs.size + 1:=Ë6 ..;have nI:l≠(s.heap.push (R61 w)).objs.size:=by rw[hI];exact Ü (Å1 lS)
    have nS:s.heap.objs.size ∉ [(s.heap.push (R61 w)).objs.size,l]:=by
     rw[hI];simp only[Ã1,À6,or_false,not_or];exact⟨Ü (Ì3 _),Ê7 lS⟩
    refine a02 ((D.walk _ _ (by simp[hh]) nI).toS) s.heap.objs.size nS hv hp n 0 _ (Nat.zero_add _) (D.zero _ ho1) (a22.keep λu e=>Ã _ e) λs' mv x=>?_
    obtain⟨h',g',d',tk',os'⟩:=s';have eg:g'=s.gens:=mv.gens;have ed:d'=s.drawn:=mv.drawn;have eo:os'=s.os:=mv.os;subst eg;subst ed;subst eo;refine Å (Å ⟨rfl,h',tk',rfl,x,λb u e=>?_⟩);have lb:=á e;refine mv.heap b u (λz=>?_) (Ã _ (Ã _ e));simp only[Ã1,À6,or_false] at z;rw[hI] at z;rcases z with z | z
    ·exact Ü lb z
    ·exact Ü (Å1 lb) z
   ·cases r2 with
    |error e=>exact hr2
    |ok fl2 =>
     cases fl2 with
     |ret r =>
      obtain⟨rfl,h',tk,rfl,x,kp⟩:=hr2
      repeat (any_goals (first | assumption | wp_step))
      exact h _ _ x kp
     |_=>exact hr2.elim
  |_=>exact hr.elim
end
def d81(m:Nat):Nat->Nat
 |0=>0|i + 1=>(bts m).getD i 0 + 1
theorem s51:((ð 256).all λm=>(ð ((bts m).length + 1)).all λi=>Î9.below (bts m).toArray (d81 m i) == i)=true:=by decide +kernel
theorem below_at(hm:m < 256)(hi:i<=(bts m).length):Î9.below (bts m).toArray (d81 m i)=i :=
 eq_of_beq (Ú.mp (Ú.mp s51 m (Ä2.mpr hm)) i (Ä2.mpr (Ú0 hi)))
theorem l10:∀ {l:List α}{i:Nat} (h:i < l.length),(l[i]::l.eraseIdx i).Perm l
 |x::r,0,_=>.refl _|x::r,i + 1,h=>(ß7.swap x _ _).trans ((l10 (l:=r) (i:=i) (à1 h)).cons x)
theorem s61(next:Nat->Nat):∀ (n k:Nat) (left:List α) (out:Array α),left.length=n->((Þ3.go next n k left out).toList).Perm (out.toList++left)
 |0,k,left,out,h=>by
  have:left=[]:=Ü0 h;subst this;simp[Þ3.go]
 |n + 1,k,left,out,h=>by
  have hl:next k % left.length < left.length:=Nat.mod_lt _ ∅
  have e:left[next k % left.length]?=some left[next k % left.length]:=List.getElem?_eq_getElem hl;unfold Þ3.go;rw[e];refine(s61 next n (k + 1) _ _ (by rw[Ï4 hl];omega)).trans ?_
  rw[Array.toList_push,É7];exact ß7.append_left _ (l10 hl)
theorem s71(next:Nat->Nat)(xs:Array α):(Þ3 next xs).toList.Perm xs.toList:=by
 have:=s61 next xs.size 0 xs.toList #[] (by simp)
 rw[Í1] at this;exact this
def ord(w:ê)(a ep:Nat)(es:Array (Int × Ä)):Array (Int × Ä):=if w.params.followText "set-order" then Þ3 (w.params.setOrder a ep) es else es
theorem d91(w:ê)(a ep:Nat)(es:Array (Int × Ä)):(ord w a ep es).toList.Perm es.toList:=by
 unfold ord;split
 ·exact s71 _ _
 ·exact .refl _
theorem L10(w:ê)(a ep:Nat)(es:Array (Int × Ä)):(ord w a ep es).size=es.size:=by
 have:=(d91 w a ep es).length_eq;simpa using this
def s81(w:ê)(m i:Nat):Nat:=if w.params.followText "set-order" then 0 else d81 m i
def itO(w:ê)(S ep n m i:Nat):Obj:={ cls:=.type "set_iterator",data:=.fields #[Ã6 (s81 w m i),Ã6 i,.ref S,Ã6 n,Ã6 ep] }
theorem d20:Slot "set_iterator" "__next__" "set_iterator.__next__":=.of (owner:="set_iterator") (n:="__next__") (by rw[typeLookup_type,builtinLookup_eq_fast];kernel_rfl) (by decide +kernel) (by decide +kernel) (by decide +kernel) (by first | exact .inl (by decide +kernel) | exact .inr (by decide +kernel)) (by rw[Ò1];kernel_rfl)
theorem o20:Slot "set_iterator" "__iter__" "set_iterator.__iter__":=.of (owner:="set_iterator") (n:="__iter__") (by rw[typeLookup_type,builtinLookup_eq_fast];kernel_rfl) (by decide +kernel) (by decide +kernel) (by decide +kernel) (by first | exact .inl (by decide +kernel) | exact .inr (by decide +kernel)) (by rw[Ò1];kernel_rfl)
theorem n20:entryFor table "set_iterator.__next__"=some À3.«set_iterator.__next__»:=entryFor_of_tree (by kernel_rfl)
theorem F80:entryFor table "set.__iter__"=some À3.«frozenset.__iter__»:=entryFor_alias (id':="frozenset.__iter__") (by kernel_rfl) rfl (by decide +kernel) (by kernel_rfl)
theorem z00:entryFor table "set_iterator.__iter__"=some À3.«dict_keyiterator.__iter__»:=entryFor_alias (id':="dict_keyiterator.__iter__") (by kernel_rfl) rfl (by decide +kernel) (by kernel_rfl)
theorem C20:Manifest.owners.lookup (String.ofList "rotareti_tes".toList.reverse)=some Manifest.sig_set_iterator:=by kernel_rfl
theorem o30(a:Ä):argsOk "set_iterator.__next__" ⟨[a],[]⟩:=by
 unfold argsOk;rw[signature?_of (id:="set_iterator.__next__") (n:="__txen__".toList) (o:="rotareti_tes".toList) (by kernel_rfl) C20];kernel_rfl
theorem C30(a:Ä):argsOk "set_iterator.__iter__" ⟨[a],[]⟩:=by
 unfold argsOk;rw[signature?_of (id:="set_iterator.__iter__") (n:="__reti__".toList) (o:="rotareti_tes".toList) (by kernel_rfl) C20];kernel_rfl
section
variable {P:à}{w:ê}{A:ö}{E:Ä->Æ->Prop}{s:Æ}{S ep m:Nat}{g:Nat->Tok}{o:Obj}
theorem R00(b:Bool)(m:Nat):(tbl b m).plain=true:=by unfold tbl;split <;> rfl
theorem a32(b:Bool)(m:Nat):(tbl b m).led=b:=by unfold tbl;split <;> rfl
theorem s91(b:Bool)(m:Nat):(tbl b m).place=(bts m).toArray:=by unfold tbl;split <;> rfl
theorem L20(hm:m < 256):(tbl (led w) m).fits (ent g m).size=true:=by rw[e00];exact(C00 _ hm).1
theorem J81(hm:m < 256)(ho:s.heap.get? S=some o)(hx:o.ExactSet)(hd:o.data=.set (ent g m) ep (tbl (led w) m))(h:Q (.ref s.heap.objs.size) { s with heap:=s.heap.push (itO w S ep (bts m).length m 0) }):Ñ (Ö P w) A (pyIter (.ref S)) Q E s:=by
 have hT:s.TypeIs (.ref S) "set":=⟨o,ho,hx.1⟩;have hf:=L20 (w:=w) (g:=g) hm;have hp:=R00 (led w) m;refine wpAny_pyIter_slot hT F.slot_set_iter (À8 F.slot_set_iter hT F80 ?_ (F.args_set_iter_1 _));unfold À3.«frozenset.__iter__» À3.Frozenset.slot0 slotArgs;simp only[isEmpty_nil,ß3,Ã5,↓reduceIte,bind_assoc,Â1,bne_self_eq_false];unfold À3.Frozenset.addrOf À3.Frozenset.sizeOf;refine À (Å (À (Å (À (À (Ù7 ho hd hf (Å ?_)))))));refine À ?_;have dr:Ñ (Ö P w) A.in1 (setDrawn S) (λb s'=>b=false/\s'=s) E s:=by
  unfold setDrawn setsByText;refine À (Ó2 ho hd hf (À (À (Í8 (Å (Å ⟨?_,rfl⟩))))));generalize tbl (led w) m=t at hp;obtain⟨t1,t2,t3,t4,t5,t6,t7⟩:=t;cases hp;show(!w.params.followText "set-order"&&_)=false;cases w.params.followText "set-order" <;> rfl
 refine Â2 dr (λb s' hb=>?_) λ_ _ e=>e;obtain⟨rfl,rfl⟩:=hb;rw[if_neg Ï];refine À (Å ?_);refine À (wpAny_setEpoch_of ho hd hf ?_);refine À (é (Å ⟨_,rfl,"set_iterator",_,⟨_,Ë _ rfl,rfl⟩,d20.lookup,?_⟩));have e:itO w S ep (bts m).length m 0={ cls:=.type "set_iterator",data:=.fields #[Ã6 0,Ã6 0,.ref S,Ã6 (ent g m).size,Ã6 ep] }:=by
  unfold itO s81;rw[e00];split <;> rfl
 rw[e] at h;exact h
theorem t01(hm:m < 256)(hi:i<=(bts m).length)(ho:s.heap.get? S=some o)(hd:o.data=.set (ent g m) ep (tbl (led w) m)):Ñ (Ö P w) A (setNext S (s81 w m i) i ep) (λr s'=>s'=s/\r=(ord w S ep (ent g m))[i]?.map λe=>(e.2,s81 w m (i + 1))) E s:=by
 have hf:=L20 (w:=w) (g:=g) hm;have hp:=R00 (led w) m;have hl:=a32 (led w) m;have hpl:=s91 (led w) m;unfold setNext;refine À (Ó2 ho hd hf ?_);unfold setsByText;refine À (À (Í8 (Å ?_)));dsimp only;unfold ord s81;show Ñ _ _ (if w.params.followText "set-order"=true then _ else _) _ _ _;cases hb:w.params.followText "set-order" with
 |true =>
  rw[if_pos rfl];rw[if_neg (by simp)]
  refine À ?_;unfold setWalk setsByText;refine À (Ó2 ho hd hf (À (À (Í8 (Å ?_)))));show Ñ _ _ (if w.params.followText "set-order"=true then _ else _) _ _ _;rw[hb,if_pos rfl];refine À (Í8 (Å (Å ⟨rfl,?_⟩)));simp only[↓reduceIte];rfl
 |false =>
  simp only[Ã5,↓reduceIte];have hl:(tbl (led w) m).led=true:=by rw[hl];show(!w.params.followText "set-order")=true;rw[hb];rfl
  generalize tbl (led w) m=t at hp hl hpl;obtain⟨t1,t2,t3,t4,t5,t6,t7⟩:=t;cases hp;cases hl;have hpl:t2=(bts m).toArray:=hpl;subst hpl;refine À (Å (Å ⟨rfl,?_⟩));rw[below_at hm hi];by_cases hi':i < (bts m).length
  ·have e1:(ent g m)[i]?=some (((bts m)[i]:Int),Å9 ((bts m)[i]:Nat) (g (bts m)[i])):=by unfold ent;simp[hi']
   have e2:(bts m).toArray[i]?=some (bts m)[i]:=by simp[hi']
   rw[e1,e2];show some _=some _;have e3:d81 m (i + 1)=(bts m)[i] + 1:=by show(bts m).getD i 0 + 1=_;simp[hi']
   rw[e3]
  ·have e1:(ent g m)[i]?=none:=by unfold ent;simp;omega
   rw[e1];rfl
theorem J91(hm:m < 256)(hi:i < (bts m).length)(ho:s.heap.get? S=some o)(hd:o.data=.set (ent g m) ep (tbl (led w) m))(hI:s.heap.get? I=some (itO w S ep (bts m).length m i))
  (h:∀ v h',(ord w S ep (ent g m))[i]?.map (·.2)=some v->Ì2 I s.heap h'->h'.get? I=some (itO w S ep (bts m).length m (i + 1))->Q (some v) { s with heap:=h' }):Ñ (Ö P w) A (Ñ8 (.ref I)) Q E s:=by
 have hT:s.TypeIs (.ref I) "set_iterator":=⟨_,hI,rfl⟩;have hf:=L20 (w:=w) (g:=g) hm;unfold Ñ8;refine À (Ë5 (À9 (name:=Á2 "__next__") hT d20 (À8 d20 hT n20 ?_ (o30 _))));unfold À3.«set_iterator.__next__» slotArgs;simp only[isEmpty_nil,ß3,Ã5,↓reduceIte,bind_assoc,Â1,bne_self_eq_false];refine À (Å ?_);refine À (wpAny_fieldsOf hI rfl ?_);dsimp only [Ã6];refine À (Ù7 ho hd hf ?_);rw[if_neg (by rw[e00];simp)]
 refine À (Â2 (t01 (i:=i) hm (É2 hi) ho hd) (λr s' hr=>?_) λ_ _ e=>e);obtain⟨rfl,rfl⟩:=hr;have hsz:i < (ord w S ep (ent g m)).size:=by rw[L10,e00];exact hi
 have e1:(ord w S ep (ent g m))[i]?=some (ord w S ep (ent g m))[i]:=by simp[hsz]
 simp only[À1,e1,map_some];unfold itO at hI;refine À (Ã2 hI (by simp) λh1 hI1 sb1=>?_)
 refine À (Ã2 hI1 (by simp) λh2 hI2 sb2=>?_)
 refine Å ⟨_,rfl,Å (h _ h2 (by rw[e1];rfl) (sb1.trans sb2) ?_)⟩
 unfold itO;simpa [Ã6] using hI2
theorem a42(hh:A.handled=none)(hm:m < 256)(ho:s.heap.get? S=some o)(hd:o.data=.set (ent g m) ep (tbl (led w) m))(hI:s.heap.get? I=some (itO w S ep (bts m).length m (bts m).length))
  (h:∀ h',ë.ExtBut I s.heap h'->Q none { s with heap:=h' }):Ñ (Ö P w) A (Ñ8 (.ref I)) Q E s:=by
 have hT:s.TypeIs (.ref I) "set_iterator":=⟨_,hI,rfl⟩;have hf:=L20 (w:=w) (g:=g) hm;unfold Ñ8;refine À (Ë5 (À9 (name:=Á2 "__next__") hT d20 (À8 d20 hT n20 ?_ (o30 _))));unfold À3.«set_iterator.__next__» slotArgs;simp only[isEmpty_nil,ß3,Ã5,↓reduceIte,bind_assoc,Â1,bne_self_eq_false];refine À (Å ?_);refine À (wpAny_fieldsOf hI rfl ?_);dsimp only [Ã6];refine À (Ù7 ho hd hf ?_);rw[if_neg (by rw[e00];simp)]
 refine À (Â2 (t01 (i:=(bts m).length) hm (Î _) ho hd) (λr s' hr=>?_) λ_ _ e=>e);obtain⟨rfl,rfl⟩:=hr;have e1:(ord w S ep (ent g m))[(bts m).length]?=none:=by simp[L10,e00]
 simp only[À1,e1,Option.map_none];unfold itO at hI;refine À (Ã2 hI (by simp) λh1 hI1 sb1=>À ?_)
 simp only[newExc,newTuple];refine À (é ?_ (by size_fits))
 refine À (m:=Ø5 _ _) (Þ9 (a:=å) (by first | rfl | (simp only[Ø5];rfl)) ?_)
 refine é ?_ (by size_fits)
 simp only[raiseNew];refine À (wpAny_handled ?_);rw[show A.in1.handled=none from hh];refine À (Å (wpAny_throw ?_));refine À (Þ2 (T:="StopIteration") (b:=true) ⟨_,Ë _ rfl,rfl⟩ isSubtype_stop ?_);exact Å (h _ ((sb1.extBut.push _).push _))
theorem t11(hh:A.handled=none)(hm:m < 256)(hx:o.ExactSet)(hd:o.data=.set (ent g m) ep (tbl (led w) m))(hn:S≠I):Walks P w A I [I,S] [I] (bts m).length (λi v=>(ord w S ep (ent g m))[i]?.map (·.2)=some v) (λi h=>h.get? S=some o/\h.get? I=some (itO w S ep (bts m).length m i)) where
 sub:=λb hb=>by simp at hb;simp[hb]
 frame:=λ_ _ _ st hk=>⟨hk S (by simp) _ st.1,hk I (by simp) _ st.2⟩
 item:=λi s Q E hi st hQ=>J91 hm hi st.1 hd st.2 λv h' hv sb hI=>hQ v h' s.toks hv ⟨(sb.2 S hn).trans st.1,hI⟩ λb u hb e=>(sb.2 b λz=>hb (by simp[z])).trans e
 done:=λs Q E st hQ=>a42 hh hm st.1 hd st.2 λh' kp=>hQ h' s.toks λb u hb e=>kp b u (λz=>hb (by simp[z])) e
 self:=λi s Q E st hQ=>by
  have hT:s.TypeIs (.ref I) "set_iterator":=⟨_,st.2,rfl⟩;refine wpAny_pyIter_slot hT o20 (À8 o20 hT z00 ?_ (C30 _));show Ñ _ _ (ret (.ref I)) _ _ s;exact Å ⟨_,rfl,"set_iterator",_,hT,d20.lookup,hQ⟩
set_option maxHeartbeats 3200000 in
theorem X90(hh:A.handled=none)(hm:m < 256)(ho:s.heap.get? S=some o)(hx:o.ExactSet)(hd:o.data=.set (ent g m) ep (tbl (led w) m))
  (hQ:∀ h' tk,s.heap.objs.size < h'.objs.size->(∀ b u,s.heap.get? b=some u->h'.get? b=some u)->Q ((ord w S ep (ent g m)).toList.map (·.2)) { s with heap:=h',toks:=tk }):Ñ (Ö P w) A (collect (.ref S)) Q E s:=by
 have lS:S < s.heap.objs.size:=á ho;have hsz:(bts m).length<=8:=Þ (É4 _ _) (by simp)
 unfold collect;refine À (Ø1 (Â4 F.entry_proto_collect ?_));rw[Â8 F.plain_proto_collect _];refine À (m:=newList []) (é (Å ⟨Î3 F.plain_list_iadd _,Â4 F.entry_list_iadd ?_⟩));rw[Â8 F.plain_list_iadd _];show Ñ _ A.in1 (Ä3 (.ref s.heap.objs.size) (.ref S) (.ref s.heap.objs.size)) _ _ _;have oS:(s.heap.push { cls:=.type "list",data:=.seq ([]:List Ä).toArray }).get? S=some o:=Ã _ ho;have hL:(s.heap.push { cls:=.type "list",data:=.seq ([]:List Ä).toArray }).get? s.heap.objs.size=some { cls:=.type "list",data:=.seq ([]:List Ä).toArray }:=Ë _ rfl;have hT:Ý4 { s with heap:=s.heap.push { cls:=.type "list",data:=.seq ([]:List Ä).toArray } } (.ref S) "set":=⟨o,oS,hx.1⟩;unfold Ä3;refine À (Ç6 hT ?_);have c1:Ù6 (.ref s.heap.objs.size) (.ref S)=false:=by simp[Ù6];exact Ê7 lS
 have c2:(Á9 "set" == Á9 "list")=false:=by decide
 have c3:(Á9 "set" == Á9 "tuple")=false:=by decide
 simp only[c1,c2,c3,Bool.or_false,Ã5,if_false];refine À (J81 hm oS hx hd (À (Á0 ?_)));have hT2:∀ u,Ý4 { s with heap:=(s.heap.push { cls:=.type "list",data:=.seq ([]:List Ä).toArray }).push u } (.ref S) "set":=λu=>⟨o,Ã _ oS,hx.1⟩;unfold À3.List.listLengthHint;refine À (wpAny_specialOf (hT2 _) F.slot_set_len.lookup ?_)
 wp_delta
 refine À (Þ2 (T:="set") (b:=true) (hT2 _) (by rw[Ò1];kernel_rfl) ?_)
 show Ñ _ A.in1 (typeOf (Â9 S) >>= _) _ _ _;refine À (Ç6 (hT2 _) (Å ?_));rw[if_pos (-0)]
 refine À (É9 ?_);generalize hI:s.heap.push { cls:=.type "list",data:=.seq ([]:List Ä).toArray }=h1 at oS hL hT2;have sz1:h1.objs.size=s.heap.objs.size + 1:=by rw[← hI];exact Ë6 ..
 have hL2:(h1.push (itO w S ep (bts m).length m 0)).get? s.heap.objs.size=some { cls:=.type "list",data:=.seq ([]:List Ä).toArray }:=Ã _ hL;refine À (m:=À3.List.listTouch (.ref s.heap.objs.size)) ?_;show Ñ _ A.in1 (updateSeq s.heap.objs.size (·.push .none) >>= λ_=>updateSeq s.heap.objs.size (·.pop)) _ _ _;refine À (wpAny_updateSeq hL2 rfl ?_);have hL3:=Ç5 (À4 (·.push å)) hL2 rfl;refine wpAny_updateSeq hL3 rfl ?_;have hL4:=Ç5 (À4 (·.pop)) hL3 rfl;have off:∀ b u,b≠s.heap.objs.size->(h1.push (itO w S ep (bts m).length m 0)).get? b=some u->(((h1.push (itO w S ep (bts m).length m 0)).update s.heap.objs.size (À4 (·.push å))).update s.heap.objs.size (À4 (·.pop))).get? b=some u :=
  λb u hb e=>(Ì1 _ _ (Á6 hb)).trans ((Ì1 _ _ (Á6 hb)).trans e)
 have nI:S≠h1.objs.size:=by rw[sz1];exact Ü (Å1 lS)
 have nS:s.heap.objs.size ∉ [h1.objs.size,S]:=by
  rw[sz1];simp only[Ã1,À6,or_false,not_or];exact⟨Ü (Ì3 _),Ê7 lS⟩
 refine Å ⟨Î3 F.plain_extend_loop _,codeAny_extend_loopS (t11 (P:=P) (by simp[hh]) hm hx hd nI).toS (by rw[Á4];omega) s.heap.objs.size nS _ (bts m).length 0 _ _ _ rfl (È3 _) ⟨off _ _ (Ü lS) (Ã _ oS),off _ _ (by rw[sz1];exact(Ü (Ì3 _)).symm) (Ë _ rfl)⟩ hL4 (ItemsOf.nil _) λs' acc c mv hS' it=>?_⟩
 refine À (m:=load s.heap.objs.size) (wpAny_load hS' (Å ?_));have ea:acc.toList=(ord w S ep (ent g m)).toList.map (·.2):=by
  refine List.ext_getElem? λj=>?_;rw[Ø,ø,ø];cases e:acc[j]? with
  |none =>
   have hj:(bts m).length<=j:=by rw[← it.1];simpa using e
   have:(ord w S ep (ent g m))[j]?=none:=by simp[L10,e00,hj]
   rw[this];rfl
  |some v=>rw[it.2 j v e]
 rw[ea];obtain⟨h',g',d',tk',os'⟩:=s';have eg:g'=s.gens:=mv.gens;have ed:d'=s.drawn:=mv.drawn;have eo:os'=s.os:=mv.os;subst eg;subst ed;subst eo;refine hQ h' tk' (á hS') λb u e=>mv.heap b u (λz=>?_) (off b u (Ü (á e)) (Ã _ (hI ▸ Ã _ e)));have lb:=á e;simp only[Ã1,À6,or_false] at z;rw[sz1] at z;rcases z with z | z
 ·exact Ü lb z
 ·exact Ü (Å1 lb) z
end
end SS
namespace Q
open PySem L2
abbrev Z:=Option (Int × Bool)
inductive S where
 |d (x:D) | fr (xs:List D) | z
inductive R (α:Type) where
 |ok (a:α) (z:Z) | er (c:Nat) (z:Z)
abbrev M(α:Type):=Z->Option (R α)
def M.ret{α:Type}(a:α):M α:=λz=>some (.ok a z)
def M.no{α:Type}:M α:=λ_=>none
def M.of{α:Type}:Option α->M α
 |some a=>M.ret a|none=>M.no
def M.bind{α β:Type}(m:M α)(f:α->M β):M β:=λz=>match m z with
 |some (.ok a z1)=>f a z1|some (.er c z1)=>some (.er c z1)|none=>none
def M.calm{α:Type}(m:M α):M α:=λz=>match m z with
 |some (.ok a z1)=>some (.ok a z1)|_=>none
abbrev Env:=List (Option S)
def pl:List S->Option D
 |[.d x]=>some x|[.fr xs]=>some (.lst xs)|_=>none
def one:List S->Option S
 |[s]=>some s|_=>none
def plS:S->S
 |.fr xs=>.d (.lst xs)|s=>s
def plD:S->Option D
 |.d x=>some x|.fr xs=>some (.lst xs)|.z=>none
def plA:List S->Option (List D)
 |[]=>some []|.d x::r=>(plA r).map (x::·)|.fr xs::r=>(plA r).map (.lst xs::·)|.z::_=>none
inductive Bi where
 |add | sub | mul | fdiv | mod | pow
inductive Cm where
 |eq | ne | lt | le | gt | ge | mem | nmem
inductive Bf where
 |len | sorted | tuple | list | min | max | all | int | sset | y82
inductive Ty where
 |int | bool | tuple | list | str | seq
inductive Pat where
 |v (i:Nat) | tup (ps:Pat) | nil | cons (p r:Pat)
inductive It where
 |seq | rng1 | rng2 | zip | enum
inductive Ex where
 |nil | cons (a r:Ex)
 |var (i:Nat) | con (x:D) | gint (g:Str) (i:Int)
 |tup (as:Ex) | lst (as:Ex)
 |bin (o:Bi) (a b:Ex) | cmp (o:Cm) (a b:Ex) | neg (a:Ex)
 |not (a:Ex) | and (a b:Ex) | or (a b:Ex) | orT (a b:Ex) | ite (c a b:Ex)
 |ch (o o':Cm) (a b c:Ex)
 |bf (f:Bf) (as:Ex) | isi (t:Ty) (a:Ex)
 |idx (a i:Ex) | sl (a lo hi:Ex) | rev (a:Ex)
 |call (f:Nat) (as:Ex)
 |comp (own:Nat) (capt:List Nat) (p:Pat) (it:It) (src cond el:Ex)
 |zget (i k:Nat) | lrng (b:Bool) (as:Ex)
abbrev most:Nat:=100000
def t21:Nat:=2 ^ 4000
mutual
noncomputable def eqD:D->D->Bool
 |.non,.non=>true|.bl a,.bl b=>a == b|.int a,.int b=>a == b|.str a,.str b=>a == b|.bl a,.int b=>(if a then 1 else 0) == b|.int a,.bl b=>a == (if b then 1 else 0)|.tup a,.tup b=>R10 a b|.lst a,.lst b=>R10 a b|.dct,.dct=>true|_,_=>false
noncomputable def R10:List D->List D->Bool
 |[],[]=>true|a::r,b::q=>eqD a b&&R10 r q|_,_=>false
end
mutual
noncomputable def ltD:D->D->Option Bool
 |.int a,.int b=>some (decide (a < b))|.tup a,.tup b=>K01 a b|_,_=>none
noncomputable def K01:List D->List D->Option Bool
 |[],[]=>some false|[],_::_=>some true|_::_,[]=>some false|a::r,b::q=>if eqD a b then K01 r q else ltD a b
end
mutual
noncomputable def m00:D->Bool
 |.dct=>false|.tup l=>e40 l|.lst l=>e40 l|.str x=>PyData.strOk x|_=>true
noncomputable def e40:List D->Bool
 |[]=>true|x::r=>m00 x&&e40 r
end
mutual
noncomputable def deep:D->Nat
 |.tup l=>e90 l + 1|.lst l=>e90 l + 1|_=>0
noncomputable def e90:List D->Nat
 |[]=>0|x::r=>Ï0 (deep x) (e90 r)
end
def okD(d:D):Bool:=m00 d&&decide (deep d<=40)
def F90(l:List D):Bool:=e40 l&&decide (e90 l<=39)
theorem g30{c:Prop}[Decidable c]{α:Type}{a:Option α}{b:α}(h:(if c then a else none)=some b):c/\a=some b:=by
 by_cases k:c
 ·rw[if_pos k] at h;exact⟨k,h⟩
 ·rw[if_neg k] at h;cases h
def eqO(a b:D):Option Bool:=if okD a&&okD b then some (eqD a b) else none
def eqE:D->D->Option Bool
 |.tup l,.tup []=>some l.isEmpty|_,_=>none
def eqQ(a b:D):Option Bool:=if okD a&&okD b then some (eqD a b) else eqE a b
def ltO(a b:D):Option Bool:=if okD a&&okD b then ltD a b else none
def memD(x:D)(l:List D):Bool:=l.any λy=>eqD y x
def K11(x:D)(l:List D):Option Bool:=if okD x&&F90 l then some (memD x l) else none
def Y00:List D->Option (List Int)
 |[]=>some []|.int i::r=>(Y00 r).map (i::·)|_=>none
def G00:Bi->D->D->Option S
 |.add,.int i,.int j=>some (.d (.int (i + j)))|.add,.tup a,.tup b=>if a.length + b.length<=most then some (.d (.tup (a++b))) else none|.add,.lst a,.lst b=>if a.length + b.length<=most then some (.fr (a++b)) else none|.sub,.int i,.int j=>some (.d (.int (i - j)))|.mul,.int i,.int j=>if i.natAbs < t21/\j.natAbs < t21 then some (.d (.int (i * j))) else none|.mul,.tup a,.int j=>if 0<=j/\j.toNat * a.length<=most/\j < 1000000 then some (.d (.tup (î j.toNat a).flatten)) else none|.mul,.lst a,.int j=>if 0<=j/\j.toNat * a.length<=most/\j < 1000000 then some (.fr (î j.toNat a).flatten) else none|.fdiv,.int i,.int j=>if 0 < j/\j.natAbs < t21 then some (.d (.int (i / j))) else none|.mod,.int i,.int j=>if 0 < j then some (.d (.int (i % j))) else none|.pow,.int i,.int j=>if 0<=j/\j<=1000/\i.natAbs < 2 ^ 64 then some (.d (.int (i ^ j.toNat))) else none|_,_,_=>none
def neO:D->D->Option Bool
 |.dct,.tup _=>some true|a,b=>(eqO a b).map (!·)
def s90:Cm->D->D->Option Bool
 |.eq,a,b=>eqQ a b|.ne,a,b=>neO a b|.lt,a,b=>ltO a b|.gt,.int a,.int b=>some (decide (b < a))|.le,.int a,.int b=>some (decide (a<=b))|.le,.tup a,.tup b=>(Y00 a).bind λns=>(Y00 b).map λms=>HT.leB ns ms|.ge,.int a,.int b=>some (decide (b<=a))|.mem,a,.tup l=>K11 a l|.mem,a,.lst l=>K11 a l|.nmem,a,.tup l=>(K11 a l).map (!·)|.nmem,a,.lst l=>(K11 a l).map (!·)|_,_,_=>none
def R71:Ty->D->Bool
 |.int,.int _=>true|.int,.bl _=>true|.bool,.bl _=>true|.tuple,.tup _=>true|.list,.lst _=>true|.str,.str _=>true|.seq,.tup _=>true|.seq,.lst _=>true|_,_=>false
def asB:D->Option Bool
 |.bl b=>some b|_=>none
def n82:D->Option (List D)
 |.tup l=>some l|_=>none
def asI:D->Option Int
 |.int i=>some i|_=>none
def k71:D->Option (List D)
 |.tup l=>some l|.lst l=>some l|_=>none
mutual
noncomputable def flt:D->List Int
 |.int i=>[i]|.tup l=>M62 l|_=>[]
noncomputable def M62:List D->List Int
 |[]=>[]|x::r=>flt x++M62 r
end
mutual
noncomputable def eqT:D->D->Bool
 |.int i,.int j=>i == j|.tup a,.tup b=>W00 a b|_,_=>false
noncomputable def W00:List D->List D->Bool
 |[],[]=>true|x::r,y::q=>eqT x y&&W00 r q|_,_=>false
end
def t31:D->Nat
 |.int _=>0|.tup (.int _::_)=>1|.tup (.tup _::_)=>2|_=>3
def i20(x y:D):Bool:=t31 y == t31 x&&(ltD x y == some (MySort.h40 (flt x) (flt y))&&(eqT x y || !(flt x == flt y)))
def n30(l:List D):Bool:=l.all λx=>decide (t31 x < 3)&&(okD x&&l.all (i20 x))
def n11(k:D):List D->List D
 |[]=>[k]|y::r=>if MySort.h40 (flt y) (flt k) then y::n11 k r else k::y::r
def t90:List D->List D
 |[]=>[]|k::r=>n11 k (t90 r)
def r30(k m:Nat):D:=.tup ((TS.B30 k 0 m).map λ(i:Nat)=>.int i)
def h50(k:Nat):List D:=(ð (2 ^ k)).map (r30 k)
def K21(k:Nat):List D:=(TS.sN k).map (r30 k)
def M72(l:List D):Option (List D):=((ð 9).find? λk=>W00 l (h50 k)).map K21
def sortedS(x:D):Option S:=(k71 x).bind λl=>if l.length < 64/\n30 l=true then some (.fr (t90 l)) else(M72 l).map S.fr
def C40:List D->Option (List Nat)
 |[]=>some []|.int i::r=>if 0<=i/\i < 8 then(C40 r).map (i.toNat::·) else none|_=>none
def bfD:Bf->List D->Option S
 |.len,[x]=>(k71 x).map λl=>.d (.int l.length)|.tuple,[x]=>(k71 x).map λl=>.d (.tup l)|.list,[x]=>(k71 x).map λl=>.fr l|.all,[.lst l]=>(l.mapM asB).map λbs=>.d (.bl (bs.all id))|.sorted,[x]=>sortedS x|.min,[.int i,.int j]=>some (.d (.int (if j < i then j else i)))|.max,[.int i,.int j]=>some (.d (.int (if j > i then j else i)))|.int,[.bl b]=>some (.d (.int (if b then 1 else 0)))|.int,[.int i]=>some (.d (.int i))|.sset,[x]=>(k71 x).bind λl=>(C40 l).map λns=>.fr (((ð 8).filter λi=>ns.contains i).map λ(n:Nat)=>.int n)|_,_=>none
def W10:D->D->Option D
 |.tup l,.int i=>atI l i|.lst l,.int i=>atI l i|_,_=>none
def cutD(l:List D)(lo hi:Option Int):List D:=(l.drop (HT.sIx l.length 0 lo)).take (HT.sIx l.length l.length hi - HT.sIx l.length 0 lo)
def slD:D->Option Int->Option Int->Option S
 |.tup l,lo,hi=>some (.d (.tup (cutD l lo hi)))|.lst l,lo,hi=>some (.fr (cutD l lo hi))|_,_,_=>none
def M82:D->Option S
 |.tup l=>some (.d (.tup l.reverse))|.lst l=>some (.fr l.reverse)|_=>none
def t41:List S->Option (Option Int)
 |[]=>some none|[.d (.int i)]=>some (some i)|_=>none
def G10:List D->Nat->List D
 |[],_=>[]|x::r,i=>.tup [.int i,x]::G10 r (i + 1)
def r90:List D->List D->List D
 |x::r,y::q=>.tup [x,y]::r90 r q|_,_=>[]
def inR:Int->Bool
 |.ofNat n=>Nat.blt n 100000|.negSucc n=>Nat.blt n 99999
theorem C50:inR j=true↔-100000 < j/\j < 100000:=by
 cases j with
 |ofNat n=>show ble (n + 1) 100000=true↔_;rw[Nat.ble_eq];show _↔-100000 < (n:Int)/\(n:Int) < 100000;omega|negSucc n=>show ble (n + 1) 99999=true↔_;rw[Nat.ble_eq,Int.negSucc_eq];omega
def itD:It->List D->Option (List D)
 |.seq,[x]=>k71 x|.rng1,[.int j]=>if inR j=true then some ((ð j.toNat).map λ(i:Nat)=>D.int i) else none|.rng2,[.int i,.int j]=>if inR i=true/\inR j=true then some ((ð (j - i).toNat).map λ(k:Nat)=>D.int (i + k)) else none|.zip,[.tup a,.tup b]=>some (r90 a b)|.zip,[.lst a,.lst b]=>some (r90 a b)|.enum,[.tup a]=>some (G10 a 0)|.enum,[.lst a]=>some (G10 a 0)|_,_=>none
def lrS:Bool->List D->S
 |true,xs=>.d (.tup xs)|false,xs=>.fr xs
def lrN:Bool->Str
 |true=>"tuple"|false=>"list"
def lrD:List D->Option (List D)
 |[x]=>itD .rng1 [x]|l=>itD .rng2 l
mutual
noncomputable def f40:Pat->D->Env->Option Env
 |.v i=>λx ρ=>some (ρ.set i (some (.d x)))
 |.tup ps=>λx ρ=>match x with
  |.tup l=>bindL ps l ρ|_=>none
 |.nil=>λ_ _=>none|.cons _ _=>λ_ _=>none
noncomputable def bindL:Pat->List D->Env->Option Env
 |.nil=>λl ρ=>match l with
  |[]=>some ρ|_=>none
 |.cons p r=>λl ρ=>match l with
  |x::l=>(f40 p x ρ).bind λρ=>bindL r l ρ|_=>none
 |.v _=>λ_ _=>none|.tup _=>λ_ _=>none
end
def turns(f:D->M (Option D)):List D->M (List D)
 |[]=>M.ret []|x::r=>M.bind (f x) λo=>M.bind (turns f r) λl=>M.ret (match o with | some y=>y::l | none=>l)
def q80(fc fe:Env->M (List S))(p:Pat)(ρ0:Env)(x:D):M (Option D):=M.bind (M.of (f40 p x ρ0)) λρ'=>M.bind (fc ρ') λc=>match c with
 |[]=>M.bind (fe ρ') λy=>M.bind (M.of (pl y)) λy=>M.ret (some y)|[.d (.bl true)]=>M.bind (fe ρ') λy=>M.bind (M.of (pl y)) λy=>M.ret (some y)|[.d (.bl false)]=>M.ret none|_=>M.no
def t51(k:Nat):Option (Option S)->Z->Option (R (List S))
 |some (some .z),some p=>if k=0 then some (.ok [.d (.int p.1)] (some p)) else if k=1 then some (.ok [.d (.bl p.2)] (some p)) else none|_,_=>none
abbrev FT:=Bool->Nat->List S->M S
abbrev z50(F:FT):FT:=λ_=>F true
def K31(ρ:Env):List Nat->Option (List S)
 |[]=>some []
 |i::r=>match ρ[i]? with
  |some (some s)=>(K31 ρ r).map (s::·)|_=>none
def ev:FT->Ex->Env->M (List S)
 |F,.nil=>λ_=>M.ret []|F,.cons a r=>λρ=>M.bind (ev F a ρ) λx=>M.bind (M.of (one x)) λs=>M.bind (ev F r ρ) λy=>M.ret (s::y)
 |F,.var i=>λρ=>match ρ[i]? with
  |some (some s)=>M.ret [plS s]|_=>M.no
 |F,.con x=>λ_=>M.ret [.d x]|F,.gint _ i=>λ_=>M.ret [.d (.int i)]|F,.tup as=>λρ=>M.bind (ev F as ρ) λl=>M.bind (M.of (plA l)) λds=>if ds.length<=most then M.ret [.d (.tup ds)] else M.no|F,.lst as=>λρ=>M.bind (ev F as ρ) λl=>M.bind (M.of (plA l)) λds=>if ds.length<=most then M.ret [.fr ds] else M.no|F,.bin o a b=>λρ=>M.bind (ev F a ρ) λx=>M.bind (M.of (pl x)) λx=>M.bind (ev F b ρ) λy=>M.bind (M.of (pl y)) λy=>M.bind (M.of (G00 o x y)) λs=>M.ret [s]|F,.cmp o a b=>λρ=>M.bind (ev F a ρ) λx=>M.bind (M.of (pl x)) λx=>M.bind (ev F b ρ) λy=>M.bind (M.of (pl y)) λy=>M.bind (M.of (s90 o x y)) λb=>M.ret [.d (.bl b)]|F,.neg a=>λρ=>M.bind (ev F a ρ) λx=>M.bind (M.of ((pl x).bind asI)) λi=>M.ret [.d (.int (-i))]|F,.not a=>λρ=>M.bind (ev F a ρ) λx=>M.bind (M.of ((pl x).bind asB)) λb=>M.ret [.d (.bl !b)]|F,.and a b=>λρ=>M.bind (ev F a ρ) λx=>M.bind (M.of ((pl x).bind asB)) λc=>if c then M.bind (ev F b ρ) λy=>M.bind (M.of ((pl y).bind asB)) λc=>M.ret [.d (.bl c)] else M.ret [.d (.bl false)]|F,.or a b=>λρ=>M.bind (ev F a ρ) λx=>M.bind (M.of ((pl x).bind asB)) λc=>if c then M.ret [.d (.bl true)] else M.bind (ev F b ρ) λy=>M.bind (M.of ((pl y).bind asB)) λc=>M.ret [.d (.bl c)]|F,.orT a b=>λρ=>M.calm (M.bind (ev F a ρ) λx=>M.bind (M.of ((pl x).bind n82)) λl=>if l.isEmpty then M.bind (ev F b ρ) λy=>M.bind (M.of ((pl y).bind n82)) λl=>M.ret [.d (.tup l)] else M.ret [.d (.tup l)])|F,.ite c a b=>λρ=>M.bind (ev F c ρ) λx=>M.bind (M.of ((pl x).bind asB)) λc=>if c then ev F a ρ else ev F b ρ
 |F,.ch o o' a b c=>λρ=>M.bind (ev F a ρ) λx=>M.bind (M.of (pl x)) λx=>M.bind (ev F b ρ) λy=>M.bind (M.of (pl y)) λy=>M.bind (M.of (s90 o x y)) λk =>
   if k then M.bind (ev F c ρ) λw=>M.bind (M.of (pl w)) λw=>M.bind (M.of (s90 o' y w)) λk=>M.ret [.d (.bl k)] else M.ret [.d (.bl false)]
 |F,.bf f as=>λρ=>M.bind (ev F as ρ) λl=>M.bind (M.of (plA l)) λds=>M.bind (M.of (bfD f ds)) λs=>M.ret [s]|F,.isi t a=>λρ=>M.bind (ev F a ρ) λx=>M.bind (M.of (pl x)) λx=>M.ret [.d (.bl (R71 t x))]|F,.idx a i=>λρ=>M.bind (ev F a ρ) λx=>M.bind (M.of (pl x)) λx=>M.bind (ev F i ρ) λy=>M.bind (M.of (pl y)) λy=>M.bind (M.of (W10 x y)) λr=>M.ret [.d r]|F,.sl a lo hi=>λρ=>M.bind (ev F a ρ) λx=>M.bind (M.of (pl x)) λx=>M.bind (ev F lo ρ) λu=>M.bind (M.of (t41 u)) λu=>M.bind (ev F hi ρ) λv=>M.bind (M.of (t41 v)) λv=>M.bind (M.of (slD x u v)) λs=>M.ret [s]|F,.rev a=>λρ=>M.bind (ev F a ρ) λx=>M.bind (M.of ((pl x).bind M82)) λs=>M.ret [s]|F,.call f as=>λρ=>M.bind (ev F as ρ) λl=>M.bind (F false f (l.map plS)) λs=>M.ret [s]|F,.comp own capt p it src cond el=>λρ=>M.bind (ev F src ρ) λl=>M.bind (M.of ((plA l).bind (itD it))) λxs=>if xs.length<=most then M.bind (M.calm (turns (q80 (ev F cond) (ev F el) p (î own none++capt.map λi=>(ρ[i]?).getD none)) xs)) λys=>M.ret [.fr ys] else M.no|F,.zget i k=>λρ z=>t51 k ρ[i]? z|F,.lrng b as=>λρ=>M.bind (ev F as ρ) λl=>M.bind (M.of ((plA l).bind lrD)) λxs=>M.ret [lrS b xs]
def R20(ρ:Env):Env:=ρ.map λo=>match o with
 |some .z=>none|o=>o
def K41(c:Nat):D:=.lst [.int c]
def o40(F:FT)(ρ:Env):List (List Nat × Ex)->Z->Option (List Nat × Z)
 |[],z=>some ([],z)
 |(capt,a)::r,z=>match K31 ρ capt with
  |none=>none
  |some ss=>match ev (z50 F) a (ss.map some) z with
   |some (.er c z1)=>if c < 12 then(o40 F ρ r z1).map λp=>(c::p.1,p.2) else none|_=>none
inductive Sm where
 |nil | seq (s r:Sm)
 |set (p:Pat) (e:Ex) | ret (e:Ex) | iff (c:Ex) (t e:Sm)
 |fr (p:Pat) (it:It) (src:Ex) (b:Sm) | whl (c:Ex) (b:Sm)
 |rais (c:Nat) | exp (e:Ex)
 |app (i:Nat) (e:Ex) | sti (i:Nat) (x e:Ex) | augi (i:Nat) (x e:Ex)
 |newz (i:Nat) (f:Nat) (as:Ex) | zset (i:Nat) (e:Ex) | apop (i j:Nat) (e:Ex)
 |lams (i:Nat) (ls:List (List Nat × Ex)) (g:Option (Nat × Ex)) (e:Ex) (t r:Sm)
inductive O where
 |nx (ρ:Env) | rt (s:S)
def C60(F:FT)(all:List (List Nat × Ex))(e:Ex)(kt kr:Env->M O)(ρ:Env):M O:=λz=>match o40 F ρ all z with
 |none=>none
 |some (cs,z1)=>M.bind (ev F e ρ) (λl=>M.bind (M.of (pl l)) λd=>M.bind (M.of (s90 .ne (.lst (cs.map K41)) d)) λb=>M.bind (if b then kt ρ else M.ret (.nx ρ)) λo=>match o with
  |.nx ρ=>kr ρ
  |.rt s=>M.ret (.rt s)) z1
def t61(F:FT)(all:List (List Nat × Ex))(g:Option (Nat × Ex))(e:Ex)(kt kr:Env->M O)(ρ:Env):M O:=match g with
 |none=>C60 F all e kt kr ρ|some (j,a)=>if j < ρ.length then M.bind (ev F a ρ) λl=>M.bind (M.of ((pl l).bind asB)) λb=>if b then C60 F all e kt kr (ρ.set j (some (.d (.bl b)))) else kr (ρ.set j (some (.d (.bl b)))) else M.no
mutual
noncomputable def bare:D->Bool
 |.lst _=>false|.tup l=>k40 l|.dct=>false|_=>true
noncomputable def k40:List D->Bool
 |[]=>true|x::r=>bare x&&k40 r
end
def C70:S->Bool
 |.d x=>bare x|.fr xs=>k40 xs|.z=>true
def Y10(ρ:Env):Env:=ρ.map λo=>o.map plS
def R30(b:Bool):Option S->Option S
 |some (.fr xs)=>some (if b then .fr xs else .d (.lst xs))|o=>o
theorem R40(b:Bool)(ρ:Env):ρ.map (R30 b)=if b then ρ else Y10 ρ:=by
 have h:∀ o:Option S,R30 b o=if b then o else o.map plS:=λo=>by
  match o with
  |some (.fr xs)=>cases b <;> rfl
  |some (.d _)=>cases b <;> rfl
  |some .z=>cases b <;> rfl
  |none=>cases b <;> rfl
 rw[show R30 b=λo=>if b then o else o.map plS from funext h];cases b with
 |true=>exact map_id ρ|false=>rfl
def i30(s:S)(ρ:Env):Env:=ρ.map (R30 (C70 s))
def C80:Pat->S->Env->Option Env
 |p,.d x,ρ=>f40 p x ρ|.v i,s,ρ=>if i < ρ.length then some (ρ.set i (some s)) else none|_,_,_=>none
def W20(f:D->Env->M O):List D->Env->M O
 |[],ρ=>M.ret (.nx ρ)
 |x::r,ρ=>M.bind (f x ρ) λo=>match o with
  |.nx ρ=>W20 f r ρ|.rt s=>M.ret (.rt s)
def R81(c:Env->M (List S))(f:Env->M O):Nat->Env->M O
 |0,_=>M.no
 |n + 1,ρ=>M.bind (c ρ) λx=>M.bind (M.of ((pl x).bind asB)) λk=>if k then M.bind (f ρ) λo=>match o with
  |.nx ρ=>R81 c f n ρ|.rt s=>M.ret (.rt s)
  else M.ret (.nx ρ)
def ownAt(ρ:Env)(i:Nat):Option (List D):=match ρ[i]? with
 |some (some (.fr xs))=>some xs|_=>none
def n40(xs:List D)(i:Int)(y:D):Option (List D):=(ixN xs.length i).map λj=>xs.set j y
def a52:D->Bool
 |.tup l=>k40 l|.lst l=>k40 l|_=>true
def R50(l:List S):Bool:=match plA l with
 |some ds=>ds.all a52|none=>false
def noS:S->Option S
 |.z=>none|s=>some s
def a62:(it:It)->(e:Ex)->Option {i:Nat // it=.seq/\e=.cons (.var i) .nil}
 |.seq,.cons (.var i) .nil=>some ⟨i,rfl,rfl⟩|_,_=>none
def k81:List S->Bool
 |[]=>false|.d (.lst _)::_=>true|_::r=>k81 r
def R60(it:It)(e:Ex)(l:List S)(ρ:Env):Env:=match a62 it e with
 |some i=>ρ.set i.1 ((ρ[i.1]?.getD none).map plS)
 |none=>match k81 l with
  |true=>Y10 ρ|false=>ρ
def t71(it:It)(e:Ex)(l:List S)(ρ:Env):Env:=(R60 it e l ρ).map (R30 (R50 l))
abbrev h72:Nat:=20000
def t81(ρ:Env)(i j:Nat)(xs ys:List D)(k:Int):Option O :=
 if i≠j/\0<=k/\inR k=true/\xs.length < most then(ys[k.toNat]?).bind λy=>if bare y=true then some (.nx ((ρ.set j (some (.fr (ys.eraseIdx k.toNat)))).set i (some (.fr (xs++[y]))))) else none else none
def n92(F:FT)(i j:Nat)(e:Ex):Env->M O:=λρ=>M.bind (M.of (ownAt ρ i)) λxs=>M.bind (M.of (ownAt ρ j)) λys=>M.bind (ev F e ρ) λl=>M.bind (M.of ((pl l).bind asI)) λk=>M.bind (M.of (t81 ρ i j xs ys k)) λo=>M.ret o
def t91(tp:Bool)(ρ:Env)(i:Nat):List S->Option (R O)
 |[.fr [.int n,.bl b]]=>if tp then some (.ok (.nx ((R20 ρ).set i (some .z))) (some (n,b))) else none|_=>none
def u01(ρ:Env)(v:Int):Option (Option S)->Z->Option (R O)
 |some (some .z),some p=>some (.ok (.nx ρ) (some (v,p.2)))|_,_=>none
def ex(F:FT)(tp:Bool):Sm->Env->M O
 |.nil=>λρ=>M.ret (.nx ρ)
 |.seq s r=>λρ=>M.bind (ex F tp s ρ) λo=>match o with
  |.nx ρ=>ex F tp r ρ|.rt s=>M.ret (.rt s)
 |.set p e=>λρ=>M.bind (ev F e ρ) λl=>M.bind (M.of (one l)) λs=>M.bind (M.of (C80 p s (i30 s ρ))) λρ=>M.ret (.nx ρ)
 |.ret e=>λρ=>match e with
  |.var i=>(match ρ[i]? with
   |some (some s)=>M.bind (M.of (noS s)) λs=>M.ret (.rt s)
   |_=>M.no)
  |e=>M.bind (ev F e ρ) λl=>M.bind (M.of ((one l).bind noS)) λs=>M.ret (.rt s)
 |.iff c t e=>λρ=>M.bind (ev F c ρ) λx=>M.bind (M.of ((pl x).bind asB)) λc=>if c then ex F tp t ρ else ex F tp e ρ|.fr p it src b=>λρ=>M.bind (ev F src ρ) λl=>M.bind (M.of ((plA l).bind (itD it))) λxs=>W20 (λx ρ=>M.bind (M.of (f40 p x ρ)) λρ=>ex F tp b ρ) xs (t71 it src l ρ)|.lams i ls g e t r=>λρ=>if i < ρ.length then t61 F ls g e (ex F tp t) (ex F tp r) (ρ.set i none) else M.no|.whl c b=>λρ=>R81 (ev F c) (ex F tp b) h72 ρ|.rais c=>λ_ z=>some (.er c z)|.exp e=>λρ=>M.bind (ev F e ρ) λl=>M.bind (M.of (one l)) λ_=>M.ret (.nx ρ)|.app i e=>λρ=>M.bind (M.of (ownAt ρ i)) λxs=>M.bind (ev F e ρ) λl=>M.bind (M.of (pl l)) λx=>if bare x=true/\xs.length < most then M.ret (.nx (ρ.set i (some (.fr (xs++[x]))))) else M.no
 |.sti i ix e=>λρ=>M.bind (ev F e ρ) λl=>M.bind (M.of (pl l)) λx=>M.bind (M.of (ownAt ρ i)) λxs=>M.bind (ev F ix ρ) λj=>M.bind (M.of ((pl j).bind asI)) λj=>M.bind (M.of (n40 xs j x)) λxs =>
   if bare x=true then M.ret (.nx (ρ.set i (some (.fr xs)))) else M.no
 |.augi i ix e=>λρ=>M.bind (M.of (ownAt ρ i)) λxs=>M.bind (ev F ix ρ) λj=>M.bind (M.of ((pl j).bind asI)) λj=>M.bind (M.of (atI xs j)) λy=>M.bind (ev F e ρ) λl=>M.bind (M.of (pl l)) λx =>
   M.bind (M.of ((asI x).bind λx=>(asI y).map λy=>D.int (y + x))) λv=>M.bind (M.of (n40 xs j v)) λxs=>M.ret (.nx (ρ.set i (some (.fr xs))))
 |.newz i f as=>λρ=>M.bind (ev F (.call f as) ρ) λl=>λ_=>t91 tp ρ i l|.zset i e=>λρ=>M.bind (ev F e ρ) λl=>M.bind (M.of ((pl l).bind asI)) λv=>λz=>u01 ρ v ρ[i]? z|.apop i j e=>λρ=>n92 F i j e ρ
inductive Df where
 |code (ps ns:Nat) (b:Sm) | prim (f:List S->M S)
def L30:Z->Z->Z
 |none,_=>none|some _,z=>z
def start(ns:Nat)(l:List S):Env:=l.map some++î (ns - l.length) none
def run(F:FT):Df->List S->M S
 |.code ps ns b,l=>λz=>if l.length=ps/\ps<=ns then(match ex F z.isNone b (start ns (l.map plS)) z with
  |some (.ok (.nx _) z1)=>some (.ok (.d .non) (L30 z z1))|some (.ok (.rt s) z1)=>some (.ok s (L30 z z1))|some (.er c z1)=>some (.er c (L30 z z1))
  |none=>none) else none
 |.prim f,l=>f l
def b90(T:List Df):Nat->Nat->List S->M S
 |k + 3,f,l=>match T[f]? with
  |some d=>run (λb g m=>match b with | true=>b90 T k g m | false=>b90 T (k + 2) g m) d l
  |none=>M.no
 |_,_,_=>M.no
abbrev O20(T:List Df)(k:Nat):FT:=λb g m=>match b with | true=>b90 T (k - 2) g m | false=>b90 T k g m
theorem Y20(T:List Df)(k f:Nat)(l:List S):b90 T (k + 3) f l=match T[f]? with
  |some d=>run (O20 T (k + 2)) d l|none=>M.no:=rfl
end Q
namespace Q
open PySem L2 PySem.Spec PyProof.Rows
def q10(K:Â)(H:Hp)(a:Ç)(xs:List V):Prop:=Rd H a (.lst xs)∨∃ (its:Array Ä) (n:Nat),K.lookup a=some { cls:=.type "list",data:=.seq its n }/\its.size<=Ý/\Vals xs its.toList
theorem q10.of{K:Â}{H:Hp}{a:Ç}{xs:List V}(h:H a=some (.lst xs)):q10 K H a xs:=.inl (.inl h)
theorem q10.sq{K:Â}{H:Hp}{a:Ç}{xs:List V}(h:q10 K H a xs):SqL K H a xs:=by
 rcases h with h | ⟨its,n,h1,h2,h3⟩
 ·exact .inl h
 ·exact .inr ⟨_,its,n,h1,rfl,rfl,rfl,h2,h3⟩
theorem q10.same{K:Â}{H H':Hp}{a:Ç}{xs:List V}(h:q10 K H a xs)(e:a30 H H'):q10 K H' a xs:=by
 rcases h with (h | ⟨o,h⟩) | h
 ·exact .inl (.inl (e _ _ h))
 ·exact .inl (.inr ⟨o,e _ _ h⟩)
 ·exact .inr h
theorem q10.mem(I:Inv X pins σ H s)(h:q10 X.K H a xs):xs.length<=Ý/\∃ (its:List Ä) (n:Nat),Vals xs its/\xs.length=its.length/\s.heap.get? a=some { cls:=.type "list",data:=.seq its.toArray n }:=by
 rcases h with (h | ⟨o,h⟩) | ⟨its,n,h1,h2,h3⟩
 ·exact I.l52 h
 ·obtain⟨e,z,its,n,r,e2⟩:=I.hok a _ h;exact⟨z,its,n,r,r.length,e2⟩
 ·refine⟨by rw[h3.length,Ê8];exact h2,its.toList,n,h3,h3.length,?_⟩
  have:=I.kIn a _ h1;rw[Ð5];exact this
mutual
def Hd(K:Â)(H:Hp):D->V->Prop
 |.non,v=>v=.non|.bl b,v=>v=.bl b|.int i,v=>v=.int i|.str x,v=>v=.str x|.tup ds,v=>∃ a xs,v=.ref a/\SqT K H a xs/\HdA K H ds xs|.lst ds,v=>∃ a xs,v=.ref a/\q10 K H a xs/\HdA K H ds xs|.dct,v=>∃ a kvs,v=.ref a/\H a=some (.dK kvs)
def HdA(K:Â)(H:Hp):List D->List V->Prop
 |[],xs=>xs=[]|d::ds,xs=>∃ x r,xs=x::r/\Hd K H d x/\HdA K H ds r
end
section
variable {K:Â}{H H':Hp}
mutual
theorem Hd.same(e:a30 H H'):∀ {d:D}{v:V},Hd K H d v->Hd K H' d v
 |.non,_,h=>by unfold Hd at h ⊢;exact h|.bl _,_,h=>by unfold Hd at h ⊢;exact h|.int _,_,h=>by unfold Hd at h ⊢;exact h|.str _,_,h=>by unfold Hd at h ⊢;exact h
 |.tup ds,_,h=>by
  unfold Hd at h ⊢;obtain⟨a,xs,rfl,h1,h2⟩:=h;exact⟨a,xs,rfl,e.sqT h1,HdA.same e h2⟩
 |.lst ds,_,h=>by
  unfold Hd at h ⊢;obtain⟨a,xs,rfl,h1,h2⟩:=h;exact⟨a,xs,rfl,h1.same e,HdA.same e h2⟩
 |.dct,_,h=>by
  unfold Hd at h ⊢;obtain⟨a,kvs,rfl,h1⟩:=h;exact⟨a,kvs,rfl,e _ _ h1⟩
theorem HdA.same(e:a30 H H'):∀ {ds:List D}{xs:List V},HdA K H ds xs->HdA K H' ds xs
 |[],_,h=>by unfold HdA at h ⊢;exact h
 |d::ds,_,h=>by
  unfold HdA at h ⊢;obtain⟨x,r,rfl,h1,h2⟩:=h;exact⟨x,r,rfl,Hd.same e h1,HdA.same e h2⟩
end
mutual
theorem Hd.has:∀ {d:D}{v:V},Hd K H d v->Has K H d v
 |.non,_,h=>by unfold Hd at h;unfold Has;exact h|.bl _,_,h=>by unfold Hd at h;unfold Has;exact h|.int _,_,h=>by unfold Hd at h;unfold Has;exact h|.str _,_,h=>by unfold Hd at h;unfold Has;exact h
 |.tup ds,_,h=>by
  unfold Hd at h;unfold Has;obtain⟨a,xs,rfl,h1,h2⟩:=h;exact⟨a,xs,rfl,h1,HdA.has h2⟩
 |.lst ds,_,h=>by
  unfold Hd at h;unfold Has;obtain⟨a,xs,rfl,h1,h2⟩:=h;exact⟨a,xs,rfl,h1.sq,HdA.has h2⟩
 |.dct,_,h=>by unfold Hd at h;unfold Has;exact h
theorem HdA.has:∀ {ds:List D}{xs:List V},HdA K H ds xs->G70 K H ds xs
 |[],_,h=>by unfold HdA at h;unfold G70;exact h
 |d::ds,_,h=>by
  unfold HdA at h;unfold G70;obtain⟨x,r,rfl,h1,h2⟩:=h;exact⟨x,r,rfl,Hd.has h1,HdA.has h2⟩
end
theorem HdA.nil:HdA K H [] []:=by unfold HdA;rfl
theorem HdA.cons(h:Hd K H d x)(r:HdA K H ds xs):HdA K H (d::ds) (x::xs):=by unfold HdA;exact⟨x,xs,rfl,h,r⟩
theorem HdA.c80(h:HdA K H (d::ds) xs):∃ x r,xs=x::r/\Hd K H d x/\HdA K H ds r:=by unfold HdA at h;exact h
theorem HdA.f80(h:HdA K H [] xs):xs=[]:=by unfold HdA at h;exact h
theorem HdA.length:∀ {ds:List D}{xs:List V},HdA K H ds xs->xs.length=ds.length
 |[],_,h=>by rw[h.f80];rfl
 |d::ds,_,h=>by
  obtain⟨x,r,rfl,_,h2⟩:=h.c80;simp[h2.length]
theorem HdA.get:∀ {ds:List D}{xs:List V}{i:Nat}{d:D},HdA K H ds xs->ds[i]?=some d->∃ x,xs[i]?=some x/\Hd K H d x
 |[],_,_,_,_,e=>by simp at e
 |d::ds,_,i,d',h,e=>by
  obtain⟨y,r,rfl,h1,h2⟩:=h.c80;cases i with
  |zero=>simp at e;subst e;exact⟨y,rfl,h1⟩
  |succ i =>
   obtain⟨x',e1,e2⟩:=HdA.get (i:=i) h2 (by simpa using e)
   exact⟨x',by simpa using e1,e2⟩
theorem HdA.append:∀ {ds es:List D}{xs ys:List V},HdA K H ds xs->HdA K H es ys->HdA K H (ds++es) (xs++ys)
 |[],_,_,_,h,g=>by rw[h.f80];exact g
 |d::ds,_,_,_,h,g=>by
  obtain⟨x,r,rfl,h1,h2⟩:=h.c80;exact .cons h1 (HdA.append h2 g)
theorem HdA.take:∀ {ds:List D}{xs:List V} (n:Nat),HdA K H ds xs->HdA K H (ds.take n) (xs.take n)
 |ds,xs,0,_=>by simp;exact .nil|[],_,n + 1,h=>by rw[h.f80];simp;exact .nil
 |d::ds,_,n + 1,h=>by
  obtain⟨x,r,rfl,h1,h2⟩:=h.c80;exact .cons h1 (HdA.take n h2)
theorem HdA.drop:∀ {ds:List D}{xs:List V} (n:Nat),HdA K H ds xs->HdA K H (ds.drop n) (xs.drop n)
 |ds,xs,0,h=>by simpa using h|[],_,n + 1,h=>by rw[h.f80];simp;exact .nil
 |d::ds,_,n + 1,h=>by
  obtain⟨x,r,rfl,h1,h2⟩:=h.c80;exact HdA.drop n h2
theorem HdA.reverse:∀ {ds:List D}{xs:List V},HdA K H ds xs->HdA K H ds.reverse xs.reverse
 |[],_,h=>by rw[h.f80];simp;exact .nil
 |d::ds,_,h=>by
  obtain⟨x,r,rfl,h1,h2⟩:=h.c80;rw[Ô2,Ô2];exact(HdA.reverse h2).append (.cons h1 .nil)
theorem HdA.rep(h:HdA K H ds xs):∀ n:Nat,HdA K H (î n ds).flatten (î n xs).flatten
 |0=>by simp;exact .nil|n + 1=>by rw[Å4,Å4,É6,É6];exact h.append (h.rep n)
theorem HdA.set:∀ {ds:List D}{xs:List V}{d:D}{x:V} (i:Nat),HdA K H ds xs->Hd K H d x->HdA K H (ds.set i d) (xs.set i x)
 |[],_,_,_,_,h,_=>by rw[h.f80];simp;exact .nil
 |e::ds,_,d,x,i,h,g=>by
  obtain⟨y,r,rfl,h1,h2⟩:=h.c80;cases i with
  |zero=>exact .cons g h2|succ i=>exact .cons h1 (HdA.set i h2 g)
theorem HdA.ints:∀ ns:List Int,HdA K H (ns.map D.int) (ns.map V.int)
 |[]=>.nil|n::r=>.cons (by unfold Hd;rfl) (HdA.ints r)
theorem Hd.i40(h:Hd K H (.int i) v):v=.int i:=by unfold Hd at h;exact h
theorem Hd.bl_(h:Hd K H (.bl b) v):v=.bl b:=by unfold Hd at h;exact h
theorem Hd.E02(h:Hd K H .non v):v=.non:=by unfold Hd at h;exact h
theorem Hd.E12{x:Str}{v:V}(h:Hd K H (.str x) v):v=.str x:=by unfold Hd at h;exact h
theorem Hd.z20(h:Hd K H (.tup ds) v):∃ a xs,v=.ref a/\SqT K H a xs/\HdA K H ds xs:=by unfold Hd at h;exact h
theorem Hd.W30(h:Hd K H (.lst ds) v):∃ a xs,v=.ref a/\q10 K H a xs/\HdA K H ds xs:=by unfold Hd at h;exact h
theorem Hd.int:Hd K H (.int i) (.int i):=by unfold Hd;rfl
theorem Hd.bl:Hd K H (.bl b) (.bl b):=by unfold Hd;rfl
theorem Hd.non:Hd K H .non .non:=by unfold Hd;rfl
theorem Hd.str{x:Str}:Hd K H (.str x) (.str x):=by unfold Hd;rfl
theorem Hd.tup(h:SqT K H a xs)(r:HdA K H ds xs):Hd K H (.tup ds) (.ref a):=by unfold Hd;exact⟨a,xs,rfl,h,r⟩
theorem Hd.lst(h:H a=some (.lst xs))(r:HdA K H ds xs):Hd K H (.lst ds) (.ref a):=by unfold Hd;exact⟨a,xs,rfl,q10.of h,r⟩
end
def noT(H:Hp):Hp:=λb=>match H b with
 |some (.tbl _)=>none|o=>o
theorem R70(h:noT H b=some o):H b=some o/\∀ ps,o≠.tbl ps:=by
 unfold noT at h;split at h
 ·cases h
 ·rename_i n;exact⟨h,λps e=>n ps (by rw[h,e])⟩
theorem Y30(h:H b=some o)(n:∀ ps,o≠.tbl ps):noT H b=some o:=by
 unfold noT;split
 ·rename_i ps e;rw[h] at e;cases e;exact absurd rfl (n ps)
 ·exact h
theorem z60(H:Hp):a30 (noT H) H:=λ_ _ h=>(R70 h).1
theorem e01(e:a30 H H'):a30 (noT H) (noT H'):=λb o h=>Y30 (e b o (R70 h).1) (R70 h).2
def hz(zA:Option Ç)(H:Hp):Hp:=match zA with
 |some a=>hide a (noT H)|none=>noT H
class Tb where
 tb:List (Addr × Str)
variable [TB:Tb]
def zAt(zA:Option Ç)(z:Z)(H:Hp):Prop:=match zA,z with
 |some a,some (n,b)=>H a=some (.lst [.int n,.bl b])|none,none=>True|_,_=>False
structure d30(zA:Option Addr)(z:Z)(H:Hp):Prop where
 zat:zAt zA z H
 tab:∀ p∈TB.tb,Tab H p.1 p.2
theorem a20(zA:Option Ç)(H:Hp):a30 (hz zA H) H:=by
 cases zA with
 |none=>exact z60 H|some a=>exact a30.trans (f30 a _) (z60 H)
theorem k50(e:a30 H H'):a30 (hz zA H) (hz zA H'):=by
 cases zA with
 |none=>exact e01 e|some a=>exact B40 λb o _ h=>e01 e b o h
theorem d70(h:H b=some o)(n:zA≠some b)(ht:∀ ps,o≠.tbl ps:=by exact λ_ h=>nomatch h):hz zA H b=some o:=by
 cases zA with
 |none=>exact Y30 h ht|some a=>exact K40 (Y30 h ht) λe=>n (by rw[e])
theorem n70(h:hz zA H b=some o):H b=some o/\zA≠some b:=by
 cases zA with
 |none=>exact⟨z60 H b o h,λe=>nomatch e⟩
 |some a =>
  refine⟨z60 H b o (f30 a _ b o h),λe=>?_⟩;cases e;have:hide b (noT H) b=some o:=h;unfold hide at this;rw[if_pos rfl] at this;cases this
theorem o50(h:hz zA H b=some o):∀ ps,o≠.tbl ps:=by
 cases zA with
 |none=>exact(R70 h).2|some a=>exact(R70 (f30 a _ b o h)).2
structure Ext(zA:Option Addr)(H H':Hp):Prop where
 same:a30 (hz zA H) (hz zA H')
 tbl:∀ b ps,H b=some (.tbl ps)->∃ qs,H' b=some (.tbl qs)
instance {zA:Option Ç}{H H':Hp}:CoeFun (Ext zA H H') (λ_=>∀ b o,hz zA H b=some o->hz zA H' b=some o):=⟨λx=>x.same⟩
instance {zA:Option Ç}{H H':Hp}:CoeOut (Ext zA H H') (a30 (hz zA H) (hz zA H')):=⟨λx=>x.same⟩
theorem Ext.refl:Ext zA H H:=⟨a30.refl _,λb ps h=>⟨ps,h⟩⟩
theorem Ext.trans(a:Ext zA H H1)(b:Ext zA H1 H2):Ext zA H H2:=⟨a30.trans a.same b.same,λc ps h=>let ⟨qs,h1⟩:=a.tbl c ps h;b.tbl c qs h1⟩
theorem Ext.of(e:a30 H H'):Ext zA H H':=⟨k50 e,λb ps h=>⟨ps,e b _ h⟩⟩
theorem Ext.at(e:Ext zA H H')(h:H a=some o)(n:zA≠some a)(ht:∀ ps,o≠.tbl ps:=by exact λ_ h=>nomatch h):H' a=some o:=(n70 (e.same a o (d70 h n ht))).1
theorem Ext.free(e:Ext zA H H')(h:H' a=none)(n:zA≠some a):H a=none:=by
 cases q:H a with
 |none=>rfl
 |some o =>
  by_cases ht:∃ ps,o=.tbl ps
  ·obtain⟨ps,rfl⟩:=ht;obtain⟨qs,q'⟩:=e.tbl a ps q;rw[q'] at h;cases h
  ·rw[e.at q n λps z=>ht ⟨ps,z⟩] at h;cases h
theorem zAt.same(h:zAt zA z H)(e:a30 H H'):zAt zA z H':=by
 cases zA with
 |none=>cases z with
  |none=>trivial|some _=>exact h.elim
 |some a=>cases z with
  |none=>exact h.elim|some p=>exact e _ _ h
theorem d30.same(h:d30 zA z H)(e:a30 H H'):d30 zA z H':=⟨h.zat.same e,λp hp=>(h.tab p hp).same e⟩
theorem Tab.upd{H:Hp}{P a:Ç}{q:Str}{xs:List V}{o:HO}(t:Tab H P q)(h:H a=some (.lst xs)):Tab (upd H a o) P q:=by
 obtain⟨ps,e,tr,k⟩:=t;have ne:∀ {b:Ç}{u:HO},H b=some u->(∀ l,u≠.lst l)->b≠a:=λ{b u} e1 e2 z=>by
  subst z;rw[h] at e1;cases e1;exact e2 _ rfl
 refine⟨ps,by rw[a50 (ne e λ_ z=>nomatch z)];exact e,tr,λpos c hc=>?_⟩
 obtain⟨c',e1,e2⟩:=k pos c hc;exact⟨c',e1,by rw[a50 (ne e2 λ_ z=>nomatch z)];exact e2⟩
theorem d30.a72{K:Â}{zA:Option Ç}{z:Z}{H:Hp}(h:d30 zA z H){a:Ç}{xs:List V}(t:SqT K H a xs):SqT K (hz zA H) a xs:=by
 have h:=h.zat;rcases t with (t | ⟨o,t⟩) | t
 ·refine .inl (.inl (d70 t λe=>?_));subst e;cases z with
  |none=>exact h.elim
  |some p =>
   have h':H a=some (.lst [.int p.1,.bl p.2]):=h;rw[t] at h';cases h'
 ·refine .inl (.inr ⟨o,d70 t λe=>?_⟩);subst e;cases z with
  |none=>exact h.elim
  |some p =>
   have h':H a=some (.lst [.int p.1,.bl p.2]):=h;rw[t] at h';cases h'
 ·exact .inr t
theorem d30.e11(h:d30 zA z H)(n:H a=none):zA≠some a:=λe=>by
 have h:=h.zat;subst e;cases z with
 |none=>exact h.elim
 |some p =>
  have h':H a=some (.lst [.int p.1,.bl p.2]):=h;rw[n] at h';cases h'
def RvS(K:Â)(zA:Option Ç)(H0 H:Hp):S->V->Prop
 |.d x,v=>Hd K (hz zA H) x v|.fr xs,v=>∃ a ys,v=.ref a/\H0 a=none/\zA≠some a/\H a=some (.lst ys)/\HdA K (hide a (hz zA H)) xs ys|.z,v=>∃ a,zA=some a/\v=.ref a
def RvP(K:Â)(zA:Option Ç)(H:Hp):S->V->Prop
 |.d x,v=>Hd K (hz zA H) x v|.fr xs,v=>Hd K (hz zA H) (.lst xs) v|.z,v=>∃ a,zA=some a/\v=.ref a
section
variable {K:Â}{zA:Option Ç}{H0 H H':Hp}
theorem RvS.pl{s:S}{v:V}(h:RvS K zA H0 H s v):RvP K zA H s v:=by
 cases s with
 |d x=>exact h|z=>exact h
 |fr xs =>
  obtain⟨a,ys,rfl,_,h2,h3,h4⟩:=h;exact Hd.lst (d70 h3 h2) (h4.same (f30 a _))
theorem RvP.plS{s:S}{v:V}(h:RvP K zA H s v):RvP K zA H (plS s) v:=by cases s <;> exact h
theorem RvP.mono{s:S}{v:V}(h:RvP K zA H s v)(e:Ext zA H H'):RvP K zA H' s v:=by
 cases s with
 |d x=>exact Hd.same e h|z=>exact h|fr xs=>exact Hd.same e h
theorem RvS.mono{s:S}{v:V}(h:RvS K zA H0 H s v)(e:Ext zA H H'):RvS K zA H0 H' s v:=by
 cases s with
 |d x=>exact Hd.same e h|z=>exact h
 |fr xs =>
  obtain⟨a,ys,rfl,h1,h2,h3,h4⟩:=h;exact⟨a,ys,rfl,h1,h2,e.at h3 h2,h4.same (B40 λb o _ q=>e b o q)⟩
theorem RvS.from{H1:Hp}{s:S}{v:V}(h:RvS K zA H1 H s v)(e:Ext zA H0 H1):RvS K zA H0 H s v:=by
 cases s with
 |d x=>exact h|z=>exact h
 |fr xs =>
  obtain⟨a,ys,rfl,h1,h2,h3⟩:=h;exact⟨a,ys,rfl,e.free h1 h2,h2,h3⟩
theorem RvP.d_{s:S}{v:V}{x:D}(h:RvP K zA H s v)(e:plD s=some x):Hd K (hz zA H) x v:=by
 cases s with
 |d y=>cases e;exact h
 |fr xs=>cases e;exact h
 |z=>cases e
end
abbrev RvA(K:Â)(zA:Option Ç)(H:Hp):List S->List V->Prop:=Á8 (RvP K zA H)
theorem RvA.mono{K:Â}{zA:Option Ç}{H H':Hp}{l:List S}{vs:List V}(h:RvA K zA H l vs)(e:Ext zA H H'):RvA K zA H' l vs:=Á8.P81 h λ_ _ q=>q.mono e
theorem RvA.plS{K:Â}{zA:Option Ç}{H:Hp}:∀ {l:List S}{vs:List V},RvA K zA H l vs->RvA K zA H (l.map plS) vs
 |_,_,.nil=>.nil|_,_,.cons r t=>.cons r.plS (RvA.plS t)
theorem RvA.ds{K:Â}{zA:Option Ç}{H:Hp}:∀ {l:List S}{vs:List V}{ds:List D},RvA K zA H l vs->plA l=some ds->HdA K (hz zA H) ds vs
 |_,_,_,.nil,e=>by cases e;exact .nil
 |.d x::r,_,_,.cons h t,e=>by
  simp only[plA,Ô4] at e;obtain⟨l,e,rfl⟩:=e;exact .cons h (RvA.ds t e)
 |.fr x::r,_,_,.cons h t,e=>by
  simp only[plA,Ô4] at e;obtain⟨l,e,rfl⟩:=e;exact .cons h (RvA.ds t e)
 |.z::r,_,_,.cons h t,e=>by simp[plA] at e
theorem e10(h:pl l=some x):∃ s,l=[s]/\plD s=some x:=by
 unfold pl at h;split at h
 ·exact⟨_,rfl,h⟩
 ·exact⟨_,rfl,h⟩
 ·cases h
theorem M.bind_some{α β:Type}{m:M α}{f:α->M β}{z:Z}{r:R β}(h:M.bind m f z=some r):(∃ a z1,m z=some (.ok a z1)/\f a z1=some r)∨(∃ c z1,m z=some (.er c z1)/\r=.er c z1):=by
 unfold M.bind at h;split at h
 ·exact .inl ⟨_,_,by assumption,h⟩
 ·cases h;exact .inr ⟨_,_,by assumption,rfl⟩
 ·cases h
theorem M.a10{α β:Type}{o:Option α}{f:α->M β}{z:Z}{r:R β}(h:M.bind (M.of o) f z=some r):∃ a,o=some a/\f a z=some r:=by
 cases o with
 |none=>cases h
 |some a=>exact⟨a,rfl,h⟩
end Q
set_option exponentiation.threshold 5000
namespace Q
open PySem L2 PySem.Spec PyProof.Rows
variable [TB:Tb]
section
variable {K:Â}{zA:Option Ç}{z:Z}{H:Hp}
theorem K51(hp:H p=none):a30 (hz zA H) (hide p (hz zA (upd H p o))):=λb u e=>by
 obtain⟨e1,e2⟩:=n70 e;have hb:b≠p:=λq=>by subst q;rw[hp] at e1;cases e1
 exact K40 (d70 (by rw[a50 hb];exact e1) e2 (o50 e)) hb
theorem j80:RvS K zA H0 H (.d (.int i)) (.int i):=Hd.int (K:=K) (H:=hz zA H)
theorem j60:RvS K zA H0 H (.d (.bl b)) (.bl b):=Hd.bl (K:=K) (H:=hz zA H)
theorem E31(h:Hd K (hz zA H) x v):RvS K zA H0 H (.d x) v:=h
theorem l20(st:d30 zA z H)(h:HdA K (hz zA H) xs ys)(hp:H p=none):RvS K zA H (upd H p (.lst ys)) (.fr xs) (.ref p) :=
 ⟨p,ys,rfl,hp,st.e11 hp,b00,h.same (K51 hp)⟩
theorem tupQ(st:d30 zA z H)(h:HdA K (hz zA H) xs ys)(q:∀ v H',a30 H H'->RvS K zA H H' (.d (.tup xs)) v->Q v H'):I11 K H ys Q :=
 λp H' sm hq=>q _ _ sm (E31 (Hd.tup ((st.same sm).a72 hq) (h.same (k50 sm))))
end
def rD2(K:Â)(f:D->D->Option S):R2:=λx y H Q=>∃ zA z dx dy s,d30 zA z H/\Hd K (hz zA H) dx x/\Hd K (hz zA H) dy y/\f dx dy=some s/\∀ v H',a30 H H'->RvS K zA H H' s v->Q v H'
def rDn(K:Â)(f:List D->Option S):List V->Hp->VK->Prop:=λxs H Q=>∃ zA z ds s,d30 zA z H/\HdA K (hz zA H) ds xs/\f ds=some s/\∀ v H',a30 H H'->RvS K zA H H' s v->Q v H'
section
variable {X:Cx}
theorem bits_le(h:k.natAbs < t21):Þ1 k<=4000:=by
 unfold Þ1;split
 ·exact È3 _
 ·have hn:k.natAbs < 2 ^ 4000:=h;have:k.natAbs.log2 < 4000:=by
   rcases Nat.eq_zero_or_pos k.natAbs with h0 | hp
   ·rw[h0];decide
   ·exact(Nat.log2_lt (Ê7 hp)).mpr hn
  omega
theorem o02(hi:i.natAbs < t21)(hj:j.natAbs < t21):IntMulOk i j:=by
 have h1:=bits_le hi;have h2:=bits_le hj;unfold IntMulOk;intro h;rw[Á] at h;have h3:=h.2;unfold À3.Int.intTooBig at h3;simp only[decide_eq_true_eq] at h3;have:(8000:Nat) < bitsLine:=by decide
 omega
theorem u11(hj:j.natAbs < t21):À3.divisionGoesByPylong i j=false:=by
 refine PyProof.noPylong_of_log2 ?_;rcases Nat.eq_zero_or_pos j.natAbs with h0 | hp
 ·rw[h0];decide
 ·have:j.natAbs.log2 < 4000:=(Nat.log2_lt (Ê7 hp)).mpr hj;omega
theorem f50(h:n<=most):n<=sizeLine:=Þ h (by rw[Á4];decide)
def E22(K:Â):R2:=λx y H Q=>∃ l b xs zs,x=.ref l/\y=.ref b/\q10 K H l xs/\q10 K H b zs/\xs.length + zs.length<=Ý/\∀ p,H p=none->Q (.ref p) (upd H p (.lst (xs++zs)))
def E32(K:Â):R2:=λx y H Q=>∃ l k xs,x=.ref l/\y=.int k/\q10 K H l xs/\-(2 ^ 63)<=k/\k < 2 ^ 63/\xs.length * k.toNat<=Ý/\∀ p,H p=none->Q (.ref p) (upd H p (.lst (î k.toNat xs).flatten))
theorem a82:OpR X (Ä1 .Add) (E22 X.K):=by
 intro pins s σ H x y v u Q I rx ry h;obtain⟨l,b,xs,zs,rfl,rfl,hH,hB,hz,q⟩:=h;cases rx;cases ry;obtain⟨z,its,n,r,hl,e⟩:=hH.mem I;obtain⟨z2,its2,n2,r2,hl2,e2⟩:=hB.mem I;refine PySem.P.add_list e e2 ?_ (by rw[Ô,Ô];omega)
 have ea:its.toArray++its2.toArray=(its++its2).toArray:=by simp
 rw[ea];exact⟨.ref _,_,I.C42 (t':=s.toks) (r.append r2) (by rw[À5];omega),rfl,q _ I.fresh⟩
theorem a92:OpR X (Ä1 .Mult) (E32 X.K):=by
 intro pins s σ H x y v u Q I rx ry h;obtain⟨l,k,xs,rfl,rfl,hH,h1,h2,hz,q⟩:=h;cases rx;obtain⟨t,rfl⟩:=ry;obtain⟨z,its,n,r,hl,e⟩:=hH.mem I;have hlen:its.toArray.size * k.toNat<=sizeLine:=by rw[Ô,← hl];exact hz
 have hcap:¬ its.toArray.size * k.toNat > (2 ^ 63 - 1) / 8:=by
  have:(Ý:Nat)<=(2 ^ 63 - 1) / 8:=by decide
  omega
 have hfit:¬ (!À3.List.listFitsIndex k)=true:=by
  rw[fitsIndex_both h1 h2];exact Ï
 have hlong:¬ Í6 (its.toArray.size * k.toNat)=true:=by
  rw[F91 hlen];exact Ï
 have hnew:foldl (λx1 x2=>x1++x2) #[] (î (if its.toArray.isEmpty=true then 0 else k.toNat) its.toArray)=(î k.toNat its).flatten.toArray:=by
  have f0:∀ m:Nat,foldl (λx1 x2=>x1++x2) #[] (î m its.toArray)=(î m its).flatten.toArray:=λm=>by
   have:=foldl_rep its m [];rw[Í1] at this;exact this
  rw[f0];cases its with
  |nil=>simp|cons a r'=>rw[if_neg (by simp)]
 refine wpAny_binaryOp_repeat_ref (T:="list") (U:="int") (-0) ⟨_,e,rfl⟩ (λs'=>Û3 s' k t) noFill_list_mul F.fills_int_mul Õ0 repeat_list F.slot_int_index.lookup
  (È1 Õ0 (Û3 s k t) F.entry_int_rmul (F.args_int_rmul_2 _ _) (int___rmul___int_list k t l its.toArray n)
   ⟨e,rfl,⟨_,e,rfl⟩,È1 F.slot_list_mul ⟨_,e,rfl⟩ F.entry_list_mul (F.args_list_mul_2 _ _) (AutoListH.list___mul___list_int_3 l its.toArray n k t hfit hcap hlong) ⟨e,?_⟩⟩)
 rw[hnew];exact⟨.ref _,_,I.C42 (t':=s.toks) (r.rep k.toNat) (by rw[len_rep,Ù9];exact hz),rfl,q _ I.fresh⟩
theorem b02:OpR X (Ä1 .Add) (rD2 X.K (G00 .add)):=by
 intro pins s σ H x y v u Q I rx ry h;obtain⟨zA,z,dx,dy,w,st,hx,hy,e,q⟩:=h;cases dx with
 |int i =>
  cases dy with
  |int j =>
   cases e;cases hx.i40;cases hy.i40;exact k52 pins s σ H _ _ v u Q I rx ry ⟨i,j,rfl,rfl,q _ _ (a30.refl H) j80⟩
  |_=>cases e
 |tup a =>
  cases dy with
  |tup b =>
   obtain⟨hl,e⟩:=g30 e;cases e;obtain⟨p,xs,rfl,h1,h2⟩:=hx.z20;obtain⟨p',ys,rfl,h3,h4⟩:=hy.z20;exact Y31 pins s σ H _ _ v u Q I rx ry ⟨p,p',xs,ys,rfl,rfl,(a20 zA H).sqT h1,(a20 zA H).sqT h3,f50 (by rw[h2.length,h4.length];exact hl),tupQ st (h2.append h4) q⟩
  |_=>cases e
 |lst a =>
  cases dy with
  |lst b =>
   obtain⟨hl,e⟩:=g30 e;cases e;obtain⟨p,xs,rfl,h1,h2⟩:=hx.W30;obtain⟨p',ys,rfl,h3,h4⟩:=hy.W30;exact a82 pins s σ H _ _ v u Q I rx ry ⟨p,p',xs,ys,rfl,rfl,h1.same (a20 zA H),h3.same (a20 zA H),f50 (by rw[h2.length,h4.length];exact hl),λr hr=>q _ _ (a30.new _ hr) (l20 st (h2.append h4) hr)⟩
  |_=>cases e
 |_=>cases e
theorem b12:OpR X (Ä1 .Sub) (rD2 X.K (G00 .sub)):=by
 intro pins s σ H x y v u Q I rx ry h;obtain⟨zA,z,dx,dy,w,st,hx,hy,e,q⟩:=h;cases dx with
 |int i =>
  cases dy with
  |int j =>
   cases e;cases hx.i40;cases hy.i40;exact k62 pins s σ H _ _ v u Q I rx ry ⟨i,j,rfl,rfl,q _ _ (a30.refl H) j80⟩
  |_=>cases e
 |_=>cases e
theorem b22:OpR X (Ä1 .Mult) (rD2 X.K (G00 .mul)):=by
 intro pins s σ H x y v u Q I rx ry h;obtain⟨zA,z,dx,dy,w,st,hx,hy,e,q⟩:=h;cases dx with
 |int i =>
  cases dy with
  |int j =>
   obtain⟨hl,e⟩:=g30 e;cases e;cases hx.i40;cases hy.i40;obtain⟨t,rfl⟩:=rx;obtain⟨t',rfl⟩:=ry;exact mul_int ⟨.int (i * j),H,I.tok _,⟨_,rfl⟩,q _ _ (a30.refl H) j80⟩ (o02 hl.1 hl.2)
  |_=>cases e
 |tup a =>
  cases dy with
  |int j =>
   obtain⟨hl,e⟩:=g30 e;cases e;cases hy.i40;obtain⟨p,xs,rfl,h1,h2⟩:=hx.z20;exact Y41 pins s σ H _ _ v u Q I rx ry ⟨p,j,xs,rfl,rfl,(a20 zA H).sqT h1,hl.1,hl.2.2,f50 (by rw[h2.length];exact hl.2.1),tupQ st (h2.rep _) q⟩
  |_=>cases e
 |lst a =>
  cases dy with
  |int j =>
   obtain⟨hl,e⟩:=g30 e;cases e;cases hy.i40;obtain⟨p,xs,rfl,h1,h2⟩:=hx.W30;exact a92 pins s σ H _ _ v u Q I rx ry ⟨p,j,xs,rfl,rfl,h1.same (a20 zA H),by omega,by omega,f50 (by rw[h2.length,Ù9];exact hl.2.1),λr hr=>q _ _ (a30.new _ hr) (l20 st (h2.rep _) hr)⟩
  |_=>cases e
 |_=>cases e
theorem K61:OpR X (Ä1 .FloorDiv) (rD2 X.K (G00 .fdiv)):=by
 intro pins s σ H x y v u Q I rx ry h;obtain⟨zA,z,dx,dy,w,st,hx,hy,e,q⟩:=h;cases dx with
 |int i =>
  cases dy with
  |int j =>
   obtain⟨hl,e⟩:=g30 e;cases e;cases hx.i40;cases hy.i40;obtain⟨t,rfl⟩:=rx;obtain⟨t',rfl⟩:=ry;refine floordiv_int ∅ ⟨.int (i / j),H,I.tok _,⟨s.toks,?_⟩,q _ _ (a30.refl H) j80⟩ (.inl (u11 hl.2))
   rw[Int.fdiv_eq_ediv_of_nonneg _ ∅]
  |_=>cases e
 |_=>cases e
theorem b32:OpR X (Ä1 .Mod) (rD2 X.K (G00 .mod)):=by
 intro pins s σ H x y v u Q I rx ry h;obtain⟨zA,z,dx,dy,w,st,hx,hy,e,q⟩:=h;cases dx with
 |int i =>
  cases dy with
  |int j =>
   obtain⟨hl,e⟩:=g30 e;cases e;cases hx.i40;cases hy.i40;exact k72 pins s σ H _ _ v u Q I rx ry ⟨i,j,rfl,rfl,hl,q _ _ (a30.refl H) j80⟩
  |_=>cases e
 |_=>cases e
theorem b42:OpR X (Ä1 .Pow) (rD2 X.K (G00 .pow)):=by
 intro pins s σ H x y v u Q I rx ry h;obtain⟨zA,z,dx,dy,w,st,hx,hy,e,q⟩:=h;cases dx with
 |int i =>
  cases dy with
  |int j =>
   obtain⟨hl,e⟩:=g30 e;cases e;cases hx.i40;cases hy.i40;exact k82 pins s σ H _ _ v u Q I rx ry ⟨i,j,rfl,rfl,⟨hl.1,by omega,hl.2.2⟩,q _ _ (a30.refl H) j80⟩
  |_=>cases e
 |_=>cases e
def opB:Bi->Ý0
 |.add=>.Add | .sub=>.Sub | .mul=>.Mult | .fdiv=>.FloorDiv | .mod=>.Mod | .pow=>.Pow
theorem opD(o:Bi):OpR X (Ä1 (opB o)) (rD2 X.K (G00 o)):=by
 cases o
 ·exact b02
 ·exact b12
 ·exact b22
 ·exact K61
 ·exact b32
 ·exact b42
mutual
noncomputable def toP:D->PyData
 |.non=>.none|.bl b=>.bool b|.int i=>.int i|.str x=>.str x|.tup l=>.tuple (O30 l)|.lst l=>.list (O30 l)|.dct=>.none
noncomputable def O30:List D->List PyData
 |[]=>[]|x::r=>toP x::O30 r
end
end
end Q
namespace Q
open PySem L2 PySem.Spec PyProof.Rows
variable [TB:Tb]
mutual
theorem R80:∀ a b:D,m00 a=true->m00 b=true->Ü2 (toP a) (toP b)=eqD a b
 |.non,b,_,h=>by cases b <;> first | rfl | (simp[m00] at h)
 |.bl _,b,_,h=>by cases b <;> first | rfl | (simp[m00] at h)
 |.int _,b,_,h=>by cases b <;> first | rfl | (simp[m00] at h)
 |.str _,b,_,h=>by cases b <;> first | rfl | (simp[m00] at h)
 |.tup l,b,ha,h=>by
  cases b with
  |tup q =>
   exact Y40 l q (by simpa [m00] using ha) (by simpa [m00] using h)
  |dct=>simp[m00] at h|_=>rfl
 |.lst l,b,ha,h=>by
  cases b with
  |lst q =>
   exact Y40 l q (by simpa [m00] using ha) (by simpa [m00] using h)
  |dct=>simp[m00] at h|_=>rfl
 |.dct,_,h,_=>by simp[m00] at h
theorem Y40:∀ a b:List D,e40 a=true->e40 b=true->PyData.eqvAll (O30 a) (O30 b)=R10 a b
 |[],[],_,_=>rfl|[],_::_,_,_=>rfl|_::_,[],_,_=>rfl
 |x::r,y::q,ha,hb=>by
  simp only[e40,Á] at ha hb;simp only[O30,PyData.eqvAll,R10];rw[R80 x y ha.1 hb.1,Y40 r q ha.2 hb.2]
end
mutual
theorem x50:∀ a:D,m00 a=true->(toP a).canLay0=true
 |.non,_=>rfl|.bl _,_=>rfl|.int _,_=>rfl|.str _,h=>h|.tup l,h=>s00 l h|.lst l,h=>s00 l h|.dct,h=>by cases h
theorem s00:∀ a:List D,e40 a=true->PyData.canLayAll0 (O30 a)=true
 |[],_=>rfl
 |x::r,h=>by
  simp only[e40,Á] at h;simp only[O30,PyData.canLayAll0,x50 x h.1,s00 r h.2,Bool.and_self]
end
mutual
theorem L40:∀ a:D,(toP a).depth=deep a
 |.non=>rfl|.bl _=>rfl|.int _=>rfl|.str _=>rfl|.tup l=>congrArg (· + 1) (L50 l)|.lst l=>congrArg (· + 1) (L50 l)|.dct=>rfl
theorem L50:∀ a:List D,Ó1 (O30 a)=e90 a
 |[]=>rfl
 |x::r=>by
  simp only[O30,Ó1,e90];rw[L40 x,L50 r]
end
def k91(h:ë)(u:Ä)(d:D):Prop:=m00 d=true/\∃ as,Reads h u (toP d) as
def e60(h:ë)(us:List Ä)(ds:List D):Prop:=e40 ds=true/\∃ as,ReadsAll h us (O30 ds) as
section
variable {X:Cx}{pins:List (Ç × Obj)}{σ:L2.St}{H:Hp}{s:Æ}
mutual
theorem i50(I:Inv X pins σ H s):∀ {d:D}{v:V}{u:Ä},Hd X.K H d v->RelV v u->m00 d=true->∃ as,Reads s.heap u (toP d) as
 |.non,_,_,h,r,_=>by cases h.E02;cases r;exact⟨_,.none⟩
 |.bl b,_,_,h,r,_=>by cases h.bl_;cases r;exact⟨_,.bool b⟩
 |.int i,_,_,h,r,_=>by cases h.i40;obtain⟨t,rfl⟩:=r;exact⟨_,.int i t⟩
 |.str x,_,_,h,r,_=>by cases h.E12;obtain⟨t,rfl⟩:=r;exact⟨_,.str x t⟩
 |.tup l,_,_,h,r,f=>by
  obtain⟨a,xs,rfl,h1,h2⟩:=h.z20;cases r;obtain⟨its,rv,⟨o,e1,e2,n,e3⟩,_⟩:=I.tuple h1;obtain⟨as,ra⟩:=C90 I h2 rv f;exact⟨_,.tuple e1 e2 e3 (by simpa using ra)⟩
 |.lst l,_,_,h,r,f=>by
  obtain⟨a,xs,rfl,h1,h2⟩:=h.W30;cases r;obtain⟨its,rv,⟨o,n,e1,e2,_,e3⟩,_⟩:=I.list h1.sq;obtain⟨as,ra⟩:=C90 I h2 rv f;exact⟨_,.list e1 e2 e3 (by simpa using ra)⟩
 |.dct,_,_,_,_,f=>by cases f
theorem C90(I:Inv X pins σ H s):∀ {ds:List D}{vs:List V}{us:List Ä},HdA X.K H ds vs->Vals vs us->e40 ds=true->∃ as,ReadsAll s.heap us (O30 ds) as
 |[],_,_,h,r,_=>by cases h.f80;cases r;exact⟨_,.nil⟩
 |d::ds,_,_,h,r,f=>by
  obtain⟨x,xs,rfl,h1,h2⟩:=h.c80;cases r with
  |cons r1 r2 =>
   simp only[e40,Á] at f;obtain⟨_,a1⟩:=i50 I h1 r1 f.1;obtain⟨_,a2⟩:=C90 I h2 r2 f.2;exact⟨_,.cons a1 a2⟩
end
end
theorem o60(h:okD d=true):m00 d=true/\SeqAt.shaped (toP d)=true:=by
 unfold okD at h;rw[Á,decide_eq_true_eq] at h;refine⟨h.1,?_⟩;unfold SeqAt.shaped;rw[x50 d h.1,L40,Ä9,decide_eq_true_eq];omega
section
variable {X:Cx}
theorem o22(h:eqE a b=some c):∃ l,a=.tup l/\b=.tup []/\c=l.isEmpty:=by
 unfold eqE at h;split at h
 ·cases h;exact⟨_,rfl,rfl,rfl⟩
 ·cases h
theorem o32(hu:X.A.units + 64 < Å7):OpR X (À2 .Eq) (rD2 X.K λa b=>(eqQ a b).map λc=>.d (.bl c)):=by
 intro pins s σ H x y v u Q I rx ry h;obtain⟨zA,z,dx,dy,w,st,hx,hy,e,q⟩:=h;unfold eqQ at e;dsimp only at e;split at e
 ·rename_i ok;cases e;rw[Á] at ok;obtain⟨f1,s1⟩:=o60 ok.1;obtain⟨f2,s2⟩:=o60 ok.2;obtain⟨as,r1⟩:=i50 I (hx.same (a20 zA H)) rx f1;obtain⟨bs,r2⟩:=i50 I (hy.same (a20 zA H)) ry f2;exact eq_dataH r1 r2 s1 s2 hu ⟨.bl _,H,I,rfl,by rw[R80 dx dy f1 f2];exact q _ _ (a30.refl H) j60⟩
 ·obtain⟨c,h1,h2⟩:=É.mp e;obtain⟨l,rfl,rfl,rfl⟩:=o22 h1;subst h2;obtain⟨a,xs,rfl,k1,k2⟩:=hx.z20;obtain⟨b,ys,rfl,k3,k4⟩:=hy.z20;cases k4.f80;cases rx;cases ry;obtain⟨its,rv,ht,_⟩:=I.tuple ((a20 zA H).sqT k1);obtain⟨iu,ru,hu2,_⟩:=I.tuple ((a20 zA H).sqT k3);cases ru;have e1:its.length=l.length:=by rw[← rv.length,k2.length]
  refine SeqAt.eq_tupleAt (e:=λ_=>true) ht hu2 ∅ (λj _ h2=>absurd h2 (Õ5 j)) ⟨.bl _,H,I,rfl,?_⟩
  have e2:((ð (min its.toArray.size ([]:List Ä).toArray.size)).all (λ_=>true)&&its.toArray.size == ([]:List Ä).toArray.size)=l.isEmpty:=by
   simp only[Ô,Â1,Nat.min_zero,List.range_zero,all_nil,Ä9,e1];cases l <;> rfl
  rw[e2];exact q _ _ (a30.refl H) j60
theorem o42(hu:X.A.units + 64 < Å7):OpR X (À2 .NotEq) (rD2 X.K λa b=>(eqO a b).map λc=>.d (.bl !c)):=by
 intro pins s σ H x y v u Q I rx ry h;obtain⟨zA,z,dx,dy,w,st,hx,hy,e,q⟩:=h;unfold eqO at e;dsimp only at e;split at e
 ·rename_i ok;cases e;rw[Á] at ok;obtain⟨f1,s1⟩:=o60 ok.1;obtain⟨f2,s2⟩:=o60 ok.2;obtain⟨as,r1⟩:=i50 I (hx.same (a20 zA H)) rx f1;obtain⟨bs,r2⟩:=i50 I (hy.same (a20 zA H)) ry f2;exact ne_dataH r1 r2 s1 s2 hu ⟨.bl _,H,I,rfl,by rw[R80 dx dy f1 f2];exact q _ _ (a30.refl H) j60⟩
 ·cases e
theorem b52(hu:X.A.units + 64 < Å7):OpR X (À2 .NotEq) (rD2 X.K λa b=>(neO a b).map λc=>.d (.bl c)):=by
 intro pins s σ H x y v u Q I rx ry h;obtain⟨zA,z,dx,dy,w,st,hx,hy,e,q⟩:=h;unfold neO at e;dsimp only at e;split at e
 ·cases e;unfold Hd at hx;obtain⟨a,kvs,rfl,h1⟩:=hx;obtain⟨b,xs,rfl,h2,_⟩:=hy.z20;exact Y91 hu pins s σ H _ _ v u Q I rx ry ⟨a,b,kvs,xs,rfl,rfl,(n70 h1).1,(a20 zA H).sqT h2,q _ _ (a30.refl H) j60⟩
 ·refine o42 hu pins s σ H _ _ v u Q I rx ry ⟨zA,z,dx,dy,w,st,hx,hy,?_,q⟩;rw[← e,Option.map_map];rfl
end
theorem L60(h:F90 l=true):e40 l=true/\e90 l<=39:=by
 unfold F90 at h;rw[Á,decide_eq_true_eq] at h;exact h
theorem L70(h:okD d=true):deep d<=40:=by
 unfold okD at h;rw[Á,decide_eq_true_eq] at h;exact h.2
theorem D00(x:D)(fx:m00 x=true):∀ l:List D,e40 l=true->((O30 l).any λy=>Ü2 y (toP x))=memD x l
 |[],_=>rfl
 |y::r,h=>by
  simp only[e40,Á] at h;show(Ü2 (toP y) (toP x) || (O30 r).any λy=>Ü2 y (toP x))=(eqD y x || memD x r);rw[R80 y x h.1 fx,D00 x fx r h.2]
section
variable {X:Cx}
theorem L80(h:K11 x l=some b):okD x=true/\F90 l=true/\b=memD x l:=by
 unfold K11 at h;split at h
 ·rename_i ok;rw[Á] at ok;cases h;exact⟨ok.1,ok.2,rfl⟩
 ·cases h
theorem room_in{A:ö}(hu:A.units + 64 < Å7){l:List D}{x:D}(h:okD x=true):A.units + 1 + min (Ó1 (O30 l)) (toP x).depth < cLine:=by
 have h1:=L70 h;have h2:min (Ó1 (O30 l)) (toP x).depth<=(toP x).depth:=Nat.min_le_right _ _;have h3:=L40 x;omega
theorem b62(hu:X.A.units + 64 < Å7):OpR X (À2 .In) (rD2 X.K λa b=>(s90 .mem a b).map λc=>.d (.bl c)):=by
 intro pins s σ H x y v u Q I rx ry h;obtain⟨zA,z,dx,dy,w,st,hx,hy,e,q⟩:=h;cases dy with
 |tup l =>
  obtain⟨b,e1,e2⟩:=É.mp e;subst e2;obtain⟨o1,o2,rfl⟩:=L80 e1;obtain⟨f2,_⟩:=L60 o2;obtain⟨f1,_⟩:=o60 o1;obtain⟨as,r1⟩:=i50 I (hx.same (a20 zA H)) rx f1;obtain⟨bs,r2⟩:=i50 I (hy.same (a20 zA H)) ry (by simpa [m00] using f2)
  exact SeqAt.in_tuple_reads r2 r1 (s00 l f2) (x50 dx f1) (room_in hu o1) ⟨.bl _,H,I,rfl,by rw[D00 dx f1 l f2];exact q _ _ (a30.refl H) j60⟩
 |lst l =>
  obtain⟨b,e1,e2⟩:=É.mp e;subst e2;obtain⟨o1,o2,rfl⟩:=L80 e1;obtain⟨f2,_⟩:=L60 o2;obtain⟨f1,_⟩:=o60 o1;obtain⟨as,r1⟩:=i50 I (hx.same (a20 zA H)) rx f1;obtain⟨bs,r2⟩:=i50 I (hy.same (a20 zA H)) ry (by simpa [m00] using f2)
  exact SeqAt.in_list_reads r2 r1 (s00 l f2) (x50 dx f1) (room_in hu o1) ⟨.bl _,H,I,rfl,by rw[D00 dx f1 l f2];exact q _ _ (a30.refl H) j60⟩
 |_=>cases e
theorem K71(hu:X.A.units + 64 < Å7):OpR X (À2 .NotIn) (rD2 X.K λa b=>(s90 .nmem a b).map λc=>.d (.bl c)):=by
 intro pins s σ H x y v u Q I rx ry h;obtain⟨zA,z,dx,dy,w,st,hx,hy,e,q⟩:=h;cases dy with
 |tup l =>
  obtain⟨b,e1,e2⟩:=É.mp e;subst e2;obtain⟨b',e3,rfl⟩:=É.mp e1;obtain⟨o1,o2,rfl⟩:=L80 e3;obtain⟨f2,_⟩:=L60 o2;obtain⟨f1,_⟩:=o60 o1;obtain⟨as,r1⟩:=i50 I (hx.same (a20 zA H)) rx f1;obtain⟨bs,r2⟩:=i50 I (hy.same (a20 zA H)) ry (by simpa [m00] using f2)
  exact SeqAt.notIn_tuple_reads r2 r1 (s00 l f2) (x50 dx f1) (room_in hu o1) ⟨.bl _,H,I,rfl,by rw[D00 dx f1 l f2];exact q _ _ (a30.refl H) j60⟩
 |lst l =>
  obtain⟨b,e1,e2⟩:=É.mp e;subst e2;obtain⟨b',e3,rfl⟩:=É.mp e1;obtain⟨o1,o2,rfl⟩:=L80 e3;obtain⟨f2,_⟩:=L60 o2;obtain⟨f1,_⟩:=o60 o1;obtain⟨as,r1⟩:=i50 I (hx.same (a20 zA H)) rx f1;obtain⟨bs,r2⟩:=i50 I (hy.same (a20 zA H)) ry (by simpa [m00] using f2)
  exact SeqAt.notIn_list_reads r2 r1 (s00 l f2) (x50 dx f1) (room_in hu o1) ⟨.bl _,H,I,rfl,by rw[D00 dx f1 l f2];exact q _ _ (a30.refl H) j60⟩
 |_=>cases e
end
end Q
namespace Q
open PySem L2 PySem.Spec PyProof.Rows
variable [TB:Tb]
def E42(A:ö)(s:Æ)(v u:Ä)(b:Bool):Prop:=∀ (P:à) (w:ê) (E:Ä->Æ->Prop) (Q:Ä->Æ->Prop),Q (.bool b) s->Ñ (Ö P w) A (richCompare .Lt v u) Q E s
section
open PySem.SeqAt
open PySem.AutoSeq1 (wpAny_loadPart')
open PySem.MeetsSeq PySem.MeetsSeq2 PySem.MeetsSeq3
inductive Lx (A:Around) (s:Shared):List Value->List Value->Bool->Prop
 |nn:Lx A s [] [] false
 |nc {u us}:Lx A s [] (u::us) true
 |cn {v vs}:Lx A s (v::vs) [] false
 |eq {v u vs us b}:EqAt A s v u true->Lx A s vs us b->Lx A s (v::vs) (u::us) b
 |ne {v u vs us b}:EqAt A s v u false->E42 A s v u b->Lx A s (v::vs) (u::us) b
theorem D10(l b:Ç)(items items2:Array Ä)(n n2:Nat)(dd dd2:Option Ç)(sl sl2:Array (Option Ä))(c:Bool) :
  Meets (À3.«tuple.__lt__» ⟨[.ref l,.ref b],[]⟩)
   (λA R s=>s.heap.get? l=some { cls:=.type "tuple",dict:=dd,data:=.seq items n,slots:=sl }/\s.heap.get? b=some { cls:=.type "tuple",dict:=dd2,data:=.seq items2 n2,slots:=sl2 } /\
    Lx A.in1 s items.toList items2.toList c/\R (.ok (.ret (.bool c))) s) :=
 .of_wp λprog w A R s h=>by
  obtain⟨hp,g,d,tk,os⟩:=s;obtain⟨hl,hb,hx,h⟩:=h;have f2:=Ü5
  wp_walk using Ä8 hl,Ä8 hb,wpAny_forIn_list _ (λrest b s'=>b.1=none/\s'=⟨hp,g,d,tk,os⟩/\∃ (vs ws:List Ä),rest=vs.zip ws /\
   vs.length + items2.size=ws.length + items.size/\Lx A.in1 ⟨hp,g,d,tk,os⟩ vs ws c) _
  case turn =>
   rintro ⟨y,x⟩ rest b s' ⟨hb',rfl,vs,ws,hz,hlen,hR⟩;cases hR with
   |nn=>rw[Ù4] at hz;cases hz
   |nc=>rw[Ù4] at hz;cases hz
   |cn=>rw[List.zip_nil_right] at hz;cases hz
   |eq he hr =>
    rw[Ê6] at hz;injection hz with hyx hrest;injection hyx with hy hx';subst hy hx';simp only[Û] at hlen;refine À (he prog w _ _ ?_)
    wp_walk
    exact⟨rfl,rfl,_,_,hrest,by omega,hr⟩
   |ne he hr =>
    rw[Ê6] at hz;injection hz with hyx hrest;injection hyx with hy hx';subst hy hx';refine À (he prog w _ _ ?_);have hri:=λE Q q=>hr prog w E Q q
    wp_walk using hri
    exact⟨_,rfl,by simpa using h⟩
  case fin =>
   rintro ⟨b1,b2⟩ s' ⟨hb',rfl,vs,ws,hz,hlen,hR⟩;simp only at hb';subst hb';have hv:c=decide (items.size < items2.size):=by
    cases hR with
    |nn=>simp only[Â1] at hlen;exact(decide_eq_false ∅).symm|nc=>simp only[Â1,Û] at hlen;exact(decide_eq_true ∅).symm|cn=>simp only[Â1,Û] at hlen;exact(decide_eq_false ∅).symm|eq he hr=>rw[Ê6] at hz;cases hz
    |ne he hr=>rw[Ê6] at hz;cases hz
   rw[hv] at h
   wp_walk
   exact⟨_,rfl,by simpa [tupleCompareSizes] using h⟩
  case h =>
   exact⟨rfl,rfl,items.toList,items2.toList,rfl,by simp;omega,hx⟩
end
theorem u21(hl:Ï1 s.heap l i1)(hb:Ï1 s.heap b i2)(hu:A.units < Å7)(hx:Lx A.in1 s i1.toList i2.toList c):E42 A s (.ref l) (.ref b) c:=by
 intro P w E Q h;obtain⟨⟨cls,dd,data,sl⟩,ho,hc,n,hd⟩:=id hl;obtain⟨⟨cls2,dd2,data2,sl2⟩,ho2,hc2,n2,hd2⟩:=id hb;simp only at hc hd hc2 hd2;subst hc hd hc2 hd2;exact richCompare_meets_room (op:=.Lt) ⟨_,ho,rfl⟩ ⟨_,ho2,rfl⟩ Ó0 Þ7 (Ý7 _ _) (D10 l b i1 i2 n n2 dd dd2 sl sl2 c)
  ⟨ho,ho2,hx,show Î7 c≠Ô6/\Q (.bool c) s from⟨(λx=>nomatch x),h⟩⟩ hu
theorem o52(ha:k91 s.heap v a)(hb:k91 s.heap u b)(hu:A.units + deep a < Å7):Ö2 A s v u (eqD a b):=by
 obtain⟨f1,as,r1⟩:=ha;obtain⟨f2,bs,r2⟩:=hb;rw[← R80 a b f1 f2];have h:=L40 a;have h2:min (toP a).depth (toP b).depth<=(toP a).depth:=Nat.min_le_left _ _;exact SeqAt.eqAt_reads (toP a) (toP b) A s v u as bs r1 r2 (x50 a f1) (x50 b f2) ∅
theorem e60.c80(x:e60 h us (d::ds)):∃ u r,us=u::r/\k91 h u d/\e60 h r ds:=by
 obtain⟨f,as,r⟩:=x;simp only[e40,Á] at f;cases r with
 |cons r1 r2=>exact⟨_,_,rfl,⟨f.1,_,r1⟩,f.2,_,r2⟩
theorem e60.f80(x:e60 h us []):us=[]:=by
 obtain⟨_,as,r⟩:=x;cases r;rfl
theorem in1_units(A:ö):A.in1.units=A.units + 1:=rfl
theorem b72:∀ (n:Nat) {A:ö}{s:Æ},
  (∀ (a b:D) (v u:Ä) (c:Bool),deep a<=n->k91 s.heap v a->k91 s.heap u b->ltD a b=some c->A.units + n < Å7->E42 A s v u c) /\
  (∀ (a b:List D) (vs us:List Ä) (c:Bool),e90 a < n->e60 s.heap vs a->e60 s.heap us b->K01 a b=some c->A.units + n < Å7->Lx A.in1 s vs us c):=by
 intro n
 induction n with
 |zero =>
  intro A s;refine⟨λa b v u c hd ha hb e hu=>?_,λa b vs us c hd=>absurd hd (Õ5 _)⟩;cases a with
  |int i =>
   cases b with
   |int j =>
    cases e;obtain⟨_,_,r1⟩:=ha;obtain⟨_,_,r2⟩:=hb;cases r1;cases r2;exact λP w E Q h=>HT.c71 A s i _ j _ P w E Q h
   |_=>cases e
  |tup l=>simp[deep] at hd|_=>cases e
 |succ n ih =>
  have rows:∀ {A:ö}{s:Æ} (a b:List D) (vs us:List Ä) (c:Bool),e90 a < n + 1->e60 s.heap vs a->e60 s.heap us b->K01 a b=some c->A.units + (n + 1) < Å7->Lx A.in1 s vs us c:=by
   intro A s a
   induction a with
   |nil =>
    intro b vs us c _ ha hb e hu;cases ha.f80;cases b with
    |nil=>cases hb.f80;cases e;exact .nn
    |cons y q=>obtain⟨u,r,rfl,_⟩:=hb.c80;cases e;exact .nc
   |cons x r ihr =>
    intro b vs us c hd ha hb e hu;obtain⟨v,vs',rfl,a1,a2⟩:=ha.c80;cases b with
    |nil=>cases hb.f80;cases e;exact .cn
    |cons y q =>
     obtain⟨u,us',rfl,b1,b2⟩:=hb.c80;simp only[e90] at hd;have d1:deep x<=n:=Nat.le_of_lt_succ (Ë1 (Nat.le_max_left _ _) hd);have d2:e90 r < n + 1:=Ë1 (Nat.le_max_right _ _) hd;have hu1:A.in1.units + n < cLine:=by rw[in1_units];omega
     have he:=o52 (A:=A.in1) a1 b1 ∅
     simp only[K01] at e;cases hq:eqD x y with
     |true =>
      rw[hq] at he e;exact .eq he (ihr q vs' us' c d2 a2 b2 (by simpa using e) hu)
     |false =>
      rw[hq] at he e;exact .ne he ((ih (A:=A.in1) (s:=s)).1 x y v u c d1 a1 b1 (by simpa using e) hu1)
  intro A s;refine⟨λa b v u c hd ha hb e hu=>?_,rows⟩;cases a with
  |int i =>
   cases b with
   |int j =>
    cases e;obtain⟨_,_,r1⟩:=ha;obtain⟨_,_,r2⟩:=hb;cases r1;cases r2;exact λP w E Q h=>HT.c71 A s i _ j _ P w E Q h
   |_=>cases e
  |tup l =>
   cases b with
   |tup q =>
    obtain⟨f1,as,r1⟩:=ha;obtain⟨f2,bs,r2⟩:=hb;simp only[deep] at hd;cases r1 with
    |tuple k1 k2 k3 k4 =>
     cases r2 with
     |tuple m1 m2 m3 m4 =>
      exact u21 ⟨_,k1,k2,_,k3⟩ ⟨_,m1,m2,_,m3⟩ ∅ (rows l q _ _ c ∅ ⟨by simpa [m00] using f1,_,k4⟩ ⟨by simpa [m00] using f2,_,m4⟩ e hu)
   |_=>cases e
  |_=>cases e
section
variable {X:Cx}
theorem o62(h:ltO a b=some c):okD a=true/\okD b=true/\ltD a b=some c:=by
 unfold ltO at h;split at h
 ·rename_i ok;rw[Á] at ok;exact⟨ok.1,ok.2,h⟩
 ·cases h
theorem o72(hu:X.A.units + 64 < Å7):OpR X (À2 .Lt) (rD2 X.K λa b=>(s90 .lt a b).map λc=>.d (.bl c)):=by
 intro pins s σ H x y v u Q I rx ry h;obtain⟨zA,z,dx,dy,w,st,hx,hy,e,q⟩:=h;obtain⟨b,e1,e2⟩:=É.mp e;subst e2;obtain⟨o1,o2,e3⟩:=o62 (show ltO dx dy=some b from e1);obtain⟨f1,_⟩:=o60 o1;obtain⟨f2,_⟩:=o60 o2;obtain⟨as,r1⟩:=i50 I (hx.same (a20 zA H)) rx f1;obtain⟨bs,r2⟩:=i50 I (hy.same (a20 zA H)) ry f2;exact(b72 40 (A:=X.A) (s:=s)).1 dx dy v u b (L70 o1) ⟨f1,as,r1⟩ ⟨f2,bs,r2⟩ e3 ∅ _ _ _ _ ⟨.bl b,H,I,rfl,q _ _ (a30.refl H) j60⟩
theorem w00{K:Â}{H:Hp}:∀ {l:List D}{ns:List Int}{vs:List V},Y00 l=some ns->HdA K H l vs->vs=ns.map V.int/\l=ns.map D.int
 |[],_,_,e,h=>by cases e;rw[h.f80];exact⟨rfl,rfl⟩
 |.int i::r,_,_,e,h=>by
  obtain⟨ms,e1,rfl⟩:=É.mp e;obtain⟨x,xs,rfl,h1,h2⟩:=h.c80;cases h1.i40;obtain⟨rfl,rfl⟩:=w00 e1 h2;exact⟨rfl,rfl⟩
 |.non::_,_,_,e,_=>by cases e
 |.bl _::_,_,_,e,_=>by cases e
 |.str _::_,_,_,e,_=>by cases e
 |.tup _::_,_,_,e,_=>by cases e
 |.lst _::_,_,_,e,_=>by cases e
 |.dct::_,_,_,e,_=>by cases e
theorem o82(hu:X.A.units + 64 < Å7):OpR X (À2 .LtE) (rD2 X.K λa b=>(s90 .le a b).map λc=>.d (.bl c)):=by
 intro pins s σ H x y v u Q I rx ry h;obtain⟨zA,z,dx,dy,w,st,hx,hy,e,q⟩:=h;cases dx with
 |int i =>
  cases dy with
  |int j =>
   cases e;cases hx.i40;cases hy.i40;exact B52 pins s σ H _ _ v u Q I rx ry ⟨i,j,rfl,rfl,q _ _ (a30.refl H) j60⟩
  |_=>cases e
 |tup a =>
  cases dy with
  |tup b =>
   obtain⟨c,e1,e2⟩:=É.mp e;subst e2;obtain⟨ns,n1,e1⟩:=Í.mp (show(Y00 a).bind _=_ from e1);obtain⟨ms,n2,rfl⟩:=É.mp e1;obtain⟨p,xs,rfl,h1,h2⟩:=hx.z20;obtain⟨p',ys,rfl,h3,h4⟩:=hy.z20;obtain⟨rfl,_⟩:=w00 n1 h2;obtain⟨rfl,_⟩:=w00 n2 h4;exact m22 ∅ pins s σ H _ _ v u Q I rx ry ⟨p,p',ns,ms,rfl,rfl,(a20 zA H).sqT h1,(a20 zA H).sqT h3,q _ _ (a30.refl H) j60⟩
  |_=>cases e
 |_=>cases e
theorem o92:OpR X (À2 .Gt) (rD2 X.K λa b=>(s90 .gt a b).map λc=>.d (.bl c)):=by
 intro pins s σ H x y v u Q I rx ry h;obtain⟨zA,z,dx,dy,w,st,hx,hy,e,q⟩:=h;cases dx with
 |int i =>
  cases dy with
  |int j =>
   cases e;cases hx.i40;cases hy.i40;exact B62 pins s σ H _ _ v u Q I rx ry ⟨i,j,rfl,rfl,q _ _ (a30.refl H) j60⟩
  |_=>cases e
 |_=>cases e
theorem p02:OpR X (À2 .GtE) (rD2 X.K λa b=>(s90 .ge a b).map λc=>.d (.bl c)):=by
 intro pins s σ H x y v u Q I rx ry h;obtain⟨zA,z,dx,dy,w,st,hx,hy,e,q⟩:=h;cases dx with
 |int i =>
  cases dy with
  |int j =>
   cases e;cases hx.i40;cases hy.i40;exact B72 pins s σ H _ _ v u Q I rx ry ⟨i,j,rfl,rfl,q _ _ (a30.refl H) j60⟩
  |_=>cases e
 |_=>cases e
def opC:Cm->CmpOp
 |.eq=>.Eq | .ne=>.NotEq | .lt=>.Lt | .le=>.LtE | .gt=>.Gt | .ge=>.GtE | .mem=>.In | .nmem=>.NotIn
theorem R91(hu:X.A.units + 64 < Å7)(o:Cm):OpR X (À2 (opC o)) (rD2 X.K λa b=>(s90 o a b).map λc=>.d (.bl c)):=by
 cases o
 ·exact o32 hu
 ·exact b52 hu
 ·exact o72 hu
 ·exact o82 hu
 ·exact o92
 ·exact p02
 ·exact b62 hu
 ·exact K71 hu
theorem HdA.one{K:Â}{H:Hp}{d:D}{xs:List V}(h:HdA K H [d] xs):∃ x,xs=[x]/\Hd K H d x:=by
 obtain⟨x,r,rfl,h1,h2⟩:=h.c80;rw[h2.f80];exact⟨x,rfl,h1⟩
theorem HdA.two{K:Â}{H:Hp}{d e:D}{xs:List V}(h:HdA K H [d,e] xs):∃ x y,xs=[x,y]/\Hd K H d x/\Hd K H e y:=by
 obtain⟨x,r,rfl,h1,h2⟩:=h.c80;obtain⟨y,rfl,h3⟩:=h2.one;exact⟨x,y,rfl,h1,h3⟩
theorem u31{K:Â}{zA:Option Ç}{H:Hp}{d:D}{l:List D}{v:V}(h:Hd K (hz zA H) d v)(e:k71 d=some l):∃ a xs,v=.ref a/\(SqL K H a xs∨SqT K H a xs)/\HdA K (hz zA H) l xs:=by
 cases d with
 |tup m =>
  cases e;obtain⟨a,xs,rfl,h1,h2⟩:=h.z20;exact⟨a,xs,rfl,.inr ((a20 zA H).sqT h1),h2⟩
 |lst m =>
  cases e;obtain⟨a,xs,rfl,h1,h2⟩:=h.W30;exact⟨a,xs,rfl,.inl (h1.same (a20 zA H)).sq,h2⟩
 |_=>cases e
theorem p12:g70 X (.builtin "len") (rDn X.K (bfD .len)):=by
 intro pins s σ H xs us Q I r h;obtain⟨zA,z,ds,w,st,hx,e,q⟩:=h
 match ds,e with
 |[d],e =>
  obtain⟨l,e1,rfl⟩:=É.mp (show(k71 d).map _=some w from e);obtain⟨x,rfl,h1⟩:=hx.one;obtain⟨a,ys,rfl,h2,h3⟩:=u31 h1 e1;exact P70 pins s σ H _ us Q I r ⟨a,ys,rfl,h2,by rw[h3.length];exact q _ _ (a30.refl H) j80⟩
theorem K81:g70 X (.type "tuple") (rDn X.K (bfD .tuple)):=by
 intro pins s σ H xs us Q I r h;obtain⟨zA,z,ds,w,st,hx,e,q⟩:=h
 match ds,e with
 |[d],e =>
  obtain⟨l,e1,rfl⟩:=É.mp (show(k71 d).map _=some w from e);obtain⟨x,rfl,h1⟩:=hx.one;obtain⟨a,ys,rfl,h2,h3⟩:=u31 h1 e1;refine J20 pins s σ H _ us Q I r ⟨a,ys,rfl,?_⟩;rcases h2 with h2 | h2
  ·refine .inl ⟨h2,λp hp=>q _ _ (a30.new _ hp) (E31 (Hd.tup ((st.same (a30.new _ hp)).a72 (SqT.of b00)) (h3.same (k50 (a30.new _ hp)))))⟩
  ·exact .inr ⟨h2,q _ _ (a30.refl H) (E31 (Hd.tup (st.a72 h2) h3))⟩
theorem b82:g70 X (.type "list") (rDn X.K (bfD .list)):=by
 intro pins s σ H xs us Q I r h;obtain⟨zA,z,ds,w,st,hx,e,q⟩:=h
 match ds,e with
 |[d],e =>
  obtain⟨l,e1,rfl⟩:=É.mp (show(k71 d).map _=some w from e);obtain⟨x,rfl,h1⟩:=hx.one;obtain⟨a,ys,rfl,h2,h3⟩:=u31 h1 e1;exact P80 pins s σ H _ us Q I r ⟨a,ys,rfl,h2,λp hp=>q _ _ (a30.new _ hp) (l20 st h3 hp)⟩
theorem S01{K:Â}{H:Hp}:∀ {l:List D}{bs:List Bool}{vs:List V},l.mapM asB=some bs->HdA K H l vs->vs=bs.map V.bl
 |[],_,_,e,h=>by simp at e;subst e;rw[h.f80];rfl
 |x::r,_,_,e,h=>by
  simp only[mapM_cons,bind,Í] at e;obtain⟨b,e1,bs,e2,e3⟩:=e;cases e3;obtain⟨y,ys,rfl,h1,h2⟩:=h.c80;cases x with
  |bl c=>cases e1;cases h1.bl_;rw[S01 e2 h2];rfl
  |_=>cases e1
theorem p22(hc:X.calm=true):g70 X (.builtin "all") (rDn X.K (bfD .all)):=by
 intro pins s σ H xs us Q I r h;obtain⟨zA,z,ds,w,st,hx,e,q⟩:=h
 match ds,e with
 |[.lst l],e =>
  obtain⟨bs,e1,rfl⟩:=É.mp (show(l.mapM asB).map _=some w from e);obtain⟨x,rfl,h1⟩:=hx.one;obtain⟨a,ys,rfl,h2,h3⟩:=h1.W30;rw[S01 e1 h3] at h2;exact G81 hc pins s σ H _ us Q I r ⟨a,bs,rfl,(h2.same (a20 zA H)).sq,q _ _ (a30.refl H) j60⟩
theorem p32(hc:X.calm=true):g70 X (.builtin "min") (rDn X.K (bfD .min)):=by
 intro pins s σ H xs us Q I r h;obtain⟨zA,z,ds,w,st,hx,e,q⟩:=h
 match ds,e with
 |[.int i,.int j],e =>
  cases e;obtain⟨x,y,rfl,h1,h2⟩:=hx.two;cases h1.i40;cases h2.i40;exact o51 hc pins s σ H _ us Q I r ⟨i,j,rfl,q _ _ (a30.refl H) j80⟩
theorem p42(hc:X.calm=true):g70 X (.builtin "max") (rDn X.K (bfD .max)):=by
 intro pins s σ H xs us Q I r h;obtain⟨zA,z,ds,w,st,hx,e,q⟩:=h
 match ds,e with
 |[.int i,.int j],e =>
  cases e;obtain⟨x,y,rfl,h1,h2⟩:=hx.two;cases h1.i40;cases h2.i40;exact o41 hc pins s σ H _ us Q I r ⟨i,j,rfl,q _ _ (a30.refl H) j80⟩
theorem p52:g70 X (.type "int") (rDn X.K (bfD .int)):=by
 intro pins s σ H xs us Q I r h;obtain⟨zA,z,ds,w,st,hx,e,q⟩:=h
 match ds,e with
 |[.int i],e =>
  cases e;obtain⟨x,rfl,h1⟩:=hx.one;cases h1.i40;exact O90 pins s σ H _ us Q I r (.inl ⟨i,rfl,q _ _ (a30.refl H) j80⟩)
 |[.bl b],e =>
  cases e;obtain⟨x,rfl,h1⟩:=hx.one;cases h1.bl_;exact O90 pins s σ H _ us Q I r (.inr ⟨b,rfl,q _ _ (a30.refl H) j80⟩)
def tyN:Ty->String
 |.int=>"int" | .bool=>"bool" | .tuple=>"tuple" | .list=>"list" | .str=>"str" | .seq=>""
theorem b92(t:Ty)(d:D)(h:t≠.seq):isB d.ty (tyN t)=R71 t d:=by
 cases t <;> cases d <;> first | rfl | (exact absurd rfl h) | decide
theorem L01(d:D):(isB d.ty "tuple" || isB d.ty "list")=R71 .seq d:=by cases d <;> rfl
theorem at_of{K:Â}{H:Hp}{l:List D}{xs:List V}{i:Int}{d:D}(h:HdA K H l xs)(e:atI l i=some d):∃ v,atI xs i=some v/\Hd K H d v:=by
 unfold atI at e ⊢;obtain⟨j,e1,e2⟩:=Í.mp e;rw[h.length,e1];exact h.get e2
theorem ixD:IxR X (rD2 X.K λa b=>(W10 a b).map S.d):=by
 intro value slice pins s σ H x y v u Q I rx ry h hs;obtain⟨zA,z,dx,dy,w,st,hx,hy,e,q⟩:=h;obtain⟨r,e1,rfl⟩:=É.mp e;cases dx with
 |tup l =>
  cases dy with
  |int i =>
   cases hy.i40;obtain⟨a,xs,rfl,h1,h2⟩:=hx.z20;obtain⟨v',e2,h3⟩:=at_of h2 e1;exact l22 value slice pins s σ H _ _ v u Q I rx ry ⟨a,xs,i,v',rfl,rfl,(a20 zA H).sqT h1,e2,q _ _ (a30.refl H) (E31 h3)⟩ hs
  |_=>cases e1
 |lst l =>
  cases dy with
  |int i =>
   cases hy.i40;obtain⟨a,xs,rfl,h1,h2⟩:=hx.W30;obtain⟨v',e2,h3⟩:=at_of h2 e1;exact W80 value slice pins s σ H _ _ v u Q I rx ry ⟨a,xs,i,v',rfl,rfl,(h1.same (a20 zA H)).sq,e2,q _ _ (a30.refl H) (E31 h3)⟩ hs
  |_=>cases e1
 |_=>cases e1
theorem S11{K:Â}{H:Hp}{l:List D}{xs:List V}(h:HdA K H l xs)(lo hi:Option Int):HdA K H (cutD l lo hi) (F71 xs lo hi):=by
 unfold cutD F71;rw[h.length];exact(h.drop _).take _
def T02(K:Â):V->Option Int->Option Int->Hp->VK->Prop:=λx lo hi H Q=>∃ zA z dx s,d30 zA z H/\Hd K (hz zA H) dx x/\slD dx lo hi=some s/\∀ v H',a30 H H'->RvS K zA H H' s v->Q v H'
theorem T12:SlR X (T02 X.K):=by
 intro pins s σ H x v vl vu lo hi sl Q I rx hs pl pu h;obtain⟨zA,z,dx,w,st,hx,e,q⟩:=h;cases dx with
 |tup l =>
  cases e;obtain⟨a,xs,rfl,h1,h2⟩:=hx.z20;exact Y51 pins s σ H _ v vl vu lo hi sl Q I rx hs pl pu ⟨a,xs,rfl,(a20 zA H).sqT h1,tupQ st (S11 h2 lo hi) q⟩
 |lst l =>
  cases e;obtain⟨a,xs,rfl,h1,h2⟩:=hx.W30;exact X01 pins s σ H _ v vl vu lo hi sl Q I rx hs pl pu ⟨a,xs,rfl,(h1.same (a20 zA H)).sq,λp hp=>q _ _ (a30.new _ hp) (l20 st (S11 h2 lo hi) hp)⟩
 |_=>cases e
end
end Q
namespace Q
open PySem L2 PySem.Spec PyProof.Rows
open PySem.W (KatLex KatTups kat_nil kat_cons kat_go kat_yes kat_no kat_one kat_lt kat_kind kas_kind kat_lt_int)
theorem D20(k:D):∀ l,(n11 k l).Perm (k::l)
 |[]=>.refl _
 |y::r=>by
  unfold n11;split
  ·exact((D20 k r).cons y).trans (.swap _ _ _)
  ·exact .refl _
theorem w10:∀ l,(t90 l).Perm l
 |[]=>.refl _|k::r=>(D20 k _).trans ((w10 r).cons k)
theorem u41(k:D):∀ l,l.Pairwise (λx y=>MySort.h40 (flt y) (flt x)=false)->(n11 k l).Pairwise (λx y=>MySort.h40 (flt y) (flt x)=false)
 |[],_=>List.pairwise_singleton _ _
 |y::r,h=>by
  obtain⟨h1,h2⟩:=Ç1.mp h;unfold n11;split
  ·rename_i hy;refine Ç1.mpr ⟨λz hz=>?_,u41 k r h2⟩;rcases ó.mp ((D20 k r).mem_iff.mp hz) with rfl | hz
   ·cases q:MySort.h40 (flt z) (flt y) with
    |false=>rfl|true=>have:=MySort.p80 _ _ _ hy q;rw[MySort.r60] at this;cases this
   ·exact h1 z hz
  ·rename_i hy;refine Ç1.mpr ⟨λz hz=>?_,h⟩;rcases ó.mp hz with rfl | hz
   ·simpa using hy
   ·cases q:MySort.h40 (flt z) (flt k) with
    |false=>rfl
    |true =>
     rcases MySort.d01 _ (flt y) _ q with q | q
     ·rw[h1 z hz] at q;cases q
     ·exact absurd q hy
theorem e21:∀ l,(t90 l).Pairwise (λx y=>MySort.h40 (flt y) (flt x)=false)
 |[]=>.nil|k::r=>u41 k _ (e21 r)
mutual
theorem S21:∀ x y:D,eqT x y=true->x=y
 |.int i,y,h=>by
  cases y with
  |int j=>rw[eq_of_beq (show(i == j)=true from h)]|_=>cases h
 |.tup a,y,h=>by
  cases y with
  |tup b=>rw[Y50 a b h]|_=>cases h
 |.non,y,h=>by cases y <;> cases h
 |.bl _,y,h=>by cases y <;> cases h
 |.str _,y,h=>by cases y <;> cases h
 |.lst _,y,h=>by cases y <;> cases h
 |.dct,y,h=>by cases y <;> cases h
theorem Y50:∀ x y:List D,W00 x y=true->x=y
 |[],[],_=>rfl|[],_::_,h=>by cases h
 |_::_,[],h=>by cases h
 |x::r,y::q,h=>by
  have h:(eqT x y&&W00 r q)=true:=h;rw[Á] at h;rw[S21 x y h.1,Y50 r q h.2]
end
variable [TB:Tb]
theorem c02(ok:∀ x∈l,∀ y∈l,flt x=flt y->x=y)(h:MySort.sortedBy (l.map flt) p):(p.map λi=>l.getD i .non)=t90 l:=by
 have h1:=h.1.map λi=>l.getD i .non;rw[È,MySort.range_getD] at h1;have e:((p.map λi=>l.getD i .non).map flt)=p.map λi=>(l.map flt).getD i []:=by
  rw[ï];refine É0 λi hi=>?_;have:i < l.length:=by have:=h.1.mem_iff.mp hi;simpa using this
  simp[this]
 have h2:(p.map λi=>l.getD i .non).Pairwise λx y=>MySort.h40 (flt y) (flt x)=false:=by
  have:=h.2;rw[← e,Ñ4] at this;exact this
 refine È8 (le:=λx y=>MySort.h40 (flt y) (flt x)=false) (λa b ha hb p q=>?_) h2 (e21 l) (h1.trans (w10 l).symm);exact ok a (h1.mem_iff.mp ha) b ((w10 l).mem_iff.mp hb) (MySort.p90 _ _ q p)
mutual
theorem L11(kp:MySort.q81 h h'):∀ (d:D) {u:Ä}{as:List Ç},eqT d d=true->Reads h u (toP d) as->Reads h' u (toP d) as
 |.int i,_,_,_,r=>by cases r;exact .int _ _
 |.tup l,_,_,e,r=>by
  cases r with
  |tuple k1 k2 k3 k4=>exact .tuple (kp _ _ k1 k2) k2 k3 (o70 kp l e k4)
 |.non,_,_,e,_=>by cases e
 |.bl _,_,_,e,_=>by cases e
 |.str _,_,_,e,_=>by cases e
 |.lst _,_,_,e,_=>by cases e
 |.dct,_,_,e,_=>by cases e
theorem o70(kp:MySort.q81 h h'):∀ (l:List D) {us:List Ä}{as:List Ç},W00 l l=true->ReadsAll h us (O30 l) as->ReadsAll h' us (O30 l) as
 |[],_,_,_,r=>by cases r;exact .nil
 |x::q,_,_,e,r=>by
  have e:(eqT x x&&W00 q q)=true:=e;rw[Á] at e;cases r with
  |cons r1 r2=>exact .cons (L11 kp x e.1 r1) (o70 kp q e.2 r2)
end
theorem e60.get:∀ {us:List Ä}{l:List D}{i:Nat}{d:D},e60 h us l->l[i]?=some d->k91 h (us.getD i å) d
 |_,[],i,d,_,e=>by cases e
 |us,x::r,i,d,hd,e=>by
  obtain⟨u,q,rfl,h1,h2⟩:=hd.c80;cases i with
  |zero=>cases e;simpa using h1
  |succ i=>simpa using e60.get h2 (by simpa using e)
theorem e60.len:∀ {us:List Ä}{l:List D},e60 h us l->us.length=l.length
 |_,[],hd=>by rw[hd.f80];rfl
 |us,x::r,hd=>by
  obtain⟨u,q,rfl,h1,h2⟩:=hd.c80;simp[e60.len h2]
def S31(l:List D):Prop:=∀ x r,l=x::r->∃ i,x=.int i
theorem M92(hu:A.units + 40 < Å7):∀ (a c:List D) {vs us:List Ä}{r:Bool} (i:Nat),e60 s.heap vs a->e60 s.heap us c->K01 a c=some r->e90 a<=39 ->
  ((b&&i == 0)=true->S31 a/\S31 c)->fin=decide (vs.length < us.length)->Q r s->KatLex P w A b fin Q (vs.zip us) i s
 |[],[],_,_,r,i,ha,hc,e,_,_,hf,q=>by
  cases ha.f80;cases hc.f80;cases e;subst hf;exact kat_nil q
 |[],y::t,_,_,r,i,ha,hc,e,_,_,hf,q=>by
  cases ha.f80;obtain⟨u,us,rfl,_,_⟩:=hc.c80;cases e;subst hf;exact kat_nil q
 |x::l,[],_,_,r,i,ha,hc,e,_,_,hf,q=>by
  cases hc.f80;obtain⟨v,vs,rfl,_,_⟩:=ha.c80;cases e;subst hf;exact kat_nil q
 |x::l,y::t,_,_,r,i,ha,hc,e,hd,hi,hf,q=>by
  obtain⟨v,vs,rfl,a1,a2⟩:=ha.c80;obtain⟨u,us,rfl,c1,c2⟩:=hc.c80;have d1:deep x<=39:=Þ (Nat.le_max_left _ _) hd;have d2:e90 l<=39:=Þ (Nat.le_max_right _ _) hd;have e:(if eqD x y=true then K01 l t else ltD x y)=some r:=e;refine kat_cons (o52 (A:=A) a1 c1 ∅ P w _ _ ?_)
  refine kat_go (λz=>?_) λz=>?_
  ·rw[if_pos z] at e;refine kat_yes (M92 hu l t (i + 1) a2 c2 e d2 (λk=>?_) (by rw[hf];simp) q)
   simp at k
  ·rw[if_neg (by rw[z];exact Ï)] at e
   refine kat_no ?_;cases hb:(b&&i == 0) with
   |true =>
    obtain⟨f1,f2⟩:=hi hb;obtain⟨m,rfl⟩:=f1 x l rfl;obtain⟨n,rfl⟩:=f2 y t rfl;cases e;obtain⟨_,_,r1⟩:=a1;obtain⟨_,_,r2⟩:=c1;cases r1;cases r2;exact oneLt_int q
   |false=>exact kat_one _ _ ((b72 39 (A:=A) (s:=s)).1 x y v u r d1 a1 c1 e ∅ P w _ _ q)
theorem Y60(h:t31 x=0):∃ i,x=.int i:=by
 cases x with
 |int i=>exact⟨i,rfl⟩
 |tup l =>
  cases l with
  |nil=>cases h
  |cons y r=>cases y <;> cases h
 |_=>cases h
theorem Y70(h:t31 x=k)(h1:1<=k)(h3:k < 3):∃ y r,x=.tup (y::r)/\(k=1->∃ i,y=.int i)/\(k=2->∃ l,y=.tup l):=by
 cases x with
 |tup l =>
  cases l with
  |nil=>have:k=3:=h.symm;omega
  |cons y r =>
   refine⟨y,r,rfl,λe=>?_,λe=>?_⟩ <;> subst e <;> cases y <;> first | exact⟨_,rfl⟩ | cases h
 |int i=>have:k=0:=h.symm;omega|_=>have:k=3:=h.symm;omega
theorem c12(h1:1<=k)(h3:k < 3):∀ {us:List Ä}{l:List D},e60 h us l->(∀ x∈l,t31 x=k)->∃ fs,KatTups h us fs/\fs.length=us.length/\∀ v∈fs,(k=1->∃ i t,v=Å9 i t)/\(k=2->∃ a o,v=Â9 a/\h.get? a=some o/\o.cls=.type "tuple")
 |_,[],hd,_=>by rw[hd.f80];exact⟨[],.nil,rfl,λv hv=>absurd hv (by simp)⟩
 |_,x::r,hd,hk=>by
  obtain⟨u,q,rfl,⟨_,as,r1⟩,h2⟩:=hd.c80;obtain⟨fs,t1,t2,t3⟩:=c12 h1 h3 h2 λy hy=>hk y (Ê _ hy);obtain⟨y,l,rfl,y1,y2⟩:=Y70 (hk x Ì) h1 h3;cases r1 with
  | @tuple a o vs n xs as k1 k2 k3 k4 =>
   cases hv:vs.toList with
   |nil=>rw[hv] at k4;cases k4
   |cons f fr =>
    rw[hv] at k4;cases k4 with
    |cons f1 f2 =>
     refine⟨f::fs,.cons k1 k2 k3 (by rw[← ø,hv];rfl) t1,by simp[t2],λv hm=>?_⟩
     rcases ó.mp hm with rfl | hm
     ·refine⟨λe=>?_,λe=>?_⟩
      ·obtain⟨i,rfl⟩:=y1 e;cases f1;exact⟨_,_,rfl⟩
      ·obtain⟨m,rfl⟩:=y2 e;cases f1 with
       |tuple g1 g2 g3 g4=>exact⟨_,_,rfl,g1,g2⟩
     ·exact t3 v hm
def kdOf:Nat->Î8
 |0=>Ø4|1=>tuples' true|_=>tuples' false
theorem Y80(h:i20 x y=true):t31 y=t31 x/\ltD x y=some (MySort.h40 (flt x) (flt y))/\(flt x=flt y->x=y):=by
 unfold i20 at h;rw[Á,Á,Å5] at h;refine⟨eq_of_beq h.1,eq_of_beq h.2.1,λe=>?_⟩;rcases h.2.2 with k | k
 ·exact S21 _ _ k
 ·rw[e] at k;simp at k
theorem u51(h64:us.length < 64)(hd:e60 s.heap us l)(hu:A.units + 40 < Å7)(k3:k < 3)(hk:∀ x∈l,t31 x=k)(ho:∀ x∈l,okD x=true)(hp:∀ x∈l,∀ y∈l,i20 x y=true):MySort.h62 P w A s us (MySort.sortedBy (l.map flt)) (kdOf k) where
 len:=by omega
 few h2:=MySort.l82 (by rw[È];exact hd.len) h2
 all p hp:=by rw[hp.1.length_eq,þ,È,hd.len]
 kind h2 E Q q:=by
  match k,k3,hk,q with
  |0,_,hk,q =>
   refine kas_kind h2 (T:=.type "int") (λv hv=>?_) rfl rfl q;obtain⟨i,hi,rfl⟩:=Ô7.mp hv;have hi':i < l.length:=by rw[← hd.len];exact hi
   obtain⟨_,as,r⟩:=hd.get (i:=i) (d:=l[i]) (by simp[hi'])
   obtain⟨n,hn⟩:=Y60 (hk l[i] (Æ4 hi'));rw[hn] at r;have e:us.getD i å=us[i]:=by simp[hi]
   rw[e] at r;generalize us[i]=v at r;cases r;exact Û1 rfl
  |1,_,hk,q =>
   obtain⟨fs,t1,t2,t3⟩:=c12 (-0) (-0) hd hk
   exact kat_kind (T:=.type "int") t1 ∅ (λv hv=>by obtain⟨i,t,rfl⟩:=(t3 v hv).1 rfl;exact Û1 rfl) rfl q
  |2,_,hk,q =>
   obtain⟨fs,t1,t2,t3⟩:=c12 (-0) (-0) hd hk
   exact kat_kind (T:=.type "tuple") t1 ∅ (λv hv=>by
    obtain⟨a,o,rfl,g1,g2⟩:=(t3 v hv).2 rfl;rw[← g2];exact(Î1 g1).andThen .now) rfl q
 run:=MySort.X61 (by rw[È];exact hd.len) h64 λi j hi hj E C hC=>by
  have hi':i < l.length:=by rw[← hd.len];exact hi
  have hj':j < l.length:=by rw[← hd.len];exact hj
  have mi:=Æ4 hi';have mj:=Æ4 hj';obtain⟨_,h2,_⟩:=Y80 (hp _ mi _ mj);have a1:=hd.get (i:=i) (d:=l[i]) (by simp[hi'])
  have b1:=hd.get (i:=j) (d:=l[j]) (by simp[hj'])
  have e1:(l.map flt).getD i []=flt l[i]:=by simp[hi']
  have e2:(l.map flt).getD j []=flt l[j]:=by simp[hj']
  rw[e1,e2] at hC;generalize MySort.h40 (flt l[i]) (flt l[j])=c at h2 hC;have kx:=hk _ mi;have ky:=hk _ mj;have ox:=L70 (ho _ mi);generalize l[i]=x at *
  generalize l[j]=y at *
  have tup:∀ b:Bool,1<=k->(b=true->k=1)->Ñ (Ö P w) A (keyLt' (tuples' b) (us.getD i å) (us.getD j å)) C E s:=λb h1 hb=>by
   obtain⟨x1,xr,rfl,x2,_⟩:=Y70 kx h1 k3;obtain⟨y1,yr,rfl,y2,_⟩:=Y70 ky h1 k3;obtain⟨f1,as,r1⟩:=a1;obtain⟨f2,bs,r2⟩:=b1;generalize us.getD i å=v at r1;generalize us.getD j å=u at r2;cases r1 with
   |tuple p1 p2 p3 p4 =>
    cases r2 with
    |tuple q1 q2 q3 q4 =>
     refine kat_lt p1 p3 q1 q3 (M92 hu (x1::xr) (y1::yr) 0 ⟨f1,_,p4⟩ ⟨f2,_,q4⟩ h2 (by have:deep (.tup (x1::xr))=e90 (x1::xr) + 1:=rfl;omega) (λz=>?_) (by simp) hC)
     have hb1:=hb (by simpa using z)
     exact⟨λa q e=>by cases e;exact x2 hb1,λa q e=>by cases e;exact y2 hb1⟩
  match k,k3,kx,ky,tup with
  |0,_,kx,ky,_ =>
   obtain⟨m,rfl⟩:=Y60 kx;obtain⟨n,rfl⟩:=Y60 ky;cases h2;obtain⟨_,_,r1⟩:=a1;obtain⟨_,_,r2⟩:=b1;generalize us.getD i å=v at r1;generalize us.getD j å=u at r2;cases r1;cases r2;exact kat_lt_int hC
  |1,_,_,_,tup=>exact tup true (-0) λ_=>rfl|2,_,_,_,tup=>exact tup false (-0) λh=>by cases h
theorem HdA.pick{K:Â}{H:Hp}{l:List D}{vs:List V}(h:HdA K H l vs):∀ {p:List Nat},(∀ i∈p,i < l.length)->HdA K H (p.map λi=>l.getD i .non) (p.map λi=>vs.getD i .non)
 |[],_=>.nil
 |i::p,hp=>by
  have hi:=hp i Ì;refine .cons ?_ (HdA.pick h λj hj=>hp j (Ê _ hj));obtain⟨v,e1,e2⟩:=h.get (i:=i) (d:=l[i]) (by simp[hi])
  have g1:l.getD i .non=l[i]:=by simp[hi]
  have g2:vs.getD i .non=v:=by rw[Ò,e1];rfl
  show Hd K H (l.getD i .non) (vs.getD i .non);rw[g1,g2];exact e2
end Q
namespace Q
open PySem L2 PySem.Spec PyProof.Rows
open PySem.W (kas_mapM kas_first_eq kas_item kas_item_eq kas_cmp)
theorem c22(h:k<=8):∀ i∈TS.sN k,i < 2 ^ k:=by
 have:∀ k,k < 9->((TS.sN k).all λi=>Nat.blt i (2 ^ k))=true:=by decide +kernel
 intro i hi;exact Nat.blt_eq.mp (Ú.mp (this k ∅) i hi)
theorem p62(h:k<=8):(TS.sN k).length=2 ^ k:=by
 have:∀ k,k < 9->beq (TS.sN k).length (2 ^ k)=true:=by decide +kernel
 exact Nat.eq_of_beq_eq_true (this k ∅)
theorem u00(h:i < 2 ^ k):(h50 k)[i]?=some (r30 k i):=by
 unfold h50;rw[Ø,É8 h];rfl
theorem p72(h:k<=8):((TS.sN k).map λi=>(h50 k).getD i .non)=K21 k :=
 É0 λi hi=>by rw[Ò,u00 (c22 h i hi)];rfl
theorem u61:∀ a b:List Nat,K01 (a.map λ(i:Nat)=>.int i) (b.map λ(i:Nat)=>.int i)=some (TS.z02 a b)
 |[],[]=>rfl|[],_::_=>rfl|_::_,[]=>rfl
 |a::r,b::q=>by
  show(if ((a:Int) == (b:Int))=true then K01 (r.map λ(i:Nat)=>.int i) (q.map λ(i:Nat)=>.int i) else some (decide ((a:Int) < b)))=some (if beq a b=true then TS.z02 r q else Nat.blt a b);rw[u61 r q];by_cases h:a=b
  ·subst h;rw[if_pos (by simp),if_pos (Nat.beq_refl a)]
  ·rw[if_neg (by simp;omega),if_neg λe=>h (Nat.eq_of_beq_eq_true e)]
   congr 1
   rw[Í7,decide_eq_true_eq,Nat.blt_eq];omega
variable [TB:Tb]
section
variable {P:à}{w:ê}{A:ö}{E:Ä->Æ->Prop}{s:Æ}
def TupAt(h:ë)(v:Ä):Prop:=∃ a o xs n,v=.ref a/\h.get? a=some o/\o.cls=.type "tuple"/\o.data=.seq xs n
theorem e31(ho:s.heap.get? a=some o)(hc:o.cls=.type "tuple")(hd:o.data=.seq xs n)(q:Q xs[0]? s):Ñ (Ö P w) A (firstOfTuple' (.ref a)) Q E s:=by
 rw[kas_first_eq];refine À (Ü9 (show PySem.W.Looks (Ö P w) s.heap (typeOf (.ref a)) o.cls from(Î1 ho).andThen .now) ?_);rw[hc,if_neg (by first | decide | simp)]
 exact À (Ñ0 ho hd (Å q))
theorem R90:∀ (vs:List Ä),(∀ v∈vs,TupAt s.heap v)->∃ fs:List (Option Ä),∀ Q,Q fs s->Ñ (Ö P w) A (vs.mapM firstOfTuple') Q E s
 |[],_=>⟨[],λQ q=>by rw[List.mapM_nil];exact Å q⟩
 |v::vs,h=>by
  obtain⟨fs,hf⟩:=R90 vs λu hu=>h u (Ê _ hu);obtain⟨a,o,xs,n,rfl,ho,hc,hd⟩:=h v Ì;refine⟨xs[0]?::fs,λQ q=>?_⟩;rw[mapM_cons];exact À (e31 ho hc hd (À (hf _ (Å q))))
theorem c32(ho:s.heap.get? a=some o)(hc:o.cls=.type "tuple")(hd:o.data=.seq #[] n)(h:∀ v∈vs,TupAt s.heap v)(q:Q Ø4 s):Ñ (Ö P w) A (keyKind' (Â9 a::vs).toArray) Q E s:=by
 obtain⟨fs,hf⟩:=R90 (P:=P) (w:=w) (A:=A) (E:=E) vs h;rw[keyKind'_eq,List.mapM_toArray,map_eq_pure_bind,mapM_cons];refine À (À (À (e31 ho hc hd (À (hf _ (Å (Å ?_)))))));rw[if_neg (by simp),if_neg (by simp)]
 rw[oneTypeOnly'_eq,List.mapM_toArray,map_eq_pure_bind];refine À (À (À (kas_mapM (r:=.type "tuple") _ (λv hv Q' hq=>?_) (Å ?_))))
 ·have:TupAt s.heap v:=by
   rcases ó.mp hv with rfl | hv
   ·exact⟨_,_,_,_,rfl,ho,hc,hd⟩
   ·exact h v hv
  obtain⟨b,o',xs,m,rfl,ho',hc',_⟩:=this;rw[← hc'] at hq;exact Ü9 (show PySem.W.Looks (Ö P w) s.heap (typeOf (.ref b)) o'.cls from(Î1 ho').andThen .now) hq
 ·have hall:((List.map (λ_=>Á9 "tuple") (Â9 a::vs)).toArray.all λx=>x == Á9 "tuple")=true:=by
   simp only[List.all_toArray,all_map,Å2];intro _ _;rfl
  have h0:(List.map (λ_=>Á9 "tuple") (Â9 a::vs)).toArray[0]?=some (Á9 "tuple"):=by simp
  rw[h0];simp only[hall,if_true];exact Å (Å q)
theorem p82(hl:Ï1 s.heap l i1)(hb:Ï1 s.heap b i2)(hu:A.units < Å7)(hx:Lx A.in1 s i1.toList i2.toList c)(q:Q c s):Ñ (Ö P w) A (keyLt' Ø4 (.ref l) (.ref b)) Q E s:=by
 obtain⟨⟨cls,dd,data,sl⟩,ho,hc,n,hd⟩:=id hl;obtain⟨⟨cls2,dd2,data2,sl2⟩,ho2,hc2,n2,hd2⟩:=id hb;simp only at hc hd hc2 hd2;subst hc hd hc2 hd2;rw[keyLt'_oneType,oneLt'_eq];simp only[if_true];refine À (wpAny_cRoomFor hu (À (wpAny_callSpecialIfBound?_slot ⟨_,ho,rfl⟩ Ó0 (È1 Ó0 ⟨_,ho,rfl⟩ Þ7 (Ý7 _ _) (D10 l b i1 i2 n n2 dd dd2 sl sl2 c) ⟨ho,ho2,hx,?_⟩))));exact Â6 q
theorem p92(h8:k<=8)(hd:e60 s.heap us (h50 k))(hu:A.units + 40 < Å7):MySort.h62 P w A s us (λp=>p=TS.sN k) Ø4 where
 len:=by rw[hd.len,h50,È,þ];exact Þ (Õ3 (-0) h8) (-0)
 few h2:=by
  rw[hd.len,h50,È,þ] at h2 ⊢;cases k with
  |zero=>rfl|succ k=>have:=Nat.one_le_two_pow (n:=k);rw[Nat.pow_succ] at h2;omega
 all p hp:=by subst hp;rw[hd.len,h50,È,þ,p62 h8]
 kind h2 E Q q:=by
  have ht:∀ i v,us[i]?=some v->∃ xs n a o,v=.ref a/\s.heap.get? a=some o/\o.cls=.type "tuple"/\o.data=.seq xs n/\(i=0->xs=#[]):=λi v e=>by
   have hi:i < us.length:=(ß.mp e).1;have hi':i < 2 ^ k:=by rw[hd.len,h50,È,þ] at hi;exact hi
   obtain⟨_,as,r⟩:=hd.get (u00 hi');have e2:us.getD i å=v:=by rw[Ò,e];rfl
   rw[e2] at r;have z0:∀ k,TS.B30 k 0 0=[]:=λk=>by
    have:∀ k i,TS.B30 k i 0=[]:=λk=>by
     induction k with
     |zero=>exact λ_=>rfl|succ k ih=>exact λi=>ih (i + 1)
    exact this k 0
   cases i with
   |zero =>
    have r:Reads s.heap v (toP (.tup ((TS.B30 k 0 0).map λ(i:Nat)=>.int i))) as:=r;rw[z0] at r;cases r with
    | @tuple a o vs n xs as k1 k2 k3 k4 =>
     have:vs.toList=[]:=by cases hv:vs.toList with | nil=>rfl | cons _ _=>rw[hv] at k4;cases k4
     exact⟨vs,n,a,o,rfl,k1,k2,k3,λ_=>Array.toList_eq_nil_iff.mp this⟩
   |succ i =>
    cases r with
    | @tuple a o vs n xs as k1 k2 k3 k4=>exact⟨vs,n,a,o,rfl,k1,k2,k3,λe=>by cases e⟩
  match us,ht with
  |[],_=>simp at h2
  |v::vs,ht =>
   obtain⟨xs,n,a,o,rfl,h1,h3,h4,h5⟩:=ht 0 v rfl;cases h5 rfl;refine c32 h1 h3 h4 (λu hu=>?_) q;obtain⟨i,hi,rfl⟩:=Ô7.mp hu;obtain⟨xs,n,a,o,e,h1,h3,h4,_⟩:=ht (i + 1) vs[i] (by simp[hi])
   exact⟨a,o,xs,n,e,h1,h3,h4⟩
 run h2:=by
  have hl:us.length=2 ^ k:=by rw[hd.len,h50,È,þ]
  have h1:1<=k:=by
   cases k with
   |zero=>rw[hl] at h2;exact absurd h2 (-0)|succ k=>omega
  refine TS.runL h1 h8 hl λi j C hi hj hC=>?_;have e1:=kas_item_eq us i;have e2:=kas_item_eq us j;show Ñ (Ö P w) A (keyLt' Ø4 (ù (pairsOf us) i).1 (ù (pairsOf us) j).1) C _ s;rw[e1,e2];obtain⟨f1,as,r1⟩:=hd.get (u00 hi);obtain⟨f2,bs,r2⟩:=hd.get (u00 hj);show Ñ (Ö P w) A (keyLt' Ø4 (us.getD i å) (us.getD j å)) C _ s;generalize us.getD i å=v at r1;generalize us.getD j å=u at r2;cases r1 with
  |tuple p1 p2 p3 p4 =>
   cases r2 with
   |tuple q1 q2 q3 q4 =>
    refine p82 ⟨_,p1,p2,_,p3⟩ ⟨_,q1,q2,_,q3⟩ ∅ ((b72 40).2 _ _ _ _ _ ?_ ⟨f1,_,p4⟩ ⟨f2,_,q4⟩ (u61 _ _) ∅) hC
    have:∀ l:List Nat,e90 (l.map λ(i:Nat)=>.int i)=0:=λl=>by
     induction l with
     |nil=>rfl|cons x r ih=>show Ï0 0 _=0;rw[ih];rfl
    rw[this];decide
end
section
variable {X:Cx}
theorem c42{zA:Option Ç}{H:Hp}{k:Nat}{xs:List V}(hu:X.A.units + 64 < Å7)(hd:HdA X.K H (h50 k) xs)(h8:k<=8):Y71 X H xs (λp=>p=TS.sN k):=by
 intro pins σ s us I rv;have ci:∀ l:List Nat,e40 (l.map λ(i:Nat)=>.int i)=true/\W00 (l.map λ(i:Nat)=>.int i) (l.map λ(i:Nat)=>.int i)=true:=λl=>by
  induction l with
  |nil=>exact⟨rfl,rfl⟩|cons x r ih=>exact⟨ih.1,by show((x:Int) == (x:Int)&&_)=true;rw[ih.2];simp⟩
 have cl:∀ l:List Nat,e40 (l.map (r30 k))=true/\W00 (l.map (r30 k)) (l.map (r30 k))=true:=λl=>by
  induction l with
  |nil=>exact⟨rfl,rfl⟩
  |cons x r ih =>
   refine⟨?_,?_⟩
   ·show(e40 _&&_)=true;rw[(ci _).1,ih.1];rfl
   ·show(W00 _ _&&_)=true;rw[(ci _).2,ih.2];rfl
 obtain⟨as,ra⟩:=C90 I hd rv (cl _).1;exact⟨Ø4,λh' kp=>p92 h8 ⟨(cl _).1,_,o70 kp _ (cl _).2 ra⟩ (by show X.A.units + 1 + 1 + 40 < Å7;omega)⟩
theorem c52{zA:Option Ç}{H:Hp}{l:List D}{xs:List V}(hu:X.A.units + 64 < Å7)(hd:HdA X.K H l xs)(h64:l.length < 64)(ok:n30 l=true):Y71 X H xs (MySort.sortedBy (l.map flt)):=by
 intro pins σ s us I rv
 replace h64:us.length < 64:=by rw[← rv.length,hd.length];exact h64
 have all:∀ x∈l,t31 x < 3/\okD x=true/\∀ y∈l,i20 x y=true:=λx hx=>by
  have:=Ú.mp ok x hx;rw[Á,Á,decide_eq_true_eq,Å2] at this;exact⟨this.1,this.2.1,this.2.2⟩
 have hf:e40 l=true:=by
  clear hd
  induction l with
  |nil=>rfl
  |cons x r ih =>
   have h1:=(o60 (all x Ì).2.1).1;show(m00 x&&e40 r)=true;rw[h1];have ok':n30 r=true:=Ú.mpr λy hy=>by
    obtain⟨a,b,c⟩:=all y (Ê _ hy);rw[Á,Á,decide_eq_true_eq,Å2];exact⟨a,b,λz hz=>c z (Ê _ hz)⟩
   exact ih ok' λy hy=>⟨(all y (Ê _ hy)).1,(all y (Ê _ hy)).2.1,λz hz=>(all y (Ê _ hy)).2.2 z (Ê _ hz)⟩
 obtain⟨as,ra⟩:=C90 I hd rv hf;have pure:W00 l l=true:=by
  clear hd ra hf ok;have:∀ q:List D,(∀ x∈q,eqT x x=true)->W00 q q=true:=λq=>by
   induction q with
   |nil=>intro _;rfl|cons x r ih=>intro h;show(eqT x x&&W00 r r)=true;rw[h x Ì,ih λy hy=>h y (Ê _ hy)];rfl
  refine this l λx hx=>?_;have h:=(all x hx).2.2 x hx;unfold i20 at h;rw[Á,Á,Å5] at h;rcases h.2.2 with k | k
  ·exact k
  ·simp at k
 cases l with
 |nil=>exact⟨kdOf 0,λh' kp=>u51 h64 ⟨hf,_,o70 kp _ pure ra⟩ (by show X.A.units + 1 + 1 + 40 < Å7;omega) (-0) (λx hx=>absurd hx (by simp)) (λx hx=>absurd hx (by simp)) λx hx=>absurd hx (by simp)⟩
 |cons x r =>
  have hx:=all x Ì;exact⟨kdOf (t31 x),λh' kp=>u51 h64 ⟨hf,_,o70 kp _ pure ra⟩ (by show X.A.units + 1 + 1 + 40 < Å7;omega) hx.1 (λy hy=>(Y80 (hx.2.2 y hy)).1) (λy hy=>(all y hy).2.1) λy hy=>(all y hy).2.2⟩
theorem u71(hu:X.A.units + 64 < Å7):g70 X (.builtin "sorted") (rDn X.K (bfD .sorted)):=by
 intro pins s σ H xs us Q I r h;obtain⟨zA,z,ds,w,st,hx,e,q⟩:=h
 match ds,e with
 |[x],e =>
  have e:sortedS x=some w:=e;unfold sortedS at e;obtain⟨l,h1,e⟩:=Í.mp e;obtain⟨v,rfl,hv⟩:=hx.one;have go:∀ (a:Ç) (ys:List V),v=.ref a->(SqL X.K H a ys∨SqT X.K H a ys)->HdA X.K (hz zA H) l ys->Ñ (Ö X.prog X.w) X.A (call (.builtin "sorted") us) (EP X pins σ Q) X.xe s:=λa ys hva hq hd=>by
   subst hva;by_cases c:l.length < 64/\n30 l=true
   ·rw[if_pos c] at e;cases e;obtain⟨h64,ok⟩:=c;refine x40 pins s σ H _ us Q I r ⟨a,ys,MySort.sortedBy (l.map flt),rfl,hq,c52 (zA:=zA) hu (hd.same (a20 zA H)) h64 ok,λp hp i hi=>by have:=hp.1.mem_iff.mp hi;rw[hd.length];simpa using this,λp lA hp hn=>?_⟩
    have hd2:=hd.pick (p:=p) λi hi=>by have:=hp.1.mem_iff.mp hi;simpa using this
    rw[c02 (λx hx y hy=>?_) hp] at hd2
    ·exact q _ _ (a30.new _ hn) (l20 st hd2 hn)
    ·have:=Ú.mp ok x hx;rw[Á,Á,Å2] at this;exact(Y80 (this.2.2 y hy)).2.2
   ·rw[if_neg c] at e;obtain⟨l',e1,rfl⟩:=É.mp e;obtain⟨k,e2,rfl⟩:=É.mp e1;have e3:=Y50 _ _ (List.find?_some (p:=λk=>W00 l (h50 k)) e2);have k8:k<=8:=by have:=List.mem_of_find?_eq_some e2;simp at this;omega
    subst e3;refine x40 pins s σ H _ us Q I r ⟨a,ys,λp=>p=TS.sN k,rfl,hq,c42 (zA:=zA) hu (hd.same (a20 zA H)) k8,λp hp i hi=>?_,λp lA hp hn=>?_⟩
    ·subst hp;rw[hd.length,h50,È,þ];exact c22 k8 i hi
    ·subst hp;have hd2:=hd.pick (p:=TS.sN k) λi hi=>by rw[h50,È,þ];exact c22 k8 i hi
     rw[p72 k8] at hd2;exact q _ _ (a30.new _ hn) (l20 st hd2 hn)
  cases x with
  |tup m =>
   cases h1;obtain⟨a,ys,rfl,k1,k2⟩:=hv.z20;exact go a ys rfl (.inr ((a20 zA H).sqT k1)) k2
  |lst m =>
   cases h1;obtain⟨a,ys,rfl,k1,k2⟩:=hv.W30;exact go a ys rfl (.inl (k1.same (a20 zA H)).sq) k2
  |_=>cases h1
end
end Q
namespace SS
open PySem PySem.W PyProof.Rows MySort
def key:Ä->Int
 |.int i _=>i|_=>0
theorem L21(m:Nat):(bts m).Pairwise (· < ·):=Ë3 _ È5
theorem l01:∀ a:Nat,a < 8->∀ b:Nat,b < 8->Q.i20 (.int a) (.int b)=true:=by decide
section
variable {P:à}{w:ê}{A:ö}{E:Ä->Æ->Prop}{s:Æ}{S ep m:Nat}{g:Nat->Tok}{o:Obj}
def l11(w:ê)(S ep:Nat)(g:Nat->Tok)(m:Nat):List Value:=(ord w S ep (ent g m)).toList.map (·.2)
def c62(w:ê)(S ep:Nat)(g:Nat->Tok)(m:Nat):List L2.D:=(l11 w S ep g m).map λv=>.int (key v)
theorem Y90:(l11 w S ep g m).Perm ((bts m).map λ(i:Nat)=>Å9 i (g i)):=by
 have:=(d91 w S ep (ent g m)).map (·.2);unfold ent at this;rw[ï] at this;exact this
theorem S41(h:v∈l11 w S ep g m):∃ i,i < 8/\v=.int (i:Nat) (g i):=by
 obtain⟨i,hi,rfl⟩:=Ù.mp (Y90.mem_iff.mp h);exact⟨i,(C10.mp hi).1,rfl⟩
theorem S00(h:ë):∀ vs:List Ä,(∀ v∈vs,∃ (i:Nat) (t:Tok),v=.int i t)->Q.e60 h vs (vs.map λv=>.int (key v))
 |[],_=>⟨rfl,[],.nil⟩
 |v::r,k=>by
  obtain⟨i,t,rfl⟩:=k v Ì;obtain⟨h1,as,h2⟩:=S00 h r λv hv=>k v (Ê _ hv);exact⟨h1,_,.cons (.int _ _) h2⟩
theorem L31(hp:sortedBy ((c62 w S ep g m).map Q.flt) p):(p.map λi=>(l11 w S ep g m).getD i å)=(bts m).map λ(i:Nat)=>Å9 i (g i):=by
 obtain⟨h1,h2⟩:=hp;have len:((c62 w S ep g m).map Q.flt).length=(l11 w S ep g m).length:=by unfold c62;simp
 rw[len] at h1;have h3:(p.map λi=>(l11 w S ep g m).getD i å).Perm ((bts m).map λ(i:Nat)=>Å9 i (g i)):=by
  refine ß7.trans (h1.map _) ?_;rw[MySort.range_getD];exact Y90
 refine È8 (le:=λu v=>key u<=key v) (λu v hu hv l1 l2=>?_) ?_ ?_ h3
 ·obtain⟨i,hi,rfl⟩:=Ù.mp (h3.mem_iff.mp hu);obtain⟨j,hj,rfl⟩:=Ù.mp hv;have l1:(i:Int)<=j:=l1;have l2:(j:Int)<=i:=l2;have:i=j:=by omega
  rw[this]
 ·have e:(p.map λi=>((c62 w S ep g m).map Q.flt).getD i [])=(p.map λi=>(l11 w S ep g m).getD i å).map λv=>[key v]:=by
   rw[ï];refine É0 λi hi=>?_;have hi:i < (l11 w S ep g m).length:=by simpa using h1.mem_iff.mp hi
   unfold c62;simp[hi,Q.flt]
  rw[e,Ñ4] at h2;refine h2.imp λ{u v} h=>?_;have:h40 [key v] [key u]=false:=h;simp[h40] at this;omega
 ·rw[Ñ4];exact(L21 m).imp λ{a b} h=>by show(a:Int)<=b;omega
theorem l21{R:Ä->Æ->Prop}(hh:A.handled=none)(hu:A.units + 64 < Å7)(hm:m < 256)(ho:s.heap.get? S=some o)(hx:o.ExactSet)(hd:o.data=.set (ent g m) ep (tbl (led w) m))
  (h:∀ lA h' tk c,s.heap.objs.size<=lA->(∀ b u,s.heap.get? b=some u->h'.get? b=some u)->h'.get? lA=some (Ã3 "list" ((bts m).map λ(i:Nat)=>Å9 i (g i)).toArray c)->R (.ref lA) { s with heap:=h',toks:=tk }):Ñ (Ö P w) A (call (.builtin "sorted") [.ref S]) R E s:=by
 have h64:(l11 w S ep g m).length<=8:=by
  rw[Y90.length_eq,È];exact Þ (É4 _ _) (by simp)
 refine Þ0 kind_sorted plain_sorted entry_sorted (args_sorted1 _) ?_;unfold À3.«sorted»;refine À (m:=checkCount "sorted" 1 1 _) (Å ?_);refine À (X90 (by simp[hh]) hm ho hx hd λh1 tk lS kp1=>?_)
 refine À (Ú8 ?_ (by show(l11 w S ep g m).length<=_;rw[Á4];omega))
 have hoL:(h1.push (Ã3 "list" (l11 w S ep g m).toArray 0)).get? h1.objs.size=some (Ã3 "list" (l11 w S ep g m).toArray 0):=Ë _ rfl;have kw:∀ h',h62 P w A.in1.in1 { s with heap:=h',toks:=tk } (l11 w S ep g m) (sortedBy ((c62 w S ep g m).map Q.flt)) (Q.kdOf 0):=λh'=>by
  have dm:∀ d∈c62 w S ep g m,∃ i:Nat,i < 8/\d=.int i:=λd hd=>by
   obtain⟨v,hv,rfl⟩:=Ù.mp hd;obtain⟨i,hi,rfl⟩:=S41 hv;exact⟨i,hi,rfl⟩
  letI:Q.Tb:=⟨[]⟩
  refine Q.u51 ∅ (S00 h' _ λv hv=>by obtain⟨i,_,rfl⟩:=S41 hv;exact⟨i,_,rfl⟩) (by show A.units + 1 + 1 + 40 < Å7;omega) (-0) (λd hd=>?_) (λd hd=>?_) λd hd e he=>?_
  ·obtain⟨i,_,rfl⟩:=dm d hd;rfl
  ·obtain⟨i,_,rfl⟩:=dm d hd;rfl
  ·obtain⟨i,hi,rfl⟩:=dm d hd;obtain⟨j,hj,rfl⟩:=dm e he;exact l01 i hi j hj
 refine À (Á0 (À8 slot_list_sort ⟨_,hoL,rfl⟩ entry_list_sort (d11 hoL (λh' _=>kw h') λp h' c hp kp hD=>⟨_,rfl,Å ⟨_,rfl,?_⟩⟩) (args_list_sort _)));rw[L31 hp] at hD;exact h _ h' tk c (É2 lS) (λb u e=>kp b u (Ü (á (kp1 b u e))) (Ã _ (kp1 b u e))) hD
end
end SS
namespace Q
open PySem L2 PySem.Spec PyProof.Rows
variable [TB:Tb]
structure Gs where
 fns:List (Str × List Str)
 nums:List (Str × Int)
 F:FT
 cls:Nat->Addr
 lv:Nat
def EPost(G:Gs)(zA:Option Ç)(E:XK)(c:Nat)(z:Z)(H:Hp):Prop:=∀ e H',Ext zA H H'->d30 zA z H'->H' e=none->E (.ref (G.cls c)) (some e) H'
theorem EPost.mono(h:EPost G zA E c z H)(e:Ext zA H H1):EPost G zA E c z H1:=λa H' x s n=>h a H' (e.trans x) s n
def E52(K:Â)(G:Gs)(zA:Option Ç)(E:XK)(H:Hp)(Q:VK):R S->Prop
 |.ok s z'=>∀ v H',Ext zA H H'->d30 zA z' H'->RvS K zA H H' s v->Q v H'|.er c z'=>EPost G zA E c z' H
def Z00(K:Â)(G:Gs)(zA:Option Ç)(E:XK)(H:Hp)(Q:VK):R (List S)->Prop
 |.ok l z'=>∃ s,l=[s]/\∀ v H',Ext zA H H'->d30 zA z' H'->RvS K zA H H' s v->Q v H'|.er c z'=>EPost G zA E c z' H
def E62(K:Â)(G:Gs)(zA:Option Ç)(E:XK)(H:Hp)(Q:List V->Hp->Prop):R (List S)->Prop
 |.ok l z'=>∀ vs H',Ext zA H H'->d30 zA z' H'->Á8 (RvS K zA H H') l vs->Q vs H'|.er c z'=>EPost G zA E c z' H
def L41(G:Gs)(zA:Option Ç)(E:XK)(H:Hp)(Q:Bool->Hp->Prop):R (List S)->Prop
 |.ok l z'=>∃ b,l=[.d (.bl b)]/\∀ H',Ext zA H H'->d30 zA z' H'->Q b H'|.er c z'=>EPost G zA E c z' H
def w20(K:Â)(zA:Option Ç)(H:Hp)(ρ:Env)(σ:L2.St):Prop:=∀ (i:Nat) (s:S),ρ[i]?=some (some s)->∃ v,σ[i]?=some (some v)/\RvP K zA H s v
theorem w20.mono{K:Â}{zA:Option Ç}{H H':Hp}{ρ:Env}{σ:L2.St}(h:w20 K zA H ρ σ)(e:Ext zA H H'):w20 K zA H' ρ σ:=λi s q=>let ⟨v,a,b⟩:=h i s q;⟨v,a,b.mono e⟩
def tI(K:Â)(G:Gs)(E:XK)(x:Ex):TE:=λσ H Q=>∃ zA ρ z r,w20 K zA H ρ σ/\d30 zA z H/\ev G.F x ρ z=some r/\Z00 K G zA E H Q r
def tA(K:Â)(G:Gs)(E:XK)(x:Ex):TA:=λσ H Q=>∃ zA ρ z r,w20 K zA H ρ σ/\d30 zA z H/\ev G.F x ρ z=some r/\E62 K G zA E H Q r
def tT(K:Â)(G:Gs)(E:XK)(x:Ex):TT:=λσ H Q=>∃ zA ρ z r,w20 K zA H ρ σ/\d30 zA z H/\ev G.F x ρ z=some r/\L41 G zA E H Q r
def spF(K:Â)(G:Gs)(f n:Nat):Sp:=λvs H Q E=>vs.length=n/\∃ zA z ss r,RvA K zA H ss vs/\d30 zA z H/\G.F false f ss z=some r/\E52 K G zA E H Q r
section
variable {K:Â}{G:Gs}{E:XK}{a x:Ex}{ρ:Env}{z:Z}{zA:Option Ç}{σ:L2.St}{H:Hp}
theorem g80{α:Type}{k:List S->M α}{r:R α}{Q':VK}(rel:w20 K zA H ρ σ)(st:d30 zA z H)(h:M.bind (ev G.F a ρ) k z=some r)(her:∀ c z1,r=.er c z1->EPost G zA E c z1 H)
  (hok:∀ l z1,k l z1=some r->∃ s,l=[s]/\∀ v H1,Ext zA H H1->d30 zA z1 H1->RvS K zA H H1 s v->Q' v H1):tI K G E a σ H Q':=by
 rcases M.bind_some h with ⟨l,z1,e1,e2⟩ | ⟨c,z1,e1,e2⟩
 ·exact⟨zA,ρ,z,_,rel,st,e1,hok l z1 e2⟩
 ·exact⟨zA,ρ,z,_,rel,st,e1,her c z1 e2⟩
theorem Z10{α:Type}{k:List S->M α}{r:R α}{Q':List V->Hp->Prop}(rel:w20 K zA H ρ σ)(st:d30 zA z H)(h:M.bind (ev G.F a ρ) k z=some r)(her:∀ c z1,r=.er c z1->EPost G zA E c z1 H)
  (hok:∀ l z1,k l z1=some r->∀ vs H1,Ext zA H H1->d30 zA z1 H1->Á8 (RvS K zA H H1) l vs->Q' vs H1):tA K G E a σ H Q':=by
 rcases M.bind_some h with ⟨l,z1,e1,e2⟩ | ⟨c,z1,e1,e2⟩
 ·exact⟨zA,ρ,z,_,rel,st,e1,hok l z1 e2⟩
 ·exact⟨zA,ρ,z,_,rel,st,e1,her c z1 e2⟩
theorem S10{α:Type}{k:Bool->M α}{r:R α}{Q':Bool->Hp->Prop}(rel:w20 K zA H ρ σ)(st:d30 zA z H)(h:M.bind (ev G.F a ρ) (λx=>M.bind (M.of ((pl x).bind asB)) k) z=some r)(her:∀ c z1,r=.er c z1->EPost G zA E c z1 H)
  (hok:∀ b z1,k b z1=some r->∀ H1,Ext zA H H1->d30 zA z1 H1->Q' b H1):tT K G E a σ H Q':=by
 rcases M.bind_some h with ⟨l,z1,e1,e2⟩ | ⟨c,z1,e1,e2⟩
 ·obtain⟨b,e3,e4⟩:=M.a10 e2;obtain⟨d,e5,e6⟩:=Í.mp e3;have el:l=[.d (.bl b)]:=by
   obtain⟨s,rfl,hs⟩:=e10 e5;cases s with
   |d y=>cases hs;cases d <;> first | (cases e6;rfl) | cases e6
   |fr ys=>cases hs;cases e6
   |z=>cases hs
  exact⟨zA,ρ,z,_,rel,st,e1,b,el,hok b z1 e4⟩
 ·exact⟨zA,ρ,z,_,rel,st,e1,her c z1 e2⟩
theorem D30{l:List S}{s:S}(h:one l=some s):l=[s]:=by
 unfold one at h;split at h
 ·cases h;rfl
 ·cases h
end
theorem PE.imp(h:PE X e t)(i:∀ σ H Q,t' σ H Q->t σ H Q):PE X e t':=λpins s σ H Q I q=>h pins s σ H Q I (i _ _ _ q)
theorem PT.imp(h:PT X e t)(i:∀ σ H Q,t' σ H Q->t σ H Q):PT X e t':=λpins s σ H Q I q=>h pins s σ H Q I (i _ _ _ q)
theorem PW.imp(h:PW X e t)(i:∀ σ H Q,t' σ H Q->t σ H Q):PW X e t':=λw pins s σ H Q I q=>h w pins s σ H Q I (i _ _ _ q)
theorem PA.imp(h:PA X e t)(i:∀ σ H Q,t' σ H Q->t σ H Q):PA X e t':=λp pins s σ H Q I q=>h p pins s σ H Q I (i _ _ _ q)
def noStar:Ð->Bool
 |.Starred ..=>false|_=>true
theorem d10(h:noStar e=true)(es:List Ð)(env:È7):À0 (e::es) env=(false,eval e env)::À0 es env:=by
 cases e <;> first | rfl | cases h
theorem q20:∀ {es:List Ð} (env:È7) (pos:Pos),es.all noStar=true->(Õ2 pos (À0 es env)).any (·.1)=false
 |[],_,_,_=>rfl
 |e::es,env,pos,h=>by
  rw[Ä5,Á] at h;rw[d10 h.1];show(false || (Õ2 pos (À0 es env)).any (·.1))=false;rw[q20 env pos h.2];rfl
def plainT:Ð->Bool
 |.UnaryOp .Not _ _=>false|.BoolOp ..=>false|.IfExp ..=>false|.Compare ..=>false|_=>true
theorem u81(h:plainT e=true)(env:È7)(whole:Sem Ä):isTrue e env whole=(do let v ← whole;standAt e.pos;Ù2 [v] (truthy v)):=by
 cases e with
 |UnaryOp op _ _=>cases op <;> first | rfl | cases h
 |BoolOp _ _ _=>cases h
 |IfExp _ _ _ _=>cases h
 |Compare _ _ _ _=>cases h
 |_=>rfl
def s10:Ð->Bool
 |.Slice ..=>false|_=>true
theorem H10(h:s10 e=true):p01 e:=λo i=>by
 cases e with
 |Slice _ _ _ _=>cases h
 |_=>rfl
def s20:Ð->Bool
 |.Set ..=>false|_=>true
theorem S20(h:s20 e=true)(op:CmpOp):behindInMarks op e=false:=by
 cases e with
 |Set _ _ _=>cases h
 |_=>rfl
structure b10(X:Cx)(G:Gs)(E:XK)(x:Ex)(e:Expr):Prop where
 pe:PE X e (tI X.K G E x)
 pt:(∀ t a b p,e≠.IfExp t a b p)->PT X e (tT X.K G E x)
 pw:∀ op vs p,e=.BoolOp op vs p->PW X e (tT X.K G E x)
theorem b30(h:PE X e (tI X.K G E x))(hp:plainT e=true):b10 X G E x e:=by
 refine⟨h,λ_=>PT.imp (c01 h (u81 hp X.env)) λσ H Q q=>?_,λop vs p he=>?_⟩
 ·obtain⟨zA,ρ,z,r,rel,st,e,po⟩:=q;refine⟨zA,ρ,z,r,rel,st,e,?_⟩;cases r with
  |er c z1=>exact po
  |ok l z1 =>
   obtain⟨b,rfl,po⟩:=po;exact⟨_,rfl,λv H' ex st' rv=>⟨b,Hd.bl_ (show Hd X.K (hz zA H') (.bl b) v from rv),po H' ex st'⟩⟩
 ·subst he;cases hp
def isL:Ex->Bool
 |.nil=>true|.cons _ _=>true|_=>false
def Good(X:Cx)(G:Gs)(E:XK):Ex->List Ð->Prop
 |.nil,es=>es=[]|.cons a r,es=>∃ e es',es=e::es'/\noStar e=true/\b10 X G E a e/\isL r=true/\Good X G E r es'|x,es=>∃ e,es=[e]/\b10 X G E x e
theorem Good.args:∀ {x:Ex}{es:List Ð},isL x=true->Good X G E x es->PA X es (tA X.K G E x)/\es.all noStar=true:=by
 intro x
 induction x with
 |nil =>
  intro es _ h;have h:es=[]:=h;subst h;refine⟨PA.imp n00 λσ H Q q=>?_,rfl⟩;obtain⟨zA,ρ,z,r,rel,st,e,po⟩:=q;cases e;exact po [] H Ext.refl st .nil
 |cons a r _ ih =>
  intro es _ h;obtain⟨e,es',rfl,ns,g,lr,gr⟩:=h;obtain⟨h1,h2⟩:=ih lr gr;refine⟨PA.imp (d90 g.pe h1 (d10 ns es' X.env)) λσ H Q q=>?_,by rw[Ä5,ns,h2];rfl⟩
  obtain⟨zA,ρ,z,rr,rel,st,e,po⟩:=q;have her:∀ c z1,rr=.er c z1->EPost G zA E c z1 H:=λc z1 e=>by subst e;exact po
  refine g80 rel st e her λl z1 e1=>?_;obtain⟨s,hs,e2⟩:=M.a10 e1;refine⟨s,D30 hs,λv H1 x1 st1 rv=>?_⟩;refine Z10 (rel.mono x1) st1 e2 (λc z2 q=>(her c z2 q).mono x1) λl2 z2 e3 vs H2 x2 st2 rvs=>?_;cases e3;exact po (v::vs) H2 (x1.trans x2) st2 (.cons (rv.mono x2) (Á8.P81 rvs λ_ _ q=>q.from x1))
 |_=>intro es h;cases h
def c72:List Str:=["len","sorted","tuple","list","sum","min","max","abs","all","any","int","bool","str","isinstance","range","zip","enumerate","set"]
def lowG(G:Gs)(k:Nat):Gs:={ G with F:=z50 G.F,lv:=k }
structure D40(X:Cx)(G:Gs)(sc:Scope)(c P:Addr)(q:Str)(k:Nat)(fR:Addr)(fdR:FuncData):Prop where
 sco:X.env.scope=sc
 code:X.env.code=.ref c
 hd:PySem.W.codeHdIn X.K c P=true
 qual:X.env.qual++"<lambda>"=q
 tb:(P,q)∈TB.tb
 uq:∀ p∈TB.tb,p.1=P->p.2=q
 bm:BMain X.mg X.base
 lv:G.lv=k + 2
 cls:∀ j,j < 12->Q80 X.K X.mg (G.cls j) j
 m:X.mg "_law_refused"=some (.ref fR)
 kp:PySem.W.keepIn X.K (.ref fR)=true
 bd:Binds X.K fdR ["_law_call"] []
 fn:Q60 X.prog X.w X.K X.mg X.base CX0 (k + 2) fR fdR ["_law_call"] (Z61 X.prog X.w X.K X.mg X.base (k + 1))
 low:∀ f nm ps,G.fns[f]?=some (nm,ps)->∃ fa fd,X.mg nm=some (.ref fa)/\PySem.W.keepIn X.K (.ref fa)=true/\Binds X.K fd ps []/\V90 X.prog X.w X.K X.mg X.base (CX1 X.prog X.w) k fa fd ps (spF X.K (lowG G k) f ps.length)
def E72(X:Cx)(G:Gs)(sc:í):Prop:=∃ c P q k fR fdR,D40 X G sc c P q k fR fdR
structure XI(lm:Bool)(X:Cx)(G:Gs)(E:XK)(N:List Str)(sc:Scope):Prop where
 gok:∀ f nm ps,G.fns[f]?=some (nm,ps)->∃ fa fd,X.mg nm=some (.ref fa)/\PySem.W.keepIn X.K (.ref fa)=true/\Binds X.K fd ps []/\V90 X.prog X.w X.K X.mg X.base (CX1 X.prog X.w) G.lv fa fd ps (spF X.K G f ps.length)
 num:∀ p∈G.nums,∃ t,X.mg p.1=some (.int p.2 t)
 blt:∀ n∈c72,X.mg n=none
 hN:X.N=N
 nd:N.Nodup
 vis:∀ x∈N,Vis X.env.scope x
 glb:∀ x,sc.names.lookup x=some .globalImplicit->Gl X x
 cel:∀ x,(sc.names.lookup x=some .cell∨sc.names.lookup x=some .free)->(X.env.kindOf x=some .cell∨X.env.kindOf x=some .free)
 calm:X.calm=true
 room:v50 G.lv X.A
 pas:Passes (CX1 X.prog X.w) X E
 lam:lm=true->E72 X G sc
def glob(sc:í)(x:Str):Bool:=sc.names.lookup x == some .globalImplicit&&!(x == ("__debug__":Str))&&!(x == ("__name__":Str))
def b40(x:Str):Bool:=!(x == ("__debug__":Str))&&!(x == ("__classdict__":Str))
def q02:Const->D->Bool
 |.int i,.int j=>i == j|.bool a,.bl b=>a == b|.str x,.str y=>x == y|.none,.non=>true|_,_=>false
def bfN:Bf->Str × Bool
 |.len=>("len",false) | .sorted=>("sorted",false) | .tuple=>("tuple",true) | .list=>("list",true) | .min=>("min",false) | .max=>("max",false)|.all=>("all",false) | .int=>("int",true) | .sset=>("sorted",false) | .y82=>("len",false)
def served:Bf->Bool
 |.len | .tuple | .list | .min | .max | .all | .int | .sorted=>true|_=>false
mutual
noncomputable def j70(N:List Str)(loc:Str->Bool):Pat->Ð->Bool
 |.v i=>λe=>match e with
  |.Name x _=>N[i]? == some x&&loc x|_=>false
 |.tup ps=>λe=>match e with
  |.Tuple es _ _=>l31 N loc ps es|_=>false
 |.nil=>λ_=>false|.cons _ _=>λ_=>false
noncomputable def l31(N:List Str)(loc:Str->Bool):Pat->List Ð->Bool
 |.nil=>λes=>es.isEmpty
 |.cons p r=>λes=>match es with
  |e::es=>noStar e&&j70 N loc p e&&l31 N loc r es|[]=>false
 |.v _=>λ_=>false|.tup _=>λ_=>false
end
def l30:Ð->Bool
 |.Tuple ..=>true|_=>false
def d50:Ð->List Str
 |.Name x _=>[x]|.Tuple es _ _=>names es|_=>[]
where names:List Ð->List Str
 |[]=>[]|.Name x _::r=>x::names r|.Tuple [.Name a _,.Name b _] _ _::r=>a::b::names r|_::r=>names r
def S30(csc sc:í)(N own:List Str)(capt:List (Str × Nat)):Bool :=
 csc.kind == .function&&csc.names.all (λy=>y.2 != .cell)&&csc.names.all (λy=>y.2 != .local || csc.names.lookup y.1 == some .local) &&
  csc.names.all (λy=>y.2 != .free || (sc.names.lookup y.1 == some .cell || sc.names.lookup y.1 == some .free))&&capt.all (λp=>N[p.2]? == some p.1&&csc.names.lookup p.1 == some .free) &&
  own.all (λx=>csc.names.lookup x == some .local)&&decide (own++capt.map (·.1)).Nodup
def b60(N:List Str):List Nat->List (Str × Nat)
 |[]=>[]
 |i::r=>match N[i]? with
  |some x=>(x,i)::b60 N r|none=>b60 N r
def opt{α:Type}(o:Option α)(f:α->Bool):Bool:=match o with
 |some a=>f a|none=>false
theorem a60{α:Type}{o:Option α}{f:α->Bool}(h:opt o f=true):∃ a,o=some a/\f a=true:=by
 cases o with
 |none=>cases h
 |some a=>exact⟨a,rfl,h⟩
def N02:(e:List Ð)->Option {q:Str × Pos // e=[.Name q.1 q.2]}
 |[.Name n p]=>some ⟨(n,p),rfl⟩|_=>none
def E82:(e:List Ð)->Option {q:Const × Nat × Pos // e=[.Constant q.1 q.2.1 q.2.2]}
 |[.Constant c k p]=>some ⟨(c,k,p),rfl⟩|_=>none
def E92:(e:List Ð)->Option {q:Pos // e=[.Dict [] [] q]}
 |[.Dict [] [] p]=>some ⟨p,rfl⟩|_=>none
def F02:(e:List Ð)->Option {q:List Ð × Nat × Pos // e=[.Tuple q.1 q.2.1 q.2.2]}
 |[.Tuple l k p]=>some ⟨(l,k,p),rfl⟩|_=>none
def F12:(e:List Ð)->Option {q:List Ð × Pos // e=[.List q.1 q.2]}
 |[.List l p]=>some ⟨(l,p),rfl⟩|_=>none
def F22:(e:List Ð)->Option {q:Ð × Ý0 × Ð × Pos // e=[.BinOp q.1 q.2.1 q.2.2.1 q.2.2.2]}
 |[.BinOp l o r p]=>some ⟨(l,o,r,p),rfl⟩|_=>none
def F32:(e:List Ð)->Option {q:Ð × CmpOp × Ð × Pos // e=[.Compare q.1 [q.2.1] [q.2.2.1] q.2.2.2]}
 |[.Compare l [o] [r] p]=>some ⟨(l,o,r,p),rfl⟩|_=>none
def F42:(e:List Ð)->Option {q:Ð × Pos // e=[.UnaryOp .USub q.1 q.2]}
 |[.UnaryOp .USub x p]=>some ⟨(x,p),rfl⟩|_=>none
def F52:(e:List Ð)->Option {q:Ð × Pos // e=[.UnaryOp .Not q.1 q.2]}
 |[.UnaryOp .Not x p]=>some ⟨(x,p),rfl⟩|_=>none
def F62:(e:List Ð)->Option {q:Ð × Ð × List Ð × Pos // e=[.BoolOp .And (q.1::q.2.1::q.2.2.1) q.2.2.2]}
 |[.BoolOp .And (l::r::v) p]=>some ⟨(l,r,v,p),rfl⟩|_=>none
def N12:(e:List Ð)->Option {q:Ð × Ð × List Ð × Pos // e=[.BoolOp .Or (q.1::q.2.1::q.2.2.1) q.2.2.2]}
 |[.BoolOp .Or (l::r::v) p]=>some ⟨(l,r,v,p),rfl⟩|_=>none
def F72:(e:List Ð)->Option {q:Ð × Ð × Ð × Pos // e=[.IfExp q.1 q.2.1 q.2.2.1 q.2.2.2]}
 |[.IfExp t x y p]=>some ⟨(t,x,y,p),rfl⟩|_=>none
def T22:(e:List Ð)->Option {q:Ð × CmpOp × CmpOp × Ð × Ð × Pos // e=[.Compare q.1 [q.2.1,q.2.2.1] [q.2.2.2.1,q.2.2.2.2.1] q.2.2.2.2.2]}
 |[.Compare l [o,o2] [r,s] p]=>some ⟨(l,o,o2,r,s,p),rfl⟩|_=>none
def N22:(e:List Ð)->Option {q:Str × Pos × Ð × List Ð × Pos // e=[.Call (.Name q.1 q.2.1) (q.2.2.1::q.2.2.2.1) [] q.2.2.2.2]}
 |[.Call (.Name n q1) (x::l) [] p]=>some ⟨(n,q1,x,l,p),rfl⟩|_=>none
def T32:(e:List Ð)->Option {q:Str × Pos × Str × Pos × Ð × Pos × Pos // e=[.Call (.Name q.1 q.2.1) [.Call (.Name q.2.2.1 q.2.2.2.1) [q.2.2.2.2.1] [] q.2.2.2.2.2.1] [] q.2.2.2.2.2.2]}
 |[.Call (.Name n p1) [.Call (.Name m p2) [x] [] p3] [] p4]=>some ⟨(n,p1,m,p2,x,p3,p4),rfl⟩|_=>none
def T42:Bf->Bool
 |.sset=>true|_=>false
def F82:(e:List Ð)->Option {q:Str × Pos × Ð × Ð × Pos // e=[.Call (.Name q.1 q.2.1) [q.2.2.1,q.2.2.2.1] [] q.2.2.2.2]}
 |[.Call (.Name n q1) [x,ty] [] p]=>some ⟨(n,q1,x,ty,p),rfl⟩|_=>none
def T52:(e:List Ð)->Option {q:Ð × Ð × Pos // e=[.Subscript q.1 q.2.1 q.2.2]}
 |[.Subscript v x p]=>some ⟨(v,x,p),rfl⟩|_=>none
def T62:(e:List Ð)->Option {q:Ð × Option Ð × Option Ð × Pos × Pos // e=[.Subscript q.1 (.Slice q.2.1 q.2.2.1 none q.2.2.2.1) q.2.2.2.2]}
 |[.Subscript v (.Slice l h none q1) p]=>some ⟨(v,l,h,q1,p),rfl⟩|_=>none
def F92:(e:List Ð)->Option {q:Ð × Nat × Pos × Pos × Pos × Pos // e=[.Subscript q.1 (.Slice none none (some (.UnaryOp .USub (.Constant (.int 1) q.2.1 q.2.2.1) q.2.2.2.1)) q.2.2.2.2.1) q.2.2.2.2.2]}
 |[.Subscript v (.Slice none none (some (.UnaryOp .USub (.Constant (.int 1) k q1) q2)) q3) p]=>some ⟨(v,k,q1,q2,q3,p),rfl⟩|_=>none
def q12:(e:List Ð)->Option {q:Ð × Ð × Ð × List Ð × í × Pos // e=[.ListComp q.1 [⟨q.2.1,q.2.2.1,q.2.2.2.1,0⟩] q.2.2.2.2.1 q.2.2.2.2.2]}
 |[.ListComp elt [⟨tg,Ä0,ifs,0⟩] csc p]=>some ⟨(elt,tg,Ä0,ifs,csc,p),rfl⟩|_=>none
def h82:(e:Ð)->Option {q:Str × Pos × Ð × Pos // e=.Call (.Name q.1 q.2.1) [q.2.2.1] [] q.2.2.2}
 |.Call (.Name n q1) [a] [] p=>some ⟨(n,q1,a,p),rfl⟩|_=>none
def h92:(e:Ð)->Option {q:Str × Pos × Ð × Ð × Pos // e=.Call (.Name q.1 q.2.1) [q.2.2.1,q.2.2.2.1] [] q.2.2.2.2}
 |.Call (.Name n q1) [a,b] [] p=>some ⟨(n,q1,a,b,p),rfl⟩|_=>none
def shN:(e:Ð)->Option {q:Str × Pos // e=.Name q.1 q.2}
 |.Name n p=>some ⟨(n,p),rfl⟩|_=>none
def N32:(e:Ð)->Option {q:Str × Pos × Str × Pos × Nat × Pos // e=.Tuple [.Name q.1 q.2.1,.Name q.2.2.1 q.2.2.2.1] q.2.2.2.2.1 q.2.2.2.2.2}
 |.Tuple [.Name a q1,.Name b q2] k p=>some ⟨(a,q1,b,q2,k,p),rfl⟩|_=>none
def T72:(e:List Ð)->Option {q:Str × Pos × Int × Nat × Pos × Pos // e=[.Subscript (.Name q.1 q.2.1) (.Constant (.int q.2.2.1) q.2.2.2.1 q.2.2.2.2.1) q.2.2.2.2.2]}
 |[.Subscript (.Name n p) (.Constant (.int j) c q1) r]=>some ⟨(n,p,j,c,q1,r),rfl⟩|_=>none
def T82:(e:List Ð)->Option {q:Str × Pos × Str × Pos × List Ð × Pos × Pos // e=[.Call (.Name q.1 q.2.1) [.Call (.Name q.2.2.1 q.2.2.2.1) q.2.2.2.2.1 [] q.2.2.2.2.2.1] [] q.2.2.2.2.2.2]}
 |[.Call (.Name n p) [.Call (.Name m q1) l [] r] [] t]=>some ⟨(n,p,m,q1,l,r,t),rfl⟩|_=>none
def tyE(sc:í):Ty->Ð->Bool
 |.seq=>λe=>opt (N32 e) λq=>q.1.1 == ("tuple":Str)&&q.1.2.2.1 == ("list":Str)&&glob sc "tuple"&&glob sc "list"|t=>λe=>opt (shN e) λq=>q.1.1 == Á2 (tyN t)&&glob sc (Á2 (tyN t))
def q22:D->Bool
 |.dct=>true|_=>false
def ifB:Ð->Bool
 |.IfExp ..=>true|_=>false
def u91(lsc sc:í)(cs:List (Str × Nat)):Bool :=
 lsc.kind == .function&&!lsc.isCoroutine&&!lsc.isGenerator&&lsc.names.all (λy=>y.2 != .cell)&&lsc.names.all (λy=>y.2 != .free || sc.names.lookup y.1 == some .cell)&&cs.all (λp=>lsc.names.lookup p.1 == some .free)&&decide (cs.map (·.1)).Nodup
def mt:Bool->List (Str × List Str)->List (Str × Int)->Ex->í->List Str->List Ð->Bool
 |lm,fns,nums,.nil=>λ_ _ es=>es.isEmpty
 |lm,fns,nums,.cons a r=>λsc N es=>match es with
  |e::es=>noStar e&&!isL a&&isL r&&mt lm fns nums a sc N [e]&&mt lm fns nums r sc N es|[]=>false
 |lm,fns,nums,.var i=>λ_ N es=>opt (N02 es) λq=>N[i]? == some q.1.1&&b40 q.1.1|lm,fns,nums,.con d=>λ_ _ es=>(opt (E82 es) λq=>q02 q.1.1 d) || opt (E92 es) λ_=>q22 d|lm,fns,nums,.gint g i=>λsc _ es=>opt (N02 es) λq=>q.1.1 == g&&glob sc q.1.1&&nums.contains (g,i)|lm,fns,nums,.tup as=>λsc N es=>opt (F02 es) λq=>isL as&&mt lm fns nums as sc N q.1.1|lm,fns,nums,.lst as=>λsc N es=>opt (F12 es) λq=>isL as&&mt lm fns nums as sc N q.1.1|lm,fns,nums,.bin o a b=>λsc N es=>opt (F22 es) λq=>q.1.2.1 == opB o&&!isL a&&!isL b&&mt lm fns nums a sc N [q.1.1]&&mt lm fns nums b sc N [q.1.2.2.1]|lm,fns,nums,.cmp o a b=>λsc N es=>opt (F32 es) λq=>q.1.2.1 == opC o&&s20 q.1.2.2.1&&!isL a&&!isL b&&mt lm fns nums a sc N [q.1.1]&&mt lm fns nums b sc N [q.1.2.2.1]|lm,fns,nums,.neg a=>λsc N es=>opt (F42 es) λq=>!isL a&&mt lm fns nums a sc N [q.1.1]|lm,fns,nums,.not a=>λsc N es=>opt (F52 es) λq=>!isL a&&!ifB q.1.1&&mt lm fns nums a sc N [q.1.1]|lm,fns,nums,.and a b=>λsc N es=>opt (F62 es) λq=>!isL a&&!isL b&&!ifB q.1.1&&mt lm fns nums a sc N [q.1.1]&&(if q.1.2.2.1.isEmpty then !ifB q.1.2.1&&mt lm fns nums b sc N [q.1.2.1] else mt lm fns nums b sc N [.BoolOp .And (q.1.2.1::q.1.2.2.1) q.1.2.2.2])|lm,fns,nums,.or a b=>λsc N es=>opt (N12 es) λq=>!isL a&&!isL b&&!ifB q.1.1&&mt lm fns nums a sc N [q.1.1]&&(if q.1.2.2.1.isEmpty then !ifB q.1.2.1&&mt lm fns nums b sc N [q.1.2.1] else mt lm fns nums b sc N [.BoolOp .Or (q.1.2.1::q.1.2.2.1) q.1.2.2.2])|lm,fns,nums,.orT a b=>λsc N es=>opt (N12 es) λq=>!isL a&&!isL b&&q.1.2.2.1.isEmpty&&mt lm fns nums a sc N [q.1.1]&&mt lm fns nums b sc N [q.1.2.1]|lm,fns,nums,.ite c a b=>λsc N es=>opt (F72 es) λq=>!isL c&&!isL a&&!isL b&&!ifB q.1.1&&mt lm fns nums c sc N [q.1.1]&&mt lm fns nums a sc N [q.1.2.1]&&mt lm fns nums b sc N [q.1.2.2.1]|lm,fns,nums,.ch o o' a b c=>λsc N es=>opt (T22 es) λq=>q.1.2.1 == opC o&&q.1.2.2.1 == opC o'&&s20 q.1.2.2.2.2.1&&!isL a&&!isL b&&!isL c&&mt lm fns nums a sc N [q.1.1]&&mt lm fns nums b sc N [q.1.2.2.2.1]&&mt lm fns nums c sc N [q.1.2.2.2.2.1]|lm,fns,nums,.bf f as=>λsc N es=>(opt (N22 es) λq=>served f&&q.1.1 == (bfN f).1&&glob sc q.1.1&&isL as&&mt lm fns nums as sc N (q.1.2.2.1::q.1.2.2.2.1)) || (T42 f&&opt (T32 es) λq=>q.1.1 == ("sorted":Str)&&q.1.2.2.1 == ("set":Str)&&glob sc "sorted"&&glob sc "set"&&isL as&&mt lm fns nums as sc N [q.1.2.2.2.2.1])|lm,fns,nums,.isi t a=>λsc N es=>opt (F82 es) λq=>q.1.1 == ("isinstance":Str)&&glob sc q.1.1&&noStar q.1.2.2.1&&!isL a&&mt lm fns nums a sc N [q.1.2.2.1]&&tyE sc t q.1.2.2.2.1|lm,fns,nums,.idx a i=>λsc N es=>opt (T52 es) λq=>s10 q.1.2.1&&!isL a&&!isL i&&mt lm fns nums a sc N [q.1.1]&&mt lm fns nums i sc N [q.1.2.1]|lm,fns,nums,.sl a lo hi=>λsc N es=>opt (T62 es) λq=>!isL a&&isL lo&&isL hi&&mt lm fns nums a sc N [q.1.1]&&mt lm fns nums lo sc N q.1.2.1.toList&&mt lm fns nums hi sc N q.1.2.2.1.toList|lm,fns,nums,.rev a=>λsc N es=>opt (F92 es) λq=>!isL a&&mt lm fns nums a sc N [q.1.1]|lm,fns,nums,.call f as=>λsc N es=>opt (N22 es) λq=>(opt fns[f]? λp=>p.1 == q.1.1&&p.2.length == q.1.2.2.2.1.length + 1)&&glob sc q.1.1&&isL as&&mt lm fns nums as sc N (q.1.2.2.1::q.1.2.2.2.1)
 |lm,fns,nums,.comp own capt p it src cond el=>λsc N es=>opt (q12 es) λq =>
   (d50 q.1.2.1).length == own&&(b60 N capt).length == capt.length&&S30 q.1.2.2.2.2.1 sc N (d50 q.1.2.1) (b60 N capt)&&j70 (d50 q.1.2.1++(b60 N capt).map (·.1)) (λx=>(d50 q.1.2.1).contains x) p q.1.2.1&&isL src&&!isL el&&isL cond&&q.1.2.2.2.1.length<=1&&noStar q.1.1&&s20 q.1.2.2.1 &&
    q.1.2.2.2.1.all (λc=>!ifB c) &&
    (match it with
    |.seq=>mt lm fns nums src sc N [q.1.2.2.1]|.rng1=>opt (h82 q.1.2.2.1) λr=>r.1.1 == ("range":Str)&&glob sc r.1.1&&mt lm fns nums src sc N [r.1.2.2.1]|.rng2=>opt (h92 q.1.2.2.1) λr=>r.1.1 == ("range":Str)&&glob sc r.1.1&&mt lm fns nums src sc N [r.1.2.2.1,r.1.2.2.2.1]|.zip=>opt (h92 q.1.2.2.1) λr=>r.1.1 == ("zip":Str)&&glob sc r.1.1&&l30 q.1.2.1&&mt lm fns nums src sc N [r.1.2.2.1,r.1.2.2.2.1]
    |.enum=>opt (h82 q.1.2.2.1) λr=>r.1.1 == ("enumerate":Str)&&glob sc r.1.1&&l30 q.1.2.1&&mt lm fns nums src sc N [r.1.2.2.1])&&mt false fns nums cond q.1.2.2.2.2.1 (d50 q.1.2.1++(b60 N capt).map (·.1)) q.1.2.2.2.1&&mt false fns nums el q.1.2.2.2.2.1 (d50 q.1.2.1++(b60 N capt).map (·.1)) [q.1.1]
 |lm,fns,nums,.lrng b as=>λsc N es=>opt (T82 es) λq=>q.1.1 == lrN b&&q.1.2.2.1 == ("range":Str)&&glob sc (lrN b)&&glob sc "range"&&isL as&&decide (1<=q.1.2.2.2.2.1.length/\q.1.2.2.2.2.1.length<=2)&&mt lm fns nums as sc N q.1.2.2.2.2.1|lm,fns,nums,.zget i k=>λ_ N es=>opt (T72 es) λq=>N[i]? == some q.1.1&&b40 q.1.1&&q.1.2.2.1 == (k:Int)
theorem d60{sc:í}{x:Str}(h:glob sc x=true):sc.names.lookup x=some .globalImplicit/\(x == ("__debug__":Str))=false/\x≠"__name__":=by
 unfold glob at h;simp only[Á,ý,beq_iff_eq] at h;refine⟨h.1.1,h.1.2,λe=>?_⟩;subst e;simp at h
section
variable {lm:Bool}{X:Cx}{G:Gs}{E:XK}{N:List Str}{sc:í}
theorem q32{K:Â}{zA:Option Ç}{H0 H:Hp}{s:S}{v:V}(h:RvP K zA H s v):RvS K zA H0 H (plS s) v:=by cases s <;> exact h
theorem c82(h:(!ifB e)=true):∀ t a b p,e≠.IfExp t a b p:=by
 intro t a b p he;subst he;cases h
theorem a70(hL:isL x=false)(h:Good X G E x [e]):b10 X G E x e:=by
 cases x with
 |nil=>cases hL
 |cons _ _=>cases hL
 |_ =>
  obtain⟨e',h1,h2⟩:=(show ∃ e',[e]=[e']/\b10 X G E _ e' from h);cases h1;exact h2
theorem c60(hL:isL x=false)(h:b10 X G E x e):Good X G E x [e]:=by
 cases x with
 |nil=>cases hL
 |cons _ _=>cases hL
 |_=>exact⟨e,rfl,h⟩
theorem f90(po:Z00 X.K G zA E H Q r):∀ c z1,r=.er c z1->EPost G zA E c z1 H:=λc z1 e=>by subst e;exact po
theorem S40(po:L41 G zA E H Q r):∀ c z1,r=.er c z1->EPost G zA E c z1 H:=λc z1 e=>by subst e;exact po
theorem G02(x:XI lm X G E N sc){i:Nat}{n:Str}{pos:Pos}(h1:N[i]?=some n)(h2:b40 n=true):b10 X G E (.var i) (.Name n pos):=by
 unfold b40 at h2;simp only[Á,ý] at h2;refine b30 (PE.imp (h00 (i:=i) (by rw[x.hN];exact h1) (x.vis n (â h1)) h2.1 h2.2) λσ H Q q=>?_) rfl
 obtain⟨zA,ρ,z,r,rel,st,e,po⟩:=q;have e':(match ρ[i]? with | some (some s)=>M.ret [plS s] | _=>M.no) z=some r:=e
 cases hs:ρ[i]? with
 |none=>rw[hs] at e';cases e'
 |some o =>
  cases o with
  |none=>rw[hs] at e';cases e'
  |some s =>
   rw[hs] at e';cases e';obtain⟨v,hv,rv⟩:=rel i s hs;obtain⟨s',e',po⟩:=po;cases e';exact⟨v,hv,po v H Ext.refl st (q32 rv)⟩
theorem G12{c:Const}{d:D}{j:Nat}{pos:Pos}(h:q02 c d=true):b10 X G E (.con d) (.Constant c j pos):=by
 refine b30 ?_ rfl;have fin:∀ {v:V},(∀ H,Hd X.K H d v)->∀ σ H Q,tI X.K G E (.con d) σ H Q->tC v σ H Q:=λ{v} hd σ H Q q=>by
  obtain⟨zA,ρ,z,r,rel,st,e,po⟩:=q;cases e;obtain⟨s',e',po⟩:=po;cases e';exact po v H Ext.refl st (E31 (hd _))
 cases c with
 |int i=>cases d <;> first | (simp only[q02,beq_iff_eq] at h;subst h;exact PE.imp O40 (fin λH=>Hd.int)) | (cases h)
 |bool b=>cases d <;> first | (simp only[q02,beq_iff_eq] at h;subst h;exact PE.imp A12 (fin λH=>Hd.bl)) | (cases h)
 |str y=>cases d <;> first | (simp only[q02,beq_iff_eq] at h;subst h;exact PE.imp P91 (fin λH=>Hd.str)) | (cases h)
 |none=>cases d <;> first | exact PE.imp n61 (fin λH=>Hd.non) | (cases h)
 |_=>cases h
theorem G22{pos:Pos}:b10 X G E (.con .dct) (.Dict [] [] pos):=by
 refine b30 (PE.imp Y61 λσ H Q q=>?_) rfl;obtain⟨zA,ρ,z,r,rel,st,e,po⟩:=q;cases e;obtain⟨s',e',po⟩:=po;cases e';intro p hp;refine po _ _ (Ext.of (a30.new _ hp)) (st.same (a30.new _ hp)) (E31 ?_);unfold Hd;exact⟨p,[],rfl,d70 b00 (st.e11 hp)⟩
theorem q42(x:XI lm X G E N sc){g:Str}{i:Int}{pos:Pos}(h1:glob sc g=true)(h2:(g,i)∈G.nums):b10 X G E (.gint g i) (.Name g pos):=by
 obtain⟨k1,k2,_⟩:=d60 h1;obtain⟨t,ht⟩:=x.num _ h2;refine b30 (PE.imp (g20 (v:=.int i) (x.glb g k1) ht ⟨t,rfl⟩ k2) λσ H Q q=>?_) rfl;obtain⟨zA,ρ,z,r,rel,st,e,po⟩:=q;cases e;obtain⟨s',e',po⟩:=po;cases e';exact po _ H Ext.refl st j80
theorem G20{K:Â}{zA:Option Ç}{H0 H:Hp}{l:List S}{vs:List V}{ds:List D}(h:Á8 (RvS K zA H0 H) l vs)(e:plA l=some ds):HdA K (hz zA H) ds vs:=RvA.ds (Á8.P81 h λ_ _ q=>q.pl) e
theorem G32{as:Ex}{l:List Ð}{k:Nat}{pos:Pos}(hL:isL as=true)(g:Good X G E as l):b10 X G E (.tup as) (.Tuple l k pos):=by
 refine b30 (PE.imp (Q61 (g.args hL).1) λσ H Q q=>?_) rfl;obtain⟨zA,ρ,z,r,rel,st,e,po⟩:=q;refine Z10 rel st e (f90 po) λl z1 e1 vs H1 x1 st1 rvs=>?_;obtain⟨ds,hd,e2⟩:=M.a10 e1;split at e2
 ·rename_i hm;cases e2;obtain⟨s',e',po⟩:=po;cases e';have h:=G20 rvs hd;exact⟨f50 (by rw[h.length];exact hm),λp hp=>po _ _ (x1.trans (Ext.of (a30.new _ hp))) (st1.same (a30.new _ hp)) (E31 (Hd.tup ((st1.same (a30.new _ hp)).a72 (SqT.of b00)) (h.same (k50 (a30.new _ hp)))))⟩
 ·cases e2
theorem G42{as:Ex}{l:List Ð}{pos:Pos}(hL:isL as=true)(g:Good X G E as l):b10 X G E (.lst as) (.List l pos):=by
 refine b30 (PE.imp (o61 (g.args hL).1) λσ H Q q=>?_) rfl;obtain⟨zA,ρ,z,r,rel,st,e,po⟩:=q;refine Z10 rel st e (f90 po) λl z1 e1 vs H1 x1 st1 rvs=>?_;obtain⟨ds,hd,e2⟩:=M.a10 e1;split at e2
 ·rename_i hm;cases e2;obtain⟨s',e',po⟩:=po;cases e';have h:=G20 rvs hd;exact⟨f50 (by rw[h.length];exact hm),λp hp=>po _ _ (x1.trans (Ext.of (a30.new _ hp))) (st1.same (a30.new _ hp)) ((l20 st1 h hp).from x1)⟩
 ·cases e2
theorem e41{α:Type}{a b:Ex}{k:D->D->M α}{zA:Option Ç}{ρ:Env}{z:Z}{r:R α}{σ:L2.St}{H:Hp}{Q:V->V->Hp->Prop}(rel:w20 X.K zA H ρ σ)(st:d30 zA z H)
  (h:M.bind (ev G.F a ρ) (λx=>M.bind (M.of (pl x)) λx=>M.bind (ev G.F b ρ) λy=>M.bind (M.of (pl y)) λy=>k x y) z=some r) (her:∀ c z1,r=.er c z1->EPost G zA E c z1 H)
  (hk:∀ dx dy z2 v w H2,k dx dy z2=some r->Ext zA H H2->d30 zA z2 H2->Hd X.K (hz zA H2) dx v->Hd X.K (hz zA H2) dy w->Q v w H2) :
  tI X.K G E a σ H λv H1=>tI X.K G E b σ H1 λw H2=>Q v w H2:=by
 refine g80 rel st h her λl z1 e1=>?_;obtain⟨dx,p1,e2⟩:=M.a10 e1;obtain⟨s1,rfl,q1⟩:=e10 p1;refine⟨s1,rfl,λv H1 x1 st1 rv=>?_⟩;refine g80 (rel.mono x1) st1 e2 (λc z2 q=>(her c z2 q).mono x1) λm z2 e3=>?_;obtain⟨dy,p2,e4⟩:=M.a10 e3;obtain⟨s2,rfl,q2⟩:=e10 p2;exact⟨s2,rfl,λw H2 x2 st2 rw'=>hk dx dy z2 v w H2 e4 (x1.trans x2) st2 ((rv.pl.mono x2).d_ q1) (rw'.pl.d_ q2)⟩
theorem e70{zA:Option Ç}{H H2:Hp}{z2:Z}{s:S}{Q:VK}(po:Z00 X.K G zA E H Q (.ok [s] z2))(x:Ext zA H H2)(st:d30 zA z2 H2):∀ v H',a30 H2 H'->RvS X.K zA H2 H' s v->Q v H':=λv H' sm rv=>by
 obtain⟨s',e',po⟩:=po;cases e';exact po v H' (x.trans (Ext.of sm)) (st.same sm) (rv.from x)
theorem G52{o:Bi}{a b:Ex}{l r:Ð}{pos:Pos}(ga:b10 X G E a l)(gb:b10 X G E b r):b10 X G E (.bin o a b) (.BinOp l (opB o) r pos):=by
 refine b30 (PE.imp (F11 (opD o) ga.pe gb.pe) λσ H Q q=>?_) rfl;obtain⟨zA,ρ,z,rr,rel,st,e,po⟩:=q;refine e41 rel st e (f90 po) λdx dy z2 v w H2 e2 x2 st2 h1 h2=>?_;obtain⟨s,hs,e3⟩:=M.a10 e2;cases e3;exact⟨zA,z2,dx,dy,s,st2,h1,h2,hs,e70 po x2 st2⟩
theorem S51(po:L41 G zA E H Q r):Z00 X.K G zA E H (λx H'=>∃ k,x=.bl k/\Q k H') r:=by
 cases r with
 |er c z1=>exact po
 |ok l z1 =>
  obtain⟨b,rfl,po⟩:=po;exact⟨_,rfl,λv H' ex st' rv=>⟨b,Hd.bl_ (show Hd X.K (hz zA H') (.bl b) v from rv),po H' ex st'⟩⟩
theorem G62(x:XI lm X G E N sc){o:Cm}{a b:Ex}{l r:Ð}{pos:Pos}(hs:s20 r=true)(ga:b10 X G E a l)(gb:b10 X G E b r):b10 X G E (.cmp o a b) (.Compare l [opC o] [r] pos):=by
 have key:∀ σ H Q,tI X.K G E (.cmp o a b) σ H Q->tOp (rD2 X.K λa b=>(s90 o a b).map λc=>.d (.bl c)) (tI X.K G E a) (tI X.K G E b) σ H Q:=λσ H Q q=>by
  obtain⟨zA,ρ,z,rr,rel,st,e,po⟩:=q;refine e41 rel st e (f90 po) λdx dy z2 v w H2 e2 x2 st2 h1 h2=>?_;obtain⟨c,hc,e3⟩:=M.a10 e2;cases e3;exact⟨zA,z2,dx,dy,_,st2,h1,h2,by show Ì6 _ (s90 o dx dy)=_;rw[hc];rfl,e70 po x2 st2⟩
 refine⟨PE.imp (W11 (R91 x.room.units o) ga.pe gb.pe (S20 hs _)) key,λ_=>PT.imp (W60 (R91 x.room.units o) ga.pe gb.pe (S20 hs _)) λσ H Q q=>?_,λop vs p h=>by cases h⟩
 obtain⟨zA,ρ,z,rr,rel,st,e,po⟩:=q;exact key σ H _ ⟨zA,ρ,z,rr,rel,st,e,S51 po⟩
theorem G72{a:Ex}{l:Ð}{pos:Pos}(ga:b10 X G E a l):b10 X G E (.neg a) (.UnaryOp .USub l pos):=by
 refine b30 (PE.imp (k42 Q51 ga.pe) λσ H Q q=>?_) rfl;obtain⟨zA,ρ,z,rr,rel,st,e,po⟩:=q;refine g80 rel st e (f90 po) λm z1 e1=>?_;obtain⟨i,p1,e2⟩:=M.a10 e1;obtain⟨d,p2,p3⟩:=Í.mp p1;obtain⟨s1,rfl,q1⟩:=e10 p2;cases e2;refine⟨s1,rfl,λv H1 x1 st1 rv=>?_⟩;have hd:=rv.pl.d_ q1;cases d with
 |int j =>
  cases p3;exact⟨i,hd.i40,e70 po x1 st1 _ _ (a30.refl H1) j80⟩
 |_=>cases p3
theorem G82{a:Ex}{l:Ð}{pos:Pos}(ga:b10 X G E a l)(hn:∀ t x y p,l≠.IfExp t x y p):b10 X G E (.not a) (.UnaryOp .Not l pos):=by
 refine⟨PE.imp (j42 ga.pe) λσ H Q q=>?_,λ_=>PT.imp (Q11 (ga.pt hn)) λσ H Q q=>?_,λop vs p h=>by cases h⟩
 ·obtain⟨zA,ρ,z,rr,rel,st,e,po⟩:=q;refine g80 rel st e (f90 po) λm z1 e1=>?_;obtain⟨b,p1,e2⟩:=M.a10 e1;obtain⟨d,p2,p3⟩:=Í.mp p1;obtain⟨s1,rfl,q1⟩:=e10 p2;cases e2;refine⟨s1,rfl,λv H1 x1 st1 rv=>?_⟩;have hd:=rv.pl.d_ q1;cases d with
  |bl c =>
   cases p3;exact⟨b,hd.bl_,e70 po x1 st1 _ _ (a30.refl H1) j60⟩
  |_=>cases p3
 ·obtain⟨zA,ρ,z,rr,rel,st,e,po⟩:=q;refine S10 rel st e (S40 po) λb z1 e1 H1 x1 st1=>?_;cases e1;obtain⟨b',e',po⟩:=po;cases e';exact po H1 x1 st1
end
end Q
namespace Q
open PySem L2 PySem.Spec PyProof.Rows
variable [TB:Tb]
section
variable {lm:Bool}{X:Cx}{G:Gs}{E:XK}{N:List Str}{sc:í}
theorem L90(rel:w20 X.K zA H ρ σ)(st:d30 zA z H)
  (h:M.bind (ev G.F a ρ) (λx=>M.bind (M.of ((pl x).bind asB)) k) z=some r) (her:∀ c z1,r=.er c z1->EPost G zA E c z1 H)
  (hok:∀ b z1,k b z1=some r->∀ H1,Ext zA H H1->d30 zA z1 H1->Q' (.bl b) H1):tI X.K G E a σ H Q':=by
 refine g80 rel st h her λm z1 e1=>?_;obtain⟨b,p1,e2⟩:=M.a10 e1;obtain⟨d,p2,p3⟩:=Í.mp p1;obtain⟨s1,rfl,q1⟩:=e10 p2;refine⟨s1,rfl,λv H1 x1 st1 rv=>?_⟩;have hd:=rv.pl.d_ q1;cases d with
 |bl c =>
  cases p3;rw[hd.bl_];exact hok b z1 e2 H1 x1 st1
 |_=>cases p3
theorem G92(ga:b10 X G E a l)(hl:∀ t x y p,l≠.IfExp t x y p)
  (gb:b10 X G E b (.BoolOp .And (r::vs) p)):b10 X G E (.and a b) (.BoolOp .And (l::r::vs) p):=by
 have pw:PW X (.BoolOp .And (l::r::vs) p) (tT X.K G E (.and a b)):=by
  refine PW.imp (Q01 (ga.pt hl) (gb.pw _ _ _ rfl)) λσ H Q q=>?_;obtain⟨zA,ρ,z,rr,rel,st,e,po⟩:=q;refine S10 rel st e (S40 po) λc z1 e1 H1 x1 st1=>?_;cases c with
  |true =>
   rw[if_pos rfl];rw[if_pos rfl] at e1;refine S10 (rel.mono x1) st1 e1 (λc z2 q=>((S40 po) c z2 q).mono x1) λc z2 e2 H2 x2 st2=>?_;cases e2;obtain⟨b',e',po⟩:=po;cases e';exact po H2 (x1.trans x2) st2
  |false =>
   rw[if_neg Ï];rw[if_neg Ï] at e1;cases e1;obtain⟨b',e',po⟩:=po;cases e';exact po H1 x1 st1
 refine⟨PE.imp (j32 ga.pe gb.pe) λσ H Q q=>?_,λ_=>pw.pt,λop vs p h=>pw⟩;obtain⟨zA,ρ,z,rr,rel,st,e,po⟩:=q;refine L90 rel st e (f90 po) λc z1 e1 H1 x1 st1=>⟨c,rfl,?_⟩;cases c with
 |true =>
  rw[if_pos rfl];rw[if_pos rfl] at e1;refine L90 (rel.mono x1) st1 e1 (λc z2 q=>((f90 po) c z2 q).mono x1) λc z2 e2 H2 x2 st2=>?_;cases e2;exact e70 po (x1.trans x2) st2 _ _ (a30.refl H2) j60
 |false =>
  rw[if_neg Ï];rw[if_neg Ï] at e1;cases e1;exact e70 po x1 st1 _ _ (a30.refl H1) j60
theorem T92(ga:b10 X G E a l)(hl:∀ t x y p,l≠.IfExp t x y p)
  (gb:b10 X G E b (.BoolOp .Or (r::vs) p)):b10 X G E (.or a b) (.BoolOp .Or (l::r::vs) p):=by
 have pw:PW X (.BoolOp .Or (l::r::vs) p) (tT X.K G E (.or a b)):=by
  refine PW.imp (A22 (ga.pt hl) (gb.pw _ _ _ rfl)) λσ H Q q=>?_;obtain⟨zA,ρ,z,rr,rel,st,e,po⟩:=q;refine S10 rel st e (S40 po) λc z1 e1 H1 x1 st1=>?_;cases c with
  |false =>
   rw[if_neg Ï];rw[if_neg Ï] at e1;refine S10 (rel.mono x1) st1 e1 (λc z2 q=>((S40 po) c z2 q).mono x1) λc z2 e2 H2 x2 st2=>?_;cases e2;obtain⟨b',e',po⟩:=po;cases e';exact po H2 (x1.trans x2) st2
  |true =>
   rw[if_pos rfl];rw[if_pos rfl] at e1;cases e1;obtain⟨b',e',po⟩:=po;cases e';exact po H1 x1 st1
 refine⟨PE.imp (A52 ga.pe gb.pe) λσ H Q q=>?_,λ_=>pw.pt,λop vs p h=>pw⟩;obtain⟨zA,ρ,z,rr,rel,st,e,po⟩:=q;refine L90 rel st e (f90 po) λc z1 e1 H1 x1 st1=>⟨c,rfl,?_⟩;cases c with
 |false =>
  rw[if_neg Ï];rw[if_neg Ï] at e1;refine L90 (rel.mono x1) st1 e1 (λc z2 q=>((f90 po) c z2 q).mono x1) λc z2 e2 H2 x2 st2=>?_;cases e2;exact e70 po (x1.trans x2) st2 _ _ (a30.refl H2) j60
 |true =>
  rw[if_pos rfl];rw[if_pos rfl] at e1;cases e1;exact e70 po x1 st1 _ _ (a30.refl H1) j60
theorem q52(gb:b10 X G E b r)(hr:∀ t x y p,r≠.IfExp t x y p):b10 X G E b (.BoolOp op [r] p):=by
 have pw:PW X (.BoolOp op [r] p) (tT X.K G E b):=by
  cases op with
  |And=>exact n71 (gb.pt hr)|Or=>exact j12 (gb.pt hr)
 exact⟨j22 gb.pe,λ_=>pw.pt,λ_ _ _ _=>pw⟩
theorem Z00.q62(po:Z00 X.K G zA E H Q rr)(x1:Ext zA H H1):Z00 X.K G zA E H1 Q rr:=by
 cases rr with
 |er c z1=>exact EPost.mono po x1
 |ok l z2 =>
  obtain⟨s,e',po⟩:=po;exact⟨s,e',λv H' x' st' rv=>po v H' (x1.trans x') st' (rv.from x1)⟩
theorem S50{α:Type}{m:M α}{z:Z}{r:R α}(h:M.calm m z=some r):m z=some r/\∃ a z1,r=.ok a z1:=by
 unfold M.calm at h;split at h
 ·rename_i a z1 e;cases h;exact⟨e,a,z1,rfl⟩
 ·cases h
theorem q72{a b:Ð}{ta tb:TE}{pos:Pos}(ha:PE X a ta)(hb:PE X b tb):PE X (.BoolOp .Or [a,b] pos) (λσ H Q=>ta σ H λx H1=>∃ t xs,x=.ref t/\SqT X.K H1 t xs/\if xs.isEmpty=true then tb σ H1 Q else Q x H1):=by
 intro pins s σ H Q I h;refine BoolOp_or (thn (ha pins s σ H _ I h) λv s1 ⟨x,H1,I1,r1,q1⟩=>?_);obtain⟨t,xs,rfl,hq,q1⟩:=q1;obtain⟨its,hv,ht,hl⟩:=I1.tuple hq;have hlen:xs.length=its.length:=hv.length;cases r1;refine truthy_tuple ht (by rw[Ô,← hlen];have:=Á4;omega) ?_
 cases xs with
 |nil =>
  cases its with
  |nil=>exact BoolOp_one (hb pins _ σ H1 Q (I1.tok _) q1)|cons _ _=>cases hlen
 |cons y r =>
  cases its with
  |nil=>cases hlen
  |cons _ _=>exact⟨.ref t,H1,I1.tok _,rfl,q1⟩
theorem S61(h:(pl y).bind n82=some l):∃ s,y=[s]/\plD s=some (.tup l):=by
 obtain⟨d,p2,p3⟩:=Í.mp h;obtain⟨s1,rfl,q1⟩:=e10 p2;cases d with
 |tup l=>cases p3;exact⟨s1,rfl,q1⟩
 |_=>cases p3
theorem H02(ga:b10 X G E a l)(gb:b10 X G E b r):b10 X G E (.orT a b) (.BoolOp .Or [l,r] p):=by
 have no:∀ {zA:Option Ç}{ρ:Env}{z:Z}{rr:R (List S)}{H:Hp}{Q:Bool->Hp->Prop},ev G.F (.orT a b) ρ z=some rr->L41 G zA E H Q rr->False:=λe po=>by
  obtain⟨e,u,z1,rfl⟩:=S50 e;obtain⟨c,rfl,_⟩:=po;rcases M.bind_some e with ⟨m,z2,_,e2⟩ | ⟨c,z2,_,e2⟩
  ·obtain⟨ds,_,e3⟩:=M.a10 e2;split at e3
   ·rcases M.bind_some e3 with ⟨m,z2,_,e2⟩ | ⟨c,z2,_,e2⟩
    ·obtain⟨ds,_,e3⟩:=M.a10 e2;cases e3
    ·cases e2
   ·cases e3
  ·cases e2
 refine⟨PE.imp (q72 ga.pe gb.pe) λσ H Q q=>?_,λ_ pins s σ H Q I ⟨_,_,_,_,_,_,e,po⟩=>(no e po).elim,λ_ _ _ _ wh pins s σ H Q I ⟨_,_,_,_,_,_,e,po⟩=>(no e po).elim⟩;obtain⟨zA,ρ,z,rr,rel,st,e,po⟩:=q;obtain⟨e,u,z1,rfl⟩:=S50 e;refine g80 rel st e (f90 po) λm z1 e1=>?_;obtain⟨ds,p1,e2⟩:=M.a10 e1;obtain⟨s1,rfl,q1⟩:=S61 p1;refine⟨s1,rfl,λv H1 x1 st1 rv=>?_⟩;have hd:=rv.pl.d_ q1;obtain⟨t,xs,rfl,h1,h2⟩:=hd.z20;refine⟨t,xs,rfl,(a20 zA H1).sqT h1,?_⟩;cases ds with
 |nil =>
  cases h2.f80;have po:=po.q62 x1;refine g80 (rel.mono x1) st1 e2 (f90 po) λm z1 e1=>?_;obtain⟨ds,p1,e2⟩:=M.a10 e1;obtain⟨s1,rfl,q1⟩:=S61 p1;cases e2;exact⟨s1,rfl,λv H2 x2 st2 rv=>e70 po x2 st2 _ _ (a30.refl H2) (rv.pl.d_ q1)⟩
 |cons y r =>
  obtain⟨u,w,rfl,_⟩:=h2.c80;cases e2;exact e70 po x1 st1 _ _ (a30.refl H1) hd
theorem H12(gc:b10 X G E c t)(ht:∀ a b d p,t≠.IfExp a b d p)(ga:b10 X G E a x)(gb:b10 X G E b y):b10 X G E (.ite c a b) (.IfExp t x y p):=by
 refine⟨PE.imp (E71 (gc.pt ht) ga.pe gb.pe) λσ H Q q=>?_,λh=>absurd rfl (h t x y p),λop vs p h=>by cases h⟩
 obtain⟨zA,ρ,z,rr,rel,st,e,po⟩:=q;refine S10 rel st e (f90 po) λk z1 e1 H1 x1 st1=>?_;have po1:=po.q62 x1;cases k with
 |true =>
  rw[if_pos rfl];rw[if_pos rfl] at e1;exact⟨zA,ρ,z1,rr,rel.mono x1,st1,e1,po1⟩
 |false =>
  rw[if_neg Ï];rw[if_neg Ï] at e1;exact⟨zA,ρ,z1,rr,rel.mono x1,st1,e1,po1⟩
theorem U02(x:XI lm X G E N sc){o o':Cm}{a b c:Ex}{l r s:Ð}{pos:Pos}(hs:s20 s=true)(ga:b10 X G E a l)(gb:b10 X G E b r)(gc:b10 X G E c s):b10 X G E (.ch o o' a b c) (.Compare l [opC o,opC o'] [r,s] pos):=by
 have hm:lastMarks [opC o,opC o'] [r,s]=false:=S20 hs _;have key:∀ σ H Q,tI X.K G E (.ch o o' a b c) σ H Q->o31 (rD2 X.K λa b=>(s90 o a b).map λc=>.d (.bl c)) (rD2 X.K λa b=>(s90 o' a b).map λc=>.d (.bl c)) (tI X.K G E a) (tI X.K G E b) (tI X.K G E c) σ H Q:=λσ H Q q=>by
  obtain⟨zA,ρ,z,rr,rel,st,e,po⟩:=q;refine e41 rel st e (f90 po) λdx dy z2 v w H2 e2 x2 st2 h1 h2=>?_;obtain⟨k,hk,e3⟩:=M.a10 e2;refine⟨zA,z2,dx,dy,.d (.bl k),st2,h1,h2,by show Ì6 _ (s90 o dx dy)=_;rw[hk];rfl,λv3 H3 sm rv=>⟨k,Hd.bl_ (show Hd X.K (hz zA H3) (.bl k) v3 from rv),?_⟩⟩
  have x3:=x2.trans (Ext.of sm);have st3:=st2.same sm;cases k with
  |true =>
   rw[if_pos rfl];rw[if_pos rfl] at e3;refine g80 (rel.mono x3) st3 e3 (λc z2 q=>((f90 po) c z2 q).mono x3) λm z4 e4=>?_;obtain⟨dw,p1,e5⟩:=M.a10 e4;obtain⟨k',hk',e6⟩:=M.a10 e5;obtain⟨s1,rfl,q1⟩:=e10 p1;cases e6;refine⟨s1,rfl,λv4 H4 x4 st4 rv4=>?_⟩;exact⟨zA,z4,dy,dw,_,st4,(h2.same (a30.trans (k50 sm) x4)),rv4.pl.d_ q1,by show Ì6 _ (s90 o' dy dw)=_;rw[hk'];rfl,e70 po (x3.trans x4) st4⟩
  |false =>
   rw[if_neg Ï];rw[if_neg Ï] at e3;cases e3;exact e70 po x3 st3 _ _ (a30.refl H3) j60
 refine⟨PE.imp (F21 (R91 x.room.units o) (R91 x.room.units o') ga.pe gb.pe gc.pe hm) key,λ_=>PT.imp (F31 (R91 x.room.units o) (R91 x.room.units o') ga.pe gb.pe gc.pe hm) λσ H Q q=>?_,λop vs p h=>by cases h⟩
 obtain⟨zA,ρ,z,rr,rel,st,e,po⟩:=q;exact key σ H _ ⟨zA,ρ,z,rr,rel,st,e,S51 po⟩
theorem S71:∀ σ H Q,tI X.K G E (.bf f as) σ H Q->tCB (rDn X.K (bfD f)) (tA X.K G E as) σ H Q:=λσ H Q q=>by
 obtain⟨zA,ρ,z,rr,rel,st,e,po⟩:=q;refine Z10 rel st e (f90 po) λl z1 e1 vs H1 x1 st1 rvs=>?_;obtain⟨ds,hd,e2⟩:=M.a10 e1;obtain⟨s,hs,e3⟩:=M.a10 e2;cases e3;exact⟨zA,z1,ds,s,st1,G20 rvs hd,hs,e70 po x1 st1⟩
theorem v01(x:XI lm X G E N sc){f:Bf}{as:Ex}{n:Str}{id:String}{e:Ð}{l:List Ð}{p pos:Pos}(hc:g70 X (.builtin id) (rDn X.K (bfD f)))(hb:n∈c72)(hv:ñ n=some (.builtin id))(hg:glob sc n=true)(hL:isL as=true)(g:Good X G E as (e::l)):b10 X G E (.bf f as) (.Call (.Name n p) (e::l) [] pos):=by
 obtain⟨k1,k2,k3⟩:=d60 hg;obtain⟨ha,hs⟩:=g.args hL;rw[Ä5,Á] at hs;exact b30 (PE.imp (t20 hc (x.glb n k1) (x.blt n hb) hv ha k3 k2 (d10 hs.1 l X.env) (q20 X.env pos hs.2)) S71) rfl
theorem c92(x:XI lm X G E N sc){f:Bf}{as:Ex}{n:Str}{T:String}{e:Ð}{l:List Ð}{p pos:Pos}(hc:g70 X (.type T) (rDn X.K (bfD f)))(hb:n∈c72)(hv:ñ n=some (.type T))(hg:glob sc n=true)(hL:isL as=true)(g:Good X G E as (e::l)):b10 X G E (.bf f as) (.Call (.Name n p) (e::l) [] pos):=by
 obtain⟨k1,k2,k3⟩:=d60 hg;obtain⟨ha,hs⟩:=g.args hL;rw[Ä5,Á] at hs;exact b30 (PE.imp (P50 hc (x.glb n k1) (x.blt n hb) hv ha k3 k2 (d10 hs.1 l X.env) (q20 X.env pos hs.2)) S71) rfl
theorem q82:ñ "len"=some (.builtin "len"):=by decide +kernel
theorem S60:ñ "sorted"=some (.builtin "sorted"):=by decide +kernel
theorem q92:ñ "all"=some (.builtin "all"):=by decide +kernel
theorem r02:ñ "min"=some (.builtin "min"):=by decide +kernel
theorem r12:ñ "max"=some (.builtin "max"):=by decide +kernel
theorem u10:ñ "isinstance"=some (.builtin "isinstance"):=by decide +kernel
theorem r22:ñ "int"=some (.type "int"):=by decide +kernel
theorem M00:ñ "tuple"=some (.type "tuple"):=by decide +kernel
theorem Z20:ñ "list"=some (.type "list"):=by decide +kernel
theorem U12(x:XI lm X G E N sc){f:Bf}{as:Ex}{n:Str}{e:Ð}{l:List Ð}{p pos:Pos}(hf:served f=true)(hn:n=(bfN f).1)(hg:glob sc n=true)(hL:isL as=true)(g:Good X G E as (e::l)):b10 X G E (.bf f as) (.Call (.Name n p) (e::l) [] pos):=by
 subst hn;cases f with
 |len=>exact v01 x p12 (-0) q82 hg hL g|tuple=>exact c92 x K81 (-0) M00 hg hL g|list=>exact c92 x b82 (-0) Z20 hg hL g|min=>exact v01 x (p32 x.calm) (-0) r02 hg hL g|max=>exact v01 x (p42 x.calm) (-0) r12 hg hL g|all=>exact v01 x (p22 x.calm) (-0) q92 hg hL g|int=>exact c92 x p52 (-0) r22 hg hL g|sorted=>exact v01 x (u71 x.room.units) (-0) S60 hg hL g|_=>cases hf
theorem H22(t:Ty)(h:t≠.seq):Á2 (tyN t)∈c72/\ñ (Á2 (tyN t))=some (.type (tyN t))/\tyN t∈["int","bool","tuple","list","str"]:=by
 cases t with
 |seq=>exact absurd rfl h|_=>decide +kernel
theorem r32(x:XI lm X G E N sc){t:Ty}{a:Ex}{n:Str}{e:Ð}{p pos p2:Pos}(hs:t≠.seq)
  (hg2:glob sc (Á2 (tyN t))=true) (hn:n="isinstance") (hg:glob sc n=true) (ns:noStar e=true) (ga:b10 X G E a e):b10 X G E (.isi t a) (.Call (.Name n p) [e,.Name (Á2 (tyN t)) p2] [] pos):=by
 obtain⟨hb,hv,ht⟩:=H22 t hs;subst hn;obtain⟨k1,k2,k3⟩:=d60 hg;obtain⟨m1,m2,m3⟩:=d60 hg2;refine b30 (PE.imp (t20 I31 (x.glb _ k1) (x.blt _ (-0)) u10 (d90 ga.pe (d90 (I40 (v:=.ty (tyN t)) (x.glb _ m1) (x.blt _ hb) hv rfl m3 m2) n00) (d10 ns _ _)) k3 k2 (d10 ns _ _) rfl) λσ H Q q=>?_) rfl
 obtain⟨zA,ρ,z,rr,rel,st,e,po⟩:=q;refine g80 rel st e (f90 po) λm z1 e1=>?_;obtain⟨d,p1,e2⟩:=M.a10 e1;obtain⟨s1,rfl,q1⟩:=e10 p1;cases e2;refine⟨s1,rfl,λv H1 x1 st1 rv=>⟨d,v,tyN t,rfl,((rv.pl.d_ q1).same (a20 zA H1)).has,ht,?_⟩⟩;rw[b92 t d hs];exact e70 po x1 st1 _ _ (a30.refl H1) j60
theorem r42(x:XI lm X G E N sc){a:Ex}{n:Str}{e:Ð}{p pos p1 p2 p3:Pos}{k:Nat}(hg2:glob sc "tuple"=true)(hg3:glob sc "list"=true)(hn:n="isinstance")(hg:glob sc n=true)(ns:noStar e=true)(ga:b10 X G E a e) :
  b10 X G E (.isi .seq a) (.Call (.Name n p) [e,.Tuple [.Name "tuple" p1,.Name "list" p2] k p3] [] pos):=by
 subst hn;obtain⟨k1,k2,k3⟩:=d60 hg;obtain⟨m1,m2,m3⟩:=d60 hg2;obtain⟨l1,l2,l3⟩:=d60 hg3;refine b30 (PE.imp (t20 r31 (x.glb _ k1) (x.blt _ (-0)) u10 (d90 ga.pe (d90 (Q61 (d90 (I40 (v:=.ty "tuple") (x.glb _ m1) (x.blt _ (-0)) M00 rfl m3 m2)
  (d90 (I40 (v:=.ty "list") (x.glb _ l1) (x.blt _ (-0)) Z20 rfl l3 l2) n00))) n00) (d10 ns _ _)) k3 k2 (d10 ns _ _) rfl) λσ H Q q=>?_) rfl
 obtain⟨zA,ρ,z,rr,rel,st,e,po⟩:=q;refine g80 rel st e (f90 po) λm z1 e1=>?_;obtain⟨d,p1,e2⟩:=M.a10 e1;obtain⟨s1,rfl,q1⟩:=e10 p1;cases e2;refine⟨s1,rfl,λv H1 x1 st1 rv=>⟨by show 2<=Ý;rw[Á4];decide,λt ht=>?_⟩⟩
 have sm:a30 H1 (upd H1 t (.tup [.ty "tuple",.ty "list"])):=a30.new _ ht;refine⟨d,v,t,rfl,((rv.pl.d_ q1).same (a30.trans (a20 zA H1) sm)).has,SqT.of b00,?_⟩;rw[L01 d];exact e70 po x1 st1 _ _ sm j60
theorem H32{a i:Ex}{v x:Ð}{pos:Pos}(hs:s10 x=true)(ga:b10 X G E a v)(gi:b10 X G E i x):b10 X G E (.idx a i) (.Subscript v x pos):=by
 refine b30 (PE.imp (W91 ixD ga.pe gi.pe (H10 hs)) λσ H Q q=>?_) rfl;obtain⟨zA,ρ,z,rr,rel,st,e,po⟩:=q;refine e41 rel st e (f90 po) λdx dy z2 v w H2 e2 x2 st2 h1 h2=>?_;obtain⟨c,hc,e3⟩:=M.a10 e2;cases e3;exact⟨zA,z2,dx,dy,_,st2,h1,h2,by show Ì6 _ (W10 dx dy)=_;rw[hc];rfl,e70 po x2 st2⟩
theorem r52(x:XI lm X G E N sc){i k:Nat}{n:Str}{c:Nat}{p q pos:Pos}(h1:N[i]?=some n)(h2:b40 n=true):b10 X G E (.zget i k) (.Subscript (.Name n p) (.Constant (.int k) c q) pos):=by
 unfold b40 at h2;simp only[Á,ý] at h2;refine b30 (PE.imp (W91 W80 (h00 (i:=i) (by rw[x.hN];exact h1) (x.vis n (â h1)) h2.1 h2.2) O40 (H10 rfl)) λσ H Q qq=>?_) rfl
 obtain⟨zA,ρ,z,rr,rel,st,e,po⟩:=qq;have e0:t51 k ρ[i]? z=some rr:=e;unfold t51 at e0;split at e0
 ·rename_i p hs;obtain⟨v,hv,a,hz',rfl⟩:=rel i .z hs;subst hz';have st':H a=some (.lst [.int p.1,.bl p.2]):=st.zat;refine⟨_,hv,a,[.int p.1,.bl p.2],(k:Int),?_⟩;split at e0
  ·rename_i hk;subst hk;cases e0;obtain⟨s',e',po⟩:=po;cases e';exact⟨_,rfl,rfl,SqL.of st',rfl,po _ H Ext.refl st j80⟩
  ·split at e0
   ·rename_i hk;subst hk;cases e0;obtain⟨s',e',po⟩:=po;cases e';exact⟨_,rfl,rfl,SqL.of st',rfl,po _ H Ext.refl st (E31 Hd.bl)⟩
   ·cases e0
 ·cases e0
theorem e51(a:Int):∀ (n:Nat) {its:List Ä},its.length=n->(∀ i,i < n->∃ v t,its[i]?=some v/\v=.int (a + (i:Nat)) t)->Vals ((ð n).map λ(k:Nat)=>V.int (a + k)) its:=by
 intro n its hl h;have:∀ (m:Nat) (l:List Ä) (o:Nat),l.length=m->(∀ i,i < m->∃ v t,l[i]?=some v/\v=.int (a + (o + i:Nat)) t)->Vals ((Å0 o m 1).map λ(k:Nat)=>V.int (a + k)) l:=by
  intro m
  induction m with
  |zero =>
   intro l o hl _;rw[List.length_eq_zero_iff.mp hl];exact .nil
  |succ m ih =>
   intro l o hl h;cases l with
   |nil=>cases hl
   |cons x r =>
    obtain⟨v,t,e1,e2⟩:=h 0 (Nat.succ_pos m);simp only[Ë2,Ê2] at e1;subst e1;rw[Ò6,Å6];refine .cons ⟨t,by rw[e2];simp⟩ (ih r (o + 1) (by simpa using hl) λi hi=>?_)
    obtain⟨v,t,e1,e2⟩:=h (i + 1) (Nat.succ_lt_succ hi);exact⟨v,t,by simpa using e1,by rw[e2];congr 1;omega⟩
 rw[List.range_eq_range'];exact this n its 0 hl λi hi=>by
  obtain⟨v,t,e1,e2⟩:=h i hi;exact⟨v,t,e1,by rw[e2];simp⟩
theorem v21:ñ "range"=some (.type "range"):=by decide +kernel
def lrV:List V->Option (Int × Int)
 |[.int j]=>some (0,j)|[.int i,.int j]=>some (i,j)|_=>none
def lrO:Bool->List V->HO
 |true=>HO.tup|false=>HO.lst
def lrT:Bool->String
 |true=>"tuple"|false=>"list"
def H42(b:Bool)(ta:TA):TE:=λσ H Q=>ta σ H λvs H1=>∃ i j:Int,lrV vs=some (i,j)/\-100000 < i/\i < 100000/\-100000 < j/\j < 100000/\∀ l,H1 l=none->Q (.ref l) (upd H1 l (lrO b ((ð (j - i).toNat).map λ(k:Nat)=>V.int (i + k))))
theorem r62{pins:List (Ç × Obj)}{σ:L2.St}{H1:Hp}{s1:Æ}{r:Ç}{i j:Int}{t u v:Tok}{Q:VK}(hc:X.calm=true)(I2:Inv X pins σ H1 s1)(hr:Õ4 s1.heap r i j 1 t u v)(i1:-100000 < i)(i2:i < 100000)(j1:-100000 < j)(j2:j < 100000)
  (q:∀ l,H1 l=none->Q (.ref l) (upd H1 l (.lst ((ð (j - i).toNat).map λ(k:Nat)=>V.int (i + k))))):Ñ (Ö X.prog X.w) X.A (call (.type "list") [.ref r]) (EP X pins σ Q) X.xe s1:=by
 have hz:Ã8 i j 1=(((j - i).toNat:Nat):Int):=by rw[rangeSize_one];split <;> omega
 refine call_list_range (n:=(j - i).toNat) (I2.ok.hd hc) hr (small_one ∅ ∅ ∅ ∅) hz ∅ λh' tk acc' c' kp hS hacc=>?_
 have rv:Vals ((ð (j - i).toNat).map λ(k:Nat)=>V.int (i + k)) acc'.toList:=by
  refine e51 i (j - i).toNat ?_ λi hi=>?_
  ·rw[Ê8];exact hacc.1
  ·have hlt:i < acc'.size:=by rw[hacc.1];exact hi
   obtain⟨t,e⟩:=hacc.2 i acc'[i] (É1 hlt);exact⟨acc'[i],t,by rw[ø];exact É1 hlt,by rw[e];simp⟩
 have hlen:((ð (j - i).toNat).map λ(k:Nat)=>V.int (i + k)).length<=sizeLine:=by rw[È,þ,Á4];omega
 have hn:=I2.hok.fresh (Î _);exact⟨.ref _,_,I2.laid (t':=tk) kp (Î _) (show h20 X.prog X.w _ h' _ (.lst _) from⟨hlen,acc'.toList,c',rv,by rw[Ð5];exact hS⟩),rfl,q _ hn⟩
theorem d02{pins:List (Ç × Obj)}{σ:L2.St}{H1:Hp}{s1:Æ}{r:Ç}{i j:Int}{t u v:Tok}{Q:VK}(hc:X.calm=true)(I2:Inv X pins σ H1 s1)(hr:Õ4 s1.heap r i j 1 t u v)(i1:-100000 < i)(i2:i < 100000)(j1:-100000 < j)(j2:j < 100000)
  (q:∀ l,H1 l=none->Q (.ref l) (upd H1 l (.tup ((ð (j - i).toNat).map λ(k:Nat)=>V.int (i + k))))):Ñ (Ö X.prog X.w) X.A (call (.type "tuple") [.ref r]) (EP X pins σ Q) X.xe s1:=by
 have hz:Ã8 i j 1=(((j - i).toNat:Nat):Int):=by rw[rangeSize_one];split <;> omega
 refine HT.tuple_range (n:=(j - i).toNat) (I2.ok.hd hc) hr (small_one ∅ ∅ ∅ ∅) hz ∅ λh' tk acc' kp hsz hacc=>?_
 have rv:Vals ((ð (j - i).toNat).map λ(k:Nat)=>V.int (i + k)) acc'.toList:=by
  refine e51 i (j - i).toNat ?_ λi hi=>?_
  ·rw[Ê8];exact hacc.1
  ·have hlt:i < acc'.size:=by rw[hacc.1];exact hi
   obtain⟨t,e⟩:=hacc.2 i acc'[i] (É1 hlt);exact⟨acc'[i],t,by rw[ø];exact É1 hlt,by rw[e];simp⟩
 have hlen:((ð (j - i).toNat).map λ(k:Nat)=>V.int (i + k)).length<=sizeLine:=by rw[È,þ,Á4];omega
 exact⟨.ref _,_,I2.laid (t':=tk) (λb o e=>Ã _ (kp b o e)) hsz (show h20 X.prog X.w _ _ _ (.tup _) from⟨hlen,acc'.toList,rv,⟨_,Ë _ rfl,rfl,0,by rw[Ð5]⟩⟩),rfl,q _ (I2.hok.fresh hsz)⟩
theorem v31(b:Bool){pins:List (Ç × Obj)}{σ:L2.St}{H1:Hp}{s1:Æ}{r:Ç}{i j:Int}{t u v:Tok}{Q:VK}(hc:X.calm=true)(I2:Inv X pins σ H1 s1)(hr:Õ4 s1.heap r i j 1 t u v)(i1:-100000 < i)(i2:i < 100000)(j1:-100000 < j)(j2:j < 100000)
  (q:∀ l,H1 l=none->Q (.ref l) (upd H1 l (lrO b ((ð (j - i).toNat).map λ(k:Nat)=>V.int (i + k))))):Ñ (Ö X.prog X.w) X.A (call (.type (lrT b)) [.ref r]) (EP X pins σ Q) X.xe s1:=by
 cases b with
 |true=>exact d02 hc I2 hr i1 i2 j1 j2 q|false=>exact r62 hc I2 hr i1 i2 j1 j2 q
theorem H52(b:Bool):ñ (lrN b)=some (.type (lrT b)):=by
 cases b with
 |true=>exact M00|false=>exact Z20
theorem v41(b:Bool){e:Ð}{l:List Ð}{ta:TA}{p p2 pos pos2:Pos}(hc:X.calm=true)(hg:Gl X (lrN b))(hm:X.mg (lrN b)=none)(hg2:Gl X "range")(hm2:X.mg "range"=none)(ha:PA X (e::l) ta)(hs:noStar e=true)(hs2:l.all noStar=true) :
  PE X (.Call (.Name (lrN b) p) [.Call (.Name "range" p2) (e::l) [] pos2] [] pos) (H42 b ta):=by
 intro pins s σ H Q I h;refine Call_ (t10 I hg hm (H52 b) (Á3 (Ï2 ?_) rfl rfl) (by cases b <;> decide) (by cases b <;> decide))
 refine Call_ (t10 I hg2 hm2 v21 (Á3 (thn (ha pos2 pins s σ H _ I h) λus s1 ⟨vs,H1,I1,r1,q1⟩=>?_) (d10 hs l X.env) (q20 X.env pos2 hs2)));obtain⟨i,j,hv,i1,i2,j1,j2,q⟩:=q1
 match vs,hv with
 |[.int _],hv =>
  cases hv;obtain⟨u,rfl,r⟩:=vals1 r1;obtain⟨t,rfl⟩:=r;exact call_range_1 (Ë8 (v31 b hc (I1.kept λb o e=>Ã _ e) (Õ4.new ..) i1 i2 j1 j2 q))
 |[.int _,.int _],hv =>
  cases hv;obtain⟨u,u',rfl,r,r'⟩:=vals2 r1;obtain⟨t,rfl⟩:=r;obtain⟨t',rfl⟩:=r';exact call_range_2 (Ë8 (v31 b hc (I1.kept λb o e=>Ã _ e) (Õ4.new ..) i1 i2 j1 j2 q))
theorem L51:∀ {ds xs:List D},lrD ds=some xs->∃ i j:Int,((ds=[.int j]/\i=0)∨ds=[.int i,.int j])/\-100000 < i/\i < 100000/\-100000 < j/\j < 100000/\xs=(ð (j - i).toNat).map λ(k:Nat)=>D.int (i + k)
 |[],_,h=>by cases h
 |[x],xs,h=>by
  cases x with
  |int j =>
   obtain⟨hj,h⟩:=g30 h;have hj:=C50.mp hj;exact⟨0,j,.inl ⟨rfl,rfl⟩,by omega,by omega,hj.1,hj.2,by cases h;simp⟩
  |_=>cases h
 |[x,y],xs,h=>by
  cases x with
  |int i =>
   cases y with
   |int j =>
    obtain⟨hj,h⟩:=g30 h;have h1:=C50.mp hj.1;have h2:=C50.mp hj.2;exact⟨i,j,.inr rfl,h1.1,h1.2,h2.1,h2.2,by cases h;rfl⟩
   |_=>cases h
  |_=>cases h
 |x::y::_::_,_,h=>by
  cases x with
  |int i=>cases y <;> cases h
  |_=>cases h
theorem r72(x:XI lm X G E N sc){b:Bool}{as:Ex}{a:Ð}{l:List Ð}{p p2 pos pos2:Pos}(h1:glob sc (lrN b)=true)(h2:glob sc "range"=true)(hL:isL as=true)(g:Good X G E as (a::l)):b10 X G E (.lrng b as) (.Call (.Name (lrN b) p) [.Call (.Name "range" p2) (a::l) [] pos2] [] pos):=by
 obtain⟨k1,_,_⟩:=d60 h1;obtain⟨m1,_,_⟩:=d60 h2;obtain⟨ha,hs⟩:=g.args hL;rw[Ä5,Á] at hs;refine b30 (PE.imp (v41 b x.calm (x.glb _ k1) (x.blt _ (by cases b <;> decide)) (x.glb _ m1) (x.blt _ (-0)) ha hs.1 hs.2) λσ H Q q=>?_) rfl
 obtain⟨zA,ρ,z,rr,rel,st,e,po⟩:=q;refine Z10 rel st e (f90 po) λl z1 e1 vs H1 x1 st1 rvs=>?_;obtain⟨xs,hx,e2⟩:=M.a10 e1;cases e2;obtain⟨s',e',po⟩:=po;cases e';obtain⟨ds,h3,h4⟩:=Í.mp hx;have hd:=G20 rvs h3;have fin:∀ i j:Int,xs=(ð (j - i).toNat).map (λ(k:Nat)=>D.int (i + k))->∀ lA,H1 lA=none->Q (.ref lA) (upd H1 lA (lrO b ((ð (j - i).toNat).map λ(k:Nat)=>V.int (i + k)))):=λi j ex lA hn=>by
  subst ex;have hI:=HdA.ints (K:=X.K) (H:=hz zA H1) ((ð (j - i).toNat).map λ(k:Nat)=>i + (k:Int));rw[ï,ï] at hI;cases b with
  |false=>exact po _ _ (x1.trans (Ext.of (a30.new _ hn))) (st1.same (a30.new _ hn)) ((l20 st1 hI hn).from x1)|true=>exact po _ _ (x1.trans (Ext.of (a30.new _ hn))) (st1.same (a30.new _ hn)) (E31 (Hd.tup ((st1.same (a30.new _ hn)).a72 (SqT.of b00)) (hI.same (k50 (a30.new _ hn)))))
 obtain⟨i,j,hds,j1,j2,j3,j4,ex⟩:=L51 h4;refine⟨i,j,?_,j1,j2,j3,j4,fin i j ex⟩;rcases hds with ⟨rfl,rfl⟩ | rfl
 ·obtain⟨v,rfl,h5⟩:=hd.one;cases h5.i40;rfl
 ·obtain⟨v,w,rfl,h5,h6⟩:=hd.two;cases h5.i40;cases h6.i40;rfl
end
theorem v51(val:Nat->Nat)(i:Nat):∀ n,(SS.met val n).testBit i=(ð n).any λj=>val j == i
 |0=>Nat.zero_testBit i
 |n + 1=>by
  show(SS.met val n ||| 2 ^ val n).testBit i=_;rw[Nat.testBit_or,v51 val i n,Nat.testBit_two_pow,List.range_succ,List.any_append];simp;rfl
theorem e61:∀ {l:List D}{ns:List Nat},C40 l=some ns->l=ns.map (λ(n:Nat)=>D.int n)/\∀ n∈ns,n < 8
 |[],ns,h=>by cases h;exact⟨rfl,λn hn=>by cases hn⟩
 |x::r,ns,h=>by
  cases x with
  |int i =>
   obtain⟨hi,h⟩:=g30 h;obtain⟨ms,h1,rfl⟩:=É.mp h;obtain⟨e,k⟩:=e61 h1;refine⟨?_,λn hn=>?_⟩
   ·rw[Å6,← e,show((i.toNat:Nat):Int)=i from Int.toNat_of_nonneg hi.1]
   ·rcases ó.mp hn with rfl | hn
    ·omega
    ·exact k n hn
  |_=>cases h
theorem d12{ns:List Nat}:SS.bts (SS.met (λi=>ns.getD i 0) ns.length)=(ð 8).filter λi=>ns.contains i:=by
 unfold SS.bts;refine List.filter_congr λi _=>?_;rw[v51];rw[Í7,List.any_eq_true,Ì8];constructor
 ·rintro ⟨j,hj,e⟩;rw[mem_range] at hj;rw[← eq_of_beq e,Ò,Ó hj];exact Æ4 hj
 ·intro h;obtain⟨j,hj,e⟩:=Ô7.mp h;exact⟨j,Ä2.mpr hj,by rw[Ò,Ó hj,← e];exact beq_self_eq_true _⟩
theorem v61{K:Â}{H:Hp}:∀ {ns:List Nat}{us:List V},HdA K H (ns.map λ(n:Nat)=>D.int n) us->us=ns.map λ(n:Nat)=>V.int n
 |[],_,h=>h.f80
 |n::r,_,h=>by
  obtain⟨y,q,rfl,h1,h2⟩:=HdA.c80 h;rw[h1.i40,v61 h2];rfl
theorem v71{K:Â}{H:Hp}:∀ ns:List Nat,HdA K H (ns.map λ(n:Nat)=>D.int n) (ns.map λ(n:Nat)=>V.int n)
 |[]=>.nil|n::r=>.cons Hd.int (v71 r)
theorem v81{ns:List Nat}(h:∀ n∈ns,n < 8)(i:Nat):ns.getD i 0 < 8:=by
 rw[Ò];cases e:ns[i]? with
 |none=>decide|some n=>exact h n (â e)
section
variable {lm:Bool}{X:Cx}{G:Gs}{E:XK}{N:List Str}{sc:í}
def L61(w:ê)(p m:Nat):ë->Prop:=λh=>SS.y90 w h p m
theorem v91(hc:X.calm=true):g70 X (.type "set") (λxs H Q=>∃ (a:Ç) (ns:List Nat) (us:List V),xs=[.ref a]/\(SqL X.K H a us∨SqT X.K H a us)/\us=ns.map (λ(n:Nat)=>V.int n)/\(∀ n∈ns,n < 8)/\∀ p,H p=none->Q (.ref p) (upd H p (.ext (L61 X.w p (SS.met (λi=>ns.getD i 0) ns.length))))):=by
 intro pins s σ H xs us Q I r h;obtain⟨a,ns,vs,rfl,hq,rfl,h8,q⟩:=h;obtain⟨u,rfl,rx⟩:=vals1 r;cases rx;have hv:∀ i,(λi=>ns.getD i 0) i < 8:=v81 h8;have hp:∀ {its:List Ä},Vals (ns.map λ(n:Nat)=>V.int n) its->its.toArray.size=ns.length/\∀ (i:Nat) (v:Ä),its.toArray[i]?=some v->∃ t,v=.int ((λi=>ns.getD i 0) i:Nat) t:=λ{its} rv=>by
  refine⟨by rw[Ô,← rv.length,È],λi v e=>?_⟩
  have e:its[i]?=some v:=by simpa using e
  have hi:i < ns.length:=by have:=(ß.mp e).1;rw[← rv.length,È] at this;exact this
  obtain⟨w',e1,e2⟩:=rv.get (i:=i) (x:=V.int (ns[i]:Nat)) (by simp[hi])
  rw[e] at e1;cases e1;obtain⟨t,rfl⟩:=e2;exact⟨t,by simp[hi]⟩
 have fin:∀ (h':ë) (tk:Nat),SS.y90 X.w h' s.heap.objs.size (SS.met (λi=>ns.getD i 0) ns.length)->(∀ b u,s.heap.get? b=some u->h'.get? b=some u)->EP X pins σ Q (.ref s.heap.objs.size) { s with heap:=h',toks:=tk }:=λh' tk hS kp=>by
  refine⟨.ref s.heap.objs.size,_,I.laid (t':=tk) (o:=.ext (L61 X.w s.heap.objs.size (SS.met (λi=>ns.getD i 0) ns.length))) kp (Î _) ⟨hS,?_,λh1 h2 p k=>p.keep k⟩,rfl,q _ (I.hok.fresh (Î _))⟩;obtain⟨o,_,_,ho,_⟩:=hS;exact⟨o,ho⟩
 rcases hq with hq | hq
 ·obtain⟨its,rv,pl,_⟩:=I.list hq;obtain⟨o,ho,hcl,n,hd⟩:=pl.isList;obtain⟨sz,pv⟩:=hp rv;refine SS.d71 (o:=o) (it:={ cls:=.type "list_iterator",data:=.fields #[.ref a,.int 0 0] }) (n:=its.toArray.size) (St:=λI i h=>h.IsListIter I a i/\h.IsList a its.toArray) (Pv:=λi v=>its.toArray[i]?=some v) (val:=λi=>ns.getD i 0)
   ⟨hcl,F.sub_list_set,F.sub_list_frozenset,by decide,λA E s Q e q=>Ü7 ⟨o,e,hcl,n,hd⟩ q,λA I hh hn=>Walks.list hh I a hn _,λh e=>⟨⟨_,Ë _ rfl,rfl,rfl⟩,⟨o,Ã _ e,hcl,n,hd⟩⟩⟩ (by exact I.ok.hd hc) ho hv pv λh' tk x kp=>?_
  rw[sz] at x;exact fin h' tk x kp
 ·obtain⟨its,rv,pl,_⟩:=I.tuple hq;obtain⟨o,ho,hcl,n,hd⟩:=pl;obtain⟨sz,pv⟩:=hp rv;refine SS.d71 (o:=o) (it:={ cls:=.type "tuple_iterator",data:=.fields #[.ref a,.int 0 0] }) (n:=its.toArray.size) (St:=λI i h=>h.IsTupleIter I a i/\h.IsTuple a its.toArray) (Pv:=λi v=>its.toArray[i]?=some v) (val:=λi=>ns.getD i 0)
   ⟨hcl,by rw[Ò1];kernel_rfl,by rw[Ò1];kernel_rfl,by decide,λA E s Q e q=>Ç7 ⟨o,e,hcl,n,hd⟩ q,λA I hh hn=>Walks.tuple hh I a hn _,λh e=>⟨⟨_,Ë _ rfl,rfl,rfl⟩,⟨o,Ã _ e,hcl,n,hd⟩⟩⟩ (by exact I.ok.hd hc) ho hv pv λh' tk x kp=>?_
  rw[sz] at x;exact fin h' tk x kp
theorem S70(hc:X.calm=true)(hu:X.A.units + 64 < Å7):g70 X (.builtin "sorted") (λxs H Q=>∃ (p:Ç) (m:Nat),xs=[.ref p]/\m < 256/\H p=some (.ext (L61 X.w p m))/\∀ l,H l=none->Q (.ref l) (upd H l (.lst ((SS.bts m).map λ(n:Nat)=>V.int n)))):=by
 intro pins s σ H xs us Q I r h;obtain⟨p,m,rfl,hm,hp,q⟩:=h;obtain⟨u,rfl,rx⟩:=vals1 r;cases rx;obtain⟨⟨o,ep,g,ho,hx,hd⟩,_⟩:=I.hok p _ hp;refine SS.l21 (by exact I.ok.hd hc) hu hm ho hx hd λl h' tk c hl kp hD=>?_
 refine⟨.ref l,_,I.laid (t':=tk) (o:=.lst ((SS.bts m).map λ(n:Nat)=>V.int n)) kp hl ⟨?_,_,c,?_,hD⟩,rfl,q _ (I.hok.fresh hl)⟩
 ·rw[È,Á4];have:(SS.bts m).length<=8:=Þ (É4 _ _) (by simp)
  omega
 ·clear hD hd;generalize SS.bts m=l
  induction l with
  |nil=>exact .nil|cons n r ih=>exact .cons ⟨_,rfl⟩ ih
theorem r82:ñ "set"=some (.type "set"):=by decide +kernel
theorem r92(x:XI lm X G E N sc){as:Ex}{e:Ð}{p1 p2 p3 p4:Pos}(h1:glob sc "sorted"=true)(h2:glob sc "set"=true)(hL:isL as=true)(g:Good X G E as [e]):b10 X G E (.bf .sset as) (.Call (.Name "sorted" p1) [.Call (.Name "set" p2) [e] [] p3] [] p4):=by
 obtain⟨k1,k2,k3⟩:=d60 h1;obtain⟨j1,j2,j3⟩:=d60 h2;obtain⟨ha,hs⟩:=g.args hL;rw[Ä5,Á] at hs;refine b30 (PE.imp (t20 (S70 x.calm x.room.units) (x.glb _ k1) (x.blt _ (-0)) S60 (d90 (P50 (v91 x.calm) (x.glb _ j1) (x.blt _ (-0)) r82 ha j3 j2 (d10 hs.1 [] X.env) (q20 X.env p3 hs.2)) n00) k3 k2) λσ H Q q=>?_) rfl
 obtain⟨zA,ρ,z,rr,rel,st,ee,po⟩:=q;refine Z10 rel st ee (f90 po) λl z1 e1 vs H1 x1 st1 rvs=>?_;obtain⟨ds,hd,e2⟩:=M.a10 e1;obtain⟨s,hs',e3⟩:=M.a10 e2;cases e3;have hds:=G20 rvs hd
 match ds,hs' with
 |[d],hs' =>
  obtain⟨l,hl,hs'⟩:=Í.mp hs';obtain⟨ns,hn,rfl⟩:=É.mp hs';obtain⟨rfl,h8⟩:=e61 hn;obtain⟨v,rfl,hv⟩:=hds.one;obtain⟨a,us,rfl,hq,hd'⟩:∃ a us,v=.ref a/\(SqL X.K H1 a us∨SqT X.K H1 a us)/\HdA X.K (hz zA H1) (ns.map λ(n:Nat)=>D.int n) us:=by
   cases d with
   |tup m =>
    cases hl;obtain⟨a,xs,rfl,m1,m2⟩:=hv.z20;exact⟨a,xs,rfl,.inr ((a20 zA H1).sqT m1),m2⟩
   |lst m =>
    cases hl;obtain⟨a,xs,rfl,m1,m2⟩:=hv.W30;exact⟨a,xs,rfl,.inl (m1.same (a20 zA H1)).sq,m2⟩
   |_=>cases hl
  refine⟨a,ns,us,rfl,hq,v61 hd',h8,λp hp=>⟨p,_,rfl,SS.s41 (v81 h8) _,b00,λl hl=>?_⟩⟩;have sm:a30 H1 (upd H1 p (.ext (L61 X.w p (SS.met (λi=>ns.getD i 0) ns.length)))):=a30.new _ hp;rw[d12];exact e70 po x1 st1 _ _ (a30.trans sm (a30.new _ hl)) ((l20 (st1.same sm) (v71 _) hl).from (Ext.of sm))
def tPO(K:Â)(G:Gs)(E:XK)(x:Ex):TO:=λσ H Q=>∃ zA ρ z r,w20 K zA H ρ σ/\d30 zA z H/\ev G.F x ρ z=some r/\(match r with
 |.ok l z'=>∃ o,t41 l=some o/\∀ H',Ext zA H H'->d30 zA z' H'->Q o H'
 |.er c z'=>EPost G zA E c z' H)
theorem s02(hL:isL x=true)(g:Good X G E x e.toList):PO X e (tPO X.K G E x):=by
 cases e with
 |none =>
  cases x with
  |nil =>
   refine λpins s σ H Q I q=>W71 pins s σ H Q I ?_;obtain⟨zA,ρ,z,r,rel,st,e,po⟩:=q;cases e;obtain⟨o,e',po⟩:=po;cases e';exact po H Ext.refl st
  |cons a r=>obtain⟨e,es,h,_⟩:=g;cases h
  |_=>cases hL
 |some e =>
  cases x with
  |nil=>cases (show [e]=[] from g)
  |cons a r =>
   obtain⟨e',es,h,ns,ga,lr,gr⟩:=g;cases h;refine λpins s σ H Q I q=>W81 ga.pe pins s σ H Q I ?_;obtain⟨zA,ρ,z,rr,rel,st,e,po⟩:=q;have her:∀ c z1,rr=.er c z1->EPost G zA E c z1 H:=λc z1 e=>by subst e;exact po
   have rn:r=.nil:=by
    cases r with
    |nil=>rfl|cons b q=>obtain⟨e,es,h,_⟩:=gr;cases h
    |_=>cases lr
   subst rn;refine g80 rel st e her λl z1 e1=>?_;obtain⟨s,hs,e2⟩:=M.a10 e1;cases e2;obtain⟨o,e',po⟩:=po;refine⟨s,D30 hs,λv H1 x1 st1 rv=>?_⟩;cases s with
   |d y =>
    cases y with
    |int i =>
     cases e';exact⟨i,Hd.i40 (show Hd X.K (hz zA H1) (.int i) v from rv),po H1 x1 st1⟩
    |_=>cases e'
   |fr ys=>cases e'
   |z=>cases e'
  |_=>cases hL
theorem U22{a lo hi:Ex}{v:Ð}{l h:Option Ð}{p pos:Pos}(ga:b10 X G E a v)(hl:isL lo=true)(hh:isL hi=true)(gl:Good X G E lo l.toList)(gh:Good X G E hi h.toList):b10 X G E (.sl a lo hi) (.Subscript v (.Slice l h none p) pos):=by
 refine b30 (PE.imp (F61 T12 ga.pe (s02 hl gl) (s02 hh gh)) λσ H Q q=>?_) rfl;obtain⟨zA,ρ,z,rr,rel,st,e,po⟩:=q;refine g80 rel st e (f90 po) λm z1 e1=>?_;obtain⟨dx,p1,e2⟩:=M.a10 e1;obtain⟨s1,rfl,q1⟩:=e10 p1;refine⟨s1,rfl,λw H1 x1 st1 rv=>?_⟩;rcases M.bind_some e2 with ⟨u,z2,e3,e4⟩ | ⟨c,z2,e3,e4⟩
 ·obtain⟨o,ho,e5⟩:=M.a10 e4;refine⟨zA,ρ,z1,_,rel.mono x1,st1,e3,o,ho,λH2 x2 st2=>?_⟩;rcases M.bind_some e5 with ⟨u',z3,e6,e7⟩ | ⟨c,z3,e6,e7⟩
  ·obtain⟨o',ho',e8⟩:=M.a10 e7;refine⟨zA,ρ,z2,_,(rel.mono x1).mono x2,st2,e6,o',ho',λH3 x3 st3=>?_⟩;obtain⟨s,hs,e9⟩:=M.a10 e8;cases e9;exact⟨zA,z3,dx,s,st3,((rv.pl.mono (x2.trans x3)).d_ q1),hs,e70 po ((x1.trans x2).trans x3) st3⟩
  ·exact⟨zA,ρ,z2,_,(rel.mono x1).mono x2,st2,e6,((f90 po) c z3 e7).mono (x1.trans x2)⟩
 ·exact⟨zA,ρ,z1,_,rel.mono x1,st1,e3,((f90 po) c z2 e4).mono x1⟩
theorem H62{a:Ex}{v:Ð}{p1 p2 p3 pos:Pos}{k:Nat}(ga:b10 X G E a v):b10 X G E (.rev a) (.Subscript v (.Slice none none (some (.UnaryOp .USub (.Constant (.int 1) k p1) p2)) p3) pos):=by
 refine b30 (PE.imp (m32 ga.pe (k42 Q51 O40)) λσ H Q q=>?_) rfl;obtain⟨zA,ρ,z,rr,rel,st,e,po⟩:=q;refine g80 rel st e (f90 po) λm z1 e1=>?_;obtain⟨s,p1,e2⟩:=M.a10 e1;obtain⟨d,p2,p3⟩:=Í.mp p1;obtain⟨s1,rfl,q1⟩:=e10 p2;cases e2;refine⟨s1,rfl,λw H1 x1 st1 rv=>⟨1,rfl,rfl,?_⟩⟩;have hd:=rv.pl.d_ q1;cases d with
 |tup l =>
  cases p3;obtain⟨a,xs,rfl,h1,h2⟩:=hd.z20;exact .inl ⟨a,xs,rfl,(a20 zA H1).sqT h1,tupQ st1 h2.reverse (e70 po x1 st1)⟩
 |lst l =>
  cases p3;obtain⟨a,xs,rfl,h1,h2⟩:=hd.W30;exact .inr ⟨a,xs,rfl,(h1.same (a20 zA H1)).sq,λp hp=>e70 po x1 st1 _ _ (a30.new _ hp) (l20 st1 h2.reverse hp)⟩
 |_=>cases p3
theorem s12:∀ {x:Ex}{es:List Ð}{z z1:Z}{l:List S},isL x=true->Good X G E x es->ev G.F x ρ z=some (.ok l z1)->l.length=es.length:=by
 intro x
 induction x with
 |nil =>
  intro es z z1 l _ h e;have h:es=[]:=h;subst h;cases e;rfl
 |cons a r _ ih =>
  intro es z z1 l _ h e;obtain⟨e',es',rfl,ns,g,lr,gr⟩:=h;rcases M.bind_some e with ⟨m,z2,e1,e2⟩ | ⟨c,z2,e1,e2⟩
  ·obtain⟨s,hs,e3⟩:=M.a10 e2;rcases M.bind_some e3 with ⟨m',z3,e4,e5⟩ | ⟨c,z3,e4,e5⟩
   ·cases e5;rw[Û,Û,ih lr gr e4]
   ·cases e5
  ·cases e2
 |_=>intro es z z1 l h;cases h
theorem s_call(x:XI lm X G E N sc){f:Nat}{as:Ex}{n:Str}{ps:List Str}{e:Ð}{l:List Ð}{p pos:Pos}(hf:G.fns[f]?=some (n,ps))(hl:ps.length=l.length + 1)(hg:glob sc n=true)(hL:isL as=true)(g:Good X G E as (e::l)) :
  b10 X G E (.call f as) (.Call (.Name n p) (e::l) [] pos):=by
 obtain⟨k1,k2,k3⟩:=d60 hg;obtain⟨fa,fd,m1,m2,m3,F⟩:=x.gok f n ps hf;obtain⟨ha,hs⟩:=g.args hL;rw[Ä5,Á] at hs;refine b30 (PE.imp (W41 F x.room (x.glb n k1) m1 m2 m3 .nil x.pas ha k2 (d10 hs.1 l X.env) (q20 X.env pos hs.2)) λσ H Q q=>?_) rfl;obtain⟨zA,ρ,z,rr,rel,st,e,po⟩:=q;have e0:M.bind (ev G.F as ρ) (λl=>M.bind (G.F false f (l.map plS)) λs=>M.ret [s]) z=some rr:=e;rcases M.bind_some e0 with ⟨m,z1,e1,e2⟩ | ⟨c,z1,e1,e2⟩
 ·refine⟨zA,ρ,z,_,rel,st,e1,λvs H1 x1 st1 rvs=>?_⟩;have hv:vs.length=ps.length:=by rw[← rvs.length,s12 hL g e1,hl];rfl
  show spF X.K G f ps.length (vs++[]) H1 Q E;rw[Ë4];refine⟨hv,zA,z1,m.map plS,?_⟩;have ra:RvA X.K zA H1 (m.map plS) vs:=RvA.plS (Á8.P81 rvs λ_ _ q=>q.pl);rcases M.bind_some e2 with ⟨s,z2,e3,e4⟩ | ⟨c,z2,e3,e4⟩
  ·cases e4;refine⟨_,ra,st1,e3,λv H2 x2 st2 rv=>?_⟩;obtain⟨s',e',po⟩:=po;cases e';exact po v H2 (x1.trans x2) st2 (rv.from x1)
  ·exact⟨_,ra,st1,e3,((f90 po) c z2 e4).mono x1⟩
 ·exact⟨zA,ρ,z,_,rel,st,e1,(f90 po) c z1 e2⟩
def z42:Pat->Nat
 |.nil=>0|.cons _ r=>z42 r + 1|_=>0
mutual
noncomputable def gP(K:Â):Pat->TG
 |.v i=>I70 i|.tup ps=>L42 K (z42 ps) (gL K ps)|.nil=>λ_ _ _ _=>False|.cons _ _=>λ_ _ _ _=>False
noncomputable def gL(K:Â):Pat->TGs
 |.nil=>L32|.cons p r=>j72 (gP K p) (gL K r)|.v _=>λ_ _ _ _=>False|.tup _=>λ_ _ _ _=>False
end
end
end Q
namespace Q
open PySem L2 PySem.Spec PyProof.Rows
variable [TB:Tb]
theorem S81(h:noStar e=true)(es:List Ð)(env:È7):Ê1 (e::es) env=(false,Ø7 e env)::Ê1 es env:=by
 cases e <;> first | rfl | cases h
structure L71(X:Cx)(N:List Str)(loc:Str->Bool):Prop where
 hN:X.N=N
 nd:N.Nodup
 lc:∀ x,loc x=true->Loc X.env.scope x
 fn:∀ x,loc x=true->(X.fn x=true∨X.env.scope.names.lookup x=some .local)
 calm:X.calm=true
theorem H20:∀ {es:List Ð} (env:È7),es.all noStar=true->(Ê1 es env).length=es.length/\(Ê1 es env).findIdx? (·.1)=none
 |[],_,_=>⟨rfl,rfl⟩
 |e::es,env,h=>by
  rw[Ä5,Á] at h;obtain⟨h1,h2⟩:=H20 env h.2;rw[S81 h.1];refine⟨by rw[Û,Û,h1],?_⟩
  rw[List.findIdx?_cons,h2];rfl
theorem e71:∀ {r:Pat}{es:List Ð},l31 N loc r es=true->es.length=z42 r/\es.all noStar=true
 |.nil,es,h=>by
  unfold l31 at h;have:es=[]:=Ì9.mp h;subst this;exact⟨rfl,rfl⟩
 |.cons p r,es,h=>by
  unfold l31 at h;cases es with
  |nil=>cases h
  |cons e es =>
   rw[Á,Á] at h;obtain⟨h1,h2⟩:=e71 (r:=r) h.2;exact⟨by rw[Û,h1];rfl,by rw[Ä5,h.1.1,h2];rfl⟩
 |.v _,_,h=>by unfold l31 at h;cases h
 |.tup _,_,h=>by unfold l31 at h;cases h
mutual
theorem w01(L:L71 X N loc):∀ {p:Pat}{e:Ð},j70 N loc p e=true->PG X e (gP X.K p)
 |.v i,e,h=>by
  unfold j70 at h;cases e with
  |Name x pos =>
   rw[Á,beq_iff_eq] at h;unfold gP;exact W40 (by rw[L.hN];exact L.nd) (by rw[L.hN];exact h.1) (L.lc x h.2) (L.fn x h.2)
  |_=>cases h
 |.tup ps,e,h=>by
  unfold j70 at h;cases e with
  |Tuple es k pos =>
   obtain⟨h1,h2⟩:=e71 h;obtain⟨h3,h4⟩:=H20 X.env h2;unfold gP;exact j82 L.calm (S91 L h) (by rw[h3,h1]) h4
  |_=>cases h
 |.nil,e,h=>by unfold j70 at h;cases h
 |.cons _ _,e,h=>by unfold j70 at h;cases h
theorem S91(L:L71 X N loc):∀ {r:Pat}{es:List Ð},l31 N loc r es=true->PGs X es (gL X.K r)
 |.nil,es,h=>by
  unfold l31 at h;have:es=[]:=Ì9.mp h;subst this;unfold gL;exact V81
 |.cons p r,es,h=>by
  unfold l31 at h;cases es with
  |nil=>cases h
  |cons e es =>
   rw[Á,Á] at h;unfold gL;exact E91 (w01 L h.1.2) (S91 L h.2) (by rw[S81 h.1.1];rfl)
 |.v _,_,h=>by unfold l31 at h;cases h
 |.tup _,_,h=>by unfold l31 at h;cases h
end
section
variable {K:Â}{zA:Option Ç}{H:Hp}
theorem w20.set{ρ:Env}{σ:L2.St}{i:Nat}{s:S}{v:V}(h:w20 K zA H ρ σ)(hl:ρ.length=σ.length)(r:RvP K zA H s v):w20 K zA H (ρ.set i (some s)) (σ.set i (some v)):=by
 intro j t e;by_cases hj:j=i
 ·subst hj;have hlt:j < ρ.length:=by
   have:=(ß.mp e).1;simpa using this
  rw[ì hlt] at e;cases e;exact⟨v,ì (by rw[← hl];exact hlt),r⟩
 ·rw[ä (Á6 hj)] at e;obtain⟨w,h1,h2⟩:=h j t e;exact⟨w,by rw[ä (Á6 hj)];exact h1,h2⟩
theorem D50:∀ {r:Pat}{l:List D}{ρ ρ':Env},bindL r l ρ=some ρ'->l.length=z42 r
 |.nil,l,ρ,ρ',e=>by
  unfold bindL at e;cases l with
  |nil=>rfl|cons x l=>cases e
 |.cons p r,l,ρ,ρ',e=>by
  unfold bindL at e;cases l with
  |nil=>cases e
  |cons x l =>
   obtain⟨ρ1,e1,e2⟩:=Í.mp e;rw[Û,D50 e2];rfl
 |.v _,_,_,_,e=>by unfold bindL at e;cases e
 |.tup _,_,_,_,e=>by unfold bindL at e;cases e
mutual
theorem w11:∀ {p:Pat}{d:D}{ρ ρ':Env},f40 p d ρ=some ρ'->∀ {σ:L2.St}{v:V}{R:L2.St->Hp->Prop},w20 K zA H ρ σ->ρ.length=σ.length->Hd K (hz zA H) d v ->
  (∀ σ',w20 K zA H ρ' σ'->ρ'.length=σ'.length->R σ' H)->gP K p v σ H R
 |.v i,d,ρ,ρ',e,σ,v,R,rel,hl,hd,k=>by
  unfold f40 at e;cases e;unfold gP;exact k _ (rel.set hl (show RvP K zA H (.d d) v from hd)) (by rw[Â0,Â0,hl])
 |.tup ps,d,ρ,ρ',e,σ,v,R,rel,hl,hd,k=>by
  unfold f40 at e;cases d with
  |tup l =>
   obtain⟨a,xs,rfl,h1,h2⟩:=hd.z20;unfold gP;exact⟨a,xs,rfl,(a20 zA H).sqT h1,by rw[h2.length];exact D50 e,e81 e rel hl h2 k⟩
  |_=>cases e
 |.nil,_,_,_,e,_,_,_,_,_,_,_=>by unfold f40 at e;cases e
 |.cons _ _,_,_,_,e,_,_,_,_,_,_,_=>by unfold f40 at e;cases e
theorem e81:∀ {r:Pat}{l:List D}{ρ ρ':Env},bindL r l ρ=some ρ'->∀ {σ:L2.St}{vs:List V}{R:L2.St->Hp->Prop},w20 K zA H ρ σ->ρ.length=σ.length->HdA K (hz zA H) l vs ->
  (∀ σ',w20 K zA H ρ' σ'->ρ'.length=σ'.length->R σ' H)->gL K r vs σ H R
 |.nil,l,ρ,ρ',e,σ,vs,R,rel,hl,hd,k=>by
  unfold bindL at e;cases l with
  |nil =>
   cases e;unfold gL;exact⟨hd.f80,k σ rel hl⟩
  |cons x l=>cases e
 |.cons p r,l,ρ,ρ',e,σ,vs,R,rel,hl,hd,k=>by
  unfold bindL at e;cases l with
  |nil=>cases e
  |cons x l =>
   obtain⟨ρ1,e1,e2⟩:=Í.mp e;obtain⟨v,ws,rfl,h1,h2⟩:=hd.c80;unfold gL;exact⟨v,ws,rfl,w11 e1 rel hl h1 λσ' r' l'=>e81 e2 r' l' h2 k⟩
 |.v _,_,_,_,e,_,_,_,_,_,_,_=>by unfold bindL at e;cases e
 |.tup _,_,_,_,e,_,_,_,_,_,_,_=>by unfold bindL at e;cases e
end
end
end Q
namespace Q
open PySem L2 PySem.Spec PyProof.Rows
variable [TB:Tb]
structure H72(K:PySem.W.Frag)(zA:Option Addr)(J:L2.It)(xs:List D)(H1:Hp):Prop where
 go:∀ i H,Ext zA H1 H->i < xs.length->J.go i H
 yld:∀ i H x H' z d,Ext zA H1 H->d30 zA z H->J.yld i H x H'->xs[i]?=some d->a30 H H'/\Hd K (hz zA H') d x
 stop:∀ H,Ext zA H1 H->J.stop xs.length H
structure ItB(K:PySem.W.Frag)(J:L2.It)(xs:List D)(B:Hp):Prop where
 go:∀ i H,a30 B H->i < xs.length->J.go i H
 yld:∀ i H x H' zA z d,a30 B (hz zA H)->d30 zA z H->J.yld i H x H'->xs[i]?=some d->a30 H H'/\∀ C,a30 B C->(∀ a ys,SqT K (hz zA H') a ys->SqT K C a ys)->Hd K C d x
 stop:∀ H,a30 B H->J.stop xs.length H
section
variable {K:Â}{B:Hp}
theorem ItB.ok(h:ItB K J xs (hz zA H1)):H72 K zA J xs H1 :=
 ⟨λi H x=>h.go i H (a30.trans x (a20 zA H)),λi H x H' z d e st y k=>let ⟨s,f⟩:=h.yld i H x H' zA z d e st y k;⟨s,f _ (a30.trans e (k50 s)) λ_ _ q=>q⟩,λH x=>h.stop H (a30.trans x (a20 zA H))⟩
theorem e91(h:q10 K B a ys)(r:HdA K B xs ys):ItB K (Itl K a) xs B where
 go:=λi H x hi=>⟨ys,ys[i]'(by rw[r.length];exact hi),(h.same x).sq,by simp⟩
 yld:=λi H v H' zA z d x st y e=>by
  obtain⟨rfl,y⟩:=y;have y1:=y ys ((h.same x).same (a20 zA _)).sq;obtain⟨w,e1,e2⟩:=r.get e;rw[y1] at e1;cases e1;exact⟨a30.refl _,λC c _=>e2.same c⟩
 stop:=λH x=>⟨ys,(h.same x).sq,by rw[r.length];exact Î _⟩
theorem w21(h:SqT K B a ys)(r:HdA K B xs ys):ItB K (Itt K a) xs B where
 go:=λi H x hi=>⟨ys,ys[i]'(by rw[r.length];exact hi),a30.sqT x h,by simp⟩
 yld:=λi H v H' zA z d x st y e=>by
  obtain⟨rfl,y⟩:=y;have y1:=y ys ((a20 zA _).sqT (a30.sqT x h));obtain⟨w,e1,e2⟩:=r.get e;rw[y1] at e1;cases e1;exact⟨a30.refl _,λC c _=>e2.same c⟩
 stop:=λH x=>⟨ys,a30.sqT x h,by rw[r.length];exact Î _⟩
theorem w31(lo:Int)(n:Nat):ItB K (Itr lo n) ((ð n).map λ(k:Nat)=>D.int (lo + k)) B where
 go:=λi H x hi=>by show i < n;simpa using hi
 yld:=λi H v H' zA z d x st y e=>by
  obtain⟨rfl,rfl⟩:=y;rw[Ø] at e;obtain⟨k,e1,rfl⟩:=É.mp e;obtain⟨h1,h2⟩:=ß.mp e1;rw[List.getElem_range] at h2;subst h2;exact⟨a30.refl _,λ_ _ _=>Hd.int⟩
 stop:=λH x=>by show n<=_;simp
end
section
variable {K:Â}{zA:Option Ç}{H1:Hp}
theorem zip_get:∀ {a b:List D}{i:Nat}{d:D},(r90 a b)[i]?=some d->∃ x y,a[i]?=some x/\b[i]?=some y/\d=.tup [x,y]
 |[],_,_,_,e=>by simp[r90] at e|_::_,[],_,_,e=>by simp[r90] at e|x::r,y::q,0,d,e=>by simp[r90] at e;exact⟨x,y,rfl,rfl,e.symm⟩
 |x::r,y::q,i + 1,d,e=>by
  obtain⟨u,v,h1,h2,h3⟩:=zip_get (a:=r) (b:=q) (i:=i) (by simpa [r90] using e)
  exact⟨u,v,by simpa using h1,by simpa using h2,h3⟩
theorem Z30:∀ (a b:List D),(r90 a b).length=min a.length b.length
 |[],_=>by simp[r90]|_::_,[]=>by simp[r90]|x::r,y::q=>by simp only[r90,Û,Z30 r q];omega
theorem w41(h:∀ H,a30 B H->SqB bb K H a us)(r:HdA K B xs us)(h':∀ H,a30 B H->SqB bb K H b ws)(r':HdA K B ys ws):ItB K (Itz bb K a b) (r90 xs ys) B where
 go:=λi H x hi=>by
  rw[Z30] at hi;exact⟨us,ws,us[i]'(by rw[r.length];omega),ws[i]'(by rw[r'.length];omega),h H x,h' H x,by simp,by simp⟩
 yld:=λi H v H' zA z d x st y e=>by
  obtain⟨T,rfl,hT,y⟩:=y;obtain⟨d1,d2,e1,e2,rfl⟩:=zip_get e;obtain⟨w1,f1,g1⟩:=r.get e1;obtain⟨w2,f2,g2⟩:=r'.get e2;have y1:=y us ws w1 w2 (h H (a30.trans x (a20 zA H))) (h' H (a30.trans x (a20 zA H))) f1 f2;subst y1;have sm:a30 H (upd H T (.tup [w1,w2])):=a30.new _ hT;exact⟨sm,λC c t=>Hd.tup (t _ _ ((st.same sm).a72 (SqT.of b00))) (.cons (g1.same c) (.cons (g2.same c) .nil))⟩
 stop:=λH x=>⟨us,ws,h H x,h' H x,by rw[Z30,r.length,r'.length];omega⟩
end
def PX(P:D->Prop):D->Prop
 |.tup l=>∀ y∈l,P y|.lst l=>∀ y∈l,P y|_=>True
def ItX(K:Â)(zA:Option Ç)(H H':Hp)(l:List S)(J:L2.It)(xs:List D):Prop :=
 ∀ (P:D->Prop) (B:Hp),a30 B (hz zA H')->(∀ a ys,SqT K (hz zA H') a ys->SqT K B a ys)->(∀ d v,P d->Hd K (hz zA H') d v->Hd K B d v)->(∀ ds,plA l=some ds->∀ d∈ds,PX P d) ->
  (∀ a ys,q10 K (hz zA H') a ys->((H a=none/\H' a=some (.lst ys))∨k81 l=true)->q10 K B a ys)->ItB K J xs B
theorem HdA.move{K:Â}{H B:Hp}{P:D->Prop}(mv:∀ d v,P d->Hd K H d v->Hd K B d v):∀ {ds:List D}{vs:List V},(∀ y∈ds,P y)->HdA K H ds vs->HdA K B ds vs
 |[],_,_,h=>by rw[h.f80];exact .nil
 |d::ds,_,p,h=>by
  obtain⟨x,r,rfl,h1,h2⟩:=h.c80;exact .cons (mv d x (p d Ì) h1) (HdA.move mv (λy hy=>p y (Ê _ hy)) h2)
theorem ItX.ok{K:Â}{zA:Option Ç}{H H':Hp}{l:List S}{J:L2.It}{xs:List D}(h:ItX K zA H H' l J xs):H72 K zA J xs H':=by
 refine(h (λ_=>True) (hz zA H') (a30.refl _) (λ_ _ q=>q) (λ_ _ _ q=>q) (λds _ d _=>?_) λ_ _ q _=>q).ok;cases d <;> first | trivial | exact λ_ _=>trivial
def tIt(K:Â)(G:Gs)(E:XK)(it:It)(src:Ex):TI:=λσ H R=>∃ zA ρ z r,w20 K zA H ρ σ/\d30 zA z H/\ev G.F src ρ z=some r/\(match r with
 |.ok l z'=>∃ xs,(plA l).bind (itD it)=some xs/\∀ J H',Ext zA H H'->d30 zA z' H'->ItX K zA H H' l J xs->R J H'
 |.er c z'=>EPost G zA E c z' H)
section
variable {lm:Bool}{X:Cx}{G:Gs}{E:XK}{N:List Str}{sc:í}
theorem s22{zA:Option Ç}{H:Hp}{it:It}{P:L2.It->Hp->Prop}{r:R (List S)}(po:(match r with | .ok l z'=>∃ xs,(plA l).bind (itD it)=some xs/\∀ J H',Ext zA H H'->d30 zA z' H'->ItX X.K zA H H' l J xs->P J H' | .er c z'=>EPost G zA E c z' H)):∀ c z1,r=.er c z1->EPost G zA E c z1 H:=λc z1 e=>by subst e;exact po
theorem w51{s:S}{ds:List D}(h:plA [s]=some ds):∃ d,ds=[d]/\plD s=some d:=by
 cases s with
 |d x=>cases h;exact⟨x,rfl,rfl⟩
 |fr xs=>cases h;exact⟨_,rfl,rfl⟩
 |z=>cases h
theorem T01{tg e:Ð}{a:Ex}(g:b10 X G E a e):PI X tg e (tIt X.K G E .seq (.cons a .nil)):=by
 intro pins s σ H R I q;obtain⟨zA,ρ,z,rr,rel,st,ee,po⟩:=q;have e0:M.bind (ev G.F a ρ) (λx=>M.bind (M.of (one x)) λs=>M.bind (ev G.F .nil ρ) λy=>M.ret (s::y)) z=some rr:=ee;rcases M.bind_some e0 with ⟨m,z1,e1,e2⟩ | ⟨c,z1,e1,e2⟩
 ·obtain⟨t,ht,e3⟩:=M.a10 e2;cases e3;have hm:=D30 ht;subst hm;obtain⟨xs,hx,po⟩:=po;obtain⟨ds,h1,h2⟩:=Í.mp hx;obtain⟨d,rfl,h3⟩:=w51 h1;cases d with
  |tup l =>
   cases h2;refine Q31 g.pe pins s σ H R I ⟨zA,ρ,z,_,rel,st,e1,t,rfl,λv H1 x1 st1 rv=>?_⟩;obtain⟨b,ys,rfl,k1,k2⟩:=(rv.pl.d_ h3).z20;exact⟨b,rfl,⟨ys,(a20 zA H1).sqT k1⟩,po _ H1 x1 st1 λP B sub tup mv pa sf=>w21 (tup _ _ k1) (HdA.move mv (show ∀ y∈xs,P y from pa _ h1 _ Ì) k2)⟩
  |lst l =>
   cases h2;refine I80 g.pe pins s σ H R I ⟨zA,ρ,z,_,rel,st,e1,t,rfl,λv H1 x1 st1 rv=>?_⟩;have fin:∀ {b:Ç}{ys:List V},q10 X.K (hz zA H1) b ys->HdA X.K (hz zA H1) xs ys->((H b=none/\H1 b=some (.lst ys))∨k81 [t]=true)->∃ a,V.ref b=.ref a/\(∃ xs,SqL X.K H1 a xs)/\R (Itl X.K a) H1:=λ{b ys} k1 k2 k5=>by
    exact⟨b,rfl,⟨ys,(k1.same (a20 zA H1)).sq⟩,po _ H1 x1 st1 λP B sub tup mv pa sf=>e91 (sf _ _ k1 k5) (HdA.move mv (show ∀ y∈xs,P y from pa _ h1 _ Ì) k2)⟩
   cases t with
   |z=>cases h3
   |d x =>
    cases h3;obtain⟨b,ys,rfl,k1,k2⟩:=Hd.W30 (show Hd X.K (hz zA H1) (.lst xs) v from rv);exact fin k1 k2 (.inr rfl)
   |fr x =>
    cases h3;obtain⟨b,ys,rfl,k0,k1,k2,k3⟩:=rv;exact fin (q10.of (d70 k2 k1)) (k3.same (f30 b _)) (.inl ⟨k0,k2⟩)
  |_=>cases h2
 ·exact I80 g.pe pins s σ H R I ⟨zA,ρ,z,_,rel,st,e1,(s22 po) c z1 e2⟩
theorem M10{l:List S}{it:It}{xs:List D}(h:(plA l).bind (itD it)=some xs):∃ ds,plA l=some ds/\itD it ds=some xs:=Í.mp h
theorem w61(x:XI lm X G E N sc){tg a:Ð}{as:Ex}{n:Str}{p pos:Pos}(hn:n="range")(hg:glob sc n=true)(hL:isL as=true)(g:Good X G E as [a]):PI X tg (.Call (.Name n p) [a] [] pos) (tIt X.K G E .rng1 as):=by
 subst hn;obtain⟨k1,k2,k3⟩:=d60 hg;obtain⟨ha,hs⟩:=g.args hL;rw[Ä5,Á] at hs;intro pins s σ H R I q;refine O60 (x.glb _ k1) (x.blt _ (-0)) ha (d10 hs.1 [] X.env) pins s σ H R I ?_
 obtain⟨zA,ρ,z,rr,rel,st,ee,po⟩:=q;refine⟨zA,ρ,z,rr,rel,st,ee,?_⟩;cases rr with
 |er c z1=>exact po
 |ok l z1 =>
  obtain⟨xs,hx,po⟩:=po;intro vs H1 x1 st1 rvs;obtain⟨ds,h1,h2⟩:=M10 hx;have hd:=G20 rvs h1
  match ds,h2 with
  |[.int j],h2 =>
   obtain⟨hj,h2⟩:=g30 h2;have hj:=C50.mp hj;cases h2;obtain⟨v,rfl,h3⟩:=hd.one;cases h3.i40;refine⟨j,rfl,by omega,by omega,po _ H1 x1 st1 λP B sub tup mv pa sf=>?_⟩
   have:=w31 (K:=X.K) (B:=B) 0 j.toNat;simpa using this
theorem w71(x:XI lm X G E N sc){tg a b:Ð}{as:Ex}{n:Str}{p pos:Pos}(hn:n="range")(hg:glob sc n=true)(hL:isL as=true)(g:Good X G E as [a,b]):PI X tg (.Call (.Name n p) [a,b] [] pos) (tIt X.K G E .rng2 as):=by
 subst hn;obtain⟨k1,k2,k3⟩:=d60 hg;obtain⟨ha,hs⟩:=g.args hL;rw[Ä5,Ä5,Á,Á] at hs;intro pins s σ H R I q;refine o21 (x.glb _ k1) (x.blt _ (-0)) ha (by rw[d10 hs.1,d10 hs.2.1];rfl) (d10 hs.2.1 [] X.env) pins s σ H R I ?_
 obtain⟨zA,ρ,z,rr,rel,st,ee,po⟩:=q;refine⟨zA,ρ,z,rr,rel,st,ee,?_⟩;cases rr with
 |er c z1=>exact po
 |ok l z1 =>
  obtain⟨xs,hx,po⟩:=po;intro vs H1 x1 st1 rvs;obtain⟨ds,h1,h2⟩:=M10 hx;have hd:=G20 rvs h1
  match ds,h2 with
  |[.int i,.int j],h2 =>
   obtain⟨hj,h2⟩:=g30 h2;have hi:=C50.mp hj.1;have hj:=C50.mp hj.2;cases h2;obtain⟨v,w,rfl,h3,h4⟩:=hd.two;cases h3.i40;cases h4.i40;exact⟨i,j,rfl,by omega,po _ H1 x1 st1 λP B sub tup mv pa sf=>w31 i (j - i).toNat⟩
theorem w81{s:S}{r:List S}{ds:List D}(h:plA (s::r)=some ds):∃ x q,ds=x::q/\plD s=some x/\plA r=some q:=by
 cases s with
 |d y =>
  obtain⟨q,e,rfl⟩:=É.mp h;exact⟨y,q,rfl,rfl,e⟩
 |fr y =>
  obtain⟨q,e,rfl⟩:=É.mp h;exact⟨_,q,rfl,rfl,e⟩
 |z=>cases h
theorem d22(h:plA l=some [x,y]):∃ s t,l=[s,t]/\plD s=some x/\plD t=some y:=by
 cases l with
 |nil=>cases h
 |cons s r =>
  obtain⟨_,_,e,h1,h2⟩:=w81 h;cases e;cases r with
  |nil=>cases h2
  |cons t r =>
   obtain⟨_,_,e,h3,h4⟩:=w81 h2;cases e;cases r with
   |nil=>exact⟨s,t,rfl,h1,h3⟩
   |cons u r =>
    obtain⟨_,_,e,_⟩:=w81 h4;cases e
theorem L81{s t:S}(h:k81 [s]=true):k81 [s,t]=true:=by
 match s,h with
 |.d (.lst _),_=>rfl
theorem L91{s t:S}(h:k81 [t]=true):k81 [s,t]=true:=by
 match s with
 |.d (.lst _)=>rfl|.d .non | .d (.bl _) | .d (.int _) | .d (.str _) | .d (.tup _) | .d .dct | .fr _ | .z=>exact h
theorem w91{K:Â}{zA:Option Ç}{H H1:Hp}{t:S}{v:V}{a:List D}(rv:RvS K zA H H1 t v)(h:plD t=some (.lst a)):∃ b ys,v=.ref b/\q10 K (hz zA H1) b ys/\HdA K (hz zA H1) a ys/\((H b=none/\H1 b=some (.lst ys))∨k81 [t]=true):=by
 cases t with
 |d x =>
  cases h;obtain⟨b,ys,rfl,k1,k2⟩:=Hd.W30 (show Hd K (hz zA H1) (.lst a) _ from rv);exact⟨b,ys,rfl,k1,k2,.inr rfl⟩
 |fr x =>
  cases h;obtain⟨b,ys,rfl,k0,k1,k2,k3⟩:=rv;exact⟨b,ys,rfl,q10.of (d70 k2 k1),k3.same (f30 b _),.inl ⟨k0,k2⟩⟩
 |z=>cases h
theorem x01(x:XI lm X G E N sc){tg a b:Ð}{as:Ex}{n:Str}{p pos:Pos}(ht:l30 tg=true)(hn:n="zip")(hg:glob sc n=true)(hL:isL as=true)(g:Good X G E as [a,b]):PI X tg (.Call (.Name n p) [a,b] [] pos) (tIt X.K G E .zip as):=by
 subst hn;obtain⟨k1,k2,k3⟩:=d60 hg;obtain⟨ha,hs⟩:=g.args hL;rw[Ä5,Ä5,Á,Á] at hs;cases tg with
 |Tuple es ek ep =>
  intro pins s σ H R I q;refine l62 (x.glb _ k1) (x.blt _ (-0)) ha (by rw[d10 hs.1,d10 hs.2.1];rfl) (d10 hs.2.1 [] X.env) pins s σ H R I ?_
  obtain⟨zA,ρ,z,rr,rel,st,ee,po⟩:=q;refine⟨zA,ρ,z,rr,rel,st,ee,?_⟩;cases rr with
  |er c z1=>exact po
  |ok l z1 =>
   obtain⟨xs,hx,po⟩:=po;intro vs H1 x1 st1 rvs;obtain⟨ds,h1,h2⟩:=M10 hx;have hd:=G20 rvs h1
   match ds,h2 with
   |[.tup a,.tup b],h2 =>
    cases h2;obtain⟨v,w,rfl,h3,h4⟩:=hd.two;obtain⟨p1,us,rfl,m1,m2⟩:=h3.z20;obtain⟨p2,ws,rfl,m3,m4⟩:=h4.z20;exact⟨false,p1,p2,rfl,⟨us,(a20 zA H1).sqT m1⟩,⟨ws,(a20 zA H1).sqT m3⟩,po _ H1 x1 st1 λP B sub tup mv pa sf=>w41 (λ_ x=>a30.sqT x (tup _ _ m1)) (HdA.move mv (show ∀ y∈a,P y from pa _ h1 _ Ì) m2) (λ_ x=>a30.sqT x (tup _ _ m3)) (HdA.move mv (show ∀ y∈b,P y from pa _ h1 _ (Ê _ Ì)) m4)⟩
   |[.lst a,.lst b],h2 =>
    cases h2;obtain⟨t1,t2,rfl,e1,e2⟩:=d22 h1;cases rvs with
    |cons rv1 rn =>
     cases rn with
     |cons rv2 rn =>
      cases rn;obtain⟨p1,us,rfl,m1,m2,m3⟩:=w91 rv1 e1;obtain⟨p2,ws,rfl,m4,m5,m6⟩:=w91 rv2 e2;refine⟨true,p1,p2,rfl,⟨us,(m1.same (a20 zA H1)).sq⟩,⟨ws,(m4.same (a20 zA H1)).sq⟩,po _ H1 x1 st1 λP B sub tup mv pa sf=>w41 (λ_ x=>((sf _ _ m1 (m3.imp id λq=>?_)).same x).sq) (HdA.move mv (show ∀ y∈a,P y from pa _ h1 _ Ì) m2) (λ_ x=>((sf _ _ m4 (m6.imp id λq=>?_)).same x).sq) (HdA.move mv (show ∀ y∈b,P y from pa _ h1 _ (Ê _ Ì)) m5)⟩
      ·exact L81 q
      ·exact L91 q
 |_=>cases ht
theorem f01:∀ {a:List D}{i n:Nat}{d:D},(G10 a n)[i]?=some d->∃ x,a[i]?=some x/\d=.tup [.int ((n + i:Nat):Int),x]
 |[],_,_,_,e=>by simp[G10] at e|x::r,0,n,d,e=>by simp[G10] at e;exact⟨x,rfl,e.symm⟩
 |x::r,i + 1,n,d,e=>by
  obtain⟨u,h1,h2⟩:=f01 (a:=r) (i:=i) (n:=n + 1) (by simpa [G10] using e)
  exact⟨u,by simpa using h1,by rw[h2,show n + 1 + i=n + (i + 1) by omega]⟩
theorem M20:∀ (a:List D) (n:Nat),(G10 a n).length=a.length
 |[],_=>rfl|x::r,n=>by simp only[G10,Û,M20 r]
theorem f11(h:∀ H,a30 B H->SqB b X.K H a us)(r:HdA X.K B xs us):ItB X.K (Ite b X.K a) (G10 xs 0) B where
 go:=λi H x hi=>by
  rw[M20] at hi;exact⟨us,us[i]'(by rw[r.length];omega),h H x,by simp⟩
 yld:=λi H v H' zA z d x st y e=>by
  obtain⟨T,rfl,hT,y⟩:=y;obtain⟨d1,e1,rfl⟩:=f01 e;obtain⟨w1,f1,g1⟩:=r.get e1;have y1:=y us w1 (h H (a30.trans x (a20 zA H))) f1;subst y1;have sm:a30 H (upd H T (.tup [.int i,w1])):=a30.new _ hT;exact⟨sm,λC c t=>Hd.tup (t _ _ ((st.same sm).a72 (SqT.of b00))) (.cons (by rw[Nat.zero_add];exact Hd.int) (.cons (g1.same c) .nil))⟩
 stop:=λH x=>⟨us,h H x,by rw[M20,r.length]⟩
theorem d32(h:plA l=some [d]):∃ s,l=[s]:=by
 cases l with
 |nil=>cases h
 |cons s r =>
  cases r with
  |nil=>exact⟨s,rfl⟩|cons t q=>exfalso;cases s <;> cases t <;> first | (cases h;done) | (simp only[plA,Option.map_map,Ô4] at h;obtain⟨_,_,h⟩:=h;cases h)
theorem f21(x:XI lm X G E N sc){tg a:Ð}{as:Ex}{n:Str}{p pos:Pos}(ht:l30 tg=true)(hn:n="enumerate")(hg:glob sc n=true)(hL:isL as=true)(g:Good X G E as [a]):PI X tg (.Call (.Name n p) [a] [] pos) (tIt X.K G E .enum as):=by
 subst hn;obtain⟨k1,k2,k3⟩:=d60 hg;obtain⟨ha,hs⟩:=g.args hL;rw[Ä5,Á] at hs;cases tg with
 |Tuple es ek ep =>
  intro pins s σ H R I q;refine Z01 (x.glb _ k1) (x.blt _ (-0)) ha (d10 hs.1 [] X.env) pins s σ H R I ?_
  obtain⟨zA,ρ,z,rr,rel,st,ee,po⟩:=q;refine⟨zA,ρ,z,rr,rel,st,ee,?_⟩;cases rr with
  |er c z1=>exact po
  |ok l z1 =>
   obtain⟨xs,hx,po⟩:=po;intro vs H1 x1 st1 rvs;obtain⟨ds,h1,h2⟩:=M10 hx;have hd:=G20 rvs h1
   match ds,h2 with
   |[.tup a],h2 =>
    cases h2;obtain⟨v,rfl,h3⟩:=hd.one;obtain⟨p1,us,rfl,m1,m2⟩:=h3.z20;exact⟨false,p1,rfl,⟨us,(a20 zA H1).sqT m1⟩,po _ H1 x1 st1 λP B sub tup mv pa sf=>f11 (λ_ x=>a30.sqT x (tup _ _ m1)) (HdA.move mv (show ∀ y∈a,P y from pa _ h1 _ Ì) m2)⟩
   |[.lst a],h2 =>
    cases h2;have fin:∀ (b:Ç) (ys:List V),q10 X.K (hz zA H1) b ys->HdA X.K (hz zA H1) a ys->((H b=none/\H1 b=some (.lst ys))∨k81 l=true)->∃ bb p,[V.ref b]=[.ref p]/\(∃ xs,SqB bb X.K H1 p xs)/\R (Ite bb X.K p) H1:=λb ys k1 k2 k5 =>
     ⟨true,b,rfl,⟨ys,(k1.same (a20 zA H1)).sq⟩,po _ H1 x1 st1 λP B sub tup mv pa sf=>f11 (λ_ x=>((sf _ _ k1 k5).same x).sq) (HdA.move mv (show ∀ y∈a,P y from pa _ h1 _ Ì) k2)⟩
    obtain⟨t,rfl⟩:=d32 h1;cases rvs with
    |cons rv rn =>
     cases rn;cases t with
     |d x =>
      cases h1;obtain⟨b,ys,rfl,k1,k2⟩:=Hd.W30 (show Hd X.K (hz zA H1) (.lst a) _ from rv);exact fin _ _ k1 k2 (.inr rfl)
     |fr x =>
      cases h1;obtain⟨b,ys,rfl,k0,k1,k2,k3⟩:=rv;exact fin _ _ (q10.of (d70 k2 k1)) (k3.same (f30 b _)) (.inl ⟨k0,k2⟩)
     |z=>cases h1
 |_=>cases ht
abbrev EF:XK:=λ_ _ _=>False
def ttC(K:Â)(G:Gs):Ex->TT
 |.nil=>p61|.cons c _=>tT K G EF c|_=>λ_ _ _=>False
theorem l41(h:turns f (x::r) z=some (.ok ys z2)):∃ o z1 l,f x z=some (.ok o z1)/\turns f r z1=some (.ok l z2)/\ys=(match o with | some y=>y::l | none=>l):=by
 rcases M.bind_some (show M.bind (f x) _ z=_ from h) with ⟨o,z1,e1,e2⟩ | ⟨c,z1,e1,e2⟩
 ·rcases M.bind_some e2 with ⟨l,z3,e3,e4⟩ | ⟨c,z3,e3,e4⟩
  ·cases e4;exact⟨o,z1,l,e1,e3,rfl⟩
  ·cases e4
 ·cases e2
theorem d42{zA:Option Ç}{J:L2.It}{xs ys:List D}{H1:Hp}{z1 z2:Z}{p:Pat}{cond el:Ex}{ρ0:Env}{σ0:L2.St}{Q:VK}(IT:H72 X.K zA J xs H1)(hm:xs.length<=most)(rel0:w20 X.K zA H1 ρ0 σ0)(len:ρ0.length=σ0.length)(st1:d30 zA z1 H1)
  (hc:cond=.nil∨∃ c,cond=.cons c .nil) (e:turns (q80 (ev G.F cond) (ev G.F el) p ρ0) xs z1=some (.ok ys z2))
  (fin:∀ H2 vs l,Ext zA H1 H2->d30 zA z2 H2->HdA X.K (hz zA H2) ys vs->H2 l=none->Q (.ref l) (upd H2 l (.lst vs))):j31 J σ0 H1 (gP X.K p) (ttC X.K G cond) (tI X.K G EF el) Q:=by
 refine⟨λi m vs H=>m=xs.length - i/\i<=xs.length/\vs.length<=i/\∃ yd z rest,Ext zA H1 H/\d30 zA z H/\HdA X.K (hz zA H) yd vs/\turns (q80 (ev G.F cond) (ev G.F el) p ρ0) (xs.drop i) z=some (.ok rest z2)/\ys=yd++rest,
  ⟨xs.length,rfl,È3 _,È3 _,[],z1,ys,Ext.refl,st1,.nil,by simpa using e,rfl⟩,?_⟩
 rintro i m vs H ⟨rfl,hi,hv,yd,z,rest,x,st,hd,et,ey⟩;by_cases hlt:i < xs.length
 ·refine .inr ⟨IT.go i H x hlt,Ë1 hv (Õ hlt (f50 hm)),
   λws H'=>ws.length<=i + 1/\∃ yd z rest,Ext zA H1 H'/\d30 zA z H'/\HdA X.K (hz zA H') yd ws/\turns (q80 (ev G.F cond) (ev G.F el) p ρ0) (xs.drop (i + 1)) z=some (.ok rest z2)/\ys=yd++rest,
   λws H' q=>⟨xs.length - (i + 1),by omega,rfl,hlt,q.1,q.2⟩,λv H' y=>?_⟩
  obtain⟨sm,hx⟩:=IT.yld i H v H' z xs[i] x st y (by simp[hlt])
  rw[Ð9 hlt] at et;obtain⟨o,z3,l,f1,f2,f3⟩:=l41 et;obtain⟨ρ',b1,f4⟩:=M.a10 (show M.bind (M.of (f40 p xs[i] ρ0)) _ z=_ from f1);have x':Ext zA H1 H':=x.trans (Ext.of sm);have st':=st.same sm;refine w11 b1 (rel0.mono x') len hx λσ' rel' len'=>?_;have yes:∀ {za:Z}{Ha:Hp},Ext zA H' Ha->d30 zA za Ha->M.bind (ev G.F el ρ') (λy=>M.bind (M.of (pl y)) λy=>M.ret (some y)) za=some (.ok o z3)->tI X.K G EF el σ' Ha (λy H4=>(vs++[y]).length<=i + 1/\∃ yd z rest,Ext zA H1 H4/\d30 zA z H4/\HdA X.K (hz zA H4) yd (vs++[y])/\turns (q80 (ev G.F cond) (ev G.F el) p ρ0) (xs.drop (i + 1)) z=some (.ok rest z2)/\ys=yd++rest):=λ{za Ha} xa sta ea=>by
   refine g80 (rel'.mono xa) sta ea (λc z1 h=>by cases h) λm z4 e4=>?_
   obtain⟨d,p1,e5⟩:=M.a10 e4;obtain⟨s1,rfl,q1⟩:=e10 p1;cases e5;refine⟨s1,rfl,λw H4 x4 st4 rv=>⟨by rw[À5];simp;omega,yd++[d],z3,l,(x'.trans xa).trans x4,st4,?_,f2,by rw[ey,f3,É7];rfl⟩⟩
   exact(hd.same (a30.trans (k50 sm) (a30.trans xa.same x4.same))).append (.cons (rv.pl.d_ q1) .nil)
  rcases hc with rfl | ⟨c,rfl⟩
  ·have f5:M.bind (ev G.F el ρ') (λy=>M.bind (M.of (pl y)) λy=>M.ret (some y)) z=some (.ok o z3):=f4;have ty:ttC X.K G .nil=p61:=rfl;rw[ty];refine I41 ?_;dsimp only;rw[if_pos rfl];exact yes Ext.refl st' f5
  ·rcases M.bind_some (show M.bind (ev G.F (.cons c .nil) ρ') _ z=_ from f4) with ⟨m,za,e1,e2⟩ | ⟨q,za,e1,e2⟩
   ·rcases M.bind_some (show M.bind (ev G.F c ρ') _ z=_ from e1) with ⟨m',zb,e3,e4⟩ | ⟨q,zb,e3,e4⟩
    ·obtain⟨s,hs,e5⟩:=M.a10 e4;cases e5;have hm':=D30 hs;subst hm';show tT X.K G EF c σ' H' _;have tb:∃ b,s=.d (.bl b):=by
      cases s with
      |d y=>cases y with
       |bl b=>exact⟨b,rfl⟩|_=>cases e2
      |fr _=>cases e2
      |z=>cases e2
     obtain⟨b,rfl⟩:=tb;refine⟨zA,ρ',z,_,rel',st',e3,b,rfl,λHa xa sta=>?_⟩;cases b with
     |true =>
      rw[if_pos rfl];exact yes xa sta e2
     |false =>
      rw[if_neg Ï];cases e2;exact⟨Þ hv (le_succ _),yd,z3,l,x'.trans xa,sta,hd.same (a30.trans (k50 sm) xa),f2,by rw[ey,f3]⟩
    ·cases e4
   ·cases e2
 ·have hi':i=xs.length:=by omega
  subst hi';rw[drop_length] at et;cases et;refine .inl ⟨IT.stop H x,λl hl=>fin H vs l x st (by rw[ey,Ë4];exact hd) hl⟩
end
section
variable {K:Â}{zA:Option Ç}{z:Z}{H H2:Hp}{P:Ç}{q:Str}
theorem M01(KB:B80 P H H2)(t:Tab H P q)(t2:Tab H2 P q):Ext zA H H2:=by
 refine⟨λb o h=>?_,λb ps h=>?_⟩
 ·obtain⟨h1,h2⟩:=n70 h;have nt:=o50 h;obtain⟨ps,hp,_⟩:=t;have hb:b≠P:=λz=>by
   subst z;rw[hp] at h1;cases h1;exact nt _ rfl
  exact d70 (KB.same b o hb h1) h2 nt
 ·by_cases hb:b=P
  ·subst hb;obtain⟨qs,e,_⟩:=t2;exact⟨qs,e⟩
  ·exact⟨ps,KB.same b _ hb h⟩
theorem d52(KB:B80 P H H2)(t:Tab H P q)(t2:Tab H2 P q)(uq:∀ p∈TB.tb,p.1=P->p.2=q)(st:d30 zA z H):d30 zA z H2:=by
 obtain⟨ps,hp,_⟩:=t;have ne:∀ {b:Ç}{o:HO},H b=some o->(∀ l,o≠.tbl l)->b≠P:=λ{b o} e1 e2 z=>by
  subst z;rw[hp] at e1;cases e1;exact e2 _ rfl
 refine⟨?_,λp hq=>?_⟩
 ·have h:=st.zat;cases zA with
  |none=>cases z with
   |none=>trivial|some _=>exact h.elim
  |some a=>cases z with
   |none=>exact h.elim
   |some pr =>
    have h':H a=some (.lst [.int pr.1,.bl pr.2]):=h;exact KB.same _ _ (ne h' λ_ z=>nomatch z) h'
 ·by_cases hb:p.1=P
  ·rw[uq p hq hb,hb];exact t2
  ·obtain⟨qs,e,tr,k⟩:=st.tab p hq;refine⟨qs,KB.same _ _ hb e,tr,λpos c hc=>?_⟩;obtain⟨c',e1,e2⟩:=k pos c hc;exact⟨c',e1,KB.same _ _ (ne e2 λ_ z=>nomatch z) e2⟩
theorem x11:∀ l:List Nat,(b60 N l).length<=l.length
 |[]=>Î _
 |j::q=>by
  have ih:=x11 (N:=N) q;unfold b60;split
  ·rw[Û,Û];omega
  ·rw[Û];omega
theorem S80(rel:w20 K zA H ρ σ):∀ {capt:List Nat}{ss:List S},K31 ρ capt=some ss->(b60 N capt).length=capt.length ->
  ∃ vs,RvA K zA H ss vs/\vs.length=(b60 N capt).length/\∀ (i:Nat) (x:Str) (v:V),((b60 N capt).map (·.1))[i]?=some x->vs[i]?=some v->∃ j:Nat,N[j]?=some x/\σ[j]?=some (some v)
 |[],ss,h,_=>by
  cases h;exact⟨[],.nil,rfl,λi x v h=>by simp[b60] at h⟩
 |i::capt,ss,h,hl=>by
  have h:(match ρ[i]? with | some (some s)=>(K31 ρ capt).map (s::·) | _=>none)=some ss:=h
  have le:=x11 (N:=N) capt;obtain⟨s,r,e2,h3,rfl⟩:∃ s r,ρ[i]?=some (some s)/\K31 ρ capt=some r/\ss=s::r:=by
   split at h
   ·rename_i s e;obtain⟨r,h3,h4⟩:=É.mp h;exact⟨s,r,e,h3,h4.symm⟩
   ·cases h
  obtain⟨v,k1,k2⟩:=rel i s e2;cases hN:N[i]? with
  |none =>
   unfold b60 at hl;rw[hN] at hl;simp only[Û] at hl;omega
  |some y =>
   unfold b60 at hl ⊢;rw[hN] at hl ⊢;simp only[Û] at hl;obtain⟨vs,a1,a2,a3⟩:=S80 rel (N:=N) (capt:=capt) h3 ∅
   refine⟨v::vs,.cons k2 a1,by simp[a2],λj x u b1 b2=>?_⟩
   cases j with
   |zero =>
    simp only[Å6,Ë2,Ê2] at b1 b2;subst b1;subst b2;exact⟨i,hN,k1⟩
   |succ j=>exact a3 j x u (by simpa using b1) (by simpa using b2)
theorem f31:∀ {ss:List S}{vs:List V},RvA K zA H ss vs->w20 K zA H (ss.map some) (vs.map some)
 |[],_,h,i,s,e=>by simp at e
 |a::ss,_,h,i,s,e=>by
  cases h with
  |cons h1 h2 =>
   cases i with
   |zero =>
    simp only[Å6,Ë2,Ê2] at e;subst e;exact⟨_,rfl,h1⟩
   |succ i =>
    obtain⟨v,k1,k2⟩:=f31 h2 i s (by simpa using e)
    exact⟨v,by simpa using k1,k2⟩
end
theorem h90{env:È7}{k0:Ë7}(hk:k0≠.free):∀ {names:List (Str × Ë7)}{x:Str},names.lookup x=some k0 ->
  (names.map λ(n,k)=>if (k == ô&&env.scope.kind == .function&&env.kindOf n == some .cell) then(n,Æ0) else(n,k)).lookup x=some k0
 |[],_,h=>by simp at h
 |(n,k)::r,x,h=>by
  have ih:=@h90 env k0 hk r x;show Í3 x ((if (k == ô&&env.scope.kind == .function&&env.kindOf n == some .cell)=true then(n,Æ0) else(n,k))::_)=_;cases hx:x == n with
  |true =>
   simp only[Á1,hx] at h;cases h;have:(k0 == ô)=false:=by simpa using hk
   rw[this,Õ1,Õ1,if_neg Ï];simp only[Á1,hx]
  |false =>
   simp only[Á1,hx] at h;by_cases hq:(k == ô&&env.scope.kind == .function&&env.kindOf n == some .cell)=true
   ·rw[if_pos hq];simp only[Á1,hx];exact ih h
   ·rw[if_neg hq];simp only[Á1,hx];exact ih h
section
variable {lm:Bool}{X:Cx}{G:Gs}{E:XK}{N:List Str}{sc csc:í}{on:List Str}{cs:List (Str × Nat)}
structure T11(csc sc:Scope)(N on:List Str)(cs:List (Str × Nat)):Prop where
 kind:csc.kind=.function
 nocell:∀ y∈csc.names,y.2≠.cell
 locs:∀ y∈csc.names,y.2=.local->csc.names.lookup y.1=some .local
 frees:∀ y∈csc.names,y.2=.free->(sc.names.lookup y.1=some .cell∨sc.names.lookup y.1=some .free)
 captd:∀ p∈cs,N[p.2]?=some p.1/\csc.names.lookup p.1=some .free
 own:∀ x∈on,csc.names.lookup x=some .local
 nd:(on++cs.map (·.1)).Nodup
theorem d62(h:S30 csc sc N on cs=true):T11 csc sc N on cs:=by
 unfold S30 at h;simp only[Á] at h;obtain⟨⟨⟨⟨⟨⟨h1,h2⟩,h3⟩,h4⟩,h5⟩,h6⟩,h7⟩:=h;rw[Å2] at h2 h3 h4 h5 h6;refine⟨by simpa using h1,λy hy=>by simpa using h2 y hy,λy hy hl=>?_,λy hy hf=>?_,λp hp=>by simpa using h5 p hp,λx hx=>by simpa using h6 x hx,of_decide_eq_true h7⟩
 ·have:=h3 y hy;rw[hl] at this;simpa using this
 ·have:=h4 y hy;rw[hf] at this;simpa using this
theorem x21(x:XI lm X G E N sc)(c:T11 csc sc N on cs):o00 X csc on cs:=⟨c.kind,c.nocell,c.locs,λy hy hf=>x.cel _ (c.frees y hy hf),λp hp=>by rw[x.hN];exact c.captd p hp⟩
theorem M30(x:XI lm X G E N sc)(c:T11 csc sc N on cs)(cl:List (Str × Ç))(C:Ç)(s:Æ)(H:Hp)(fp:List Ç):XI false (c30 X (d00 on cs) csc cl C s H fp) G EF (on++cs.map (·.1)) csc where
 gok:=x.gok
 num:=x.num
 blt:=x.blt
 hN:=rfl
 nd:=c.nd
 vis:=λy hy=>by
  rcases Â7.mp hy with h | h
  ·exact .inl (h90 (-0) (c.own y h))
  ·obtain⟨p,hp,rfl⟩:=Ù.mp h;rcases p50 (env:=X.env) (c.captd p hp).2 with h | h
   ·exact .inr (.inl h)
   ·exact .inr (.inr h)
 glb:=λy hy=>h90 (-0) hy
 cel:=λy hy=>by
  rcases hy with h | h
  ·exact .inl (h90 (-0) h)
  ·exact p50 (env:=X.env) h
 calm:=x.calm
 room:=x.room
 pas:=n02
 lam:=λh=>nomatch h
theorem M40(x:XI lm X G E N sc)(c:T11 csc sc N on cs)(cl:List (Str × Ç))(C:Ç)(s:Æ)(H:Hp)(fp:List Ç):L71 (c30 X (d00 on cs) csc cl C s H fp) (on++cs.map (·.1)) (λy=>on.contains y) where
 hN:=rfl
 nd:=c.nd
 lc:=λy hy=>.inl (h90 (-0) (c.own y (by simpa using hy)))
 fn:=λy hy=>.inr (h90 (-0) (c.own y (by simpa using hy)))
 calm:=x.calm
theorem f41:∀ {capt:List Nat},(b60 N capt).length=capt.length->(b60 N capt).map (·.2)=capt
 |[],_=>rfl
 |i::r,h=>by
  have le:∀ l:List Nat,(b60 N l).length<=l.length:=by
   intro l
   induction l with
   |nil=>exact Î _
   |cons j q ih =>
    unfold b60;split
    ·rw[Û,Û];omega
    ·rw[Û];omega
  unfold b60 at h ⊢;split at h
  ·rename_i y hy;rw[Û,Û] at h;rw[Å6,f41 ∅]
  ·have:=le r;rw[Û] at h;omega
theorem M11(rel:w20 X.K zA H ρ σ)(h:cs.map (·.2)=capt):w20 X.K zA H (î on.length none++capt.map λi=>(ρ[i]?).getD none) (q70 on cs σ) /\
  (î on.length (none:Option S)++capt.map λi=>(ρ[i]?).getD none).length=(q70 on cs σ).length:=by
 subst h;constructor
 ·intro j s e;unfold q70;by_cases hj:j < on.length
  ·rw[Ð8 (by simpa using hj)] at e
   simp[Ò7,hj] at e
  ·rw[Å3 (by simpa using hj),à4,Ø,Ø] at e
   rw[Å3 (by simpa using hj),È,Ø]
   cases hp:cs[j - on.length]? with
   |none=>rw[hp] at e;simp at e
   |some p =>
    rw[hp] at e;simp only[map_some,Ê2] at e;have e2:ρ[p.2]?=some (some s):=by
     cases hr:ρ[p.2]? with
     |none=>rw[hr] at e;cases e
     |some o=>rw[hr] at e;exact congrArg some e
    obtain⟨v,h1,h2⟩:=rel p.2 s e2;exact⟨v,by simp[h1],h2⟩
 ·unfold q70;simp
theorem x31(h:s20 e=true)(env:È7)(x:Ä):Æ7 e env x=pure x:=by
 cases e with
 |Set _ _ _=>cases h
 |_=>rfl
def H30(X:Cx)(G:Gs)(E:XK)(x:Ex)(elt tg Ä0:Ð)(ifs:List Ð)(csc:í):Prop:=∃ (own:List Str) (capt:List (Str × Nat)) (wi:TI) (g:TG) (tt:TT) (te:TE),o00 X csc own capt/\PI X tg Ä0 wi /\
 (∀ cl C s H fp,PG (c30 X (d00 own capt) csc cl C s H fp) tg g)/\(∀ cl C s H fp,PTs (c30 X (d00 own capt) csc cl C s H fp) ifs tt)/\(∀ cl C s H fp,PE (c30 X (d00 own capt) csc cl C s H fp) elt te) /\
 (∀ x,Æ7 Ä0 X.env x=pure x)/\∀ σ H Q,tI X.K G E x σ H Q->X21 own capt wi g tt te σ H Q
theorem H82(x:XI lm X G E N sc){p:Pat}{it:It}{src cond el:Ex}{capt:List Nat}{elt tg Ä0:Ð}{ifs:List Ð}(c:T11 csc sc N on cs)(hcap:cs.map (·.2)=capt)(hp:j70 (on++cs.map (·.1)) (λy=>on.contains y) p tg=true)
  (hi:PI X tg Ä0 (tIt X.K G E it src)) (hns:s20 Ä0=true) (hc:(cond=.nil/\ifs=[])∨∃ q f,cond=.cons q .nil/\ifs=[f]/\∀ cl C s H fp,PT (c30 X (d00 on cs) csc cl C s H fp) f (tT X.K G EF q))
  (he:∀ cl C s H fp,PE (c30 X (d00 on cs) csc cl C s H fp) elt (tI X.K G EF el)):H30 X G E (.comp on.length capt p it src cond el) elt tg Ä0 ifs csc:=by
 have ht:∀ cl C s H fp,PTs (c30 X (d00 on cs) csc cl C s H fp) ifs (ttC X.K G cond):=by
  rcases hc with ⟨rfl,rfl⟩ | ⟨q,f,rfl,rfl,h⟩
  ·exact λcl C s H fp=>p71
  ·exact λcl C s H fp=>p81 (h cl C s H fp)
 refine⟨on,cs,tIt X.K G E it src,gP X.K p,ttC X.K G cond,tI X.K G EF el,x21 x c,hi,λcl C s H fp=>w01 (M40 x c cl C s H fp) hp,ht,he,x31 hns X.env,λσ H Q q=>?_⟩;obtain⟨zA,ρ,z,rr,rel,st,e,po⟩:=q;have e0:M.bind (ev G.F src ρ) (λl=>M.bind (M.of ((plA l).bind (itD it))) λxs=>if xs.length<=most then M.bind (M.calm (turns (q80 (ev G.F cond) (ev G.F el) p (î on.length none++capt.map λi=>(ρ[i]?).getD none)) xs)) λys=>M.ret [.fr ys] else M.no) z=some rr:=e;rcases M.bind_some e0 with ⟨m,z1,e1,e2⟩ | ⟨k,z1,e1,e2⟩
 ·obtain⟨xs,hx,e3⟩:=M.a10 e2;refine⟨zA,ρ,z,_,rel,st,e1,xs,hx,λJ H1 x1 st1 IT'=>?_⟩;have IT:=IT'.ok;split at e3
  ·rename_i hm;rcases M.bind_some e3 with ⟨ys,z2,e4,e5⟩ | ⟨k,z2,e4,e5⟩
   ·cases e5;have e6:turns (q80 (ev G.F cond) (ev G.F el) p (î on.length none++capt.map λi=>(ρ[i]?).getD none)) xs z1=some (.ok ys z2):=by
     unfold M.calm at e4;split at e4
     ·rename_i h;cases e4;exact h
     ·cases e4
    obtain⟨r1,r2⟩:=M11 (on:=on) (rel.mono x1) hcap;refine d42 IT hm r1 r2 st1 (by rcases hc with ⟨h,_⟩ | ⟨q,_,h,_⟩;exact .inl h;exact .inr ⟨q,h⟩) e6 λH2 vs l x2 st2 hd hl=>?_
    exact e70 po (x1.trans x2) st2 _ _ (a30.new _ hl) (l20 st2 hd hl)
   ·unfold M.calm at e4;split at e4 <;> cases e4
  ·cases e3
 ·exact⟨zA,ρ,z,_,rel,st,e1,(f90 po) k z1 e2⟩
theorem H30.good{x:Ex}{elt tg Ä0:Ð}{ifs:List Ð}{csc:í}{pos:Pos}(hc:X.calm=true)(h:H30 X G E x elt tg Ä0 ifs csc):b10 X G E x (.ListComp elt [⟨tg,Ä0,ifs,0⟩] csc pos):=by
 obtain⟨own,capt,wi,g,tt,te,h1,h2,h3,h4,h5,h6,h7⟩:=h;exact b30 (PE.imp (p91 hc h1 h2 h3 h4 h5 h6) h7) rfl
theorem b50(h:(!isL x)=true):isL x=false:=by simpa using h
theorem x41(hL:isL x=true)(g:Good X G E x [e]):∃ a,x=.cons a .nil/\b10 X G E a e:=by
 cases x with
 |nil=>cases (show [e]=[] from g)
 |cons a r =>
  obtain⟨e',es,h,ns,ga,lr,gr⟩:=g;cases h;cases r with
  |nil=>exact⟨a,rfl,ga⟩|cons b q=>obtain⟨e,es,h,_⟩:=gr;cases h
  |_=>cases lr
 |_=>cases hL
theorem S90{lm:Bool}{G:Gs}{own:Nat}{capt:List Nat}{p:Pat}{it:It}{src cond el:Ex}(ihs:(∀ {X:Cx}{E:XK}{N:List Str}{sc:í},XI lm X G E N sc->∀ {es:List Ð},mt lm G.fns G.nums src sc N es=true->Good X G E src es))(ihc:(∀ {X:Cx}{E:XK}{N:List Str}{sc:í},XI false X G E N sc->∀ {es:List Ð},mt false G.fns G.nums cond sc N es=true->Good X G E cond es))(ihe:(∀ {X:Cx}{E:XK}{N:List Str}{sc:í},XI false X G E N sc->∀ {es:List Ð},mt false G.fns G.nums el sc N es=true->Good X G E el es))
  {X:Cx}{E:XK}{N:List Str}{sc:í} (x:XI lm X G E N sc) {elt tg Ä0:Ð}{ifs:List Ð}{csc:í} (h:(d50 tg).length == own&&(b60 N capt).length == capt.length&&S30 csc sc N (d50 tg) (b60 N capt)&&j70 (d50 tg++(b60 N capt).map (·.1)) (λx=>(d50 tg).contains x) p tg&&isL src&&!isL el&&isL cond&&ifs.length<=1&&noStar elt&&s20 Ä0&&ifs.all (λc=>!ifB c) &&
    (match it with
    |.seq=>mt lm G.fns G.nums src sc N [Ä0]|.rng1=>opt (h82 Ä0) λr=>r.1.1 == ("range":Str)&&glob sc r.1.1&&mt lm G.fns G.nums src sc N [r.1.2.2.1]|.rng2=>opt (h92 Ä0) λr=>r.1.1 == ("range":Str)&&glob sc r.1.1&&mt lm G.fns G.nums src sc N [r.1.2.2.1,r.1.2.2.2.1]|.zip=>opt (h92 Ä0) λr=>r.1.1 == ("zip":Str)&&glob sc r.1.1&&l30 tg&&mt lm G.fns G.nums src sc N [r.1.2.2.1,r.1.2.2.2.1]
    |.enum=>opt (h82 Ä0) λr=>r.1.1 == ("enumerate":Str)&&glob sc r.1.1&&l30 tg&&mt lm G.fns G.nums src sc N [r.1.2.2.1])&&mt false G.fns G.nums cond csc (d50 tg++(b60 N capt).map (·.1)) ifs&&mt false G.fns G.nums el csc (d50 tg++(b60 N capt).map (·.1)) [elt]):H30 X G E (.comp own capt p it src cond el) elt tg Ä0 ifs csc:=by
 simp only[Á,beq_iff_eq,decide_eq_true_eq] at h;obtain⟨⟨⟨⟨⟨⟨⟨⟨⟨⟨⟨⟨⟨h1,h2⟩,h3⟩,h4⟩,h5⟩,h6⟩,h7⟩,h8⟩,h9⟩,h10⟩,h11⟩,h12⟩,h13⟩,h14⟩:=h;subst h1;have c:=d62 h3;have hi:PI X tg Ä0 (tIt X.K G E it src):=by
  cases it with
  |seq =>
   obtain⟨a,rfl,ga⟩:=x41 h5 (ihs x h12);exact T01 ga
  |rng1 =>
   obtain⟨⟨⟨n,_,a,_⟩,rfl⟩,-,h12⟩:=a60 h12;simp only[Á,beq_iff_eq] at h12;exact w61 x h12.1.1 h12.1.2 h5 (ihs x h12.2)
  |rng2 =>
   obtain⟨⟨⟨n,_,a,b,_⟩,rfl⟩,-,h12⟩:=a60 h12;simp only[Á,beq_iff_eq] at h12;exact w71 x h12.1.1 h12.1.2 h5 (ihs x h12.2)
  |zip =>
   obtain⟨⟨⟨n,_,a,b,_⟩,rfl⟩,-,h12⟩:=a60 h12;simp only[Á,beq_iff_eq] at h12;exact x01 x h12.1.2 h12.1.1.1 h12.1.1.2 h5 (ihs x h12.2)
  |enum =>
   obtain⟨⟨⟨n,_,a,_⟩,rfl⟩,-,h12⟩:=a60 h12;simp only[Á,beq_iff_eq] at h12;exact f21 x h12.1.2 h12.1.1.1 h12.1.1.2 h5 (ihs x h12.2)
 have hc:(cond=.nil/\ifs=[])∨∃ q f,cond=.cons q .nil/\ifs=[f]/\∀ cl C s H fp,PT (c30 X (d00 (d50 tg) (b60 N capt)) csc cl C s H fp) f (tT X.K G EF q):=by
  match ifs,h8,h11,h13 with
  |[],_,_,h13 =>
   cases cond with
   |nil=>exact .inl ⟨rfl,rfl⟩|cons a r=>cases h13
   |_=>cases h7
  |[f],_,h11,h13 =>
   cases cond with
   |nil=>cases h13
   |cons a r =>
    have h13':(noStar f&&!isL a&&isL r&&mt false G.fns G.nums a csc (d50 tg++(b60 N capt).map (·.1)) [f]&&mt false G.fns G.nums r csc (d50 tg++(b60 N capt).map (·.1)) [])=true:=h13;simp only[Á] at h13';have rn:r=.nil:=by
     cases r with
     |nil=>rfl|cons b q=>cases h13'.2
     |_=>cases h13'.1.1.2
    subst rn;simp only[Ä5,all_nil,Ö3] at h11;refine .inr ⟨a,f,rfl,rfl,λcl C s H fp=>?_⟩;obtain⟨e',es,he,ns,ga,lr,gr⟩:=ihc (M30 x c cl C s H fp) h13;cases he;exact ga.pt (c82 h11)
   |_=>cases h7
 refine H82 x c (f41 h2) h4 hi h10 hc λcl C s H fp=>?_;exact(a70 (b50 h6) (ihe (M30 x c cl C s H fp) h14)).pe
theorem s32:∀ (t:Ex) {lm:Bool}{G:Gs}{X:Cx}{E:XK}{N:List Str}{sc:í},XI lm X G E N sc->∀ {es:List Ð},mt lm G.fns G.nums t sc N es=true->Good X G E t es:=by
 intro t
 induction t with
 |nil =>
  intro lm G X E N sc x es h;exact Ì9.mp h
 |cons a r iha ihr =>
  intro lm G X E N sc x es h;cases es with
  |nil=>cases h
  |cons e es =>
   have h:(noStar e&&!isL a&&isL r&&mt lm G.fns G.nums a sc N [e]&&mt lm G.fns G.nums r sc N es)=true:=h;simp only[Á] at h;obtain⟨⟨⟨⟨h1,h2⟩,h3⟩,h4⟩,h5⟩:=h;exact⟨e,es,rfl,h1,a70 (b50 h2) (iha x h4),h3,ihr x h5⟩
 |var i =>
  intro lm G X E N sc x es h;obtain⟨⟨q,rfl⟩,-,h⟩:=a60 h;simp only[Á,beq_iff_eq] at h;exact c60 rfl (G02 x h.1 h.2)
 |con d =>
  intro lm G X E N sc x es h;rcases (Å5 _ _).mp h with h | h
  ·obtain⟨⟨q,rfl⟩,-,h⟩:=a60 h;exact c60 rfl (G12 h)
  ·obtain⟨⟨p,rfl⟩,-,h⟩:=a60 h;cases d with
   |dct=>exact c60 rfl G22|_=>cases h
 |gint g i =>
  intro lm G X E N sc x es h;obtain⟨⟨⟨n,p⟩,rfl⟩,-,h⟩:=a60 h;simp only[Á,beq_iff_eq,Ì8] at h;obtain⟨⟨rfl,h2⟩,h3⟩:=h;exact c60 rfl (q42 x h2 h3)
 |tup as ih =>
  intro lm G X E N sc x es h;obtain⟨⟨q,rfl⟩,-,h⟩:=a60 h;simp only[Á] at h;exact c60 rfl (G32 h.1 (ih x h.2))
 |lst as ih =>
  intro lm G X E N sc x es h;obtain⟨⟨q,rfl⟩,-,h⟩:=a60 h;simp only[Á] at h;exact c60 rfl (G42 h.1 (ih x h.2))
 |bin o a b iha ihb =>
  intro lm G X E N sc x es h;obtain⟨⟨⟨l,op,r,p⟩,rfl⟩,-,h⟩:=a60 h;simp only[Á,beq_iff_eq] at h;obtain⟨⟨⟨⟨rfl,h2⟩,h3⟩,h4⟩,h5⟩:=h;exact c60 rfl (G52 (a70 (b50 h2) (iha x h4)) (a70 (b50 h3) (ihb x h5)))
 |cmp o a b iha ihb =>
  intro lm G X E N sc x es h;obtain⟨⟨⟨l,op,r,p⟩,rfl⟩,-,h⟩:=a60 h;simp only[Á,beq_iff_eq] at h;obtain⟨⟨⟨⟨⟨rfl,h1⟩,h2⟩,h3⟩,h4⟩,h5⟩:=h;exact c60 rfl (G62 x h1 (a70 (b50 h2) (iha x h4)) (a70 (b50 h3) (ihb x h5)))
 |neg a ih =>
  intro lm G X E N sc x es h;obtain⟨⟨q,rfl⟩,-,h⟩:=a60 h;simp only[Á] at h;exact c60 rfl (G72 (a70 (b50 h.1) (ih x h.2)))
 |not a ih =>
  intro lm G X E N sc x es h;obtain⟨⟨q,rfl⟩,-,h⟩:=a60 h;simp only[Á] at h;obtain⟨⟨h1,h2⟩,h3⟩:=h;exact c60 rfl (G82 (a70 (b50 h1) (ih x h3)) (c82 h2))
 |and a b iha ihb =>
  intro lm G X E N sc x es h;obtain⟨⟨⟨l,r,vs,p⟩,rfl⟩,-,h⟩:=a60 h;simp only[Á] at h;obtain⟨⟨⟨⟨h1,h2⟩,h3⟩,h4⟩,h5⟩:=h;refine c60 rfl (G92 (a70 (b50 h1) (iha x h4)) (c82 h3) ?_);cases vs with
  |nil =>
   rw[if_pos (show([]:List Ð).isEmpty=true from rfl),Á] at h5;exact q52 (a70 (b50 h2) (ihb x h5.2)) (c82 h5.1)
  |cons v vs =>
   rw[if_neg (by exact Ï)] at h5
   exact a70 (b50 h2) (ihb x h5)
 |or a b iha ihb =>
  intro lm G X E N sc x es h;obtain⟨⟨⟨l,r,vs,p⟩,rfl⟩,-,h⟩:=a60 h;simp only[Á] at h;obtain⟨⟨⟨⟨h1,h2⟩,h3⟩,h4⟩,h5⟩:=h;refine c60 rfl (T92 (a70 (b50 h1) (iha x h4)) (c82 h3) ?_);cases vs with
  |nil =>
   rw[if_pos (show([]:List Ð).isEmpty=true from rfl),Á] at h5;exact q52 (a70 (b50 h2) (ihb x h5.2)) (c82 h5.1)
  |cons v vs =>
   rw[if_neg (by exact Ï)] at h5
   exact a70 (b50 h2) (ihb x h5)
 |orT a b iha ihb =>
  intro lm G X E N sc x es h;obtain⟨⟨⟨l,r,vs,p⟩,rfl⟩,-,h⟩:=a60 h;simp only[Á] at h;obtain⟨⟨⟨⟨h1,h2⟩,h3⟩,h4⟩,h5⟩:=h;cases vs with
  |nil=>exact c60 rfl (H02 (a70 (b50 h1) (iha x h4)) (a70 (b50 h2) (ihb x h5)))|cons v vs=>cases h3
 |ite c a b ihc iha ihb =>
  intro lm G X E N sc x es h;obtain⟨⟨q,rfl⟩,-,h⟩:=a60 h;simp only[Á] at h;obtain⟨⟨⟨⟨⟨⟨h1,h2⟩,h3⟩,h4⟩,h5⟩,h6⟩,h7⟩:=h;exact c60 rfl (H12 (a70 (b50 h1) (ihc x h5)) (c82 h4) (a70 (b50 h2) (iha x h6)) (a70 (b50 h3) (ihb x h7)))
 |ch o o' a b c iha ihb ihc =>
  intro lm G X E N sc x es h;obtain⟨⟨⟨l,op,op',r,s,p⟩,rfl⟩,-,h⟩:=a60 h;simp only[Á,beq_iff_eq] at h;obtain⟨⟨⟨⟨⟨⟨⟨⟨rfl,rfl⟩,h1⟩,h2⟩,h3⟩,h4⟩,h5⟩,h6⟩,h7⟩:=h;exact c60 rfl (U02 x h1 (a70 (b50 h2) (iha x h5)) (a70 (b50 h3) (ihb x h6)) (a70 (b50 h4) (ihc x h7)))
 |bf f as ih =>
  intro lm G X E N sc x es h;rcases (Å5 _ _).mp h with h | h
  rotate_left
  ·rw[Á] at h;obtain⟨hf,h⟩:=h;obtain⟨⟨⟨n,p1,m,p2,e,p3,p4⟩,rfl⟩,-,h⟩:=a60 h;simp only[Á,beq_iff_eq] at h;obtain⟨⟨⟨⟨⟨h1,h2⟩,h3⟩,h4⟩,h5⟩,h6⟩:=h;have h1:n="sorted":=h1;have h2:m="set":=h2;subst h1;subst h2;cases f with
   |sset=>exact c60 rfl (r92 x h3 h4 h5 (ih x h6))|_=>cases hf
  obtain⟨⟨q,rfl⟩,-,h⟩:=a60 h;simp only[Á,beq_iff_eq] at h;obtain⟨⟨⟨⟨h1,h2⟩,h3⟩,h4⟩,h5⟩:=h;exact c60 rfl (U12 x h1 h2 h3 h4 (ih x h5))
 |isi t a ih =>
  intro lm G X E N sc x es h;obtain⟨⟨⟨n,q,e,ty,p⟩,rfl⟩,-,h⟩:=a60 h;simp only[Á,beq_iff_eq] at h;obtain⟨⟨⟨⟨⟨h1,h2⟩,h3⟩,h4⟩,h5⟩,h6⟩:=h;have g:=a70 (b50 h4) (ih x h5);refine c60 rfl ?_;have one:∀ t:Ty,t≠.seq->(opt (shN ty) λq=>q.1.1 == Á2 (tyN t)&&glob sc (Á2 (tyN t)))=true->b10 X G E (.isi t a) (.Call (.Name n q) [e,ty] [] p):=λt hs h6=>by
   obtain⟨⟨⟨a,_⟩,rfl⟩,-,h6⟩:=a60 h6;simp only[Á,beq_iff_eq] at h6;obtain⟨rfl,k1⟩:=h6;exact r32 x hs k1 h1 h2 h3 g
  cases t with
  |seq =>
   obtain⟨⟨⟨a,_,b,_,_,_⟩,rfl⟩,-,h6⟩:=a60 h6;simp only[Á,beq_iff_eq] at h6;obtain⟨⟨⟨rfl,rfl⟩,k1⟩,k2⟩:=h6;exact r42 x k1 k2 h1 h2 h3 g
  |_=>exact one _ (λh=>by cases h) h6
 |idx a i iha ihi =>
  intro lm G X E N sc x es h;obtain⟨⟨q,rfl⟩,-,h⟩:=a60 h;simp only[Á] at h;obtain⟨⟨⟨⟨h1,h2⟩,h3⟩,h4⟩,h5⟩:=h;exact c60 rfl (H32 h1 (a70 (b50 h2) (iha x h4)) (a70 (b50 h3) (ihi x h5)))
 |sl a lo hi iha ihl ihh =>
  intro lm G X E N sc x es h;obtain⟨⟨q,rfl⟩,-,h⟩:=a60 h;simp only[Á] at h;obtain⟨⟨⟨⟨⟨h1,h2⟩,h3⟩,h4⟩,h5⟩,h6⟩:=h;exact c60 rfl (U22 (a70 (b50 h1) (iha x h4)) h2 h3 (ihl x h5) (ihh x h6))
 |rev a ih =>
  intro lm G X E N sc x es h;obtain⟨⟨q,rfl⟩,-,h⟩:=a60 h;simp only[Á] at h;exact c60 rfl (H62 (a70 (b50 h.1) (ih x h.2)))
 |call f as ih =>
  intro lm G X E N sc x es h;obtain⟨⟨⟨n,q,e,l,p⟩,rfl⟩,-,h⟩:=a60 h;simp only[Á] at h;obtain⟨⟨⟨h1,h2⟩,h3⟩,h4⟩:=h;obtain⟨pr,hf,h1'⟩:=a60 h1;simp only[Á,beq_iff_eq] at h1';obtain⟨rfl,h7⟩:=h1';exact c60 rfl (s_call x hf h7 h2 h3 (ih x h4))
 |comp own capt p it src cond el ihs ihc ihe =>
  intro lm G X E N sc x es h;obtain⟨⟨q,rfl⟩,-,h⟩:=a60 h;exact c60 rfl ((S90 ihs ihc ihe x h).good x.calm)
 |lrng b as ih =>
  intro lm G X E N sc x es h;obtain⟨⟨⟨n,p,m,q,a,r,t⟩,rfl⟩,-,h⟩:=a60 h;simp only[Á,beq_iff_eq] at h;obtain⟨⟨⟨⟨⟨⟨h1,h2⟩,h3⟩,h4⟩,h5⟩,h7⟩,h6⟩:=h;subst h1;subst h2;cases a with
  |nil=>simp at h7|cons a l=>exact c60 rfl (r72 x h3 h4 h5 (ih x h6))
 |zget i k =>
  intro lm G X E N sc x es h;obtain⟨⟨⟨n,p,j,c,q,r⟩,rfl⟩,-,h⟩:=a60 h;simp only[Á,beq_iff_eq] at h;obtain⟨⟨h1,h2⟩,h3⟩:=h;have h3:j=(k:Int):=h3;subst h3;exact c60 rfl (r52 x h1 h2)
theorem sound(G:Gs)(t:Ex)(x:XI lm X G E N sc)(h:mt lm G.fns G.nums t sc N es=true):Good X G E t es:=s32 t x h
end
section
variable {lm:Bool}{X:Cx}{G:Gs}{E:XK}{N:List Str}{sc:í}
structure s42(G:Gs)(N:List Str)(sc:Scope)(capt:List Nat)(a:Ex)(lsc:Scope)(body:Expr):Prop where
 hc:(b60 N capt).length=capt.length
 hs:u91 lsc sc (b60 N capt)=true
 hL:isL a=false
 ih:∀ (k:Nat) {X:Cx}{E:XK},XI false X (lowG G k) E ((b60 N capt).map (·.1)) lsc->Good X (lowG G k) E a [body]
def l51(X:Cx)(G:Gs)(N:List Str)(sc:í)(q:Str)(H:Hp)(t:LT)(p:List Nat × Ex):Prop:=J11 X q H t/\t.N=(b60 N p.1).map (·.1)/\s42 G N sc p.1 p.2 t.lsc t.body
theorem x51(h:o40 F ρ ((capt,a)::r) z=some (cs,z1)):∃ ss c zm cs',K31 ρ capt=some ss/\ev (z50 F) a (ss.map some) z=some (.er c zm)/\c < 12/\o40 F ρ r zm=some (cs',z1)/\cs=c::cs':=by
 unfold o40 at h;split at h
 ·cases h
 ·rename_i ss hss;split at h
  ·rename_i c zm he;split at h
   ·rename_i hc;obtain⟨⟨cs',z'⟩,h1,h2⟩:=É.mp h;cases h2;exact⟨ss,c,zm,cs',hss,he,hc,h1,rfl⟩
   ·cases h
  ·cases h
theorem H92{α:Type}{l:List α}{a:α}:(l++[a]).length=l.length + 1:=by rw[À5];rfl
theorem Á8.get{α β:Type}{R:α->β->Prop}:∀ {xs:List α}{ys:List β},Á8 R xs ys->∀ {i:Nat}{x:α}{y:β},xs[i]?=some x->ys[i]?=some y->R x y
 |_,_,.nil,i,x,y,h,_=>by simp at h|_,_,.cons r t,0,x,y,h1,h2=>by simp at h1 h2;subst h1;subst h2;exact r|_,_,.cons r t,i + 1,x,y,h1,h2=>Á8.get t (by simpa using h1) (by simpa using h2)
def tLL(X:Cx)(G:Gs)(N:List Str)(sc:í)(q:Str)(i:Nat)(ls:List (List Nat × Ex)):TE:=λσ H Q=>∃ zA ρ z cs z1 L ts,w20 X.K zA H ρ σ/\d30 zA z H/\o40 G.F ρ ls z=some (cs,z1)/\σ[i]?=some (some (.ref L))/\H L=some (.lst (ts.map λt=>.ref t.f))/\zA≠some L/\Á8 (l51 X G N sc q H) ts ls /\
 ∀ v H',Ext zA H H'->d30 zA z1 H'->RvS X.K zA H H' (.fr (cs.map K41)) v->Q v H'
theorem x61(x:XI lm X G E N sc){c P:Ç}{q:Str}{k:Nat}{fR:Ç}{fdR:Â5}(L:D40 X G sc c P q k fR fdR){i:Nat}{n y:Str}{ls:List (List Nat × Ex)}{csc:í}{p p2 p3 p4 pos ps:Pos}(hi:N[i]?=some y)(ny:b40 y=true)(nn:b40 n=true)(cc:T11 csc sc N [n] [])(hg:glob csc "_law_refused"=true)(hls:ls.length<=1000) :
  PE X (.ListComp (.Call (.Name "_law_refused" p) [.Name n p2] [] pos) [⟨.Name n p3,.Name y p4,[],0⟩] csc ps) (tLL X G N sc q i ls):=by
 unfold b40 at ny nn;simp only[Á,ý] at ny nn;obtain⟨k1,k2,k3⟩:=d60 hg;refine PE.imp (k61 (wi:=k32 X.K (h52 i)) (qual:=q) (k:=k) x.calm (x21 x cc) (I80 (h00 (i:=i) (by rw[x.hN];exact hi) (x.vis y (â hi)) ny.1 ny.2)) L.fn (by rw[← L.lv];exact x.room) (λcl C s H fp=>(M30 x cc cl C s H fp).glb _ k1) L.m L.kp L.bd (λcl C s H fp=>W40 (x:=n) (by simp[d00]) rfl ((M40 x cc cl C s H fp).lc n (by simp)) ((M40 x cc cl C s H fp).fn n (by simp))) (λcl C s H fp=>(M30 x cc cl C s H fp).vis n (by simp)) nn.1 nn.2 k2 (λ_=>rfl)) λσ H Q qq=>?_
 obtain⟨zA,ρ,z,cs,z1,Ld,ts,rel,st,run,eL,hL,zL,pr,po⟩:=qq;refine⟨_,eL,Ld,rfl,⟨_,.of hL⟩,trivial,?_⟩;have nz:∀ {a:Ç}{p:ë->Prop},H a=some (.ext p)->zA≠some a:=λ{a p} h e=>by
  subst e;have:=st.zat;cases z with
  |none=>exact this.elim
  |some pr =>
   have h':H a=some (.lst [.int pr.1,.bl pr.2]):=this;rw[h] at h';cases h'
 have len:=pr.length;refine⟨λj m ys H'=>∃ zj ds cs',m=(ls.drop j).length/\Ext zA H H'/\d30 zA zj H'/\o40 G.F ρ (ls.drop j) zj=some (cs',z1)/\cs=ds++cs'/\HdA X.K (hz zA H') (ds.map K41) ys/\ds.length=j,⟨_,z,[],cs,rfl,.refl,st,run,rfl,.nil,rfl⟩,?_⟩;rintro j m ys H' ⟨zj,ds,cs',rfl,xx,stj,rj,rfl,hd,rfl⟩;have hL':=xx.at hL zL;cases hdr:ls.drop ds.length with
 |nil =>
  rw[hdr] at rj;cases rj;have hle:ls.length<=ds.length:=List.drop_eq_nil_iff.mp hdr;refine .inl ⟨⟨_,.of hL',by rw[È,len];exact hle⟩,λp hp=>?_⟩
  rw[Ë4] at po;exact po _ _ (xx.trans (Ext.of (a30.new _ hp))) (stj.same (a30.new _ hp)) ((l20 stj hd hp).from xx)
 |cons pa r =>
  obtain⟨capt,a⟩:=pa;rw[hdr] at rj;obtain⟨ss,ce,zm,cs2,hss,he,hc12,rj2,rfl⟩:=x51 rj;have hlt:ds.length < ls.length:=by
   rcases Nat.lt_or_ge ds.length ls.length with h | h
   ·exact h
   ·rw[ß8 h] at hdr;cases hdr
  have hls':ls[ds.length]?=some (capt,a):=by
   have:=Ï5 (xs:=ls) (i:=ds.length) (j:=0);rw[hdr] at this;exact this.symm
  have hdr2:ls.drop (ds.length + 1)=r:=by
   have:=Ð9 hlt;rw[hdr] at this;exact(List.cons.inj this).2.symm
  have hlt':ds.length < ts.length:=by rw[len];exact hlt
  obtain⟨lt,tN,lf⟩:=Á8.get pr (Ó hlt') hls';generalize et:ts[ds.length]=t at lt tN lf;have ht:(ts.map λt=>V.ref t.f)[ds.length]?=some (.ref t.f):=by rw[Ø,Ó hlt',et];rfl
  refine .inr ⟨⟨_,_,.of hL',ht⟩,?_,λzs H2=>∃ m',m' < ((capt,a)::r).length/\∃ zj ds2 cs',m'=(ls.drop (ds.length + 1)).length/\Ext zA H H2/\d30 zA zj H2/\o40 G.F ρ (ls.drop (ds.length + 1)) zj=some (cs',z1)/\ds++ce::cs2=ds2++cs'/\HdA X.K (hz zA H2) (ds2.map K41) zs/\ds2.length=ds.length + 1,λ_ _ h=>h,λy H2 hy=>?_⟩
  ·have:=hd.length;rw[È] at this;exact Õ (show ys.length < 1000 by omega) (-0)
  obtain⟨rfl,hy⟩:=hy;cases (û ((hy _ (.of hL')).symm.trans ht));obtain⟨vs,ra,hvl,hvs⟩:=S80 rel hss lf.hc;have la:z12 H2 q t:=⟨xx.at lt.fn (nz lt.fn),xx.at lt.rc (nz lt.rc)⟩;have hsc:=lf.hs;unfold u91 at hsc;simp only[Á,ý,beq_iff_eq,Å2,decide_eq_true_eq] at hsc;obtain⟨⟨⟨⟨⟨⟨s1,s2⟩,s3⟩,s4⟩,s5⟩,s6⟩,s7⟩:=hsc;have hfree:∀ y∈(b60 N capt).map (·.1),t.lsc.names.lookup y=some .free:=λy hy=>by
   obtain⟨pr,h1,rfl⟩:=Ù.mp hy;exact s6 pr h1
  show teL X q k _ σ H [some (.ref t.f)] H2 _;refine⟨t,vs,.ref (G.cls ce),λH3=>Ext zA H2 H3/\d30 zA zm H3,lt,⟨by rw[tN,È];exact hvl,λi y v h1 h2=>by rw[tN] at h1;rw[x.hN];exact hvs i y v h1 h2⟩,rfl,la,λA outer s H3 hr sm=>?_,λs2 th=>?_⟩
  ·have XL:XI false (K90 X.prog X.w X.K X.mg X.base t.N q t.lsc t.f (.ref t.c') t.cl A outer s H3 λc _ H'=>c=.ref (G.cls ce)/\Ext zA H2 H'/\d30 zA zm H') (lowG G k) (λc _ H'=>c=.ref (G.cls ce)/\Ext zA H2 H'/\d30 zA zm H') ((b60 N capt).map (·.1)) t.lsc :=
    { gok:=L.low,num:=x.num,blt:=x.blt,hN:=tN,nd:=s7,vis:=λy hy=>.inr (.inr (hfree y hy)),glb:=λy h=>h,cel:=λy h=>h,calm:=rfl,room:=hr,pas:=Z31,lam:=λh=>nomatch h }
   refine⟨_,(a70 lf.hL (lf.ih k XL)).pe,?_⟩;exact⟨zA,ss.map some,zj,_,f31 (RvA.mono ra (xx.trans (Ext.of sm))),stj.same sm,he,λea H' x3 stt hn=>⟨rfl,(Ext.of sm).trans x3,stt⟩⟩
  ·refine⟨t.f,G.cls ce,ce,_,rfl,th,L.cls ce hc12,λl H3 H4 hRR sm hl=>?_⟩;obtain⟨x3,st3⟩:=hRR;have x4:Ext zA H2 (upd H4 l (.lst [.int ce])):=(x3.trans (Ext.of sm)).trans (Ext.of (a30.new _ hl));have st4:=st3.same sm;refine⟨r.length,Ì3 _,zm,ds++[ce],cs2,by rw[hdr2],xx.trans x4,st4.same (a30.new _ hl),by rw[hdr2];exact rj2,by rw[É7];rfl,?_,H92⟩
   rw[Ä7];exact(hd.same x4.same).append (.cons (l20 st4 (HdA.cons Hd.int HdA.nil) hl).pl .nil)
end
open Classical in
def hw(ow:Nat->Option Ç)(H:Hp):Hp:=λb=>if ∃ i,ow i=some b then none else H b
section
variable {K:Â}{ow:Nat->Option Ç}{H H':Hp}
theorem k60:a30 (hw ow H) H:=λb o e=>by
 unfold hw at e;split at e
 ·cases e
 ·exact e
theorem i60(h:H b=some o)(n:∀ i,ow i≠some b):hw ow H b=some o:=by
 unfold hw;rw[if_neg (λ⟨i,e⟩=>n i e)];exact h
theorem D60(h:hw ow H b=some o):H b=some o/\∀ i,ow i≠some b:=by
 refine⟨k60 b o h,λi e=>?_⟩;unfold hw at h;rw[if_pos ⟨i,e⟩] at h;cases h
theorem c00(e:a30 H H'):a30 (hw ow H) (hw ow H'):=λb o h=>by
 obtain⟨h1,h2⟩:=D60 h;exact i60 (e b o h1) h2
theorem w30:hw (λ_=>none) H=H:=by
 funext b
 unfold hw;rw[if_neg (λ⟨i,e⟩=>by cases e)]
theorem x71(h:SqT K H a xs)(hl:∀ i b,ow i=some b->∃ ys,H b=some (.lst ys)):SqT K (hw ow H) a xs:=by
 rcases h with (h | ⟨o,h⟩) | h
 ·refine .inl (.inl (i60 h λi e=>?_));obtain⟨ys,q⟩:=hl i a e;rw[h] at q;cases q
 ·refine .inl (.inr ⟨o,i60 h λi e=>?_⟩);obtain⟨ys,q⟩:=hl i a e;rw[h] at q;cases q
 ·exact .inr h
mutual
theorem D70(hl:∀ i b,ow i=some b->∃ ys,H b=some (.lst ys)):∀ {d:D}{v:V},bare d=true->Hd K H d v->Hd K (hw ow H) d v
 |.non,_,_,h=>by rw[h.E02];exact Hd.non|.bl _,_,_,h=>by rw[h.bl_];exact Hd.bl|.int _,_,_,h=>by rw[h.i40];exact Hd.int|.str _,_,_,h=>by rw[h.E12];exact Hd.str
 |.tup l,_,b,h=>by
  obtain⟨a,xs,rfl,h1,h2⟩:=h.z20;exact Hd.tup (x71 h1 hl) (z70 hl (by simpa [bare] using b) h2)
 |.lst _,_,b,_=>by cases b
 |.dct,_,b,_=>by cases b
theorem z70(hl:∀ i b,ow i=some b->∃ ys,H b=some (.lst ys)):∀ {ds:List D}{vs:List V},k40 ds=true->HdA K H ds vs->HdA K (hw ow H) ds vs
 |[],_,_,h=>by rw[h.f80];exact .nil
 |d::ds,_,b,h=>by
  obtain⟨x,r,rfl,h1,h2⟩:=h.c80;simp only[k40,Á] at b;exact .cons (D70 hl b.1 h1) (z70 hl b.2 h2)
end
end
def RvW(K:Â)(zA:Option Ç)(ow:Nat->Option Ç)(H:Hp)(i:Nat):S->V->Prop
 |.d x,v=>ow i=none/\Hd K (hw ow (hz zA H)) x v|.fr xs,v=>∃ a ys,ow i=some a/\v=.ref a/\H a=some (.lst ys)/\HdA K (hw ow (hz zA H)) xs ys|.z,v=>ow i=none/\∃ a,zA=some a/\v=.ref a
structure RW(K:PySem.W.Frag)(H0:Hp)(zE zA:Option Addr)(ow:Nat->Option Addr)(H:Hp)(ρ:Env)(σ:L2.St):Prop where
 len:ρ.length=σ.length
 inj:∀ i j a,ow i=some a->ow j=some a->i=j
 zne:∀ i a,ow i=some a->zA≠some a
 own:∀ i a,ow i=some a->∃ xs,ρ[i]?=some (some (.fr xs))
 wor:∀ i s,ρ[i]?=some (some s)->∃ v,σ[i]?=some (some v)/\RvW K zA ow H i s v
 ext:Ext zE H0 H
 zok:zA=zE∨(zE=none/\∀ a,zA=some a->H0 a=none)
 new:∀ i a,ow i=some a->H0 a=none
section
variable {K:Â}{H0 H H':Hp}{zE zA:Option Ç}{ow:Nat->Option Ç}{ρ:Env}{σ:L2.St}
theorem RW.lst(r:RW K H0 zE zA ow H ρ σ):∀ i a,ow i=some a->∃ ys,H a=some (.lst ys):=λi a e=>by
 obtain⟨xs,h⟩:=r.own i a e;obtain⟨v,h1,a',ys,h2,h3,h4,h5⟩:=r.wor i _ h;rw[e] at h2;cases h2;exact⟨ys,h4⟩
theorem RW.T21(r:RW K H0 zE zA ow H ρ σ):∀ i a,ow i=some a->∃ ys,hz zA H a=some (.lst ys):=λi a e=>by
 obtain⟨ys,h⟩:=r.lst i a e;exact⟨ys,d70 h (r.zne i a e)⟩
theorem RvW.pl{i:Nat}{s:S}{v:V}(h:RvW K zA ow H i s v)(hz':∀ a,ow i=some a->zA≠some a):RvP K zA H s v:=by
 cases s with
 |d x=>exact h.2.same k60|z=>exact h.2
 |fr xs =>
  obtain⟨a,ys,h1,rfl,h3,h4⟩:=h;exact Hd.lst (d70 h3 (hz' a h1)) (h4.same k60)
theorem RW.z80(r:RW K H0 zE zA ow H ρ σ):w20 K zA H ρ σ:=λi s e=>by
 obtain⟨v,h1,h2⟩:=r.wor i s e;exact⟨v,h1,h2.pl λa q=>r.zne i a q⟩
theorem RvW.mono{i:Nat}{s:S}{v:V}(h:RvW K zA ow H i s v)(hz':∀ a,ow i=some a->zA≠some a)(x:Ext zA H H'):RvW K zA ow H' i s v:=by
 cases s with
 |d y=>exact⟨h.1,h.2.same (c00 x)⟩|z=>exact h
 |fr xs =>
  obtain⟨a,ys,h1,rfl,h3,h4⟩:=h;exact⟨a,ys,h1,rfl,x.at h3 (hz' a h1),h4.same (c00 x)⟩
theorem T31(zA:Option Ç)(H:Hp):a30 (hz zA H) (hz none H):=λ_ _ h=>d70 (n70 h).1 (λq=>nomatch q) (o50 h)
theorem x81(e:Ext zE H0 H)(zok:zA=zE∨(zE=none/\∀ a,zA=some a->H0 a=none))(x:Ext zA H H'):Ext zE H0 H':=by
 rcases zok with rfl | ⟨rfl,hn⟩
 ·exact e.trans x
 ·refine⟨λb o h=>?_,λb ps h=>let ⟨qs,q⟩:=e.tbl b ps h;x.tbl b qs q⟩;have h1:=e.same b o h;refine d70 (x.at (n70 h1).1 (λq=>?_) (o50 h1)) (λq=>nomatch q) (o50 h1);have h0:=(n70 h).1;rw[hn b q] at h0;cases h0
theorem RW.mono(r:RW K H0 zE zA ow H ρ σ)(x:Ext zA H H'):RW K H0 zE zA ow H' ρ σ :=
 ⟨r.len,r.inj,r.zne,r.own,λi s e=>let ⟨v,h1,h2⟩:=r.wor i s e;⟨v,h1,h2.mono (λa q=>r.zne i a q) x⟩,x81 r.ext r.zok x,r.zok,r.new⟩
theorem RW.young(r:RW K H0 zE zA ow H ρ σ)(h:H a=none)(n:zA≠some a):H0 a=none/\zE≠some a:=by
 have hE:zE≠some a:=λq=>by
  rcases r.zok with rfl | ⟨rfl,_⟩
  ·exact n q
  ·cases q
 exact⟨r.ext.free h hE,hE⟩
theorem RW.out(r:RW K H0 zE zA ow H ρ σ){s:S}{v:V}(hs:s≠.z)(x:Ext zA H H')(h:RvS K zA H H' s v):RvS K zE H0 H' s v:=by
 have sm:a30 (hz zA H') (hz zE H'):=by
  rcases r.zok with rfl | ⟨rfl,_⟩
  ·exact a30.refl _
  ·exact T31 _ _
 cases s with
 |d y=>exact Hd.same sm h|z=>exact absurd rfl hs
 |fr xs =>
  obtain⟨a,ys,rfl,h1,h2,h3,h4⟩:=h;obtain⟨k1,k2⟩:=r.young h1 h2;exact⟨a,ys,rfl,k1,k2,h3,h4.same (B40 λb o _ q=>sm b o q)⟩
theorem RW.U32(r:RW K H0 zE zA ow H ρ σ){i:Nat}{s:S}(hs:s≠.z)(e:ρ[i]?=some (some s)):∃ v,σ[i]?=some (some v)/\RvS K zE H0 H s v:=by
 obtain⟨v,h1,h2⟩:=r.wor i s e;have sm:a30 (hz zA H) (hz zE H):=by
  rcases r.zok with rfl | ⟨rfl,_⟩
  ·exact a30.refl _
  ·exact T31 _ _
 refine⟨v,h1,?_⟩;cases s with
 |d y=>exact Hd.same (a30.trans k60 sm) h2.2|z=>exact absurd rfl hs
 |fr xs =>
  obtain⟨a,ys,k1,rfl,k3,k4⟩:=h2;have n:=r.zne i a k1;have hE:zE≠some a:=λq=>by
   rcases r.zok with rfl | ⟨rfl,_⟩
   ·exact n q
   ·cases q
  refine⟨a,ys,rfl,r.new i a k1,hE,k3,k4.same λb o q=>?_⟩;obtain⟨q1,q2⟩:=D60 q;exact K40 (sm b o q1) λz=>q2 i (by rw[z];exact k1)
theorem RW.Y10(r:RW K H0 zE zA ow H ρ σ):RW K H0 zE zA (λ_=>none) H (Y10 ρ) σ:=by
 refine⟨by unfold Q.Y10;rw[È];exact r.len,λi j a h=>(by cases h),λi a h=>(by cases h),λi a h=>(by cases h),λi s e=>?_,r.ext,r.zok,λi a h=>(by cases h)⟩
 unfold Q.Y10 at e;rw[Ø] at e;obtain⟨o,e1,e2⟩:=É.mp e;cases o with
 |none=>cases e2
 |some s0 =>
  cases e2;obtain⟨v,h1,h2⟩:=r.z80 i s0 e1;refine⟨v,h1,?_⟩;cases s0 with
  |d y=>exact⟨rfl,by rw[w30];exact h2⟩|fr xs=>exact⟨rfl,by rw[w30];exact h2⟩|z=>exact⟨rfl,h2⟩
def ow0(ow:Nat->Option Ç)(i:Nat):Nat->Option Addr:=λj=>if j=i then none else ow j
def ow1(ow:Nat->Option Ç)(i:Nat)(a:Ç):Nat->Option Addr:=λj=>if j=i then some a else ow j
theorem RvW.move{ow':Nat->Option Ç}{j:Nat}{s:S}{v:V}(h:RvW K zA ow H j s v)(e:ow' j=ow j)(sm:a30 (hw ow (hz zA H)) (hw ow' (hz zA H')))(hk:∀ a,ow j=some a->H' a=H a):RvW K zA ow' H' j s v:=by
 cases s with
 |d y=>exact⟨by rw[e];exact h.1,h.2.same sm⟩|z=>exact⟨by rw[e];exact h.1,h.2⟩
 |fr xs =>
  obtain⟨a,ys,h1,rfl,h3,h4⟩:=h;exact⟨a,ys,by rw[e];exact h1,rfl,by rw[hk a h1];exact h3,h4.same sm⟩
theorem getElem?_set'{α:Type}{l:List α}{i j:Nat}{x y:α}(h:(l.set i x)[j]?=some y):(j=i/\y=x/\i < l.length)∨(j≠i/\l[j]?=some y):=by
 by_cases hj:j=i
 ·subst hj;have hlt:j < l.length:=by
   have:=(ß.mp h).1;simpa using this
  rw[ì hlt] at h;cases h;exact .inl ⟨rfl,rfl,hlt⟩
 ·rw[ä (Á6 hj)] at h;exact .inr ⟨hj,h⟩
theorem RW.N42(r:RW K H0 zE zA ow H ρ σ){i:Nat}(h:Hd K (hw ow (hz zA H)) x v):RW K H0 zE zA (ow0 ow i) H (ρ.set i (some (.d x))) (σ.set i (some v)):=by
 have sub:∀ j a,ow0 ow i j=some a->j≠i/\ow j=some a:=λj a e=>by
  unfold ow0 at e;split at e
  ·cases e
  ·rename_i n;exact⟨n,e⟩
 have sm:a30 (hw ow (hz zA H)) (hw (ow0 ow i) (hz zA H)):=λb o e=>by
  obtain⟨e1,e2⟩:=D60 e;exact i60 e1 λj q=>e2 j (sub j b q).2
 refine⟨by rw[Â0,Â0];exact r.len,λj k a h1 h2=>r.inj j k a (sub j a h1).2 (sub k a h2).2,λj a h1=>r.zne j a (sub j a h1).2,λj a h1=>?_,λj s e=>?_,r.ext,r.zok,λj a h1=>r.new j a (sub j a h1).2⟩
 ·obtain⟨n,h2⟩:=sub j a h1;obtain⟨xs,h3⟩:=r.own j a h2;exact⟨xs,by rw[ä (Á6 n)];exact h3⟩
 ·rcases getElem?_set' e with ⟨rfl,e1,hlt⟩ | ⟨n,e1⟩
  ·cases e1;exact⟨v,ì (by rw[← r.len];exact hlt),by unfold ow0;exact if_pos rfl,h.same sm⟩
  ·obtain⟨w,h1,h2⟩:=r.wor j s e1;exact⟨w,by rw[ä (Á6 n)];exact h1,h2.move (by unfold ow0;exact if_neg n) sm λ_ _=>rfl⟩
theorem RW.U42(r:RW K H0 zE zA ow H ρ σ){i:Nat}(h:∃ a,zA=some a/\v=.ref a):RW K H0 zE zA (ow0 ow i) H (ρ.set i (some .z)) (σ.set i (some v)):=by
 have sub:∀ j a,ow0 ow i j=some a->j≠i/\ow j=some a:=λj a e=>by
  unfold ow0 at e;split at e
  ·cases e
  ·rename_i n;exact⟨n,e⟩
 have sm:a30 (hw ow (hz zA H)) (hw (ow0 ow i) (hz zA H)):=λb o e=>by
  obtain⟨e1,e2⟩:=D60 e;exact i60 e1 λj q=>e2 j (sub j b q).2
 refine⟨by rw[Â0,Â0];exact r.len,λj k a h1 h2=>r.inj j k a (sub j a h1).2 (sub k a h2).2,λj a h1=>r.zne j a (sub j a h1).2,λj a h1=>?_,λj s e=>?_,r.ext,r.zok,λj a h1=>r.new j a (sub j a h1).2⟩
 ·obtain⟨n,h2⟩:=sub j a h1;obtain⟨xs,h3⟩:=r.own j a h2;exact⟨xs,by rw[ä (Á6 n)];exact h3⟩
 ·rcases getElem?_set' e with ⟨rfl,e1,hlt⟩ | ⟨n,e1⟩
  ·cases e1;exact⟨v,ì (by rw[← r.len];exact hlt),by unfold ow0;exact if_pos rfl,h⟩
  ·obtain⟨w,h1,h2⟩:=r.wor j s e1;exact⟨w,by rw[ä (Á6 n)];exact h1,h2.move (by unfold ow0;exact if_neg n) sm λ_ _=>rfl⟩
theorem RW.U52(r:RW K H0 zE zA ow H ρ σ){i:Nat}(x:Ext zA H H')(hn:H a=none)(za:zA≠some a)(hl:H' a=some (.lst ys))(h:HdA K (hw (ow1 ow i a) (hz zA H')) xs ys)(hi:i < ρ.length) :
  RW K H0 zE zA (ow1 ow i a) H' (ρ.set i (some (.fr xs))) (σ.set i (some (.ref a))):=by
 have r':=r.mono x;have old:∀ j b,ow j=some b->b≠a:=λj b e q=>by
  obtain⟨zs,h1⟩:=r.lst j b e;rw[q,hn] at h1;cases h1
 have sub:∀ j b,ow1 ow i a j=some b->(j=i/\b=a)∨(j≠i/\ow j=some b):=λj b e=>by
  unfold ow1 at e;split at e
  ·rename_i n;cases e;exact .inl ⟨n,rfl⟩
  ·rename_i n;exact .inr ⟨n,e⟩
 have sm:a30 (hw ow (hz zA H)) (hw (ow1 ow i a) (hz zA H')):=λb o e=>by
  obtain⟨e1,e2⟩:=D60 e;have e3:=(n70 e1).1;have hb:b≠a:=λq=>by rw[q,hn] at e3;cases e3
  refine i60 (x b o e1) λj q=>?_;rcases sub j b q with ⟨_,q⟩ | ⟨_,q⟩
  ·exact hb q
  ·exact e2 j q
 refine⟨by rw[Â0,Â0];exact r.len,λj k b h1 h2=>?_,λj b h1=>?_,λj b h1=>?_,λj s e=>?_,r'.ext,r.zok,λj b h1=>?_⟩
 ·rcases sub j b h1 with ⟨q1,q2⟩ | ⟨q1,q2⟩
  ·rcases sub k b h2 with ⟨p1,p2⟩ | ⟨p1,p2⟩
   ·rw[q1,p1]
   ·exact absurd q2 (old k b p2)
  ·rcases sub k b h2 with ⟨p1,p2⟩ | ⟨p1,p2⟩
   ·exact absurd p2 (old j b q2)
   ·exact r.inj j k b q2 p2
 ·rcases sub j b h1 with ⟨_,q2⟩ | ⟨_,q2⟩
  ·rw[q2];exact za
  ·exact r.zne j b q2
 ·rcases sub j b h1 with ⟨q1,q2⟩ | ⟨q1,q2⟩
  ·rw[q1];exact⟨xs,ì hi⟩
  ·obtain⟨zs,h3⟩:=r.own j b q2;exact⟨zs,by rw[ä (Á6 q1)];exact h3⟩
 ·rcases getElem?_set' e with ⟨rfl,e1,hlt⟩ | ⟨n,e1⟩
  ·cases e1;exact⟨.ref a,ì (by rw[← r.len];exact hlt),a,ys,by unfold ow1;exact if_pos rfl,rfl,hl,h⟩
  ·obtain⟨w,h1,h2⟩:=r.wor j s e1;refine⟨w,by rw[ä (Á6 n)];exact h1,h2.move (by unfold ow1;exact if_neg n) sm λb q=>?_⟩
   obtain⟨zs,k⟩:=r.lst j b q;rw[k];exact x.at k (r.zne j b q)
 ·rcases sub j b h1 with ⟨_,q2⟩ | ⟨_,q2⟩
  ·rw[q2];exact(r.young hn za).1
  ·exact r.new j b q2
theorem RW.upd(r:RW K H0 zE zA ow H ρ σ){i:Nat}(e:ow i=some a)(h:HdA K (hw ow (hz zA H)) xs ys):RW K H0 zE zA ow (upd H a (.lst ys)) (ρ.set i (some (.fr xs))) σ:=by
 have za:=r.zne i a e;have sm:a30 (hw ow (hz zA H)) (hw ow (hz zA (L2.upd H a (.lst ys)))):=λb o q=>by
  obtain⟨e1,e2⟩:=D60 q;obtain⟨e3,e4⟩:=n70 e1;have hb:b≠a:=λz=>e2 i (by rw[z];exact e)
  exact i60 (d70 (by rw[a50 hb];exact e3) e4 (o50 e1)) e2
 obtain⟨xs0,h0⟩:=r.own i a e;have hi:i < ρ.length:=(ß.mp h0).1;obtain⟨v0,s0,a0,ys0,q1,q2,q3,q4⟩:=r.wor i _ h0;rw[e] at q1;cases q1;refine⟨by rw[Â0];exact r.len,r.inj,r.zne,λj b h1=>?_,λj s q=>?_,⟨λb o q=>?_,λb ps q=>?_⟩,r.zok,r.new⟩
 ·by_cases hj:j=i
  ·subst hj;exact⟨xs,ì hi⟩
  ·obtain⟨zs,h3⟩:=r.own j b h1;exact⟨zs,by rw[ä (Á6 hj)];exact h3⟩
 ·rcases getElem?_set' q with ⟨rfl,e1,hlt⟩ | ⟨n,e1⟩
  ·cases e1;exact⟨v0,s0,a,ys,e,q2,b00,h.same sm⟩
  ·obtain⟨w,h1,h2⟩:=r.wor j s e1;refine⟨w,h1,h2.move rfl sm λb q=>?_⟩;have hb:b≠a:=λz=>n (r.inj j i b q (by rw[z];exact e))
   exact a50 hb
 ·obtain⟨e1,e2⟩:=n70 (r.ext b o q);have hb:b≠a:=λz=>by
   have:=(n70 q).1;rw[z,r.new i a e] at this;cases this
  exact d70 (by rw[a50 hb];exact e1) e2 (o50 q)
 ·obtain⟨qs,e1⟩:=r.ext.tbl b ps q;have hb:b≠a:=λz=>by rw[z,q3] at e1;cases e1
  exact⟨qs,by rw[a50 hb];exact e1⟩
end
end Q
namespace Q
open PySem L2 PySem.Spec PyProof.Rows
variable [TB:Tb]
def z52:Option Ç->Z->Z
 |none,_=>none|some _,z=>z
def k70(K:Â)(G:Gs)(E:XK)(H0:Hp)(zE:Option Ç)(B:Hp)(D:Ends):R O->Prop
 |.ok (.nx ρ) z=>∀ zA ow σ H,RW K H0 zE zA ow H ρ σ->d30 zA z H->a30 B (hw ow (hz zA H))->D.nx σ H|.ok (.rt s) z=>∀ v H,s≠.z->Ext zE H0 H->d30 zE (z52 zE z) H->RvS K zE H0 H s v->D.rt v H|.er c z=>∀ e H,Ext zE H0 H->d30 zE (z52 zE z) H->H e=none->E (.ref (G.cls c)) (some e) H
def tX(K:Â)(G:Gs)(E:XK)(H0:Hp)(zE:Option Ç)(x:Sm):TS:=λD σ H=>∃ zA ow ρ z r,RW K H0 zE zA ow H ρ σ/\d30 zA z H/\ex G.F zE.isNone x ρ z=some r/\k70 K G E H0 zE (hw ow (hz zA H)) D r
section
variable {K:Â}{G:Gs}{E:XK}{H0 H H':Hp}{zE zA:Option Ç}{ow:Nat->Option Ç}{ρ:Env}{σ:L2.St}{Dn:Ends}{z:Z}
theorem i02(zok:zA=zE∨(zE=none/\∀ a,zA=some a->H0 a=none))(st:d30 zA z H):d30 zE (z52 zE z) H:=by
 cases zE with
 |none=>exact⟨trivial,st.tab⟩
 |some a =>
  rcases zok with rfl | ⟨h,_⟩
  ·exact st
  ·cases h
theorem k70.er_(po:k70 K G E H0 zE B Dn (.er c z))(r:RW K H0 zE zA ow H ρ σ):EPost G zA E c z H:=λe H' x st n=>po e H' (x81 r.ext r.zok x) (i02 r.zok st) n
theorem k70.ers(po:k70 K G E H0 zE B Dn rr)(r:RW K H0 zE zA ow H ρ σ):∀ c z1,rr=.er c z1->EPost G zA E c z1 H:=λc z1 e=>by subst e;exact po.er_ r
theorem k70.mono(po:k70 K G E H0 zE B Dn rr)(h:a30 B B'):k70 K G E H0 zE B' Dn rr:=by
 match rr,po with
 |.ok (.nx _) _,po=>exact λzA ow σ H r st sm=>po zA ow σ H r st (a30.trans h sm)|.ok (.rt _) _,po=>exact po|.er _ _,po=>exact po
theorem m20(ow:Nat->Option Ç)(i:Nat):a30 (hw ow H) (hw (ow0 ow i) H):=λb o e=>by
 obtain⟨e1,e2⟩:=D60 e;refine i60 e1 λj q=>?_;unfold ow0 at q;split at q
 ·cases q
 ·exact e2 j q
theorem D80(ow:Nat->Option Ç):a30 (hw ow H) (hw (λ_=>none) H):=λb o e=>i60 (D60 e).1 λj q=>nomatch q
theorem M21(x:Ext zA H H')(hn:H a=none)(i:Nat):a30 (hw ow (hz zA H)) (hw (ow1 ow i a) (hz zA H')):=λb o e=>by
 obtain⟨e1,e2⟩:=D60 e;have e3:=(n70 e1).1;have hb:b≠a:=λq=>by rw[q,hn] at e3;cases e3
 refine i60 (x b o e1) λj q=>?_;unfold ow1 at q;split at q
 ·cases q;exact hb rfl
 ·exact e2 j q
theorem D90(e:ow i=some a):a30 (hw ow (hz zA H)) (hw ow (hz zA (upd H a o))):=λb u q=>by
 obtain⟨e1,e2⟩:=D60 q;obtain⟨e3,e4⟩:=n70 e1;have hb:b≠a:=λw=>e2 i (by rw[w];exact e)
 exact i60 (d70 (by rw[a50 hb];exact e3) e4 (o50 e1)) e2
mutual
theorem M31:∀ {p:Pat}{d:D}{ρ ρ':Env},f40 p d ρ=some ρ'->∀ {ow:Nat->Option Ç}{σ:L2.St}{v:V}{R:L2.St->Hp->Prop},RW K H0 zE zA ow H ρ σ->Hd K (hw ow (hz zA H)) d v ->
  (∀ ow' σ',RW K H0 zE zA ow' H ρ' σ'->a30 (hw ow (hz zA H)) (hw ow' (hz zA H))->R σ' H)->gP K p v σ H R
 |.v i,d,ρ,ρ',e,ow,σ,v,R,r,hd,k=>by
  unfold f40 at e;cases e;unfold gP;exact k _ _ (r.N42 hd) (m20 ow i)
 |.tup ps,d,ρ,ρ',e,ow,σ,v,R,r,hd,k=>by
  unfold f40 at e;cases d with
  |tup l =>
   obtain⟨a,xs,rfl,h1,h2⟩:=hd.z20;unfold gP;exact⟨a,xs,rfl,(a20 zA H).sqT (a30.sqT k60 h1),by rw[h2.length];exact D50 e,x91 e r h2 k⟩
  |_=>cases e
 |.nil,_,_,_,e,_,_,_,_,_,_,_=>by unfold f40 at e;cases e
 |.cons _ _,_,_,_,e,_,_,_,_,_,_,_=>by unfold f40 at e;cases e
theorem x91:∀ {r:Pat}{l:List D}{ρ ρ':Env},bindL r l ρ=some ρ'->∀ {ow:Nat->Option Ç}{σ:L2.St}{vs:List V}{R:L2.St->Hp->Prop},RW K H0 zE zA ow H ρ σ->HdA K (hw ow (hz zA H)) l vs ->
  (∀ ow' σ',RW K H0 zE zA ow' H ρ' σ'->a30 (hw ow (hz zA H)) (hw ow' (hz zA H))->R σ' H)->gL K r vs σ H R
 |.nil,l,ρ,ρ',e,ow,σ,vs,R,r,hd,k=>by
  unfold bindL at e;cases l with
  |nil =>
   cases e;unfold gL;exact⟨hd.f80,k ow σ r (a30.refl _)⟩
  |cons x l=>cases e
 |.cons p q,l,ρ,ρ',e,ow,σ,vs,R,r,hd,k=>by
  unfold bindL at e;cases l with
  |nil=>cases e
  |cons x l =>
   obtain⟨ρ1,e1,e2⟩:=Í.mp e;obtain⟨v,ws,rfl,h1,h2⟩:=hd.c80;unfold gL;exact⟨v,ws,rfl,M31 e1 r h1 λow' σ' r' sm=>x91 e2 r' (h2.same sm) λow2 σ2 r2 sm2=>k ow2 σ2 r2 (a30.trans sm sm2)⟩
 |.v _,_,_,_,e,_,_,_,_,_,_,_=>by unfold bindL at e;cases e
 |.tup _,_,_,_,e,_,_,_,_,_,_,_=>by unfold bindL at e;cases e
end
theorem y01(r:RW K H0 zE zA ow H ρ σ)(s:S):∃ ow',RW K H0 zE zA ow' H (i30 s ρ) σ/\a30 (hw ow (hz zA H)) (hw ow' (hz zA H))/\(C70 s=true∨∀ i,ow' i=none):=by
 unfold i30;rw[R40];cases hb:C70 s with
 |true=>exact⟨ow,r,a30.refl _,.inl rfl⟩|false=>exact⟨_,r.Y10,D80 ow,.inr λ_=>rfl⟩
theorem M41{p:Pat}{s:S}{v:V}{ρ':Env}{R:L2.St->Hp->Prop}(r:RW K H0 zE zA ow H ρ σ)(x:Ext zA H H')(rv:RvS K zA H H' s v)(e:C80 p s (i30 s ρ)=some ρ')
  (k:∀ ow' σ',RW K H0 zE zA ow' H' ρ' σ'->a30 (hw ow (hz zA H)) (hw ow' (hz zA H'))->R σ' H'):gP K p v σ H' R:=by
 obtain⟨owk,r1,s1,b1⟩:=y01 r s;have r2:=r1.mono x;have s2:a30 (hw ow (hz zA H)) (hw owk (hz zA H')):=a30.trans s1 (c00 x);cases s with
 |d y =>
  have e':f40 p y (i30 (.d y) ρ)=some ρ':=by cases p <;> exact e
  refine M31 e' r2 ?_ λow' σ' r3 s3=>k ow' σ' r3 (a30.trans s2 s3);rcases b1 with b1 | b1
  ·exact D70 r2.T21 b1 rv
  ·have:owk=λ_=>none:=funext b1;subst this;rw[w30];exact rv
 |z =>
  cases p with
  |v i =>
   simp only[C80] at e;split at e
   ·cases e;unfold gP;exact k _ _ (r2.U42 rv) (a30.trans s2 (m20 owk i))
   ·cases e
  |_=>cases e
 |fr xs =>
  cases p with
  |v i =>
   simp only[C80] at e;split at e
   ·rename_i hi;cases e;unfold gP;obtain⟨a,ys,rfl,h1,h2,h3,h4⟩:=rv;refine k _ _ (r1.U52 x h1 h2 h3 ?_ hi) (a30.trans s1 (M21 x h1 i));rcases b1 with b1 | b1
    ·refine z70 (λj b q=>?_) b1 (h4.same (f30 a _));unfold ow1 at q;split at q
     ·cases q;exact⟨ys,d70 h3 h2⟩
     ·exact r2.T21 j b q
    ·refine h4.same λb o q=>?_;have hb:b≠a:=λw=>by subst w;unfold hide at q;rw[if_pos rfl] at q;cases q
     refine i60 (f30 a _ b o q) λj w=>?_;unfold ow1 at w;split at w
     ·cases w;exact hb rfl
     ·rw[b1 j] at w;cases w
   ·cases e
  |_=>cases e
end
end Q
namespace Q
open PySem L2 PySem.Spec PyProof.Rows
variable [TB:Tb]
theorem d72(h:l30 v=false):Ä6 [tg] v env=pure none:=by
 cases tg <;> first | rfl | (cases v <;> first | (cases h;done) | rfl)
theorem d82(h:vs.all (Û0 8)=true):Ä6 [.Tuple ts k p] (.Tuple vs k' p') env=pure none:=by
 unfold Ä6;simp only[h,if_true];split
 ·rfl
 ·split
  ·rfl
  ·split
   ·rfl
   ·rfl
def y11(look:Str->Option Ë7):Ð->Bool
 |.Name id _=>look id != some .local|_=>true
theorem d92(h:ts.any (y11 env.kindOf)=true):Ä6 [.Tuple ts k p] (.Tuple vs k' p') env=pure none:=by
 have hl:∀ (l:Nat) (ts:List Ð),ts.any (y11 env.kindOf)=true->(ts.filterMap fun
   |.Name id pos=>if env.kindOf id == some .local&&pos.line == l then some id else none
   |_=>none).length < ts.length:=by
  intro l ts
  induction ts with
  |nil=>intro h;cases h
  |cons e r ih =>
   intro h;have le:=List.length_filterMap_le (fun
    |.Name id pos=>if env.kindOf id == some .local&&pos.line == l then some id else none
    |_=>none:Ð->Option Str) r
   rw[List.any_cons,Å5] at h;rw[Á5];split
   ·rw[Û];omega
   ·rename_i b hb;rcases h with h | h
    ·exfalso;cases e with
     |Name id pos =>
      have h':(env.kindOf id != some .local)=true:=h;simp only[bne_iff_ne,ne_eq] at h';simp[h'] at hb
     |_=>cases hb
    ·have:=ih h;rw[Û,Û];omega
 unfold Ä6;dsimp only;split
 ·rfl
 ·split
  ·rfl
  ·have:=hl ((ts.head?.map (·.pos.line)).getD 0) ts h;rw[if_pos];simp only[Å5,bne_iff_ne,ne_eq];exact .inl (Ü this)
theorem s52{x y:Str}{a b:Ð}{px py pt pt2:Pos}{k k2:Nat}{env:È7}(hb:env.blockKind=.function)(hx:env.kindOf x=some .local)(hy:env.kindOf y=some .local)(hxy:(x == y)=false)(hl:(py.line == px.line)=true)
  (ha:noStar a=true) (hb':noStar b=true) (hf:[a,b].all (Û0 8)=false) (hc:[a,b].all (constantsAlone 8)=false) :
  Ä6 [.Tuple [.Name x px,.Name y py] k pt] (.Tuple [a,b] k2 pt2) env=pure (some [x,y]):=by
 have hbk:(env.blockKind != .function)=false:=by rw[hb];rfl
 have e1:(x == x)=true:=beq_self_eq_true x;have hyx:(y == x)=false:=by
  cases h:y == x with
  |false=>rfl|true=>rw[beq_iff_eq] at h;subst h;rw[e1] at hxy;cases hxy
 have hl2:(Ð.Name x px).pos.line=px.line:=rfl;have hl3:(Ð.Name y py).pos.line=py.line:=rfl;have hl':py.line=px.line:=by simpa using hl
 unfold Ä6;simp only[List.filterMap,List.head?,Ì6,Option.getD,hx,hy,hf,hc,hbk,hl2,hl'];simp[List.eraseDups,List.eraseDupsBy,List.eraseDupsBy.loop,hyx,hxy];intro h;rcases h with h | h
 ·cases a <;> first | (cases h;done) | (cases ha;done)
 ·cases b <;> first | (cases h;done) | (cases hb';done)
def T00:Ð->Bool
 |.ListComp ..=>false|.SetComp ..=>false|.DictComp ..=>false|_=>true
theorem m30(h:T00 v=true)(t:Option Ð):Í9 v t n env=pure false:=by
 cases v <;> first | rfl | (cases h;done)
theorem E00(h:(match tg with | .Name ..=>true | _=>false)=false):Í9 v (some tg) n env=pure false:=by
 cases v <;> first | rfl | (cases tg <;> first | rfl | (cases h;done))
theorem M51{el:Ð}{gs:List Comprehension}{sc:í}{p px:Pos}{t:Str}{n:Nat}{env:È7}:∃ b,Í9 (.ListComp el gs sc p) (some (.Name t px)) n env=pure b:=⟨_,rfl⟩
structure XS(lm:Bool)(X:Cx)(G:Gs)(E:XK)(N:List Str)(sc:Scope)(cn:List Str):Prop extends XI lm X G E N sc where
 sco:X.env.scope=sc
 fnk:sc.kind=.function
 own:PassesOwn (model X.prog X.w) X.A X.env X.xe
 can:K80 X E
 fnx:∀ x,X.fn x=true
 cls:∀ c x,cn[c]?=some x->X.mg x=some (.ref (G.cls c))/\PySem.W.excIn X.K (G.cls c) [.type "ValueError",.type "Exception",.type "BaseException",.type "object"] "ValueError.__new__"=true
def G30(sc:í)(x:Str):Bool:=sc.names.lookup x == some .local || sc.names.lookup x == some .cell
section
variable {lm:Bool}{X:Cx}{G:Gs}{E:XK}{N:List Str}{sc:í}{cn:List Str}{H0:Hp}{zE:Option Ç}
theorem XS.loc(x:XS lm X G E N sc cn):L71 X N (G30 sc):=by
 refine⟨x.hN,x.nd,λy h=>?_,λy _=>.inl (x.fnx y),x.calm⟩;unfold G30 at h;rw[Å5,beq_iff_eq,beq_iff_eq] at h;rw[x.sco];exact h
theorem XS.bk(x:XS lm X G E N sc cn):X.env.blockKind=.function:=by
 unfold Env.blockKind;rw[x.sco,x.fnk];rfl
theorem PS.imp{st:Â3}{t t':TS}(h:PS X st t)(i:∀ D σ H,t' D σ H->t D σ H):PS X st t':=λpins s σ H D I q=>h pins s σ H D I (i _ _ _ q)
theorem PSs.imp{st:List Â3}{t t':TS}(h:PSs X st t)(i:∀ D σ H,t' D σ H->t D σ H):PSs X st t':=λpins s σ H D I q=>h pins s σ H D I (i _ _ _ q)
theorem I02:PSs X [] (tX X.K G E H0 zE .nil):=PSs.imp I50 λD σ H q=>by
 obtain⟨zA,ow,ρ,z,r,rw,st,e,po⟩:=q;cases e;exact po zA ow σ H rw st (a30.refl _)
theorem I12{s r:Sm}{st:Â3}{rest:List Â3}(h1:PS X st (tX X.K G E H0 zE s))(h2:PSs X rest (tX X.K G E H0 zE r)):PSs X (st::rest) (tX X.K G E H0 zE (.seq s r)):=PSs.imp (e30 h1 h2) λD σ H q=>by
 obtain⟨zA,ow,ρ,z,rr,rw,st,e,po⟩:=q;have e0:M.bind (ex G.F zE.isNone s ρ) (λo=>match o with | .nx ρ=>ex G.F zE.isNone r ρ | .rt s=>M.ret (.rt s)) z=some rr:=e
 rcases M.bind_some e0 with ⟨o,z1,e1,e2⟩ | ⟨c,z1,e1,e2⟩
 ·refine⟨zA,ow,ρ,z,_,rw,st,e1,?_⟩;cases o with
  |nx ρ1=>exact λzA' ow' σ' H' rw' st' sm=>⟨zA',ow',ρ1,z1,rr,rw',st',e2,po.mono sm⟩|rt s=>cases e2;exact po
 ·subst e2;exact⟨zA,ow,ρ,z,_,rw,st,e1,po⟩
theorem T41{p:Pat}{e:Ex}{D:Ends}{σ:L2.St}{H:Hp}(q:tX X.K G E H0 zE (.set p e) D σ H):j92 (tI X.K G E e) (gP X.K p) D σ H:=by
 obtain⟨zA,ow,ρ,z,rr,rw,st,ee,po⟩:=q;refine g80 rw.z80 st ee (po.ers rw) λl z1 e1=>?_;obtain⟨s,hs,e2⟩:=M.a10 e1;refine⟨s,D30 hs,λv H1 x1 st1 rv=>?_⟩;obtain⟨ρ',hb,e3⟩:=M.a10 e2;cases e3;exact M41 rw x1 rv hb λow' σ' r' sm=>po zA ow' σ' H1 r' st1 sm
theorem U62{K:Â}{i:Nat}:gP K (.v i)=I70 i:=by unfold gP;rfl
theorem I22(x:XS lm X G E N sc cn){i:Nat}{e:Ex}{y:Str}{v:Ð}{px pos:Pos}(hi:N[i]?=some y)(hl:G30 sc y=true)(g:b10 X G E e v)
  (hc:∀ elt gs csc q,v=.ListComp elt gs csc q->∃ tg Ä0 ifs,gs=[⟨tg,Ä0,ifs,0⟩]/\H30 X G E e elt tg Ä0 ifs csc) (hno:∀ a b c d,v≠.SetComp a b c d) (hnd:∀ a b c d f,v≠.DictComp a b c d f) :
  PS X (.Assign [.Name y px] v pos) (tX X.K G E H0 zE (.set (.v i) e)):=by
 have L:=x.loc;refine PS.imp (t:=j92 (tI X.K G E e) (I70 i)) ?_ λD σ H q=>by rw[← U62 (K:=X.K)];exact T41 q
 have h1:X.N.Nodup:=by rw[x.hN];exact x.nd
 have h2:X.N[i]?=some y:=by rw[x.hN];exact hi
 by_cases hv:∃ elt gs csc q,v=.ListComp elt gs csc q
 ·obtain⟨elt,gs,csc,q,rfl⟩:=hv;obtain⟨b,hb⟩:=M51 (el:=elt) (gs:=gs) (sc:=csc) (p:=q) (px:=px) (t:=y) (n:=pos.line) (env:=X.env);cases b with
  |false=>exact r00 h1 h2 (L.lc y hl) g.pe hb (L.fn y hl)
  |true =>
   obtain⟨tg,Ä0,ifs,rfl,own,capt,wi,gg,tt,te,k1,k2,k3,k4,k5,k6,k7⟩:=hc elt gs csc q rfl;refine PS.imp (X31 h1 h2 (L.lc y hl) hb x.calm k1 k2 k3 k4 k5 k6 (L.fn y hl)) λD σ H q=>k7 _ _ _ q
 ·exact r00 h1 h2 (L.lc y hl) g.pe (m30 (by cases v <;> first | rfl | exact absurd rfl (hno _ _ _ _) | exact absurd rfl (hnd _ _ _ _ _) | exact absurd ⟨_,_,_,_,rfl⟩ hv) _) (L.fn y hl)
theorem y21(x:XS lm X G E N sc cn){p:Pat}{e:Ex}{tg v:Ð}{pos:Pos}(hp:j70 N (G30 sc) p tg=true)(g:b10 X G E e v)(ht:l30 tg=true)(hv:Ä6 [tg] v X.env=pure none) :
  PS X (.Assign [tg] v pos) (tX X.K G E H0 zE (.set p e)):=by
 refine PS.imp (n91 g.pe (w01 x.loc hp) ?_ hv ?_) λD σ H q=>T41 q
 ·exact E00 (by cases tg <;> first | rfl | (cases ht;done))
 ·cases tg <;> first | rfl | (cases ht;done)
theorem I32(x:XS lm X G E N sc cn){i j:Nat}{ea eb:Ex}{a b:Ð}{y w:Str}{px py pt pt2 pos:Pos}{k k2:Nat}(hi:N[i]?=some y)(hj:N[j]?=some w)(hyw:(y == w)=false)(hy:sc.names.lookup y=some .local)(hw':sc.names.lookup w=some .local)
  (g:Good X G E (.cons ea (.cons eb .nil)) [a,b]) (hs:Ä6 [.Tuple [.Name y px,.Name w py] k pt] (.Tuple [a,b] k2 pt2) X.env=pure (some [y,w])) :
  PS X (.Assign [.Tuple [.Name y px,.Name w py] k pt] (.Tuple [a,b] k2 pt2) pos) (tX X.K G E H0 zE (.set (.tup (.cons (.v i) (.cons (.v j) .nil))) (.tup (.cons ea (.cons eb .nil))))):=by
 have hij:i≠j:=λh=>by
  subst h;rw[hi] at hj;cases hj;rw[beq_self_eq_true] at hyw;cases hyw
 refine PS.imp (k02 x.calm (by rw[x.hN];exact x.nd) (by rw[x.hN];exact hi) (by rw[x.hN];exact hj) hij (by rw[x.sco];exact hy) (by rw[x.sco];exact hw') (g.args rfl).1 hs rfl) λD σ H q=>?_
 obtain⟨zA,ow,ρ,z,rr,rw,st,ee,po⟩:=q;have e0:M.bind (M.bind (ev G.F (.cons ea (.cons eb .nil)) ρ) λl=>M.bind (M.of (plA l)) λds=>if ds.length<=most then M.ret [S.d (.tup ds)] else M.no) (λl=>M.bind (M.of (one l)) λs=>M.bind (M.of (C80 (.tup (.cons (.v i) (.cons (.v j) .nil))) s (i30 s ρ))) λρ=>M.ret (O.nx ρ)) z=some rr:=ee;rcases M.bind_some e0 with ⟨l0,z0,e1,e2⟩ | ⟨c,z1,e1,e2⟩
 ·rcases M.bind_some e1 with ⟨l,z1,e3,e4⟩ | ⟨c,z1,e3,e4⟩
  ·obtain⟨ds,hds,e5⟩:=M.a10 e4;split at e5
   ·cases e5;obtain⟨s,hs',e6⟩:=M.a10 e2;cases hs';obtain⟨ρ',hb,e7⟩:=M.a10 e6;cases e7;refine⟨zA,ρ,z,_,rw.z80,st,e3,λvs H1 x1 st1 rvs=>?_⟩;have hd:=G20 rvs hds;obtain⟨owk,r1,s1,b1⟩:=y01 rw (.d (.tup ds));have hb':bindL (.cons (.v i) (.cons (.v j) .nil)) ds (i30 (.d (.tup ds)) ρ)=some ρ':=by
     have:f40 (.tup (.cons (.v i) (.cons (.v j) .nil))) (.tup ds) (i30 (.d (.tup ds)) ρ)=some ρ':=hb;unfold f40 at this;exact this
    have r2:=r1.mono x1;have hd2:HdA X.K (hw owk (hz zA H1)) ds vs:=by
     rcases b1 with b1 | b1
     ·exact z70 r2.T21 (by simpa [C70,bare] using b1) hd
     ·have:owk=λ_=>none:=funext b1;subst this;rw[w30];exact hd
    have:=x91 hb' (R:=D.nx) r2 hd2 λow' σ' r' sm=>po zA ow' σ' H1 r' st1 (a30.trans s1 (a30.trans (c00 x1) sm));unfold gL at this;obtain⟨v,vr,rfl,this⟩:=this;unfold gP gL at this;obtain⟨u,ur,rfl,this⟩:=this;unfold gP gL at this;obtain⟨rfl,this⟩:=this;exact⟨v,u,rfl,this⟩
   ·cases e5
  ·cases e4
 ·subst e2;rcases M.bind_some e1 with ⟨l,z2,e3,e4⟩ | ⟨c,z2,e3,e4⟩
  ·obtain⟨ds,hds,e5⟩:=M.a10 e4;split at e5 <;> cases e5
  ·cases e4;exact⟨zA,ρ,z,_,rw.z80,st,e3,po.er_ rw⟩
theorem T51{s t:S}(h:noS s=some t):s=t/\t≠.z:=by
 cases s with
 |z=>cases h
 |d _=>cases h;exact⟨rfl,λh=>nomatch h⟩
 |fr _=>cases h;exact⟨rfl,λh=>nomatch h⟩
theorem s62(x:XS lm X G E N sc cn){i:Nat}{n:Str}{p pos:Pos}(h1:N[i]?=some n)(h2:b40 n=true):PS X (.Return (some (.Name n p)) pos) (tX X.K G E H0 zE (.ret (.var i))):=by
 unfold b40 at h2;simp only[Á,ý] at h2;refine PS.imp (c31 (h00 (i:=i) (by rw[x.hN];exact h1) (x.vis n (â h1)) h2.1 h2.2)) λD σ H q=>?_
 obtain⟨zA,ow,ρ,z,rr,rw,st,ee,po⟩:=q;have e0:(match ρ[i]? with | some (some s)=>M.bind (M.of (noS s)) λs=>M.ret (O.rt s) | _=>M.no) z=some rr:=ee
 cases hs:ρ[i]? with
 |none=>rw[hs] at e0;cases e0
 |some o =>
  cases o with
  |none=>rw[hs] at e0;cases e0
  |some s =>
   rw[hs] at e0;obtain⟨t,ht,e1⟩:=M.a10 e0;cases e1;obtain⟨rfl,nz⟩:=T51 ht;obtain⟨v,k1,k2⟩:=rw.U32 nz hs;exact⟨v,k1,po v H nz rw.ext (i02 rw.zok st) k2⟩
theorem I42{e:Ex}{v:Ð}{pos:Pos}(hv:∀ i,e≠.var i)(g:b10 X G E e v):PS X (.Return (some v) pos) (tX X.K G E H0 zE (.ret e)):=by
 refine PS.imp (c31 g.pe) λD σ H q=>?_;obtain⟨zA,ow,ρ,z,rr,rw,st,ee,po⟩:=q;have e0:M.bind (ev G.F e ρ) (λl=>M.bind (M.of ((one l).bind noS)) λs=>M.ret (O.rt s)) z=some rr:=by
  cases e <;> first | exact ee | exact absurd rfl (hv _)
 refine g80 rw.z80 st e0 (po.ers rw) λl z1 e1=>?_;obtain⟨t,ht,e2⟩:=M.a10 e1;cases e2;obtain⟨s,hs,hn⟩:=Í.mp ht;obtain⟨rfl,nz⟩:=T51 hn;exact⟨s,D30 hs,λv H1 x1 st1 rv=>po v H1 nz (x81 rw.ext rw.zok x1) (i02 rw.zok st1) (rw.out nz x1 rv)⟩
theorem U72{c:Ex}{t u:Sm}{ce:Ð}{a b:List Â3}{pos:Pos}(g:b10 X G E c ce)(hn:∀ t a b p,ce≠.IfExp t a b p)(ha:PSs X a (tX X.K G E H0 zE t))(hb:PSs X b (tX X.K G E H0 zE u)) :
  PS X (.If ce a b pos) (tX X.K G E H0 zE (.iff c t u)):=by
 refine PS.imp (E81 (g.pt hn) ha hb) λD σ H q=>?_;obtain⟨zA,ow,ρ,z,rr,rw,st,ee,po⟩:=q;refine S10 rw.z80 st ee (po.ers rw) λb z1 e1 H1 x1 st1=>?_;have r1:=rw.mono x1;have sm:a30 (hw ow (hz zA H)) (hw ow (hz zA H1)):=c00 x1;cases b with
 |true=>exact⟨zA,ow,ρ,z1,rr,r1,st1,e1,po.mono sm⟩|false=>exact⟨zA,ow,ρ,z1,rr,r1,st1,e1,po.mono sm⟩
theorem I52{e:Ex}{v:Ð}{pos:Pos}(g:b10 X G E e v)(h:T00 v=true):PS X (.Expr v pos) (tX X.K G E H0 zE (.exp e)):=by
 refine PS.imp (I60 g.pe (m30 h none)) λD σ H q=>?_;obtain⟨zA,ow,ρ,z,rr,rw,st,ee,po⟩:=q;have e0:M.bind (ev G.F e ρ) (λl=>M.bind (M.of (one l)) λ_=>M.ret (O.nx ρ)) z=some rr:=ee;refine g80 rw.z80 st e0 (po.ers rw) λl z1 e1=>?_;obtain⟨s,hs,e2⟩:=M.a10 e1;cases e2;exact⟨s,D30 hs,λv H1 x1 st1 rv=>po zA ow σ H1 (rw.mono x1) st1 (c00 x1)⟩
theorem e02(h:asI d=some i):d=.int i:=by cases d <;> first | (cases h;rfl) | (cases h;done)
theorem x_raise(x:XS lm X G E N sc cn){c:Nat}{n:Str}{y:Str}{k:Nat}{p1 p2 p3 p4:Pos}(hc:cn[c]?=some n)(hg:glob sc n=true):PS X (.Raise (some (.Call (.Name n p1) [.Constant (.str y) k p2] [] p3)) none p4) (tX X.K G E H0 zE (.rais c)):=by
 obtain⟨k1,k2,_⟩:=d60 hg;obtain⟨m1,m2⟩:=x.cls c n hc;refine PS.imp (I51 x.can x.calm (x.glb n k1) m1 m2 (d90 P91 n00) k2 rfl rfl) λD σ H q=>?_;obtain⟨zA,ow,ρ,z,rr,rw,st,ee,po⟩:=q;cases ee;exact⟨by show 1<=Ý;decide,λe hn=>po e H rw.ext (i02 rw.zok st) hn⟩
end
section
variable {K:Â}{H0 H H':Hp}{zE zA:Option Ç}{ow:Nat->Option Ç}{ρ:Env}{σ:L2.St}
theorem g90(e:ow0 ow i j=some a):j≠i/\ow j=some a:=by
 unfold ow0 at e;split at e
 ·cases e
 ·rename_i n;exact⟨n,e⟩
theorem z90:ow0 ow i i=none:=if_pos rfl
theorem y31(h:j≠i):ow0 ow i j=ow j:=if_neg h
theorem M61{ρ:Env}{j:Nat}{s:S}(h:(R20 ρ)[j]?=some (some s)):ρ[j]?=some (some s)/\s≠.z:=by
 unfold R20 at h;rw[Ø] at h;obtain⟨o,e1,e2⟩:=É.mp h;cases o with
 |none=>cases e2
 |some t =>
  cases t with
  |z=>cases e2
  |d x=>cases e2;exact⟨e1,λh=>nomatch h⟩
  |fr x=>cases e2;exact⟨e1,λh=>nomatch h⟩
theorem e12{j:Nat}(h:ρ[j]?=some (some (.fr xs))):(R20 ρ)[j]?=some (some (.fr xs)):=by
 unfold R20;rw[Ø,h];rfl
theorem RW.U82(r:RW K H0 none zA ow H ρ σ){i:Nat}(x:Ext zA H H')(hn:H a=none)(za:zA≠some a)(hl:H' a=some (.lst ys)) :
  RW K H0 none (some a) (ow0 ow i) H' ((R20 ρ).set i (some .z)) (σ.set i (some (.ref a)))/\a30 (hw ow (hz zA H)) (hw (ow0 ow i) (hz (some a) H')):=by
 have r':=r.mono x;have old:∀ j b,ow j=some b->b≠a:=λj b e q=>by
  obtain⟨zs,h1⟩:=r.lst j b e;rw[q,hn] at h1;cases h1
 have sm:a30 (hw ow (hz zA H)) (hw (ow0 ow i) (hz (some a) H')):=λb o e=>by
  obtain⟨e1,e2⟩:=D60 e;have hb:b≠a:=λq=>by
   have e3:H b=some o:=(n70 e1).1;rw[q,hn] at e3;cases e3
  exact i60 (d70 (n70 (x b o e1)).1 (λq=>by cases q;exact hb rfl) (o50 e1)) λj q=>e2 j (g90 q).2
 have dl:(R20 ρ).length=ρ.length:=by unfold R20;rw[È]
 refine⟨⟨by rw[Â0,Â0,dl];exact r.len,λj k b h1 h2=>r.inj j k b (g90 h1).2 (g90 h2).2,λj b h1 q=>?_,λj b h1=>?_,λj s e=>?_,r'.ext,.inr ⟨rfl,λb q=>?_⟩,λj b h1=>r.new j b (g90 h1).2⟩,sm⟩
 ·cases q;exact old j _ (g90 h1).2 rfl
 ·obtain⟨n,h2⟩:=g90 h1;obtain⟨xs,h3⟩:=r.own j b h2;exact⟨xs,by rw[ä (Á6 n)];exact e12 h3⟩
 ·rcases getElem?_set' e with ⟨rfl,e1,hlt⟩ | ⟨n,e1⟩
  ·cases e1;exact⟨.ref a,ì (by rw[← r.len,← dl];exact hlt),z90,a,rfl,rfl⟩
  ·obtain⟨e1,nz⟩:=M61 e1;obtain⟨w,h1,h2⟩:=r.wor j s e1;refine⟨w,by rw[ä (Á6 n)];exact h1,?_⟩
   cases s with
   |d y=>exact⟨by rw[y31 n];exact h2.1,h2.2.same sm⟩|z=>exact absurd rfl nz
   |fr xs =>
    obtain⟨b,zs,k1,rfl,k3,k4⟩:=h2;exact⟨b,zs,by rw[y31 n];exact k1,rfl,x.at k3 (r.zne j b k1),k4.same sm⟩
 ·cases q;exact(r.young hn za).1
theorem RW.plain(r:RW K H0 zE zA ow H ρ σ)(i:Nat):RW K H0 zE zA (ow0 ow i) H (ρ.set i ((ρ[i]?.getD none).map plS)) σ:=by
 have sm:=m20 (H:=hz zA H) ow i;refine⟨by rw[Â0];exact r.len,λj k b h1 h2=>r.inj j k b (g90 h1).2 (g90 h2).2,λj b h1=>r.zne j b (g90 h1).2,λj b h1=>?_,λj s e=>?_,r.ext,r.zok,λj b h1=>r.new j b (g90 h1).2⟩
 ·obtain⟨n,h2⟩:=g90 h1;obtain⟨xs,h3⟩:=r.own j b h2;exact⟨xs,by rw[ä (Á6 n)];exact h3⟩
 ·rcases getElem?_set' e with ⟨rfl,e1,hlt⟩ | ⟨n,e1⟩
  ·cases hs:ρ[j]? with
   |none=>rw[hs] at e1;cases e1
   |some o =>
    rw[hs] at e1;cases o with
    |none=>cases e1
    |some s0 =>
     cases e1;obtain⟨w,h1,h2⟩:=r.wor j s0 hs;refine⟨w,h1,?_⟩;cases s0 with
     |d y=>exact⟨z90,h2.2.same sm⟩|z=>exact⟨z90,h2.2⟩
     |fr xs =>
      obtain⟨b,zs,k1,rfl,k3,k4⟩:=h2;refine⟨z90,Hd.lst (i60 (d70 k3 (r.zne j b k1)) λk q=>?_) (k4.same sm)⟩;obtain⟨q1,q2⟩:=g90 q;exact q1 (r.inj k j b q2 k1)
  ·obtain⟨w,h1,h2⟩:=r.wor j s e1;exact⟨w,h1,h2.move (y31 n) sm λ_ _=>rfl⟩
end
theorem HdA.eraseIdx{K:Â}{H:Hp}:∀ {ds:List D}{vs:List V} (n:Nat),HdA K H ds vs->HdA K H (ds.eraseIdx n) (vs.eraseIdx n)
 |[],_,n,h=>by rw[h.f80];exact .nil
 |d::ds,_,0,h=>by
  obtain⟨x,r,rfl,h1,h2⟩:=h.c80;exact h2
 |d::ds,_,n + 1,h=>by
  obtain⟨x,r,rfl,h1,h2⟩:=h.c80;exact .cons h1 (HdA.eraseIdx n h2)
section
variable {lm:Bool}{X:Cx}{G:Gs}{E:XK}{N:List Str}{sc:í}{cn:List Str}{H0:Hp}{zE:Option Ç}
theorem y41{α β:Type}{R:α->β->Prop}{a:α}{vs:List β}(h:Á8 R [a] vs):∃ v,vs=[v]/\R a v:=by
 cases h with
 |cons h1 h2=>cases h2;exact⟨_,rfl,h1⟩
theorem d30.a50(st:d30 zA z H)(n:zA≠some a)(h:H a=some (.lst xs)):d30 zA z (upd H a o):=by
 refine⟨?_,λp hp=>Tab.upd (st.tab p hp) h⟩;have st:=st.zat;cases zA with
 |none=>cases z <;> exact st
 |some b =>
  cases z with
  |none=>exact st
  |some p =>
   have hb:b≠a:=λq=>n (by rw[q])
   exact(L2.a50 hb).trans st
theorem T10(h:ownAt ρ i=some xs):ρ[i]?=some (some (.fr xs)):=by
 unfold ownAt at h;split at h
 ·rename_i h1;cases h;exact h1
 ·cases h
theorem T20{K:Â}{zA:Option Ç}{H0 H:Hp}{s:S}{v:V}{x:D}(h:RvS K zA H0 H s v)(e:plD s=some x):Hd K (hz zA H) x v:=h.pl.d_ e
theorem I62(x:XS lm X G E N sc cn){i:Nat}{n:Str}{e:Ex}{v:Ð}{p apos cpos pos:Pos}(h1:N[i]?=some n)(h2:b40 n=true)(ns:noStar v=true)(g:b10 X G E e v)(hl:(apos.endLine == cpos.line)=true) :
  PS X (.Expr (.Call (.Attribute (.Name n p) "append" apos) [v] [] cpos) pos) (tX X.K G E H0 zE (.app i e)):=by
 unfold b40 at h2;simp only[Á,ý] at h2;have ga:Good X G E (.cons e .nil) [v]:=⟨v,[],rfl,ns,g,rfl,rfl⟩;have hs:=d10 ns [] X.env;refine PS.imp (I60 (F81 Ê4 Ð0 Ï9 A90 (h00 (i:=i) (by rw[x.hN];exact h1) (x.vis n (â h1)) h2.1 h2.2) (ga.args rfl).1 rfl (by rw[hs];rfl) hl hs rfl) (m30 rfl none)) λD σ H q=>?_
 obtain⟨zA,ow,ρ,z,rr,rw,st,ee,po⟩:=q;obtain⟨xs,hx,e1⟩:=M.a10 ee;have ho:=T10 hx;obtain⟨w,k1,a,ys,k2,rfl,k3,k4⟩:=rw.wor i _ ho;refine⟨_,k1,.inl ⟨rfl,ys,SqL.of k3⟩,?_⟩;have e2:M.bind (ev G.F (.cons e .nil) ρ) (λm=>M.bind (M.of (pl m)) λx=>if bare x=true/\xs.length < most then M.ret (O.nx (ρ.set i (some (.fr (xs++[x]))))) else M.no) z=some rr∨∃ c z1,ev G.F e ρ z=some (.er c z1)/\rr=.er c z1:=by
  rcases M.bind_some e1 with ⟨l,z1,e3,e4⟩ | ⟨c,z1,e3,e4⟩
  ·obtain⟨y,hy,e5⟩:=M.a10 e4;obtain⟨s,rfl,hs⟩:=e10 hy;refine .inl ?_;show M.bind (M.bind (ev G.F e ρ) λx=>M.bind (M.of (one x)) λs=>M.bind (ev G.F .nil ρ) λy=>M.ret (s::y)) _ z=some rr;simp only[M.bind,e3,M.of,one,M.ret,ev,hy];exact e5
  ·exact .inr ⟨c,z1,e3,e4⟩
 rcases e2 with e2 | ⟨c,z1,e3,rfl⟩
 ·refine Z10 rw.z80 st e2 (po.ers rw) λl z1 e3 vs H1 x1 st1 rvs=>?_;obtain⟨y,hy,e5⟩:=M.a10 e3;obtain⟨s,rfl,hs⟩:=e10 hy;split at e5
  ·rename_i hb;cases e5;obtain⟨u,rfl,ru⟩:=y41 rvs;have r1:=rw.mono x1;have k3':=x1.at k3 (rw.zne i a k2);have k4':HdA X.K (hw ow (hz zA H1)) xs ys:=k4.same (c00 x1);have hd:=D70 r1.T21 hb.1 (T20 ru hs);refine⟨a,ys,u,rfl,rfl,k3',Õ (by rw[k4.length];exact hb.2) (f50 (Î _)),?_⟩
   refine po zA ow σ _ (r1.upd k2 (k4'.append (.cons hd .nil))) ?_ (a30.trans (c00 x1) (D90 k2));exact st1.a50 (rw.zne i a k2) k3'
  ·cases e5
 ·refine⟨zA,ρ,z,.er c z1,rw.z80,st,?_,po.er_ rw⟩;show M.bind (ev G.F e ρ) _ z=_;simp only[M.bind,e3]
theorem I72(x:XS lm X G E N sc cn){i:Nat}{n:Str}{e ix:Ex}{v w:Ð}{p tp pos:Pos}(h1:N[i]?=some n)(h2:b40 n=true)(g:b10 X G E e v)(gi:b10 X G E ix w)(hw':s10 w=true) :
  PS X (.Assign [.Subscript (.Name n p) w tp] v pos) (tX X.K G E H0 zE (.sti i ix e)):=by
 unfold b40 at h2;simp only[Á,ý] at h2;refine PS.imp (n91 g.pe (Q21 (h00 (i:=i) (by rw[x.hN];exact h1) (x.vis n (â h1)) h2.1 h2.2) gi.pe set_list (by intro u;cases w <;> first | rfl | (cases hw';done))) (show Í9 v (some (.Subscript (.Name n p) w tp)) pos.line X.env=pure false from E00 rfl) (by cases v <;> rfl)) λD σ H q=>?_
 obtain⟨zA,ow,ρ,z,rr,rw,st,ee,po⟩:=q;refine g80 rw.z80 st ee (po.ers rw) λl z1 e1=>?_;obtain⟨y,hy,e2⟩:=M.a10 e1;obtain⟨s,rfl,hs⟩:=e10 hy;refine⟨s,rfl,λu H1 x1 st1 rv=>?_⟩;obtain⟨xs,hx,e3⟩:=M.a10 e2;have ho:=T10 hx;have r1:=rw.mono x1;obtain⟨w',k1,a,ys,k2,rfl,k3,k4⟩:=r1.wor i _ ho;refine⟨_,k1,?_⟩;refine g80 r1.z80 st1 e3 (po.ers r1) λl2 z2 e4=>?_;obtain⟨j,hj,e5⟩:=M.a10 e4;obtain⟨dj,hj1,hj2⟩:=Í.mp hj;obtain⟨s2,rfl,hs2⟩:=e10 hj1;refine⟨s2,rfl,λu2 H2 x2 st2 rv2=>?_⟩;obtain⟨xs2,hx2,e6⟩:=M.a10 e5;split at e6
 ·rename_i hb;cases e6;have hdj:u2=.int j:=by
   have:=T20 rv2 hs2;cases dj <;> first | (cases hj2;exact this.i40) | (cases hj2;done)
  unfold n40 at hx2;obtain⟨m,hm1,rfl⟩:=É.mp hx2;have r2:=r1.mono x2;have k4':HdA X.K (hw ow (hz zA H2)) xs ys:=k4.same (c00 x2);have hd:=D70 r2.T21 hb ((T20 rv hs).same x2);refine⟨a,ys,j,m,rfl,hdj,x2.at k3 (rw.zne i a k2),by rw[k4.length];exact hm1,?_⟩
  refine po zA ow σ _ (r2.upd k2 (k4'.set m hd)) (st2.a50 (rw.zne i a k2) (x2.at k3 (rw.zne i a k2))) (a30.trans (c00 (x1.trans x2)) (D90 k2))
 ·cases e6
theorem M71:L62 X (C22 X.K):=by
 intro pins s σ H x y v u Q I rx ry h;obtain⟨p,xs,i,z,rfl,rfl,hq,he,q⟩:=h;cases rx;obtain⟨t,rfl⟩:=ry;obtain⟨its,r,pl,hz⟩:=I.list hq;obtain⟨j,h1,h2,h3,h4,h5⟩:=W70 he;obtain⟨w,ew,rw'⟩:=r.get h2;have hl:=r.length;have hn:=O80;by_cases h0:0<=i
 ·have hj:i.toNat=j:=by
   rw[Ø3 h0 h5] at h1;exact û h1
  exact wpAny_getItem_list pl.isList h0 ∅ (by rw[hj];simpa using ew) ⟨z,H,I,rw',q⟩
 ·have hj:(i + (its.toArray.size:Int)).toNat=j:=by
   rw[seqIndex_neg ∅ h4] at h1
   rw[Ô,← hl];exact û h1
  exact wpAny_getItem_list_neg pl.isList ∅ (by rw[Ô] <;> omega) ∅ (by rw[hj];simpa using ew) ⟨z,H,I,rw',q⟩
theorem s72(x:XS lm X G E N sc cn){i:Nat}{n:Str}{e ix:Ex}{v w:Ð}{p tp pos:Pos}(h1:N[i]?=some n)(h2:b40 n=true)(g:b10 X G E e v)(gi:b10 X G E ix w)(hw':s10 w=true) :
  PS X (.AugAssign (.Subscript (.Name n p) w tp) .Add v pos) (tX X.K G E H0 zE (.augi i ix e)):=by
 unfold b40 at h2;simp only[Á,ý] at h2;refine PS.imp (V91 (h00 (i:=i) (by rw[x.hN];exact h1) (x.vis n (â h1)) h2.1 h2.2) gi.pe M71 g.pe k12 set_list (by intros;cases w <;> first | rfl | (cases hw';done))) λD σ H q=>?_
 obtain⟨zA,ow,ρ,z,rr,rw,st,ee,po⟩:=q;obtain⟨xs,hx,e1⟩:=M.a10 ee;obtain⟨w',k1,a,ys,k2,rfl,k3,k4⟩:=rw.wor i _ (T10 hx);refine⟨_,k1,?_⟩;refine g80 rw.z80 st e1 (po.ers rw) λl z1 e2=>?_;obtain⟨j,hj,e3⟩:=M.a10 e2;obtain⟨dj,hj1,hj2⟩:=Í.mp hj;obtain⟨s1,rfl,hs1⟩:=e10 hj1;refine⟨s1,rfl,λu1 H1 x1 st1 rv1=>?_⟩;have hdj:u1=.int j:=by
  have:=T20 rv1 hs1;cases e02 hj2;exact this.i40
 obtain⟨y,hy,e4⟩:=M.a10 e3;have r1:=rw.mono x1;have k3':=x1.at k3 (rw.zne i a k2);have k4a:HdA X.K (hw ow (hz zA H1)) xs ys:=k4.same (c00 x1);obtain⟨b,hb1,hb2⟩:=at_of k4a hy;refine⟨a,ys,j,b,rfl,hdj,SqL.of k3',hb1,?_⟩;refine g80 r1.z80 st1 e4 (po.ers r1) λl2 z2 e5=>?_;obtain⟨dx,hx',e6⟩:=M.a10 e5;obtain⟨s2,rfl,hs2⟩:=e10 hx';refine⟨s2,rfl,λu2 H2 x2 st2 rv2=>?_⟩;obtain⟨nv,hv,e7⟩:=M.a10 e6;obtain⟨xi,hxi,hv⟩:=Í.mp hv;obtain⟨yi,hyi,rfl⟩:=É.mp hv;cases e02 hxi;cases e02 hyi;refine⟨yi,xi,hb2.i40,(T20 rv2 hs2).i40,?_⟩;obtain⟨xs2,hx2,e8⟩:=M.a10 e7;cases e8;unfold n40 at hx2;obtain⟨m,hm1,rfl⟩:=É.mp hx2;have r2:=r1.mono x2;have k4':HdA X.K (hw ow (hz zA H2)) xs ys:=k4.same (c00 (x1.trans x2));refine⟨a,ys,j,m,rfl,hdj,x2.at k3' (rw.zne i a k2),by rw[k4.length];exact hm1,?_⟩
 exact po zA ow σ _ (r2.upd k2 (k4'.set m Hd.int)) (st2.a50 (rw.zne i a k2) (x2.at k3' (rw.zne i a k2))) (a30.trans (c00 (x1.trans x2)) (D90 k2))
theorem s82(x:XS lm X G E N sc cn){i f:Nat}{as:Ex}{y:Str}{v:Ð}{px pos:Pos}(hi:N[i]?=some y)(hl:G30 sc y=true)(g:b10 X G E (.call f as) v)(hv:T00 v=true) :
  PS X (.Assign [.Name y px] v pos) (tX X.K G E H0 zE (.newz i f as)):=by
 have L:=x.loc;refine PS.imp (r00 (i:=i) (by rw[x.hN];exact x.nd) (by rw[x.hN];exact hi) (L.lc y hl) g.pe (m30 hv _) (L.fn y hl)) λD σ H q=>?_
 obtain⟨zA,ow,ρ,z,rr,rw,st,ee,po⟩:=q;refine g80 rw.z80 st ee (po.ers rw) λl z1 e1=>?_;have e2:t91 zE.isNone ρ i l=some rr:=e1;unfold t91 at e2;split at e2
 ·split at e2
  ·rename_i m b hz';cases e2;have zn:zE=none:=by
    cases zE with
    |none=>rfl|some _=>cases hz'
   subst zn;refine⟨_,rfl,λu H1 x1 st1 rv=>?_⟩;obtain⟨a,ys,rfl,k1,k2,k3,k4⟩:=rv;obtain⟨v1,v2,rfl,h3,h4⟩:=k4.two;cases h3.i40;cases h4.bl_;obtain⟨r1,sm⟩:=rw.U82 (i:=i) x1 k1 k2 k3;exact po (some a) _ _ H1 r1 ⟨k3,st1.tab⟩ sm
  ·cases e2
 ·cases e2
theorem s92(x:XS lm X G E N sc cn){i:Nat}{n:Str}{e:Ex}{v:Ð}{c:Nat}{p q tp pos:Pos}(h1:N[i]?=some n)(h2:b40 n=true)(g:b10 X G E e v) :
  PS X (.Assign [.Subscript (.Name n p) (.Constant (.int 0) c q) tp] v pos) (tX X.K G E H0 zE (.zset i e)):=by
 unfold b40 at h2;simp only[Á,ý] at h2;refine PS.imp (n91 g.pe (Q21 (h00 (i:=i) (by rw[x.hN];exact h1) (x.vis n (â h1)) h2.1 h2.2) O40 set_list (by intro u;rfl)) (show Í9 v (some (.Subscript (.Name n p) (.Constant (.int 0) c q) tp)) pos.line X.env=pure false from E00 rfl) (by cases v <;> rfl)) λD σ H q=>?_
 obtain⟨zA,ow,ρ,z,rr,rw,st,ee,po⟩:=q;refine g80 rw.z80 st ee (po.ers rw) λl z1 e1=>?_;obtain⟨y,hy,e2⟩:=M.a10 e1;obtain⟨dy,hy1,hy2⟩:=Í.mp hy;obtain⟨s,rfl,hs⟩:=e10 hy1;refine⟨s,rfl,λu H1 x1 st1 rv=>?_⟩;have e3:u01 ρ y ρ[i]? z1=some rr:=e2;unfold u01 at e3;split at e3
 ·rename_i p' hsl;cases e3;have r1:=rw.mono x1;obtain⟨w,k1,k2,a,rfl,rfl⟩:=r1.wor i .z hsl;have hu:u=.int y:=by
   have:=T20 rv hs;cases dy <;> first | (cases hy2;exact this.i40) | (cases hy2;done)
  subst hu;have st':H1 a=some (.lst [.int p'.1,.bl p'.2]):=st1.zat;refine⟨_,k1,a,[.int p'.1,.bl p'.2],0,0,rfl,rfl,st',rfl,?_⟩;have x2:Ext (some a) H1 (upd H1 a (.lst [.int y,.bl p'.2])):=by
   refine⟨λb o h=>?_,λb ps h=>⟨ps,by rw[a50 (λz=>by rw[z,st'] at h;cases h)];exact h⟩⟩
   obtain⟨h3,h4⟩:=n70 h;exact d70 (by rw[a50 (λz=>h4 (by rw[z]))];exact h3) h4 (o50 h)
  exact po (some a) ow σ _ (r1.mono x2) ⟨b00,λp hp=>Tab.upd (st1.tab p hp) st'⟩ (a30.trans (c00 x1.same) (c00 x2.same))
 ·cases e3
theorem I82(x:XS lm X G E N sc cn){c:Ex}{b:Sm}{ce:Ð}{body:List Â3}{pos:Pos}(g:b10 X G E c ce)(hn:∀ t a b p,ce≠.IfExp t a b p)(hb:PSs X body (tX X.K G E H0 zE b)):PS X (.While ce body [] pos) (tX X.K G E H0 zE (.whl c b)):=by
 refine PS.imp (F01 x.own (g.pt hn) hb) λD σ H q=>?_;obtain⟨zA,ow,ρ,z,rr,rw,st,ee,po⟩:=q;refine⟨λm σ H=>∃ zA ow ρ z r,RW X.K H0 zE zA ow H ρ σ/\d30 zA z H/\R81 (ev G.F c) (ex G.F zE.isNone b) m ρ z=some r/\k70 X.K G E H0 zE (hw ow (hz zA H)) D r,⟨h72,zA,ow,ρ,z,rr,rw,st,ee,po⟩,?_⟩;rintro m σ H ⟨zA,ow,ρ,z,rr,rw,st,ee,po⟩;cases m with
 |zero=>cases ee
 |succ m =>
  refine S10 rw.z80 st ee (po.ers rw) λk z1 e1 H1 x1 st1=>?_;have r1:=rw.mono x1;have sm:a30 (hw ow (hz zA H)) (hw ow (hz zA H1)):=c00 x1;cases k with
  |false =>
   cases e1;exact po zA ow σ H1 r1 st1 sm
  |true =>
   rw[if_pos rfl];have e2:M.bind (ex G.F zE.isNone b ρ) (λo=>match o with | .nx ρ=>R81 (ev G.F c) (ex G.F zE.isNone b) m ρ | .rt s=>M.ret (.rt s)) z1=some rr:=e1
   refine⟨λσ' H'=>∃ zA ow ρ z r,RW X.K H0 zE zA ow H' ρ σ'/\d30 zA z H'/\R81 (ev G.F c) (ex G.F zE.isNone b) m ρ z=some r/\k70 X.K G E H0 zE (hw ow (hz zA H')) D r,λσ' H' h=>⟨m,Ì3 m,h⟩,?_⟩;rcases M.bind_some e2 with ⟨o,z2,e3,e4⟩ | ⟨k,z2,e3,e4⟩
   ·refine⟨zA,ow,ρ,z1,_,r1,st1,e3,?_⟩;cases o with
    |nx ρ1=>exact λzA' ow' σ' H' rw' st' sm'=>⟨zA',ow',ρ1,z2,rr,rw',st',e4,po.mono (a30.trans sm sm')⟩|rt s=>cases e4;exact po
   ·subst e4;exact⟨zA,ow,ρ,z1,_,r1,st1,e3,po⟩
theorem e22{i j:Nat}{e:Ex}{D:Ends}{σ:L2.St}{H:Hp}{zA:Option Ç}{ow:Nat->Option Ç}{ρ:Env}{z:Z}{rr:R O}(rw:RW X.K H0 zE zA ow H ρ σ)(st:d30 zA z H)(ee:n92 G.F i j e ρ z=some rr)(po:k70 X.K G E H0 zE (hw ow (hz zA H)) D rr) :
  j52 (tBM X.K "list" p11 (h52 i) (k92 (tBM X.K "list" Q71 (h52 j) (tA X.K G E (.cons e .nil))) M12)) D σ H:=by
 obtain⟨xs,hx,e1⟩:=M.a10 ee;obtain⟨ys,hy,e1⟩:=M.a10 e1;have ho:=T10 hx;have hp:=T10 hy;obtain⟨w,k1,a,us,k2,rfl,k3,k4⟩:=rw.wor i _ ho;obtain⟨w',m1,b,ws,m2,rfl,m3,m4⟩:=rw.wor j _ hp;refine⟨_,k1,.inl ⟨rfl,us,SqL.of k3⟩,⟨_,m1,.inl ⟨rfl,ws,SqL.of m3⟩,?_⟩⟩;rcases M.bind_some e1 with ⟨l,z1,e3,e4⟩ | ⟨c,z1,e3,e4⟩
 ·obtain⟨k,hk,e5⟩:=M.a10 e4;obtain⟨dk,hk1,hk2⟩:=Í.mp hk;obtain⟨s,rfl,hs⟩:=e10 hk1;obtain⟨o,hv,e6⟩:=M.a10 e5;cases e6;refine⟨zA,ρ,z,.ok [s] z1,rw.z80,st,?_,λvs H1 x1 st1 rvs=>?_⟩
  ·show M.bind (ev G.F e ρ) _ z=_;simp only[M.bind,e3,M.of,one,M.ret,ev]
  obtain⟨u,rfl,ru⟩:=y41 rvs;have hu:u=.int k:=by
   have:=T20 ru hs;cases dk <;> first | (cases hk2;exact this.i40) | (cases hk2;done)
  subst hu;unfold t81 at hv;split at hv
  ·rename_i hb;have hkk:=C50.mp hb.2.2.1;obtain⟨y,hy1,hv⟩:=Í.mp hv;split at hv
   ·rename_i hby;cases hv;have r1:=rw.mono x1;have m4':HdA X.K (hw ow (hz zA H1)) ys ws:=m4.same (c00 x1);have k4':HdA X.K (hw ow (hz zA H1)) xs us:=k4.same (c00 x1);obtain⟨yv,g1,g2⟩:=m4'.get hy1;have hlt:k.toNat < ws.length:=(ß.mp g1).1;have hab:a≠b:=λq=>hb.1 (rw.inj i j a k2 (by rw[q];exact m2))
    refine⟨b,ws,k,k.toNat,yv,rfl,rfl,x1.at m3 (rw.zne j b m2),by omega,by omega,?_,g1,?_⟩
    ·have h0:(0:Int)<=k:=hb.2.1;exact Ø3 h0 ∅
    ·have r2:=r1.upd m2 (m4'.eraseIdx k.toNat);have sm2:=D90 (H:=H1) (zA:=zA) (o:=.lst (ws.eraseIdx k.toNat)) m2;refine⟨a,us,yv,rfl,rfl,?_,?_,?_⟩
     ·rw[a50 hab];exact x1.at k3 (rw.zne i a k2)
     ·exact Õ (by rw[k4.length];exact hb.2.2.2) (f50 (Î _))
     ·exact po zA ow σ _ (r2.upd k2 ((k4'.same sm2).append (.cons (g2.same sm2) .nil))) ((st1.a50 (rw.zne j b m2) (x1.at m3 (rw.zne j b m2))).a50 (rw.zne i a k2) (by rw[a50 hab];exact x1.at k3 (rw.zne i a k2))) (a30.trans (c00 x1) (a30.trans sm2 (D90 k2)))
   ·cases hv
  ·cases hv
 ·subst e4;refine⟨zA,ρ,z,.er c z1,rw.z80,st,?_,po.er_ rw⟩;show M.bind (ev G.F e ρ) _ z=_;simp only[M.bind,e3]
theorem t02(x:XS lm X G E N sc cn){i j:Nat}{n m:Str}{e:Ex}{v:Ð}{p p' apos cpos apos' cpos' pos:Pos}(h1:N[i]?=some n)(h2:b40 n=true)(h3:N[j]?=some m)(h4:b40 m=true)(ns:noStar v=true)(g:b10 X G E e v)(hl:(apos.endLine == cpos.line)=true)(hl':(apos'.endLine == cpos'.line)=true) :
  PS X (.Expr (.Call (.Attribute (.Name n p) "append" apos) [.Call (.Attribute (.Name m p') "pop" apos') [v] [] cpos'] [] cpos) pos) (tX X.K G E H0 zE (.apop i j e)):=by
 unfold b40 at h2 h4;simp only[Á,ý] at h2 h4;have ga:Good X G E (.cons e .nil) [v]:=⟨v,[],rfl,ns,g,rfl,rfl⟩;have hs:=d10 ns [] X.env;refine PS.imp (I60 (F81 Ê4 Ð0 Ï9 A90 (h00 (i:=i) (by rw[x.hN];exact h1) (x.vis n (â h1)) h2.1 h2.2)
  (d90 (F81 Ê4 PySem.F.slot_list_pop PySem.F.type_list_pop G01 (h00 (i:=j) (by rw[x.hN];exact h3) (x.vis m (â h3)) h4.1 h4.2) (ga.args rfl).1 rfl (by rw[hs];rfl) hl' hs rfl) n00) rfl rfl hl rfl rfl) (m30 rfl none)) λD σ H q=>?_
 obtain⟨zA,ow,ρ,z,rr,rw,st,ee,po⟩:=q;exact e22 rw st ee po
end
section
variable {K:Â}{H0 H H':Hp}{zE zA:Option Ç}{ow:Nat->Option Ç}{ρ:Env}{σ:L2.St}
theorem RW.U92(r:RW K H0 zE zA ow H ρ σ):RW K H0 zE zA (ow0 ow i) H (ρ.set i none) (σ.set i (some v)):=by
 have sub:∀ j a,ow0 ow i j=some a->j≠i/\ow j=some a:=λj a e=>by
  unfold ow0 at e;split at e
  ·cases e
  ·rename_i n;exact⟨n,e⟩
 refine⟨by rw[Â0,Â0];exact r.len,λj k a h1 h2=>r.inj j k a (sub j a h1).2 (sub k a h2).2,λj a h1=>r.zne j a (sub j a h1).2,λj a h1=>?_,λj s e=>?_,r.ext,r.zok,λj a h1=>r.new j a (sub j a h1).2⟩
 ·obtain⟨n,h2⟩:=sub j a h1;obtain⟨xs,h3⟩:=r.own j a h2;exact⟨xs,by rw[ä (Á6 n)];exact h3⟩
 ·rcases getElem?_set' e with ⟨rfl,e1,hlt⟩ | ⟨n,e1⟩
  ·cases e1
  ·obtain⟨w,h1,h2⟩:=r.wor j s e1;exact⟨w,by rw[ä (Á6 n)];exact h1,h2.move (by unfold ow0;exact if_neg n) (m20 _ _) λ_ _=>rfl⟩
end
section
variable {lm:Bool}{X:Cx}{G:Gs}{E:XK}{N:List Str}{sc:í}{cn:List Str}{H0:Hp}{zE:Option Ç}{c P:Ç}{q:Str}{k:Nat}{fR:Ç}{fdR:Â5}
def LB(X:Cx)(G:Gs)(N:List Str)(sc:í)(H0:Hp)(zE:Option Ç)(q:Str)(i:Nat)(done:List (List Nat × Ex))(Rn:Env->Z->Prop)(B:Hp)(σ:L2.St)(H:Hp):Prop:=∃ zA ow ρ z Ld ts Hb,RW X.K H0 zE zA ow Hb ρ σ/\Hb Ld=none/\Ext zA Hb H/\a30 B (hw ow (hz zA Hb))/\d30 zA z H/\σ[i]?=some (some (.ref Ld))/\H Ld=some (.lst (ts.map λt=>.ref t.f))/\zA≠some Ld/\Á8 (l51 X G N sc q H) ts done/\Rn ρ z
def LC(X:Cx)(G:Gs)(N:List Str)(sc:í)(H0:Hp)(zE:Option Ç)(q:Str)(i:Nat)(all:List (List Nat × Ex))(Rn:Env->Z->Prop)(B:Hp)(σ:L2.St)(H:Hp):Prop:=∃ zA ow ρ z Ld ts,RW X.K H0 zE zA ow H ρ σ/\a30 B (hw ow (hz zA H))/\d30 zA z H/\σ[i]?=some (some (.ref Ld))/\H Ld=some (.lst (ts.map λt=>.ref t.f))/\zA≠some Ld/\Á8 (l51 X G N sc q H) ts all/\Rn ρ z
theorem LB.lc(h:LB X G N sc H0 zE q i all Rn B σ H):LC X G N sc H0 zE q i all Rn B σ H:=by
 obtain⟨zA,ow,ρ,z,Ld,ts,Hb,rw,nb,xb,sb,st,eL,hL,zL,pr,run⟩:=h;exact⟨zA,ow,ρ,z,Ld,ts,rw.mono xb,a30.trans sb (c00 xb.same),st,eL,hL,zL,pr,run⟩
theorem f51(h:J11 X q H t)(hL:H Ld=some (.lst ys)):J11 X q (upd H Ld o) t :=
 ⟨h.form,by rw[a50 (λz=>by have:=h.fn;rw[z,hL] at this;cases this)];exact h.fn,by rw[a50 (λz=>by have:=h.rc;rw[z,hL] at this;cases this)];exact h.rc,h.cl1,h.cl2⟩
theorem e32(x:Ext zA Hb H)(n:Hb Ld=none):Ext zA Hb (upd H Ld o):=by
 refine⟨λb u e=>?_,λb ps e=>?_⟩
 ·obtain⟨e1,e2⟩:=n70 e;have ne:b≠Ld:=a90 e1 n;refine d70 ?_ e2 (o50 e);rw[a50 ne];exact(n70 (x.same b u e)).1
 ·obtain⟨qs,h⟩:=x.tbl b ps e;exact⟨qs,by rw[a50 (a90 e n)];exact h⟩
theorem t12(L:D40 X G sc c P q k fR fdR)(hs:u91 lsc sc (b60 N capt)=true):LTf X lsc ((b60 N capt).map (·.1)):=by
 unfold u91 at hs;simp only[Á,ý,beq_iff_eq,Å2,decide_eq_true_eq] at hs;obtain⟨⟨⟨⟨⟨⟨s1,s2⟩,s3⟩,s4⟩,s5⟩,s6⟩,s7⟩:=hs;refine⟨λy hy hf=>?_,λy hy=>by simpa using s4 y hy,λy hy=>?_,s1,s2,s3⟩
 ·have:=s5 y hy;rw[hf] at this;unfold Env.kindOf;rw[L.sco];simpa using this
 ·obtain⟨pr,h1,rfl⟩:=Ù.mp hy;exact s6 pr h1
theorem y51(h:J11 X q H t)(x:Ext zA H H')(nz:∀ {a:Ç}{p:ë->Prop},H a=some (.ext p)->zA≠some a):J11 X q H' t:=⟨h.form,x.at h.fn (nz h.fn),x.at h.rc (nz h.rc),h.cl1,h.cl2⟩
theorem T61(st:d30 zA z H)(h:H a=some (.ext p)):zA≠some a:=λe=>by
 subst e;have:=st.zat;cases z with
 |none=>exact this.elim
 |some pr =>
  have h':H a=some (.lst [.int pr.1,.bl pr.2]):=this;rw[h] at h';cases h'
theorem f61(L:D40 X G sc c P q k fR fdR)(f:s42 G N sc capt a lsc body):PE X (.Lambda noArgs body lsc lpos) (λσ H Q=>∃ zA z,d30 zA z H/\∀ t H2,t.lsc=lsc->t.body=body->l51 X G N sc q H2 t (capt,a)->Ext zA H H2->d30 zA z H2->H t.f=none->Q (.ref t.f) H2):=by
 have fm:=t12 (N:=N) L f.hs;refine PE.imp (n12 (lpos:=lpos) L.code L.hd L.qual rfl L.bm fm.hfr) λσ H Q qq=>?_;obtain⟨zA,z,st,po⟩:=qq;have tab:=st.tab _ L.tb;refine⟨tab,λcl fa c' pm ctv H2 h1 h2 t2 kb nf e1 e2=>?_⟩;exact po ⟨fa,c',cl,pm,ctv,lsc,body,(b60 N capt).map (·.1)⟩ H2 rfl rfl ⟨⟨fm,e1,e2,h1,h2⟩,rfl,f⟩ (M01 kb tab t2) (d52 kb tab t2 L.uq st) nf
theorem f71{α β:Type}{R:α->β->Prop}{x:α}{y:β}(r:R x y):∀ {xs:List α}{ys:List β},Á8 R xs ys->Á8 R (xs++[x]) (ys++[y])
 |_,_,.nil=>.cons r .nil|_,_,.cons h t=>.cons h (f71 r t)
theorem T71(st:d30 zA z H)(x:Ext zA H H')(h:Á8 (l51 X G N sc q H) ts ls):Á8 (l51 X G N sc q H') ts ls:=Á8.P81 h λ_ _ ⟨a,b,d⟩=>⟨y51 a x λh=>T61 st h,b,d⟩
theorem t22(x:XS lm X G E N sc cn)(L:D40 X G sc c P q k fR fdR){i:Nat}{y:Str}{capt:List Nat}{a:Ex}{lsc:í}{body:Ð}{lpos lp p pos:Pos}(hi:N[i]?=some y)(hy:G30 sc y=true)(f:s42 G N sc capt a lsc body){Rn:Env->Z->R O->Prop} :
  PS X (.Assign [.Name y p] (.List [.Lambda noArgs body lsc lpos] lp) pos) (λD σ H=>∃ zA ow ρ z rr,RW X.K H0 zE zA ow H ρ σ/\d30 zA z H/\i < ρ.length/\Rn (ρ.set i none) z rr/\∀ σ' H',LB X G N sc H0 zE q i [(capt,a)] (λρ z=>Rn ρ z rr) (hw ow (hz zA H)) σ' H'->D.nx σ' H'):=by
 have Lc:=x.loc;refine PS.imp (r00 (by rw[x.hN];exact x.nd) (by rw[x.hN];exact hi) (Lc.lc y hy) (o61 (d90 (f61 L f) n00)) rfl (Lc.fn y hy)) λD σ H qq=>?_
 obtain⟨zA,ow,ρ,z,rr,rw,st,il,run,po⟩:=qq;refine⟨zA,z,st,λt H2 _ _ lt xx st2 nf=>⟨by show 1<=Ý;decide,λp hp=>?_⟩⟩
 have hil:i < σ.length:=by rw[← rw.len];exact il
 exact po _ _ ⟨zA,_,_,z,p,[t],H2,(rw.mono xx).U92 (v:=.ref p),hp,Ext.of (a30.new _ hp),a30.trans (c00 xx) (m20 _ _),st2.same (a30.new _ hp),ì hil,b00,st2.e11 hp,.cons ⟨y51 lt.1 (Ext.of (a30.new _ hp)) λh=>T61 st2 h,lt.2⟩ .nil,run⟩
theorem t32(x:XS lm X G E N sc cn)(L:D40 X G sc c P q k fR fdR){i:Nat}{y:Str}{capt:List Nat}{a:Ex}{lsc:í}{body:Ð}{lpos p apos cpos pos:Pos}(hi:N[i]?=some y)(h2:b40 y=true)(hl:(apos.endLine == cpos.line)=true)(f:s42 G N sc capt a lsc body){done:List (List Nat × Ex)}{Rn:Env->Z->R O->Prop}(hd:done.length < 1000) :
  PS X (.Expr (.Call (.Attribute (.Name y p) "append" apos) [.Lambda noArgs body lsc lpos] [] cpos) pos) (λD σ H=>∃ B rr,LB X G N sc H0 zE q i done (λρ z=>Rn ρ z rr) B σ H/\∀ σ' H',LB X G N sc H0 zE q i (done++[(capt,a)]) (λρ z=>Rn ρ z rr) B σ' H'->D.nx σ' H'):=by
 unfold b40 at h2;simp only[Á,ý] at h2;refine PS.imp (I60 (F81 Ê4 Ð0 Ï9 A90 (h00 (i:=i) (by rw[x.hN];exact hi) (x.vis y (â hi)) h2.1 h2.2) (d90 (f61 L f) n00) rfl rfl hl rfl rfl) (m30 rfl none)) λD σ H qq=>?_
 obtain⟨B,rr,⟨zA,ow,ρ,z,Ld,ts,Hb,rw,nb,xb,sb,st,eL,hL,zL,pr,run⟩,po⟩:=qq;refine⟨_,eL,.inl ⟨rfl,_,SqL.of hL⟩,zA,z,st,λt H2 _ _ lt xx st2 nf=>?_⟩;have hL2:=xx.at hL zL;refine⟨Ld,_,_,rfl,rfl,hL2,?_,?_⟩
 ·rw[È,pr.length];exact Õ hd (-0)
 ·refine po _ _ ⟨zA,ow,ρ,z,Ld,ts++[t],Hb,rw,nb,e32 (xb.trans xx) nb,sb,st2.a50 zL hL2,eL,?_,zL,f71 ⟨f51 lt.1 hL2,lt.2⟩ (Á8.P81 (T71 st xx pr) λ_ _ ⟨u,v⟩=>⟨f51 u hL2,v⟩),run⟩;rw[Ä7];exact b00
def tLC(X:Cx)(G:Gs)(E:XK)(N:List Str)(sc:í)(H0:Hp)(zE:Option Ç)(q:Str)(i:Nat)(all:List (List Nat × Ex))(Rn:Env->Z->R O->Prop):TS:=λD σ H=>∃ B rr,LC X G N sc H0 zE q i all (λρ z=>Rn ρ z rr) B σ H/\k70 X.K G E H0 zE B D rr
abbrev I92(F:FT)(tp:Bool)(all:List (List Nat × Ex))(e:Ex)(t r:Sm)(ρ:Env)(z:Z)(rr:R O):Prop:=C60 F all e (ex F tp t) (ex F tp r) ρ z=some rr
theorem T81(L:D40 X G sc c P q k fR fdR){i:Nat}{all:List (List Nat × Ex)}{e:Ex}{t r:Sm}{σ:L2.St}{H:Hp}{D:Ends}{B:Hp}{rr:R O}{Q:Bool->Hp->Prop}(lb:LC X G N sc H0 zE q i all (λρ z=>I92 G.F zE.isNone all e t r ρ z rr) B σ H)(po:k70 X.K G E H0 zE B D rr)
  (hQ:∀ b zA ow ρ z H3,RW X.K H0 zE zA ow H3 ρ σ->d30 zA z H3->M.bind (if b=true then ex G.F zE.isNone t ρ else M.ret (.nx ρ)) (λo=>match o with
   |.nx ρ=>ex G.F zE.isNone r ρ
   |.rt s=>M.ret (.rt s)) z=some rr->k70 X.K G E H0 zE (hw ow (hz zA H3)) D rr->Q b H3) :
  W21 (tOp (rD2 X.K λa b=>(s90 .ne a b).map λc=>.d (.bl c)) (tLL X G N sc q i all) (tI X.K G E e)) σ H Q:=by
 obtain⟨zA,ow,ρ,z,Ld,ts,rw,sb,st,eL,hL,zL,pr,run⟩:=lb;unfold I92 C60 at run;split at run
 ·cases run
 ·rename_i cs z1 hlv;refine⟨zA,ρ,z,cs,z1,Ld,ts,rw.z80,st,hlv,eL,hL,zL,pr,λv H1 x1 st1 rv=>?_⟩;have rw1:=rw.mono x1;refine g80 rw1.z80 st1 run ((po.mono (a30.trans sb (c00 x1.same))).ers rw1) λl z2 e1=>?_;obtain⟨d,hd,e2⟩:=M.a10 e1;obtain⟨s,rfl,hs'⟩:=e10 hd;refine⟨s,rfl,λw H2 x2 st2 rv2=>?_⟩;obtain⟨b,hb,e3⟩:=M.a10 e2;refine⟨zA,z2,.lst (cs.map K41),d,.d (.bl b),st2,(show RvP X.K zA H1 (.fr (cs.map K41)) v from rv.pl).mono x2,T20 rv2 hs',by show Ì6 _ (s90 .ne _ d)=_;rw[hb];rfl,λv' H3 sm rv3=>⟨b,Hd.bl_ (show Hd X.K (hz zA H3) (.bl b) v' from rv3),?_⟩⟩
  have x3:=x1.trans (x2.trans (Ext.of sm));exact hQ b zA ow ρ z2 H3 (rw.mono x3) (st2.same sm) e3 (po.mono (a30.trans sb (c00 x3.same)))
theorem y61{D:Ends}{σ:L2.St}{t r:Sm}{rr:R O}{b:Bool}{zA:Option Ç}{ow:Nat->Option Ç}{ρ:Env}{z:Z}{H:Hp}(rw:RW X.K H0 zE zA ow H ρ σ)(st:d30 zA z H)(e:M.bind (if b=true then ex G.F zE.isNone t ρ else M.ret (.nx ρ)) (λo=>match o with
   |.nx ρ=>ex G.F zE.isNone r ρ
   |.rt s=>M.ret (.rt s)) z=some rr) (po:k70 X.K G E H0 zE (hw ow (hz zA H)) D rr):if b=true then tX X.K G E H0 zE t { D with nx:=tX X.K G E H0 zE r D } σ H else tX X.K G E H0 zE r D σ H:=by
 cases b with
 |true =>
  show tX X.K G E H0 zE t _ σ H;rcases M.bind_some e with ⟨o,z4,e4,e5⟩ | ⟨c,z4,e4,e5⟩
  ·refine⟨zA,ow,ρ,z,_,rw,st,e4,?_⟩;cases o with
   |nx ρ1=>exact λzA' ow' σ' H' rw' st' sm'=>⟨zA',ow',ρ1,z4,rr,rw',st',e5,po.mono sm'⟩|rt s=>cases e5;exact po
  ·subst e5;exact⟨zA,ow,ρ,z,_,rw,st,e4,po⟩
 |false=>exact⟨zA,ow,ρ,z,rr,rw,st,e,po⟩
theorem J02(x:XS lm X G E N sc cn)(L:D40 X G sc c P q k fR fdR){i:Nat}{n y:Str}{csc:í}{p p2 p3 p4 pos ps cp ip:Pos}{rhs:Ð}{body rest:List Â3}{all:List (List Nat × Ex)}{e:Ex}{t r:Sm}(hi:N[i]?=some y)(ny:b40 y=true)(nn:b40 n=true)(cc:T11 csc sc N [n] [])(hg:glob csc "_law_refused"=true)(hls:all.length<=1000)(hs:s20 rhs=true)(ge:b10 X G E e rhs)(ht:PSs X body (tX X.K G E H0 zE t))(hr:PSs X rest (tX X.K G E H0 zE r)) :
  PSs X (.If (.Compare (.ListComp (.Call (.Name "_law_refused" p) [.Name n p2] [] pos) [⟨.Name n p3,.Name y p4,[],0⟩] csc ps) [.NotEq] [rhs] cp) body [] ip::rest) (tLC X G E N sc H0 zE q i all (I92 G.F zE.isNone all e t r)):=by
 refine PSs.imp (e30 (E81 (W60 (R91 x.room.units .ne) (x61 x.toXI L hi ny nn cc hg hls) ge.pe (S20 hs _)) ht I50) hr) λD σ H qq=>?_;obtain⟨B,rr,lb,po⟩:=qq;exact T81 L lb po λb zA ow ρ z H3 rw st e po=>y61 rw st e po
def N52(F:FT)(tp:Bool)(all:List (List Nat × Ex))(j:Nat)(e:Ex)(t r:Sm)(ρ:Env)(z:Z)(rr:R O):Prop:=∃ b,ρ[j]?=some (some (.d (.bl b)))/\(if b=true then C60 F all e (ex F tp t) (ex F tp r) ρ else ex F tp r ρ) z=some rr
theorem t42(x:XS lm X G E N sc cn)(L:D40 X G sc c P q k fR fdR){i j:Nat}{n y w:Str}{csc:í}{p p2 p3 p4 pos ps cp ip pw bp:Pos}{rhs:Ð}{body rest:List Â3}{all:List (List Nat × Ex)}{e:Ex}{t r:Sm}(hi:N[i]?=some y)(hj:N[j]?=some w)(nw:b40 w=true)(ny:b40 y=true)(nn:b40 n=true)(cc:T11 csc sc N [n] [])(hg:glob csc "_law_refused"=true)(hls:all.length<=1000)(hs:s20 rhs=true)(ge:b10 X G E e rhs)(ht:PSs X body (tX X.K G E H0 zE t))(hr:PSs X rest (tX X.K G E H0 zE r)) :
  PSs X (.If (.BoolOp .And [.Name w pw,.Compare (.ListComp (.Call (.Name "_law_refused" p) [.Name n p2] [] pos) [⟨.Name n p3,.Name y p4,[],0⟩] csc ps) [.NotEq] [rhs] cp] bp) body [] ip::rest) (tLC X G E N sc H0 zE q i all (N52 G.F zE.isNone all j e t r)):=by
 unfold b40 at nw;simp only[Á,ý] at nw;refine PSs.imp (e30 (E81 (Q01 (c01 (h00 (i:=j) (by rw[x.hN];exact hj) (x.vis w (â hj)) nw.1 nw.2)) (n71 (W60 (R91 x.room.units .ne) (x61 x.toXI L hi ny nn cc hg hls) ge.pe (S20 hs _)))).pt ht I50) hr) λD σ H qq=>?_
 obtain⟨B,rr,⟨zA,ow,ρ,z,Ld,ts,rw,sb,st,eL,hL,zL,pr,b,eb,run⟩,po⟩:=qq;obtain⟨v,e1,e2⟩:=rw.z80 j _ eb;refine⟨v,e1,b,Hd.bl_ (show Hd X.K (hz zA H) (.bl b) v from e2),?_⟩;cases b with
 |true =>
  show(if true=true then _ else _);rw[if_pos rfl] at run ⊢;exact T81 L ⟨zA,ow,ρ,z,Ld,ts,rw,sb,st,eL,hL,zL,pr,run⟩ po λb zA ow ρ z H3 rw st e po=>y61 rw st e po
 |false =>
  show(if false=true then _ else _);rw[if_neg Ï] at run ⊢;exact⟨zA,ow,ρ,z,rr,rw,st,run,po.mono sb⟩
theorem t52(x:XS lm X G E N sc cn){i j:Nat}{w:Str}{v:Ð}{px pos:Pos}{a:Ex}{all:List (List Nat × Ex)}{e:Ex}{t r:Sm}(hj:N[j]?=some w)(hij:i≠j)(hl:G30 sc w=true)(ga:b10 X G E a v)(hv:∀ o,Í9 v o pos.line X.env=pure false){rest:List Â3}(hr:PSs X rest (tLC X G E N sc H0 zE q i all (N52 G.F zE.isNone all j e t r))) :
  PSs X (.Assign [.Name w px] v pos::rest) (tLC X G E N sc H0 zE q i all λρ z rr=>t61 G.F all (some (j,a)) e (ex G.F zE.isNone t) (ex G.F zE.isNone r) ρ z=some rr):=by
 have Lc:=x.loc;refine PSs.imp (e30 (r00 (by rw[x.hN];exact x.nd) (by rw[x.hN];exact hj) (Lc.lc w hl) ga.pe (hv _) (Lc.fn w hl)) hr) λD σ H qq=>?_
 obtain⟨B,rr,⟨zA,ow,ρ,z,Ld,ts,rw,sb,st,eL,hL,zL,pr,run⟩,po⟩:=qq;have run:(if j < ρ.length then M.bind (ev G.F a ρ) (λl=>M.bind (M.of ((pl l).bind asB)) λb=>if b then C60 G.F all e (ex G.F zE.isNone t) (ex G.F zE.isNone r) (ρ.set j (some (.d (.bl b)))) else ex G.F zE.isNone r (ρ.set j (some (.d (.bl b))))) else M.no) z=some rr:=run;by_cases jl:j < ρ.length
 rotate_left
 ·rw[if_neg jl] at run;cases run
 rw[if_pos jl] at run;refine g80 rw.z80 st run ((po.mono sb).ers rw) λl z1 e1=>?_;obtain⟨b,p1,e2⟩:=M.a10 e1;obtain⟨d,p2,p3⟩:=Í.mp p1;obtain⟨s1,rfl,q1⟩:=e10 p2;refine⟨s1,rfl,λu H1 x1 st1 rv=>?_⟩;have hd:=rv.pl.d_ q1;cases d with
 |bl c' =>
  cases p3;have hu:=hd.bl_;subst hu;have rw1:=(rw.mono x1).N42 (i:=j) (x:=.bl b) (v:=.bl b) (by constructor)
  refine⟨B,rr,⟨zA,_,_,z1,Ld,ts,rw1,a30.trans sb (a30.trans (c00 x1.same) (m20 _ _)),st1,by rw[ä (Á6 hij)];exact eL,x1.at hL zL,zL,T71 st x1 pr,b,?_,?_⟩,po⟩
  ·exact ì jl
  ·cases b <;> exact e2
 |_=>cases p3
def t62:(ss:List Â3)->Option {u:Str × Pos × Ð × í × Pos × Pos × Pos × List Â3 // ss=.Assign [.Name u.1 u.2.1] (.List [.Lambda ⟨[],[],none,[],[],none,[]⟩ u.2.2.1 u.2.2.2.1 u.2.2.2.2.1] u.2.2.2.2.2.1) u.2.2.2.2.2.2.1::u.2.2.2.2.2.2.2}
 |.Assign [.Name y p] (.List [.Lambda ⟨[],[],none,[],[],none,[]⟩ b l lp] q) pos::rest=>some ⟨(y,p,b,l,lp,q,pos,rest),rfl⟩|_=>none
def t72:(ss:List Â3)->Option {u:Str × Pos × Str × Pos × Ð × í × Pos × Pos × Pos × List Â3 // ss=.Expr (.Call (.Attribute (.Name u.1 u.2.1) u.2.2.1 u.2.2.2.1) [.Lambda ⟨[],[],none,[],[],none,[]⟩ u.2.2.2.2.1 u.2.2.2.2.2.1 u.2.2.2.2.2.2.1] [] u.2.2.2.2.2.2.2.1) u.2.2.2.2.2.2.2.2.1::u.2.2.2.2.2.2.2.2.2}
 |.Expr (.Call (.Attribute (.Name y p) at' ap) [.Lambda ⟨[],[],none,[],[],none,[]⟩ b l lp] [] cp) pos::rest=>some ⟨(y,p,at',ap,b,l,lp,cp,pos,rest),rfl⟩|_=>none
structure LIf where
 g:Str
 p:Pos
 n:Str
 p2:Pos
 pos:Pos
 n3:Str
 p3:Pos
 y:Str
 p4:Pos
 csc:Scope
 ps:Pos
 rhs:Expr
 cp:Pos
 body:List Stmt
 ip:Pos
 rest:List Stmt
def J12:(ss:List Â3)->Option {u:LIf // ss=.If (.Compare (.ListComp (.Call (.Name u.g u.p) [.Name u.n u.p2] [] u.pos) [⟨.Name u.n3 u.p3,.Name u.y u.p4,[],0⟩] u.csc u.ps) [.NotEq] [u.rhs] u.cp) u.body [] u.ip::u.rest}
 |.If (.Compare (.ListComp (.Call (.Name g p) [.Name n p2] [] pos) [⟨.Name n3 p3,.Name y p4,[],0⟩] csc ps) [.NotEq] [rhs] cp) body [] ip::rest=>some ⟨⟨g,p,n,p2,pos,n3,p3,y,p4,csc,ps,rhs,cp,body,ip,rest⟩,rfl⟩|_=>none
def t82:(ss:List Â3)->Option {u:(Str × Pos × Pos) × LIf // ss=.If (.BoolOp .And [.Name u.1.1 u.1.2.1,.Compare (.ListComp (.Call (.Name u.2.g u.2.p) [.Name u.2.n u.2.p2] [] u.2.pos) [⟨.Name u.2.n3 u.2.p3,.Name u.2.y u.2.p4,[],0⟩] u.2.csc u.2.ps) [.NotEq] [u.2.rhs] u.2.cp] u.1.2.2) u.2.body [] u.2.ip::u.2.rest}
 |.If (.BoolOp .And [.Name w pw,.Compare (.ListComp (.Call (.Name g p) [.Name n p2] [] pos) [⟨.Name n3 p3,.Name y p4,[],0⟩] csc ps) [.NotEq] [rhs] cp] bp) body [] ip::rest=>some ⟨((w,pw,bp),⟨g,p,n,p2,pos,n3,p3,y,p4,csc,ps,rhs,cp,body,ip,rest⟩),rfl⟩|_=>none
def t92:(ss:List Â3)->Option {u:Str × Pos × Ð × Pos × List Â3 // ss=.Assign [.Name u.1 u.2.1] u.2.2.1 u.2.2.2.1::u.2.2.2.2}
 |.Assign [.Name w p] v pos::rest=>some ⟨(w,p,v,pos,rest),rfl⟩|_=>none
def z62(fns:List (Str × List Str))(nums:List (Str × Int))(sc:í)(N:List Str)(u:List Nat × Ex)(lsc:í)(body:Ð):Bool:=(b60 N u.1).length == u.1.length&&u91 lsc sc (b60 N u.1)&&!isL u.2&&mt false fns nums u.2 lsc ((b60 N u.1).map (·.1)) [body]
theorem y71(h:z62 G.fns G.nums sc N u lsc body=true):s42 G N sc u.1 u.2 lsc body:=by
 unfold z62 at h;simp only[Á,beq_iff_eq] at h;obtain⟨⟨⟨h1,h2⟩,h3⟩,h4⟩:=h;exact⟨h1,h2,b50 h3,λk {X E} xl=>sound (lowG G k) u.2 xl h4⟩
def M81(fns:List (Str × List Str))(nums:List (Str × Int))(sc:í)(N:List Str)(i:Nat):List (List Nat × Ex)->List Â3->Option (List Â3)
 |[],ss=>some ss
 |u::r,ss=>match t72 ss with
  |none=>none|some v=>if v.1.2.2.1 == ("append":Str)&&N[i]? == some v.1.1&&b40 v.1.1&&v.1.2.2.2.1.endLine == v.1.2.2.2.2.2.2.2.1.line&&z62 fns nums sc N u v.1.2.2.2.2.2.1 v.1.2.2.2.2.1 then M81 fns nums sc N i r v.1.2.2.2.2.2.2.2.2.2 else none
def tLB(X:Cx)(G:Gs)(E:XK)(N:List Str)(sc:í)(H0:Hp)(zE:Option Ç)(q:Str)(i:Nat)(done:List (List Nat × Ex))(Rn:Env->Z->R O->Prop):TS:=λD σ H=>∃ B rr,LB X G N sc H0 zE q i done (λρ z=>Rn ρ z rr) B σ H/\k70 X.K G E H0 zE B D rr
theorem u02(x:XS lm X G E N sc cn)(L:D40 X G sc c P q k fR fdR){i:Nat}{Rn:Env->Z->R O->Prop}{rest:List Â3}:∀ (us done:List (List Nat × Ex)) (ss:List Â3),M81 G.fns G.nums sc N i us ss=some rest->done.length + us.length<=1000->PSs X rest (tLB X G E N sc H0 zE q i (done++us) Rn)->PSs X ss (tLB X G E N sc H0 zE q i done Rn)
 |[],done,ss,h,_,hr=>by
  cases h;rw[Ë4] at hr;exact hr
 |u::us,done,ss,h,hl,hr=>by
  unfold M81 at h;split at h
  ·cases h
  ·rename_i v hv;split at h
   ·rename_i hb;simp only[Á,beq_iff_eq] at hb;obtain⟨⟨⟨⟨b1,b2⟩,b3⟩,b4⟩,b5⟩:=hb;obtain⟨v,e⟩:=v
    replace b1:v.2.2.1="append":=b1
    rw[e,b1];rw[Û] at hl;have ih:=u02 x L us (done++[u]) v.2.2.2.2.2.2.2.2.2 h (by rw[À5];show done.length + 1 + us.length<=1000;omega) (by rw[É7];exact hr)
    refine PSs.imp (e30 (t32 (done:=done) (H0:=H0) (zE:=zE) (Rn:=Rn) x L b2 b3 (by rw[beq_iff_eq];exact b4) (y71 b5) ∅) ih) λD σ H qq=>?_
    obtain⟨B,rr,lb,po⟩:=qq;exact⟨B,rr,lb,λσ' H' lb'=>⟨B,rr,lb',po⟩⟩
   ·cases h
def z72(lm:Bool)(fns:List (Str × List Str))(nums:List (Str × Int))(sc:í)(N:List Str)(i:Nat)(e:Ex)(w:LIf):Bool:=w.g == ("_law_refused":Str)&&N[i]? == some w.y&&b40 w.n&&w.n == w.n3&&S30 w.csc sc N [w.n] []&&glob w.csc "_law_refused"&&s20 w.rhs&&!isL e&&mt lm fns nums e sc N [w.rhs]
def N62:Ð->Bool
 |.ListComp ..=>false|.SetComp ..=>false|.DictComp ..=>false|_=>true
def e42(lm:Bool)(fns:List (Str × List Str))(nums:List (Str × Int))(sc:í)(N:List Str)(i:Nat)(g:Option (Nat × Ex))(e:Ex)(ss:List Â3):Option LIf:=match g with
 |none=>match J12 ss with
  |none=>none|some w=>if z72 lm fns nums sc N i e w.1 then some w.1 else none
 |some (j,a)=>match t92 ss with
  |none=>none
  |some v=>match t82 v.1.2.2.2.2 with
   |none=>none|some w=>if z72 lm fns nums sc N i e w.1.2&&i != j&&N[j]? == some v.1.1&&v.1.1 == w.1.1.1&&G30 sc v.1.1&&b40 v.1.1&&N62 v.1.2.2.1&&!isL a&&mt lm fns nums a sc N [v.1.2.2.1] then some w.1.2 else none
theorem e52(x:XS lm X G E N sc cn)(L:D40 X G sc c P q k fR fdR){i:Nat}{y:Str}(hi:N[i]?=some y)(ny:b40 y=true){all:List (List Nat × Ex)}{g:Option (Nat × Ex)}{e:Ex}{t r:Sm}{ss:List Â3}{w:LIf}(hls:all.length<=1000)(h:e42 lm G.fns G.nums sc N i g e ss=some w)(ht:PSs X w.body (tX X.K G E H0 zE t))(hr:PSs X w.rest (tX X.K G E H0 zE r)):PSs X ss (tLC X G E N sc H0 zE q i all λρ z rr=>t61 G.F all g e (ex G.F zE.isNone t) (ex G.F zE.isNone r) ρ z=some rr):=by
 unfold e42 at h;split at h
 ·split at h
  ·cases h
  ·rename_i w' hw';split at h
   ·rename_i hc;cases h;unfold z72 at hc;simp only[Á,beq_iff_eq] at hc;obtain⟨⟨⟨⟨⟨⟨⟨⟨c1,c2⟩,c3⟩,c4⟩,c5⟩,c6⟩,c7⟩,c8⟩,c9⟩:=hc;obtain⟨w,ew⟩:=w'
    replace c1:w.g="_law_refused":=c1
    replace c4:w.n3=w.n:=Eq.symm c4
    replace c2:w.y=y:=by rw[hi] at c2;exact(û c2).symm
    rw[ew,c1,c2,c4];exact J02 (H0:=H0) (zE:=zE) (all:=all) x L hi ny c3 (d62 c5) c6 hls c7 (a70 (b50 c8) (sound G e x.toXI c9)) ht hr
   ·cases h
 ·rename_i j a;split at h
  ·cases h
  ·rename_i v hv;split at h
   ·cases h
   ·rename_i w' hw';split at h
    ·rename_i hc;cases h;simp only[Á,beq_iff_eq,bne_iff_ne] at hc;obtain⟨⟨⟨⟨⟨⟨⟨⟨hc,d1⟩,d2⟩,d3⟩,d4⟩,d5⟩,d6⟩,d7⟩,d8⟩:=hc;unfold z72 at hc;simp only[Á,beq_iff_eq] at hc;obtain⟨⟨⟨⟨⟨⟨⟨⟨c1,c2⟩,c3⟩,c4⟩,c5⟩,c6⟩,c7⟩,c8⟩,c9⟩:=hc;obtain⟨v,ev'⟩:=v;obtain⟨w,ew⟩:=w'
     replace c1:w.2.g="_law_refused":=c1
     replace c4:w.2.n3=w.2.n:=Eq.symm c4
     replace c2:w.2.y=y:=by rw[hi] at c2;exact(û c2).symm
     replace d3:w.1.1=v.1:=Eq.symm d3
     replace ew:v.2.2.2.2=_:=ew
     rw[ev',ew,c1,c2,c4,d3];refine t52 (H0:=H0) (zE:=zE) x d2 d1 d4 (a70 (b50 d7) (sound G a x.toXI d8)) (λo=>m30 (by
      replace d6:N62 v.2.2.1=true:=d6
      generalize v.2.2.1=vv at d6 ⊢;cases vv <;> first | rfl | cases d6) o) ?_
     exact t42 (H0:=H0) (zE:=zE) (all:=all) x L hi d2 d5 ny c3 (d62 c5) c6 hls c7 (a70 (b50 c8) (sound G e x.toXI c9)) ht hr
    ·cases h
def y81(lm:Bool)(fns:List (Str × List Str))(nums:List (Str × Int))(sc:í)(N:List Str)(i:Nat)(ls:List (List Nat × Ex))(g:Option (Nat × Ex))(e:Ex)(ss:List Â3):Option LIf:=match ls with
 |[]=>none
 |u::us=>match t62 ss with
  |none=>none
  |some v=>if lm&&N[i]? == some v.1.1&&G30 sc v.1.1&&b40 v.1.1&&decide (us.length < 900)&&z62 fns nums sc N u v.1.2.2.2.1 v.1.2.2.1 then match M81 fns nums sc N i us v.1.2.2.2.2.2.2.2 with
   |none=>none|some rest=>e42 lm fns nums sc N i g e rest
   else none
theorem u12(x:XS lm X G E N sc cn){i:Nat}{ls:List (List Nat × Ex)}{g:Option (Nat × Ex)}{e:Ex}{t r:Sm}{ss:List Â3}{w:LIf}(h:y81 lm G.fns G.nums sc N i ls g e ss=some w)(ht:PSs X w.body (tX X.K G E H0 zE t))(hr:PSs X w.rest (tX X.K G E H0 zE r)):PSs X ss (tX X.K G E H0 zE (.lams i ls g e t r)):=by
 unfold y81 at h;split at h
 ·cases h
 ·rename_i u us;split at h
  ·cases h
  ·rename_i v hv;split at h
   ·rename_i hb;simp only[Á,beq_iff_eq,decide_eq_true_eq] at hb;obtain⟨⟨⟨⟨⟨b1,b2⟩,b3⟩,b4⟩,b5⟩,b6⟩:=hb;split at h
    ·cases h
    ·rename_i rest hrest;obtain⟨c,P,q,k,fR,fdR,L⟩:=x.lam b1;obtain⟨v,ev'⟩:=v
     replace b2:N[i]?=some v.1:=b2
     rw[ev'];have last:=e52 (H0:=H0) (zE:=zE) (all:=u::us) x L b2 b4 (by rw[Û];omega) h ht hr
     have mid:=u02 (H0:=H0) (zE:=zE) x L us [u] v.2.2.2.2.2.2.2 hrest (by rw[à3];omega) (PSs.imp last λD σ H ⟨B,rr,lb,po⟩=>⟨B,rr,lb.lc,po⟩)
     refine PSs.imp (e30 (t22 (H0:=H0) (zE:=zE) (Rn:=λρ z rr=>t61 G.F (u::us) g e (ex G.F zE.isNone t) (ex G.F zE.isNone r) ρ z=some rr) x L b2 b3 (y71 b6)) mid) λD σ H qq=>?_;obtain⟨zA,ow,ρ,z,rr,rw,st,ee,po⟩:=qq;have e0:(if i < ρ.length then t61 G.F (u::us) g e (ex G.F zE.isNone t) (ex G.F zE.isNone r) (ρ.set i none) else M.no) z=some rr:=ee;split at e0
     ·rename_i il;exact⟨zA,ow,ρ,z,rr,rw,st,il,e0,λσ' H' lb=>⟨_,rr,lb,po⟩⟩
     ·cases e0
   ·cases h
end
section
variable {lm:Bool}{X:Cx}{G:Gs}{E:XK}{N:List Str}{sc:í}{cn:List Str}{H0:Hp}{zE:Option Ç}
def J22(K:Â)(i:Nat):TI:=λσ H R=>∃ a,σ[i]?=some (some (.ref a))/\((∃ ys,SqT K H a ys)/\R (Itt K a) H∨(∃ ys,SqL K H a ys)/\R (Itl K a) H)
theorem u22(x:XI lm X G E N sc){tg:Ð}{i:Nat}{n:Str}{pos:Pos}(h1:N[i]?=some n)(h2:b40 n=true):PI X tg (.Name n pos) (J22 X.K i):=by
 unfold b40 at h2;simp only[Á,ý] at h2;have hv:PE X (.Name n pos) (h52 i):=h00 (i:=i) (by rw[x.hN];exact h1) (x.vis n (â h1)) h2.1 h2.2
 intro pins s σ H R I q;obtain⟨a,k,q | q⟩:=q
 ·exact Q31 hv pins s σ H R I ⟨_,k,a,rfl,q.1,q.2⟩
 ·exact I80 hv pins s σ H R I ⟨_,k,a,rfl,q.1,q.2⟩
def fBody(F:FT)(tp:Bool)(p:Pat)(b:Sm):D->Env->M O:=λx ρ=>M.bind (M.of (f40 p x ρ)) λρ=>ex F tp b ρ
theorem E10:∀ {l:List D}{d:D},k40 l=true->d∈l->bare d=true
 |x::r,d,h,hd=>by
  simp only[k40,Á] at h;rcases ó.mp hd with rfl | hd
  ·exact h.1
  ·exact E10 h.2 hd
theorem f81{p:Pat}{b:Sm}{J:L2.It}{xs:List D}{B:Hp}{D:Ends}{σ:L2.St}{H:Hp}{zA:Option Ç}{ow:Nat->Option Ç}{ρ:Env}{z:Z}{rr:R O}(IT:ItB X.K J xs B)
  (rw:RW X.K H0 zE zA ow H ρ σ) (st:d30 zA z H) (sm:a30 B (hw ow (hz zA H))) (ee:W20 (fBody G.F zE.isNone p b) xs ρ z=some rr) (po:k70 X.K G E H0 zE (hw ow (hz zA H)) D rr) :
  ∃ W:Nat->Nat->L2.St->Hp->Prop,(∃ m,W 0 m σ H)/\∀ i m σ H,W i m σ H ->
   (J.stop i H/\D.nx σ H)∨(J.go i H/\∃ Nn:L2.St->Hp->Prop,(∀ σ' H',Nn σ' H'->∃ m',m' < m/\W (i + 1) m' σ' H')/\∀ x H',J.yld i H x H'->gP X.K p x σ H' λσ2 H2=>tX X.K G E H0 zE b { D with nx:=Nn,ct:=Nn,bk:=D.nx } σ2 H2):=by
 refine⟨λi m σ H=>m=xs.length - i/\i<=xs.length/\∃ zA ow ρ z r,RW X.K H0 zE zA ow H ρ σ/\d30 zA z H/\a30 B (hw ow (hz zA H))/\W20 (fBody G.F zE.isNone p b) (xs.drop i) ρ z=some r/\k70 X.K G E H0 zE (hw ow (hz zA H)) D r,
  ⟨xs.length,by simp,È3 _,zA,ow,ρ,z,rr,rw,st,sm,by simpa using ee,po⟩,?_⟩
 rintro i m σ H ⟨rfl,hi,zA,ow,ρ,z,rr,rw,st,sm,ee,po⟩;have sH:a30 B H:=a30.trans sm (a30.trans k60 (a20 zA H));by_cases hlt:i < xs.length
 ·refine .inr ⟨IT.go i H sH hlt,λσ' H'=>∃ zA ow ρ z r,RW X.K H0 zE zA ow H' ρ σ'/\d30 zA z H'/\a30 B (hw ow (hz zA H'))/\W20 (fBody G.F zE.isNone p b) (xs.drop (i + 1)) ρ z=some r/\k70 X.K G E H0 zE (hw ow (hz zA H')) D r,
   λσ' H' h=>⟨xs.length - (i + 1),by omega,rfl,hlt,h⟩,λx H' y=>?_⟩
  have hd0:xs[i]?=some xs[i]:=Ó hlt;obtain⟨s1,hd⟩:=IT.yld i H x H' zA z _ (a30.trans sm k60) st y hd0;rw[Ð9 hlt] at ee;have e0:M.bind (fBody G.F zE.isNone p b xs[i] ρ) (λo=>match o with | .nx ρ=>W20 (fBody G.F zE.isNone p b) (xs.drop (i + 1)) ρ | .rt s=>M.ret (.rt s)) z=some rr:=ee
  have r1:=rw.mono (Ext.of s1);have st1:=st.same s1;have sm1:a30 (hw ow (hz zA H)) (hw ow (hz zA H')):=c00 (k50 s1);have hd1:=hd (hw ow (hz zA H')) (a30.trans sm sm1) λ_ _ q=>x71 q r1.T21;have fin:∀ {ρ1:Env}{o:O}{z1:Z},f40 p xs[i] ρ=some ρ1->ex G.F zE.isNone b ρ1 z=some (.ok o z1)->(match o with | .nx ρ=>W20 (fBody G.F zE.isNone p b) (xs.drop (i + 1)) ρ | .rt s=>M.ret (.rt s)) z1=some rr->gP X.K p x σ H' λσ2 H2=>tX X.K G E H0 zE b { D with nx:=λσ' H'=>∃ zA ow ρ z r,RW X.K H0 zE zA ow H' ρ σ'/\d30 zA z H'/\a30 B (hw ow (hz zA H'))/\W20 (fBody G.F zE.isNone p b) (xs.drop (i + 1)) ρ z=some r/\k70 X.K G E H0 zE (hw ow (hz zA H')) D r,ct:=λσ' H'=>∃ zA ow ρ z r,RW X.K H0 zE zA ow H' ρ σ'/\d30 zA z H'/\a30 B (hw ow (hz zA H'))/\W20 (fBody G.F zE.isNone p b) (xs.drop (i + 1)) ρ z=some r/\k70 X.K G E H0 zE (hw ow (hz zA H')) D r,bk:=D.nx } σ2 H2:=λ{ρ1 o z1} hbp e1 e2=>by
   refine M31 hbp r1 hd1 λow' σ' r2 sm2=>⟨zA,ow',ρ1,z,_,r2,st1,e1,?_⟩;cases o with
   |nx ρ2=>exact λzA3 ow3 σ3 H3 r3 st3 sm3=>⟨zA3,ow3,ρ2,z1,rr,r3,st3,a30.trans sm (a30.trans sm1 (a30.trans sm2 sm3)),e2,po.mono (a30.trans sm1 (a30.trans sm2 sm3))⟩|rt s=>cases e2;exact po
  rcases M.bind_some e0 with ⟨o,z1,e1,e2⟩ | ⟨c,z1,e1,e2⟩
  ·obtain⟨ρ1,hbp,e3⟩:=M.a10 e1;exact fin hbp e3 e2
  ·subst e2;obtain⟨ρ1,hbp,e3⟩:=M.a10 e1;exact M31 hbp r1 hd1 λow' σ' r2 sm2=>⟨zA,ow',ρ1,z,_,r2,st1,e3,po⟩
 ·have e:i=xs.length:=by omega
  subst e;rw[drop_length] at ee;cases ee;exact .inl ⟨IT.stop H sH,po zA ow σ H rw st (a30.refl _)⟩
theorem u32(x:XS lm X G E N sc cn){p:Pat}{i:Nat}{n:Str}{b:Sm}{tg:Ð}{body:List Â3}{np pos:Pos}(hp:j70 N (G30 sc) p tg=true)(h1:N[i]?=some n)(h2:b40 n=true)(hb:PSs X body (tX X.K G E H0 zE b)) :
  PS X (.For tg (.Name n np) body [] pos) (tX X.K G E H0 zE (.fr p .seq (.cons (.var i) .nil) b)):=by
 refine PS.imp (Q41 x.own x.calm (u22 x.toXI h1 h2) (w01 x.loc hp) hb (λ_=>rfl)) λD σ H q=>?_;obtain⟨zA,ow,ρ,z,rr,rw,st,ee,po⟩:=q;have e0:M.bind (M.bind (match ρ[i]? with | some (some s)=>M.ret [plS s] | _=>M.no) λx=>M.bind (M.of (one x)) λs=>M.bind (ev G.F .nil ρ) λy=>M.ret (s::y)) (λl=>M.bind (M.of ((plA l).bind (itD .seq))) λxs=>W20 (fBody G.F zE.isNone p b) xs (t71 .seq (.cons (.var i) .nil) l ρ)) z=some rr:=ee
 cases hs:ρ[i]? with
 |none=>rw[hs] at e0;cases e0
 |some o =>
  cases o with
  |none=>rw[hs] at e0;cases e0
  |some s =>
   rw[hs] at e0;have e1:M.bind (M.of ((plA [plS s]).bind (itD .seq))) (λxs=>W20 (fBody G.F zE.isNone p b) xs ((ρ.set i ((ρ[i]?.getD none).map plS)).map (R30 (R50 [plS s])))) z=some rr:=e0;obtain⟨xs,hx,e2⟩:=M.a10 e1;have r1:=rw.plain i;have sm:=m20 (H:=hz zA H) ow i;have hi:i < ρ.length:=(ß.mp hs).1;have hsl:(ρ.set i ((ρ[i]?.getD none).map plS))[i]?=some (some (plS s)):=by rw[ì hi,hs];rfl
   obtain⟨w,k1,k2⟩:=r1.wor i _ hsl;obtain⟨ds,h3,h4⟩:=Í.mp hx;obtain⟨d,rfl,h5⟩:=w51 h3;have hd:Hd X.K (hw (ow0 ow i) (hz zA H)) d w:=by
    cases s with
    |d y=>cases h5;exact k2.2
    |fr ys=>cases h5;exact k2.2
    |z=>cases h5
   obtain⟨ow',r2,sm2⟩:∃ ow',RW X.K H0 zE zA ow' H ((ρ.set i ((ρ[i]?.getD none).map plS)).map (R30 (R50 [plS s]))) σ/\a30 (hw (ow0 ow i) (hz zA H)) (hw ow' (hz zA H)):=by
    rw[R40];cases R50 [plS s] with
    |true=>exact⟨_,r1,a30.refl _⟩|false=>exact⟨_,r1.Y10,D80 _⟩
   cases d with
   |tup l =>
    cases h4;obtain⟨a,ys,rfl,m1,m2⟩:=hd.z20;exact⟨a,k1,.inl ⟨⟨ys,(a20 zA H).sqT (a30.sqT k60 m1)⟩,f81 (w21 m1 m2) r2 st sm2 e2 (po.mono (a30.trans sm sm2))⟩⟩
   |lst l =>
    cases h4;obtain⟨a,ys,rfl,m1,m2⟩:=hd.W30;exact⟨a,k1,.inr ⟨⟨ys,((m1.same k60).same (a20 zA H)).sq⟩,f81 (e91 m1 m2) r2 st sm2 e2 (po.mono (a30.trans sm sm2))⟩⟩
   |_=>cases h4
theorem J32(x:XS lm X G E N sc cn){p:Pat}{it:It}{src:Ex}{b:Sm}{tg Ä0:Ð}{body:List Â3}{pos:Pos}(hp:j70 N (G30 sc) p tg=true)(hi:PI X tg Ä0 (tIt X.K G E it src))(hns:s20 Ä0=true)(hv:a62 it src=none)(hb:PSs X body (tX X.K G E H0 zE b)) :
  PS X (.For tg Ä0 body [] pos) (tX X.K G E H0 zE (.fr p it src b)):=by
 refine PS.imp (Q41 x.own x.calm hi (w01 x.loc hp) hb (x31 hns X.env)) λD σ H q=>?_;obtain⟨zA,ow,ρ,z,rr,rw,st,ee,po⟩:=q;have e0:M.bind (ev G.F src ρ) (λl=>M.bind (M.of ((plA l).bind (itD it))) λxs=>W20 (fBody G.F zE.isNone p b) xs ((R60 it src l ρ).map (R30 (R50 l)))) z=some rr:=ee;rcases M.bind_some e0 with ⟨l,z1,e1,e2⟩ | ⟨c,z1,e1,e2⟩
 ·obtain⟨xs,hx,e3⟩:=M.a10 e2;refine⟨zA,ρ,z,_,rw.z80,st,e1,xs,hx,λJ H1 x1 st1 IT=>?_⟩;have r1:=rw.mono x1;have frz:W20 (fBody G.F zE.isNone p b) xs (Y10 ρ) z1=some rr->_:=λe3=>f81 (G:=G) (E:=E) (D:=D) (IT (λ_=>True) (hz zA H1) (a30.refl _) (λ_ _ q=>q) (λ_ _ _ q=>q) (λds hds d hd=>by cases d <;> first | trivial | exact λ_ _=>trivial) λ_ _ q _=>q) r1.Y10 st1 (by rw[w30];exact a30.refl _) e3 (po.mono (a30.trans (c00 x1) (D80 ow)))
  rw[R40] at e3;have he:R60 it src l ρ=match k81 l with | true=>Y10 ρ | false=>ρ:=by
   unfold R60;rw[hv] <;> cases k81 l <;> rfl
  have tt:Y10 (Y10 ρ)=Y10 ρ:=by
   unfold Y10;rw[ï];refine É0 λo _=>?_
   match o with
   |none=>rfl|some (.d _)=>rfl|some (.fr _)=>rfl|some .z=>rfl
  cases hl:k81 l with
  |true =>
   rw[hl] at he;rw[he] at e3;dsimp only at e3;rw[tt,ite_self] at e3;exact frz e3
  |false =>
   rw[hl] at he;rw[he] at e3;dsimp only at e3;split at e3
   ·rename_i hbb;refine f81 (IT (λy=>bare y=true) (hw ow (hz zA H1)) k60 (λa ys q=>x71 q r1.T21) (λd v hd q=>D70 r1.T21 hd q) (λds hds d hd=>?_) λa ys q hor=>?_) r1 st1 (a30.refl _) e3 (po.mono (c00 x1))
    ·have h:=hbb;unfold R50 at h;rw[hds] at h;have:=Ú.mp h d hd;cases d with
     |tup m=>exact λy hy=>E10 this hy|lst m=>exact λy hy=>E10 this hy|_=>trivial
    ·rcases hor with ⟨hn,hm1⟩ | hm
     ·refine q10.of (i60 (d70 hm1 (st.e11 hn)) λj w=>?_);obtain⟨zs,k⟩:=rw.lst j a w;rw[hn] at k;cases k
     ·rw[hl] at hm;cases hm
   ·exact frz e3
 ·subst e2;exact⟨zA,ρ,z,_,rw.z80,st,e1,po.er_ rw⟩
end
def isQ:Sm->Bool
 |.nil=>true|.seq _ _=>true|.lams ..=>true|_=>false
def e62:Ð->Bool
 |.IfExp ..=>false|_=>true
def V02:Ð->Bool
 |.SetComp ..=>false|.DictComp ..=>false|_=>true
def mtI(lm:Bool)(fns:List (Str × List Str))(nums:List (Str × Int))(it:It)(src:Ex)(sc:í)(N:List Str)(tg Ä0:Ð):Bool:=match it with
 |.seq=>mt lm fns nums src sc N [Ä0]|.rng1=>opt (h82 Ä0) λr=>r.1.1 == ("range":Str)&&glob sc r.1.1&&mt lm fns nums src sc N [r.1.2.2.1]|.rng2=>opt (h92 Ä0) λr=>r.1.1 == ("range":Str)&&glob sc r.1.1&&mt lm fns nums src sc N [r.1.2.2.1,r.1.2.2.2.1]|.zip=>opt (h92 Ä0) λr=>r.1.1 == ("zip":Str)&&glob sc r.1.1&&l30 tg&&mt lm fns nums src sc N [r.1.2.2.1,r.1.2.2.2.1]|.enum=>opt (h82 Ä0) λr=>r.1.1 == ("enumerate":Str)&&glob sc r.1.1&&l30 tg&&mt lm fns nums src sc N [r.1.2.2.1]
def V12:(p:Pat)->Option {q:Nat × Nat // p=.tup (.cons (.v q.1) (.cons (.v q.2) .nil))}
 |.tup (.cons (.v i) (.cons (.v j) .nil))=>some ⟨(i,j),rfl⟩|_=>none
def V22:(e:Ex)->Option {q:Ex × Ex // e=.tup (.cons q.1 (.cons q.2 .nil))}
 |.tup (.cons a (.cons b .nil))=>some ⟨(a,b),rfl⟩|_=>none
def V32:(e:Ð)->Option {q:Ð × Ð × Nat × Pos // e=.Tuple [q.1,q.2.1] q.2.2.1 q.2.2.2}
 |.Tuple [a,b] k p=>some ⟨(a,b,k,p),rfl⟩|_=>none
def V42(sc:í)(p:Pat)(e:Ex)(tg v:Ð):Bool:=opt (V12 p) λ_=>opt (V22 e) λ_=>opt (N32 tg) λt=>opt (V32 v) λu =>
  !(t.1.1 == t.1.2.2.1)&&sc.names.lookup t.1.1 == some .local&&sc.names.lookup t.1.2.2.1 == some .local&&t.1.2.2.2.1.line == t.1.2.1.line&&noStar u.1.1&&noStar u.1.2.1&&!([u.1.1,u.1.2.1].all (Û0 8))&&!([u.1.1,u.1.2.1].all (constantsAlone 8))
def isNm:Ð->Bool
 |.Name ..=>true|_=>false
def setB(sc:í)(p:Pat)(e:Ex)(tg v:Ð):Bool :=
 if isNm tg then V02 v else if l30 tg then(if l30 v then(match v with | .Tuple vs _ _=>vs.all (Û0 8) | _=>false) || (match tg with | .Tuple ts _ _=>ts.any (y11 λy=>sc.names.lookup y) | _=>false) || V42 sc p e tg v else true) else false
def M91:(e:List Â3)->Option {q:Ð × Ð × Pos // e=[.Assign [q.1] q.2.1 q.2.2]}
 |[.Assign [tg] v p]=>some ⟨(tg,v,p),rfl⟩|_=>none
def J42:(e:List Â3)->Option {q:Option Ð × Pos // e=[.Return q.1 q.2]}
 |[.Return v p]=>some ⟨(v,p),rfl⟩|_=>none
def V52:(e:List Â3)->Option {q:Ð × List Â3 × List Â3 × Pos // e=[.If q.1 q.2.1 q.2.2.1 q.2.2.2]}
 |[.If c a b p]=>some ⟨(c,a,b,p),rfl⟩|_=>none
def J52:(e:List Â3)->Option {q:Ð × Ð × List Â3 × Pos // e=[.For q.1 q.2.1 q.2.2.1 [] q.2.2.2]}
 |[.For tg Ä0 body [] p]=>some ⟨(tg,Ä0,body,p),rfl⟩|_=>none
def J62:(e:List Â3)->Option {q:Ð × List Â3 × Pos // e=[.While q.1 q.2.1 [] q.2.2]}
 |[.While c body [] p]=>some ⟨(c,body,p),rfl⟩|_=>none
def u42:(e:List Â3)->Option {q:Ð × Pos // e=[.Raise (some q.1) none q.2]}
 |[.Raise (some x) none p]=>some ⟨(x,p),rfl⟩|_=>none
def e72:(e:List Â3)->Option {q:Ð × Pos // e=[.Expr q.1 q.2]}
 |[.Expr v p]=>some ⟨(v,p),rfl⟩|_=>none
def J72:(e:Ð)->Option {q:Str × Pos × Str × Nat × Pos × Pos // e=.Call (.Name q.1 q.2.1) [.Constant (.str q.2.2.1) q.2.2.2.1 q.2.2.2.2.1] [] q.2.2.2.2.2}
 |.Call (.Name n p1) [.Constant (.str y) k p2] [] p3=>some ⟨(n,p1,y,k,p2,p3),rfl⟩|_=>none
def e82:(e:Ð)->Option {q:Str × Pos × Str × Pos × Ð × Pos // e=.Call (.Attribute (.Name q.1 q.2.1) q.2.2.1 q.2.2.2.1) [q.2.2.2.2.1] [] q.2.2.2.2.2}
 |.Call (.Attribute (.Name n p) a ap) [v] [] cp=>some ⟨(n,p,a,ap,v,cp),rfl⟩|_=>none
def V62:(e:Ð)->Option {q:Str × Pos × Nat × Pos × Pos // e=.Subscript (.Name q.1 q.2.1) (.Constant (.int 0) q.2.2.1 q.2.2.2.1) q.2.2.2.2}
 |.Subscript (.Name n p) (.Constant (.int 0) c q1) tp=>some ⟨(n,p,c,q1,tp),rfl⟩|_=>none
def J82:(e:Ð)->Option {q:Str × Pos × Ð × Pos // e=.Subscript (.Name q.1 q.2.1) q.2.2.1 q.2.2.2}
 |.Subscript (.Name n p) w tp=>some ⟨(n,p,w,tp),rfl⟩|_=>none
def V72:(e:Ð)->Option {q:Str × Pos // e=.Name q.1 q.2}
 |.Name n p=>some ⟨(n,p),rfl⟩|_=>none
def u52:(e:List Â3)->Option {q:Str × Pos × Ð × Pos × Ð × Pos // e=[.AugAssign (.Subscript (.Name q.1 q.2.1) q.2.2.1 q.2.2.2.1) .Add q.2.2.2.2.1 q.2.2.2.2.2]}
 |[.AugAssign (.Subscript (.Name n p) w tp) .Add v pos]=>some ⟨(n,p,w,tp,v,pos),rfl⟩|_=>none
def N01:Ex->Bool
 |.con .non=>true|_=>false
def mtS(lm:Bool)(fns:List (Str × List Str))(nums:List (Str × Int))(cn:List Str)(sc:í)(N:List Str):Sm->List Â3->Bool
 |.nil,ss=>ss.isEmpty|.seq s r,ss=>opt ss.head? λst=>!isQ s&&isQ r&&mtS lm fns nums cn sc N s [st]&&mtS lm fns nums cn sc N r ss.tail
 |.lams i ls g e t r,ss=>match y81 lm fns nums sc N i ls g e ss with
  |some w=>isQ t&&isQ r&&mtS lm fns nums cn sc N t w.body&&mtS lm fns nums cn sc N r w.rest|none=>false
 |.set p e,ss=>opt (M91 ss) λq=>!isL e&&j70 N (G30 sc) p q.1.1&&mt lm fns nums e sc N [q.1.2.1]&&setB sc p e q.1.1 q.1.2.1
 |.ret e,ss=>opt (J42 ss) λq=>match q.1.1 with
  |some v=>!isL e&&mt lm fns nums e sc N [v]|none=>N01 e
 |.iff c t u,ss=>opt (V52 ss) λq=>!isL c&&e62 q.1.1&&isQ t&&isQ u&&mt lm fns nums c sc N [q.1.1]&&mtS lm fns nums cn sc N t q.1.2.1&&mtS lm fns nums cn sc N u q.1.2.2.1|.fr p it src b,ss=>opt (J52 ss) λq=>j70 N (G30 sc) p q.1.1&&isL src&&s20 q.1.2.1&&isQ b&&mtI lm fns nums it src sc N q.1.1 q.1.2.1&&mtS lm fns nums cn sc N b q.1.2.2.1|.whl c b,ss=>opt (J62 ss) λq=>!isL c&&e62 q.1.1&&isQ b&&mt lm fns nums c sc N [q.1.1]&&mtS lm fns nums cn sc N b q.1.2.1|.rais c,ss=>opt (u42 ss) λq=>opt (J72 q.1.1) λr=>cn[c]? == some r.1.1&&glob sc r.1.1|.exp e,ss=>opt (e72 ss) λq=>T00 q.1.1&&!isL e&&mt lm fns nums e sc N [q.1.1]|.app i e,ss=>opt (e72 ss) λq=>opt (e82 q.1.1) λr=>r.1.2.2.1 == ("append":Str)&&N[i]? == some r.1.1&&b40 r.1.1&&noStar r.1.2.2.2.2.1&&!isL e&&r.1.2.2.2.1.endLine == r.1.2.2.2.2.2.line&&mt lm fns nums e sc N [r.1.2.2.2.2.1]|.sti i ix e,ss=>opt (M91 ss) λq=>opt (J82 q.1.1) λr=>N[i]? == some r.1.1&&b40 r.1.1&&s10 r.1.2.2.1&&!isL e&&!isL ix&&mt lm fns nums e sc N [q.1.2.1]&&mt lm fns nums ix sc N [r.1.2.2.1]|.newz i f as,ss=>opt (M91 ss) λq=>opt (V72 q.1.1) λr=>N[i]? == some r.1.1&&G30 sc r.1.1&&T00 q.1.2.1&&mt lm fns nums (.call f as) sc N [q.1.2.1]|.zset i e,ss=>opt (M91 ss) λq=>opt (V62 q.1.1) λr=>N[i]? == some r.1.1&&b40 r.1.1&&!isL e&&mt lm fns nums e sc N [q.1.2.1]|.apop i j e,ss=>opt (e72 ss) λq=>opt (e82 q.1.1) λr=>opt (e82 r.1.2.2.2.2.1) λt=>r.1.2.2.1 == ("append":Str)&&t.1.2.2.1 == ("pop":Str)&&N[i]? == some r.1.1&&b40 r.1.1&&N[j]? == some t.1.1&&b40 t.1.1&&noStar t.1.2.2.2.2.1&&!isL e&&r.1.2.2.2.1.endLine == r.1.2.2.2.2.2.line&&t.1.2.2.2.1.endLine == t.1.2.2.2.2.2.line&&mt lm fns nums e sc N [t.1.2.2.2.2.1]|.augi i ix e,ss=>opt (u52 ss) λq=>N[i]? == some q.1.1&&b40 q.1.1&&s10 q.1.2.2.1&&!isL e&&!isL ix&&mt lm fns nums e sc N [q.1.2.2.2.2.1]&&mt lm fns nums ix sc N [q.1.2.2.1]
section
variable {lm:Bool}{X:Cx}{G:Gs}{E:XK}{N:List Str}{sc:í}{cn:List Str}{H0:Hp}{zE:Option Ç}
theorem J92(x:XI lm X G E N sc){it:It}{src:Ex}{tg Ä0:Ð}(hL:isL src=true)(h:mtI lm G.fns G.nums it src sc N tg Ä0=true):PI X tg Ä0 (tIt X.K G E it src):=by
 cases it with
 |seq =>
  obtain⟨a,rfl,ga⟩:=x41 hL (sound G src x h);exact T01 ga
 |rng1 =>
  obtain⟨⟨⟨n,_,a,_⟩,rfl⟩,-,h⟩:=a60 h;simp only[Á,beq_iff_eq] at h;exact w61 x h.1.1 h.1.2 hL (sound G src x h.2)
 |rng2 =>
  obtain⟨⟨⟨n,_,a,b,_⟩,rfl⟩,-,h⟩:=a60 h;simp only[Á,beq_iff_eq] at h;exact w71 x h.1.1 h.1.2 hL (sound G src x h.2)
 |zip =>
  obtain⟨⟨⟨n,_,a,b,_⟩,rfl⟩,-,h⟩:=a60 h;simp only[Á,beq_iff_eq] at h;exact x01 x h.1.2 h.1.1.1 h.1.1.2 hL (sound G src x h.2)
 |enum =>
  obtain⟨⟨⟨n,_,a,_⟩,rfl⟩,-,h⟩:=a60 h;simp only[Á,beq_iff_eq] at h;exact f21 x h.1.2 h.1.1.1 h.1.1.2 hL (sound G src x h.2)
theorem f91(h:e62 e=true):∀ t a b p,e≠.IfExp t a b p:=by
 intro t a b p he;subst he;cases h
def GS(X:Cx)(G:Gs)(E:XK)(H0:Hp)(zE:Option Ç)(s:Sm)(ss:List Â3):Prop:=(isQ s=true->PSs X ss (tX X.K G E H0 zE s))/\(isQ s=false->∃ st,ss=[st]/\PS X st (tX X.K G E H0 zE s))
theorem l40{s:Sm}{st:Â3}(hq:isQ s=false)(h:PS X st (tX X.K G E H0 zE s)):GS X G E H0 zE s [st]:=⟨λk=>(by rw[hq] at k;cases k),λ_=>⟨st,rfl,h⟩⟩
theorem e92{x:XI lm X G E N sc}{e:Ex}{elt:Ð}{gs:List Comprehension}{csc:í}{q:Pos}(h:mt lm G.fns G.nums e sc N [.ListComp elt gs csc q]=true)(hL:isL e=false):∃ tg Ä0 ifs,gs=[⟨tg,Ä0,ifs,0⟩]/\H30 X G E e elt tg Ä0 ifs csc:=by
 cases e with
 |comp own capt p it src cond el =>
  match gs,h with
  |[⟨tg,Ä0,ifs,0⟩],h=>exact⟨tg,Ä0,ifs,rfl,S90 (λx _=>sound G src x) (λx _=>sound G cond x) (λx _=>sound G el x) x h⟩
 |nil=>cases hL
 |cons _ _=>cases hL
 |bf f as=>cases f <;> cases h
 |_=>cases h
theorem f02(h:isNm e=true):∃ y p,e=.Name y p:=by
 cases e <;> first | exact⟨_,_,rfl⟩ | cases h
theorem u20(h:l30 e=true):∃ ts k p,e=.Tuple ts k p:=by
 cases e <;> first | exact⟨_,_,_,rfl⟩ | cases h
theorem K02(x:XS lm X G E N sc cn){p:Pat}{e:Ex}{tg v:Ð}{pos:Pos}(h1:(!isL e)=true)(h2:j70 N (G30 sc) p tg=true)(h3:mt lm G.fns G.nums e sc N [v]=true)(h4:setB sc p e tg v=true):PS X (.Assign [tg] v pos) (tX X.K G E H0 zE (.set p e)):=by
 have g:=a70 (b50 h1) (sound G e x.toXI h3);unfold setB at h4;split at h4
 ·rename_i hn;obtain⟨y,px,rfl⟩:=f02 hn;cases p with
  |v i =>
   unfold j70 at h2;rw[Á,beq_iff_eq] at h2;refine I22 x h2.1 h2.2 g (λelt gs csc q hv=>?_) (λa b c d hv=>?_) (λa b c d f hv=>?_)
   ·subst hv;exact e92 (x:=x.toXI) h3 (b50 h1)
   ·subst hv;cases h4
   ·subst hv;cases h4
  |tup _=>unfold j70 at h2;cases h2
  |nil=>unfold j70 at h2;cases h2
  |cons _ _=>unfold j70 at h2;cases h2
 ·split at h4
  ·rename_i ht;split at h4
   ·rename_i hv;rw[Å5,Å5] at h4;rcases h4 with (h4 | h4) | h4
    ·obtain⟨ts,k,tp,rfl⟩:=u20 ht;obtain⟨vs,k',vp,rfl⟩:=u20 hv;exact y21 x h2 g rfl (d82 h4)
    ·obtain⟨ts,k,tp,rfl⟩:=u20 ht;obtain⟨vs,k',vp,rfl⟩:=u20 hv;refine y21 x h2 g rfl (d92 ?_);have e:X.env.kindOf=λy=>sc.names.lookup y:=by funext y;unfold Env.kindOf;rw[x.sco]
     rw[e];exact h4
    ·clear g h1 ht hv;obtain⟨⟨⟨i,j⟩,rfl⟩,-,h4⟩:=a60 h4;obtain⟨⟨⟨ea,eb⟩,rfl⟩,-,h4⟩:=a60 h4;obtain⟨⟨⟨y,px,w,py,kt,tp⟩,rfl⟩,-,h4⟩:=a60 h4;obtain⟨⟨⟨a,b,kv,vp⟩,rfl⟩,-,h4⟩:=a60 h4;simp only[Á,ý,beq_iff_eq] at h4;obtain⟨⟨⟨⟨⟨⟨⟨k1,k2⟩,k3⟩,k4⟩,k5⟩,k6⟩,k7⟩,k8⟩:=h4;unfold j70 at h2;simp only[l31,j70,Á,beq_iff_eq] at h2;obtain⟨⟨_,h21,_⟩,⟨_,h22,_⟩,_⟩:=h2;have h3':(isL (.cons ea (.cons eb .nil))&&mt lm G.fns G.nums (.cons ea (.cons eb .nil)) sc N [a,b])=true:=h3;rw[Á] at h3';have ga:Good X G E (.cons ea (.cons eb .nil)) [a,b]:=sound G (.cons ea (.cons eb .nil)) x.toXI h3'.2;refine I32 x h21 h22 (by simpa using k1) k2 k3 ga (s52 x.bk ?_ ?_ (by simpa using k1) (by rw[k4];exact beq_self_eq_true _) k5 k6 k7 k8)
     ·unfold Env.kindOf;rw[x.sco];exact k2
     ·unfold Env.kindOf;rw[x.sco];exact k3
   ·rename_i hv;exact y21 x h2 g ht (d72 (by simpa using hv))
  ·cases h4
theorem y91(h:N01 e=true):e=.con .non:=by
 unfold N01 at h;split at h
 ·rfl
 ·cases h
theorem K12(x:XS lm X G E N sc cn){e:Ex}{o:Option Ð}{pos:Pos}(h:(match o with | some v=>!isL e&&mt lm G.fns G.nums e sc N [v] | none=>N01 e)=true):PS X (.Return o pos) (tX X.K G E H0 zE (.ret e)):=by
 cases o with
 |some v =>
  have h:(!isL e&&mt lm G.fns G.nums e sc N [v])=true:=h;rw[Á] at h;by_cases hv:∃ i,e=.var i
  ·obtain⟨i,rfl⟩:=hv;have h2:=h.2;cases v with
   |Name n p =>
    have h2:(N[i]? == some n&&b40 n)=true:=h2;rw[Á,beq_iff_eq] at h2;exact s62 x h2.1 h2.2
   |_=>cases h2
  ·exact I42 (λi hi=>hv ⟨i,hi⟩) (a70 (b50 h.1) (sound G e x.toXI h.2))
 |none =>
  have he:=y91 h;subst he;refine PS.imp V71 λD σ H q=>?_;obtain⟨zA,ow,ρ,z,rr,rw,st,ee,po⟩:=q;cases ee;exact po .non H (λk=>nomatch k) rw.ext (i02 rw.zok st) (show Hd X.K (hz zE H) .non .non from Hd.non)
theorem V82(x:XS lm X G E N sc cn){p:Pat}{it:It}{src:Ex}{b:Sm}{tg Ä0:Ð}{body:List Â3}{pos:Pos}(h1:j70 N (G30 sc) p tg=true)(h2:isL src=true)(h3:s20 Ä0=true)(h5:mtI lm G.fns G.nums it src sc N tg Ä0=true)(hb:PSs X body (tX X.K G E H0 zE b)) :
  PS X (.For tg Ä0 body [] pos) (tX X.K G E H0 zE (.fr p it src b)):=by
 cases hv:a62 it src with
 |some q =>
  obtain⟨i,rfl,rfl⟩:=q;have h5':(noStar Ä0&&!isL (.var i)&&isL .nil&&mt lm G.fns G.nums (.var i) sc N [Ä0]&&mt lm G.fns G.nums .nil sc N [])=true:=h5;simp only[Á] at h5';have h7:=h5'.1.2;cases Ä0 with
  |Name n np =>
   have h7:(N[i]? == some n&&b40 n)=true:=h7;rw[Á,beq_iff_eq] at h7;exact u32 x h1 h7.1 h7.2 hb
  |_=>cases h7
 |none=>exact J32 x h1 (J92 x.toXI h2 h5) h3 hv hb
theorem u62(x:XS lm X G E N sc cn):∀ (s:Sm) {ss:List Â3},mtS lm G.fns G.nums cn sc N s ss=true->GS X G E H0 zE s ss:=by
 intro s
 induction s with
 |nil =>
  intro ss h;have:ss=[]:=Ì9.mp h;subst this;exact⟨λ_=>I02,λk=>by cases k⟩
 |seq s r ihs ihr =>
  intro ss h;obtain⟨st,h0,h⟩:=a60 h;cases ss with
  |nil=>cases h0
  |cons st' rest =>
   cases h0;simp only[Á,ý,List.tail_cons] at h;obtain⟨⟨⟨h1,h2⟩,h3⟩,h4⟩:=h;obtain⟨st',he,hs⟩:=(ihs h3).2 h1;cases he;exact⟨λ_=>I12 hs ((ihr h4).1 h2),λk=>by cases k⟩
 |lams i ls g e t r iht ihr =>
  intro ss h;have h:(match y81 lm G.fns G.nums sc N i ls g e ss with
   |some w=>isQ t&&isQ r&&mtS lm G.fns G.nums cn sc N t w.body&&mtS lm G.fns G.nums cn sc N r w.rest
   |none=>false)=true:=h
  cases hw:y81 lm G.fns G.nums sc N i ls g e ss with
  |none=>rw[hw] at h;cases h
  |some w =>
   rw[hw] at h;have h:(isQ t&&isQ r&&mtS lm G.fns G.nums cn sc N t w.body&&mtS lm G.fns G.nums cn sc N r w.rest)=true:=h;simp only[Á] at h;obtain⟨⟨⟨h1,h2⟩,h3⟩,h4⟩:=h;exact⟨λ_=>u12 x hw ((iht h3).1 h1) ((ihr h4).1 h2),λk=>by cases k⟩
 |set p e =>
  intro ss h;obtain⟨⟨q,rfl⟩,-,h⟩:=a60 h;simp only[Á] at h;exact l40 rfl (K02 x h.1.1.1 h.1.1.2 h.1.2 h.2)
 |ret e =>
  intro ss h;obtain⟨⟨q,rfl⟩,-,h⟩:=a60 h;exact l40 rfl (K12 x h)
 |iff c t u iht ihu =>
  intro ss h;obtain⟨⟨q,rfl⟩,-,h⟩:=a60 h;simp only[Á] at h;obtain⟨⟨⟨⟨⟨⟨h1,h2⟩,h3⟩,h4⟩,h5⟩,h6⟩,h7⟩:=h;exact l40 rfl (U72 (a70 (b50 h1) (sound G c x.toXI h5)) (f91 h2) ((iht h6).1 h3) ((ihu h7).1 h4))
 |fr p it src b ih =>
  intro ss h;obtain⟨⟨q,rfl⟩,-,h⟩:=a60 h;simp only[Á] at h;obtain⟨⟨⟨⟨⟨h1,h2⟩,h3⟩,h4⟩,h5⟩,h6⟩:=h;exact l40 rfl (V82 x h1 h2 h3 h5 ((ih h6).1 h4))
 |whl c b ih =>
  intro ss h;obtain⟨⟨q,rfl⟩,-,h⟩:=a60 h;simp only[Á] at h;obtain⟨⟨⟨⟨h1,h2⟩,h3⟩,h4⟩,h5⟩:=h;exact l40 rfl (I82 x (a70 (b50 h1) (sound G c x.toXI h4)) (f91 h2) ((ih h5).1 h3))
 |rais c =>
  intro ss h;obtain⟨⟨⟨e,pos⟩,rfl⟩,-,h⟩:=a60 h;dsimp only at h;obtain⟨⟨⟨n,p1,y,k,p2,p3⟩,rfl⟩,-,h⟩:=a60 h;simp only[Á,beq_iff_eq] at h;exact l40 rfl (x_raise x h.1 h.2)
 |exp e =>
  intro ss h;obtain⟨⟨q,rfl⟩,-,h⟩:=a60 h;simp only[Á] at h;exact l40 rfl (I52 (a70 (b50 h.1.2) (sound G e x.toXI h.2)) h.1.1)
 |app i e =>
  intro ss h;obtain⟨⟨⟨v0,pos⟩,rfl⟩,-,h⟩:=a60 h;dsimp only at h;obtain⟨⟨⟨n,p1,a,apos,v,cpos⟩,rfl⟩,-,h⟩:=a60 h;simp only[Á,beq_iff_eq] at h;obtain⟨⟨⟨⟨⟨⟨h7,h8⟩,h2⟩,h3⟩,h4⟩,h5⟩,h6⟩:=h;subst h7;exact l40 rfl (I62 x h8 h2 h3 (a70 (b50 h4) (sound G e x.toXI h6)) (by rw[h5];exact beq_self_eq_true _))
 |sti i ix e =>
  intro ss h;obtain⟨⟨⟨tg,v,pos⟩,rfl⟩,-,h⟩:=a60 h;dsimp only at h;obtain⟨⟨⟨n,p1,w,tp⟩,rfl⟩,-,h⟩:=a60 h;simp only[Á,beq_iff_eq] at h;obtain⟨⟨⟨⟨⟨⟨h1,h2⟩,h3⟩,h4⟩,h5⟩,h6⟩,h7⟩:=h;exact l40 rfl (I72 x h1 h2 (a70 (b50 h4) (sound G e x.toXI h6)) (a70 (b50 h5) (sound G ix x.toXI h7)) h3)
 |newz i f as =>
  intro ss h;obtain⟨⟨⟨tg,v,pos⟩,rfl⟩,-,h⟩:=a60 h;dsimp only at h;obtain⟨⟨⟨y,p1⟩,rfl⟩,-,h⟩:=a60 h;simp only[Á,beq_iff_eq] at h;obtain⟨⟨⟨h1,h2⟩,h3⟩,h4⟩:=h;exact l40 rfl (s82 x h1 h2 (a70 rfl (sound G (.call f as) x.toXI h4)) h3)
 |zset i e =>
  intro ss h;obtain⟨⟨⟨tg,v,pos⟩,rfl⟩,-,h⟩:=a60 h;dsimp only at h;obtain⟨⟨⟨n,p1,c,p2,p3⟩,rfl⟩,-,h⟩:=a60 h;simp only[Á,beq_iff_eq] at h;exact l40 rfl (s92 x h.1.1.1 h.1.1.2 (a70 (b50 h.1.2) (sound G e x.toXI h.2)))
 |apop i j e =>
  intro ss h;obtain⟨⟨⟨v0,pos⟩,rfl⟩,-,h⟩:=a60 h;dsimp only at h;obtain⟨⟨⟨n,p1,a,apos,v1,cpos⟩,rfl⟩,-,h⟩:=a60 h;dsimp only at h;obtain⟨⟨⟨m,p2,b,apos',v,cpos'⟩,rfl⟩,-,h⟩:=a60 h;simp only[Á,beq_iff_eq] at h;obtain⟨⟨⟨⟨⟨⟨⟨⟨⟨⟨g1,g2⟩,g3⟩,g4⟩,g5⟩,g6⟩,g7⟩,g8⟩,g9⟩,g10⟩,g11⟩:=h;subst g1;subst g2;exact l40 rfl (t02 x g3 g4 g5 g6 g7 (a70 (b50 g8) (sound G e x.toXI g11)) (by rw[g9];exact beq_self_eq_true _) (by rw[g10];exact beq_self_eq_true _))
 |augi i ix e =>
  intro ss h;obtain⟨⟨⟨n,p1,w,tp,v,pos⟩,rfl⟩,-,h⟩:=a60 h;simp only[Á,beq_iff_eq] at h;obtain⟨⟨⟨⟨⟨⟨h1,h2⟩,h3⟩,h4⟩,h5⟩,h6⟩,h7⟩:=h;exact l40 rfl (s72 x h1 h2 (a70 (b50 h4) (sound G e x.toXI h6)) (a70 (b50 h5) (sound G ix x.toXI h7)) h3)
end
structure GX(P:Program)(w:World)(K:PySem.W.Frag)(mg:Str->Option Value)(base:Heap)(G:Gs)(cn:List Str):Prop where
 gok:∀ f nm ps,G.fns[f]?=some (nm,ps)->∃ fa fd,mg nm=some (.ref fa)/\PySem.W.keepIn K (.ref fa)=true/\Binds K fd ps []/\V90 P w K mg base (CX1 P w) G.lv fa fd ps (spF K G f ps.length)
 num:∀ p∈G.nums,∃ t,mg p.1=some (.int p.2 t)
 blt:∀ n∈c72,mg n=none
 cls:∀ c x,cn[c]?=some x->mg x=some (.ref (G.cls c))/\PySem.W.excIn K (G.cls c) [.type "ValueError",.type "Exception",.type "BaseException",.type "object"] "ValueError.__new__"=true
section
variable {P:à}{w:ê}{K:Â}{mg:Str->Option Ä}{base:ë}{G:Gs}{cn:List Str}
structure z82(P:Program)(w:World)(K:PySem.W.Frag)(mg:Str->Option Value)(base:Heap)(cls:Nat->Addr)(fR:Addr)(fdR:FuncData):Prop where
 bm:BMain mg base
 cls:∀ j,j < 12->Q80 K mg (cls j) j
 m:mg "_law_refused"=some (.ref fR)
 kp:PySem.W.keepIn K (.ref fR)=true
 bd:Binds K fdR ["_law_call"] []
 fn:∀ k,Q60 P w K mg base CX0 (k + 2) fR fdR ["_law_call"] (Z61 P w K mg base (k + 1))
def z92(K:Â)(nm:Str)(fd:Â5):Prop:=∃ (c P:Ç) (q:Str),fd.code=.ref c/\Ã7 K c P=true/\(∀ sc n f cd,(Ï8 nm sc n f cd).qual++"<lambda>"=q)/\(P,q)∈TB.tb/\∀ p∈TB.tb,p.1=P->p.2=q
def Low(P:à)(w:ê)(K:Â)(mg:Str->Option Ä)(base:ë)(G:Gs)(k:Nat):Prop:=∀ f nm ps,G.fns[f]?=some (nm,ps)->∃ fa fd,mg nm=some (.ref fa)/\Ë0 K (.ref fa)=true/\Binds K fd ps []/\V90 P w K mg base (CX1 P w) k fa fd ps (spF K (lowG G k) f ps.length)
theorem u72(g:GX P w K mg base G cn){lm:Bool}{N ps:List Str}{qual:Str}{sc:í}{f:Ç}{fd:Â5}{cd:Ä}{A:ö}{outer:List È7}{s:Æ}{H:Hp}{E:XK}(S:k30 N ps sc)(hl:N.all (G30 sc)=true)
  (hr:v50 G.lv (A.deeper (Ï8 qual sc s.heap.objs.size f cd))) (hc:fd.code=cd) (hlam:lm=true->∃ k fR fdR,G.lv=k + 2/\z82 P w K mg base G.cls fR fdR/\z92 K qual fd/\Low P w K mg base G k):XS lm (F70 (CX1 P w) P w K mg base N qual sc f cd A outer s H E) G E N sc cn where
 gok:=g.gok
 num:=g.num
 blt:=g.blt
 hN:=rfl
 nd:=S.nd
 vis:=λx hx=>by
  have:=Ú.mp hl x hx;unfold G30 at this;rw[Å5,beq_iff_eq,beq_iff_eq] at this;rcases this with h | h
  ·exact .inl h
  ·exact .inr (.inl h)
 glb:=λx h=>h
 cel:=λx h=>h
 calm:=rfl
 room:=hr
 pas:=D52
 lam:=λh=>by
  obtain⟨k,fR,fdR,e1,L,⟨c,P',q,d1,d2,d3,d4,d5⟩,lo⟩:=hlam h;exact⟨c,P',q,k,fR,fdR,rfl,hc.symm.trans d1,d2,d3 _ _ _ _,d4,d5,L.bm,e1,L.cls,L.m,L.kp,L.bd,L.fn k,lo⟩
 sco:=rfl
 fnk:=S.kind
 own:=PassesOwn.leaving
 can:=r81
 fnx:=λ_=>rfl
 cls:=g.cls
theorem V92{x qual:Str}{st:Â3}{f:Ç}{fd:Â5}{N ps:List Str}{k:Nat}{sp:Sp}(F:Fun K x qual st f fd)(S:k30 N ps (c20 st))(len:∀ vs H Q E,sp vs H Q E->vs.length=ps.length)
  (hb:∀ (cdv:Ä),fd.code=cdv->∀ (A:ö) (outer:List È7) (s:Æ) (H:Hp) (vs:List V) (Q:VK) (E:XK),v50 k (A.deeper (Ï8 qual (c20 st) s.heap.objs.size f cdv))->sp vs H Q E ->
   ∃ t,PSs (F70 (CX1 P w) P w K mg base N qual (c20 st) f cdv A outer s H E) (i00 st) t/\t { nx:=λ_ H'=>Q .non H',rt:=Q } (L2.start N vs) H):V90 P w K mg base (CX1 P w) (k + 1) f fd ps sp:=by
 obtain⟨oc,od,kV,doc,pm,an,cdv,ct,osl,rfl,lk,hcd⟩:=F.ex;exact C02 lk hcd S len λA outer s H vs Q E hr hsp=>hb cdv rfl A outer s H vs Q E hr hsp
theorem g01:∀ {ss:List S}{vs:List V}{i:Nat}{s:S}{n:Nat},RvA K zA H ss vs->(ss.map some++î n none)[i]?=some (some s)->∃ v,(vs.map some++î n none)[i]?=some (some v)/\RvP K zA H s v
 |[],_,i,s,n,h,e=>by
  cases h;simp only[map_nil,Í1] at e;rw[Ò7] at e;split at e <;> cases e
 |a::ss,_,0,s,n,h,e=>by
  cases h with
  |cons h1 h2 =>
   simp only[Å6,List.cons_append,Ë2] at e;cases e;exact⟨_,rfl,h1⟩
 |a::ss,_,i + 1,s,n,h,e=>by
  cases h with
  |cons h1 h2 =>
   obtain⟨v,k1,k2⟩:=g01 (i:=i) (s:=s) (n:=n) h2 (by simpa using e)
   exact⟨v,by simpa using k1,k2⟩
theorem Á8.len{α β:Type}{R:α->β->Prop}:∀ {l:List α}{m:List β},Á8 R l m->l.length=m.length
 |[],_,h=>by cases h;rfl
 |_::_,_,h=>by
  cases h with
  |cons h1 h2=>simp[Á8.len h2]
theorem N11(h:RvA K zA H ss vs)(hn:∀ s∈ss,∀ xs,s≠.fr xs):RW K H zA zA (λ_=>none) H (Q.start N.length ss) (L2.start N vs):=by
 have hl:ss.length=vs.length:=Á8.len h;refine⟨?_,λi j a e=>(nomatch e),λi a e=>(nomatch e),λi a e=>(nomatch e),λi s e=>?_,Ext.refl,.inl rfl,λi a e=>(nomatch e)⟩
 ·unfold Q.start L2.start;simp[hl]
 ·unfold Q.start at e;obtain⟨v,k1,k2⟩:=g01 h e;refine⟨v,?_,?_⟩
  ·unfold L2.start;rw[← hl];exact k1
  ·cases s with
   |d x=>exact⟨rfl,by rw[w30];exact k2⟩|z=>exact⟨rfl,k2⟩
   |fr xs =>
    rcases Â7.mp (â e) with q | q
    ·obtain⟨s',q1,q2⟩:=Ù.mp q;cases q2;exact absurd rfl (hn _ q1 xs)
    ·cases List.eq_of_mem_replicate q
theorem f12(st:d30 zA z H):z52 zA z1=L30 z z1:=by
 have st:=st.zat;cases zA with
 |none =>
  cases z with
  |none=>rfl|some p=>exact st.elim
 |some a =>
  cases z with
  |none=>exact st.elim|some p=>rfl
theorem z01(st:d30 zA z H):z.isNone=zA.isNone:=by
 have st:=st.zat;cases zA with
 |none =>
  cases z with
  |none=>rfl|some p=>exact st.elim
 |some a =>
  cases z with
  |none=>exact st.elim|some p=>rfl
theorem z11(g:GX P w K mg base G cn){lm:Bool}{N ps:List Str}{nm:Str}{st:Â3}{fa:Ç}{fd:Â5}{b:Sm}{f:Nat}{F':FT}(Fn:Fun K nm nm st fa fd)(Sc:k30 N ps (c20 st))(hl:N.all (G30 (c20 st))=true)
  (ch:mtS lm G.fns G.nums cn (c20 st) N b (i00 st)=true) (hq:isQ b=true) (hlam:lm=true->∃ k fR fdR,G.lv=k + 2/\z82 P w K mg base G.cls fR fdR/\z92 K nm fd/\Low P w K mg base G k)
  (hF:∀ l z,F' false f l z=run G.F (.code ps.length N.length b) l z):V90 P w K mg base (CX1 P w) (G.lv + 1) fa fd ps (spF K { G with F:=F',lv:=G.lv + 1 } f ps.length):=by
 refine V92 Fn Sc (λvs H Q E h=>h.1) λcdv hcd A outer s H vs Qv E hr hsp=>?_;obtain⟨hlen,zA,z,ss,r,rv,st',e,po⟩:=hsp;refine⟨_,(u62 (H0:=H) (zE:=zA) (u72 g Sc hl hr hcd hlam) b ch).1 hq,?_⟩;have e0:(if ss.length=ps.length/\ps.length<=N.length then(match ex G.F z.isNone b (Q.start N.length (ss.map plS)) z with
  |some (.ok (.nx _) z1)=>some (R.ok (S.d .non) (L30 z z1))|some (.ok (.rt s) z1)=>some (R.ok s (L30 z z1))|some (.er c z1)=>some (R.er c (L30 z z1))
  |none=>none) else none)=some r:=by
  have:=hF ss z;exact this.symm.trans e
 rw[z01 st'] at e0;split at e0
 ·have rw0:RW K H zA zA (λ_=>none) H (Q.start N.length (ss.map plS)) (L2.start N vs):=N11 rv.plS λs hs xs=>by
   obtain⟨s',_,rfl⟩:=Ù.mp hs;cases s' <;> exact λh=>nomatch h
  split at e0
  ·rename_i ρ z1 e1;cases e0;refine⟨zA,_,_,z,_,rw0,st',e1,λzA' ow' σ' H' r' st1 _=>?_⟩;refine po .non H' r'.ext ?_ (show Hd K (hz zA H') .non .non from Hd.non);rw[← f12 st'];exact i02 r'.zok st1
  ·rename_i s1 z1 e1;cases e0;refine⟨zA,_,_,z,_,rw0,st',e1,λv H' nz x st1 rv'=>?_⟩;exact po v H' x (by rw[← f12 st'];exact st1) rv'
  ·rename_i c z1 e1;cases e0;refine⟨zA,_,_,z,_,rw0,st',e1,λe H' x st1 hn=>?_⟩;exact po e H' x (by rw[← f12 st'];exact st1) hn
  ·cases e0
 ·cases e0
def lev(G:Gs)(T:List Df)(k:Nat):Gs:={ G with F:=O20 T k,lv:=k }
theorem u82{T:List Df}(num:∀ p∈G.nums,∃ t,mg p.1=some (.int p.2 t))(blt:∀ n∈c72,mg n=none)
  (cls:∀ c x,cn[c]?=some x->mg x=some (.ref (G.cls c))/\Ì5 K (G.cls c) [.type "ValueError",.type "Exception",.type "BaseException",.type "object"] "ValueError.__new__"=true)
  (hd:∀ (f:Nat) (nm:Str) (ps:List Str),G.fns[f]?=some (nm,ps)->∃ (fa:Ç) (fd:Â5),mg nm=some (.ref fa)/\Ë0 K (.ref fa)=true/\Binds K fd ps [] /\
   ((∃ (lm:Bool) (N:List Str) (st:Â3) (b:Sm),T[f]?=some (Df.code ps.length N.length b)/\Fun K nm nm st fa fd/\k30 N ps (c20 st)/\N.all (G30 (c20 st))=true/\isQ b=true/\mtS lm G.fns G.nums cn (c20 st) N b (i00 st)=true/\(lm=true->∃ fR fdR,z82 P w K mg base G.cls fR fdR/\z92 K nm fd)) ∨
    T[f]?=none)):∀ k,GX P w K mg base (lev G T k) cn:=by
 have zero:∀ k,k < 3->GX P w K mg base (lev G T k) cn:=λk hk=>by
  refine⟨λf nm ps h=>?_,num,blt,cls⟩;obtain⟨fa,fd,h1,h2,h3,_⟩:=hd f nm ps h;refine⟨fa,fd,h1,h2,h3,λvs H Q E q=>q.1,λA outer s H args us vs Q E hr he hb hv hs=>?_⟩;obtain⟨_,zA,z,ss,r,_,_,e,_⟩:=hs
  match k,hk with
  |0,_=>cases e
  |1,_=>cases e
  |2,_=>cases e
 intro k
 induction k using Nat.strongRecOn with
 |ind k ih =>
  match k,ih with
  |0,_=>exact zero 0 (-0)|1,_=>exact zero 1 (-0)|2,_=>exact zero 2 (-0)
  |k + 3,ih =>
   refine⟨λf nm ps h=>?_,num,blt,cls⟩;obtain⟨fa,fd,h1,h2,h3,h4⟩:=hd f nm ps h;refine⟨fa,fd,h1,h2,h3,?_⟩;rcases h4 with ⟨lm,N,st,b,k1,k2,k3,k4,k5,k6,k7⟩ | h4
   ·refine z11 (G:=lev G T (k + 2)) (F':=O20 T (k + 3)) (ih (k + 2) ∅) k2 k3 k4 k6 k5 (λhlm=>?_) λl z=>?_
    ·obtain⟨fR,fdR,L,D⟩:=k7 hlm;exact⟨k,fR,fdR,rfl,L,D,λf nm ps h=>(ih k ∅).gok f nm ps h⟩
    ·show(match T[f]? with | some d=>run (O20 T (k + 2)) d l | none=>M.no) z=_
     rw[k1];rfl
   ·refine⟨λvs H Q E q=>q.1,λA outer s H args us vs Q E hr he hb hv hs=>?_⟩;obtain⟨_,zA,z,ss,r,_,_,e,_⟩:=hs;have e':(match T[f]? with | some d=>run (O20 T (k + 2)) d ss | none=>M.no) z=some r:=e
    rw[h4] at e';cases e'
end
end Q
namespace L2
open PySem PySem.W PySem.Calls PyProof.Rows
def E20(thr sok:Thread->Bool)(stp:SharedT->Thread->Option (SharedT × Thread)):Nat->SharedT->Thread->Option SharedT
 |0,_,_=>none
 |n + 1,s,t=>match thr t with
  |true=>some s
  |false=>match sok t with
   |false=>none
   |true=>match stp s t with
    |some (s',t')=>E20 thr sok stp n s' t'|none=>none
theorem T30:∀ {n:Nat}{s s':SharedT}{t:Thread},E20 through (stepOk n₀ ann) (stepT (denote tb) p w) n s t=some s'->topRun tb p w n₀ ann n s.abs t=some s'.abs
 |0,_,_,_,h=>by cases h
 |n + 1,s,s',t,h=>by
  unfold E20 at h;unfold topRun;cases ht:through t with
  |true=>rw[ht] at h;cases h;rfl
  |false =>
   rw[ht] at h;cases hok:stepOk n₀ ann t with
   |false=>rw[hok] at h;cases h
   |true =>
    rw[hok] at h;cases hst:stepT (denote tb) p w s t with
    |none=>rw[hst] at h;cases h
    |some r=>obtain⟨s₂,t₂⟩:=r;rw[hst] at h;rw[stepT_spec hst];exact T30 h
def grow:List Obj->Nat->BT->BT
 |[],_,t=>t|o::r,i,t=>grow r (i + 1) (t.ins i o)
def f22(w:ê)(os:OsState):SharedT:=⟨grow (Ê5 w.params).objs.toList 0 .nil,11,(Ê5 w.params).life,Array.mk [],boot_drawn,boot_toks,os⟩
theorem z21:∀ (w:ê) (os:OsState),(f22 w os).abs=⟨Ê5 w.params,Array.mk [],boot_drawn,boot_toks,os⟩:=λw os=>by kernel_rfl
theorem z31:∀ w:ê,((Ê5 w.params).isNs æ&&(Array.mk []:Array Ý2).size == 0,(Ê5 w.params).objs.size,(Ê5 w.params).nsMap æ "__annotations__")=(true,11,some (.ref 6)):=λw=>by kernel_rfl
theorem f32{p q:à}{loose:List Str}{Xt:Æ->Bool}{α:Type}{Yf:Æ->α}{Ya:ê->α}{N:Nat}
  (e:opening p=plainProg p.main.scope.names) (hN:ble 600 N=true) (f:∀ s,fenceModules? p s=some s)
  (run:∀ (w:ê) (os:OsState),(E20 through (stepOk 11 (some (.ref 6))) (stepT (denote treeTable) p w) N (f22 w os) (topStub p)).map (λs =>
   (staticsOk (Ï7 p.main.body) (Ê5 w.params) s.abs.heap&&namesBound p s.abs.heap&&gensDone s.abs&&laidKept (Ê5 w.params) s.abs.heap,
    openSeen q loose (Ï7 p.main.body) Xt true s.abs,Yf s.abs))=some (true,openGood q loose,Ya w)):LeftO p q loose Xt Yf Ya N:=λw=>by
 obtain⟨⟨h,gs,d,k,os⟩,e1,e2⟩:=É.mp (boot_open (N:=N) e hN f w);obtain⟨rfl,rfl,rfl,rfl⟩:h=Ê5 w.params/\gs=Array.mk []/\d=boot_drawn/\k=boot_toks:=by simpa using e2
 obtain⟨z1,z2,z3⟩:_/\_/\_:=by simpa only [Ð2] using z31 w
 obtain⟨s1,r1,r2⟩:=É.mp (run w os);obtain⟨l1,l2,l3⟩:_/\_/\_:=by simpa only [Ð2] using r2
 have r:=T30 r1;rw[z21] at r;unfold openEnds;rw[e1];show Ì6 _ (topFrom treeTable p w N _)=_;unfold topFrom;dsimp only;rw[z1,z2,z3,r];show Ì6 _ (match staticsOk (Ï7 p.main.body) (Ê5 w.params) s1.abs.heap&&namesBound p s1.abs.heap&&gensDone s1.abs&&laidKept (Ê5 w.params) s1.abs.heap with | true=>_ | false=>_)=_
 rw[l1];exact congrArg Option.some (Prod.ext l2 l3)
def T40(o:Obj):Bool:=match o with
 |⟨.none,none,.fields vs,sl⟩=>vs.isEmpty&&sl.isEmpty|_=>false
def K22(h:ë)(a:Ç):Option Obj:=match h.get? a with
 |some o=>if T40 o then none else some o|none=>none
def fragOf(h:ë):Frag:=(ð h.objs.size).filterMap λa=>(K22 h a).map λo=>(a,o)
theorem u30(g:Ç->Option Obj)(a:Ç):∀ l:List Ç,(l.filterMap λa=>(g a).map λo=>(a,o)).lookup a=if a∈l then g a else none
 |[]=>rfl
 |b::r=>by
  by_cases hb:a=b
  ·subst hb;rw[if_pos Ì];cases hg:g a with
   |none =>
    rw[Á5,hg];show(r.filterMap λa=>(g a).map λo=>(a,o)).lookup a=none;rw[u30 g a r];split
    ·exact hg
    ·rfl
   |some o =>
    rw[Á5,hg];show Í3 a ((a,o)::_)=some o;rw[List.lookup_cons_self]
  ·have hm:(a∈b::r)↔a∈r:=by rw[Ã1];exact⟨λh=>h.resolve_left hb,Õ9⟩
   have ih:=u30 g a r;have e:(if a∈b::r then g a else none)=if a∈r then g a else none:=by simp only[hm]
   rw[e,← ih];cases hg:g b with
   |none=>rw[Á5,hg];rfl
   |some o =>
    rw[Á5,hg];show Í3 a ((b,o)::_)=_;have:(a == b)=false:=by simpa using hb
    simp only[Í3,this]
theorem z41(h:ë):(fragOf h).In h:=λa o e=>by
 unfold fragOf at e;rw[u30] at e;split at e
 ·unfold K22 at e;cases hg:h.get? a with
  |none=>rw[hg] at e;cases e
  |some u =>
   rw[hg] at e;dsimp only at e;split at e
   ·cases e
   ·exact e
 ·cases e
theorem f42(h:T40 o=true):o=tabObj #[]:=by
 unfold T40 at h;split at h
 ·rename_i vs sl;rw[Á,Array.isEmpty_iff,Array.isEmpty_iff] at h;obtain⟨rfl,rfl⟩:=h;rfl
 ·cases h
theorem l61(e:h.get? a=some o)(t:T40 o=true):(fragOf h).lookup a=none:=by
 unfold fragOf;rw[u30];split
 ·unfold K22;rw[e];exact if_pos t
 ·rfl
def z51(K:Frag)(x:Str):Option (Str × Str × È6 × FuncBody × í × Ç × List (Str × Ç) × Ä × Ç × Bool):=match nsIn K æ x with
 |some (some (.ref at0))=>(match K.lookup at0 with
  |some ⟨_,_,.func fd,_⟩=>some (fd.name,fd.qualname,fd.params,fd.body,fd.scope,fd.globals,fd.closure,fd.defaults,fd.builtins,codeIn K fd.code x)
  |_=>none)
 |_=>none
def f52(x:Str)(st:Â3):Option (Str × Str × È6 × FuncBody × í × Ç × List (Str × Ç) × Ä × Ç × Bool):=some (x,x,J30 st,.stmts (i00 st),c20 st,æ,[],.none,Ê0,true)
theorem Z40{K:Frag}{x:Str}{st:Â3}(e:z51 K x=f52 x st):∃ f fd,nsIn K æ x=some (some (.ref f))/\Fun K x x st f fd/\∃ oc od sl,K.lookup f=some ⟨oc,od,.func fd,sl⟩:=by
 unfold z51 f52 at e;split at e
 ·rename_i f hf;split at e
  ·rename_i oc od fd sl hl;obtain⟨nm,qn,pm,bd,sc,gl,cl,df,kd,dc,py,an,cd,ct,bl⟩:=fd;simp only[Ð2,Ê2] at e;obtain⟨rfl,rfl,rfl,rfl,rfl,rfl,rfl,rfl,rfl,hc⟩:=e;exact⟨f,_,hf,⟨⟨oc,od,kd,dc,py,an,cd,ct,sl,rfl,hl,hc⟩,by simp only[keepIn,hl]⟩,oc,od,sl,hl⟩
  ·cases e
 ·cases e
def tab0At(h:ë)(T:Ç):Bool:=match h.get? T with
 |some o=>T40 o|none=>false
theorem z61{h:ë}{T:Ç}(e:tab0At h T=true):h.get? T=some (tabObj #[]):=by
 unfold tab0At at e;split at e
 ·rename_i o ho;rw[ho,f42 e]
 ·cases e
def z71(h:ë)(K:Frag)(x:Str):Option Addr:=match nsIn K æ x with
 |some (some (.ref at0))=>(match K.lookup at0 with
  |some ⟨_,_,.func fn0,_⟩=>(match fn0.code with
   |.ref c=>(match K.lookup c with
    |some ⟨_,_,.fields vs,_⟩=>(match (vs[11]?:Option Ä) with
     |some (.ref T)=>if codeHdIn K c T&&tab0At h T then some T else none
     |_=>none)
    |_=>none)
   |_=>none)
  |_=>none)
 |_=>none
theorem l71{h:ë}{K:Frag}{x:Str}{T:Ç}(e:z71 h K x=some T):h.get? T=some (tabObj #[])/\∃ f oc od fd sl c,nsIn K æ x=some (some (.ref f))/\K.lookup f=some ⟨oc,od,.func fd,sl⟩/\fd.code=.ref c/\codeHdIn K c T=true:=by
 unfold z71 at e;split at e
 ·rename_i f hf;split at e
  ·rename_i oc od fd sl hl;split at e
   ·rename_i c hc;split at e
    ·split at e
     ·rename_i T' _;split at e
      ·rename_i q;cases e;rw[Á] at q;obtain⟨q1,q2⟩:=q;exact⟨z61 q2,f,oc,od,fd,sl,c,hf,hl,hc,q1⟩
      ·cases e
     ·cases e
    ·cases e
   ·cases e
  ·cases e
 ·cases e
def h60:List Str:=["NoWeb","NoLot","NoPlaces","NoPlace","NoTie","NoChance","NoChances","NoPaper","TooMany","NoText","NoLine","NoDeed"]
def T50(K:Frag)(x:Str):Option Addr:=match nsIn K æ x with
 |some (some (.ref f))=>some f|_=>none
theorem M50{K:Frag}{x:Str}{f:Ç}(e:T50 K x=some f):nsIn K æ x=some (some (.ref f)):=by
 unfold T50 at e;split at e
 ·cases e;assumption
 ·cases e
abbrev N72:=Option (Option Ä) × Option (Option Ä) × Option Bool × Option Bool × Option (Option Ä) × Bool × Option Bool × Option Bool × Bool × List (Option Bool)
def Z50(K:Frag)(C:Ç):N72:=(findIn K (.ref C) "__getattribute__",findIn K (.ref C) "__getattr__",mroIn K C (.type "BaseException"),mroIn K C (.type "object"),findIn K (.ref C) "__class__",hasDictIn K C,kitOne K (.ref C) (.type "ValueError"),
 (T50 K "ChanceError").bind λD=>exmOne K (.ref C) (.ref D),excIn K C [.type "ValueError",.type "Exception",.type "BaseException",.type "object"] "ValueError.__new__",h60.map λy=>(T50 K y).bind λB=>kitOne K (.ref C) (.ref B))
def z81(x:Str):N72:=(some (some (Ñ2 "BaseException.__getattribute__")),some (none:Option Ä),some true,some true,some (some (Ñ2 "object.__class__")),true,some true,some true,true,h60.map λy=>some (decide (x=y)))
def Z60(K:Frag)(x:Str):Option Int:=match nsIn K æ x with
 |some (some (.int i _))=>some i|_=>none
theorem Z70{K:Frag}{x:Str}{i:Int}(e:Z60 K x=some i):∃ t,nsIn K æ x=some (some (.int i t)):=by
 unfold Z60 at e;split at e
 ·rename_i t h;cases e;exact⟨t,h⟩
 ·cases e
def Z80(K:Frag)(x:Str):Bool:=match nsIn K æ x with
 |some none=>true|_=>false
theorem Z90{K:Frag}{x:Str}(e:Z80 K x=true):nsIn K æ x=some none:=by
 unfold Z80 at e;split at e
 ·assumption
 ·cases e
structure n60 where
 ds:List (Str × Stmt)
 is:List (Str × Int)
 ns:List Str
 ms:List Str
 cs:List Str
def n60.obs(q:n60)(s:Æ) :=
 let K:=fragOf s.heap
 (q.ds.map λd=>z51 K d.1,q.is.map λd=>Z60 K d.1,q.ns.map (Z80 K),q.ms.map λx=>(z71 s.heap K x).isSome,q.cs.map λx=>(T50 K x).map (Z50 K),
  (specialIn K (.builtin "object.__class__") "__get__",takesIn K (.builtin "object.__class__")))
def n60.due(q:n60)(_:ê) :=
 (q.ds.map λd=>f52 d.1 d.2,q.is.map λd=>some d.2,q.ns.map λ_=>true,q.ms.map λ_=>true,q.cs.map λx=>some (z81 x),
  (some (some (Ñ2 "getset_descriptor.__get__")),some true))
structure Facts(q:n60)(K:Frag)(h:Heap):Prop where
 fn:∀ d∈q.ds,∃ f fd,nsIn K mainGlobals d.1=some (some (.ref f))/\Fun K d.1 d.1 d.2 f fd/\∃ oc od sl,K.lookup f=some ⟨oc,od,.func fd,sl⟩
 it:∀ d∈q.is,∃ t,nsIn K mainGlobals d.1=some (some (.int d.2 t))
 no:∀ x∈q.ns,nsIn K mainGlobals x=some none
 mt:∀ x∈q.ms,∃ T,h.get? T=some (tabObj #[])/\K.lookup T=none/\∃ f oc od fd sl c,nsIn K mainGlobals x=some (some (.ref f))/\K.lookup f=some ⟨oc,od,.func fd,sl⟩/\fd.code=.ref c/\codeHdIn K c T=true
 cl:∀ x∈q.cs,∃ C,nsIn K mainGlobals x=some (some (.ref C))/\Z50 K C=z81 x
 sp:specialIn K (.builtin "object.__class__") "__get__"=some (some (Value.builtin "getset_descriptor.__get__"))
 tk:takesIn K (.builtin "object.__class__")=some true
theorem H40{α β:Type}{f g:α->β}:∀ {l:List α},l.map f=l.map g->∀ a∈l,f a=g a:=λ{l} h a ha=>List.map_inj_left.mp h a ha
theorem n60.facts(q:n60)(w:ê)(s:Æ)(e:q.obs s=q.due w):Facts q (fragOf s.heap) s.heap:=by
 unfold n60.obs n60.due at e;simp only[Ð2] at e;obtain⟨e1,e2,e3,e4,e5,e6,e7⟩:=e;refine⟨λd hd=>Z40 (H40 e1 d hd),λd hd=>Z70 (H40 e2 d hd),λx hx=>Z90 (H40 e3 x hx),λx hx=>?_,λx hx=>?_,e6,e7⟩
 ·obtain⟨T,hT⟩:=Ý8.mp (H40 e4 x hx);obtain⟨h1,h2⟩:=l71 hT;exact⟨T,h1,l61 h1 rfl,h2⟩
 ·obtain⟨C,h1,h2⟩:=É.mp (H40 e5 x hx);exact⟨C,M50 h1,h2⟩
def n60.hook(q:n60):Hook where
 α:=_
 obs:=q.obs
 val:=q.due
 says:=λ_ h=>∃ K:Frag,K.In h/\Facts q K h
 of:=λw s e=>⟨_,z41 _,q.facts w s e⟩
 keeps:=λ_ h h' ⟨K,X,F⟩ k=>⟨K,X.keeps k,⟨F.fn,F.it,F.no,λx hx=>let ⟨T,a,b⟩:=F.mt x hx;⟨T,k _ _ a,b⟩,F.cl,F.sp,F.tk⟩⟩
end L2
namespace Q
open PySem L2 PySem.Spec PyProof.Rows
structure Row where
 nm:Str
 ps:List Str
 st:Stmt
 N:List Str
 b:Sm
 lm:Bool
def z91(N ps:List Str)(sc:í):Bool:=sc.kind == .function&&!sc.isCoroutine&&!sc.isGenerator&&decide N.Nodup&&N.take ps.length == ps&&ps.all (λx=>sc.names.lookup x == some .local || sc.names.lookup x == some .cell)&&sc.names.all λy=>y.2 != .free
theorem g21(h:z91 N ps sc=true):k30 N ps sc:=by
 unfold z91 at h;simp only[Á,ý,beq_iff_eq,Å2,decide_eq_true_eq,Å5] at h;obtain⟨⟨⟨⟨⟨⟨h1,h2⟩,h3⟩,h4⟩,h5⟩,h6⟩,h7⟩:=h;exact⟨h1,h2,h3,h4,h5,h6,λy hy=>by simpa using h7 y hy⟩
def A01(r:Row):Prop:=∀ (kV doc pm:Ä) (an:Option Ç) (cdv ct:Ä) (us:List Ä),us.length=r.ps.length->bindArgs (fnOf r.nm r.nm (J30 r.st) (i00 r.st) (c20 r.st) .none kV doc pm an cdv ct) ⟨us,[]⟩=pure (r.ps.zip us)
def o80:List Row->Prop
 |[]=>True|r::l=>A01 r/\o80 l
theorem o80.at:∀ {l:List Row}{r:Row},o80 l->r∈l->A01 r
 |_::_,_,h,.head _=>h.1|_::_,_,h,.tail _ m=>o80.at h.2 m
theorem us1(h:us.length=1):∃ a,us=[a]:=List.length_eq_one_iff.mp h
theorem us2(h:us.length=2):∃ a b,us=[a,b]:=by
 match us,h with
 |[a,b],_=>exact⟨a,b,rfl⟩
theorem us3(h:us.length=3):∃ a b c,us=[a,b,c]:=by
 match us,h with
 |[a,b,c],_=>exact⟨a,b,c,rfl⟩
theorem us4(h:us.length=4):∃ a b c d,us=[a,b,c,d]:=by
 match us,h with
 |[a,b,c,d],_=>exact⟨a,b,c,d,rfl⟩
def i22(fns:List (Str × List Str))(nums:List (Str × Int))(r:Row):Bool:=mtS r.lm fns nums h60 (c20 r.st) r.N r.b (i00 r.st)&&isQ r.b&&r.N.all (G30 (c20 r.st))&&z91 r.N r.ps (c20 r.st)
def G40(rows:List Row):List (Str × List Str):=rows.map λr=>(r.nm,r.ps)
def tabOf(rows:List Row):List Df:=rows.map λr=>Df.code r.ps.length r.N.length r.b
def H50(rows:List Row)(nums:List (Str × Int))(mn:List Str)(ex:List (Str × Â3)):n60:=⟨rows.map (λr=>(r.nm,r.st))++ex,nums,"ValueError"::c72,mn,h60⟩
def clsAt(K:Â)(c:Nat):Addr:=(T50 K (h60.getD c "")).getD 0
theorem u92{K:Â}{C:Ç}{c:Nat}{x:Str}(hc:h60[c]?=some x)(h:Ò2 K æ x=some (some (.ref C))):clsAt K c=C:=by
 unfold clsAt;rw[Ò,hc];show(T50 K x).getD 0=C;unfold T50;rw[h];rfl
theorem v02{K:Â}{h:ë}{mg:Str->Option Ä}{q:n60}{x:Str}{j:Nat}(X:K.In h)(G:h.Ns æ mg)(F:Facts q K h)(hx:x∈q.cs)(hj:names12[j]?=some x)(hv:("ValueError":Str)∈q.ns):∃ C,Ò2 K æ x=some (some (.ref C))/\Q80 K mg C j/\Ì5 K C [.type "ValueError",.type "Exception",.type "BaseException",.type "object"] "ValueError.__new__"=true:=by
 obtain⟨C,hC,e⟩:=F.cl x hx;unfold Z50 z81 at e;simp only[Ð2] at e;obtain⟨u1,u2,u3,u4,u5,hd,ve,ce,ex,ys⟩:=e;obtain⟨D,hD,ce⟩:=Í.mp ce;have lt:j < 12:=(ß.mp hj).1;refine⟨C,hC,⟨λi y hy=>?_,⟨u1,u2,u3,u4,u5,F.sp,F.tk⟩,hd,ve,mg_none_of X G (F.no _ hv),⟨D,mg_of X G (M50 hD),ce⟩,lt⟩,ex⟩;have hm:=H40 ys y (â hy);obtain⟨B,hB,hk⟩:=Í.mp hm;refine⟨B,mg_of X G (M50 hB),hk.trans (congrArg some (decide_eq_decide.mpr ⟨λq=>?_,λq=>?_⟩))⟩
 ·subst q;have nd:names12.Nodup:=by decide +kernel
  exact(List.getElem?_inj (ß.mp hy).1 nd).mp (hy.trans hj.symm)
 ·subst q;rw[hj] at hy;cases hy;rfl
section
variable {P:à}{w:ê}{K:Â}{mg:Str->Option Ä}{base:ë}
theorem ok0(F:V90 P w K mg base (CX1 P w) k f fd ps sp):V90 P w K mg base CX0 k f fd ps (λvs H Q _=>sp vs H Q λ_ _ _=>False) :=
 ⟨λvs H Q E h=>F.len _ _ _ _ h,λA outer s H args us vs Q E hr he hb hv hs=>Æ8 (F.run A outer s H args us vs Q _ hr he hb hv hs) λr s' h=>by
  cases r with
  |error e =>
   obtain⟨_,_,_,_,_,_,_,_,_,_,_,_,_,hE⟩:=h;exact hE.elim
  |ok fl=>cases fl <;> exact h⟩
theorem W02:Þ6 (#[]:Array Ä).toList:=by first | trivial | (unfold Þ6;trivial)
theorem q10.noT[TB:Tb](h:q10 K H a xs):q10 K (hz none H) a xs:=by
 rcases h with (h | ⟨o,h⟩) | h
 ·exact .inl (.inl (d70 h (λq=>nomatch q)))
 ·exact .inl (.inr ⟨o,d70 h (λq=>nomatch q)⟩)
 ·exact .inr h
theorem v22[TB:Tb]{G:Gs}{T:List Df}{k f:Nat}{H:Hp}{a:Ç}{ns:List Int}(pure:b90 T k f [.d (.lst (ns.map D.int))] none=some (.ok (.d (.bl true)) none))(hH:∀ p∈TB.tb,H p.1=some (.tbl #[]))(hS:q10 K H a (ns.map V.int)) :
  spF K (lev G T k) f 1 [.ref a] H (λv _=>v=.bl true) λ_ _ _=>False:=by
 refine⟨rfl,none,none,[.d (.lst (ns.map D.int))],_,.cons ?_ .nil,⟨trivial,λp hp=>⟨#[],hH p hp,W02,λpos c e=>nomatch e⟩⟩,pure,λv H' x st rv=>Hd.bl_ (show Hd K (hz none H') (.bl true) v from rv)⟩;show Hd K (hz none H) (.lst (ns.map D.int)) (.ref a);unfold Hd;exact⟨a,ns.map V.int,rfl,hS.noT,HdA.ints ns⟩
end
def N82(nm:Str):Str:=(Ï8 nm ⟨.function,[],false,false,[]⟩ 0 0 .none).qual++"<lambda>"
theorem v32{rows:List Row}{f:Nat}{nm:Str}{ps:List Str}(h:(G40 rows)[f]?=some (nm,ps)):∃ r∈rows,rows[f]?=some r/\r.nm=nm/\r.ps=ps:=by
 unfold G40 at h;rw[Ø] at h;obtain⟨r,h1,h2⟩:=É.mp h;cases h2;exact⟨r,â h1,h1,rfl,rfl⟩
section
variable [TB:Tb] {P:à}{w:ê}{K:Â}{h:ë}{mg:Str->Option Ä}{base:ë}{rows:List Row}{nums:List (Str × Int)}{mn:List Str}{ex:List (Str × Â3)}
def v42(rows:List Row)(mn:List Str)(ex:List (Str × Â3)):Prop:=∀ r∈rows,r.lm=true->r.nm∈mn/\∃ (sR:Â3) (n:Nat),(("_law_refused":Str),sR)∈ex/\c20 sR=t80/\i00 sR=X80 n/\A01 ⟨"_law_refused",["_law_call"],sR,[],.nil,false⟩
def K32[TB:Tb](K:Â)(rows:List Row):Prop:=∀ r∈rows,r.lm=true->∀ fd,(∃ f oc od sl,Ò2 K æ r.nm=some (some (.ref f))/\K.lookup f=some ⟨oc,od,.func fd,sl⟩)->z92 K r.nm fd
theorem A11(X:K.In h)(Gn:h.Ns æ mg)(Q:Facts (H50 rows nums mn ex) K h):∀ c x,h60[c]?=some x->Ò2 K æ x=some (some (.ref (clsAt K c)))/\Q80 K mg (clsAt K c) c/\Ì5 K (clsAt K c) [.type "ValueError",.type "Exception",.type "BaseException",.type "object"] "ValueError.__new__"=true:=λc x hc=>by
 obtain⟨C,h1,h2,h3⟩:=v02 (x:=x) (j:=c) X Gn Q (â hc) hc Ì;rw[u92 hc h1];exact⟨h1,h2,h3⟩
theorem A21(X:K.In h)(Gn:h.Ns æ mg)(Q:Facts (H50 rows nums mn ex) K h)(bm:BMain mg base)(hR:v42 rows mn ex)(hr:r∈rows)(hlm:r.lm=true):∃ fR fdR,z82 P w K mg base (clsAt K) fR fdR:=by
 obtain⟨hmn,sR,n,g1,g2,g3,g4⟩:=hR r hr hlm;obtain⟨fR,fdR,a2,F2,oc2,od2,sl2,lk2⟩:=Q.fn ("_law_refused",sR) (ò _ g1);refine⟨fR,fdR,bm,λj hj=>?_,mg_of X Gn a2,F2.kp,F2.binds g4,λk=>n52 F2 g2 g3 (mg_none_of X Gn (Q.no _ (Ê _ (-0)))) (mg_none_of X Gn (Q.no _ (Ê _ (-0))))⟩
 have hx:∃ x,h60[j]?=some x:=⟨_,Ó (by exact hj)⟩
 obtain⟨x,hx⟩:=hx;exact(A11 X Gn Q j x hx).2.1
theorem f62(X:K.In h)(Gn:h.Ns æ mg)(Q:Facts (H50 rows nums mn ex) K h)(ok:rows.all (i22 (G40 rows) nums)=true)(bd:o80 rows)(bm:BMain mg base)(hR:v42 rows mn ex)(hT:K32 K rows)(F0:FT):∀ k,GX P w K mg base (lev ⟨G40 rows,nums,F0,clsAt K,0⟩ (tabOf rows) k) h60:=by
 refine u82 (λp hp=>?_) (λn hn=>?_) (λc x hc=>?_) λf nm ps hf=>?_
 ·obtain⟨t,e⟩:=Q.it p hp;exact⟨t,mg_of X Gn e⟩
 ·exact mg_none_of X Gn (Q.no n (Ê _ hn))
 ·obtain⟨h1,_,h3⟩:=A11 X Gn Q c x hc;exact⟨mg_of X Gn h1,h3⟩
 ·obtain⟨r,hr,hr2,rfl,rfl⟩:=v32 hf;obtain⟨fa,fd,a1,F1,oc,od,sl,lk⟩:=Q.fn (r.nm,r.st) (Æ2 _ (Ù.mpr ⟨r,hr,rfl⟩));have rb:=Ú.mp ok r hr;unfold i22 at rb;simp only[Á] at rb;obtain⟨⟨⟨b1,b2⟩,b3⟩,b4⟩:=rb;refine⟨fa,fd,mg_of X Gn a1,F1.kp,F1.binds (bd.at hr),.inl ⟨r.lm,r.N,r.st,r.b,?_,F1,g21 b4,b3,b2,b1,λhlm=>?_⟩⟩
  ·unfold tabOf;rw[Ø,hr2];rfl
  ·obtain⟨fR,fdR,L⟩:=A21 (P:=P) (w:=w) X Gn Q bm hR hr hlm;exact⟨fR,fdR,L,hT r hr hlm fd ⟨fa,oc,od,sl,a1,lk⟩⟩
theorem v52(X:K.In h)(Gn:h.Ns æ mg)(Q:Facts (H50 rows nums mn ex) K h)(ok:rows.all (i22 (G40 rows) nums)=true)(bd:o80 rows)(bm:BMain mg base)(hR:v42 rows mn ex)(hT:K32 K rows)(F0:FT)(k:Nat)(hi:rows[i]?=some r)(F1:Fun K r.nm r.nm r.st fa fd)
  (hfd:∃ f oc od sl,Ò2 K æ r.nm=some (some (.ref f))/\K.lookup f=some ⟨oc,od,.func fd,sl⟩):V90 P w K mg base (CX1 P w) (k + 3) fa fd r.ps (spF K (lev ⟨G40 rows,nums,F0,clsAt K,0⟩ (tabOf rows) (k + 3)) i r.ps.length):=by
 have hr:=â hi;have rb:=Ú.mp ok r hr;unfold i22 at rb;simp only[Á] at rb;obtain⟨⟨⟨b1,b2⟩,b3⟩,b4⟩:=rb;have all:=f62 (P:=P) (w:=w) X Gn Q ok bd bm hR hT F0;refine z11 (G:=lev ⟨G40 rows,nums,F0,clsAt K,0⟩ (tabOf rows) (k + 2)) (F':=O20 (tabOf rows) (k + 3)) (all (k + 2)) F1 (g21 b4) b3 b1 b2 (λhlm=>?_) λl z=>?_
 ·obtain⟨fR,fdR,L⟩:=A21 (P:=P) (w:=w) X Gn Q bm hR hr hlm;exact⟨k,fR,fdR,rfl,L,hT r hr hlm fd hfd,λf nm ps h=>(all k).gok f nm ps h⟩
 ·show(match (tabOf rows)[i]? with | some d=>run (O20 (tabOf rows) (k + 2)) d l | none=>M.no) z=_
  unfold tabOf;rw[Ø,hi];rfl
end
theorem A31{P:à}{w:ê}{K:Â}{mg mb:Str->Option Ä}{k:Nat}{fa a:Ç}{fd:Â5}{x:Str}{sp:Sp}{s₁:Æ}{vs:List Ä}{ns:List Int}{ts:List Ç}
  (KX:K.In s₁.heap) (hns:s₁.heap.Ns æ mg) (hb:s₁.heap.Ns Ê0 mb) (hbb:∀ x:Str,x≠"__name__"->mb x=ñ x) (hlim:s₁.heap.NoLimit) (hg:s₁.gens=#[])
  (ha:s₁.heap.get? a=some { cls:=.type "list",data:=.seq vs.toArray }) (hi:Ì0 vs ns) (hl:ns.length<=Ý) (hr:v50 k Ü8)
  (hT:∀ Pt∈ts,s₁.heap.get? Pt=some (È2 #[])/\K.lookup Pt=none/\∃ c,Ã7 K c Pt=true) (bmn:BMain mg s₁.heap)
  (F:∀ base:ë,K.In base->base.Ns æ mg->BMain mg base->V90 P w K mg base CX0 k fa fd [x] sp) (hbind:∀ (s:Æ) (u:Ä),BindsTo s fd ⟨[u],[]⟩ [(x,u)])
  (hsp:∀ H:Hp,(∀ Pt∈ts,H Pt=some (.tbl #[]))->q10 K H a (ns.map V.int)->sp [.ref a] H (λv _=>v=.bl true) λ_ _ _=>False) :
  Î4 (Ö P w) Ü8 (.call (.ref fa) ⟨[.ref a],[]⟩) (λr s'=>r=.ok (.ret (.bool true))/\OldK s₁.heap s'.heap/\s'.os=s₁.os/\Ó5 s'.gens) s₁:=by
 have rv:=Q00 hi;have lenV:=hi.length;have naT:a ∉ ts:=λh=>by have:=(hT a h).1;rw[ha] at this;cases this
 have core:∀ H:Hp,(∀ Pt∈ts,H Pt=some (.tbl #[]))->(∀ b,H b=none∨b∈ts∨(b=a/\∃ xs,H b=some (.frz { cls:=.type "list",data:=.seq vs.toArray } (.lst xs))))->q10 K H a (ns.map V.int)->HOk P w H s₁.heap->(H a≠none->K.lookup a=none) ->
   Î4 (Ö P w) Ü8 (.call (.ref fa) ⟨[.ref a],[]⟩) (λr s'=>r=.ok (.ret (.bool true))/\OldK s₁.heap s'.heap/\s'.os=s₁.os/\Ó5 s'.gens) s₁:=by
  intro H hH hO hS hok hK;have plainN:∀ {b:Ç}{o:Obj},s₁.heap.get? b=some o->(∀ xs n,o.data≠.seq xs n)->(∀ xs,o.data≠.fields xs)->H b=none:=λ{b o} e d1 d2=>by
   rcases hO b with z | z | ⟨z,_⟩
   ·exact z
   ·have:=(hT b z).1;rw[e] at this;cases this;exact absurd rfl (d2 _)
   ·rw[z,ha] at e;cases e;exact absurd rfl (d1 _ _)
  have nsK:∀ {b:Ç}{m:Str->Option Ä},s₁.heap.Ns b m->(E61 s₁.heap H).Ns b m:=λ{b m} ⟨o,es,ep,e,d,r⟩=>⟨o,es,ep,I30 e (plainN e (λxs n z=>by rw[d] at z;cases z) λxs z=>by rw[d] at z;cases z),d,r⟩
  have hKb:K.In (E61 s₁.heap H):=λb o e=>I30 (KX b o e) (by
   rcases hO b with z | z | ⟨z,xs,z2⟩
   ·exact z
   ·rw[(hT b z).2.1] at e;cases e
   ·rw[z] at e z2;rw[hK (by rw[z2];exact λy=>nomatch y)] at e;cases e)
  have hM:Mod K mg (E61 s₁.heap H):=⟨hKb,nsK hns,⟨mb,nsK hb,hbb⟩,let ⟨mc,h1,h2⟩:=hlim;⟨mc,nsK h1,h2⟩⟩;have hBM:BMain mg (E61 s₁.heap H):=by
   obtain⟨bm,ob,b1,b2,b3,b4,b5,b6⟩:=bmn;exact⟨bm,ob,b1,b2,I30 b3 (plainN b3 (λxs n z=>by rw[b6] at z;cases z) λxs z=>by rw[b6] at z;cases z),b4,b5,b6⟩
  have e0:W31 P w K mg (E61 s₁.heap H) Ü8 [] s₁ H:=⟨rfl,hM,λb o e=>V61 e,Ú1 (n41 _ _),trivial,λb hb=>absurd (show b∈([]:List Ç) from hb) (by simp),hok,.of_eq hg⟩
  refine Æ8 ((F _ hKb (nsK hns) hBM).run Ü8 [] s₁ H ⟨[.ref a],[]⟩ [.ref a] [.ref a] _ _ hr e0 (hbind s₁ (.ref a)) (.cons rfl .nil) (hsp H hH hS)) λr s' h=>?_;cases r with
  |error e=>exact ü h
  |ok fl =>
   cases fl with
   |next=>exact ü h
   |brk=>exact ü h|cont=>exact ü h
   |ret u =>
    obtain⟨v,H',os,bare,un,hok',r',q⟩:=h;have q':v=.bl true:=q;subst q';obtain rfl:u=Î7 true:=r';refine⟨rfl,⟨λb o e=>?_,λb o e=>un.there b o e (by simp)⟩,os,bare⟩
    rcases hO b with z | z | ⟨z,xs,z2⟩
    ·exact .inl (un.keep b o e z (by intro y;exact absurd (show b∈([]:List Ç) from y) (by simp)) (by simp))
    ·obtain⟨t1,_,c,t2⟩:=hT b z;rw[e] at t1;cases t1;obtain⟨more,m1⟩:=un.tbls b _ (hH b z);have m2:s'.heap.get? b=some { cls:=.none,data:=.fields (#[]++more) }:=hok' b _ m1;have CH:=codeHd_of_K KX t2;exact .inr (.inl ⟨(CH.tab e).isCodeTable,rfl,#[],more,rfl,m2⟩)
    ·have z3:=un.frzs b _ _ z2;obtain⟨e1,_⟩:=hok b _ z2;obtain⟨e2,_⟩:=hok' b _ z3;rw[e] at e1;cases e1;exact .inl e2
 cases hk:K.lookup a with
 |some o =>
  have e:=KX a o hk;rw[ha] at e;cases e;refine core (λb=>if b∈ts then some (.tbl #[]) else none) (λPt h=>if_pos h) (λb=>?_) (.inr ⟨vs.toArray,_,hk,by rw[Ô,lenV];exact hl,by simpa using rv⟩) (λb u z=>?_) λz=>absurd (if_neg naT) z
  ·by_cases h:b∈ts
   ·exact .inr (.inl h)
   ·exact .inl (if_neg h)
  ·by_cases h:b∈ts
   ·have z':=(if_pos h).symm.trans z;cases z';exact(hT b h).1
   ·have z':=(if_neg h).symm.trans z;cases z'
 |none =>
  refine core (λb=>if b=a then some (.frz { cls:=.type "list",data:=.seq vs.toArray } (.lst (ns.map V.int))) else if b∈ts then some (.tbl #[]) else none) (λPt h=>?_) (λb=>?_) (.inl (.inr ⟨{ cls:=.type "list",data:=.seq vs.toArray },if_pos rfl⟩)) (λb u z=>?_) λ_=>hk
  ·rw[if_neg (λy=>naT (by rw[← y];exact h)),if_pos h]
  ·by_cases hb:b=a
   ·exact .inr (.inr ⟨hb,_,if_pos hb⟩)
   ·by_cases h:b∈ts
    ·exact .inr (.inl h)
    ·exact .inl (by rw[if_neg hb,if_neg h])
  ·by_cases hb:b=a
   ·have z':=(if_pos hb).symm.trans z;cases z';subst hb;exact⟨ha,by rw[È];exact hl,vs,_,rv,ha⟩
   ·replace z:=(if_neg hb).symm.trans z
    by_cases h:b∈ts
    ·have z':=(if_pos h).symm.trans z;cases z';exact(hT b h).1
    ·have z':=(if_neg h).symm.trans z;cases z'
theorem N21{l:PySem.W.OpenLaw}{n k:Nat}{q:à}{loose:List Str}{XP:(Str->Option Ä)->ë->Prop}{d:DefRec}{A:n60}{x:Str}
  (hn:l.most=some n) (hn2:n<=Ý) (hdf:d.params.defaults=[]) (hr:v50 k Ü8)
  (F:∀ (w:ê) (mg:Str->Option Ä) (fa:Ç) (h:ë) (K:Â),Facts A K h->K.In h->h.Ns æ mg->mg d.name=some (.ref fa) ->
   ∃ (fd:Â5) (ts:List Ç) (sp:Sp),(∀ Pt∈ts,h.get? Pt=some (È2 #[])/\K.lookup Pt=none/\∃ c,Ã7 K c Pt=true)/\(∀ (s:Æ) (u:Ä),BindsTo s fd ⟨[u],[]⟩ [(x,u)]) /\
    (∀ base:ë,K.In base->base.Ns æ mg->BMain mg base->V90 l.prog w K mg base CX0 k fa fd [x] sp) /\
    ∀ (H:Hp) (a:Ç) (ns:List Int),ns.length<=n->(∀ Pt∈ts,H Pt=some (.tbl #[]))->q10 K H a (ns.map V.int)->sp [.ref a] H (λv _=>v=.bl true) λ_ _ _=>False) :
  PySem.W.WalkO q loose XP A.hook.says l.row.toRowW d [] (λf vs=>PySem.call f vs):=by
 refine Att.W90 hn hdf λw s₀ s₁ mg mb fa o pm cd doc a vs ns G Y ho hd hcd hmg hobj hints hlen hg=>?_;obtain⟨K,KX,FX⟩:=Y;obtain⟨fd,ts,sp,hT,hb,hF,hsp⟩:=F w mg fa _ K FX KX G.T.g hmg;exact A31 KX G.T.g G.T.b G.T.builtins G.T.nolimit hg hobj hints (Þ hlen hn2) hr hT G.T.bmain hF hb λH hH hS=>hsp H a ns hlen hH hS
theorem f72{l:PySem.W.OpenLaw}{rows:List Row}{nums:List (Str × Int)}{mn:List Str}{ex:List (Str × Â3)}{k iL n:Nat}{rL:Row}(ok:rows.all (i22 (G40 rows) nums)=true)(bd:o80 rows)(hL:rows[iL]?=some rL)(hn:rL.nm="law")(hp:rL.ps=[("_law_script":Str)])(hmn:mn.length<=1)(hR:v42 rows mn ex)
  (pure:∀ ns:List Int,ns.length<=n->b90 (tabOf rows) (k + 3) iL [.d (.lst (ns.map D.int))] none=some (.ok (.d (.bl true)) none)) (w:ê) (mg:Str->Option Ä) (fa:Ç) (h:ë) (K:Â) (Q:Facts (H50 rows nums mn ex) K h) (X:K.In h) (Gn:h.Ns æ mg) (hfa:mg "law"=some (.ref fa)) :
   ∃ (fd:Â5) (ts:List Ç) (sp:Sp),(∀ Pt∈ts,h.get? Pt=some (È2 #[])/\K.lookup Pt=none/\∃ c,Ã7 K c Pt=true)/\(∀ (s:Æ) (u:Ä),BindsTo s fd ⟨[u],[]⟩ [("_law_script",u)]) /\
    (∀ base:ë,K.In base->base.Ns æ mg->BMain mg base->V90 l.prog w K mg base CX0 (k + 3) fa fd ["_law_script"] sp) /\
    ∀ (H:Hp) (a:Ç) (ns:List Int),ns.length<=n->(∀ Pt∈ts,H Pt=some (.tbl #[]))->q10 K H a (ns.map V.int)->sp [.ref a] H (λv _=>v=.bl true) λ_ _ _=>False:=by
 have hrL:rL∈rows:=â hL;obtain⟨fL,fdL,aL,FL,ocL,odL,slL,lkL⟩:=Q.fn (rL.nm,rL.st) (Æ2 _ (Ù.mpr ⟨rL,hrL,rfl⟩));have bL:=bd.at hrL;have e:=hfa.symm.trans (mg_of X Gn (by rw[← hn];exact aL))
 cases e;have bT:∀ (s:Æ) (u:Ä),BindsTo s fdL ⟨[u],[]⟩ [("_law_script",u)]:=by
  obtain⟨_,_,kV,doc,pm,an,cdv,ct,_,e,_,_⟩:=FL.ex;subst e;intro s u;have:=bL kV doc pm an cdv ct [u] (by rw[hp];rfl)
  rw[hp] at this;exact .of_eq this
 have fin:∀ (TB:Tb) (ts:List Ç),(∀ p∈TB.tb,p.1∈ts)->(∀ Pt∈ts,h.get? Pt=some (È2 #[])/\K.lookup Pt=none/\∃ c,Ã7 K c Pt=true)->K32 K rows ->
   ∃ (fd:Â5) (ts:List Ç) (sp:Sp),(∀ Pt∈ts,h.get? Pt=some (È2 #[])/\K.lookup Pt=none/\∃ c,Ã7 K c Pt=true)/\(∀ (s:Æ) (u:Ä),BindsTo s fd ⟨[u],[]⟩ [("_law_script",u)]) /\
    (∀ base:ë,K.In base->base.Ns æ mg->BMain mg base->V90 l.prog w K mg base CX0 (k + 3) fa fd ["_law_script"] sp) /\
    ∀ (H:Hp) (a:Ç) (ns:List Int),ns.length<=n->(∀ Pt∈ts,H Pt=some (.tbl #[]))->q10 K H a (ns.map V.int)->sp [.ref a] H (λv _=>v=.bl true) λ_ _ _=>False:=λTB ts h1 h2 h3=>by
  refine⟨fdL,ts,λvs H Q _=>spF K (lev ⟨G40 rows,nums,λ_ _ _=>M.no,clsAt K,0⟩ (tabOf rows) (k + 3)) iL 1 vs H Q λ_ _ _=>False,h2,bT,λbase kb nb bm=>?_,λH a ns hl hH hS=>v22 (pure ns hl) (λp hp=>hH p.1 (h1 p hp)) hS⟩;have F:=ok0 (v52 (P:=l.prog) (w:=w) X Gn Q ok bd bm hR h3 (λ_ _ _=>M.no) k hL FL ⟨fa,ocL,odL,slL,aL,lkL⟩);rw[hp] at F;exact F
 match mn,hmn,Q with
 |[],_,Q =>
  exact fin ⟨[]⟩ [] (λp hp=>by cases hp) (λp hp=>by cases hp) λr hr hlm=>by
   have:=(hR r hr hlm).1;cases this
 |[m],_,Q =>
  obtain⟨T,t1,t2,f,oc,od,fd,sl,c,t3,t4,t5,t6⟩:=Q.mt m (.head _);refine fin ⟨[(T,N82 m)]⟩ [T] (λp hp=>?_) (λp hp=>?_) λr hr hlm fd' h'=>?_
  ·cases è.mp hp;exact .head _
  ·cases è.mp hp;exact⟨t1,t2,c,t6⟩
  ·have hm:r.nm=m:=è.mp (hR r hr hlm).1;rw[hm] at h' ⊢;obtain⟨f',oc',od',sl',e1,e2⟩:=h';rw[t3] at e1;cases e1;rw[t4] at e2;cases e2;exact⟨c,T,N82 m,t5,t6,λ_ _ _ _=>rfl,.head _,λp hp _=>by cases è.mp hp;rfl⟩
end Q
namespace Q
open L2 (D)
open PySem (Paired)
def g31:Ex->Bool
 |.var _=>false|_=>true
def W12:Ex->Env->Option (Option S)
 |.var i,ρ=>ρ[i]?|_,_=>none
def N92:Option (Option S)->Option S
 |some (some s)=>noS s|_=>none
def blS:S->Option Bool
 |.d (.bl b)=>some b|_=>none
abbrev Du{α:Type}(_:α->Z->Prop)(_:Nat->Z->Prop):Type:=Unit
abbrev Dv{α:Type}(_:α->Prop):Type:=Unit
structure W{α:Type}(m:M α)(z:Z)(Q:α->Z->Prop)(E:Nat->Z->Prop)(du:Du Q E:=()):Prop where
 ex:∃ r,m z=some r/\match r with
  |.ok a z1=>Q a z1|.er c z1=>E c z1
theorem W_e{α:Type}{m:M α}{Q:α->Z->Prop}:W m z Q E↔∃ r,m z=some r/\match r with
  |.ok a z1=>Q a z1|.er c z1=>E c z1:=⟨W.ex,W.mk⟩
abbrev NE:Nat->Z->Prop:=λ_ _=>False
def Get{α:Type}(o:Option α)(P:α->Prop)(_:Dv P:=()):Prop:=match o with
 |some a=>P a|none=>False
theorem v62{α:Type}{a:α}{P:α->Prop}:Get (some a) P↔P a:=Ó9
theorem i70{α:Type}{o:Option α}{P:α->Prop}(h:Get o P):∃ a,o=some a/\P a:=by
 cases o with
 |none=>exact h.elim|some a=>exact⟨a,rfl,h⟩
theorem a00{α:Type}{o:Option α}{a:α}{P:α->Prop}(h:o=some a)(hp:P a):Get o P:=by rw[h];exact hp
section
variable {α β:Type}{m:M α}{z z1:Z}{Q Q':α->Z->Prop}{E E':Nat->Z->Prop}
theorem W.mono(h:W m z Q E)(hq:∀ a z,Q a z->Q' a z)(he:∀ c z,E c z->E' c z):W m z Q' E':=by
 obtain⟨r,e,h⟩:=h;refine⟨r,e,?_⟩;cases r with
 |ok a z1=>exact hq _ _ h|er c z1=>exact he _ _ h
theorem W.imp(h:W m z Q NE)(hq:∀ a z,Q a z->Q' a z):W m z Q' E':=h.mono hq λ_ _ h=>h.elim
theorem W.ok{a:α}(h:W m z (λb z2=>b=a/\z2=z1) NE):m z=some (.ok a z1):=by
 obtain⟨r,e,h⟩:=h;cases r with
 |ok b z2=>obtain⟨rfl,rfl⟩:=h;exact e
 |er c z2=>exact h.elim
theorem W.er(h:W m z (λ_ _=>False) (λd z2=>d=c/\z2=z1)):m z=some (.er c z1):=by
 obtain⟨r,e,h⟩:=h;cases r with
 |ok b z2=>exact h.elim|er d z2=>obtain⟨rfl,rfl⟩:=h;exact e
theorem O02{a:α}(h:m z=some (.ok a z1)):W m z Q E↔Q a z1:=by
 rw[W_e];constructor
 ·rintro ⟨r,e,q⟩;rw[h] at e;cases e;exact q
 ·exact λq=>⟨_,h,q⟩
theorem W22{c:Nat}(h:m z=some (.er c z1)):W m z Q E↔E c z1:=by
 rw[W_e];constructor
 ·rintro ⟨r,e,q⟩;rw[h] at e;cases e;exact q
 ·exact λq=>⟨_,h,q⟩
theorem z30{a:α}:W (M.ret a) z Q E↔Q a z:=O02 rfl
theorem v82:W (M.no:M α) z Q E↔False:=⟨λ⟨_,e,_⟩=>(by cases e),ü⟩
theorem n50{f:α->M β}{Q:β->Z->Prop}:W (M.bind m f) z Q E↔W m z (λa z1=>W (f a) z1 Q E) E:=by
 constructor
 ·rintro ⟨r,e,q⟩;unfold M.bind at e;split at e
  ·rename_i a z1 e1;exact⟨_,e1,r,e,q⟩
  ·rename_i c z1 e1;cases e;exact⟨_,e1,q⟩
  ·cases e
 ·rintro ⟨r,e,q⟩;cases r with
  |ok a z1 =>
   obtain⟨r,e2,q⟩:=q;refine⟨r,?_,q⟩;unfold M.bind;rw[e];exact e2
  |er c z1 =>
   refine⟨.er c z1,?_,q⟩;unfold M.bind;rw[e]
theorem T91:W (M.calm m) z Q E↔W m z Q NE:=by
 rw[W_e,W_e];unfold M.calm;constructor
 ·rintro ⟨r,e,q⟩;split at e
  ·rename_i a z1 e1;cases e;exact⟨_,e1,q⟩
  ·cases e
 ·rintro ⟨r,e,q⟩;cases r with
  |ok a z1=>exact⟨.ok a z1,by rw[e],q⟩|er c z1=>exact q.elim
theorem f82(h:∀ a z,Q a z↔Q' a z):W m z Q E↔W m z Q' E:=⟨λx=>x.mono (λa z=>(h a z).mp) λ_ _ h=>h,λx=>x.mono (λa z=>(h a z).mpr) λ_ _ h=>h⟩
theorem wR{a:α}:Q a z↔W (M.ret a) z Q E:=z30.symm
theorem wN:False↔W (M.no:M α) z Q E:=v82.symm
theorem wT{c:Prop}[Decidable c]{a b:M α}{A B:Prop}(h1:A↔W a z Q E)(h2:B↔W b z Q E):(if c then A else B)↔W (if c then a else b) z Q E:=by
 split <;> assumption
theorem wG{o:Option β}{f:β->M α}{K:β->Prop}(h:∀ a,K a↔W (f a) z Q E):Get o K↔W (M.bind (M.of o) f) z Q E:=by
 cases o with
 |none=>exact v82.symm|some a=>exact h a
theorem wB{m:M β}{f:β->M α}{V:Prop}{K:β->Z->Prop}(h1:V↔W m z K E)(h2:∀ a z1,K a z1↔W (f a) z1 Q E):V↔W (M.bind m f) z Q E:=h1.trans ((f82 h2).trans n50.symm)
end
def Wm{α:Type}(o:Option (R α))(Q:α->Z->Prop)(E:Nat->Z->Prop):Prop:=match o with
 |some (.ok a z1)=>Q a z1|some (.er c z1)=>E c z1|none=>False
theorem wM{α:Type}{m:M α}{z:Z}{Q:α->Z->Prop}{E:Nat->Z->Prop}:Wm (m z) Q E↔W m z Q E:=by
 rw[W_e];unfold Wm;cases h:m z with
 |none=>exact⟨ü,λ⟨_,e,_⟩=>by cases e⟩
 |some r =>
  refine⟨λq=>⟨r,rfl,?_⟩,λ⟨_,e,q⟩=>?_⟩
  ·cases r <;> exact q
  ·cases e;cases r <;> exact q
def Vr(o:Option (Option S))(z:Z)(Q:List S->Z->Prop)(_:Du Q NE:=()):Prop:=match o with
 |some (some s)=>Q [plS s] z|_=>False
def WV:FT->Ex->Env->Z->(List S->Z->Prop)->(Nat->Z->Prop)->Prop
 |F,.nil=>λρ z Q E=>Q [] z|F,.cons a r=>λρ z Q E=>WV F a ρ z (λx z1=>Get (one x) λs=>WV F r ρ z1 (λy z2=>Q (s::y) z2) E) E|F,.con x=>λρ z Q E=>Q [.d x] z|F,.gint g i=>λρ z Q E=>Q [.d (.int i)] z|F,.tup as=>λρ z Q E=>WV F as ρ z (λl z1=>Get (plA l) λds=>if ds.length<=most then Q [.d (.tup ds)] z1 else False) E|F,.lst as=>λρ z Q E=>WV F as ρ z (λl z1=>Get (plA l) λds=>if ds.length<=most then Q [.fr ds] z1 else False) E|F,.bin o a b=>λρ z Q E=>WV F a ρ z (λx z1=>Get (pl x) λdx=>WV F b ρ z1 (λy z2=>Get (pl y) λdy=>Get (G00 o dx dy) λs=>Q [s] z2) E) E|F,.cmp o a b=>λρ z Q E=>WV F a ρ z (λx z1=>Get (pl x) λdx=>WV F b ρ z1 (λy z2=>Get (pl y) λdy=>Get (s90 o dx dy) λt=>Q [.d (.bl t)] z2) E) E|F,.neg a=>λρ z Q E=>WV F a ρ z (λx z1=>Get ((pl x).bind asI) λi=>Q [.d (.int (-i))] z1) E|F,.not a=>λρ z Q E=>WV F a ρ z (λx z1=>Get ((pl x).bind asB) λb=>Q [.d (.bl !b)] z1) E|F,.and a b=>λρ z Q E=>WV F a ρ z (λx z1=>Get ((pl x).bind asB) λc=>if c then WV F b ρ z1 (λy z2=>Get ((pl y).bind asB) λc=>Q [.d (.bl c)] z2) E else Q [.d (.bl false)] z1) E|F,.or a b=>λρ z Q E=>WV F a ρ z (λx z1=>Get ((pl x).bind asB) λc=>if c then Q [.d (.bl true)] z1 else WV F b ρ z1 (λy z2=>Get ((pl y).bind asB) λc=>Q [.d (.bl c)] z2) E) E|F,.orT a b=>λρ z Q E=>WV F a ρ z (λx z1=>Get ((pl x).bind n82) λl=>if l.isEmpty then WV F b ρ z1 (λy z2=>Get ((pl y).bind n82) λl=>Q [.d (.tup l)] z2) NE else Q [.d (.tup l)] z1) NE|F,.ite c a b=>λρ z Q E=>WV F c ρ z (λx z1=>Get ((pl x).bind asB) λc=>if c then WV F a ρ z1 Q E else WV F b ρ z1 Q E) E|F,.ch o o' a b c=>λρ z Q E=>WV F a ρ z (λx z1=>Get (pl x) λdx=>WV F b ρ z1 (λy z2=>Get (pl y) λdy=>Get (s90 o dx dy) λt=>if t then WV F c ρ z2 (λw z3=>Get (pl w) λdw=>Get (s90 o' dy dw) λt=>Q [.d (.bl t)] z3) E else Q [.d (.bl false)] z2) E) E|F,.bf f as=>λρ z Q E=>WV F as ρ z (λl z1=>Get (plA l) λds=>Get (bfD f ds) λs=>Q [s] z1) E|F,.isi t a=>λρ z Q E=>WV F a ρ z (λx z1=>Get (pl x) λx=>Q [.d (.bl (R71 t x))] z1) E|F,.idx a i=>λρ z Q E=>WV F a ρ z (λx z1=>Get (pl x) λdx=>WV F i ρ z1 (λy z2=>Get (pl y) λdy=>Get (W10 dx dy) λr=>Q [.d r] z2) E) E|F,.sl a lo hi=>λρ z Q E=>WV F a ρ z (λx z1=>Get (pl x) λdx=>WV F lo ρ z1 (λu z2=>Get (t41 u) λu=>WV F hi ρ z2 (λv z3=>Get (t41 v) λv=>Get (slD dx u v) λs=>Q [s] z3) E) E) E|F,.rev a=>λρ z Q E=>WV F a ρ z (λx z1=>Get ((pl x).bind M82) λs=>Q [s] z1) E|F,.call f as=>λρ z Q E=>WV F as ρ z (λl z1=>W (F false f (l.map plS)) z1 (λs z2=>Q [s] z2) E) E|F,.comp own capt p it src cond el=>λρ z Q E=>WV F src ρ z (λl z1=>Get ((plA l).bind (itD it)) λxs=>if xs.length<=most then W (turns (q80 (ev F cond) (ev F el) p (î own none++capt.map λi=>(ρ[i]?).getD none)) xs) z1 (λys z2=>Q [.fr ys] z2) NE else False) E|F,.lrng b as=>λρ z Q E=>WV F as ρ z (λl z1=>Get ((plA l).bind lrD) λxs=>Q [lrS b xs] z1) E|F,.var i=>λρ z Q E=>Vr ρ[i]? z Q|F,.zget i k=>λρ z Q E=>Wm (t51 k ρ[i]? z) Q E
def WE(F:FT)(e:Ex)(ρ:Env)(z:Z)(Q:List S->Z->Prop)(E:Nat->Z->Prop)(_:Du Q E:=()):Prop:=WV F e ρ z Q E
def WX(F:FT)(tp:Bool):Sm->Env->Z->(O->Z->Prop)->(Nat->Z->Prop)->Prop
 |.nil=>λρ z Q E=>Q (.nx ρ) z
 |.seq s r=>λρ z Q E=>WX F tp s ρ z (λo z1=>match o with
  |.nx ρ=>WX F tp r ρ z1 Q E
  |.rt s=>Q (.rt s) z1) E
 |.set p e=>λρ z Q E=>WE F e ρ z (λl z1=>Get (one l) λs=>Get (C80 p s (i30 s ρ)) λρ'=>Q (.nx ρ') z1) E|.ret e=>λρ z Q E=>if g31 e then WE F e ρ z (λl z1=>Get ((one l).bind noS) λs=>Q (.rt s) z1) E else Get (N92 (W12 e ρ)) λs=>Q (.rt s) z|.iff c t e=>λρ z Q E=>WE F c ρ z (λx z1=>Get ((pl x).bind asB) λb=>if b then WX F tp t ρ z1 Q E else WX F tp e ρ z1 Q E) E|.exp e=>λρ z Q E=>WE F e ρ z (λl z1=>Get (one l) λ_=>Q (.nx ρ) z1) E|.rais c=>λρ z Q E=>E c z|.fr p it src b=>λρ z Q E=>WE F src ρ z (λl z1=>Get ((plA l).bind (itD it)) λxs=>W (W20 (λx ρ=>M.bind (M.of (f40 p x ρ)) λρ=>ex F tp b ρ) xs (t71 it src l ρ)) z1 Q E) E|.whl c b=>λρ z Q E=>W (R81 (ev F c) (ex F tp b) h72 ρ) z Q E|.lams i ls g e t r=>λρ z Q E=>W (ex F tp (.lams i ls g e t r) ρ) z Q E|.zset i e=>λρ z Q E=>WE F e ρ z (λl z1=>Get ((pl l).bind asI) λv=>Wm (u01 ρ v ρ[i]? z1) Q E) E|.app i e=>λρ z Q E=>Get (ownAt ρ i) λxs=>WE F e ρ z (λl z1=>Get (pl l) λx=>if bare x=true/\xs.length < most then Q (.nx (ρ.set i (some (.fr (xs++[x]))))) z1 else False) E|.apop i j e=>λρ z Q E=>Get (ownAt ρ i) λxs=>Get (ownAt ρ j) λys=>WE F e ρ z (λl z1=>Get ((pl l).bind asI) λk=>Get (t81 ρ i j xs ys k) λo=>Q o z1) E|.newz i f as=>λρ z Q E=>WE F (.call f as) ρ z (λl z1=>Wm (t91 tp ρ i l) Q E) E|.sti i ix e=>λρ z Q E=>WE F e ρ z (λl z1=>Get (pl l) λx=>Get (ownAt ρ i) λxs=>WE F ix ρ z1 (λj z2=>Get ((pl j).bind asI) λj=>Get (n40 xs j x) λxs=>if bare x=true then Q (.nx (ρ.set i (some (.fr xs)))) z2 else False) E) E|.augi i ix e=>λρ z Q E=>Get (ownAt ρ i) λxs=>WE F ix ρ z (λj z1=>Get ((pl j).bind asI) λj=>Get (L2.atI xs j) λy=>WE F e ρ z1 (λl z2=>Get (pl l) λx=>Get ((asI x).bind λx=>(asI y).map λy=>D.int (y + x)) λv=>Get (n40 xs j v) λxs=>Q (.nx (ρ.set i (some (.fr xs)))) z2) E) E
def WS(F:FT)(tp:Bool)(s:Sm)(ρ:Env)(z:Z)(Q:O->Z->Prop)(E:Nat->Z->Prop)(_:Du Q E:=()):Prop:=WX F tp s ρ z Q E
theorem v92:∀ (e:Ex) {F:FT}{ρ:Env}{z:Z}{Q:List S->Z->Prop}{E:Nat->Z->Prop},WV F e ρ z Q E↔W (ev F e ρ) z Q E:=by
 intro e
 induction e with
 |nil=>intros;exact wR|cons a r ha hr=>intros;exact wB ha λx z1=>wG λs=>wB hr λy z2=>wR
 |var i =>
  intro F ρ z Q E;show Vr ρ[i]? z Q↔W (match ρ[i]? with | some (some s)=>M.ret [plS s] | _=>M.no) z Q E
  generalize ρ[i]?=o
  match o with
  |some (some s)=>exact wR|some none=>exact wN|none=>exact wN
 |con x=>intros;exact wR|gint g i=>intros;exact wR|tup a ha=>intros;exact wB ha λl z1=>wG λds=>wT wR wN|lst a ha=>intros;exact wB ha λl z1=>wG λds=>wT wR wN|bin o a b ha hb=>intros;exact wB ha λx z1=>wG λdx=>wB hb λy z2=>wG λdy=>wG λs=>wR|cmp o a b ha hb=>intros;exact wB ha λx z1=>wG λdx=>wB hb λy z2=>wG λdy=>wG λs=>wR|neg a ha=>intros;exact wB ha λx z1=>wG λi=>wR|not a ha=>intros;exact wB ha λx z1=>wG λi=>wR|and a b ha hb=>intros;exact wB ha λx z1=>wG λc=>wT (wB hb λy z2=>wG λc=>wR) wR|or a b ha hb=>intros;exact wB ha λx z1=>wG λc=>wT wR (wB hb λy z2=>wG λc=>wR)|orT a b ha hb=>intros;refine Iff.trans ?_ T91.symm;exact wB ha λx z1=>wG λl=>wT (wB hb λy z2=>wG λl=>wR) wR|ite c a b hc ha hb=>intros;exact wB hc λx z1=>wG λc=>wT ha hb|ch o o' a b c ha hb hc=>intros;exact wB ha λx z1=>wG λdx=>wB hb λy z2=>wG λdy=>wG λt=>wT (wB hc λw z3=>wG λdw=>wG λt=>wR) wR|bf f a ha=>intros;exact wB ha λl z1=>wG λds=>wG λs=>wR|isi t a ha=>intros;exact wB ha λx z1=>wG λx=>wR|idx a i ha hi=>intros;exact wB ha λx z1=>wG λdx=>wB hi λy z2=>wG λdy=>wG λr=>wR|sl a l h ha hl hh=>intros;exact wB ha λx z1=>wG λdx=>wB hl λu z2=>wG λu=>wB hh λv z3=>wG λv=>wG λs=>wR|rev a ha=>intros;exact wB ha λx z1=>wG λs=>wR|call f a ha=>intros;exact wB ha λl z1=>wB Ó9 λs z2=>wR|comp own capt p it src cond el hs hc he=>intros;exact wB hs λl z1=>wG λxs=>wT (wB T91.symm λys z2=>wR) wN|zget i k=>intros;exact wM (m:=t51 k _)|lrng b a ha=>intros;exact wB ha λl z1=>wG λxs=>wR
theorem c50{e:Ex}{F:FT}{ρ:Env}{z:Z}{Q:List S->Z->Prop}{E:Nat->Z->Prop}:WE F e ρ z Q E↔W (ev F e ρ) z Q E:=v92 e
theorem K42{F:FT}{tp:Bool}{ρ:Env}{e:Ex}(h:g31 e=true):ex F tp (.ret e) ρ=M.bind (ev F e ρ) λl=>M.bind (M.of ((one l).bind noS)) λs=>M.ret (.rt s):=by
 cases e with
 |var i=>cases h
 |_=>rfl
theorem w02{F:FT}{tp:Bool}:∀ (s:Sm) {ρ:Env}{z:Z}{Q:O->Z->Prop}{E:Nat->Z->Prop},WX F tp s ρ z Q E↔W (ex F tp s ρ) z Q E:=by
 intro s
 induction s with
 |nil=>intros;exact wR
 |seq s r hs hr =>
  intros;refine wB hs λo z1=>?_;cases o with
  |nx ρ=>exact hr|rt s=>exact wR
 |set p e=>intros;exact wB c50 λl z1=>wG λs=>wG λρ'=>wR
 |ret e =>
  intro ρ z Q E;show(if g31 e then _ else _)↔_;cases h:g31 e with
  |true =>
   refine(iff_of_eq (if_pos rfl)).trans ?_;rw[K42 h];exact wB c50 λl z1=>wG λs=>wR
  |false =>
   cases e with
   |var i =>
    refine(iff_of_eq (if_neg Ï)).trans ?_;show Get (N92 ρ[i]?) _↔W (match ρ[i]? with | some (some s)=>M.bind (M.of (noS s)) λs=>M.ret (O.rt s) | _=>M.no) z Q E
    generalize ρ[i]?=o
    match o with
    |some (some s)=>exact wG λs=>wR|some none=>exact wN|none=>exact wN
   |_=>cases h
 |iff c t u ht hu=>intros;exact wB c50 λx z1=>wG λc=>wT ht hu|exp e=>intros;exact wB c50 λl z1=>wG λs=>wR|rais c=>intros;exact(W22 rfl).symm|fr p it src b ih=>intros;exact wB c50 λl z1=>wG λxs=>Ó9|whl c b ih=>intros;exact Ó9|lams i ls g e t r iht ihr=>intros;exact Ó9|zset i e=>intros;exact wB c50 λl z1=>wG λv=>wM (m:=u01 _ v _)|app i e=>intros;exact wG λxs=>wB c50 λl z1=>wG λx=>wT wR wN|apop i j e=>intros;exact wG λxs=>wG λys=>wB c50 λl z1=>wG λk=>wG λo=>wR|newz i f as=>intros;exact wB c50 λl z1=>wM (m:=λ_=>t91 tp _ i l)|sti i ix e=>intros;exact wB c50 λl z1=>wG λx=>wG λxs=>wB c50 λj z2=>wG λj=>wG λxs=>wT wR wN|augi i ix e=>intros;exact wG λxs=>wB c50 λj z1=>wG λj=>wG λy=>wB c50 λl z2=>wG λx=>wG λv=>wG λxs=>wR
theorem E30:WS F tp s ρ z Q E↔W (ex F tp s ρ) z Q E:=w02 s
theorem WS.mono{s:Sm}{F:FT}{tp:Bool}{ρ:Env}{z:Z}{Q Q':O->Z->Prop}{E E':Nat->Z->Prop}(h:WS F tp s ρ z Q E)(hq:∀ a z,Q a z->Q' a z)(he:∀ c z,E c z->E' c z):WS F tp s ρ z Q' E':=E30.mpr (W.mono (E30.mp h) hq he)
theorem A41(Mid:Env->Z->Prop)(h:WS F tp s ρ z (λo z1=>match o with
  |.nx ρ=>Mid ρ z1
  |.rt s=>Q (.rt s) z1) E) (h2:∀ ρ z,Mid ρ z->WS F tp r ρ z Q E):WS F tp (.seq s r) ρ z Q E:=by
 refine WS.mono (s:=s) h (λo z1 h=>?_) λ_ _ h=>h;cases o with
 |nx ρ=>exact h2 ρ z1 h|rt s=>exact h
section
variable {T:List Df}{k f ps ns:Nat}{b:Sm}{l:List S}{z:Z}{Q:S->Z->Prop}{E:Nat->Z->Prop}
theorem w12(h:T[f]?=some (.code ps ns b))(hl:l.length=ps)(hn:ps<=ns):W (b90 T (k + 3) f l) z Q E↔WS (O20 T (k + 2)) z.isNone b (start ns (l.map plS)) z (λo z1=>match o with
  |.nx _=>Q (.d .non) (L30 z z1)
  |.rt s=>Q s (L30 z z1)) λc z1=>E c (L30 z z1):=by
 refine Iff.trans ?_ E30.symm;rw[Y20,h];show W (λz=>if l.length=ps/\ps<=ns then(match ex (O20 T (k + 2)) z.isNone b (start ns (l.map plS)) z with
  |some (.ok (.nx _) z1)=>some (R.ok (S.d .non) (L30 z z1))|some (.ok (.rt s) z1)=>some (.ok s (L30 z z1))|some (.er c z1)=>some (.er c (L30 z z1))
  |none=>none) else none) z Q E↔_
 rw[W_e,W_e];constructor
 ·rintro ⟨r,e,q⟩;rw[if_pos ⟨hl,hn⟩] at e;split at e
  ·rename_i ρ z1 e1;cases e;exact⟨_,e1,q⟩
  ·rename_i s z1 e1;cases e;exact⟨_,e1,q⟩
  ·rename_i c z1 e1;cases e;exact⟨_,e1,q⟩
  ·cases e
 ·rintro ⟨r,e,q⟩;rw[if_pos ⟨hl,hn⟩,e]
  match r,q with
  |.ok (.nx ρ) z1,q=>exact⟨_,rfl,q⟩|.ok (.rt s) z1,q=>exact⟨_,rfl,q⟩|.er c z1,q=>exact⟨_,rfl,q⟩
end
section
variable {F:FT}{tp:Bool}{ρ:Env}{z:Z}{E:Nat->Z->Prop}
theorem a01{f:D->M (Option D)}{o:D->Option D}:∀ {xs:List D}{Q:List D->Z->Prop},(∀ x∈xs,f x z=some (.ok (o x) z))->(W (turns f xs) z Q E↔Q (xs.filterMap o) z)
 |[],Q,_=>z30
 |x::r,Q,h=>by
  show W (M.bind (f x) _) z Q E↔_;rw[n50,O02 (h x Ì),n50,a01 λy hy=>h y (Ê _ hy),z30];rw[Á5];cases o x <;> rfl
theorem g41{f:D->M (Option D)}{I:Z->Prop}{P:D->D->Prop}:∀ {xs:List D}{z:Z}{Q:List D->Z->Prop},I z->(∀ x∈xs,∀ z,I z->W (f x) z (λo z1=>I z1/\∃ y,o=some y/\P x y) NE)->(∀ ys z1,I z1->Á8 P xs ys->Q ys z1)->W (turns f xs) z Q E
 |[],z,Q,hi,_,q=>z30.mpr (q [] z hi .nil)
 |x::r,z,Q,hi,h,q=>by
  show W (M.bind (f x) _) z Q E;rw[n50];refine(h x Ì z hi).imp λo z1 ⟨hi1,y,e,hp⟩=>?_;subst e;rw[n50];refine g41 hi1 (λx' hx'=>h x' (Ê _ hx')) λys z2 hi2 hps=>?_;exact z30.mpr (q _ _ hi2 (.cons hp hps))
theorem U01(I:List D->Env->Z->Prop):∀ (xs:List D) {ρ:Env}{z:Z},I xs ρ z->(∀ x r ρ z,I (x::r) ρ z->W (f x ρ) z (λo z1=>match o with
  |.nx ρ=>I r ρ z1
  |.rt s=>Q (.rt s) z1) E)->(∀ ρ z,I [] ρ z->Q (.nx ρ) z)->W (W20 f xs ρ) z Q E
 |[],ρ,z,hi,_,q=>z30.mpr (q _ _ hi)
 |x::r,ρ,z,hi,h,q=>by
  show W (M.bind (f x ρ) _) z Q E;rw[n50];refine(h x r ρ z hi).mono (λo z1 ho=>?_) λ_ _ h=>h;cases o with
  |nx ρ1=>exact U01 I r ho h q|rt s=>exact z30.mpr ho
theorem w22{c:Env->M (List S)}{f:Env->M O}{Q:O->Z->Prop}(I:Nat->Env->Z->Prop)(step:∀ n ρ z,I n ρ z->W (c ρ) z (λx z1=>Get ((pl x).bind asB) λk=>if k then W (f ρ) z1 (λo z2=>match o with
  |.nx ρ=>∃ m,m < n/\I m ρ z2
  |.rt s=>Q (.rt s) z2) E else Q (.nx ρ) z1) E):∀ (n m:Nat) {ρ:Env}{z:Z},I n ρ z->n < m->W (R81 c f m ρ) z Q E:=by
 intro n
 induction n using Nat.strongRecOn with
 |ind n ih =>
  intro m ρ z hi hm;cases m with
  |zero=>omega
  |succ m =>
   show W (M.bind (c ρ) _) z Q E;rw[n50];refine(step n ρ z hi).mono (λx z1 h=>?_) λ_ _ h=>h;obtain⟨k,e,h⟩:=i70 h;refine(wG (K:=λk=>if k=true then W (M.bind (f ρ) _) z1 Q E else W (M.ret (O.nx ρ)) z1 Q E) λk=>wT Ó9 Ó9).mp (a00 e ?_);cases k with
   |true =>
    rw[if_pos rfl] at h ⊢;rw[n50];refine h.mono (λo z2 h=>?_) λ_ _ h=>h;cases o with
    |nx ρ1 =>
     obtain⟨j,hj,hi⟩:=h;exact ih j hj m hi ∅
    |rt s=>exact z30.mpr h
   |false =>
    rw[if_neg Ï] at h ⊢;exact z30.mpr h
end
mutual
noncomputable def cE:D->Ex
 |.tup l=>.tup (cEs l)|.lst l=>.lst (cEs l)|.int i=>if i < 0 then .neg (.con (.int (-i))) else .con (.int i)|x=>.con x
noncomputable def cEs:List D->Ex
 |[]=>.nil|x::r=>.cons (cE x) (cEs r)
end
mutual
noncomputable def okC:D->Bool
 |.tup l=>decide (l.length<=most)&&K52 l|.lst l=>decide (l.length<=most)&&K52 l|_=>true
noncomputable def K52:List D->Bool
 |[]=>true|x::r=>okC x&&K52 r
end
def cX(d:D)(_:okC d=true):Ex:=cE d
section
variable {F:FT}{ρ:Env}{z:Z}{Q:List S->Z->Prop}{E:Nat->Z->Prop}{a b c as:Ex}{p:Pat}{ρ0:Env}{x:D}{Q1:Option D->Z->Prop}
theorem A51:W (q80 (ev F .nil) (ev F a) p ρ0 x) z Q1 E↔Get (f40 p x ρ0) λρ=>WE F a ρ z (λy z1=>Get (pl y) λd=>Q1 (some d) z1) E :=
 (wG λρ=>show _↔W (M.bind (ev F a ρ) λy=>M.bind (M.of (pl y)) λy=>M.ret (some y)) z Q1 E from wB c50 λy z1=>wG λd=>wR).symm
theorem w32{l:List S}{m:M (List S)}{V:Prop}(h:V↔W (M.bind m λy=>M.bind (M.of (pl y)) λy=>M.ret (some y)) z Q1 E):(match l with | [s]=>Get (blS s) λb=>if b then V else Q1 none z | _=>l=[]/\V)↔W (match l with
  |[]=>M.bind m λy=>M.bind (M.of (pl y)) λy=>M.ret (some y)|[.d (.bl true)]=>M.bind m λy=>M.bind (M.of (pl y)) λy=>M.ret (some y)|[.d (.bl false)]=>M.ret none
  |_=>M.no) z Q1 E:=by
 match l with
 |[]=>exact⟨λx=>h.mp x.2,λx=>⟨rfl,h.mpr x⟩⟩|[.d (.bl true)]=>exact v62.trans ((iff_of_eq (if_pos rfl)).trans h)|[.d (.bl false)]=>exact v62.trans ((iff_of_eq (if_neg Ï)).trans wR)|[.d .non]=>exact wN|[.d (.int _)]=>exact wN|[.d (.str _)]=>exact wN|[.d (.tup _)]=>exact wN|[.d (.lst _)]=>exact wN|[.d .dct]=>exact wN|[.fr _]=>exact wN|[.z]=>exact wN
 |s::_::_ =>
  refine⟨λx=>(by cases x.1),λx=>?_⟩
  cases s with
  |d y =>
   cases y with
   |bl b=>cases b <;> exact(v82.mp x).elim
   |_=>exact(v82.mp x).elim
  |_=>exact(v82.mp x).elim
theorem A61:W (q80 (ev F (.cons c .nil)) (ev F a) p ρ0 x) z Q1 E↔Get (f40 p x ρ0) λρ=>WE F c ρ z (λy z1=>Get (one y) λs=>Get (blS s) λb=>if b then WE F a ρ z1 (λy z2=>Get (pl y) λd=>Q1 (some d) z2) E else Q1 none z1) E:=by
 refine Iff.symm (wG λρ=>?_);refine wB (c50 (F:=F) (e:=.cons c .nil) (ρ:=ρ) (Q:=λl z1=>match l with | [s]=>Get (blS s) λb=>if b then WE F a ρ z1 (λy z2=>Get (pl y) λd=>Q1 (some d) z2) E else Q1 none z1 | _=>l=[]/\WE F a ρ z1 (λy z2=>Get (pl y) λd=>Q1 (some d) z2) E)) λl z1=>?_
 exact w32 (wB c50 λy z1=>wG λd=>wR)
end
section
variable {α:Type}{m:M α}{z z1:Z}{Q Q':α->Z->Prop}{E:Nat->Z->Prop}
theorem Wo(h:m z=some (.ok a z1))(q:Q a z1):W m z Q E:=⟨_,h,q⟩
theorem We(h:m z=some (.er c z1))(q:E c z1):W m z Q E:=⟨_,h,q⟩
end
theorem j40{T:List Df}{k f ps ns:Nat}{b:Sm}{l:List S}{z:Z}{Q:S->Z->Prop}{E:Nat->Z->Prop}(h:T[f]?=some (.code ps ns b))(hl:l.length=ps)(hn:ps<=ns)(q:WS (O20 T (k + 2)) z.isNone b (start ns (l.map plS)) z (λo z1=>match o with
  |.nx _=>Q (.d .non) (L30 z z1)
  |.rt s=>Q s (L30 z z1)) λc z1=>E c (L30 z z1)):W (b90 T (k + 3) f l) z Q E:=(w12 h hl hn).mpr q
theorem ib{b:Bool}{A B:Prop}(ht:b=true->A)(hf:b=false->B):if b=true then A else B:=by
 cases b with
 |true=>exact ht rfl|false=>exact hf rfl
theorem it{b:Bool}{A B:Prop}(h:b=true)(a:A):if b=true then A else B:=by rw[if_pos h];exact a
theorem ie{b:Bool}{A B:Prop}(h:b=false)(a:B):if b=true then A else B:=by rw[h];exact a
theorem ip{c:Prop}[Decidable c]{A B:Prop}(h:c)(a:A):if c then A else B:=by rw[if_pos h];exact a
theorem c40(z:Z):L30 z z=z:=by cases z <;> rfl
theorem sd{s t:S}{z:Z}(h:s=t):s=t/\L30 z z=z:=⟨h,c40 z⟩
theorem sb(h:b=c):S.d (.bl b)=S.d (.bl c)/\L30 z z=z:=sd (by rw[h])
section
variable {F:FT}{tp:Bool}{z:Z}{E:Nat->Z->Prop}{p:Pat}
theorem G50(I:List D->Env->Z->Prop)(xs:List D)(hi:I xs ρ z)(h:∀ x r ρ z,I (x::r) ρ z->Get (f40 p x ρ) λρ=>WS F tp b ρ z (λo z1=>match o with
  |.nx ρ=>I r ρ z1
  |.rt s=>Q (.rt s) z1) E) (q:∀ ρ z,I [] ρ z->Q (.nx ρ) z):W (W20 (λx ρ=>M.bind (M.of (f40 p x ρ)) λρ=>ex F tp b ρ) xs ρ) z Q E :=
 U01 I xs hi (λx r ρ z hi=>(wG λρ=>E30).mp (h x r ρ z hi)) q
theorem K62(I:Nat->Env->Z->Prop)(n:Nat)(hi:I n ρ z)(hn:n < h72)(h:∀ n ρ z,I n ρ z->WE F c ρ z (λx z1=>Get ((pl x).bind asB) λk=>if k then WS F tp b ρ z1 (λo z2=>match o with
  |.nx ρ=>∃ m,m < n/\I m ρ z2
  |.rt s=>Q (.rt s) z2) E else Q (.nx ρ) z1) E):W (R81 (ev F c) (ex F tp b) h72 ρ) z Q E:=by
 refine w22 I (λn ρ z hi=>?_) n h72 hi hn;refine(c50.mp (h n ρ z hi)).mono (λx z1 h=>?_) λ_ _ h=>h;obtain⟨k,e,h⟩:=i70 h;refine a00 e ?_;cases k with
 |true=>exact E30.mp h|false=>exact h
variable {ρ0:Env}{cond el:Ex}{xs:List D}{Q:List D->Z->Prop}
theorem A71(o:D->D)(h:∀ x∈xs,Get (f40 p x ρ0) λρ=>WE F el ρ z (λy z1=>Get (pl y) λd=>d=o x/\z1=z) NE)(q:Q (xs.map o) z):W (turns (q80 (ev F .nil) (ev F el) p ρ0) xs) z Q E:=by
 refine(a01 (o:=λx=>some (o x)) λx hx=>?_).mpr ?_
 ·refine W.ok (A51.mpr ?_);obtain⟨ρ,e,h⟩:=i70 (h x hx);refine a00 e (c50.mpr ((c50.mp h).imp λy z1 h=>?_));obtain⟨d,e,rfl,rfl⟩:=i70 h;exact a00 e ⟨rfl,rfl⟩
 ·rw[show xs.filterMap (λx=>some (o x))=xs.map o from congrFun (List.filterMap_eq_map (f:=o)) xs];exact q
theorem K72{c:D->Bool}{o:D->D}:∀ xs:List D,xs.filterMap (λx=>if c x then some (o x) else none)=(xs.filter c).map o
 |[]=>rfl
 |x::r=>by
  rw[Á5,Õ6];cases hc:c x with
  |false=>exact K72 r|true=>exact congrArg (o x::·) (K72 r)
theorem f92(c:D->Bool)(o:D->D)(h:∀ x∈xs,Get (f40 p x ρ0) λρ=>WE F cond ρ z (λy z1=>Get (one y) λs=>s=.d (.bl (c x))/\z1=z/\(c x=true->WE F el ρ z (λy z1=>Get (pl y) λd=>d=o x/\z1=z) NE)) NE)(q:Q ((xs.filter c).map o) z):W (turns (q80 (ev F (.cons cond .nil)) (ev F el) p ρ0) xs) z Q E:=by
 refine(a01 (o:=λx=>if c x then some (o x) else none) λx hx=>?_).mpr ?_
 ·refine W.ok (A61.mpr ?_);obtain⟨ρ,e,h⟩:=i70 (h x hx);refine a00 e (c50.mpr ((c50.mp h).imp λy z1 h=>?_));obtain⟨s,e,rfl,rfl,h⟩:=i70 h;refine a00 e ?_;show if c x=true then _ else _;cases hc:c x with
  |false=>exact⟨rfl,rfl⟩
  |true =>
   refine c50.mpr ((c50.mp (h hc)).imp λy z1 h=>?_);obtain⟨d,e,rfl,rfl⟩:=i70 h;exact a00 e ⟨rfl,rfl⟩
 ·rw[K72];exact q
theorem w42{I:Z->Prop}(o:D->D):∀ {xs:List D}{z:Z}{Q:List D->Z->Prop},I z->(∀ x∈xs,∀ z,I z->Get (f40 p x ρ0) λρ=>WE F cond ρ z (λy z1=>Get (one y) λs=>I z1/\∃ b,s=.d (.bl b)/\(b=true->WE F el ρ z1 (λy z2=>Get (pl y) λd=>d=o x/\z2=z1) NE)) NE) ->
  (∀ ys z1,I z1->ys.Sublist (xs.map o)->Q ys z1)->W (turns (q80 (ev F (.cons cond .nil)) (ev F el) p ρ0) xs) z Q E
 |[],z,Q,hi,_,q=>z30.mpr (q [] z hi .slnil)
 |x::r,z,Q,hi,h,q=>by
  show W (M.bind (q80 _ _ p ρ0 x) _) z Q E;refine n50.mpr (A61.mpr ?_);obtain⟨ρ,e,h0⟩:=i70 (h x Ì z hi);refine a00 e (c50.mpr ((c50.mp h0).imp λy z1 h1=>?_));obtain⟨s,e,hi1,b,rfl,h2⟩:=i70 h1;refine a00 e ?_;show if b=true then _ else _;have hr:=λ{Q:List D->Z->Prop} (q:∀ ys z1,I z1->ys.Sublist (r.map o)->Q ys z1)=>w42 o (z:=z1) hi1 (λy hy=>h y (Ê _ hy)) q;cases b with
  |false=>exact n50.mpr (hr λys z2 hi2 hs=>z30.mpr (q ys z2 hi2 (hs.cons _)))
  |true =>
   refine c50.mpr ((c50.mp (h2 rfl)).imp λy z2 h3=>?_);obtain⟨d,e,rfl,rfl⟩:=i70 h3;exact a00 e (n50.mpr (hr λys z2 hi2 hs=>z30.mpr (q _ z2 hi2 (hs.cons_cons _))))
theorem W32{I:Z->Prop}{P:D->D->Prop}(hi:I z)(h:∀ x∈xs,∀ z,I z->Get (f40 p x ρ0) λρ=>WE F el ρ z (λy z1=>Get (pl y) λd=>I z1/\P x d) NE)(q:∀ ys z1,I z1->Á8 P xs ys->Q ys z1):W (turns (q80 (ev F .nil) (ev F el) p ρ0) xs) z Q E:=by
 refine g41 hi (λx hx z hz=>A51.mpr ?_) q;obtain⟨ρ,e,h⟩:=i70 (h x hx z hz);refine a00 e (c50.mpr ((c50.mp h).imp λy z1 h=>?_));obtain⟨d,e,h⟩:=i70 h;exact a00 e ⟨h.1,d,rfl,h.2⟩
end
theorem g51{s:S}{ρ:Env}(h:C70 s=true):i30 s ρ=ρ:=by
 unfold i30;rw[R40,h];rfl
theorem l81{F:FT}{tp:Bool}{p:Pat}{e:Ex}{r:Sm}{ρ:Env}{z:Z}{Q:O->Z->Prop}{E:Nat->Z->Prop}(s:S)(ρ':Env)(he:WE F e ρ z (λl z1=>Get (one l) λt=>t=s/\z1=z) NE)(hb:C80 p s (i30 s ρ)=some ρ')(q:WS F tp r ρ' z Q E):WS F tp (.seq (.set p e) r) ρ z Q E:=by
 show WE F e ρ z (λl z1=>Get (one l) λs=>Get (C80 p s (i30 s ρ)) λρ'=>WX F tp r ρ' z1 Q E) E;refine c50.mpr ((c50.mp he).imp λl z1 h=>?_);obtain⟨t,e,rfl,rfl⟩:=i70 h;exact a00 e (a00 hb q)
end Q
namespace K3
open PySem L2 Q
def top(i:Nat):Stmt:=ú.main.body.getD i (.Pass ⟨0,0,0,0⟩)
def nums:List (Str × Int):=[(("MOST_PLACES":Str),(6:Int)),(("MOST_TIES":Str),(8:Int))]
abbrev v0:Ex:=.var 0
abbrev v1:Ex:=.var 1
abbrev v2:Ex:=.var 2
abbrev v3:Ex:=.var 3
abbrev v4:Ex:=.var 4
abbrev v5:Ex:=.var 5
abbrev v6:Ex:=.var 6
abbrev v7:Ex:=.var 7
abbrev v8:Ex:=.var 8
abbrev v9:Ex:=.var 9
abbrev v10:Ex:=.var 10
abbrev v11:Ex:=.var 11
abbrev v12:Ex:=.var 12
abbrev v13:Ex:=.var 13
abbrev n0:Ex:=.con (.int 0)
abbrev n1:Ex:=.con (.int 1)
abbrev n2:Ex:=.con (.int 2)
abbrev c1(a:Ex):Ex:=.cons a .nil
abbrev c2(a b:Ex):Ex:=.cons a (.cons b .nil)
abbrev c3(a b c:Ex):Ex:=.cons a (.cons b (.cons c .nil))
abbrev c4(a b c d:Ex):Ex:=.cons a (.cons b (.cons c (.cons d .nil)))
abbrev c5(a b c d e:Ex):Ex:=.cons a (.cons b (.cons c (.cons d (.cons e .nil))))
abbrev s1(a:Sm):Sm:=.seq a .nil
abbrev p2(a b:Pat):Pat:=.tup (.cons a (.cons b .nil))
abbrev w40:Nat:=0
abbrev q30:Nat:=1
abbrev g61:Nat:=2
abbrev H60:Nat:=3
abbrev g71:Nat:=4
abbrev A81:Nat:=5
abbrev l50:Nat:=6
abbrev i80:Nat:=7
abbrev e80:Nat:=8
abbrev H70:Nat:=9
abbrev x60:Nat:=10
abbrev H80:Nat:=11
abbrev E40:Nat:=12
abbrev h70:Nat:=13
abbrev x70:Nat:=14
abbrev c70:Nat:=15
abbrev r40:Nat:=16
abbrev x80:Nat:=17
abbrev a80:Nat:=18
abbrev w50:Nat:=19
abbrev m40:Nat:=20
abbrev E50:Nat:=21
abbrev E60:Nat:=22
abbrev E70:Nat:=23
abbrev x90:Nat:=24
abbrev m50:Nat:=25
abbrev j90:Nat:=26
abbrev r50:Nat:=27
abbrev f00:Nat:=28
abbrev m60:Nat:=29
abbrev y00:Nat:=30
abbrev w52:Nat:=31
def H90:Sm:=(s1 (.ret (.and (.isi .int v0) (.not (.isi .bool v0)))))
def w60:Sm:=(s1 (.ret (.and (.call w40 (c1 v0)) (.ch .le .lt n0 v0 v1))))
def M60:Sm:=(.seq (.iff (.or (.not (.isi .tuple v0)) (.cmp .ne (.bf .len (c1 v0)) n2)) (s1 (.ret (.con (.bl false)))) .nil) (.seq (.set (p2 (.v 2) (.v 3)) v0) (s1 (.ret (.and (.call q30 (c2 v2 v1)) (.and (.call q30 (c2 v3 v1)) (.cmp .lt v2 v3)))))))
def w70:Sm:=(.seq (.iff (.or (.not (.isi .tuple v0)) (.cmp .gt (.bf .len (c1 v0)) (.gint "MOST_TIES" 8))) (s1 (.ret (.con (.bl false)))) .nil) (.seq (.iff (.not (.bf .all (c1 (.comp 1 [1] (.v 0) .seq (c1 v0) .nil (.call g61 (c2 v0 v1)))))) (s1 (.ret (.con (.bl false)))) .nil) (s1 (.ret (.bf .all (c1 (.comp 2 [] (p2 (.v 0) (.v 1)) .zip (c2 v0 (.sl v0 (c1 n1) .nil)) .nil (.cmp .le v0 v1))))))))
def M70:Sm:=(.seq (.iff (.or (.not (.isi .tuple v0)) (.cmp .ne (.bf .len (c1 v0)) n2)) (s1 (.ret (.con (.bl false)))) .nil) (.seq (.set (p2 (.v 1) (.v 2)) v0) (s1 (.ret (.and (.call w40 (c1 v1)) (.and (.ch .le .le n1 v1 (.gint "MOST_PLACES" 6)) (.call H60 (c2 v2 v1))))))))
def a11:Sm:=(s1 (.ret (.bf .all (c1 (.comp 2 [] (p2 (.v 0) (.v 1)) .zip (c2 v0 (.sl v0 (c1 n1) .nil)) .nil (.cmp .lt v0 v1))))))
def g40:Sm:=(.seq (.iff (.not (.isi .tuple v0)) (s1 (.ret (.con (.bl false)))) .nil) (s1 (.ret (.and (.bf .all (c1 (.comp 1 [1] (.v 0) .seq (c1 v0) .nil (.call q30 (c2 v0 v1))))) (.call A81 (c1 v0))))))
def m70:Sm:=(s1 (.iff (.not (.call g71 (c1 v0))) (s1 (.rais 0)) .nil))
def g50:Sm:=(s1 (.iff (.or (.not (.call l50 (c2 v1 (.idx v0 n0)))) (.cmp .eq (.bf .len (c1 v1)) n0)) (s1 (.rais 2)) .nil))
def w80:Sm:=(.seq (.set (p2 (.v 2) (.v 3)) v0) (.seq (.set (.v 4) (.lrng false (c1 v2))) (.seq (.fr (.v 5) .seq (c1 v1) (.seq (.set (p2 (.v 6) (.v 7)) (.idx v3 v5)) (.seq (.set (.v 8) (.idx v4 v6)) (.seq (.set (.v 9) (.idx v4 v7)) (s1 (.set (.v 4) (.comp 1 [8,9] (.v 0) .seq (c1 v4) .nil (.ite (.cmp .eq v0 v2) v1 v0)))))))) (s1 (.ret v4)))))
def o90:Sm:=(.seq (.set (.v 3) (.call H70 (c2 v0 v1))) (s1 (.ret (.bf .all (c1 (.comp 1 [2,3] (.v 0) .seq (c1 v2) .nil (.cmp .eq (.idx v2 v0) (.idx v2 (.idx v1 n0)))))))))
def q40:Sm:=(.seq (.set (.v 1) (cX (.lst [(.tup [])]) (-0))) (.seq (.fr (.v 2) .rng1 (c1 (.bf .len (c1 (.idx v0 n1)))) (s1 (.set (.v 1) (.bin .add v1 (.comp 1 [2] (.v 0) .seq (c1 v1) .nil (.bin .add v0 (.tup (c1 v1)))))))) (s1 (.ret (.bf .sorted (c1 v1))))))
def i90:Sm:=(.seq (.exp (.call i80 (c1 v0))) (.seq (.exp (.call e80 (c2 v0 v1))) (s1 (.ret (.comp 1 [0,1] (.v 0) .seq (c1 (.call H80 (c1 v0))) (c1 (.call x60 (c3 v1 v0 v2))) v0)))))
def u40:Sm:=(.seq (.set (.v 2) (.call E40 (c2 v0 v1))) (.seq (.set (.v 3) (.bin .mul (cX (.lst [(.int 0)]) (-0)) (.bin .add (.bf .len (c1 (.idx v0 n1))) n1))) (.seq (.fr (.v 4) .seq (c1 v2) (s1 (.augi 3 (.bf .len (c1 v4)) n1))) (s1 (.ret v3)))))
def e20:Sm:=(.seq (.exp (.call i80 (c1 v0))) (.seq (.exp (.call i80 (c1 v2))) (.seq (.exp (.call e80 (c2 v0 v1))) (s1 (.exp (.call e80 (c2 v2 v3)))))))
def f10:Sm:=(.seq (.exp (.call x70 (c4 v0 v1 v2 v3))) (s1 (.ret (.cmp .eq (.call h70 (c2 v0 v1)) (.call h70 (c2 v2 v3))))))
def g60:Sm:=(.seq (.iff (.cmp .lt v1 (.bf .len (c1 v0))) (s1 (.ret (.idx v0 v1))) .nil) (s1 (.ret n0)))
def k00:Sm:=(.seq (.set (.v 2) (.call r40 (c2 v0 v1))) (.seq (.iff (.cmp .ge v2 (.bin .pow (.con (.int 10)) (.con (.int 18)))) (s1 (.ret (.lst (c2 (.bin .sub v2 (.bin .pow (.con (.int 10)) (.con (.int 18)))) (.con (.bl true)))))) .nil) (s1 (.ret (.lst (c2 (.bin .mod v2 (.con (.int 2147483647))) (.con (.bl false))))))))
def s30:Sm:=(.seq (.iff (.zget 0 1) (.seq (.set (.v 2) (.bin .mod (.zget 0 0) v1)) (.seq (.zset 0 (.bin .fdiv (.zget 0 0) v1)) (s1 (.ret v2)))) .nil) (.seq (.zset 0 (.bin .mod (.bin .add (.bin .mul (.zget 0 0) (.con (.int 48271))) (.con (.int 29))) (.con (.int 2147483647)))) (.seq (.set (.v 3) (.bin .mod (.bin .add (.bin .add (.bin .mul (.zget 0 0) (.zget 0 0)) (.bin .mul (.con (.int 39373)) (.zget 0 0))) (.con (.int 7))) (.con (.int 2147483629)))) (.seq (.set (.v 3) (.bin .mod (.bin .add (.bin .mul v3 v3) (.bin .mul (.con (.int 16807)) v3)) (.con (.int 2147483587)))) (s1 (.ret (.bin .mod (.bin .fdiv v3 (.con (.int 8))) v1)))))))
def w90:Sm:=(.seq (.set (.v 2) (.idx (cX (.lst [(.int 6),(.int 5),(.int 4),(.int 3),(.int 4),(.int 5),(.int 2),(.int 1)]) (-0)) (.call a80 (c2 v0 (.con (.int 8)))))) (.seq (.set (.v 3) (.lst .nil)) (.seq (.iff (.and (.cmp .gt v2 n1) (.cmp .gt (.call a80 (c2 v0 (.con (.int 5)))) n0)) (s1 (.set (.v 3) (.comp 1 [0] (.v 0) .rng2 (c2 n1 v2) .nil (.tup (c2 (.call a80 (c2 v1 v0)) v0))))) .nil) (.seq (.fr (.v 4) .rng1 (c1 (.bin .mul (.call a80 (c2 v0 (.bin .add v1 n1))) (.bf .int (c1 (.cmp .gt v2 n1))))) (.seq (.set (.v 5) (.call a80 (c2 v0 v2))) (.seq (.set (.v 6) (.bin .mod (.bin .add (.bin .add v5 n1) (.call a80 (c2 v0 (.bin .sub v2 n1)))) v2)) (s1 (.app 3 (.tup (c2 (.bf .min (c2 v5 v6)) (.bf .max (c2 v5 v6))))))))) (s1 (.ret (.tup (c2 v2 (.bf .tuple (c1 (.bf .sorted (c1 (.sl v3 .nil (c1 v1))))))))))))))
def m80:Sm:=(.seq (.set (.v 2) (.call a80 (c2 v0 (.con (.int 4))))) (.seq (.iff (.or (.cmp .lt v2 n2) (.cmp .eq (.idx v1 n0) n1)) (s1 (.ret (.lrng true (c1 (.idx v1 n0))))) .nil) (.seq (.iff (.cmp .eq v2 n2) (.seq (.set (.v 3) (.call a80 (c2 v0 (.idx v1 n0)))) (s1 (.ret (.bf .tuple (c1 (.bf .sorted (c1 (.lst (c2 v3 (.bin .mod (.bin .add (.bin .add v3 n1) (.call a80 (c2 v0 (.bin .sub (.idx v1 n0) n1)))) (.idx v1 n0))))))))))) .nil) (s1 (.ret (.orT (.bf .tuple (c1 (.comp 1 [0] (.v 0) .rng1 (c1 (.idx v1 n0)) (c1 (.cmp .eq (.call a80 (c2 v1 n2)) n1)) v0))) (.tup (c1 (.bin .sub (.idx v1 n0) n1)))))))))
def s40:Sm:=(.seq (.set (.v 3) (.lst (c1 v2))) (.seq (.fr (.v 4) .rng1 (c1 (.idx v0 n0)) (s1 (.fr (.v 5) .seq (c1 v1) (.seq (.set (p2 (.v 6) (.v 7)) (.idx (.idx v0 n1) v5)) (.seq (.iff (.and (.cmp .mem v6 v3) (.cmp .nmem v7 v3)) (s1 (.set (.v 3) (.bin .add v3 (.lst (c1 v7))))) .nil) (s1 (.iff (.and (.cmp .mem v7 v3) (.cmp .nmem v6 v3)) (s1 (.set (.v 3) (.bin .add v3 (.lst (c1 v6))))) .nil))))))) (s1 (.ret (.bf .tuple (c1 (.bf .sorted (c1 v3))))))))
def s50:Sm:=(.seq (.set (.v 3) (.call E50 (c3 v0 v1 (.idx v2 n0)))) (s1 (.ret (.cmp .eq (.comp 1 [3] (.v 0) .seq (c1 v2) (c1 (.cmp .nmem v0 v1)) v0) (.lst .nil)))))
def E80:Sm:=(.seq (.set (.v 1) (cX (.lst [(.tup [])]) (-0))) (.seq (.fr (.v 2) .rng1 (c1 (.bf .len (c1 (.idx v0 n1)))) (s1 (.set (.v 1) (.bin .add v1 (.comp 1 [2] (.v 0) .seq (c1 v1) .nil (.bin .add v0 (.tup (c1 v1)))))))) (s1 (.ret (.bf .sorted (c1 v1))))))
def p00:Sm:=(s1 (.ret (.and (.isi .int v0) (.not (.isi .bool v0)))))
def e50:Sm:=(.seq (.iff (.or (.not (.isi .tuple v1)) (.cmp .ne (.comp 1 [] (.v 0) .seq (c1 v1) (c1 (.not (.call x90 (c1 v0)))) v0) (.lst .nil))) (s1 (.ret (.con (.bl false)))) .nil) (.seq (.iff (.cmp .ne (.comp 1 [0] (.v 0) .seq (c1 v1) (c1 (.not (.ch .le .lt n0 v0 v1))) v0) (.lst .nil)) (s1 (.ret (.con (.bl false)))) .nil) (s1 (.ret (.cmp .eq (.bf .list (c1 v1)) (.bf .sset (c1 v1)))))))
def f60:Sm:=(.seq (.set (.v 3) (.call a80 (c2 v0 (.bin .add (.bf .len (c1 v2)) n1)))) (.seq (.set (.v 4) (.idx (.lst (.cons (.call a80 (c2 v0 (.bin .add v1 n1))) (.cons v1 (.cons (.neg n1) (.cons (.con (.bl true)) (.cons (.con .non) (c5 (.con (.str "0")) (cX (.tup [(.int 0)]) (-0)) (.con (.bl false)) (.bin .pow (.con (.int 10)) (.con (.int 29))) n0))))))) (.call a80 (c2 v0 (.con (.int 10)))))) (.seq (.set (.v 5) (.lst (c4 (.bin .add (.bin .add (.sl v2 .nil (c1 v3)) (.tup (c1 v4))) (.sl v2 (c1 v3) .nil)) (.bin .add (.bin .add (.sl v2 .nil (c1 v3)) (.tup (c1 v4))) (.sl v2 (c1 (.bin .add v3 n1)) .nil)) (.bin .add (.sl v2 .nil (c1 v3)) (.sl v2 (c1 (.bin .add v3 n1)) .nil)) (.bf .list (c1 v2))))) (s1 (.ret (.idx (.bin .add v5 (.lst (.cons (.rev v2) (.cons (.bin .add v2 (.sl v2 (c1 (.neg n1)) .nil)) (c5 (.con .non) (.con .dct) n0 (.tup (c1 v2)) (.tup .nil)))))) (.call a80 (c2 v0 (.con (.int 11))))))))))
def k80:Sm:=(.seq (.set (.v 1) (cX (.lst [.non,(.int 0),(.tup []),(.tup [(.int 7),(.tup [])]),(.tup [(.int 0),(.tup [])]),(.tup [(.int (-1)),(.tup [])]),(.tup [(.bl true),(.tup [])]),(.tup [(.int 2),(.lst [])]),(.lst [(.int 2),(.tup [])]),(.tup [(.int 2),(.tup [(.tup [(.int 1),(.int 0)])])]),(.tup [(.int 2),(.tup [(.tup [(.int 0),(.int 0)])])]),.dct]) (-0))) (.seq (.set (.v 1) (.bin .add v1 (.lst (c5 (.tup (c2 n2 (.bin .mul (cX (.tup [(.tup [(.int 0),(.int 1)])]) (-0)) (.con (.int 9))))) (cX (.tup [(.int 3),(.tup [(.tup [(.int 0),(.int 2)]),(.tup [(.int 0),(.int 1)])])]) (-0)) (cX (.tup [(.int 2),(.tup [(.tup [(.int 0),(.int 2)])])]) (-0)) (cX (.tup [(.int 2),(.tup [(.tup [(.int 0),(.bl true)])])]) (-0)) (cX (.tup [(.int 2),(.tup [(.tup [(.int 0),(.int 1),(.int 1)])])]) (-0)))))) (.seq (.set (.v 1) (.bin .add v1 (cX (.lst [(.tup [(.int 2),(.tup [(.int 0),(.int 1)])]),(.tup [(.int 2),.non]),(.tup [(.int 2),(.tup []),(.tup [])]),(.tup [(.int 2)]),(.tup [(.int 2),(.tup [(.lst [(.int 0),(.int 1)])])]),(.tup [(.int 2),(.tup [.non])]),(.tup [(.str "2"),(.tup [])]),(.str "2:")]) (-0)))) (s1 (.ret (.idx v1 (.call a80 (c2 v0 (.con (.int 25))))))))))
def j00:Sm:=(.seq (.iff (.isi .seq v1) (.seq (.iff (.or (.cmp .ne (.isi .tuple v0) (.isi .tuple v1)) (.cmp .ne (.isi .list v0) (.isi .list v1))) (s1 (.ret (.con (.bl false)))) .nil) (.seq (.iff (.cmp .ne (.bf .len (c1 v0)) (.bf .len (c1 v1))) (s1 (.ret (.con (.bl false)))) .nil) (s1 (.ret (.bf .all (c1 (.comp 2 [] (p2 (.v 0) (.v 1)) .zip (c2 v0 v1) .nil (.call f00 (c2 v0 v1))))))))) .nil) (s1 (.ret (.and (.cmp .eq v0 v1) (.cmp .eq (.isi .bool v0) (.isi .bool v1))))))
def m90:Sm:=(.seq (.set (.v 2) (.bin .mul (cX (.lst [(.int 0)]) (-0)) (.bin .add (.bf .len (c1 (.idx v0 n1))) n1))) (.seq (.fr (.v 3) .seq (c1 (.call E70 (c1 v0))) (s1 (.sti 2 (.bf .len (c1 v3)) (.bin .add (.idx v2 (.bf .len (c1 v3))) (.bf .int (c1 (.call E60 (c3 v0 v3 v1)))))))) (s1 (.ret v2))))
def k20:Sm:=(.seq (.set (.v 3) (.lrng false (c1 (.idx v1 n0)))) (.seq (.set (.v 4) (.lst .nil)) (.seq (.whl (.cmp .ne v3 (.lst .nil)) (s1 (.apop 4 3 (.call a80 (c2 v0 (.bf .len (c1 v3))))))) (.seq (.set (.v 5) (.comp 2 [4] (p2 (.v 0) (.v 1)) .seq (c1 (.idx v1 n1)) .nil (.bf .tuple (c1 (.bf .sorted (c1 (.lst (c2 (.idx v2 v0) (.idx v2 v1))))))))) (.seq (.iff (.and (.cmp .ne v5 (.lst .nil)) (.cmp .eq (.call a80 (c2 v0 (.con (.int 3)))) n0)) (s1 (.sti 5 (.call a80 (c2 v0 (.bf .len (c1 v5)))) (.tup (c2 n0 (.bin .add n1 (.call a80 (c2 v0 (.bin .sub (.idx v1 n0) n1)))))))) .nil) (s1 (.ret (.tup (c2 (.tup (c2 (.idx v1 n0) (.bf .tuple (c1 (.bf .sorted (c1 v5)))))) (.bf .tuple (c1 (.bf .sorted (c1 (.comp 1 [4] (.v 0) .seq (c1 v2) .nil (.idx v1 v0)))))))))))))))
def N31:Sm:=(.seq (.fr (.v 1) .rng1 (c1 (.bf .max (c2 n1 (.bf .min (c2 (.bf .len (c1 v0)) (.con (.int 4))))))) (.seq (.newz 2 x80 (c2 v0 v1)) (.seq (.set (.v 3) (.call w50 (c2 v2 (.idx (cX (.lst [(.int 8),(.int 6),(.int 7)]) (-0)) (.call a80 (c2 v2 (.con (.int 3)))))))) (.seq (.set (.v 4) (.call m40 (c2 v2 v3))) (.seq (.set (.v 5) (.call m60 (c2 v3 v4))) (.seq (.fr (.v 6) .rng1 (c1 n2) (.seq (.set (.v 7) (.call h70 (c2 v3 v4))) (.seq (.iff (.not (.call f00 (c2 v7 v5))) (s1 (.ret (.con (.bl false)))) .nil) (s1 (.app 7 n0))))) (.seq (.set (p2 (.v 8) (.v 9)) (.call y00 (c3 v2 v3 v4))) (.seq (.set (.v 10) (.call w50 (c2 v2 (.con (.int 5))))) (.seq (.fr (p2 (.v 11) (.v 12)) .seq (c1 (.lst (c3 (.tup (c2 v8 v9)) (.tup (c2 v10 (.call m40 (c2 v2 v10)))) (.tup (c2 v3 v4))))) (.seq (.set (.v 13) (.cmp .eq (.call m60 (c2 v11 v12)) v5)) (s1 (.iff (.not (.call f00 (c2 (.call c70 (c4 v3 v4 v11 v12)) v13))) (s1 (.ret (.con (.bl false)))) .nil)))) (.seq (.set (p2 (.v 14) (.v 15)) (.tup (c2 (.call r50 (c1 v2)) (.call j90 (c3 v2 (.idx v3 n0) v4))))) (.lams 16 [([14,15] ,(.call h70 (c2 v0 v1))),([8,14,15] ,(.call c70 (c4 v1 v2 v0 v2))),([3,14,15] ,(.call c70 (c4 v0 v2 v1 v2)))] none (.bin .mul (cX (.lst [(.lst [(.int 0)])]) (-0)) (.con (.int 3))) (s1 (.ret (.con (.bl false)))) (.lams 16 [([3,15] ,(.call h70 (c2 v0 v1))),([3,8,9,15] ,(.call c70 (c4 v0 v3 v1 v2))),([3,8,9,15] ,(.call c70 (c4 v1 v2 v0 v3)))] (some (17 ,(.or (.not (.call m50 (c2 (.idx v3 n0) (.var 15)))) (.cmp .eq (.var 15) (.tup .nil))))) (.bin .mul (cX (.lst [(.lst [(.int 2)])]) (-0)) (.con (.int 3))) (s1 (.ret (.con (.bl false)))) .nil)))))))))))) (s1 (.ret (.con (.bl true)))))
def rows:List Row:=[(⟨"is_whole",["thing"],top 17,["thing"],H90,false⟩:Row),
 (⟨"is_below",["thing","many"],top 18,["thing","many"],w60,false⟩:Row),
 (⟨"is_tie",["thing","many"],top 19,["thing","many","a","b"],M60,false⟩:Row),
 (⟨"are_ties",["thing","many"],top 20,["thing","many"],w70,false⟩:Row),
 (⟨"is_web",["thing"],top 21,["thing","many","ties"],M70,false⟩:Row),
 (⟨"rises",["things"],top 22,["things"],a11,false⟩:Row),
 (⟨"is_rising_below",["thing","many"],top 23,["thing","many"],g40,false⟩:Row),
 (⟨"check_web",["thing"],top 24,["thing"],m70,false⟩:Row),
 (⟨"check_places",["web","thing"],top 25,["web","thing"],g50,false⟩:Row),
 (⟨"marks_by",["web","lot"],top 26,["web","lot","many","ties","marks","number","a","b","kept","gone"],w80,false⟩:Row),
 (⟨"are_joined",["web","lot","places"],top 27,["web","lot","places","marks"],o90,false⟩:Row),
 (⟨"all_lots",["web"],top 29,["web","lots","number"],q40,false⟩:Row),
 (⟨"good_lots",["web","places"],top 30,["web","places"],i90,false⟩:Row),
 (⟨"counts",["web","places"],top 32,["web","places","lots","found","lot"],u40,false⟩:Row),
 (⟨"check_both",["web","places","other","more"],top 33,["web","places","other","more"],e20,false⟩:Row),
 (⟨"are_alike",["web","places","other","more"],top 34,["web","places","other","more"],f10,false⟩:Row),
 (⟨"_law_cell_at",["_law_script","_law_k"],top 36,["_law_script","_law_k"],g60,false⟩:Row),
 (⟨"_law_state",["_law_script","_law_k"],top 37,["_law_script","_law_k","_law_cell"],k00,false⟩:Row),
 (⟨"_law_take",["_law_state_here","_law_many"],top 38,["_law_state_here","_law_many","_law_found","_law_stirred"],s30,false⟩:Row),
 (⟨"_law_web",["_law_state_here","_law_most"],top 39,["_law_state_here","_law_most","_law_many","_law_ties","_law_turn","_law_one","_law_other_here"],w90,false⟩:Row),
 (⟨"_law_places",["_law_state_here","_law_web_here"],top 40,["_law_state_here","_law_web_here","_law_way","_law_one"],m80,false⟩:Row),
 (⟨"_law_with",["_law_web_here","_law_lot","_law_place"],top 41,["_law_web_here","_law_lot","_law_place","_law_found","_law_turn","_law_number","_law_one","_law_other_here"],s40,false⟩:Row),
 (⟨"_law_good",["_law_web_here","_law_lot","_law_places_here"],top 42,["_law_web_here","_law_lot","_law_places_here","_law_here"],s50,false⟩:Row),
 (⟨"_law_lots",["_law_web_here"],top 43,["_law_web_here","_law_found","_law_number"],E80,false⟩:Row),
 (⟨"_law_whole",["_law_thing"],top 44,["_law_thing"],p00,false⟩:Row),
 (⟨"_law_rising",["_law_many","_law_thing"],top 45,["_law_many","_law_thing"],e50,false⟩:Row),
 (⟨"_law_bent_rising",["_law_state_here","_law_many","_law_some"],top 46,["_law_state_here","_law_many","_law_some","_law_at","_law_odd","_law_found"],f60,false⟩:Row),
 (⟨"_law_bad_web",["_law_state_here"],top 47,["_law_state_here","_law_some"],k80,false⟩:Row),
 (⟨"_law_same",["_law_found","_law_due"],top 48,["_law_found","_law_due"],j00,false⟩:Row),
 (⟨"_law_counts",["_law_web_here","_law_places_here"],top 50,["_law_web_here","_law_places_here","_law_found","_law_lot"],m90,false⟩:Row),
 (⟨"_law_other",["_law_state_here","_law_web_here","_law_places_here"],top 51,["_law_state_here","_law_web_here","_law_places_here","_law_left","_law_names","_law_ties"],k20,false⟩:Row),
 (⟨"law",["_law_script"],top 52,["_law_script","_law_k","_law_state_here","_law_web_here","_law_places_here","_law_due","_law_lap","_law_found","_law_other_here","_law_more","_law_third","_law_one","_law_some","_law_alike","_law_bad","_law_odd","_law_calls","_law_none"],N31,true⟩:Row)]
def T:List Df:=[(Df.code 1 1 H90:Df),(Df.code 2 2 w60:Df),(Df.code 2 4 M60:Df),(Df.code 2 2 w70:Df),(Df.code 1 3 M70:Df),(Df.code 1 1 a11:Df),(Df.code 2 2 g40:Df),(Df.code 1 1 m70:Df),(Df.code 2 2 g50:Df),(Df.code 2 10 w80:Df),(Df.code 3 4 o90:Df),(Df.code 1 3 q40:Df),(Df.code 2 2 i90:Df),(Df.code 2 5 u40:Df),(Df.code 4 4 e20:Df),(Df.code 4 4 f10:Df),(Df.code 2 2 g60:Df),(Df.code 2 3 k00:Df),(Df.code 2 4 s30:Df),(Df.code 2 7 w90:Df),(Df.code 2 4 m80:Df),(Df.code 3 8 s40:Df),(Df.code 3 4 s50:Df),(Df.code 1 3 E80:Df),(Df.code 1 1 p00:Df),(Df.code 2 2 e50:Df),(Df.code 3 6 f60:Df),(Df.code 1 2 k80:Df),(Df.code 2 2 j00:Df),(Df.code 2 4 m90:Df),(Df.code 3 6 k20:Df),(Df.code 1 18 N31:Df)]
theorem W42:tabOf rows=T:=rfl
end K3
namespace K3
open Q
open L2 (D)
def p10:D->Bool
 |.int _=>true|_=>false
theorem E90(k:Nat)(x:D)(z:Z):b90 T (k + 3) w40 [.d x] z=some (.ok (.d (.bl (p10 x))) z):=by
 cases z <;> cases x <;> rfl
def b80(x:D)(m:Int):Bool:=match x with
 |.int i=>decide (0<=i)&&decide (i < m)|_=>false
theorem s60(k:Nat)(x:D)(m:Int)(z:Z):b90 T (k + 4) q30 [.d x,.d (.int m)] z=some (.ok (.d (.bl (b80 x m))) z):=by
 refine W.ok (j40 (ps:=2) (ns:=2) (b:=w60) rfl rfl (-0) (Wo (E90 (k:=k) x z) ?_))
 cases x with
 |int i=>exact ib (b:=decide (0<=i)) (λh=>sb (show decide (i < m)=(decide (0<=i)&&decide (i < m)) by rw[h];rfl)) λh=>sb (show false=(decide (0<=i)&&decide (i < m)) by rw[h];rfl)|_=>exact sb rfl
def E41(x:D)(m:Int):Bool:=match x with
 |.tup [a,b]=>b80 a m&&(b80 b m&&(match a,b with
  |.int i,.int j=>decide (i < j)
  |_,_=>false))
 |_=>false
theorem j10(h:b80 x m=true):∃ i,x=.int i/\0<=i/\i < m:=by
 cases x with
 |int i =>
  unfold b80 at h;rw[Á,decide_eq_true_eq,decide_eq_true_eq] at h;exact⟨i,rfl,h⟩
 |_=>cases h
theorem A91(k:Nat)(x:D)(m:Int)(z:Z):b90 T (k + 5) g61 [.d x,.d (.int m)] z=some (.ok (.d (.bl (E41 x m))) z):=by
 refine W.ok (j40 (ps:=2) (ns:=4) (b:=M60) rfl rfl (-0) ?_)
 cases x with
 |tup l =>
  match l with
  |[a,b] =>
   refine Wo (s60 k a m z) (ib (b:=b80 a m) (λh1=>Wo (s60 k b m z) (ib (b:=b80 b m) (λh2=>?_) λh=>?_)) λh=>?_)
   ·obtain⟨i,rfl,_⟩:=j10 h1;obtain⟨j,rfl,_⟩:=j10 h2;exact sb (show decide (i < j)=(b80 (.int i) m&&(b80 (.int j) m&&decide (i < j))) by rw[h1,h2];rfl)
   ·exact sb (show false=(b80 a m&&(b80 b m&&_)) by rw[h1,h];rfl)
   ·exact sb (show false=(b80 a m&&_) by rw[h];rfl)
  |[]=>exact sb rfl|[_]=>exact sb rfl|_::_::_::_=>exact sb rfl
 |_=>exact sb rfl
theorem F00(l:List D)(p:D->Bool):bfD .all [.lst (l.map λx=>D.bl (p x))]=some (.d (.bl (l.all p))):=by
 have h:(l.map λx=>D.bl (p x)).mapM asB=some (l.map p):=by
  induction l with
  |nil=>rfl
  |cons x r ih =>
   rw[Å6,mapM_cons,ih];rfl
 show((l.map λx=>D.bl (p x)).mapM asB).map _=_;rw[h];simp[all_map]
theorem g81(l:List D)(n:Nat):cutD l (some (n:Int)) none=l.drop n:=by
 have h1:HT.sIx l.length 0 (some (n:Int))=min n l.length:=HT.o71 l.length 0 n;unfold cutD;rw[h1];show((l.drop (min n l.length)).take (l.length - min n l.length))=_;rcases Nat.le_total n l.length with h | h
 ·rw[Ý1 h,Ë9 (by rw[Í5];omega)]
 ·rw[Û9 h,drop_length,List.take_nil,List.drop_of_length_le h]
theorem u50:∀ a b:List D,(r90 a b).length<=a.length
 |[],_=>Î _|_::_,[]=>È3 _|_::r,_::q=>Û8 (u50 r q)
theorem a21:∀ {a b:List D}{d:D},d∈r90 a b->∃ x∈a,∃ y∈b,d=.tup [x,y]
 |x::r,y::q,d,h=>by
  rcases ó.mp h with h | h
  ·exact⟨x,Ì,y,Ì,h⟩
  ·obtain⟨u,hu,v,hv,e⟩:=a21 h;exact⟨u,Ê _ hu,v,Ê _ hv,e⟩
def leD:D->Bool
 |.tup [.tup a,.tup b]=>(match Y00 a,Y00 b with
  |some ns,some ms=>HT.leB ns ms
  |_,_=>false)
 |_=>false
def g91(l:List D):Bool:=(r90 l (l.drop 1)).all leD
def a31(x:D)(m:Int):Bool:=match x with
 |.tup l=>decide (l.length<=8)&&(l.all (λt=>E41 t m)&&g91 l)|_=>false
theorem T60(h:E41 x m=true):∃ i j,x=.tup [.int i,.int j]/\0<=i/\i < j/\j < m:=by
 cases x with
 |tup l =>
  match l,h with
  |[a,b],h =>
   unfold E41 at h;rw[Á,Á] at h;obtain⟨h1,h2,h3⟩:=h;obtain⟨i,rfl,i1,i2⟩:=j10 h1;obtain⟨j,rfl,j1,j2⟩:=j10 h2;exact⟨i,j,rfl,i1,of_decide_eq_true h3,j2⟩
 |_=>cases h
theorem p20(h:n<=1000):n<=most:=Þ h (-0)
theorem a41(k:Nat)(x:D)(m:Int)(z:Z):b90 T (k + 6) H60 [.d x,.d (.int m)] z=some (.ok (.d (.bl (a31 x m))) z):=by
 refine W.ok (j40 (ps:=2) (ns:=2) (b:=w70) rfl rfl (-0) ?_)
 cases x with
 |tup l =>
  refine ib (b:=decide ((8:Int) < (l.length:Int))) (λh=>?_) λh=>?_
  ·refine sb (show false=(decide (l.length<=8)&&_) from ?_);rw[decide_eq_true_eq] at h;rw[decide_eq_false ∅];rfl
  ·rw[decide_eq_false_iff_not] at h;have h8:l.length<=8:=by omega
   refine ip (p20 ∅) (A71 (λx=>.bl (E41 x m)) (λx _=>Wo (A91 k x m z) ⟨rfl,rfl⟩) ?_)
   refine(a00 (F00 l λx=>E41 x m) ?_ :);refine ib (b:=!l.all λx=>E41 x m) (λh=>?_) λh2=>?_
   ·exact sb (show false=(decide (l.length<=8)&&(l.all (λt=>E41 t m)&&g91 l)) by rw[ý] at h;rw[h,Õ1,Bool.and_false])
   ·rw[Ö8] at h2;have ha:=Ú.mp h2;have e1:cutD l (some 1) none=l.drop 1:=g81 l 1;refine ip (c:=(r90 l (cutD l (some 1) none)).length<=most) (Þ (u50 _ _) (p20 ∅)) (A71 (λx=>.bl (leD x)) (λx hx=>?_) (a00 (F00 _ leD) ?_ :))
    ·obtain⟨u,hu,v,hv,rfl⟩:=a21 hx;rw[e1] at hv;obtain⟨i,j,rfl,_⟩:=T60 (ha u hu);obtain⟨i',j',rfl,_⟩:=T60 (ha v (List.mem_of_mem_drop hv));exact⟨rfl,rfl⟩
    ·refine sb (b:=(r90 l (cutD l (some 1) none)).all leD) ?_;show _=(decide (l.length<=8)&&(l.all (λt=>E41 t m)&&g91 l));rw[e1,h2,decide_eq_true h8,Ä9,Ä9];rfl
 |_=>exact sb rfl
def O12(a t:D):Bool:=match a with
 |.int m=>decide (1<=m)&&(decide (m<=6)&&a31 t m)|_=>false
def l91(x:D):Bool:=match x with
 |.tup [a,t]=>O12 a t|_=>false
theorem T70(k:Nat)(x:D)(z:Z):b90 T (k + 7) g71 [.d x] z=some (.ok (.d (.bl (l91 x))) z):=by
 refine W.ok (j40 (ps:=1) (ns:=3) (b:=M70) rfl rfl (-0) ?_)
 cases x with
 |tup l =>
  match l with
  |[a,t] =>
   refine Wo (E90 (k + 3) a _) ?_;cases a with
   |int m =>
    refine ib (b:=decide (1<=m)) (λg1=>ib (b:=decide (m<=6)) (λg2=>Wo (a41 k t m _) ?_) λg2=>?_) λg1=>?_
    ·exact sb (show a31 t m=(decide (1<=m)&&(decide (m<=6)&&a31 t m)) by rw[g1,g2];rfl)
    ·exact sb (show false=(decide (1<=m)&&(decide (m<=6)&&a31 t m)) by rw[g1,g2];rfl)
    ·exact sb (show false=(decide (1<=m)&&(decide (m<=6)&&a31 t m)) by rw[g1];rfl)
   |_=>exact sb rfl
  |[]=>exact sb rfl|[_]=>exact sb rfl|_::_::_::_=>exact sb rfl
 |_=>exact sb rfl
theorem c90(k:Nat)(z:Z)(h:l91 x=true):b90 T (k + 8) i80 [.d x] z=some (.ok (.d .non) z) :=
 W.ok (j40 (ps:=1) (ns:=1) (b:=m70) rfl rfl (-0) (Wo (T70 k x z) (ie (b:=!l91 x) (by rw[h];rfl) (sd rfl))))
theorem p30(k:Nat)(z:Z)(h:l91 x=false):b90 T (k + 8) i80 [.d x] z=some (.er 0 z) :=
 W.er (j40 (ps:=1) (ns:=1) (b:=m70) rfl rfl (-0) (Wo (T70 k x z) (it (b:=!l91 x) (by rw[h];rfl) ⟨rfl,c40 z⟩)))
theorem N41(hj:0 < j):G00 .mod (.int i) (.int j)=some (.d (.int (i % j))):=by
 show(if 0 < j then some (S.d (.int (i % j))) else none)=_;rw[if_pos hj]
def big(b:Int):Prop:=b < 2 ^ 4000
def ZI(z:Z):Prop:=∃ n b,z=some (n,b)/\0<=n/\(b=false->n < 2147483647)
theorem i32{T:List Df}{k f ps ns:Nat}{b:Sm}{l:List S}{z:Z}{Q:S->Z->Prop}{E:Nat->Z->Prop}(hz:ZI z)(h:T[f]?=some (.code ps ns b))(hl:l.length=ps)(hn:ps<=ns)(q:WS (O20 T (k + 2)) false b (start ns (l.map plS)) z (λo z1=>match o with
  |.nx _=>Q (.d .non) z1
  |.rt s=>Q s z1) E):W (b90 T (k + 3) f l) z Q E:=by
 obtain⟨n,c,rfl,_⟩:=hz;refine j40 h hl hn (q.mono (λo z1 h=>?_) λ_ _ h=>h);cases o <;> exact h
theorem B01{a:Int}{n:Nat}(h:a.natAbs < n)(hn:n<=2 ^ 64:=by decide):a.natAbs < t21:=Õ h (Þ hn (-0))
theorem m01{i j:Int}(hi:i.natAbs < 2 ^ 64)(hj:j.natAbs < 2 ^ 64):G00 .mul (.int i) (.int j)=some (.d (.int (i * j))):=by
 show(if i.natAbs < t21/\j.natAbs < t21 then some (S.d (.int (i * j))) else none)=_;rw[if_pos ⟨B01 hi,B01 hj⟩]
theorem K82{i j:Int}(hj:0 < j)(hb:j.natAbs < 2 ^ 64):G00 .fdiv (.int i) (.int j)=some (.d (.int (i / j))):=by
 show(if 0 < j/\j.natAbs < t21 then some (S.d (.int (i / j))) else none)=_;rw[if_pos ⟨hj,B01 hb⟩]
def Drawn(m:Int)(s:S)(z1:Z):Prop:=ZI z1/\∃ r:Nat,s=.d (.int r)/\(r:Int) < m
theorem f20(k:Nat)(m:Int)(hz:ZI z)(m0:0 < m)(m1:m < 2 ^ 32):W (b90 T (k + 3) a80 [.z,.d (.int m)]) z (Drawn m) NE:=by
 have fin:∀ (a:Int) (z1:Z),ZI z1->Drawn m (.d (.int (a % m))) z1:=λa z1 h=>by
  have h0:=emod_nonneg a (show m≠0 by omega)
  exact⟨h,(a % m).toNat,by rw[Int.toNat_of_nonneg h0],by rw[Int.toNat_of_nonneg h0];exact emod_lt_of_pos _ m0⟩
 refine i32 hz (ps:=2) (ns:=4) (b:=s30) rfl rfl (-0) ?_
 obtain⟨n,b,rfl,n0,n1⟩:=hz;cases b with
 |true =>
  refine(a00 (N41 (i:=n) m0) ?_ :);refine(a00 (K82 (i:=n) m0 ∅) ?_ :)
  exact fin n _ ⟨n / m,true,rfl,Int.ediv_nonneg n0 ∅,λh=>nomatch h⟩
 |false =>
  have n1:=n1 rfl;have e1:∀ a:Int,0<=a % 2147483647/\a % 2147483647 < 2147483647:=λa=>⟨emod_nonneg _ (-0),emod_lt_of_pos _ (-0)⟩
  have e2:∀ a:Int,0<=a % 2147483629/\a % 2147483629 < 2147483629:=λa=>⟨emod_nonneg _ (-0),emod_lt_of_pos _ (-0)⟩
  have s1:∀ a:Int,(a % 2147483647).natAbs < 2 ^ 64:=λa=>by have:=e1 a;omega
  have s2:∀ a:Int,(a % 2147483629).natAbs < 2 ^ 64:=λa=>by have:=e2 a;omega
  refine(a00 (m01 (i:=n) (j:=48271) ∅ (-0)) ?_ :)
  have a1:=e1 (n * 48271 + 29);refine(a00 (m01 (s1 (n * 48271 + 29)) (s1 (n * 48271 + 29))) ?_ :);refine(a00 (m01 (i:=39373) (-0) (s1 (n * 48271 + 29))) ?_ :)
  refine(a00 (m01 (s2 _) (s2 _)) ?_ :);refine(a00 (m01 (i:=16807) (-0) (s2 _)) ?_ :)
  refine(a00 (N41 m0) ?_ :);exact fin _ _ ⟨_,false,rfl,a1.1,λ_=>a1.2⟩
theorem m21(k:Nat)(ns:List Int)(j:Nat)(z:Z):∃ c:Int,b90 T (k + 3) r40 [.d (.lst (ns.map D.int)),.d (.int j)] z=some (.ok (.d (.int c)) z):=by
 by_cases h:j < ns.length
 ·refine⟨ns[j],W.ok (j40 (ps:=2) (ns:=2) (b:=g60) rfl rfl (-0) (it (b:=decide ((j:Int) < ((ns.map D.int).length:Int))) (by simp[h]) ?_))⟩
  refine(a00 (o:=W10 (.lst (ns.map D.int)) (.int j)) (L2.v70 (v:=.int ns[j]) (by simp[h])) ?_ :)
  exact sd rfl
 ·exact⟨0,W.ok (j40 (ps:=2) (ns:=2) (b:=g60) rfl rfl (-0) (ie (b:=decide ((j:Int) < ((ns.map D.int).length:Int))) (by simp;omega) (sd rfl)))⟩
theorem N51(k:Nat)(ns:List Int)(j:Nat)(z:Z):∃ (n:Int) (b:Bool),ZI (some (n,b))/\b90 T (k + 4) x80 [.d (.lst (ns.map D.int)),.d (.int j)] z=some (.ok (.fr [.int n,.bl b]) z):=by
 obtain⟨c,hc⟩:=m21 k ns j z;by_cases h:(10 ^ 18:Int)<=c
 ·exact⟨c - 10 ^ 18,true,⟨_,_,rfl,by omega,λh=>nomatch h⟩,W.ok (j40 (ps:=2) (ns:=3) (b:=k00) rfl rfl (-0) (Wo hc (it (b:=decide ((10 ^ 18:Int)<=c)) (decide_eq_true h) (sd rfl))))⟩
 ·refine⟨c % 2147483647,false,⟨_,_,rfl,emod_nonneg _ (-0),λ_=>emod_lt_of_pos _ (-0)⟩,W.ok (j40 (ps:=2) (ns:=3) (b:=k00) rfl rfl (-0) (Wo hc (ie (b:=decide ((10 ^ 18:Int)<=c)) (decide_eq_false h) (sd rfl))))⟩
theorem M80(h0:0<=m)(h1:m < 100000):itD .rng1 [.int m]=some ((ð m.toNat).map λ(i:Nat)=>D.int i):=by
 show(if inR m=true then _ else none)=_;rw[if_pos (C50.mpr ⟨by omega,h1⟩)]
theorem ne_nil(h:okD (.lst l)=true):s90 .ne (.lst l) (.lst [])=some (!l.isEmpty):=by
 show(eqO (.lst l) (.lst [])).map (!·)=_;unfold eqO;rw[h];cases l <;> rfl
theorem M90:∀ l:List Int,e40 (l.map D.int)=true/\e90 (l.map D.int)=0
 |[]=>⟨rfl,rfl⟩
 |x::r=>by
  obtain⟨h1,h2⟩:=M90 r;refine⟨h1,?_⟩;show Ï0 0 (e90 (r.map D.int))=0;rw[h2];rfl
theorem T80(l:List Int):okD (.lst (l.map D.int))=true:=by
 obtain⟨h1,h2⟩:=M90 l;show(e40 (l.map D.int)&&decide (e90 (l.map D.int) + 1<=40))=true;rw[h1,h2];rfl
theorem N61(n:Nat):(ð n).map (λ(i:Nat)=>D.int i)=((ð n).map λ(i:Nat)=>(i:Int)).map D.int:=by
 rw[ï];rfl
theorem I00:∀ l:List Int,k40 (l.map D.int)=true
 |[]=>rfl|_::r=>I00 r
theorem y10(f:α->β):∀ (l:List α) (i:Nat),(l.map f).eraseIdx i=(l.eraseIdx i).map f
 |[],_=>rfl|x::r,0=>rfl|x::r,i + 1=>congrArg (f x::·) (y10 f r i)
theorem l10:∀ (l:List α) (j:Nat) (h:j < l.length),(l[j]::l.eraseIdx j).Perm l
 |x::r,0,_=>.refl _|x::r,j + 1,h=>(ß7.swap _ _ _).trans ((l10 r j (à1 h)).cons x)
theorem g02{l:List Int}{j:Nat}(h:j < l.length):(l.map D.int)[j]?=some (.int l[j]):=by rw[Ø,Ó h];rfl
theorem B11{j:Nat}(h:l[j]?=some x):W10 (.lst l) (.int j)=some x:=L2.v70 h
theorem w62{j:Nat}(h:l[j]?=some x):W10 (.tup l) (.int j)=some x:=L2.v70 h
def pr(p:Int × Int):D:=.tup [.int p.1,.int p.2]
def ky(p:Int × Int):List Int:=[p.1,p.2]
theorem W52(a b c d:Int):MySort.h40 [a,b] [c,d]=if a=c then(if b=d then false else decide (b < d)) else decide (a < c):=rfl
def Ch:List (Int × Int)->Prop
 |a::b::r=>HT.leB (ky a) (ky b)=true/\Ch (b::r)|_=>True
theorem h01(h:MySort.h40 (ky p) (ky q)=true):HT.leB (ky p) (ky q)=true:=by
 unfold HT.leB;unfold ky at h ⊢;rw[W52] at h ⊢;by_cases h1:p.1=q.1
 ·rw[if_pos h1] at h;rw[if_pos h1.symm];by_cases h2:p.2=q.2
  ·rw[if_pos h2] at h;cases h
  ·rw[if_neg h2] at h;rw[if_neg (Á6 h2)];simp only[decide_eq_true_eq] at h;simp;omega
 ·rw[if_neg h1] at h;rw[if_neg (Á6 h1)];simp only[decide_eq_true_eq] at h;simp;omega
def E51(k:Int × Int):List (Int × Int)->List (Int × Int)
 |[]=>[k]|y::r=>if MySort.h40 (ky y) (ky k) then y::E51 k r else k::y::r
def a51:List (Int × Int)->List (Int × Int)
 |[]=>[]|k::r=>E51 k (a51 r)
theorem T90(k:Int × Int):∀ l,(E51 k l).Perm (k::l)
 |[]=>.refl _
 |y::r=>by
  unfold E51;split
  ·exact((T90 k r).cons y).trans (.swap _ _ _)
  ·exact .refl _
theorem x00:∀ l,(a51 l).Perm l
 |[]=>.refl _|k::r=>(T90 k _).trans ((x00 r).cons k)
theorem B21(k:Int × Int):∀ l,Ch l->Ch (E51 k l)
 |[],_=>trivial
 |[y],_=>by
  unfold E51;split
  ·rename_i h;exact⟨h01 h,trivial⟩
  ·rename_i h;refine⟨?_,trivial⟩;unfold HT.leB;simpa using h
 |y::x::r,h=>by
  obtain⟨h1,h2⟩:=h;have ih:=B21 k (x::r) h2;unfold E51;split
  ·rename_i hy;unfold E51 at ih ⊢;split at ih
   ·rename_i hx;rw[if_pos hx];exact⟨h1,ih⟩
   ·rename_i hx;rw[if_neg hx];exact⟨h01 hy,ih⟩
  ·rename_i hy;refine⟨?_,h1,h2⟩;unfold HT.leB;simpa using hy
theorem N00:∀ l,Ch (a51 l)
 |[]=>trivial|k::r=>B21 k _ (N00 r)
theorem h31(k:Int × Int):∀ l:List (Int × Int),n11 (pr k) (l.map pr)=(E51 k l).map pr
 |[]=>rfl
 |y::r=>by
  unfold E51;show(if MySort.h40 (ky y) (ky k) then pr y::n11 (pr k) (r.map pr) else pr k::pr y::r.map pr)=_;split
  ·rw[h31 k r];rfl
  ·rfl
theorem U00:∀ l:List (Int × Int),t90 (l.map pr)=(a51 l).map pr
 |[]=>rfl
 |k::r=>by
  show n11 (pr k) (t90 (r.map pr))=_;rw[U00 r,h31];rfl
theorem K92(p q:Int × Int):ltD (pr p) (pr q)=some (MySort.h40 (ky p) (ky q)):=by
 show(if (p.1 == q.1)=true then(if (p.2 == q.2)=true then some false else some (decide (p.2 < q.2))) else some (decide (p.1 < q.1)))=some (if p.1=q.1 then(if p.2=q.2 then false else decide (p.2 < q.2)) else decide (p.1 < q.1));simp only[beq_iff_eq];split
 ·split <;> rfl
 ·rfl
theorem g12(p q:Int × Int):i20 (pr p) (pr q)=true:=by
 unfold i20;rw[K92];show(true&&((some (MySort.h40 (ky p) (ky q)) == some (MySort.h40 (ky p) (ky q)))&&(((p.1 == q.1)&&((p.2 == q.2)&&true)) || !([p.1,p.2] == [q.1,q.2]))))=true;rw[beq_self_eq_true,Ä9,Ä9,Ö3];by_cases h1:p.1=q.1 <;> by_cases h2:p.2=q.2 <;> simp[h1,h2]
theorem B31(l:List (Int × Int)):n30 (l.map pr)=true:=by
 refine Ú.mpr λx hx=>?_;obtain⟨p,_,rfl⟩:=Ù.mp hx;show(true&&(true&&(l.map pr).all (i20 (pr p))))=true;refine Ú.mpr λy hy=>?_;obtain⟨q,_,rfl⟩:=Ù.mp hy;exact g12 p q
theorem U10(h:l.length < 64):bfD .sorted [.lst (l.map pr)]=some (.fr ((a51 l).map pr)):=by
 show(if (l.map pr).length < 64/\n30 (l.map pr)=true then some (S.fr (t90 (l.map pr))) else(M72 (l.map pr)).map S.fr)=_;rw[if_pos ⟨by rw[È];exact h,B31 l⟩,U00]
theorem h41:∀ {l:List (Int × Int)},Ch l->g91 (l.map pr)=true
 |[],_=>rfl|[_],_=>rfl
 |a::b::r,h=>by
  have ih:=h41 h.2;show((r90 (pr a::pr b::r.map pr) (pr b::r.map pr)).all leD)=true;have e:r90 (pr a::pr b::r.map pr) (pr b::r.map pr)=.tup [pr a,pr b]::r90 (pr b::r.map pr) (r.map pr):=rfl;rw[e,Ä5,Á];exact⟨h.1,ih⟩
theorem N10:∀ l:List (Int × Int),k40 (l.map pr)=true
 |[]=>rfl
 |_::r=>by
  show(bare _&&k40 (r.map pr))=true;rw[N10 r];rfl
theorem w72:∀ l:List (Int × Int),e40 (l.map pr)=true/\e90 (l.map pr)<=1
 |[]=>⟨rfl,by decide⟩
 |p::r=>by
  obtain⟨h1,h2⟩:=w72 r;refine⟨?_,?_⟩
  ·show(m00 (pr p)&&e40 (r.map pr))=true;rw[h1];rfl
  ·show Ï0 (deep (pr p)) (e90 (r.map pr))<=1;have:deep (pr p)=1:=rfl;rw[this];exact Ø8.mpr ⟨Î _,h2⟩
theorem g22(l:List (Int × Int)):okD (.lst (l.map pr))=true:=by
 obtain⟨h1,h2⟩:=w72 l;unfold okD;rw[Á,decide_eq_true_eq];refine⟨h1,?_⟩;show e90 (l.map pr) + 1<=40;omega
def j20(m:Int)(ps:List (Int × Int)):D:=.tup [.int m,.tup (ps.map pr)]
structure d80(m:Int)(ps:List (Int × Int)):Prop where
 m1:1<=m
 m6:m<=6
 len:ps.length<=8
 tie:∀ p∈ps,0<=p.1/\p.1 < p.2/\p.2 < m
 ch:Ch ps
theorem d80.web(g:d80 m ps):l91 (j20 m ps)=true:=by
 unfold j20 l91 O12 a31;simp only[Á,decide_eq_true_eq,Å2,È];refine⟨g.m1,g.m6,g.len,λt ht=>?_,h41 g.ch⟩;obtain⟨p,hp,rfl⟩:=Ù.mp ht;obtain⟨h1,h2,h3⟩:=g.tie p hp;unfold pr E41 b80;simp only[Á,decide_eq_true_eq];omega
theorem w82(h1:0<=i)(hi:i < 100)(h0:-100 < m)(h:m < 100000):itD .rng2 [.int i,.int m]=some ((ð (m - i).toNat).map λ(k:Nat)=>D.int (i + k)):=by
 show(if inR i=true/\inR m=true then _ else none)=_;rw[if_pos ⟨C50.mpr ∅,C50.mpr ∅⟩]
theorem a61{L:List D}{n:Nat}(f:D->Bool)(h:n < L.length)(ha:L.all f=true):∃ x,L[n]?=some x/\f x=true :=
 ⟨L[n],Ó h,Ú.mp ha _ (Æ4 h)⟩
def btw(a b:Int):D->Bool
 |.int i=>decide (a<=i)&&decide (i<=b)|_=>false
theorem U11(h:btw a b x=true):∃ i,x=.int i/\a<=i/\i<=b:=by
 cases x with
 |int i =>
  unfold btw at h;rw[Á,decide_eq_true_eq,decide_eq_true_eq] at h;exact⟨i,rfl,h⟩
 |_=>cases h
theorem w92(l:List D)(h:0<=n):cutD l none (some n)=l.take n.toNat:=by
 obtain⟨k,rfl⟩:=Æ9 h;have h1:HT.sIx l.length l.length (some (k:Int))=min k l.length:=HT.o71 _ _ k;unfold cutD;rw[h1];show(l.drop 0).take (min k l.length - 0)=_;rw[List.drop_zero,Nat.sub_zero,À1];rcases Nat.le_total k l.length with h | h
 ·rw[Ý1 h]
 ·rw[Û9 h,List.take_length,Ë9 h]
theorem U21{α:Type}{l:List α}{a:α}:(l++[a]).length=l.length + 1:=by rw[À5];rfl
theorem U31(a b:Int):(if b < a then b else a)=min a b/\(if b > a then b else a)=max a b:=by
 constructor <;> (split <;> omega)
theorem U20{P:Int × Int->Prop}:∀ {xs ys:List D},PySem.Paired (λ_ y=>∃ c,y=pr c/\P c) xs ys->∃ cs:List (Int × Int),ys=cs.map pr/\cs.length=xs.length/\∀ c∈cs,P c
 |[],_,h=>by cases h;exact⟨[],rfl,rfl,λc hc=>nomatch hc⟩
 |x::r,_,h=>by
  cases h with
  |cons h1 h2 =>
   obtain⟨c,rfl,hc⟩:=h1;obtain⟨cs,rfl,hl,ha⟩:=U20 h2;refine⟨c::cs,rfl,by rw[Û,hl];rfl,λd hd=>?_⟩
   rcases ó.mp hd with rfl | hd
   ·exact hc
   ·exact ha d hd
def i42(m:Int)(p:Int × Int):Prop:=0<=p.1/\p.1 < p.2/\p.2 < m
abbrev x02(mo m:Int)(ps:List (Int × Int))(o4 o5 o6:Option S):Env:=[some .z,some (.d (.int mo)),some (.d (.int m)),some (.fr (ps.map pr)),o4,o5,o6]
theorem x12:x02 mo m (ps++[p]) o4 o5 o6=[some .z,some (.d (.int mo)),some (.d (.int m)),some (.fr (ps.map pr++[pr p])),o4,o5,o6]:=by rw[x02,Ä7];rfl
theorem N71{mo m:Int}{ps:List (Int × Int)}(m1:1<=m)(m6:m<=6)(h0:0<=mo)(h8:mo<=8)(hp:∀ p∈ps,i42 m p)(hl:ps.length < 64):∃ qs,bfD .sorted [.lst (cutD (ps.map pr) none (some mo))]=some (.fr (qs.map pr))/\d80 m qs/\(qs.length:Int)<=mo:=by
 have hl':(ps.take mo.toNat).length < 64:=by rw[Æ3];omega
 refine⟨a51 (ps.take mo.toNat),by rw[w92 _ h0,← List.map_take];exact U10 hl',?_⟩
 have hperm:=x00 (ps.take mo.toNat);have hlen:=hperm.length_eq;rw[Æ3] at hlen;exact⟨⟨m1,m6,by omega,λq hq=>hp q (List.mem_of_mem_take (hperm.mem_iff.mp hq)),N00 _⟩,by omega⟩
theorem U30(k:Nat){mo:Int}{z:Z}(hz:ZI z)(h0:0<=mo)(h8:mo<=8):W (b90 T (k + 5) w50 [.z,.d (.int mo)]) z (λs z1=>ZI z1/\∃ m ps,s=.d (j20 m ps)/\d80 m ps/\(ps.length:Int)<=mo) NE:=by
 refine i32 hz (ps:=2) (ns:=7) (b:=w90) rfl rfl (-0) ?_
 refine(f20 (k + 1) 8 hz (-0) (-0)).imp λs z1 ⟨hz1,n,e,hn⟩=>?_
 subst e;obtain⟨x,ex,hx⟩:=a61 (L:=[D.int 6,.int 5,.int 4,.int 3,.int 4,.int 5,.int 2,.int 1]) (n:=n) (btw 1 6) (by simp only[Û,Â1];omega) (-0)
 obtain⟨m,rfl,m1,m6⟩:=U11 hx;refine(a00 (B11 ex) ?_ :);refine(l81 (.fr []) (x02 mo m [] none none none) ?_ ?_ ?_ :)
 ·exact⟨rfl,rfl⟩
 ·rfl
 refine A41 (λρ z2=>ZI z2/\∃ ps:List (Int × Int),ρ=x02 mo m ps none none none/\(∀ p∈ps,i42 m p)/\ps.length<=5) ?_ ?_
 ·refine ib (b:=decide (1 < m)) (λh=>?_) λh=>⟨hz1,[],rfl,(λp hp=>nomatch hp),by simp⟩
  have h:=of_decide_eq_true h;refine(f20 (k + 1) 5 hz1 (-0) (-0)).imp λs z2 ⟨hz2,v,e,hv⟩=>?_
  subst e;refine ib (b:=decide (0 < (v:Int))) (λh1=>?_) λh1=>⟨hz2,[],rfl,(λp hp=>nomatch hp),by simp⟩
  refine(a00 (w82 (i:=1) (m:=m) (-0) (-0) ∅ ∅) ?_ :)
  refine ip (by rw[È,þ];simp only[most];omega) (W32 (I:=ZI) (P:=λ_ y=>∃ c,y=pr c/\i42 m c) hz2 (λx hx z3 hz3=>?_) λys z3 hz3 hys=>?_)
  ·obtain⟨i,hi,rfl⟩:=Ù.mp hx;have hi:=Ä2.mp hi;refine(f20 (k + 1) (1 + (i:Int)) hz3 ∅ ∅).imp λs z4 ⟨hz4,a,e,ha⟩=>?_
   subst e;exact⟨hz4,((a:Int),1 + (i:Int)),rfl,by show(0:Int)<=a;omega,ha,by show 1 + (i:Int) < m;omega⟩
  ·obtain⟨cs,rfl,hl,ha⟩:=U20 hys;rw[È,þ] at hl;exact⟨hz3,cs,rfl,ha,by omega⟩
 ·rintro ρ z2 ⟨hz2,ps,rfl,hp,hl⟩;refine(f20 (k + 1) (mo + 1) hz2 ∅ ∅).imp λs z3 ⟨hz3,t,e,ht⟩=>?_
  subst e;have hj:(if decide (1 < m)=true then(1:Int) else 0)=0∨((if decide (1 < m)=true then(1:Int) else 0)=1/\1 < m):=by
   by_cases h:1 < m
   ·exact .inr ⟨by rw[decide_eq_true h];rfl,h⟩
   ·exact .inl (by rw[decide_eq_false h];rfl)
  refine(a00 (m01 (i:=(t:Int)) (j:=if decide (1 < m)=true then(1:Int) else 0) ∅ (by rcases hj with h | h <;> (first | rw[h] | rw[h.1]) <;> decide)) ?_ :)
  have hc:∃ c:Nat,(t:Int) * (if decide (1 < m)=true then(1:Int) else 0)=c/\c<=8/\(0 < c->1 < m):=by
   rcases hj with h | h
   ·exact⟨0,by rw[h,Int.mul_zero];rfl,by omega,λh=>absurd h ∅⟩
   ·exact⟨t,by rw[h.1,Int.mul_one],by omega,λ_=>h.2⟩
  obtain⟨c,ec,hc8,hcm⟩:=hc;refine(a00 (o:=itD .rng1 [.int ((t:Int) * (if decide (1 < m)=true then(1:Int) else 0))]) (a:=(ð c).map λ(i:Nat)=>D.int i) (by rw[ec,M80 ∅ ∅,À1]) ?_ :)
  refine G50 (λxs ρ z=>ZI z/\(0 < xs.length->1 < m)/\∃ (ps:List (Int × Int)) (o4 o5 o6:Option S),ρ=x02 mo m ps o4 o5 o6/\(∀ p∈ps,i42 m p)/\ps.length + xs.length<=13) _ ⟨hz3,λh=>hcm (by rw[È,þ] at h;exact h),ps,_,_,_,rfl,hp,by rw[È,þ];omega⟩ ?_ ?_
  ·rintro x r ρ z4 ⟨hz4,hm,ps,o4,o5,o6,rfl,hp,hl⟩;have hm:=hm (by simp)
   refine(f20 (k + 1) m hz4 ∅ ∅).imp λs z5 ⟨hz5,a,e,ha⟩=>?_
   subst e;refine(f20 (k + 1) (m - 1) hz5 ∅ ∅).imp λs z6 ⟨hz6,b,e,hb⟩=>?_
   subst e;refine(a00 (N41 (i:=(a:Int) + 1 + b) (j:=m) ∅) ?_ :)
   have hq:0<=((a:Int) + 1 + b) % m/\((a:Int) + 1 + b) % m < m/\((a:Int) + 1 + b) % m≠a:=by
    refine⟨emod_nonneg _ ∅,emod_lt_of_pos _ ∅,?_⟩
    by_cases h:(a:Int) + 1 + b < m
    ·rw[Ñ5 ∅ h];omega
    ·rw[show(a:Int) + 1 + b=((a:Int) + 1 + b - m) + m from by omega,Int.add_emod_right,Ñ5 ∅ ∅];omega
   generalize ((a:Int) + 1 + b) % m=q at hq ⊢;refine ip ⟨rfl,by rw[È];simp only[most,Û] at hl ⊢;omega⟩ ?_
   refine⟨hz6,λ_=>hm,ps++[(min (a:Int) q,max (a:Int) q)],some (.d x),some (.d (.int a)),some (.d (.int q)),?_,λp hp'=>?_,by rw[U21];simp only[Û] at hl;omega⟩
   ·rw[x12,← (U31 (a:Int) q).1,← (U31 (a:Int) q).2];rfl
   ·rcases Â7.mp hp' with h | h
    ·exact hp p h
    ·rw[è.mp h];show 0<=min (a:Int) q/\min (a:Int) q < max (a:Int) q/\max (a:Int) q < m;omega
  ·rintro ρ z4 ⟨hz4,_,ps,o4,o5,o6,rfl,hp,hl⟩;obtain⟨qs,e,g,hq⟩:=N71 m1 m6 h0 h8 hp (by simp only[Â1] at hl;omega)
   refine(a00 e ?_ :);exact⟨hz4,m,qs,rfl,g,hq⟩
theorem B41(h:0 < b):0 < ((gcd t b:Nat):Int):=by
 have:=Int.gcd_pos_of_ne_zero_right (a:=t) (b:=b) ∅
 omega
def z50(t b:Int):Int × Int:=(t / gcd t b,b / gcd t b)
theorem a71(h0:0 < b):t=gcd t b * (z50 t b).1/\b=gcd t b * (z50 t b).2:=by
 constructor
 ·exact(Int.mul_ediv_cancel' (Int.gcd_dvd_left t b)).symm
 ·exact(Int.mul_ediv_cancel' (Int.gcd_dvd_right t b)).symm
theorem g32(h0:0 < b):gcd (z50 t b).1 (z50 t b).2=1:=Int.gcd_ediv_gcd_ediv_gcd_of_ne_zero_right ∅
theorem B51(h0:0 < b):0 < (z50 t b).2:=by
 have g0:=B41 (t:=t) h0;obtain⟨_,e⟩:=a71 (t:=t) h0;refine Int.pos_of_mul_pos_right (a:=gcd t b) ?_ g0;omega
theorem U41(h:gcd a b=1)(hd:b∣a * d):b∣d:=by
 have h1:Nat.Coprime b.natAbs a.natAbs:=by rw[Nat.coprime_comm];exact h
 exact Int.natAbs_dvd_natAbs.mp (h1.dvd_of_dvd_mul_left (by rw[← natAbs_mul];exact Int.natAbs_dvd_natAbs.mpr hd))
theorem m31(hb:0 < b)(hd:0 < d)(h1:gcd a b=1)(h2:gcd c d=1)(h:a * d=c * b):a=c/\b=d:=by
 have k1:b∣d:=U41 h1 ⟨c,by rw[h,Int.mul_comm]⟩
 have k2:d∣b:=U41 h2 ⟨a,by rw[← h,Int.mul_comm]⟩
 have e:b=d:=Int.le_antisymm (Int.le_of_dvd hd k1) (Int.le_of_dvd hb k2);subst e;exact⟨Ð4 ∅ h,rfl⟩
theorem g42{n:Nat}(f:D->Bool)(h:n < L.length)(ha:L.all f=true)(hp:∀ x,f x=true->P x):Get (W10 (.lst L) (.int n)) P:=by
 obtain⟨x,e,hx⟩:=a61 f h ha;exact a00 (B11 e) (hp x hx)
theorem B61(k:Nat)(hz:ZI z):W (b90 T (k + 4) r50 [.z]) z (λs z1=>ZI z1/\∃ x,s=.d x/\l91 x=false) NE:=by
 refine i32 hz (ps:=1) (ns:=2) (b:=k80) rfl rfl (-0) ?_
 refine(f20 k 25 hz (-0) (-0)).imp λs z1 ⟨hz1,v,e,v1⟩=>?_
 subst e;refine(g42 (n:=v) (λx=>!l91 x) ?_ ?_ ?_ :)
 ·show v < 25;omega
 ·decide +kernel
 ·exact λx hx=>⟨hz1,x,rfl,by simpa using hx⟩
def ltP:D->Bool
 |.tup [.int a,.int b]=>decide (a < b)|_=>false
def U40(l:List D):Bool:=(r90 l (l.drop 1)).all ltP
def B71(m:Int):D->Bool
 |.tup l=>(l.all (λx=>b80 x m)&&U40 l)&&!l.isEmpty|_=>false
def short:D->Bool
 |.tup l=>decide (l.length<=1000)|_=>true
theorem N81(k:Nat)(h:∀ x∈l,b80 x m=true)(hl:l.length<=1000)(z:Z):b90 T (k + 3) A81 [.d (.tup l)] z=some (.ok (.d (.bl (U40 l))) z):=by
 have e1:cutD l (some 1) none=l.drop 1:=g81 l 1;refine W.ok (j40 (ps:=1) (ns:=1) (b:=a11) rfl rfl (-0) (ip (c:=(r90 l (cutD l (some 1) none)).length<=most) (Þ (u50 _ _) (p20 hl)) (A71 (λx=>.bl (ltP x)) (λx hx=>?_) (a00 (F00 _ ltP) ?_ :))))
 ·obtain⟨u,hu,v,hv,rfl⟩:=a21 hx;rw[e1] at hv;obtain⟨i,rfl,_⟩:=j10 (h u hu);obtain⟨j,rfl,_⟩:=j10 (h v (List.mem_of_mem_drop hv));exact⟨rfl,rfl⟩
 ·exact sb (b:=(r90 l (cutD l (some 1) none)).all ltP) (by rw[e1];rfl)
theorem y20(k:Nat)(m:Int)(hs:short x=true)(z:Z):b90 T (k + 5) l50 [.d x,.d (.int m)] z=some (.ok (.d (.bl (match x with | .tup l=>l.all (λx=>b80 x m)&&U40 l | _=>false))) z):=by
 refine W.ok (j40 (ps:=2) (ns:=2) (b:=g40) rfl rfl (-0) ?_)
 cases x with
 |tup l =>
  have hl:l.length<=1000:=of_decide_eq_true hs;refine ip (p20 hl) (A71 (λx=>.bl (b80 x m)) (λx _=>Wo (s60 k x m z) ⟨rfl,rfl⟩) (a00 (F00 l λx=>b80 x m) ?_ :));refine ib (b:=l.all λx=>b80 x m) (λh=>?_) λh=>sb (show false=(l.all (λx=>b80 x m)&&U40 l) by rw[h];rfl)
  exact Wo (N81 (k + 1) (Ú.mp h) hl z) (sb (show U40 l=(l.all (λx=>b80 x m)&&U40 l) by rw[h];rfl))
 |_=>exact sb rfl
theorem f70(k:Nat)(z:Z)(h:B71 m x=true)(hs:short x=true):b90 T (k + 6) e80 [.d (.tup [.int m,t]),.d x] z=some (.ok (.d .non) z):=by
 refine W.ok (j40 (ps:=2) (ns:=2) (b:=g50) rfl rfl (-0) (Wo (y20 k m hs z) ?_))
 cases x with
 |tup l =>
  have h:((l.all (λx=>b80 x m)&&U40 l)&&!l.isEmpty)=true:=h;rw[Á] at h;refine ie (b:=!(l.all (λx=>b80 x m)&&U40 l)) (by rw[h.1];rfl) ?_
  cases l with
  |nil=>cases h.2
  |cons y r=>exact sd rfl
 |_=>cases h
theorem j30(k:Nat)(z:Z)(h:B71 m x=false)(hs:short x=true):b90 T (k + 6) e80 [.d (.tup [.int m,t]),.d x] z=some (.er 2 z):=by
 refine W.er (j40 (ps:=2) (ns:=2) (b:=g50) rfl rfl (-0) (Wo (y20 k m hs z) ?_))
 cases x with
 |tup l =>
  have h:((l.all (λx=>b80 x m)&&U40 l)&&!l.isEmpty)=false:=h;refine ib (b:=!(l.all (λx=>b80 x m)&&U40 l)) (λ_=>⟨rfl,c40 z⟩) λh1=>?_;rw[Ö8] at h1;rw[h1,Ä9,Ö8] at h;cases l with
  |nil=>exact⟨rfl,c40 z⟩|cons y r=>cases h
 |_=>exact⟨rfl,c40 z⟩
def a40(n:Nat):D:=.int n
structure g00(m:Int)(l:List Nat):Prop where
 ne:l≠[]
 up:l.Pairwise (· < ·)
 lt:∀ p∈l,(p:Int) < m
theorem U51:∀ {l:List Nat},l.Pairwise (· < ·)->U40 (l.map a40)=true
 |[],_=>rfl|[_],_=>rfl
 |a::b::r,h=>by
  have ih:=U51 (ß0.of_cons h);show(decide ((a:Int) < (b:Int))&&U40 ((b::r).map a40))=true;rw[ih,decide_eq_true (by have:=(Ç1.mp h).1 b Ì;omega)];rfl
theorem g00.pls(g:g00 m l):B71 m (.tup (l.map a40))=true:=by
 show(((l.map a40).all (λx=>b80 x m)&&U40 (l.map a40))&&!(l.map a40).isEmpty)=true;rw[U51 g.up,Ö3,Á];refine⟨Ú.mpr λx hx=>?_,?_⟩
 ·obtain⟨p,hp,rfl⟩:=Ù.mp hx;have:=g.lt p hp;show(decide (0<=(p:Int))&&decide ((p:Int) < m))=true;rw[decide_eq_true this,decide_eq_true ∅];rfl
 ·cases l with
  |nil=>exact absurd rfl g.ne|cons _ _=>rfl
theorem g00.len(g:g00 m l)(h6:m<=6):l.length<=6:=by
 have:l.Sublist (ð 6):=by
  have e:l=(ð 6).filter λx=>l.contains x:=by
   refine È8 (le:=(· < ·)) ?_ g.up (Ë3 _ È5) ?_
   ·intro a b _ _ h1 h2;omega
   ·refine(Ý9 (g.up.imp λh e=>by omega) (Ë3 _ List.nodup_range)).mpr λa=>?_
    rw[mem_filter,mem_range,Ì8];exact⟨λh=>⟨by have:=g.lt a h;omega,h⟩,λh=>h.2⟩
  rw[e];exact List.filter_sublist
 simpa using this.length_le
theorem N91:∀ {ys:List D}{l:List Nat},ys.Sublist (l.map a40)->∃ l':List Nat,ys=l'.map a40/\l'.Sublist l:=λ{ys l} h=>by
 obtain⟨l',h1,h2⟩:=List.sublist_map_iff.mp h;exact⟨l',h2,h1⟩
theorem g52(n:Nat):((ð n).map λ(i:Nat)=>D.int i)=(ð n).map a40:=rfl
theorem L02(a b:Int):MySort.h40 [a] [b]=decide (a < b):=by
 show(if a=b then false else decide (a < b))=_;by_cases h:a=b
 ·rw[if_pos h,h];simp
 ·rw[if_neg h]
theorem N20(a b:Nat):i20 (a40 a) (a40 b)=true:=by
 show(true&&((some (decide ((a:Int) < b)) == some (MySort.h40 [(a:Int)] [(b:Int)]))&&(((a:Int) == b) || !([(a:Int)] == [(b:Int)]))))=true;rw[L02,beq_self_eq_true,Ä9,Ä9];by_cases h:(a:Int)=b <;> simp[h]
theorem I10(x y:Nat):bfD .sorted [.lst [a40 x,a40 y]]=some (.fr [a40 (min x y),a40 (max x y)]):=by
 have ok:n30 [a40 x,a40 y]=true:=by
  refine Ú.mpr λu hu=>?_;have one:∀ a:Nat,(true&&(true&&[a40 x,a40 y].all (i20 (a40 a))))=true:=λa=>by
   show(i20 (a40 a) (a40 x)&&(i20 (a40 a) (a40 y)&&true))=true;rw[N20,N20];rfl
  simp only[Ã1,À6,or_false] at hu;rcases hu with rfl | rfl
  ·exact one x
  ·exact one y
 have e:t90 [a40 x,a40 y]=[a40 (min x y),a40 (max x y)]:=by
  show(if MySort.h40 [(y:Int)] [(x:Int)] then [a40 y,a40 x] else [a40 x,a40 y])=_;rw[L02];by_cases h:(y:Int) < x
  ·rw[decide_eq_true h,if_pos rfl,Û9 ∅,Nat.max_eq_left ∅]
  ·rw[decide_eq_false h,if_neg (-0),Ý1 ∅,Nat.max_eq_right ∅]
 show(if [a40 x,a40 y].length < 64/\n30 [a40 x,a40 y]=true then some (S.fr (t90 [a40 x,a40 y])) else _)=_;rw[if_pos ⟨by show 2 < 64;decide,ok⟩,e]
theorem y30(k:Nat)(m1:1<=m)(m6:m<=6)(hz:ZI z):W (b90 T (k + 4) m40 [.z,.d (.tup [.int m,t])]) z (λs z1=>ZI z1/\∃ l,s=.d (.tup (l.map a40))/\g00 m l) NE:=by
 have g2:g00 m (ð m.toNat):=⟨by intro h;have:=congrArg List.length h;rw[þ] at this;simp at this;omega,È5,λp hp=>by have:=Ä2.mp hp;omega⟩
 refine i32 hz (ps:=2) (ns:=4) (b:=m80) rfl rfl (-0) ?_
 refine(f20 k 4 hz (-0) (-0)).imp λs z1 ⟨hz1,v,e,v1⟩=>?_
 subst e;refine A41 (λρ z2=>z2=z1/\1 < m/\ρ=[some .z,some (.d (.tup [.int m,t])),some (.d (.int v)),none]) ?_ ?_
 ·refine ib (b:=decide ((v:Int) < 2)) (λh=>?_) λh=>?_
  ·refine(a00 (M80 (m:=m) ∅ ∅) ?_ :)
   exact⟨hz1,_,rfl,g2⟩
  ·refine ib (b:=m == 1) (λh=>?_) λh=>?_
   ·refine(a00 (M80 (m:=m) ∅ ∅) ?_ :)
    exact⟨hz1,_,rfl,g2⟩
   ·have h:=ne_of_beq_false h;exact⟨rfl,by omega,rfl⟩
 ·rintro ρ z2 ⟨rfl,hm,rfl⟩;refine ib (b:=(v:Int) == 2) (λh=>?_) λh=>?_
  ·refine(f20 k m hz1 ∅ ∅).imp λs z3 ⟨hz3,a,e,ha⟩=>?_
   subst e;refine(f20 k (m - 1) hz3 ∅ ∅).imp λs z4 ⟨hz4,b,e,hb⟩=>?_
   subst e;refine(a00 (N41 (i:=(a:Int) + 1 + b) (j:=m) ∅) ?_ :)
   have hq:0<=((a:Int) + 1 + b) % m/\((a:Int) + 1 + b) % m < m/\((a:Int) + 1 + b) % m≠a:=by
    refine⟨emod_nonneg _ ∅,emod_lt_of_pos _ ∅,?_⟩
    by_cases h:(a:Int) + 1 + b < m
    ·rw[Ñ5 ∅ h];omega
    ·rw[show(a:Int) + 1 + b=((a:Int) + 1 + b - m) + m from by omega,Int.add_emod_right,Ñ5 ∅ ∅];omega
   generalize ((a:Int) + 1 + b) % m=q at hq ⊢;obtain⟨q,rfl⟩:=Æ9 hq.1;refine(a00 (I10 a q) ?_ :);refine⟨hz4,[min a q,max a q],rfl,by simp,?_,λp hp=>?_⟩
   ·refine .cons (λx hx=>?_) (.cons (λ_ h=>nomatch h) .nil);rw[è.mp hx];omega
   ·simp only[Ã1,À6,or_false] at hp;rcases hp with rfl | rfl <;> omega
  ·refine(a00 (M80 (m:=m) ∅ ∅) ?_ :)
   refine ip (by rw[È,þ];simp only[most];omega) (w42 (I:=ZI) (λx=>x) hz1 (λx hx z3 hz3=>?_) λys z3 hz3 hs=>?_)
   ·refine(f20 k 2 hz3 (-0) (-0)).imp λs z4 ⟨hz4,a,e,a1⟩=>?_
    subst e;exact⟨hz4,(a:Int) == 1,rfl,λ_=>⟨rfl,rfl⟩⟩
   ·rw[map_id',g52] at hs;obtain⟨l,rfl,hl⟩:=N91 hs;cases l with
    |nil =>
     refine⟨hz3,[m.toNat - 1],?_,by simp,.cons (λ_ h=>nomatch h) .nil,λq hq=>by rw[è.mp hq];omega⟩
     show S.d (.tup [.int (m - 1)])=S.d (.tup [.int ((m.toNat - 1:Nat):Int)]);rw[show(m - 1)=((m.toNat - 1:Nat):Int) by omega]
    |cons p r=>exact⟨hz3,p::r,rfl,by simp,ß0.sublist hl È5,λq hq=>by have:=Ä2.mp (hl.mem hq);omega⟩
section
variable (ps:List (Int × Int))
abbrev tA(n:Nat):Nat:=(ps.getD n (0,0)).1.toNat
abbrev tB(n:Nat):Nat:=(ps.getD n (0,0)).2.toNat
def s70(mk:List Int)(n:Nat):List Int:=mk.map λx=>if x=mk.getD (tB ps n) 0 then mk.getD (tA ps n) 0 else x
def y40(m:Nat)(lot:List Nat):List Int:=lot.foldl (s70 ps) ((ð m).map λ(i:Nat)=>(i:Int))
def x22(mk:List Int)(pl:List Nat):Bool:=pl.all λp=>mk.getD p 0 == mk.getD (pl.getD 0 0) 0
def q90(m:Nat)(pl lot:List Nat):Bool:=x22 (y40 ps m lot) pl
variable {ps}
theorem N30(mk:List Int)(n:Nat):(s70 ps mk n).length=mk.length:=È _
theorem step_get(h:x < mk.length):(s70 ps mk n).getD x 0=if mk.getD x 0=mk.getD (tB ps n) 0 then mk.getD (tA ps n) 0 else mk.getD x 0:=by
 unfold s70;rw[Ò,Ø,Ó h];simp[Ò,Ó h]
theorem B81:(y40 ps m lot).length=m:=by
 unfold y40;have:∀ (l:List Nat) (mk:List Int),(l.foldl (s70 ps) mk).length=mk.length:=by
  intro l
  induction l with
  |nil=>intro mk;rfl|cons n r ih=>intro mk;rw[List.foldl_cons,ih,N30]
 rw[this];simp
theorem m41(hr:∀ n < ps.length,tA ps n < m/\tB ps n < m):∀ (lot:List Nat) (mk:List Int),mk.length=m->(∀ n∈lot,n < ps.length) ->
  (∀ x y,x < m->y < m->mk.getD x 0=mk.getD y 0->(lot.foldl (s70 ps) mk).getD x 0=(lot.foldl (s70 ps) mk).getD y 0)/\(∀ n∈lot,(lot.foldl (s70 ps) mk).getD (tA ps n) 0=(lot.foldl (s70 ps) mk).getD (tB ps n) 0) /\
  ∀ f:Nat->Int,(∀ x y,x < m->y < m->mk.getD x 0=mk.getD y 0->f x=f y)->(∀ n∈lot,f (tA ps n)=f (tB ps n))->∀ x y,x < m->y < m->(lot.foldl (s70 ps) mk).getD x 0=(lot.foldl (s70 ps) mk).getD y 0->f x=f y:=by
 intro lot
 induction lot with
 |nil=>exact λmk _ _=>⟨λ_ _ _ _ h=>h,(λ_ h=>nomatch h),λf h _=>h⟩
 |cons n r ih =>
  intro mk hl hn;obtain⟨ha,hb⟩:=hr n (hn n Ì);obtain⟨i1,i2,i3⟩:=ih (s70 ps mk n) (by rw[N30];exact hl) λk hk=>hn k (Ê _ hk)
  have st:∀ x,x < m->(s70 ps mk n).getD x 0=if mk.getD x 0=mk.getD (tB ps n) 0 then mk.getD (tA ps n) 0 else mk.getD x 0:=λx hx=>step_get ∅
  refine⟨λx y hx hy h=>i1 x y hx hy (by rw[st x hx,st y hy,h]),λk hk=>?_,λf h1 h2=>?_⟩
  ·rcases ó.mp hk with rfl | hk
   ·refine i1 _ _ ha hb ?_;rw[st _ ha,st _ hb,if_pos rfl];split <;> rfl
   ·exact i2 k hk
  ·refine i3 f (λx y hx hy h=>?_) λk hk=>h2 k (Ê _ hk);have e:=h2 n Ì;rw[st x hx,st y hy] at h;split at h
   ·rename_i hxb;have fx:=h1 _ _ hx hb hxb;split at h
    ·rename_i hyb;rw[fx,h1 _ _ hy hb hyb]
    ·rw[fx,← e];exact h1 _ _ ha hy h
   ·split at h
    ·rename_i hyb;rw[h1 _ _ hy hb hyb,← e];exact h1 _ _ hx ha h
    ·exact h1 _ _ hx hy h
theorem U50(h:x < m):(((ð m).map λ(i:Nat)=>(i:Int))).getD x 0=(x:Int):=by
 rw[Ò,Ø,É8 h];rfl
theorem O01{m:Nat}(hr:∀ n < ps.length,tA ps n < m/\tB ps n < m){pl lot:List Nat}(hp:∀ p∈pl,p < m)(hl:∀ n∈lot,n < ps.length):q90 ps m pl lot=true↔∀ f:Nat->Int,(∀ n∈lot,f (tA ps n)=f (tB ps n))->∀ p∈pl,f p=f (pl.getD 0 0):=by
 obtain⟨_,h2,h3⟩:=m41 hr lot ((ð m).map λ(i:Nat)=>(i:Int)) (by simp) hl
 unfold q90 x22;rw[Å2];have h0:∀ p∈pl,pl.getD 0 0 < m:=λp hp'=>by
  cases pl with
  |nil=>cases hp'
  |cons q r=>exact hp q Ì
 constructor
 ·intro h f hf p hp';refine h3 f (λx y hx hy e=>?_) hf p _ (hp p hp') (h0 p hp') (beq_iff_eq.mp (h p hp'));rw[U50 hx,U50 hy] at e;rw[Int.ofNat_inj.mp e]
 ·intro h p hp';rw[beq_iff_eq];exact h (λx=>(y40 ps m lot).getD x 0) h2 p hp'
end
section
variable (g:List Nat->Bool) (c:Nat->Int × Int)
variable {g c}
def n80:Nat->List (List Nat)
 |0=>[[]]|j + 1=>n80 j++(n80 j).map (·++[j])
theorem a81:∀ {j:Nat}{lot:List Nat},lot∈n80 j->∀ n∈lot,n < j
 |0,lot,h,n,hn=>by rw[è.mp h] at hn;cases hn
 |j + 1,lot,h,n,hn=>by
  rcases Â7.mp h with h | h
  ·exact Å1 (a81 h n hn)
  ·obtain⟨l,hl,rfl⟩:=Ù.mp h;rcases Â7.mp hn with hn | hn
   ·exact Å1 (a81 hl n hn)
   ·rw[è.mp hn];exact Ì3 j
end
theorem itE{it:It}{e:Ex}{l:List S}{ρ:Env}(h:R50 l=true):t71 it e l ρ=R60 it e l ρ:=by unfold t71;rw[h,R40];rfl
theorem q50:∀ l:List Nat,k40 (l.map a40)=true
 |[]=>rfl|_::r=>q50 r
structure Row(x:D)(lot:List Nat):Prop where
 sq:k71 x=some (lot.map a40)
 br:a52 x=true
theorem Row.t(lot:List Nat):Row (.tup (lot.map a40)) lot:=⟨rfl,q50 lot⟩
theorem Row.ba(h:Row x lot):R50 [.d x]=true:=by
 show(a52 x&&true)=true;rw[h.br];rfl
theorem B91{mk:List Int}{a:Int}(h0:0<=a)(h:a.toNat < mk.length):W10 (.lst (mk.map D.int)) (.int a)=some (.int (mk.getD a.toNat 0)):=by
 obtain⟨n,rfl⟩:=Æ9 h0;rw[À1] at h ⊢;rw[Ò,Ó h];exact B11 (g02 h)
theorem U61{ps:List (Int × Int)}{n:Nat}(h:n < ps.length):W10 (.tup (ps.map pr)) (.int n)=some (pr (ps.getD n (0,0))):=by
 rw[Ò,Ó h];exact w62 (by rw[Ø,Ó h];rfl)
theorem getD_mem{ps:List (Int × Int)}{n:Nat}(h:n < ps.length):ps.getD n (0,0)∈ps:=by
 rw[Ò,Ó h];exact Æ4 h
theorem d80.rng{m:Int}{ps:List (Int × Int)}(g:d80 m ps):∀ n < ps.length,tA ps n < m.toNat/\tB ps n < m.toNat:=λn hn=>by
 have:=g.tie _ (getD_mem hn);unfold tA tB;omega
def O22(a b:Int):D->D
 |.int v=>.int (if v=b then a else v)|x=>x
theorem g62{F:FT}{z:Z}{mk:List Int}(a b:Int){Q:List D->Z->Prop}{E:Nat->Z->Prop}(q:Q ((mk.map λx=>if x=b then a else x).map D.int) z):W (turns (q80 (ev F .nil) (ev F (.ite (.cmp .eq (.var 0) (.var 2)) (.var 1) (.var 0))) (.v 0) [none,some (.d (.int a)),some (.d (.int b))]) (mk.map D.int)) z Q E:=by
 refine A71 (O22 a b) (λx hx=>?_) ?_
 ·obtain⟨v,_,rfl⟩:=Ù.mp hx;refine ib (b:=v == b) (λh=>⟨?_,rfl⟩) λh=>⟨?_,rfl⟩
  ·show D.int a=.int (if v=b then a else v);rw[if_pos (beq_iff_eq.mp h)]
  ·show D.int v=.int (if v=b then a else v);rw[if_neg (by simpa using h)]
 ·have e:(mk.map D.int).map (O22 a b)=(mk.map λx=>if x=b then a else x).map D.int:=by rw[ï,ï];rfl
  rw[e];exact q
theorem a91(k:Nat){m:Int}{ps:List (Int × Int)}(g:d80 m ps){x:D}{lot:List Nat}(hx:Row x lot)(hl:∀ n∈lot,n < ps.length)(z:Z):b90 T (k + 3) H70 [.d (j20 m ps),.d x] z=some (.ok (.fr ((y40 ps m.toNat lot).map D.int)) z):=by
 have m6:=g.m6;have m1:=g.m1;refine W.ok (j40 (ps:=2) (ns:=10) (b:=w80) rfl rfl (-0) ?_)
 refine(a00 (o:=lrD [.int m]) (M80 ∅ ∅) ?_ :)
 refine a00 (o:=k71 x) hx.sq ?_;refine G50 (λxs ρ z1=>z1=z/\∃ (rest:List Nat) (mk:List Int) (o5 o6 o7 o8 o9:Option S),xs=rest.map a40/\(∀ n∈rest,n < ps.length)/\mk.length=m.toNat/\rest.foldl (s70 ps) mk=y40 ps m.toNat lot/\ρ=[some (.d (j20 m ps)),some (.d x),some (.d (.int m)),some (.d (.tup (ps.map pr))),some (.fr (mk.map D.int)),o5,o6,o7,o8,o9]) _ ⟨rfl,lot,(ð m.toNat).map λ(i:Nat)=>(i:Int),none,none,none,none,none,rfl,hl,by simp,rfl,(itE hx.ba).trans ?_⟩ ?_ ?_
 ·rw[← N61];rfl
 ·rintro y r ρ z1 ⟨rfl,rest,mk,o5,o6,o7,o8,o9,e,hr,hm,hf,rfl⟩;cases rest with
  |nil=>cases e
  |cons n rest =>
   cases e;have hn:=hr n Ì;have ht:=g.tie _ (getD_mem hn);refine(a00 (U61 hn) ?_ :);refine(a00 (B91 (mk:=mk) ht.1 ∅) ?_ :)
   refine(a00 (B91 (mk:=mk) (a:=(ps.getD n (0,0)).2) ∅ ∅) ?_ :)
   refine ip (by rw[È];simp only[most];omega) (g62 _ _ ?_)
   exact⟨rfl,rest,s70 ps mk n,_,_,_,_,_,rfl,λk hk=>hr k (Ê _ hk),by rw[N30];exact hm,hf,rfl⟩
 ·rintro ρ z1 ⟨rfl,rest,mk,o5,o6,o7,o8,o9,e,hr,hm,hf,rfl⟩;cases rest with
  |nil=>exact sd (by rw[← hf];rfl)|cons _ _=>cases e
section
variable {m:Int}{ps:List (Int × Int)}{pl lot:List Nat}
theorem x32{mk:List Int}{p:Nat}(h:p < mk.length):W10 (.lst (mk.map D.int)) (.int p)=some (.int (mk.getD p 0)):=B91 (a:=(p:Int)) ∅ (by rw[À1];exact h)
theorem U71(h:pl≠[]):W10 (.tup (pl.map a40)) (.int 0)=some (a40 (pl.getD 0 0)):=by
 cases pl with
 |nil=>exact absurd rfl h|cons p r=>exact w62 (j:=0) rfl
theorem g00.p0(hp:g00 m pl):pl.getD 0 0 < m.toNat:=by
 have h:=hp.ne;have h2:=hp.lt;cases pl with
 |nil=>exact absurd rfl h|cons p r=>have:=h2 p Ì;show p < _;omega
def eqM(mk:List Int)(p0:Nat):D->Bool
 |.int p=>mk.getD p.toNat 0 == mk.getD p0 0|_=>false
theorem g72(l:List Nat):(l.map a40).all (eqM mk p0)=l.all λp=>mk.getD p 0 == mk.getD p0 0:=by rw[all_map];rfl
theorem N40(k:Nat)(g:d80 m ps)(hp:g00 m pl){x:D}(hx:Row x lot)(hl:∀ n∈lot,n < ps.length)(z:Z):b90 T (k + 4) x60 [.d (j20 m ps),.d x,.d (.tup (pl.map a40))] z=some (.ok (.d (.bl (q90 ps m.toNat pl lot))) z):=by
 have hlen:=hp.len g.m6;refine W.ok (j40 (ps:=3) (ns:=4) (b:=o90) rfl rfl (-0) (Wo (a91 k g hx hl z) ?_))
 have ml:(y40 ps m.toNat lot).length=m.toNat:=B81;generalize hmk:y40 ps m.toNat lot=mk at ml;refine ip (by rw[È];simp only[most];omega) (A71 (λx=>.bl (eqM mk (pl.getD 0 0) x)) (λy hy=>?_) (a00 (F00 _ (eqM mk (pl.getD 0 0))) ?_ :))
 ·obtain⟨p,hp',rfl⟩:=Ù.mp hy;have:=hp.lt p hp';refine(a00 (x32 (mk:=mk) (p:=p) ∅) ?_ :)
  refine(a00 (U71 hp.ne) ?_ :);refine(a00 (x32 (mk:=mk) (by rw[ml];exact hp.p0)) ?_ :)
  exact⟨rfl,rfl⟩
 ·refine sb (b:=(pl.map a40).all (eqM mk (pl.getD 0 0))) ?_;rw[g72,← hmk];rfl
theorem g82(h:okD (.lst l)=true):s90 .eq (.lst l) (.lst [])=some l.isEmpty:=by
 show(if okD (.lst l)&&okD (.lst []) then some (eqD (.lst l) (.lst [])) else eqE (.lst l) (.lst []))=_;rw[h];cases l <;> rfl
theorem A00(l:List Nat):okD (.lst (l.map a40))=true:=by
 have e:l.map a40=(l.map λ(n:Nat)=>(n:Int)).map D.int:=by rw[ï];rfl
 rw[e];exact T80 _
end
def r30(l:List Nat):D:=.tup (l.map a40)
theorem u60:∀ {j:Nat}{lot:List Nat},lot∈n80 j->lot.length<=j
 |0,lot,h=>by rw[è.mp h];exact Î _
 |j + 1,lot,h=>by
  rcases Â7.mp h with h | h
  ·exact Nat.le_succ_of_le (u60 h)
  ·obtain⟨l,hl,rfl⟩:=Ù.mp h;rw[U21];exact Û8 (u60 hl)
theorem A10:∀ j:Nat,(n80 j).length=2 ^ j
 |0=>rfl
 |j + 1=>by
  show(n80 j++(n80 j).map (·++[j])).length=_;rw[À5,È,A10 j,Nat.pow_succ];omega
theorem C01(h:j<=8):2 ^ j<=256:=Õ3 (n:=2) (-0) h
theorem add_l(h:a.length + b.length<=1000):G00 .add (.lst a) (.lst b)=some (.fr (a++b)):=by
 show(if a.length + b.length<=most then some (S.fr (a++b)) else none)=_;rw[if_pos (p20 h)]
theorem m51(h:a.length + b.length<=1000):G00 .add (.tup a) (.tup b)=some (.d (.tup (a++b))):=by
 show(if a.length + b.length<=most then some (S.d (.tup (a++b))) else none)=_;rw[if_pos (p20 h)]
def O32(j:Nat):D->D
 |.tup l=>.tup (l++[a40 j])|x=>x
theorem O11:((n80 j).map r30).map (O32 j)=((n80 j).map (·++[j])).map r30:=by
 rw[ï,ï];refine É0 λl _=>?_;show D.tup (l.map a40++[a40 j])=.tup ((l++[j]).map a40);rw[Ä7];rfl
theorem g92{n:Nat}(h:n < 100000):itD .rng1 [.int n]=some ((Å0 0 n).map a40):=by
 rw[M80 ∅ ∅,À1,List.range_eq_range'];rfl
theorem h51(n:Nat):∀ l:List Nat,memD (a40 n) (l.map a40)=decide (n∈l)
 |[]=>rfl
 |x::r=>by
  show((x:Int) == (n:Int) || memD (a40 n) (r.map a40))=_;rw[h51 n r,Í7,Å5,beq_iff_eq,decide_eq_true_eq,decide_eq_true_eq,Ã1];constructor
  ·rintro (h | h)
   ·exact .inl ∅
   ·exact .inr h
  ·rintro (h | h)
   ·exact .inl ∅
   ·exact .inr h
theorem u70(l:List Nat):F90 (l.map a40)=true:=by
 have e:l.map a40=(l.map λ(n:Nat)=>(n:Int)).map D.int:=by rw[ï];rfl
 obtain⟨h1,h2⟩:=M90 (l.map λ(n:Nat)=>(n:Int));unfold F90;rw[e,h1,h2];rfl
theorem b01{n:Nat}{l:List Nat}:K11 (a40 n) (l.map a40)=some (decide (n∈l)):=by
 unfold K11;rw[u70,h51];rfl
theorem C11(h0:0 < b):(z50 t b).1 * b=(z50 t b).2 * t:=by
 obtain⟨e1,e2⟩:=a71 (t:=t) h0;generalize (z50 t b).1=x at *
 generalize (z50 t b).2=y at *
 generalize ((gcd t b:Nat):Int)=k at *
 rw[e1,e2]
 grind
def s80(k:Nat):List (List Nat):=(TS.sN k).map (TS.B30 k 0)
theorem U60(h:k<=8):n80 k=(ð (2 ^ k)).map (TS.B30 k 0):=by
 have:∀ k,k < 9->n80 k=(ð (2 ^ k)).map (TS.B30 k 0):=by decide +kernel
 exact this k ∅
theorem u80(h:k<=8):(s80 k).Perm (n80 k):=by
 have:∀ k,k < 9->(TS.sN k).isPerm (ð (2 ^ k))=true:=by decide +kernel
 rw[U60 h];exact(List.isPerm_iff.mp (this k ∅)).map _
theorem x42(h:k<=8):(n80 k).map r30=h50 k:=by
 rw[U60 h];unfold h50;rw[ï];rfl
theorem b11(h:k<=8):bfD .sorted [.lst ((n80 k).map r30)]=some (.fr ((s80 k).map r30)):=by
 have h1:∀ k,k < 9->n30 (h50 k)=false:=by decide +kernel
 have h2:∀ k,k < 9->((ð 9).find? λj=>W00 (h50 k) (h50 j))=some k:=by decide +kernel
 rw[x42 h];show(if (h50 k).length < 64/\n30 (h50 k)=true then some (S.fr (t90 (h50 k))) else((((ð 9).find? λj=>W00 (h50 k) (h50 j)).map K21).map S.fr))=_;rw[if_neg (λq=>by rw[h1 k ∅] at q;cases q.2),h2 k ∅]
 show some (S.fr (K21 k))=some (S.fr ((s80 k).map r30));rw[s80,ï];rfl
theorem h61{i:Nat}(hi:T[i]?=some (.code 1 3 q40))(k:Nat){m:Int}{ts:List D}(h8:ts.length<=8)(z:Z):b90 T (k + 3) i [.d (.tup [.int m,.tup ts])] z=some (.ok (.fr ((s80 ts.length).map r30)) z):=by
 refine W.ok (j40 (ps:=1) (ns:=3) (b:=q40) hi rfl (-0) ?_)
 refine(a00 (g92 (n:=ts.length) ∅) ?_ :)
 refine G50 (λxs ρ z1=>z1=z/\∃ (j r:Nat) (o2:Option S),j + r=ts.length/\xs=(Å0 j r).map a40/\ρ=[some (.d (.tup [.int m,.tup ts])),some (.fr ((n80 j).map r30)),o2]) _ ⟨rfl,0,ts.length,none,Nat.zero_add _,rfl,rfl⟩ ?_ ?_
 ·rintro x r ρ z1 ⟨rfl,j,r',o2,hj,e,rfl⟩;cases r' with
  |zero=>cases e
  |succ r' =>
   rw[Ò6] at e;cases e;have hp:=C01 (j:=j) ∅
   refine ip (by rw[È,A10];simp only[most];omega) (A71 (O32 j) (λy hy=>?_) ?_)
   ·obtain⟨l,hl,rfl⟩:=Ù.mp hy;have:=u60 hl;refine(a00 (m51 (a:=l.map a40) (b:=[a40 j]) (by rw[È];show _ + 1<=_;omega)) ?_ :)
    exact⟨rfl,rfl⟩
   ·rw[O11];refine(a00 (add_l (a:=(n80 j).map r30) (b:=((n80 j).map (·++[j])).map r30) (by rw[È,È,È,A10];omega)) ?_ :)
    refine⟨rfl,j + 1,r',some (.d (a40 j)),by omega,rfl,?_⟩
    exact congrArg (λl=>[some (S.d (.tup [.int m,.tup ts])),some (.fr l),some (.d (a40 j))]) Ä7.symm
 ·rintro ρ z1 ⟨rfl,j,r',o2,hj,e,rfl⟩;cases r' with
  |zero =>
   have hj:j=ts.length:=hj;subst hj;refine(a00 (b11 h8) ?_ :);exact sd rfl
  |succ r'=>rw[Ò6] at e;cases e
theorem b21(k:Nat){m:Int}{ts:List D}(h8:ts.length<=8)(z:Z):b90 T (k + 3) H80 [.d (.tup [.int m,.tup ts])] z=some (.ok (.fr ((s80 ts.length).map r30)) z):=h61 rfl k h8 z
def O21:D->List Nat
 |.tup l=>l.map λx=>match x with | .int i=>i.toNat | _=>0
 |_=>[]
theorem h71(l:List Nat):O21 (r30 l)=l:=by
 show(l.map a40).map _=l;rw[ï];exact map_id l
theorem C21(h:k<=8)(hl:lot∈s80 k):∀ n∈lot,n < k:=a81 ((u80 h).mem_iff.mp hl)
theorem O31(h:k<=8):(s80 k).length<=256:=by rw[(u80 h).length_eq,A10];exact C01 h
section
variable {m:Int}{ps cs:List (Int × Int)}{pl:List Nat}
abbrev y50(m:Int)(ps:List (Int × Int))(pl:List Nat):List (List Nat):=(s80 ps.length).filter (q90 ps m.toNat pl)
theorem U70(k:Nat)(g:d80 m ps)(hp:g00 m pl)(z:Z):b90 T (k + 9) E40 [.d (j20 m ps),.d (.tup (pl.map a40))] z=some (.ok (.fr ((y50 m ps pl).map r30)) z):=by
 have h8:=g.len;have h6:=hp.len g.m6;refine W.ok (j40 (ps:=2) (ns:=2) (b:=i90) rfl rfl (-0) (Wo (c90 k z g.web) (Wo (f70 (k + 2) (t:=.tup (ps.map pr)) z hp.pls (decide_eq_true (by rw[È];omega))) (Wo (b21 (k + 5) (m:=m) (ts:=ps.map pr) (by rw[È];exact h8) z) ?_))))
 rw[È];refine ip (by rw[È];exact p20 (Þ (O31 h8) (-0))) (f92 (λx=>q90 ps m.toNat pl (O21 x)) id (λx hx=>?_) ?_)
 ·obtain⟨l,hl,rfl⟩:=Ù.mp hx;refine Wo (N40 (k + 4) g hp (Row.t l) (C21 h8 hl) z) ⟨?_,rfl,λ_=>⟨rfl,rfl⟩⟩;rw[h71]
 ·refine sd ?_;rw[map_id,List.filter_map];have:(s80 ps.length).filter ((λx=>q90 ps m.toNat pl (O21 x)) ∘ r30)=y50 m ps pl:=List.filter_congr λl _=>by show q90 ps m.toNat pl (O21 (r30 l))=_;rw[h71]
  rw[this]
end
def tl:Sm->Sm
 |.seq _ r=>r|s=>s
structure Bs(n:Nat)(c:Int × Int):Prop where
 t:c.1.natAbs<=2 ^ n
 b0:0 < c.2
 b:c.2.natAbs<=2 ^ n
theorem C31{n m:Nat}{i j:Int}(hi:i.natAbs<=2 ^ n)(hj:j.natAbs<=2 ^ m):(i * j).natAbs<=2 ^ (n + m):=by
 rw[natAbs_mul,Nat.pow_add];exact Nat.mul_le_mul hi hj
theorem C41(h0:0 < b):(z50 t b).1.natAbs<=t.natAbs/\(z50 t b).2.natAbs<=b.natAbs:=by
 obtain⟨e1,e2⟩:=a71 (t:=t) h0;have g0:=B41 (t:=t) h0;generalize z50 t b=v at *
 generalize hg:gcd t b=g at *
 have g1:1<=g:=by omega
 constructor
 ·rw[e1,natAbs_mul,Int.natAbs_natCast];exact à2 _ g1
 ·rw[e2,natAbs_mul,Int.natAbs_natCast];exact à2 _ g1
structure Rt(v:Int × Int)(t b:Int):Prop where
 b0:0 < v.2
 one:gcd v.1 v.2=1
 eq:v.1 * b=t * v.2
theorem Rt.low{t b:Int}(hb:0 < b):Rt (z50 t b) t b:=⟨B51 hb,g32 hb,by rw[C11 hb,Int.mul_comm]⟩
theorem Rt.conv{v:Int × Int}{t b t' b':Int}(h:Rt v t b)(hb:0 < b)(e:t * b'=t' * b):Rt v t' b':=by
 refine⟨h.b0,h.one,Ð4 (a:=b) ∅ ?_⟩
 have:=h.eq
 calc v.1 * b' * b=(v.1 * b) * b':=by grind
  _=(t * b') * v.2:=by rw[this];grind
  _=t' * v.2 * b:=by rw[e];grind
theorem Rt.eqv{v w:Int × Int}{t b:Int}(hv:Rt v t b)(hw:Rt w t b)(hb:0 < b):v=w:=by
 have e:v.1 * w.2=w.1 * v.2:=by
  have h1:=hv.eq;have h2:=hw.eq;refine Ð4 (a:=b) ∅ ?_
  calc v.1 * w.2 * b=(v.1 * b) * w.2:=by grind
   _=(t * w.2) * v.2:=by rw[h1];grind
   _=w.1 * v.2 * b:=by rw[← h2];grind
 obtain⟨a,b'⟩:=m31 hv.b0 hw.b0 hv.one hw.one e;exact Prod.ext a b'
theorem Rt.add{v w:Int × Int}{t b t' b':Int}(hv:Rt v t b)(hw:Rt w t' b'):Rt (z50 (v.1 * w.2 + w.1 * v.2) (v.2 * w.2)) (t * b' + t' * b) (b * b'):=by
 have y:=mul_pos hv.b0 hw.b0;refine(Rt.low y).conv y ?_;have h1:=hv.eq;have h2:=hw.eq
 calc (v.1 * w.2 + w.1 * v.2) * (b * b')=(v.1 * b) * (w.2 * b') + (w.1 * b') * (v.2 * b):=by grind
  _=(t * b' + t' * b) * (v.2 * w.2):=by rw[h1,h2];grind
theorem Rt.mul{v w:Int × Int}{t b t' b':Int}(hv:Rt v t b)(hw:Rt w t' b'):Rt (z50 (v.1 * w.1) (v.2 * w.2)) (t * t') (b * b'):=by
 have y:=mul_pos hv.b0 hw.b0;refine(Rt.low y).conv y ?_;have h1:=hv.eq;have h2:=hw.eq
 calc v.1 * w.1 * (b * b')=(v.1 * b) * (w.1 * b'):=by grind
  _=t * t' * (v.2 * w.2):=by rw[h1,h2];grind
theorem Bs.low{n:Nat}{t b:Int}(h0:0 < b)(ht:t.natAbs<=2 ^ n)(hb:b.natAbs<=2 ^ n):Bs n (z50 t b) :=
 ⟨Þ (C41 h0).1 ht,B51 h0,Þ (C41 h0).2 hb⟩
theorem Bs.mul{n:Nat}{c d:Int × Int}(hc:Bs n c)(hd:Bs n d):Bs (n + n) (z50 (c.1 * d.1) (c.2 * d.2)):=.low (mul_pos hc.b0 hd.b0) (C31 hc.t hd.t) (C31 hc.b hd.b)
def cnt(ls:List (List Nat))(j:Nat):Int:=((ls.filter λl=>l.length == j).length:Nat)
theorem cnt_cons(l:List Nat)(r:List (List Nat))(j:Nat):cnt (l::r) j=cnt r j + if j=l.length then 1 else 0:=by
 unfold cnt;rw[Õ6];by_cases h:j=l.length
 ·rw[if_pos h,h,beq_self_eq_true,if_pos rfl,Û];omega
 ·rw[if_neg h,beq_eq_false_iff_ne.mpr (Á6 h),if_neg (-0)];omega
def fl(n:Nat)(f:Nat->Int):List D:=(ð n).map λj=>.int (f j)
theorem C51(n:Nat)(f:Nat->Int):(fl n f).length=n:=by unfold fl;rw[È,þ]
theorem x52(h:i < n):(fl n f)[i]?=some (.int (f i)):=by unfold fl;rw[Ø,É8 h];rfl
theorem x62(h:i < n):L2.atI (fl n f) (i:Int)=some (.int (f i)):=L2.v70 (x52 h)
theorem x72(h:i < n):W10 (.lst (fl n f)) (a40 i)=some (.int (f i)):=L2.v70 (x52 h)
theorem U81(h:i < n):n40 (fl n f) (i:Int) (.int v)=some (fl n λj=>if j=i then v else f j):=by
 have hx:L2.ixN (fl n f).length (i:Int)=some i:=by
  rw[C51];unfold L2.ixN;simp;omega
 unfold n40;rw[hx];show some (((ð n).map λj=>D.int (f j)).set i (.int v))=some ((ð n).map λj=>D.int (if j=i then v else f j));refine congrArg some (List.ext_getElem (by rw[Â0,È,È]) λj h1 h2=>?_)
 rw[List.getElem_set,List.getElem_map,List.getElem_map,List.getElem_range];by_cases e:j=i
 ·rw[if_pos e.symm,if_pos e]
 ·rw[if_neg (Á6 e),if_neg e]
theorem U80(n:Nat)(f:Nat->Int):k40 (fl n f)=true:=by
 unfold fl;rw[show((ð n).map λj=>D.int (f j))=((ð n).map f).map D.int from by rw[ï];rfl]
 exact I00 _
theorem C61:∀ n:Nat,(î n [D.int 0]).flatten=fl n λ_=>0
 |0=>rfl
 |n + 1=>by
  rw[Å4,É6,C61 n];unfold fl;rw[List.range_succ_eq_map,Å6,ï];rfl
theorem zeros{n:Nat}(h:n<=1000):G00 .mul (.lst [.int 0]) (.int n)=some (.fr (fl n λ_=>0)):=by
 show(if 0<=(n:Int)/\(n:Int).toNat * 1<=most/\(n:Int) < 1000000 then some (S.fr (î (n:Int).toNat [D.int 0]).flatten) else none)=_;rw[if_pos ⟨by omega,by rw[À1];exact p20 ∅,by omega⟩,À1,C61]
theorem U91{i:Int}{n:Nat}(e:i=n)(h:n<=1000):G00 .mul (.lst [.int 0]) (.int i)=some (.fr (fl n λ_=>0)):=by rw[e];exact zeros h
theorem x10:∀ ls:List (List Nat),k40 (ls.map r30)=true
 |[]=>rfl
 |l::r=>by
  show(k40 (l.map a40)&&k40 (r.map r30))=true;rw[q50,x10];rfl
section
variable {m:Int}{ps:List (Int × Int)}{pl:List Nat}
theorem O41(g:d80 m ps)(h:l∈y50 m ps pl):l∈n80 ps.length:=(u80 g.len).mem_iff.mp (Ü4.mp h).1
abbrev n21(m:Int)(ps:List (Int × Int))(pl:List Nat):Nat->Int:=cnt (y50 m ps pl)
theorem F10(k:Nat)(g:d80 m ps)(hp:g00 m pl)(z:Z):b90 T (k + 10) h70 [.d (j20 m ps),.d (.tup (pl.map a40))] z=some (.ok (.fr (fl (ps.length + 1) (n21 m ps pl))) z):=by
 have h8:=g.len;refine W.ok (j40 (ps:=2) (ns:=5) (b:=u40) rfl rfl (-0) (Wo (U70 k g hp z) ?_))
 refine(l81 (.fr (fl (ps.length + 1) λ_=>0)) [some (.d (j20 m ps)),some (.d (.tup (pl.map a40))),some (.fr ((y50 m ps pl).map r30)),some (.fr (fl (ps.length + 1) λ_=>0)),none] ?_ ?_ ?_ :)
 ·refine(a00 (U91 (i:=((ps.map pr).length:Int) + 1) (n:=ps.length + 1) (by rw[È];rfl) ∅) ?_ :)
  exact⟨rfl,rfl⟩
 ·rw[g51 (show C70 (.fr (fl (ps.length + 1) λ_=>0))=true from U80 _ _)];rfl
 refine G50 (λxs ρ z1=>z1=z/\∃ (r:List (List Nat)) (f:Nat->Int) (o2 o4:Option S),xs=r.map r30/\(∀ l∈r,l.length < ps.length + 1)/\(∀ j,f j + cnt r j=n21 m ps pl j)/\ρ=[some (.d (j20 m ps)),some (.d (.tup (pl.map a40))),o2,some (.fr (fl (ps.length + 1) f)),o4]) _ ⟨rfl,y50 m ps pl,λ_=>0,_,none,rfl,λl hl=>Ú0 (u60 (O41 g hl)),λj=>Ú2 _,(itE (l:=[.d (.lst ((y50 m ps pl).map r30))]) (by show(k40 ((y50 m ps pl).map r30)&&true)=true;rw[x10];rfl)).trans rfl⟩ ?_ ?_
 ·rintro x r ρ z1 ⟨rfl,ls,f,o2,o4,e,hl,hf,rfl⟩;cases ls with
  |nil=>cases e
  |cons l ls =>
   cases e;have hl0:=hl l Ì;have el:((l.map a40).length:Int)=(l.length:Nat):=by rw[È]
   refine(a00 (o:=L2.atI (fl (ps.length + 1) f) ((l.map a40).length:Int)) (a:=.int (f l.length)) (by rw[el];exact x62 hl0) ?_ :)
   refine(a00 (o:=n40 (fl (ps.length + 1) f) ((l.map a40).length:Int) (.int (f l.length + 1))) (a:=fl (ps.length + 1) λj=>if j=l.length then f l.length + 1 else f j) (by rw[el];exact U81 hl0) ?_ :)
   refine⟨rfl,ls,λj=>if j=l.length then f l.length + 1 else f j,_,_,rfl,λl' h'=>hl l' (Ê _ h'),λj=>?_,rfl⟩;have:=hf j;rw[cnt_cons] at this;show(if j=l.length then f l.length + 1 else f j) + cnt ls j=n21 m ps pl j;by_cases e:j=l.length
   ·rw[if_pos e] at this;rw[if_pos e,← e];omega
   ·rw[if_neg e] at this;rw[if_neg e];omega
 ·rintro ρ z1 ⟨rfl,ls,f,o2,o4,e,hl,hf,rfl⟩;cases ls with
  |cons l ls=>cases e
  |nil =>
   refine sd ?_;rw[show f=n21 m ps pl from funext λj=>by have:=hf j;show f j=_;rw[← this];exact(Int.add_zero _).symm]
theorem O51(k:Nat)(g:d80 m ps)(hx:B71 m x=false)(hs:short x=true)(z:Z):b90 T (k + 10) h70 [.d (j20 m ps),.d x] z=some (.er 2 z) :=
 W.er (j40 (ps:=2) (ns:=5) (b:=u40) rfl rfl (-0) (We (W.er (j40 (ps:=2) (ns:=2) (b:=i90) rfl rfl (-0) (Wo (c90 k z g.web) (We (j30 (k + 2) (t:=.tup (ps.map pr)) z hx hs) ⟨rfl,c40 z⟩)))) ⟨rfl,c40 z⟩))
theorem O61(k:Nat)(hw:l91 w=false)(z:Z):b90 T (k + 10) h70 [.d w,.d x] z=some (.er 0 z) :=
 W.er (j40 (ps:=2) (ns:=5) (b:=u40) rfl rfl (-0) (We (W.er (j40 (ps:=2) (ns:=2) (b:=i90) rfl rfl (-0) (We (p30 k z hw) ⟨rfl,c40 z⟩))) ⟨rfl,c40 z⟩))
end
theorem eq_self(h:okD x=true)(hs:R71 .seq x=false):s90 .eq x x=some true:=by
 show(if okD x&&okD x then some (eqD x x) else eqE x x)=some true;rw[h];cases x with
 |non=>rfl|bl b=>show some (b == b)=_;rw[beq_self_eq_true]|int i=>show some (i == i)=_;rw[beq_self_eq_true]|str s=>show some (s == s)=_;rw[beq_self_eq_true]|tup l=>cases hs
 |lst l=>cases hs
 |dct=>rfl
theorem N50:∀ {l:List D}{d:D},d∈r90 l l->∃ x∈l,d=.tup [x,x]
 |x::r,d,h=>by
  rcases ó.mp h with h | h
  ·exact⟨x,Ì,h⟩
  ·obtain⟨u,hu,e⟩:=N50 h;exact⟨u,Ê _ hu,e⟩
mutual
noncomputable def flat:Nat->D->Bool
 |_,.non=>true|_,.bl _=>true|_,.int _=>true|_,.str _=>false|0,.tup _=>false|d + 1,.tup l=>decide (l.length<=1000)&&O71 d l|_,.lst _=>false|_,.dct=>false
noncomputable def O71:Nat->List D->Bool
 |_,[]=>true|d,x::r=>flat d x&&O71 d r
end
theorem U90:∀ {d:Nat}{l:List D}{x:D},O71 d l=true->x∈l->flat d x=true
 |d,y::r,x,h,hx=>by
  unfold O71 at h;rw[Á] at h;rcases ó.mp hx with rfl | hx
  ·exact h.1
  ·exact U90 h.2 hx
theorem C71:∀ (d k:Nat) (x:D) (z:Z),flat d x=true->b90 T (k + d + 3) f00 [.d x,.d x] z=some (.ok (.d (.bl true)) z):=by
 have one:∀ (k:Nat) (x:D) (z:Z),okD x=true->R71 .seq x=false->b90 T (k + 3) f00 [.d x,.d x] z=some (.ok (.d (.bl true)) z):=λk x z h hs=>by
  refine W.ok (j40 (ps:=2) (ns:=2) (b:=j00) rfl rfl (-0) (ie hs ?_))
  refine(a00 (eq_self h hs) ?_ :);cases x with
  |tup l=>cases hs
  |lst l=>cases hs
  |_=>exact sb rfl
 intro d
 induction d with
 |zero =>
  intro k x z h;cases x with
  |non=>exact one k _ z rfl rfl|bl b=>exact one k _ z rfl rfl|int i=>exact one k _ z rfl rfl|_=>unfold flat at h;cases h
 |succ d ih =>
  intro k x z h;cases x with
  |non=>exact one _ _ z rfl rfl|bl b=>exact one _ _ z rfl rfl|int i=>exact one _ _ z rfl rfl
  |tup l =>
   unfold flat at h;rw[Á,decide_eq_true_eq] at h;refine W.ok (j40 (ps:=2) (ns:=2) (b:=j00) rfl rfl (-0) ?_)
   refine ie (b:=!((l.length:Int) == (l.length:Int))) (by rw[beq_self_eq_true];rfl) ?_
   refine ip (c:=(r90 l l).length<=most) (Þ (u50 _ _) (p20 h.1)) (A71 (λ_=>.bl true) (λq hq=>?_) (a00 (F00 (r90 l l) λ_=>true) ?_ :))
   ·obtain⟨x,hx,rfl⟩:=N50 hq;exact Wo (ih k x z (U90 h.2 hx)) ⟨rfl,rfl⟩
   ·exact sb (b:=(r90 l l).all λ_=>true) (Ú.mpr λ_ _=>rfl)
  |_=>unfold flat at h;cases h
theorem C81(k:Nat)(hl:l.length<=1000)(h:∀ x∈l,flat 0 x=true)(z:Z):b90 T (k + 4) f00 [.d (.lst l),.d (.lst l)] z=some (.ok (.d (.bl true)) z):=by
 refine W.ok (j40 (ps:=2) (ns:=2) (b:=j00) rfl rfl (-0) ?_)
 refine ie (b:=!((l.length:Int) == (l.length:Int))) (by rw[beq_self_eq_true];rfl) ?_
 refine ip (c:=(r90 l l).length<=most) (Þ (u50 _ _) (p20 hl)) (A71 (λ_=>.bl true) (λq hq=>?_) (a00 (F00 (r90 l l) λ_=>true) ?_ :))
 ·obtain⟨x,hx,rfl⟩:=N50 hq;exact Wo (C71 0 k x z (h x hx)) ⟨rfl,rfl⟩
 ·exact sb (b:=(r90 l l).all λ_=>true) (Ú.mpr λ_ _=>rfl)
theorem h02(k n:Nat)(hn:n<=1000)(f:Nat->Int)(z:Z):b90 T (k + 4) f00 [.d (.lst (fl n f)),.d (.lst (fl n f))] z=some (.ok (.d (.bl true)) z) :=
 C81 k (by rw[C51];exact hn) (λx hx=>by
  obtain⟨i,_,rfl⟩:=Ù.mp hx;unfold flat;rfl) z
section
variable {m m':Int}{ps ps':List (Int × Int)}{pl pl':List Nat}
theorem N60(k:Nat)(g:d80 m ps)(hp:g00 m pl)(g':d80 m' ps')(hp':g00 m' pl')(z:Z):b90 T (k + 9) x70 [.d (j20 m ps),.d (.tup (pl.map a40)),.d (j20 m' ps'),.d (.tup (pl'.map a40))] z=some (.ok (.d .non) z):=by
 have h6:=hp.len g.m6;have h6':=hp'.len g'.m6;exact W.ok (j40 (ps:=4) (ns:=4) (b:=e20) rfl rfl (-0) (Wo (c90 k z g.web) (Wo (c90 k z g'.web) (Wo (f70 (k + 2) (t:=.tup (ps.map pr)) z hp.pls (decide_eq_true (by rw[È];omega))) (Wo (f70 (k + 2) (t:=.tup (ps'.map pr)) z hp'.pls (decide_eq_true (by rw[È];omega))) (sd rfl))))))
end
abbrev pf(ps:List (Int × Int))(i:Nat):Int × Int:=ps.getD i (0,0)
section
variable {m:Int}{ps cs:List (Int × Int)}{pl:List Nat}
theorem x82{i:Nat}(h:i < ps.length):pf ps i∈ps:=by
 rw[pf,Ò,Ó h];exact Æ4 h
theorem d80.ab(g:d80 m ps){n:Nat}(hn:n < ps.length):tA ps n < tB ps n/\tB ps n < m.toNat/\pf ps n=((tA ps n:Int),(tB ps n:Int)):=by
 have:=g.tie _ (x82 hn);refine⟨by show(pf ps n).1.toNat < (pf ps n).2.toNat;omega,by show(pf ps n).2.toNat < _;omega,Prod.ext ?_ ?_⟩
 ·show(pf ps n).1=((pf ps n).1.toNat:Int);omega
 ·show(pf ps n).2=((pf ps n).2.toNat:Int);omega
end
def V00(F:List Nat)(a b:Nat):List Nat:=if a∈F/\b ∉ F then F++[b] else F
theorem h81(h:x∈F):x∈V00 F a b:=by
 unfold V00;split
 ·exact Æ2 _ h
 ·exact h
theorem b31(F:List Nat)(a b:Nat):(V00 F a b=F/\(a∈F->b∈F))∨F.length < (V00 F a b).length:=by
 unfold V00;split
 ·exact .inr (by rw[U21];omega)
 ·rename_i h;exact .inl ⟨rfl,λha=>Û2 λhb=>h ⟨ha,hb⟩⟩
def Pls(m:Nat)(F:List Nat):Prop:=F.Nodup/\∀ x∈F,x < m
theorem p40:∀ {m:Nat}{F:List Nat},Pls m F->F.length<=m
 |0,[],_=>Î _|0,x::_,h=>absurd (h.2 x Ì) (Õ5 _)
 |m + 1,F,h=>by
  have h1:(F.erase m).length<=m:=p40 ⟨h.1.erase m,λx hx=>by
   have h2:=h.2 x (List.mem_of_mem_erase hx);have h3:x≠m:=(List.Nodup.mem_erase_iff h.1).mp hx |>.1;omega⟩
  by_cases hm:m∈F
  ·rw[List.length_erase_of_mem hm] at h1;omega
  ·rw[List.erase_of_not_mem hm] at h1;omega
theorem A20(h:Pls m F)(hb:b < m):Pls m (V00 F a b):=by
 unfold V00;split
 ·rename_i hh;refine⟨List.nodup_append.mpr ⟨h.1,by simp,λx hx y hy=>?_⟩,λx hx=>?_⟩
  ·rw[è.mp hy];exact λe=>hh.2 (e ▸ hx)
  ·rcases Â7.mp hx with hx | hx
   ·exact h.2 x hx
   ·rw[è.mp hx];exact hb
 ·exact h
theorem V01{F:List Nat}{a b:Nat}{f:Nat->Int}{v:Int}(h:∀ x∈F,f x=v)(e:f a=f b):∀ x∈V00 F a b,f x=v:=by
 unfold V00;split
 ·rename_i hh;intro x hx;rcases Â7.mp hx with hx | hx
  ·exact h x hx
  ·rw[è.mp hx,← e];exact h a hh.1
 ·exact h
section
variable (ps:List (Int × Int))
def spr(F:List Nat)(n:Nat):List Nat:=V00 (V00 F (tA ps n) (tB ps n)) (tB ps n) (tA ps n)
def rnd(lot:List Nat)(F:List Nat):List Nat:=lot.foldl (spr ps) F
def x20(lot:List Nat):Nat->List Nat->List Nat
 |0,F=>F|j + 1,F=>x20 lot j (rnd ps lot F)
variable {ps:List (Int × Int)}
theorem x92(F:List Nat)(n:Nat):(spr ps F n=F/\(tA ps n∈F↔tB ps n∈F))∨F.length < (spr ps F n).length:=by
 unfold spr;rcases b31 F (tA ps n) (tB ps n) with ⟨h1,h2⟩ | h1
 ·rw[h1];rcases b31 F (tB ps n) (tA ps n) with ⟨h3,h4⟩ | h3
  ·exact .inl ⟨h3,h2,h4⟩
  ·exact .inr h3
 ·rcases b31 (V00 F (tA ps n) (tB ps n)) (tB ps n) (tA ps n) with ⟨h3,_⟩ | h3
  ·rw[h3];exact .inr h1
  ·exact .inr (Nat.lt_trans h1 h3)
theorem C91:∀ (lot F:List Nat),(rnd ps lot F=F/\∀ n∈lot,(tA ps n∈F↔tB ps n∈F))∨F.length < (rnd ps lot F).length
 |[],F=>.inl ⟨rfl,λ_ h=>nomatch h⟩
 |n::r,F=>by
  show(rnd ps r (spr ps F n)=F/\_)∨F.length < (rnd ps r (spr ps F n)).length;rcases x92 (ps:=ps) F n with ⟨h1,h2⟩ | h1
  ·rw[h1];rcases C91 r F with ⟨h3,h4⟩ | h3
   ·refine .inl ⟨h3,λk hk=>?_⟩;rcases ó.mp hk with rfl | hk
    ·exact h2
    ·exact h4 k hk
   ·exact .inr h3
  ·rcases C91 r (spr ps F n) with ⟨h3,_⟩ | h3
   ·rw[h3];exact .inr h1
   ·exact .inr (Nat.lt_trans h1 h3)
theorem D01:∀ {lot F:List Nat},Pls m F->(∀ n∈lot,tA ps n < m/\tB ps n < m)->Pls m (rnd ps lot F)
 |[],_,h,_=>h|n::r,F,h,hl=>D01 (lot:=r) (F:=spr ps F n) (A20 (A20 h (hl n Ì).2) (hl n Ì).1) λk hk=>hl k (Ê _ hk)
theorem y02{f:Nat->Int}{v:Int}:∀ {lot F:List Nat},(∀ x∈F,f x=v)->(∀ n∈lot,f (tA ps n)=f (tB ps n))->∀ x∈rnd ps lot F,f x=v
 |[],_,h,_=>h|n::r,F,h,hl=>y02 (lot:=r) (F:=spr ps F n) (V01 (V01 h (hl n Ì)) (hl n Ì).symm) λk hk=>hl k (Ê _ hk)
theorem D11:∀ {lot F:List Nat}{x:Nat},x∈F->x∈rnd ps lot F
 |[],_,_,h=>h|n::r,F,x,h=>D11 (lot:=r) (F:=spr ps F n) (h81 (h81 h))
theorem h91(hl:∀ n∈lot,tA ps n < m/\tB ps n < m):∀ {j:Nat}{F:List Nat},Pls m F->Pls m (x20 ps lot j F)
 |0,_,h=>h|j + 1,_,h=>h91 hl (j:=j) (D01 h hl)
theorem V11{f:Nat->Int}{v:Int}{lot:List Nat}(hl:∀ n∈lot,f (tA ps n)=f (tB ps n)):∀ {j:Nat}{F:List Nat},(∀ x∈F,f x=v)->∀ x∈x20 ps lot j F,f x=v
 |0,_,h=>h|j + 1,_,h=>V11 hl (j:=j) (y02 h hl)
theorem i01:∀ {j:Nat}{F:List Nat}{x:Nat},x∈F->x∈x20 ps lot j F
 |0,_,_,h=>h|j + 1,_,_,h=>i01 (j:=j) (D11 h)
theorem D21:∀ (j:Nat) (F:List Nat),(∀ n∈lot,(tA ps n∈x20 ps lot j F↔tB ps n∈x20 ps lot j F))∨F.length + j<=(x20 ps lot j F).length
 |0,F=>.inr (Î _)
 |j + 1,F=>by
  show(∀ n∈lot,(tA ps n∈x20 ps lot j (rnd ps lot F)↔tB ps n∈x20 ps lot j (rnd ps lot F)))∨F.length + (j + 1)<=(x20 ps lot j (rnd ps lot F)).length;rcases C91 (ps:=ps) lot F with ⟨h1,h2⟩ | h1
  ·have e:∀ i,x20 ps lot i F=F:=λi=>by
    induction i with
    |zero=>rfl|succ i ih=>show x20 ps lot i (rnd ps lot F)=F;rw[h1];exact ih
   refine .inl ?_;rw[h1,e];exact h2
  ·rcases D21 (lot:=lot) j (rnd ps lot F) with h2 | h2
   ·exact .inl h2
   ·exact .inr ∅
theorem D31{m:Int}{pl lot:List Nat}(g:d80 m ps)(hp:g00 m pl)(hl:∀ n∈lot,n < ps.length):(∀ p∈pl,p∈x20 ps lot m.toNat [pl.getD 0 0])↔q90 ps m.toNat pl lot=true:=by
 have hr:∀ n∈lot,tA ps n < m.toNat/\tB ps n < m.toNat:=λn hn=>g.rng n (hl n hn);have hpm:∀ p∈pl,p < m.toNat:=λp h=>by have:=hp.lt p h;omega
 have p0:pl.getD 0 0 < m.toNat:=hp.p0;rw[O01 g.rng hpm hl];constructor
 ·exact λh f hf p hpp=>V11 hf (λx hx=>by rw[è.mp hx]) p (h p hpp)
 ·intro h p hpp;have cl:∀ n∈lot,(tA ps n∈x20 ps lot m.toNat [pl.getD 0 0]↔tB ps n∈x20 ps lot m.toNat [pl.getD 0 0]):=by
   rcases D21 (ps:=ps) (lot:=lot) m.toNat [pl.getD 0 0] with h1 | h1
   ·exact h1
   ·have:=p40 (h91 hr (j:=m.toNat) (F:=[pl.getD 0 0]) ⟨by simp,λx hx=>by rw[è.mp hx];exact p0⟩)
    simp only[Û,Â1] at h1;omega
  have h2:=h (λx=>if x∈x20 ps lot m.toNat [pl.getD 0 0] then 1 else 0) (λn hn=>by
   by_cases hx:tA ps n∈x20 ps lot m.toNat [pl.getD 0 0]
   ·rw[if_pos hx,if_pos ((cl n hn).mp hx)]
   ·rw[if_neg hx,if_neg λhy=>hx ((cl n hn).mpr hy)]) p hpp
  rw[if_pos (i01 (è.mpr rfl))] at h2;exact Û2 λhx=>by rw[if_neg hx] at h2;cases h2
end
def V21(k:Nat):List Nat->List Nat
 |[]=>[k]|y::r=>if y < k then y::V21 k r else k::y::r
def F20:List Nat->List Nat
 |[]=>[]|k::r=>V21 k (F20 r)
theorem F30(k:Nat):∀ l,(V21 k l).Perm (k::l)
 |[]=>.refl _
 |y::r=>by
  unfold V21;split
  ·exact((F30 k r).cons y).trans (.swap _ _ _)
  ·exact .refl _
theorem l60:∀ l,(F20 l).Perm l
 |[]=>.refl _|k::r=>(F30 k _).trans ((l60 r).cons k)
theorem i11(k:Nat):∀ l:List Nat,n11 (a40 k) (l.map a40)=(V21 k l).map a40
 |[]=>rfl
 |y::r=>by
  unfold V21;show(if MySort.h40 [(y:Int)] [(k:Int)] then a40 y::n11 (a40 k) (r.map a40) else a40 k::a40 y::r.map a40)=_;rw[L02,i11 k r];by_cases h:y < k
  ·rw[decide_eq_true (by omega:(y:Int) < k),if_pos rfl,if_pos h];rfl
  ·rw[decide_eq_false (by omega:¬ (y:Int) < k),if_neg (-0),if_neg h];rfl
theorem V10:∀ l:List Nat,t90 (l.map a40)=(F20 l).map a40
 |[]=>rfl
 |k::r=>by
  show n11 (a40 k) (t90 (r.map a40))=_;rw[V10 r,i11];rfl
theorem F40(h:l.length < 64):bfD .sorted [.lst (l.map a40)]=some (.fr ((F20 l).map a40)):=by
 have ok:n30 (l.map a40)=true:=by
  refine Ú.mpr λx hx=>?_;obtain⟨p,_,rfl⟩:=Ù.mp hx;show(true&&(true&&(l.map a40).all (i20 (a40 p))))=true;refine Ú.mpr λy hy=>?_;obtain⟨q,_,rfl⟩:=Ù.mp hy;exact N20 p q
 show(if (l.map a40).length < 64/\n30 (l.map a40)=true then some (S.fr (t90 (l.map a40))) else _)=_;rw[if_pos ⟨by rw[È];exact h,ok⟩,V10]
theorem N70{n:Nat}{l:List Nat}:(K11 (a40 n) (l.map a40)).map (!·)=some (!decide (n∈l)):=by rw[b01];rfl
def O81:D->Nat
 |.int i=>i.toNat|_=>0
section
variable {m:Int}{ps:List (Int × Int)}{pl lot:List Nat}
abbrev wiE(m:Int)(ps:List (Int × Int))(lot:List Nat)(p0:Nat)(F:List Nat)(o4 o5 o6 o7:Option S):Env:=[some (.d (j20 m ps)),some (.d (.tup (lot.map a40))),some (.d (a40 p0)),some (.fr (F.map a40)),o4,o5,o6,o7]
theorem i21:F.map a40++[a40 b]=(F++[b]).map a40:=by rw[Ä7];rfl
theorem b41(k:Nat)(g:d80 m ps)(hl:∀ n∈lot,n < ps.length){p0:Nat}(h0:p0 < m.toNat)(z:Z):b90 T (k + 3) E50 [.d (j20 m ps),.d (.tup (lot.map a40)),.d (a40 p0)] z=some (.ok (.d (.tup ((F20 (x20 ps lot m.toNat [p0])).map a40))) z):=by
 have m6:=g.m6;have m1:=g.m1;have hr:∀ n∈lot,tA ps n < m.toNat/\tB ps n < m.toNat:=λn hn=>g.rng n (hl n hn);refine W.ok (j40 (ps:=3) (ns:=8) (b:=s40) rfl rfl (-0) ?_)
 refine(l81 (.fr [a40 p0]) (wiE m ps lot p0 [p0] none none none none) ?_ ?_ ?_ :)
 ·exact⟨rfl,rfl⟩
 ·rfl
 refine(a00 (M80 (m:=m) ∅ ∅) ?_ :)
 refine G50 (λxs ρ z1=>z1=z/\∃ (F:List Nat) (o4 o5 o6 o7:Option S),Pls m.toNat F/\x20 ps lot xs.length F=x20 ps lot m.toNat [p0]/\ρ=wiE m ps lot p0 F o4 o5 o6 o7) _ ⟨rfl,[p0],none,none,none,none,⟨by simp,λx hx=>by rw[è.mp hx];exact h0⟩,by rw[È,þ],rfl⟩ ?_ ?_
 ·rintro x r ρ z1 ⟨rfl,F,o4,o5,o6,o7,hF,e,rfl⟩;refine G50 (λxs ρ z2=>z2=z1/\∃ (l G:List Nat) (o4 o5 o6 o7:Option S),xs=l.map a40/\(∀ n∈l,n < ps.length)/\Pls m.toNat G/\rnd ps l G=rnd ps lot F/\ρ=wiE m ps lot p0 G o4 o5 o6 o7) _ ⟨rfl,lot,F,some (.d x),o5,o6,o7,rfl,hl,hF,rfl,(itE (Row.t lot).ba).trans rfl⟩ ?_ ?_
  ·rintro y r' ρ z2 ⟨rfl,l,G,o4,o5,o6,o7,e1,hl1,hG,e2,rfl⟩;cases l with
   |nil=>cases e1
   |cons n l =>
    cases e1;have hn:=hl1 n Ì;have ab:=(g.ab hn).2.2;have rb:=g.rng n hn;have len:=p40 hG;refine(a00 (show W10 (.tup (ps.map pr)) (.int n)=some (pr ((tA ps n:Int),(tB ps n:Int))) from by rw[U61 hn];exact congrArg (λx=>some (pr x)) ab) ?_ :)
    refine A41 (λρ z3=>z3=z2/\∃ (o4 o5:Option S),ρ=wiE m ps lot p0 (V00 G (tA ps n) (tB ps n)) o4 o5 (some (.d (a40 (tA ps n)))) (some (.d (a40 (tB ps n))))) ?_ ?_
    ·have no:∀ h:¬ (tA ps n∈G/\tB ps n ∉ G),V00 G (tA ps n) (tB ps n)=G:=λh=>if_neg h;refine(a00 (b01 (n:=tA ps n) (l:=G)) ?_ :);refine ib (b:=decide (tA ps n∈G)) (λh1=>?_) λh1=>⟨rfl,_,_,by rw[no λh=>of_decide_eq_false h1 h.1];rfl⟩
     refine(a00 (N70 (n:=tB ps n) (l:=G)) ?_ :);refine ib (b:=!decide (tB ps n∈G)) (λh2=>?_) λh2=>⟨rfl,_,_,by rw[no λh=>by rw[decide_eq_false h.2] at h2;cases h2];rfl⟩
     refine(a00 (add_l (a:=G.map a40) (b:=[a40 (tB ps n)]) (by rw[È];show G.length + 1<=1000;omega)) ?_ :)
     rw[i21,show V00 G (tA ps n) (tB ps n)=G++[tB ps n] from if_pos ⟨of_decide_eq_true h1,by simpa using h2⟩]
     exact⟨rfl,_,_,rfl⟩
    ·rintro ρ z3 ⟨rfl,o4,o5,rfl⟩;have hG1:=A20 (a:=tA ps n) (b:=tB ps n) hG rb.2;have U21:=p40 hG1;have fin:∀ (ρ:Env) (G':List Nat) (o4 o5 o6 o7:Option S),G'=spr ps G n->ρ=wiE m ps lot p0 G' o4 o5 o6 o7->(z3=z3/\∃ (l' G:List Nat) (o4 o5 o6 o7:Option S),List.map a40 l=l'.map a40/\(∀ n∈l',n < ps.length)/\Pls m.toNat G/\rnd ps l' G=rnd ps lot F/\ρ=wiE m ps lot p0 G o4 o5 o6 o7):=λρ G' o4 o5 o6 o7 e he=>⟨rfl,l,G',o4,o5,o6,o7,rfl,λk hk=>hl1 k (Ê _ hk),by rw[e];exact A20 hG1 rb.1,by rw[e];exact e2,he⟩
     unfold spr at fin;generalize V00 G (tA ps n) (tB ps n)=G1 at fin hG1 U21;have no:∀ h:¬ (tB ps n∈G1/\tA ps n ∉ G1),G1=V00 G1 (tB ps n) (tA ps n):=λh=>(if_neg h).symm;refine(a00 (b01 (n:=tB ps n) (l:=G1)) ?_ :);refine ib (b:=decide (tB ps n∈G1)) (λh1=>?_) λh1=>fin _ G1 _ _ _ _ (no λh=>of_decide_eq_false h1 h.1) rfl;refine(a00 (N70 (n:=tA ps n) (l:=G1)) ?_ :);refine ib (b:=!decide (tA ps n∈G1)) (λh2=>?_) λh2=>fin _ G1 _ _ _ _ (no λh=>by rw[decide_eq_false h.2] at h2;cases h2) rfl
     refine(a00 (add_l (a:=G1.map a40) (b:=[a40 (tA ps n)]) (by rw[È];show G1.length + 1<=1000;omega)) ?_ :)
     rw[i21];exact fin _ (G1++[tA ps n]) _ _ _ _ (if_pos ⟨of_decide_eq_true h1,by simpa using h2⟩).symm rfl
  ·rintro ρ z2 ⟨rfl,l,G,o4,o5,o6,o7,e1,hl1,hG,e2,rfl⟩;cases l with
   |cons n l=>cases e1
   |nil=>exact⟨rfl,G,_,_,_,_,hG,by rw[show G=rnd ps lot F from e2];exact e,rfl⟩
 ·rintro ρ z1 ⟨rfl,F,o4,o5,o6,o7,hF,e,rfl⟩;have len:=p40 hF;have e:F=x20 ps lot m.toNat [p0]:=e;refine(a00 (F40 (l:=F) ∅) ?_ :)
  rw[← e];exact sd rfl
theorem V20(k:Nat)(g:d80 m ps)(hp:g00 m pl)(hl:∀ n∈lot,n < ps.length)(z:Z):b90 T (k + 4) E60 [.d (j20 m ps),.d (.tup (lot.map a40)),.d (.tup (pl.map a40))] z=some (.ok (.d (.bl (q90 ps m.toNat pl lot))) z):=by
 have hlen:=hp.len g.m6;refine W.ok (j40 (ps:=3) (ns:=4) (b:=s50) rfl rfl (-0) ?_)
 refine(a00 (U71 hp.ne) ?_ :);refine Wo (b41 k g hl hp.p0 z) ?_;refine ip (by rw[È];simp only[most];omega) (f92 (λx=>!decide (O81 x∈x20 ps lot m.toNat [pl.getD 0 0])) (λx=>x) (λy hy=>?_) ?_)
 ·obtain⟨p,hp',rfl⟩:=Ù.mp hy;refine(a00 (N70 (n:=p) (l:=F20 (x20 ps lot m.toNat [pl.getD 0 0]))) ?_ :);refine⟨?_,rfl,λ_=>⟨rfl,rfl⟩⟩;rw[show decide (p∈F20 (x20 ps lot m.toNat [pl.getD 0 0]))=decide (O81 (a40 p)∈x20 ps lot m.toNat [pl.getD 0 0]) from by
   rw[Í7,decide_eq_true_eq,decide_eq_true_eq,(l60 _).mem_iff];rfl]
 ·rw[map_id',List.filter_map];refine(a00 (g82 (A00 _)) ?_ :);refine sb ?_;rw[Í7,← D31 g hp hl,List.isEmpty_map,Ì9,Ç2];constructor
  ·intro h p hpp;have h1:¬ (!decide (p∈x20 ps lot m.toNat [pl.getD 0 0]))=true:=h p hpp;simpa using h1
  ·intro h p hpp;show ¬ (!decide (p∈x20 ps lot m.toNat [pl.getD 0 0]))=true;simpa using h p hpp
theorem V30(k:Nat)(h8:ts.length<=8)(z:Z):b90 T (k + 3) E70 [.d (.tup [.int m,.tup ts])] z=some (.ok (.fr ((s80 ts.length).map r30)) z):=h61 rfl k h8 z
end
theorem V40:∀ {a b:List D},e40 (a++b)=(e40 a&&e40 b)
 |[],b=>rfl
 |x::a,b=>by
  show(m00 x&&e40 (a++b))=((m00 x&&e40 a)&&e40 b);rw[V40,Bool.and_assoc]
theorem V50:∀ {a b:List D},e90 (a++b)=Ï0 (e90 a) (e90 b)
 |[],b=>(Nat.zero_max _).symm
 |x::a,b=>by
  show Ï0 (deep x) (e90 (a++b))=Ï0 (Ï0 (deep x) (e90 a)) (e90 b);rw[V50];exact(Nat.max_assoc _ _ _).symm
theorem i31{a b:List D}(ha:F90 a=true)(hb:F90 b=true):F90 (a++b)=true:=by
 unfold F90 at ha hb ⊢;rw[Á,decide_eq_true_eq] at ha hb ⊢;rw[V40,V50,ha.1,hb.1];exact⟨rfl,Ø8.mpr ⟨ha.2,hb.2⟩⟩
theorem L12{l:List D}(h:F90 l=true):okD (.tup l)=true:=by
 unfold F90 at h;unfold okD;rw[Á,decide_eq_true_eq] at h ⊢;exact⟨h.1,by show e90 l + 1<=40;omega⟩
theorem O91{x:D}(h:m00 x=true)(h2:deep x<=39):F90 [x]=true:=by
 unfold F90;rw[Á,decide_eq_true_eq];refine⟨by show(m00 x&&true)=true;rw[h];rfl,?_⟩
 show Ï0 (deep x) 0<=39;exact Ø8.mpr ⟨h2,by omega⟩
theorem N80(k:Nat)(x:D)(z:Z):b90 T (k + 3) x90 [.d x] z=some (.ok (.d (.bl (p10 x))) z):=by
 refine W.ok (j40 (ps:=1) (ns:=1) (b:=p00) rfl rfl (-0) ?_)
 cases x with
 |_=>exact sd rfl
theorem D41(h:p10 x=true):∃ i,x=.int i:=by
 cases x with
 |int i=>exact⟨i,rfl⟩|_=>cases h
theorem F50(c:D->Bool):∀ {l:List D},F90 l=true->F90 (l.filter c)=true:=λ{l} h=>by
 unfold F90 at h ⊢;rw[Á,decide_eq_true_eq] at h ⊢
 induction l with
 |nil=>exact h
 |cons x r ih =>
  have h1:(m00 x&&e40 r)=true:=h.1;have h2:Ï0 (deep x) (e90 r)<=39:=h.2;rw[Á] at h1;rw[Ø8] at h2;have ih:=ih ⟨h1.2,h2.2⟩;rw[Õ6];split
  ·refine⟨?_,?_⟩
   ·show(m00 x&&e40 (r.filter c))=true;rw[h1.1,ih.1];rfl
   ·show Ï0 (deep x) (e90 (r.filter c))<=39;exact Ø8.mpr ⟨h2.1,ih.2⟩
  ·exact ih
theorem y12(h:F90 l=true):okD (.lst l)=true:=L12 h
def P01:D->Bool
 |.tup l=>F90 l&&decide (l.length<=1000)|_=>true
theorem m61(h:P01 x=true):short x=true:=by
 cases x with
 |tup l =>
  unfold P01 at h;rw[Á] at h;exact h.2
 |_=>rfl
theorem w00:∀ {l:List D},(∀ x∈l,p10 x=true)->∃ ns:List Int,l=ns.map D.int
 |[],_=>⟨[],rfl⟩
 |x::r,h=>by
  obtain⟨i,rfl⟩:=D41 (h x Ì);obtain⟨ns,rfl⟩:=w00 λy hy=>h y (Ê _ hy);exact⟨i::ns,rfl⟩
theorem D51:∀ {ns:List Int},(∀ x∈ns,0<=x)->∃ l:List Nat,ns.map D.int=l.map a40
 |[],_=>⟨[],rfl⟩
 |x::r,h=>by
  obtain⟨i,rfl⟩:=Æ9 (h x Ì);obtain⟨l,e⟩:=D51 λy hy=>h y (Ê _ hy);exact⟨i::l,by rw[Å6,Å6,e];rfl⟩
theorem I20:∀ {l:List Nat},(∀ x∈l,x < 8)->C40 (l.map a40)=some l
 |[],_=>rfl
 |x::r,h=>by
  have hx:=h x Ì;show(if 0<=(x:Int)/\(x:Int) < 8 then(C40 (r.map a40)).map ((x:Int).toNat::·) else none)=_;rw[if_pos ∅,I20 λy hy=>h y (Ê _ hy),À1];rfl
def dedup(l:List Nat):List Nat:=(ð 8).filter λi=>l.contains i
theorem P11(h:∀ x∈l,x < 8)(hu:l.Pairwise (· < ·)):dedup l=l:=by
 have h2:(dedup l).Pairwise (· < ·):=Ë3 _ È5;refine È8 (le:=λa b=>a < b) (λa b _ _ h1 h2=>by omega) h2 hu ?_
 refine(Ý9 (h2.imp λh=>by omega) (hu.imp λh=>by omega)).mpr λx=>?_
 unfold dedup;rw[mem_filter,mem_range];constructor
 ·exact λhx=>by simpa using hx.2
 ·exact λhx=>⟨h x hx,by simpa using hx⟩
theorem V60:∀ {l:List Nat},R10 (l.map a40) (l.map a40)=true
 |[]=>rfl
 |x::r=>by
  show((x:Int) == (x:Int)&&R10 (r.map a40) (r.map a40))=true;rw[beq_self_eq_true,V60];rfl
theorem V31:∀ {l:List Nat},U40 (l.map a40)=true->l.Pairwise (· < ·)
 |[],_=>.nil|[_],_=>.cons (λ_ h=>nomatch h) .nil
 |x::y::r,h=>by
  have h:(decide ((x:Int) < y)&&U40 ((y::r).map a40))=true:=h;rw[Á,decide_eq_true_eq] at h;have ih:=V31 (l:=y::r) h.2;refine .cons (λz hz=>?_) ih;rcases ó.mp hz with rfl | hz
  ·omega
  ·have:=(Ç1.mp ih).1 z hz;omega
theorem P21(k:Nat)(m6:m<=6)(h:P01 x=true)(z:Z):∃ b,b90 T (k + 4) m50 [.d (.int m),.d x] z=some (.ok (.d (.bl b)) z)/\(b=false->B71 m x=false)/\(b=true->∃ l,x=.tup l):=by
 have no:∀ {x:D},(∀ l,x≠.tup l)->R71 .tuple x=false->∃ b,b90 T (k + 4) m50 [.d (.int m),.d x] z=some (.ok (.d (.bl b)) z)/\(b=false->B71 m x=false)/\(b=true->∃ l,x=.tup l):=λ{x} h1 h2=>by
  refine⟨false,W.ok (j40 (ps:=2) (ns:=2) (b:=e50) rfl rfl (-0) ?_),λ_=>?_,λh=>nomatch h⟩
  ·refine it (b:=!R71 .tuple x) (by rw[h2];rfl) ?_
   exact sd rfl
  ·cases x with
   |tup l=>exact absurd rfl (h1 l)|_=>rfl
 cases x with
 |tup l =>
  unfold P01 at h;rw[Á,decide_eq_true_eq] at h;by_cases hw:(l.filter λx=>!p10 x)=[]
  ·have hw':∀ x∈l,p10 x=true:=λx hx=>by
    have:=Ç2.mp hw x hx;simpa using this
   obtain⟨ns,rfl⟩:=w00 hw';by_cases hr:((ns.map D.int).filter λx=>!b80 x m)=[]
   ·have hr':∀ x∈ns,0<=x/\x < m:=λx hx=>by
     have:=Ç2.mp hr _ (Ù.mpr ⟨x,hx,rfl⟩);unfold b80 at this;simpa using this
    obtain⟨ps,e⟩:=D51 λx hx=>(hr' x hx).1;have hlt:∀ p∈ps,p < 8:=λp hp=>by
     have:a40 p∈ns.map D.int:=by rw[e];exact Ù.mpr ⟨p,hp,rfl⟩
     obtain⟨i,hi,e2⟩:=Ù.mp this;have h1:=hr' i hi;have e3:i=(p:Int):=by injection e2
     omega
    refine⟨R10 (ps.map a40) ((dedup ps).map a40),W.ok (j40 (ps:=2) (ns:=2) (b:=e50) rfl rfl (-0) ?_),λhb=>?_,λ_=>⟨_,rfl⟩⟩
    ·refine ip (p20 h.2) (f92 (λx=>!p10 x) (λx=>x) (λx hx=>?_) ?_)
     ·exact Wo (N80 k x z) ⟨rfl,rfl,λ_=>⟨rfl,rfl⟩⟩
     ·rw[hw];refine ip (p20 h.2) (f92 (λx=>!b80 x m) (λx=>x) (λx hx=>?_) ?_)
      ·obtain⟨i,hi,rfl⟩:=Ù.mp hx;have h1:=hr' i hi;refine it (b:=decide ((0:Int)<=i)) (decide_eq_true h1.1) ?_;refine⟨?_,rfl,λ_=>⟨rfl,rfl⟩⟩;show S.d (.bl (!decide (i < m)))=S.d (.bl (!(decide (0<=i)&&decide (i < m))));rw[decide_eq_true h1.1];rfl
      ·rw[hr,e];refine(a00 (o:=Option.bind (k71 (.tup (ps.map a40))) λl=>(C40 l).map λns=>S.fr (((ð 8).filter λi=>ns.contains i).map λ(n:Nat)=>.int n)) (a:=.fr ((dedup ps).map a40)) (by show(C40 (ps.map a40)).map _=_;rw[I20 hlt];rfl) ?_ :)
       refine(a00 (o:=eqQ (.lst (ps.map a40)) (.lst ((dedup ps).map a40))) (a:=R10 (ps.map a40) ((dedup ps).map a40)) (by unfold eqQ;rw[A00,A00];rfl) ?_ :)
       exact sd rfl
    ·cases hp:B71 m (.tup (ns.map D.int)) with
     |false=>rfl
     |true =>
      exfalso;rw[e] at hp;unfold B71 at hp;rw[Á,Á] at hp;have up:=V31 hp.1.2;rw[P11 hlt up,V60] at hb;cases hb
   ·refine⟨false,W.ok (j40 (ps:=2) (ns:=2) (b:=e50) rfl rfl (-0) ?_),λ_=>?_,λh=>nomatch h⟩
    ·refine ip (p20 h.2) (f92 (λx=>!p10 x) (λx=>x) (λx hx=>?_) ?_)
     ·exact Wo (N80 k x z) ⟨rfl,rfl,λ_=>⟨rfl,rfl⟩⟩
     ·rw[hw];refine ip (p20 h.2) (f92 (λx=>!b80 x m) (λx=>x) (λx hx=>?_) ?_)
      ·obtain⟨i,hi,rfl⟩:=Ù.mp hx;refine ib (b:=decide ((0:Int)<=i)) (λh1=>?_) λh1=>?_
       ·refine⟨?_,rfl,λ_=>⟨rfl,rfl⟩⟩;show S.d (.bl (!decide (i < m)))=S.d (.bl (!(decide (0<=i)&&decide (i < m))));rw[h1];rfl
       ·refine⟨?_,rfl,λ_=>⟨rfl,rfl⟩⟩;show S.d (.bl (!false))=S.d (.bl (!(decide (0<=i)&&decide (i < m))));rw[h1];rfl
      ·rw[map_id'];refine(a00 (ne_nil (y12 (F50 _ h.1))) ?_ :);refine it (b:=!((ns.map D.int).filter λx=>!b80 x m).isEmpty) ?_ ?_
       ·cases hh:(ns.map D.int).filter λx=>!b80 x m with
        |nil=>exact absurd hh hr|cons _ _=>rfl
       ·exact sd rfl
    ·show((ns.map D.int).all (λx=>b80 x m)&&U40 (ns.map D.int)&&!(ns.map D.int).isEmpty)=false;have:(ns.map D.int).all (λx=>b80 x m)=false:=by
      cases ha:(ns.map D.int).all (λx=>b80 x m) with
      |false=>rfl|true=>exact absurd (Ç2.mpr λx hx=>by rw[Ú.mp ha x hx];decide) hr
     rw[this];rfl
  ·refine⟨false,W.ok (j40 (ps:=2) (ns:=2) (b:=e50) rfl rfl (-0) ?_),λ_=>?_,λh=>nomatch h⟩
   ·refine ip (p20 h.2) (f92 (λx=>!p10 x) (λx=>x) (λx hx=>?_) ?_)
    ·exact Wo (N80 k x z) ⟨rfl,rfl,λ_=>⟨rfl,rfl⟩⟩
    ·rw[map_id'];refine(a00 (ne_nil (y12 (F50 _ h.1))) ?_ :);refine it (b:=!(l.filter λx=>!p10 x).isEmpty) ?_ ?_
     ·cases hh:l.filter λx=>!p10 x with
      |nil=>exact absurd hh hw|cons _ _=>rfl
     ·exact sd rfl
   ·show(l.all (λx=>b80 x m)&&U40 l&&!l.isEmpty)=false;have:l.all (λx=>b80 x m)=false:=by
     cases ha:l.all (λx=>b80 x m) with
     |false=>rfl
     |true=>exact absurd (Ç2.mpr λx hx=>by
       obtain⟨i,rfl,_⟩:=j10 (Ú.mp ha x hx);exact λh=>nomatch h) hw
    rw[this];rfl
 |_=>exact no (λl h=>nomatch h) rfl
theorem A30(l:List Nat)(lo hi:Option Int):∃ l':List Nat,cutD (l.map a40) lo hi=l'.map a40/\l'.length<=l.length:=by
 unfold cutD;refine⟨(l.drop _).take _,by rw[← List.map_drop,← List.map_take],?_⟩
 rw[Æ3,Í5];omega
theorem b51{a b:List Nat}(ha:a.length<=10)(hb:b.length<=10)(hx:(m00 x&&decide (deep x<=39))=true):P01 (.tup (a.map a40++[x]++b.map a40))=true:=by
 rw[Á,decide_eq_true_eq] at hx;show(F90 (a.map a40++[x]++b.map a40)&&decide ((a.map a40++[x]++b.map a40).length<=1000))=true;rw[i31 (i31 (u70 a) (O91 hx.1 hx.2)) (u70 b)];refine decide_eq_true ?_;rw[À5,U21,È,È];omega
theorem N90{a:List Nat}(ha:a.length<=100):P01 (.tup (a.map a40))=true:=by
 show(F90 (a.map a40)&&decide ((a.map a40).length<=1000))=true;rw[u70 a];exact decide_eq_true (by rw[È];omega)
theorem D61(l:List Nat):(m00 (.tup (l.map a40))&&decide (deep (.tup (l.map a40))<=39))=true:=by
 have e:l.map a40=(l.map λ(n:Nat)=>(n:Int)).map D.int:=by rw[ï];rfl
 obtain⟨h1,h2⟩:=M90 (l.map λ(n:Nat)=>(n:Int));show(e40 (l.map a40)&&decide (e90 (l.map a40) + 1<=39))=true;rw[e,h1,h2];rfl
theorem O00(k:Nat){m:Int}(m1:1<=m)(m6:m<=6){pl:List Nat}(hl:pl.length<=6)(hz:ZI z):W (b90 T (k + 4) j90 [.z,.d (.int m),.d (.tup (pl.map a40))]) z (λs z1=>ZI z1/\∃ x,s=.d x/\P01 x=true) NE:=by
 have hll:(pl.map a40).length=pl.length:=È _;refine i32 hz (ps:=3) (ns:=6) (b:=f60) rfl rfl (-0) ?_
 refine(f20 k (((pl.map a40).length:Int) + 1) hz ∅ ∅).imp λs z1 ⟨hz1,a,e,a1⟩=>?_
 subst e;refine(f20 k (m + 1) hz1 ∅ ∅).imp λs z2 ⟨hz2,w,e,w1⟩=>?_
 subst e;refine(f20 k 10 hz2 (-0) (-0)).imp λs z3 ⟨hz3,v,e,v1⟩=>?_
 subst e;refine(g42 (n:=v) (λx=>m00 x&&decide (deep x<=39)) ?_ ?_ ?_ :)
 ·show v < 10;omega
 ·have hs:(m00 (.str "0")&&decide (deep (.str "0")<=39))=true:=by decide +kernel
  show List.all [D.int w,.int m,.int (-1),.bl true,.non,.str "0",.tup [.int 0],.bl false,.int ((10:Int) ^ (29:Int).toNat),.int 0] (λx=>m00 x&&decide (deep x<=39))=true;refine Ú.mpr λy hy=>?_;simp only[Ã1,À6,or_false] at hy;rcases hy with rfl | rfl | rfl | rfl | rfl | rfl | rfl | rfl | rfl | rfl
  ·rfl
  ·rfl
  ·rfl
  ·rfl
  ·rfl
  ·exact hs
  ·rfl
  ·rfl
  ·rfl
  ·rfl
 ·intro x hx;obtain⟨l1,e1,c1⟩:=A30 pl none (some (a:Int));obtain⟨l2,e2,c2⟩:=A30 pl (some (a:Int)) none;obtain⟨l3,e3,c3⟩:=A30 pl (some ((a:Int) + 1)) none;obtain⟨l4,e4,c4⟩:=A30 pl (some (-1)) none;have t1:G00 .add (.tup (cutD (pl.map a40) none (some (a:Int)))) (.tup [x])=some (.d (.tup (l1.map a40++[x]))):=by rw[e1];exact m51 (by rw[È];show _ + 1<=_;omega)
  refine(a00 t1 ?_ :);refine(a00 (show G00 .add (.tup (l1.map a40++[x])) (.tup (cutD (pl.map a40) (some (a:Int)) none))=some (.d (.tup (l1.map a40++[x]++l2.map a40))) from by rw[e2];exact m51 (by rw[U21,È,È];omega)) ?_ :)
  refine(a00 t1 ?_ :);refine(a00 (show G00 .add (.tup (l1.map a40++[x])) (.tup (cutD (pl.map a40) (some ((a:Int) + 1)) none))=some (.d (.tup (l1.map a40++[x]++l3.map a40))) from by rw[e3];exact m51 (by rw[U21,È,È];omega)) ?_ :)
  refine(a00 (show G00 .add (.tup (cutD (pl.map a40) none (some (a:Int)))) (.tup (cutD (pl.map a40) (some ((a:Int) + 1)) none))=some (.d (.tup (l1.map a40++l3.map a40))) from by rw[e1,e3];exact m51 (by rw[È,È];omega)) ?_ :)
  refine(a00 (show G00 .add (.tup (pl.map a40)) (.tup (cutD (pl.map a40) (some (-1)) none))=some (.d (.tup (pl.map a40++l4.map a40))) from by rw[e4];exact m51 (by rw[È,È];omega)) ?_ :)
  refine(f20 k 11 hz3 (-0) (-0)).imp λs z4 ⟨hz4,u,e,u1⟩=>?_
  subst e;refine(g42 (L:=[.tup (l1.map a40++[x]++l2.map a40),.tup (l1.map a40++[x]++l3.map a40),.tup (l1.map a40++l3.map a40),.lst (pl.map a40),.tup (pl.map a40).reverse,.tup (pl.map a40++l4.map a40),.non,.dct,.int 0,.tup [.tup (pl.map a40)],.tup []]) (n:=u) P01 ?_ ?_ ?_ :)
  ·show u < 11;omega
  ·rw[← Ä7,← Ä7,← List.map_reverse];simp only[Ä5,all_nil,Ö3,Á];refine⟨b51 ∅ ∅ hx,b51 ∅ ∅ hx,N90 (by rw[À5];omega),rfl,N90 (by rw[Ð6];omega),N90 (by rw[À5];omega),rfl,rfl,rfl,b51 (a:=[]) (b:=[]) (-0) (-0) (D61 pl),rfl⟩
  ·exact λy hy=>⟨hz4,y,rfl,hy⟩
theorem q60(h:K31 ρ capt=some ss)(he:WE (Q.z50 F) a (ss.map some) z (λ_ _=>False) (λd z2=>d=c/\z2=z))(hc:c < 12)(hr:o40 F ρ r z=some (cs,z)):o40 F ρ ((capt,a)::r) z=some (c::cs,z):=by
 have e:=W.er (c50.mp he);unfold o40;rw[h];show(match ev (Q.z50 F) a (ss.map some) z with | some (.er c z1)=>if c < 12 then(o40 F ρ r z1).map λ(p:List Nat × Z)=>(c::p.1,p.2) else none | _=>none)=_
 rw[e];show(if c < 12 then(o40 F ρ r z).map λ(p:List Nat × Z)=>(c::p.1,p.2) else none)=_;rw[if_pos hc,hr];rfl
theorem D71(h:o40 F ρ ls z=some (cs,z))(he:WE F e ρ z (λl z1=>Get (pl l) λd=>z1=z/\s90 .ne (.lst (cs.map K41)) d=some false) NE)(hr:WS F tp r ρ z Q E):W (C60 F ls e (ex F tp t) (ex F tp r) ρ) z Q E:=by
 obtain⟨l,e1,e2⟩:=c50.mp he;cases l with
 |er c z1=>exact e2.elim
 |ok l z1 =>
  obtain⟨d,e3,rfl,e4⟩:=i70 (show Get (pl l) _ from e2);obtain⟨o,e5,e6⟩:=E30.mp hr;refine⟨o,?_,e6⟩;unfold C60;rw[h];show M.bind (ev F e ρ) _ z1=some o;simp only[M.bind,e1,M.of,e3,M.ret,e4];exact e5
theorem y22(il:i < ρ.length)(h:o40 F (ρ.set i none) ls z=some (cs,z))(he:WE F e (ρ.set i none) z (λl z1=>Get (pl l) λd=>z1=z/\s90 .ne (.lst (cs.map K41)) d=some false) NE)(hr:WS F tp r (ρ.set i none) z Q E):WS F tp (.lams i ls none e t r) ρ z Q E:=by
 show W (if i < ρ.length then C60 F ls e (ex F tp t) (ex F tp r) (ρ.set i none) else M.no) z Q E;rw[if_pos il];exact D71 h he hr
theorem D81(b:Bool)(il:i < ρ.length)(jl:j < ρ.length)(ha:WE F a (ρ.set i none) z (λl z1=>Get ((pl l).bind asB) λc=>c=b/\z1=z) NE)
  (ht:b=true->∃ cs,o40 F ((ρ.set i none).set j (some (.d (.bl true)))) ls z=some (cs,z)/\WE F e ((ρ.set i none).set j (some (.d (.bl true)))) z (λl z1=>Get (pl l) λd=>z1=z/\s90 .ne (.lst (cs.map K41)) d=some false) NE) (hr:WS F tp r ((ρ.set i none).set j (some (.d (.bl b)))) z Q E):WS F tp (.lams i ls (some (j,a)) e t r) ρ z Q E:=by
 show W (if i < ρ.length then(if j < (ρ.set i none).length then M.bind (ev F a (ρ.set i none)) (λl=>M.bind (M.of ((pl l).bind asB)) λb=>if b then C60 F ls e (ex F tp t) (ex F tp r) ((ρ.set i none).set j (some (.d (.bl b)))) else ex F tp r ((ρ.set i none).set j (some (.d (.bl b))))) else M.no) else M.no) z Q E;rw[if_pos il,if_pos (by rw[Â0];exact jl),n50]
 refine(c50.mp ha).imp λl z1 h=>?_;obtain⟨c,e1,rfl,rfl⟩:=i70 h;refine(wG (K:=λb=>W (if b=true then C60 F ls e (ex F tp t) (ex F tp r) ((ρ.set i none).set j (some (.d (.bl b)))) else ex F tp r ((ρ.set i none).set j (some (.d (.bl b))))) z1 Q E) λb=>Ó9).mp (a00 e1 ?_);cases c with
 |true =>
  rw[if_pos rfl];obtain⟨cs,h1,h2⟩:=ht rfl;exact D71 h1 h2 hr
 |false =>
  rw[if_neg Ï];exact E30.mp hr
theorem b61(n:Nat)(f:Nat->Int):fl n f=((ð n).map f).map D.int:=by unfold fl;rw[ï];rfl
theorem V41(n:Nat)(f:Nat->Int):okD (.lst (fl n f))=true:=by rw[b61];exact T80 _
theorem y32(n n':Nat)(f f':Nat->Int):s90 .eq (.lst (fl n f)) (.lst (fl n' f'))=some (R10 (fl n f) (fl n' f')):=by
 show eqQ _ _=_;unfold eqQ;rw[V41,V41];rfl
theorem V70:∀ a b:List Int,R10 (a.map D.int) (b.map D.int)=R10 (b.map D.int) (a.map D.int)
 |[],[]=>rfl|[],_::_=>rfl|_::_,[]=>rfl
 |x::r,y::q=>by
  show(x == y&&R10 (r.map D.int) (q.map D.int))=(y == x&&R10 (q.map D.int) (r.map D.int));rw[V70 r q,Bool.beq_comm]
theorem m71(n n':Nat)(f f':Nat->Int):R10 (fl n f) (fl n' f')=R10 (fl n' f') (fl n f):=by rw[b61,b61];exact V70 _ _
theorem D91(k:Nat):∀ l:List Nat,l.Pairwise (·<=·)->(V21 k l).Pairwise (·<=·)
 |[],_=>.cons (λ_ h=>nomatch h) .nil
 |y::r,h=>by
  obtain⟨h1,h2⟩:=Ç1.mp h;unfold V21;split
  ·refine .cons (λx hx=>?_) (D91 k r h2);rcases ó.mp ((F30 k r).mem_iff.mp hx) with rfl | hx
   ·omega
   ·exact h1 x hx
  ·refine .cons (λx hx=>?_) h;rcases ó.mp hx with rfl | hx
   ·omega
   ·have:=h1 x hx;omega
theorem i41:∀ l:List Nat,(F20 l).Pairwise (·<=·)
 |[]=>.nil|k::r=>D91 k _ (i41 r)
theorem P31(h:l.Nodup):(F20 l).Pairwise (· < ·):=by
 have h1:=i41 l;have h2:(F20 l).Nodup:=(l60 l).nodup_iff.mpr h;exact(h1.and h2).imp λ⟨a,b⟩=>by omega
section
variable {m m':Int}{ps ps':List (Int × Int)}{pl pl':List Nat}
theorem V80(k:Nat)(g:d80 m ps)(hp:g00 m pl)(g':d80 m' ps')(hp':g00 m' pl')(z:Z):b90 T (k + 11) c70 [.d (j20 m ps),.d (.tup (pl.map a40)),.d (j20 m' ps'),.d (.tup (pl'.map a40))] z=some (.ok (.d (.bl (R10 (fl (ps.length + 1) (n21 m ps pl)) (fl (ps'.length + 1) (n21 m' ps' pl'))))) z):=by
 refine W.ok (j40 (ps:=4) (ns:=4) (b:=f10) rfl rfl (-0) (Wo (N60 (k + 1) g hp g' hp' z) (Wo (F10 k g hp z) (Wo (F10 k g' hp' z) ?_))))
 refine(a00 (y32 _ _ _ _) ?_ :);exact sd rfl
theorem h32(k:Nat)(hw:l91 w=false)(z:Z):b90 T (k + 11) c70 [.d w,.d y,.d w',.d y'] z=some (.er 0 z) :=
 W.er (j40 (ps:=4) (ns:=4) (b:=f10) rfl rfl (-0) (We (W.er (j40 (k:=k + 7) (ps:=4) (ns:=4) (b:=e20) rfl rfl (-0) (We (p30 (k + 1) z hw) ⟨rfl,c40 z⟩))) ⟨rfl,c40 z⟩))
theorem P41(k:Nat)(g:d80 m ps)(hw:l91 w'=false)(z:Z):b90 T (k + 11) c70 [.d (j20 m ps),.d y,.d w',.d y'] z=some (.er 0 z) :=
 W.er (j40 (ps:=4) (ns:=4) (b:=f10) rfl rfl (-0) (We (W.er (j40 (k:=k + 7) (ps:=4) (ns:=4) (b:=e20) rfl rfl (-0) (Wo (c90 (k + 1) z g.web) (We (p30 (k + 1) z hw) ⟨rfl,c40 z⟩)))) ⟨rfl,c40 z⟩))
theorem h42(k:Nat)(g:d80 m ps)(g':d80 m' ps')(hy:B71 m y=false)(hs:short y=true)(z:Z):b90 T (k + 11) c70 [.d (j20 m ps),.d y,.d (j20 m' ps'),.d y'] z=some (.er 2 z) :=
 W.er (j40 (ps:=4) (ns:=4) (b:=f10) rfl rfl (-0) (We (W.er (j40 (k:=k + 7) (ps:=4) (ns:=4) (b:=e20) rfl rfl (-0) (Wo (c90 (k + 1) z g.web) (Wo (c90 (k + 1) z g'.web) (We (j30 (k + 3) (t:=.tup (ps.map pr)) z hy hs) ⟨rfl,c40 z⟩))))) ⟨rfl,c40 z⟩))
theorem P51(k:Nat)(g:d80 m ps)(hp:g00 m pl)(g':d80 m' ps')(hy:B71 m' y'=false)(hs:short y'=true)(z:Z):b90 T (k + 11) c70 [.d (j20 m ps),.d (.tup (pl.map a40)),.d (j20 m' ps'),.d y'] z=some (.er 2 z):=by
 have h6:=hp.len g.m6;exact W.er (j40 (ps:=4) (ns:=4) (b:=f10) rfl rfl (-0) (We (W.er (j40 (k:=k + 7) (ps:=4) (ns:=4) (b:=e20) rfl rfl (-0) (Wo (c90 (k + 1) z g.web) (Wo (c90 (k + 1) z g'.web) (Wo (f70 (k + 3) (t:=.tup (ps.map pr)) z hp.pls (decide_eq_true (by rw[È];omega))) (We (j30 (k + 3) (t:=.tup (ps'.map pr)) z hy hs) ⟨rfl,c40 z⟩)))))) ⟨rfl,c40 z⟩))
theorem u90(k:Nat)(g:d80 m ps)(hp:g00 m pl)(z:Z):b90 T (k + 5) m60 [.d (j20 m ps),.d (.tup (pl.map a40))] z=some (.ok (.fr (fl (ps.length + 1) (n21 m ps pl))) z):=by
 have h8:=g.len;refine W.ok (j40 (ps:=2) (ns:=4) (b:=m90) rfl rfl (-0) ?_)
 refine(a00 (U91 (i:=((ps.map pr).length:Int) + 1) (n:=ps.length + 1) (by rw[È];rfl) ∅) ?_ :)
 refine Wo (V30 (k + 1) (m:=m) (ts:=ps.map pr) (by rw[È];exact h8) z) ?_
 rw[È];refine G50 (λxs ρ z2=>z2=z/\∃ (rest:List (List Nat)) (f:Nat->Int) (o3:Option S),xs=rest.map r30/\(∀ l∈rest,l∈s80 ps.length)/\(∀ j,f j + cnt (rest.filter (q90 ps m.toNat pl)) j=n21 m ps pl j)/\ρ=[some (.d (j20 m ps)),some (.d (.tup (pl.map a40))),some (.fr (fl (ps.length + 1) f)),o3]) _ ⟨rfl,s80 ps.length,λ_=>0,_,rfl,λ_ h=>h,λj=>Ú2 _,(itE (l:=[.fr ((s80 ps.length).map r30)]) (by show(k40 ((s80 ps.length).map r30)&&true)=true;rw[x10];rfl)).trans rfl⟩ ?_ ?_
 ·rintro x r ρ z2 ⟨rfl,rest,f,o3,e,hr,hf,rfl⟩;cases rest with
  |nil=>cases e
  |cons l rest =>
   cases e;have hl:=hr l Ì;have hl0:l.length < ps.length + 1:=Ú0 (u60 ((u80 h8).mem_iff.mp hl));have el:((l.map a40).length:Int)=(l.length:Nat):=by rw[È]
   refine(a00 (o:=W10 (.lst (fl (ps.length + 1) f)) (.int ((l.map a40).length:Int))) (a:=.int (f l.length)) (by rw[el];exact x72 hl0) ?_ :)
   refine Wo (V20 k g hp (C21 h8 hl) z2) ?_;refine(a00 (o:=n40 (fl (ps.length + 1) f) ((l.map a40).length:Int) (.int (f l.length + if q90 ps m.toNat pl l=true then 1 else 0))) (a:=fl (ps.length + 1) λj=>if j=l.length then f l.length + (if q90 ps m.toNat pl l=true then 1 else 0) else f j) (by rw[el];exact U81 hl0) ?_ :)
   refine⟨rfl,rest,λj=>if j=l.length then f l.length + (if q90 ps m.toNat pl l=true then 1 else 0) else f j,_,rfl,λl' h'=>hr l' (Ê _ h'),λj=>?_,rfl⟩;have:=hf j;rw[Õ6] at this;show(if j=l.length then f l.length + (if q90 ps m.toNat pl l=true then 1 else 0) else f j) + cnt (rest.filter (q90 ps m.toNat pl)) j=n21 m ps pl j;by_cases hg:q90 ps m.toNat pl l=true
   ·rw[if_pos hg,cnt_cons] at this;rw[if_pos hg];by_cases e:j=l.length
    ·rw[if_pos e] at this;rw[if_pos e,← e];omega
    ·rw[if_neg e] at this;rw[if_neg e];omega
   ·rw[if_neg hg] at this;rw[if_neg hg];by_cases e:j=l.length
    ·rw[if_pos e,← e];omega
    ·rw[if_neg e];omega
 ·rintro ρ z2 ⟨rfl,rest,f,o3,e,hr,hf,rfl⟩;cases rest with
  |cons l rest=>cases e
  |nil =>
   refine sd ?_;rw[show f=n21 m ps pl from funext λj=>by rw[← hf j];exact(Int.add_zero _).symm]
abbrev otE(m:Int)(ps:List (Int × Int))(pl:List Nat)(o3 o4 o5:Option S):Env:=[some .z,some (.d (j20 m ps)),some (.d (.tup (pl.map a40))),o3,o4,o5]
theorem y42{qs:List (Int × Int)}{j:Nat}{q:Int × Int}(h:j < qs.length):n40 (qs.map pr) (j:Int) (pr q)=some ((qs.set j q).map pr):=by
 have hx:L2.ixN (qs.map pr).length (j:Int)=some j:=by
  rw[È];unfold L2.ixN;simp;omega
 unfold n40;rw[hx];show some ((qs.map pr).set j (pr q))=_;rw[← List.map_set]
def nmD(nm:List Nat):D->D
 |.tup [.int a,.int b]=>pr (((min (nm.getD a.toNat 0) (nm.getD b.toNat 0):Nat):Int),((max (nm.getD a.toNat 0) (nm.getD b.toNat 0):Nat):Int))|x=>x
def nmP(nm:List Nat)(p:Int × Int):Int × Int:=(((min (nm.getD p.1.toNat 0) (nm.getD p.2.toNat 0):Nat):Int),((max (nm.getD p.1.toNat 0) (nm.getD p.2.toNat 0):Nat):Int))
theorem b71{nm:List Nat}{a:Int}(h0:0<=a)(h:a.toNat < nm.length):W10 (.lst (nm.map a40)) (.int a)=some (a40 (nm.getD a.toNat 0)):=by
 obtain⟨n,rfl⟩:=Æ9 h0;rw[À1] at h ⊢;refine B11 ?_;rw[Ø,Ó h,Ò,Ó h];rfl
theorem E01{nm:List Nat}(nd:nm.Nodup){i j:Nat}(hi:i < nm.length)(hj:j < nm.length)(h:i≠j):nm.getD i 0≠nm.getD j 0:=by
 rw[Ò,Ó hi,Ò,Ó hj];exact λe=>h ((List.getElem_inj nd).mp e)
theorem F60{nm:List Nat}{i:Nat}(hi:i < nm.length):nm.getD i 0∈nm:=by
 rw[Ò,Ó hi];exact Æ4 hi
theorem E11(k:Nat)(g:d80 m ps)(hp:g00 m pl){nm:List Nat}(hl:nm.length=m.toNat)(nd:nm.Nodup)(hm:∀ x∈nm,(x:Int) < m){z:Z}(hz:ZI z){Q:O->Z->Prop}{E:Nat->Z->Prop}
  (q:∀ z qs l,ZI z->d80 m qs->g00 m l->Q (.rt (.d (.tup [j20 m qs,.tup (l.map a40)]))) z) :
  WS (O20 T (k + 3)) false (tl (tl (tl k20))) (otE m ps pl (some (.fr [])) (some (.fr (nm.map a40))) none) z Q E:=by
 have h8:=g.len;have h6:=hp.len g.m6;have m6:=g.m6;have tie:∀ p∈ps,p.1.toNat < nm.length/\p.2.toNat < nm.length/\0<=p.1/\p.1 < p.2:=λp hp=>by
  have:=g.tie p hp;omega
 have okq:∀ q∈ps.map (nmP nm),i42 m q:=λq hq=>by
  obtain⟨p,hp,rfl⟩:=Ù.mp hq;obtain⟨t1,t2,t3,t4⟩:=tie p hp;have n1:=hm _ (F60 t1);have n2:=hm _ (F60 t2);have n3:=E01 nd t1 t2 ∅
  show 0<=((min _ _:Nat):Int)/\((min _ _:Nat):Int) < ((max _ _:Nat):Int)/\((max _ _:Nat):Int) < m;omega
 refine(l81 (.fr ((ps.map (nmP nm)).map pr)) (otE m ps pl (some (.fr [])) (some (.fr (nm.map a40))) (some (.fr ((ps.map (nmP nm)).map pr)))) ?_ ?_ ?_ :)
 ·refine ip (by rw[È];exact p20 ∅) (A71 (nmD nm) (λx hx=>?_) ?_)
  ·obtain⟨p,hp,rfl⟩:=Ù.mp hx;obtain⟨t1,t2,t3,t4⟩:=tie p hp;refine(a00 (b71 t3 t1) ?_ :);refine(a00 (b71 (a:=p.2) ∅ t2) ?_ :)
   refine(a00 (I10 _ _) ?_ :);exact⟨rfl,rfl⟩
  ·rw[show(ps.map pr).map (nmD nm)=(ps.map (nmP nm)).map pr from by rw[ï,ï];rfl]
   exact⟨rfl,rfl⟩
 ·rw[g51 (show C70 (.fr ((ps.map (nmP nm)).map pr))=true from N10 _)];rfl
 refine A41 (λρ z1=>ZI z1/\∃ qs:List (Int × Int),ρ=otE m ps pl (some (.fr [])) (some (.fr (nm.map a40))) (some (.fr (qs.map pr)))/\(∀ q∈qs,i42 m q)/\qs.length<=8) ?_ ?_
 ·refine(a00 (ne_nil (g22 (ps.map (nmP nm)))) ?_ :);refine ib (b:=!((ps.map (nmP nm)).map pr).isEmpty) (λhb=>?_) λhb=>⟨hz,_,rfl,okq,by rw[È];exact h8⟩
  have m2:1 < m:=by
   cases hps:ps with
   |nil=>rw[hps] at hb;cases hb
   |cons p r =>
    have:=g.tie p (by rw[hps];exact Ì)
    omega
  refine(f20 k 3 hz (-0) (-0)).imp λs z1 ⟨hz1,v,e,v1⟩=>?_
  subst e;refine ib (b:=(v:Int) == 0) (λhv=>?_) λhv=>⟨hz1,_,rfl,okq,by rw[È];exact h8⟩
  refine(f20 k (m - 1) hz1 ∅ ∅).imp λs z2 ⟨hz2,u,e,u1⟩=>?_
  subst e;have hll:(((ps.map (nmP nm)).map pr).length:Int)=(ps.length:Nat):=by rw[È,È]
  have hpos:0 < ps.length:=by
   cases hps:ps with
   |nil=>rw[hps] at hb;cases hb
   |cons p r=>exact Nat.succ_pos _
  refine(f20 k (((ps.map (nmP nm)).map pr).length:Int) hz2 ∅ ∅).imp λs z3 ⟨hz3,j,e,j1⟩=>?_
  subst e;refine(a00 (y42 (qs:=ps.map (nmP nm)) (j:=j) (q:=(0,1 + (u:Int))) (by rw[È];omega)) ?_ :)
  refine⟨hz3,_,rfl,λq hq=>?_,by rw[Â0,È];exact h8⟩
  rcases List.mem_or_eq_of_mem_set hq with hq | rfl
  ·exact okq q hq
  ·show(0:Int)<=0/\(0:Int) < 1 + (u:Int)/\1 + (u:Int) < m;omega
 ·rintro ρ z1 ⟨hz1,qs,rfl,hq,hl8⟩;refine(a00 (U10 (l:=qs) ∅) ?_ :)
  refine ip (by rw[È];exact p20 ∅) (A71 (λx=>a40 (nm.getD (O81 x) 0)) (λx hx=>?_) ?_)
  ·obtain⟨p,hp',rfl⟩:=Ù.mp hx;have:=hp.lt p hp';refine(a00 (b71 (nm:=nm) (a:=(p:Int)) ∅ (by rw[À1];omega)) ?_ :)
   exact⟨rfl,rfl⟩
  ·rw[ï,show((λx=>a40 (nm.getD (O81 x) 0)) ∘ a40)=(a40 ∘ λp=>nm.getD p 0) from funext λp=>by show a40 (nm.getD (p:Int).toNat 0)=_;rw[À1];rfl,← ï]
   refine(a00 (F40 (l:=pl.map λp=>nm.getD p 0) (by rw[È];omega)) ?_ :)
   have hperm:=x00 qs;have hlen:=hperm.length_eq;refine q z1 (a51 qs) (F20 (pl.map λp=>nm.getD p 0)) hz1 ⟨g.m1,g.m6,by omega,λp hp=>hq p (hperm.mem_iff.mp hp),N00 _⟩ ⟨λe=>?_,P31 ?_,λp hp'=>?_⟩
   ·have:=(l60 (pl.map λp=>nm.getD p 0)).length_eq;rw[e,È] at this;exact hp.ne (Ü0 this.symm)
   ·refine Ñ4.mpr (hp.up.imp_of_mem λ{a b} ha hb h=>?_);have:=hp.lt a ha;have:=hp.lt b hb;exact E01 nd ∅ ∅ ∅
   ·obtain⟨i,hi,rfl⟩:=Ù.mp ((l60 _).mem_iff.mp hp');have:=hp.lt i hi;exact hm _ (F60 ∅)
theorem b81(k:Nat)(g:d80 m ps)(hp:g00 m pl)(hz:ZI z):W (b90 T (k + 4) y00 [.z,.d (j20 m ps),.d (.tup (pl.map a40))]) z (λs z1=>ZI z1/\∃ qs l,s=.d (.tup [j20 m qs,.tup (l.map a40)])/\d80 m qs/\g00 m l) NE:=by
 have m0:=g.m1;have m1:=g.m6;refine i32 hz (ps:=3) (ns:=6) (b:=k20) rfl rfl (-0) ?_
 refine(a00 (o:=lrD [.int m]) (M80 ∅ ∅) ?_ :)
 refine(l81 (.fr []) (otE m ps pl (some (.fr ((ð m.toNat).map a40))) (some (.fr [])) none) ?_ ?_ ?_ :)
 ·exact⟨rfl,rfl⟩
 ·rfl
 refine A41 (λρ z1=>ZI z1/\∃ nm:List Nat,ρ=otE m ps pl (some (.fr [])) (some (.fr (nm.map a40))) none/\nm.length=m.toNat/\nm.Nodup/\∀ x∈nm,(x:Int) < m) ?_ ?_
 ·refine K62 (λn ρ z1=>ZI z1/\∃ left found:List Nat,ρ=otE m ps pl (some (.fr (left.map a40))) (some (.fr (found.map a40))) none/\n=left.length/\(left++found).Nodup/\(∀ x∈left++found,(x:Int) < m)/\left.length + found.length=m.toNat) m.toNat ?_ (by show m.toNat < 20000;omega) ?_
  ·refine⟨hz,ð m.toNat,[],rfl,by simp,?_,?_,by simp⟩
   ·rw[Ë4];exact List.nodup_range
   ·intro x hx;rw[Ë4] at hx;have:=Ä2.mp hx;omega
  ·rintro n ρ z1 ⟨hz1,left,found,rfl,rfl,nd,hm,hl⟩;refine(a00 (ne_nil (A00 left)) ?_ :);cases left with
   |nil=>exact⟨hz1,found,rfl,by simpa using hl,by simpa using nd,λx hx=>hm x (by simpa using hx)⟩
   |cons x r =>
    have hl2:r.length + 1 + found.length=m.toNat:=by simpa using hl
    refine(f20 k (((x::r).map a40).length:Int) hz1 (by simp only[È,Û];omega) (by simp only[È,Û];omega)).imp λs z2 ⟨hz2,j,e,v1⟩=>?_
    subst e;have hj:j < (x::r).length:=by simp only[È] at v1;omega
    have hget:((x::r).map a40)[j]?=some (a40 ((x::r)[j])):=by rw[Ø,Ó hj];rfl
    have ha:t81 (otE m ps pl (some (.fr ((x::r).map a40))) (some (.fr (found.map a40))) none) 4 3 (found.map a40) ((x::r).map a40) j=some (.nx (otE m ps pl (some (.fr (((x::r).map a40).eraseIdx j))) (some (.fr (found.map a40++[a40 ((x::r)[j])]))) none)):=by
     unfold t81;rw[if_pos ⟨by decide,by omega,C50.mpr (by simp only[Û] at hj;omega),by rw[È];simp only[most];omega⟩,À1,hget]
     rfl
    refine a00 (o:=(Q.pl [S.d (.int j)]).bind asI) (a:=(j:Int)) rfl (a00 ha ?_);refine⟨((x::r).eraseIdx j).length,?_,hz2,(x::r).eraseIdx j,found++[(x::r)[j]],?_,rfl,?_,?_,?_⟩
    ·rw[Ï4 hj];simp
    ·rw[y10,Ä7];rfl
    ·have hp:(((x::r).eraseIdx j)++(found++[(x::r)[j]])).Perm ((x::r)++found):=by
      have h1:((x::r)[j]::(x::r).eraseIdx j).Perm (x::r):=l10 _ _ hj;have h2:(((x::r).eraseIdx j)++(found++[(x::r)[j]])).Perm ((x::r)[j]::((x::r).eraseIdx j++found)):=by
       rw[← É7];exact List.perm_append_singleton _ _
      exact h2.trans (h1.append_right found)
     exact hp.nodup_iff.mpr nd
    ·intro y hy;refine hm y ?_;simp only[Â7,è] at hy ⊢;rcases hy with hy | hy | hy
     ·exact .inl (List.mem_of_mem_eraseIdx hy)
     ·exact .inr hy
     ·exact .inl (by rw[hy];exact Æ4 hj)
    ·rw[Ï4 hj,À5];simp only[Û,Â1] at hl ⊢;omega
 ·rintro ρ z1 ⟨hz1,nm,rfl,hl,nd,hm⟩;exact E11 k g hp hl nd hm hz1 λz qs l hz hq hl=>⟨hz,qs,l,rfl,hq,hl⟩
theorem V51{p:Pat}{s:S}{ρ ρ':Env}{P:Env->Prop}(hk:C70 s=true)(hb:C80 p s ρ=some ρ')(q:P ρ'):Get (one [s]) λs=>Get (C80 p s (i30 s ρ)) P:=by
 show Get (C80 p s (i30 s ρ)) P;rw[g51 hk];exact a00 hb q
abbrev lE(ns:List Int)(j:Nat)(m:Int)(ps:List (Int × Int))(pl:List Nat)(o5 o6 o7 o8 o9 o10 o11 o12 o13 o14 o15 o16 o17:Option S):Env:=[some (.d (.lst (ns.map D.int))),some (.d (.int j)),some .z,some (.d (j20 m ps)),some (.d (.tup (pl.map a40))),o5,o6,o7,o8,o9,o10,o11,o12,o13,o14,o15,o16,o17]
inductive LA (ns:List Int):Env->Prop
 |mk {o1 o2 o3 o4 o5 o6 o7 o8 o9 o10 o11 o12 o13 o14 o15 o16 o17:Option S}:LA ns [some (.d (.lst (ns.map D.int))),o1,o2,o3,o4,o5,o6,o7,o8,o9,o10,o11,o12,o13,o14,o15,o16,o17]
inductive LF (ns:List Int) (j:Nat) (m:Int) (ps:List (Int × Int)) (pl:List Nat) (l:List D):Env->Prop
 |mk {o6 o7 o8 o9 o10 o11 o12 o13 o14 o15 o16 o17:Option S}:LF ns j m ps pl l (lE ns j m ps pl (some (.fr l)) o6 o7 o8 o9 o10 o11 o12 o13 o14 o15 o16 o17)
inductive LG (ns:List Int) (j:Nat) (m:Int) (ps:List (Int × Int)) (pl:List Nat) (l:List D) (w y:D):Env->Prop
 |mk {o6 o7 o10 o11 o12 o13 o14 o15 o16 o17:Option S}:LG ns j m ps pl l w y (lE ns j m ps pl (some (.fr l)) o6 o7 (some (.d w)) (some (.d y)) o10 o11 o12 o13 o14 o15 o16 o17)
abbrev bIn(n:Nat):Sm:=match N31 with
 |.seq (.fr _ _ _ b) _=>Nat.rec b (λ_ r=>tl r) n|_=>.nil
abbrev cF(m:Int)(ps:List (Int × Int))(pl:List Nat):List D:=fl (ps.length + 1) (n21 m ps pl)
theorem P61(k:Nat)(g:d80 m ps)(hp:g00 m pl)(hρ:LF ns j m ps pl (cF m ps pl) ρ)
  (q:∀ ρ,LF ns j m ps pl (cF m ps pl) ρ->WS (O20 T (k + 37 + 2)) true (bIn 5) ρ z Q E):WS (O20 T (k + 37 + 2)) true (bIn 4) ρ z Q E:=by
 have h8:=g.len;cases hρ;refine G50 (λxs ρ z2=>z2=z/\LF ns j m ps pl (cF m ps pl) ρ) _ ⟨rfl,.mk⟩ ?_ ?_
 ·rintro x r ρ z2 ⟨rfl,@⟨o6,o7,o8,o9,o10,o11,o12,o13,o14,o15,o16,o17⟩⟩;refine(l81 (.fr (cF m ps pl)) (lE ns j m ps pl (some (.fr (cF m ps pl))) (some (.d x)) (some (.fr (cF m ps pl))) o8 o9 o10 o11 o12 o13 o14 o15 o16 o17) ?_ ?_ ?_ :)
  ·exact Wo (F10 (k + 29) g hp z2) ⟨rfl,rfl⟩
  ·rw[g51 (show C70 (.fr (cF m ps pl))=true from U80 _ _)];rfl
  ·refine Wo (h02 (k + 35) (ps.length + 1) ∅ (n21 m ps pl) z2) ?_
   refine ip ⟨rfl,by rw[C51];exact Ë1 (show _<=9 by omega) (-0)⟩ ?_
   exact⟨rfl,.mk⟩
 ·rintro ρ z2 ⟨rfl,h⟩;exact q ρ h
abbrev wpD(m:Int)(ps:List (Int × Int))(pl:List Nat):D:=.tup [j20 m ps,.tup (pl.map a40)]
theorem i51(m:Int)(ps:List (Int × Int)):bare (j20 m ps)=true:=by
 show(true&&(k40 (ps.map pr)&&true))=true;rw[N10];rfl
theorem O10(m:Int)(ps:List (Int × Int))(pl:List Nat):bare (wpD m ps pl)=true:=by
 show(bare (j20 m ps)&&(k40 (pl.map a40)&&true))=true;rw[i51,q50];rfl
theorem m81(k:Nat)(g:d80 m ps)(hp:g00 m pl)(hz:ZI z)(g1:d80 m1 q1)(h1:g00 m1 l1)(g2:d80 m2 q2)
  (q:∀ (z:Z) (ρ:Env),ZI z->LG ns j m ps pl (cF m ps pl) (j20 m1 q1) (.tup (l1.map a40)) ρ->WS (O20 T (k + 37 + 2)) true (bIn 8) ρ z Q E) :
  WS (O20 T (k + 37 + 2)) true (bIn 7) (lE ns j m ps pl (some (.fr (cF m ps pl))) o6 o7 (some (.d (j20 m1 q1))) (some (.d (.tup (l1.map a40)))) (some (.d (j20 m2 q2))) o11 o12 o13 o14 o15 o16 o17) z Q E:=by
 refine(y30 (k + 35) (t:=.tup (q2.map pr)) g2.m1 g2.m6 hz).imp λs z1 ⟨hz1,l2,e,h2⟩=>?_;subst e;refine G50 (λxs ρ z2=>z2=z1/\(∀ x∈xs,∃ m' qs l,x=wpD m' qs l/\d80 m' qs/\g00 m' l)/\LG ns j m ps pl (cF m ps pl) (j20 m1 q1) (.tup (l1.map a40)) ρ) _ ⟨rfl,λx hx=>?_,?_⟩ ?_ ?_
 ·have hx:x∈[wpD m1 q1 l1,wpD m2 q2 l2,wpD m ps pl]:=hx;simp only[Ã1,À6,or_false] at hx;rcases hx with rfl | rfl | rfl
  ·exact⟨_,_,_,rfl,g1,h1⟩
  ·exact⟨_,_,_,rfl,g2,h2⟩
  ·exact⟨_,_,_,rfl,g,hp⟩
 ·rw[itE (l:=[.fr [wpD m1 q1 l1,wpD m2 q2 l2,wpD m ps pl]]) (by show((bare (wpD m1 q1 l1)&&(bare (wpD m2 q2 l2)&&(bare (wpD m ps pl)&&true)))&&true)=true;rw[O10,O10,O10];rfl)]
  exact .mk
 ·rintro x r ρ z2 ⟨rfl,hx,⟨⟩⟩;obtain⟨m',qs,l,rfl,g',h'⟩:=hx x Ì;refine Wo (u90 (k + 34) g' h' z2) ?_;refine(a00 (y32 _ _ _ _) ?_ :);have c1:=V80 (k + 28) g hp g' h' z2;rw[m71] at c1;refine Wo c1 (Wo (C71 0 (k + 36) (.bl _) z2 rfl) ?_);exact⟨rfl,λx hx'=>hx x (Ê _ hx'),.mk⟩
 ·rintro ρ z2 ⟨rfl,_,h⟩;exact q _ ρ hz1 h
theorem P71(k:Nat)(g:d80 m ps)(g1:d80 m1 q1)(h1:g00 m1 l1)(hw:l91 bw=false)(hx:P01 x=true)
  (q:∀ (z:Z) (ρ:Env),LA ns ρ->Q (.nx ρ) z) :
  WS (O20 T (k + 37 + 2)) true (bIn 9) (lE ns j m ps pl o5 o6 o7 (some (.d (j20 m1 q1))) (some (.d (.tup (l1.map a40)))) o10 o11 o12 o13 (some (.d bw)) (some (.d x)) o16 o17) z Q E:=by
 have hs:=m61 hx;refine y22 (cs:=[0,0,0]) (by show 16 < 18;decide) (q60 (ss:=[.d bw,.d x]) rfl (We (O61 (k + 27) hw z) ⟨rfl,rfl⟩) (-0) (q60 (ss:=[.d (j20 m1 q1),.d bw,.d x]) rfl (We (h32 (k + 26) hw z) ⟨rfl,rfl⟩) (-0) (q60 (ss:=[.d (j20 m ps),.d bw,.d x]) rfl (We (P41 (k + 26) g hw z) ⟨rfl,rfl⟩) (-0) rfl))) ⟨rfl,rfl⟩ ?_
 obtain⟨b,hb,b0,b1⟩:=P21 (k + 35) g.m6 hx z;have bad:B71 m x=false->∀ ρ:Env,K31 ρ [3,15]=some [.d (j20 m ps),.d x]->K31 ρ [3,8,9,15]=some [.d (j20 m ps),.d (j20 m1 q1),.d (.tup (l1.map a40)),.d x]->o40 (O20 T (k + 37 + 2)) ρ [([3,15],.call h70 (c2 v0 v1)),([3,8,9,15],.call c70 (c4 v0 v3 v1 v2)),([3,8,9,15],.call c70 (c4 v1 v2 v0 v3))] z=some ([2,2,2],z):=λhpl ρ c1 c2 =>
  q60 c1 (We (O51 (k + 27) g hpl hs z) ⟨rfl,rfl⟩) (-0) (q60 c2 (We (h42 (k + 26) g g1 hpl hs z) ⟨rfl,rfl⟩) (-0) (q60 c2 (We (P51 (k + 26) g1 h1 g hpl hs z) ⟨rfl,rfl⟩) (-0) rfl))
 cases b with
 |false =>
  refine D81 true (by show 16 < 18;decide) (by show 17 < 18;decide) (Wo hb ⟨rfl,rfl⟩) (λ_=>⟨[2,2,2],bad (b0 rfl) _ rfl rfl,rfl,rfl⟩) ?_
  exact q _ _ .mk
 |true =>
  obtain⟨l,rfl⟩:=b1 rfl;have eq:s90 .eq (.tup l) (.tup [])=some l.isEmpty:=by
   show eqQ (.tup l) (.tup [])=_;unfold eqQ;split
   ·cases l <;> rfl
   ·rfl
  refine D81 l.isEmpty (by show 16 < 18;decide) (by show 17 < 18;decide) (Wo hb ?_) (λh=>⟨[2,2,2],bad (by cases l with | nil=>rfl | cons _ _=>cases h) _ rfl rfl,rfl,rfl⟩) ?_
  ·refine(a00 eq ?_ :);exact⟨rfl,rfl⟩
  ·exact q _ _ .mk
end
abbrev A02(L:Int):Int:=if (if (4:Int) < L then 4 else L) > 1 then(if (4:Int) < L then 4 else L) else 1
theorem y52(k:Nat)(ns:List Int):b90 T (k + 40) w52 [.d (.lst (ns.map D.int))] none=some (.ok (.d (.bl true)) none):=by
 refine W.ok (j40 (k:=k + 37) (ps:=1) (ns:=18) (b:=N31) rfl rfl (-0) ?_)
 have hN:0<=A02 ((ns.map D.int).length:Int)/\A02 ((ns.map D.int).length:Int) < 100000:=by
  unfold A02;split <;> (try split) <;> omega
 refine(a00 (M80 (m:=A02 ((ns.map D.int).length:Int)) hN.1 hN.2) ?_ :);refine G50 (λxs ρ z=>(∀ x∈xs,∃ j:Nat,x=.int j)/\LA ns ρ) _ ⟨λx hx=>?_,.mk⟩ ?_ ?_
 ·obtain⟨i,_,rfl⟩:=Ù.mp hx;exact⟨i,rfl⟩
 ·rintro x r ρ z1 ⟨hx,⟨⟩⟩;obtain⟨j,rfl⟩:=hx x Ì;obtain⟨sn,sb,hz1,hst⟩:=N51 (k + 35) ns j z1;refine Wo hst ?_;refine(f20 (k + 36) 3 hz1 (-0) (-0)).imp λs z2 ⟨hz2,v,e,v1⟩=>?_
  subst e;obtain⟨y,ey,hy⟩:=a61 (L:=[D.int 8,.int 6,.int 7]) (n:=v) (btw 0 8) (by simp only[Û,Â1];omega) (-0)
  obtain⟨mo,rfl,mo0,mo8⟩:=U11 hy;refine(a00 (B11 ey) ?_ :);refine(U30 (k + 34) hz2 mo0 mo8).imp λs z3 ⟨hz3,m,ps,e,g,_⟩=>?_;subst e;refine(y30 (k + 35) (t:=.tup (ps.map pr)) g.m1 g.m6 hz3).imp λs z5 ⟨hz5,pl,e,hp⟩=>?_;subst e;refine Wo (u90 (k + 34) g hp z5) ?_;refine(P61 k g hp .mk λρ hρ=>?_ :);obtain @⟨o6,o7,o8,o9,o10,o11,o12,o13,o14,o15,o16,o17⟩:=hρ;refine(b81 (k + 35) g hp hz5).imp λs z6 ⟨hz6,q1,l1,e,g1,h1⟩=>?_;subst e;refine(V51 (ρ':=lE ns j m ps pl (some (.fr (cF m ps pl))) o6 o7 (some (.d (j20 m q1))) (some (.d (.tup (l1.map a40)))) o10 o11 o12 o13 o14 o15 o16 o17) (show C70 (.d (wpD m q1 l1))=true from O10 _ _ _) ?_ ?_ :)
  ·rfl
  refine(U30 (k + 34) hz6 (-0) (show(5:Int)<=8 by decide)).imp λs z7 ⟨hz7,m2,q2,e,g2,_⟩=>?_
  subst e;refine(V51 (ρ':=lE ns j m ps pl (some (.fr (cF m ps pl))) o6 o7 (some (.d (j20 m q1))) (some (.d (.tup (l1.map a40)))) (some (.d (j20 m2 q2))) o11 o12 o13 o14 o15 o16 o17) (show C70 (.d (j20 m2 q2))=true from i51 _ _) ?_ ?_ :)
  ·rfl
  refine(m81 k g hp hz7 g1 h1 g2 λz8 ρ hz8 hρ=>?_ :);cases hρ;refine(B61 (k + 35) hz8).imp λs z9 ⟨hz9,bw,e,hbw⟩=>?_;subst e;refine(O00 (k + 35) g.m1 g.m6 (hp.len g.m6) hz9).imp λs z10 ⟨hz10,x,e,hox⟩=>?_;subst e;exact P71 k g g1 h1 hbw hox λ_ _ h=>⟨λx hx'=>hx x (Ê _ hx'),h⟩
 ·rintro ρ z1 ⟨_,⟨⟩⟩;exact⟨rfl,rfl⟩
theorem pure:∀ ns:List Int,ns.length<=63->b90 (tabOf rows) 40 w52 [.d (.lst (ns.map D.int))] none=some (.ok (.d (.bl true)) none):=λns _=>by
 rw[W42];exact y52 0 ns
end K3
namespace K3
open PySem L2 Q
theorem ok:rows.all (i22 (G40 rows) nums)=true:=by decide +kernel
theorem bd:o80 rows:=⟨λ_ _ _ _ _ _ us hl=>by obtain⟨_,rfl⟩:=us1 hl;rfl,
 λ_ _ _ _ _ _ us hl=>by obtain⟨_,_,rfl⟩:=us2 hl;rfl,
 λ_ _ _ _ _ _ us hl=>by obtain⟨_,_,rfl⟩:=us2 hl;rfl,
 λ_ _ _ _ _ _ us hl=>by obtain⟨_,_,rfl⟩:=us2 hl;rfl,
 λ_ _ _ _ _ _ us hl=>by obtain⟨_,rfl⟩:=us1 hl;rfl,
 λ_ _ _ _ _ _ us hl=>by obtain⟨_,rfl⟩:=us1 hl;rfl,
 λ_ _ _ _ _ _ us hl=>by obtain⟨_,_,rfl⟩:=us2 hl;rfl,
 λ_ _ _ _ _ _ us hl=>by obtain⟨_,rfl⟩:=us1 hl;rfl,
 λ_ _ _ _ _ _ us hl=>by obtain⟨_,_,rfl⟩:=us2 hl;rfl,
 λ_ _ _ _ _ _ us hl=>by obtain⟨_,_,rfl⟩:=us2 hl;rfl,
 λ_ _ _ _ _ _ us hl=>by obtain⟨_,_,_,rfl⟩:=us3 hl;rfl,
 λ_ _ _ _ _ _ us hl=>by obtain⟨_,rfl⟩:=us1 hl;rfl,
 λ_ _ _ _ _ _ us hl=>by obtain⟨_,_,rfl⟩:=us2 hl;rfl,
 λ_ _ _ _ _ _ us hl=>by obtain⟨_,_,rfl⟩:=us2 hl;rfl,
 λ_ _ _ _ _ _ us hl=>by obtain⟨_,_,_,_,rfl⟩:=us4 hl;rfl,
 λ_ _ _ _ _ _ us hl=>by obtain⟨_,_,_,_,rfl⟩:=us4 hl;rfl,
 λ_ _ _ _ _ _ us hl=>by obtain⟨_,_,rfl⟩:=us2 hl;rfl,
 λ_ _ _ _ _ _ us hl=>by obtain⟨_,_,rfl⟩:=us2 hl;rfl,
 λ_ _ _ _ _ _ us hl=>by obtain⟨_,_,rfl⟩:=us2 hl;rfl,
 λ_ _ _ _ _ _ us hl=>by obtain⟨_,_,rfl⟩:=us2 hl;rfl,
 λ_ _ _ _ _ _ us hl=>by obtain⟨_,_,rfl⟩:=us2 hl;rfl,
 λ_ _ _ _ _ _ us hl=>by obtain⟨_,_,_,rfl⟩:=us3 hl;rfl,
 λ_ _ _ _ _ _ us hl=>by obtain⟨_,_,_,rfl⟩:=us3 hl;rfl,
 λ_ _ _ _ _ _ us hl=>by obtain⟨_,rfl⟩:=us1 hl;rfl,
 λ_ _ _ _ _ _ us hl=>by obtain⟨_,rfl⟩:=us1 hl;rfl,
 λ_ _ _ _ _ _ us hl=>by obtain⟨_,_,rfl⟩:=us2 hl;rfl,
 λ_ _ _ _ _ _ us hl=>by obtain⟨_,_,_,rfl⟩:=us3 hl;rfl,
 λ_ _ _ _ _ _ us hl=>by obtain⟨_,rfl⟩:=us1 hl;rfl,
 λ_ _ _ _ _ _ us hl=>by obtain⟨_,_,rfl⟩:=us2 hl;rfl,
 λ_ _ _ _ _ _ us hl=>by obtain⟨_,_,rfl⟩:=us2 hl;rfl,
 λ_ _ _ _ _ _ us hl=>by obtain⟨_,_,_,rfl⟩:=us3 hl;rfl,
 λ_ _ _ _ _ _ us hl=>by obtain⟨_,rfl⟩:=us1 hl;rfl,trivial⟩
theorem hR:v42 rows ["law"] [("_law_refused",top 49)]:=λr hr hlm=>by
 have h:=Ú.mp (show rows.all (λr=>!r.lm || (["law"]:List Str).contains r.nm)=true from by decide +kernel) r hr
 rw[hlm] at h;exact⟨Ì8.mp h,top 49,182,.head _,rfl,rfl,λ_ _ _ _ _ _ us hl=>by obtain⟨_,rfl⟩:=us1 hl;rfl⟩
def asks:n60:=H50 rows nums ["law"] [("_law_refused",top 49)]
def prg:Program:=ú
def vq:Program:=view prg [52]
def loose:List Str:=prg.boundNames.filter λx=>!(x == ("law":Str))
def runL(w:ê)(os:OsState):=(E20 PySem.W.through (PySem.W.stepOk 11 (some (.ref 6))) (PySem.W.stepT (denote treeTable) prg w) 20000 (f22 w os) (PySem.W.topStub prg)).map (λs =>
   (PySem.W.staticsOk (Ï7 prg.main.body) (PySem.W.boot_heap w.params) s.abs.heap&&PySem.W.namesBound prg s.abs.heap&&PySem.W.gensDone s.abs&&PySem.W.laidKept (PySem.W.boot_heap w.params) s.abs.heap,
    PySem.W.openSeen vq loose (Ï7 prg.main.body) (λ_=>true) true s.abs,asks.obs s.abs))
def runR(w:ê):=some (true,PySem.W.openGood vq loose,asks.due w)
def _root_.PySem.W.Fast.tw6959378816049247320:PySem.Program:=ú
theorem _root_.PySem.W.Fast.te6959378816049247320:ú=PySem.W.Fast.tw6959378816049247320:=rfl
theorem twins:(λ(_:runL=runL/\runR=runR)=>true) ⟨rfl,rfl⟩=true:=by k_qdec
theorem run_eq:∀ (w:ê) (os:OsState),PySem.W.Fast.tw14075725262101462980 w os=PySem.W.Fast.tw18139657281711212703 w:=λw os=>by kernel_rfl
theorem left:PySem.W.LeftO ú vq loose (λ_=>true) asks.hook.obs asks.hook.val 20000:=f32 (by kernel_rfl) rfl (λ_=>by kernel_rfl) λw os =>
 (congrFun (congrFun PySem.W.Fast.te14075725262101462980 w) os).trans ((run_eq w os).trans (congrFun PySem.W.Fast.te18139657281711212703 w).symm)
end K3
open PySem PySem.W PyProof.Rows
set_option maxRecDepth 100000 in
set_option maxHeartbeats 0 in
theorem PySem.Challenge.cw_tiechances_k80_counts_and_likes_holds : PySem.Challenge.rw_tiechances_k80_counts_and_likes.Holds := by
 w_on;o_law
 refine holds_open (q:=K3.vq) (loose:=K3.loose) (Xt:=λ_=>true) (XP:=λ_ _=>True) (Yf:=K3.asks.hook.obs) (Ya:=K3.asks.hook.val) (YP:=K3.asks.hook.says) K3.left K3.asks.hook.of K3.asks.hook.keeps (λ_ _=>trivial) (λ_ _ _ _ _=>trivial) (by rfl) (by rfl) (by rfl) (λs _=>recFacts_of rfl) rfl (by first | assumption | decide +kernel) (by decide +kernel) ⟨rfl,rfl,rfl,rfl,rfl,by decide +kernel⟩ ?hw ?hc
 case hw=>w_witness2
 case hc=>exact Q.N21 (l:=PySem.Challenge.rw_tiechances_k80_counts_and_likes) (n:=63) (k:=40) (x:="_law_script") rfl (-0) rfl ⟨rfl,by decide,by decide⟩ (Q.f72 (k:=37) (iL:=31) K3.ok K3.bd rfl rfl rfl (-0) K3.hR K3.pure)